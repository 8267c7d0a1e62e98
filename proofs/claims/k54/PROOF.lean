import PyProof.Rows.All
import Wide.All
import OpenK.AllK
import Wide.FinOn
import PyProof.EqAt
import PyProof.EqKinds
import PyProof.NeKinds
import PyProof.TupleCall
import PyProof.StrWalks
import PyProof.EnumMake
import PyProof.WalksEnum
import PyProof.ZipIter
import PyProof.Rows.ZipGen
import PyProof.Rows.SortWalk
import KE.KSortedM
import PyProof.StrLawsIdx
import PyProof.StrLawsNeg
import PyProof.ExcInit
import PyProof.InstStoreFacts
import PyProof.AttrMissHeap
import PyProof.FactsAll.enumerate
import PyProof.FactsAll.dict_1
import KE.KDictOf
import KE.KItemsList
import PyProof.ReprRoads
import KE.LcSums
import PyProof.FitsInt
import PySem.Challenge.RW_farthestcut_k54_loads_and_claims
open PySem renaming Value->P2,wpAny_bind->P8,Addr->P9,starEach->Qb,Shared->Qj,Heap->Qr,mainGlobals->Qt,Str->Qu,model->QB,wpAny->QC,wpAny_pure->QH,Expr->QX,Around->Q0,compareOp->Q5,Program->Ra,PyData->Rb,backTo->Rg,wpAny_mono->Ri,swapsWith->Rq,World->Rr,Env->Rv,FuncData->Rx,wpAny_holding->Ry,wpAny_truthy_bool->Rz,NameKind->RC,Stmt->RH,wpAny_loadPart_at->RM,mem_of_lookup->RQ,holding->Sa,keywordEach->Sj,codeAny->So,attributeBase->Sz,sysModules->SG,ofString_length->SX,Keyword->Te,Within->Tj,backToKw->TJ,typeLookup->TM,cLine->TU,ReadsAll->TZ,Scope->T7,DictEntry->U9,intBits_le_iff->Vu,Reads->Vv
open PySem.W renaming Frag->P4,nsIn->Rj,mg_none_of->Ro,kia_one->RG,mg_of->RX,fnOf->Sk,findIn->SA,keepIn->SN,subIn->Ta,emptyDict->TY,Looks->Ug,specialIn->Uw,kitx_dict->Ux,hasDictIn->Uy,codeIn->UI,hideAll->U3,isNs_of_in->Va,excIn->Vb,methodObj->Vr,kitx_list->Vs
open List renaming getElem?_eq_getElem->P5,length_map->P7,getElem?_eq_some_iff->Qa,map_cons->Qf,getElem?_map->Qg,mem_of_getElem?->Qh,mem_cons_of_mem->Qi,getElem?_set_ne->Qm,mem_singleton->Qn,getElem?_append_left->Qo,size_toArray->Qp,mem_cons_self->Qq,mem_cons->Qs,getElem?_append_right->Qw,length_append->Qz,getElem?_replicate->QD,length_cons->QE,all_eq_true->QF,replicate->QG,map_append->QI,range->QL,append_nil->QN,mem_map->QO,sum_cons->QP,mem_append->QQ,mem_append_right->QR,getElem?_set_self->QU,drop_eq_getElem_cons->QZ,length_replicate->Q7,getElem?_cons_succ->Q8,length_take->Rc,Nodup->Rk,mem_append_left->Rl,map_map->RD,filterMap_eq_map'->RE,drop_zero->RK,getElem?_cons_zero->RO,nodup_cons->RP,map_nil->RS,nil_append->RZ,not_mem_nil->R5,length_eq_zero_iff->R6,getElem_mem->R7,cons_append->R8,sum_append->Sf,length_nil->Sg,drop_length->Sr,replicate_zero->Su,replicate_succ->Sv,map_congr_left->Sw,getElem?_range->Sx,filterMap_cons->Sy,zip_cons_cons->SH,set_cons_zero->SI,set_cons_succ->SJ,nodup_append->SU,mem_nil_iff->S8,lookup_cons->S9,all_cons->Tc,Pairwise->Td,pairwise_append->Tg,lookup->Th,nodup_iff_pairwise_ne->Tq,mem_filterMap->Tr,length->Tv,any_cons->Tz,getElem?_set_self'->TK,eraseIdx_cons_succ->TL,take_of_length_le->TQ,length_singleton->TV,length_pos_iff->T4,prefix_append->Ub,length_range->Um,append_assoc->Uo,all_map->Up,eraseIdxIfInBounds_toArray->Uu,of_mem_zip->UD,mem_filter->UE,mem_range->UL,getD_eq_getElem?_getD->UM,getElem?_take_of_lt->UY,filterMap_cons_some->UZ,filterMap_cons_none->U0,eq_of_mem_replicate->U1,pairwise_singleton->U7,Perm->U8,range_succ_eq_map->Vh,dropLast_eq_take->Vo,mem_of_mem_take->VA,drop_succ_cons->VD
open Or renaming inl->Qd,inr->UK
open PySem.Heap renaming get?_push_of_some->Qe,lt_size->Qv,get?_push_size->Q9,get?_update_other->RF,get?_update_self->RI,FlyingW->Sb,get?_none_of_le->Ti,SameBut->Us,MadeExcOf->UO,NotedW->VB,get?_update_ne->VE
open Nat renaming lt_of_lt_of_le->Qk,le_refl->Ql,le_trans->QM,ne_of_lt->QW,lt_of_le_of_lt->RW,zero_le->R0,pow_le_pow_right->R4,lt_irrefl->Si,lt_succ_self->Sq,zero_add->SR,add_zero->SS,mul_le_mul_right->Tf,sub_zero->To,pow_add->T1,lt_trans->Uk,le_of_lt->Ul,not_lt_zero->UC,succ_mul->Vf,pow_succ->Vg,succ->Vw,repr->Vx,mul_add->Vy,log2_lt->Vz
open PySem.SeqAt renaming RcNeAt->Qx,EqAt->Qy,RcAt->QJ,ne_of_list_tuple->Vc
open Bool renaming and_eq_true->QK,false_ne_true->Ru,false_and->Sm,not_false->Ts,true_and->TC,not_true->TF,and_self->TH,and_eq_false_iff->TX,or_eq_true->UG,and_false->UR
open PySem.PassesOwn renaming never->QT
open Int renaming gcd->QY,eq_ofNat_of_zero_le->Q3,fmod_eq_emod_of_nonneg->Rm,mul_pos->RL,fmod_nonneg_of_pos->SV,toNat_natCast->Tw,mul_nonneg->T2,fmod_lt_of_pos->Uc,emod_eq_of_lt->Ur,gcd_dvd_left->Uv,dvd_gcd_mul_iff_dvd_mul->UH,natAbs_neg->UN,natAbs_ediv_le_natAbs->US,mul_ediv_cancel_left->U2,gcd_comm->Vi
open Option renaming some->Q1,map_some->Se,isSome_iff_exists->Tx,none->Uz,bind_eq_some_iff->U6
open Ne renaming symm->Q2
open Option.some renaming inj->Q4,injEq->RN
open PySem.Value renaming ref->Q6,none->RA,bool->RB,str->RU,int->RV,builtin->T6
open Rat renaming intCast_mul->Rh,div_def->Tu,add_zero->Ui,intCast_lt_intCast->Vd
open False renaming elim->Rn
open PySem.NameKind renaming free->RT
open PySem.PyData renaming shownAll->RY,showable->Sd,shown->SO,depth->SQ,depthAll->UB
open PySem.Builtin.Str renaming occurrences->R9
open PySem.Builtin renaming divisionGoesByPylong->Sh
open Array renaming getElem?_eq_some_iff->Sn,length_toList->T5,append_assoc->Ue,getElem?_toList->Vq,mem_toList_iff->VC
open PySem.Builtin.Slice renaming slicePlaces->Ss,sliceAdjust->Tt,sliceApplied->UQ
open PySem.Builtin.Tuple renaming tupleExact->SD
open ForInStep renaming yield->SE
open PySem.F renaming plainAttrs_list->SK,excBase_ValueError->Tp,type_list_append->UU,slot_list_append->UW,args_tuple_add_2->UX,entry_tuple_add->U5,slot_tuple_add->Ve,type_list_pop->Vl,slot_list_pop->Vm,typeOf_object_class->Vp
open PyProof.Rows renaming slot_tuple_getitem->SW,callWith_type1->Tn
open True renaming intro->SY
open Sum renaming inr->Tb,inl->TN
open PySem.Calls renaming callWith_builtin->TR,evalArgs_plain->T3,Name_function_global->UP
open PySem.SeqAt.EqAt renaming of_refs->T8,same->UA
open PySem.Obj renaming mapSeq->T9,data_mapFields->Ua,isFreed_of_fields->Vn
open PySem.Code renaming quiet_builtin->Ud,isFrame->Vk
open PySem.Txt renaming slice_le->Uh,join->UJ,slice->U4
open Nat.succ renaming inj->Uj
open List.Pairwise renaming nil->Uq
open PySem.Around renaming under->Ut
open PySem.SeqAt.RcAt renaming lists_lengths->UT
open Iff renaming rfl->Vj
open String renaming length_append->Vt
open PySem.EntryCells renaming newEntry->VF
set_option compiler.extract_closed false
set_option bootstrap.genMatcherCode false
set_option autoImplicit true
set_option Elab.async false
set_option linter.all false
set_option maxRecDepth 100000
set_option maxHeartbeats 4000000
noncomputable section
abbrev al:=List Qu
abbrev am:=List Nat
namespace L2
open PySem PySem.Spec PyProof.Rows
noncomputable abbrev tW:=Sum Int Qu
noncomputable def EG:tW->P2->Bool
 |.inl k,v=>Value.isInt k v
 |.inr x,v=>Value.isStrOf x v
noncomputable def Ot(w:Rr):tW->Int
 |.inl k=>hashInt k
 |.inr x=>hashStr w x
theorem cE:∀{k:tW}{v:P2},EG k v=true->(∃i t,k=TN i/\v=RV i t)∨(∃x t,k=Tb x/\v=RU x t)
 |.inl i,v,h=>by
  obtain⟨t,e⟩:=Value.isInt_shape (k:=i) (v:=v) h;exact .inl ⟨i,t,rfl,e⟩
 |.inr x,v,h=>by
  obtain⟨t,e⟩:=Value.isStrOf_shape (x:=x) (v:=v) h;exact .inr ⟨x,t,rfl,e⟩
def Kr(a b:Int):decide ((TN a:tW)=TN b)=(a==b):=by
 by_cases e:a=b
 .subst e;simp
 .have h:¬(TN a:tW)=TN b:=λq=>e (TN.inj q)
  rw[decide_eq_false h];exact(beq_eq_false_iff_ne.mpr e).symm
def Ko(a b:Qu):decide ((Tb a:tW)=Tb b)=decide (a=b):=by
 by_cases e:a=b
 .subst e;simp
 .have h:¬(Tb a:tW)=Tb b:=λq=>e (Tb.inj q)
  rw[decide_eq_false h,decide_eq_false e]
def Kq(a:Int)(b:Qu):decide ((TN a:tW)=Tb b)=false:=decide_eq_false (λq=>nomatch q)
def Kp(a:Qu)(b:Int):decide ((Tb a:tW)=TN b)=false:=decide_eq_false (λq=>nomatch q)
noncomputable def vP(prog:Ra) (w:Rr):PySem.KeyKind prog w tW where
 is:=EG
 hash:=Ot w
 inj:=λv a b ha hb=>by
  rcases cE ha with⟨i,t,rfl,rfl⟩|⟨x,t,rfl,rfl⟩
  .rcases cE hb with⟨j,u,rfl,e⟩|⟨y,u,rfl,e⟩
   .injection e with e1 _;rw[e1]
   .exact nomatch e
  .rcases cE hb with⟨j,u,rfl,e⟩|⟨y,u,rfl,e⟩
   .exact nomatch e
   .injection e with e1 _;rw[e1]
 byValue:=λk v h=>by
  rcases cE h with⟨i,t,rfl,rfl⟩|⟨x,t,rfl,rfl⟩<;>rfl
 pyHash:=λhv h=>by
  rcases cE hv with⟨i,t,rfl,rfl⟩|⟨x,t,rfl,rfl⟩
  .exact wpAny_pyHash_int h
  .exact wpAny_pyHash_str h
 eqBool:=λhu hv h=>by
  rcases cE hu with⟨i,t,rfl,rfl⟩|⟨x,t,rfl,rfl⟩
  .rcases cE hv with⟨j,u,rfl,rfl⟩|⟨y,u,rfl,rfl⟩
   .rw[Kr]at h;exact wpAny_eqBool_int h
   .rw[Kq]at h;exact Qy.int_str i t y u _ _ _ _ h
  .rcases cE hv with⟨j,u,rfl,rfl⟩|⟨y,u,rfl,rfl⟩
   .rw[Kp]at h;exact Qy.str_int x t j u _ _ _ _ h
   .rw[Ko]at h;exact wpAny_eqBool_str h
 «strs»:=λk x t v h=>by
  rcases cE h with⟨i,u,rfl,e⟩|⟨y,u,rfl,e⟩
  .exact nomatch e
  .injection e with e1 _
   subst e1;cases v<;>rfl
inductive V where
 |non|bl (b:Bool)|int (i:Int)|str (x:Qu)|byt (b:Array UInt8)|flt (b:UInt64)|ref (a:P9)|ty (n:String)
 deriving DecidableEq
abbrev ad:=List V
noncomputable def bX:V->P2->Prop
 |.non,u=>u=RA
 |.bl b,u=>u=RB b
 |.int i,u=>∃t,u=RV i t
 |.str x,u=>∃t,u=RU x t
 |.byt b,u=>∃t,u=Value.bytes b t
 |.flt b,u=>∃t,u=Value.float b t
 |.ref a,u=>u=Q6 a
 |.ty n,u=>u=Value.type n
noncomputable abbrev bA:ad->List P2->Prop:=Paired bX
def bA.length(r:bA xs us):xs.length=us.length:=Paired.length r
theorem bA.get:∀{xs:ad}{us:List P2}{i:Nat}{x:V},bA xs us->xs[i]?=some x->∃u,us[i]?=some u/\bX x u
 |_,_,_,_,.nil,e=>by simp at e
 |_,_,0,_,.cons r _,e=>by simp at e;subst e;exact⟨_,rfl,r⟩
 |_,_,i+1,x,.cons _ t,e=>by
  obtain⟨u,h1,h2⟩:=bA.get (i:=i) (x:=x) t (by simpa using e);exact⟨u,by simpa using h1,h2⟩
theorem bA.set(r:bX x u):∀{xs:ad}{us:List P2}(i:Nat),bA xs us->bA (xs.set i x) (us.set i u)
 |_,_,_,.nil=>.nil
 |_,_,0,.cons _ t=>.cons r t
 |_,_,i+1,.cons q t=>.cons q (bA.set r i t)
theorem bA.append:∀{xs ys:ad}{us ws:List P2},bA xs us->bA ys ws->bA (xs++ys) (us++ws)
 |_,_,_,_,.nil,s=>s
 |_,_,_,_,.cons r t,s=>.cons r (bA.append t s)
theorem bA.take:∀{xs:ad}{us:List P2}(n:Nat),bA xs us->bA (xs.take n) (us.take n)
 |_,_,0,_=>.nil
 |_,_,_+1,.nil=>.nil
 |_,_,n+1,.cons r t=>.cons r (bA.take n t)
theorem bA.drop:∀{xs:ad}{us:List P2}(n:Nat),bA xs us->bA (xs.drop n) (us.drop n)
 |_,_,0,r=>r
 |_,_,_+1,.nil=>.nil
 |_,_,n+1,.cons _ t=>bA.drop n t
noncomputable def FN:Option V->Option P2->Prop
 |some v,some u=>bX v u
 |none,none=>True
 |_,_=>False
noncomputable def KV{κ:Type}:List (κ×V)->List (κ×P2)->Prop:=Paired λ(p:κ×V) (q:κ×P2)=>p.1=q.1/\bX p.2 q.2
noncomputable def kV:tW->V
 |.inl i=>.int i
 |.inr x=>.str x
inductive HO where
 |lst (xs:ad)
 |tup (xs:ad)
 |dK (kvs:List (tW×V))|dT (kvs:List (List tW×V))
 |set (S:Int->Bool) (n:Nat)
 |ins (C dx:P9) (fs:List (Qu×V))
 |own (x:P9)
 |xd (fs:List (Qu×V))
 |met (f x:P9)
 |rng (lo hi:Int)
 |frz (o:Obj) (u:HO)
 |tbl (ps:Array P2)
 |ext (φ:Qr->Prop)
noncomputable abbrev Hp:=P9->Option HO
noncomputable def upd(H:Hp) (a:P9) (o:HO):Hp:=λb=>if b=a then some o else H b
def aF:upd H a o a=some o:=by unfold upd;rw[if_pos rfl]
def az{a b:P9}(h:b≠a):upd H a o b=H b:=by unfold upd;rw[if_neg h]
def bh{H:Hp}{a b:P9}(h:H a=some o)(h':H b=none):a≠b:=by
 intro e;subst e;rw[h]at h';cases h'
section
variable (P:Ra) (w:Rr)
noncomputable def cP(H:Hp) (h:Qr) (a:P9):HO->Prop
 |.lst xs=>xs.length<=sizeLine/\∃(its:List P2) (n:Nat),bA xs its/\h.get? a=some { cls:=.type "list",data:=.seq its.toArray n }
 |.tup xs=>xs.length<=sizeLine/\∃its:List P2,bA xs its/\IsTup h a its.toArray
 |.dK kvs=>kvs.length<=sizeLine/\(a==SG)=false/\∃vs,KV kvs vs/\h.DictOf (vP P w) a vs
 |.dT kvs=>kvs.length<=sizeLine/\(a==SG)=false/\∃xs:List (List tW×P9×P2),
   Paired (λ(p:List tW×V) (q:List tW×P9×P2)=>p.1=q.1/\H q.2.1=some (.tup (p.1.map kV))/\bX p.2 q.2.2) kvs xs /\
   ∃o es ep,h.get? a=some o/\o.ExactDict/\o.data=.dict es ep/\es.toList=xs.map (entryOfKey (tupleKind (vP P w)))/\(xs.map (·.1)).Nodup
 |.set S n=>h.SetOf (intKind P w) a S n
 |.ins C dx fs=>H dx=some (.own a)/\fs.length<=1000/\dx≠a/\h.get? a=some (W.instObj C dx) /\
   ∃mA,h.Ns1 dx mA/\(∀f,FN (fs.lookup f) (mA f))/\Tj mA (fs.map (·.1))
 |.own _=>∃o,h.get? a=some o
 |.xd fs=>∃mA,h.Ns1 a mA/\∀f,FN (fs.lookup f) (mA f)
 |.rng lo hi=>∃t u v,h.get? a=some { cls:=.type "range",data:=.fields #[.int lo t,.int hi u,.int 1 v] }
 |.frz o u=>h.get? a=some o/\cP H h a u
 |.tbl ps=>h.get? a=some { cls:=.none,data:=.fields ps }
 |.met f x=>h.get? a=some (Vr (.ref f) (.ref x))
 |.ext φ=>φ h/\(∃o,h.get? a=some o)/\∀h1 h2:Qr,φ h1->(∀o,h1.get? a=some o->h2.get? a=some o)->φ h2
noncomputable def g6(H:Hp) (h:Qr):Prop:=∀a o,H a=some o->cP P w H h a o
end
section
variable {P:Ra}{w:Rr}{H H':Hp}{h h':Qr}{a:P9}{o:HO}
def cP.lt(x:cP P w H h a o):a<h.objs.size:=by
 cases o with|lst xs=>obtain⟨_,_,_,_,e⟩:=x;exact Qv e|tup xs=>obtain⟨_,_,_,p⟩:=x;exact p.lt|dK kvs|dT kvs=>obtain⟨_,_,_,_,o,_,_,e,_⟩:=x;exact Qv e|set S n=>obtain⟨o,_,_,_,e,_⟩:=x;exact Qv e|ins C dx fs=>obtain⟨_,_,_,e,_⟩:=x;exact Qv e|own y=>obtain⟨_,e⟩:=x;exact Qv e|xd fs=>obtain⟨_,⟨_,_,_,e,_⟩,_⟩:=x;exact Qv e|rng lo hi=>obtain⟨_,_,_,e⟩:=x;exact Qv e|frz ob u=>obtain⟨e,_⟩:=x;exact Qv e|tbl ps|met f y=>exact Qv (show h.get? a=some _ from x)|ext φ=>obtain⟨_,⟨_,e⟩,_⟩:=x;exact Qv e
theorem o5{α β:Type}{F G:α->β->Prop}:∀{lc:List α}{lf:List β},Paired F lc lf->(∀a b,F a b->G a b)->Paired G lc lf
 |_,_,.nil,_=>.nil
 |_,_,.cons r t,f=>.cons (f _ _ r) (o5 t f)
def cP.stay(x:cP P w H h a o)(k:∀b u,(b=a∨H b=some (.own a))->h.get? b=some u->h'.get? b=some u)
  (ho:∀b,H b=some (.own a)->H' b=some (.own a))(ht:∀b xs,H b=some (.tup xs)->H' b=some (.tup xs)):cP P w H' h' a o:=by
 induction o with
 |lst xs=>obtain⟨z,its,n,r,e⟩:=x;exact⟨z,its,n,r,k _ _ (.inl rfl) e⟩|tup xs=>obtain⟨z,its,r,ob,e,c⟩:=x;exact⟨z,its,r,ob,k _ _ (.inl rfl) e,c⟩|dK kvs=>obtain⟨z,y,vs,r,ob,es,ep,e,c⟩:=x;exact⟨z,y,vs,r,ob,es,ep,k _ _ (.inl rfl) e,c⟩
 |dT kvs=>
  obtain⟨z,y,xs,r,ob,es,ep,e,c⟩:=x;exact⟨z,y,xs,o5 r λp q z=>⟨z.1,ht _ _ z.2.1,z.2.2⟩,ob,es,ep,k _ _ (.inl rfl) e,c⟩
 |set S n=>obtain⟨ob,es,ep,t,e,c⟩:=x;exact⟨ob,es,ep,t,k _ _ (.inl rfl) e,c⟩
 |ins C dx fs=>
  obtain⟨d,z,ne,e,mA,⟨od,es,ep,e2,c⟩,r⟩:=x;exact⟨ho _ d,z,ne,k _ _ (.inl rfl) e,mA,⟨od,es,ep,k _ _ (.inr d) e2,c⟩,r⟩
 |own y=>obtain⟨ob,e⟩:=x;exact⟨ob,k _ _ (.inl rfl) e⟩|xd fs=>obtain⟨mA,⟨od,es,ep,e,c⟩,r⟩:=x;exact⟨mA,⟨od,es,ep,k _ _ (.inl rfl) e,c⟩,r⟩|rng lo hi=>obtain⟨t,u,v,e⟩:=x;exact⟨t,u,v,k _ _ (.inl rfl) e⟩|frz ob u ih=>obtain⟨e,q⟩:=x;exact⟨k _ _ (.inl rfl) e,ih q⟩
 |tbl ps=>
  have e:h.get? a=some { cls:=.none,data:=.fields ps }:=x;show h'.get? a=some { cls:=.none,data:=.fields ps };exact k a _ (.inl rfl) e
 |met f y=>
  have e:h.get? a=some (Vr (.ref f) (.ref y)):=x;show h'.get? a=some (Vr (.ref f) (.ref y));exact k a _ (.inl rfl) e
 |ext φ=>obtain⟨p,⟨o,e⟩,st⟩:=x;exact⟨st _ _ p λo q=>k _ _ (.inl rfl) q,⟨o,k _ _ (.inl rfl) e⟩,st⟩
def g6.lt(x:g6 P w H h)(e:H a=some o):a<h.objs.size:=(x a o e).lt
def g6.fresh(x:g6 P w H h)(e:h.objs.size<=a):H a=none:=by
 cases q:H a with|none=>rfl|some u=>exact absurd (Qk (x.lt q) e) (Si _)
def g6.kept(x:g6 P w H h)(k:∀b u,h.get? b=some u->h'.get? b=some u):g6 P w H h':=λa o e=>
 (x a o e).stay (λb u _ q=>k b u q) (λ_ q=>q) λ_ _ q=>q
def g6.laid(x:g6 P w H h)(k:∀b u,h.get? b=some u->h'.get? b=some u)(hp:h.objs.size<=a)(new:cP P w (upd H a o) h' a o):g6 P w (upd H a o) h':=λb u e=>by
 have hn:=x.fresh hp
 by_cases hb:b=a
 .subst hb;rw[aF]at e;cases e;exact new
 .rw[az hb]at e
  exact(x b u e).stay (λc v _ q=>k c v q) (λc q=>by rw[az (bh q hn)];exact q) λc xs q=>by rw[az (bh q hn)];exact q
end
noncomputable def Rd(H:Hp) (a:P9) (u:HO):Prop:=H a=some u∨∃o,H a=some (.frz o u)
def Rd.ok{h:Qr}(r:Rd H a u)(x:g6 P w H h):cP P w H h a u:=by
 rcases r with r|⟨o,r⟩
 .exact x a u r
 .obtain⟨_,q⟩:=x a _ r
  exact q
noncomputable def LI:Option HO->Prop
 |some (.lst _)=>True
 |some (.dK _)=>True
 |some (.dT _)=>True
 |some (.set _ _)=>True
 |some (.ins _ _ _)=>True
 |some (.ext _)=>True
 |_=>False
section
variable {P:Ra}{w:Rr}{H:Hp}{h h':Qr}{x e:P9}{o':HO}
def g6.write(ok:g6 P w H h)(mu:LI (H x))(he:e=x∨H e=some (.own x))(k:∀b u,b≠e->h.get? b=some u->h'.get? b=some u)(heo:∃u,h'.get? e=some u)
  (new:cP P w (upd H x o') h' x o'):g6 P w (upd H x o') h':=λb u q=>by
 have nown:∀c y,H c=some (.own y)->c≠x:=λc y r z=>by subst z;rw[r]at mu;exact mu
 have ntup:∀c xs,H c=some (.tup xs)->c≠x:=λc xs r z=>by subst z;rw[r]at mu;exact mu
 by_cases hb:b=x
 .subst hb;rw[aF]at q;cases q;exact new
 .rw[az hb]at q
  by_cases hbe:b=e
  .have q':H b=some (.own x):=by
    rcases he with z|z
    .exact absurd (hbe.trans z) hb
    .rw[hbe];exact z
   rw[q]at q';cases q';obtain⟨v,hv⟩:=heo;exact⟨v,by rw[hbe];exact hv⟩
  .refine(ok b u q).stay (λc v hc r=>k c v ?_ r) (λc r=>by rw[az (nown c b r)];exact r) λc xs r=>by rw[az (ntup c xs r)];exact r
   rcases hc with rfl|hc
   .exact hbe
   .rintro rfl
    rcases he with z|z
    .exact nown c b hc z
    .rw[hc]at z;cases z;exact hb rfl
end
structure Un (fs ex:List P9) (H H':Hp) (h h':Qr):Prop where
 keep:∀b o,h.get? b=some o->H b=none->b∉fs->b∉ex->h'.get? b=some o
 slot:∀b o,h.get? b=some o->H b=none->b∈fs->b∉ex->∃sl,h'.get? b=some { o with slots:=sl }
 free:∀b o,h.get? b=some o->H b=none->b∉ex->H' b=none
 there:∀b o,h.get? b=some o->b∉ex->∃o',h'.get? b=some o'
 tups:∀b xs,H b=some (.tup xs)->H' b=some (.tup xs)
 frzs:∀b o u,H b=some (.frz o u)->H' b=some (.frz o u)
 tbls:∀b ps,H b=some (.tbl ps)->∃more,H' b=some (.tbl (ps++more))
section
variable {fs fs' ex ex':List P9}{H H1 H2:Hp}{h h1 h2 h':Qr}{a x e:P9}{o:HO}
def Un.any(u:Un fs ex H H1 h h1){b:P9}(q:h.get? b=some ob)(n:H b=none)(hx:b∉ex):∃sl,h1.get? b=some { ob with slots:=sl }:=by
 by_cases hb:b∈fs
 .exact u.slot b ob q n hb hx
 .exact⟨ob.slots,u.keep b ob q n hb hx⟩
def Un.trans(a:Un fs ex H H1 h h1)(b:Un fs ex H1 H2 h1 h2):Un fs ex H H2 h h2 where
 keep:=λc ob q n hc hx=>b.keep c ob (a.keep c ob q n hc hx) (a.free c ob q n hx) hc hx
 slot:=λc ob q n hc hx=>by
  obtain⟨sl,e1⟩:=a.slot c ob q n hc hx;obtain⟨sl',e2⟩:=b.slot c _ e1 (a.free c ob q n hx) hc hx;exact⟨sl',e2⟩
 free:=λc ob q n hx=>by
  obtain⟨o',e1⟩:=a.there c ob q hx;exact b.free c o' e1 (a.free c ob q n hx) hx
 there:=λc ob q hx=>by
  obtain⟨o',e1⟩:=a.there c ob q hx;exact b.there c o' e1 hx
 tups:=λc xs q=>b.tups c xs (a.tups c xs q)
 frzs:=λc ob xs q=>b.frzs c ob xs (a.frzs c ob xs q)
 tbls:=λc ps q=>by
  obtain⟨m1,e1⟩:=a.tbls c ps q;obtain⟨m2,e2⟩:=b.tbls c _ e1;exact⟨m1++m2,by rw[e2,Ue]⟩
def Un.kept(k:∀b u,h.get? b=some u->h'.get? b=some u):Un fs ex H H h h' :=
 ⟨λb ob q _ _ _=>k b ob q,λb ob q _ _ _=>⟨ob.slots,k b ob q⟩,λ_ _ _ n _=>n,λb ob q _=>⟨ob,k b ob q⟩,λ_ _ q=>q,λ_ _ _ q=>q,λ_ ps q=>⟨#[],by rw[q];simp⟩⟩
def Un.refl:Un fs ex H H h h:=Un.kept λ_ _ q=>q
def Un.laid(k:∀b u,h.get? b=some u->h'.get? b=some u)(hp:h.objs.size<=a)(hn:H a=none):Un fs ex H (upd H a o) h h' where
 keep:=λb u q _ _ _=>k b u q
 slot:=λb u q _ _ _=>⟨u.slots,k b u q⟩
 free:=λb u q n _=>by rw[az (QW (Qk (Qv q) hp))];exact n
 there:=λb u q _=>⟨u,k b u q⟩
 tups:=λb xs q=>by rw[az (bh q hn)];exact q
 frzs:=λb u xs q=>by rw[az (bh q hn)];exact q
 tbls:=λb ps q=>⟨#[],by rw[az (bh q hn),q];simp⟩
def Un.write(mu:LI (H x))(he:e=x∨H e=some (.own x))(k:∀b u,b≠e->h.get? b=some u->h'.get? b=some u)(heo:∃u,h'.get? e=some u):Un fs ex H (upd H x o) h h':=by
 have hx:∀b,H b=none->b≠x:=λb n z=>by subst z;rw[n]at mu;exact mu
 have hb:∀b,H b=none->b≠e:=λb n z=>by
  subst z;rcases he with r|r
  .exact hx b n r
  .rw[n]at r;cases r
 have hm:∀b u,H b=some u->¬LI (some u)->b≠x:=λb u q nm z=>by subst z;rw[q]at mu;exact nm mu
 refine⟨λb u q n _ _=>k b u (hb b n) q,λb u q n _ _=>⟨u.slots,k b u (hb b n) q⟩,λb u q n _=>by rw[az (hx b n)];exact n,λb u q _=>?_,
  λb xs q=>by rw[az (hm b _ q λz=>z)];exact q,λb u xs q=>by rw[az (hm b _ q λz=>z)];exact q,λb ps q=>⟨#[],by rw[az (hm b _ q λz=>z),q];simp⟩⟩
 by_cases hbe:b=e
 .subst hbe;exact heo
 .exact⟨u,k b u hbe q⟩
end
noncomputable def NA(h:Qr) (H:Hp):List P9:=(QL h.objs.size).filter λa=>(H a).isSome
noncomputable def v5(h:Qr) (H:Hp):Qr:=U3 h (NA h H)
def Ct(h:Qr)(H:Hp):(v5 h H).objs.size=h.objs.size:=W.hideAll_size _ _
def ER{h:Qr}{b:P9}(e:h.get? b=some o)(n:H b=none):(v5 h H).get? b=some o :=
 W.hideAll_get _ e λhm=>by
  have q:(H b).isSome=true:=(UE.mp hm).2;rw[n]at q;simp at q
def G6{h:Qr}{b:P9}(e:(v5 h H).get? b=some o):h.get? b=some o/\H b=none:=by
 have e':h.get? b=some o:=W.of_hideAll (NA h H) e;refine⟨e',?_⟩;cases q:H b with
 |none=>rfl
 |some x=>
  have hm:b∈NA h H:=UE.mpr ⟨UL.mpr (Qv e'),by simp[q]⟩;have z:(v5 h H).get? b=none:=W.hideAll_none (NA h H) hm;rw[z]at e;cases e
structure Mod (K:P4) (mg:Qu->Option P2) (base:Qr):Prop where
 kin:K.In base
 glob:base.Ns Qt mg
 blt:∃mb,base.Ns builtinsNs mb/\∀x:Qu,x≠"__name__"->mb x=bootBuiltins x
 nolimit:base.NoLimit
 sm:∃mm,base.Ns SG mm
structure Cx where
 prog:Ra
 w:Rr
 K:P4
 mg:Qu->Option P2
 base:Qr
 A:Q0
 N:al
 sf:Qj
 Ha:Hp
 env:Env
 outer:List Env
 stack:List Env
 ex:List P9
 fn:Qu->Bool
 calm:Bool
 pn:List (P9×Obj)
 xe:P2->Qj->Prop
noncomputable def iw(l:List Env):List P9:=l.filterMap (·.frame)
noncomputable abbrev Cx.fs(X:Cx):List P9:=iw X.outer
noncomputable def yK(sc:T7) (x:Qu):Prop:=sc.names.lookup x=some .local ∨ sc.names.lookup x=some .cell∨sc.names.lookup x=some .free
noncomputable def CY(sc:T7) (x:Qu):Prop:=sc.names.lookup x=some .local ∨ sc.names.lookup x=some .cell
noncomputable def OO(env:Env) (h:Qr) (m:Qu->Option P2) (x:Qu) (u:P2):Prop :=
 (env.kindOf x=some .local /\ m x=some u)∨((env.kindOf x=some .cell∨env.kindOf x=some .free)/\∃c,env.cells.lookup x=some c/\h.IsCell c (some u))
structure Cx.Ok (X:Cx):Prop where
 mod:Mod X.K X.mg X.base
 kind:X.env.scope.kind=.function
 glob:X.env.globals=Qt
 blt:X.env.builtins=builtinsNs
 above:X.sf.heap.objs.size<=X.env.locals
 inj:∀x y c,X.env.cells.lookup x=some c->X.env.cells.lookup y=some c->x=y
 has:∀x,(X.env.kindOf x=some .cell∨X.env.kindOf x=some .free)->∃c,X.env.cells.lookup x=some c
 cab:∀x c,X.fn x=true->X.env.cells.lookup x=some c->X.sf.heap.objs.size<=c
 hd:X.calm=true->X.A.handled=none
 frames:X.A.frames=some X.stack
 stk:X.stack=X.outer∨(X.stack=X.env::X.outer/\X.env.frame=some X.env.locals)
 exf:∀b∈X.ex,b≠X.env.locals/\∀x c,X.env.cells.lookup x=some c->c≠b
 bs:∀b o,X.base.get? b=some o->X.sf.heap.get? b=some o/\X.Ha b=none
 bsz:X.base.objs.size<=X.sf.heap.objs.size
 noex:∀b o,X.base.get? b=some o->b∉X.ex
 exfs:∀b∈X.ex,b∉X.fs
 funs:X.sf.heap.FunFrames X.base X.outer
 frf:∀b∈X.fs,X.Ha b=none
structure Inv (X:Cx) (π:List (P9×Obj)) (σ:List (Option V)) (H:Hp) (s:Qj):Prop where
 ok:X.Ok
 os:s.os=X.sf.os
 bare:AllBare s.gens
 base:Un X.fs X.ex X.Ha H X.sf.heap s.heap
 loc:∃m,s.heap.Ns X.env.locals m/\∀(i:Nat) (x:Qu) (v:V),X.N[i]?=some x->σ[i]?=some (some v)->yK X.env.scope x->∃u,bX v u/\OO X.env s.heap m x u
 cell:∀x c,X.env.cells.lookup x=some c->∃v,s.heap.IsCell c v
 free:H X.env.locals=none
 freeC:∀x c,X.env.cells.lookup x=some c->H c=none
 pin:∀p∈X.pn++π,s.heap.get? p.1=some p.2/\H p.1=none/\p.1≠X.env.locals/\p.1∉X.fs/\∀v,p.2.data≠.cell v
 hok:g6 X.prog X.w H s.heap
 len:σ.length=X.N.length
section
variable {X:Cx}{π:List (P9×Obj)}{σ:List (Option V)}{H H':Hp}{s:Qj}{h':Qr}
def Cx.Ok.nofr(ok:X.Ok){b:P9}(e:X.base.get? b=some o):b∉X.fs:=λhb=>by
 have:=(ok.funs.mem hb).1;rw[e]at this;cases this
def Inv.bs(I:Inv X π σ H s):∀b o,X.base.get? b=some o->s.heap.get? b=some o/\H b=none:=λb o e=>
 ⟨I.base.keep b o (I.ok.bs b o e).1 (I.ok.bs b o e).2 (I.ok.nofr e) (I.ok.noex b o e),I.base.free b o (I.ok.bs b o e).1 (I.ok.bs b o e).2 (I.ok.noex b o e)⟩
def Inv.bk(I:Inv X π σ H s):∀b o,X.base.get? b=some o->s.heap.get? b=some o:=λb o e=>(I.bs b o e).1
def Inv.mod(I:Inv X π σ H s):Mod X.K X.mg X.base:=I.ok.mod
def Inv.kIn(I:Inv X π σ H s):X.K.In s.heap:=I.ok.mod.kin.keeps I.bk
def Inv.lt(I:Inv X π σ H s):X.env.locals<s.heap.objs.size:=let ⟨_,hn,_⟩:=I.loc;hn.lt
def Inv.sz(I:Inv X π σ H s):X.sf.heap.objs.size<=s.heap.objs.size:=QM I.ok.above (Ul I.lt)
def Inv.nofs(I:Inv X π σ H s)(h:s.heap.objs.size<=a):a∉X.fs:=λhb=>by
 obtain⟨_,o,ho,_⟩:=I.ok.funs.mem hb;exact absurd (Qk (Qv ho) (QM I.sz h)) (Si _)
def Inv.cne(I:Inv X π σ H s):∀x c,X.env.cells.lookup x=some c->c≠X.env.locals:=λx c e z=>by
 obtain⟨v,o,ho,hd⟩:=I.cell x c e;obtain⟨m,⟨o',es,ep,ho',hd',_⟩,_⟩:=I.loc;rw[z,ho']at ho;cases ho;rw[hd']at hd;cases hd
def Inv.funs(I:Inv X π σ H s):s.heap.FunFrames X.base X.outer:=by
 have all:∀(l:List Env),(∀b∈iw l,b∈X.fs)->X.sf.heap.FunFrames X.base l->s.heap.FunFrames X.base l:=by
  intro l
  induction l with
  |nil=>intro _ _;trivial
  |cons env r ih=>
   intro hs hl;obtain⟨hk,⟨L,o,hf,hn,ho,hd⟩,hr⟩:=hl;have hL:L∈X.fs:=hs L (by unfold iw;rw[Sy,hf];exact Qq);obtain⟨sl,e⟩:=I.base.slot L o ho (I.ok.frf L hL) hL λz=>I.ok.exfs L z hL;exact⟨hk,⟨L,_,hf,hn,e,hd⟩,ih (λb hb=>hs b (by unfold iw;rw[Sy,hf];exact Qi _ hb)) hr⟩
 exact all X.outer (λ_ hb=>hb) I.ok.funs
def Inv.stack(I:Inv X π σ H s):s.heap.FunFrames X.base X.stack:=by
 rcases I.ok.stk with e|⟨e,hf⟩
 .rw[e];exact I.funs
 .rw[e]
  obtain⟨m,hn,_⟩:=I.loc;refine .cons (by rw[I.ok.kind];decide) hf hn ?_ I.funs;exact Ti (QM I.ok.bsz I.ok.above)
def Inv.stkSub(I:Inv X π σ H s):∀b∈iw X.stack,b∈X.env.locals::X.fs:=λb hb=>by
 rcases I.ok.stk with e|⟨e,hf⟩
 .rw[e]at hb;exact Qi _ hb
 .rw[e]at hb
  unfold iw at hb;rw[Sy,hf]at hb;exact hb
def Inv.stkFree(I:Inv X π σ H s):∀b∈iw X.stack,H b=none:=λb hb=>by
 rcases Qs.mp (I.stkSub b hb) with e|hb
 .rw[e];exact I.free
 .obtain⟨_,o,ho,_⟩:=I.ok.funs.mem hb
  exact I.base.free b o ho (I.ok.frf b hb) λz=>I.ok.exfs b z hb
def Inv.step{ch:List P9}(I:Inv X π σ H s)
  (hch:∀b∈ch,(b∈X.ex∨X.sf.heap.objs.size<=b)/\b≠X.env.locals/\(∀x c,X.env.cells.lookup x=some c->c≠b)/\∀p∈X.pn++π,p.1≠b)
  (keep:∀b o,b≠X.env.locals->b∉X.fs->b∉ch->s.heap.get? b=some o->H b=none->h'.get? b=some o)
  (slot:∀b o,b≠X.env.locals->b∈X.fs->b∉ch->s.heap.get? b=some o->H b=none->∃sl,h'.get? b=some { o with slots:=sl })(free:∀b o,b∉ch->s.heap.get? b=some o->H b=none->H' b=none)
  (there:∀b o,b∉ch->s.heap.get? b=some o->∃o',h'.get? b=some o')
  (tups:∀b xs,H b=some (.tup xs)->H' b=some (.tup xs))(frzs:∀b o u,H b=some (.frz o u)->H' b=some (.frz o u))(tbls:∀b ps,H b=some (.tbl ps)->∃more,H' b=some (.tbl (ps++more)))
  (ns:∀m,s.heap.Ns X.env.locals m->h'.Ns X.env.locals m)(hok:g6 X.prog X.w H' h')(hg:AllBare g') :
  Inv X π σ H' { s with heap:=h',gens:=g',drawn:=d',toks:=t' }:=by
 have neL:∀b o,X.sf.heap.get? b=some o->b≠X.env.locals:=λb o e=>QW (Qk (Qv e) I.ok.above);have neC:∀b o,X.sf.heap.get? b=some o->b∉X.ex->b∉ch:=λb o e hx hb=>by
  rcases(hch b hb).1 with z|z
  .exact hx z
  .exact absurd (Qk (Qv e) z) (Si _)
 have cellK:∀x c,X.env.cells.lookup x=some c->∀v,s.heap.IsCell c v->h'.IsCell c v:=λx c e v z9=>by
  obtain⟨o,ho,hd⟩:=z9;have nch:c∉ch:=λz=>(hch c z).2.2.1 x c e rfl
  by_cases hc:c∈X.fs
  .obtain⟨sl,q⟩:=slot c o (I.cne x c e) hc nch ho (I.freeC x c e)
   exact⟨_,q,hd⟩
  .exact⟨o,keep c o (I.cne x c e) hc nch ho (I.freeC x c e),hd⟩
 refine⟨I.ok,I.os,hg,⟨λb o e n hb hx=>?_,λb o e n hb hx=>?_,λb o e n hx=>?_,λb o e hx=>?_,λb xs e=>tups b xs (I.base.tups b xs e),λb o xs e=>frzs b o xs (I.base.frzs b o xs e),λb ps e=>?_⟩,?_,λx c e=>?_,?_,λx c e=>?_,λp hp=>?_,hok,I.len⟩
 .exact keep b o (neL b o e) hb (neC b o e hx) (I.base.keep b o e n hb hx) (I.base.free b o e n hx)
 .obtain⟨sl,e1⟩:=I.base.slot b o e n hb hx
  obtain⟨sl',e2⟩:=slot b _ (neL b o e) hb (neC b o e hx) e1 (I.base.free b o e n hx);exact⟨sl',e2⟩
 .obtain⟨o',e1⟩:=I.base.there b o e hx
  exact free b o' (neC b o e hx) e1 (I.base.free b o e n hx)
 .obtain⟨o',e1⟩:=I.base.there b o e hx
  exact there b o' (neC b o e hx) e1
 .obtain⟨m1,e1⟩:=I.base.tbls b ps e
  obtain⟨m2,e2⟩:=tbls b _ e1;exact⟨m1++m2,by rw[e2,Ue]⟩
 .obtain⟨m,hn,hl⟩:=I.loc
  refine⟨m,ns m hn,λi x v e1 e2 e3=>?_⟩;obtain⟨u,r,l⟩:=hl i x v e1 e2 e3;refine⟨u,r,?_⟩;rcases l with l|⟨k,c,e,z⟩
  .exact .inl l
  .exact .inr ⟨k,c,e,cellK x c e _ z⟩
 .obtain⟨v,z⟩:=I.cell x c e
  exact⟨v,cellK x c e v z⟩
 .obtain⟨m,⟨o,_,_,ho,_⟩,_⟩:=I.loc
  exact free _ o (λz=>(hch _ z).2.1 rfl) ho I.free
 .obtain⟨v,o,ho,hd⟩:=I.cell x c e
  exact free c o (λz=>(hch c z).2.2.1 x c e rfl) ho (I.freeC x c e)
 .obtain⟨e,n,ne,nf,d⟩:=I.pin p hp
  have nch:p.1∉ch:=λz=>(hch p.1 z).2.2.2 p hp rfl;exact⟨keep p.1 p.2 ne nf nch e n,free p.1 p.2 nch e n,ne,nf,d⟩
def Inv.un(I:Inv X π σ H s)(u:Un X.fs [] H H' s.heap h')(hok:g6 X.prog X.w H' h'):Inv X π σ H' { s with heap:=h',toks:=t' }:=by
 obtain⟨m,⟨o,es,ep,ho,r⟩,_⟩:=id I.loc;obtain⟨sl,hL⟩:=u.any ho I.free (by simp);exact I.step (g':=s.gens) (d':=s.drawn) (ch:=[]) (λ_ z=>nomatch z) (λb o _ hb _ e n=>u.keep b o e n hb (by simp)) (λb o _ hb _ e n=>u.slot b o e n hb (by simp)) (λb o _ e n=>u.free b o e n (by simp)) (λb o _ e=>u.there b o e (by simp)) u.tups u.frzs u.tbls (λm' hm=>by
  obtain⟨o',es',ep',ho',r'⟩:=hm;rw[ho]at ho';cases ho';exact⟨_,es',ep',hL,r'⟩) hok I.bare
def Inv.call(I:Inv X π σ H s)(u:Un (iw X.stack) ch H H' s.heap h')(hok:g6 X.prog X.w H' h')(hg:AllBare g')
  (hch:∀b∈ch,(b∈X.ex∨X.sf.heap.objs.size<=b)/\b≠X.env.locals/\(∀x c,X.env.cells.lookup x=some c->c≠b)/\∀p∈X.pn++π,p.1≠b) :
  Inv X π σ H' { s with heap:=h',gens:=g',drawn:=d',toks:=t' }:=by
 obtain⟨m,⟨o,es,ep,ho,r⟩,_⟩:=id I.loc;obtain⟨sl,hL⟩:=u.any ho I.free λz=>(hch _ z).2.1 rfl;exact I.step (ch:=ch) hch (λb o hL hb hc e n=>u.keep b o e n (λz=>(Qs.mp (I.stkSub b z)).elim hL hb) hc) (λb o _ _ hc e n=>u.any e n hc) (λb o hc e n=>u.free b o e n hc) (λb o hc e=>u.there b o e hc) u.tups u.frzs u.tbls (λm' hm=>by
  obtain⟨o',es',ep',ho',r'⟩:=hm;rw[ho]at ho';cases ho';exact⟨_,es',ep',hL,r'⟩) hok hg
def Inv.turned(I:Inv X π σ H s)(k:∀b o,b≠it->s.heap.get? b=some o->h'.get? b=some o)(hn:H it=none)(hL:it≠X.env.locals)
  (h1:it∈X.ex∨X.sf.heap.objs.size<=it)(h2:∀x c,X.env.cells.lookup x=some c->c≠it)(h3:∀p∈X.pn++π,p.1≠it):Inv X π σ H { s with heap:=h',toks:=t' }:=by
 have nit:∀b u,H b=some u->b≠it:=λb u e z=>by rw[z,hn]at e;cases e
 refine I.step (g':=s.gens) (d':=s.drawn) (ch:=[it]) (λb hb=>?_) (λb o _ _ hc e _=>k b o (λz=>hc (by simp[z])) e) (λb o _ _ hc e _=>⟨o.slots,k b o (λz=>hc (by simp[z])) e⟩) (λ_ _ _ _ n=>n)
  (λb o hc e=>⟨o,k b o (λz=>hc (by simp[z])) e⟩) (λ_ _ e=>e) (λ_ _ _ e=>e) (λb ps e=>⟨#[],by rw[e];simp⟩) (λm hm=>?_) (λb u e=>?_) I.bare
 .have e:b=it:=by simpa using hb
  subst e;exact⟨h1,hL,h2,h3⟩
 .obtain⟨o,es,ep,ho,r⟩:=hm
  exact⟨o,es,ep,k _ o (Q2 hL) ho,r⟩
 .refine(I.hok b u e).stay (λc v hc q=>k c v ?_ q) (λ_ q=>q) λ_ _ q=>q
  rcases hc with z|z
  .rw[z];exact nit b u e
  .exact nit c _ z
def Inv.tok(I:Inv X π σ H s)(t:Nat):Inv X π σ H { s with toks:=t }:=I.un (h':=s.heap) (t':=t) Un.refl I.hok
def Inv.kept(I:Inv X π σ H s)(k:∀b u,s.heap.get? b=some u->h'.get? b=some u):Inv X π σ H { s with heap:=h',toks:=t' }:=I.un (Un.kept k) (I.hok.kept k)
def Inv.laid(I:Inv X π σ H s)(k:∀b u,s.heap.get? b=some u->h'.get? b=some u)(hp:s.heap.objs.size<=a)(new:cP X.prog X.w (upd H a o) h' a o) :
  Inv X π σ (upd H a o) { s with heap:=h',toks:=t' }:=I.un (Un.laid k hp (I.hok.fresh hp)) (I.hok.laid k hp new)
def Inv.write(I:Inv X π σ H s)(mu:LI (H x))(he:e=x∨H e=some (.own x))(k:∀b u,b≠e->s.heap.get? b=some u->h'.get? b=some u)(heo:∃u,h'.get? e=some u)
  (new:cP X.prog X.w (upd H x o) h' x o):Inv X π σ (upd H x o) { s with heap:=h',toks:=t' }:=I.un (Un.write mu he k heo) (I.hok.write mu he k heo new)
def Inv.pins_of(I:Inv X π σ H s)(h:∀p∈pins',s.heap.get? p.1=some p.2/\H p.1=none/\p.1≠X.env.locals/\p.1∉X.fs/\∀v,p.2.data≠.cell v):Inv X pins' σ H s :=
 ⟨I.ok,I.os,I.bare,I.base,I.loc,I.cell,I.free,I.freeC,λp hp=>(QQ.mp hp).elim (λz=>I.pin p (Rl _ z)) (h p),I.hok,I.len⟩
def xH{N:al}(hN:N.Nodup){i j:Nat}(a:N[i]?=some x)(b:N[j]?=some x):i=j:=by
 obtain⟨h1,e1⟩:=Qa.mp a;obtain⟨h2,e2⟩:=Qa.mp b;exact(List.getElem_inj hN).mp (e1.trans e2.symm)
def ny{A:Q0}(I:Inv X π σ H s)(hN:X.N.Nodup)(hi:X.N[i]?=some x)(hx:CY X.env.scope x)(r:bX v u)
  (h:∀s',Inv X π (σ.set i (some v)) H s'->(∃a,Us a s.heap s'.heap/\(a=X.env.locals∨X.env.cells.lookup x=some a))->Q () s')(hf:X.fn x=true∨X.env.scope.names.lookup x=some .local := by first|exact .inl rfl|exact .inr rfl|assumption):QC M A (storeName X.env x u) Q E s:=by
 obtain⟨m,hn,hl⟩:=id I.loc;have hcls:(X.env.scope.kind==.class||(X.env.scope.kind==.module&&X.env.locals != X.env.globals))=false:=by rw[I.ok.kind];rfl
 have hiσ:i<σ.length:=by rw[I.len];exact(Qa.mp hi).1
 have cne:=I.cne;have tracked:∀{a:P9}{h':Qr},(∃o,s.heap.get? a=some o/\H a=none)->Us a s.heap h'->g6 X.prog X.w H h':=λ{a h'} ha hs b ob e=>by
  obtain⟨_,_,hfree⟩:=ha;refine(I.hok b ob e).stay (λc w' hc q=>(hs.2 c ?_).trans q) (λ_ q=>q) λ_ _ q=>q;rintro rfl;rcases hc with rfl|hc
  .rw[hfree]at e;cases e
  .rw[hfree]at hc;cases hc
 rcases hx with hk|hk
 .refine wpAny_storeName_local hk hn (λh' hn' hs=>?_) hcls
  obtain⟨oL,_,_,hoL,_⟩:=id hn;refine h _ ⟨I.ok,I.os,I.bare,⟨λb o e n hb hx=>?_,λb o e n hb hx=>?_,I.base.free,λb o e hx=>?_,I.base.tups,I.base.frzs,I.base.tbls⟩,⟨_,hn',λj y v' e1 e2 e3=>?_⟩,λy c e=>?_,I.free,I.freeC,λp hp=>?_,tracked ⟨oL,hoL,I.free⟩ hs,by simpa using I.len⟩ ⟨_,hs,.inl rfl⟩
  .exact(hs.2 b (QW (Qk (Qv e) I.ok.above))).trans (I.base.keep b o e n hb hx)
  .obtain⟨sl,e1⟩:=I.base.slot b o e n hb hx
   exact⟨sl,(hs.2 b (QW (Qk (Qv e) I.ok.above))).trans e1⟩
  .obtain⟨o',e1⟩:=I.base.there b o e hx
   exact⟨o',(hs.2 b (QW (Qk (Qv e) I.ok.above))).trans e1⟩
  .by_cases hj:j=i
   .subst hj
    rw[hi]at e1;cases e1;rw[QU hiσ]at e2;cases e2;exact⟨u,r,.inl ⟨hk,by simp⟩⟩
   .rw[Qm (Q2 hj)]at e2
    obtain⟨u',r',q⟩:=hl j y v' e1 e2 e3;refine⟨u',r',?_⟩;rcases q with⟨k,e⟩|⟨k,c,e,z⟩
    .refine .inl ⟨k,?_⟩
     have:y≠x:=λe=>hj (xH hN e1 (e▸hi));simp[this,e]
    .exact .inr ⟨k,c,e,z.sameBut hs (cne y c e)⟩
  .obtain⟨w',z⟩:=I.cell y c e
   exact⟨w',z.sameBut hs (cne y c e)⟩
  .obtain⟨e,n,ne,nf,d⟩:=I.pin p hp
   exact⟨(hs.2 p.1 ne).trans e,n,ne,nf,d⟩
 .have hfn:X.fn x=true:=by
   rcases hf with z|z
   .exact z
   .rw[z]at hk;cases hk
  obtain⟨c,hc⟩:=I.ok.has x (.inl hk);obtain⟨w',z⟩:=I.cell x c hc;refine wpAny_storeName_cell I.ok.kind hk hc z (λh' hc' hs=>?_);obtain⟨oc,hoc,hocd⟩:=id z;refine h { s with heap:=h' } ⟨I.ok,I.os,I.bare,⟨λb o e n hb hx=>?_,λb o e n hb hx=>?_,I.base.free,λb o e hx=>?_,I.base.tups,I.base.frzs,I.base.tbls⟩,⟨m,hn.sameBut hs (Q2 (cne x c hc)),λj y v' e1 e2 e3=>?_⟩,λy c' e=>?_,I.free,I.freeC,λp hp=>?_,tracked ⟨oc,hoc,I.freeC x c hc⟩ hs,by simpa using I.len⟩ ⟨c,hs,.inr hc⟩
  .exact(hs.2 b (QW (Qk (Qv e) (I.ok.cab x c hfn hc)))).trans (I.base.keep b o e n hb hx)
  .obtain⟨sl,e1⟩:=I.base.slot b o e n hb hx
   exact⟨sl,(hs.2 b (QW (Qk (Qv e) (I.ok.cab x c hfn hc)))).trans e1⟩
  .obtain⟨o',e1⟩:=I.base.there b o e hx
   exact⟨o',(hs.2 b (QW (Qk (Qv e) (I.ok.cab x c hfn hc)))).trans e1⟩
  .by_cases hj:j=i
   .subst hj
    rw[hi]at e1;cases e1;rw[QU hiσ]at e2;cases e2;exact⟨u,r,.inr ⟨.inl hk,c,hc,hc'⟩⟩
   .rw[Qm (Q2 hj)]at e2
    obtain⟨u',r',q⟩:=hl j y v' e1 e2 e3;refine⟨u',r',?_⟩;rcases q with q|⟨k,c',e,z'⟩
    .exact .inl q
    .refine .inr ⟨k,c',e,z'.sameBut hs ?_⟩
     rintro rfl;exact hj (xH hN e1 (I.ok.inj _ _ _ e hc▸hi))
  .by_cases hcc:c'=c
   .subst hcc;exact⟨_,hc'⟩
   .obtain⟨w2,z2⟩:=I.cell y c' e
    exact⟨w2,z2.sameBut hs hcc⟩
  .obtain⟨e,n,ne,nf,d⟩:=I.pin p hp
   refine⟨(hs.2 p.1 ?_).trans e,n,ne,nf,d⟩;intro q;rw[q,hoc]at e;have q':oc=p.2:=Q4 e;exact d w' (by rw[←q'];exact hocd)
def lr{A:Q0}(I:Inv X π σ H s)(hN:X.N.Nodup)(hi:X.N[i]?=some x)(hx:CY X.env.scope x)(r:bX v u)
  (h:∀s',Inv X π (σ.set i (some v)) H s'->Q () s')(hf:X.fn x=true∨X.env.scope.names.lookup x=some .local := by first|exact .inl rfl|exact .inr rfl|assumption):QC M A (storeName X.env x u) Q E s :=
 ny I hN hi hx r (λs' I' _=>h s' I') hf
def Inv.call'(I:Inv X π σ H s)(ho:s'.os=s.os)(u:Un (iw X.stack) ch H H' s.heap s'.heap)(hok:g6 X.prog X.w H' s'.heap)(hg:AllBare s'.gens)
  (hch:∀b∈ch,(b∈X.ex∨X.sf.heap.objs.size<=b)/\b≠X.env.locals/\(∀x c,X.env.cells.lookup x=some c->c≠b)/\∀p∈X.pn++π,p.1≠b):Inv X π σ H' s':=by
 obtain⟨h',g',d',t',o'⟩:=s';have e:o'=s.os:=ho;subst e;exact I.call (g':=g') (t':=t') (d':=d') u hok hg hch
end
noncomputable abbrev XK:=P2->Option P9->Hp->Prop
noncomputable abbrev St:=List (Option V)
noncomputable abbrev VK:=V->Hp->Prop
noncomputable abbrev TE:=St->Hp->VK->Prop
noncomputable abbrev TT:=St->Hp->(Bool->Hp->Prop)->Prop
noncomputable abbrev TA:=St->Hp->(ad->Hp->Prop)->Prop
structure j9 where
 nx:St->Hp->Prop
 rt:VK
 bk:St->Hp->Prop:=λ_ _=>False
 ct:St->Hp->Prop:=λ_ _=>False
noncomputable abbrev TS:=j9->St->Hp->Prop
noncomputable def EP(X:Cx) (π:List (P9×Obj)) (σ:St) (Q:VK) (u:P2) (s':Qj):Prop:=∃v H',Inv X π σ H' s'/\bX v u/\Q v H'
noncomputable def TP(X:Cx) (π:List (P9×Obj)) (σ:St) (Q:Bool->Hp->Prop) (b:Bool) (s':Qj):Prop:=∃H',Inv X π σ H' s'/\Q b H'
noncomputable def AP(X:Cx) (π:List (P9×Obj)) (σ:St) (Q:ad->Hp->Prop) (us:List P2) (s':Qj):Prop:=∃vs H',Inv X π σ H' s'/\bA vs us/\Q vs H'
noncomputable def SP(X:Cx) (π:List (P9×Obj)) (D:j9) (f:Flow) (s':Qj):Prop :=
 match f with
 |.next=>∃σ' H',Inv X π σ' H' s'/\D.nx σ' H'
 |.brk=>∃σ' H',Inv X π σ' H' s'/\D.bk σ' H'
 |.cont=>∃σ' H',Inv X π σ' H' s'/\D.ct σ' H'
 |.ret u=>∃v σ' H',Inv X π σ' H' s'/\bX v u/\D.rt v H'
noncomputable def PE(X:Cx) (e:QX) (t:TE):Prop :=
 ∀(π:List (P9×Obj)) (s:Qj) (σ:St) (H:Hp) (Q:VK),Inv X π σ H s->t σ H Q->QC (QB X.prog X.w) X.A (eval e X.env) (EP X π σ Q) X.xe s
noncomputable def PT(X:Cx) (e:QX) (t:TT):Prop :=
 ∀(π:List (P9×Obj)) (s:Qj) (σ:St) (H:Hp) (Q:Bool->Hp->Prop),Inv X π σ H s->t σ H Q->QC (QB X.prog X.w) X.A (isTrue e X.env (eval e X.env)) (TP X π σ Q) X.xe s
noncomputable def PW(X:Cx) (e:QX) (t:TT):Prop :=
 ∀(whole:Sem P2) (π:List (P9×Obj)) (s:Qj) (σ:St) (H:Hp) (Q:Bool->Hp->Prop),Inv X π σ H s->t σ H Q->QC (QB X.prog X.w) X.A (isTrue e X.env whole) (TP X π σ Q) X.xe s
def PW.pt(h:PW X e t):PT X e t:=h _
noncomputable def PA(X:Cx) (es:List QX) (t:TA):Prop :=
 ∀(pos:Pos) (π:List (P9×Obj)) (s:Qj) (σ:St) (H:Hp) (Q:ad->Hp->Prop),Inv X π σ H s->t σ H Q->QC (QB X.prog X.w) X.A (spliced (Rg pos (Qb es X.env))) (AP X π σ Q) X.xe s
noncomputable def PS(X:Cx) (st:RH) (t:TS):Prop :=
 ∀(π:List (P9×Obj)) (s:Qj) (σ:St) (H:Hp) (D:j9),Inv X π σ H s->t D σ H->QC (QB X.prog X.w) X.A (exec st X.env) (SP X π D) X.xe s
noncomputable def vn(X:Cx) (st:List RH) (t:TS):Prop :=
 ∀(π:List (P9×Obj)) (s:Qj) (σ:St) (H:Hp) (D:j9),Inv X π σ H s->t D σ H->QC (QB X.prog X.w) X.A (execs st X.env) (SP X π D) X.xe s
def de{Q Q':α->Qj->Prop}{A:Q0}(h:QC M A t Q E s)(hQ:∀a s,Q a s->Q' a s):QC M A t Q' E s:=Ri h hQ λ_ _ x=>x
section
variable {X:Cx}
noncomputable def NZ(i:Nat):TE:=λσ H Q=>∃v,σ[i]?=some (some v)/\Q v H
noncomputable def tC(v:V):TE:=λ_ H Q=>Q v H
def fS(hN:X.N[i]?=some x)(hv:yK X.env.scope x)(hd:(x==("__debug__" : Qu))=false:=by decide)(hcd:(x==("__classdict__" : Qu))=false:=by decide):PE X (.Name x pos) (NZ i):=by
 intro π s σ H Q I h;obtain⟨v,e,h⟩:=h;obtain⟨m,hn,hl⟩:=I.loc;obtain⟨u,r,l⟩:=hl i x v hN e hv;have fin:EP X π σ Q u s:=⟨v,H,I,r,h⟩
 rcases l with⟨hk,hm⟩|⟨hk,c,hc,hcell⟩
 .exact wpAny_Name (wpAny_loadName_local I.ok.kind hk hn hm fin) hd
 .rcases hk with hk|hk
  .exact wpAny_Name (wpAny_loadName_cell I.ok.kind hk hc hcell fin) hd
  .exact wpAny_Name (wpAny_loadName_free I.ok.kind hk hc hcell fin hcd) hd
def J5{i j pos}:PE X (.Constant (.int i) j pos) (tC (.int i)):=λ_ _ _ H _ I h=>wpAny_Constant_int ⟨.int i,H,I.tok _,⟨_,rfl⟩,h⟩
def Mt{b j pos}:PE X (.Constant (.bool b) j pos) (tC (.bl b)):=λ_ _ _ H _ I h=>Constant_bool ⟨.bl b,H,I,rfl,h⟩
def J4{j pos}:PE X (.Constant .none j pos) (tC .non):=λ_ _ _ H _ I h=>Constant_none ⟨.non,H,I,rfl,h⟩
def JZ{x j pos}:PE X (.Constant (.str x) j pos) (tC (.str x)):=λ_ _ _ H _ I h=>Calls.Constant_str ⟨.str x,H,I.tok _,⟨_,rfl⟩,h⟩
noncomputable def Gl(X:Cx) (x:Qu):Prop:=X.env.kindOf x=some .globalImplicit
def kd(I:Inv X π σ H s)(hg:Gl X x)(hm:X.mg x=some u)(h:Q u s)
  (hd:(x==("__debug__" : Qu))=false:=by decide):QC (QB X.prog X.w) X.A (eval (.Name x pos) X.env) Q E s :=
 UP I.ok.kind hg (Calls.loadGlobal_global (by rw[I.ok.glob];exact I.mod.glob.keeps I.bk) hm h) hd
def q9(I:Inv X π σ H s)(hg:Gl X x)(hm:X.mg x=none)(hv:bootBuiltins x=some u)(h:Q u s)
  (hn:x≠"__name__":=by decide)(hd:(x==("__debug__" : Qu))=false:=by decide):QC (QB X.prog X.w) X.A (eval (.Name x pos) X.env) Q E s:=by
 obtain⟨mb,h1,h2⟩:=I.mod.blt;exact UP I.ok.kind hg (Calls.loadGlobal_builtin (by rw[I.ok.glob];exact I.mod.glob.keeps I.bk) hm (by rw[I.ok.blt];exact h1.keeps I.bk) ((h2 x hn).trans hv) h) hd
def GZ(hg:Gl X x)(hm:X.mg x=some u)(r:bX v u)(hd:(x==("__debug__" : Qu))=false:=by decide):PE X (.Name x pos) (tC v) :=
 λ_ _ _ H _ I h=>kd I hg hm ⟨v,H,I,r,h⟩ hd
def G0(hg:Gl X x)(hm:X.mg x=none)(hv:bootBuiltins x=some u)(r:bX v u)(hn:x≠"__name__":=by decide)(hd:(x==("__debug__" : Qu))=false:=by decide):PE X (.Name x pos) (tC v) :=
 λ_ _ _ H _ I h=>q9 I hg hm hv ⟨v,H,I,r,h⟩ hn hd
variable {a b:QX}{ta tb:TE}{pos:Pos}
noncomputable def PC(X:Cx) (op:CmpOp) (a b:QX) (t:TE):Prop :=
 ∀(π:List (P9×Obj)) (s:Qj) (σ:St) (H:Hp) (Q:VK),Inv X π σ H s->t σ H Q ->
  QC (QB X.prog X.w) X.A (eval a X.env) (λv sg=>QC (QB X.prog X.w) X.A (eval b X.env) (λu si=>QC (QB X.prog X.w) X.A (Q5 op v u) (EP X π σ Q) X.xe si) X.xe sg) X.xe s
def Eb(b:QX)(h:op≠.In)(h2:op≠.NotIn):behindInMarks op b=false:=by
 have e1:(op==CmpOp.In)=false:=by cases op<;>first|rfl|exact absurd rfl h
 have e2:(op==CmpOp.NotIn)=false:=by cases op<;>first|rfl|exact absurd rfl h2
 cases b<;>simp[behindInMarks,e1,e2]
noncomputable def tB(t:TE):TT:=λσ H Q=>t σ H λx H1=>∃c,x=.bl c/\Q c H1
def DU(h:PE X e t)(he:∀whole,isTrue e X.env whole=(do let v ←whole;standAt e.pos;Sa [v] (truthy v)):=by intro _;rfl):PT X e (tB t):=by
 intro π s σ H Q I hw;refine isTrue_plain (de (h π s σ H _ I hw) λv s1 z9=>?_) (he _);obtain⟨x,H1,I1,r1,q1⟩:=z9;obtain⟨d,rfl,q⟩:=q1;cases r1;exact Rz ⟨H1,I1,q⟩
variable {tA tB':TT}{rest:List QX}
noncomputable def Oe(t u:TT):TT:=λσ H Q=>t σ H λc H1=>if c=true then u σ H1 Q else Q false H1
noncomputable def Pt(t u:TT):TT:=λσ H Q=>t σ H λc H1=>if c=true then Q true H1 else u σ H1 Q
noncomputable def N5(t:TT):TT:=λσ H Q=>t σ H λc H1=>Q (!c) H1
def AB(ha:PT X a tA):PW X (.BoolOp .And [a] pos) tA:=by
 intro wh π s σ H Q I h;refine isTrue_and (de (ha π s σ H Q I h) λc s1 e=>?_);cases c with|true=>exact isTrue_and_nil e|false=>exact e
def JS(ha:PT X a tA):PW X (.BoolOp .Or [a] pos) tA:=by
 intro wh π s σ H Q I h;refine isTrue_or (de (ha π s σ H Q I h) λc s1 e=>?_);cases c with|false=>exact isTrue_or_nil e|true=>exact e
def DQ(ha:PT X a tA)(hb:PW X (.BoolOp .And (b::rest) pos) tB'):PW X (.BoolOp .And (a::b::rest) pos) (Oe tA tB'):=by
 intro wh π s σ H Q I h;refine isTrue_and (de (ha π s σ H _ I h) λc s1 z9=>?_);obtain⟨H1,I1,q1⟩:=z9;cases c with|true=>exact hb wh π s1 σ H1 Q I1 q1|false=>exact⟨H1,I1,q1⟩
def Mj(ha:PT X a tA)(hb:PW X (.BoolOp .Or (b::rest) pos) tB'):PW X (.BoolOp .Or (a::b::rest) pos) (Pt tA tB'):=by
 intro wh π s σ H Q I h;refine isTrue_or (de (ha π s σ H _ I h) λc s1 z9=>?_);obtain⟨H1,I1,q1⟩:=z9;cases c with|true=>exact⟨H1,I1,q1⟩|false=>exact hb wh π s1 σ H1 Q I1 q1
def DV(ha:PT X a tA):PT X (.UnaryOp .Not a pos) (N5 tA):=by
 intro π s σ H Q I h;exact isTrue_not (ha π s σ H (λc H1=>Q (!c) H1) I h)
noncomputable def LZ(ta tb:TE):TE:=λσ H Q=>ta σ H λx H1=>∃c,x=.bl c/\if c=true then tb σ H1 Q else Q (.bl false) H1
noncomputable def N4(ta tb:TE):TE:=λσ H Q=>ta σ H λx H1=>∃c,x=.bl c/\if c=true then Q (.bl true) H1 else tb σ H1 Q
noncomputable def LU(ta:TE):TE:=λσ H Q=>ta σ H λx H1=>∃c,x=.bl c/\Q (.bl (!c)) H1
def J0{op}(h:PE X a t):PE X (.BoolOp op [a] pos) t:=λπ s σ H Q I hw=>BoolOp_one (h π s σ H Q I hw)
def J7(ha:PE X a ta)(hb:PE X (.BoolOp .And (b::rest) pos) tb):PE X (.BoolOp .And (a::b::rest) pos) (LZ ta tb):=by
 intro π s σ H Q I h;refine BoolOp_and (de (ha π s σ H _ I h) λv s1 ⟨x,H1,I1,r1,q1⟩=>?_);obtain⟨c,rfl,q1⟩:=q1;cases r1;refine Rz ?_;cases c with|true=>exact hb π s1 σ H1 Q I1 q1|false=>exact⟨.bl false,H1,I1,rfl,q1⟩
def Ms(ha:PE X a ta)(hb:PE X (.BoolOp .Or (b::rest) pos) tb):PE X (.BoolOp .Or (a::b::rest) pos) (N4 ta tb):=by
 intro π s σ H Q I h;refine BoolOp_or (de (ha π s σ H _ I h) λv s1 ⟨x,H1,I1,r1,q1⟩=>?_);obtain⟨c,rfl,q1⟩:=q1;cases r1;refine Rz ?_;cases c with|false=>exact hb π s1 σ H1 Q I1 q1|true=>exact⟨.bl true,H1,I1,rfl,q1⟩
def J3(ha:PE X a ta):PE X (.UnaryOp .Not a pos) (LU ta):=by
 intro π s σ H Q I h;refine UnaryOp_ (de (ha π s σ H _ I h) λv s1 z9=>?_);obtain⟨x,H1,I1,r1,q1⟩:=z9;obtain⟨c,rfl,q1⟩:=q1;cases r1;exact not_of (Rz ⟨.bl (!c),H1,I1,rfl,q1⟩)
noncomputable def Pw(t:TT) (ta tb:TE):TE:=λσ H Q=>t σ H λc H1=>if c=true then ta σ H1 Q else tb σ H1 Q
def D3(hc:PT X c tA)(ha:PE X a ta)(hb:PE X b tb):PE X (.IfExp c a b pos) (Pw tA ta tb):=by
 intro π s σ H Q I h;refine wpAny_IfExp (de (hc π s σ H _ I h) λd s1 z9=>?_);obtain⟨H1,I1,q1⟩:=z9;cases d with|true=>exact ha π s1 σ H1 Q I1 q1|false=>exact hb π s1 σ H1 Q I1 q1
end
noncomputable def fk(K:P4) (H:Hp) (a:P9) (xs:ad):Prop :=
 Rd H a (.lst xs) ∨
  ∃(o:Obj) (its:Array P2) (n:Nat),K.lookup a=some o/\o.cls=.type "list"/\o.dict=none/\o.data=.seq its n/\its.size<=sizeLine/\bA xs its.toList
noncomputable def kz(K:P4) (H:Hp) (a:P9) (xs:ad):Prop :=
 Rd H a (.tup xs) ∨
  ∃(o:Obj) (its:Array P2) (n:Nat),K.lookup a=some o/\o.cls=.type "tuple"/\o.data=.seq its n/\its.size<=sizeLine/\bA xs its.toList
noncomputable def OF:P2->Option V
 |.none=>some .non
 |.bool b=>some (.bl b)
 |.int i _=>some (.int i)
 |.str x _=>some (.str x)
 |.bytes b _=>some (.byt b)
 |.float b _=>some (.flt b)
 |.ref a=>some (.ref a)
 |.type n=>some (.ty n)
 |_=>none
def bX.abs(r:bX x u):OF u=some x:=by
 cases x with|non|bl _=>cases r;rfl|int _|str _|byt _|flt _=>obtain⟨t,rfl⟩:=r;rfl|ref _|ty _=>cases r;rfl
def bX.inj(r:bX x u)(q:bX y u):x=y:=Q4 (r.abs.symm.trans q.abs)
theorem bA.inj:∀{xs ys:ad}{us:List P2},bA xs us->bA ys us->xs=ys
 |_,_,_,.nil,.nil=>rfl
 |_,_,_,.cons r t,.cons r' t'=>by rw[r.inj r',bA.inj t t']
section
variable {X:Cx}{π:List (P9×Obj)}{σ:St}{H:Hp}{s:Qj}{a:P9}{xs ys:ad}
def fk.of{K:P4}(h:H a=some (.lst xs)):fk K H a xs:=.inl (.inl h)
def kz.of{K:P4}(h:H a=some (.tup xs)):kz K H a xs:=.inl (.inl h)
def Inv.list(I:Inv X π σ H s)(h:fk X.K H a xs):∃its:List P2,bA xs its/\PlainL s.heap a its.toArray/\xs.length<=sizeLine:=by
 rcases h with h|⟨o,its,n,hk,hc,hd,hs,hz,r⟩
 .obtain⟨z,its,n,r,e⟩:=h.ok I.hok
  exact⟨its,r,⟨_,n,e,rfl,rfl,rfl⟩,z⟩
 .refine⟨its.toList,r,⟨o,n,I.kIn a o hk,hc,hd,by simpa using hs⟩,?_⟩
  have e:=r.length;simp only[T5]at e;omega
def Inv.tuple(I:Inv X π σ H s)(h:kz X.K H a xs):∃its:List P2,bA xs its/\IsTup s.heap a its.toArray/\xs.length<=sizeLine:=by
 rcases h with h|⟨o,its,n,hk,hc,hs,hz,r⟩
 .obtain⟨z,its,r,p⟩:=h.ok I.hok
  exact⟨its,r,p,z⟩
 .refine⟨its.toList,r,⟨o,I.kIn a o hk,hc,n,by simpa using hs⟩,?_⟩
  have e:=r.length;simp only[T5]at e;omega
def Inv.list_inj(I:Inv X π σ H s)(h:fk X.K H a xs)(h':fk X.K H a ys):xs=ys:=by
 obtain⟨its,r,⟨o,n,e,_,_,d⟩,_⟩:=I.list h;obtain⟨its',r',⟨o',n',e',_,_,d'⟩,_⟩:=I.list h';rw[e]at e';cases e';rw[d]at d';injection d' with d1 _;have:its=its':=by simpa using congrArg Array.toList d1
 subst this;exact r.inj r'
def Inv.tuple_inj(I:Inv X π σ H s)(h:kz X.K H a xs)(h':kz X.K H a ys):xs=ys:=by
 obtain⟨its,r,⟨o,e,_,n,d⟩,_⟩:=I.tuple h;obtain⟨its',r',⟨o',e',_,n',d'⟩,_⟩:=I.tuple h';rw[e]at e';cases e';rw[d]at d';injection d' with d1 _;have:its=its':=by simpa using congrArg Array.toList d1
 subst this;exact r.inj r'
end
noncomputable abbrev Cx.wish(X:Cx) (E:P2->Qj->Prop):Cx:={ X with xe:=E }
noncomputable abbrev Cx.nox(X:Cx):Cx:=X.wish λ_ _=>False
def Cx.Ok.wish{X:Cx}(ok:X.Ok)(E:P2->Qj->Prop):(X.wish E).Ok :=
 ⟨ok.mod,ok.kind,ok.glob,ok.blt,ok.above,ok.inj,ok.has,ok.cab,ok.hd,ok.frames,ok.stk,ok.exf,ok.bs,ok.bsz,ok.noex,ok.exfs,ok.funs,ok.frf⟩
def Cx.Ok.unwish{X:Cx}(ok:(X.wish E).Ok):X.Ok :=
 ⟨ok.mod,ok.kind,ok.glob,ok.blt,ok.above,ok.inj,ok.has,ok.cab,ok.hd,ok.frames,ok.stk,ok.exf,ok.bs,ok.bsz,ok.noex,ok.exfs,ok.funs,ok.frf⟩
section
variable {X:Cx}{π:List (P9×Obj)}{σ:St}{H:Hp}{s:Qj}{E:P2->Qj->Prop}
def Inv.wish(I:Inv X π σ H s)(E:P2->Qj->Prop):Inv (X.wish E) π σ H s:=⟨I.ok.wish E,I.os,I.bare,I.base,I.loc,I.cell,I.free,I.freeC,I.pin,I.hok,I.len⟩
def Inv.unwish(I:Inv (X.wish E) π σ H s):Inv X π σ H s:=⟨I.ok.unwish,I.os,I.bare,I.base,I.loc,I.cell,I.free,I.freeC,I.pin,I.hok,I.len⟩
def SP.unwish{D:j9}(h:SP (X.wish E) π D f s'):SP X π D f s':=by
 cases f with|next|brk|cont=>obtain⟨σ',H',I,q⟩:=h;exact⟨σ',H',I.unwish,q⟩|ret u=>obtain⟨v,σ',H',I,r,q⟩:=h;exact⟨v,σ',H',I.unwish,r,q⟩
def vn.nox{st:List RH}(h:vn X.nox st t):vn X st t:=λπ s σ H D I hw=>
 Ri (h π s σ H D (I.wish _) hw) (λ_ _ q=>q.unwish) λ_ _ z=>Rn z
end
section
variable {X:Cx}{st:RH}{rest:List RH}{t u:TS}{e:QX}{te:TE}{pos:Pos}
noncomputable def LV:TS:=λD σ H=>D.nx σ H
noncomputable def N1(t u:TS):TS:=λD σ H=>t { D with nx:=u D } σ H
def pG:vn X [] LV:=λ_ _ σ H _ I h=>wpAny_execs_nil ⟨σ,H,I,h⟩
def gG(h1:PS X st t)(h2:vn X rest u):vn X (st::rest) (N1 t u):=by
 intro π s σ H D I h;refine wpAny_execs_cons (de (h1 π s σ H { D with nx:=u D } I h) λf s1 q=>?_);cases f with
 |next=>
  obtain⟨σ',H',I',q⟩:=q;exact h2 π s1 σ' H' D I' q
 |ret v|brk|cont=>exact q
def Inv.quiet(I:Inv X π σ H s):interactive X.env=false:=by simp[interactive,I.ok.kind]
noncomputable def LW(te:TE):TS:=λD σ H=>te σ H λ_ H1=>D.nx σ H1
def pH(he:PE X e te)(hs:Rq e none pos.line X.env=pure false:=by rfl):PS X (.Expr e pos) (LW te):=by
 intro π s σ H D I h;exact wpAny_Expr_any (de (he π s σ H _ I h) λv s1 ⟨x,H1,I1,r1,q1⟩=>⟨σ,H1,I1,q1⟩) I.quiet hs
noncomputable def N2(te:TE):TS:=λD σ H=>te σ H D.rt
def vC(he:PE X e te):PS X (.Return (some e) pos) (N2 te):=by
 intro π s σ H D I h;exact wpAny_Return_some (de (he π s σ H _ I h) λv s1 ⟨x,H1,I1,r1,q1⟩=>⟨x,σ,H1,I1,r1,q1⟩)
noncomputable def N9(c:TT) (t u:TS):TS:=λD σ H=>c σ H λb H1=>if b=true then t D σ H1 else u D σ H1
def ID{a b:List RH}(hc:PT X c tc)(ha:vn X a t)(hb:vn X b u):PS X (.If c a b pos) (N9 tc t u):=by
 intro π s σ H D I h;refine wpAny_If (de (hc π s σ H _ I h) λd s1 z9=>?_);obtain⟨H1,I1,q1⟩:=z9;cases d with|true=>exact ha π s1 σ H1 D I1 q1|false=>exact hb π s1 σ H1 D I1 q1
noncomputable def Jv:TS:=λ_ _ _=>False
def DZ:PS X st Jv:=λ_ _ _ _ _ _ h=>h.elim
end
noncomputable abbrev TG:=V->St->Hp->(St->Hp->Prop)->Prop
noncomputable abbrev LF:=ad->St->Hp->(St->Hp->Prop)->Prop
noncomputable def PG(X:Cx) (target:QX) (t:TG):Prop :=
 ∀(π:List (P9×Obj)) (s:Qj) (σ:St) (H:Hp) (v:V) (u:P2) (Q:St->Hp->Prop),Inv X π σ H s->bX v u->t v σ H Q ->
  QC (QB X.prog X.w) X.A (assign target X.env u) (λ_ s'=>∃σ' H',Inv X π σ' H' s'/\Q σ' H') X.xe s
noncomputable def CU(X:Cx) (ts:List QX) (t:LF):Prop :=
 ∀(π:List (P9×Obj)) (s:Qj) (σ:St) (H:Hp) (vs:ad) (us:List P2) (Q:St->Hp->Prop),Inv X π σ H s->bA vs us->t vs σ H Q ->
  QC (QB X.prog X.w) X.A (assignInOrder ((assignEach ts X.env).map (·.2)) us) (λ_ s'=>∃σ' H',Inv X π σ' H' s'/\Q σ' H') X.xe s
noncomputable abbrev Nq:=V->V->V->Hp->(Hp->Prop)->Prop
noncomputable def Nt(X:Cx) (t:Nq):Prop :=
 ∀(π:List (P9×Obj)) (s:Qj) (σ:St) (H:Hp) (o i v:V) (ov iv u:P2) (Q:Hp->Prop),Inv X π σ H s->bX o ov->bX i iv->bX v u->t o i v H Q ->
  QC (QB X.prog X.w) X.A (setItem ov iv u) (λ_ s'=>∃H',Inv X π σ H' s'/\Q H') X.xe s
section
variable {X:Cx}{pos:Pos}
noncomputable def Ba(i:Nat):TG:=λv σ H Q=>Q (σ.set i (some v)) H
def AH(hN:X.N.Nodup)(hi:X.N[i]?=some x)(hx:CY X.env.scope x)(hf:X.fn x=true∨X.env.scope.names.lookup x=some .local := by first|exact .inl rfl|exact .inr rfl|assumption):PG X (.Name x pos) (Ba i):=by
 intro π s σ H v u Q I r h;exact wpAny_assign_Name (lr I hN hi hx r (λs' I'=>⟨_,H,I',h⟩) hf)
noncomputable def Oz:LF:=λvs σ H Q=>vs=[]/\Q σ H
noncomputable def MY(t:TG) (u:LF):LF:=λvs σ H Q=>∃v r,vs=v::r/\t v σ H λσ' H'=>u r σ' H' Q
def GX:CU X [] Oz:=by
 intro π s σ H vs us Q I r h;obtain⟨e,h⟩:=h;subst e;cases r;exact assignInOrder_nil ⟨σ,H,I,h⟩
def D1(h1:PG X e t)(h2:CU X es u)
  (hs:(assignEach (e::es) X.env).map (·.2)=assign e X.env::(assignEach es X.env).map (·.2):=by rfl):CU X (e::es) (MY t u):=by
 intro π s σ H vs us Q I r h;obtain⟨v,vr,e1,h⟩:=h;subst e1;cases r with
 |cons r rr=>
  rw[hs];refine assignInOrder_cons (de (h1 π s σ H _ _ _ I r h) λ_ s1 z9=>?_);obtain⟨σ1,H1,I1,q1⟩:=z9;exact h2 π s1 σ1 H1 _ _ Q I1 rr q1
noncomputable def Ox(K:P4) (n:Nat) (t:LF):TG:=λv σ H Q=>∃a xs,v=.ref a/\kz K H a xs/\xs.length=n/\t xs σ H Q
def JX(hc:X.calm=true)(h:CU X es t)
  (hn:(assignEach es X.env).length=n:=by rfl)(hst:(assignEach es X.env).findIdx? (·.1)=none:=by rfl):PG X (.Tuple es k pos) (Ox X.K n t):=by
 intro π s σ H v u Q I r hw;obtain⟨a,xs,e1,hq,hl,hw⟩:=hw;subst e1;cases r;obtain⟨its,rv,ht,hz⟩:=I.tuple hq;refine assign_Tuple_tuple (I.ok.hd hc) ht (by simp[hn,←hl,rv.length]) hst λh' hx=>?_;have I1:Inv X π σ H { s with heap:=h' }:=I.kept (t':=s.toks) λb o e=>hx b o (QW (Qv e)) e;exact h π _ σ H xs _ Q I1 (by simpa using rv) hw
noncomputable def Oy(to ti:TE) (t:Nq):TG:=λv σ H Q=>to σ H λo H1=>ti σ H1 λi H2=>t o i v H2 λH3=>Q σ H3
def zd(ho:PE X o to)(hi:PE X i ti)(hs:Nt X t)
  (ha:∀v,assign (.Subscript o i pos) X.env v=(do
   let ov ←Sa [v] (eval o X.env)
   let iv ←Sa [v,ov] (eval i X.env)
   standAt pos
   Sa [v,ov,iv] (setItem ov iv v)
   release [v,ov,iv] []):=by intro _;rfl):PG X (.Subscript o i pos) (Oy to ti t):=by
 intro π s σ H v u Q I r h;rw[ha];refine P8 (Ry (de (ho π s σ H _ I h) λov s1 ⟨x,H1,I1,r1,q1⟩=>?_));refine P8 (Ry (de (hi π s1 σ H1 _ I1 q1) λiv s2 ⟨y,H2,I2,r2,q2⟩=>?_));refine P8 (wpAny_standAt (P8 (Ry (de (hs π s2 σ H2 x y v ov iv u _ I2 r1 r2 r q2) λ_ s3 z9=>?_))));obtain⟨H3,I3,q3⟩:=z9;exact wpAny_release ⟨σ,H3,I3,q3⟩
noncomputable def GB(te:TE) (g:TG):TS:=λD σ H=>te σ H λx H1=>g x σ H1 D.nx
def vE(he:PE X e te)(hg:PG X tg g)(hs:swapsWithSole [tg] e pos.line X.env=pure false:=by rfl)(hw:swappedStores [tg] e X.env=pure none:=by rfl)
  (h1:(assignEach [tg] X.env).map (·.2)=[assign tg X.env]:=by rfl):PS X (.Assign [tg] e pos) (GB te g):=by
 intro π s σ H D I h;refine wpAny_Assign_stores (de (he π s σ H _ I h) λv s1 z9=>?_) hs hw;obtain⟨x,H1,I1,r1,q1⟩:=z9;rw[h1];exact de (hg π s1 σ H1 x v _ I1 r1 q1) λ_ s2 q=>q
def nG(hN:X.N.Nodup)(hi:X.N[i]?=some x)(hx:CY X.env.scope x)(he:PE X e te)(hs:Rq e (some (.Name x pos')) pos.line X.env=pure false:=by rfl)(hf:X.fn x=true∨X.env.scope.names.lookup x=some .local := by first|exact .inl rfl|exact .inr rfl|assumption) :
  PS X (.Assign [.Name x pos'] e pos) (GB te (Ba i)):=by
 intro π s σ H D I h;refine wpAny_Assign_Name (de (he π s σ H _ I h) λv s1 z9=>?_) hs;obtain⟨y,H1,I1,r1,q1⟩:=z9;exact lr I1 hN hi hx r1 (λs2 I2=>⟨_,H1,I2,q1⟩) hf
noncomputable def N3(i j:Nat) (ta:TA):TS:=λD σ H=>ta σ H λvs H1=>∃v w,vs=[v,w]/\D.nx ((σ.set i (some v)).set j (some w)) H1
def JU{a b:QX}{px py pt:Pos}{kt k2 pt2}(hc:X.calm=true)(hN:X.N.Nodup)(hi:X.N[i]?=some x)(hj:X.N[j]?=some y)(hij:i≠j)
  (hx:X.env.scope.names.lookup x=some .local)(hy:X.env.scope.names.lookup y=some .local)(ha:PA X [a,b] ta)
  (hw:swappedStores [.Tuple [.Name x px,.Name y py] kt pt] (.Tuple [a,b] k2 pt2) X.env=pure (some [x,y]))
  (hs:swapsWithSole [.Tuple [.Name x px,.Name y py] kt pt] (.Tuple [a,b] k2 pt2) pos.line X.env=pure false:=by rfl) :
  PS X (.Assign [.Tuple [.Name x px,.Name y py] kt pt] (.Tuple [a,b] k2 pt2) pos) (N3 i j ta):=by
 intro π s σ H D I h;rw[exec_Assign_arm];refine P8 (wpAny_standAt ?_);rw[hs];refine P8 (QH ?_);rw[if_neg (by decide)];refine P8 (Tuple_ (de (ha _ π s σ H _ I h) λus s1 z9=>?_));obtain⟨vs,H1,I1,r1,q1⟩:=z9;obtain⟨v,w,e1,q1⟩:=q1;subst e1;obtain⟨u1,u2,rfl,rv,rw'⟩:∃u1 u2,us=[u1,u2]/\bX v u1/\bX w u2:=by
  cases r1 with
  |cons p q=>
   cases q with
   |cons p' q'=>
    cases q';exact⟨_,_,rfl,p,p'⟩
 refine wpAny_newObj_type ?_ (by show 2<=sizeLine;decide);have I2:Inv X π σ H1 { s1 with heap:=s1.heap.push { cls:=.type "tuple",data:=.seq [u1,u2].toArray } }:=I1.kept (t':=s1.toks) λb o e=>Qe _ e;rw[hw];refine P8 (QH ?_);show QC (QB X.prog X.w) X.A (do rule "assign.swapped-stores";let items ←unpackItems (.ref s1.heap.objs.size) 2 none;assignInOrder [λv=>bindName X.env y v,λv=>bindName X.env x v] items.reverse;pure Flow.next) _ _ _;refine P8 (wpAny_rule (P8 (unpackItems_tuple (items:=#[u1,u2]) (I.ok.hd hc) (IsTup.new s1.heap _) λh' hx'=>?_)));have I3:=I2.kept (h':=h') (t':=s1.toks) λb o e=>hx' b o (QW (Qv e)) e;show QC _ _ (assignInOrder [λv=>bindName X.env y v,λv=>bindName X.env x v] [u2,u1] >>= λ_=>pure Flow.next) _ _ _;refine P8 (assignInOrder_cons (wpAny_bindName (lr I3 hN hj (.inl hy) rw' (λs2 I4=>?_) (.inr hy))));refine assignInOrder_cons (wpAny_bindName (lr I4 hN hi (.inl hx) rv (λs3 I5=>assignInOrder_nil (QH ?_)) (.inr hx)));rw[List.set_comm _ _ (Q2 hij)]at I5;exact⟨_,H1,I5,q1⟩
end
section
variable {X:Cx}{pos:Pos}
noncomputable def Ju(c:TT) (tb:TS):TS:=λD σ H=>∃W:Nat->St->Hp->Prop,(∃m,W m σ H)/\∀m σ H,W m σ H ->
 c σ H λb H1=>if b=true then ∃N:St->Hp->Prop,(∀σ' H',N σ' H'->∃m',m' < m/\W m' σ' H')/\tb { D with nx:=N,ct:=N,bk:=D.nx } σ H1 else D.nx σ H1
def DY(hp:PassesOwn (QB X.prog X.w) X.A X.env X.xe)(hc:PT X c tc)(hb:vn X body tb):PS X (.While c body [] pos) (Ju tc tb):=by
 intro π s σ H D I h;obtain⟨W,⟨m0,w0⟩,turn⟩:=h;refine wpAny_While (codeAny_whileLoop (λn s'=>∃σ' H',Inv X π σ' H' s'/\W n σ' H') ?_ m0 ⟨σ,H,I,w0⟩);rintro n s1 ⟨σ1,H1,I1,w1⟩;refine wpAny_passesOwn hp (de (hc π s1 σ1 H1 _ I1 (turn n σ1 H1 w1)) λb s2 z9=>?_);obtain⟨H2,I2,q2⟩:=z9;cases b with
 |true=>
  obtain⟨N,hN,q2⟩:=q2;rw[if_pos rfl];refine wpAny_passesOwn hp (de (hb π s2 σ1 H2 _ I2 q2) λf s3 q3=>?_);cases f with
  |next=>
   obtain⟨σ3,H3,I3,n3⟩:=q3;obtain⟨m',hm,w3⟩:=hN σ3 H3 n3;exact⟨m',hm,σ3,H3,I3,w3⟩
  |cont=>
   obtain⟨σ3,H3,I3,n3⟩:=q3;obtain⟨m',hm,w3⟩:=hN σ3 H3 n3;exact⟨m',hm,σ3,H3,I3,w3⟩
  |brk|ret v=>exact q3
 |false=>
  rw[if_neg Ru];exact wpAny_execs_nil ⟨σ1,H2,I2,q2⟩
end
structure It where
 go:Nat->Hp->Prop
 yld:Nat->Hp->V->Hp->Prop
 stop:Nat->Hp->Prop
noncomputable def nk(X:Cx) (π:List (P9×Obj)) (H:Hp) (b:P9):Prop :=
 H b=none/\b≠X.env.locals/\b∉X.fs/\(b∈X.ex∨X.sf.heap.objs.size<=b)/\(∀x c,X.env.cells.lookup x=some c->c≠b)/\∀p∈X.pn++π,p.1≠b
def Inv.fpOk{b:P9}(I:Inv X π σ H s)(hb:s.heap.objs.size<=b)(hn:H' b=none):nk X π H' b:=by
 refine⟨hn,Nat.ne_of_gt (Qk I.lt hb),I.nofs hb,.inr (QM I.sz hb),λx c e z=>?_,λp hp z=>?_⟩
 .obtain⟨v,q⟩:=I.cell x c e
  exact absurd (Qk q.lt (by rw[z];exact hb)) (Si _)
 .exact absurd (Qk (Qv (I.pin p hp).1) (by rw[z];exact hb)) (Si _)
structure Aa (P:Ra) (w:Rr) (K:P4) (tg:QX) (J:It) (fp:List P9) (it:P9) (tn:Nat->Qr->Prop):Prop where
 mem:it∈fp
 obj:∀i h,tn i h->∀b∈fp,∃o,h.get? b=some o/\∀v,o.data≠.cell v
 keep:∀i h h',tn i h->(∀b∈fp,∀o,h.get? b=some o->h'.get? b=some o)->tn i h'
 item:∀(X:Cx),X.prog=P->X.w=w->X.K=K->X.calm=true->∀(i:Nat) (π:List (P9×Obj)) (s:Qj) (σ:St) (H:Hp) (E:P2->Qj->Prop),Inv X π σ H s->(∀b∈fp,nk X π H b)->tn i s.heap->J.go i H ->
  QC (QB P w) X.A (pyNext (.ref it)) (λr s1=>∃u,r=some u /\
   QC (QB P w) X.A (letOwnedTupleGo tg (.ref it) u) (λ_ s2=>∃x H',Inv X π σ H' s2/\bX x u/\J.yld i H x H'/\tn (i+1) s2.heap/\∀b∈fp,H' b=none) E s1) E s
 done:∀(X:Cx),X.prog=P->X.w=w->X.K=K->X.calm=true->∀(i:Nat) (π:List (P9×Obj)) (s:Qj) (σ:St) (H:Hp) (E:P2->Qj->Prop),Inv X π σ H s->(∀b∈fp,nk X π H b)->tn i s.heap->J.stop i H ->
  QC (QB P w) X.A (pyNext (.ref it)) (λr s1=>r=none/\Inv X π σ H s1) E s
 self:∀(A:Q0) (i:Nat) (s:Qj) (Q:P2->Qj->Prop) (E:P2->Qj->Prop),tn i s.heap->Q (.ref it) s->QC (QB P w) A (pyIter (.ref it)) Q E s
noncomputable abbrev TI:=St->Hp->(It->Hp->Prop)->Prop
noncomputable def OJ(X:Cx) (π:List (P9×Obj)) (σ:St) (tg:QX) (R:It->Hp->Prop) (itv:P2) (s2:Qj):Prop :=
 ∃(it:P9) (fp:List P9) (tn:Nat->Qr->Prop) (J:It) (H':Hp),itv=.ref it/\Inv X π σ H' s2/\Aa X.prog X.w X.K tg J fp it tn/\tn 0 s2.heap/\(∀b∈fp,nk X π H' b)/\R J H'
noncomputable def PI(X:Cx) (tg iter:QX) (wi:TI):Prop :=
 ∀(π:List (P9×Obj)) (s:Qj) (σ:St) (H:Hp) (R:It->Hp->Prop),Inv X π σ H s->wi σ H R ->
  QC (QB X.prog X.w) X.A (eval iter X.env) (λv s1=>QC (QB X.prog X.w) X.A (pyIter v) (OJ X π σ tg R) X.xe s1) X.xe s
def xT{A:Q0}(ho:s.heap.get? it=some o)(hc:o.cls=.type n)(hd:o.data=.fields vs)
  (hn:["enumerate","zip","dict_itemiterator","dict_reverseitemiterator","odict_iterator","itertools.zip_longest","itertools.pairwise"].contains n=false)(hQ:Q () s):QC M A (letOwnedTupleGo tg (.ref it) u) Q E s:=by
 unfold letOwnedTupleGo;cases tg<;>first
  |exact QH hQ
  |(cases u<;>first
    |exact QH hQ
    |(refine P8 (wpAny_load ho ?_);rw[hc,hd];show QC M A (if(["enumerate","zip","dict_itemiterator","dict_reverseitemiterator","odict_iterator","itertools.zip_longest","itertools.pairwise"].contains n&&vs[0]?==some (rawInt _))=true then _ else _) Q E s;rw[if_neg (by intro h;rw[hn,Sm]at h;cases h)];exact QH hQ))
noncomputable def Nx(K:P4) (a:P9):It :=
 ⟨λi H=>∃xs x,fk K H a xs/\xs[i]?=some x,λi H x H'=>H'=H/\∀xs,fk K H a xs->xs[i]?=some x,λi H=>∃xs,fk K H a xs/\xs.length<=i⟩
noncomputable def Pg(K:P4) (a:P9):It :=
 ⟨λi H=>∃xs x,kz K H a xs/\xs[i]?=some x,λi H x H'=>H'=H/\∀xs,kz K H a xs->xs[i]?=some x,λi H=>∃xs,kz K H a xs/\xs.length<=i⟩
noncomputable def Lj(lo:Int) (n:Nat):It:=⟨λi _=>i<n,λi H x H'=>H'=H/\x=.int (lo+i),λi _=>n<=i⟩
def B1{P:Ra}{w:Rr}{K:P4}{tg:QX}(a it:P9):Aa P w K tg (Nx K a) [it] it (λi h=>h.IsListIter it a i) where
 mem:=by simp
 obj:=λi h st b hb=>by
  have e:b=it:=by simpa using hb
  subst e;obtain⟨o,e,c,d⟩:=st;exact⟨o,e,λv z=>by rw[d]at z;cases z⟩
 keep:=λi h h' st k=>st.at λo e=>k it (by simp) o e
 item:=by
  intro X hP hw hK hc i π s σ H E I hf st hg;subst hP hw hK;obtain⟨xs,x,hq,hx⟩:=hg;obtain⟨its,rv,p,hz⟩:=I.list hq;obtain⟨u,hu,ru⟩:=rv.get hx;obtain⟨f0,f1,f2,f3,f4,f5⟩:=hf it (by simp);refine wpAny_pyNext_list_item st p.isList (x:=u) (by simpa using hu) λh' st' sb=>?_;have I1:Inv X π σ H { s with heap:=h' }:=I.turned (t':=s.toks) (λb o hb e=>(sb.2 b hb).trans e) f0 f1 f3 f4 f5;obtain⟨o,e,c,d⟩:=id st';exact⟨u,rfl,xT (s:={ s with heap:=h' }) e c d (by decide) ⟨x,H,I1,ru,⟨rfl,λys hy=>by rw[I.list_inj hy hq];exact hx⟩,st',λb hb=>(hf b hb).1⟩⟩
 done:=by
  intro X hP hw hK hc i π s σ H E I hf st hg;subst hP hw hK;obtain⟨xs,hq,hx⟩:=hg;obtain⟨its,rv,p,hz⟩:=I.list hq;obtain⟨f0,f1,f2,f3,f4,f5⟩:=hf it (by simp);have hl:=rv.length;exact wpAny_pyNext_list_end (I.ok.hd hc) st p.isList (by simp;omega) λh' eb=>⟨rfl,I.turned (t':=s.toks) (λb o hb e=>eb b o hb e) f0 f1 f3 f4 f5⟩
 self:=λ_ _ _ _ _ st h=>wpAny_pyIter_listiter st h
def yQ{P:Ra}{w:Rr}{K:P4}{tg:QX}(a it:P9):Aa P w K tg (Pg K a) [it] it (λi h=>h.IsTupleIter it a i) where
 mem:=by simp
 obj:=λi h st b hb=>by
  have e:b=it:=by simpa using hb
  subst e;obtain⟨o,e,c,d⟩:=st;exact⟨o,e,λv z=>by rw[d]at z;cases z⟩
 keep:=λi h h' st k=>st.at λo e=>k it (by simp) o e
 item:=by
  intro X hP hw hK hc i π s σ H E I hf st hg;subst hP hw hK;obtain⟨xs,x,hq,hx⟩:=hg;obtain⟨its,rv,p,hz⟩:=I.tuple hq;obtain⟨u,hu,ru⟩:=rv.get hx;obtain⟨f0,f1,f2,f3,f4,f5⟩:=hf it (by simp);refine wpAny_pyNext_tuple_item st (show s.heap.IsTuple a its.toArray from p) (x:=u) (by simpa using hu) λh' st' sb=>?_;have I1:Inv X π σ H { s with heap:=h' }:=I.turned (t':=s.toks) (λb o hb e=>(sb.2 b hb).trans e) f0 f1 f3 f4 f5;obtain⟨o,e,c,d⟩:=id st';exact⟨u,rfl,xT (s:={ s with heap:=h' }) e c d (by decide) ⟨x,H,I1,ru,⟨rfl,λys hy=>by rw[I.tuple_inj hy hq];exact hx⟩,st',λb hb=>(hf b hb).1⟩⟩
 done:=by
  intro X hP hw hK hc i π s σ H E I hf st hg;subst hP hw hK;obtain⟨xs,hq,hx⟩:=hg;obtain⟨its,rv,p,hz⟩:=I.tuple hq;obtain⟨f0,f1,f2,f3,f4,f5⟩:=hf it (by simp);have hl:=rv.length;exact wpAny_pyNext_tuple_end (I.ok.hd hc) st (show s.heap.IsTuple a its.toArray from p) (by simp;omega) λh' eb=>⟨rfl,I.turned (t':=s.toks) (λb o hb e=>eb b o hb e) f0 f1 f3 f4 f5⟩
 self:=λ_ _ _ _ _ st h=>wpAny_pyIter_tupleiter st h
def yR{P:Ra}{w:Rr}{K:P4}{tg:QX}(it:P9)(lo:Int)(n:Nat):Aa P w K tg (Lj lo n) [it] it (λi h=>IsRangeIter h it (lo+(i:Nat)*1) ((n:Int)-(i:Nat)) 1) where
 mem:=by simp
 obj:=λi h st b hb=>by
  have e:b=it:=by simpa using hb
  subst e;exact⟨_,st,λv z=>by
   have z':Data.fields _=Data.cell v:=z;cases z'⟩
 keep:=λi h h' st k=>k it (by simp) _ st
 item:=by
  intro X hP hw hK hc i π s σ H E I hf st hg;subst hP hw hK;obtain⟨f0,f1,f2,f3,f4,f5⟩:=hf it (by simp);have W:=Walks.range (prog:=X.prog) (w:=X.w) (I.ok.hd hc) it lo 1 n;refine W.item i s _ _ hg st λv h' tk hv st' kk=>?_;obtain⟨t,rfl⟩:=hv;have I1:Inv X π σ H { s with heap:=h',toks:=tk }:=I.turned (λb o hb e=>kk b o (by simpa using hb) e) f0 f1 f3 f4 f5;refine⟨_,rfl,xT (s:={ s with heap:=h',toks:=tk }) (n:="range_iterator") st' rfl rfl (by decide) ⟨.int (lo+i),H,I1,⟨t,?_⟩,⟨rfl,rfl⟩,st',λb hb=>(hf b hb).1⟩⟩;rw[Int.mul_one]
 done:=by
  intro X hP hw hK hc i π s σ H E I hf st hg;subst hP hw hK;obtain⟨f0,f1,f2,f3,f4,f5⟩:=hf it (by simp);exact wpAny_pyNext_range_end (I.ok.hd hc) st (by have:n<=i:=hg;omega) λh' eb=>⟨rfl,I.turned (t':=s.toks) (λb o hb e=>eb b o hb e) f0 f1 f3 f4 f5⟩
 self:=λ_ _ _ _ _ st h=>wpAny_pyIter_rangeiter st h
section
variable {X:Cx}{tg:QX}
noncomputable def MU(K:P4) (tl:TE):TI:=λσ H R=>tl σ H λx H1=>∃a,x=.ref a/\(∃xs,fk K H1 a xs)/\R (Nx K a) H1
noncomputable def Ov(K:P4) (tl:TE):TI:=λσ H R=>tl σ H λx H1=>∃a,x=.ref a/\(∃xs,kz K H1 a xs)/\R (Pg K a) H1
def vF(hl:PE X l tl):PI X tg l (MU X.K tl):=by
 intro π s σ H R I h;refine de (hl π s σ H _ I h) λv s1 ⟨x,H1,I1,r1,q1⟩=>?_;obtain⟨a,e,⟨xs,hq⟩,q⟩:=q1;subst e;cases r1;obtain⟨its,rv,p,hz⟩:=I1.list hq;refine wpAny_pyIter_list p.isList ?_;refine⟨s1.heap.objs.size,[s1.heap.objs.size],_,_,H1,rfl,I1.kept (t':=s1.toks) λb o e=>Qe _ e,B1 a _,⟨_,Q9 _ rfl,rfl,rfl⟩,λb hb=>?_,q⟩;have e:b=s1.heap.objs.size:=by simpa using hb
 subst e;exact I1.fpOk (Ql _) (I1.hok.fresh (Ql _))
def JV(hl:PE X l tl):PI X tg l (Ov X.K tl):=by
 intro π s σ H R I h;refine de (hl π s σ H _ I h) λv s1 ⟨x,H1,I1,r1,q1⟩=>?_;obtain⟨a,e,⟨xs,hq⟩,q⟩:=q1;subst e;cases r1;obtain⟨its,rv,p,hz⟩:=I1.tuple hq;refine wpAny_pyIter_tuple (show s1.heap.IsTuple a its.toArray from p) ?_;refine⟨s1.heap.objs.size,[s1.heap.objs.size],_,_,H1,rfl,I1.kept (t':=s1.toks) λb o e=>Qe _ e,yQ a _,⟨_,Q9 _ rfl,rfl,rfl⟩,λb hb=>?_,q⟩;have e:b=s1.heap.objs.size:=by simpa using hb
 subst e;exact I1.fpOk (Ql _) (I1.hok.fresh (Ql _))
def DJ{lo hi:Int}(I:Inv X π σ H s)(h1:-(2 ^ 62)<=lo)(h2:lo<2 ^ 62)(h3:-(2 ^ 62)<=hi)(h4:hi<2 ^ 62)
  (q:R (Lj lo (hi-lo).toNat) H):QC (QB X.prog X.w) X.A (pyIter (.ref s.heap.objs.size)) (OJ X π σ tg R) E { s with heap:=s.heap.push { cls:=.type "range",data:=.fields #[.int lo t,.int hi u,.int 1 v] },toks:=tk }:=by
 refine wpAny_pyIter_range (IsRange.new ..) (small_one h1 h2 h3 h4) ?_;have I1:Inv X π σ H { s with heap:=s.heap.push { cls:=.type "range",data:=.fields #[.int lo t,.int hi u,.int 1 v] },toks:=tk }:=I.kept λb o e=>Qe _ e;refine⟨(s.heap.push { cls:=.type "range",data:=.fields #[.int lo t,.int hi u,.int 1 v] }).objs.size,[(s.heap.push { cls:=.type "range",data:=.fields #[.int lo t,.int hi u,.int 1 v] }).objs.size],_,_,H,rfl,
  I1.kept (t':=tk) λb o e=>Qe _ e,yR _ lo (hi-lo).toNat,?_,λb hb=>?_,q⟩
 .have e1:lo+((0:Nat):Int)*1=lo:=by simp
  have e2:(((hi-lo).toNat:Nat):Int)-((0:Nat):Int)=Builtin.Range.rangeSize lo hi 1:=by rw[rangeSize_one];split<;>omega
  show IsRangeIter _ _ (lo+((0:Nat):Int)*1) ((((hi-lo).toNat:Nat):Int)-((0:Nat):Int)) 1;rw[e1,e2];exact Q9 _ rfl
 .have e:b=(s.heap.push { cls:=.type "range",data:=.fields #[.int lo t,.int hi u,.int 1 v] }).objs.size:=by simpa using hb
  subst e;exact I1.fpOk (Ql _) (I1.hok.fresh (Ql _))
noncomputable def MT(ta:TA):TI:=λσ H R=>ta σ H λvs H1=>∃j:Int,vs=[.int j]/\-(2 ^ 62)<=j/\j<2 ^ 62/\R (Lj 0 j.toNat) H1
def nH(hg:Gl X "range")(hm:X.mg "range"=none)(ha:PA X [a] ta)(hs:Qb [a] X.env=[(false,eval a X.env)]:=by rfl):PI X tg (.Call (.Name "range" p) [a] [] pos) (MT ta):=by
 intro π s σ H R I h;refine Call_ (q9 I hg hm boot_range (Tn (de (ha pos π s σ H _ I h) λus s1 z9=>?_) hs rfl));obtain⟨vs,H1,I1,r1,q1⟩:=z9;obtain⟨j,e,q1,q2,q⟩:=q1;subst e;cases r1 with
 |cons r rr=>
  cases rr;obtain⟨t,rfl⟩:=r;exact call_range_1 (DJ I1 (by omega) (by omega) q1 q2 (by simpa using q))
noncomputable def Ob(wi:TI) (g:TG) (tb:TS):TS:=λD σ H=>wi σ H λJ H1=>∃W:Nat->Nat->St->Hp->Prop,(∃m,W 0 m σ H1)/\∀i m σ H,W i m σ H ->
 (J.stop i H/\D.nx σ H)∨(J.go i H/\∃N:St->Hp->Prop,(∀σ' H',N σ' H'->∃m',m' < m/\W (i+1) m' σ' H')/\∀x H',J.yld i H x H'->g x σ H' λσ2 H2=>tb { D with nx:=N,ct:=N,bk:=D.nx } σ2 H2)
noncomputable def qI(fp:List P9) (h:Qr):List (P9×Obj):=fp.filterMap λb=>(h.get? b).map λo=>(b,o)
def jf{h:Qr}{b:P9}(hb:b∈fp)(e:h.get? b=some o):(b,o)∈qI fp h:=Tr.mpr ⟨b,hb,by rw[e];rfl⟩
def Cg{h:Qr}(hp:p∈qI fp h):p.1∈fp/\h.get? p.1=some p.2:=by
 obtain⟨b,hb,e⟩:=Tr.mp hp;cases q:h.get? b with
 |none=>rw[q]at e;cases e
 |some o=>
  rw[q]at e;have e':(b,o)=p:=Q4 e;subst e';exact⟨hb,q⟩
def Inv.pinned(I:Inv X π σ H s)(hf:∀b∈fp,nk X π H b)(ho:∀b∈fp,∃o,s.heap.get? b=some o/\∀v,o.data≠.cell v):Inv X (π++qI fp s.heap) σ H s :=
 I.pins_of λp hp=>(QQ.mp hp).elim (λz=>I.pin p (QR _ z)) λz=>by
  obtain⟨hb,e⟩:=Cg z;obtain⟨f0,f1,f2,_⟩:=hf p.1 hb;obtain⟨o,e',d⟩:=ho p.1 hb;rw[e]at e';cases e';exact⟨e,f0,f1,f2,d⟩
def Inv.unpinned{π pl:List (P9×Obj)}(I:Inv X (π++pl) σ H s):Inv X π σ H s:=I.pins_of λp hp=>I.pin p (QR _ (Rl _ hp))
def vD(hp:PassesOwn (QB X.prog X.w) X.A X.env X.xe)(hc:X.calm=true)(hi:PI X tg iter wi)(hg:PG X tg g)(hb:vn X body tb)
  (hs:∀x,foldedSetIterable iter X.env x=pure x:=by intro _;rfl):PS X (.For tg iter body [] pos) (Ob wi g tb):=by
 intro π s σ H D I h;refine wpAny_For (de (hi π s σ H _ I h) λv s1 h1=>de h1 λitv s2 h2=>?_) hs;obtain⟨it,fp,tn,J,H2,e,I2,T,st2,f2,W,⟨m0,w0⟩,turn⟩:=h2;subst e;have stat:∀{H':Hp},(∀b∈fp,H' b=none)->∀b∈fp,nk X π H' b:=λhn b hb=>⟨hn b hb,(f2 b hb).2⟩
 refine codeAny_forLoop_any (λn s'=>∃i σ' H',Inv X π σ' H' s'/\tn i s'.heap/\(∀b∈fp,H' b=none)/\W i n σ' H') ?_ m0 ⟨0,σ,H2,I2,st2,λb hb=>(f2 b hb).1,w0⟩;rintro n s3 ⟨i,σ3,H3,I3,st3,fr3,w3⟩;rcases turn i n σ3 H3 w3 with⟨stop,qn⟩|⟨go,N,hN,step⟩
 .refine wpAny_passesOwn hp (de (T.done X rfl rfl rfl hc i π s3 σ3 H3 X.xe I3 (stat fr3) st3 stop) λr s4 ⟨hr,I4⟩=>?_)
  subst hr;exact wpAny_execs_nil ⟨σ3,H3,I4,qn⟩
 .refine wpAny_passesOwn hp (de (T.item X rfl rfl rfl hc i π s3 σ3 H3 X.xe I3 (stat fr3) st3 go) λr s4 ⟨u,hr,h4⟩=>?_)
  subst hr;refine wpAny_passesOwn hp (de h4 λ_ s5 ⟨x,H5,I5,r5,y5,st5,fr5⟩=>?_);have I5':=I5.pinned (stat fr5) (T.obj _ _ st5);refine wpAny_passesOwn hp (de (hg _ s5 σ3 H5 x u _ I5' r5 (step x H5 y5)) λ_ s6 ⟨σ6,H6,I6,q6⟩=>?_);refine wpAny_passesOwn hp (de (hb _ s6 σ6 H6 _ I6 q6) λf s7 q7=>?_);have again:∀{σ7:St}{H7:Hp},Inv X (π++qI fp s5.heap) σ7 H7 s7->N σ7 H7->∃m,m<n/\∃i σ' H',Inv X π σ' H' s7/\tn i s7.heap/\(∀b∈fp,H' b=none)/\W i m σ' H':=λ{σ7 H7} I7 n7=>by
   obtain⟨m',hm,w7⟩:=hN σ7 H7 n7;refine⟨m',hm,i+1,σ7,H7,I7.unpinned,T.keep _ _ _ st5 λb hb o e=>(I7.pin (b,o) (QR _ (QR _ (jf hb e)))).1,λb hb=>?_,w7⟩;obtain⟨o,e,d⟩:=T.obj _ _ st5 b hb;exact(I7.pin (b,o) (QR _ (QR _ (jf hb e)))).2.1
  cases f with|next|cont=>obtain⟨σ7,H7,I7,n7⟩:=q7;exact again I7 n7|brk=>obtain⟨σ7,H7,I7,q7⟩:=q7;exact⟨σ7,H7,I7.unpinned,q7⟩|ret v=>obtain⟨x7,σ7,H7,I7,r7,q7⟩:=q7;exact⟨x7,σ7,H7,I7.unpinned,r7,q7⟩
end
def EV{K:P4}{g:TG}{tb:TS}{D:j9}(Pv:Nat->St->Hp->Prop)(h0:Pv 0 σ H)(hl:∀i σ H,i<=xs.length->Pv i σ H->fk K H a xs)
  (hs:∀i x σ H,xs[i]?=some x->Pv i σ H->g x σ H λσ2 H2=>tb { D with nx:=Pv (i+1),ct:=Pv (i+1),bk:=D.nx } σ2 H2)(hd:∀σ H,Pv xs.length σ H->D.nx σ H) :
  ∃W:Nat->Nat->St->Hp->Prop,(∃m,W 0 m σ H)/\∀i m σ H,W i m σ H ->
   ((Nx K a).stop i H/\D.nx σ H)∨((Nx K a).go i H/\∃N:St->Hp->Prop,(∀σ' H',N σ' H'->∃m',m' < m/\W (i+1) m' σ' H')/\∀x H',(Nx K a).yld i H x H'->g x σ H' λσ2 H2=>tb { D with nx:=N,ct:=N,bk:=D.nx } σ2 H2):=by
 refine⟨λi m σ H=>m=xs.length-i/\i<=xs.length/\Pv i σ H,⟨xs.length,by simp,R0 _,h0⟩,?_⟩;rintro i m σ H ⟨rfl,hi,p⟩;have q:=hl i σ H hi p
 by_cases hlt:i<xs.length
 .refine .inr ⟨⟨xs,xs[i],q,by simp[hlt]⟩,Pv (i+1),λσ' H' p'=>⟨xs.length-(i+1),by omega,rfl,hlt,p'⟩,λx H' y=>?_⟩
  obtain⟨e,y⟩:=y;subst e;exact hs i x σ _ (y xs q) p
 .have e:i=xs.length:=by omega
  subst e;exact .inl ⟨⟨xs,q,Ql _⟩,hd σ H p⟩
def Cu{lo:Int}{g:TG}{tb:TS}{D:j9}(Pv:Nat->St->Hp->Prop)(h0:Pv 0 σ H)
  (hs:∀i σ H,i<n->Pv i σ H->g (.int (lo+i)) σ H λσ2 H2=>tb { D with nx:=Pv (i+1),ct:=Pv (i+1),bk:=D.nx } σ2 H2)(hd:∀σ H,Pv n σ H->D.nx σ H) :
  ∃W:Nat->Nat->St->Hp->Prop,(∃m,W 0 m σ H)/\∀i m σ H,W i m σ H ->
   ((Lj lo n).stop i H/\D.nx σ H)∨((Lj lo n).go i H/\∃N:St->Hp->Prop,(∀σ' H',N σ' H'->∃m',m' < m/\W (i+1) m' σ' H')/\∀x H',(Lj lo n).yld i H x H'->g x σ H' λσ2 H2=>tb { D with nx:=N,ct:=N,bk:=D.nx } σ2 H2):=by
 refine⟨λi m σ H=>m=n-i/\i<=n/\Pv i σ H,⟨n,by simp,R0 _,h0⟩,?_⟩;rintro i m σ H ⟨rfl,hi,p⟩
 by_cases hlt:i<n
 .refine .inr ⟨hlt,Pv (i+1),λσ' H' p'=>⟨n-(i+1),by omega,rfl,hlt,p'⟩,λx H' y=>?_⟩
  obtain⟨e,y⟩:=y;subst e y;exact hs i σ _ hlt p
 .have e:i=n:=by omega
  subst e;exact .inl ⟨Ql _,hd σ H p⟩
noncomputable abbrev R2:=V->V->Hp->VK->Prop
noncomputable def fG(X:Cx) (f:P2->P2->Sem P2) (r:R2):Prop :=
 ∀(π:List (P9×Obj)) (s:Qj) (σ:St) (H:Hp) (x y:V) (v u:P2) (Q:VK),Inv X π σ H s->bX x v->bX y u->r x y H Q ->
  QC (QB X.prog X.w) X.A (f v u) (EP X π σ Q) X.xe s
noncomputable def NN(X:Cx) (f:P2->Sem P2) (r:V->Hp->VK->Prop):Prop :=
 ∀(π:List (P9×Obj)) (s:Qj) (σ:St) (H:Hp) (x:V) (v:P2) (Q:VK),Inv X π σ H s->bX x v->r x H Q ->
  QC (QB X.prog X.w) X.A (f v) (EP X π σ Q) X.xe s
noncomputable def ik(X:Cx) (f:P2) (r:ad->Hp->VK->Prop):Prop :=
 ∀(π:List (P9×Obj)) (s:Qj) (σ:St) (H:Hp) (xs:ad) (us:List P2) (Q:VK),Inv X π σ H s->bA xs us->r xs H Q ->
  QC (QB X.prog X.w) X.A (call f us) (EP X π σ Q) X.xe s
noncomputable def P1(X:Cx) (r:V->Hp->(Bool->Hp->Prop)->Prop):Prop :=
 ∀(π:List (P9×Obj)) (s:Qj) (σ:St) (H:Hp) (x:V) (v:P2) (Q:Bool->Hp->Prop),Inv X π σ H s->bX x v->r x H Q ->
  QC (QB X.prog X.w) X.A (truthy v) (TP X π σ Q) X.xe s
noncomputable def Lq(r:R2) (ta tb:TE):TE:=λσ H Q=>ta σ H λx H1=>tb σ H1 λy H2=>r x y H2 Q
noncomputable def Pp(r:V->Hp->VK->Prop) (ta:TE):TE:=λσ H Q=>ta σ H λx H1=>r x H1 Q
noncomputable def rI(C:Int->Int->Prop) (g:Int->Int->V):R2:=λx y H Q=>∃i j,x=.int i/\y=.int j/\C i j/\Q (g i j) H
noncomputable def FZ(g:Int->Int->V):R2:=λx y H Q=>∃i j,x=.int i/\y=.int j/\Q (g i j) H
noncomputable def rU(g:Int->V):V->Hp->VK->Prop:=λx H Q=>∃i,x=.int i/\Q (g i) H
section
variable {X:Cx}{a b c:QX}{ta tb tc:TE}{pos:Pos}
def K8(ha:PE X a ta)(hb:PE X b tb){R:V->V->Hp->Prop}(I:Inv X π σ H s)
  (h:ta σ H λx H1=>tb σ H1 λy H2=>R x y H2){f:P2->P2->Sem P2}
  (hf:∀v u s2 x y H2,Inv X π σ H2 s2->bX x v->bX y u->R x y H2->QC (QB X.prog X.w) X.A (f v u) Q X.xe s2) :
  QC (QB X.prog X.w) X.A (eval a X.env) (λv sg=>QC (QB X.prog X.w) X.A (eval b X.env) (λu si=>QC (QB X.prog X.w) X.A (f v u) Q X.xe si) X.xe sg) X.xe s:=by
 refine de (ha π s σ H _ I h) λv s1 ⟨x,H1,I1,r1,q1⟩=>?_;refine de (hb π s1 σ H1 _ I1 q1) λu s2 ⟨y,H2,I2,r2,q2⟩=>?_;exact hf v u s2 x y H2 I2 r1 r2 q2
def IE(ho:fG X (binaryOp op) r)(ha:PE X a ta)(hb:PE X b tb):PE X (.BinOp a op b pos) (Lq r ta tb):=by
 intro π s σ H Q I h;exact wpAny_BinOp (K8 ha hb I h λv u s2 x y H2 I2 rx ry q=>ho π s2 σ H2 x y v u Q I2 rx ry q)
def Mr(ho:NN X (unaryOp op) r)(ha:PE X a ta):PE X (.UnaryOp op a pos) (Pp r ta):=by
 intro π s σ H Q I h;exact UnaryOp_ (de (ha π s σ H _ I h) λv s1 ⟨x,H1,I1,r1,q1⟩=>ho π s1 σ H1 x v Q I1 r1 q1)
def NG{g:Int->Int->Int}
  (rule:∀(i j:Int) (t u:Tok) (s:Qj) (Q:P2->Qj->Prop) (E:P2->Qj->Prop),C i j->Q (.int (g i j) s.toks) { s with toks:=s.toks+1 }->QC (QB X.prog X.w) X.A (f (.int i t) (.int j u)) Q E s) :
  fG X f (rI C λi j=>.int (g i j)):=by
 intro π s σ H x y v u Q I rx ry h;obtain⟨i,j,rfl,rfl,hc,q⟩:=h;obtain⟨t,rfl⟩:=rx;obtain⟨t',rfl⟩:=ry;exact rule i j t t' s _ _ hc ⟨.int (g i j),H,I.tok _,⟨_,rfl⟩,q⟩
def Mv{g:Int->Int->Int}
  (rule:∀(i j:Int) (t u:Tok) (s:Qj) (Q:P2->Qj->Prop) (E:P2->Qj->Prop),Q (.int (g i j) s.toks) { s with toks:=s.toks+1 }->QC (QB X.prog X.w) X.A (f (.int i t) (.int j u)) Q E s) :
  fG X f (FZ λi j=>.int (g i j)):=by
 intro π s σ H x y v u Q I rx ry h;obtain⟨i,j,rfl,rfl,q⟩:=h;obtain⟨t,rfl⟩:=rx;obtain⟨t',rfl⟩:=ry;exact rule i j t t' s _ _ ⟨.int (g i j),H,I.tok _,⟨_,rfl⟩,q⟩
def G4{g:Int->Int->Bool}
  (rule:∀(i j:Int) (t u:Tok) (s:Qj) (Q:P2->Qj->Prop) (E:P2->Qj->Prop),Q (.bool (g i j)) s->QC (QB X.prog X.w) X.A (f (.int i t) (.int j u)) Q E s) :
  fG X f (FZ λi j=>.bl (g i j)):=by
 intro π s σ H x y v u Q I rx ry h;obtain⟨i,j,rfl,rfl,q⟩:=h;obtain⟨t,rfl⟩:=rx;obtain⟨t',rfl⟩:=ry;exact rule i j t t' s _ _ ⟨.bl (g i j),H,I,rfl,q⟩
noncomputable def OR(i j:Int):Prop:=0<=j/\j<=1000000/\i.natAbs<2 ^ 64
noncomputable def Nz(i j:Int):Prop:=(-(2 ^ 64)<i/\i<2 ^ 64)∨(-(2 ^ 64)<j/\j<2 ^ 64)
def Nz.ok(h:Nz i j):IntMulOk i j:=by
 rcases h with⟨h1,h2⟩|⟨h1,h2⟩
 .exact .of_left (intBits_le_64 h1 h2)
 .exact .of_right (intBits_le_64 h1 h2)
def D8:fG X (binaryOp .Add) (FZ λi j=>.int (i+j)):=Mv λ_ _ _ _ _ _ _ q=>add_int q
def J9:fG X (binaryOp .Sub) (FZ λi j=>.int (i-j)):=Mv λ_ _ _ _ _ _ _ q=>sub_int q
def AM:fG X (binaryOp .Mod) (rI (λ_ j=>j≠0) λi j=>.int (i.fmod j)):=NG λ_ _ _ _ _ _ _ hc q=>mod_int' hc q
def Ka:fG X (binaryOp .Pow) (rI OR λi j=>.int (i ^ j.toNat)):=NG λ_ _ _ _ _ _ _ hc q=>pow_int_small hc.1 hc.2.1 hc.2.2 q
def Pm{g:Int->Int}
  (rule:∀(i:Int) (t:Tok) (s:Qj) (Q:P2->Qj->Prop) (E:P2->Qj->Prop),Q (.int (g i) s.toks) { s with toks:=s.toks+1 }->QC (QB X.prog X.w) X.A (f (.int i t)) Q E s) :
  NN X f (rU λi=>.int (g i)):=by
 intro π s σ H x v Q I rx h;obtain⟨i,rfl,q⟩:=h;obtain⟨t,rfl⟩:=rx;exact rule i t s _ _ ⟨.int (g i),H,I.tok _,⟨_,rfl⟩,q⟩
def Js:NN X (unaryOp .USub) (rU λi=>.int (-i)):=Pm λ_ _ _ _ _ q=>neg_int q
end
section
variable {X:Cx}{a b c:QX}{ta tb tc:TE}{pos:Pos}
def zJ(I:Inv X π σ H s)(q:Q (.bl k) H)(e:k=k'):EP X π σ Q (.bool k') s:=by
 subst e;exact⟨.bl k,H,I,rfl,q⟩
def qL:fG X (Q5 .Lt) (FZ λi j=>.bl (decide (i<j))):=G4 λ_ _ _ _ _ _ _ q=>lt_int q
def uD:fG X (Q5 .LtE) (FZ λi j=>.bl (decide (i<=j))):=G4 λ_ _ _ _ _ _ _ q=>le_int q
def xA:fG X (Q5 .Gt) (FZ λi j=>.bl (decide (j<i))):=G4 λ_ _ _ _ _ _ _ q=>gt_int q
def D7:fG X (Q5 .GtE) (FZ λi j=>.bl (decide (j<=i))):=G4 λ_ _ _ _ _ _ _ q=>ge_int q
def Cd:fG X (Q5 .In) (λx y H Q=>∃i j,x=.str i/\y=.str j/\Q (.bl (!(R9 j i 0 j.length 1).isEmpty)) H):=by
 intro π s σ H x y v u Q I rx ry h;obtain⟨i,j,rfl,rfl,q⟩:=h;obtain⟨t,rfl⟩:=rx;obtain⟨t',rfl⟩:=ry;exact in_str (zJ I q rfl)
def zh:fG X (Q5 .Is) (λx y H Q=>y=.non/\Q (.bl (decide (x=.non))) H):=by
 intro π s σ H x y v u Q I rx ry h;obtain⟨rfl,q⟩:=h;cases ry;refine is_none_gen (zJ I q ?_);cases x<;>first
  |(cases rx;rfl)
  |(obtain⟨t,rfl⟩:=rx;rfl)
def pK:fG X (Q5 .IsNot) (λx y H Q=>y=.non/\Q (.bl (!decide (x=.non))) H):=by
 intro π s σ H x y v u Q I rx ry h;obtain⟨rfl,q⟩:=h;cases ry;refine isnot_none_gen (zJ I q ?_);cases x<;>first
  |(cases rx;rfl)
  |(obtain⟨t,rfl⟩:=rx;rfl)
def fG.or(h:fG X f r)(h':fG X f r'):fG X f (λx y H Q=>r x y H Q∨r' x y H Q):=by
 intro π s σ H x y v u Q I rx ry q;rcases q with q|q
 .exact h π s σ H x y v u Q I rx ry q
 .exact h' π s σ H x y v u Q I rx ry q
def AI(ho:fG X (Q5 op) r)(ha:PE X a ta)(hb:PE X b tb)(hm:behindInMarks op b=false):PE X (.Compare a [op] [b] pos) (Lq r ta tb):=by
 intro π s σ H Q I h;exact wpAny_Compare1 (K8 ha hb I h λv u s2 x y H2 I2 rx ry q=>ho π s2 σ H2 x y v u Q I2 rx ry q) hm
noncomputable def Iu(t:TE):TT:=λσ H Q=>t σ H λx H'=>∃k,x=.bl k/\Q k H'
def AE(ho:fG X (Q5 op) r)(ha:PE X a ta)(hb:PE X b tb)(hm:behindInMarks op b=false):PT X (.Compare a [op] [b] pos) (Iu (Lq r ta tb)):=by
 intro π s σ H Q I h;refine wpAny_isTrue_Compare1 (de (ha π s σ H _ I h) λv s1 ⟨x,H1,I1,r1,q1⟩=>de (hb π s1 σ H1 _ I1 q1) λu s2 ⟨y,H2,I2,r2,q2⟩ =>
  de (ho π s2 σ H2 x y v u _ I2 r1 r2 q2) λc s3 ⟨z,H3,I3,r3,k,e,q3⟩=>?_) hm
 subst e;cases r3;exact Rz ⟨H3,I3,q3⟩
noncomputable def yT(r r':R2) (ta tb tc:TE):TE:=λσ H Q=>ta σ H λx H1=>tb σ H1 λy H2=>r x y H2 λz H3=>∃k,z=.bl k /\
 (if k=true then tc σ H3 λw' H4=>r' y w' H4 Q else Q (.bl false) H3)
def D4(ho:fG X (Q5 op) r)(ho':fG X (Q5 op') r')(ha:PE X a ta)(hb:PE X b tb)(hc:PE X c tc)
  (hm:lastMarks [op,op'] [b,c]=false:=by with_unfolding_all rfl):PE X (.Compare a [op,op'] [b,c] pos) (yT r r' ta tb tc):=by
 intro π s σ H Q I h;refine Compare_chain (de (ha π s σ H _ I h) λv s1 ⟨x,H1,I1,r1,q1⟩=>chain_link (de (hb π s1 σ H1 _ I1 q1) λu s2 ⟨y,H2,I2,r2,q2⟩ =>
  de (ho π s2 σ H2 x y v u _ I2 r1 r2 q2) λd s3 ⟨z,H3,I3,r3,k,e,q3⟩=>?_)) hm
 subst e;cases r3;refine Rz ?_;cases k with|false=>exact ite_ff ⟨.bl false,H3,I3,rfl,q3⟩|true=>exact ite_tt (chain_last (de (hc π s3 σ H3 _ I3 q3) λw' s4 ⟨z',H4,I4,r4,q4⟩=>ho' π s4 σ H4 y z' u w' Q I4 r2 r4 q4))
def DX(ho:fG X (Q5 op) r)(ho':fG X (Q5 op') r')(ha:PE X a ta)(hb:PE X b tb)(hc:PE X c tc)
  (hm:lastMarks [op,op'] [b,c]=false:=by with_unfolding_all rfl):PT X (.Compare a [op,op'] [b,c] pos) (Iu (yT r r' ta tb tc)):=by
 intro π s σ H Q I h;refine isTrue_chain (de (ha π s σ H _ I h) λv s1 ⟨x,H1,I1,r1,q1⟩=>test_link (de (hb π s1 σ H1 _ I1 q1) λu s2 ⟨y,H2,I2,r2,q2⟩ =>
  de (ho π s2 σ H2 x y v u _ I2 r1 r2 q2) λd s3 ⟨z,H3,I3,r3,k,e,q3⟩=>?_)) hm
 subst e;cases r3;refine Rz ?_;cases k with
 |false=>
  obtain⟨k',e',q'⟩:=q3;cases e';exact ite_ff ⟨H3,I3,q'⟩
 |true=>
  refine ite_tt (test_last (de (hc π s3 σ H3 _ I3 q3) λw' s4 ⟨z',H4,I4,r4,q4⟩=>de (ho' π s4 σ H4 y z' u w' _ I4 r2 r4 q4) λd' s5 z9=>?_));obtain⟨z2,H5,I5,r5,k2,e2,q5⟩:=z9;subst e2;cases r5;exact Rz ⟨H5,I5,q5⟩
noncomputable def P0(K:P4) (x:V) (H:Hp) (k:Bool):Prop :=
 match x with
 |.non=>k=false
 |.bl b=>k=b
 |.int i=>k=(i != 0)
 |.str y=>y.length<=sizeLine/\k=((y.length:Int) != 0)
 |.byt y=>y.size<=sizeLine/\k=((y.size:Int) != 0)
 |.ref p=>(∃xs,fk K H p xs/\k=!xs.isEmpty)∨(∃xs,kz K H p xs/\k=!xs.isEmpty)∨∃kvs,H p=some (.dK kvs)/\k=!kvs.isEmpty
 |_=>False
def Kv{vs:List (κ×P2)}(r:KV kvs vs):(!vs.isEmpty)=!kvs.isEmpty:=by
 cases r<;>rfl
def Ku(r:bA xs its):(!its.toArray.isEmpty)=!xs.isEmpty:=by
 cases r<;>simp
def qZ:(sizeLine:Nat)<2 ^ 63:=by rw[sizeLine_eq];decide
def qM:fG X (binaryOp .Add) (λx y H Q=>∃i j,x=.str i/\y=.str j/\i.length+j.length<=sizeLine/\Q (.str (i++j)) H):=by
 intro π s σ H x y v u Q I rx ry h;obtain⟨i,j,rfl,rfl,hz,q⟩:=h;obtain⟨t,rfl⟩:=rx;obtain⟨t',rfl⟩:=ry;exact add_str (λt' tk=>⟨.str (i++j),H,I.tok _,⟨_,rfl⟩,q⟩) hz
def qi(r:bA [x] us):∃u,us=[u]/\bX x u:=by
 cases r with|cons r1 r2=>cases r2;exact⟨_,rfl,r1⟩
def Ip(r:bA [x,y] us):∃u w',us=[u,w']/\bX x u/\bX y w':=by
 cases r with
 |cons r1 r2=>
  cases r2 with|cons r3 r4=>cases r4;exact⟨_,_,rfl,r1,r3⟩
def tm:ik X (.builtin "abs") (λxs H Q=>∃i,xs=[.int i]/\Q (.int (if i<0 then -i else i)) H):=by
 intro π s σ H xs us Q I r h;obtain⟨i,rfl,q⟩:=h;obtain⟨u,rfl,t,rfl⟩:=qi r;exact call_abs_int λu tk=>⟨.int (if i<0 then -i else i),H,I.tok _,⟨_,rfl⟩,q⟩
def CM(hc:X.calm=true):ik X (.builtin "max") (λxs H Q=>∃i j,xs=[.int i,.int j]/\Q (.int (if j > i then j else i)) H):=by
 intro π s σ H xs us Q I r h;obtain⟨i,j,rfl,q⟩:=h;obtain⟨u,w',rfl,⟨t,rfl⟩,⟨t',rfl⟩⟩:=Ip r;refine max_two_ints (I.ok.hd hc) λh' tk k=>⟨_,H,I.kept k,?_,q⟩
 by_cases hj:j > i
 .rw[if_pos hj,if_pos hj];exact⟨_,rfl⟩
 .rw[if_neg hj,if_neg hj];exact⟨_,rfl⟩
def u5(hc:X.calm=true):ik X (.builtin "min") (λxs H Q=>∃i j,xs=[.int i,.int j]/\Q (.int (if j<i then j else i)) H):=by
 intro π s σ H xs us Q I r h;obtain⟨i,j,rfl,q⟩:=h;obtain⟨u,w',rfl,⟨t,rfl⟩,⟨t',rfl⟩⟩:=Ip r;refine min_two_ints (I.ok.hd hc) λh' tk k=>⟨_,H,I.kept k,?_,q⟩
 by_cases hj:j<i
 .rw[if_pos hj,if_pos hj];exact⟨_,rfl⟩
 .rw[if_neg hj,if_neg hj];exact⟨_,rfl⟩
def CN:ik X (.type "int") (λxs H Q=>(∃i,xs=[.int i]/\Q (.int i) H)∨∃k,xs=[.bl k]/\Q (.int (if k then 1 else 0)) H):=by
 intro π s σ H xs us Q I r h;rcases h with⟨i,rfl,q⟩|⟨k,rfl,q⟩
 .obtain⟨u,rfl,t,rfl⟩:=qi r
  exact call_int_int ⟨.int i,H,I,⟨_,rfl⟩,q⟩
 .obtain⟨u,rfl,r1⟩:=qi r
  cases r1;exact call_int_bool ⟨.int (if k then 1 else 0),H,I.tok _,⟨_,rfl⟩,q⟩
noncomputable def Nw(K:P4) (x:V) (H:Hp) (n:Nat):Prop :=
 match x with
 |.str y=>y.length<=sizeLine/\n=y.length
 |.byt y=>y.size<=sizeLine/\n=y.size
 |.ref p=>(∃xs,fk K H p xs/\n=xs.length)∨∃xs,kz K H p xs/\n=xs.length
 |_=>False
def bM:ik X (.builtin "len") (λxs H Q=>∃x n,xs=[x]/\Nw X.K x H n/\Q (.int n) H):=by
 intro π s σ H xs us Q I r h;obtain⟨x,n,rfl,e,q⟩:=h;obtain⟨u,rfl,rx⟩:=qi r;have hl:=qZ;have hs:sizeLine=16777216:=sizeLine_eq;cases x with
 |str y=>
  obtain⟨t,rfl⟩:=rx;obtain⟨hy,e'⟩:y.length<=sizeLine/\n=y.length:=e;subst e';exact len_str (by omega) ⟨.int _,H,I.tok _,⟨_,rfl⟩,q⟩
 |byt y=>
  obtain⟨t,rfl⟩:=rx;obtain⟨hy,e'⟩:y.size<=sizeLine/\n=y.size:=e;subst e';exact W.len_bytes (by omega) ⟨.int _,H,I.tok _,⟨_,rfl⟩,q⟩
 |ref p=>
  cases rx;have e':(∃xs,fk X.K H p xs/\n=xs.length)∨∃xs,kz X.K H p xs/\n=xs.length:=e;rcases e' with⟨xs,hx,e'⟩|⟨xs,hx,e'⟩
  .subst e'
   obtain⟨its,r',pl,hz⟩:=I.list hx;have hlen:=r'.length;exact Calls.call_len_list pl.isList (by simp only[Qp];omega) ⟨.int xs.length,H,I.tok _,⟨_,by simp only[Qp];rw[hlen]⟩,q⟩
  .subst e'
   obtain⟨its,r',pl,hz⟩:=I.tuple hx;have hlen:=r'.length;exact len_tuple pl (by simp only[Qp];omega) ⟨.int xs.length,H,I.tok _,⟨_,by simp only[Qp];rw[hlen]⟩,q⟩
 |_=>exact(show False from e).elim
end
structure Li (h:Qr) (x dx C:P9) (mA:Qu->Option P2):Prop where
 obj:h.get? x=some (W.instObj C dx)
 ns:h.Ns1 dx mA
 ne:dx≠x
def Cn{h:Qr}{mA:Qu->Option P2}(n:h.Ns1 dx mA):∃od,h.get? dx=some od/\∀name,W.lookIn name od=some (mA name):=by
 obtain⟨o,es,ep,ho,hd,hk,_,hm⟩:=n;refine⟨o,ho,λname=>?_⟩;have e:=hm name;unfold nsFind findBy at e;rw[←Array.find?_toList]at e;unfold W.lookIn;rw[hd];dsimp only;split
 .rename_i y q
  rw[q]at e;exact congrArg some e
 .rename_i q
  rw[q]at e;have a:es.toList.any (·.refKey)=false:=by
   rw[List.any_eq_false];intro y hy;obtain⟨z,t,hkey⟩:=hk y (VC.mp hy);simp[DictEntry.refKey,hkey]
  have a':¬es.toList.any (·.refKey)=true:=by rw[a];exact Ru
  rw[if_neg a'];exact congrArg some e
def Li.look{h:Qr}{mA:Qu->Option P2}(I:Li h x dx C mA):∃od,W.InstAt h x (W.instObj C dx) C (some od)/\∀name,W.lookIn name od=some (mA name) :=
 let ⟨od,ho,hl⟩:=Cn I.ns
 ⟨od,⟨I.obj,rfl,rfl,ho⟩,hl⟩
noncomputable def nF(f:Qu) (v:V):List (Qu×V)->List (Qu×V)
 |[]=>[(f,v)]
 |(g,x)::r=>if g=f then(g,v)::r else(g,x)::nF f v r
theorem oB(f g:Qu)(v:V):∀fs:List (Qu×V),(nF f v fs).lookup g=if g=f then some v else fs.lookup g
 |[]=>by
  show Th g [(f,v)]=_
  by_cases h:g=f
  .have hb:(g==f)=true:=beq_iff_eq.mpr h
   simp only[Th,hb,if_pos h]
  .have hb:(g==f)=false:=beq_eq_false_iff_ne.mpr h
   simp only[Th,hb,if_neg h]
 |(k,x)::r=>by
  have ih:=oB f g v r;rw[show nF f v ((k,x)::r)=(if k=f then(k,v)::r else(k,x)::nF f v r) from rfl]
  by_cases hk:k=f
  .rw[if_pos hk]
   by_cases h:g=k
   .have hb:(g==k)=true:=beq_iff_eq.mpr h
    simp only[Th,hb,if_pos (h.trans hk)]
   .have hb:(g==k)=false:=beq_eq_false_iff_ne.mpr h
    simp only[Th,hb,if_neg (λe:g=f=>h (e.trans hk.symm))]
  .rw[if_neg hk]
   by_cases h:g=k
   .have hb:(g==k)=true:=beq_iff_eq.mpr h
    simp only[Th,hb,if_neg (λe:g=f=>hk (h.symm.trans e))]
   .have hb:(g==k)=false:=beq_eq_false_iff_ne.mpr h
    simp only[Th,hb];exact ih
theorem nM(f:Qu)(v:V):∀fs:List (Qu×V),f∈(nF f v fs).map (·.1)/\∀g,g∈fs.map (·.1)->g∈(nF f v fs).map (·.1)
 |[]=>⟨by simp[nF],λg h=>by simp at h⟩
 |(k,x)::r=>by
  obtain⟨i1,i2⟩:=nM f v r;rw[show nF f v ((k,x)::r)=(if k=f then(k,v)::r else(k,x)::nF f v r) from rfl]
  by_cases hk:k=f
  .rw[if_pos hk]
   subst hk;exact⟨by simp,λg h=>by simpa using h⟩
  .rw[if_neg hk]
   refine⟨?_,λg h=>?_⟩
   .rw[Qf]
    exact Qi _ i1
   .rw[Qf]at h ⊢
    rcases Qs.mp h with e|e
    .exact Qs.mpr (.inl e)
    .exact Qi _ (i2 g e)
section
variable {P:Ra}{w:Rr}{H H':Hp}{h h':Qr}{a C dx:P9}{fs fs':List (Qu×V)}
def A7(hok:g6 P w H h)(e:H a=some (.ins C dx fs)):∃mA,Li h a dx C mA/\(∀f,FN (fs.lookup f) (mA f))/\Tj mA (fs.map (·.1))/\fs.length<=1000/\H dx=some (.own a):=by
 obtain⟨d,z,ne,ob,mA,n,r,q⟩:=(show cP P w H h a (.ins C dx fs) from hok a _ e)
 exact⟨mA,⟨ob,n,ne⟩,r,q,z,d⟩
end
structure NS (K:P4) (C:P9):Prop where
 pg:W.plainGet K C Str.empty=true
 hd:Uy K C=true
 po:W.plainOver K C=true
 sa:SA K (.ref C) "__setattr__"=some (some (.builtin "object.__setattr__"))
def NS.get{K:P4}(c:NS K C)(f:Qu):W.plainGet K C f=true:=c.pg
noncomputable def n9(K:P4) (C:P9) (f:Qu):Prop:=SA K (.ref C) f=some none
section
variable {X:Cx}{π:List (P9×Obj)}{σ:St}{H:Hp}{s:Qj}{A:Q0}{E:P2->Qj->Prop}{Q:P2->Qj->Prop}{c:P2}{b:Bool}
inductive pB (K:P4) (H:Hp):V->P2->Prop where
 |non:pB K H .non (.type "NoneType")
 |bl (x:Bool):pB K H (.bl x) (.type "bool")
 |int (i:Int):pB K H (.int i) (.type "int")
 |str (x:Qu):pB K H (.str x) (.type "str")
 |flt (x:UInt64):pB K H (.flt x) (.type "float")
 |lst {a:P9}{xs:ad}(e:H a=some (.lst xs)):pB K H (.ref a) (.type "list")
 |frz {a:P9}{o:Obj}{xs:ad}(e:H a=some (.frz o (.lst xs))):pB K H (.ref a) (.type "list")
 |tup {a:P9}{xs:ad}(e:H a=some (.tup xs)):pB K H (.ref a) (.type "tuple")
 |dK {a:P9}{kvs:List (tW×V)}(e:H a=some (.dK kvs)):pB K H (.ref a) (.type "dict")
 |dT {a:P9}{kvs:List (List tW×V)}(e:H a=some (.dT kvs)):pB K H (.ref a) (.type "dict")
 |ins {a C dx:P9}{fs:List (Qu×V)}(e:H a=some (.ins C dx fs)) (cl:NS K C) (ha:SA K (.ref C) "__class__"=some (some (.builtin "object.__class__")))
   (hn:Uw K (.builtin "object.__class__") "__get__"=some (some (.builtin "getset_descriptor.__get__"))) (htk:W.takesIn K (.builtin "object.__class__")=some true)
   (hm:W.mroIn K C (.type "object")=some true):pB K H (.ref a) (.ref C)
def ke(I:Inv X π σ H s)(rx:bX x u)(ty:pB X.K H x t)(e:W.kitOne X.K t c=some b)(h:∀tk,Q (.bool b) { s with toks:=tk }) :
  QC (QB X.prog X.w) A (call (.builtin "isinstance") [u,c]) Q E s:=by
 cases ty with
 |non=>cases (show u=RA from rx);exact RG W.kitx_none I.kIn SY e (λz=>nomatch z) h|bl y=>cases (show u=RB y from rx);exact RG W.kitx_bool I.kIn SY e (λz=>nomatch z) h|int i=>obtain⟨t,q⟩:=(show ∃t,u=RV i t from rx);cases q;exact RG W.kitx_int I.kIn SY e (λz=>nomatch z) h|str y=>obtain⟨t,q⟩:=(show ∃t,u=RU y t from rx);cases q;exact RG W.kitx_str I.kIn SY e (λz=>nomatch z) h|flt y=>obtain⟨t,q⟩:=(show ∃t,u=Value.float y t from rx);cases q;exact RG W.kitx_float I.kIn SY e (λz=>nomatch z) h
 |@lst a xs ea=>
  cases (show u=Q6 a from rx);obtain⟨_,_,n,_,h1⟩:=(show cP X.prog X.w H s.heap a (.lst xs) from I.hok a _ ea)
  exact RG Vs I.kIn ⟨_,h1,rfl⟩ e (λz=>nomatch z) h
 |@frz a ob xs ea=>
  cases (show u=Q6 a from rx);obtain⟨_,_,_,n,_,h1⟩:=(show cP X.prog X.w H s.heap a (.frz ob (.lst xs)) from I.hok a _ ea)
  exact RG Vs I.kIn ⟨_,h1,rfl⟩ e (λz=>nomatch z) h
 |@tup a xs ea=>
  cases (show u=Q6 a from rx);obtain⟨_,_,_,p⟩:=(show cP X.prog X.w H s.heap a (.tup xs) from I.hok a _ ea)
  obtain⟨o,h1,h2,_⟩:=p;exact RG W.kitx_tuple I.kIn ⟨o,h1,h2⟩ e (λz=>nomatch z) h
 |@dK a kvs ea=>
  cases (show u=Q6 a from rx);obtain⟨_,_,vs,_,p⟩:=(show cP X.prog X.w H s.heap a (.dK kvs) from I.hok a _ ea)
  obtain⟨o,es,ep,h1,h2,_⟩:=p;exact RG Ux I.kIn ⟨o,h1,h2.1⟩ e (λz=>nomatch z) h
 |@dT a kvs ea=>
  cases (show u=Q6 a from rx);obtain⟨_,_,xs,_,o,es,ep,h1,h2,_⟩:=(show cP X.prog X.w H s.heap a (.dT kvs) from I.hok a _ ea)
  exact RG Ux I.kIn ⟨o,h1,h2.1⟩ e (λz=>nomatch z) h
 |@ins a C dx fs ea cl ha hn htk hm=>
  cases (show u=Q6 a from rx);obtain⟨mA,O,_⟩:=A7 I.hok ea;obtain⟨od,J,_⟩:=O.look;exact RG (W.kitx_own (cl.get _) cl.hd ha hn htk hm) I.kIn J e (λz=>nomatch z) h
end
structure cK (k:Nat) (A:Q0):Prop where
 hd:A.handled=none
 dp:A.depth+3*k+5<recursionLimit
 un:A.units+16*k+200<TU
 gd:A.guards=some []
def cK.mono{A:Q0}(r:cK k A)(h:j<=k):cK j A:=⟨r.hd,by have:=r.dp;omega,by have:=r.un;omega,r.gd⟩
def cK.deeper{A:Q0}(r:cK (k+1) A)(env:Env):cK k (A.deeper env) :=
 ⟨r.hd,by have:=r.dp;show A.depth+1+3*k+5<_;omega,by have:=r.un;show A.units+3+16*k+200<_;omega,r.gd⟩
def zw{A:Q0}:(A.under (.builtin "type.__call__" ⟨.ref C::us,kw⟩)).depth=A.depth+1:=by
 first|rfl|simp[Ut,Code.weight,Code.isCreation,Code.isGuard,Code.isCaller,Code.frames,Vk,guardIds]
def zv{A:Q0}:(A.under (.builtin "type.__call__" ⟨.ref C::us,kw⟩)).units=A.units+1:=by
 first|rfl|simp[Ut,Code.cUnits,Code.frames,Vk]
def cK.make{A:Q0}(r:cK (k+1) A)(C:P9)(us:List P2)(kw:List (Qu×P2)):cK k (A.under (.builtin "type.__call__" ⟨.ref C::us,kw⟩)) :=
 ⟨r.hd,by have:=r.dp;rw[zw];omega,by have:=r.un;rw[zv];omega,by have:=r.gd;simp[Ut,Code.guards,Code.isGuard,guardIds,pushGuards,this]⟩
def cK.depth{A:Q0}(r:cK k A):A.depth<recursionLimit:=by have:=r.dp;omega
def cK.units{A:Q0}(r:cK k A):A.units+64<TU:=by have:=r.un;omega
noncomputable def N6:TA:=λ_ H Q=>Q [] H
noncomputable def LX(ta:TE) (tr:TA):TA:=λσ H Q=>ta σ H λx H1=>tr σ H1 λxs H2=>Q (x::xs) H2
section
variable {X:Cx}{e:QX}{es:List QX}{te:TE}{t:TA}{pos:Pos}
def gH:PA X [] N6:=λ_ _ _ _ H Q I h=>Calls.spliced_nil ⟨[],H,I,.nil,h⟩
def dQ(ha:PE X e te)(hr:PA X es t)(hs:Qb (e::es) X.env=(false,eval e X.env)::Qb es X.env:=by rfl):PA X (e::es) (LX te t):=by
 intro pos π s σ H Q I h;rw[hs];show QC _ _ (spliced ((false,eval e X.env)::Rg pos (Qb es X.env))) _ _ s;refine Calls.spliced_cons (de (ha π s σ H _ I h) λu s1 ⟨x,H1,I1,r1,q1⟩=>?_);exact de (hr pos π s1 σ H1 _ I1 q1) λus s2 ⟨xs,H2,I2,r2,q2⟩=>⟨x::xs,H2,I2,.cons r1 r2,q2⟩
noncomputable def N0(t:TA):TE:=λσ H Q=>t σ H λxs H1=>xs.length<=sizeLine/\∀p,H1 p=none->Q (.ref p) (upd H1 p (.tup xs))
noncomputable def N8(t:TA):TE:=λσ H Q=>t σ H λxs H1=>xs.length<=sizeLine/\∀p,H1 p=none->Q (.ref p) (upd H1 p (.lst xs))
def JY{x1}(h:PA X es t):PE X (.Tuple es x1 pos) (N0 t):=by
 intro π s σ H Q I hq;refine wpAny_Tuple_spliced (de (h pos π s σ H _ I hq) λus s1 ⟨xs,H1,I1,r,z,q⟩=>⟨by rw[←r.length];exact z,?_⟩);have hf:H1 s1.heap.objs.size=none:=I1.hok.fresh (Ql _);refine⟨.ref s1.heap.objs.size,upd H1 s1.heap.objs.size (.tup xs),I1.laid (t':=s1.toks) (λb u e=>Qe _ e) (Ql _) ?_,rfl,q _ hf⟩;exact⟨z,us,r,⟨_,Q9 _ rfl,rfl,_,rfl⟩⟩
def ze(h:PA X es t):PE X (.List es pos) (N8 t):=by
 intro π s σ H Q I hq;refine wpAny_List_spliced (de (h pos π s σ H _ I hq) λus s1 ⟨xs,H1,I1,r,z,q⟩=>⟨by rw[←r.length];exact z,?_⟩);have hf:H1 s1.heap.objs.size=none:=I1.hok.fresh (Ql _);refine⟨.ref s1.heap.objs.size,upd H1 s1.heap.objs.size (.lst xs),I1.laid (t':=s1.toks) (λb u e=>Qe _ e) (Ql _) ?_,rfl,q _ hf⟩;exact⟨z,us,0,r,Q9 _ rfl⟩
end
noncomputable abbrev Sp:=ad->Hp->VK->XK->Prop
noncomputable abbrev yM:=List Env->Hp->Qj->XK->P2->Qj->Prop
structure yI (P:Ra) (w:Rr) (K:P4) (mg:Qu->Option P2) (base:Qr) (A:Q0) (outer:List Env) (s:Qj) (H:Hp):Prop where
 frames:A.frames=some outer
 mod:Mod K mg base
 bs:∀b o,base.get? b=some o->s.heap.get? b=some o/\H b=none
 bsz:base.objs.size<=s.heap.objs.size
 funs:s.heap.FunFrames base outer
 frf:∀b∈iw outer,H b=none
 hok:g6 P w H s.heap
 bare:AllBare s.gens
noncomputable def CE(outer:List Env) (P:Ra) (w:Rr) (H:Hp) (s:Qj) (Q:VK) (u:P2) (s':Qj):Prop :=
 ∃v H',s'.os=s.os/\AllBare s'.gens/\Un (iw outer) [] H H' s.heap s'.heap/\g6 P w H' s'.heap/\bX v u/\Q v H'
noncomputable def CR(CX:yM) (outer:List Env) (P:Ra) (w:Rr) (H:Hp) (s:Qj) (Q:VK) (E:XK) (r:Result) (s':Qj):Prop :=
 match r with
 |.ok (.ret u)=>CE outer P w H s Q u s'
 |.ok _=>False
 |.error e=>CX outer H s E e s'
structure FnOk (P:Ra) (w:Rr) (K:P4) (mg:Qu->Option P2) (base:Qr) (CX:yM) (k:Nat) (f:P9) (fd:Rx) (ps:al) (sp:Sp):Prop where
 len:∀vs H Q E,sp vs H Q E->vs.length=ps.length
 run:∀(A:Q0) (outer:List Env) (s:Qj) (H:Hp) (args:Args) (us:List P2) (vs:ad) (Q:VK) (E:XK),cK k A->yI P w K mg base A outer s H->BindsTo s fd args (ps.zip us)->bA vs us->sp vs H Q E ->
  So (QB P w) A (.call (.ref f) args) (CR CX outer P w H s Q E) s
def FnOk.mono{K:P4}{ps:al}(F:FnOk P w K mg base CX j f fd ps sp)(h:j<=k) :
  FnOk P w K mg base CX k f fd ps sp:=⟨F.len,λA outer s H args us vs Q E hr=>F.run A outer s H args us vs Q E (hr.mono h)⟩
def FnOk.imp{K:P4}{ps:al}(F:FnOk P w K mg base CX k f fd ps sp)
  (h:∀vs H Q E,sp' vs H Q E->sp vs H Q E):FnOk P w K mg base CX k f fd ps sp' :=
 ⟨λvs H Q E q=>F.len vs H Q E (h _ _ _ _ q),λA outer s H args us vs Q E hr he hb hv hs=>F.run A outer s H args us vs Q E hr he hb hv (h _ _ _ _ hs)⟩
def yI.make{K:P4}{A:Q0}(e:yI P w K mg base A outer s H)(C:P9)(us:List P2)(kw:List (Qu×P2)) :
  yI P w K mg base (A.under (.builtin "type.__call__" ⟨.ref C::us,kw⟩)) outer s H:=⟨by first|exact e.frames|(simpa[Ut,Code.envs,Vk,pushEnvs] using e.frames),e.mod,e.bs,e.bsz,e.funs,e.frf,e.hok,e.bare⟩
section
variable {X:Cx}{π:List (P9×Obj)}{σ:St}{H:Hp}{s s':Qj}
def Inv.env0(I:Inv X π σ H s):yI X.prog X.w X.K X.mg X.base X.A X.stack s H :=
 ⟨I.ok.frames,I.ok.mod,I.bs,QM I.ok.bsz I.sz,I.stack,I.stkFree,I.hok,I.bare⟩
def Inv.after(I:Inv X π σ H s)(h:CE X.stack X.prog X.w H s Q u s'):EP X π σ Q u s':=by
 obtain⟨v,H',os,bare,un,hok,r,q⟩:=h;obtain⟨hh,g,d,t,os'⟩:=s';obtain rfl:os'=s.os:=os;exact⟨v,H',I.call (h':=hh) (g':=g) (d':=d) (t':=t) (ch:=[]) un hok bare (λb z=>absurd z (by simp)),r,q⟩
end
noncomputable def LY(sp:Sp) (dvs:ad) (E:XK) (t:TA):TE:=λσ H Q=>t σ H λvs H1=>sp (vs++dvs) H1 Q E
noncomputable def il(K:P4) (fd:Rx) (ps:al) (ds:List P2):Prop :=
 ∀(s:Qj) (us:List P2),K.In s.heap->(us++ds).length=ps.length->BindsTo s fd ⟨us,[]⟩ (ps.zip (us++ds))
def il.all{K:P4}{ps:al}(h:∀us:List P2,us.length=ps.length->bindArgs fd ⟨us,[]⟩=pure (ps.zip us)):il K fd ps []:=λs us _ hl=>by
 rw[QN]at hl ⊢;exact .of_eq (h us hl)
noncomputable def fX(CX:yM) (X:Cx) (E:XK):Prop:=∀(π:List (P9×Obj)) (σ:St) (H:Hp) (s:Qj) (e:P2) (s':Qj),Inv X π σ H s->CX X.stack H s E e s'->X.xe e s'
section
variable {X:Cx}{CX:yM}{k:Nat}{f C:P9}{fd:Rx}{ps:al}{sp:Sp}{dvs:ad}{ds:List P2}{E:XK}{x m:Qu}{p pos apos:Pos}{e o:QX}{es:List QX}{ta:TE}{t:TA}
def JI(F:FnOk X.prog X.w X.K X.mg X.base CX k f fd ps sp)(hr:cK k X.A)(hb:il X.K fd ps ds)(hd:bA dvs ds)(hx:fX CX X E)
  (I:Inv X π σ H s)(r:bA vs us)(h:sp (vs++dvs) H Q E):QC (QB X.prog X.w) X.A (call (.ref f) us) (EP X π σ Q) X.xe s:=by
 have r2:bA (vs++dvs) (us++ds):=r.append hd;have hl:(us++ds).length=ps.length:=by rw[←r2.length];exact F.len _ _ _ _ h
 refine wpAny_call (codeAny_mono (F.run X.A X.stack s H ⟨us,[]⟩ (us++ds) (vs++dvs) Q E hr I.env0 (hb s us I.kIn hl) r2 h) λr s' hq=>?_);cases r with
 |error e=>exact hx π σ H s e s' I hq
 |ok fl=>
  cases fl with|ret u=>exact I.after hq|next|brk|cont=>exact Rn hq
def pI(F:FnOk X.prog X.w X.K X.mg X.base CX k f fd ps sp)(hr:cK k X.A)(hg:Gl X x)(hm:X.mg x=some (.ref f))(hk:SN X.K (.ref f)=true)(hb:il X.K fd ps ds)(hd:bA dvs ds)(hx:fX CX X E)
  (ha:PA X (e::es) t)(hdb:(x==("__debug__" : Qu))=false:=by decide)(he:Qb (e::es) X.env=(false,eval e X.env)::Qb es X.env:=by rfl)(hpl:(Rg pos (Qb es X.env)).any (·.1)=false:=by rfl) :
  PE X (.Call (.Name x p) (e::es) [] pos) (LY sp dvs E t):=by
 intro π s σ H Q I h;refine wpAny_Call_Name_kw (kd I hg hm ?_ hdb);refine W.callWith_K (h₀:=X.base) I.ok.mod.kin hk (de (ha pos π s σ H _ I h) λus s1 z9=>?_) he hpl;obtain⟨vs,H1,I1,r,q⟩:=z9;refine⟨I1.kIn,?_⟩;exact JI F hr hb hd hx I1 r q
end
structure eY (N P:al) (sc:T7):Prop where
 kind:sc.kind=.function
 co:sc.isCoroutine=false
 gen:sc.isGenerator=false
 nd:N.Nodup
 pre:N.take P.length=P
 par:∀x∈P,sc.names.lookup x=some .local ∨ sc.names.lookup x=some .cell
 nofree:∀y∈sc.names,y.2≠.free
theorem u9{kindOf:Qu->Option RC}:∀{binds:List (Qu×P2)}{m:Qu->Option P2},(∀v,(x,v)∉binds)->bindL kindOf binds m x=m x
 |[],_,_=>rfl
 |(n,v)::r,m,h=>by
  unfold bindL;rw[u9 λw hw=>h w (Qi _ hw)];split
  .have:x≠n:=by rintro rfl;exact h v Qq
   simp[this]
  .rfl
theorem vb{kindOf:Qu->Option RC}:∀{binds:List (Qu×P2)}{m:Qu->Option P2},(∀v,(x,v)∉binds)->bindC kindOf binds m x=m x
 |[],_,_=>rfl
 |(n,v)::r,m,h=>by
  unfold bindC;rw[vb λw hw=>h w (Qi _ hw)];split
  .rfl
  .have:x≠n:=by rintro rfl;exact h v Qq
   simp[this]
theorem va{kindOf:Qu->Option RC}{x:Qu}{v:P2}:∀{P:al}{vs:List P2}{i:Nat}{m:Qu->Option P2},P.Nodup->P[i]?=some x->vs[i]?=some v->kindOf x=some .local ->
  bindL kindOf (P.zip vs) m x=some v
 |[],_,_,_,_,h,_,_=>by simp at h
 |_::_,[],_,_,_,_,h,_=>by simp at h
 |p::P,w::vs,0,m,nd,h1,h2,hk=>by
  simp at h1 h2;subst h1;subst h2;show bindL kindOf ((p,w)::P.zip vs) m p=_;unfold bindL;rw[u9 λv hv=>(RP.mp nd).1 (UD hv).1,if_pos hk];simp
 |p::P,w::vs,i+1,m,nd,h1,h2,hk=>by
  show bindL kindOf ((p,w)::P.zip vs) m x=_;unfold bindL;exact va (i:=i) (RP.mp nd).2 (by simpa using h1) (by simpa using h2) hk
theorem vc{kindOf:Qu->Option RC}{x:Qu}{v:P2}:∀{P:al}{vs:List P2}{i:Nat}{m:Qu->Option P2},P.Nodup->P[i]?=some x->vs[i]?=some v->kindOf x≠some .local ->
  bindC kindOf (P.zip vs) m x=some v
 |[],_,_,_,_,h,_,_=>by simp at h
 |_::_,[],_,_,_,_,h,_=>by simp at h
 |p::P,w::vs,0,m,nd,h1,h2,hk=>by
  simp at h1 h2;subst h1;subst h2;show bindC kindOf ((p,w)::P.zip vs) m p=_;unfold bindC;rw[vb λv hv=>(RP.mp nd).1 (UD hv).1,if_neg hk];simp
 |p::P,w::vs,i+1,m,nd,h1,h2,hk=>by
  show bindC kindOf ((p,w)::P.zip vs) m x=_;unfold bindC;exact vc (i:=i) (RP.mp nd).2 (by simpa using h1) (by simpa using h2) hk
noncomputable def start(N:al) (vs:ad):St:=vs.map some++QG (N.length-vs.length) none
noncomputable def eZ(CX:yM) (P:Ra) (w:Rr) (K:P4) (mg:Qu->Option P2) (base:Qr) (N:al) (qual:Qu) (scope:T7) (f:P9) (cd:P2) (A:Q0) (outer:List Env) (s:Qj) (H:Hp) (E:XK):Cx where
 prog:=P
 w:=w
 K:=K
 mg:=mg
 base:=base
 A:=A.deeper (envOfC qual scope s.heap.objs.size f cd)
 N:=N
 sf:=s
 Ha:=H
 env:=envOfC qual scope s.heap.objs.size f cd
 outer:=outer
 stack:=envOfC qual scope s.heap.objs.size f cd::outer
 ex:=[]
 calm:=true
 fn:=λ_=>true
 pn:=[]
 xe:=λe s'=>QC (QB P w) (A.deeper (envOfC qual scope s.heap.objs.size f cd)) (leaving (envOfC qual scope s.heap.objs.size f cd) e) (λ_ s''=>CX outer H s E e s'') (λe' s''=>CX outer H s E e' s'') s'
def yB{sc:T7}(h:sc.names.lookup x=some .cell):∃c,(cellsFrom n sc.names []).lookup x=some c:=by
 have q:=W.cellsFrom_some sc.names n [] (.inl h);exact Tx.mp q
def Cr{K:P4}{N ps:al}{A:Q0} 
  (S:eY N ps scope)(hd:A.handled=none)(e0:yI P w K mg base A outer s H)(hl:vs.length=ps.length)(r:bA vs us)
  (x:InCallC s s.heap.objs.size (bindL (envOfC qual scope s.heap.objs.size f cd).kindOf (ps.zip us) λ_=>none) (cellsFrom (s.heap.objs.size+1) scope.names []) (bindC (envOfC qual scope s.heap.objs.size f cd).kindOf (ps.zip us) λ_=>none) s1) :
  Inv (eZ CX P w K mg base N qual scope f cd A outer s H E) [] (start N vs) H s1:=by
 have hpl:ps.length<=N.length:=by have:=congrArg Tv S.pre;rw[Rc]at this;omega
 obtain⟨h1,tk,rfl,hk⟩:=x.done;have noA:∀b:P9,b∉(eZ CX P w K mg base N qual scope f cd A outer s H E).ex:=λb z=>absurd (show b∈([]:List P9) from z) (by simp);refine⟨⟨e0.mod,S.kind,rfl,rfl,Ql _,λy z c h1 h2=>?_,λy hy=>?_,λy c _ h=>?_,λ_=>hd,Around.frames_deeper e0.frames,.inr ⟨rfl,rfl⟩,λb z=>absurd z (noA b),e0.bs,e0.bsz,λb _ _=>noA b,λb z=>absurd z (noA b),e0.funs,e0.frf⟩,
  rfl,e0.bare,Un.kept hk,⟨_,x.toInCall.ns,λi y v h1 h2 h3=>?_⟩,λy c h=>⟨_,x.cell y c h⟩,e0.hok.fresh (Ql _),λy c h=>?_,λp hp=>absurd (show p∈([]:List (P9×Obj)) from hp) (by simp),e0.hok.kept hk,?_⟩
 .exact name_of_addr x.apart (RQ h1) (RQ h2)
 .have hy:scope.names.lookup y=some .cell∨scope.names.lookup y=some .free:=hy
  rcases hy with hy|hy
  .exact yB hy
  .exact absurd rfl (S.nofree _ (RQ hy))
 .exact Ul (x.above y c (RQ h))
 .have hi:i<vs.length:=by
   unfold start at h2
   by_cases hi:i<vs.length
   .exact hi
   .rw[Qw (by simpa using hi)]at h2
    rw[QD]at h2;split at h2<;>cases h2
  have ha:vs[i]?=some v:=by
   unfold start at h2;rw[Qo (by simpa using hi),Qg]at h2;cases e:vs[i]? with|none=>rw[e]at h2;cases h2|some a=>rw[e]at h2;cases h2;rfl
  obtain⟨u,hu,rv⟩:=r.get ha;have hp:ps[i]?=some y:=by
   rw[←S.pre,UY (by omega)];exact h1
  have ndP:ps.Nodup:=by rw[←S.pre];exact S.nd.sublist (List.take_sublist _ _)
  refine⟨u,rv,?_⟩;rcases S.par y (Qh hp) with k|k
  .exact .inl ⟨k,va ndP hp hu k⟩
  .obtain⟨c,e⟩:=yB (n:=s.heap.objs.size+1) k
   refine .inr ⟨.inl k,c,e,?_⟩;have q:=x.cell y c e;rw[vc ndP hp hu (by show scope.names.lookup y≠_;rw[k];decide)]at q;exact q
 .exact e0.hok.fresh (Ul (x.above y c (RQ h)))
 .unfold start
  show _=N.length;rw[Qz,P7,Q7];omega
def IL{K:P4}{dV kV doc pm cdv ct oc:P2}
  {N ps:al}(lk:K.lookup f=some ⟨oc,od,.func (Sk name qual params body scope dV kV doc pm an cdv ct),osl⟩) (hcd:UI K cdv qual=true) (S:eY N ps scope)
  (len:∀vs H Q E,sp vs H Q E->vs.length=ps.length)
  (hbody:∀(A:Q0) (outer:List Env) (s:Qj) (H:Hp) (vs:ad) (Q:VK) (E:XK),cK k (A.deeper (envOfC qual scope s.heap.objs.size f cdv))->sp vs H Q E ->
   ∃t,vn (eZ CX P w K mg base N qual scope f cdv A outer s H E) body t/\t { nx:=λ_ H'=>Q .non H',rt:=Q } (start N vs) H) :
  FnOk P w K mg base CX (k+1) f (Sk name qual params body scope dV kV doc pm an cdv ct) ps sp:=by
 refine⟨len,λA outer s H args us vs Q E hr e0 hb r hsp=>?_⟩;have hl:=len _ _ _ _ hsp;have KX:K.In s.heap:=e0.mod.kin.keeps λb o e=>(e0.bs b o e).1;have lim:s.heap.NoLimit:=e0.mod.nolimit.keeps λb o e=>(e0.bs b o e).1;have hkind:∀y∈ps.zip us,scope.names.lookup y.1=some .local ∨ (scope.names.lookup y.1=some .cell/\((cellsFrom (s.heap.objs.size+1) scope.names []).lookup y.1).isSome=true):=λ⟨n,v⟩ hy=>by
  rcases S.par n (UD hy).1 with q|q
  .exact .inl q
  .exact .inr ⟨q,W.cellsFrom_some _ _ _ (.inl q)⟩
 refine codeAny_call_function hr.depth (KX _ _ lk) rfl S.co S.gen rfl (W.codeRec_of KX hcd) (hb _ _ _ _ ?_);refine wpAny_newFunctionEnv_cells S.kind hkind λenv he s1 x=>?_;subst he;refine⟨lim.keeps x.toInCall.keep,codeAny_func ?_⟩;obtain⟨t,ht,hq⟩:=hbody A outer s H vs Q E (hr.deeper _) hsp;have I:Inv (eZ CX P w K mg base N qual scope f cdv A outer s H E) [] (start N vs) H s1:=Cr S hr.hd e0 hl r x;refine Ri (ht [] s1 (start N vs) H _ I hq) (λfl s' hs=>?_) λe s' hs=>hs;have fin:∀{σ':St}{H':Hp}{v:V}{u:P2},Inv (eZ CX P w K mg base N qual scope f cdv A outer s H E) [] σ' H' s'->bX v u->Q v H'->CE outer P w H s Q u s' :=
  λ{σ' H' v u} J rv q=>⟨v,H',J.os,J.bare,J.base,J.hok,rv,q⟩
 cases fl with
 |ret u=>
  obtain⟨v,σ',H',J,rv,q⟩:=hs;exact fin J rv q
 |next=>
  obtain⟨σ',H',J,q⟩:=hs;exact fin (v:=V.non) (u:=RA) J rfl q
 |brk=>
  obtain⟨_,_,_,q⟩:=hs;exact Rn q
 |cont=>
  obtain⟨_,_,_,q⟩:=hs;exact Rn q
section
variable {X:Cx}{x:Qu}{p pos:Pos}{e:QX}{es:List QX}{t:TA}{id T:String}{r:ad->Hp->VK->Prop}
noncomputable def OZ(r:ad->Hp->VK->Prop) (t:TA):TE:=λσ H Q=>t σ H λvs H1=>r vs H1 Q
def qJ(hc:ik X (.builtin id) r)(hg:Gl X x)(hm:X.mg x=none)(hv:bootBuiltins x=some (.builtin id))(ha:PA X (e::es) t)(hn:x≠"__name__":=by decide)(hdb:(x==("__debug__" : Qu))=false:=by decide)
  (he:Qb (e::es) X.env=(false,eval e X.env)::Qb es X.env:=by rfl)(hpl:(Rg pos (Qb es X.env)).any (·.1)=false:=by rfl):PE X (.Call (.Name x p) (e::es) [] pos) (OZ r t):=by
 intro π s σ H Q I h;refine wpAny_Call_Name_kw (q9 I hg hm hv ?_ hn hdb);exact PyProof.Rows.callWith_builtin1 (de (ha pos π s σ H _ I h) λus s1 ⟨vs,H1,I1,r1,q1⟩=>hc π s1 σ H1 vs us Q I1 r1 q1) he hpl
def uC(hc:ik X (.type T) r)(hg:Gl X x)(hm:X.mg x=none)(hv:bootBuiltins x=some (.type T))(ha:PA X (e::es) t)(hn:x≠"__name__":=by decide)(hdb:(x==("__debug__" : Qu))=false:=by decide)
  (he:Qb (e::es) X.env=(false,eval e X.env)::Qb es X.env:=by rfl)(hpl:(Rg pos (Qb es X.env)).any (·.1)=false:=by rfl):PE X (.Call (.Name x p) (e::es) [] pos) (OZ r t):=by
 intro π s σ H Q I h;refine wpAny_Call_Name_kw (q9 I hg hm hv ?_ hn hdb);exact Tn (de (ha pos π s σ H _ I h) λus s1 ⟨vs,H1,I1,r1,q1⟩=>hc π s1 σ H1 vs us Q I1 r1 q1) he hpl
end
end L2
namespace HT
open PySem PyProof.Rows
section
variable {prog:Ra}{w:Rr}{A:Q0}{E:P2->Qj->Prop}{s:Qj}
def cat_tup{t b:P9}(ht:IsTup s.heap t vs.toArray)(hb:IsTup s.heap b ws.toArray)(hv:vs≠[])
  (h1:ws=[]->Q (.ref t) s)(h2:ws≠[]->Q (.ref s.heap.objs.size) { s with heap:=s.heap.push { cls:=.type "tuple",data:=.seq (vs++ws).toArray } })
  (hsz:vs.length+ws.length<=sizeLine):QC (QB prog w) A (binaryOp .Add (.ref t) (.ref b)) Q E s:=by
 obtain⟨⟨cls,dd,data,sl⟩,ho,hc,n,hd⟩:=id ht;obtain⟨⟨cls2,dd2,data2,sl2⟩,ho2,hc2,n2,hd2⟩:=id hb;simp only at hc hd hc2 hd2;subst hc hd hc2 hd2;have e:vs.toArray++ws.toArray=(vs++ws).toArray:=by simp
 by_cases hw:ws=[]
 .exact concat_meets ⟨_,ho,rfl⟩ ⟨_,ho2,rfl⟩ noFill_tuple_add seq_tuple_add Ve U5 (UX _ _)
   (tuple_addW1 t b vs.toArray ws.toArray n n2 dd dd2 sl sl2 (by simpa using hv) (by simp[hw])) ⟨ho,ho2,h1 hw⟩
 .refine concat_meets ⟨_,ho,rfl⟩ ⟨_,ho2,rfl⟩ noFill_tuple_add seq_tuple_add Ve U5 (UX _ _)
   (tuple_addW2 t b vs.toArray ws.toArray n n2 dd dd2 sl sl2 (by simpa using hv) (by simpa using hw) (by rw[Qp,Qp];exact hsz)) ⟨ho,ho2,?_⟩
  rw[e];exact h2 hw
noncomputable def sIx(n d:Nat):Option Int->Nat
 |none=>d
 |some v=>if v<0 then(v+(n:Int)).toNat else min v.toNat n
def sIx_none(n d:Nat):sIx n d none=d:=rfl
def sIx_nat(n d k:Nat):sIx n d (some (k:Int))=min k n:=by
 show(if(k:Int)<0 then((k:Int)+(n:Int)).toNat else min (k:Int).toNat n)=min k n;rw[if_neg (by omega),Tw]
def JG(n d:Nat)(hd:d<=n)(o:Option Int):sIx n d o<=n:=by
 cases o with
 |none=>exact hd
 |some v=>
  show(if v<0 then(v+(n:Int)).toNat else min v.toNat n)<=n
  by_cases hv:v<0
  .rw[if_pos hv];omega
  .rw[if_neg hv];exact Nat.min_le_right _ _
def BI(v:Int)(n d:Nat):(if v<0 then max (v+(n:Int)) 0 else min v (n:Int))=((sIx n d (some v):Nat):Int):=by
 show(if v<0 then max (v+(n:Int)) 0 else min v (n:Int))=(((if v<0 then(v+(n:Int)).toNat else min v.toNat n):Nat):Int)
 by_cases hv:v<0
 .simp only[if_pos hv];omega
 .simp only[if_neg hv];omega
def zZ(lo hi:Option Int)(n:Nat):Tt lo hi 1 (n:Int)=(((sIx n 0 lo:Nat):Int),((sIx n n hi:Nat):Int)):=by
 have h1:¬((1:Int)<0):=by omega
 unfold Tt;simp only[h1,if_false];refine Prod.ext ?_ ?_
 .cases lo with
  |none=>rfl
  |some v=>exact BI v n 0
 .cases hi with
  |none=>rfl
  |some v=>exact BI v n n
def zc(i j:Nat):Ss (i:Int) (j:Int) 1=j-i:=by
 unfold Ss;have h1:(1:Int) > 0:=by omega
 simp only[h1,if_true,Int.ediv_one];split<;>omega
def qm(p:IsPart v o)(h:Q o s):QC (QB prog w) A (Builtin.Slice.slicePartIndex v) Q E s:=by
 cases p with|none=>exact slicePart_none h|int i t=>exact slicePart_int h
def nB{lo hi:Option Int}{Q:Int×Int×Nat->Qj->Prop}(hs:s.heap.IsSliceOf sl vl vu .none)(pl:IsPart vl lo)(pu:IsPart vu hi)
  (h:Q (((sIx n 0 lo:Nat):Int),1,sIx n n hi-sIx n 0 lo) s):QC (QB prog w) A (UQ (.ref sl) (pure (n:Int))) Q E s:=by
 obtain⟨os,hos,hcs,hds⟩:=id hs;unfold UQ Builtin.Slice.sliceFields;refine P8 (P8 (wpAny_field hos hds (x:=vl) rfl (P8 (wpAny_field hos hds (x:=vu) rfl (P8 (wpAny_field hos hds (x:=.none) rfl (QH ?_)))))));refine P8 (slicePart_none ?_);show QC _ _ (if((1:Int)==0)=true then _ else _) _ _ s;rw[if_neg (by decide)];refine P8 (qm pl (P8 (qm pu (P8 (QH ?_)))));show QC _ _ (match Tt lo hi 1 (n:Int) with|(lo,hi)=>pure (lo,(1:Int),Ss lo hi 1)) _ _ s;rw[zZ lo hi n];show QC _ _ (pure (((sIx n 0 lo:Nat):Int),(1:Int),Ss ((sIx n 0 lo:Nat):Int) ((sIx n n hi:Nat):Int) 1)) _ _ s;rw[zc];exact QH h
def D0(xs:Array P2)(i k:Nat):((QL k).filterMap λ(m:Nat)=>xs[((i:Int)+(m:Int)*1).toNat]?).toArray=((xs.toList.drop i).take k).toArray:=by
 have e:(λ(m:Nat)=>xs[((i:Int)+(m:Int)*1).toNat]?)=λm=>xs[i+m]?:=by
  funext m;have:((i:Int)+(m:Int)*1).toNat=i+m:=by omega
  rw[this]
 rw[e];have:=pick_run xs i k;rw[List.filterMap_map]at this;have e2:((λx=>xs[x]?)∘λx=>i+x)=λm=>xs[i+m]?:=rfl;rw[e2]at this;rw[this]
def getItem_tuple_cut{lo hi:Option Int}(ht:IsTup s.heap t items)(hs:s.heap.IsSliceOf sl vl vu .none)(pl:IsPart vl lo)(pu:IsPart vu hi)
  (hw:¬(sIx items.size 0 lo=0/\sIx items.size items.size hi=items.size))
  (h:Q (.ref s.heap.objs.size) { s with heap:=s.heap.push { cls:=.type "tuple",data:=.seq ((items.toList.drop (sIx items.size 0 lo)).take (sIx items.size items.size hi-sIx items.size 0 lo)).toArray } })
  (hsz:items.size<=sizeLine):QC (QB prog w) A (getItem (.ref t) (.ref sl)) Q E s:=by
 have htake:sizeOk (.seq ((items.toList.drop (sIx items.size 0 lo)).take (sIx items.size items.size hi-sIx items.size 0 lo)).toArray):=by
  show((items.toList.drop (sIx items.size 0 lo)).take (sIx items.size items.size hi-sIx items.size 0 lo)).toArray.size<=sizeLine;rw[Qp,Rc,List.length_drop,T5];omega
 have hj:sIx items.size items.size hi<=items.size:=JG _ _ (Ql _) hi;obtain⟨os,hos,hcs,hds⟩:=id hs;have hTs:s.TypeIs (.ref sl) "slice":=⟨os,hos,hcs⟩
 unfold getItem
 try with_reducible refine Ry ?_
 first|refine P8 (QH ?_)|skip
 refine P8 (wpAny_sequenceKey ht.typeIs (by decide) ?_);refine P8 (wpAny_callSpecial?_slot (name:=Str.ofString "__getitem__") ht.typeIs SW
  (wpAny_call_entry SW ht.typeIs entry_tuple_getitem ?_ (args_tuple_getitem _ _)))
 show QC _ _ (Builtin.Tuple.tupleItemsOf (.ref t) >>= _) _ _ s;refine P8 (tupleItemsOf_ ht ?_);refine P8 (wpAny_typeOf hTs ?_);rw[if_pos (by decide)];refine P8 (nB hs pl pu ?_);have hno:¬((((sIx items.size 0 lo:Nat):Int)==0&&(1:Int)==1&&(sIx items.size items.size hi-sIx items.size 0 lo)==items.size)=true):=by
  intro q;rw[QK,QK]at q;have q1:((sIx items.size 0 lo:Nat):Int)=0:=eq_of_beq q.1.1;have q2:sIx items.size items.size hi-sIx items.size 0 lo=items.size:=eq_of_beq q.2;exact hw ⟨by omega,by omega⟩
 show QC _ _ (if(((sIx items.size 0 lo:Nat):Int)==0&&(1:Int)==1&&(sIx items.size items.size hi-sIx items.size 0 lo)==items.size)=true then _ else _) _ _ s;rw[if_neg hno,D0]
 first
  |exact P8 (m:=SD _) (wpAny_newObj_type (QH ⟨_,rfl,QH h⟩) htake)
  |exact P8 (m:=SD _) (wpAny_newObj_type (P8 (QH (QH ⟨_,rfl,QH h⟩))) htake)
  |exact P8 (P8 (m:=SD _) (wpAny_newObj_type (QH (QH ⟨_,rfl,QH h⟩)) htake))
  |exact P8 (P8 (m:=SD _) (wpAny_newObj_type (QH ⟨_,rfl,QH h⟩) htake))
end
end HT
namespace L2
open PySem PySem.Spec PyProof.Rows
noncomputable abbrev TO:=St->Hp->(Option Int->Hp->Prop)->Prop
noncomputable def PO(X:Cx) (e:Option QX) (t:TO):Prop :=
 ∀(π:List (P9×Obj)) (s:Qj) (σ:St) (H:Hp) (Q:Option Int->Hp->Prop),Inv X π σ H s->t σ H Q ->
  QC (QB X.prog X.w) X.A (evalPart e X.env) (λu s'=>∃o H',Inv X π σ H' s'/\IsPart u o/\Q o H') X.xe s
noncomputable def GA:TO:=λ_ H Q=>Q none H
noncomputable def LR(t:TE):TO:=λσ H Q=>t σ H λx H1=>∃i,x=.int i/\Q (some i) H1
section
variable {X:Cx}{e:QX}{te:TE}{lo hi:Option QX}{tl th:TO}{pos p2:Pos}
def GU:PO X none GA:=by
 intro π s σ H Q I h;rw[evalPart_none];exact QH ⟨none,H,I,.none,h⟩
def GS(h:PE X e te):PO X (some e) (LR te):=by
 intro π s σ H Q I hw;rw[evalPart_some];refine de (h π s σ H _ I hw) λu s1 ⟨x,H1,I1,r1,q1⟩=>?_;obtain⟨i,rfl,q⟩:=q1;obtain⟨t,rfl⟩:=r1;exact⟨some i,H1,I1,.int i t,q⟩
noncomputable def F2(X:Cx) (r:V->Option Int->Option Int->Hp->VK->Prop):Prop :=
 ∀(π:List (P9×Obj)) (s:Qj) (σ:St) (H:Hp) (x:V) (v vl vu:P2) (lo hi:Option Int) (sl:P9) (Q:VK),Inv X π σ H s->bX x v->s.heap.IsSliceOf sl vl vu .none->IsPart vl lo->IsPart vu hi->r x lo hi H Q ->
  ∃T id,TM (.type T) "__getitem__"=pure (some (.builtin id))/\s.TypeIs v T/\QC (QB X.prog X.w) X.A (getItem v (.ref sl)) (EP X π σ Q) X.xe s
def F2.or(h:F2 X r)(h':F2 X r'):F2 X (λx lo hi H Q=>r x lo hi H Q∨r' x lo hi H Q):=by
 intro π s σ H x v vl vu lo hi sl Q I rx hs pl pu q;rcases q with q|q
 .exact h π s σ H x v vl vu lo hi sl Q I rx hs pl pu q
 .exact h' π s σ H x v vl vu lo hi sl Q I rx hs pl pu q
noncomputable def OU(r:V->Option Int->Option Int->Hp->VK->Prop) (te:TE) (tl th:TO):TE:=λσ H Q=>te σ H λx H1=>tl σ H1 λl H2=>th σ H2 λu H3=>r x l u H3 Q
def xw(hr:F2 X r)(he:PE X e te)(hl:PO X lo tl)(hu:PO X hi th):PE X (.Subscript e (.Slice lo hi none p2) pos) (OU r te tl th):=by
 intro π s σ H Q I h;refine Subscript_ (de (he π s σ H _ I h) λv s1 ⟨x,H1,I1,r1,q1⟩=>?_);refine wpAny_Slice (de (hl π s1 σ H1 _ I1 q1) λvl s2 ⟨l,H2,I2,pl,q2⟩=>de (hu π s2 σ H2 _ I2 q2) λvu s3 ⟨u,H3,I3,pu,q3⟩=>?_);rw[evalPart_none];refine QH ?_;have I4:Inv X π σ H3 { s3 with heap:=s3.heap.push { cls:=.type "slice",data:=.fields #[vl,vu,.none] } }:=I3.kept (t':=s3.toks) λb ob q=>Qe _ q;obtain⟨T,id,hT,ht,hg⟩:=hr π { s3 with heap:=s3.heap.push { cls:=.type "slice",data:=.fields #[vl,vu,.none] } } σ H3 x v vl vu l u s3.heap.objs.size Q I4 r1 (Heap.IsSliceOf.new ..) pl pu q3;show QC (QB X.prog X.w) X.A (subscriptTail e (.Slice lo hi none p2) v (.ref s3.heap.objs.size)) (EP X π σ Q) X.xe { s3 with heap:=s3.heap.push { cls:=.type "slice",data:=.fields #[vl,vu,.none] } };exact tail_any (ops:=[.ref s3.heap.objs.size,v]) ht hT hg (by with_unfolding_all rfl)
noncomputable def yw(xs:ad) (lo hi:Option Int):ad:=(xs.drop (HT.sIx xs.length 0 lo)).take (HT.sIx xs.length xs.length hi-HT.sIx xs.length 0 lo)
def oN(xs:ad)(lo hi:Option Int):(yw xs lo hi).length<=xs.length:=by
 unfold yw;rw[Rc,List.length_drop];omega
noncomputable def Oh(K:P4):V->Option Int->Option Int->Hp->VK->Prop:=λx lo hi H Q=>∃a xs,x=.ref a/\kz K H a xs /\
 ¬(HT.sIx xs.length 0 lo=0/\HT.sIx xs.length xs.length hi=xs.length)/\∀p,H p=none->Q (.ref p) (upd H p (.tup (yw xs lo hi)))
def Jx:F2 X (Oh X.K):=by
 intro π s σ H x v vl vu lo hi sl Q I rx hs pl pu h;obtain⟨a,xs,rfl,hx,hw,q⟩:=h;cases rx;obtain⟨its,r,ht,hz⟩:=I.tuple hx;have hlen:its.toArray.size=xs.length:=by rw[Qp];exact r.length.symm
 refine⟨"tuple",_,SW.lookup,ht.typeIs,?_⟩;refine HT.getItem_tuple_cut ht hs pl pu (by rw[hlen];exact hw) ?_ (by rw[hlen];exact hz);rw[hlen];refine⟨.ref s.heap.objs.size,_,I.laid (t':=s.toks) (o:=.tup (yw xs lo hi)) (λb ob q=>Qe _ q) (Ql _) ?_,rfl,q _ (I.hok.fresh (Ql _))⟩;exact⟨QM (oN xs lo hi) hz,_,(r.drop (HT.sIx xs.length 0 lo)).take (HT.sIx xs.length xs.length hi-HT.sIx xs.length 0 lo),IsTup.new _ _⟩
noncomputable def Mg(K:P4):R2:=λx y H Q=>∃a b xs ys,x=.ref a/\y=.ref b/\kz K H a xs/\kz K H b ys/\xs≠[]/\xs.length+ys.length<=sizeLine /\
 (ys=[]->Q (.ref a) H)/\(ys≠[]->∀p,H p=none->Q (.ref p) (upd H p (.tup (xs++ys))))
def bA.nil_iff(r:bA xs us):us=[]↔xs=[]:=by
 cases r with|nil|cons _ _=>simp
def AN:fG X (binaryOp .Add) (Mg X.K):=by
 intro π s σ H x y v u Q I rx ry h;obtain⟨a,b,xs,ys,rfl,rfl,ha,hb,hx,hz,q1,q2⟩:=h;cases rx;cases ry;obtain⟨its,r1,p1,_⟩:=I.tuple ha;obtain⟨its2,r2,p2,_⟩:=I.tuple hb;refine HT.cat_tup p1 p2 (λz=>hx (r1.nil_iff.mp z)) (λz=>⟨.ref a,H,I,rfl,q1 (r2.nil_iff.mp z)⟩) (λz=>?_) (by rw[←r1.length,←r2.length];exact hz);refine⟨.ref s.heap.objs.size,_,I.laid (t':=s.toks) (o:=.tup (xs++ys)) (λb ob q=>Qe _ q) (Ql _) ?_,rfl,q2 (λw=>z (r2.nil_iff.mpr w)) _ (I.hok.fresh (Ql _))⟩;exact⟨by rw[Qz];exact hz,_,r1.append r2,IsTup.new _ _⟩
end
noncomputable def uK(n:Nat) (i:Int):Option Nat:=if 0<=i then(if i<n then some i.toNat else none) else if -(n:Int)<=i then some (i+n).toNat else none
noncomputable def atI{α:Type}(xs:List α) (i:Int):Option α:=(uK xs.length i).bind λj=>xs[j]?
def vX(h:uK n i=some j):seqIndex? i n=some j/\j<n/\-(n:Int)<=i/\i<n:=by
 unfold uK at h
 by_cases h0:0<=i
 .rw[if_pos h0]at h
  by_cases h1:i<n
  .rw[if_pos h1]at h
   have e:i.toNat=j:=Q4 h;exact⟨by rw[seqIndex_of h0 h1,e],by omega,by omega,h1⟩
  .rw[if_neg h1]at h;cases h
 .rw[if_neg h0]at h
  by_cases h1:-(n:Int)<=i
  .rw[if_pos h1]at h
   have e:(i+n).toNat=j:=Q4 h;exact⟨by rw[seqIndex_neg (by omega) h1,e],by omega,h1,by omega⟩
  .rw[if_neg h1]at h;cases h
def wD{v:α}(h:atI xs i=some v):∃j,seqIndex? i xs.length=some j/\xs[j]?=some v/\j<xs.length/\-(xs.length:Int)<=i/\i<xs.length:=by
 unfold atI at h;cases e:uK xs.length i with
 |none=>rw[e]at h;cases h
 |some j=>
  rw[e]at h;obtain⟨h1,h2,h3,h4⟩:=vX e;exact⟨j,h1,h,h2,h3,h4⟩
def fJ{j:Nat}{v:α}(h:xs[j]?=some v):atI xs (j:Int)=some v:=by
 have hj:j<xs.length:=(Qa.mp h).1;have e:uK xs.length (j:Int)=some j:=by
  unfold uK;rw[if_pos (by omega),if_pos (by omega)];simp
 unfold atI;rw[e];exact h
noncomputable def nh(b:QX):Prop:=∀o i,subscripted b false o i=operate [o,i] (getItem o i)
noncomputable def FQ(X:Cx) (r:R2):Prop :=
 ∀(value slice:QX) (π:List (P9×Obj)) (s:Qj) (σ:St) (H:Hp) (x y:V) (v u:P2) (Q:VK),Inv X π σ H s->bX x v->bX y u->r x y H Q ->
  subscripted slice false v u=operate [v,u] (getItem v u)->QC (QB X.prog X.w) X.A (subscriptTail value slice v u) (EP X π σ Q) X.xe s
noncomputable def OL(X:Cx) (id:String) (r:V->ad->Hp->VK->Prop):Prop :=
 ∀(π:List (P9×Obj)) (s:Qj) (σ:St) (H:Hp) (x:V) (xs:ad) (v:P2) (us:List P2) (Q:VK),Inv X π σ H s->bX x v->bA xs us->r x xs H Q ->
  QC (QB X.prog X.w) X.A (call (.builtin id) (v::us)) (EP X π σ Q) X.xe s
section
variable {X:Cx}{a b:QX}{ta tb:TE}{pos:Pos}
def FQ.or(h:FQ X r)(h':FQ X r'):FQ X (λx y H Q=>r x y H Q∨r' x y H Q):=by
 intro value slice π s σ H x y v u Q I rx ry q hs;rcases q with q|q
 .exact h value slice π s σ H x y v u Q I rx ry q hs
 .exact h' value slice π s σ H x y v u Q I rx ry q hs
def IF(hr:FQ X r)(ha:PE X a ta)(hb:PE X b tb)(hs:nh b):PE X (.Subscript a b pos) (Lq r ta tb):=by
 intro π s σ H Q I h;exact Subscript_ (K8 ha hb I h λv u s2 x y H2 I2 rx ry q=>hr a b π s2 σ H2 x y v u Q I2 rx ry q (hs _ _))
noncomputable def Me(K:P4):R2:=λx y H Q=>∃p xs i v,x=.ref p/\y=.int i/\fk K H p xs/\atI xs i=some v/\Q v H
noncomputable def Mc(K:P4):R2:=λx y H Q=>∃p xs i v,x=.ref p/\y=.int i/\kz K H p xs/\atI xs i=some v/\Q v H
noncomputable def Md:R2:=λx y H Q=>∃z i c,x=.str z/\y=.int i/\z.length<=sizeLine/\atI z.cps.toList i=some c/\Q (.str ⟨#[c]⟩) H
def Hu:FQ X (Me X.K):=by
 intro value slice π s σ H x y v u Q I rx ry h hs;obtain⟨p,xs,i,z,rfl,rfl,hq,he,q⟩:=h;cases rx;obtain⟨t,rfl⟩:=ry;obtain⟨its,r,pl,hz⟩:=I.list hq;obtain⟨j,h1,h2,h3,h4,h5⟩:=wD he;obtain⟨w,ew,rw'⟩:=r.get h2;have hl:=r.length;have hn:=qZ;have fin:EP X π σ Q w s:=⟨z,H,I,rw',q⟩
 by_cases h0:0<=i
 .have hj:i.toNat=j:=by
   rw[seqIndex_of h0 h5]at h1;exact Q4 h1
  exact item_listR pl.isList h0 (by omega) (by rw[hj];simpa using ew) fin hs
 .have hj:(i+(its.toArray.size:Int)).toNat=j:=by
   rw[seqIndex_neg (by omega) h4]at h1;rw[Qp,←hl];exact Q4 h1
  exact subscriptTail_builtinR (x:=w) pl.isList.typeIs slot_list_getitem.lookup
   (wpAny_getItem_list_neg (Q:=λr s'=>r=w/\EP X π σ Q r s') pl.isList (by omega) (by rw[Qp]<;>omega) (by omega) (by rw[hj];simpa using ew) ⟨rfl,fin⟩) hs
def Ks:FQ X (Mc X.K):=by
 intro value slice π s σ H x y v u Q I rx ry h hs;obtain⟨p,xs,i,z,rfl,rfl,hq,he,q⟩:=h;cases rx;obtain⟨t,rfl⟩:=ry;obtain⟨its,r,pl,hz⟩:=I.tuple hq;obtain⟨j,h1,h2,h3,h4,h5⟩:=wD he;obtain⟨w,ew,rw'⟩:=r.get h2;have hl:=r.length;have hn:=qZ;have fin:EP X π σ Q w s:=⟨z,H,I,rw',q⟩
 exact subscriptTail_builtinR (x:=w) pl.typeIs slot_tuple_getitem.lookup
  (getItem_tuple (j:=j) (Q:=λr s'=>r=w/\EP X π σ Q r s') pl (by omega) (by omega) (by rw[Qp,←hl];exact h1) (by simpa using ew) ⟨rfl,fin⟩) hs
def Kt:FQ X Md:=by
 intro value slice π s σ H x y v u Q I rx ry h hs;obtain⟨z,i,c,rfl,rfl,hz,he,q⟩:=h;obtain⟨t,rfl⟩:=rx;obtain⟨t',rfl⟩:=ry;obtain⟨j,h1,h2,h3,h4,h5⟩:=wD he;have hl:z.cps.toList.length=z.length:=by simp[Str.length]
 rw[hl]at h1 h4 h5;have hn:=qZ;exact tail_any (typeIs_str s z t) slot_str_getitem.lookup (getItem_str (c:=c) (by
  have e1:decide (i < -(2 ^ 63:Int))=false:=decide_eq_false (by omega);have e2:decide (i≥2 ^ 63)=false:=decide_eq_false (by omega);rw[e1,e2,Bool.or_false]) (by rw[h1];simpa using h2) ⟨.str ⟨#[c]⟩,H,I.tok _,⟨_,rfl⟩,q⟩) hs
noncomputable def O1(K:P4):R2:=λx y H Q=>Me K x y H Q∨Mc K x y H Q∨Md x y H Q
def EH:FQ X (O1 X.K):=Hu.or (Ks.or Kt)
def zu(its:List P2)(n j:Nat)(u:P2):T9 (·.setIfInBounds j u) { cls:=.type "list",data:=.seq its.toArray n }={ cls:=.type "list",data:=.seq (its.set j u).toArray n }:=by
 simp[T9]
def Inv.lst(I:Inv X π σ H s)(h:H p=some (.lst xs)) :
  ∃(its:List P2) (n:Nat),bA xs its/\s.heap.get? p=some { cls:=.type "list",data:=.seq its.toArray n }/\xs.length<=sizeLine:=by
 obtain⟨z,its,n,r,e⟩:=I.hok p _ h;exact⟨its,n,r,e,z⟩
def Inv.lstUpd{its its':List P2}(I:Inv X π σ H s)(h:H p=some (.lst xs))
  (ho:s.heap.get? p=some { cls:=.type "list",data:=.seq its.toArray n })(hf:f { cls:=.type "list",data:=.seq its.toArray n }={ cls:=.type "list",data:=.seq its'.toArray n' })(r:bA ys its')(hz:ys.length<=sizeLine)(t:Nat) :
  Inv X π σ (upd H p (.lst ys)) { s with heap:=s.heap.update p f,toks:=t }:=by
 have e:(s.heap.update p f).get? p=some { cls:=.type "list",data:=.seq its'.toArray n' }:=by
  rw[RI f ho (by rw[hf]<;>rfl),hf]
 refine I.write (x:=p) (e:=p) (by rw[h];trivial) (.inl rfl) (λb u hb q=>(RF _ _ (Q2 hb)).trans q) ⟨_,e⟩ ?_;exact⟨hz,its',n',r,e⟩
noncomputable def IA:V->V->V->Hp->(Hp->Prop)->Prop:=λo i v H Q=>∃p xs k j,o=.ref p/\i=.int k/\H p=some (.lst xs)/\uK xs.length k=some j/\Q (upd H p (.lst (xs.set j v)))
def qr:Nt X IA:=by
 intro π s σ H o i v ov iv u Q I ro ri rv h;obtain⟨p,xs,k,j,rfl,rfl,hp,hj,q⟩:=h;cases ro;obtain⟨t,rfl⟩:=ri;obtain⟨its,n,r,ho,hz⟩:=I.lst hp;obtain⟨h1,h2,h3,h4⟩:=vX hj;have hl:=r.length;have hn:=qZ;have I':Inv X π σ (upd H p (.lst (xs.set j v))) { s with heap:=s.heap.update p (T9 (·.setIfInBounds j u)) } :=
  I.lstUpd hp ho (zu its n j u) (r.set rv j) (by rw[List.length_set];exact hz) s.toks
 by_cases h0:0<=k
 .have hk:k.toNat=j:=by
   rw[seqIndex_of h0 h4]at h1;exact Q4 h1
  exact W.ki_setAt ho h0 (by omega) (by rw[Qp,←hl];exact h4) (by rw[hk];exact⟨_,I',q⟩)
 .have hk:(k+(its.toArray.size:Int)).toNat=j:=by
   rw[seqIndex_neg (by omega) h3]at h1;rw[Qp,←hl];exact Q4 h1
  exact W.ki_setBack ho (by omega) (by rw[Qp,←hl];exact h3) (by omega) (by rw[hk];exact⟨_,I',q⟩)
def vx(lo hi:Option Int)(n:Nat):(sliceBounds lo hi none n).1=((HT.sIx n 0 lo:Nat):Int)/\(sliceBounds lo hi none n).2.1=((HT.sIx n n hi:Nat):Int)/\(sliceBounds lo hi none n).2.2=1:=by
 refine⟨?_,?_,rfl⟩
 .cases lo with
  |none=>simp[sliceBounds,HT.sIx]
  |some i=>
   simp only[sliceBounds,HT.sIx,Option.getD_none,show(1:Int) > 0 by decide,if_true]
   by_cases h:i<0
   .simp only[h,if_true]<;>omega
   .simp only[h,if_false]<;>omega
 .cases hi with
  |none=>simp[sliceBounds,HT.sIx]
  |some i=>
   simp only[sliceBounds,HT.sIx,Option.getD_none,show(1:Int) > 0 by decide,if_true]
   by_cases h:i<0
   .simp only[h,if_true]<;>omega
   .simp only[h,if_false]<;>omega
def ub(its:List P2)(lo hi:Option Int):slicePick its.toArray lo hi none=((its.drop (HT.sIx its.length 0 lo)).take (HT.sIx its.length its.length hi-HT.sIx its.length 0 lo)).toArray:=by
 obtain⟨h1,h2,h3⟩:=vx lo hi its.toArray.size;unfold slicePick;rw[h1,h2,h3];simp only[sliceRange_one,pick_run,Qp]<;>rfl
noncomputable def Oj(K:P4):V->Option Int->Option Int->Hp->VK->Prop:=λx lo hi H Q=>∃a xs,x=.ref a/\fk K H a xs/\∀p,H p=none->Q (.ref p) (upd H p (.lst (yw xs lo hi)))
def As:F2 X (Oj X.K):=by
 intro π s σ H x v vl vu lo hi sl Q I rx hs pl pu h;obtain⟨a,xs,rfl,hx,q⟩:=h;cases rx;obtain⟨its,r,ht,hz⟩:=I.list hx;have hlen:=r.length;refine⟨"list",_,slot_list_getitem.lookup,ht.isList.typeIs,?_⟩;refine wpAny_getItem_list_slice ht.isList hs pl pu .none (by simp) ?_ (by rw[Qp]<;>omega);rw[ub,←hlen];refine⟨.ref s.heap.objs.size,_,I.laid (t':=s.toks) (o:=.lst (yw xs lo hi)) (λb ob q=>Qe _ q) (Ql _) ?_,rfl,q _ (I.hok.fresh (Ql _))⟩;exact⟨QM (oN xs lo hi) hz,_,0,(r.drop (HT.sIx xs.length 0 lo)).take (HT.sIx xs.length xs.length hi-HT.sIx xs.length 0 lo),Q9 _ rfl⟩
def vI:fG X (Q5 .NotIn) (λx y H Q=>∃i j,x=.str i/\y=.str j/\Q (.bl (!(!(R9 j i 0 j.length 1).isEmpty))) H):=by
 intro π s σ H x y v u Q I rx ry h;obtain⟨i,j,rfl,rfl,q⟩:=h;obtain⟨t,rfl⟩:=rx;obtain⟨t',rfl⟩:=ry;exact notIn_str ⟨.bl _,H,I,rfl,q⟩
def wz:ik X (.type "list") (λxs H Q=>∃p ys,xs=[.ref p]/\(fk X.K H p ys∨kz X.K H p ys)/\∀l,H l=none->Q (.ref l) (upd H l (.lst ys))):=by
 intro π s σ H xs us Q I r h;obtain⟨p,ys,rfl,hq,q⟩:=h;obtain⟨u,rfl,rx⟩:=qi r;cases rx;have fin:∀(its:List P2),bA ys its->ys.length<=sizeLine->∀(h':Qr) (c':Nat),(∀b o',s.heap.get? b=some o'->h'.get? b=some o') ->
   h'.get? s.heap.objs.size=some { cls:=.type "list",dict:=none,data:=.seq its.toArray c',slots:=#[] }->EP X π σ Q (.ref s.heap.objs.size) { s with heap:=h' }:=λits r' hz h' c' kp e=>
  ⟨.ref s.heap.objs.size,_,I.laid (t':=s.toks) kp (Ql _) (show cP X.prog X.w _ h' _ (.lst ys) from⟨hz,its,c',r',e⟩),rfl,q _ (I.hok.fresh (Ql _))⟩
 rcases hq with hq|hq
 .obtain⟨its,r',pl,hz⟩:=I.list hq
  have hlen:=r'.length;obtain⟨o,ho,hc,n,hd⟩:=pl.isList;exact call_list_seq p (.inl rfl) ho hc hd (λh' c' kp e=>fin its r' hz h' c' kp e) (by simp only[Qp]<;>omega)
 .obtain⟨its,r',pl,hz⟩:=I.tuple hq
  have hlen:=r'.length;obtain⟨o,ho,hc,n,hd⟩:=pl;exact call_list_seq p (.inr rfl) ho hc hd (λh' c' kp e=>fin its r' hz h' c' kp e) (by simp only[Qp]<;>omega)
noncomputable def NU(K:P4) (T:String) (x:V) (H:Hp):Prop:=match x with
 |.str _=>T="str"
 |.int _=>T="int"
 |.ref p=>(T="list"/\∃xs,fk K H p xs)∨(T="tuple"/\∃o,K.lookup p=some o/\o.cls=.type "tuple"/\o.dict=none) ∨
   (T="dict"/\((∃kvs,H p=some (.dK kvs))∨∃kvs,H p=some (.dT kvs)))∨(T="set"/\∃S n,H p=some (.set S n))
 |_=>False
def Dg(I:Inv X π σ H s)(r:bX x v)(ty:NU X.K T x H) :
  s.TypeIs v T/\∀a,v=.ref a->∃ob,s.heap.get? a=some ob/\ob.dict=none:=by
 cases x with
 |str z=>
  obtain⟨t,rfl⟩:=r;cases (show T="str" from ty);exact⟨typeIs_str s z t,λ_ e=>nomatch e⟩
 |int i=>
  obtain⟨t,rfl⟩:=r;cases (show T="int" from ty);exact⟨typeIs_int s i t,λ_ e=>nomatch e⟩
 |ref p=>
  cases r;rcases ty with⟨rfl,xs,hq⟩|⟨rfl,o,hk,hc,hd⟩|⟨rfl,hk⟩|⟨rfl,S,n,hk⟩
  .obtain⟨its,_,pl,_⟩:=I.list hq
   refine⟨pl.isList.typeIs,λa e=>?_⟩;cases e;obtain⟨o,n,e,c,hd,_⟩:=pl;exact⟨o,e,hd⟩
  .refine⟨⟨o,I.kIn p o hk,hc⟩,λa e=>?_⟩
   cases e;exact⟨o,I.kIn _ o hk,hd⟩
  .have z:∃o,s.heap.get? p=some o/\o.ExactDict:=by
    rcases hk with⟨kvs,hk⟩|⟨kvs,hk⟩
    .obtain⟨_,_,_,_,o,_,_,e,ex,_⟩:=I.hok p _ hk
     exact⟨o,e,ex⟩
    .obtain⟨_,_,_,_,o,_,_,e,ex,_⟩:=I.hok p _ hk
     exact⟨o,e,ex⟩
   obtain⟨o,e,ex⟩:=z;refine⟨⟨o,e,ex.1⟩,λa e2=>?_⟩;cases e2;exact⟨o,e,ex.2.1⟩
  .obtain⟨o,_,_,_,e,ex,_⟩:=I.hok p _ hk
   refine⟨⟨o,e,ex.1⟩,λa e2=>?_⟩;cases e2;exact⟨o,e,ex.2.1⟩
 |_=>exact Rn ty
noncomputable def Od(K:P4) (T:String) (r:V->ad->Hp->VK->Prop) (to:TE):TE:=λσ H Q=>to σ H λx H1=>NU K T x H1/\r x [] H1 Q
noncomputable def Py(K:P4) (T:String) (r:V->ad->Hp->VK->Prop) (to:TE) (t:TA):TE:=λσ H Q=>to σ H λx H1=>NU K T x H1/\t σ H1 λxs H2=>r x xs H2 Q
variable {o e:QX}{es:List QX}{to:TE}{t:TA}{name:Qu}{apos cpos:Pos}{T id:String}{r:V->ad->Hp->VK->Prop}
def J6(pa:PlainAttrs T)(slot:Slot T name id)(hty:typeOf (.builtin id)=pure (.type "method_descriptor"))(hm:OL X id r)(ho:PE X o to)
  (hbase:Sz o name X.env (eval o X.env)=eval o X.env:=by rfl)(hline:(apos.endLine==cpos.line)=true:=by rfl):PE X (.Call (.Attribute o name apos) [] [] cpos) (Od X.K T r to):=by
 intro π s σ H Q I h;refine wpAny_Call_method0_late hbase hline (de (ho π s σ H _ I h) λv s1 z9=>?_);obtain⟨x,H1,I1,r1,ty,q1⟩:=z9;obtain⟨h1,h2⟩:=Dg I1 r1 ty;exact⟨T,id,pa,slot,hty,h1,h2,TR rfl (PySem.evalArgs_none (hm π s1 σ H1 x [] v [] Q I1 r1 .nil q1))⟩
def AJ(pa:PlainAttrs T)(slot:Slot T name id)(hty:typeOf (.builtin id)=pure (.type "method_descriptor"))(hm:OL X id r)(ho:PE X o to)(ha:PA X (e::es) t)
  (hbase:Sz o name X.env (eval o X.env)=eval o X.env:=by rfl)
  (hfew:((Rg cpos (Qb (e::es) X.env)).all (λx=>!x.1)&&(TJ cpos (Sj [] X.env)).all (λx=>x.1.isSome)
  &&decide ((e::es).length+([]:List Te).length+(if([]:List Te).isEmpty then 0 else 1)<30))=true:=by rfl)
  (hline:(apos.endLine==cpos.line)=true:=by rfl) (hs:Qb (e::es) X.env=(false,eval e X.env)::Qb es X.env:=by rfl) (hplain:(Rg cpos (Qb es X.env)).any (·.1)=false:=by rfl) :
  PE X (.Call (.Attribute o name apos) (e::es) [] cpos) (Py X.K T r to t):=by
 intro π s σ H Q I h;refine wpAny_Call_method_late hbase hfew hline rfl (de (ho π s σ H _ I h) λv s1 ⟨x,H1,I1,r1,ty,q1⟩=>?_);obtain⟨h1,h2⟩:=Dg I1 r1 ty;refine⟨T,id,pa,slot,hty,h1,h2,?_⟩;have hA:=ha cpos π s1 σ H1 _ I1 q1;rw[hs]at hA ⊢;refine TR (by show(false||(Rg cpos (Qb es X.env)).any (·.1))=false;rw[hplain]<;>rfl) (T3 ?_);exact de hA λus s2 ⟨vs,H2,I2,r2,q2⟩=>hm π s2 σ H2 x vs v us Q I2 r1 r2 q2
end
noncomputable def OM(X:Cx) (id:String) (r:V->ad->Hp->VK->Prop):Prop :=
 ∀(π:List (P9×Obj)) (s:Qj) (σ:St) (H:Hp) (x:V) (xs:ad) (v:P2) (us:List P2) (Q:VK),Inv X π σ H s->bX x v->bA xs us->r x xs H Q ->
  QC (QB X.prog X.w) X.A (call (.builtin id) (v::us)) (EP X π σ Q) X.xe s
theorem bA.one:∀{x:V}{us:List P2},bA [x] us->∃u,us=[u]/\bX x u
 |_,_,.cons r .nil=>⟨_,rfl,r⟩
theorem bA.zero:∀{us:List P2},bA [] us->us=[]
 |_,.nil=>rfl
def bA.dropLast(h:bA xs us):bA xs.dropLast us.dropLast:=by
 induction h with
 |nil=>exact .nil
 |cons r t ih=>
  cases t with|nil=>exact .nil|cons q t'=>exact .cons r ih
theorem bA.eraseIdx:∀{xs:ad}{us:List P2}(i:Nat),bA xs us->bA (xs.eraseIdx i) (us.eraseIdx i)
 |_,_,_,.nil=>.nil
 |_,_,0,.cons _ t=>t
 |_,_,i+1,.cons r t=>.cons r (bA.eraseIdx i t)
def zM{α:Type}(l:List α):l.eraseIdx (l.length-1)=l.dropLast:=by
 induction l with
 |nil=>rfl
 |cons a r ih=>
  cases r with
  |nil=>rfl
  |cons b r=>
   have e:(a::b::r).length-1=((b::r).length-1)+1:=by
    have h1:(a::b::r).length=r.length+2:=rfl;have h2:(b::r).length=r.length+1:=rfl;omega
   rw[e,TL,ih]
   all_goals rfl
theorem uJ{α:Type}:∀(l:List α) (i:Nat),(l.eraseIdx i).length<=l.length
 |[],_=>Ql _
 |_::_,0=>Nat.le_succ _
 |_::r,i+1=>Nat.succ_le_succ (uJ r i)
section
variable {X:Cx}{π:List (P9×Obj)}{σ:St}{H:Hp}{s:Qj}{l b:P9}{xs ys zs:ad}
def Inv.lset{its its':List P2}(I:Inv X π σ H s)(hH:H l=some (.lst xs))
  (e:s.heap.get? l=some { cls:=.type "list",data:=.seq its.toArray n })(hf:f its.toArray=its'.toArray)(hv:bA ys its')(hz:ys.length<=sizeLine) :
  Inv X π σ (upd H l (.lst ys)) { s with heap:=s.heap.update l (T9 f),toks:=t' }:=by
 have q:=PySem.IsL.update e f;rw[hf]at q;refine I.write (x:=l) (e:=l) (by rw[hH];exact trivial) (.inl rfl) (λb' u hb hu=>(RF s.heap (T9 f) (Q2 hb)).trans hu) ⟨_,q⟩ ?_;exact⟨hz,its',_,hv,q⟩
def Inv.lnew(I:Inv X π σ H s)(hv:bA ys its)(hz:ys.length<=sizeLine) :
  Inv X π σ (upd H s.heap.objs.size (.lst ys)) { s with heap:=s.heap.push { cls:=.type "list",data:=.seq its.toArray },toks:=t' } :=
 I.laid (λ_ _ q=>Qe _ q) (Ql _) ⟨hz,its,0,hv,Q9 _ rfl⟩
def Inv.fresh(I:Inv X π σ H s):H s.heap.objs.size=none:=I.hok.fresh (Ql _)
def Inv.lstM(I:Inv X π σ H s)(hH:H l=some (.lst xs)):xs.length<=sizeLine/\∃(its:List P2) (n:Nat),bA xs its/\xs.length=its.length/\s.heap.get? l=some { cls:=.type "list",data:=.seq its.toArray n }:=by
 obtain⟨z,its,n,r,e⟩:=I.hok l _ hH;exact⟨z,its,n,r,r.length,e⟩
end
section
variable {X:Cx}
noncomputable def GO:V->ad->Hp->VK->Prop:=λx vs H Q=>∃l xs y,x=.ref l/\vs=[y]/\H l=some (.lst xs)/\xs.length<sizeLine/\Q .non (upd H l (.lst (xs++[y])))
def nL:OM X "list.append" GO:=by
 intro π s σ H x vs v us Q I rx rv h;obtain⟨l,xs,y,rfl,rfl,hH,hz,q⟩:=h;cases rx;obtain⟨u,rfl,ru⟩:=rv.one;obtain⟨z,its,n,r,hl,e⟩:=I.lstM hH;refine call_meets F.slot_list_append ⟨_,e,rfl⟩ F.entry_list_append (F.args_list_append_2 _ _) (PySem.list_append l its.toArray n u (by rw[Qp];omega)) ⟨e,?_⟩;refine⟨.non,_,I.lset (its':=its++[u]) hH e (by simp) (r.append (.cons ru .nil)) ?_,rfl,q⟩;rw[Qz,TV];omega
noncomputable def Ol:V->ad->Hp->VK->Prop:=λx vs H Q=>∃l xs y,x=.ref l/\vs=[]/\H l=some (.lst xs)/\xs[xs.length-1]?=some y/\Q y (upd H l (.lst xs.dropLast))
def Kh:OM X "list.pop" Ol:=by
 intro π s σ H x vs v us Q I rx rv h;obtain⟨l,xs,y,rfl,rfl,hH,hy,q⟩:=h;cases rx;have hus:=rv.zero;subst hus;obtain⟨z,its,n,r,hl,e⟩:=I.lstM hH;obtain⟨u,hu,ru⟩:=r.get hy;have hy':its.toArray[its.toArray.size-1]?=some u:=by
  show its.toArray[its.length-1]?=some u;rw[←Vq,←hl];exact hu
 refine call_meets F.slot_list_pop ⟨_,e,rfl⟩ F.entry_list_pop (F.args_list_pop_1 _) (MeetsSeq.list_pop_last l its.toArray n u hy' (by rw[Qp];omega)) ⟨e,?_⟩;refine⟨y,_,I.lset (its':=its.dropLast) hH e ?_ r.dropLast ?_,ru,q⟩
 .show its.toArray.eraseIdxIfInBounds (its.toArray.size-1)=its.dropLast.toArray
  rw[Qp,Uu,zM]
 .rw[List.length_dropLast]
  omega
noncomputable def JQ:V->ad->Hp->VK->Prop:=λx vs H Q=>∃l xs i k y,x=.ref l/\vs=[.int i]/\H l=some (.lst xs)/\-(2 ^ 63)<=i/\i<2 ^ 63/\seqIndex? i xs.length=some k/\xs[k]?=some y/\Q y (upd H l (.lst (xs.eraseIdx k)))
def Em:OM X "list.pop" JQ:=by
 intro π s σ H x vs v us Q I rx rv h;obtain⟨l,xs,i,k,y,rfl,rfl,hH,h1,h2,hk,hy,q⟩:=h;cases rx;obtain⟨u,rfl,ru⟩:=rv.one;obtain⟨t,rfl⟩:=ru;obtain⟨z,its,n,r,hl,e⟩:=I.lstM hH;obtain⟨w,hw,rw'⟩:=r.get hy;refine call_meets F.slot_list_pop ⟨_,e,rfl⟩ F.entry_list_pop (F.args_list_pop_2 _ _)
  (MeetsSeq.list_pop_at l its.toArray n i t k w (fitsIndex_both h1 h2) (by rw[Qp,←hl];exact hk) (by rw[←Vq];exact hw) (by rw[Qp];omega)) ⟨e,?_⟩
 refine⟨y,_,I.lset (its':=its.eraseIdx k) hH e ?_ (r.eraseIdx k) ?_,rw',q⟩
 .show its.toArray.eraseIdxIfInBounds k=(its.eraseIdx k).toArray
  rw[Uu]
 .have:=uJ xs k
  omega
end
end L2
namespace Att
open PySem PySem.W PySem.Calls PyProof.Rows
def pq{h:Qr}:∀(ns:List Int) (vs:List P2),WellAll P h vs (ns.map WData.int)->IntsAre vs ns:=by
 intro ns
 induction ns with
 |nil=>
  intro vs w;rw[RS]at w;cases w;exact .nil
 |cons n ns ih=>
  intro vs w;rw[Qf]at w;cases w with
  |cons a b=>
   cases a;exact .cons _ _ (ih _ b)
def B7{l:OpenLaw}(hn:l.most=some n){h:Qr} 
  (hpre:l.row.toRowW.claim.pre args=true)(hwl:WellAll P h vals args) :
  ∃a vs ns,vals=[Q6 a]/\args=[WData.list (ns.map WData.int)]/\h.get? a=some { cls:=.type "list",data:=.seq vs.toArray }/\IntsAre vs ns/\ns.length<=n:=by
 have hsh:WShape.hasAll [] args [.list .int]=true:=(pre_splitW hpre).1;have hc:l.pre.holds [] { args:=args }=true:=(pre_splitW hpre).2;obtain⟨d,r,rfl,h1,h2⟩:=hasAllW_cons hsh;obtain rfl:=hasAllW_nil h2;obtain⟨xs,rfl,h3⟩:=hasW_list h1;obtain⟨ns,rfl⟩:=items_int h3;have hlen:ns.length<=n:=by
  unfold OpenLaw.pre at hc;have h4:(WTm.not (.lt (.lit (.int (n:Int))) (.len (.arg 0)))).holds [] { args:=[.list (ns.map .int)] }=true:=by
   have h4:=(holds_andW hc).1;rw[hn]at h4;exact h4
  have h5:=condW_of h4 (w_not (w_lt w_lit (w_len_list (w_arg rfl))));rw[P7]at h5;refine Nat.le_of_not_lt λq=>?_;have q':(n:Int)<((ns.length:Nat):Int):=by omega
  first
   |(rw[decide_eq_true q']at h5;exact absurd h5 (by decide))
   |(simp at h5;omega)
 cases hwl with
 |cons w1 w2=>
  cases w2;cases w1 with|list ho hall=>exact⟨_,_,ns,rfl,rfl,ho,pq ns _ hall,hlen⟩
def Ca(l:OpenLaw)(args:List WData):l.row.toRowW.claim.post args (.bool true) args=true :=
 postW_of (r:=l.row.toRowW) (X:=(true==true))
  (show WShape.has [] (.bool true) .bool=true by first|rfl|decide|simp[WShape.has,WShape.arms,WShape.armsAll])
  (show(WTm.eq .res (.lit (.bool true))).value [] { args:=args,res:=some (.bool true),after:=args }=some (.bool (true==true)) from w_eq_bool (w_res rfl) w_lit) rfl
def attach_call{l:OpenLaw}{q:Ra} 
  (hn:l.most=some n)(hdf:d.params.defaults=[])
  (call:∀(w:Rr) (sf sg:Qj) (mg mb:Qu->Option P2) (fa:P9) (o:Obj) (pm cd doc:P2) (a:P9) (vs:List P2) (ns:List Int),
   Ground q loose [] XP w sf mg mb sg.heap->YP w sg.heap ->
   sg.heap.get? fa=some o->o.data=.func (docDef d.name d.params d.body d.scope pm cd doc)->sg.heap.CodeRec cd d.name->mg d.name=some (.ref fa) ->
   sg.heap.get? a=some { cls:=.type "list",data:=.seq vs.toArray }->IntsAre vs ns->ns.length<=n->sg.gens=#[] ->
   So (QB l.prog w) callerA (.call (.ref fa) ⟨[.ref a],[]⟩) (λr s'=>r=.ok (.ret (.bool true))/\OldK sg.heap s'.heap/\s'.os=sg.os/\AllBare s'.gens) sg) :
  WalkO q loose XP YP l.row.toRowW d [] (λf vs=>PySem.call f vs):=by
 intro w sf sg mg mb G Y fa o pm cd doc dV kV ho hd hcd hD hmg hg args vals as hpre hlay hrd hwl hlo;obtain rfl:dV=.none:=Dflts.none hD hdf;obtain rfl:kV=.none:=Dflts.noKw hD;obtain⟨a,vs,ns,rfl,rfl,hobj,hints,hlen⟩:=B7 hn hpre hwl;refine enter_call (codeAny_mono (call w sf sg mg mb fa o pm cd doc a vs ns G Y ho (fd_plain hd) hcd hmg hobj hints hlen hg) λr s' hq=>?_);obtain⟨rfl,h2,h3,h4⟩:=hq;exact⟨.inl ⟨.bool true,.bool true,[],rfl,λ_=>rfl,.bool true,Ca l _,λ_=>⟨Uq,λ_ hm=>(nomatch hm)⟩⟩,h2,h3,h4⟩
end Att
namespace L2
open PySem PySem.Spec PyProof.Rows
theorem uw:∀{vs:List P2}{ns:List Int},IntsAre vs ns->bA (ns.map V.int) vs
 |_,_,.nil=>.nil
 |_,_,.cons n t h=>.cons ⟨t,rfl⟩ (uw h)
noncomputable def Il(H:Hp):Prop:=∀b,H b=none∨∃o xs,H b=some (.frz o (.lst xs))
def ED{K:P4} 
  (KX:K.In sg.heap)(hns:sg.heap.Ns Qt mg)(hb:sg.heap.Ns builtinsNs mb)(hbb:∀x:Qu,x≠"__name__"->mb x=bootBuiltins x)(hlim:sg.heap.NoLimit)(hsm:∃mm,sg.heap.Ns SG mm)(hg:sg.gens=#[])
  (ha:sg.heap.get? a=some { cls:=.type "list",data:=.seq vs.toArray })(hi:IntsAre vs ns)(hl:ns.length<=sizeLine)(hr:cK k callerA)
  (F:∀base:Qr,K.In base->base.Ns Qt mg->FnOk P w K mg base CX k fa fd [x] sp)(hbind:∀(s:Qj) (u:P2),BindsTo s fd ⟨[u],[]⟩ [(x,u)])
  (hsp:∀H:Hp,Il H->fk K H a (ns.map V.int)->sp [.ref a] H (λv _=>v=.bl true) λ_ _ _=>False)
  (hCX:∀H e s',CX [] H sg (λ_ _ _=>False) e s'->False) :
  So (QB P w) callerA (.call (.ref fa) ⟨[.ref a],[]⟩) (λr s'=>r=.ok (.ret (.bool true))/\OldK sg.heap s'.heap/\s'.os=sg.os/\AllBare s'.gens) sg:=by
 have rv:=uw hi;have lenV:=hi.length;have core:∀H:Hp,Il H->fk K H a (ns.map V.int)->g6 P w H sg.heap->(∀b,H b≠none->b=a)->(H a≠none->K.lookup a=none) ->
   So (QB P w) callerA (.call (.ref fa) ⟨[.ref a],[]⟩) (λr s'=>r=.ok (.ret (.bool true))/\OldK sg.heap s'.heap/\s'.os=sg.os/\AllBare s'.gens) sg:=by
  intro H hO hS hok hA hK;have base_of:∀{b:P9}{o:Obj},sg.heap.get? b=some o->H b=none->(v5 sg.heap H).get? b=some o:=λe n=>ER e n;have noA:∀{b:P9}{o:Obj}{es:Array U9}{ep:Nat},sg.heap.get? b=some o->o.data=.dict es ep->H b=none:=λ{b o es ep} e d=>by
   cases q:H b with
   |none=>rfl
   |some u=>
    have e':b=a:=hA b (by rw[q];simp);subst e';rw[ha]at e;cases e;have d':Data.seq vs.toArray _=Data.dict es ep:=d;cases d'
  have nsK:∀{b:P9}{m:Qu->Option P2},sg.heap.Ns b m->(v5 sg.heap H).Ns b m:=λ{b m} ⟨o,es,ep,e,d,r⟩=>⟨o,es,ep,base_of e (noA e d),d,r⟩
  have hKb:K.In (v5 sg.heap H):=λb o e=>base_of (KX b o e) (by
   cases q:H b with
   |none=>rfl
   |some u=>
    have e':b=a:=hA b (by rw[q];simp);subst e';rw[hK (by rw[q];simp)]at e;cases e)
  have hM:Mod K mg (v5 sg.heap H):=⟨hKb,nsK hns,⟨mb,nsK hb,hbb⟩,let ⟨mc,h1,h2⟩:=hlim;⟨mc,nsK h1,h2⟩,let ⟨mm,h1⟩:=hsm;⟨mm,nsK h1⟩⟩
  have e0:yI P w K mg (v5 sg.heap H) callerA [] sg H:=⟨rfl,hM,λb o e=>G6 e,Nat.le_of_eq (Ct _ _),trivial,λb hb=>absurd (show b∈([]:List P9) from hb) (by simp),hok,.of_eq hg⟩
  refine codeAny_mono ((F _ hKb (nsK hns)).run callerA [] sg H ⟨[.ref a],[]⟩ [.ref a] [.ref a] _ _ hr e0 (hbind sg (.ref a)) (.cons rfl .nil) (hsp H hO hS)) λr s' h=>?_;cases r with
  |error e=>exact(hCX H e s' h).elim
  |ok fl=>
   cases fl with
   |next|brk|cont=>exact Rn h
   |ret u=>
    obtain⟨v,H',os,bare,un,hok',r',q⟩:=h;have q':v=.bl true:=q;subst q';obtain rfl:u=RB true:=r';refine⟨rfl,OldK.of_keep λb o e=>?_,os,bare⟩;cases q:H b with
    |none=>exact un.keep b o e q (by intro z;exact absurd (show b∈([]:List P9) from z) (by simp)) (by simp)
    |some u=>
     rcases hO b with z|⟨ob,xs,z⟩
     .rw[q]at z;cases z
     .have z2:=un.frzs b ob _ z
      obtain⟨e1,_⟩:=hok b _ z;obtain⟨e2,_⟩:=hok' b _ z2;rw[e]at e1;cases e1;exact e2
 cases hk:K.lookup a with
 |some o=>
  have e:=KX a o hk;rw[ha]at e;cases e;refine core (λ_=>none) (λ_=>.inl rfl) (.inr ⟨_,vs.toArray,_,hk,rfl,rfl,rfl,by rw[Qp,lenV];exact hl,by simpa using rv⟩) (λb u z=>by have z':(none:Option HO)=some u:=z;cases z') (λb z=>absurd rfl z) λz=>absurd rfl z
 |none=>
  refine core (λb=>if b=a then some (.frz { cls:=.type "list",data:=.seq vs.toArray } (.lst (ns.map V.int))) else none) (λb=>?_) (.inl (.inr ⟨{ cls:=.type "list",data:=.seq vs.toArray },if_pos rfl⟩)) (λb u z=>?_) (λb z=>?_) λ_=>hk
  .by_cases hb:b=a
   .exact .inr ⟨_,_,if_pos hb⟩
   .exact .inl (if_neg hb)
  .by_cases hb:b=a
   .have z':=(if_pos hb).symm.trans z
    cases z';subst hb;exact⟨ha,by rw[P7];exact hl,vs,_,rv,ha⟩
   .have z':=(if_neg hb).symm.trans z
    cases z'
  .by_cases hb:b=a
   .exact hb
   .exact absurd (if_neg hb) z
noncomputable abbrev KOf{K:P4}{h:Qr}(_:K.In h):P4:=K
def Gm{l:W.OpenLaw}{q:Ra}{K:Params->P4}{CX:Rr->yM}{sp:Rr->Sp} 
  (hi:importsNone q=true)(hn:l.most=some n)(hn2:n<=sizeLine)(hdf:d.params.defaults=[])(hr:cK k callerA)
  (hY:∀(w:Rr) (h:Qr),YP w h->(K w.params).In h)
  (F:∀(w:Rr) (mg:Qu->Option P2) (fa:P9) (h:Qr),(K w.params).In h->h.Ns Qt mg->mg d.name=some (.ref fa) ->
   ∃fd:Rx,(∀(s:Qj) (u:P2),BindsTo s fd ⟨[u],[]⟩ [(x,u)]) /\
    ∀base:Qr,(K w.params).In base->base.Ns Qt mg->FnOk l.prog w (K w.params) mg base (CX w) k fa fd [x] (sp w))
  (hsp:∀(w:Rr) (H:Hp) (a:P9) (ns:List Int),ns.length<=n->Il H->fk (K w.params) H a (ns.map V.int)->sp w [.ref a] H (λv _=>v=.bl true) λ_ _ _=>False)
  (hCX:∀(w:Rr) (H:Hp) (s:Qj) (e:P2) (s':Qj),CX w [] H s (λ_ _ _=>False) e s'->False) :
  W.WalkO q loose XP YP l.row.toRowW d [] (λf vs=>PySem.call f vs):=by
 refine Att.attach_call hn hdf λw sf sg mg mb fa o pm cd doc a vs ns G Y ho hd hcd hmg hobj hints hlen hg=>?_;have KX:=hY w _ Y;obtain⟨fd,hb,hF⟩:=F w mg fa _ KX G.T.g hmg;exact ED KX G.T.g G.T.b G.T.builtins G.T.nolimit (let ⟨mm,h1,_⟩:=(G.T.seer hi).mods;⟨mm,h1⟩) hg hobj hints (QM hlen hn2) hr hF hb (λH hO hS=>hsp w H a ns hlen hO hS) λH e s'=>hCX w H sg e s'
def walk_ofK{l:W.OpenLaw}{q:Ra}{K:Params->P4}{sp:P4->Sp} 
  (hi:importsNone q=true)(hn:l.most=some n)(hn2:n<=sizeLine)(hdf:d.params.defaults=[])(hr:cK k callerA)
  (hY:∀(w:Rr) (h:Qr),YP w h->(K w.params).In h)
  (F:∀(w:Rr) (mg:Qu->Option P2) (fa:P9) (h:Qr),(K w.params).In h->h.Ns Qt mg->mg d.name=some (.ref fa) ->
   ∃fd:Rx,(∀(s:Qj) (u:P2),BindsTo s fd ⟨[u],[]⟩ [(x,u)]) /\
    ∀base:Qr,(K w.params).In base->base.Ns Qt mg->FnOk l.prog w (K w.params) mg base CX k fa fd [x] (sp (K w.params)))
  (hsp:∀(K:P4) (H:Hp) (a:P9) (ns:List Int),ns.length<=n->Il H->fk K H a (ns.map V.int)->sp K [.ref a] H (λv _=>v=.bl true) λ_ _ _=>False)
  (hCX:∀(H:Hp) (s:Qj) (e:P2) (s':Qj),CX [] H s (λ_ _ _=>False) e s'->False) :
  W.WalkO q loose XP YP l.row.toRowW d [] (λf vs=>PySem.call f vs) :=
 Gm (K:=K) (CX:=λ_=>CX) (sp:=λw=>sp (K w.params)) hi hn hn2 hdf hr hY F (λw H a ns h1 h2 h3=>hsp (K w.params) H a ns h1 h2 h3) λ_ H s e s'=>hCX H s e s'
noncomputable def Hy(s:RH) (j:Nat):RH:=match s with
 |.ClassDef _ _ _ body _ _ _ _ _ _ _=>body.getD j (.Pass ⟨0,0,0,0⟩)
 |_=>.Pass ⟨0,0,0,0⟩
noncomputable def defArgs(s:RH):Arguments:=match s with
 |.FunctionDef _ a _ _ _ _ _ _ _ _=>a
 |_=>{ posonlyargs:=[],args:=[],vararg:=none,kwonlyargs:=[],kw_defaults:=[],kwarg:=none,defaults:=[] }
noncomputable def defBody(s:RH):List RH:=match s with
 |.FunctionDef _ _ b _ _ _ _ _ _ _=>b
 |_=>[]
noncomputable def defScope(s:RH):T7:=match s with
 |.FunctionDef _ _ _ _ _ _ sc _ _ _=>sc
 |_=>{ kind:=.function,names:=[],isGenerator:=false,isCoroutine:=false }
noncomputable abbrev CX0:yM:=λ_ _ _ _ _ _=>False
noncomputable abbrev E0:XK:=λ_ _ _=>False
def AL:fX CX0 X E0:=λ_ _ _ _ _ _ _ h=>h.elim
structure CZ (K:P4) (x qual:Qu) (st:RH) (f:P9) (fd:Rx):Prop where
 ex:∃(oc:P2) (od:Option P9) (kV doc pm:P2) (an:Option P9) (cdv ct:P2) (osl:Array (Option P2)),
  fd=Sk x qual (defArgs st) (defBody st) (defScope st) .none kV doc pm an cdv ct/\K.lookup f=some ⟨oc,od,.func fd,osl⟩/\UI K cdv qual=true
 kp:SN K (.ref f)=true
section
variable {P:Ra}{w:Rr}{K:P4}{mg:Qu->Option P2}{base:Qr}
def CZ.ok{st:RH}{N ps:al}(F:CZ K x qual st f fd)(S:eY N ps (defScope st))(len:∀vs H Q E,sp vs H Q E->vs.length=ps.length)
  (hbody:∀(cdv:P2) (A:Q0) (outer:List Env) (s:Qj) (H:Hp) (vs:ad) (Q:VK) (E:XK),cK k (A.deeper (envOfC qual (defScope st) s.heap.objs.size f cdv))->sp vs H Q E ->
   ∃t,vn (eZ CX0 P w K mg base N qual (defScope st) f cdv A outer s H E).nox (defBody st) t/\t { nx:=λ_ H'=>Q .non H',rt:=Q } (start N vs) H):FnOk P w K mg base CX0 (k+1) f fd ps sp:=by
 obtain⟨oc,od,kV,doc,pm,an,cdv,ct,osl,rfl,lk,hcd⟩:=F.ex;refine IL lk hcd S len λA outer s H vs Q E hr hsp=>?_;obtain⟨t,h,q⟩:=hbody cdv A outer s H vs Q E hr hsp;exact⟨t,h.nox,q⟩
def CZ.binds{st:RH}{ps:al}(F:CZ K x qual st f fd)
  (h:∀(kV doc pm:P2) (an:Option P9) (cdv ct:P2) (us:List P2),us.length=ps.length->bindArgs (Sk x qual (defArgs st) (defBody st) (defScope st) .none kV doc pm an cdv ct) ⟨us,[]⟩=pure (ps.zip us)):il K fd ps []:=by
 obtain⟨oc,od,kV,doc,pm,an,cdv,ct,osl,rfl,lk,hcd⟩:=F.ex;exact .all (h kV doc pm an cdv ct)
def v8{st:RH}{kV doc pm cdv ct:P2}(l:K.lookup f=some ⟨oc,od,.func (Sk x qual (defArgs st) (defBody st) (defScope st) .none kV doc pm an cdv ct),osl⟩)
  (c:UI K cdv qual=true)(k:SN K (.ref f)=true):CZ K x qual st f (Sk x qual (defArgs st) (defBody st) (defScope st) .none kV doc pm an cdv ct):=⟨⟨oc,od,kV,doc,pm,an,cdv,ct,osl,rfl,l,c⟩,k⟩
end
noncomputable def aG(H H':Hp):Prop:=∀b o,H b=some o->H' b=some o
def aG.refl(H:Hp):aG H H:=λ_ _ h=>h
def aG.trans(a:aG H H1)(b:aG H1 H2):aG H H2:=λc o h=>b c o (a c o h)
def aG.free(e:aG H H')(h:H' l=Uz):H l=Uz:=by
 cases q:H l with
 |none=>rfl
 |some o=>
  rw[e l o q]at h;cases h
end L2
namespace DL
open PySem PySem.Spec PySem.Calls PySem.W PyProof.Rows Builtin Builtin.ObjectAttr Builtin.Getset_descriptor
section
variable {prog:Ra}{w:Rr}{A:Q0}{E:P2->Qj->Prop}{h:Qr}{g:Array GenState}{d:Drawn}{t:Nat}{os:OsState}{a C:P9}{o:Obj}{K:Frag}
structure uq (K:Frag) (C:P9):Prop where
 cls:findIn K (.ref C) "__class__"=some (some (.builtin "object.__class__"))
 ga:findIn K (.ref C) "__getattribute__"=some (some (.builtin "BaseException.__getattribute__"))
 gt:findIn K (.ref C) "__getattr__"=some none
 ob:mroIn K C (.type "object")=some true
 be:subIn K (.ref C) (.type "BaseException")=some true
def Jq(X:K.In h)(Z:uq K C)(hx:h.get? a=some o)(hc:o.cls=.ref C)(hq:R (.ok (.ret (.ref C))) ⟨h,g,d,t,os⟩) :
  So (QB prog w) A (.call (.builtin "getset_descriptor.__get__") ⟨[.builtin "object.__class__",.ref a,tp],[]⟩) R ⟨h,g,d,t,os⟩:=by
 have L0:Looks (QB prog w) h (typeOf (.ref a)) (.ref C):=hc▸(Looks.ld hx).andThen .now;have L1:=looks_mroIn (M:=QB prog w) X Z.ob;refine codeAny_call_builtin KF.slot_gs.plain KF.entry_gs (KF.slot_gs.check _ _ _ _ _ _ _ _ KF.type_class (KF.args_gs _ _ _) ?_);unfold Builtin.«getset_descriptor.__get__» descrGet;rw[dga_obj];refine P8 (QH ?_);unfold descrGetter descrCheckInstance descrNameAndClass isInstance;simp only[KF.owner_class]
 repeat lk
 refine⟨Ud _ (by decide +kernel),codeAny_builtin KF.entry_class ?_⟩;unfold Builtin.«object.__class__» shownTypeOf
 repeat lk
 exact hq
def C9(X:K.In h)(Z:uq K C)(hx:h.get? a=some o)(hc:o.cls=.ref C)(hq:Q () ⟨h,g,d,t,os⟩):QC M A (checkBuiltinCall "BaseException.__getattribute__" ⟨[.ref a,nameV],[]⟩) Q E ⟨h,g,d,t,os⟩:=by
 have hk:builtinKind "BaseException.__getattribute__"=some .slot:=by decide +kernel
 have hsplit:splitId "BaseException.__getattribute__"=some ("BaseException","__getattribute__"):=by decide +kernel
 have ha:=F.args_bexc_ga (.ref a) nameV;have LS:Looks M h (isSubtype (.ref C) (.type "BaseException")) true:=looks_subIn X Z.be;simp only[checkBuiltinCall,hk,hsplit];refine P8 ?_
 .unfold isInstance
  repeat (first|(with_reducible refine RM hx ?_;rw[hc])|(with_reducible refine LS.at ?_)|wp_step)
  exact hq
def C8(X:K.In h)(Z:uq K C)(hx:h.get? a=some o)(hc:o.cls=.ref C)(hq:Q (.done (.ret (.ref C))) ⟨h,g,d,t,os⟩) :
  QC (QB prog w) A (Builtin.«object.__getattribute__» ⟨[.ref a,.str "__class__" tk],[]⟩) Q E ⟨h,g,d,t,os⟩:=by
 have hT5:(⟨h,g,d,t,os⟩:Qj).TypeIs (.builtin "object.__class__") "getset_descriptor":=Vp;have f5:=Vp;have f6:=F.slot_gs_get.lookup;have f7:=F.slot_gs_set.lookup;have LC:Looks (QB prog w) h (TM (.ref C) "__class__") (some (.builtin "object.__class__")):=looks_findIn X Z.cls
 repeat (any_goals (first|assumption|(with_reducible refine RM hx ?_;rw[hc])|(with_reducible refine LC.at ?_)|wp_step))
 refine Jq X Z hx hc ?_
 repeat (any_goals (first|assumption|wp_step))
def Gf(X:K.In h)(Z:uq K C)(hx:h.get? a=some o)(hc:o.cls=.ref C)(hq:R (.ok (.ret (.ref C))) ⟨h,g,d,t,os⟩) :
  So (QB prog w) A (.call (.builtin "BaseException.__getattribute__") ⟨[.ref a,.str "__class__" tk],[]⟩) R ⟨h,g,d,t,os⟩ :=
 codeAny_call_builtin F.attr_ValueError.ga.plain F.entry_bexc_ga (C9 X Z hx hc (C8 X Z hx hc hq))
def LL(X:K.In h)(Z:uq K C)(hx:h.get? a=some o)(hc:o.cls=.ref C)(hq:Q (.ref C) ⟨h,g,d,t,os⟩) :
  QC (QB prog w) A (getAttrBy (.ref a) (.str "__class__" tk) false) Q E ⟨h,g,d,t,os⟩:=by
 have f3:=F.attr_ValueError.ga.bind (.ref a);have hx2:(T6 "BaseException.__getattribute__"==T6 "object.__getattribute__")=false:=by decide +kernel
 have hx1:(onTheHeap (Q6 C)&&T6 "BaseException.__getattribute__"==T6 "object.__getattribute__")=false:=by rw[hx2];rfl
 have L1:Looks (QB prog w) h (TM (.ref C) "__getattribute__") (some (.builtin "BaseException.__getattribute__")):=looks_findIn X Z.ga;have L2:Looks (QB prog w) h (TM (.ref C) "__getattr__") none:=looks_findIn X Z.gt
 repeat (any_goals (first|assumption|(with_reducible refine RM hx ?_;rw[hc])|(with_reducible refine L1.at ?_)|(with_reducible refine L2.at ?_)|wp_step))
 refine Gf X Z hx hc ?_
 repeat (any_goals (first|assumption|wp_step))
def Gg(X:K.In h)(Z:uq K C)(hx:h.get? a=some o)(hc:o.cls=.ref C)(hq:Q (some (.ref C)) ⟨h,g,d,t+1,os⟩):QC (QB prog w) A (getAttr? (.ref a) "__class__") Q E ⟨h,g,d,t,os⟩:=by
 unfold getAttr? getAttrBy?
 repeat (any_goals (first|assumption|with_reducible apply LL X Z hx hc|wp_step))
end
noncomputable def C0(a C:P9) (dc:Option P9):Qr->Prop:=λh=>∃o vs,h.get? a=some o/\o.cls=.ref C/\o.data=.fields vs/\o.dict=dc
def xM{K:Frag}{a C:P9}{dc:Option P9}(Z:uq K C)(hC:(clsIn K C).isSome=true):KitX K (.ref a) (.ref C) (C0 a C dc) where
 ty:=λ_ _ _ ⟨o,_,h1,h2,_⟩=>h2▸(Looks.ld h1).andThen .now
 it:=λ_ _ X _=>by
  obtain⟨cd,hcD⟩:=Tx.mp hC;unfold clsIn at hcD;split at hcD
  .rename_i c' d' cd' sl' ho
   intro A' Q' E' s' k q;unfold isType loadHead;exact P8 (wpAny_loadPart (k _ _ (X _ _ ho)) (QH q))
  .cases hcD
 ne:=λh tp dd its n sl X htp=>by
  obtain⟨cd,hcD⟩:=Tx.mp hC;refine Bool.eq_false_iff.mpr λq=>?_;have e:C=tp:=Q6.inj (beq_iff_eq.mp q);subst e;unfold clsIn at hcD;split at hcD
  .rename_i c' d' cd' sl' ho
   have z:=(X _ _ ho).symm.trans htp;cases z
  .cases hcD
 ca:=λ{_ _ _ _ _ s} X ⟨o,_,h1,h2,_⟩ k=>by
  obtain⟨h,g,d,t,os⟩:=s;exact Gg X Z h1 h2 k
def uq.isCls{K:Frag}(Z:uq K C):(clsIn K C).isSome=true:=by
 obtain⟨cd,a,b⟩:=U6.mp Z.ob;rw[a];rfl
noncomputable def gV:List String:=["NoneType","bool","int","str","tuple","list","dict"]
structure XC (K:Frag) (x:Qu) (C:P9):Prop where
 ns:nsIn K Qt x=some (some (.ref C))
 ek:uq K C
 bt:∀T∈gV,kitOne K (.ref C) (.type T)=some false
end DL
namespace DL
open PySem PySem.Spec PyProof.Rows L2
def sR(o:Obj)(f:Array P2->Array P2):(o.mapFields f).dict=o.dict:=by unfold Obj.mapFields;split<;>rfl
noncomputable def kC(h:Qr) (e:P9) (dc:Option P9):Prop:=∃o,h.get? e=some o/\o.dict=dc
section
variable {M:Model}{A:Q0}{E:P2->Qj->Prop}{s:Qj}{base:Qr}{env:Rv}{outer l:List Rv}{L e:P9}{cls a0 fl:P2}{dc:Option P9}{Q:Unit->Qj->Prop}
def xW(hfr:A.frames=some (env::outer))(hl:s.heap.FunFrames base (env::outer))(hf:env.frame=some L)(he:s.heap.get? e=some oe)(kb:base.StaysIn s.heap)(hen:base.get? e=none)(hd:oe.data=.fields vs)(hz:1<vs.size)(h0:vs[0]?=some a0)
  (h:∀h',VB base (env::outer) e oe.cls a0 (rawInt L) s.heap h'->kC h' e oe.dict->Q () { s with heap:=h' }) :
  QC M A (do
   let a ←frameOf env
   let pl ←entryPlaceOf L b0
   let b ←VF head a .none (rawInt L) .none pl
   setField (.ref e) 1 b) Q E s:=by
 have nf:e∉(env::outer).filterMap (·.frame):=λhm=>by
  obtain⟨_,o,ho,q⟩:=hl.mem hm;rw[he]at ho;cases ho;exact q vs hd
 refine P8 (wpAny_frameOf_fun hfr hl hf λg ⟨_,same,slots⟩=>P8 (wpAny_entryPlaceOf λpl hpl=>?_));have ge:g.get? e=some oe:=(same e nf).trans he;have up:∀(N:Obj) (f:Obj->Obj) (b:P9) (o:Obj),b≠e->g.get? b=some o->((g.push N).update e f).get? b=some o:=λN f b o hb q=>(RF _ _ (Q2 hb)).trans (Qe _ q);have ne:∀b o,s.heap.get? b=some o->(∀vs,o.data≠.fields vs)->b≠e:=λb o q z c=>by subst c;rw[he]at q;cases q;exact z vs hd
 have kg:base.StaysIn g:=λb o q=>(same b λhm=>by rw[(hl.mem hm).1]at q;cases q).trans (kb b o q);unfold VF newFields;refine P8 (wpAny_newObj_type ?_ (hpl.sizeOk5 _ _ _ _ _));have d3:=Ua hd (·.setIfInBounds 1 (Q6 g.objs.size));have hTe:g.objs.size≠e:=Nat.ne_of_gt (Qv ge);have at_e:∀N:Obj,((g.push N).update e (Obj.mapFields (·.setIfInBounds 1 (Q6 g.objs.size)))).get? e=some (oe.mapFields (·.setIfInBounds 1 (Q6 g.objs.size))):=λN=>RI _ (Qe _ ge) (Vn d3);refine wpAny_setField (Qe _ ge) hd hz (h _ ⟨λb o q=>up _ _ b o (λc=>by subst c;rw[hen]at q;cases q) (kg b o q),hl.of_keeps λb o q z=>?_,?_,λb o q z=>?_⟩ ⟨_,at_e _,sR _ _⟩)
 .obtain⟨sl,x⟩:=slots b o q
  exact⟨_,up _ _ b _ (ne b o q z) x,rfl⟩
 .refine⟨_,_,g.objs.size,_,_,at_e _,⟨Obj.cls_mapFields _ _,?_⟩,d3,?_,kg.fresh,hTe,(RF _ _ (Q2 hTe)).trans (Q9 g rfl),rfl,?_⟩
  .rw[Array.getElem?_setIfInBounds_ne (by decide)];exact h0
  .simp[hz]
  .first|(simp;done)|(rcases hpl with rfl|⟨_,_,_,_,_,_,_,rfl⟩<;>simp)
 .obtain⟨sl,x⟩:=slots b o q
  exact⟨sl,up _ _ b _ (ne b o q z) x⟩
def EW(hfr:A.frames=some (env::outer))(hl:s.heap.FunFrames base (env::outer))(hf:env.frame=some L)(he:s.heap.get? e=some oe)(kb:base.StaysIn s.heap)(hen:base.get? e=none)(hd:oe.data=.fields vs)(h1:vs[1]?=some .none)(h0:vs[0]?=some a0)
  (h:∀h',VB base (env::outer) e oe.cls a0 (rawInt L) s.heap h'->kC h' e oe.dict->Q () { s with heap:=h' }):QC M A (noteFrame (.ref e) env) Q E s:=by
 unfold noteFrame;simp only[hf];refine P8 (wpAny_field he hd h1 ?_);rw[if_neg (by decide)];exact xW hfr hl hf he kb hen hd (Sn.mp h1).1 h0 h
def Bg(hfr:A.frames=some (env::outer))(hl:s.heap.FunFrames base (env::outer))(hf:env.frame=some L)(ht:s.heap.TracedW base e cls a0)(hc:kC s.heap e dc)(kb:base.StaysIn s.heap)(hen:base.get? e=none)
  (h:∀h',VB base (env::outer) e cls a0 (rawInt L) s.heap h'->kC h' e dc->Q () { s with heap:=h' }):QC M A (noteFrame (.ref e) env) Q E s:=by
 obtain⟨oe,vs,T,oT,ts,he,⟨rfl,h0⟩,hd,h1,hnT,hTe,hT,dT,h3⟩:=ht;obtain⟨o',q,rfl⟩:=hc;rw[he]at q;cases q;have oth:∀(f:Obj->Obj) (b:P9),b≠T->(s.heap.update T f).get? b=s.heap.get? b:=λf b hb=>RF _ _ (Q2 hb);have ne:∀b o,s.heap.get? b=some o->(∀vs,o.data≠.fields vs)->b≠T:=λb o q z c=>by subst c;rw[hT]at q;cases q;exact z ts dT
 unfold noteFrame;simp only[hf];refine P8 (wpAny_field he hd h1 ?_);rw[if_pos (by simp)];refine P8 (wpAny_field hT dT h3 ?_);rw[if_neg (by simp[rawInt])];refine P8 (wpAny_setField hT dT (Sn.mp h3).1 ?_);refine xW hfr (hl.of_keeps λb o q z=>⟨o,(oth _ b (ne b o q z)).trans q,rfl⟩) hf ((oth _ e (Q2 hTe)).trans he) (λb o q=>(oth _ b λc=>by subst c;rw[hnT]at q;cases q).trans (kb b o q)) hen hd (Sn.mp h1).1 h0 λh' ⟨x1,x2,x3,x4⟩ x5=>h h' ⟨x1,x2,x3,λb o q z=>x4 b o ((oth _ b (ne b o q z)).trans q) z⟩ x5
def kh(kb:base.StaysIn s.heap)(hl:s.heap.FunFrames base l)(ht:s.heap.TracedAtW base e cls a0 fl)(hc:kC s.heap e dc)
  (h:∀h',base.StaysIn h'->h'.FunFrames base l->h'.TracedW base e cls a0->(∀b o,s.heap.get? b=some o->(∀vs,o.data≠.fields vs)->h'.get? b=some o)->kC h' e dc->Q () { s with heap:=h' }):QC M A (setFlight (.ref e) none) Q E s:=by
 obtain⟨oe,vs,T,oT,ts,he,hcl,hd,h1,hnT,hTe,hT,dT,h3⟩:=ht;have z3:3<ts.size:=(Sn.mp h3).1;have oth:∀(f:Obj->Obj) (b:P9),b≠T->(s.heap.update T f).get? b=s.heap.get? b:=λf b hb=>RF _ _ (Q2 hb);have ne:∀b o,s.heap.get? b=some o->(∀vs,o.data≠.fields vs)->b≠T:=λb o q z c=>by subst c;rw[hT]at q;cases q;exact z ts dT
 unfold setFlight;refine P8 (wpAny_field he hd h1 ?_);rw[if_pos (by simp)];obtain⟨o',q',rfl⟩:=hc;refine wpAny_setField hT dT z3 (h _ (λb o q=>(oth _ b λc=>by subst c;rw[hnT]at q;cases q).trans (kb b o q)) (hl.of_keeps λb o q z=>⟨o,(oth _ b (ne b o q z)).trans q,rfl⟩) ?_ (λb o q z=>(oth _ b (ne b o q z)).trans q) ⟨o',(oth _ e (Q2 hTe)).trans q',rfl⟩);exact⟨oe,vs,T,_,_,(oth _ e (Q2 hTe)).trans he,hcl,hd,h1,hnT,hTe,RI _ hT (Vn (Ua dT _)),Ua dT _,by simp[z3]⟩
noncomputable def Nu(h:Qr) (e:P9) (ox:Option P9):Prop:=∃dc,kC h e dc/\(ox=none∨ox=dc)
def zK(hfr:A.frames=some (env::outer))(hl:s.heap.FunFrames base (env::outer))(hf:env.frame=some L)(he:s.heap.get? e=some oe)(kb:base.StaysIn s.heap)(hen:base.get? e=none)(hd:oe.data=.fields vs)(h1:vs[1]?=some .none)(h0:vs[0]?=some a0)
  (h:∀h',Sb base outer e oe.cls a0 h'->s.heap.UpToSlots h'->kC h' e oe.dict->Q () { s with heap:=h' }):QC M A (leaving env (.ref e)) Q E s:=by
 unfold leaving;refine P8 (EW hfr hl hf he kb hen hd h1 h0 λg ⟨k1,k2,k3,k4⟩ dg=>?_);refine kh (s:={ s with heap:=g }) k1 k2 k3 dg λh' m1 ⟨_,_,m2⟩ m3 m4 dh=>h h' ⟨m1,hen,m2,m3⟩ (λb o q z=>?_) dh;obtain⟨sl,x⟩:=k4 b o q z;exact⟨sl,m4 b _ x z⟩
def Cw(hfr:A.frames=some (env::outer))(hf:env.frame=some L)(hfl:Sb base (env::outer) e cls a0 s.heap)(hc:kC s.heap e dc)
  (h:∀h',Sb base outer e cls a0 h'->s.heap.UpToSlots h'->kC h' e dc->Q () { s with heap:=h' }):QC M A (leaving env (.ref e)) Q E s:=by
 obtain⟨f1,f2,f3,f4⟩:=hfl;unfold leaving;refine P8 (Bg hfr f3 hf f4 hc f1 f2 λg ⟨k1,k2,k3,k4⟩ dg=>?_);refine kh (s:={ s with heap:=g }) k1 k2 k3 dg λh' m1 ⟨_,_,m2⟩ m3 m4 dh=>h h' ⟨m1,f2,m2,m3⟩ (λb o q z=>?_) dh;obtain⟨sl,x⟩:=k4 b o q z;exact⟨sl,m4 b _ x z⟩
def EX(hfr:A.frames=some (env::outer))(hf:env.frame=some L)(hfl:Sb base (env::outer) e cls a0 s.heap)(hc:kC s.heap e dc)
  (h:∀h',Heap.HeldW base (env::outer) e cls a0 L h'->s.heap.UpToSlots h'->kC h' e dc->Q () { s with heap:=h' }):QC M A (noteFrame (.ref e) env) Q E s:=by
 obtain⟨f1,f2,f3,f4⟩:=hfl;exact Bg hfr f3 hf f4 hc f1 f2 λg ⟨k1,k2,k3,k4⟩ dg=>h g ⟨k1,f2,k2,k3⟩ k4 dg
def EY(hh:Heap.HeldW base l e cls a0 L s.heap)(hc:kC s.heap e dc)(h:∀h',Sb base l e cls a0 h'->s.heap.UpToSlots h'->kC h' e dc->Q () { s with heap:=h' }):QC M A (setFlight (.ref e) none) Q E s:=by
 obtain⟨f1,f2,f3,f4⟩:=hh;exact kh f1 f3 f4 hc λh' k1 k2 k3 k4 k5=>h h' ⟨k1,f2,k2,k3⟩ (λb o q z=>⟨o.slots,k4 b o q z⟩) k5
def EZ(hh:Sb base l e cls a0 s.heap)(hc:kC s.heap e dc)(h:∀h',Sb base l e cls a0 h'->s.heap.UpToSlots h'->kC h' e dc->Q () { s with heap:=h' }):QC M A (setFlight (.ref e) none) Q E s:=by
 obtain⟨f1,f2,f3,f4⟩:=hh;exact kh f1 f3 f4.at hc λh' k1 k2 k3 k4 k5=>h h' ⟨k1,f2,k2,k3⟩ (λb o q z=>⟨o.slots,k4 b o q z⟩) k5
end
noncomputable def Lx:QX->Bool
 |.Starred _ _=>false
 |_=>true
def aW(h:Lx e=true):Qb (e::es) env=(false,eval e env)::Qb es env:=by
 cases e<;>first|(rw[Qb];intros;contradiction)|rw[Qb]|(cases h)
def gC(h:Lx e=true):Qb [e] env=[(false,eval e env)]:=by
 rw[aW h,Qb]
theorem bH:∀{es:List QX},es.all Lx=true->(Rg pos (Qb es env)).any (·.1)=false
 |[],_=>by rw[Qb];rfl
 |e::es,h=>by
  rw[Tc,QK]at h;rw[aW h.1];have:=bH (env:=env) (pos:=pos) h.2;show(false||(Rg pos (Qb es env)).any (·.1))=false;rw[this];rfl
def lP(h:Lx e=true):((Rg pos (Qb [e] env)).all (λx=>!x.1)&&(TJ pos (Sj [] env)).all (λx=>x.1.isSome)
  &&decide ([e].length+([]:List Te).length+(if([]:List Te).isEmpty then 0 else 1)<30))=true:=by
 rw[gC h,Sj];rfl
inductive Kd where
 |ins (c:Qu) (ks:al)|dint (ks:List Int)|exf (c:Qu) (ks:al)
inductive D where
 |non|bl (b:Bool)|int (i:Int)|str (x:Qu)|tup (xs:List D)|lst (xs:List D)|dic (ks:al) (xs:List D)|exc (x:Qu)|ob (k:Kd) (xs:List D)
abbrev ac:=List D
structure OI (K:P4) (ks:al) (C:P9):Prop where
 cls:NS K C
 no:∀f∈ks,n9 K C f
 gc:SA K (.ref C) "__class__"=some (some (.builtin "object.__class__"))
 gn:Uw K (.builtin "object.__class__") "__get__"=some (some (.builtin "getset_descriptor.__get__"))
 tk:W.takesIn K (.builtin "object.__class__")=some true
 mo:W.mroIn K C (.type "object")=some true
 bt:∀T∈gV,W.kitOne K (.ref C) (.type T)=some false
noncomputable def FP(K:P4) (H:Hp):Kd->P9->ad->Prop
 |.ins c ks,a,vs=>∃C dx,Rj K Qt c=some (some (.ref C))/\OI K ks C/\H a=some (.ins C dx (ks.zip vs))/\ks.length=vs.length
 |.dint ks,a,vs=>∃kvs,Rd H a (.dK kvs)/\kvs=(ks.map TN).zip vs/\ks.length=vs.length
 |.exf c ks,a,vs=>∃C dx fs,XC K c C/\Rd H a (.ext (C0 a C (some dx)))/\H dx=some (.xd fs)/\ks.length=vs.length/\∀(i:Nat) (f:Qu) (v:V),ks[i]?=some f->vs[i]?=some v->fs.lookup f=some v
structure OQ where
 cls:Qu
 flds:List (Qu×D)
inductive ak (α:Type) where
 |ok (a:α)|exn (x:OQ)|stuck
noncomputable def ak.bind{α β:Type}(r:ak α) (f:α->ak β):ak β:=match r with
 |.ok a=>f a
 |.exn x=>.exn x
 |.stuck=>.stuck
mutual
def Rep(K:P4)(H:Hp):D->V->Prop
 |.non,v=>v=.non
 |.bl b,v=>v=.bl b
 |.int i,v=>v=.int i
 |.str x,v=>v=.str x
 |.tup ds,v=>∃a vs,v=.ref a/\kz K H a vs/\Reps K H ds vs
 |.lst ds,v=>∃a vs,v=.ref a/\fk K H a vs/\Reps K H ds vs
 |.dic ks ds,v=>∃a kvs vs,v=.ref a/\Rd H a (.dK kvs)/\kvs=(ks.map Tb).zip vs/\ks.length=vs.length/\Reps K H ds vs
 |.exc x,v=>∃a C dc,v=.ref a/\XC K x C/\Rd H a (.ext (C0 a C dc))
 |.ob k ds,v=>∃a vs,v=.ref a/\FP K H k a vs/\Reps K H ds vs
def Reps(K:P4)(H:Hp):ac->ad->Prop
 |[],vs=>vs=[]
 |d::ds,vs=>∃v r,vs=v::r/\Rep K H d v/\Reps K H ds r
end
def aG.rd(e:aG H H')(h:Rd H a o):Rd H' a o:=by
 rcases h with h|⟨o',h⟩
 .exact .inl (e _ _ h)
 .exact .inr ⟨o',e _ _ h⟩
def aG.sqT{K:P4}(e:aG H H')(h:kz K H a xs):kz K H' a xs:=by
 rcases h with h|h
 .exact .inl (aG.rd e h)
 .exact .inr h
def aG.sqL{K:P4}(e:aG H H')(h:fk K H a xs):fk K H' a xs:=by
 rcases h with h|h
 .exact .inl (aG.rd e h)
 .exact .inr h
theorem FP.mono{K:P4}(e:aG H H'):∀{k:Kd}{a:P9}{vs:ad},FP K H k a vs->FP K H' k a vs
 |.ins c ks,a,vs,⟨C,dx,h0,h1,h2,h3⟩=>⟨C,dx,h0,h1,e _ _ h2,h3⟩
 |.dint ks,a,vs,⟨kvs,h1,h2,h3⟩=>⟨kvs,aG.rd e h1,h2,h3⟩
 |.exf c ks,a,vs,⟨C,dx,fs,h1,h2,h3,h4⟩=>⟨C,dx,fs,h1,aG.rd e h2,e _ _ h3,h4⟩
mutual
theorem Rep.mono{K:P4}{H H':Hp}(e:aG H H'):∀{d:D}{v:V},Rep K H d v->Rep K H' d v
 |.non,_,h=>by unfold Rep at h ⊢;exact h
 |.bl _,_,h=>by unfold Rep at h ⊢;exact h
 |.int _,_,h=>by unfold Rep at h ⊢;exact h
 |.str _,_,h=>by unfold Rep at h ⊢;exact h
 |.tup ds,_,h=>by
  unfold Rep at h ⊢;obtain⟨a,vs,e1,e2,e3⟩:=h;exact⟨a,vs,e1,aG.sqT e e2,Reps.mono e e3⟩
 |.lst ds,_,h=>by
  unfold Rep at h ⊢;obtain⟨a,vs,e1,e2,e3⟩:=h;exact⟨a,vs,e1,aG.sqL e e2,Reps.mono e e3⟩
 |.dic ks ds,_,h=>by
  unfold Rep at h ⊢;obtain⟨a,kvs,vs,e1,e2,e3,e4,e5⟩:=h;exact⟨a,kvs,vs,e1,aG.rd e e2,e3,e4,Reps.mono e e5⟩
 |.exc x,_,h=>by
  unfold Rep at h ⊢;obtain⟨a,C,dc,e1,e2,e3⟩:=h;exact⟨a,C,dc,e1,e2,aG.rd e e3⟩
 |.ob k ds,_,h=>by
  unfold Rep at h ⊢;obtain⟨a,vs,e1,e2,e3⟩:=h;exact⟨a,vs,e1,e2.mono e,Reps.mono e e3⟩
theorem Reps.mono{K:P4}{H H':Hp}(e:aG H H'):∀{ds:ac}{vs:ad},Reps K H ds vs->Reps K H' ds vs
 |[],_,h=>by unfold Reps at h ⊢;exact h
 |d::ds,_,h=>by
  unfold Reps at h ⊢;obtain⟨v,r,e1,e2,e3⟩:=h;exact⟨v,r,e1,Rep.mono e e2,Reps.mono e e3⟩
end
section
variable {K:P4}{H:Hp}{v:V}{vs:ad}{d:D}{ds:ac}
def aR:Rep K H .non v↔v=.non:=by unfold Rep;exact Vj
def aL{b}:Rep K H (.bl b) v↔v=.bl b:=by unfold Rep;exact Vj
def aB{i}:Rep K H (.int i) v↔v=.int i:=by unfold Rep;exact Vj
def Rep.str_iff{x}:Rep K H (.str x) v↔v=.str x:=by unfold Rep;exact Vj
def aQ:Rep K H (.tup ds) v↔∃a vs,v=.ref a/\kz K H a vs/\Reps K H ds vs:=by rw[Rep]
def aI:Rep K H (.lst ds) v↔∃a vs,v=.ref a/\fk K H a vs/\Reps K H ds vs:=by rw[Rep]
def o4{x}:Rep K H (.exc x) v↔∃a C dc,v=.ref a/\XC K x C/\Rd H a (.ext (C0 a C dc)):=by rw[Rep]
def lj{k}:Rep K H (.ob k ds) v↔∃a vs,v=.ref a/\FP K H k a vs/\Reps K H ds vs:=by rw[Rep]
def Reps.nil_iff:Reps K H [] vs↔vs=[]:=by unfold Reps;exact Vj
def aM:Reps K H (d::ds) vs↔∃v r,vs=v::r/\Rep K H d v/\Reps K H ds r:=by rw[Reps]
def Reps.nil:Reps K H [] []:=Reps.nil_iff.mpr rfl
def Reps.cons(h:Rep K H d v)(h':Reps K H ds vs):Reps K H (d::ds) (v::vs):=aM.mpr ⟨_,_,rfl,h,h'⟩
end
theorem Reps.length{K:P4}:∀{ds:ac}{vs:ad},Reps K H ds vs->ds.length=vs.length
 |[],_,h=>by rw[Reps.nil_iff.mp h];rfl
 |d::ds,_,h=>by
  obtain⟨v,r,rfl,_,h⟩:=aM.mp h;simp[Reps.length h]
theorem Reps.get{K:P4}{H:Hp}:∀{ds:ac}{vs:ad}{i:Nat}{d:D},Reps K H ds vs->ds[i]?=some d->∃v,vs[i]?=some v/\Rep K H d v
 |[],_,_,_,h,e=>by simp at e
 |x::ds,_,0,d,h,e=>by
  obtain⟨v,r,rfl,h1,_⟩:=aM.mp h;simp at e;subst e;exact⟨v,rfl,h1⟩
 |x::ds,_,i+1,d,h,e=>by
  obtain⟨v,r,rfl,_,h2⟩:=aM.mp h;obtain⟨u,e1,e2⟩:=Reps.get (i:=i) h2 (by simpa using e);exact⟨u,by simpa using e1,e2⟩
theorem Reps.app{K:P4}{H:Hp}:∀{ds es:ac}{vs us:ad},Reps K H ds vs->Reps K H es us->Reps K H (ds++es) (vs++us)
 |[],_,_,_,h,h'=>by rw[Reps.nil_iff.mp h];exact h'
 |d::ds,_,_,_,h,h'=>by
  obtain⟨v,r,rfl,h1,h2⟩:=aM.mp h;exact Reps.cons h1 (Reps.app h2 h')
theorem Reps.take{K:P4}:∀{ds:ac}{vs:ad}(n:Nat),Reps K H ds vs->Reps K H (ds.take n) (vs.take n)
 |_,_,0,_=>by simp;exact Reps.nil
 |[],_,n+1,h=>by rw[Reps.nil_iff.mp h];exact Reps.nil
 |d::ds,_,n+1,h=>by
  obtain⟨v,r,rfl,h1,h2⟩:=aM.mp h;exact Reps.cons h1 (Reps.take n h2)
theorem Reps.drop{K:P4}:∀{ds:ac}{vs:ad}(n:Nat),Reps K H ds vs->Reps K H (ds.drop n) (vs.drop n)
 |_,_,0,h=>by simpa using h
 |[],_,n+1,h=>by rw[Reps.nil_iff.mp h];exact Reps.nil
 |d::ds,_,n+1,h=>by
  obtain⟨v,r,rfl,h1,h2⟩:=aM.mp h;exact Reps.drop n h2
theorem Reps.set{K:P4}(h:Rep K H d v):∀{ds:ac}{vs:ad}(n:Nat),Reps K H ds vs->Reps K H (ds.set n d) (vs.set n v)
 |[],_,n,h'=>by rw[Reps.nil_iff.mp h'];exact Reps.nil
 |x::ds,_,0,h'=>by
  obtain⟨v,r,rfl,h1,h2⟩:=aM.mp h';exact Reps.cons h h2
 |x::ds,_,n+1,h'=>by
  obtain⟨v,r,rfl,h1,h2⟩:=aM.mp h';exact Reps.cons h1 (Reps.set h n h2)
theorem vm{K:P4}:∀(ns:List Int),Reps K H (ns.map D.int) (ns.map V.int)
 |[]=>Reps.nil
 |n::r=>Reps.cons (aB.mpr rfl) (vm r)
structure bw (H Ha H' Ha':Hp):Prop where
 s:aG H H'
 z:aG Ha Ha'
 sub:aG Ha' H'
 nw:∀a,Ha' a≠none->Ha a=none->H a=none
def bw.refl(h:aG Ha H):bw H Ha H Ha:=⟨aG.refl _,aG.refl _,h,λa h1 h2=>absurd h2 h1⟩
theorem bw.trans(a:bw H Ha H1 H01)(b:bw H1 H01 H2 H02):bw H Ha H2 H02 :=
 ⟨a.s.trans b.s,a.z.trans b.z,b.sub,λx h1 h2=>by
  cases q:H01 x with
  |none=>exact a.s.free (b.nw x h1 q)
  |some o=>exact a.nw x (by rw[q];simp) h2⟩
def bo(hs:aG Ha H)(hp:H p=none):bw H Ha (upd H p o) (upd Ha p o) :=
 ⟨same_new hp o,same_new (hs.free hp) o,λb u e=>by
  by_cases hb:b=p
  .subst hb;rw[aF]at e ⊢;exact e
  .rw[az hb]at e ⊢;exact hs _ _ e,λa h1 h2=>by
  by_cases hb:a=p
  .subst hb;exact hp
  .rw[az hb]at h1;exact absurd h2 h1⟩
where
 same_new {H:Hp}{p:P9}(h:H p=none) (o:HO):aG H (upd H p o):=λb u q=>by rw[az (bh q h)];exact q
inductive Sl where
 |no|sh (d:D)|ow (d:D)|ox (j:Nat) (ds:ac)|pt (a:P9)
noncomputable abbrev Ev:=List Sl
noncomputable def Reads(K:P4) (Ha:Hp) (σ:L2.St) (ρ:Ev):Prop:=∀(i:Nat) (d:D),ρ[i]?=some (.sh d)->∃v,σ[i]?=some (some v)/\Rep K Ha d v
def Reads.mono{K:P4}(e:aG H H')(r:Reads K H σ ρ):Reads K H' σ ρ:=λi d h=>
 let ⟨v,h1,h2⟩:=r i d h
 ⟨v,h1,h2.mono e⟩
noncomputable def yL(K:P4) (H:Hp) (x:OQ) (C:P2) (ox:Option P9):Prop :=
 (∃c,C=.ref c/\XC K x.cls c)/\match ox with
  |none=>x.flds=[]
  |some a=>∃fs,H a=some (.xd fs)/\∀n d,x.flds.lookup n=some d->∃v,fs.lookup n=some v/\Rep K H d v
noncomputable def post(K:P4) (E:XK) (H Ha:Hp) (r:ak D) (Q:VK):Prop:=match r with
 |.ok d=>∀v H' Ha',bw H Ha H' Ha'->Rep K Ha' d v->Q v H'
 |.exn x=>∀C ox H' Ha',bw H Ha H' Ha'->yL K Ha' x C ox->E C ox H'
 |.stuck=>False
noncomputable def uA(K:P4) (E:XK) (H Ha:Hp) (r:ak (ac)) (Q:ad->Hp->Prop):Prop:=match r with
 |.ok ds=>∀vs H' Ha',bw H Ha H' Ha'->Reps K Ha' ds vs->Q vs H'
 |.exn x=>∀C ox H' Ha',bw H Ha H' Ha'->yL K Ha' x C ox->E C ox H'
 |.stuck=>False
noncomputable def qF(K:P4) (E:XK) (H Ha:Hp) (r:ak D) (Q:Bool->Hp->Prop):Prop:=match r with
 |.ok (.bl b)=>∀H' Ha',bw H Ha H' Ha'->Q b H'
 |.ok _=>False
 |.exn x=>∀C ox H' Ha',bw H Ha H' Ha'->yL K Ha' x C ox->E C ox H'
 |.stuck=>False
section
variable {K:P4}{E:XK}{H Ha H1 H01:Hp}
def post.grow(h:post K E H Ha r Q)(g:bw H Ha H1 H01):post K E H1 H01 r Q:=by
 cases r with|ok d=>exact λv H' Ha' g'=>h v H' Ha' (g.trans g')|exn x=>exact λC ox H' Ha' g'=>h C ox H' Ha' (g.trans g')|stuck=>exact h
def uA.grow(h:uA K E H Ha r Q)(g:bw H Ha H1 H01):uA K E H1 H01 r Q:=by
 cases r with|ok d=>exact λv H' Ha' g'=>h v H' Ha' (g.trans g')|exn x=>exact λC ox H' Ha' g'=>h C ox H' Ha' (g.trans g')|stuck=>exact h
def qF.grow(h:qF K E H Ha r Q)(g:bw H Ha H1 H01):qF K E H1 H01 r Q:=by
 cases r with
 |ok d=>
  cases d with|bl b=>exact λH' Ha' g'=>h H' Ha' (g.trans g')| _=>exact h
 |exn x=>exact λC ox H' Ha' g'=>h C ox H' Ha' (g.trans g')
 |stuck=>exact h
end
noncomputable def tD(K:P4) (E:XK) (f:Ev->ak D):TE:=λσ H Q=>∃Ha ρ,aG Ha H/\Reads K Ha σ ρ/\post K E H Ha (f ρ) Q
noncomputable def OY(K:P4) (E:XK) (f:Ev->ak (ac)):TA:=λσ H Q=>∃Ha ρ,aG Ha H/\Reads K Ha σ ρ/\uA K E H Ha (f ρ) Q
noncomputable def Lr(K:P4) (E:XK) (f:Ev->ak D):TT:=λσ H Q=>∃Ha ρ,aG Ha H/\Reads K Ha σ ρ/\qF K E H Ha (f ρ) Q
structure DE (X:Cx) (E:XK) (e:QX) (f:Ev->ak D):Prop where
 o:PE X e (tD X.K E f)
structure DA (X:Cx) (E:XK) (es:List QX) (f:Ev->ak (ac)):Prop where
 o:PA X es (OY X.K E f)
structure DT (X:Cx) (E:XK) (e:QX) (f:Ev->ak D):Prop where
 o:PT X e (Lr X.K E f)
structure DW (X:Cx) (E:XK) (e:QX) (f:Ev->ak D):Prop where
 o:PW X e (Lr X.K E f)
section
variable {X:Cx}{E:XK}{e a b:QX}{es:List QX}{f g:Ev->ak D}{fa:Ev->ak (ac)}{pos:Pos}
def bg(h:PE X e t)(w:∀σ H Q,t' σ H Q->t σ H Q):PE X e t':=λπ s σ H Q I q=>h π s σ H Q I (w σ H Q q)
def pJ(h:PA X es t)(w:∀σ H Q,t' σ H Q->t σ H Q):PA X es t':=λpos π s σ H Q I q=>h pos π s σ H Q I (w σ H Q q)
def gb(h:PT X e t)(w:∀σ H Q,t' σ H Q->t σ H Q):PT X e t':=λπ s σ H Q I q=>h π s σ H Q I (w σ H Q q)
def vB(h:PW X e t)(w:∀σ H Q,t' σ H Q->t σ H Q):PW X e t':=λwh π s σ H Q I q=>h wh π s σ H Q I (w σ H Q q)
noncomputable def ae(i:Nat):Ev->ak D:=λρ=>match ρ[i]? with
 |some (.sh d)=>.ok d
 |_=>.stuck
noncomputable def dC(d:D):Ev->ak D:=λ_=>.ok d
def KU(hN:X.N[i]?=some x)(hv:yK X.env.scope x)(hd:(x==("__debug__" : Qu))=false:=by decide)(hcd:(x==("__classdict__" : Qu))=false:=by decide):DE X E (.Name x pos) (ae i):=by
 refine⟨?_⟩;refine bg (fS hN hv hd hcd) λσ H Q ⟨Ha,ρ,hs,hr,q⟩=>?_;unfold ae at q;cases e:ρ[i]? with
 |none=>rw[e]at q;exact q.elim
 |some s=>
  rw[e]at q;cases s with
  |sh d=>
   obtain⟨v,e1,e2⟩:=hr i d e;exact⟨v,e1,q v H Ha (bw.refl hs) e2⟩
  |no|ow d|ox j ds|pt a=>exact q.elim
def aj{i j}:DE X E (.Constant (.int i) j pos) (dC (.int i)):=⟨bg J5 λσ H Q ⟨Ha,ρ,hs,hr,q⟩=>q _ H Ha (bw.refl hs) (aB.mpr rfl)⟩
def fZ{i j}:DE X E (.Constant (.bool i) j pos) (dC (.bl i)):=⟨bg Mt λσ H Q ⟨Ha,ρ,hs,hr,q⟩=>q _ H Ha (bw.refl hs) (aL.mpr rfl)⟩
def fE{j}:DE X E (.Constant .none j pos) (dC .non):=⟨bg J4 λσ H Q ⟨Ha,ρ,hs,hr,q⟩=>q _ H Ha (bw.refl hs) (aR.mpr rfl)⟩
def nT{x j}:DE X E (.Constant (.str x) j pos) (dC (.str x)):=⟨bg JZ λσ H Q ⟨Ha,ρ,hs,hr,q⟩=>q _ H Ha (bw.refl hs) (Rep.str_iff.mpr rfl)⟩
def HU(hg:Gl X x)(hm:X.mg x=some u)(r:bX v u)(hr:∀H,Rep X.K H d v)(hd:(x==("__debug__" : Qu))=false:=by decide):DE X E (.Name x pos) (dC d) :=
 ⟨bg (GZ hg hm r hd) λσ H Q ⟨Ha,ρ,hs,hr',q⟩=>q _ H Ha (bw.refl hs) (hr Ha)⟩
noncomputable def ag(f g:Ev->ak D) (op:D->D->ak D):Ev->ak D:=λρ=>(f ρ).bind λx=>(g ρ).bind λy=>op x y
noncomputable def bV(f:Ev->ak D) (op:D->ak D):Ev->ak D:=λρ=>(f ρ).bind op
noncomputable def wH(K:P4) (E:XK) (r:R2) (op:D->D->ak D):Prop:=∀(x y:D) (v u:V) (H Ha:Hp) (Q:VK),aG Ha H->Rep K Ha x v->Rep K Ha y u->post K E H Ha (op x y) Q->r v u H Q
def ka(ho:wH X.K E r op)(σ:L2.St)(H:Hp)(Q:VK)(h:tD X.K E (ag f g op) σ H Q):Lq r (tD X.K E f) (tD X.K E g) σ H Q:=by
 obtain⟨Ha,ρ,hs,hr,q⟩:=h;refine⟨Ha,ρ,hs,hr,?_⟩;unfold ag at q;cases e1:f ρ with
 |stuck|exn x=>rw[e1]at q;exact q
 |ok x=>
  rw[e1]at q;intro v H1 H01 g1 r1;refine⟨H01,ρ,g1.sub,hr.mono g1.z,?_⟩;replace q:post X.K E H Ha ((g ρ).bind λy=>op x y) Q:=q;replace q:=q.grow g1;cases e2:g ρ with
  |stuck|exn x=>rw[e2]at q;exact q
  |ok y=>
   rw[e2]at q;intro u H2 H02 g2 r2;exact ho x y v u H2 H02 Q g2.sub (r1.mono g2.z) r2 (post.grow (r:=op x y) q g2)
def uU(h:fG X (binaryOp op) r)(ho:wH X.K E r o)(ha:DE X E a f)(hb:DE X E b g):DE X E (.BinOp a op b pos) (ag f g o) :=
 ⟨bg (IE h ha.o hb.o) (ka ho)⟩
def d7(h:fG X (Q5 op) r)(ho:wH X.K E r o)(ha:DE X E a f)(hb:DE X E b g)(hm:behindInMarks op b=false):DE X E (.Compare a [op] [b] pos) (ag f g o) :=
 ⟨bg (AI h ha.o hb.o hm) (ka ho)⟩
def Ni(h:FQ X r)(ho:wH X.K E r o)(ha:DE X E a f)(hb:DE X E b g)(hs:nh b):DE X E (.Subscript a b pos) (ag f g o) :=
 ⟨bg (IF h ha.o hb.o hs) (ka ho)⟩
noncomputable def PZ(K:P4) (E:XK) (r:V->Hp->VK->Prop) (op:D->ak D):Prop:=∀(x:D) (v:V) (H Ha:Hp) (Q:VK),aG Ha H->Rep K Ha x v->post K E H Ha (op x) Q->r v H Q
def Ng(h:NN X (unaryOp op) r)(ho:PZ X.K E r o)(ha:DE X E a f):DE X E (.UnaryOp op a pos) (bV f o):=by
 refine⟨?_⟩;refine bg (Mr h ha.o) λσ H Q z9=>?_;obtain⟨Ha,ρ,hs,hr,q⟩:=z9;refine⟨Ha,ρ,hs,hr,?_⟩
 unfold bV at q;cases e1:f ρ with
 |stuck|exn x=>rw[e1]at q;exact q
 |ok x=>
  rw[e1]at q;intro v H1 H01 g1 r1;exact ho x v H1 H01 Q g1.sub r1 (post.grow (r:=o x) q g1)
noncomputable def aC:Ev->ak (ac):=λ_=>.ok []
noncomputable def af(f:Ev->ak D) (fa:Ev->ak (ac)):Ev->ak (ac):=λρ=>(f ρ).bind λx=>(fa ρ).bind λxs=>.ok (x::xs)
def av:DA X E [] aC:=⟨pJ gH λσ H Q ⟨Ha,ρ,hs,hr,q⟩=>q [] H Ha (bw.refl hs) Reps.nil⟩
def aa(ha:DE X E e f)(hr:DA X E es fa)(hs:Qb (e::es) X.env=(false,eval e X.env)::Qb es X.env:=by exact aW rfl):DA X E (e::es) (af f fa):=by
 refine⟨?_⟩;refine pJ (dQ ha.o hr.o hs) λσ H Q z9=>?_;obtain⟨Ha,ρ,hs,hr,q⟩:=z9;refine⟨Ha,ρ,hs,hr,?_⟩
 unfold af at q;cases e1:f ρ with
 |stuck|exn x=>rw[e1]at q;exact q
 |ok x=>
  rw[e1]at q;intro v H1 H01 g1 r1;refine⟨H01,ρ,g1.sub,hr.mono g1.z,?_⟩;replace q:uA X.K E H Ha ((fa ρ).bind λxs=>.ok (x::xs)) Q:=q;replace q:=q.grow g1;cases e2:fa ρ with
  |stuck|exn x=>rw[e2]at q;exact q
  |ok xs=>
   rw[e2]at q;intro us H2 H02 g2 r2;exact q (v::us) H2 H02 g2 (Reps.cons (r1.mono g2.z) r2)
noncomputable def line:Nat:=1000000
def dB(h:n<=line):n<=sizeLine:=QM h (by decide)
noncomputable def aq(fa:Ev->ak (ac)) (m:ac->ak D):Ev->ak D:=λρ=>(fa ρ).bind m
noncomputable def gj:ac->ak D:=λds=>if ds.length<=line then .ok (.tup ds) else .stuck
noncomputable def b9:ac->ak D:=λds=>if ds.length<=line then .ok (.lst ds) else .stuck
def ko{r:ad->Hp->VK->Prop}(ho:∀(ds:ac) (vs:ad) (H Ha:Hp) (Q:VK),aG Ha H->Reps X.K Ha ds vs->post X.K E H Ha (m ds) Q->r vs H Q)
  (σ:L2.St)(H:Hp)(Q:VK)(h:tD X.K E (aq fa m) σ H Q):OY X.K E fa σ H λvs H1=>r vs H1 Q:=by
 obtain⟨Ha,ρ,hs,hr,q⟩:=h;refine⟨Ha,ρ,hs,hr,?_⟩;unfold aq at q;cases e1:fa ρ with
 |stuck|exn x=>rw[e1]at q;exact q
 |ok x=>
  rw[e1]at q;intro v H1 H01 g1 r1;exact ho x v H1 H01 Q g1.sub r1 (post.grow (r:=m x) q g1)
def eB{x1}(h:DA X E es fa):DE X E (.Tuple es x1 pos) (aq fa gj):=by
 refine⟨?_⟩;refine bg (JY h.o) (ko (r:=λxs H1 Q=>xs.length<=sizeLine/\∀p,H1 p=none->Q (.ref p) (upd H1 p (.tup xs))) λds vs H Ha Q hs hr q=>?_);unfold gj at q
 by_cases hl:ds.length<=line
 .rw[if_pos hl]at q
  refine⟨by rw[←hr.length];exact dB hl,λp hp=>q _ _ _ (bo hs hp) (aQ.mpr ⟨p,vs,rfl,kz.of aF,hr.mono (bo hs hp).z⟩)⟩
 .rw[if_neg hl]at q;exact q.elim
def cz(h:DA X E es fa):DE X E (.List es pos) (aq fa b9):=by
 refine⟨?_⟩;refine bg (ze h.o) (ko (r:=λxs H1 Q=>xs.length<=sizeLine/\∀p,H1 p=none->Q (.ref p) (upd H1 p (.lst xs))) λds vs H Ha Q hs hr q=>?_);unfold b9 at q
 by_cases hl:ds.length<=line
 .rw[if_pos hl]at q
  refine⟨by rw[←hr.length];exact dB hl,λp hp=>q _ _ _ (bo hs hp) (aI.mpr ⟨p,vs,rfl,fk.of aF,hr.mono (bo hs hp).z⟩)⟩
 .rw[if_neg hl]at q;exact q.elim
noncomputable def spD(K:P4) (n:Nat) (m:ac->ak D):Sp:=λvs H Q E=>vs.length=n/\∃Ha ds,aG Ha H/\Reps K Ha ds vs/\post K E H Ha (m ds) Q
def HV{ps:al}(F:FnOk X.prog X.w X.K X.mg X.base CX k fn fd ps (spD X.K n m))(hr:cK k X.A)(hg:Gl X x)(hm:X.mg x=some (.ref fn))
  (hk:SN X.K (.ref fn)=true)(hb:il X.K fd ps [])(hx:fX CX X E)(ha:DA X E (e::es) fa)(hn:(e::es).length=n:=by rfl)(hl:∀ρ ds,fa ρ=.ok ds->ds.length=(e::es).length)
  (hdb:(x==("__debug__" : Qu))=false:=by decide)(he:Qb (e::es) X.env=(false,eval e X.env)::Qb es X.env:=by exact aW rfl)(hpl:(Rg pos (Qb es X.env)).any (·.1)=false:=by exact bH rfl) :
  DE X E (.Call (.Name x p) (e::es) [] pos) (aq fa m):=by
 refine⟨?_⟩;refine bg (pI F hr hg hm hk hb .nil hx ha.o hdb he hpl) λσ H Q h=>?_;obtain⟨Ha,ρ,hs,hr,q⟩:=h;refine⟨Ha,ρ,hs,hr,?_⟩;unfold aq at q;cases e1:fa ρ with
 |stuck|exn x=>rw[e1]at q;exact q
 |ok ds=>
  rw[e1]at q;intro v H1 H01 g1 r1;refine⟨?_,H01,ds,g1.sub,by simpa using r1,post.grow (r:=m ds) q g1⟩;have:=r1.length;have:=hl ρ ds e1;simp only[QN];omega
def FK(h:aC ρ=.ok ds):ds.length=0:=by cases h;rfl
def iY(hr:∀es,fa ρ=.ok es->es.length=n)(h:af f fa ρ=.ok ds):ds.length=n+1:=by
 unfold af at h;cases e1:f ρ with
 |stuck|exn x=>rw[e1]at h;cases h
 |ok x=>
  rw[e1]at h;replace h:((fa ρ).bind λxs=>ak.ok (x::xs))=.ok ds:=h;cases e2:fa ρ with
  |stuck|exn x=>rw[e2]at h;cases h
  |ok xs=>
   rw[e2]at h;cases h;simp[hr xs e2]
noncomputable def gY(X:Cx) (E:XK) (r:ad->Hp->VK->Prop) (m:ac->ak D):Prop:=∀(ds:ac) (vs:ad) (H Ha:Hp) (Q:VK),aG Ha H->Reps X.K Ha ds vs->post X.K E H Ha (m ds) Q->r vs H Q
def aZ{id:String}(hc:ik X (.builtin id) r)(hd:gY X E r m)(hg:Gl X x)(hm:X.mg x=none)(hv:bootBuiltins x=some (.builtin id))(ha:DA X E (e::es) fa)(hn:x≠"__name__":=by decide)(hdb:(x==("__debug__" : Qu))=false:=by decide)
  (he:Qb (e::es) X.env=(false,eval e X.env)::Qb es X.env:=by exact aW rfl)(hpl:(Rg pos (Qb es X.env)).any (·.1)=false:=by exact bH rfl):DE X E (.Call (.Name x p) (e::es) [] pos) (aq fa m) :=
 ⟨bg (qJ hc hg hm hv ha.o hn hdb he hpl) (ko hd)⟩
def Fn(h:PT X e (tB (tD X.K E f))):DT X E e f:=by
 refine⟨?_⟩;refine gb h λσ H Q z9=>?_;obtain⟨Ha,ρ,hs,hr,q⟩:=z9;refine⟨Ha,ρ,hs,hr,?_⟩
 cases e1:f ρ with
 |stuck|exn x=>rw[e1]at q;exact q
 |ok d=>
  rw[e1]at q;intro v H1 H01 g1 r1;cases d with|bl b=>rw[aL.mp r1];exact⟨b,rfl,q H1 H01 g1⟩| _=>exact q.elim
def bG(h:DE X E e f)(he:∀whole,isTrue e X.env whole=(do let v ←whole;standAt e.pos;Sa [v] (truthy v)):=by intro _;rfl):DT X E e f:=Fn (DU h.o he)
def bj(h:fG X (Q5 op) r)(ho:wH X.K E r o)(ha:DE X E a f)(hb:DE X E b g)(hm:behindInMarks op b=false):DT X E (.Compare a [op] [b] pos) (ag f g o):=by
 refine⟨?_⟩;refine gb (AE h ha.o hb.o hm) λσ H Q h=>?_;have w:tD X.K E (ag f g o) σ H λx H'=>∃k,x=.bl k/\Q k H':=by
  obtain⟨Ha,ρ,hs,hr,q⟩:=h;refine⟨Ha,ρ,hs,hr,?_⟩;cases e1:ag f g o ρ with
  |stuck|exn x=>rw[e1]at q;exact q
  |ok d=>
   rw[e1]at q;intro v H1 H01 g1 r1;cases d with|bl b=>rw[aL.mp r1];exact⟨b,rfl,q H1 H01 g1⟩| _=>exact q.elim
 exact ka ho σ H _ w
noncomputable def cA(f:Ev->ak D):Ev->ak D:=bV f λx=>match x with
 |.bl b=>.ok (.bl (!b))
 |_=>.stuck
noncomputable def gZ(f g:Ev->ak D):Ev->ak D:=λρ=>(f ρ).bind λx=>match x with
 |.bl true=>g ρ
 |.bl false=>.ok (.bl false)
 |_=>.stuck
noncomputable def iQ(f g:Ev->ak D):Ev->ak D:=λρ=>(f ρ).bind λx=>match x with
 |.bl true=>.ok (.bl true)
 |.bl false=>g ρ
 |_=>.stuck
def bL(ha:DT X E a f):DT X E (.UnaryOp .Not a pos) (cA f):=by
 refine⟨?_⟩;refine gb (DV ha.o) λσ H Q z9=>?_;obtain⟨Ha,ρ,hs,hr,q⟩:=z9;refine⟨Ha,ρ,hs,hr,?_⟩
 unfold cA bV at q;cases e1:f ρ with
 |stuck|exn x=>rw[e1]at q;exact q
 |ok d=>
  rw[e1]at q;cases d with|bl b=>exact q| _=>exact q.elim
def KW(ha:DE X E a f):DE X E (.UnaryOp .Not a pos) (cA f):=by
 refine⟨?_⟩;refine bg (J3 ha.o) λσ H Q z9=>?_;obtain⟨Ha,ρ,hs,hr,q⟩:=z9;refine⟨Ha,ρ,hs,hr,?_⟩
 unfold cA bV at q;cases e1:f ρ with
 |stuck|exn x=>rw[e1]at q;exact q
 |ok d=>
  rw[e1]at q;intro v H1 H01 g1 r1;cases d with|bl b=>rw[aL.mp r1];exact⟨b,rfl,q (.bl !b) H1 H01 g1 (aL.mpr rfl)⟩| _=>exact q.elim
variable {rest:List QX}
def kY(ha:DT X E a f):DW X E (.BoolOp .And [a] pos) f:=⟨AB ha.o⟩
def bz(ha:DT X E a f):DW X E (.BoolOp .Or [a] pos) f:=⟨JS ha.o⟩
def we(ha:DT X E a f)(hb:DW X E (.BoolOp .And (b::rest) pos) g):DW X E (.BoolOp .And (a::b::rest) pos) (gZ f g):=by
 refine⟨?_⟩;refine vB (DQ ha.o hb.o) λσ H Q z9=>?_;obtain⟨Ha,ρ,hs,hr,q⟩:=z9;refine⟨Ha,ρ,hs,hr,?_⟩
 unfold gZ at q;cases e1:f ρ with
 |stuck|exn x=>rw[e1]at q;exact q
 |ok d=>
  rw[e1]at q;cases d with
  |bl b=>
   cases b with|true=>exact λH1 H01 g1=>⟨H01,ρ,g1.sub,hr.mono g1.z,qF.grow (r:=g ρ) q g1⟩|false=>exact λH1 H01 g1=>q H1 H01 g1
  |_=>exact q.elim
def da(ha:DT X E a f)(hb:DW X E (.BoolOp .Or (b::rest) pos) g):DW X E (.BoolOp .Or (a::b::rest) pos) (iQ f g):=by
 refine⟨?_⟩;refine vB (Mj ha.o hb.o) λσ H Q z9=>?_;obtain⟨Ha,ρ,hs,hr,q⟩:=z9;refine⟨Ha,ρ,hs,hr,?_⟩
 unfold iQ at q;cases e1:f ρ with
 |stuck|exn x=>rw[e1]at q;exact q
 |ok d=>
  rw[e1]at q;cases d with
  |bl b=>
   cases b with|false=>exact λH1 H01 g1=>⟨H01,ρ,g1.sub,hr.mono g1.z,qF.grow (r:=g ρ) q g1⟩|true=>exact λH1 H01 g1=>q H1 H01 g1
  |_=>exact q.elim
def DW.dt(h:DW X E e f):DT X E e f:=⟨PW.pt h.o⟩
def iy{op}(h:DE X E a f):DE X E (.BoolOp op [a] pos) f:=⟨J0 h.o⟩
def iz(ha:DE X E a f)(hb:DE X E (.BoolOp .And (b::rest) pos) g):DE X E (.BoolOp .And (a::b::rest) pos) (gZ f g):=by
 refine⟨?_⟩;refine bg (J7 ha.o hb.o) λσ H Q z9=>?_;obtain⟨Ha,ρ,hs,hr,q⟩:=z9;refine⟨Ha,ρ,hs,hr,?_⟩
 unfold gZ at q;cases e1:f ρ with
 |stuck|exn x=>rw[e1]at q;exact q
 |ok d=>
  rw[e1]at q;intro v H1 H01 g1 r1;cases d with
  |bl b=>
   rw[aL.mp r1];cases b with|true=>exact⟨true,rfl,H01,ρ,g1.sub,hr.mono g1.z,post.grow (r:=g ρ) q g1⟩|false=>exact⟨false,rfl,q (.bl false) H1 H01 g1 (aL.mpr rfl)⟩
  |_=>exact q.elim
def Nh(ha:DE X E a f)(hb:DE X E (.BoolOp .Or (b::rest) pos) g):DE X E (.BoolOp .Or (a::b::rest) pos) (iQ f g):=by
 refine⟨?_⟩;refine bg (Ms ha.o hb.o) λσ H Q z9=>?_;obtain⟨Ha,ρ,hs,hr,q⟩:=z9;refine⟨Ha,ρ,hs,hr,?_⟩
 unfold iQ at q;cases e1:f ρ with
 |stuck|exn x=>rw[e1]at q;exact q
 |ok d=>
  rw[e1]at q;intro v H1 H01 g1 r1;cases d with
  |bl b=>
   rw[aL.mp r1];cases b with|false=>exact⟨false,rfl,H01,ρ,g1.sub,hr.mono g1.z,post.grow (r:=g ρ) q g1⟩|true=>exact⟨true,rfl,q (.bl true) H1 H01 g1 (aL.mpr rfl)⟩
  |_=>exact q.elim
noncomputable def Nk(c f g:Ev->ak D):Ev->ak D:=λρ=>(c ρ).bind λx=>match x with
 |.bl true=>f ρ
 |.bl false=>g ρ
 |_=>.stuck
def Fw(hc:DT X E c fc)(ha:DE X E a f)(hb:DE X E b g):DE X E (.IfExp c a b pos) (Nk fc f g):=by
 refine⟨?_⟩;refine bg (D3 hc.o ha.o hb.o) λσ H Q z9=>?_;obtain⟨Ha,ρ,hs,hr,q⟩:=z9;refine⟨Ha,ρ,hs,hr,?_⟩
 unfold Nk at q;cases e1:fc ρ with
 |stuck|exn x=>rw[e1]at q;exact q
 |ok d=>
  rw[e1]at q;cases d with
  |bl b=>
   cases b with|true=>exact λH1 H01 g1=>⟨H01,ρ,g1.sub,hr.mono g1.z,post.grow (r:=f ρ) q g1⟩|false=>exact λH1 H01 g1=>⟨H01,ρ,g1.sub,hr.mono g1.z,post.grow (r:=g ρ) q g1⟩
  |_=>exact q.elim
end
noncomputable def OK(K:P4) (Ha H:Hp) (a:P9) (d:D):Prop:=match d with
 |.lst ds=>∃vs,H a=some (.lst vs)/\Reps K Ha ds vs
 |.dic ks ds=>∃vs,H a=some (.dK ((ks.map Tb).zip vs))/\ks.length=vs.length/\Reps K Ha ds vs
 |_=>False
noncomputable def NQ(K:P4) (He Ha H:Hp) (a:P9) (j:Nat) (ds:ac) (p:P9):Prop:=∃vs es us,He a=none/\H a=some (.tup vs)/\He p=none/\Ha p=none/\ds[j]?=some (.lst es)/\vs[j]?=some (.ref p)/\H p=some (.lst us)/\Reps K Ha es us/\ds.length=vs.length/\∀k d v,k≠j->ds[k]?=some d->vs[k]?=some v->Rep K Ha d v
noncomputable def OX(K:P4) (He Ha:Hp) (σ:L2.St) (H:Hp) (ρ:Ev):Prop:=(∀(i j:Nat) (ds:ac),ρ[i]?=some (.ox j ds)->∃a p,σ[i]?=some (some (.ref a))/\NQ K He Ha H a j ds p/\(∀(k:Nat) (d:D),ρ[k]?=some (.ow d)->σ[k]?≠some (some (.ref p)))/\∀(k j':Nat) (ds':ac),ρ[k]?=some (.ox j' ds')->k=i)/\∀(i:Nat) (a:P9),ρ[i]?=some (.pt a)->σ[i]?=some (some (.ref a))
def OX.upd{K:P4}(h:OX K He Ha σ H ρ)
  (hk:∀(j:Nat) (s:Sl),ρ'[j]?=some s->(ρ[j]?=some s/\σ'[j]?=σ[j]?)∨(∃d,s=.sh d)∨s=.no∨∃d q,s=.ow d/\σ'[j]?=some (some (.ref q))/\∀(i j:Nat) (ds:ac) (a p:P9),ρ[i]?=some (.ox j ds)->σ[i]?=some (some (.ref a))->NQ K He Ha H a j ds p->q≠p)
  (hz:aG Ha Ha')(ht:∀a vs,He a=none->H a=some (.tup vs)->H' a=some (.tup vs))
  (hl:∀p us,He p=none->Ha p=none->H p=some (.lst us)->(∀(k:Nat) (d:D),ρ[k]?=some (.ow d)->σ[k]?≠some (some (.ref p)))->H' p=some (.lst us)/\Ha' p=none):OX K He Ha' σ' H' ρ':=by
 refine⟨λi j ds e=>?_,λi a e=>?_⟩
 rotate_left
 .rcases hk i _ e with h1|⟨d,h1⟩|h1|⟨d,q,h1,_⟩
  .rw[h1.2];exact h.2 i a h1.1
  .cases h1
  .cases h1
  .cases h1
 have old:ρ[i]?=some (.ox j ds)/\σ'[i]?=σ[i]?:=by
  rcases hk i _ e with h1|⟨d,h1⟩|h1|⟨d,q,h1,_⟩
  .exact h1
  .cases h1
  .cases h1
  .cases h1
 obtain⟨a,p,h1,h2,h3,h4⟩:=h.1 i j ds old.1;have h2':=h2;obtain⟨vs,es,us,r1,r2,r3,r4,r5,r6,r7,r8,r9,r10⟩:=h2;obtain⟨l1,l2⟩:=hl p us r3 r4 r7 h3;refine⟨a,p,old.2.trans h1,⟨vs,es,us,r1,ht a vs r1 r2,r3,l2,r5,r6,l1,r8.mono hz,r9,λk d v hk e1 e2=>(r10 k d v hk e1 e2).mono hz⟩,λk d ek z=>?_,λk j' ds' ek=>?_⟩
 .rcases hk k _ ek with h1'|⟨d',h1'⟩|h1'|⟨d',q,h1',h2'',h3'⟩
  .exact h3 k d h1'.1 (by rw[←h1'.2];exact z)
  .cases h1'
  .cases h1'
  .rw[h2'']at z
   cases z;exact h3' i j ds a p old.1 h1 h2' rfl
 .rcases hk k _ ek with h1'|⟨d',h1'⟩|h1'|⟨d',q,h1',_⟩
  .exact h4 k j' ds' h1'.1
  .cases h1'
  .cases h1'
  .cases h1'
def OX.none{K:P4}(h:∀(i j:Nat) (ds:ac),ρ[i]?≠some (.ox j ds))(h':∀(i:Nat) (a:P9),ρ[i]?=some (.pt a)->σ[i]?=some (some (.ref a))):OX K He Ha σ H ρ:=⟨λi j ds e=>absurd e (h i j ds),h'⟩
theorem Ax{K:P4}{H:Hp}:∀{ds:ac}{vs:ad},ds.length=vs.length->(∀(k:Nat) (d:D) (v:V),ds[k]?=some d->vs[k]?=some v->Rep K H d v)->Reps K H ds vs
 |[],[],_,_=>Reps.nil
 |d::ds,v::vs,hl,h=>Reps.cons (h 0 d v rfl rfl) (Ax (by simpa using hl) λk d' v' e1 e2=>h (k+1) d' v' e1 e2)
structure eX (K:P4) (He η Ha:Hp) (σ:L2.St) (H:Hp) (ρ:Ev):Prop where
 g:bw He η H Ha
 rd:Reads K Ha σ ρ
 ow:∀(i:Nat) (d:D),ρ[i]?=some (.ow d)->∃a,σ[i]?=some (some (.ref a))/\He a=none/\Ha a=none/\OK K Ha H a d
 ap:∀(i j:Nat) (d d':D),i≠j->ρ[i]?=some (.ow d)->ρ[j]?=some (.ow d')->σ[i]?≠σ[j]?
 ln:ρ.length=σ.length
 ex:OX K He Ha σ H ρ
inductive Fl where
 |nx (ρ:Ev)|rt (d:D)|bk (ρ:Ev)|ct (ρ:Ev)
noncomputable def b8(K:P4) (E:XK) (He η Ha:Hp) (r:ak Fl) (D:j9):Prop:=match r with
 |.ok (.nx ρ)=>∀σ H Ha',aG Ha Ha'->eX K He η Ha' σ H ρ->D.nx σ H
 |.ok (.rt d)=>∀v H Ha',bw He η H Ha'->Rep K Ha' d v->D.rt v H
 |.ok (.bk ρ)=>∀σ H Ha',aG Ha Ha'->eX K He η Ha' σ H ρ->D.bk σ H
 |.ok (.ct ρ)=>∀σ H Ha',aG Ha Ha'->eX K He η Ha' σ H ρ->D.ct σ H
 |.exn x=>∀C ox H Ha',bw He η H Ha'->yL K Ha' x C ox->E C ox H
 |.stuck=>False
def b8.grow{K:P4}{D:j9}(h:b8 K E He η Ha r D)(s:aG Ha Hb):b8 K E He η Hb r D:=by
 cases r with
 |ok f=>
  cases f with|nx ρ=>exact λσ H Ha' s'=>h σ H Ha' (s.trans s')|rt d=>exact h|bk ρ=>exact λσ H Ha' s'=>h σ H Ha' (s.trans s')|ct ρ=>exact λσ H Ha' s'=>h σ H Ha' (s.trans s')
 |exn x=>exact h
 |stuck=>exact h
noncomputable def tS(K:P4) (E:XK) (He η:Hp) (g:Ev->ak Fl):TS:=λD σ H=>∃Ha ρ,eX K He η Ha σ H ρ/\b8 K E He η Ha (g ρ) D
structure DS (X:Cx) (E:XK) (He η:Hp) (st:RH) (g:Ev->ak Fl):Prop where
 o:PS X st (tS X.K E He η g)
structure Ae (X:Cx) (E:XK) (He η:Hp) (st:List RH) (g:Ev->ak Fl):Prop where
 o:vn X st (tS X.K E He η g)
noncomputable def ey(ρ:Ev):Ev:=ρ.map λs=>match s with
 |.ow d=>.sh d
 |.ox _ ds=>.sh (.tup ds)
 |x=>x
noncomputable def frz(He Ha H:Hp):Hp:=λa=>match He a with
 |none=>H a
 |some _=>Ha a
section
variable {K:P4}{E:XK}{He η Ha H H1:Hp}{σ:L2.St}{ρ:Ev}
def eX.same(h:eX K He η Ha σ H ρ)(s:aG H H1):eX K He η Ha σ H1 ρ :=
 ⟨⟨h.g.s.trans s,h.g.z,h.g.sub.trans s,h.g.nw⟩,h.rd,λi d e=>by
  obtain⟨a,h1,h2,h3,h4⟩:=h.ow i d e;refine⟨a,h1,h2,h3,?_⟩;cases d with
  |lst ds=>obtain⟨vs,h5,h6⟩:=h4;exact⟨vs,s _ _ h5,h6⟩|dic ks ds=>obtain⟨vs,h5,hl,h6⟩:=h4;exact⟨vs,s _ _ h5,hl,h6⟩
  |_=>exact h4,h.ap,h.ln,h.ex.upd (λj s' e=>.inl ⟨e,rfl⟩) (aG.refl _) (λa vs _ e=>s _ _ e) λp us _ h0 hp _=>⟨s _ _ hp,h0⟩⟩
def eX.grow(h:eX K He η Ha σ H ρ)(s:bw H Ha H1 H01):eX K He η H01 σ H1 ρ :=
 ⟨h.g.trans s,h.rd.mono s.z,λi d e=>by
  obtain⟨a,h1,h2,h3,h4⟩:=h.ow i d e;have ha:H01 a=none:=by
   cases q:H01 a with
   |none=>rfl
   |some o=>
    have:=s.nw a (by rw[q];simp) h3;cases d with|lst ds|dic ks ds=>obtain⟨vs,h5,_⟩:=h4;rw[h5]at this;cases this| _=>exact h4.elim
  refine⟨a,h1,h2,ha,?_⟩;cases d with
  |lst ds=>obtain⟨vs,h5,h6⟩:=h4;exact⟨vs,s.s _ _ h5,h6.mono s.z⟩|dic ks ds=>obtain⟨vs,h5,hl,h6⟩:=h4;exact⟨vs,s.s _ _ h5,hl,h6.mono s.z⟩
  |_=>exact h4,h.ap,h.ln,h.ex.upd (λj s' e=>.inl ⟨e,rfl⟩) s.z (λa vs _ e=>s.s _ _ e) λp us _ h0 hp _=>⟨s.s _ _ hp,by
   cases q:H01 p with
   |none=>rfl
   |some o=>have:=s.nw p (by rw[q];simp) h0;rw[hp]at this;cases this⟩⟩
def eX.frz_sub(h:eX K He η Ha σ H ρ):aG Ha (frz He Ha H):=λb o e=>by
 unfold frz;cases q:He b with|none=>exact h.g.sub _ _ e|some _=>exact e
def eX.frz_le(h:eX K He η Ha σ H ρ):aG (frz He Ha H) H:=λb o e=>by
 unfold frz at e;cases q:He b with|none=>rw[q]at e;exact e|some _=>rw[q]at e;exact h.g.sub _ _ e
theorem eX.frz_grow(h:eX K He η Ha σ H ρ):bw He η H (frz He Ha H) :=
 ⟨h.g.s,h.g.z.trans h.frz_sub,h.frz_le,λa h1 h2=>by
  cases q:He a with
  |none=>rfl
  |some o=>
   unfold frz at h1;rw[q]at h1;have:=h.g.nw a h1 h2;rw[q]at this;cases this⟩
def eX.looks(h:eX K He η Ha σ H ρ):Reads K (frz He Ha H) σ (ey ρ):=λi d e=>by
 unfold ey at e;rw[Qg]at e;cases q:ρ[i]? with
 |none=>rw[q]at e;cases e
 |some s=>
  rw[q]at e;cases s with
  |no|pt a=>cases e
  |sh d'=>
   cases e;obtain⟨v,h1,h2⟩:=h.rd i d q;exact⟨v,h1,h2.mono h.frz_sub⟩
  |ow d'=>
   cases e;obtain⟨a,h1,h2,h3,h4⟩:=h.ow i d q;refine⟨_,h1,?_⟩;cases d with
   |lst ds=>
    obtain⟨vs,h5,h6⟩:=h4;exact aI.mpr ⟨a,vs,rfl,fk.of (by unfold frz;rw[h2];exact h5),h6.mono h.frz_sub⟩
   |dic ks ds=>
    obtain⟨vs,h5,hl,h6⟩:=h4;rw[Rep];exact⟨a,_,vs,rfl,.inl (by unfold frz;rw[h2];exact h5),rfl,hl,h6.mono h.frz_sub⟩
   |_=>exact h4.elim
  |ox j ds=>
   cases e;obtain⟨a,p,h1,⟨vs,es,us,r1,r2,r3,r4,r5,r6,r7,r8,r9,r10⟩,_⟩:=h.ex.1 i j ds q;refine⟨_,h1,aQ.mpr ⟨a,vs,rfl,kz.of (by unfold frz;rw[r1];exact r2),Ax r9 λk d v e1 e2=>?_⟩⟩
   by_cases hk:k=j
   .subst hk
    rw[r5]at e1;cases e1;rw[r6]at e2;cases e2;exact aI.mpr ⟨p,us,rfl,fk.of (by unfold frz;rw[r3];exact r7),r8.mono h.frz_sub⟩
   .exact(r10 k d v hk e1 e2).mono h.frz_sub
def eX.put(h:eX K He η Ha σ H ρ)(r:Rep K Ha d v):eX K He η Ha (σ.set i (some v)) H (ρ.set i (.sh d)):=by
 have key:∀(j:Nat) (s:Sl),(ρ.set i (.sh d))[j]?=some s->(j=i/\s=.sh d/\i<σ.length)∨(j≠i/\ρ[j]?=some s):=λj s e=>by
  by_cases hj:i=j
  .subst hj
   rw[TK]at e;cases q:ρ[i]? with
   |none=>rw[q]at e;cases e
   |some s'=>
    rw[q]at e;cases e;refine .inl ⟨rfl,rfl,?_⟩;rw[←h.ln];exact(Qa.mp q).1
  .rw[Qm hj]at e
   exact .inr ⟨λz=>hj z.symm,e⟩
 refine⟨h.g,λj d' e=>?_,λj d' e=>?_,λj k d1 d2 hn e1 e2=>?_,by simp[h.ln],h.ex.upd (λj s e=>?_) (aG.refl _) (λa vs _ e=>e) λp us _ h0 hp _=>⟨hp,h0⟩⟩
 rotate_left 3
 .rcases key j _ e with⟨rfl,e',hl⟩|⟨hj,e'⟩
  .exact .inr (.inl ⟨d,e'⟩)
  .exact .inl ⟨e',by rw[Qm (Q2 hj)]⟩
 .rcases key j _ e with⟨rfl,e',hl⟩|⟨hj,e'⟩
  .cases e'
   exact⟨v,by rw[QU hl],r⟩
  .obtain⟨v',h1,h2⟩:=h.rd j d' e'
   exact⟨v',by rw[Qm (Q2 hj)];exact h1,h2⟩
 .rcases key j _ e with⟨rfl,e',hl⟩|⟨hj,e'⟩
  .cases e'
  .obtain⟨a,h1,h2⟩:=h.ow j d' e'
   exact⟨a,by rw[Qm (Q2 hj)];exact h1,h2⟩
 .rcases key j _ e1 with⟨_,e',_⟩|⟨hj,e1'⟩
  .cases e'
  rcases key k _ e2 with⟨_,e',_⟩|⟨hk,e2'⟩
  .cases e'
  rw[Qm (Q2 hj),Qm (Q2 hk)];exact h.ap j k d1 d2 hn e1' e2'
def eX.putOwn(h:eX K He η Ha σ H ρ)(hp:∀(j:Nat) (a:P9),σ[j]?=some (some (V.ref a))->a=p->∀d:D,ρ[j]?≠some (Sl.ow d))(he:He p=none)(h0:Ha p=none)(hv:H p=some (.lst vs))(r:Reps K Ha ds vs)(hx:∀(i j:Nat) (ds:ac) (a q:P9),ρ[i]?=some (.ox j ds)->σ[i]?=some (some (.ref a))->NQ K He Ha H a j ds q->p≠q) :
  eX K He η Ha (σ.set i (some (.ref p))) H (ρ.set i (.ow (.lst ds))):=by
 have key:∀(j:Nat) (s:Sl),(ρ.set i (.ow (.lst ds)))[j]?=some s->(j=i/\s=.ow (.lst ds)/\i<σ.length)∨(j≠i/\ρ[j]?=some s):=λj s e=>by
  by_cases hj:i=j
  .subst hj
   rw[TK]at e;cases q:ρ[i]? with
   |none=>rw[q]at e;cases e
   |some s'=>
    rw[q]at e;cases e;refine .inl ⟨rfl,rfl,?_⟩;rw[←h.ln];exact(Qa.mp q).1
  .rw[Qm hj]at e
   exact .inr ⟨λz=>hj z.symm,e⟩
 have other:∀(k:Nat) (d2:D),k≠i->ρ[k]?=some (.ow d2)->some (some (V.ref p))≠σ[k]?:=λk d2 hk e2 z=>by
  obtain⟨a,h1,_⟩:=h.ow k d2 e2;rw[h1]at z;cases z;exact hp k p h1 rfl d2 e2
 refine⟨h.g,λj d' e=>?_,λj d' e=>?_,λj k d1 d2 hn e1 e2=>?_,by simp[h.ln],h.ex.upd (λj s e=>?_) (aG.refl _) (λa vs _ e=>e) λp us _ h0 hp _=>⟨hp,h0⟩⟩
 rotate_left 3
 .rcases key j _ e with⟨rfl,e',hl⟩|⟨hj,e'⟩
  .exact .inr (.inr (.inr ⟨.lst ds,p,e',by rw[QU hl],hx⟩))
  .exact .inl ⟨e',by rw[Qm (Q2 hj)]⟩
 .rcases key j _ e with⟨rfl,e',hl⟩|⟨hj,e'⟩
  .cases e'
  .obtain⟨v',h1,h2⟩:=h.rd j d' e'
   exact⟨v',by rw[Qm (Q2 hj)];exact h1,h2⟩
 .rcases key j _ e with⟨rfl,e',hl⟩|⟨hj,e'⟩
  .cases e'
   exact⟨p,by rw[QU hl],he,h0,vs,hv,r⟩
  .obtain⟨a,h1,h2⟩:=h.ow j d' e'
   exact⟨a,by rw[Qm (Q2 hj)];exact h1,h2⟩
 .rcases key j _ e1 with⟨rfl,_,hl⟩|⟨hj,e1'⟩
  .rcases key k _ e2 with⟨rfl,_,_⟩|⟨hk,e2'⟩
   .exact absurd rfl hn
   .rw[QU hl,Qm (Q2 hk)]
    exact other k d2 hk e2'
  .rcases key k _ e2 with⟨rfl,_,hl⟩|⟨hk,e2'⟩
   .rw[QU hl,Qm (Q2 hj)]
    exact λz=>other j d1 hj e1' z.symm
   .rw[Qm (Q2 hj),Qm (Q2 hk)]
    exact h.ap j k d1 d2 hn e1' e2'
def eX.fresh_x{H01:Hp}{p:P9}(h:eX K He η Ha σ H ρ)(s:aG H H1)(hp:H p=none):∀(i j:Nat) (ds:ac) (a q:P9),ρ[i]?=some (.ox j ds)->σ[i]?=some (some (.ref a))->NQ K He H01 H1 a j ds q->p≠q:=λi j ds a q x1 x2 x3=>by
 obtain⟨a2,p2,y1,⟨vs2,_,us2,_,z3,_,_,_,z4,z5,_⟩,_⟩:=h.ex.1 i j ds x1;rw[x2]at y1;cases y1;obtain⟨vs1,_,_,_,z1,_,_,_,z2,_⟩:=x3;have:=s _ _ z3;rw[z1]at this;cases this;rw[z2]at z4;cases z4;intro z;subst z;rw[hp]at z5;cases z5
def eX.write(h:eX K He η Ha σ H ρ)(e:ρ[i]?=some (.ow d))(es:σ[i]?=some (some (.ref p)))(r:Reps K Ha ds vs) :
  eX K He η Ha σ (upd H p (.lst vs)) (ρ.set i (.ow (.lst ds))):=by
 obtain⟨a,h1,h2,h3,h4⟩:=h.ow i d e;rw[h1]at es;cases es;have hil:i<ρ.length:=(Qa.mp e).1;have key:∀(j:Nat) (s:Sl),(ρ.set i (.ow (.lst ds)))[j]?=some s->(j=i/\s=.ow (.lst ds))∨(j≠i/\ρ[j]?=some s):=λj s e=>by
  by_cases hj:i=j
  .subst hj
   rw[QU hil]at e;cases e;exact .inl ⟨rfl,rfl⟩
  .rw[Qm hj]at e
   exact .inr ⟨λz=>hj z.symm,e⟩
 refine⟨⟨λb o eb=>?_,h.g.z,λb o eb=>?_,h.g.nw⟩,λj d' e'=>?_,λj d' e'=>?_,λj k d1 d2 hn e1 e2=>?_,by simp[h.ln],h.ex.upd (λj s e'=>?_) (aG.refl _) (λb us _ eb=>?_) λq us _ q0 hq hd=>?_⟩
 rotate_left 5
 .rcases key j _ e' with⟨rfl,e''⟩|⟨hj,e''⟩
  .exact .inr (.inr (.inr ⟨.lst ds,p,e'',h1,λi' j' ds' a' p' x1 x2 x3=>by
    obtain⟨a2,p2,y1,y2,y3,_⟩:=h.ex.1 i' j' ds' x1;rw[x2]at y1;cases y1;have:p2=p':=by
     obtain⟨vs1,_,_,_,z1,_,_,_,z2,_⟩:=x3;obtain⟨vs2,_,_,_,z3,_,_,_,z4,_⟩:=y2;rw[z1]at z3;cases z3;rw[z2]at z4;cases z4;rfl
    subst this;intro zz;subst zz;exact y3 j d e h1⟩))
  .exact .inl ⟨e'',rfl⟩
 .rw[az (by
   intro z;subst z;cases d with
   |lst ds'|dic ks ds'=>obtain⟨vs',h5,_⟩:=h4;rw[h5]at eb;cases eb
   |_=>exact h4)];exact eb
 .have hq':q≠p:=by
   intro z;subst z;exact hd i d e h1
  exact⟨by rw[az hq'];exact hq,q0⟩
 .rw[az (by intro z;subst z;rw[h2]at eb;cases eb)];exact h.g.s _ _ eb
 .rw[az (by intro z;subst z;rw[h3]at eb;cases eb)];exact h.g.sub _ _ eb
 .rcases key j _ e' with⟨rfl,e''⟩|⟨hj,e''⟩
  .cases e''
  .exact h.rd j d' e''
 .rcases key j _ e' with⟨rfl,e''⟩|⟨hj,e''⟩
  .cases e''
   exact⟨p,h1,h2,h3,vs,aF,r⟩
  .obtain⟨b,k1,k2,k3,k4⟩:=h.ow j d' e''
   refine⟨b,k1,k2,k3,?_⟩;have hb:b≠p:=by
    intro z;subst z;exact h.ap j i d' d hj e'' e (by rw[k1,h1])
   cases d' with
   |lst ds'=>
    obtain⟨vs',h5,h6⟩:=k4;exact⟨vs',by rw[az hb];exact h5,h6⟩
   |dic ks ds'=>
    obtain⟨vs',h5,hl,h6⟩:=k4;exact⟨vs',by rw[az hb];exact h5,hl,h6⟩
   |_=>exact k4.elim
 .rcases key j _ e1 with⟨rfl,e1'⟩|⟨hj,e1'⟩
  .rcases key k _ e2 with⟨rfl,_⟩|⟨hk,e2'⟩
   .exact absurd rfl hn
   .exact h.ap j k d d2 hn e e2'
  .rcases key k _ e2 with⟨rfl,_⟩|⟨hk,e2'⟩
   .exact h.ap j k d1 d hn e1' e
   .exact h.ap j k d1 d2 hn e1' e2'
end
mutual
def iN:D->Bool
 |.lst _=>false
 |.dic _ _=>false
 |.exc _=>false
 |.ob _ _=>false
 |.tup ds=>flats ds
 |_=>true
def flats:ac->Bool
 |[]=>true
 |d::ds=>iN d&&flats ds
end
mutual
theorem Rep.flat_to{K:P4}{H H':Hp}(e:∀a vs,Rd H a (.tup vs)->Rd H' a (.tup vs)):∀{d:D}{v:V},iN d=true->Rep K H d v->Rep K H' d v
 |.non,_,_,h=>by unfold Rep at h ⊢;exact h
 |.bl _,_,_,h=>by unfold Rep at h ⊢;exact h
 |.int _,_,_,h=>by unfold Rep at h ⊢;exact h
 |.str _,_,_,h=>by unfold Rep at h ⊢;exact h
 |.tup ds,_,f,h=>by
  unfold iN at f;obtain⟨a,vs,e1,e2,e3⟩:=aQ.mp h;refine aQ.mpr ⟨a,vs,e1,?_,Reps.flat_to e f e3⟩;rcases e2 with e2|e2
  .exact .inl (e _ _ e2)
  .exact .inr e2
 |.lst ds,_,f,h=>by unfold iN at f;cases f
 |.dic ks ds,_,f,h=>by unfold iN at f;cases f
 |.exc x,_,f,h=>by unfold iN at f;cases f
 |.ob k ds,_,f,h=>by unfold iN at f;cases f
theorem Reps.flat_to{K:P4}{H H':Hp}(e:∀a vs,Rd H a (.tup vs)->Rd H' a (.tup vs)):∀{ds:ac}{vs:ad},flats ds=true->Reps K H ds vs->Reps K H' ds vs
 |[],_,_,h=>by unfold Reps at h ⊢;exact h
 |d::ds,_,f,h=>by
  unfold flats at f;rw[QK]at f;obtain⟨v,r,e1,e2,e3⟩:=aM.mp h;exact aM.mpr ⟨v,r,e1,Rep.flat_to e f.1 e2,Reps.flat_to e f.2 e3⟩
end
noncomputable def e7(Ha J:Hp):Hp:=λa=>match Ha a with
 |some o=>some o
 |none=>match J a with
  |some (.tup vs)=>some (.tup vs)
  |some (.frz o (.tup vs))=>some (.frz o (.tup vs))
  |_=>none
section
variable {K:P4}{E:XK}{He η Ha H H1 J:Hp}{σ:L2.St}{ρ:Ev}
def Ii(h:aG Ha J):∀a o,e7 Ha J a=some o->J a=some o:=λa o e=>by
 unfold e7 at e;cases q:Ha a with
 |some u=>rw[q]at e;cases e;exact h _ _ q
 |none=>
  rw[q]at e;cases q2:J a with
  |none=>rw[q2]at e;cases e
  |some u=>
   rw[q2]at e;cases u with
   |tup vs=>cases e;rfl
   |frz o u'=>
    cases u' with|tup vs=>cases e;rfl| _=>cases e
   |_=>cases e
def p8(h:aG Ha J)(a:P9)(vs:ad)(e:Rd J a (.tup vs)):Rd (e7 Ha J) a (.tup vs):=by
 rcases e with e|⟨o,e⟩
 .refine .inl ?_
  unfold e7;cases q:Ha a with|some u=>have:=h _ _ q;rw[e]at this;cases this;rfl|none=>rw[e]
 .refine .inr ⟨o,?_⟩
  unfold e7;cases q:Ha a with|some u=>have:=h _ _ q;rw[e]at this;cases this;rfl|none=>rw[e]
def eX.behind(h:eX K He η Ha σ H ρ)(g:bw H (frz He Ha H) H1 J):eX K He η (e7 Ha J) σ H1 ρ:=by
 have hJ:aG Ha J:=h.frz_sub.trans g.z;have le:=Ii (Ha:=Ha) (J:=J) hJ;have z:aG Ha (e7 Ha J):=λb o e=>by unfold e7;rw[e]
 refine⟨⟨h.g.s.trans g.s,h.g.z.trans z,λb o e=>g.sub _ _ (le b o e),λa h1 h2=>?_⟩,h.rd.mono z,λi d e=>?_,h.ap,h.ln,h.ex.upd (λj s e=>.inl ⟨e,rfl⟩) z (λa vs _ e=>g.s _ _ e) λp us hp h0 hl _=>⟨g.s _ _ hl,by
  have:frz He Ha H p=some (.lst us):=by unfold frz;rw[hp];exact hl
  have:=g.z _ _ this;unfold e7;rw[h0,this]⟩⟩
 .cases q:e7 Ha J a with
  |none=>exact absurd q h1
  |some o=>
   have hj:=le a o q;exact(h.frz_grow.trans g).nw a (by rw[hj];simp) h2
 .obtain⟨a,k1,k2,k3,k4⟩:=h.ow i d e
  refine⟨a,k1,k2,?_,?_⟩
  .cases d with
   |lst ds=>
    obtain⟨vs,h5,_⟩:=k4;have:frz He Ha H a=some (.lst vs):=by unfold frz;rw[k2];exact h5
    have:=g.z _ _ this;unfold e7;rw[k3,this]
   |dic ks ds=>
    obtain⟨vs,h5,_⟩:=k4;have:frz He Ha H a=some (.dK ((ks.map Tb).zip vs)):=by unfold frz;rw[k2];exact h5
    have:=g.z _ _ this;unfold e7;rw[k3,this]
   |_=>exact k4.elim
  .cases d with
   |lst ds=>obtain⟨vs,h5,h6⟩:=k4;exact⟨vs,g.s _ _ h5,h6.mono z⟩
   |dic ks ds=>obtain⟨vs,h5,hl,h6⟩:=k4;exact⟨vs,g.s _ _ h5,hl,h6.mono z⟩
   |_=>exact k4.elim
end
section
variable {X:Cx}{E:XK}{He η:Hp}{st:RH}{rest:List RH}{e a b:QX}{es:List QX}{f g:Ev->ak D}{fa:Ev->ak (ac)}{s t:Ev->ak Fl}{pos:Pos}
def bO{t t':TS}(h:PS X st t)(w:∀D σ H,t' D σ H->t D σ H):PS X st t':=λπ s σ H D I q=>h π s σ H D I (w D σ H q)
def eH{t t':TS}(h:vn X rest t)(w:∀D σ H,t' D σ H->t D σ H):vn X rest t':=λπ s σ H D I q=>h π s σ H D I (w D σ H q)
noncomputable def aw:Ev->ak Fl:=λρ=>.ok (.nx ρ)
noncomputable def aA(s t:Ev->ak Fl):Ev->ak Fl:=λρ=>(s ρ).bind λr=>match r with
 |.nx ρ'=>t ρ'
 |r=>.ok r
def ar:Ae X E He η [] aw:=⟨eH pG λD σ H ⟨Ha,ρ,h,q⟩=>q σ H Ha (aG.refl _) h⟩
def ai(h1:DS X E He η st s)(h2:Ae X E He η rest t):Ae X E He η (st::rest) (aA s t):=by
 refine⟨?_⟩;refine eH (gG h1.o h2.o) λD σ H z9=>?_;obtain⟨Ha,ρ,h,q⟩:=z9;refine⟨Ha,ρ,h,?_⟩
 unfold aA at q;cases e1:s ρ with
 |stuck|exn x=>rw[e1]at q;exact q
 |ok r=>
  rw[e1]at q;cases r with|nx ρ'=>exact λσ' H' Ha' s' h'=>⟨Ha',ρ',h',b8.grow (r:=t ρ') q s'⟩|rt d|bk ρ'|ct ρ'=>exact q
noncomputable def cx:Ev->ak Fl:=λ_=>.stuck
def cc:DS X E He η st cx:=⟨bO DZ λD σ H ⟨Ha,ρ,h,q⟩=>q⟩
def plain{K:P4}(h:eX K He η Ha σ H ρ) 
  (q:b8 K E He η Ha (r.bind k) D')(hk:∀d v H' Ha',r=.ok d->bw H Ha H' Ha'->Rep K Ha' d v->b8 K E He η Ha' (k d) D'->Q v H'):post K E H Ha r Q:=by
 cases r with|stuck=>exact q|exn x=>exact λC ox H' Ha' g ex=>q C ox H' Ha' (h.g.trans g) ex|ok d=>exact λv H' Ha' g rp=>hk d v H' Ha' rfl g rp (b8.grow (r:=k d) q g.z)
def look{K:P4}(h:eX K He η Ha σ H ρ) 
  (q:b8 K E He η Ha (r.bind k) D')(hk:∀d v H' J,r=.ok d->bw H (frz He Ha H) H' J->Rep K J d v->b8 K E He η Ha (k d) D'->Q v H'):post K E H (frz He Ha H) r Q:=by
 cases r with|stuck=>exact q|exn x=>exact λC ox H' Ha' g ex=>q C ox H' Ha' (h.frz_grow.trans g) ex|ok d=>exact λv H' J g rp=>hk d v H' J rfl g rp q
def II{K:P4}{k:Bool->ak Fl}(h:eX K He η Ha σ H ρ) 
  (q:b8 K E He η Ha (r.bind λx=>match x with|.bl b=>k b|_=>.stuck) D')(hk:∀b H',aG H H'->b8 K E He η Ha (k b) D'->Q b H'):qF K E H (frz He Ha H) r Q:=by
 cases r with
 |stuck=>exact q|exn x=>exact λC ox H' Ha' g ex=>q C ox H' Ha' (h.frz_grow.trans g) ex
 |ok d=>
  cases d with|bl b=>exact λH' J g=>hk b H' g.s q| _=>exact q.elim
noncomputable def bJ(i:Nat) (f:Ev->ak D):Ev->ak Fl:=λρ=>(f ρ).bind λd=>.ok (.nx (ρ.set i (.sh d)))
noncomputable def Av(i:Nat) (f:Ev->ak D):Ev->ak Fl:=λρ=>(f (ey ρ)).bind λd=>if iN d=true then .ok (.nx (ρ.set i (.sh d))) else .stuck
noncomputable def b5(f:Ev->ak D):Ev->ak Fl:=λρ=>(f (ey ρ)).bind λd=>.ok (.rt d)
noncomputable def fL(f:Ev->ak D):Ev->ak Fl:=λρ=>(f (ey ρ)).bind λ_=>.ok (.nx ρ)
noncomputable def er(c:Ev->ak D) (s t:Ev->ak Fl):Ev->ak Fl:=λρ=>(c (ey ρ)).bind λx=>match x with
 |.bl b=>if b=true then s ρ else t ρ
 |_=>.stuck
def br(hN:X.N.Nodup)(hi:X.N[i]?=some x)(hx:CY X.env.scope x)(he:DE X E e f)(hs:Rq e (some (.Name x pos')) pos.line X.env=pure false:=by rfl)
  (hf:X.fn x=true∨X.env.scope.names.lookup x=some .local := by first|exact .inl rfl|exact .inr rfl|assumption):DS X E He η (.Assign [.Name x pos'] e pos) (bJ i f):=by
 refine⟨?_⟩;refine bO (nG hN hi hx he.o hs hf) λD σ H z9=>?_;obtain⟨Ha,ρ,h,q⟩:=z9;refine⟨Ha,ρ,h.g.sub,h.rd,?_⟩
 refine plain h q λd v H' Ha' _ g rp q'=>?_;exact q' _ H' Ha' (aG.refl _) ((h.grow g).put rp)
def HG(hN:X.N.Nodup)(hi:X.N[i]?=some x)(hx:CY X.env.scope x)(he:DE X E e f)(hs:Rq e (some (.Name x pos')) pos.line X.env=pure false:=by rfl)
  (hf:X.fn x=true∨X.env.scope.names.lookup x=some .local := by first|exact .inl rfl|exact .inr rfl|assumption):DS X E He η (.Assign [.Name x pos'] e pos) (Av i f):=by
 refine⟨?_⟩;refine bO (nG hN hi hx he.o hs hf) λD σ H z9=>?_;obtain⟨Ha,ρ,h,q⟩:=z9;refine⟨frz He Ha H,ey ρ,h.frz_le,h.looks,?_⟩
 refine look h q λd v H' J _ g rp q'=>?_
 by_cases fl:iN d=true
 .rw[if_pos fl]at q'
  have hJ:aG Ha J:=h.frz_sub.trans g.z;refine q' _ H' (e7 Ha J) (λb o e=>by unfold e7;rw[e]) ((h.behind g).put (rp.flat_to (p8 hJ) fl))
 .rw[if_neg fl]at q';exact q'.elim
def aY(he:DE X E e f):DS X E He η (.Return (some e) pos) (b5 f):=by
 refine⟨?_⟩;refine bO (vC he.o) λD σ H z9=>?_;obtain⟨Ha,ρ,h,q⟩:=z9;refine⟨frz He Ha H,ey ρ,h.frz_le,h.looks,?_⟩
 exact look h q λd v H' J _ g rp q'=>q' v H' J (h.frz_grow.trans g) rp
def dY(he:DE X E e f)(hs:Rq e none pos.line X.env=pure false:=by rfl):DS X E He η (.Expr e pos) (fL f):=by
 refine⟨?_⟩;refine bO (pH he.o hs) λD σ H z9=>?_;obtain⟨Ha,ρ,h,q⟩:=z9;refine⟨frz He Ha H,ey ρ,h.frz_le,h.looks,?_⟩
 exact look h q λd v H' J _ g rp q'=>q' σ H' Ha (aG.refl _) (h.same g.s)
def bT(hc:DT X E c fc)(ha:Ae X E He η sa s)(hb:Ae X E He η sb t):DS X E He η (.If c sa sb pos) (er fc s t):=by
 refine⟨?_⟩;refine bO (ID hc.o ha.o hb.o) λD σ H z9=>?_;obtain⟨Ha,ρ,h,q⟩:=z9;refine⟨frz He Ha H,ey ρ,h.frz_le,h.looks,?_⟩
 refine II (k:=λb=>if b=true then s ρ else t ρ) h q λb H' hs q'=>?_;cases b with|true=>rw[if_pos rfl]at q' ⊢;exact⟨Ha,ρ,h.same hs,q'⟩|false=>rw[if_neg Ru]at q' ⊢;exact⟨Ha,ρ,h.same hs,q'⟩
noncomputable def tF(K:P4) (E:XK) (f:Ev->ak D):TE:=λσ H Q=>∃Ha ρ,aG Ha H/\Reads K Ha σ ρ/\match f ρ with
 |.ok (.lst ds)=>∀p vs H' Ha',bw H Ha H' Ha'->H p=none->Ha' p=none->H' p=some (.lst vs)->Reps K Ha' ds vs->Q (.ref p) H'
 |.ok _=>False
 |.exn x=>∀C ox H' Ha',bw H Ha H' Ha'->yL K Ha' x C ox->E C ox H'
 |.stuck=>False
structure DF (X:Cx) (E:XK) (e:QX) (f:Ev->ak D):Prop where
 o:PE X e (tF X.K E f)
noncomputable def gE(i:Nat) (f:Ev->ak D):Ev->ak Fl:=λρ=>(f ρ).bind λd=>match d with
 |.lst ds=>.ok (.nx (ρ.set i (.ow (.lst ds))))
 |_=>.stuck
def fA(hN:X.N.Nodup)(hi:X.N[i]?=some x)(hx:CY X.env.scope x)(he:DF X E e f)(hs:Rq e (some (.Name x pos')) pos.line X.env=pure false:=by rfl)
  (hf:X.fn x=true∨X.env.scope.names.lookup x=some .local := by first|exact .inl rfl|exact .inr rfl|assumption):DS X E He η (.Assign [.Name x pos'] e pos) (gE i f):=by
 refine⟨?_⟩;refine bO (nG hN hi hx he.o hs hf) λD σ H z9=>?_;obtain⟨Ha,ρ,h,q⟩:=z9;refine⟨Ha,ρ,h.g.sub,h.rd,?_⟩
 unfold gE at q;cases e1:f ρ with
 |stuck=>rw[e1]at q;exact q|exn x=>rw[e1]at q;exact λC ox H' Ha' g ex=>q C ox H' Ha' (h.g.trans g) ex
 |ok d=>
  rw[e1]at q;cases d with
  |lst ds=>
   intro p vs H' Ha' g hp h0 hv rp;refine q _ H' Ha' g.z ((h.grow g).putOwn (λj a ej ea d ed=>?_) (h.g.s.free hp) h0 hv rp (h.fresh_x g.s hp));subst ea;obtain⟨a',k1,_,_,k4⟩:=h.ow j d ed;rw[ej]at k1;cases k1;cases d with|lst ds'|dic ks ds'=>obtain⟨vs',h5,_⟩:=k4;rw[hp]at h5;cases h5| _=>exact k4.elim
  |_=>exact q.elim
def ix(h:DA X E es fa):DF X E (.List es pos) (aq fa b9):=by
 refine⟨?_⟩;refine bg (ze h.o) λσ H Q h=>?_;obtain⟨Ha,ρ,hs,hr,q⟩:=h;refine⟨Ha,ρ,hs,hr,?_⟩;unfold aq at q;cases e1:fa ρ with
 |stuck|exn x=>rw[e1]at q;exact q
 |ok ds=>
  rw[e1]at q;intro vs H1 H01 g1 r1;replace q:match b9 ds with
   |.ok (.lst ds)=>∀p vs H' Ha',bw H Ha H' Ha'->H p=none->Ha' p=none->H' p=some (.lst vs)->Reps X.K Ha' ds vs->Q (.ref p) H'
   |.ok _=>False
   |.exn x=>∀C ox H' Ha',bw H Ha H' Ha'->yL X.K Ha' x C ox->E C ox H'
   |.stuck=>False:=q
  unfold b9 at q
  by_cases hl:ds.length<=line
  .rw[if_pos hl]at q
   refine⟨by rw[←r1.length];exact dB hl,λp hp=>?_⟩;have h0:H01 p=none:=g1.sub.free hp;refine q p vs _ H01 (g1.trans ⟨λb o q=>by rw[az (bh q hp)];exact q,aG.refl _,λb o q=>?_,λa h1 h2=>absurd h2 h1⟩) (g1.s.free hp) h0 aF r1;rw[az (by intro z;subst z;rw[h0]at q;cases q)];exact g1.sub _ _ q
  .rw[if_neg hl]at q;exact q.elim
noncomputable def xy(ρ:Ev) (i:Nat) (k:ac->ak Fl):ak Fl:=match ρ[i]? with
 |some (.ow (.lst ds))=>k ds
 |_=>.stuck
noncomputable def cU(i:Nat) (f:Ev->ak D):Ev->ak Fl:=λρ=>xy ρ i λds=>(f ρ).bind λd=>if ds.length<line then .ok (.nx (ρ.set i (.ow (.lst (ds++[d]))))) else .stuck
def qK{K:P4}(h:eX K He η Ha σ H ρ)(q:b8 K E He η Ha (xy ρ i k) D') :
  ∃ds p vs,ρ[i]?=some (.ow (.lst ds))/\σ[i]?=some (some (.ref p))/\He p=none/\Ha p=none/\H p=some (.lst vs)/\Reps K Ha ds vs/\b8 K E He η Ha (k ds) D':=by
 unfold xy at q;cases e:ρ[i]? with
 |none=>rw[e]at q;exact q.elim
 |some s=>
  rw[e]at q;cases s with
  |no|sh d|ox j ds|pt a=>exact q.elim
  |ow d=>
   cases d with
   |lst ds=>
    obtain⟨p,h1,h2,h3,vs,h4,h5⟩:=h.ow i _ e;exact⟨ds,p,vs,rfl,h1,h2,h3,h4,h5,q⟩
   |_=>exact q.elim
def fB(hN:X.N[i]?=some x)(hv:yK X.env.scope x)(he:DE X E e f)
  (hd:(x==("__debug__" : Qu))=false:=by decide)(hcd:(x==("__classdict__" : Qu))=false:=by decide)
  (hbase:Sz (.Name x p1) "append" X.env (eval (.Name x p1) X.env)=eval (.Name x p1) X.env:=by rfl)
  (hfew:((Rg p3 (Qb [e] X.env)).all (λx=>!x.1)&&(TJ p3 (Sj [] X.env)).all (λx=>x.1.isSome)
  &&decide ([e].length+([]:List Te).length+(if([]:List Te).isEmpty then 0 else 1)<30))=true:=by exact lP rfl)
  (hline:(p2.endLine==p3.line)=true:=by rfl) (hs:Qb [e] X.env=(false,eval e X.env)::Qb [] X.env:=by exact aW rfl) (hplain:(Rg p3 (Qb [] X.env)).any (·.1)=false:=by exact bH rfl)
  (hw:Rq (.Call (.Attribute (.Name x p1) "append" p2) [e] [] p3) none pos.line X.env=pure false:=by rfl) :
  DS X E He η (.Expr (.Call (.Attribute (.Name x p1) "append" p2) [e] [] p3) pos) (cU i f):=by
 refine⟨?_⟩;refine bO (pH (AJ SK UW UU nL (fS hN hv hd hcd) (dQ he.o gH hs) hbase hfew hline hs hplain) hw) λD σ H ⟨Ha,ρ,h,q⟩=>?_;obtain⟨ds,p,vs,e1,e2,e3,e4,e5,e6,q⟩:=qK h q;refine⟨.ref p,e2,.inl ⟨rfl,vs,fk.of e5⟩,?_⟩;refine⟨Ha,ρ,h.g.sub,h.rd,plain h q λd v H' Ha' _ g rp q'=>?_⟩
 by_cases hl:ds.length<line
 .rw[if_pos hl]at q'
  have e5':H' p=some (.lst vs):=g.s _ _ e5;refine⟨p,vs,v,rfl,rfl,e5',by rw[←e6.length];exact Qk hl (by decide),?_⟩;exact q' σ _ Ha' (aG.refl _) ((h.grow g).write e1 e2 ((e6.mono g.z).app (Reps.cons rp Reps.nil)))
 .rw[if_neg hl]at q';exact q'.elim
noncomputable def putAt(ρ:Ev) (i:Nat) (ds:ac) (d:D) (j:D):ak Fl:=match j with
 |.int j=>match uK ds.length j with
  |some n=>.ok (.nx (ρ.set i (.ow (.lst (ds.set n d)))))
  |none=>.stuck
 |_=>.stuck
noncomputable def Du(i:Nat) (f k:Ev->ak D):Ev->ak Fl:=λρ=>xy ρ i λds=>(f ρ).bind λd=>(k ρ).bind λj=>putAt ρ i ds d j
noncomputable def xh(i:Nat) (f k:Ev->ak D):Ev->ak Fl:=λρ=>xy ρ i λds=>(f (ey ρ)).bind λd=>(k (ey ρ)).bind λj=>if iN d=true then putAt ρ i ds d j else .stuck
def xt{K:P4}(h:eX K He η Ha σ H ρ)(e1:ρ[i]?=some (.ow (.lst ds)))(e2:σ[i]?=some (some (.ref p)))(e5:H p=some (.lst vs))(e6:Reps K Ha ds vs)
  (rp:Rep K Ha d v)(rj:Rep K Ha j u)(q:b8 K E He η Ha (putAt ρ i ds d j) D'):IA (.ref p) u v H λH'=>D'.nx σ H':=by
 unfold putAt at q;cases j with
 |int n=>
  cases en:uK ds.length n with
  |none=>simp only[en]at q;exact q.elim
  |some m=>
   simp only[en]at q;refine⟨p,vs,n,m,rfl,aB.mp rj,e5,by rw[←e6.length];exact en,?_⟩;exact q σ _ Ha (aG.refl _) (h.write e1 e2 (e6.set rp m))
 |_=>exact q.elim
section
variable {i:Nat}{x:Qu}{p1 p2:Pos}{k:Ev->ak D}
def KL(hN:X.N[i]?=some x)(hv:yK X.env.scope x)(he:DE X E e f)(hk:DE X E b k)
  (hd:(x==("__debug__" : Qu))=false:=by decide)(hcd:(x==("__classdict__" : Qu))=false:=by decide)
  (ha:∀v,assign (.Subscript (.Name x p1) b p2) X.env v=(do
   let ov ←Sa [v] (eval (.Name x p1) X.env)
   let iv ←Sa [v,ov] (eval b X.env)
   standAt p2
   Sa [v,ov,iv] (setItem ov iv v)
   release [v,ov,iv] []):=by intro _;rfl)
  (hs:swapsWithSole [.Subscript (.Name x p1) b p2] e pos.line X.env=pure false:=by rfl) (hw:swappedStores [.Subscript (.Name x p1) b p2] e X.env=pure none:=by rfl)
  (h1:(assignEach [.Subscript (.Name x p1) b p2] X.env).map (·.2)=[assign (.Subscript (.Name x p1) b p2) X.env]:=by rfl) :
  DS X E He η (.Assign [.Subscript (.Name x p1) b p2] e pos) (Du i f k):=by
 refine⟨?_⟩;refine bO (vE he.o (zd (fS hN hv hd hcd) hk.o qr ha) hs hw h1) λD σ H z9=>?_;obtain⟨Ha,ρ,h,q⟩:=z9;refine⟨Ha,ρ,h.g.sub,h.rd,?_⟩
 obtain⟨ds,p,vs,e1,e2,e3,e4,e5,e6,q⟩:=qK h q;refine plain (k:=λd=>(k ρ).bind λj=>putAt ρ i ds d j) h q λd v H1 H01 _ g1 r1 q1=>⟨.ref p,e2,?_⟩
 have h1':=h.grow g1;refine⟨H01,ρ,h1'.g.sub,h1'.rd,plain (k:=λj=>putAt ρ i ds d j) h1' q1 λj u H2 H02 _ g2 r2 q2=>?_⟩;exact xt (h1'.grow g2) e1 e2 (g2.s _ _ (g1.s _ _ e5)) ((e6.mono g1.z).mono g2.z) (r1.mono g2.z) r2 q2
def HH(hN:X.N[i]?=some x)(hv:yK X.env.scope x)(he:DE X E e f)(hk:DE X E b k)
  (hd:(x==("__debug__" : Qu))=false:=by decide)(hcd:(x==("__classdict__" : Qu))=false:=by decide)
  (ha:∀v,assign (.Subscript (.Name x p1) b p2) X.env v=(do
   let ov ←Sa [v] (eval (.Name x p1) X.env)
   let iv ←Sa [v,ov] (eval b X.env)
   standAt p2
   Sa [v,ov,iv] (setItem ov iv v)
   release [v,ov,iv] []):=by intro _;rfl)
  (hs:swapsWithSole [.Subscript (.Name x p1) b p2] e pos.line X.env=pure false:=by rfl) (hw:swappedStores [.Subscript (.Name x p1) b p2] e X.env=pure none:=by rfl)
  (h1:(assignEach [.Subscript (.Name x p1) b p2] X.env).map (·.2)=[assign (.Subscript (.Name x p1) b p2) X.env]:=by rfl) :
  DS X E He η (.Assign [.Subscript (.Name x p1) b p2] e pos) (xh i f k):=by
 refine⟨?_⟩;refine bO (vE he.o (zd (fS hN hv hd hcd) hk.o qr ha) hs hw h1) λD σ H z9=>?_;obtain⟨Ha,ρ,h,q⟩:=z9;refine⟨frz He Ha H,ey ρ,h.frz_le,h.looks,?_⟩
 obtain⟨ds,p,vs,e1,e2,e3,e4,e5,e6,q⟩:=qK h q;refine look (k:=λd=>(k (ey ρ)).bind λj=>if iN d=true then putAt ρ i ds d j else .stuck) h q λd v H1 J1 _ g1 r1 q1=>⟨.ref p,e2,?_⟩
 have hJ1:aG Ha J1:=h.frz_sub.trans g1.z;refine⟨J1,ey ρ,g1.sub,h.looks.mono g1.z,?_⟩;cases ek:k (ey ρ) with
 |stuck=>rw[ek]at q1;exact q1|exn x=>rw[ek]at q1;exact λC ox H' Ha' g ex=>q1 C ox H' Ha' (h.frz_grow.trans (g1.trans g)) ex
 |ok j=>
  rw[ek]at q1;intro u H2 J2 g2 r2;replace q1:b8 X.K E He η Ha (if iN d=true then putAt ρ i ds d j else .stuck) D:=q1
  by_cases fl:iN d=true
  .rw[if_pos fl]at q1
   have g:=g1.trans g2;have hJ:aG Ha J2:=h.frz_sub.trans g.z;have z:aG Ha (e7 Ha J2):=λb o e=>by unfold e7;rw[e]
   have rd:=(r1.mono g2.z).flat_to (p8 hJ) fl;have rj:Rep X.K (e7 Ha J2) j u:=by
    cases j with|int n=>exact aB.mpr (aB.mp r2)| _=>exact q1.elim
   exact xt (h.behind g) e1 e2 (g.s _ _ e5) (e6.mono z) rd rj (q1.grow z)
  .rw[if_neg fl]at q1;exact q1.elim
end
noncomputable def cg(tg:Ev->D->ak Ev) (body:Ev->ak Fl):ac->Ev->ak Fl
 |[],ρ=>.ok (.nx ρ)
 |d::r,ρ=>(tg ρ d).bind λρ1=>(body ρ1).bind λx=>match x with
  |.nx ρ2=>cg tg body r ρ2
  |.ct ρ2=>cg tg body r ρ2
  |.bk ρ2=>.ok (.nx ρ2)
  |.rt d=>.ok (.rt d)
noncomputable def tG(K:P4) (He η:Hp) (tg:Ev->D->ak Ev):TG:=λv σ H Q=>∃Ha ρ d,eX K He η Ha σ H ρ/\Rep K Ha d v/\match tg ρ d with
  |.ok ρ'=>∀σ' H' Ha',aG Ha Ha'->eX K He η Ha' σ' H' ρ'->Q σ' H'
  |_=>False
structure DG (X:Cx) (E:XK) (He η:Hp) (target:QX) (tg:Ev->D->ak Ev):Prop where
 o:PG X target (tG X.K He η tg)
noncomputable def b6(i:Nat):Ev->D->ak Ev:=λρ d=>.ok (ρ.set i (.sh d))
def vG{t t':TG}(h:PG X tgt t)(w:∀v σ H Q,t' v σ H Q->t v σ H Q):PG X tgt t':=λπ s σ H v u Q I r q=>h π s σ H v u Q I r (w v σ H Q q)
def cm(hN:X.N.Nodup)(hi:X.N[i]?=some x)(hx:CY X.env.scope x)(hf:X.fn x=true∨X.env.scope.names.lookup x=some .local := by first|exact .inl rfl|exact .inr rfl|assumption):DG X E He η (.Name x pos) (b6 i) :=
 ⟨vG (AH hN hi hx hf) λv σ H Q ⟨Ha,ρ,d,h,rp,q⟩=>q _ H Ha (aG.refl _) (h.put rp)⟩
noncomputable def f9(K:P4) (E:XK) (He η Hb:Hp) (tg:Ev->D->ak Ev) (s:Ev->ak Fl) (ds:ac) (D':j9) (i:Nat) (σ:L2.St) (H:Hp):Prop :=
 ∃Ha ρ,aG Hb Ha/\eX K He η Ha σ H ρ/\b8 K E He η Ha (cg tg s (ds.drop i) ρ) D'
def f9.step{K:P4}(h:f9 K E He η Hb tg s ds D' i σ H)(hd:ds[i]?=some d)(rv:Rep K Hb d v)
  (he:∀ρ,tg ρ d=.stuck∨∃ρ',tg ρ d=.ok ρ') :
  tG K He η tg v σ H λσ2 H2=>tS K E He η s { D' with nx:=f9 K E He η Hb tg s ds D' (i+1),ct:=f9 K E He η Hb tg s ds D' (i+1),bk:=D'.nx } σ2 H2:=by
 obtain⟨Ha,ρ,z,h,q⟩:=h;have hi:i<ds.length:=(Qa.mp hd).1;have hdr:ds.drop i=d::ds.drop (i+1):=by
  rw[QZ hi];rw[P5 hi]at hd;cases hd;rfl
 rw[hdr]at q;refine⟨Ha,ρ,d,h,rv.mono z,?_⟩;unfold cg at q;rcases he ρ with e1|⟨ρ1,e1⟩
 .rw[e1]at q;exact q.elim
 .rw[e1]at q ⊢
  intro σ' H' Ha' z' h';refine⟨Ha',ρ1,h',?_⟩;replace q:=b8.grow (r:=(s ρ1).bind λx=>match x with
   |.nx ρ2=>cg tg s (ds.drop (i+1)) ρ2
   |.ct ρ2=>cg tg s (ds.drop (i+1)) ρ2
   |.bk ρ2=>.ok (.nx ρ2)
   |.rt d=>.ok (.rt d)) q z'
  cases e2:s ρ1 with
  |stuck|exn x=>rw[e2]at q;exact q
  |ok r=>
   rw[e2]at q;cases r with|nx ρ2=>exact λσ3 H3 H03 z3 h3=>⟨H03,ρ2,(z.trans z').trans z3,h3,b8.grow (r:=cg tg s (ds.drop (i+1)) ρ2) q z3⟩|ct ρ2=>exact λσ3 H3 H03 z3 h3=>⟨H03,ρ2,(z.trans z').trans z3,h3,b8.grow (r:=cg tg s (ds.drop (i+1)) ρ2) q z3⟩|bk ρ2|rt d=>exact q
def f9.done{K:P4}(h:f9 K E He η Hb tg s ds D' ds.length σ H):D'.nx σ H:=by
 obtain⟨Ha,ρ,z,h,q⟩:=h;rw[Sr]at q;unfold cg at q;exact q σ H Ha (aG.refl _) h
noncomputable def vj(tg:Ev->D->ak Ev):Prop:=∀ρ d,tg ρ d=.stuck∨∃ρ',tg ρ d=.ok ρ'
def cL:vj (b6 i):=λρ d=>.inr ⟨_,rfl⟩
noncomputable def o8(f:Ev->ak D) (tg:Ev->D->ak Ev) (s:Ev->ak Fl):Ev->ak Fl:=λρ=>(f ρ).bind λd=>match d with
 |.lst ds=>cg tg s ds ρ
 |_=>.stuck
def sQ(hp:PassesOwn (QB X.prog X.w) X.A X.env X.xe)(hc:X.calm=true)(hi:DE X E iter f)(hg:DG X E He η tgt tg)(ht:vj tg)(hb:Ae X E He η body s)
  (hs:∀x,foldedSetIterable iter X.env x=pure x:=by intro _;rfl):DS X E He η (.For tgt iter body [] pos) (o8 f tg s):=by
 refine⟨?_⟩;refine bO (vD hp hc (vF hi.o) hg.o hb.o hs) λD' σ H z9=>?_;obtain⟨Ha,ρ,h,q⟩:=z9;refine⟨Ha,ρ,h.g.sub,h.rd,?_⟩
 refine plain h q λd v H1 H01 _ g rp q1=>?_;cases d with
 |lst ds=>
  obtain⟨a,vs,rfl,hv,hr⟩:=aI.mp rp;refine⟨a,rfl,⟨vs,aG.sqL g.sub hv⟩,?_⟩;refine EV (K:=X.K) (a:=a) (g:=tG X.K He η tg) (tb:=tS X.K E He η s) (D:=D') (xs:=vs) (f9 X.K E He η H01 tg s ds D') ⟨H01,ρ,aG.refl _,h.grow g,q1⟩ ?_ ?_ ?_
  .rintro i σ' H' _ ⟨Ha',ρ',z,h',_⟩
   exact aG.sqL (z.trans h'.g.sub) hv
  .intro i x σ' H' hx hI
   have hil:i<ds.length:=by rw[hr.length];exact(Qa.mp hx).1
   obtain⟨u,e1,e2⟩:=hr.get (P5 hil);rw[hx]at e1;cases e1;exact hI.step (P5 hil) e2 λρ=>ht ρ _
  .intro σ' H' hI
   rw[←hr.length]at hI;exact hI.done
 |_=>exact q1.elim
noncomputable def intsFrom(lo:Int) (n:Nat):ac:=(QL n).map λ(k:Nat)=>D.int (lo+(k:Int))
noncomputable def qw(f:Ev->ak D) (tg:Ev->D->ak Ev) (s:Ev->ak Fl):Ev->ak Fl:=λρ=>(f (ey ρ)).bind λd=>match d with
 |.int j=>if -4611686018427387904<=j/\j<4611686018427387904 then cg tg s (intsFrom 0 j.toNat) ρ else .stuck
 |_=>.stuck
def pZ(hp:PassesOwn (QB X.prog X.w) X.A X.env X.xe)(hc:X.calm=true)(hgl:Gl X "range")(hm:X.mg "range"=none)(hi:DE X E iter f)(hg:DG X E He η tgt tg)(ht:vj tg)(hb:Ae X E He η body s)
  (hst:Qb [iter] X.env=[(false,eval iter X.env)]:=by exact gC rfl)(hs:∀x,foldedSetIterable (.Call (.Name "range" p) [iter] [] pos2) X.env x=pure x:=by intro _;rfl):DS X E He η (.For tgt (.Call (.Name "range" p) [iter] [] pos2) body [] pos) (qw f tg s):=by
 refine⟨?_⟩;refine bO (vD hp hc (nH hgl hm (dQ hi.o gH hst) hst) hg.o hb.o hs) λD' σ H ⟨Ha,ρ,h,q⟩=>?_;refine⟨frz He Ha H,ey ρ,h.frz_le,h.looks,look h q λd v H1 J _ g rp q1=>?_⟩;cases d with
 |int j=>
  rw[aB.mp rp];replace q1:b8 X.K E He η Ha (if -4611686018427387904<=j/\j<4611686018427387904 then cg tg s (intsFrom 0 j.toNat) ρ else .stuck) D':=q1
  by_cases hj:-4611686018427387904<=j/\j<4611686018427387904
  .rw[if_pos hj]at q1
   refine⟨j,rfl,by omega,by omega,?_⟩;have hlen:(intsFrom 0 j.toNat).length=j.toNat:=by unfold intsFrom;simp
   refine Cu (lo:=0) (n:=j.toNat) (g:=tG X.K He η tg) (tb:=tS X.K E He η s) (D:=D') (f9 X.K E He η Ha tg s (intsFrom 0 j.toNat) D') ⟨Ha,ρ,aG.refl _,h.same g.s,q1⟩ ?_ ?_
   .intro i σ' H' hlt hI
    refine hI.step (d:=.int (0+i)) ?_ (aB.mpr rfl) λρ=>ht ρ _;unfold intsFrom;simp[hlt]
   .intro σ' H' hI
    exact f9.done (ds:=intsFrom 0 j.toNat) (by rw[hlen];exact hI)
  .rw[if_neg hj]at q1;exact q1.elim
 |_=>exact q1.elim
noncomputable def cC(c:Ev->ak D) (s:Ev->ak Fl):Nat->Ev->ak Fl
 |0,_=>.stuck
 |n+1,ρ=>(c (ey ρ)).bind λx=>match x with
  |.bl b=>if b=true then(s ρ).bind λx=>match x with
    |.nx ρ2=>cC c s n ρ2
    |.ct ρ2=>cC c s n ρ2
    |.bk ρ2=>.ok (.nx ρ2)
    |.rt d=>.ok (.rt d)
   else .ok (.nx ρ)
  |_=>.stuck
noncomputable def i8(fuel:Ev->Nat) (c:Ev->ak D) (s:Ev->ak Fl):Ev->ak Fl:=λρ=>cC c s (fuel ρ) ρ
def sP(fuel:Ev->Nat)(hp:PassesOwn (QB X.prog X.w) X.A X.env X.xe)(hc:DT X E c fc)(hb:Ae X E He η body s):DS X E He η (.While c body [] pos) (i8 fuel fc s):=by
 refine⟨?_⟩;refine bO (DY hp hc.o hb.o) λD' σ H ⟨Ha,ρ,h,q⟩=>?_;refine⟨λm σ H=>∃Ha ρ,eX X.K He η Ha σ H ρ/\b8 X.K E He η Ha (cC fc s m ρ) D',⟨fuel ρ,Ha,ρ,h,q⟩,?_⟩;rintro m σ1 H1 ⟨H01,ρ1,h1,q1⟩;cases m with
 |zero=>exact q1.elim
 |succ m=>
  refine⟨frz He H01 H1,ey ρ1,h1.frz_le,h1.looks,?_⟩;unfold cC at q1;refine II (k:=λb=>if b=true then(s ρ1).bind λx=>match x with
    |.nx ρ2=>cC fc s m ρ2
    |.ct ρ2=>cC fc s m ρ2
    |.bk ρ2=>.ok (.nx ρ2)
    |.rt d=>.ok (.rt d)
   else .ok (.nx ρ1)) h1 q1 λb H2 hs q2=>?_
  cases b with
  |false=>
   rw[if_neg Ru]at q2 ⊢;exact q2 σ1 H2 H01 (aG.refl _) (h1.same hs)
  |true=>
   rw[if_pos rfl]at q2 ⊢;refine⟨λσ' H'=>∃m',m' < m+1/\∃Ha ρ,eX X.K He η Ha σ' H' ρ/\b8 X.K E He η Ha (cC fc s m' ρ) D',λσ' H' z=>z,H01,ρ1,h1.same hs,?_⟩;cases e2:s ρ1 with
   |stuck|exn x=>rw[e2]at q2;exact q2
   |ok r=>
    rw[e2]at q2;cases r with|nx ρ2=>exact λσ3 H3 H03 z3 h3=>⟨m,Sq _,H03,ρ2,h3,b8.grow (r:=cC fc s m ρ2) q2 z3⟩|ct ρ2=>exact λσ3 H3 H03 z3 h3=>⟨m,Sq _,H03,ρ2,h3,b8.grow (r:=cC fc s m ρ2) q2 z3⟩|bk ρ2|rt d=>exact q2
end
noncomputable def b7(n:Nat) (s:Ev->ak Fl) (ds:ac):ak D:=(s (ds.map Sl.sh++QG (n-ds.length) .no)).bind λr=>match r with
 |.nx _=>.ok .non
 |.rt d=>.ok d
 |_=>.stuck
def jC{K:P4}(h:Reps K Ha ds vs):Reads K Ha (start N vs) (ds.map Sl.sh++QG (N.length-ds.length) .no):=by
 intro i d e;have hl:=h.length
 by_cases hi:i<ds.length
 .rw[Qo (by simpa using hi),Qg]at e
  cases q:ds[i]? with
  |none=>rw[q]at e;cases e
  |some d'=>
   rw[q]at e;cases e;obtain⟨v,h1,h2⟩:=h.get q;refine⟨v,?_,h2⟩;unfold L2.start;rw[Qo (by simp;omega),Qg,h1];rfl
 .rw[Qw (by simpa using hi),QD]at e
  split at e<;>cases e
def nz{ds:ac}(i j:Nat)(es:ac):(ds.map Sl.sh++QG n Sl.no)[i]?≠some (.ox j es):=λe=>by
 have:=Qh e;rw[QQ]at this;rcases this with h|h
 .obtain⟨_,_,h⟩:=QO.mp h;cases h
 .have:=U1 h;cases this
def kP{ds:ac}{σ:L2.St}(i:Nat)(a:P9)(e:(ds.map Sl.sh++QG n Sl.no)[i]?=some (.pt a)):σ[i]?=some (some (.ref a)):=by
 have:=Qh e;rw[QQ]at this;rcases this with h|h
 .obtain⟨_,_,h⟩:=QO.mp h;cases h
 .have:=U1 h;cases this
def Cv{K:P4}{st:RH}{N ps:al}(F:CZ K x qual st f fd)(S:eY N ps (defScope st))
  (hbody:∀(cdv:P2) (A:Q0) (outer:List Rv) (s0:Qj) (H Ha:Hp) (E:XK),cK k (A.deeper (envOfC qual (defScope st) s0.heap.objs.size f cdv)) ->
   Ae (eZ CX0 P w K mg base N qual (defScope st) f cdv A outer s0 H E).nox E H Ha (defBody st) s):FnOk P w K mg base CX0 (k+1) f fd ps (spD K ps.length (b7 N.length s)):=by
 have hpl:ps.length<=N.length:=by have:=congrArg Tv S.pre;rw[Rc]at this;omega
 refine F.ok S (λvs H Q E h=>h.1) λcdv A outer s0 H vs Q E hr h=>?_;obtain⟨hn,Ha,ds,hs,hv,q⟩:=h;refine⟨_,(hbody cdv A outer s0 H Ha E hr).o,Ha,ds.map Sl.sh++QG (N.length-ds.length) .no,?_,?_⟩
 .refine⟨bw.refl hs,jC hv,λi d e=>?_,λi j d d' hij e=>?_,?_,OX.none nz kP⟩
  .by_cases hi:i<ds.length
   .rw[Qo (by simpa using hi),Qg]at e
    cases q:ds[i]? with|none|some d'=>rw[q]at e;cases e
   .rw[Qw (by simpa using hi),QD]at e
    split at e<;>cases e
  .by_cases hi:i<ds.length
   .rw[Qo (by simpa using hi),Qg]at e
    cases q:ds[i]? with|none|some d'=>rw[q]at e;cases e
   .rw[Qw (by simpa using hi),QD]at e
    split at e<;>cases e
  .unfold L2.start
   have:=hv.length;simp only[Qz,P7,Q7];omega
 .unfold b7 at q
  cases e1:s (ds.map Sl.sh++QG (N.length-ds.length) .no) with
  |stuck|exn x=>rw[e1]at q;exact q
  |ok r=>
   rw[e1]at q;cases r with|nx ρ'=>exact λσ' H' Ha' _ h'=>q .non H' Ha' h'.g (aR.mpr rfl)|rt d=>exact λv H' Ha' g rp=>q v H' Ha' g rp|bk ρ'|ct ρ'=>exact q.elim
mutual
def c8:D->D->Bool
 |.non,.non=>true
 |.bl a,.bl b=>a==b
 |.bl a,.int b=>(if a then 1 else 0)==b
 |.int a,.bl b=>a==(if b then 1 else 0)
 |.int a,.int b=>a==b
 |.str a,.str b=>a==b
 |.tup xs,.tup ys=>eqDs xs ys
 |.lst xs,.lst ys=>eqDs xs ys
 |_,_=>false
def eqDs:ac->ac->Bool
 |[],[]=>true
 |x::xs,y::ys=>c8 x y&&eqDs xs ys
 |_,_=>false
end
noncomputable def bq:Nat->D->Bool
 |_,.non=>true
 |_,.bl _=>true
 |_,.int _=>true
 |_,.str _=>true
 |n+1,.tup ds=>ds.all (bq n)
 |n+1,.lst ds=>ds.all (bq n)
 |_,_=>false
def uQ(h:∀d∈ds,c8 d d=true):eqDs ds ds=true:=by
 induction ds with
 |nil=>simp[eqDs]
 |cons d r ih=>
  unfold eqDs;rw[h d Qq,ih λx hx=>h x (Qi _ hx)];rfl
theorem iO:∀(n:Nat) (d:D),bq n d=true->c8 d d=true
 |_,.non,_=>by simp[c8]
 |_,.bl b,_=>by simp[c8]
 |_,.int b,_=>by simp[c8]
 |_,.str b,_=>by simp[c8]
 |n+1,.tup ds,h=>by
  unfold bq at h;unfold c8;exact uQ λd hd=>iO n d (QF.mp h d hd)
 |n+1,.lst ds,h=>by
  unfold bq at h;unfold c8;exact uQ λd hd=>iO n d (QF.mp h d hd)
 |0,.tup ds,h=>by unfold bq at h;cases h
 |0,.lst ds,h=>by unfold bq at h;cases h
 |0,.dic ks ds,h=>by unfold bq at h;cases h
 |n+1,.dic ks ds,h=>by unfold bq at h;cases h
 |0,.exc x,h=>by unfold bq at h;cases h
 |0,.ob k x,h=>by unfold bq at h;cases h
 |n+1,.ob k x,h=>by unfold bq at h;cases h
 |n+1,.exc x,h=>by unfold bq at h;cases h
def HD:c8 (.tup xs) (.tup ys)=eqDs xs ys:=by rw[c8]
def pY:c8 (.lst xs) (.lst ys)=eqDs xs ys:=by rw[c8]
theorem kX:∀(xs ys:ac),xs.length=ys.length->eqDs xs ys=(QL xs.length).all λj=>c8 (xs.getD j .non) (ys.getD j .non)
 |[],[],_=>by simp[eqDs]
 |x::xs,y::ys,h=>by
  have ih:=kX xs ys (by simpa using h);unfold eqDs;rw[ih,QE,Vh,Tc,Up];rfl
 |[],_::_,h=>by simp at h
 |_::_,[],h=>by simp at h
theorem sO:∀(xs ys:ac),xs.length≠ys.length->eqDs xs ys=false
 |[],[],h=>absurd rfl h
 |x::xs,y::ys,h=>by
  unfold eqDs;rw[sO xs ys (by simpa using h),UR]
 |[],_::_,h=>by simp[eqDs]
 |_::_,[],h=>by simp[eqDs]
section
variable {X:Cx}{π:List (P9×Obj)}{σ:L2.St}{H:Hp}{s:Qj}
def bu(I:Inv X π σ H s)(r:Rep X.K H (.tup ds) v)(rv:bX v u):∃a vs its,v=.ref a/\u=.ref a/\kz X.K H a vs/\Reps X.K H ds vs/\bA vs its/\IsTup s.heap a its.toArray/\ds.length=its.length:=by
 obtain⟨a,vs,rfl,h1,h2⟩:=aQ.mp r;obtain rfl:u=Q6 a:=rv;obtain⟨its,h3,h4,_⟩:=I.tuple h1;exact⟨a,vs,its,rfl,rfl,h1,h2,h3,h4,h2.length.trans h3.length⟩
def bc(I:Inv X π σ H s)(r:Rep X.K H (.lst ds) v)(rv:bX v u):∃a vs its,v=.ref a/\u=.ref a/\fk X.K H a vs/\Reps X.K H ds vs/\bA vs its/\s.heap.IsList a its.toArray/\ds.length=its.length:=by
 obtain⟨a,vs,rfl,h1,h2⟩:=aI.mp r;obtain rfl:u=Q6 a:=rv;obtain⟨its,h3,h4,_⟩:=I.list h1;exact⟨a,vs,its,rfl,rfl,h1,h2,h3,h4.isList,h2.length.trans h3.length⟩
theorem qz{n:Nat}(ih:∀(d d':D) (v:V),bq n d=true->bq n d'=true->Rep X.K H d v->Rep X.K H d' v->d=d'):∀(ds ds':ac) (vs:ad),ds.all (bq n)=true->ds'.all (bq n)=true->Reps X.K H ds vs->Reps X.K H ds' vs->ds=ds'
 |[],ds',vs,_,_,h,h'=>by
  rw[Reps.nil_iff.mp h]at h';cases ds' with|nil=>rfl|cons d r=>obtain⟨_,_,e,_⟩:=aM.mp h';cases e
 |d::ds,ds',vs,a,a',h,h'=>by
  obtain⟨v,r,rfl,h1,h2⟩:=aM.mp h;cases ds' with
  |nil=>cases Reps.nil_iff.mp h'
  |cons d' ds'=>
   obtain⟨v',r',e,h1',h2'⟩:=aM.mp h';cases e;rw[Tc,QK]at a a';rw[ih d d' v a.1 a'.1 h1 h1',qz ih ds ds' r a.2 a'.2 h2 h2']
def Rep.inj(I:Inv X π σ H s):∀(n:Nat) (d d':D) (v:V),bq n d=true->bq n d'=true->Rep X.K H d v->Rep X.K H d' v->d=d':=by
 have atom:∀(n:Nat) (d d':D) (v:V),(∀ds,d≠.tup ds)->(∀ds,d≠.lst ds)->bq n d=true->bq n d'=true->Rep X.K H d v->Rep X.K H d' v->d=d':=by
  intro n d d' v n1 n2 s1 s2 h h';have nd:∀m ks ds,bq m (.dic ks ds)=true->False:=λm ks ds h=>by cases m<;>(unfold bq at h;cases h)
  have nx:∀m x,bq m (.exc x)=true->False:=λm x h=>by cases m<;>(unfold bq at h;cases h)
  have nb:∀m k x,bq m (.ob k x)=true->False:=λm k x h=>by cases m<;>(unfold bq at h;cases h)
  cases d with
  |tup ds=>exact absurd rfl (n1 ds)|lst ds=>exact absurd rfl (n2 ds)|dic ks ds=>exact(nd _ _ _ s1).elim|exc x=>exact(nx _ _ s1).elim|ob k x=>exact(nb _ _ _ s1).elim
  |non=>
   rw[aR.mp h]at h';cases d' with|non=>rfl|bl b=>cases aL.mp h'|int b=>cases aB.mp h'|str b=>cases Rep.str_iff.mp h'|tup ds=>obtain⟨_,_,e,_⟩:=aQ.mp h';cases e|lst ds=>obtain⟨_,_,e,_⟩:=aI.mp h';cases e|dic ks ds=>exact(nd _ _ _ s2).elim|exc x=>exact(nx _ _ s2).elim|ob k x=>exact(nb _ _ _ s2).elim
  |bl x=>
   rw[aL.mp h]at h';cases d' with|non=>cases aR.mp h'|bl b=>cases aL.mp h';rfl|int b=>cases aB.mp h'|str b=>cases Rep.str_iff.mp h'|tup ds=>obtain⟨_,_,e,_⟩:=aQ.mp h';cases e|lst ds=>obtain⟨_,_,e,_⟩:=aI.mp h';cases e|dic ks ds=>exact(nd _ _ _ s2).elim|exc x=>exact(nx _ _ s2).elim|ob k x=>exact(nb _ _ _ s2).elim
  |int x=>
   rw[aB.mp h]at h';cases d' with|non=>cases aR.mp h'|bl b=>cases aL.mp h'|int b=>cases aB.mp h';rfl|str b=>cases Rep.str_iff.mp h'|tup ds=>obtain⟨_,_,e,_⟩:=aQ.mp h';cases e|lst ds=>obtain⟨_,_,e,_⟩:=aI.mp h';cases e|dic ks ds=>exact(nd _ _ _ s2).elim|exc x=>exact(nx _ _ s2).elim|ob k x=>exact(nb _ _ _ s2).elim
  |str x=>
   rw[Rep.str_iff.mp h]at h';cases d' with|non=>cases aR.mp h'|bl b=>cases aL.mp h'|int b=>cases aB.mp h'|str b=>cases Rep.str_iff.mp h';rfl|tup ds=>obtain⟨_,_,e,_⟩:=aQ.mp h';cases e|lst ds=>obtain⟨_,_,e,_⟩:=aI.mp h';cases e|dic ks ds=>exact(nd _ _ _ s2).elim|exc x=>exact(nx _ _ s2).elim|ob k x=>exact(nb _ _ _ s2).elim
 intro n
 induction n with
 |zero=>
  intro d d' v s1 s2 h h';exact atom 0 d d' v (λds e=>by subst e;unfold bq at s1;cases s1) (λds e=>by subst e;unfold bq at s1;cases s1) s1 s2 h h'
 |succ n ih=>
  intro d d' v s1 s2 h h'
  by_cases t1:∃ds,d=.tup ds
  .obtain⟨ds,rfl⟩:=t1
   by_cases t2:∃ds',d'=.tup ds'
   .obtain⟨ds',rfl⟩:=t2
    obtain⟨a,vs,rfl,h1,h2⟩:=aQ.mp h;obtain⟨a',vs',e,h1',h2'⟩:=aQ.mp h';cases e;rw[I.tuple_inj h1' h1]at h2';unfold bq at s1 s2;rw[qz ih ds ds' vs s1 s2 h2 h2']
   .by_cases t3:∃ds',d'=.lst ds'
    .obtain⟨ds',rfl⟩:=t3
     obtain⟨a0,_,ev,_,_⟩:=aQ.mp h;subst ev;obtain⟨a,vs,its,ea,_,h1,h2,h3,h4,_⟩:=bu I h rfl;cases ea;obtain⟨a',vs',its',e,_,h1',h2',h3',h4',_⟩:=bc I h' rfl;cases e;exact absurd rfl (Vc h4' h4)
    .exact(atom (n+1) d' _ v (λds e=>t2 ⟨ds,e⟩) (λds e=>t3 ⟨ds,e⟩) s2 s1 h' h).symm
  .by_cases t1':∃ds,d=.lst ds
   .obtain⟨ds,rfl⟩:=t1'
    by_cases t2:∃ds',d'=.lst ds'
    .obtain⟨ds',rfl⟩:=t2
     obtain⟨a,vs,rfl,h1,h2⟩:=aI.mp h;obtain⟨a',vs',e,h1',h2'⟩:=aI.mp h';cases e;rw[I.list_inj h1' h1]at h2';unfold bq at s1 s2;rw[qz ih ds ds' vs s1 s2 h2 h2']
    .by_cases t3:∃ds',d'=.tup ds'
     .obtain⟨ds',rfl⟩:=t3
      obtain⟨a0,_,ev,_,_⟩:=aI.mp h;subst ev;obtain⟨a,vs,its,ea,_,h1,h2,h3,h4,_⟩:=bc I h rfl;cases ea;obtain⟨a',vs',its',e,_,h1',h2',h3',h4',_⟩:=bu I h' rfl;cases e;exact absurd rfl (Vc h4 h4')
     .exact(atom (n+1) d' _ v (λds e=>t3 ⟨ds,e⟩) (λds e=>t2 ⟨ds,e⟩) s2 s1 h' h).symm
   .exact atom (n+1) d d' v (λds e=>t1 ⟨ds,e⟩) (λds e=>t1' ⟨ds,e⟩) s1 s2 h h'
def xP{A:Q0} 
  (ih:∀(x y:D) (v u:V) (a b:P2),bq n x=true->bq n y=true->Rep X.K H x v->Rep X.K H y u->bX v a->bX u b->Qy A.in1 s a b (c8 x y))
  (sx:xs.all (bq n)=true)(sy:ys.all (bq n)=true)(rx:Reps X.K H xs vs)(ry:Reps X.K H ys us)(qx:bA vs is)(qy:bA us js) :
  ∀j (h1:j<is.toArray.size) (h2:j<js.toArray.size),Qy A.in1 s is.toArray[j] js.toArray[j] (c8 (xs.getD j .non) (ys.getD j .non)):=by
 intro j h1 h2;have lx:=rx.length;have ly:=ry.length;have kx:=qx.length;have ky:=qy.length;have h1':j<is.length:=by simpa using h1
 have h2':j<js.length:=by simpa using h2
 have hx:j<xs.length:=by omega
 have hy:j<ys.length:=by omega
 obtain⟨v,e1,r1⟩:=rx.get (P5 hx);obtain⟨u,e2,r2⟩:=ry.get (P5 hy);obtain⟨a,e3,r3⟩:=qx.get e1;obtain⟨b,e4,r4⟩:=qy.get e2;have ea:is.toArray[j]=a:=by
  rw[P5 h1']at e3;simpa using Q4 e3
 have eb:js.toArray[j]=b:=by
  rw[P5 h2']at e4;simpa using Q4 e4
 rw[ea,eb];have gx:xs.getD j .non=xs[j]:=by simp[List.getD,P5 hx]
 have gy:ys.getD j .non=ys[j]:=by simp[List.getD,P5 hy]
 rw[gx,gy];exact ih _ _ v u a b (QF.mp sx _ (R7 hx)) (QF.mp sy _ (R7 hy)) r1 r2 r3 r4
def xj(I:Inv X π σ H s){A:Q0}(hu:A.units<TU){a b:P2}(rx:Rep X.K H x v)(ry:Rep X.K H y u)(qx:bX v a)(qy:bX u b)
  (n1:∀ds ds',¬(x=.lst ds/\y=.lst ds'))(n2:∀ds ds',¬(x=.tup ds/\y=.tup ds'))(d1:∀ks ds,x≠.dic ks ds)(d2:∀ks ds,y≠.dic ks ds)(x1:∀c,x≠.exc c)(x2:∀c,y≠.exc c)(o1:∀k c,x≠.ob k c)(o2:∀k c,y≠.ob k c) :
  QJ A s a b (c8 x y)/\Qy A s a b (c8 x y)/\Qx A s a b (!(c8 x y)):=by
 cases x with
 |non=>
  cases y with
  |non=>
   obtain rfl:=aR.mp rx;obtain rfl:a=RA:=qx;obtain rfl:=aR.mp ry;obtain rfl:b=RA:=qy;unfold c8;exact⟨QJ.none_none ,UA _,Qx.none_none ⟩
  |bl y=>
   obtain rfl:=aR.mp rx;obtain rfl:a=RA:=qx;obtain rfl:=aL.mp ry;obtain rfl:b=RB _:=qy;unfold c8;exact⟨QJ.none_bool _,Qy.none_bool _,Qx.none_bool _⟩
  |int y=>
   obtain rfl:=aR.mp rx;obtain rfl:a=RA:=qx;obtain rfl:=aB.mp ry;obtain⟨ty,rfl⟩:∃t,b=RV _ t:=qy;unfold c8;exact⟨QJ.none_int _ _,Qy.none_int _ _,Qx.none_int _ _⟩
  |str y=>
   obtain rfl:=aR.mp rx;obtain rfl:a=RA:=qx;obtain rfl:=Rep.str_iff.mp ry;obtain⟨ty,rfl⟩:∃t,b=RU _ t:=qy;unfold c8;exact⟨QJ.none_str _ _,Qy.none_str _ _,Qx.none_str _ _⟩
  |lst y=>
   obtain rfl:=aR.mp rx;obtain rfl:a=RA:=qx;obtain⟨ly,_,_,rfl,rfl,_,_,_,hy,_⟩:=bc I ry qy;unfold c8;exact⟨QJ.none_list  hy hu,Qy.none_list  hy hu,Qx.none_list  hy hu⟩
  |tup y=>
   obtain rfl:=aR.mp rx;obtain rfl:a=RA:=qx;obtain⟨ly,_,_,rfl,rfl,_,_,_,hy,_⟩:=bu I ry qy;unfold c8;exact⟨QJ.none_tuple  hy hu,Qy.none_tuple  hy hu,Qx.none_tuple  hy hu⟩
  |dic ks ds=>exact absurd rfl (d2 ks ds)|exc c=>exact absurd rfl (x2 c)|ob k c=>exact absurd rfl (o2 k c)
 |bl x=>
  cases y with
  |non=>
   obtain rfl:=aL.mp rx;obtain rfl:a=RB _:=qx;obtain rfl:=aR.mp ry;obtain rfl:b=RA:=qy;unfold c8;exact⟨QJ.bool_none _,Qy.bool_none _,Qx.bool_none _⟩
  |bl y=>
   obtain rfl:=aL.mp rx;obtain rfl:a=RB _:=qx;obtain rfl:=aL.mp ry;obtain rfl:b=RB _:=qy;unfold c8;exact⟨QJ.bool_bool _ _,Qy.bool_bool _ _,Qx.bool_bool _ _⟩
  |int y=>
   obtain rfl:=aL.mp rx;obtain rfl:a=RB _:=qx;obtain rfl:=aB.mp ry;obtain⟨ty,rfl⟩:∃t,b=RV _ t:=qy;unfold c8;exact⟨QJ.bool_int _ _ _,Qy.bool_int _ _ _,Qx.bool_int _ _ _⟩
  |str y=>
   obtain rfl:=aL.mp rx;obtain rfl:a=RB _:=qx;obtain rfl:=Rep.str_iff.mp ry;obtain⟨ty,rfl⟩:∃t,b=RU _ t:=qy;unfold c8;exact⟨QJ.bool_str _ _ _,Qy.bool_str _ _ _,Qx.bool_str _ _ _⟩
  |lst y=>
   obtain rfl:=aL.mp rx;obtain rfl:a=RB _:=qx;obtain⟨ly,_,_,rfl,rfl,_,_,_,hy,_⟩:=bc I ry qy;unfold c8;exact⟨QJ.bool_list _ hy hu,Qy.bool_list _ hy hu,Qx.bool_list _ hy hu⟩
  |tup y=>
   obtain rfl:=aL.mp rx;obtain rfl:a=RB _:=qx;obtain⟨ly,_,_,rfl,rfl,_,_,_,hy,_⟩:=bu I ry qy;unfold c8;exact⟨QJ.bool_tuple _ hy hu,Qy.bool_tuple _ hy hu,Qx.bool_tuple _ hy hu⟩
  |dic ks ds=>exact absurd rfl (d2 ks ds)|exc c=>exact absurd rfl (x2 c)|ob k c=>exact absurd rfl (o2 k c)
 |int x=>
  cases y with
  |non=>
   obtain rfl:=aB.mp rx;obtain⟨tx,rfl⟩:∃t,a=RV _ t:=qx;obtain rfl:=aR.mp ry;obtain rfl:b=RA:=qy;unfold c8;exact⟨QJ.int_none _ _,Qy.int_none _ _,Qx.int_none _ _⟩
  |bl y=>
   obtain rfl:=aB.mp rx;obtain⟨tx,rfl⟩:∃t,a=RV _ t:=qx;obtain rfl:=aL.mp ry;obtain rfl:b=RB _:=qy;unfold c8;exact⟨QJ.int_bool _ _ _,Qy.int_bool _ _ _,Qx.int_bool _ _ _⟩
  |int y=>
   obtain rfl:=aB.mp rx;obtain⟨tx,rfl⟩:∃t,a=RV _ t:=qx;obtain rfl:=aB.mp ry;obtain⟨ty,rfl⟩:∃t,b=RV _ t:=qy;unfold c8;exact⟨QJ.int_int _ _ _ _,Qy.int_int _ _ _ _,Qx.int_int _ _ _ _⟩
  |str y=>
   obtain rfl:=aB.mp rx;obtain⟨tx,rfl⟩:∃t,a=RV _ t:=qx;obtain rfl:=Rep.str_iff.mp ry;obtain⟨ty,rfl⟩:∃t,b=RU _ t:=qy;unfold c8;exact⟨QJ.int_str _ _ _ _,Qy.int_str _ _ _ _,Qx.int_str _ _ _ _⟩
  |lst y=>
   obtain rfl:=aB.mp rx;obtain⟨tx,rfl⟩:∃t,a=RV _ t:=qx;obtain⟨ly,_,_,rfl,rfl,_,_,_,hy,_⟩:=bc I ry qy;unfold c8;exact⟨QJ.int_list _ _ hy hu,Qy.int_list _ _ hy hu,Qx.int_list _ _ hy hu⟩
  |tup y=>
   obtain rfl:=aB.mp rx;obtain⟨tx,rfl⟩:∃t,a=RV _ t:=qx;obtain⟨ly,_,_,rfl,rfl,_,_,_,hy,_⟩:=bu I ry qy;unfold c8;exact⟨QJ.int_tuple _ _ hy hu,Qy.int_tuple _ _ hy hu,Qx.int_tuple _ _ hy hu⟩
  |dic ks ds=>exact absurd rfl (d2 ks ds)|exc c=>exact absurd rfl (x2 c)|ob k c=>exact absurd rfl (o2 k c)
 |str x=>
  cases y with
  |non=>
   obtain rfl:=Rep.str_iff.mp rx;obtain⟨tx,rfl⟩:∃t,a=RU _ t:=qx;obtain rfl:=aR.mp ry;obtain rfl:b=RA:=qy;unfold c8;exact⟨QJ.str_none _ _,Qy.str_none _ _,Qx.str_none _ _⟩
  |bl y=>
   obtain rfl:=Rep.str_iff.mp rx;obtain⟨tx,rfl⟩:∃t,a=RU _ t:=qx;obtain rfl:=aL.mp ry;obtain rfl:b=RB _:=qy;unfold c8;exact⟨QJ.str_bool _ _ _,Qy.str_bool _ _ _,Qx.str_bool _ _ _⟩
  |int y=>
   obtain rfl:=Rep.str_iff.mp rx;obtain⟨tx,rfl⟩:∃t,a=RU _ t:=qx;obtain rfl:=aB.mp ry;obtain⟨ty,rfl⟩:∃t,b=RV _ t:=qy;unfold c8;exact⟨QJ.str_int _ _ _ _,Qy.str_int _ _ _ _,Qx.str_int _ _ _ _⟩
  |str y=>
   obtain rfl:=Rep.str_iff.mp rx;obtain⟨tx,rfl⟩:∃t,a=RU _ t:=qx;obtain rfl:=Rep.str_iff.mp ry;obtain⟨ty,rfl⟩:∃t,b=RU _ t:=qy;unfold c8;exact⟨QJ.str_str _ _ _ _,Qy.str_str _ _ _ _,Qx.str_str _ _ _ _⟩
  |lst y=>
   obtain rfl:=Rep.str_iff.mp rx;obtain⟨tx,rfl⟩:∃t,a=RU _ t:=qx;obtain⟨ly,_,_,rfl,rfl,_,_,_,hy,_⟩:=bc I ry qy;unfold c8;exact⟨QJ.str_list _ _ hy hu,Qy.str_list _ _ hy hu,Qx.str_list _ _ hy hu⟩
  |tup y=>
   obtain rfl:=Rep.str_iff.mp rx;obtain⟨tx,rfl⟩:∃t,a=RU _ t:=qx;obtain⟨ly,_,_,rfl,rfl,_,_,_,hy,_⟩:=bu I ry qy;unfold c8;exact⟨QJ.str_tuple _ _ hy hu,Qy.str_tuple _ _ hy hu,Qx.str_tuple _ _ hy hu⟩
  |dic ks ds=>exact absurd rfl (d2 ks ds)|exc c=>exact absurd rfl (x2 c)|ob k c=>exact absurd rfl (o2 k c)
 |lst x=>
  cases y with
  |non=>
   obtain⟨lx,_,_,rfl,rfl,_,_,_,hx,_⟩:=bc I rx qx;obtain rfl:=aR.mp ry;obtain rfl:b=RA:=qy;unfold c8;exact⟨QJ.list_none  hx hu,Qy.list_none  hx hu,Qx.list_none  hx hu⟩
  |bl y=>
   obtain⟨lx,_,_,rfl,rfl,_,_,_,hx,_⟩:=bc I rx qx;obtain rfl:=aL.mp ry;obtain rfl:b=RB _:=qy;unfold c8;exact⟨QJ.list_bool _ hx hu,Qy.list_bool _ hx hu,Qx.list_bool _ hx hu⟩
  |int y=>
   obtain⟨lx,_,_,rfl,rfl,_,_,_,hx,_⟩:=bc I rx qx;obtain rfl:=aB.mp ry;obtain⟨ty,rfl⟩:∃t,b=RV _ t:=qy;unfold c8;exact⟨QJ.list_int _ _ hx hu,Qy.list_int _ _ hx hu,Qx.list_int _ _ hx hu⟩
  |str y=>
   obtain⟨lx,_,_,rfl,rfl,_,_,_,hx,_⟩:=bc I rx qx;obtain rfl:=Rep.str_iff.mp ry;obtain⟨ty,rfl⟩:∃t,b=RU _ t:=qy;unfold c8;exact⟨QJ.list_str _ _ hx hu,Qy.list_str _ _ hx hu,Qx.list_str _ _ hx hu⟩
  |lst y=>
   exact absurd ⟨rfl,rfl⟩ (n1 x y)
  |tup y=>
   obtain⟨lx,_,_,rfl,rfl,_,_,_,hx,_⟩:=bc I rx qx;obtain⟨ly,_,_,rfl,rfl,_,_,_,hy,_⟩:=bu I ry qy;unfold c8;exact⟨QJ.list_tuple  hx hy hu,Qy.list_tuple  hx hy hu,Qx.list_tuple  hx hy hu⟩
  |dic ks ds=>exact absurd rfl (d2 ks ds)|exc c=>exact absurd rfl (x2 c)|ob k c=>exact absurd rfl (o2 k c)
 |tup x=>
  cases y with
  |non=>
   obtain⟨lx,_,_,rfl,rfl,_,_,_,hx,_⟩:=bu I rx qx;obtain rfl:=aR.mp ry;obtain rfl:b=RA:=qy;unfold c8;exact⟨QJ.tuple_none  hx hu,Qy.tuple_none  hx hu,Qx.tuple_none  hx hu⟩
  |bl y=>
   obtain⟨lx,_,_,rfl,rfl,_,_,_,hx,_⟩:=bu I rx qx;obtain rfl:=aL.mp ry;obtain rfl:b=RB _:=qy;unfold c8;exact⟨QJ.tuple_bool _ hx hu,Qy.tuple_bool _ hx hu,Qx.tuple_bool _ hx hu⟩
  |int y=>
   obtain⟨lx,_,_,rfl,rfl,_,_,_,hx,_⟩:=bu I rx qx;obtain rfl:=aB.mp ry;obtain⟨ty,rfl⟩:∃t,b=RV _ t:=qy;unfold c8;exact⟨QJ.tuple_int _ _ hx hu,Qy.tuple_int _ _ hx hu,Qx.tuple_int _ _ hx hu⟩
  |str y=>
   obtain⟨lx,_,_,rfl,rfl,_,_,_,hx,_⟩:=bu I rx qx;obtain rfl:=Rep.str_iff.mp ry;obtain⟨ty,rfl⟩:∃t,b=RU _ t:=qy;unfold c8;exact⟨QJ.tuple_str _ _ hx hu,Qy.tuple_str _ _ hx hu,Qx.tuple_str _ _ hx hu⟩
  |lst y=>
   obtain⟨lx,_,_,rfl,rfl,_,_,_,hx,_⟩:=bu I rx qx;obtain⟨ly,_,_,rfl,rfl,_,_,_,hy,_⟩:=bc I ry qy;unfold c8;exact⟨QJ.tuple_list  hx hy hu,Qy.tuple_list  hx hy hu,Qx.tuple_list  hx hy hu⟩
  |tup y=>
   exact absurd ⟨rfl,rfl⟩ (n2 x y)
  |dic ks ds=>exact absurd rfl (d2 ks ds)|exc c=>exact absurd rfl (x2 c)|ob k c=>exact absurd rfl (o2 k c)
 |dic ks ds=>exact absurd rfl (d1 ks ds)
 |exc c=>exact absurd rfl (x1 c)
 |ob k c=>exact absurd rfl (o1 k c)
def JP(I:Inv X π σ H s):∀(n:Nat) (A:Q0),A.units+n<TU->∀(x y:D) (v u:V) (a b:P2),bq n x=true->bq n y=true->Rep X.K H x v->Rep X.K H y u->bX v a->bX u b ->
  QJ A s a b (c8 x y)/\Qy A s a b (c8 x y)/\Qx A s a b (!(c8 x y)):=by
 have nd:∀m ks ds,bq m (.dic ks ds)=true->False:=λm ks ds h=>by cases m<;>(unfold bq at h;cases h)
 have nx:∀m x,bq m (.exc x)=true->False:=λm x h=>by cases m<;>(unfold bq at h;cases h)
 have nb:∀m k x,bq m (.ob k x)=true->False:=λm k x h=>by cases m<;>(unfold bq at h;cases h)
 intro n
 induction n with
 |zero=>
  intro A hu x y v u a b sx sy rx ry qa qb;refine xj I (by omega) rx ry qa qb (λds ds' z=>?_) (λds ds' z=>?_) (λks ds z=>?_) (λks ds z=>?_) (λc z=>nx _ _ (z▸sx)) (λc z=>nx _ _ (z▸sy)) (λk c z=>nb _ _ _ (z▸sx)) (λk c z=>nb _ _ _ (z▸sy))
  .rw[z.1]at sx;unfold bq at sx;cases sx
  .rw[z.1]at sx;unfold bq at sx;cases sx
  .rw[z]at sx;exact nd _ _ _ sx
  .rw[z]at sy;exact nd _ _ _ sy
 |succ n ih=>
  intro A hu x y v u a b sx sy rx ry qa qb;have ih':∀(x y:D) (v u:V) (a b:P2),bq n x=true->bq n y=true->Rep X.K H x v->Rep X.K H y u->bX v a->bX u b->Qy A.in1 s a b (c8 x y) :=
   λx y v u a b s1 s2 r1 r2 q1 q2=>(ih A.in1 (by show A.units+1+n<TU;omega) x y v u a b s1 s2 r1 r2 q1 q2).2.1
  by_cases t1:∃ds ds',x=.tup ds/\y=.tup ds'
  .obtain⟨xs,ys,rfl,rfl⟩:=t1
   obtain⟨l,vs,is,rfl,rfl,h1,h2,h3,h4,h5⟩:=bu I rx qa;obtain⟨m,us,js,rfl,rfl,k1,k2,k3,k4,k5⟩:=bu I ry qb;have hsx:=sx;have hsy:=sy;unfold bq at sx sy;have each:=xP (A:=A) ih' sx sy h2 k2 h3 k3;have eall:c8 (.tup xs) (.tup ys)=((QL (min is.toArray.size js.toArray.size)).all (λj=>c8 (xs.getD j .non) (ys.getD j .non))&&is.toArray.size==js.toArray.size):=by
    rw[HD];simp only[Qp,←h5,←k5]
    by_cases hl:xs.length=ys.length
    .rw[kX xs ys hl,←hl,Nat.min_self,beq_self_eq_true,Bool.and_true]
    .rw[sO xs ys hl,beq_eq_false_iff_ne.mpr hl,UR]
   refine⟨?_,?_,?_⟩
   .rw[eall];exact QJ.tuples h4 k4 (by omega) each
   .by_cases hlm:l=m
    .subst hlm
     rw[Rep.inj I (n+1) _ _ _ hsx hsy rx ry,iO (n+1) _ hsy];exact UA _
    .refine T8 hlm ?_
     rw[eall];exact QJ.tuples h4 k4 (by omega) each
   .rw[eall];exact Qx.tuples h4 k4 (by omega) each
  .by_cases t2:∃ds ds',x=.lst ds/\y=.lst ds'
   .obtain⟨xs,ys,rfl,rfl⟩:=t2
    obtain⟨l,vs,is,rfl,rfl,h1,h2,h3,h4,h5⟩:=bc I rx qa;obtain⟨m,us,js,rfl,rfl,k1,k2,k3,k4,k5⟩:=bc I ry qb;have hsx:=sx;have hsy:=sy;unfold bq at sx sy;have each:=xP (A:=A) ih' sx sy h2 k2 h3 k3
    by_cases hl:xs.length=ys.length
    .have hsz:is.toArray.size=js.toArray.size:=by simp only[Qp];omega
     have eall:c8 (.lst xs) (.lst ys)=(QL is.toArray.size).all (λj=>c8 (xs.getD j .non) (ys.getD j .non)):=by
      rw[pY];simp only[Qp,←h5];exact kX xs ys hl
     refine⟨?_,?_,?_⟩
     .rw[eall];exact QJ.lists h4 k4 hsz (by omega) each
     .by_cases hlm:l=m
      .subst hlm
       rw[Rep.inj I (n+1) _ _ _ hsx hsy rx ry,iO (n+1) _ hsy];exact UA _
      .refine T8 hlm ?_
       rw[eall];exact QJ.lists h4 k4 hsz (by omega) each
     .rw[eall];exact Qx.lists h4 k4 hsz (by omega) each
    .have hsz:(is.toArray.size != js.toArray.size)=true:=by simp only[Qp,bne_iff_ne,ne_eq];omega
     have eall:c8 (.lst xs) (.lst ys)=false:=by rw[pY];exact sO xs ys hl
     rw[eall];refine⟨UT h4 k4 hsz (by omega),?_,Qx.lists_lengths h4 k4 hsz (by omega)⟩;refine T8 (λe=>?_) (UT h4 k4 hsz (by omega));subst e;have:=Rep.inj I (n+1) _ _ _ hsx hsy rx ry;cases this;exact hl rfl
   .exact xj I (by omega) rx ry qa qb (λds ds' z=>t2 ⟨ds,ds',z⟩) (λds ds' z=>t1 ⟨ds,ds',z⟩) (λks ds z=>by rw[z]at sx;exact nd _ _ _ sx) (λks ds z=>by rw[z]at sy;exact nd _ _ _ sy) (λc z=>nx _ _ (z▸sx)) (λc z=>nx _ _ (z▸sy)) (λk c z=>nb _ _ _ (z▸sx)) (λk c z=>nb _ _ _ (z▸sy))
end
section
variable {X:Cx}{E:XK}
noncomputable def kH(x y:D):ak D:=if bq 40 x=true/\bq 40 y=true then .ok (.bl (c8 x y)) else .stuck
noncomputable def gS(x y:D):ak D:=if bq 40 x=true/\bq 40 y=true then .ok (.bl (!(c8 x y))) else .stuck
noncomputable def Mf(K:P4):R2:=λv u H Q=>∃x y,Rep K H x v/\Rep K H y u/\bq 40 x=true/\bq 40 y=true/\Q (.bl (c8 x y)) H
noncomputable def Ma(K:P4):R2:=λv u H Q=>∃x y,Rep K H x v/\Rep K H y u/\bq 40 x=true/\bq 40 y=true/\Q (.bl (!(c8 x y))) H
def du(hu:X.A.units+64<TU):fG X (Q5 .Eq) (Mf X.K):=by
 intro π s σ H x y v u Q I rx ry h;obtain⟨d,d',h1,h2,s1,s2,q⟩:=h;exact(JP I 40 X.A (by omega) d d' x y v u s1 s2 h1 h2 rx ry).1 _ _ _ _ ⟨.bl _,H,I,rfl,q⟩
def eA(hu:X.A.units+64<TU):fG X (Q5 .NotEq) (Ma X.K):=by
 intro π s σ H x y v u Q I rx ry h;obtain⟨d,d',h1,h2,s1,s2,q⟩:=h;exact(JP I 40 X.A (by omega) d d' x y v u s1 s2 h1 h2 rx ry).2.2 _ _ _ _ ⟨.bl _,H,I,rfl,q⟩
def e9:wH X.K E (Mf X.K) kH:=by
 intro x y v u H Ha Q hs r1 r2 q;unfold kH at q
 by_cases c:bq 40 x=true/\bq 40 y=true
 .rw[if_pos c]at q
  exact⟨x,y,r1.mono hs,r2.mono hs,c.1,c.2,q _ H Ha (bw.refl hs) (aL.mpr rfl)⟩
 .rw[if_neg c]at q;exact q.elim
def gJ:wH X.K E (Ma X.K) gS:=by
 intro x y v u H Ha Q hs r1 r2 q;unfold gS at q
 by_cases c:bq 40 x=true/\bq 40 y=true
 .rw[if_pos c]at q
  exact⟨x,y,r1.mono hs,r2.mono hs,c.1,c.2,q _ H Ha (bw.refl hs) (aL.mpr rfl)⟩
 .rw[if_neg c]at q;exact q.elim
open Classical in
noncomputable def kr(K:P4) (H:Hp) (ds:ac) (x:D) (u:P2):Bool :=
 if h:∃d,d∈ds/\∃v,Rep K H d v/\bX v u then c8 h.choose x else false
def Bn(I:Inv X π σ H s)(sd:ds.all (bq 40)=true)(hd:d∈ds)(r:Rep X.K H d v)(q:bX v u):kr X.K H ds x u=c8 d x:=by
 have h:∃d,d∈ds/\∃v,Rep X.K H d v/\bX v u:=⟨d,hd,v,r,q⟩
 unfold kr;rw[dif_pos h];obtain⟨h1,v',h2,h3⟩:=h.choose_spec;have e:v'=v:=h3.inj q;subst e;rw[Rep.inj I 40 _ _ _ (QF.mp sd _ h1) (QF.mp sd _ hd) h2 r]
noncomputable def y0(K:P4) (neg:Bool):R2:=λv u H Q=>∃x ds,Rep K H x v/\(Rep K H (.lst ds) u∨Rep K H (.tup ds) u)/\bq 40 x=true/\ds.all (bq 40)=true/\Q (.bl (if neg then !(ds.any λd=>c8 d x) else ds.any λd=>c8 d x)) H
theorem jZ{π:List (P9×Obj)}{σ:L2.St}{H:Hp}{s:Qj}(I:Inv X π σ H s){x:D}{es:ac}(se:es.all (bq 40)=true):∀{ds:ac}{vs:ad}{us:List P2},(∀d∈ds,d∈es)->Reps X.K H ds vs->bA vs us->us.any (kr X.K H es x)=ds.any λd=>c8 d x
 |[],_,_,_,h,q=>by
  rw[Reps.nil_iff.mp h]at q;cases q;rfl
 |d::ds,_,_,hm,h,q=>by
  obtain⟨v,r,rfl,h1,h2⟩:=aM.mp h;cases q with
  |cons q1 q2=>
   rw[Tz,Tz,Bn I se (hm d Qq) h1 q1,jZ I se (λx hx=>hm x (Qi _ hx)) h2 q2]
theorem iP{π:List (P9×Obj)}{σ:L2.St}{H:Hp}{s:Qj}(I:Inv X π σ H s)(hu:X.A.units+64<TU){x:D}{v:V}{u:P2}(sx:bq 40 x=true)(rx:Rep X.K H x v)(qx:bX v u){es:ac}(se:es.all (bq 40)=true):∀{ds:ac}{vs:ad}{us:List P2},(∀d∈ds,d∈es)->Reps X.K H ds vs->bA vs us->∀y∈us,Qy X.A.in1 s y u (kr X.K H es x y)
 |[],_,_,_,h,q=>λy hy=>by
  rw[Reps.nil_iff.mp h]at q;cases q;cases hy
 |d::ds,_,_,hm,h,q=>λy hy=>by
  obtain⟨w,r,rfl,h1,h2⟩:=aM.mp h;cases q with
  |cons q1 q2=>
   rcases Qs.mp hy with rfl|hy
   .rw[Bn I se (hm d Qq) h1 q1]
    exact(JP I 40 X.A.in1 (by show X.A.units+1+40<TU;omega) d x w v _ u (QF.mp se _ (hm d Qq)) sx h1 rx q1 qx).2.1
   .exact iP I hu sx rx qx se (λx hx=>hm x (Qi _ hx)) h2 q2 y hy
def Kb(hu:X.A.units+64<TU):fG X (Q5 .In) (y0 X.K false):=by
 intro π s σ H x y v u Q I rx ry h;obtain⟨d,ds,h1,h2,s1,s2,q⟩:=h;rcases h2 with h2|h2
 .obtain⟨a,vs,its,rfl,rfl,k1,k2,k3,k4,k5⟩:=bc I h2 ry
  refine SeqAt.in_listAt (kr X.K H ds d) k4 (λw hw=>iP I hu s1 h1 rx s2 (λ_ z=>z) k2 k3 w (by simpa using hw)) ⟨.bl _,H,I,rfl,?_⟩;rw[show its.toArray.any (kr X.K H ds d)=its.any (kr X.K H ds d) by simp,jZ I s2 (λ_ z=>z) k2 k3];exact q
 .obtain⟨a,vs,its,rfl,rfl,k1,k2,k3,k4,k5⟩:=bu I h2 ry
  refine SeqAt.in_tupleAt (kr X.K H ds d) k4 (λw hw=>iP I hu s1 h1 rx s2 (λ_ z=>z) k2 k3 w (by simpa using hw)) ⟨.bl _,H,I,rfl,?_⟩;rw[show its.toArray.any (kr X.K H ds d)=its.any (kr X.K H ds d) by simp,jZ I s2 (λ_ z=>z) k2 k3];exact q
def Cc(hu:X.A.units+64<TU):fG X (Q5 .NotIn) (y0 X.K true):=by
 intro π s σ H x y v u Q I rx ry h;obtain⟨d,ds,h1,h2,s1,s2,q⟩:=h;rcases h2 with h2|h2
 .obtain⟨a,vs,its,rfl,rfl,k1,k2,k3,k4,k5⟩:=bc I h2 ry
  refine SeqAt.notIn_listAt (kr X.K H ds d) k4 (λw hw=>iP I hu s1 h1 rx s2 (λ_ z=>z) k2 k3 w (by simpa using hw)) ⟨.bl _,H,I,rfl,?_⟩;rw[show its.toArray.any (kr X.K H ds d)=its.any (kr X.K H ds d) by simp,jZ I s2 (λ_ z=>z) k2 k3];exact q
 .obtain⟨a,vs,its,rfl,rfl,k1,k2,k3,k4,k5⟩:=bu I h2 ry
  refine SeqAt.notIn_tupleAt (kr X.K H ds d) k4 (λw hw=>iP I hu s1 h1 rx s2 (λ_ z=>z) k2 k3 w (by simpa using hw)) ⟨.bl _,H,I,rfl,?_⟩;rw[show its.toArray.any (kr X.K H ds d)=its.any (kr X.K H ds d) by simp,jZ I s2 (λ_ z=>z) k2 k3];exact q
noncomputable def My(i j:Qu):Bool:=!(R9 j i 0 j.length 1).isEmpty
noncomputable def CW(x y:D):Option Bool:=match y with
 |.lst ds=>if bq 40 x=true/\ds.all (bq 40)=true then some (ds.any λd=>c8 d x) else none
 |.tup ds=>if bq 40 x=true/\ds.all (bq 40)=true then some (ds.any λd=>c8 d x) else none
 |.str j=>match x with
  |.str i=>some (My i j)
  |_=>none
 |_=>none
noncomputable def sT(x y:D):ak D:=match CW x y with
 |some b=>.ok (.bl b)
 |none=>.stuck
noncomputable def dy(x y:D):ak D:=match CW x y with
 |some b=>.ok (.bl (!b))
 |none=>.stuck
noncomputable def DK(neg:Bool):R2:=λx y H Q=>∃i j,x=.str i/\y=.str j/\Q (.bl (if neg then !(My i j) else My i j)) H
def uE(hu:X.A.units+64<TU):fG X (Q5 .In) (λv u H Q=>y0 X.K false v u H Q∨DK false v u H Q):=fG.or (Kb hu) (by
 intro π s σ H x y v u Q I rx ry h;obtain⟨i,j,rfl,rfl,q⟩:=h;exact Cd π s σ H _ _ v u Q I rx ry ⟨i,j,rfl,rfl,q⟩)
def iH(hu:X.A.units+64<TU):fG X (Q5 .NotIn) (λv u H Q=>y0 X.K true v u H Q∨DK true v u H Q):=fG.or (Cc hu) (by
 intro π s σ H x y v u Q I rx ry h;obtain⟨i,j,rfl,rfl,q⟩:=h;exact vI π s σ H _ _ v u Q I rx ry ⟨i,j,rfl,rfl,q⟩)
def xF(hs:aG Ha H)(r1:Rep X.K Ha x v)(r2:Rep X.K Ha y u)
  (q:post X.K E H Ha (match CW x y with|some b=>.ok (.bl (if neg then !b else b))|none=>.stuck) Q):y0 X.K neg v u H Q∨DK neg v u H Q:=by
 cases y with
 |lst ds=>
  simp only[CW]at q
  by_cases c:bq 40 x=true/\ds.all (bq 40)=true
  .rw[if_pos c]at q
   exact .inl ⟨x,ds,r1.mono hs,.inl (r2.mono hs),c.1,c.2,q _ H Ha (bw.refl hs) (aL.mpr rfl)⟩
  .rw[if_neg c]at q;exact q.elim
 |tup ds=>
  simp only[CW]at q
  by_cases c:bq 40 x=true/\ds.all (bq 40)=true
  .rw[if_pos c]at q
   exact .inl ⟨x,ds,r1.mono hs,.inr (r2.mono hs),c.1,c.2,q _ H Ha (bw.refl hs) (aL.mpr rfl)⟩
  .rw[if_neg c]at q;exact q.elim
 |str j=>
  cases x with|str i=>exact .inr ⟨i,j,Rep.str_iff.mp r1,Rep.str_iff.mp r2,q _ H Ha (bw.refl hs) (aL.mpr rfl)⟩| _=>exact q.elim
 |_=>exact q.elim
def uF:wH X.K E (λv u H Q=>y0 X.K false v u H Q∨DK false v u H Q) sT:=λx y v u H Ha Q hs r1 r2 q=>xF (neg:=false) (E:=E) hs r1 r2 (by
 unfold sT at q;cases e:CW x y with
 |none=>rw[e]at q;exact q
 |some b=>rw[e]at q;exact q)
def iL:wH X.K E (λv u H Q=>y0 X.K true v u H Q∨DK true v u H Q) dy:=λx y v u H Ha Q hs r1 r2 q=>xF (neg:=true) (E:=E) hs r1 r2 (by
 unfold dy at q;cases e:CW x y with
 |none=>rw[e]at q;exact q
 |some b=>rw[e]at q;exact q)
end
@[irreducible] def B9:Nat:=2 ^ 9000
@[irreducible] def wI:Nat:=2 ^ 13500
@[irreducible] def Af:Nat:=2 ^ 60000
theorem FX:B9=2 ^ 9000:=by unfold B9;rfl
def tY:wI=2 ^ 13500:=by unfold wI;rfl
def tX:Af=2 ^ 60000:=by unfold Af;rfl
def qW(h:n<2 ^ k)(hk:0<k):n.log2<k:=by
 by_cases h0:n=0
 .rw[h0]
  have:Nat.log2 0=0:=by decide
  omega
 .exact(Vz h0).mpr h
def MB(h:y.natAbs<B9):Sh x y=false:=by
 rw[FX]at h;exact PyProof.noPylong_of_log2 (qW h (by omega))
def Kf(h:x.natAbs<wI):Sh x y=false:=by
 rw[tY]at h;have hx:x.natAbs.log2<13500:=qW h (by omega);show(decide ((if y==0 then 0 else y.natAbs.log2 / 30+1) > 300)&&decide ((if x==0 then 0 else x.natAbs.log2 / 30+1) > (if y==0 then 0 else y.natAbs.log2 / 30+1)+150))=false;have k:(if x==0 then 0 else x.natAbs.log2 / 30+1)<=450:=by
  by_cases hx0:(x==0)=true
  .rw[if_pos hx0];omega
  .rw[if_neg hx0];omega
 by_cases c:(if y==0 then 0 else y.natAbs.log2 / 30+1) > 300
 .rw[TX];right;exact decide_eq_false (by omega)
 .rw[TX];left;exact decide_eq_false c
noncomputable def fY(i j:Int):Bool:=decide (j≠0)&&(decide (j.natAbs<B9)||decide (i.natAbs<wI))
noncomputable def eK(i j:Int):Bool:=decide (i.natAbs<Af)&&decide (j.natAbs<Af)
def fY.ok(h:fY i j=true):j≠0/\Sh i j=false:=by
 unfold fY at h;rw[QK,UG]at h;refine⟨of_decide_eq_true h.1,?_⟩;rcases h.2 with h|h
 .exact MB (of_decide_eq_true h)
 .exact Kf (of_decide_eq_true h)
def eK.ok(h:eK i j=true):IntMulOk i j:=by
 unfold eK at h;rw[QK]at h;have h1:=of_decide_eq_true h.1;have h2:=of_decide_eq_true h.2;rw[tX]at h1 h2;exact PyProof.Rows.mulOk_of_bits (m:=60000) (n:=60000) (Vu.mpr h1) (Vu.mpr h2) (by decide)
section
variable {X:Cx}{E:XK}{e a b c:QX}{es:List QX}{f g k:Ev->ak D}{fa:Ev->ak (ac)}{pos:Pos}
def bK{K:P4}(hs:aG Ha H)(q:post K E H Ha (.ok d) Q)(r:Rep K Ha d v):Q v H:=q v H Ha (bw.refl hs) r
noncomputable def xR(c:Int->Int->Bool) (g:Int->Int->D) (x y:D):ak D:=match x,y with
 |.int i,.int j=>if c i j=true then .ok (g i j) else .stuck
 |_,_=>.stuck
def vN{c:Int->Int->Bool}{g:Int->Int->D}(hc:∀i j,c i j=true->C i j)(hg:∀K H i j,Rep K H (g i j) (gv i j)):wH X.K E (rI C gv) (xR c g):=by
 intro x y v u H Ha Q hs r1 r2 q;unfold xR at q;cases x with
 |int i=>
  cases y with
  |int j=>
   by_cases h:c i j=true
   .simp only[if_pos h]at q
    exact⟨i,j,aB.mp r1,aB.mp r2,hc i j h,bK hs q (hg _ _ i j)⟩
   .simp only[if_neg h]at q;exact q.elim
  |_=>exact q.elim
 |_=>exact q.elim
def cV{g:Int->Int->D}(hg:∀K H i j,Rep K H (g i j) (gv i j)):wH X.K E (FZ gv) (xR (λ_ _=>true) g):=by
 intro x y v u H Ha Q hs r1 r2 q;unfold xR at q;cases x with
 |int i=>
  cases y with|int j=>simp only[if_pos]at q;exact⟨i,j,aB.mp r1,aB.mp r2,bK hs q (hg _ _ i j)⟩| _=>exact q.elim
 |_=>exact q.elim
def ri{K:P4}(n:Int):Rep K H (.int n) (.int n):=aB.mpr rfl
def rb{K:P4}(n:Bool):Rep K H (.bl n) (.bl n):=aL.mpr rfl
noncomputable abbrev ku:=xR (λ_ _=>true) λi j=>.int (i-j)
noncomputable abbrev sU:=xR fY λi j=>.int (i.fdiv j)
noncomputable abbrev dz:=xR (λ_ j=>decide (j≠0)) λi j=>.int (i.fmod j)
noncomputable abbrev nW:=xR (λi j=>decide (0<=j)&&decide (j<=1000000)&&decide (i.natAbs<18446744073709551616)) λi j=>.int (i ^ j.toNat)
noncomputable abbrev KZ:=xR (λ_ _=>true) λi j=>.bl (decide (i<j))
noncomputable abbrev K0:=xR (λ_ _=>true) λi j=>.bl (decide (i<=j))
noncomputable abbrev F1:=xR (λ_ _=>true) λi j=>.bl (decide (j<i))
noncomputable abbrev OB:=xR (λ_ _=>true) λi j=>.bl (decide (j<=i))
def G2:fG X (binaryOp .Mult) (rI IntMulOk λi j=>.int (i*j)):=NG λ_ _ _ _ _ _ _ hc q=>mul_int q hc
def G3:fG X (binaryOp .FloorDiv) (rI (λi j=>j≠0/\Sh i j=false) λi j=>.int (i.fdiv j)):=NG λ_ _ _ _ _ _ _ hc q=>floordiv_int hc.1 q (.inl hc.2)
def nS(ha:DE X E a f)(hb:DE X E b g):DE X E (.BinOp a .Sub b pos) (ag f g ku):=uU J9 (cV λ_ _ _ _=>ri _) ha hb
def nU(ha:DE X E a f)(hb:DE X E b g):DE X E (.BinOp a .FloorDiv b pos) (ag f g sU):=uU G3 (vN (λ_ _ h=>fY.ok h) λ_ _ _ _=>ri _) ha hb
def fV(ha:DE X E a f)(hb:DE X E b g):DE X E (.BinOp a .Mod b pos) (ag f g dz):=uU AM (vN (λ_ _ h=>of_decide_eq_true h) λ_ _ _ _=>ri _) ha hb
def wu(ha:DE X E a f)(hb:DE X E b g):DE X E (.BinOp a .Pow b pos) (ag f g nW):=uU Ka (vN (λi j h=>by
 rw[QK,QK]at h;exact⟨of_decide_eq_true h.1.1,of_decide_eq_true h.1.2,of_decide_eq_true h.2⟩) λ_ _ _ _=>ri _) ha hb
def nm{b:QX}(h1:op≠.In:=by decide)(h2:op≠.NotIn:=by decide):behindInMarks op b=false:=Eb _ h1 h2
noncomputable def pA(x:D):ak D:=match x with
 |.int i=>.ok (.int (-i))
 |_=>.stuck
def k7(ha:DE X E a f):DE X E (.UnaryOp .USub a pos) (bV f pA):=Ng Js (by
 intro x v H Ha Q hs r q;cases x with
 |int i=>exact⟨i,aB.mp r,bK hs q (ri _)⟩
 |_=>exact q.elim) ha
def AO:fG X (binaryOp .Add) (λx y H Q=>∃l b xs zs,x=.ref l/\y=.ref b/\fk X.K H l xs/\fk X.K H b zs/\xs.length+zs.length<=sizeLine/\∀p,H p=none->Q (.ref p) (upd H p (.lst (xs++zs)))):=by
 intro π s σ H x y v u Q I rx ry h;obtain⟨l,b,xs,zs,rfl,rfl,hH,hB,hz,q⟩:=h;cases rx;cases ry;obtain⟨its,r,pl,z⟩:=I.list hH;obtain⟨its2,r2,pl2,z2⟩:=I.list hB;obtain⟨⟨cls,dd,data,sl⟩,ho,hc,n,hd⟩:=pl.isList;obtain⟨⟨cls2,dd2,data2,sl2⟩,ho2,hc2,n2,hd2⟩:=pl2.isList;simp only at hc hd hc2 hd2;subst hc hd hc2 hd2;have e:its.toArray++its2.toArray=(its++its2).toArray:=by simp
 have l1:=r.length;have l2:=r2.length;refine concat_meets ⟨_,ho,rfl⟩ ⟨_,ho2,rfl⟩ noFill_list_add seq_list_add PySem.F.slot_list_add PySem.F.entry_list_add (PySem.F.args_list_add_2 _ _) (list_addW l b its.toArray its2.toArray n n2 dd dd2 sl sl2 (by simp only[Qp];omega)) ⟨ho,ho2,?_⟩;rw[e];exact⟨.ref _,_,I.lnew (t':=s.toks) (r.append r2) (by rw[Qz];omega),rfl,q _ I.fresh⟩
noncomputable def cB(x y:D):ak D:=match x,y with
 |.int i,.int j=>.ok (.int (i+j))
 |.str i,.str j=>if i.length+j.length<=line then .ok (.str (i++j)) else .stuck
 |.lst ds,.lst es=>if ds.length+es.length<=line then .ok (.lst (ds++es)) else .stuck
 |.tup ds,.tup es=>if ds.isEmpty=false/\ds.length+es.length<=line then .ok (.tup (ds++es)) else .stuck
 |_,_=>.stuck
def dM(ha:DE X E a f)(hb:DE X E b g):DE X E (.BinOp a .Add b pos) (ag f g cB):=uU (fG.or D8 (fG.or qM (fG.or AO AN))) (by
 intro x y v u H Ha Q hs r1 r2 q;unfold cB at q;cases x with
 |int i=>
  cases y with|int j=>exact .inl ⟨i,j,aB.mp r1,aB.mp r2,bK hs q (ri _)⟩| _=>exact q.elim
 |str i=>
  cases y with
  |str j=>
   by_cases h:i.length+j.length<=line
   .simp only[if_pos h]at q
    exact .inr (.inl ⟨i,j,Rep.str_iff.mp r1,Rep.str_iff.mp r2,dB h,bK hs q (Rep.str_iff.mpr rfl)⟩)
   .simp only[if_neg h]at q;exact q.elim
  |_=>exact q.elim
 |lst ds=>
  cases y with
  |lst es=>
   by_cases h:ds.length+es.length<=line
   .simp only[if_pos h]at q
    obtain⟨l,vs,rfl,h1,h2⟩:=aI.mp r1;obtain⟨m,us,rfl,k1,k2⟩:=aI.mp r2;refine .inr (.inr (.inl ⟨l,m,vs,us,rfl,rfl,aG.sqL hs h1,aG.sqL hs k1,by rw[←h2.length,←k2.length];exact dB h,λp hp=>?_⟩));exact q _ _ _ (bo hs hp) (aI.mpr ⟨p,_,rfl,fk.of aF,(h2.app k2).mono (bo hs hp).z⟩)
   .simp only[if_neg h]at q;exact q.elim
  |_=>exact q.elim
 |tup ds=>
  cases y with
  |tup es=>
   by_cases h:ds.isEmpty=false/\ds.length+es.length<=line
   .simp only[if_pos h]at q
    obtain⟨l,vs,rfl,h1,h2⟩:=aQ.mp r1;obtain⟨m,us,rfl,k1,k2⟩:=aQ.mp r2;refine .inr (.inr (.inr ⟨l,m,vs,us,rfl,rfl,aG.sqT hs h1,aG.sqT hs k1,λz=>?_,by rw[←h2.length,←k2.length];exact dB h.2,λz=>?_,λz p hp=>?_⟩))
    .have:=h2.length
     rw[z]at this;have e:ds=[]:=R6.mp this;rw[e]at h;exact absurd h.1 (by decide)
    .have:=k2.length
     rw[z]at this;have e:es=[]:=R6.mp this;rw[e,QN]at q;exact bK hs q r1
    .exact q _ _ _ (bo hs hp) (aQ.mpr ⟨p,_,rfl,kz.of aF,(h2.app k2).mono (bo hs hp).z⟩)
   .simp only[if_neg h]at q;exact q.elim
  |_=>exact q.elim
 |_=>exact q.elim) ha hb
noncomputable def aO(x y:D):ak D:=match y with
 |.int i=>match x with
  |.lst ds=>match atI ds i with
   |some d=>.ok d
   |none=>.stuck
  |.tup ds=>match atI ds i with
   |some d=>.ok d
   |none=>.stuck
  |.str z=>if z.length<=line then match atI z.cps.toList i with
   |some c=>.ok (.str ⟨#[c]⟩)
   |none=>.stuck else .stuck
  |_=>.stuck
 |_=>.stuck
def Reps.atI{K:P4}(h:Reps K H ds vs)(e:atI ds i=some d):∃v,L2.atI vs i=some v/\Rep K H d v:=by
 unfold L2.atI at e ⊢;rw[←h.length];cases q:uK ds.length i with
 |none=>rw[q]at e;cases e
 |some j=>
  rw[q]at e;exact h.get e
def IG:wH X.K E (O1 X.K) aO:=by
 intro x y v u H Ha Q hs r1 r2 q;unfold aO at q;cases y with
 |int i=>
  cases x with
  |lst ds=>
   obtain⟨l,vs,rfl,h1,h2⟩:=aI.mp r1;cases e:atI ds i with
   |none=>simp only[e]at q;exact q.elim
   |some d=>
    simp only[e]at q;obtain⟨w,e1,e2⟩:=h2.atI e;exact .inl ⟨l,vs,i,w,rfl,aB.mp r2,aG.sqL hs h1,e1,bK hs q e2⟩
  |tup ds=>
   obtain⟨l,vs,rfl,h1,h2⟩:=aQ.mp r1;cases e:atI ds i with
   |none=>simp only[e]at q;exact q.elim
   |some d=>
    simp only[e]at q;obtain⟨w,e1,e2⟩:=h2.atI e;exact .inr (.inl ⟨l,vs,i,w,rfl,aB.mp r2,aG.sqT hs h1,e1,bK hs q e2⟩)
  |str z=>
   by_cases hz:z.length<=line
   .simp only[if_pos hz]at q
    cases e:atI z.cps.toList i with
    |none=>simp only[e]at q;exact q.elim
    |some c=>
     simp only[e]at q;exact .inr (.inr ⟨z,i,c,Rep.str_iff.mp r1,aB.mp r2,dB hz,e,bK hs q (Rep.str_iff.mpr rfl)⟩)
   .simp only[if_neg hz]at q;exact q.elim
  |_=>exact q.elim
 |_=>exact q.elim
def au(ha:DE X E a f)(hb:DE X E b g)(hs:nh b:=by intro _ _;rfl):DE X E (.Subscript a b pos) (ag f g aO):=Ni EH IG ha hb hs
noncomputable def ib:Ev->ak (Option Int):=λ_=>.ok none
noncomputable def gK(f:Ev->ak D):Ev->ak (Option Int):=λρ=>(f ρ).bind λx=>match x with
 |.int i=>.ok (some i)
 |_=>.stuck
noncomputable def Oc(K:P4) (E:XK) (f:Ev->ak (Option Int)):TO:=λσ H Q=>∃Ha ρ,aG Ha H/\Reads K Ha σ ρ/\match f ρ with
 |.ok o=>∀H' Ha',bw H Ha H' Ha'->Q o H'
 |.exn x=>∀C ox H' Ha',bw H Ha H' Ha'->yL K Ha' x C ox->E C ox H'
 |.stuck=>False
structure DO (X:Cx) (E:XK) (e:Option QX) (f:Ev->ak (Option Int)):Prop where
 o:PO X e (Oc X.K E f)
def AF(h:PO X eo t)(w:∀σ H Q,t' σ H Q->t σ H Q):PO X eo t':=λπ s σ H Q I q=>h π s σ H Q I (w σ H Q q)
def wj:DO X E none ib:=⟨AF GU λσ H Q ⟨Ha,ρ,hs,hr,q⟩=>q H Ha (bw.refl hs)⟩
def wg(ha:DE X E a f):DO X E (some a) (gK f):=by
 refine⟨?_⟩;refine AF (GS ha.o) λσ H Q z9=>?_;obtain⟨Ha,ρ,hs,hr,q⟩:=z9;refine⟨Ha,ρ,hs,hr,?_⟩
 unfold gK at q;cases e1:f ρ with
 |stuck|exn x=>rw[e1]at q;exact q
 |ok d=>
  rw[e1]at q;intro v H1 H01 g1 r1;cases d with|int i=>exact⟨i,aB.mp r1,q H1 H01 g1⟩| _=>exact q.elim
noncomputable def wy(xs:ac) (lo hi:Option Int):ac:=(xs.drop (HT.sIx xs.length 0 lo)).take (HT.sIx xs.length xs.length hi-HT.sIx xs.length 0 lo)
def Reps.cut{K:P4}(h:Reps K H ds vs)(lo hi:Option Int):Reps K H (wy ds lo hi) (yw vs lo hi):=by
 unfold wy yw;rw[←h.length];exact(h.drop _).take _
def xa{lo hi:Ev->ak (Option Int)}{m:D->Option Int->Option Int->ak D}
  (ho:∀x v l h H Ha Q,aG Ha H->Rep X.K Ha x v->post X.K E H Ha (m x l h) Q->r v l h H Q)(σ:L2.St)(H:Hp)(Q:VK)
  (h:tD X.K E (λρ=>(f ρ).bind λx=>(lo ρ).bind λl=>(hi ρ).bind λh=>m x l h) σ H Q):OU r (tD X.K E f) (Oc X.K E lo) (Oc X.K E hi) σ H Q:=by
 obtain⟨Ha,ρ,hs,hr,q⟩:=h;refine⟨Ha,ρ,hs,hr,?_⟩;replace q:post X.K E H Ha ((f ρ).bind λx=>(lo ρ).bind λl=>(hi ρ).bind λh=>m x l h) Q:=q;cases e1:f ρ with
 |stuck|exn x=>rw[e1]at q;exact q
 |ok x=>
  rw[e1]at q;intro v H1 H01 g1 r1;refine⟨H01,ρ,g1.sub,hr.mono g1.z,?_⟩;replace q:post X.K E H Ha ((lo ρ).bind λl=>(hi ρ).bind λh=>m x l h) Q:=q;replace q:=q.grow g1;cases e2:lo ρ with
  |stuck|exn x=>rw[e2]at q;exact q
  |ok l=>
   rw[e2]at q;intro H2 H02 g2;refine⟨H02,ρ,g2.sub,(hr.mono g1.z).mono g2.z,?_⟩;replace q:post X.K E H1 H01 ((hi ρ).bind λh=>m x l h) Q:=q;replace q:=q.grow g2;cases e3:hi ρ with
   |stuck|exn x=>rw[e3]at q;exact q
   |ok h=>
    rw[e3]at q;intro H3 H03 g3;exact ho x v l h H3 H03 Q g3.sub ((r1.mono g2.z).mono g3.z) (post.grow (r:=m x l h) q g3)
noncomputable def m1(m:D->ak D) (ds:ac):ak D:=match ds with
 |[x]=>m x
 |_=>.stuck
noncomputable def m2(m:D->D->ak D) (ds:ac):ak D:=match ds with
 |[x,y]=>m x y
 |_=>.stuck
def u6(h:∀x v H Ha Q,aG Ha H->Rep X.K Ha x v->post X.K E H Ha (m x) Q->r [v] H Q):gY X E r (m1 m):=by
 intro ds vs H Ha Q hs hr q;unfold m1 at q
 match ds,hr,q with
 |[x],hr,q=>
  obtain⟨v,r',rfl,h1,h2⟩:=aM.mp hr;rw[Reps.nil_iff.mp h2];exact h x v H Ha Q hs h1 q
 |[],_,q=>exact q.elim
 |_::_::_,_,q=>exact q.elim
def Jg(h:∀x y v u H Ha Q,aG Ha H->Rep X.K Ha x v->Rep X.K Ha y u->post X.K E H Ha (m x y) Q->r [v,u] H Q):gY X E r (m2 m):=by
 intro ds vs H Ha Q hs hr q;unfold m2 at q
 match ds,hr,q with
 |[x,y],hr,q=>
  obtain⟨v,r',rfl,h1,h2⟩:=aM.mp hr;obtain⟨u,r'',rfl,h3,h4⟩:=aM.mp h2;rw[Reps.nil_iff.mp h4];exact h x y v u H Ha Q hs h1 h3 q
 |[],_,q=>exact q.elim
 |[_],_,q=>exact q.elim
 |_::_::_::_,_,q=>exact q.elim
noncomputable def CH(x:D):ak D:=match x with
 |.int i=>.ok (.int (if i<0 then -i else i))
 |_=>.stuck
noncomputable def KY(x y:D):ak D:=match x,y with
 |.int i,.int j=>.ok (.int (if j > i then j else i))
 |_,_=>.stuck
noncomputable def cT(x:D):ak D:=match x with
 |.lst ds=>.ok (.int ds.length)
 |.tup ds=>.ok (.int ds.length)
 |.str z=>if z.length<=line then .ok (.int z.length) else .stuck
 |_=>.stuck
noncomputable def k8(x:D):ak D:=match x with
 |.int i=>.ok (.int i)
 |.bl b=>.ok (.int (if b then 1 else 0))
 |_=>.stuck
noncomputable def uV(x:D):ak D:=match x with
 |.lst ds=>.ok (.lst ds)
 |.tup ds=>.ok (.lst ds)
 |_=>.stuck
def zV:gY X E (λxs H Q=>∃i,xs=[.int i]/\Q (.int (if i<0 then -i else i)) H) (m1 CH):=u6 λx v H Ha Q hs r q=>by
 cases x with|int i=>exact⟨i,by rw[aB.mp r],bK hs q (ri _)⟩| _=>exact q.elim
def K5:gY X E (λxs H Q=>∃i j,xs=[.int i,.int j]/\Q (.int (if j > i then j else i)) H) (m2 KY):=Jg λx y v u H Ha Q hs r r' q=>by
 cases x with
 |int i=>
  cases y with|int j=>exact⟨i,j,by rw[aB.mp r,aB.mp r'],bK hs q (ri _)⟩| _=>exact q.elim
 |_=>exact q.elim
def cH:gY X E (λxs H Q=>∃x n,xs=[x]/\Nw X.K x H n/\Q (.int n) H) (m1 cT):=u6 λx v H Ha Q hs r q=>by
 cases x with
 |lst ds=>
  obtain⟨p,vs,rfl,h1,h2⟩:=aI.mp r;refine⟨_,vs.length,rfl,.inl ⟨vs,aG.sqL hs h1,rfl⟩,?_⟩;rw[←h2.length];exact bK hs q (ri _)
 |tup ds=>
  obtain⟨p,vs,rfl,h1,h2⟩:=aQ.mp r;refine⟨_,vs.length,rfl,.inr ⟨vs,aG.sqT hs h1,rfl⟩,?_⟩;rw[←h2.length];exact bK hs q (ri _)
 |str z=>
  unfold cT at q
  by_cases hz:z.length<=line
  .simp only[if_pos hz]at q
   rw[Rep.str_iff.mp r];exact⟨_,z.length,rfl,⟨dB hz,rfl⟩,bK hs q (ri _)⟩
  .simp only[if_neg hz]at q;exact q.elim
 |_=>exact q.elim
def K7:gY X E (λxs H Q=>(∃i,xs=[.int i]/\Q (.int i) H)∨∃k,xs=[.bl k]/\Q (.int (if k then 1 else 0)) H) (m1 k8):=u6 λx v H Ha Q hs r q=>by
 cases x with|int i=>exact .inl ⟨i,by rw[aB.mp r],bK hs q (ri _)⟩|bl i=>exact .inr ⟨i,by rw[aL.mp r],bK hs q (ri _)⟩| _=>exact q.elim
def Fy(hc:ik X (.type T) r)(hd:gY X E r m)(hg:Gl X x)(hm:X.mg x=none)(hv:bootBuiltins x=some (.type T))(ha:DA X E (e::es) fa)(hn:x≠"__name__":=by decide)(hdb:(x==("__debug__" : Qu))=false:=by decide)
  (he:Qb (e::es) X.env=(false,eval e X.env)::Qb es X.env:=by exact aW rfl)(hpl:(Rg pos (Qb es X.env)).any (·.1)=false:=by exact bH rfl):DE X E (.Call (.Name x p) (e::es) [] pos) (aq fa m) :=
 ⟨bg (uC hc hg hm hv ha.o hn hdb he hpl) (ko hd)⟩
def HQ(hg:Gl X "list")(hm:X.mg "list"=none)(ha:DA X E [x] fa)(he:Qb [x] X.env=(false,eval x X.env)::Qb [] X.env:=by exact aW rfl)(hpl:(Rg pos (Qb [] X.env)).any (·.1)=false:=by exact bH rfl) :
  DF X E (.Call (.Name "list" p) [x] [] pos) (aq fa (m1 uV)):=by
 refine⟨?_⟩;refine bg (uC wz hg hm PyProof.Rows.Boot.«list» ha.o (by decide) (by decide) he hpl) λσ H Q h=>?_;obtain⟨Ha,ρ,hs,hr,q⟩:=h;refine⟨Ha,ρ,hs,hr,?_⟩;unfold aq at q;cases e1:fa ρ with
 |stuck|exn x=>rw[e1]at q;exact q
 |ok ds=>
  rw[e1]at q;intro vs H1 H01 g1 r1;have fin:∀(es:ac) (us:ad) (p:P9),m1 uV ds=.ok (.lst es)->H1 p=none->Reps X.K H01 es us->Q (.ref p) (upd H1 p (.lst us)):=λes us p hm hp hu=>by
   have h0:H01 p=none:=g1.sub.free hp;have q':∀p vs H' Ha',bw H Ha H' Ha'->H p=none->Ha' p=none->H' p=some (.lst vs)->Reps X.K Ha' es vs->Q (.ref p) H':=by
    have q2:match m1 uV ds with
     |.ok (.lst ds)=>∀p vs H' Ha',bw H Ha H' Ha'->H p=none->Ha' p=none->H' p=some (.lst vs)->Reps X.K Ha' ds vs->Q (.ref p) H'
     |.ok _=>False
     |.exn x=>∀C ox H' Ha',bw H Ha H' Ha'->yL X.K Ha' x C ox->E C ox H'
     |.stuck=>False:=q
    rw[hm]at q2;exact q2
   refine q' p us _ H01 (g1.trans ⟨λb o q=>by rw[az (bh q hp)];exact q,aG.refl _,λb o q=>?_,λa h1 h2=>absurd h2 h1⟩) (g1.s.free hp) h0 aF hu;rw[az (by intro z;subst z;rw[h0]at q;cases q)];exact g1.sub _ _ q
  have q2:match m1 uV ds with
     |.ok (.lst ds)=>∀p vs H' Ha',bw H Ha H' Ha'->H p=none->Ha' p=none->H' p=some (.lst vs)->Reps X.K Ha' ds vs->Q (.ref p) H'
     |.ok _=>False
     |.exn x=>∀C ox H' Ha',bw H Ha H' Ha'->yL X.K Ha' x C ox->E C ox H'
     |.stuck=>False:=q
  match ds,r1,q2,fin with
  |[],_,q2,_=>exact q2.elim
  |_::_::_,_,q2,_=>exact q2.elim
  |[x],r1,q2,fin=>
   obtain⟨v,r',rfl,h1,h2⟩:=aM.mp r1;rw[Reps.nil_iff.mp h2];cases x with
   |lst ds=>
    obtain⟨p,vs,rfl,k1,k2⟩:=aI.mp h1;exact⟨p,vs,rfl,.inl (aG.sqL g1.sub k1),λn hn=>fin ds vs n rfl hn k2⟩
   |tup ds=>
    obtain⟨p,vs,rfl,k1,k2⟩:=aQ.mp h1;exact⟨p,vs,rfl,.inr (aG.sqT g1.sub k1),λn hn=>fin ds vs n rfl hn k2⟩
   |_=>exact q2.elim
noncomputable def EJ:D->Bool
 |.non=>true
 |_=>false
noncomputable def uk(x y:D):ak D:=match y with
 |.non=>.ok (.bl (EJ x))
 |_=>.stuck
noncomputable def ij(x y:D):ak D:=match y with
 |.non=>.ok (.bl (!(EJ x)))
 |_=>.stuck
def Rep.is_non{K:P4}(r:Rep K H x v):decide (v=.non)=EJ x:=by
 cases x with|non=>rw[aR.mp r];rfl|bl b=>rw[aL.mp r];rfl|int b=>rw[aB.mp r];rfl|str b=>rw[Rep.str_iff.mp r];rfl|tup ds=>obtain⟨_,_,e,_⟩:=aQ.mp r;rw[e];rfl|lst ds=>obtain⟨_,_,e,_⟩:=aI.mp r;rw[e];rfl|dic ks ds=>rw[Rep]at r;obtain⟨_,_,_,e,_⟩:=r;rw[e];rfl|exc x=>obtain⟨_,_,_,e,_⟩:=o4.mp r;rw[e];rfl|ob k x=>obtain⟨_,_,e,_⟩:=lj.mp r;rw[e];rfl
def zk:wH X.K E (λx y H Q=>y=.non/\Q (.bl (decide (x=.non))) H) uk:=by
 intro x y v u H Ha Q hs r1 r2 q;unfold uk at q;cases y with|non=>exact⟨aR.mp r2,by rw[r1.is_non];exact bK hs q (rb _)⟩| _=>exact q.elim
def pL:wH X.K E (λx y H Q=>y=.non/\Q (.bl (!decide (x=.non))) H) ij:=by
 intro x y v u H Ha Q hs r1 r2 q;unfold ij at q;cases y with
 |non=>
  refine⟨aR.mp r2,?_⟩;rw[r1.is_non];exact bK hs q (rb _)
 |_=>exact q.elim
noncomputable def yJ:D->String
 |.non=>"NoneType"
 |.bl _=>"bool"
 |.int _=>"int"
 |.str _=>"str"
 |.tup _=>"tuple"
 |.lst _=>"list"
 |.dic _ _=>"dict"
 |.exc _=>"<exc>"
 |.ob (.ins _ _) _=>"<exc>"
 |.ob (.dint _) _=>"dict"
 |.ob (.exf _ _) _=>"<exc>"
noncomputable def eC(T:String) (x:D):ak D:=.ok (.bl (yJ x==T||(yJ x=="bool"&&T=="int")))
noncomputable def tV(K:P4) (T:String):Prop:=∀S,S∈["NoneType","bool","int","str","tuple","list","dict"]->W.kitOne K (.type S) (.type T)=some (S==T||(S=="bool"&&T=="int"))
def EI{A:Q0}(I:Inv X π σ H s)(r:Rep X.K H x v)(q:bX v u)(hk:tV X.K T)(hT:T∈gV)(h:∀tk,Q (.bool (yJ x==T||(yJ x=="bool"&&T=="int"))) { s with toks:=tk }) :
  QC (QB X.prog X.w) A (call (.builtin "isinstance") [u,.type T]) Q X.xe s:=by
 cases x with
 |non=>rw[aR.mp r]at q;exact ke I q .non (hk _ (by simp)) h|bl b=>rw[aL.mp r]at q;exact ke I q (.bl b) (hk _ (by simp)) h|int b=>rw[aB.mp r]at q;exact ke I q (.int b) (hk _ (by simp)) h|str b=>rw[Rep.str_iff.mp r]at q;exact ke I q (.str b) (hk _ (by simp)) h
 |tup ds=>
  obtain⟨a,vs,its,rfl,rfl,h1,h2,h3,h4,_⟩:=bu I r q;obtain⟨o,k1,k2,_⟩:=h4;exact RG W.kitx_tuple I.kIn ⟨o,k1,k2⟩ (hk _ (by simp)) (λz=>nomatch z) h
 |lst ds=>
  obtain⟨a,vs,its,rfl,rfl,h1,h2,h3,h4,_⟩:=bc I r q;obtain⟨o,k1,k2,_⟩:=h4;exact RG Vs I.kIn ⟨o,k1,k2⟩ (hk _ (by simp)) (λz=>nomatch z) h
 |dic ks ds=>
  rw[Rep]at r;obtain⟨a,kvs,vs,rfl,h1,h2,_⟩:=r;cases (show u=Q6 a from q);obtain⟨_,_,vs',_,p⟩:=h1.ok I.hok;obtain⟨o,es,ep,k1,k2,_⟩:=p;exact RG Ux I.kIn ⟨o,k1,k2.1⟩ (hk _ (by simp)) (λz=>nomatch z) h
 |exc x=>
  obtain⟨a,C,dc,rfl,hc,h1⟩:=o4.mp r;cases (show u=Q6 a from q);obtain⟨p,_,_⟩:=h1.ok I.hok;have e:(yJ (.exc x)==T||(yJ (.exc x)=="bool"&&T=="int"))=false:=by
   have:∀T∈gV,(yJ (.exc x)==T||(yJ (.exc x)=="bool"&&T=="int"))=false:=by show ∀T∈gV,("<exc>"==T||("<exc>"=="bool"&&T=="int"))=false;decide
   exact this T hT
  rw[e]at h;exact RG (xM hc.ek hc.ek.isCls) I.kIn p (hc.bt T hT) (λz=>nomatch z) h
 |ob k xs=>
  obtain⟨a,vs,rfl,h1,_⟩:=lj.mp r;cases (show u=Q6 a from q);cases k with
  |exf c ks=>
   obtain⟨C,dx,fs,hc,h2,_⟩:=h1;obtain⟨p,_,_⟩:=h2.ok I.hok;have e:(yJ (.ob (.exf c ks) xs)==T||(yJ (.ob (.exf c ks) xs)=="bool"&&T=="int"))=false:=by
    have:∀T∈gV,("<exc>"==T||("<exc>"=="bool"&&T=="int"))=false:=by decide
    exact this T hT
   rw[e]at h;exact RG (xM hc.ek hc.ek.isCls) I.kIn p (hc.bt T hT) (λz=>nomatch z) h
  |ins c ks=>
   obtain⟨C,dx,_,hc,h2,_⟩:=h1;obtain⟨mA,O,_⟩:=A7 I.hok h2;obtain⟨od,O',_⟩:=O.look;have e:(yJ (.ob (.ins c ks) xs)==T||(yJ (.ob (.ins c ks) xs)=="bool"&&T=="int"))=false:=by
    have:∀T∈gV,(yJ (.ob (.ins c ks) xs)==T||(yJ (.ob (.ins c ks) xs)=="bool"&&T=="int"))=false:=by show ∀T∈gV,("<exc>"==T||("<exc>"=="bool"&&T=="int"))=false;decide
    exact this T hT
   rw[e]at h;exact RG (W.kitx_own (hc.cls.get _) hc.cls.hd hc.gc hc.gn hc.tk hc.mo) I.kIn O' (hc.bt T hT) (λz=>nomatch z) h
  |dint ks=>
   obtain⟨kvs,h2,_⟩:=h1;obtain⟨_,_,vs',_,p⟩:=h2.ok I.hok;obtain⟨o,es,ep,k1,k2,_⟩:=p;exact RG Ux I.kIn ⟨o,k1,k2.1⟩ (hk _ (by simp)) (λz=>nomatch z) h
def bU(hk:tV X.K T)(hgi:Gl X "isinstance")(hmi:X.mg "isinstance"=none)(hg:Gl X x)(hm:X.mg x=none)(hv:bootBuiltins x=some (.type T))(ha:DE X E a f)
  (hn:x≠"__name__":=by decide)(hdb:(x==("__debug__" : Qu))=false:=by decide)(hT:T∈gV:=by decide)
  (he:Qb [a,.Name x p2] X.env=(false,eval a X.env)::Qb [.Name x p2] X.env:=by exact aW rfl)(he2:Qb [.Name x p2] X.env=(false,eval (.Name x p2) X.env)::Qb [] X.env:=by exact aW rfl)(hpl:(Rg pos (Qb [.Name x p2] X.env)).any (·.1)=false:=by exact bH rfl) :
  DE X E (.Call (.Name "isinstance" p1) [a,.Name x p2] [] pos) (bV f (eC T)):=by
 refine⟨?_⟩;refine bg (qJ (r:=λvs H Q=>∃d v,vs=[v,.ty T]/\Rep X.K H d v/\Q (.bl (yJ d==T||(yJ d=="bool"&&T=="int"))) H) ?_ hgi hmi PyProof.Rows.Boot.«isinstance» (dQ ha.o (dQ (G0 (v:=.ty T) hg hm hv rfl hn hdb) gH he2) he) (by decide) (by decide) he hpl) λσ H Q ⟨Ha,ρ,hs,hr,q⟩=>⟨Ha,ρ,hs,hr,?_⟩
 .intro π s σ H xs us Q I r h
  obtain⟨d,v,rfl,h1,q⟩:=h;cases r with
  |cons r1 r2=>
   cases r2 with
   |cons r3 r4=>
    cases r4;rename_i u1 u2;obtain rfl:u2=Value.type T:=r3;exact EI I h1 r1 hk hT λtk=>⟨.bl _,H,I.tok _,rfl,q⟩
 .unfold bV at q
  cases e1:f ρ with
  |stuck|exn x=>rw[e1]at q;exact q
  |ok d=>
   rw[e1]at q;intro v H1 H01 g1 r1;exact⟨d,v,rfl,r1.mono g1.sub,q _ H1 H01 g1 (rb _)⟩
end
theorem uT{prog:Ra}{w:Rr}{A:Q0}{E:P2->Qj->Prop}{it t:P9}{items:Array P2}(hne:t≠it):∀(n i:Nat) (s:Qj) (Q:List P2->Qj->Prop),s.heap.IsListIter it t i->s.heap.IsList t items->i+n<=items.size ->
  (∀h',h'.IsListIter it t (i+n)->Us it s.heap h'->Q ((items.toList.drop i).take n) { s with heap:=h' })->QC (QB prog w) A (draw (.ref it) n) Q E s
 |0,i,s,Q,hit,_,_,hQ=>by
  show QC _ _ (pure []) Q E s;exact QH (by simpa using hQ s.heap hit (Us.refl ..))
 |n+1,i,s,Q,hit,ht,hle,hQ=>by
  have hlt:i<items.size:=by omega
  show QC _ _ (pyNext (.ref it) >>= _) Q E s;refine P8 (wpAny_pyNext_list_item hit ht (x:=items[i]) (by simp[hlt]) λhU hit₁ hs₁=>?_);have ht₁:hU.IsList t items:=by
   obtain⟨o,k1,k2⟩:=ht;exact⟨o,(hs₁.2 t hne).trans k1,k2⟩
  refine P8 (Ry (uT hne n (i+1) _ _ hit₁ ht₁ (by omega) λhV hit₂ hs₂=>QH ?_));have hd:items.toList.drop i=items[i]::items.toList.drop (i+1):=by simp[QZ,hlt]
  have:=hQ hV (by rw[show i+(n+1)=i+1+n by omega];exact hit₂) (hs₁.trans hs₂);rw[hd,List.take_succ_cons]at this;exact this
def nr{A:Q0}(hh:A.handled=none)(ht:s.heap.IsList t items)
  (hQ:∀h',Heap.ExtBut s.heap.objs.size s.heap h'->Q items.toList { s with heap:=h' }):QC (QB prog w) A (unpackItems (.ref t) items.size none) Q E s:=by
 have hlt:t≠s.heap.objs.size:=by obtain⟨o,ho,_⟩:=ht;exact QW (Qv ho)
 unfold unpackItems;refine P8 ?_
 .unfold notIterableAtAll
  refine P8 (wpAny_specialOf ht.typeIs slot_list_iter.lookup ?_);refine QH ?_;simp only[Bool.false_eq_true,if_false];refine P8 (Ry (wpAny_pyIter_list ht ?_));have ht0:(s.heap.push { cls:=.type "list_iterator",data:=.fields #[.ref t,.int 0 0] }).IsList t items:=by
   obtain⟨o,k1,k2⟩:=ht;exact⟨o,Qe _ k1,k2⟩
  refine P8 (Ry (uT hlt items.size 0 _ _ ⟨_,Q9 _ rfl,rfl,rfl⟩ ht0 (by omega) λhU hit₁ hs₁=>?_));have hall:List.take items.size (List.drop 0 items.toList)=items.toList:=by
   rw[RK];exact TQ (by simp)
  rw[hall];rw[if_neg (by simp)];have ht₁:hU.IsList t items:=by
   obtain⟨o,k1,k2⟩:=ht0;exact⟨o,(hs₁.2 t hlt).trans k1,k2⟩
  refine P8 (Ry (wpAny_pyNext_list_end hh hit₁ ht₁ (by simp) λhV he₂=>?_));simp only[Option.isSome_none,Bool.false_eq_true,if_false];refine QH (hQ hV λb o hb e=>he₂ b o hb (hs₁.extBut b o hb (Qe _ e)))
noncomputable def yX(σ:L2.St):am->ad->L2.St
 |i::is,v::vs=>yX (σ.set i (some v)) is vs
 |_,_=>σ
noncomputable def dr(ρ:Ev):am->ac->Ev
 |i::is,d::ds=>dr (ρ.set i (.sh d)) is ds
 |_,_=>ρ
theorem eX.putAll{K:P4}{He η Ha H:Hp}:∀{is:am}{ds:ac}{vs:ad}{σ:L2.St}{ρ:Ev},eX K He η Ha σ H ρ->Reps K Ha ds vs->eX K He η Ha (yX σ is vs) H (dr ρ is ds)
 |[],_,_,_,_,h,_=>by unfold yX dr;exact h
 |_::_,[],_,_,_,h,r=>by rw[Reps.nil_iff.mp r];unfold yX dr;exact h
 |i::is,d::ds,_,_,_,h,r=>by
  obtain⟨v,vs,rfl,h1,h2⟩:=aM.mp r;unfold yX dr;exact eX.putAll (h.put h1) h2
section
variable {X:Cx}{E:XK}{He η:Hp}{e a b:QX}{es:List QX}{f g:Ev->ak D}{fa:Ev->ak (ac)}{pos:Pos}{is:am}
noncomputable def Lp(is:am):LF:=λvs σ H Q=>vs.length=is.length/\Q (yX σ is vs) H
def xu(h:CU X es t)(w:∀vs σ H Q,t' vs σ H Q->t vs σ H Q):CU X es t':=λπ s σ H vs us Q I r q=>h π s σ H vs us Q I r (w vs σ H Q q)
def dZ:CU X [] (Lp []):=xu GX λvs σ H Q z9=>by
 obtain⟨h,q⟩:=z9;have e:vs=[]:=R6.mp h;subst e;exact⟨rfl,q⟩
def bE(hN:X.N.Nodup)(hi:X.N[i]?=some x)(hx:CY X.env.scope x)(h:CU X es (Lp is))(hf:X.fn x=true∨X.env.scope.names.lookup x=some .local := by first|exact .inl rfl|exact .inr rfl|assumption)
  (hs:(assignEach (.Name x p::es) X.env).map (·.2)=assign (.Name x p) X.env::(assignEach es X.env).map (·.2):=by rfl):CU X (.Name x p::es) (Lp (i::is)) :=
 xu (D1 (AH hN hi hx hf) h hs) λvs σ H Q z9=>by
  obtain⟨h,q⟩:=z9;cases vs with|nil=>simp at h|cons v vs=>exact⟨v,vs,rfl,by simpa using h,q⟩
def GY(hc:X.calm=true)(h:CU X es t)
  (hn:(assignEach es X.env).length=n:=by rfl)(hst:(assignEach es X.env).findIdx? (·.1)=none:=by rfl):PG X (.Tuple es k pos) (λv σ H Q=>∃a xs,v=.ref a/\fk X.K H a xs/\xs.length=n/\t xs σ H Q):=by
 intro π s σ H v u Q I r hw;obtain⟨a,xs,e1,hq,hl,hw⟩:=hw;subst e1;cases r;obtain⟨its,rv,ht,hz⟩:=I.list hq;rw[assign_Tuple];refine P8 (wpAny_standAt ?_);unfold unpack;rw[hn,hst];have hsz:n=its.toArray.size:=by rw[Qp,←rv.length,hl]
 rw[hsz];refine P8 (Ry (nr (I.ok.hd hc) ht.isList λh' hx=>?_));have I1:Inv X π σ H { s with heap:=h' }:=I.kept (t':=s.toks) λb o e=>hx b o (QW (Qv e)) e;exact h π _ σ H xs _ Q I1 (by simpa using rv) hw
def Mo(h:PG X tgt t)(h':PG X tgt t'):PG X tgt (λv σ H Q=>t v σ H Q∨t' v σ H Q):=λπ s σ H v u Q I r q=>q.elim (h π s σ H v u Q I r) (h' π s σ H v u Q I r)
def D2(hc:X.calm=true)(h:CU X es (Lp is))(hn:(assignEach es X.env).length=is.length:=by rfl)(hst:(assignEach es X.env).findIdx? (·.1)=none:=by rfl) :
  PG X (.Tuple es k pos) (λv σ H Q=>∃a xs,v=.ref a/\(kz X.K H a xs∨fk X.K H a xs)/\xs.length=is.length/\Q (yX σ is xs) H) :=
 vG (Mo (JX hc h hn hst) (GY hc h hn hst)) λv σ H Q ⟨a,xs,e,hq,hl,q⟩=>hq.elim (λz=>.inl ⟨a,xs,e,z,hl,hl,q⟩) λz=>.inr ⟨a,xs,e,z,hl,hl,q⟩
noncomputable def gf(n:Nat) (d:D):Option (ac):=match d with
 |.tup ds=>if ds.length=n then some ds else none
 |.lst ds=>if ds.length=n then some ds else none
 |_=>none
def oo{K:P4}(h:gf n d=some ds)(r:Rep K H d v):∃a vs,v=.ref a/\(kz K H a vs∨fk K H a vs)/\vs.length=n/\Reps K H ds vs:=by
 unfold gf at h;cases d with
 |tup es=>
  by_cases c:es.length=n
  .simp only[if_pos c]at h;cases h
   obtain⟨a,vs,rfl,h1,h2⟩:=aQ.mp r;exact⟨a,vs,rfl,.inl h1,by rw[←h2.length];exact c,h2⟩
  .simp only[if_neg c]at h;cases h
 |lst es=>
  by_cases c:es.length=n
  .simp only[if_pos c]at h;cases h
   obtain⟨a,vs,rfl,h1,h2⟩:=aI.mp r;exact⟨a,vs,rfl,.inr h1,by rw[←h2.length];exact c,h2⟩
  .simp only[if_neg c]at h;cases h
 |_=>cases h
def xg{K:P4}{a:P9}(hs:aG H H')(h:kz K H a vs∨fk K H a vs):kz K H' a vs∨fk K H' a vs:=h.elim (λz=>.inl (aG.sqT hs z)) λz=>.inr (aG.sqL hs z)
noncomputable def dw(is:am):Ev->D->ak Ev:=λρ d=>match gf is.length d with
 |some ds=>.ok (dr ρ is ds)
 |none=>.stuck
def fq:vj (dw is):=λρ d=>by
 unfold dw;cases gf is.length d with|none=>exact .inl rfl|some ds=>exact .inr ⟨_,rfl⟩
def fU(hc:X.calm=true)(h:CU X es (Lp is))(hn:(assignEach es X.env).length=is.length:=by rfl)(hst:(assignEach es X.env).findIdx? (·.1)=none:=by rfl):DG X E He η (.Tuple es k pos) (dw is) :=
 ⟨vG (D2 hc h hn hst) λv σ H Q z9=>by
  obtain⟨Ha,ρ,d,h,rp,q⟩:=z9;unfold dw at q;cases e1:gf is.length d with
  |none=>rw[e1]at q;exact q.elim
  |some ds=>
   rw[e1]at q;obtain⟨a,vs,rfl,k1,k2,k3⟩:=oo e1 rp;exact⟨a,vs,rfl,xg h.g.sub k1,k2,q _ H Ha (aG.refl _) (h.putAll k3)⟩⟩
noncomputable def uc(i j:Nat) (fa:Ev->ak (ac)):Ev->ak Fl:=λρ=>(fa ρ).bind λds=>match ds with
 |[x,y]=>.ok (.nx ((ρ.set i (.sh x)).set j (.sh y)))
 |_=>.stuck
def KN{px py pt pt2:Pos}{kt k2}(hc:X.calm=true)(hN:X.N.Nodup)(hi:X.N[i]?=some x)(hj:X.N[j]?=some y)(hij:i≠j)
  (hx:X.env.scope.names.lookup x=some .local)(hy:X.env.scope.names.lookup y=some .local)(ha:DA X E [a,b] fa)
  (hw:swappedStores [.Tuple [.Name x px,.Name y py] kt pt] (.Tuple [a,b] k2 pt2) X.env=pure (some [x,y]))
  (hs:swapsWithSole [.Tuple [.Name x px,.Name y py] kt pt] (.Tuple [a,b] k2 pt2) pos.line X.env=pure false:=by rfl) :
  DS X E He η (.Assign [.Tuple [.Name x px,.Name y py] kt pt] (.Tuple [a,b] k2 pt2) pos) (uc i j fa):=by
 refine⟨?_⟩;refine bO (JU hc hN hi hj hij hx hy ha.o hw hs) λD σ H z9=>?_;obtain⟨Ha,ρ,h,q⟩:=z9;refine⟨Ha,ρ,h.g.sub,h.rd,?_⟩
 unfold uc at q;cases e1:fa ρ with
 |stuck=>rw[e1]at q;exact q|exn x=>rw[e1]at q;exact λC ox H' Ha' g ex=>q C ox H' Ha' (h.g.trans g) ex
 |ok ds=>
  rw[e1]at q;intro vs H1 H01 g1 r1
  match ds,r1,q with
  |[x,y],r1,q=>
   obtain⟨v,r',rfl,h1,h2⟩:=aM.mp r1;obtain⟨u,r'',rfl,h3,h4⟩:=aM.mp h2;rw[Reps.nil_iff.mp h4];exact⟨v,u,rfl,q _ H1 H01 g1.z (((h.grow g1).put h1).put h3)⟩
  |[],_,q=>exact q.elim
  |[_],_,q=>exact q.elim
  |_::_::_::_,_,q=>exact q.elim
end
def rg{K:P4}:tV K "int":=by
 intro S hS;simp only[Qs,S8,or_false]at hS;rcases hS with rfl|rfl|rfl|rfl|rfl|rfl|rfl<;>first|rfl|decide +kernel
def oH{K:P4}:tV K "bool":=by
 intro S hS;simp only[Qs,S8,or_false]at hS;rcases hS with rfl|rfl|rfl|rfl|rfl|rfl|rfl<;>first|rfl|decide +kernel
def rf{K:P4}:tV K "str":=by
 intro S hS;simp only[Qs,S8,or_false]at hS;rcases hS with rfl|rfl|rfl|rfl|rfl|rfl|rfl<;>first|rfl|decide +kernel
def eP{K:P4}:tV K "tuple":=by
 intro S hS;simp only[Qs,S8,or_false]at hS;rcases hS with rfl|rfl|rfl|rfl|rfl|rfl|rfl<;>first|rfl|decide +kernel
def dG{K:P4}:tV K "list":=by
 intro S hS;simp only[Qs,S8,or_false]at hS;rcases hS with rfl|rfl|rfl|rfl|rfl|rfl|rfl<;>first|rfl|decide +kernel
section
variable {X:Cx}{E:XK}{He η:Hp}{e a b c:QX}{f g h:Ev->ak D}{pos:Pos}
def dv(i:Nat)(hN:X.N[i]?=some x:=by rfl)(hv:yK X.env.scope x:=by first|exact Qd rfl|exact UK (Qd rfl)|exact UK (UK rfl))(hd:(x==("__debug__" : Qu))=false:=by decide)
  (hcd:(x==("__classdict__" : Qu))=false:=by decide):DE X E (.Name x pos) (ae i):=KU hN hv hd hcd
noncomputable def uo(K:P4) (mg:Qu->Option P2) (x:Qu) (d:D):Prop:=∃v u,mg x=some u/\bX v u/\∀H,Rep K H d v
def bf(k:uo X.K X.mg x d)(hg:Gl X x)(hd:(x==("__debug__" : Qu))=false:=by decide):DE X E (.Name x pos) (dC d):=by
 obtain⟨v,u,h1,h2,h3⟩:=k;exact HU hg h1 h2 h3 hd
def dX{K:P4}(h:mg x=some (.int i t)):uo K mg x (.int i):=⟨.int i,_,h,⟨t,rfl⟩,λ_=>ri _⟩
def Hr{K:P4}(h:mg x=some (.str i t)):uo K mg x (.str i):=⟨.str i,_,h,⟨t,rfl⟩,λ_=>Rep.str_iff.mpr rfl⟩
def vV{K:P4}{a:P9}(h:mg x=some (.ref a))(l:K.lookup a=some ⟨.type "tuple",od,.seq its n,sl⟩)
  (hv:bA vs its.toList)(hz:its.size<=sizeLine)(hd:∀H,Reps K H ds vs):uo K mg x (.tup ds):=⟨.ref a,_,h,rfl,λH=>aQ.mpr ⟨a,vs,rfl,.inr ⟨_,its,n,l,rfl,rfl,hz,hv⟩,hd H⟩⟩
noncomputable def iA(op op':D->D->ak D) (f g h:Ev->ak D):Ev->ak D:=λρ=>(f ρ).bind λx=>(g ρ).bind λy=>(op x y).bind λz=>match z with
 |.bl true=>(h ρ).bind λw=>op' y w
 |.bl false=>.ok (.bl false)
 |_=>.stuck
noncomputable def tR(r:R2) (o:D->D->ak D):Prop:=∀(K:P4) (x y:D) (v u:V) (H Ha:Hp) (Q:VK) (d:D),aG Ha H->Rep K Ha x v->Rep K Ha y u->o x y=.ok d->(∀w,Rep K Ha d w->Q w H)->r v u H Q
def gs{g:Int->Int->D}(hg:∀K H i j,Rep K H (g i j) (gv i j)):tR (FZ gv) (xR (λ_ _=>true) g):=by
 intro K x y v u H Ha Q d hs r1 r2 e q;unfold xR at e;cases x with
 |int i=>
  cases y with|int j=>simp only[if_pos]at e;cases e;exact⟨i,j,aB.mp r1,aB.mp r2,q _ (hg _ _ i j)⟩| _=>cases e
 |_=>cases e
noncomputable def tT(o:D->D->ak D):Prop:=∀x y,∀z,o x y≠.exn z
def oQ(p:tR r o)(p':tR r' o')(n:tT o)(n':tT o')(σ:L2.St)(H:Hp)(Q:VK)(q:tD X.K E (iA o o' f g h) σ H Q) :
  yT r r' (tD X.K E f) (tD X.K E g) (tD X.K E h) σ H Q:=by
 obtain⟨Ha,ρ,hs,hr,q⟩:=q;refine⟨Ha,ρ,hs,hr,?_⟩;unfold iA at q;cases e1:f ρ with
 |stuck|exn x=>rw[e1]at q;exact q
 |ok x=>
  rw[e1]at q;intro v H1 H01 g1 r1;refine⟨H01,ρ,g1.sub,hr.mono g1.z,?_⟩;replace q:=post.grow (r:=(g ρ).bind λy=>(o x y).bind λz=>match z with
   |.bl true=>(h ρ).bind λw=>o' y w
   |.bl false=>.ok (.bl false)
   |_=>.stuck) q g1
  cases e2:g ρ with
  |stuck|exn x=>rw[e2]at q;exact q
  |ok y=>
   rw[e2]at q;intro u H2 H02 g2 r2;replace q:=post.grow (r:=(o x y).bind λz=>match z with
    |.bl true=>(h ρ).bind λw=>o' y w
    |.bl false=>.ok (.bl false)
    |_=>.stuck) q g2
   cases e3:o x y with
   |stuck=>rw[e3]at q;exact q.elim|exn z=>exact absurd e3 (n x y z)
   |ok z=>
    rw[e3]at q;refine p X.K x y v u H2 H02 _ z g2.sub (r1.mono g2.z) r2 e3 λw rw'=>?_;cases z with
    |bl b=>
     rw[aL.mp rw'];refine⟨b,rfl,?_⟩;cases b with
     |false=>rw[if_neg Ru];exact q _ H2 H02 (bw.refl g2.sub) (rb _)
     |true=>
      rw[if_pos rfl];refine⟨H02,ρ,g2.sub,(hr.mono g1.z).mono g2.z,?_⟩;replace q:post X.K E H2 H02 ((h ρ).bind λw=>o' y w) Q:=q;cases e4:h ρ with
      |stuck|exn x=>rw[e4]at q;exact q
      |ok w2=>
       rw[e4]at q;intro v3 H3 H03 g3 r3;replace q:=post.grow (r:=o' y w2) q g3;cases e5:o' y w2 with
       |stuck=>rw[e5]at q;exact q.elim|exn z=>exact absurd e5 (n' y w2 z)
       |ok d=>
        rw[e5]at q;exact p' X.K y w2 u v3 H3 H03 Q d g3.sub (r2.mono g3.z) r3 e5 λw3 r5=>q w3 H3 H03 (bw.refl g3.sub) r5
    |_=>exact q.elim
def Fx(ho:fG X (Q5 op) r)(ho':fG X (Q5 op') r')(p:tR r o)(p':tR r' o')(n:tT o)(n':tT o')(ha:DE X E a f)(hb:DE X E b g)(hc:DE X E c h)
  (hm:lastMarks [op,op'] [b,c]=false:=by with_unfolding_all rfl):DE X E (.Compare a [op,op'] [b,c] pos) (iA o o' f g h):=⟨bg (D4 ho ho' ha.o hb.o hc.o hm) (oQ p p' n n')⟩
def yt(ho:fG X (Q5 op) r)(ho':fG X (Q5 op') r')(p:tR r o)(p':tR r' o')(n:tT o)(n':tT o')(ha:DE X E a f)(hb:DE X E b g)(hc:DE X E c h)
  (hm:lastMarks [op,op'] [b,c]=false:=by with_unfolding_all rfl):DT X E (.Compare a [op,op'] [b,c] pos) (iA o o' f g h):=by
 refine⟨?_⟩;refine gb (DX ho ho' ha.o hb.o hc.o hm) λσ H Q q=>?_;have w:tD X.K E (iA o o' f g h) σ H λx H'=>∃k,x=.bl k/\Q k H':=by
  obtain⟨Ha,ρ,hs,hr,q⟩:=q;refine⟨Ha,ρ,hs,hr,?_⟩;cases e1:iA o o' f g h ρ with
  |stuck|exn x=>rw[e1]at q;exact q
  |ok d=>
   rw[e1]at q;intro v H1 H01 g1 r1;cases d with|bl b=>rw[aL.mp r1];exact⟨b,rfl,q H1 H01 g1⟩| _=>exact q.elim
 exact oQ p p' n n' σ H _ w
def gu{c:Int->Int->Bool}{g:Int->Int->D}:tT (xR c g):=by
 intro x y z;unfold xR;cases x<;>cases y<;>simp<;>split<;>simp
end
noncomputable def kf(i:Nat):Ev->Nat:=λρ=>match ρ[i]? with
 |some (.sh (.int j))=>j.natAbs+1
 |_=>0
section
variable {X:Cx}{E:XK}{a b:QX}{f g:Ev->ak D}{pos:Pos}
noncomputable def b3(x y:D):ak D:=match x,y with
 |.int i,.int j=>if eK i j=true then .ok (.int (i*j)) else .stuck
 |_,_=>.stuck
def cp(ha:DE X E a f)(hb:DE X E b g):DE X E (.BinOp a .Mult b pos) (ag f g b3):=uU G2 (by
 intro x y v u H Ha Q hs r1 r2 q;unfold b3 at q;cases x with
 |int i=>
  cases y with
  |int j=>
   by_cases h:eK i j=true
   .simp only[if_pos h]at q
    exact⟨i,j,aB.mp r1,aB.mp r2,eK.ok h,bK hs q (ri _)⟩
   .simp only[if_neg h]at q;exact q.elim
  |_=>exact q.elim
 |_=>exact q.elim) ha hb
end
noncomputable def KC(K:P4) (tg:Ev->D->ak Ev):TG:=λv σ H Q=>∃He η,tG K He η tg v σ H Q
noncomputable def ip:ac->Option (al)
 |[]=>some []
 |.str x::r=>(ip r).map (x::·)
 |_=>none
theorem wY{K:P4}{H:Hp}:∀{ds:ac}{ys:al}{vs:ad}{us:List P2},ip ds=some ys->Reps K H ds vs->bA vs us->StrsAre us ys
 |[],ys,vs,us,h,r,q=>by
  cases h;rw[Reps.nil_iff.mp r]at q;cases q;exact .nil
 |d::ds,ys,vs,us,h,r,q=>by
  obtain⟨v,r',rfl,h1,h2⟩:=aM.mp r;cases q with
  |cons q1 q2=>
   cases d with
   |str x=>
    unfold ip at h;cases e:ip ds with
    |none=>rw[e]at h;cases h
    |some zs=>
     rw[e]at h;cases h;rw[Rep.str_iff.mp h1]at q1;obtain⟨t,rfl⟩:=q1;exact .cons _ _ (wY e h2 q2)
   |_=>cases h
section
variable {X:Cx}{E:XK}{o e:QX}{fo:Ev->ak D}{fa:Ev->ak (ac)}
noncomputable def ie(z:Qu) (ys:al):Bool:=decide (z.length<=16)&&decide ((ys.map (·.length)).sum+ys.length<=1048576)
noncomputable def Mb(K:P4):V->ad->Hp->VK->Prop:=λx xs H Q=>∃z p ds ys,x=.str z/\xs=[.ref p]/\Rep K H (.lst ds) (.ref p)/\ip ds=some ys/\ie z ys=true/\Q (.str (UJ z ys)) H
def Hg:OL X "str.join" (Mb X.K):=by
 intro π s σ H x xs v us Q I rx rs h;obtain⟨z,p,ds,ys,rfl,rfl,hr,hy,hf,q⟩:=h;obtain⟨t,rfl⟩:=rx;obtain⟨u,rfl,ru⟩:=rs.one;obtain⟨a,vs,its,ea,rfl,h1,h2,h3,h4,_⟩:=bc I hr ru;unfold ie at hf;rw[QK]at hf;exact join_listW h4 (by simpa using wY hy h2 h3) (of_decide_eq_true hf.1) (of_decide_eq_true hf.2) λt' k=>⟨.str (UJ z ys),H,I.tok _,⟨_,rfl⟩,q⟩
noncomputable def lL(z:Qu) (xs:ac):ak D:=match xs with
 |[.lst ds]=>match ip ds with
  |some ys=>if ie z ys=true then .ok (.str (UJ z ys)) else .stuck
  |none=>.stuck
 |_=>.stuck
noncomputable def uW(fo:Ev->ak D) (fa:Ev->ak (ac)):Ev->ak D:=λρ=>(fo ρ).bind λx=>match x with
 |.str z=>(fa ρ).bind λxs=>lL z xs
 |_=>.stuck
def HS(ho:DE X E o fo)(ha:DA X E [e] fa)
  (hbase:Sz o "join" X.env (eval o X.env)=eval o X.env:=by rfl)
  (hfew:((Rg cpos (Qb [e] X.env)).all (λx=>!x.1)&&(TJ cpos (Sj [] X.env)).all (λx=>x.1.isSome)
  &&decide ([e].length+([]:List Te).length+(if([]:List Te).isEmpty then 0 else 1)<30))=true:=by exact lP rfl)
  (hline:(apos.endLine==cpos.line)=true:=by rfl) (hs:Qb [e] X.env=(false,eval e X.env)::Qb [] X.env:=by exact aW rfl) (hplain:(Rg cpos (Qb [] X.env)).any (·.1)=false:=by exact bH rfl) :
  DE X E (.Call (.Attribute o "join" apos) [e] [] cpos) (uW fo fa):=by
 refine⟨?_⟩;refine bg (AJ PySem.F.plainAttrs_str PySem.F.slot_str_join PySem.F.type_str_join Hg ho.o ha.o hbase hfew hline hs hplain) λσ H Q z9=>?_;obtain⟨Ha,ρ,hs,hr,q⟩:=z9;refine⟨Ha,ρ,hs,hr,?_⟩
 unfold uW at q;cases e1:fo ρ with
 |stuck|exn x=>rw[e1]at q;exact q
 |ok x=>
  rw[e1]at q;intro v H1 H01 g1 r1;cases x with
  |str z=>
   rw[Rep.str_iff.mp r1];refine⟨rfl,H01,ρ,g1.sub,hr.mono g1.z,?_⟩;replace q:=post.grow (r:=(fa ρ).bind λxs=>lL z xs) q g1;cases e2:fa ρ with
   |stuck|exn x=>rw[e2]at q;exact q
   |ok xs=>
    rw[e2]at q;intro us H2 H02 g2 r2;replace q:=post.grow (r:=lL z xs) q g2;unfold lL at q
    match xs,r2,q with
    |[.lst ds],r2,q=>
     obtain⟨w,r',rfl,k1,k2⟩:=aM.mp r2;rw[Reps.nil_iff.mp k2];obtain⟨p,vs,rfl,k3,k4⟩:=aI.mp k1;cases e3:ip ds with
     |none=>simp only[e3]at q;exact q.elim
     |some ys=>
      simp only[e3]at q
      by_cases c:ie z ys=true
      .rw[if_pos c]at q
       exact⟨z,p,ds,ys,rfl,rfl,k1.mono g2.sub,e3,c,bK g2.sub q (Rep.str_iff.mpr rfl)⟩
      .rw[if_neg c]at q;exact q.elim
    |[],_,q=>exact q.elim
    |d1::_::_,_,q=>cases d1<;>exact Rn q
    |[.non],_,q=>exact q.elim
    |[.bl _],_,q=>exact q.elim
    |[.int _],_,q=>exact q.elim
    |[.str _],_,q=>exact q.elim
    |[.tup _],_,q=>exact q.elim
    |[.dic _ _],_,q=>exact q.elim
    |[.exc _],_,q=>exact q.elim
    |[.ob _ _],_,q=>exact q.elim
  |_=>exact q.elim
end
section
variable {X:Cx}{E:XK}{a:QX}{f:Ev->ak D}{pos:Pos}
noncomputable def Oi:V->Option Int->Option Int->Hp->VK->Prop:=λx lo hi H Q=>∃z,x=.str z/\z.length<=sizeLine/\Q (.str (U4 z lo hi)) H
def Jy:F2 X Oi:=by
 intro π s σ H x v vl vu lo hi sl Q I rx hs pl pu h;obtain⟨z,rfl,hz,q⟩:=h;obtain⟨t,rfl⟩:=rx;have fin:∀t' k,EP X π σ Q (.str (U4 z lo hi) t') { s with toks:=k }:=λt' k=>⟨.str (U4 z lo hi),H,I.tok _,⟨_,rfl⟩,q⟩
 refine⟨"str",_,PySem.F.slot_str_getitem.lookup,typeIs_str s z t,?_⟩;cases pl with
 |none=>
  cases pu with|none=>exact wpAny_getItem_str_slice (l:=none) (u:=none) (st:=none) hs rfl (post_val_or_str ⟨QM (Uh z _ _) hz,fin⟩)|int j uj=>exact wpAny_getItem_str_slice (l:=none) (u:=some (j,uj)) (st:=none) hs rfl (post_val_or_str ⟨QM (Uh z _ _) hz,fin⟩)
 |int i ui=>
  cases pu with|none=>exact wpAny_getItem_str_slice (l:=some (i,ui)) (u:=none) (st:=none) hs rfl (post_val_or_str ⟨QM (Uh z _ _) hz,fin⟩)|int j uj=>exact wpAny_getItem_str_slice (l:=some (i,ui)) (u:=some (j,uj)) (st:=none) hs rfl (post_val_or_str ⟨QM (Uh z _ _) hz,fin⟩)
noncomputable def qo(x:D) (l h:Option Int):ak D:=match x with
 |.lst ds=>.ok (.lst (wy ds l h))
 |.str z=>if z.length<=line then .ok (.str (U4 z l h)) else .stuck
 |.tup ds=>if HT.sIx ds.length 0 l=0/\HT.sIx ds.length ds.length h=ds.length then .stuck else .ok (.tup (wy ds l h))
 |_=>.stuck
noncomputable def HX(f:Ev->ak D) (lo hi:Ev->ak (Option Int)):Ev->ak D:=λρ=>(f ρ).bind λx=>(lo ρ).bind λl=>(hi ρ).bind λh=>qo x l h
def CF{lo hi:Option QX}(ha:DE X E a f)(hl:DO X E lo fl)(hh:DO X E hi fh):DE X E (.Subscript a (.Slice lo hi none p2) pos) (HX f fl fh) :=
 ⟨bg (xw (F2.or As (F2.or Jy Jx)) ha.o hl.o hh.o) (xa (m:=qo) λx v l h H Ha Q hs r q=>by
  cases x with
  |lst ds=>
   obtain⟨p,vs,rfl,h1,h2⟩:=aI.mp r;exact .inl ⟨p,vs,rfl,aG.sqL hs h1,λn hn=>q _ _ _ (bo hs hn) (aI.mpr ⟨n,_,rfl,fk.of aF,(h2.cut l h).mono (bo hs hn).z⟩)⟩
  |str z=>
   unfold qo at q
   by_cases c:z.length<=line
   .simp only[if_pos c]at q
    exact .inr (.inl ⟨z,Rep.str_iff.mp r,dB c,bK hs q (Rep.str_iff.mpr rfl)⟩)
   .simp only[if_neg c]at q;exact q.elim
  |tup ds=>
   unfold qo at q
   by_cases c:HT.sIx ds.length 0 l=0/\HT.sIx ds.length ds.length h=ds.length
   .simp only[if_pos c]at q;exact q.elim
   .simp only[if_neg c]at q
    obtain⟨p,vs,rfl,h1,h2⟩:=aQ.mp r;exact .inr (.inr ⟨p,vs,rfl,aG.sqT hs h1,by rw[←h2.length];exact c,λn hn=>q _ _ _ (bo hs hn) (aQ.mpr ⟨n,_,rfl,kz.of aF,(h2.cut l h).mono (bo hs hn).z⟩)⟩)
  |_=>exact q.elim)⟩
end
noncomputable def OP(z:Qu):It:=⟨λi _=>i<z.cps.size,λi H x H'=>H'=H/\∃c,z.cps[i]?=some c/\x=.str ⟨#[c]⟩,λi _=>z.cps.size<=i⟩
def yS{P:Ra}{w:Rr}{K:P4}{tg:QX}(z:Qu)(t:Tok)(it:P9):Aa P w K tg (OP z) [it] it (λi h=>h.IsStrIter it "str_ascii_iterator" z t i) where
 mem:=by simp
 obj:=λi h st b hb=>by
  have e:b=it:=by simpa using hb
  subst e;obtain⟨o,e,c,d⟩:=st;exact⟨o,e,λv z=>by rw[d]at z;cases z⟩
 keep:=λi h h' st k=>let ⟨o,ho,r⟩:=st;⟨o,k it (by simp) o ho,r⟩
 item:=by
  intro X hP hw hK hc i π s σ H E I hf st hg;subst hP hw hK;have hg':i<z.cps.size:=hg;obtain⟨f0,f1,f2,f3,f4,f5⟩:=hf it (by simp);refine wpAny_pyNext_ascii_item st (c:=z.cps[i]) (by simp[hg']) λh' st' sb=>?_;have I1:Inv X π σ H { s with heap:=h',toks:=s.toks+1 }:=I.turned (t':=s.toks+1) (λb o hb e=>(sb.2 b hb).trans e) f0 f1 f3 f4 f5;obtain⟨o,e,c,d⟩:=id st';exact⟨_,rfl,xT (s:={ s with heap:=h',toks:=s.toks+1 }) e c d (by decide) ⟨.str ⟨#[z.cps[i]]⟩,H,I1,⟨_,rfl⟩,⟨rfl,_,by simp[hg'],rfl⟩,st',λb hb=>(hf b hb).1⟩⟩
 done:=by
  intro X hP hw hK hc i π s σ H E I hf st hg;subst hP hw hK;have hg':z.cps.size<=i:=hg;obtain⟨f0,f1,f2,f3,f4,f5⟩:=hf it (by simp);exact wpAny_pyNext_ascii_end (I.ok.hd hc) st (by simp[hg']) λh' eb=>⟨rfl,I.turned (t':=s.toks) (λb o hb e=>eb b o hb e) f0 f1 f3 f4 f5⟩
 self:=λ_ _ _ _ _ st h=>wpAny_pyIter_striter_ascii st h
def BZ{P:Ra}{w:Rr}{K:P4}{tg:QX}(z:Qu)(t:Tok)(it:P9):Aa P w K tg (OP z) [it] it (λi h=>h.IsStrIter it "str_iterator" z t i) where
 mem:=by simp
 obj:=λi h st b hb=>by
  have e:b=it:=by simpa using hb
  subst e;obtain⟨o,e,c,d⟩:=st;exact⟨o,e,λv z=>by rw[d]at z;cases z⟩
 keep:=λi h h' st k=>let ⟨o,ho,r⟩:=st;⟨o,k it (by simp) o ho,r⟩
 item:=by
  intro X hP hw hK hc i π s σ H E I hf st hg;subst hP hw hK;have hg':i<z.cps.size:=hg;obtain⟨f0,f1,f2,f3,f4,f5⟩:=hf it (by simp);refine wpAny_pyNext_wide_item st (c:=z.cps[i]) (by simp[hg']) λh' st' sb=>?_;have I1:Inv X π σ H { s with heap:=h',toks:=s.toks+1 }:=I.turned (t':=s.toks+1) (λb o hb e=>(sb.2 b hb).trans e) f0 f1 f3 f4 f5;obtain⟨o,e,c,d⟩:=id st';exact⟨_,rfl,xT (s:={ s with heap:=h',toks:=s.toks+1 }) e c d (by decide) ⟨.str ⟨#[z.cps[i]]⟩,H,I1,⟨_,rfl⟩,⟨rfl,_,by simp[hg'],rfl⟩,st',λb hb=>(hf b hb).1⟩⟩
 done:=by
  intro X hP hw hK hc i π s σ H E I hf st hg;subst hP hw hK;have hg':z.cps.size<=i:=hg;obtain⟨f0,f1,f2,f3,f4,f5⟩:=hf it (by simp);exact wpAny_pyNext_wide_end (I.ok.hd hc) st (by simp[hg']) λh' eb=>⟨rfl,I.turned (t':=s.toks) (λb o hb e=>eb b o hb e) f0 f1 f3 f4 f5⟩
 self:=λ_ _ _ _ _ st h=>wpAny_pyIter_striter_wide st h
noncomputable def Ow(tl:TE):TI:=λσ H R=>tl σ H λx H1=>∃z,x=.str z/\R (OP z) H1
def JW(hl:PE X l tl):PI X tg l (Ow tl):=by
 intro π s σ H R I h;refine de (hl π s σ H _ I h) λv s1 ⟨x,H1,I1,r1,q1⟩=>?_;obtain⟨z,rfl,q⟩:=q1;obtain⟨t,rfl⟩:=r1;have fpo:∀b∈[s1.heap.objs.size],nk X π H1 b:=λb hb=>by
  have e:b=s1.heap.objs.size:=by simpa using hb
  subst e;exact I1.fpOk (Ql _) (I1.hok.fresh (Ql _))
 cases ha:z.cps.all (· < 128) with|false=>exact wpAny_pyIter_wide ha ⟨s1.heap.objs.size,[s1.heap.objs.size],_,_,H1,rfl,I1.kept (t':=s1.toks) λb o e=>Qe _ e,BZ z t _,⟨_,Q9 _ rfl,rfl,rfl⟩,fpo,q⟩|true=>exact wpAny_pyIter_ascii ha ⟨s1.heap.objs.size,[s1.heap.objs.size],_,_,H1,rfl,I1.kept (t':=s1.toks) λb o e=>Qe _ e,yS z t _,⟨_,Q9 _ rfl,rfl,rfl⟩,fpo,q⟩
noncomputable def jD(z:Qu):ac:=z.cps.toList.map λc=>.str ⟨#[c]⟩
def kQ(z:Qu):(jD z).length=z.cps.size:=by unfold jD;simp
section
variable {X:Cx}{E:XK}
noncomputable def Mh(K:P4):ad->Hp->VK->Prop:=λxs H Q=>∃(p:P9) (bs:List Bool),xs=[.ref p]/\fk K H p (bs.map V.bl)/\Q (.bl (bs.all id)) H
theorem vi:∀bs:List Bool,(QL bs.length).all (λi=>bs.getD i false)=bs.all id
 |[]=>rfl
 |b::r=>by
  rw[QE,Vh,Tc,Up,Tc,←vi r];rfl
def yD(hc:X.calm=true):ik X (.builtin "all") (Mh X.K):=by
 intro π s σ H xs us Q I r h;obtain⟨p,bs,rfl,hq,q⟩:=h;obtain⟨u,rfl,rx⟩:=qi r;cases rx;obtain⟨its,rv,pl,hz⟩:=I.list hq;have hlen:=rv.length;rw[P7]at hlen;have hne:p≠s.heap.objs.size:=QW pl.lt;refine call_all_walk (wpAny_pyIter_list pl.isList ?_);have pl2:(s.heap.push { cls:=.type "list_iterator",data:=.fields #[.ref p,.int 0 0] }).IsList p its.toArray:=by
  obtain⟨o,k1,k2⟩:=pl.isList;exact⟨o,Qe _ k1,k2⟩
 refine⟨s.heap.objs.size,_,_,_,_,_,λi=>bs.getD i false,rfl,Walks.list (A:=X.A.in1) (I.ok.hd hc) s.heap.objs.size p hne its.toArray,⟨⟨_,Q9 _ rfl,rfl,rfl⟩,pl2⟩,?_,λh' tk hk=>?_⟩
 .intro i v s' Q' E' hv hQ
  have hv':its[i]?=some v:=by simpa using hv
  have hi:i<its.length:=(Qa.mp hv').1;obtain⟨w,e1,e2⟩:=rv.get (show(bs.map V.bl)[i]?=some (V.bl (bs.getD i false)) by
   rw[Qg,P5 (by omega)];simp[List.getD,P5 (show i<bs.length by omega)])
  rw[hv']at e1;cases e1;obtain rfl:v=RB _:=e2;exact Rz hQ
 .have hall:(QL its.toArray.size).all (λi=>bs.getD i false)=bs.all id:=by
   rw[Qp,←hlen];exact vi bs
  rw[hall];exact⟨.bl _,H,I.kept (t':=tk) (λb o e=>hk b o (by simp only[Qn];exact QW (Qv e)) (Qe _ e)),rfl,q⟩
noncomputable def eU:ac->Option (List Bool)
 |[]=>some []
 |.bl b::r=>(eU r).map (b::·)
 |_=>none
theorem u7{K:P4}{H:Hp}:∀{ds:ac}{bs:List Bool}{vs:ad},eU ds=some bs->Reps K H ds vs->vs=bs.map V.bl
 |[],bs,vs,h,r=>by cases h;exact Reps.nil_iff.mp r
 |d::ds,bs,vs,h,r=>by
  obtain⟨v,r',rfl,h1,h2⟩:=aM.mp r;cases d with
  |bl x=>
   unfold eU at h;cases e:eU ds with
   |none=>rw[e]at h;cases h
   |some zs=>
    rw[e]at h;cases h;rw[aL.mp h1,u7 e h2];rfl
  |_=>cases h
noncomputable def zO(x:D):ak D:=match x with
 |.lst ds=>match eU ds with
  |some bs=>.ok (.bl (bs.all id))
  |none=>.stuck
 |_=>.stuck
def FE:gY X E (Mh X.K) (m1 zO):=u6 λx v H Ha Q hs r q=>by
 cases x with
 |lst ds=>
  unfold zO at q;obtain⟨p,vs,rfl,h1,h2⟩:=aI.mp r;cases e:eU ds with
  |none=>simp only[e]at q;exact q.elim
  |some bs=>
   simp only[e]at q;exact⟨p,bs,rfl,by rw[←u7 e h2];exact aG.sqL hs h1,bK hs q (rb _)⟩
 |_=>exact q.elim
end
section
variable {X:Cx}{E:XK}{e:QX}{f:Ev->ak D}{pos p1:Pos}
noncomputable def dOne(x:Qu) (d:D):ak D:=.ok (.dic [x] [d])
end
noncomputable def gT(cells:List (Qu×P9)):List (Qu×RC)->List (Qu×P9)->List (Qu×P9)
 |[],acc=>acc
 |(n,k)::r,acc=>if(k==RT)=true then gT cells r ((n,(cells.lookup n).getD 0)::acc) else gT cells r acc
def kI(h:∀x∈scope.names,x.2=.free->∃c,env.cells.lookup x.1=some c):closureFor scope env=pure (gT env.cells scope.names []):=by
 simp only[closureFor];have key:∀(names:List (Qu×RC)) (acc:List (Qu×P9)),(∀x∈names,x.2=.free->∃c,env.cells.lookup x.1=some c) ->
   (forIn names acc λ(x:Qu×RC) (z:List (Qu×P9))=>
      if(x.snd==RT)=true then do
       let y ←cellOf env x.fst
       pure (SE ((x.fst,y)::z))
      else(pure (SE z):Sem _))=pure (gT env.cells names acc):=by
  intro names
  induction names with
  |nil=>intro acc _;rfl
  |cons x r ih=>
   intro acc hh;obtain⟨n,k⟩:=x;rw[List.forIn_cons]
   by_cases hk:(k==RT)=true
   .obtain⟨c,hc⟩:=hh (n,k) Qq (by simpa using hk)
    have hcell:cellOf env n=pure c:=by unfold cellOf;rw[show env.cells.lookup n=some c from hc]
    simp only[hk,if_true];rw[hcell];have:=ih ((n,c)::acc) (λy hy=>hh y (Qi _ hy));rw[show gT env.cells ((n,k)::r) acc=gT env.cells r ((n,c)::acc) by
     show(if(k==RT)=true then _ else _)=_;rw[if_pos hk,show env.cells.lookup n=some c from hc];rfl]
    rw[←this];rfl
   .have:=ih acc (λy hy=>hh y (Qi _ hy))
    rw[if_neg hk];rw[show gT env.cells ((n,k)::r) acc=gT env.cells r acc by
     show(if(k==RT)=true then _ else _)=_;rw[if_neg hk]]
    rw[←this];rfl
 rw[key _ _ h];rfl
theorem td{cells:List (Qu×P9)}:∀{names:List (Qu×RC)}{acc:List (Qu×P9)}{x:Qu}{c:P9},(∀y∈names,y.2=.free->∃c,cells.lookup y.1=some c) ->
  (gT cells names acc).lookup x=some c->acc.lookup x=some c∨cells.lookup x=some c
 |[],acc,x,c,_,h=>.inl h
 |(n,k)::r,acc,x,c,hh,h=>by
  unfold gT at h
  by_cases hk:(k==RT)=true
  .rw[if_pos hk]at h
   obtain⟨d,hd⟩:=hh (n,k) Qq (by simpa using hk);rcases td (λy hy=>hh y (Qi _ hy)) h with h|h
   .rw[S9]at h
    cases e:x==n with
    |true=>
     rw[e]at h;rw[show cells.lookup n=some d from hd]at h;cases h;rw[eq_of_beq e];exact .inr hd
    |false=>rw[e]at h;exact .inl h
   .exact .inr h
  .rw[if_neg hk]at h
   exact td (λy hy=>hh y (Qi _ hy)) h
theorem oC{α:Type}:∀{l:List (Qu×α)},(∃v,(x,v)∈l)->∃v,l.lookup x=some v
 |[],⟨v,h⟩=>by cases h
 |(n,w)::r,⟨v,h⟩=>by
  rw[S9];cases e:x==n with
  |true=>exact⟨w,rfl⟩
  |false=>
   rcases Qs.mp h with h|h
   .cases h;simp at e
   .exact oC ⟨v,h⟩
theorem tj:∀{names:List (Qu×RC)}{acc:List (Qu×P9)},(x,c)∈acc->(x,c)∈gT cells names acc
 |[],acc,h=>h
 |(n,k)::r,acc,h=>by
  unfold gT
  by_cases hk:(k==RT)=true
  .rw[if_pos hk];exact tj (Qi _ h)
  .rw[if_neg hk];exact tj h
def tf:∀{names:List (Qu×RC)}{acc:List (Qu×P9)},(x,RT)∈names->∃c,(gT cells names acc).lookup x=some c:=by
 intro names
 induction names with
 |nil=>intro acc h;cases h
 |cons y r ih=>
  intro acc h;obtain⟨n,k⟩:=y;unfold gT;rcases Qs.mp h with h|h
  .cases h
   rw[if_pos (by rfl)];exact oC ⟨_,tj Qq⟩
  .by_cases hk:(k==RT)=true
   .rw[if_pos hk];exact ih h
   .rw[if_neg hk];exact ih h
noncomputable def cS(X:Cx) (N:al) (scope:T7) (s:Qj) (H:Hp) (C:P9) (fp:List P9) (pn:List (P9×Obj)):Cx :=
 { X with N:=N,sf:=s,Ha:=H,env:=compEnvC scope (gT X.env.cells scope.names []) C X.env,outer:=X.stack,stack:=X.stack,ex:=fp,fn:=λ_=>false,pn:=pn,xe:=λ_ _=>False }
noncomputable def jr(n:Nat) (fr:am) (σ:L2.St):L2.St:=QG n none++fr.map λ(i:Nat)=>(σ[i]?).getD none
noncomputable def Ad(X:Cx) (N:al) (n:Nat) (fr:am) (scope:T7):Prop :=
 N.length=n+fr.length/\((N.drop n).zip fr).all (λp=>X.N[p.2]?==some p.1&&X.env.scope.names.lookup p.1==some .cell&&scope.names.lookup p.1==some .free&&(relabel scope X.env).names.lookup p.1==some .cell)=true
theorem Ad.at{fr:am}(h:Ad X N n fr scope){k:Nat}(hx:N[k]?=some x)(hv:(jr n fr σ)[k]?=some (some v)) :
  ∃i:Nat,X.N[i]?=some x/\σ[i]?=some (some v)/\X.env.scope.names.lookup x=some .cell/\scope.names.lookup x=some .free/\(relabel scope X.env).names.lookup x=some .cell:=by
 unfold jr at hv
 by_cases hk:k<n
 .rw[Qo (by simpa using hk),QD,if_pos hk]at hv
  cases hv
 .rw[Qw (by simpa using hk),Q7,Qg]at hv
  cases hi:fr[k-n]? with
  |none=>rw[hi]at hv;cases hv
  |some i=>
   rw[hi]at hv;have hz:((N.drop n).zip fr)[k-n]?=some (x,i):=by
    rw[List.getElem?_zip_eq_some];exact⟨by rw[List.getElem?_drop,show n+(k-n)=k by omega];exact hx,hi⟩
   have:=QF.mp h.2 _ (Qh hz);simp only[QK,beq_iff_eq]at this;refine⟨i,this.1.1.1,?_,this.1.1.2,this.1.2,this.2⟩;simp only[Se,RN]at hv;cases hs:σ[i]? with|none=>rw[hs]at hv;cases hv|some u=>rw[hs]at hv;exact congrArg some hv
noncomputable def LH(X:Cx) (ifs:List QX) (t:TT):Prop :=
 ∀(π:List (P9×Obj)) (s:Qj) (σ:L2.St) (H:Hp) (Q:Bool->Hp->Prop),Inv X π σ H s->t σ H Q ->
  QC (QB X.prog X.w) X.A (forIn ifs true λc r=>if r=true then do let ok ←isTrue c X.env (eval c X.env);pure (SE ok) else pure (SE r)) (TP X π σ Q) X.xe s
noncomputable def Dm:TT:=λ_ H Q=>Q true H
def AG:LH X [] Dm:=λ_ _ _ H _ I h=>wpAny_tests_nil ⟨H,I,h⟩
def GV(h:PT X c t):LH X [c] t:=λπ s σ H Q I q=>wpAny_tests_one (h π s σ H Q I q)
theorem sX{A:Q0}(I:Nat->Qj->Prop)
  (turn:∀n s,I n s->QC (QB prog w) A (pyNext it) (λr sg=>match r with
   |none=>R (.ok .next) sg
   |some v=>QC (QB prog w) A (letOwnedTupleGo target it v) (λ_ sg'=>QC (QB prog w) A (assign target env v) (λ_ si=>
     QC (QB prog w) A (forIn ifs true λc r=>if r=true then do let ok ←isTrue c env (eval c env);pure (SE ok) else pure (SE r)) (λok sj=>
      if ok=true then QC (QB prog w) A (eval elt env) (λx sk=>
       QC (QB prog w) A (call (.builtin "list.append") [acc,x]) (λ_ so=>∃m,m<n/\I m so) (λ_ _=>False) sk) (λ_ _=>False) sj
      else ∃m,m<n/\I m sj) (λ_ _=>False) si) (λ_ _=>False) sg') (λ_ _=>False) sg) (λ_ _=>False) s)
  (n:Nat) (h:I n s) :
  So (QB prog w) A (.compLoop (.ListComp elt [⟨target,iter,ifs,0⟩] scope pos) 0 it acc env) R s:=by
 refine codeAny_loop rfl I (λn s hI=>?_) n h;show QC _ A ((compTurn (.ListComp elt [⟨target,iter,ifs,0⟩] scope pos) 0 it acc env).onRaise (λx=>do noteFrame x env;theTreesLotGoes x)) _ _ s;refine wpAny_noted ?_;rw[compTurn_list];refine P8 (wpAny_standAt (P8 (Ri (turn n s hI) (λr sg hU=>?_) λ_ _ h'=>h'.elim)));cases r with
 |none=>exact QH hU
 |some v=>
  refine P8 (Ri hU (λ_ sg' hU'=>?_) λ_ _ h'=>h'.elim);refine P8 (Ri hU' (λ_ si hV=>P8 (Ri hV (λok sj hZ=>?_) λ_ _ h'=>h'.elim)) λ_ _ h'=>h'.elim);cases ok with
  |false=>exact QH ⟨rfl,hZ⟩
  |true=>
   exact P8 (P8 (Ri hZ (λx sk h₄=>P8 (Ri h₄ (λ_ so h₅=>QH (QH ⟨rfl,h₅⟩)) λ_ _ h'=>h'.elim)) λ_ _ h'=>h'.elim))
noncomputable def qj(n:Nat) (fr:am) (g:TG) (tt:TT) (te:TE) (J:It) (σ:L2.St) (H1:Hp) (Q:VK):Prop:=∀D,H1 D=none->∃W:Nat->Nat->ad->L2.St->Hp->Prop,(∃m,W 0 m [] (jr n fr σ) (upd H1 D (.lst []))) /\
 ∀i m ys σ' H',W i m ys σ' H'->H' D=some (.lst ys)/\((J.stop i H'/\Q (.ref D) H')∨(J.go i H'/\ys.length<sizeLine/\∀x H2,J.yld i H' x H2->g x σ' H2 λσ3 H3=>tt σ3 H3 λb H4=>
  if b=true then te σ3 H4 λy H5=>H5 D=some (.lst ys)/\∃m',m' < m/\W (i+1) m' (ys++[y]) σ3 (upd H5 D (.lst (ys++[y])))
  else ∃m',m' < m/\W (i+1) m' ys σ3 H4))
def uX{fr:am}(hc:X.calm=true)(hfr:Ad X N n fr scope)
  (hcell:∀x∈scope.names,x.2≠.cell)(hfree:∀x∈scope.names,x.2=.free->X.env.scope.names.lookup x.1=some .cell)(hkind:scope.kind=.function)
  (blk:∀s H C fp pn,PG (cS X N scope s H C fp pn) tg g/\LH (cS X N scope s H C fp pn) ifs tt/\PE (cS X N scope s H C fp pn) elt te)
  {RR:P2->P9->Result->Qj->Prop}
  (h2:OJ X π σ tg (λJ H1=>qj n fr g tt te J σ H1 Q) itv s2)
  (fin:∀(Da C:P9) (s6:Qj) (H5:Hp) (m:Qu->Option P2),Inv X π σ H5 s6->s6.heap.Ns C m->nk X π H5 C->Q (.ref Da) H5->RR (.ref Da) C (.ok .next) s6) :
  QC (QB X.prog X.w) X.A (newList []) (λacc sj=>QC (QB X.prog X.w) X.A (newFunctionEnv scope X.env.globals (gT X.env.cells scope.names []) [] X.env.qual none .none (some X.env)) (λcenv sk=>
   So (QB X.prog X.w) X.A (.compStart (.ListComp elt [⟨tg,iter,ifs,0⟩] scope pos) 0 itv acc { cenv with scope:=relabel scope X.env }) (RR acc cenv.locals) sk) X.xe sj) X.xe s2:=by
 obtain⟨it,fp,tn,J,H2,e,I2,T,st2,f2,q⟩:=h2;subst e;have hD:H2 s2.heap.objs.size=none:=I2.fresh;refine wpAny_newObj_type ?_;have I3:Inv X π σ (upd H2 s2.heap.objs.size (.lst [])) { s2 with heap:=s2.heap.push { cls:=.type "list",data:=.seq ([]:List P2).toArray } }:=I2.lnew (t':=s2.toks) (its:=[]) .nil (R0 _);obtain⟨W,⟨m0,w0⟩,turn⟩:=q s2.heap.objs.size hD;generalize hs3:({ s2 with heap:=s2.heap.push { cls:=.type "list",data:=.seq ([]:List P2).toArray } }:Qj)=s3 at I3 ⊢;have hs3h:s3.heap=s2.heap.push { cls:=.type "list",data:=.seq ([]:List P2).toArray }:=by rw[←hs3]
 have hDs:s2.heap.objs.size<s3.heap.objs.size:=by rw[hs3h,Heap.size_push];exact Sq _
 have fpl:∀b∈fp,b<s2.heap.objs.size:=λb hb=>by
  obtain⟨o,ho,_⟩:=T.obj _ _ st2 b hb;exact Qv ho
 have kept3:∀b o,s2.heap.get? b=some o->s3.heap.get? b=some o:=λb o e=>by rw[hs3h];exact Qe _ e
 have st3:tn 0 s3.heap:=T.keep _ _ _ st2 λb _ o e=>kept3 b o e;generalize hDa:s2.heap.objs.size=Da at *;generalize hH3:upd H2 Da (.lst [])=H3 at *;have fr3:∀b∈fp,H3 b=none:=λb hb=>by rw[←hH3,az (QW (fpl b hb))];exact(f2 b hb).1
 have cls:∀x c,(gT X.env.cells scope.names []).lookup x=some c->X.env.cells.lookup x=some c:=λx c e=>by
  rcases td (λy hy hf=>I3.ok.has y.1 (.inl (hfree y hy hf))) e with e|e
  .cases e
  .exact e
 refine wpAny_newFunctionEnv hcell (by intro y hy;simp at hy) (λh4 ns4 sb4=>?_) hkind;have k4:∀b o,s3.heap.get? b=some o->h4.get? b=some o:=λb o e=>(sb4.2 b (QW (Qv e))).trans (Qe _ e);generalize hC:s3.heap.objs.size=C at *;have hCn:H3 C=none:=I3.hok.fresh (by rw[hC];exact Ql _);have ltC:∀b o,s3.heap.get? b=some o->b≠C:=λb o e=>by rw[←hC];exact QW (Qv e)
 have cellC:∀x c,X.env.cells.lookup x=some c->c≠C:=λx c e=>by
  obtain⟨v,o,ho,_⟩:=I3.cell x c e;exact ltC c o ho
 have fpC:∀b∈fp,b≠C:=λb hb=>by
  have:=fpl b hb;exact QW (Uk this hDs)
 show So (QB X.prog X.w) X.A (.compStart (.ListComp elt [⟨tg,iter,ifs,0⟩] scope pos) 0 (.ref it) (.ref Da) (compEnvC scope (gT X.env.cells scope.names []) C X.env)) _ _;generalize hs4:({ s3 with heap:=h4,toks:=s3.toks+([]:List (Qu×P2)).length }:Qj)=s4;have hs4h:s4.heap=h4:=by rw[←hs4]
 have ok:(cS X N scope s3 H3 C fp (X.pn++π)).Ok:=by
  refine⟨I3.ok.mod,hkind,I3.ok.glob,I3.ok.blt,Nat.le_of_eq hC,λx y c e1 e2=>I3.ok.inj x y c (cls x c e1) (cls y c e2),λx e=>?_,λx c e=>?_,λ_=>I3.ok.hd hc,I3.ok.frames,.inl rfl,λb hb=>⟨fpC b hb,λx c e=>(f2 b hb).2.2.2.2.1 x c (cls x c e)⟩,I3.bs,QM I3.ok.bsz I3.sz,λb o e hb=>?_,λb hb z=>?_,I3.stack,I3.stkFree⟩
  .have mm:∀k:RC,(relabel scope X.env).names.lookup x=some k->(k=.cell∨k=.free)->(x,RT)∈scope.names:=λk hk hk2=>by
    have hm:=RQ hk;obtain⟨⟨n',k'⟩,hm1,hm2⟩:=QO.mp hm;dsimp only at hm2;split at hm2
    .rename_i hcnd
     cases hm2;simp only[QK,beq_iff_eq]at hcnd;rw[hcnd.1.1]at hm1;exact hm1
    .cases hm2
     rcases hk2 with rfl|rfl
     .exact absurd rfl (hcell _ hm1)
     .exact hm1
   rcases e with e|e
   .exact tf (mm _ e (.inl rfl))
   .exact tf (mm _ e (.inr rfl))
  .cases e
  .rcases(f2 b hb).2.2.2.1 with z|z
   .exact I3.ok.noex b o e z
   .exact absurd (Qk (Qv e) (QM I3.ok.bsz z)) (Si _)
  .rcases Qs.mp (I3.stkSub b z) with z|z
   .exact(f2 b hb).2.1 z
   .exact(f2 b hb).2.2.1 z
 have I4:Inv (cS X N scope s3 H3 C fp (X.pn++π)) [] (jr n fr σ) H3 s4:=by
  refine⟨ok,by rw[←hs4];rfl,by rw[←hs4];exact I3.bare,by rw[hs4h];exact Un.kept k4,⟨_,by rw[hs4h];exact ns4,λi x v h1 h2 h3=>?_⟩,λx c e=>?_,hCn,λx c e=>I3.freeC x c (cls x c e),λp hp=>?_,by rw[hs4h];exact I3.hok.kept k4,?_⟩
  .obtain⟨j,j1,j2,j3,j4,j5⟩:=hfr.at h1 h2
   obtain⟨m,hn,hl⟩:=I3.loc;obtain⟨u,ru,l⟩:=hl j x v j1 j2 (.inr (.inl j3));refine⟨u,ru,.inr ⟨.inl j5,?_⟩⟩;rcases l with⟨z,_⟩|⟨_,c,z1,z2⟩
   .rw[show X.env.kindOf x=X.env.scope.names.lookup x from rfl,j3]at z;cases z
   .obtain⟨c',hc'⟩:=tf (cells:=X.env.cells) (names:=scope.names) (acc:=[]) (RQ j4)
    have:=cls x c' hc';rw[z1]at this;cases this;obtain⟨oc,q1,q2⟩:=z2;exact⟨c,hc',oc,by rw[hs4h];exact k4 _ _ q1,q2⟩
  .obtain⟨v,oc,q1,q2⟩:=I3.cell x c (cls x c e)
   exact⟨v,oc,by rw[hs4h];exact k4 _ _ q1,q2⟩
  .rw[QN]at hp
   obtain⟨p1,p2,p3,p4,p5⟩:=I3.pin p hp;refine⟨by rw[hs4h];exact k4 _ _ p1,p2,ltC _ _ p1,λz=>?_,p5⟩;rcases Qs.mp (I3.stkSub _ z) with z|z
   .exact p3 z
   .exact p4 z
  .show(jr n fr σ).length=N.length
   unfold jr;rw[Qz,Q7,P7,hfr.1]
 have st4:tn 0 s4.heap:=by rw[hs4h];exact T.keep _ _ _ st3 λb _ o e=>k4 b o e
 have stat:∀{H':Hp},(∀b∈fp,H' b=none)->∀b∈fp,nk (cS X N scope s3 H3 C fp (X.pn++π)) [] H' b:=λhn b hb=>by
  refine⟨hn b hb,fpC b hb,λz=>?_,.inl hb,λx c e=>(f2 b hb).2.2.2.2.1 x c (cls x c e),λp hp=>?_⟩
  .rcases Qs.mp (I3.stkSub b z) with z|z
   .exact(f2 b hb).2.1 z
   .exact(f2 b hb).2.2.1 z
  .rw[QN]at hp
   exact(f2 b hb).2.2.2.2.2 p hp
 have loop:So (QB X.prog X.w) X.A (.compLoop (.ListComp elt [⟨tg,iter,ifs,0⟩] scope pos) 0 (.ref it) (.ref Da) (compEnvC scope (gT X.env.cells scope.names []) C X.env)) (RR (.ref Da) C) s4:=by
  refine sX (λn s'=>∃i ys σ' H',Inv (cS X N scope s3 H3 C fp (X.pn++π)) [] σ' H' s'/\tn i s'.heap/\(∀b∈fp,H' b=none)/\W i n ys σ' H') ?_ m0 ⟨0,[],_,H3,I4,st4,fr3,w0⟩;rintro k s5 ⟨i,ys,σ5,H5,I5,st5,fr5,w5⟩;obtain⟨hDl,ways⟩:=turn i k ys σ5 H5 w5;rcases ways with⟨stop,fin'⟩|⟨go,hz,step⟩
  .refine de (T.done (cS X N scope s3 H3 C fp (X.pn++π)) rfl rfl rfl hc i [] s5 σ5 H5 (λ_ _=>False) I5 (stat fr5) st5 stop) λr s6 ⟨hr,I6⟩=>?_
   subst hr;obtain⟨mm,nsm,_⟩:=I6.loc;have free6:H5 C=none:=I6.free;have hok:g6 X.prog X.w H5 s6.heap:=I6.hok;have un:Un (iw X.stack) fp H3 H5 s3.heap s6.heap:=I6.base;have IX:Inv X π σ H5 s6:=I3.call' (s':=s6) (ch:=fp) I6.os un hok I6.bare (λb hb=>⟨(f2 b hb).2.2.2.1,(f2 b hb).2.1,(f2 b hb).2.2.2.2.1,(f2 b hb).2.2.2.2.2⟩);have fC:nk X π H5 C:=I3.fpOk (b:=C) (H':=H5) (by rw[hC];exact Ql _) free6;exact fin Da C s6 H5 mm IX nsm fC fin'
  .refine de (T.item (cS X N scope s3 H3 C fp (X.pn++π)) rfl rfl rfl hc i [] s5 σ5 H5 (λ_ _=>False) I5 (stat fr5) st5 go) λr s6 ⟨u,hr,h6⟩=>?_
   subst hr;refine de h6 λ_ s7 ⟨x,H7,I7,r7,y7,st7,fr7⟩=>?_;have I7':=I7.pinned (stat fr7) (T.obj _ _ st7);refine de ((blk s3 H3 C fp (X.pn++π)).1 _ s7 σ5 H7 x u _ I7' r7 (step x H7 y7)) λ_ s8 ⟨σ8,H8,I8,q8⟩=>?_;refine de ((blk s3 H3 C fp (X.pn++π)).2.1 _ s8 σ8 H8 _ I8 q8) λb s8b ⟨H8b,I8b,q8b⟩=>?_;have back:∀{σ':L2.St}{H':Hp}{s':Qj},L2.Inv (cS X N scope s3 H3 C fp (X.pn++π)) (([]:List (P9×Obj))++qI fp s7.heap) σ' H' s'->tn (i+1) s'.heap/\∀b∈fp,H' b=none:=λ{σ' H' s'} I'=>by
    refine⟨T.keep _ _ _ st7 λb hb o e=>(I'.pin (b,o) (QR _ (QR _ (jf hb e)))).1,λb hb=>?_⟩;obtain⟨o,e,d⟩:=T.obj _ _ st7 b hb;exact(I'.pin (b,o) (QR _ (QR _ (jf hb e)))).2.1
   cases b with
   |false=>
    rw[if_neg Ru]at q8b ⊢;obtain⟨m',hm,w9⟩:=q8b;exact⟨m',hm,i+1,ys,σ8,_,I8b.unpinned,(back I8b).1,(back I8b).2,w9⟩
   |true=>
    rw[if_pos rfl]at q8b ⊢;refine de ((blk s3 H3 C fp (X.pn++π)).2.2 _ s8b σ8 H8b _ I8b q8b) λy s9 ⟨yv,H9,I9,r9,hD9,m',hm,w9⟩=>?_;refine de (nL (X:=cS X N scope s3 H3 C fp (X.pn++π)) _ s9 σ8 H9 (.ref Da) [yv] (.ref Da) [y] (λv H'=>H'=upd H9 Da (.lst (ys++[yv]))) I9 rfl (.cons r9 .nil) ⟨Da,ys,yv,rfl,rfl,hD9,hz,rfl⟩) λ_ s10 ⟨v10,H10,I10,_,e10⟩=>?_;subst e10;exact⟨m',hm,i+1,ys++[yv],σ8,_,I10.unpinned,(back I10).1,(back I10).2,w9⟩
 exact codeAny_compStart_list loop (T.self _ 0 _ _ _ st4 loop)
structure Lk (K:P4) (ds:ac) (J:It) (Ha:Hp):Prop where
 go:∀(i:Nat) (H' Ha':Hp),aG Ha Ha'->aG Ha' H'->i<ds.length->J.go i H'
 yld:∀(i:Nat) (H' Ha':Hp) (x:V) (H2:Hp) (d:D),aG Ha Ha'->aG Ha' H'->ds[i]?=some d->J.yld i H' x H2->∃H₀2,bw H' Ha' H2 H₀2/\Rep K H₀2 d x
 stop:∀(i:Nat) (H' Ha':Hp),aG Ha Ha'->aG Ha' H'->ds.length<=i->J.stop i H'
noncomputable def Px(K:P4) (E:XK) (src:Ev->ak (ac)):TI:=λσ H R=>∃Ha ρ,aG Ha H/\Reads K Ha σ ρ/\match src ρ with
 |.ok ds=>∀J H' Ha',bw H Ha H' Ha'->Lk K ds J Ha'->R J H'
 |.exn x=>∀C ox H' Ha',bw H Ha H' Ha'->yL K Ha' x C ox->E C ox H'
 |.stuck=>False
structure DI (X:Cx) (E:XK) (tg iter:QX) (src:Ev->ak (ac)):Prop where
 o:PI X tg iter (Px X.K E src)
def g9(h:PI X tg iter t)(w:∀σ H R,t' σ H R->t σ H R):PI X tg iter t':=λπ s σ H R I q=>h π s σ H R I (w σ H R q)
noncomputable def kq(f:Ev->ak D):Ev->ak (ac):=λρ=>(f ρ).bind λd=>match d with
 |.lst ds=>.ok ds
 |_=>.stuck
noncomputable def Dq(f:Ev->ak D):Ev->ak (ac):=λρ=>(f ρ).bind λd=>match d with
 |.tup ds=>.ok ds
 |_=>.stuck
noncomputable def GC(f:Ev->ak D):Ev->ak (ac):=λρ=>(f ρ).bind λd=>match d with
 |.str z=>.ok (jD z)
 |_=>.stuck
noncomputable def kD(f:Ev->ak D):Ev->ak (ac):=λρ=>(f ρ).bind λd=>match d with
 |.int j=>if -4611686018427387904<=j/\j<4611686018427387904 then .ok (intsFrom 0 j.toNat) else .stuck
 |_=>.stuck
section
variable {X:Cx}{E:XK}{tg e a b:QX}{f g:Ev->ak D}
def eS(h:DE X E e f):DI X E tg e (kq f):=by
 refine⟨g9 (vF h.o) λσ H R z9=>?_⟩;obtain⟨Ha,ρ,hs,hr,q⟩:=z9;refine⟨Ha,ρ,hs,hr,?_⟩;unfold kq at q;cases e1:f ρ with
 |stuck|exn x=>rw[e1]at q;exact q
 |ok d=>
  rw[e1]at q;intro v H1 H01 g1 r1;cases d with
  |lst ds=>
   obtain⟨p,vs,rfl,hv,hrv⟩:=aI.mp r1;refine⟨p,rfl,⟨vs,aG.sqL g1.sub hv⟩,q _ H1 H01 g1 ⟨λi H' Ha' s1 s2 hi=>?_,λi H' Ha' x H2 d s1 s2 hd hy=>?_,λi H' Ha' s1 s2 hi=>?_⟩⟩
   .exact⟨vs,vs[i]'(by rw[←hrv.length];exact hi),aG.sqL (s1.trans s2) hv,by simp⟩
   .obtain⟨rfl,hy⟩:=hy
    obtain⟨u,k1,k2⟩:=hrv.get hd;have:=hy vs (aG.sqL (s1.trans s2) hv);rw[k1]at this;cases this;exact⟨Ha',bw.refl s2,k2.mono s1⟩
   .exact⟨vs,aG.sqL (s1.trans s2) hv,by rw[←hrv.length];exact hi⟩
  |_=>exact q.elim
def KR(h:DE X E e f):DI X E tg e (Dq f):=by
 refine⟨g9 (JV h.o) λσ H R z9=>?_⟩;obtain⟨Ha,ρ,hs,hr,q⟩:=z9;refine⟨Ha,ρ,hs,hr,?_⟩;unfold Dq at q;cases e1:f ρ with
 |stuck|exn x=>rw[e1]at q;exact q
 |ok d=>
  rw[e1]at q;intro v H1 H01 g1 r1;cases d with
  |tup ds=>
   obtain⟨p,vs,rfl,hv,hrv⟩:=aQ.mp r1;refine⟨p,rfl,⟨vs,aG.sqT g1.sub hv⟩,q _ H1 H01 g1 ⟨λi H' Ha' s1 s2 hi=>?_,λi H' Ha' x H2 d s1 s2 hd hy=>?_,λi H' Ha' s1 s2 hi=>?_⟩⟩
   .exact⟨vs,vs[i]'(by rw[←hrv.length];exact hi),aG.sqT (s1.trans s2) hv,by simp⟩
   .obtain⟨rfl,hy⟩:=hy
    obtain⟨u,k1,k2⟩:=hrv.get hd;have:=hy vs (aG.sqT (s1.trans s2) hv);rw[k1]at this;cases this;exact⟨Ha',bw.refl s2,k2.mono s1⟩
   .exact⟨vs,aG.sqT (s1.trans s2) hv,by rw[←hrv.length];exact hi⟩
  |_=>exact q.elim
def KS(h:DE X E e f):DI X E tg e (GC f):=by
 refine⟨g9 (JW h.o) λσ H R z9=>?_⟩;obtain⟨Ha,ρ,hs,hr,q⟩:=z9;refine⟨Ha,ρ,hs,hr,?_⟩;unfold GC at q;cases e1:f ρ with
 |stuck|exn x=>rw[e1]at q;exact q
 |ok d=>
  rw[e1]at q;intro v H1 H01 g1 r1;cases d with
  |str z=>
   refine⟨z,Rep.str_iff.mp r1,q _ H1 H01 g1 ⟨λi H' Ha' s1 s2 hi=>?_,λi H' Ha' x H2 d s1 s2 hd hy=>?_,λi H' Ha' s1 s2 hi=>?_⟩⟩
   .rw[kQ]at hi;exact hi
   .obtain⟨rfl,c,hc,rfl⟩:=hy
    have:d=.str ⟨#[c]⟩:=by
     unfold jD at hd;rw[Qg]at hd;have h2:z.cps.toList[i]?=some c:=by simpa using hc
     rw[h2]at hd;cases hd;rfl
    subst this;exact⟨Ha',bw.refl s2,Rep.str_iff.mpr rfl⟩
   .rw[kQ]at hi;exact hi
  |_=>exact q.elim
def uL{K:P4}{lo:Int}:Lk K (intsFrom lo n) (Lj lo n) H:=by
 have hl:(intsFrom lo n).length=n:=by unfold intsFrom;simp
 refine⟨λi H' Ha' _ _ hi=>?_,λi H' Ha' x H2 d s1 s2 hd hy=>?_,λi H' Ha' _ _ hi=>?_⟩
 .rw[hl]at hi;exact hi
 .obtain⟨rfl,rfl⟩:=hy
  have:d=.int (lo+i):=by
   unfold intsFrom at hd;rw[Qg]at hd;cases e:(QL n)[i]? with
   |none=>rw[e]at hd;cases hd
   |some k=>
    rw[e]at hd;have hk:k=i:=by
     obtain⟨h1,h2⟩:=Qa.mp e;simpa using h2.symm
    subst hk;cases hd;rfl
  subst this;exact⟨Ha',bw.refl s2,aB.mpr rfl⟩
 .rw[hl]at hi;exact hi
def nR(hg:Gl X "range")(hm:X.mg "range"=none)(h:DE X E a f)(hn:Lx a=true:=by exact rfl):DI X E tg (.Call (.Name "range" p) [a] [] pos) (kD f):=by
 refine⟨g9 (nH hg hm (dQ h.o gH (gC hn)) (gC hn)) λσ H R z9=>?_⟩;obtain⟨Ha,ρ,hs,hr,q⟩:=z9;refine⟨Ha,ρ,hs,hr,?_⟩;unfold kD at q;cases e1:f ρ with
 |stuck|exn x=>rw[e1]at q;exact q
 |ok d=>
  rw[e1]at q;intro v H1 H01 g1 r1;cases d with
  |int j=>
   replace q:match (if -4611686018427387904<=j/\j<4611686018427387904 then ak.ok (intsFrom 0 j.toNat) else .stuck) with
    |.ok ds=>∀J H' Ha',bw H Ha H' Ha'->Lk X.K ds J Ha'->R J H'
    |.exn x=>∀C ox H' Ha',bw H Ha H' Ha'->yL X.K Ha' x C ox->E C ox H'
    |.stuck=>False:=q
   by_cases hj:-4611686018427387904<=j/\j<4611686018427387904
   .rw[if_pos hj]at q
    rw[aB.mp r1];exact⟨j,rfl,hj.1,hj.2,q _ H1 H01 g1 uL⟩
   .rw[if_neg hj]at q;exact q.elim
  |_=>exact q.elim
end
noncomputable def kE(src:Ev->ak (ac)) (tg:Ev->D->ak Ev) (s:Ev->ak Fl):Ev->ak Fl:=λρ=>(src ρ).bind λds=>cg tg s ds ρ
section
variable {X:Cx}{E:XK}{He η:Hp}{st:RH}{s:Ev->ak Fl}{pos:Pos}
def f9.step2{K:P4}(z:aG Hb Ha)(h:eX K He η Ha σ H ρ)(q:b8 K E He η Ha (cg tg s (ds.drop i) ρ) D')(hd:ds[i]?=some d)(rv:Rep K Ha d v)
  (he:∀ρ,tg ρ d=.stuck∨∃ρ',tg ρ d=.ok ρ') :
  tG K He η tg v σ H λσ2 H2=>tS K E He η s { D' with nx:=f9 K E He η Hb tg s ds D' (i+1),ct:=f9 K E He η Hb tg s ds D' (i+1),bk:=D'.nx } σ2 H2:=by
 have hi:i<ds.length:=(Qa.mp hd).1;have hdr:ds.drop i=d::ds.drop (i+1):=by
  rw[QZ hi];rw[P5 hi]at hd;cases hd;rfl
 rw[hdr]at q;refine⟨Ha,ρ,d,h,rv,?_⟩;unfold cg at q;rcases he ρ with e1|⟨ρ1,e1⟩
 .rw[e1]at q;exact q.elim
 .rw[e1]at q ⊢
  intro σ' H' Ha' z' h';refine⟨Ha',ρ1,h',?_⟩;replace q:=b8.grow (r:=(s ρ1).bind λx=>match x with
   |.nx ρ2=>cg tg s (ds.drop (i+1)) ρ2
   |.ct ρ2=>cg tg s (ds.drop (i+1)) ρ2
   |.bk ρ2=>.ok (.nx ρ2)
   |.rt d=>.ok (.rt d)) q z'
  cases e2:s ρ1 with
  |stuck|exn x=>rw[e2]at q;exact q
  |ok r=>
   rw[e2]at q;cases r with|nx ρ2=>exact λσ3 H3 H03 z3 h3=>⟨H03,ρ2,(z.trans z').trans z3,h3,b8.grow (r:=cg tg s (ds.drop (i+1)) ρ2) q z3⟩|ct ρ2=>exact λσ3 H3 H03 z3 h3=>⟨H03,ρ2,(z.trans z').trans z3,h3,b8.grow (r:=cg tg s (ds.drop (i+1)) ρ2) q z3⟩|bk ρ2|rt d=>exact q
def mS(hp:PassesOwn (QB X.prog X.w) X.A X.env X.xe)(hc:X.calm=true)(hi:DI X E tgt iter src)(hg:DG X E He η tgt tg)(ht:vj tg)(hb:Ae X E He η body s)
  (hs:∀x,foldedSetIterable iter X.env x=pure x:=by intro _;rfl):DS X E He η (.For tgt iter body [] pos) (kE src tg s):=by
 refine⟨bO (vD hp hc hi.o hg.o hb.o hs) λD' σ H z9=>?_⟩;obtain⟨Ha,ρ,h,q⟩:=z9;refine⟨Ha,ρ,h.g.sub,h.rd,?_⟩;unfold kE at q;cases e1:src ρ with
 |stuck=>rw[e1]at q;exact q|exn x=>rw[e1]at q;exact λC ox H' Ha' g r=>q C ox H' Ha' (h.g.trans g) r
 |ok ds=>
  rw[e1]at q;intro J H1 H01 g it;have q1:b8 X.K E He η H01 (cg tg s ds ρ) D':=b8.grow (r:=cg tg s ds ρ) q g.z;refine⟨λi m σ' H'=>m+i=ds.length/\f9 X.K E He η H01 tg s ds D' i σ' H',⟨ds.length,rfl,H01,ρ,aG.refl _,h.grow g,q1⟩,?_⟩;rintro i m σ' H' ⟨hm,Ha',ρ',z,h',hq⟩
  by_cases hlt:i<ds.length
  .refine .inr ⟨it.go i H' Ha' z h'.g.sub hlt,λσ2 H2=>f9 X.K E He η H01 tg s ds D' (i+1) σ2 H2,λσ2 H2 hl=>⟨m-1,by omega,by omega,hl⟩,λx H2 hy=>?_⟩
   obtain⟨H₀2,g2,rp⟩:=it.yld i H' Ha' x H2 ds[i] z h'.g.sub (P5 hlt) hy;exact f9.step2 (z.trans g2.z) (h'.grow g2) (b8.grow (r:=cg tg s (ds.drop i) ρ') hq g2.z) (P5 hlt) rp λρ=>ht ρ _
  .have e:i=ds.length:=by omega
   refine .inl ⟨it.stop i H' Ha' z h'.g.sub (by omega),?_⟩;subst e;exact f9.done ⟨Ha',ρ',z,h',hq⟩
end
noncomputable def tU(f:Ev->ak D):Prop:=∀ρ d,f ρ=.ok d->∃ds,d=.lst ds
def Dp{K:P4}(hf:tU f)(h:tD K E f σ H Q):tF K E f σ H Q:=by
 obtain⟨Ha,ρ,hs,hr,q⟩:=h;refine⟨Ha,ρ,hs,hr,?_⟩;cases e1:f ρ with
 |stuck|exn x=>rw[e1]at q;exact q
 |ok d=>
  obtain⟨ds,rfl⟩:=hf ρ d e1;rw[e1]at q;intro p vs H' Ha' g hp h0 hv rp;have n0:Ha p=none:=hs.free hp;refine q (.ref p) H' (upd Ha' p (.lst vs)) ⟨g.s,λb o e=>?_,λb o e=>?_,λb k1 k2=>?_⟩ (aI.mpr ⟨p,vs,rfl,fk.of aF,rp.mono λb o e=>?_⟩)
  .rw[az (by intro z;subst z;rw[n0]at e;cases e)];exact g.z _ _ e
  .by_cases hb:b=p
   .subst hb;rw[aF]at e;cases e;exact hv
   .rw[az hb]at e;exact g.sub _ _ e
  .by_cases hb:b=p
   .subst hb;exact hp
   .rw[az hb]at k1;exact g.nw b k1 k2
  .rw[az (by intro z;subst z;rw[h0]at e;cases e)];exact e
def Fv(hf:tU f)(h:DF X E e f):DE X E e f:=⟨bg h.o λσ H Q q=>Dp hf q⟩
noncomputable def cO(n:Nat) (fr:am) (ρ:Ev):Ev:=QG n .no++fr.map λ(i:Nat)=>match ρ[i]? with
 |some (.sh d)=>.sh d
 |_=>.no
noncomputable def cf(b:Ev) (tg:Ev->D->ak Ev) (tt fe:Ev->ak D):ac->ak (ac)
 |[]=>.ok []
 |d::r=>(tg b d).bind λρ1=>(tt ρ1).bind λt=>match t with
  |.bl true=>(fe ρ1).bind λx=>(cf b tg tt fe r).bind λxs=>.ok (x::xs)
  |.bl false=>cf b tg tt fe r
  |_=>.stuck
noncomputable def di(n:Nat) (fr:am) (src:Ev->ak (ac)) (tg:Ev->D->ak Ev) (tt fe:Ev->ak D):Ev->ak D:=λρ=>(src ρ).bind λds=>
 if ds.length<=line then match cf (cO n fr ρ) tg tt fe ds with
  |.ok es=>.ok (.lst es)
  |_=>.stuck
 else .stuck
def CI{fr:am}:tU (di n fr src tg tt fe):=λρ d h=>by
 unfold di at h;cases e1:src ρ with
 |stuck|exn x=>rw[e1]at h;cases h
 |ok ds=>
  rw[e1]at h;replace h:(if ds.length<=line then match cf (cO n fr ρ) tg tt fe ds with
   |.ok es=>ak.ok (D.lst es)
   |_=>.stuck else .stuck)=.ok d:=h
  split at h
  .split at h
   .cases h;exact⟨_,rfl⟩
   .cases h
  .cases h
def ji{b:Ev}(h:cf b tg tt fe (d::r)=.ok es) :
  ∃ρ1 t,tg b d=.ok ρ1/\tt ρ1=.ok (.bl t)/\((t=true/\∃x xs,fe ρ1=.ok x/\cf b tg tt fe r=.ok xs/\es=x::xs)∨(t=false/\cf b tg tt fe r=.ok es)):=by
 unfold cf at h;cases e1:tg b d with
 |stuck|exn z=>rw[e1]at h;cases h
 |ok ρ1=>
  rw[e1]at h;replace h:((tt ρ1).bind λt=>match t with
   |.bl true=>(fe ρ1).bind λx=>(cf b tg tt fe r).bind λxs=>ak.ok (x::xs)
   |.bl false=>cf b tg tt fe r
   |_=>.stuck)=.ok es:=h
  cases e2:tt ρ1 with
  |stuck|exn z=>rw[e2]at h;cases h
  |ok t=>
   rw[e2]at h;cases t with
   |bl t=>
    cases t with
    |true=>
     replace h:((fe ρ1).bind λx=>(cf b tg tt fe r).bind λxs=>ak.ok (x::xs))=.ok es:=h;cases e3:fe ρ1 with
     |stuck|exn z=>rw[e3]at h;cases h
     |ok x=>
      rw[e3]at h;replace h:((cf b tg tt fe r).bind λxs=>ak.ok (x::xs))=.ok es:=h;cases e4:cf b tg tt fe r with|stuck|exn z=>rw[e4]at h;cases h|ok xs=>rw[e4]at h;cases h;exact⟨ρ1,true,rfl,e2,.inl ⟨rfl,x,xs,e3,rfl,rfl⟩⟩
    |false=>exact⟨ρ1,false,rfl,e2,.inr ⟨rfl,h⟩⟩
   |_=>cases h
def iS{b:Ev}(h1:tg b d=.ok ρ1)(h2:tt ρ1=.ok (.bl true))(h3:fe ρ1=.ok x):cf b tg tt fe (d::r)=(cf b tg tt fe r).bind λxs=>.ok (x::xs):=by
 rw[cf,h1];simp only[ak.bind,h2,h3]
def sY{b:Ev}(h1:tg b d=.ok ρ1)(h2:tt ρ1=.ok (.bl false)):cf b tg tt fe (d::r)=cf b tg tt fe r:=by
 rw[cf,h1];simp only[ak.bind,h2]
theorem nY{b:Ev}:∀{r q es:ac},cf b tg tt fe (r++q)=.ok es->∃e1 e2,cf b tg tt fe r=.ok e1/\cf b tg tt fe q=.ok e2/\es=e1++e2
 |[],q,es,h=>⟨[],es,rfl,h,rfl⟩
 |d::r,q,es,h=>by
  obtain⟨ρ1,t,h1,h2,h3⟩:=ji h;rcases h3 with⟨rfl,x,xs,h3,h4,rfl⟩|⟨rfl,h4⟩
  .obtain⟨e1,e2,k1,k2,rfl⟩:=nY h4
   refine⟨x::e1,e2,?_,k2,rfl⟩;rw[iS h1 h2 h3,k1];rfl
  .obtain⟨e1,e2,k1,k2,rfl⟩:=nY h4
   refine⟨e1,e2,?_,k2,rfl⟩;rw[sY h1 h2];exact k1
theorem jh{b:Ev}{tg:Ev->D->ak Ev}{tt fe:Ev->ak D}:∀{r q e1 e2:ac},cf b tg tt fe r=.ok e1->cf b tg tt fe q=.ok e2->cf b tg tt fe (r++q)=.ok (e1++e2)
 |[],q,e1,e2,h,h'=>by cases h;exact h'
 |d::r,q,e1,e2,h,h'=>by
  obtain⟨ρ1,t,h1,h2,h3⟩:=ji h;show cf b tg tt fe (d::(r++q))=_;rcases h3 with⟨rfl,x,xs,h3,h4,rfl⟩|⟨rfl,h4⟩
  .rw[iS h1 h2 h3,jh h4 h'];rfl
  .rw[sY h1 h2];exact jh h4 h'
theorem sZ{b:Ev}:∀{r es:ac},cf b tg tt fe r=.ok es->es.length<=r.length
 |[],es,h=>by cases h;exact Ql _
 |d::r,es,h=>by
  obtain⟨ρ1,t,h1,h2,h3⟩:=ji h;rcases h3 with⟨rfl,x,xs,h3,h4,rfl⟩|⟨rfl,h4⟩
  .exact Nat.succ_le_succ (sZ h4)
  .exact Nat.le_succ_of_le (sZ h4)
noncomputable def yG(n:Nat) (tg:Ev->D->ak Ev):Prop:=∀ρ d ρ',tg ρ d=.ok ρ'->ρ'.length=ρ.length/\∀(k:Nat),n<=k->ρ'[k]?=ρ[k]?
def eG(h:i<n):yG n (b6 i):=λρ d ρ' e=>by
 cases e;exact⟨by simp,λk hk=>by rw[Qm (by omega)]⟩
theorem lz:∀{is:am}{ds:ac}{ρ:Ev},(is.all λi=>decide (i<n))=true->(dr ρ is ds).length=ρ.length/\∀(k:Nat),n<=k->(dr ρ is ds)[k]?=ρ[k]?
 |[],ds,ρ,_=>by unfold dr;exact⟨rfl,λ_ _=>rfl⟩
 |i::is,[],ρ,_=>by unfold dr;exact⟨rfl,λ_ _=>rfl⟩
 |i::is,d::ds,ρ,h=>by
  rw[Tc,QK,decide_eq_true_eq]at h;unfold dr;obtain⟨h1,h2⟩:=lz (ds:=ds) (ρ:=ρ.set i (.sh d)) h.2;exact⟨by rw[h1];simp,λk hk=>by rw[h2 k hk,Qm (by omega)]⟩
def jB(h:(is.all λi=>decide (i<n))=true):yG n (dw is):=λρ d ρ' e=>by
 unfold dw at e;cases hp:gf is.length d with|none=>rw[hp]at e;cases e|some ds=>rw[hp]at e;cases e;exact lz h
def zX{K:P4}{fr:am}(h:Reads K Ha σ ρ):Reads K Ha (jr n fr σ) (cO n fr ρ):=λi d e=>by
 unfold cO at e;unfold jr
 by_cases hi:i<n
 .rw[Qo (by simpa using hi),QD,if_pos hi]at e
  cases e
 .rw[Qw (by simpa using hi),Q7,Qg]at e ⊢
  cases hf:fr[i-n]? with
  |none=>rw[hf]at e;cases e
  |some j=>
   rw[hf]at e;simp only[Se,RN]at e ⊢;cases hj:ρ[j]? with
   |none=>rw[hj]at e;cases e
   |some s=>
    rw[hj]at e;cases s with
    |sh d'=>
     cases e;obtain⟨v,h1,h2⟩:=h j d hj;exact⟨v,by rw[h1];rfl,h2⟩
    |_=>cases e
def Ig{fr:am}(h:k<n):(cO n fr ρ)[k]?=some .no:=by
 unfold cO;rw[Qo (by simpa using h),QD,if_pos h]
def FI{fr:am}(i j:Nat)(es:ac):(cO n fr ρ)[i]?≠some (.ox j es):=λe=>by
 unfold cO at e
 by_cases hj:i<n
 .rw[Qo (by simpa using hj),QD,if_pos hj]at e;cases e
 .rw[Qw (by simpa using hj),Qg]at e
  cases hf:fr[i-(QG n Sl.no).length]? with
  |none=>rw[hf]at e;cases e
  |some z=>
   rw[hf]at e;simp only[Se,RN]at e;split at e<;>cases e
def CP{fr:am}{σ:L2.St}(i:Nat)(a:P9)(e:(cO n fr ρ)[i]?=some (.pt a)):σ[i]?=some (some (.ref a)):=by
 unfold cO at e
 by_cases hj:i<n
 .rw[Qo (by simpa using hj),QD,if_pos hj]at e;cases e
 .rw[Qw (by simpa using hj),Qg]at e
  cases hf:fr[i-(QG n Sl.no).length]? with
  |none=>rw[hf]at e;cases e
  |some z=>
   rw[hf]at e;simp only[Se,RN]at e;split at e<;>cases e
def yE{fr:am}:(cO n fr ρ).length=n+fr.length:=by unfold cO;simp
def zQ{K:P4}{fr:am}(hsame:aG Ha H)(g1:bw H Ha H1 H01)(it:Lk K ds J H01)(hl:ds.length<=line)
  (e2:cf (cO n fr ρ) tg tt fe ds=.ok es)(hr:Reads K H01 σ ρ)(hok:yG n tg)
  (q:∀p vs H' Ha',bw H Ha H' Ha'->H p=none->Ha' p=none->H' p=some (.lst vs)->Reps K Ha' es vs->Q (.ref p) H') :
  qj n fr (KC K tg) (Lr K E tt) (tD K E fe) J σ H1 Q:=by
 intro Da hDa;have h0D:H01 Da=none:=g1.sub.free hDa;refine⟨λi m ys σ' H'=>m=ds.length-i/\i<=ds.length/\σ'.length=n+fr.length/\∃Ha',bw H1 H01 H' Ha'/\Ha' Da=none/\H' Da=some (.lst ys)/\Reads K Ha' σ' (cO n fr ρ)/\∃es1,cf (cO n fr ρ) tg tt fe (ds.take i)=.ok es1/\Reps K Ha' es1 ys,
  ⟨ds.length,by simp,R0 _,by unfold jr;simp,H01,?_,h0D,aF,zX hr,[],rfl,Reps.nil⟩,?_⟩
 .refine⟨λb o e=>by rw[az (bh e hDa)];exact e,aG.refl _,λb o e=>?_,λb k1 k2=>absurd k2 k1⟩
  rw[az (by intro z;subst z;rw[h0D]at e;cases e)];exact g1.sub _ _ e
 .rintro i m ys σ' H' ⟨rfl,hile,hsl,Ha',gg,hD0,hDl,hrd,es1,hes1,hys⟩
  refine⟨hDl,?_⟩
  by_cases hlt:i<ds.length
  .refine .inr ⟨it.go i H' Ha' gg.z gg.sub hlt,?_,?_⟩
   .rw[←hys.length]
    have:=sZ hes1;rw[Rc]at this;have h2:line<sizeLine:=by decide
    omega
   .intro x H2 hy
    obtain⟨H₀2,g2,rp⟩:=it.yld i H' Ha' x H2 ds[i] gg.z gg.sub (P5 hlt) hy;have hsplit:ds=ds.take i++(ds[i]::ds.drop (i+1)):=by rw[←QZ hlt,List.take_append_drop]
    rw[hsplit]at e2;obtain⟨a1,a2,k1,k2,k3⟩:=nY e2;rw[hes1]at k1;cases k1;obtain⟨ρ1,t,t1,t2,t3⟩:=ji k2;have hn2:H₀2 Da=none:=by
     cases qq:H₀2 Da with|none=>rfl|some o=>have:=g2.nw Da (by rw[qq];simp) hD0;rw[hDl]at this;cases this
    have hD2:H2 Da=some (.lst ys):=g2.s _ _ hDl;refine⟨H2,H₀2,H₀2,cO n fr ρ,ds[i],⟨bw.refl g2.sub,hrd.mono g2.z,λj d' e=>?_,λj k d1 d2 _ e=>?_,by rw[yE,hsl],OX.none FI CP⟩,rp,?_⟩
    .unfold cO at e
     by_cases hj:j<n
     .rw[Qo (by simpa using hj),QD,if_pos hj]at e;cases e
     .rw[Qw (by simpa using hj),Qg]at e
      cases hf:fr[j-(QG n Sl.no).length]? with
      |none=>rw[hf]at e;cases e
      |some z=>
       rw[hf]at e;simp only[Se,RN]at e;split at e<;>cases e
    .unfold cO at e
     by_cases hj:j<n
     .rw[Qo (by simpa using hj),QD,if_pos hj]at e;cases e
     .rw[Qw (by simpa using hj),Qg]at e
      cases hf:fr[j-(QG n Sl.no).length]? with
      |none=>rw[hf]at e;cases e
      |some z=>
       rw[hf]at e;simp only[Se,RN]at e;split at e<;>cases e
    .rw[t1]
     intro σ3 H3 H03 z3 s3;have hrl:=hok _ _ _ t1;have hσ3:σ3.length=n+fr.length:=by rw[←s3.ln,hrl.1,yE]
     have back:∀{Hx:Hp},aG H03 Hx->Reads K Hx σ3 (cO n fr ρ):=λ{Hx} sx k d e=>by
      by_cases hk:k<n
      .rw[Ig hk]at e;cases e
      .rw[←hrl.2 k (by omega)]at e
       obtain⟨v,h1,h2⟩:=s3.rd k d e;exact⟨v,h1,h2.mono sx⟩
     have n3:H03 Da=none:=by
      cases qq:H03 Da with|none=>rfl|some o=>have:=s3.g.nw Da (by rw[qq];simp) hn2;rw[hD2]at this;cases this
     have hD3:H3 Da=some (.lst ys):=s3.g.s _ _ hD2;refine⟨H03,ρ1,s3.g.sub,s3.rd,?_⟩;rw[t2];intro H4 H04 g4;have hD4:H4 Da=some (.lst ys):=g4.s _ _ hD3;have n4:H04 Da=none:=by
      cases qq:H04 Da with|none=>rfl|some o=>have:=g4.nw Da (by rw[qq];simp) n3;rw[hD3]at this;cases this
     have htake:ds.take (i+1)=ds.take i++[ds[i]]:=by rw[List.take_add_one,P5 hlt];rfl
     have g04:=(gg.trans g2).trans (s3.g.trans g4);rcases t3 with⟨rfl,y,xs,t3,t4,_⟩|⟨rfl,t4⟩
     .rw[if_pos rfl]
      refine⟨H04,ρ1,g4.sub,s3.rd.mono g4.z,?_⟩;rw[t3];intro yv H5 H05 g5 ry;have hD5:H5 Da=some (.lst ys):=g5.s _ _ hD4;have n5:H05 Da=none:=by
       cases qq:H05 Da with|none=>rfl|some o=>have:=g5.nw Da (by rw[qq];simp) n4;rw[hD4]at this;cases this
      have gall:=g04.trans g5;refine⟨hD5,ds.length-(i+1),by omega,rfl,hlt,hσ3,H05,⟨λb o e=>?_,gall.z,λb o e=>?_,gall.nw⟩,n5,aF,back (g4.z.trans g5.z),es1++[y],?_,?_⟩
      .rw[az (bh e hDa)];exact gall.s _ _ e
      .rw[az (by intro z;subst z;rw[n5]at e;cases e)];exact gall.sub _ _ e
      .rw[htake]
       refine jh hes1 ?_;rw[iS t1 t2 t3];rfl
      .exact(hys.mono ((g2.z.trans s3.g.z).trans (g4.z.trans g5.z))).app (Reps.cons ry Reps.nil)
     .rw[if_neg Ru]
      refine⟨ds.length-(i+1),by omega,rfl,hlt,hσ3,H04,g04,n4,hD4,back g4.z,es1,?_,hys.mono ((g2.z.trans s3.g.z).trans g4.z)⟩;rw[htake];rw[show es1=es1++[] by simp];refine jh hes1 ?_;rw[sY t1 t2];rfl
  .have hi2:i=ds.length:=by omega
   refine .inl ⟨it.stop i H' Ha' gg.z gg.sub (by omega),?_⟩;rw[hi2,List.take_length]at hes1;rw[e2]at hes1;cases hes1;exact q Da ys H' Ha' (g1.trans gg) (g1.s.free hDa) hD0 hDl hys
structure NR (X:Cx) (E:XK) (ifs:List QX) (f:Ev->ak D):Prop where
 o:LH X ifs (Lr X.K E f)
noncomputable def mYes:Ev->ak D:=λ_=>.ok (.bl true)
def fH:NR X E [] mYes:=⟨λπ s σ H Q I ⟨Ha,ρ,hs,hr,q⟩=>AG π s σ H Q I (q H Ha (bw.refl hs))⟩
def wt(h:DT X E c f):NR X E [c] f:=⟨GV h.o⟩
structure Ny (X:Cx) (E:XK) (e:QX) (f:Ev->ak D):Prop where
 ev:PE X e (tF X.K E f)
 st:∀{i:Nat}{x:Qu}{pos' spos:Pos},X.N.Nodup->X.N[i]?=some x->X.env.scope.names.lookup x=some .local -> Rq e (some (.Name x pos')) spos.line X.env=pure true->PS X (.Assign [.Name x pos'] e spos) (GB (tF X.K E f) (Ba i))
def PM(N:al)(n:Nat)(fr:am)(hc:X.calm=true)(hi:DI X E tgt iter src)(hok:yG n tg)
  (blk:∀s H C fp pn,(∀He η,DG (cS X N scope s H C fp pn) E He η tgt tg)/\NR (cS X N scope s H C fp pn) E ifs tt/\DE (cS X N scope s H C fp pn) E elt fe)
  (hfr:Ad X N n fr scope)(hcell:∀x∈scope.names,x.2≠.cell)(hfree:∀x∈scope.names,x.2=.free->X.env.scope.names.lookup x.1=some .cell)(hkind:scope.kind=.function)(hnames:∀x∈scope.names,x.2=.local -> scope.names.lookup x.1=some .local)
  (hs:∀x,foldedSetIterable iter X.env x=pure x:=by intro _;rfl):Ny X E (.ListComp elt [⟨tgt,iter,ifs,0⟩] scope pos) (di n fr src tg tt fe):=by
 have blk':∀s H C fp pn,PG (cS X N scope s H C fp pn) tgt (KC X.K tg)/\LH (cS X N scope s H C fp pn) ifs (Lr X.K E tt)/\PE (cS X N scope s H C fp pn) elt (tD X.K E fe):=λs H C fp pn=>
  ⟨λπ s' σ' H' v u Q' I r ⟨He,η,q'⟩=>((blk s H C fp pn).1 He η).o π s' σ' H' v u Q' I r q',(blk s H C fp pn).2.1.o,(blk s H C fp pn).2.2.o⟩
 have first:∀{π:List (P9×Obj)}{s:Qj}{σ:L2.St}{H:Hp}{Q:VK}{RR:P2->P9->Result->Qj->Prop},L2.Inv X π σ H s->tF X.K E (di n fr src tg tt fe) σ H Q ->
   (∀(Da C:P9) (s6:Qj) (H5:Hp) (m:Qu->Option P2),L2.Inv X π σ H5 s6->s6.heap.Ns C m->nk X π H5 C->Q (.ref Da) H5->RR (.ref Da) C (.ok .next) s6) ->
   QC (QB X.prog X.w) X.A (eval iter X.env) (λx sg=>QC (QB X.prog X.w) X.A (pyIter x) (λit si=>QC (QB X.prog X.w) X.A (newList []) (λacc sj=>
    QC (QB X.prog X.w) X.A (newFunctionEnv scope X.env.globals (gT X.env.cells scope.names []) [] X.env.qual none .none (some X.env)) (λcenv sk=>
     So (QB X.prog X.w) X.A (.compStart (.ListComp elt [⟨tgt,iter,ifs,0⟩] scope pos) 0 it acc { cenv with scope:=relabel scope X.env }) (RR acc cenv.locals) sk) X.xe sj) X.xe si) X.xe sg) X.xe s:=by
  intro π s σ H Q RR I ⟨Ha,ρ,hsame,hr,q⟩ fin;refine de (hi.o π s σ H (λJ H1=>qj n fr (KC X.K tg) (Lr X.K E tt) (tD X.K E fe) J σ H1 Q) I ⟨Ha,ρ,hsame,hr,?_⟩) λv s1 h1=>de h1 λitv s2 h2=>uX (N:=N) hc hfr hcell hfree hkind blk' h2 fin;unfold di at q;cases e1:src ρ with
  |stuck|exn x=>rw[e1]at q;exact q
  |ok ds=>
   rw[e1]at q;intro J H1 H01 g1 it;replace q:match (if ds.length<=line then match cf (cO n fr ρ) tg tt fe ds with
     |.ok es=>ak.ok (D.lst es)
     |_=>.stuck else .stuck) with
    |.ok (.lst ds)=>∀p vs H' Ha',bw H Ha H' Ha'->H p=none->Ha' p=none->H' p=some (.lst vs)->Reps X.K Ha' ds vs->Q (.ref p) H'
    |.ok _=>False
    |.exn x=>∀C ox H' Ha',bw H Ha H' Ha'->yL X.K Ha' x C ox->E C ox H'
    |.stuck=>False:=q
   by_cases hl:ds.length<=line
   .rw[if_pos hl]at q
    cases e2:cf (cO n fr ρ) tg tt fe ds with
    |stuck|exn x=>rw[e2]at q;exact q.elim
    |ok es=>
     rw[e2]at q;exact zQ hsame g1 it hl e2 (hr.mono g1.z) hok q
   .rw[if_neg hl]at q;exact q.elim
 have hcl:∀{π:List (P9×Obj)}{s:Qj}{σ:L2.St}{H:Hp},L2.Inv X π σ H s->closureFor scope X.env=pure (gT X.env.cells scope.names []):=λ{π s σ H} I=>kI λy hy hf=>I.ok.has y.1 (.inl (hfree y hy hf));refine⟨λπ s σ H Q I h=>?_,λ{i x pos' spos} hN hi' hx hsw π s σ H D' I h=>?_⟩
 .rw[eval_ListComp]
  refine wpAny_comprehension_free (use:=none) rfl hs (hcl I) hkind hnames (first (RR:=λacc C=>compPost (QB X.prog X.w) X.A X.xe none (EP X π σ Q) acc C) I h λDa C s6 H5 m I6 ns fC q=>?_);refine⟨m,ns,λh' sb=>⟨.ref Da,H5,?_,rfl,q⟩⟩;exact I6.turned (t':=s6.toks) (it:=C) (λb o hb e=>(sb.2 b hb).trans e) fC.1 fC.2.1 fC.2.2.2.1 fC.2.2.2.2.1 fC.2.2.2.2.2
 .rw[exec_Assign_Name_used _ _ _ _ hsw]
  refine P8 (wpAny_standAt (P8 ?_));show QC _ X.A (do let _ ←comprehension (.ListComp elt [⟨tgt,iter,ifs,0⟩] scope pos) scope X.env _ (newList []) false (eval iter X.env) (some (assign (.Name x pos') X.env))) _ _ s;refine P8 (Ri (wpAny_comprehension_free (use:=some (assign (.Name x pos') X.env)) (Q:=λ_ s'=>SP X π D' .next s') rfl hs (hcl I) hkind hnames
   (first (RR:=λacc C=>compPost (QB X.prog X.w) X.A X.xe (some (assign (.Name x pos') X.env)) (λ_ s'=>SP X π D' .next s') acc C) I h λDa C s6 H5 m I6 ns fC q=>?_)) (λ_ s' hq=>QH (QH hq)) λ_ _ e=>e)
  show QC _ X.A (assign (.Name x pos') X.env (.ref Da)) _ _ _;refine wpAny_assign_Name (ny (v:=.ref Da) I6 hN hi' (.inl hx) rfl (λs' I' z9=>?_) (.inr hx));obtain⟨a,sb,ha⟩:=z9;have hCa:C≠a:=by
   rcases ha with rfl|ha
   .exact fC.2.1
   .exact λz=>fC.2.2.2.2.1 x a ha z.symm
  refine⟨m,ns.sameBut sb hCa,λh' sb'=>⟨_,H5,?_,q⟩⟩;exact I'.turned (t':=s'.toks) (it:=C) (λb o hb e=>(sb'.2 b hb).trans e) fC.1 fC.2.1 fC.2.2.2.1 fC.2.2.2.2.1 fC.2.2.2.2.2
def Je(h:Ny X E e f):DF X E e f:=⟨h.ev⟩
def jR{fr:am}(h:Ny X E e (di n fr src tg tt fe)):DE X E e (di n fr src tg tt fe):=Fv CI (Je h)
section
variable {X:Cx}{E:XK}{He η:Hp}{e:QX}{f:Ev->ak D}{s:Ev->ak Fl}{pos:Pos}{st:RH}
def HI(hN:X.N.Nodup)(hi:X.N[i]?=some x)(hx:X.env.scope.names.lookup x=some .local)(he:Ny X E e f)(hs:Rq e (some (.Name x pos')) pos.line X.env=pure true:=by rfl):DS X E He η (.Assign [.Name x pos'] e pos) (gE i f):=by
 refine⟨bO (he.st hN hi hx hs) λD σ H z9=>?_⟩;obtain⟨Ha,ρ,h,q⟩:=z9;refine⟨Ha,ρ,h.g.sub,h.rd,?_⟩;unfold gE at q;cases e1:f ρ with
 |stuck=>rw[e1]at q;exact q|exn x=>rw[e1]at q;exact λC ox H' Ha' g ex=>q C ox H' Ha' (h.g.trans g) ex
 |ok d=>
  rw[e1]at q;cases d with
  |lst ds=>
   intro p vs H' Ha' g hp h0 hv rp;refine q _ H' Ha' g.z ((h.grow g).putOwn (λj a ej ea d ed=>?_) (h.g.s.free hp) h0 hv rp (h.fresh_x g.s hp));subst ea;obtain⟨a',k1,_,_,k4⟩:=h.ow j d ed;rw[ej]at k1;cases k1;cases d with|lst ds'|dic ks ds'=>obtain⟨vs',h5,_⟩:=k4;rw[hp]at h5;cases h5| _=>exact k4.elim
  |_=>exact q.elim
noncomputable def unown(i:Nat) (ρ:Ev):Ev:=match ρ[i]? with
 |some (.ow d)=>ρ.set i (.sh d)
 |_=>ρ
noncomputable def yY(i:Nat) (s:Ev->ak Fl):Ev->ak Fl:=λρ=>s (unown i ρ)
def eX.unown{K:P4}(h:eX K He η Ha σ H ρ)(i:Nat):∃Ha',aG Ha Ha'/\eX K He η Ha' σ H (DL.unown i ρ):=by
 unfold DL.unown;cases e:ρ[i]? with
 |none=>exact⟨Ha,aG.refl _,h⟩
 |some s=>
  cases s with
  |no|sh d|ox j ds|pt a=>exact⟨Ha,aG.refl _,h⟩
  |ow d=>
   obtain⟨a,k1,k2,k3,k4⟩:=h.ow i d e;obtain⟨o,h5,hrep⟩:∃o,H a=some o/\∀Hb,aG Ha Hb->Hb a=some o->Rep K Hb d (.ref a):=by
    cases d with
    |lst ds=>obtain⟨vs,h5,h6⟩:=k4;exact⟨_,h5,λHb z e=>aI.mpr ⟨a,vs,rfl,fk.of e,h6.mono z⟩⟩
    |dic ks ds=>obtain⟨vs,h5,hl,h6⟩:=k4;exact⟨_,h5,λHb z e=>by rw[Rep];exact⟨a,_,vs,rfl,.inl e,rfl,hl,h6.mono z⟩⟩
    |_=>exact k4.elim
   have z:aG Ha (upd Ha a o):=λb o' q=>by rw[az (by intro z;subst z;rw[k3]at q;cases q)];exact q
   have h':eX K He η (upd Ha a o) σ H (ρ.set i .no):=by
    have nset:∀(j:Nat) (s:Sl),(ρ.set i .no)[j]?=some s->s≠.no->j≠i/\ρ[j]?=some s:=λj s q hs=>by
     by_cases hj:i=j
     .subst hj
      rw[TK]at q;rw[e]at q;cases q;exact absurd rfl hs
     .rw[Qm hj]at q;exact⟨λz=>hj z.symm,q⟩
    refine⟨⟨h.g.s,h.g.z.trans z,λb o' q=>?_,λb q1 q2=>?_⟩,λj d' q=>?_,λj d' q=>?_,λj k d1 d2 hn q1 q2=>?_,by simp[h.ln],h.ex.upd (λj s q=>?_) z (λb us _ eb=>eb) λq us _ q0 hq hd=>?_⟩
    rotate_left 5
    .by_cases hs:s=.no
     .exact .inr (.inr (.inl hs))
     .exact .inl ⟨(nset j s q hs).2,rfl⟩
    .have hq':q≠a:=by
      intro zz;subst zz;exact hd i _ e k1
     exact⟨hq,by rw[az hq'];exact q0⟩
    .by_cases hb:b=a
     .subst hb;rw[aF]at q;cases q;exact h5
     .rw[az hb]at q;exact h.g.sub _ _ q
    .by_cases hb:b=a
     .subst hb;exact k2
     .rw[az hb]at q1;exact h.g.nw b q1 q2
    .obtain⟨hj,q⟩:=nset j _ q (λz=>nomatch z)
     obtain⟨v,q1,q2⟩:=h.rd j d' q;exact⟨v,q1,q2.mono z⟩
    .obtain⟨hj,q⟩:=nset j _ q (λz=>nomatch z)
     obtain⟨b,q1,q2,q3,q4⟩:=h.ow j d' q;have hb:b≠a:=by
      intro zz;subst zz;exact h.ap j i d' d hj q e (by rw[q1,k1])
     refine⟨b,q1,q2,by rw[az hb];exact q3,?_⟩;cases d' with|lst ds'=>obtain⟨vs',h7,h8⟩:=q4;exact⟨vs',h7,h8.mono z⟩|dic ks' ds'=>obtain⟨vs',h7,hl,h8⟩:=q4;exact⟨vs',h7,hl,h8.mono z⟩| _=>exact q4.elim
    .obtain⟨_,q1⟩:=nset j _ q1 (λz=>nomatch z)
     obtain⟨_,q2⟩:=nset k _ q2 (λz=>nomatch z);exact h.ap j k d1 d2 hn q1 q2
   refine⟨_,z,?_⟩;have hp:=h'.put (i:=i) (d:=d) (v:=.ref a) (hrep _ z aF);rw[List.set_set]at hp;have hσ:σ.set i (some (V.ref a))=σ:=by
    apply List.ext_getElem?;intro k
    by_cases hk:i=k
    .subst hk
     obtain⟨hil,_⟩:=Qa.mp k1;rw[QU hil,k1]
    .rw[Qm hk]
   rw[hσ]at hp;exact hp
def zN(i:Nat)(h:DS X E He η st s):DS X E He η st (yY i s):=⟨bO h.o λD' σ H z9=>by
 obtain⟨Ha,ρ,hr,q⟩:=z9;obtain⟨Ha',z,hr'⟩:=hr.unown i;exact⟨Ha',DL.unown i ρ,hr',b8.grow (r:=s (DL.unown i ρ)) q z⟩⟩
end
def nV(N:al)(n:Nat)(fr:am)(hc:X.calm=true)(hi:DI X E tgt iter src)(hok:yG n tg)
  (blk:∀s H C fp pn,(∀He η,DG (cS X N scope s H C fp pn) E He η tgt tg)/\NR (cS X N scope s H C fp pn) E ifs tt/\DE (cS X N scope s H C fp pn) E elt fe)
  (hfr:Ad X N n fr scope)(hcell:(scope.names.all λx=>!(x.2==.cell))=true)(hfree:(scope.names.all λx=>!(x.2==.free)||(X.env.scope.names.lookup x.1==some .cell))=true)(hkind:scope.kind=.function)
  (hnames:(scope.names.all λx=>!(x.2==.local)||(scope.names.lookup x.1==some .local))=true)
  (hs:∀x,foldedSetIterable iter X.env x=pure x:=by intro _;rfl):Ny X E (.ListComp elt [⟨tgt,iter,ifs,0⟩] scope pos) (di n fr src tg tt fe):=by
 refine PM N n fr hc hi hok blk hfr (λx hx z=>?_) (λx hx z=>?_) hkind (λx hx z=>?_) hs
 .have:=QF.mp hcell x hx
  rw[z]at this;simp at this
 .have:=QF.mp hfree x hx
  rw[z]at this;simpa using this
 .have:=QF.mp hnames x hx
  rw[z]at this;simpa using this
end DL
namespace Com
open PySem L2 DL
noncomputable def eW:Ev->ak Fl :=
 (aA (i8 (kf 1) (ag (ae 1) (dC (.int 0)) gS)
 (aA (uc 0 1 (af (ae 1) (af (ag (ae 0) (ae 1) dz) aC)))
 aw))
 (aA (b5 (aq (af (ae 0) aC) (m1 CH)))
 aw))
noncomputable def jI:ac->ak D:=b7 2 eW
noncomputable def um:Ev->ak Fl :=
 (aA (bJ 2 (aq (af (ae 0) (af (ae 1) aC)) jI))
 (aA (b5 (aq (af (ag (ae 0) (ae 2) sU) (af (ag (ae 1) (ae 2) sU) aC)) gj))
 aw))
noncomputable def F0:ac->ak D:=b7 3 um
noncomputable def zY:Ev->ak Fl :=
 (aA (b5 (gZ (bV (ae 0) (eC "int")) (cA (bV (ae 0) (eC "bool")))))
 aw)
noncomputable def m_is_whole:ac->ak D:=b7 1 zY
noncomputable def d5:Ev->ak Fl :=
 (aA (bJ 2 (aq (af (ae 0) aC) (m1 CH)))
 (aA (bJ 3 (aq (af (ae 1) aC) (m1 CH)))
 (aA (i8 (kf 3) (ag (ae 3) (dC (.int 0)) gS)
 (aA (bJ 4 (ag (ae 2) (ae 3) dz))
 (aA (bJ 2 (ae 3))
 (aA (bJ 3 (ae 4))
 aw))))
 (aA (b5 (ae 2))
 aw))))
noncomputable def m_common_divisor:ac->ak D:=b7 5 d5
noncomputable def p7:Ev->ak Fl :=
 (aA (er (iQ (cA (aq (af (ae 0) aC) m_is_whole)) (cA (aq (af (ae 1) aC) m_is_whole)))
 (aA cx
 aw)
 aw)
 (aA (er (ag (ae 1) (dC (.int 0)) kH)
 (aA cx
 aw)
 aw)
 (aA (bJ 2 (aq (af (ae 0) (af (ae 1) aC)) m_common_divisor))
 (aA (er (ag (ae 1) (dC (.int 0)) KZ)
 (aA (bJ 2 (bV (ae 2) pA))
 aw)
 aw)
 (aA (b5 (aq (af (ag (ae 0) (ae 2) sU) (af (ag (ae 1) (ae 2) sU) aC)) gj))
 aw)))))
noncomputable def m_ratio:ac->ak D:=b7 3 p7
noncomputable def FJ:Ev->ak Fl :=
 (aA (b5 (aq (af (ag (ag (ag (ae 0) (dC (.int 0)) aO) (ag (ae 1) (dC (.int 1)) aO) b3) (ag (ag (ae 1) (dC (.int 0)) aO) (ag (ae 0) (dC (.int 1)) aO) b3) cB) (af (ag (ag (ae 0) (dC (.int 1)) aO) (ag (ae 1) (dC (.int 1)) aO) b3) aC)) m_ratio))
 aw)
noncomputable def m_plus:ac->ak D:=b7 2 FJ
noncomputable def vg:Ev->ak Fl :=
 (aA (b5 (ag (ag (ag (ae 0) (dC (.int 0)) aO) (ag (ae 1) (dC (.int 1)) aO) b3) (ag (ag (ae 1) (dC (.int 0)) aO) (ag (ae 0) (dC (.int 1)) aO) b3) KZ))
 aw)
noncomputable def m_is_less:ac->ak D:=b7 2 vg
noncomputable def tK:Ev->ak Fl :=
 (aA (bJ 1 (dC (.tup [(.int 0),(.int 1)])))
 (aA (o8 (ae 0) (b6 2)
 (aA (bJ 1 (aq (af (ae 1) (af (ae 2) aC)) m_plus))
 aw))
 (aA (b5 (ae 1))
 aw)))
noncomputable def m_sum_of:ac->ak D:=b7 3 tK
def Ie{f:α->ak β}:(ak.ok a).bind f=f a:=rfl
def gD(h:s ρ=.ok (.nx ρ')):aA s t ρ=t ρ':=by unfold aA;rw[h];rfl
def vz(h:s ρ=.ok (.rt d)):aA s t ρ=.ok (.rt d):=by unfold aA;rw[h];rfl
def qt(h:s ρ=.ok (.nx ρ')):aA s aw ρ=.ok (.nx ρ'):=by unfold aA;rw[h];rfl
def yW(h:f ρ=.ok d):bJ i f ρ=.ok (.nx (ρ.set i (.sh d))):=by unfold bJ;rw[h];rfl
def vA(h:f (ey ρ)=.ok d):b5 f ρ=.ok (.rt d):=by unfold b5;rw[h];rfl
def Kx(h:c (ey ρ)=.ok (.bl false)):er c s t ρ=t ρ:=by unfold er;rw[h];rfl
def kT:gS (.int i) (.int j)=.ok (.bl (!(i==j))):=by unfold gS;rw[if_pos ⟨rfl,rfl⟩,c8]
def nO:kH (.int i) (.int j)=.ok (.bl (i==j)):=by unfold kH;rw[if_pos ⟨rfl,rfl⟩,c8]
def JH(h:s (ds.map Sl.sh++QG (n-ds.length) .no)=.ok (.rt d)):b7 n s ds=.ok d:=by unfold b7;rw[h];rfl
def ng(h:f ρ=.ok x)(h':fa ρ=.ok xs):af f fa ρ=.ok (x::xs):=by unfold af;rw[h,Ie,h'];rfl
def tH(h:f ρ=.ok x)(h':g ρ=.ok y):ag f g op ρ=op x y:=by unfold ag;rw[h,Ie,h'];rfl
def tE(h:fa ρ=.ok xs):aq fa m ρ=m xs:=by unfold aq;rw[h];rfl
def zt{a b:Int}(h:b≠0):dz (.int a) (.int b)=.ok (.int (a.fmod b)):=by
 show(if decide (b≠0)=true then ak.ok (D.int (a.fmod b)) else .stuck)=_;rw[if_pos (decide_eq_true h)]
def Fu{a b:Int}(h:fY a b=true):sU (.int a) (.int b)=.ok (.int (a.fdiv b)):=by
 show(if fY a b=true then ak.ok (D.int (a.fdiv b)) else .stuck)=_;rw[if_pos h]
def rk(a b:Int):QY b (a.fmod b)=QY a b:=by
 rw[Int.fmod_def,Int.gcd_sub_mul_left_right,Vi]
def Be{a b:Int}(h:b≠0):(a.fmod b).natAbs<b.natAbs:=by
 rcases Int.lt_or_gt_of_ne h with hb|hb
 .have h1:=Uc (-a) (show 0 < -b by omega)
  have h2:=SV (-a) (show 0 < -b by omega);rw[Int.neg_fmod_neg]at h1 h2;omega
 .have h1:=Uc a hb
  have h2:=SV a hb;omega
theorem mX:∀(n:Nat) (a b:Int),b.natAbs<n->∃g:Int,g.natAbs=QY a b /\
  cC (ag (ae 1) (dC (.int 0)) gS) (aA (uc 0 1 (af (ae 1) (af (ag (ae 0) (ae 1) dz) aC))) aw) n [.sh (.int a),.sh (.int b)]=.ok (.nx [.sh (.int g),.sh (.int 0)])
 |0,a,b,h=>absurd h (UC _)
 |n+1,a,b,h=>by
  unfold cC;have c:(ag (ae 1) (dC (.int 0)) gS) (ey [.sh (.int a),.sh (.int b)])=.ok (.bl (!(b==0))):=kT;rw[c]
  by_cases hb:b=0
  .subst hb
   exact⟨a,by simp,rfl⟩
  .have e:(!(b==0))=true:=by simp[hb]
   obtain⟨g,h1,h2⟩:=mX n b (a.fmod b) (by have:=Be (a:=a) hb;omega);refine⟨g,by rw[h1,rk],?_⟩;rw[←h2];rw[e];have st:(aA (uc 0 1 (af (ae 1) (af (ag (ae 0) (ae 1) dz) aC))) aw) [.sh (.int a),.sh (.int b)]=.ok (.nx [.sh (.int b),.sh (.int (a.fmod b))]):=by
    refine qt ?_;unfold uc;have:(af (ae 1) (af (ag (ae 0) (ae 1) dz) aC)) [.sh (.int a),.sh (.int b)]=.ok [.int b,.int (a.fmod b)]:=by
     exact ng rfl (ng (zt hb) rfl)
    rw[this];rfl
   show(ak.bind _ _)=_;rw[st];rfl
def KP(a b:Int):jI [.int a,.int b]=.ok (.int (QY a b)):=by
 obtain⟨g,h1,h2⟩:=mX (b.natAbs+1) a b (Sq _);have w:i8 (kf 1) (ag (ae 1) (dC (.int 0)) gS) (aA (uc 0 1 (af (ae 1) (af (ag (ae 0) (ae 1) dz) aC))) aw) [.sh (.int a),.sh (.int b)]=.ok (.nx [.sh (.int g),.sh (.int 0)]):=h2;have r:eW [.sh (.int a),.sh (.int b)]=.ok (.rt (.int (if g<0 then -g else g))):=by
  unfold eW;rw[gD w];exact vz (vA rfl)
 show(eW [.sh (.int a),.sh (.int b)]).bind _=_;rw[r];show ak.ok (D.int (if g<0 then -g else g))=_
 congr 2
 rw[←h1];split<;>omega
theorem oP:∀(n:Nat) (x y:D) (a b:Int) (r:Sl),0<=a->0<=b->b.natAbs<n->∃r',
  cC (ag (ae 3) (dC (.int 0)) gS) (aA (bJ 4 (ag (ae 2) (ae 3) dz)) (aA (bJ 2 (ae 3)) (aA (bJ 3 (ae 4)) aw))) n [.sh x,.sh y,.sh (.int a),.sh (.int b),r]=.ok (.nx [.sh x,.sh y,.sh (.int (QY a b)),.sh (.int 0),r'])
 |0,_,_,a,b,_,_,_,h=>absurd h (UC _)
 |n+1,x,y,a,b,r,ha,hb0,h=>by
  unfold cC;have c:∀r,(ag (ae 3) (dC (.int 0)) gS) (ey [.sh x,.sh y,.sh (.int a),.sh (.int b),r])=.ok (.bl (!(b==0))):=λr=>kT;rw[c]
  by_cases hb:b=0
  .subst hb
   refine⟨r,?_⟩;have e:((QY a 0:Nat):Int)=a:=by simp;omega
   rw[e];rfl
  .have e:(!(b==0))=true:=by simp[hb]
   have hp:0<b:=by omega
   obtain⟨r',h2⟩:=oP n x y b (a.fmod b) (.sh (.int (a.fmod b))) hb0 (SV a hp) (by have:=Be (a:=a) hb;omega);refine⟨r',?_⟩;rw[rk]at h2;rw[←h2,e];have st:(aA (bJ 4 (ag (ae 2) (ae 3) dz)) (aA (bJ 2 (ae 3)) (aA (bJ 3 (ae 4)) aw))) [.sh x,.sh y,.sh (.int a),.sh (.int b),r]=.ok (.nx [.sh x,.sh y,.sh (.int b),.sh (.int (a.fmod b)),.sh (.int (a.fmod b))]):=by
    have m:(ag (ae 2) (ae 3) dz) [.sh x,.sh y,.sh (.int a),.sh (.int b),r]=.ok (.int (a.fmod b)):=by
     exact zt hb
    rw[gD (yW m)];rfl
   show(ak.bind _ _)=_;rw[st];rfl
def nX(a b:Int):m_common_divisor [.int a,.int b]=.ok (.int (QY a b)):=by
 have e:∀i:Int,(if i<0 then -i else i)=(i.natAbs:Int):=λi=>by split<;>omega
 obtain⟨r',h⟩:=oP ((b.natAbs:Int).natAbs+1) (.int a) (.int b) a.natAbs b.natAbs .no (Int.natCast_nonneg _) (Int.natCast_nonneg _) (Sq _);have hg:QY (a.natAbs:Int) (b.natAbs:Int)=QY a b:=by simp[QY]
 rw[hg]at h;have r:d5 [.sh (.int a),.sh (.int b),.no,.no,.no]=.ok (.rt (.int (QY a b))):=by
  unfold d5;rw[gD (ρ':=[.sh (.int a),.sh (.int b),.sh (.int (a.natAbs:Int)),.no,.no]) (by rw[←e a];rfl)];rw[gD (ρ':=[.sh (.int a),.sh (.int b),.sh (.int (a.natAbs:Int)),.sh (.int (b.natAbs:Int)),.no]) (by rw[←e b];rfl)];have w:i8 (kf 3) (ag (ae 3) (dC (.int 0)) gS) (aA (bJ 4 (ag (ae 2) (ae 3) dz)) (aA (bJ 2 (ae 3)) (aA (bJ 3 (ae 4)) aw))) [.sh (.int a),.sh (.int b),.sh (.int (a.natAbs:Int)),.sh (.int (b.natAbs:Int)),.no]=.ok (.nx [.sh (.int a),.sh (.int b),.sh (.int (QY a b)),.sh (.int 0),r']):=h;rw[gD w];exact vz (vA rfl)
 show(d5 [.sh (.int a),.sh (.int b),.no,.no,.no]).bind _=_;rw[r];rfl
def zb:(2:Nat) ^ 64<=Af:=by rw[tX];exact R4 (by decide) (by decide)
def MK{i:Int}(h:i.natAbs<18446744073709551616):i.natAbs<Af:=Qk h zb
def gM(h:i.natAbs<18446744073709551616)(h':j.natAbs<18446744073709551616):eK i j=true:=by
 unfold eK;rw[QK];exact⟨decide_eq_true (MK h),decide_eq_true (MK h')⟩
def c6(h:i.natAbs<Af)(h':j.natAbs<Af):eK i j=true:=by
 unfold eK;rw[QK];exact⟨decide_eq_true h,decide_eq_true h'⟩
def Jd(h0:j≠0)(h:j.natAbs<B9):fY i j=true:=by
 unfold fY;rw[QK,UG];exact⟨decide_eq_true h0,.inl (decide_eq_true h)⟩
def wq(h0:j≠0)(h:i.natAbs<wI):fY i j=true:=by
 unfold fY;rw[QK,UG];exact⟨decide_eq_true h0,.inr (decide_eq_true h)⟩
def ir{k:Nat}(h:ds[k]?=some d):aO (.lst ds) (.int (k:Int))=.ok d:=by
 unfold aO;simp only[fJ h]
def fg{a b:Int}(hb:0<b):0<=a.fmod b/\a.fmod b<b:=⟨SV a hb,Uc a hb⟩
def Cs(h:k<n):(DL.intsFrom 0 n).drop k=.int (k:Int)::(DL.intsFrom 0 n).drop (k+1):=by
 have hl:(DL.intsFrom 0 n).length=n:=by unfold DL.intsFrom;simp
 rw[QZ (by rw[hl];exact h)]
 congr 1
 unfold DL.intsFrom;simp
def EL:(DL.intsFrom 0 n).drop n=[]:=by
 have hl:(DL.intsFrom 0 n).length=n:=by unfold DL.intsFrom;simp
 exact List.drop_eq_nil_of_le (by omega)
def lO(h1:tg ρ d=.ok ρ1)(h2:s ρ1=.ok (.nx ρ2)):cg tg s (d::r) ρ=cg tg s r ρ2:=by
 rw[cg,h1,Ie,h2,Ie]
noncomputable def A6:D->Bool
 |.int _=>true
 |_=>false
def bY(d:D):m_is_whole [d]=.ok (.bl (A6 d)):=by cases d<;>first|rfl|(rename_i k _;cases k<;>rfl)
def lQ{a g:Int}(hg:0<g):a.fdiv g=a / g:=Int.fdiv_eq_ediv_of_nonneg a (by omega)
def pO{a b:Int}(h:b≠0):0<(QY a b:Int):=by
 have:=Int.gcd_pos_of_ne_zero_right a h;omega
def DD{a b:Int}(hb:0<b)(h1:a.natAbs<wI)(h2:b.natAbs<wI):m_ratio [.int a,.int b]=.ok (.tup [.int (a / QY a b),.int (b / QY a b)]):=by
 have hg:=pO (a:=a) (b:=b) (by omega);have r:p7 [.sh (.int a),.sh (.int b),.no]=.ok (.rt (.tup [.int (a / QY a b),.int (b / QY a b)])):=by
  unfold p7;rw[gD (ρ':=[.sh (.int a),.sh (.int b),.no]) (Kx (t:=aw) rfl)];rw[gD (ρ':=[.sh (.int a),.sh (.int b),.no]) (Kx (t:=aw) ((tH (x:=.int b) (y:=.int 0) rfl rfl).trans (nO.trans (by rw[beq_eq_false_iff_ne.mpr (by omega)]))))];rw[gD (ρ':=[.sh (.int a),.sh (.int b),.sh (.int (QY a b))]) (yW ((tE (xs:=[.int a,.int b]) rfl).trans (nX a b)))];rw[gD (ρ':=[.sh (.int a),.sh (.int b),.sh (.int (QY a b))]) (Kx (t:=aw) (by
   show ak.ok (D.bl (decide (b<0)))=_;rw[decide_eq_false (by omega)]))]
  refine vz (vA ?_);refine(tE (xs:=[.int (a / QY a b),.int (b / QY a b)]) (ng ?_ (ng ?_ rfl))).trans rfl
  .rw[←lQ hg]
   exact(tH (x:=.int a) (y:=.int (QY a b)) rfl rfl).trans (Fu (wq (by omega) h1))
  .rw[←lQ hg]
   exact(tH (x:=.int b) (y:=.int (QY a b)) rfl rfl).trans (Fu (wq (by omega) h2))
 show(p7 [.sh (.int a),.sh (.int b),.no]).bind _=_;rw[r];rfl
noncomputable def M0(p q:Int):D:=.tup [.int p,.int q]
end Com
open Com
namespace Com
open PySem L2 DL
noncomputable abbrev e8:=Int×Int
noncomputable def fr(x:e8):D:=M0 x.1 x.2
noncomputable def F3:Nat:=1000000000000000000000000000000000000000000000000000000000000
def Im:F3<=wI:=by rw[tY];exact QM (show F3<=2 ^ 200 by decide) (R4 (by decide) (by decide))
def BS:wI<=Af:=by rw[tY,tX];exact R4 (by decide) (by decide)
structure Low (x:e8):Prop where
 q1:1<=x.2
 g1:QY x.1 x.2=1
structure yH (x:e8):Prop extends Low x where
 pN:x.1.natAbs<F3
 qN:x.2.natAbs<F3
noncomputable def oA(a b:Int):e8:=(a / QY a b,b / QY a b)
def ic{a b:Int}(hb:0<b):Low (oA a b):=by
 have hg:=pO (a:=a) (b:=b) (by omega);refine⟨?_,Int.gcd_ediv_gcd_ediv_gcd (by omega)⟩;have:=Int.ediv_gcd_ne_zero_if_ne_zero_right a (show b≠0 by omega);have h2:0<=b / (QY a b:Int):=Int.ediv_nonneg (by omega) (by omega);show 1<=b / (QY a b:Int);omega
def Ho{a b:Int}:(oA a b).1*b=a*(oA a b).2:=by
 unfold oA;obtain⟨x,hx⟩:=Uv a b;obtain⟨y,hy⟩:=Int.gcd_dvd_right a b
 by_cases hg:(QY a b:Int)=0
 .simp only[hg,Int.ediv_zero,Int.zero_mul,Int.mul_zero]
 .generalize hG:(QY a b:Int)=G at *
  have e1:a / G=x:=by rw[hx];exact U2 x hg
  have e2:b / G=y:=by rw[hy];exact U2 y hg
  show a / G*b=a*(b / G);rw[e1,e2]
  calc x*b=x*(G*y):=by rw[←hy]
   _=G*x*y:=by grind
   _=a*y:=by rw[←hx]
def vT{a b:Int}:(oA a b).1.natAbs<=a.natAbs:=US _ _
def vS{a b:Int}:(oA a b).2.natAbs<=b.natAbs:=US _ _
def Eu(hx:Low x)(hy:Low y)(h:x.1*y.2=y.1*x.2):x=y:=by
 have d1:x.2∣y.2:=by
  have:x.2∣x.1*y.2:=⟨y.1,by rw[h];exact Int.mul_comm _ _⟩
  rw[←UH,Vi,hx.g1]at this;simpa using this
 have d2:y.2∣x.2:=by
  have:y.2∣y.1*x.2:=⟨x.1,by rw[←h];exact Int.mul_comm _ _⟩
  rw[←UH,Vi,hy.g1]at this;simpa using this
 have e:x.2=y.2:=Int.dvd_antisymm (by have:=hx.q1;omega) (by have:=hy.q1;omega) d1 d2;have e1:x.1=y.1:=by
  rw[e]at h;exact Int.eq_of_mul_eq_mul_right (by have:=hy.q1;omega) h
 exact Prod.ext e1 e
def qB{a b:Int}(hb:0<b)(h1:a.natAbs<wI)(h2:b.natAbs<wI):m_ratio [.int a,.int b]=.ok (fr (oA a b)):=DD hb h1 h2
def MM{a b:Int}(hb:0<b)(h1:a.natAbs<F3)(h2:b.natAbs<F3):yH (oA a b):=⟨ic hb,RW vT h1,RW vS h2⟩
noncomputable def flt(x y:e8):Bool:=decide (x.1*y.2<y.1*x.2)
def aJ{α:Type}{a b:α}(h:a=b):a=b:=h
noncomputable def JF(t:Ev->ak Fl) (r:Fl):ak Fl:=match r with
 |.nx ρ'=>t ρ'
 |r=>.ok r
noncomputable def L8(i:Nat) (ρ:Ev) (d:D):ak Fl:=.ok (.nx (ρ.set i (.sh d)))
noncomputable def L9(d:D):ak Fl:=.ok (.rt d)
noncomputable def Jb(ρ:Ev) (_:D):ak Fl:=.ok (.nx ρ)
noncomputable def Ou(s t:Ev->ak Fl) (ρ:Ev) (x:D):ak Fl:=match x with
 |.bl b=>if b=true then s ρ else t ρ
 |_=>.stuck
noncomputable def J8(i:Nat) (ρ:Ev) (d:D):ak Fl:=match d with
 |.lst ds=>.ok (.nx (ρ.set i (.ow (.lst ds))))
 |_=>.stuck
noncomputable def G1(s:Option Sl) (k:ac->ak Fl):ak Fl:=match s with
 |some (.ow (.lst ds))=>k ds
 |_=>.stuck
noncomputable def K9(i:Nat) (ρ:Ev) (ds:ac) (d:D):ak Fl:=if ds.length<line then .ok (.nx (ρ.set i (.ow (.lst (ds++[d]))))) else .stuck
noncomputable def Mk(i:Nat) (ρ:Ev) (k:Ev->ak D) (ds:ac) (d:D):ak Fl:=(k ρ).bind (DL.putAt ρ i ds d)
noncomputable def za(i:Nat) (ρ:Ev) (ds:ac) (d j:D):ak Fl:=if iN d=true then DL.putAt ρ i ds d j else .stuck
noncomputable def IC(i:Nat) (ρ:Ev) (k:Ev->ak D) (ds:ac) (d:D):ak Fl:=(k (ey ρ)).bind (za i ρ ds d)
noncomputable def Mu(i j:Nat) (ρ:Ev) (ds:ac):ak Fl:=match ds with
 |[x,y]=>.ok (.nx ((ρ.set i (.sh x)).set j (.sh y)))
 |_=>.stuck
noncomputable def k2(g:Ev->ak D) (op:D->D->ak D) (ρ:Ev) (x:D):ak D:=(g ρ).bind (op x)
noncomputable def zP(x:D) (xs:ac):ak (ac):=.ok (x::xs)
noncomputable def Jf(fa:Ev->ak (ac)) (ρ:Ev) (x:D):ak (ac):=(fa ρ).bind (zP x)
noncomputable def La(g:Ev->ak D) (ρ:Ev) (x:D):ak D:=match x with
 |.bl true=>g ρ
 |.bl false=>.ok (.bl false)
 |_=>.stuck
noncomputable def Om(g:Ev->ak D) (ρ:Ev) (x:D):ak D:=match x with
 |.bl true=>.ok (.bl true)
 |.bl false=>g ρ
 |_=>.stuck
noncomputable def Mz(x:D):ak D:=match x with
 |.bl b=>.ok (.bl (!b))
 |_=>.stuck
noncomputable def Kw(f g:Ev->ak D) (ρ:Ev) (x:D):ak D:=match x with
 |.bl true=>f ρ
 |.bl false=>g ρ
 |_=>.stuck
noncomputable def LN(s:Option Sl):ak D:=match s with
 |some (.sh d)=>.ok d
 |_=>.stuck
noncomputable def vy(s:Sl):Sl:=match s with
 |.ow d=>.sh d
 |.ox _ ds=>.sh (.tup ds)
 |x=>x
noncomputable def JJ(r:Fl):ak D:=match r with
 |.nx _=>.ok .non
 |.rt d=>.ok d
 |_=>.stuck
noncomputable def O2(x:D):ak (Option Int):=match x with
 |.int i=>.ok (some i)
 |_=>.stuck
noncomputable def JC(x:D) (l:Option Int) (h:Option Int):ak D:=qo x l h
noncomputable def Of(hi:Ev->ak (Option Int)) (ρ:Ev) (x:D) (l:Option Int):ak D:=(hi ρ).bind (JC x l)
noncomputable def L7(lo hi:Ev->ak (Option Int)) (ρ:Ev) (x:D):ak D:=(lo ρ).bind (Of hi ρ x)
noncomputable def KD(tg:Ev->D->ak Ev) (s:Ev->ak Fl) (ρ:Ev) (d:D):ak Fl:=match d with
 |.lst ds=>cg tg s ds ρ
 |_=>.stuck
noncomputable def Ia(op':D->D->ak D) (h:Ev->ak D) (ρ:Ev) (y z:D):ak D:=match z with
 |.bl true=>(h ρ).bind (op' y)
 |.bl false=>.ok (.bl false)
 |_=>.stuck
noncomputable def K3(op op':D->D->ak D) (h:Ev->ak D) (ρ:Ev) (x y:D):ak D:=(op x y).bind (Ia op' h ρ y)
noncomputable def Pd(op op':D->D->ak D) (g h:Ev->ak D) (ρ:Ev) (x:D):ak D:=(g ρ).bind (K3 op op' h ρ x)
section
variable {s t:Ev->ak Fl}{f g h:Ev->ak D}{fa:Ev->ak (ac)}{ρ r:Ev}{i j:Nat}{d x y:D}{ds xs:ac}{op op':D->D->ak D}{a b:Int}
def uO{a:α}{k:α->ak β}:(ak.ok a).bind k=k a:=aJ rfl
def kW:aA s t ρ=(s ρ).bind (JF t):=aJ rfl
def l4:JF t (.nx ρ)=t ρ:=aJ rfl
def l3:JF t (.rt d)=.ok (.rt d):=aJ rfl
def mn:aw ρ=.ok (.nx ρ):=aJ rfl
def rG:bJ i f ρ=(f ρ).bind (L8 i ρ):=aJ rfl
def lZ:L8 i ρ d=.ok (.nx (ρ.set i (.sh d))):=aJ rfl
def rK:b5 f ρ=(f (ey ρ)).bind L9:=aJ rfl
def l7:L9 d=.ok (.rt d):=aJ rfl
def mJ:fL f ρ=(f (ey ρ)).bind (Jb ρ):=aJ rfl
def jN:Jb ρ d=.ok (.nx ρ):=aJ rfl
def yf:er f s t ρ=(f (ey ρ)).bind (Ou s t ρ):=aJ rfl
def sA:Ou s t ρ (.bl true)=s ρ:=aJ rfl
def su:Ou s t ρ (.bl false)=t ρ:=aJ rfl
def rR:gE i f ρ=(f ρ).bind (J8 i ρ):=aJ rfl
def mj:J8 i ρ (.lst ds)=.ok (.nx (ρ.set i (.ow (.lst ds)))):=aJ rfl
def sJ:cU i f ρ=G1 ρ[i]? λds=>(f ρ).bind (K9 i ρ ds):=aJ rfl
def mh:G1 (some (.ow (.lst ds))) k=k ds:=aJ rfl
def eu(h:decide (ds.length<=999)=true):K9 i ρ ds d=.ok (.nx (ρ.set i (.ow (.lst (ds++[d]))))):=if_pos (RW (of_decide_eq_true h) (by decide))
def rP:Du i f g ρ=G1 ρ[i]? λds=>(f ρ).bind (Mk i ρ g ds):=aJ rfl
def md:Mk i ρ g ds d=(g ρ).bind (DL.putAt ρ i ds d):=aJ rfl
def ma:xh i f g ρ=G1 ρ[i]? λds=>(f (ey ρ)).bind (IC i ρ g ds):=aJ rfl
def jL:IC i ρ g ds d=(g (ey ρ)).bind (za i ρ ds d):=aJ rfl
def E2(hf:iN d=true):za i ρ ds d x=DL.putAt ρ i ds d x:=if_pos hf
def sC:yY i s ρ=s (unown i ρ):=aJ rfl
def rQ:uc i j fa ρ=(fa ρ).bind (Mu i j ρ):=aJ rfl
def mf:Mu i j ρ [x,y]=.ok (.nx ((ρ.set i (.sh x)).set j (.sh y))):=aJ rfl
def ym:bV f o ρ=(f ρ).bind o:=aJ rfl
def yl:ag f g op ρ=(f ρ).bind (k2 g op ρ):=aJ rfl
def sI:k2 g op ρ x=(g ρ).bind (op x):=aJ rfl
def yk:aq fa m ρ=(fa ρ).bind m:=aJ rfl
def rX:aC ρ=.ok []:=aJ rfl
def mK:af f fa ρ=(f ρ).bind (Jf fa ρ):=aJ rfl
def jP:Jf fa ρ x=(fa ρ).bind (zP x):=aJ rfl
def jO:zP x xs=.ok (x::xs):=aJ rfl
def sL:gZ f g ρ=(f ρ).bind (La g ρ):=aJ rfl
def mO:La g ρ (.bl true)=g ρ:=aJ rfl
def mM:La g ρ (.bl false)=.ok (.bl false):=aJ rfl
def yb:iQ f g ρ=(f ρ).bind (Om g ρ):=aJ rfl
def rV:Om g ρ (.bl true)=.ok (.bl true):=aJ rfl
def rT:Om g ρ (.bl false)=g ρ:=aJ rfl
def rW:cA f ρ=(f ρ).bind Mz:=aJ rfl
def ml:Mz (.bl c)=.ok (.bl (!c)):=aJ rfl
def sr:Nk h f g ρ=(h ρ).bind (Kw f g ρ):=aJ rfl
def mF:Kw f g ρ (.bl true)=f ρ:=aJ rfl
def mE:Kw f g ρ (.bl false)=g ρ:=aJ rfl
def rm:ae i ρ=LN ρ[i]?:=aJ rfl
def lR:LN (some (.sh d))=.ok d:=aJ rfl
def E3:dC d ρ=.ok d:=aJ rfl
def lY:ey []=[]:=aJ rfl
def rE:ey (c::r)=vy c::ey r:=aJ rfl
def lX:vy (.ow d)=.sh d:=aJ rfl
def pU:vy (.ox j ds)=.sh (.tup ds):=aJ rfl
def lW:vy (.sh d)=.sh d:=aJ rfl
def lV:vy .no=.no:=aJ rfl
def rJ:b7 n s ds=(s (ds.map Sl.sh++QG (n-ds.length) .no)).bind JJ:=aJ rfl
def l6:JJ (.rt d)=.ok d:=aJ rfl
def l5:JJ (.nx ρ)=.ok .non:=aJ rfl
def ya:gK f ρ=(f ρ).bind O2:=aJ rfl
def rS:O2 (.int a)=.ok (some a):=aJ rfl
def yc:ib ρ=.ok none:=aJ rfl
def xY:HX f lo hi ρ=(f ρ).bind (L7 lo hi ρ):=aJ rfl
def rB:L7 lo hi ρ x=(lo ρ).bind (Of hi ρ x):=aJ rfl
def rA:Of hi ρ x l=(hi ρ).bind (JC x l):=aJ rfl
def rz:JC (.lst ds) l l'=.ok (.lst (wy ds l l')):=aJ rfl
def sD:o8 f tg s ρ=(f ρ).bind (KD tg s ρ):=aJ rfl
def mI:KD tg s ρ (.lst ds)=cg tg s ds ρ:=aJ rfl
def jQ:iA op op' f g h ρ=(f ρ).bind (Pd op op' g h ρ):=aJ rfl
def yg:Pd op op' g h ρ x=(g ρ).bind (K3 op op' h ρ x):=aJ rfl
def sH:K3 op op' h ρ x y=(op x y).bind (Ia op' h ρ y):=aJ rfl
def sG:Ia op' h ρ y (.bl true)=(h ρ).bind (op' y):=aJ rfl
def sE:Ia op' h ρ y (.bl false)=.ok (.bl false):=aJ rfl
def sq:xR (λ_ _=>true) o (.int a) (.int b)=.ok (o a b):=aJ rfl
def sN:cB (.int a) (.int b)=.ok (.int (a+b)):=aJ rfl
def jg(h:decide (ds.length+es.length<=1000)=true):cB (.lst ds) (.lst es)=.ok (.lst (ds++es)):=if_pos (QM (of_decide_eq_true h) (by decide))
def rY:pA (.int a)=.ok (.int (-a)):=aJ rfl
def ye:m1 m [x]=m x:=aJ rfl
def yd:m2 m [x,y]=m x y:=aJ rfl
def cX:cT (.lst ds)=.ok (.int ds.length):=aJ rfl
def mq:cT (.tup ds)=.ok (.int ds.length):=aJ rfl
def rq(h:decide (ds.length<=1000)=true):gj ds=.ok (.tup ds):=if_pos (QM (of_decide_eq_true h) (by decide))
def r0(h:decide (ds.length<=1000)=true):b9 ds=.ok (.lst ds):=if_pos (QM (of_decide_eq_true h) (by decide))
def dI:eC "bool" (.int a)=.ok (.bl false):=aJ rfl
def el:eC "int" (.int a)=.ok (.bl true):=aJ rfl
def eh:eC "str" (.str z)=.ok (.bl true):=aJ rfl
def dm:eC "tuple" (.tup ds)=.ok (.bl true):=aJ rfl
def dH:eC "list" (.lst ds)=.ok (.bl true):=aJ rfl
def gR:uk (.non) .non=.ok (.bl true):=aJ rfl
def fR:ij (.non) .non=.ok (.bl false):=aJ rfl
def gQ:uk (.str z) .non=.ok (.bl false):=aJ rfl
def fQ:ij (.str z) .non=.ok (.bl true):=aJ rfl
def gP:uk (.tup ds) .non=.ok (.bl false):=aJ rfl
def bZ(h:eK a b=true):b3 (.int a) (.int b)=.ok (.int (a*b)):=if_pos h
def rZ(h:(b==0)=false):dz (.int a) (.int b)=.ok (.int (a.fmod b)):=zt (λz=>by rw[z]at h;cases h)
def wb(h:fY a b=true):sU (.int a) (.int b)=.ok (.int (a.fdiv b)):=if_pos h
def xZ:dr ρ (i::is) (d::ds)=dr (ρ.set i (.sh d)) is ds:=aJ rfl
def rH:dr ρ [] ds=ρ:=aJ rfl
noncomputable def OS(i:Nat) (ρ:Ev) (s:Option Sl):Ev:=match s with
 |some (.ow d)=>ρ.set i (.sh d)
 |_=>ρ
def xX:unown i ρ=OS i ρ ρ[i]?:=aJ rfl
def rn:OS i ρ (some (.ow d))=ρ.set i (.sh d):=aJ rfl
def rO{j:Int}(h:uK ds.length j=some n):DL.putAt ρ i ds d (.int j)=.ok (.nx (ρ.set i (.ow (.lst (ds.set n d))))):=by
 unfold DL.putAt;simp only[h]
def kj:aO (.lst (x0::xs)) (.int 0)=.ok x0:=by
 unfold aO;simp only[show atI (x0::xs) 0=some x0 from fJ (j:=0) rfl]
def mC:aO (.tup (x0::xs)) (.int 0)=.ok x0:=by
 unfold aO;simp only[show atI (x0::xs) 0=some x0 from fJ (j:=0) rfl]
def ki:aO (.lst (x0::x1::xs)) (.int 1)=.ok x1:=by
 unfold aO;simp only[show atI (x0::x1::xs) 1=some x1 from fJ (j:=1) rfl]
def mz:aO (.tup (x0::x1::xs)) (.int 1)=.ok x1:=by
 unfold aO;simp only[show atI (x0::x1::xs) 1=some x1 from fJ (j:=1) rfl]
def mD:aO (.lst (x0::x1::x2::xs)) (.int 2)=.ok x2:=by
 unfold aO;simp only[show atI (x0::x1::x2::xs) 2=some x2 from fJ (j:=2) rfl]
def my:aO (.tup (x0::x1::x2::xs)) (.int 2)=.ok x2:=by
 unfold aO;simp only[show atI (x0::x1::x2::xs) 2=some x2 from fJ (j:=2) rfl]
def mx:aO (.tup (x0::x1::x2::x3::xs)) (.int 3)=.ok x3:=by
 unfold aO;simp only[show atI (x0::x1::x2::x3::xs) 3=some x3 from fJ (j:=3) rfl]
def mw:aO (.tup (x0::x1::x2::x3::x4::xs)) (.int 4)=.ok x4:=by
 unfold aO;simp only[show atI (x0::x1::x2::x3::x4::xs) 4=some x4 from fJ (j:=4) rfl]
def yj:((2:Nat):Int)=2:=aJ rfl
def yi:((4:Nat):Int)=4:=aJ rfl
def yh:((5:Nat):Int)=5:=aJ rfl
end
noncomputable def IJ(fa:Ev->ak (ac)) (ρ:Ev) (x:D):ak D:=match x with
 |.str z=>(fa ρ).bind (lL z)
 |_=>.stuck
def mv:uW f fa ρ=(f ρ).bind (IJ fa ρ):=aJ rfl
def jM:IJ fa ρ (.str z)=(fa ρ).bind (lL z):=aJ rfl
end Com
local macro_rules|`(tactic|open_line with[$xs,*])=>`(tactic|simp only[uO,kW,l4,l3,mn,rG,lZ,rK,l7,mJ,jN,yf,sA,su,rR,mj,sJ,mh,rP,md,ma,jL,sC,rQ,mf,ym,yl,sI,yk,rX,mK,jP,jO,sL,mO,mM,yb,rV,rT,rW,ml,sr,mF,mE,rm,lR,E3,lY,rE,lX,lW,lV,rJ,l6,l5,ya,rS,yc,xY,rB,rA,rz,sD,mI,jQ,yg,sH,sG,sE,sq,sN,rY,ye,yd,cX,mq,nO,kT,Qf,RS,QE,Sg,Sv,Su,RZ,R8,RO,Q8,SI,SJ,To,Nat.reduceSub,Nat.reduceAdd,SS,SR,TF,Ts,rq,r0,jg,eu,rZ,xZ,rH,xX,rn,kj,ki,mD,mC,mz,my,mx,mw,decide_true,decide_false,Nat.reduceLeDiff,Nat.reduceBEq,Int.reduceBEq,beq_self_eq_true,DL.dOne,DL.mYes,dI,el,eh,dm,dH,gR,fR,gQ,fQ,gP,yj,yi,yh,Int.reduceLT,Int.reduceLE,Int.reduceSub,Int.reduceAdd,Int.reduceMul,Int.reduceNeg,mv,jM,Int.reduceToNat,TH,$[$xs:term],*])
namespace Com
open PySem L2 DL
noncomputable def iX:Ev->ak Fl :=
 (aA (er (iQ (cA (bV (ae 0) (eC "str"))) (cA (iA K0 K0 (dC (.int 1)) (aq (af (ae 0) aC) (m1 cT)) (dC (.int 8)))))
 (aA (b5 (dC (.bl false)))
 aw)
 aw)
 (aA (b5 (aq (af (di 1 [] (GC (ae 0)) (b6 0) mYes (ag (ae 0) (dC (.str "abcdefghijklmnopqrstuvwxyz")) sT)) aC) (m1 zO)))
 aw))
noncomputable def m_is_name:ac->ak D:=b7 1 iX
noncomputable def dN:Ev->ak Fl :=
 (aA (er (iQ (cA (bV (ae 0) (eC "tuple"))) (ag (aq (af (ae 0) aC) (m1 cT)) (dC (.int 2)) gS))
 (aA (b5 (dC (.bl false)))
 aw)
 aw)
 (aA (er (iQ (cA (aq (af (ag (ae 0) (dC (.int 0)) aO) aC) m_is_whole)) (cA (aq (af (ag (ae 0) (dC (.int 1)) aO) aC) m_is_whole)))
 (aA (b5 (dC (.bl false)))
 aw)
 aw)
 (aA (b5 (gZ (ag (ag (ae 0) (dC (.int 1)) aO) (dC (.int 1)) OB) (ag (aq (af (ag (ae 0) (dC (.int 0)) aO) (af (ag (ae 0) (dC (.int 1)) aO) aC)) m_common_divisor) (dC (.int 1)) kH)))
 aw)))
noncomputable def m_is_ratio:ac->ak D:=b7 1 dN
noncomputable def Lh:Qu:="abcdefghijklmnopqrstuvwxyz"
noncomputable def oK(c:Nat):Bool:=My ⟨#[c]⟩ Lh
noncomputable def nameB(z:Qu):Bool:=decide (1<=z.length)&&(decide (z.length<=8)&&z.cps.toList.all oK)
noncomputable def ME:D->Bool
 |.str z=>nameB z
 |_=>false
noncomputable def NI:D->Bool
 |.str z=>decide (z.length<=line)
 |_=>true
theorem u3{b:Ev}:∀{ds:ac},(∀d∈ds,∃ρ1,tg b d=.ok ρ1/\tt ρ1=.ok (.bl true)/\fe ρ1=.ok (F d))->cf b tg tt fe ds=.ok (ds.map F)
 |[],_=>rfl
 |d::r,h=>by
  obtain⟨ρ1,h1,h2,h3⟩:=h d Qq;rw[iS h1 h2 h3,u3 (λe he=>h e (Qi _ he))];rfl
theorem oR{α:Type}(F:α->Bool):∀(cs:List α),eU (cs.map λc=>D.bl (F c))=some (cs.map F)
 |[]=>rfl
 |c::r=>by
  show(eU (r.map λc=>D.bl (F c))).map (F c::·)=_;rw[oR F r];rfl
def zp(hz:z.length<=line):di 1 [] (GC (ae 0)) (b6 0) mYes (ag (ae 0) (dC (.str "abcdefghijklmnopqrstuvwxyz")) sT) [.sh (.str z)]=.ok (.lst (z.cps.toList.map λc=>.bl (oK c))):=by
 have hl:(jD z).length<=line:=by rw[kQ];exact hz
 unfold di;show(if(jD z).length<=line then _ else _)=_;rw[if_pos hl];have:cf (cO 1 [] [.sh (.str z)]) (b6 0) mYes (ag (ae 0) (dC (.str "abcdefghijklmnopqrstuvwxyz")) sT) (jD z)=.ok (z.cps.toList.map λc=>D.bl (oK c)):=by
  unfold jD
  induction z.cps.toList with
  |nil=>rfl
  |cons c r ih=>
   rw[Qf,iS (x:=.bl (oK c)) rfl rfl rfl,ih];rfl
 rw[this]
def zE(h:NI d=true):m_is_name [d]=.ok (.bl (ME d)):=by
 cases d with
 |str z=>
  have hz:z.length<=line:=of_decide_eq_true h;have hlen:cT (.str z)=.ok (.int z.length):=if_pos hz;show b7 1 iX _=.ok (.bl (nameB z));unfold nameB
  by_cases h1:1<=z.length
  .by_cases h8:z.length<=8
   .have e1:decide ((1:Int)<=(z.length:Int))=true:=decide_eq_true (by omega)
    have e2:decide ((z.length:Int)<=8)=true:=decide_eq_true (by omega);open_line with[iX,hlen,e1,e2,zp hz,zO,oR,decide_eq_true h1,decide_eq_true h8,TC]
    simp[Up,Function.comp_def]
   .have e1:decide ((1:Int)<=(z.length:Int))=true:=decide_eq_true (by omega)
    have e2:decide ((z.length:Int)<=8)=false:=decide_eq_false (by omega);open_line with[iX,hlen,e1,e2,decide_eq_true h1,decide_eq_false h8,Sm,UR]
  .have e1:decide ((1:Int)<=(z.length:Int))=false:=decide_eq_false (by omega)
   open_line with[iX,hlen,e1,decide_eq_false h1,Sm]
 |ob k _=>cases k<;>rfl
 |_=>rfl
noncomputable def qC:D->Bool
 |.tup [.int p,.int q]=>decide (1<=q)&&(QY p q==1)
 |_=>false
def KI{g:Nat}:((g:Int)==1)=(g==1):=by
 cases h:(g==1) with
 |true=>rw[eq_of_beq h];rfl
 |false=>
  have:g≠1:=λz=>by rw[z]at h;cases h
  exact beq_eq_false_iff_ne.mpr (by omega)
def Jt{xs:ac}:(∃x y,xs=[x,y])∨xs.length≠2:=by
 match xs with
 |[]=>exact .inr (by decide)
 |[x]=>exact .inr (by simp)
 |[x,y]=>exact .inl ⟨x,y,rfl⟩
 |x::y::z::r=>exact .inr (by simp)
theorem DC:∀{xs:ac},xs.length≠2->qC (.tup xs)=false
 |[],_=>rfl
 |[x],_=>by cases x<;>rfl
 |[x,y],h=>absurd rfl h
 |x::y::z::r,_=>by cases x<;>cases y<;>rfl
def yZ:qC (.tup [x,y])=(A6 x&&(A6 y&&qC (.tup [x,y]))):=by
 cases x<;>cases y<;>rfl
def vY(d:D):m_is_ratio [d]=.ok (.bl (qC d)):=by
 cases d with
 |tup xs=>
  rcases Jt (xs:=xs) with⟨x,y,rfl⟩|h
  .rw[yZ]
   show b7 1 dN _=_;cases hx:A6 x with
   |false=>open_line with[dN,bY,hx,Sm]
   |true=>
    cases hy:A6 y with
    |false=>open_line with[dN,bY,hx,hy,Sm,TC]
    |true=>
     cases x<;>first|(cases hx;done)|skip
     cases y<;>first|(cases hy;done)|skip
     rename_i p q;show _=ak.ok (D.bl (decide (1<=q)&&(QY p q==1)))
     by_cases hq:1<=q
     .open_line with[dN,bY,hx,hy,nX,TC,decide_eq_true hq,KI]
     .open_line with[dN,bY,hx,hy,nX,TC,decide_eq_false hq,Sm]
  .have e2:((xs.length:Int)==2)=false:=beq_eq_false_iff_ne.mpr (by omega)
   rw[DC h];show b7 1 dN _=_;open_line with[dN,e2]
 |ob k _=>cases k<;>rfl
 |_=>rfl
def HY{α:Type}{F:α->D}{xs:List α}:wy (xs.map F) lo hi=((xs.drop (HT.sIx xs.length 0 lo)).take (HT.sIx xs.length xs.length hi-HT.sIx xs.length 0 lo)).map F:=by
 unfold wy;rw[P7,←List.map_drop,←List.map_take]
end Com
namespace DL
open PySem PySem.Spec PyProof.Rows L2
def cP.there{h:Qr}(x:cP P w H h a o):∃u,h.get? a=some u:=by
 cases o with|lst xs=>obtain⟨_,_,_,_,e⟩:=x;exact⟨_,e⟩|tup xs=>obtain⟨_,_,_,ob,e,_⟩:=x;exact⟨_,e⟩|dK kvs|dT kvs=>obtain⟨_,_,_,_,o,_,_,e,_⟩:=x;exact⟨_,e⟩|set S n=>obtain⟨o,_,_,_,e,_⟩:=x;exact⟨_,e⟩|ins C dx fs=>obtain⟨_,_,_,e,_⟩:=x;exact⟨_,e⟩|own y=>obtain⟨_,e⟩:=x;exact⟨_,e⟩|xd fs=>obtain⟨_,⟨_,_,_,e,_⟩,_⟩:=x;exact⟨_,e⟩|rng lo hi=>obtain⟨_,_,_,e⟩:=x;exact⟨_,e⟩|frz ob u=>obtain⟨e,_⟩:=x;exact⟨_,e⟩|tbl ps|met f y=>exact⟨_,show h.get? a=some _ from x⟩|ext φ=>obtain⟨_,⟨_,e⟩,_⟩:=x;exact⟨_,e⟩
noncomputable def oa(P:Ra) (w:Rr):yM:=λouter H s E e s'=>∃(ea C:P9) (a0:P2) (B:Qr) (H':Hp),e=.ref ea/\s'.os=s.os/\AllBare s'.gens/\Un (iw outer) [] H H' s.heap s'.heap/\g6 P w H' s'.heap/\H' ea=none /\
 Sb B outer ea (.ref C) a0 s'.heap/\(∀b,b∉iw outer->(H' b≠none∨∃o,s.heap.get? b=some o)->∃o,B.get? b=some o)/\∃ox,Nu s'.heap ea ox/\E (.ref C) ox H'
def HC{l:List Rv}:∀env∈l,∀a,env.frame=some a->a∈iw l:=λenv he a hf=>Tr.mpr ⟨env,he,hf⟩
section
variable {P:Ra}{w:Rr}{K:P4}{mg:Qu->Option P2}{base:Qr}{N:al}{qual:Qu}{scope:T7}{f:P9}{cd:P2}{A:Q0}{outer:List Rv}{s0:Qj}{H0:Hp}{E:XK}
 {π:List (P9×Obj)}{σ:L2.St}{H:Hp}{s:Qj}
def gr{B h h':Qr}(k:B.StaysIn h)(k':B.StaysIn h'){b:P9}(hb:∃u,B.get? b=some u)(e:h.get? b=some o):h'.get? b=some o:=by
 obtain⟨u,q⟩:=hb;have:=k b u q;rw[e]at this;cases this;exact k' b o q
def IM(hX:X=eZ (oa P w) P w K mg base N qual scope f cd A outer s0 H0 E)(I:Inv X π σ H s){s1:Qj}(os:s1.os=s.os)(bare:AllBare s1.gens)
  (un:Un (iw X.stack) [] H H1 s.heap s1.heap)(hok:g6 P w H1 s1.heap)(hne:H1 ea=none)(hst:B.StaysIn s1.heap)(hfr:s1.heap.FunFrames B X.stack)
  (hB:∀b,b∉iw X.stack->(H1 b≠none∨∃o,s.heap.get? b=some o)->∃o,B.get? b=some o)(fl:Sb B outer ea (.ref C) a0 h')(up:s1.heap.UpToSlots h')(hE:∃ox,Nu h' ea ox/\E (.ref C) ox H1) :
  oa P w outer H0 s0 E (.ref ea) { s1 with heap:=h' }:=by
 subst hX;have hL:(envOfC qual scope s0.heap.objs.size f cd).frame=some (envOfC qual scope s0.heap.objs.size f cd).locals:=rfl;have hstk:∀b,b∈iw (envOfC qual scope s0.heap.objs.size f cd::outer)->b=(envOfC qual scope s0.heap.objs.size f cd).locals∨b∈iw outer:=λb hb=>by
  unfold iw at hb;rw[Sy,hL]at hb;exact Qs.mp hb
 have hsub:∀b,b∈iw outer->b∈iw (envOfC qual scope s0.heap.objs.size f cd::outer):=λb hb=>by
  unfold iw;rw[Sy,hL];exact Qi _ hb
 have old:∀b o,s0.heap.get? b=some o->b≠(envOfC qual scope s0.heap.objs.size f cd).locals:=λb o e=>QW (Qk (Qv e) I.ok.above);have nofr:∀b o,s0.heap.get? b=some o->b∉iw outer->b∉iw (envOfC qual scope s0.heap.objs.size f cd::outer):=λb o e hb hm=>(hstk b hm).elim (old b o e) hb;have thr:∀b o,s0.heap.get? b=some o->∃o',s.heap.get? b=some o':=λb o e=>I.base.there b o e (by intro z;exact nomatch z);have fst:∀b,b∈iw outer->∀o,s1.heap.get? b=some o->∃sl,h'.get? b=some { o with slots:=sl }:=λb hb o e=>by
  obtain⟨_,o',ho',hd⟩:=hfr.mem (hsub b hb);rw[e]at ho';cases ho';exact up b o e hd
 have free1:∀b∈iw (envOfC qual scope s0.heap.objs.size f cd::outer),H1 b=none:=λb hb=>by
  obtain⟨_,o,ho,_⟩:=I.stack.mem hb;exact un.free b o ho (I.stkFree b hb) (by simp)
 have B0:∀b o,s0.heap.get? b=some o->b∉iw outer->∃u,B.get? b=some u:=λb o e hb=>hB b (nofr b o e hb) (.inr (thr b o e));refine⟨ea,C,a0,B,H1,rfl,os.trans I.os,bare,⟨λb o e n hb hx=>?_,λb o e n hb hx=>?_,λb o e n hx=>?_,λb o e hx=>?_,λb xs e=>un.tups b xs (I.base.tups b xs e),λb o u e=>un.frzs b o u (I.base.frzs b o u e),λb ps e=>?_⟩,λa o e=>?_,hne,fl,λb hb h=>?_,hE⟩
 .have e1:=I.base.keep b o e n hb (by intro z;exact nomatch z)
  have n1:=I.base.free b o e n (by intro z;exact nomatch z);have e2:=un.keep b o e1 n1 (nofr b o e hb) (by simp);exact gr hst fl.1 (B0 b o e hb) e2
 .obtain⟨sl,e1⟩:=I.base.slot b o e n hb (by intro z;exact nomatch z)
  have n1:=I.base.free b o e n (by intro z;exact nomatch z);obtain⟨sl2,e2⟩:=un.any e1 n1 (by simp);obtain⟨sl3,e3⟩:=fst b hb _ e2;exact⟨sl3,e3⟩
 .obtain⟨o',e1⟩:=thr b o e
  exact un.free b o' e1 (I.base.free b o e n (by intro z;exact nomatch z)) (by simp)
 .obtain⟨o',e1⟩:=thr b o e
  obtain⟨o2,e2⟩:=un.there b o' e1 (by simp)
  by_cases hb:b∈iw outer
  .obtain⟨sl,e3⟩:=fst b hb _ e2
   exact⟨_,e3⟩
  .exact⟨_,gr hst fl.1 (B0 b o e hb) e2⟩
 .obtain⟨m1,e1⟩:=I.base.tbls b ps e
  obtain⟨m2,e2⟩:=un.tbls b _ e1;exact⟨m1++m2,by rw[e2,Ue]⟩
 .refine(hok a o e).stay (λb u hb q=>?_) (λ_ q=>q) λ_ _ q=>q
  have hn:H1 b≠none:=by
   rcases hb with rfl|hb
   .rw[e];simp
   .rw[hb];simp
  exact gr hst fl.1 (hB b (λhm=>hn (free1 b hm)) (.inl hn)) q
 .by_cases hm:b∈iw (envOfC qual scope s0.heap.objs.size f cd::outer)
  .rcases hstk b hm with z|z
   .rcases h with h|⟨o,h⟩
    .exact absurd (free1 b hm) h
    .exact absurd z (old b o h)
   .exact absurd z hb
  .exact hB b hm (h.elim .inl λ⟨o,h⟩=>.inr (thr b o h))
def AK:fX (oa P w) (eZ (oa P w) P w K mg base N qual scope f cd A outer s0 H0 E) E:=by
 intro π σ H s e s' I h;obtain⟨ea,C,a0,B,H',rfl,os,bare,un,hok,hne,fl,hB,ox,⟨dc,hdc,hox⟩,hE⟩:=h;refine Cw I.ok.frames rfl fl hdc λh' fl' up hd'=>?_;exact IM rfl I os bare un hok hne fl.1 fl.2.2.1 hB fl' up ⟨ox,⟨dc,hd',hox⟩,hE⟩
end
def zI{K:P4}{st:RH}{N ps:al}(F:CZ K x qual st f fd)(S:eY N ps (defScope st))
  (hbody:∀(cdv:P2) (A:Q0) (outer:List Rv) (s0:Qj) (H Ha:Hp) (E:XK),cK k (A.deeper (envOfC qual (defScope st) s0.heap.objs.size f cdv)) ->
   Ae (eZ (oa P w) P w K mg base N qual (defScope st) f cdv A outer s0 H E) E H Ha (defBody st) s):FnOk P w K mg base (oa P w) (k+1) f fd ps (spD K ps.length (b7 N.length s)):=by
 have hpl:ps.length<=N.length:=by have:=congrArg Tv S.pre;rw[Rc]at this;omega
 obtain⟨oc,od,kV,doc,pm,an,cdv,ct,osl,rfl,lk,hcd⟩:=F.ex;refine IL lk hcd S (λvs H Q E h=>h.1) λA outer s0 H vs Q E hr h=>?_;obtain⟨hn,Ha,ds,hs,hv,q⟩:=h;refine⟨_,(hbody cdv A outer s0 H Ha E hr).o,Ha,ds.map Sl.sh++QG (N.length-ds.length) .no,?_,?_⟩
 .refine⟨bw.refl hs,jC hv,λi d e=>?_,λi j d d' hij e=>?_,?_,OX.none nz kP⟩
  .by_cases hi:i<ds.length
   .rw[Qo (by simpa using hi),Qg]at e
    cases q:ds[i]? with|none|some d'=>rw[q]at e;cases e
   .rw[Qw (by simpa using hi),QD]at e
    split at e<;>cases e
  .by_cases hi:i<ds.length
   .rw[Qo (by simpa using hi),Qg]at e
    cases q:ds[i]? with|none|some d'=>rw[q]at e;cases e
   .rw[Qw (by simpa using hi),QD]at e
    split at e<;>cases e
  .unfold L2.start
   have:=hv.length;simp only[Qz,P7,Q7];omega
 .unfold b7 at q
  cases e1:s (ds.map Sl.sh++QG (N.length-ds.length) .no) with
  |stuck|exn x=>rw[e1]at q;exact q
  |ok r=>
   rw[e1]at q;cases r with|nx ρ'=>exact λσ' H' Ha' _ h'=>q .non H' Ha' h'.g (aR.mpr rfl)|rt d=>exact λv H' Ha' g rp=>q v H' Ha' g rp|bk ρ'|ct ρ'=>exact q.elim
noncomputable def noX(m:ac->ak D) (ds:ac):ak D:=match m ds with
 |.exn _=>.stuck
 |r=>r
def Ke(h:m ds=.ok d):noX m ds=.ok d:=by unfold noX;rw[h]
def Ar{K:P4}(h:spD K n (noX m) vs H Q E):spD K n m vs H Q E':=by
 obtain⟨hn,Ha,ds,hs,hv,q⟩:=h;refine⟨hn,Ha,ds,hs,hv,?_⟩;unfold noX at q;cases e:m ds with|stuck=>rw[e]at q;exact q|exn x=>rw[e]at q;exact q.elim|ok d=>rw[e]at q;exact q
theorem FnOk.noX{K:P4}{ps:al}(F:FnOk P w K mg base (oa P w) k f fd ps (spD K n m)) :
  FnOk P w K mg base CX0 k f fd ps (spD K n (DL.noX m)) :=
 ⟨λvs H Q E h=>F.len vs H Q E0 (Ar h),λA outer s H args us vs Q E hr he hb hv h=>codeAny_mono (F.run A outer s H args us vs Q E0 hr he hb hv (Ar h)) λr s' q=>by
  cases r with
  |ok fl=>cases fl<;>exact q
  |error e=>obtain⟨_,_,_,_,_,_,_,_,_,_,_,_,_,_,_,hE⟩:=q;exact hE.elim⟩
section
variable {P:Ra}{w:Rr}{st:List Rv}{H H':Hp}{h g g' B:Qr}
def Un.fly(un:Un (iw st) [] H H' h g)(k:B.StaysIn g)(hfr:g.FunFrames B st)(hB:∀b,b∉iw st->(H' b≠none∨∃o,h.get? b=some o)->∃o,B.get? b=some o)(k':B.StaysIn g')(up:g.UpToSlots g'):Un (iw st) [] H H' h g':=by
 have fst:∀b,b∈iw st->∀o,g.get? b=some o->∃sl,g'.get? b=some { o with slots:=sl }:=λb hb o e=>by
  obtain⟨_,o',ho',hd⟩:=hfr.mem hb;rw[e]at ho';cases ho';exact up b o e hd
 refine⟨λb o e n hb hx=>?_,λb o e n hb hx=>?_,un.free,λb o e hx=>?_,un.tups,un.frzs,un.tbls⟩
 .exact gr k k' (hB b hb (.inr ⟨o,e⟩)) (un.keep b o e n hb hx)
 .obtain⟨sl,e1⟩:=un.slot b o e n hb hx
  obtain⟨sl2,e2⟩:=fst b hb _ e1;exact⟨sl2,e2⟩
 .obtain⟨o',e1⟩:=un.there b o e hx
  by_cases hb:b∈iw st
  .obtain⟨sl,e2⟩:=fst b hb _ e1
   exact⟨_,e2⟩
  .exact⟨_,gr k k' (hB b hb (.inr ⟨o,e⟩)) e1⟩
def g6.fly(ok:g6 P w H' g)(hf:∀b∈iw st,H' b=none)(k:B.StaysIn g)(hB:∀b,b∉iw st->(H' b≠none∨∃o,h.get? b=some o)->∃o,B.get? b=some o)(k':B.StaysIn g'):g6 P w H' g':=λa o e=>by
 refine(ok a o e).stay (λb u hb q=>?_) (λ_ q=>q) λ_ _ q=>q;have hn:H' b≠none:=by
  rcases hb with rfl|hb
  .rw[e];simp
  .rw[hb];simp
 exact gr k k' (hB b (λhm=>hn (hf b hm)) (.inl hn)) q
def g6.ext(ok:g6 P w H g)(hn:H a=none)(p:φ g)(ht:∃o,g.get? a=some o)(hm:∀h1 h2:Qr,φ h1->(∀o,h1.get? a=some o->h2.get? a=some o)->φ h2):g6 P w (upd H a (.ext φ)) g:=λb u e=>by
 by_cases hb:b=a
 .subst hb;rw[aF]at e;cases e;exact⟨p,ht,hm⟩
 .rw[az hb]at e
  exact(ok b u e).stay (λc v _ q=>q) (λc q=>by rw[az (bh q hn)];exact q) λc xs q=>by rw[az (bh q hn)];exact q
def Un.ext{fs:List P9}(un:Un fs [] H H' h g)(hn:H' a=none)(ha:h.get? a=none):Un fs [] H (upd H' a o) h g :=
 ⟨un.keep,un.slot,λb ob e n hx=>by rw[az (λz=>by subst z;rw[ha]at e;cases e)];exact un.free b ob e n hx,un.there,λb xs q=>by rw[az (bh (un.tups b xs q) hn)];exact un.tups b xs q,
  λb ob u q=>by rw[az (bh (un.frzs b ob u q) hn)];exact un.frzs b ob u q,λb ps q=>by
   obtain⟨m,e⟩:=un.tbls b ps q;exact⟨m,by rw[az (bh e hn)];exact e⟩⟩
def Cy{a C:P9}{dc:Option P9}:∀h1 h2:Qr,C0 a C dc h1->(∀o,h1.get? a=some o->h2.get? a=some o)->C0 a C dc h2:=λh1 h2 ⟨o,vs,e,c,d⟩ k=>⟨o,vs,k o e,c,d⟩
end
noncomputable def hand(X:Cx) (e:P9):Cx:={ X with A:=X.A.mark (some (.ref e)),calm:=false,xe:=λ_ _=>False }
section
variable {X:Cx}{π:List (P9×Obj)}{σ:L2.St}{H:Hp}{s:Qj}{e:P9}
def HA(ok:X.Ok):(hand X e).Ok :=
 ⟨ok.mod,ok.kind,ok.glob,ok.blt,ok.above,ok.inj,ok.has,ok.cab,λz=>Bool.noConfusion z,ok.frames,ok.stk,ok.exf,ok.bs,ok.bsz,ok.noex,ok.exfs,ok.funs,ok.frf⟩
def Inv.hand(I:Inv X π σ H s):Inv (DL.hand X e) π σ H s:=⟨HA I.ok,I.os,I.bare,I.base,I.loc,I.cell,I.free,I.freeC,I.pin,I.hok,I.len⟩
def jq(ok:X.Ok)(I:Inv (DL.hand X e) π σ H s):Inv X π σ H s:=⟨ok,I.os,I.bare,I.base,I.loc,I.cell,I.free,I.freeC,I.pin,I.hok,I.len⟩
end
def PA.nox(h:PA X.nox es t):PA X es t:=λpos π s σ H Q I hw=>
 Ri (h pos π s σ H Q (I.wish _) hw) (λ_ _ ⟨v,H',I',r,q⟩=>⟨v,H',I'.unwish,r,q⟩) λ_ _ z=>Rn z
section
variable {X:Cx}{π:List (P9×Obj)}{σ:L2.St}{H:Hp}{s:Qj}{CX:yM}{k:Nat}{f:P9}{fd:Rx}{ps:al}{sp:Sp}{Ex:XK}{x:Qu}{p pos:Pos}{e:QX}{es:List QX}{t:TA}
def Ic(F:FnOk X.prog X.w X.K X.mg X.base CX k f fd ps sp)(hr:cK k X.A)(hg:Gl X x)(hm:X.mg x=some (.ref f))(hk:SN X.K (.ref f)=true)(hb:il X.K fd ps [])(ha:PA X.nox (e::es) t)
  (I:Inv X π σ H s)(h:t σ H λvs H1=>sp vs H1 Q Ex)(hx:∀H1 s1 e s',Inv X π σ H1 s1->CX X.stack H1 s1 Ex e s'->XE e s')
  (hdb:(x==("__debug__" : Qu))=false:=by decide)(he:Qb (e::es) X.env=(false,eval e X.env)::Qb es X.env:=by exact aW rfl)(hpl:(Rg pos (Qb es X.env)).any (·.1)=false:=by exact bH rfl) :
  QC (QB X.prog X.w) X.A (eval (.Call (.Name x p) (e::es) [] pos) X.env) (EP X π σ Q) XE s:=by
 refine wpAny_Call_Name_kw (kd I hg hm ?_ hdb);have ha':PA (X.wish XE) (e::es) t:=PA.nox (X:=X.wish XE) ha;refine W.callWith_K (h₀:=X.base) I.ok.mod.kin hk (de (ha' pos π s σ H _ (I.wish XE) h) λus s1 z9=>?_) he hpl;obtain⟨vs,H1,I1,r,q⟩:=z9;refine⟨I1.unwish.kIn,?_⟩;have I1:=I1.unwish;have hl:us.length=ps.length:=by rw[←r.length];exact F.len _ _ _ _ q
 have hb1:=hb s1 us I1.kIn (by simpa using hl);rw[QN]at hb1;refine wpAny_call (codeAny_mono (F.run X.A X.stack s1 H1 ⟨us,[]⟩ us vs Q Ex hr I1.env0 hb1 r q) λr s' hq=>?_);cases r with
 |error e=>exact hx H1 s1 e s' I1 hq
 |ok fl=>
  cases fl with|ret u=>exact I1.after hq|next|brk|cont=>exact Rn hq
end
noncomputable def Dj(K:P4) (He η Ha:Hp) (r:ak Fl) (D:j9):Prop:=match r with
 |.exn _=>True
 |r=>b8 K E0 He η Ha r D
noncomputable def NV(K:P4) (He η Ha:Hp) (σ:L2.St) (ρ:Ev) (r:ak Fl):XK:=λC ox H'=>∃x Ha',r=.exn x/\aG Ha Ha'/\eX K He η Ha' σ H' ρ/\yL K Ha' x C ox
structure TB (X:Cx) (st:RH) (g:Ev->ak Fl):Prop where
 o:∀(π:List (P9×Obj)) (s:Qj) (σ:L2.St) (H He η Ha:Hp) (ρ:Ev) (D:j9) (XE:P2->Qj->Prop),Inv X π σ H s->eX X.K He η Ha σ H ρ->Dj X.K He η Ha (g ρ) D ->
  (∀H1 s1 e s',Inv X π σ H1 s1->oa X.prog X.w X.stack H1 s1 (NV X.K He η Ha σ ρ (g ρ)) e s'->XE e s')->QC (QB X.prog X.w) X.A (exec st X.env) (SP X π D) XE s
structure Jj (k:Nat) (A:Q0):Prop where
 dp:A.depth+3*k+5<recursionLimit
 un:A.units+16*k+200<TU
def cK.h{A:Q0}(r:cK k A):Jj k A:=⟨r.dp,r.un⟩
structure Pj (P:Ra) (w:Rr) (K:P4) (mg:Qu->Option P2) (base:Qr) (k:Nat) (f:P9) (fd:Rx) (ps:al) (sp:Sp):Prop where
 len:∀vs H Q E,sp vs H Q E->vs.length=ps.length
 run:∀(A:Q0) (outer:List Rv) (s:Qj) (H:Hp) (args:Args) (us:List P2) (vs:ad) (Q:VK) (E:XK),Jj k A->yI P w K mg base A outer s H->BindsTo s fd args (ps.zip us)->bA vs us->sp vs H Q E ->
  So (QB P w) A (.call (.ref f) args) (CR CX0 outer P w H s Q E) s
def Pj.ok{K:P4}{ps:al}(F:Pj P w K mg base k f fd ps sp):FnOk P w K mg base CX0 k f fd ps sp :=
 ⟨F.len,λA outer s H args us vs Q E hr=>F.run A outer s H args us vs Q E (cK.h hr)⟩
end DL
namespace DL
open PySem PySem.Spec PyProof.Rows L2 PySem.W
structure ur (K:Frag) (x:Qu) (C:P9):Prop where
 ns:nsIn K Qt x=some (some (.ref C))
 ty:typeIn K (.ref C)=some (.type "type")
 ob:mroIn K C (.type "object")=some true
 be:subIn K (.ref C) (.type "BaseException")=some true
def ur.isCls{K:Frag}(Z:ur K x C):(clsIn K C).isSome=true:=by
 obtain⟨cd,a,b⟩:=U6.mp Z.ob;rw[a];rfl
def ur.kitCls{K:Frag}(Z:ur K x C):W.kitCls K t (.ref C)=subIn K t (.ref C):=by
 show(if((clsIn K C).isSome&&typeIn K (.ref C)==some (.type "type"))=true then subIn K t (.ref C) else none)=_;rw[Z.isCls,Z.ty];rfl
def ur.exm{K:Frag}(Z:ur K x C){b:Bool}(h:subIn K t (.ref C)=some b):exmOne K t (.ref C)=some b:=by
 unfold exmOne;rw[Z.be,if_pos (by decide),Z.kitCls,h]
def Kn{K:Frag}{b:Bool}(hm:kitMeta T=true)(h:subIn K (.ref C) (.type T)=some b):kitOne K (.ref C) (.type T)=some b:=by
 unfold kitOne;rw[if_neg (by intro z;cases beq_iff_eq.mp z)];show(if kitMeta T=true then subIn K (.ref C) (.type T) else none)=_;rw[if_pos hm,h]
def xN:∀T∈gV,kitMeta T=true:=by decide +kernel
def XC.inj{K:Frag}(a:XC K x C)(b:XC K x C'):C=C':=by
 have:=a.ns.symm.trans b.ns;simpa using this
noncomputable def Am:List (Qu×Bool)->Qu->Option Bool
 |[],_=>none
 |(x,b)::r,c=>if x=c then some b else Am r c
theorem uy{K:Frag}{p:Qu->P9->Bool->Prop}:∀{l:List (Qu×Bool)},(∀q∈l,∃C,XC K q.1 C/\p q.1 C q.2)->∀c C b,Am l c=some b->XC K c C->p c C b
 |[],_,c,C,b,h,_=>by cases h
 |(x,v)::r,H,c,C,b,h,xc=>by
  unfold Am at h
  by_cases e:x=c
  .subst e
   rw[if_pos rfl]at h;cases h;obtain⟨C',xc',q⟩:=H _ Qq;obtain rfl:=XC.inj xc xc';exact q
  .rw[if_neg e]at h
   exact uy (λq hq=>H q (Qi _ hq)) c C b h xc
noncomputable def A9(l:List (Qu×Bool)) (c:Qu):Bool:=Am l c==some true
def EO{K:Frag}{l:List (Qu×Bool)}{cv:P2}(H:∀q∈l,∃C,XC K q.1 C/\exmOne K (.ref C) cv=some q.2):∀x C,A9 l x=true->XC K x C->exmOne K (.ref C) cv=some true:=λx C h xc=>
 uy (p:=λ_ C b=>exmOne K (.ref C) cv=some b) H x C true (by unfold A9 at h;exact beq_iff_eq.mp h) xc
end DL
namespace DL
open PySem PySem.Spec PyProof.Rows L2
section
variable {X:Cx}{π:List (P9×Obj)}{σ:L2.St}{H:Hp}{s:Qj}{h':Qr}
def BY{fp:List P9}(I:Inv X π σ H s)(k:∀b o,b∉fp->s.heap.get? b=some o->h'.get? b=some o)(hf:∀b∈fp,nk X π H b)(hT:s.heap.objs.size<=T)
  (new:cP X.prog X.w (upd H T (.tup xs)) h' T (.tup xs)):Inv X π σ (upd H T (.tup xs)) { s with heap:=h',toks:=t' }:=by
 have hn:H T=none:=I.hok.fresh hT;have nit:∀b u,H b=some u->b∉fp:=λb u e z=>by rw[(hf b z).1]at e;cases e
 refine I.step (g':=s.gens) (d':=s.drawn) (ch:=fp) (λb hb=>?_) (λb o _ _ hc e _=>k b o hc e) (λb o _ _ hc e _=>⟨o.slots,k b o hc e⟩) (λb o _ e n=>?_)
  (λb o hc e=>⟨o,k b o hc e⟩) (λb xs e=>by rw[az (bh e hn)];exact e) (λb o u e=>by rw[az (bh e hn)];exact e) (λb ps e=>⟨#[],by rw[az (bh e hn),e];simp⟩) (λm hm=>?_) (λb u e=>?_) I.bare
 .obtain⟨_,f1,_,f3,f4,f5⟩:=hf b hb
  exact⟨f3,f1,f4,f5⟩
 .rw[az (QW (Qk (Qv e) hT))];exact n
 .obtain⟨o,es,ep,ho,r⟩:=hm
  exact⟨o,es,ep,k _ o (λz=>(hf _ z).2.1 rfl) ho,r⟩
 .by_cases hb:b=T
  .subst hb;rw[aF]at e;cases e;exact new
  .rw[az hb]at e
   refine(I.hok b u e).stay (λc v hc q=>k c v ?_ q) (λc q=>by rw[az (bh q hn)];exact q) λc xs q=>by rw[az (bh q hn)];exact q
   rcases hc with z|z
   .rw[z];exact nit b u e
   .exact nit c _ z
def Gs{fp:List P9}(I:Inv X π σ H s)(k:∀b o,b∉fp->s.heap.get? b=some o->h'.get? b=some o)(hf:∀b∈fp,nk X π H b):Inv X π σ H { s with heap:=h',toks:=t' }:=by
 have nit:∀b u,H b=some u->b∉fp:=λb u e z=>by rw[(hf b z).1]at e;cases e
 refine I.step (g':=s.gens) (d':=s.drawn) (ch:=fp) (λb hb=>?_) (λb o _ _ hc e _=>k b o hc e) (λb o _ _ hc e _=>⟨o.slots,k b o hc e⟩) (λb o _ e n=>n)
  (λb o hc e=>⟨o,k b o hc e⟩) (λb xs e=>e) (λb o u e=>e) (λb ps e=>⟨#[],by rw[e];simp⟩) (λm hm=>?_) (λb u e=>?_) I.bare
 .obtain⟨_,f1,_,f3,f4,f5⟩:=hf b hb
  exact⟨f3,f1,f4,f5⟩
 .obtain⟨o,es,ep,ho,r⟩:=hm
  exact⟨o,es,ep,k _ o (λz=>(hf _ z).2.1 rfl) ho,r⟩
 .refine(I.hok b u e).stay (λc v hc q=>k c v ?_ q) (λ_ q=>q) λ_ _ q=>q
  rcases hc with z|z
  .rw[z];exact nit b u e
  .exact nit c _ z
end
noncomputable def Ph(K:P4) (a:P9):It :=
 ⟨λi H=>∃xs x,fk K H a xs/\xs[i]?=some x,λi H x H'=>∃p y,H p=none/\x=.ref p/\(∀xs,fk K H a xs->xs[i]?=some y)/\H'=upd H p (.tup [.int i,y]),λi H=>∃xs,fk K H a xs/\xs.length<=i⟩
def B2{P:Ra}{w:Rr}{K:P4}{elts:List QX}{k:Nat}{pos:Pos}(a it e:P9)(hne:e≠it)(hae:a≠e)(hai:a≠it) :
  Aa P w K (.Tuple elts k pos) (Ph K a) [e,it] e (λi h=>(∃old,IsEnum h e it i old)/\h.IsListIter it a i) where
 mem:=by simp
 obj:=λi h st b hb=>by
  obtain⟨⟨old,he⟩,o,h1,h2,h3⟩:=st;rcases Qs.mp hb with rfl|hb
  .exact⟨_,he,λv z=>by cases z⟩
  .rcases Qs.mp hb with rfl|hb
   .exact⟨o,h1,λv z=>by rw[h3]at z;cases z⟩
   .cases hb
 keep:=λi h h' st k=>by
  obtain⟨⟨old,he⟩,hi⟩:=st;exact⟨⟨old,k e (by simp) _ he⟩,hi.at λo y=>k it (by simp) o y⟩
 item:=by
  intro X hP hw hK hc i π s σ H E I hf st hg;subst hP hw hK;obtain⟨xs,x,hq,hx⟩:=hg;obtain⟨its,rv,p,hz⟩:=I.list hq;obtain⟨u,hu,ru⟩:=rv.get hx;have W:=WalksT.enumerate (prog:=X.prog) (w:=X.w) (I.ok.hd hc) e it a hne hae hai its.toArray;have hil:i<its.toArray.size:=by simpa using (Qa.mp hu).1
  refine W.item i s _ _ hil ⟨st.1,st.2,p.isList⟩ λT vals h' tk hPt hT hTup hMid hk=>?_;refine⟨_,rfl,W.go elts k pos i T _ _ _ hMid λh'' st'' hk''=>?_⟩;obtain⟨t,y,hy,rfl⟩:=hPt;have hyu:y=u:=by
   have:its[i]?=some y:=by simpa using hy
   rw[hu]at this;cases this;rfl
  subst hyu;obtain⟨o,ho,hr⟩:=hTup;have ho':=hk'' T o (W.apart i T _ hMid) ho;refine⟨.ref T,upd H T (.tup [.int i,x]),BY (s:=s) (h':=h'') (t':=tk) I (λb o hb e=>hk'' b o hb (hk b o hb e)) hf hT ⟨by show 2<=sizeLine;decide,[.int i t,y],.cons ⟨t,rfl⟩ (.cons ru .nil),o,ho',hr⟩,rfl,⟨T,x,I.hok.fresh hT,rfl,λys hy=>by rw[I.list_inj hy hq];exact hx,rfl⟩,⟨st''.1,st''.2.1⟩,λb hb=>?_⟩;have hb0:=(hf b hb).1;obtain⟨ob,hob,_⟩:∃o,s.heap.get? b=some o/\∀v,o.data≠.cell v:=by
   obtain⟨⟨old,he⟩,o,h1,h2,h3⟩:=st;rcases Qs.mp hb with rfl|hb
   .exact⟨_,he,λv z=>by cases z⟩
   .rcases Qs.mp hb with rfl|hb
    .exact⟨o,h1,λv z=>by rw[h3]at z;cases z⟩
    .cases hb
  rw[az (QW (Qk (Qv hob) hT))];exact hb0
 done:=by
  intro X hP hw hK hc i π s σ H E I hf st hg;subst hP hw hK;obtain⟨xs,hq,hx⟩:=hg;obtain⟨its,rv,p,hz⟩:=I.list hq;have hl:=rv.length;obtain⟨⟨old,he⟩,hi⟩:=st;exact wpAny_pyNext_enum_end (I.ok.hd hc) he hi p.isList (by simp;omega) λh' hx=>⟨rfl,Gs (t':=s.toks) I (λb o hb e=>hx b o (λz=>hb (by simp[z])) e) hf⟩
 self:=λ_ _ _ _ _ st h=>by
  obtain⟨⟨old,he⟩,_⟩:=st;exact wpAny_pyIter_enum he h
section
variable {X:Cx}{E:XK}{elts:List QX}{k:Nat}{tp:Pos}{e a b:QX}{f g:Ev->ak D}
noncomputable def MV(K:P4) (ta:TA):TI:=λσ H R=>ta σ H λvs H1=>∃a,vs=[.ref a]/\(∃xs,fk K H1 a xs)/\R (Ph K a) H1
def GW(hg:Gl X "enumerate")(hm:X.mg "enumerate"=none)(ha:PA X [a] ta)(hs:Qb [a] X.env=[(false,eval a X.env)]:=by rfl):PI X (.Tuple elts k tp) (.Call (.Name "enumerate" p) [a] [] pos) (MV X.K ta):=by
 intro π s σ H R I h;refine Call_ (q9 I hg hm PyProof.Rows.Boot.«enumerate» (Tn (de (ha pos π s σ H _ I h) λus s1 z9=>?_) hs rfl));obtain⟨vs,H1,I1,r1,q1⟩:=z9;obtain⟨l,e,⟨xs,hq⟩,q⟩:=q1;subst e;cases r1 with
 |cons r rr=>
  cases rr;cases r;obtain⟨its,rv,p,hz⟩:=I1.list hq;have hlt:l<s1.heap.objs.size:=by obtain⟨o,n,e,_⟩:=p;exact Qv e
  refine call_enumerate_list p.isList λh' he hi hsz hk=>?_;refine wpAny_pyIter_enum he ?_;refine⟨s1.heap.objs.size+1,[s1.heap.objs.size+1,s1.heap.objs.size],_,_,H1,rfl,I1.kept (t':=s1.toks) hk,B2 l s1.heap.objs.size (s1.heap.objs.size+1) (Nat.succ_ne_self _) (QW (Nat.lt_succ_of_lt hlt)) (QW hlt),⟨⟨_,he⟩,hi⟩,λb hb=>?_,q⟩;have hb':s1.heap.objs.size<=b:=by
   rcases Qs.mp hb with rfl|hb
   .omega
   .rcases Qs.mp hb with rfl|hb
    .exact Ql _
    .cases hb
  exact I1.fpOk hb' (I1.hok.fresh hb')
noncomputable def numbered(n:Nat):ac->ac
 |[]=>[]
 |d::ds=>.tup [.int n,d]::numbered (n+1) ds
theorem gi:∀(ds:ac) (n:Nat),(numbered n ds).length=ds.length
 |[],_=>rfl
 |d::ds,n=>by simp[numbered,gi ds]
theorem je:∀(ds:ac) (n i:Nat),(numbered n ds)[i]?=(ds[i]?).map λd=>D.tup [.int (n+i:Nat),d]
 |[],_,_=>by simp[numbered]
 |d::ds,n,0=>by simp[numbered]
 |d::ds,n,i+1=>by simp only[numbered,Q8];rw[je ds (n+1) i,show n+1+i=n+(i+1) by omega]
noncomputable def w6(f:Ev->ak D):Ev->ak (ac):=λρ=>(f ρ).bind λd=>match d with
 |.lst ds=>.ok (numbered 0 ds)
 |_=>.stuck
def Gv{K:P4}(hs:aG Ha H)(hp:H p=none)(r:Reps K Ha ds vs):∃H₀2,bw H Ha (upd H p (.tup vs)) H₀2/\Rep K H₀2 (.tup ds) (.ref p) :=
 ⟨upd Ha p (.tup vs),bo hs hp,aQ.mpr ⟨p,vs,rfl,kz.of aF,r.mono (bo (o:=.tup vs) hs hp).z⟩⟩
def mY(hg:Gl X "enumerate")(hm:X.mg "enumerate"=none)(h:DE X E a f)(hn:Lx a=true:=by exact rfl):DI X E (.Tuple elts k tp) (.Call (.Name "enumerate" p) [a] [] pos) (w6 f):=by
 refine⟨g9 (GW hg hm (dQ h.o gH (gC hn)) (gC hn)) λσ H R z9=>?_⟩;obtain⟨Ha,ρ,hs,hr,q⟩:=z9;refine⟨Ha,ρ,hs,hr,?_⟩;unfold w6 at q;cases e1:f ρ with
 |stuck|exn x=>rw[e1]at q;exact q
 |ok d=>
  rw[e1]at q;intro v H1 H01 g1 r1;cases d with
  |lst ds=>
   obtain⟨l,vs,rfl,hv,hrv⟩:=aI.mp r1;refine⟨l,rfl,⟨vs,aG.sqL g1.sub hv⟩,q _ H1 H01 g1 ⟨λi H' Ha' s1 s2 hi=>?_,λi H' Ha' x H2 d s1 s2 hd hy=>?_,λi H' Ha' s1 s2 hi=>?_⟩⟩
   .rw[gi]at hi
    exact⟨vs,vs[i]'(by rw[←hrv.length];exact hi),aG.sqL (s1.trans s2) hv,by simp⟩
   .obtain⟨p,y,hp,rfl,hy,rfl⟩:=hy
    rw[je]at hd;cases ei:ds[i]? with
    |none=>rw[ei]at hd;cases hd
    |some d'=>
     rw[ei]at hd;cases hd;obtain⟨u,k1,k2⟩:=hrv.get ei;have:=hy vs (aG.sqL (s1.trans s2) hv);rw[k1]at this;cases this;exact Gv s2 hp (Reps.cons (aB.mpr (by simp)) (Reps.cons (k2.mono s1) Reps.nil))
   .rw[gi]at hi
    exact⟨vs,aG.sqL (s1.trans s2) hv,by rw[←hrv.length];exact hi⟩
  |_=>exact q.elim
end
noncomputable def OA(f:Qu):al->ac->Option D
 |k::ks,d::ds=>if f=k then some d else OA f ks ds
 |_,_=>none
section
variable {X:Cx}{E:XK}{e a b o:QX}{es:List QX}{fe fo:Ev->ak D}{fa:Ev->ak (ac)}{pos:Pos}
noncomputable def putAll:al->ad->List (Qu×V)->List (Qu×V)
 |f::fs,v::vs,l=>putAll fs vs (nF f v l)
 |_,_,l=>l
theorem xr:∀{l:List (Qu×V)},f∉l.map (·.1)->nF f v l=l++[(f,v)]
 |[],_=>rfl
 |(k,x)::l,h=>by
  simp only[Qf,Qs,not_or]at h;unfold nF;rw[if_neg (λz=>h.1 z.symm),xr h.2];rfl
theorem qE:∀{fs:al}{vs:ad}{l:List (Qu×V)},fs.Nodup->(∀f∈fs,f∉l.map (·.1))->fs.length=vs.length->putAll fs vs l=l++fs.zip vs
 |[],[],l,_,_,_=>by simp[putAll]
 |[],v::vs,l,_,_,h=>by simp at h
 |f::fs,[],l,_,_,h=>by simp at h
 |f::fs,v::vs,l,nd,hn,h=>by
  rw[RP]at nd;unfold putAll;rw[xr (hn f Qq),qE nd.2 (λg hg=>?_) (by simpa using h),SH,Uo]
  .rfl
  .simp only[QI,Qf,RS,QQ,Qn,not_or]
   exact⟨hn g (Qi _ hg),λz=>nd.1 (z▸hg)⟩
def wU{a:P9}{o:HO}(h:H a=some o):upd H a o=H:=by
 funext b
 by_cases hb:b=a
 .subst hb;rw[aF,h]
 .rw[az hb]
def ux{a:P9}{o u:HO}:upd (upd H a o) a u=upd H a u:=by
 funext b
 by_cases hb:b=a
 .subst hb;rw[aF,aF]
 .rw[az hb,az hb,az hb]
noncomputable def iu:ac->Option (List Int)
 |[]=>some []
 |.int x::r=>(iu r).map (x::·)
 |_=>none
theorem xS{K:P4}{H:Hp}:∀{ds:ac}{ys:List Int}{vs:ad}{us:List P2},iu ds=some ys->Reps K H ds vs->bA vs us->IntsAre us ys
 |[],ys,vs,us,h,r,q=>by
  cases h;rw[Reps.nil_iff.mp r]at q;cases q;exact .nil
 |d::ds,ys,vs,us,h,r,q=>by
  obtain⟨v,r',rfl,h1,h2⟩:=aM.mp r;cases q with
  |cons q1 q2=>
   cases d with
   |int x=>
    unfold iu at h;cases e:iu ds with
    |none=>rw[e]at h;cases h
    |some zs=>
     rw[e]at h;cases h;rw[aB.mp h1]at q1;obtain⟨t,rfl⟩:=q1;exact .cons _ _ (xS e h2 q2)
   |_=>cases h
end
def Hd{K:P4}:∀f∈([]:al),n9 K C f:=λ_ h=>nomatch h
def Ed{K:P4}(h:SA K (.ref C) f=some none)(r:∀f∈ks,n9 K C f):∀g∈f::ks,n9 K C g:=λg hg=>by
 rcases Qs.mp hg with rfl|hg
 .exact h
 .exact r g hg
end DL
namespace Com
open PySem L2 DL
noncomputable def IK(tg:Ev->D->ak Ev) (s:Ev->ak Fl) (ρ:Ev) (ds:ac):ak Fl:=cg tg s ds ρ
noncomputable def Aq(d:D):ak (ac):=match d with
 |.lst ds=>.ok (numbered 0 ds)
 |_=>.stuck
noncomputable def og(d:D):ak (ac):=match d with
 |.lst ds=>.ok ds
 |_=>.stuck
noncomputable def Iv(d:D):ak (ac):=match d with
 |.tup ds=>.ok ds
 |_=>.stuck
noncomputable def eT(n:Nat) (fr:am) (tg:Ev->D->ak Ev) (tt fe:Ev->ak D) (ρ:Ev) (ds:ac):ak D:=if ds.length<=line then match cf (cO n fr ρ) tg tt fe ds with
  |.ok es=>.ok (.lst es)
  |_=>.stuck
 else .stuck
noncomputable def Bc(tg:Ev->D->ak Ev) (s:Ev->ak Fl) (ρ:Ev) (d:D):ak Fl:=match d with
 |.int j=>if -4611686018427387904<=j/\j<4611686018427387904 then cg tg s (intsFrom 0 j.toNat) ρ else .stuck
 |_=>.stuck
section
variable {s t:Ev->ak Fl}{f g h:Ev->ak D}{src:Ev->ak (ac)}{fa:Ev->ak (ac)}{ρ r:Ev}{i j n:Nat}{d x y:D}{ds es xs:ac}{a b:Int}{tg:Ev->D->ak Ev}{tt fe:Ev->ak D}{fr:am}
def pV:kE src tg s ρ=(src ρ).bind (IK tg s ρ):=aJ rfl
def mH:IK tg s ρ ds=cg tg s ds ρ:=aJ rfl
def pT:w6 f ρ=(f ρ).bind Aq:=aJ rfl
def lU:Aq (.lst ds)=.ok (numbered 0 ds):=aJ rfl
def pS:kq f ρ=(f ρ).bind og:=aJ rfl
def lT:og (.lst ds)=.ok ds:=aJ rfl
def pR:Dq f ρ=(f ρ).bind Iv:=aJ rfl
def lS:Iv (.tup ds)=.ok ds:=aJ rfl
def pW:di n fr src tg tt fe ρ=(src ρ).bind (eT n fr tg tt fe ρ):=aJ rfl
def uP(h:(ds.length==is.length)=true):dw is ρ (.tup ds)=.ok (dr ρ is ds):=by
 show(match (if ds.length=is.length then some ds else none) with|some ds=>ak.ok (dr ρ is ds)|none=>.stuck)=_;rw[if_pos (eq_of_beq h)]
def mG:qw f tg s ρ=(f (ey ρ)).bind (Bc tg s ρ):=aJ rfl
def lN{k:Nat}(h:k<=1000000):Bc tg s ρ (.int (k:Int))=cg tg s (intsFrom 0 k) ρ:=by
 unfold Bc;dsimp only;rw[if_pos ⟨by omega,by omega⟩,Tw]
def Bj:KY (.int a) (.int b)=.ok (.int (if b > a then b else a)):=aJ rfl
def Bk:k8 (.bl true)=.ok (.int 1):=aJ rfl
def wa:k8 (.bl false)=.ok (.int 0):=aJ rfl
def nN:nW (.int 10) (.int 18)=.ok (.int 1000000000000000000):=aJ rfl
def yz(hl:ds.length<=1000000)(h:∀d∈ds,∃ρ1,tg (cO n fr ρ) d=.ok ρ1/\tt ρ1=.ok (.bl true)/\fe ρ1=.ok (F d)):eT n fr tg tt fe ρ ds=.ok (.lst (ds.map F)):=by
 unfold eT;rw[if_pos (show ds.length<=line from hl),u3 h]
end
noncomputable def un(s x:e8):e8:=(s.1*x.2+x.1*s.2,s.2*x.2)
def EU(h:f ρ=.ok (.lst ds)):o8 f tg s ρ=cg tg s ds ρ:=by unfold o8;rw[h];rfl
noncomputable def tot(xs:List e8):e8:=xs.foldl un (0,1)
end Com
local macro_rules|`(tactic|open_line with[$xs,*])=>`(tactic|simp only[uO,kW,l4,l3,mn,rG,lZ,rK,l7,mJ,jN,yf,sA,su,rR,mj,sJ,mh,rP,md,ma,jL,sC,rQ,mf,ym,yl,sI,yk,rX,mK,jP,jO,sL,mO,mM,yb,rV,rT,rW,ml,sr,mF,mE,rm,lR,E3,lY,rE,lX,lW,lV,pU,rJ,l6,l5,ya,rS,yc,xY,rB,rA,rz,sD,mI,jQ,yg,sH,sG,sE,sq,sN,rY,ye,yd,cX,mq,nO,kT,Qf,RS,QE,Sg,Sv,Su,RZ,R8,RO,Q8,SI,SJ,To,Nat.reduceSub,Nat.reduceAdd,SS,SR,TF,Ts,rq,r0,jg,eu,rZ,xZ,rH,xX,rn,kj,ki,mD,mC,mz,my,mx,mw,decide_true,decide_false,Nat.reduceLeDiff,Nat.reduceBEq,Int.reduceBEq,beq_self_eq_true,DL.dOne,DL.mYes,dI,el,eh,dm,dH,gR,fR,gQ,fQ,gP,yj,yi,yh,Int.reduceLT,Int.reduceLE,Int.reduceSub,Int.reduceAdd,Int.reduceMul,Int.reduceNeg,mv,jM,Int.reduceToNat,TH,pV,mH,pT,lU,pS,lT,pR,lS,pW,uP,mG,Bj,Bk,wa,nN,$[$xs:term],*])
local macro_rules|`(tactic|open_line with[$xs,*] seeing $h)=>`(tactic|simp only[uO,kW,l4,l3,mn,rG,lZ,rK,l7,mJ,jN,yf,sA,su,rR,mj,sJ,mh,rP,md,ma,jL,sC,rQ,mf,ym,yl,sI,yk,rX,mK,jP,jO,sL,mO,mM,yb,rV,rT,rW,ml,sr,mF,mE,rm,lR,E3,lY,rE,lX,lW,lV,pU,rJ,l6,l5,ya,rS,yc,xY,rB,rA,rz,sD,mI,jQ,yg,sH,sG,sE,sq,sN,rY,ye,yd,cX,mq,nO,kT,Qf,RS,QE,Sg,Sv,Su,RZ,R8,RO,Q8,SI,SJ,To,Nat.reduceSub,Nat.reduceAdd,SS,SR,TF,Ts,rq,r0,jg,eu,rZ,xZ,rH,xX,rn,kj,ki,mD,mC,mz,my,mx,mw,decide_true,decide_false,Nat.reduceLeDiff,Nat.reduceBEq,Int.reduceBEq,beq_self_eq_true,DL.dOne,DL.mYes,dI,el,eh,dm,dH,gR,fR,gQ,fQ,gP,yj,yi,yh,Int.reduceLT,Int.reduceLE,Int.reduceSub,Int.reduceAdd,Int.reduceMul,Int.reduceNeg,mv,jM,Int.reduceToNat,TH,pV,mH,pT,lU,pS,lT,pR,lS,pW,uP,mG,Bj,Bk,wa,nN,$[$xs:term],*] at $(⟨h⟩):ident)
namespace Com
open PySem L2 DL
def fw{a b:Int}(ha:0<=a)(hb:0<b):0<=(oA a b).1:=Int.ediv_nonneg ha (by omega)
def AX{a b:Int}(ha:0<a)(hb:0<b):0<(oA a b).1:=by
 have hg:0<(QY a b:Int):=pO (by omega);have hd:(QY a b:Int)∣a:=Uv ..;exact Int.ediv_pos_of_pos_of_dvd ha (by omega) hd
def ML(h0:0<=a)(h1:a<(F3:Int)):a.natAbs<wI:=Qk (show a.natAbs<F3 by omega) Im
def pQ(P:Nat->Ev->Prop)(h:∀k,k<n->∀ρ,P k ρ->∃ρ2,body (ρ.set i (.sh (.int (k:Int))))=.ok (.nx ρ2)/\P (k+1) ρ2)(h0:P 0 ρ):∃ρ',cg (b6 i) body (intsFrom 0 n) ρ=.ok (.nx ρ')/\P n ρ':=by
 have key:∀(m k:Nat) (ρ:Ev),k+m=n->P k ρ->∃ρ',cg (b6 i) body ((intsFrom 0 n).drop k) ρ=.ok (.nx ρ')/\P n ρ':=by
  intro m
  induction m with
  |zero=>
   intro k ρ hk hp;have:k=n:=by omega
   subst this;rw[EL];exact⟨ρ,rfl,hp⟩
  |succ m ih=>
   intro k ρ hk hp;obtain⟨ρ2,h1,h2⟩:=h k (by omega) ρ hp;rw[Cs (by omega),lO (tg:=b6 i) rfl h1];exact ih (k+1) ρ2 (by omega) h2
 exact key n 0 ρ (by omega) h0
def v9(P:Nat->Ev->Prop)(h:∀k d,ds[k]?=some d->∀ρ,P k ρ->∃ρ1 ρ2,tg ρ d=.ok ρ1/\body ρ1=.ok (.nx ρ2)/\P (k+1) ρ2)(h0:P 0 ρ):∃ρ',cg tg body ds ρ=.ok (.nx ρ')/\P ds.length ρ':=by
 have key:∀(m k:Nat) (ρ:Ev),k+m=ds.length->P k ρ->∃ρ',cg tg body (ds.drop k) ρ=.ok (.nx ρ')/\P ds.length ρ':=by
  intro m
  induction m with
  |zero=>
   intro k ρ hk hp;have:k=ds.length:=by omega
   subst this;rw[Sr];exact⟨ρ,rfl,hp⟩
  |succ m ih=>
   intro k ρ hk hp;have hlt:k<ds.length:=by omega
   obtain⟨ρ1,ρ2,h1,h2,h3⟩:=h k ds[k] (P5 hlt) ρ hp;rw[QZ hlt,lO h1 h2];exact ih (k+1) ρ2 (by omega) h3
 exact key ds.length 0 ρ (by omega) h0
def wG:("abcdefghijklmnopqrstuvwxyz" : Qu).cps.toList=(QL 26).map (97 + ·):=by decide +kernel
def Lg:∀n,n<26->oK (97+n)=true:=by decide +kernel
def Lf(h0:0<=v)(h1:v<26):aO (.str "abcdefghijklmnopqrstuvwxyz") (.int v)=.ok (.str ⟨#[97+v.toNat]⟩):=by
 obtain⟨n,rfl⟩:=Q3 h0;have hn:n<26:=by omega
 have e:atI ("abcdefghijklmnopqrstuvwxyz" : Qu).cps.toList ((n:Nat):Int)=some (97+n):=fJ (by rw[wG];simp[hn]);show(if("abcdefghijklmnopqrstuvwxyz" : Qu).length<=line then(match atI ("abcdefghijklmnopqrstuvwxyz" : Qu).cps.toList ((n:Nat):Int) with|some c=>ak.ok (D.str ⟨#[c]⟩)|none=>.stuck) else .stuck)=_;rw[if_pos (by decide),e];rfl
theorem A3:∀cs:am,Str.join "" (cs.map λc=>(⟨#[c]⟩:Qu))=⟨cs.toArray⟩
 |[]=>rfl
 |[c]=>rfl
 |c::d::cs=>by
  show(⟨#[c]⟩:Qu)++""++Str.join "" ((d::cs).map λc=>(⟨#[c]⟩:Qu))=_;rw[A3 (d::cs)];apply Str.ext';show(#[c]++("" : Qu).cps)++(d::cs).toArray=_;have:("" : Qu).cps=#[]:=rfl;rw[this];simp
theorem Ap:∀cs:am,ip (cs.map λc=>D.str ⟨#[c]⟩)=some (cs.map λc=>(⟨#[c]⟩:Qu))
 |[]=>rfl
 |c::cs=>by
  show(ip (cs.map λc=>D.str ⟨#[c]⟩)).map _=_;rw[Ap cs];rfl
def zD{cs:am}(h:cs.length<=1000):lL "" [.lst (cs.map λc=>D.str ⟨#[c]⟩)]=.ok (.str ⟨cs.toArray⟩):=by
 have NI:ie "" (cs.map λc=>(⟨#[c]⟩:Qu))=true:=by
  unfold ie;have e:((cs.map λc=>(⟨#[c]⟩:Qu)).map (·.length)).sum=cs.length:=by
   clear h
   induction cs with
   |nil=>rfl
   |cons c cs ih=>
    simp only[Qf,QP,QE,ih];show 1+cs.length=_;omega
  rw[e,QK];exact⟨by decide,decide_eq_true (by rw[P7];omega)⟩
 show(match ip (cs.map λc=>D.str ⟨#[c]⟩) with|some ys=>if ie "" ys=true then ak.ok (D.str (UJ "" ys)) else .stuck|none=>.stuck)=_;rw[Ap];show(if ie "" _=true then ak.ok (D.str (UJ "" _)) else .stuck)=_;rw[if_pos NI];show ak.ok (D.str (Builtin.Str.glued "" _))=_;rw[StrLaws.glued_eq_join,A3]
structure ni (zs:al):Prop where
 nd:zs.Nodup
 nm:∀z∈zs,nameB z=true
def K2(a:am):(⟨a.toArray⟩:Qu).length=a.length:=by show a.toArray.size=_;simp
structure vk where
 a:Qu
 b:Qu
 w:Qu
 l:e8
 o:Option e8
noncomputable def gz:Option e8->D
 |none=>.non
 |some x=>fr x
noncomputable def bI(t:vk):D:=.tup [.str t.a,.str t.b,.str t.w,fr t.l,gz t.o]
structure oZ (zs:al) (t:vk):Prop where
 a:t.a∈zs
 b:t.b∈zs
 ne:t.a≠t.b
 w:t.w="one"∨t.w="both"
 l:yH t.l
 l0:0<=t.l.1
 o:∀x,t.o=some x->yH x/\0<x.1
def nv{zs:al}{k:Int}(h0:0<=k)(h1:k<zs.length):∃z,zs[k.toNat]?=some z/\aO (.lst (zs.map D.str)) (.int k)=.ok (.str z):=by
 obtain⟨n,rfl⟩:=Q3 h0;have hn:n<zs.length:=by omega
 refine⟨zs[n],by simp[hn],ir ?_⟩;rw[Qg,P5 hn];rfl
def Gj(h0:0<=k)(h1:k<2):∃z:Qu,(z="one"∨z="both")/\aO (.lst [.str "one",.str "both"]) (.int k)=.ok (.str z):=by
 have:k=0∨k=1:=by omega
 rcases this with rfl|rfl
 .exact⟨_,.inl rfl,kj⟩
 .exact⟨_,.inr rfl,ki⟩
def vh{n d e:Int}(h2:2<=n)(d0:0<=d)(d1:d<n)(e0:0<=e)(e1:e<n-1):(0<=(d+1+e).fmod n/\(d+1+e).fmod n<n)/\(d+1+e).fmod n≠d:=by
 refine⟨fg (by omega),?_⟩;rw[Rm _ (by omega)]
 by_cases h:d+1+e<n
 .rw[Ur (by omega) h];omega
 .have:(d+1+e) % n=d+1+e-n:=by
   rw[←Int.sub_emod_right (d+1+e) n,Ur (by omega) (by omega)]
  rw[this];omega
def lI{α:Type}{zs:List α}(nd:zs.Nodup){i j:Nat}{x y:α}(hi:zs[i]?=some x)(hj:zs[j]?=some y)(hij:i≠j):x≠y:=by
 intro e;subst e;obtain⟨h1,e1⟩:=Qa.mp hi;obtain⟨h2,e2⟩:=Qa.mp hj;exact hij ((List.getElem_inj nd).mp (e1.trans e2.symm))
noncomputable def oV:Ev->ak Fl :=
 (aA (b5 (gZ (aq (af (ae 0) aC) m_is_ratio) (ag (ag (ae 0) (dC (.int 0)) aO) (dC (.int 0)) OB)))
 aw)
noncomputable def m_is_length:ac->ak D:=b7 1 oV
noncomputable def tL:Ev->ak Fl :=
 (aA (b5 (iQ (ag (ae 0) (dC (.non)) uk) (gZ (aq (af (ae 0) aC) m_is_ratio) (ag (ag (ae 0) (dC (.int 0)) aO) (dC (.int 0)) F1))))
 aw)
noncomputable def m_is_worth:ac->ak D:=b7 1 tL
noncomputable def yF:Ev->ak Fl :=
 (aA (er (iQ (cA (bV (ae 0) (eC "tuple"))) (ag (aq (af (ae 0) aC) (m1 cT)) (dC (.int 5)) gS))
 (aA (b5 (dC (.bl false)))
 aw)
 aw)
 (aA (er (iQ (cA (aq (af (ag (ae 0) (dC (.int 0)) aO) aC) m_is_name)) (iQ (cA (aq (af (ag (ae 0) (dC (.int 1)) aO) aC) m_is_name)) (ag (ag (ae 0) (dC (.int 0)) aO) (ag (ae 0) (dC (.int 1)) aO) kH)))
 (aA (b5 (dC (.bl false)))
 aw)
 aw)
 (aA (er (iQ (cA (bV (ag (ae 0) (dC (.int 2)) aO) (eC "str"))) (ag (ag (ae 0) (dC (.int 2)) aO) (dC (.tup [(.str "one"),(.str "both")])) dy))
 (aA (b5 (dC (.bl false)))
 aw)
 aw)
 (aA (b5 (gZ (aq (af (ag (ae 0) (dC (.int 3)) aO) aC) m_is_length) (aq (af (ag (ae 0) (dC (.int 4)) aO) aC) m_is_worth)))
 aw))))
noncomputable def m_is_tie:ac->ak D:=b7 1 yF
noncomputable def iV:Ev->ak Fl :=
 (aA (er (iQ (cA (bV (ae 0) (eC "list"))) (cA (iA K0 K0 (dC (.int 2)) (aq (af (ae 0) aC) (m1 cT)) (dC (.int 7)))))
 (aA cx
 aw)
 aw)
 (aA (kE (w6 (ae 0)) (dw [1,2])
 (aA (er (iQ (cA (aq (af (ae 2) aC) m_is_name)) (ag (ae 2) (HX (ae 0) ib (gK (ae 1))) sT))
 (aA cx
 aw)
 aw)
 aw))
 aw))
noncomputable def m_look_at_places:ac->ak D:=b7 3 iV
noncomputable def jV:Ev->ak Fl :=
 (aA (er (iQ (cA (bV (ae 0) (eC "list"))) (ag (aq (af (ae 0) aC) (m1 cT)) (dC (.int 14)) F1))
 (aA cx
 aw)
 aw)
 (aA (kE (w6 (ae 0)) (dw [2,3])
 (aA (er (iQ (cA (aq (af (ae 3) aC) m_is_tie)) (iQ (ag (ag (ae 3) (dC (.int 0)) aO) (ae 1) dy) (ag (ag (ae 3) (dC (.int 1)) aO) (ae 1) dy)))
 (aA cx
 aw)
 aw)
 aw))
 aw))
noncomputable def m_look_at_ties:ac->ak D:=b7 4 jV
noncomputable def tN:Ev->ak Fl :=
 (aA (b5 (gZ (aq (af (ae 0) aC) m_is_name) (ag (ae 0) (ae 1) sT)))
 aw)
noncomputable def m_is_place:ac->ak D:=b7 2 tN
noncomputable def kJ:Ev->ak Fl :=
 (aA (er (iQ (cA (bV (ae 0) (eC "tuple"))) (ag (aq (af (ae 0) aC) (m1 cT)) (dC (.int 4)) gS))
 (aA cx
 aw)
 aw)
 (aA (fL (aq (af (ag (ae 0) (dC (.int 0)) aO) aC) m_look_at_places))
 (aA (fL (aq (af (ag (ae 0) (dC (.int 1)) aO) (af (ag (ae 0) (dC (.int 0)) aO) aC)) m_look_at_ties))
 (aA (er (cA (aq (af (ag (ae 0) (dC (.int 2)) aO) (af (ag (ae 0) (dC (.int 0)) aO) aC)) m_is_place))
 (aA cx
 aw)
 aw)
 (aA (er (iQ (cA (aq (af (ag (ae 0) (dC (.int 3)) aO) (af (ag (ae 0) (dC (.int 0)) aO) aC)) m_is_place)) (ag (ag (ae 0) (dC (.int 3)) aO) (ag (ae 0) (dC (.int 2)) aO) kH))
 (aA cx
 aw)
 aw)
 aw)))))
noncomputable def m_look_at_web:ac->ak D:=b7 1 kJ
noncomputable def bN:Ev->ak Fl :=
 (aA (b5 (gZ (aq (af (ae 1) aC) m_is_whole) (iA K0 KZ (dC (.int 0)) (ae 1) (aq (af (ag (ae 0) (dC (.int 1)) aO) aC) (m1 cT)))))
 aw)
noncomputable def m_is_tie_number:ac->ak D:=b7 2 bN
noncomputable def iU:Ev->ak Fl :=
 (aA (fL (aq (af (ae 0) aC) m_look_at_web))
 (aA (er (cA (bV (ae 1) (eC "list")))
 (aA cx
 aw)
 aw)
 (aA (bJ 2 (bV (dC (.int 1)) pA))
 (aA (o8 (ae 1) (b6 3)
 (aA (er (iQ (cA (aq (af (ae 0) (af (ae 3) aC)) m_is_tie_number)) (ag (ae 3) (ae 2) K0))
 (aA cx
 aw)
 aw)
 (aA (er (ag (ag (ag (ag (ae 0) (dC (.int 1)) aO) (ae 3) aO) (dC (.int 4)) aO) (dC (.non)) uk)
 (aA cx
 aw)
 aw)
 (aA (bJ 2 (ae 3))
 aw))))
 aw))))
noncomputable def m_look_at_taking:ac->ak D:=b7 4 iU
noncomputable def jt:Ev->ak Fl :=
 (aA (er (iQ (cA (aq (af (ae 0) aC) m_is_ratio)) (ag (ag (ae 0) (dC (.int 0)) aO) (dC (.int 0)) KZ))
 (aA cx
 aw)
 aw)
 aw)
noncomputable def m_look_at_purse:ac->ak D:=b7 1 jt
structure j7 where
 ps:al
 ts:List vk
 fi:Qu
 la:Qu
noncomputable def aS(w:j7):D:=.tup [.lst (w.ps.map D.str),.lst (w.ts.map bI),.str w.fi,.str w.la]
structure cq (w:j7):Prop where
 n2:2<=w.ps.length
 n7:w.ps.length<=7
 nm:ni w.ps
 t14:w.ts.length<=14
 ts:∀t∈w.ts,oZ w.ps t
 fi:w.fi∈w.ps
 la:w.la∈w.ps
 ne:w.fi≠w.la
def kc(h:nameB z=true):m_is_name [.str z]=.ok (.bl true):=by
 have hl:z.length<=8:=by
  unfold nameB at h;simp only[QK,decide_eq_true_eq]at h;exact h.2.1
 rw[zE (show NI (.str z)=true from decide_eq_true (QM hl (by decide)))];show ak.ok (D.bl (nameB z))=_;rw[h]
def gF(h:Low x):m_is_ratio [fr x]=.ok (.bl true):=by
 rw[vY];show ak.ok (D.bl (qC (.tup [.int x.1,.int x.2])))=_;have h1:=h.q1;have h2:=h.g1;show ak.ok (D.bl (decide (1<=x.2)&&(QY x.1 x.2==1)))=_;rw[decide_eq_true h1,h2];rfl
def oG(h:Low x)(h0:0<=x.1):m_is_length [fr x]=.ok (.bl true):=by
 have e:fr x=.tup [.int x.1,.int x.2]:=rfl;have h1:=gF h;rw[e]at h1 ⊢;open_line with[m_is_length,oV,h1,decide_eq_true h0,decide_eq_true (show x.1≥0 from h0)]
def yO(h:∀x,o=some x->Low x/\0<x.1):m_is_worth [gz o]=.ok (.bl true):=by
 cases o with
 |none=>rfl
 |some x=>
  obtain⟨hx,h0⟩:=h x rfl;have e:gz (some x)=.tup [.int x.1,.int x.2]:=rfl;have h1:=gF hx;rw[show fr x=.tup [.int x.1,.int x.2] from rfl]at h1;rw[e];open_line with[m_is_worth,tL,h1,decide_eq_true h0]
def Bm:kH (.str x) (.str y)=.ok (.bl (x==y)):=by unfold kH;rw[if_pos ⟨rfl,rfl⟩,c8]
def Di(nm:ni zs)(h:oZ zs t):m_is_tie [bI t]=.ok (.bl true):=by
 obtain⟨a,b,w,l,o⟩:=t;obtain⟨ha,hb,hne,hw,hl,hl0,ho⟩:=h;have h1:=kc (nm.nm a ha);have h2:=kc (nm.nm b hb);have h3:=oG hl.toLow hl0;have h4:=yO (o:=o) λx hx=>⟨(ho x hx).1.toLow,(ho x hx).2⟩
 have h5:(a==b)=false:=beq_eq_false_iff_ne.mpr hne;have h6:dy (.str w) (.tup [.str "one",.str "both"])=.ok (.bl false):=by
  rcases hw with rfl|rfl<;>rfl
 have e:bI ⟨a,b,w,l,o⟩=.tup [.str a,.str b,.str w,fr l,gz o]:=rfl;rw[e];open_line with[m_is_tie,yF,h1,h2,Bm,h5,h6,h3,h4]
def BO{zs:al}:(zs.map D.str).any (λd=>c8 d (.str z))=decide (z∈zs):=by
 induction zs with
 |nil=>rfl
 |cons y zs ih=>
  rw[Qf,Tz,ih];show((y==z)||decide (z∈zs))=_
  by_cases h:y=z
  .subst h;simp
  .have:(y==z)=false:=beq_eq_false_iff_ne.mpr h
   rw[this,Bool.false_or];have:z∈y::zs↔z∈zs:=by simp[Q2 h]
   exact decide_eq_decide.mpr this.symm
def nC{zs:al}:(zs.map D.str).all (bq n)=true:=QF.mpr λd hd=>by
 obtain⟨z,_,rfl⟩:=QO.mp hd;cases n<;>rfl
def A8{zs:al}:sT (.str z) (.lst (zs.map D.str))=.ok (.bl (decide (z∈zs))):=by
 have e:CW (.str z) (.lst (zs.map D.str))=some (decide (z∈zs)):=(if_pos ⟨rfl,nC⟩).trans (congrArg some BO);unfold sT;rw[e]
def fu{zs:al}:dy (.str z) (.lst (zs.map D.str))=.ok (.bl (!(decide (z∈zs)))):=by
 have e:CW (.str z) (.lst (zs.map D.str))=some (decide (z∈zs)):=(if_pos ⟨rfl,nC⟩).trans (congrArg some BO);unfold dy;rw[e]
def qG{zs:al}(h:nameB z=true)(hz:z∈zs):m_is_place [.str z,.lst (zs.map D.str)]=.ok (.bl true):=by
 open_line with[m_is_place,tN,kc h,A8,decide_eq_true hz]
def lH{α:Type}{F:α->D}{xs:List α}{k:Nat}(h:(numbered 0 (xs.map F))[k]?=some d):∃x,xs[k]?=some x/\d=.tup [.int (k:Int),F x]:=by
 rw[je,Qg]at h;cases e:xs[k]? with
 |none=>rw[e]at h;cases h
 |some x=>
  rw[e]at h;cases h;exact⟨x,rfl,by simp⟩
def Fz{α:Type}{F:α->D}{xs:List α}(h:k<=xs.length):wy (xs.map F) none (some (k:Int))=(xs.take k).map F:=by
 rw[HY,HT.sIx_none,HT.sIx_nat,Nat.min_eq_left h,RK,To]
def Cb(h2:2<=zs.length)(h7:zs.length<=7)(nm:ni zs):m_look_at_places [.lst (zs.map D.str)]=.ok .non:=by
 obtain⟨ρ',hl,_⟩:=v9 (ds:=numbered 0 (zs.map D.str)) (tg:=dw [1,2]) (ρ:=[.sh (.lst (zs.map D.str)),.no,.no])
  (body:=(aA (er (iQ (cA (aq (af (ae 2) aC) m_is_name)) (ag (ae 2) (HX (ae 0) ib (gK (ae 1))) sT)) (aA cx aw) aw) aw))
  (λk ρ=>∃a b,ρ=[.sh (.lst (zs.map D.str)),a,b]) (by
   rintro k d hd ρ ⟨a,b,rfl⟩;obtain⟨z,hz,rfl⟩:=lH hd;refine⟨_,[.sh (.lst (zs.map D.str)),.sh (.int (k:Int)),.sh (.str z)],uP rfl,?_,_,_,rfl⟩;have hk:k<zs.length:=(Qa.mp hz).1;have hnot:decide (z∈zs.take k)=false:=decide_eq_false λhm=>by
    obtain⟨j,hj⟩:=List.mem_iff_getElem?.mp hm;have hjk:j<k:=by have:=(Qa.mp hj).1;simp at this;omega
    rw[UY hjk]at hj;exact lI nm.nd hj hz (by omega) rfl
   open_line with[kc (nm.nm z (Qh hz)),Fz (Ul hk),A8,hnot]) ⟨.no,.no,rfl⟩
 have e1:decide ((2:Int)<=(zs.length:Int))=true:=decide_eq_true (by omega);have e2:decide ((zs.length:Int)<=7)=true:=decide_eq_true (by omega);open_line with[m_look_at_places,iV,P7,e1,e2,hl]
def Gx{ts:List vk}(h14:ts.length<=14)(nm:ni zs)(ht:∀t∈ts,oZ zs t):m_look_at_ties [.lst (ts.map bI),.lst (zs.map D.str)]=.ok .non:=by
 obtain⟨ρ',hl,_⟩:=v9 (ds:=numbered 0 (ts.map bI)) (tg:=dw [2,3]) (ρ:=[.sh (.lst (ts.map bI)),.sh (.lst (zs.map D.str)),.no,.no])
  (body:=(aA (er (iQ (cA (aq (af (ae 3) aC) m_is_tie)) (iQ (ag (ag (ae 3) (dC (.int 0)) aO) (ae 1) dy) (ag (ag (ae 3) (dC (.int 1)) aO) (ae 1) dy))) (aA cx aw) aw) aw))
  (λk ρ=>∃a b,ρ=[.sh (.lst (ts.map bI)),.sh (.lst (zs.map D.str)),a,b]) (by
   rintro k d hd ρ ⟨a,b,rfl⟩;obtain⟨t,ht',rfl⟩:=lH hd;refine⟨_,[.sh (.lst (ts.map bI)),.sh (.lst (zs.map D.str)),.sh (.int (k:Int)),.sh (bI t)],uP rfl,?_,_,_,rfl⟩;have hT:=ht t (Qh ht');have h1:=Di nm hT;rw[show bI t=.tup [.str t.a,.str t.b,.str t.w,fr t.l,gz t.o] from rfl]at h1 ⊢;open_line with[h1,fu,decide_eq_true hT.a,decide_eq_true hT.b]) ⟨.no,.no,rfl⟩
 have e1:decide ((14:Int)<(ts.length:Int))=false:=decide_eq_false (by omega);open_line with[m_look_at_ties,jV,P7,e1,decide_eq_false (show ¬(ts.length:Int) > 14 by omega),hl]
def yP(h:cq w):m_look_at_web [aS w]=.ok .non:=by
 obtain⟨ps,ts,fi,la⟩:=w;have h1:=Cb h.n2 h.n7 h.nm;have h2:=Gx h.t14 h.nm h.ts;have h3:=qG (h.nm.nm fi h.fi) h.fi;have h4:=qG (h.nm.nm la h.la) h.la;have h5:(la==fi)=false:=beq_eq_false_iff_ne.mpr (Q2 h.ne);rw[show aS ⟨ps,ts,fi,la⟩=.tup [.lst (ps.map D.str),.lst (ts.map bI),.str fi,.str la] from rfl];open_line with[m_look_at_web,kJ,h1,h2,h3,h4,Bm,h5]
def DR(h:Low x)(h0:0<=x.1):m_look_at_purse [fr x]=.ok .non:=by
 have h1:=gF h;rw[show fr x=.tup [.int x.1,.int x.2] from rfl]at h1 ⊢;open_line with[m_look_at_purse,jt,h1,decide_eq_false (show ¬x.1<0 by omega)]
noncomputable def eJ(ks:am):D:=.lst (ks.map λ(k:Nat)=>D.int (k:Int))
structure BR (w:j7) (ks:am):Prop where
 up:ks.Pairwise (· < ·)
 wo:∀k∈ks,∃t x,w.ts[k]?=some t/\t.o=some x
def BR.lt(T:BR w ks):∀k∈ks,k<w.ts.length:=λk hk=>by
 obtain⟨t,x,h1,h2⟩:=T.wo k hk;exact(Qa.mp h1).1
def nu{w:j7}{k:Nat}(h:w.ts[k]?=some t):aO (.lst (w.ts.map bI)) (.int (k:Int))=.ok (bI t):=ir (by rw[Qg,h];rfl)
def xG{k:Nat}(h:k<w.ts.length):m_is_tie_number [aS w,.int (k:Int)]=.ok (.bl true):=by
 rw[show aS w=.tup [.lst (w.ps.map D.str),.lst (w.ts.map bI),.str w.fi,.str w.la] from rfl];open_line with[m_is_tie_number,bN,bY,A6,P7,decide_eq_true (show(0:Int)<=(k:Int) by omega),decide_eq_true (show(k:Int)<(w.ts.length:Int) by omega)]
def B3(W:cq w)(T:BR w ks):m_look_at_taking [aS w,eJ ks]=.ok .non:=by
 obtain⟨ρ',hl,_⟩:=v9 (ds:=ks.map λ(k:Nat)=>D.int (k:Int)) (tg:=b6 3) (ρ:=[.sh (aS w),.sh (eJ ks),.sh (.int (-1)),.no])
  (body:=(aA (er (iQ (cA (aq (af (ae 0) (af (ae 3) aC)) m_is_tie_number)) (ag (ae 3) (ae 2) K0))
   (aA cx aw) aw)
   (aA (er (ag (ag (ag (ag (ae 0) (dC (.int 1)) aO) (ae 3) aO) (dC (.int 4)) aO) (dC (.non)) uk)
   (aA cx aw) aw)
   (aA (bJ 2 (ae 3)) aw))))
  (λj ρ=>∃(ah:Int) (x:Sl),ρ=[.sh (aS w),.sh (eJ ks),.sh (.int ah),x]/\∀v∈ks.drop j,ah<(v:Int)) (by
   rintro j d hd ρ ⟨ah,x,rfl,hah⟩;rw[Qg]at hd;cases e:ks[j]? with
   |none=>rw[e]at hd;cases hd
   |some k=>
    rw[e]at hd;cases hd;have hj:j<ks.length:=(Qa.mp e).1;have hkm:=Qh e;obtain⟨t,y,h1,h2⟩:=T.wo k hkm;have hdr:ks.drop j=k::ks.drop (j+1):=by
     rw[QZ hj]
     congr 1
     rw[P5 hj]at e;exact Q4 e
    have hk:ah<(k:Int):=hah k (by rw[hdr];exact Qq);refine⟨_,[.sh (aS w),.sh (eJ ks),.sh (.int (k:Int)),.sh (.int (k:Int))],rfl,?_,_,_,rfl,λv hv=>?_⟩
    .have hn:=xG (T.lt k hkm)
     have hix:=nu h1;rw[show aS w=.tup [.lst (w.ps.map D.str),.lst (w.ts.map bI),.str w.fi,.str w.la] from rfl]at hn ⊢;rw[show bI t=.tup [.str t.a,.str t.b,.str t.w,fr t.l,gz t.o] from rfl,h2]at hix;open_line with[hn,decide_eq_false (show ¬(k:Int)<=ah by omega),hix,gz,fr,M0]
    .have hp:(k::ks.drop (j+1)).Pairwise (· < ·):=by rw[←hdr];exact T.up.sublist (List.drop_sublist _ _)
     have:=(List.pairwise_cons.mp hp).1 v hv;omega) ⟨-1,.no,rfl,λv _=>by omega⟩
 have hw:=yP W;unfold eJ at hl ⊢;open_line with[m_look_at_taking,iU,hw,hl]
def xQ(h1:x.1.natAbs<Af)(h2:x.2.natAbs<Af)(h3:y.1.natAbs<Af)(h4:y.2.natAbs<Af):m_is_less [fr x,fr y]=.ok (.bl (flt x y)):=by
 rw[show fr x=.tup [.int x.1,.int x.2] from rfl,show fr y=.tup [.int y.1,.int y.2] from rfl];open_line with[m_is_less,vg,bZ (c6 h1 h4),bZ (c6 h3 h2)]
 rfl
def Hv:aO (.lst (xs++[x])) (.int (-1))=.ok x:=by
 have e:atI (xs++[x]) (-1)=some x:=by
  unfold atI uK;rw[if_neg (by decide)];have h:(-((xs++[x]).length:Int))<=-1:=by simp;omega
  rw[if_pos h];have e:(-1+((xs++[x]).length:Int)).toNat=xs.length:=by simp;omega
  rw[e];simp
 show(match atI (xs++[x]) (-1) with|some d=>ak.ok d|none=>.stuck)=_;rw[e]
def wR(h1:c (ey ρ)=.ok (.bl true))(h2:s ρ=.ok (.nx ρ2)):cC c s (n+1) ρ=cC c s n ρ2:=by
 conv=>lhs;unfold cC
 rw[h1,h2];rfl
def uu(h1:c (ey ρ)=.ok (.bl false)):cC c s (n+1) ρ=.ok (.nx ρ):=by
 conv=>lhs;unfold cC
 rw[h1];rfl
end Com
namespace DL
open PySem PySem.Spec PyProof.Rows L2
noncomputable def Mn(K:P4) (E:XK) (He η Ha:Hp) (r:ak Fl) (D:j9):Prop:=match r with
 |.ok (.rt (.lst es))=>∀p us H Ha',bw He η H Ha'->He p=none->Ha' p=none->H p=some (.lst us)->Reps K Ha' es us->D.rt (.ref p) H
 |.exn x=>∀C ox H Ha',bw He η H Ha'->yL K Ha' x C ox->E C ox H
 |_=>False
noncomputable def Pq(K:P4) (E:XK) (He η:Hp) (g:Ev->ak Fl):TS:=λD σ H=>∃Ha ρ,eX K He η Ha σ H ρ/\Mn K E He η Ha (g ρ) D
structure FV (X:Cx) (E:XK) (He η:Hp) (st:List RH) (g:Ev->ak Fl):Prop where
 o:vn X st (Pq X.K E He η g)
section
variable {X:Cx}{E:XK}{He η:Hp}{st:RH}{rest:List RH}{e:QX}{es:List QX}{f:Ev->ak D}{fa:Ev->ak (ac)}{s t:Ev->ak Fl}{pos:Pos}
noncomputable def Ds(t:Ev->ak Fl) (r:Fl):ak Fl:=match r with
 |.nx ρ=>t ρ
 |_=>.stuck
noncomputable def oj(s t:Ev->ak Fl):Ev->ak Fl:=λρ=>(s ρ).bind (Ds t)
def nP(h1:DS X E He η st s)(h2:FV X E He η rest t):FV X E He η (st::rest) (oj s t):=by
 refine⟨?_⟩;refine eH (gG h1.o h2.o) λD σ H z9=>?_;obtain⟨Ha,ρ,h,q⟩:=z9;refine⟨Ha,ρ,h,?_⟩
 unfold oj at q;cases e1:s ρ with
 |stuck|exn x=>rw[e1]at q;exact q
 |ok r=>
  rw[e1]at q;cases r with|nx ρ'=>exact λσ' H' Ha' s' h'=>⟨Ha',ρ',h',q⟩|rt d|bk ρ'|ct ρ'=>exact q.elim
end
noncomputable def D6(r:Fl):ak D:=match r with
 |.rt (.lst es)=>.ok (.lst es)
 |_=>.stuck
noncomputable def o9(n:Nat) (s:Ev->ak Fl) (ds:ac):ak D:=(s (ds.map Sl.sh++QG (n-ds.length) .no)).bind D6
def Dw(h:o9 n s ds=.ok d):∃es,d=.lst es:=by
 unfold o9 at h;cases e:s (ds.map Sl.sh++QG (n-ds.length) .no) with
 |stuck|exn x=>rw[e]at h;cases h
 |ok r=>
  rw[e]at h;cases r with
  |rt d'=>
   cases d' with|lst es=>cases h;exact⟨es,rfl⟩| _=>cases h
  |_=>cases h
noncomputable def Mm(K:P4) (E:XK) (H Ha:Hp) (r:ak D) (Q:VK):Prop:=match r with
 |.ok (.lst es)=>∀p us H' Ha',bw H Ha H' Ha'->H p=none->Ha' p=none->H' p=some (.lst us)->Reps K Ha' es us->Q (.ref p) H'
 |.exn x=>∀C ox H' Ha',bw H Ha H' Ha'->yL K Ha' x C ox->E C ox H'
 |_=>False
noncomputable def Iw(K:P4) (n:Nat) (m:ac->ak D):Sp:=λvs H Q E=>vs.length=n/\∃Ha ds,aG Ha H/\Reps K Ha ds vs/\Mm K E H Ha (m ds) Q
def GH{K:P4}(hm:∀ds d,m ds=.ok d->∃es,d=.lst es):∀vs H Q E,spD K n m vs H Q E->Iw K n m vs H Q E:=λvs H Q E ⟨h1,Ha,ds,h2,h3,q⟩=>⟨h1,Ha,ds,h2,h3,by
 cases e:m ds with
 |stuck|exn x=>rw[e]at q;exact q
 |ok d=>
  obtain⟨es,rfl⟩:=hm ds d e;rw[e]at q;intro p us H' Ha' g hp h0 hv r;have z:aG Ha' (upd Ha' p (.lst us)):=λb o eb=>by rw[az (by intro z;subst z;rw[h0]at eb;cases eb)];exact eb
  refine q (.ref p) H' (upd Ha' p (.lst us)) ⟨g.s,g.z.trans z,λb o eb=>?_,λb h1 h2=>?_⟩ (aI.mpr ⟨p,us,rfl,fk.of aF,r.mono z⟩)
  .by_cases hb:b=p
   .subst hb;rw[aF]at eb;cases eb;exact hv
   .rw[az hb]at eb;exact g.sub _ _ eb
  .by_cases hb:b=p
   .subst hb;exact hp
   .rw[az hb]at h1;exact g.nw b h1 h2⟩
def zH{K:P4}{st:RH}{N ps:al}(F:CZ K x qual st f fd)(S:eY N ps (defScope st))
  (hbody:∀(cdv:P2) (A:Q0) (outer:List Rv) (s0:Qj) (H Ha:Hp) (E:XK),cK k (A.deeper (envOfC qual (defScope st) s0.heap.objs.size f cdv)) ->
   FV (eZ CX0 P w K mg base N qual (defScope st) f cdv A outer s0 H E).nox E H Ha (defBody st) s):FnOk P w K mg base CX0 (k+1) f fd ps (Iw K ps.length (o9 N.length s)):=by
 have hpl:ps.length<=N.length:=by have:=congrArg Tv S.pre;rw[Rc]at this;omega
 refine F.ok S (λvs H Q E h=>h.1) λcdv A outer s0 H vs Q E hr h=>?_;obtain⟨hn,Ha,ds,hs,hv,q⟩:=h;refine⟨_,(hbody cdv A outer s0 H Ha E hr).o,Ha,ds.map Sl.sh++QG (N.length-ds.length) .no,?_,?_⟩
 .refine⟨bw.refl hs,jC hv,λi d e=>?_,λi j d d' hij e=>?_,?_,OX.none nz kP⟩
  .by_cases hi:i<ds.length
   .rw[Qo (by simpa using hi),Qg]at e
    cases q:ds[i]? with|none|some d'=>rw[q]at e;cases e
   .rw[Qw (by simpa using hi),QD]at e
    split at e<;>cases e
  .by_cases hi:i<ds.length
   .rw[Qo (by simpa using hi),Qg]at e
    cases q:ds[i]? with|none|some d'=>rw[q]at e;cases e
   .rw[Qw (by simpa using hi),QD]at e
    split at e<;>cases e
  .unfold L2.start
   have:=hv.length;simp only[Qz,P7,Q7];omega
 .unfold o9 at q
  cases e1:s (ds.map Sl.sh++QG (N.length-ds.length) .no) with
  |stuck|exn x=>rw[e1]at q;exact q
  |ok r=>
   rw[e1]at q;cases r with
   |rt d=>
    cases d with|lst es=>exact λp us H' Ha' g hp h0 hv' rr=>q p us H' Ha' g hp h0 hv' rr| _=>exact q.elim
   |_=>exact q.elim
section
variable {X:Cx}{E:XK}{He η:Hp}{e:QX}{es:List QX}{f:Ev->ak D}{fa:Ev->ak (ac)}{pos:Pos}
def HR{ps:al}(F:FnOk X.prog X.w X.K X.mg X.base CX k fn fd ps (Iw X.K n m))(hr:cK k X.A)(hg:Gl X x)(hm:X.mg x=some (.ref fn))
  (hk:SN X.K (.ref fn)=true)(hb:il X.K fd ps [])(hx:fX CX X E)(ha:DA X E (e::es) fa)(hn:(e::es).length=n:=by rfl)(hl:∀ρ ds,fa ρ=.ok ds->ds.length=(e::es).length)
  (hdb:(x==("__debug__" : Qu))=false:=by decide)(he:Qb (e::es) X.env=(false,eval e X.env)::Qb es X.env:=by exact aW rfl)(hpl:(Rg pos (Qb es X.env)).any (·.1)=false:=by exact bH rfl) :
  DF X E (.Call (.Name x p) (e::es) [] pos) (aq fa m):=by
 refine⟨?_⟩;refine bg (pI F hr hg hm hk hb .nil hx ha.o hdb he hpl) λσ H Q h=>?_;obtain⟨Ha,ρ,hs,hr,q⟩:=h;refine⟨Ha,ρ,hs,hr,?_⟩;unfold aq at q;cases e1:fa ρ with
 |stuck|exn x=>rw[e1]at q;exact q
 |ok ds=>
  rw[e1]at q;intro v H1 H01 g1 r1;refine⟨?_,H01,ds,g1.sub,by simpa using r1,?_⟩
  .have:=r1.length
   have:=hl ρ ds e1;simp only[QN];omega
  .replace q:match m ds with
    |.ok (.lst ds)=>∀p vs H' Ha',bw H Ha H' Ha'->H p=none->Ha' p=none->H' p=some (.lst vs)->Reps X.K Ha' ds vs->Q (.ref p) H'
    |.ok _=>False
    |.exn x=>∀C ox H' Ha',bw H Ha H' Ha'->yL X.K Ha' x C ox->E C ox H'
    |.stuck=>False:=q
   cases e2:m ds with
   |stuck=>rw[e2]at q;exact q|exn x=>rw[e2]at q;exact λC ox H' Ha' g ex=>q C ox H' Ha' (g1.trans g) ex
   |ok d=>
    rw[e2]at q;cases d with|lst es=>exact λp us H' Ha' g hp h0 hv rr=>q p us H' Ha' (g1.trans g) (g1.s.free hp) h0 hv rr| _=>exact q.elim
end
section
variable {X:Cx}{E:XK}{He η:Hp}{e a b:QX}{es:List QX}{f g:Ev->ak D}{fa:Ev->ak (ac)}{pos:Pos}
noncomputable def CG(x y:D):ak D:=match x,y with
 |.int i,.int j=>.ok (.int (if j<i then j else i))
 |_,_=>.stuck
def FD:gY X E (λxs H Q=>∃i j,xs=[.int i,.int j]/\Q (.int (if j<i then j else i)) H) (m2 CG):=Jg λx y v u H Ha Q hs r r' q=>by
 cases x with
 |int i=>
  cases y with|int j=>exact⟨i,j,by rw[aB.mp r,aB.mp r'],bK hs q (ri _)⟩| _=>exact q.elim
 |_=>exact q.elim
end
end DL
namespace Cod
open PySem L2 DL Com
def Ld:CH (.int c)=.ok (.int (c.natAbs:Int)):=by
 show ak.ok (D.int (if c<0 then -c else c))=_
 congr 2
 split<;>omega
noncomputable def tO:Ev->ak Fl :=
 (aA (bJ 2 (aq (af (ae 0) aC) (m1 CH)))
 (aA (bJ 3 (ae 1))
 (aA (i8 (kf 3) (ag (ae 3) (dC (.int 0)) gS)
 (aA (uc 2 3 (af (ae 3) (af (ag (ae 2) (ae 3) dz) aC)))
 aw))
 (aA (b5 (aq (af (ag (ae 0) (ae 2) sU) (af (ag (ae 1) (ae 2) sU) aC)) gj))
 aw))))
noncomputable def bx:ac->ak D:=b7 4 tO
theorem xK{A B:Sl}:∀(n:Nat) (a b:Int),0<=a->0<=b->b.natAbs<n->cC (ag (ae 3) (dC (.int 0)) gS) (aA (uc 2 3 (af (ae 3) (af (ag (ae 2) (ae 3) dz) aC))) aw) n [A,B,.sh (.int a),.sh (.int b)]=.ok (.nx [A,B,.sh (.int (QY a b:Int)),.sh (.int 0)])
 |0,a,b,_,_,h=>absurd h (UC _)
 |n+1,a,b,ha,hb,h=>by
  by_cases h0:b=0
  .subst h0
   have hc:(ag (ae 3) (dC (.int 0)) gS) (ey [A,B,.sh (.int a),.sh (.int 0)])=.ok (.bl false):=by
    cases A<;>cases B<;>rfl
   rw[uu hc];have:((QY a 0:Nat):Int)=a:=by rw[Int.gcd_zero_right];omega
   rw[this]
  .have hc:(ag (ae 3) (dC (.int 0)) gS) (ey [A,B,.sh (.int a),.sh (.int b)])=.ok (.bl true):=by
    have:(b==0)=false:=beq_eq_false_iff_ne.mpr h0;cases A<;>cases B<;>open_line with[this]
   have f:=fg (a:=a) (b:=b) (by omega);have hb0:(b==0)=false:=beq_eq_false_iff_ne.mpr h0;rw[wR (ρ2:=[A,B,.sh (.int b),.sh (.int (a.fmod b))]) hc ?_,xK n b (a.fmod b) (by omega) f.1 (by omega)]
   .rw[rk]
   .cases A<;>cases B<;>open_line with[hb0]
def low_ok{a b:Int}(hb:0<b)(h1:a.natAbs<wI)(h2:b.natAbs<wI):bx [.int a,.int b]=.ok (fr (oA a b)):=by
 have hg:0<(QY a b:Int):=pO (by omega);have hgn:(QY (a.natAbs:Int) b:Int)=(QY a b:Int):=by
  congr 1
 have hl:=xK (A:=.sh (.int a)) (B:=.sh (.int b)) (b.natAbs+1) (a.natAbs:Int) b (by omega) (by omega) (Sq _);rw[hgn]at hl;have hwh:∀(c:Ev->ak D) (s:Ev->ak Fl),i8 (kf 3) c s [.sh (.int a),.sh (.int b),.sh (.int (a.natAbs:Int)),.sh (.int b)]=cC c s (b.natAbs+1) [.sh (.int a),.sh (.int b),.sh (.int (a.natAbs:Int)),.sh (.int b)]:=λ_ _=>rfl;have d1:(QY a b:Int)∣a:=Uv ..;have d2:(QY a b:Int)∣b:=Int.gcd_dvd_right ..;have q1:fY a (QY a b:Int)=true:=wq (by omega) h1;have q2:fY b (QY a b:Int)=true:=wq (by omega) h2;have e1:a.fdiv (QY a b:Int)=a / (QY a b:Int):=lQ hg;have e2:b.fdiv (QY a b:Int)=b / (QY a b:Int):=lQ hg;open_line with[bx,tO,Ld,hwh,hl,wb q1,wb q2,e1,e2]
 rfl
noncomputable def S(cs:am):Qu:=⟨cs.toArray⟩
def S_inj{a b:am}(h:S a=S b):a=b:=by
 have:=congrArg (λs:Qu=>s.cps.toList) h;simpa[S] using this
def Nr(a:am):(S a).length=a.length:=K2 a
structure IsNm (cs:am):Prop where
 l1:1<=cs.length
 l8:cs.length<=8
 ab:∀x∈cs,oK x=true
def IsNm.nameB(h:IsNm cs):Com.nameB (S cs)=true:=by
 unfold Com.nameB;rw[Nr];simp only[QK,decide_eq_true_eq];exact⟨h.l1,h.l8,QF.mpr λx hx=>h.ab x (by simpa[S] using hx)⟩
noncomputable def nmsD(css:List (am)):ac:=css.map λcs=>D.str (S cs)
noncomputable def srcR1K(d:D):ak (ac):=match d with
 |.int j=>if -4611686018427387904<=j/\j<4611686018427387904 then .ok (intsFrom 0 j.toNat) else .stuck
 |_=>.stuck
def ev_srcR1:kD f ρ=(f ρ).bind srcR1K:=aJ rfl
def srcR1_nat{k:Nat}(h:k<=1000000):srcR1K (.int (k:Int))=.ok (intsFrom 0 k):=by
 unfold srcR1K;dsimp only;rw[if_pos ⟨by omega,by omega⟩,Tw]
noncomputable def first(es:List Int) (m:Nat):am:=(QL m).map λj=>97+((es[2+j]?).getD 0).toNat
end Cod
namespace DL
open PySem PySem.Spec PyProof.Rows L2
section
variable {prog:Ra}{w:Rr}{A:Q0}{E:P2->Qj->Prop}{h:Qr}{g:Array GenState}{d:Drawn}{t:Nat}{os:OsState}
variable {nm q:Qu}{C N:P9}{bs bm bmB:List P2}{hdct:Bool}{sn:al}{sub:List P2}{ab:Bool}{col:Option Bool}{dd:Option P9}{k0 k1 k2 k3 k5:Option P2}{B newId initId:String}{mN:Qu->Option P2}{rest:List P2}{fI:P9}{oI:Obj}
def F9(F:ExcBaseFacts B newId initId bmB)(T:OwnTail h bmB bm)(hC:h.get? C=some (excClassObj nm q C N bs bm hdct sn sub ab col dd k0 k1 k2 k3 k5 newId))(hn:h.Ns N mN)(hi:mN "__init__"=some (.ref fI))(hfI:h.get? fI=some oI)(hfc:oI.cls=.type "function")(hrest:rest.length<=sizeLine)
  (hq:∀h' e,UO h h' e (.ref C) rest->QC (QB prog w) A (call (.ref fI) (.ref e::rest)) (λr s'=>r=.none/\Q (.done (.ret (.ref e))) s') E ⟨h',g,d,t,os⟩):QC (QB prog w) A (Builtin.«type.__call__» ⟨.ref C::rest,[]⟩) Q E ⟨h,g,d,t,os⟩:=by
 repeat (first|with_reducible refine RM hC ?_|with_reducible refine wpAny_madeBy_exc hC ?_|wp_step)
 refine codeAny_call_builtin_code (Ud _ F.quiet) (wpAny_check_new_subT F T hC (codeAny_exc_new_subT F T hC ?_ hrest));generalize hT0:({ cls:=.type "tuple",data:=.seq rest.toArray }:Obj)=o0;generalize hX0:({ cls:=.ref C,data:=.fields #[.ref h.objs.size,.none,.none,.none,.bool false,.none] }:Obj)=o1;have kp:∀b o,h.get? b=some o->((h.push o0).push o1).get? b=some o:=λb o hb=>Qe o1 (Qe o0 hb);have hget:((h.push o0).push o1).get? (h.objs.size+1)=some o1:=by subst hX0 hT0;heap_get
 have hc1:o1.cls=.ref C:=by subst hX0;rfl
 have hcC:(Q6 C::bm).contains (.ref C)=true:=by simp
 show QC _ _ _ _ _ _;unfold isInstance
 repeat (first|(with_reducible refine RM hget ?_;try rw[hc1])|(with_reducible refine wpAny_isSubtype_exc (kp _ _ hC) ?_;rw[hcC])|wp_step)
 show QC _ _ (TM (.ref C) _) _ _ _;refine wpAny_typeLookup_tail (kp _ _ hC) (hn.keeps kp) (T.keeps kp) F.mroIs F.init.lookup ?_;rw[hi];refine Ry (P8 (show QC _ _ (bindSpecial _ _) _ _ _ from ?_));unfold bindSpecial;refine P8 (wpAny_typeOf (T:="function") ⟨_,kp _ _ hfI,hfc⟩ ?_);rw[if_pos (by decide)];refine QH (P8 (Ri (hq _ (h.objs.size+1) ⟨kp,Ti (Nat.le_succ _),h.objs.size,by rw[hX0];exact hget,Ti (Ql _),?_⟩) (λr s' hr=>?_) λ_ _ x=>x))
 .subst hT0;exact Qe _ (Heap.get?_push_at rfl rfl)
 .obtain⟨rfl,hQ⟩:=hr
  wp_walk
  exact hQ
def Gd(F:ExcBaseFacts B newId initId bmB)(T:OwnTail h bmB bm)(hC:h.get? C=some (excClassObj nm q C N bs bm hdct sn sub ab col dd k0 k1 k2 k3 k5 newId))(hn:h.Ns N mN)(hi:mN "__init__"=some (.ref fI))(hfI:h.get? fI=some oI)(hfc:oI.cls=.type "function")(hrest:rest.length<=sizeLine)
  (hq:∀h' e,UO h h' e (.ref C) rest->QC (QB prog w) (A.under (.builtin "type.__call__" ⟨.ref C::rest,[]⟩)) (call (.ref fI) (.ref e::rest)) (λr s'=>r=.none/\Q (.ref e) s') E ⟨h',g,d,t,os⟩):QC (QB prog w) A (call (.ref C) rest) Q E ⟨h,g,d,t,os⟩:=by
 have f1:=tc_lookup;have f2:=tc_bind (.ref C);have hT:(⟨h,g,d,t,os⟩:Qj).TypeIs (.ref C) "type":=⟨_,hC,rfl⟩
 refine wpAny_call (codeAny_of_tree (show QC _ _ (callAny (.ref C) _) _ _ _ from ?_))
 repeat (any_goals (first|assumption|with_reducible refine RM hC ?_|wp_step))
 exact⟨rfl,codeAny_call_builtin_at (Ud _ (by decide +kernel)) entry_typeCall (wpAny_check_type_call_sub hC (F9 F T hC hn hi hfI hfc hrest λh' e hm=>hq h' e hm))⟩
end
section
variable {M:Model}{A:Q0}{E:P2->Qj->Prop}{env:Rv}
variable {nm q:Qu}{C N:P9}{bs bm:List P2}{hdct:Bool}{sn:al}{sub:List P2}{ab:Bool}{col:Option Bool}{dd:Option P9}{k0 k1 k2 k3 k5:Option P2}{newId:String}
def C5(hbase:bm.contains (.type "BaseException")=true)(hh:A.handled=none)
  (h:QC M A x (λv sg=>∃e dc t,v=.ref e/\sg.heap.get? C=some (excClassObj nm q C N bs bm hdct sn sub ab col dd k0 k1 k2 k3 k5 newId)/\sg.heap.get? e=some ⟨.ref C,dc,.fields #[.ref t,.none,.none,.none,.bool false,.none],#[]⟩/\E (.ref e) sg) E s):QC M A (raiseStmt env (some x) none) Q E s:=by
 have hcB:(Q6 C::bm).contains (.type "BaseException")=true:=by rw[List.contains_cons,hbase,Bool.or_true]
 unfold raiseStmt;refine P8 (Ri h (λv sg ⟨e,dc,t,hv,hC,he,hE⟩=>?_) λ_ _ x=>x);subst hv;obtain⟨hp,g,d,tk,os⟩:=sg
 repeat (first|with_reducible refine RM he ?_|with_reducible refine RM hC ?_|(with_reducible refine wpAny_isSubtype_exc hC ?_;rw[hcB])|wp_step)
 exact wpAny_raiseNew_none hh hE
end
noncomputable def jz:List P2->Bool
 |.ref _::r=>jz r
 |l=>l==[.type "ValueError",.type "Exception",.type "BaseException",.type "object"]
theorem uz(self:P2):∀{l:List P2},jz l=true->refuseLoop self "__setattr__" l=pure ()
 |[],e=>by cases e
 |x::r,e=>by
  cases x with|ref c=>rw[refuseLoop_ref];exact uz self (l:=r) (by unfold jz at e;exact e)| _=>unfold jz at e;rw[beq_iff_eq.mp e];exact PySem.F.store_ValueError.passes self
theorem De:∀{l:List P2},jz l=true->l.contains (.type "object")=true
 |[],e=>by cases e
 |x::r,e=>by
  cases x with|ref c=>rw[List.contains_cons,De (l:=r) (by unfold jz at e;exact e),Bool.or_true]| _=>unfold jz at e;rw[beq_iff_eq.mp e];decide
structure Ij (K:P4) (C:P9) (ks:al):Prop where
 sa:SA K (.ref C) "__setattr__"=some (some (.builtin "object.__setattr__"))
 hd:Uy K C=true
 mr:(W.clsIn K C).any (λcd=>jz cd.mro)=true
 no:∀f∈ks,n9 K C f
section
variable {prog:Ra}{w:Rr}{A:Q0}{K:P4}{C x:P9}{s:Qj}{R:Result->Qj->Prop}
def Gb(X:K.In s.heap)(I:W.InstAt s.heap x ox C od)(c:Ij K C ks)(hf:name∈ks)
  (h:∀b,QC (QB prog w) A.in1 (Builtin.ObjectAttr.storeInOwnDict (.ref x) (.ref C) (.str name tk) name v b) (λfin s'=>match fin with|.done f=>R (.ok f) s'|.again c'=>c'.quiet=true/\So (QB prog w) A c' R s') (λe s'=>R (.error e) s') s) :
  So (QB prog w) A (.call (.builtin "object.__setattr__") ⟨[.ref x,.str name tk,v],[]⟩) R s:=by
 have SF:=PySem.F.store_object;obtain⟨cd,hc,ho⟩:=W.any_some c.mr;have ne:cd.mro.isEmpty=false:=by cases q:cd.mro with|nil=>rw[q]at ho;cases ho|cons _ _=>rfl
 have sub:Ug (QB prog w) s.heap (isInstance (.ref x) (.type "object")) true:=I.type.andThen (W.looks_mroIn X (by unfold W.mroIn;rw[hc,Option.bind_some,if_neg (by rw[ne];decide),De ho]));refine codeAny_call_builtin SF.slot.plain SF.entry (@W.check_slot (QB prog w) _ _ s "object.__setattr__" "object" "__setattr__" (.ref x) [.str name tk,v] [] _ SF.kind SF.split sub (SF.args (.ref x) (.str name tk) v) ?_);have hm:Ug (QB prog w) s.heap (mroOf (.ref C)) cd.mro:=(W.looks_clsIn X hc).andThen .now;rw[W.osa_eq,refuse_eq];refine P8 (P8 (I.type.here (P8 (hm.here ?_))));rw[uz _ ho];refine QH ?_;have L3:Ug (QB prog w) s.heap (Builtin.ObjectAttr.storeTaker? none) none:=.now;have L2:Ug (QB prog w) s.heap (TM (.ref C) name) none:=W.looks_findIn X (c.no name hf);refine P8 (I.type.here (P8 (L2.here (P8 (L3.here ?_)))));exact h _
def Ga{fs:Array P2}(X:K.In s.heap)(hx:s.heap.get? x=some ⟨.ref C,none,.fields fs,#[]⟩)(c:Ij K C ks)(hf:name∈ks)
  (h:∀h',h'.get? x=some ⟨.ref C,some s.heap.objs.size,.fields fs,#[]⟩->h'.Ns1 s.heap.objs.size (λy=>if y=name then some v else none)->(∀b o,b≠x->s.heap.get? b=some o->h'.get? b=some o)->Q () { s with heap:=h',toks:=s.toks+2 }) :
  QC (QB prog w) A (setAttr (.ref x) name v) Q E s:=by
 have J:W.InstAt s.heap x ⟨.ref C,none,.fields fs,#[]⟩ C none:=⟨hx,rfl,rfl,trivial⟩
 refine W.set_plain X J c.sa (Gb (s:={ s with toks:=s.toks+1 }) X J c hf λb=>?_);obtain⟨cd,hc,hd'⟩:=W.any_some c.hd;refine P8 (QH (P8 (P8 (wpAny_loadPart hx (P8 (Ug.here (s:={ s with toks:=s.toks+1 }) (W.looks_clsIn X hc) ?_))))));rw[hd'];have hx₁:(s.heap.push TY).get? x=some ⟨.ref C,none,.fields fs,#[]⟩:=Qe _ hx;have hxs:x≠s.heap.objs.size:=QW (Qv hx);have hgd:((s.heap.push TY).update x λo=>{ o with dict:=some s.heap.objs.size }).get? s.heap.objs.size=some TY:=(VE _ _ _ _ hxs.symm).trans (Heap.get?_push_at rfl rfl);have hnd:((s.heap.push TY).update x λo=>{ o with dict:=some s.heap.objs.size }).Ns s.heap.objs.size (λ_=>none):=⟨_,#[],_,hgd,rfl,λe he=>absurd he (by simp),λ_=>rfl⟩
 have hx2:((s.heap.push TY).update x λo=>{ o with dict:=some s.heap.objs.size }).get? x=some ⟨.ref C,some s.heap.objs.size,.fields fs,#[]⟩:=RI _ hx₁ rfl;refine P8 (wpAny_alloc' (P8 (wpAny_update' hx₁ (QH ?_))));refine P8 (QH (P8 (wpAny_nsSet1 (Heap.Ns1.of_empty hnd) λh' hn' hs=>?_)));obtain⟨oD,esD,epD,hoD,hdD,hcD⟩:=hn'.count (Tj.cons name v Tj.nil);refine P8 (wpAny_lookBehind hoD (by rw[hdD];exact pastItsLine_dict (QM hcD (by rw[QE,Sg,sizeLine_eq];omega))) (QH (h h' ?_ hn' λb o hb e=>?_)))
 .exact(hs.2 x hxs).trans hx2
 .exact(hs.2 b (QW (Qv e))).trans ((VE _ _ _ _ hb).trans (Qe _ e))
end
noncomputable def t8(a C:P9) (dc:Option P9) (h:Qr):Prop:=∃t,h.get? a=some ⟨.ref C,dc,.fields #[.ref t,.none,.none,.none,.bool false,.none],#[]⟩
noncomputable def CS(a:P9) (fs:List (Qu×V)) (h:Qr):Prop:=∃mA,h.Ns1 a mA/\(∀f,FN (fs.lookup f) (mA f))/\Tj mA (fs.map (·.1))
def rl{a C:P9}{dc:Option P9}:∀h1 h2:Qr,t8 a C dc h1->(∀o,h1.get? a=some o->h2.get? a=some o)->t8 a C dc h2:=λ_ _ ⟨t,e⟩ k=>⟨t,k _ e⟩
def C7{a:P9}{fs:List (Qu×V)}:∀h1 h2:Qr,CS a fs h1->(∀o,h1.get? a=some o->h2.get? a=some o)->CS a fs h2:=λ_ _ ⟨m,n,r⟩ k=>⟨m,n.at k,r⟩
def BX{fs:List (Qu×V)}{h:Qr}(x:CS a fs h):∃o,h.get? a=some o:=let ⟨_,⟨o,_,_,e,_⟩,_⟩:=x;⟨o,e⟩
def Ge{fs:List (Qu×V)}{h:Qr}{mA:Qu->Option P2}(ry:bX y u)(r:∀f,FN (fs.lookup f) (mA f))(wi:Tj mA (fs.map (·.1)))(n:h.Ns1 a (λz=>if z=f then some u else mA z)):CS a (nF f y fs) h:=by
 refine⟨_,n,λg=>?_,λg hg=>?_⟩
 .rw[oB]
  by_cases q:g=f
  .rw[if_pos q];simp only[if_pos q];exact ry
  .rw[if_neg q];simp only[if_neg q];exact r g
 .by_cases q:g=f
  .rw[q];exact(nM f y fs).1
  .exact(nM f y fs).2 g (wi g λz=>hg (by simp only[if_neg q];exact z))
section
variable {X:Cx}{o value:QX}{f:Qu}{pos pos':Pos}{ta tv:TE}
noncomputable def PB(K:P4) (ta tv:TE) (f:Qu):TS:=λD σ H=>tv σ H λy H1=>ta σ H1 λx H2=>∃a C ks,x=.ref a/\H2 a=some (.ext (t8 a C none))/\Ij K C ks/\f∈ks/\∀dx,H2 dx=none->D.nx σ (upd (upd H2 a (.ext (t8 a C (some dx)))) dx (.ext (CS dx [(f,y)])))
def Ml(ha:PE X o ta)(hv:PE X value tv)(hs:Rq value (some (.Attribute o f pos')) pos.line X.env=pure false):PS X (.Assign [.Attribute o f pos'] value pos) (PB X.K ta tv f):=by
 intro π s σ H D I h;refine plainObj_wpAny_Assign_Attribute (de (hv π s σ H _ I h) λu s1 ⟨y,H1,I1,ry,q⟩=>de (ha π s1 σ H1 _ I1 q) λov s2 z9=>?_) hs;obtain⟨x,H2,I2,rx,a,C,ks,ex,ea,c,hf,q2⟩:=z9;subst ex;obtain rfl:ov=Q6 a:=rx;obtain⟨⟨t,hx⟩,_,_⟩:=(show cP X.prog X.w H2 s2.heap a (.ext _) from I2.hok a _ ea)
 have fr:H2 s2.heap.objs.size=none:=I2.hok.fresh (Ql _);have hne:s2.heap.objs.size≠a:=λz=>Si _ (z▸Qv hx);refine Ga I2.kIn hx c hf λh' e' n' k'=>⟨σ,_,?_,q2 s2.heap.objs.size fr⟩
 have p:CS s2.heap.objs.size [(f,y)] h':=Ge (fs:=[]) (mA:=λ_=>none) ry (λ_=>SY) (λ_ z=>absurd rfl z) n';have mu:LI (H2 a):=by rw[ea];exact SY
 have fr':(upd H2 a (.ext (t8 a C (some s2.heap.objs.size)))) s2.heap.objs.size=none:=by rw[az hne];exact fr
 exact I2.un (Un.ext (Un.write mu (.inl rfl) (λb q hb z=>k' b q hb z) ⟨_,e'⟩) fr' (Ti (Ql _))) (g6.ext (I2.hok.write (o':=.ext (t8 a C (some s2.heap.objs.size))) mu (.inl rfl) (λb q hb z=>k' b q hb z) ⟨_,e'⟩ ⟨⟨t,e'⟩,⟨_,e'⟩,rl⟩) fr' p (BX p) C7)
end
noncomputable def LQ(is:am):TA:=λσ H Q=>∃vs,is.map (λi=>σ[i]?)=vs.map (λv=>some (some v))/\Q vs H
structure PV (X:Cx) (es:List QX) (is:am):Prop where
 o:PA X es (LQ is)
section
variable {X:Cx}
def JT:PV X [] []:=⟨λpos π s σ H Q I ⟨vs,e,h⟩=>by
 cases vs with
 |nil=>exact gH pos π s σ H Q I h
 |cons v vs=>simp at e⟩
def AD(hN:X.N[i]?=some y)(hv:yK X.env.scope y)(h:PV X es is)(hd:(y==("__debug__" : Qu))=false:=by decide)(hcd:(y==("__classdict__" : Qu))=false:=by decide):PV X (.Name y p::es) (i::is) :=
 ⟨λpos π s σ H Q I ⟨vs,e,q⟩=>by
  cases vs with
  |nil=>simp at e
  |cons v vs=>
   simp only[Qf,List.cons.injEq]at e;exact dQ (fS hN hv hd hcd) h.o (aW rfl) pos π s σ H Q I ⟨v,e.1,vs,e.2,q⟩⟩
structure FL (K:P4) (CE:P9):Prop where
 rd:W.readsIn K CE (.type "type")=true
 fc:W.findCls K (.ref CE) (.type "type") "__init__"=some (.val (.builtin "ValueError.__init__"))
 sp:Uw K (.ref CE) "__getattribute__"=some (some (.builtin "type.__getattribute__"))
structure Ji (K:P4) (C fn:P9):Prop where
 ex:∃CE nm q N bs hdct sn sub ab col dd k0 k1 k2 k3 k5,K.lookup C=some (excClassObj nm q C N bs [.ref CE,.type "ValueError",.type "Exception",.type "BaseException",.type "object"] hdct sn sub ab col dd k0 k1 k2 k3 k5 "ValueError.__new__")/\W.nsOkIn K N=true/\Rj K N "__init__"=some (some (.ref fn)) /\
  Vb K CE [.type "ValueError",.type "Exception",.type "BaseException",.type "object"] "ValueError.__new__"=true
def G9{K:P4}{h:Qr}(X:K.In h)(G:h.Ns N mg)(e:Rj K N n=some (some v)):mg n=some v:=by
 obtain⟨o,es,ep,ho,hd,_,hf⟩:=G;unfold Rj at e;split at e
 .rename_i c d es' n' sl q
  have:=X _ _ q;rw[ho]at this;cases this;cases hd;split at e
  .rename_i en he
   rw[←hf];unfold nsFind findBy;rw[←Array.find?_toList,he];simpa using e
  .split at e<;>cases e
 .cases e
structure OG (h:Qr) (C fn:P9):Prop where
 ex:∃bm N nm q bs hdct sn sub ab col dd k0 k1 k2 k3 k5 mN,h.get? C=some (excClassObj nm q C N bs bm hdct sn sub ab col dd k0 k1 k2 k3 k5 "ValueError.__new__")/\h.Ns N mN/\mN "__init__"=some (.ref fn)/\OwnTail h [.type "ValueError",.type "Exception",.type "BaseException",.type "object"] bm
def Dk{K:P4}{CE:P9}{h:Qr}(X:K.In h)(q:Vb K CE [.type "ValueError",.type "Exception",.type "BaseException",.type "object"] "ValueError.__new__"=true):OwnTail h [.type "ValueError",.type "Exception",.type "BaseException",.type "object"] [.ref CE,.type "ValueError",.type "Exception",.type "BaseException",.type "object"]:=by
 unfold Vb at q;split at q
 .rename_i dd cd sl ho
  split at q
  .simp only[QK,beq_iff_eq,Bool.not_eq_true']at q
   obtain⟨⟨⟨⟨_,_⟩,_⟩,hok⟩,hni⟩:=q;exact .own (X _ _ ho) (.of_isNs (Va X hok)) (W.nsMap_none_of_in X hok hni) .base
  .cases q
 .cases q
def Ah{K:P4}{h:Qr}(X:K.In h)(q:Ji K C fn):OG h C fn:=by
 obtain⟨CE,nm,qn,N,bs,hdct,sn,sub,ab,col,dd,k0,k1,k2,k3,k5,ho,hok,hi,he⟩:=q.ex;exact⟨_,N,nm,qn,bs,hdct,sn,sub,ab,col,dd,k0,k1,k2,k3,k5,_,X _ _ ho,.of_isNs (Va X hok),G9 X (.of_isNs (Va X hok)) hi,Dk X he⟩
noncomputable def Pz(K:P4) (t:TA):TE:=λσ H Q=>t σ H λvs H1=>∃a C rest fn,vs=.ref a::rest/\rest.length<=line/\H1 a=some (.ext (t8 a C none))/\Ji K C fn/\Q .non (upd H1 a (.ext (t8 a C none)))
def Mq{CE:P9}{pl:Sem Bool}(b:FL X.K CE)(hg:Gl X ce)(hm:X.mg ce=some (.ref CE))(ha:PA X (e::es) t)(hdb:(ce==("__debug__" : Qu))=false:=by decide)
  (he:Qb (e::es) X.env=(false,eval e X.env)::Qb es X.env:=by exact aW rfl)(hpl:(Rg cpos (Qb es X.env)).any (·.1)=false:=by exact bH rfl)
  (ht:eval (.Call (.Attribute (.Name ce np) "__init__" apos) (e::es) [] cpos) X.env=(do
   let ov ←eval (.Name ce np) X.env
   standAt apos.atName
   let (f,first) ←Sa [ov] (getMethod ov "__init__" pl)
   callWith cpos f first (Rg cpos (Qb (e::es) X.env)) (TJ cpos (Sj [] X.env))):=by rfl) :
  PE X (.Call (.Attribute (.Name ce np) "__init__" apos) (e::es) [] cpos) (Pz X.K t):=by
 intro π s σ H Q I h;refine W.methodCall_KW (pl:=pl) (kd I hg hm (W.method_cls I.kIn b.sp (W.cls_value I.kIn b.rd b.fc rfl ?_)) hdb) ht;have I0:=I.tok (s.toks+1);have hA:=ha cpos π _ σ H _ I0 h;rw[he]at hA ⊢;refine TR (by show(false||(Rg cpos (Qb es X.env)).any (·.1))=false;rw[hpl];rfl) (T3 (de hA λus s1 ⟨vs,H1,I1,r,a,C,rest,fn,ev,hl,ea,hx,q⟩=>?_));subst ev;obtain⟨_,us',rfl,ra,r'⟩:∃u us',us=u::us'/\bX (.ref a) u/\bA rest us':=by cases r with|cons r1 r2=>exact⟨_,_,rfl,r1,r2⟩
 obtain rfl:_=Q6 a:=ra;obtain⟨bm,N,nm,qn,bs,hdct,sn,sub,ab,col,dd,k0,k1,k2,k3,k5,mN,hC,hn,hi,T⟩:=(Ah I1.kIn hx).ex;obtain⟨⟨t0,hae⟩,_,_⟩:=(show cP X.prog X.w H1 s1.heap a (.ext _) from I1.hok a _ ea)
 have F:=Tp;have hz:us'.length<=sizeLine:=by rw[←r'.length];exact dB hl
 obtain⟨hp,g,d,tk,os⟩:=s1;refine wpAny_call (codeAny_call_builtin F.init.plain F.initEntry (wpAny_check_init_subT F T hC hae rfl ?_))
 wp_walk
 have mu:LI (H1 a):=by rw[ea];exact SY
 have hne:a≠hp.objs.size:=QW (Qv hae);refine⟨.non,upd H1 a (.ext (t8 a C none)),I1.write (o:=.ext (t8 a C none)) (x:=a) (e:=a) mu (.inl rfl) (λb u hb e=>(RF _ _ (Q2 hb)).trans (Qe _ e)) ⟨_,RI _ (Qe _ hae) rfl⟩ ⟨⟨hp.objs.size,?_⟩,⟨_,RI _ (Qe _ hae) rfl⟩,rl⟩,rfl,q⟩;rw[RI _ (Qe _ hae) rfl];rfl
end
section
variable {X:Cx}
noncomputable def Pn(K:P4) (fs:al) (is:am):TS:=λD σ H=>∃a C dx l ks vs,σ[0]?=some (some (V.ref a))/\H a=some (.ext (t8 a C (some dx)))/\H dx=some (.ext (CS dx l))/\dx≠a/\Ij K C ks/\(∀f∈fs,f∈ks)/\l.length+fs.length<1000/\fs.length=vs.length /\
 is.map (λi=>σ[i]?)=vs.map (λv=>some (some v))/\D.nx σ (upd H dx (.ext (CS dx (putAll fs vs l))))
structure XR (X:Cx) (sts:List RH) (fs:al) (is:am):Prop where
 o:vn X sts (Pn X.K fs is)
def Jp:XR X [] [] []:=⟨eH pG λD σ H ⟨a,C,dx,l,ks,vs,h1,h2,h3,h4,h5,h6,h7,h8,h9,q⟩=>by
 cases vs with
 |nil=>unfold putAll at q;rw[wU h3]at q;exact q
 |cons v vs=>simp at h8⟩
noncomputable def Po(K:P4) (ks:al) (is:am):TS:=λD σ H=>∃a C fn vs,σ[0]?=some (some (V.ref a))/\H a=some (.ext (t8 a C none))/\Ij K C ks/\Ji K C fn/\ks.length=vs.length/\ks.length<=60 /\
 is.map (λi=>σ[i]?)=vs.map (λv=>some (some v))/\∀dx,H dx=none->D.nx σ (upd (upd H a (.ext (t8 a C (some dx)))) dx (.ext (CS dx (putAll ks vs []))))
structure XB (X:Cx) (sts:List RH) (ks:al) (is:am):Prop where
 o:vn X sts (Po X.K ks is)
def LM{fs:al}{CE:P9}{pl:Sem Bool}(b:FL X.K CE)(hg:Gl X ce)(hm:X.mg ce=some (.ref CE))(hpv:PV X es (i::is))(hN:X.N[i]?=some y)(hN0:X.N[0]?=some x)(hv:yK X.env.scope y)(hv0:yK X.env.scope x)(h:XR X sts fs is)
  (hd:(y==("__debug__" : Qu))=false:=by decide)(hcd:(y==("__classdict__" : Qu))=false:=by decide)(hd0:(x==("__debug__" : Qu))=false:=by decide)(hcd0:(x==("__classdict__" : Qu))=false:=by decide)(hdb:(ce==("__debug__" : Qu))=false:=by decide)
  (hs:Rq (.Name y p3) (some (.Attribute (.Name x p1) f p2)) pos.line X.env=pure false:=by rfl)(hs0:Rq (.Call (.Attribute (.Name ce np) "__init__" apos) (.Name x sp0::es) [] cpos) none spos.line X.env=pure false:=by rfl)(hpl:(Rg cpos (Qb es X.env)).any (·.1)=false:=by exact bH rfl)
  (ht:eval (.Call (.Attribute (.Name ce np) "__init__" apos) (.Name x sp0::es) [] cpos) X.env=(do
   let ov ←eval (.Name ce np) X.env
   standAt apos.atName
   let (f,first) ←Sa [ov] (getMethod ov "__init__" pl)
   callWith cpos f first (Rg cpos (Qb (.Name x sp0::es) X.env)) (TJ cpos (Sj [] X.env))):=by rfl) :
  XB X (.Expr (.Call (.Attribute (.Name ce np) "__init__" apos) (.Name x sp0::es) [] cpos) spos::.Assign [.Attribute (.Name x p1) f p2] (.Name y p3) pos::sts) (f::fs) (i::is):=by
 refine⟨eH (gG (pH (Mq b hg hm (AD (p:=sp0) hN0 hv0 hpv hd0 hcd0).o hdb (aW rfl) hpl ht) hs0) (gG (Ml (fS hN0 hv0 hd0 hcd0) (fS hN hv hd hcd) hs) h.o)) λD σ H ⟨a,C,fn,vs,h1,h2,h3,h4,h5,h6,h7,q⟩=>?_⟩;refine⟨.ref a::vs,(show σ[0]?::(i::is).map (λi=>σ[i]?)=some (some (V.ref a))::vs.map (λv=>some (some v)) by rw[h1,h7]),a,C,vs,fn,rfl,?_,h2,h4,?_⟩
 .have:vs.length<=60:=by omega
  exact QM this (by decide)
 .cases vs with
  |nil=>simp at h5
  |cons v vs=>
   simp only[Qf,List.cons.injEq]at h7;simp only[QE]at h5 h6;rw[wU h2];refine⟨v,h7.1,.ref a,h1,a,C,f::fs,rfl,h2,h3,Qq,λdx hdx=>?_⟩;have hne:dx≠a:=λz=>by subst z;rw[h2]at hdx;cases hdx
   refine⟨a,C,dx,[(f,v)],f::fs,vs,h1,?_,aF,hne,h3,λg hg=>Qi _ hg,?_,by omega,h7.2,?_⟩
   .rw[az hne.symm,aF]
   .simp only[QE,Sg];omega
   .rw[ux]
    have:=q dx hdx;unfold putAll at this;exact this
end
noncomputable def GG(K:P4) (ks:al):Sp:=λvs H Q _=>∃a C fn args,vs=.ref a::args/\args.length=ks.length/\H a=some (.ext (t8 a C none))/\Ij K C ks/\Ji K C fn/\∀dx,H dx=none->Q .non (upd (upd H a (.ext (t8 a C (some dx)))) dx (.ext (CS dx (putAll ks args []))))
def M1{K:P4}{st:RH}{ps:al}(F:CZ K x qual st f fd)(S:eY ps ps (defScope st))(hps:ps.length=ks.length+1)(hf:ks.length<=60)
  (hbody:∀(cdv:P2) (A:Q0) (outer:List Rv) (s0:Qj) (H:Hp) (E:XK),XB (eZ CX0 P w K mg base ps qual (defScope st) f cdv A outer s0 H E).nox (defBody st) ks ((QL ks.length).map (· + 1))):FnOk P w K mg base CX0 1 f fd ps (GG K ks):=by
 refine F.ok S (λvs H Q E h=>?_) λcdv A outer s0 H vs Q E hr h=>?_
 .obtain⟨a,C,fn,args,rfl,hl,_⟩:=h
  simp[hl,hps]
 .obtain⟨a,C,fn,args,rfl,hl,hH,hC,hn,q⟩:=h
  refine⟨_,(hbody cdv A outer s0 H E).o,a,C,fn,args,?_,hH,hC,hn,hl.symm,hf,?_,q⟩
  .unfold L2.start;simp
  .unfold L2.start
   apply List.ext_getElem?;intro i;simp only[Qg,RD]
   by_cases hi:i<ks.length
   .have hia:i<args.length:=by omega
    simp[hi,hia,Qo,Q8]
   .have hia:¬i<args.length:=by omega
    simp[hi,hia]
section
variable {prog:Ra}{w:Rr}{A:Q0}{E:P2->Qj->Prop}{s:Qj}{env:Rv}
variable {nm q:Qu}{C N:P9}{bs bm bmB:List P2}{hdct:Bool}{sn:al}{sub:List P2}{ab:Bool}{col:Option Bool}{dd:Option P9}{k0 k1 k2 k3 k5:Option P2}{B newId initId:String}{mN:Qu->Option P2}{fI:P9}{oI:Obj}
def C6(F:ExcBaseFacts B newId initId bmB)(hbase:bm.contains (.type "BaseException")=true)(hh:A.handled=none)(hplain:(Rg cpos (Qb args env)).any (·.1)=false)(hi:mN "__init__"=some (.ref fI))
  (h:QC (QB prog w) A (eval (.Name x np) env) (λf sg=>f=.ref C/\QC (QB prog w) A (evalArgs (.ref C) true (Rg cpos (Qb args env)) []) (λa si=>a.kw=[]/\a.pos.length<=sizeLine/\si.heap.get? C=some (excClassObj nm q C N bs bm hdct sn sub ab col dd k0 k1 k2 k3 k5 newId)/\si.heap.Ns N mN/\OwnTail si.heap bmB bm/\si.heap.get? fI=some oI/\oI.cls=.type "function" /\
    ∀h' e,UO si.heap h' e (.ref C) a.pos->QC (QB prog w) (A.under (.builtin "type.__call__" ⟨.ref C::a.pos,[]⟩)) (call (.ref fI) (.ref e::a.pos)) (λr s'=>r=.none/\s'.heap.get? C=some (excClassObj nm q C N bs bm hdct sn sub ab col dd k0 k1 k2 k3 k5 newId)/\(∃dc t,s'.heap.get? e=some ⟨.ref C,dc,.fields #[.ref t,.none,.none,.none,.bool false,.none],#[]⟩)/\E (.ref e) s') E { si with heap:=h' }) E sg) E s) :
  QC (QB prog w) A (exec (.Raise (some (.Call (.Name x np) args [] cpos)) none pos) env) Q E s:=by
 rw[arm_exec_Raise];refine P8 (wpAny_standAt (C5 (C:=C) (nm:=nm) (q:=q) (N:=N) (bs:=bs) (bm:=bm) (hdct:=hdct) (sn:=sn) (sub:=sub) (ab:=ab) (col:=col) (dd:=dd) (k0:=k0) (k1:=k1) (k2:=k2) (k3:=k3) (k5:=k5) (newId:=newId) hbase hh (P8 (Ri (wpAny_Call_ofName (Ri h (λf sg hU=>?_) λ_ _ x=>x)) (λv sj hZ=>P8 (wpAny_standAt (QH hZ))) λ_ _ x=>x))));obtain⟨rfl,hU⟩:=hU;unfold callWith;refine P8 (Ry (Ri hU (λ⟨apos,akw⟩ si ⟨hkw,hlen,hC,hn,T,hf,hfc,hV⟩=>P8 (wpAny_standAt ?_)) λ_ _ x=>x));obtain rfl:akw=[]:=hkw;obtain⟨hp,g,d,tk,os⟩:=si;simp only[hplain];refine P8 (wpAny_keeperOf_exc hC (P8 (Gd F T hC hn hi hf hfc hlen λh' e hm=>Ri (hV h' e hm) (λr s' hr=>?_) λ_ _ z=>z)));obtain⟨rfl,hC',⟨dc,t,he⟩,hE⟩:=hr;exact⟨rfl,P8 (Ry (wpAny_point (QH ⟨e,dc,t,rfl,hC',he,hE⟩)))⟩
end
structure BQ (K:P4) (x:Qu) (C:P9):Prop where
 i:ur K x C
 cls:SA K (.ref C) "__class__"=some (some (.builtin "object.__class__"))
 ga:SA K (.ref C) "__getattribute__"=some (some (.builtin "BaseException.__getattribute__"))
 gt:SA K (.ref C) "__getattr__"=some none
 t1:Ta K (.ref C) (.type "NoneType")=some false
 t2:Ta K (.ref C) (.type "bool")=some false
 t3:Ta K (.ref C) (.type "int")=some false
 t4:Ta K (.ref C) (.type "str")=some false
 t5:Ta K (.ref C) (.type "tuple")=some false
 t6:Ta K (.ref C) (.type "list")=some false
 t7:Ta K (.ref C) (.type "dict")=some false
 ve:Ta K (.ref C) (.type "ValueError")=some true
 self:Ta K (.ref C) (.ref C)=some true
def BQ.xc{K:P4}(Z:BQ K x C):XC K x C :=
 ⟨Z.i.ns,⟨Z.cls,Z.ga,Z.gt,Z.i.ob,Z.i.be⟩,λT hT=>by
  refine Kn (xN T hT) ?_;simp only[gV,Qs,R5,or_false]at hT;rcases hT with rfl|rfl|rfl|rfl|rfl|rfl|rfl
  all_goals first|exact Z.t1|exact Z.t2|exact Z.t3|exact Z.t4|exact Z.t5|exact Z.t6|exact Z.t7⟩
def Jo{K:P4}(z:Ji K C fn)(sa:SA K (.ref C) "__setattr__"=some (some (.builtin "object.__setattr__")))(hd:Uy K C=true)(no:∀f∈ks,n9 K C f):Ij K C ks:=by
 obtain⟨CE,nm,qn,N,bs,hdct,sn,sub,ab,col,dd,k0,k1,k2,k3,k5,ho,_⟩:=z.ex;refine⟨sa,hd,?_,no⟩;unfold W.clsIn;rw[ho];rfl
section
variable {P:Ra}{w:Rr}{K:P4}{mg:Qu->Option P2}{base:Qr}{N:al}{qual:Qu}{scope:T7}{f:P9}{cd:P2}{A:Q0}{outer:List Rv}{s0:Qj}{H0:Hp}{E:XK}{He η:Hp}
def EN{h:Qr}(ok:g6 P w (upd (upd H e o1) dx o2) h)(he:H e=none)(hd:H dx=none)(n1:∀b,o1≠.own b)(n2:∀b,o2≠.own b)(m1:∀b,o1≠.tup b)(m2:∀b,o2≠.tup b):g6 P w H h:=λa o q=>by
 have a1:a≠e:=λz=>by subst z;rw[he]at q;cases q
 have a2:a≠dx:=λz=>by subst z;rw[hd]at q;cases q
 refine(ok a o (by rw[az a2,az a1];exact q)).stay (λb u _ z=>z) (λb z=>?_) λb xs z=>?_
 .by_cases b2:b=dx
  .subst b2;rw[aF]at z;exact absurd (Q4 z) (n2 _)
  .rw[az b2]at z
   by_cases b1:b=e
   .subst b1;rw[aF]at z;exact absurd (Q4 z) (n1 _)
   .rw[az b1]at z;exact z
 .by_cases b2:b=dx
  .subst b2;rw[aF]at z;exact absurd (Q4 z) (m2 _)
  .rw[az b2]at z
   by_cases b1:b=e
   .subst b1;rw[aF]at z;exact absurd (Q4 z) (m1 _)
   .rw[az b1]at z;exact z
def CT{fs:List P9}{h h2:Qr}(u:Un fs [] H H2 h h2):Un fs [] H H h h2:=⟨u.keep,u.slot,λ_ _ _ n _=>n,u.there,λ_ _ q=>q,λ_ _ _ q=>q,λ_ ps q=>⟨#[],by rw[q];simp⟩⟩
end
noncomputable def IH(e:U9):Bool:=match e.key with
 |.str _ _=>true
 |_=>false
def C4{K:P4}{C CE fn N:P9}{nm q:Qu}{bs sub:List P2}{k0 k1 k2 k3 k5:Option P2}{st:Array (Option P2)}
  (xl:K.lookup C=some (excClassObj nm q C N bs [.ref CE,.type "ValueError",.type "Exception",.type "BaseException",.type "object"] hdct sn sub ab col dd k0 k1 k2 k3 k5 "ValueError.__new__"))(xn:K.lookup N=some ⟨cn,dn,.dict es ep,st⟩)(xk:es.toList.all IH=true)(xv:Rj K N "__init__"=some (some (.ref fn)))
  (xb:Vb K CE [.type "ValueError",.type "Exception",.type "BaseException",.type "object"] "ValueError.__new__"=true):Ji K C fn:=by
 refine⟨CE,nm,q,N,bs,hdct,sn,sub,ab,col,dd,k0,k1,k2,k3,k5,xl,?_,xv,xb⟩;unfold W.nsOkIn;rw[xn];rw[Array.all_toList]at xk;exact xk
noncomputable def PN(x:D):ak D:=match x with
 |.lst ds=>.ok (.lst ds.reverse)
 |_=>.stuck
noncomputable def pz(f:Ev->ak D) (lo hi:Ev->ak (Option Int)):Ev->ak D:=λρ=>(f ρ).bind λx=>(lo ρ).bind λl=>(hi ρ).bind λh=>match x with
 |.lst ds=>.ok (.lst (wy ds l h))
 |_=>.stuck
section
variable {X:Cx}{E:XK}{a:QX}{f:Ev->ak D}{pos p2:Pos}
def yu{lo hi:Option QX}(ha:DE X E a f)(hl:DO X E lo fl)(hh:DO X E hi fh):DF X E (.Subscript a (.Slice lo hi none p2) pos) (pz f fl fh):=by
 refine⟨bg (xw As ha.o hl.o hh.o) λσ H Q z9=>?_⟩;obtain⟨Ha,ρ,hs,hr,q⟩:=z9;refine⟨Ha,ρ,hs,hr,?_⟩;unfold pz at q;cases e1:f ρ with
 |stuck|exn x=>rw[e1]at q;exact q
 |ok x=>
  rw[e1]at q;intro v H1 H01 g1 r1;refine⟨H01,ρ,g1.sub,hr.mono g1.z,?_⟩;simp only[ak.bind]at q;cases e2:fl ρ with
  |stuck=>rw[e2]at q;exact q|exn x=>rw[e2]at q;exact λC ox H' Ha' g' ex=>q C ox H' Ha' (g1.trans g') ex
  |ok l=>
   rw[e2]at q;intro H2 H02 g2;refine⟨H02,ρ,g2.sub,(hr.mono g1.z).mono g2.z,?_⟩;simp only[ak.bind]at q;cases e3:fh ρ with
   |stuck=>rw[e3]at q;exact q|exn x=>rw[e3]at q;exact λC ox H' Ha' g' ex=>q C ox H' Ha' ((g1.trans g2).trans g') ex
   |ok h=>
    rw[e3]at q;intro H3 H03 g3;simp only[ak.bind]at q;have g:=(g1.trans g2).trans g3;cases x with
    |lst ds=>
     simp only at q;obtain⟨b,vs,rfl,h1,h2⟩:=aI.mp ((r1.mono g2.z).mono g3.z);refine⟨b,vs,rfl,aG.sqL g3.sub h1,λp hp=>?_⟩;have h0:H03 p=none:=g3.sub.free hp;refine q p _ _ H03 (g.trans ⟨λb o q=>by rw[az (bh q hp)];exact q,aG.refl _,λb o q=>?_,λa h1 h2=>absurd h2 h1⟩) (g.s.free hp) h0 aF (h2.cut l h);rw[az (by intro z;subst z;rw[h0]at q;cases q)];exact g3.sub _ _ q
    |_=>exact q.elim
end
noncomputable def jc(x:Qu) (ks:al) (fa:Ev->ak (ac)):Ev->ak Fl:=λρ=>(fa (ey ρ)).bind λds=>if ds.length=ks.length then .exn ⟨x,ks.zip ds⟩ else .stuck
theorem wJ{K:P4}{H:Hp}:∀{ks:al}{ds:ac}{vs:ad}{n:Qu}{d:D},Reps K H ds vs->(ks.zip ds).lookup n=some d->∃v,(ks.zip vs).lookup n=some v/\Rep K H d v
 |[],ds,vs,n,d,r,h=>by rw[List.zip_nil_left]at h;cases h
 |k::ks,[],vs,n,d,r,h=>by rw[List.zip_nil_right]at h;cases h
 |k::ks,e::ds,vs,n,d,r,h=>by
  obtain⟨v,vs',rfl,r1,r2⟩:=aM.mp r;rw[SH,S9]at h;rw[SH];cases q:n==k with
  |true=>rw[q]at h;cases h;exact⟨v,by rw[S9,q],r1⟩
  |false=>
   rw[q]at h;obtain⟨u,h1,h2⟩:=wJ r2 h;exact⟨u,by rw[S9,q];exact h1,h2⟩
def g6.xd(ok:g6 P w H g){fs:List (Qu×V)}(hn:H a=none)(p:CS a fs g):g6 P w (upd H a (.xd fs)) g:=λb u e=>by
 by_cases hb:b=a
 .subst hb;rw[aF]at e;cases e;obtain⟨m,n,r,_⟩:=p;exact⟨m,n,r⟩
 .rw[az hb]at e
  exact(ok b u e).stay (λc v _ q=>q) (λc q=>by rw[az (bh q hn)];exact q) λc xs q=>by rw[az (bh q hn)];exact q
section
variable {P:Ra}{w:Rr}{K:P4}{mg:Qu->Option P2}{base:Qr}{N:al}{qual:Qu}{scope:T7}{f:P9}{cd:P2}{A:Q0}{outer:List Rv}{s0:Qj}{H0:Hp}{E:XK}{He η:Hp}
def nQ{ps ks:al}(xc:XC K x C)(z:Ji K C fn)(st:Ij K C ks)(hfn:W.isFn K (.ref fn)=true)(F:FnOk P w K mg base CX0 k fn fd ps (GG K ks))(hb:il K fd ps [])(hks:ks.length<=60)(hnd:ks.Nodup)(hr:cK (k+1) (eZ (oa P w) P w K mg base N qual scope f cd A outer s0 H0 E).A)(hm:mg x=some (.ref C))(hh:A.handled=none)
  (hg:Gl (eZ (oa P w) P w K mg base N qual scope f cd A outer s0 H0 E) x)(ha:DA (eZ (oa P w) P w K mg base N qual scope f cd A outer s0 H0 E) E (e::es) fa)
  (hdb:(x==("__debug__" : Qu))=false:=by decide)(he:Qb (e::es) (eZ (oa P w) P w K mg base N qual scope f cd A outer s0 H0 E).env=(false,eval e (eZ (oa P w) P w K mg base N qual scope f cd A outer s0 H0 E).env)::Qb es (eZ (oa P w) P w K mg base N qual scope f cd A outer s0 H0 E).env:=by exact aW rfl)
  (hpl:(Rg cpos (Qb es (eZ (oa P w) P w K mg base N qual scope f cd A outer s0 H0 E).env)).any (·.1)=false:=by exact bH rfl) :
  DS (eZ (oa P w) P w K mg base N qual scope f cd A outer s0 H0 E) E He η (.Raise (some (.Call (.Name x np) (e::es) [] cpos)) none pos) (jc x ks fa):=by
 refine⟨?_⟩;intro π s σ H D I ⟨Ha,ρ,hr',q⟩;obtain⟨bm,Nn,nm,qn,bs,hdct,sn,sub,ab,col,dd,k0,k1,k2,k3,k5,mN,hC,hN,hi,T⟩:=(Ah I.ok.mod.kin z).ex;obtain⟨oI,hoI,hoc⟩:∃oI,base.get? fn=some oI/\oI.cls=.type "function":=by
  have:=beq_iff_eq.mp hfn;obtain⟨o,ho,hc⟩:=Option.map_eq_some_iff.mp this;exact⟨o,I.ok.mod.kin _ _ ho,hc⟩
 refine C6 (C:=C) (nm:=nm) (q:=qn) (N:=Nn) (bs:=bs) (bm:=bm) (hdct:=hdct) (sn:=sn) (sub:=sub) (ab:=ab) (col:=col) (dd:=dd) (k0:=k0) (k1:=k1) (k2:=k2) (k3:=k3) (k5:=k5)
  Tp (mN:=mN) (oI:=oI) (T.hasType Tp.hasBase) hh (by rw[he];show(false||(Rg cpos (Qb es (eZ (oa P w) P w K mg base N qual scope f cd A outer s0 H0 E).env)).any (·.1))=false;rw[hpl];rfl) hi (kd I hg hm ⟨rfl,?_⟩ hdb)
 have hq:uA K E H (frz He Ha H) (fa (ey ρ)) (λvs H1=>vs.length=ks.length/\∀dx,H1 dx=none->E (.ref C) (some dx) (upd H1 dx (.xd (ks.zip vs)))):=by
  unfold jc at q;cases e1:fa (ey ρ) with
  |stuck=>rw[e1]at q;exact q|exn z=>rw[e1]at q;exact λC ox H' Ha' g ex=>q C ox H' Ha' (hr'.frz_grow.trans g) ex
  |ok ds=>
   rw[e1]at q;intro vs H1 H01 g rp;have q:b8 K E He η Ha (if ds.length=ks.length then ak.exn ⟨x,ks.zip ds⟩ else .stuck) D:=q
   by_cases hl:ds.length=ks.length
   .rw[if_pos hl]at q
    refine⟨by rw[←rp.length];exact hl,λdx hdx=>?_⟩;have ga:=bo (o:=.xd (ks.zip vs)) g.sub hdx;refine q (.ref C) (some dx) _ _ (hr'.frz_grow.trans (g.trans ga)) ⟨⟨C,rfl,xc⟩,ks.zip vs,aF,λn d hn=>?_⟩;obtain⟨v,k1,k2⟩:=wJ rp hn;exact⟨v,k1,k2.mono ga.z⟩
   .rw[if_neg hl]at q;exact q.elim
 have h1:=ha.o cpos π s σ H _ I ⟨frz He Ha H,ey ρ,hr'.frz_le,hr'.looks,hq⟩;rw[he]at h1 ⊢;refine T3 (Ri h1 (λus s2 h2=>?_) λ_ _ y=>y);obtain⟨vs,H1,I1,rv,hl,hE⟩:=h2;have hz:us.length<=sizeLine:=by rw[←rv.length,hl,sizeLine_eq];omega
 refine⟨rfl,hz,I1.bk _ _ hC,hN.keeps I1.bk,T.keeps I1.bk,I1.bk _ _ hoI,hoc,λh' ee hx=>?_⟩;have hn:H1 ee=none:=by
  cases q:H1 ee with|none=>rfl|some o=>obtain⟨u,hu⟩:=cP.there (I1.hok ee o q);rw[hx.new]at hu;cases hu
 obtain⟨t,ht,_,_⟩:=hx.there;have hxn:t8 ee C none h':=⟨t,ht⟩
 have un1:Un (iw (eZ (oa P w) P w K mg base N qual scope f cd A outer s0 H0 E).stack) [] H1 (upd H1 ee (.ext (t8 ee C none))) s2.heap h':=Un.ext (Un.kept hx.keeps) hn hx.new;have I2:Inv (eZ (oa P w) P w K mg base N qual scope f cd A outer s0 H0 E) π σ (upd H1 ee (.ext (t8 ee C none))) { s2 with heap:=h' } :=
  I1.call' (ch:=[]) rfl un1 (g6.ext (I1.hok.kept hx.keeps) hn hxn ⟨_,ht⟩ rl) I1.bare (λ_ z=>nomatch z)
 have rv2:bA (V.ref ee::vs) (Q6 ee::us):=.cons rfl rv;have hsp:GG K ks (V.ref ee::vs) (upd H1 ee (.ext (t8 ee C none))) (λv H2=>v=.non/\∃dx,H1 dx=none/\dx≠ee/\H2=upd (upd (upd H1 ee (.ext (t8 ee C none))) ee (.ext (t8 ee C (some dx)))) dx (.ext (CS dx (putAll ks vs [])))) E :=
  ⟨ee,C,fn,vs,rfl,hl,aF,st,z,λdx hdx=>by
   have c:dx≠ee:=λc=>by rw[c,aF]at hdx;cases hdx
   rw[az c]at hdx;exact⟨rfl,dx,hdx,c,rfl⟩⟩
 have hl2:(Q6 ee::us).length=ps.length:=by rw[←rv2.length];exact F.len _ _ _ _ hsp
 have hbb:=hb { s2 with heap:=h' } (Q6 ee::us) I2.kIn (by simpa using hl2);rw[QN]at hbb;refine wpAny_call (codeAny_mono (F.run _ _ { s2 with heap:=h' } _ ⟨Q6 ee::us,[]⟩ (Q6 ee::us) _ _ E (hr.make C us []) (I2.env0.make C us []) hbb rv2 hsp) λr s3 hq3=>?_);cases r with
 |error e=>exact Rn hq3
 |ok fl=>
  cases fl with
  |next|brk|cont=>exact Rn hq3
  |ret u=>
   obtain⟨v,H2,os3,bare3,un3,hok3,rel3,rfl,dx,hdx,hdne,rfl⟩:=hq3;obtain rfl:u=RA:=rel3;rw[ux]at hok3 un3;have un4:=CT (un1.trans un3);have hok4:g6 P w H1 s3.heap:=EN hok3 hn hdx (λ_ z=>by cases z) (λ_ z=>by cases z) (λ_ z=>by cases z) (λ_ z=>by cases z);obtain⟨⟨t3,ht3⟩,_,_⟩:=(show cP P w _ s3.heap ee (.ext (t8 ee C (some dx))) from hok3 ee _ (by rw[az hdne.symm,aF]))
   have I3:=I1.call' (ch:=[]) os3 un4 hok4 bare3 (λ_ z=>nomatch z);refine⟨rfl,I3.bk _ _ hC,⟨_,t3,ht3⟩,?_⟩;have hin:=HC (l:=envOfC qual scope s0.heap.objs.size f cd::outer);have hfr:s3.heap.FunFrames (U3 s3.heap (ee::iw (envOfC qual scope s0.heap.objs.size f cd::outer))) (envOfC qual scope s0.heap.objs.size f cd::outer):=W.funFrames_hide I3.stack λenv he a hf=>Qi _ (hin env he a hf);have hst:(U3 s3.heap (ee::iw (envOfC qual scope s0.heap.objs.size f cd::outer))).StaysIn s3.heap:=λb o q=>W.of_hideAll _ q;have hen:(U3 s3.heap (ee::iw (envOfC qual scope s0.heap.objs.size f cd::outer))).get? ee=none:=W.hideAll_none _ (.head _);obtain⟨pX,_,_⟩:=(show cP P w _ s3.heap dx (.ext (CS dx (putAll ks vs []))) from hok3 dx _ aF)
   rw[qE hnd (λ_ _ z=>by simp at z) hl.symm,RZ]at pX;have hok5:=g6.xd hok4 hdx pX;have dfresh:s2.heap.get? dx=none:=by
    cases qd:s2.heap.get? dx with
    |none=>rfl
    |some o=>
     have:=un3.free dx o (hx.keeps dx o qd) (by rw[az hdne];exact hdx) (by simp);rw[aF]at this;cases this
   have un5:=Un.ext (o:=.xd (ks.zip vs)) un4 hdx dfresh;refine zK (a0:=.ref t3) I3.ok.frames hfr rfl ht3 hst hen rfl rfl rfl λh4 fl4 up4 dc4=>?_;refine IM rfl I1 (s1:=s3) (H1:=upd H1 dx (.xd (ks.zip vs))) os3 bare3 un5 hok5 (by rw[az hdne.symm];exact hn) hst hfr (λb hb hy=>?_) fl4 up4 ⟨some dx,⟨some dx,dc4,.inr rfl⟩,hE dx hdx⟩;have hbe:b≠ee:=λc=>by
    subst c;rcases hy with hy|⟨o,hy⟩
    .exact hy (by rw[az hdne.symm];exact hn)
    .rw[hx.new]at hy;cases hy
   have hth:∃o,s3.heap.get? b=some o:=by
    rcases hy with hy|⟨o,hy⟩
    .cases q:(upd H1 dx (.xd (ks.zip vs))) b with
     |none=>exact absurd q hy
     |some o=>exact cP.there (hok5 b o q)
    .exact un4.there b o hy (by simp)
   obtain⟨o,q⟩:=hth;exact⟨o,W.hideAll_get _ q (List.not_mem_cons_of_ne_of_not_mem hbe hb)⟩
end
def Pc{α:Type}{us:List α}(h:us.length=1):∃a,us=[a]:=List.length_eq_one_iff.mp h
def Oq{α:Type}{us:List α}(h:us.length=2):∃a b,us=[a,b]:=by
 cases us with|nil=>cases h|cons a us=>obtain⟨b,rfl⟩:=Pc (Uj h);exact⟨a,b,rfl⟩
def Pb{α:Type}{us:List α}(h:us.length=3):∃a b c,us=[a,b,c]:=by
 cases us with|nil=>cases h|cons a us=>obtain⟨b,c,rfl⟩:=Oq (Uj h);exact⟨a,b,c,rfl⟩
def Pa{α:Type}{us:List α}(h:us.length=4):∃a b c d,us=[a,b,c,d]:=by
 cases us with|nil=>cases h|cons a us=>obtain⟨b,c,d,rfl⟩:=Pb (Uj h);exact⟨a,b,c,d,rfl⟩
def PL{α:Type}{us:List α}(h:us.length=5):∃a b c d e,us=[a,b,c,d,e]:=by
 cases us with|nil=>cases h|cons a us=>obtain⟨b,c,d,e,rfl⟩:=Pa (Uj h);exact⟨a,b,c,d,e,rfl⟩
end DL
namespace Com
open PySem L2 DL
noncomputable def Ay(x:Qu) (ks:al) (ds:ac):ak Fl:=if ds.length=ks.length then .exn ⟨x,ks.zip ds⟩ else .stuck
def uN:jc x ks fa ρ=(fa (ey ρ)).bind (Ay x ks):=aJ rfl
def rL:Ay x [f] [d]=.exn ⟨x,[(f,d)]⟩:=if_pos rfl
end Com
namespace DL
open PySem PySem.Spec PyProof.Rows L2
noncomputable def Cz(a:P9) (H:Hp):Hp:=λb=>if b=a then none else H b
def fT{a b:P9}(h:b≠a):Cz a H b=H b:=if_neg h
def dJ:Cz a H a=none:=if_pos rfl
structure gp (K:P4) (He η Ha:Hp) (σ:L2.St) (H:Hp) (ρ:Ev) (a:P9) (st:ac) (vs:ad):Prop where
 ha:He a=none
 h0:η a=none
 hl:H a=some (.lst vs)
 r:Reps K Ha st vs
 s:eX K (upd He a (.lst vs)) η Ha σ H ρ
def OX.he{K:P4}(hn:∀b,He b=Uz->He' b=Uz)(h:OX K He Ha σ H ρ):OX K He' Ha σ H ρ:=⟨λi j ds e=>by
 obtain⟨a,p,h1,⟨vs,es,us,r1,r2,r3,r⟩,h2⟩:=h.1 i j ds e;exact⟨a,p,h1,⟨vs,es,us,hn _ r1,r2,hn _ r3,r⟩,h2⟩,h.2⟩
section
variable {K:P4}{He η Ha H:Hp}{σ:L2.St}{ρ:Ev}{a:P9}{st st':ac}{vs us:ad}
def gp.n0(h:gp K He η Ha σ H ρ a st vs):Ha a=none:=by
 cases q:Ha a with
 |none=>rfl
 |some o=>
  have:=h.s.g.nw a (by rw[q];simp) h.h0;rw[aF]at this;cases this
def gp.back(h:gp K He η Ha σ H ρ a st vs)(z:aG Ha Ha')(s':eX K (upd He a (.lst vs)) η Ha' σ' H' ρ'):gp K He η Ha' σ' H' ρ' a st vs :=
 ⟨h.ha,h.h0,s'.g.s _ _ aF,h.r.mono z,s'⟩
def gp.change(h:gp K He η Ha σ H ρ a st vs)(g:bw (Cz a H) Ha H' Ha')(n:Ha' a=none)(hl:H' a=some (.lst us))(r:Reps K Ha' st' us):gp K He η Ha' σ H' ρ a st' us:=by
 have hne:∀b,upd He a (.lst us) b=none->b≠a/\He b=none:=λb e=>by
  by_cases c:b=a
  .subst c;rw[aF]at e;cases e
  .rw[az c]at e;exact⟨c,e⟩
 have hnn:∀b,upd He a (.lst vs) b=none->upd He a (.lst us) b=none:=λb e=>by
  by_cases c:b=a
  .subst c;rw[aF]at e;cases e
  .rw[az c]at e ⊢;exact e
 have gone:∀b o,b≠a->H b=some o->H' b=some o:=λb o c e=>g.s _ _ (by rw[fT c];exact e);have n':∀b,Ha b=none->(∃o,H b=some o/\b≠a)->Ha' b=none:=λb e ⟨o,e1,c⟩=>by
  cases q:Ha' b with
  |none=>rfl
  |some u=>
   have:=g.nw b (by rw[q];simp) e;rw[fT c,e1]at this;cases this
 refine⟨h.ha,h.h0,hl,r,⟨⟨λb o e=>?_,h.s.g.z.trans g.z,g.sub,λb h1 h2=>?_⟩,h.s.rd.mono g.z,λi d e=>?_,h.s.ap,h.s.ln,(h.s.ex.he hnn).upd (λj s e=>.inl ⟨e,rfl⟩) g.z (λb ws hb e=>gone b _ (hne b hb).1 e) λp ws hp q0 hq _=>⟨gone p _ (hne p hp).1 hq,n' p q0 ⟨_,hq,(hne p hp).1⟩⟩⟩⟩
 .by_cases c:b=a
  .subst c;rw[aF]at e;cases e;exact hl
  .rw[az c]at e
   exact gone b o c (h.s.g.s _ _ (by rw[az c];exact e))
 .by_cases c:b=a
  .subst c;exact absurd n h1
  .rw[az c]
   cases q:Ha b with
   |some u=>
    have:=h.s.g.nw b (by rw[q];simp) h2;rw[az c]at this;exact this
   |none=>
    have:=g.nw b h1 q;rw[fT c]at this;cases q2:He b with|none=>rfl|some u=>rw[h.s.g.s b u (by rw[az c];exact q2)]at this;cases this
 .obtain⟨b,k1,k2,k3,k4⟩:=h.s.ow i d e
  cases d with
  |lst ds=>
   obtain⟨ws,k5,k6⟩:=k4;have c:b≠a:=(hne b (hnn b k2)).1;exact⟨b,k1,hnn b k2,n' b k3 ⟨_,k5,c⟩,ws,gone b _ c k5,k6.mono g.z⟩
  |dic ks ds=>
   obtain⟨ws,k5,kl,k6⟩:=k4;have c:b≠a:=(hne b (hnn b k2)).1;exact⟨b,k1,hnn b k2,n' b k3 ⟨_,k5,c⟩,ws,gone b _ c k5,kl,k6.mono g.z⟩
  |_=>exact k4.elim
end
noncomputable def tM(K:P4) (He η:Hp) (a:P9) (f:Ev->ac->ak (D×ac)):TE:=λσ H Q=>∃Ha ρ st vs,gp K He η Ha σ H ρ a st vs/\match f ρ st with
 |.ok (d,st')=>∀v H' Ha' us,aG Ha Ha'->gp K He η Ha' σ H' ρ a st' us->Rep K Ha' d v->Q v H'
 |.exn _=>False
 |.stuck=>False
noncomputable def OW(K:P4) (He η:Hp) (a:P9) (f:Ev->ac->ak (ac×ac)):TA:=λσ H Q=>∃Ha ρ st vs,gp K He η Ha σ H ρ a st vs/\match f ρ st with
 |.ok (ds,st')=>∀xs H' Ha' us,aG Ha Ha'->gp K He η Ha' σ H' ρ a st' us->Reps K Ha' ds xs->Q xs H'
 |.exn _=>False
 |.stuck=>False
noncomputable def OV(K:P4) (He η:Hp) (a:P9) (f:Ev->ac->ak (D×ac)):TT:=λσ H Q=>∃Ha ρ st vs,gp K He η Ha σ H ρ a st vs/\match f ρ st with
 |.ok (.bl b,st')=>∀H' Ha' us,aG Ha Ha'->gp K He η Ha' σ H' ρ a st' us->Q b H'
 |.ok _=>False
 |.exn _=>False
 |.stuck=>False
structure DM (X:Cx) (He η:Hp) (a:P9) (e:QX) (f:Ev->ac->ak (D×ac)):Prop where
 o:PE X e (tM X.K He η a f)
structure Io (X:Cx) (He η:Hp) (a:P9) (es:List QX) (f:Ev->ac->ak (ac×ac)):Prop where
 o:PA X es (OW X.K He η a f)
structure FW (X:Cx) (He η:Hp) (a:P9) (e:QX) (f:Ev->ac->ak (D×ac)):Prop where
 o:PT X e (OV X.K He η a f)
noncomputable def mP(f:Ev->ak D):Ev->ac->ak (D×ac):=λρ st=>(f ρ).bind λd=>.ok (d,st)
noncomputable def kG(st:ac) (d:D):ak (D×ac):=if iN d=true then .ok (d,st) else .stuck
noncomputable def mL(f:Ev->ak D):Ev->ac->ak (D×ac):=λρ st=>(f (ey ρ)).bind (kG st)
noncomputable def jJ(s:Option Sl) (a:P9):Bool:=match s with
 |some (.pt b)=>b==a
 |_=>false
noncomputable def vw(i:Nat) (ρ:Ev) (st:ac):Ev:=(ey ρ).set i (.sh (.lst st))
noncomputable def mV(i:Nat) (a:P9) (f:Ev->ak D):Ev->ac->ak (D×ac):=λρ st=>if jJ ρ[i]? a=true then(f (vw i ρ st)).bind (kG st) else .stuck
section
variable {X:Cx}{E:XK}{He η:Hp}{a:P9}{e b:QX}{es:List QX}{pos:Pos}{f:Ev->ak D}{fm gm:Ev->ac->ak (D×ac)}{fa:Ev->ac->ak (ac×ac)}
def aK(he:DE X E e f):DM X He η a e (mP f):=⟨bg he.o λσ H Q ⟨Ha,ρ,st,vs,h,q⟩=>⟨Ha,ρ,h.s.g.sub,h.s.rd,by
 unfold mP at q;cases e1:f ρ with
 |stuck=>rw[e1]at q;exact q|exn x=>rw[e1]at q;exact q.elim
 |ok d=>
  rw[e1]at q;exact λv H' Ha' g rp=>q v H' Ha' vs g.z (h.back g.z (h.s.grow g)) rp⟩⟩
def HN(he:DE X E e f):DM X He η a e (mL f):=⟨bg he.o λσ H Q ⟨Ha,ρ,st,vs,h,q⟩=>⟨frz (upd He a (.lst vs)) Ha H,ey ρ,h.s.frz_le,h.s.looks,by
 unfold mL at q;cases e1:f (ey ρ) with
 |stuck=>rw[e1]at q;exact q|exn x=>rw[e1]at q;exact q.elim
 |ok d=>
  rw[e1]at q;intro v H' J g rp;have hJ:aG Ha J:=h.s.frz_sub.trans g.z;have z:aG Ha (e7 Ha J):=λb o e=>by unfold e7;rw[e]
  replace q:match kG st d with
   |.ok (d,st')=>∀v H' Ha' us,aG Ha Ha'->gp X.K He η Ha' σ H' ρ a st' us->Rep X.K Ha' d v->Q v H'
   |.exn _=>False
   |.stuck=>False:=q
  unfold kG at q
  by_cases fl:iN d=true
  .rw[if_pos fl]at q
   exact q v H' (e7 Ha J) vs z (h.back z (h.s.behind g)) (rp.flat_to (p8 hJ) fl)
  .rw[if_neg fl]at q;exact q.elim⟩⟩
def gp.view{K:P4}{st:ac}(h:gp K He η Ha σ H ρ a st vs)(hp:jJ ρ[i]? a=true):aG (upd (frz (upd He a (.lst vs)) Ha H) a (.lst vs)) H/\aG (frz (upd He a (.lst vs)) Ha H) (upd (frz (upd He a (.lst vs)) Ha H) a (.lst vs))/\Reads K (upd (frz (upd He a (.lst vs)) Ha H) a (.lst vs)) σ (vw i ρ st):=by
 have hz:frz (upd He a (.lst vs)) Ha H a=none:=by unfold frz;rw[aF];exact h.n0
 have z:aG (frz (upd He a (.lst vs)) Ha H) (upd (frz (upd He a (.lst vs)) Ha H) a (.lst vs)):=λb o e=>by rw[az (by intro z;subst z;rw[hz]at e;cases e)];exact e
 refine⟨λb o e=>?_,z,λj d e=>?_⟩
 .by_cases c:b=a
  .subst c;rw[aF]at e;cases e;exact h.hl
  .rw[az c]at e;exact h.s.frz_le _ _ e
 .unfold vw at e
  by_cases c:i=j
  .subst c
   unfold jJ at hp;cases q:ρ[i]? with
   |none=>rw[q]at hp;cases hp
   |some s=>
    rw[q]at hp;cases s with
    |pt b=>
     have hb:b=a:=eq_of_beq hp;subst hb;have hil:i<(ey ρ).length:=by unfold ey;rw[P7];exact(Qa.mp q).1
     rw[QU hil]at e;cases e;exact⟨_,h.s.ex.2 i b q,aI.mpr ⟨b,vs,rfl,fk.of aF,(h.r.mono h.s.frz_sub).mono z⟩⟩
    |_=>cases hp
  .rw[Qm c]at e
   obtain⟨v,h1,h2⟩:=h.s.looks j d e;exact⟨v,h1,h2.mono z⟩
def gp.behind{K:P4}{st:ac}(h:gp K He η Ha σ H ρ a st vs)(g:bw H (upd (frz (upd He a (.lst vs)) Ha H) a (.lst vs)) H' J):aG Ha J/\aG Ha (e7 Ha J)/\gp K He η (e7 Ha J) σ H' ρ a st vs:=by
 have hz:frz (upd He a (.lst vs)) Ha H a=none:=by unfold frz;rw[aF];exact h.n0
 have z0:aG (frz (upd He a (.lst vs)) Ha H) (upd (frz (upd He a (.lst vs)) Ha H) a (.lst vs)):=λb o e=>by rw[az (by intro z;subst z;rw[hz]at e;cases e)];exact e
 have hJ:aG Ha J:=h.s.frz_sub.trans (z0.trans g.z);have z:aG Ha (e7 Ha J):=λb o e=>by unfold e7;rw[e]
 refine⟨hJ,z,h.back z ?_⟩;have ja:J a=some (.lst vs):=g.z _ _ aF;have g':bw H (frz (upd He a (.lst vs)) Ha H) H' (Cz a J):=⟨g.s,λb o e=>by
   have c:b≠a:=by intro c;subst c;rw[hz]at e;cases e
   rw[fT c];exact g.z _ _ (z0 _ _ e),λb o e=>by
   by_cases c:b=a
   .subst c;rw[dJ]at e;cases e
   .rw[fT c]at e;exact g.sub _ _ e,λb h1 h2=>by
   by_cases c:b=a
   .subst c;exact absurd dJ h1
   .rw[fT c]at h1;exact g.nw b h1 (by rw[az c];exact h2)⟩
 have hs:=h.s.behind g';have e:e7 Ha (Cz a J)=e7 Ha J:=by
  funext b;unfold e7
  by_cases c:b=a
  .subst c;rw[h.n0,dJ,ja]
  .rw[fT c]
 rw[e]at hs;exact hs
def mW(he:DE X E e f):DM X He η a e (mV i a f):=⟨bg he.o λσ H Q z9=>by
 obtain⟨Ha,ρ,st,vs,h,q⟩:=z9;unfold mV at q
 by_cases hp:jJ ρ[i]? a=true
 .rw[if_pos hp]at q
  obtain⟨v1,v2,v3⟩:=h.view hp;refine⟨_,vw i ρ st,v1,v3,?_⟩;cases e1:f (vw i ρ st) with
  |stuck=>rw[e1]at q;exact q|exn x=>rw[e1]at q;exact q.elim
  |ok d=>
   rw[e1]at q;intro v H' J g rp;obtain⟨hJ,z,hm⟩:=h.behind g;replace q:match kG st d with
    |.ok (d,st')=>∀v H' Ha' us,aG Ha Ha'->gp X.K He η Ha' σ H' ρ a st' us->Rep X.K Ha' d v->Q v H'
    |.exn _=>False
    |.stuck=>False:=q
   unfold kG at q
   by_cases fl:iN d=true
   .rw[if_pos fl]at q
    exact q v H' (e7 Ha J) vs z hm (rp.flat_to (p8 hJ) fl)
   .rw[if_neg fl]at q;exact q.elim
 .rw[if_neg hp]at q;exact q.elim⟩
noncomputable def mB(f g:Ev->ac->ak (D×ac)) (op:D->D->ak D):Ev->ac->ak (D×ac):=λρ st=>(f ρ st).bind λp=>(g ρ p.2).bind λq=>(op p.1 q.1).bind λd=>.ok (d,q.2)
def i4(ho:wH X.K E r op)(σ:L2.St)(H:Hp)(Q:VK)(h:tM X.K He η a (mB fm gm op) σ H Q):Lq r (tM X.K He η a fm) (tM X.K He η a gm) σ H Q:=by
 obtain⟨Ha,ρ,st,vs,h,q⟩:=h;refine⟨Ha,ρ,st,vs,h,?_⟩;unfold mB at q;cases e1:fm ρ st with
 |stuck|exn x=>rw[e1]at q;exact q
 |ok p=>
  obtain⟨x,s1⟩:=p;rw[e1]at q;intro v H1 H01 us z1 h1 r1;refine⟨H01,ρ,s1,us,h1,?_⟩;simp only[ak.bind]at q;cases e2:gm ρ s1 with
  |stuck|exn x=>rw[e2]at q;exact q
  |ok p2=>
   obtain⟨y,s2⟩:=p2;rw[e2]at q;intro u H2 H02 us2 z2 h2 r2;refine ho x y v u H2 H02 Q h2.s.g.sub (r1.mono z2) r2 ?_;simp only at q;cases e3:op x y with
   |stuck=>rw[e3]at q;exact q|exn x=>rw[e3]at q;exact q.elim
   |ok d=>
    rw[e3]at q;exact λv' H' Ha' g rp=>q v' H' Ha' us2 ((z1.trans z2).trans g.z) (h2.back g.z (h2.s.grow g)) rp
def Jc(h:fG X (binaryOp op) r)(ho:wH X.K E r o)(ha:DM X He η a l fm)(hb:DM X He η a b gm):DM X He η a (.BinOp l op b pos) (mB fm gm o):=⟨bg (IE h ha.o hb.o) (i4 ho)⟩
def KO(h:fG X (Q5 op) r)(ho:wH X.K E r o)(ha:DM X He η a l fm)(hb:DM X He η a b gm)(hm:behindInMarks op b=false):DM X He η a (.Compare l [op] [b] pos) (mB fm gm o):=⟨bg (AI h ha.o hb.o hm) (i4 ho)⟩
def Nf(h:FQ X r)(ho:wH X.K E r o)(ha:DM X He η a l fm)(hb:DM X He η a b gm)(hs:nh b:=by intro _ _;rfl):DM X He η a (.Subscript l b pos) (mB fm gm o):=⟨bg (IF h ha.o hb.o hs) (i4 ho)⟩
noncomputable def b4:Ev->ac->ak (ac×ac):=λ_ st=>.ok ([],st)
noncomputable def aT(f:Ev->ac->ak (D×ac)) (fa:Ev->ac->ak (ac×ac)):Ev->ac->ak (ac×ac):=λρ st=>(f ρ st).bind λp=>(fa ρ p.2).bind λq=>.ok (p.1::q.1,q.2)
def aU:Io X He η a [] b4:=⟨pJ gH λσ H Q ⟨Ha,ρ,st,vs,h,q⟩=>q [] H Ha vs (aG.refl _) h Reps.nil⟩
def aN(ha:DM X He η a e fm)(hr:Io X He η a es fa)(hs:Qb (e::es) X.env=(false,eval e X.env)::Qb es X.env:=by exact aW rfl):Io X He η a (e::es) (aT fm fa):=⟨pJ (dQ ha.o hr.o hs) λσ H Q ⟨Ha,ρ,st,vs,h,q⟩=>⟨Ha,ρ,st,vs,h,by
 unfold aT at q;cases e1:fm ρ st with
 |stuck|exn x=>rw[e1]at q;exact q
 |ok p=>
  obtain⟨x,s1⟩:=p;rw[e1]at q;intro v H1 H01 us z1 h1 r1;refine⟨H01,ρ,s1,us,h1,?_⟩;simp only[ak.bind]at q;cases e2:fa ρ s1 with
  |stuck|exn x=>rw[e2]at q;exact q
  |ok p2=>
   obtain⟨ys,s2⟩:=p2;rw[e2]at q;exact λxs H2 H02 us2 z2 h2 r2=>q _ H2 H02 us2 (z1.trans z2) h2 (Reps.cons (r1.mono z2) r2)⟩⟩
noncomputable def mA(fa:Ev->ac->ak (ac×ac)) (m:ac->ak D):Ev->ac->ak (D×ac):=λρ st=>(fa ρ st).bind λp=>(m p.1).bind λd=>.ok (d,p.2)
def tP(hd:gY X E r m)(σ:L2.St)(H:Hp)(Q:VK)(h:tM X.K He η a (mA fa m) σ H Q):OW X.K He η a fa σ H λvs H1=>r vs H1 Q:=by
 obtain⟨Ha,ρ,st,vs,h,q⟩:=h;refine⟨Ha,ρ,st,vs,h,?_⟩;unfold mA at q;cases e1:fa ρ st with
 |stuck|exn x=>rw[e1]at q;exact q
 |ok p=>
  obtain⟨ds,s1⟩:=p;rw[e1]at q;intro xs H1 H01 us z1 h1 r1;refine hd ds xs H1 H01 Q h1.s.g.sub r1 ?_;simp only[ak.bind]at q;cases e2:m ds with
  |stuck=>rw[e2]at q;exact q|exn x=>rw[e2]at q;exact q.elim
  |ok d=>
   rw[e2]at q;exact λv' H' Ha' g rp=>q v' H' Ha' us (z1.trans g.z) (h1.back g.z (h1.s.grow g)) rp
end
inductive eD where
 |nx (ρ:Ev) (st:ac)|rt (d:D) (st:ac)|bk (ρ:Ev) (st:ac)|ct (ρ:Ev) (st:ac)
structure Nv (K:P4) (He η Ha H:Hp) (a:P9) (st:ac):Prop where
 g:bw He η H Ha
 n:Ha a=none
 l:∃us,H a=some (.lst us)/\Reps K Ha st us
noncomputable def eE(K:P4) (He η:Hp) (a:P9) (Ha:Hp) (r:ak eD) (D:j9):Prop:=match r with
 |.ok (.nx ρ st)=>∀σ H Ha' vs,aG Ha Ha'->gp K He η Ha' σ H ρ a st vs->D.nx σ H
 |.ok (.rt d st)=>∀v H Ha',aG Ha Ha'->Nv K He η Ha' H a st->Rep K Ha' d v->D.rt v H
 |.ok (.bk ρ st)=>∀σ H Ha' vs,aG Ha Ha'->gp K He η Ha' σ H ρ a st vs->D.bk σ H
 |.ok (.ct ρ st)=>∀σ H Ha' vs,aG Ha Ha'->gp K He η Ha' σ H ρ a st vs->D.ct σ H
 |.exn _=>False
 |.stuck=>False
def eE.grow{K:P4}{D:j9}(h:eE K He η a Ha r D)(s:aG Ha Hb):eE K He η a Hb r D:=by
 cases r with
 |ok f=>
  cases f with|nx ρ st=>exact λσ H Ha' vs s'=>h σ H Ha' vs (s.trans s')|rt d st=>exact λv H Ha' s'=>h v H Ha' (s.trans s')|bk ρ st=>exact λσ H Ha' vs s'=>h σ H Ha' vs (s.trans s')|ct ρ st=>exact λσ H Ha' vs s'=>h σ H Ha' vs (s.trans s')
 |exn x=>exact h
 |stuck=>exact h
noncomputable def NF(K:P4) (He η:Hp) (a:P9) (g:Ev->ac->ak eD):TS:=λD σ H=>∃Ha ρ st vs,gp K He η Ha σ H ρ a st vs/\eE K He η a Ha (g ρ st) D
structure SM (X:Cx) (He η:Hp) (a:P9) (st:RH) (g:Ev->ac->ak eD):Prop where
 o:PS X st (NF X.K He η a g)
structure Ik (X:Cx) (He η:Hp) (a:P9) (st:List RH) (g:Ev->ac->ak eD):Prop where
 o:vn X st (NF X.K He η a g)
section
variable {X:Cx}{E:XK}{He η:Hp}{a:P9}{st:RH}{rest:List RH}{e b:QX}{es:List QX}{pos:Pos}{f:Ev->ak D}{fm gm:Ev->ac->ak (D×ac)}{s t:Ev->ac->ak eD}
noncomputable def bS:Ev->ac->ak eD:=λρ st=>.ok (.nx ρ st)
noncomputable def AV(t:Ev->ac->ak eD) (r:eD):ak eD:=match r with
 |.nx ρ st=>t ρ st
 |r=>.ok r
noncomputable def aV(s t:Ev->ac->ak eD):Ev->ac->ak eD:=λρ st=>(s ρ st).bind (AV t)
def bF:Ik X He η a [] bS:=⟨eH pG λD σ H ⟨Ha,ρ,st,vs,h,q⟩=>q σ H Ha vs (aG.refl _) h⟩
def aE(h1:SM X He η a st s)(h2:Ik X He η a rest t):Ik X He η a (st::rest) (aV s t):=by
 refine⟨?_⟩;refine eH (gG h1.o h2.o) λD σ H z9=>?_;obtain⟨Ha,ρ,st,vs,h,q⟩:=z9;refine⟨Ha,ρ,st,vs,h,?_⟩
 unfold aV at q;cases e1:s ρ st with
 |stuck|exn x=>rw[e1]at q;exact q
 |ok r=>
  rw[e1]at q;cases r with|nx ρ' st'=>exact λσ' H' Ha' vs' s' h'=>⟨Ha',ρ',st',vs',h',eE.grow (r:=t ρ' st') q s'⟩|rt d st'|bk ρ' st'|ct ρ' st'=>exact q
noncomputable def zy(st:ac) (r:Fl):ak eD:=match r with
 |.nx ρ=>.ok (.nx ρ st)
 |.bk ρ=>.ok (.bk ρ st)
 |.ct ρ=>.ok (.ct ρ st)
 |.rt _=>.stuck
noncomputable def cG(g:Ev->ak Fl):Ev->ac->ak eD:=λρ st=>(g ρ).bind (zy st)
def bR(h:∀vs,DS X E (upd He a (.lst vs)) η st g):SM X He η a st (cG g):=by
 refine⟨?_⟩;rintro π sh σ H D I ⟨Ha,ρ,st,vs,hm,q⟩;refine(h vs).o π sh σ H D I ⟨Ha,ρ,hm.s,?_⟩;unfold cG at q;cases e1:g ρ with
 |stuck=>rw[e1]at q;exact q|exn x=>rw[e1]at q;exact q.elim
 |ok r=>
  rw[e1]at q;cases r with|nx ρ'=>exact λσ' H' Ha' z h'=>q σ' H' Ha' vs z (hm.back z h')|bk ρ'=>exact λσ' H' Ha' z h'=>q σ' H' Ha' vs z (hm.back z h')|ct ρ'=>exact λσ' H' Ha' z h'=>q σ' H' Ha' vs z (hm.back z h')|rt d=>exact q.elim
noncomputable def Eo(i:Nat) (ρ:Ev) (p:D×ac):ak eD:=.ok (.nx (ρ.set i (.sh p.1)) p.2)
noncomputable def dD(i:Nat) (f:Ev->ac->ak (D×ac)):Ev->ac->ak eD:=λρ st=>(f ρ st).bind (Eo i ρ)
def cw(hN:X.N.Nodup)(hi:X.N[i]?=some x)(hx:CY X.env.scope x)(he:DM X He η a e fm)(hs:Rq e (some (.Name x pos')) pos.line X.env=pure false:=by rfl)
  (hf:X.fn x=true∨X.env.scope.names.lookup x=some .local := by first|exact .inl rfl|exact .inr rfl|assumption):SM X He η a (.Assign [.Name x pos'] e pos) (dD i fm):=by
 refine⟨?_⟩;refine bO (nG hN hi hx he.o hs hf) λD σ H z9=>?_;obtain⟨Ha,ρ,st,vs,h,q⟩:=z9;refine⟨Ha,ρ,st,vs,h,?_⟩
 unfold dD at q;cases e1:fm ρ st with
 |stuck|exn x=>rw[e1]at q;exact q
 |ok p=>
  obtain⟨d,st'⟩:=p;rw[e1]at q;exact λv H' Ha' us z h' rp=>q _ H' Ha' us z (h'.back (aG.refl _) (h'.s.put rp))
noncomputable def Ep(p:D×ac):ak eD:=.ok (.rt p.1 p.2)
noncomputable def Hi(f:Ev->ac->ak (D×ac)):Ev->ac->ak eD:=λρ st=>(f ρ st).bind Ep
def gp.out{K:P4}{st:ac}(h:gp K He η Ha σ H ρ a st vs)(z:aG Ha J)(hs:aG J H)(hw:∀b,J b≠none->Ha b=none->upd He a (.lst vs) b=none)(n:J a=none):Nv K He η J H a st :=
 ⟨⟨λb o e=>h.s.g.s _ _ (by rw[az (by intro c;subst c;rw[h.ha]at e;cases e)];exact e),h.s.g.z.trans z,hs,λb h1 h2=>by
  have key:upd He a (.lst vs) b=none:=by
   cases q:Ha b with|none=>exact hw b h1 q|some o=>exact h.s.g.nw b (by rw[q];simp) h2
  by_cases c:b=a
  .subst c;exact h.ha
  .rw[az c]at key;exact key⟩,n,vs,h.hl,h.r.mono z⟩
def Jw(he:DM X He η a e fm):SM X He η a (.Return (some e) pos) (Hi fm):=by
 refine⟨?_⟩;refine bO (vC he.o) λD σ H z9=>?_;obtain⟨Ha,ρ,st,vs,h,q⟩:=z9;refine⟨Ha,ρ,st,vs,h,?_⟩
 unfold Hi at q;cases e1:fm ρ st with
 |stuck|exn x=>rw[e1]at q;exact q
 |ok p=>
  obtain⟨d,st'⟩:=p;rw[e1]at q;exact λv H' Ha' us z h' rp=>q v H' Ha' z (h'.out (aG.refl _) h'.s.g.sub (λb h1 h2=>absurd h2 h1) h'.n0) rp
noncomputable def ff(f:Ev->ak D):Ev->ac->ak eD:=λρ st=>(f (ey ρ)).bind λd=>.ok (.rt d st)
def dP(he:DE X E e f):SM X He η a (.Return (some e) pos) (ff f):=by
 refine⟨?_⟩;refine bO (vC he.o) λD σ H z9=>?_;obtain⟨Ha,ρ,st,vs,h,q⟩:=z9;refine⟨frz (upd He a (.lst vs)) Ha H,ey ρ,h.s.frz_le,h.s.looks,?_⟩
 unfold ff at q;cases e1:f (ey ρ) with
 |stuck=>rw[e1]at q;exact q|exn x=>rw[e1]at q;exact q.elim
 |ok d=>
  rw[e1]at q;intro v H' J g rp;have hz:frz (upd He a (.lst vs)) Ha H a=none:=by unfold frz;rw[aF];exact h.n0
  have z:aG Ha J:=h.s.frz_sub.trans g.z;have n:J a=none:=by
   cases qq:J a with|none=>rfl|some o=>have:=g.nw a (by rw[qq];simp) hz;rw[h.hl]at this;cases this
  have hg:=h.s.frz_grow.trans g;refine q v H' J z ⟨⟨λb o e=>hg.s _ _ (by rw[az (by intro c;subst c;rw[h.ha]at e;cases e)];exact e),hg.z,hg.sub,λb h1 h2=>?_⟩,n,vs,g.s _ _ h.hl,h.r.mono z⟩ rp;have key:=hg.nw b h1 h2
  by_cases c:b=a
  .subst c;exact h.ha
  .rw[az c]at key;exact key
noncomputable def Hj(s t:Ev->ac->ak eD) (ρ:Ev) (p:D×ac):ak eD:=match p.1 with
 |.bl b=>if b=true then s ρ p.2 else t ρ p.2
 |_=>.stuck
noncomputable def Cm(c:Ev->ac->ak (D×ac)) (s t:Ev->ac->ak eD):Ev->ac->ak eD:=λρ st=>(c ρ st).bind (Hj s t ρ)
def oh(hc:FW X He η a c fm)(ha:Ik X He η a sa s)(hb:Ik X He η a sb t):SM X He η a (.If c sa sb pos) (Cm fm s t):=by
 refine⟨?_⟩;refine bO (ID hc.o ha.o hb.o) λD σ H z9=>?_;obtain⟨Ha,ρ,st,vs,h,q⟩:=z9;refine⟨Ha,ρ,st,vs,h,?_⟩
 unfold Cm at q;cases e1:fm ρ st with
 |stuck|exn x=>rw[e1]at q;exact q
 |ok p=>
  obtain⟨d,st'⟩:=p;rw[e1]at q;cases d with
  |bl b=>
   intro H' Ha' us z h';replace q:eE X.K He η a Ha (if b=true then s ρ st' else t ρ st') D:=q;cases b with|true=>rw[if_pos rfl]at q ⊢;exact⟨Ha',ρ,st',us,h',q.grow z⟩|false=>rw[if_neg Ru]at q ⊢;exact⟨Ha',ρ,st',us,h',q.grow z⟩
  |_=>exact q.elim
end
section
variable {X:Cx}{E:XK}{He η:Hp}{a:P9}{st:RH}{e l b:QX}{rest es:List QX}{pos:Pos}{f:Ev->ak D}{fm gm:Ev->ac->ak (D×ac)}{s t:Ev->ac->ak eD}
def CD(h:PT X e (tB (tM X.K He η a fm))):FW X He η a e fm:=by
 refine⟨?_⟩;refine gb h λσ H Q z9=>?_;obtain⟨Ha,ρ,st,vs,h,q⟩:=z9;refine⟨Ha,ρ,st,vs,h,?_⟩
 cases e1:fm ρ st with
 |stuck|exn x=>rw[e1]at q;exact q
 |ok p=>
  obtain⟨d,st'⟩:=p;rw[e1]at q;intro v H1 H01 us z h1 r1;cases d with|bl b=>rw[aL.mp r1];exact⟨b,rfl,q H1 H01 us z h1⟩| _=>exact q.elim
def HL(h:DM X He η a e fm)(he:∀whole,isTrue e X.env whole=(do let v ←whole;standAt e.pos;Sa [v] (truthy v)):=by intro _;rfl):FW X He η a e fm:=CD (DU h.o he)
def wm(h:fG X (Q5 op) r)(ho:wH X.K E r o)(ha:DM X He η a l fm)(hb:DM X He η a b gm)(hm:behindInMarks op b=false):FW X He η a (.Compare l [op] [b] pos) (mB fm gm o):=by
 refine⟨?_⟩;refine gb (AE h ha.o hb.o hm) λσ H Q h=>?_;have w:tM X.K He η a (mB fm gm o) σ H λx H'=>∃k,x=.bl k/\Q k H':=by
  obtain⟨Ha,ρ,st,vs,h,q⟩:=h;refine⟨Ha,ρ,st,vs,h,?_⟩;cases e1:mB fm gm o ρ st with
  |stuck|exn x=>rw[e1]at q;exact q
  |ok p=>
   obtain⟨d,st'⟩:=p;rw[e1]at q;intro v H1 H01 us z h1 r1;cases d with|bl b=>rw[aL.mp r1];exact⟨b,rfl,q H1 H01 us z h1⟩| _=>exact q.elim
 exact i4 ho σ H _ w
noncomputable def mT(f:Ev->ak D):Ev->ac->ak (D×ac):=λρ st=>(f (ey ρ)).bind λd=>.ok (d,st)
def mU(h:DT X E e f):FW X He η a e (mT f):=⟨gb h.o λσ H Q ⟨Ha,ρ,st,vs,h,q⟩=>⟨frz (upd He a (.lst vs)) Ha H,ey ρ,h.s.frz_le,h.s.looks,by
 unfold mT at q;cases e1:f (ey ρ) with
 |stuck=>rw[e1]at q;exact q|exn x=>rw[e1]at q;exact q.elim
 |ok d=>
  rw[e1]at q;cases d with
  |bl b=>exact λH' J g=>q H' Ha vs (aG.refl _) (h.back (aG.refl _) (h.s.same g.s))
  |_=>exact q.elim⟩⟩
noncomputable def NH(i:Nat) (a:P9) (f:Ev->ak D):Ev->ac->ak (D×ac):=λρ st=>if jJ ρ[i]? a=true then(f (vw i ρ st)).bind λd=>.ok (d,st) else .stuck
def Fo(h:DT X E e f):FW X He η a e (NH i a f):=⟨gb h.o λσ H Q z9=>by
 obtain⟨Ha,ρ,st,vs,h,q⟩:=z9;unfold NH at q
 by_cases hp:jJ ρ[i]? a=true
 .rw[if_pos hp]at q
  obtain⟨v1,v2,v3⟩:=h.view hp;refine⟨_,vw i ρ st,v1,v3,?_⟩;cases e1:f (vw i ρ st) with
  |stuck=>rw[e1]at q;exact q|exn x=>rw[e1]at q;exact q.elim
  |ok d=>
   rw[e1]at q;cases d with|bl b=>exact λH' J g=>q H' Ha vs (aG.refl _) (h.back (aG.refl _) (h.s.same g.s))| _=>exact q.elim
 .rw[if_neg hp]at q;exact q.elim⟩
structure LJ (X:Cx) (He η:Hp) (a:P9) (e:QX) (f:Ev->ac->ak (D×ac)):Prop where
 o:PW X e (OV X.K He η a f)
noncomputable def AW(g:Ev->ac->ak (D×ac)) (ρ:Ev) (p:D×ac):ak (D×ac):=match p.1 with
 |.bl b=>if b=true then g ρ p.2 else .ok (.bl false,p.2)
 |_=>.stuck
noncomputable def Et(f g:Ev->ac->ak (D×ac)):Ev->ac->ak (D×ac):=λρ st=>(f ρ st).bind (AW g ρ)
def HJ(ha:FW X He η a l fm):LJ X He η a (.BoolOp .And [l] pos) fm:=⟨AB ha.o⟩
def HK(ha:FW X He η a l fm)(hb:LJ X He η a (.BoolOp .And (b::rest) pos) gm):LJ X He η a (.BoolOp .And (l::b::rest) pos) (Et fm gm):=by
 refine⟨?_⟩;refine vB (DQ ha.o hb.o) λσ H Q z9=>?_;obtain⟨Ha,ρ,st,vs,h,q⟩:=z9;refine⟨Ha,ρ,st,vs,h,?_⟩
 unfold Et at q;cases e1:fm ρ st with
 |stuck|exn x=>rw[e1]at q;exact q
 |ok p=>
  obtain⟨d,st'⟩:=p;rw[e1]at q;cases d with
  |bl c=>
   intro H1 H01 us z h1;cases c with
   |true=>
    rw[if_pos rfl];refine⟨H01,ρ,st',us,h1,?_⟩;replace q:match gm ρ st' with
     |.ok (.bl b,st')=>∀H' Ha' us,aG Ha Ha'->gp X.K He η Ha' σ H' ρ a st' us->Q b H'
     |.ok _=>False
     |.exn _=>False
     |.stuck=>False:=q
    cases e2:gm ρ st' with
    |stuck|exn x=>rw[e2]at q;exact q
    |ok p2=>
     obtain⟨d2,s2⟩:=p2;rw[e2]at q;cases d2 with|bl c2=>exact λH2 H02 us2 z2 h2=>q H2 H02 us2 (z.trans z2) h2| _=>exact q.elim
   |false=>rw[if_neg Ru];exact q H1 H01 us z h1
  |_=>exact q.elim
noncomputable def forM(tg:Ev->D->ak Ev) (body:Ev->ac->ak eD):ac->Ev->ac->ak eD
 |[],ρ,st=>.ok (.nx ρ st)
 |d::r,ρ,st=>(tg ρ d).bind λρ1=>(body ρ1 st).bind λx=>match x with
  |.nx ρ2 s2=>forM tg body r ρ2 s2
  |.ct ρ2 s2=>forM tg body r ρ2 s2
  |.bk ρ2 s2=>.ok (.nx ρ2 s2)
  |.rt d s=>.ok (.rt d s)
noncomputable def Oa(K:P4) (He η:Hp) (a:P9) (tg:Ev->D->ak Ev):TG:=λv σ H Q=>∃Ha ρ st vs d,gp K He η Ha σ H ρ a st vs/\Rep K Ha d v/\match tg ρ d with
  |.ok ρ'=>∀σ' H' Ha',aG Ha Ha'->gp K He η Ha' σ' H' ρ' a st vs->Q σ' H'
  |_=>False
def Mp(hg:∀vs,DG X E (upd He a (.lst vs)) η tgt tg):PG X tgt (Oa X.K He η a tg):=by
 rintro π sh σ H v u Q I r ⟨Ha,ρ,st,vs,d,h,rp,q⟩;refine(hg vs).o π sh σ H v u Q I r ⟨Ha,ρ,d,h.s,rp,?_⟩;cases e1:tg ρ d with
 |stuck|exn x=>rw[e1]at q;exact q
 |ok ρ'=>
  rw[e1]at q;exact λσ' H' Ha' z h'=>q σ' H' Ha' z (h.back z h')
noncomputable def nj(K:P4) (He η:Hp) (a:P9) (Hb:Hp) (tg:Ev->D->ak Ev) (s:Ev->ac->ak eD) (ds:ac) (D':j9) (i:Nat) (σ:L2.St) (H:Hp):Prop :=
 ∃Ha ρ st vs,aG Hb Ha/\gp K He η Ha σ H ρ a st vs/\eE K He η a Ha (forM tg s (ds.drop i) ρ st) D'
def nj.done{K:P4}(h:nj K He η a Hb tg s ds D' ds.length σ H):D'.nx σ H:=by
 obtain⟨Ha,ρ,st,vs,z,h,q⟩:=h;rw[Sr]at q;unfold forM at q;exact q σ H Ha vs (aG.refl _) h
end
section
variable {X:Cx}{E:XK}{He η:Hp}{a:P9}{st:RH}{e l b:QX}{rest es:List QX}{pos:Pos}{f:Ev->ak D}{fm gm:Ev->ac->ak (D×ac)}{fa:Ev->ac->ak (ac×ac)}{s t:Ev->ac->ak eD}
noncomputable def uI(i:Nat) (ρ:Ev) (ds:ac) (p:D×ac):ak eD:=if ds.length<line then .ok (.nx (ρ.set i (.ow (.lst (ds++[p.1])))) p.2) else .stuck
noncomputable def zg(s:Option Sl) (k:ac->ak eD):ak eD:=match s with
 |some (.ow (.lst ds))=>k ds
 |_=>.stuck
noncomputable def vR(i:Nat) (f:Ev->ac->ak (D×ac)):Ev->ac->ak eD:=λρ st=>zg ρ[i]? λds=>(f ρ st).bind (uI i ρ ds)
def nA(hN:X.N[i]?=some x)(hv:yK X.env.scope x)(he:DM X He η a e fm)
  (hd:(x==("__debug__" : Qu))=false:=by decide)(hcd:(x==("__classdict__" : Qu))=false:=by decide)
  (hbase:Sz (.Name x p1) "append" X.env (eval (.Name x p1) X.env)=eval (.Name x p1) X.env:=by rfl)
  (hfew:((Rg p3 (Qb [e] X.env)).all (λx=>!x.1)&&(TJ p3 (Sj [] X.env)).all (λx=>x.1.isSome)
  &&decide ([e].length+([]:List Te).length+(if([]:List Te).isEmpty then 0 else 1)<30))=true:=by exact lP rfl)
  (hline:(p2.endLine==p3.line)=true:=by rfl) (hs:Qb [e] X.env=(false,eval e X.env)::Qb [] X.env:=by exact aW rfl) (hplain:(Rg p3 (Qb [] X.env)).any (·.1)=false:=by exact bH rfl)
  (hw:Rq (.Call (.Attribute (.Name x p1) "append" p2) [e] [] p3) none pos.line X.env=pure false:=by rfl) :
  SM X He η a (.Expr (.Call (.Attribute (.Name x p1) "append" p2) [e] [] p3) pos) (vR i fm):=by
 refine⟨?_⟩;refine bO (pH (AJ SK UW UU nL (fS hN hv hd hcd) (dQ he.o gH hs) hbase hfew hline hs hplain) hw) λD σ H ⟨Ha,ρ,st,vs,h,q⟩=>?_;unfold vR zg at q;cases e0:ρ[i]? with
 |none=>rw[e0]at q;exact q.elim
 |some sl=>
  rw[e0]at q;cases sl with
  |ow d=>
   cases d with
   |lst ds=>
    obtain⟨p,k1,k2,k3,ws,k4,k5⟩:=h.s.ow i _ e0;refine⟨.ref p,k1,.inl ⟨rfl,ws,fk.of k4⟩,?_⟩;refine⟨Ha,ρ,st,vs,h,?_⟩;replace q:eE X.K He η a Ha ((fm ρ st).bind (uI i ρ ds)) D:=q;cases e1:fm ρ st with
    |stuck|exn x=>rw[e1]at q;exact q
    |ok pr=>
     obtain⟨d,st'⟩:=pr;rw[e1]at q;intro v H' Ha' us z h' rp;obtain⟨p',k1',k2',k3',ws',k4',k5'⟩:=h'.s.ow i _ e0;rw[k1]at k1';cases k1';replace q:eE X.K He η a Ha (uI i ρ ds (d,st')) D:=q;unfold uI at q
     by_cases hl:ds.length<line
     .rw[if_pos hl]at q
      refine⟨p,ws',v,rfl,rfl,k4',by rw[←k5'.length];exact Qk hl (by decide),?_⟩;have hpa:p≠a:=by intro c;subst c;rw[aF]at k2';cases k2'
      exact q σ _ Ha' us z ⟨h'.ha,h'.h0,by rw[az (Q2 hpa)];exact h'.hl,h'.r,h'.s.write e0 k1 (k5'.app (Reps.cons rp Reps.nil))⟩
     .rw[if_neg hl]at q;exact q.elim
   |_=>exact q.elim
  |_=>exact q.elim
noncomputable def lB(ρ:Ev) (d:D) (p:D×ac):ak eD:=match p.1 with
 |.int j=>match uK p.2.length j with
  |some n=>.ok (.nx ρ (p.2.set n d))
  |none=>.stuck
 |_=>.stuck
noncomputable def xJ(i:Nat) (a:P9) (f k:Ev->ac->ak (D×ac)):Ev->ac->ak eD:=λρ st=>if jJ ρ[i]? a=true then(f ρ st).bind λp=>(k ρ p.2).bind (lB ρ p.1) else .stuck
def A5{s:Option Sl}(h:jJ s a=true):s=some (.pt a):=by
 unfold jJ at h;split at h
 .rw[eq_of_beq h]
 .cases h
def yV(hN:X.N[i]?=some x)(hv:yK X.env.scope x)(he:DM X He η a e fm)(hk:DM X He η a b gm)
  (hd:(x==("__debug__" : Qu))=false:=by decide)(hcd:(x==("__classdict__" : Qu))=false:=by decide)
  (ha:∀v,assign (.Subscript (.Name x p1) b p2) X.env v=(do
   let ov ←Sa [v] (eval (.Name x p1) X.env)
   let iv ←Sa [v,ov] (eval b X.env)
   standAt p2
   Sa [v,ov,iv] (setItem ov iv v)
   release [v,ov,iv] []):=by intro _;rfl)
  (hs:swapsWithSole [.Subscript (.Name x p1) b p2] e pos.line X.env=pure false:=by rfl) (hw:swappedStores [.Subscript (.Name x p1) b p2] e X.env=pure none:=by rfl)
  (h1:(assignEach [.Subscript (.Name x p1) b p2] X.env).map (·.2)=[assign (.Subscript (.Name x p1) b p2) X.env]:=by rfl) :
  SM X He η a (.Assign [.Subscript (.Name x p1) b p2] e pos) (xJ i a fm gm):=by
 refine⟨?_⟩;refine bO (vE he.o (zd (fS hN hv hd hcd) hk.o qr ha) hs hw h1) λD σ H z9=>?_;obtain⟨Ha,ρ,st,vs,h,q⟩:=z9;refine⟨Ha,ρ,st,vs,h,?_⟩
 unfold xJ at q
 by_cases hp:jJ ρ[i]? a=true
 .rw[if_pos hp]at q
  have hσ:=h.s.ex.2 i a (A5 hp);cases e1:fm ρ st with
  |stuck|exn x=>rw[e1]at q;exact q
  |ok pr=>
   obtain⟨d,s1⟩:=pr;rw[e1]at q;intro v H1 H01 us1 z1 h1' r1;refine⟨.ref a,hσ,H01,ρ,s1,us1,h1',?_⟩;replace q:eE X.K He η a Ha ((gm ρ s1).bind (lB ρ d)) D:=q;cases e2:gm ρ s1 with
   |stuck|exn x=>rw[e2]at q;exact q
   |ok pr2=>
    obtain⟨j,s2⟩:=pr2;rw[e2]at q;intro u H2 H02 us2 z2 h2 r2;replace q:eE X.K He η a Ha (lB ρ d (j,s2)) D:=q;unfold lB at q;cases j with
    |int n=>
     cases en:uK s2.length n with
     |none=>simp only[en]at q;exact q.elim
     |some m=>
      simp only[en]at q;refine⟨a,us2,n,m,rfl,aB.mp r2,h2.hl,by rw[←h2.r.length];exact en,?_⟩;refine q σ _ H02 (us2.set m v) (z1.trans z2) (h2.change (H':=upd H2 a (.lst (us2.set m v))) ⟨λb o e=>?_,aG.refl _,λb o e=>?_,λb k1 k2=>absurd k2 k1⟩ h2.n0 aF (h2.r.set (r1.mono z2) m))
      .have c:b≠a:=by intro c;subst c;rw[dJ]at e;cases e
       rw[az c];rw[fT c]at e;exact e
      .have c:b≠a:=by intro c;subst c;rw[h2.n0]at e;cases e
       rw[az c];exact h2.s.g.sub _ _ e
    |_=>exact q.elim
 .rw[if_neg hp]at q;exact q.elim
variable {CX:yM}{k n:Nat}{fn:P9}{fd:Rx}{ps:al}{x:Qu}{p:Pos}
def HP(F:FnOk X.prog X.w X.K X.mg X.base CX k fn fd ps (spD X.K n m))(hr:cK k X.A)(hg:Gl X x)(hm:X.mg x=some (.ref fn))
  (hk:SN X.K (.ref fn)=true)(hb:il X.K fd ps [])(hx:fX CX X E)(ha:Io X He η a (e::es) fa)(hn:(e::es).length=n:=by rfl)(hl:∀ρ st ds,fa ρ st=.ok ds->ds.1.length=(e::es).length)
  (hdb:(x==("__debug__" : Qu))=false:=by decide)(he:Qb (e::es) X.env=(false,eval e X.env)::Qb es X.env:=by exact aW rfl)(hpl:(Rg pos (Qb es X.env)).any (·.1)=false:=by exact bH rfl) :
  DM X He η a (.Call (.Name x p) (e::es) [] pos) (mA fa m):=by
 refine⟨?_⟩;refine bg (pI F hr hg hm hk hb .nil hx ha.o hdb he hpl) λσ H Q z9=>?_;obtain⟨Ha,ρ,st,vs,h,q⟩:=z9;refine⟨Ha,ρ,st,vs,h,?_⟩
 unfold mA at q;cases e1:fa ρ st with
 |stuck|exn x=>rw[e1]at q;exact q
 |ok pr=>
  obtain⟨ds,s1⟩:=pr;rw[e1]at q;intro xs H1 H01 us z1 h1 r1;refine⟨?_,H01,ds,h1.s.g.sub,by simpa using r1,?_⟩
  .have:=r1.length
   have:=hl ρ st _ e1;simp only[QN]at *;omega
  .simp only[ak.bind]at q
   cases e2:m ds with
   |stuck=>rw[e2]at q;exact q|exn x=>rw[e2]at q;exact q.elim
   |ok d=>
    rw[e2]at q;exact λv' H' Ha' g rp=>q v' H' Ha' us (z1.trans g.z) (h1.back g.z (h1.s.grow g)) rp
noncomputable def B4(K:P4) (n:Nat) (m:P9->ac->ac->ak (D×ac)):Sp:=λvs H Q E=>vs.length=n+1/\∃Ha ds a st us0 vs0,vs=.ref a::vs0/\aG Ha H/\Reps K Ha ds vs0/\Ha a=none/\H a=some (.lst us0)/\Reps K Ha st us0/\match m a st ds with
 |.ok (d,st')=>∀v H' Ha' us,bw (Cz a H) Ha H' Ha'->Ha' a=none->H' a=some (.lst us)->Reps K Ha' st' us->Rep K Ha' d v->Q v H'
 |.exn _=>False
 |.stuck=>False
noncomputable def zW(a:P9) (m:P9->ac->ac->ak (D×ac)) (p:ac×ac):ak (D×ac):=m a p.2 p.1
noncomputable def bD(i:Nat) (a:P9) (fa:Ev->ac->ak (ac×ac)) (m:P9->ac->ac->ak (D×ac)):Ev->ac->ak (D×ac):=λρ st=>if jJ ρ[i]? a=true then(fa ρ st).bind (zW a m) else .stuck
def Fs(F:FnOk X.prog X.w X.K X.mg X.base CX k fn fd ps (B4 X.K n m))(hr:cK k X.A)(hg:Gl X x)(hm:X.mg x=some (.ref fn))
  (hk:SN X.K (.ref fn)=true)(hb:il X.K fd ps [])(hx:fX CX X E)(hN:X.N[i]?=some y)(hv:yK X.env.scope y)(ha:Io X He η a es fa)(hl:∀ρ st ds,fa ρ st=.ok ds->ds.1.length=n)
  (hd:(y==("__debug__" : Qu))=false:=by decide)(hcd:(y==("__classdict__" : Qu))=false:=by decide)(hdb:(x==("__debug__" : Qu))=false:=by decide)(he:Qb (.Name y p1::es) X.env=(false,eval (.Name y p1) X.env)::Qb es X.env:=by exact aW rfl)(hpl:(Rg pos (Qb es X.env)).any (·.1)=false:=by exact bH rfl) :
  DM X He η a (.Call (.Name x p) (.Name y p1::es) [] pos) (bD i a fa m):=by
 refine⟨?_⟩;refine bg (pI F hr hg hm hk hb .nil hx (dQ (fS hN hv hd hcd) ha.o he) hdb he hpl) λσ H Q ⟨Ha,ρ,st,vs,h,q⟩=>?_;unfold bD at q
 by_cases hp:jJ ρ[i]? a=true
 .rw[if_pos hp]at q
  have hσ:=h.s.ex.2 i a (A5 hp);refine⟨.ref a,hσ,Ha,ρ,st,vs,h,?_⟩;cases e1:fa ρ st with
  |stuck|exn x=>rw[e1]at q;exact q
  |ok pr=>
   obtain⟨ds,s1⟩:=pr;rw[e1]at q;intro xs H1 H01 us z1 h1 r1;refine⟨?_,H01,ds,a,s1,us,xs,by simp,h1.s.g.sub,r1,h1.n0,h1.hl,h1.r,?_⟩
   .have:=r1.length
    have:=hl ρ st _ e1;simp only[QN,QE]at *;omega
   .replace q:match m a s1 ds with
     |.ok (d,st')=>∀v H' Ha' us,aG Ha Ha'->gp X.K He η Ha' σ H' ρ a st' us->Rep X.K Ha' d v->Q v H'
     |.exn _=>False
     |.stuck=>False:=q
    cases e2:m a s1 ds with
    |stuck|exn x=>rw[e2]at q;exact q
    |ok pr2=>
     obtain⟨d,s2⟩:=pr2;rw[e2]at q;exact λv H' Ha' us' g n' hl' r' rp=>q v H' Ha' us' (z1.trans g.z) (h1.change g n' hl' r') rp
 .rw[if_neg hp]at q;exact q.elim
end
noncomputable def Dv(r:eD):ak (D×ac):=match r with
 |.nx _ st=>.ok (.non,st)
 |.rt d st=>.ok (d,st)
 |_=>.stuck
noncomputable def nE(n:Nat) (s:P9->Ev->ac->ak eD) (a:P9) (st ds:ac):ak (D×ac):=(s a (.pt a::ds.map Sl.sh++QG (n-(ds.length+1)) .no) st).bind Dv
def zG{K:P4}{st:RH}{N ps:al}(F:CZ K x qual st f fd)(S:eY N ps (defScope st))(hn:ps.length=n+1)
  (hbody:∀(cdv:P2) (A:Q0) (outer:List Rv) (s0:Qj) (H He Ha:Hp) (a:P9) (E:XK),cK k (A.deeper (envOfC qual (defScope st) s0.heap.objs.size f cdv)) ->
   Ik (eZ CX0 P w K mg base N qual (defScope st) f cdv A outer s0 H E).nox He Ha a (defBody st) (s a)):FnOk P w K mg base CX0 (k+1) f fd ps (B4 K n (nE N.length s)):=by
 have hpl:ps.length<=N.length:=by have:=congrArg Tv S.pre;rw[Rc]at this;omega
 refine F.ok S (λvs H Q E h=>h.1.trans hn.symm) λcdv A outer s0 H vs Q E hr h=>?_;obtain⟨hlen,Ha,ds,a,sl,us0,vs0,rfl,hs,hv,h0,hl,hst,q⟩:=h;have lv:=hv.length;have hσ:start N (.ref a::vs0)=some (.ref a)::(vs0.map some++QG (N.length-(vs0.length+1)) none):=by
  unfold L2.start;simp
 have hρ0:∀(i:Nat) (z:Sl),(Sl.pt a::ds.map Sl.sh++QG (N.length-(ds.length+1)) Sl.no)[i]?=some z->z=.no∨(i=0/\z=.pt a)∨∃j d,i=j+1/\ds[j]?=some d/\z=.sh d:=λi z e=>by
  cases i with
  |zero=>simp at e;exact .inr (.inl ⟨rfl,e.symm⟩)
  |succ j=>
   rw[R8,Q8]at e
   by_cases hj:j<ds.length
   .rw[Qo (by simpa using hj),Qg,P5 hj]at e
    cases e;exact .inr (.inr ⟨j,ds[j],rfl,P5 hj,rfl⟩)
   .rw[Qw (by simpa using hj),QD]at e
    split at e
    .cases e;exact .inl rfl
    .cases e
 refine⟨_,(hbody cdv A outer s0 H (Cz a H) Ha a E hr).o,Ha,.pt a::ds.map Sl.sh++QG (N.length-(ds.length+1)) .no,sl,us0,⟨dJ,h0,hl,hst,?_⟩,?_⟩
 .refine⟨⟨λb o e=>?_,aG.refl _,hs,λb h1 h2=>absurd h2 h1⟩,λi d e=>?_,λi d e=>?_,λi j d d' hij e=>?_,?_,⟨λi j es e=>?_,λi b e=>?_⟩⟩
  .by_cases c:b=a
   .subst c;rw[aF]at e;cases e;exact hl
   .rw[az c,fT c]at e;exact e
  .rcases hρ0 i _ e with h|⟨_,h⟩|⟨j,d',rfl,hd,h⟩
   .cases h
   .cases h
   .cases h
    obtain⟨v,h1,h2⟩:=hv.get hd;refine⟨v,?_,h2⟩;rw[hσ,Q8,Qo (by rw[P7];exact(Qa.mp h1).1),Qg,h1];rfl
  .rcases hρ0 i _ e with h|⟨_,h⟩|⟨j,d',rfl,hd,h⟩<;>cases h
  .rcases hρ0 i _ e with h|⟨_,h⟩|⟨j,d',rfl,hd,h⟩<;>cases h
  .rw[hσ]
   simp only[QE,Qz,P7,Q7];omega
  .rcases hρ0 i _ e with h|⟨_,h⟩|⟨j,d',rfl,hd,h⟩<;>cases h
  .rcases hρ0 i _ e with h|⟨rfl,h⟩|⟨j,d',rfl,hd,h⟩
   .cases h
   .cases h;rw[hσ];rfl
   .cases h
 .unfold nE at q
  cases e1:s a (.pt a::ds.map Sl.sh++QG (N.length-(ds.length+1)) .no) sl with
  |stuck|exn x=>rw[e1]at q;exact q
  |ok r=>
   rw[e1]at q;cases r with
   |nx ρ' st'=>exact λσ' H' Ha' us z h'=>q .non H' Ha' us ⟨λb o e=>h'.s.g.s _ _ (by rw[az (by intro c;subst c;rw[dJ]at e;cases e)];exact e),h'.s.g.z,h'.s.g.sub,λb h1 h2=>by
      have:=h'.s.g.nw b h1 h2
      by_cases c:b=a
      .subst c;exact dJ
      .rw[az c]at this;exact this⟩ h'.n0 h'.hl h'.r (aR.mpr rfl)
   |rt d st'=>exact λv H' Ha' z o rp=>let ⟨us,l1,l2⟩:=o.l;q v H' Ha' us o.g o.n l1 l2 rp
   |bk ρ' st'|ct ρ' st'=>exact q.elim
section
variable {K:P4}{He η Ha H:Hp}{σ:L2.St}{ρ:Ev}
def eX.enter(h:eX K He η Ha σ H ρ)(hi:i<ρ.length)(he:He p=none)(h0:Ha p=none)(hl:H p=some (.lst vs))(r:Reps K Ha ds vs)
  (ho:∀(j:Nat) (d:D) (q:P9),ρ[j]?=some (.ow d)->σ[j]?=some (some (.ref q))->q≠p)(hx:∀(j k:Nat) (es:ac),ρ[j]?≠some (.ox k es)):gp K He η Ha (σ.set i (some (.ref p))) H (ρ.set i (.pt p)) p ds vs:=by
 have key:∀(j:Nat) (s:Sl),(ρ.set i (.pt p))[j]?=some s->(j=i/\s=.pt p)∨(j≠i/\ρ[j]?=some s):=λj s e=>by
  by_cases hj:i=j
  .subst hj;rw[QU hi]at e;cases e;exact .inl ⟨rfl,rfl⟩
  .rw[Qm hj]at e;exact .inr ⟨λz=>hj z.symm,e⟩
 have h0e:η p=none:=h.g.z.free h0;refine⟨he,h0e,hl,r,⟨⟨λb o e=>?_,h.g.z,h.g.sub,λb h1 h2=>?_⟩,λj d e=>?_,λj d e=>?_,λj k d d' hn e1 e2=>?_,by simp[h.ln],⟨λj k es e=>?_,λj b e=>?_⟩⟩⟩
 .by_cases c:b=p
  .subst c;rw[aF]at e;cases e;exact hl
  .rw[az c]at e;exact h.g.s _ _ e
 .have c:b≠p:=by intro c;subst c;exact h1 h0
  rw[az c];exact h.g.nw b h1 h2
 .rcases key j _ e with⟨_,e'⟩|⟨hj,e'⟩
  .cases e'
  .obtain⟨v,h1,h2⟩:=h.rd j d e'
   exact⟨v,by rw[Qm (Q2 hj)];exact h1,h2⟩
 .rcases key j _ e with⟨_,e'⟩|⟨hj,e'⟩
  .cases e'
  .obtain⟨q,h1,h2,h3,h4⟩:=h.ow j d e'
   exact⟨q,by rw[Qm (Q2 hj)];exact h1,by rw[az (ho j d q e' h1)];exact h2,h3,h4⟩
 .rcases key j _ e1 with⟨_,e'⟩|⟨hj,e1'⟩
  .cases e'
  rcases key k _ e2 with⟨_,e'⟩|⟨hk,e2'⟩
  .cases e'
  rw[Qm (Q2 hj),Qm (Q2 hk)];exact h.ap j k d d' hn e1' e2'
 .rcases key j _ e with⟨_,e'⟩|⟨hj,e'⟩
  .cases e'
  .exact absurd e' (hx j k es)
 .rcases key j _ e with⟨rfl,e'⟩|⟨hj,e'⟩
  .cases e'
   rw[QU (by rw[←h.ln];exact hi)]
  .rw[Qm (Q2 hj)];exact h.ex.2 j b e'
noncomputable def wx(i:Nat) (ρ:Ev):Ev:=ρ.take i++QG (ρ.length-i) .no
def FA:(wx i ρ).length=ρ.length:=by
 unfold wx;rw[Qz,Rc,Q7];omega
def HZ{j:Nat}(e:(wx i ρ)[j]?=some s):s=.no∨ρ[j]?=some s:=by
 unfold wx at e
 by_cases hj:j<(ρ.take i).length
 .rw[Qo hj]at e
  rw[List.getElem?_take]at e;split at e
  .exact .inr e
  .cases e
 .rw[Qw (by omega),QD]at e
  split at e
  .cases e;exact .inl rfl
  .cases e
def gp.leave{st:ac}(h:gp K He η Ha σ H ρ a st vs)(i:Nat):eX K He η Ha σ H (wx i ρ):=by
 have hn:∀b,upd He a (.lst vs) b=none->He b=none:=λb e=>by
  by_cases c:b=a
  .subst c;exact h.ha
  .rw[az c]at e;exact e
 have key:∀(j:Nat) (s:Sl),(wx i ρ)[j]?=some s->s=.no∨ρ[j]?=some s:=λj s e=>HZ e;refine⟨⟨λb o e=>h.s.g.s _ _ (by rw[az (by intro c;subst c;rw[h.ha]at e;cases e)];exact e),h.s.g.z,h.s.g.sub,λb h1 h2=>hn b (h.s.g.nw b h1 h2)⟩,λj d e=>?_,λj d e=>?_,λj k d d' hij e1 e2=>?_,by rw[FA];exact h.s.ln,(h.s.ex.he hn).upd (λj s e=>?_) (aG.refl _) (λ_ _ _ e=>e) λp us _ q0 hq _=>⟨hq,q0⟩⟩
 .rcases key j _ e with h'|h'
  .cases h'
  .exact h.s.rd j d h'
 .rcases key j _ e with h'|h'
  .cases h'
  .obtain⟨q,h1,h2,h3⟩:=h.s.ow j d h'
   exact⟨q,h1,hn q h2,h3⟩
 .rcases key j _ e1 with h'|h'
  .cases h'
  rcases key k _ e2 with h''|h''
  .cases h''
  exact h.s.ap j k d d' hij h' h''
 .rcases key j _ e with h'|h'
  .exact .inr (.inr (.inl h'))
  .exact .inl ⟨h',rfl⟩
end
open Classical in
noncomputable def zA(F:P9->ak Fl):ak Fl:=if h:∃r,∀a,F a=r then h.choose else .stuck
def Hl(h:∀a,F a=r):zA F=r:=by
 have hx:∃r,∀a,F a=r:=⟨r,h⟩
 unfold zA;rw[dif_pos hx];exact(hx.choose_spec 0).symm.trans (h 0)
def Hk(h:zA F≠.stuck)(a:P9):F a=zA F:=by
 unfold zA at h ⊢
 by_cases hx:∃r,∀a,F a=r
 .rw[dif_pos hx];exact hx.choose_spec a
 .rw[dif_neg hx]at h;exact absurd rfl h
noncomputable def Bi(i:Nat) (r:ak eD):ak Fl:=match r with
 |.ok (.nx ρ _)=>.ok (.nx (wx i ρ))
 |.ok (.rt d _)=>.ok (.rt d)
 |.ok (.bk ρ _)=>.ok (.bk (wx i ρ))
 |.ok (.ct ρ _)=>.ok (.ct (wx i ρ))
 |_=>.stuck
noncomputable def MA(ρ:Ev):Bool:=ρ.all λs=>match s with
 |.ox _ _=>false
 |_=>true
noncomputable def wc(i:Nat) (s:P9->Ev->ac->ak eD) (ρ:Ev) (d:D):ak Fl:=match d with
 |.lst ds=>if MA ρ=true/\i<ρ.length then zA λa=>Bi i (s a (ρ.set i (.pt a)) ds) else .stuck
 |_=>.stuck
noncomputable def kR(i:Nat) (f:Ev->ak D) (s:P9->Ev->ac->ak eD):Ev->ak Fl:=λρ=>(f ρ).bind (wc i s ρ)
section
variable {X:Cx}{E:XK}{He η:Hp}{st:RH}{rest:List RH}{e:QX}{es:List QX}{pos:Pos}{f:Ev->ak D}{s:P9->Ev->ac->ak eD}
def CB(hN:X.N.Nodup)(hi:X.N[i]?=some x)(hx:CY X.env.scope x)(he:DF X E e f)(hr:∀a,Ik X He η a rest (s a))(hs:Rq e (some (.Name x pos')) pos.line X.env=pure false:=by rfl)
  (hf:X.fn x=true∨X.env.scope.names.lookup x=some .local := by first|exact .inl rfl|exact .inr rfl|assumption):Ae X E He η (.Assign [.Name x pos'] e pos::rest) (kR i f s):=by
 refine⟨?_⟩;have h2:vn X rest λG σ H=>∃p,NF X.K He η p (s p) G σ H:=λπ sh σ H G I ⟨p,h⟩=>(hr p).o π sh σ H G I h;refine eH (gG (nG hN hi hx he.o hs hf) h2) λG σ H z9=>?_;obtain⟨Ha,ρ,h,q⟩:=z9;refine⟨Ha,ρ,h.g.sub,h.rd,?_⟩
 unfold kR at q;cases e1:f ρ with
 |stuck=>rw[e1]at q;exact q|exn x=>rw[e1]at q;exact λC ox H' Ha' g ex=>q C ox H' Ha' (h.g.trans g) ex
 |ok d=>
  rw[e1]at q;replace q:b8 X.K E He η Ha (wc i s ρ d) G:=q;unfold wc at q;cases d with
  |lst ds=>
   simp only at q
   by_cases hc:MA ρ=true/\i<ρ.length
   .rw[if_pos hc]at q
    intro p vs H' Ha' g hp h0 hv rp;have hg:=h.grow g;have hnx:∀(j k:Nat) (es:ac),ρ[j]?≠some (.ox k es):=λj k es e=>by
     have:=QF.mp hc.1 _ (Qh e);cases this
    have hm:=hg.enter (i:=i) (p:=p) (ds:=ds) (vs:=vs) hc.2 (h.g.s.free hp) h0 hv rp (λj d q' ej es'=>by
     obtain⟨q2,k1,_,_,k4⟩:=h.ow j d ej;rw[es']at k1;cases k1;cases d with
     |lst ds'|dic ks' ds'=>obtain⟨ws,k5,_⟩:=k4;intro c;subst c;rw[hp]at k5;cases k5
     |_=>exact k4.elim) hnx
    have hns:zA (λa=>Bi i (s a (ρ.set i (.pt a)) ds))≠.stuck:=λz=>by rw[z]at q;exact q
    have hF:=Hk hns p;rw[←hF]at q;refine⟨p,Ha',_,ds,vs,hm,?_⟩;replace q:=b8.grow q g.z;unfold Bi at q;cases e2:s p (ρ.set i (.pt p)) ds with
    |stuck=>rw[e2]at q;exact q|exn x=>rw[e2]at q;exact q.elim
    |ok r=>
     rw[e2]at q;cases r with|nx ρ' st'=>exact λσ' H2 H02 us z h'=>q σ' H2 H02 z (h'.leave i)|rt d st'=>exact λv H2 H02 z o rp=>q v H2 H02 o.g rp|bk ρ' st'=>exact λσ' H2 H02 us z h'=>q σ' H2 H02 z (h'.leave i)|ct ρ' st'=>exact λσ' H2 H02 us z h'=>q σ' H2 H02 z (h'.leave i)
   .rw[if_neg hc]at q;exact q.elim
  |_=>exact q.elim
end
noncomputable def Pu(K:P4) (He η:Hp) (a:P9) (src:Ev->ac->ak (ac×ac)):TI:=λσ H R=>∃Ha ρ st vs,gp K He η Ha σ H ρ a st vs/\match src ρ st with
 |.ok (ds,st')=>∀J H' Ha' us,aG Ha Ha'->gp K He η Ha' σ H' ρ a st' us->Lk K ds J Ha'->R J H'
 |.exn _=>False
 |.stuck=>False
structure MI (X:Cx) (He η:Hp) (a:P9) (tg iter:QX) (src:Ev->ac->ak (ac×ac)):Prop where
 o:PI X tg iter (Pu X.K He η a src)
noncomputable def Ck(src:Ev->ak (ac)):Ev->ac->ak (ac×ac):=λρ st=>(src ρ).bind λds=>.ok (ds,st)
noncomputable def qV(p:D×ac):ak (ac×ac):=match p.1 with
 |.int j=>if -4611686018427387904<=j/\j<4611686018427387904 then .ok (intsFrom 0 j.toNat,p.2) else .stuck
 |_=>.stuck
noncomputable def xI(f:Ev->ac->ak (D×ac)):Ev->ac->ak (ac×ac):=λρ st=>(f ρ st).bind qV
section
variable {X:Cx}{E:XK}{He η:Hp}{a:P9}{st:RH}{e l b tgt iter:QX}{rest es:List QX}{pos:Pos}{f:Ev->ak D}{fm gm:Ev->ac->ak (D×ac)}{fa:Ev->ac->ak (ac×ac)}{s t:Ev->ac->ak eD}
def vQ(h:DI X E tgt iter src):MI X He η a tgt iter (Ck src):=⟨g9 h.o λσ H R ⟨Ha,ρ,st,vs,h,q⟩=>⟨Ha,ρ,h.s.g.sub,h.s.rd,by
 unfold Ck at q;cases e1:src ρ with
 |stuck=>rw[e1]at q;exact q|exn x=>rw[e1]at q;exact q.elim
 |ok ds=>
  rw[e1]at q;exact λJ H' Ha' g it=>q J H' Ha' vs g.z (h.back g.z (h.s.grow g)) it⟩⟩
def uG(hgl:Gl X "range")(hm:X.mg "range"=none)(hi:DM X He η a iter fm)(hst:Qb [iter] X.env=[(false,eval iter X.env)]:=by exact gC rfl):MI X He η a tgt (.Call (.Name "range" p) [iter] [] pos2) (xI fm):=by
 refine⟨g9 (nH hgl hm (dQ hi.o gH hst) hst) λσ H R z9=>?_⟩;obtain⟨Ha,ρ,st,vs,h,q⟩:=z9;refine⟨Ha,ρ,st,vs,h,?_⟩;unfold xI at q;cases e1:fm ρ st with
 |stuck|exn x=>rw[e1]at q;exact q
 |ok pr=>
  obtain⟨d,s1⟩:=pr;rw[e1]at q;intro v H1 H01 us z h1 r1;cases d with
  |int j=>
   rw[aB.mp r1];replace q:match (if -4611686018427387904<=j/\j<4611686018427387904 then ak.ok (intsFrom 0 j.toNat,s1) else .stuck) with
    |.ok (ds,st')=>∀J H' Ha' us,aG Ha Ha'->gp X.K He η Ha' σ H' ρ a st' us->Lk X.K ds J Ha'->R J H'
    |.exn _=>False
    |.stuck=>False:=q
   by_cases hj:-4611686018427387904<=j/\j<4611686018427387904
   .rw[if_pos hj]at q
    exact⟨j,rfl,hj.1,hj.2,q _ H1 H01 us z h1 uL⟩
   .rw[if_neg hj]at q;exact q.elim
  |_=>exact q.elim
def nj.step2{K:P4}{st:ac}(z:aG Hb Ha)(h:gp K He η Ha σ H ρ a st vs)(q:eE K He η a Ha (forM tg s (ds.drop i) ρ st) D')(hd:ds[i]?=some d)(rv:Rep K Ha d v)
  (he:∀ρ,tg ρ d=.stuck∨∃ρ',tg ρ d=.ok ρ') :
  Oa K He η a tg v σ H λσ2 H2=>NF K He η a s { D' with nx:=nj K He η a Hb tg s ds D' (i+1),ct:=nj K He η a Hb tg s ds D' (i+1),bk:=D'.nx } σ2 H2:=by
 have hi:i<ds.length:=(Qa.mp hd).1;have hdr:ds.drop i=d::ds.drop (i+1):=by
  rw[QZ hi];rw[P5 hi]at hd;cases hd;rfl
 rw[hdr]at q;refine⟨Ha,ρ,st,vs,d,h,rv,?_⟩;unfold forM at q;rcases he ρ with e1|⟨ρ1,e1⟩
 .rw[e1]at q;exact q.elim
 .rw[e1]at q ⊢
  intro σ' H' Ha' z' h';refine⟨Ha',ρ1,st,vs,h',?_⟩;replace q:=eE.grow (r:=(s ρ1 st).bind λx=>match x with
   |.nx ρ2 s2=>forM tg s (ds.drop (i+1)) ρ2 s2
   |.ct ρ2 s2=>forM tg s (ds.drop (i+1)) ρ2 s2
   |.bk ρ2 s2=>.ok (.nx ρ2 s2)
   |.rt d s=>.ok (.rt d s)) q z'
  cases e2:s ρ1 st with
  |stuck|exn x=>rw[e2]at q;exact q
  |ok r=>
   rw[e2]at q;cases r with|nx ρ2 s2=>exact λσ3 H3 H03 vs3 z3 h3=>⟨H03,ρ2,s2,vs3,(z.trans z').trans z3,h3,eE.grow (r:=forM tg s (ds.drop (i+1)) ρ2 s2) q z3⟩|ct ρ2 s2=>exact λσ3 H3 H03 vs3 z3 h3=>⟨H03,ρ2,s2,vs3,(z.trans z').trans z3,h3,eE.grow (r:=forM tg s (ds.drop (i+1)) ρ2 s2) q z3⟩|bk ρ2 s2|rt d s2=>exact q
noncomputable def oz(src:Ev->ac->ak (ac×ac)) (tg:Ev->D->ak Ev) (s:Ev->ac->ak eD):Ev->ac->ak eD:=λρ st=>(src ρ st).bind λp=>forM tg s p.1 ρ p.2
def lu(hp:PassesOwn (QB X.prog X.w) X.A X.env X.xe)(hc:X.calm=true)(hi:MI X He η a tgt iter src)(hg:∀vs,DG X E (upd He a (.lst vs)) η tgt tg)(ht:vj tg)(hb:Ik X He η a body s)
  (hs:∀x,foldedSetIterable iter X.env x=pure x:=by intro _;rfl):SM X He η a (.For tgt iter body [] pos) (oz src tg s):=by
 refine⟨bO (vD hp hc hi.o (Mp hg) hb.o hs) λD' σ H z9=>?_⟩;obtain⟨Ha,ρ,st,vs,h,q⟩:=z9;refine⟨Ha,ρ,st,vs,h,?_⟩;unfold oz at q;cases e1:src ρ st with
 |stuck|exn x=>rw[e1]at q;exact q
 |ok pr=>
  obtain⟨ds,s1⟩:=pr;rw[e1]at q;intro J H1 H01 us z h1 it;have q1:eE X.K He η a H01 (forM tg s ds ρ s1) D':=eE.grow (r:=forM tg s ds ρ s1) q z;refine⟨λi m σ' H'=>m+i=ds.length/\nj X.K He η a H01 tg s ds D' i σ' H',⟨ds.length,rfl,H01,ρ,s1,us,aG.refl _,h1,q1⟩,?_⟩;rintro i m σ' H' ⟨hm,Ha',ρ',st',vs',z',h',hq⟩
  by_cases hlt:i<ds.length
  .refine .inr ⟨it.go i H' Ha' z' h'.s.g.sub hlt,λσ2 H2=>nj X.K He η a H01 tg s ds D' (i+1) σ2 H2,λσ2 H2 hl=>⟨m-1,by omega,by omega,hl⟩,λx H2 hy=>?_⟩
   obtain⟨H₀2,g2,rp⟩:=it.yld i H' Ha' x H2 ds[i] z' h'.s.g.sub (P5 hlt) hy;exact nj.step2 (z'.trans g2.z) (h'.back g2.z (h'.s.grow g2)) (eE.grow (r:=forM tg s (ds.drop i) ρ' st') hq g2.z) (P5 hlt) rp λρ=>ht ρ _
  .have e:i=ds.length:=by omega
   refine .inl ⟨it.stop i H' Ha' z' h'.s.g.sub (by omega),?_⟩;subst e;exact nj.done ⟨Ha',ρ',st',vs',z',h',hq⟩
def K6:gY X E (λxs H1 Q=>xs.length<=sizeLine/\∀p,H1 p=none->Q (.ref p) (upd H1 p (.lst xs))) b9:=λds vs H Ha Q hs hr q=>by
 unfold b9 at q
 by_cases hl:ds.length<=line
 .rw[if_pos hl]at q
  refine⟨by rw[←hr.length];exact dB hl,λp hp=>q _ _ _ (bo hs hp) (aI.mpr ⟨p,vs,rfl,fk.of aF,hr.mono (bo hs hp).z⟩)⟩
 .rw[if_neg hl]at q;exact q.elim
def Fq(h:Io X He η a es fa):DM X He η a (.List es pos) (mA fa b9):=⟨bg (ze h.o) (tP (E:=λ_ _ _=>True) K6)⟩
end
noncomputable def JB(s:Option Sl):Sl:=match s with
 |some (.sh d)=>.sh d
 |some (.pt b)=>.pt b
 |_=>.no
noncomputable def fj(n:Nat) (fr:am) (ρ:Ev):Ev:=QG n .no++fr.map λ(i:Nat)=>JB ρ[i]?
noncomputable def iR(b:Ev) (tg:Ev->D->ak Ev) (fm:Ev->ac->ak (D×ac)):ac->ac->ak (ac×ac)
 |[],st=>.ok ([],st)
 |d::r,st=>(tg b d).bind λρ1=>(fm ρ1 st).bind λp=>(iR b tg fm r p.2).bind λq=>.ok (p.1::q.1,q.2)
noncomputable def sW(b:Ev) (tg:Ev->D->ak Ev) (fm:Ev->ac->ak (D×ac)) (p:ac×ac):ak (D×ac):=if p.1.length<=line then(iR b tg fm p.1 p.2).bind λq=>.ok (.lst q.1,q.2) else .stuck
noncomputable def oO(n:Nat) (fr:am) (src:Ev->ac->ak (ac×ac)) (tg:Ev->D->ak Ev) (fm:Ev->ac->ak (D×ac)):Ev->ac->ak (D×ac):=λρ st=>(src ρ st).bind (sW (fj n fr ρ) tg fm)
def CQ{fr:am}:(fj n fr ρ).length=n+fr.length:=by unfold fj;simp
def tI{fr:am}(h:k<n):(fj n fr ρ)[k]?=some .no:=by
 unfold fj;rw[Qo (by simpa using h),QD,if_pos h]
def tJ{fr:am}(h:¬k<n)(e:(fj n fr ρ)[k]?=some s):∃j,fr[k-n]?=some j/\s=JB ρ[j]?:=by
 unfold fj at e;rw[Qw (by simpa using h),Q7,Qg]at e;cases hf:fr[k-n]? with|none=>rw[hf]at e;cases e|some j=>rw[hf]at e;cases e;exact⟨j,rfl,rfl⟩
def Jz(h:Sl.sh d=JB s):s=some (.sh d):=by
 unfold JB at h;split at h<;>cases h
 rfl
def JA{b:P9}(h:Sl.pt b=JB s):s=some (.pt b):=by
 unfold JB at h;split at h<;>cases h
 rfl
def FF{fr:am}(h:¬k<n)(hf:fr[k-n]?=some j)(hs:σ[j]?=some (some v)):(jr n fr σ)[k]?=some (some v):=by
 unfold jr;rw[Qw (by simpa using h),Q7,Qg,hf];simp[hs]
def vo{K:P4}{st:ac}(ha:He a=none)(h0:η a=none)(hl:H a=some (.lst vs))(r:Reps K Ha st vs)(g:bw (upd He a (.lst vs)) η H Ha)(rd:Reads K Ha σ ρ)
  (no:∀(j:Nat) (s:Sl),ρ[j]?=some s->s=.no∨(∃d,s=.sh d)∨∃b,s=.pt b/\σ[j]?=some (some (.ref b)))(ln:ρ.length=σ.length):gp K He η Ha σ H ρ a st vs:=by
 refine⟨ha,h0,hl,r,⟨g,rd,λi d e=>?_,λi j d d' _ e=>?_,ln,OX.none (λi j ds e=>?_) λi b e=>?_⟩⟩
 .rcases no i _ e with h|⟨_,h⟩|⟨_,h,_⟩<;>cases h
 .rcases no i _ e with h|⟨_,h⟩|⟨_,h,_⟩<;>cases h
 .rcases no i _ e with h|⟨_,h⟩|⟨_,h,_⟩<;>cases h
 .rcases no i _ e with h|⟨_,h⟩|⟨_,h,h'⟩
  .cases h
  .cases h
  .cases h;exact h'
noncomputable def ET(K:P4) (a:P9) (tg:Ev->D->ak Ev):TG:=λv σ H Q=>∃He η,Oa K He η a tg v σ H Q
noncomputable def Dn(K:P4) (a:P9) (fm:Ev->ac->ak (D×ac)):TE:=λσ H Q=>∃He η,tM K He η a fm σ H Q
def zS{b:Ev}{r st es stF:ac}(h:iR b tg fm (d::r) st=.ok (es,stF)):∃ρ1 y s1 rest,tg b d=.ok ρ1/\fm ρ1 st=.ok (y,s1)/\iR b tg fm r s1=.ok (rest,stF)/\es=y::rest:=by
 unfold iR at h;cases e1:tg b d with
 |stuck|exn x=>rw[e1]at h;cases h
 |ok ρ1=>
  rw[e1]at h;simp only[ak.bind]at h;cases e2:fm ρ1 st with
  |stuck|exn x=>rw[e2]at h;cases h
  |ok p=>
   obtain⟨y,s1⟩:=p;rw[e2]at h;simp only at h;cases e3:iR b tg fm r s1 with
   |stuck|exn x=>rw[e3]at h;cases h
   |ok q=>
    obtain⟨rest,sF⟩:=q;rw[e3]at h;cases h;exact⟨ρ1,y,s1,rest,rfl,e2,e3,rfl⟩
def yy{K:P4}{fr:am}(h1:gp K He η H01 σ H1 ρ a st0 us0)(it:Lk K ds J H01)(hl:ds.length<=line)
  (e2:iR (fj n fr ρ) tg fm ds st0=.ok (es,stF))(hok:yG n tg)
  (q:∀p xs H' Ha' us',bw (Cz a H1) H01 H' Ha'->Ha' a=none->H' a=some (.lst us')->Reps K Ha' stF us'->H1 p=none->Ha' p=none->H' p=some (.lst xs)->Reps K Ha' es xs->Q (.ref p) H') :
  qj n fr (ET K a tg) Dm (Dn K a fm) J σ H1 Q:=by
 intro Da hDa;have h0D:H01 Da=none:=h1.s.g.sub.free hDa;have aD:a≠Da:=λz=>by have:=h1.hl;rw[z,hDa]at this;cases this
 have nob:∀{σ':L2.St}(_:∀(k:Nat),¬k<n->∀b,(fj n fr ρ)[k]?=some (.pt b)->σ'[k]?=some (some (.ref b))) (j:Nat) (s:Sl),(fj n fr ρ)[j]?=some s->s=.no∨(∃d,s=.sh d)∨∃b,s=.pt b/\σ'[j]?=some (some (.ref b)):=λ{σ'} hp j s e=>by
  by_cases hj:j<n
  .rw[tI hj]at e;cases e;exact .inl rfl
  .obtain⟨i,_,hs⟩:=tJ hj e
   cases s with
   |no=>exact .inl rfl|sh d=>exact .inr (.inl ⟨d,rfl⟩)|pt b=>exact .inr (.inr ⟨b,rfl,hp j hj b e⟩)
   |_=>unfold JB at hs;split at hs<;>cases hs
 refine⟨λi m ys σ' H'=>m=ds.length-i/\i<=ds.length/\∃Ha' st' us' es1 rest,gp K (upd (Cz a H1) Da (.lst ys)) H01 Ha' σ' H' (fj n fr ρ) a st' us'/\Reps K Ha' es1 ys/\es1.length=i/\iR (fj n fr ρ) tg fm (ds.drop i) st'=.ok (rest,stF)/\es=es1++rest,
  ⟨ds.length,by simp,R0 _,H01,st0,us0,[],es,?_,Reps.nil,rfl,by rw[RK];exact e2,rfl⟩,?_⟩
 .refine vo (by rw[az aD];exact dJ) h1.n0 (by rw[az aD];exact h1.hl) h1.r ⟨λb o e=>?_,aG.refl _,λb o e=>?_,λb k1 k2=>absurd k2 k1⟩ (λk d e=>?_) (nob λk hk b e=>?_) (by unfold jr;rw[CQ];simp)
  .by_cases c:b=a
   .subst c;rw[aF]at e;cases e;rw[az aD];exact h1.hl
   .rw[az c]at e
    by_cases c2:b=Da
    .subst c2;rw[aF]at e ⊢;exact e
    .rw[az c2]at e ⊢;rw[fT c]at e;exact e
  .rw[az (by intro z;subst z;rw[h0D]at e;cases e)];exact h1.s.g.sub _ _ e
  .by_cases hk:k<n
   .rw[tI hk]at e;cases e
   .obtain⟨j,hf,hs⟩:=tJ hk e
    obtain⟨v,k1,k2⟩:=h1.s.rd j d (Jz hs);exact⟨v,FF hk hf k1,k2⟩
  .obtain⟨j,hf,hs⟩:=tJ hk e
   exact FF hk hf (h1.s.ex.2 j b (JA hs))
 .rintro i m ys σ' H' ⟨rfl,hile,Ha',st',us',es1,rest,h',hys,hle,hco,hes⟩
  have hDl:H' Da=some (.lst ys):=h'.s.g.s _ _ (by rw[az (Q2 aD),aF]);refine⟨hDl,?_⟩
  by_cases hlt:i<ds.length
  .refine .inr ⟨it.go i H' Ha' h'.s.g.z h'.s.g.sub hlt,?_,?_⟩
   .rw[←hys.length,hle]
    have h2:line<sizeLine:=by decide
    omega
   .intro x H2 hy
    obtain⟨H₀2,g2,rp⟩:=it.yld i H' Ha' x H2 ds[i] h'.s.g.z h'.s.g.sub (P5 hlt) hy;have hm2:=h'.back g2.z (h'.s.grow g2);rw[QZ hlt]at hco;obtain⟨ρ1,y,s1,rest',t1,t2,t3,t4⟩:=zS hco;refine⟨_,_,H₀2,fj n fr ρ,st',us',ds[i],hm2,rp,?_⟩;rw[t1];intro σ3 H3 H03 z3 h3;unfold Dm;dsimp only;rw[if_pos rfl];refine⟨_,_,H03,ρ1,st',us',h3,?_⟩;rw[t2];intro yv H5 H05 us5 z5 h5 ry;have hD5:H5 Da=some (.lst ys):=h5.s.g.s _ _ (by rw[az (Q2 aD),aF]);have n5:H05 Da=none:=by
     cases qq:H05 Da with|none=>rfl|some o=>have:=h5.s.g.nw Da (by rw[qq];simp) h0D;rw[az (Q2 aD),aF]at this;cases this
    have hrl:=hok _ _ _ t1;refine⟨hD5,ds.length-(i+1),by omega,rfl,hlt,H05,s1,us5,es1++[y],rest',?_,(hys.mono ((g2.z.trans z3).trans z5)).app (Reps.cons ry Reps.nil),by simp[hle],t3,by rw[hes,t4];simp⟩;refine vo (by rw[az aD];exact dJ) h1.n0 (by rw[az aD];exact h5.hl) h5.r ⟨λb o e=>?_,h5.s.g.z,λb o e=>?_,λb k1 k2=>?_⟩ (λk d e=>?_) (nob λk hk b e=>?_) (by rw[←h5.s.ln,hrl.1])
    .by_cases c:b=a
     .subst c;rw[aF]at e;cases e;rw[az aD];exact h5.hl
     .rw[az c]at e
      by_cases c2:b=Da
      .subst c2;rw[aF]at e ⊢;exact e
      .rw[az c2]at e ⊢
       exact h5.s.g.s _ _ (by rw[az c,az c2];exact e)
    .rw[az (by intro z;subst z;rw[n5]at e;cases e)];exact h5.s.g.sub _ _ e
    .have:=h5.s.g.nw b k1 k2
     by_cases c:b=a
     .subst c;rw[aF]at this;cases this
     .rw[az c]at this ⊢
      by_cases c2:b=Da
      .subst c2;rw[aF]at this;cases this
      .rw[az c2]at this ⊢;exact this
    .by_cases hk:k<n
     .rw[tI hk]at e;cases e
     .rw[←hrl.2 k (by omega)]at e
      exact h5.s.rd k d e
    .rw[←hrl.2 k (by omega)]at e
     exact h5.s.ex.2 k b e
  .have hi2:i=ds.length:=by omega
   refine .inl ⟨it.stop i H' Ha' h'.s.g.z h'.s.g.sub (by omega),?_⟩;rw[hi2,Sr]at hco;cases hco;rw[QN]at hes;subst hes;refine q Da ys H' Ha' us' ⟨λb o e=>?_,h'.s.g.z,h'.s.g.sub,λb k1 k2=>?_⟩ h'.n0 h'.hl h'.r hDa ?_ hDl hys
   .have c:b≠a:=by intro c;subst c;rw[dJ]at e;cases e
    have c2:b≠Da:=by intro c2;subst c2;rw[fT c,hDa]at e;cases e
    exact h'.s.g.s _ _ (by rw[az c,az c2];exact e)
   .have:=h'.s.g.nw b k1 k2
    by_cases c:b=a
    .subst c;exact dJ
    .rw[az c]at this
     by_cases c2:b=Da
     .subst c2;rw[aF]at this;cases this
     .rw[az c2]at this;exact this
   .cases qq:Ha' Da with
    |none=>rfl
    |some o=>have:=h'.s.g.nw Da (by rw[qq];simp) h0D;rw[az (Q2 aD),aF]at this;cases this
noncomputable def N7(K:P4) (He η:Hp) (a:P9) (f:Ev->ac->ak (D×ac)):TE:=λσ H Q=>∃Ha ρ st vs,gp K He η Ha σ H ρ a st vs/\match f ρ st with
 |.ok (.lst ds,st')=>∀p xs H1 H01 st1 us1 H' Ha' us,aG Ha H01->gp K He η H01 σ H1 ρ a st1 us1->bw (Cz a H1) H01 H' Ha'->Ha' a=none->H' a=some (.lst us)->Reps K Ha' st' us->H1 p=none->Ha' p=none->H' p=some (.lst xs)->Reps K Ha' ds xs->Q (.ref p) H'
 |.ok _=>False
 |.exn _=>False
 |.stuck=>False
structure ON (X:Cx) (He η:Hp) (a:P9) (e:QX) (f:Ev->ac->ak (D×ac)):Prop where
 ev:PE X e (N7 X.K He η a f)
 st:∀{i:Nat}{x:Qu}{pos' spos:Pos},X.N.Nodup->X.N[i]?=some x->X.env.scope.names.lookup x=some .local -> Rq e (some (.Name x pos')) spos.line X.env=pure true->PS X (.Assign [.Name x pos'] e spos) (GB (N7 X.K He η a f) (Ba i))
def PJ(N:al)(n:Nat)(fr:am)(hc:X.calm=true)(hi:MI X He η a tgt iter src)(hok:yG n tg)
  (blk:∀s H C fp pn,(∀He η,DG (cS X N scope s H C fp pn) E He η tgt tg)/\∀He η,DM (cS X N scope s H C fp pn) He η a elt fm)
  (hfr:Ad X N n fr scope)(hcell:∀x∈scope.names,x.2≠.cell)(hfree:∀x∈scope.names,x.2=.free->X.env.scope.names.lookup x.1=some .cell)(hkind:scope.kind=.function)(hnames:∀x∈scope.names,x.2=.local -> scope.names.lookup x.1=some .local)
  (hs:∀x,foldedSetIterable iter X.env x=pure x:=by intro _;rfl):ON X He η a (.ListComp elt [⟨tgt,iter,[],0⟩] scope pos) (oO n fr src tg fm):=by
 have blk':∀s H C fp pn,PG (cS X N scope s H C fp pn) tgt (ET X.K a tg)/\LH (cS X N scope s H C fp pn) [] Dm/\PE (cS X N scope s H C fp pn) elt (Dn X.K a fm):=λs H C fp pn=>
  ⟨λπ s' σ' H' v u Q' I r ⟨He,η,q'⟩=>(Mp (X:=cS X N scope s H C fp pn) λvs=>(blk s H C fp pn).1 _ _) π s' σ' H' v u Q' I r q',AG,λπ s' σ' H' Q' I ⟨He,η,q'⟩=>((blk s H C fp pn).2 He η).o π s' σ' H' Q' I q'⟩
 have first:∀{π:List (P9×Obj)}{s:Qj}{σ:L2.St}{H:Hp}{Q:VK}{RR:P2->P9->Result->Qj->Prop},L2.Inv X π σ H s->N7 X.K He η a (oO n fr src tg fm) σ H Q ->
   (∀(Da C:P9) (s6:Qj) (H5:Hp) (m:Qu->Option P2),L2.Inv X π σ H5 s6->s6.heap.Ns C m->nk X π H5 C->Q (.ref Da) H5->RR (.ref Da) C (.ok .next) s6) ->
   QC (QB X.prog X.w) X.A (eval iter X.env) (λx sg=>QC (QB X.prog X.w) X.A (pyIter x) (λit si=>QC (QB X.prog X.w) X.A (newList []) (λacc sj=>
    QC (QB X.prog X.w) X.A (newFunctionEnv scope X.env.globals (gT X.env.cells scope.names []) [] X.env.qual none .none (some X.env)) (λcenv sk=>
     So (QB X.prog X.w) X.A (.compStart (.ListComp elt [⟨tgt,iter,[],0⟩] scope pos) 0 it acc { cenv with scope:=relabel scope X.env }) (RR acc cenv.locals) sk) X.xe sj) X.xe si) X.xe sg) X.xe s:=by
  intro π s σ H Q RR I ⟨Ha,ρ,st,vs,h,q⟩ fin;refine de (hi.o π s σ H (λJ H1=>qj n fr (ET X.K a tg) Dm (Dn X.K a fm) J σ H1 Q) I ⟨Ha,ρ,st,vs,h,?_⟩) λv s1 h1=>de h1 λitv s2 h2=>uX (N:=N) hc hfr hcell hfree hkind blk' h2 fin;unfold oO at q;cases e1:src ρ st with
  |stuck|exn x=>rw[e1]at q;exact q
  |ok pr=>
   obtain⟨ds,st1⟩:=pr;rw[e1]at q;intro J H1 H01 us z h1 it;replace q:match (if ds.length<=line then(iR (fj n fr ρ) tg fm ds st1).bind λq=>ak.ok (D.lst q.1,q.2) else .stuck) with
    |.ok (.lst ds,st')=>∀p xs H1 H01 st1 us1 H' Ha' us,aG Ha H01->gp X.K He η H01 σ H1 ρ a st1 us1->bw (Cz a H1) H01 H' Ha'->Ha' a=none->H' a=some (.lst us)->Reps X.K Ha' st' us->H1 p=none->Ha' p=none->H' p=some (.lst xs)->Reps X.K Ha' ds xs->Q (.ref p) H'
    |.ok _=>False
    |.exn _=>False
    |.stuck=>False:=q
   by_cases hl:ds.length<=line
   .rw[if_pos hl]at q
    cases e2:iR (fj n fr ρ) tg fm ds st1 with
    |stuck|exn x=>rw[e2]at q;exact q.elim
    |ok pr2=>
     obtain⟨es,stF⟩:=pr2;rw[e2]at q;exact yy h1 it hl e2 hok λp xs H' Ha' us' g n' hl' r' hp h0 hv rp=>q p xs H1 H01 st1 us H' Ha' us' z h1 g n' hl' r' hp h0 hv rp
   .rw[if_neg hl]at q;exact q.elim
 have hcl:∀{π:List (P9×Obj)}{s:Qj}{σ:L2.St}{H:Hp},L2.Inv X π σ H s->closureFor scope X.env=pure (gT X.env.cells scope.names []):=λ{π s σ H} I=>kI λy hy hf=>I.ok.has y.1 (.inl (hfree y hy hf));refine⟨λπ s σ H Q I h=>?_,λ{i x pos' spos} hN hi' hx hsw π s σ H D' I h=>?_⟩
 .rw[eval_ListComp]
  refine wpAny_comprehension_free (use:=none) rfl hs (hcl I) hkind hnames (first (RR:=λacc C=>compPost (QB X.prog X.w) X.A X.xe none (EP X π σ Q) acc C) I h λDa C s6 H5 m I6 ns fC q=>?_);refine⟨m,ns,λh' sb=>⟨.ref Da,H5,?_,rfl,q⟩⟩;exact I6.turned (t':=s6.toks) (it:=C) (λb o hb e=>(sb.2 b hb).trans e) fC.1 fC.2.1 fC.2.2.2.1 fC.2.2.2.2.1 fC.2.2.2.2.2
 .rw[exec_Assign_Name_used _ _ _ _ hsw]
  refine P8 (wpAny_standAt (P8 ?_));show QC _ X.A (do let _ ←comprehension (.ListComp elt [⟨tgt,iter,[],0⟩] scope pos) scope X.env _ (newList []) false (eval iter X.env) (some (assign (.Name x pos') X.env))) _ _ s;refine P8 (Ri (wpAny_comprehension_free (use:=some (assign (.Name x pos') X.env)) (Q:=λ_ s'=>SP X π D' .next s') rfl hs (hcl I) hkind hnames
   (first (RR:=λacc C=>compPost (QB X.prog X.w) X.A X.xe (some (assign (.Name x pos') X.env)) (λ_ s'=>SP X π D' .next s') acc C) I h λDa C s6 H5 m I6 ns fC q=>?_)) (λ_ s' hq=>QH (QH hq)) λ_ _ e=>e)
  show QC _ X.A (assign (.Name x pos') X.env (.ref Da)) _ _ _;refine wpAny_assign_Name (ny (v:=.ref Da) I6 hN hi' (.inl hx) rfl (λs' I' z9=>?_) (.inr hx));obtain⟨a,sb,ha⟩:=z9;have hCa:C≠a:=by
   rcases ha with rfl|ha
   .exact fC.2.1
   .exact λz=>fC.2.2.2.2.1 x a ha z.symm
  refine⟨m,ns.sameBut sb hCa,λh' sb'=>⟨_,H5,?_,q⟩⟩;exact I'.turned (t':=s'.toks) (it:=C) (λb o hb e=>(sb'.2 b hb).trans e) fC.1 fC.2.1 fC.2.2.2.1 fC.2.2.2.2.1 fC.2.2.2.2.2
def zR{fr:am}:∀ρ st d s',oO n fr src tg fm ρ st=.ok (d,s')->∃ds,d=.lst ds:=λρ st d s' h=>by
 unfold oO at h;cases e1:src ρ st with
 |stuck|exn x=>rw[e1]at h;cases h
 |ok pr=>
  rw[e1]at h;simp only[ak.bind,sW]at h
  by_cases hl:pr.1.length<=line
  .rw[if_pos hl]at h
   cases e2:iR (fj n fr ρ) tg fm pr.1 pr.2 with|stuck|exn x=>rw[e2]at h;cases h|ok q=>rw[e2]at h;cases h;exact⟨_,rfl⟩
  .rw[if_neg hl]at h;cases h
def gp.addL{K:P4}(h1:gp K He η H01 σ H1 ρ a st1 us1)(g:bw (Cz a H1) H01 H' Ha')(n:Ha' a=none)(hl:H' a=some (.lst us))(r:Reps K Ha' st' us)(hp:H1 p=none)(h0:Ha' p=none)(hv:H' p=some (.lst xs))(rp:Reps K Ha' ds xs) :
  aG H01 (upd Ha' p (.lst xs))/\gp K He η (upd Ha' p (.lst xs)) σ H' ρ a st' us/\Rep K (upd Ha' p (.lst xs)) (.lst ds) (.ref p):=by
 have pa:a≠p:=λz=>by have:=h1.hl;rw[z,hp]at this;cases this
 have z:aG Ha' (upd Ha' p (.lst xs)):=λb o e=>by rw[az (by intro z;subst z;rw[h0]at e;cases e)];exact e
 have g':bw (Cz a H1) H01 H' (upd Ha' p (.lst xs)):=⟨g.s,g.z.trans z,λb o e=>by
  by_cases c:b=p
  .subst c;rw[aF]at e;cases e;exact hv
  .rw[az c]at e;exact g.sub _ _ e,λb k1 k2=>by
  by_cases c:b=p
  .subst c;rw[fT (Q2 pa)];exact hp
  .rw[az c]at k1;exact g.nw b k1 k2⟩
 exact⟨g'.z,h1.change g' (by rw[az pa];exact n) hl (r.mono z),aI.mpr ⟨p,xs,rfl,fk.of aF,rp.mono z⟩⟩
section
variable {X:Cx}{E:XK}{He η:Hp}{a:P9}{e:QX}{pos:Pos}{fm:Ev->ac->ak (D×ac)}
def GI(hN:X.N.Nodup)(hi:X.N[i]?=some x)(hx:X.env.scope.names.lookup x=some .local)(h:ON X He η a e fm)(ho:∀ρ st d s',fm ρ st=.ok (d,s')->∃ds,d=.lst ds)(hs:Rq e (some (.Name x pos')) pos.line X.env=pure true:=by rfl):SM X He η a (.Assign [.Name x pos'] e pos) (dD i fm):=by
 refine⟨bO (h.st hN hi hx hs) λD' σ H z9=>?_⟩;obtain⟨Ha,ρ,st,vs,h,q⟩:=z9;refine⟨Ha,ρ,st,vs,h,?_⟩;unfold dD at q;cases e1:fm ρ st with
 |stuck|exn x=>rw[e1]at q;exact q
 |ok pr=>
  obtain⟨d,s1⟩:=pr;obtain⟨ds,rfl⟩:=ho _ _ _ _ e1;rw[e1]at q;intro p xs H1 H01 st1 us1 H' Ha' us z h1 g n hl r hp h0 hv rp;obtain⟨k1,k2,k3⟩:=h1.addL g n hl r hp h0 hv rp;exact q _ H' _ us (z.trans k1) (k2.back (aG.refl _) (k2.s.put k3))
end
mutual
def fK:D->Option Rb
 |.non=>some .none
 |.bl b=>some (.bool b)
 |.int i=>some (.int i)
 |.str x=>some (.str x)
 |.tup ds=>(toPys ds).map PyData.tuple
 |.lst ds=>(toPys ds).map PyData.list
 |.dic ks ds=>(toPys ds).map λps=>.dict ((ks.map PyData.str).zip ps)
 |.exc _=>none
 |.ob k ds=>match k with
  |.dint ks=>(toPys ds).map λps=>.dict ((ks.map PyData.int).zip ps)
  |_=>none
def toPys:ac->Option (List Rb)
 |[]=>some []
 |d::ds=>match fK d,toPys ds with
  |some x,some xs=>some (x::xs)
  |_,_=>none
end
section
variable {X:Cx}{E:XK}{π:List (P9×Obj)}{σ:L2.St}{H:Hp}{s:Qj}
def Hn(I:L2.Inv X π σ H s)(h:fk X.K H a vs):a≠SG:=by
 intro z;subst z;obtain⟨mm,o,es,ep,e,hd,_⟩:=I.ok.mod.sm;have:=(I.bs _ _ e).2;rcases h with h|⟨o',_,_,h1,h2,_,h3,_⟩
 .rcases h with h|⟨_,h⟩<;>(rw[this]at h;cases h)
 .have e':=I.ok.mod.kin _ _ h1
  rw[e]at e';cases e';rw[hd]at h3;cases h3
theorem nt:∀{ds:ac}{ps:List Rb},toPys ds=some ps->ps.length=ds.length
 |[],ps,e=>by rw[toPys]at e;cases e;rfl
 |d::ds,ps,e=>by
  rw[toPys]at e;cases e1:fK d with
  |none=>rw[e1]at e;cases e
  |some p=>
   cases e2:toPys ds with|none=>rw[e1,e2]at e;cases e|some qs=>rw[e1,e2]at e;cases e;simp[nt e2]
noncomputable def AA:tW->Rb
 |.inl i=>.int i
 |.inr x=>.str x
theorem A0:∀{ks:List tW}{vs:ad}{us:List (tW×P2)},KV (ks.zip vs) us->ks.length=vs.length->bA vs (us.map (·.2))/\us.map (·.1)=ks
 |[],[],_,.nil,_=>⟨.nil,rfl⟩
 |k::ks,v::vs,_,.cons ⟨a,b⟩ t,h=>by
  obtain⟨h1,h2⟩:=A0 (ks:=ks) (vs:=vs) t (by simpa using h);exact⟨.cons b h1,by rw[Qf,h2,←a]⟩
theorem oq{h:Qr}:∀{es:List U9}{us:List (tW×P2)},Pairs (vP prog w) es us->TZ h (es.map (·.key)) ((us.map (·.1)).map AA) []/\es.map (·.val)=us.map (·.2)
 |_,_,.nil=>⟨.nil,rfl⟩
 |_,_,.cons (e:=e) (kv:=kv) a b t=>by
  obtain⟨h1,h2⟩:=oq t;refine⟨?_,by rw[Qf,Qf,h2,b]⟩;have hk:Vv h e.key (AA kv.1) []:=by
   rcases cE (show EG kv.1 e.key=true from a) with⟨i,t,e1,e2⟩|⟨x,t,e1,e2⟩
   .rw[e1,e2];exact .int i t
   .rw[e1,e2];exact .str x t
  exact TZ.cons hk h1
theorem Ag{α β:Type}:∀{xs:List α}{ys:List β},xs.length=ys.length->(xs.zip ys).map (·.1)=xs/\(xs.zip ys).map (·.2)=ys
 |[],[],_=>⟨rfl,rfl⟩
 |x::xs,y::ys,h=>by
  obtain⟨h1,h2⟩:=Ag (xs:=xs) (ys:=ys) (by simpa using h);exact⟨by rw[SH,Qf,h1],by rw[SH,Qf,h2]⟩
def qA(I:L2.Inv X π σ H s){ks:List tW}{ps:List Rb}{bs:List P9}(h2:Rd H a (.dK (ks.zip vs)))(h4:ks.length=vs.length)(hl:ps.length=ks.length)
  (hr:∀us,bA vs us->∃bs,TZ s.heap us ps bs/\SG∉bs):∃as,Vv s.heap (.ref a) (.dict ((ks.map AA).zip ps)) as/\SG∉as:=by
 obtain⟨_,n1,us,k1,d1⟩:=(show cP X.prog X.w H s.heap a (.dK (ks.zip vs)) from h2.ok I.hok)
 obtain⟨o,es,ep,e1,e2,e3,_,e5,_⟩:=d1;obtain⟨hv,hk⟩:=A0 k1 h4;obtain⟨bs,r1,m1⟩:=hr _ hv;obtain⟨p1,p2⟩:=oq (h:=s.heap) e5;obtain⟨z1,z2⟩:=Ag (xs:=ks.map AA) (ys:=ps) (by rw[P7,hl]);refine⟨_,.dict e1 e2.1 e3 (as:=[]) (bs:=bs) (by rw[z1,←hk];exact p1) (by rw[z2,p2];exact r1),?_⟩;simp only[QN,R8,RZ,Qs,not_or];exact⟨λz=>by rw[←z]at n1;simp at n1,m1⟩
mutual
theorem xi(I:L2.Inv X π σ H s):∀(d:D) (v:V) (u:P2) (p:Rb),Rep X.K H d v->bX v u->fK d=some p->∃as,Vv s.heap u p as/\SG∉as
 |.non,v,u,p,r,rv,e=>by
  rw[fK]at e;cases e;rw[aR.mp r]at rv;cases rv;exact⟨_,.none,by simp⟩
 |.bl b,v,u,p,r,rv,e=>by
  rw[fK]at e;cases e;rw[aL.mp r]at rv;cases rv;exact⟨_,.bool b,by simp⟩
 |.int i,v,u,p,r,rv,e=>by
  rw[fK]at e;cases e;rw[aB.mp r]at rv;obtain⟨t,rfl⟩:=rv;exact⟨_,.int i t,by simp⟩
 |.str x,v,u,p,r,rv,e=>by
  rw[fK]at e;cases e;rw[Rep.str_iff.mp r]at rv;obtain⟨t,rfl⟩:=rv;exact⟨_,.str x t,by simp⟩
 |.tup ds,v,u,p,r,rv,e=>by
  rw[fK]at e;cases e1:toPys ds with
  |none=>rw[e1]at e;cases e
  |some ps=>
   rw[e1]at e;cases e;obtain⟨a,vs,its,rfl,rfl,h1,h2,h3,⟨o,k1,k2,n,k3⟩,_⟩:=bu I r rv;obtain⟨as,h4,h5⟩:=reads_ofs I ds vs its ps h2 h3 e1;exact⟨_,.tuple k1 k2 k3 (by simpa using h4),h5⟩
 |.lst ds,v,u,p,r,rv,e=>by
  rw[fK]at e;cases e1:toPys ds with
  |none=>rw[e1]at e;cases e
  |some ps=>
   rw[e1]at e;cases e;obtain⟨a,vs,its,rfl,rfl,h1,h2,h3,⟨o,k1,k2,n,k3⟩,_⟩:=bc I r rv;obtain⟨as,h4,h5⟩:=reads_ofs I ds vs its ps h2 h3 e1;exact⟨_,.list k1 k2 k3 (by simpa using h4),by rw[Qs,not_or];exact⟨Q2 (Hn I h1),h5⟩⟩
 |.dic ks ds,v,u,p,r,rv,e=>by
  rw[fK]at e;cases e1:toPys ds with
  |none=>rw[e1]at e;cases e
  |some ps=>
   rw[e1]at e;cases e;rw[Rep]at r;obtain⟨a,kvs,vs,rfl,h2,h3,h4,h5⟩:=r;subst h3;obtain rfl:u=Q6 a:=rv;have hl:=h5.length;have:=qA I (bs:=[]) (ps:=ps) h2 (by rw[P7];exact h4) (by rw[P7,nt e1,hl,h4]) λus hv=>reads_ofs I ds vs us ps h5 hv e1;rw[RD]at this;exact this
 |.exc _,v,u,p,r,rv,e=>by rw[fK]at e;cases e
 |.ob k ds,v,u,p,r,rv,e=>by
  cases k with
  |dint ks=>
   rw[fK]at e;cases e1:toPys ds with
   |none=>rw[e1]at e;cases e
   |some ps=>
    rw[e1]at e;cases e;obtain⟨a,vs,rfl,⟨kvs,h2,h3,h4⟩,h5⟩:=lj.mp r;subst h3;obtain rfl:u=Q6 a:=rv;have hl:=h5.length;have:=qA I (bs:=[]) (ps:=ps) h2 (by rw[P7];exact h4) (by rw[P7,nt e1,hl,h4]) λus hv=>reads_ofs I ds vs us ps h5 hv e1;rw[RD]at this;exact this
  |_=>simp[fK]at e
theorem reads_ofs(I:L2.Inv X π σ H s):∀(ds:ac) (vs:ad) (us:List P2) (ps:List Rb),Reps X.K H ds vs->bA vs us->toPys ds=some ps->∃as,TZ s.heap us ps as/\SG∉as
 |[],vs,us,ps,r,rv,e=>by
  rw[toPys]at e;cases e;rw[Reps.nil_iff.mp r]at rv;cases rv;exact⟨_,.nil,by simp⟩
 |d::ds,vs,us,ps,r,rv,e=>by
  obtain⟨v,vr,rfl,h1,h2⟩:=aM.mp r;cases rv with
  |cons ra rb=>
   rw[toPys]at e;cases e1:fK d with
   |none=>rw[e1]at e;cases e
   |some p=>
    cases e2:toPys ds with
    |none=>rw[e1,e2]at e;cases e
    |some qs=>
     rw[e1,e2]at e;cases e;obtain⟨as,k1,m1⟩:=xi I d v _ p h1 ra e1;obtain⟨bs,k2,m2⟩:=reads_ofs I ds vr _ qs h2 rb e2;exact⟨_,.cons k1 k2,by rw[QQ,not_or];exact⟨m1,m2⟩⟩
end
noncomputable def Dt(d:D):Bool:=match d with
 |.tup _=>true
 |.lst _=>true
 |_=>false
noncomputable def oi(p:Rb):Bool:=p.showable&&decide (p.depth<=100)&&decide (p.shown.length<=sizeLine)
noncomputable def sS(d:D):ak D:=match fK d with
 |some p=>if Dt d=true/\oi p=true then .ok (.str p.shown) else .stuck
 |none=>.stuck
def u4(hr:cK k X.A):ik X (.builtin "repr") (λxs H Q=>∃v d p,xs=[v]/\Rep X.K H d v/\fK d=some p/\Dt d=true/\oi p=true/\Q (.str p.shown) H):=by
 intro π s σ H xs us Q I r h;obtain⟨v,d,p,rfl,rd,e,hq,hw,q⟩:=h;obtain⟨u,rfl,rx⟩:=qi r;obtain⟨as,hR,hm⟩:=xi I d v u p rd rx e;have hu:∃a,u=.ref a:=by
  cases d with|tup ds=>obtain⟨a,_,_,_,h,_⟩:=bu I rd rx;exact⟨a,h⟩|lst ds=>obtain⟨a,_,_,_,h,_⟩:=bc I rd rx;exact⟨a,h⟩| _=>cases hq
 obtain⟨a,rfl⟩:=hu;unfold oi at hw;simp only[QK,decide_eq_true_eq]at hw;obtain⟨⟨w1,w3⟩,w4⟩:=hw;refine repr_of_reads' hR w1 (λ_=>hm) hr.gd (by have:=hr.un;omega) (λb o e=>e) (λh' u' tk hk=>⟨.str p.shown,H,I.kept hk,⟨u',rfl⟩,q⟩) w4
def BJ:gY X E (λxs H Q=>∃v d p,xs=[v]/\Rep X.K H d v/\fK d=some p/\Dt d=true/\oi p=true/\Q (.str p.shown) H) (m1 sS):=u6 λx v H Ha Q hs r q=>by
 unfold sS at q;cases e:fK x with
 |none=>rw[e]at q;exact q.elim
 |some p=>
  rw[e]at q;replace q:post X.K E H Ha (if Dt x=true/\oi p=true then .ok (.str p.shown) else .stuck) Q:=q
  by_cases hc:Dt x=true/\oi p=true
  .rw[if_pos hc]at q
   exact⟨v,x,p,rfl,r.mono hs,e,hc.1,hc.2,bK hs q (Rep.str_iff.mpr rfl)⟩
  .rw[if_neg hc]at q;exact q.elim
end
structure FT (K:P4) (mg:Qu->Option P2) (x:Qu) (st:RH) (ps:al) (a:P9) (d:Rx):Prop where
 F:CZ K x x st a d
 b:il K d ps []
 g:mg x=some (.ref a)
noncomputable def QA(K:P4) (x:Qu) (st:RH) (a:P9):Prop:=Rj K Qt x=some (some (.ref a))/\SN K (.ref a)=true/\∃oc kV dc pm cd ct od an sl,K.lookup a=some ⟨oc,od,.func (Sk x x (defArgs st) (defBody st) (defScope st) .none kV dc pm an cd ct),sl⟩/\UI K cd x=true
def MZ{K:P4}{h:Qr}{st:RH}{ps:al}(X:K.In h)(G:h.Ns Qt mg)(q:QA K x st a)
  (hb:∀(kV doc pm:P2) (an:Option P9) (cdv ct:P2) (us:List P2),us.length=ps.length->bindArgs (Sk x x (defArgs st) (defBody st) (defScope st) .none kV doc pm an cdv ct) ⟨us,[]⟩=pure (ps.zip us)) :
  ∃d,FT K mg x st ps a d/\∃kV doc pm an cdv ct,d=Sk x x (defArgs st) (defBody st) (defScope st) .none kV doc pm an cdv ct:=by
 obtain⟨e1,e4,oc,kV,dc,pm,cd,ct,od,an,sl,e2,e3⟩:=q;exact⟨_,⟨v8 e2 e3 e4,(v8 (st:=st) e2 e3 e4).binds hb,RX X G e1⟩,_,_,_,_,_,_,rfl⟩
section
variable {X:Cx}{E:XK}{e:QX}{es:List QX}{fa:Ev->ak (ac)}{f g h i j:Ev->ak D}{pos:Pos}{CX:yM}{k n:Nat}{fn:P9}{fd:Rx}{ps:al}{m:ac->ak D}{x:Qu}{p:Pos}{st:RH}
def NM(ρ:Ev)(ds:ac)(h:af f aC ρ=.ok ds):ds.length=1:=iY (λ_ h=>FK h) h
def NL(ρ:Ev)(ds:ac)(q:af f (af g aC) ρ=.ok ds):ds.length=2:=iY (NM ρ) q
def NK(ρ:Ev)(ds:ac)(q:af f (af g (af h aC)) ρ=.ok ds):ds.length=3:=iY (NL ρ) q
def NJ(ρ:Ev)(ds:ac)(q:af f (af g (af h (af i aC))) ρ=.ok ds):ds.length=4:=iY (NK ρ) q
def OE(ρ:Ev)(ds:ac)(q:af f (af g (af h (af i (af j aC)))) ρ=.ok ds):ds.length=5:=iY (NJ ρ) q
end
section
variable {X:Cx}{E:XK}{He η:Hp}{a:P9}{e:QX}{es:List QX}{pos:Pos}{f g:Ev->ak D}{fm gm hm im jm:Ev->ac->ak (D×ac)}{fa:Ev->ac->ak (ac×ac)}{s:Ev->ac->ak eD}{st:RH}
noncomputable def qv(f:Ev->ak D):Ev->ak Fl:=λρ=>(f ρ).bind λd=>.ok (.rt d)
def uS(h:DF X E e f):FV X E He η [.Return (some e) pos] (qv f):=by
 refine⟨eH (gG (vC h.o) pG) λD' σ H z9=>?_⟩;obtain⟨Ha,ρ,h,q⟩:=z9;refine⟨Ha,ρ,h.g.sub,h.rd,?_⟩;unfold qv at q;cases e1:f ρ with
 |stuck=>rw[e1]at q;exact q|exn x=>rw[e1]at q;exact λC ox H' Ha' g r=>q C ox H' Ha' (h.g.trans g) r
 |ok d=>
  rw[e1]at q;cases d with|lst ds=>exact λp vs H' Ha' g hp h0 hv rp=>q p vs H' Ha' (h.g.trans g) (h.g.s.free hp) h0 hv rp| _=>exact q.elim
def LJ.dt(h:LJ X He η a e fm):FW X He η a e fm:=⟨PW.pt h.o⟩
def uH(hr:∀ρ st ds,fa ρ st=.ok ds->ds.1.length=n)(ρ:Ev)(st:ac)(ds:ac×ac)(h:aT fm fa ρ st=.ok ds):ds.1.length=n+1:=by
 unfold aT at h;cases e1:fm ρ st with
 |stuck|exn x=>rw[e1]at h;cases h
 |ok p=>
  rw[e1]at h;simp only[ak.bind]at h;cases e2:fa ρ p.2 with|stuck|exn x=>rw[e2]at h;cases h|ok q=>rw[e2]at h;cases h;simp[hr _ _ _ e2]
def Pf(ρ:Ev)(st:ac)(ds:ac×ac)(h:b4 ρ st=.ok ds):ds.1.length=0:=by cases h;rfl
def OD(ρ:Ev)(st:ac)(ds:ac×ac)(h:aT fm b4 ρ st=.ok ds):ds.1.length=1:=uH Pf ρ st ds h
def Pe(ρ:Ev)(st:ac)(ds:ac×ac)(h:aT fm (aT gm b4) ρ st=.ok ds):ds.1.length=2:=uH OD ρ st ds h
variable {CX:yM}{k n:Nat}{fn:P9}{fd:Rx}{ps:al}{x:Qu}{p:Pos}{ft:RH}
def Ft{id:String}(hc:ik X (.builtin id) r)(hd:gY X E r m)(hg:Gl X x)(hm:X.mg x=none)(hv:bootBuiltins x=some (.builtin id))(ha:Io X He η a (e::es) fa)(hn:x≠"__name__":=by decide)(hdb:(x==("__debug__" : Qu))=false:=by decide)
  (he:Qb (e::es) X.env=(false,eval e X.env)::Qb es X.env:=by exact aW rfl)(hpl:(Rg pos (Qb es X.env)).any (·.1)=false:=by exact bH rfl):DM X He η a (.Call (.Name x p) (e::es) [] pos) (mA fa m) :=
 ⟨bg (qJ hc hg hm hv ha.o hn hdb he hpl) (tP hd)⟩
def kZ{l b:QX}(ha:DM X He η a l fm)(hb:DM X He η a b gm):DM X He η a (.BinOp l .Add b pos) (mB fm gm cB):=Jc (E:=E0) (fG.or D8 (fG.or qM (fG.or AO AN))) (by
 intro x y v u H Ha Q hs r1 r2 q;unfold cB at q;cases x with
 |int i=>
  cases y with|int j=>exact .inl ⟨i,j,aB.mp r1,aB.mp r2,bK hs q (ri _)⟩| _=>exact q.elim
 |str i=>
  cases y with
  |str j=>
   by_cases h:i.length+j.length<=line
   .simp only[if_pos h]at q
    exact .inr (.inl ⟨i,j,Rep.str_iff.mp r1,Rep.str_iff.mp r2,dB h,bK hs q (Rep.str_iff.mpr rfl)⟩)
   .simp only[if_neg h]at q;exact q.elim
  |_=>exact q.elim
 |lst ds=>
  cases y with
  |lst es=>
   by_cases h:ds.length+es.length<=line
   .simp only[if_pos h]at q
    obtain⟨l,vs,rfl,h1,h2⟩:=aI.mp r1;obtain⟨m,us,rfl,k1,k2⟩:=aI.mp r2;refine .inr (.inr (.inl ⟨l,m,vs,us,rfl,rfl,aG.sqL hs h1,aG.sqL hs k1,by rw[←h2.length,←k2.length];exact dB h,λp hp=>?_⟩));exact q _ _ _ (bo hs hp) (aI.mpr ⟨p,_,rfl,fk.of aF,(h2.app k2).mono (bo hs hp).z⟩)
   .simp only[if_neg h]at q;exact q.elim
  |_=>exact q.elim
 |tup ds=>
  cases y with
  |tup es=>
   by_cases h:ds.isEmpty=false/\ds.length+es.length<=line
   .simp only[if_pos h]at q
    obtain⟨l,vs,rfl,h1,h2⟩:=aQ.mp r1;obtain⟨m,us,rfl,k1,k2⟩:=aQ.mp r2;refine .inr (.inr (.inr ⟨l,m,vs,us,rfl,rfl,aG.sqT hs h1,aG.sqT hs k1,λz=>?_,by rw[←h2.length,←k2.length];exact dB h.2,λz=>?_,λz p hp=>?_⟩))
    .have:=h2.length
     rw[z]at this;have e:ds=[]:=R6.mp this;rw[e]at h;exact absurd h.1 (by decide)
    .have:=k2.length
     rw[z]at this;have e:es=[]:=R6.mp this;rw[e,QN]at q;exact bK hs q r1
    .exact q _ _ _ (bo hs hp) (aQ.mpr ⟨p,_,rfl,kz.of aF,(h2.app k2).mono (bo hs hp).z⟩)
   .simp only[if_neg h]at q;exact q.elim
  |_=>exact q.elim
 |_=>exact q.elim) ha hb
def Fp{l b:QX}(ha:DM X He η a l fm)(hb:DM X He η a b gm):DM X He η a (.BinOp l .Mod b pos) (mB fm gm dz):=Jc (E:=E0) AM (vN (λ_ _ h=>of_decide_eq_true h) λ_ _ _ _=>ri _) ha hb
def ig{l b:QX}(ha:DM X He η a l fm)(hb:DM X He η a b gm)(hs:nh b:=by intro _ _;rfl):DM X He η a (.Subscript l b pos) (mB fm gm aO):=Nf (E:=E0) EH IG ha hb hs
def Oo(N:al)(n:Nat)(fr:am)(hc:X.calm=true)(hi:MI X He η a tgt iter src)(hok:yG n tg)
  (blk:∀s H C fp pn,(∀He η,DG (cS X N scope s H C fp pn) E He η tgt tg)/\∀He η,DM (cS X N scope s H C fp pn) He η a elt fm)
  (hfr:Ad X N n fr scope)(hcell:(scope.names.all λx=>!(x.2==.cell))=true)(hfree:(scope.names.all λx=>!(x.2==.free)||(X.env.scope.names.lookup x.1==some .cell))=true)(hkind:scope.kind=.function)
  (hnames:(scope.names.all λx=>!(x.2==.local)||(scope.names.lookup x.1==some .local))=true)
  (hs:∀x,foldedSetIterable iter X.env x=pure x:=by intro _;rfl):ON X He η a (.ListComp elt [⟨tgt,iter,[],0⟩] scope pos) (oO n fr src tg fm):=by
 refine PJ (E:=E) N n fr hc hi hok blk hfr (λx hx z=>?_) (λx hx z=>?_) hkind (λx hx z=>?_) hs
 .have:=QF.mp hcell x hx
  rw[z]at this;simp at this
 .have:=QF.mp hfree x hx
  rw[z]at this;simpa using this
 .have:=QF.mp hnames x hx
  rw[z]at this;simpa using this
end
section
variable {X:Cx}{E:XK}{He η:Hp}{a:P9}{st:RH}{e l b:QX}{rest es:List QX}{pos:Pos}{f:Ev->ak D}{fm gm:Ev->ac->ak (D×ac)}
noncomputable def PK(g:Ev->ac->ak (D×ac)) (ρ:Ev) (p:D×ac):ak (D×ac):=match p.1 with
 |.bl b=>if b=true then .ok (.bl true,p.2) else g ρ p.2
 |_=>.stuck
noncomputable def Er(p:D×ac):ak (D×ac):=match p.1 with
 |.bl b=>.ok (.bl (!b),p.2)
 |_=>.stuck
noncomputable def Es(f:Ev->ac->ak (D×ac)):Ev->ac->ak (D×ac):=λρ st=>(f ρ st).bind Er
def HM(ha:FW X He η a l fm):FW X He η a (.UnaryOp .Not l pos) (Es fm):=by
 refine⟨?_⟩;refine gb (DV ha.o) λσ H Q z9=>?_;obtain⟨Ha,ρ,st,vs,h,q⟩:=z9;refine⟨Ha,ρ,st,vs,h,?_⟩
 unfold Es at q;cases e1:fm ρ st with
 |stuck|exn x=>rw[e1]at q;exact q
 |ok p=>
  obtain⟨d,st'⟩:=p;rw[e1]at q;cases d with|bl c=>exact λH1 H01 us z h1=>q H1 H01 us z h1| _=>exact q.elim
end
noncomputable def kS(fa:Ev->ak (ac)) (m:ac->ak D):Ev->ak Fl:=λρ=>match fa ρ with
 |.ok ds=>(m ds).bind λ_=>.ok (.nx ρ)
 |_=>.stuck
section
variable {X:Cx}{e:QX}{es:List QX}{fa:Ev->ak (ac)}{pos:Pos}{k n:Nat}{fn:P9}{fd:Rx}{ps:al}{m:ac->ak D}{x:Qu}{p:Pos}{st:RH}
def Gz(F:FnOk X.prog X.w X.K X.mg X.base (oa X.prog X.w) k fn fd ps (spD X.K n m))(hr:cK k X.A)(hg:Gl X x)(hm:X.mg x=some (.ref fn))
  (hk:SN X.K (.ref fn)=true)(hb:il X.K fd ps [])(ha:DA X.nox E0 (e::es) fa)(hn:(e::es).length=n:=by rfl)(hl:∀ρ ds,fa ρ=.ok ds->ds.length=(e::es).length)
  (hdb:(x==("__debug__" : Qu))=false:=by decide)(he:Qb (e::es) X.env=(false,eval e X.env)::Qb es X.env:=by exact aW rfl)(hpl:(Rg cpos (Qb es X.env)).any (·.1)=false:=by exact bH rfl)
  (hs:Rq (.Call (.Name x p) (e::es) [] cpos) none pos.line X.env=pure false:=by rfl):TB X (.Expr (.Call (.Name x p) (e::es) [] cpos) pos) (kS fa m):=by
 refine⟨λπ s σ H He η Ha ρ D XE I h q hx=>?_⟩;refine wpAny_Expr_any (de (Ic (Q:=λv H1=>D.nx σ H1) F hr hg hm hk hb ha.o I ?_ hx hdb he hpl) λv s1 ⟨y,H1,I1,r1,q1⟩=>⟨σ,H1,I1,q1⟩) I.quiet hs;refine⟨Ha,ρ,h.g.sub,h.rd,?_⟩;unfold kS at q ⊢;cases e1:fa ρ with
 |stuck=>rw[e1]at q;exact q|exn x=>rw[e1]at q;exact q.elim
 |ok ds=>
  rw[e1]at q;intro vs H1 H01 g1 r1;refine⟨?_,H01,ds,g1.sub,r1,?_⟩
  .have:=r1.length
   have:=hl ρ ds e1;omega
  .show post _ _ _ _ (m ds) _
   cases e2:m ds with
   |stuck=>simp only[e2]at q;exact q
   |exn x=>exact λC ox H' Ha' g ex=>⟨x,Ha',by simp only[e2];rfl,g1.z.trans g.z,h.grow (g1.trans g),ex⟩
   |ok d=>
    simp only[e2]at q;exact λv H' Ha' g rp=>q _ H' Ha' (g1.z.trans g.z) (h.grow (g1.trans g))
end
noncomputable def zx(p:D×ac):ak (ac×ac):=match p.1 with
 |.lst ds=>.ok (ds,p.2)
 |_=>.stuck
noncomputable def AU(f:Ev->ac->ak (D×ac)):Ev->ac->ak (ac×ac):=λρ st=>(f ρ st).bind zx
section
variable {X:Cx}{He η:Hp}{a:P9}{tgt iter:QX}{fm:Ev->ac->ak (D×ac)}
def Hh(hi:DM X He η a iter fm):MI X He η a tgt iter (AU fm):=by
 refine⟨g9 (vF hi.o) λσ H R z9=>?_⟩;obtain⟨Ha,ρ,st,vs,h,q⟩:=z9;refine⟨Ha,ρ,st,vs,h,?_⟩;unfold AU at q;cases e1:fm ρ st with
 |stuck|exn x=>rw[e1]at q;exact q
 |ok pr=>
  obtain⟨d,s1⟩:=pr;rw[e1]at q;intro v H1 H01 us z h1 r1;cases d with
  |lst ds=>
   obtain⟨p,vs',rfl,hv,hrv⟩:=aI.mp r1;refine⟨p,rfl,⟨vs',aG.sqL h1.s.g.sub hv⟩,q _ H1 H01 us z h1 ⟨λi H' Ha' s1 s2 hi=>?_,λi H' Ha' x H2 d s1 s2 hd hy=>?_,λi H' Ha' s1 s2 hi=>?_⟩⟩
   .exact⟨vs',vs'[i]'(by rw[←hrv.length];exact hi),aG.sqL (s1.trans s2) hv,by simp⟩
   .obtain⟨rfl,hy⟩:=hy
    obtain⟨u,k1,k2⟩:=hrv.get hd;have:=hy vs' (aG.sqL (s1.trans s2) hv);rw[k1]at this;cases this;exact⟨Ha',bw.refl s2,k2.mono s1⟩
   .exact⟨vs',aG.sqL (s1.trans s2) hv,by rw[←hrv.length];exact hi⟩
  |_=>exact q.elim
end
theorem Reps.erase{K:P4}:∀{ds:ac}{vs:ad}(n:Nat),Reps K H ds vs->Reps K H (ds.eraseIdx n) (vs.eraseIdx n)
 |[],vs,n,h=>by rw[Reps.nil_iff.mp h];exact Reps.nil
 |d::ds,vs,n,h=>by
  obtain⟨v,vr,rfl,h1,h2⟩:=aM.mp h;cases n with|zero=>exact h2|succ n=>exact Reps.cons h1 (Reps.erase n h2)
structure Rw where
 x:Qu
 st:RH
 N:al
 n:Nat
noncomputable abbrev Rw.ps(r:Rw):al:=r.N.take r.n
instance {N P:al}{sc:T7}:Decidable (eY N P sc) :=
 decidable_of_iff (sc.kind=.function/\sc.isCoroutine=false/\sc.isGenerator=false/\N.Nodup/\N.take P.length=P/\(∀x∈P,sc.names.lookup x=some .local ∨ sc.names.lookup x=some .cell)/\∀y∈sc.names,y.2≠.free)
  ⟨λ⟨a,b,c,d,e,f,g⟩=>⟨a,b,c,d,e,f,g⟩,λ⟨a,b,c,d,e,f,g⟩=>⟨a,b,c,d,e,f,g⟩⟩
noncomputable def OH(rows:List Rw):Prop:=∀r∈rows,eY r.N r.ps (defScope r.st)
instance {rows:List Rw}:Decidable (OH rows):=inferInstanceAs (Decidable (∀r∈rows,_))
noncomputable def TG(rows:List Rw) (K:P4) (mg:Qu->Option P2) (A:Nat->P9) (Q:Nat->Rx):Prop:=∀i r,rows[i]?=some r->FT K mg r.x r.st r.ps (A i) (Q i)
noncomputable def Ll(r:Rw):Prop:=∀(kV doc pm:P2) (an:Option P9) (cdv ct:P2) (us:List P2),us.length=r.ps.length->bindArgs (Sk r.x r.x (defArgs r.st) (defBody r.st) (defScope r.st) .none kV doc pm an cdv ct) ⟨us,[]⟩=pure (r.ps.zip us)
noncomputable def QAs(K:P4):List Rw->List P9->Prop
 |[],_=>True
 |r::rs,a::as=>QA K r.x r.st a/\QAs K rs as
 |_::_,[]=>False
def QAs.cons{K:P4}{st:RH}(q:QA K x st a)(t:QAs K rs as):QAs K (⟨x,st,N,n⟩::rs) (a::as):=⟨q,t⟩
theorem Iq{K:P4}{h:Qr}{mg:Qu->Option P2}(X:K.In h)(G:h.Ns Qt mg):∀{rows:List Rw}{as:List P9},(∀r∈rows,Ll r)->QAs K rows as ->
  ∃Q:Nat->Rx,∀i r,rows[i]?=some r->FT K mg r.x r.st r.ps (as.getD i 0) (Q i)/\∃kV doc pm an cdv ct,Q i=Sk r.x r.x (defArgs r.st) (defBody r.st) (defScope r.st) .none kV doc pm an cdv ct
 |[],as,_,_=>⟨λ_=>default,λi r e=>by simp at e⟩
 |r::rs,[],_,q=>q.elim
 |r::rs,a::as,hb,q=>by
  obtain⟨Q,h⟩:=Iq X G (λr hr=>hb r (Qi _ hr)) q.2;obtain⟨d,h1,h2⟩:=MZ X G q.1 (hb r Qq);refine⟨λi=>match i with|0=>d|i+1=>Q i,λi r' e=>?_⟩;cases i with|zero=>rw[RO]at e;cases e;exact⟨h1,h2⟩|succ i=>rw[Q8]at e;exact h i r' e
structure dE (P:Ra) (w:Rr) (K:P4) (mg:Qu->Option P2) (base:Qr) (CX:yM) (k:Nat) (fn:P9) (fd:Rx) (ps:al) (sp:Sp) (x:Qu) (st:RH):Prop where
 F:FnOk P w K mg base CX k fn fd ps sp
 t:FT K mg x st ps fn fd
section
variable {P:Ra}{w:Rr}{K:P4}{mg:Qu->Option P2}{base:Qr}{rows:List Rw}{A:Nat->P9}{Q:Nat->Rx}{i k n:Nat}{r:Rw}{s:Ev->ak Fl}{sM:P9->Ev->ac->ak eD}
variable (T:TG rows K mg A Q) (S:OH rows) (h:rows[i]?=some r)
include T S h
theorem oD(b:∀(cdv:P2) (A':Q0) (outer:List Rv) (s0:Qj) (H Ha:Hp) (E:XK),cK k (A'.deeper (envOfC r.x (defScope r.st) s0.heap.objs.size (A i) cdv)) ->
   Ae (eZ CX0 P w K mg base r.N r.x (defScope r.st) (A i) cdv A' outer s0 H E).nox E H Ha (defBody r.st) s):dE P w K mg base CX0 (k+1) (A i) (Q i) r.ps (spD K r.ps.length (b7 r.N.length s)) r.x r.st :=
 ⟨Cv (T i r h).F (S r (Qh h)) b,T i r h⟩
theorem oE(b:∀(cdv:P2) (A':Q0) (outer:List Rv) (s0:Qj) (H Ha:Hp) (E:XK),cK k (A'.deeper (envOfC r.x (defScope r.st) s0.heap.objs.size (A i) cdv)) ->
   Ae (eZ (oa P w) P w K mg base r.N r.x (defScope r.st) (A i) cdv A' outer s0 H E) E H Ha (defBody r.st) s):dE P w K mg base (oa P w) (k+1) (A i) (Q i) r.ps (spD K r.ps.length (b7 r.N.length s)) r.x r.st :=
 ⟨zI (T i r h).F (S r (Qh h)) b,T i r h⟩
theorem oF(b:∀(cdv:P2) (A':Q0) (outer:List Rv) (s0:Qj) (H Ha:Hp) (E:XK),cK k (A'.deeper (envOfC r.x (defScope r.st) s0.heap.objs.size (A i) cdv)) ->
   FV (eZ CX0 P w K mg base r.N r.x (defScope r.st) (A i) cdv A' outer s0 H E).nox E H Ha (defBody r.st) s):dE P w K mg base CX0 (k+1) (A i) (Q i) r.ps (Iw K r.ps.length (o9 r.N.length s)) r.x r.st :=
 ⟨zH (T i r h).F (S r (Qh h)) b,T i r h⟩
theorem oM(hn:r.ps.length=n+1)(b:∀(cdv:P2) (A':Q0) (outer:List Rv) (s0:Qj) (H He Ha:Hp) (a:P9) (E:XK),cK k (A'.deeper (envOfC r.x (defScope r.st) s0.heap.objs.size (A i) cdv)) ->
   Ik (eZ CX0 P w K mg base r.N r.x (defScope r.st) (A i) cdv A' outer s0 H E).nox He Ha a (defBody r.st) (sM a)):dE P w K mg base CX0 (k+1) (A i) (Q i) r.ps (B4 K n (nE r.N.length sM)) r.x r.st :=
 ⟨zG (T i r h).F (S r (Qh h)) hn b,T i r h⟩
end
section
variable {P:Ra}{w:Rr}{K:P4}{mg:Qu->Option P2}{base:Qr}{CX:yM}{k:Nat}{fn:P9}{fd:Rx}{ps:al}{n:Nat}{m:ac->ak D}{x:Qu}{st:RH}
def dE.noX(B:dE P w K mg base (oa P w) k fn fd ps (spD K n m) x st):dE P w K mg base CX0 k fn fd ps (spD K n (DL.noX m)) x st:=⟨DL.FnOk.noX B.F,B.t⟩
def dE.fD(B:dE P w K mg base CX k fn fd ps (Iw K n (o9 nn s)) x st):dE P w K mg base CX k fn fd ps (spD K n (o9 nn s)) x st:=⟨B.F.imp (GH λ_ _ h=>Dw h),B.t⟩
end
section
variable {X:Cx}{E:XK}{e:QX}{es:List QX}{fa:Ev->ak (ac)}{pos:Pos}{CX:yM}{k k0 n:Nat}{fn:P9}{fd:Rx}{ps:al}{m:ac->ak D}{x:Qu}{p:Pos}{st:RH}
def rC(B:dE X.prog X.w X.K X.mg X.base CX k0 fn fd ps (spD X.K n m) x st)(hr:cK k X.A)(ha:DA X E (e::es) fa)(hle:k0<=k:=by decide)(hx:fX CX X E:=by first|exact AL|exact pass0E|exact AK)(hl:∀ρ ds,fa ρ=.ok ds->ds.length=(e::es).length:=by first|exact NM|exact NL|exact NK|exact NJ|exact OE)(hn:(e::es).length=n:=by rfl)
  (hg:Gl X x:=by exact rfl)(hdb:(x==("__debug__" : Qu))=false:=by decide)(he:Qb (e::es) X.env=(false,eval e X.env)::Qb es X.env:=by exact aW rfl)(hpl:(Rg pos (Qb es X.env)).any (·.1)=false:=by exact bH rfl) :
  DE X E (.Call (.Name x p) (e::es) [] pos) (aq fa m):=HV (B.F.mono hle) hr hg B.t.g B.t.F.kp B.t.b hx ha hn hl hdb he hpl
def rF(B:dE X.prog X.w X.K X.mg X.base CX k0 fn fd ps (Iw X.K n m) x st)(hr:cK k X.A)(ha:DA X E (e::es) fa)(hle:k0<=k:=by decide)(hx:fX CX X E:=by first|exact AL|exact pass0E|exact AK)(hl:∀ρ ds,fa ρ=.ok ds->ds.length=(e::es).length:=by first|exact NM|exact NL|exact NK|exact NJ|exact OE)(hn:(e::es).length=n:=by rfl)
  (hg:Gl X x:=by exact rfl)(hdb:(x==("__debug__" : Qu))=false:=by decide)(he:Qb (e::es) X.env=(false,eval e X.env)::Qb es X.env:=by exact aW rfl)(hpl:(Rg pos (Qb es X.env)).any (·.1)=false:=by exact bH rfl) :
  DF X E (.Call (.Name x p) (e::es) [] pos) (aq fa m):=HR (B.F.mono hle) hr hg B.t.g B.t.F.kp B.t.b hx ha hn hl hdb he hpl
def rD(B:dE X.prog X.w X.K X.mg X.base (oa X.prog X.w) k0 fn fd ps (spD X.K n m) x st)(hr:cK k X.A)(ha:DA X.nox E0 (e::es) fa)(hle:k0<=k:=by decide)(hl:∀ρ ds,fa ρ=.ok ds->ds.length=(e::es).length:=by first|exact NM|exact NL|exact NK|exact NJ|exact OE)(hn:(e::es).length=n:=by rfl)
  (hg:Gl X x:=by exact rfl)(hdb:(x==("__debug__" : Qu))=false:=by decide)(he:Qb (e::es) X.env=(false,eval e X.env)::Qb es X.env:=by exact aW rfl)(hpl:(Rg cpos (Qb es X.env)).any (·.1)=false:=by exact bH rfl)
  (hs:Rq (.Call (.Name x p) (e::es) [] cpos) none pos.line X.env=pure false:=by rfl):TB X (.Expr (.Call (.Name x p) (e::es) [] cpos) pos) (kS fa m):=Gz (B.F.mono hle) hr hg B.t.g B.t.F.kp B.t.b ha hn hl hdb he hpl hs
end
section
variable {X:Cx}{He η:Hp}{a:P9}{E:XK}{e:QX}{es:List QX}{fa:Ev->ac->ak (ac×ac)}{pos:Pos}{CX:yM}{k k0 n:Nat}{fn:P9}{fd:Rx}{ps:al}{x:Qu}{p:Pos}{ft:RH}
def PF(B:dE X.prog X.w X.K X.mg X.base CX k0 fn fd ps (spD X.K n m) x ft)(hr:cK k X.A)(ha:Io X He η a (e::es) fa)(hle:k0<=k:=by decide)(hx:fX CX X E0:=by exact AL)(hl:∀ρ st ds,fa ρ st=.ok ds->ds.1.length=(e::es).length:=by first|exact OD|exact Pe|exact am3|exact am4|exact am5)(hn:(e::es).length=n:=by rfl)
  (hg:Gl X x:=by exact rfl)(hdb:(x==("__debug__" : Qu))=false:=by decide)(he:Qb (e::es) X.env=(false,eval e X.env)::Qb es X.env:=by exact aW rfl)(hpl:(Rg pos (Qb es X.env)).any (·.1)=false:=by exact bH rfl) :
  DM X He η a (.Call (.Name x p) (e::es) [] pos) (mA fa m):=HP (E:=E0) (B.F.mono hle) hr hg B.t.g B.t.F.kp B.t.b hx ha hn hl hdb he hpl
def rM(i:Nat)(B:dE X.prog X.w X.K X.mg X.base CX k0 fn fd ps (B4 X.K n m) x ft)(hr:cK k X.A)(ha:Io X He η a es fa)(hle:k0<=k:=by decide)(hx:fX CX X E0:=by exact AL)(hl:∀ρ st ds,fa ρ st=.ok ds->ds.1.length=n:=by first|exact Pf|exact OD|exact Pe|exact am3|exact am4|exact am5)
  (hN:X.N[i]?=some y:=by rfl)(hv:yK X.env.scope y:=by first|exact Qd rfl|exact UK (Qd rfl)|exact UK (UK rfl))(hg:Gl X x:=by exact rfl)
  (hd:(y==("__debug__" : Qu))=false:=by decide)(hcd:(y==("__classdict__" : Qu))=false:=by decide)(hdb:(x==("__debug__" : Qu))=false:=by decide)(he:Qb (.Name y p1::es) X.env=(false,eval (.Name y p1) X.env)::Qb es X.env:=by exact aW rfl)(hpl:(Rg pos (Qb es X.env)).any (·.1)=false:=by exact bH rfl) :
  DM X He η a (.Call (.Name x p) (.Name y p1::es) [] pos) (bD i a fa m):=Fs (E:=E0) (B.F.mono hle) hr hg B.t.g B.t.F.kp B.t.b hx hN hv ha hl hd hcd hdb he hpl
end
def PY(hn:r.ps.length=1:=by rfl)(hb:∀(kV doc pm:P2) (an:Option P9) (cdv ct b:P2),bindArgs (Sk r.x r.x (defArgs r.st) (defBody r.st) (defScope r.st) .none kV doc pm an cdv ct) ⟨[b],[]⟩=pure (r.ps.zip [b]):=by intros;rfl):Ll r:=λ_ _ _ _ _ _ us hl=>by
 obtain⟨b,rfl⟩:=Pc (hl.trans hn);exact hb ..
def PX(hn:r.ps.length=2:=by rfl)(hb:∀(kV doc pm:P2) (an:Option P9) (cdv ct b c:P2),bindArgs (Sk r.x r.x (defArgs r.st) (defBody r.st) (defScope r.st) .none kV doc pm an cdv ct) ⟨[b,c],[]⟩=pure (r.ps.zip [b,c]):=by intros;rfl):Ll r:=λ_ _ _ _ _ _ us hl=>by
 obtain⟨b,c,rfl⟩:=Oq (hl.trans hn);exact hb ..
def PU(hn:r.ps.length=3:=by rfl)(hb:∀(kV doc pm:P2) (an:Option P9) (cdv ct b c d:P2),bindArgs (Sk r.x r.x (defArgs r.st) (defBody r.st) (defScope r.st) .none kV doc pm an cdv ct) ⟨[b,c,d],[]⟩=pure (r.ps.zip [b,c,d]):=by intros;rfl):Ll r:=λ_ _ _ _ _ _ us hl=>by
 obtain⟨b,c,d,rfl⟩:=Pb (hl.trans hn);exact hb ..
def PR(hn:r.ps.length=4:=by rfl)(hb:∀(kV doc pm:P2) (an:Option P9) (cdv ct b c d e:P2),bindArgs (Sk r.x r.x (defArgs r.st) (defBody r.st) (defScope r.st) .none kV doc pm an cdv ct) ⟨[b,c,d,e],[]⟩=pure (r.ps.zip [b,c,d,e]):=by intros;rfl):Ll r:=λ_ _ _ _ _ _ us hl=>by
 obtain⟨b,c,d,e,rfl⟩:=Pa (hl.trans hn);exact hb ..
def PQ(hn:r.ps.length=5:=by rfl)(hb:∀(kV doc pm:P2) (an:Option P9) (cdv ct b c d e f:P2),bindArgs (Sk r.x r.x (defArgs r.st) (defBody r.st) (defScope r.st) .none kV doc pm an cdv ct) ⟨[b,c,d,e,f],[]⟩=pure (r.ps.zip [b,c,d,e,f]):=by intros;rfl):Ll r:=λ_ _ _ _ _ _ us hl=>by
 obtain⟨b,c,d,e,f,rfl⟩:=PL (hl.trans hn);exact hb ..
end DL
namespace Com
open PySem L2 DL
noncomputable def Ki(st:ac) (d:D):ak (D×ac):=.ok (d,st)
noncomputable def O5(st:ac) (d:D):ak eD:=.ok (.rt d st)
noncomputable def xB{α:Type}(b:Bool) (x:ak α):ak α:=if b=true then x else .stuck
noncomputable def O8(g:Ev->ac->ak (D×ac)) (op:D->D->ak D) (ρ:Ev) (p:D×ac):ak (D×ac):=(g ρ p.2).bind λq=>(op p.1 q.1).bind λd=>.ok (d,q.2)
noncomputable def MJ(op:D->D->ak D) (x:D) (q:D×ac):ak (D×ac):=(op x q.1).bind (Ki q.2)
noncomputable def O7(fa:Ev->ac->ak (ac×ac)) (ρ:Ev) (p:D×ac):ak (ac×ac):=(fa ρ p.2).bind λq=>.ok (p.1::q.1,q.2)
noncomputable def MH(x:D) (q:ac×ac):ak (ac×ac):=.ok (x::q.1,q.2)
noncomputable def O9(m:ac->ak D) (p:ac×ac):ak (D×ac):=(m p.1).bind λd=>.ok (d,p.2)
noncomputable def O4(st ds:ac):ak (ac×ac):=.ok (ds,st)
noncomputable def O6(tg:Ev->D->ak Ev) (s:Ev->ac->ak eD) (ρ:Ev) (p:ac×ac):ak eD:=forM tg s p.1 ρ p.2
noncomputable def O3(k:Ev->ac->ak (D×ac)) (ρ:Ev) (p:D×ac):ak eD:=(k ρ p.2).bind (lB ρ p.1)
section
variable {s t:Ev->ac->ak eD}{S:Ev->ak Fl}{f g h:Ev->ac->ak (D×ac)}{F:Ev->ak D}{fa:Ev->ac->ak (ac×ac)}{src:Ev->ak (ac)}{srm:Ev->ac->ak (ac×ac)}{tg:Ev->D->ak Ev}{ρ r:Ev}{i j n:Nat}{d x y:D}{st ds xs:ac}{op:D->D->ak D}{a:P9}
def E9:aV s t ρ st=(s ρ st).bind (AV t):=aJ rfl
def Bs:AV t (.nx ρ st)=t ρ st:=aJ rfl
def Br:AV t (.rt d st)=.ok (.rt d st):=aJ rfl
def BA:bS ρ st=.ok (.nx ρ st):=aJ rfl
def Bx:cG S ρ st=(S ρ).bind (zy st):=aJ rfl
def yo:zy st (.nx ρ)=.ok (.nx ρ st):=aJ rfl
def E8:dD i f ρ st=(f ρ st).bind (Eo i ρ):=aJ rfl
def Bq:Eo i ρ (d,st)=.ok (.nx (ρ.set i (.sh d)) st):=aJ rfl
def Fc:Hi f ρ st=(f ρ st).bind Ep:=aJ rfl
def Bv:Ep (d,st)=.ok (.rt d st):=aJ rfl
def Bu:ff F ρ st=(F (ey ρ)).bind (O5 st):=aJ rfl
def yn:O5 st d=.ok (.rt d st):=aJ rfl
def IS:Cm f s t ρ st=(f ρ st).bind (Hj s t ρ):=aJ rfl
def Fg:Hj s t ρ (.bl true,st)=s ρ st:=aJ rfl
def Ff:Hj s t ρ (.bl false,st)=t ρ st:=aJ rfl
def M7:mP F ρ st=(F ρ).bind (Ki st):=aJ rfl
def IW:Ki st d=.ok (d,st):=aJ rfl
def M8:mL F ρ st=(F (ey ρ)).bind (kG st):=aJ rfl
def IT:kG st (.int k)=.ok (.int k,st):=aJ rfl
def IU{b:Bool}:kG st (.bl b)=.ok (.bl b,st):=aJ rfl
def M5:mV i a F ρ st=xB (jJ ρ[i]? a) ((F (vw i ρ st)).bind (kG st)):=aJ rfl
def M6:mT F ρ st=(F (ey ρ)).bind (Ki st):=aJ rfl
def IV:NH i a F ρ st=xB (jJ ρ[i]? a) ((F (vw i ρ st)).bind (Ki st)):=aJ rfl
def IQ:jJ (some (.pt a)) a=true:=beq_self_eq_true a
def Bz{z:ak α}:xB true z=z:=if_pos rfl
def IP:vw i ρ st=(ey ρ).set i (.sh (.lst st)):=aJ rfl
def E7:vy (.pt a)=.pt a:=aJ rfl
def M9:mB f g op ρ st=(f ρ st).bind (O8 g op ρ):=aJ rfl
def IZ:O8 g op ρ (x,st)=(g ρ st).bind (MJ op x):=aJ rfl
def IY:MJ op x (y,st)=(op x y).bind (Ki st):=aJ rfl
def Fe:b4 ρ st=.ok ([],st):=aJ rfl
def BC:aT f fa ρ st=(f ρ st).bind (O7 fa ρ):=aJ rfl
def yq:O7 fa ρ (x,st)=(fa ρ st).bind (MH x):=aJ rfl
def yp:MH x (xs,st)=.ok (x::xs,st):=aJ rfl
def Na:mA fa m ρ st=(fa ρ st).bind (O9 m):=aJ rfl
def Ja:O9 m (ds,st)=(m ds).bind (Ki st):=aJ rfl
def BE:bD i a fa m ρ st=xB (jJ ρ[i]? a) ((fa ρ st).bind (zW a m)):=aJ rfl
def yr:zW a m (ds,st)=m a st ds:=aJ rfl
def Fd:xJ i a f h ρ st=xB (jJ ρ[i]? a) ((f ρ st).bind (O3 h ρ)):=aJ rfl
def Bw:O3 h ρ (d,st)=(h ρ st).bind (lB ρ d):=aJ rfl
def Fi:vR i f ρ st=zg ρ[i]? λds=>(f ρ st).bind (uI i ρ ds):=aJ rfl
def By:zg (some (.ow (.lst ds))) k=k ds:=aJ rfl
def mR(e:decide (ds.length<=999)=true):uI i ρ ds (d,st)=.ok (.nx (ρ.set i (.ow (.lst (ds++[d])))) st):=if_pos (RW (of_decide_eq_true e) (by decide))
def Fj:Et f g ρ st=(f ρ st).bind (AW g ρ):=aJ rfl
def BG:AW g ρ (.bl true,st)=g ρ st:=aJ rfl
def BF:AW g ρ (.bl false,st)=.ok (.bl false,st):=aJ rfl
def E6:Ck src ρ st=(src ρ).bind (O4 st):=aJ rfl
def Bp:O4 st ds=.ok (ds,st):=aJ rfl
def Bo:xI f ρ st=(f ρ st).bind qV:=aJ rfl
def mQ(e:-4611686018427387904<=k/\k<4611686018427387904):qV (.int k,st)=.ok (intsFrom 0 k.toNat,st):=if_pos e
def Fh:oz srm tg s ρ st=(srm ρ st).bind (O6 tg s ρ):=aJ rfl
def BB:O6 tg s ρ (ds,st)=forM tg s ds ρ st:=aJ rfl
def BD{fr:am}:oO n fr srm tg f ρ st=(srm ρ st).bind (sW (fj n fr ρ) tg f):=aJ rfl
def Fb{b:P9->Ev->ac->ak eD}:nE n b a st ds=(b a (.pt a::ds.map Sl.sh++QG (n-(ds.length+1)) .no) st).bind Dv:=aJ rfl
def Bt:Dv (.rt d st)=.ok (d,st):=aJ rfl
end
def jK{tg:Ev->D->ak Ev}{body:Ev->ac->ak eD}(I:Nat->Ev->ac->Prop)(ds:ac)(step:∀(j:Nat) (d:D) (ρ:Ev) (st:ac),ds[j]?=some d->I j ρ st->∃ρ1 ρ2 st2,tg ρ d=.ok ρ1/\(body ρ1 st=.ok (.nx ρ2 st2)∨body ρ1 st=.ok (.ct ρ2 st2))/\I (j+1) ρ2 st2) :
  ∀(j:Nat) (ρ:Ev) (st:ac),j<=ds.length->I j ρ st->∃ρ2 st2,forM tg body (ds.drop j) ρ st=.ok (.nx ρ2 st2)/\I ds.length ρ2 st2:=by
 intro j ρ st hj h;generalize hk:ds.length-j=k
 induction k generalizing j ρ st with
 |zero=>
  have:j=ds.length:=by omega
  subst this;exact⟨ρ,st,by rw[Sr];rfl,h⟩
 |succ k ih=>
  have hlt:j<ds.length:=by omega
  obtain⟨ρ1,ρ2,st2,h1,h2,h3⟩:=step j ds[j] ρ st (P5 hlt) h;obtain⟨ρ3,st3,h4,h5⟩:=ih (j+1) ρ2 st2 (by omega) h3 (by omega);refine⟨ρ3,st3,?_,h5⟩;rw[QZ hlt];unfold DL.forM;rw[h1];rcases h2 with h2|h2
  .simp only[ak.bind,h2];exact h4
  .simp only[ak.bind,h2];exact h4
theorem uZ{b:Ev}{tg:Ev->D->ak Ev}{fm:Ev->ac->ak (D×ac)}(I:ac->Prop)(P:D->Prop):∀(ds st:ac),I st->(∀d st,d∈ds->I st->∃ρ1 y st2,tg b d=.ok ρ1/\fm ρ1 st=.ok (y,st2)/\P y/\I st2)->∃es st2,iR b tg fm ds st=.ok (es,st2)/\es.length=ds.length/\(∀e∈es,P e)/\I st2
 |[],st,h,_=>⟨[],st,rfl,rfl,λe he=>by simp at he,h⟩
 |d::ds,st,h,step=>by
  obtain⟨ρ1,y,st1,h1,h2,h3,h4⟩:=step d st (by simp) h;obtain⟨es,st2,k1,k2,k3,k4⟩:=uZ I P ds st1 h4 λd' st' hd=>step d' st' (Qi _ hd);refine⟨y::es,st2,?_,by simp[k2],λe he=>?_,k4⟩
  .unfold iR
   rw[h1];simp only[ak.bind,h2,k1]
  .rcases Qs.mp he with rfl|he
   .exact h3
   .exact k3 e he
end Com
namespace Bor
open PySem L2 DL
noncomputable abbrev bx:ac->ak D:=Cod.bx
noncomputable def jo:Ev->ak Fl :=
 (oj (bJ 2 (dC (.int 0)))
 (oj (er (ag (ae 1) (aq (af (ae 0) aC) (m1 cT)) KZ)
 (aA (bJ 2 (ag (ae 0) (ae 1) aO))
 aw)
 aw)
 (qv (aq (af (ae 2) (af (ag (ag (ag (ag (ae 2) (dC (.int 2147483587)) dz) (ag (ag (dC (.int 104729)) (ae 1) b3) (ae 1) b3) cB) (dC (.int 7)) cB) (dC (.int 2147483587)) dz) (af (ag (ae 2) (ag (dC (.int 10)) (dC (.int 18)) nW) OB) aC))) b9))))
noncomputable def ck:ac->ak D:=o9 3 jo
noncomputable def jY:P9->Ev->ac->ak eD:=λa=>
 (aV (Cm (NH 0 a (ag (ae 0) (dC (.int 2)) aO))
 (aV (dD 2 (mV 0 a (ag (ag (ae 0) (dC (.int 0)) aO) (ae 1) dz)))
 (aV (xJ 0 a (mV 0 a (ag (ag (ae 0) (dC (.int 0)) aO) (ae 1) sU)) (mP (dC (.int 0))))
 (aV (xJ 0 a (mV 0 a (ag (ag (ae 0) (dC (.int 0)) aO) (dC (.int 0)) F1)) (mP (dC (.int 2))))
 (aV (ff (ae 2))
 bS))))
 bS)
 (aV (cG (bJ 3 (dC (.int 0))))
 (aV (oz (Ck (kD (ag (dC (.int 1)) (ag (dC (.int 2)) (aq (af (ag (ae 1) (ag (dC (.int 10)) (dC (.int 6)) nW) F1) aC) (m1 k8)) b3) cB))) (b6 4)
 (aV (xJ 0 a (mV 0 a (ag (ag (ag (ag (ae 0) (dC (.int 1)) aO) (dC (.int 39373)) b3) (dC (.int 17)) cB) (dC (.int 2147483647)) dz)) (mP (dC (.int 1))))
 (aV (dD 3 (mV 0 a (ag (ag (ae 3) (dC (.int 2147483587)) b3) (ag (ag (ag (ae 0) (dC (.int 1)) aO) (ag (ae 0) (dC (.int 1)) aO) b3) (dC (.int 2147483587)) dz) cB)))
 bS)))
 (aV (ff (ag (ag (ae 3) (dC (.int 64)) sU) (ae 1) dz))
 bS))))
noncomputable def aH:P9->ac->ac->ak (D×ac):=nE 5 jY
noncomputable def m8:P9->Ev->ac->ak eD:=λa=>
 (aV (dD 2 (oO 1 [0] (Ck (kD (dC (.int 8)))) (b6 0) (bD 1 a (aT (mP (dC (.int 26))) b4) aH)))
 (aV (dD 3 (mB (mP (dC (.int 1))) (bD 0 a (aT (mP (dC (.int 8))) b4) aH) cB))
 (aV (dD 4 (bD 0 a (aT (mP (ae 3)) b4) aH))
 (aV (dD 5 (bD 0 a (aT (mP (dC (.int 26))) b4) aH))
 (aV (dD 6 (mB (mP (aq (af (dC (.int 1)) (af (dC (.int 3)) (af (dC (.int 5)) (af (dC (.int 7)) (af (dC (.int 9)) (af (dC (.int 11)) aC)))))) b9)) (bD 0 a (aT (mP (dC (.int 6))) b4) aH) aO))
 (aV (dD 7 (mB (bD 0 a (aT (mP (dC (.int 3))) b4) aH) (mP (dC (.int 0))) kH))
 (aV (cG (gE 8 (aq aC b9)))
 (aV (cG (qw (ae 1) (b6 9)
 (aA (gE 10 (pz (ae 2) ib (gK (ae 3))))
 (aA (Du 10 (ag (ag (ae 5) (ag (ae 6) (ae 9) b3) cB) (dC (.int 26)) dz) (ae 4))
 (aA (er (ae 7)
 (aA (gE 10 (pz (ae 2) ib (gK (ag (dC (.int 1)) (ag (ag (ae 5) (ae 9) cB) (dC (.int 8)) dz) cB))))
 aw)
 aw)
 (aA (yY 10 (cU 8 (uW (dC (.str "")) (af (di 1 [] (kq (ae 10)) (b6 0) mYes (ag (dC (.str "abcdefghijklmnopqrstuvwxyz")) (ae 0) aO)) aC))))
 aw))))))
 (aV (ff (ae 8))
 bS)))))))))
noncomputable def dS:P9->ac->ac->ak (D×ac):=nE 11 m8
noncomputable def kN:P9->Ev->ac->ak eD:=λa=>
 (aV (dD 2 (bD 0 a (aT (mP (dC (.int 6))) b4) aH))
 (aV (dD 3 (mB (mP (ae 1)) (bD 0 a (aT (mP (ag (aq (af (dC (.int 3)) (af (dC (.int 6)) (af (dC (.int 20)) (af (dC (.int 12)) (af (dC (.int 90)) (af (ag (dC (.int 10)) (dC (.int 12)) nW) aC)))))) b9) (ae 2) aO)) b4) aH) cB))
 (aV (cG (bJ 4 (ag (aq (af (dC (.int 1)) (af (dC (.int 1)) (af (dC (.int 1)) (af (dC (.int 4)) (af (dC (.int 12)) (af (dC (.int 12)) aC)))))) b9) (ae 2) aO)))
 (aV (cG (bJ 5 (aq (af (dC (.int 1)) (af (dC (.int 2)) (af (dC (.int 3)) (af (dC (.int 4)) (af (dC (.int 5)) (af (dC (.int 6)) (af (dC (.int 10)) (af (dC (.int 12)) (af (dC (.int 15)) (af (dC (.int 20)) (af (dC (.int 30)) (af (dC (.int 60)) aC)))))))))))) b9)))
 (aV (Hi (mA (aT (mP (ae 3)) (aT (mB (mP (ae 5)) (bD 0 a (aT (mP (ae 4)) b4) aH) aO) b4)) bx))
 bS)))))
noncomputable def bC:P9->ac->ac->ak (D×ac):=nE 6 kN
noncomputable def gW:P9->Ev->ac->ak eD:=λa=>
 (aV (cG (bJ 3 (aq (af (ae 1) aC) (m1 cT))))
 (aV (dD 4 (bD 0 a (aT (mP (ae 3)) b4) aH))
 (aV (dD 5 (mB (mB (mP (ag (ae 4) (dC (.int 1)) cB)) (bD 0 a (aT (mP (ag (ae 3) (dC (.int 1)) ku)) b4) aH) cB) (mP (ae 3)) dz))
 (aV (Cm (mB (bD 0 a (aT (mP (dC (.int 2))) b4) aH) (mP (dC (.int 0))) kH)
 (aV (cG (bJ 4 (ag (ae 2) (ae 3) dz)))
 (aV (cG (bJ 5 (ag (ag (ae 2) (dC (.int 1)) cB) (ae 3) dz)))
 bS))
 bS)
 (aV (dD 6 (mB (mP (aq (af (dC (.str "one")) (af (dC (.str "both")) aC)) b9)) (bD 0 a (aT (mP (dC (.int 2))) b4) aH) aO))
 (aV (dD 7 (bD 0 a (aT (mP (dC (.int 0))) b4) bC))
 (aV (dD 8 (bD 0 a (aT (mP (dC (.int 1))) b4) bC))
 (aV (Cm (mB (bD 0 a (aT (mP (dC (.int 4))) b4) aH) (mP (dC (.int 0))) kH)
 (aV (cG (bJ 8 (dC (.non))))
 bS)
 bS)
 (aV (ff (aq (af (ag (ae 1) (ae 4) aO) (af (ag (ae 1) (ae 5) aO) (af (ae 6) (af (ae 7) (af (ae 8) aC))))) gj))
 bS)))))))))
noncomputable def cQ:P9->ac->ac->ak (D×ac):=nE 9 gW
noncomputable def lh:P9->Ev->ac->ak eD:=λa=>
 (aV (dD 3 (bD 0 a (aT (mB (mP (dC (.int 2))) (bD 0 a (aT (mP (ag (ae 1) (dC (.int 1)) ku)) b4) aH) cB) b4) dS))
 (aV (cG (bJ 4 (aq (af (ae 3) aC) (m1 cT))))
 (aV (cG (gE 5 (aq aC b9)))
 (aV (oz (xI (bD 0 a (aT (mP (ag (ae 2) (dC (.int 1)) cB)) b4) aH)) (b6 6)
 (aV (vR 5 (bD 0 a (aT (mP (ae 3)) (aT (mP (ae 6)) b4)) cQ))
 bS))
 (aV (cG (bJ 7 (dC (.int 0))))
 (aV (cG (bJ 8 (ag (ae 4) (dC (.int 1)) ku)))
 (aV (Cm (mB (bD 0 a (aT (mP (dC (.int 2))) b4) aH) (mP (dC (.int 0))) kH)
 (aV (dD 7 (bD 0 a (aT (mP (ae 4)) b4) aH))
 (aV (dD 8 (mB (mB (mP (ag (ae 7) (dC (.int 1)) cB)) (bD 0 a (aT (mP (ag (ae 4) (dC (.int 1)) ku)) b4) aH) cB) (mP (ae 4)) dz))
 bS))
 bS)
 (aV (ff (aq (af (ae 3) (af (ae 5) (af (ag (ae 3) (ae 7) aO) (af (ag (ae 3) (ae 8) aO) aC)))) gj))
 bS))))))))
noncomputable def dF:P9->ac->ac->ak (D×ac):=nE 9 lh
end Bor
namespace DL
open PySem PySem.Spec PyProof.Rows L2
def Reps.dropLast{K:P4}(h:Reps K H ds vs):Reps K H ds.dropLast vs.dropLast:=by
 rw[Vo,Vo,h.length];exact h.take _
noncomputable def pE(is:am) (i:Nat) (ρ:Ev) (ds:ac):ak Fl:=match ds.getLast? with
 |some d=>match gf is.length d with
  |some es=>.ok (.nx (dr (ρ.set i (.ow (.lst ds.dropLast))) is es))
  |none=>.stuck
 |none=>.stuck
noncomputable def i9(is:am) (i:Nat):Ev->ak Fl:=λρ=>match ρ[i]? with
 |some (.ow (.lst ds))=>pE is i ρ ds
 |_=>.stuck
section
variable {X:Cx}{E:XK}{He η:Hp}{es:List QX}{is:am}{pos:Pos}
def CC(hc:X.calm=true)(hN:X.N[i]?=some x)(hv:yK X.env.scope x)(h:CU X es (Lp is))
  (hd:(x==("__debug__" : Qu))=false:=by decide)(hcd:(x==("__classdict__" : Qu))=false:=by decide)
  (hbase:Sz (.Name x p1) "pop" X.env (eval (.Name x p1) X.env)=eval (.Name x p1) X.env:=by rfl)(hline:(p2.endLine==p3.line)=true:=by rfl)
  (hs:swapsWithSole [.Tuple es k tp] (.Call (.Attribute (.Name x p1) "pop" p2) [] [] p3) pos.line X.env=pure false:=by rfl)(hw:swappedStores [.Tuple es k tp] (.Call (.Attribute (.Name x p1) "pop" p2) [] [] p3) X.env=pure none:=by rfl)
  (h1:(assignEach [.Tuple es k tp] X.env).map (·.2)=[assign (.Tuple es k tp) X.env]:=by rfl)(hn:(assignEach es X.env).length=is.length:=by rfl)(hst:(assignEach es X.env).findIdx? (·.1)=none:=by rfl) :
  DS X E He η (.Assign [.Tuple es k tp] (.Call (.Attribute (.Name x p1) "pop" p2) [] [] p3) pos) (i9 is i):=by
 refine⟨?_⟩;refine bO (vE (J6 SK Vm Vl Kh (fS hN hv hd hcd) hbase hline) (D2 hc h hn hst) hs hw h1) λD σ H ⟨Ha,ρ,h,q⟩=>?_;unfold i9 at q;cases e0:ρ[i]? with
 |none=>rw[e0]at q;exact q.elim
 |some sl=>
  rw[e0]at q;cases sl with
  |ow d=>
   cases d with
   |lst ds=>
    simp only at q;unfold pE at q;obtain⟨p,k1,k2,k3,ws,k4,k5⟩:=h.ow i _ e0;have hlen:=k5.length;refine⟨.ref p,k1,.inl ⟨rfl,ws,fk.of k4⟩,?_⟩;cases e1:ds.getLast? with
    |none=>rw[e1]at q;exact q.elim
    |some d=>
     rw[e1]at q;simp only at q;rw[List.getLast?_eq_getElem?]at e1;obtain⟨y,y1,y2⟩:=k5.get e1;rw[hlen]at y1;cases e2:gf is.length d with
     |none=>rw[e2]at q;exact q.elim
     |some es=>
      rw[e2]at q;obtain⟨a,vs,rfl,z1,z2,z3⟩:=oo e2 y2;refine⟨p,ws,.ref a,rfl,rfl,k4,y1,?_⟩;have h':=h.write e0 k1 k5.dropLast;exact⟨a,vs,rfl,xg h'.g.sub z1,z2,q _ _ Ha (aG.refl _) (h'.putAll z3)⟩
   |_=>exact q.elim
  |_=>exact q.elim
end
section
variable {X:Cx}{E:XK}
noncomputable def Iz(K:P4):ad->Hp->VK->Prop:=λxs H Q=>∃p ds ns,xs=[.ref p]/\Rep K H (.lst ds) (.ref p)/\iu ds=some ns/\Q (.int ns.sum) H
def CL(hc:X.calm=true):ik X (.builtin "sum") (Iz X.K):=by
 intro π s σ H xs us Q I r h;obtain⟨p,ds,ns,rfl,hr,hi,q⟩:=h;obtain⟨u,rfl,ru⟩:=r.one;obtain⟨a,vs,its,ea,rfl,h1,h2,h3,h4,_⟩:=bc I hr ru;have hI:=xS hi h2 h3;obtain⟨xs,hx⟩:=hI.allInts.items;have hl':s.heap.IsList a (intItems xs):=hx▸h4;refine sum_intListG (I.ok.hd hc) hl' λh' tk t' hk=>?_;have e1:ns=xs.toList.map (·.1):=by
  rw[←nums_intItems,←hx];exact(show numsOf its.toArray.toList=ns from hI.numsOf).symm
 have e2:preSum (numAt xs) xs.size=ns.sum:=by
  rw[preSum_eq,TQ (by simp),e1]
 rw[e2];exact⟨.int _,H,I.kept (t':=tk) (λb o e=>hk b o e),⟨_,rfl⟩,q⟩
noncomputable def HW(x:D):ak D:=match x with
 |.lst ds=>match iu ds with
  |some ns=>.ok (.int ns.sum)
  |none=>.stuck
 |_=>.stuck
def K4:gY X E (Iz X.K) (m1 HW):=u6 λx v H Ha Q hs r q=>by
 cases x with
 |lst ds=>
  unfold HW at q;obtain⟨p,vs,rfl,h1,h2⟩:=aI.mp r;cases e:iu ds with
  |none=>simp only[e]at q;exact q.elim
  |some ns=>
   simp only[e]at q;exact⟨p,ds,ns,rfl,r.mono hs,e,bK hs q (ri _)⟩
 |_=>exact q.elim
end
noncomputable def i7(i j:Nat) (ρ:Ev) (ds:ac) (p:D×ac):ak eD:=match p.1 with
 |.int k=>match uK ds.length k with
  |some n=>match ds[n]? with
   |some d=>if ds.length<line then .ok (.nx ((ρ.set j (.ow (.lst (ds.eraseIdx n)))).set i (.sh d)) p.2) else .stuck
   |none=>.stuck
  |none=>.stuck
 |_=>.stuck
noncomputable def lJ(i j:Nat) (f:Ev->ac->ak (D×ac)):Ev->ac->ak eD:=λρ st=>zg ρ[j]? λds=>(f ρ st).bind (i7 i j ρ ds)
section
variable {X:Cx}{He η:Hp}{a:P9}{e:QX}{fm:Ev->ac->ak (D×ac)}{pos:Pos}
def B5(hN:X.N.Nodup)(hi:X.N[i]?=some x)(hx:CY X.env.scope x)(hj:X.N[j]?=some y)(hv:yK X.env.scope y)(he:DM X He η a e fm)
  (hd:(y==("__debug__" : Qu))=false:=by decide)(hcd:(y==("__classdict__" : Qu))=false:=by decide)
  (hbase':Sz (.Name y q1) "pop" X.env (eval (.Name y q1) X.env)=eval (.Name y q1) X.env:=by rfl)
  (hfew':((Rg q3 (Qb [e] X.env)).all (λx=>!x.1)&&(TJ q3 (Sj [] X.env)).all (λx=>x.1.isSome)
  &&decide ([e].length+([]:List Te).length+(if([]:List Te).isEmpty then 0 else 1)<30))=true:=by exact lP rfl)
  (hline':(q2.endLine==q3.line)=true:=by rfl) (hs':Qb [e] X.env=(false,eval e X.env)::Qb [] X.env:=by exact aW rfl) (hplain':(Rg q3 (Qb [] X.env)).any (·.1)=false:=by exact bH rfl)
  (hs:Rq (.Call (.Attribute (.Name y q1) "pop" q2) [e] [] q3) (some (.Name x pos')) pos.line X.env=pure false:=by rfl)
  (hf:X.fn x=true∨X.env.scope.names.lookup x=some .local := by first|exact .inl rfl|exact .inr rfl|assumption) :
  SM X He η a (.Assign [.Name x pos'] (.Call (.Attribute (.Name y q1) "pop" q2) [e] [] q3) pos) (lJ i j fm):=by
 refine⟨?_⟩;refine bO (nG hN hi hx (AJ SK Vm Vl Em (fS hj hv hd hcd) (dQ he.o gH hs') hbase' hfew' hline' hs' hplain') hs hf) λD σ H ⟨Ha,ρ,st,vs,h,q⟩=>?_;unfold lJ zg at q;cases e0:ρ[j]? with
 |none=>rw[e0]at q;exact q.elim
 |some sl=>
  rw[e0]at q;cases sl with
  |ow d=>
   cases d with
   |lst ds=>
    obtain⟨p,k1,k2,k3,ws,k4,k5⟩:=h.s.ow j _ e0;refine⟨.ref p,k1,.inl ⟨rfl,ws,fk.of k4⟩,?_⟩;refine⟨Ha,ρ,st,vs,h,?_⟩;replace q:eE X.K He η a Ha ((fm ρ st).bind (i7 i j ρ ds)) D:=q;cases e1:fm ρ st with
    |stuck|exn x=>rw[e1]at q;exact q
    |ok pr=>
     obtain⟨d,st'⟩:=pr;rw[e1]at q;intro v H' Ha' us z h' rp;obtain⟨p',k1',k2',k3',ws',k4',k5'⟩:=h'.s.ow j _ e0;rw[k1]at k1';cases k1';replace q:eE X.K He η a Ha (i7 i j ρ ds (d,st')) D:=q;unfold i7 at q;cases d with
     |int k=>
      simp only at q;cases e2:uK ds.length k with
      |none=>simp only[e2]at q;exact q.elim
      |some n=>
       simp only[e2]at q;cases e3:ds[n]? with
       |none=>simp only[e3]at q;exact q.elim
       |some d=>
        simp only[e3]at q
        by_cases hl:ds.length<line
        .rw[if_pos hl]at q
         obtain⟨s1,s2,s3,s4⟩:=vX e2;obtain⟨y,y1,y2⟩:=k5'.get e3;have hlen:=k5'.length;have hl2:ds.length<1000001:=Qk hl (by decide);rw[aB.mp rp];have hpa:p≠a:=by intro c;subst c;rw[aF]at k2';cases k2'
         refine⟨p,ws',k,n,y,rfl,rfl,k4',by omega,by omega,by rw[←hlen];exact s1,y1,?_⟩;have h2:gp X.K He η Ha' σ (upd H' p (.lst (ws'.eraseIdx n))) (ρ.set j (.ow (.lst (ds.eraseIdx n)))) a st' us:=⟨h'.ha,h'.h0,by rw[az (Q2 hpa)];exact h'.hl,h'.r,h'.s.write e0 k1 (k5'.erase n)⟩
         exact q _ _ Ha' us z (h2.back (aG.refl _) (h2.s.put y2))
        .rw[if_neg hl]at q;exact q.elim
     |_=>exact q.elim
   |_=>exact q.elim
  |_=>exact q.elim
end
section
variable {X:Cx}{π:List (P9×Obj)}{σ:L2.St}{H:Hp}{s:Qj}{e:P9}
def Ib{cv:P2}{D:j9}(hstk:X.stack=X.env::X.outer/\X.env.frame=some X.env.locals)(I:Inv X π σ H1 s1)
  (h:oa X.prog X.w X.stack H1 s1 Ex ev s')(hg:Gl X c)(hm:X.mg c=some cv)(hx:∀C ox H',Ex (.ref C) ox H'->W.exmOne X.K (.ref C) cv=some true)
  (hs:∀ea C dc ox H' s2,Ex (.ref C) ox H'->(ox=none∨ox=dc)->H' ea=none->Inv (DL.hand X ea) π σ (upd H' ea (.ext (C0 ea C dc))) s2 ->
   QC (QB X.prog X.w) (X.A.mark (some (.ref ea))) (execs (ba::suite) X.env) (SP (DL.hand X ea) π D) (λ_ _=>False) s2)
  (hdb:(c==("__debug__" : Qu))=false:=by decide) :
  QC (QB X.prog X.w) X.A (noteFrame ev X.env) (λ_ si=>QC (QB X.prog X.w) X.A (setFlight ev none) (λ_ sj=>
   QC (QB X.prog X.w) X.A (handleBy ev X.env (.ExceptHandler (some (.Name c np)) none (ba::suite) hpos::rest)) (SP X π D) X.xe sj) X.xe si) X.xe s':=by
 obtain⟨ea,C,a0,B,H',rfl,os,bare,un,hok,hne,fl,hB,ox,⟨dc,hdc,hox⟩,hE⟩:=h;have hA:X.A.frames=some (X.env::X.outer):=by rw[←hstk.1];exact I.ok.frames
 have fl0:=fl;rw[hstk.1]at fl;have hf1:∀b∈iw X.stack,H' b=none:=λb hb=>by
  obtain⟨_,o,ho,_⟩:=I.stack.mem hb;exact un.free b o ho (I.stkFree b hb) (by simp)
 have hnew:s1.heap.get? ea=none:=by
  cases q:s1.heap.get? ea with
  |none=>rfl
  |some o=>
   by_cases hb:ea∈iw X.stack
   .obtain⟨_,o',ho',hd⟩:=fl0.2.2.1.mem hb
    obtain⟨oe,vs,he,_,hd',_⟩:=fl0.first
    rw[ho']at he;cases he;exact absurd hd' (hd vs)
   .obtain⟨u,hu⟩:=hB ea hb (.inr ⟨o,q⟩)
    rw[fl.2.1]at hu;cases hu
 have inv:∀g,B.StaysIn g->s'.heap.UpToSlots g->Inv X π σ H' { s' with heap:=g }:=λg k up=>
  I.call' (ch:=[]) os (Un.fly un fl0.1 fl0.2.2.1 hB k up) (g6.fly hok hf1 fl0.1 hB k) bare (λ_ z=>nomatch z)
 have invx:∀g,B.StaysIn g->s'.heap.UpToSlots g->C0 ea C dc g->Inv X π σ (upd H' ea (.ext (C0 ea C dc))) { s' with heap:=g }:=λg k up p=>
  I.call' (ch:=[]) os (Un.ext (Un.fly un fl0.1 fl0.2.2.1 hB k up) hne hnew) (g6.ext (g6.fly hok hf1 fl0.1 hB k) hne p (let ⟨o,_,e,_⟩:=p;⟨o,e⟩) Cy) bare (λ_ z=>nomatch z)
 refine EX hA hstk.2 fl hdc λh4 held4 up4 dc4=>?_;refine EY held4 dc4 λh5 fl5 up5 dc5=>?_;have I5:Inv (DL.hand X ea) π σ H' { s' with heap:=h5 }:=Inv.hand (inv h5 fl5.1 (up4.trans up5));refine wpAny_handleBy_cons (codeAny_handlers_test ?_) (by intro q;cases q);refine kd I5 hg hm ?_ hdb;obtain⟨ob,hob,hoc⟩:=fl5.there;have LT:Ug (QB X.prog X.w) h5 (typeOf (.ref ea)) (.ref C):=hoc▸(Ug.ld hob).andThen .now;refine(W.exm_one I5.kIn LT (hx C ox H' hE)).here ?_;refine codeAny_handlers_suite ?_;refine EZ fl5 dc5 λh6 fl6 up6 dc6=>?_;obtain⟨oe,vs,he,hc,hd,_⟩:=fl6.first
 have I6:Inv (DL.hand X ea) π σ (upd H' ea (.ext (C0 ea C dc))) { s' with heap:=h6 }:=Inv.hand (invx h6 fl6.1 ((up4.trans up5).trans up6) ⟨oe,vs,he,hc,hd,(by obtain⟨o6,e6,d6⟩:=dc6;rw[he]at e6;cases e6;exact d6)⟩);refine Ri (hs ea C dc ox H' _ hE hox hne I6) (λf s8 h8=>?_) λ_ _ z=>z.elim;cases f with|next|brk|cont=>obtain⟨σ',H2,J,q⟩:=h8;exact⟨σ',H2,jq I.ok J,q⟩|ret u=>obtain⟨v,σ',H2,J,r,q⟩:=h8;exact⟨v,σ',H2,jq I.ok J,r,q⟩
end
noncomputable def qu(g:Ev->ak Fl) (hit:Qu->Bool) (sh:Ev->ak Fl):Ev->ak Fl:=λρ=>match g ρ with
 |.exn x=>if hit x.cls=true then sh ρ else .stuck
 |r=>r
section
variable {X:Cx}{E:XK}{e:QX}{es:List QX}{fa:Ev->ak (ac)}{pos:Pos}
def HF{st ba:RH}{g sh:Ev->ak Fl}{cv:P2}(hstk:X.stack=X.env::X.outer/\X.env.frame=some X.env.locals)(hb:TB X st g)
  (hg:Gl X c)(hm:X.mg c=some cv)(hhit:∀x C,hit x=true->XC X.K x C->W.exmOne X.K (.ref C) cv=some true)
  (hh:∀ea,Ae (DL.hand X ea) E He η (ba::suite) sh)(hdb:(c==("__debug__" : Qu))=false:=by decide) :
  DS X E He η (.Try [st] [.ExceptHandler (some (.Name c np)) none (ba::suite) hpos] [] [] pos) (qu g hit sh):=by
 refine⟨?_⟩;intro π s σ H D I ⟨Ha,ρ,h,q⟩;have hq:Dj X.K He η Ha (g ρ) D:=by
  unfold qu at q;cases e1:g ρ with
  |exn x=>trivial|stuck=>rw[e1]at q;exact q
  |ok r=>rw[e1]at q;cases r<;>exact q
 refine wpAny_Try_except (wpAny_execs_cons (de (hb.o π s σ H He η Ha ρ D _ I h hq λH1 s1 e s' I1 hc=>?_) λf s1 hf=>?_))
 .have hit1:∀x,g ρ=.exn x->hit x.cls=true:=λx e1=>by
   unfold qu at q;rw[e1]at q
   by_cases z:hit x.cls=true
   .exact z
   .simp only[if_neg z]at q;exact q.elim
  refine Ib hstk I1 hc hg hm (λC ox H' ⟨x,Ha',e1,_,_,⟨⟨c',ec,xc⟩,_⟩⟩=>?_) (λea C dc ox H' s2 ⟨x,Ha',e1,sm,srx,⟨⟨c',ec,xc⟩,hm2⟩⟩ hox hne I2=>?_) hdb
  .cases ec;exact hhit _ _ (hit1 x e1) xc
  .cases ec
   refine(hh ea).o π s2 _ _ _ I2 ⟨upd Ha' ea (.ext (C0 ea C dc)),ρ,srx.grow (bo srx.g.sub hne),?_⟩;have sm2:aG Ha (upd Ha' ea (.ext (C0 ea C dc))):=sm.trans (bo srx.g.sub hne).z;unfold qu at q;rw[e1]at q;simp only[if_pos (hit1 x e1)]at q;exact b8.grow q sm2
 .cases f with
  |next=>exact wpAny_execs_nil (wpAny_execs_nil hf)
  |brk=>exact hf
  |cont=>exact hf
  |ret u=>exact hf
end
end DL
namespace K11
open PySem L2 DL
noncomputable def eV:Ev->ak Fl :=
 (aA (er (ag (ag (ae 0) (dC (.int 0)) aO) (ae 1) kH)
 (aA (b5 (ag (ae 0) (dC (.int 1)) aO))
 aw)
 aw)
 (aA (er (gZ (ag (ag (ae 0) (dC (.int 1)) aO) (ae 1) kH) (ag (ag (ae 0) (dC (.int 2)) aO) (dC (.str "both")) kH))
 (aA (b5 (ag (ae 0) (dC (.int 0)) aO))
 aw)
 aw)
 (aA (b5 (dC (.non)))
 aw)))
noncomputable def bW:ac->ak D:=b7 2 eV
noncomputable abbrev m_is_tie_number:ac->ak D:=Com.m_is_tie_number
noncomputable abbrev m_look_at_taking:ac->ak D:=Com.m_look_at_taking
noncomputable def iD:Ev->ak Fl :=
 (aA (bJ 1 (aq (af (ag (ae 0) (dC (.int 0)) aO) (af (ag (ae 0) (dC (.int 1)) aO) aC)) gj))
 (aA (er (ag (ag (ae 0) (dC (.int 2)) aO) (dC (.str "one")) kH)
 (aA (b5 (aq (af (ae 1) aC) b9))
 aw)
 aw)
 (aA (b5 (aq (af (ae 1) (af (aq (af (ag (ae 0) (dC (.int 1)) aO) (af (ag (ae 0) (dC (.int 0)) aO) aC)) gj) aC)) b9))
 aw)))
noncomputable def m_steps_along:ac->ak D:=b7 2 iD
noncomputable def cI:Ev->ak Fl :=
 (aA (er (iQ (ag (ag (ae 2) (bV (dC (.int 1)) pA) aO) (ag (ae 0) (dC (.int 3)) aO) kH) (iQ (cA (aq (af (ae 0) (af (ae 3) aC)) m_is_tie_number)) (ag (ae 3) (ae 1) sT)))
 (aA (b5 (dC (.non)))
 aw)
 aw)
 (aA (o8 (aq (af (ag (ag (ae 0) (dC (.int 1)) aO) (ae 3) aO) aC) m_steps_along) (dw [4,5])
 (aA (er (gZ (ag (ae 4) (ag (ae 2) (bV (dC (.int 1)) pA) aO) kH) (ag (ae 5) (ae 2) dy))
 (aA (b5 (ae 5))
 aw)
 aw)
 aw))
 (aA (b5 (dC (.non)))
 aw)))
noncomputable def m_place_behind:ac->ak D:=b7 6 cI
noncomputable def jk:Ev->ak Fl :=
 (aA (er (cA (bV (ae 2) (eC "list")))
 (aA (jc "NoWay" ["at"] (af (dC (.non)) aC))
 aw)
 aw)
 (aA (gE 3 (aq (af (ag (ae 0) (dC (.int 2)) aO) aC) b9))
 (aA (kE (w6 (ae 2)) (dw [4,5])
 (aA (Av 6 (aq (af (ae 0) (af (ae 1) (af (ae 3) (af (ae 5) aC)))) m_place_behind))
 (aA (er (ag (ae 6) (dC (.non)) uk)
 (aA (jc "NoWay" ["at"] (af (ae 4) aC))
 aw)
 aw)
 (aA (cU 3 (ae 6))
 aw))))
 (aA (yY 3 (er (ag (ag (ae 3) (bV (dC (.int 1)) pA) aO) (ag (ae 0) (dC (.int 3)) aO) gS)
 (aA (jc "NoWay" ["at"] (af (aq (af (ae 2) aC) (m1 cT)) aC))
 aw)
 aw))
 (aA (b5 (ae 3))
 aw)))))
noncomputable def m_walk_way:ac->ak D:=b7 7 jk
noncomputable def b_look_at_way:Ev->ak Fl :=
 (aA (fL (aq (af (ae 0) (af (ae 1) aC)) m_look_at_taking))
 (aA (fL (aq (af (ae 0) (af (ae 1) (af (ae 2) aC))) m_walk_way))
 aw))
noncomputable def m_look_at_way:ac->ak D:=b7 3 b_look_at_way
end K11
namespace K12
open PySem L2 DL
noncomputable abbrev bx:ac->ak D:=Cod.bx
noncomputable def oW:Ev->ak Fl :=
 (aA (b5 (aq (af (ag (ag (ag (ae 0) (dC (.int 0)) aO) (ag (ae 1) (dC (.int 1)) aO) b3) (ag (ag (ae 1) (dC (.int 0)) aO) (ag (ae 0) (dC (.int 1)) aO) b3) cB) (af (ag (ag (ae 0) (dC (.int 1)) aO) (ag (ae 1) (dC (.int 1)) aO) b3) aC)) bx))
 aw)
noncomputable def bp:ac->ak D:=b7 2 oW
end K12
namespace K51
open PySem L2 DL
noncomputable abbrev aH:P9->ac->ac->ak (D×ac):=Bor.aH
noncomputable abbrev bx:ac->ak D:=Cod.bx
noncomputable abbrev bC:P9->ac->ac->ak (D×ac):=Bor.bC
noncomputable def oY:P9->Ev->ac->ak eD:=λa=>
 (aV (cG (gE 2 (aq aC b9)))
 (aV (oz (Ck (kq (ag (ae 1) (dC (.int 1)) aO))) (b6 3)
 (aV (dD 4 (bD 0 a (aT (mP (dC (.int 0))) b4) bC))
 (aV (vR 2 (mB (mP (aq (af (ae 4) (af (ae 4) (af (aq (af (dC (.int 0)) (af (dC (.int 1)) aC)) gj) aC))) b9)) (bD 0 a (aT (mP (dC (.int 3))) b4) aH) aO))
 bS)))
 (aV (ff (ae 2))
 bS)))
noncomputable def eF:P9->ac->ac->ak (D×ac):=nE 5 oY
noncomputable def m6:Ev->ak Fl :=
 (aA (b5 (aq (af (ag (ag (ae 0) (dC (.int 0)) aO) (ag (ae 1) (dC (.int 0)) aO) b3) (af (ag (ag (ae 0) (dC (.int 1)) aO) (ag (ae 1) (dC (.int 1)) aO) b3) aC)) bx))
 aw)
noncomputable def aX:ac->ak D:=b7 2 m6
noncomputable abbrev bp:ac->ak D:=K12.bp
noncomputable def oX:Ev->ak Fl :=
 (aA (b5 (ag (ag (ag (ae 0) (dC (.int 0)) aO) (ag (ae 1) (dC (.int 1)) aO) b3) (ag (ag (ae 1) (dC (.int 0)) aO) (ag (ae 0) (dC (.int 1)) aO) b3) KZ))
 aw)
noncomputable def df:ac->ak D:=b7 2 oX
noncomputable abbrev m_is_length:ac->ak D:=Com.m_is_length
noncomputable abbrev m_look_at_web:ac->ak D:=Com.m_look_at_web
noncomputable def kL:Ev->ak Fl :=
 (aA (er (iQ (cA (bV (ae 1) (eC "list"))) (ag (aq (af (ae 1) aC) (m1 cT)) (aq (af (ag (ae 0) (dC (.int 1)) aO) aC) (m1 cT)) gS))
 (aA (b5 (dC (.bl false)))
 aw)
 aw)
 (aA (b5 (aq (af (di 1 [] (kq (ae 1)) (b6 0) mYes (aq (af (ae 0) aC) m_is_length)) aC) (m1 zO)))
 aw))
noncomputable def m_has_lengths:ac->ak D:=b7 2 kL
noncomputable def jW:Ev->ak Fl :=
 (aA (fL (aq (af (ae 0) aC) m_look_at_web))
 (aA (er (cA (aq (af (ae 0) (af (ae 1) aC)) m_has_lengths))
 (aA cx
 aw)
 aw)
 aw))
noncomputable def m_look_at_adds:ac->ak D:=b7 2 jW
noncomputable abbrev m_is_less:ac->ak D:=Com.m_is_less
noncomputable abbrev m_ratio:ac->ak D:=Com.m_ratio
noncomputable abbrev m_plus:ac->ak D:=Com.m_plus
noncomputable def BK:Ev->ak Fl :=
 (aA (b5 (aq (af (ag (ag (ae 0) (dC (.int 0)) aO) (ag (ae 1) (dC (.int 0)) aO) b3) (af (ag (ag (ae 0) (dC (.int 1)) aO) (ag (ae 1) (dC (.int 1)) aO) b3) aC)) m_ratio))
 aw)
noncomputable def m_times:ac->ak D:=b7 2 BK
end K51
local macro_rules|`(tactic|open_line with[$xs,*])=>`(tactic|simp only[uO,kW,l4,l3,mn,rG,lZ,rK,l7,mJ,jN,yf,sA,su,rR,mj,sJ,mh,rP,md,ma,jL,sC,rQ,mf,ym,yl,sI,yk,rX,mK,jP,jO,sL,mO,mM,yb,rV,rT,rW,ml,sr,mF,mE,rm,lR,E3,lY,rE,lX,lW,lV,pU,rJ,l6,l5,ya,rS,yc,xY,rB,rA,rz,sD,mI,jQ,yg,sH,sG,sE,sq,sN,rY,ye,yd,cX,mq,nO,kT,Qf,RS,QE,Sg,Sv,Su,RZ,R8,RO,Q8,SI,SJ,To,Nat.reduceSub,Nat.reduceAdd,SS,SR,TF,Ts,rq,r0,jg,eu,rZ,xZ,rH,xX,rn,kj,ki,mD,mC,mz,my,mx,mw,decide_true,decide_false,Nat.reduceLeDiff,Nat.reduceBEq,Int.reduceBEq,beq_self_eq_true,DL.dOne,DL.mYes,dI,el,eh,dm,dH,gR,fR,gQ,fQ,gP,yj,yi,yh,Int.reduceLT,Int.reduceLE,Int.reduceSub,Int.reduceAdd,Int.reduceMul,Int.reduceNeg,mv,jM,Int.reduceToNat,TH,pV,mH,pT,lU,pS,lT,pR,lS,pW,uP,mG,Bj,Bk,wa,nN,E9,Bs,Br,BA,Bx,yo,E8,Bq,Fc,Bv,Bu,yn,IS,Fg,Ff,M7,IW,M8,IT,IU,M5,M6,IV,IQ,Bz,IP,E7,M9,IZ,IY,Fe,BC,yq,yp,Na,Ja,BE,yr,Fd,Bw,Fi,By,mR,Fj,BG,BF,E6,Bp,Bo,mQ,Fh,BB,BD,Fb,Bt,$[$xs:term],*])
local macro_rules|`(tactic|open_line with[$xs,*] seeing $h)=>`(tactic|simp only[uO,kW,l4,l3,mn,rG,lZ,rK,l7,mJ,jN,yf,sA,su,rR,mj,sJ,mh,rP,md,ma,jL,sC,rQ,mf,ym,yl,sI,yk,rX,mK,jP,jO,sL,mO,mM,yb,rV,rT,rW,ml,sr,mF,mE,rm,lR,E3,lY,rE,lX,lW,lV,pU,rJ,l6,l5,ya,rS,yc,xY,rB,rA,rz,sD,mI,jQ,yg,sH,sG,sE,sq,sN,rY,ye,yd,cX,mq,nO,kT,Qf,RS,QE,Sg,Sv,Su,RZ,R8,RO,Q8,SI,SJ,To,Nat.reduceSub,Nat.reduceAdd,SS,SR,TF,Ts,rq,r0,jg,eu,rZ,xZ,rH,xX,rn,kj,ki,mD,mC,mz,my,mx,mw,decide_true,decide_false,Nat.reduceLeDiff,Nat.reduceBEq,Int.reduceBEq,beq_self_eq_true,DL.dOne,DL.mYes,dI,el,eh,dm,dH,gR,fR,gQ,fQ,gP,yj,yi,yh,Int.reduceLT,Int.reduceLE,Int.reduceSub,Int.reduceAdd,Int.reduceMul,Int.reduceNeg,mv,jM,Int.reduceToNat,TH,pV,mH,pT,lU,pS,lT,pR,lS,pW,uP,mG,Bj,Bk,wa,nN,E9,Bs,Br,BA,Bx,yo,E8,Bq,Fc,Bv,Bu,yn,IS,Fg,Ff,M7,IW,M8,IT,IU,M5,M6,IV,IQ,Bz,IP,E7,M9,IZ,IY,Fe,BC,yq,yp,Na,Ja,BE,yr,Fd,Bw,Fi,By,mR,Fj,BG,BF,E6,Bp,Bo,mQ,Fh,BB,BD,Fb,Bt,$[$xs:term],*] at $(⟨h⟩):ident)
namespace Bor
open PySem L2 DL Com
noncomputable def St(st:ac):Prop:=∃(c s:Int) (b:Bool),st=[.int c,.int s,.bl b]/\0<=s/\s<2147483647
def p6:nW (.int 10) (.int 6)=.ok (.int 1000000):=aJ rfl
noncomputable def next(s:Int):Int:=(s*39373+17).fmod 2147483647
def AR(s:Int):0<=next s/\next s<2147483647:=fg (by decide)
noncomputable def MF(m s:Int):Int:=m*2147483587+(s*s).fmod 2147483587
def Gu{b:Bool}(h0:0<=s)(h1:s<2147483647)(hm:0<=m/\m<1000000000000000000000000000) :
  (aV (xJ 0 a (mV 0 a (ag (ag (ag (ag (ae 0) (dC (.int 1)) aO) (dC (.int 39373)) b3) (dC (.int 17)) cB) (dC (.int 2147483647)) dz)) (mP (dC (.int 1))))
 (aV (dD 3 (mV 0 a (ag (ag (ae 3) (dC (.int 2147483587)) b3) (ag (ag (ag (ae 0) (dC (.int 1)) aO) (ag (ae 0) (dC (.int 1)) aO) b3) (dC (.int 2147483587)) dz) cB)))
 bS)) [.pt a,.sh (.int n),.no,.sh (.int m),.sh (.int k)] [.int c,.int s,.bl b]=.ok (.nx [.pt a,.sh (.int n),.no,.sh (.int (MF m (next s))),.sh (.int k)] [.int c,.int (next s),.bl b]):=by
 have o1:eK s 39373=true:=gM (by omega) (by decide);have g:=AR s;have o2:eK (next s) (next s)=true:=gM (by omega) (by omega);have o3:eK m 2147483587=true:=c6 (Uk (show m.natAbs<1000000000000000000000000000 by omega) (by rw[tX];decide +kernel)) (Uk (show(2147483587:Int).natAbs<2147483588 by decide) (by rw[tX];decide +kernel));have e:(s*39373+17).fmod 2147483647=next s:=rfl;have hp:∀(ρ:Ev) (d:D),lB ρ d (.int 1,[.int c,.int s,.bl b])=.ok (.nx ρ [.int c,d,.bl b]):=λ_ _=>rfl;open_line with[bZ o1,e,bZ o2,bZ o3,hp,MF]
def bQ(a:P9)(n0:0<n)(n1:n<=1000000000000000000)(h:St st):∃(d:Int) (st':ac),aH a st [.int n]=.ok (.int d,st')/\0<=d/\d<n/\St st':=by
 obtain⟨c,s,b,rfl,s0,s1⟩:=h;have hn0:(n==0)=false:=beq_eq_false_iff_ne.mpr (by omega);have hd:fY c n=true:=Jd (by omega) (RW (show n.natAbs<=1000000000000000000 by omega) (by rw[FX];decide +kernel));cases b with
 |true=>
  have f:=fg (a:=c) (b:=n) n0;have p0:∀(ρ:Ev) (d:D),lB ρ d (.int 0,[.int c,.int s,.bl true])=.ok (.nx ρ [d,.int s,.bl true]):=λ_ _=>rfl;have p2:∀(ρ:Ev) (d:D),lB ρ d (.int 2,[.int (c.fdiv n),.int s,.bl true])=.ok (.nx ρ [.int (c.fdiv n),.int s,d]):=λ_ _=>rfl;refine⟨c.fmod n,[.int (c.fdiv n),.int s,.bl (decide (c.fdiv n > 0))],?_,f.1,f.2,_,_,_,rfl,s0,s1⟩;open_line with[aH,jY,hn0,wb hd,p0,p2]
 |false=>
  have key:∃t:Nat,t<=3/\∀x2 x3 x4:Sl,(kD (ag (dC (.int 1)) (ag (dC (.int 2)) (aq (af (ag (ae 1) (ag (dC (.int 10)) (dC (.int 6)) nW) F1) aC) (m1 k8)) b3) cB)) [.pt a,.sh (.int n),x2,x3,x4]=.ok (intsFrom 0 t):=by
   by_cases hb:n > 1000000
   .refine⟨3,by decide,λx2 x3 x4=>?_⟩
    have o:eK 2 1=true:=gM (by decide) (by decide);have:(ag (dC (.int 1)) (ag (dC (.int 2)) (aq (af (ag (ae 1) (ag (dC (.int 10)) (dC (.int 6)) nW) F1) aC) (m1 k8)) b3) cB) [.pt a,.sh (.int n),x2,x3,x4]=.ok (.int 3):=by
     open_line with[p6,decide_eq_true hb,bZ o]
    unfold kD;rw[this];rfl
   .refine⟨1,by decide,λx2 x3 x4=>?_⟩
    have o:eK 2 0=true:=gM (by decide) (by decide);have:(ag (dC (.int 1)) (ag (dC (.int 2)) (aq (af (ag (ae 1) (ag (dC (.int 10)) (dC (.int 6)) nW) F1) aC) (m1 k8)) b3) cB) [.pt a,.sh (.int n),x2,x3,x4]=.ok (.int 1):=by
     open_line with[p6,decide_eq_false hb,bZ o]
    unfold kD;rw[this];rfl
  obtain⟨t,ht,hsrc⟩:=key;have hlen:(intsFrom 0 t).length=t:=by unfold DL.intsFrom;simp
  obtain⟨ρ2,st2,hl,m,s',x4,rfl,rfl,k0,k1,m0,_⟩:=jK (tg:=b6 4) (body:=(aV (xJ 0 a (mV 0 a (ag (ag (ag (ag (ae 0) (dC (.int 1)) aO) (dC (.int 39373)) b3) (dC (.int 17)) cB) (dC (.int 2147483647)) dz)) (mP (dC (.int 1))))
 (aV (dD 3 (mV 0 a (ag (ag (ae 3) (dC (.int 2147483587)) b3) (ag (ag (ag (ae 0) (dC (.int 1)) aO) (ag (ae 0) (dC (.int 1)) aO) b3) (dC (.int 2147483587)) dz) cB)))
 bS)))
   (λj ρ st=>∃(m s:Int) (x4:Sl),ρ=[.pt a,.sh (.int n),.no,.sh (.int m),x4]/\st=[.int c,.int s,.bl false]/\0<=s/\s<2147483647/\0<=m/\m<(2147483587:Int) ^ j)
   (intsFrom 0 t) (by
    rintro j d ρ st hj ⟨m,s,x4,rfl,rfl,s0,s1,m0,m1⟩;have hjt:j<t:=by have:=(Qa.mp hj).1;omega
    have hd:d=.int (j:Int):=by
     unfold DL.intsFrom at hj;rw[Qg,Sx hjt]at hj;simp at hj;exact hj.symm
    subst hd;have hm:m<1000000000000000000000000000:=by
     have hj3:j=0∨j=1∨j=2:=by omega
     rcases hj3 with rfl|rfl|rfl<;>omega
    have g:=AR s;have r:=fg (a:=next s*next s) (b:=2147483587) (by decide);refine⟨_,_,_,rfl,.inl (Gu (k:=(j:Int)) s0 s1 ⟨m0,hm⟩),MF m (next s),next s,_,rfl,rfl,g.1,g.2,?_,?_⟩
    .unfold MF
     have:0<=m*2147483587:=T2 m0 (by decide);omega
    .unfold MF
     rw[Int.pow_succ];omega) 0 [.pt a,.sh (.int n),.no,.sh (.int 0),.no] [.int c,.int s,.bl false] (R0 _) ⟨0,s,_,rfl,rfl,s0,s1,by decide,by decide⟩
  rw[RK]at hl;have f:=fg (a:=m.fdiv 64) (b:=n) n0;have hd64:fY m 64=true:=Jd (by decide) (by rw[FX];decide +kernel);refine⟨(m.fdiv 64).fmod n,[.int c,.int s',.bl false],?_,f.1,f.2,c,s',false,rfl,k0,k1⟩;open_line with[aH,jY,hsrc,hl,wb hd64,hn0]
def FG(ns:List Int)(k:Nat)(hk:k<=1000)(hl:ns.length<=63):∃st,ck [.lst (ns.map D.int),.int k]=.ok (.lst st)/\St st:=by
 have hlen:cT (.lst (ns.map D.int))=.ok (.int ns.length):=by
  rw[cX,P7]
 have o1:eK 104729 (k:Int)=true:=gM (by decide) (by omega);have o2:eK (104729*(k:Int)) (k:Int)=true:=gM (by omega) (by omega)
 by_cases h:k<ns.length
 .have hix:aO (.lst (ns.map D.int)) (.int (k:Int))=.ok (.int ns[k]):=ir (by rw[Qg,P5 h];rfl)
  have f:=fg (a:=(ns[k].fmod 2147483587+104729*(k:Int)*(k:Int)+7)) (b:=2147483587) (by decide);refine⟨[.int ns[k],.int ((ns[k].fmod 2147483587+104729*(k:Int)*(k:Int)+7).fmod 2147483587),.bl (decide (ns[k]≥1000000000000000000))],?_,_,_,_,rfl,f.1,by omega⟩;unfold ck o9 jo;open_line with[hlen,hix,nN,bZ o1,bZ o2,decide_eq_true (show(k:Int)<(ns.length:Int) by omega),oj,Ds,qv,D6]
 .have f:=fg (a:=((0:Int).fmod 2147483587+104729*(k:Int)*(k:Int)+7)) (b:=2147483587) (by decide)
  refine⟨[.int 0,.int (((0:Int).fmod 2147483587+104729*(k:Int)*(k:Int)+7).fmod 2147483587),.bl false],?_,_,_,_,rfl,f.1,by omega⟩;unfold ck o9 jo;open_line with[hlen,nN,bZ o1,bZ o2,decide_eq_false (show ¬(k:Int)<(ns.length:Int) by omega),oj,Ds,qv,D6]
def PH:nW (.int 10) (.int 12)=.ok (.int 1000000000000):=aJ rfl
structure yN (x:e8):Prop where
 lo:Low x
 p0:0<=x.1
 p1:x.1<=1000000000000
 q1:x.2<=60
def Ih{c q:Int}(h0:0<=c)(h1:c<=1000000000000)(hq:0<q)(hq2:q<=60):yN (oA c q):=by
 have a1:=vT (a:=c) (b:=q);have a2:=vS (a:=c) (b:=q);have hl:=ic (a:=c) hq;have:=hl.q1;exact⟨hl,fw h0 hq,by omega,by omega⟩
def fF(a:P9)(hl:l=0∨l=1)(h:St st):∃(x:e8) (st':ac),bC a st [.int l]=.ok (fr x,st')/\yH x/\0<=x.1/\(l=1->0<x.1)/\yN x/\St st':=by
 have hN:(1000000000000000000000:Int)<(F3:Int):=by decide
 obtain⟨w,st1,t1,w0,w1,S1⟩:=bQ a (n:=6) (by decide) (by decide) h;obtain⟨t,m,ht,hm,i1,i2⟩:∃t m:Int,(0<t/\t<=1000000000000)/\(0<m/\m<=12)/\aO (.lst [.int 3,.int 6,.int 20,.int 12,.int 90,.int 1000000000000]) (.int w)=.ok (.int t)/\aO (.lst [.int 1,.int 1,.int 1,.int 4,.int 12,.int 12]) (.int w)=.ok (.int m):=by
  have:w=0∨w=1∨w=2∨w=3∨w=4∨w=5:=by omega
  rcases this with rfl|rfl|rfl|rfl|rfl|rfl
  .exact⟨3,1,by decide,by decide,rfl,rfl⟩
  .exact⟨6,1,by decide,by decide,rfl,rfl⟩
  .exact⟨20,1,by decide,by decide,rfl,rfl⟩
  .exact⟨12,4,by decide,by decide,rfl,rfl⟩
  .exact⟨90,12,by decide,by decide,rfl,rfl⟩
  .exact⟨1000000000000,12,by decide,by decide,rfl,rfl⟩
 obtain⟨u,st2,t2,u0,u1,S2⟩:=bQ a (n:=t) ht.1 (by omega) S1;obtain⟨v,st3,t3,v0,v1,S3⟩:=bQ a (n:=m) hm.1 (by omega) S2;obtain⟨q,hq,i3⟩:∃q:Int,(0<q/\q<=60)/\aO (.lst [.int 1,.int 2,.int 3,.int 4,.int 5,.int 6,.int 10,.int 12,.int 15,.int 20,.int 30,.int 60]) (.int v)=.ok (.int q):=by
  have:v=0∨v=1∨v=2∨v=3∨v=4∨v=5∨v=6∨v=7∨v=8∨v=9∨v=10∨v=11:=by omega
  rcases this with rfl|rfl|rfl|rfl|rfl|rfl|rfl|rfl|rfl|rfl|rfl|rfl
  .exact⟨1,by decide,rfl⟩
  .exact⟨2,by decide,rfl⟩
  .exact⟨3,by decide,rfl⟩
  .exact⟨4,by decide,rfl⟩
  .exact⟨5,by decide,rfl⟩
  .exact⟨6,by decide,rfl⟩
  .exact⟨10,by decide,rfl⟩
  .exact⟨12,by decide,rfl⟩
  .exact⟨15,by decide,rfl⟩
  .exact⟨20,by decide,rfl⟩
  .exact⟨30,by decide,rfl⟩
  .exact⟨60,by decide,rfl⟩
 have hlo:=Cod.low_ok (a:=l+u) (b:=q) (by omega) (ML (by omega) (by omega)) (ML (by omega) (by omega));refine⟨oA (l+u) q,st3,?_,MM (by omega) (by omega) (by omega),fw (by omega) (by omega),λe=>AX (by omega) (by omega),Ih (by omega) (by omega) (by omega) (by omega),S3⟩;open_line with[bC,kN,t1,t2,t3,i1,i2,i3,PH,hlo]
def zo{k n:Int}(hn:2<=n):k.fmod n≠(k+1).fmod n:=by
 rw[Rm _ (by omega),Rm _ (by omega)];intro e;have:=Int.emod_eq_emod_iff_emod_sub_eq_zero.mp e.symm;rw[show k+1-k=1 by omega,Ur (by decide) (by omega)]at this;cases this
noncomputable def j8(t:vk):Prop:=yN t.l/\∀x,t.o=some x->yN x
def Gy(a:P9){k:Nat}(h2:2<=zs.length)(h8:zs.length<=8)(nd:zs.Nodup)(h:St st):∃(t:vk) (st':ac),cQ a st [.lst (zs.map D.str),.int k]=.ok (bI t,st')/\oZ zs t/\j8 t/\St st':=by
 have hlen:cT (.lst (zs.map D.str))=.ok (.int zs.length):=by rw[cX,P7]
 have hn0:((zs.length:Int)==0)=false:=beq_eq_false_iff_ne.mpr (by omega);obtain⟨d,st1,t1,d0,d1,S1⟩:=bQ a (n:=(zs.length:Int)) (by omega) (by omega) h;obtain⟨e,st2,t2,e0,e1,S2⟩:=bQ a (n:=(zs.length:Int)-1) (by omega) (by omega) S1;obtain⟨f,st3,t3,f0,f1,S3⟩:=bQ a (n:=2) (by decide) (by decide) S2;obtain⟨g,st4,t4,g0,g1,S4⟩:=bQ a (n:=2) (by decide) (by decide) S3;obtain⟨x,st5,t5,fx,lx,_,ax,S5⟩:=fF a (l:=0) (.inl rfl) S4;obtain⟨y,st6,t6,fy,_,ly,ay,S6⟩:=fF a (l:=1) (.inr rfl) S5;obtain⟨v,st7,t7,v0,v1,S7⟩:=bQ a (n:=4) (by decide) (by decide) S6;obtain⟨wd,hw,jw⟩:=Gj g0 g1;obtain⟨p,q,hp,hq,hpq,hplace⟩:∃p q:Int,(0<=p/\p<(zs.length:Int))/\(0<=q/\q<(zs.length:Int))/\p≠q/\(((f==0)=true/\p=(k:Int).fmod (zs.length:Int)/\q=((k:Int)+1).fmod (zs.length:Int))∨((f==0)=false/\p=d/\q=(d+1+e).fmod (zs.length:Int))):=by
  cases h10:(f==0) with
  |true=>exact⟨_,_,fg (by omega),fg (by omega),zo (by omega),.inl ⟨rfl,rfl,rfl⟩⟩
  |false=>
   obtain⟨hr,hne⟩:=vh (n:=(zs.length:Int)) (d:=d) (e:=e) (by omega) d0 d1 e0 e1;exact⟨_,_,⟨d0,d1⟩,hr,Q2 hne,.inr ⟨rfl,rfl,rfl⟩⟩
 obtain⟨z1,k1,j1⟩:=nv (zs:=zs) hp.1 hp.2;obtain⟨z2,k2,j2⟩:=nv (zs:=zs) hq.1 hq.2;have hz12:z1≠z2:=lI nd k1 k2 (by omega);cases h4:(v==0) with
 |true=>
  refine⟨⟨z1,z2,wd,x,none⟩,st7,?_,⟨Qh k1,Qh k2,hz12,hw,fx,lx,λ_ hv=>nomatch hv⟩,⟨ax,λ_ hv=>nomatch hv⟩,S7⟩;rw[show bI ⟨z1,z2,wd,x,none⟩=.tup [.str z1,.str z2,.str wd,fr x,.non] from rfl];rcases hplace with⟨h10,e1,e2⟩|⟨h10,e1,e2⟩
  .rw[e2]at j2;rw[e1]at j1
   open_line with[cQ,gW,hlen,t1,t2,t3,t4,t5,t6,t7,ku,hn0,h10,h4,jw,j1,j2]
  .rw[e2]at j2;rw[e1]at j1
   open_line with[cQ,gW,hlen,t1,t2,t3,t4,t5,t6,t7,ku,hn0,h10,h4,jw,j1,j2]
 |false=>
  refine⟨⟨z1,z2,wd,x,some y⟩,st7,?_,⟨Qh k1,Qh k2,hz12,hw,fx,lx,λ_ hv=>by cases hv;exact⟨fy,ly rfl⟩⟩,⟨ax,λ_ hv=>by cases hv;exact ay⟩,S7⟩;rw[show bI ⟨z1,z2,wd,x,some y⟩=.tup [.str z1,.str z2,.str wd,fr x,fr y] from rfl];rcases hplace with⟨h10,e1,e2⟩|⟨h10,e1,e2⟩
  .rw[e2]at j2;rw[e1]at j1
   open_line with[cQ,gW,hlen,t1,t2,t3,t4,t5,t6,t7,ku,hn0,h10,h4,jw,j1,j2]
  .rw[e2]at j2;rw[e1]at j1
   open_line with[cQ,gW,hlen,t1,t2,t3,t4,t5,t6,t7,ku,hn0,h10,h4,jw,j1,j2]
theorem lM:∀{es:ac}{P:Int->Prop},(∀e∈es,∃l,e=D.int l/\P l)->∃ls:List Int,es=ls.map D.int/\∀l∈ls,P l
 |[],P,_=>⟨[],rfl,λl h=>by simp at h⟩
 |e::es,P,h=>by
  obtain⟨l,rfl,hl⟩:=h e (by simp);obtain⟨ls,rfl,hs⟩:=lM (es:=es) (P:=P) λe he=>h e (Qi _ he);exact⟨l::ls,rfl,λx hx=>by
   rcases Qs.mp hx with rfl|hx
   .exact hl
   .exact hs x hx⟩
def zC(a:P9)(h:St st):∃(ls:List Int) (st':ac),sW [.no,.pt a] (b6 0) (bD 1 a (aT (mP (dC (.int 26))) b4) aH) (DL.intsFrom 0 8,st)=.ok (.lst (ls.map D.int),st')/\ls.length=8/\(∀l∈ls,0<=l/\l<26)/\St st':=by
 obtain⟨es,st',h1,h2,h3,h4⟩:=uZ (b:=[.no,.pt a]) (tg:=b6 0) (fm:=bD 1 a (aT (mP (dC (.int 26))) b4) aH) St (λe=>∃l,e=D.int l/\0<=l/\l<26) (DL.intsFrom 0 8) st h (by
  intro d st _ h;obtain⟨x,st',t1,x0,x1,S1⟩:=bQ a (n:=26) (by decide) (by decide) h;refine⟨_,.int x,st',rfl,?_,⟨x,rfl,x0,x1⟩,S1⟩;open_line with[t1])
 obtain⟨ls,rfl,hls⟩:=lM h3;refine⟨ls,st',?_,by simpa[DL.intsFrom] using h2,hls,h4⟩;unfold sW;rw[if_pos (show(DL.intsFrom 0 8).length<=line by decide),h1];rfl
noncomputable def yA(l:Int):Nat:=97+l.toNat
def Dr{ls:List Int}(hf:f ρ=.ok (.lst (ls.map D.int)))(hg:g ρ=.ok (.int (m:Int)))(hm:m<=ls.length)(hl:ls.length<=1000):pz f ib (gK g) ρ=.ok (.lst ((ls.take m).map D.int)):=by
 unfold pz;rw[hf];simp only[ak.bind,ib,gK,hg];exact congrArg (λz=>ak.ok (D.lst z)) (Fz hm)
def GF{ls:List Int}(hl:ls.length<=100)(hb:∀l∈ls,0<=l/\l<26):eT 1 [] (b6 0) mYes (ag (dC (.str "abcdefghijklmnopqrstuvwxyz")) (ae 0) aO) ρ (ls.map D.int)=.ok (.lst ((ls.map yA).map λc=>D.str ⟨#[c]⟩)):=by
 rw[yz (F:=λd=>match d with|.int l=>.str ⟨#[yA l]⟩|d=>d) (by rw[P7];omega)]
 .congr 2
  rw[RD,RD];rfl
 .intro d hd
  obtain⟨l,hl',rfl⟩:=QO.mp hd;obtain⟨b0,b1⟩:=hb l hl';refine⟨[.sh (.int l)],rfl,rfl,?_⟩;open_line with[Lf b0 b1]
  rfl
def GD{ls:List Int}(hl:ls.length<=100):lL "" [.lst ((ls.map yA).map λc=>D.str ⟨#[c]⟩)]=.ok (.str (Cod.S (ls.map yA))):=zD (cs:=ls.map yA) (by rw[P7];omega)
noncomputable def pj(ls:List Int) (lg at_:Nat) (tu sp:Int) (ne:Bool) (k:Nat):List Int:=if ne=true then ls.take (1+((tu+(k:Int)).fmod 8).toNat) else(ls.take lg).set at_ ((tu+sp*(k:Int)).fmod 26)
noncomputable def nm(ls:List Int) (lg at_:Nat) (tu sp:Int) (ne:Bool) (k:Nat):am:=(pj ls lg at_ tu sp ne k).map yA
section
variable {ls:List Int}{lg at_:Nat}{tu sp:Int}{ne:Bool}(h8:ls.length=8) (hb:∀l∈ls,0<=l/\l<26) (g1:1<=lg) (g8:lg<=8) (ha:at_<lg)
include hb in
theorem AY{k:Nat}:∀l∈pj ls lg at_ tu sp ne k,0<=l/\l<26:=by
 intro l hl;unfold pj at hl;cases ne with
 |true=>rw[if_pos rfl]at hl;exact hb l (VA hl)
 |false=>
  rw[if_neg (by decide)]at hl;rcases List.mem_or_eq_of_mem_set hl with hl|rfl
  .exact hb l (VA hl)
  .exact fg (by decide)
include h8 g8 in
theorem lK{k:Nat}:(pj ls lg at_ tu sp ne k).length=if ne=true then 1+((tu+(k:Int)).fmod 8).toNat else lg:=by
 unfold pj;have:=fg (a:=tu+(k:Int)) (b:=8) (by decide);cases ne with|true=>rw[if_pos rfl,if_pos rfl,Rc,h8];omega|false=>rw[if_neg (by decide),if_neg (by decide),List.length_set,Rc,h8];omega
include h8 hb g1 g8 in
theorem MC{k:Nat}:Cod.IsNm (nm ls lg at_ tu sp ne k):=by
 have hl:=lK (tu:=tu) (sp:=sp) (ne:=ne) (at_:=at_) h8 g8 (k:=k);have:=fg (a:=tu+(k:Int)) (b:=8) (by decide);refine⟨?_,?_,λx hx=>?_⟩
 .unfold nm;rw[P7,hl];split<;>omega
 .unfold nm;rw[P7,hl];split<;>omega
 .unfold nm at hx
  obtain⟨l,hl,rfl⟩:=QO.mp hx;have:=AY hb l hl;exact Lg _ (by omega)
include h8 g8 ha in
theorem Ef{i j:Nat}(hij:i<j)(hj:j<7)(hs:sp=1∨sp=3∨sp=5∨sp=7∨sp=9∨sp=11):nm ls lg at_ tu sp ne i≠nm ls lg at_ tu sp ne j:=by
 intro e;cases ne with
 |true=>
  have hl:=congrArg Tv e;unfold nm at hl;rw[P7,P7,lK h8 g8,lK h8 g8,if_pos rfl,if_pos rfl]at hl;have f1:=fg (a:=tu+(i:Int)) (b:=8) (by decide);have f2:=fg (a:=tu+(j:Int)) (b:=8) (by decide);have he:(tu+(i:Int)).fmod 8=(tu+(j:Int)).fmod 8:=by omega
  rw[Rm _ (by decide),Rm _ (by decide)]at he;omega
 |false=>
  have h1:(nm ls lg at_ tu sp false i)[at_]?=(nm ls lg at_ tu sp false j)[at_]?:=by rw[e]
  unfold nm pj at h1;rw[if_neg (by decide),if_neg (by decide),Qg,Qg,QU (by rw[Rc,h8];omega),QU (by rw[Rc,h8];omega)]at h1;simp only[Se,RN,yA]at h1;have f1:=fg (a:=tu+sp*(i:Int)) (b:=26) (by decide);have f2:=fg (a:=tu+sp*(j:Int)) (b:=26) (by decide);have he:(tu+sp*(i:Int)).fmod 26=(tu+sp*(j:Int)).fmod 26:=by omega
  rw[Rm _ (by decide),Rm _ (by decide)]at he;rcases hs with rfl|rfl|rfl|rfl|rfl|rfl<;>omega
include h8 g8 ha in
theorem Cj(hs:sp=1∨sp=3∨sp=5∨sp=7∨sp=9∨sp=11):∀n:Nat,n<=7->((QL n).map (nm ls lg at_ tu sp ne)).Nodup:=by
 intro n hn;rw[Tq,List.pairwise_map];have:(QL n).Pairwise (· < ·):=List.pairwise_lt_range;refine Td.imp_of_mem (λ{i j} hi hj hij=>?_) this;rw[UL]at hj;exact Ef h8 g8 ha hij (by omega) hs
end
noncomputable def jH(ls:List Int) (lg at_:Nat) (tu sp:Int) (ne:Bool) (k:Nat):List (am):=(QL k).map (nm ls lg at_ tu sp ne)
def zm:Cod.nmsD (jH ls lg at_ tu sp ne (k+1))=Cod.nmsD (jH ls lg at_ tu sp ne k)++[.str (Cod.S (nm ls lg at_ tu sp ne k))]:=by
 unfold jH Cod.nmsD;rw[List.range_succ,QI,QI];rfl
def Ee{lg at_ n:Nat}(h8:ls.length=8)(hb:∀l∈ls,0<=l/\l<26)(g1:1<=lg)(g8:lg<=8)(ha:at_<lg)(t0:0<=tu/\tu<26)(s0:0<=sp/\sp<=11)(hn:n<=7) :
  ∃x9 x10,cg (b6 9) (aA (gE 10 (pz (ae 2) ib (gK (ae 3))))
 (aA (Du 10 (ag (ag (ae 5) (ag (ae 6) (ae 9) b3) cB) (dC (.int 26)) dz) (ae 4))
 (aA (er (ae 7)
 (aA (gE 10 (pz (ae 2) ib (gK (ag (dC (.int 1)) (ag (ag (ae 5) (ae 9) cB) (dC (.int 8)) dz) cB))))
 aw)
 aw)
 (aA (yY 10 (cU 8 (uW (dC (.str "")) (af (di 1 [] (kq (ae 10)) (b6 0) mYes (ag (dC (.str "abcdefghijklmnopqrstuvwxyz")) (ae 0) aO)) aC))))
 aw)))) (DL.intsFrom 0 n) [.pt a,.sh (.int (n:Int)),.sh (.lst (ls.map D.int)),.sh (.int (lg:Int)),.sh (.int (at_:Int)),.sh (.int tu),.sh (.int sp),.sh (.bl ne),.ow (.lst []),.no,.no] =
   .ok (.nx [.pt a,.sh (.int (n:Int)),.sh (.lst (ls.map D.int)),.sh (.int (lg:Int)),.sh (.int (at_:Int)),.sh (.int tu),.sh (.int sp),.sh (.bl ne),.ow (.lst (Cod.nmsD (jH ls lg at_ tu sp ne n))),x9,x10]):=by
 obtain⟨ρ',hl,x9,x10,rfl⟩:=pQ (i:=9) (n:=n)
  (ρ:=[.pt a,.sh (.int (n:Int)),.sh (.lst (ls.map D.int)),.sh (.int (lg:Int)),.sh (.int (at_:Int)),.sh (.int tu),.sh (.int sp),.sh (.bl ne),.ow (.lst []),.no,.no])
  (body:=(aA (gE 10 (pz (ae 2) ib (gK (ae 3))))
 (aA (Du 10 (ag (ag (ae 5) (ag (ae 6) (ae 9) b3) cB) (dC (.int 26)) dz) (ae 4))
 (aA (er (ae 7)
 (aA (gE 10 (pz (ae 2) ib (gK (ag (dC (.int 1)) (ag (ag (ae 5) (ae 9) cB) (dC (.int 8)) dz) cB))))
 aw)
 aw)
 (aA (yY 10 (cU 8 (uW (dC (.str "")) (af (di 1 [] (kq (ae 10)) (b6 0) mYes (ag (dC (.str "abcdefghijklmnopqrstuvwxyz")) (ae 0) aO)) aC))))
 aw)))))
  (λk ρ=>∃x9 x10,ρ=[.pt a,.sh (.int (n:Int)),.sh (.lst (ls.map D.int)),.sh (.int (lg:Int)),.sh (.int (at_:Int)),.sh (.int tu),.sh (.int sp),.sh (.bl ne),.ow (.lst (Cod.nmsD (jH ls lg at_ tu sp ne k))),x9,x10]) (by
   rintro k hk ρ ⟨x9,x10,rfl⟩;have hlen:=lK (tu:=tu) (sp:=sp) (ne:=ne) (at_:=at_) h8 g8 (k:=k);have f8:=fg (a:=tu+(k:Int)) (b:=8) (by decide);have om:eK sp (k:Int)=true:=gM (by omega) (by omega);have hap:decide ((Cod.nmsD (jH ls lg at_ tu sp ne k)).length<=999)=true:=decide_eq_true (by unfold Cod.nmsD jH;simp;omega);have hs1:∀x8 x10,pz (ae 2) ib (gK (ae 3)) [.pt a,.sh (.int (n:Int)),.sh (.lst (ls.map D.int)),.sh (.int (lg:Int)),.sh (.int (at_:Int)),.sh (.int tu),.sh (.int sp),.sh (.bl ne),x8,.sh (.int (k:Int)),x10]=.ok (.lst ((ls.take lg).map D.int)):=λ_ _=>Dr rfl rfl (by omega) (by omega);have hix:uK ((ls.take lg).map D.int).length (at_:Int)=some at_:=by
    rw[P7,Rc,h8];unfold uK;rw[if_pos (by omega),if_pos (by omega)];simp
   have hset:((ls.take lg).map D.int).set at_ (.int ((tu+sp*(k:Int)).fmod 26))=((ls.take lg).set at_ ((tu+sp*(k:Int)).fmod 26)).map D.int:=(List.map_set ..).symm;have hll:(pj ls lg at_ tu sp ne k).length<=100:=by rw[hlen];split<;>omega
   have hc:=λρ=>GF (ρ:=ρ) hll (AY hb);have hj:lL "" [.lst (((pj ls lg at_ tu sp ne k).map yA).map λc=>D.str ⟨#[c]⟩)]=.ok (.str (Cod.S (nm ls lg at_ tu sp ne k))):=GD hll;refine⟨[.pt a,.sh (.int (n:Int)),.sh (.lst (ls.map D.int)),.sh (.int (lg:Int)),.sh (.int (at_:Int)),.sh (.int tu),.sh (.int sp),.sh (.bl ne),.ow (.lst (Cod.nmsD (jH ls lg at_ tu sp ne (k+1)))),.sh (.int (k:Int)),.sh (.lst ((pj ls lg at_ tu sp ne k).map D.int))],?_,_,_,rfl⟩;rw[zm];cases ne with
   |true=>
    have e1:pj ls lg at_ tu sp true k=ls.take (1+((tu+(k:Int)).fmod 8).toNat):=if_pos rfl;have hs2:∀x8 x10,pz (ae 2) ib (gK (ag (dC (.int 1)) (ag (ag (ae 5) (ae 9) cB) (dC (.int 8)) dz) cB)) [.pt a,.sh (.int (n:Int)),.sh (.lst (ls.map D.int)),.sh (.int (lg:Int)),.sh (.int (at_:Int)),.sh (.int tu),.sh (.int sp),.sh (.bl true),x8,.sh (.int (k:Int)),x10]=.ok (.lst ((pj ls lg at_ tu sp true k).map D.int)):=λx8 x10=>by
     rw[e1];refine Dr rfl ?_ (by omega) (by omega);open_line with[]
     congr 2
     omega
    open_line with[hs1,bZ om,rO hix,hset,hs2,hc,hj,eu hap]
   |false=>
    have e1:(ls.take lg).set at_ ((tu+sp*(k:Int)).fmod 26)=pj ls lg at_ tu sp false k:=(if_neg (by decide)).symm;rw[e1]at hset;open_line with[hs1,bZ om,rO hix,hset,hc,hj,eu hap]) ⟨_,_,rfl⟩
 exact⟨x9,x10,hl⟩
def Ei(a:P9){n:Nat}(hn:n<=7)(h:St st):∃(css:List (am)) (st':ac),dS a st [.int (n:Int)]=.ok (.lst (Cod.nmsD css),st')/\css.length=n/\css.Nodup/\(∀cs∈css,Cod.IsNm cs)/\St st':=by
 obtain⟨ls,st1,t1,h8,hb,S1⟩:=zC a h;obtain⟨d,st2,t2,d0,d1,S2⟩:=bQ a (n:=8) (by decide) (by decide) S1;obtain⟨at_,st3,t3,a0,a1,S3⟩:=bQ a (n:=1+d) (by omega) (by omega) S2;obtain⟨tu,st4,t4,u0,u1,S4⟩:=bQ a (n:=26) (by decide) (by decide) S3;obtain⟨e,st5,t5,e0,e1,S5⟩:=bQ a (n:=6) (by decide) (by decide) S4;obtain⟨f,st6,t6,f0,f1,S6⟩:=bQ a (n:=3) (by decide) (by decide) S5;obtain⟨sp,hs,i1⟩:∃sp:Int,(sp=1∨sp=3∨sp=5∨sp=7∨sp=9∨sp=11)/\aO (.lst [.int 1,.int 3,.int 5,.int 7,.int 9,.int 11]) (.int e)=.ok (.int sp):=by
  have:e=0∨e=1∨e=2∨e=3∨e=4∨e=5:=by omega
  rcases this with rfl|rfl|rfl|rfl|rfl|rfl
  .exact⟨1,by decide,rfl⟩
  .exact⟨3,by decide,rfl⟩
  .exact⟨5,by decide,rfl⟩
  .exact⟨7,by decide,rfl⟩
  .exact⟨9,by decide,rfl⟩
  .exact⟨11,by decide,rfl⟩
 obtain⟨lg,hlg⟩:=Q3 (show 0<=1+d by omega);obtain⟨at',rfl⟩:=Q3 a0;rw[hlg]at t3;obtain⟨x9,x10,hl⟩:=Ee (a:=a) (ls:=ls) (lg:=lg) (at_:=at') (n:=n) (tu:=tu) (sp:=sp) (ne:=(f==0)) h8 hb (by omega) (by omega) (by omega) ⟨u0,u1⟩ (by omega) hn;refine⟨jH ls lg at' tu sp (f==0) n,st6,?_,by unfold jH;simp,Cj h8 (by omega) (by omega) hs n hn,λcs hc=>?_,S6⟩
 .have hsrc:∀ρ,kD (dC (.int 8)) ρ=.ok (DL.intsFrom 0 8):=λ_=>rfl
  have hbm:∀x1 x2 x3 x4 x5 x6 x7 x8 x9 x10,fj 1 [0] [.pt a,x1,x2,x3,x4,x5,x6,x7,x8,x9,x10]=[.no,.pt a]:=λ_ _ _ _ _ _ _ _ _ _=>rfl;open_line with[dS,m8,hsrc,hbm,t1,t2,hlg,t3,t4,t5,i1,t6,mG,lN (show n<=1000000 by omega),hl]
 .unfold jH at hc
  obtain⟨k,_,rfl⟩:=QO.mp hc;exact MC h8 hb (by omega) (by omega)
def Gk(a:P9){p q:Nat}(hp:2<=p/\p<=7)(hq:q<=14)(h:St st):∃(w:j7) (st':ac),dF a st [.int (p:Int),.int (q:Int)]=.ok (aS w,st')/\cq w/\(∀t∈w.ts,j8 t)/\St st':=by
 obtain⟨m,st1,t1,m0,m1,S1⟩:=bQ a (n:=(p:Int)-1) (by omega) (by omega) h;obtain⟨m,rfl⟩:=Q3 m0;obtain⟨css,st2,t2,hcl,hnd,hall,S2⟩:=Ei a (n:=2+m) (by omega) S1;have hnm:Cod.nmsD css=(css.map Cod.S).map D.str:=by unfold Cod.nmsD;rw[RD];rfl
 have hzl:(css.map Cod.S).length=2+m:=by rw[P7,hcl]
 have nd:(css.map Cod.S).Nodup:=by
  rw[Tq,List.pairwise_map];exact Td.imp (λh z=>h (Cod.S_inj z)) (Tq.mp hnd)
 have nm:ni (css.map Cod.S):=⟨nd,λz hz=>by
  obtain⟨cs,hc,rfl⟩:=QO.mp hz;exact(hall cs hc).nameB⟩
 rw[hnm]at t2;generalize css.map Cod.S=zs at *;have hlen:cT (.lst (zs.map D.str))=.ok (.int zs.length):=by rw[cX,P7]
 have hn0:((zs.length:Int)==0)=false:=beq_eq_false_iff_ne.mpr (by omega);obtain⟨c,st3,t3,c0,c1,S3⟩:=bQ a (n:=(q:Int)+1) (by omega) (by omega) S2;obtain⟨c,rfl⟩:=Q3 c0;have hlenI:(DL.intsFrom 0 c).length=c:=by unfold DL.intsFrom;simp
 obtain⟨ρ2,st4,hl,ts,x6,rfl,htl,hts,S4⟩:=jK (tg:=b6 6) (body:=(aV (vR 5 (bD 0 a (aT (mP (ae 3)) (aT (mP (ae 6)) b4)) cQ))
 bS))
  (λj ρ st=>∃(ts:List vk) (x6:Sl),ρ=[.pt a,.sh (.int (p:Int)),.sh (.int (q:Int)),.sh (.lst (zs.map D.str)),.sh (.int (zs.length:Int)),.ow (.lst (ts.map bI)),x6,.no,.no]/\ts.length=j/\(∀t∈ts,oZ zs t/\j8 t)/\St st) (DL.intsFrom 0 c) (by
   rintro j d ρ st hj ⟨ts,x6,rfl,rfl,hts,S⟩;have hjt:ts.length<c:=by have:=(Qa.mp hj).1;omega
   have hd:d=.int (ts.length:Int):=by
    unfold DL.intsFrom at hj;rw[Qg,Sx hjt]at hj;simp at hj;exact hj.symm
   subst hd;obtain⟨t,st',tt,tk,ta,S'⟩:=Gy a (zs:=zs) (k:=ts.length) (by omega) (by omega) nd S;have hap:decide ((ts.map bI).length<=999)=true:=decide_eq_true (by rw[P7];omega);refine⟨_,[.pt a,.sh (.int (p:Int)),.sh (.int (q:Int)),.sh (.lst (zs.map D.str)),.sh (.int (zs.length:Int)),.ow (.lst ((ts++[t]).map bI)),.sh (.int (ts.length:Int)),.no,.no],st',rfl,.inl ?_,ts++[t],_,rfl,by simp,λu hu=>?_,S'⟩
   .open_line with[tt,mR hap,QI]
   .rw[QQ]at hu
    rcases hu with hu|hu
    .exact hts u hu
    .have:u=t:=by simpa using hu
     subst this;exact⟨tk,ta⟩) 0 [.pt a,.sh (.int (p:Int)),.sh (.int (q:Int)),.sh (.lst (zs.map D.str)),.sh (.int (zs.length:Int)),.ow (.lst []),.no,.no,.no] st3 (R0 _) ⟨[],_,rfl,rfl,λt ht=>by simp at ht,S3⟩
 rw[RK]at hl;rw[hlenI]at htl;have hsr:qV (.int (c:Int),st3)=.ok (DL.intsFrom 0 c,st3):=mQ (by omega);have h2m:(2:Int)+(m:Int)=((2+m:Nat):Int):=by omega
 rw[←h2m]at t2;obtain⟨g,st5,t5,g0,g1,S5⟩:=bQ a (n:=2) (by decide) (by decide) S4;cases hg:(g==0) with
 |true=>
  obtain⟨d,st6,t6,d0,d1,S6⟩:=bQ a (n:=(zs.length:Int)) (by omega) (by omega) S5;obtain⟨e,st7,t7,e0,e1,S7⟩:=bQ a (n:=(zs.length:Int)-1) (by omega) (by omega) S6;obtain⟨hr,hne⟩:=vh (n:=(zs.length:Int)) (d:=d) (e:=e) (by omega) d0 d1 e0 e1;obtain⟨z1,k1,j1⟩:=nv (zs:=zs) d0 d1;obtain⟨z2,k2,j2⟩:=nv (zs:=zs) hr.1 hr.2;have hz12:z1≠z2:=lI nd k1 k2 (by omega);refine⟨⟨zs,ts,z1,z2⟩,st7,?_,⟨by show 2<=zs.length;omega,by show zs.length<=7;omega,nm,by show ts.length<=14;omega,λt ht=>(hts t ht).1,Qh k1,Qh k2,hz12⟩,λt ht=>(hts t ht).2,S7⟩;open_line with[dF,lh,ku,t1,t2,hlen,t3,hsr,hl,t5,hg,t6,t7,hn0,j1,j2,aS]
 |false=>
  obtain⟨z1,k1,j1⟩:=nv (zs:=zs) (k:=0) (by decide) (by omega);obtain⟨z2,k2,j2⟩:=nv (zs:=zs) (k:=(zs.length:Int)-1) (by omega) (by omega);have hz12:z1≠z2:=lI nd k1 k2 (by omega);refine⟨⟨zs,ts,z1,z2⟩,st5,?_,⟨by show 2<=zs.length;omega,by show zs.length<=7;omega,nm,by show ts.length<=14;omega,λt ht=>(hts t ht).1,Qh k1,Qh k2,hz12⟩,λt ht=>(hts t ht).2,S5⟩;open_line with[dF,lh,ku,t1,t2,hlen,t3,hsr,hl,t5,hg,j1,j2,aS]
end Bor
namespace DL
open PySem L2
section
variable {α β:Type}
noncomputable def Rf(a b:ak α):Prop:=a=.stuck∨a=b
def dj{a b:ak α}{f g:α->ak β}(h:Rf a b)(k:∀x,Rf (f x) (g x)):Rf (a.bind f) (b.bind g):=by
 rcases h with rfl|rfl
 .exact .inl rfl
 .cases a with
  |ok x=>exact k x
  |exn x=>exact .inr rfl
  |stuck=>exact .inl rfl
structure kA (f g:Ev->ak α):Prop where
 o:∀ρ,Rf (f ρ) (g ρ)
end
structure NO (f g:ac->ak D):Prop where
 o:∀ds,Rf (f ds) (g ds)
def NO.ok(h:NO f g)(e:f ds=.ok d):g ds=.ok d:=by
 rcases h.o ds with q|q
 .rw[q]at e;cases e
 .rw[←q];exact e
def rfm_refl:NO f f:=⟨λ_=>.inr rfl⟩
def rf_refl{f:Ev->ak α}:kA f f:=⟨λ_=>.inr rfl⟩
section
variable {s s' t t':Ev->ak Fl}{c c' f f':Ev->ak D}{fa fa':Ev->ak (ac)}{m m':ac->ak D}
def rf_stuck:kA cx s:=⟨λ_=>.inl rfl⟩
def rf_seq(h1:kA s s')(h2:kA t t'):kA (aA s t) (aA s' t'):=⟨λρ=>dj (h1.o ρ) λr=>by
 cases r with
 |nx ρ'=>exact h2.o ρ'
 |_=>exact .inr rfl⟩
def rf_if(hc:kA c c')(h1:kA s s')(h2:kA t t'):kA (er c s t) (er c' s' t'):=⟨λρ=>dj (hc.o _) λr=>by
 cases r with
 |bl b=>cases b with
  |true=>exact h1.o ρ
  |false=>exact h2.o ρ
 |_=>exact .inr rfl⟩
theorem pF(h:kA s s'):∀(ds:ac) (ρ:Ev),Rf (cg tg s ds ρ) (cg tg s' ds ρ)
 |[],ρ=>.inr rfl
 |d::r,ρ=>by
  unfold cg;refine dj (.inr rfl) λρ1=>dj (h.o ρ1) λx=>?_;cases x with|nx ρ2|ct ρ2=>exact pF h r ρ2|bk ρ2|rt d=>exact .inr rfl
def rf_for(hf:kA f f')(h:kA s s'):kA (o8 f tg s) (o8 f' tg s'):=⟨λρ=>dj (hf.o ρ) λd=>by
 cases d with
 |lst ds=>exact pF h ds ρ
 |_=>exact .inr rfl⟩
def rf_forI(h:kA s s'):kA (kE src tg s) (kE src tg s'):=⟨λρ=>dj (.inr rfl) λds=>pF h ds ρ⟩
def rf_drop(h:kA f f'):kA (fL f) (fL f'):=⟨λρ=>dj (h.o _) λ_=>.inr rfl⟩
def rf_ret(h:kA f f'):kA (b5 f) (b5 f'):=⟨λρ=>dj (h.o _) λ_=>.inr rfl⟩
def rf_set(h:kA f f'):kA (bJ i f) (bJ i f'):=⟨λρ=>dj (h.o _) λ_=>.inr rfl⟩
def rf_b1(h:kA f f'):kA (bV f op) (bV f' op):=⟨λρ=>dj (h.o _) λ_=>.inr rfl⟩
def rf_not(h:kA f f'):kA (cA f) (cA f'):=rf_b1 h
def rf_b2(h:kA f f')(h2:kA c c'):kA (ag f c op) (ag f' c' op):=⟨λρ=>dj (h.o _) λ_=>dj (h2.o _) λ_=>.inr rfl⟩
def rf_bA(h:kA fa fa')(hm:NO m m'):kA (aq fa m) (aq fa' m'):=⟨λρ=>dj (h.o _) λds=>hm.o ds⟩
def rf_cons(h:kA f f')(h2:kA fa fa'):kA (af f fa) (af f' fa'):=⟨λρ=>dj (h.o _) λ_=>dj (h2.o _) λ_=>.inr rfl⟩
end
end DL
local macro_rules|`(tactic|open_line with[rf_go])=>`(tactic|repeat (first|with_reducible exact DL.rf_refl|with_reducible exact DL.rf_stuck|with_reducible assumption|with_reducible exact DL.rfm_refl|with_reducible refine DL.rf_seq ?_ ?_|with_reducible refine DL.rf_if ?_ ?_ ?_|with_reducible refine DL.rf_for ?_ ?_|with_reducible refine DL.rf_forI ?_|with_reducible refine DL.rf_drop ?_|with_reducible refine DL.rf_ret ?_|with_reducible refine DL.rf_set ?_|with_reducible refine DL.rf_not ?_|with_reducible refine DL.rf_bA ?_ ?_|with_reducible refine DL.rf_cons ?_ ?_|with_reducible refine DL.rf_b1 ?_|with_reducible refine DL.rf_b2 ?_ ?_))
namespace Wex
open PySem L2 DL Com
theorem nums_eq:∀{a b:am},eqDs (a.map λ(k:Nat)=>D.int (k:Int)) (b.map λ(k:Nat)=>D.int (k:Int))=true↔a=b
 |[],[]=>by simp[eqDs]
 |[],_::_=>by simp[eqDs]
 |_::_,[]=>by simp[eqDs]
 |x::a,y::b=>by
  rw[Qf,Qf,eqDs,QK,nums_eq];rw[c8];simp;intro _;omega
noncomputable def plainD:D->Bool
 |.non=>true
 |.bl _=>true
 |.int _=>true
 |.str _=>true
 |.tup _=>true
 |.lst _=>true
 |_=>false
def number_odd(hd:plainD d=true)(hi:∀n,d≠.int n):m_is_tie_number [aS w,d]=.ok (.bl false):=by
 rw[show aS w=.tup [.lst (w.ps.map D.str),.lst (w.ts.map bI),.str w.fi,.str w.la] from rfl];cases d with
 |int n=>exact absurd rfl (hi n)
 |non=>open_line with[m_is_tie_number,bN,bY,A6]
 |bl b=>open_line with[m_is_tie_number,bN,bY,A6]
 |str b=>open_line with[m_is_tie_number,bN,bY,A6]
 |tup b=>open_line with[m_is_tie_number,bN,bY,A6]
 |lst b=>open_line with[m_is_tie_number,bN,bY,A6]
 |_=>cases hd
def number_int:m_is_tie_number [aS w,.int n]=.ok (.bl (decide (0<=n)&&decide (n<(w.ts.length:Int)))):=by
 rw[show aS w=.tup [.lst (w.ps.map D.str),.lst (w.ts.map bI),.str w.fi,.str w.la] from rfl];cases h:decide ((0:Int)<=n) with
 |false=>open_line with[m_is_tie_number,bN,bY,A6,P7,h,Sm]
 |true=>open_line with[m_is_tie_number,bN,bY,A6,P7,h,TC]
end Wex
namespace K11
open PySem L2 DL Com
noncomputable def there(t:vk) (z:Qu):Option Qu:=if t.a=z then some t.b else if t.b=z/\t.w="both" then some t.a else none
noncomputable def oS:Option Qu->D
 |some z=>.str z
 |none=>.non
def eq_str:kH (.str x) (.str y)=.ok (.bl (decide (x=y))):=by
 have h:kH (.str x) (.str y)=.ok (.bl (x==y)):=rfl;rw[h]
 by_cases e:x=y
 .rw[decide_eq_true e,e,beq_self_eq_true]
 .rw[decide_eq_false e,beq_eq_false_iff_ne.mpr e]
def lq:bW [bI t,.str z]=.ok (oS (there t z)):=by
 obtain⟨a,b,w,l,o⟩:=t;rw[show bI ⟨a,b,w,l,o⟩=.tup [.str a,.str b,.str w,fr l,gz o] from rfl];unfold there
 by_cases h1:a=z
 .rw[if_pos h1]
  open_line with[bW,eV,eq_str,decide_eq_true h1,oS]
 .rw[if_neg h1]
  by_cases h2:b=z
  .by_cases h3:w="both"
   .rw[if_pos ⟨h2,h3⟩]
    open_line with[bW,eV,eq_str,decide_eq_false h1,decide_eq_true h2,decide_eq_true h3,oS]
   .rw[if_neg (λh=>h3 h.2)]
    open_line with[bW,eV,eq_str,decide_eq_false h1,decide_eq_true h2,decide_eq_false h3,oS]
  .rw[if_neg (λh=>h2 h.1)]
   open_line with[bW,eV,eq_str,decide_eq_false h1,decide_eq_false h2,oS]
noncomputable def ways(t:vk):List (Qu×Qu):=if t.w="one" then[(t.a,t.b)] else[(t.a,t.b),(t.b,t.a)]
noncomputable def pr(p:Qu×Qu):D:=.tup [.str p.1,.str p.2]
def wZ:m_steps_along [bI t]=.ok (.lst ((ways t).map pr)):=by
 obtain⟨a,b,w,l,o⟩:=t;rw[show bI ⟨a,b,w,l,o⟩=.tup [.str a,.str b,.str w,fr l,gz o] from rfl];unfold ways
 by_cases h:w="one"
 .rw[if_pos h]
  open_line with[m_steps_along,iD,eq_str,decide_eq_true h,pr]
 .rw[if_neg h]
  open_line with[m_steps_along,iD,eq_str,decide_eq_false h,pr]
def shal_nums{ks:am}:(ks.map λ(k:Nat)=>D.int (k:Int)).all (bq m)=true:=QF.mpr λd hd=>by
 obtain⟨z,_,rfl⟩:=QO.mp hd;cases m<;>rfl
theorem wF{n:Nat}:∀{ks:am},((ks.map λ(k:Nat)=>D.int (k:Int)).any λd=>c8 d (.int (n:Int)))=decide (n∈ks)
 |[]=>rfl
 |k::ks=>by
  rw[Qf,Tz,wF];have e:c8 (.int (k:Int)) (.int (n:Int))=((k:Int)==(n:Int)):=by rw[c8]
  rw[e]
  by_cases h:n=k
  .subst h;simp
  .have h1:((k:Int)==(n:Int))=false:=beq_eq_false_iff_ne.mpr (by omega)
   rw[h1,Bool.false_or];have:n∈k::ks↔n∈ks:=by simp[h]
   exact decide_eq_decide.mpr this.symm
def eQ{ks:am}{n:Nat}:sT (.int (n:Int)) (.lst (ks.map λ(k:Nat)=>D.int (k:Int)))=.ok (.bl (decide (n∈ks))):=by
 have e:CW (.int (n:Int)) (.lst (ks.map λ(k:Nat)=>D.int (k:Int)))=some (decide (n∈ks)):=(if_pos ⟨rfl,shal_nums⟩).trans (congrArg some wF);unfold sT;rw[e]
def gL{ks:am}{n:Nat}:dy (.int (n:Int)) (.lst (ks.map λ(k:Nat)=>D.int (k:Int)))=.ok (.bl (!(decide (n∈ks)))):=by
 have e:CW (.int (n:Int)) (.lst (ks.map λ(k:Nat)=>D.int (k:Int)))=some (decide (n∈ks)):=(if_pos ⟨rfl,shal_nums⟩).trans (congrArg some wF);unfold dy;rw[e]
def zl:Com.m_is_tie_number [aS w,.dic [] []]=.ok (.bl false):=by
 rw[show aS w=.tup [.lst (w.ps.map D.str),.lst (w.ts.map bI),.str w.fi,.str w.la] from rfl];open_line with[Com.m_is_tie_number,bN,bY,A6]
noncomputable def v7(w:j7) (ks:am) (seen:al) (here:Qu) (d:D):Option Qu :=
 if here=w.la then none else match d with
 |.int n=>if 0<=n/\n<(w.ts.length:Int)/\n.toNat∉ks then match w.ts[n.toNat]? with
   |some t=>match there t here with
    |some y=>if y∈seen then none else some y
    |none=>none
   |none=>none
  else none
 |_=>none
noncomputable def cD(seen:al) (here:Qu):List (Qu×Qu)->Option Qu
 |[]=>none
 |p::r=>if p.1=here/\p.2∉seen then some p.2 else cD seen here r
theorem xV{t:vk}{seen:al}{here:Qu}(ne:t.a≠t.b)(hw:t.w="one"∨t.w="both"):cD seen here (ways t)=match there t here with
  |some y=>if y∈seen then none else some y
  |none=>none:=by
 unfold ways there
 by_cases h:t.w="one"
 .have hb:t.w≠"both":=by rw[h];decide
  rw[if_pos h]
  by_cases h1:t.a=here
  .rw[if_pos h1]
   by_cases h2:t.b∈seen
   .simp[cD,h2]
   .simp[cD,h1,h2]
  .rw[if_neg h1,if_neg (λz=>hb z.2)]
   simp[cD,h1]
 .have hb:t.w="both":=hw.resolve_left h
  rw[if_neg h]
  by_cases h1:t.a=here
  .have h3:t.b≠here:=λz=>ne (h1.trans z.symm)
   rw[if_pos h1]
   by_cases h2:t.b∈seen
   .simp[cD,h2,h3]
   .simp[cD,h1,h2]
  .rw[if_neg h1]
   by_cases h3:t.b=here
   .rw[if_pos ⟨h3,hb⟩]
    by_cases h2:t.a∈seen
    .simp[cD,h1,h2]
    .simp[cD,h1,h2,h3]
   .rw[if_neg (λz=>h3 z.1)]
    simp[cD,h1,h3]
noncomputable def Elt(d:D):Prop:=Wex.plainD d=true∨d=.dic [] []
noncomputable abbrev xx:Ev->ak Fl:=(aA (er (gZ (ag (ae 4) (ag (ae 2) (bV (dC (.int 1)) pA) aO) kH) (ag (ae 5) (ae 2) dy))
 (aA (b5 (ae 5))
 aw)
 aw)
 aw)
def cW:aO (.lst ((pre++[here]).map D.str)) (.int (-1))=.ok (.str here):=by
 rw[QI];exact Hv
theorem zf:∀(ps:List (Qu×Qu)) (x4 x5:Sl),
  (∃y,cD (pre++[here]) here ps=some y/\cg (dw [4,5]) xx (ps.map pr) [.sh x0,.sh x1,.sh (.lst ((pre++[here]).map D.str)),.sh d,x4,x5]=.ok (.rt (.str y))) ∨
  (cD (pre++[here]) here ps=none/\∃y4 y5,cg (dw [4,5]) xx (ps.map pr) [.sh x0,.sh x1,.sh (.lst ((pre++[here]).map D.str)),.sh d,x4,x5]=.ok (.nx [.sh x0,.sh x1,.sh (.lst ((pre++[here]).map D.str)),.sh d,y4,y5]))
 |[],x4,x5=>.inr ⟨rfl,x4,x5,rfl⟩
 |(p,q)::ps,x4,x5=>by
  have hg:dw [4,5] [.sh x0,.sh x1,.sh (.lst ((pre++[here]).map D.str)),.sh d,x4,x5] (pr (p,q))=.ok [.sh x0,.sh x1,.sh (.lst ((pre++[here]).map D.str)),.sh d,.sh (.str p),.sh (.str q)]:=rfl;rw[Qf];unfold cg;rw[hg]
  by_cases h1:p=here
  .by_cases h2:q∈pre++[here]
   .have hb:xx [.sh x0,.sh x1,.sh (.lst ((pre++[here]).map D.str)),.sh d,.sh (.str p),.sh (.str q)]=.ok (.nx [.sh x0,.sh x1,.sh (.lst ((pre++[here]).map D.str)),.sh d,.sh (.str p),.sh (.str q)]):=by
     open_line with[cW,eq_str,decide_eq_true h1,fu,decide_eq_true h2]
    have hf:cD (pre++[here]) here ((p,q)::ps)=cD (pre++[here]) here ps:=by
     rw[cD,if_neg (λz=>z.2 h2)]
    rw[hf];simp only[ak.bind,hb];exact zf ps _ _
   .have hb:xx [.sh x0,.sh x1,.sh (.lst ((pre++[here]).map D.str)),.sh d,.sh (.str p),.sh (.str q)]=.ok (.rt (.str q)):=by
     open_line with[cW,eq_str,decide_eq_true h1,fu,decide_eq_false h2]
    refine .inl ⟨q,?_,?_⟩
    .rw[cD,if_pos ⟨h1,h2⟩]
    .simp only[ak.bind,hb]
  .have hb:xx [.sh x0,.sh x1,.sh (.lst ((pre++[here]).map D.str)),.sh d,.sh (.str p),.sh (.str q)]=.ok (.nx [.sh x0,.sh x1,.sh (.lst ((pre++[here]).map D.str)),.sh d,.sh (.str p),.sh (.str q)]):=by
    open_line with[cW,eq_str,decide_eq_false h1]
   have hf:cD (pre++[here]) here ((p,q)::ps)=cD (pre++[here]) here ps:=by
    rw[cD,if_neg (λz=>h1 z.1)]
   rw[hf];simp only[ak.bind,hb];exact zf ps _ _
def CO(W:cq w)(hd:Elt d):m_place_behind [aS w,eJ ks,.lst ((pre++[here]).map D.str),d]=.ok (oS (v7 w ks (pre++[here]) here d)):=by
 have i3:aO (aS w) (.int 3)=.ok (.str w.la):=rfl;have i1:aO (aS w) (.int 1)=.ok (.lst (w.ts.map bI)):=rfl;unfold v7
 by_cases h0:here=w.la
 .rw[if_pos h0]
  open_line with[m_place_behind,cI,cW,i3,eq_str,decide_eq_true h0,oS]
 rw[if_neg h0]
 by_cases hi:∃n,d=.int n
 .obtain⟨n,rfl⟩:=hi
  have hn:m_is_tie_number [aS w,.int n]=.ok (.bl (decide (0<=n)&&decide (n<(w.ts.length:Int)))):=Wex.number_int
  by_cases h1:0<=n/\n<(w.ts.length:Int)
  .obtain⟨k,rfl⟩:=Q3 h1.1
   rw[decide_eq_true h1.1,decide_eq_true h1.2]at hn;have hkt:((k:Int)).toNat=k:=by omega
   by_cases h2:k∈ks
   .simp only[hkt]
    rw[if_neg (λz=>z.2.2 h2)];open_line with[m_place_behind,cI,cW,i3,eq_str,decide_eq_false h0,hn,eJ,eQ,decide_eq_true h2,oS]
   .simp only[hkt]
    rw[if_pos ⟨h1.1,h1.2,h2⟩];have hk:k<w.ts.length:=by omega
    have ht:w.ts[k]?=some w.ts[k]:=P5 hk;have hix:=nu ht;have tk:=W.ts w.ts[k] (R7 hk);rw[ht];simp only;rw[←xV tk.ne tk.w];rcases zf (x0:=aS w) (x1:=.lst (ks.map λ(k:Nat)=>D.int (k:Int))) (d:=.int (k:Int)) (pre:=pre) (here:=here) (ways w.ts[k]) .no .no with⟨y,e1,e2⟩|⟨e1,y4,y5,e2⟩
    .rw[e1]
     open_line with[m_place_behind,cI,cW,i3,eq_str,decide_eq_false h0,hn,eJ,eQ,decide_eq_false h2,i1,hix,wZ,e2,oS]
    .rw[e1]
     open_line with[m_place_behind,cI,cW,i3,eq_str,decide_eq_false h0,hn,eJ,eQ,decide_eq_false h2,i1,hix,wZ,e2,oS]
  .have hf:(decide (0<=n)&&decide (n<(w.ts.length:Int)))=false:=by
    rw[TX]
    by_cases h2:0<=n
    .exact .inr (decide_eq_false λz=>h1 ⟨h2,z⟩)
    .exact .inl (decide_eq_false h2)
   rw[hf]at hn;simp only;rw[if_neg (λz=>h1 ⟨z.1,z.2.1⟩)];open_line with[m_place_behind,cI,cW,i3,eq_str,decide_eq_false h0,hn,oS]
 .have hn:m_is_tie_number [aS w,d]=.ok (.bl false):=by
   rcases hd with hd|rfl
   .exact Wex.number_odd hd λn z=>hi ⟨n,z⟩
   .exact zl
  have key:m_place_behind [aS w,eJ ks,.lst ((pre++[here]).map D.str),d]=.ok .non:=by
   open_line with[m_place_behind,cI,cW,i3,eq_str,decide_eq_false h0,hn]
  rw[key];cases d with|int n=>exact absurd ⟨n,rfl⟩ hi| _=>rfl
def Eg:gS (.str x) (.str y)=.ok (.bl (!(decide (x=y)))):=by
 have h:gS (.str x) (.str y)=.ok (.bl (!(x==y))):=rfl;rw[h]
 by_cases e:x=y
 .rw[decide_eq_true e,e,beq_self_eq_true]
 .rw[decide_eq_false e,beq_eq_false_iff_ne.mpr e]
noncomputable def walk(w:j7) (ks:am):al->Qu->Nat->ac->Nat ⊕ al
 |pre,here,_,[]=>.inr (pre++[here])
 |pre,here,i,d::r=>match v7 w ks (pre++[here]) here d with
  |none=>.inl i
  |some y=>walk w ks (pre++[here]) y (i+1) r
noncomputable def uR(w:j7) (n:Nat):Nat ⊕ al->Option Nat
 |.inl j=>some j
 |.inr seen=>if seen.getLast?=some w.la then none else some n
noncomputable abbrev ES:Ev->ak Fl:=(aA (Av 6 (aq (af (ae 0) (af (ae 1) (af (ae 3) (af (ae 5) aC)))) m_place_behind))
 (aA (er (ag (ae 6) (dC (.non)) uk)
 (aA (jc "NoWay" ["at"] (af (ae 4) aC))
 aw)
 aw)
 (aA (cU 3 (ae 6))
 aw)))
noncomputable def HB(w:j7) (ks:am) (th:ac) (seen:al) (x4 x5 x6:Sl):Ev:=[.sh (aS w),.sh (eJ ks),.sh (.lst th),.ow (.lst (seen.map D.str)),x4,x5,x6]
noncomputable def Og(i:Nat) (ρ:Ev) (d:D):ak Fl:=if iN d=true then .ok (.nx (ρ.set i (.sh d))) else .stuck
def Fm:Av i f ρ=(f (ey ρ)).bind (Og i ρ):=aJ rfl
def Nc:Og i ρ .non=.ok (.nx (ρ.set i (.sh .non))):=aJ rfl
def Nb:Og i ρ (.str y)=.ok (.nx (ρ.set i (.sh (.str y)))):=aJ rfl
def zL{k:α->ak β}:(ak.exn x).bind k=.exn x:=aJ rfl
theorem KA{w:j7}(W:cq w){ks:am}{th:ac}{here:Qu}{pre:al}{i:Nat}{d:D}{x6:Sl}(hd:Elt d)(hl:pre.length<=900) :
  ES (HB w ks th (pre++[here]) (.sh (.int (i:Int))) (.sh d) x6)=match v7 w ks (pre++[here]) here d with
   |none=>.exn ⟨"NoWay",[("at",.int (i:Int))]⟩
   |some y=>.ok (.nx (HB w ks th (pre++[here]++[y]) (.sh (.int (i:Int))) (.sh d) (.sh (.str y)))):=by
 have hp:=CO W (ks:=ks) (pre:=pre) (here:=here) hd;have hap:decide (((pre++[here]).map D.str).length<=999)=true:=decide_eq_true (by simp;omega);unfold HB;cases e:v7 w ks (pre++[here]) here d with
 |none=>
  rw[e]at hp;simp only[oS]at hp;open_line with[hp,uN,rL,zL,Fm,Nc]
 |some y=>
  rw[e]at hp;simp only[oS]at hp;have hma:(pre++[here]++[y]).map D.str=(pre++[here]).map D.str++[.str y]:=by rw[QI];rfl
  simp only[hma];open_line with[hp,eu hap,Fm,Nb]
theorem kF:∀(th:ac) (n i:Nat) (h:i<th.length),(numbered n th).drop i=.tup [.int ((n+i:Nat):Int),th[i]]::(numbered n th).drop (i+1)
 |d::th,n,0,h=>rfl
 |d::th,n,i+1,h=>by
  have:=kF th (n+1) i (by simpa using h);rw[DL.numbered,VD,this,VD,List.getElem_cons_succ,show n+1+i=n+(i+1) by omega]
theorem Kz{w:j7}(W:cq w){ks:am}{th:ac}(he:∀d∈th,Elt d)(hl:th.length<=100):∀(m i:Nat) (pre:al) (here:Qu) (x4 x5 x6:Sl),i+m=th.length->pre.length=i ->
  match walk w ks pre here i (th.drop i) with
  |.inl j=>cg (dw [4,5]) ES ((numbered 0 th).drop i) (HB w ks th (pre++[here]) x4 x5 x6)=.exn ⟨"NoWay",[("at",.int (j:Int))]⟩
  |.inr seen=>∃pre' here' x4' x5' x6',seen=pre'++[here']/\cg (dw [4,5]) ES ((numbered 0 th).drop i) (HB w ks th (pre++[here]) x4 x5 x6)=.ok (.nx (HB w ks th seen x4' x5' x6')):=by
 intro m
 induction m with
 |zero=>
  intro i pre here x4 x5 x6 him _;have:i=th.length:=by omega
  subst this;rw[Sr,List.drop_of_length_le (by rw[gi];exact Ql _)];exact⟨pre,here,x4,x5,x6,rfl,rfl⟩
 |succ m ih=>
  intro i pre here x4 x5 x6 him hpl;have hi:i<th.length:=by omega
  rw[QZ hi,kF th 0 i hi,SR];have hb:=KA W (ks:=ks) (th:=th) (here:=here) (pre:=pre) (i:=i) (d:=th[i]) (x6:=x6) (he _ (R7 hi)) (by omega);have hg:dw [4,5] (HB w ks th (pre++[here]) x4 x5 x6) (.tup [.int (i:Int),th[i]])=.ok (HB w ks th (pre++[here]) (.sh (.int (i:Int))) (.sh th[i]) x6):=rfl;unfold walk cg;rw[hg];cases e:v7 w ks (pre++[here]) here th[i] with
  |none=>
   rw[e]at hb;simp only[ak.bind,hb]
  |some y=>
   rw[e]at hb;simp only[ak.bind,hb];exact ih (i+1) (pre++[here]) y _ _ _ (by omega) (by simp;omega)
noncomputable def Ec(d:D):OQ:=⟨"NoWay",[("at",d)]⟩
def way_list(W:cq w)(he:∀d∈th,Elt d)(hl:th.length<=100):(∃j,uR w th.length (walk w ks [] w.fi 0 th)=some j/\m_walk_way [aS w,eJ ks,.lst th]=.exn (Ec (.int (j:Int)))) ∨
  (uR w th.length (walk w ks [] w.fi 0 th)=none/\∃d,m_walk_way [aS w,eJ ks,.lst th]=.ok d):=by
 have i2:aO (aS w) (.int 2)=.ok (.str w.fi):=rfl;have i3:aO (aS w) (.int 3)=.ok (.str w.la):=rfl;have hlen:cT (.lst th)=.ok (.int th.length):=cX;have h:=Kz W (ks:=ks) he hl th.length 0 [] w.fi .no .no .no (by omega) rfl;rw[RK,RK]at h;unfold HB at h;simp only[RZ,Qf,RS]at h;cases e:walk w ks [] w.fi 0 th with
 |inl j=>
  rw[e]at h;simp only at h;refine .inl ⟨j,rfl,?_⟩;open_line with[m_walk_way,jk,i2,h,zL,Ec]
 |inr seen=>
  rw[e]at h;simp only at h;obtain⟨pre',here',x5',x6',x7',rfl,h⟩:=h;simp only[uR,List.getLast?_append,List.getLast?_singleton,Option.some_or,RN]
  by_cases hc:here'=w.la
  .rw[if_pos hc]
   refine .inr ⟨rfl,.lst ((pre'++[here']).map D.str),?_⟩;open_line with[m_walk_way,jk,i2,h,cW,i3,Eg,decide_eq_true hc]
  .rw[if_neg hc]
   refine .inl ⟨th.length,rfl,?_⟩;open_line with[m_walk_way,jk,i2,h,cW,i3,Eg,decide_eq_false hc,hlen,uN,rL,zL,Ec]
end K11
namespace K11
open PySem L2 DL Com Bor
noncomputable abbrev nums(ks:am):ac:=ks.map λ(k:Nat)=>D.int (k:Int)
end K11
namespace DL
open PySem PySem.Spec PyProof.Rows L2
noncomputable def Rp(d:D) (n k:Nat):Prop:=∃p,fK d=some p/\p.showable=true/\p.depth<=k/\p.shown.length<=n
noncomputable def gX(ds:ac) (n k:Nat):Prop:=∃ps,toPys ds=some ps/\ps.length=ds.length/\PyData.showableAll ps=true/\UB ps<=k/\((RY ps).map (λx=>x.length)).sum<=n
theorem i6:∀(ps:List Rb),(RY ps).length=ps.length
 |[]=>by rw[RY];rfl
 |p::ps=>by rw[RY,QE,i6 ps,QE]
def Rp.up(h:Rp d n k)(hn:n<=n')(hk:k<=k'):Rp d n' k':=by
 obtain⟨p,h1,h2,h3,h4⟩:=h;exact⟨p,h1,h2,QM h3 hk,QM h4 hn⟩
def gX.nil:gX [] 0 k:=⟨[],rfl,rfl,rfl,by rw[UB];omega,by rw[RY];exact Ql _⟩
def gX.cons(h:Rp d a k)(t:gX ds n k):gX (d::ds) (a+n) k:=by
 obtain⟨p,h1,h2,h3,h4⟩:=h;obtain⟨ps,t1,t2,t3,t4,t5⟩:=t;refine⟨p::ps,by rw[toPys,h1,t1],by rw[QE,t2,QE],by rw[PyData.showableAll,h2,t3];rfl,?_,?_⟩
 .rw[UB];omega
 .rw[RY,Qf,QP];omega
def gX.all:∀{ds:ac},(∀d∈ds,Rp d a k)->gX ds (a*ds.length) k:=by
 intro ds
 induction ds with
 |nil=>intro _;exact gX.nil
 |cons d ds ih=>
  intro h;have:=gX.cons (h d (Qq ..)) (ih λx hx=>h x (Qi _ hx));rw[QE,Vy,Nat.mul_one,Nat.add_comm];exact this
def Rp.lst(h:gX ds n k):Rp (.lst ds) (n+2*ds.length+3) (k+1):=by
 obtain⟨ps,t1,t2,t3,t4,t5⟩:=h;refine⟨.list ps,by rw[fK,t1];rfl,by rw[Sd];exact t3,by rw[SQ];omega,?_⟩;rw[SO];have:=listText_len_le (RY ps);rw[i6]at this;omega
def Rp.tup(h:gX ds n k):Rp (.tup ds) (n+2*ds.length+3) (k+1):=by
 obtain⟨ps,t1,t2,t3,t4,t5⟩:=h;refine⟨.tuple ps,by rw[fK,t1];rfl,by rw[Sd];exact t3,by rw[SQ];omega,?_⟩;rw[SO];have:=tupleText_len_le (RY ps);rw[i6]at this;omega
def Rp.non:Rp .non 4 0:=⟨.none,by rw[fK],by rw[Sd],by rw[SQ];omega,by rw[SO,SX];decide⟩
def Rp.bl{b:Bool}:Rp (.bl b) 5 0:=⟨.bool b,by rw[fK],by rw[Sd],by rw[SQ]<;>simp,by rw[SO];cases b<;>simp[SX]<;>decide⟩
def Rp.int(h:i.natAbs<2 ^ 200):Rp (.int i) 201 0:=by
 refine⟨.int i,by rw[fK],?_,by rw[SQ]<;>simp,?_⟩
 .rw[Sd]
  refine decide_eq_true ?_
  by_cases h0:i.natAbs=0
  .rw[h0];decide
  .exact Uk ((Vz h0).mpr h) (by decide)
 .rw[SO,SX]
  cases i with
  |ofNat m=>
   have:=nat_repr_length_le (n:=m) (k:=200) (by decide) h;show(Vx m).length<=201;omega
  |negSucc m=>
   have:=nat_repr_length_le (n:=m+1) (k:=200) (by decide) h;show("-"++Vx (m+1)).length<=201;rw[Vt];have h1 : "-".length=1:=rfl;omega
def Rp.str(hl:z.length<=n)(h:∀c∈z.cps.toList,c<16 ^ 8):Rp (.str z) (10*n+2) 0:=by
 refine⟨.str z,by rw[fK],by rw[Sd],by rw[SQ]<;>simp,?_⟩;rw[SO];have:=StrLaws.reprText_len z h;omega
def Rp.repr(h:Rp (.lst ds) n k)(hn:n<=sizeLine)(hk:k<=100):∃z,sS (.lst ds)=.ok (.str z):=by
 obtain⟨p,h1,h2,h3,h4⟩:=h;refine⟨p.shown,?_⟩;unfold sS;rw[h1];show(if _ then _ else _)=_;have hs:oi p=true:=by
  unfold oi;rw[h2,decide_eq_true (QM h3 hk),decide_eq_true (QM h4 hn)];rfl
 rw[if_pos ⟨rfl,hs⟩]
end DL
namespace Bor
open PySem L2 DL Com
theorem uM{α β γ:Type}:∀(l:List α) (b:β×γ),List.foldl (λb _=>(b.1,b.2)) b l=b
 |[],_=>rfl
 |_::l,b=>uM l b
def wG:∀c∈Lh.cps.toList,c<16 ^ 8:=by decide +kernel
def Le(h:oK c=true):c<16 ^ 8:=by
 refine Nat.lt_of_not_le λhc=>?_;have hs:∀i,Builtin.Str.subAt Lh ⟨#[c]⟩ i=false:=by
  intro i;unfold Builtin.Str.subAt;rw[beq_eq_false_iff_ne];intro e;have:c∈(Lh.cps.extract i (i+(⟨#[c]⟩:Qu).length)):=by rw[e];simp
  have h2:c∈Lh.cps:=by
   obtain⟨j,hj,e⟩:=Array.mem_iff_getElem.mp this;rw[Array.getElem_extract]at e;rw[←e];exact Array.getElem_mem _
  have:=wG c (VC.mpr h2);omega
 have:R9 Lh ⟨#[c]⟩ 0 Lh.length 1=[]:=by
  unfold R9;simp[hs,uM]
 unfold oK My at h;rw[this]at h;cases h
def lA(h:nameB z=true):Rp (.str z) 82 0:=by
 unfold nameB at h;simp only[QK,decide_eq_true_eq,QF]at h;refine Rp.str (n:=8) h.2.1 λc hc=>?_;exact Le (h.2.2 c hc)
def Dz(h:yH x):Rp (fr x) 409 1:=by
 have hN:F3<=2 ^ 200:=by decide
 have h1:=h.pN;have h2:=h.qN;exact(Rp.tup (gX.cons (Rp.int (Qk h1 hN)) (gX.cons (Rp.int (Qk h2 hN)) gX.nil))).up (by simp) (Ql _)
def JM(h:oZ zs t)(hz:∀z∈zs,nameB z=true):Rp (bI t) 1100 2:=by
 have ha:=(lA (hz _ h.a)).up (k':=1) (Ql _) (by decide);have hb:=(lA (hz _ h.b)).up (k':=1) (Ql _) (by decide);have hw:Rp (.str t.w) 82 1:=by
  rcases h.w with e|e<;>rw[e]
  .exact(Rp.str (n:=8) (by decide) (by decide)).up (by decide) (by decide)
  .exact(Rp.str (n:=8) (by decide) (by decide)).up (by decide) (by decide)
 have hl:=Dz h.l;have ho:Rp (gz t.o) 409 1:=by
  cases e:t.o with|none=>exact Rp.non.up (by decide) (by decide)|some x=>exact Dz (h.o x e).1
 exact(Rp.tup (gX.cons ha (gX.cons hb (gX.cons hw (gX.cons hl (gX.cons ho gX.nil)))))).up (by simp) (Ql _)
def Dy{ds:al}(hl:ds.length<=n)(h:∀z∈ds,nameB z=true):Rp (.lst (ds.map D.str)) (84*n+3) 1:=by
 have:=Rp.lst (gX.all (a:=82) (k:=0) (ds:=ds.map D.str) λd hd=>by
  obtain⟨z,hz,rfl⟩:=QO.mp hd;exact lA (h z hz))
 rw[P7]at this;exact this.up (by omega) (Ql _)
def JK(W:cq w):Rp (aS w) 20000 4:=by
 have h1:=(Dy W.n7 W.nm.nm).up (k':=3) (Ql _) (by decide);have h2:Rp (.lst (w.ts.map bI)) 15700 3:=by
  have:=Rp.lst (gX.all (a:=1100) (k:=2) (ds:=w.ts.map bI) λd hd=>by
   obtain⟨t,ht,rfl⟩:=QO.mp hd;exact JM (W.ts t ht) W.nm.nm)
  rw[P7]at this;have t14:=W.t14;exact this.up (by omega) (Ql _)
 have h3:=(lA (W.nm.nm _ W.fi)).up (k':=3) (Ql _) (by decide);have h4:=(lA (W.nm.nm _ W.la)).up (k':=3) (Ql _) (by decide);exact(Rp.tup (gX.cons h1 (gX.cons h2 (gX.cons h3 (gX.cons h4 gX.nil))))).up (by simp) (Ql _)
def GL(hl:ks.length<=n)(h:∀k∈ks,k<2 ^ 200):Rp (eJ ks) (203*n+3) 1:=by
 have:=Rp.lst (gX.all (a:=201) (k:=0) (ds:=ks.map λ(k:Nat)=>D.int (k:Int)) λd hd=>by
  obtain⟨k,hk,rfl⟩:=QO.mp hd;exact Rp.int (by simpa using h k hk))
 rw[P7]at this;exact this.up (by omega) (Ql _)
end Bor
namespace K12
open PySem L2 DL Com Bor K11
section
variable {s t:Ev->ak Fl}{ρ:Ev}{ds:ac}{n i:Nat}{f:Ev->ak D}{fa:Ev->ak (ac)}{m:ac->ak D}{d:D}
def ef_seq:oj s t ρ=(s ρ).bind (Ds t):=aJ rfl
def ef_seq1:Ds t (.nx ρ)=t ρ:=aJ rfl
def ef_run:o9 n s ds=(s (ds.map Sl.sh++QG (n-ds.length) .no)).bind D6:=aJ rfl
noncomputable def Iy(d:D):ak Fl:=.ok (.rt d)
def ef_retE:qv f ρ=(f ρ).bind Iy:=aJ rfl
def ef_retE1:Iy d=.ok (.rt d):=aJ rfl
end
def tak0:BR w []:=⟨Uq,λk hk=>(nomatch hk)⟩
noncomputable def lenAt(w:j7) (k:Nat):e8:=((w.ts[k]?).map vk.l).getD (0,1)
def lenAt_of(h:w.ts[k]?=some t):lenAt w k=t.l:=by unfold lenAt;rw[h];rfl
def len_ix{k:Nat}(h:k<w.ts.length):aO (.lst (w.ts.map bI)) (.int (k:Int))=.ok (bI w.ts[k])/\aO (bI w.ts[k]) (.int 3)=.ok (fr (lenAt w k)):=by
 refine⟨nu (P5 h),?_⟩;rw[lenAt_of (P5 h)];rfl
end K12
namespace K51
open PySem L2 DL Com Bor
structure El (x:e8):Prop where
 lo:Low x
 p0:0<=x.1
 p1:x.1<1152921504606846976
 q1:x.2<1152921504606846976
def El.b(h:El x):x.1.natAbs<2 ^ 60/\x.2.natAbs<2 ^ 60:=by
 have:=h.p0;have:=h.p1;have:=h.q1;have:=h.lo.q1;rw[show(2:Nat) ^ 60=1152921504606846976 from by decide];omega
def j6(h:yN x):El x:=⟨h.lo,h.p0,by have:=h.p1;omega,by have:=h.q1;omega⟩
def D5{a:Int}(h:a.natAbs<2 ^ m)(hm:m<=n):a.natAbs<2 ^ n:=Qk h (R4 (by decide) hm)
def mul_p2{a b:Int}(h:a.natAbs<2 ^ m)(h':b.natAbs<2 ^ n):(a*b).natAbs<2 ^ (m+n):=by
 rw[Int.natAbs_mul,T1];exact Nat.mul_lt_mul'' h h'
def Lc{a b:Int}(h:a.natAbs<2 ^ m)(h':b.natAbs<2 ^ m):(a+b).natAbs<2 ^ (m+1):=by
 have:=Int.natAbs_add_le a b;rw[Vg];omega
noncomputable def mt(x y:e8):e8:=oA (x.1*y.1) (x.2*y.2)
noncomputable def pl(x y:e8):e8:=oA (un x y).1 (un x y).2
def i0(u:e8):aO (fr u) (.int 0)=.ok (.int u.1):=rfl
def i1(u:e8):aO (fr u) (.int 1)=.ok (.int u.2):=rfl
structure Bd (x:e8) (n:Nat):Prop where
 q0:0<x.2
 a:x.1.natAbs<2 ^ n
 b:x.2.natAbs<2 ^ n
def Bd.up(h:Bd x m)(hm:m<=n):Bd x n:=⟨h.q0,D5 h.a hm,D5 h.b hm⟩
def Bd.c13(h:Bd x n)(hn:n<=6000):x.1.natAbs<wI/\x.2.natAbs<wI:=by
 have:2 ^ n<=wI:=by rw[tY];exact R4 (by decide) (QM hn (by decide))
 exact⟨Qk h.a this,Qk h.b this⟩
def Bd.c60(h:Bd x n)(hn:n<=6000):x.1.natAbs<Af/\x.2.natAbs<Af:=⟨Qk (h.c13 hn).1 BS,Qk (h.c13 hn).2 BS⟩
def El.bd(h:El x):Bd x 60:=⟨by have:=h.lo.q1;omega,h.b.1,h.b.2⟩
def fz{a b:Int}(hb:0<b)(h1:a.natAbs<2 ^ n)(h2:b.natAbs<2 ^ n):Bd (oA a b) n:=⟨by have:=(ic (a:=a) hb).q1;omega,RW vT h1,RW vS h2⟩
def fb(hx:Bd x m)(hy:Bd y n):Bd (mt x y) (m+n):=fz (RL hx.q0 hy.q0) (mul_p2 hx.a hy.a) (mul_p2 hx.b hy.b)
def un_bd(hx:Bd x m)(hy:Bd y n):Bd (un x y) (m+n+1):=by
 refine⟨RL hx.q0 hy.q0,?_,D5 (mul_p2 hx.b hy.b) (by omega)⟩;have h1:=mul_p2 hx.a hy.b;have h2:=mul_p2 hy.a hx.b;rw[Nat.add_comm n m]at h2;exact Lc h1 h2
def iF(hx:Bd x m)(hy:Bd y n):Bd (pl x y) (m+n+1):=fz (un_bd hx hy).q0 (un_bd hx hy).a (un_bd hx hy).b
def cu(hx:Bd x m)(hy:Bd y n)(h:m+n<=6000):aX [fr x,fr y]=.ok (fr (mt x y)):=by
 have b1:=hx.c60 (by omega);have b2:=hy.c60 (by omega);have hp:Bd (x.1*y.1,x.2*y.2) (m+n):=⟨RL hx.q0 hy.q0,mul_p2 hx.a hy.a,mul_p2 hx.b hy.b⟩
 have hc:=hp.c13 h;have m1:=bZ (c6 b1.1 b2.1);have m2:=bZ (c6 b1.2 b2.2);have hlo:bx [.int (x.1*y.1),.int (x.2*y.2)]=.ok (fr (mt x y)):=Cod.low_ok hp.q0 hc.1 hc.2;open_line with[aX,m6,i0,i1,m1,m2,hlo]
def cY(hx:Bd x m)(hy:Bd y n)(h:m+n<=6000):m_times [fr x,fr y]=.ok (fr (mt x y)):=by
 have b1:=hx.c60 (by omega);have b2:=hy.c60 (by omega);have hp:Bd (x.1*y.1,x.2*y.2) (m+n):=⟨RL hx.q0 hy.q0,mul_p2 hx.a hy.a,mul_p2 hx.b hy.b⟩
 have hc:=hp.c13 h;have m1:=bZ (c6 b1.1 b2.1);have m2:=bZ (c6 b1.2 b2.2);have hlo:m_ratio [.int (x.1*y.1),.int (x.2*y.2)]=.ok (fr (mt x y)):=qB hp.q0 hc.1 hc.2;open_line with[m_times,BK,i0,i1,m1,m2,hlo]
def dk(hx:Bd x m)(hy:Bd y n)(h:m+n<=5900):bp [fr x,fr y]=.ok (fr (pl x y)):=by
 have b1:=hx.c60 (by omega);have b2:=hy.c60 (by omega);have hp:=un_bd hx hy;have hc:=hp.c13 (by omega);have m1:=bZ (c6 b1.1 b2.2);have m2:=bZ (c6 b2.1 b1.2);have m3:=bZ (c6 b1.2 b2.2);have hlo:bx [.int (x.1*y.2+y.1*x.2),.int (x.2*y.2)]=.ok (fr (pl x y)):=Cod.low_ok hp.q0 hc.1 hc.2;open_line with[K12.bp,K12.oW,i0,i1,m1,m2,m3,hlo]
def eI(hx:Bd x m)(hy:Bd y n)(h:m+n<=5900):m_plus [fr x,fr y]=.ok (fr (pl x y)):=by
 have b1:=hx.c60 (by omega);have b2:=hy.c60 (by omega);have hp:=un_bd hx hy;have hc:=hp.c13 (by omega);have m1:=bZ (c6 b1.1 b2.2);have m2:=bZ (c6 b2.1 b1.2);have m3:=bZ (c6 b1.2 b2.2);have hlo:m_ratio [.int (x.1*y.2+y.1*x.2),.int (x.2*y.2)]=.ok (fr (pl x y)):=qB hp.q0 hc.1 hc.2;open_line with[Com.m_plus,FJ,i0,i1,m1,m2,m3,hlo]
def eO(hx:Bd x m)(hy:Bd y n)(hm:m<=6000)(hn:n<=6000):df [fr x,fr y]=.ok (.bl (flt x y)):=by
 have b1:=hx.c60 hm;have b2:=hy.c60 hn;have m1:=bZ (c6 b1.1 b2.2);have m2:=bZ (c6 b2.1 b1.2);open_line with[df,oX,i0,i1,m1,m2]
 rfl
def gk(hx:Bd x m)(hy:Bd y n)(hm:m<=6000)(hn:n<=6000):m_is_less [fr x,fr y]=.ok (.bl (flt x y)) :=
 xQ (hx.c60 hm).1 (hx.c60 hm).2 (hy.c60 hn).1 (hy.c60 hn).2
noncomputable def Mw:ac:=[.non,.bl true,.int 0,.str "0",.tup [.int 0,.int 2],.tup [.int 2,.int 4],.tup [.int (-1),.int 2],.tup [.int 1,.int 0],.tup [.bl true,.int 1],.tup [.int 1,.bl true],.lst [.int 0,.int 1]]
def Kk(h:El x):m_is_length [fr x]=.ok (.bl true):=oG h.lo h.p0
def small13{a:Int}(h:a.natAbs<2 ^ 60):a.natAbs<wI:=Qk h (by rw[tY];exact R4 (by decide) (by decide))
noncomputable def Pk(e:D):Prop:=(∃x,e=fr x/\El x)∨e∈Mw
def w1:aO (aS w) (.int 1)=.ok (.lst (w.ts.map bI)):=rfl
def t4:aO (bI t) (.int 4)=.ok (gz t.o):=rfl
theorem uY{α:Type}(g:α->D)(pk:α->Option D):∀(L:List α),(∀a∈L,∃ρ1,tg B (g a)=.ok ρ1/\((pk a=none/\tt ρ1=.ok (.bl false))∨(∃d,pk a=some d/\tt ρ1=.ok (.bl true)/\fe ρ1=.ok d)))->cf B tg tt fe (L.map g)=.ok (L.filterMap pk)
 |[],_=>rfl
 |a::L,h=>by
  obtain⟨ρ1,h1,h2⟩:=h a Qq;have ih:=uY g pk L λd hd=>h d (Qi _ hd);rw[Qf];unfold cf;rw[h1,Ie];rcases h2 with⟨e,h2⟩|⟨d,e,h2,h3⟩
  .rw[h2,Ie]
   show cf B tg tt fe (L.map g)=_;rw[ih,U0 e]
  .rw[h2,Ie]
   show(fe ρ1).bind _=_;rw[h3,Ie,ih,Ie,UZ e]
def bP{α:Type}(g:α->D)(pk:α->Option D){L:List α}(hl:L.length<=1000000)(h:∀a∈L,∃ρ1,tg (cO n fr' ρ) (g a)=.ok ρ1/\((pk a=none/\tt ρ1=.ok (.bl false))∨(∃d,pk a=some d/\tt ρ1=.ok (.bl true)/\fe ρ1=.ok d))):eT n fr' tg tt fe ρ (L.map g)=.ok (.lst (L.filterMap pk)):=by
 unfold eT;rw[if_pos (show(L.map g).length<=line from by rw[P7];exact hl),uY g pk L h]
theorem BP{α:Type}{g:α->Bool}:∀{l:List α},eU (l.map λx=>D.bl (g x))=some (l.map g)
 |[]=>rfl
 |a::l=>by rw[Qf,eU,BP];rfl
def Lb{ds:ac}:zO (.lst (ds.map λd=>.bl (g d)))=.ok (.bl (ds.all g)):=by
 show(match eU (ds.map λd=>D.bl (g d)) with|some bs=>ak.ok (D.bl (bs.all id))|none=>.stuck)=_;rw[BP];simp only[Up];rfl
def adds_ok(W:cq w){as:List e8}(hal:as.length=w.ts.length)(ha:∀a∈as,El a):m_look_at_adds [aS w,.lst (as.map fr)]=.ok .non:=by
 have t14:=W.t14;have hw:m_look_at_web [aS w]=.ok .non:=yP W;have hb:((w.ts.length:Int)==(w.ts.length:Int))=true:=by simp
 have hc:∀A,eT 1 [] (b6 0) mYes (aq (af (ae 0) aC) m_is_length) A (as.map fr)=.ok (.lst ((as.map fr).map λ_=>.bl true)):=λA=>yz (by rw[P7];omega) λd hd=>by
  obtain⟨x,hx,rfl⟩:=QO.mp hd;refine⟨[.sh (fr x)],rfl,rfl,?_⟩;open_line with[Kk (ha x hx)]
 have hall:zO (.lst ((as.map fr).map λ_=>.bl true))=.ok (.bl true):=by
  have:=Lb (ds:=as.map fr) (g:=λ_=>true);rw[show((as.map fr).all λ_=>true)=true from QF.mpr λ_ _=>rfl]at this;exact this
 have hh:m_has_lengths [aS w,.lst (as.map fr)]=.ok (.bl true):=by
  open_line with[m_has_lengths,kL,w1,P7,hal,hb,hc,hall]
 open_line with[m_look_at_adds,jW,hw,hh]
end K51
namespace Pth
open PySem L2 DL Com Bor
open K11 (nums ways pr eq_str)
noncomputable def FR(w:j7) (ks:am) (n:Nat) (a b:Qu):Prop:=∃t,w.ts[n]?=some t/\n∉ks/\(a,b)∈ways t
inductive z9 (w:j7) (ks:am) (a:Qu):am->Qu->Prop where
 |nil:z9 w ks a [] a
 |snoc {p:am}{b c:Qu}{n:Nat}:z9 w ks a p b->FR w ks n b c->z9 w ks a (p++[n]) c
def Aj(T:oZ zs t){a b:Qu}(h:(a,b)∈ways t):a∈zs/\b∈zs/\(a=t.a∨a=t.b)/\(b=t.a∨b=t.b):=by
 have ta:=T.a;have tb:=T.b;unfold ways at h;split at h
 .have:(a,b)=(t.a,t.b):=by simpa using h
  cases this;exact⟨ta,tb,.inl rfl,.inr rfl⟩
 .rcases Qs.mp h with e|h
  .cases e;exact⟨ta,tb,.inl rfl,.inr rfl⟩
  .have:(a,b)=(t.b,t.a):=by simpa using h
   cases this;exact⟨tb,ta,.inr rfl,.inl rfl⟩
open K11 (nums ways pr eq_str)
open K51 (Bd pl)
noncomputable def val(x:e8):Rat:=(x.1:Rat) / (x.2:Rat)
def cZ{a:Int}(h:0<a):(0:Rat)<(a:Rat):=by
 have:=Vd.mpr h;simpa using this
def KQ{a b c d:Rat}(hb:0<b)(hd:0<d):a / b<c / d↔a*d<c*b:=by
 have h1:a / b<c / d↔(a / b)*(b*d)<(c / d)*(b*d):=(Rat.mul_lt_mul_right (Rat.mul_pos hb hd)).symm;rw[h1];have e1:a / b*(b*d)=a*d:=by grind
 have e2:c / d*(b*d)=c*b:=by grind
 rw[e1,e2]
def Bf(hx:0<x.2)(hy:0<y.2):flt x y=decide (val x<val y):=by
 unfold flt val
 congr 1
 rw[KQ (cZ hx) (cZ hy),←Rh,←Rh,Vd]
def pD{a b:Int}(hb:0<b):val (oA a b)=(a:Rat) / (b:Rat):=by
 have h:=Ho (a:=a) (b:=b);have hq:0<(oA a b).2:=by have:=(ic (a:=a) hb).q1;omega
 unfold val;have p1:=cZ hq;have p2:=cZ hb;have e:((oA a b).1:Rat)*(b:Rat)=(a:Rat)*((oA a b).2:Rat):=by rw[←Rh,←Rh,h]
 grind
def kO(hx:0<x.2)(hy:0<y.2):val (pl x y)=val x+val y:=by
 have:pl x y=oA (x.1*y.2+y.1*x.2) (x.2*y.2):=rfl;rw[this,pD (RL hx hy)];unfold val;have p1:=cZ hx;have p2:=cZ hy;rw[Rat.intCast_add,Rh,Rh,Rh]
 grind
open K11 (nums ways pr eq_str)
open K51 (Bd pl)
noncomputable def Ey(w:j7) (p:am):Rat:=(p.map λn=>val (K12.lenAt w n)).sum
end Pth
namespace Vlu
open PySem L2 DL Com Bor Pth
open K11 (nums ways pr eq_str)
open K51 (Bd pl)
noncomputable abbrev m_ratio:ac->ak D:=Com.m_ratio
noncomputable def BL:Ev->ak Fl :=
 (aA (b5 (aq (af (ag (ag (ag (ae 0) (dC (.int 0)) aO) (ag (ae 1) (dC (.int 1)) aO) b3) (ag (ag (ae 1) (dC (.int 0)) aO) (ag (ae 0) (dC (.int 1)) aO) b3) ku) (af (ag (ag (ae 0) (dC (.int 1)) aO) (ag (ae 1) (dC (.int 1)) aO) b3) aC)) m_ratio))
 aw)
noncomputable def m_minus:ac->ak D:=b7 2 BL
noncomputable def mi(x y:e8):e8:=oA (x.1*y.2-y.1*x.2) (x.2*y.2)
def gN(hx:Bd x m)(hy:Bd y n)(h:m+n<=5900):m_minus [fr x,fr y]=.ok (fr (mi x y)):=by
 have b1:=hx.c60 (by omega);have b2:=hy.c60 (by omega);have hy':Bd (-y.1,y.2) n:=⟨hy.q0,by show(-y.1).natAbs<_;rw[UN];exact hy.a,hy.b⟩
 have hp:=K51.un_bd hx hy';have hc:=hp.c13 (by omega);have m1:=bZ (c6 b1.1 b2.2);have m2:=bZ (c6 b2.1 b1.2);have m3:=bZ (c6 b1.2 b2.2);have e:x.1*y.2 + -y.1*x.2=x.1*y.2-y.1*x.2:=by rw[Int.neg_mul];omega
 have hlo:m_ratio [.int (x.1*y.2-y.1*x.2),.int (x.2*y.2)]=.ok (fr (mi x y)):=by
  have h1:=hc.1;have h2:=hc.2;unfold un at h1 h2;simp only[e]at h1;exact qB hp.q0 h1 h2
 have i0:∀z:e8,aO (fr z) (.int 0)=.ok (.int z.1):=λ_=>rfl;have i1:∀z:e8,aO (fr z) (.int 1)=.ok (.int z.2):=λ_=>rfl;open_line with[m_minus,BL,i0,i1,m1,m2,m3,ku,hlo]
end Vlu
namespace K15
open PySem L2 DL
noncomputable abbrev bW:ac->ak D:=K11.bW
end K15
namespace K54
open PySem L2 DL
noncomputable def vU:List (Qu×Bool):=[("NoWay",true)]
noncomputable abbrev ck:ac->ak D:=Bor.ck
noncomputable abbrev aH:P9->ac->ac->ak (D×ac):=Bor.aH
noncomputable abbrev dS:P9->ac->ac->ak (D×ac):=Bor.dS
noncomputable abbrev bx:ac->ak D:=Cod.bx
noncomputable abbrev bC:P9->ac->ac->ak (D×ac):=Bor.bC
noncomputable abbrev cQ:P9->ac->ac->ak (D×ac):=Bor.cQ
noncomputable abbrev dF:P9->ac->ac->ak (D×ac):=Bor.dF
noncomputable abbrev bW:ac->ak D:=K11.bW
noncomputable def jx:Ev->ak Fl :=
 (aA (gE 2 (aq (af (aq (af (aq aC b9) (af (aq (af (ag (ae 0) (dC (.int 2)) aO) aC) b9) aC)) gj) aC) b9))
 (aA (gE 3 (aq aC b9))
 (aA (i8 (λ_=>200000) (ag (ae 2) (aq aC b9) gS)
 (aA (i9 [4,5] 2)
 (aA (er (ag (ag (ae 5) (bV (dC (.int 1)) pA) aO) (ag (ae 0) (dC (.int 3)) aO) kH)
 (aA (cU 3 (ae 4))
 aw)
 (aA (qw (aq (af (ag (ae 0) (dC (.int 1)) aO) aC) (m1 cT)) (b6 6)
 (aA (bJ 7 (aq (af (ag (ag (ae 0) (dC (.int 1)) aO) (ae 6) aO) (af (ag (ae 5) (bV (dC (.int 1)) pA) aO) aC)) bW))
 (aA (er (gZ (ag (ae 7) (dC (.non)) ij) (gZ (ag (ae 7) (ae 5) dy) (ag (ae 6) (ae 1) dy)))
 (aA (cU 2 (aq (af (ag (ae 4) (aq (af (ae 6) aC) b9) cB) (af (ag (ae 5) (aq (af (ae 7) aC) b9) cB) aC)) gj))
 aw)
 aw)
 aw)))
 aw))
 aw)))
 (aA (b5 (ae 3))
 aw))))
noncomputable def cM:ac->ak D:=b7 8 jx
noncomputable abbrev eF:P9->ac->ac->ak (D×ac):=K51.eF
noncomputable abbrev bp:ac->ak D:=K12.bp
noncomputable def m9:Ev->ak Fl :=
 (aA (gE 2 (di 1 [] (kq (ag (ae 0) (dC (.int 1)) aO)) (b6 0) mYes (aq (af (dC (.int 0)) (af (dC (.int 1)) aC)) gj)))
 (aA (o8 (ae 1) (dw [3,4])
 (aA (o8 (ae 3) (b6 5)
 (aA (xh 2 (aq (af (ag (ae 2) (ae 5) aO) (af (ae 4) aC)) bp) (ae 5))
 aw))
 aw))
 (aA (b5 (ae 2))
 aw)))
noncomputable def dU:ac->ak D:=b7 6 m9
noncomputable abbrev m_is_whole:ac->ak D:=Com.m_is_whole
noncomputable abbrev m_common_divisor:ac->ak D:=Com.m_common_divisor
noncomputable abbrev m_ratio:ac->ak D:=Com.m_ratio
noncomputable abbrev m_plus:ac->ak D:=Com.m_plus
noncomputable abbrev m_sum_of:ac->ak D:=Com.m_sum_of
noncomputable def vd:Ev->ak Fl :=
 (aA (b5 (aq (af (di 2 [1] (kq (ae 0)) (dw [0,1]) (ag (ae 2) (ae 0) sT) (ae 1)) aC) m_sum_of))
 aw)
noncomputable def fv:ac->ak D:=b7 2 vd
noncomputable abbrev m_is_name:ac->ak D:=Com.m_is_name
noncomputable abbrev m_look_at_places:ac->ak D:=Com.m_look_at_places
noncomputable abbrev m_is_ratio:ac->ak D:=Com.m_is_ratio
noncomputable abbrev m_is_length:ac->ak D:=Com.m_is_length
noncomputable abbrev m_is_worth:ac->ak D:=Com.m_is_worth
noncomputable abbrev m_is_tie:ac->ak D:=Com.m_is_tie
noncomputable abbrev m_look_at_ties:ac->ak D:=Com.m_look_at_ties
noncomputable abbrev m_is_place:ac->ak D:=Com.m_is_place
noncomputable abbrev m_look_at_web:ac->ak D:=Com.m_look_at_web
noncomputable abbrev m_is_tie_number:ac->ak D:=Com.m_is_tie_number
noncomputable abbrev m_steps_along:ac->ak D:=K11.m_steps_along
noncomputable abbrev m_place_behind:ac->ak D:=K11.m_place_behind
noncomputable abbrev m_walk_way:ac->ak D:=K11.m_walk_way
noncomputable def b_is_way:Ev->ak Fl :=
 (aA (qu (kS (af (ae 0) (af (ae 1) (af (ae 2) aC))) m_walk_way) (A9 vU)
 (aA (b5 (dC (.bl false)))
 aw))
 (aA (b5 (dC (.bl true)))
 aw))
noncomputable def m_is_way:ac->ak D:=b7 3 b_is_way
noncomputable def b_is_way_with_share:Ev->ak Fl :=
 (aA (er (iQ (cA (bV (ae 1) (eC "tuple"))) (ag (aq (af (ae 1) aC) (m1 cT)) (dC (.int 2)) gS))
 (aA (b5 (dC (.bl false)))
 aw)
 aw)
 (aA (b5 (gZ (aq (af (ae 0) (af (aq aC b9) (af (ag (ae 1) (dC (.int 0)) aO) aC))) m_is_way) (gZ (aq (af (ag (ae 1) (dC (.int 1)) aO) aC) m_is_ratio) (ag (ag (ag (ae 1) (dC (.int 1)) aO) (dC (.int 0)) aO) (dC (.int 0)) F1))))
 aw))
noncomputable def m_is_way_with_share:ac->ak D:=b7 2 b_is_way_with_share
noncomputable def kK:Ev->ak Fl :=
 (aA (fL (aq (af (ae 0) aC) m_look_at_web))
 (aA (er (cA (bV (ae 1) (eC "list")))
 (aA cx
 aw)
 aw)
 (aA (gE 2 (aq aC b9))
 (aA (kE (w6 (ae 1)) (dw [3,4])
 (aA (er (iQ (cA (aq (af (ae 0) (af (ae 4) aC)) m_is_way_with_share)) (ag (ag (ae 4) (dC (.int 0)) aO) (ae 2) sT))
 (aA cx
 aw)
 aw)
 (aA (cU 2 (ag (ae 4) (dC (.int 0)) aO))
 aw)))
 (aA (er (ag (aq (af (di 2 [] (kq (ae 1)) (dw [0,1]) mYes (ae 1)) aC) m_sum_of) (dC (.tup [(.int 1),(.int 1)])) gS)
 (aA cx
 aw)
 aw)
 aw)))))
noncomputable def ef:ac->ak D:=b7 5 kK
noncomputable def vf:Ev->ak Fl :=
 (oj (fL (aq (af (ae 0) (af (ae 1) aC)) ef))
 (qv (di 1 [1] (kD (aq (af (ag (ae 0) (dC (.int 1)) aO) aC) (m1 cT))) (b6 0) mYes (aq (af (ae 1) (af (ae 0) aC)) fv))))
noncomputable def gw:ac->ak D:=o9 2 vf
noncomputable def jv:Ev->ak Fl :=
 (aA (er (iQ (cA (bV (ae 0) (eC "tuple"))) (ag (aq (af (ae 0) aC) (m1 cT)) (dC (.int 2)) gS))
 (aA (b5 (dC (.bl false)))
 aw)
 aw)
 (aA (b5 (ag (di 1 [] (Dq (ae 0)) (b6 0) (iQ (bV (ae 0) (eC "bool")) (cA (bV (ae 0) (eC "int")))) (ae 0)) (aq aC b9) kH))
 aw))
noncomputable def cy:ac->ak D:=b7 1 jv
noncomputable abbrev m_has_lengths:ac->ak D:=K51.m_has_lengths
noncomputable abbrev m_look_at_adds:ac->ak D:=K51.m_look_at_adds
noncomputable abbrev m_look_at_purse:ac->ak D:=Com.m_look_at_purse
noncomputable def iW:Ev->ak Fl :=
 (aA (er (iQ (cA (aq (af (ae 0) aC) m_is_ratio)) (ag (ag (ae 0) (dC (.int 0)) aO) (dC (.int 0)) KZ))
 (aA cx
 aw)
 aw)
 aw)
noncomputable def dR:ac->ak D:=b7 1 iW
noncomputable abbrev m_times:ac->ak D:=K51.m_times
noncomputable abbrev m_look_at_taking:ac->ak D:=Com.m_look_at_taking
noncomputable abbrev m_look_at_way:ac->ak D:=K11.m_look_at_way
noncomputable def oU:Ev->ak Fl :=
 (aA (fL (aq (af (ae 0) (af (aq aC b9) (af (ae 1) aC))) (noX m_look_at_way)))
 (aA (b5 (aq (af (di 1 [0] (kq (ae 1)) (b6 0) mYes (ag (ag (ag (ae 1) (dC (.int 1)) aO) (ae 0) aO) (dC (.int 3)) aO)) aC) m_sum_of))
 aw))
noncomputable def cN:ac->ak D:=b7 2 oU
noncomputable abbrev m_minus:ac->ak D:=Vlu.m_minus
noncomputable abbrev m_is_less:ac->ak D:=Com.m_is_less
noncomputable def ju:Ev->ak Fl :=
 (aA (gE 4 (aq aC b9))
 (aA (kE (w6 (ag (ae 0) (dC (.int 1)) aO)) (dw [5,6])
 (aA (er (ag (ag (ae 6) (dC (.int 4)) aO) (dC (.non)) ij)
 (aA (bJ 7 (aq (af (aq (af (ae 2) (af (ae 5) aC)) fv) (af (aq (af (ae 3) (af (ag (ae 6) (dC (.int 4)) aO) aC)) m_times) aC)) m_minus))
 (aA (cU 4 (aq (af (ag (ae 1) (ae 5) aO) (af (Nk (aq (af (dC (.tup [(.int 0),(.int 1)])) (af (ae 7) aC)) m_is_less) (ae 7) (dC (.tup [(.int 0),(.int 1)]))) aC)) m_times))
 aw))
 aw)
 aw))
 (aA (b5 (aq (af (ae 4) aC) m_sum_of))
 aw)))
noncomputable def et:ac->ak D:=b7 8 ju
noncomputable def jX:Ev->ak Fl :=
 (aA (fL (aq (af (ae 0) (af (ae 1) aC)) m_look_at_adds))
 (aA (fL (aq (af (ae 2) aC) m_look_at_purse))
 (aA (fL (aq (af (ae 0) (af (ae 3) aC)) ef))
 (aA (fL (aq (af (ae 4) aC) dR))
 (aA (bJ 5 (aq (af (di 2 [0] (kq (ae 3)) (dw [0,1]) mYes (aq (af (ae 1) (af (aq (af (ae 2) (af (ae 0) aC)) cN) aC)) m_times)) aC) m_sum_of))
 (aA (b5 (aq (af (aq (af (ae 5) (af (aq (af (ae 4) (af (ae 2) aC)) m_times) aC)) m_plus) (af (aq (af (ae 0) (af (ae 1) (af (ae 3) (af (ae 4) aC)))) et) aC)) m_plus))
 aw))))))
noncomputable def c7:ac->ak D:=b7 6 jX
noncomputable abbrev aX:ac->ak D:=K51.aX
noncomputable abbrev df:ac->ak D:=K51.df
noncomputable def nc:Ev->ak Fl :=
 (aA (bJ 5 (aq (af (ae 4) (af (ae 2) aC)) aX))
 (aA (bJ 6 (aq (af (ae 0) (af (ae 3) aC)) dU))
 (aA (qw (aq (af (ag (ae 0) (dC (.int 1)) aO) aC) (m1 cT)) (b6 7)
 (aA (bJ 8 (ag (ag (ae 0) (dC (.int 1)) aO) (ae 7) aO))
 (aA (bJ 5 (aq (af (ae 5) (af (aq (af (ag (ae 6) (ae 7) aO) (af (ag (ae 8) (dC (.int 3)) aO) aC)) aX) aC)) bp))
 (aA (er (ag (ag (ae 8) (dC (.int 4)) aO) (dC (.non)) ij)
 (aA (bJ 9 (aq (af (ae 4) (af (ag (ae 8) (dC (.int 4)) aO) aC)) aX))
 (aA (er (aq (af (ae 9) (af (ag (ae 6) (ae 7) aO) aC)) df)
 (aA (bJ 10 (aq (af (ag (ae 6) (ae 7) aO) (af (aq (af (ag (dC (.int 0)) (ag (ae 9) (dC (.int 0)) aO) ku) (af (ag (ae 9) (dC (.int 1)) aO) aC)) gj) aC)) bp))
 (aA (bJ 5 (aq (af (ae 5) (af (aq (af (ag (ae 1) (ae 7) aO) (af (ae 10) aC)) aX) aC)) bp))
 aw))
 aw)
 aw))
 aw)
 aw))))
 (aA (b5 (ae 5))
 aw))))
noncomputable def dW:ac->ak D:=b7 11 nc
noncomputable def jn:P9->Ev->ac->ak eD:=λa=>
 (aV (cG (bJ 3 (aq (af (ae 1) (af (ae 2) aC)) dU)))
 (aV (dD 4 (mB (mB (mP (ae 2)) (bD 0 a (aT (mP (aq (af (ae 2) aC) (m1 cT))) b4) aH) aO) (mP (dC (.int 0))) aO))
 (aV (dD 5 (mB (mP (ae 4)) (bD 0 a (aT (mP (aq (af (ae 4) aC) (m1 cT))) b4) aH) aO))
 (aV (dD 6 (mA (aT (mP (aq (af (dC (.int 0)) (af (dC (.int 1)) aC)) gj)) (aT (bD 0 a (aT (mP (dC (.int 1))) b4) bC) (aT (bD 0 a (aT (mP (dC (.int 0))) b4) bC) b4))) b9))
 (aV (cG (bJ 7 (ag (ag (ag (ae 1) (dC (.int 1)) aO) (ae 5) aO) (dC (.int 4)) aO)))
 (aV (cG (er (ag (ae 7) (dC (.non)) ij)
 (aA (bJ 8 (aq (af (ag (ag (ag (ae 3) (ae 5) aO) (dC (.int 0)) aO) (ag (ae 7) (dC (.int 1)) aO) b3) (af (ag (ag (ag (ae 3) (ae 5) aO) (dC (.int 1)) aO) (ag (ae 7) (dC (.int 0)) aO) b3) aC)) bx))
 (aA (bJ 6 (ag (ae 6) (aq (af (ae 8) (af (aq (af (ae 8) (af (aq (af (dC (.int 59)) (af (dC (.int 60)) aC)) gj) aC)) aX) (af (aq (af (ae 8) (af (aq (af (dC (.int 60)) (af (dC (.int 59)) aC)) gj) aC)) aX) aC))) b9) cB))
 aw))
 aw))
 (aV (ff (ae 6))
 bS)))))))
noncomputable def eN:P9->ac->ac->ak (D×ac):=nE 9 jn
noncomputable def m7:P9->Ev->ac->ak eD:=λa=>
 (aV (dD 3 (bD 0 a (aT (mP (ae 1)) b4) eF))
 (aV (dD 4 (bD 0 a (aT (mP (dC (.int 0))) b4) bC))
 (aV (cG (bJ 5 (aq (af (aq (af (ae 1) (af (ae 3) (af (ae 4) (af (ae 2) aC)))) b9) aC) (m1 sS))))
 (aV (cG (bJ 6 (aq (af (ae 1) (af (ae 2) aC)) dU)))
 (aV (cG (gE 7 (aq (af (ae 1) (af (ae 2) aC)) gw)))
 (aV (Cm (mT (iQ (cA (bV (ae 7) (eC "list"))) (ag (ae 7) (ae 6) gS)))
 (aV (ff (dC (.bl false)))
 bS)
 bS)
 (aV (Cm (mT (ag (di 1 [] (kq (ae 7)) (b6 0) (cA (aq (af (ae 0) aC) cy)) (ae 0)) (aq aC b9) gS))
 (aV (ff (dC (.bl false)))
 bS)
 bS)
 (aV (cG (cU 7 (dC (.non))))
 (aV (oz (AU (bD 0 a (aT (mP (ae 1)) (aT (mP (ae 2)) b4)) eN)) (b6 8)
 (aV (cG (bJ 9 (aq (af (ae 1) (af (ae 3) (af (ae 4) (af (ae 2) (af (ae 8) aC))))) c7)))
 (aV (Cm (mT (iQ (cA (aq (af (ae 9) aC) cy)) (ag (ae 9) (aq (af (ae 1) (af (ae 3) (af (ae 4) (af (ae 2) (af (ae 8) aC))))) dW) gS)))
 (aV (ff (dC (.bl false)))
 bS)
 bS)
 bS)))
 (aV (ff (gZ (ag (aq (af (ae 1) (af (ae 2) aC)) gw) (ae 6) kH) (ag (aq (af (aq (af (ae 1) (af (ae 3) (af (ae 4) (af (ae 2) aC)))) b9) aC) (m1 sS)) (ae 5) kH)))
 bS))))))))))
noncomputable def eM:P9->ac->ac->ak (D×ac):=nE 10 m7
noncomputable def kM:P9->Ev->ac->ak eD:=λa=>
 (aV (cG (gE 2 (aq (af (ae 1) aC) (m1 uV))))
 (aV (cG (gE 3 (aq aC b9)))
 (aV (oz (xI (mA (aT (mP (aq (af (ae 1) aC) (m1 cT))) (aT (mB (mP (dC (.int 1))) (bD 0 a (aT (mP (dC (.int 9))) b4) aH) cB) b4)) (m2 CG))) (b6 4)
 (aV (lJ 5 2 (bD 0 a (aT (mL (aq (af (ae 2) aC) (m1 cT))) b4) aH))
 (aV (dD 6 (mB (mP (aq (af (dC (.int 3)) (af (dC (.int 60)) (af (ag (dC (.int 10)) (dC (.int 6)) nW) aC))) b9)) (bD 0 a (aT (mP (dC (.int 3))) b4) aH) aO))
 (aV (vR 3 (mA (aT (mP (ae 5)) (aT (mB (mP (dC (.int 1))) (bD 0 a (aT (mP (ae 6)) b4) aH) cB) b4)) b9))
 bS))))
 (aV (cG (yY 3 (bJ 7 (aq (af (di 2 [] (kq (ae 3)) (dw [0,1]) mYes (ae 1)) aC) (m1 HW)))))
 (aV (ff (di 2 [7] (kq (ae 3)) (dw [0,1]) mYes (aq (af (ae 0) (af (aq (af (ae 1) (af (ae 2) aC)) bx) aC)) gj)))
 bS)))))
noncomputable def eg:P9->ac->ac->ak (D×ac):=nE 8 kM
noncomputable def Jh:Ev->ak Fl :=
 (aA (qw (aq (af (dC (.int 1)) (af (aq (af (aq (af (ae 0) aC) (m1 cT)) (af (dC (.int 3)) aC)) (m2 CG)) aC)) (m2 KY)) (b6 1)
 (kR 2 (aq (af (ae 0) (af (ae 1) aC)) ck) λa=>(aV (dD 3 (bD 2 a (aT (mP (ag (aq (af (dC (.int 7)) (af (dC (.int 6)) (af (dC (.int 6)) aC))) b9) (ae 1) aO)) (aT (mP (ag (aq (af (dC (.int 14)) (af (dC (.int 10)) (af (dC (.int 10)) aC))) b9) (ae 1) aO)) b4)) dF))
 (aV (cG (bJ 4 (aq (af (ae 3) (af (aq aC b9) aC)) cM)))
 (aV (Cm (Et (mT (ag (ae 4) (aq aC b9) gS)) (Es (bD 2 a (aT (mP (ae 3)) (aT (bD 2 a (aT (mP (ae 4)) b4) eg) b4)) eM)))
 (aV (ff (dC (.bl false)))
 bS)
 bS)
 bS)))))
 (aA (b5 (dC (.bl true)))
 aw))
noncomputable def m_law:ac->ak D:=b7 5 Jh
noncomputable def top(i:Nat):RH:=PySem.Challenge.pw_farthestcut_k54_loads_and_claims.main.body.getD i (.Pass ⟨0,0,0,0⟩)
noncomputable def rows:List Rw:=[
 ⟨"_law_begun",top 71,["_law_script","_law_k","_law_cell"],2⟩,
 ⟨"_law_take",top 72,["_law_state","_law_many","_law_digit","_law_made","_law_turn"],2⟩,
 ⟨"_law_names",top 75,["_law_state","_law_many","_law_letters","_law_long","_law_at","_law_turn","_law_step","_law_nested","_law_found","_law_k","_law_one"],2⟩,
 ⟨"_law_low",top 73,["_law_top","_law_bottom","_law_one","_law_other"],2⟩,
 ⟨"_law_amount",top 74,["_law_state","_law_least","_law_way","_law_top","_law_many","_law_bottoms"],2⟩,
 ⟨"_law_tie",top 76,["_law_state","_law_names_here","_law_k","_law_many","_law_one","_law_other","_law_word","_law_length","_law_worth"],3⟩,
 ⟨"_law_web",top 77,["_law_state","_law_most","_law_more","_law_names_here","_law_many","_law_ties","_law_k","_law_first","_law_last"],3⟩,
 ⟨"_law_there",top 81,["_law_tie_here","_law_here"],2⟩,
 ⟨"_law_all_ways",top 83,["_law_web_here","_law_gone","_law_begun_here","_law_found","_law_way","_law_seen","_law_k","_law_there_here"],2⟩,
 ⟨"_law_adds",top 82,["_law_state","_law_web_here","_law_found","_law_tie_here","_law_one"],2⟩,
 ⟨"_law_plus",top 78,["_law_one","_law_other"],2⟩,
 ⟨"_law_loads",top 85,["_law_web_here","_law_mix","_law_found","_law_way","_law_share","_law_k"],2⟩,
 ⟨"is_whole",top 14,["thing"],1⟩,
 ⟨"common_divisor",top 10,["one","other","larger","smaller","rest"],2⟩,
 ⟨"ratio",top 19,["top","bottom","divisor"],2⟩,
 ⟨"plus",top 20,["one","other"],2⟩,
 ⟨"sum_of",top 24,["some","total","one"],1⟩,
 ⟨"load_on",top 67,["mix","number"],2⟩,
 ⟨"is_name",top 16,["thing"],1⟩,
 ⟨"look_at_places",top 46,["places","number","place"],1⟩,
 ⟨"is_ratio",top 15,["thing"],1⟩,
 ⟨"is_length",top 41,["thing"],1⟩,
 ⟨"is_worth",top 42,["thing"],1⟩,
 ⟨"is_tie",top 40,["thing"],1⟩,
 ⟨"look_at_ties",top 47,["ties","places","number","tie"],2⟩,
 ⟨"is_place",top 48,["thing","places"],2⟩,
 ⟨"look_at_web",top 45,["thing"],1⟩,
 ⟨"is_tie_number",top 43,["web","thing"],2⟩,
 ⟨"steps_along",top 50,["tie","there"],1⟩,
 ⟨"place_behind",top 53,["web","taken","places","number","here","there"],4⟩,
 ⟨"walk_way",top 51,["web","taken","thing","places","at","number","there"],3⟩,
 ⟨"is_way",top 52,["web","taken","thing"],3⟩,
 ⟨"is_way_with_share",top 65,["web","thing"],2⟩,
 ⟨"look_at_mix",top 64,["web","thing","ahead","number","one"],2⟩,
 ⟨"load_of",top 66,["web","mix"],2⟩,
 ⟨"_law_is_ratio",top 88,["_law_thing"],1⟩,
 ⟨"has_lengths",top 44,["web","thing"],2⟩,
 ⟨"look_at_adds",top 61,["web","thing"],2⟩,
 ⟨"look_at_purse",top 55,["thing"],1⟩,
 ⟨"look_at_length",top 25,["thing"],1⟩,
 ⟨"times",top 22,["one","other"],2⟩,
 ⟨"look_at_taking",top 56,["web","thing","ahead","number"],2⟩,
 ⟨"look_at_way",top 58,["web","taking","thing"],3⟩,
 ⟨"length_of",top 59,["web","way"],2⟩,
 ⟨"minus",top 21,["one","other"],2⟩,
 ⟨"is_less",top 23,["one","other"],2⟩,
 ⟨"claim_of_adds",top 69,["web","adds","mix","rate","claims","number","tie","above"],4⟩,
 ⟨"claim_of_mix",top 68,["web","adds","purse","mix","rate","lengths"],5⟩,
 ⟨"_law_times",top 80,["_law_one","_law_other"],2⟩,
 ⟨"_law_less",top 79,["_law_one","_law_other"],2⟩,
 ⟨"_law_claim",top 86,["_law_web_here","_law_adds_here","_law_purse","_law_mix","_law_rate","_law_total","_law_loads_here","_law_k","_law_tie_here","_law_due","_law_more"],5⟩,
 ⟨"_law_rates",top 87,["_law_state","_law_web_here","_law_mix","_law_loads_here","_law_way","_law_k","_law_found","_law_worth","_law_just"],3⟩,
 ⟨"_law_right",top 89,["_law_state","_law_web_here","_law_mix","_law_adds_here","_law_purse","_law_kept","_law_due","_law_told","_law_rate","_law_claim_here"],3⟩,
 ⟨"_law_shares",top 84,["_law_state","_law_some","_law_ways","_law_found","_law_turn","_law_way","_law_most","_law_total"],2⟩,
 ⟨"law",top 90,["_law_script","_law_k","_law_state","_law_web_here","_law_some"],1⟩]
def sc:OH rows:=by decide +kernel
theorem nd(i:Nat)(h:rows[i]?=some r:=by rfl):r.N.Nodup:=(sc r (Qh h)).nd
def bn:∀r∈rows,Ll r:=by
 unfold rows
 repeat refine List.forall_mem_cons.mpr ⟨by first|exact PY|exact PX|exact PU|exact PR|exact PQ,?_⟩
 exact λ_ h=>nomatch h
noncomputable abbrev iE:RH:=Hy (top 7) 0
def B8:eY ["self","at"] ["self","at"] (defScope iE):=⟨rfl,rfl,rfl,by decide +kernel,rfl,by decide +kernel,by decide +kernel⟩
noncomputable def LG(K:P4) (r:P9):List (P9×Bool)->Prop
 |[]=>True
 |x::l=>Ta K (.ref r) (.ref x.1)=some x.2/\LG K r l
def sbc{b:Bool}(h:Ta K (.ref r) (.ref c)=some b)(h':LG K r l):LG K r ((c,b)::l):=⟨h,h'⟩
theorem O0{K:P4}{r c:P9}{b:Bool}:∀{l:List (P9×Bool)},LG K r l->∀n:Nat,l[n]?=some (c,b)->Ta K (.ref r) (.ref c)=some b
 |_::_,h,0,e=>by cases e;exact h.1
 |_::_,h,n+1,e=>O0 h.2 n e
set_option genInjectivity false in
set_option genSizeOfSpec false in
structure Adr where
 eR:P9
 rh:Rx
 cR:P9
 cJ:P9
 A:Nat->P9
 Q:Nat->Rx
set_option genInjectivity false in
set_option genSizeOfSpec false in
structure Txt (K:P4) (mg:Qu->Option P2) (t:Adr):Prop where
 g:TG rows K mg t.A t.Q
 n_abs:mg "abs"=none
 n_all:mg "all"=none
 n_bool:mg "bool"=none
 n_enumerate:mg "enumerate"=none
 n_int:mg "int"=none
 n_isinstance:mg "isinstance"=none
 n_len:mg "len"=none
 n_list:mg "list"=none
 n_max:mg "max"=none
 n_min:mg "min"=none
 n_range:mg "range"=none
 n_repr:mg "repr"=none
 n_str:mg "str"=none
 n_sum:mg "sum"=none
 n_tuple:mg "tuple"=none
 zF:mg "CutError"=some (.ref t.cR)
 Ky:ur K "CutError" t.cR
 pP:mg "NoWay"=some (.ref t.cJ)
 Hz:ur K "NoWay" t.cJ
 pC:BQ K "NoWay" t.cJ
 FU:CZ K "__init__" "NoWay.__init__" iE t.eR t.rh
 jU:il K t.rh ["self","at"] []
 qf:Ji K t.cJ t.eR
 qe:Ij K t.cJ ["at"]
 qg:W.isFn K (.ref t.eR)=true
 wQ:FL K t.cR
 vH:LG K t.cJ [(t.cJ,true)]
 fW:uo K mg "FEWEST_PLACES" (.int 2)
 m5:uo K mg "FIRST" (.int 2)
 n6:uo K mg "LAST" (.int 3)
 mZ:uo K mg "LENGTH" (.int 3)
 nZ:uo K mg "LETTERS" (.str "abcdefghijklmnopqrstuvwxyz")
 gU:uo K mg "LONGEST_NAME" (.int 8)
 iC:uo K mg "MOST_PLACES" (.int 7)
 jT:uo K mg "MOST_TIES" (.int 14)
 jS:uo K mg "NOUGHT" (.tup [(.int 0),(.int 1)])
 tw:uo K mg "ONE" (.int 0)
 jj:uo K mg "OTHER" (.int 1)
 iT:uo K mg "PLACES" (.int 0)
 iB:uo K mg "TIES" (.int 1)
 wC:uo K mg "WHOLE" (.tup [(.int 1),(.int 1)])
 tq:uo K mg "WORD" (.int 2)
 wA:uo K mg "WORDS" (.tup [(.str "one"),(.str "both")])
 kn:uo K mg "WORTH" (.int 4)
section
variable {P:Ra}{w:Rr}{K:P4}{mg:Qu->Option P2}{base:Qr}{t:Adr}
def vZ(T:Txt K mg t):∀x C,A9 vU x=true->XC K x C->W.exmOne K (.ref C) (.ref t.cJ)=some true :=
 EO λq hq=>by
  unfold vU at hq;simp only[Qs,R5,or_false]at hq;rcases hq with rfl
  .exact⟨t.cJ,T.pC.xc,T.Hz.exm (O0 T.vH 0 rfl)⟩
def kU(T:Txt K mg t):FnOk P w K mg base CX0 1 t.eR t.rh ["self","at"] (GG K ["at"]) :=
 M1 T.FU B8 rfl (by decide) λcdv A outer s0 H E=>(LM (i:=1) T.wQ rfl T.zF (AD (i:=1) rfl (Qd rfl) JT) rfl rfl (Qd rfl) (Qd rfl) Jp)
def qU(T:Txt K mg t):dE P w K mg base CX0 1 (t.A 0) (t.Q 0) ["_law_script","_law_k"] (Iw K 2 ck) "_law_begun" (top 71) :=
 oF T.g sc (i:=0) rfl λ_ _ _ _ _ _ _ _=>(
 (nP (br (i:=2) (nd 0) rfl (Qd rfl) aj)
 (nP (bT (bj qL (cV λ_ _ _ _=>rb _) (dv 1) (aZ bM cH rfl T.n_len PyProof.Rows.Boot.«len» (aa (dv 0) av)) nm)
 (ai (br (i:=2) (nd 0) rfl (Qd rfl) (au (dv 0) (dv 1)))
 ar)
 ar)
 (uS (ix (aa (dv 2) (aa (fV (dM (dM (fV (dv 2) aj) (cp (cp aj (dv 1)) (dv 1))) aj) aj) (aa (d7 D7 (cV λ_ _ _ _=>rb _) (dv 2) (wu aj aj) nm) av))))))))
def aP(T:Txt K mg t):dE P w K mg base CX0 1 (t.A 1) (t.Q 1) ["_law_state","_law_many"] (B4 K 1 aH) "_law_take" (top 72) :=
 oM T.g sc (i:=1) rfl rfl λ_ _ _ _ _ _ _ _ _ _=>(
 (aE (oh (Fo (i:=0) (E:=E0) (bG (au (dv 0) aj)))
 (aE (cw (i:=2) (nd 1) rfl (Qd rfl) (mW (i:=0) (E:=E0) (fV (au (dv 0) aj) (dv 1))))
 (aE (yV (i:=0) rfl (Qd rfl) (mW (i:=0) (E:=E0) (nU (au (dv 0) aj) (dv 1))) (aK (E:=E0) aj))
 (aE (yV (i:=0) rfl (Qd rfl) (mW (i:=0) (E:=E0) (d7 xA (cV λ_ _ _ _=>rb _) (au (dv 0) aj) aj nm)) (aK (E:=E0) aj))
 (aE (dP (E:=E0) (dv 2))
 bF))))
 bF)
 (aE (bR (E:=E0) λvs=>(br (i:=3) (nd 1) rfl (Qd rfl) aj))
 (aE (lu (E:=E0) QT rfl (vQ (E:=E0) (nR rfl T.n_range (dM aj (cp aj (Fy CN K7 rfl T.n_int PyProof.Rows.Boot.«int» (aa (d7 xA (cV λ_ _ _ _=>rb _) (dv 1) (wu aj aj) nm) av)))))) (λvs=>(cm (i:=4) (nd 1) rfl (Qd rfl))) cL
 (aE (yV (i:=0) rfl (Qd rfl) (mW (i:=0) (E:=E0) (fV (dM (cp (au (dv 0) aj) aj) aj) aj)) (aK (E:=E0) aj))
 (aE (cw (i:=3) (nd 1) rfl (Qd rfl) (mW (i:=0) (E:=E0) (dM (cp (dv 3) aj) (fV (cp (au (dv 0) aj) (au (dv 0) aj)) aj))))
 bF)))
 (aE (dP (E:=E0) (fV (nU (dv 3) aj) (dv 1)))
 bF)))))
def ug(T:Txt K mg t):dE P w K mg base CX0 2 (t.A 2) (t.Q 2) ["_law_state","_law_many"] (B4 K 1 dS) "_law_names" (top 75) :=
 oM T.g sc (i:=2) rfl rfl λ_ _ _ _ H He _ _ _ hr=>(
 (aE (GI (i:=2) (nd 2) rfl rfl (Oo (E:=E0) ["_law_k","_law_state"] 1 [0] rfl (vQ (E:=E0) (nR rfl T.n_range aj)) (eG (by decide)) (λs H C fp pn=>⟨λHe η=>(cm (i:=0) (show Rk (["_law_k","_law_state"]:al) from by decide) rfl (Qd rfl)),λHe η=>(rM 1 (aP T) hr (aN (aK (E:=E0) aj) aU))⟩) ⟨rfl,rfl⟩ rfl rfl rfl rfl) zR)
 (aE (cw (i:=3) (nd 2) rfl (Qd rfl) (kZ (aK (E:=E0) aj) (rM 0 (aP T) hr (aN (aK (E:=E0) aj) aU))))
 (aE (cw (i:=4) (nd 2) rfl (Qd rfl) (rM 0 (aP T) hr (aN (aK (E:=E0) (dv 3)) aU)))
 (aE (cw (i:=5) (nd 2) rfl (Qd rfl) (rM 0 (aP T) hr (aN (aK (E:=E0) aj) aU)))
 (aE (cw (i:=6) (nd 2) rfl (Qd rfl) (ig (aK (E:=E0) (cz (aa aj (aa aj (aa aj (aa aj (aa aj (aa aj av)))))))) (rM 0 (aP T) hr (aN (aK (E:=E0) aj) aU))))
 (aE (cw (i:=7) (nd 2) rfl (Qd rfl) (KO (E:=E0) (du hr.units) e9 (rM 0 (aP T) hr (aN (aK (E:=E0) aj) aU)) (aK (E:=E0) aj) nm))
 (aE (bR (E:=E0) λvs=>(fA (i:=8) (nd 2) rfl (Qd rfl) (ix av)))
 (aE (bR (E:=E0) λvs=>(pZ QT rfl rfl T.n_range (dv 1) (cm (i:=9) (nd 2) rfl (Qd rfl)) cL
 (ai (fA (i:=10) (nd 2) rfl (Qd rfl) (yu (dv 2) wj (wg (dv 3))))
 (ai (KL (i:=10) rfl (Qd rfl) (fV (dM (dv 5) (cp (dv 6) (dv 9))) aj) (dv 4))
 (ai (bT (bG (dv 7))
 (ai (fA (i:=10) (nd 2) rfl (Qd rfl) (yu (dv 2) wj (wg (dM aj (fV (dM (dv 5) (dv 9)) aj)))))
 ar)
 ar)
 (ai (zN 10 (fB (i:=8) rfl (Qd rfl) (HS nT (aa (jR (nV ["_law_letter"] 1 [] rfl (eS (dv 10)) (eG (by decide)) (λs H C fp pn=>⟨λHe η=>(cm (i:=0) (show Rk (["_law_letter"]:al) from by decide) rfl (Qd rfl)),fH,(au nT (dv 0))⟩) ⟨rfl,rfl⟩ rfl rfl rfl rfl)) av))))
 ar))))))
 (aE (dP (E:=E0) (dv 8))
 bF))))))))))
def fO(T:Txt K mg t):dE P w K mg base CX0 1 (t.A 3) (t.Q 3) ["_law_top","_law_bottom"] (spD K 2 bx) "_law_low" (top 73) :=
 oD T.g sc (i:=3) rfl λ_ _ _ _ _ _ _ hr=>(
 (ai (br (i:=2) (nd 3) rfl (Qd rfl) (aZ tm zV rfl T.n_abs PyProof.Rows.Boot.«abs» (aa (dv 0) av)))
 (ai (br (i:=3) (nd 3) rfl (Qd rfl) (dv 1))
 (ai (sP _ QT (bj (eA hr.units) gJ (dv 3) aj nm)
 (ai (KN (i:=2) (j:=3) rfl (nd 3) rfl rfl (by decide) rfl rfl (aa (dv 3) (aa (fV (dv 2) (dv 3)) av)) rfl)
 ar))
 (ai (aY (eB (aa (nU (dv 0) (dv 2)) (aa (nU (dv 1) (dv 2)) av))))
 ar)))))
def c5(T:Txt K mg t):dE P w K mg base CX0 2 (t.A 4) (t.Q 4) ["_law_state","_law_least"] (B4 K 1 bC) "_law_amount" (top 74) :=
 oM T.g sc (i:=4) rfl rfl λ_ _ _ _ _ _ _ _ _ hr=>(
 (aE (cw (i:=2) (nd 4) rfl (Qd rfl) (rM 0 (aP T) hr (aN (aK (E:=E0) aj) aU)))
 (aE (cw (i:=3) (nd 4) rfl (Qd rfl) (kZ (aK (E:=E0) (dv 1)) (rM 0 (aP T) hr (aN (aK (E:=E0) (au (cz (aa aj (aa aj (aa aj (aa aj (aa aj (aa (wu aj aj) av))))))) (dv 2))) aU))))
 (aE (bR (E:=E0) λvs=>(br (i:=4) (nd 4) rfl (Qd rfl) (au (cz (aa aj (aa aj (aa aj (aa aj (aa aj (aa aj av))))))) (dv 2))))
 (aE (bR (E:=E0) λvs=>(br (i:=5) (nd 4) rfl (Qd rfl) (cz (aa aj (aa aj (aa aj (aa aj (aa aj (aa aj (aa aj (aa aj (aa aj (aa aj (aa aj (aa aj av)))))))))))))))
 (aE (Jw (PF (fO T) hr (aN (aK (E:=E0) (dv 3)) (aN (ig (aK (E:=E0) (dv 5)) (rM 0 (aP T) hr (aN (aK (E:=E0) (dv 4)) aU))) aU))))
 bF))))))
def xE(T:Txt K mg t):dE P w K mg base CX0 3 (t.A 5) (t.Q 5) ["_law_state","_law_names_here","_law_k"] (B4 K 2 cQ) "_law_tie" (top 76) :=
 oM T.g sc (i:=5) rfl rfl λ_ _ _ _ _ _ _ _ _ hr=>(
 (aE (bR (E:=E0) λvs=>(br (i:=3) (nd 5) rfl (Qd rfl) (aZ bM cH rfl T.n_len PyProof.Rows.Boot.«len» (aa (dv 1) av))))
 (aE (cw (i:=4) (nd 5) rfl (Qd rfl) (rM 0 (aP T) hr (aN (aK (E:=E0) (dv 3)) aU)))
 (aE (cw (i:=5) (nd 5) rfl (Qd rfl) (Fp (kZ (aK (E:=E0) (dM (dv 4) aj)) (rM 0 (aP T) hr (aN (aK (E:=E0) (nS (dv 3) aj)) aU))) (aK (E:=E0) (dv 3))))
 (aE (oh (wm (E:=E0) (du hr.units) e9 (rM 0 (aP T) hr (aN (aK (E:=E0) aj) aU)) (aK (E:=E0) aj) nm)
 (aE (bR (E:=E0) λvs=>(br (i:=4) (nd 5) rfl (Qd rfl) (fV (dv 2) (dv 3))))
 (aE (bR (E:=E0) λvs=>(br (i:=5) (nd 5) rfl (Qd rfl) (fV (dM (dv 2) aj) (dv 3))))
 bF))
 bF)
 (aE (cw (i:=6) (nd 5) rfl (Qd rfl) (ig (aK (E:=E0) (cz (aa nT (aa nT av)))) (rM 0 (aP T) hr (aN (aK (E:=E0) aj) aU))))
 (aE (cw (i:=7) (nd 5) rfl (Qd rfl) (rM 0 (c5 T) hr (aN (aK (E:=E0) aj) aU)))
 (aE (cw (i:=8) (nd 5) rfl (Qd rfl) (rM 0 (c5 T) hr (aN (aK (E:=E0) aj) aU)))
 (aE (oh (wm (E:=E0) (du hr.units) e9 (rM 0 (aP T) hr (aN (aK (E:=E0) aj) aU)) (aK (E:=E0) aj) nm)
 (aE (bR (E:=E0) λvs=>(br (i:=8) (nd 5) rfl (Qd rfl) fE))
 bF)
 bF)
 (aE (dP (E:=E0) (eB (aa (au (dv 1) (dv 4)) (aa (au (dv 1) (dv 5)) (aa (dv 6) (aa (dv 7) (aa (dv 8) av)))))))
 bF))))))))))
def xD(T:Txt K mg t):dE P w K mg base CX0 4 (t.A 6) (t.Q 6) ["_law_state","_law_most","_law_more"] (B4 K 2 dF) "_law_web" (top 77) :=
 oM T.g sc (i:=6) rfl rfl λ_ _ _ _ _ _ _ _ _ hr=>(
 (aE (cw (i:=3) (nd 6) rfl (Qd rfl) (rM 0 (ug T) hr (aN (kZ (aK (E:=E0) aj) (rM 0 (aP T) hr (aN (aK (E:=E0) (nS (dv 1) aj)) aU))) aU)))
 (aE (bR (E:=E0) λvs=>(br (i:=4) (nd 6) rfl (Qd rfl) (aZ bM cH rfl T.n_len PyProof.Rows.Boot.«len» (aa (dv 3) av))))
 (aE (bR (E:=E0) λvs=>(fA (i:=5) (nd 6) rfl (Qd rfl) (ix av)))
 (aE (lu (E:=E0) QT rfl (uG rfl T.n_range (rM 0 (aP T) hr (aN (aK (E:=E0) (dM (dv 2) aj)) aU))) (λvs=>(cm (i:=6) (nd 6) rfl (Qd rfl))) cL
 (aE (nA (i:=5) rfl (Qd rfl) (rM 0 (xE T) hr (aN (aK (E:=E0) (dv 3)) (aN (aK (E:=E0) (dv 6)) aU))))
 bF))
 (aE (bR (E:=E0) λvs=>(br (i:=7) (nd 6) rfl (Qd rfl) aj))
 (aE (bR (E:=E0) λvs=>(br (i:=8) (nd 6) rfl (Qd rfl) (nS (dv 4) aj)))
 (aE (oh (wm (E:=E0) (du hr.units) e9 (rM 0 (aP T) hr (aN (aK (E:=E0) aj) aU)) (aK (E:=E0) aj) nm)
 (aE (cw (i:=7) (nd 6) rfl (Qd rfl) (rM 0 (aP T) hr (aN (aK (E:=E0) (dv 4)) aU)))
 (aE (cw (i:=8) (nd 6) rfl (Qd rfl) (Fp (kZ (aK (E:=E0) (dM (dv 7) aj)) (rM 0 (aP T) hr (aN (aK (E:=E0) (nS (dv 4) aj)) aU))) (aK (E:=E0) (dv 4))))
 bF))
 bF)
 (aE (dP (E:=E0) (eB (aa (dv 3) (aa (dv 5) (aa (au (dv 3) (dv 7)) (aa (au (dv 3) (dv 8)) av))))))
 bF)))))))))
def ud(T:Txt K mg t):dE P w K mg base CX0 1 (t.A 7) (t.Q 7) ["_law_tie_here","_law_here"] (spD K 2 bW) "_law_there" (top 81) :=
 oD T.g sc (i:=7) rfl λ_ _ _ _ _ _ _ hr=>(
 (ai (bT (bj (du hr.units) e9 (au (dv 0) aj) (dv 1) nm)
 (ai (aY (au (dv 0) aj))
 ar)
 ar)
 (ai (bT (DW.dt (we (bj (du hr.units) e9 (au (dv 0) aj) (dv 1) nm) (kY (bj (du hr.units) e9 (au (dv 0) aj) nT nm))))
 (ai (aY (au (dv 0) aj))
 ar)
 ar)
 (ai (aY fE)
 ar))))
def nK(T:Txt K mg t):dE P w K mg base CX0 2 (t.A 8) (t.Q 8) ["_law_web_here","_law_gone"] (spD K 2 cM) "_law_all_ways" (top 83) :=
 oD T.g sc (i:=8) rfl λ_ _ _ _ _ _ _ hr=>(
 (ai (fA (i:=2) (nd 8) rfl (Qd rfl) (ix (aa (eB (aa (cz av) (aa (cz (aa (au (dv 0) aj) av)) av))) av)))
 (ai (fA (i:=3) (nd 8) rfl (Qd rfl) (ix av))
 (ai (sP _ QT (bj (eA hr.units) gJ (dv 2) (cz av) nm)
 (ai (CC (i:=2) rfl rfl (Qd rfl) (bE (i:=4) (nd 8) rfl (Qd rfl) (bE (i:=5) (nd 8) rfl (Qd rfl) dZ)))
 (ai (bT (bj (du hr.units) e9 (au (dv 5) (k7 aj)) (au (dv 0) aj) nm)
 (ai (fB (i:=3) rfl (Qd rfl) (dv 4))
 ar)
 (ai (pZ QT rfl rfl T.n_range (aZ bM cH rfl T.n_len PyProof.Rows.Boot.«len» (aa (au (dv 0) aj) av)) (cm (i:=6) (nd 8) rfl (Qd rfl)) cL
 (ai (br (i:=7) (nd 8) rfl (Qd rfl) (rC (ud T) hr (aa (au (au (dv 0) aj) (dv 6)) (aa (au (dv 5) (k7 aj)) av))))
 (ai (bT (DW.dt (we (bj pK pL (dv 7) fE nm) (we (bj (iH hr.units) iL (dv 7) (dv 5) rfl) (kY (bj (iH hr.units) iL (dv 6) (dv 1) rfl)))))
 (ai (fB (i:=2) rfl (Qd rfl) (eB (aa (dM (dv 4) (cz (aa (dv 6) av))) (aa (dM (dv 5) (cz (aa (dv 7) av))) av))))
 ar)
 ar)
 ar)))
 ar))
 ar)))
 (ai (aY (dv 3))
 ar)))))
def vM(T:Txt K mg t):dE P w K mg base CX0 3 (t.A 9) (t.Q 9) ["_law_state","_law_web_here"] (B4 K 1 eF) "_law_adds" (top 82) :=
 oM T.g sc (i:=9) rfl rfl λ_ _ _ _ _ _ _ _ _ hr=>(
 (aE (bR (E:=E0) λvs=>(fA (i:=2) (nd 9) rfl (Qd rfl) (ix av)))
 (aE (lu (E:=E0) QT rfl (vQ (E:=E0) (eS (au (dv 1) aj))) (λvs=>(cm (i:=3) (nd 9) rfl (Qd rfl))) cL
 (aE (cw (i:=4) (nd 9) rfl (Qd rfl) (rM 0 (c5 T) hr (aN (aK (E:=E0) aj) aU)))
 (aE (nA (i:=2) rfl (Qd rfl) (ig (aK (E:=E0) (cz (aa (dv 4) (aa (dv 4) (aa (eB (aa aj (aa aj av))) av))))) (rM 0 (aP T) hr (aN (aK (E:=E0) aj) aU))))
 bF)))
 (aE (dP (E:=E0) (dv 2))
 bF))))
def gh(T:Txt K mg t):dE P w K mg base CX0 2 (t.A 10) (t.Q 10) ["_law_one","_law_other"] (spD K 2 bp) "_law_plus" (top 78) :=
 oD T.g sc (i:=10) rfl λ_ _ _ _ _ _ _ hr=>(
 (ai (aY (rC (fO T) hr (aa (dM (cp (au (dv 0) aj) (au (dv 1) aj)) (cp (au (dv 1) aj) (au (dv 0) aj))) (aa (cp (au (dv 0) aj) (au (dv 1) aj)) av))))
 ar))
def iq(T:Txt K mg t):dE P w K mg base CX0 3 (t.A 11) (t.Q 11) ["_law_web_here","_law_mix"] (spD K 2 dU) "_law_loads" (top 85) :=
 oD T.g sc (i:=11) rfl λ_ _ _ _ H _ _ hr=>(
 (ai (HI (i:=2) (nd 11) rfl rfl (nV ["_law_tie_here"] 1 [] rfl (eS (au (dv 0) aj)) (eG (by decide)) (λs H C fp pn=>⟨λHe η=>(cm (i:=0) (show Rk (["_law_tie_here"]:al) from by decide) rfl (Qd rfl)),fH,(eB (aa aj (aa aj av)))⟩) ⟨rfl,rfl⟩ rfl rfl rfl rfl))
 (ai (sQ QT rfl (dv 1) (fU rfl (bE (i:=3) (nd 11) rfl (Qd rfl) (bE (i:=4) (nd 11) rfl (Qd rfl) dZ))) fq
 (ai (sQ QT rfl (dv 3) (cm (i:=5) (nd 11) rfl (Qd rfl)) cL
 (ai (HH (i:=2) rfl (Qd rfl) (rC (gh T) hr (aa (au (dv 2) (dv 5)) (aa (dv 4) av))) (dv 5))
 ar))
 ar))
 (ai (aY (dv 2))
 ar))))
def fM(T:Txt K mg t):dE P w K mg base CX0 1 (t.A 12) (t.Q 12) ["thing"] (spD K 1 m_is_whole) "is_whole" (top 14) :=
 oD T.g sc (i:=12) rfl λ_ _ _ _ _ _ _ _=>(
 (ai (aY (iz (bU rg rfl T.n_isinstance rfl T.n_int PyProof.Rows.Boot.«int» (dv 0)) (iy (KW (bU oH rfl T.n_isinstance rfl T.n_bool PyProof.Rows.Boot.«bool» (dv 0))))))
 ar))
def ia(T:Txt K mg t):dE P w K mg base CX0 1 (t.A 13) (t.Q 13) ["one","other"] (spD K 2 m_common_divisor) "common_divisor" (top 10) :=
 oD T.g sc (i:=13) rfl λ_ _ _ _ _ _ _ hr=>(
 (ai (br (i:=2) (nd 13) rfl (Qd rfl) (aZ tm zV rfl T.n_abs PyProof.Rows.Boot.«abs» (aa (dv 0) av)))
 (ai (br (i:=3) (nd 13) rfl (Qd rfl) (aZ tm zV rfl T.n_abs PyProof.Rows.Boot.«abs» (aa (dv 1) av)))
 (ai (sP _ QT (bj (eA hr.units) gJ (dv 3) aj nm)
 (ai (br (i:=4) (nd 13) rfl (Qd rfl) (fV (dv 2) (dv 3)))
 (ai (br (i:=2) (nd 13) rfl (Qd rfl) (dv 3))
 (ai (br (i:=3) (nd 13) rfl (Qd rfl) (dv 4))
 ar))))
 (ai (aY (dv 2))
 ar)))))
def qP(T:Txt K mg t):dE P w K mg base CX0 2 (t.A 14) (t.Q 14) ["top","bottom"] (spD K 2 m_ratio) "ratio" (top 19) :=
 oD T.g sc (i:=14) rfl λ_ _ _ _ _ _ _ hr=>(
 (ai (bT (DW.dt (da (bL (bG (rC (fM T) hr (aa (dv 0) av)))) (bz (bL (bG (rC (fM T) hr (aa (dv 1) av)))))))
 (ai cc
 ar)
 ar)
 (ai (bT (bj (du hr.units) e9 (dv 1) aj nm)
 (ai cc
 ar)
 ar)
 (ai (br (i:=2) (nd 14) rfl (Qd rfl) (rC (ia T) hr (aa (dv 0) (aa (dv 1) av))))
 (ai (bT (bj qL (cV λ_ _ _ _=>rb _) (dv 1) aj nm)
 (ai (br (i:=2) (nd 14) rfl (Qd rfl) (k7 (dv 2)))
 ar)
 ar)
 (ai (aY (eB (aa (nU (dv 0) (dv 2)) (aa (nU (dv 1) (dv 2)) av))))
 ar))))))
def vJ(T:Txt K mg t):dE P w K mg base CX0 3 (t.A 15) (t.Q 15) ["one","other"] (spD K 2 m_plus) "plus" (top 20) :=
 oD T.g sc (i:=15) rfl λ_ _ _ _ _ _ _ hr=>(
 (ai (aY (rC (qP T) hr (aa (dM (cp (au (dv 0) aj) (au (dv 1) aj)) (cp (au (dv 1) aj) (au (dv 0) aj))) (aa (cp (au (dv 0) aj) (au (dv 1) aj)) av))))
 ar))
def iI(T:Txt K mg t):dE P w K mg base CX0 4 (t.A 16) (t.Q 16) ["some"] (spD K 1 m_sum_of) "sum_of" (top 24) :=
 oD T.g sc (i:=16) rfl λ_ _ _ _ _ _ _ hr=>(
 (ai (br (i:=1) (nd 16) rfl (Qd rfl) (bf T.jS rfl))
 (ai (sQ QT rfl (dv 0) (cm (i:=2) (nd 16) rfl (Qd rfl)) cL
 (ai (br (i:=1) (nd 16) rfl (Qd rfl) (rC (vJ T) hr (aa (dv 1) (aa (dv 2) av))))
 ar))
 (ai (aY (dv 1))
 ar))))
def qR(T:Txt K mg t):dE P w K mg base CX0 5 (t.A 17) (t.Q 17) ["mix","number"] (spD K 2 fv) "load_on" (top 67) :=
 oD T.g sc (i:=17) rfl λ_ _ _ _ H _ _ hr=>(
 (ai (aY (rC (iI T) hr (aa (jR (nV ["way","share","number"] 2 [1] rfl (eS (dv 0)) (jB (by decide)) (λs H C fp pn=>⟨λHe η=>(fU rfl (bE (i:=0) (show Rk (["way","share","number"]:al) from by decide) rfl (Qd rfl) (bE (i:=1) (show Rk (["way","share","number"]:al) from by decide) rfl (Qd rfl) dZ))),(wt (bj (uE hr.units) uF (dv 2) (dv 0) rfl)),(dv 1)⟩) ⟨rfl,rfl⟩ rfl rfl rfl rfl)) av)))
 ar))
def jd(T:Txt K mg t):dE P w K mg base CX0 1 (t.A 18) (t.Q 18) ["thing"] (spD K 1 m_is_name) "is_name" (top 16) :=
 oD T.g sc (i:=18) rfl λ_ _ _ _ H _ _ hr=>(
 (ai (bT (DW.dt (da (bL (bG (bU rf rfl T.n_isinstance rfl T.n_str PyProof.Rows.Boot.«str» (dv 0)))) (bz (bL (yt uD uD (gs λ_ _ _ _=>rb _) (gs λ_ _ _ _=>rb _) gu gu aj (aZ bM cH rfl T.n_len PyProof.Rows.Boot.«len» (aa (dv 0) av)) (bf T.gU rfl))))))
 (ai (aY fZ)
 ar)
 ar)
 (ai (aY (aZ (yD rfl) FE rfl T.n_all PyProof.Rows.Boot.«all» (aa (jR (nV ["sign"] 1 [] rfl (KS (dv 0)) (eG (by decide)) (λs H C fp pn=>⟨λHe η=>(cm (i:=0) (show Rk (["sign"]:al) from by decide) rfl (Qd rfl)),fH,(d7 (uE hr.units) uF (dv 0) (bf T.nZ rfl) rfl)⟩) ⟨rfl,rfl⟩ rfl rfl rfl rfl)) av)))
 ar)))
def lE(T:Txt K mg t):dE P w K mg base CX0 2 (t.A 19) (t.Q 19) ["places"] (spD K 1 m_look_at_places) "look_at_places" (top 46) :=
 oD T.g sc (i:=19) rfl λ_ _ _ _ _ _ _ hr=>(
 (ai (bT (DW.dt (da (bL (bG (bU dG rfl T.n_isinstance rfl T.n_list PyProof.Rows.Boot.«list» (dv 0)))) (bz (bL (yt uD uD (gs λ_ _ _ _=>rb _) (gs λ_ _ _ _=>rb _) gu gu (bf T.fW rfl) (aZ bM cH rfl T.n_len PyProof.Rows.Boot.«len» (aa (dv 0) av)) (bf T.iC rfl))))))
 (ai cc
 ar)
 ar)
 (ai (mS QT rfl (mY rfl T.n_enumerate (dv 0)) (fU rfl (bE (i:=1) (nd 19) rfl (Qd rfl) (bE (i:=2) (nd 19) rfl (Qd rfl) dZ))) fq
 (ai (bT (DW.dt (da (bL (bG (rC (jd T) hr (aa (dv 2) av)))) (bz (bj (uE hr.units) uF (dv 2) (CF (dv 0) wj (wg (dv 1))) rfl))))
 (ai cc
 ar)
 ar)
 ar))
 ar)))
def fN(T:Txt K mg t):dE P w K mg base CX0 2 (t.A 20) (t.Q 20) ["thing"] (spD K 1 m_is_ratio) "is_ratio" (top 15) :=
 oD T.g sc (i:=20) rfl λ_ _ _ _ _ _ _ hr=>(
 (ai (bT (DW.dt (da (bL (bG (bU eP rfl T.n_isinstance rfl T.n_tuple PyProof.Rows.Boot.«tuple» (dv 0)))) (bz (bj (eA hr.units) gJ (aZ bM cH rfl T.n_len PyProof.Rows.Boot.«len» (aa (dv 0) av)) aj nm))))
 (ai (aY fZ)
 ar)
 ar)
 (ai (bT (DW.dt (da (bL (bG (rC (fM T) hr (aa (au (dv 0) aj) av)))) (bz (bL (bG (rC (fM T) hr (aa (au (dv 0) aj) av)))))))
 (ai (aY fZ)
 ar)
 ar)
 (ai (aY (iz (d7 D7 (cV λ_ _ _ _=>rb _) (au (dv 0) aj) aj nm) (iy (d7 (du hr.units) e9 (rC (ia T) hr (aa (au (dv 0) aj) (aa (au (dv 0) aj) av))) aj nm))))
 ar))))
def lG(T:Txt K mg t):dE P w K mg base CX0 3 (t.A 21) (t.Q 21) ["thing"] (spD K 1 m_is_length) "is_length" (top 41) :=
 oD T.g sc (i:=21) rfl λ_ _ _ _ _ _ _ hr=>(
 (ai (aY (iz (rC (fN T) hr (aa (dv 0) av)) (iy (d7 D7 (cV λ_ _ _ _=>rb _) (au (dv 0) aj) aj nm))))
 ar))
def xC(T:Txt K mg t):dE P w K mg base CX0 3 (t.A 22) (t.Q 22) ["thing"] (spD K 1 m_is_worth) "is_worth" (top 42) :=
 oD T.g sc (i:=22) rfl λ_ _ _ _ _ _ _ hr=>(
 (ai (aY (Nh (d7 zh zk (dv 0) fE nm) (iy (iz (rC (fN T) hr (aa (dv 0) av)) (iy (d7 xA (cV λ_ _ _ _=>rb _) (au (dv 0) aj) aj nm))))))
 ar))
def Cf(T:Txt K mg t):dE P w K mg base CX0 4 (t.A 23) (t.Q 23) ["thing"] (spD K 1 m_is_tie) "is_tie" (top 40) :=
 oD T.g sc (i:=23) rfl λ_ _ _ _ _ _ _ hr=>(
 (ai (bT (DW.dt (da (bL (bG (bU eP rfl T.n_isinstance rfl T.n_tuple PyProof.Rows.Boot.«tuple» (dv 0)))) (bz (bj (eA hr.units) gJ (aZ bM cH rfl T.n_len PyProof.Rows.Boot.«len» (aa (dv 0) av)) aj nm))))
 (ai (aY fZ)
 ar)
 ar)
 (ai (bT (DW.dt (da (bL (bG (rC (jd T) hr (aa (au (dv 0) (bf T.tw rfl)) av)))) (da (bL (bG (rC (jd T) hr (aa (au (dv 0) (bf T.jj rfl)) av)))) (bz (bj (du hr.units) e9 (au (dv 0) (bf T.tw rfl)) (au (dv 0) (bf T.jj rfl)) nm)))))
 (ai (aY fZ)
 ar)
 ar)
 (ai (bT (DW.dt (da (bL (bG (bU rf rfl T.n_isinstance rfl T.n_str PyProof.Rows.Boot.«str» (au (dv 0) (bf T.tq rfl))))) (bz (bj (iH hr.units) iL (au (dv 0) (bf T.tq rfl)) (bf T.wA rfl) rfl))))
 (ai (aY fZ)
 ar)
 ar)
 (ai (aY (iz (rC (lG T) hr (aa (au (dv 0) (bf T.mZ rfl)) av)) (iy (rC (xC T) hr (aa (au (dv 0) (bf T.kn rfl)) av)))))
 ar)))))
def pe(T:Txt K mg t):dE P w K mg base CX0 5 (t.A 24) (t.Q 24) ["ties","places"] (spD K 2 m_look_at_ties) "look_at_ties" (top 47) :=
 oD T.g sc (i:=24) rfl λ_ _ _ _ _ _ _ hr=>(
 (ai (bT (DW.dt (da (bL (bG (bU dG rfl T.n_isinstance rfl T.n_list PyProof.Rows.Boot.«list» (dv 0)))) (bz (bj xA (cV λ_ _ _ _=>rb _) (aZ bM cH rfl T.n_len PyProof.Rows.Boot.«len» (aa (dv 0) av)) (bf T.jT rfl) nm))))
 (ai cc
 ar)
 ar)
 (ai (mS QT rfl (mY rfl T.n_enumerate (dv 0)) (fU rfl (bE (i:=2) (nd 24) rfl (Qd rfl) (bE (i:=3) (nd 24) rfl (Qd rfl) dZ))) fq
 (ai (bT (DW.dt (da (bL (bG (rC (Cf T) hr (aa (dv 3) av)))) (da (bj (iH hr.units) iL (au (dv 3) (bf T.tw rfl)) (dv 1) rfl) (bz (bj (iH hr.units) iL (au (dv 3) (bf T.jj rfl)) (dv 1) rfl)))))
 (ai cc
 ar)
 ar)
 ar))
 ar)))
def ou(T:Txt K mg t):dE P w K mg base CX0 2 (t.A 25) (t.Q 25) ["thing","places"] (spD K 2 m_is_place) "is_place" (top 48) :=
 oD T.g sc (i:=25) rfl λ_ _ _ _ _ _ _ hr=>(
 (ai (aY (iz (rC (jd T) hr (aa (dv 0) av)) (iy (d7 (uE hr.units) uF (dv 0) (dv 1) rfl))))
 ar))
def gI(T:Txt K mg t):dE P w K mg base CX0 6 (t.A 26) (t.Q 26) ["thing"] (spD K 1 m_look_at_web) "look_at_web" (top 45) :=
 oD T.g sc (i:=26) rfl λ_ _ _ _ _ _ _ hr=>(
 (ai (bT (DW.dt (da (bL (bG (bU eP rfl T.n_isinstance rfl T.n_tuple PyProof.Rows.Boot.«tuple» (dv 0)))) (bz (bj (eA hr.units) gJ (aZ bM cH rfl T.n_len PyProof.Rows.Boot.«len» (aa (dv 0) av)) aj nm))))
 (ai cc
 ar)
 ar)
 (ai (dY (rC (lE T) hr (aa (au (dv 0) (bf T.iT rfl)) av)))
 (ai (dY (rC (pe T) hr (aa (au (dv 0) (bf T.iB rfl)) (aa (au (dv 0) (bf T.iT rfl)) av))))
 (ai (bT (bL (bG (rC (ou T) hr (aa (au (dv 0) (bf T.m5 rfl)) (aa (au (dv 0) (bf T.iT rfl)) av)))))
 (ai cc
 ar)
 ar)
 (ai (bT (DW.dt (da (bL (bG (rC (ou T) hr (aa (au (dv 0) (bf T.n6 rfl)) (aa (au (dv 0) (bf T.iT rfl)) av))))) (bz (bj (du hr.units) e9 (au (dv 0) (bf T.n6 rfl)) (au (dv 0) (bf T.m5 rfl)) nm))))
 (ai cc
 ar)
 ar)
 ar))))))
def iJ(T:Txt K mg t):dE P w K mg base CX0 2 (t.A 27) (t.Q 27) ["web","thing"] (spD K 2 m_is_tie_number) "is_tie_number" (top 43) :=
 oD T.g sc (i:=27) rfl λ_ _ _ _ _ _ _ hr=>(
 (ai (aY (iz (rC (fM T) hr (aa (dv 1) av)) (iy (Fx uD qL (gs λ_ _ _ _=>rb _) (gs λ_ _ _ _=>rb _) gu gu aj (dv 1) (aZ bM cH rfl T.n_len PyProof.Rows.Boot.«len» (aa (au (dv 0) (bf T.iB rfl)) av))))))
 ar))
def qO(T:Txt K mg t):dE P w K mg base CX0 1 (t.A 28) (t.Q 28) ["tie"] (spD K 1 m_steps_along) "steps_along" (top 50) :=
 oD T.g sc (i:=28) rfl λ_ _ _ _ _ _ _ hr=>(
 (ai (br (i:=1) (nd 28) rfl (Qd rfl) (eB (aa (au (dv 0) (bf T.tw rfl)) (aa (au (dv 0) (bf T.jj rfl)) av))))
 (ai (bT (bj (du hr.units) e9 (au (dv 0) (bf T.tq rfl)) nT nm)
 (ai (aY (cz (aa (dv 1) av)))
 ar)
 ar)
 (ai (aY (cz (aa (dv 1) (aa (eB (aa (au (dv 0) (bf T.jj rfl)) (aa (au (dv 0) (bf T.tw rfl)) av))) av))))
 ar))))
def pd(T:Txt K mg t):dE P w K mg base CX0 3 (t.A 29) (t.Q 29) ["web","taken","places","number"] (spD K 4 m_place_behind) "place_behind" (top 53) :=
 oD T.g sc (i:=29) rfl λ_ _ _ _ _ _ _ hr=>(
 (ai (bT (DW.dt (da (bj (du hr.units) e9 (au (dv 2) (k7 aj)) (au (dv 0) (bf T.n6 rfl)) nm) (da (bL (bG (rC (iJ T) hr (aa (dv 0) (aa (dv 3) av))))) (bz (bj (uE hr.units) uF (dv 3) (dv 1) rfl)))))
 (ai (aY fE)
 ar)
 ar)
 (ai (sQ QT rfl (rC (qO T) hr (aa (au (au (dv 0) (bf T.iB rfl)) (dv 3)) av)) (fU rfl (bE (i:=4) (nd 29) rfl (Qd rfl) (bE (i:=5) (nd 29) rfl (Qd rfl) dZ))) fq
 (ai (bT (DW.dt (we (bj (du hr.units) e9 (dv 4) (au (dv 2) (k7 aj)) nm) (kY (bj (iH hr.units) iL (dv 5) (dv 2) rfl))))
 (ai (aY (dv 5))
 ar)
 ar)
 ar))
 (ai (aY fE)
 ar))))
def ot(T:Txt K mg t):dE P w K mg base (oa P w) 4 (t.A 30) (t.Q 30) ["web","taken","thing"] (spD K 3 m_walk_way) "walk_way" (top 51) :=
 oE T.g sc (i:=30) rfl λ_ _ _ _ _ _ _ hr=>(
 (ai (bT (bL (bG (bU dG rfl T.n_isinstance rfl T.n_list PyProof.Rows.Boot.«list» (dv 2))))
 (ai (nQ T.pC.xc T.qf T.qe T.qg ((kU T).mono (by decide:1<=2)) T.jU (by decide) (by decide) hr T.pP hr.hd rfl (aa fE av))
 ar)
 ar)
 (ai (fA (i:=3) (nd 30) rfl (Qd rfl) (ix (aa (au (dv 0) (bf T.m5 rfl)) av)))
 (ai (mS PassesOwn.leaving rfl (mY rfl T.n_enumerate (dv 2)) (fU rfl (bE (i:=4) (nd 30) rfl (Qd rfl) (bE (i:=5) (nd 30) rfl (Qd rfl) dZ))) fq
 (ai (HG (i:=6) (nd 30) rfl (Qd rfl) (rC (pd T) hr (aa (dv 0) (aa (dv 1) (aa (dv 3) (aa (dv 5) av))))))
 (ai (bT (bj zh zk (dv 6) fE nm)
 (ai (nQ T.pC.xc T.qf T.qe T.qg ((kU T).mono (by decide:1<=2)) T.jU (by decide) (by decide) hr T.pP hr.hd rfl (aa (dv 4) av))
 ar)
 ar)
 (ai (fB (i:=3) rfl (Qd rfl) (dv 6))
 ar))))
 (ai (zN 3 (bT (bj (eA hr.units) gJ (au (dv 3) (k7 aj)) (au (dv 0) (bf T.n6 rfl)) nm)
 (ai (nQ T.pC.xc T.qf T.qe T.qg ((kU T).mono (by decide:1<=2)) T.jU (by decide) (by decide) hr T.pP hr.hd rfl (aa (aZ bM cH rfl T.n_len PyProof.Rows.Boot.«len» (aa (dv 2) av)) av))
 ar)
 ar))
 (ai (aY (dv 3))
 ar))))))
def Ce(T:Txt K mg t):dE P w K mg base CX0 5 (t.A 31) (t.Q 31) ["web","taken","thing"] (spD K 3 m_is_way) "is_way" (top 52) :=
 oD T.g sc (i:=31) rfl λ_ _ _ _ _ _ _ hr=>(
 (ai (HF ⟨rfl,rfl⟩ (rD (ot T) hr (aa (dv 0) (aa (dv 1) (aa (dv 2) av)))) rfl T.pP (vZ T) (λea=>(ai (aY fZ)
 ar)))
 (ai (aY fZ)
 ar)))
def jG(T:Txt K mg t):dE P w K mg base CX0 6 (t.A 32) (t.Q 32) ["web","thing"] (spD K 2 m_is_way_with_share) "is_way_with_share" (top 65) :=
 oD T.g sc (i:=32) rfl λ_ _ _ _ _ _ _ hr=>(
 (ai (bT (DW.dt (da (bL (bG (bU eP rfl T.n_isinstance rfl T.n_tuple PyProof.Rows.Boot.«tuple» (dv 1)))) (bz (bj (eA hr.units) gJ (aZ bM cH rfl T.n_len PyProof.Rows.Boot.«len» (aa (dv 1) av)) aj nm))))
 (ai (aY fZ)
 ar)
 ar)
 (ai (aY (iz (rC (Ce T) hr (aa (dv 0) (aa (cz av) (aa (au (dv 1) aj) av)))) (iz (rC (fN T) hr (aa (au (dv 1) aj) av)) (iy (d7 xA (cV λ_ _ _ _=>rb _) (au (au (dv 1) aj) aj) aj nm)))))
 ar)))
def jF(T:Txt K mg t):dE P w K mg base CX0 7 (t.A 33) (t.Q 33) ["web","thing"] (spD K 2 ef) "look_at_mix" (top 64) :=
 oD T.g sc (i:=33) rfl λ_ _ _ _ H _ _ hr=>(
 (ai (dY (rC (gI T) hr (aa (dv 0) av)))
 (ai (bT (bL (bG (bU dG rfl T.n_isinstance rfl T.n_list PyProof.Rows.Boot.«list» (dv 1))))
 (ai cc
 ar)
 ar)
 (ai (fA (i:=2) (nd 33) rfl (Qd rfl) (ix av))
 (ai (mS QT rfl (mY rfl T.n_enumerate (dv 1)) (fU rfl (bE (i:=3) (nd 33) rfl (Qd rfl) (bE (i:=4) (nd 33) rfl (Qd rfl) dZ))) fq
 (ai (bT (DW.dt (da (bL (bG (rC (jG T) hr (aa (dv 0) (aa (dv 4) av))))) (bz (bj (uE hr.units) uF (au (dv 4) aj) (dv 2) rfl))))
 (ai cc
 ar)
 ar)
 (ai (fB (i:=2) rfl (Qd rfl) (au (dv 4) aj))
 ar)))
 (ai (bT (bj (eA hr.units) gJ (rC (iI T) hr (aa (jR (nV ["way","share"] 2 [] rfl (eS (dv 1)) (jB (by decide)) (λs H C fp pn=>⟨λHe η=>(fU rfl (bE (i:=0) (show Rk (["way","share"]:al) from by decide) rfl (Qd rfl) (bE (i:=1) (show Rk (["way","share"]:al) from by decide) rfl (Qd rfl) dZ))),fH,(dv 1)⟩) ⟨rfl,rfl⟩ rfl rfl rfl rfl)) av)) (bf T.wC rfl) nm)
 (ai cc
 ar)
 ar)
 ar))))))
def oy(T:Txt K mg t):dE P w K mg base CX0 8 (t.A 34) (t.Q 34) ["web","mix"] (Iw K 2 gw) "load_of" (top 66) :=
 oF T.g sc (i:=34) rfl λ_ _ _ _ H _ _ hr=>(
 (nP (dY (rC (jF T) hr (aa (dv 0) (aa (dv 1) av))))
 (uS (Je (nV ["number","mix"] 1 [1] rfl (nR rfl T.n_range (aZ bM cH rfl T.n_len PyProof.Rows.Boot.«len» (aa (au (dv 0) (bf T.iB rfl)) av))) (eG (by decide)) (λs H C fp pn=>⟨λHe η=>(cm (i:=0) (show Rk (["number","mix"]:al) from by decide) rfl (Qd rfl)),fH,(rC (qR T) hr (aa (dv 1) (aa (dv 0) av)))⟩) ⟨rfl,rfl⟩ rfl rfl rfl rfl)))))
def zi(T:Txt K mg t):dE P w K mg base CX0 8 (t.A 34) (t.Q 34) ["web","mix"] (spD K 2 gw) "load_of" (top 66) :=
 (oy T).fD
def iK(T:Txt K mg t):dE P w K mg base CX0 1 (t.A 35) (t.Q 35) ["_law_thing"] (spD K 1 cy) "_law_is_ratio" (top 88) :=
 oD T.g sc (i:=35) rfl λ_ _ _ _ H _ _ hr=>(
 (ai (bT (DW.dt (da (bL (bG (bU eP rfl T.n_isinstance rfl T.n_tuple PyProof.Rows.Boot.«tuple» (dv 0)))) (bz (bj (eA hr.units) gJ (aZ bM cH rfl T.n_len PyProof.Rows.Boot.«len» (aa (dv 0) av)) aj nm))))
 (ai (aY fZ)
 ar)
 ar)
 (ai (aY (d7 (du hr.units) e9 (jR (nV ["_law_one"] 1 [] rfl (KR (dv 0)) (eG (by decide)) (λs H C fp pn=>⟨λHe η=>(cm (i:=0) (show Rk (["_law_one"]:al) from by decide) rfl (Qd rfl)),(wt (DW.dt (da (bG (bU oH rfl T.n_isinstance rfl T.n_bool PyProof.Rows.Boot.«bool» (dv 0))) (bz (bL (bG (bU rg rfl T.n_isinstance rfl T.n_int PyProof.Rows.Boot.«int» (dv 0)))))))),(dv 0)⟩) ⟨rfl,rfl⟩ rfl rfl rfl rfl)) (cz av) nm))
 ar)))
def qS(T:Txt K mg t):dE P w K mg base CX0 4 (t.A 36) (t.Q 36) ["web","thing"] (spD K 2 m_has_lengths) "has_lengths" (top 44) :=
 oD T.g sc (i:=36) rfl λ_ _ _ _ H _ _ hr=>(
 (ai (bT (DW.dt (da (bL (bG (bU dG rfl T.n_isinstance rfl T.n_list PyProof.Rows.Boot.«list» (dv 1)))) (bz (bj (eA hr.units) gJ (aZ bM cH rfl T.n_len PyProof.Rows.Boot.«len» (aa (dv 1) av)) (aZ bM cH rfl T.n_len PyProof.Rows.Boot.«len» (aa (au (dv 0) (bf T.iB rfl)) av)) nm))))
 (ai (aY fZ)
 ar)
 ar)
 (ai (aY (aZ (yD rfl) FE rfl T.n_all PyProof.Rows.Boot.«all» (aa (jR (nV ["one"] 1 [] rfl (eS (dv 1)) (eG (by decide)) (λs H C fp pn=>⟨λHe η=>(cm (i:=0) (show Rk (["one"]:al) from by decide) rfl (Qd rfl)),fH,(rC (lG T) hr (aa (dv 0) av))⟩) ⟨rfl,rfl⟩ rfl rfl rfl rfl)) av)))
 ar)))
def pf(T:Txt K mg t):dE P w K mg base CX0 7 (t.A 37) (t.Q 37) ["web","thing"] (spD K 2 m_look_at_adds) "look_at_adds" (top 61) :=
 oD T.g sc (i:=37) rfl λ_ _ _ _ _ _ _ hr=>(
 (ai (dY (rC (gI T) hr (aa (dv 0) av)))
 (ai (bT (bL (bG (rC (qS T) hr (aa (dv 0) (aa (dv 1) av)))))
 (ai cc
 ar)
 ar)
 ar)))
def nI(T:Txt K mg t):dE P w K mg base CX0 3 (t.A 38) (t.Q 38) ["thing"] (spD K 1 m_look_at_purse) "look_at_purse" (top 55) :=
 oD T.g sc (i:=38) rfl λ_ _ _ _ _ _ _ hr=>(
 (ai (bT (DW.dt (da (bL (bG (rC (fN T) hr (aa (dv 0) av)))) (bz (bj qL (cV λ_ _ _ _=>rb _) (au (dv 0) aj) aj nm))))
 (ai cc
 ar)
 ar)
 ar))
def lF(T:Txt K mg t):dE P w K mg base CX0 3 (t.A 39) (t.Q 39) ["thing"] (spD K 1 dR) "look_at_length" (top 25) :=
 oD T.g sc (i:=39) rfl λ_ _ _ _ _ _ _ hr=>(
 (ai (bT (DW.dt (da (bL (bG (rC (fN T) hr (aa (dv 0) av)))) (bz (bj qL (cV λ_ _ _ _=>rb _) (au (dv 0) aj) aj nm))))
 (ai cc
 ar)
 ar)
 ar))
def lC(T:Txt K mg t):dE P w K mg base CX0 3 (t.A 40) (t.Q 40) ["one","other"] (spD K 2 m_times) "times" (top 22) :=
 oD T.g sc (i:=40) rfl λ_ _ _ _ _ _ _ hr=>(
 (ai (aY (rC (qP T) hr (aa (cp (au (dv 0) aj) (au (dv 1) aj)) (aa (cp (au (dv 0) aj) (au (dv 1) aj)) av))))
 ar))
def lD(T:Txt K mg t):dE P w K mg base CX0 7 (t.A 41) (t.Q 41) ["web","thing"] (spD K 2 m_look_at_taking) "look_at_taking" (top 56) :=
 oD T.g sc (i:=41) rfl λ_ _ _ _ _ _ _ hr=>(
 (ai (dY (rC (gI T) hr (aa (dv 0) av)))
 (ai (bT (bL (bG (bU dG rfl T.n_isinstance rfl T.n_list PyProof.Rows.Boot.«list» (dv 1))))
 (ai cc
 ar)
 ar)
 (ai (br (i:=2) (nd 41) rfl (Qd rfl) (k7 aj))
 (ai (sQ QT rfl (dv 1) (cm (i:=3) (nd 41) rfl (Qd rfl)) cL
 (ai (bT (DW.dt (da (bL (bG (rC (iJ T) hr (aa (dv 0) (aa (dv 3) av))))) (bz (bj uD (cV λ_ _ _ _=>rb _) (dv 3) (dv 2) nm))))
 (ai cc
 ar)
 ar)
 (ai (bT (bj zh zk (au (au (au (dv 0) (bf T.iB rfl)) (dv 3)) (bf T.kn rfl)) fE nm)
 (ai cc
 ar)
 ar)
 (ai (br (i:=2) (nd 41) rfl (Qd rfl) (dv 3))
 ar))))
 ar)))))
def qQ(T:Txt K mg t):dE P w K mg base (oa P w) 8 (t.A 42) (t.Q 42) ["web","taking","thing"] (spD K 3 m_look_at_way) "look_at_way" (top 58) :=
 oE T.g sc (i:=42) rfl λ_ _ _ _ _ _ _ hr=>(
 (ai (dY (rC (lD T) hr (aa (dv 0) (aa (dv 1) av))))
 (ai (dY (rC (ot T) hr (aa (dv 0) (aa (dv 1) (aa (dv 2) av)))))
 ar)))
def vK(T:Txt K mg t):dE P w K mg base CX0 9 (t.A 43) (t.Q 43) ["web","way"] (spD K 2 cN) "length_of" (top 59) :=
 oD T.g sc (i:=43) rfl λ_ _ _ _ H _ _ hr=>(
 (ai (dY (rC (dE.noX (qQ T)) hr (aa (dv 0) (aa (cz av) (aa (dv 1) av)))))
 (ai (aY (rC (iI T) hr (aa (jR (nV ["number","web"] 1 [0] rfl (eS (dv 1)) (eG (by decide)) (λs H C fp pn=>⟨λHe η=>(cm (i:=0) (show Rk (["number","web"]:al) from by decide) rfl (Qd rfl)),fH,(au (au (au (dv 1) (bf T.iB rfl)) (dv 0)) (bf T.mZ rfl))⟩) ⟨rfl,rfl⟩ rfl rfl rfl rfl)) av)))
 ar)))
def D9(T:Txt K mg t):dE P w K mg base CX0 3 (t.A 44) (t.Q 44) ["one","other"] (spD K 2 m_minus) "minus" (top 21) :=
 oD T.g sc (i:=44) rfl λ_ _ _ _ _ _ _ hr=>(
 (ai (aY (rC (qP T) hr (aa (nS (cp (au (dv 0) aj) (au (dv 1) aj)) (cp (au (dv 1) aj) (au (dv 0) aj))) (aa (cp (au (dv 0) aj) (au (dv 1) aj)) av))))
 ar))
def zj(T:Txt K mg t):dE P w K mg base CX0 1 (t.A 45) (t.Q 45) ["one","other"] (spD K 2 m_is_less) "is_less" (top 23) :=
 oD T.g sc (i:=45) rfl λ_ _ _ _ _ _ _ _=>(
 (ai (aY (d7 qL (cV λ_ _ _ _=>rb _) (cp (au (dv 0) aj) (au (dv 1) aj)) (cp (au (dv 1) aj) (au (dv 0) aj)) nm))
 ar))
def nJ(T:Txt K mg t):dE P w K mg base CX0 6 (t.A 46) (t.Q 46) ["web","adds","mix","rate"] (spD K 4 et) "claim_of_adds" (top 69) :=
 oD T.g sc (i:=46) rfl λ_ _ _ _ _ _ _ hr=>(
 (ai (fA (i:=4) (nd 46) rfl (Qd rfl) (ix av))
 (ai (mS QT rfl (mY rfl T.n_enumerate (au (dv 0) (bf T.iB rfl))) (fU rfl (bE (i:=5) (nd 46) rfl (Qd rfl) (bE (i:=6) (nd 46) rfl (Qd rfl) dZ))) fq
 (ai (bT (bj pK pL (au (dv 6) (bf T.kn rfl)) fE nm)
 (ai (br (i:=7) (nd 46) rfl (Qd rfl) (rC (D9 T) hr (aa (rC (qR T) hr (aa (dv 2) (aa (dv 5) av))) (aa (rC (lC T) hr (aa (dv 3) (aa (au (dv 6) (bf T.kn rfl)) av))) av))))
 (ai (fB (i:=4) rfl (Qd rfl) (rC (lC T) hr (aa (au (dv 1) (dv 5)) (aa (Fw (bG (rC (zj T) hr (aa (bf T.jS rfl) (aa (dv 7) av)))) (dv 7) (bf T.jS rfl)) av))))
 ar))
 ar)
 ar))
 (ai (aY (rC (iI T) hr (aa (dv 4) av)))
 ar))))
def ph(T:Txt K mg t):dE P w K mg base CX0 10 (t.A 47) (t.Q 47) ["web","adds","purse","mix","rate"] (spD K 5 c7) "claim_of_mix" (top 68) :=
 oD T.g sc (i:=47) rfl λ_ _ _ _ H _ _ hr=>(
 (ai (dY (rC (pf T) hr (aa (dv 0) (aa (dv 1) av))))
 (ai (dY (rC (nI T) hr (aa (dv 2) av)))
 (ai (dY (rC (jF T) hr (aa (dv 0) (aa (dv 3) av))))
 (ai (dY (rC (lF T) hr (aa (dv 4) av)))
 (ai (br (i:=5) (nd 47) rfl (Qd rfl) (rC (iI T) hr (aa (jR (nV ["way","share","web"] 2 [0] rfl (eS (dv 3)) (jB (by decide)) (λs H C fp pn=>⟨λHe η=>(fU rfl (bE (i:=0) (show Rk (["way","share","web"]:al) from by decide) rfl (Qd rfl) (bE (i:=1) (show Rk (["way","share","web"]:al) from by decide) rfl (Qd rfl) dZ))),fH,(rC (lC T) hr (aa (dv 1) (aa (rC (vK T) hr (aa (dv 2) (aa (dv 0) av))) av)))⟩) ⟨rfl,rfl⟩ rfl rfl rfl rfl)) av)))
 (ai (aY (rC (vJ T) hr (aa (rC (vJ T) hr (aa (dv 5) (aa (rC (lC T) hr (aa (dv 4) (aa (dv 2) av))) av))) (aa (rC (nJ T) hr (aa (dv 0) (aa (dv 1) (aa (dv 3) (aa (dv 4) av))))) av))))
 ar)))))))
def dq(T:Txt K mg t):dE P w K mg base CX0 2 (t.A 48) (t.Q 48) ["_law_one","_law_other"] (spD K 2 aX) "_law_times" (top 80) :=
 oD T.g sc (i:=48) rfl λ_ _ _ _ _ _ _ hr=>(
 (ai (aY (rC (fO T) hr (aa (cp (au (dv 0) aj) (au (dv 1) aj)) (aa (cp (au (dv 0) aj) (au (dv 1) aj)) av))))
 ar))
def vL(T:Txt K mg t):dE P w K mg base CX0 1 (t.A 49) (t.Q 49) ["_law_one","_law_other"] (spD K 2 df) "_law_less" (top 79) :=
 oD T.g sc (i:=49) rfl λ_ _ _ _ _ _ _ _=>(
 (ai (aY (d7 qL (cV λ_ _ _ _=>rb _) (cp (au (dv 0) aj) (au (dv 1) aj)) (cp (au (dv 1) aj) (au (dv 0) aj)) nm))
 ar))
def uh(T:Txt K mg t):dE P w K mg base CX0 4 (t.A 50) (t.Q 50) ["_law_web_here","_law_adds_here","_law_purse","_law_mix","_law_rate"] (spD K 5 dW) "_law_claim" (top 86) :=
 oD T.g sc (i:=50) rfl λ_ _ _ _ _ _ _ hr=>(
 (ai (br (i:=5) (nd 50) rfl (Qd rfl) (rC (dq T) hr (aa (dv 4) (aa (dv 2) av))))
 (ai (br (i:=6) (nd 50) rfl (Qd rfl) (rC (iq T) hr (aa (dv 0) (aa (dv 3) av))))
 (ai (pZ QT rfl rfl T.n_range (aZ bM cH rfl T.n_len PyProof.Rows.Boot.«len» (aa (au (dv 0) aj) av)) (cm (i:=7) (nd 50) rfl (Qd rfl)) cL
 (ai (br (i:=8) (nd 50) rfl (Qd rfl) (au (au (dv 0) aj) (dv 7)))
 (ai (br (i:=5) (nd 50) rfl (Qd rfl) (rC (gh T) hr (aa (dv 5) (aa (rC (dq T) hr (aa (au (dv 6) (dv 7)) (aa (au (dv 8) aj) av))) av))))
 (ai (bT (bj pK pL (au (dv 8) aj) fE nm)
 (ai (br (i:=9) (nd 50) rfl (Qd rfl) (rC (dq T) hr (aa (dv 4) (aa (au (dv 8) aj) av))))
 (ai (bT (bG (rC (vL T) hr (aa (dv 9) (aa (au (dv 6) (dv 7)) av))))
 (ai (br (i:=10) (nd 50) rfl (Qd rfl) (rC (gh T) hr (aa (au (dv 6) (dv 7)) (aa (eB (aa (nS aj (au (dv 9) aj)) (aa (au (dv 9) aj) av))) av))))
 (ai (br (i:=5) (nd 50) rfl (Qd rfl) (rC (gh T) hr (aa (dv 5) (aa (rC (dq T) hr (aa (au (dv 1) (dv 7)) (aa (dv 10) av))) av))))
 ar))
 ar)
 ar))
 ar)
 ar))))
 (ai (aY (dv 5))
 ar)))))
def uf(T:Txt K mg t):dE P w K mg base CX0 4 (t.A 51) (t.Q 51) ["_law_state","_law_web_here","_law_mix"] (B4 K 2 eN) "_law_rates" (top 87) :=
 oM T.g sc (i:=51) rfl rfl λ_ _ _ _ _ _ _ _ _ hr=>(
 (aE (bR (E:=E0) λvs=>(br (i:=3) (nd 51) rfl (Qd rfl) (rC (iq T) hr (aa (dv 1) (aa (dv 2) av)))))
 (aE (cw (i:=4) (nd 51) rfl (Qd rfl) (ig (ig (aK (E:=E0) (dv 2)) (rM 0 (aP T) hr (aN (aK (E:=E0) (aZ bM cH rfl T.n_len PyProof.Rows.Boot.«len» (aa (dv 2) av))) aU))) (aK (E:=E0) aj)))
 (aE (cw (i:=5) (nd 51) rfl (Qd rfl) (ig (aK (E:=E0) (dv 4)) (rM 0 (aP T) hr (aN (aK (E:=E0) (aZ bM cH rfl T.n_len PyProof.Rows.Boot.«len» (aa (dv 4) av))) aU))))
 (aE (cw (i:=6) (nd 51) rfl (Qd rfl) (Fq (aN (aK (E:=E0) (eB (aa aj (aa aj av)))) (aN (rM 0 (c5 T) hr (aN (aK (E:=E0) aj) aU)) (aN (rM 0 (c5 T) hr (aN (aK (E:=E0) aj) aU)) aU)))))
 (aE (bR (E:=E0) λvs=>(br (i:=7) (nd 51) rfl (Qd rfl) (au (au (au (dv 1) aj) (dv 5)) aj)))
 (aE (bR (E:=E0) λvs=>(bT (bj pK pL (dv 7) fE nm)
 (ai (br (i:=8) (nd 51) rfl (Qd rfl) (rC (fO T) hr (aa (cp (au (au (dv 3) (dv 5)) aj) (au (dv 7) aj)) (aa (cp (au (au (dv 3) (dv 5)) aj) (au (dv 7) aj)) av))))
 (ai (br (i:=6) (nd 51) rfl (Qd rfl) (dM (dv 6) (cz (aa (dv 8) (aa (rC (dq T) hr (aa (dv 8) (aa (eB (aa aj (aa aj av))) av))) (aa (rC (dq T) hr (aa (dv 8) (aa (eB (aa aj (aa aj av))) av))) av))))))
 ar))
 ar))
 (aE (dP (E:=E0) (dv 6))
 bF))))))))
def ue(T:Txt K mg t):dE P w K mg base CX0 11 (t.A 52) (t.Q 52) ["_law_state","_law_web_here","_law_mix"] (B4 K 2 eM) "_law_right" (top 89) :=
 oM T.g sc (i:=52) rfl rfl λ_ _ _ _ H He _ _ _ hr=>(
 (aE (cw (i:=3) (nd 52) rfl (Qd rfl) (rM 0 (vM T) hr (aN (aK (E:=E0) (dv 1)) aU)))
 (aE (cw (i:=4) (nd 52) rfl (Qd rfl) (rM 0 (c5 T) hr (aN (aK (E:=E0) aj) aU)))
 (aE (bR (E:=E0) λvs=>(br (i:=5) (nd 52) rfl (Qd rfl) (aZ (u4 hr) BJ rfl T.n_repr PyProof.Rows.Boot.«repr» (aa (cz (aa (dv 1) (aa (dv 3) (aa (dv 4) (aa (dv 2) av))))) av))))
 (aE (bR (E:=E0) λvs=>(br (i:=6) (nd 52) rfl (Qd rfl) (rC (iq T) hr (aa (dv 1) (aa (dv 2) av)))))
 (aE (bR (E:=E0) λvs=>(fA (i:=7) (nd 52) rfl (Qd rfl) (rF (oy T) hr (aa (dv 1) (aa (dv 2) av)))))
 (aE (oh (mU (E:=E0) (DW.dt (da (bL (bG (bU dG rfl T.n_isinstance rfl T.n_list PyProof.Rows.Boot.«list» (dv 7)))) (bz (bj (eA hr.units) gJ (dv 7) (dv 6) nm)))))
 (aE (dP (E:=E0) fZ)
 bF)
 bF)
 (aE (oh (mU (E:=E0) (bj (eA hr.units) gJ (jR (nV ["_law_one"] 1 [] rfl (eS (dv 7)) (eG (by decide)) (λs H C fp pn=>⟨λHe η=>(cm (i:=0) (show Rk (["_law_one"]:al) from by decide) rfl (Qd rfl)),(wt (bL (bG (rC (iK T) hr (aa (dv 0) av))))),(dv 0)⟩) ⟨rfl,rfl⟩ rfl rfl rfl rfl)) (cz av) nm))
 (aE (dP (E:=E0) fZ)
 bF)
 bF)
 (aE (bR (E:=E0) λvs=>(fB (i:=7) rfl (Qd rfl) fE))
 (aE (lu (E:=E0) QT rfl (Hh (rM 0 (uf T) hr (aN (aK (E:=E0) (dv 1)) (aN (aK (E:=E0) (dv 2)) aU)))) (λvs=>(cm (i:=8) (nd 52) rfl (Qd rfl))) cL
 (aE (bR (E:=E0) λvs=>(br (i:=9) (nd 52) rfl (Qd rfl) (rC (ph T) hr (aa (dv 1) (aa (dv 3) (aa (dv 4) (aa (dv 2) (aa (dv 8) av))))))))
 (aE (oh (mU (E:=E0) (DW.dt (da (bL (bG (rC (iK T) hr (aa (dv 9) av)))) (bz (bj (eA hr.units) gJ (dv 9) (rC (uh T) hr (aa (dv 1) (aa (dv 3) (aa (dv 4) (aa (dv 2) (aa (dv 8) av)))))) nm)))))
 (aE (dP (E:=E0) fZ)
 bF)
 bF)
 bF)))
 (aE (dP (E:=E0) (iz (d7 (du hr.units) e9 (rC (zi T) hr (aa (dv 1) (aa (dv 2) av))) (dv 6) nm) (iy (d7 (du hr.units) e9 (aZ (u4 hr) BJ rfl T.n_repr PyProof.Rows.Boot.«repr» (aa (cz (aa (dv 1) (aa (dv 3) (aa (dv 4) (aa (dv 2) av))))) av)) (dv 5) nm))))
 bF)))))))))))
def qT(T:Txt K mg t):dE P w K mg base CX0 2 (t.A 53) (t.Q 53) ["_law_state","_law_some"] (B4 K 1 eg) "_law_shares" (top 84) :=
 oM T.g sc (i:=53) rfl rfl λ_ _ _ _ H He _ _ _ hr=>(
 (aE (bR (E:=E0) λvs=>(fA (i:=2) (nd 53) rfl (Qd rfl) (HQ rfl T.n_list (aa (dv 1) av))))
 (aE (bR (E:=E0) λvs=>(fA (i:=3) (nd 53) rfl (Qd rfl) (ix av)))
 (aE (lu (E:=E0) QT rfl (uG rfl T.n_range (Ft (E:=E0) (u5 rfl) FD rfl T.n_min PyProof.Rows.Boot.«min» (aN (aK (E:=E0) (aZ bM cH rfl T.n_len PyProof.Rows.Boot.«len» (aa (dv 1) av))) (aN (kZ (aK (E:=E0) aj) (rM 0 (aP T) hr (aN (aK (E:=E0) aj) aU))) aU)))) (λvs=>(cm (i:=4) (nd 53) rfl (Qd rfl))) cL
 (aE (B5 (i:=5) (j:=2) (nd 53) rfl (Qd rfl) rfl (Qd rfl) (rM 0 (aP T) hr (aN (HN (E:=E0) (aZ bM cH rfl T.n_len PyProof.Rows.Boot.«len» (aa (dv 2) av))) aU)))
 (aE (cw (i:=6) (nd 53) rfl (Qd rfl) (ig (aK (E:=E0) (cz (aa aj (aa aj (aa (wu aj aj) av))))) (rM 0 (aP T) hr (aN (aK (E:=E0) aj) aU))))
 (aE (nA (i:=3) rfl (Qd rfl) (Fq (aN (aK (E:=E0) (dv 5)) (aN (kZ (aK (E:=E0) aj) (rM 0 (aP T) hr (aN (aK (E:=E0) (dv 6)) aU))) aU))))
 bF))))
 (aE (bR (E:=E0) λvs=>(zN 3 (br (i:=7) (nd 53) rfl (UK rfl) (aZ (CL rfl) K4 rfl T.n_sum PyProof.Rows.Boot.«sum» (aa (jR (nV ["_law_way","_law_many"] 2 [] rfl (eS (dv 3)) (jB (by decide)) (λs H C fp pn=>⟨λHe η=>(fU rfl (bE (i:=0) (show Rk (["_law_way","_law_many"]:al) from by decide) rfl (Qd rfl) (bE (i:=1) (show Rk (["_law_way","_law_many"]:al) from by decide) rfl (Qd rfl) dZ))),fH,(dv 1)⟩) ⟨rfl,rfl⟩ rfl rfl rfl rfl)) av)))))
 (aE (dP (E:=E0) (jR (nV ["_law_way","_law_many","_law_total"] 2 [7] rfl (eS (dv 3)) (jB (by decide)) (λs H C fp pn=>⟨λHe η=>(fU rfl (bE (i:=0) (show Rk (["_law_way","_law_many","_law_total"]:al) from by decide) rfl (Qd rfl) (bE (i:=1) (show Rk (["_law_way","_law_many","_law_total"]:al) from by decide) rfl (Qd rfl) dZ))),fH,(eB (aa (dv 0) (aa (rC (fO T) hr (aa (dv 1) (aa (dv 2) av))) av)))⟩) ⟨rfl,rfl⟩ rfl rfl rfl rfl)))
 bF))))))
def ok_law(T:Txt K mg t):dE P w K mg base CX0 12 (t.A 54) (t.Q 54) ["_law_script"] (spD K 1 m_law) "law" (top 90) :=
 oD T.g sc (i:=54) rfl λ_ _ _ _ _ _ _ hr=>(
 (ai (pZ QT rfl rfl T.n_range (aZ (CM rfl) K5 rfl T.n_max PyProof.Rows.Boot.«max» (aa aj (aa (aZ (u5 rfl) FD rfl T.n_min PyProof.Rows.Boot.«min» (aa (aZ bM cH rfl T.n_len PyProof.Rows.Boot.«len» (aa (dv 0) av)) (aa aj av))) av))) (cm (i:=1) (nd 54) rfl (Qd rfl)) cL
 (CB (i:=2) (nd 54) rfl (Qd rfl) (rF (qU T) hr (aa (dv 0) (aa (dv 1) av))) λa=>(aE (cw (i:=3) (nd 54) rfl (Qd rfl) (rM 2 (xD T) hr (aN (aK (E:=E0) (au (cz (aa aj (aa aj (aa aj av)))) (dv 1))) (aN (aK (E:=E0) (au (cz (aa aj (aa aj (aa aj av)))) (dv 1))) aU))))
 (aE (bR (E:=E0) λvs=>(br (i:=4) (nd 54) rfl (Qd rfl) (rC (nK T) hr (aa (dv 3) (aa (cz av) av)))))
 (aE (oh (LJ.dt (HK (mU (E:=E0) (bj (eA hr.units) gJ (dv 4) (cz av) nm)) (HJ (HM (HL (rM 2 (ue T) hr (aN (aK (E:=E0) (dv 3)) (aN (rM 2 (qT T) hr (aN (aK (E:=E0) (dv 4)) aU)) aU))))))))
 (aE (dP (E:=E0) fZ)
 bF)
 bF)
 bF)))))
 (ai (aY fZ)
 ar)))
end
def txt_mk{h:Qr}(X:K.In h)(G:h.Ns Qt mg)(qs:QAs K rows [a0,a1,a2,a3,a4,a5,a6,a7,a8,a9,a10,a11,a12,a13,a14,a15,a16,a17,a18,a19,a20,a21,a22,a23,a24,a25,a26,a27,a28,a29,a30,a31,a32,a33,a34,a35,a36,a37,a38,a39,a40,a41,a42,a43,a44,a45,a46,a47,a48,a49,a50,a51,a52,a53,a54])
  (z_abs:Rj K Qt "abs"=some none)
  (z_all:Rj K Qt "all"=some none)
  (z_bool:Rj K Qt "bool"=some none)
  (z_enumerate:Rj K Qt "enumerate"=some none)
  (z_int:Rj K Qt "int"=some none)
  (z_isinstance:Rj K Qt "isinstance"=some none)
  (z_len:Rj K Qt "len"=some none)
  (z_list:Rj K Qt "list"=some none)
  (z_max:Rj K Qt "max"=some none)
  (z_min:Rj K Qt "min"=some none)
  (z_range:Rj K Qt "range"=some none)
  (z_repr:Rj K Qt "repr"=some none)
  (z_str:Rj K Qt "str"=some none)
  (z_sum:Rj K Qt "sum"=some none)
  (z_tuple:Rj K Qt "tuple"=some none)
  (oJ:ur K "CutError" cR)
  (qc:BQ K "NoWay" cJ)
  
  
  (wN:K.lookup cJ=some (excClassObj MD Mi cJ AS Nm [.ref cR,.type "ValueError",.type "Exception",.type "BaseException",.type "object"] MW L6 L4 Np LB Nj MR MQ MP MO MN "ValueError.__new__")) (wM:K.lookup AS=some ⟨Nl,Nd,.dict E4 M4,L5⟩) (wO:E4.toList.all IH=true) (wL:Rj K AS "__init__"=some (some (.ref eR)))
  (DN:W.isFn K (.ref eR)=true) (xq:K.lookup eR=some ⟨Lw,Lv,.func (Sk "__init__" "NoWay.__init__" (defArgs iE) (defBody iE) (defScope iE) .none Ly Lz Lu LD CK LA),Ls⟩) (xp:UI K CK "NoWay.__init__"=true) (xo:SN K (.ref eR)=true)
  (BV:SA K (.ref cJ) "__setattr__"=some (some (.builtin "object.__setattr__"))) (BW:Uy K cJ=true) (vt:SA K (.ref cJ) "at"=some none)
  (ll:Vb K cR [.type "ValueError",.type "Exception",.type "BaseException",.type "object"] "ValueError.__new__"=true) (vq:W.readsIn K cR (.type "type")=true) (vv:W.findCls K (.ref cR) (.type "type") "__init__"=some (.val (.builtin "ValueError.__init__"))) (vp:Uw K (.ref cR) "__getattribute__"=some (some (.builtin "type.__getattribute__")))
  (vH:LG K cJ [(cJ,true)])
  (o7:Rj K Qt "FEWEST_PLACES"=some (some (.int 2 CV)))
  (F8:Rj K Qt "FIRST"=some (some (.int 2 ND)))
  (Jn:Rj K Qt "LAST"=some (some (.int 3 NY)))
  (C3:Rj K Qt "LENGTH"=some (some (.int 3 LP)))
  (BU:Rj K Qt "LETTERS"=some (some (.str "abcdefghijklmnopqrstuvwxyz" Lo)))
  (p9:Rj K Qt "LONGEST_NAME"=some (some (.int 8 Dl)))
  (ua:Rj K Qt "MOST_PLACES"=some (some (.int 7 FY)))
  (wK:Rj K Qt "MOST_TIES"=some (some (.int 14 Ir)))
  (C2:Rj K Qt "NOUGHT"=some (some (.ref DP))) (Dc:K.lookup DP=some Ea) (Dd:∃od its n sl vs,Ea=⟨.type "tuple",od,.seq its n,sl⟩/\bA vs its.toList/\its.size<=sizeLine/\∀H,Reps K H [.int 0,.int 1] vs)
  (LK:Rj K Qt "ONE"=some (some (.int 0 OT)))
  (F7:Rj K Qt "OTHER"=some (some (.int 1 NC)))
  (C1:Rj K Qt "PLACES"=some (some (.int 0 LO)))
  (Jm:Rj K Qt "TIES"=some (some (.int 1 NX)))
  (F6:Rj K Qt "WHOLE"=some (some (.ref GQ))) (Gi:K.lookup GQ=some G8) (Gp:∃od its n sl vs,G8=⟨.type "tuple",od,.seq its n,sl⟩/\bA vs its.toList/\its.size<=sizeLine/\∀H,Reps K H [.int 1,.int 1] vs)
  (Jl:Rj K Qt "WORD"=some (some (.int 2 NW)))
  (F5:Rj K Qt "WORDS"=some (some (.ref GP))) (Gh:K.lookup GP=some G7) (Gn:∃od its n sl vs,G7=⟨.type "tuple",od,.seq its n,sl⟩/\bA vs its.toList/\its.size<=sizeLine/\∀H,Reps K H [.str "one",.str "both"] vs)
  (F4:Rj K Qt "WORTH"=some (some (.int 4 NB))) :
  ∃t:Adr,Txt K mg t/\t.A 54=a54/\∃kV doc pm an cdv ct,t.Q 54=Sk "law" "law" (defArgs (top 90)) (defBody (top 90)) (defScope (top 90)) .none kV doc pm an cdv ct:=by
 obtain⟨Q,hQ⟩:=Iq X G bn qs;have D_law:=(hQ 54 _ rfl).2;refine⟨⟨eR,_,cR,cJ,λi=>[a0,a1,a2,a3,a4,a5,a6,a7,a8,a9,a10,a11,a12,a13,a14,a15,a16,a17,a18,a19,a20,a21,a22,a23,a24,a25,a26,a27,a28,a29,a30,a31,a32,a33,a34,a35,a36,a37,a38,a39,a40,a41,a42,a43,a44,a45,a46,a47,a48,a49,a50,a51,a52,a53,a54].getD i 0,Q⟩,⟨λi r h=>(hQ i r h).1,Ro X G z_abs,Ro X G z_all,Ro X G z_bool,Ro X G z_enumerate,Ro X G z_int,Ro X G z_isinstance,Ro X G z_len,Ro X G z_list,Ro X G z_max,Ro X G z_min,Ro X G z_range,Ro X G z_repr,Ro X G z_str,Ro X G z_sum,Ro X G z_tuple,RX X G oJ.ns,oJ,RX X G qc.i.ns,qc.i,qc,v8 xq xp xo,?jU,C4 wN wM wO wL ll,Jo (C4 wN wM wO wL ll) BV BW (Ed vt (Hd)),DN,⟨vq,vv,vp⟩,vH,?fW,?m5,?n6,?mZ,?nZ,?gU,?iC,?jT,?jS,?tw,?jj,?iT,?iB,?wC,?tq,?wA,?kn⟩,rfl,D_law⟩
 case jU=>exact(v8 (st:=iE) xq xp xo).binds λ_ _ _ _ _ _ us hl=>by obtain⟨_,_,rfl⟩:=Oq hl;rfl
 case fW=>exact dX (RX X G o7)
 case m5=>exact dX (RX X G F8)
 case n6=>exact dX (RX X G Jn)
 case mZ=>exact dX (RX X G C3)
 case nZ=>exact Hr (RX X G BU)
 case gU=>exact dX (RX X G p9)
 case iC=>exact dX (RX X G ua)
 case jT=>exact dX (RX X G wK)
 case jS=>
  obtain⟨od,its,n,sl,vs,rfl,h1,h2,h3⟩:=Dd;exact vV (RX X G C2) Dc h1 h2 h3
 case tw=>exact dX (RX X G LK)
 case jj=>exact dX (RX X G F7)
 case iT=>exact dX (RX X G C1)
 case iB=>exact dX (RX X G Jm)
 case wC=>
  obtain⟨od,its,n,sl,vs,rfl,h1,h2,h3⟩:=Gp;exact vV (RX X G F6) Gi h1 h2 h3
 case tq=>exact dX (RX X G Jl)
 case wA=>
  obtain⟨od,its,n,sl,vs,rfl,h1,h2,h3⟩:=Gn;exact vV (RX X G F5) Gh h1 h2 h3
 case kn=>exact dX (RX X G F4)
def txt_wr{R:Adr->Prop}(h:∃t:Adr,Txt K mg t/\t.A 54=a/\R t):∃t:Adr,Txt K mg t/\mg "law"=some (.ref (t.A 54))/\R t:=h.elim λt ⟨T,_,r⟩=>⟨t,T,(T.g 54 _ rfl).g,r⟩
end K54
namespace K15
open PySem L2 DL Com Bor Pth
open K11 (nums ways pr there oS)
def gA(T:oZ zs t){a b:Qu}:there t a=some b↔(a,b)∈ways t:=by
 have ne:=T.ne;unfold there ways;rcases T.w with e|e
 .rw[if_pos e]
  constructor
  .intro h
   split at h
   .next h1=>cases h;subst h1;exact Qn.mpr rfl
   .split at h
    .next h2=>rw[e]at h2;exact absurd h2.2 (by decide)
    .cases h
  .intro h
   have:=Qn.mp h;cases this;rw[if_pos rfl]
 .have e1:t.w≠"one":=by rw[e];decide
  rw[if_neg e1];constructor
  .intro h
   split at h
   .next h1=>cases h;subst h1;exact Qq
   .split at h
    .next h2=>cases h;rw[←h2.1];exact Qi _ (Qn.mpr rfl)
    .cases h
  .intro h
   rcases Qs.mp h with h|h
   .cases h;rw[if_pos rfl]
   .have:=Qn.mp h
    cases this;rw[if_neg ne,if_pos ⟨rfl,e⟩]
structure gq where
 y:am
 s:al
 z:Qu
noncomputable def gq.seen(e:gq):al:=e.s++[e.z]
noncomputable def n8(e:gq):D:=.tup [.lst (nums e.y),.lst (e.seen.map D.str)]
structure iZ (w:j7) (ks:am) (e:gq):Prop where
 wk:z9 w ks w.fi e.y e.z
 nd:e.seen.Nodup
 pl:∀p∈e.seen,p∈w.ps
 ln:e.y.length=e.s.length
noncomputable def kid(w:j7) (ks:am) (e:gq) (n:Nat):List gq:=match w.ts[n]? with
 |none=>[]
 |some t=>match there t e.z with
  |none=>[]
  |some b=>if b∉e.seen/\n∉ks then[⟨e.y++[n],e.seen,b⟩] else[]
noncomputable def kids(w:j7) (ks:am) (e:gq):Nat->List gq
 |0=>[]
 |k+1=>kids w ks e k++kid w ks e k
def kid_le:(kid w ks e n).length<=1:=by
 unfold kid;split
 .simp
 .split
  .simp
  .split<;>simp
theorem vW:∀k,(kids w ks e k).length<=k
 |0=>Ql _
 |k+1=>by
  have h1:=vW (w:=w) (ks:=ks) (e:=e) k;have h2:=kid_le (w:=w) (ks:=ks) (e:=e) (n:=k);unfold kids;rw[Qz];omega
theorem fP:∀{k:Nat},c∈kids w ks e k↔∃n,n<k/\c∈kid w ks e n
 |0=>by simp[kids]
 |k+1=>by
  unfold kids;rw[QQ,fP (k:=k)];constructor
  .rintro(⟨n,h1,h2⟩|h)
   .exact⟨n,by omega,h2⟩
   .exact⟨k,by omega,h⟩
  .rintro⟨n,h1,h2⟩
   by_cases h:n=k
   .subst h;exact .inr h2
   .exact .inl ⟨n,by omega,h2⟩
def mem_kid(W:cq w):c∈kid w ks e n↔∃b,FR w ks n e.z b/\b∉e.seen/\c=⟨e.y++[n],e.seen,b⟩:=by
 unfold FR;cases ht:w.ts[n]? with
 |none=>
  have hk:kid w ks e n=[]:=by unfold kid;rw[ht]
  rw[hk];simp
 |some t=>
  have T:=W.ts t (Qh ht);cases hh:there t e.z with
  |none=>
   have hk:kid w ks e n=[]:=by unfold kid;rw[ht];simp only[hh]
   rw[hk];simp only[R5,false_iff];rintro⟨b,⟨u,h1,h2,h3⟩,_⟩;cases h1;rw[(gA T).mpr h3]at hh;cases hh
  |some b=>
   have hb:=(gA T).mp hh;have hk:kid w ks e n=if b∉e.seen/\n∉ks then[⟨e.y++[n],e.seen,b⟩] else[]:=by unfold kid;rw[ht];simp only[hh]
   rw[hk];constructor
   .intro h
    split at h
    .next h1=>exact⟨b,⟨t,rfl,h1.2,hb⟩,h1.1,Qn.mp h⟩
    .cases h
   .rintro⟨b',⟨u,h1,h2,h3⟩,h4,rfl⟩
    cases h1;have:=(gA T).mpr h3;rw[hh]at this;cases this;rw[if_pos ⟨h4,h2⟩];exact Qn.mpr rfl
def EF(W:cq w)(h:iZ w ks e)(hc:c∈kid w ks e n):iZ w ks c/\c.s.length=e.s.length+1:=by
 obtain⟨b,g,hb,rfl⟩:=(mem_kid W).mp hc;obtain⟨t,t1,t2,t3⟩:=g;have T:=W.ts t (Qh t1);have hs:(⟨e.y++[n],e.seen,b⟩:gq).seen=e.seen++[b]:=rfl;refine⟨⟨.snoc h.wk ⟨t,t1,t2,t3⟩,?_,?_,?_⟩,?_⟩
 .rw[hs,SU]
  refine⟨h.nd,by simp,λa ha b' hb' z=>?_⟩;have:=Qn.mp hb';subst this;subst z;exact hb ha
 .intro p hp
  rw[hs,QQ]at hp;rcases hp with hp|hp
  .exact h.pl p hp
  .rw[Qn.mp hp];exact(Aj T t3).2.1
 .show(e.y++[n]).length=e.seen.length
  unfold gq.seen;rw[Qz,Qz,h.ln];rfl
 .show e.seen.length=_
  unfold gq.seen;rw[Qz];rfl
def iZ.len(h:iZ w ks e):e.s.length+1<=w.ps.length:=by
 have h1:e.seen.length<=w.ps.length:=by
  have:=Rk.length_le_of_subset h.nd (λp hp=>h.pl p hp);exact this
 unfold gq.seen at h1;rw[Qz]at h1;exact h1
inductive jy (w:j7) (ks:am):gq->am->Prop where
 |here {e:gq}:e.z=w.la->jy w ks e e.y
 |step {e:gq}{n:Nat}{b:Qu}{p:am}:e.z≠w.la->FR w ks n e.z b->b∉e.seen->jy w ks ⟨e.y++[n],e.seen,b⟩ p->jy w ks e p
def E1(h:jy w ks e p)(hl:e.z=w.la):p=e.y:=by
 cases h with|here _=>rfl|step h1 _ _ _=>exact absurd hl h1
def Bh(W:cq w)(h:jy w ks e p)(hl:e.z≠w.la):∃c∈kids w ks e w.ts.length,jy w ks c p:=by
 cases h with
 |here h=>exact absurd h hl
 |step h1 h2 h3 h4=>
  refine⟨_,fP.mpr ⟨_,?_,(mem_kid W).mpr ⟨_,h2,h3,rfl⟩⟩,h4⟩;obtain⟨t,t1,_⟩:=h2;exact(Qa.mp t1).1
open K11 (nums ways pr there oS lq gL eq_str cW)
def BM(h:ds.length<line):K9 i ρ ds d=.ok (.nx (ρ.set i (.ow (.lst (ds++[d]))))):=if_pos h
def Eh(h:ds≠[])(hs:ds.all (bq 39)=true):gS (.lst ds) (.lst [])=.ok (.bl true):=by
 cases ds with
 |nil=>exact absurd rfl h
 |cons d ds=>
  unfold gS;rw[if_pos ⟨hs,rfl⟩];rfl
def xf{S:List gq}:(S.map n8).all (bq 39)=true:=QF.mpr λd hd=>by
 obtain⟨e,_,rfl⟩:=QO.mp hd;have h1:bq 38 (.lst (nums e.y))=true:=K11.shal_nums (m:=37);have h2:bq 38 (.lst (e.seen.map D.str))=true:=nC (n:=37);show(bq 38 (.lst (nums e.y))&&(bq 38 (.lst (e.seen.map D.str))&&true))=true;rw[h1,h2];rfl
noncomputable abbrev kB:Ev->ak Fl :=
 (aA (bJ 7 (aq (af (ag (ag (ae 0) (dC (.int 1)) aO) (ae 6) aO) (af (ag (ae 5) (bV (dC (.int 1)) pA) aO) aC)) bW))
 (aA (er (gZ (ag (ae 7) (dC (.non)) ij) (gZ (ag (ae 7) (ae 5) dy) (ag (ae 6) (ae 1) dy)))
 (aA (cU 2 (aq (af (ag (ae 4) (aq (af (ae 6) aC) b9) cB) (af (ag (ae 5) (aq (af (ae 7) aC) b9) cB) aC)) gj))
 aw)
 aw)
 aw))
noncomputable abbrev wB:Ev->ak Fl :=
 (aA (i9 [4,5] 2)
 (aA (er (ag (ag (ae 5) (bV (dC (.int 1)) pA) aO) (ag (ae 0) (dC (.int 3)) aO) kH)
 (aA (cU 3 (ae 4))
 aw)
 (aA (qw (aq (af (ag (ae 0) (dC (.int 1)) aO) aC) (m1 cT)) (b6 6)
 kB)
 aw))
 aw))
noncomputable def tQ(w:j7) (ks:am) (S:List gq) (F:List (am)) (x4 x5 x6 x7:Sl):Ev:=[.sh (aS w),.sh (eJ ks),.ow (.lst (S.map n8)),.ow (.lst (F.map λp=>.lst (nums p))),x4,x5,x6,x7]
def Ci{n:Nat}:nums p++[D.int (n:Int)]=nums (p++[n]):=by
 unfold nums;rw[QI];rfl
def nums_len:(nums p).length=p.length:=by unfold nums;rw[P7]
def EE(W:cq w)(B:iZ w ks e){S:List gq}(hS:S.length<line)(hk:k<w.ts.length)(h7:x7=.no∨∃d,x7=.sh d) :
  ∃y,(y=.no∨∃d,y=.sh d)/\kB (tQ w ks S F (.sh (.lst (nums e.y))) (.sh (.lst (e.seen.map D.str))) (.sh (.int (k:Int))) x7)=.ok (.nx (tQ w ks (S++kid w ks e k) F (.sh (.lst (nums e.y))) (.sh (.lst (e.seen.map D.str))) (.sh (.int (k:Int))) y)):=by
 have i1:aO (aS w) (.int 1)=.ok (.lst (w.ts.map bI)):=rfl;have ht:w.ts[k]?=some w.ts[k]:=P5 hk;have hti:=nu ht;have hix:aO (.lst (e.seen.map D.str)) (.int (-1))=.ok (.str e.z):=cW;have n7:=W.n7;have hl:=B.len;have e2:=lq (t:=w.ts[k]) (z:=e.z);cases hth:there w.ts[k] e.z with
 |none=>
  rw[hth]at e2;simp only[oS]at e2;have hkid:kid w ks e k=[]:=by unfold kid;rw[ht];simp only[hth]
  refine⟨.sh .non,.inr ⟨_,rfl⟩,?_⟩;rw[hkid,QN];unfold tQ kB;open_line with[i1,hti,hix,e2]
 |some b=>
  rw[hth]at e2;simp only[oS]at e2;have hkid:kid w ks e k=if b∉e.seen/\k∉ks then[⟨e.y++[k],e.seen,b⟩] else[]:=by unfold kid;rw[ht];simp only[hth]
  refine⟨.sh (.str b),.inr ⟨_,rfl⟩,?_⟩;have hks:eJ ks=.lst (ks.map λ(k:Nat)=>D.int (k:Int)):=rfl;rw[hkid]
  by_cases h3:b∈e.seen
  .rw[if_neg (λz=>z.1 h3),QN]
   unfold tQ kB;open_line with[i1,hti,hix,e2,fu,decide_eq_true h3]
  .by_cases h4:k∈ks
   .rw[if_neg (λz=>z.2 h4),QN]
    unfold tQ kB;rw[hks];open_line with[i1,hti,hix,e2,fu,decide_eq_false h3,gL,decide_eq_true h4]
   .rw[if_pos ⟨h3,h4⟩]
    have hl1:decide ((nums e.y).length+1<=1000)=true:=decide_eq_true (by rw[nums_len,B.ln];omega);have hl2:decide ((e.seen.map D.str).length+1<=1000)=true:=decide_eq_true (by rw[P7];unfold gq.seen;rw[Qz];show e.s.length+1+1<=1000;omega);have a1:cB (.lst (nums e.y)) (.lst [.int (k:Int)])=.ok (.lst (nums (e.y++[k]))):=by rw[jg hl1,Ci]
    have a2:cB (.lst (e.seen.map D.str)) (.lst [.str b])=.ok (.lst ((e.seen++[b]).map D.str)):=by rw[jg hl2,QI];rfl
    have hm:(S++[(⟨e.y++[k],e.seen,b⟩:gq)]).map n8=S.map n8++[.tup [.lst (nums (e.y++[k])),.lst ((e.seen++[b]).map D.str)]]:=by rw[QI];rfl
    have hSl:(S.map n8).length<line:=by rw[P7];exact hS
    unfold tQ kB;rw[hks,hm];open_line with[i1,hti,hix,e2,fu,decide_eq_false h3,gL,decide_eq_false h4,a1,a2,BM hSl]
def Cp(W:cq w)(B:iZ w ks e){S:List gq}(hS:S.length+14<line)(h7:x7=.no∨∃d,x7=.sh d) :
  ∃y6 y7,(y7=.no∨∃d,y7=.sh d)/\cg (b6 6) kB (DL.intsFrom 0 w.ts.length) (tQ w ks S F (.sh (.lst (nums e.y))) (.sh (.lst (e.seen.map D.str))) x6 x7)=.ok (.nx (tQ w ks (S++kids w ks e w.ts.length) F (.sh (.lst (nums e.y))) (.sh (.lst (e.seen.map D.str))) y6 y7)):=by
 have t14:=W.t14;obtain⟨ρ',h1,y6,y7,rfl,h2⟩:=pQ (i:=6) (body:=kB) (n:=w.ts.length)
  (λk ρ=>∃y6 y7,ρ=tQ w ks (S++kids w ks e k) F (.sh (.lst (nums e.y))) (.sh (.lst (e.seen.map D.str))) y6 y7/\(y7=.no∨∃d,y7=.sh d)) (by
   rintro k hk ρ ⟨y6,y7,rfl,h7⟩;obtain⟨y,hy,e1⟩:=EE W B (S:=S++kids w ks e k) (F:=F) (by
    have:=vW (w:=w) (ks:=ks) (e:=e) k;rw[Qz];omega) hk h7
   refine⟨_,e1,.sh (.int (k:Int)),y,?_,hy⟩;rw[show kids w ks e (k+1)=kids w ks e k++kid w ks e k from rfl,←Uo])
  (ρ:=tQ w ks S F (.sh (.lst (nums e.y))) (.sh (.lst (e.seen.map D.str))) x6 x7) ⟨x6,x7,by rw[show kids w ks e 0=[] from rfl,QN],h7⟩
 exact⟨y6,y7,h2,h1⟩
def KH(h:ρ[i]?=some (.ow (.lst (ds++[d]))))(hp:gf is.length d=some es):i9 is i ρ=.ok (.nx (dr (ρ.set i (.ow (.lst ds))) is es)):=by
 unfold i9;rw[h];show pE is i ρ (ds++[d])=_;unfold pE;rw[List.getLast?_concat];simp only;rw[hp];simp only;rw[List.dropLast_concat]
def wV(W:cq w)(B:iZ w ks e){S:List gq}(hS:S.length+14<line)(hF:F.length<line)(h7:x7=.no∨∃d,x7=.sh d) :
  ∃y4 y5 y6 y7,(y7=.no∨∃d,y7=.sh d)/\wB (tQ w ks (S++[e]) F x4 x5 x6 x7)=.ok (.nx (tQ w ks (S++if e.z=w.la then[] else kids w ks e w.ts.length) (F++if e.z=w.la then[e.y] else[]) y4 y5 y6 y7)):=by
 have t14:=W.t14;have hm:(S++[e]).map n8=S.map n8++[n8 e]:=by rw[QI];rfl
 have hpop:i9 [4,5] 2 (tQ w ks (S++[e]) F x4 x5 x6 x7)=.ok (.nx (tQ w ks S F (.sh (.lst (nums e.y))) (.sh (.lst (e.seen.map D.str))) x6 x7)):=by
  rw[KH (ds:=S.map n8) (d:=n8 e) (es:=[.lst (nums e.y),.lst (e.seen.map D.str)]) (by rw[←hm];rfl) rfl];rfl
 have hix:aO (.lst (e.seen.map D.str)) (.int (-1))=.ok (.str e.z):=cW;have i1:aO (aS w) (.int 1)=.ok (.lst (w.ts.map bI)):=rfl;have i3:aO (aS w) (.int 3)=.ok (.str w.la):=rfl
 by_cases hz:e.z=w.la
 .simp only[if_pos hz]
  refine⟨.sh (.lst (nums e.y)),.sh (.lst (e.seen.map D.str)),x6,x7,h7,?_⟩;have hFl:(F.map λp=>D.lst (nums p)).length<line:=by rw[P7];exact hF
  unfold wB;rw[kW,hpop];unfold tQ;rw[QN,QI];open_line with[hix,i3,eq_str,decide_eq_true hz,BM hFl]
 .simp only[if_neg hz]
  obtain⟨y6,y7,hy,hl⟩:=Cp W B hS (F:=F) (x6:=x6) h7;refine⟨.sh (.lst (nums e.y)),.sh (.lst (e.seen.map D.str)),y6,y7,hy,?_⟩;have hlen:cT (.lst (w.ts.map bI))=.ok (.int w.ts.length):=by rw[cX,P7]
  have hR:∀ρ,Bc (b6 6) kB ρ (.int (w.ts.length:Int))=cg (b6 6) kB (DL.intsFrom 0 w.ts.length) ρ:=λρ=>lN (by omega);unfold wB;rw[kW,hpop,QN];unfold tQ at hl ⊢;open_line with[hix,i1,i3,eq_str,decide_eq_false hz,hlen,hR,hl]
end K15
namespace Way
open PySem L2 DL Com Bor Pth K15
open K11 (nums ways pr there oS)
noncomputable def one(t:vk) (z:Qu):Nat:=if(there t z).isSome then 1 else 0
noncomputable def km(ts:List vk) (z:Qu):Nat:=(ts.map λt=>one t z).sum
noncomputable def Pr(ts:List vk) (R:al):Nat:=R.foldr (λu n=>(1+km ts u)*n) 1
theorem Ab:∀R,1<=Pr ts R
 |[]=>Ql _
 |u::R=>by
  have:=Ab (ts:=ts) R;show 1<=(1+km ts u)*Pr ts R;exact Nat.mul_pos (by omega) this
theorem Ac{ts:List vk}{b:Qu}:∀{R:al},R.Nodup->b∈R->Pr ts R=(1+km ts b)*Pr ts (R.filter λu=>decide (u≠b))
 |[],_,h=>by cases h
 |u::R,nd,h=>by
  rw[RP]at nd
  by_cases e:u=b
  .subst e
   have hf:(u::R).filter (λv=>decide (v≠u))=R:=by
    rw[List.filter_cons,if_neg (by simp)];exact List.filter_eq_self.mpr λv hv=>decide_eq_true λz=>nd.1 (z▸hv)
   rw[hf];rfl
  .have hb:b∈R:=by
    rcases Qs.mp h with z|z
    .exact absurd z.symm e
    .exact z
   rw[List.filter_cons,if_pos (decide_eq_true e)];show(1+km ts u)*Pr ts R=(1+km ts b)*((1+km ts u)*Pr ts (R.filter λu=>decide (u≠b)));rw[Ac nd.2 hb,Nat.mul_left_comm]
def Hs(hn:n<w.ts.length):(kid w ks e n).length<=one w.ts[n] e.z:=by
 have ht:w.ts[n]?=some w.ts[n]:=P5 hn;unfold one kid;rw[ht];cases hh:there w.ts[n] e.z with
 |none=>simp[hh]
 |some b=>simp only[hh];split<;>simp
theorem xO:∀k,k<=w.ts.length->(kids w ks e k).length<=km (w.ts.take k) e.z
 |0,_=>R0 _
 |k+1,h=>by
  have h1:=xO (w:=w) (ks:=ks) (e:=e) k (by omega);have h2:=Hs (w:=w) (ks:=ks) (e:=e) (n:=k) (by omega);have h3:w.ts.take (k+1)=w.ts.take k++[w.ts[k]]:=by rw[List.take_succ,P5 (show k<w.ts.length by omega)];rfl
  have h4:km (w.ts.take (k+1)) e.z=km (w.ts.take k) e.z+one w.ts[k] e.z:=by
   unfold km;rw[h3,QI,Sf];simp
  rw[h4];unfold kids;rw[Qz];omega
noncomputable def un(w:j7) (e:gq):al:=w.ps.filter λu=>decide (u∉e.seen)
noncomputable def k9(w:j7) (e:gq):Nat:=(1+km w.ts e.z)*Pr w.ts (un w e)
def yx:1<=k9 w e:=Nat.mul_pos (by omega) (Ab _)
def FC(W:cq w)(h:iZ w ks e)(hc:c∈kid w ks e n):k9 w c=Pr w.ts (un w e):=by
 obtain⟨b,g,hb,rfl⟩:=(mem_kid W).mp hc;obtain⟨t,t1,t2,t3⟩:=g;have T:=W.ts t (Qh t1);have hbp:=(Aj T t3).2.1;have nd:(un w e).Nodup:=Td.filter _ W.nm.1;have hm:b∈un w e:=UE.mpr ⟨hbp,decide_eq_true hb⟩;have hu:un w ⟨e.y++[n],e.seen,b⟩=(un w e).filter λu=>decide (u≠b):=by
  unfold un;rw[List.filter_filter];refine List.filter_congr λu _=>?_;have hs:(⟨e.y++[n],e.seen,b⟩:gq).seen=e.seen++[b]:=rfl;rw[hs];simp[QQ,not_or]
  by_cases e1:u=b<;>by_cases e2:u∈e.seen<;>simp[e1,e2]
 unfold k9;rw[hu,Ac nd hm]
noncomputable def mu(w:j7) (S:List gq):Nat:=(S.map (k9 w)).sum
def zr{S S':List gq}:mu w (S++S')=mu w S+mu w S':=by unfold mu;rw[QI,Sf]
def zq:mu w [e]=k9 w e:=by simp[mu]
theorem Ej:∀{S:List gq},S.length<=mu w S
 |[]=>Ql _
 |e::S=>by
  have h2:=Ej (w:=w) (S:=S);have h1:=yx (w:=w) (e:=e);show _<=(k9 w e::S.map (k9 w)).sum;rw[QP,QE];unfold mu at h2;omega
theorem Ek:∀{S:List gq},(∀e∈S,k9 w e=c)->mu w S=S.length*c
 |[],_=>by simp[mu]
 |e::S,h=>by
  have h1:=h e Qq;have h2:=Ek (S:=S) λu hu=>h u (Qi _ hu);show(k9 w e::S.map (k9 w)).sum=_;rw[QP,QE,Nat.add_mul,h1];unfold mu at h2;omega
def Hf(W:cq w)(h:iZ w ks e):mu w (kids w ks e w.ts.length)+1<=k9 w e:=by
 have h1:mu w (kids w ks e w.ts.length)=(kids w ks e w.ts.length).length*Pr w.ts (un w e):=Ek λc hc=>by
  obtain⟨n,_,hcn⟩:=fP.mp hc;exact FC W h hcn
 have h2:=xO (w:=w) (ks:=ks) (e:=e) w.ts.length (Ql _);rw[TQ (Ql _)]at h2;have h3:=Tf (Pr w.ts (un w e)) h2;have h4:=Ab (ts:=w.ts) (un w e);unfold k9;rw[h1,Nat.add_mul];omega
def G5(t:vk)(z:Qu):one t z<=1:=by unfold one;split<;>omega
def Kc(t:vk)(z:Qu):one t z<=(if z=t.a then 1 else 0)+(if z=t.b then 1 else 0):=by
 have h:=G5 t z
 by_cases h1:t.a=z
 .rw[if_pos h1.symm];omega
 .by_cases h2:t.b=z
  .rw[if_pos h2.symm];omega
  .have:there t z=none:=by unfold there;rw[if_neg h1,if_neg (λq=>h2 q.1)]
   unfold one;rw[this];simp
theorem yU:∀{R:al},R.Nodup->(R.map λz=>if z=a then 1 else 0).sum<=1
 |[],_=>by simp
 |z::R,nd=>by
  rw[RP]at nd;rw[Qf,QP]
  by_cases e:z=a
  .subst e
   have:(R.map λv=>if v=z then 1 else 0)=R.map λ_=>0:=Sw λv hv=>if_neg λ(q:v=z)=>nd.1 (q▸hv);rw[this];have h0:∀L:al,(L.map λ_=>0).sum=0:=λL=>by induction L with|nil=>rfl|cons _ _ ih=>simp[ih]
   rw[h0];simp
  .rw[if_neg e]
   have:=yU (a:=a) nd.2;omega
theorem g7{f g:Qu->Nat}:∀R:al,(R.map λz=>f z+g z).sum=(R.map f).sum+(R.map g).sum
 |[]=>rfl
 |z::R=>by simp only[Qf,QP,g7 R];omega
theorem qk{f g:Qu->Nat}(h:∀z,f z<=g z):∀R:al,(R.map f).sum<=(R.map g).sum
 |[]=>Ql _
 |z::R=>by
  have:=qk h R;have:=h z;simp only[Qf,QP];omega
theorem BH{R:al}(nd:R.Nodup):∀ts:List vk,(R.map (km ts)).sum<=2*ts.length
 |[]=>by
  have h0:∀L:al,(L.map (km [])).sum=0:=λL=>by induction L with|nil=>rfl|cons _ _ ih=>simp[ih,km]
  rw[h0];simp
 |t::ts=>by
  have h1:=BH nd ts;have h2:(R.map (km (t::ts))).sum=(R.map λz=>one t z+km ts z).sum:=rfl;have h3:=qk (Kc t) R;rw[g7 (f:=λz=>if z=t.a then 1 else 0)]at h3;have h4:=yU (a:=t.a) nd;have h5:=yU (a:=t.b) nd;rw[h2,g7,QE];have:(R.map λz=>one t z).sum=(R.map (one t)).sum:=rfl;omega
theorem Al:∀x:Nat,x*6 ^ 5*5 ^ x<=5 ^ 6*6 ^ x
 |0=>by simp
 |1=>by decide
 |2=>by decide
 |3=>by decide
 |4=>by decide
 |5=>by decide
 |x+6=>by
  have h:=Al (x+5);have h2:(x+6)*5<=6*(x+5):=by omega
  calc (x+6)*6 ^ 5*5 ^ (x+6)=((x+6)*5)*(6 ^ 5*5 ^ (x+5)):=by rw[show x+6=(x+5)+1 from rfl,Vg];grind
   _<=(6*(x+5))*(6 ^ 5*5 ^ (x+5)):=Tf _ h2
   _=6*((x+5)*6 ^ 5*5 ^ (x+5)):=by grind
   _<=6*(5 ^ 6*6 ^ (x+5)):=Nat.mul_le_mul_left _ h
   _=5 ^ 6*6 ^ (x+6):=by rw[show x+6=(x+5)+1 from rfl,Vg];grind
theorem Jk:∀R:al,Pr ts R*6 ^ (5*R.length)*5 ^ ((R.map (km ts)).sum+R.length)<=5 ^ (6*R.length)*6 ^ ((R.map (km ts)).sum+R.length)
 |[]=>by simp[Pr]
 |u::R=>by
  have h1:=Jk (ts:=ts) R;have h2:=Al (1+km ts u);have h:=Nat.mul_le_mul h2 h1;have e1:(List.map (km ts) (u::R)).sum+(u::R).length=(1+km ts u)+((R.map (km ts)).sum+R.length):=by
   rw[Qf,QP,QE];omega
  have e2:Pr ts (u::R)=(1+km ts u)*Pr ts R:=rfl;rw[e1,e2,QE,Vy,Vy,T1 5 (1+km ts u),T1 6 (1+km ts u),T1 6 (5*R.length),T1 5 (6*R.length)];generalize 5 ^ (1+km ts u)=A at *;generalize 6 ^ (1+km ts u)=B at *;generalize 5 ^ ((R.map (km ts)).sum+R.length)=C at *;generalize 6 ^ ((R.map (km ts)).sum+R.length)=E at *;generalize 6 ^ (5*R.length)=G at *;generalize 5 ^ (6*R.length)=I at *
  calc (1+km ts u)*Pr ts R*(G*6 ^ (5*1))*(A*C)=(1+km ts u)*6 ^ 5*A*(Pr ts R*G*C):=by grind
   _<=5 ^ 6*B*(I*E):=h
   _=I*5 ^ (6*1)*(B*E):=by grind
end Way
namespace K15
open PySem L2 DL Com Bor Pth
open K11 (nums ways pr there oS lq gL eq_str cW)
open K51 (Bd pl)
noncomputable def Pl(x:Sl):Prop:=x=.no∨∃d,x=.sh d
noncomputable abbrev wT:Ev->ak D:=ag (ae 2) (aq aC b9) gS
end K15
namespace Way
open PySem L2 DL Com Bor Pth
open K15 (gq iZ n8 kid kids fP EF vW jy E1 Bh tQ wT wB kB wV Eh xf Pl)
open K11 (nums ways pr there oS lq gL eq_str cW)
def w8:∀n,n<8->∀s,s<29->5 ^ (6*n)*6 ^ (s+n)<100001*6 ^ (5*n)*5 ^ (s+n):=by decide
def FO(W:cq w):Pr w.ts w.ps<=100000:=by
 have h1:=Jk (ts:=w.ts) w.ps;have h2:=BH W.nm.1 w.ts;have n7:=W.n7;have t14:=W.t14;have h3:=w8 w.ps.length (by omega) (w.ps.map (km w.ts)).sum (by omega);refine Nat.le_of_not_lt λc=>?_;have h4:100001*6 ^ (5*w.ps.length)*5 ^ ((w.ps.map (km w.ts)).sum+w.ps.length)<=Pr w.ts w.ps*6 ^ (5*w.ps.length)*5 ^ ((w.ps.map (km w.ts)).sum+w.ps.length):=Tf _ (Tf _ c);exact absurd (Qk h3 (QM h4 h1)) (Si _)
def sV(W:cq w):k9 w ⟨[],[],w.fi⟩<=100000:=by
 have h:k9 w ⟨[],[],w.fi⟩=Pr w.ts w.ps:=by
  rw[Ac W.nm.1 W.fi];unfold k9 un
  congr 2
  refine List.filter_congr λu _=>?_;simp[gq.seen]
 rw[h];exact FO W
noncomputable def NP(a b:am):Prop:=¬a <+: b/\¬b <+: a
structure tZ (S:List gq) (F:List (am)):Prop where
 pw:S.Pairwise λa b=>NP a.y b.y
 fs:∀f∈F,∀e∈S,¬e.y <+: f
 nd:F.Nodup
def tZ.done{S:List gq}(h:tZ (S++[e]) F):tZ S (F++[e.y]):=by
 have hp:=Tg.mp h.pw;refine⟨hp.1,λf hf d hd=>?_,?_⟩
 .rcases QQ.mp hf with hf|hf
  .exact h.fs f hf d (Rl _ hd)
  .rw[Qn.mp hf]
   exact(hp.2.2 d hd e (Qn.mpr rfl)).1
 .refine SU.mpr ⟨h.nd,by simp,λa ha b hb c=>?_⟩
  rw[Qn.mp hb]at c;exact h.fs a ha e (QR _ (Qn.mpr rfl)) (c▸List.prefix_rfl)
def A2(h:d∈kid w ks e n):d.y=e.y++[n]:=by
 unfold K15.kid at h;split at h
 .cases h
 .split at h
  .cases h
  .split at h
   .rw[Qn.mp h]
   .cases h
def Hc(h:n≠m):NP (y++[n]) (y++[m]):=by
 constructor
 .intro c
  have:=c.eq_of_length (by simp);simp at this;exact h this
 .intro c
  have:=c.eq_of_length (by simp);simp at this;exact h this.symm
theorem A1:∀k,(kids w ks e k).Pairwise λa b=>NP a.y b.y
 |0=>Uq
 |k+1=>by
  unfold K15.kids;refine Tg.mpr ⟨A1 k,?_,λa ha b hb=>?_⟩
  .have:=K15.kid_le (w:=w) (ks:=ks) (e:=e) (n:=k)
   match hk:kid w ks e k with
   |[]=>exact .nil
   |[x]=>exact U7 _ _
   |x::y::r=>rw[hk]at this;simp at this
  .obtain⟨n,hn,ha⟩:=fP.mp ha
   rw[A2 ha,A2 hb];exact Hc (by omega)
def tZ.kids{S:List gq}(h:tZ (S++[e]) F)(k:Nat):tZ (S++kids w ks e k) F:=by
 have hp:=Tg.mp h.pw;have me:e∈S++[e]:=QR _ (Qn.mpr rfl);refine⟨Tg.mpr ⟨hp.1,A1 k,λa ha b hb=>?_⟩,λf hf d hd=>?_,h.nd⟩
 .obtain⟨n,_,hb⟩:=fP.mp hb
  have:=hp.2.2 a ha e (Qn.mpr rfl);rw[A2 hb];constructor
  .intro c
   rcases List.prefix_concat_iff.mp c with c|c
   .exact this.2 (by rw[c];exact Ub _ _)
   .exact this.1 c
  .intro c
   exact this.2 ((Ub _ _).trans c)
 .rcases QQ.mp hd with hd|hd
  .exact h.fs f hf d (Rl _ hd)
  .obtain⟨n,_,hd⟩:=fP.mp hd
   rw[A2 hd];intro c;exact h.fs f hf e me ((Ub _ _).trans c)
section
variable {w:j7}(W:cq w) {ks:am}
include W
theorem nq:∀(f:Nat) (S:List gq) (F:List (am)) (x4 x5 x6 x7:Sl),(∀e∈S,iZ w ks e/\∀y,jy w ks e y->jy w ks ⟨[],[],w.fi⟩ y)->(∀y∈F,z9 w ks w.fi y w.la/\y.length<=7/\jy w ks ⟨[],[],w.fi⟩ y)->mu w S<f->mu w S+F.length<=100000->tZ S F->Pl x7 ->
  ∃F' y4 y5 y6 y7,cC wT wB f (tQ w ks S F x4 x5 x6 x7)=.ok (.nx (tQ w ks [] F' y4 y5 y6 y7))/\(∀y∈F',z9 w ks w.fi y w.la/\y.length<=7/\jy w ks ⟨[],[],w.fi⟩ y)/\F'.length<=100000/\F'.Nodup/\(∀y∈F,y∈F')/\∀e∈S,∀y,jy w ks e y->y∈F'
 |0,S,F,x4,x5,x6,x7,_,_,h,_,_,_=>by omega
 |f+1,S,F,x4,x5,x6,x7,hS,hF,hm,hn,hA,h7=>by
  have L:100000+14<line:=by decide
  rcases List.eq_nil_or_concat S with rfl|⟨S0,e,rfl⟩
  .refine⟨F,x4,x5,x6,x7,?_,hF,by omega,hA.nd,λ_ h=>h,λe he=>by cases he⟩
   have h1:wT (ey (tQ w ks [] F x4 x5 x6 x7))=.ok (.bl false):=rfl;rw[uu h1]
  .rw[List.concat_eq_append]at *
   obtain⟨B,X⟩:=hS e (QR _ (Qn.mpr rfl));have h0:∀d∈S0,iZ w ks d/\∀y,jy w ks d y->jy w ks ⟨[],[],w.fi⟩ y:=λd hd=>hS d (Rl _ hd);rw[zr,zq]at hm hn;have hlen:=Ej (w:=w) (S:=S0);have hT:=yx (w:=w) (e:=e);have hk:=Hf W B;have n7:=W.n7;have hbl:=B.len;obtain⟨y4,y5,y6,y7,hy,ht⟩:=wV W B (S:=S0) (F:=F) (by omega) (by omega) (x4:=x4) (x5:=x5) (x6:=x6) h7;have h1:wT (ey (tQ w ks (S0++[e]) F x4 x5 x6 x7))=.ok (.bl true):=by
    have:wT (ey (tQ w ks (S0++[e]) F x4 x5 x6 x7))=gS (.lst ((S0++[e]).map n8)) (.lst []):=rfl;rw[this];exact Eh (by simp) xf
   rw[wR h1 ht]
   by_cases hz:e.z=w.la
   .simp only[if_pos hz]at ht ⊢
    rw[QN];obtain⟨F',z4,z5,z6,z7,r1,r2,r3,rN,r4,r5⟩:=nq f S0 (F++[e.y]) y4 y5 y6 y7 h0 (λy hy=>by
     rcases QQ.mp hy with hy|hy
     .exact hF y hy
     .rw[Qn.mp hy]
      have wk:=B.wk;rw[hz]at wk;exact⟨wk,by rw[B.ln];omega,X _ (.here hz)⟩) (by omega) (by rw[Qz,TV];omega) hA.done hy
    refine⟨F',z4,z5,z6,z7,r1,r2,r3,rN,λy hy=>r4 y (Rl _ hy),λd hd y hx=>?_⟩;rcases QQ.mp hd with hd|hd
    .exact r5 d hd y hx
    .rw[Qn.mp hd]at hx
     rw[E1 hx hz];exact r4 _ (QR _ (Qn.mpr rfl))
   .simp only[if_neg hz]at ht ⊢
    rw[QN];obtain⟨F',z4,z5,z6,z7,r1,r2,r3,rN,r4,r5⟩:=nq f (S0++kids w ks e w.ts.length) F y4 y5 y6 y7 (λd hd=>by
     rcases QQ.mp hd with hd|hd
     .exact h0 d hd
     .obtain⟨n,_,hdn⟩:=fP.mp hd
      refine⟨(EF W B hdn).1,λy hx=>X y ?_⟩;obtain⟨b,g,hb,rfl⟩:=(K15.mem_kid W).mp hdn;exact .step hz g hb hx) hF (by rw[zr];omega) (by rw[zr];omega) (hA.kids _) hy
    refine⟨F',z4,z5,z6,z7,r1,r2,r3,rN,r4,λd hd y hx=>?_⟩;rcases QQ.mp hd with hd|hd
    .exact r5 d (Rl _ hd) y hx
    .rw[Qn.mp hd]at hx
     obtain⟨c,hc,hx⟩:=Bh W hx hz;exact r5 c (QR _ hc) y hx
theorem ways_ok:∃F:List (am),K54.cM [aS w,eJ ks]=.ok (.lst (F.map λy=>.lst (nums y)))/\(∀y∈F,z9 w ks w.fi y w.la/\y.length<=7/\jy w ks ⟨[],[],w.fi⟩ y)/\F.length<=100000/\F.Nodup/\∀y,jy w ks ⟨[],[],w.fi⟩ y->y∈F:=by
 obtain⟨F,y4,y5,y6,y7,h1,h2,h3,hN,h4,h5⟩:=nq W (ks:=ks) 200000 [⟨[],[],w.fi⟩] [] .no .no .no .no (λe he=>by
  rw[Qn.mp he];refine⟨?_,λy h=>h⟩;exact⟨.nil,by simp[gq.seen],λp hp=>by
   have:p=w.fi:=by simpa[gq.seen] using hp
   rw[this];exact W.fi,rfl⟩) (λy hy=>by cases hy) (by rw[zq];have:=sV W;omega) (by rw[zq];have:=sV W;simp;omega) ⟨U7 _ _,λf hf=>(nomatch hf),List.nodup_nil⟩ (.inl rfl)
 refine⟨F,?_,h2,h3,hN,λy hy=>h5 _ (Qn.mpr rfl) y hy⟩;have i2:aO (aS w) (.int 2)=.ok (.str w.fi):=rfl;have hw:∀(c:Ev->ak D) (s:Ev->ak Fl) (ρ:Ev),i8 (λ_=>200000) c s ρ=cC c s 200000 ρ:=λ_ _ _=>rfl;have hS:[(⟨[],[],w.fi⟩:gq)].map n8=[.tup [.lst [],.lst [.str w.fi]]]:=rfl;unfold tQ at h1;rw[hS]at h1;have h1:cC wT wB 200000 [.sh (aS w),.sh (eJ ks),.ow (.lst [.tup [.lst [],.lst [.str w.fi]]]),.ow (.lst []),.no,.no,.no,.no]=.ok (.nx [.sh (aS w),.sh (eJ ks),.ow (.lst []),.ow (.lst (F.map λp=>.lst (nums p))),y4,y5,y6,y7]):=h1;unfold wT wB kB at h1;open_line with[K54.cM,K54.jx,i2,hw,h1]
end
open K15 (gq iZ jy gA)
open K11 (nums ways there v7 walk uR Elt)
def MX(W:cq w){z b:Qu}{seen:al}(hz:z≠w.la)(g:FR w ks n z b)(hb:b∉seen):v7 w ks seen z (.int (n:Int))=some b:=by
 obtain⟨t,t1,t2,t3⟩:=g;have hn:=(Qa.mp t1).1;have T:=W.ts t (Qh t1);have ht:=(gA T).mpr t3;unfold v7;rw[if_neg hz];have hk:((n:Int)).toNat=n:=by omega
 simp only[hk];rw[if_pos ⟨by omega,by omega,t2⟩,t1];simp only[ht];rw[if_neg hb]
def ext_walk(W:cq w)(h:jy w ks e y):∃r,y=e.y++r/\∀j,∃s,walk w ks e.s e.z j (nums r)=.inr (s++[w.la]):=by
 induction h with
 |here hz=>exact⟨[],by simp,λj=>⟨_,by rw[show nums []=[] from rfl];unfold walk;rw[hz]⟩⟩
 |@step e n b p hz g hb h ih=>
  obtain⟨r,e1,e2⟩:=ih;refine⟨n::r,by rw[e1];simp,λj=>?_⟩;obtain⟨s,hs⟩:=e2 (j+1);refine⟨s,?_⟩;have hg:=MX W hz g hb;rw[show nums (n::r)=.int (n:Int)::nums r from rfl];unfold walk;rw[show e.s++[e.z]=e.seen from rfl,hg];exact hs
def end_none(W:cq w)(h:jy w ks ⟨[],[],w.fi⟩ y):uR w (nums y).length (walk w ks [] w.fi 0 (nums y))=none:=by
 obtain⟨r,e1,e2⟩:=ext_walk W h;obtain⟨s,hs⟩:=e2 0;have:y=r:=by simpa using e1
 subst this;have hs:walk w ks [] w.fi 0 (nums y)=.inr (s++[w.la]):=hs;rw[hs];unfold uR;simp
def Cq(W:cq w)(h:jy w [] ⟨[],[],w.fi⟩ y)(hl:y.length<=7):K54.m_is_way [aS w,.lst [],.lst (nums y)]=.ok (.bl true):=by
 have he:∀d∈nums y,Elt d:=λd hd=>by
  obtain⟨n,_,rfl⟩:=QO.mp hd;exact .inl rfl
 rcases K11.way_list W (ks:=[]) he (by rw[K15.nums_len];omega) with⟨j,h1,_⟩|⟨_,d,h2⟩
 .rw[end_none W h]at h1;cases h1
 .have h2:K54.m_walk_way [aS w,.lst [],.lst (nums y)]=.ok d:=h2
  have ht:∀(hit:Qu->Bool) (sh:Ev->ak Fl),qu (kS (af (ae 0) (af (ae 1) (af (ae 2) aC))) K54.m_walk_way) hit sh [.sh (aS w),.sh (.lst []),.sh (.lst (nums y))]=.ok (.nx [.sh (aS w),.sh (.lst []),.sh (.lst (nums y))]):=λhit sh=>by
   have hd:kS (af (ae 0) (af (ae 1) (af (ae 2) aC))) K54.m_walk_way [.sh (aS w),.sh (.lst []),.sh (.lst (nums y))]=.ok (.nx [.sh (aS w),.sh (.lst []),.sh (.lst (nums y))]):=by
    have e:(af (ae 0) (af (ae 1) (af (ae 2) aC))) [.sh (aS w),.sh (.lst []),.sh (.lst (nums y))]=.ok [aS w,.lst [],.lst (nums y)]:=rfl;unfold kS;rw[e];show(K54.m_walk_way [aS w,.lst [],.lst (nums y)]).bind _=_;rw[h2];rfl
   unfold qu;rw[hd]
  open_line with[K54.m_is_way,K54.b_is_way,ht]
noncomputable def Au(p:am×e8):D:=.tup [.lst (nums p.1),fr p.2]
def share_ok(W:cq w)(h:jy w [] ⟨[],[],w.fi⟩ y)(hl:y.length<=7)(lo:Low x)(p0:0<x.1):K54.m_is_way_with_share [aS w,Au (y,x)]=.ok (.bl true):=by
 have h1:=Cq W h hl;have h2:K54.m_is_ratio [fr x]=.ok (.bl true):=gF lo;have i0:aO (Au (y,x)) (.int 0)=.ok (.lst (nums y)):=rfl;have i1:aO (Au (y,x)) (.int 1)=.ok (fr x):=rfl;have j0:aO (fr x) (.int 0)=.ok (.int x.1):=rfl;have hg:F1 (.int x.1) (.int 0)=.ok (.bl true):=by
  have:F1 (.int x.1) (.int 0)=.ok (.bl (decide (x.1 > 0))):=rfl;rw[this,decide_eq_true (by omega)]
 have ht:eC "tuple" (Au (y,x))=.ok (.bl true):=rfl;have hn:cT (Au (y,x))=.ok (.int 2):=rfl;have hne:gS (.int 2) (.int 2)=.ok (.bl false):=rfl;open_line with[K54.m_is_way_with_share,K54.b_is_way_with_share,ht,hn,hne,i0,i1,j0,h1,h2,hg]
end Way
namespace K54
open PySem L2 DL Com Bor Pth
open K51 (Bd El mt pl eI dk cY cu gk eO fb iF fz bP)
open Vlu (mi gN)
open Way (Au)
open K11 (nums)
open K15 (jy)
def lp(hx:Low x)(hy:Low y)(h:val x=val y):x=y:=by
 refine Eu hx hy ?_;have p1:=cZ (a:=x.2) (by have:=hx.q1;omega);have p2:=cZ (a:=y.2) (by have:=hy.q1;omega);unfold val at h;have e:(x.1:Rat)*(y.2:Rat)=(y.1:Rat)*(x.2:Rat):=by grind
 rw[←Rh,←Rh]at e;exact Rat.intCast_inj.mp e
def jA(hx:0<x.2)(hy:0<y.2):val (mt x y)=val x*val y:=by
 have:mt x y=oA (x.1*y.1) (x.2*y.2):=rfl;rw[this,pD (RL hx hy)];unfold val;have p1:=cZ hx;have p2:=cZ hy;rw[Rh,Rh]
 grind
def Df(hx:0<x.2)(hy:0<y.2):val (mi x y)=val x-val y:=by
 have:mi x y=oA (x.1*y.2-y.1*x.2) (x.2*y.2):=rfl;rw[this,pD (RL hx hy)];unfold val;have p1:=cZ hx;have p2:=cZ hy;rw[Rat.intCast_sub,Rh,Rh,Rh]
 grind
def MG(hx:Bd x m)(hy:Bd y n):Bd (mi x y) (m+n+1):=by
 have hy':Bd (-y.1,y.2) n:=⟨hy.q0,by show(-y.1).natAbs<_;rw[UN];exact hy.a,hy.b⟩
 have hp:=K51.un_bd hx hy';have e:x.1*y.2 + -y.1*x.2=x.1*y.2-y.1*x.2:=by rw[Int.neg_mul];omega
 have h1:=hp.a;have h2:=hp.b;unfold un at h1 h2;simp only[e]at h1;exact fz (RL hx.q0 hy.q0) h1 h2
def Kg(hx:Bd x n):Bd (0-x.1,x.2) n:=⟨hx.q0,by show(0-x.1).natAbs<_;rw[Int.zero_sub,UN];exact hx.a,hx.b⟩
def Gq:val (0-x.1,x.2)=- val x:=by
 unfold val;show((0-x.1:Int):Rat) / _=_;rw[Rat.intCast_sub];rw[show((0:Int):Rat)=0 from rfl];simp only[Tu]
 grind
def vO(hx:0<x.2)(hy:0<y.2):Low (mt x y):=ic (RL hx hy)
def qH(hx:0<x.2)(hy:0<y.2):Low (pl x y):=ic (RL hx hy)
def Gr:val (0,1)=0:=by
 unfold val;show((0:Int):Rat) / ((1:Int):Rat)=0;rw[show((0:Int):Rat)=0 from rfl,Tu,Rat.zero_mul]
def FH:Bd (0,1) 1:=⟨by decide,by decide,by decide⟩
def Ew:Low (0,1):=⟨by decide,by decide⟩
theorem wX{L:Sl}{n:Nat}:∀(xs:List e8) (m:Nat) (s:e8) (z:Sl),Low s->Bd s m->m+xs.length*(n+1)<=5800->n<=5000->(∀x∈xs,Bd x n)->∃s' z',cg (b6 2) (aA (bJ 1 (aq (af (ae 1) (af (ae 2) aC)) m_plus)) aw) (xs.map fr) [L,.sh (fr s),z]=.ok (.nx [L,.sh (fr s'),z'])/\Low s'/\Bd s' (m+xs.length*(n+1))/\val s'=val s+(xs.map val).sum
 |[],m,s,z,hl,hb,_,_,_=>⟨s,z,rfl,hl,by simpa using hb,by simp[Ui]⟩
 |x::xs,m,s,z,hl,hb,hk,hn,hx=>by
  have hx0:=hx x Qq;have hk':m+n+1+xs.length*(n+1)<=5800:=by
   rw[QE,Vf]at hk;omega
  have hm:m+n<=5900:=by omega
  obtain⟨s',z',e,l,b,v⟩:=wX (L:=L) xs (m+n+1) (pl s x) (.sh (fr x)) (qH hb.q0 hx0.q0) (iF hb hx0) hk' hn λy hy=>hx y (Qi _ hy);refine⟨s',z',?_,l,?_,?_⟩
  .rw[Qf,lO (ρ1:=[L,.sh (fr s),.sh (fr x)]) (ρ2:=[L,.sh (fr (pl s x)),.sh (fr x)]) rfl]
   .exact e
   .exact qt (yW ((tE (xs:=[fr s,fr x]) rfl).trans (eI hb hx0 hm)))
  .rw[QE,Vf]
   exact b.up (by omega)
  .rw[v,kO hb.q0 hx0.q0,Qf,QP]
   grind
def ql{xs:List e8}(hx:∀x∈xs,Bd x n)(hl:1+xs.length*(n+1)<=5800)(hn:n<=5000):∃s,m_sum_of [.lst (xs.map fr)]=.ok (fr s)/\Low s/\Bd s (1+xs.length*(n+1))/\val s=(xs.map val).sum:=by
 obtain⟨s,z',e,l,b,v⟩:=wX (L:=.sh (.lst (xs.map fr))) xs 1 (0,1) .no Ew FH hl hn hx;refine⟨s,?_,l,b,by rw[v,Gr];grind⟩;refine JH (n:=3) (ds:=[.lst (xs.map fr)]) ?_;show tK [.sh (.lst (xs.map fr)),.no,.no]=_;unfold tK;rw[gD (ρ':=[.sh (.lst (xs.map fr)),.sh (fr (0,1)),.no]) rfl];refine(gD ((EU (ds:=xs.map fr) rfl).trans e)).trans ?_;exact vz (vA rfl)
open K51 (Bd El mt pl eI dk cY cu gk eO fb iF fz bP)
open Vlu (mi gN)
open Way (Au)
open K11 (nums ways)
open K15 (jy gq)
def Bb{α:Type}(g:α->D)(P:List α->Ev->Prop){L:List α}(h:∀pre a post,L=pre++a::post->∀ρ,P pre ρ->∃ρ1 ρ2,tg ρ (g a)=.ok ρ1/\body ρ1=.ok (.nx ρ2)/\P (pre++[a]) ρ2)(h0:P [] ρ):∃ρ',cg tg body (L.map g) ρ=.ok (.nx ρ')/\P L ρ':=by
 have key:∀(post pre:List α) (ρ:Ev),L=pre++post->P pre ρ->∃ρ',cg tg body (post.map g) ρ=.ok (.nx ρ')/\P L ρ':=by
  intro post
  induction post with
  |nil=>intro pre ρ e hp;rw[QN]at e;subst e;exact⟨ρ,rfl,hp⟩
  |cons a post ih=>
   intro pre ρ e hp;obtain⟨ρ1,ρ2,h1,h2,h3⟩:=h pre a post e ρ hp;obtain⟨ρ',h4,h5⟩:=ih (pre++[a]) ρ2 (by rw[e];simp) h3;exact⟨ρ',by rw[Qf,lO h1 h2,h4],h5⟩
 exact key L [] ρ rfl h0
def xU{α:Type}(g:α->D)(P:List α->Ev->Prop){L:List α}(h:∀pre a post,L=pre++a::post->∀ρ,P pre ρ->∃ρ1 ρ2,tg ρ (.tup [.int (pre.length:Int),g a])=.ok ρ1/\body ρ1=.ok (.nx ρ2)/\P (pre++[a]) ρ2)(h0:P [] ρ):∃ρ',cg tg body (numbered 0 (L.map g)) ρ=.ok (.nx ρ')/\P L ρ':=by
 have key:∀(post pre:List α) (ρ:Ev),L=pre++post->P pre ρ->∃ρ',cg tg body (numbered pre.length (post.map g)) ρ=.ok (.nx ρ')/\P L ρ':=by
  intro post
  induction post with
  |nil=>intro pre ρ e hp;rw[QN]at e;subst e;exact⟨ρ,rfl,hp⟩
  |cons a post ih=>
   intro pre ρ e hp;obtain⟨ρ1,ρ2,h1,h2,h3⟩:=h pre a post e ρ hp;obtain⟨ρ',h4,h5⟩:=ih (pre++[a]) ρ2 (by rw[e];simp) h3;rw[Qz,TV]at h4;exact⟨ρ',by rw[Qf,DL.numbered,lO h1 h2,h4],h5⟩
 exact key L [] ρ rfl h0
def uv{a b:Qu}(h:(a,b)∈ways t):(a=t.a/\b=t.b)∨(a=t.b/\b=t.a):=by
 unfold K11.ways at h;split at h
 .have:=Qn.mp h
  cases this;exact .inl ⟨rfl,rfl⟩
 .rcases Qs.mp h with h|h
  .cases h;exact .inl ⟨rfl,rfl⟩
  .have:=Qn.mp h
   cases this;exact .inr ⟨rfl,rfl⟩
def KG(h:jy w ks e y):∃r,y=e.y++r/\r.Nodup/\∀n∈r,∃t a b,w.ts[n]?=some t/\(a,b)∈ways t/\b∉e.seen:=by
 induction h with
 |here hz=>exact⟨[],by simp,List.nodup_nil,λn hn=>(nomatch hn)⟩
 |@step e n b p hz g hb h ih=>
  obtain⟨r,e1,e2,e3⟩:=ih;have hs:gq.seen ⟨e.y++[n],e.seen,b⟩=e.seen++[b]:=rfl;rw[hs]at e3;obtain⟨t,t1,_,t3⟩:=g;refine⟨n::r,by rw[e1];simp,RP.mpr ⟨λhn=>?_,e2⟩,λm hm=>?_⟩
  .obtain⟨t',a',b',q1,q2,q3⟩:=e3 n hn
   have:t=t':=by rw[t1]at q1;exact Q4 q1
   subst this;have hzm:e.z∈e.seen:=by unfold gq.seen;simp
   refine q3 (QQ.mpr ?_);rcases uv t3 with⟨u1,u2⟩|⟨u1,u2⟩<;>rcases uv q2 with⟨v1,v2⟩|⟨v1,v2⟩
   .exact .inr (Qn.mpr (v2.trans u2.symm))
   .exact .inl (by rw[v2,←u1];exact hzm)
   .exact .inl (by rw[v2,←u1];exact hzm)
   .exact .inr (Qn.mpr (v2.trans u2.symm))
  .rcases Qs.mp hm with rfl|hm
   .exact⟨t,_,_,t1,t3,hb⟩
   .obtain⟨t',a',b',q1,q2,q3⟩:=e3 m hm
    exact⟨t',a',b',q1,q2,λc=>q3 (Rl _ c)⟩
def qh(h:jy w [] ⟨[],[],w.fi⟩ y):y.Nodup/\∀n∈y,n<w.ts.length:=by
 obtain⟨r,e1,e2,e3⟩:=KG h;have:y=r:=by simpa using e1
 subst this;refine⟨e2,λn hn=>?_⟩;obtain⟨t,_,_,q,_⟩:=e3 n hn;exact(Qa.mp q).1
noncomputable def bB(M:List (am×Nat)):Nat:=(M.map (·.2)).sum
structure Mx (w:j7) (M:List (am×Nat)):Prop where
 ext:∀p∈M,jy w [] ⟨[],[],w.fi⟩ p.1/\p.1.length<=7
 many:∀p∈M,1<=p.2
 tt:bB M<=9000000
 nd:(M.map (·.1)).Nodup
 ne:M≠[]
 len:M.length<=10
theorem Ak:∀{M:List (am×Nat)}{p:am×Nat},p∈M->p.2<=bB M
 |a::M,p,h=>by
  unfold bB;rw[Qf,QP];rcases Qs.mp h with rfl|h
  .omega
  .have:=Ak h
   unfold bB at this;omega
def Mx.le(h:Mx w M)(hp:p∈M):p.2<=9000000:=QM (Ak hp) h.tt
theorem qk:∀{L:am},(∀x∈L,x<=B)->L.sum<=L.length*B
 |[],_=>by simp
 |x::L,h=>by
  have h1:=h x Qq;have h2:=qk (L:=L) λy hy=>h y (Qi _ hy);rw[QP,QE,Vf];omega
def Mx.tot(h:Mx w M):0<bB M/\bB M<=9000000:=by
 refine⟨?_,h.tt⟩;cases hM:M with
 |nil=>exact absurd hM h.ne
 |cons p M'=>
  have:=h.many p (by rw[hM];exact Qq);unfold bB;rw[Qf,QP];omega
def NT:val (1,1)=1:=by
 unfold val;show((1:Int):Rat) / ((1:Int):Rat)=1;rw[show((1:Int):Rat)=1 from rfl]
 grind
noncomputable def sh(T m:Nat):e8:=oA (m:Int) (T:Int)
noncomputable def q(T m:Nat):Rat:=((m:Int):Rat) / ((T:Int):Rat)
def nD(hT:0<T):Low (sh T m):=ic (by omega)
def jE(hT:0<T):val (sh T m)=q T m:=pD (by omega)
def qp(hT:0<T)(hT2:T<=9000000)(hm:m<=12000000):Bd (sh T m) 24:=fz (by omega) (by omega) (by omega)
def Az{T a b:Nat}:q T (a+b)=q T a+q T b:=by
 unfold q;rw[Int.natCast_add,Rat.intCast_add,Tu,Tu,Tu,Rat.add_mul]
def qD:q T 0=0:=by
 unfold q;rw[Tu,show(((0:Nat):Int):Rat)=0 from rfl,Rat.zero_mul]
def JR(hT:0<T):q T T=1:=by
 unfold q;have:=cZ (a:=(T:Int)) (by omega)
 grind
theorem IB:∀{L:am},(L.map (q T)).sum=q T L.sum
 |[]=>by simp[qD]
 |x::L=>by rw[Qf,QP,QP,Az,IB]
def JE{T a b:Nat}(hT:0<T):pl (sh T a) (sh T b)=sh T (a+b):=by
 have h1:=(nD (m:=a) hT).q1;have h2:=(nD (m:=b) hT).q1;refine lp (qH (by omega) (by omega)) (nD hT) ?_;rw[kO (by omega) (by omega),jE hT,jE hT,jE hT,Az]
def GJ(hT:0<T):sh T 0=(0,1):=lp (nD hT) Ew (by rw[jE hT,qD,Gr])
def JD(hT:0<T)(hm:0<m):0<(sh T m).1:=AX (by omega) (by omega)
noncomputable def dO(y:am):D:=.lst (nums y)
noncomputable def pM(T:Nat) (p:am×Nat):D:=Au (p.1,sh T p.2)
noncomputable def cj(M:List (am×Nat)):D:=.lst (M.map (pM (bB M)))
theorem BN:∀{Y:List (am)},(Y.map dO).any (λd=>c8 d (dO y))=decide (y∈Y)
 |[]=>rfl
 |z::Y=>by
  rw[Qf,Tz,BN];have e:c8 (dO z) (dO y)=decide (z=y):=by
   unfold dO;rw[pY];have:=Wex.nums_eq (a:=z) (b:=y)
   by_cases h:z=y
   .rw[decide_eq_true h];exact this.mpr h
   .rw[decide_eq_false h]
    exact Bool.eq_false_iff.mpr λc=>h (this.mp c)
  rw[e]
  by_cases h:z=y
  .subst h;simp
  .have h':y≠z:=λc=>h c.symm
   simp[h,h']
def Hw{Y:List (am)}:sT (dO y) (.lst (Y.map dO))=.ok (.bl (decide (y∈Y))):=by
 have s1:∀z,bq 40 (dO z)=true:=λz=>by
  unfold dO;show(nums z).all (bq 39)=true;refine QF.mpr λd hd=>?_;obtain⟨n,_,rfl⟩:=QO.mp hd;rfl
 have s2:(Y.map dO).all (bq 40)=true:=QF.mpr λd hd=>by
  obtain⟨z,_,rfl⟩:=QO.mp hd;exact s1 z
 have e:CW (dO y) (.lst (Y.map dO))=some (decide (y∈Y)):=(if_pos ⟨s1 y,s2⟩).trans (congrArg some BN);unfold sT;rw[e]
section
variable {w:j7}(W:cq w) {M:List (am×Nat)}(X:Mx w M)
include W X
theorem En:ef [aS w,cj M]=.ok .non:=by
 have hW:m_look_at_web [aS w]=.ok .non:=yP W;obtain⟨t0,t9⟩:=X.tot;have l9:=X.len;obtain⟨ρ',hf,y3,y4,rfl⟩:=xU (tg:=dw [3,4]) (body:=(aA (er (iQ (cA (aq (af (ae 0) (af (ae 4) aC)) m_is_way_with_share)) (ag (ag (ae 4) (dC (.int 0)) aO) (ae 2) sT))
 (aA cx
 aw)
 aw)
 (aA (cU 2 (ag (ae 4) (dC (.int 0)) aO))
 aw))) (pM (bB M)) (λpre ρ=>∃y3 y4,ρ=[.sh (aS w),.sh (cj M),.ow (.lst ((pre.map (·.1)).map dO)),y3,y4]) (L:=M) (by
  rintro pre p post hM ρ ⟨y3,y4,rfl⟩;have hp:p∈M:=by rw[hM];simp
  obtain⟨he,hl⟩:=X.ext p hp;have h1:m_is_way_with_share [aS w,pM (bB M) p]=.ok (.bl true):=Way.share_ok W he hl (nD t0) (JD t0 (X.many p hp));have h2:aO (pM (bB M) p) (.int 0)=.ok (dO p.1):=rfl;have hn:p.1∉pre.map (·.1):=by
   have:=X.nd;rw[hM,QI,Qf]at this;exact λc=>(SU.mp this).2.2 _ c _ Qq rfl
  have h3:sT (dO p.1) (.lst ((pre.map (·.1)).map dO))=.ok (.bl false):=by rw[Hw,decide_eq_false hn]
  have hap:decide (((pre.map (·.1)).map dO).length<=999)=true:=decide_eq_true (by
   have:pre.length<=M.length:=by rw[hM];simp
   simp;omega)
  refine⟨[.sh (aS w),.sh (cj M),.ow (.lst ((pre.map (·.1)).map dO)),.sh (.int (pre.length:Int)),.sh (pM (bB M) p)],[.sh (aS w),.sh (cj M),.ow (.lst (((pre++[p]).map (·.1)).map dO)),.sh (.int (pre.length:Int)),.sh (pM (bB M) p)],rfl,?_,_,_,rfl⟩;rw[QI,QI];open_line with[h1,h2,h3,eu hap]) (ρ:=[.sh (aS w),.sh (cj M),.ow (.lst []),.no,.no]) ⟨_,_,rfl⟩
 have hsE:Aq (cj M)=.ok (numbered 0 (M.map (pM (bB M)))):=rfl;have hI:eC "list" (cj M)=.ok (.bl true):=rfl;have hc:∀(A:Ev),eT 2 [] (dw [0,1]) mYes (ae 1) A (M.map (pM (bB M)))=.ok (.lst ((M.map λp=>sh (bB M) p.2).map fr)):=λA=>by
  rw[bP (pM (bB M)) (λp=>some (fr (sh (bB M) p.2))) (by omega) λp hp=>⟨[.sh (dO p.1),.sh (fr (sh (bB M) p.2))],rfl,.inr ⟨_,rfl,rfl,rfl⟩⟩];rw[RE,RD];rfl
 obtain⟨s,hs,sl,sb,sv⟩:=ql (n:=24) (xs:=M.map λp=>sh (bB M) p.2) (λx hx=>by
  obtain⟨p,hp,rfl⟩:=QO.mp hx;exact qp t0 t9 (by have:=X.le hp;omega)) (by rw[P7];omega) (by decide)
 have s1:s=(1,1):=lp sl ⟨by decide,by decide⟩ (by
  rw[sv,RD];have:(M.map (val∘λp=>sh (bB M) p.2))=(M.map (·.2)).map (q (bB M)):=by
   rw[RD];exact Sw λp _=>jE t0
  rw[this,IB,show(M.map (·.2)).sum=bB M from rfl,JR t0,NT])
 rw[s1]at hs;have hne:gS (fr (1,1)) (.tup [.int 1,.int 1])=.ok (.bl false):=rfl;have hsL:og (cj M)=.ok (M.map (pM (bB M))):=rfl;open_line with[ef,kK,hW,hI,hsE,hf,hsL,hc,hs,hne]
end
open K51 (Bd El mt pl eI dk cY cu gk eO fb iF fz bP)
open Vlu (mi gN)
open Way (Au)
open K11 (nums ways eQ)
open K15 (jy gq)
def EK:DL.intsFrom 0 n=(QL n).map λk:Nat=>D.int (k:Int):=by
 unfold DL.intsFrom;exact Sw λk _=>by rw[Int.zero_add]
def A4(h:k<n):uK n (k:Int)=some k:=by
 unfold uK;rw[if_pos (by omega),if_pos (by omega),Tw]
noncomputable def A(M:List (am×Nat)) (k:Nat):Nat:=(M.map λp=>if k∈p.1 then p.2 else 0).sum
def Lm:A (M++[p]) k=A M k+if k∈p.1 then p.2 else 0:=by
 unfold A;rw[QI,Sf];simp
theorem Ln:∀{M:List (am×Nat)}{k:Nat},A M k<=bB M
 |[],k=>Ql _
 |p::M,k=>by
  have:=Ln (M:=M) (k:=k);unfold A bB at *;rw[Qf,Qf,QP,QP];split<;>omega
def Gw:bB (M++N)=bB M+bB N:=by unfold bB;rw[QI,Sf]
noncomputable def iG(T k:Nat) (M:List (am×Nat)):List e8:=M.filterMap λp=>if k∈p.1 then some (sh T p.2) else none
theorem uB(hT:0<T):∀{M:List (am×Nat)},((iG T k M).map val).sum=q T (A M k)
 |[]=>by simp[iG,A,qD]
 |p::M=>by
  have ih:=uB (T:=T) (k:=k) hT (M:=M);have e:A (p::M) k=(if k∈p.1 then p.2 else 0)+A M k:=rfl;rw[e]
  by_cases h:k∈p.1
  .have e:iG T k (p::M)=sh T p.2::iG T k M:=by unfold iG;rw[UZ (by rw[if_pos h])]
   rw[e,Qf,QP,ih,jE hT,if_pos h,Az]
  .have e:iG T k (p::M)=iG T k M:=by unfold iG;rw[U0 (by rw[if_neg h])]
   rw[e,ih,if_neg h,SR]
noncomputable def ld(M:List (am×Nat)) (k:Nat):e8:=sh (bB M) (A M k)
noncomputable def gO(w:j7) (M:List (am×Nat)):D:=.lst ((QL w.ts.length).map λk=>fr (ld M k))
section
variable {w:j7}{M:List (am×Nat)}(X:Mx w M)
include X
theorem Km:Low (ld M k):=nD X.tot.1
theorem AZ:Bd (ld M k) 24:=qp X.tot.1 X.tot.2 (by have:=Ln (M:=M) (k:=k);have:=X.tot.2;omega)
theorem EB:val (ld M k)=q (bB M) (A M k):=jE X.tot.1
theorem qY{k:Nat}:fv [cj M,.int (k:Int)]=.ok (fr (ld M k)):=by
 obtain⟨t0,t9⟩:=X.tot;have l9:=X.len;have hc:eT 2 [1] (dw [0,1]) (ag (ae 2) (ae 0) sT) (ae 1) [.sh (cj M),.sh (.int (k:Int))] (M.map (pM (bB M)))=.ok (.lst ((iG (bB M) k M).map fr)):=by
  rw[bP (pM (bB M)) (λp=>if k∈p.1 then some (fr (sh (bB M) p.2)) else none) (by omega)]
  .unfold iG
   rw[List.map_filterMap]
   congr 2
   congr 1
   funext p;split<;>rfl
  .intro p hp
   refine⟨[.sh (dO p.1),.sh (fr (sh (bB M) p.2)),.sh (.int (k:Int))],rfl,?_⟩;have hi:(ag (ae 2) (ae 0) sT) [.sh (dO p.1),.sh (fr (sh (bB M) p.2)),.sh (.int (k:Int))]=sT (.int (k:Int)) (dO p.1):=rfl;rw[hi];have hn:sT (.int (k:Int)) (dO p.1)=.ok (.bl (decide (k∈p.1))):=eQ;rw[hn]
   by_cases h:k∈p.1
   .exact .inr ⟨_,if_pos h,by rw[decide_eq_true h],rfl⟩
   .exact .inl ⟨if_neg h,by rw[decide_eq_false h]⟩
 have hpl:(iG (bB M) k M).length<=10:=by
  unfold iG;exact QM (List.length_filterMap_le _ _) l9
 obtain⟨s,hs,sl,sb,sv⟩:=ql (n:=24) (xs:=iG (bB M) k M) (λx hx=>by
  obtain⟨p,hp,e⟩:=Tr.mp hx;split at e
  .cases e
   exact qp t0 t9 (by have:=X.le hp;omega)
  .cases e) (by omega) (by decide)
 have s1:s=ld M k:=lp sl (Km X) (by rw[sv,uB t0,EB X]);rw[s1]at hs;have hsL:og (cj M)=.ok (M.map (pM (bB M))):=rfl;open_line with[fv,vd,hsL,hc,hs]
theorem zB(W:cq w):gw [aS w,cj M]=.ok (gO w M):=by
 have hm:=En W X;have t14:=W.t14;have i1:aO (aS w) (.int 1)=.ok (.lst (w.ts.map bI)):=rfl;have hlen:cT (.lst (w.ts.map bI))=.ok (.int w.ts.length):=by rw[cX,P7]
 have hr:Cod.srcR1K (.int (w.ts.length:Int))=.ok (DL.intsFrom 0 w.ts.length):=Cod.srcR1_nat (by omega);have hc:eT 1 [1] (b6 0) mYes (aq (af (ae 1) (af (ae 0) aC)) fv) [.sh (aS w),.sh (cj M)] (DL.intsFrom 0 w.ts.length)=.ok (gO w M):=by
  rw[EK];rw[bP (λk:Nat=>D.int (k:Int)) (λk=>some (fr (ld M k))) (by rw[Um];omega) λk hk=>⟨[.sh (.int (k:Int)),.sh (cj M)],rfl,.inr ⟨_,rfl,rfl,qY X⟩⟩];rw[RE];rfl
 have ho:D6 (.rt (gO w M))=.ok (gO w M):=rfl;open_line with[gw,vf,K12.ef_run,K12.ef_seq,K12.ef_seq1,K12.ef_retE,K12.ef_retE1,ho,hm,i1,hlen,Cod.ev_srcR1,hr,hc]
noncomputable def lst(N T:Nat) (f:Nat->Nat):ac:=(QL N).map λk=>fr (sh T (f k))
omit X in
theorem Kj{N T:Nat}{f:Nat->Nat}{k:Nat}(hk:k<N):aO (.lst (lst N T f)) (.int (k:Int))=.ok (fr (sh T (f k))):=ir (by
 unfold lst;rw[Qg,Sx hk];rfl)
omit X in
theorem Hm{N T:Nat}{f:Nat->Nat}{k m:Nat}:(lst N T f).set k (fr (sh T m))=lst N T λj=>if j=k then m else f j:=by
 unfold lst;refine List.ext_getElem (by simp) λi h1 h2=>?_;simp only[List.getElem_set,List.getElem_map,List.getElem_range]
 by_cases h:k=i
 .subst h;simp
 .have h':i≠k:=λc=>h c.symm
  simp[h,h']
noncomputable abbrev EM:Ev->ak Fl:=(aA (xh 2 (aq (af (ag (ae 2) (ae 5) aO) (af (ae 4) aC)) bp) (ae 5))
 aw)
omit X in
theorem MS{T:Nat}(hT:0<T)(hT2:T<=9000000){d0 d1 d3:D}{m N:Nat}(hm:m<=9000000){f:Nat->Nat}(hf:∀k,f k<=10000000){y:am}(hy:y.Nodup)(hN:∀n∈y,n<N){x5:Sl} :
  ∃y5,cg (b6 5) EM (nums y) [.sh d0,.sh d1,.ow (.lst (lst N T f)),.sh d3,.sh (fr (sh T m)),x5]=.ok (.nx [.sh d0,.sh d1,.ow (.lst (lst N T λk=>f k+if k∈y then m else 0)),.sh d3,.sh (fr (sh T m)),y5]):=by
 obtain⟨ρ',h1,y5,rfl⟩:=Bb (tg:=b6 5) (body:=EM) (λn:Nat=>D.int (n:Int)) (λpre ρ=>∃y5,ρ=[.sh d0,.sh d1,.ow (.lst (lst N T λk=>f k+if k∈pre then m else 0)),.sh d3,.sh (fr (sh T m)),y5]) (L:=y) (by
  rintro pre k post hM ρ ⟨y5,rfl⟩;have hk:k∈y:=by rw[hM];simp
  have hkN:=hN k hk;have hn:k∉pre:=by
   rw[hM]at hy;exact λc=>(SU.mp hy).2.2 _ c _ Qq rfl
  have hix:=Kj (T:=T) (f:=λk=>f k+if k∈pre then m else 0) hkN;simp only[if_neg hn,SS]at hix;have hpl:bp [fr (sh T (f k)),fr (sh T m)]=.ok (fr (sh T (f k+m))):=by
   have b1:Bd (sh T (f k)) 24:=qp hT hT2 (by have:=hf k;omega);have b2:Bd (sh T m) 24:=qp hT hT2 (by omega);have:=dk b1 b2 (by decide);rw[JE hT]at this;exact this
  have hput:∀ρ,DL.putAt ρ 2 (lst N T λk=>f k+if k∈pre then m else 0) (fr (sh T (f k+m))) (.int (k:Int))=.ok (.nx (ρ.set 2 (.ow (.lst (lst N T λj=>f j+if j∈pre++[k] then m else 0))))):=λρ=>by
   rw[rO (A4 (by unfold lst;simpa using hkN)),Hm]
   congr 7
   funext j
   by_cases hj:j=k
   .subst hj;simp
   .have:(j∈pre++[k])↔j∈pre:=by simp[hj]
    rw[if_neg hj];simp only[this]
  have hfl:iN (fr (sh T (f k+m)))=true:=rfl;refine⟨[.sh d0,.sh d1,.ow (.lst (lst N T λk=>f k+if k∈pre then m else 0)),.sh d3,.sh (fr (sh T m)),.sh (.int (k:Int))],_,rfl,?_,.sh (.int (k:Int)),rfl⟩;generalize hg:fr (sh T (f k+m))=z at *;open_line with[hix,hpl,E2 hfl,hput]) (ρ:=[.sh d0,.sh d1,.ow (.lst (lst N T λk=>f k+if k∈([]:am) then m else 0)),.sh d3,.sh (fr (sh T m)),x5]) ⟨_,rfl⟩
 refine⟨y5,?_⟩;simp only[R5,if_false,SS]at h1;exact h1
theorem qX(W:cq w):dU [aS w,cj M]=.ok (gO w M):=by
 obtain⟨t0,t9⟩:=X.tot;have t14:=W.t14;have i1:aO (aS w) (.int 1)=.ok (.lst (w.ts.map bI)):=rfl;have hc:eT 1 [] (b6 0) mYes (aq (af (dC (.int 0)) (af (dC (.int 1)) aC)) gj) [.sh (aS w),.sh (cj M),.no,.no,.no,.no] (w.ts.map bI)=.ok (.lst (lst w.ts.length (bB M) (A []))):=by
  rw[bP bI (λ_=>some (fr (sh (bB M) 0))) (by omega) λt ht=>⟨[.sh (bI t)],rfl,.inr ⟨_,rfl,rfl,by rw[GJ t0];rfl⟩⟩];rw[RE];unfold lst
  congr 2
  refine List.ext_getElem (by simp) λi h1 h2=>?_;simp only[List.getElem_map];rfl
 obtain⟨ρ',hf,y3,y4,y5,rfl⟩:=Bb (tg:=dw [3,4]) (body:=(aA (o8 (ae 3) (b6 5)
 (aA (xh 2 (aq (af (ag (ae 2) (ae 5) aO) (af (ae 4) aC)) bp) (ae 5))
 aw))
 aw)) (pM (bB M)) (λpre ρ=>∃y3 y4 y5,ρ=[.sh (aS w),.sh (cj M),.ow (.lst (lst w.ts.length (bB M) (A pre))),y3,y4,y5]) (L:=M) (by
  rintro pre p post hM ρ ⟨y3,y4,y5,rfl⟩;have hp:p∈M:=by rw[hM];simp
  obtain⟨hn,hN⟩:=qh (X.ext p hp).1;obtain⟨z5,hi⟩:=MS t0 t9 (d0:=aS w) (d1:=cj M) (d3:=dO p.1) (N:=w.ts.length) (X.le hp) (f:=A pre) (λk=>by
   have h1:=Ln (M:=pre) (k:=k);have h2:bB M=bB pre+bB (p::post):=by rw[hM,Gw]
   omega) hn hN (x5:=y5)
  refine⟨[.sh (aS w),.sh (cj M),.ow (.lst (lst w.ts.length (bB M) (A pre))),.sh (dO p.1),.sh (fr (sh (bB M) p.2)),y5],[.sh (aS w),.sh (cj M),.ow (.lst (lst w.ts.length (bB M) (A (pre++[p])))),.sh (dO p.1),.sh (fr (sh (bB M) p.2)),z5],rfl,?_,_,_,_,rfl⟩;have e:(λk=>A pre k+if k∈p.1 then p.2 else 0)=A (pre++[p]):=by funext k;rw[Lm]
  rw[e]at hi;have hfo:=EU (f:=ae 3) (tg:=b6 5) (s:=EM) (ρ:=[.sh (aS w),.sh (cj M),.ow (.lst (lst w.ts.length (bB M) (A pre))),.sh (dO p.1),.sh (fr (sh (bB M) p.2)),y5]) (ds:=nums p.1) rfl;rw[hi]at hfo;exact qt hfo) (ρ:=[.sh (aS w),.sh (cj M),.ow (.lst (lst w.ts.length (bB M) (A []))),.no,.no,.no]) ⟨_,_,_,rfl⟩
 have hfo:∀(tg:Ev->D->ak Ev) (s:Ev->ak Fl) (ρ:Ev),KD tg s ρ (cj M)=cg tg s (M.map (pM (bB M))) ρ:=λ_ _ _=>rfl;open_line with[dU,m9,i1,hc,hfo,hf]
 rfl
end
open K51 (Bd El mt pl eI dk cY cu gk eO fb iF fz bP w1 t4 j6)
open Vlu (mi gN)
open Way (Au)
open K11 (nums ways eQ)
open K12 (lenAt)
open K15 (jy gq)
theorem g7{α:Type}{f g:α->Rat}:∀{l:List α},(l.map λx=>f x+g x).sum=(l.map f).sum+(l.map g).sum
 |[]=>by simp[Ui]
 |a::l=>by
  have:=g7 (f:=f) (g:=g) (l:=l);simp only[Qf,QP,this]
  grind
theorem Ao{α:Type}{f:α->Rat}:∀{l:List α},(l.map λx=>c*f x).sum=c*(l.map f).sum
 |[]=>by simp[Rat.mul_zero]
 |a::l=>by
  have:=Ao (c:=c) (f:=f) (l:=l);simp only[Qf,QP,this]
  grind
theorem i5{α:Type}{f:α->Rat}:∀{l:List α},(∀x∈l,f x=0)->(l.map f).sum=0
 |[],_=>by simp
 |a::l,h=>by
  have:=i5 (f:=f) (l:=l) λx hx=>h x (Qi _ hx);rw[Qf,QP,this,h a Qq]
  grind
def gB{f:Nat->Rat}:((QL (n+1)).map f).sum=((QL n).map f).sum+f n:=by
 rw[List.range_succ,QI,Sf];simp[Ui]
theorem An{g:Nat->Rat}:∀{n:Nat},a<n->((QL n).map λk=>if k=a then g k else 0).sum=g a
 |0,h=>by omega
 |n+1,h=>by
  rw[gB]
  by_cases e:n=a
  .subst e
   rw[i5 λk hk=>if_neg (by have:=UL.mp hk;omega),if_pos rfl]
   grind
  .rw[An (n:=n) (by omega),if_neg e]
   grind
theorem wW{g:Nat->Rat}{n:Nat}:∀{y:am},y.Nodup->(∀k∈y,k<n)->((QL n).map λk=>if k∈y then g k else 0).sum=(y.map g).sum
 |[],_,_=>by rw[i5 λk _=>if_neg (by simp)];rfl
 |a::y,hn,hy=>by
  obtain⟨h1,h2⟩:=RP.mp hn;have ih:=wW (g:=g) (n:=n) h2 λk hk=>hy k (Qi _ hk);have e:(λk=>if k∈a::y then g k else 0)=λk=>(if k=a then g k else 0)+(if k∈y then g k else 0):=by
   funext k
   by_cases hk:k=a
   .subst hk
    rw[if_pos Qq,if_pos rfl,if_neg h1];grind
   .by_cases hk':k∈y
    .rw[if_pos (Qi _ hk'),if_neg hk,if_pos hk'];grind
    .rw[if_neg (by simp[hk,hk']),if_neg hk,if_neg hk'];grind
  rw[e,g7,An (hy a Qq),ih,Qf,QP]
theorem M3:∀{M:List (am×Nat)},(∀p∈M,p.1.Nodup/\∀n∈p.1,n<w.ts.length)->(M.map λp=>q T p.2*Ey w p.1).sum=((QL w.ts.length).map λk=>q T (A M k)*val (lenAt w k)).sum
 |[],_=>by
  rw[i5 (l:=QL _) λk _=>?_]
  .rfl
  .show q T 0*_=0
   rw[qD];grind
 |p::M,h=>by
  have ih:=M3 (w:=w) (T:=T) (M:=M) λp hp=>h p (Qi _ hp);obtain⟨h1,h2⟩:=h p Qq;have e:(λk=>q T (A (p::M) k)*val (lenAt w k))=λk=>(if k∈p.1 then q T p.2*val (lenAt w k) else 0)+q T (A M k)*val (lenAt w k):=by
   funext k;have:A (p::M) k=(if k∈p.1 then p.2 else 0)+A M k:=rfl;rw[this,Az]
   by_cases hk:k∈p.1
   .rw[if_pos hk,if_pos hk];grind
   .rw[if_neg hk,if_neg hk,qD];grind
  rw[e,g7,←ih,wW h1 h2,Qf,QP,Ao];rfl
def dA(h:yN x):Bd x 40:=by
 have c1:=h.lo.q1;have c2:=h.p0;have c3:=h.p1;have c4:=h.q1;refine⟨by omega,?_,?_⟩
 .rw[show(2:Nat) ^ 40=1099511627776 from by decide];omega
 .rw[show(2:Nat) ^ 40=1099511627776 from by decide];omega
section
variable {w:j7}(W:cq w) (hw:∀t∈w.ts,j8 t)
include W hw
omit W in
theorem Ez{k:Nat}(h:k<w.ts.length):Bd (lenAt w k) 40:=by
 rw[K12.lenAt_of (P5 h)];exact dA (hw _ (R7 h)).1
theorem Co(h:jy w [] ⟨[],[],w.fi⟩ y)(hl:y.length<=7):∃x,cN [aS w,dO y]=.ok (fr x)/\Low x/\Bd x 288/\val x=Ey w y:=by
 obtain⟨nd,hn⟩:=qh h;have he:∀d∈nums y,K11.Elt d:=λd hd=>by
  obtain⟨n,_,rfl⟩:=QO.mp hd;exact .inl rfl
 have ht:m_look_at_taking [aS w,.lst []]=.ok .non:=B3 W K12.tak0;have hlw:m_look_at_way [aS w,.lst [],dO y]=.ok .non:=by
  rcases K11.way_list W (ks:=[]) he (by rw[K15.nums_len];omega) with⟨j,h1,_⟩|⟨_,d,h2⟩
  .rw[Way.end_none W h]at h1;cases h1
  .have h2:K11.m_walk_way [aS w,.lst [],dO y]=.ok d:=h2
   open_line with[K11.m_look_at_way,K11.b_look_at_way,ht,h2]
 have hnx:noX m_look_at_way [aS w,.lst [],dO y]=.ok .non:=Ke hlw;obtain⟨s,hs,sl,sb,sv⟩:=ql (n:=40) (xs:=y.map (lenAt w)) (λx hx=>by
  obtain⟨k,hk,rfl⟩:=QO.mp hx;exact Ez hw (hn k hk)) (by rw[P7];omega) (by decide)
 have hc:eT 1 [0] (b6 0) mYes (ag (ag (ag (ae 1) (dC (.int 1)) aO) (ae 0) aO) (dC (.int 3)) aO) [.sh (aS w),.sh (dO y)] (nums y)=.ok (.lst ((y.map (lenAt w)).map fr)):=by
  rw[show nums y=y.map λn:Nat=>D.int (n:Int) from rfl,bP (λn:Nat=>D.int (n:Int)) (λn=>some (fr (lenAt w n))) (by omega)]
  .rw[RE,RD];rfl
  .intro k hk
   refine⟨[.sh (.int (k:Int)),.sh (aS w)],rfl,.inr ⟨_,rfl,rfl,?_⟩⟩;obtain⟨x1,x2⟩:=K12.len_ix (hn k hk);open_line with[w1,x1,x2]
 have hsL:og (dO y)=.ok (nums y):=rfl;refine⟨s,?_,sl,sb.up (by rw[P7];omega),by rw[sv,RD];rfl⟩;open_line with[cN,oU,hnx,hsL,hc,hs]
end
open K51 (Bd El mt pl eI dk cY cu gk eO fb iF fz bP w1 t4 j6)
open Vlu (mi gN)
open Way (Au)
open K11 (nums ways eQ)
open K12 (lenAt)
open K15 (jy gq)
noncomputable def K1(r a l:e8):Option e8->Rat
 |none=>0
 |some o=>val a*(if val r*val o<val l then val l-val r*val o else 0)
noncomputable def cv(w:j7) (as:List e8) (M:List (am×Nat)) (r:e8) (k:Nat):Rat:=K1 r (as.getD k (0,1)) (ld M k) ((w.ts[k]?).bind vk.o)
noncomputable def lv(w:j7) (M:List (am×Nat)) (k:Nat):Rat:=val (ld M k)*val (lenAt w k)
structure Rt (r:e8):Prop where
 lo:Low r
 p0:0<=r.1
 b:Bd r 70
section
variable {w:j7}(W:cq w) (hw:∀t∈w.ts,j8 t) {M:List (am×Nat)}(X:Mx w M) {as:List e8}(hal:as.length=w.ts.length) (ha:∀a∈as,yN a) {p r:e8}(hp:yN p) (hr:Rt r)
include W hw X hal ha hp hr
omit W hp in
theorem above{k:Nat}{t:vk}(ht:w.ts[k]?=some t){o:e8}(ho:t.o=some o):Bd (mt r o) 110/\Low (mt r o)/\val (mt r o)=val r*val o:=by
 have h1:=dA ((hw t (Qh ht)).2 o ho);exact⟨fb hr.b h1,vO hr.b.q0 h1.q0,jA hr.b.q0 h1.q0⟩
theorem z8:∃c,et [aS w,.lst (as.map fr),cj M,fr r]=.ok (fr c)/\Low c/\Bd c 2465/\val c=((QL w.ts.length).map (cv w as M r)).sum:=by
 have t14:=W.t14;obtain⟨ρ',hf,xs,y5,y6,y7,rfl,hx,hxl,hxv⟩:=xU (tg:=dw [5,6]) (body:=(aA (er (ag (ag (ae 6) (dC (.int 4)) aO) (dC (.non)) ij)
 (aA (bJ 7 (aq (af (aq (af (ae 2) (af (ae 5) aC)) fv) (af (aq (af (ae 3) (af (ag (ae 6) (dC (.int 4)) aO) aC)) m_times) aC)) m_minus))
 (aA (cU 4 (aq (af (ag (ae 1) (ae 5) aO) (af (Nk (aq (af (dC (.tup [(.int 0),(.int 1)])) (af (ae 7) aC)) m_is_less) (ae 7) (dC (.tup [(.int 0),(.int 1)]))) aC)) m_times))
 aw))
 aw)
 aw)) bI (λpre ρ=>∃xs y5 y6 y7,ρ=[.sh (aS w),.sh (.lst (as.map fr)),.sh (cj M),.sh (fr r),.ow (.lst (xs.map fr)),y5,y6,y7]/\(∀x∈xs,Bd x 175)/\xs.length<=pre.length/\(xs.map val).sum=((QL pre.length).map (cv w as M r)).sum) (L:=w.ts) (by
  rintro pre t post hM ρ ⟨xs,y5,y6,y7,rfl,hx,hxl,hxv⟩;have hk:pre.length<w.ts.length:=by rw[hM];simp
  have ht:w.ts[pre.length]?=some t:=by rw[hM];simp
  have hka:pre.length<as.length:=by omega
  have haa:as[pre.length]?=some as[pre.length]:=P5 hka;have hia:aO (.lst (as.map fr)) (.int (pre.length:Int))=.ok (fr as[pre.length]):=ir (by rw[Qg,haa];rfl);have ea:=dA (ha as[pre.length] (R7 hka));have hcv:cv w as M r pre.length=K1 r as[pre.length] (ld M pre.length) t.o:=by
   unfold cv;rw[ht,UM,haa];rfl
  have hlo:=qY X (k:=pre.length);have hl:(pre++[t]).length=pre.length+1:=by simp
  cases ho:t.o with
  |none=>
   have t4':aO (bI t) (.int 4)=.ok .non:=by rw[t4,ho];rfl
   refine⟨[.sh (aS w),.sh (.lst (as.map fr)),.sh (cj M),.sh (fr r),.ow (.lst (xs.map fr)),.sh (.int (pre.length:Int)),.sh (bI t),y7],_,rfl,?_,xs,.sh (.int (pre.length:Int)),.sh (bI t),y7,rfl,hx,by omega,?_⟩
   .open_line with[t4']
   .rw[hl,gB,hxv,hcv,ho]
    show _=_+(0:Rat)
    grind
  |some o=>
   obtain⟨b1,l1,v1⟩:=above hw X hal ha hr ht ho;have t4':aO (bI t) (.int 4)=.ok (fr o):=by rw[t4,ho];rfl
   have hn:ij (fr o) .non=.ok (.bl true):=rfl;have hti:=cY hr.b (dA ((hw t (Qh ht)).2 o ho)) (by decide);have lb:=AZ X (k:=pre.length);have hmi:=gN lb b1 (by decide);have mb:Bd (mi (ld M pre.length) (mt r o)) 135:=MG lb b1;have hle:=gk FH mb (by decide) (by decide);rw[show fr (0,1)=.tup [.int 0,.int 1] from rfl,Bf (by decide) mb.q0,Gr,Df lb.q0 b1.q0,v1]at hle;have hap:decide ((xs.map fr).length<=999)=true:=decide_eq_true (by rw[P7];omega)
   by_cases hc:val r*val o<val (ld M pre.length)
   .have hc':0<val (ld M pre.length)-val r*val o:=by grind
    rw[decide_eq_true hc']at hle;have htm:=cY ea mb (by decide);refine⟨[.sh (aS w),.sh (.lst (as.map fr)),.sh (cj M),.sh (fr r),.ow (.lst (xs.map fr)),.sh (.int (pre.length:Int)),.sh (bI t),y7],[.sh (aS w),.sh (.lst (as.map fr)),.sh (cj M),.sh (fr r),.ow (.lst ((xs++[mt as[pre.length] (mi (ld M pre.length) (mt r o))]).map fr)),.sh (.int (pre.length:Int)),.sh (bI t),.sh (fr (mi (ld M pre.length) (mt r o)))],rfl,?_,_,_,_,_,rfl,?_,?_,?_⟩
    .rw[QI]
     open_line with[t4',hn,hlo,hti,hmi,hia,hle,htm,eu hap]
    .intro x hx'
     rcases QQ.mp hx' with h|h
     .exact hx x h
     .rw[Qn.mp h];exact fb ea mb
    .rw[Qz,Qz];simp;exact hxl
    .rw[QI,Sf,hxv,hl,gB,hcv,ho]
     simp only[Qf,RS,QP,List.sum_nil,K1];rw[if_pos hc,jA ea.q0 mb.q0,Df lb.q0 b1.q0,v1]
     grind
   .have hc':¬0<val (ld M pre.length)-val r*val o:=by grind
    rw[decide_eq_false hc']at hle;have htm:=cY ea FH (by decide);rw[show fr (0,1)=.tup [.int 0,.int 1] from rfl]at htm;refine⟨[.sh (aS w),.sh (.lst (as.map fr)),.sh (cj M),.sh (fr r),.ow (.lst (xs.map fr)),.sh (.int (pre.length:Int)),.sh (bI t),y7],[.sh (aS w),.sh (.lst (as.map fr)),.sh (cj M),.sh (fr r),.ow (.lst ((xs++[mt as[pre.length] (0,1)]).map fr)),.sh (.int (pre.length:Int)),.sh (bI t),.sh (fr (mi (ld M pre.length) (mt r o)))],rfl,?_,_,_,_,_,rfl,?_,?_,?_⟩
    .rw[QI]
     open_line with[t4',hn,hlo,hti,hmi,hia,hle,htm,eu hap]
    .intro x hx'
     rcases QQ.mp hx' with h|h
     .exact hx x h
     .rw[Qn.mp h];exact(fb ea FH).up (by decide)
    .rw[Qz,Qz];simp;exact hxl
    .rw[QI,Sf,hxv,hl,gB,hcv,ho]
     simp only[Qf,RS,QP,List.sum_nil,K1];rw[if_neg hc,jA ea.q0 (by decide),Gr]
     grind) (ρ:=[.sh (aS w),.sh (.lst (as.map fr)),.sh (cj M),.sh (fr r),.ow (.lst (([]:List e8).map fr)),.no,.no,.no]) ⟨[],_,_,_,rfl,λx hx=>(nomatch hx),Ql _,rfl⟩
 obtain⟨s,hs,sl,sb,sv⟩:=ql (n:=175) hx (by omega) (by decide);have hsE:Aq (.lst (w.ts.map bI))=.ok (DL.numbered 0 (w.ts.map bI)):=rfl;refine⟨s,?_,sl,sb.up (by omega),by rw[sv,hxv]⟩;rw[RS]at hf;open_line with[et,ju,w1,hsE,hf,hs]
end
open K51 (Bd El mt pl eI dk cY cu gk eO fb iF fz bP w1 t4 j6)
open Vlu (mi gN)
open Way (Au)
open K11 (nums ways eQ)
open K12 (lenAt)
open K15 (jy gq)
section
variable {w:j7}(W:cq w) (hw:∀t∈w.ts,j8 t) {M:List (am×Nat)}(X:Mx w M) {as:List e8}(hal:as.length=w.ts.length) (ha:∀a∈as,yN a) {p r:e8}(hp:yN p) (hr:Rt r)
include W hw X hal ha hp hr
omit W hw X hal ha hp in
theorem GN:dR [fr r]=.ok .non:=by
 have h1:m_is_ratio [fr r]=.ok (.bl true):=gF hr.lo;have j0:aO (fr r) (.int 0)=.ok (.int r.1):=rfl;have h2:=hr.p0;open_line with[dR,iW,h1,j0,decide_eq_false (show ¬r.1<0 by omega)]
omit hal ha hp hr in
theorem Hq:∃s,(∀B:Ev,B[0]?=some (.sh (aS w))->(eT 2 [0] (dw [0,1]) mYes (aq (af (ae 1) (af (aq (af (ae 2) (af (ae 0) aC)) cN) aC)) m_times) B (M.map (pM (bB M)))).bind (λd=>m_sum_of [d])=.ok (fr s))/\Low s/\Bd s 3131/\val s=((QL w.ts.length).map (lv w M)).sum:=by
 obtain⟨t0,t9⟩:=X.tot;have l9:=X.len;have hlen:∀p:{p // p∈M},∃x,cN [aS w,dO p.1.1]=.ok (fr x)/\Low x/\Bd x 288/\val x=Ey w p.1.1:=λp=>Co W hw (X.ext p.1 p.2).1 (X.ext p.1 p.2).2;have hf:∃f:am×Nat->e8,∀p∈M,cN [aS w,dO p.1]=.ok (fr (f p))/\Low (f p)/\Bd (f p) 288/\val (f p)=Ey w p.1:=by
  refine⟨λp=>if h:p∈M then Classical.choose (hlen ⟨p,h⟩) else(0,1),λp hp=>?_⟩;simp only[dif_pos hp];exact Classical.choose_spec (hlen ⟨p,hp⟩)
 obtain⟨f,hf⟩:=hf;have hsb:∀p∈M,Bd (sh (bB M) p.2) 24:=λp hp=>qp t0 t9 (by have:=X.le hp;omega);obtain⟨s,hs,sl,sb,sv⟩:=ql (n:=312) (xs:=M.map λp=>mt (sh (bB M) p.2) (f p)) (λx hx=>by
  obtain⟨p,hp,rfl⟩:=QO.mp hx;exact fb (hsb p hp) (hf p hp).2.2.1) (by rw[P7];omega) (by decide)
 refine⟨s,λB hB=>?_,sl,sb.up (by rw[P7];omega),?_⟩
 .rw[bP (pM (bB M)) (λp=>some (fr (mt (sh (bB M) p.2) (f p)))) (by omega)]
  .rw[RE]
   rw[RD]at hs;exact hs
  .intro p hp
   have hb:cO 2 [0] B=[.no,.no,.sh (aS w)]:=by
    unfold cO;simp[hB]
   rw[hb];refine⟨[.sh (dO p.1),.sh (fr (sh (bB M) p.2)),.sh (aS w)],rfl,.inr ⟨_,rfl,rfl,?_⟩⟩;have h1:=(hf p hp).1;have h2:=cY (hsb p hp) (hf p hp).2.2.1 (by decide);open_line with[h1,h2]
 .rw[sv,RD]
  have e:M.map (val∘λp=>mt (sh (bB M) p.2) (f p))=M.map λp=>q (bB M) p.2*Ey w p.1:=Sw λp hp=>by
   show val (mt _ _)=_;rw[jA (hsb p hp).q0 (hf p hp).2.2.1.q0,jE t0,(hf p hp).2.2.2]
  rw[e,M3 (w:=w) λp hp=>qh (X.ext p hp).1]
  congr 1
  exact Sw λk _=>by unfold lv;rw[EB X]
theorem zT:∃c,c7 [aS w,.lst (as.map fr),fr p,cj M,fr r]=.ok (fr c)/\Low c/\val c=val r*val p+((QL w.ts.length).map λk=>lv w M k+cv w as M r k).sum:=by
 have h1:=K51.adds_ok W hal λa h=>j6 (ha a h);have h2:m_look_at_purse [fr p]=.ok .non:=DR hp.lo hp.p0;have h3:=En W X;have h4:=GN hr;obtain⟨s,hs,sl,sb,sv⟩:=Hq W hw X;have hs':=hs [.sh (aS w),.sh (.lst (as.map fr)),.sh (fr p),.sh (cj M),.sh (fr r),.no] rfl;have hti:=cY hr.b (dA hp) (by decide);have tb:Bd (mt r p) 110:=fb hr.b (dA hp);have hp1:=eI sb tb (by decide);have pb:Bd (pl s (mt r p)) 3242:=iF sb tb;obtain⟨c,hc,cl,cb,cvl⟩:=z8 W hw X hal ha hp hr;have hp2:=eI pb cb (by decide);have hsL:og (cj M)=.ok (M.map (pM (bB M))):=rfl;obtain⟨d,hd⟩:∃d,eT 2 [0] (dw [0,1]) mYes (aq (af (ae 1) (af (aq (af (ae 2) (af (ae 0) aC)) cN) aC)) m_times) [.sh (aS w),.sh (.lst (as.map fr)),.sh (fr p),.sh (cj M),.sh (fr r),.no] (M.map (pM (bB M)))=.ok d:=by
  cases e:eT 2 [0] (dw [0,1]) mYes (aq (af (ae 1) (af (aq (af (ae 2) (af (ae 0) aC)) cN) aC)) m_times) [.sh (aS w),.sh (.lst (as.map fr)),.sh (fr p),.sh (cj M),.sh (fr r),.no] (M.map (pM (bB M))) with|ok d=>exact⟨d,rfl⟩|exn x|stuck=>rw[e]at hs';cases hs'
 rw[hd]at hs';have hs':m_sum_of [d]=.ok (fr s):=hs';refine⟨pl (pl s (mt r p)) c,?_,qH pb.q0 cb.q0,?_⟩
 .open_line with[c7,jX,h1,h2,h3,h4,hsL,hd,hs',hti,hp1,hc,hp2]
 .rw[kO pb.q0 cb.q0,kO sb.q0 tb.q0,jA hr.b.q0 (dA hp).q0,sv,cvl,g7]
  grind
theorem CJ:∃c,dW [aS w,.lst (as.map fr),fr p,cj M,fr r]=.ok (fr c)/\Low c/\val c=val r*val p+((QL w.ts.length).map λk=>lv w M k+cv w as M r k).sum:=by
 have t14:=W.t14;have hti:aX [fr r,fr p]=.ok (fr (mt r p)):=cu hr.b (dA hp) (by decide);have tb:Bd (mt r p) 110:=fb hr.b (dA hp);have hlo:=qX X W;have hlen:cT (.lst (w.ts.map bI))=.ok (.int w.ts.length):=by rw[cX,P7]
 obtain⟨ρ',hf,c,y7,y8,y9,y10,rfl,cl,cb,cvl⟩:=pQ (i:=7) (body:=(aA (bJ 8 (ag (ag (ae 0) (dC (.int 1)) aO) (ae 7) aO))
 (aA (bJ 5 (aq (af (ae 5) (af (aq (af (ag (ae 6) (ae 7) aO) (af (ag (ae 8) (dC (.int 3)) aO) aC)) aX) aC)) bp))
 (aA (er (ag (ag (ae 8) (dC (.int 4)) aO) (dC (.non)) ij)
 (aA (bJ 9 (aq (af (ae 4) (af (ag (ae 8) (dC (.int 4)) aO) aC)) aX))
 (aA (er (aq (af (ae 9) (af (ag (ae 6) (ae 7) aO) aC)) df)
 (aA (bJ 10 (aq (af (ag (ae 6) (ae 7) aO) (af (aq (af (ag (dC (.int 0)) (ag (ae 9) (dC (.int 0)) aO) ku) (af (ag (ae 9) (dC (.int 1)) aO) aC)) gj) aC)) bp))
 (aA (bJ 5 (aq (af (ae 5) (af (aq (af (ag (ae 1) (ae 7) aO) (af (ae 10) aC)) aX) aC)) bp))
 aw))
 aw)
 aw))
 aw)
 aw)))) (λk ρ=>∃c y7 y8 y9 y10,ρ=[.sh (aS w),.sh (.lst (as.map fr)),.sh (fr p),.sh (cj M),.sh (fr r),.sh (fr c),.sh (gO w M),y7,y8,y9,y10]/\Low c/\Bd c (110+242*k)/\val c=val r*val p+((QL k).map λk=>lv w M k+cv w as M r k).sum) (n:=w.ts.length) (by
  rintro k hk ρ ⟨c,y7,y8,y9,y10,rfl,cl,cb,cvl⟩;have ht:w.ts[k]?=some w.ts[k]:=P5 hk;generalize w.ts[k]=t at ht;have h1:aO (.lst (w.ts.map bI)) (.int (k:Int))=.ok (bI t):=nu ht;have hka:k<as.length:=by omega
  have haa:as[k]?=some as[k]:=P5 hka;have hia:aO (.lst (as.map fr)) (.int (k:Int))=.ok (fr as[k]):=ir (by rw[Qg,haa];rfl);have ea:=dA (ha as[k] (R7 hka));have hil:aO (gO w M) (.int (k:Int))=.ok (fr (ld M k)):=ir (by rw[Qg,Sx hk];rfl);have t3':aO (bI t) (.int 3)=.ok (fr t.l):=rfl;have eL:lenAt w k=t.l:=K12.lenAt_of ht;have bl:Bd t.l 40:=dA (hw t (Qh ht)).1;have lb:=AZ X (k:=k);have hlt:aX [fr (ld M k),fr t.l]=.ok (fr (mt (ld M k) t.l)):=cu lb bl (by decide);have mb:Bd (mt (ld M k) t.l) 64:=fb lb bl;have hpl:bp [fr c,fr (mt (ld M k) t.l)]=.ok (fr (pl c (mt (ld M k) t.l))):=dk cb mb (by omega);have pb:Bd (pl c (mt (ld M k) t.l)) (110+242*k+65):=(iF cb mb).up (by omega);have plo:Low (pl c (mt (ld M k) t.l)):=qH cb.q0 mb.q0;have pv:val (pl c (mt (ld M k) t.l))=val c+lv w M k:=by
   rw[kO cb.q0 mb.q0,jA lb.q0 bl.q0];unfold lv;rw[eL]
  have hcv:cv w as M r k=K1 r as[k] (ld M k) t.o:=by
   unfold cv;rw[ht,UM,haa];rfl
  cases ho:t.o with
  |none=>
   have t4':aO (bI t) (.int 4)=.ok .non:=by rw[t4,ho];rfl
   refine⟨_,?_,pl c (mt (ld M k) t.l),.sh (.int (k:Int)),.sh (bI t),y9,y10,rfl,plo,pb.up (by omega),?_⟩
   .open_line with[w1,h1,t3',t4',hil,hlt,hpl]
   .rw[pv,cvl,gB,hcv,ho]
    show _=_+(_+(_+(0:Rat)))
    grind
  |some o=>
   obtain⟨b1,l1,v1⟩:=above hw X hal ha hr ht ho;have t4':aO (bI t) (.int 4)=.ok (fr o):=by rw[t4,ho];rfl
   have hn:ij (fr o) .non=.ok (.bl true):=rfl;have hto:aX [fr r,fr o]=.ok (fr (mt r o)):=cu hr.b (dA ((hw t (Qh ht)).2 o ho)) (by decide);have hle:df [fr (mt r o),fr (ld M k)]=.ok (.bl (flt (mt r o) (ld M k))):=eO b1 lb (by decide) (by decide);rw[Bf b1.q0 lb.q0,v1]at hle
   by_cases hc:val r*val o<val (ld M k)
   .rw[decide_eq_true hc]at hle
    have nb:=Kg b1;have hmo:bp [fr (ld M k),fr (0-(mt r o).1,(mt r o).2)]=.ok (fr (pl (ld M k) (0-(mt r o).1,(mt r o).2))):=dk lb nb (by decide);have ob:Bd (pl (ld M k) (0-(mt r o).1,(mt r o).2)) 135:=iF lb nb;have hta:aX [fr as[k],fr (pl (ld M k) (0-(mt r o).1,(mt r o).2))]=.ok (fr (mt as[k] (pl (ld M k) (0-(mt r o).1,(mt r o).2)))):=cu ea ob (by decide);have ab:Bd (mt as[k] (pl (ld M k) (0-(mt r o).1,(mt r o).2))) 175:=fb ea ob;have hp3:bp [fr (pl c (mt (ld M k) t.l)),fr (mt as[k] (pl (ld M k) (0-(mt r o).1,(mt r o).2)))]=.ok (fr (pl (pl c (mt (ld M k) t.l)) (mt as[k] (pl (ld M k) (0-(mt r o).1,(mt r o).2))))):=dk pb ab (by omega);have j0:aO (fr (mt r o)) (.int 0)=.ok (.int (mt r o).1):=rfl;have j1:aO (fr (mt r o)) (.int 1)=.ok (.int (mt r o).2):=rfl;have hsub:ku (.int 0) (.int (mt r o).1)=.ok (.int (0-(mt r o).1)):=rfl;have hfr:D.tup [.int (0-(mt r o).1),.int (mt r o).2]=fr (0-(mt r o).1,(mt r o).2):=rfl;refine⟨_,?_,pl (pl c (mt (ld M k) t.l)) (mt as[k] (pl (ld M k) (0-(mt r o).1,(mt r o).2))),.sh (.int (k:Int)),.sh (bI t),.sh (fr (mt r o)),.sh (fr (pl (ld M k) (0-(mt r o).1,(mt r o).2))),rfl,qH pb.q0 ab.q0,(iF pb ab).up (by omega),?_⟩
    .open_line with[w1,h1,t3',t4',hil,hlt,hpl,hn,hto,hle,j0,j1,hsub,hfr,hmo,hia,hta,hp3]
    .rw[kO pb.q0 ab.q0,pv,cvl,gB,hcv,ho,jA ea.q0 ob.q0,kO lb.q0 nb.q0,Gq,v1]
     simp only[K1];rw[if_pos hc]
     grind
   .rw[decide_eq_false hc]at hle
    refine⟨_,?_,pl c (mt (ld M k) t.l),.sh (.int (k:Int)),.sh (bI t),.sh (fr (mt r o)),y10,rfl,plo,pb.up (by omega),?_⟩
    .open_line with[w1,h1,t3',t4',hil,hlt,hpl,hn,hto,hle]
    .rw[pv,cvl,gB,hcv,ho]
     simp only[K1];rw[if_neg hc]
     grind) (ρ:=[.sh (aS w),.sh (.lst (as.map fr)),.sh (fr p),.sh (cj M),.sh (fr r),.sh (fr (mt r p)),.sh (gO w M),.no,.no,.no,.no]) ⟨mt r p,_,_,_,_,rfl,vO hr.b.q0 (dA hp).q0,tb,by rw[jA hr.b.q0 (dA hp).q0];simp[Ui]⟩
 have hfr:=λs:Ev->ak Fl=>lN (tg:=b6 7) (s:=s) (ρ:=[.sh (aS w),.sh (.lst (as.map fr)),.sh (fr p),.sh (cj M),.sh (fr r),.sh (fr (mt r p)),.sh (gO w M),.no,.no,.no,.no]) (k:=w.ts.length) (by omega);refine⟨c,?_,cl,cvl⟩;open_line with[dW,nc,hti,hlo,w1,hlen,hfr,hf]
theorem zU:∃c,c7 [aS w,.lst (as.map fr),fr p,cj M,fr r]=.ok (fr c)/\dW [aS w,.lst (as.map fr),fr p,cj M,fr r]=.ok (fr c):=by
 obtain⟨c,h1,l1,v1⟩:=zT W hw X hal ha hp hr;obtain⟨c',h2,l2,v2⟩:=CJ W hw X hal ha hp hr;have:c=c':=lp l1 l2 (v1.trans v2.symm);subst this;exact⟨c,h1,h2⟩
end
end K54
namespace K51
open PySem L2 DL Com Bor
def Aw(h0:0<n)(hn:n<=1919)(h:i.natAbs<2 ^ n):Rp (.int i) (n+1) 0:=by
 refine⟨.int i,by rw[fK],?_,by rw[SQ]<;>simp,?_⟩
 .rw[Sd]
  refine decide_eq_true ?_
  by_cases h0:i.natAbs=0
  .rw[h0];decide
  .exact Qk ((Vz h0).mpr h) (by omega)
 .rw[SO,SX]
  cases i with
  |ofNat m=>
   have:=nat_repr_length_le (n:=m) (k:=n) h0 h;show(Vx m).length<=n+1;omega
  |negSucc m=>
   have:=nat_repr_length_le (n:=m+1) (k:=n) h0 h;show("-"++Vx (m+1)).length<=n+1;rw[Vt];have h1 : "-".length=1:=rfl;omega
def rp_frN(h:Bd x n)(h0:0<n)(hn:n<=1919):Rp (fr x) (2*n+9) 1 :=
 (Rp.tup (gX.cons (Aw h0 hn h.a) (gX.cons (Aw h0 hn h.b) gX.nil))).up (by simp;omega) (Ql _)
def JO(h:Pk e):Rp e 500 1:=by
 rcases h with⟨x,rfl,ex⟩|h
 .exact(rp_frN ex.bd (by decide) (by decide)).up (by decide) (by decide)
 .have two:∀a b:D,Rp a 201 0->Rp b 201 0->Rp (.tup [a,b]) 500 1:=λa b ha hb=>(Rp.tup (gX.cons ha (gX.cons hb gX.nil))).up (by simp) (by decide)
  have ii:∀i:Int,i.natAbs<2 ^ 200->Rp (.int i) 201 0:=λi h=>Rp.int h;have bb:∀b:Bool,Rp (.bl b) 201 0:=λb=>Rp.bl.up (by decide) (by decide);simp only[Mw,Qs,R5,or_false]at h;rcases h with rfl|rfl|rfl|rfl|rfl|rfl|rfl|rfl|rfl|rfl|rfl
  .exact Rp.non.up (by decide) (by decide)
  .exact Rp.bl.up (by decide) (by decide)
  .exact(ii 0 (by decide)).up (by decide) (by decide)
  .exact(Rp.str (n:=8) (by decide) (by decide)).up (by decide) (by decide)
  .exact two _ _ (ii _ (by decide)) (ii _ (by decide))
  .exact two _ _ (ii _ (by decide)) (ii _ (by decide))
  .exact two _ _ (ii _ (by decide)) (ii _ (by decide))
  .exact two _ _ (ii _ (by decide)) (ii _ (by decide))
  .exact two _ _ (bb _) (ii _ (by decide))
  .exact two _ _ (ii _ (by decide)) (bb _)
  .exact(Rp.lst (gX.cons (ii 0 (by decide)) (gX.cons (ii 1 (by decide)) gX.nil))).up (by simp) (by decide)
def rp_eles(hl:th.length<=n)(h:∀e∈th,Pk e):Rp (.lst th) (502*n+3) 2/\Rp (.tup th) (502*n+3) 2:=by
 have r:=gX.all (a:=500) (k:=1) (ds:=th) λd hd=>JO (h d hd);exact⟨(Rp.lst r).up (by omega) (by decide),(Rp.tup r).up (by omega) (by decide)⟩
def OC:yN (0,1):=⟨⟨by decide,by decide⟩,by decide,by decide,by decide⟩
def adds_drawn(a:P9)(W:cq w)(S:St st):∃(as:List e8) (st':ac),eF a st [aS w]=.ok (.lst (as.map fr),st')/\as.length=w.ts.length/\(∀x∈as,yN x)/\St st':=by
 have t14:=W.t14;obtain⟨ρ2,st2,hl,as,x3,x4,rfl,hal,ha,S2⟩:=jK (tg:=b6 3) (body:=(aV (dD 4 (bD 0 a (aT (mP (dC (.int 0))) b4) bC))
 (aV (vR 2 (mB (mP (aq (af (ae 4) (af (ae 4) (af (aq (af (dC (.int 0)) (af (dC (.int 1)) aC)) gj) aC))) b9)) (bD 0 a (aT (mP (dC (.int 3))) b4) aH) aO))
 bS)))
  (λj ρ st=>∃(as:List e8) (x3 x4:Sl),ρ=[.pt a,.sh (aS w),.ow (.lst (as.map fr)),x3,x4]/\as.length=j/\(∀x∈as,yN x)/\St st) (w.ts.map bI) (by
   rintro j d ρ st hj ⟨as,x3,x4,rfl,rfl,ha,S⟩;have hjt:as.length<w.ts.length:=by have:=(Qa.mp hj).1;rwa [P7]at this
   obtain⟨x,st1,t1,_,_,_,ax,S1⟩:=fF a (l:=0) (.inl rfl) S;obtain⟨v,st2,t2,v0,v1,S2⟩:=bQ a (n:=3) (by decide) (by decide) S1;obtain⟨y,hy,ay⟩:∃y:e8,aO (.lst [fr x,fr x,.tup [.int 0,.int 1]]) (.int v)=.ok (fr y)/\yN y:=by
    have:v=0∨v=1∨v=2:=by omega
    rcases this with rfl|rfl|rfl
    .exact⟨x,rfl,ax⟩
    .exact⟨x,rfl,ax⟩
    .exact⟨(0,1),rfl,OC⟩
   have hap:decide ((as.map fr).length<=999)=true:=decide_eq_true (by rw[P7];omega);refine⟨_,[.pt a,.sh (aS w),.ow (.lst ((as++[y]).map fr)),.sh d,.sh (fr x)],st2,rfl,.inl ?_,as++[y],_,_,rfl,by simp,λu hu=>?_,S2⟩
   .open_line with[t1,t2,hy,mR hap,QI]
   .rcases QQ.mp hu with hu|hu
    .exact ha u hu
    .have:u=y:=by simpa using hu
     subst this;exact ay) 0 [.pt a,.sh (aS w),.ow (.lst []),.no,.no] st (R0 _) ⟨[],_,_,rfl,rfl,λx hx=>(nomatch hx),S⟩
 rw[RK]at hl;rw[P7]at hal;refine⟨as,st2,?_,hal,ha,S2⟩;open_line with[eF,oY,w1,hl]
end K51
namespace K54
open PySem L2 DL Com Bor Pth
open K51 (Bd El mt pl eI dk cY cu gk eO fb iF fz bP w1 t4 j6)
open Way (Au)
open K11 (nums ways eQ)
open K12 (lenAt)
open K15 (jy gq)
def CA:lJ i j f ρ st=zg ρ[j]? λds=>(f ρ st).bind (i7 i j ρ ds):=aJ rfl
def GK{i j n:Nat}(h:ds[n]?=some d)(hl:ds.length<line):i7 i j ρ ds (.int (n:Int),st)=.ok (.nx ((ρ.set j (.ow (.lst (ds.eraseIdx n)))).set i (.sh d)) st):=by
 have hn:=(Qa.mp h).1;unfold i7;simp only[A4 hn,h];rw[if_pos hl]
theorem lM{α:Type}{f:α->Int}:∀{L:List α},iu (L.map λx=>D.int (f x))=some (L.map f)
 |[]=>rfl
 |x::L=>by rw[Qf,iu,lM];rfl
theorem yC:∀{M:List (am×Nat)},(M.map λp=>(p.2:Int)).sum=(bB M:Int)
 |[]=>rfl
 |p::M=>by
  have:=yC (M:=M);unfold bB at *;rw[Qf,Qf,QP,QP,this];omega
noncomputable def GR(p:am×Nat):D:=.lst [dO p.1,.int (p.2:Int)]
theorem Bl{α:Type}{x:α}:∀{l:List α}{n:Nat},l[n]?=some x->(x::l.eraseIdx n).Perm l
 |[],_,h=>by simp at h
 |y::l,0,h=>by
  have:y=x:=by simpa using h
  subst this;exact U8.refl _
 |y::l,n+1,h=>by
  have ih:=Bl (l:=l) (n:=n) (by simpa using h);exact(U8.swap y x _).trans (U8.cons y ih)
theorem E5{α β:Type}{f:α->β}:∀{l:List α}{n:Nat},(l.map f).eraseIdx n=(l.eraseIdx n).map f
 |[],_=>rfl
 |y::l,0=>rfl
 |y::l,n+1=>by
  have ih:=E5 (f:=f) (l:=l) (n:=n);rw[Qf,TL,TL,Qf,ih]
def B6(a:P9)(hF:∀y∈F,jy w [] ⟨[],[],w.fi⟩ y/\y.length<=7)(nd:F.Nodup)(ne:F≠[])(hl:F.length<=100000)(S:St st):∃M st',eg a st [.lst (F.map dO)]=.ok (cj M,st')/\Mx w M/\M.length<=9/\St st':=by
 have hpos:0<F.length:=T4.mpr ne;have hln:100000<line:=by decide
 obtain⟨d9,st1,k1,d0,d8,S1⟩:=bQ a (n:=9) (by decide) (by decide) S;obtain⟨c,hc,c1,c9,cF⟩:∃c:Nat,(if(1+d9)<(F.length:Int) then(1+d9) else(F.length:Int))=(c:Int)/\1<=c/\c<=9/\c<=F.length:=by
  split
  .exact⟨(1+d9).toNat,by omega,by omega,by omega,by omega⟩
  .exact⟨F.length,rfl,by omega,by omega,by omega⟩
 have hmin:CG (.int (F.length:Int)) (.int (1+d9))=.ok (.int (c:Int)):=by
  show ak.ok (D.int (if(1+d9)<(F.length:Int) then(1+d9) else(F.length:Int)))=_;rw[hc]
 have hsr:qV (.int (c:Int),st1)=.ok (DL.intsFrom 0 c,st1):=mQ (by omega);have hci:(DL.intsFrom 0 c).length=c:=by unfold DL.intsFrom;simp
 have hlF:cT (.lst (F.map dO))=.ok (.int (F.length:Int)):=by rw[cX,P7]
 obtain⟨ρ2,st2,hf,M,Y,x4,x5,x6,rfl,hM,hY,hnd,hmem,hmany,S2⟩:=jK (tg:=b6 4) (body:=(aV (lJ 5 2 (bD 0 a (aT (mL (aq (af (ae 2) aC) (m1 cT))) b4) aH))
 (aV (dD 6 (mB (mP (aq (af (dC (.int 3)) (af (dC (.int 60)) (af (ag (dC (.int 10)) (dC (.int 6)) nW) aC))) b9)) (bD 0 a (aT (mP (dC (.int 3))) b4) aH) aO))
 (aV (vR 3 (mA (aT (mP (ae 5)) (aT (mB (mP (dC (.int 1))) (bD 0 a (aT (mP (ae 6)) b4) aH) cB) b4)) b9))
 bS))))
  (λj ρ st=>∃(M:List (am×Nat)) (Y:List (am)) (x4 x5 x6:Sl),ρ=[.pt a,.sh (.lst (F.map dO)),.ow (.lst (Y.map dO)),.ow (.lst (M.map GR)),x4,x5,x6,.no]/\M.length=j/\Y.length+j=F.length/\(M.map (·.1)++Y).Nodup/\(∀y∈M.map (·.1)++Y,y∈F)/\(∀p∈M,1<=p.2/\p.2<=1000000)/\St st) (DL.intsFrom 0 c) (by
   rintro j d ρ st hj ⟨M,Y,x4,x5,x6,rfl,rfl,hY,hnd,hmem,hmany,S⟩;have hjc:M.length<c:=by have:=(Qa.mp hj).1;omega
   have hYl:cT (.lst (Y.map dO))=.ok (.int (Y.length:Int)):=by rw[cX,P7]
   obtain⟨n,s1,t1,n0,n1,S1⟩:=bQ a (n:=(Y.length:Int)) (by omega) (by omega) S;obtain⟨n,rfl⟩:=Q3 n0;have n1:n<Y.length:=by have:(n:Int)<(Y.length:Int):=n1;omega
   have t1:aH a st [.int (Y.length:Int)]=.ok (.int (n:Int),s1):=t1;obtain⟨v,s2,t2,v0,v3,S2⟩:=bQ a (n:=3) (by decide) (by decide) S1;obtain⟨m,hm,m0,m1⟩:∃m:Int,aO (.lst [.int 3,.int 60,.int 1000000]) (.int v)=.ok (.int m)/\0<m/\m<=1000000:=by
    have:v=0∨v=1∨v=2:=by omega
    rcases this with rfl|rfl|rfl
    .exact⟨3,rfl,by decide,by decide⟩
    .exact⟨60,rfl,by decide,by decide⟩
    .exact⟨1000000,rfl,by decide,by decide⟩
   obtain⟨u,s3,t3,u0,u1,S3⟩:=bQ a (n:=m) m0 (by omega) S2;obtain⟨u,rfl⟩:=Q3 u0;have t3:aH a s2 [.int m]=.ok (.int (u:Int),s3):=t3;have u1:(u:Int)<m:=u1;have hy:Y[n]?=some Y[n]:=P5 n1;generalize Y[n]=y at hy;have hyD:(Y.map dO)[n]?=some (dO y):=by rw[Qg,hy];rfl
   have hsp:=λρ=>GK (i:=5) (j:=2) (ρ:=ρ) (st:=s1) hyD (by rw[P7];omega);have hpw:nW (.int 10) (.int 6)=.ok (.int 1000000):=rfl;have hap:decide ((M.map GR).length<=999)=true:=decide_eq_true (by rw[P7];omega);have hu:(1+(u:Int))=((1+u:Nat):Int):=by omega
   have hadd:cB (.int 1) (.int (u:Int))=.ok (.int ((1+u:Nat):Int)):=by rw[←hu];rfl
   have hpm:=Bl hy;have hpm2:(M.map (·.1)++[y]++Y.eraseIdx n).Perm (M.map (·.1)++Y):=by
    rw[Uo];exact U8.append_left _ hpm
   have hlen:(Y.eraseIdx n).length+1=Y.length:=by
    have:=hpm.length_eq;simpa using this
   refine⟨_,[.pt a,.sh (.lst (F.map dO)),.ow (.lst ((Y.eraseIdx n).map dO)),.ow (.lst ((M++[(y,1+u)]).map GR)),.sh d,.sh (dO y),.sh (.int m),.no],s3,rfl,.inl ?_,M++[(y,1+u)],Y.eraseIdx n,_,_,_,rfl,by simp,by omega,?_,?_,?_,S3⟩
   .have he:(Y.map dO).eraseIdx n=(Y.eraseIdx n).map dO:=E5
    rw[QI];rw[he]at hsp;have hprD:GR (y,1+u)=.lst [dO y,.int ((1+u:Nat):Int)]:=rfl;open_line with[CA,hYl,t1,hsp,hpw,t2,hm,t3,hadd,mR hap,hprD]
   .rw[QI]
    exact hpm2.nodup_iff.mpr hnd
   .intro z hz
    rw[QI]at hz;exact hmem z (hpm2.mem_iff.mp hz)
   .intro p hp
    rcases QQ.mp hp with hp|hp
    .exact hmany p hp
    .rw[Qn.mp hp]
     show 1<=1+u/\1+u<=1000000;omega) 0 [.pt a,.sh (.lst (F.map dO)),.ow (.lst (F.map dO)),.ow (.lst []),.no,.no,.no,.no] st1 (R0 _) ⟨[],F,_,_,_,rfl,rfl,by simp,by simpa using nd,λy hy=>by simpa using hy,λp hp=>(nomatch hp),S1⟩
 rw[RK]at hf;rw[hci]at hM hY;have htt:bB M<=9000000:=by
  have h1:=qk (B:=1000000) (L:=M.map (·.2)) λx hx=>by
   obtain⟨p,hp,rfl⟩:=QO.mp hx;exact(hmany p hp).2
  unfold bB;rw[P7]at h1;omega
 have X:Mx w M:=⟨λp hp=>hF p.1 (hmem p.1 (Rl _ (QO.mpr ⟨p,hp,rfl⟩))),λp hp=>(hmany p hp).1,htt,(SU.mp hnd).1,λe=>by rw[e]at hM;simp at hM;omega,by omega⟩
 obtain⟨t0,t9⟩:=X.tot;have hsum:∀B:Ev,eT 2 [] (dw [0,1]) mYes (ae 1) B (M.map GR)=.ok (.lst (M.map λp=>D.int (p.2:Int))):=λB=>by
  rw[bP GR (λp=>some (D.int (p.2:Int))) (by omega) λp hp=>⟨[.sh (dO p.1),.sh (.int (p.2:Int))],rfl,.inr ⟨_,rfl,rfl,rfl⟩⟩,RE]
 have hds:HW (.lst (M.map λp=>D.int (p.2:Int)))=.ok (.int (bB M:Int)):=by
  show(match iu (M.map λp=>D.int (p.2:Int)) with|some ns=>ak.ok (D.int ns.sum)|none=>.stuck)=_;rw[lM (f:=λp:am×Nat=>(p.2:Int))];simp only[yC]
 have hmk:∀B:Ev,B[7]?=some (.sh (.int (bB M:Int)))->eT 2 [7] (dw [0,1]) mYes (aq (af (ae 0) (af (aq (af (ae 1) (af (ae 2) aC)) bx) aC)) gj) B (M.map GR)=.ok (cj M):=λB hB=>by
  have hb:cO 2 [7] B=[.no,.no,.sh (.int (bB M:Int))]:=by
   unfold cO;simp[hB]
  rw[bP GR (λp=>some (pM (bB M) p)) (by omega),RE]
  .rfl
  .intro p hp
   rw[hb];refine⟨[.sh (dO p.1),.sh (.int (p.2:Int)),.sh (.int (bB M:Int))],rfl,.inr ⟨_,rfl,rfl,?_⟩⟩;have hm:=hmany p hp;have hlo:bx [.int (p.2:Int),.int (bB M:Int)]=.ok (fr (sh (bB M) p.2)):=Cod.low_ok (by omega) (K51.small13 (by omega)) (K51.small13 (by omega));open_line with[hlo]
   rfl
 refine⟨M,st2,?_,X,by omega,S2⟩;have hsL:∀ds,og (.lst ds)=.ok ds:=λ_=>rfl;have hdl:uV (.lst (F.map dO))=.ok (.lst (F.map dO)):=rfl;have hmk':=hmk [.pt a,.sh (.lst (F.map dO)),.sh (.lst (Y.map dO)),.sh (.lst (M.map GR)),vy x4,vy x5,vy x6,.sh (.int (bB M:Int))] rfl;open_line with[eg,kM,hdl,hlF,k1,hmin,hsr,hf,hsL,hsum,hds,hmk']
open K51 (Bd El mt pl eI dk cY cu gk eO fb iF fz bP w1 t4 j6)
open Way (Au)
open K11 (nums ways eQ)
open K12 (lenAt)
open K15 (jy gq)
def PD:Rt (0,1):=⟨Ew,by decide,FH.up (by decide)⟩
def Dx(h:yN x):Rt x:=⟨h.lo,h.p0,(dA h).up (by decide)⟩
def Jr(W:cq w)(h:jy w [] ⟨[],[],w.fi⟩ y):y≠[]:=by
 obtain⟨r,e1,e2⟩:=Way.ext_walk W h;have:y=r:=by simpa using e1
 subst this;rintro rfl;obtain⟨s,hs⟩:=e2 0;have hs:K11.walk w [] [] w.fi 0 (nums [])=.inr (s++[w.la]):=hs;rw[show nums []=[] from rfl]at hs;unfold K11.walk at hs;have:=Tb.inj hs;cases s with|nil=>simp at this;exact W.ne this|cons a s=>simp at this
noncomputable def iM(l o:e8):e8:=oA (l.1*o.2) (l.2*o.1)
section
variable {w:j7}(W:cq w) (hw:∀t∈w.ts,j8 t) {M:List (am×Nat)}(X:Mx w M)
include W hw X
omit W in
theorem Ht{k:Nat}{o:e8}(ao:yN o)(o0:0<o.1):bx [.int ((ld M k).1*o.2),.int ((ld M k).2*o.1)]=.ok (fr (iM (ld M k) o))/\Rt (iM (ld M k) o)/\aX [fr (iM (ld M k) o),.tup [.int 59,.int 60]]=.ok (fr (mt (iM (ld M k) o) (59,60)))/\aX [fr (iM (ld M k) o),.tup [.int 60,.int 59]]=.ok (fr (mt (iM (ld M k) o) (60,59)))/\Rt (mt (iM (ld M k) o) (59,60))/\Rt (mt (iM (ld M k) o) (60,59)):=by
 have lb:=AZ X (k:=k);have ob:=dA ao;have hq:0<(ld M k).2*o.1:=RL lb.q0 o0;have b1:((ld M k).1*o.2).natAbs<2 ^ 64:=K51.mul_p2 lb.a ob.b;have b2:((ld M k).2*o.1).natAbs<2 ^ 64:=K51.mul_p2 lb.b ob.a;have c13:Bd ((ld M k).1*o.2,(ld M k).2*o.1) 64:=⟨hq,b1,b2⟩
 have hc:=c13.c13 (by decide);have jb:Bd (iM (ld M k) o) 64:=fz hq b1 b2;have jl:Low (iM (ld M k) o):=ic hq;have l0:0<=(ld M k).1:=fw (by omega) (by have:=X.tot.1;omega);have j0:0<=(iM (ld M k) o).1:=fw (T2 l0 (by have:=ob.q0;omega)) hq;have s1:Bd (59,60) 6:=⟨by decide,by decide,by decide⟩
 have s2:Bd (60,59) 6:=⟨by decide,by decide,by decide⟩
 refine⟨Cod.low_ok hq hc.1 hc.2,⟨jl,j0,jb.up (by decide)⟩,cu (y:=(59,60)) jb s1 (by decide),cu (y:=(60,59)) jb s2 (by decide),⟨vO jb.q0 (by decide),fw (T2 j0 (by decide)) (RL jb.q0 (by decide)),fb jb s1⟩,⟨vO jb.q0 (by decide),fw (T2 j0 (by decide)) (RL jb.q0 (by decide)),fb jb s2⟩⟩
theorem DH(a:P9)(S:St st):∃(rs:List e8) (st':ac),eN a st [aS w,cj M]=.ok (.lst (rs.map fr),st')/\(∀r∈rs,Rt r)/\St st':=by
 have t14:=W.t14;have l9:=X.len;have mpos:0<M.length:=T4.mpr X.ne;have hlo:=qX X W;have hlM:cT (cj M)=.ok (.int (M.length:Int)):=by unfold cj;rw[cX,P7]
 obtain⟨i,s1,t1,i0,i1,S1⟩:=bQ a (n:=(M.length:Int)) (by omega) (by omega) S;obtain⟨i,rfl⟩:=Q3 i0;have t1:aH a st [.int (M.length:Int)]=.ok (.int (i:Int),s1):=t1;have i1:i<M.length:=by have:(i:Int)<(M.length:Int):=i1;omega
 have hp:M[i]?=some M[i]:=P5 i1;generalize M[i]=p at hp;have hpM:=Qh hp;have e1:aO (cj M) (.int (i:Int))=.ok (pM (bB M) p):=ir (by rw[Qg,hp];rfl);have e2:aO (pM (bB M) p) (.int 0)=.ok (dO p.1):=rfl;obtain⟨hE,h7⟩:=X.ext p hpM;have hne:=Jr W hE;have ypos:0<p.1.length:=T4.mpr hne;have hlY:cT (dO p.1)=.ok (.int (p.1.length:Int)):=by unfold dO;rw[cX,K15.nums_len]
 obtain⟨j,s2,t2,j0,j1,S2⟩:=bQ a (n:=(p.1.length:Int)) (by omega) (by omega) S1;obtain⟨j,rfl⟩:=Q3 j0;have t2:aH a s1 [.int (p.1.length:Int)]=.ok (.int (j:Int),s2):=t2;have j1:j<p.1.length:=by have:(j:Int)<(p.1.length:Int):=j1;omega
 have hk:p.1[j]?=some p.1[j]:=P5 j1;generalize p.1[j]=k at hk;have hkN:=(qh hE).2 k (Qh hk);have e3:aO (dO p.1) (.int (j:Int))=.ok (.int (k:Int)):=ir (by
  show(nums p.1)[j]?=_;unfold K11.nums;rw[Qg,hk];rfl)
 obtain⟨x,s3,t3,_,_,_,ax,S3⟩:=fF a (l:=1) (.inr rfl) S2;obtain⟨x',s4,t4',_,_,_,ax',S4⟩:=fF a (l:=0) (.inl rfl) S3;have ht:w.ts[k]?=some w.ts[k]:=P5 hkN;generalize w.ts[k]=t at ht;have e4:aO (.lst (w.ts.map bI)) (.int (k:Int))=.ok (bI t):=nu ht;have hil:aO (gO w M) (.int (k:Int))=.ok (fr (ld M k)):=ir (by rw[Qg,Sx hkN];rfl);have h3:∀r∈([(0,1),x,x']:List e8),Rt r:=λr hr=>by
  simp only[Qs,R5,or_false]at hr;rcases hr with rfl|rfl|rfl
  .exact PD
  .exact Dx ax
  .exact Dx ax'
 cases ho:t.o with
 |none=>
  have e5:aO (bI t) (.int 4)=.ok .non:=by rw[t4,ho];rfl
  refine⟨[(0,1),x,x'],s4,?_,h3,S4⟩;open_line with[eN,jn,hlo,hlM,t1,e1,e2,hlY,t2,e3,t3,t4',w1,e4,e5]
  rfl
 |some o=>
  have ao:=(hw t (Qh ht)).2 o ho;have o0:=((W.ts t (Qh ht)).o o ho).2;have e5:aO (bI t) (.int 4)=.ok (fr o):=by rw[t4,ho];rfl
  have hn:ij (fr o) .non=.ok (.bl true):=rfl;obtain⟨f1,R1,f2,f3,R2,R3⟩:=Ht hw X (k:=k) ao o0;have g0:aO (fr (ld M k)) (.int 0)=.ok (.int (ld M k).1):=rfl;have g1:aO (fr (ld M k)) (.int 1)=.ok (.int (ld M k).2):=rfl;have q0:aO (fr o) (.int 0)=.ok (.int o.1):=rfl;have q1:aO (fr o) (.int 1)=.ok (.int o.2):=rfl;have lb:=AZ X (k:=k);have ob:=dA ao;have b1:=lb.c60 (by decide);have b2:=ob.c60 (by decide);have m1:=bZ (c6 b1.1 b2.2);have m2:=bZ (c6 b1.2 b2.1);refine⟨[(0,1),x,x',iM (ld M k) o,mt (iM (ld M k) o) (59,60),mt (iM (ld M k) o) (60,59)],s4,?_,λr hr=>?_,S4⟩
  .open_line with[eN,jn,hlo,hlM,t1,e1,e2,hlY,t2,e3,t3,t4',w1,e4,e5,hn,hil,g0,g1,q0,q1,m1,m2,f1,f2,f3]
   rfl
  .rw[show[(0,1),x,x',iM (ld M k) o,mt (iM (ld M k) o) (59,60),mt (iM (ld M k) o) (60,59)]=[(0,1),x,x']++[iM (ld M k) o,mt (iM (ld M k) o) (59,60),mt (iM (ld M k) o) (60,59)] from rfl]at hr
   rcases QQ.mp hr with hr|hr
   .exact h3 r hr
   .simp only[Qs,R5,or_false]at hr
    rcases hr with rfl|rfl|rfl
    .exact R1
    .exact R2
    .exact R3
end
open K51 (Bd El mt pl bP w1 t4 j6)
open K11 (nums ways eQ)
open K15 (jy gq)
def JL(h:∀n∈y,n<14)(hl:y.length<=7):Rp (dO y) 1424 1:=GL (ks:=y) (n:=7) hl λk hk=>Qk (h k hk) (by decide)
section
variable {w:j7}(W:cq w) (hw:∀t∈w.ts,j8 t) {M:List (am×Nat)}(X:Mx w M)
include W X
theorem JN:Rp (cj M) 20000 4:=by
 have l9:=X.len;have t14:=W.t14;have h1:∀d∈M.map (pM (bB M)),Rp d 1600 3:=λd hd=>by
  obtain⟨p,hp,rfl⟩:=QO.mp hd;obtain⟨hE,h7⟩:=X.ext p hp;have a1:=(JL (y:=p.1) (λn hn=>by have:=(qh hE).2 n hn;omega) h7).up (n':=1424) (k':=2) (Ql _) (by decide);have a2:=(K51.rp_frN (qp (m:=p.2) X.tot.1 X.tot.2 (by have:=X.le hp;omega)) (by decide) (by decide)).up (n':=57) (k':=2) (by decide) (by decide);exact(Rp.tup (gX.cons a1 (gX.cons a2 gX.nil))).up (by simp) (by decide)
 have:=Rp.lst (gX.all h1);refine this.up ?_ (by decide);rw[P7];omega
omit W X in
theorem xm{x:e8}:cy [fr x]=.ok (.bl true):=by
 have hc:∀B:Ev,eT 1 [] (b6 0) (iQ (bV (ae 0) (eC "bool")) (cA (bV (ae 0) (eC "int")))) (ae 0) B [.int x.1,.int x.2]=.ok (.lst []):=λB=>by
  have:=bP (n:=1) (fr':=[]) (ρ:=B) (tg:=b6 0) (tt:=iQ (bV (ae 0) (eC "bool")) (cA (bV (ae 0) (eC "int")))) (fe:=ae 0) (λi:Int=>D.int i) (λ_=>none) (L:=[x.1,x.2]) (by simp) λi _=>⟨[.sh (.int i)],rfl,.inl ⟨rfl,by open_line with[]⟩⟩
  simpa using this
 have hsL:∀(A:Ev),Dq (ae 0) (.sh (.tup [.int x.1,.int x.2])::A)=.ok [.int x.1,.int x.2]:=λ_=>rfl;have hee:kH (.lst []) (.lst [])=.ok (.bl true):=rfl;rw[show fr x=.tup [.int x.1,.int x.2] from rfl];open_line with[cy,jv,hsL,hc,hee]
theorem EA:bq 40 (gO w M)=true:=by
 show(List.map _ _).all (bq 39)=true;refine QF.mpr λd hd=>?_;obtain⟨k,_,rfl⟩:=QO.mp hd;rfl
theorem Kl:kH (gO w M) (gO w M)=.ok (.bl true)/\gS (gO w M) (gO w M)=.ok (.bl false):=by
 have s:=EA W X;have e:=iO 40 _ s;constructor
 .unfold kH;rw[if_pos ⟨s,s⟩,e]
 .unfold gS;rw[if_pos ⟨s,s⟩,e];rfl
include hw
theorem DB(a:P9)(S:St st):∃st',eM a st [aS w,cj M]=.ok (.bl true,st'):=by
 have t14:=W.t14;obtain⟨as,s1,t1,hal,ha,S1⟩:=K51.adds_drawn a W S;obtain⟨p,s2,t2,_,_,_,ap,S2⟩:=fF a (l:=0) (.inl rfl) S1;have hlo:=qX X W;have hof:=zB X W;obtain⟨rs,s3,t3,hrs,S3⟩:=DH W hw X a S2;obtain⟨z,hz⟩:∃z,sS (.lst [aS w,.lst (as.map fr),fr p,cj M])=.ok (.str z):=by
  have h1:=JK W;have h2:Rp (.lst (as.map fr)) 8000 4:=by
   have:=(K51.rp_eles (th:=as.map fr) (n:=14) (by rw[P7];omega) (λe he=>by
    obtain⟨x,hx,rfl⟩:=QO.mp he;exact .inl ⟨x,rfl,j6 (ha x hx)⟩)).1
   exact this.up (by decide) (by decide)
  have h3:Rp (fr p) 4000 4:=(K51.rp_frN (dA ap) (by decide) (by decide)).up (by decide) (by decide);exact Rp.repr (Rp.lst (gX.cons h1 (gX.cons h2 (gX.cons h3 (gX.cons (JN W X) gX.nil))))) (by simp;decide) (by decide)
 have ez:kH (.str z) (.str z)=.ok (.bl true):=by rw[K11.eq_str];simp
 have hil:eC "list" (gO w M)=.ok (.bl true):=rfl;obtain⟨eq1,ne1⟩:=Kl W X;have hc:∀B:Ev,eT 1 [] (b6 0) (cA (aq (af (ae 0) aC) cy)) (ae 0) B ((QL w.ts.length).map λk=>fr (ld M k))=.ok (.lst []):=λB=>by
  rw[bP (λk=>fr (ld M k)) (λ_=>none) (by rw[Um];omega) λk hk=>⟨[.sh (fr (ld M k))],rfl,.inl ⟨rfl,by open_line with[xm]⟩⟩];simp
 have hsL:og (gO w M)=.ok ((QL w.ts.length).map λk=>fr (ld M k)):=rfl;have hnn:gS (.lst []) (.lst [])=.ok (.bl false):=rfl;have hap:decide (((QL w.ts.length).map λk=>fr (ld M k)).length<=999)=true:=decide_eq_true (by rw[P7,Um];omega);have hld:gO w M=.lst ((QL w.ts.length).map λk=>fr (ld M k)):=rfl;obtain⟨ρ2,s4,hf,⟨x8,x9,rfl⟩,rfl⟩:=jK (tg:=b6 8) (body:=(aV (cG (bJ 9 (aq (af (ae 1) (af (ae 3) (af (ae 4) (af (ae 2) (af (ae 8) aC))))) c7)))
 (aV (Cm (mT (iQ (cA (aq (af (ae 9) aC) cy)) (ag (ae 9) (aq (af (ae 1) (af (ae 3) (af (ae 4) (af (ae 2) (af (ae 8) aC))))) dW) gS)))
 (aV (ff (dC (.bl false)))
 bS)
 bS)
 bS)))
  (λ_ ρ st=>(∃x8 x9,ρ=[.pt a,.sh (aS w),.sh (cj M),.sh (.lst (as.map fr)),.sh (fr p),.sh (.str z),.sh (gO w M),.ow (.lst (((QL w.ts.length).map λk=>fr (ld M k))++[.non])),x8,x9])/\st=s3) (rs.map fr) (by
   rintro j d ρ st hd ⟨⟨x8,x9,rfl⟩,rfl⟩;obtain⟨r,hr,rfl⟩:=QO.mp (Qh hd);obtain⟨c,c1,c2⟩:=zU W hw X hal ha ap (hrs r hr);have hne:gS (fr c) (fr c)=.ok (.bl false):=by
    have s:bq 40 (fr c)=true:=rfl;unfold gS;rw[if_pos ⟨s,s⟩,iO 40 _ s];rfl
   refine⟨_,[.pt a,.sh (aS w),.sh (cj M),.sh (.lst (as.map fr)),.sh (fr p),.sh (.str z),.sh (gO w M),.ow (.lst (((QL w.ts.length).map λk=>fr (ld M k))++[.non])),.sh (fr r),.sh (fr c)],st,rfl,.inl ?_,⟨_,_,rfl⟩,rfl⟩;open_line with[c1,c2,xm,hne]) 0 [.pt a,.sh (aS w),.sh (cj M),.sh (.lst (as.map fr)),.sh (fr p),.sh (.str z),.sh (gO w M),.ow (.lst (((QL w.ts.length).map λk=>fr (ld M k))++[.non])),.no,.no] s3 (R0 _) ⟨⟨_,_,rfl⟩,rfl⟩
 rw[RK]at hf;refine⟨s4,?_⟩;have hk:∀(i:Nat) (ρ:Ev),J8 i ρ (gO w M)=.ok (.nx (ρ.set i (.ow (.lst ((QL w.ts.length).map λk=>fr (ld M k)))))):=λ_ _=>rfl;have ne1:gS (.lst ((QL w.ts.length).map λk=>fr (ld M k))) (gO w M)=.ok (.bl false):=ne1;have hm1:∀(f:Ev->ac->ak (D×ac)) (ρ:Ev) (st:ac),AU f ρ st=(f ρ st).bind zx:=λ_ _ _=>rfl;have hm2:∀(ds st:ac),zx (.lst ds,st)=.ok (ds,st):=λ_ _=>rfl;open_line with[eM,m7,t1,t2,hz,hlo,hof,hk,eq1,ne1,hc,hnn,eu hap,hm1,hm2,t3,hf,ez]
end
def KJ:Es f ρ st=(f ρ st).bind Er:=aJ rfl
def HE{b:Bool}:Er (.bl b,st)=.ok (.bl (!b),st):=aJ rfl
def Ai:gS (.lst (F.map dO)) (.lst [])=.ok (.bl (decide (F≠[]))):=by
 have s:bq 40 (.lst (F.map dO))=true:=by
  show(F.map dO).all (bq 39)=true;refine QF.mpr λd hd=>?_;obtain⟨y,_,rfl⟩:=QO.mp hd;show(nums y).all (bq 38)=true;refine QF.mpr λd hd=>?_;obtain⟨n,_,rfl⟩:=QO.mp hd;rfl
 unfold gS;rw[if_pos ⟨s,rfl⟩,pY];cases F with|nil=>rfl|cons y F=>simp[eqDs]
noncomputable abbrev AQ(a:P9):Ev->ac->ak eD:=(aV (dD 3 (bD 2 a (aT (mP (ag (aq (af (dC (.int 7)) (af (dC (.int 6)) (af (dC (.int 6)) aC))) b9) (ae 1) aO)) (aT (mP (ag (aq (af (dC (.int 14)) (af (dC (.int 10)) (af (dC (.int 10)) aC))) b9) (ae 1) aO)) b4)) dF))
 (aV (cG (bJ 4 (aq (af (ae 3) (af (aq aC b9) aC)) cM)))
 (aV (Cm (Et (mT (ag (ae 4) (aq aC b9) gS)) (Es (bD 2 a (aT (mP (ae 3)) (aT (bD 2 a (aT (mP (ae 4)) b4) eg) b4)) eM)))
 (aV (ff (dC (.bl false)))
 bS)
 bS)
 bS)))
def Dh(a:P9){k:Nat}(hk:k<3)(S:St st):∃d3 d4 st',AQ a [.sh d0,.sh (.int (k:Int)),.pt a,.no,.no] st=.ok (.nx [.sh d0,.sh (.int (k:Int)),.pt a,.sh d3,.sh d4] st'):=by
 obtain⟨p,q,hp,hq,i1,i2⟩:∃p q:Nat,(2<=p/\p<=7)/\q<=14/\aO (.lst [.int 7,.int 6,.int 6]) (.int (k:Int))=.ok (.int (p:Int))/\aO (.lst [.int 14,.int 10,.int 10]) (.int (k:Int))=.ok (.int (q:Int)):=by
  have:k=0∨k=1∨k=2:=by omega
  rcases this with rfl|rfl|rfl
  .exact⟨7,14,by decide,by decide,rfl,rfl⟩
  .exact⟨6,10,by decide,by decide,rfl,rfl⟩
  .exact⟨6,10,by decide,by decide,rfl,rfl⟩
 obtain⟨w,st1,t1,W,hw,S1⟩:=Gk a hp hq S;obtain⟨F,hF,h2,h3,hN,_⟩:=Way.ways_ok W (ks:=[]);have hF:cM [aS w,.lst []]=.ok (.lst (F.map dO)):=hF
 by_cases hc:F=[]
 .have hn:=Ai (F:=F)
  rw[decide_eq_false (by simp[hc])]at hn;refine⟨aS w,.lst (F.map dO),st1,?_⟩;open_line with[i1,i2,t1,hF,hn]
 .have hn:=Ai (F:=F)
  rw[decide_eq_true hc]at hn;obtain⟨M,st2,t2,X,_,S2⟩:=B6 a (w:=w) (λy hy=>⟨(h2 y hy).2.2,(h2 y hy).2.1⟩) hN hc h3 S1;obtain⟨st3,t3⟩:=DB W hw X a S2;refine⟨aS w,.lst (F.map dO),st3,?_⟩;open_line with[i1,i2,t1,hF,hn,t2,t3,KJ,HE]
def EC(ns:List Int)(hn:ns.length<=63):m_law [.lst (ns.map D.int)]=.ok (.bl true):=by
 obtain⟨q,m,hm,h1,hq⟩:∃(q:Int) (m:Nat),m<=3/\CG (.int ns.length) (.int 3)=.ok (.int q)/\(if q > 1 then q else 1)=(m:Int):=by
  have h1:CG (.int ns.length) (.int 3)=.ok (.int (if(3:Int)<ns.length then 3 else ns.length)):=rfl;refine⟨_,(if(if(3:Int)<ns.length then 3 else(ns.length:Int)) > 1 then(if(3:Int)<ns.length then 3 else(ns.length:Int)) else 1).toNat,?_,h1,?_⟩
  .split<;>split<;>omega
  .split<;>split<;>omega
 have hstep:∀k,k<m->∀ρ:Ev,(∃s,ρ=[.sh (.lst (ns.map D.int)),s,.no,.no,.no]) ->
   ∃ρ2,(kR 2 (aq (af (ae 0) (af (ae 1) aC)) ck) λa=>AQ a) (ρ.set 1 (.sh (.int (k:Int))))=.ok (.nx ρ2)/\∃s,ρ2=[.sh (.lst (ns.map D.int)),s,.no,.no,.no]:=by
  rintro k hk ρ ⟨s,rfl⟩;obtain⟨st,hb,S⟩:=FG ns k (by omega) hn;refine⟨[.sh (.lst (ns.map D.int)),.sh (.int (k:Int)),.no,.no,.no],?_,_,rfl⟩;have h1:(aq (af (ae 0) (af (ae 1) aC)) ck) [.sh (.lst (ns.map D.int)),.sh (.int (k:Int)),.no,.no,.no]=.ok (.lst st):=by
   open_line with[hb]
  show kR 2 _ _ [.sh (.lst (ns.map D.int)),.sh (.int (k:Int)),.no,.no,.no]=_;unfold kR;rw[h1,uO];unfold wc;show(if _ then _ else _)=_;rw[if_pos ⟨rfl,(by show 2<5;decide)⟩];refine Hl λa=>?_;obtain⟨d3,d4,st',e⟩:=Dh a (d0:=.lst (ns.map D.int)) (k:=k) (by omega) S;show Bi 2 (AQ a [.sh (.lst (ns.map D.int)),.sh (.int (k:Int)),.pt a,.no,.no] st)=_;rw[e];rfl
 obtain⟨ρ',hf,s,rfl⟩:=pQ (i:=1) (body:=(kR 2 (aq (af (ae 0) (af (ae 1) aC)) ck) λa=>AQ a)) (λ_ ρ=>∃s,ρ=[.sh (.lst (ns.map D.int)),s,.no,.no,.no]) (n:=m) hstep (ρ:=[.sh (.lst (ns.map D.int)),.no,.no,.no,.no]) ⟨.no,rfl⟩;have hfr:=λs:Ev->ak Fl=>lN (tg:=b6 1) (s:=s) (ρ:=[.sh (.lst (ns.map D.int)),.no,.no,.no,.no]) (k:=m) (by omega);unfold m_law Jh;open_line with[P7,h1,hq,hfr,hf]
end K54
namespace K54
open PySem L2 DL
def sp_law(K:P4)(H:Hp)(a:P9)(ns:List Int)(hl:ns.length<=63)(hS:fk K H a (ns.map V.int)):spD K 1 m_law [.ref a] H (λv _=>v=.bl true) λ_ _ _=>False:=by
 refine⟨rfl,H,[.lst (ns.map D.int)],aG.refl _,Reps.cons (aI.mpr ⟨a,_,rfl,hS,vm ns⟩) Reps.nil,?_⟩;rw[EC ns hl];exact λv H' Ha' _ r=>aL.mp r
end K54
structure PySem.W.Fast:Prop where(tw12479804969994484749 tw6537782676285842692 tw16892112197642909304 tw6030906540500319233 tw1463530889543678129 tw10590735303750558073 tw5631875614943173961 tw14341537433928376085 tw10475134753261430088 tw7357287846468427725 tw10001418501822491680 tw8200046361631838158 tw16155423382745846079 tw11206719395066087899 tw17514854199733695431 tw4940847638875688173 tw13376803244289662527 tw1778315276934566576 tw7780005981108048017 tw12972656333738397491 tw2219927319493543461 tw9791432520020533560 tw14327623690669800280 tw7919015169882561940 tw6534971517961259865 tw1675237558600381810 tw11913682921201973879 tw3607114139895748897 tw11822797203589282307 tw17236927033142997808 tw10481699831846003079 tw749065324854342127 tw2137759262820115292 tw15391912472959281287 tw589860693567778138 tw7840312278854172534 tw16872291703156172970 tw10942783695311254175 tw10365411597878036521 tw5111876567916191906 tw12990039583250391136 tw5946965345263682892 tw5020913495414545398 tw16750301823302468496 tw2538381785069230878 tw1108704388828855326 tw4617898517742099499 tw6838728636241245577 tw7551099975757665731 tw14449476859693603011 tw7058612573344244304 tw3718414110013027273 tw14933741733028928047 tw1557259404741987766 tw7867099377846879876 tw3410260476763964347 tw10175882456669864074 tw15375124652944466841 tw5176442510431416478 tw4530052184221581540 tw15683912072399065754 tw3170817687819608334 tw14581973698620653278 tw16035480516594089987 tw10298972902997888655 tw2606579798920849413 tw7275516752689646265 tw15540693855580554681 tw556569446899043952 tw13895940380824344624 tw3985214352877689302 tw6447347684532636192 tw562873679978094011 tw4792660209203752169 tw5380831913575375727 tw5523081806623966033 tw4200722454312501618 tw8043659996316990646 tw8149262932240476360 tw2462122200244547325 tw15228903648864885798 tw15436470657175606314 tw10708747295216969667 tw16155602632617947882 tw4347831822422567218 tw14150700331879040124 tw16921698489372416084 tw7732747376390511383 tw17095460534831194888 tw10294775460659139223 tw821350157591675194 tw14922789802674421428 tw11688308233133911195 tw13851089130061069661 tw4851988400896033252 tw13901568407450682309 tw13012576524358456912 tw14807072319251301814 tw2261590770193300151 tw823512786828477620 tw3010344534775470203 tw13786279241518215687 tw14602055072539218929 tw9621974718088213722 tw11133298121520344247 tw6131641142381907979 tw12474427701707292698 tw11627154567671033642 tw8794062353639418227 tw7287741481415356958 tw6568518296621676117 tw8611885793515479314 tw7613449748165987887 tw3102206840125029494 tw10319118626568466906 tw1952535565490334373 tw8191559136652560079 tw13174479564527312122 tw7338816101812270428 tw6235387710918555642 tw3745634669503951514 tw15806894961486308157 tw2199153001790559193 tw11997609186080590255 tw1324913210341524215 tw7040481316493197133 tw8166961389154277982 tw13974891133447053992 tw8810782770103712406 tw15854852312449134455 tw14584767857651893402 tw2707610116090705570 tw12166209282205768155 tw14102370064360891453 tw18213171359601955375 tw8336462023330890754 tw12068979202291408830 tw6581823190887098826 tw15378857120172198560 tw4763744217154639133 tw12139411058484205216 tw4689340220397181235 tw3620799313608949079 tw15953337942440603316 tw2460963592994827593:True)
open PySem PySem.W PyProof.Rows
set_option maxRecDepth 100000 in
set_option maxHeartbeats 0 in
theorem PySem.Challenge.cw_farthestcut_k54_loads_and_claims_holds : PySem.Challenge.rw_farthestcut_k54_loads_and_claims.Holds := by
 w_on;o_law;k_head;(case hw=>w_witness2)
 k_fill
 refine L2.walk_ofK (l:=PySem.Challenge.rw_farthestcut_k54_loads_and_claims) (n:=63) (k:=12) (x:="_law_script") (CX:=L2.CX0) (sp:=fun K=>DL.spD K 1 K54.m_law) ?I rfl (by decide) rfl ⟨rfl,by decide,by decide,rfl⟩ (fun w h Y=>W.kIn_of Y) ?F ?S ?C
 case S=>exact fun K H a ns hl _ hS=>K54.sp_law K H a ns hl hS
 case C=>exact fun _ _ _ _ h=>h
 case I=>rfl
 case F =>
  intro w mg fa h KX G hmg;have T:∃ t:K54.Adr,K54.Txt (L2.KOf KX) mg t/\mg "law"=some (.ref (t.A 54))/\∃ kV doc pm an cdv ct,t.Q 54=Sk "law" "law" (L2.defArgs (K54.top 90)) (L2.defBody (K54.top 90)) (L2.defScope (K54.top 90)) .none kV doc pm an cdv ct:=by
   dsimp only[L2.KOf];refine' K54.txt_wr (K54.txt_mk KX G ?QS ?_ ?_ ?_ ?_ ?_ ?_ ?_ ?_ ?_ ?_ ?_ ?_ ?_ ?_ ?_ ⟨?_,?_,?_,?_⟩ ⟨⟨?_,?_,?_,?_⟩,?_,?_,?_,?_,?_,?_,?_,?_,?_,?_,?_,?_⟩ ?_ ?_ ?_ ?_ ?_ ?_ ?_ ?_ ?_ ?_ ?_ ?_ ?_ ?_ ?_ (K54.sbc ?_ trivial) ?_ ?_ ?_ ?_ ?_ ?_ ?_ ?_ ?_ ?_ ?_ ?_ ?_ ?_ ?_ ?_ ?_ ?_ ?_ ?_ ?_ ?_ ?_)
   case' QS=>iterate 55 refine DL.QAs.cons ⟨by k_is,by k_is,_,_,_,_,_,_,_,_,_,by k_is,by k_is⟩ ?_
   case QS=>trivial
   all_goals try first |k_is |k_exc |rfl
   exact⟨_,_,_,_,[.int 0,.int 1],rfl,.cons ⟨_,rfl⟩ (.cons ⟨_,rfl⟩ (.nil)),by decide,fun H=>DL.Reps.cons (DL.ri _) (DL.Reps.cons (DL.ri _) (DL.Reps.nil))⟩;exact⟨_,_,_,_,[.int 1,.int 1],rfl,.cons ⟨_,rfl⟩ (.cons ⟨_,rfl⟩ (.nil)),by decide,fun H=>DL.Reps.cons (DL.ri _) (DL.Reps.cons (DL.ri _) (DL.Reps.nil))⟩;exact⟨_,_,_,_,[.str "one",.str "both"],rfl,.cons ⟨_,rfl⟩ (.cons ⟨_,rfl⟩ (.nil)),by decide,fun H=>DL.Reps.cons (DL.Rep.str_iff.mpr rfl) (DL.Reps.cons (DL.Rep.str_iff.mpr rfl) (DL.Reps.nil))⟩
  obtain⟨t,T,e0,kV,doc,pm,an,cdv,ct,ed⟩:=T;have e1:=hmg.symm.trans e0;cases e1;refine⟨t.Q 54,fun s u=>?_,fun base kb nb=>(K54.ok_law T).F⟩;rw[ed];exact .of_eq rfl
