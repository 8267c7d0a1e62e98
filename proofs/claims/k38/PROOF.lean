import PyProof.Rows.All
import Wide.All
import OpenK.AllK
import Wide.FinOn
import PyProof.EqAt
import PyProof.EqKinds
import PyProof.NeKinds
import PyProof.TupleCall
import KE.KLam
import PyProof.StrWalks
import PyProof.EnumMake
import PyProof.WalksEnum
import PyProof.ZipIter
import PyProof.Rows.ZipGen
import PyProof.Rows.SortWalk
import KE.KSortedM
import PyProof.StrLawsIdx
import PyProof.StrLawsNeg
import PyProof.ExcInit
import PyProof.InstStoreFacts
import PyProof.AttrMissHeap
import PyProof.FactsAll.enumerate
import PyProof.FactsAll.dict_1
import KE.KDictOf
import KE.KItemsList
import PyProof.ReprRoads
import KE.LcSums
import PyProof.AttrMissSeq
import PyProof.TupleIter
import PyProof.WalksMore
import PyProof.ExcClass2
import PyProof.Rows.MatchSeqLen
import PyProof.FitsInt
import PyProof.FactsAll.zip_1
import KE.KRevIter
import PyProof.DictWalks
import PyProof.DictItemsLoops
import KE.KPairComp
import KE.KNestM
import PySem.Challenge.RW_farthestcut_k38_most_flow_meets
open List renaming getElem?_eq_getElem->QW,mem_cons_of_mem->QX,length_map->Q0,mem_cons_self->Q3,getElem?_eq_some_iff->Q5,map_cons->Q6,getElem?_map->Q7,getElem?_set_ne->Q8,mem_of_getElem?->Rb,mem_cons->Rh,mem_map->Rl,size_toArray->Rq,length_cons->Rt,all_eq_true->Ru,mem_append->Rv,replicate->RC,getElem?_append_left->RF,nodup_cons->RK,getElem?_append_right->RN,mem_append_right->RO,mem_singleton->RP,length_append->RQ,getElem?_set_self->RT,map_map->RV,map_append->RX,getElem?_replicate->RZ,getElem?_cons_succ->R0,range->R4,mem_append_left->R9,replicate_succ->Sd,mem_filter->Sg,append_nil->Sj,drop_eq_getElem_cons->Sm,lookup_cons->So,getElem_mem->Sq,Nodup->Sz,zip_cons_cons->SH,getElem?_cons_zero->SJ,filterMap_cons->SX,nil_append->SY,getElem?_eq_none->S0,cons_append->S4,getElem?_take_of_lt->S7,foldl_cons->S9,mem_map_of_mem->Ta,sum_cons->Te,any_cons->Tf,length_take->Tg,nodup_iff_pairwise_ne->Th,mem_range->Ti,mem_filterMap->Tj,getD_eq_getElem?_getD->To,length_singleton->Tp,length_replicate->Tq,map_nil->Tt,map_congr_left->Tx,length_drop->TF,getElem?_set_self'->TH,getElem?_drop->TM,length_nil->TQ,all_cons->TU,nodup_append->TZ,flatten_cons->T2,append_assoc->T3,take_length->T8,replicate_zero->Ub,Pairwise->Ud,find?_cons->Ui,set_cons_zero->Ul,set_cons_succ->Um,ext_getElem?->Ur,filterMap_eq_map->Ux,mem_nil_iff->Uz,lookup->UG,of_mem_zip->UH,length_eq_zero_iff->U0,getElem_inj->U1,filter_cons_of_pos->U2,filter_cons_of_neg->U3,filter_cons->U4,take_of_length_le->U8,range_succ_eq_map->U9,length_filter_le->Vc,mem_iff_getElem->Vj,length->Vk,getElem?_range->Vm,filterMap_map->Vu,pairwise_map->VF,all_map->VG,drop_length->VJ,filter_map->VU,drop_zero->V2,eq_of_mem_replicate->Wg,pairwise_lt_range->Wr,drop_eq_nil_of_le->Ws,mem_iff_getElem?->WC,mem_of_mem_take->WK,map_id->WL,length_dropLast->WM,filter_sublist->WR
open PySem renaming Value->QY,Addr->Q9,Shared->Rg,wpAny_bind->Rj,starEach->Rk,Str->Ro,mainGlobals->Rr,Heap->RA,model->RB,wpAny->RH,wpAny_pure->RI,Expr->R1,compareOp->R5,mem_of_lookup->R8,Program->Se,Around->Sv,World->Sx,swapsWith->SD,wpAny_truthy_bool->SK,backTo->SM,NameKind->SR,FuncData->SV,wpAny_mono->S8,attributeBase->Tc,Stmt->Tr,Env->Ts,wpAny_holding->Tu,codeAny->Tw,sysModules->TK,cLine->TY,Keyword->UB,keywordEach->UE,Scope->UU,typeLookup->U6,holding->Vl,wpAny_loadPart_at->Vy,backToKw->Vz,Within->VC,intBits_le_iff->WJ
open PySem.W renaming Frag->Q2,nsIn->SF,kia_one->SI,findIn->SN,mg_none_of->S6,mg_of->TL,emptyDict->T4,fnOf->Ua,subIn->Uh,instObj->UQ,keepIn->UZ,hasDictIn->Vf,plainGet->Vr,specialIn->VN,plainOver->VO,kitx_dict->VP,codeIn->VY,codeHdIn->VZ,takesIn->Wj,callWith_K->Wl,methodObj->WE,kitx_list->WG
open Nat renaming lt_of_lt_of_le->Q4,le_trans->Ra,lt_of_le_of_lt->Rp,le_refl->RG,ne_of_lt->RU,zero_add->Sn,pow_le_pow_right->Sy,lt_irrefl->Tv,lt_succ_self->TC,le_of_lt->T7,zero_le->Uq,sub_zero->UM,add_zero->UN,mul_le_mul->UR,pow_pos->Vg,pow_lt_pow_right->Vh,pow_add->Vi,succ->VE,min_eq_left->VT,mul_lt_mul_of_lt_of_le->V1,mul_comm->Wo,le_of_eq->Wq
open PySem.Heap renaming get?_push_of_some->Ri,lt_size->Ry,get?_push_size->R3,SameBut->UO,size_push->V5,get?_update_other->Wx,get?_none_of_le->WO
open Or renaming inl->Rm,inr->Uy
open Bool renaming and_eq_true->Rn,false_ne_true->RM,false_and->Sa,true_and->Sr,false_eq_true->S5,and_false->T6,false_or->Ug,not_false->Uv,not_true->UC,and_self->UD,and_eq_false_iff->Ve,or_false->Vp,and_true->Vq,or_eq_true->VW,true_or->WA,not_not->WB
open PySem.SeqAt renaming RcNeAt->Rx,EqAt->Rz,RcAt->RJ,ne_of_list_tuple->Wm
open Int renaming gcd->RD,eq_ofNat_of_zero_le->Sb,mul_ediv_cancel_left->Si,toNat_natCast->Sw,natAbs_ediv_le_natAbs->SA,mul_nonneg->SE,eq_of_mul_eq_mul_right->SU,natAbs_mul->TJ,mul_pos->T5,ediv_nonneg->Uj,mul_comm->Us,gcd_dvd_right->Ut,fmod_nonneg_of_pos->Uu,gcd_dvd_left->UA,ediv_mul_cancel->UI,fmod_eq_emod_of_nonneg->US,one_mul->UW,neg_mul->UX,zero_mul->Va,mul_eq_zero->Vb,natCast_nonneg->Vv,fmod_lt_of_pos->Vx,mul_le_mul_of_nonneg_right->VL,le_refl->VR,dvd_gcd_mul_iff_dvd_mul->VX,fdiv_eq_ediv_of_nonneg->V3,ediv_pos_of_pos_of_dvd->V4,mul_neg_of_neg_of_pos->V9,mul_assoc->Wi,zero_add->Wu,gcd_comm->Wv
open PySem.PassesOwn renaming never->RW
open PySem.Value renaming ref->RY,bool->SG,none->SO,str->S1,int->S2,builtin->Vn,float->WH
open Option renaming some->R6,getD_some->Tz,map_some->TN,isSome_iff_exists->Uc,map_eq_some_iff->U7,isSome_map->VD,none->VQ
open Ne renaming symm->R7
open Option.some renaming inj->Sf,injEq->SQ
open Sum renaming inr->Sh,inl->UJ
open False renaming elim->Ss
open PySem.Builtin renaming bitAnd->SW,divisionGoesByPylong->TR
open True renaming intro->S3
open Array renaming length_toList->Tb,toList->VH,getElem?_append_left->V8,toList_append->WS
open PySem.NameKind renaming free->Td
open PySem.F renaming typeOf_object_class->TV,plainAttrs_list->Up,slot_gs_get->Vo,type_list_append->Wc,slot_list_append->Wd,args_tuple_add_2->We,entry_tuple_add->Wk,slot_tuple_add->Wn
open PySem.Builtin.Slice renaming slicePlaces->T9,sliceAdjust->UT,sliceApplied->V7
open PySem.Builtin.Tuple renaming tupleExact->Ue
open ForInStep renaming yield->Uk
open PySem.Txt renaming slice->Uo,slice_le->VA,join->V0
open PyProof.Rows renaming slot_tuple_getitem->Uw,callWith_type1->UK
open Nat.succ renaming inj->UL
open PySem.Builtin.Str renaming strSliceIndices->UP,occurrences->U5
open PySem.Builtin.List renaming listTooLong->UY
open Classical renaming choose_spec->Vd,choose->VM,byContradiction->Wa
open PySem.SeqAt.EqAt renaming of_refs->Vs,same->VS
open PySem.Obj renaming mapSeq->Vt
open PySem.StrLaws renaming sliceText->VB
open PySem.Around renaming under->VI,frames_deeper->WQ
open PySem.Calls renaming Name_function_global->V6,callWith_builtin->Wz
open PySem.SeqAt.RcAt renaming lists_lengths->Wb
open PySem.Paired renaming length->Wf
open List.Pairwise renaming imp_of_mem->Wh,filter->WN
open Iff renaming rfl->Ww
open PySem.Code renaming isFrame->Wy
open Sum.inr renaming inj->WI
set_option compiler.extract_closed false
set_option bootstrap.genMatcherCode false
set_option autoImplicit true
set_option Elab.async false
set_option linter.all false
set_option maxRecDepth 100000
set_option maxHeartbeats 4000000
noncomputable section
abbrev bv:=List Ro
abbrev ce:=List Nat
namespace L2
open PySem PySem.Spec PyProof.Rows
abbrev iF:=Sum Int Ro
def vL:iF->QY->Bool
 |.inl k,v=>Value.isInt k v
 |.inr x,v=>Value.isStrOf x v
def Py(w:Sx):iF->Int
 |.inl k=>hashInt k
 |.inr x=>hashStr w x
theorem cV:∀{k:iF}{v:QY},vL k v=true->(∃i t,k=UJ i/\v=S2 i t)∨(∃x t,k=Sh x/\v=S1 x t)
 |.inl i,v,h=>by
  obtain⟨t,e⟩:=Value.isInt_shape (k:=i) (v:=v) h;exact .inl ⟨i,t,rfl,e⟩
 |.inr x,v,h=>by
  obtain⟨t,e⟩:=Value.isStrOf_shape (x:=x) (v:=v) h;exact .inr ⟨x,t,rfl,e⟩
def C9(i:Int)(t:Tok):vL (.inl i) (.int i t)=true:=by simp[vL,Value.isInt]
def C8(x:Ro)(t:Tok):vL (.inr x) (.str x t)=true:=by simp[vL,Value.isStrOf]
def LF(a b:Int):decide ((UJ a:iF)=UJ b)=(a==b):=by
 by_cases e:a=b
 .subst e;simp
 .have h:¬(UJ a:iF)=UJ b:=λq=>e (UJ.inj q)
  rw[decide_eq_false h];exact(beq_eq_false_iff_ne.mpr e).symm
def Lz(a b:Ro):decide ((Sh a:iF)=Sh b)=decide (a=b):=by
 by_cases e:a=b
 .subst e;simp
 .have h:¬(Sh a:iF)=Sh b:=λq=>e (WI q)
  rw[decide_eq_false h,decide_eq_false e]
def LD(a:Int)(b:Ro):decide ((UJ a:iF)=Sh b)=false:=decide_eq_false (λq=>nomatch q)
def LA(a:Ro)(b:Int):decide ((Sh a:iF)=UJ b)=false:=decide_eq_false (λq=>nomatch q)
noncomputable def dF(prog:Se) (w:Sx):PySem.KeyKind prog w iF where
 is:=vL
 hash:=Py w
 inj:=λv a b ha hb=>by
  rcases cV ha with⟨i,t,rfl,rfl⟩|⟨x,t,rfl,rfl⟩
  .rcases cV hb with⟨j,u,rfl,e⟩|⟨y,u,rfl,e⟩
   .injection e with e1 _;rw[e1]
   .exact nomatch e
  .rcases cV hb with⟨j,u,rfl,e⟩|⟨y,u,rfl,e⟩
   .exact nomatch e
   .injection e with e1 _;rw[e1]
 byValue:=λk v h=>by
  rcases cV h with⟨i,t,rfl,rfl⟩|⟨x,t,rfl,rfl⟩<;>rfl
 pyHash:=λhv h=>by
  rcases cV hv with⟨i,t,rfl,rfl⟩|⟨x,t,rfl,rfl⟩
  .exact wpAny_pyHash_int h
  .exact wpAny_pyHash_str h
 eqBool:=λhu hv h=>by
  rcases cV hu with⟨i,t,rfl,rfl⟩|⟨x,t,rfl,rfl⟩
  .rcases cV hv with⟨j,u,rfl,rfl⟩|⟨y,u,rfl,rfl⟩
   .rw[LF]at h;exact wpAny_eqBool_int h
   .rw[LD]at h;exact Rz.int_str i t y u _ _ _ _ h
  .rcases cV hv with⟨j,u,rfl,rfl⟩|⟨y,u,rfl,rfl⟩
   .rw[LA]at h;exact Rz.str_int x t j u _ _ _ _ h
   .rw[Lz]at h;exact wpAny_eqBool_str h
 «strs»:=λk x t v h=>by
  rcases cV h with⟨i,u,rfl,e⟩|⟨y,u,rfl,e⟩
  .exact nomatch e
  .injection e with e1 _
   subst e1;cases v<;>rfl
def yx(prog:Se)(w:Sx)(i:Int)(t:Tok):(dF prog w).is (.inl i) (.int i t)=true:=C9 i t
def yw(prog:Se)(w:Sx)(x:Ro)(t:Tok):(dF prog w).is (.inr x) (.str x t)=true:=C8 x t
inductive V where
 |non|bl (b:Bool)|int (i:Int)|str (x:Ro)|byt (b:Array UInt8)|flt (b:UInt64)|ref (a:Q9)|ty (n:String)
 deriving DecidableEq
abbrev al:=List V
noncomputable def bw:V->QY->Prop
 |.non,u=>u=SO
 |.bl b,u=>u=SG b
 |.int i,u=>∃t,u=S2 i t
 |.str x,u=>∃t,u=S1 x t
 |.byt b,u=>∃t,u=Value.bytes b t
 |.flt b,u=>∃t,u=WH b t
 |.ref a,u=>u=RY a
 |.ty n,u=>u=Value.type n
abbrev bg:al->List QY->Prop:=Paired bw
def bg.length(r:bg xs us):xs.length=us.length:=Wf r
theorem bg.get:∀{xs:al}{us:List QY}{i:Nat}{x:V},bg xs us->xs[i]?=some x->∃u,us[i]?=some u/\bw x u
 |_,_,_,_,.nil,e=>by simp at e
 |_,_,0,_,.cons r _,e=>by simp at e;subst e;exact⟨_,rfl,r⟩
 |_,_,i+1,x,.cons _ t,e=>by
  obtain⟨u,h1,h2⟩:=bg.get (i:=i) (x:=x) t (by simpa using e);exact⟨u,by simpa using h1,h2⟩
theorem bg.set(r:bw x u):∀{xs:al}{us:List QY}(i:Nat),bg xs us->bg (xs.set i x) (us.set i u)
 |_,_,_,.nil=>.nil
 |_,_,0,.cons _ t=>.cons r t
 |_,_,i+1,.cons q t=>.cons q (bg.set r i t)
theorem bg.append:∀{xs ys:al}{us ws:List QY},bg xs us->bg ys ws->bg (xs++ys) (us++ws)
 |_,_,_,_,.nil,s=>s
 |_,_,_,_,.cons r t,s=>.cons r (bg.append t s)
theorem bg.take:∀{xs:al}{us:List QY}(n:Nat),bg xs us->bg (xs.take n) (us.take n)
 |_,_,0,_=>.nil
 |_,_,_+1,.nil=>.nil
 |_,_,n+1,.cons r t=>.cons r (bg.take n t)
theorem bg.drop:∀{xs:al}{us:List QY}(n:Nat),bg xs us->bg (xs.drop n) (us.drop n)
 |_,_,0,r=>r
 |_,_,_+1,.nil=>.nil
 |_,_,n+1,.cons _ t=>bg.drop n t
def pz:Option V->Option QY->Prop
 |some v,some u=>bw v u
 |none,none=>True
 |_,_=>False
def KV{κ:Type}:List (κ×V)->List (κ×QY)->Prop:=Paired λ(p:κ×V) (q:κ×QY)=>p.1=q.1/\bw p.2 q.2
def kV:iF->V
 |.inl i=>.int i
 |.inr x=>.str x
inductive HO where
 |lst (xs:al)
 |tup (xs:al)
 |dK (kvs:List (iF×V))|dT (kvs:List (List iF×V))
 |set (S:Int->Bool) (n:Nat)
 |ins (C dx:Q9) (fs:List (Ro×V))
 |own (x:Q9)
 |xd (fs:List (Ro×V))
 |met (f x:Q9)
 |rng (lo hi:Int)
 |frz (o:Obj) (u:HO)
 |tbl (ps:Array QY)
 |ext (φ:RA->Prop)
abbrev Hp:=Q9->Option HO
structure jM where
 params:Arguments
 body:R1
 scope:UU
 pos:Pos
def IK:R1->Option jM
 |.Lambda a b sc pos=>some ⟨a,b,sc,pos⟩
 |_=>none
def NX:R1->Option jM
 |.Call _ args kws _=>(args.findSome? IK).or (kws.findSome? λk=>IK k.value)
 |.Subscript (.Call _ args kws _) _ _=>(args.findSome? IK).or (kws.findSome? λk=>IK k.value)
 |_=>none
def Px:Tr->Option jM
 |.Expr e _=>NX e
 |.Assign _ e _=>NX e
 |_=>none
def Lx:FuncBody->Option jM
 |.stmts b=>b.findSome? Px
 |.expr _=>none
def sA(qual:Ro):Ro:=qual++".<locals>.<lambda>"
noncomputable def wx(K:Q2) (o:Obj):Option (Q9×Array QY):=match o.data with
 |.func fd=>match Lx fd.body,fd.code with
  |some F,.ref c=>match K.lookup c with
   |some ⟨_,_,.fields vs,_⟩=>match (vs[11]?:Option QY) with
    |some (.ref P)=>some (P,#[rawInt F.pos.line,rawInt F.pos.col,.str (sA fd.qualname) 0])
    |_=>none
   |_=>none
  |_,_=>none
 |_=>none
def vK(K:Q2):List (Ro×jM):=K.filterMap λp=>match p.2.data with
 |.func fd=>(Lx fd.body).map λF=>(sA fd.qualname,F)
 |_=>none
def gW(K:Q2):List (Q9×Array QY):=K.filterMap λp=>wx K p.2
def xQ{K:Q2}(h:(P,d)∈gW K):∃(a b:Int) (q:Ro),d=#[rawInt a,rawInt b,.str q 0]:=by
 obtain⟨p,_,e⟩:=Tj.mp h;unfold wx at e;split at e
 .split at e
  .split at e
   .split at e
    .cases e;exact⟨_,_,_,rfl⟩
    .cases e
   .cases e
  .cases e
 .cases e
def mO{K:Q2}(h:(P,d)∈gW K):(d++more)[0]?≠some .none:=by
 obtain⟨a,b,q,rfl⟩:=xQ h;intro z;rw[V8 (by simp)]at z;cases z
def Co(K:Q2)(H:Hp):Prop:=∀P d,(P,d)∈gW K->∃more,H P=some (.tbl (d++more))
def MB(h:RA)(a:Q9)(ps:Array QY):Prop:=∃(oc:Obj) (vs:Array QY) (qual:Ro) (t t':Tok) (more:Array QY),ps=#[.none,.str qual t]++more/\h.get? a=some oc/\oc.data=.fields vs/\vs[1]?=some (.str qual t')
noncomputable def Ow(H:Hp) (h:RA) (a:Q9) (ps:Array QY):Prop :=
 h.get? a=some { cls:=.none,data:=.fields #[] } ∨
 ∃(l c:QY) (qual:Ro) (t t':Tok) (more more':Array QY) (c':Q9),ps=#[l,c,.str qual t]++more/\h.get? a=some { cls:=.none,data:=.fields #[l,c,.ref c'] }/\H c'=some (.tbl (#[.none,.str qual t']++more'))
def TabOk(H:Hp)(h:RA)(a:Q9)(ps:Array QY):Prop:=(ps[0]?=some .none/\MB h a ps)∨(ps[0]?≠some .none/\Ow H h a ps)
def upd(H:Hp)(a:Q9)(o:HO):Hp:=λb=>if b=a then some o else H b
def aL:upd H a o a=some o:=by unfold upd;rw[if_pos rfl]
def aF(h:b≠a):upd H a o b=H b:=by unfold upd;rw[if_neg h]
def NR{H:Hp}(h:H a=some o)(h':H b=some u)(d:o≠u):a≠b:=by
 intro e;subst e;rw[h]at h';exact d (Sf h')
def bu{H:Hp}(h:H a=some o)(h':H b=none):a≠b:=by
 intro e;subst e;rw[h]at h';cases h'
section
variable (P:Se) (w:Sx)
noncomputable def cy(H:Hp) (h:RA) (a:Q9):HO->Prop
 |.lst xs=>xs.length<=sizeLine/\∃(its:List QY) (n:Nat),bg xs its/\h.get? a=some { cls:=.type "list",data:=.seq its.toArray n }
 |.tup xs=>xs.length<=sizeLine/\∃its:List QY,bg xs its/\IsTup h a its.toArray
 |.dK kvs=>kvs.length<=sizeLine/\(a==TK)=false/\∃vs,KV kvs vs/\h.DictOf (dF P w) a vs
 |.dT kvs=>kvs.length<=sizeLine/\(a==TK)=false/\∃xs:List (List iF×Q9×QY),
   Paired (λ(p:List iF×V) (q:List iF×Q9×QY)=>p.1=q.1/\H q.2.1=some (.tup (p.1.map kV))/\bw p.2 q.2.2) kvs xs /\
   ∃o es ep,h.get? a=some o/\o.ExactDict/\o.data=.dict es ep/\es.toList=xs.map (entryOfKey (tupleKind (dF P w)))/\(xs.map (·.1)).Nodup
 |.set S n=>h.SetOf (intKind P w) a S n
 |.ins C dx fs=>H dx=some (.own a)/\fs.length<=1000/\dx≠a/\h.get? a=some (UQ C dx) /\
   ∃mA,h.Ns1 dx mA/\(∀f,pz (fs.lookup f) (mA f))/\VC mA (fs.map (·.1))
 |.own _=>∃o,h.get? a=some o
 |.xd fs=>∃mA,h.Ns1 a mA/\∀f,pz (fs.lookup f) (mA f)
 |.rng lo hi=>∃t u v,h.get? a=some { cls:=.type "range",data:=.fields #[.int lo t,.int hi u,.int 1 v] }
 |.frz o u=>h.get? a=some o/\cy H h a u
 |.tbl ps=>TabOk H h a ps
 |.met f x=>h.get? a=some (WE (.ref f) (.ref x))
 |.ext φ=>φ h/\(∃o,h.get? a=some o)/\∀h1 h2:RA,φ h1->(∀o,h1.get? a=some o->h2.get? a=some o)->φ h2
def jt(H:Hp)(h:RA):Prop:=∀a o,H a=some o->cy P w H h a o
end
section
variable {P:Se}{w:Sx}{H H':Hp}{h h':RA}{a:Q9}{o:HO}
def cy.lt(x:cy P w H h a o):a<h.objs.size:=by
 cases o with
 |lst xs=>obtain⟨_,_,_,_,e⟩:=x;exact Ry e|tup xs=>obtain⟨_,_,_,p⟩:=x;exact p.lt|dK kvs|dT kvs=>obtain⟨_,_,_,_,o,_,_,e,_⟩:=x;exact Ry e|set S n=>obtain⟨o,_,_,_,e,_⟩:=x;exact Ry e|ins C dx fs=>obtain⟨_,_,_,e,_⟩:=x;exact Ry e|own y=>obtain⟨_,e⟩:=x;exact Ry e|xd fs=>obtain⟨_,⟨_,_,_,e,_⟩,_⟩:=x;exact Ry e|rng lo hi=>obtain⟨_,_,_,e⟩:=x;exact Ry e|frz ob u=>obtain⟨e,_⟩:=x;exact Ry e
 |tbl ps=>
  have x:TabOk H h a ps:=x;rcases x with⟨_,_,_,_,_,_,_,_,e,_⟩|⟨_,e|⟨_,_,_,_,_,_,_,_,_,e,_⟩⟩<;>exact Ry e
 |met f y=>exact Ry (show h.get? a=some _ from x)|ext φ=>obtain⟨_,⟨_,e⟩,_⟩:=x;exact Ry e
theorem lu{α β:Type}{F G:α->β->Prop}:∀{lb:List α}{lg:List β},Paired F lb lg->(∀a b,F a b->G a b)->Paired G lb lg
 |_,_,.nil,_=>.nil
 |_,_,.cons r t,f=>.cons (f _ _ r) (lu t f)
def cy.stay(x:cy P w H h a o)(k:∀b u,(b=a∨H b=some (.own a))->h.get? b=some u->h'.get? b=some u)
  (ho:∀b,H b=some (.own a)->H' b=some (.own a))(ht:∀b xs,H b=some (.tup xs)->H' b=some (.tup xs))(hf:∀b ps,H b=some (.tbl ps)->H' b=some (.tbl ps)):cy P w H' h' a o:=by
 induction o with
 |lst xs=>obtain⟨z,its,n,r,e⟩:=x;exact⟨z,its,n,r,k _ _ (.inl rfl) e⟩|tup xs=>obtain⟨z,its,r,ob,e,c⟩:=x;exact⟨z,its,r,ob,k _ _ (.inl rfl) e,c⟩|dK kvs=>obtain⟨z,y,vs,r,ob,es,ep,e,c⟩:=x;exact⟨z,y,vs,r,ob,es,ep,k _ _ (.inl rfl) e,c⟩
 |dT kvs=>
  obtain⟨z,y,xs,r,ob,es,ep,e,c⟩:=x;exact⟨z,y,xs,lu r λp q z=>⟨z.1,ht _ _ z.2.1,z.2.2⟩,ob,es,ep,k _ _ (.inl rfl) e,c⟩
 |set S n=>obtain⟨ob,es,ep,t,e,c⟩:=x;exact⟨ob,es,ep,t,k _ _ (.inl rfl) e,c⟩
 |ins C dx fs=>
  obtain⟨d,z,ne,e,mA,⟨od,es,ep,e2,c⟩,r⟩:=x;exact⟨ho _ d,z,ne,k _ _ (.inl rfl) e,mA,⟨od,es,ep,k _ _ (.inr d) e2,c⟩,r⟩
 |own y=>obtain⟨ob,e⟩:=x;exact⟨ob,k _ _ (.inl rfl) e⟩|xd fs=>obtain⟨mA,⟨od,es,ep,e,c⟩,r⟩:=x;exact⟨mA,⟨od,es,ep,k _ _ (.inl rfl) e,c⟩,r⟩|rng lo hi=>obtain⟨t,u,v,e⟩:=x;exact⟨t,u,v,k _ _ (.inl rfl) e⟩|frz ob u ih=>obtain⟨e,q⟩:=x;exact⟨k _ _ (.inl rfl) e,ih q⟩
 |tbl ps=>
  have x:TabOk H h a ps:=x;show TabOk H' h' a ps;rcases x with⟨z,oc,vs,q,t,t',m,e1,e2,e3⟩|⟨z,e|⟨l,c,q,t,t',m,m',c',e1,e2,e3⟩⟩
  .exact .inl ⟨z,oc,vs,q,t,t',m,e1,k a _ (.inl rfl) e2,e3⟩
  .exact .inr ⟨z,.inl (k a _ (.inl rfl) e)⟩
  .exact .inr ⟨z,.inr ⟨l,c,q,t,t',m,m',c',e1,k a _ (.inl rfl) e2,hf _ _ e3⟩⟩
 |met f y=>
  have e:h.get? a=some (WE (.ref f) (.ref y)):=x;show h'.get? a=some (WE (.ref f) (.ref y));exact k a _ (.inl rfl) e
 |ext φ=>obtain⟨p,⟨o,e⟩,st⟩:=x;exact⟨st _ _ p λo q=>k _ _ (.inl rfl) q,⟨o,k _ _ (.inl rfl) e⟩,st⟩
def jt.lt(x:jt P w H h)(e:H a=some o):a<h.objs.size:=(x a o e).lt
def jt.fresh(x:jt P w H h)(e:h.objs.size<=a):H a=none:=by
 cases q:H a with|none=>rfl|some u=>exact absurd (Q4 (x.lt q) e) (Tv _)
def jt.kept(x:jt P w H h)(k:∀b u,h.get? b=some u->h'.get? b=some u):jt P w H h':=λa o e=>
 (x a o e).stay (λb u _ q=>k b u q) (λ_ q=>q) (λ_ _ q=>q) λ_ _ q=>q
def jt.laid(x:jt P w H h)(k:∀b u,h.get? b=some u->h'.get? b=some u)(hp:h.objs.size<=a)(new:cy P w (upd H a o) h' a o):jt P w (upd H a o) h':=λb u e=>by
 have hn:=x.fresh hp
 by_cases hb:b=a
 .subst hb;rw[aL]at e;cases e;exact new
 .rw[aF hb]at e
  exact(x b u e).stay (λc v _ q=>k c v q) (λc q=>by rw[aF (bu q hn)];exact q) (λc xs q=>by rw[aF (bu q hn)];exact q) λc o q=>by rw[aF (bu q hn)];exact q
end
def Rd(H:Hp)(a:Q9)(u:HO):Prop:=H a=some u∨∃o,H a=some (.frz o u)
def Rd.ok{h:RA}(r:Rd H a u)(x:jt P w H h):cy P w H h a u:=by
 rcases r with r|⟨o,r⟩
 .exact x a u r
 .obtain⟨_,q⟩:=x a _ r
  exact q
def OB:Option HO->Prop
 |some (.lst _)=>True
 |some (.dK _)=>True
 |some (.dT _)=>True
 |some (.set _ _)=>True
 |some (.ins _ _ _)=>True
 |some (.ext _)=>True
 |_=>False
section
variable {P:Se}{w:Sx}{H:Hp}{h h':RA}{x e:Q9}{o':HO}
def jt.write(ok:jt P w H h)(mu:OB (H x))(he:e=x∨H e=some (.own x))(k:∀b u,b≠e->h.get? b=some u->h'.get? b=some u)(heo:∃u,h'.get? e=some u)
  (new:cy P w (upd H x o') h' x o'):jt P w (upd H x o') h':=λb u q=>by
 have nown:∀c y,H c=some (.own y)->c≠x:=λc y r z=>by subst z;rw[r]at mu;exact mu
 have ntup:∀c xs,H c=some (.tup xs)->c≠x:=λc xs r z=>by subst z;rw[r]at mu;exact mu
 have ntbl:∀c o,H c=some (.tbl o)->c≠x:=λc o r z=>by subst z;rw[r]at mu;exact mu
 by_cases hb:b=x
 .subst hb;rw[aL]at q;cases q;exact new
 .rw[aF hb]at q
  by_cases hbe:b=e
  .have q':H b=some (.own x):=by
    rcases he with z|z
    .exact absurd (hbe.trans z) hb
    .rw[hbe];exact z
   rw[q]at q';cases q';obtain⟨v,hv⟩:=heo;exact⟨v,by rw[hbe];exact hv⟩
  .refine(ok b u q).stay (λc v hc r=>k c v ?_ r) (λc r=>by rw[aF (nown c b r)];exact r) (λc xs r=>by rw[aF (ntup c xs r)];exact r) λc o r=>by rw[aF (ntbl c o r)];exact r
   rcases hc with rfl|hc
   .exact hbe
   .rintro rfl
    rcases he with z|z
    .exact nown c b hc z
    .rw[hc]at z;cases z;exact hb rfl
end
structure Un (fs ex:List Q9) (H H':Hp) (h h':RA):Prop where
 keep:∀b o,h.get? b=some o->H b=none->b∉fs->b∉ex->h'.get? b=some o
 slot:∀b o,h.get? b=some o->H b=none->b∈fs->b∉ex->∃sl,h'.get? b=some { o with slots:=sl }
 free:∀b o,h.get? b=some o->H b=none->b∉ex->H' b=none
 there:∀b o,h.get? b=some o->b∉ex->∃o',h'.get? b=some o'
 tups:∀b xs,H b=some (.tup xs)->H' b=some (.tup xs)
 frzs:∀b o u,H b=some (.frz o u)->H' b=some (.frz o u)
 tbls:∀b ps,H b=some (.tbl ps)->∃more,H' b=some (.tbl (ps++more))
section
variable {fs fs' ex ex':List Q9}{H H1 H2:Hp}{h h1 h2 h':RA}{a x e:Q9}{o:HO}
def Un.any(u:Un fs ex H H1 h h1)(q:h.get? b=some ob)(n:H b=none)(hx:b∉ex):∃sl,h1.get? b=some { ob with slots:=sl }:=by
 by_cases hb:b∈fs
 .exact u.slot b ob q n hb hx
 .exact⟨ob.slots,u.keep b ob q n hb hx⟩
def Un.kept(k:∀b u,h.get? b=some u->h'.get? b=some u):Un fs ex H H h h' :=
 ⟨λb ob q _ _ _=>k b ob q,λb ob q _ _ _=>⟨ob.slots,k b ob q⟩,λ_ _ _ n _=>n,λb ob q _=>⟨ob,k b ob q⟩,λ_ _ q=>q,λ_ _ _ q=>q,λ_ ps q=>⟨#[],by rw[q];simp⟩⟩
def Un.refl:Un fs ex H H h h:=Un.kept λ_ _ q=>q
def Un.laid(k:∀b u,h.get? b=some u->h'.get? b=some u)(hp:h.objs.size<=a)(hn:H a=none):Un fs ex H (upd H a o) h h' where
 keep:=λb u q _ _ _=>k b u q
 slot:=λb u q _ _ _=>⟨u.slots,k b u q⟩
 free:=λb u q n _=>by rw[aF (RU (Q4 (Ry q) hp))];exact n
 there:=λb u q _=>⟨u,k b u q⟩
 tups:=λb xs q=>by rw[aF (bu q hn)];exact q
 frzs:=λb u xs q=>by rw[aF (bu q hn)];exact q
 tbls:=λb ps q=>⟨#[],by rw[aF (bu q hn),q];simp⟩
def Un.write(mu:OB (H x))(he:e=x∨H e=some (.own x))(k:∀b u,b≠e->h.get? b=some u->h'.get? b=some u)(heo:∃u,h'.get? e=some u):Un fs ex H (upd H x o) h h':=by
 have hx:∀b,H b=none->b≠x:=λb n z=>by subst z;rw[n]at mu;exact mu
 have hb:∀b,H b=none->b≠e:=λb n z=>by
  subst z;rcases he with r|r
  .exact hx b n r
  .rw[n]at r;cases r
 have hm:∀b u,H b=some u->¬OB (some u)->b≠x:=λb u q nm z=>by subst z;rw[q]at mu;exact nm mu
 refine⟨λb u q n _ _=>k b u (hb b n) q,λb u q n _ _=>⟨u.slots,k b u (hb b n) q⟩,λb u q n _=>by rw[aF (hx b n)];exact n,λb u q _=>?_,
  λb xs q=>by rw[aF (hm b _ q λz=>z)];exact q,λb u xs q=>by rw[aF (hm b _ q λz=>z)];exact q,λb ps q=>⟨#[],by rw[aF (hm b _ q λz=>z),q];simp⟩⟩
 by_cases hbe:b=e
 .subst hbe;exact heo
 .exact⟨u,k b u hbe q⟩
end
def OH(h:RA)(H:Hp):List Q9:=(R4 h.objs.size).filter λa=>(H a).isSome
def yK(h:RA)(H:Hp):RA:=W.hideAll h (OH h H)
def Df(h:RA)(H:Hp):(yK h H).objs.size=h.objs.size:=W.hideAll_size _ _
def sL{h:RA}(e:h.get? b=some o)(n:H b=none):(yK h H).get? b=some o :=
 W.hideAll_get _ e λhm=>by
  have q:(H b).isSome=true:=(Sg.mp hm).2;rw[n]at q;simp at q
def IB{h:RA}(e:(yK h H).get? b=some o):h.get? b=some o/\H b=none:=by
 have e':h.get? b=some o:=W.of_hideAll (OH h H) e;refine⟨e',?_⟩;cases q:H b with
 |none=>rfl
 |some x=>
  have hm:b∈OH h H:=Sg.mpr ⟨Ti.mpr (Ry e'),by simp[q]⟩;have z:(yK h H).get? b=none:=W.hideAll_none (OH h H) hm;rw[z]at e;cases e
structure Mod (K:Q2) (mg:Ro->Option QY) (base:RA):Prop where
 kin:K.In base
 glob:base.Ns Rr mg
 blt:∃mb,base.Ns builtinsNs mb/\∀x:Ro,x≠"__name__"->mb x=bootBuiltins x
 nolimit:base.NoLimit
 sm:∃mm,base.Ns TK mm
 bm:∃(b:Q9) (ob:Obj),mg "__builtins__"=some (.ref b)/\b≠builtinsNs/\base.get? b=some ob/\ob.cls=.type "module"/\ob.dict=some builtinsNs/\ob.data=.plain
structure Cx where
 prog:Se
 w:Sx
 K:Q2
 mg:Ro->Option QY
 base:RA
 A:Sv
 N:bv
 sf:Rg
 Ha:Hp
 env:Env
 outer:List Env
 stack:List Env
 ex:List Q9
 fn:Ro->Bool
 calm:Bool
 pn:List (Q9×Obj)
 xe:QY->Rg->Prop
def AS(l:List Env):List Q9:=l.filterMap (·.frame)
abbrev Cx.fs(X:Cx):List Q9:=AS X.outer
def Cn(sc:UU)(x:Ro):Prop:=sc.names.lookup x=some .local ∨ sc.names.lookup x=some .cell∨sc.names.lookup x=some .free
def DR(sc:UU)(x:Ro):Prop:=sc.names.lookup x=some .local ∨ sc.names.lookup x=some .cell
def P4(env:Env)(h:RA)(m:Ro->Option QY)(x:Ro)(u:QY):Prop :=
 (env.kindOf x=some .local /\ m x=some u)∨((env.kindOf x=some .cell∨env.kindOf x=some .free)/\∃c,env.cells.lookup x=some c/\h.IsCell c (some u))
structure Cx.Ok (X:Cx):Prop where
 mod:Mod X.K X.mg X.base
 kind:X.env.scope.kind=.function
 glob:X.env.globals=Rr
 blt:X.env.builtins=builtinsNs
 above:X.sf.heap.objs.size<=X.env.locals
 inj:∀x y c,X.env.cells.lookup x=some c->X.env.cells.lookup y=some c->x=y
 has:∀x,(X.env.kindOf x=some .cell∨X.env.kindOf x=some .free)->∃c,X.env.cells.lookup x=some c
 cab:∀x c,X.fn x=true->X.env.cells.lookup x=some c->X.sf.heap.objs.size<=c
 hd:X.calm=true->X.A.handled=none
 frames:X.A.frames=some X.stack
 stk:X.stack=X.outer∨(X.stack=X.env::X.outer/\X.env.frame=some X.env.locals)
 exf:∀b∈X.ex,b≠X.env.locals/\∀x c,X.env.cells.lookup x=some c->c≠b
 bs:∀b o,X.base.get? b=some o->X.sf.heap.get? b=some o/\X.Ha b=none
 bsz:X.base.objs.size<=X.sf.heap.objs.size
 noex:∀b o,X.base.get? b=some o->b∉X.ex
 exfs:∀b∈X.ex,b∉X.fs
 funs:X.sf.heap.FunFrames X.base X.outer
 frf:∀b∈X.fs,X.Ha b=none
 tab:Co X.K X.Ha
structure Inv (X:Cx) (π:List (Q9×Obj)) (σ:List (Option V)) (H:Hp) (s:Rg):Prop where
 ok:X.Ok
 os:s.os=X.sf.os
 bare:AllBare s.gens
 base:Un X.fs X.ex X.Ha H X.sf.heap s.heap
 loc:∃m,s.heap.Ns X.env.locals m/\∀(i:Nat) (x:Ro) (v:V),X.N[i]?=some x->σ[i]?=some (some v)->Cn X.env.scope x->∃u,bw v u/\P4 X.env s.heap m x u
 cell:∀x c,X.env.cells.lookup x=some c->∃v,s.heap.IsCell c v
 free:H X.env.locals=none
 freeC:∀x c,X.env.cells.lookup x=some c->H c=none
 pin:∀p∈X.pn++π,s.heap.get? p.1=some p.2/\H p.1=none/\p.1≠X.env.locals/\p.1∉X.fs/\∀v,p.2.data≠.cell v
 hok:jt X.prog X.w H s.heap
 len:σ.length=X.N.length
section
variable {X:Cx}{π:List (Q9×Obj)}{σ:List (Option V)}{H H':Hp}{s:Rg}{h':RA}
def Cx.Ok.nofr(ok:X.Ok)(e:X.base.get? b=some o):b∉X.fs:=λhb=>by
 have:=(ok.funs.mem hb).1;rw[e]at this;cases this
def Inv.bs(I:Inv X π σ H s):∀b o,X.base.get? b=some o->s.heap.get? b=some o/\H b=none:=λb o e=>
 ⟨I.base.keep b o (I.ok.bs b o e).1 (I.ok.bs b o e).2 (I.ok.nofr e) (I.ok.noex b o e),I.base.free b o (I.ok.bs b o e).1 (I.ok.bs b o e).2 (I.ok.noex b o e)⟩
def Inv.bk(I:Inv X π σ H s):∀b o,X.base.get? b=some o->s.heap.get? b=some o:=λb o e=>(I.bs b o e).1
def Inv.mod(I:Inv X π σ H s):Mod X.K X.mg X.base:=I.ok.mod
def Inv.kIn(I:Inv X π σ H s):X.K.In s.heap:=I.ok.mod.kin.keeps I.bk
def Inv.lt(I:Inv X π σ H s):X.env.locals<s.heap.objs.size:=let ⟨_,hn,_⟩:=I.loc;hn.lt
def Inv.sz(I:Inv X π σ H s):X.sf.heap.objs.size<=s.heap.objs.size:=Ra I.ok.above (T7 I.lt)
def Inv.nofs(I:Inv X π σ H s)(h:s.heap.objs.size<=a):a∉X.fs:=λhb=>by
 obtain⟨_,o,ho,_⟩:=I.ok.funs.mem hb;exact absurd (Q4 (Ry ho) (Ra I.sz h)) (Tv _)
def Inv.cne(I:Inv X π σ H s):∀x c,X.env.cells.lookup x=some c->c≠X.env.locals:=λx c e z=>by
 obtain⟨v,o,ho,hd⟩:=I.cell x c e;obtain⟨m,⟨o',es,ep,ho',hd',_⟩,_⟩:=I.loc;rw[z,ho']at ho;cases ho;rw[hd']at hd;cases hd
def Inv.funs(I:Inv X π σ H s):s.heap.FunFrames X.base X.outer:=by
 have all:∀(l:List Env),(∀b∈AS l,b∈X.fs)->X.sf.heap.FunFrames X.base l->s.heap.FunFrames X.base l:=by
  intro l
  induction l with
  |nil=>intro _ _;trivial
  |cons env r ih=>
   intro hs hl;obtain⟨hk,⟨L,o,hf,hn,ho,hd⟩,hr⟩:=hl;have hL:L∈X.fs:=hs L (by unfold AS;rw[SX,hf];exact Q3);obtain⟨sl,e⟩:=I.base.slot L o ho (I.ok.frf L hL) hL λz=>I.ok.exfs L z hL;exact⟨hk,⟨L,_,hf,hn,e,hd⟩,ih (λb hb=>hs b (by unfold AS;rw[SX,hf];exact QX _ hb)) hr⟩
 exact all X.outer (λ_ hb=>hb) I.ok.funs
def Inv.stack(I:Inv X π σ H s):s.heap.FunFrames X.base X.stack:=by
 rcases I.ok.stk with e|⟨e,hf⟩
 .rw[e];exact I.funs
 .rw[e]
  obtain⟨m,hn,_⟩:=I.loc;refine .cons (by rw[I.ok.kind];decide) hf hn ?_ I.funs;exact WO (Ra I.ok.bsz I.ok.above)
def Inv.stkSub(I:Inv X π σ H s):∀b∈AS X.stack,b∈X.env.locals::X.fs:=λb hb=>by
 rcases I.ok.stk with e|⟨e,hf⟩
 .rw[e]at hb;exact QX _ hb
 .rw[e]at hb
  unfold AS at hb;rw[SX,hf]at hb;exact hb
def Inv.stkFree(I:Inv X π σ H s):∀b∈AS X.stack,H b=none:=λb hb=>by
 rcases Rh.mp (I.stkSub b hb) with e|hb
 .rw[e];exact I.free
 .obtain⟨_,o,ho,_⟩:=I.ok.funs.mem hb
  exact I.base.free b o ho (I.ok.frf b hb) λz=>I.ok.exfs b z hb
def Inv.step{ch:List Q9}(I:Inv X π σ H s)
  (hch:∀b∈ch,(b∈X.ex∨X.sf.heap.objs.size<=b)/\b≠X.env.locals/\(∀x c,X.env.cells.lookup x=some c->c≠b)/\∀p∈X.pn++π,p.1≠b)
  (keep:∀b o,b≠X.env.locals->b∉X.fs->b∉ch->s.heap.get? b=some o->H b=none->h'.get? b=some o)
  (slot:∀b o,b≠X.env.locals->b∈X.fs->b∉ch->s.heap.get? b=some o->H b=none->∃sl,h'.get? b=some { o with slots:=sl })(free:∀b o,b∉ch->s.heap.get? b=some o->H b=none->H' b=none)
  (there:∀b o,b∉ch->s.heap.get? b=some o->∃o',h'.get? b=some o')
  (tups:∀b xs,H b=some (.tup xs)->H' b=some (.tup xs))(frzs:∀b o u,H b=some (.frz o u)->H' b=some (.frz o u))(tbls:∀b ps,H b=some (.tbl ps)->∃more,H' b=some (.tbl (ps++more)))
  (ns:∀m,s.heap.Ns X.env.locals m->h'.Ns X.env.locals m)(hok:jt X.prog X.w H' h')(hg:AllBare g') :
  Inv X π σ H' { s with heap:=h',gens:=g',drawn:=d',toks:=t' }:=by
 have neL:∀b o,X.sf.heap.get? b=some o->b≠X.env.locals:=λb o e=>RU (Q4 (Ry e) I.ok.above);have neC:∀b o,X.sf.heap.get? b=some o->b∉X.ex->b∉ch:=λb o e hx hb=>by
  rcases(hch b hb).1 with z|z
  .exact hx z
  .exact absurd (Q4 (Ry e) z) (Tv _)
 have cellK:∀x c,X.env.cells.lookup x=some c->∀v,s.heap.IsCell c v->h'.IsCell c v:=λx c e v z9=>by
  obtain⟨o,ho,hd⟩:=z9;have nch:c∉ch:=λz=>(hch c z).2.2.1 x c e rfl
  by_cases hc:c∈X.fs
  .obtain⟨sl,q⟩:=slot c o (I.cne x c e) hc nch ho (I.freeC x c e)
   exact⟨_,q,hd⟩
  .exact⟨o,keep c o (I.cne x c e) hc nch ho (I.freeC x c e),hd⟩
 refine⟨I.ok,I.os,hg,⟨λb o e n hb hx=>?_,λb o e n hb hx=>?_,λb o e n hx=>?_,λb o e hx=>?_,λb xs e=>tups b xs (I.base.tups b xs e),λb o xs e=>frzs b o xs (I.base.frzs b o xs e),λb ps e=>?_⟩,?_,λx c e=>?_,?_,λx c e=>?_,λp hp=>?_,hok,I.len⟩
 .exact keep b o (neL b o e) hb (neC b o e hx) (I.base.keep b o e n hb hx) (I.base.free b o e n hx)
 .obtain⟨sl,e1⟩:=I.base.slot b o e n hb hx
  obtain⟨sl',e2⟩:=slot b _ (neL b o e) hb (neC b o e hx) e1 (I.base.free b o e n hx);exact⟨sl',e2⟩
 .obtain⟨o',e1⟩:=I.base.there b o e hx
  exact free b o' (neC b o e hx) e1 (I.base.free b o e n hx)
 .obtain⟨o',e1⟩:=I.base.there b o e hx
  exact there b o' (neC b o e hx) e1
 .obtain⟨m1,e1⟩:=I.base.tbls b ps e
  obtain⟨m2,e2⟩:=tbls b _ e1;exact⟨m1++m2,by rw[e2,Array.append_assoc]⟩
 .obtain⟨m,hn,hl⟩:=I.loc
  refine⟨m,ns m hn,λi x v e1 e2 e3=>?_⟩;obtain⟨u,r,l⟩:=hl i x v e1 e2 e3;refine⟨u,r,?_⟩;rcases l with l|⟨k,c,e,z⟩
  .exact .inl l
  .exact .inr ⟨k,c,e,cellK x c e _ z⟩
 .obtain⟨v,z⟩:=I.cell x c e
  exact⟨v,cellK x c e v z⟩
 .obtain⟨m,⟨o,_,_,ho,_⟩,_⟩:=I.loc
  exact free _ o (λz=>(hch _ z).2.1 rfl) ho I.free
 .obtain⟨v,o,ho,hd⟩:=I.cell x c e
  exact free c o (λz=>(hch c z).2.2.1 x c e rfl) ho (I.freeC x c e)
 .obtain⟨e,n,ne,nf,d⟩:=I.pin p hp
  have nch:p.1∉ch:=λz=>(hch p.1 z).2.2.2 p hp rfl;exact⟨keep p.1 p.2 ne nf nch e n,free p.1 p.2 nch e n,ne,nf,d⟩
def Inv.un(I:Inv X π σ H s)(u:Un X.fs [] H H' s.heap h')(hok:jt X.prog X.w H' h'):Inv X π σ H' { s with heap:=h',toks:=t' }:=by
 obtain⟨m,⟨o,es,ep,ho,r⟩,_⟩:=id I.loc;obtain⟨sl,hL⟩:=u.any ho I.free (by simp);exact I.step (g':=s.gens) (d':=s.drawn) (ch:=[]) (λ_ z=>nomatch z) (λb o _ hb _ e n=>u.keep b o e n hb (by simp)) (λb o _ hb _ e n=>u.slot b o e n hb (by simp)) (λb o _ e n=>u.free b o e n (by simp)) (λb o _ e=>u.there b o e (by simp)) u.tups u.frzs u.tbls (λm' hm=>by
  obtain⟨o',es',ep',ho',r'⟩:=hm;rw[ho]at ho';cases ho';exact⟨_,es',ep',hL,r'⟩) hok I.bare
def Inv.call(I:Inv X π σ H s)(u:Un (AS X.stack) ch H H' s.heap h')(hok:jt X.prog X.w H' h')(hg:AllBare g')
  (hch:∀b∈ch,(b∈X.ex∨X.sf.heap.objs.size<=b)/\b≠X.env.locals/\(∀x c,X.env.cells.lookup x=some c->c≠b)/\∀p∈X.pn++π,p.1≠b) :
  Inv X π σ H' { s with heap:=h',gens:=g',drawn:=d',toks:=t' }:=by
 obtain⟨m,⟨o,es,ep,ho,r⟩,_⟩:=id I.loc;obtain⟨sl,hL⟩:=u.any ho I.free λz=>(hch _ z).2.1 rfl;exact I.step (ch:=ch) hch (λb o hL hb hc e n=>u.keep b o e n (λz=>(Rh.mp (I.stkSub b z)).elim hL hb) hc) (λb o _ _ hc e n=>u.any e n hc) (λb o hc e n=>u.free b o e n hc) (λb o hc e=>u.there b o e hc) u.tups u.frzs u.tbls (λm' hm=>by
  obtain⟨o',es',ep',ho',r'⟩:=hm;rw[ho]at ho';cases ho';exact⟨_,es',ep',hL,r'⟩) hok hg
def Inv.turned(I:Inv X π σ H s)(k:∀b o,b≠it->s.heap.get? b=some o->h'.get? b=some o)(hn:H it=none)(hL:it≠X.env.locals)
  (h1:it∈X.ex∨X.sf.heap.objs.size<=it)(h2:∀x c,X.env.cells.lookup x=some c->c≠it)(h3:∀p∈X.pn++π,p.1≠it):Inv X π σ H { s with heap:=h',toks:=t' }:=by
 have nit:∀b u,H b=some u->b≠it:=λb u e z=>by rw[z,hn]at e;cases e
 refine I.step (g':=s.gens) (d':=s.drawn) (ch:=[it]) (λb hb=>?_) (λb o _ _ hc e _=>k b o (λz=>hc (by simp[z])) e) (λb o _ _ hc e _=>⟨o.slots,k b o (λz=>hc (by simp[z])) e⟩) (λ_ _ _ _ n=>n)
  (λb o hc e=>⟨o,k b o (λz=>hc (by simp[z])) e⟩) (λ_ _ e=>e) (λ_ _ _ e=>e) (λb ps e=>⟨#[],by rw[e];simp⟩) (λm hm=>?_) (λb u e=>?_) I.bare
 .have e:b=it:=by simpa using hb
  subst e;exact⟨h1,hL,h2,h3⟩
 .obtain⟨o,es,ep,ho,r⟩:=hm
  exact⟨o,es,ep,k _ o (R7 hL) ho,r⟩
 .refine(I.hok b u e).stay (λc v hc q=>k c v ?_ q) (λ_ q=>q) (λ_ _ q=>q) λ_ _ q=>q
  rcases hc with z|z
  .rw[z];exact nit b u e
  .exact nit c _ z
def Inv.tok(I:Inv X π σ H s)(t:Nat):Inv X π σ H { s with toks:=t }:=I.un (h':=s.heap) (t':=t) Un.refl I.hok
def Inv.kept(I:Inv X π σ H s)(k:∀b u,s.heap.get? b=some u->h'.get? b=some u):Inv X π σ H { s with heap:=h',toks:=t' }:=I.un (Un.kept k) (I.hok.kept k)
def Inv.laid(I:Inv X π σ H s)(k:∀b u,s.heap.get? b=some u->h'.get? b=some u)(hp:s.heap.objs.size<=a)(new:cy X.prog X.w (upd H a o) h' a o) :
  Inv X π σ (upd H a o) { s with heap:=h',toks:=t' }:=I.un (Un.laid k hp (I.hok.fresh hp)) (I.hok.laid k hp new)
def Inv.write(I:Inv X π σ H s)(mu:OB (H x))(he:e=x∨H e=some (.own x))(k:∀b u,b≠e->s.heap.get? b=some u->h'.get? b=some u)(heo:∃u,h'.get? e=some u)
  (new:cy X.prog X.w (upd H x o) h' x o):Inv X π σ (upd H x o) { s with heap:=h',toks:=t' }:=I.un (Un.write mu he k heo) (I.hok.write mu he k heo new)
def Inv.pins_of(I:Inv X π σ H s)(h:∀p∈pins',s.heap.get? p.1=some p.2/\H p.1=none/\p.1≠X.env.locals/\p.1∉X.fs/\∀v,p.2.data≠.cell v):Inv X pins' σ H s :=
 ⟨I.ok,I.os,I.bare,I.base,I.loc,I.cell,I.free,I.freeC,λp hp=>(Rv.mp hp).elim (λz=>I.pin p (R9 _ z)) (h p),I.hok,I.len⟩
def yr{N:bv}(hN:N.Nodup){i j:Nat}(a:N[i]?=some x)(b:N[j]?=some x):i=j:=by
 obtain⟨h1,e1⟩:=Q5.mp a;obtain⟨h2,e2⟩:=Q5.mp b;exact(U1 hN).mp (e1.trans e2.symm)
def vz(I:Inv X π σ H s)(hN:X.N.Nodup)(hi:X.N[i]?=some x)(hx:DR X.env.scope x)(r:bw v u)
  (h:∀s',Inv X π (σ.set i (some v)) H s'->(∃a,UO a s.heap s'.heap/\(a=X.env.locals∨X.env.cells.lookup x=some a))->Q () s')(hf:X.fn x=true∨X.env.scope.names.lookup x=some .local := by first|exact .inl rfl|exact .inr rfl|assumption):RH M A (storeName X.env x u) Q E s:=by
 obtain⟨m,hn,hl⟩:=id I.loc;have hcls:(X.env.scope.kind==.class||(X.env.scope.kind==.module&&X.env.locals != X.env.globals))=false:=by rw[I.ok.kind];rfl
 have hiσ:i<σ.length:=by rw[I.len];exact(Q5.mp hi).1
 have cne:=I.cne;have tracked:∀{a:Q9}{h':RA},(∃o,s.heap.get? a=some o/\H a=none)->UO a s.heap h'->jt X.prog X.w H h':=λ{a h'} ha hs b ob e=>by
  obtain⟨_,_,hfree⟩:=ha;refine(I.hok b ob e).stay (λc w' hc q=>(hs.2 c ?_).trans q) (λ_ q=>q) (λ_ _ q=>q) λ_ _ q=>q;rintro rfl;rcases hc with rfl|hc
  .rw[hfree]at e;cases e
  .rw[hfree]at hc;cases hc
 rcases hx with hk|hk
 .refine wpAny_storeName_local hk hn (λh' hn' hs=>?_) hcls
  obtain⟨oL,_,_,hoL,_⟩:=id hn;refine h _ ⟨I.ok,I.os,I.bare,⟨λb o e n hb hx=>?_,λb o e n hb hx=>?_,I.base.free,λb o e hx=>?_,I.base.tups,I.base.frzs,I.base.tbls⟩,⟨_,hn',λj y v' e1 e2 e3=>?_⟩,λy c e=>?_,I.free,I.freeC,λp hp=>?_,tracked ⟨oL,hoL,I.free⟩ hs,by simpa using I.len⟩ ⟨_,hs,.inl rfl⟩
  .exact(hs.2 b (RU (Q4 (Ry e) I.ok.above))).trans (I.base.keep b o e n hb hx)
  .obtain⟨sl,e1⟩:=I.base.slot b o e n hb hx
   exact⟨sl,(hs.2 b (RU (Q4 (Ry e) I.ok.above))).trans e1⟩
  .obtain⟨o',e1⟩:=I.base.there b o e hx
   exact⟨o',(hs.2 b (RU (Q4 (Ry e) I.ok.above))).trans e1⟩
  .by_cases hj:j=i
   .subst hj
    rw[hi]at e1;cases e1;rw[RT hiσ]at e2;cases e2;exact⟨u,r,.inl ⟨hk,by simp⟩⟩
   .rw[Q8 (R7 hj)]at e2
    obtain⟨u',r',q⟩:=hl j y v' e1 e2 e3;refine⟨u',r',?_⟩;rcases q with⟨k,e⟩|⟨k,c,e,z⟩
    .refine .inl ⟨k,?_⟩
     have:y≠x:=λe=>hj (yr hN e1 (e▸hi));simp[this,e]
    .exact .inr ⟨k,c,e,z.sameBut hs (cne y c e)⟩
  .obtain⟨w',z⟩:=I.cell y c e
   exact⟨w',z.sameBut hs (cne y c e)⟩
  .obtain⟨e,n,ne,nf,d⟩:=I.pin p hp
   exact⟨(hs.2 p.1 ne).trans e,n,ne,nf,d⟩
 .have hfn:X.fn x=true:=by
   rcases hf with z|z
   .exact z
   .rw[z]at hk;cases hk
  obtain⟨c,hc⟩:=I.ok.has x (.inl hk);obtain⟨w',z⟩:=I.cell x c hc;refine wpAny_storeName_cell I.ok.kind hk hc z (λh' hc' hs=>?_);obtain⟨oc,hoc,hocd⟩:=id z;refine h { s with heap:=h' } ⟨I.ok,I.os,I.bare,⟨λb o e n hb hx=>?_,λb o e n hb hx=>?_,I.base.free,λb o e hx=>?_,I.base.tups,I.base.frzs,I.base.tbls⟩,⟨m,hn.sameBut hs (R7 (cne x c hc)),λj y v' e1 e2 e3=>?_⟩,λy c' e=>?_,I.free,I.freeC,λp hp=>?_,tracked ⟨oc,hoc,I.freeC x c hc⟩ hs,by simpa using I.len⟩ ⟨c,hs,.inr hc⟩
  .exact(hs.2 b (RU (Q4 (Ry e) (I.ok.cab x c hfn hc)))).trans (I.base.keep b o e n hb hx)
  .obtain⟨sl,e1⟩:=I.base.slot b o e n hb hx
   exact⟨sl,(hs.2 b (RU (Q4 (Ry e) (I.ok.cab x c hfn hc)))).trans e1⟩
  .obtain⟨o',e1⟩:=I.base.there b o e hx
   exact⟨o',(hs.2 b (RU (Q4 (Ry e) (I.ok.cab x c hfn hc)))).trans e1⟩
  .by_cases hj:j=i
   .subst hj
    rw[hi]at e1;cases e1;rw[RT hiσ]at e2;cases e2;exact⟨u,r,.inr ⟨.inl hk,c,hc,hc'⟩⟩
   .rw[Q8 (R7 hj)]at e2
    obtain⟨u',r',q⟩:=hl j y v' e1 e2 e3;refine⟨u',r',?_⟩;rcases q with q|⟨k,c',e,z'⟩
    .exact .inl q
    .refine .inr ⟨k,c',e,z'.sameBut hs ?_⟩
     rintro rfl;exact hj (yr hN e1 (I.ok.inj _ _ _ e hc▸hi))
  .by_cases hcc:c'=c
   .subst hcc;exact⟨_,hc'⟩
   .obtain⟨w2,z2⟩:=I.cell y c' e
    exact⟨w2,z2.sameBut hs hcc⟩
  .obtain⟨e,n,ne,nf,d⟩:=I.pin p hp
   refine⟨(hs.2 p.1 ?_).trans e,n,ne,nf,d⟩;intro q;rw[q,hoc]at e;have q':oc=p.2:=Sf e;exact d w' (by rw[←q'];exact hocd)
def mP(I:Inv X π σ H s)(hN:X.N.Nodup)(hi:X.N[i]?=some x)(hx:DR X.env.scope x)(r:bw v u)
  (h:∀s',Inv X π (σ.set i (some v)) H s'->Q () s')(hf:X.fn x=true∨X.env.scope.names.lookup x=some .local := by first|exact .inl rfl|exact .inr rfl|assumption):RH M A (storeName X.env x u) Q E s :=
 vz I hN hi hx r (λs' I' _=>h s' I') hf
def Inv.call'(I:Inv X π σ H s)(ho:s'.os=s.os)(u:Un (AS X.stack) ch H H' s.heap s'.heap)(hok:jt X.prog X.w H' s'.heap)(hg:AllBare s'.gens)
  (hch:∀b∈ch,(b∈X.ex∨X.sf.heap.objs.size<=b)/\b≠X.env.locals/\(∀x c,X.env.cells.lookup x=some c->c≠b)/\∀p∈X.pn++π,p.1≠b):Inv X π σ H' s':=by
 obtain⟨h',g',d',t',o'⟩:=s';have e:o'=s.os:=ho;subst e;exact I.call (g':=g') (t':=t') (d':=d') u hok hg hch
end
abbrev XK:=QY->Option Q9->Hp->Prop
abbrev St:=List (Option V)
abbrev VK:=V->Hp->Prop
abbrev TE:=St->Hp->VK->Prop
abbrev TT:=St->Hp->(Bool->Hp->Prop)->Prop
abbrev TA:=St->Hp->(al->Hp->Prop)->Prop
structure vi where
 nx:St->Hp->Prop
 rt:VK
 bk:St->Hp->Prop:=λ_ _=>False
 ct:St->Hp->Prop:=λ_ _=>False
abbrev TS:=vi->St->Hp->Prop
def EP(X:Cx)(π:List (Q9×Obj))(σ:St)(Q:VK)(u:QY)(s':Rg):Prop:=∃v H',Inv X π σ H' s'/\bw v u/\Q v H'
def TP(X:Cx)(π:List (Q9×Obj))(σ:St)(Q:Bool->Hp->Prop)(b:Bool)(s':Rg):Prop:=∃H',Inv X π σ H' s'/\Q b H'
def AP(X:Cx)(π:List (Q9×Obj))(σ:St)(Q:al->Hp->Prop)(us:List QY)(s':Rg):Prop:=∃vs H',Inv X π σ H' s'/\bg vs us/\Q vs H'
noncomputable def SP(X:Cx) (π:List (Q9×Obj)) (D:vi) (f:Flow) (s':Rg):Prop :=
 match f with
 |.next=>∃σ' H',Inv X π σ' H' s'/\D.nx σ' H'
 |.brk=>∃σ' H',Inv X π σ' H' s'/\D.bk σ' H'
 |.cont=>∃σ' H',Inv X π σ' H' s'/\D.ct σ' H'
 |.ret u=>∃v σ' H',Inv X π σ' H' s'/\bw v u/\D.rt v H'
def PE(X:Cx)(e:R1)(t:TE):Prop :=
 ∀(π:List (Q9×Obj)) (s:Rg) (σ:St) (H:Hp) (Q:VK),Inv X π σ H s->t σ H Q->RH (RB X.prog X.w) X.A (eval e X.env) (EP X π σ Q) X.xe s
def PT(X:Cx)(e:R1)(t:TT):Prop :=
 ∀(π:List (Q9×Obj)) (s:Rg) (σ:St) (H:Hp) (Q:Bool->Hp->Prop),Inv X π σ H s->t σ H Q->RH (RB X.prog X.w) X.A (isTrue e X.env (eval e X.env)) (TP X π σ Q) X.xe s
def PW(X:Cx)(e:R1)(t:TT):Prop :=
 ∀(whole:Sem QY) (π:List (Q9×Obj)) (s:Rg) (σ:St) (H:Hp) (Q:Bool->Hp->Prop),Inv X π σ H s->t σ H Q->RH (RB X.prog X.w) X.A (isTrue e X.env whole) (TP X π σ Q) X.xe s
def PW.pt(h:PW X e t):PT X e t:=h _
def PA(X:Cx)(es:List R1)(t:TA):Prop :=
 ∀(pos:Pos) (π:List (Q9×Obj)) (s:Rg) (σ:St) (H:Hp) (Q:al->Hp->Prop),Inv X π σ H s->t σ H Q->RH (RB X.prog X.w) X.A (spliced (SM pos (Rk es X.env))) (AP X π σ Q) X.xe s
def PS(X:Cx)(st:Tr)(t:TS):Prop :=
 ∀(π:List (Q9×Obj)) (s:Rg) (σ:St) (H:Hp) (D:vi),Inv X π σ H s->t D σ H->RH (RB X.prog X.w) X.A (exec st X.env) (SP X π D) X.xe s
def uP(X:Cx)(st:List Tr)(t:TS):Prop :=
 ∀(π:List (Q9×Obj)) (s:Rg) (σ:St) (H:Hp) (D:vi),Inv X π σ H s->t D σ H->RH (RB X.prog X.w) X.A (execs st X.env) (SP X π D) X.xe s
def cT{Q Q':α->Rg->Prop}(h:RH M A t Q E s)(hQ:∀a s,Q a s->Q' a s):RH M A t Q' E s:=S8 h hQ λ_ _ x=>x
section
variable {X:Cx}
def O2(i:Nat):TE:=λσ H Q=>∃v,σ[i]?=some (some v)/\Q v H
def tC(v:V):TE:=λ_ H Q=>Q v H
def jf(hN:X.N[i]?=some x)(hv:Cn X.env.scope x)(hd:(x==("__debug__" : Ro))=false:=by decide)(hcd:(x==("__classdict__" : Ro))=false:=by decide):PE X (.Name x pos) (O2 i):=by
 intro π s σ H Q I h;obtain⟨v,e,h⟩:=h;obtain⟨m,hn,hl⟩:=I.loc;obtain⟨u,r,l⟩:=hl i x v hN e hv;have fin:EP X π σ Q u s:=⟨v,H,I,r,h⟩
 rcases l with⟨hk,hm⟩|⟨hk,c,hc,hcell⟩
 .exact wpAny_Name (wpAny_loadName_local I.ok.kind hk hn hm fin) hd
 .rcases hk with hk|hk
  .exact wpAny_Name (wpAny_loadName_cell I.ok.kind hk hc hcell fin) hd
  .exact wpAny_Name (wpAny_loadName_free I.ok.kind hk hc hcell fin hcd) hd
def Ak{i j pos}:PE X (.Constant (.int i) j pos) (tC (.int i)):=λ_ _ _ H _ I h=>wpAny_Constant_int ⟨.int i,H,I.tok _,⟨_,rfl⟩,h⟩
def NH{b j pos}:PE X (.Constant (.bool b) j pos) (tC (.bl b)):=λ_ _ _ H _ I h=>Constant_bool ⟨.bl b,H,I,rfl,h⟩
def Le{j pos}:PE X (.Constant .none j pos) (tC .non):=λ_ _ _ H _ I h=>Constant_none ⟨.non,H,I,rfl,h⟩
def Fm{x j pos}:PE X (.Constant (.str x) j pos) (tC (.str x)):=λ_ _ _ H _ I h=>Calls.Constant_str ⟨.str x,H,I.tok _,⟨_,rfl⟩,h⟩
def Gl(X:Cx)(x:Ro):Prop:=X.env.kindOf x=some .globalImplicit
def qG(I:Inv X π σ H s)(hg:Gl X x)(hm:X.mg x=some u)(h:Q u s)
  (hd:(x==("__debug__" : Ro))=false:=by decide):RH (RB X.prog X.w) X.A (eval (.Name x pos) X.env) Q E s :=
 V6 I.ok.kind hg (Calls.loadGlobal_global (by rw[I.ok.glob];exact I.mod.glob.keeps I.bk) hm h) hd
def sv(I:Inv X π σ H s)(hg:Gl X x)(hm:X.mg x=none)(hv:bootBuiltins x=some u)(h:Q u s)
  (hn:x≠"__name__":=by decide)(hd:(x==("__debug__" : Ro))=false:=by decide):RH (RB X.prog X.w) X.A (eval (.Name x pos) X.env) Q E s:=by
 obtain⟨mb,h1,h2⟩:=I.mod.blt;exact V6 I.ok.kind hg (Calls.loadGlobal_builtin (by rw[I.ok.glob];exact I.mod.glob.keeps I.bk) hm (by rw[I.ok.blt];exact h1.keeps I.bk) ((h2 x hn).trans hv) h) hd
def Ik(hg:Gl X x)(hm:X.mg x=some u)(r:bw v u)(hd:(x==("__debug__" : Ro))=false:=by decide):PE X (.Name x pos) (tC v) :=
 λ_ _ _ H _ I h=>qG I hg hm ⟨v,H,I,r,h⟩ hd
def Iq(hg:Gl X x)(hm:X.mg x=none)(hv:bootBuiltins x=some u)(r:bw v u)(hn:x≠"__name__":=by decide)(hd:(x==("__debug__" : Ro))=false:=by decide):PE X (.Name x pos) (tC v) :=
 λ_ _ _ H _ I h=>sv I hg hm hv ⟨v,H,I,r,h⟩ hn hd
variable {a b:R1}{ta tb:TE}{pos:Pos}
noncomputable def PC(X:Cx) (op:CmpOp) (a b:R1) (t:TE):Prop :=
 ∀(π:List (Q9×Obj)) (s:Rg) (σ:St) (H:Hp) (Q:VK),Inv X π σ H s->t σ H Q ->
  RH (RB X.prog X.w) X.A (eval a X.env) (λv si=>RH (RB X.prog X.w) X.A (eval b X.env) (λu sj=>RH (RB X.prog X.w) X.A (R5 op v u) (EP X π σ Q) X.xe sj) X.xe si) X.xe s
def FJ(b:R1)(h:op≠.In)(h2:op≠.NotIn):behindInMarks op b=false:=by
 have e1:(op==CmpOp.In)=false:=by cases op<;>first|rfl|exact absurd rfl h
 have e2:(op==CmpOp.NotIn)=false:=by cases op<;>first|rfl|exact absurd rfl h2
 cases b<;>simp[behindInMarks,e1,e2]
def tB(t:TE):TT:=λσ H Q=>t σ H λx H1=>∃c,x=.bl c/\Q c H1
def K3(h:PE X e t)(he:∀whole,isTrue e X.env whole=(do let v ←whole;standAt e.pos;Vl [v] (truthy v)):=by intro _;rfl):PT X e (tB t):=by
 intro π s σ H Q I hw;refine isTrue_plain (cT (h π s σ H _ I hw) λv s1 z9=>?_) (he _);obtain⟨x,H1,I1,r1,q1⟩:=z9;obtain⟨d,rfl,q⟩:=q1;cases r1;exact SK ⟨H1,I1,q⟩
variable {tA tB':TT}{rest:List R1}
def Pg(t u:TT):TT:=λσ H Q=>t σ H λc H1=>if c=true then u σ H1 Q else Q false H1
def Qw(t u:TT):TT:=λσ H Q=>t σ H λc H1=>if c=true then Q true H1 else u σ H1 Q
def O8(t:TT):TT:=λσ H Q=>t σ H λc H1=>Q (!c) H1
def HV(ha:PT X a tA):PW X (.BoolOp .And [a] pos) tA:=by
 intro wh π s σ H Q I h;refine isTrue_and (cT (ha π s σ H Q I h) λc s1 e=>?_);cases c with|true=>exact isTrue_and_nil e|false=>exact e
def K1(ha:PT X a tA):PW X (.BoolOp .Or [a] pos) tA:=by
 intro wh π s σ H Q I h;refine isTrue_or (cT (ha π s σ H Q I h) λc s1 e=>?_);cases c with|false=>exact isTrue_or_nil e|true=>exact e
def K2(ha:PT X a tA)(hb:PW X (.BoolOp .And (b::rest) pos) tB'):PW X (.BoolOp .And (a::b::rest) pos) (Pg tA tB'):=by
 intro wh π s σ H Q I h;refine isTrue_and (cT (ha π s σ H _ I h) λc s1 z9=>?_);obtain⟨H1,I1,q1⟩:=z9;cases c with|true=>exact hb wh π s1 σ H1 Q I1 q1|false=>exact⟨H1,I1,q1⟩
def NB(ha:PT X a tA)(hb:PW X (.BoolOp .Or (b::rest) pos) tB'):PW X (.BoolOp .Or (a::b::rest) pos) (Qw tA tB'):=by
 intro wh π s σ H Q I h;refine isTrue_or (cT (ha π s σ H _ I h) λc s1 z9=>?_);obtain⟨H1,I1,q1⟩:=z9;cases c with|true=>exact⟨H1,I1,q1⟩|false=>exact hb wh π s1 σ H1 Q I1 q1
def K4(ha:PT X a tA):PT X (.UnaryOp .Not a pos) (O8 tA):=by
 intro π s σ H Q I h;exact isTrue_not (ha π s σ H (λc H1=>Q (!c) H1) I h)
def Ng(ta tb:TE):TE:=λσ H Q=>ta σ H λx H1=>∃c,x=.bl c/\if c=true then tb σ H1 Q else Q (.bl false) H1
def O7(ta tb:TE):TE:=λσ H Q=>ta σ H λx H1=>∃c,x=.bl c/\if c=true then Q (.bl true) H1 else tb σ H1 Q
def M6(ta:TE):TE:=λσ H Q=>ta σ H λx H1=>∃c,x=.bl c/\Q (.bl (!c)) H1
def Lc{op}(h:PE X a t):PE X (.BoolOp op [a] pos) t:=λπ s σ H Q I hw=>BoolOp_one (h π s σ H Q I hw)
def Lh(ha:PE X a ta)(hb:PE X (.BoolOp .And (b::rest) pos) tb):PE X (.BoolOp .And (a::b::rest) pos) (Ng ta tb):=by
 intro π s σ H Q I h;refine BoolOp_and (cT (ha π s σ H _ I h) λv s1 ⟨x,H1,I1,r1,q1⟩=>?_);obtain⟨c,rfl,q1⟩:=q1;cases r1;refine SK ?_;cases c with|true=>exact hb π s1 σ H1 Q I1 q1|false=>exact⟨.bl false,H1,I1,rfl,q1⟩
def NG(ha:PE X a ta)(hb:PE X (.BoolOp .Or (b::rest) pos) tb):PE X (.BoolOp .Or (a::b::rest) pos) (O7 ta tb):=by
 intro π s σ H Q I h;refine BoolOp_or (cT (ha π s σ H _ I h) λv s1 ⟨x,H1,I1,r1,q1⟩=>?_);obtain⟨c,rfl,q1⟩:=q1;cases r1;refine SK ?_;cases c with|false=>exact hb π s1 σ H1 Q I1 q1|true=>exact⟨.bl true,H1,I1,rfl,q1⟩
def Ld(ha:PE X a ta):PE X (.UnaryOp .Not a pos) (M6 ta):=by
 intro π s σ H Q I h;refine UnaryOp_ (cT (ha π s σ H _ I h) λv s1 z9=>?_);obtain⟨x,H1,I1,r1,q1⟩:=z9;obtain⟨c,rfl,q1⟩:=q1;cases r1;exact not_of (SK ⟨.bl (!c),H1,I1,rfl,q1⟩)
def Qx(t:TT)(ta tb:TE):TE:=λσ H Q=>t σ H λc H1=>if c=true then ta σ H1 Q else tb σ H1 Q
def Fu(hc:PT X c tA)(ha:PE X a ta)(hb:PE X b tb):PE X (.IfExp c a b pos) (Qx tA ta tb):=by
 intro π s σ H Q I h;refine wpAny_IfExp (cT (hc π s σ H _ I h) λd s1 z9=>?_);obtain⟨H1,I1,q1⟩:=z9;cases d with|true=>exact ha π s1 σ H1 Q I1 q1|false=>exact hb π s1 σ H1 Q I1 q1
end
def fZ(K:Q2)(H:Hp)(a:Q9)(xs:al):Prop :=
 Rd H a (.lst xs) ∨
  ∃(o:Obj) (its:Array QY) (n:Nat),K.lookup a=some o/\o.cls=.type "list"/\o.dict=none/\o.data=.seq its n/\its.size<=sizeLine/\bg xs its.toList
def l9(K:Q2)(H:Hp)(a:Q9)(xs:al):Prop :=
 Rd H a (.tup xs) ∨
  ∃(o:Obj) (its:Array QY) (n:Nat),K.lookup a=some o/\o.cls=.type "tuple"/\o.data=.seq its n/\its.size<=sizeLine/\bg xs its.toList
def PY:QY->Option V
 |.none=>some .non
 |.bool b=>some (.bl b)
 |.int i _=>some (.int i)
 |.str x _=>some (.str x)
 |.bytes b _=>some (.byt b)
 |.float b _=>some (.flt b)
 |.ref a=>some (.ref a)
 |.type n=>some (.ty n)
 |_=>none
def bw.abs(r:bw x u):PY u=some x:=by
 cases x with|non|bl _=>cases r;rfl|int _|str _|byt _|flt _=>obtain⟨t,rfl⟩:=r;rfl|ref _|ty _=>cases r;rfl
def bw.inj(r:bw x u)(q:bw y u):x=y:=Sf (r.abs.symm.trans q.abs)
theorem bg.inj:∀{xs ys:al}{us:List QY},bg xs us->bg ys us->xs=ys
 |_,_,_,.nil,.nil=>rfl
 |_,_,_,.cons r t,.cons r' t'=>by rw[r.inj r',bg.inj t t']
section
variable {X:Cx}{π:List (Q9×Obj)}{σ:St}{H:Hp}{s:Rg}{a:Q9}{xs ys:al}
def fZ.of{K:Q2}(h:H a=some (.lst xs)):fZ K H a xs:=.inl (.inl h)
def l9.of{K:Q2}(h:H a=some (.tup xs)):l9 K H a xs:=.inl (.inl h)
def Inv.list(I:Inv X π σ H s)(h:fZ X.K H a xs):∃its:List QY,bg xs its/\PlainL s.heap a its.toArray/\xs.length<=sizeLine:=by
 rcases h with h|⟨o,its,n,hk,hc,hd,hs,hz,r⟩
 .obtain⟨z,its,n,r,e⟩:=h.ok I.hok
  exact⟨its,r,⟨_,n,e,rfl,rfl,rfl⟩,z⟩
 .refine⟨its.toList,r,⟨o,n,I.kIn a o hk,hc,hd,by simpa using hs⟩,?_⟩
  have e:=r.length;simp only[Tb]at e;omega
def Inv.tuple(I:Inv X π σ H s)(h:l9 X.K H a xs):∃its:List QY,bg xs its/\IsTup s.heap a its.toArray/\xs.length<=sizeLine:=by
 rcases h with h|⟨o,its,n,hk,hc,hs,hz,r⟩
 .obtain⟨z,its,r,p⟩:=h.ok I.hok
  exact⟨its,r,p,z⟩
 .refine⟨its.toList,r,⟨o,I.kIn a o hk,hc,n,by simpa using hs⟩,?_⟩
  have e:=r.length;simp only[Tb]at e;omega
def Inv.list_inj(I:Inv X π σ H s)(h:fZ X.K H a xs)(h':fZ X.K H a ys):xs=ys:=by
 obtain⟨its,r,⟨o,n,e,_,_,d⟩,_⟩:=I.list h;obtain⟨its',r',⟨o',n',e',_,_,d'⟩,_⟩:=I.list h';rw[e]at e';cases e';rw[d]at d';injection d' with d1 _;have:its=its':=by simpa using congrArg VH d1
 subst this;exact r.inj r'
def Inv.tuple_inj(I:Inv X π σ H s)(h:l9 X.K H a xs)(h':l9 X.K H a ys):xs=ys:=by
 obtain⟨its,r,⟨o,e,_,n,d⟩,_⟩:=I.tuple h;obtain⟨its',r',⟨o',e',_,n',d'⟩,_⟩:=I.tuple h';rw[e]at e';cases e';rw[d]at d';injection d' with d1 _;have:its=its':=by simpa using congrArg VH d1
 subst this;exact r.inj r'
end
abbrev Cx.wish(X:Cx)(E:QY->Rg->Prop):Cx:={ X with xe:=E }
abbrev Cx.nox(X:Cx):Cx:=X.wish λ_ _=>False
def Cx.Ok.wish{X:Cx}(ok:X.Ok)(E:QY->Rg->Prop):(X.wish E).Ok :=
 ⟨ok.mod,ok.kind,ok.glob,ok.blt,ok.above,ok.inj,ok.has,ok.cab,ok.hd,ok.frames,ok.stk,ok.exf,ok.bs,ok.bsz,ok.noex,ok.exfs,ok.funs,ok.frf,ok.tab⟩
def Cx.Ok.unwish{X:Cx}(ok:(X.wish E).Ok):X.Ok :=
 ⟨ok.mod,ok.kind,ok.glob,ok.blt,ok.above,ok.inj,ok.has,ok.cab,ok.hd,ok.frames,ok.stk,ok.exf,ok.bs,ok.bsz,ok.noex,ok.exfs,ok.funs,ok.frf,ok.tab⟩
section
variable {X:Cx}{π:List (Q9×Obj)}{σ:St}{H:Hp}{s:Rg}{E:QY->Rg->Prop}
def Inv.wish(I:Inv X π σ H s)(E:QY->Rg->Prop):Inv (X.wish E) π σ H s:=⟨I.ok.wish E,I.os,I.bare,I.base,I.loc,I.cell,I.free,I.freeC,I.pin,I.hok,I.len⟩
def Inv.unwish(I:Inv (X.wish E) π σ H s):Inv X π σ H s:=⟨I.ok.unwish,I.os,I.bare,I.base,I.loc,I.cell,I.free,I.freeC,I.pin,I.hok,I.len⟩
def SP.unwish{D:vi}(h:SP (X.wish E) π D f s'):SP X π D f s':=by
 cases f with|next|brk|cont=>obtain⟨σ',H',I,q⟩:=h;exact⟨σ',H',I.unwish,q⟩|ret u=>obtain⟨v,σ',H',I,r,q⟩:=h;exact⟨v,σ',H',I.unwish,r,q⟩
def uP.nox{st:List Tr}(h:uP X.nox st t):uP X st t:=λπ s σ H D I hw=>
 S8 (h π s σ H D (I.wish _) hw) (λ_ _ q=>q.unwish) λ_ _ z=>Ss z
end
section
variable {X:Cx}{st:Tr}{rest:List Tr}{t u:TS}{e:R1}{te:TE}{pos:Pos}
def M7:TS:=λD σ H=>D.nx σ H
def O4(t u:TS):TS:=λD σ H=>t { D with nx:=u D } σ H
def wO:uP X [] M7:=λ_ _ σ H _ I h=>wpAny_execs_nil ⟨σ,H,I,h⟩
def iI(h1:PS X st t)(h2:uP X rest u):uP X (st::rest) (O4 t u):=by
 intro π s σ H D I h;refine wpAny_execs_cons (cT (h1 π s σ H { D with nx:=u D } I h) λf s1 q=>?_);cases f with
 |next=>
  obtain⟨σ',H',I',q⟩:=q;exact h2 π s1 σ' H' D I' q
 |ret v|brk|cont=>exact q
def Inv.quiet(I:Inv X π σ H s):interactive X.env=false:=by simp[interactive,I.ok.kind]
def Na(te:TE):TS:=λD σ H=>te σ H λ_ H1=>D.nx σ H1
def qC(he:PE X e te)(hs:SD e none pos.line X.env=pure false:=by rfl):PS X (.Expr e pos) (Na te):=by
 intro π s σ H D I h;exact wpAny_Expr_any (cT (he π s σ H _ I h) λv s1 ⟨x,H1,I1,r1,q1⟩=>⟨σ,H1,I1,q1⟩) I.quiet hs
def O5(te:TE):TS:=λD σ H=>te σ H D.rt
def K5(he:PE X e te):PS X (.Return (some e) pos) (O5 te):=by
 intro π s σ H D I h;exact wpAny_Return_some (cT (he π s σ H _ I h) λv s1 ⟨x,H1,I1,r1,q1⟩=>⟨x,σ,H1,I1,r1,q1⟩)
def Pb(c:TT)(t u:TS):TS:=λD σ H=>c σ H λb H1=>if b=true then t D σ H1 else u D σ H1
def J4(hc:PT X c tc)(ha:uP X a t)(hb:uP X b u):PS X (.If c a b pos) (Pb tc t u):=by
 intro π s σ H D I h;refine wpAny_If (cT (hc π s σ H _ I h) λd s1 z9=>?_);obtain⟨H1,I1,q1⟩:=z9;cases d with|true=>exact ha π s1 σ H1 D I1 q1|false=>exact hb π s1 σ H1 D I1 q1
def KG:TS:=λ_ _ _=>False
def Fc:PS X st KG:=λ_ _ _ _ _ _ h=>h.elim
end
abbrev TG:=V->St->Hp->(St->Hp->Prop)->Prop
abbrev MO:=al->St->Hp->(St->Hp->Prop)->Prop
noncomputable def PG(X:Cx) (target:R1) (t:TG):Prop :=
 ∀(π:List (Q9×Obj)) (s:Rg) (σ:St) (H:Hp) (v:V) (u:QY) (Q:St->Hp->Prop),Inv X π σ H s->bw v u->t v σ H Q ->
  RH (RB X.prog X.w) X.A (assign target X.env u) (λ_ s'=>∃σ' H',Inv X π σ' H' s'/\Q σ' H') X.xe s
noncomputable def DP(X:Cx) (ts:List R1) (t:MO):Prop :=
 ∀(π:List (Q9×Obj)) (s:Rg) (σ:St) (H:Hp) (vs:al) (us:List QY) (Q:St->Hp->Prop),Inv X π σ H s->bg vs us->t vs σ H Q ->
  RH (RB X.prog X.w) X.A (assignInOrder ((assignEach ts X.env).map (·.2)) us) (λ_ s'=>∃σ' H',Inv X π σ' H' s'/\Q σ' H') X.xe s
abbrev Ov:=V->V->V->Hp->(Hp->Prop)->Prop
noncomputable def Oy(X:Cx) (t:Ov):Prop :=
 ∀(π:List (Q9×Obj)) (s:Rg) (σ:St) (H:Hp) (o i v:V) (ov iv u:QY) (Q:Hp->Prop),Inv X π σ H s->bw o ov->bw i iv->bw v u->t o i v H Q ->
  RH (RB X.prog X.w) X.A (setItem ov iv u) (λ_ s'=>∃H',Inv X π σ H' s'/\Q H') X.xe s
section
variable {X:Cx}{pos:Pos}
def Gg(i:Nat):TG:=λv σ H Q=>Q (σ.set i (some v)) H
def BD(hN:X.N.Nodup)(hi:X.N[i]?=some x)(hx:DR X.env.scope x)(hf:X.fn x=true∨X.env.scope.names.lookup x=some .local := by first|exact .inl rfl|exact .inr rfl|assumption):PG X (.Name x pos) (Gg i):=by
 intro π s σ H v u Q I r h;exact wpAny_assign_Name (mP I hN hi hx r (λs' I'=>⟨_,H,I',h⟩) hf)
def PH:MO:=λvs σ H Q=>vs=[]/\Q σ H
def N7(t:TG)(u:MO):MO:=λvs σ H Q=>∃v r,vs=v::r/\t v σ H λσ' H'=>u r σ' H' Q
def Ih:DP X [] PH:=by
 intro π s σ H vs us Q I r h;obtain⟨e,h⟩:=h;subst e;cases r;exact assignInOrder_nil ⟨σ,H,I,h⟩
def Fg(h1:PG X e t)(h2:DP X es u)
  (hs:(assignEach (e::es) X.env).map (·.2)=assign e X.env::(assignEach es X.env).map (·.2):=by rfl):DP X (e::es) (N7 t u):=by
 intro π s σ H vs us Q I r h;obtain⟨v,vr,e1,h⟩:=h;subst e1;cases r with
 |cons r rr=>
  rw[hs];refine assignInOrder_cons (cT (h1 π s σ H _ _ _ I r h) λ_ s1 z9=>?_);obtain⟨σ1,H1,I1,q1⟩:=z9;exact h2 π s1 σ1 H1 _ _ Q I1 rr q1
def PD(K:Q2)(n:Nat)(t:MO):TG:=λv σ H Q=>∃a xs,v=.ref a/\l9 K H a xs/\xs.length=n/\t xs σ H Q
def K9{k:Nat}(hc:X.calm=true)(h:DP X es t)
  (hn:(assignEach es X.env).length=n:=by rfl)(hst:(assignEach es X.env).findIdx? (·.1)=none:=by rfl):PG X (.Tuple es k pos) (PD X.K n t):=by
 intro π s σ H v u Q I r hw;obtain⟨a,xs,e1,hq,hl,hw⟩:=hw;subst e1;cases r;obtain⟨its,rv,ht,hz⟩:=I.tuple hq;refine assign_Tuple_tuple (I.ok.hd hc) ht (by simp[hn,←hl,rv.length]) hst λh' hx=>?_;have I1:Inv X π σ H { s with heap:=h' }:=I.kept (t':=s.toks) λb o e=>hx b o (RU (Ry e)) e;exact h π _ σ H xs _ Q I1 (by simpa using rv) hw
def PF(to ti:TE)(t:Ov):TG:=λv σ H Q=>to σ H λo H1=>ti σ H1 λi H2=>t o i v H2 λH3=>Q σ H3
def La(ho:PE X o to)(hi:PE X i ti)(hs:Oy X t)
  (ha:∀v,assign (.Subscript o i pos) X.env v=(do
   let ov ←Vl [v] (eval o X.env)
   let iv ←Vl [v,ov] (eval i X.env)
   standAt pos
   Vl [v,ov,iv] (setItem ov iv v)
   release [v,ov,iv] []):=by intro _;rfl):PG X (.Subscript o i pos) (PF to ti t):=by
 intro π s σ H v u Q I r h;rw[ha];refine Rj (Tu (cT (ho π s σ H _ I h) λov s1 ⟨x,H1,I1,r1,q1⟩=>?_));refine Rj (Tu (cT (hi π s1 σ H1 _ I1 q1) λiv s2 ⟨y,H2,I2,r2,q2⟩=>?_));refine Rj (wpAny_standAt (Rj (Tu (cT (hs π s2 σ H2 x y v ov iv u _ I2 r1 r2 r q2) λ_ s3 z9=>?_))));obtain⟨H3,I3,q3⟩:=z9;exact wpAny_release ⟨σ,H3,I3,q3⟩
def KH(te:TE)(g:TG):TS:=λD σ H=>te σ H λx H1=>g x σ H1 D.nx
def Fd(he:PE X e te)(hg:PG X tg g)(hs:swapsWithSole [tg] e pos.line X.env=pure false:=by rfl)(hw:swappedStores [tg] e X.env=pure none:=by rfl)
  (h1:(assignEach [tg] X.env).map (·.2)=[assign tg X.env]:=by rfl):PS X (.Assign [tg] e pos) (KH te g):=by
 intro π s σ H D I h;refine wpAny_Assign_stores (cT (he π s σ H _ I h) λv s1 z9=>?_) hs hw;obtain⟨x,H1,I1,r1,q1⟩:=z9;rw[h1];exact cT (hg π s1 σ H1 x v _ I1 r1 q1) λ_ s2 q=>q
def mr(hN:X.N.Nodup)(hi:X.N[i]?=some x)(hx:DR X.env.scope x)(he:PE X e te)(hs:SD e (some (.Name x pos')) pos.line X.env=pure false:=by rfl)(hf:X.fn x=true∨X.env.scope.names.lookup x=some .local := by first|exact .inl rfl|exact .inr rfl|assumption) :
  PS X (.Assign [.Name x pos'] e pos) (KH te (Gg i)):=by
 intro π s σ H D I h;refine wpAny_Assign_Name (cT (he π s σ H _ I h) λv s1 z9=>?_) hs;obtain⟨y,H1,I1,r1,q1⟩:=z9;exact mP I1 hN hi hx r1 (λs2 I2=>⟨_,H1,I2,q1⟩) hf
def O6(i j:Nat)(ta:TA):TS:=λD σ H=>ta σ H λvs H1=>∃v w,vs=[v,w]/\D.nx ((σ.set i (some v)).set j (some w)) H1
def K6{px py pt:Pos}{kt k2 pt2}(hc:X.calm=true)(hN:X.N.Nodup)(hi:X.N[i]?=some x)(hj:X.N[j]?=some y)(hij:i≠j)
  (hx:X.env.scope.names.lookup x=some .local)(hy:X.env.scope.names.lookup y=some .local)(ha:PA X [a,b] ta)
  (hw:swappedStores [.Tuple [.Name x px,.Name y py] kt pt] (.Tuple [a,b] k2 pt2) X.env=pure (some [x,y]))
  (hs:swapsWithSole [.Tuple [.Name x px,.Name y py] kt pt] (.Tuple [a,b] k2 pt2) pos.line X.env=pure false:=by rfl) :
  PS X (.Assign [.Tuple [.Name x px,.Name y py] kt pt] (.Tuple [a,b] k2 pt2) pos) (O6 i j ta):=by
 intro π s σ H D I h;rw[exec_Assign_arm];refine Rj (wpAny_standAt ?_);rw[hs];refine Rj (RI ?_);rw[if_neg (by decide)];refine Rj (Tuple_ (cT (ha _ π s σ H _ I h) λus s1 z9=>?_));obtain⟨vs,H1,I1,r1,q1⟩:=z9;obtain⟨v,w,e1,q1⟩:=q1;subst e1;obtain⟨u1,u2,rfl,rv,rw'⟩:∃u1 u2,us=[u1,u2]/\bw v u1/\bw w u2:=by
  cases r1 with
  |cons p q=>
   cases q with
   |cons p' q'=>
    cases q';exact⟨_,_,rfl,p,p'⟩
 refine wpAny_newObj_type ?_ (by show 2<=sizeLine;decide);have I2:Inv X π σ H1 { s1 with heap:=s1.heap.push { cls:=.type "tuple",data:=.seq [u1,u2].toArray } }:=I1.kept (t':=s1.toks) λb o e=>Ri _ e;rw[hw];refine Rj (RI ?_);show RH (RB X.prog X.w) X.A (do rule "assign.swapped-stores";let items ←unpackItems (.ref s1.heap.objs.size) 2 none;assignInOrder [λv=>bindName X.env y v,λv=>bindName X.env x v] items.reverse;pure Flow.next) _ _ _;refine Rj (wpAny_rule (Rj (unpackItems_tuple (items:=#[u1,u2]) (I.ok.hd hc) (IsTup.new s1.heap _) λh' hx'=>?_)));have I3:=I2.kept (h':=h') (t':=s1.toks) λb o e=>hx' b o (RU (Ry e)) e;show RH _ _ (assignInOrder [λv=>bindName X.env y v,λv=>bindName X.env x v] [u2,u1] >>= λ_=>pure Flow.next) _ _ _;refine Rj (assignInOrder_cons (wpAny_bindName (mP I3 hN hj (.inl hy) rw' (λs2 I4=>?_) (.inr hy))));refine assignInOrder_cons (wpAny_bindName (mP I4 hN hi (.inl hx) rv (λs3 I5=>assignInOrder_nil (RI ?_)) (.inr hx)));rw[List.set_comm _ _ (R7 hij)]at I5;exact⟨_,H1,I5,q1⟩
end
section
variable {X:Cx}{pos:Pos}
def KD(c:TT)(tb:TS):TS:=λD σ H=>∃W:Nat->St->Hp->Prop,(∃m,W m σ H)/\∀m σ H,W m σ H ->
 c σ H λb H1=>if b=true then ∃N:St->Hp->Prop,(∀σ' H',N σ' H'->∃m',m' < m/\W m' σ' H')/\tb { D with nx:=N,ct:=N,bk:=D.nx } σ H1 else D.nx σ H1
def Fb(hp:PassesOwn (RB X.prog X.w) X.A X.env X.xe)(hc:PT X c tc)(hb:uP X body tb):PS X (.While c body [] pos) (KD tc tb):=by
 intro π s σ H D I h;obtain⟨W,⟨m0,w0⟩,turn⟩:=h;refine wpAny_While (codeAny_whileLoop (λn s'=>∃σ' H',Inv X π σ' H' s'/\W n σ' H') ?_ m0 ⟨σ,H,I,w0⟩);rintro n s1 ⟨σ1,H1,I1,w1⟩;refine wpAny_passesOwn hp (cT (hc π s1 σ1 H1 _ I1 (turn n σ1 H1 w1)) λb s2 z9=>?_);obtain⟨H2,I2,q2⟩:=z9;cases b with
 |true=>
  obtain⟨N,hN,q2⟩:=q2;rw[if_pos rfl];refine wpAny_passesOwn hp (cT (hb π s2 σ1 H2 _ I2 q2) λf s3 q3=>?_);cases f with
  |next=>
   obtain⟨σ3,H3,I3,n3⟩:=q3;obtain⟨m',hm,w3⟩:=hN σ3 H3 n3;exact⟨m',hm,σ3,H3,I3,w3⟩
  |cont=>
   obtain⟨σ3,H3,I3,n3⟩:=q3;obtain⟨m',hm,w3⟩:=hN σ3 H3 n3;exact⟨m',hm,σ3,H3,I3,w3⟩
  |brk|ret v=>exact q3
 |false=>
  rw[if_neg RM];exact wpAny_execs_nil ⟨σ1,H2,I2,q2⟩
end
structure It where
 go:Nat->Hp->Prop
 yld:Nat->Hp->V->Hp->Prop
 stop:Nat->Hp->Prop
def pC(X:Cx)(π:List (Q9×Obj))(H:Hp)(b:Q9):Prop :=
 H b=none/\b≠X.env.locals/\b∉X.fs/\(b∈X.ex∨X.sf.heap.objs.size<=b)/\(∀x c,X.env.cells.lookup x=some c->c≠b)/\∀p∈X.pn++π,p.1≠b
def Inv.fpOk(I:Inv X π σ H s)(hb:s.heap.objs.size<=b)(hn:H' b=none):pC X π H' b:=by
 refine⟨hn,Nat.ne_of_gt (Q4 I.lt hb),I.nofs hb,.inr (Ra I.sz hb),λx c e z=>?_,λp hp z=>?_⟩
 .obtain⟨v,q⟩:=I.cell x c e
  exact absurd (Q4 q.lt (by rw[z];exact hb)) (Tv _)
 .exact absurd (Q4 (Ry (I.pin p hp).1) (by rw[z];exact hb)) (Tv _)
structure DM (P:Se) (w:Sx) (K:Q2) (tg:R1) (J:It) (fp:List Q9) (it:Q9) (tn:Nat->RA->Prop):Prop where
 mem:it∈fp
 obj:∀i h,tn i h->∀b∈fp,∃o,h.get? b=some o/\∀v,o.data≠.cell v
 keep:∀i h h',tn i h->(∀b∈fp,∀o,h.get? b=some o->h'.get? b=some o)->tn i h'
 item:∀(X:Cx),X.prog=P->X.w=w->X.K=K->X.calm=true->∀(i:Nat) (π:List (Q9×Obj)) (s:Rg) (σ:St) (H:Hp) (E:QY->Rg->Prop),Inv X π σ H s->(∀b∈fp,pC X π H b)->tn i s.heap->J.go i H ->
  RH (RB P w) X.A (pyNext (.ref it)) (λr s1=>∃u,r=some u /\
   RH (RB P w) X.A (letOwnedTupleGo tg (.ref it) u) (λ_ s2=>∃x H',Inv X π σ H' s2/\bw x u/\J.yld i H x H'/\tn (i+1) s2.heap/\∀b∈fp,H' b=none) E s1) E s
 done:∀(X:Cx),X.prog=P->X.w=w->X.K=K->X.calm=true->∀(i:Nat) (π:List (Q9×Obj)) (s:Rg) (σ:St) (H:Hp) (E:QY->Rg->Prop),Inv X π σ H s->(∀b∈fp,pC X π H b)->tn i s.heap->J.stop i H ->
  RH (RB P w) X.A (pyNext (.ref it)) (λr s1=>r=none/\Inv X π σ H s1) E s
 self:∀(A:Sv) (i:Nat) (s:Rg) (Q:QY->Rg->Prop) (E:QY->Rg->Prop),tn i s.heap->Q (.ref it) s->RH (RB P w) A (pyIter (.ref it)) Q E s
abbrev TI:=St->Hp->(It->Hp->Prop)->Prop
noncomputable def PZ(X:Cx) (π:List (Q9×Obj)) (σ:St) (tg:R1) (R:It->Hp->Prop) (itv:QY) (s2:Rg):Prop :=
 ∃(it:Q9) (fp:List Q9) (tn:Nat->RA->Prop) (J:It) (H':Hp),itv=.ref it/\Inv X π σ H' s2/\DM X.prog X.w X.K tg J fp it tn/\tn 0 s2.heap/\(∀b∈fp,pC X π H' b)/\R J H'
noncomputable def PI(X:Cx) (tg iter:R1) (wi:TI):Prop :=
 ∀(π:List (Q9×Obj)) (s:Rg) (σ:St) (H:Hp) (R:It->Hp->Prop),Inv X π σ H s->wi σ H R ->
  RH (RB X.prog X.w) X.A (eval iter X.env) (λv s1=>RH (RB X.prog X.w) X.A (pyIter v) (PZ X π σ tg R) X.xe s1) X.xe s
def BR(ho:s.heap.get? it=some o)(hc:o.cls=.type n)(hd:o.data=.fields vs)
  (hn:["enumerate","zip","dict_itemiterator","dict_reverseitemiterator","odict_iterator","itertools.zip_longest","itertools.pairwise"].contains n=false)(hQ:Q () s):RH M A (letOwnedTupleGo tg (.ref it) u) Q E s:=by
 unfold letOwnedTupleGo;cases tg<;>first
  |exact RI hQ
  |(cases u<;>first
    |exact RI hQ
    |(refine Rj (wpAny_load ho ?_);rw[hc,hd];show RH M A (if(["enumerate","zip","dict_itemiterator","dict_reverseitemiterator","odict_iterator","itertools.zip_longest","itertools.pairwise"].contains n&&vs[0]?==some (rawInt _))=true then _ else _) Q E s;rw[if_neg (by intro h;rw[hn,Sa]at h;cases h)];exact RI hQ))
def OD(K:Q2)(a:Q9):It :=
 ⟨λi H=>∃xs x,fZ K H a xs/\xs[i]?=some x,λi H x H'=>H'=H/\∀xs,fZ K H a xs->xs[i]?=some x,λi H=>∃xs,fZ K H a xs/\xs.length<=i⟩
def MA(lo:Int)(n:Nat):It:=⟨λi _=>i<n,λi H x H'=>H'=H/\x=.int (lo+i),λi _=>n<=i⟩
def Cu{P:Se}{w:Sx}{K:Q2}{tg:R1}(a it:Q9):DM P w K tg (OD K a) [it] it (λi h=>h.IsListIter it a i) where
 mem:=by simp
 obj:=λi h st b hb=>by
  have e:b=it:=by simpa using hb
  subst e;obtain⟨o,e,c,d⟩:=st;exact⟨o,e,λv z=>by rw[d]at z;cases z⟩
 keep:=λi h h' st k=>st.at λo e=>k it (by simp) o e
 item:=by
  intro X hP hw hK hc i π s σ H E I hf st hg;subst hP hw hK;obtain⟨xs,x,hq,hx⟩:=hg;obtain⟨its,rv,p,hz⟩:=I.list hq;obtain⟨u,hu,ru⟩:=rv.get hx;obtain⟨f0,f1,f2,f3,f4,f5⟩:=hf it (by simp);refine wpAny_pyNext_list_item st p.isList (x:=u) (by simpa using hu) λh' st' sb=>?_;have I1:Inv X π σ H { s with heap:=h' }:=I.turned (t':=s.toks) (λb o hb e=>(sb.2 b hb).trans e) f0 f1 f3 f4 f5;obtain⟨o,e,c,d⟩:=id st';exact⟨u,rfl,BR (s:={ s with heap:=h' }) e c d (by decide) ⟨x,H,I1,ru,⟨rfl,λys hy=>by rw[I.list_inj hy hq];exact hx⟩,st',λb hb=>(hf b hb).1⟩⟩
 done:=by
  intro X hP hw hK hc i π s σ H E I hf st hg;subst hP hw hK;obtain⟨xs,hq,hx⟩:=hg;obtain⟨its,rv,p,hz⟩:=I.list hq;obtain⟨f0,f1,f2,f3,f4,f5⟩:=hf it (by simp);have hl:=rv.length;exact wpAny_pyNext_list_end (I.ok.hd hc) st p.isList (by simp;omega) λh' eb=>⟨rfl,I.turned (t':=s.toks) (λb o hb e=>eb b o hb e) f0 f1 f3 f4 f5⟩
 self:=λ_ _ _ _ _ st h=>wpAny_pyIter_listiter st h
def zQ{P:Se}{w:Sx}{K:Q2}{tg:R1}(it:Q9)(lo:Int)(n:Nat):DM P w K tg (MA lo n) [it] it (λi h=>IsRangeIter h it (lo+(i:Nat)*1) ((n:Int)-(i:Nat)) 1) where
 mem:=by simp
 obj:=λi h st b hb=>by
  have e:b=it:=by simpa using hb
  subst e;exact⟨_,st,λv z=>by
   have z':Data.fields _=Data.cell v:=z;cases z'⟩
 keep:=λi h h' st k=>k it (by simp) _ st
 item:=by
  intro X hP hw hK hc i π s σ H E I hf st hg;subst hP hw hK;obtain⟨f0,f1,f2,f3,f4,f5⟩:=hf it (by simp);have W:=Walks.range (prog:=X.prog) (w:=X.w) (I.ok.hd hc) it lo 1 n;refine W.item i s _ _ hg st λv h' tk hv st' kk=>?_;obtain⟨t,rfl⟩:=hv;have I1:Inv X π σ H { s with heap:=h',toks:=tk }:=I.turned (λb o hb e=>kk b o (by simpa using hb) e) f0 f1 f3 f4 f5;refine⟨_,rfl,BR (s:={ s with heap:=h',toks:=tk }) (n:="range_iterator") st' rfl rfl (by decide) ⟨.int (lo+i),H,I1,⟨t,?_⟩,⟨rfl,rfl⟩,st',λb hb=>(hf b hb).1⟩⟩;rw[Int.mul_one]
 done:=by
  intro X hP hw hK hc i π s σ H E I hf st hg;subst hP hw hK;obtain⟨f0,f1,f2,f3,f4,f5⟩:=hf it (by simp);exact wpAny_pyNext_range_end (I.ok.hd hc) st (by have:n<=i:=hg;omega) λh' eb=>⟨rfl,I.turned (t':=s.toks) (λb o hb e=>eb b o hb e) f0 f1 f3 f4 f5⟩
 self:=λ_ _ _ _ _ st h=>wpAny_pyIter_rangeiter st h
section
variable {X:Cx}{tg:R1}
def N3(K:Q2)(tl:TE):TI:=λσ H R=>tl σ H λx H1=>∃a,x=.ref a/\(∃xs,fZ K H1 a xs)/\R (OD K a) H1
def BC(hl:PE X l tl):PI X tg l (N3 X.K tl):=by
 intro π s σ H R I h;refine cT (hl π s σ H _ I h) λv s1 ⟨x,H1,I1,r1,q1⟩=>?_;obtain⟨a,e,⟨xs,hq⟩,q⟩:=q1;subst e;cases r1;obtain⟨its,rv,p,hz⟩:=I1.list hq;refine wpAny_pyIter_list p.isList ?_;refine⟨s1.heap.objs.size,[s1.heap.objs.size],_,_,H1,rfl,I1.kept (t':=s1.toks) λb o e=>Ri _ e,Cu a _,⟨_,R3 _ rfl,rfl,rfl⟩,λb hb=>?_,q⟩;have e:b=s1.heap.objs.size:=by simpa using hb
 subst e;exact I1.fpOk (RG _) (I1.hok.fresh (RG _))
def E3{lo hi:Int}(I:Inv X π σ H s)(h1:-(2 ^ 62)<=lo)(h2:lo<2 ^ 62)(h3:-(2 ^ 62)<=hi)(h4:hi<2 ^ 62)
  (q:R (MA lo (hi-lo).toNat) H):RH (RB X.prog X.w) X.A (pyIter (.ref s.heap.objs.size)) (PZ X π σ tg R) E { s with heap:=s.heap.push { cls:=.type "range",data:=.fields #[.int lo t,.int hi u,.int 1 v] },toks:=tk }:=by
 refine wpAny_pyIter_range (IsRange.new ..) (small_one h1 h2 h3 h4) ?_;have I1:Inv X π σ H { s with heap:=s.heap.push { cls:=.type "range",data:=.fields #[.int lo t,.int hi u,.int 1 v] },toks:=tk }:=I.kept λb o e=>Ri _ e;refine⟨(s.heap.push { cls:=.type "range",data:=.fields #[.int lo t,.int hi u,.int 1 v] }).objs.size,[(s.heap.push { cls:=.type "range",data:=.fields #[.int lo t,.int hi u,.int 1 v] }).objs.size],_,_,H,rfl,
  I1.kept (t':=tk) λb o e=>Ri _ e,zQ _ lo (hi-lo).toNat,?_,λb hb=>?_,q⟩
 .have e1:lo+((0:Nat):Int)*1=lo:=by simp
  have e2:(((hi-lo).toNat:Nat):Int)-((0:Nat):Int)=Builtin.Range.rangeSize lo hi 1:=by rw[rangeSize_one];split<;>omega
  show IsRangeIter _ _ (lo+((0:Nat):Int)*1) ((((hi-lo).toNat:Nat):Int)-((0:Nat):Int)) 1;rw[e1,e2];exact R3 _ rfl
 .have e:b=(s.heap.push { cls:=.type "range",data:=.fields #[.int lo t,.int hi u,.int 1 v] }).objs.size:=by simpa using hb
  subst e;exact I1.fpOk (RG _) (I1.hok.fresh (RG _))
def N2(ta:TA):TI:=λσ H R=>ta σ H λvs H1=>∃j:Int,vs=[.int j]/\-(2 ^ 62)<=j/\j<2 ^ 62/\R (MA 0 j.toNat) H1
def vE(hg:Gl X "range")(hm:X.mg "range"=none)(ha:PA X [a] ta)(hs:Rk [a] X.env=[(false,eval a X.env)]:=by rfl):PI X tg (.Call (.Name "range" p) [a] [] pos) (N2 ta):=by
 intro π s σ H R I h;refine Call_ (sv I hg hm boot_range (UK (cT (ha pos π s σ H _ I h) λus s1 z9=>?_) hs rfl));obtain⟨vs,H1,I1,r1,q1⟩:=z9;obtain⟨j,e,q1,q2,q⟩:=q1;subst e;cases r1 with
 |cons r rr=>
  cases rr;obtain⟨t,rfl⟩:=r;exact call_range_1 (E3 I1 (by omega) (by omega) q1 q2 (by simpa using q))
noncomputable def Pc(wi:TI) (g:TG) (tb:TS):TS:=λD σ H=>wi σ H λJ H1=>∃W:Nat->Nat->St->Hp->Prop,(∃m,W 0 m σ H1)/\∀i m σ H,W i m σ H ->
 (J.stop i H/\D.nx σ H)∨(J.go i H/\∃N:St->Hp->Prop,(∀σ' H',N σ' H'->∃m',m' < m/\W (i+1) m' σ' H')/\∀x H',J.yld i H x H'->g x σ H' λσ2 H2=>tb { D with nx:=N,ct:=N,bk:=D.nx } σ2 H2)
def rG(fp:List Q9)(h:RA):List (Q9×Obj):=fp.filterMap λb=>(h.get? b).map λo=>(b,o)
def jV{h:RA}(hb:b∈fp)(e:h.get? b=some o):(b,o)∈rG fp h:=Tj.mpr ⟨b,hb,by rw[e];rfl⟩
def CY{h:RA}(hp:p∈rG fp h):p.1∈fp/\h.get? p.1=some p.2:=by
 obtain⟨b,hb,e⟩:=Tj.mp hp;cases q:h.get? b with
 |none=>rw[q]at e;cases e
 |some o=>
  rw[q]at e;have e':(b,o)=p:=Sf e;subst e';exact⟨hb,q⟩
def Inv.pinned(I:Inv X π σ H s)(hf:∀b∈fp,pC X π H b)(ho:∀b∈fp,∃o,s.heap.get? b=some o/\∀v,o.data≠.cell v):Inv X (π++rG fp s.heap) σ H s :=
 I.pins_of λp hp=>(Rv.mp hp).elim (λz=>I.pin p (RO _ z)) λz=>by
  obtain⟨hb,e⟩:=CY z;obtain⟨f0,f1,f2,_⟩:=hf p.1 hb;obtain⟨o,e',d⟩:=ho p.1 hb;rw[e]at e';cases e';exact⟨e,f0,f1,f2,d⟩
def Inv.unpinned(I:Inv X (π++pl) σ H s):Inv X π σ H s:=I.pins_of λp hp=>I.pin p (RO _ (R9 _ hp))
def Ag(hp:PassesOwn (RB X.prog X.w) X.A X.env X.xe)(hc:X.calm=true)(hi:PI X tg iter wi)(hg:PG X tg g)(hb:uP X body tb)
  (hs:∀x,foldedSetIterable iter X.env x=pure x:=by intro _;rfl):PS X (.For tg iter body [] pos) (Pc wi g tb):=by
 intro π s σ H D I h;refine wpAny_For (cT (hi π s σ H _ I h) λv s1 h1=>cT h1 λitv s2 h2=>?_) hs;obtain⟨it,fp,tn,J,H2,e,I2,T,st2,f2,W,⟨m0,w0⟩,turn⟩:=h2;subst e;have stat:∀{H':Hp},(∀b∈fp,H' b=none)->∀b∈fp,pC X π H' b:=λhn b hb=>⟨hn b hb,(f2 b hb).2⟩
 refine codeAny_forLoop_any (λn s'=>∃i σ' H',Inv X π σ' H' s'/\tn i s'.heap/\(∀b∈fp,H' b=none)/\W i n σ' H') ?_ m0 ⟨0,σ,H2,I2,st2,λb hb=>(f2 b hb).1,w0⟩;rintro n s3 ⟨i,σ3,H3,I3,st3,fr3,w3⟩;rcases turn i n σ3 H3 w3 with⟨stop,qn⟩|⟨go,N,hN,step⟩
 .refine wpAny_passesOwn hp (cT (T.done X rfl rfl rfl hc i π s3 σ3 H3 X.xe I3 (stat fr3) st3 stop) λr s4 ⟨hr,I4⟩=>?_)
  subst hr;exact wpAny_execs_nil ⟨σ3,H3,I4,qn⟩
 .refine wpAny_passesOwn hp (cT (T.item X rfl rfl rfl hc i π s3 σ3 H3 X.xe I3 (stat fr3) st3 go) λr s4 ⟨u,hr,h4⟩=>?_)
  subst hr;refine wpAny_passesOwn hp (cT h4 λ_ s5 ⟨x,H5,I5,r5,y5,st5,fr5⟩=>?_);have I5':=I5.pinned (stat fr5) (T.obj _ _ st5);refine wpAny_passesOwn hp (cT (hg _ s5 σ3 H5 x u _ I5' r5 (step x H5 y5)) λ_ s6 ⟨σ6,H6,I6,q6⟩=>?_);refine wpAny_passesOwn hp (cT (hb _ s6 σ6 H6 _ I6 q6) λf s7 q7=>?_);have again:∀{σ7:St}{H7:Hp},Inv X (π++rG fp s5.heap) σ7 H7 s7->N σ7 H7->∃m,m<n/\∃i σ' H',Inv X π σ' H' s7/\tn i s7.heap/\(∀b∈fp,H' b=none)/\W i m σ' H':=λ{σ7 H7} I7 n7=>by
   obtain⟨m',hm,w7⟩:=hN σ7 H7 n7;refine⟨m',hm,i+1,σ7,H7,I7.unpinned,T.keep _ _ _ st5 λb hb o e=>(I7.pin (b,o) (RO _ (RO _ (jV hb e)))).1,λb hb=>?_,w7⟩;obtain⟨o,e,d⟩:=T.obj _ _ st5 b hb;exact(I7.pin (b,o) (RO _ (RO _ (jV hb e)))).2.1
  cases f with|next|cont=>obtain⟨σ7,H7,I7,n7⟩:=q7;exact again I7 n7|brk=>obtain⟨σ7,H7,I7,q7⟩:=q7;exact⟨σ7,H7,I7.unpinned,q7⟩|ret v=>obtain⟨x7,σ7,H7,I7,r7,q7⟩:=q7;exact⟨x7,σ7,H7,I7.unpinned,r7,q7⟩
end
def Gm{K:Q2}{g:TG}{tb:TS}{D:vi}(Pv:Nat->St->Hp->Prop)(h0:Pv 0 σ H)(hl:∀i σ H,i<=xs.length->Pv i σ H->fZ K H a xs)
  (hs:∀i x σ H,xs[i]?=some x->Pv i σ H->g x σ H λσ2 H2=>tb { D with nx:=Pv (i+1),ct:=Pv (i+1),bk:=D.nx } σ2 H2)(hd:∀σ H,Pv xs.length σ H->D.nx σ H) :
  ∃W:Nat->Nat->St->Hp->Prop,(∃m,W 0 m σ H)/\∀i m σ H,W i m σ H ->
   ((OD K a).stop i H/\D.nx σ H)∨((OD K a).go i H/\∃N:St->Hp->Prop,(∀σ' H',N σ' H'->∃m',m' < m/\W (i+1) m' σ' H')/\∀x H',(OD K a).yld i H x H'->g x σ H' λσ2 H2=>tb { D with nx:=N,ct:=N,bk:=D.nx } σ2 H2):=by
 refine⟨λi m σ H=>m=xs.length-i/\i<=xs.length/\Pv i σ H,⟨xs.length,by simp,Uq _,h0⟩,?_⟩;rintro i m σ H ⟨rfl,hi,p⟩;have q:=hl i σ H hi p
 by_cases hlt:i<xs.length
 .refine .inr ⟨⟨xs,xs[i],q,by simp[hlt]⟩,Pv (i+1),λσ' H' p'=>⟨xs.length-(i+1),by omega,rfl,hlt,p'⟩,λx H' y=>?_⟩
  obtain⟨e,y⟩:=y;subst e;exact hs i x σ _ (y xs q) p
 .have e:i=xs.length:=by omega
  subst e;exact .inl ⟨⟨xs,q,RG _⟩,hd σ H p⟩
def Di{lo:Int}{g:TG}{tb:TS}{D:vi}(Pv:Nat->St->Hp->Prop)(h0:Pv 0 σ H)
  (hs:∀i σ H,i<n->Pv i σ H->g (.int (lo+i)) σ H λσ2 H2=>tb { D with nx:=Pv (i+1),ct:=Pv (i+1),bk:=D.nx } σ2 H2)(hd:∀σ H,Pv n σ H->D.nx σ H) :
  ∃W:Nat->Nat->St->Hp->Prop,(∃m,W 0 m σ H)/\∀i m σ H,W i m σ H ->
   ((MA lo n).stop i H/\D.nx σ H)∨((MA lo n).go i H/\∃N:St->Hp->Prop,(∀σ' H',N σ' H'->∃m',m' < m/\W (i+1) m' σ' H')/\∀x H',(MA lo n).yld i H x H'->g x σ H' λσ2 H2=>tb { D with nx:=N,ct:=N,bk:=D.nx } σ2 H2):=by
 refine⟨λi m σ H=>m=n-i/\i<=n/\Pv i σ H,⟨n,by simp,Uq _,h0⟩,?_⟩;rintro i m σ H ⟨rfl,hi,p⟩
 by_cases hlt:i<n
 .refine .inr ⟨hlt,Pv (i+1),λσ' H' p'=>⟨n-(i+1),by omega,rfl,hlt,p'⟩,λx H' y=>?_⟩
  obtain⟨e,y⟩:=y;subst e y;exact hs i σ _ hlt p
 .have e:i=n:=by omega
  subst e;exact .inl ⟨RG _,hd σ H p⟩
abbrev R2:=V->V->Hp->VK->Prop
def gu(X:Cx)(f:QY->QY->Sem QY)(r:R2):Prop :=
 ∀(π:List (Q9×Obj)) (s:Rg) (σ:St) (H:Hp) (x y:V) (v u:QY) (Q:VK),Inv X π σ H s->bw x v->bw y u->r x y H Q ->
  RH (RB X.prog X.w) X.A (f v u) (EP X π σ Q) X.xe s
def OP(X:Cx)(f:QY->Sem QY)(r:V->Hp->VK->Prop):Prop :=
 ∀(π:List (Q9×Obj)) (s:Rg) (σ:St) (H:Hp) (x:V) (v:QY) (Q:VK),Inv X π σ H s->bw x v->r x H Q ->
  RH (RB X.prog X.w) X.A (f v) (EP X π σ Q) X.xe s
def ml(X:Cx)(f:QY)(r:al->Hp->VK->Prop):Prop :=
 ∀(π:List (Q9×Obj)) (s:Rg) (σ:St) (H:Hp) (xs:al) (us:List QY) (Q:VK),Inv X π σ H s->bg xs us->r xs H Q ->
  RH (RB X.prog X.w) X.A (call f us) (EP X π σ Q) X.xe s
def QV(X:Cx)(r:V->Hp->(Bool->Hp->Prop)->Prop):Prop :=
 ∀(π:List (Q9×Obj)) (s:Rg) (σ:St) (H:Hp) (x:V) (v:QY) (Q:Bool->Hp->Prop),Inv X π σ H s->bw x v->r x H Q ->
  RH (RB X.prog X.w) X.A (truthy v) (TP X π σ Q) X.xe s
def M5(r:R2)(ta tb:TE):TE:=λσ H Q=>ta σ H λx H1=>tb σ H1 λy H2=>r x y H2 Q
def Qu(r:V->Hp->VK->Prop)(ta:TE):TE:=λσ H Q=>ta σ H λx H1=>r x H1 Q
def rI(C:Int->Int->Prop)(g:Int->Int->V):R2:=λx y H Q=>∃i j,x=.int i/\y=.int j/\C i j/\Q (g i j) H
def E5(g:Int->Int->V):R2:=λx y H Q=>∃i j,x=.int i/\y=.int j/\Q (g i j) H
def rU(g:Int->V):V->Hp->VK->Prop:=λx H Q=>∃i,x=.int i/\Q (g i) H
section
variable {X:Cx}{a b c:R1}{ta tb tc:TE}{pos:Pos}
def Ms(ha:PE X a ta)(hb:PE X b tb){R:V->V->Hp->Prop}(I:Inv X π σ H s)
  (h:ta σ H λx H1=>tb σ H1 λy H2=>R x y H2){f:QY->QY->Sem QY}
  (hf:∀v u s2 x y H2,Inv X π σ H2 s2->bw x v->bw y u->R x y H2->RH (RB X.prog X.w) X.A (f v u) Q X.xe s2) :
  RH (RB X.prog X.w) X.A (eval a X.env) (λv si=>RH (RB X.prog X.w) X.A (eval b X.env) (λu sj=>RH (RB X.prog X.w) X.A (f v u) Q X.xe sj) X.xe si) X.xe s:=by
 refine cT (ha π s σ H _ I h) λv s1 ⟨x,H1,I1,r1,q1⟩=>?_;refine cT (hb π s1 σ H1 _ I1 q1) λu s2 ⟨y,H2,I2,r2,q2⟩=>?_;exact hf v u s2 x y H2 I2 r1 r2 q2
def Fp(ho:gu X (binaryOp op) r)(ha:PE X a ta)(hb:PE X b tb):PE X (.BinOp a op b pos) (M5 r ta tb):=by
 intro π s σ H Q I h;exact wpAny_BinOp (Ms ha hb I h λv u s2 x y H2 I2 rx ry q=>ho π s2 σ H2 x y v u Q I2 rx ry q)
def NF(ho:OP X (unaryOp op) r)(ha:PE X a ta):PE X (.UnaryOp op a pos) (Qu r ta):=by
 intro π s σ H Q I h;exact UnaryOp_ (cT (ha π s σ H _ I h) λv s1 ⟨x,H1,I1,r1,q1⟩=>ho π s1 σ H1 x v Q I1 r1 q1)
def NK{g:Int->Int->Int}
  (rule:∀(i j:Int) (t u:Tok) (s:Rg) (Q:QY->Rg->Prop) (E:QY->Rg->Prop),C i j->Q (.int (g i j) s.toks) { s with toks:=s.toks+1 }->RH (RB X.prog X.w) X.A (f (.int i t) (.int j u)) Q E s) :
  gu X f (rI C λi j=>.int (g i j)):=by
 intro π s σ H x y v u Q I rx ry h;obtain⟨i,j,rfl,rfl,hc,q⟩:=h;obtain⟨t,rfl⟩:=rx;obtain⟨t',rfl⟩:=ry;exact rule i j t t' s _ _ hc ⟨.int (g i j),H,I.tok _,⟨_,rfl⟩,q⟩
def Lr{g:Int->Int->Int}
  (rule:∀(i j:Int) (t u:Tok) (s:Rg) (Q:QY->Rg->Prop) (E:QY->Rg->Prop),Q (.int (g i j) s.toks) { s with toks:=s.toks+1 }->RH (RB X.prog X.w) X.A (f (.int i t) (.int j u)) Q E s) :
  gu X f (E5 λi j=>.int (g i j)):=by
 intro π s σ H x y v u Q I rx ry h;obtain⟨i,j,rfl,rfl,q⟩:=h;obtain⟨t,rfl⟩:=rx;obtain⟨t',rfl⟩:=ry;exact rule i j t t' s _ _ ⟨.int (g i j),H,I.tok _,⟨_,rfl⟩,q⟩
def IA{g:Int->Int->Bool}
  (rule:∀(i j:Int) (t u:Tok) (s:Rg) (Q:QY->Rg->Prop) (E:QY->Rg->Prop),Q (.bool (g i j)) s->RH (RB X.prog X.w) X.A (f (.int i t) (.int j u)) Q E s) :
  gu X f (E5 λi j=>.bl (g i j)):=by
 intro π s σ H x y v u Q I rx ry h;obtain⟨i,j,rfl,rfl,q⟩:=h;obtain⟨t,rfl⟩:=rx;obtain⟨t',rfl⟩:=ry;exact rule i j t t' s _ _ ⟨.bl (g i j),H,I,rfl,q⟩
def P7(i j:Int):Prop:=0<=j/\j<=1000000/\i.natAbs<2 ^ 64
def OF(i j:Int):Prop:=(-(2 ^ 64)<i/\i<2 ^ 64)∨(-(2 ^ 64)<j/\j<2 ^ 64)
def OF.ok(h:OF i j):IntMulOk i j:=by
 rcases h with⟨h1,h2⟩|⟨h1,h2⟩
 .exact .of_left (intBits_le_64 h1 h2)
 .exact .of_right (intBits_le_64 h1 h2)
def zP(k:Nat):(0:Int)<=2 ^ k:=by
 rw[two_pow_cast];exact Vv _
def Lq:gu X (binaryOp .Add) (E5 λi j=>.int (i+j)):=Lr λ_ _ _ _ _ _ _ q=>add_int q
def Lj:gu X (binaryOp .Sub) (E5 λi j=>.int (i-j)):=Lr λ_ _ _ _ _ _ _ q=>sub_int q
def Iw:gu X (binaryOp .Mod) (rI (λ_ j=>j≠0) λi j=>.int (i.fmod j)):=NK λ_ _ _ _ _ _ _ hc q=>mod_int' hc q
def Ln:gu X (binaryOp .Pow) (rI P7 λi j=>.int (i ^ j.toNat)):=NK λ_ _ _ _ _ _ _ hc q=>pow_int_small hc.1 hc.2.1 hc.2.2 q
def Ll:gu X (binaryOp .RShift) (rI (λ_ j=>0<=j) λi j=>.int (i / 2 ^ j.toNat)):=NK λi j _ _ _ _ _ hc q=>
 rshift_int hc (by rw[V3 i (zP _)];exact q)
def Lp:gu X (binaryOp .BitAnd) (E5 λi j=>.int (SW i j)):=Lr λ_ _ _ _ _ _ _ q=>and_int q
def Qt{g:Int->Int}
  (rule:∀(i:Int) (t:Tok) (s:Rg) (Q:QY->Rg->Prop) (E:QY->Rg->Prop),Q (.int (g i) s.toks) { s with toks:=s.toks+1 }->RH (RB X.prog X.w) X.A (f (.int i t)) Q E s) :
  OP X f (rU λi=>.int (g i)):=by
 intro π s σ H x v Q I rx h;obtain⟨i,rfl,q⟩:=h;obtain⟨t,rfl⟩:=rx;exact rule i t s _ _ ⟨.int (g i),H,I.tok _,⟨_,rfl⟩,q⟩
def Kw:OP X (unaryOp .USub) (rU λi=>.int (-i)):=Qt λ_ _ _ _ _ q=>neg_int q
end
section
variable {X:Cx}{a b c:R1}{ta tb tc:TE}{pos:Pos}
def AV{k k':Bool}(I:Inv X π σ H s)(q:Q (.bl k) H)(e:k=k'):EP X π σ Q (.bool k') s:=by
 subst e;exact⟨.bl k,H,I,rfl,q⟩
def vH:gu X (R5 .Lt) (E5 λi j=>.bl (decide (i<j))):=IA λ_ _ _ _ _ _ _ q=>lt_int q
def vI:gu X (R5 .LtE) (E5 λi j=>.bl (decide (i<=j))):=IA λ_ _ _ _ _ _ _ q=>le_int q
def rN:gu X (R5 .Gt) (E5 λi j=>.bl (decide (j<i))):=IA λ_ _ _ _ _ _ _ q=>gt_int q
def FA:gu X (R5 .GtE) (E5 λi j=>.bl (decide (j<=i))):=IA λ_ _ _ _ _ _ _ q=>ge_int q
def CT:gu X (R5 .In) (λx y H Q=>∃i j,x=.str i/\y=.str j/\Q (.bl (!(U5 j i 0 j.length 1).isEmpty)) H):=by
 intro π s σ H x y v u Q I rx ry h;obtain⟨i,j,rfl,rfl,q⟩:=h;obtain⟨t,rfl⟩:=rx;obtain⟨t',rfl⟩:=ry;exact in_str (AV I q rfl)
def An:gu X (R5 .Is) (λx y H Q=>y=.non/\Q (.bl (decide (x=.non))) H):=by
 intro π s σ H x y v u Q I rx ry h;obtain⟨rfl,q⟩:=h;cases ry;refine is_none_gen (AV I q ?_);cases x<;>first
  |(cases rx;rfl)
  |(obtain⟨t,rfl⟩:=rx;rfl)
def qE:gu X (R5 .IsNot) (λx y H Q=>y=.non/\Q (.bl (!decide (x=.non))) H):=by
 intro π s σ H x y v u Q I rx ry h;obtain⟨rfl,q⟩:=h;cases ry;refine isnot_none_gen (AV I q ?_);cases x<;>first
  |(cases rx;rfl)
  |(obtain⟨t,rfl⟩:=rx;rfl)
def gu.or(h:gu X f r)(h':gu X f r'):gu X f (λx y H Q=>r x y H Q∨r' x y H Q):=by
 intro π s σ H x y v u Q I rx ry q;rcases q with q|q
 .exact h π s σ H x y v u Q I rx ry q
 .exact h' π s σ H x y v u Q I rx ry q
def Io(ho:gu X (R5 op) r)(ha:PE X a ta)(hb:PE X b tb)(hm:behindInMarks op b=false):PE X (.Compare a [op] [b] pos) (M5 r ta tb):=by
 intro π s σ H Q I h;exact wpAny_Compare1 (Ms ha hb I h λv u s2 x y H2 I2 rx ry q=>ho π s2 σ H2 x y v u Q I2 rx ry q) hm
def JW(t:TE):TT:=λσ H Q=>t σ H λx H'=>∃k,x=.bl k/\Q k H'
def HX(ho:gu X (R5 op) r)(ha:PE X a ta)(hb:PE X b tb)(hm:behindInMarks op b=false):PT X (.Compare a [op] [b] pos) (JW (M5 r ta tb)):=by
 intro π s σ H Q I h;refine wpAny_isTrue_Compare1 (cT (ha π s σ H _ I h) λv s1 ⟨x,H1,I1,r1,q1⟩=>cT (hb π s1 σ H1 _ I1 q1) λu s2 ⟨y,H2,I2,r2,q2⟩ =>
  cT (ho π s2 σ H2 x y v u _ I2 r1 r2 q2) λc s3 ⟨z,H3,I3,r3,k,e,q3⟩=>?_) hm
 subst e;cases r3;exact SK ⟨H3,I3,q3⟩
def zW(r r':R2)(ta tb tc:TE):TE:=λσ H Q=>ta σ H λx H1=>tb σ H1 λy H2=>r x y H2 λz H3=>∃k,z=.bl k /\
 (if k=true then tc σ H3 λw' H4=>r' y w' H4 Q else Q (.bl false) H3)
def Fv(ho:gu X (R5 op) r)(ho':gu X (R5 op') r')(ha:PE X a ta)(hb:PE X b tb)(hc:PE X c tc)
  (hm:lastMarks [op,op'] [b,c]=false:=by with_unfolding_all rfl):PE X (.Compare a [op,op'] [b,c] pos) (zW r r' ta tb tc):=by
 intro π s σ H Q I h;refine Compare_chain (cT (ha π s σ H _ I h) λv s1 ⟨x,H1,I1,r1,q1⟩=>chain_link (cT (hb π s1 σ H1 _ I1 q1) λu s2 ⟨y,H2,I2,r2,q2⟩ =>
  cT (ho π s2 σ H2 x y v u _ I2 r1 r2 q2) λd s3 ⟨z,H3,I3,r3,k,e,q3⟩=>?_)) hm
 subst e;cases r3;refine SK ?_;cases k with|false=>exact ite_ff ⟨.bl false,H3,I3,rfl,q3⟩|true=>exact ite_tt (chain_last (cT (hc π s3 σ H3 _ I3 q3) λw' s4 ⟨z',H4,I4,r4,q4⟩=>ho' π s4 σ H4 y z' u w' Q I4 r2 r4 q4))
def E9(ho:gu X (R5 op) r)(ho':gu X (R5 op') r')(ha:PE X a ta)(hb:PE X b tb)(hc:PE X c tc)
  (hm:lastMarks [op,op'] [b,c]=false:=by with_unfolding_all rfl):PT X (.Compare a [op,op'] [b,c] pos) (JW (zW r r' ta tb tc)):=by
 intro π s σ H Q I h;refine isTrue_chain (cT (ha π s σ H _ I h) λv s1 ⟨x,H1,I1,r1,q1⟩=>test_link (cT (hb π s1 σ H1 _ I1 q1) λu s2 ⟨y,H2,I2,r2,q2⟩ =>
  cT (ho π s2 σ H2 x y v u _ I2 r1 r2 q2) λd s3 ⟨z,H3,I3,r3,k,e,q3⟩=>?_)) hm
 subst e;cases r3;refine SK ?_;cases k with
 |false=>
  obtain⟨k',e',q'⟩:=q3;cases e';exact ite_ff ⟨H3,I3,q'⟩
 |true=>
  refine ite_tt (test_last (cT (hc π s3 σ H3 _ I3 q3) λw' s4 ⟨z',H4,I4,r4,q4⟩=>cT (ho' π s4 σ H4 y z' u w' _ I4 r2 r4 q4) λd' s5 z9=>?_));obtain⟨z2,H5,I5,r5,k2,e2,q5⟩:=z9;subst e2;cases r5;exact SK ⟨H5,I5,q5⟩
noncomputable def QU(K:Q2) (x:V) (H:Hp) (k:Bool):Prop :=
 match x with
 |.non=>k=false
 |.bl b=>k=b
 |.int i=>k=(i != 0)
 |.str y=>y.length<=sizeLine/\k=((y.length:Int) != 0)
 |.byt y=>y.size<=sizeLine/\k=((y.size:Int) != 0)
 |.ref p=>(∃xs,fZ K H p xs/\k=!xs.isEmpty)∨(∃xs,l9 K H p xs/\k=!xs.isEmpty)∨∃kvs,H p=some (.dK kvs)/\k=!kvs.isEmpty
 |_=>False
def LK{vs:List (κ×QY)}(r:KV kvs vs):(!vs.isEmpty)=!kvs.isEmpty:=by
 cases r<;>rfl
def LJ(r:bg xs its):(!its.toArray.isEmpty)=!xs.isEmpty:=by
 cases r<;>simp
def sr:(sizeLine:Nat)<2 ^ 63:=by rw[sizeLine_eq];decide
def Ao:gu X (binaryOp .Add) (λx y H Q=>∃i j,x=.str i/\y=.str j/\i.length+j.length<=sizeLine/\Q (.str (i++j)) H):=by
 intro π s σ H x y v u Q I rx ry h;obtain⟨i,j,rfl,rfl,hz,q⟩:=h;obtain⟨t,rfl⟩:=rx;obtain⟨t',rfl⟩:=ry;exact add_str (λt' tk=>⟨.str (i++j),H,I.tok _,⟨_,rfl⟩,q⟩) hz
def Bc(r:bg [x] us):∃u,us=[u]/\bw x u:=by
 cases r with|cons r1 r2=>cases r2;exact⟨_,rfl,r1⟩
def MX(r:bg [x,y] us):∃u w',us=[u,w']/\bw x u/\bw y w':=by
 cases r with
 |cons r1 r2=>
  cases r2 with|cons r3 r4=>cases r4;exact⟨_,_,rfl,r1,r3⟩
def k8:ml X (.builtin "abs") (λxs H Q=>∃i,xs=[.int i]/\Q (.int (if i<0 then -i else i)) H):=by
 intro π s σ H xs us Q I r h;obtain⟨i,rfl,q⟩:=h;obtain⟨u,rfl,t,rfl⟩:=Bc r;exact call_abs_int λu tk=>⟨.int (if i<0 then -i else i),H,I.tok _,⟨_,rfl⟩,q⟩
def Dx(hc:X.calm=true):ml X (.builtin "min") (λxs H Q=>∃i j,xs=[.int i,.int j]/\Q (.int (if j<i then j else i)) H):=by
 intro π s σ H xs us Q I r h;obtain⟨i,j,rfl,q⟩:=h;obtain⟨u,w',rfl,⟨t,rfl⟩,⟨t',rfl⟩⟩:=MX r;refine min_two_ints (I.ok.hd hc) λh' tk k=>⟨_,H,I.kept k,?_,q⟩
 by_cases hj:j<i
 .rw[if_pos hj,if_pos hj];exact⟨_,rfl⟩
 .rw[if_neg hj,if_neg hj];exact⟨_,rfl⟩
def OC(K:Q2)(x:V)(H:Hp)(n:Nat):Prop :=
 match x with
 |.str y=>y.length<=sizeLine/\n=y.length
 |.byt y=>y.size<=sizeLine/\n=y.size
 |.ref p=>(∃xs,fZ K H p xs/\n=xs.length)∨∃xs,l9 K H p xs/\n=xs.length
 |_=>False
def bG:ml X (.builtin "len") (λxs H Q=>∃x n,xs=[x]/\OC X.K x H n/\Q (.int n) H):=by
 intro π s σ H xs us Q I r h;obtain⟨x,n,rfl,e,q⟩:=h;obtain⟨u,rfl,rx⟩:=Bc r;have hl:=sr;have hs:sizeLine=16777216:=sizeLine_eq;cases x with
 |str y=>
  obtain⟨t,rfl⟩:=rx;obtain⟨hy,e'⟩:y.length<=sizeLine/\n=y.length:=e;subst e';exact len_str (by omega) ⟨.int _,H,I.tok _,⟨_,rfl⟩,q⟩
 |byt y=>
  obtain⟨t,rfl⟩:=rx;obtain⟨hy,e'⟩:y.size<=sizeLine/\n=y.size:=e;subst e';exact W.len_bytes (by omega) ⟨.int _,H,I.tok _,⟨_,rfl⟩,q⟩
 |ref p=>
  cases rx;have e':(∃xs,fZ X.K H p xs/\n=xs.length)∨∃xs,l9 X.K H p xs/\n=xs.length:=e;rcases e' with⟨xs,hx,e'⟩|⟨xs,hx,e'⟩
  .subst e'
   obtain⟨its,r',pl,hz⟩:=I.list hx;have hlen:=r'.length;exact Calls.call_len_list pl.isList (by simp only[Rq];omega) ⟨.int xs.length,H,I.tok _,⟨_,by simp only[Rq];rw[hlen]⟩,q⟩
  .subst e'
   obtain⟨its,r',pl,hz⟩:=I.tuple hx;have hlen:=r'.length;exact len_tuple pl (by simp only[Rq];omega) ⟨.int xs.length,H,I.tok _,⟨_,by simp only[Rq];rw[hlen]⟩,q⟩
 |_=>exact(show False from e).elim
end
structure DQ (h:RA) (x dx C:Q9) (mA:Ro->Option QY):Prop where
 obj:h.get? x=some (UQ C dx)
 ns:h.Ns1 dx mA
 ne:dx≠x
def C3{h:RA}(n:h.Ns1 dx mA):∃od,h.get? dx=some od/\∀name,W.lookIn name od=some (mA name):=by
 obtain⟨o,es,ep,ho,hd,hk,_,hm⟩:=n;refine⟨o,ho,λname=>?_⟩;have e:=hm name;unfold nsFind findBy at e;rw[←Array.find?_toList]at e;unfold W.lookIn;rw[hd];dsimp only;split
 .rename_i y q
  rw[q]at e;exact congrArg some e
 .rename_i q
  rw[q]at e;have a:es.toList.any (·.refKey)=false:=by
   rw[List.any_eq_false];intro y hy;obtain⟨z,t,hkey⟩:=hk y (Array.mem_toList_iff.mp hy);simp[DictEntry.refKey,hkey]
  have a':¬es.toList.any (·.refKey)=true:=by rw[a];exact RM
  rw[if_neg a'];exact congrArg some e
def DQ.look{h:RA}(I:DQ h x dx C mA):∃od,W.InstAt h x (UQ C dx) C (some od)/\∀name,W.lookIn name od=some (mA name) :=
 let ⟨od,ho,hl⟩:=C3 I.ns
 ⟨od,⟨I.obj,rfl,rfl,ho⟩,hl⟩
section
variable {prog:Se}{w:Sx}{A:Sv}{E:QY->Rg->Prop}{s:Rg}{K:Q2}{x dx C f:Q9}{mA:Ro->Option QY}{name:Ro}{v:QY}
def IW(X:K.In s.heap)(I:DQ s.heap x dx C mA)(hg:Vr K C name=true)(hh:Vf K C=true)
  (ha:SN K (.ref C) name=some none)(hv:mA name=some v)(hv':W.handedIn v=true)(h:Q v { s with toks:=s.toks+1 }) :
  RH (RB prog w) A (getAttr (.ref x) name expr) Q E s:=by
 obtain⟨od,J,hl⟩:=I.look;exact W.get_value X J (W.plainGet_of hg).1 (W.findObj_own hh ha rfl (by rw[hl,hv])) hv' h
def HF(X:K.In s.heap)(I:DQ s.heap x dx C mA)
  (hs:SN K (.ref C) "__setattr__"=some (some (.builtin "object.__setattr__")))(hp:VO K C=true)(ht:W.takerIn K C name=some none)(hh:Vf K C=true)
  (hw:VC mA ns)(hsz:ns.length<=sizeLine)
  (h:∀h',DQ h' x dx C (λy=>if y=name then some v else mA y)->UO dx s.heap h'->Q () { s with heap:=h',toks:=s.toks+2 }) :
  RH (RB prog w) A (setAttr (.ref x) name v) Q E s:=by
 obtain⟨od,J,hl⟩:=I.look;refine W.set_plain X J hs (W.osa_open (s:={ s with toks:=s.toks+1 }) (r:=none) X J hp ht λb=>?_);obtain⟨cd,hc,hd'⟩:=W.any_some hh;have hx:s.heap.get? x=some ⟨.ref C,some dx,.plain,#[]⟩:=I.obj;refine Rj (RI (Rj (Rj (wpAny_loadPart hx (Rj (W.Looks.here (s:={ s with toks:=s.toks+1 }) (W.looks_clsIn X hc) ?_))))));rw[hd'];refine RI (a:=some dx) (Rj (RI (Rj ?_)));refine wpAny_nsSet1 (s:={ s with toks:=s.toks+1 }) I.ns λh' hn2 hs2=>?_;obtain⟨oD,esD,epD,hoD,hdD,hcD⟩:=hn2.count (VC.cons name v hw);refine Rj (wpAny_lookBehind hoD (by rw[hdD];exact pastItsLine_dict (Ra hcD (by rw[Rt];omega))) ?_);exact RI (h _ ⟨(hs2.2 _ (R7 I.ne)).trans I.obj,hn2,I.ne⟩ hs2)
def FV(X:K.In s.heap)(hm:W.makesIn K C=true)
  (hi:SN K (.ref C) "__init__"=some (some (.ref f)))(hf:W.typeIn K (.ref f)=some (.type "function"))
  (h:Tw (RB prog w) (A.under (.builtin "type.__call__" ⟨.ref C::vs,kw⟩)) (.call (.ref f) ⟨.ref (s.heap.objs.size+1)::vs,kw⟩) (W.InitBack (s.heap.objs.size+1) R)
   { s with heap:=(s.heap.push T4).push (UQ C s.heap.objs.size) }) :
  Tw (RB prog w) A (.call (.ref C) ⟨vs,kw⟩) R s:=by
 obtain⟨hh,g,d,t,os⟩:=s;exact W.make_core (W.makes_of X hm) (W.looks_findIn X hi) (λself=>W.bind_fn X self hf) (.inl rfl) h
end
def iW(f:Ro)(v:V):List (Ro×V)->List (Ro×V)
 |[]=>[(f,v)]
 |(g,x)::r=>if g=f then(g,v)::r else(g,x)::iW f v r
theorem pM(f g:Ro)(v:V):∀fs:List (Ro×V),(iW f v fs).lookup g=if g=f then some v else fs.lookup g
 |[]=>by
  show UG g [(f,v)]=_
  by_cases h:g=f
  .have hb:(g==f)=true:=beq_iff_eq.mpr h
   simp only[UG,hb,if_pos h]
  .have hb:(g==f)=false:=beq_eq_false_iff_ne.mpr h
   simp only[UG,hb,if_neg h]
 |(k,x)::r=>by
  have ih:=pM f g v r;rw[show iW f v ((k,x)::r)=(if k=f then(k,v)::r else(k,x)::iW f v r) from rfl]
  by_cases hk:k=f
  .rw[if_pos hk]
   by_cases h:g=k
   .have hb:(g==k)=true:=beq_iff_eq.mpr h
    simp only[UG,hb,if_pos (h.trans hk)]
   .have hb:(g==k)=false:=beq_eq_false_iff_ne.mpr h
    simp only[UG,hb,if_neg (λe:g=f=>h (e.trans hk.symm))]
  .rw[if_neg hk]
   by_cases h:g=k
   .have hb:(g==k)=true:=beq_iff_eq.mpr h
    simp only[UG,hb,if_neg (λe:g=f=>hk (h.symm.trans e))]
   .have hb:(g==k)=false:=beq_eq_false_iff_ne.mpr h
    simp only[UG,hb];exact ih
theorem oX(f:Ro)(v:V):∀fs:List (Ro×V),f∈(iW f v fs).map (·.1)/\∀g,g∈fs.map (·.1)->g∈(iW f v fs).map (·.1)
 |[]=>⟨by simp[iW],λg h=>by simp at h⟩
 |(k,x)::r=>by
  obtain⟨i1,i2⟩:=oX f v r;rw[show iW f v ((k,x)::r)=(if k=f then(k,v)::r else(k,x)::iW f v r) from rfl]
  by_cases hk:k=f
  .rw[if_pos hk]
   subst hk;exact⟨by simp,λg h=>by simpa using h⟩
  .rw[if_neg hk]
   refine⟨?_,λg h=>?_⟩
   .rw[Q6]
    exact QX _ i1
   .rw[Q6]at h ⊢
    rcases Rh.mp h with e|e
    .exact Rh.mpr (.inl e)
    .exact QX _ (i2 g e)
theorem pP(f:Ro)(v:V):∀fs:List (Ro×V),(iW f v fs).length<=fs.length+1
 |[]=>by simp[iW]
 |(k,x)::r=>by
  have ih:=pP f v r;rw[show iW f v ((k,x)::r)=(if k=f then(k,v)::r else(k,x)::iW f v r) from rfl]
  by_cases hk:k=f
  .rw[if_pos hk,Rt,Rt];omega
  .rw[if_neg hk,Rt,Rt];omega
def pz.some_of(r:pz (some v) o):∃u,o=some u/\bw v u:=by
 cases o with|none=>exact(show False from r).elim|some u=>exact⟨u,rfl,r⟩
def Dg(r:bw v u):W.handedIn u=true:=by
 cases v with|non=>cases (show u=SO from r);rfl|bl b=>cases (show u=SG b from r);rfl|int i=>obtain⟨t,e⟩:=(show ∃t,u=S2 i t from r);cases e;rfl|str x=>obtain⟨t,e⟩:=(show ∃t,u=S1 x t from r);cases e;rfl|byt b=>obtain⟨t,e⟩:=(show ∃t,u=Value.bytes b t from r);cases e;rfl|flt b=>obtain⟨t,e⟩:=(show ∃t,u=WH b t from r);cases e;rfl|ref a=>cases (show u=RY a from r);rfl|ty n=>cases (show u=Value.type n from r);rfl
section
variable {P:Se}{w:Sx}{H H':Hp}{h h':RA}{a C dx:Q9}{fs fs':List (Ro×V)}
def qI(hok:jt P w H h)(e:H a=some (.ins C dx fs)):∃mA,DQ h a dx C mA/\(∀f,pz (fs.lookup f) (mA f))/\VC mA (fs.map (·.1))/\fs.length<=1000/\H dx=some (.own a):=by
 obtain⟨d,z,ne,ob,mA,n,r,q⟩:=(show cy P w H h a (.ins C dx fs) from hok a _ e)
 exact⟨mA,⟨ob,n,ne⟩,r,q,z,d⟩
end
structure Hd (K:Q2) (C:Q9):Prop where
 pg:Vr K C Str.empty=true
 hd:Vf K C=true
 po:VO K C=true
 sa:SN K (.ref C) "__setattr__"=some (some (.builtin "object.__setattr__"))
def Hd.get{K:Q2}(c:Hd K C)(f:Ro):Vr K C f=true:=c.pg
def gi(K:Q2)(C:Q9)(f:Ro):Prop:=SN K (.ref C) f=some none
def gi.taker{K:Q2}(n:gi K C f):W.takerIn K C f=some none:=by
 unfold W.takerIn;rw[show SN K (.ref C) f=some none from n];rfl
section
variable {X:Cx}{π:List (Q9×Obj)}{σ:St}{H:Hp}{s:Rg}{a C dx:Q9}{fs:List (Ro×V)}{f:Ro}{v:V}{A:Sv}{E:QY->Rg->Prop}
def AR(I:Inv X π σ H s)(e:H a=some (.ins C dx fs))(c:Hd X.K C)(n:gi X.K C f)(l:fs.lookup f=some v)
  (h:∀u s',Inv X π σ H s'->bw v u->Q u s'):RH (RB X.prog X.w) A (getAttr (.ref a) f b) Q E s:=by
 obtain⟨mA,O,r,_,_,_⟩:=qI I.hok e;obtain⟨u,hu,ru⟩:=pz.some_of (v:=v) (o:=mA f) (by rw[←l];exact r f);exact IW I.kIn O (c.get f) c.hd n hu (Dg ru) (h u _ (I.tok _) ru)
def z6(I:Inv X π σ H s)(e:H a=some (.ins C dx fs))(c:Hd X.K C)(n:gi X.K C f)(hl:fs.length<1000)(ry:bw y u)
  (h:∀s',Inv X π σ (upd H a (.ins C dx (iW f y fs))) s'->Q () s'):RH (RB X.prog X.w) A (setAttr (.ref a) f u) Q E s:=by
 obtain⟨mA,O,r,wi,_,ho⟩:=qI I.hok e;have hz:(fs.map (·.1)).length<=sizeLine:=by rw[Q0,sizeLine_eq];omega
 refine HF I.kIn O c.sa c.po n.taker c.hd wi hz λh' O' sb=>h _ ?_;have hd:∃o,h'.get? dx=some o:=let ⟨o,_,_,e',_⟩:=O'.ns;⟨o,e'⟩;refine I.write (x:=a) (e:=dx) (by rw[e];exact S3) (.inr ho) (λb q hb z=>(sb.2 b hb).trans z) hd ?_;refine⟨by rw[aF O.ne];exact ho,?_,O.ne,O'.obj,_,O'.ns,λg=>?_,λg hg=>?_⟩
 .have:=pP f y fs;omega
 .show pz ((iW f y fs).lookup g) (if g=f then some u else mA g)
  rw[pM]
  by_cases q:g=f
  .rw[if_pos q,if_pos q];exact ry
  .rw[if_neg q,if_neg q];exact r g
 .by_cases q:g=f
  .rw[q];exact(oX f y fs).1
  .refine(oX f y fs).2 g (wi g λz=>hg ?_)
   show(if g=f then some u else mA g)=none;rw[if_neg q];exact z
def G3(I:Inv X π σ H s):Inv X π σ (upd (upd H s.heap.objs.size (.own (s.heap.objs.size+1))) (s.heap.objs.size+1) (.ins C s.heap.objs.size []))
  { s with heap:=(s.heap.push T4).push (UQ C s.heap.objs.size) }:=by
 have e1:(s.heap.push T4).get? s.heap.objs.size=some T4:=R3 s.heap rfl;have e2:((s.heap.push T4).push (UQ C s.heap.objs.size)).get? (s.heap.objs.size+1)=some (UQ C s.heap.objs.size):=by
  have:=R3 (s.heap.push T4) (o:=UQ C s.heap.objs.size) rfl
  rwa [V5]at this
 have e3:(s.heap.push T4).Ns s.heap.objs.size (λ_=>none):=⟨T4,#[],_,e1,rfl,(λe he=>absurd he (by simp)),λ_=>rfl⟩
 have I1:=I.laid (a:=s.heap.objs.size) (o:=.own (s.heap.objs.size+1)) (h':=s.heap.push T4) (t':=s.toks) (λb u q=>Ri _ q) (RG _) ⟨_,e1⟩;refine I1.laid (a:=s.heap.objs.size+1) (o:=.ins C s.heap.objs.size []) (t':=s.toks) (λb u q=>Ri _ q) (Wq (V5 _ _)) ?_;have ne:s.heap.objs.size≠s.heap.objs.size+1:=RU (TC _);refine⟨by rw[aF ne,aL],Uq _,ne,e2,λ_=>none,(Heap.Ns1.of_empty e3).at λo q=>Ri _ q,λ_=>S3,λy hy=>absurd rfl hy⟩
def JC(hb:Tc e f env (eval e env)=eval e env)
  (h:RH (RB prog w) A (eval e env) (λo si=>RH (RB prog w) A (getAttr o f true) Q E si) E s):RH (RB prog w) A (eval (.Attribute e f pos) env) Q E s :=
 Attribute_any_ h (by rw[arm_eval_Attribute,hb])
end
def Pd(K:Q2)(ta:TE)(f:Ro):TE:=λσ H Q=>ta σ H λx H1=>∃a C dx fs v,x=.ref a/\H1 a=some (.ins C dx fs)/\Hd K C/\gi K C f/\fs.lookup f=some v/\Q v H1
def Pk(K:Q2)(ta tv:TE)(f:Ro):TS:=λD σ H=>tv σ H λy H1=>ta σ H1 λx H2=>∃a C dx fs,x=.ref a/\H2 a=some (.ins C dx fs)/\Hd K C/\gi K C f/\fs.length<1000 /\
 D.nx σ (upd H2 a (.ins C dx (iW f y fs)))
section
variable {X:Cx}{o e value:R1}{f:Ro}{pos pos' tpos:Pos}{ta tv:TE}
def Lf(he:PE X e ta)(hb:Tc e f X.env (eval e X.env)=eval e X.env):PE X (.Attribute e f pos) (Pd X.K ta f):=by
 intro π s σ H Q I h;refine JC hb (cT (he π s σ H _ I h) λu s1 z9=>?_);obtain⟨x,H1,I1,rx,a,C,dx,fs,v,ex,ea,c,n,l,q⟩:=z9;subst ex;obtain rfl:u=RY a:=rx;exact AR I1 ea c n l λu' s2 I2 ru=>⟨v,H1,I2,ru,q⟩
def K7(ha:PE X o ta)(hv:PE X value tv)(hs:SD value (some (.Attribute o f pos')) pos.line X.env=pure false):PS X (.Assign [.Attribute o f pos'] value pos) (Pk X.K ta tv f):=by
 intro π s σ H D I h;refine plainObj_wpAny_Assign_Attribute (cT (hv π s σ H _ I h) λu s1 ⟨y,H1,I1,ry,q⟩=>cT (ha π s1 σ H1 _ I1 q) λov s2 z9=>?_) hs;obtain⟨x,H2,I2,rx,a,C,dx,fs,ex,ea,c,n,l,q2⟩:=z9;subst ex;obtain rfl:ov=RY a:=rx;exact z6 I2 ea c n l ry λs3 I3=>⟨σ,_,I3,q2⟩
end
section
variable {X:Cx}{π:List (Q9×Obj)}{σ:St}{H:Hp}{s:Rg}{A:Sv}{E:QY->Rg->Prop}{Q:QY->Rg->Prop}{c:QY}{b:Bool}
inductive qp (K:Q2) (H:Hp):V->QY->Prop where
 |non:qp K H .non (.type "NoneType")
 |bl (x:Bool):qp K H (.bl x) (.type "bool")
 |int (i:Int):qp K H (.int i) (.type "int")
 |str (x:Ro):qp K H (.str x) (.type "str")
 |flt (x:UInt64):qp K H (.flt x) (.type "float")
 |lst {a:Q9}{xs:al}(e:H a=some (.lst xs)):qp K H (.ref a) (.type "list")
 |frz {a:Q9}{o:Obj}{xs:al}(e:H a=some (.frz o (.lst xs))):qp K H (.ref a) (.type "list")
 |tup {a:Q9}{xs:al}(e:H a=some (.tup xs)):qp K H (.ref a) (.type "tuple")
 |dK {a:Q9}{kvs:List (iF×V)}(e:H a=some (.dK kvs)):qp K H (.ref a) (.type "dict")
 |dT {a:Q9}{kvs:List (List iF×V)}(e:H a=some (.dT kvs)):qp K H (.ref a) (.type "dict")
 |ins {a C dx:Q9}{fs:List (Ro×V)}(e:H a=some (.ins C dx fs)) (cl:Hd K C) (ha:SN K (.ref C) "__class__"=some (some (.builtin "object.__class__")))
   (hn:VN K (.builtin "object.__class__") "__get__"=some (some (.builtin "getset_descriptor.__get__"))) (htk:Wj K (.builtin "object.__class__")=some true)
   (hm:W.mroIn K C (.type "object")=some true):qp K H (.ref a) (.ref C)
def jB(I:Inv X π σ H s)(rx:bw x u)(ty:qp X.K H x t)(e:W.kitOne X.K t c=some b)(h:∀tk,Q (.bool b) { s with toks:=tk }) :
  RH (RB X.prog X.w) A (call (.builtin "isinstance") [u,c]) Q E s:=by
 cases ty with
 |non=>cases (show u=SO from rx);exact SI W.kitx_none I.kIn S3 e (λz=>nomatch z) h|bl y=>cases (show u=SG y from rx);exact SI W.kitx_bool I.kIn S3 e (λz=>nomatch z) h|int i=>obtain⟨t,q⟩:=(show ∃t,u=S2 i t from rx);cases q;exact SI W.kitx_int I.kIn S3 e (λz=>nomatch z) h|str y=>obtain⟨t,q⟩:=(show ∃t,u=S1 y t from rx);cases q;exact SI W.kitx_str I.kIn S3 e (λz=>nomatch z) h|flt y=>obtain⟨t,q⟩:=(show ∃t,u=WH y t from rx);cases q;exact SI W.kitx_float I.kIn S3 e (λz=>nomatch z) h
 |@lst a xs ea=>
  cases (show u=RY a from rx);obtain⟨_,_,n,_,h1⟩:=(show cy X.prog X.w H s.heap a (.lst xs) from I.hok a _ ea)
  exact SI WG I.kIn ⟨_,h1,rfl⟩ e (λz=>nomatch z) h
 |@frz a ob xs ea=>
  cases (show u=RY a from rx);obtain⟨_,_,_,n,_,h1⟩:=(show cy X.prog X.w H s.heap a (.frz ob (.lst xs)) from I.hok a _ ea)
  exact SI WG I.kIn ⟨_,h1,rfl⟩ e (λz=>nomatch z) h
 |@tup a xs ea=>
  cases (show u=RY a from rx);obtain⟨_,_,_,p⟩:=(show cy X.prog X.w H s.heap a (.tup xs) from I.hok a _ ea)
  obtain⟨o,h1,h2,_⟩:=p;exact SI W.kitx_tuple I.kIn ⟨o,h1,h2⟩ e (λz=>nomatch z) h
 |@dK a kvs ea=>
  cases (show u=RY a from rx);obtain⟨_,_,vs,_,p⟩:=(show cy X.prog X.w H s.heap a (.dK kvs) from I.hok a _ ea)
  obtain⟨o,es,ep,h1,h2,_⟩:=p;exact SI VP I.kIn ⟨o,h1,h2.1⟩ e (λz=>nomatch z) h
 |@dT a kvs ea=>
  cases (show u=RY a from rx);obtain⟨_,_,xs,_,o,es,ep,h1,h2,_⟩:=(show cy X.prog X.w H s.heap a (.dT kvs) from I.hok a _ ea)
  exact SI VP I.kIn ⟨o,h1,h2.1⟩ e (λz=>nomatch z) h
 |@ins a C dx fs ea cl ha hn htk hm=>
  cases (show u=RY a from rx);obtain⟨mA,O,_⟩:=qI I.hok ea;obtain⟨od,J,_⟩:=O.look;exact SI (W.kitx_own (cl.get _) cl.hd ha hn htk hm) I.kIn J e (λz=>nomatch z) h
end
structure dz (k:Nat) (A:Sv):Prop where
 hd:A.handled=none
 dp:A.depth+3*k+5<recursionLimit
 un:A.units+16*k+200<TY
 gd:A.guards=some []
def dz.mono{j k:Nat}(r:dz k A)(h:j<=k):dz j A:=⟨r.hd,by have:=r.dp;omega,by have:=r.un;omega,r.gd⟩
def dz.deeper{k:Nat}(r:dz (k+1) A)(env:Env):dz k (A.deeper env) :=
 ⟨r.hd,by have:=r.dp;show A.depth+1+3*k+5<_;omega,by have:=r.un;show A.units+3+16*k+200<_;omega,r.gd⟩
def AB{A:Sv}:(A.under (.builtin "type.__call__" ⟨.ref C::us,kw⟩)).depth=A.depth+1:=by
 first|rfl|simp[VI,Code.weight,Code.isCreation,Code.isGuard,Code.isCaller,Code.frames,Wy,guardIds]
def Az{A:Sv}:(A.under (.builtin "type.__call__" ⟨.ref C::us,kw⟩)).units=A.units+1:=by
 first|rfl|simp[VI,Code.cUnits,Code.frames,Wy]
def dz.make{k:Nat}(r:dz (k+1) A)(C:Q9)(us:List QY)(kw:List (Ro×QY)):dz k (A.under (.builtin "type.__call__" ⟨.ref C::us,kw⟩)) :=
 ⟨r.hd,by have:=r.dp;rw[AB];omega,by have:=r.un;rw[Az];omega,by have:=r.gd;simp[VI,Code.guards,Code.isGuard,guardIds,pushGuards,this]⟩
def dz.depth{k:Nat}(r:dz k A):A.depth<recursionLimit:=by have:=r.dp;omega
def dz.units{k:Nat}(r:dz k A):A.units+64<TY:=by have:=r.un;omega
def O9:TA:=λ_ H Q=>Q [] H
def Nd(ta:TE)(tr:TA):TA:=λσ H Q=>ta σ H λx H1=>tr σ H1 λxs H2=>Q (x::xs) H2
section
variable {X:Cx}{e:R1}{es:List R1}{te:TE}{t:TA}{pos:Pos}
def jR:PA X [] O9:=λ_ _ _ _ H Q I h=>Calls.spliced_nil ⟨[],H,I,.nil,h⟩
def fM(ha:PE X e te)(hr:PA X es t)(hs:Rk (e::es) X.env=(false,eval e X.env)::Rk es X.env:=by rfl):PA X (e::es) (Nd te t):=by
 intro pos π s σ H Q I h;rw[hs];show RH _ _ (spliced ((false,eval e X.env)::SM pos (Rk es X.env))) _ _ s;refine Calls.spliced_cons (cT (ha π s σ H _ I h) λu s1 ⟨x,H1,I1,r1,q1⟩=>?_);exact cT (hr pos π s1 σ H1 _ I1 q1) λus s2 ⟨xs,H2,I2,r2,q2⟩=>⟨x::xs,H2,I2,.cons r1 r2,q2⟩
def O3(t:TA):TE:=λσ H Q=>t σ H λxs H1=>xs.length<=sizeLine/\∀p,H1 p=none->Q (.ref p) (upd H1 p (.tup xs))
def Pa(t:TA):TE:=λσ H Q=>t σ H λxs H1=>xs.length<=sizeLine/\∀p,H1 p=none->Q (.ref p) (upd H1 p (.lst xs))
def Fj{x1}(h:PA X es t):PE X (.Tuple es x1 pos) (O3 t):=by
 intro π s σ H Q I hq;refine wpAny_Tuple_spliced (cT (h pos π s σ H _ I hq) λus s1 ⟨xs,H1,I1,r,z,q⟩=>⟨by rw[←r.length];exact z,?_⟩);have hf:H1 s1.heap.objs.size=none:=I1.hok.fresh (RG _);refine⟨.ref s1.heap.objs.size,upd H1 s1.heap.objs.size (.tup xs),I1.laid (t':=s1.toks) (λb u e=>Ri _ e) (RG _) ?_,rfl,q _ hf⟩;exact⟨z,us,r,⟨_,R3 _ rfl,rfl,_,rfl⟩⟩
def Fq(h:PA X es t):PE X (.List es pos) (Pa t):=by
 intro π s σ H Q I hq;refine wpAny_List_spliced (cT (h pos π s σ H _ I hq) λus s1 ⟨xs,H1,I1,r,z,q⟩=>⟨by rw[←r.length];exact z,?_⟩);have hf:H1 s1.heap.objs.size=none:=I1.hok.fresh (RG _);refine⟨.ref s1.heap.objs.size,upd H1 s1.heap.objs.size (.lst xs),I1.laid (t':=s1.toks) (λb u e=>Ri _ e) (RG _) ?_,rfl,q _ hf⟩;exact⟨z,us,0,r,R3 _ rfl⟩
end
abbrev Sp:=al->Hp->VK->XK->Prop
abbrev zI:=List Env->Hp->Rg->XK->QY->Rg->Prop
structure qr (P:Se) (w:Sx) (K:Q2) (mg:Ro->Option QY) (base:RA) (A:Sv) (outer:List Env) (s:Rg) (H:Hp):Prop where
 frames:A.frames=some outer
 mod:Mod K mg base
 bs:∀b o,base.get? b=some o->s.heap.get? b=some o/\H b=none
 bsz:base.objs.size<=s.heap.objs.size
 funs:s.heap.FunFrames base outer
 frf:∀b∈AS outer,H b=none
 hok:jt P w H s.heap
 bare:AllBare s.gens
 tab:Co K H
def CE(outer:List Env)(P:Se)(w:Sx)(H:Hp)(s:Rg)(Q:VK)(u:QY)(s':Rg):Prop :=
 ∃v H',s'.os=s.os/\AllBare s'.gens/\Un (AS outer) [] H H' s.heap s'.heap/\jt P w H' s'.heap/\bw v u/\Q v H'
def CR(CX:zI)(outer:List Env)(P:Se)(w:Sx)(H:Hp)(s:Rg)(Q:VK)(E:XK)(r:Result)(s':Rg):Prop :=
 match r with
 |.ok (.ret u)=>CE outer P w H s Q u s'
 |.ok _=>False
 |.error e=>CX outer H s E e s'
structure iY (P:Se) (w:Sx) (K:Q2) (mg:Ro->Option QY) (base:RA) (CX:zI) (k:Nat) (f:Q9) (fd:SV) (ps:bv) (sp:Sp):Prop where
 len:∀vs H Q E,sp vs H Q E->vs.length=ps.length
 run:∀(A:Sv) (outer:List Env) (s:Rg) (H:Hp) (args:Args) (us:List QY) (vs:al) (Q:VK) (E:XK),dz k A->qr P w K mg base A outer s H->BindsTo s fd args (ps.zip us)->bg vs us->sp vs H Q E ->
  Tw (RB P w) A (.call (.ref f) args) (CR CX outer P w H s Q E) s
def iY.mono{K:Q2}{j k:Nat}{ps:bv}(F:iY P w K mg base CX j f fd ps sp)(h:j<=k) :
  iY P w K mg base CX k f fd ps sp:=⟨F.len,λA outer s H args us vs Q E hr=>F.run A outer s H args us vs Q E (hr.mono h)⟩
def qr.make{K:Q2}(e:qr P w K mg base A outer s H)(C:Q9)(us:List QY)(kw:List (Ro×QY)) :
  qr P w K mg base (A.under (.builtin "type.__call__" ⟨.ref C::us,kw⟩)) outer s H:=⟨by first|exact e.frames|(simpa[VI,Code.envs,Wy,pushEnvs] using e.frames),e.mod,e.bs,e.bsz,e.funs,e.frf,e.hok,e.bare,e.tab⟩
section
variable {X:Cx}{π:List (Q9×Obj)}{σ:St}{H:Hp}{s s':Rg}
def Inv.tab(I:Inv X π σ H s):Co X.K H:=λP d h=>by
 obtain⟨m,e⟩:=I.ok.tab P d h;obtain⟨m2,e2⟩:=I.base.tbls P _ e;exact⟨m++m2,by rw[e2,Array.append_assoc]⟩
def Inv.env0(I:Inv X π σ H s):qr X.prog X.w X.K X.mg X.base X.A X.stack s H :=
 ⟨I.ok.frames,I.ok.mod,I.bs,Ra I.ok.bsz I.sz,I.stack,I.stkFree,I.hok,I.bare,I.tab⟩
def Inv.after(I:Inv X π σ H s)(h:CE X.stack X.prog X.w H s Q u s'):EP X π σ Q u s':=by
 obtain⟨v,H',os,bare,un,hok,r,q⟩:=h;obtain⟨hh,g,d,t,os'⟩:=s';obtain rfl:os'=s.os:=os;exact⟨v,H',I.call (h':=hh) (g':=g) (d':=d) (t':=t) (ch:=[]) un hok bare (λb z=>absurd z (by simp)),r,q⟩
end
def Nf(sp:Sp)(dvs:al)(E:XK)(t:TA):TE:=λσ H Q=>t σ H λvs H1=>sp (vs++dvs) H1 Q E
def M8(C:Q9)(sp:Sp)(dvs:al)(E:XK)(t:TA):TE:=λσ H Q=>t σ H λvs H1=>∀x dx,H1 x=none->H1 dx=none->dx≠x ->
 sp (.ref x::(vs++dvs)) (upd (upd H1 dx (.own x)) x (.ins C dx [])) (λv H2=>v=.non/\Q (.ref x) H2) E
def ko(K:Q2)(fd:SV)(ps:bv)(ds:List QY):Prop :=
 ∀(s:Rg) (us:List QY),K.In s.heap->(us++ds).length=ps.length->BindsTo s fd ⟨us,[]⟩ (ps.zip (us++ds))
def ko.all{K:Q2}{ps:bv}(h:∀us:List QY,us.length=ps.length->bindArgs fd ⟨us,[]⟩=pure (ps.zip us)):ko K fd ps []:=λs us _ hl=>by
 rw[Sj]at hl ⊢;exact .of_eq (h us hl)
def gU(CX:zI)(X:Cx)(E:XK):Prop:=∀(π:List (Q9×Obj)) (σ:St) (H:Hp) (s:Rg) (e:QY) (s':Rg),Inv X π σ H s->CX X.stack H s E e s'->X.xe e s'
section
variable {X:Cx}{CX:zI}{k:Nat}{f C:Q9}{fd:SV}{ps:bv}{sp:Sp}{dvs:al}{ds:List QY}{E:XK}{x m:Ro}{p pos apos:Pos}{e o:R1}{es:List R1}{ta:TE}{t:TA}
def KW(F:iY X.prog X.w X.K X.mg X.base CX k f fd ps sp)(hr:dz k X.A)(hb:ko X.K fd ps ds)(hd:bg dvs ds)(hx:gU CX X E)
  (I:Inv X π σ H s)(r:bg vs us)(h:sp (vs++dvs) H Q E):RH (RB X.prog X.w) X.A (call (.ref f) us) (EP X π σ Q) X.xe s:=by
 have r2:bg (vs++dvs) (us++ds):=r.append hd;have hl:(us++ds).length=ps.length:=by rw[←r2.length];exact F.len _ _ _ _ h
 refine wpAny_call (codeAny_mono (F.run X.A X.stack s H ⟨us,[]⟩ (us++ds) (vs++dvs) Q E hr I.env0 (hb s us I.kIn hl) r2 h) λr s' hq=>?_);cases r with
 |error e=>exact hx π σ H s e s' I hq
 |ok fl=>
  cases fl with|ret u=>exact I.after hq|next|brk|cont=>exact Ss hq
def Ip(F:iY X.prog X.w X.K X.mg X.base CX k f fd ps sp)(hr:dz k X.A)(hg:Gl X x)(hm:X.mg x=some (.ref f))(hk:UZ X.K (.ref f)=true)(hb:ko X.K fd ps ds)(hd:bg dvs ds)(hx:gU CX X E)
  (ha:PA X (e::es) t)(hdb:(x==("__debug__" : Ro))=false:=by decide)(he:Rk (e::es) X.env=(false,eval e X.env)::Rk es X.env:=by rfl)(hpl:(SM pos (Rk es X.env)).any (·.1)=false:=by rfl) :
  PE X (.Call (.Name x p) (e::es) [] pos) (Nf sp dvs E t):=by
 intro π s σ H Q I h;refine wpAny_Call_Name_kw (qG I hg hm ?_ hdb);refine Wl (h₀:=X.base) I.ok.mod.kin hk (cT (ha pos π s σ H _ I h) λus s1 z9=>?_) he hpl;obtain⟨vs,H1,I1,r,q⟩:=z9;refine⟨I1.kIn,?_⟩;exact KW F hr hb hd hx I1 r q
structure Mk (K:Q2) (C f:Q9):Prop where
 makes:W.makesIn K C=true
 init:SN K (.ref C) "__init__"=some (some (.ref f))
 fn:W.isFn K (.ref f)=true
 kp:UZ K (.ref C)=true
def ED(M:Mk X.K C f)(F:iY X.prog X.w X.K X.mg X.base CX k f fd ps sp)(hr:dz (k+1) X.A)(hb:ko X.K fd ps ds)(hd:bg dvs ds)
  (hx:gU CX X E)(I:Inv X π σ H s)(r:bg vs us)
  (h:∀x dx,H x=none->H dx=none->dx≠x->sp (.ref x::(vs++dvs)) (upd (upd H dx (.own x)) x (.ins C dx [])) (λv H2=>v=.non/\Q (.ref x) H2) E) :
  RH (RB X.prog X.w) X.A (call (.ref C) us) (EP X π σ Q) X.xe s:=by
 have hq:=h (s.heap.objs.size+1) s.heap.objs.size (I.hok.fresh (Nat.le_succ _)) (I.hok.fresh (RG _)) (RU (TC _));have I2:=G3 (C:=C) I;have r2:bg (V.ref (s.heap.objs.size+1)::(vs++dvs)) (RY (s.heap.objs.size+1)::(us++ds)):=.cons rfl (r.append hd);have hl:(RY (s.heap.objs.size+1)::us++ds).length=ps.length:=by
  have e:=r2.length;rw[F.len _ _ _ _ hq]at e;exact e.symm
 refine wpAny_call (FV (f:=f) I.kIn M.makes M.init (beq_iff_eq.mp M.fn) (codeAny_mono (F.run _ X.stack _ _ ⟨RY (s.heap.objs.size+1)::us,[]⟩ (RY (s.heap.objs.size+1)::(us++ds)) _ _ E (hr.make C us [])
  (I2.env0.make C us []) (hb _ (RY (s.heap.objs.size+1)::us) I2.kIn hl) r2 hq) λr s' hq'=>?_))
 cases r with
 |error e=>exact hx π σ _ _ e s' I2 hq'
 |ok fl=>
  cases fl with
  |ret u=>
   obtain⟨v,H',I3,rv,ev,q3⟩:=I2.after hq';subst ev;exact⟨rv,⟨V.ref (s.heap.objs.size+1),H',I3,rfl,q3⟩⟩
  |next|brk|cont=>exact Ss hq'
def Ij(M:Mk X.K C f)(F:iY X.prog X.w X.K X.mg X.base CX k f fd ps sp)(hr:dz (k+1) X.A)(hg:Gl X x)(hm:X.mg x=some (.ref C))(hb:ko X.K fd ps ds)(hd:bg dvs ds)(hx:gU CX X E)
  (ha:PA X (e::es) t)(hdb:(x==("__debug__" : Ro))=false:=by decide)(he:Rk (e::es) X.env=(false,eval e X.env)::Rk es X.env:=by rfl)(hpl:(SM pos (Rk es X.env)).any (·.1)=false:=by rfl) :
  PE X (.Call (.Name x p) (e::es) [] pos) (M8 C sp dvs E t):=by
 intro π s σ H Q I h;refine wpAny_Call_Name_kw (qG I hg hm ?_ hdb);refine Wl (h₀:=X.base) I.ok.mod.kin M.kp (cT (ha pos π s σ H _ I h) λus s1 z9=>?_) he hpl;obtain⟨vs,H1,I1,r,q⟩:=z9;refine⟨I1.kIn,?_⟩;exact ED M F hr hb hd hx I1 r q
end
structure gw (N P:bv) (sc:UU):Prop where
 kind:sc.kind=.function
 co:sc.isCoroutine=false
 gen:sc.isGenerator=false
 nd:N.Nodup
 pre:N.take P.length=P
 par:∀x∈P,sc.names.lookup x=some .local ∨ sc.names.lookup x=some .cell
 nofree:∀y∈sc.names,y.2≠.free
theorem v5{kindOf:Ro->Option SR}:∀{binds:List (Ro×QY)}{m:Ro->Option QY},(∀v,(x,v)∉binds)->bindL kindOf binds m x=m x
 |[],_,_=>rfl
 |(n,v)::r,m,h=>by
  unfold bindL;rw[v5 λw hw=>h w (QX _ hw)];split
  .have:x≠n:=by rintro rfl;exact h v Q3
   simp[this]
  .rfl
theorem v8{kindOf:Ro->Option SR}:∀{binds:List (Ro×QY)}{m:Ro->Option QY},(∀v,(x,v)∉binds)->bindC kindOf binds m x=m x
 |[],_,_=>rfl
 |(n,v)::r,m,h=>by
  unfold bindC;rw[v8 λw hw=>h w (QX _ hw)];split
  .rfl
  .have:x≠n:=by rintro rfl;exact h v Q3
   simp[this]
theorem v7{kindOf:Ro->Option SR}{x:Ro}{v:QY}:∀{P:bv}{vs:List QY}{i:Nat}{m:Ro->Option QY},P.Nodup->P[i]?=some x->vs[i]?=some v->kindOf x=some .local ->
  bindL kindOf (P.zip vs) m x=some v
 |[],_,_,_,_,h,_,_=>by simp at h
 |_::_,[],_,_,_,_,h,_=>by simp at h
 |p::P,w::vs,0,m,nd,h1,h2,hk=>by
  simp at h1 h2;subst h1;subst h2;show bindL kindOf ((p,w)::P.zip vs) m p=_;unfold bindL;rw[v5 λv hv=>(RK.mp nd).1 (UH hv).1,if_pos hk];simp
 |p::P,w::vs,i+1,m,nd,h1,h2,hk=>by
  show bindL kindOf ((p,w)::P.zip vs) m x=_;unfold bindL;exact v7 (i:=i) (RK.mp nd).2 (by simpa using h1) (by simpa using h2) hk
theorem v9{kindOf:Ro->Option SR}{x:Ro}{v:QY}:∀{P:bv}{vs:List QY}{i:Nat}{m:Ro->Option QY},P.Nodup->P[i]?=some x->vs[i]?=some v->kindOf x≠some .local ->
  bindC kindOf (P.zip vs) m x=some v
 |[],_,_,_,_,h,_,_=>by simp at h
 |_::_,[],_,_,_,_,h,_=>by simp at h
 |p::P,w::vs,0,m,nd,h1,h2,hk=>by
  simp at h1 h2;subst h1;subst h2;show bindC kindOf ((p,w)::P.zip vs) m p=_;unfold bindC;rw[v8 λv hv=>(RK.mp nd).1 (UH hv).1,if_neg hk];simp
 |p::P,w::vs,i+1,m,nd,h1,h2,hk=>by
  show bindC kindOf ((p,w)::P.zip vs) m x=_;unfold bindC;exact v9 (i:=i) (RK.mp nd).2 (by simpa using h1) (by simpa using h2) hk
def start(N:bv)(vs:al):St:=vs.map some++RC (N.length-vs.length) none
noncomputable def qo(CX:zI) (P:Se) (w:Sx) (K:Q2) (mg:Ro->Option QY) (base:RA) (N:bv) (qual:Ro) (scope:UU) (f:Q9) (cd:QY) (A:Sv) (outer:List Env) (s:Rg) (H:Hp) (E:XK):Cx where
 prog:=P
 w:=w
 K:=K
 mg:=mg
 base:=base
 A:=A.deeper (envOfC qual scope s.heap.objs.size f cd)
 N:=N
 sf:=s
 Ha:=H
 env:=envOfC qual scope s.heap.objs.size f cd
 outer:=outer
 stack:=envOfC qual scope s.heap.objs.size f cd::outer
 ex:=[]
 calm:=true
 fn:=λ_=>true
 pn:=[]
 xe:=λe s'=>RH (RB P w) (A.deeper (envOfC qual scope s.heap.objs.size f cd)) (leaving (envOfC qual scope s.heap.objs.size f cd) e) (λ_ s''=>CX outer H s E e s'') (λe' s''=>CX outer H s E e' s'') s'
def zp{sc:UU}(h:sc.names.lookup x=some .cell):∃c,(cellsFrom n sc.names []).lookup x=some c:=by
 have q:=W.cellsFrom_some sc.names n [] (.inl h);exact Uc.mp q
def Dd{K:Q2}{N ps:bv} 
  (S:gw N ps scope)(hd:A.handled=none)(e0:qr P w K mg base A outer s H)(hl:vs.length=ps.length)(r:bg vs us)
  (x:InCallC s s.heap.objs.size (bindL (envOfC qual scope s.heap.objs.size f cd).kindOf (ps.zip us) λ_=>none) (cellsFrom (s.heap.objs.size+1) scope.names []) (bindC (envOfC qual scope s.heap.objs.size f cd).kindOf (ps.zip us) λ_=>none) s1) :
  Inv (qo CX P w K mg base N qual scope f cd A outer s H E) [] (start N vs) H s1:=by
 have hpl:ps.length<=N.length:=by have:=congrArg Vk S.pre;rw[Tg]at this;omega
 obtain⟨h1,tk,rfl,hk⟩:=x.done;have noA:∀b:Q9,b∉(qo CX P w K mg base N qual scope f cd A outer s H E).ex:=λb z=>absurd (show b∈([]:List Q9) from z) (by simp);refine⟨⟨e0.mod,S.kind,rfl,rfl,RG _,λy z c h1 h2=>?_,λy hy=>?_,λy c _ h=>?_,λ_=>hd,WQ e0.frames,.inr ⟨rfl,rfl⟩,λb z=>absurd z (noA b),e0.bs,e0.bsz,λb _ _=>noA b,λb z=>absurd z (noA b),e0.funs,e0.frf,e0.tab⟩,
  rfl,e0.bare,Un.kept hk,⟨_,x.toInCall.ns,λi y v h1 h2 h3=>?_⟩,λy c h=>⟨_,x.cell y c h⟩,e0.hok.fresh (RG _),λy c h=>?_,λp hp=>absurd (show p∈([]:List (Q9×Obj)) from hp) (by simp),e0.hok.kept hk,?_⟩
 .exact name_of_addr x.apart (R8 h1) (R8 h2)
 .have hy:scope.names.lookup y=some .cell∨scope.names.lookup y=some .free:=hy
  rcases hy with hy|hy
  .exact zp hy
  .exact absurd rfl (S.nofree _ (R8 hy))
 .exact T7 (x.above y c (R8 h))
 .have hi:i<vs.length:=by
   unfold start at h2
   by_cases hi:i<vs.length
   .exact hi
   .rw[RN (by simpa using hi)]at h2
    rw[RZ]at h2;split at h2<;>cases h2
  have ha:vs[i]?=some v:=by
   unfold start at h2;rw[RF (by simpa using hi),Q7]at h2;cases e:vs[i]? with|none=>rw[e]at h2;cases h2|some a=>rw[e]at h2;cases h2;rfl
  obtain⟨u,hu,rv⟩:=r.get ha;have hp:ps[i]?=some y:=by
   rw[←S.pre,S7 (by omega)];exact h1
  have ndP:ps.Nodup:=by rw[←S.pre];exact S.nd.sublist (List.take_sublist _ _)
  refine⟨u,rv,?_⟩;rcases S.par y (Rb hp) with k|k
  .exact .inl ⟨k,v7 ndP hp hu k⟩
  .obtain⟨c,e⟩:=zp (n:=s.heap.objs.size+1) k
   refine .inr ⟨.inl k,c,e,?_⟩;have q:=x.cell y c e;rw[v9 ndP hp hu (by show scope.names.lookup y≠_;rw[k];decide)]at q;exact q
 .exact e0.hok.fresh (T7 (x.above y c (R8 h)))
 .unfold start
  show _=N.length;rw[RQ,Q0,Tq];omega
def Kb{K:Q2}{k:Nat}{dV kV doc pm cdv ct oc:QY}
  {N ps:bv}(lk:K.lookup f=some ⟨oc,od,.func (Ua name qual params body scope dV kV doc pm an cdv ct),osl⟩) (hcd:VY K cdv qual=true) (S:gw N ps scope)
  (len:∀vs H Q E,sp vs H Q E->vs.length=ps.length)
  (hbody:∀(A:Sv) (outer:List Env) (s:Rg) (H:Hp) (vs:al) (Q:VK) (E:XK),dz k (A.deeper (envOfC qual scope s.heap.objs.size f cdv))->sp vs H Q E ->
   ∃t,uP (qo CX P w K mg base N qual scope f cdv A outer s H E) body t/\t { nx:=λ_ H'=>Q .non H',rt:=Q } (start N vs) H) :
  iY P w K mg base CX (k+1) f (Ua name qual params body scope dV kV doc pm an cdv ct) ps sp:=by
 refine⟨len,λA outer s H args us vs Q E hr e0 hb r hsp=>?_⟩;have hl:=len _ _ _ _ hsp;have KX:K.In s.heap:=e0.mod.kin.keeps λb o e=>(e0.bs b o e).1;have lim:s.heap.NoLimit:=e0.mod.nolimit.keeps λb o e=>(e0.bs b o e).1;have hkind:∀y∈ps.zip us,scope.names.lookup y.1=some .local ∨ (scope.names.lookup y.1=some .cell/\((cellsFrom (s.heap.objs.size+1) scope.names []).lookup y.1).isSome=true):=λ⟨n,v⟩ hy=>by
  rcases S.par n (UH hy).1 with q|q
  .exact .inl q
  .exact .inr ⟨q,W.cellsFrom_some _ _ _ (.inl q)⟩
 refine codeAny_call_function hr.depth (KX _ _ lk) rfl S.co S.gen rfl (W.codeRec_of KX hcd) (hb _ _ _ _ ?_);refine wpAny_newFunctionEnv_cells S.kind hkind λenv he s1 x=>?_;subst he;refine⟨lim.keeps x.toInCall.keep,codeAny_func ?_⟩;obtain⟨t,ht,hq⟩:=hbody A outer s H vs Q E (hr.deeper _) hsp;have I:Inv (qo CX P w K mg base N qual scope f cdv A outer s H E) [] (start N vs) H s1:=Dd S hr.hd e0 hl r x;refine S8 (ht [] s1 (start N vs) H _ I hq) (λfl s' hs=>?_) λe s' hs=>hs;have fin:∀{σ':St}{H':Hp}{v:V}{u:QY},Inv (qo CX P w K mg base N qual scope f cdv A outer s H E) [] σ' H' s'->bw v u->Q v H'->CE outer P w H s Q u s' :=
  λ{σ' H' v u} J rv q=>⟨v,H',J.os,J.bare,J.base,J.hok,rv,q⟩
 cases fl with
 |ret u=>
  obtain⟨v,σ',H',J,rv,q⟩:=hs;exact fin J rv q
 |next=>
  obtain⟨σ',H',J,q⟩:=hs;exact fin (v:=V.non) (u:=SO) J rfl q
 |brk=>
  obtain⟨_,_,_,q⟩:=hs;exact Ss q
 |cont=>
  obtain⟨_,_,_,q⟩:=hs;exact Ss q
section
variable {X:Cx}{x:Ro}{p pos:Pos}{e:R1}{es:List R1}{t:TA}{id T:String}{r:al->Hp->VK->Prop}
def Qb(r:al->Hp->VK->Prop)(t:TA):TE:=λσ H Q=>t σ H λvs H1=>r vs H1 Q
def yi(hc:ml X (.builtin id) r)(hg:Gl X x)(hm:X.mg x=none)(hv:bootBuiltins x=some (.builtin id))(ha:PA X (e::es) t)(hn:x≠"__name__":=by decide)(hdb:(x==("__debug__" : Ro))=false:=by decide)
  (he:Rk (e::es) X.env=(false,eval e X.env)::Rk es X.env:=by rfl)(hpl:(SM pos (Rk es X.env)).any (·.1)=false:=by rfl):PE X (.Call (.Name x p) (e::es) [] pos) (Qb r t):=by
 intro π s σ H Q I h;refine wpAny_Call_Name_kw (sv I hg hm hv ?_ hn hdb);exact PyProof.Rows.callWith_builtin1 (cT (ha pos π s σ H _ I h) λus s1 ⟨vs,H1,I1,r1,q1⟩=>hc π s1 σ H1 vs us Q I1 r1 q1) he hpl
def vF(hc:ml X (.type T) r)(hg:Gl X x)(hm:X.mg x=none)(hv:bootBuiltins x=some (.type T))(ha:PA X (e::es) t)(hn:x≠"__name__":=by decide)(hdb:(x==("__debug__" : Ro))=false:=by decide)
  (he:Rk (e::es) X.env=(false,eval e X.env)::Rk es X.env:=by rfl)(hpl:(SM pos (Rk es X.env)).any (·.1)=false:=by rfl):PE X (.Call (.Name x p) (e::es) [] pos) (Qb r t):=by
 intro π s σ H Q I h;refine wpAny_Call_Name_kw (sv I hg hm hv ?_ hn hdb);exact UK (cT (ha pos π s σ H _ I h) λus s1 ⟨vs,H1,I1,r1,q1⟩=>hc π s1 σ H1 vs us Q I1 r1 q1) he hpl
end
end L2
namespace HT
open PySem PyProof.Rows
section
variable {prog:Se}{w:Sx}{A:Sv}{E:QY->Rg->Prop}{s:Rg}
def cat_tup(ht:IsTup s.heap t vs.toArray)(hb:IsTup s.heap b ws.toArray)(hv:vs≠[])
  (h1:ws=[]->Q (.ref t) s)(h2:ws≠[]->Q (.ref s.heap.objs.size) { s with heap:=s.heap.push { cls:=.type "tuple",data:=.seq (vs++ws).toArray } })
  (hsz:vs.length+ws.length<=sizeLine):RH (RB prog w) A (binaryOp .Add (.ref t) (.ref b)) Q E s:=by
 obtain⟨⟨cls,dd,data,sl⟩,ho,hc,n,hd⟩:=id ht;obtain⟨⟨cls2,dd2,data2,sl2⟩,ho2,hc2,n2,hd2⟩:=id hb;simp only at hc hd hc2 hd2;subst hc hd hc2 hd2;have e:vs.toArray++ws.toArray=(vs++ws).toArray:=by simp
 by_cases hw:ws=[]
 .exact concat_meets ⟨_,ho,rfl⟩ ⟨_,ho2,rfl⟩ noFill_tuple_add seq_tuple_add Wn Wk (We _ _)
   (tuple_addW1 t b vs.toArray ws.toArray n n2 dd dd2 sl sl2 (by simpa using hv) (by simp[hw])) ⟨ho,ho2,h1 hw⟩
 .refine concat_meets ⟨_,ho,rfl⟩ ⟨_,ho2,rfl⟩ noFill_tuple_add seq_tuple_add Wn Wk (We _ _)
   (tuple_addW2 t b vs.toArray ws.toArray n n2 dd dd2 sl sl2 (by simpa using hv) (by simpa using hw) (by rw[Rq,Rq];exact hsz)) ⟨ho,ho2,?_⟩
  rw[e];exact h2 hw
def sIx(n d:Nat):Option Int->Nat
 |none=>d
 |some v=>if v<0 then(v+(n:Int)).toNat else min v.toNat n
def sIx_none(n d:Nat):sIx n d none=d:=rfl
def sIx_nat(n d k:Nat):sIx n d (some (k:Int))=min k n:=by
 show(if(k:Int)<0 then((k:Int)+(n:Int)).toNat else min (k:Int).toNat n)=min k n;rw[if_neg (by omega),Sw]
def KR(n d:Nat)(hd:d<=n)(o:Option Int):sIx n d o<=n:=by
 cases o with
 |none=>exact hd
 |some v=>
  show(if v<0 then(v+(n:Int)).toNat else min v.toNat n)<=n
  by_cases hv:v<0
  .rw[if_pos hv];omega
  .rw[if_neg hv];exact Nat.min_le_right _ _
def Ca(v:Int)(n d:Nat):(if v<0 then max (v+(n:Int)) 0 else min v (n:Int))=((sIx n d (some v):Nat):Int):=by
 show(if v<0 then max (v+(n:Int)) 0 else min v (n:Int))=(((if v<0 then(v+(n:Int)).toNat else min v.toNat n):Nat):Int)
 by_cases hv:v<0
 .simp only[if_pos hv];omega
 .simp only[if_neg hv];omega
def A5(lo hi:Option Int)(n:Nat):UT lo hi 1 (n:Int)=(((sIx n 0 lo:Nat):Int),((sIx n n hi:Nat):Int)):=by
 have h1:¬((1:Int)<0):=by omega
 unfold UT;simp only[h1,if_false];refine Prod.ext ?_ ?_
 .cases lo with
  |none=>rfl
  |some v=>exact Ca v n 0
 .cases hi with
  |none=>rfl
  |some v=>exact Ca v n n
def Ai(i j:Nat):T9 (i:Int) (j:Int) 1=j-i:=by
 unfold T9;have h1:(1:Int) > 0:=by omega
 simp only[h1,if_true,Int.ediv_one];split<;>omega
def q9(p:IsPart v o)(h:Q o s):RH (RB prog w) A (Builtin.Slice.slicePartIndex v) Q E s:=by
 cases p with|none=>exact slicePart_none h|int i t=>exact slicePart_int h
def oI{lo hi:Option Int}{Q:Int×Int×Nat->Rg->Prop}(hs:s.heap.IsSliceOf sl vl vu .none)(pl:IsPart vl lo)(pu:IsPart vu hi)
  (h:Q (((sIx n 0 lo:Nat):Int),1,sIx n n hi-sIx n 0 lo) s):RH (RB prog w) A (V7 (.ref sl) (pure (n:Int))) Q E s:=by
 obtain⟨os,hos,hcs,hds⟩:=id hs;unfold V7 Builtin.Slice.sliceFields;refine Rj (Rj (wpAny_field hos hds (x:=vl) rfl (Rj (wpAny_field hos hds (x:=vu) rfl (Rj (wpAny_field hos hds (x:=.none) rfl (RI ?_)))))));refine Rj (slicePart_none ?_);show RH _ _ (if((1:Int)==0)=true then _ else _) _ _ s;rw[if_neg (by decide)];refine Rj (q9 pl (Rj (q9 pu (Rj (RI ?_)))));show RH _ _ (match UT lo hi 1 (n:Int) with|(lo,hi)=>pure (lo,(1:Int),T9 lo hi 1)) _ _ s;rw[A5 lo hi n];show RH _ _ (pure (((sIx n 0 lo:Nat):Int),(1:Int),T9 ((sIx n 0 lo:Nat):Int) ((sIx n n hi:Nat):Int) 1)) _ _ s;rw[Ai];exact RI h
def Ff(xs:Array QY)(i k:Nat):((R4 k).filterMap λ(m:Nat)=>xs[((i:Int)+(m:Int)*1).toNat]?).toArray=((xs.toList.drop i).take k).toArray:=by
 have e:(λ(m:Nat)=>xs[((i:Int)+(m:Int)*1).toNat]?)=λm=>xs[i+m]?:=by
  funext m;have:((i:Int)+(m:Int)*1).toNat=i+m:=by omega
  rw[this]
 rw[e];have:=pick_run xs i k;rw[Vu]at this;have e2:((λx=>xs[x]?)∘λx=>i+x)=λm=>xs[i+m]?:=rfl;rw[e2]at this;rw[this]
def getItem_tuple_cut{lo hi:Option Int}(ht:IsTup s.heap t items)(hs:s.heap.IsSliceOf sl vl vu .none)(pl:IsPart vl lo)(pu:IsPart vu hi)
  (hw:¬(sIx items.size 0 lo=0/\sIx items.size items.size hi=items.size))
  (h:Q (.ref s.heap.objs.size) { s with heap:=s.heap.push { cls:=.type "tuple",data:=.seq ((items.toList.drop (sIx items.size 0 lo)).take (sIx items.size items.size hi-sIx items.size 0 lo)).toArray } })
  (hsz:items.size<=sizeLine):RH (RB prog w) A (getItem (.ref t) (.ref sl)) Q E s:=by
 have htake:sizeOk (.seq ((items.toList.drop (sIx items.size 0 lo)).take (sIx items.size items.size hi-sIx items.size 0 lo)).toArray):=by
  show((items.toList.drop (sIx items.size 0 lo)).take (sIx items.size items.size hi-sIx items.size 0 lo)).toArray.size<=sizeLine;rw[Rq,Tg,TF,Tb];omega
 have hj:sIx items.size items.size hi<=items.size:=KR _ _ (RG _) hi;obtain⟨os,hos,hcs,hds⟩:=id hs;have hTs:s.TypeIs (.ref sl) "slice":=⟨os,hos,hcs⟩
 unfold getItem
 try with_reducible refine Tu ?_
 first|refine Rj (RI ?_)|skip
 refine Rj (wpAny_sequenceKey ht.typeIs (by decide) ?_);refine Rj (wpAny_callSpecial?_slot (name:=Str.ofString "__getitem__") ht.typeIs Uw
  (wpAny_call_entry Uw ht.typeIs entry_tuple_getitem ?_ (args_tuple_getitem _ _)))
 show RH _ _ (Builtin.Tuple.tupleItemsOf (.ref t) >>= _) _ _ s;refine Rj (tupleItemsOf_ ht ?_);refine Rj (wpAny_typeOf hTs ?_);rw[if_pos (by decide)];refine Rj (oI hs pl pu ?_);have hno:¬((((sIx items.size 0 lo:Nat):Int)==0&&(1:Int)==1&&(sIx items.size items.size hi-sIx items.size 0 lo)==items.size)=true):=by
  intro q;rw[Rn,Rn]at q;have q1:((sIx items.size 0 lo:Nat):Int)=0:=eq_of_beq q.1.1;have q2:sIx items.size items.size hi-sIx items.size 0 lo=items.size:=eq_of_beq q.2;exact hw ⟨by omega,by omega⟩
 show RH _ _ (if(((sIx items.size 0 lo:Nat):Int)==0&&(1:Int)==1&&(sIx items.size items.size hi-sIx items.size 0 lo)==items.size)=true then _ else _) _ _ s;rw[if_neg hno,Ff]
 first
  |exact Rj (m:=Ue _) (wpAny_newObj_type (RI ⟨_,rfl,RI h⟩) htake)
  |exact Rj (m:=Ue _) (wpAny_newObj_type (Rj (RI (RI ⟨_,rfl,RI h⟩))) htake)
  |exact Rj (Rj (m:=Ue _) (wpAny_newObj_type (RI (RI ⟨_,rfl,RI h⟩)) htake))
  |exact Rj (Rj (m:=Ue _) (wpAny_newObj_type (RI ⟨_,rfl,RI h⟩) htake))
end
end HT
namespace L2
open PySem PySem.Spec PyProof.Rows
abbrev TO:=St->Hp->(Option Int->Hp->Prop)->Prop
def PO(X:Cx)(e:Option R1)(t:TO):Prop :=
 ∀(π:List (Q9×Obj)) (s:Rg) (σ:St) (H:Hp) (Q:Option Int->Hp->Prop),Inv X π σ H s->t σ H Q ->
  RH (RB X.prog X.w) X.A (evalPart e X.env) (λu s'=>∃o H',Inv X π σ H' s'/\IsPart u o/\Q o H') X.xe s
def Hy:TO:=λ_ H Q=>Q none H
def M4(t:TE):TO:=λσ H Q=>t σ H λx H1=>∃i,x=.int i/\Q (some i) H1
section
variable {X:Cx}{e:R1}{te:TE}{lo hi:Option R1}{tl th:TO}{pos p2:Pos}
def Ia:PO X none Hy:=by
 intro π s σ H Q I h;rw[evalPart_none];exact RI ⟨none,H,I,.none,h⟩
def H0(h:PE X e te):PO X (some e) (M4 te):=by
 intro π s σ H Q I hw;rw[evalPart_some];refine cT (h π s σ H _ I hw) λu s1 ⟨x,H1,I1,r1,q1⟩=>?_;obtain⟨i,rfl,q⟩:=q1;obtain⟨t,rfl⟩:=r1;exact⟨some i,H1,I1,.int i t,q⟩
noncomputable def G9(X:Cx) (r:V->Option Int->Option Int->Hp->VK->Prop):Prop :=
 ∀(π:List (Q9×Obj)) (s:Rg) (σ:St) (H:Hp) (x:V) (v vl vu:QY) (lo hi:Option Int) (sl:Q9) (Q:VK),Inv X π σ H s->bw x v->s.heap.IsSliceOf sl vl vu .none->IsPart vl lo->IsPart vu hi->r x lo hi H Q ->
  ∃T id,U6 (.type T) "__getitem__"=pure (some (.builtin id))/\s.TypeIs v T/\RH (RB X.prog X.w) X.A (getItem v (.ref sl)) (EP X π σ Q) X.xe s
def G9.or(h:G9 X r)(h':G9 X r'):G9 X (λx lo hi H Q=>r x lo hi H Q∨r' x lo hi H Q):=by
 intro π s σ H x v vl vu lo hi sl Q I rx hs pl pu q;rcases q with q|q
 .exact h π s σ H x v vl vu lo hi sl Q I rx hs pl pu q
 .exact h' π s σ H x v vl vu lo hi sl Q I rx hs pl pu q
def P9(r:V->Option Int->Option Int->Hp->VK->Prop)(te:TE)(tl th:TO):TE:=λσ H Q=>te σ H λx H1=>tl σ H1 λl H2=>th σ H2 λu H3=>r x l u H3 Q
def Fo(hr:G9 X r)(he:PE X e te)(hl:PO X lo tl)(hu:PO X hi th):PE X (.Subscript e (.Slice lo hi none p2) pos) (P9 r te tl th):=by
 intro π s σ H Q I h;refine Subscript_ (cT (he π s σ H _ I h) λv s1 ⟨x,H1,I1,r1,q1⟩=>?_);refine wpAny_Slice (cT (hl π s1 σ H1 _ I1 q1) λvl s2 ⟨l,H2,I2,pl,q2⟩=>cT (hu π s2 σ H2 _ I2 q2) λvu s3 ⟨u,H3,I3,pu,q3⟩=>?_);rw[evalPart_none];refine RI ?_;have I4:Inv X π σ H3 { s3 with heap:=s3.heap.push { cls:=.type "slice",data:=.fields #[vl,vu,.none] } }:=I3.kept (t':=s3.toks) λb ob q=>Ri _ q;obtain⟨T,id,hT,ht,hg⟩:=hr π { s3 with heap:=s3.heap.push { cls:=.type "slice",data:=.fields #[vl,vu,.none] } } σ H3 x v vl vu l u s3.heap.objs.size Q I4 r1 (Heap.IsSliceOf.new ..) pl pu q3;show RH (RB X.prog X.w) X.A (subscriptTail e (.Slice lo hi none p2) v (.ref s3.heap.objs.size)) (EP X π σ Q) X.xe { s3 with heap:=s3.heap.push { cls:=.type "slice",data:=.fields #[vl,vu,.none] } };exact tail_any (ops:=[.ref s3.heap.objs.size,v]) ht hT hg (by with_unfolding_all rfl)
def zo(xs:al)(lo hi:Option Int):al:=(xs.drop (HT.sIx xs.length 0 lo)).take (HT.sIx xs.length xs.length hi-HT.sIx xs.length 0 lo)
def pU(xs:al)(lo hi:Option Int):(zo xs lo hi).length<=xs.length:=by
 unfold zo;rw[Tg,TF];omega
def Pl(K:Q2):V->Option Int->Option Int->Hp->VK->Prop:=λx lo hi H Q=>∃a xs,x=.ref a/\l9 K H a xs /\
 ¬(HT.sIx xs.length 0 lo=0/\HT.sIx xs.length xs.length hi=xs.length)/\∀p,H p=none->Q (.ref p) (upd H p (.tup (zo xs lo hi)))
def KN:G9 X (Pl X.K):=by
 intro π s σ H x v vl vu lo hi sl Q I rx hs pl pu h;obtain⟨a,xs,rfl,hx,hw,q⟩:=h;cases rx;obtain⟨its,r,ht,hz⟩:=I.tuple hx;have hlen:its.toArray.size=xs.length:=by rw[Rq];exact r.length.symm
 refine⟨"tuple",_,Uw.lookup,ht.typeIs,?_⟩;refine HT.getItem_tuple_cut ht hs pl pu (by rw[hlen];exact hw) ?_ (by rw[hlen];exact hz);rw[hlen];refine⟨.ref s.heap.objs.size,_,I.laid (t':=s.toks) (o:=.tup (zo xs lo hi)) (λb ob q=>Ri _ q) (RG _) ?_,rfl,q _ (I.hok.fresh (RG _))⟩;exact⟨Ra (pU xs lo hi) hz,_,(r.drop (HT.sIx xs.length 0 lo)).take (HT.sIx xs.length xs.length hi-HT.sIx xs.length 0 lo),IsTup.new _ _⟩
def Nz(K:Q2):R2:=λx y H Q=>∃a b xs ys,x=.ref a/\y=.ref b/\l9 K H a xs/\l9 K H b ys/\xs≠[]/\xs.length+ys.length<=sizeLine /\
 (ys=[]->Q (.ref a) H)/\(ys≠[]->∀p,H p=none->Q (.ref p) (upd H p (.tup (xs++ys))))
def bg.nil_iff(r:bg xs us):us=[]↔xs=[]:=by
 cases r with|nil|cons _ _=>simp
def Iz:gu X (binaryOp .Add) (Nz X.K):=by
 intro π s σ H x y v u Q I rx ry h;obtain⟨a,b,xs,ys,rfl,rfl,ha,hb,hx,hz,q1,q2⟩:=h;cases rx;cases ry;obtain⟨its,r1,p1,_⟩:=I.tuple ha;obtain⟨its2,r2,p2,_⟩:=I.tuple hb;refine HT.cat_tup p1 p2 (λz=>hx (r1.nil_iff.mp z)) (λz=>⟨.ref a,H,I,rfl,q1 (r2.nil_iff.mp z)⟩) (λz=>?_) (by rw[←r1.length,←r2.length];exact hz);refine⟨.ref s.heap.objs.size,_,I.laid (t':=s.toks) (o:=.tup (xs++ys)) (λb ob q=>Ri _ q) (RG _) ?_,rfl,q2 (λw=>z (r2.nil_iff.mpr w)) _ (I.hok.fresh (RG _))⟩;exact⟨by rw[RQ];exact hz,_,r1.append r2,IsTup.new _ _⟩
end
def yD(n:Nat)(i:Int):Option Nat:=if 0<=i then(if i<n then some i.toNat else none) else if -(n:Int)<=i then some (i+n).toNat else none
def atI{α:Type}(xs:List α)(i:Int):Option α:=(yD xs.length i).bind λj=>xs[j]?
def xb(h:yD n i=some j):seqIndex? i n=some j/\j<n/\-(n:Int)<=i/\i<n:=by
 unfold yD at h
 by_cases h0:0<=i
 .rw[if_pos h0]at h
  by_cases h1:i<n
  .rw[if_pos h1]at h
   have e:i.toNat=j:=Sf h;exact⟨by rw[seqIndex_of h0 h1,e],by omega,by omega,h1⟩
  .rw[if_neg h1]at h;cases h
 .rw[if_neg h0]at h
  by_cases h1:-(n:Int)<=i
  .rw[if_pos h1]at h
   have e:(i+n).toNat=j:=Sf h;exact⟨by rw[seqIndex_neg (by omega) h1,e],by omega,h1,by omega⟩
  .rw[if_neg h1]at h;cases h
def xy{v:α}(h:atI xs i=some v):∃j,seqIndex? i xs.length=some j/\xs[j]?=some v/\j<xs.length/\-(xs.length:Int)<=i/\i<xs.length:=by
 unfold atI at h;cases e:yD xs.length i with
 |none=>rw[e]at h;cases h
 |some j=>
  rw[e]at h;obtain⟨h1,h2,h3,h4⟩:=xb e;exact⟨j,h1,h,h2,h3,h4⟩
def fu{j:Nat}{v:α}(h:xs[j]?=some v):atI xs (j:Int)=some v:=by
 have hj:j<xs.length:=(Q5.mp h).1;have e:yD xs.length (j:Int)=some j:=by
  unfold yD;rw[if_pos (by omega),if_pos (by omega)];simp
 unfold atI;rw[e];exact h
def oB(b:R1):Prop:=∀o i,subscripted b false o i=operate [o,i] (getItem o i)
noncomputable def Hc(X:Cx) (r:R2):Prop :=
 ∀(value slice:R1) (π:List (Q9×Obj)) (s:Rg) (σ:St) (H:Hp) (x y:V) (v u:QY) (Q:VK),Inv X π σ H s->bw x v->bw y u->r x y H Q ->
  subscripted slice false v u=operate [v,u] (getItem v u)->RH (RB X.prog X.w) X.A (subscriptTail value slice v u) (EP X π σ Q) X.xe s
noncomputable def P0(X:Cx) (id:String) (r:V->al->Hp->VK->Prop):Prop :=
 ∀(π:List (Q9×Obj)) (s:Rg) (σ:St) (H:Hp) (x:V) (xs:al) (v:QY) (us:List QY) (Q:VK),Inv X π σ H s->bw x v->bg xs us->r x xs H Q ->
  RH (RB X.prog X.w) X.A (call (.builtin id) (v::us)) (EP X π σ Q) X.xe s
section
variable {X:Cx}{a b:R1}{ta tb:TE}{pos:Pos}
def Hc.or(h:Hc X r)(h':Hc X r'):Hc X (λx y H Q=>r x y H Q∨r' x y H Q):=by
 intro value slice π s σ H x y v u Q I rx ry q hs;rcases q with q|q
 .exact h value slice π s σ H x y v u Q I rx ry q hs
 .exact h' value slice π s σ H x y v u Q I rx ry q hs
def Fs(hr:Hc X r)(ha:PE X a ta)(hb:PE X b tb)(hs:oB b):PE X (.Subscript a b pos) (M5 r ta tb):=by
 intro π s σ H Q I h;exact Subscript_ (Ms ha hb I h λv u s2 x y H2 I2 rx ry q=>hr a b π s2 σ H2 x y v u Q I2 rx ry q (hs _ _))
def Nv(K:Q2):R2:=λx y H Q=>∃p xs i v,x=.ref p/\y=.int i/\fZ K H p xs/\atI xs i=some v/\Q v H
def Nt(K:Q2):R2:=λx y H Q=>∃p xs i v,x=.ref p/\y=.int i/\l9 K H p xs/\atI xs i=some v/\Q v H
def Nu:R2:=λx y H Q=>∃z i c,x=.str z/\y=.int i/\z.length<=sizeLine/\atI z.cps.toList i=some c/\Q (.str ⟨#[c]⟩) H
def IP:Hc X (Nv X.K):=by
 intro value slice π s σ H x y v u Q I rx ry h hs;obtain⟨p,xs,i,z,rfl,rfl,hq,he,q⟩:=h;cases rx;obtain⟨t,rfl⟩:=ry;obtain⟨its,r,pl,hz⟩:=I.list hq;obtain⟨j,h1,h2,h3,h4,h5⟩:=xy he;obtain⟨w,ew,rw'⟩:=r.get h2;have hl:=r.length;have hn:=sr;have fin:EP X π σ Q w s:=⟨z,H,I,rw',q⟩
 by_cases h0:0<=i
 .have hj:i.toNat=j:=by
   rw[seqIndex_of h0 h5]at h1;exact Sf h1
  exact item_listR pl.isList h0 (by omega) (by rw[hj];simpa using ew) fin hs
 .have hj:(i+(its.toArray.size:Int)).toNat=j:=by
   rw[seqIndex_neg (by omega) h4]at h1;rw[Rq,←hl];exact Sf h1
  exact subscriptTail_builtinR (x:=w) pl.isList.typeIs slot_list_getitem.lookup
   (wpAny_getItem_list_neg (Q:=λr s'=>r=w/\EP X π σ Q r s') pl.isList (by omega) (by rw[Rq]<;>omega) (by omega) (by rw[hj];simpa using ew) ⟨rfl,fin⟩) hs
def AI:Hc X (Nt X.K):=by
 intro value slice π s σ H x y v u Q I rx ry h hs;obtain⟨p,xs,i,z,rfl,rfl,hq,he,q⟩:=h;cases rx;obtain⟨t,rfl⟩:=ry;obtain⟨its,r,pl,hz⟩:=I.tuple hq;obtain⟨j,h1,h2,h3,h4,h5⟩:=xy he;obtain⟨w,ew,rw'⟩:=r.get h2;have hl:=r.length;have hn:=sr;have fin:EP X π σ Q w s:=⟨z,H,I,rw',q⟩
 exact subscriptTail_builtinR (x:=w) pl.typeIs slot_tuple_getitem.lookup
  (getItem_tuple (j:=j) (Q:=λr s'=>r=w/\EP X π σ Q r s') pl (by omega) (by omega) (by rw[Rq,←hl];exact h1) (by simpa using ew) ⟨rfl,fin⟩) hs
def LG:Hc X Nu:=by
 intro value slice π s σ H x y v u Q I rx ry h hs;obtain⟨z,i,c,rfl,rfl,hz,he,q⟩:=h;obtain⟨t,rfl⟩:=rx;obtain⟨t',rfl⟩:=ry;obtain⟨j,h1,h2,h3,h4,h5⟩:=xy he;have hl:z.cps.toList.length=z.length:=by simp[Str.length]
 rw[hl]at h1 h4 h5;have hn:=sr;exact tail_any (typeIs_str s z t) slot_str_getitem.lookup (getItem_str (c:=c) (by
  have e1:decide (i < -(2 ^ 63:Int))=false:=decide_eq_false (by omega);have e2:decide (i≥2 ^ 63)=false:=decide_eq_false (by omega);rw[e1,e2,Vp]) (by rw[h1];simpa using h2) ⟨.str ⟨#[c]⟩,H,I.tok _,⟨_,rfl⟩,q⟩) hs
def Qe(K:Q2):R2:=λx y H Q=>Nv K x y H Q∨Nt K x y H Q∨Nu x y H Q
def LH:Hc X (Qe X.K):=IP.or (AI.or LG)
def Ay(its:List QY)(n j:Nat)(u:QY):Vt (·.setIfInBounds j u) { cls:=.type "list",data:=.seq its.toArray n }={ cls:=.type "list",data:=.seq (its.set j u).toArray n }:=by
 simp[Vt]
def Inv.lst(I:Inv X π σ H s)(h:H p=some (.lst xs)) :
  ∃(its:List QY) (n:Nat),bg xs its/\s.heap.get? p=some { cls:=.type "list",data:=.seq its.toArray n }/\xs.length<=sizeLine:=by
 obtain⟨z,its,n,r,e⟩:=I.hok p _ h;exact⟨its,n,r,e,z⟩
def Inv.lstUpd{its its':List QY}(I:Inv X π σ H s)(h:H p=some (.lst xs))
  (ho:s.heap.get? p=some { cls:=.type "list",data:=.seq its.toArray n })(hf:f { cls:=.type "list",data:=.seq its.toArray n }={ cls:=.type "list",data:=.seq its'.toArray n' })(r:bg ys its')(hz:ys.length<=sizeLine)(t:Nat) :
  Inv X π σ (upd H p (.lst ys)) { s with heap:=s.heap.update p f,toks:=t }:=by
 have e:(s.heap.update p f).get? p=some { cls:=.type "list",data:=.seq its'.toArray n' }:=by
  rw[Heap.get?_update_self f ho (by rw[hf]<;>rfl),hf]
 refine I.write (x:=p) (e:=p) (by rw[h];trivial) (.inl rfl) (λb u hb q=>(Wx _ _ (R7 hb)).trans q) ⟨_,e⟩ ?_;exact⟨hz,its',n',r,e⟩
def J0:V->V->V->Hp->(Hp->Prop)->Prop:=λo i v H Q=>∃p xs k j,o=.ref p/\i=.int k/\H p=some (.lst xs)/\yD xs.length k=some j/\Q (upd H p (.lst (xs.set j v)))
def Ez:Oy X J0:=by
 intro π s σ H o i v ov iv u Q I ro ri rv h;obtain⟨p,xs,k,j,rfl,rfl,hp,hj,q⟩:=h;cases ro;obtain⟨t,rfl⟩:=ri;obtain⟨its,n,r,ho,hz⟩:=I.lst hp;obtain⟨h1,h2,h3,h4⟩:=xb hj;have hl:=r.length;have hn:=sr;have I':Inv X π σ (upd H p (.lst (xs.set j v))) { s with heap:=s.heap.update p (Vt (·.setIfInBounds j u)) } :=
  I.lstUpd hp ho (Ay its n j u) (r.set rv j) (by rw[List.length_set];exact hz) s.toks
 by_cases h0:0<=k
 .have hk:k.toNat=j:=by
   rw[seqIndex_of h0 h4]at h1;exact Sf h1
  exact W.ki_setAt ho h0 (by omega) (by rw[Rq,←hl];exact h4) (by rw[hk];exact⟨_,I',q⟩)
 .have hk:(k+(its.toArray.size:Int)).toNat=j:=by
   rw[seqIndex_neg (by omega) h3]at h1;rw[Rq,←hl];exact Sf h1
  exact W.ki_setBack ho (by omega) (by rw[Rq,←hl];exact h3) (by omega) (by rw[hk];exact⟨_,I',q⟩)
def wC(lo hi:Option Int)(n:Nat):(sliceBounds lo hi none n).1=((HT.sIx n 0 lo:Nat):Int)/\(sliceBounds lo hi none n).2.1=((HT.sIx n n hi:Nat):Int)/\(sliceBounds lo hi none n).2.2=1:=by
 refine⟨?_,?_,rfl⟩
 .cases lo with
  |none=>simp[sliceBounds,HT.sIx]
  |some i=>
   simp only[sliceBounds,HT.sIx,Option.getD_none,show(1:Int) > 0 by decide,if_true]
   by_cases h:i<0
   .simp only[h,if_true]<;>omega
   .simp only[h,if_false]<;>omega
 .cases hi with
  |none=>simp[sliceBounds,HT.sIx]
  |some i=>
   simp only[sliceBounds,HT.sIx,Option.getD_none,show(1:Int) > 0 by decide,if_true]
   by_cases h:i<0
   .simp only[h,if_true]<;>omega
   .simp only[h,if_false]<;>omega
def uT(its:List QY)(lo hi:Option Int):slicePick its.toArray lo hi none=((its.drop (HT.sIx its.length 0 lo)).take (HT.sIx its.length its.length hi-HT.sIx its.length 0 lo)).toArray:=by
 obtain⟨h1,h2,h3⟩:=wC lo hi its.toArray.size;unfold slicePick;rw[h1,h2,h3];simp only[sliceRange_one,pick_run,Rq]<;>rfl
def Pn(K:Q2):V->Option Int->Option Int->Hp->VK->Prop:=λx lo hi H Q=>∃a xs,x=.ref a/\fZ K H a xs/\∀p,H p=none->Q (.ref p) (upd H p (.lst (zo xs lo hi)))
def HC:G9 X (Pn X.K):=by
 intro π s σ H x v vl vu lo hi sl Q I rx hs pl pu h;obtain⟨a,xs,rfl,hx,q⟩:=h;cases rx;obtain⟨its,r,ht,hz⟩:=I.list hx;have hlen:=r.length;refine⟨"list",_,slot_list_getitem.lookup,ht.isList.typeIs,?_⟩;refine wpAny_getItem_list_slice ht.isList hs pl pu .none (by simp) ?_ (by rw[Rq]<;>omega);rw[uT,←hlen];refine⟨.ref s.heap.objs.size,_,I.laid (t':=s.toks) (o:=.lst (zo xs lo hi)) (λb ob q=>Ri _ q) (RG _) ?_,rfl,q _ (I.hok.fresh (RG _))⟩;exact⟨Ra (pU xs lo hi) hz,_,0,(r.drop (HT.sIx xs.length 0 lo)).take (HT.sIx xs.length xs.length hi-HT.sIx xs.length 0 lo),R3 _ rfl⟩
def wU:gu X (R5 .NotIn) (λx y H Q=>∃i j,x=.str i/\y=.str j/\Q (.bl (!(!(U5 j i 0 j.length 1).isEmpty))) H):=by
 intro π s σ H x y v u Q I rx ry h;obtain⟨i,j,rfl,rfl,q⟩:=h;obtain⟨t,rfl⟩:=rx;obtain⟨t',rfl⟩:=ry;exact notIn_str ⟨.bl _,H,I,rfl,q⟩
def ka:ml X (.type "list") (λxs H Q=>∃p ys,xs=[.ref p]/\(fZ X.K H p ys∨l9 X.K H p ys)/\∀l,H l=none->Q (.ref l) (upd H l (.lst ys))):=by
 intro π s σ H xs us Q I r h;obtain⟨p,ys,rfl,hq,q⟩:=h;obtain⟨u,rfl,rx⟩:=Bc r;cases rx;have fin:∀(its:List QY),bg ys its->ys.length<=sizeLine->∀(h':RA) (c':Nat),(∀b o',s.heap.get? b=some o'->h'.get? b=some o') ->
   h'.get? s.heap.objs.size=some { cls:=.type "list",dict:=none,data:=.seq its.toArray c',slots:=#[] }->EP X π σ Q (.ref s.heap.objs.size) { s with heap:=h' }:=λits r' hz h' c' kp e=>
  ⟨.ref s.heap.objs.size,_,I.laid (t':=s.toks) kp (RG _) (show cy X.prog X.w _ h' _ (.lst ys) from⟨hz,its,c',r',e⟩),rfl,q _ (I.hok.fresh (RG _))⟩
 rcases hq with hq|hq
 .obtain⟨its,r',pl,hz⟩:=I.list hq
  have hlen:=r'.length;obtain⟨o,ho,hc,n,hd⟩:=pl.isList;exact call_list_seq p (.inl rfl) ho hc hd (λh' c' kp e=>fin its r' hz h' c' kp e) (by simp only[Rq]<;>omega)
 .obtain⟨its,r',pl,hz⟩:=I.tuple hq
  have hlen:=r'.length;obtain⟨o,ho,hc,n,hd⟩:=pl;exact call_list_seq p (.inr rfl) ho hc hd (λh' c' kp e=>fin its r' hz h' c' kp e) (by simp only[Rq]<;>omega)
noncomputable def OW(K:Q2) (T:String) (x:V) (H:Hp):Prop:=match x with
 |.str _=>T="str"
 |.int _=>T="int"
 |.ref p=>(T="list"/\∃xs,fZ K H p xs)∨(T="tuple"/\∃o,K.lookup p=some o/\o.cls=.type "tuple"/\o.dict=none) ∨
   (T="dict"/\((∃kvs,H p=some (.dK kvs))∨∃kvs,H p=some (.dT kvs)))∨(T="set"/\∃S n,H p=some (.set S n))
 |_=>False
def Ed(I:Inv X π σ H s)(r:bw x v)(ty:OW X.K T x H) :
  s.TypeIs v T/\∀a,v=.ref a->∃ob,s.heap.get? a=some ob/\ob.dict=none:=by
 cases x with
 |str z=>
  obtain⟨t,rfl⟩:=r;cases (show T="str" from ty);exact⟨typeIs_str s z t,λ_ e=>nomatch e⟩
 |int i=>
  obtain⟨t,rfl⟩:=r;cases (show T="int" from ty);exact⟨typeIs_int s i t,λ_ e=>nomatch e⟩
 |ref p=>
  cases r;rcases ty with⟨rfl,xs,hq⟩|⟨rfl,o,hk,hc,hd⟩|⟨rfl,hk⟩|⟨rfl,S,n,hk⟩
  .obtain⟨its,_,pl,_⟩:=I.list hq
   refine⟨pl.isList.typeIs,λa e=>?_⟩;cases e;obtain⟨o,n,e,c,hd,_⟩:=pl;exact⟨o,e,hd⟩
  .refine⟨⟨o,I.kIn p o hk,hc⟩,λa e=>?_⟩
   cases e;exact⟨o,I.kIn _ o hk,hd⟩
  .have z:∃o,s.heap.get? p=some o/\o.ExactDict:=by
    rcases hk with⟨kvs,hk⟩|⟨kvs,hk⟩
    .obtain⟨_,_,_,_,o,_,_,e,ex,_⟩:=I.hok p _ hk
     exact⟨o,e,ex⟩
    .obtain⟨_,_,_,_,o,_,_,e,ex,_⟩:=I.hok p _ hk
     exact⟨o,e,ex⟩
   obtain⟨o,e,ex⟩:=z;refine⟨⟨o,e,ex.1⟩,λa e2=>?_⟩;cases e2;exact⟨o,e,ex.2.1⟩
  .obtain⟨o,_,_,_,e,ex,_⟩:=I.hok p _ hk
   refine⟨⟨o,e,ex.1⟩,λa e2=>?_⟩;cases e2;exact⟨o,e,ex.2.1⟩
 |_=>exact Ss ty
def Pf(K:Q2)(T:String)(r:V->al->Hp->VK->Prop)(to:TE):TE:=λσ H Q=>to σ H λx H1=>OW K T x H1/\r x [] H1 Q
def QB(K:Q2)(T:String)(r:V->al->Hp->VK->Prop)(to:TE)(t:TA):TE:=λσ H Q=>to σ H λx H1=>OW K T x H1/\t σ H1 λxs H2=>r x xs H2 Q
variable {o e:R1}{es:List R1}{to:TE}{t:TA}{name:Ro}{apos cpos:Pos}{T id:String}{r:V->al->Hp->VK->Prop}
def Lg(pa:PlainAttrs T)(slot:Slot T name id)(hty:typeOf (.builtin id)=pure (.type "method_descriptor"))(hm:P0 X id r)(ho:PE X o to)
  (hbase:Tc o name X.env (eval o X.env)=eval o X.env:=by rfl)(hline:(apos.endLine==cpos.line)=true:=by rfl):PE X (.Call (.Attribute o name apos) [] [] cpos) (Pf X.K T r to):=by
 intro π s σ H Q I h;refine wpAny_Call_method0_late hbase hline (cT (ho π s σ H _ I h) λv s1 z9=>?_);obtain⟨x,H1,I1,r1,ty,q1⟩:=z9;obtain⟨h1,h2⟩:=Ed I1 r1 ty;exact⟨T,id,pa,slot,hty,h1,h2,Wz rfl (PySem.evalArgs_none (hm π s1 σ H1 x [] v [] Q I1 r1 .nil q1))⟩
def BE(pa:PlainAttrs T)(slot:Slot T name id)(hty:typeOf (.builtin id)=pure (.type "method_descriptor"))(hm:P0 X id r)(ho:PE X o to)(ha:PA X (e::es) t)
  (hbase:Tc o name X.env (eval o X.env)=eval o X.env:=by rfl)
  (hfew:((SM cpos (Rk (e::es) X.env)).all (λx=>!x.1)&&(Vz cpos (UE [] X.env)).all (λx=>x.1.isSome)
  &&decide ((e::es).length+([]:List UB).length+(if([]:List UB).isEmpty then 0 else 1)<30))=true:=by rfl)
  (hline:(apos.endLine==cpos.line)=true:=by rfl) (hs:Rk (e::es) X.env=(false,eval e X.env)::Rk es X.env:=by rfl) (hplain:(SM cpos (Rk es X.env)).any (·.1)=false:=by rfl) :
  PE X (.Call (.Attribute o name apos) (e::es) [] cpos) (QB X.K T r to t):=by
 intro π s σ H Q I h;refine wpAny_Call_method_late hbase hfew hline rfl (cT (ho π s σ H _ I h) λv s1 ⟨x,H1,I1,r1,ty,q1⟩=>?_);obtain⟨h1,h2⟩:=Ed I1 r1 ty;refine⟨T,id,pa,slot,hty,h1,h2,?_⟩;have hA:=ha cpos π s1 σ H1 _ I1 q1;rw[hs]at hA ⊢;refine Wz (by show(false||(SM cpos (Rk es X.env)).any (·.1))=false;rw[hplain]<;>rfl) (Calls.evalArgs_plain ?_);exact cT hA λus s2 ⟨vs,H2,I2,r2,q2⟩=>hm π s2 σ H2 x vs v us Q I2 r1 r2 q2
end
noncomputable def P1(X:Cx) (id:String) (r:V->al->Hp->VK->Prop):Prop :=
 ∀(π:List (Q9×Obj)) (s:Rg) (σ:St) (H:Hp) (x:V) (xs:al) (v:QY) (us:List QY) (Q:VK),Inv X π σ H s->bw x v->bg xs us->r x xs H Q ->
  RH (RB X.prog X.w) X.A (call (.builtin id) (v::us)) (EP X π σ Q) X.xe s
theorem bg.one:∀{x:V}{us:List QY},bg [x] us->∃u,us=[u]/\bw x u
 |_,_,.cons r .nil=>⟨_,rfl,r⟩
theorem bg.zero:∀{us:List QY},bg [] us->us=[]
 |_,.nil=>rfl
theorem bg.eraseIdx:∀{xs:al}{us:List QY}(i:Nat),bg xs us->bg (xs.eraseIdx i) (us.eraseIdx i)
 |_,_,_,.nil=>.nil
 |_,_,0,.cons _ t=>t
 |_,_,i+1,.cons r t=>.cons r (bg.eraseIdx i t)
theorem bg.rep(h:bg xs us):∀k:Nat,bg (RC k xs).flatten (RC k us).flatten
 |0=>.nil
 |k+1=>by
  rw[Sd,Sd,T2,T2];exact bg.append h (bg.rep h k)
theorem vJ{α:Type}:∀(l:List α) (i:Nat),(l.eraseIdx i).length<=l.length
 |[],_=>RG _
 |_::_,0=>Nat.le_succ _
 |_::r,i+1=>Nat.succ_le_succ (vJ r i)
theorem vS(its:List QY):∀(k:Nat) (acc:List QY),
  List.foldl (λx1 x2=>x1++x2) acc.toArray (RC k its.toArray)=(acc++(RC k its).flatten).toArray
 |0,acc=>by simp
 |k+1,acc=>by
  have e:acc.toArray++its.toArray=(acc++its).toArray:=by simp
  have e2:(acc++its)++(RC k its).flatten=acc++(RC (k+1) its).flatten:=by
   rw[Sd,T2,T3]
  rw[←e2,←vS its k (acc++its),←e,Sd,S9]
section
variable {X:Cx}{π:List (Q9×Obj)}{σ:St}{H:Hp}{s:Rg}{l b:Q9}{xs ys zs:al}
def Inv.lset{its its':List QY}(I:Inv X π σ H s)(hH:H l=some (.lst xs))
  (e:s.heap.get? l=some { cls:=.type "list",data:=.seq its.toArray n })(hf:f its.toArray=its'.toArray)(hv:bg ys its')(hz:ys.length<=sizeLine) :
  Inv X π σ (upd H l (.lst ys)) { s with heap:=s.heap.update l (Vt f),toks:=t' }:=by
 have q:=PySem.IsL.update e f;rw[hf]at q;refine I.write (x:=l) (e:=l) (by rw[hH];exact trivial) (.inl rfl) (λb' u hb hu=>(Wx s.heap (Vt f) (R7 hb)).trans hu) ⟨_,q⟩ ?_;exact⟨hz,its',_,hv,q⟩
def Inv.lnew(I:Inv X π σ H s)(hv:bg ys its)(hz:ys.length<=sizeLine) :
  Inv X π σ (upd H s.heap.objs.size (.lst ys)) { s with heap:=s.heap.push { cls:=.type "list",data:=.seq its.toArray },toks:=t' } :=
 I.laid (λ_ _ q=>Ri _ q) (RG _) ⟨hz,its,0,hv,R3 _ rfl⟩
def Inv.fresh(I:Inv X π σ H s):H s.heap.objs.size=none:=I.hok.fresh (RG _)
def Inv.lstM(I:Inv X π σ H s)(hH:H l=some (.lst xs)):xs.length<=sizeLine/\∃(its:List QY) (n:Nat),bg xs its/\xs.length=its.length/\s.heap.get? l=some { cls:=.type "list",data:=.seq its.toArray n }:=by
 obtain⟨z,its,n,r,e⟩:=I.hok l _ hH;exact⟨z,its,n,r,r.length,e⟩
def FI(h:n<=sizeLine):UY n=false:=by
 unfold UY;exact decide_eq_false (by omega)
end
section
variable {X:Cx}
def HN:V->al->Hp->VK->Prop:=λx vs H Q=>∃l xs y,x=.ref l/\vs=[y]/\H l=some (.lst xs)/\xs.length<sizeLine/\Q .non (upd H l (.lst (xs++[y])))
def oW:P1 X "list.append" HN:=by
 intro π s σ H x vs v us Q I rx rv h;obtain⟨l,xs,y,rfl,rfl,hH,hz,q⟩:=h;cases rx;obtain⟨u,rfl,ru⟩:=rv.one;obtain⟨z,its,n,r,hl,e⟩:=I.lstM hH;refine call_meets F.slot_list_append ⟨_,e,rfl⟩ F.entry_list_append (F.args_list_append_2 _ _) (PySem.list_append l its.toArray n u (by rw[Rq];omega)) ⟨e,?_⟩;refine⟨.non,_,I.lset (its':=its++[u]) hH e (by simp) (r.append (.cons ru .nil)) ?_,rfl,q⟩;rw[RQ,Tp];omega
def KZ:V->al->Hp->VK->Prop:=λx vs H Q=>∃l xs i k y,x=.ref l/\vs=[.int i]/\H l=some (.lst xs)/\-(2 ^ 63)<=i/\i<2 ^ 63/\seqIndex? i xs.length=some k/\xs[k]?=some y/\Q y (upd H l (.lst (xs.eraseIdx k)))
def FP:P1 X "list.pop" KZ:=by
 intro π s σ H x vs v us Q I rx rv h;obtain⟨l,xs,i,k,y,rfl,rfl,hH,h1,h2,hk,hy,q⟩:=h;cases rx;obtain⟨u,rfl,ru⟩:=rv.one;obtain⟨t,rfl⟩:=ru;obtain⟨z,its,n,r,hl,e⟩:=I.lstM hH;obtain⟨w,hw,rw'⟩:=r.get hy;refine call_meets F.slot_list_pop ⟨_,e,rfl⟩ F.entry_list_pop (F.args_list_pop_2 _ _)
  (MeetsSeq.list_pop_at l its.toArray n i t k w (fitsIndex_both h1 h2) (by rw[Rq,←hl];exact hk) (by rw[←Array.getElem?_toList];exact hw) (by rw[Rq];omega)) ⟨e,?_⟩
 refine⟨y,_,I.lset (its':=its.eraseIdx k) hH e ?_ (r.eraseIdx k) ?_,rw',q⟩
 .show its.toArray.eraseIdxIfInBounds k=(its.eraseIdx k).toArray
  rw[List.eraseIdxIfInBounds_toArray]
 .have:=vJ xs k
  omega
def K0:V->al->Hp->VK->Prop:=λx vs H Q=>∃l xs,x=.ref l/\vs=[]/\H l=some (.lst xs)/\Q .non (upd H l (.lst []))
def FQ:P1 X "list.clear" K0:=by
 intro π s σ H x vs v us Q I rx rv h;obtain⟨l,xs,rfl,rfl,hH,q⟩:=h;cases rx;have hus:=rv.zero;subst hus;obtain⟨z,its,n,r,hl,e⟩:=I.lstM hH;refine call_meets F.slot_list_clear ⟨_,e,rfl⟩ F.entry_list_clear (F.args_list_clear_1 _) (AutoSeq1.list_clear_list_0 l its.toArray n (by rw[Rq];omega)) ⟨e,?_⟩;exact⟨.non,_,I.lset (its':=[]) (ys:=[]) hH e rfl .nil (Uq _),rfl,q⟩
def Po:R2:=λx y H Q=>∃l k xs,x=.ref l/\y=.int k/\H l=some (.lst xs)/\-(2 ^ 63)<=k/\k<2 ^ 63/\xs.length*k.toNat<=sizeLine /\
 ∀p,H p=none->Q (.ref p) (upd H p (.lst (RC k.toNat xs).flatten))
def IJ{α:Type}(xs:List α)(k:Nat):(RC k xs).flatten.length=k*xs.length:=by
 induction k with|zero=>simp|succ k ih=>rw[Sd,T2,RQ,ih,Nat.succ_mul,Nat.add_comm]
def Lm:gu X (binaryOp .Mult) Po:=by
 intro π s σ H x y v u Q I rx ry h;obtain⟨l,k,xs,rfl,rfl,hH,h1,h2,hz,q⟩:=h;cases rx;obtain⟨t,rfl⟩:=ry;obtain⟨z,its,n,r,hl,e⟩:=I.lstM hH;have hlen:its.toArray.size*k.toNat<=sizeLine:=by rw[Rq,←hl];exact hz
 have hcap:¬its.toArray.size*k.toNat > (2 ^ 63-1) / 8:=by
  have:(sizeLine:Nat)<=(2 ^ 63-1) / 8:=by decide
  omega
 have hfit:¬(!Builtin.List.listFitsIndex k)=true:=by
  rw[fitsIndex_both h1 h2];exact RM
 have hlong:¬UY (its.toArray.size*k.toNat)=true:=by
  rw[FI hlen];exact RM
 have hnew:List.foldl (λx1 x2=>x1++x2) #[] (RC (if its.toArray.isEmpty=true then 0 else k.toNat) its.toArray)=(RC k.toNat its).flatten.toArray:=by
  have f0:∀m:Nat,List.foldl (λx1 x2=>x1++x2) #[] (RC m its.toArray)=(RC m its).flatten.toArray:=λm=>by
   have:=vS its m [];rw[SY]at this;exact this
  rw[f0];cases its with|nil=>simp|cons a r'=>rw[if_neg (by simp)]
 refine wpAny_binaryOp_repeat_ref (T:="list") (U:="int") (by decide) ⟨_,e,rfl⟩ (λs'=>typeIs_int s' k t) noFill_list_mul F.fills_int_mul F.slot_int_rmul repeat_list F.slot_int_index.lookup
  (call_meets F.slot_int_rmul (typeIs_int s k t) F.entry_int_rmul (F.args_int_rmul_2 _ _) (int___rmul___int_list k t l its.toArray n)
   ⟨e,rfl,⟨_,e,rfl⟩,call_meets F.slot_list_mul ⟨_,e,rfl⟩ F.entry_list_mul (F.args_list_mul_2 _ _) (AutoListH.list___mul___list_int_3 l its.toArray n k t hfit hcap hlong) ⟨e,?_⟩⟩)
 rw[hnew];exact⟨.ref _,_,I.lnew (t':=s.toks) (r.rep k.toNat) (by rw[IJ,Wo];exact hz),rfl,q _ I.fresh⟩
end
end L2
namespace Att
open PySem PySem.W PySem.Calls PyProof.Rows
def qm{h:RA}:∀(ns:List Int) (vs:List QY),WellAll P h vs (ns.map WData.int)->IntsAre vs ns:=by
 intro ns
 induction ns with
 |nil=>
  intro vs w;rw[Tt]at w;cases w;exact .nil
 |cons n ns ih=>
  intro vs w;rw[Q6]at w;cases w with
  |cons a b=>
   cases a;exact .cons _ _ (ih _ b)
def CG{l:OpenLaw}(hn:l.most=some n){h:RA} 
  (hpre:l.row.toRowW.claim.pre args=true)(hwl:WellAll P h vals args) :
  ∃a vs ns,vals=[RY a]/\args=[WData.list (ns.map WData.int)]/\h.get? a=some { cls:=.type "list",data:=.seq vs.toArray }/\IntsAre vs ns/\ns.length<=n:=by
 have hsh:WShape.hasAll [] args [.list .int]=true:=(pre_splitW hpre).1;have hc:l.pre.holds [] { args:=args }=true:=(pre_splitW hpre).2;obtain⟨d,r,rfl,h1,h2⟩:=hasAllW_cons hsh;obtain rfl:=hasAllW_nil h2;obtain⟨xs,rfl,h3⟩:=hasW_list h1;obtain⟨ns,rfl⟩:=items_int h3;have hlen:ns.length<=n:=by
  unfold OpenLaw.pre at hc;have h4:(WTm.not (.lt (.lit (.int (n:Int))) (.len (.arg 0)))).holds [] { args:=[.list (ns.map .int)] }=true:=by
   have h4:=(holds_andW hc).1;rw[hn]at h4;exact h4
  have h5:=condW_of h4 (w_not (w_lt w_lit (w_len_list (w_arg rfl))));rw[Q0]at h5;refine Nat.le_of_not_lt λq=>?_;have q':(n:Int)<((ns.length:Nat):Int):=by omega
  first
   |(rw[decide_eq_true q']at h5;exact absurd h5 (by decide))
   |(simp at h5;omega)
 cases hwl with
 |cons w1 w2=>
  cases w2;cases w1 with|list ho hall=>exact⟨_,_,ns,rfl,rfl,ho,qm ns _ hall,hlen⟩
def CL(l:OpenLaw)(args:List WData):l.row.toRowW.claim.post args (.bool true) args=true :=
 postW_of (r:=l.row.toRowW) (X:=(true==true))
  (show WShape.has [] (.bool true) .bool=true by first|rfl|decide|simp[WShape.has,WShape.arms,WShape.armsAll])
  (show(WTm.eq .res (.lit (.bool true))).value [] { args:=args,res:=some (.bool true),after:=args }=some (.bool (true==true)) from w_eq_bool (w_res rfl) w_lit) rfl
def attach_call{l:OpenLaw}{XP:(Ro->Option QY)->RA->Prop} 
  (hn:l.most=some n)(hdf:d.params.defaults=[])
  (call:∀(w:Sx) (sf si:Rg) (mg mb:Ro->Option QY) (fa:Q9) (o:Obj) (pm cd doc:QY) (a:Q9) (vs:List QY) (ns:List Int),
   Ground q loose [] XP w sf mg mb si.heap->YP w si.heap ->
   si.heap.get? fa=some o->o.data=.func (docDef d.name d.params d.body d.scope pm cd doc)->si.heap.CodeRec cd d.name->mg d.name=some (.ref fa) ->
   si.heap.get? a=some { cls:=.type "list",data:=.seq vs.toArray }->IntsAre vs ns->ns.length<=n->si.gens=#[] ->
   Tw (RB l.prog w) callerA (.call (.ref fa) ⟨[.ref a],[]⟩) (λr s'=>r=.ok (.ret (.bool true))/\OldK si.heap s'.heap/\s'.os=si.os/\AllBare s'.gens) si) :
  WalkO q loose XP YP l.row.toRowW d [] (λf vs=>PySem.call f vs):=by
 intro w sf si mg mb G Y fa o pm cd doc dV kV ho hd hcd hD hmg hg args vals as hpre hlay hrd hwl hlo;obtain rfl:dV=.none:=Dflts.none hD hdf;obtain rfl:kV=.none:=Dflts.noKw hD;obtain⟨a,vs,ns,rfl,rfl,hobj,hints,hlen⟩:=CG hn hpre hwl;refine enter_call (codeAny_mono (call w sf si mg mb fa o pm cd doc a vs ns G Y ho (fd_plain hd) hcd hmg hobj hints hlen hg) λr s' hq=>?_);obtain⟨rfl,h2,h3,h4⟩:=hq;exact⟨.inl ⟨.bool true,.bool true,[],rfl,λ_=>rfl,.bool true,CL l _,λ_=>⟨Ud.nil,λ_ hm=>(nomatch hm)⟩⟩,h2,h3,h4⟩
end Att
namespace L2
open PySem PySem.Spec PyProof.Rows
theorem vo:∀{vs:List QY}{ns:List Int},IntsAre vs ns->bg (ns.map V.int) vs
 |_,_,.nil=>.nil
 |_,_,.cons n t h=>.cons ⟨t,rfl⟩ (vo h)
def JL(H:Hp):Prop:=∀b,H b=none∨(∃o xs,H b=some (.frz o (.lst xs)))∨∃d,H b=some (.tbl d)
def TabsStart(K:Q2)(h:RA):Prop:=∀P d,(P,d)∈gW K->(∃c,W.CodeHd h c P)/\h.get? P=some (W.tabObj #[])/\K.lookup P=none/\(gW K).lookup P=some d
def CA(K:Q2):Hp:=λb=>((gW K).lookup b).map HO.tbl
theorem pL:∀{l:List (Q9×Array QY)},l.lookup b=some d->(b,d)∈l
 |[],e=>by cases e
 |(k,v)::r,e=>by
  rw[So]at e;cases h:(b==k) with
  |true=>
   rw[h]at e;have hk:=beq_iff_eq.mp h;simp only[SQ]at e;subst hk;subst e;exact .head _
  |false=>rw[h]at e;exact .tail _ (pL e)
def vv{K:Q2}(e:CA K b=some u):∃d,u=.tbl d/\(b,d)∈gW K:=by
 unfold CA at e;cases q:(gW K).lookup b with|none=>rw[q]at e;cases e|some d=>rw[q]at e;cases e;exact⟨d,rfl,pL q⟩
def F6{K:Q2}{k:Nat} 
  (KX:K.In si.heap)(TX:TabsStart K si.heap)(hns:si.heap.Ns Rr mg)(hb:si.heap.Ns builtinsNs mb)(hbb:∀x:Ro,x≠"__name__"->mb x=bootBuiltins x)(hlim:si.heap.NoLimit)(hsm:∃mm,si.heap.Ns TK mm)
  (hbm:∃(b:Q9) (ob:Obj),mg "__builtins__"=some (.ref b)/\b≠builtinsNs/\si.heap.get? b=some ob/\ob.cls=.type "module"/\ob.dict=some builtinsNs/\ob.data=.plain)(hg:si.gens=#[])
  (ha:si.heap.get? a=some { cls:=.type "list",data:=.seq vs.toArray })(hi:IntsAre vs ns)(hl:ns.length<=sizeLine)(hr:dz k callerA)
  (F:∀base:RA,K.In base->base.Ns Rr mg->iY P w K mg base CX k fa fd [x] sp)(hbind:∀(s:Rg) (u:QY),BindsTo s fd ⟨[u],[]⟩ [(x,u)])
  (hsp:∀H:Hp,JL H->fZ K H a (ns.map V.int)->sp [.ref a] H (λv _=>v=.bl true) λ_ _ _=>False)
  (hCX:∀H e s',CX [] H si (λ_ _ _=>False) e s'->False) :
  Tw (RB P w) callerA (.call (.ref fa) ⟨[.ref a],[]⟩) (λr s'=>r=.ok (.ret (.bool true))/\OldK si.heap s'.heap/\s'.os=si.os/\AllBare s'.gens) si:=by
 have rv:=vo hi;have lenV:=hi.length;have hPa:∀P' d,(P',d)∈gW K->P'≠a:=λP' d hm z=>by
  have e:=(TX P' d hm).2.1;rw[z,ha]at e;cases e
 have core:∀H:Hp,(∀b u,H b=some u->(b=a/\u=.frz { cls:=.type "list",data:=.seq vs.toArray } (.lst (ns.map V.int))/\K.lookup a=none)∨∃d,u=.tbl d/\(b,d)∈gW K)->Co K H->fZ K H a (ns.map V.int) ->
   Tw (RB P w) callerA (.call (.ref fa) ⟨[.ref a],[]⟩) (λr s'=>r=.ok (.ret (.bool true))/\OldK si.heap s'.heap/\s'.os=si.os/\AllBare s'.gens) si:=by
  intro H hH hT hS;have hO:JL H:=λb=>by
   cases q:H b with
   |none=>exact .inl rfl
   |some u=>
    rcases hH b u q with⟨_,rfl,_⟩|⟨d,rfl,_⟩
    .exact .inr (.inl ⟨_,_,rfl⟩)
    .exact .inr (.inr ⟨d,rfl⟩)
  have hok:jt P w H si.heap:=λb u q=>by
   rcases hH b u q with⟨rfl,rfl,_⟩|⟨d,rfl,hm⟩
   .exact⟨ha,by rw[Q0];exact hl,vs,_,rv,ha⟩
   .exact Uy ⟨λz=>mO (more:=#[]) hm (by rw[Array.append_empty];exact z),Rm (TX b d hm).2.1⟩
  have noA:∀{b:Q9}{o:Obj}{es:Array DictEntry}{ep:Nat},si.heap.get? b=some o->o.data=.dict es ep->H b=none:=λ{b o es ep} e d=>by
   cases q:H b with
   |none=>rfl
   |some u=>
    rcases hH b u q with⟨rfl,_,_⟩|⟨d',_,hm⟩
    .rw[ha]at e;cases e
     have d':Data.seq vs.toArray _=Data.dict es ep:=d;cases d'
    .have e2:=(TX b d' hm).2.1
     rw[e]at e2;cases e2;cases d
  have noM:∀{b:Q9}{o:Obj},si.heap.get? b=some o->o.data=.plain->H b=none:=λ{b o} e d=>by
   cases q:H b with
   |none=>rfl
   |some u=>
    rcases hH b u q with⟨rfl,_,_⟩|⟨d',_,hm⟩
    .rw[ha]at e;cases e;cases d
    .have e2:=(TX b d' hm).2.1
     rw[e]at e2;cases e2;cases d
  have nsK:∀{b:Q9}{m:Ro->Option QY},si.heap.Ns b m->(yK si.heap H).Ns b m:=λ{b m} ⟨o,es,ep,e,d,r⟩=>⟨o,es,ep,sL e (noA e d),d,r⟩
  have hKb:K.In (yK si.heap H):=λb o e=>sL (KX b o e) (by
   cases q:H b with
   |none=>rfl
   |some u=>
    rcases hH b u q with⟨rfl,_,n⟩|⟨d',_,hm⟩
    .rw[n]at e;cases e
    .rw[(TX b d' hm).2.2.1]at e;cases e)
  have hM:Mod K mg (yK si.heap H):=⟨hKb,nsK hns,⟨mb,nsK hb,hbb⟩,let ⟨mc,h1,h2⟩:=hlim;⟨mc,nsK h1,h2⟩,let ⟨mm,h1⟩:=hsm;⟨mm,nsK h1⟩,let ⟨b,ob,b1,b2,b3,b4,b5,b6⟩:=hbm;⟨b,ob,b1,b2,sL b3 (noM b3 b6),b4,b5,b6⟩⟩
  have e0:qr P w K mg (yK si.heap H) callerA [] si H:=⟨rfl,hM,λb o e=>IB e,Wq (Df _ _),trivial,λb hb=>absurd (show b∈([]:List Q9) from hb) (by simp),hok,.of_eq hg,hT⟩
  refine codeAny_mono ((F _ hKb (nsK hns)).run callerA [] si H ⟨[.ref a],[]⟩ [.ref a] [.ref a] _ _ hr e0 (hbind si (.ref a)) (.cons rfl .nil) (hsp H hO hS)) λr s' h=>?_;cases r with
  |error e=>exact(hCX H e s' h).elim
  |ok fl=>
   cases fl with
   |next|brk|cont=>exact Ss h
   |ret u=>
    obtain⟨v,H',os,bare,un,hok',r',q⟩:=h;have q':v=.bl true:=q;subst q';obtain rfl:u=SG true:=r';have all:∀b o,si.heap.get? b=some o->asItWas si.heap s'.heap b o:=λb o e=>by
     cases q:H b with
     |none=>exact .inl (un.keep b o e q (by intro z;exact absurd (show b∈([]:List Q9) from z) (by simp)) (by simp))
     |some u=>
      rcases hH b u q with⟨rfl,rfl,_⟩|⟨d,rfl,hm⟩
      .have z2:=un.frzs b _ _ q
       obtain⟨e1,_⟩:=hok b _ q;obtain⟨e2,_⟩:=hok' b _ z2;rw[e]at e1;cases e1;exact .inl e2
      .obtain⟨⟨c,hc⟩,e1,_⟩:=TX b d hm
       rw[e]at e1;cases e1;obtain⟨more,z2⟩:=un.tbls b d q;have z3:TabOk H' s'.heap b (d++more):=hok' b _ z2;rcases z3 with⟨z4,oc,vs2,q3,t3,t4,m3,e5,e6,_⟩|⟨_,z3|⟨l,c2,qq,t1,t2,m2,m2',c',_,z3,_⟩⟩
       .exact absurd z4 (mO hm)
       .exact .inl z3
       .refine .inr (.inl ⟨?_,rfl,#[],#[l,c2,.ref c'],rfl,by rw[z3];simp⟩)
        obtain⟨⟨o',vs2,y1,y2,y3,y4⟩,_⟩:=hc.tab e;exact⟨c,o',vs2,y1,y2,y3,y4⟩
    refine⟨rfl,⟨all,λb o e=>?_⟩,os,bare⟩;rcases all b o e with z|⟨_,_,vs2,more,_,z⟩|⟨_,_,⟨o',_,_,z,_⟩,_⟩
    .exact⟨_,z⟩
    .exact⟨_,z⟩
    .exact⟨_,z⟩
 cases hk:K.lookup a with
 |some o=>
  have e:=KX a o hk;rw[ha]at e;cases e;exact core (CA K) (λb u q=>.inr (vv q)) (λP' d hm=>⟨#[],by unfold CA;rw[(TX P' d hm).2.2.2];simp⟩) (.inr ⟨_,vs.toArray,_,hk,rfl,rfl,rfl,by rw[Rq,lenV];exact hl,by simpa using rv⟩)
 |none=>
  refine core (upd (CA K) a (.frz { cls:=.type "list",data:=.seq vs.toArray } (.lst (ns.map V.int)))) (λb u q=>?_) (λP' d hm=>⟨#[],?_⟩) (.inl (.inr ⟨{ cls:=.type "list",data:=.seq vs.toArray },aL⟩))
  .by_cases hb:b=a
   .subst hb
    rw[aL]at q;cases q;exact .inl ⟨rfl,rfl,hk⟩
   .rw[aF hb]at q
    exact .inr (vv q)
  .rw[aF (hPa P' d hm)]
   unfold CA;rw[(TX P' d hm).2.2.2];simp
abbrev KOf{K:Q2}{h:RA}(_:K.In h):Q2:=K
def Hq{l:W.OpenLaw}{n k:Nat}{XP:(Ro->Option QY)->RA->Prop}{K:Params->Q2}{CX:Sx->zI}{sp:Sx->Sp} 
  (hi:importsNone q=true)(hn:l.most=some n)(hn2:n<=sizeLine)(hdf:d.params.defaults=[])(hr:dz k callerA)
  (hY:∀(w:Sx) (h:RA),YP w h->(K w.params).In h)(hT:∀(w:Sx) (h:RA),YP w h->TabsStart (K w.params) h)
  (F:∀(w:Sx) (mg:Ro->Option QY) (fa:Q9) (h:RA),(K w.params).In h->h.Ns Rr mg->mg d.name=some (.ref fa) ->
   ∃fd:SV,(∀(s:Rg) (u:QY),BindsTo s fd ⟨[u],[]⟩ [(x,u)]) /\
    ∀base:RA,(K w.params).In base->base.Ns Rr mg->iY l.prog w (K w.params) mg base (CX w) k fa fd [x] (sp w))
  (hsp:∀(w:Sx) (H:Hp) (a:Q9) (ns:List Int),ns.length<=n->JL H->fZ (K w.params) H a (ns.map V.int)->sp w [.ref a] H (λv _=>v=.bl true) λ_ _ _=>False)
  (hCX:∀(w:Sx) (H:Hp) (s:Rg) (e:QY) (s':Rg),CX w [] H s (λ_ _ _=>False) e s'->False) :
  W.WalkO q loose XP YP l.row.toRowW d [] (λf vs=>PySem.call f vs):=by
 refine Att.attach_call hn hdf λw sf si mg mb fa o pm cd doc a vs ns G Y ho hd hcd hmg hobj hints hlen hg=>?_;have KX:=hY w _ Y;obtain⟨fd,hb,hF⟩:=F w mg fa _ KX G.T.g hmg;exact F6 KX (hT w _ Y) G.T.g G.T.b G.T.builtins G.T.nolimit (let ⟨mm,h1,_⟩:=(G.T.seer hi).mods;⟨mm,h1⟩) G.T.bmain hg hobj hints (Ra hlen hn2) hr hF hb (λH hO hS=>hsp w H a ns hlen hO hS) λH e s'=>hCX w H si e s'
def walk_ofK{l:W.OpenLaw}{n k:Nat}{XP:(Ro->Option QY)->RA->Prop}{K:Params->Q2}{sp:Q2->Sp} 
  (hi:importsNone q=true)(hn:l.most=some n)(hn2:n<=sizeLine)(hdf:d.params.defaults=[])(hr:dz k callerA)
  (hY:∀(w:Sx) (h:RA),YP w h->(K w.params).In h)(hT:∀(w:Sx) (h:RA),YP w h->TabsStart (K w.params) h)
  (F:∀(w:Sx) (mg:Ro->Option QY) (fa:Q9) (h:RA),(K w.params).In h->h.Ns Rr mg->mg d.name=some (.ref fa) ->
   ∃fd:SV,(∀(s:Rg) (u:QY),BindsTo s fd ⟨[u],[]⟩ [(x,u)]) /\
    ∀base:RA,(K w.params).In base->base.Ns Rr mg->iY l.prog w (K w.params) mg base CX k fa fd [x] (sp (K w.params)))
  (hsp:∀(K:Q2) (H:Hp) (a:Q9) (ns:List Int),ns.length<=n->JL H->fZ K H a (ns.map V.int)->sp K [.ref a] H (λv _=>v=.bl true) λ_ _ _=>False)
  (hCX:∀(H:Hp) (s:Rg) (e:QY) (s':Rg),CX [] H s (λ_ _ _=>False) e s'->False) :
  W.WalkO q loose XP YP l.row.toRowW d [] (λf vs=>PySem.call f vs) :=
 Hq (K:=K) (CX:=λ_=>CX) (sp:=λw=>sp (K w.params)) hi hn hn2 hdf hr hY hT F (λw H a ns h1 h2 h3=>hsp (K w.params) H a ns h1 h2 h3) λ_ H s e s'=>hCX H s e s'
def IT(s:Tr)(j:Nat):Tr:=match s with
 |.ClassDef _ _ _ body _ _ _ _ _ _ _=>body.getD j (.Pass ⟨0,0,0,0⟩)
 |_=>.Pass ⟨0,0,0,0⟩
def defArgs(s:Tr):Arguments:=match s with
 |.FunctionDef _ a _ _ _ _ _ _ _ _=>a
 |_=>{ posonlyargs:=[],args:=[],vararg:=none,kwonlyargs:=[],kw_defaults:=[],kwarg:=none,defaults:=[] }
def defBody(s:Tr):List Tr:=match s with
 |.FunctionDef _ _ b _ _ _ _ _ _ _=>b
 |_=>[]
def defScope(s:Tr):UU:=match s with
 |.FunctionDef _ _ _ _ _ _ sc _ _ _=>sc
 |_=>{ kind:=.function,names:=[],isGenerator:=false,isCoroutine:=false }
abbrev CX0:zI:=λ_ _ _ _ _ _=>False
abbrev E0:XK:=λ_ _ _=>False
def yj:gU CX0 X E0:=λ_ _ _ _ _ _ _ h=>h.elim
structure D1 (K:Q2) (x qual:Ro) (st:Tr) (f:Q9) (fd:SV):Prop where
 ex:∃(oc:QY) (od:Option Q9) (kV doc pm:QY) (an:Option Q9) (cdv ct:QY) (osl:Array (Option QY)),
  fd=Ua x qual (defArgs st) (defBody st) (defScope st) .none kV doc pm an cdv ct/\K.lookup f=some ⟨oc,od,.func fd,osl⟩/\VY K cdv qual=true
 kp:UZ K (.ref f)=true
section
variable {P:Se}{w:Sx}{K:Q2}{mg:Ro->Option QY}{base:RA}
def D1.ok{st:Tr}{N ps:bv}{k:Nat}(F:D1 K x qual st f fd)(S:gw N ps (defScope st))(len:∀vs H Q E,sp vs H Q E->vs.length=ps.length)
  (hbody:∀(cdv:QY) (A:Sv) (outer:List Env) (s:Rg) (H:Hp) (vs:al) (Q:VK) (E:XK),dz k (A.deeper (envOfC qual (defScope st) s.heap.objs.size f cdv))->sp vs H Q E ->
   ∃t,uP (qo CX0 P w K mg base N qual (defScope st) f cdv A outer s H E).nox (defBody st) t/\t { nx:=λ_ H'=>Q .non H',rt:=Q } (start N vs) H):iY P w K mg base CX0 (k+1) f fd ps sp:=by
 obtain⟨oc,od,kV,doc,pm,an,cdv,ct,osl,rfl,lk,hcd⟩:=F.ex;refine Kb lk hcd S len λA outer s H vs Q E hr hsp=>?_;obtain⟨t,h,q⟩:=hbody cdv A outer s H vs Q E hr hsp;exact⟨t,h.nox,q⟩
def D1.binds{st:Tr}{ps:bv}(F:D1 K x qual st f fd)
  (h:∀(kV doc pm:QY) (an:Option Q9) (cdv ct:QY) (us:List QY),us.length=ps.length->bindArgs (Ua x qual (defArgs st) (defBody st) (defScope st) .none kV doc pm an cdv ct) ⟨us,[]⟩=pure (ps.zip us)):ko K fd ps []:=by
 obtain⟨oc,od,kV,doc,pm,an,cdv,ct,osl,rfl,lk,hcd⟩:=F.ex;exact .all (h kV doc pm an cdv ct)
def xj{st:Tr}{kV doc pm cdv ct:QY}(l:K.lookup f=some ⟨oc,od,.func (Ua x qual (defArgs st) (defBody st) (defScope st) .none kV doc pm an cdv ct),osl⟩)
  (c:VY K cdv qual=true)(k:UZ K (.ref f)=true):D1 K x qual st f (Ua x qual (defArgs st) (defBody st) (defScope st) .none kV doc pm an cdv ct):=⟨⟨oc,od,kV,doc,pm,an,cdv,ct,osl,rfl,l,c⟩,k⟩
end
def aE(H H':Hp):Prop:=∀b o,H b=some o->H' b=some o
def aE.refl(H:Hp):aE H H:=λ_ _ h=>h
def aE.trans(a:aE H H1)(b:aE H1 H2):aE H H2:=λc o h=>b c o (a c o h)
def aE.free(e:aE H H')(h:H' l=VQ):H l=VQ:=by
 cases q:H l with
 |none=>rfl
 |some o=>
  rw[e l o q]at h;cases h
end L2
namespace DL
open PySem PySem.Spec PySem.Calls PySem.W PyProof.Rows Builtin Builtin.ObjectAttr Builtin.Getset_descriptor
section
variable {prog:Se}{w:Sx}{A:Sv}{E:QY->Rg->Prop}{h:RA}{g:Array GenState}{d:Drawn}{t:Nat}{os:OsState}{a C:Q9}{o:Obj}{K:Frag}
structure vh (K:Frag) (C:Q9):Prop where
 cls:findIn K (.ref C) "__class__"=some (some (.builtin "object.__class__"))
 ga:findIn K (.ref C) "__getattribute__"=some (some (.builtin "BaseException.__getattribute__"))
 gt:findIn K (.ref C) "__getattr__"=some none
 ob:mroIn K C (.type "object")=some true
 be:subIn K (.ref C) (.type "BaseException")=some true
def Ks(X:K.In h)(Z:vh K C)(hx:h.get? a=some o)(hc:o.cls=.ref C)(hq:R (.ok (.ret (.ref C))) ⟨h,g,d,t,os⟩) :
  Tw (RB prog w) A (.call (.builtin "getset_descriptor.__get__") ⟨[.builtin "object.__class__",.ref a,tp],[]⟩) R ⟨h,g,d,t,os⟩:=by
 have L0:Looks (RB prog w) h (typeOf (.ref a)) (.ref C):=hc▸(Looks.ld hx).andThen .now;have L1:=looks_mroIn (M:=RB prog w) X Z.ob;refine codeAny_call_builtin KF.slot_gs.plain KF.entry_gs (KF.slot_gs.check _ _ _ _ _ _ _ _ KF.type_class (KF.args_gs _ _ _) ?_);unfold Builtin.«getset_descriptor.__get__» descrGet;rw[dga_obj];refine Rj (RI ?_);unfold descrGetter descrCheckInstance descrNameAndClass isInstance;simp only[KF.owner_class]
 repeat lk
 refine⟨Code.quiet_builtin _ (by decide +kernel),codeAny_builtin KF.entry_class ?_⟩;unfold Builtin.«object.__class__» shownTypeOf
 repeat lk
 exact hq
def D7(X:K.In h)(Z:vh K C)(hx:h.get? a=some o)(hc:o.cls=.ref C)(hq:Q () ⟨h,g,d,t,os⟩):RH M A (checkBuiltinCall "BaseException.__getattribute__" ⟨[.ref a,nameV],[]⟩) Q E ⟨h,g,d,t,os⟩:=by
 have hk:builtinKind "BaseException.__getattribute__"=some .slot:=by decide +kernel
 have hsplit:splitId "BaseException.__getattribute__"=some ("BaseException","__getattribute__"):=by decide +kernel
 have ha:=F.args_bexc_ga (.ref a) nameV;have LS:Looks M h (isSubtype (.ref C) (.type "BaseException")) true:=looks_subIn X Z.be;simp only[checkBuiltinCall,hk,hsplit];refine Rj ?_
 .unfold isInstance
  repeat (first|(with_reducible refine Vy hx ?_;rw[hc])|(with_reducible refine LS.at ?_)|wp_step)
  exact hq
def D6(X:K.In h)(Z:vh K C)(hx:h.get? a=some o)(hc:o.cls=.ref C)(hq:Q (.done (.ret (.ref C))) ⟨h,g,d,t,os⟩) :
  RH (RB prog w) A (Builtin.«object.__getattribute__» ⟨[.ref a,.str "__class__" tk],[]⟩) Q E ⟨h,g,d,t,os⟩:=by
 have hT5:(⟨h,g,d,t,os⟩:Rg).TypeIs (.builtin "object.__class__") "getset_descriptor":=TV;have f5:=TV;have f6:=Vo.lookup;have f7:=F.slot_gs_set.lookup;have LC:Looks (RB prog w) h (U6 (.ref C) "__class__") (some (.builtin "object.__class__")):=looks_findIn X Z.cls
 repeat (any_goals (first|assumption|(with_reducible refine Vy hx ?_;rw[hc])|(with_reducible refine LC.at ?_)|wp_step))
 refine Ks X Z hx hc ?_
 repeat (any_goals (first|assumption|wp_step))
def Hk(X:K.In h)(Z:vh K C)(hx:h.get? a=some o)(hc:o.cls=.ref C)(hq:R (.ok (.ret (.ref C))) ⟨h,g,d,t,os⟩) :
  Tw (RB prog w) A (.call (.builtin "BaseException.__getattribute__") ⟨[.ref a,.str "__class__" tk],[]⟩) R ⟨h,g,d,t,os⟩ :=
 codeAny_call_builtin F.attr_ValueError.ga.plain F.entry_bexc_ga (D7 X Z hx hc (D6 X Z hx hc hq))
def MU(X:K.In h)(Z:vh K C)(hx:h.get? a=some o)(hc:o.cls=.ref C)(hq:Q (.ref C) ⟨h,g,d,t,os⟩) :
  RH (RB prog w) A (getAttrBy (.ref a) (.str "__class__" tk) false) Q E ⟨h,g,d,t,os⟩:=by
 have f3:=F.attr_ValueError.ga.bind (.ref a);have hx2:(Vn "BaseException.__getattribute__"==Vn "object.__getattribute__")=false:=by decide +kernel
 have hx1:(onTheHeap (RY C)&&Vn "BaseException.__getattribute__"==Vn "object.__getattribute__")=false:=by rw[hx2];rfl
 have L1:Looks (RB prog w) h (U6 (.ref C) "__getattribute__") (some (.builtin "BaseException.__getattribute__")):=looks_findIn X Z.ga;have L2:Looks (RB prog w) h (U6 (.ref C) "__getattr__") none:=looks_findIn X Z.gt
 repeat (any_goals (first|assumption|(with_reducible refine Vy hx ?_;rw[hc])|(with_reducible refine L1.at ?_)|(with_reducible refine L2.at ?_)|wp_step))
 refine Hk X Z hx hc ?_
 repeat (any_goals (first|assumption|wp_step))
def Hl(X:K.In h)(Z:vh K C)(hx:h.get? a=some o)(hc:o.cls=.ref C)(hq:Q (some (.ref C)) ⟨h,g,d,t+1,os⟩):RH (RB prog w) A (getAttr? (.ref a) "__class__") Q E ⟨h,g,d,t,os⟩:=by
 unfold getAttr? getAttrBy?
 repeat (any_goals (first|assumption|with_reducible apply MU X Z hx hc|wp_step))
end
def OU(a C:Q9)(dc:Option Q9):RA->Prop:=λh=>∃o vs,h.get? a=some o/\o.cls=.ref C/\o.data=.fields vs/\o.dict=dc
def yB{K:Frag}{a C:Q9}{dc:Option Q9}(Z:vh K C)(hC:(clsIn K C).isSome=true):KitX K (.ref a) (.ref C) (OU a C dc) where
 ty:=λ_ _ _ ⟨o,_,h1,h2,_⟩=>h2▸(Looks.ld h1).andThen .now
 it:=λ_ _ X _=>by
  obtain⟨cd,hcD⟩:=Uc.mp hC;unfold clsIn at hcD;split at hcD
  .rename_i c' d' cd' sl' ho
   intro A' Q' E' s' k q;unfold isType loadHead;exact Rj (wpAny_loadPart (k _ _ (X _ _ ho)) (RI q))
  .cases hcD
 ne:=λh tp dd its n sl X htp=>by
  obtain⟨cd,hcD⟩:=Uc.mp hC;refine Bool.eq_false_iff.mpr λq=>?_;have e:C=tp:=RY.inj (beq_iff_eq.mp q);subst e;unfold clsIn at hcD;split at hcD
  .rename_i c' d' cd' sl' ho
   have z:=(X _ _ ho).symm.trans htp;cases z
  .cases hcD
 ca:=λ{_ _ _ _ _ s} X ⟨o,_,h1,h2,_⟩ k=>by
  obtain⟨h,g,d,t,os⟩:=s;exact Hl X Z h1 h2 k
def vh.isCls{K:Frag}(Z:vh K C):(clsIn K C).isSome=true:=by
 obtain⟨cd,a,b⟩:=Option.bind_eq_some_iff.mp Z.ob;rw[a];rfl
def iU:List String:=["NoneType","bool","int","str","tuple","list","dict"]
structure XC (K:Frag) (x:Ro) (C:Q9):Prop where
 ns:nsIn K Rr x=some (some (.ref C))
 ek:vh K C
 bt:∀T∈iU,kitOne K (.ref C) (.type T)=some false
end DL
namespace PySem
namespace F
def slot_function_getattribute:Slot "function" "__getattribute__" "object.__getattribute__":=.of (owner:="object") (n:="__getattribute__") (by rw[typeLookup_type,builtinLookup_eq_fast];kernel_rfl) (by decide +kernel) (by decide +kernel) (by decide +kernel)
 (by first|exact .inl (by decide +kernel)|exact .inr (by decide +kernel)) (by rw[isSubtype_type];kernel_rfl)
def args_function_getattribute_2(a b:QY):argsOk "object.__getattribute__" ⟨[a,b],[]⟩:=by unfold argsOk;kernel_rfl
end F
end PySem
namespace PySem
open Sem (wp)
namespace F
def entry_function_ga:entryFor table "object.__getattribute__"=some Builtin.«object.__getattribute__»:=entryFor_of_tree (by kernel_rfl)
def lk_function_class:U6 (.type "function") "__class__"=pure (some (.builtin "object.__class__")):=by rw[typeLookup_type,builtinLookup_eq_fast];kernel_rfl
def sub_function_class_owner:isSubtype (.type "function") (.type (".".intercalate ("object.__class__".cutAt '.').dropLast))=pure true:=by
 rw[owner_object_class,isSubtype_type];kernel_rfl
end F
section
variable {prog:Se}{w:Sx}{A:Sv}{E:QY->Rg->Prop}{h:RA}{g:Array GenState}{d:Drawn}{t:Nat}{os:OsState}{a:Q9}{o:Obj}
def mF(hx:h.get? a=some o)(hc:o.cls=.type "function")(hq:R (.ok (.ret (.type "function"))) ⟨h,g,d,t,os⟩) :
  Tw (RB prog w) A (.call (.builtin "getset_descriptor.__get__") ⟨[.builtin "object.__class__",.ref a,.type "function"],[]⟩) R ⟨h,g,d,t,os⟩:=by
 have hT:(⟨h,g,d,t,os⟩:Rg).TypeIs (.ref a) "function":=⟨_,hx,hc⟩
 have hT5:(⟨h,g,d,t,os⟩:Rg).TypeIs (.builtin "object.__class__") "getset_descriptor":=TV;have f8:=F.sub_function_class_owner;refine codeAny_call_builtin Vo.plain F.entry_gs_get (Vo.check _ _ _ _ _ _ _ _ hT5 (F.args_gs_get _ _ _) ?_)
 repeat (any_goals (first|assumption|wp_step))
 refine⟨Code.quiet_builtin _ (by decide +kernel),codeAny_builtin F.entry_object_class ?_⟩
 repeat (any_goals (first|assumption|wp_step))
def k7(hx:h.get? a=some o)(hc:o.cls=.type "function")(hq:Q (.done (.ret (.type "function"))) ⟨h,g,d,t,os⟩) :
  RH (RB prog w) A (Builtin.«object.__getattribute__» ⟨[.ref a,.str "__class__" tk],[]⟩) Q E ⟨h,g,d,t,os⟩:=by
 have hT:(⟨h,g,d,t,os⟩:Rg).TypeIs (.ref a) "function":=⟨_,hx,hc⟩
 have hT5:(⟨h,g,d,t,os⟩:Rg).TypeIs (.builtin "object.__class__") "getset_descriptor":=TV;have f4:=F.lk_function_class;have f5:=TV;have f6:=Vo.lookup;have f7:=F.slot_gs_set.lookup
 repeat (any_goals (first|assumption|wp_step))
 refine mF hx hc ?_
 repeat (any_goals (first|assumption|wp_step))
def l5(hx:h.get? a=some o)(hc:o.cls=.type "function")(hq:R (.ok (.ret (.type "function"))) ⟨h,g,d,t,os⟩) :
  Tw (RB prog w) A (.call (.builtin "object.__getattribute__") ⟨[.ref a,.str "__class__" tk],[]⟩) R ⟨h,g,d,t,os⟩ :=
 codeAny_call_builtin F.slot_function_getattribute.plain F.entry_function_ga (F.slot_function_getattribute.check _ _ _ _ _ _ _ _ (show(⟨h,g,d,t,os⟩:Rg).TypeIs (.ref a) "function" from⟨_,hx,hc⟩) (F.args_function_getattribute_2 _ _) (k7 hx hc hq))
def og(hx:h.get? a=some o)(hc:o.cls=.type "function")(hq:Q (.type "function") ⟨h,g,d,t,os⟩):RH (RB prog w) A (getAttrBy (.ref a) (.str "__class__" tk) false) Q E ⟨h,g,d,t,os⟩:=by
 have hT:(⟨h,g,d,t,os⟩:Rg).TypeIs (.ref a) "function":=⟨_,hx,hc⟩
 have f2:=F.slot_function_getattribute.lookup;have f3:=F.slot_function_getattribute.bind (.ref a)
 repeat (any_goals (first|assumption|wp_step))
 refine l5 hx hc ?_
 repeat (any_goals (first|assumption|wp_step))
def l6(hx:h.get? a=some o)(hc:o.cls=.type "function")(hq:Q (some (.type "function")) ⟨h,g,d,t+1,os⟩):RH (RB prog w) A (getAttr? (.ref a) "__class__") Q E ⟨h,g,d,t,os⟩:=by
 unfold getAttr? getAttrBy?
 repeat (any_goals (first|assumption|with_reducible apply og hx hc|wp_step))
end
end PySem
namespace DL
open PySem PySem.Spec PyProof.Rows L2
def MI:R1->Bool
 |.Starred _ _=>false
 |_=>true
def bB(h:MI e=true):Rk (e::es) env=(false,eval e env)::Rk es env:=by
 cases e<;>first|(rw[Rk];intros;contradiction)|rw[Rk]|(cases h)
def jx(h:MI e=true):Rk [e] env=[(false,eval e env)]:=by
 rw[bB h,Rk]
theorem cX:∀{es:List R1},es.all MI=true->(SM pos (Rk es env)).any (·.1)=false
 |[],_=>by rw[Rk];rfl
 |e::es,h=>by
  rw[TU,Rn]at h;rw[bB h.1];have:=cX (env:=env) (pos:=pos) h.2;show(false||(SM pos (Rk es env)).any (·.1))=false;rw[this];rfl
def ng(h:MI e=true):((SM pos (Rk [e] env)).all (λx=>!x.1)&&(Vz pos (UE [] env)).all (λx=>x.1.isSome)
  &&decide ([e].length+([]:List UB).length+(if([]:List UB).isEmpty then 0 else 1)<30))=true:=by
 rw[jx h,UE];rfl
inductive Kd where
 |ins (c:Ro) (ks:bv)|dint (ks:List Int)|exf (c:Ro) (ks:bv)|pl|fn (q:Ro)
inductive D where
 |non|bl (b:Bool)|int (i:Int)|str (x:Ro)|tup (xs:List D)|lst (xs:List D)|dic (ks:bv) (xs:List D)|exc (x:Ro)|ob (k:Kd) (xs:List D)
abbrev ac:=List D
structure Mw (K:Q2) (ks:bv) (C:Q9):Prop where
 cls:Hd K C
 no:∀f∈ks,gi K C f
 gc:SN K (.ref C) "__class__"=some (some (.builtin "object.__class__"))
 gn:VN K (.builtin "object.__class__") "__get__"=some (some (.builtin "getset_descriptor.__get__"))
 tk:Wj K (.builtin "object.__class__")=some true
 mo:W.mroIn K C (.type "object")=some true
 bt:∀T∈iU,W.kitOne K (.ref C) (.type T)=some false
def dN(H:Hp):List (Ro×Q9)->al->Prop
 |[],vs=>vs=[]
 |(_,c)::r,vs=>∃v rs o u,vs=v::rs/\H c=some (.frz o (.own c))/\o.data=.cell (some u)/\bw v u/\dN H r rs
def gY(sc:UU):bv:=((sc.names.filter λp=>p.2==.free).map (·.1)).reverse
noncomputable def zF(K:Q2) (H:Hp):Kd->Q9->al->Prop
 |.ins c ks,a,vs=>∃C dx,SF K Rr c=some (some (.ref C))/\Mw K ks C/\H a=some (.ins C dx (ks.zip vs))/\ks.length=vs.length
 |.dint ks,a,vs=>∃kvs,Rd H a (.dK kvs)/\kvs=(ks.map UJ).zip vs/\ks.length=vs.length
 |.exf c ks,a,vs=>∃C dx fs,XC K c C/\Rd H a (.ext (OU a C (some dx)))/\H dx=some (.xd fs)/\ks.length=vs.length/\∀(i:Nat) (f:Ro) (v:V),ks[i]?=some f->vs[i]?=some v->fs.lookup f=some v
 |.pl,a,vs=>H a=some (.lst vs)
 |.fn q,a,vs=>∃F clos c' t m pm ctv,(vK K).lookup q=some F/\(clos.map (·.1)=gY F.scope/\(clos.map (·.2)).Nodup)/\H a=some (.frz (W.kla_obj "<lambda>" q F.params F.body F.scope clos pm c' ctv) (.own a))/\H c'=some (.tbl (#[.none,.str q t]++m))/\dN H clos vs
structure MP where
 cls:Ro
 flds:List (Ro×D)
inductive av (α:Type) where
 |ok (a:α)|exn (x:MP)|stuck
def av.bind{α β:Type}(r:av α)(f:α->av β):av β:=match r with
 |.ok a=>f a
 |.exn x=>.exn x
 |.stuck=>.stuck
mutual
def Rep(K:Q2)(H:Hp):D->V->Prop
 |.non,v=>v=.non
 |.bl b,v=>v=.bl b
 |.int i,v=>v=.int i
 |.str x,v=>v=.str x
 |.tup ds,v=>∃a vs,v=.ref a/\l9 K H a vs/\Reps K H ds vs
 |.lst ds,v=>∃a vs,v=.ref a/\fZ K H a vs/\Reps K H ds vs
 |.dic ks ds,v=>∃a kvs vs,v=.ref a/\Rd H a (.dK kvs)/\kvs=(ks.map Sh).zip vs/\ks.length=vs.length/\Reps K H ds vs
 |.exc x,v=>∃a C dc,v=.ref a/\XC K x C/\Rd H a (.ext (OU a C dc))
 |.ob k ds,v=>∃a vs,v=.ref a/\zF K H k a vs/\Reps K H ds vs
def Reps(K:Q2)(H:Hp):ac->al->Prop
 |[],vs=>vs=[]
 |d::ds,vs=>∃v r,vs=v::r/\Rep K H d v/\Reps K H ds r
end
def aE.rd(e:aE H H')(h:Rd H a o):Rd H' a o:=by
 rcases h with h|⟨o',h⟩
 .exact .inl (e _ _ h)
 .exact .inr ⟨o',e _ _ h⟩
def aE.sqT{K:Q2}(e:aE H H')(h:l9 K H a xs):l9 K H' a xs:=by
 rcases h with h|h
 .exact .inl (aE.rd e h)
 .exact .inr h
def aE.sqL{K:Q2}(e:aE H H')(h:fZ K H a xs):fZ K H' a xs:=by
 rcases h with h|h
 .exact .inl (aE.rd e h)
 .exact .inr h
theorem dN.mono(e:aE H H'):∀{cl:List (Ro×Q9)}{vs:al},dN H cl vs->dN H' cl vs
 |[],_,h=>h
 |(_,c)::r,_,⟨v,rs,o,u,h1,h2,h3,h4,h5⟩=>⟨v,rs,o,u,h1,e _ _ h2,h3,h4,dN.mono e h5⟩
theorem zF.mono{K:Q2}(e:aE H H'):∀{k:Kd}{a:Q9}{vs:al},zF K H k a vs->zF K H' k a vs
 |.ins c ks,a,vs,⟨C,dx,h0,h1,h2,h3⟩=>⟨C,dx,h0,h1,e _ _ h2,h3⟩
 |.dint ks,a,vs,⟨kvs,h1,h2,h3⟩=>⟨kvs,aE.rd e h1,h2,h3⟩
 |.exf c ks,a,vs,⟨C,dx,fs,h1,h2,h3,h4⟩=>⟨C,dx,fs,h1,aE.rd e h2,e _ _ h3,h4⟩
 |.pl,a,vs,h=>e _ _ h
 |.fn q,a,vs,⟨F,clos,c',t,m,pm,ctv,h0,h1,h2,h3,h4⟩=>⟨F,clos,c',t,m,pm,ctv,h0,h1,e _ _ h2,e _ _ h3,dN.mono e h4⟩
mutual
theorem Rep.mono{K:Q2}{H H':Hp}(e:aE H H'):∀{d:D}{v:V},Rep K H d v->Rep K H' d v
 |.non,_,h=>by unfold Rep at h ⊢;exact h
 |.bl _,_,h=>by unfold Rep at h ⊢;exact h
 |.int _,_,h=>by unfold Rep at h ⊢;exact h
 |.str _,_,h=>by unfold Rep at h ⊢;exact h
 |.tup ds,_,h=>by
  unfold Rep at h ⊢;obtain⟨a,vs,e1,e2,e3⟩:=h;exact⟨a,vs,e1,aE.sqT e e2,Reps.mono e e3⟩
 |.lst ds,_,h=>by
  unfold Rep at h ⊢;obtain⟨a,vs,e1,e2,e3⟩:=h;exact⟨a,vs,e1,aE.sqL e e2,Reps.mono e e3⟩
 |.dic ks ds,_,h=>by
  unfold Rep at h ⊢;obtain⟨a,kvs,vs,e1,e2,e3,e4,e5⟩:=h;exact⟨a,kvs,vs,e1,aE.rd e e2,e3,e4,Reps.mono e e5⟩
 |.exc x,_,h=>by
  unfold Rep at h ⊢;obtain⟨a,C,dc,e1,e2,e3⟩:=h;exact⟨a,C,dc,e1,e2,aE.rd e e3⟩
 |.ob k ds,_,h=>by
  unfold Rep at h ⊢;obtain⟨a,vs,e1,e2,e3⟩:=h;exact⟨a,vs,e1,e2.mono e,Reps.mono e e3⟩
theorem Reps.mono{K:Q2}{H H':Hp}(e:aE H H'):∀{ds:ac}{vs:al},Reps K H ds vs->Reps K H' ds vs
 |[],_,h=>by unfold Reps at h ⊢;exact h
 |d::ds,_,h=>by
  unfold Reps at h ⊢;obtain⟨v,r,e1,e2,e3⟩:=h;exact⟨v,r,e1,Rep.mono e e2,Reps.mono e e3⟩
end
section
variable {K:Q2}{H:Hp}{v:V}{vs:al}{d:D}{ds:ac}
def aT:Rep K H .non v↔v=.non:=by unfold Rep;exact Ww
def aH{b}:Rep K H (.bl b) v↔v=.bl b:=by unfold Rep;exact Ww
def ay{i}:Rep K H (.int i) v↔v=.int i:=by unfold Rep;exact Ww
def Rep.str_iff{x}:Rep K H (.str x) v↔v=.str x:=by unfold Rep;exact Ww
def aG:Rep K H (.tup ds) v↔∃a vs,v=.ref a/\l9 K H a vs/\Reps K H ds vs:=by rw[Rep]
def aB:Rep K H (.lst ds) v↔∃a vs,v=.ref a/\fZ K H a vs/\Reps K H ds vs:=by rw[Rep]
def jc{x}:Rep K H (.exc x) v↔∃a C dc,v=.ref a/\XC K x C/\Rd H a (.ext (OU a C dc)):=by rw[Rep]
def aP{k}:Rep K H (.ob k ds) v↔∃a vs,v=.ref a/\zF K H k a vs/\Reps K H ds vs:=by rw[Rep]
def Reps.nil_iff:Reps K H [] vs↔vs=[]:=by unfold Reps;exact Ww
def az:Reps K H (d::ds) vs↔∃v r,vs=v::r/\Rep K H d v/\Reps K H ds r:=by rw[Reps]
def Reps.nil:Reps K H [] []:=Reps.nil_iff.mpr rfl
def Reps.cons(h:Rep K H d v)(h':Reps K H ds vs):Reps K H (d::ds) (v::vs):=az.mpr ⟨_,_,rfl,h,h'⟩
end
theorem Reps.length{K:Q2}:∀{ds:ac}{vs:al},Reps K H ds vs->ds.length=vs.length
 |[],_,h=>by rw[Reps.nil_iff.mp h];rfl
 |d::ds,_,h=>by
  obtain⟨v,r,rfl,_,h⟩:=az.mp h;simp[Reps.length h]
theorem Reps.get{K:Q2}{H:Hp}:∀{ds:ac}{vs:al}{i:Nat}{d:D},Reps K H ds vs->ds[i]?=some d->∃v,vs[i]?=some v/\Rep K H d v
 |[],_,_,_,h,e=>by simp at e
 |x::ds,_,0,d,h,e=>by
  obtain⟨v,r,rfl,h1,_⟩:=az.mp h;simp at e;subst e;exact⟨v,rfl,h1⟩
 |x::ds,_,i+1,d,h,e=>by
  obtain⟨v,r,rfl,_,h2⟩:=az.mp h;obtain⟨u,e1,e2⟩:=Reps.get (i:=i) h2 (by simpa using e);exact⟨u,by simpa using e1,e2⟩
theorem Reps.app{K:Q2}{H:Hp}:∀{ds es:ac}{vs us:al},Reps K H ds vs->Reps K H es us->Reps K H (ds++es) (vs++us)
 |[],_,_,_,h,h'=>by rw[Reps.nil_iff.mp h];exact h'
 |d::ds,_,_,_,h,h'=>by
  obtain⟨v,r,rfl,h1,h2⟩:=az.mp h;exact Reps.cons h1 (Reps.app h2 h')
theorem Reps.take{K:Q2}:∀{ds:ac}{vs:al}(n:Nat),Reps K H ds vs->Reps K H (ds.take n) (vs.take n)
 |_,_,0,_=>by simp;exact Reps.nil
 |[],_,n+1,h=>by rw[Reps.nil_iff.mp h];exact Reps.nil
 |d::ds,_,n+1,h=>by
  obtain⟨v,r,rfl,h1,h2⟩:=az.mp h;exact Reps.cons h1 (Reps.take n h2)
theorem Reps.drop{K:Q2}:∀{ds:ac}{vs:al}(n:Nat),Reps K H ds vs->Reps K H (ds.drop n) (vs.drop n)
 |_,_,0,h=>by simpa using h
 |[],_,n+1,h=>by rw[Reps.nil_iff.mp h];exact Reps.nil
 |d::ds,_,n+1,h=>by
  obtain⟨v,r,rfl,h1,h2⟩:=az.mp h;exact Reps.drop n h2
theorem Reps.set{K:Q2}(h:Rep K H d v):∀{ds:ac}{vs:al}(n:Nat),Reps K H ds vs->Reps K H (ds.set n d) (vs.set n v)
 |[],_,n,h'=>by rw[Reps.nil_iff.mp h'];exact Reps.nil
 |x::ds,_,0,h'=>by
  obtain⟨v,r,rfl,h1,h2⟩:=az.mp h';exact Reps.cons h h2
 |x::ds,_,n+1,h'=>by
  obtain⟨v,r,rfl,h1,h2⟩:=az.mp h';exact Reps.cons h1 (Reps.set h n h2)
theorem wt{K:Q2}:∀(ns:List Int),Reps K H (ns.map D.int) (ns.map V.int)
 |[]=>Reps.nil
 |n::r=>Reps.cons (ay.mpr rfl) (wt r)
structure bj (H Ha H' Ha':Hp):Prop where
 s:aE H H'
 z:aE Ha Ha'
 sub:aE Ha' H'
 nw:∀a,Ha' a≠none->Ha a=none->H a=none
def bj.refl(h:aE Ha H):bj H Ha H Ha:=⟨aE.refl _,aE.refl _,h,λa h1 h2=>absurd h2 h1⟩
theorem bj.trans(a:bj H Ha H1 H01)(b:bj H1 H01 H2 H02):bj H Ha H2 H02 :=
 ⟨a.s.trans b.s,a.z.trans b.z,b.sub,λx h1 h2=>by
  cases q:H01 x with
  |none=>exact a.s.free (b.nw x h1 q)
  |some o=>exact a.nw x (by rw[q];simp) h2⟩
def aY(hs:aE Ha H)(hp:H p=none):bj H Ha (upd H p o) (upd Ha p o) :=
 ⟨same_new hp o,same_new (hs.free hp) o,λb u e=>by
  by_cases hb:b=p
  .subst hb;rw[aL]at e ⊢;exact e
  .rw[aF hb]at e ⊢;exact hs _ _ e,λa h1 h2=>by
  by_cases hb:a=p
  .subst hb;exact hp
  .rw[aF hb]at h1;exact absurd h2 h1⟩
where
 same_new {H:Hp}{p:Q9}(h:H p=none) (o:HO):aE H (upd H p o):=λb u q=>by rw[aF (bu q h)];exact q
inductive Sl where
 |no|sh (d:D)|ow (d:D)|ox (j:Nat) (ds:ac)|pt (a:Q9)
abbrev Ev:=List Sl
abbrev am:=Ev->av D
def eW(K:Q2)(Ha:Hp)(σ:L2.St)(ρ:Ev):Prop:=∀(i:Nat) (d:D),ρ[i]?=some (.sh d)->∃v,σ[i]?=some (some v)/\Rep K Ha d v
def eW.mono{K:Q2}(e:aE H H')(r:eW K H σ ρ):eW K H' σ ρ:=λi d h=>
 let ⟨v,h1,h2⟩:=r i d h
 ⟨v,h1,h2.mono e⟩
def zH(K:Q2)(H:Hp)(x:MP)(C:QY)(ox:Option Q9):Prop :=
 (∃c,C=.ref c/\XC K x.cls c)/\match ox with
  |none=>x.flds=[]
  |some a=>∃fs,H a=some (.xd fs)/\∀n d,x.flds.lookup n=some d->∃v,fs.lookup n=some v/\Rep K H d v
def post(K:Q2)(E:XK)(H Ha:Hp)(r:av D)(Q:VK):Prop:=match r with
 |.ok d=>∀v H' Ha',bj H Ha H' Ha'->Rep K Ha' d v->Q v H'
 |.exn x=>∀C ox H' Ha',bj H Ha H' Ha'->zH K Ha' x C ox->E C ox H'
 |.stuck=>False
def vD(K:Q2)(E:XK)(H Ha:Hp)(r:av (ac))(Q:al->Hp->Prop):Prop:=match r with
 |.ok ds=>∀vs H' Ha',bj H Ha H' Ha'->Reps K Ha' ds vs->Q vs H'
 |.exn x=>∀C ox H' Ha',bj H Ha H' Ha'->zH K Ha' x C ox->E C ox H'
 |.stuck=>False
def rE(K:Q2)(E:XK)(H Ha:Hp)(r:av D)(Q:Bool->Hp->Prop):Prop:=match r with
 |.ok (.bl b)=>∀H' Ha',bj H Ha H' Ha'->Q b H'
 |.ok _=>False
 |.exn x=>∀C ox H' Ha',bj H Ha H' Ha'->zH K Ha' x C ox->E C ox H'
 |.stuck=>False
section
variable {K:Q2}{E:XK}{H Ha H1 H01:Hp}
def post.grow(h:post K E H Ha r Q)(g:bj H Ha H1 H01):post K E H1 H01 r Q:=by
 cases r with|ok d=>exact λv H' Ha' g'=>h v H' Ha' (g.trans g')|exn x=>exact λC ox H' Ha' g'=>h C ox H' Ha' (g.trans g')|stuck=>exact h
def vD.grow(h:vD K E H Ha r Q)(g:bj H Ha H1 H01):vD K E H1 H01 r Q:=by
 cases r with|ok d=>exact λv H' Ha' g'=>h v H' Ha' (g.trans g')|exn x=>exact λC ox H' Ha' g'=>h C ox H' Ha' (g.trans g')|stuck=>exact h
def rE.grow(h:rE K E H Ha r Q)(g:bj H Ha H1 H01):rE K E H1 H01 r Q:=by
 cases r with
 |ok d=>
  cases d with|bl b=>exact λH' Ha' g'=>h H' Ha' (g.trans g')| _=>exact h
 |exn x=>exact λC ox H' Ha' g'=>h C ox H' Ha' (g.trans g')
 |stuck=>exact h
end
def tD(K:Q2)(E:XK)(f:am):TE:=λσ H Q=>∃Ha ρ,aE Ha H/\eW K Ha σ ρ/\post K E H Ha (f ρ) Q
def Qa(K:Q2)(E:XK)(f:Ev->av (ac)):TA:=λσ H Q=>∃Ha ρ,aE Ha H/\eW K Ha σ ρ/\vD K E H Ha (f ρ) Q
def MF(K:Q2)(E:XK)(f:am):TT:=λσ H Q=>∃Ha ρ,aE Ha H/\eW K Ha σ ρ/\rE K E H Ha (f ρ) Q
structure DE (X:Cx) (E:XK) (e:R1) (f:am):Prop where
 o:PE X e (tD X.K E f)
structure DA (X:Cx) (E:XK) (es:List R1) (f:Ev->av (ac)):Prop where
 o:PA X es (Qa X.K E f)
structure DT (X:Cx) (E:XK) (e:R1) (f:am):Prop where
 o:PT X e (MF X.K E f)
structure DW (X:Cx) (E:XK) (e:R1) (f:am):Prop where
 o:PW X e (MF X.K E f)
section
variable {X:Cx}{E:XK}{e a b:R1}{es:List R1}{f g:am}{fa:Ev->av (ac)}{pos:Pos}
def bo(h:PE X e t)(w:∀σ H Q,t' σ H Q->t σ H Q):PE X e t':=λπ s σ H Q I q=>h π s σ H Q I (w σ H Q q)
def BF(h:PA X es t)(w:∀σ H Q,t' σ H Q->t σ H Q):PA X es t':=λpos π s σ H Q I q=>h pos π s σ H Q I (w σ H Q q)
def qz(h:PT X e t)(w:∀σ H Q,t' σ H Q->t σ H Q):PT X e t':=λπ s σ H Q I q=>h π s σ H Q I (w σ H Q q)
def BA(h:PW X e t)(w:∀σ H Q,t' σ H Q->t σ H Q):PW X e t':=λwh π s σ H Q I q=>h wh π s σ H Q I (w σ H Q q)
def ae(i:Nat):am:=λρ=>match ρ[i]? with
 |some (.sh d)=>.ok d
 |_=>.stuck
def dC(d:D):am:=λ_=>.ok d
def Mj(hN:X.N[i]?=some x)(hv:Cn X.env.scope x)(hd:(x==("__debug__" : Ro))=false:=by decide)(hcd:(x==("__classdict__" : Ro))=false:=by decide):DE X E (.Name x pos) (ae i):=by
 refine⟨?_⟩;refine bo (jf hN hv hd hcd) λσ H Q ⟨Ha,ρ,hs,hr,q⟩=>?_;unfold ae at q;cases e:ρ[i]? with
 |none=>rw[e]at q;exact q.elim
 |some s=>
  rw[e]at q;cases s with
  |sh d=>
   obtain⟨v,e1,e2⟩:=hr i d e;exact⟨v,e1,q v H Ha (bj.refl hs) e2⟩
  |no|ow d|ox j ds|pt a=>exact q.elim
def aj{i j}:DE X E (.Constant (.int i) j pos) (dC (.int i)):=⟨bo Ak λσ H Q ⟨Ha,ρ,hs,hr,q⟩=>q _ H Ha (bj.refl hs) (ay.mpr rfl)⟩
def iQ{i j}:DE X E (.Constant (.bool i) j pos) (dC (.bl i)):=⟨bo NH λσ H Q ⟨Ha,ρ,hs,hr,q⟩=>q _ H Ha (bj.refl hs) (aH.mpr rfl)⟩
def iP{j}:DE X E (.Constant .none j pos) (dC .non):=⟨bo Le λσ H Q ⟨Ha,ρ,hs,hr,q⟩=>q _ H Ha (bj.refl hs) (aT.mpr rfl)⟩
def gS{x j}:DE X E (.Constant (.str x) j pos) (dC (.str x)):=⟨bo Fm λσ H Q ⟨Ha,ρ,hs,hr,q⟩=>q _ H Ha (bj.refl hs) (Rep.str_iff.mpr rfl)⟩
def Jo(hg:Gl X x)(hm:X.mg x=some u)(r:bw v u)(hr:∀H,Rep X.K H d v)(hd:(x==("__debug__" : Ro))=false:=by decide):DE X E (.Name x pos) (dC d) :=
 ⟨bo (Ik hg hm r hd) λσ H Q ⟨Ha,ρ,hs,hr',q⟩=>q _ H Ha (bj.refl hs) (hr Ha)⟩
def aa(f g:am)(op:D->D->av D):am:=λρ=>(f ρ).bind λx=>(g ρ).bind λy=>op x y
def aQ(f:am)(op:D->av D):am:=λρ=>(f ρ).bind op
def zD(K:Q2)(E:XK)(r:R2)(op:D->D->av D):Prop:=∀(x y:D) (v u:V) (H Ha:Hp) (Q:VK),aE Ha H->Rep K Ha x v->Rep K Ha y u->post K E H Ha (op x y) Q->r v u H Q
def ju(ho:zD X.K E r op)(σ:L2.St)(H:Hp)(Q:VK)(h:tD X.K E (aa f g op) σ H Q):M5 r (tD X.K E f) (tD X.K E g) σ H Q:=by
 obtain⟨Ha,ρ,hs,hr,q⟩:=h;refine⟨Ha,ρ,hs,hr,?_⟩;unfold aa at q;cases e1:f ρ with
 |stuck|exn x=>rw[e1]at q;exact q
 |ok x=>
  rw[e1]at q;intro v H1 H01 g1 r1;refine⟨H01,ρ,g1.sub,hr.mono g1.z,?_⟩;replace q:post X.K E H Ha ((g ρ).bind λy=>op x y) Q:=q;replace q:=q.grow g1;cases e2:g ρ with
  |stuck|exn x=>rw[e2]at q;exact q
  |ok y=>
   rw[e2]at q;intro u H2 H02 g2 r2;exact ho x y v u H2 H02 Q g2.sub (r1.mono g2.z) r2 (post.grow (r:=op x y) q g2)
def pR(h:gu X (binaryOp op) r)(ho:zD X.K E r o)(ha:DE X E a f)(hb:DE X E b g):DE X E (.BinOp a op b pos) (aa f g o) :=
 ⟨bo (Fp h ha.o hb.o) (ju ho)⟩
def eE(h:gu X (R5 op) r)(ho:zD X.K E r o)(ha:DE X E a f)(hb:DE X E b g)(hm:behindInMarks op b=false):DE X E (.Compare a [op] [b] pos) (aa f g o) :=
 ⟨bo (Io h ha.o hb.o hm) (ju ho)⟩
def Og(h:Hc X r)(ho:zD X.K E r o)(ha:DE X E a f)(hb:DE X E b g)(hs:oB b):DE X E (.Subscript a b pos) (aa f g o) :=
 ⟨bo (Fs h ha.o hb.o hs) (ju ho)⟩
def QT(K:Q2)(E:XK)(r:V->Hp->VK->Prop)(op:D->av D):Prop:=∀(x:D) (v:V) (H Ha:Hp) (Q:VK),aE Ha H->Rep K Ha x v->post K E H Ha (op x) Q->r v H Q
def Od(h:OP X (unaryOp op) r)(ho:QT X.K E r o)(ha:DE X E a f):DE X E (.UnaryOp op a pos) (aQ f o):=by
 refine⟨?_⟩;refine bo (NF h ha.o) λσ H Q z9=>?_;obtain⟨Ha,ρ,hs,hr,q⟩:=z9;refine⟨Ha,ρ,hs,hr,?_⟩
 unfold aQ at q;cases e1:f ρ with
 |stuck|exn x=>rw[e1]at q;exact q
 |ok x=>
  rw[e1]at q;intro v H1 H01 g1 r1;exact ho x v H1 H01 Q g1.sub r1 (post.grow (r:=o x) q g1)
def ax:Ev->av (ac):=λ_=>.ok []
def af(f:am)(fa:Ev->av (ac)):Ev->av (ac):=λρ=>(f ρ).bind λx=>(fa ρ).bind λxs=>.ok (x::xs)
def aw:DA X E [] ax:=⟨BF jR λσ H Q ⟨Ha,ρ,hs,hr,q⟩=>q [] H Ha (bj.refl hs) Reps.nil⟩
def ag(ha:DE X E e f)(hr:DA X E es fa)(hs:Rk (e::es) X.env=(false,eval e X.env)::Rk es X.env:=by exact bB rfl):DA X E (e::es) (af f fa):=by
 refine⟨?_⟩;refine BF (fM ha.o hr.o hs) λσ H Q z9=>?_;obtain⟨Ha,ρ,hs,hr,q⟩:=z9;refine⟨Ha,ρ,hs,hr,?_⟩
 unfold af at q;cases e1:f ρ with
 |stuck|exn x=>rw[e1]at q;exact q
 |ok x=>
  rw[e1]at q;intro v H1 H01 g1 r1;refine⟨H01,ρ,g1.sub,hr.mono g1.z,?_⟩;replace q:vD X.K E H Ha ((fa ρ).bind λxs=>.ok (x::xs)) Q:=q;replace q:=q.grow g1;cases e2:fa ρ with
  |stuck|exn x=>rw[e2]at q;exact q
  |ok xs=>
   rw[e2]at q;intro us H2 H02 g2 r2;exact q (v::us) H2 H02 g2 (Reps.cons (r1.mono g2.z) r2)
def line:Nat:=1000000
def ft(h:n<=line):n<=sizeLine:=Ra h (by decide)
def ao(fa:Ev->av (ac))(m:ac->av D):am:=λρ=>(fa ρ).bind m
def c5:ac->av D:=λds=>if ds.length<=line then .ok (.tup ds) else .stuck
def cH:ac->av D:=λds=>if ds.length<=line then .ok (.lst ds) else .stuck
def jL{r:al->Hp->VK->Prop}(ho:∀(ds:ac) (vs:al) (H Ha:Hp) (Q:VK),aE Ha H->Reps X.K Ha ds vs->post X.K E H Ha (m ds) Q->r vs H Q)
  (σ:L2.St)(H:Hp)(Q:VK)(h:tD X.K E (ao fa m) σ H Q):Qa X.K E fa σ H λvs H1=>r vs H1 Q:=by
 obtain⟨Ha,ρ,hs,hr,q⟩:=h;refine⟨Ha,ρ,hs,hr,?_⟩;unfold ao at q;cases e1:fa ρ with
 |stuck|exn x=>rw[e1]at q;exact q
 |ok x=>
  rw[e1]at q;intro v H1 H01 g1 r1;exact ho x v H1 H01 Q g1.sub r1 (post.grow (r:=m x) q g1)
def c4{x1}(h:DA X E es fa):DE X E (.Tuple es x1 pos) (ao fa c5):=by
 refine⟨?_⟩;refine bo (Fj h.o) (jL (r:=λxs H1 Q=>xs.length<=sizeLine/\∀p,H1 p=none->Q (.ref p) (upd H1 p (.tup xs))) λds vs H Ha Q hs hr q=>?_);unfold c5 at q
 by_cases hl:ds.length<=line
 .rw[if_pos hl]at q
  refine⟨by rw[←hr.length];exact ft hl,λp hp=>q _ _ _ (aY hs hp) (aG.mpr ⟨p,vs,rfl,l9.of aL,hr.mono (aY hs hp).z⟩)⟩
 .rw[if_neg hl]at q;exact q.elim
def dq(h:DA X E es fa):DE X E (.List es pos) (ao fa cH):=by
 refine⟨?_⟩;refine bo (Fq h.o) (jL (r:=λxs H1 Q=>xs.length<=sizeLine/\∀p,H1 p=none->Q (.ref p) (upd H1 p (.lst xs))) λds vs H Ha Q hs hr q=>?_);unfold cH at q
 by_cases hl:ds.length<=line
 .rw[if_pos hl]at q
  refine⟨by rw[←hr.length];exact ft hl,λp hp=>q _ _ _ (aY hs hp) (aB.mpr ⟨p,vs,rfl,fZ.of aL,hr.mono (aY hs hp).z⟩)⟩
 .rw[if_neg hl]at q;exact q.elim
def spD(K:Q2)(n:Nat)(m:ac->av D):Sp:=λvs H Q E=>vs.length=n/\∃Ha ds,aE Ha H/\Reps K Ha ds vs/\post K E H Ha (m ds) Q
def Jp{k n:Nat}{ps:bv}(F:iY X.prog X.w X.K X.mg X.base CX k fn fd ps (spD X.K n m))(hr:dz k X.A)(hg:Gl X x)(hm:X.mg x=some (.ref fn))
  (hk:UZ X.K (.ref fn)=true)(hb:ko X.K fd ps [])(hx:gU CX X E)(ha:DA X E (e::es) fa)(hn:(e::es).length=n:=by rfl)(hl:∀ρ ds,fa ρ=.ok ds->ds.length=(e::es).length)
  (hdb:(x==("__debug__" : Ro))=false:=by decide)(he:Rk (e::es) X.env=(false,eval e X.env)::Rk es X.env:=by exact bB rfl)(hpl:(SM pos (Rk es X.env)).any (·.1)=false:=by exact cX rfl) :
  DE X E (.Call (.Name x p) (e::es) [] pos) (ao fa m):=by
 refine⟨?_⟩;refine bo (Ip F hr hg hm hk hb .nil hx ha.o hdb he hpl) λσ H Q h=>?_;obtain⟨Ha,ρ,hs,hr,q⟩:=h;refine⟨Ha,ρ,hs,hr,?_⟩;unfold ao at q;cases e1:fa ρ with
 |stuck|exn x=>rw[e1]at q;exact q
 |ok ds=>
  rw[e1]at q;intro v H1 H01 g1 r1;refine⟨?_,H01,ds,g1.sub,by simpa using r1,post.grow (r:=m ds) q g1⟩;have:=r1.length;have:=hl ρ ds e1;simp only[Sj];omega
def zA(h:ax ρ=.ok ds):ds.length=0:=by cases h;rfl
def lV(hr:∀es,fa ρ=.ok es->es.length=n)(h:af f fa ρ=.ok ds):ds.length=n+1:=by
 unfold af at h;cases e1:f ρ with
 |stuck|exn x=>rw[e1]at h;cases h
 |ok x=>
  rw[e1]at h;replace h:((fa ρ).bind λxs=>av.ok (x::xs))=.ok ds:=h;cases e2:fa ρ with
  |stuck|exn x=>rw[e2]at h;cases h
  |ok xs=>
   rw[e2]at h;cases h;simp[hr xs e2]
def mn(X:Cx)(E:XK)(r:al->Hp->VK->Prop)(m:ac->av D):Prop:=∀(ds:ac) (vs:al) (H Ha:Hp) (Q:VK),aE Ha H->Reps X.K Ha ds vs->post X.K E H Ha (m ds) Q->r vs H Q
def aV{id:String}(hc:ml X (.builtin id) r)(hd:mn X E r m)(hg:Gl X x)(hm:X.mg x=none)(hv:bootBuiltins x=some (.builtin id))(ha:DA X E (e::es) fa)(hn:x≠"__name__":=by decide)(hdb:(x==("__debug__" : Ro))=false:=by decide)
  (he:Rk (e::es) X.env=(false,eval e X.env)::Rk es X.env:=by exact bB rfl)(hpl:(SM pos (Rk es X.env)).any (·.1)=false:=by exact cX rfl):DE X E (.Call (.Name x p) (e::es) [] pos) (ao fa m) :=
 ⟨bo (yi hc hg hm hv ha.o hn hdb he hpl) (jL hd)⟩
def Gy(h:PT X e (tB (tD X.K E f))):DT X E e f:=by
 refine⟨?_⟩;refine qz h λσ H Q z9=>?_;obtain⟨Ha,ρ,hs,hr,q⟩:=z9;refine⟨Ha,ρ,hs,hr,?_⟩
 cases e1:f ρ with
 |stuck|exn x=>rw[e1]at q;exact q
 |ok d=>
  rw[e1]at q;intro v H1 H01 g1 r1;cases d with|bl b=>rw[aH.mp r1];exact⟨b,rfl,q H1 H01 g1⟩| _=>exact q.elim
def bK(h:DE X E e f)(he:∀whole,isTrue e X.env whole=(do let v ←whole;standAt e.pos;Vl [v] (truthy v)):=by intro _;rfl):DT X E e f:=Gy (K3 h.o he)
def aM(h:gu X (R5 op) r)(ho:zD X.K E r o)(ha:DE X E a f)(hb:DE X E b g)(hm:behindInMarks op b=false):DT X E (.Compare a [op] [b] pos) (aa f g o):=by
 refine⟨?_⟩;refine qz (HX h ha.o hb.o hm) λσ H Q h=>?_;have w:tD X.K E (aa f g o) σ H λx H'=>∃k,x=.bl k/\Q k H':=by
  obtain⟨Ha,ρ,hs,hr,q⟩:=h;refine⟨Ha,ρ,hs,hr,?_⟩;cases e1:aa f g o ρ with
  |stuck|exn x=>rw[e1]at q;exact q
  |ok d=>
   rw[e1]at q;intro v H1 H01 g1 r1;cases d with|bl b=>rw[aH.mp r1];exact⟨b,rfl,q H1 H01 g1⟩| _=>exact q.elim
 exact ju ho σ H _ w
def cg(f:am):am:=aQ f λx=>match x with
 |.bl b=>.ok (.bl (!b))
 |_=>.stuck
def dZ(f g:am):am:=λρ=>(f ρ).bind λx=>match x with
 |.bl true=>g ρ
 |.bl false=>.ok (.bl false)
 |_=>.stuck
def gZ(f g:am):am:=λρ=>(f ρ).bind λx=>match x with
 |.bl true=>.ok (.bl true)
 |.bl false=>g ρ
 |_=>.stuck
def bN(ha:DT X E a f):DT X E (.UnaryOp .Not a pos) (cg f):=by
 refine⟨?_⟩;refine qz (K4 ha.o) λσ H Q z9=>?_;obtain⟨Ha,ρ,hs,hr,q⟩:=z9;refine⟨Ha,ρ,hs,hr,?_⟩
 unfold cg aQ at q;cases e1:f ρ with
 |stuck|exn x=>rw[e1]at q;exact q
 |ok d=>
  rw[e1]at q;cases d with|bl b=>exact q| _=>exact q.elim
def GI(ha:DE X E a f):DE X E (.UnaryOp .Not a pos) (cg f):=by
 refine⟨?_⟩;refine bo (Ld ha.o) λσ H Q z9=>?_;obtain⟨Ha,ρ,hs,hr,q⟩:=z9;refine⟨Ha,ρ,hs,hr,?_⟩
 unfold cg aQ at q;cases e1:f ρ with
 |stuck|exn x=>rw[e1]at q;exact q
 |ok d=>
  rw[e1]at q;intro v H1 H01 g1 r1;cases d with|bl b=>rw[aH.mp r1];exact⟨b,rfl,q (.bl !b) H1 H01 g1 (aH.mpr rfl)⟩| _=>exact q.elim
variable {rest:List R1}
def dI(ha:DT X E a f):DW X E (.BoolOp .And [a] pos) f:=⟨HV ha.o⟩
def bc(ha:DT X E a f):DW X E (.BoolOp .Or [a] pos) f:=⟨K1 ha.o⟩
def jW(ha:DT X E a f)(hb:DW X E (.BoolOp .And (b::rest) pos) g):DW X E (.BoolOp .And (a::b::rest) pos) (dZ f g):=by
 refine⟨?_⟩;refine BA (K2 ha.o hb.o) λσ H Q z9=>?_;obtain⟨Ha,ρ,hs,hr,q⟩:=z9;refine⟨Ha,ρ,hs,hr,?_⟩
 unfold dZ at q;cases e1:f ρ with
 |stuck|exn x=>rw[e1]at q;exact q
 |ok d=>
  rw[e1]at q;cases d with
  |bl b=>
   cases b with|true=>exact λH1 H01 g1=>⟨H01,ρ,g1.sub,hr.mono g1.z,rE.grow (r:=g ρ) q g1⟩|false=>exact λH1 H01 g1=>q H1 H01 g1
  |_=>exact q.elim
def cW(ha:DT X E a f)(hb:DW X E (.BoolOp .Or (b::rest) pos) g):DW X E (.BoolOp .Or (a::b::rest) pos) (gZ f g):=by
 refine⟨?_⟩;refine BA (NB ha.o hb.o) λσ H Q z9=>?_;obtain⟨Ha,ρ,hs,hr,q⟩:=z9;refine⟨Ha,ρ,hs,hr,?_⟩
 unfold gZ at q;cases e1:f ρ with
 |stuck|exn x=>rw[e1]at q;exact q
 |ok d=>
  rw[e1]at q;cases d with
  |bl b=>
   cases b with|false=>exact λH1 H01 g1=>⟨H01,ρ,g1.sub,hr.mono g1.z,rE.grow (r:=g ρ) q g1⟩|true=>exact λH1 H01 g1=>q H1 H01 g1
  |_=>exact q.elim
def DW.dt(h:DW X E e f):DT X E e f:=⟨PW.pt h.o⟩
def iO{op}(h:DE X E a f):DE X E (.BoolOp op [a] pos) f:=⟨Lc h.o⟩
def ji(ha:DE X E a f)(hb:DE X E (.BoolOp .And (b::rest) pos) g):DE X E (.BoolOp .And (a::b::rest) pos) (dZ f g):=by
 refine⟨?_⟩;refine bo (Lh ha.o hb.o) λσ H Q z9=>?_;obtain⟨Ha,ρ,hs,hr,q⟩:=z9;refine⟨Ha,ρ,hs,hr,?_⟩
 unfold dZ at q;cases e1:f ρ with
 |stuck|exn x=>rw[e1]at q;exact q
 |ok d=>
  rw[e1]at q;intro v H1 H01 g1 r1;cases d with
  |bl b=>
   rw[aH.mp r1];cases b with|true=>exact⟨true,rfl,H01,ρ,g1.sub,hr.mono g1.z,post.grow (r:=g ρ) q g1⟩|false=>exact⟨false,rfl,q (.bl false) H1 H01 g1 (aH.mpr rfl)⟩
  |_=>exact q.elim
def Of(ha:DE X E a f)(hb:DE X E (.BoolOp .Or (b::rest) pos) g):DE X E (.BoolOp .Or (a::b::rest) pos) (gZ f g):=by
 refine⟨?_⟩;refine bo (NG ha.o hb.o) λσ H Q z9=>?_;obtain⟨Ha,ρ,hs,hr,q⟩:=z9;refine⟨Ha,ρ,hs,hr,?_⟩
 unfold gZ at q;cases e1:f ρ with
 |stuck|exn x=>rw[e1]at q;exact q
 |ok d=>
  rw[e1]at q;intro v H1 H01 g1 r1;cases d with
  |bl b=>
   rw[aH.mp r1];cases b with|false=>exact⟨false,rfl,H01,ρ,g1.sub,hr.mono g1.z,post.grow (r:=g ρ) q g1⟩|true=>exact⟨true,rfl,q (.bl true) H1 H01 g1 (aH.mpr rfl)⟩
  |_=>exact q.elim
def Jt(c f g:am):am:=λρ=>(c ρ).bind λx=>match x with
 |.bl true=>f ρ
 |.bl false=>g ρ
 |_=>.stuck
def zg(hc:DT X E c fc)(ha:DE X E a f)(hb:DE X E b g):DE X E (.IfExp c a b pos) (Jt fc f g):=by
 refine⟨?_⟩;refine bo (Fu hc.o ha.o hb.o) λσ H Q z9=>?_;obtain⟨Ha,ρ,hs,hr,q⟩:=z9;refine⟨Ha,ρ,hs,hr,?_⟩
 unfold Jt at q;cases e1:fc ρ with
 |stuck|exn x=>rw[e1]at q;exact q
 |ok d=>
  rw[e1]at q;cases d with
  |bl b=>
   cases b with|true=>exact λH1 H01 g1=>⟨H01,ρ,g1.sub,hr.mono g1.z,post.grow (r:=f ρ) q g1⟩|false=>exact λH1 H01 g1=>⟨H01,ρ,g1.sub,hr.mono g1.z,post.grow (r:=g ρ) q g1⟩
  |_=>exact q.elim
end
noncomputable def JK(K:Q2) (Ha H:Hp) (a:Q9) (d:D):Prop:=match d with
 |.lst ds=>∃vs,H a=some (.lst vs)/\Reps K Ha ds vs
 |.dic ks ds=>∃vs,H a=some (.dK ((ks.map Sh).zip vs))/\ks.length=vs.length/\Reps K Ha ds vs
 |.ob (.dint ks) ds=>∃vs,H a=some (.dK ((ks.map UJ).zip vs))/\ks.length=vs.length/\Reps K Ha ds vs
 |_=>False
def uW(j k:Nat):Bool:=if j=99 then decide (k<=1) else k==j
noncomputable def OA(K:Q2) (He Ha H:Hp) (a:Q9) (j:Nat) (ds:ac) (P:Nat->Q9):Prop:=∃vs,He a=none/\H a=some (.tup vs)/\ds.length=vs.length /\
 (∀k,uW j k=true->∃es us,He (P k)=none/\Ha (P k)=none/\ds[k]?=some (.lst es)/\vs[k]?=some (.ref (P k))/\H (P k)=some (.lst us)/\Reps K Ha es us) /\
 (∀k l,uW j k=true->uW j l=true->P k=P l->k=l)/\∀k d v,uW j k=false->ds[k]?=some d->vs[k]?=some v->Rep K Ha d v
noncomputable def OX(K:Q2) (He Ha:Hp) (σ:L2.St) (H:Hp) (ρ:Ev):Prop:=(∀(i j:Nat) (ds:ac),ρ[i]?=some (.ox j ds)->∃a P,σ[i]?=some (some (.ref a))/\OA K He Ha H a j ds P/\(∀(k:Nat) (d:D) (l:Nat),uW j l=true->ρ[k]?=some (.ow d)->σ[k]?≠some (some (.ref (P l))))/\∀(k j':Nat) (ds':ac),ρ[k]?=some (.ox j' ds')->k=i)/\∀(i:Nat) (a:Q9),ρ[i]?=some (.pt a)->σ[i]?=some (some (.ref a))
def OX.upd{K:Q2}(h:OX K He Ha σ H ρ)
  (hk:∀(j:Nat) (s:Sl),ρ'[j]?=some s->(ρ[j]?=some s/\σ'[j]?=σ[j]?)∨(∃d,s=.sh d)∨s=.no∨∃d q,s=.ow d/\σ'[j]?=some (some (.ref q))/\∀(i j:Nat) (ds:ac) (a:Q9) (P:Nat->Q9),ρ[i]?=some (.ox j ds)->σ[i]?=some (some (.ref a))->OA K He Ha H a j ds P->∀l,uW j l=true->q≠P l)
  (hz:aE Ha Ha')(ht:∀a vs,He a=none->H a=some (.tup vs)->H' a=some (.tup vs))
  (hl:∀p us,He p=none->Ha p=none->H p=some (.lst us)->(∀(k:Nat) (d:D),ρ[k]?=some (.ow d)->σ[k]?≠some (some (.ref p)))->H' p=some (.lst us)/\Ha' p=none):OX K He Ha' σ' H' ρ':=by
 refine⟨λi j ds e=>?_,λi a e=>?_⟩
 rotate_left
 .rcases hk i _ e with h1|⟨d,h1⟩|h1|⟨d,q,h1,_⟩
  .rw[h1.2];exact h.2 i a h1.1
  .cases h1
  .cases h1
  .cases h1
 have old:ρ[i]?=some (.ox j ds)/\σ'[i]?=σ[i]?:=by
  rcases hk i _ e with h1|⟨d,h1⟩|h1|⟨d,q,h1,_⟩
  .exact h1
  .cases h1
  .cases h1
  .cases h1
 obtain⟨a,P,h1,h2,h3,h4⟩:=h.1 i j ds old.1;have h2':=h2;obtain⟨vs,r1,r2,r3,r4,r5,r6⟩:=h2;refine⟨a,P,old.2.trans h1,⟨vs,r1,ht a vs r1 r2,r3,λk ok=>?_,r5,λk d v hk e1 e2=>(r6 k d v hk e1 e2).mono hz⟩,λk d l ok ek z=>?_,λk j' ds' ek=>?_⟩
 .obtain⟨es,us,q1,q2,q3,q4,q5,q6⟩:=r4 k ok
  obtain⟨l1,l2⟩:=hl (P k) us q1 q2 q5 λm d em=>h3 m d k ok em;exact⟨es,us,q1,l2,q3,q4,l1,q6.mono hz⟩
 .rcases hk k _ ek with h1'|⟨d',h1'⟩|h1'|⟨d',q,h1',h2'',h3'⟩
  .exact h3 k d l ok h1'.1 (by rw[←h1'.2];exact z)
  .cases h1'
  .cases h1'
  .rw[h2'']at z
   cases z;exact h3' i j ds a P old.1 h1 h2' l ok rfl
 .rcases hk k _ ek with h1'|⟨d',h1'⟩|h1'|⟨d',q,h1',_⟩
  .exact h4 k j' ds' h1'.1
  .cases h1'
  .cases h1'
  .cases h1'
def OX.none{K:Q2}(h:∀(i j:Nat) (ds:ac),ρ[i]?≠some (.ox j ds))(h':∀(i:Nat) (a:Q9),ρ[i]?=some (.pt a)->σ[i]?=some (some (.ref a))):OX K He Ha σ H ρ:=⟨λi j ds e=>absurd e (h i j ds),h'⟩
theorem Bs{K:Q2}{H:Hp}:∀{ds:ac}{vs:al},ds.length=vs.length->(∀(k:Nat) (d:D) (v:V),ds[k]?=some d->vs[k]?=some v->Rep K H d v)->Reps K H ds vs
 |[],[],_,_=>Reps.nil
 |d::ds,v::vs,hl,h=>Reps.cons (h 0 d v rfl rfl) (Bs (by simpa using hl) λk d' v' e1 e2=>h (k+1) d' v' e1 e2)
structure eV (K:Q2) (He η Ha:Hp) (σ:L2.St) (H:Hp) (ρ:Ev):Prop where
 g:bj He η H Ha
 rd:eW K Ha σ ρ
 ow:∀(i:Nat) (d:D),ρ[i]?=some (.ow d)->∃a,σ[i]?=some (some (.ref a))/\He a=none/\Ha a=none/\JK K Ha H a d
 ap:∀(i j:Nat) (d d':D),i≠j->ρ[i]?=some (.ow d)->ρ[j]?=some (.ow d')->σ[i]?≠σ[j]?
 ln:ρ.length=σ.length
 ex:OX K He Ha σ H ρ
inductive Fl where
 |nx (ρ:Ev)|rt (d:D)|bk (ρ:Ev)|ct (ρ:Ev)
abbrev bi:=Ev->av Fl
noncomputable def bQ(K:Q2) (E:XK) (He η Ha:Hp) (r:av Fl) (D:vi):Prop:=match r with
 |.ok (.nx ρ)=>∀σ H Ha',aE Ha Ha'->eV K He η Ha' σ H ρ->D.nx σ H
 |.ok (.rt d)=>∀v H Ha',bj He η H Ha'->Rep K Ha' d v->D.rt v H
 |.ok (.bk ρ)=>∀σ H Ha',aE Ha Ha'->eV K He η Ha' σ H ρ->D.bk σ H
 |.ok (.ct ρ)=>∀σ H Ha',aE Ha Ha'->eV K He η Ha' σ H ρ->D.ct σ H
 |.exn x=>∀C ox H Ha',bj He η H Ha'->zH K Ha' x C ox->E C ox H
 |.stuck=>False
def bQ.grow{K:Q2}{D:vi}(h:bQ K E He η Ha r D)(s:aE Ha Hb):bQ K E He η Hb r D:=by
 cases r with
 |ok f=>
  cases f with|nx ρ=>exact λσ H Ha' s'=>h σ H Ha' (s.trans s')|rt d=>exact h|bk ρ=>exact λσ H Ha' s'=>h σ H Ha' (s.trans s')|ct ρ=>exact λσ H Ha' s'=>h σ H Ha' (s.trans s')
 |exn x=>exact h
 |stuck=>exact h
def tS(K:Q2)(E:XK)(He η:Hp)(g:bi):TS:=λD σ H=>∃Ha ρ,eV K He η Ha σ H ρ/\bQ K E He η Ha (g ρ) D
structure DS (X:Cx) (E:XK) (He η:Hp) (st:Tr) (g:bi):Prop where
 o:PS X st (tS X.K E He η g)
structure zL (X:Cx) (E:XK) (He η:Hp) (st:List Tr) (g:bi):Prop where
 o:uP X st (tS X.K E He η g)
def iH(ρ:Ev):Ev:=ρ.map λs=>match s with
 |.ow d=>.sh d
 |.ox _ ds=>.sh (.tup ds)
 |x=>x
def frz(He Ha H:Hp):Hp:=λa=>match He a with
 |none=>H a
 |some _=>Ha a
section
variable {K:Q2}{E:XK}{He η Ha H H1:Hp}{σ:L2.St}{ρ:Ev}
def eV.same(h:eV K He η Ha σ H ρ)(s:aE H H1):eV K He η Ha σ H1 ρ :=
 ⟨⟨h.g.s.trans s,h.g.z,h.g.sub.trans s,h.g.nw⟩,h.rd,λi d e=>by
  obtain⟨a,h1,h2,h3,h4⟩:=h.ow i d e;refine⟨a,h1,h2,h3,?_⟩;cases d with
  |lst ds=>obtain⟨vs,h5,h6⟩:=h4;exact⟨vs,s _ _ h5,h6⟩|dic ks ds=>obtain⟨vs,h5,hl,h6⟩:=h4;exact⟨vs,s _ _ h5,hl,h6⟩
  |ob kk ds=>
   cases kk with|dint ks=>obtain⟨vs,h5,hl,h6⟩:=h4;exact⟨vs,s _ _ h5,hl,h6⟩| _=>exact h4.elim
  |_=>exact h4,h.ap,h.ln,h.ex.upd (λj s' e=>.inl ⟨e,rfl⟩) (aE.refl _) (λa vs _ e=>s _ _ e) λp us _ h0 hp _=>⟨s _ _ hp,h0⟩⟩
def eV.grow(h:eV K He η Ha σ H ρ)(s:bj H Ha H1 H01):eV K He η H01 σ H1 ρ :=
 ⟨h.g.trans s,h.rd.mono s.z,λi d e=>by
  obtain⟨a,h1,h2,h3,h4⟩:=h.ow i d e;have ha:H01 a=none:=by
   cases q:H01 a with
   |none=>rfl
   |some o=>
    have:=s.nw a (by rw[q];simp) h3;cases d with
    |lst ds|dic ks ds=>obtain⟨vs,h5,_⟩:=h4;rw[h5]at this;cases this
    |ob kk ds=>
     cases kk with|dint ks=>obtain⟨vs,h5,_⟩:=h4;rw[h5]at this;cases this| _=>exact h4.elim
    |_=>exact h4.elim
  refine⟨a,h1,h2,ha,?_⟩;cases d with
  |lst ds=>obtain⟨vs,h5,h6⟩:=h4;exact⟨vs,s.s _ _ h5,h6.mono s.z⟩|dic ks ds=>obtain⟨vs,h5,hl,h6⟩:=h4;exact⟨vs,s.s _ _ h5,hl,h6.mono s.z⟩
  |ob kk ds=>
   cases kk with|dint ks=>obtain⟨vs,h5,hl,h6⟩:=h4;exact⟨vs,s.s _ _ h5,hl,h6.mono s.z⟩| _=>exact h4.elim
  |_=>exact h4,h.ap,h.ln,h.ex.upd (λj s' e=>.inl ⟨e,rfl⟩) s.z (λa vs _ e=>s.s _ _ e) λp us _ h0 hp _=>⟨s.s _ _ hp,by
   cases q:H01 p with
   |none=>rfl
   |some o=>have:=s.nw p (by rw[q];simp) h0;rw[hp]at this;cases this⟩⟩
def eV.frz_sub(h:eV K He η Ha σ H ρ):aE Ha (frz He Ha H):=λb o e=>by
 unfold frz;cases q:He b with|none=>exact h.g.sub _ _ e|some _=>exact e
def eV.frz_le(h:eV K He η Ha σ H ρ):aE (frz He Ha H) H:=λb o e=>by
 unfold frz at e;cases q:He b with|none=>rw[q]at e;exact e|some _=>rw[q]at e;exact h.g.sub _ _ e
theorem eV.frz_grow(h:eV K He η Ha σ H ρ):bj He η H (frz He Ha H) :=
 ⟨h.g.s,h.g.z.trans h.frz_sub,h.frz_le,λa h1 h2=>by
  cases q:He a with
  |none=>rfl
  |some o=>
   unfold frz at h1;rw[q]at h1;have:=h.g.nw a h1 h2;rw[q]at this;cases this⟩
def eV.looks(h:eV K He η Ha σ H ρ):eW K (frz He Ha H) σ (iH ρ):=λi d e=>by
 unfold iH at e;rw[Q7]at e;cases q:ρ[i]? with
 |none=>rw[q]at e;cases e
 |some s=>
  rw[q]at e;cases s with
  |no|pt a=>cases e
  |sh d'=>
   cases e;obtain⟨v,h1,h2⟩:=h.rd i d q;exact⟨v,h1,h2.mono h.frz_sub⟩
  |ow d'=>
   cases e;obtain⟨a,h1,h2,h3,h4⟩:=h.ow i d q;refine⟨_,h1,?_⟩;cases d with
   |lst ds=>
    obtain⟨vs,h5,h6⟩:=h4;exact aB.mpr ⟨a,vs,rfl,fZ.of (by unfold frz;rw[h2];exact h5),h6.mono h.frz_sub⟩
   |dic ks ds=>
    obtain⟨vs,h5,hl,h6⟩:=h4;rw[Rep];exact⟨a,_,vs,rfl,.inl (by unfold frz;rw[h2];exact h5),rfl,hl,h6.mono h.frz_sub⟩
   |ob kk ds=>
    cases kk with
    |dint ks=>
     obtain⟨vs,h5,hl,h6⟩:=h4;exact aP.mpr ⟨a,vs,rfl,⟨_,.inl (by unfold frz;rw[h2];exact h5),rfl,hl⟩,h6.mono h.frz_sub⟩
    |_=>exact h4.elim
   |_=>exact h4.elim
  |ox j ds=>
   cases e;obtain⟨a,P,h1,⟨vs,r1,r2,r3,r4,r5,r6⟩,_⟩:=h.ex.1 i j ds q;refine⟨_,h1,aG.mpr ⟨a,vs,rfl,l9.of (by unfold frz;rw[r1];exact r2),Bs r3 λk d v e1 e2=>?_⟩⟩;cases hk:uW j k with
   |true=>
    obtain⟨es,us,q1,q2,q3,q4,q5,q6⟩:=r4 k hk;rw[q3]at e1;cases e1;rw[q4]at e2;cases e2;exact aB.mpr ⟨P k,us,rfl,fZ.of (by unfold frz;rw[q1];exact q5),q6.mono h.frz_sub⟩
   |false=>exact(r6 k d v hk e1 e2).mono h.frz_sub
def eV.put(h:eV K He η Ha σ H ρ)(r:Rep K Ha d v):eV K He η Ha (σ.set i (some v)) H (ρ.set i (.sh d)):=by
 have key:∀(j:Nat) (s:Sl),(ρ.set i (.sh d))[j]?=some s->(j=i/\s=.sh d/\i<σ.length)∨(j≠i/\ρ[j]?=some s):=λj s e=>by
  by_cases hj:i=j
  .subst hj
   rw[TH]at e;cases q:ρ[i]? with
   |none=>rw[q]at e;cases e
   |some s'=>
    rw[q]at e;cases e;refine .inl ⟨rfl,rfl,?_⟩;rw[←h.ln];exact(Q5.mp q).1
  .rw[Q8 hj]at e
   exact .inr ⟨λz=>hj z.symm,e⟩
 refine⟨h.g,λj d' e=>?_,λj d' e=>?_,λj k d1 d2 hn e1 e2=>?_,by simp[h.ln],h.ex.upd (λj s e=>?_) (aE.refl _) (λa vs _ e=>e) λp us _ h0 hp _=>⟨hp,h0⟩⟩
 rotate_left 3
 .rcases key j _ e with⟨rfl,e',hl⟩|⟨hj,e'⟩
  .exact .inr (.inl ⟨d,e'⟩)
  .exact .inl ⟨e',by rw[Q8 (R7 hj)]⟩
 .rcases key j _ e with⟨rfl,e',hl⟩|⟨hj,e'⟩
  .cases e'
   exact⟨v,by rw[RT hl],r⟩
  .obtain⟨v',h1,h2⟩:=h.rd j d' e'
   exact⟨v',by rw[Q8 (R7 hj)];exact h1,h2⟩
 .rcases key j _ e with⟨rfl,e',hl⟩|⟨hj,e'⟩
  .cases e'
  .obtain⟨a,h1,h2⟩:=h.ow j d' e'
   exact⟨a,by rw[Q8 (R7 hj)];exact h1,h2⟩
 .rcases key j _ e1 with⟨_,e',_⟩|⟨hj,e1'⟩
  .cases e'
  rcases key k _ e2 with⟨_,e',_⟩|⟨hk,e2'⟩
  .cases e'
  rw[Q8 (R7 hj),Q8 (R7 hk)];exact h.ap j k d1 d2 hn e1' e2'
def eV.putOwn(h:eV K He η Ha σ H ρ)(hp:∀(j:Nat) (a:Q9),σ[j]?=some (some (V.ref a))->a=p->∀d:D,ρ[j]?≠some (Sl.ow d))(he:He p=none)(h0:Ha p=none)(hv:H p=some (.lst vs))(r:Reps K Ha ds vs)(hx:∀(i j:Nat) (ds:ac) (a:Q9) (P:Nat->Q9),ρ[i]?=some (.ox j ds)->σ[i]?=some (some (.ref a))->OA K He Ha H a j ds P->∀l,uW j l=true->p≠P l) :
  eV K He η Ha (σ.set i (some (.ref p))) H (ρ.set i (.ow (.lst ds))):=by
 have key:∀(j:Nat) (s:Sl),(ρ.set i (.ow (.lst ds)))[j]?=some s->(j=i/\s=.ow (.lst ds)/\i<σ.length)∨(j≠i/\ρ[j]?=some s):=λj s e=>by
  by_cases hj:i=j
  .subst hj
   rw[TH]at e;cases q:ρ[i]? with
   |none=>rw[q]at e;cases e
   |some s'=>
    rw[q]at e;cases e;refine .inl ⟨rfl,rfl,?_⟩;rw[←h.ln];exact(Q5.mp q).1
  .rw[Q8 hj]at e
   exact .inr ⟨λz=>hj z.symm,e⟩
 have other:∀(k:Nat) (d2:D),k≠i->ρ[k]?=some (.ow d2)->some (some (V.ref p))≠σ[k]?:=λk d2 hk e2 z=>by
  obtain⟨a,h1,_⟩:=h.ow k d2 e2;rw[h1]at z;cases z;exact hp k p h1 rfl d2 e2
 refine⟨h.g,λj d' e=>?_,λj d' e=>?_,λj k d1 d2 hn e1 e2=>?_,by simp[h.ln],h.ex.upd (λj s e=>?_) (aE.refl _) (λa vs _ e=>e) λp us _ h0 hp _=>⟨hp,h0⟩⟩
 rotate_left 3
 .rcases key j _ e with⟨rfl,e',hl⟩|⟨hj,e'⟩
  .exact .inr (.inr (.inr ⟨.lst ds,p,e',by rw[RT hl],hx⟩))
  .exact .inl ⟨e',by rw[Q8 (R7 hj)]⟩
 .rcases key j _ e with⟨rfl,e',hl⟩|⟨hj,e'⟩
  .cases e'
  .obtain⟨v',h1,h2⟩:=h.rd j d' e'
   exact⟨v',by rw[Q8 (R7 hj)];exact h1,h2⟩
 .rcases key j _ e with⟨rfl,e',hl⟩|⟨hj,e'⟩
  .cases e'
   exact⟨p,by rw[RT hl],he,h0,vs,hv,r⟩
  .obtain⟨a,h1,h2⟩:=h.ow j d' e'
   exact⟨a,by rw[Q8 (R7 hj)];exact h1,h2⟩
 .rcases key j _ e1 with⟨rfl,_,hl⟩|⟨hj,e1'⟩
  .rcases key k _ e2 with⟨rfl,_,_⟩|⟨hk,e2'⟩
   .exact absurd rfl hn
   .rw[RT hl,Q8 (R7 hk)]
    exact other k d2 hk e2'
  .rcases key k _ e2 with⟨rfl,_,hl⟩|⟨hk,e2'⟩
   .rw[RT hl,Q8 (R7 hj)]
    exact λz=>other j d1 hj e1' z.symm
   .rw[Q8 (R7 hj),Q8 (R7 hk)]
    exact h.ap j k d1 d2 hn e1' e2'
def eV.fresh_x{H01:Hp}{p:Q9}(h:eV K He η Ha σ H ρ)(s:aE H H1)(hp:H p=none):∀(i j:Nat) (ds:ac) (a:Q9) (P:Nat->Q9),ρ[i]?=some (.ox j ds)->σ[i]?=some (some (.ref a))->OA K He H01 H1 a j ds P->∀l,uW j l=true->p≠P l:=λi j ds a P x1 x2 x3 l ol=>by
 obtain⟨a2,P2,y1,⟨vs2,_,z3,_,y4,_⟩,_⟩:=h.ex.1 i j ds x1;rw[x2]at y1;cases y1;obtain⟨vs1,_,z1,_,y5,_⟩:=x3;have:=s _ _ z3;rw[z1]at this;cases this;obtain⟨_,us2,_,_,_,z4,z5,_⟩:=y4 l ol;obtain⟨_,_,_,_,_,z2,_⟩:=y5 l ol;rw[z2]at z4;injection z4 with z4;injection z4 with z4;intro z;rw[←z4,←z,hp]at z5;cases z5
def eV.write(h:eV K He η Ha σ H ρ)(e:ρ[i]?=some (.ow d))(es:σ[i]?=some (some (.ref p)))(r:Reps K Ha ds vs) :
  eV K He η Ha σ (upd H p (.lst vs)) (ρ.set i (.ow (.lst ds))):=by
 obtain⟨a,h1,h2,h3,h4⟩:=h.ow i d e;rw[h1]at es;cases es;have hil:i<ρ.length:=(Q5.mp e).1;have key:∀(j:Nat) (s:Sl),(ρ.set i (.ow (.lst ds)))[j]?=some s->(j=i/\s=.ow (.lst ds))∨(j≠i/\ρ[j]?=some s):=λj s e=>by
  by_cases hj:i=j
  .subst hj
   rw[RT hil]at e;cases e;exact .inl ⟨rfl,rfl⟩
  .rw[Q8 hj]at e
   exact .inr ⟨λz=>hj z.symm,e⟩
 refine⟨⟨λb o eb=>?_,h.g.z,λb o eb=>?_,h.g.nw⟩,λj d' e'=>?_,λj d' e'=>?_,λj k d1 d2 hn e1 e2=>?_,by simp[h.ln],h.ex.upd (λj s e'=>?_) (aE.refl _) (λb us _ eb=>?_) λq us _ q0 hq hd=>?_⟩
 rotate_left 5
 .rcases key j _ e' with⟨rfl,e''⟩|⟨hj,e''⟩
  .exact .inr (.inr (.inr ⟨.lst ds,p,e'',h1,λi' j' ds' a' P' x1 x2 x3 l ol=>by
    obtain⟨a2,P2,y1,y2,y3,_⟩:=h.ex.1 i' j' ds' x1;rw[x2]at y1;cases y1;have:P2 l=P' l:=by
     obtain⟨vs1,_,z1,_,y5,_⟩:=x3;obtain⟨vs2,_,z3,_,y4,_⟩:=y2;rw[z1]at z3;cases z3;obtain⟨_,_,_,_,_,z2,_⟩:=y5 l ol;obtain⟨_,_,_,_,_,z4,_⟩:=y4 l ol;rw[z2]at z4;injection z4 with z4;injection z4 with z4;exact z4.symm
    rw[←this];intro zz;rw[zz]at h1;exact y3 j d l ol e h1⟩))
  .exact .inl ⟨e'',rfl⟩
 .rw[aF (by
   intro z;subst z;cases d with
   |lst ds'|dic ks ds'=>obtain⟨vs',h5,_⟩:=h4;rw[h5]at eb;cases eb
   |ob kk ds'=>
    cases kk with|dint ks=>obtain⟨vs',h5,_⟩:=h4;rw[h5]at eb;cases eb| _=>exact h4.elim
   |_=>exact h4)];exact eb
 .have hq':q≠p:=by
   intro z;subst z;exact hd i d e h1
  exact⟨by rw[aF hq'];exact hq,q0⟩
 .rw[aF (by intro z;subst z;rw[h2]at eb;cases eb)];exact h.g.s _ _ eb
 .rw[aF (by intro z;subst z;rw[h3]at eb;cases eb)];exact h.g.sub _ _ eb
 .rcases key j _ e' with⟨rfl,e''⟩|⟨hj,e''⟩
  .cases e''
  .exact h.rd j d' e''
 .rcases key j _ e' with⟨rfl,e''⟩|⟨hj,e''⟩
  .cases e''
   exact⟨p,h1,h2,h3,vs,aL,r⟩
  .obtain⟨b,k1,k2,k3,k4⟩:=h.ow j d' e''
   refine⟨b,k1,k2,k3,?_⟩;have hb:b≠p:=by
    intro z;subst z;exact h.ap j i d' d hj e'' e (by rw[k1,h1])
   cases d' with
   |lst ds'=>
    obtain⟨vs',h5,h6⟩:=k4;exact⟨vs',by rw[aF hb];exact h5,h6⟩
   |dic ks ds'=>
    obtain⟨vs',h5,hl,h6⟩:=k4;exact⟨vs',by rw[aF hb];exact h5,hl,h6⟩
   |ob kk ds'=>
    cases kk with
    |dint ks=>
     obtain⟨vs',h5,hl,h6⟩:=k4;exact⟨vs',by rw[aF hb];exact h5,hl,h6⟩
    |_=>exact k4.elim
   |_=>exact k4.elim
 .rcases key j _ e1 with⟨rfl,e1'⟩|⟨hj,e1'⟩
  .rcases key k _ e2 with⟨rfl,_⟩|⟨hk,e2'⟩
   .exact absurd rfl hn
   .exact h.ap j k d d2 hn e e2'
  .rcases key k _ e2 with⟨rfl,_⟩|⟨hk,e2'⟩
   .exact h.ap j k d1 d hn e1' e
   .exact h.ap j k d1 d2 hn e1' e2'
end
mutual
def kq:D->Bool
 |.lst _=>false
 |.dic _ _=>false
 |.exc _=>false
 |.ob _ _=>false
 |.tup ds=>flats ds
 |_=>true
def flats:ac->Bool
 |[]=>true
 |d::ds=>kq d&&flats ds
end
mutual
theorem Rep.flat_to{K:Q2}{H H':Hp}(e:∀a vs,Rd H a (.tup vs)->Rd H' a (.tup vs)):∀{d:D}{v:V},kq d=true->Rep K H d v->Rep K H' d v
 |.non,_,_,h=>by unfold Rep at h ⊢;exact h
 |.bl _,_,_,h=>by unfold Rep at h ⊢;exact h
 |.int _,_,_,h=>by unfold Rep at h ⊢;exact h
 |.str _,_,_,h=>by unfold Rep at h ⊢;exact h
 |.tup ds,_,f,h=>by
  unfold kq at f;obtain⟨a,vs,e1,e2,e3⟩:=aG.mp h;refine aG.mpr ⟨a,vs,e1,?_,Reps.flat_to e f e3⟩;rcases e2 with e2|e2
  .exact .inl (e _ _ e2)
  .exact .inr e2
 |.lst ds,_,f,h=>by unfold kq at f;cases f
 |.dic ks ds,_,f,h=>by unfold kq at f;cases f
 |.exc x,_,f,h=>by unfold kq at f;cases f
 |.ob k ds,_,f,h=>by unfold kq at f;cases f
theorem Reps.flat_to{K:Q2}{H H':Hp}(e:∀a vs,Rd H a (.tup vs)->Rd H' a (.tup vs)):∀{ds:ac}{vs:al},flats ds=true->Reps K H ds vs->Reps K H' ds vs
 |[],_,_,h=>by unfold Reps at h ⊢;exact h
 |d::ds,_,f,h=>by
  unfold flats at f;rw[Rn]at f;obtain⟨v,r,e1,e2,e3⟩:=az.mp h;exact az.mpr ⟨v,r,e1,Rep.flat_to e f.1 e2,Reps.flat_to e f.2 e3⟩
end
def ku(Ha J:Hp):Hp:=λa=>match Ha a with
 |some o=>some o
 |none=>match J a with
  |some (.tup vs)=>some (.tup vs)
  |some (.frz o (.tup vs))=>some (.frz o (.tup vs))
  |_=>none
section
variable {K:Q2}{E:XK}{He η Ha H H1 J:Hp}{σ:L2.St}{ρ:Ev}
def JG(h:aE Ha J):∀a o,ku Ha J a=some o->J a=some o:=λa o e=>by
 unfold ku at e;cases q:Ha a with
 |some u=>rw[q]at e;cases e;exact h _ _ q
 |none=>
  rw[q]at e;cases q2:J a with
  |none=>rw[q2]at e;cases e
  |some u=>
   rw[q2]at e;cases u with
   |tup vs=>cases e;rfl
   |frz o u'=>
    cases u' with|tup vs=>cases e;rfl| _=>cases e
   |_=>cases e
def Cj(h:aE Ha J)(a:Q9)(vs:al)(e:Rd J a (.tup vs)):Rd (ku Ha J) a (.tup vs):=by
 rcases e with e|⟨o,e⟩
 .refine .inl ?_
  unfold ku;cases q:Ha a with|some u=>have:=h _ _ q;rw[e]at this;cases this;rfl|none=>rw[e]
 .refine .inr ⟨o,?_⟩
  unfold ku;cases q:Ha a with|some u=>have:=h _ _ q;rw[e]at this;cases this;rfl|none=>rw[e]
def eV.behind(h:eV K He η Ha σ H ρ)(g:bj H (frz He Ha H) H1 J):eV K He η (ku Ha J) σ H1 ρ:=by
 have hJ:aE Ha J:=h.frz_sub.trans g.z;have le:=JG (Ha:=Ha) (J:=J) hJ;have z:aE Ha (ku Ha J):=λb o e=>by unfold ku;rw[e]
 refine⟨⟨h.g.s.trans g.s,h.g.z.trans z,λb o e=>g.sub _ _ (le b o e),λa h1 h2=>?_⟩,h.rd.mono z,λi d e=>?_,h.ap,h.ln,h.ex.upd (λj s e=>.inl ⟨e,rfl⟩) z (λa vs _ e=>g.s _ _ e) λp us hp h0 hl _=>⟨g.s _ _ hl,by
  have:frz He Ha H p=some (.lst us):=by unfold frz;rw[hp];exact hl
  have:=g.z _ _ this;unfold ku;rw[h0,this]⟩⟩
 .cases q:ku Ha J a with
  |none=>exact absurd q h1
  |some o=>
   have hj:=le a o q;exact(h.frz_grow.trans g).nw a (by rw[hj];simp) h2
 .obtain⟨a,k1,k2,k3,k4⟩:=h.ow i d e
  refine⟨a,k1,k2,?_,?_⟩
  .cases d with
   |lst ds=>
    obtain⟨vs,h5,_⟩:=k4;have:frz He Ha H a=some (.lst vs):=by unfold frz;rw[k2];exact h5
    have:=g.z _ _ this;unfold ku;rw[k3,this]
   |dic ks ds=>
    obtain⟨vs,h5,_⟩:=k4;have:frz He Ha H a=some (.dK ((ks.map Sh).zip vs)):=by unfold frz;rw[k2];exact h5
    have:=g.z _ _ this;unfold ku;rw[k3,this]
   |ob kk ds=>
    cases kk with
    |dint ks=>
     obtain⟨vs,h5,_⟩:=k4;have:frz He Ha H a=some (.dK ((ks.map UJ).zip vs)):=by unfold frz;rw[k2];exact h5
     have:=g.z _ _ this;unfold ku;rw[k3,this]
    |_=>exact k4.elim
   |_=>exact k4.elim
  .cases d with
   |lst ds=>obtain⟨vs,h5,h6⟩:=k4;exact⟨vs,g.s _ _ h5,h6.mono z⟩
   |dic ks ds=>obtain⟨vs,h5,hl,h6⟩:=k4;exact⟨vs,g.s _ _ h5,hl,h6.mono z⟩
   |ob kk ds=>
    cases kk with|dint ks=>obtain⟨vs,h5,hl,h6⟩:=k4;exact⟨vs,g.s _ _ h5,hl,h6.mono z⟩| _=>exact k4.elim
   |_=>exact k4.elim
end
section
variable {X:Cx}{E:XK}{He η:Hp}{st:Tr}{rest:List Tr}{e a b:R1}{es:List R1}{f g:am}{fa:Ev->av (ac)}{s t:bi}{pos:Pos}
def cB{t t':TS}(h:PS X st t)(w:∀D σ H,t' D σ H->t D σ H):PS X st t':=λπ s σ H D I q=>h π s σ H D I (w D σ H q)
def gD{t t':TS}(h:uP X rest t)(w:∀D σ H,t' D σ H->t D σ H):uP X rest t':=λπ s σ H D I q=>h π s σ H D I (w D σ H q)
def ak:bi:=λρ=>.ok (.nx ρ)
def aq(s t:bi):bi:=λρ=>(s ρ).bind λr=>match r with
 |.nx ρ'=>t ρ'
 |r=>.ok r
def au:zL X E He η [] ak:=⟨gD wO λD σ H ⟨Ha,ρ,h,q⟩=>q σ H Ha (aE.refl _) h⟩
def ai(h1:DS X E He η st s)(h2:zL X E He η rest t):zL X E He η (st::rest) (aq s t):=by
 refine⟨?_⟩;refine gD (iI h1.o h2.o) λD σ H z9=>?_;obtain⟨Ha,ρ,h,q⟩:=z9;refine⟨Ha,ρ,h,?_⟩
 unfold aq at q;cases e1:s ρ with
 |stuck|exn x=>rw[e1]at q;exact q
 |ok r=>
  rw[e1]at q;cases r with|nx ρ'=>exact λσ' H' Ha' s' h'=>⟨Ha',ρ',h',bQ.grow (r:=t ρ') q s'⟩|rt d|bk ρ'|ct ρ'=>exact q
def dg:bi:=λ_=>.stuck
def dk:DS X E He η st dg:=⟨cB Fc λD σ H ⟨Ha,ρ,h,q⟩=>q⟩
def plain{K:Q2}{k:D->av Fl}(h:eV K He η Ha σ H ρ) 
  (q:bQ K E He η Ha (r.bind k) D')(hk:∀d v H' Ha',r=.ok d->bj H Ha H' Ha'->Rep K Ha' d v->bQ K E He η Ha' (k d) D'->Q v H'):post K E H Ha r Q:=by
 cases r with|stuck=>exact q|exn x=>exact λC ox H' Ha' g ex=>q C ox H' Ha' (h.g.trans g) ex|ok d=>exact λv H' Ha' g rp=>hk d v H' Ha' rfl g rp (bQ.grow (r:=k d) q g.z)
def look{K:Q2}{k:D->av Fl}(h:eV K He η Ha σ H ρ) 
  (q:bQ K E He η Ha (r.bind k) D')(hk:∀d v H' J,r=.ok d->bj H (frz He Ha H) H' J->Rep K J d v->bQ K E He η Ha (k d) D'->Q v H'):post K E H (frz He Ha H) r Q:=by
 cases r with|stuck=>exact q|exn x=>exact λC ox H' Ha' g ex=>q C ox H' Ha' (h.frz_grow.trans g) ex|ok d=>exact λv H' J g rp=>hk d v H' J rfl g rp q
def J6{K:Q2}{k:Bool->av Fl}(h:eV K He η Ha σ H ρ) 
  (q:bQ K E He η Ha (r.bind λx=>match x with|.bl b=>k b|_=>.stuck) D')(hk:∀b H',aE H H'->bQ K E He η Ha (k b) D'->Q b H'):rE K E H (frz He Ha H) r Q:=by
 cases r with
 |stuck=>exact q|exn x=>exact λC ox H' Ha' g ex=>q C ox H' Ha' (h.frz_grow.trans g) ex
 |ok d=>
  cases d with|bl b=>exact λH' J g=>hk b H' g.s q| _=>exact q.elim
def aJ(i:Nat)(f:am):bi:=λρ=>(f ρ).bind λd=>.ok (.nx (ρ.set i (.sh d)))
def Bn(i:Nat)(f:am):bi:=λρ=>(f (iH ρ)).bind λd=>if kq d=true then .ok (.nx (ρ.set i (.sh d))) else .stuck
def aW(f:am):bi:=λρ=>(f (iH ρ)).bind λd=>.ok (.rt d)
def gC(f:am):bi:=λρ=>(f (iH ρ)).bind λ_=>.ok (.nx ρ)
def cM(c:am)(s t:bi):bi:=λρ=>(c (iH ρ)).bind λx=>match x with
 |.bl b=>if b=true then s ρ else t ρ
 |_=>.stuck
def aN(hN:X.N.Nodup)(hi:X.N[i]?=some x)(hx:DR X.env.scope x)(he:DE X E e f)(hs:SD e (some (.Name x pos')) pos.line X.env=pure false:=by rfl)
  (hf:X.fn x=true∨X.env.scope.names.lookup x=some .local := by first|exact .inl rfl|exact .inr rfl|assumption):DS X E He η (.Assign [.Name x pos'] e pos) (aJ i f):=by
 refine⟨?_⟩;refine cB (mr hN hi hx he.o hs hf) λD σ H z9=>?_;obtain⟨Ha,ρ,h,q⟩:=z9;refine⟨Ha,ρ,h.g.sub,h.rd,?_⟩
 refine plain h q λd v H' Ha' _ g rp q'=>?_;exact q' _ H' Ha' (aE.refl _) ((h.grow g).put rp)
def Jj(hN:X.N.Nodup)(hi:X.N[i]?=some x)(hx:DR X.env.scope x)(he:DE X E e f)(hs:SD e (some (.Name x pos')) pos.line X.env=pure false:=by rfl)
  (hf:X.fn x=true∨X.env.scope.names.lookup x=some .local := by first|exact .inl rfl|exact .inr rfl|assumption):DS X E He η (.Assign [.Name x pos'] e pos) (Bn i f):=by
 refine⟨?_⟩;refine cB (mr hN hi hx he.o hs hf) λD σ H z9=>?_;obtain⟨Ha,ρ,h,q⟩:=z9;refine⟨frz He Ha H,iH ρ,h.frz_le,h.looks,?_⟩
 refine look h q λd v H' J _ g rp q'=>?_
 by_cases fl:kq d=true
 .rw[if_pos fl]at q'
  have hJ:aE Ha J:=h.frz_sub.trans g.z;refine q' _ H' (ku Ha J) (λb o e=>by unfold ku;rw[e]) ((h.behind g).put (rp.flat_to (Cj hJ) fl))
 .rw[if_neg fl]at q';exact q'.elim
def aO(he:DE X E e f):DS X E He η (.Return (some e) pos) (aW f):=by
 refine⟨?_⟩;refine cB (K5 he.o) λD σ H z9=>?_;obtain⟨Ha,ρ,h,q⟩:=z9;refine⟨frz He Ha H,iH ρ,h.frz_le,h.looks,?_⟩
 exact look h q λd v H' J _ g rp q'=>q' v H' J (h.frz_grow.trans g) rp
def lQ(he:DE X E e f)(hs:SD e none pos.line X.env=pure false:=by rfl):DS X E He η (.Expr e pos) (gC f):=by
 refine⟨?_⟩;refine cB (qC he.o hs) λD σ H z9=>?_;obtain⟨Ha,ρ,h,q⟩:=z9;refine⟨frz He Ha H,iH ρ,h.frz_le,h.looks,?_⟩
 exact look h q λd v H' J _ g rp q'=>q' σ H' Ha (aE.refl _) (h.same g.s)
def bI(hc:DT X E c fc)(ha:zL X E He η sa s)(hb:zL X E He η sb t):DS X E He η (.If c sa sb pos) (cM fc s t):=by
 refine⟨?_⟩;refine cB (J4 hc.o ha.o hb.o) λD σ H z9=>?_;obtain⟨Ha,ρ,h,q⟩:=z9;refine⟨frz He Ha H,iH ρ,h.frz_le,h.looks,?_⟩
 refine J6 (k:=λb=>if b=true then s ρ else t ρ) h q λb H' hs q'=>?_;cases b with|true=>rw[if_pos rfl]at q' ⊢;exact⟨Ha,ρ,h.same hs,q'⟩|false=>rw[if_neg RM]at q' ⊢;exact⟨Ha,ρ,h.same hs,q'⟩
noncomputable def tF(K:Q2) (E:XK) (f:am):TE:=λσ H Q=>∃Ha ρ,aE Ha H/\eW K Ha σ ρ/\match f ρ with
 |.ok (.lst ds)=>∀p vs H' Ha',bj H Ha H' Ha'->H p=none->Ha' p=none->H' p=some (.lst vs)->Reps K Ha' ds vs->Q (.ref p) H'
 |.ok _=>False
 |.exn x=>∀C ox H' Ha',bj H Ha H' Ha'->zH K Ha' x C ox->E C ox H'
 |.stuck=>False
structure DF (X:Cx) (E:XK) (e:R1) (f:am):Prop where
 o:PE X e (tF X.K E f)
def wJ(i:Nat)(f:am):bi:=λρ=>(f ρ).bind λd=>match d with
 |.lst ds=>.ok (.nx (ρ.set i (.ow (.lst ds))))
 |_=>.stuck
def uc(hN:X.N.Nodup)(hi:X.N[i]?=some x)(hx:DR X.env.scope x)(he:DF X E e f)(hs:SD e (some (.Name x pos')) pos.line X.env=pure false:=by rfl)
  (hf:X.fn x=true∨X.env.scope.names.lookup x=some .local := by first|exact .inl rfl|exact .inr rfl|assumption):DS X E He η (.Assign [.Name x pos'] e pos) (wJ i f):=by
 refine⟨?_⟩;refine cB (mr hN hi hx he.o hs hf) λD σ H z9=>?_;obtain⟨Ha,ρ,h,q⟩:=z9;refine⟨Ha,ρ,h.g.sub,h.rd,?_⟩
 unfold wJ at q;cases e1:f ρ with
 |stuck=>rw[e1]at q;exact q|exn x=>rw[e1]at q;exact λC ox H' Ha' g ex=>q C ox H' Ha' (h.g.trans g) ex
 |ok d=>
  rw[e1]at q;cases d with
  |lst ds=>
   intro p vs H' Ha' g hp h0 hv rp;refine q _ H' Ha' g.z ((h.grow g).putOwn (λj a ej ea d ed=>?_) (h.g.s.free hp) h0 hv rp (h.fresh_x g.s hp));subst ea;obtain⟨a',k1,_,_,k4⟩:=h.ow j d ed;rw[ej]at k1;cases k1;cases d with
   |lst ds'|dic ks ds'=>obtain⟨vs',h5,_⟩:=k4;rw[hp]at h5;cases h5
   |ob kk ds'=>
    cases kk with|dint ks=>obtain⟨vs',h5,_⟩:=k4;rw[hp]at h5;cases h5| _=>exact k4.elim
   |_=>exact k4.elim
  |_=>exact q.elim
def o7(h:DA X E es fa):DF X E (.List es pos) (ao fa cH):=by
 refine⟨?_⟩;refine bo (Fq h.o) λσ H Q h=>?_;obtain⟨Ha,ρ,hs,hr,q⟩:=h;refine⟨Ha,ρ,hs,hr,?_⟩;unfold ao at q;cases e1:fa ρ with
 |stuck|exn x=>rw[e1]at q;exact q
 |ok ds=>
  rw[e1]at q;intro vs H1 H01 g1 r1;replace q:match cH ds with
   |.ok (.lst ds)=>∀p vs H' Ha',bj H Ha H' Ha'->H p=none->Ha' p=none->H' p=some (.lst vs)->Reps X.K Ha' ds vs->Q (.ref p) H'
   |.ok _=>False
   |.exn x=>∀C ox H' Ha',bj H Ha H' Ha'->zH X.K Ha' x C ox->E C ox H'
   |.stuck=>False:=q
  unfold cH at q
  by_cases hl:ds.length<=line
  .rw[if_pos hl]at q
   refine⟨by rw[←r1.length];exact ft hl,λp hp=>?_⟩;have h0:H01 p=none:=g1.sub.free hp;refine q p vs _ H01 (g1.trans ⟨λb o q=>by rw[aF (bu q hp)];exact q,aE.refl _,λb o q=>?_,λa h1 h2=>absurd h2 h1⟩) (g1.s.free hp) h0 aL r1;rw[aF (by intro z;subst z;rw[h0]at q;cases q)];exact g1.sub _ _ q
  .rw[if_neg hl]at q;exact q.elim
def yk(ρ:Ev)(i:Nat)(k:ac->av Fl):av Fl:=match ρ[i]? with
 |some (.ow (.lst ds))=>k ds
 |_=>.stuck
def c6(i:Nat)(f:am):bi:=λρ=>yk ρ i λds=>(f ρ).bind λd=>if ds.length<line then .ok (.nx (ρ.set i (.ow (.lst (ds++[d]))))) else .stuck
def rM{K:Q2}{k:ac->av Fl}(h:eV K He η Ha σ H ρ)(q:bQ K E He η Ha (yk ρ i k) D') :
  ∃ds p vs,ρ[i]?=some (.ow (.lst ds))/\σ[i]?=some (some (.ref p))/\He p=none/\Ha p=none/\H p=some (.lst vs)/\Reps K Ha ds vs/\bQ K E He η Ha (k ds) D':=by
 unfold yk at q;cases e:ρ[i]? with
 |none=>rw[e]at q;exact q.elim
 |some s=>
  rw[e]at q;cases s with
  |no|sh d|ox j ds|pt a=>exact q.elim
  |ow d=>
   cases d with
   |lst ds=>
    obtain⟨p,h1,h2,h3,vs,h4,h5⟩:=h.ow i _ e;exact⟨ds,p,vs,rfl,h1,h2,h3,h4,h5,q⟩
   |_=>exact q.elim
def iE(hN:X.N[i]?=some x)(hv:Cn X.env.scope x)(he:DE X E e f)
  (hd:(x==("__debug__" : Ro))=false:=by decide)(hcd:(x==("__classdict__" : Ro))=false:=by decide)
  (hbase:Tc (.Name x p1) "append" X.env (eval (.Name x p1) X.env)=eval (.Name x p1) X.env:=by rfl)
  (hfew:((SM p3 (Rk [e] X.env)).all (λx=>!x.1)&&(Vz p3 (UE [] X.env)).all (λx=>x.1.isSome)
  &&decide ([e].length+([]:List UB).length+(if([]:List UB).isEmpty then 0 else 1)<30))=true:=by exact ng rfl)
  (hline:(p2.endLine==p3.line)=true:=by rfl) (hs:Rk [e] X.env=(false,eval e X.env)::Rk [] X.env:=by exact bB rfl) (hplain:(SM p3 (Rk [] X.env)).any (·.1)=false:=by exact cX rfl)
  (hw:SD (.Call (.Attribute (.Name x p1) "append" p2) [e] [] p3) none pos.line X.env=pure false:=by rfl) :
  DS X E He η (.Expr (.Call (.Attribute (.Name x p1) "append" p2) [e] [] p3) pos) (c6 i f):=by
 refine⟨?_⟩;refine cB (qC (BE Up Wd Wc oW (jf hN hv hd hcd) (fM he.o jR hs) hbase hfew hline hs hplain) hw) λD σ H ⟨Ha,ρ,h,q⟩=>?_;obtain⟨ds,p,vs,e1,e2,e3,e4,e5,e6,q⟩:=rM h q;refine⟨.ref p,e2,.inl ⟨rfl,vs,fZ.of e5⟩,?_⟩;refine⟨Ha,ρ,h.g.sub,h.rd,plain h q λd v H' Ha' _ g rp q'=>?_⟩
 by_cases hl:ds.length<line
 .rw[if_pos hl]at q'
  have e5':H' p=some (.lst vs):=g.s _ _ e5;refine⟨p,vs,v,rfl,rfl,e5',by rw[←e6.length];exact Q4 hl (by decide),?_⟩;exact q' σ _ Ha' (aE.refl _) ((h.grow g).write e1 e2 ((e6.mono g.z).app (Reps.cons rp Reps.nil)))
 .rw[if_neg hl]at q';exact q'.elim
def putAt(ρ:Ev)(i:Nat)(ds:ac)(d:D)(j:D):av Fl:=match j with
 |.int j=>match yD ds.length j with
  |some n=>.ok (.nx (ρ.set i (.ow (.lst (ds.set n d)))))
  |none=>.stuck
 |_=>.stuck
def Bo(i:Nat)(f k:am):bi:=λρ=>yk ρ i λds=>(f (iH ρ)).bind λd=>(k (iH ρ)).bind λj=>if kq d=true then putAt ρ i ds d j else .stuck
def E8{K:Q2}(h:eV K He η Ha σ H ρ)(e1:ρ[i]?=some (.ow (.lst ds)))(e2:σ[i]?=some (some (.ref p)))(e5:H p=some (.lst vs))(e6:Reps K Ha ds vs)
  (rp:Rep K Ha d v)(rj:Rep K Ha j u)(q:bQ K E He η Ha (putAt ρ i ds d j) D'):J0 (.ref p) u v H λH'=>D'.nx σ H':=by
 unfold putAt at q;cases j with
 |int n=>
  cases en:yD ds.length n with
  |none=>simp only[en]at q;exact q.elim
  |some m=>
   simp only[en]at q;refine⟨p,vs,n,m,rfl,ay.mp rj,e5,by rw[←e6.length];exact en,?_⟩;exact q σ _ Ha (aE.refl _) (h.write e1 e2 (e6.set rp m))
 |_=>exact q.elim
section
variable {i:Nat}{x:Ro}{p1 p2:Pos}{k:am}
def Jk(hN:X.N[i]?=some x)(hv:Cn X.env.scope x)(he:DE X E e f)(hk:DE X E b k)
  (hd:(x==("__debug__" : Ro))=false:=by decide)(hcd:(x==("__classdict__" : Ro))=false:=by decide)
  (ha:∀v,assign (.Subscript (.Name x p1) b p2) X.env v=(do
   let ov ←Vl [v] (eval (.Name x p1) X.env)
   let iv ←Vl [v,ov] (eval b X.env)
   standAt p2
   Vl [v,ov,iv] (setItem ov iv v)
   release [v,ov,iv] []):=by intro _;rfl)
  (hs:swapsWithSole [.Subscript (.Name x p1) b p2] e pos.line X.env=pure false:=by rfl) (hw:swappedStores [.Subscript (.Name x p1) b p2] e X.env=pure none:=by rfl)
  (h1:(assignEach [.Subscript (.Name x p1) b p2] X.env).map (·.2)=[assign (.Subscript (.Name x p1) b p2) X.env]:=by rfl) :
  DS X E He η (.Assign [.Subscript (.Name x p1) b p2] e pos) (Bo i f k):=by
 refine⟨?_⟩;refine cB (Fd he.o (La (jf hN hv hd hcd) hk.o Ez ha) hs hw h1) λD σ H z9=>?_;obtain⟨Ha,ρ,h,q⟩:=z9;refine⟨frz He Ha H,iH ρ,h.frz_le,h.looks,?_⟩
 obtain⟨ds,p,vs,e1,e2,e3,e4,e5,e6,q⟩:=rM h q;refine look (k:=λd=>(k (iH ρ)).bind λj=>if kq d=true then putAt ρ i ds d j else .stuck) h q λd v H1 J1 _ g1 r1 q1=>⟨.ref p,e2,?_⟩
 have hJ1:aE Ha J1:=h.frz_sub.trans g1.z;refine⟨J1,iH ρ,g1.sub,h.looks.mono g1.z,?_⟩;cases ek:k (iH ρ) with
 |stuck=>rw[ek]at q1;exact q1|exn x=>rw[ek]at q1;exact λC ox H' Ha' g ex=>q1 C ox H' Ha' (h.frz_grow.trans (g1.trans g)) ex
 |ok j=>
  rw[ek]at q1;intro u H2 J2 g2 r2;replace q1:bQ X.K E He η Ha (if kq d=true then putAt ρ i ds d j else .stuck) D:=q1
  by_cases fl:kq d=true
  .rw[if_pos fl]at q1
   have g:=g1.trans g2;have hJ:aE Ha J2:=h.frz_sub.trans g.z;have z:aE Ha (ku Ha J2):=λb o e=>by unfold ku;rw[e]
   have rd:=(r1.mono g2.z).flat_to (Cj hJ) fl;have rj:Rep X.K (ku Ha J2) j u:=by
    cases j with|int n=>exact ay.mpr (ay.mp r2)| _=>exact q1.elim
   exact E8 (h.behind g) e1 e2 (g.s _ _ e5) (e6.mono z) rd rj (q1.grow z)
  .rw[if_neg fl]at q1;exact q1.elim
end
noncomputable def cm(tg:Ev->D->av Ev) (body:bi):ac->bi
 |[],ρ=>.ok (.nx ρ)
 |d::r,ρ=>(tg ρ d).bind λρ1=>(body ρ1).bind λx=>match x with
  |.nx ρ2=>cm tg body r ρ2
  |.ct ρ2=>cm tg body r ρ2
  |.bk ρ2=>.ok (.nx ρ2)
  |.rt d=>.ok (.rt d)
def tG(K:Q2)(He η:Hp)(tg:Ev->D->av Ev):TG:=λv σ H Q=>∃Ha ρ d,eV K He η Ha σ H ρ/\Rep K Ha d v/\match tg ρ d with
  |.ok ρ'=>∀σ' H' Ha',aE Ha Ha'->eV K He η Ha' σ' H' ρ'->Q σ' H'
  |_=>False
structure DG (X:Cx) (E:XK) (He η:Hp) (target:R1) (tg:Ev->D->av Ev):Prop where
 o:PG X target (tG X.K He η tg)
def bF(i:Nat):Ev->D->av Ev:=λρ d=>.ok (ρ.set i (.sh d))
def wR{t t':TG}(h:PG X tgt t)(w:∀v σ H Q,t' v σ H Q->t v σ H Q):PG X tgt t':=λπ s σ H v u Q I r q=>h π s σ H v u Q I r (w v σ H Q q)
def cj(hN:X.N.Nodup)(hi:X.N[i]?=some x)(hx:DR X.env.scope x)(hf:X.fn x=true∨X.env.scope.names.lookup x=some .local := by first|exact .inl rfl|exact .inr rfl|assumption):DG X E He η (.Name x pos) (bF i) :=
 ⟨wR (BD hN hi hx hf) λv σ H Q ⟨Ha,ρ,d,h,rp,q⟩=>q _ H Ha (aE.refl _) (h.put rp)⟩
def jd(K:Q2)(E:XK)(He η Hb:Hp)(tg:Ev->D->av Ev)(s:bi)(ds:ac)(D':vi)(i:Nat)(σ:L2.St)(H:Hp):Prop :=
 ∃Ha ρ,aE Hb Ha/\eV K He η Ha σ H ρ/\bQ K E He η Ha (cm tg s (ds.drop i) ρ) D'
def jd.step{K:Q2}(h:jd K E He η Hb tg s ds D' i σ H)(hd:ds[i]?=some d)(rv:Rep K Hb d v)
  (he:∀ρ,tg ρ d=.stuck∨∃ρ',tg ρ d=.ok ρ') :
  tG K He η tg v σ H λσ2 H2=>tS K E He η s { D' with nx:=jd K E He η Hb tg s ds D' (i+1),ct:=jd K E He η Hb tg s ds D' (i+1),bk:=D'.nx } σ2 H2:=by
 obtain⟨Ha,ρ,z,h,q⟩:=h;have hi:i<ds.length:=(Q5.mp hd).1;have hdr:ds.drop i=d::ds.drop (i+1):=by
  rw[Sm hi];rw[QW hi]at hd;cases hd;rfl
 rw[hdr]at q;refine⟨Ha,ρ,d,h,rv.mono z,?_⟩;unfold cm at q;rcases he ρ with e1|⟨ρ1,e1⟩
 .rw[e1]at q;exact q.elim
 .rw[e1]at q ⊢
  intro σ' H' Ha' z' h';refine⟨Ha',ρ1,h',?_⟩;replace q:=bQ.grow (r:=(s ρ1).bind λx=>match x with
   |.nx ρ2=>cm tg s (ds.drop (i+1)) ρ2
   |.ct ρ2=>cm tg s (ds.drop (i+1)) ρ2
   |.bk ρ2=>.ok (.nx ρ2)
   |.rt d=>.ok (.rt d)) q z'
  cases e2:s ρ1 with
  |stuck|exn x=>rw[e2]at q;exact q
  |ok r=>
   rw[e2]at q;cases r with|nx ρ2=>exact λσ3 H3 H03 z3 h3=>⟨H03,ρ2,(z.trans z').trans z3,h3,bQ.grow (r:=cm tg s (ds.drop (i+1)) ρ2) q z3⟩|ct ρ2=>exact λσ3 H3 H03 z3 h3=>⟨H03,ρ2,(z.trans z').trans z3,h3,bQ.grow (r:=cm tg s (ds.drop (i+1)) ρ2) q z3⟩|bk ρ2|rt d=>exact q
def jd.done{K:Q2}(h:jd K E He η Hb tg s ds D' ds.length σ H):D'.nx σ H:=by
 obtain⟨Ha,ρ,z,h,q⟩:=h;rw[VJ]at q;unfold cm at q;exact q σ H Ha (aE.refl _) h
def zB(tg:Ev->D->av Ev):Prop:=∀ρ d,tg ρ d=.stuck∨∃ρ',tg ρ d=.ok ρ'
def eI:zB (bF i):=λρ d=>.inr ⟨_,rfl⟩
def kF(f:am)(tg:Ev->D->av Ev)(s:bi):bi:=λρ=>(f ρ).bind λd=>match d with
 |.lst ds=>cm tg s ds ρ
 |_=>.stuck
def mD(hp:PassesOwn (RB X.prog X.w) X.A X.env X.xe)(hc:X.calm=true)(hi:DE X E iter f)(hg:DG X E He η tgt tg)(ht:zB tg)(hb:zL X E He η body s)
  (hs:∀x,foldedSetIterable iter X.env x=pure x:=by intro _;rfl):DS X E He η (.For tgt iter body [] pos) (kF f tg s):=by
 refine⟨?_⟩;refine cB (Ag hp hc (BC hi.o) hg.o hb.o hs) λD' σ H z9=>?_;obtain⟨Ha,ρ,h,q⟩:=z9;refine⟨Ha,ρ,h.g.sub,h.rd,?_⟩
 refine plain h q λd v H1 H01 _ g rp q1=>?_;cases d with
 |lst ds=>
  obtain⟨a,vs,rfl,hv,hr⟩:=aB.mp rp;refine⟨a,rfl,⟨vs,aE.sqL g.sub hv⟩,?_⟩;refine Gm (K:=X.K) (a:=a) (g:=tG X.K He η tg) (tb:=tS X.K E He η s) (D:=D') (xs:=vs) (jd X.K E He η H01 tg s ds D') ⟨H01,ρ,aE.refl _,h.grow g,q1⟩ ?_ ?_ ?_
  .rintro i σ' H' _ ⟨Ha',ρ',z,h',_⟩
   exact aE.sqL (z.trans h'.g.sub) hv
  .intro i x σ' H' hx hI
   have hil:i<ds.length:=by rw[hr.length];exact(Q5.mp hx).1
   obtain⟨u,e1,e2⟩:=hr.get (QW hil);rw[hx]at e1;cases e1;exact hI.step (QW hil) e2 λρ=>ht ρ _
  .intro σ' H' hI
   rw[←hr.length]at hI;exact hI.done
 |_=>exact q1.elim
def intsFrom(lo:Int)(n:Nat):ac:=(R4 n).map λ(k:Nat)=>D.int (lo+(k:Int))
def x9(f:am)(tg:Ev->D->av Ev)(s:bi):bi:=λρ=>(f (iH ρ)).bind λd=>match d with
 |.int j=>if -4611686018427387904<=j/\j<4611686018427387904 then cm tg s (intsFrom 0 j.toNat) ρ else .stuck
 |_=>.stuck
def B3(hp:PassesOwn (RB X.prog X.w) X.A X.env X.xe)(hc:X.calm=true)(hgl:Gl X "range")(hm:X.mg "range"=none)(hi:DE X E iter f)(hg:DG X E He η tgt tg)(ht:zB tg)(hb:zL X E He η body s)
  (hst:Rk [iter] X.env=[(false,eval iter X.env)]:=by exact jx rfl)(hs:∀x,foldedSetIterable (.Call (.Name "range" p) [iter] [] pos2) X.env x=pure x:=by intro _;rfl):DS X E He η (.For tgt (.Call (.Name "range" p) [iter] [] pos2) body [] pos) (x9 f tg s):=by
 refine⟨?_⟩;refine cB (Ag hp hc (vE hgl hm (fM hi.o jR hst) hst) hg.o hb.o hs) λD' σ H ⟨Ha,ρ,h,q⟩=>?_;refine⟨frz He Ha H,iH ρ,h.frz_le,h.looks,look h q λd v H1 J _ g rp q1=>?_⟩;cases d with
 |int j=>
  rw[ay.mp rp];replace q1:bQ X.K E He η Ha (if -4611686018427387904<=j/\j<4611686018427387904 then cm tg s (intsFrom 0 j.toNat) ρ else .stuck) D':=q1
  by_cases hj:-4611686018427387904<=j/\j<4611686018427387904
  .rw[if_pos hj]at q1
   refine⟨j,rfl,by omega,by omega,?_⟩;have hlen:(intsFrom 0 j.toNat).length=j.toNat:=by unfold intsFrom;simp
   refine Di (lo:=0) (n:=j.toNat) (g:=tG X.K He η tg) (tb:=tS X.K E He η s) (D:=D') (jd X.K E He η Ha tg s (intsFrom 0 j.toNat) D') ⟨Ha,ρ,aE.refl _,h.same g.s,q1⟩ ?_ ?_
   .intro i σ' H' hlt hI
    refine hI.step (d:=.int (0+i)) ?_ (ay.mpr rfl) λρ=>ht ρ _;unfold intsFrom;simp[hlt]
   .intro σ' H' hI
    exact jd.done (ds:=intsFrom 0 j.toNat) (by rw[hlen];exact hI)
  .rw[if_neg hj]at q1;exact q1.elim
 |_=>exact q1.elim
noncomputable def ck(c:am) (s:bi):Nat->bi
 |0,_=>.stuck
 |n+1,ρ=>(c (iH ρ)).bind λx=>match x with
  |.bl b=>if b=true then(s ρ).bind λx=>match x with
    |.nx ρ2=>ck c s n ρ2
    |.ct ρ2=>ck c s n ρ2
    |.bk ρ2=>.ok (.nx ρ2)
    |.rt d=>.ok (.rt d)
   else .ok (.nx ρ)
  |_=>.stuck
def gf(fuel:Ev->Nat)(c:am)(s:bi):bi:=λρ=>ck c s (fuel ρ) ρ
def kX(fuel:Ev->Nat)(hp:PassesOwn (RB X.prog X.w) X.A X.env X.xe)(hc:DT X E c fc)(hb:zL X E He η body s):DS X E He η (.While c body [] pos) (gf fuel fc s):=by
 refine⟨?_⟩;refine cB (Fb hp hc.o hb.o) λD' σ H ⟨Ha,ρ,h,q⟩=>?_;refine⟨λm σ H=>∃Ha ρ,eV X.K He η Ha σ H ρ/\bQ X.K E He η Ha (ck fc s m ρ) D',⟨fuel ρ,Ha,ρ,h,q⟩,?_⟩;rintro m σ1 H1 ⟨H01,ρ1,h1,q1⟩;cases m with
 |zero=>exact q1.elim
 |succ m=>
  refine⟨frz He H01 H1,iH ρ1,h1.frz_le,h1.looks,?_⟩;unfold ck at q1;refine J6 (k:=λb=>if b=true then(s ρ1).bind λx=>match x with
    |.nx ρ2=>ck fc s m ρ2
    |.ct ρ2=>ck fc s m ρ2
    |.bk ρ2=>.ok (.nx ρ2)
    |.rt d=>.ok (.rt d)
   else .ok (.nx ρ1)) h1 q1 λb H2 hs q2=>?_
  cases b with
  |false=>
   rw[if_neg RM]at q2 ⊢;exact q2 σ1 H2 H01 (aE.refl _) (h1.same hs)
  |true=>
   rw[if_pos rfl]at q2 ⊢;refine⟨λσ' H'=>∃m',m' < m+1/\∃Ha ρ,eV X.K He η Ha σ' H' ρ/\bQ X.K E He η Ha (ck fc s m' ρ) D',λσ' H' z=>z,H01,ρ1,h1.same hs,?_⟩;cases e2:s ρ1 with
   |stuck|exn x=>rw[e2]at q2;exact q2
   |ok r=>
    rw[e2]at q2;cases r with|nx ρ2=>exact λσ3 H3 H03 z3 h3=>⟨m,TC _,H03,ρ2,h3,bQ.grow (r:=ck fc s m ρ2) q2 z3⟩|ct ρ2=>exact λσ3 H3 H03 z3 h3=>⟨m,TC _,H03,ρ2,h3,bQ.grow (r:=ck fc s m ρ2) q2 z3⟩|bk ρ2|rt d=>exact q2
end
def br(n:Nat)(s:bi)(ds:ac):av D:=(s (ds.map Sl.sh++RC (n-ds.length) .no)).bind λr=>match r with
 |.nx _=>.ok .non
 |.rt d=>.ok d
 |_=>.stuck
def xU{K:Q2}(h:Reps K Ha ds vs):eW K Ha (start N vs) (ds.map Sl.sh++RC (N.length-ds.length) .no):=by
 intro i d e;have hl:=h.length
 by_cases hi:i<ds.length
 .rw[RF (by simpa using hi),Q7]at e
  cases q:ds[i]? with
  |none=>rw[q]at e;cases e
  |some d'=>
   rw[q]at e;cases e;obtain⟨v,h1,h2⟩:=h.get q;refine⟨v,?_,h2⟩;unfold L2.start;rw[RF (by simp;omega),Q7,h1];rfl
 .rw[RN (by simpa using hi),RZ]at e
  split at e<;>cases e
def CB{ds:ac}(i j:Nat)(es:ac):(ds.map Sl.sh++RC n Sl.no)[i]?≠some (.ox j es):=λe=>by
 have:=Rb e;rw[Rv]at this;rcases this with h|h
 .obtain⟨_,_,h⟩:=Rl.mp h;cases h
 .have:=Wg h;cases this
def zY{ds:ac}{σ:L2.St}(i:Nat)(a:Q9)(e:(ds.map Sl.sh++RC n Sl.no)[i]?=some (.pt a)):σ[i]?=some (some (.ref a)):=by
 have:=Rb e;rw[Rv]at this;rcases this with h|h
 .obtain⟨_,_,h⟩:=Rl.mp h;cases h
 .have:=Wg h;cases this
def JO{K:Q2}{st:Tr}{N ps:bv}{k:Nat}(F:D1 K x qual st f fd)(S:gw N ps (defScope st))(len:∀vs H Q E,sp vs H Q E->vs.length=ps.length)
  (hbody:∀(cdv:QY),fd.code=cdv->∀(A:Sv) (outer:List Ts) (s:Rg) (H:Hp) (vs:al) (Q:VK) (E:XK),dz k (A.deeper (envOfC qual (defScope st) s.heap.objs.size f cdv))->sp vs H Q E ->
   ∃t,uP (qo CX0 P w K mg base N qual (defScope st) f cdv A outer s H E).nox (defBody st) t/\t { nx:=λ_ H'=>Q .non H',rt:=Q } (start N vs) H):iY P w K mg base CX0 (k+1) f fd ps sp:=by
 obtain⟨oc,od,kV,doc,pm,an,cdv,ct,osl,rfl,lk,hcd⟩:=F.ex;refine Kb lk hcd S len λA outer s H vs Q E hr hsp=>?_;obtain⟨t,h,q⟩:=hbody cdv rfl A outer s H vs Q E hr hsp;exact⟨t,h.nox,q⟩
def sO{K:Q2}{st:Tr}{N ps:bv}{k:Nat}(F:D1 K x qual st f fd)(S:gw N ps (defScope st))
  (hbody:∀(cdv:QY),fd.code=cdv->∀(A:Sv) (outer:List Ts) (s0:Rg) (H Ha:Hp) (E:XK),dz k (A.deeper (envOfC qual (defScope st) s0.heap.objs.size f cdv)) ->
   zL (qo CX0 P w K mg base N qual (defScope st) f cdv A outer s0 H E).nox E H Ha (defBody st) s):iY P w K mg base CX0 (k+1) f fd ps (spD K ps.length (br N.length s)):=by
 have hpl:ps.length<=N.length:=by have:=congrArg Vk S.pre;rw[Tg]at this;omega
 refine JO F S (λvs H Q E h=>h.1) λcdv hc A outer s0 H vs Q E hr h=>?_;obtain⟨hn,Ha,ds,hs,hv,q⟩:=h;refine⟨_,(hbody cdv hc A outer s0 H Ha E hr).o,Ha,ds.map Sl.sh++RC (N.length-ds.length) .no,?_,?_⟩
 .refine⟨bj.refl hs,xU hv,λi d e=>?_,λi j d d' hij e=>?_,?_,OX.none CB zY⟩
  .by_cases hi:i<ds.length
   .rw[RF (by simpa using hi),Q7]at e
    cases q:ds[i]? with|none|some d'=>rw[q]at e;cases e
   .rw[RN (by simpa using hi),RZ]at e
    split at e<;>cases e
  .by_cases hi:i<ds.length
   .rw[RF (by simpa using hi),Q7]at e
    cases q:ds[i]? with|none|some d'=>rw[q]at e;cases e
   .rw[RN (by simpa using hi),RZ]at e
    split at e<;>cases e
  .unfold L2.start
   have:=hv.length;simp only[RQ,Q0,Tq];omega
 .unfold br at q
  cases e1:s (ds.map Sl.sh++RC (N.length-ds.length) .no) with
  |stuck|exn x=>rw[e1]at q;exact q
  |ok r=>
   rw[e1]at q;cases r with|nx ρ'=>exact λσ' H' Ha' _ h'=>q .non H' Ha' h'.g (aT.mpr rfl)|rt d=>exact λv H' Ha' g rp=>q v H' Ha' g rp|bk ρ'|ct ρ'=>exact q.elim
def Dj{K:Q2}{st:Tr}{N ps:bv}{k:Nat}(F:D1 K x qual st f fd)(S:gw N ps (defScope st))
  (hbody:∀(cdv:QY) (A:Sv) (outer:List Ts) (s0:Rg) (H Ha:Hp) (E:XK),dz k (A.deeper (envOfC qual (defScope st) s0.heap.objs.size f cdv)) ->
   zL (qo CX0 P w K mg base N qual (defScope st) f cdv A outer s0 H E).nox E H Ha (defBody st) s):iY P w K mg base CX0 (k+1) f fd ps (spD K ps.length (br N.length s)):=sO F S λcdv _=>hbody cdv
mutual
def cw:D->D->Bool
 |.non,.non=>true
 |.bl a,.bl b=>a==b
 |.bl a,.int b=>(if a then 1 else 0)==b
 |.int a,.bl b=>a==(if b then 1 else 0)
 |.int a,.int b=>a==b
 |.str a,.str b=>a==b
 |.tup xs,.tup ys=>eqDs xs ys
 |.lst xs,.lst ys=>eqDs xs ys
 |_,_=>false
def eqDs:ac->ac->Bool
 |[],[]=>true
 |x::xs,y::ys=>cw x y&&eqDs xs ys
 |_,_=>false
end
def aR:Nat->D->Bool
 |_,.non=>true
 |_,.bl _=>true
 |_,.int _=>true
 |_,.str _=>true
 |n+1,.tup ds=>ds.all (aR n)
 |n+1,.lst ds=>ds.all (aR n)
 |_,_=>false
def vU(h:∀d∈ds,cw d d=true):eqDs ds ds=true:=by
 induction ds with
 |nil=>simp[eqDs]
 |cons d r ih=>
  unfold eqDs;rw[h d Q3,ih λx hx=>h x (QX _ hx)];rfl
theorem kW:∀(n:Nat) (d:D),aR n d=true->cw d d=true
 |_,.non,_=>by simp[cw]
 |_,.bl b,_=>by simp[cw]
 |_,.int b,_=>by simp[cw]
 |_,.str b,_=>by simp[cw]
 |n+1,.tup ds,h=>by
  unfold aR at h;unfold cw;exact vU λd hd=>kW n d (Ru.mp h d hd)
 |n+1,.lst ds,h=>by
  unfold aR at h;unfold cw;exact vU λd hd=>kW n d (Ru.mp h d hd)
 |0,.tup ds,h=>by unfold aR at h;cases h
 |0,.lst ds,h=>by unfold aR at h;cases h
 |0,.dic ks ds,h=>by unfold aR at h;cases h
 |n+1,.dic ks ds,h=>by unfold aR at h;cases h
 |0,.exc x,h=>by unfold aR at h;cases h
 |0,.ob k x,h=>by unfold aR at h;cases h
 |n+1,.ob k x,h=>by unfold aR at h;cases h
 |n+1,.exc x,h=>by unfold aR at h;cases h
def Jg:cw (.tup xs) (.tup ys)=eqDs xs ys:=by rw[cw]
def B2:cw (.lst xs) (.lst ys)=eqDs xs ys:=by rw[cw]
theorem mC:∀(xs ys:ac),xs.length=ys.length->eqDs xs ys=(R4 xs.length).all λj=>cw (xs.getD j .non) (ys.getD j .non)
 |[],[],_=>by simp[eqDs]
 |x::xs,y::ys,h=>by
  have ih:=mC xs ys (by simpa using h);unfold eqDs;rw[ih,Rt,U9,TU,VG];rfl
 |[],_::_,h=>by simp at h
 |_::_,[],h=>by simp at h
theorem ub:∀(xs ys:ac),xs.length≠ys.length->eqDs xs ys=false
 |[],[],h=>absurd rfl h
 |x::xs,y::ys,h=>by
  unfold eqDs;rw[ub xs ys (by simpa using h),T6]
 |[],_::_,h=>by simp[eqDs]
 |_::_,[],h=>by simp[eqDs]
section
variable {X:Cx}{π:List (Q9×Obj)}{σ:L2.St}{H:Hp}{s:Rg}
def bA(I:Inv X π σ H s)(r:Rep X.K H (.tup ds) v)(rv:bw v u):∃a vs its,v=.ref a/\u=.ref a/\l9 X.K H a vs/\Reps X.K H ds vs/\bg vs its/\IsTup s.heap a its.toArray/\ds.length=its.length:=by
 obtain⟨a,vs,rfl,h1,h2⟩:=aG.mp r;obtain rfl:u=RY a:=rv;obtain⟨its,h3,h4,_⟩:=I.tuple h1;exact⟨a,vs,its,rfl,rfl,h1,h2,h3,h4,h2.length.trans h3.length⟩
def bh(I:Inv X π σ H s)(r:Rep X.K H (.lst ds) v)(rv:bw v u):∃a vs its,v=.ref a/\u=.ref a/\fZ X.K H a vs/\Reps X.K H ds vs/\bg vs its/\s.heap.IsList a its.toArray/\ds.length=its.length:=by
 obtain⟨a,vs,rfl,h1,h2⟩:=aB.mp r;obtain rfl:u=RY a:=rv;obtain⟨its,h3,h4,_⟩:=I.list h1;exact⟨a,vs,its,rfl,rfl,h1,h2,h3,h4.isList,h2.length.trans h3.length⟩
theorem rz{n:Nat}(ih:∀(d d':D) (v:V),aR n d=true->aR n d'=true->Rep X.K H d v->Rep X.K H d' v->d=d'):∀(ds ds':ac) (vs:al),ds.all (aR n)=true->ds'.all (aR n)=true->Reps X.K H ds vs->Reps X.K H ds' vs->ds=ds'
 |[],ds',vs,_,_,h,h'=>by
  rw[Reps.nil_iff.mp h]at h';cases ds' with|nil=>rfl|cons d r=>obtain⟨_,_,e,_⟩:=az.mp h';cases e
 |d::ds,ds',vs,a,a',h,h'=>by
  obtain⟨v,r,rfl,h1,h2⟩:=az.mp h;cases ds' with
  |nil=>cases Reps.nil_iff.mp h'
  |cons d' ds'=>
   obtain⟨v',r',e,h1',h2'⟩:=az.mp h';cases e;rw[TU,Rn]at a a';rw[ih d d' v a.1 a'.1 h1 h1',rz ih ds ds' r a.2 a'.2 h2 h2']
def Rep.inj(I:Inv X π σ H s):∀(n:Nat) (d d':D) (v:V),aR n d=true->aR n d'=true->Rep X.K H d v->Rep X.K H d' v->d=d':=by
 have atom:∀(n:Nat) (d d':D) (v:V),(∀ds,d≠.tup ds)->(∀ds,d≠.lst ds)->aR n d=true->aR n d'=true->Rep X.K H d v->Rep X.K H d' v->d=d':=by
  intro n d d' v n1 n2 s1 s2 h h';have nd:∀m ks ds,aR m (.dic ks ds)=true->False:=λm ks ds h=>by cases m<;>(unfold aR at h;cases h)
  have nx:∀m x,aR m (.exc x)=true->False:=λm x h=>by cases m<;>(unfold aR at h;cases h)
  have nb:∀m k x,aR m (.ob k x)=true->False:=λm k x h=>by cases m<;>(unfold aR at h;cases h)
  cases d with
  |tup ds=>exact absurd rfl (n1 ds)|lst ds=>exact absurd rfl (n2 ds)|dic ks ds=>exact(nd _ _ _ s1).elim|exc x=>exact(nx _ _ s1).elim|ob k x=>exact(nb _ _ _ s1).elim
  |non=>
   rw[aT.mp h]at h';cases d' with|non=>rfl|bl b=>cases aH.mp h'|int b=>cases ay.mp h'|str b=>cases Rep.str_iff.mp h'|tup ds=>obtain⟨_,_,e,_⟩:=aG.mp h';cases e|lst ds=>obtain⟨_,_,e,_⟩:=aB.mp h';cases e|dic ks ds=>exact(nd _ _ _ s2).elim|exc x=>exact(nx _ _ s2).elim|ob k x=>exact(nb _ _ _ s2).elim
  |bl x=>
   rw[aH.mp h]at h';cases d' with|non=>cases aT.mp h'|bl b=>cases aH.mp h';rfl|int b=>cases ay.mp h'|str b=>cases Rep.str_iff.mp h'|tup ds=>obtain⟨_,_,e,_⟩:=aG.mp h';cases e|lst ds=>obtain⟨_,_,e,_⟩:=aB.mp h';cases e|dic ks ds=>exact(nd _ _ _ s2).elim|exc x=>exact(nx _ _ s2).elim|ob k x=>exact(nb _ _ _ s2).elim
  |int x=>
   rw[ay.mp h]at h';cases d' with|non=>cases aT.mp h'|bl b=>cases aH.mp h'|int b=>cases ay.mp h';rfl|str b=>cases Rep.str_iff.mp h'|tup ds=>obtain⟨_,_,e,_⟩:=aG.mp h';cases e|lst ds=>obtain⟨_,_,e,_⟩:=aB.mp h';cases e|dic ks ds=>exact(nd _ _ _ s2).elim|exc x=>exact(nx _ _ s2).elim|ob k x=>exact(nb _ _ _ s2).elim
  |str x=>
   rw[Rep.str_iff.mp h]at h';cases d' with|non=>cases aT.mp h'|bl b=>cases aH.mp h'|int b=>cases ay.mp h'|str b=>cases Rep.str_iff.mp h';rfl|tup ds=>obtain⟨_,_,e,_⟩:=aG.mp h';cases e|lst ds=>obtain⟨_,_,e,_⟩:=aB.mp h';cases e|dic ks ds=>exact(nd _ _ _ s2).elim|exc x=>exact(nx _ _ s2).elim|ob k x=>exact(nb _ _ _ s2).elim
 intro n
 induction n with
 |zero=>
  intro d d' v s1 s2 h h';exact atom 0 d d' v (λds e=>by subst e;unfold aR at s1;cases s1) (λds e=>by subst e;unfold aR at s1;cases s1) s1 s2 h h'
 |succ n ih=>
  intro d d' v s1 s2 h h'
  by_cases t1:∃ds,d=.tup ds
  .obtain⟨ds,rfl⟩:=t1
   by_cases t2:∃ds',d'=.tup ds'
   .obtain⟨ds',rfl⟩:=t2
    obtain⟨a,vs,rfl,h1,h2⟩:=aG.mp h;obtain⟨a',vs',e,h1',h2'⟩:=aG.mp h';cases e;rw[I.tuple_inj h1' h1]at h2';unfold aR at s1 s2;rw[rz ih ds ds' vs s1 s2 h2 h2']
   .by_cases t3:∃ds',d'=.lst ds'
    .obtain⟨ds',rfl⟩:=t3
     obtain⟨a0,_,ev,_,_⟩:=aG.mp h;subst ev;obtain⟨a,vs,its,ea,_,h1,h2,h3,h4,_⟩:=bA I h rfl;cases ea;obtain⟨a',vs',its',e,_,h1',h2',h3',h4',_⟩:=bh I h' rfl;cases e;exact absurd rfl (Wm h4' h4)
    .exact(atom (n+1) d' _ v (λds e=>t2 ⟨ds,e⟩) (λds e=>t3 ⟨ds,e⟩) s2 s1 h' h).symm
  .by_cases t1':∃ds,d=.lst ds
   .obtain⟨ds,rfl⟩:=t1'
    by_cases t2:∃ds',d'=.lst ds'
    .obtain⟨ds',rfl⟩:=t2
     obtain⟨a,vs,rfl,h1,h2⟩:=aB.mp h;obtain⟨a',vs',e,h1',h2'⟩:=aB.mp h';cases e;rw[I.list_inj h1' h1]at h2';unfold aR at s1 s2;rw[rz ih ds ds' vs s1 s2 h2 h2']
    .by_cases t3:∃ds',d'=.tup ds'
     .obtain⟨ds',rfl⟩:=t3
      obtain⟨a0,_,ev,_,_⟩:=aB.mp h;subst ev;obtain⟨a,vs,its,ea,_,h1,h2,h3,h4,_⟩:=bh I h rfl;cases ea;obtain⟨a',vs',its',e,_,h1',h2',h3',h4',_⟩:=bA I h' rfl;cases e;exact absurd rfl (Wm h4 h4')
     .exact(atom (n+1) d' _ v (λds e=>t3 ⟨ds,e⟩) (λds e=>t2 ⟨ds,e⟩) s2 s1 h' h).symm
   .exact atom (n+1) d d' v (λds e=>t1 ⟨ds,e⟩) (λds e=>t1' ⟨ds,e⟩) s1 s2 h h'
def yE{A:Sv} 
  (ih:∀(x y:D) (v u:V) (a b:QY),aR n x=true->aR n y=true->Rep X.K H x v->Rep X.K H y u->bw v a->bw u b->Rz A.in1 s a b (cw x y))
  (sx:xs.all (aR n)=true)(sy:ys.all (aR n)=true)(rx:Reps X.K H xs vs)(ry:Reps X.K H ys us)(qx:bg vs is)(qy:bg us js) :
  ∀j (h1:j<is.toArray.size) (h2:j<js.toArray.size),Rz A.in1 s is.toArray[j] js.toArray[j] (cw (xs.getD j .non) (ys.getD j .non)):=by
 intro j h1 h2;have lx:=rx.length;have ly:=ry.length;have kx:=qx.length;have ky:=qy.length;have h1':j<is.length:=by simpa using h1
 have h2':j<js.length:=by simpa using h2
 have hx:j<xs.length:=by omega
 have hy:j<ys.length:=by omega
 obtain⟨v,e1,r1⟩:=rx.get (QW hx);obtain⟨u,e2,r2⟩:=ry.get (QW hy);obtain⟨a,e3,r3⟩:=qx.get e1;obtain⟨b,e4,r4⟩:=qy.get e2;have ea:is.toArray[j]=a:=by
  rw[QW h1']at e3;simpa using Sf e3
 have eb:js.toArray[j]=b:=by
  rw[QW h2']at e4;simpa using Sf e4
 rw[ea,eb];have gx:xs.getD j .non=xs[j]:=by simp[List.getD,QW hx]
 have gy:ys.getD j .non=ys[j]:=by simp[List.getD,QW hy]
 rw[gx,gy];exact ih _ _ v u a b (Ru.mp sx _ (Sq hx)) (Ru.mp sy _ (Sq hy)) r1 r2 r3 r4
def yb(I:Inv X π σ H s)(hu:A.units<TY)(rx:Rep X.K H x v)(ry:Rep X.K H y u)(qx:bw v a)(qy:bw u b)
  (n1:∀ds ds',¬(x=.lst ds/\y=.lst ds'))(n2:∀ds ds',¬(x=.tup ds/\y=.tup ds'))(d1:∀ks ds,x≠.dic ks ds)(d2:∀ks ds,y≠.dic ks ds)(x1:∀c,x≠.exc c)(x2:∀c,y≠.exc c)(o1:∀k c,x≠.ob k c)(o2:∀k c,y≠.ob k c) :
  RJ A s a b (cw x y)/\Rz A s a b (cw x y)/\Rx A s a b (!(cw x y)):=by
 cases x with
 |non=>
  cases y with
  |non=>
   obtain rfl:=aT.mp rx;obtain rfl:a=SO:=qx;obtain rfl:=aT.mp ry;obtain rfl:b=SO:=qy;unfold cw;exact⟨RJ.none_none ,VS _,Rx.none_none ⟩
  |bl y=>
   obtain rfl:=aT.mp rx;obtain rfl:a=SO:=qx;obtain rfl:=aH.mp ry;obtain rfl:b=SG _:=qy;unfold cw;exact⟨RJ.none_bool _,Rz.none_bool _,Rx.none_bool _⟩
  |int y=>
   obtain rfl:=aT.mp rx;obtain rfl:a=SO:=qx;obtain rfl:=ay.mp ry;obtain⟨ty,rfl⟩:∃t,b=S2 _ t:=qy;unfold cw;exact⟨RJ.none_int _ _,Rz.none_int _ _,Rx.none_int _ _⟩
  |str y=>
   obtain rfl:=aT.mp rx;obtain rfl:a=SO:=qx;obtain rfl:=Rep.str_iff.mp ry;obtain⟨ty,rfl⟩:∃t,b=S1 _ t:=qy;unfold cw;exact⟨RJ.none_str _ _,Rz.none_str _ _,Rx.none_str _ _⟩
  |lst y=>
   obtain rfl:=aT.mp rx;obtain rfl:a=SO:=qx;obtain⟨ly,_,_,rfl,rfl,_,_,_,hy,_⟩:=bh I ry qy;unfold cw;exact⟨RJ.none_list  hy hu,Rz.none_list  hy hu,Rx.none_list  hy hu⟩
  |tup y=>
   obtain rfl:=aT.mp rx;obtain rfl:a=SO:=qx;obtain⟨ly,_,_,rfl,rfl,_,_,_,hy,_⟩:=bA I ry qy;unfold cw;exact⟨RJ.none_tuple  hy hu,Rz.none_tuple  hy hu,Rx.none_tuple  hy hu⟩
  |dic ks ds=>exact absurd rfl (d2 ks ds)|exc c=>exact absurd rfl (x2 c)|ob k c=>exact absurd rfl (o2 k c)
 |bl x=>
  cases y with
  |non=>
   obtain rfl:=aH.mp rx;obtain rfl:a=SG _:=qx;obtain rfl:=aT.mp ry;obtain rfl:b=SO:=qy;unfold cw;exact⟨RJ.bool_none _,Rz.bool_none _,Rx.bool_none _⟩
  |bl y=>
   obtain rfl:=aH.mp rx;obtain rfl:a=SG _:=qx;obtain rfl:=aH.mp ry;obtain rfl:b=SG _:=qy;unfold cw;exact⟨RJ.bool_bool _ _,Rz.bool_bool _ _,Rx.bool_bool _ _⟩
  |int y=>
   obtain rfl:=aH.mp rx;obtain rfl:a=SG _:=qx;obtain rfl:=ay.mp ry;obtain⟨ty,rfl⟩:∃t,b=S2 _ t:=qy;unfold cw;exact⟨RJ.bool_int _ _ _,Rz.bool_int _ _ _,Rx.bool_int _ _ _⟩
  |str y=>
   obtain rfl:=aH.mp rx;obtain rfl:a=SG _:=qx;obtain rfl:=Rep.str_iff.mp ry;obtain⟨ty,rfl⟩:∃t,b=S1 _ t:=qy;unfold cw;exact⟨RJ.bool_str _ _ _,Rz.bool_str _ _ _,Rx.bool_str _ _ _⟩
  |lst y=>
   obtain rfl:=aH.mp rx;obtain rfl:a=SG _:=qx;obtain⟨ly,_,_,rfl,rfl,_,_,_,hy,_⟩:=bh I ry qy;unfold cw;exact⟨RJ.bool_list _ hy hu,Rz.bool_list _ hy hu,Rx.bool_list _ hy hu⟩
  |tup y=>
   obtain rfl:=aH.mp rx;obtain rfl:a=SG _:=qx;obtain⟨ly,_,_,rfl,rfl,_,_,_,hy,_⟩:=bA I ry qy;unfold cw;exact⟨RJ.bool_tuple _ hy hu,Rz.bool_tuple _ hy hu,Rx.bool_tuple _ hy hu⟩
  |dic ks ds=>exact absurd rfl (d2 ks ds)|exc c=>exact absurd rfl (x2 c)|ob k c=>exact absurd rfl (o2 k c)
 |int x=>
  cases y with
  |non=>
   obtain rfl:=ay.mp rx;obtain⟨tx,rfl⟩:∃t,a=S2 _ t:=qx;obtain rfl:=aT.mp ry;obtain rfl:b=SO:=qy;unfold cw;exact⟨RJ.int_none _ _,Rz.int_none _ _,Rx.int_none _ _⟩
  |bl y=>
   obtain rfl:=ay.mp rx;obtain⟨tx,rfl⟩:∃t,a=S2 _ t:=qx;obtain rfl:=aH.mp ry;obtain rfl:b=SG _:=qy;unfold cw;exact⟨RJ.int_bool _ _ _,Rz.int_bool _ _ _,Rx.int_bool _ _ _⟩
  |int y=>
   obtain rfl:=ay.mp rx;obtain⟨tx,rfl⟩:∃t,a=S2 _ t:=qx;obtain rfl:=ay.mp ry;obtain⟨ty,rfl⟩:∃t,b=S2 _ t:=qy;unfold cw;exact⟨RJ.int_int _ _ _ _,Rz.int_int _ _ _ _,Rx.int_int _ _ _ _⟩
  |str y=>
   obtain rfl:=ay.mp rx;obtain⟨tx,rfl⟩:∃t,a=S2 _ t:=qx;obtain rfl:=Rep.str_iff.mp ry;obtain⟨ty,rfl⟩:∃t,b=S1 _ t:=qy;unfold cw;exact⟨RJ.int_str _ _ _ _,Rz.int_str _ _ _ _,Rx.int_str _ _ _ _⟩
  |lst y=>
   obtain rfl:=ay.mp rx;obtain⟨tx,rfl⟩:∃t,a=S2 _ t:=qx;obtain⟨ly,_,_,rfl,rfl,_,_,_,hy,_⟩:=bh I ry qy;unfold cw;exact⟨RJ.int_list _ _ hy hu,Rz.int_list _ _ hy hu,Rx.int_list _ _ hy hu⟩
  |tup y=>
   obtain rfl:=ay.mp rx;obtain⟨tx,rfl⟩:∃t,a=S2 _ t:=qx;obtain⟨ly,_,_,rfl,rfl,_,_,_,hy,_⟩:=bA I ry qy;unfold cw;exact⟨RJ.int_tuple _ _ hy hu,Rz.int_tuple _ _ hy hu,Rx.int_tuple _ _ hy hu⟩
  |dic ks ds=>exact absurd rfl (d2 ks ds)|exc c=>exact absurd rfl (x2 c)|ob k c=>exact absurd rfl (o2 k c)
 |str x=>
  cases y with
  |non=>
   obtain rfl:=Rep.str_iff.mp rx;obtain⟨tx,rfl⟩:∃t,a=S1 _ t:=qx;obtain rfl:=aT.mp ry;obtain rfl:b=SO:=qy;unfold cw;exact⟨RJ.str_none _ _,Rz.str_none _ _,Rx.str_none _ _⟩
  |bl y=>
   obtain rfl:=Rep.str_iff.mp rx;obtain⟨tx,rfl⟩:∃t,a=S1 _ t:=qx;obtain rfl:=aH.mp ry;obtain rfl:b=SG _:=qy;unfold cw;exact⟨RJ.str_bool _ _ _,Rz.str_bool _ _ _,Rx.str_bool _ _ _⟩
  |int y=>
   obtain rfl:=Rep.str_iff.mp rx;obtain⟨tx,rfl⟩:∃t,a=S1 _ t:=qx;obtain rfl:=ay.mp ry;obtain⟨ty,rfl⟩:∃t,b=S2 _ t:=qy;unfold cw;exact⟨RJ.str_int _ _ _ _,Rz.str_int _ _ _ _,Rx.str_int _ _ _ _⟩
  |str y=>
   obtain rfl:=Rep.str_iff.mp rx;obtain⟨tx,rfl⟩:∃t,a=S1 _ t:=qx;obtain rfl:=Rep.str_iff.mp ry;obtain⟨ty,rfl⟩:∃t,b=S1 _ t:=qy;unfold cw;exact⟨RJ.str_str _ _ _ _,Rz.str_str _ _ _ _,Rx.str_str _ _ _ _⟩
  |lst y=>
   obtain rfl:=Rep.str_iff.mp rx;obtain⟨tx,rfl⟩:∃t,a=S1 _ t:=qx;obtain⟨ly,_,_,rfl,rfl,_,_,_,hy,_⟩:=bh I ry qy;unfold cw;exact⟨RJ.str_list _ _ hy hu,Rz.str_list _ _ hy hu,Rx.str_list _ _ hy hu⟩
  |tup y=>
   obtain rfl:=Rep.str_iff.mp rx;obtain⟨tx,rfl⟩:∃t,a=S1 _ t:=qx;obtain⟨ly,_,_,rfl,rfl,_,_,_,hy,_⟩:=bA I ry qy;unfold cw;exact⟨RJ.str_tuple _ _ hy hu,Rz.str_tuple _ _ hy hu,Rx.str_tuple _ _ hy hu⟩
  |dic ks ds=>exact absurd rfl (d2 ks ds)|exc c=>exact absurd rfl (x2 c)|ob k c=>exact absurd rfl (o2 k c)
 |lst x=>
  cases y with
  |non=>
   obtain⟨lx,_,_,rfl,rfl,_,_,_,hx,_⟩:=bh I rx qx;obtain rfl:=aT.mp ry;obtain rfl:b=SO:=qy;unfold cw;exact⟨RJ.list_none  hx hu,Rz.list_none  hx hu,Rx.list_none  hx hu⟩
  |bl y=>
   obtain⟨lx,_,_,rfl,rfl,_,_,_,hx,_⟩:=bh I rx qx;obtain rfl:=aH.mp ry;obtain rfl:b=SG _:=qy;unfold cw;exact⟨RJ.list_bool _ hx hu,Rz.list_bool _ hx hu,Rx.list_bool _ hx hu⟩
  |int y=>
   obtain⟨lx,_,_,rfl,rfl,_,_,_,hx,_⟩:=bh I rx qx;obtain rfl:=ay.mp ry;obtain⟨ty,rfl⟩:∃t,b=S2 _ t:=qy;unfold cw;exact⟨RJ.list_int _ _ hx hu,Rz.list_int _ _ hx hu,Rx.list_int _ _ hx hu⟩
  |str y=>
   obtain⟨lx,_,_,rfl,rfl,_,_,_,hx,_⟩:=bh I rx qx;obtain rfl:=Rep.str_iff.mp ry;obtain⟨ty,rfl⟩:∃t,b=S1 _ t:=qy;unfold cw;exact⟨RJ.list_str _ _ hx hu,Rz.list_str _ _ hx hu,Rx.list_str _ _ hx hu⟩
  |lst y=>
   exact absurd ⟨rfl,rfl⟩ (n1 x y)
  |tup y=>
   obtain⟨lx,_,_,rfl,rfl,_,_,_,hx,_⟩:=bh I rx qx;obtain⟨ly,_,_,rfl,rfl,_,_,_,hy,_⟩:=bA I ry qy;unfold cw;exact⟨RJ.list_tuple  hx hy hu,Rz.list_tuple  hx hy hu,Rx.list_tuple  hx hy hu⟩
  |dic ks ds=>exact absurd rfl (d2 ks ds)|exc c=>exact absurd rfl (x2 c)|ob k c=>exact absurd rfl (o2 k c)
 |tup x=>
  cases y with
  |non=>
   obtain⟨lx,_,_,rfl,rfl,_,_,_,hx,_⟩:=bA I rx qx;obtain rfl:=aT.mp ry;obtain rfl:b=SO:=qy;unfold cw;exact⟨RJ.tuple_none  hx hu,Rz.tuple_none  hx hu,Rx.tuple_none  hx hu⟩
  |bl y=>
   obtain⟨lx,_,_,rfl,rfl,_,_,_,hx,_⟩:=bA I rx qx;obtain rfl:=aH.mp ry;obtain rfl:b=SG _:=qy;unfold cw;exact⟨RJ.tuple_bool _ hx hu,Rz.tuple_bool _ hx hu,Rx.tuple_bool _ hx hu⟩
  |int y=>
   obtain⟨lx,_,_,rfl,rfl,_,_,_,hx,_⟩:=bA I rx qx;obtain rfl:=ay.mp ry;obtain⟨ty,rfl⟩:∃t,b=S2 _ t:=qy;unfold cw;exact⟨RJ.tuple_int _ _ hx hu,Rz.tuple_int _ _ hx hu,Rx.tuple_int _ _ hx hu⟩
  |str y=>
   obtain⟨lx,_,_,rfl,rfl,_,_,_,hx,_⟩:=bA I rx qx;obtain rfl:=Rep.str_iff.mp ry;obtain⟨ty,rfl⟩:∃t,b=S1 _ t:=qy;unfold cw;exact⟨RJ.tuple_str _ _ hx hu,Rz.tuple_str _ _ hx hu,Rx.tuple_str _ _ hx hu⟩
  |lst y=>
   obtain⟨lx,_,_,rfl,rfl,_,_,_,hx,_⟩:=bA I rx qx;obtain⟨ly,_,_,rfl,rfl,_,_,_,hy,_⟩:=bh I ry qy;unfold cw;exact⟨RJ.tuple_list  hx hy hu,Rz.tuple_list  hx hy hu,Rx.tuple_list  hx hy hu⟩
  |tup y=>
   exact absurd ⟨rfl,rfl⟩ (n2 x y)
  |dic ks ds=>exact absurd rfl (d2 ks ds)|exc c=>exact absurd rfl (x2 c)|ob k c=>exact absurd rfl (o2 k c)
 |dic ks ds=>exact absurd rfl (d1 ks ds)
 |exc c=>exact absurd rfl (x1 c)
 |ob k c=>exact absurd rfl (o1 k c)
def KY(I:Inv X π σ H s):∀(n:Nat) (A:Sv),A.units+n<TY->∀(x y:D) (v u:V) (a b:QY),aR n x=true->aR n y=true->Rep X.K H x v->Rep X.K H y u->bw v a->bw u b ->
  RJ A s a b (cw x y)/\Rz A s a b (cw x y)/\Rx A s a b (!(cw x y)):=by
 have nd:∀m ks ds,aR m (.dic ks ds)=true->False:=λm ks ds h=>by cases m<;>(unfold aR at h;cases h)
 have nx:∀m x,aR m (.exc x)=true->False:=λm x h=>by cases m<;>(unfold aR at h;cases h)
 have nb:∀m k x,aR m (.ob k x)=true->False:=λm k x h=>by cases m<;>(unfold aR at h;cases h)
 intro n
 induction n with
 |zero=>
  intro A hu x y v u a b sx sy rx ry qa qb;refine yb I (by omega) rx ry qa qb (λds ds' z=>?_) (λds ds' z=>?_) (λks ds z=>?_) (λks ds z=>?_) (λc z=>nx _ _ (z▸sx)) (λc z=>nx _ _ (z▸sy)) (λk c z=>nb _ _ _ (z▸sx)) (λk c z=>nb _ _ _ (z▸sy))
  .rw[z.1]at sx;unfold aR at sx;cases sx
  .rw[z.1]at sx;unfold aR at sx;cases sx
  .rw[z]at sx;exact nd _ _ _ sx
  .rw[z]at sy;exact nd _ _ _ sy
 |succ n ih=>
  intro A hu x y v u a b sx sy rx ry qa qb;have ih':∀(x y:D) (v u:V) (a b:QY),aR n x=true->aR n y=true->Rep X.K H x v->Rep X.K H y u->bw v a->bw u b->Rz A.in1 s a b (cw x y) :=
   λx y v u a b s1 s2 r1 r2 q1 q2=>(ih A.in1 (by show A.units+1+n<TY;omega) x y v u a b s1 s2 r1 r2 q1 q2).2.1
  by_cases t1:∃ds ds',x=.tup ds/\y=.tup ds'
  .obtain⟨xs,ys,rfl,rfl⟩:=t1
   obtain⟨l,vs,is,rfl,rfl,h1,h2,h3,h4,h5⟩:=bA I rx qa;obtain⟨m,us,js,rfl,rfl,k1,k2,k3,k4,k5⟩:=bA I ry qb;have hsx:=sx;have hsy:=sy;unfold aR at sx sy;have each:=yE (A:=A) ih' sx sy h2 k2 h3 k3;have eall:cw (.tup xs) (.tup ys)=((R4 (min is.toArray.size js.toArray.size)).all (λj=>cw (xs.getD j .non) (ys.getD j .non))&&is.toArray.size==js.toArray.size):=by
    rw[Jg];simp only[Rq,←h5,←k5]
    by_cases hl:xs.length=ys.length
    .rw[mC xs ys hl,←hl,Nat.min_self,beq_self_eq_true,Vq]
    .rw[ub xs ys hl,beq_eq_false_iff_ne.mpr hl,T6]
   refine⟨?_,?_,?_⟩
   .rw[eall];exact RJ.tuples h4 k4 (by omega) each
   .by_cases hlm:l=m
    .subst hlm
     rw[Rep.inj I (n+1) _ _ _ hsx hsy rx ry,kW (n+1) _ hsy];exact VS _
    .refine Vs hlm ?_
     rw[eall];exact RJ.tuples h4 k4 (by omega) each
   .rw[eall];exact Rx.tuples h4 k4 (by omega) each
  .by_cases t2:∃ds ds',x=.lst ds/\y=.lst ds'
   .obtain⟨xs,ys,rfl,rfl⟩:=t2
    obtain⟨l,vs,is,rfl,rfl,h1,h2,h3,h4,h5⟩:=bh I rx qa;obtain⟨m,us,js,rfl,rfl,k1,k2,k3,k4,k5⟩:=bh I ry qb;have hsx:=sx;have hsy:=sy;unfold aR at sx sy;have each:=yE (A:=A) ih' sx sy h2 k2 h3 k3
    by_cases hl:xs.length=ys.length
    .have hsz:is.toArray.size=js.toArray.size:=by simp only[Rq];omega
     have eall:cw (.lst xs) (.lst ys)=(R4 is.toArray.size).all (λj=>cw (xs.getD j .non) (ys.getD j .non)):=by
      rw[B2];simp only[Rq,←h5];exact mC xs ys hl
     refine⟨?_,?_,?_⟩
     .rw[eall];exact RJ.lists h4 k4 hsz (by omega) each
     .by_cases hlm:l=m
      .subst hlm
       rw[Rep.inj I (n+1) _ _ _ hsx hsy rx ry,kW (n+1) _ hsy];exact VS _
      .refine Vs hlm ?_
       rw[eall];exact RJ.lists h4 k4 hsz (by omega) each
     .rw[eall];exact Rx.lists h4 k4 hsz (by omega) each
    .have hsz:(is.toArray.size != js.toArray.size)=true:=by simp only[Rq,bne_iff_ne,ne_eq];omega
     have eall:cw (.lst xs) (.lst ys)=false:=by rw[B2];exact ub xs ys hl
     rw[eall];refine⟨Wb h4 k4 hsz (by omega),?_,Rx.lists_lengths h4 k4 hsz (by omega)⟩;refine Vs (λe=>?_) (Wb h4 k4 hsz (by omega));subst e;have:=Rep.inj I (n+1) _ _ _ hsx hsy rx ry;cases this;exact hl rfl
   .exact yb I (by omega) rx ry qa qb (λds ds' z=>t2 ⟨ds,ds',z⟩) (λds ds' z=>t1 ⟨ds,ds',z⟩) (λks ds z=>by rw[z]at sx;exact nd _ _ _ sx) (λks ds z=>by rw[z]at sy;exact nd _ _ _ sy) (λc z=>nx _ _ (z▸sx)) (λc z=>nx _ _ (z▸sy)) (λk c z=>nb _ _ _ (z▸sx)) (λk c z=>nb _ _ _ (z▸sy))
end
section
variable {X:Cx}{E:XK}
def fJ(x y:D):av D:=if aR 40 x=true/\aR 40 y=true then .ok (.bl (cw x y)) else .stuck
def gO(x y:D):av D:=if aR 40 x=true/\aR 40 y=true then .ok (.bl (!(cw x y))) else .stuck
def Nw(K:Q2):R2:=λv u H Q=>∃x y,Rep K H x v/\Rep K H y u/\aR 40 x=true/\aR 40 y=true/\Q (.bl (cw x y)) H
def Nq(K:Q2):R2:=λv u H Q=>∃x y,Rep K H x v/\Rep K H y u/\aR 40 x=true/\aR 40 y=true/\Q (.bl (!(cw x y))) H
def dh(hu:X.A.units+64<TY):gu X (R5 .Eq) (Nw X.K):=by
 intro π s σ H x y v u Q I rx ry h;obtain⟨d,d',h1,h2,s1,s2,q⟩:=h;exact(KY I 40 X.A (by omega) d d' x y v u s1 s2 h1 h2 rx ry).1 _ _ _ _ ⟨.bl _,H,I,rfl,q⟩
def eX(hu:X.A.units+64<TY):gu X (R5 .NotEq) (Nq X.K):=by
 intro π s σ H x y v u Q I rx ry h;obtain⟨d,d',h1,h2,s1,s2,q⟩:=h;exact(KY I 40 X.A (by omega) d d' x y v u s1 s2 h1 h2 rx ry).2.2 _ _ _ _ ⟨.bl _,H,I,rfl,q⟩
def fA:zD X.K E (Nw X.K) fJ:=by
 intro x y v u H Ha Q hs r1 r2 q;unfold fJ at q
 by_cases c:aR 40 x=true/\aR 40 y=true
 .rw[if_pos c]at q
  exact⟨x,y,r1.mono hs,r2.mono hs,c.1,c.2,q _ H Ha (bj.refl hs) (aH.mpr rfl)⟩
 .rw[if_neg c]at q;exact q.elim
def gX:zD X.K E (Nq X.K) gO:=by
 intro x y v u H Ha Q hs r1 r2 q;unfold gO at q
 by_cases c:aR 40 x=true/\aR 40 y=true
 .rw[if_pos c]at q
  exact⟨x,y,r1.mono hs,r2.mono hs,c.1,c.2,q _ H Ha (bj.refl hs) (aH.mpr rfl)⟩
 .rw[if_neg c]at q;exact q.elim
open Classical in
noncomputable def lY(K:Q2) (H:Hp) (ds:ac) (x:D) (u:QY):Bool :=
 if h:∃d,d∈ds/\∃v,Rep K H d v/\bw v u then cw h.choose x else false
def B1(I:Inv X π σ H s)(sd:ds.all (aR 40)=true)(hd:d∈ds)(r:Rep X.K H d v)(q:bw v u):lY X.K H ds x u=cw d x:=by
 have h:∃d,d∈ds/\∃v,Rep X.K H d v/\bw v u:=⟨d,hd,v,r,q⟩
 unfold lY;rw[dif_pos h];obtain⟨h1,v',h2,h3⟩:=h.choose_spec;have e:v'=v:=h3.inj q;subst e;rw[Rep.inj I 40 _ _ _ (Ru.mp sd _ h1) (Ru.mp sd _ hd) h2 r]
def Ad(K:Q2)(neg:Bool):R2:=λv u H Q=>∃x ds,Rep K H x v/\(Rep K H (.lst ds) u∨Rep K H (.tup ds) u)/\aR 40 x=true/\ds.all (aR 40)=true/\Q (.bl (if neg then !(ds.any λd=>cw d x) else ds.any λd=>cw d x)) H
theorem lr{π:List (Q9×Obj)}{σ:L2.St}{H:Hp}{s:Rg}(I:Inv X π σ H s){x:D}{es:ac}(se:es.all (aR 40)=true):∀{ds:ac}{vs:al}{us:List QY},(∀d∈ds,d∈es)->Reps X.K H ds vs->bg vs us->us.any (lY X.K H es x)=ds.any λd=>cw d x
 |[],_,_,_,h,q=>by
  rw[Reps.nil_iff.mp h]at q;cases q;rfl
 |d::ds,_,_,hm,h,q=>by
  obtain⟨v,r,rfl,h1,h2⟩:=az.mp h;cases q with
  |cons q1 q2=>
   rw[Tf,Tf,B1 I se (hm d Q3) h1 q1,lr I se (λx hx=>hm x (QX _ hx)) h2 q2]
theorem jE{π:List (Q9×Obj)}{σ:L2.St}{H:Hp}{s:Rg}(I:Inv X π σ H s)(hu:X.A.units+64<TY){x:D}{v:V}{u:QY}(sx:aR 40 x=true)(rx:Rep X.K H x v)(qx:bw v u){es:ac}(se:es.all (aR 40)=true):∀{ds:ac}{vs:al}{us:List QY},(∀d∈ds,d∈es)->Reps X.K H ds vs->bg vs us->∀y∈us,Rz X.A.in1 s y u (lY X.K H es x y)
 |[],_,_,_,h,q=>λy hy=>by
  rw[Reps.nil_iff.mp h]at q;cases q;cases hy
 |d::ds,_,_,hm,h,q=>λy hy=>by
  obtain⟨w,r,rfl,h1,h2⟩:=az.mp h;cases q with
  |cons q1 q2=>
   rcases Rh.mp hy with rfl|hy
   .rw[B1 I se (hm d Q3) h1 q1]
    exact(KY I 40 X.A.in1 (by show X.A.units+1+40<TY;omega) d x w v _ u (Ru.mp se _ (hm d Q3)) sx h1 rx q1 qx).2.1
   .exact jE I hu sx rx qx se (λx hx=>hm x (QX _ hx)) h2 q2 y hy
def Lo(hu:X.A.units+64<TY):gu X (R5 .In) (Ad X.K false):=by
 intro π s σ H x y v u Q I rx ry h;obtain⟨d,ds,h1,h2,s1,s2,q⟩:=h;rcases h2 with h2|h2
 .obtain⟨a,vs,its,rfl,rfl,k1,k2,k3,k4,k5⟩:=bh I h2 ry
  refine SeqAt.in_listAt (lY X.K H ds d) k4 (λw hw=>jE I hu s1 h1 rx s2 (λ_ z=>z) k2 k3 w (by simpa using hw)) ⟨.bl _,H,I,rfl,?_⟩;rw[show its.toArray.any (lY X.K H ds d)=its.any (lY X.K H ds d) by simp,lr I s2 (λ_ z=>z) k2 k3];exact q
 .obtain⟨a,vs,its,rfl,rfl,k1,k2,k3,k4,k5⟩:=bA I h2 ry
  refine SeqAt.in_tupleAt (lY X.K H ds d) k4 (λw hw=>jE I hu s1 h1 rx s2 (λ_ z=>z) k2 k3 w (by simpa using hw)) ⟨.bl _,H,I,rfl,?_⟩;rw[show its.toArray.any (lY X.K H ds d)=its.any (lY X.K H ds d) by simp,lr I s2 (λ_ z=>z) k2 k3];exact q
def CS(hu:X.A.units+64<TY):gu X (R5 .NotIn) (Ad X.K true):=by
 intro π s σ H x y v u Q I rx ry h;obtain⟨d,ds,h1,h2,s1,s2,q⟩:=h;rcases h2 with h2|h2
 .obtain⟨a,vs,its,rfl,rfl,k1,k2,k3,k4,k5⟩:=bh I h2 ry
  refine SeqAt.notIn_listAt (lY X.K H ds d) k4 (λw hw=>jE I hu s1 h1 rx s2 (λ_ z=>z) k2 k3 w (by simpa using hw)) ⟨.bl _,H,I,rfl,?_⟩;rw[show its.toArray.any (lY X.K H ds d)=its.any (lY X.K H ds d) by simp,lr I s2 (λ_ z=>z) k2 k3];exact q
 .obtain⟨a,vs,its,rfl,rfl,k1,k2,k3,k4,k5⟩:=bA I h2 ry
  refine SeqAt.notIn_tupleAt (lY X.K H ds d) k4 (λw hw=>jE I hu s1 h1 rx s2 (λ_ z=>z) k2 k3 w (by simpa using hw)) ⟨.bl _,H,I,rfl,?_⟩;rw[show its.toArray.any (lY X.K H ds d)=its.any (lY X.K H ds d) by simp,lr I s2 (λ_ z=>z) k2 k3];exact q
def OL(i j:Ro):Bool:=!(U5 j i 0 j.length 1).isEmpty
noncomputable def xH(x y:D):Option Bool:=match y with
 |.lst ds=>if aR 40 x=true/\ds.all (aR 40)=true then some (ds.any λd=>cw d x) else none
 |.tup ds=>if aR 40 x=true/\ds.all (aR 40)=true then some (ds.any λd=>cw d x) else none
 |.str j=>match x with
  |.str i=>some (OL i j)
  |_=>none
 |_=>none
def pS(x y:D):av D:=match xH x y with
 |some b=>.ok (.bl b)
 |none=>.stuck
def bL(x y:D):av D:=match xH x y with
 |some b=>.ok (.bl (!b))
 |none=>.stuck
def E4(neg:Bool):R2:=λx y H Q=>∃i j,x=.str i/\y=.str j/\Q (.bl (if neg then !(OL i j) else OL i j)) H
def mT(hu:X.A.units+64<TY):gu X (R5 .In) (λv u H Q=>Ad X.K false v u H Q∨E4 false v u H Q):=gu.or (Lo hu) (by
 intro π s σ H x y v u Q I rx ry h;obtain⟨i,j,rfl,rfl,q⟩:=h;exact CT π s σ H _ _ v u Q I rx ry ⟨i,j,rfl,rfl,q⟩)
def fN(hu:X.A.units+64<TY):gu X (R5 .NotIn) (λv u H Q=>Ad X.K true v u H Q∨E4 true v u H Q):=gu.or (CS hu) (by
 intro π s σ H x y v u Q I rx ry h;obtain⟨i,j,rfl,rfl,q⟩:=h;exact wU π s σ H _ _ v u Q I rx ry ⟨i,j,rfl,rfl,q⟩)
def yp(hs:aE Ha H)(r1:Rep X.K Ha x v)(r2:Rep X.K Ha y u)
  (q:post X.K E H Ha (match xH x y with|some b=>.ok (.bl (if neg then !b else b))|none=>.stuck) Q):Ad X.K neg v u H Q∨E4 neg v u H Q:=by
 cases y with
 |lst ds=>
  simp only[xH]at q
  by_cases c:aR 40 x=true/\ds.all (aR 40)=true
  .rw[if_pos c]at q
   exact .inl ⟨x,ds,r1.mono hs,.inl (r2.mono hs),c.1,c.2,q _ H Ha (bj.refl hs) (aH.mpr rfl)⟩
  .rw[if_neg c]at q;exact q.elim
 |tup ds=>
  simp only[xH]at q
  by_cases c:aR 40 x=true/\ds.all (aR 40)=true
  .rw[if_pos c]at q
   exact .inl ⟨x,ds,r1.mono hs,.inr (r2.mono hs),c.1,c.2,q _ H Ha (bj.refl hs) (aH.mpr rfl)⟩
  .rw[if_neg c]at q;exact q.elim
 |str j=>
  cases x with|str i=>exact .inr ⟨i,j,Rep.str_iff.mp r1,Rep.str_iff.mp r2,q _ H Ha (bj.refl hs) (aH.mpr rfl)⟩| _=>exact q.elim
 |_=>exact q.elim
def m4:zD X.K E (λv u H Q=>Ad X.K false v u H Q∨E4 false v u H Q) pS:=λx y v u H Ha Q hs r1 r2 q=>yp (neg:=false) (E:=E) hs r1 r2 (by
 unfold pS at q;cases e:xH x y with
 |none=>rw[e]at q;exact q
 |some b=>rw[e]at q;exact q)
def fP:zD X.K E (λv u H Q=>Ad X.K true v u H Q∨E4 true v u H Q) bL:=λx y v u H Ha Q hs r1 r2 q=>yp (neg:=true) (E:=E) hs r1 r2 (by
 unfold bL at q;cases e:xH x y with
 |none=>rw[e]at q;exact q
 |some b=>rw[e]at q;exact q)
end
@[irreducible] def B9:Nat:=2 ^ 9000
@[irreducible] def qU:Nat:=2 ^ 13500
@[irreducible] def qf:Nat:=2 ^ 60000
theorem G5:B9=2 ^ 9000:=by unfold B9;rfl
def mI:qU=2 ^ 13500:=by unfold qU;rfl
def pE:qf=2 ^ 60000:=by unfold qf;rfl
def r8{n k:Nat}(h:n<2 ^ k)(hk:0<k):n.log2<k:=by
 by_cases h0:n=0
 .rw[h0]
  have:Nat.log2 0=0:=by decide
  omega
 .exact(Nat.log2_lt h0).mpr h
def NQ(h:y.natAbs<B9):TR x y=false:=by
 rw[G5]at h;exact PyProof.noPylong_of_log2 (r8 h (by omega))
def Lu(h:x.natAbs<qU):TR x y=false:=by
 rw[mI]at h;have hx:x.natAbs.log2<13500:=r8 h (by omega);show(decide ((if y==0 then 0 else y.natAbs.log2 / 30+1) > 300)&&decide ((if x==0 then 0 else x.natAbs.log2 / 30+1) > (if y==0 then 0 else y.natAbs.log2 / 30+1)+150))=false;have k:(if x==0 then 0 else x.natAbs.log2 / 30+1)<=450:=by
  by_cases hx0:(x==0)=true
  .rw[if_pos hx0];omega
  .rw[if_neg hx0];omega
 by_cases c:(if y==0 then 0 else y.natAbs.log2 / 30+1) > 300
 .rw[Ve];right;exact decide_eq_false (by omega)
 .rw[Ve];left;exact decide_eq_false c
def gJ(i j:Int):Bool:=decide (j≠0)&&(decide (j.natAbs<B9)||decide (i.natAbs<qU))
def cU(i j:Int):Bool:=decide (i.natAbs<qf)&&decide (j.natAbs<qf)
def gJ.ok(h:gJ i j=true):j≠0/\TR i j=false:=by
 unfold gJ at h;rw[Rn,VW]at h;refine⟨of_decide_eq_true h.1,?_⟩;rcases h.2 with h|h
 .exact NQ (of_decide_eq_true h)
 .exact Lu (of_decide_eq_true h)
def cU.ok(h:cU i j=true):IntMulOk i j:=by
 unfold cU at h;rw[Rn]at h;have h1:=of_decide_eq_true h.1;have h2:=of_decide_eq_true h.2;rw[pE]at h1 h2;exact PyProof.Rows.mulOk_of_bits (m:=60000) (n:=60000) (WJ.mpr h1) (WJ.mpr h2) (by decide)
section
variable {X:Cx}{E:XK}{e a b c:R1}{es:List R1}{f g k:am}{fa:Ev->av (ac)}{pos:Pos}
def bU{K:Q2}(hs:aE Ha H)(q:post K E H Ha (.ok d) Q)(r:Rep K Ha d v):Q v H:=q v H Ha (bj.refl hs) r
def xf(c:Int->Int->Bool)(g:Int->Int->D)(x y:D):av D:=match x,y with
 |.int i,.int j=>if c i j=true then .ok (g i j) else .stuck
 |_,_=>.stuck
def wX{c:Int->Int->Bool}{g:Int->Int->D}(hc:∀i j,c i j=true->C i j)(hg:∀K H i j,Rep K H (g i j) (gv i j)):zD X.K E (rI C gv) (xf c g):=by
 intro x y v u H Ha Q hs r1 r2 q;unfold xf at q;cases x with
 |int i=>
  cases y with
  |int j=>
   by_cases h:c i j=true
   .simp only[if_pos h]at q
    exact⟨i,j,ay.mp r1,ay.mp r2,hc i j h,bU hs q (hg _ _ i j)⟩
   .simp only[if_neg h]at q;exact q.elim
  |_=>exact q.elim
 |_=>exact q.elim
def cP{g:Int->Int->D}(hg:∀K H i j,Rep K H (g i j) (gv i j)):zD X.K E (E5 gv) (xf (λ_ _=>true) g):=by
 intro x y v u H Ha Q hs r1 r2 q;unfold xf at q;cases x with
 |int i=>
  cases y with|int j=>simp only[if_pos]at q;exact⟨i,j,ay.mp r1,ay.mp r2,bU hs q (hg _ _ i j)⟩| _=>exact q.elim
 |_=>exact q.elim
def ri{K:Q2}(n:Int):Rep K H (.int n) (.int n):=ay.mpr rfl
def rb{K:Q2}(n:Bool):Rep K H (.bl n) (.bl n):=aH.mpr rfl
abbrev ik:=xf (λ_ _=>true) λi j=>.int (i-j)
abbrev l3:=xf gJ λi j=>.int (i.fdiv j)
abbrev cQ:=xf (λ_ j=>decide (j≠0)) λi j=>.int (i.fmod j)
abbrev kr:=xf (λi j=>decide (0<=j)&&decide (j<=1000000)&&decide (i.natAbs<18446744073709551616)) λi j=>.int (i ^ j.toNat)
abbrev zk:=xf (λ_ _=>true) λi j=>.bl (decide (i<j))
abbrev Js:=xf (λ_ _=>true) λi j=>.bl (decide (i<=j))
abbrev zK:=xf (λ_ _=>true) λi j=>.bl (decide (j<i))
abbrev Mm:=xf (λ_ _=>true) λi j=>.bl (decide (j<=i))
def Iv:gu X (binaryOp .Mult) (rI IntMulOk λi j=>.int (i*j)):=NK λ_ _ _ _ _ _ _ hc q=>mul_int q hc
def Iy:gu X (binaryOp .FloorDiv) (rI (λi j=>j≠0/\TR i j=false) λi j=>.int (i.fdiv j)):=NK λ_ _ _ _ _ _ _ hc q=>floordiv_int hc.1 q (.inl hc.2)
def ue(ha:DE X E a f)(hb:DE X E b g):DE X E (.BinOp a .Sub b pos) (aa f g ik):=pR Lj (cP λ_ _ _ _=>ri _) ha hb
def mE(ha:DE X E a f)(hb:DE X E b g):DE X E (.BinOp a .FloorDiv b pos) (aa f g l3):=pR Iy (wX (λ_ _ h=>gJ.ok h) λ_ _ _ _=>ri _) ha hb
def dm(ha:DE X E a f)(hb:DE X E b g):DE X E (.BinOp a .Mod b pos) (aa f g cQ):=pR Iw (wX (λ_ _ h=>of_decide_eq_true h) λ_ _ _ _=>ri _) ha hb
def o8(ha:DE X E a f)(hb:DE X E b g):DE X E (.BinOp a .Pow b pos) (aa f g kr):=pR Ln (wX (λi j h=>by
 rw[Rn,Rn]at h;exact⟨of_decide_eq_true h.1.1,of_decide_eq_true h.1.2,of_decide_eq_true h.2⟩) λ_ _ _ _=>ri _) ha hb
def nm(h1:op≠.In:=by decide)(h2:op≠.NotIn:=by decide):behindInMarks op b=false:=FJ _ h1 h2
def jF(x:D):av D:=match x with
 |.int i=>.ok (.int (-i))
 |_=>.stuck
def o9(ha:DE X E a f):DE X E (.UnaryOp .USub a pos) (aQ f jF):=Od Kw (by
 intro x v H Ha Q hs r q;cases x with
 |int i=>exact⟨i,ay.mp r,bU hs q (ri _)⟩
 |_=>exact q.elim) ha
def BH:gu X (binaryOp .Add) (λx y H Q=>∃l b xs zs,x=.ref l/\y=.ref b/\fZ X.K H l xs/\fZ X.K H b zs/\xs.length+zs.length<=sizeLine/\∀p,H p=none->Q (.ref p) (upd H p (.lst (xs++zs)))):=by
 intro π s σ H x y v u Q I rx ry h;obtain⟨l,b,xs,zs,rfl,rfl,hH,hB,hz,q⟩:=h;cases rx;cases ry;obtain⟨its,r,pl,z⟩:=I.list hH;obtain⟨its2,r2,pl2,z2⟩:=I.list hB;obtain⟨⟨cls,dd,data,sl⟩,ho,hc,n,hd⟩:=pl.isList;obtain⟨⟨cls2,dd2,data2,sl2⟩,ho2,hc2,n2,hd2⟩:=pl2.isList;simp only at hc hd hc2 hd2;subst hc hd hc2 hd2;have e:its.toArray++its2.toArray=(its++its2).toArray:=by simp
 have l1:=r.length;have l2:=r2.length;refine concat_meets ⟨_,ho,rfl⟩ ⟨_,ho2,rfl⟩ noFill_list_add seq_list_add PySem.F.slot_list_add PySem.F.entry_list_add (PySem.F.args_list_add_2 _ _) (list_addW l b its.toArray its2.toArray n n2 dd dd2 sl sl2 (by simp only[Rq];omega)) ⟨ho,ho2,?_⟩;rw[e];exact⟨.ref _,_,I.lnew (t':=s.toks) (r.append r2) (by rw[RQ];omega),rfl,q _ I.fresh⟩
noncomputable def bz(x y:D):av D:=match x,y with
 |.int i,.int j=>.ok (.int (i+j))
 |.str i,.str j=>if i.length+j.length<=line then .ok (.str (i++j)) else .stuck
 |.lst ds,.lst es=>if ds.length+es.length<=line then .ok (.lst (ds++es)) else .stuck
 |.tup ds,.tup es=>if ds.isEmpty=false/\ds.length+es.length<=line then .ok (.tup (ds++es)) else .stuck
 |_,_=>.stuck
def bR(ha:DE X E a f)(hb:DE X E b g):DE X E (.BinOp a .Add b pos) (aa f g bz):=pR (gu.or Lq (gu.or Ao (gu.or BH Iz))) (by
 intro x y v u H Ha Q hs r1 r2 q;unfold bz at q;cases x with
 |int i=>
  cases y with|int j=>exact .inl ⟨i,j,ay.mp r1,ay.mp r2,bU hs q (ri _)⟩| _=>exact q.elim
 |str i=>
  cases y with
  |str j=>
   by_cases h:i.length+j.length<=line
   .simp only[if_pos h]at q
    exact .inr (.inl ⟨i,j,Rep.str_iff.mp r1,Rep.str_iff.mp r2,ft h,bU hs q (Rep.str_iff.mpr rfl)⟩)
   .simp only[if_neg h]at q;exact q.elim
  |_=>exact q.elim
 |lst ds=>
  cases y with
  |lst es=>
   by_cases h:ds.length+es.length<=line
   .simp only[if_pos h]at q
    obtain⟨l,vs,rfl,h1,h2⟩:=aB.mp r1;obtain⟨m,us,rfl,k1,k2⟩:=aB.mp r2;refine .inr (.inr (.inl ⟨l,m,vs,us,rfl,rfl,aE.sqL hs h1,aE.sqL hs k1,by rw[←h2.length,←k2.length];exact ft h,λp hp=>?_⟩));exact q _ _ _ (aY hs hp) (aB.mpr ⟨p,_,rfl,fZ.of aL,(h2.app k2).mono (aY hs hp).z⟩)
   .simp only[if_neg h]at q;exact q.elim
  |_=>exact q.elim
 |tup ds=>
  cases y with
  |tup es=>
   by_cases h:ds.isEmpty=false/\ds.length+es.length<=line
   .simp only[if_pos h]at q
    obtain⟨l,vs,rfl,h1,h2⟩:=aG.mp r1;obtain⟨m,us,rfl,k1,k2⟩:=aG.mp r2;refine .inr (.inr (.inr ⟨l,m,vs,us,rfl,rfl,aE.sqT hs h1,aE.sqT hs k1,λz=>?_,by rw[←h2.length,←k2.length];exact ft h.2,λz=>?_,λz p hp=>?_⟩))
    .have:=h2.length
     rw[z]at this;have e:ds=[]:=U0.mp this;rw[e]at h;exact absurd h.1 (by decide)
    .have:=k2.length
     rw[z]at this;have e:es=[]:=U0.mp this;rw[e,Sj]at q;exact bU hs q r1
    .exact q _ _ _ (aY hs hp) (aG.mpr ⟨p,_,rfl,l9.of aL,(h2.app k2).mono (aY hs hp).z⟩)
   .simp only[if_neg h]at q;exact q.elim
  |_=>exact q.elim
 |_=>exact q.elim) ha hb
noncomputable def aC(x y:D):av D:=match y with
 |.int i=>match x with
  |.lst ds=>match atI ds i with
   |some d=>.ok d
   |none=>.stuck
  |.tup ds=>match atI ds i with
   |some d=>.ok d
   |none=>.stuck
  |.str z=>if z.length<=line then match atI z.cps.toList i with
   |some c=>.ok (.str ⟨#[c]⟩)
   |none=>.stuck else .stuck
  |_=>.stuck
 |_=>.stuck
def Reps.atI{K:Q2}(h:Reps K H ds vs)(e:atI ds i=some d):∃v,L2.atI vs i=some v/\Rep K H d v:=by
 unfold L2.atI at e ⊢;rw[←h.length];cases q:yD ds.length i with
 |none=>rw[q]at e;cases e
 |some j=>
  rw[q]at e;exact h.get e
def NN:zD X.K E (Qe X.K) aC:=by
 intro x y v u H Ha Q hs r1 r2 q;unfold aC at q;cases y with
 |int i=>
  cases x with
  |lst ds=>
   obtain⟨l,vs,rfl,h1,h2⟩:=aB.mp r1;cases e:atI ds i with
   |none=>simp only[e]at q;exact q.elim
   |some d=>
    simp only[e]at q;obtain⟨w,e1,e2⟩:=h2.atI e;exact .inl ⟨l,vs,i,w,rfl,ay.mp r2,aE.sqL hs h1,e1,bU hs q e2⟩
  |tup ds=>
   obtain⟨l,vs,rfl,h1,h2⟩:=aG.mp r1;cases e:atI ds i with
   |none=>simp only[e]at q;exact q.elim
   |some d=>
    simp only[e]at q;obtain⟨w,e1,e2⟩:=h2.atI e;exact .inr (.inl ⟨l,vs,i,w,rfl,ay.mp r2,aE.sqT hs h1,e1,bU hs q e2⟩)
  |str z=>
   by_cases hz:z.length<=line
   .simp only[if_pos hz]at q
    cases e:atI z.cps.toList i with
    |none=>simp only[e]at q;exact q.elim
    |some c=>
     simp only[e]at q;exact .inr (.inr ⟨z,i,c,Rep.str_iff.mp r1,ay.mp r2,ft hz,e,bU hs q (Rep.str_iff.mpr rfl)⟩)
   .simp only[if_neg hz]at q;exact q.elim
  |_=>exact q.elim
 |_=>exact q.elim
def ar(ha:DE X E a f)(hb:DE X E b g)(hs:oB b:=by intro _ _;rfl):DE X E (.Subscript a b pos) (aa f g aC):=Og LH NN ha hb hs
def fD:Ev->av (Option Int):=λ_=>.ok none
def cD(f:am):Ev->av (Option Int):=λρ=>(f ρ).bind λx=>match x with
 |.int i=>.ok (some i)
 |_=>.stuck
def Pe(K:Q2)(E:XK)(f:Ev->av (Option Int)):TO:=λσ H Q=>∃Ha ρ,aE Ha H/\eW K Ha σ ρ/\match f ρ with
 |.ok o=>∀H' Ha',bj H Ha H' Ha'->Q o H'
 |.exn x=>∀C ox H' Ha',bj H Ha H' Ha'->zH K Ha' x C ox->E C ox H'
 |.stuck=>False
structure DO (X:Cx) (E:XK) (e:Option R1) (f:Ev->av (Option Int)):Prop where
 o:PO X e (Pe X.K E f)
def BB(h:PO X eo t)(w:∀σ H Q,t' σ H Q->t σ H Q):PO X eo t':=λπ s σ H Q I q=>h π s σ H Q I (w σ H Q q)
def oe:DO X E none fD:=⟨BB Ia λσ H Q ⟨Ha,ρ,hs,hr,q⟩=>q H Ha (bj.refl hs)⟩
def dJ(ha:DE X E a f):DO X E (some a) (cD f):=by
 refine⟨?_⟩;refine BB (H0 ha.o) λσ H Q z9=>?_;obtain⟨Ha,ρ,hs,hr,q⟩:=z9;refine⟨Ha,ρ,hs,hr,?_⟩
 unfold cD at q;cases e1:f ρ with
 |stuck|exn x=>rw[e1]at q;exact q
 |ok d=>
  rw[e1]at q;intro v H1 H01 g1 r1;cases d with|int i=>exact⟨i,ay.mp r1,q H1 H01 g1⟩| _=>exact q.elim
def l4(xs:ac)(lo hi:Option Int):ac:=(xs.drop (HT.sIx xs.length 0 lo)).take (HT.sIx xs.length xs.length hi-HT.sIx xs.length 0 lo)
def Reps.cut{K:Q2}(h:Reps K H ds vs)(lo hi:Option Int):Reps K H (l4 ds lo hi) (zo vs lo hi):=by
 unfold l4 zo;rw[←h.length];exact(h.drop _).take _
def xW{lo hi:Ev->av (Option Int)}{m:D->Option Int->Option Int->av D}
  (ho:∀x v l h H Ha Q,aE Ha H->Rep X.K Ha x v->post X.K E H Ha (m x l h) Q->r v l h H Q)(σ:L2.St)(H:Hp)(Q:VK)
  (h:tD X.K E (λρ=>(f ρ).bind λx=>(lo ρ).bind λl=>(hi ρ).bind λh=>m x l h) σ H Q):P9 r (tD X.K E f) (Pe X.K E lo) (Pe X.K E hi) σ H Q:=by
 obtain⟨Ha,ρ,hs,hr,q⟩:=h;refine⟨Ha,ρ,hs,hr,?_⟩;replace q:post X.K E H Ha ((f ρ).bind λx=>(lo ρ).bind λl=>(hi ρ).bind λh=>m x l h) Q:=q;cases e1:f ρ with
 |stuck|exn x=>rw[e1]at q;exact q
 |ok x=>
  rw[e1]at q;intro v H1 H01 g1 r1;refine⟨H01,ρ,g1.sub,hr.mono g1.z,?_⟩;replace q:post X.K E H Ha ((lo ρ).bind λl=>(hi ρ).bind λh=>m x l h) Q:=q;replace q:=q.grow g1;cases e2:lo ρ with
  |stuck|exn x=>rw[e2]at q;exact q
  |ok l=>
   rw[e2]at q;intro H2 H02 g2;refine⟨H02,ρ,g2.sub,(hr.mono g1.z).mono g2.z,?_⟩;replace q:post X.K E H1 H01 ((hi ρ).bind λh=>m x l h) Q:=q;replace q:=q.grow g2;cases e3:hi ρ with
   |stuck|exn x=>rw[e3]at q;exact q
   |ok h=>
    rw[e3]at q;intro H3 H03 g3;exact ho x v l h H3 H03 Q g3.sub ((r1.mono g2.z).mono g3.z) (post.grow (r:=m x l h) q g3)
def m1(m:D->av D)(ds:ac):av D:=match ds with
 |[x]=>m x
 |_=>.stuck
def m2(m:D->D->av D)(ds:ac):av D:=match ds with
 |[x,y]=>m x y
 |_=>.stuck
def zt(h:∀x v H Ha Q,aE Ha H->Rep X.K Ha x v->post X.K E H Ha (m x) Q->r [v] H Q):mn X E r (m1 m):=by
 intro ds vs H Ha Q hs hr q;unfold m1 at q
 match ds,hr,q with
 |[x],hr,q=>
  obtain⟨v,r',rfl,h1,h2⟩:=az.mp hr;rw[Reps.nil_iff.mp h2];exact h x v H Ha Q hs h1 q
 |[],_,q=>exact q.elim
 |_::_::_,_,q=>exact q.elim
def Oo(h:∀x y v u H Ha Q,aE Ha H->Rep X.K Ha x v->Rep X.K Ha y u->post X.K E H Ha (m x y) Q->r [v,u] H Q):mn X E r (m2 m):=by
 intro ds vs H Ha Q hs hr q;unfold m2 at q
 match ds,hr,q with
 |[x,y],hr,q=>
  obtain⟨v,r',rfl,h1,h2⟩:=az.mp hr;obtain⟨u,r'',rfl,h3,h4⟩:=az.mp h2;rw[Reps.nil_iff.mp h4];exact h x y v u H Ha Q hs h1 h3 q
 |[],_,q=>exact q.elim
 |[_],_,q=>exact q.elim
 |_::_::_::_,_,q=>exact q.elim
def vc(x:D):av D:=match x with
 |.int i=>.ok (.int (if i<0 then -i else i))
 |_=>.stuck
def PU(x y:D):av D:=match x,y with
 |.int i,.int j=>.ok (.int (if j > i then j else i))
 |_,_=>.stuck
def dP(x:D):av D:=match x with
 |.lst ds=>.ok (.int ds.length)
 |.tup ds=>.ok (.int ds.length)
 |.str z=>if z.length<=line then .ok (.int z.length) else .stuck
 |_=>.stuck
def eU(x:D):av D:=match x with
 |.lst ds=>.ok (.lst ds)
 |.tup ds=>.ok (.lst ds)
 |_=>.stuck
def uu:mn X E (λxs H Q=>∃i,xs=[.int i]/\Q (.int (if i<0 then -i else i)) H) (m1 vc):=zt λx v H Ha Q hs r q=>by
 cases x with|int i=>exact⟨i,by rw[ay.mp r],bU hs q (ri _)⟩| _=>exact q.elim
def cO:mn X E (λxs H Q=>∃x n,xs=[x]/\OC X.K x H n/\Q (.int n) H) (m1 dP):=zt λx v H Ha Q hs r q=>by
 cases x with
 |lst ds=>
  obtain⟨p,vs,rfl,h1,h2⟩:=aB.mp r;refine⟨_,vs.length,rfl,.inl ⟨vs,aE.sqL hs h1,rfl⟩,?_⟩;rw[←h2.length];exact bU hs q (ri _)
 |tup ds=>
  obtain⟨p,vs,rfl,h1,h2⟩:=aG.mp r;refine⟨_,vs.length,rfl,.inr ⟨vs,aE.sqT hs h1,rfl⟩,?_⟩;rw[←h2.length];exact bU hs q (ri _)
 |str z=>
  unfold dP at q
  by_cases hz:z.length<=line
  .simp only[if_pos hz]at q
   rw[Rep.str_iff.mp r];exact⟨_,z.length,rfl,⟨ft hz,rfl⟩,bU hs q (ri _)⟩
  .simp only[if_neg hz]at q;exact q.elim
 |_=>exact q.elim
def Cb:mn X E (λxs H Q=>∃p ys,xs=[.ref p]/\(fZ X.K H p ys∨l9 X.K H p ys)/\∀l,H l=none->Q (.ref l) (upd H l (.lst ys))) (m1 eU):=zt λx v H Ha Q hs r q=>by
 cases x with
 |lst ds=>
  obtain⟨p,vs,rfl,h1,h2⟩:=aB.mp r;exact⟨p,vs,rfl,.inl (aE.sqL hs h1),λn hn=>q _ _ _ (aY hs hn) (aB.mpr ⟨n,_,rfl,fZ.of aL,h2.mono (aY hs hn).z⟩)⟩
 |tup ds=>
  obtain⟨p,vs,rfl,h1,h2⟩:=aG.mp r;exact⟨p,vs,rfl,.inr (aE.sqT hs h1),λn hn=>q _ _ _ (aY hs hn) (aB.mpr ⟨n,_,rfl,fZ.of aL,h2.mono (aY hs hn).z⟩)⟩
 |_=>exact q.elim
def zi(hc:ml X (.type T) r)(hd:mn X E r m)(hg:Gl X x)(hm:X.mg x=none)(hv:bootBuiltins x=some (.type T))(ha:DA X E (e::es) fa)(hn:x≠"__name__":=by decide)(hdb:(x==("__debug__" : Ro))=false:=by decide)
  (he:Rk (e::es) X.env=(false,eval e X.env)::Rk es X.env:=by exact bB rfl)(hpl:(SM pos (Rk es X.env)).any (·.1)=false:=by exact cX rfl):DE X E (.Call (.Name x p) (e::es) [] pos) (ao fa m) :=
 ⟨bo (vF hc hg hm hv ha.o hn hdb he hpl) (jL hd)⟩
def xo(hg:Gl X "list")(hm:X.mg "list"=none)(ha:DA X E [x] fa)(he:Rk [x] X.env=(false,eval x X.env)::Rk [] X.env:=by exact bB rfl)(hpl:(SM pos (Rk [] X.env)).any (·.1)=false:=by exact cX rfl) :
  DF X E (.Call (.Name "list" p) [x] [] pos) (ao fa (m1 eU)):=by
 refine⟨?_⟩;refine bo (vF ka hg hm PyProof.Rows.Boot.«list» ha.o (by decide) (by decide) he hpl) λσ H Q h=>?_;obtain⟨Ha,ρ,hs,hr,q⟩:=h;refine⟨Ha,ρ,hs,hr,?_⟩;unfold ao at q;cases e1:fa ρ with
 |stuck|exn x=>rw[e1]at q;exact q
 |ok ds=>
  rw[e1]at q;intro vs H1 H01 g1 r1;have fin:∀(es:ac) (us:al) (p:Q9),m1 eU ds=.ok (.lst es)->H1 p=none->Reps X.K H01 es us->Q (.ref p) (upd H1 p (.lst us)):=λes us p hm hp hu=>by
   have h0:H01 p=none:=g1.sub.free hp;have q':∀p vs H' Ha',bj H Ha H' Ha'->H p=none->Ha' p=none->H' p=some (.lst vs)->Reps X.K Ha' es vs->Q (.ref p) H':=by
    have q2:match m1 eU ds with
     |.ok (.lst ds)=>∀p vs H' Ha',bj H Ha H' Ha'->H p=none->Ha' p=none->H' p=some (.lst vs)->Reps X.K Ha' ds vs->Q (.ref p) H'
     |.ok _=>False
     |.exn x=>∀C ox H' Ha',bj H Ha H' Ha'->zH X.K Ha' x C ox->E C ox H'
     |.stuck=>False:=q
    rw[hm]at q2;exact q2
   refine q' p us _ H01 (g1.trans ⟨λb o q=>by rw[aF (bu q hp)];exact q,aE.refl _,λb o q=>?_,λa h1 h2=>absurd h2 h1⟩) (g1.s.free hp) h0 aL hu;rw[aF (by intro z;subst z;rw[h0]at q;cases q)];exact g1.sub _ _ q
  have q2:match m1 eU ds with
     |.ok (.lst ds)=>∀p vs H' Ha',bj H Ha H' Ha'->H p=none->Ha' p=none->H' p=some (.lst vs)->Reps X.K Ha' ds vs->Q (.ref p) H'
     |.ok _=>False
     |.exn x=>∀C ox H' Ha',bj H Ha H' Ha'->zH X.K Ha' x C ox->E C ox H'
     |.stuck=>False:=q
  match ds,r1,q2,fin with
  |[],_,q2,_=>exact q2.elim
  |_::_::_,_,q2,_=>exact q2.elim
  |[x],r1,q2,fin=>
   obtain⟨v,r',rfl,h1,h2⟩:=az.mp r1;rw[Reps.nil_iff.mp h2];cases x with
   |lst ds=>
    obtain⟨p,vs,rfl,k1,k2⟩:=aB.mp h1;exact⟨p,vs,rfl,.inl (aE.sqL g1.sub k1),λn hn=>fin ds vs n rfl hn k2⟩
   |tup ds=>
    obtain⟨p,vs,rfl,k1,k2⟩:=aG.mp h1;exact⟨p,vs,rfl,.inr (aE.sqT g1.sub k1),λn hn=>fin ds vs n rfl hn k2⟩
   |_=>exact q2.elim
def vQ:D->Bool
 |.non=>true
 |_=>false
def vb(x y:D):av D:=match y with
 |.non=>.ok (.bl (vQ x))
 |_=>.stuck
def kj(x y:D):av D:=match y with
 |.non=>.ok (.bl (!(vQ x)))
 |_=>.stuck
def Rep.is_non{K:Q2}(r:Rep K H x v):decide (v=.non)=vQ x:=by
 cases x with|non=>rw[aT.mp r];rfl|bl b=>rw[aH.mp r];rfl|int b=>rw[ay.mp r];rfl|str b=>rw[Rep.str_iff.mp r];rfl|tup ds=>obtain⟨_,_,e,_⟩:=aG.mp r;rw[e];rfl|lst ds=>obtain⟨_,_,e,_⟩:=aB.mp r;rw[e];rfl|dic ks ds=>rw[Rep]at r;obtain⟨_,_,_,e,_⟩:=r;rw[e];rfl|exc x=>obtain⟨_,_,_,e,_⟩:=jc.mp r;rw[e];rfl|ob k x=>obtain⟨_,_,e,_⟩:=aP.mp r;rw[e];rfl
def Aq:zD X.K E (λx y H Q=>y=.non/\Q (.bl (decide (x=.non))) H) vb:=by
 intro x y v u H Ha Q hs r1 r2 q;unfold vb at q;cases y with|non=>exact⟨aT.mp r2,by rw[r1.is_non];exact bU hs q (rb _)⟩| _=>exact q.elim
def qF:zD X.K E (λx y H Q=>y=.non/\Q (.bl (!decide (x=.non))) H) kj:=by
 intro x y v u H Ha Q hs r1 r2 q;unfold kj at q;cases y with
 |non=>
  refine⟨aT.mp r2,?_⟩;rw[r1.is_non];exact bU hs q (rb _)
 |_=>exact q.elim
noncomputable def zJ:D->String
 |.non=>"NoneType"
 |.bl _=>"bool"
 |.int _=>"int"
 |.str _=>"str"
 |.tup _=>"tuple"
 |.lst _=>"list"
 |.dic _ _=>"dict"
 |.exc _=>"<exc>"
 |.ob (.ins _ _) _=>"<exc>"
 |.ob (.dint _) _=>"dict"
 |.ob (.exf _ _) _=>"<exc>"
 |.ob .pl _=>"list"
 |.ob (.fn _) _=>"function"
def gL(T:String)(x:D):av D:=.ok (.bl (zJ x==T||(zJ x=="bool"&&T=="int")))
def uM(K:Q2)(T:String):Prop:=∀S,S∈["NoneType","bool","int","str","tuple","list","dict","function"]->W.kitOne K (.type S) (.type T)=some (S==T||(S=="bool"&&T=="int"))
def Gb(I:Inv X π σ H s)(r:Rep X.K H x v)(q:bw v u)(hk:uM X.K T)(hT:T∈iU)(h:∀tk,Q (.bool (zJ x==T||(zJ x=="bool"&&T=="int"))) { s with toks:=tk }) :
  RH (RB X.prog X.w) A (call (.builtin "isinstance") [u,.type T]) Q X.xe s:=by
 cases x with
 |non=>rw[aT.mp r]at q;exact jB I q .non (hk _ (by simp)) h|bl b=>rw[aH.mp r]at q;exact jB I q (.bl b) (hk _ (by simp)) h|int b=>rw[ay.mp r]at q;exact jB I q (.int b) (hk _ (by simp)) h|str b=>rw[Rep.str_iff.mp r]at q;exact jB I q (.str b) (hk _ (by simp)) h
 |tup ds=>
  obtain⟨a,vs,its,rfl,rfl,h1,h2,h3,h4,_⟩:=bA I r q;obtain⟨o,k1,k2,_⟩:=h4;exact SI W.kitx_tuple I.kIn ⟨o,k1,k2⟩ (hk _ (by simp)) (λz=>nomatch z) h
 |lst ds=>
  obtain⟨a,vs,its,rfl,rfl,h1,h2,h3,h4,_⟩:=bh I r q;obtain⟨o,k1,k2,_⟩:=h4;exact SI WG I.kIn ⟨o,k1,k2⟩ (hk _ (by simp)) (λz=>nomatch z) h
 |dic ks ds=>
  rw[Rep]at r;obtain⟨a,kvs,vs,rfl,h1,h2,_⟩:=r;cases (show u=RY a from q);obtain⟨_,_,vs',_,p⟩:=h1.ok I.hok;obtain⟨o,es,ep,k1,k2,_⟩:=p;exact SI VP I.kIn ⟨o,k1,k2.1⟩ (hk _ (by simp)) (λz=>nomatch z) h
 |exc x=>
  obtain⟨a,C,dc,rfl,hc,h1⟩:=jc.mp r;cases (show u=RY a from q);obtain⟨p,_,_⟩:=h1.ok I.hok;have e:(zJ (.exc x)==T||(zJ (.exc x)=="bool"&&T=="int"))=false:=by
   have:∀T∈iU,(zJ (.exc x)==T||(zJ (.exc x)=="bool"&&T=="int"))=false:=by show ∀T∈iU,("<exc>"==T||("<exc>"=="bool"&&T=="int"))=false;decide
   exact this T hT
  rw[e]at h;exact SI (yB hc.ek hc.ek.isCls) I.kIn p (hc.bt T hT) (λz=>nomatch z) h
 |ob k xs=>
  obtain⟨a,vs,rfl,h1,_⟩:=aP.mp r;cases (show u=RY a from q);cases k with
  |exf c ks=>
   obtain⟨C,dx,fs,hc,h2,_⟩:=h1;obtain⟨p,_,_⟩:=h2.ok I.hok;have e:(zJ (.ob (.exf c ks) xs)==T||(zJ (.ob (.exf c ks) xs)=="bool"&&T=="int"))=false:=by
    have:∀T∈iU,("<exc>"==T||("<exc>"=="bool"&&T=="int"))=false:=by decide
    exact this T hT
   rw[e]at h;exact SI (yB hc.ek hc.ek.isCls) I.kIn p (hc.bt T hT) (λz=>nomatch z) h
  |ins c ks=>
   obtain⟨C,dx,_,hc,h2,_⟩:=h1;obtain⟨mA,O,_⟩:=qI I.hok h2;obtain⟨od,O',_⟩:=O.look;have e:(zJ (.ob (.ins c ks) xs)==T||(zJ (.ob (.ins c ks) xs)=="bool"&&T=="int"))=false:=by
    have:∀T∈iU,(zJ (.ob (.ins c ks) xs)==T||(zJ (.ob (.ins c ks) xs)=="bool"&&T=="int"))=false:=by show ∀T∈iU,("<exc>"==T||("<exc>"=="bool"&&T=="int"))=false;decide
    exact this T hT
   rw[e]at h;exact SI (W.kitx_own (hc.cls.get _) hc.cls.hd hc.gc hc.gn hc.tk hc.mo) I.kIn O' (hc.bt T hT) (λz=>nomatch z) h
  |dint ks=>
   obtain⟨kvs,h2,_⟩:=h1;obtain⟨_,_,vs',_,p⟩:=h2.ok I.hok;obtain⟨o,es,ep,k1,k2,_⟩:=p;exact SI VP I.kIn ⟨o,k1,k2.1⟩ (hk _ (by simp)) (λz=>nomatch z) h
  |pl=>exact jB I (show bw (.ref a) (RY a) from rfl) (.lst h1) (hk _ (by simp)) h
  |fn q=>
   obtain⟨F,clos,c',t,m,pm,ctv,_,_,h2,_⟩:=h1;obtain⟨e,_⟩:=I.hok a _ h2;exact SI (W.kitx_of W.kitAt_ty (λ{_ _ _ _ _ s} p k=>by obtain⟨h,g,d,t,os⟩:=s;obtain⟨o,h1,h2⟩:=p;exact l6 h1 h2 k)) I.kIn ⟨_,e,rfl⟩ (hk _ (by simp)) (λz=>nomatch z) h
def bT(hk:uM X.K T)(hgi:Gl X "isinstance")(hmi:X.mg "isinstance"=none)(hg:Gl X x)(hm:X.mg x=none)(hv:bootBuiltins x=some (.type T))(ha:DE X E a f)
  (hn:x≠"__name__":=by decide)(hdb:(x==("__debug__" : Ro))=false:=by decide)(hT:T∈iU:=by decide)
  (he:Rk [a,.Name x p2] X.env=(false,eval a X.env)::Rk [.Name x p2] X.env:=by exact bB rfl)(he2:Rk [.Name x p2] X.env=(false,eval (.Name x p2) X.env)::Rk [] X.env:=by exact bB rfl)(hpl:(SM pos (Rk [.Name x p2] X.env)).any (·.1)=false:=by exact cX rfl) :
  DE X E (.Call (.Name "isinstance" p1) [a,.Name x p2] [] pos) (aQ f (gL T)):=by
 refine⟨?_⟩;refine bo (yi (r:=λvs H Q=>∃d v,vs=[v,.ty T]/\Rep X.K H d v/\Q (.bl (zJ d==T||(zJ d=="bool"&&T=="int"))) H) ?_ hgi hmi PyProof.Rows.Boot.«isinstance» (fM ha.o (fM (Iq (v:=.ty T) hg hm hv rfl hn hdb) jR he2) he) (by decide) (by decide) he hpl) λσ H Q ⟨Ha,ρ,hs,hr,q⟩=>⟨Ha,ρ,hs,hr,?_⟩
 .intro π s σ H xs us Q I r h
  obtain⟨d,v,rfl,h1,q⟩:=h;cases r with
  |cons r1 r2=>
   cases r2 with
   |cons r3 r4=>
    cases r4;rename_i u1 u2;obtain rfl:u2=Value.type T:=r3;exact Gb I h1 r1 hk hT λtk=>⟨.bl _,H,I.tok _,rfl,q⟩
 .unfold aQ at q
  cases e1:f ρ with
  |stuck|exn x=>rw[e1]at q;exact q
  |ok d=>
   rw[e1]at q;intro v H1 H01 g1 r1;exact⟨d,v,rfl,r1.mono g1.sub,q _ H1 H01 g1 (rb _)⟩
end
theorem vV{prog:Se}{w:Sx}{A:Sv}{E:QY->Rg->Prop}{it t:Q9}{items:Array QY}(hne:t≠it):∀(n i:Nat) (s:Rg) (Q:List QY->Rg->Prop),s.heap.IsListIter it t i->s.heap.IsList t items->i+n<=items.size ->
  (∀h',h'.IsListIter it t (i+n)->UO it s.heap h'->Q ((items.toList.drop i).take n) { s with heap:=h' })->RH (RB prog w) A (draw (.ref it) n) Q E s
 |0,i,s,Q,hit,_,_,hQ=>by
  show RH _ _ (pure []) Q E s;exact RI (by simpa using hQ s.heap hit (UO.refl ..))
 |n+1,i,s,Q,hit,ht,hle,hQ=>by
  have hlt:i<items.size:=by omega
  show RH _ _ (pyNext (.ref it) >>= _) Q E s;refine Rj (wpAny_pyNext_list_item hit ht (x:=items[i]) (by simp[hlt]) λh₁ hit₁ hs₁=>?_);have ht₁:h₁.IsList t items:=by
   obtain⟨o,k1,k2⟩:=ht;exact⟨o,(hs₁.2 t hne).trans k1,k2⟩
  refine Rj (Tu (vV hne n (i+1) _ _ hit₁ ht₁ (by omega) λhU hit₂ hs₂=>RI ?_));have hd:items.toList.drop i=items[i]::items.toList.drop (i+1):=by simp[Sm,hlt]
  have:=hQ hU (by rw[show i+(n+1)=i+1+n by omega];exact hit₂) (hs₁.trans hs₂);rw[hd,List.take_succ_cons]at this;exact this
def oG(hh:A.handled=none)(ht:s.heap.IsList t items)
  (hQ:∀h',Heap.ExtBut s.heap.objs.size s.heap h'->Q items.toList { s with heap:=h' }):RH (RB prog w) A (unpackItems (.ref t) items.size none) Q E s:=by
 have hlt:t≠s.heap.objs.size:=by obtain⟨o,ho,_⟩:=ht;exact RU (Ry ho)
 unfold unpackItems;refine Rj ?_
 .unfold notIterableAtAll
  refine Rj (wpAny_specialOf ht.typeIs slot_list_iter.lookup ?_);refine RI ?_;simp only[S5,if_false];refine Rj (Tu (wpAny_pyIter_list ht ?_));have ht0:(s.heap.push { cls:=.type "list_iterator",data:=.fields #[.ref t,.int 0 0] }).IsList t items:=by
   obtain⟨o,k1,k2⟩:=ht;exact⟨o,Ri _ k1,k2⟩
  refine Rj (Tu (vV hlt items.size 0 _ _ ⟨_,R3 _ rfl,rfl,rfl⟩ ht0 (by omega) λh₁ hit₁ hs₁=>?_));have hall:List.take items.size (List.drop 0 items.toList)=items.toList:=by
   rw[V2];exact U8 (by simp)
  rw[hall];rw[if_neg (by simp)];have ht₁:h₁.IsList t items:=by
   obtain⟨o,k1,k2⟩:=ht0;exact⟨o,(hs₁.2 t hlt).trans k1,k2⟩
  refine Rj (Tu (wpAny_pyNext_list_end hh hit₁ ht₁ (by simp) λhU he₂=>?_));simp only[Option.isSome_none,S5,if_false];refine RI (hQ hU λb o hb e=>he₂ b o hb (hs₁.extBut b o hb (Ri _ e)))
def z8(σ:L2.St):ce->al->L2.St
 |i::is,v::vs=>z8 (σ.set i (some v)) is vs
 |_,_=>σ
def de(ρ:Ev):ce->ac->Ev
 |i::is,d::ds=>de (ρ.set i (.sh d)) is ds
 |_,_=>ρ
theorem eV.putAll{K:Q2}{He η Ha H:Hp}:∀{is:ce}{ds:ac}{vs:al}{σ:L2.St}{ρ:Ev},eV K He η Ha σ H ρ->Reps K Ha ds vs->eV K He η Ha (z8 σ is vs) H (de ρ is ds)
 |[],_,_,_,_,h,_=>by unfold z8 de;exact h
 |_::_,[],_,_,_,h,r=>by rw[Reps.nil_iff.mp r];unfold z8 de;exact h
 |i::is,d::ds,_,_,_,h,r=>by
  obtain⟨v,vs,rfl,h1,h2⟩:=az.mp r;unfold z8 de;exact eV.putAll (h.put h1) h2
section
variable {X:Cx}{E:XK}{He η:Hp}{e a b:R1}{es:List R1}{f g:am}{fa:Ev->av (ac)}{pos:Pos}{is:ce}
def ME(is:ce):MO:=λvs σ H Q=>vs.length=is.length/\Q (z8 σ is vs) H
def yh(h:DP X es t)(w:∀vs σ H Q,t' vs σ H Q->t vs σ H Q):DP X es t':=λπ s σ H vs us Q I r q=>h π s σ H vs us Q I r (w vs σ H Q q)
def gr:DP X [] (ME []):=yh Ih λvs σ H Q z9=>by
 obtain⟨h,q⟩:=z9;have e:vs=[]:=U0.mp h;subst e;exact⟨rfl,q⟩
def bS(hN:X.N.Nodup)(hi:X.N[i]?=some x)(hx:DR X.env.scope x)(h:DP X es (ME is))(hf:X.fn x=true∨X.env.scope.names.lookup x=some .local := by first|exact .inl rfl|exact .inr rfl|assumption)
  (hs:(assignEach (.Name x p::es) X.env).map (·.2)=assign (.Name x p) X.env::(assignEach es X.env).map (·.2):=by rfl):DP X (.Name x p::es) (ME (i::is)) :=
 yh (Fg (BD hN hi hx hf) h hs) λvs σ H Q z9=>by
  obtain⟨h,q⟩:=z9;cases vs with|nil=>simp at h|cons v vs=>exact⟨v,vs,rfl,by simpa using h,q⟩
def Ii{k:Nat}(hc:X.calm=true)(h:DP X es t)
  (hn:(assignEach es X.env).length=n:=by rfl)(hst:(assignEach es X.env).findIdx? (·.1)=none:=by rfl):PG X (.Tuple es k pos) (λv σ H Q=>∃a xs,v=.ref a/\fZ X.K H a xs/\xs.length=n/\t xs σ H Q):=by
 intro π s σ H v u Q I r hw;obtain⟨a,xs,e1,hq,hl,hw⟩:=hw;subst e1;cases r;obtain⟨its,rv,ht,hz⟩:=I.list hq;rw[assign_Tuple];refine Rj (wpAny_standAt ?_);unfold unpack;rw[hn,hst];have hsz:n=its.toArray.size:=by rw[Rq,←rv.length,hl]
 rw[hsz];refine Rj (Tu (oG (I.ok.hd hc) ht.isList λh' hx=>?_));have I1:Inv X π σ H { s with heap:=h' }:=I.kept (t':=s.toks) λb o e=>hx b o (RU (Ry e)) e;exact h π _ σ H xs _ Q I1 (by simpa using rv) hw
def ND(h:PG X tgt t)(h':PG X tgt t'):PG X tgt (λv σ H Q=>t v σ H Q∨t' v σ H Q):=λπ s σ H v u Q I r q=>q.elim (h π s σ H v u Q I r) (h' π s σ H v u Q I r)
def Fh{k:Nat}(hc:X.calm=true)(h:DP X es (ME is))(hn:(assignEach es X.env).length=is.length:=by rfl)(hst:(assignEach es X.env).findIdx? (·.1)=none:=by rfl) :
  PG X (.Tuple es k pos) (λv σ H Q=>∃a xs,v=.ref a/\(l9 X.K H a xs∨fZ X.K H a xs)/\xs.length=is.length/\Q (z8 σ is xs) H) :=
 wR (ND (K9 hc h hn hst) (Ii hc h hn hst)) λv σ H Q ⟨a,xs,e,hq,hl,q⟩=>hq.elim (λz=>.inl ⟨a,xs,e,z,hl,hl,q⟩) λz=>.inr ⟨a,xs,e,z,hl,hl,q⟩
def fL(n:Nat)(d:D):Option (ac):=match d with
 |.tup ds=>if ds.length=n then some ds else none
 |.lst ds=>if ds.length=n then some ds else none
 |_=>none
def pH{K:Q2}(h:fL n d=some ds)(r:Rep K H d v):∃a vs,v=.ref a/\(l9 K H a vs∨fZ K H a vs)/\vs.length=n/\Reps K H ds vs:=by
 unfold fL at h;cases d with
 |tup es=>
  by_cases c:es.length=n
  .simp only[if_pos c]at h;cases h
   obtain⟨a,vs,rfl,h1,h2⟩:=aG.mp r;exact⟨a,vs,rfl,.inl h1,by rw[←h2.length];exact c,h2⟩
  .simp only[if_neg c]at h;cases h
 |lst es=>
  by_cases c:es.length=n
  .simp only[if_pos c]at h;cases h
   obtain⟨a,vs,rfl,h1,h2⟩:=aB.mp r;exact⟨a,vs,rfl,.inr h1,by rw[←h2.length];exact c,h2⟩
  .simp only[if_neg c]at h;cases h
 |_=>cases h
def xX{K:Q2}{a:Q9}(hs:aE H H')(h:l9 K H a vs∨fZ K H a vs):l9 K H' a vs∨fZ K H' a vs:=h.elim (λz=>.inl (aE.sqT hs z)) λz=>.inr (aE.sqL hs z)
def HI(is:ce)(f:am):bi:=λρ=>(f ρ).bind λd=>match fL is.length d with
 |some ds=>.ok (.nx (de ρ is ds))
 |none=>.stuck
def Me{k:Nat}(hc:X.calm=true)(he:DE X E e f)(h:DP X es (ME is))(hs:swapsWithSole [.Tuple es k tp] e pos.line X.env=pure false:=by rfl)(hw:swappedStores [.Tuple es k tp] e X.env=pure none:=by rfl)
  (h1:(assignEach [.Tuple es k tp] X.env).map (·.2)=[assign (.Tuple es k tp) X.env]:=by rfl)(hn:(assignEach es X.env).length=is.length:=by rfl)(hst:(assignEach es X.env).findIdx? (·.1)=none:=by rfl) :
  DS X E He η (.Assign [.Tuple es k tp] e pos) (HI is f):=by
 refine⟨?_⟩;refine cB (Fd he.o (Fh hc h hn hst) hs hw h1) λD σ H z9=>?_;obtain⟨Ha,ρ,h,q⟩:=z9;refine⟨Ha,ρ,h.g.sub,h.rd,?_⟩
 refine plain (k:=λd=>match fL is.length d with
  |some ds=>.ok (.nx (de ρ is ds))
  |none=>.stuck) h q λd v H' Ha' _ g rp q'=>?_
 cases e1:fL is.length d with
 |none=>rw[e1]at q';exact q'.elim
 |some ds=>
  rw[e1]at q';obtain⟨a,vs,rfl,k1,k2,k3⟩:=pH e1 rp;exact⟨a,vs,rfl,xX g.sub k1,k2,q' _ H' Ha' (aE.refl _) ((h.grow g).putAll k3)⟩
def dy(is:ce):Ev->D->av Ev:=λρ d=>match fL is.length d with
 |some ds=>.ok (de ρ is ds)
 |none=>.stuck
def iy:zB (dy is):=λρ d=>by
 unfold dy;cases fL is.length d with|none=>exact .inl rfl|some ds=>exact .inr ⟨_,rfl⟩
def jY{k:Nat}(hc:X.calm=true)(h:DP X es (ME is))(hn:(assignEach es X.env).length=is.length:=by rfl)(hst:(assignEach es X.env).findIdx? (·.1)=none:=by rfl):DG X E He η (.Tuple es k pos) (dy is) :=
 ⟨wR (Fh hc h hn hst) λv σ H Q z9=>by
  obtain⟨Ha,ρ,d,h,rp,q⟩:=z9;unfold dy at q;cases e1:fL is.length d with
  |none=>rw[e1]at q;exact q.elim
  |some ds=>
   rw[e1]at q;obtain⟨a,vs,rfl,k1,k2,k3⟩:=pH e1 rp;exact⟨a,vs,rfl,xX h.g.sub k1,k2,q _ H Ha (aE.refl _) (h.putAll k3)⟩⟩
def CI(i j:Nat)(fa:Ev->av (ac)):bi:=λρ=>(fa ρ).bind λds=>match ds with
 |[x,y]=>.ok (.nx ((ρ.set i (.sh x)).set j (.sh y)))
 |_=>.stuck
def Mf{px py pt pt2:Pos}{kt k2}(hc:X.calm=true)(hN:X.N.Nodup)(hi:X.N[i]?=some x)(hj:X.N[j]?=some y)(hij:i≠j)
  (hx:X.env.scope.names.lookup x=some .local)(hy:X.env.scope.names.lookup y=some .local)(ha:DA X E [a,b] fa)
  (hw:swappedStores [.Tuple [.Name x px,.Name y py] kt pt] (.Tuple [a,b] k2 pt2) X.env=pure (some [x,y]))
  (hs:swapsWithSole [.Tuple [.Name x px,.Name y py] kt pt] (.Tuple [a,b] k2 pt2) pos.line X.env=pure false:=by rfl) :
  DS X E He η (.Assign [.Tuple [.Name x px,.Name y py] kt pt] (.Tuple [a,b] k2 pt2) pos) (CI i j fa):=by
 refine⟨?_⟩;refine cB (K6 hc hN hi hj hij hx hy ha.o hw hs) λD σ H z9=>?_;obtain⟨Ha,ρ,h,q⟩:=z9;refine⟨Ha,ρ,h.g.sub,h.rd,?_⟩
 unfold CI at q;cases e1:fa ρ with
 |stuck=>rw[e1]at q;exact q|exn x=>rw[e1]at q;exact λC ox H' Ha' g ex=>q C ox H' Ha' (h.g.trans g) ex
 |ok ds=>
  rw[e1]at q;intro vs H1 H01 g1 r1
  match ds,r1,q with
  |[x,y],r1,q=>
   obtain⟨v,r',rfl,h1,h2⟩:=az.mp r1;obtain⟨u,r'',rfl,h3,h4⟩:=az.mp h2;rw[Reps.nil_iff.mp h4];exact⟨v,u,rfl,q _ H1 H01 g1.z (((h.grow g1).put h1).put h3)⟩
  |[],_,q=>exact q.elim
  |[_],_,q=>exact q.elim
  |_::_::_::_,_,q=>exact q.elim
end
def sD{K:Q2}:uM K "int":=by
 intro S hS;simp only[Rh,Uz,or_false]at hS;rcases hS with rfl|rfl|rfl|rfl|rfl|rfl|rfl|rfl<;>first|rfl|decide +kernel
def pQ{K:Q2}:uM K "bool":=by
 intro S hS;simp only[Rh,Uz,or_false]at hS;rcases hS with rfl|rfl|rfl|rfl|rfl|rfl|rfl|rfl<;>first|rfl|decide +kernel
def sC{K:Q2}:uM K "str":=by
 intro S hS;simp only[Rh,Uz,or_false]at hS;rcases hS with rfl|rfl|rfl|rfl|rfl|rfl|rfl|rfl<;>first|rfl|decide +kernel
def fS{K:Q2}:uM K "tuple":=by
 intro S hS;simp only[Rh,Uz,or_false]at hS;rcases hS with rfl|rfl|rfl|rfl|rfl|rfl|rfl|rfl<;>first|rfl|decide +kernel
def fG{K:Q2}:uM K "list":=by
 intro S hS;simp only[Rh,Uz,or_false]at hS;rcases hS with rfl|rfl|rfl|rfl|rfl|rfl|rfl|rfl<;>first|rfl|decide +kernel
section
variable {X:Cx}{E:XK}{He η:Hp}{e a b c:R1}{f g h:am}{pos:Pos}
def dv(i:Nat)(hN:X.N[i]?=some x:=by rfl)(hv:Cn X.env.scope x:=by first|exact Rm rfl|exact Uy (Rm rfl)|exact Uy (Uy rfl))(hd:(x==("__debug__" : Ro))=false:=by decide)
  (hcd:(x==("__classdict__" : Ro))=false:=by decide):DE X E (.Name x pos) (ae i):=Mj hN hv hd hcd
def xD(K:Q2)(mg:Ro->Option QY)(x:Ro)(d:D):Prop:=∃v u,mg x=some u/\bw v u/\∀H,Rep K H d v
def bC(k:xD X.K X.mg x d)(hg:Gl X x)(hd:(x==("__debug__" : Ro))=false:=by decide):DE X E (.Name x pos) (dC d):=by
 obtain⟨v,u,h1,h2,h3⟩:=k;exact Jo hg h1 h2 h3 hd
def eK{K:Q2}(h:mg x=some (.int i t)):xD K mg x (.int i):=⟨.int i,_,h,⟨t,rfl⟩,λ_=>ri _⟩
def IM{K:Q2}(h:mg x=some (.str i t)):xD K mg x (.str i):=⟨.str i,_,h,⟨t,rfl⟩,λ_=>Rep.str_iff.mpr rfl⟩
def IL{K:Q2}{a:Q9}(h:mg x=some (.ref a))(l:K.lookup a=some ⟨.type "tuple",od,.seq its n,sl⟩)
  (hv:bg vs its.toList)(hz:its.size<=sizeLine)(hd:∀H,Reps K H ds vs):xD K mg x (.tup ds):=⟨.ref a,_,h,rfl,λH=>aG.mpr ⟨a,vs,rfl,.inr ⟨_,its,n,l,rfl,rfl,hz,hv⟩,hd H⟩⟩
def jl(op op':D->D->av D)(f g h:am):am:=λρ=>(f ρ).bind λx=>(g ρ).bind λy=>(op x y).bind λz=>match z with
 |.bl true=>(h ρ).bind λw=>op' y w
 |.bl false=>.ok (.bl false)
 |_=>.stuck
def uJ(r:R2)(o:D->D->av D):Prop:=∀(K:Q2) (x y:D) (v u:V) (H Ha:Hp) (Q:VK) (d:D),aE Ha H->Rep K Ha x v->Rep K Ha y u->o x y=.ok d->(∀w,Rep K Ha d w->Q w H)->r v u H Q
def iz{g:Int->Int->D}(hg:∀K H i j,Rep K H (g i j) (gv i j)):uJ (E5 gv) (xf (λ_ _=>true) g):=by
 intro K x y v u H Ha Q d hs r1 r2 e q;unfold xf at e;cases x with
 |int i=>
  cases y with|int j=>simp only[if_pos]at e;cases e;exact⟨i,j,ay.mp r1,ay.mp r2,q _ (hg _ _ i j)⟩| _=>cases e
 |_=>cases e
def uK(o:D->D->av D):Prop:=∀x y,∀z,o x y≠.exn z
def pY(p:uJ r o)(p':uJ r' o')(n:uK o)(n':uK o')(σ:L2.St)(H:Hp)(Q:VK)(q:tD X.K E (jl o o' f g h) σ H Q) :
  zW r r' (tD X.K E f) (tD X.K E g) (tD X.K E h) σ H Q:=by
 obtain⟨Ha,ρ,hs,hr,q⟩:=q;refine⟨Ha,ρ,hs,hr,?_⟩;unfold jl at q;cases e1:f ρ with
 |stuck|exn x=>rw[e1]at q;exact q
 |ok x=>
  rw[e1]at q;intro v H1 H01 g1 r1;refine⟨H01,ρ,g1.sub,hr.mono g1.z,?_⟩;replace q:=post.grow (r:=(g ρ).bind λy=>(o x y).bind λz=>match z with
   |.bl true=>(h ρ).bind λw=>o' y w
   |.bl false=>.ok (.bl false)
   |_=>.stuck) q g1
  cases e2:g ρ with
  |stuck|exn x=>rw[e2]at q;exact q
  |ok y=>
   rw[e2]at q;intro u H2 H02 g2 r2;replace q:=post.grow (r:=(o x y).bind λz=>match z with
    |.bl true=>(h ρ).bind λw=>o' y w
    |.bl false=>.ok (.bl false)
    |_=>.stuck) q g2
   cases e3:o x y with
   |stuck=>rw[e3]at q;exact q.elim|exn z=>exact absurd e3 (n x y z)
   |ok z=>
    rw[e3]at q;refine p X.K x y v u H2 H02 _ z g2.sub (r1.mono g2.z) r2 e3 λw rw'=>?_;cases z with
    |bl b=>
     rw[aH.mp rw'];refine⟨b,rfl,?_⟩;cases b with
     |false=>rw[if_neg RM];exact q _ H2 H02 (bj.refl g2.sub) (rb _)
     |true=>
      rw[if_pos rfl];refine⟨H02,ρ,g2.sub,(hr.mono g1.z).mono g2.z,?_⟩;replace q:post X.K E H2 H02 ((h ρ).bind λw=>o' y w) Q:=q;cases e4:h ρ with
      |stuck|exn x=>rw[e4]at q;exact q
      |ok w2=>
       rw[e4]at q;intro v3 H3 H03 g3 r3;replace q:=post.grow (r:=o' y w2) q g3;cases e5:o' y w2 with
       |stuck=>rw[e5]at q;exact q.elim|exn z=>exact absurd e5 (n' y w2 z)
       |ok d=>
        rw[e5]at q;exact p' X.K y w2 u v3 H3 H03 Q d g3.sub (r2.mono g3.z) r3 e5 λw3 r5=>q w3 H3 H03 (bj.refl g3.sub) r5
    |_=>exact q.elim
def GK(ho:gu X (R5 op) r)(ho':gu X (R5 op') r')(p:uJ r o)(p':uJ r' o')(n:uK o)(n':uK o')(ha:DE X E a f)(hb:DE X E b g)(hc:DE X E c h)
  (hm:lastMarks [op,op'] [b,c]=false:=by with_unfolding_all rfl):DE X E (.Compare a [op,op'] [b,c] pos) (jl o o' f g h):=⟨bo (Fv ho ho' ha.o hb.o hc.o hm) (pY p p' n n')⟩
def zc(ho:gu X (R5 op) r)(ho':gu X (R5 op') r')(p:uJ r o)(p':uJ r' o')(n:uK o)(n':uK o')(ha:DE X E a f)(hb:DE X E b g)(hc:DE X E c h)
  (hm:lastMarks [op,op'] [b,c]=false:=by with_unfolding_all rfl):DT X E (.Compare a [op,op'] [b,c] pos) (jl o o' f g h):=by
 refine⟨?_⟩;refine qz (E9 ho ho' ha.o hb.o hc.o hm) λσ H Q q=>?_;have w:tD X.K E (jl o o' f g h) σ H λx H'=>∃k,x=.bl k/\Q k H':=by
  obtain⟨Ha,ρ,hs,hr,q⟩:=q;refine⟨Ha,ρ,hs,hr,?_⟩;cases e1:jl o o' f g h ρ with
  |stuck|exn x=>rw[e1]at q;exact q
  |ok d=>
   rw[e1]at q;intro v H1 H01 g1 r1;cases d with|bl b=>rw[aH.mp r1];exact⟨b,rfl,q H1 H01 g1⟩| _=>exact q.elim
 exact pY p p' n n' σ H _ w
def iC{c:Int->Int->Bool}{g:Int->Int->D}:uK (xf c g):=by
 intro x y z;unfold xf;cases x<;>cases y<;>simp<;>split<;>simp
end
def m7(i:Nat):Ev->Nat:=λρ=>match ρ[i]? with
 |some (.sh (.int j))=>j.natAbs+1
 |_=>0
section
variable {X:Cx}{E:XK}{a b:R1}{f g:am}{pos:Pos}
def bE(x y:D):av D:=match x,y with
 |.int i,.int j=>if cU i j=true then .ok (.int (i*j)) else .stuck
 |_,_=>.stuck
def ff(ha:DE X E a f)(hb:DE X E b g):DE X E (.BinOp a .Mult b pos) (aa f g bE):=pR Iv (by
 intro x y v u H Ha Q hs r1 r2 q;unfold bE at q;cases x with
 |int i=>
  cases y with
  |int j=>
   by_cases h:cU i j=true
   .simp only[if_pos h]at q
    exact⟨i,j,ay.mp r1,ay.mp r2,cU.ok h,bU hs q (ri _)⟩
   .simp only[if_neg h]at q;exact q.elim
  |_=>exact q.elim
 |_=>exact q.elim) ha hb
end
def LV(K:Q2)(tg:Ev->D->av Ev):TG:=λv σ H Q=>∃He η,tG K He η tg v σ H Q
theorem Reps.rep{K:Q2}(h:Reps K H ds vs):∀k:Nat,Reps K H (RC k ds).flatten (RC k vs).flatten
 |0=>by simp;exact Reps.nil
 |k+1=>by
  rw[Sd,Sd,T2,T2];exact h.app (Reps.rep h k)
section
variable {X:Cx}{E:XK}{a b:R1}{f g:am}{pos:Pos}
def Jr(x y:D):av D:=match x,y with
 |.lst ds,.int k=>if ds.length*k.toNat<=line/\-9223372036854775808<=k/\k<9223372036854775808 then .ok (.lst (RC k.toNat ds).flatten) else .stuck
 |_,_=>.stuck
def uV(f g:am):am:=λρ=>(f ρ).bind λx=>match x with
 |.lst ds=>(g ρ).bind λy=>Jr (.lst ds) y
 |_=>.stuck
def xp(ha:DF X E a f)(hb:DE X E b g):DE X E (.BinOp a .Mult b pos) (uV f g):=by
 refine⟨?_⟩;refine bo (Fp Lm ha.o hb.o) λσ H Q z9=>?_;obtain⟨Ha,ρ,hs,hr,q⟩:=z9;refine⟨Ha,ρ,hs,hr,?_⟩
 unfold uV at q;cases e1:f ρ with
 |stuck|exn x=>rw[e1]at q;exact q
 |ok x=>
  rw[e1]at q;cases x with
  |lst ds=>
   replace q:post X.K E H Ha ((g ρ).bind λy=>Jr (.lst ds) y) Q:=q;intro p vs H1 H01 g1 hp h0 hv rp;refine⟨H01,ρ,g1.sub,hr.mono g1.z,?_⟩;replace q:=q.grow g1;cases e2:g ρ with
   |stuck|exn x=>rw[e2]at q;exact q
   |ok y=>
    rw[e2]at q;intro u H2 H02 g2 r2;replace q:=post.grow (r:=Jr (.lst ds) y) q g2;cases y with
    |int k=>
     unfold Jr at q
     by_cases c:ds.length*k.toNat<=line/\-9223372036854775808<=k/\k<9223372036854775808
     .simp only[if_pos c]at q
      refine⟨p,k,vs,rfl,ay.mp r2,g2.s _ _ hv,by omega,by omega,by rw[←rp.length];exact ft c.1,λn hn=>?_⟩;exact q _ _ _ (aY g2.sub hn) (aB.mpr ⟨n,_,rfl,fZ.of aL,((rp.mono g2.z).rep _).mono (aY g2.sub hn).z⟩)
     .simp only[if_neg c]at q;exact q.elim
    |_=>exact q.elim
  |_=>exact q.elim
end
def je:ac->Option (bv)
 |[]=>some []
 |.str x::r=>(je r).map (x::·)
 |_=>none
theorem xT{K:Q2}{H:Hp}:∀{ds:ac}{ys:bv}{vs:al}{us:List QY},je ds=some ys->Reps K H ds vs->bg vs us->StrsAre us ys
 |[],ys,vs,us,h,r,q=>by
  cases h;rw[Reps.nil_iff.mp r]at q;cases q;exact .nil
 |d::ds,ys,vs,us,h,r,q=>by
  obtain⟨v,r',rfl,h1,h2⟩:=az.mp r;cases q with
  |cons q1 q2=>
   cases d with
   |str x=>
    unfold je at h;cases e:je ds with
    |none=>rw[e]at h;cases h
    |some zs=>
     rw[e]at h;cases h;rw[Rep.str_iff.mp h1]at q1;obtain⟨t,rfl⟩:=q1;exact .cons _ _ (xT e h2 q2)
   |_=>cases h
section
variable {X:Cx}{E:XK}{o e:R1}{fo:am}{fa:Ev->av (ac)}
def iZ(z:Ro)(ys:bv):Bool:=decide (z.length<=16)&&decide ((ys.map (·.length)).sum+ys.length<=1048576)
def Nr(K:Q2):V->al->Hp->VK->Prop:=λx xs H Q=>∃z p ds ys,x=.str z/\xs=[.ref p]/\Rep K H (.lst ds) (.ref p)/\je ds=some ys/\iZ z ys=true/\Q (.str (V0 z ys)) H
def IH:P0 X "str.join" (Nr X.K):=by
 intro π s σ H x xs v us Q I rx rs h;obtain⟨z,p,ds,ys,rfl,rfl,hr,hy,hf,q⟩:=h;obtain⟨t,rfl⟩:=rx;obtain⟨u,rfl,ru⟩:=rs.one;obtain⟨a,vs,its,ea,rfl,h1,h2,h3,h4,_⟩:=bh I hr ru;unfold iZ at hf;rw[Rn]at hf;exact join_listW h4 (by simpa using xT hy h2 h3) (of_decide_eq_true hf.1) (of_decide_eq_true hf.2) λt' k=>⟨.str (V0 z ys),H,I.tok _,⟨_,rfl⟩,q⟩
def sG(z:Ro)(xs:ac):av D:=match xs with
 |[.lst ds]=>match je ds with
  |some ys=>if iZ z ys=true then .ok (.str (V0 z ys)) else .stuck
  |none=>.stuck
 |_=>.stuck
def zl(fo:am)(fa:Ev->av (ac)):am:=λρ=>(fo ρ).bind λx=>match x with
 |.str z=>(fa ρ).bind λxs=>sG z xs
 |_=>.stuck
def Jn(ho:DE X E o fo)(ha:DA X E [e] fa)
  (hbase:Tc o "join" X.env (eval o X.env)=eval o X.env:=by rfl)
  (hfew:((SM cpos (Rk [e] X.env)).all (λx=>!x.1)&&(Vz cpos (UE [] X.env)).all (λx=>x.1.isSome)
  &&decide ([e].length+([]:List UB).length+(if([]:List UB).isEmpty then 0 else 1)<30))=true:=by exact ng rfl)
  (hline:(apos.endLine==cpos.line)=true:=by rfl) (hs:Rk [e] X.env=(false,eval e X.env)::Rk [] X.env:=by exact bB rfl) (hplain:(SM cpos (Rk [] X.env)).any (·.1)=false:=by exact cX rfl) :
  DE X E (.Call (.Attribute o "join" apos) [e] [] cpos) (zl fo fa):=by
 refine⟨?_⟩;refine bo (BE PySem.F.plainAttrs_str PySem.F.slot_str_join PySem.F.type_str_join IH ho.o ha.o hbase hfew hline hs hplain) λσ H Q z9=>?_;obtain⟨Ha,ρ,hs,hr,q⟩:=z9;refine⟨Ha,ρ,hs,hr,?_⟩
 unfold zl at q;cases e1:fo ρ with
 |stuck|exn x=>rw[e1]at q;exact q
 |ok x=>
  rw[e1]at q;intro v H1 H01 g1 r1;cases x with
  |str z=>
   rw[Rep.str_iff.mp r1];refine⟨rfl,H01,ρ,g1.sub,hr.mono g1.z,?_⟩;replace q:=post.grow (r:=(fa ρ).bind λxs=>sG z xs) q g1;cases e2:fa ρ with
   |stuck|exn x=>rw[e2]at q;exact q
   |ok xs=>
    rw[e2]at q;intro us H2 H02 g2 r2;replace q:=post.grow (r:=sG z xs) q g2;unfold sG at q
    match xs,r2,q with
    |[.lst ds],r2,q=>
     obtain⟨w,r',rfl,k1,k2⟩:=az.mp r2;rw[Reps.nil_iff.mp k2];obtain⟨p,vs,rfl,k3,k4⟩:=aB.mp k1;cases e3:je ds with
     |none=>simp only[e3]at q;exact q.elim
     |some ys=>
      simp only[e3]at q
      by_cases c:iZ z ys=true
      .rw[if_pos c]at q
       exact⟨z,p,ds,ys,rfl,rfl,k1.mono g2.sub,e3,c,bU g2.sub q (Rep.str_iff.mpr rfl)⟩
      .rw[if_neg c]at q;exact q.elim
    |[],_,q=>exact q.elim
    |d1::_::_,_,q=>cases d1<;>exact Ss q
    |[.non],_,q=>exact q.elim
    |[.bl _],_,q=>exact q.elim
    |[.int _],_,q=>exact q.elim
    |[.str _],_,q=>exact q.elim
    |[.tup _],_,q=>exact q.elim
    |[.dic _ _],_,q=>exact q.elim
    |[.exc _],_,q=>exact q.elim
    |[.ob _ _],_,q=>exact q.elim
  |_=>exact q.elim
end
section
variable {X:Cx}{E:XK}{a:R1}{f:am}{pos:Pos}
def Pm:V->Option Int->Option Int->Hp->VK->Prop:=λx lo hi H Q=>∃z,x=.str z/\z.length<=sizeLine/\Q (.str (Uo z lo hi)) H
def KO:G9 X Pm:=by
 intro π s σ H x v vl vu lo hi sl Q I rx hs pl pu h;obtain⟨z,rfl,hz,q⟩:=h;obtain⟨t,rfl⟩:=rx;have fin:∀t' k,EP X π σ Q (.str (Uo z lo hi) t') { s with toks:=k }:=λt' k=>⟨.str (Uo z lo hi),H,I.tok _,⟨_,rfl⟩,q⟩
 refine⟨"str",_,PySem.F.slot_str_getitem.lookup,typeIs_str s z t,?_⟩;cases pl with
 |none=>
  cases pu with|none=>exact wpAny_getItem_str_slice (l:=none) (u:=none) (st:=none) hs rfl (post_val_or_str ⟨Ra (VA z _ _) hz,fin⟩)|int j uj=>exact wpAny_getItem_str_slice (l:=none) (u:=some (j,uj)) (st:=none) hs rfl (post_val_or_str ⟨Ra (VA z _ _) hz,fin⟩)
 |int i ui=>
  cases pu with|none=>exact wpAny_getItem_str_slice (l:=some (i,ui)) (u:=none) (st:=none) hs rfl (post_val_or_str ⟨Ra (VA z _ _) hz,fin⟩)|int j uj=>exact wpAny_getItem_str_slice (l:=some (i,ui)) (u:=some (j,uj)) (st:=none) hs rfl (post_val_or_str ⟨Ra (VA z _ _) hz,fin⟩)
noncomputable def ra(x:D) (l h:Option Int):av D:=match x with
 |.lst ds=>.ok (.lst (l4 ds l h))
 |.str z=>if z.length<=line then .ok (.str (Uo z l h)) else .stuck
 |.tup ds=>if HT.sIx ds.length 0 l=0/\HT.sIx ds.length ds.length h=ds.length then .stuck else .ok (.tup (l4 ds l h))
 |_=>.stuck
def gK(f:am)(lo hi:Ev->av (Option Int)):am:=λρ=>(f ρ).bind λx=>(lo ρ).bind λl=>(hi ρ).bind λh=>ra x l h
def dW{lo hi:Option R1}(ha:DE X E a f)(hl:DO X E lo fl)(hh:DO X E hi fh):DE X E (.Subscript a (.Slice lo hi none p2) pos) (gK f fl fh) :=
 ⟨bo (Fo (G9.or HC (G9.or KO KN)) ha.o hl.o hh.o) (xW (m:=ra) λx v l h H Ha Q hs r q=>by
  cases x with
  |lst ds=>
   obtain⟨p,vs,rfl,h1,h2⟩:=aB.mp r;exact .inl ⟨p,vs,rfl,aE.sqL hs h1,λn hn=>q _ _ _ (aY hs hn) (aB.mpr ⟨n,_,rfl,fZ.of aL,(h2.cut l h).mono (aY hs hn).z⟩)⟩
  |str z=>
   unfold ra at q
   by_cases c:z.length<=line
   .simp only[if_pos c]at q
    exact .inr (.inl ⟨z,Rep.str_iff.mp r,ft c,bU hs q (Rep.str_iff.mpr rfl)⟩)
   .simp only[if_neg c]at q;exact q.elim
  |tup ds=>
   unfold ra at q
   by_cases c:HT.sIx ds.length 0 l=0/\HT.sIx ds.length ds.length h=ds.length
   .simp only[if_pos c]at q;exact q.elim
   .simp only[if_neg c]at q
    obtain⟨p,vs,rfl,h1,h2⟩:=aG.mp r;exact .inr (.inr ⟨p,vs,rfl,aE.sqT hs h1,by rw[←h2.length];exact c,λn hn=>q _ _ _ (aY hs hn) (aG.mpr ⟨n,_,rfl,l9.of aL,(h2.cut l h).mono (aY hs hn).z⟩)⟩)
  |_=>exact q.elim)⟩
end
def P5(z:Ro):It:=⟨λi _=>i<z.cps.size,λi H x H'=>H'=H/\∃c,z.cps[i]?=some c/\x=.str ⟨#[c]⟩,λi _=>z.cps.size<=i⟩
def zS{P:Se}{w:Sx}{K:Q2}{tg:R1}(z:Ro)(t:Tok)(it:Q9):DM P w K tg (P5 z) [it] it (λi h=>h.IsStrIter it "str_ascii_iterator" z t i) where
 mem:=by simp
 obj:=λi h st b hb=>by
  have e:b=it:=by simpa using hb
  subst e;obtain⟨o,e,c,d⟩:=st;exact⟨o,e,λv z=>by rw[d]at z;cases z⟩
 keep:=λi h h' st k=>let ⟨o,ho,r⟩:=st;⟨o,k it (by simp) o ho,r⟩
 item:=by
  intro X hP hw hK hc i π s σ H E I hf st hg;subst hP hw hK;have hg':i<z.cps.size:=hg;obtain⟨f0,f1,f2,f3,f4,f5⟩:=hf it (by simp);refine wpAny_pyNext_ascii_item st (c:=z.cps[i]) (by simp[hg']) λh' st' sb=>?_;have I1:Inv X π σ H { s with heap:=h',toks:=s.toks+1 }:=I.turned (t':=s.toks+1) (λb o hb e=>(sb.2 b hb).trans e) f0 f1 f3 f4 f5;obtain⟨o,e,c,d⟩:=id st';exact⟨_,rfl,BR (s:={ s with heap:=h',toks:=s.toks+1 }) e c d (by decide) ⟨.str ⟨#[z.cps[i]]⟩,H,I1,⟨_,rfl⟩,⟨rfl,_,by simp[hg'],rfl⟩,st',λb hb=>(hf b hb).1⟩⟩
 done:=by
  intro X hP hw hK hc i π s σ H E I hf st hg;subst hP hw hK;have hg':z.cps.size<=i:=hg;obtain⟨f0,f1,f2,f3,f4,f5⟩:=hf it (by simp);exact wpAny_pyNext_ascii_end (I.ok.hd hc) st (by simp[hg']) λh' eb=>⟨rfl,I.turned (t':=s.toks) (λb o hb e=>eb b o hb e) f0 f1 f3 f4 f5⟩
 self:=λ_ _ _ _ _ st h=>wpAny_pyIter_striter_ascii st h
def Ct{P:Se}{w:Sx}{K:Q2}{tg:R1}(z:Ro)(t:Tok)(it:Q9):DM P w K tg (P5 z) [it] it (λi h=>h.IsStrIter it "str_iterator" z t i) where
 mem:=by simp
 obj:=λi h st b hb=>by
  have e:b=it:=by simpa using hb
  subst e;obtain⟨o,e,c,d⟩:=st;exact⟨o,e,λv z=>by rw[d]at z;cases z⟩
 keep:=λi h h' st k=>let ⟨o,ho,r⟩:=st;⟨o,k it (by simp) o ho,r⟩
 item:=by
  intro X hP hw hK hc i π s σ H E I hf st hg;subst hP hw hK;have hg':i<z.cps.size:=hg;obtain⟨f0,f1,f2,f3,f4,f5⟩:=hf it (by simp);refine wpAny_pyNext_wide_item st (c:=z.cps[i]) (by simp[hg']) λh' st' sb=>?_;have I1:Inv X π σ H { s with heap:=h',toks:=s.toks+1 }:=I.turned (t':=s.toks+1) (λb o hb e=>(sb.2 b hb).trans e) f0 f1 f3 f4 f5;obtain⟨o,e,c,d⟩:=id st';exact⟨_,rfl,BR (s:={ s with heap:=h',toks:=s.toks+1 }) e c d (by decide) ⟨.str ⟨#[z.cps[i]]⟩,H,I1,⟨_,rfl⟩,⟨rfl,_,by simp[hg'],rfl⟩,st',λb hb=>(hf b hb).1⟩⟩
 done:=by
  intro X hP hw hK hc i π s σ H E I hf st hg;subst hP hw hK;have hg':z.cps.size<=i:=hg;obtain⟨f0,f1,f2,f3,f4,f5⟩:=hf it (by simp);exact wpAny_pyNext_wide_end (I.ok.hd hc) st (by simp[hg']) λh' eb=>⟨rfl,I.turned (t':=s.toks) (λb o hb e=>eb b o hb e) f0 f1 f3 f4 f5⟩
 self:=λ_ _ _ _ _ st h=>wpAny_pyIter_striter_wide st h
def PB(tl:TE):TI:=λσ H R=>tl σ H λx H1=>∃z,x=.str z/\R (P5 z) H1
def K8(hl:PE X l tl):PI X tg l (PB tl):=by
 intro π s σ H R I h;refine cT (hl π s σ H _ I h) λv s1 ⟨x,H1,I1,r1,q1⟩=>?_;obtain⟨z,rfl,q⟩:=q1;obtain⟨t,rfl⟩:=r1;have fpo:∀b∈[s1.heap.objs.size],pC X π H1 b:=λb hb=>by
  have e:b=s1.heap.objs.size:=by simpa using hb
  subst e;exact I1.fpOk (RG _) (I1.hok.fresh (RG _))
 cases ha:z.cps.all (· < 128) with|false=>exact wpAny_pyIter_wide ha ⟨s1.heap.objs.size,[s1.heap.objs.size],_,_,H1,rfl,I1.kept (t':=s1.toks) λb o e=>Ri _ e,Ct z t _,⟨_,R3 _ rfl,rfl,rfl⟩,fpo,q⟩|true=>exact wpAny_pyIter_ascii ha ⟨s1.heap.objs.size,[s1.heap.objs.size],_,_,H1,rfl,I1.kept (t':=s1.toks) λb o e=>Ri _ e,zS z t _,⟨_,R3 _ rfl,rfl,rfl⟩,fpo,q⟩
def kD(z:Ro):ac:=z.cps.toList.map λc=>.str ⟨#[c]⟩
def mq(z:Ro):(kD z).length=z.cps.size:=by unfold kD;simp
section
variable {X:Cx}{E:XK}
def NA(K:Q2):al->Hp->VK->Prop:=λxs H Q=>∃(p:Q9) (bs:List Bool),xs=[.ref p]/\fZ K H p (bs.map V.bl)/\Q (.bl (bs.all id)) H
theorem wk:∀bs:List Bool,(R4 bs.length).all (λi=>bs.getD i false)=bs.all id
 |[]=>rfl
 |b::r=>by
  rw[Rt,U9,TU,VG,TU,←wk r];rfl
def zr(hc:X.calm=true):ml X (.builtin "all") (NA X.K):=by
 intro π s σ H xs us Q I r h;obtain⟨p,bs,rfl,hq,q⟩:=h;obtain⟨u,rfl,rx⟩:=Bc r;cases rx;obtain⟨its,rv,pl,hz⟩:=I.list hq;have hlen:=rv.length;rw[Q0]at hlen;have hne:p≠s.heap.objs.size:=RU pl.lt;refine call_all_walk (wpAny_pyIter_list pl.isList ?_);have pl2:(s.heap.push { cls:=.type "list_iterator",data:=.fields #[.ref p,.int 0 0] }).IsList p its.toArray:=by
  obtain⟨o,k1,k2⟩:=pl.isList;exact⟨o,Ri _ k1,k2⟩
 refine⟨s.heap.objs.size,_,_,_,_,_,λi=>bs.getD i false,rfl,Walks.list (A:=X.A.in1) (I.ok.hd hc) s.heap.objs.size p hne its.toArray,⟨⟨_,R3 _ rfl,rfl,rfl⟩,pl2⟩,?_,λh' tk hk=>?_⟩
 .intro i v s' Q' E' hv hQ
  have hv':its[i]?=some v:=by simpa using hv
  have hi:i<its.length:=(Q5.mp hv').1;obtain⟨w,e1,e2⟩:=rv.get (show(bs.map V.bl)[i]?=some (V.bl (bs.getD i false)) by
   rw[Q7,QW (by omega)];simp[List.getD,QW (show i<bs.length by omega)])
  rw[hv']at e1;cases e1;obtain rfl:v=SG _:=e2;exact SK hQ
 .have hall:(R4 its.toArray.size).all (λi=>bs.getD i false)=bs.all id:=by
   rw[Rq,←hlen];exact wk bs
  rw[hall];exact⟨.bl _,H,I.kept (t':=tk) (λb o e=>hk b o (by simp only[RP];exact RU (Ry e)) (Ri _ e)),rfl,q⟩
def eM:ac->Option (List Bool)
 |[]=>some []
 |.bl b::r=>(eM r).map (b::·)
 |_=>none
theorem vZ{K:Q2}{H:Hp}:∀{ds:ac}{bs:List Bool}{vs:al},eM ds=some bs->Reps K H ds vs->vs=bs.map V.bl
 |[],bs,vs,h,r=>by cases h;exact Reps.nil_iff.mp r
 |d::ds,bs,vs,h,r=>by
  obtain⟨v,r',rfl,h1,h2⟩:=az.mp r;cases d with
  |bl x=>
   unfold eM at h;cases e:eM ds with
   |none=>rw[e]at h;cases h
   |some zs=>
    rw[e]at h;cases h;rw[aH.mp h1,vZ e h2];rfl
  |_=>cases h
def ug(x:D):av D:=match x with
 |.lst ds=>match eM ds with
  |some bs=>.ok (.bl (bs.all id))
  |none=>.stuck
 |_=>.stuck
def GR:mn X E (NA X.K) (m1 ug):=zt λx v H Ha Q hs r q=>by
 cases x with
 |lst ds=>
  unfold ug at q;obtain⟨p,vs,rfl,h1,h2⟩:=aB.mp r;cases e:eM ds with
  |none=>simp only[e]at q;exact q.elim
  |some bs=>
   simp only[e]at q;exact⟨p,bs,rfl,by rw[←vZ e h2];exact aE.sqL hs h1,bU hs q (rb _)⟩
 |_=>exact q.elim
end
end DL
namespace L2
open PySem PySem.Spec PyProof.Rows
section
variable {κ:Type}[DecidableEq κ]
def qi(kvs:List (κ×V))(k:κ):Option V:=(kvs.find? λkv=>decide (kv.1=k)).map (·.2)
def kG(kvs:List (κ×V))(k:κ)(v:V):List (κ×V) :=
 if(kvs.any λkv=>decide (kv.1=k))=true then kvs.map (λkv=>if kv.1=k then(kv.1,v) else kv) else kvs++[(k,v)]
def mK{p:κ×V}{r:List (κ×V)}{k:κ}(e:p.1=k):qi (p::r) k=some p.2:=by simp[qi,Ui,e]
def kB{p:κ×V}{r:List (κ×V)}{k:κ}(e:¬p.1=k):qi (p::r) k=qi r k:=by simp[qi,Ui,e]
theorem xM(k:κ):∀kvs:List (κ×V),(kvs.any λkv=>decide (kv.1=k))=(qi kvs k).isSome
 |[]=>rfl
 |p::r=>by
  rw[Tf]
  by_cases e:p.1=k
  .simp only[mK e,decide_eq_true e,WA,Option.isSome_some]
  .rw[kB e,decide_eq_false e,Ug];exact xM k r
def kL(kvs:List (κ×V))(k:κ)(v:V):(kG kvs k v).length<=kvs.length+1:=by
 unfold kG;split
 .rw[Q0];omega
 .rw[RQ,Rt,TQ];omega
def pz.isSome_eq(r:pz o u):o.isSome=u.isSome:=by
 cases o with
 |none=>cases u with
  |none=>rfl
  |some _=>exact(show False from r).elim
 |some _=>cases u with
  |none=>exact(show False from r).elim
  |some _=>rfl
def KV.val{kvs:List (κ×V)}{vs:List (κ×QY)}(r:KV kvs vs)(k:κ):pz (qi kvs k) (valueAt vs k):=by
 unfold KV at r
 induction r with
 |nil=>exact S3
 |@cons p q ps qs h t ih=>
  obtain⟨h1,h2⟩:=h
  by_cases e:p.1=k
  .have e':q.1=k:=h1.symm.trans e
   have b:valueAt (q::qs) k=some q.2:=by simp[valueAt,Ui,e']
   rw[mK e,b];exact h2
  .have e':¬q.1=k:=λz=>e (h1.trans z)
   have b:valueAt (q::qs) k=valueAt qs k:=by simp[valueAt,Ui,e']
   rw[kB e,b];exact ih
def KV.any{kvs:List (κ×V)}{vs:List (κ×QY)}(r:KV kvs vs)(k:κ):(kvs.any λkv=>decide (kv.1=k))=vs.any λkv=>decide (kv.1=k):=by
 unfold KV at r
 induction r with|nil=>rfl|cons h t ih=>rw[Tf,Tf,ih,h.1]
def KV.repl{kvs:List (κ×V)}{vs:List (κ×QY)}(r:KV kvs vs)(k:κ){y:V}{u:QY}(ry:bw y u) :
  KV (kvs.map λkv=>if kv.1=k then(kv.1,y) else kv) (vs.map λkv=>if kv.1=k then(kv.1,u) else kv):=by
 unfold KV at r ⊢
 induction r with
 |nil=>exact .nil
 |@cons p q ps qs h t ih=>
  rw[Q6,Q6];refine .cons ?_ ih;obtain⟨h1,h2⟩:=h
  by_cases e:p.1=k
  .rw[if_pos e,if_pos (h1.symm.trans e)];exact⟨h1,ry⟩
  .rw[if_neg e,if_neg (λz=>e (h1.trans z))];exact⟨h1,h2⟩
def KV.put{kvs:List (κ×V)}{vs:List (κ×QY)}(r:KV kvs vs)(k:κ){y:V}{u:QY}(ry:bw y u):KV (kG kvs k y) (stored vs k u):=by
 unfold kG stored;rw[r.any k]
 by_cases e:(vs.any λkv=>decide (kv.1=k))=true
 .rw[if_pos e,if_pos e];exact r.repl k ry
 .rw[if_neg e,if_neg e];exact Paired.snoc r ⟨rfl,ry⟩
def KV.length{kvs:List (κ×V)}{vs:List (κ×QY)}(r:KV kvs vs):kvs.length=vs.length:=Wf r
end
def vO{k:iF}(r:bw (kV k) u):(dF P w).is k u=true:=by
 cases k with|inl i=>obtain⟨t,e⟩:=(show ∃t,u=S2 i t from r);subst e;exact yx P w i t|inr x=>obtain⟨t,e⟩:=(show ∃t,u=S1 x t from r);subst e;exact yw P w x t
theorem vP:∀{ks:List iF}{us:List QY},bg (ks.map kV) us->ItemsAre (dF P w) ks us
 |[],_,r=>by rw[Tt]at r;cases r;exact .nil
 |k::ks,_,r=>by
  rw[Q6]at r;cases r with|cons h t=>exact .cons (vO h) (vP t)
abbrev KT(H:Hp):List (List iF×V)->List (List iF×Q9×QY)->Prop:=Paired λp q=>p.1=q.1/\H q.2.1=some (.tup (p.1.map kV))/\bw p.2 q.2.2
def KT.val(r:KT H kvs xs)(k:List iF):pz (qi kvs k) ((atKey xs k).map (·.2)):=by
 induction r with
 |nil=>exact S3
 |@cons p q ps qs h t ih=>
  obtain⟨h1,_,h2⟩:=h
  by_cases e:p.1=k
  .have e':q.1=k:=h1.symm.trans e
   have b:atKey (q::qs) k=some q.2:=by simp[atKey,Ui,e']
   rw[mK e,b];exact h2
  .have e':¬q.1=k:=λz=>e (h1.trans z)
   have b:atKey (q::qs) k=atKey qs k:=by simp[atKey,Ui,e']
   rw[kB e,b];exact ih
def KT.repl(r:KT H kvs xs)(k:List iF)(ry:bw y u) :
  KT H (kvs.map λkv=>if kv.1=k then(kv.1,y) else kv) (xs.map (putAt k u)):=by
 induction r with
 |nil=>exact .nil
 |@cons p q ps qs h t ih=>
  rw[Q6,Q6];refine .cons ?_ ih;obtain⟨h1,h2,h3⟩:=h;unfold putAt
  by_cases e:p.1=k
  .rw[if_pos e,if_pos (h1.symm.trans e)];exact⟨h1,h2,ry⟩
  .rw[if_neg e,if_neg (λz=>e (h1.trans z))];exact⟨h1,h2,h3⟩
def KT.put(r:KT H kvs xs)(k:List iF)(hb:H b=some (.tup (k.map kV)))(ry:bw y u) :
  KT H (kG kvs k y) (storedH xs k b u):=by
 have e:(kvs.any λkv=>decide (kv.1=k))=(atKey xs k).isSome:=by
  rw[xM,(r.val k).isSome_eq,VD]
 unfold kG storedH;rw[e]
 by_cases q:(atKey xs k).isSome=true
 .rw[if_pos q,if_pos q];exact r.repl k ry
 .rw[if_neg q,if_neg q];exact Paired.snoc r ⟨rfl,hb,ry⟩
def KT.keeps(r:KT H kvs xs)(ht:∀b ys,H b=some (.tup ys)->H' b=some (.tup ys)):KT H' kvs xs :=
 lu r λ_ _ z=>⟨z.1,ht _ _ z.2.1,z.2.2⟩
section
variable {P:Se}{w:Sx}{H:Hp}{h:RA}{a:Q9}
def JZ(ok:jt P w H h)(e:Rd H a u):cy P w H h a u:=e.ok ok
def ze(ok:jt P w H h)(e:Rd H a (.dK kvs)):kvs.length<=sizeLine/\(a==TK)=false/\∃vs,KV kvs vs/\h.DictOf (dF P w) a vs :=
 show cy P w H h a (.dK kvs) from JZ ok e
def Kf(ok:jt P w H h)(e:H a=some (.dK kvs)):kvs.length<=sizeLine/\(a==TK)=false/\∃vs,KV kvs vs/\h.DictOf (dF P w) a vs:=ze ok (.inl e)
def sE(ok:jt P w H h)(e:H a=some (.tup (ks.map kV))):(tupleKind (dF P w)).is h ks a:=by
 obtain⟨_,its,r,o,h1,h2,n,h3⟩:=(show cy P w H h a (.tup (ks.map kV)) from ok a _ e)
 exact⟨o,its.toArray,n,h1,h2,h3,by simpa using vP r⟩
def zb(ok:jt P w H h)(e:Rd H a (.dT kvs)):kvs.length<=sizeLine/\(a==TK)=false /\
  ∃xs,KT H kvs xs/\h.DictOfH (tupleKind (dF P w)) a xs:=by
 obtain⟨z,y,xs,r,o,es,ep,h1,h2,h3,h4,h5⟩:=(show cy P w H h a (.dT kvs) from JZ ok e)
 refine⟨z,y,xs,r,o,es,ep,h1,h2,h3,h4,λx hx=>?_,h5⟩;have all:∀{l:List (List iF×V)}{m:List (List iF×Q9×QY)},KT H l m->∀x∈m,(tupleKind (dF P w)).is h x.1 x.2.1:=by
  intro l m q
  induction q with
  |nil=>intro x hx;exact nomatch hx
  |@cons p q ps qs hq t ih=>
   intro x hx;rcases Rh.mp hx with e|hx
   .subst e
    exact sE ok (by rw[←hq.1];exact hq.2.1)
   .exact ih x hx
 exact all r x hx
def Oc(ok:jt P w H h)(e:H a=some (.dT kvs)):kvs.length<=sizeLine/\(a==TK)=false /\
  ∃xs,KT H kvs xs/\h.DictOfH (tupleKind (dF P w)) a xs:=zb ok (.inl e)
end
def xF(H:Hp)(a:Q9)(y:V)(r:Option V):Prop :=
 (∃kvs k,Rd H a (.dK kvs)/\y=kV k/\r=qi kvs k)∨∃kvs k b,Rd H a (.dT kvs)/\y=.ref b/\H b=some (.tup (k.map kV))/\r=qi kvs k
noncomputable def DV(H:Hp) (a:Q9) (y v:V) (H':Hp):Prop :=
 (∃kvs k,H a=some (.dK kvs)/\y=kV k/\kvs.length<sizeLine/\H'=upd H a (.dK (kG kvs k v))) ∨
 ∃kvs k b,H a=some (.dT kvs)/\y=.ref b/\H b=some (.tup (k.map kV))/\kvs.length<sizeLine/\H'=upd H a (.dT (kG kvs k v))
theorem DV.k{k:iF}(e:H a=some (.dK kvs))(hl:kvs.length<sizeLine):DV H a (kV k) v (upd H a (.dK (kG kvs k v))):=.inl ⟨kvs,k,e,rfl,hl,rfl⟩
section
variable {X:Cx}{π:List (Q9×Obj)}{σ:St}{H:Hp}{s:Rg}{a:Q9}{y v:V}{u r:QY}{o:Option V}{A:Sv}{E:QY->Rg->Prop}
def Inv.big(I:Inv X π σ H s):TK<s.heap.objs.size:=by
 have h:Rr<s.heap.objs.size:=(I.mod.glob.keeps I.bk).lt;exact Nat.lt_trans (by decide) h
def Dq(hu:A.units+1<TY)(I:Inv X π σ H s)(g:xF H a y (some v))(ry:bw y u)(h:∀w' s',Inv X π σ H s'->bw v w'->Q w' s') :
  RH (RB X.prog X.w) A (getItem (.ref a) u) Q E s:=by
 rcases g with⟨kvs,k,e,ey,l⟩|⟨kvs,k,b,e,ey,eb,l⟩
 .subst ey
  obtain⟨z,hd,vs,rel,dd⟩:=ze I.hok e;obtain⟨w',hw,rw'⟩:=pz.some_of (v:=v) (o:=valueAt vs k) (by rw[l];exact rel.val k);exact wpAny_getItem_of (vO ry) dd.mapOf hw (h w' _ (I.tok _) rw')
 .subst ey
  cases (show u=RY b from ry);obtain⟨z,hd,xs,rel,dd⟩:=zb I.hok e;obtain⟨w',hw,rw'⟩:=pz.some_of (v:=v) (o:=(atKey xs k).map (·.2)) (by rw[l];exact rel.val k);obtain⟨p,hp,hp2⟩:=U7.mp hw;refine wpAny_getItem_heap (tupleKind_room_in1 hu) (sE I.hok eb) dd hp ?_;rw[hp2];exact h w' _ (I.tok _) rw'
def PR(hu:A.units+1<TY)(I:Inv X π σ H s)(g:xF H a y o)(ry:bw y u)(h:∀s',Inv X π σ H s'->Q (.bool o.isSome) s') :
  RH (RB X.prog X.w) A (R5 .In u (.ref a)) Q E s:=by
 rcases g with⟨kvs,k,e,ey,l⟩|⟨kvs,k,b,e,ey,eb,l⟩
 .subst ey
  obtain⟨z,hd,vs,rel,dd⟩:=ze I.hok e;refine wpAny_in_of (vO ry) hd dd.mapOf ?_;rw[←(rel.val k).isSome_eq,←l];exact h _ (I.tok _)
 .subst ey
  cases (show u=RY b from ry);obtain⟨z,hd,xs,rel,dd⟩:=zb I.hok e;refine wpAny_in_heap (tupleKind_room_in1 hu) (sE I.hok eb) hd dd ?_;have q:=(rel.val k).isSome_eq;rw[VD]at q;rw[←q,←l];exact h _ (I.tok _)
def Jq(hu:A.units+1<TY)(I:Inv X π σ H s)(g:xF H a y o)(ry:bw y u)(h:∀s',Inv X π σ H s'->Q (.bool (!o.isSome)) s') :
  RH (RB X.prog X.w) A (R5 .NotIn u (.ref a)) Q E s:=by
 rcases g with⟨kvs,k,e,ey,l⟩|⟨kvs,k,b,e,ey,eb,l⟩
 .subst ey
  obtain⟨z,hd,vs,rel,dd⟩:=ze I.hok e;refine wpAny_notIn_of (vO ry) hd dd.mapOf ?_;rw[←(rel.val k).isSome_eq,←l];exact h _ (I.tok _)
 .subst ey
  cases (show u=RY b from ry);obtain⟨z,hd,xs,rel,dd⟩:=zb I.hok e;refine wpAny_notIn_heap (tupleKind_room_in1 hu) (sE I.hok eb) hd dd ?_;have q:=(rel.val k).isSome_eq;rw[VD]at q;rw[←q,←l];exact h _ (I.tok _)
def xt(I:Inv X π σ H s)(mu:OB (H a))(hs:UO a s.heap h')(he:∃q,h'.get? a=some q)(new:cy X.prog X.w (upd H a ob) h' a ob) :
  Inv X π σ (upd H a ob) { s with heap:=h',toks:=t' } :=
 I.write (x:=a) (e:=a) mu (.inl rfl) (λb q hb z=>(hs.2 b hb).trans z) he new
def GB(z:kvs.length<=sizeLine)(hd:(a==TK)=false)(rel:KV kvs vs)(dd:h'.DictOf (dF P w) a vs) :
  cy P w H' h' a (.dK kvs):=⟨z,hd,vs,rel,dd⟩
def Dp(hu:A.units+1<TY)(I:Inv X π σ H s)(g:DV H a y v H')(ry:bw y u)(rv:bw v r)(h:∀s',Inv X π σ H' s'->Q () s') :
  RH (RB X.prog X.w) A (setItem (.ref a) u r) Q E s:=by
 rcases g with⟨kvs,k,e,ey,l,eH⟩|⟨kvs,k,b,e,ey,eb,l,eH⟩
 .subst ey eH
  obtain⟨z,hd,vs,rel,dd⟩:=Kf I.hok e;have hz:vs.length<=sizeLine:=by rw[←rel.length];exact z
  have hl:(kG kvs k v).length<=sizeLine:=by have:=kL kvs k v;omega
  refine wpAny_setItem_pairs (hsz:=hz) (vO ry) dd λh' dd' hs=>h _ ?_;have he:∃q,h'.get? a=some q:=let ⟨q,_,_,hq,_⟩:=dd';⟨q,hq⟩;exact xt I (by rw[e];exact S3) hs he (GB hl hd (rel.put k rv) dd')
 .subst ey eH
  cases (show u=RY b from ry);obtain⟨z,hd,xs,rel,dd⟩:=Oc I.hok e;have hz:xs.length<=sizeLine:=by rw[←Wf rel];exact z
  have hl:(kG kvs k v).length<=sizeLine:=by have:=kL kvs k v;omega
  refine wpAny_setItem_heap (hsz:=hz) (tupleKind_room_in1 hu) (sE I.hok eb) dd λh' dd' hs=>h _ ?_;obtain⟨q,es,ep,hq,h2,h3,h4,_,h5⟩:=dd';refine xt I (by rw[e];exact S3) hs ⟨q,hq⟩ ⟨hl,hd,_,(rel.put k eb rv).keeps λc ys ec=>?_,q,es,ep,hq,h2,h3,h4,h5⟩;rw[aF (NR ec e (λz=>nomatch z))];exact ec
end
def Mx(i:R1):Prop:=∀ov iv,subscripted i false ov iv=operate [ov,iv] (getItem ov iv)
def HA{T id:String} 
  (hl:U6 (.type T) "__getitem__"=pure (some (.builtin id)))(hs:Mx slice)
  (h:RH (RB prog w) A (eval value env) (λo si=>RH (RB prog w) A (eval slice env) (λi sj=>sj.TypeIs o T/\RH (RB prog w) A (getItem o i) Q E sj) E si) E s) :
  RH (RB prog w) A (eval (.Subscript value slice pos) env) Q E s:=by
 refine Subscript_ (S8 h (λo si h₁=>S8 h₁ (λi sj hU=>?_) λ_ _ x=>x) λ_ _ x=>x);obtain⟨hT,hU⟩:=hU;unfold subscriptTail;refine Rj ?_;rw[getitemInPython_of_ne hT.not_modules];refine Rj (wpAny_specialOf hT hl ?_);have fin:RH (RB prog w) A (subscripted slice false o i) (λr sn=>RH (RB prog w) A (letTemporaryGo value o r >>= λ_=>pure r) Q E sn) E sj:=by
  rw[hs o i];exact wpAny_operating (S8 hU (λr sn hV=>Rj (wpAny_letTemporaryGo (RI hV))) λ_ _ x=>x)
 first
  |exact RI (Rj fin)
  |exact Rj (RI (Rj fin))
  |exact Rj fin
def zf(I:Inv X π σ H s)(g:xF H a y o):s.TypeIs (.ref a) "dict":=by
 rcases g with⟨kvs,k,e,_,_⟩|⟨kvs,k,b,e,_,_,_⟩
 .obtain⟨_,_,vs,_,dd⟩:=ze I.hok e
  exact dd.typeIs
 .obtain⟨_,_,xs,_,dd⟩:=zb I.hok e
  exact dd.typeIs
def Nc(td ty:TE):TE:=λσ H Q=>td σ H λx H1=>ty σ H1 λy H2=>∃a v,x=.ref a/\xF H2 a y (some v)/\Q v H2
def Nm(td ty tv:TE):TS:=λD σ H=>tv σ H λv H1=>td σ H1 λx H2=>ty σ H2 λy H3=>∃a H4,x=.ref a/\DV H3 a y v H4/\D.nx σ H4
section
variable {X:Cx}{o i e value:R1}{pos pos' tpos:Pos}{td ty tv:TE}
def Im(hu:X.A.units+1<TY)(ho:PE X o td)(hi:PE X i ty)(hs:Mx i):PE X (.Subscript o i pos) (Nc td ty):=by
 intro π s σ H Q I h;refine HA PySem.F.slot_dict_getitem.lookup hs (cT (ho π s σ H _ I h) λu s1 ⟨x,H1,I1,rx,q1⟩=>cT (hi π s1 σ H1 _ I1 q1) λiv s2 z9=>?_);obtain⟨y,H2,I2,ry,a,v,ex,g,q2⟩:=z9;subst ex;obtain rfl:u=RY a:=rx;exact⟨zf I2 g,Dq hu I2 g ry λw' s3 I3 rw'=>⟨v,H2,I3,rw',q2⟩⟩
def HY(hu:X.A.units+1<TY)(ho:PE X o td)(hi:PE X i ty)(hv:PE X value tv)(hs:SD value (some (.Subscript o i pos')) pos.line X.env=pure false) :
  PS X (.Assign [.Subscript o i pos'] value pos) (Nm td ty tv):=by
 intro π s σ H D I h;refine wpAny_Assign_Subscript (cT (hv π s σ H _ I h) λr s1 ⟨v,H1,I1,rv,q1⟩=>cT (ho π s1 σ H1 _ I1 q1) λu s2 ⟨x,H2,I2,rx,q2⟩=>cT (hi π s2 σ H2 _ I2 q2) λiv s3 z9=>?_) hs;obtain⟨y,H3,I3,ry,a,H4,ex,g,q3⟩:=z9;subst ex;obtain rfl:u=RY a:=rx;exact Dp hu I3 g ry rv λs4 I4=>⟨σ,H4,I4,q3⟩
end
def GC(h:RA)(hb:TK<h.objs.size):cy P w H (h.push { cls:=.type "dict",data:=.dict #[] }) h.objs.size (.dK []) :=
 ⟨Uq _,beq_eq_false_iff_ne.mpr (R7 (RU hb)),[],.nil,Heap.DictOf.new h⟩
def zV:List (TE×TE)->St->Hp->(List (V×V)->Hp->Prop)->Prop
 |[],_,H,Q=>Q [] H
 |(tk,tv)::r,σ,H,Q=>tk σ H λx H1=>tv σ H1 λy H2=>zV r σ H2 λps H3=>Q ((x,y)::ps) H3
abbrev VV:List (V×V)->List (QY×QY)->Prop:=Paired λp q=>bw p.1 q.1/\bw p.2 q.2
noncomputable def OS(X:Cx) (pos:Pos) (keys:List (Option R1)) (values:List R1) (trs:List (TE×TE)):Prop :=
 ∀(π:List (Q9×Obj)) (s:Rg) (σ:St) (H:Hp) (Q:List (V×V)->Hp->Prop),Inv X π σ H s->zV trs σ H Q ->
  RH (RB X.prog X.w) X.A (evalPairs (pairTrees keys values X.env pos)) (λvs s'=>∃ps H',Inv X π σ H' s'/\VV ps vs/\Q ps H') X.xe s
def HZ:OS X pos [] [] []:=λπ s σ H Q I h=>pairTrees_nil_walk ⟨[],H,I,.nil,h⟩
def Fe{k v:R1}(hk:PE X k tk)(hv:PE X v tv)(hr:OS X pos ks vs trs) :
  OS X pos (some k::ks) (v::vs) ((tk,tv)::trs):=λπ s σ H Q I h=>
 pairTrees_cons_walk (cT (hk π s σ H _ I h) λu s1 ⟨x,H1,I1,rx,q1⟩=>cT (hv π s1 σ H1 _ I1 q1) λw2 s2 ⟨y,H2,I2,ry,q2⟩ =>
  cT (hr π s2 σ H2 _ I2 q2) λws s3 ⟨ps,H3,I3,rel,q3⟩=>⟨(x,y)::ps,H3,I3,.cons ⟨rx,ry⟩ rel,q3⟩)
def rR(kvs more:List (iF×V)):List (iF×V):=more.foldl (λacc kv=>kG acc kv.1 kv.2) kvs
def KV.merge:∀{more:List (iF×V)}{rs:List (iF×QY)}{kvs:List (iF×V)}{vs:List (iF×QY)},KV more rs->KV kvs vs->KV (rR kvs more) (merged vs rs):=by
 intro more rs kvs vs r;unfold KV at r
 induction r generalizing kvs vs with
 |nil=>intro q;exact q
 |@cons p q ps qs h t ih=>
  intro r0;have e:KV (kG kvs p.1 p.2) (stored vs q.1 q.2):=by
   have:=r0.put p.1 h.2;rw[←h.1];exact this
  exact ih e
theorem mi:∀(more kvs:List (iF×V)),(rR kvs more).length<=kvs.length+more.length
 |[],kvs=>by show kvs.length<=kvs.length+0;omega
 |p::r,kvs=>by
  have h1:=mi r (kG kvs p.1 p.2);have h2:=kL kvs p.1 p.2;show(rR (kG kvs p.1 p.2) r).length<=_;rw[Rt];omega
theorem uv:∀{kvs:List (iF×V)}{ws:List (QY×QY)},VV (kvs.map λkv=>(kV kv.1,kv.2)) ws->∃rs,Carries (dF P w) ws rs/\KV kvs rs
 |[],_,r=>by rw[Tt]at r;cases r;exact⟨[],S3,.nil⟩
 |p::kvs,_,r=>by
  rw[Q6]at r;cases r with
  |@cons a b as bs h t=>
   obtain⟨rs,c,q⟩:=uv (P:=P) (w:=w) t;obtain⟨b1,b2⟩:=b;exact⟨(p.1,b2)::rs,⟨vO h.1,rfl,c⟩,.cons ⟨rfl,h.2⟩ q⟩
def Nb(trs:List (TE×TE)):TE:=λσ H Q=>∀p,H p=none->zV trs σ (upd H p (.dK [])) λps H2=>H2 p=some (.dK [])/\∃kvs:List (iF×V),ps=kvs.map (λkv=>(kV kv.1,kv.2))/\kvs.length<=15/\Q (.ref p) (upd H2 p (.dK (rR [] kvs)))
def Il(h:OS X pos keys values trs)(hall:keys.all (·.isSome)=true)(hl:keys.length=values.length)(h0:keys≠[])
  (h15:keys.length<=15):PE X (.Dict keys values pos) (Nb trs):=by
 intro π s σ H Q I q;have hn:=I.hok.fresh (RG s.heap.objs.size);have I1:=I.laid (a:=s.heap.objs.size) (o:=.dK []) (h':=s.heap.push { cls:=.type "dict",data:=.dict #[] }) (t':=s.toks) (λ_ _ q=>Ri _ q) (RG _) (GC s.heap I.big);refine wpAny_Dict_walk (knd:=dF X.prog X.w) hall hl h0 h15 (cT (h π _ σ _ _ I1 (q _ hn)) λws s2 ⟨ps,H2,I2,rel,e,kvs,ep,lk,q2⟩=>?_);subst ep;obtain⟨rs,c,rk⟩:=uv (P:=X.prog) (w:=X.w) rel;obtain⟨z,hd,vs0,r0,dd⟩:=Kf I2.hok e;cases r0;refine⟨rs,c,dd,λh' dd' hs=>⟨.ref s.heap.objs.size,_,?_,rfl,q2⟩⟩;have hz:(rR [] kvs).length<=sizeLine:=by
  have h1:=mi kvs [];rw[TQ]at h1;rw[sizeLine_eq];omega
 have he:∃q,h'.get? s.heap.objs.size=some q:=let ⟨q,_,_,hq,_⟩:=dd';⟨q,hq⟩;exact xt I2 (by rw[e];exact S3) hs he (GB hz hd (rk.merge .nil) dd')
end L2
namespace DL
open PySem PySem.Spec PyProof.Rows L2
section
variable {X:Cx}{E:XK}{e:R1}{f:am}{pos p1:Pos}
def dOne(x:Ro)(d:D):av D:=.ok (.dic [x] [d])
end
def jm(cells:List (Ro×Q9)):List (Ro×SR)->List (Ro×Q9)->List (Ro×Q9)
 |[],acc=>acc
 |(n,k)::r,acc=>if(k==Td)=true then jm cells r ((n,(cells.lookup n).getD 0)::acc) else jm cells r acc
def vd(h:∀x∈scope.names,x.2=.free->∃c,env.cells.lookup x.1=some c):closureFor scope env=pure (jm env.cells scope.names []):=by
 simp only[closureFor];have key:∀(names:List (Ro×SR)) (acc:List (Ro×Q9)),(∀x∈names,x.2=.free->∃c,env.cells.lookup x.1=some c) ->
   (forIn names acc λ(x:Ro×SR) (z:List (Ro×Q9))=>
      if(x.snd==Td)=true then do
       let y ←cellOf env x.fst
       pure (Uk ((x.fst,y)::z))
      else(pure (Uk z):Sem _))=pure (jm env.cells names acc):=by
  intro names
  induction names with
  |nil=>intro acc _;rfl
  |cons x r ih=>
   intro acc hh;obtain⟨n,k⟩:=x;rw[List.forIn_cons]
   by_cases hk:(k==Td)=true
   .obtain⟨c,hc⟩:=hh (n,k) Q3 (by simpa using hk)
    have hcell:cellOf env n=pure c:=by unfold cellOf;rw[show env.cells.lookup n=some c from hc]
    simp only[hk,if_true];rw[hcell];have:=ih ((n,c)::acc) (λy hy=>hh y (QX _ hy));rw[show jm env.cells ((n,k)::r) acc=jm env.cells r ((n,c)::acc) by
     show(if(k==Td)=true then _ else _)=_;rw[if_pos hk,show env.cells.lookup n=some c from hc];rfl]
    rw[←this];rfl
   .have:=ih acc (λy hy=>hh y (QX _ hy))
    rw[if_neg hk];rw[show jm env.cells ((n,k)::r) acc=jm env.cells r acc by
     show(if(k==Td)=true then _ else _)=_;rw[if_neg hk]]
    rw[←this];rfl
 rw[key _ _ h];rfl
theorem uo{cells:List (Ro×Q9)}:∀{names:List (Ro×SR)}{acc:List (Ro×Q9)}{x:Ro}{c:Q9},(∀y∈names,y.2=.free->∃c,cells.lookup y.1=some c) ->
  (jm cells names acc).lookup x=some c->acc.lookup x=some c∨cells.lookup x=some c
 |[],acc,x,c,_,h=>.inl h
 |(n,k)::r,acc,x,c,hh,h=>by
  unfold jm at h
  by_cases hk:(k==Td)=true
  .rw[if_pos hk]at h
   obtain⟨d,hd⟩:=hh (n,k) Q3 (by simpa using hk);rcases uo (λy hy=>hh y (QX _ hy)) h with h|h
   .rw[So]at h
    cases e:x==n with
    |true=>
     rw[e]at h;rw[show cells.lookup n=some d from hd]at h;cases h;rw[eq_of_beq e];exact .inr hd
    |false=>rw[e]at h;exact .inl h
   .exact .inr h
  .rw[if_neg hk]at h
   exact uo (λy hy=>hh y (QX _ hy)) h
theorem pO{α:Type}:∀{l:List (Ro×α)},(∃v,(x,v)∈l)->∃v,l.lookup x=some v
 |[],⟨v,h⟩=>by cases h
 |(n,w)::r,⟨v,h⟩=>by
  rw[So];cases e:x==n with
  |true=>exact⟨w,rfl⟩
  |false=>
   rcases Rh.mp h with h|h
   .cases h;simp at e
   .exact pO ⟨v,h⟩
theorem ur:∀{names:List (Ro×SR)}{acc:List (Ro×Q9)},(x,c)∈acc->(x,c)∈jm cells names acc
 |[],acc,h=>h
 |(n,k)::r,acc,h=>by
  unfold jm
  by_cases hk:(k==Td)=true
  .rw[if_pos hk];exact ur (QX _ h)
  .rw[if_neg hk];exact ur h
def uq:∀{names:List (Ro×SR)}{acc:List (Ro×Q9)},(x,Td)∈names->∃c,(jm cells names acc).lookup x=some c:=by
 intro names
 induction names with
 |nil=>intro acc h;cases h
 |cons y r ih=>
  intro acc h;obtain⟨n,k⟩:=y;unfold jm;rcases Rh.mp h with h|h
  .cases h
   rw[if_pos (by rfl)];exact pO ⟨_,ur Q3⟩
  .by_cases hk:(k==Td)=true
   .rw[if_pos hk];exact ih h
   .rw[if_neg hk];exact ih h
noncomputable def fH(X:Cx) (N:bv) (scope:UU) (s:Rg) (H:Hp) (C:Q9) (fp:List Q9) (pn:List (Q9×Obj)):Cx :=
 { X with N:=N,sf:=s,Ha:=H,env:=compEnvC scope (jm X.env.cells scope.names []) C X.env,outer:=X.stack,stack:=X.stack,ex:=fp,fn:=λ_=>false,pn:=pn,xe:=λ_ _=>False }
def oi(n:Nat)(fr:ce)(σ:L2.St):L2.St:=RC n none++fr.map λ(i:Nat)=>(σ[i]?).getD none
noncomputable def G4(X:Cx) (N:bv) (n:Nat) (fr:ce) (scope:UU):Prop :=
 N.length=n+fr.length/\((N.drop n).zip fr).all (λp=>X.N[p.2]?==some p.1&&X.env.scope.names.lookup p.1==some .cell&&scope.names.lookup p.1==some .free&&(relabel scope X.env).names.lookup p.1==some .cell)=true
theorem G4.at{fr:ce}(h:G4 X N n fr scope){k:Nat}(hx:N[k]?=some x)(hv:(oi n fr σ)[k]?=some (some v)) :
  ∃i:Nat,X.N[i]?=some x/\σ[i]?=some (some v)/\X.env.scope.names.lookup x=some .cell/\scope.names.lookup x=some .free/\(relabel scope X.env).names.lookup x=some .cell:=by
 unfold oi at hv
 by_cases hk:k<n
 .rw[RF (by simpa using hk),RZ,if_pos hk]at hv
  cases hv
 .rw[RN (by simpa using hk),Tq,Q7]at hv
  cases hi:fr[k-n]? with
  |none=>rw[hi]at hv;cases hv
  |some i=>
   rw[hi]at hv;have hz:((N.drop n).zip fr)[k-n]?=some (x,i):=by
    rw[List.getElem?_zip_eq_some];exact⟨by rw[TM,show n+(k-n)=k by omega];exact hx,hi⟩
   have:=Ru.mp h.2 _ (Rb hz);simp only[Rn,beq_iff_eq]at this;refine⟨i,this.1.1.1,?_,this.1.1.2,this.1.2,this.2⟩;simp only[TN,SQ]at hv;cases hs:σ[i]? with|none=>rw[hs]at hv;cases hv|some u=>rw[hs]at hv;exact congrArg some hv
noncomputable def Oz(X:Cx) (ifs:List R1) (t:TT):Prop :=
 ∀(π:List (Q9×Obj)) (s:Rg) (σ:L2.St) (H:Hp) (Q:Bool->Hp->Prop),Inv X π σ H s->t σ H Q ->
  RH (RB X.prog X.w) X.A (forIn ifs true λc r=>if r=true then do let ok ←isTrue c X.env (eval c X.env);pure (Uk ok) else pure (Uk r)) (TP X π σ Q) X.xe s
def O1:TT:=λ_ H Q=>Q true H
def Ie:Oz X [] O1:=λ_ _ _ H _ I h=>wpAny_tests_nil ⟨H,I,h⟩
def Ic(h:PT X c t):Oz X [c] t:=λπ s σ H Q I q=>wpAny_tests_one (h π s σ H Q I q)
theorem uh(I:Nat->Rg->Prop)
  (turn:∀n s,I n s->RH (RB prog w) A (pyNext it) (λr si=>match r with
   |none=>R (.ok .next) si
   |some v=>RH (RB prog w) A (letOwnedTupleGo target it v) (λ_ si'=>RH (RB prog w) A (assign target env v) (λ_ sj=>
     RH (RB prog w) A (forIn ifs true λc r=>if r=true then do let ok ←isTrue c env (eval c env);pure (Uk ok) else pure (Uk r)) (λok sn=>
      if ok=true then RH (RB prog w) A (eval elt env) (λx so=>
       RH (RB prog w) A (call (.builtin "list.append") [acc,x]) (λ_ sq=>∃m,m<n/\I m sq) (λ_ _=>False) so) (λ_ _=>False) sn
      else ∃m,m<n/\I m sn) (λ_ _=>False) sj) (λ_ _=>False) si') (λ_ _=>False) si) (λ_ _=>False) s)
  (n:Nat) (h:I n s) :
  Tw (RB prog w) A (.compLoop (.ListComp elt [⟨target,iter,ifs,0⟩] scope pos) 0 it acc env) R s:=by
 refine codeAny_loop rfl I (λn s hI=>?_) n h;show RH _ A ((compTurn (.ListComp elt [⟨target,iter,ifs,0⟩] scope pos) 0 it acc env).onRaise (λx=>do noteFrame x env;theTreesLotGoes x)) _ _ s;refine wpAny_noted ?_;rw[compTurn_list];refine Rj (wpAny_standAt (Rj (S8 (turn n s hI) (λr si h₁=>?_) λ_ _ h'=>h'.elim)));cases r with
 |none=>exact RI h₁
 |some v=>
  refine Rj (S8 h₁ (λ_ si' h₁'=>?_) λ_ _ h'=>h'.elim);refine Rj (S8 h₁' (λ_ sj hU=>Rj (S8 hU (λok sn hV=>?_) λ_ _ h'=>h'.elim)) λ_ _ h'=>h'.elim);cases ok with
  |false=>exact RI ⟨rfl,hV⟩
  |true=>
   exact Rj (Rj (S8 hV (λx so h₄=>Rj (S8 h₄ (λ_ sq h₅=>RI (RI ⟨rfl,h₅⟩)) λ_ _ h'=>h'.elim)) λ_ _ h'=>h'.elim))
noncomputable def zU(n:Nat) (fr:ce) (g:TG) (tt:TT) (te:TE) (J:It) (σ:L2.St) (H1:Hp) (Q:VK):Prop:=∀D,H1 D=none->∃W:Nat->Nat->al->L2.St->Hp->Prop,(∃m,W 0 m [] (oi n fr σ) (upd H1 D (.lst []))) /\
 ∀i m ys σ' H',W i m ys σ' H'->H' D=some (.lst ys)/\((J.stop i H'/\Q (.ref D) H')∨(J.go i H'/\ys.length<sizeLine/\∀x H2,J.yld i H' x H2->g x σ' H2 λσ3 H3=>tt σ3 H3 λb H4=>
  if b=true then te σ3 H4 λy H5=>H5 D=some (.lst ys)/\∃m',m' < m/\W (i+1) m' (ys++[y]) σ3 (upd H5 D (.lst (ys++[y])))
  else ∃m',m' < m/\W (i+1) m' ys σ3 H4))
def Ds{fr:ce}(hc:X.calm=true)(hfr:G4 X N n fr scope)
  (hcell:∀x∈scope.names,x.2≠.cell)(hfree:∀x∈scope.names,x.2=.free->X.env.scope.names.lookup x.1=some .cell)(hkind:scope.kind=.function)
  (blk:∀s H C fp pn,PG (fH X N scope s H C fp pn) tg g/\Oz (fH X N scope s H C fp pn) ifs tt/\PE (fH X N scope s H C fp pn) elt te)
  {RR:QY->Q9->Result->Rg->Prop}
  (h2:PZ X π σ tg (λJ H1=>zU n fr g tt te J σ H1 Q) itv s2)
  (fin:∀(Da C:Q9) (s6:Rg) (H5:Hp) (m:Ro->Option QY),Inv X π σ H5 s6->s6.heap.Ns C m->pC X π H5 C->Q (.ref Da) H5->RR (.ref Da) C (.ok .next) s6) :
  RH (RB X.prog X.w) X.A (newList []) (λacc sn=>RH (RB X.prog X.w) X.A (newFunctionEnv scope X.env.globals (jm X.env.cells scope.names []) [] X.env.qual none .none (some X.env)) (λcenv so=>
   Tw (RB X.prog X.w) X.A (.compStart (.ListComp elt [⟨tg,iter,ifs,0⟩] scope pos) 0 itv acc { cenv with scope:=relabel scope X.env }) (RR acc cenv.locals) so) X.xe sn) X.xe s2:=by
 obtain⟨it,fp,tn,J,H2,e,I2,T,st2,f2,q⟩:=h2;subst e;have hD:H2 s2.heap.objs.size=none:=I2.fresh;refine wpAny_newObj_type ?_;have I3:Inv X π σ (upd H2 s2.heap.objs.size (.lst [])) { s2 with heap:=s2.heap.push { cls:=.type "list",data:=.seq ([]:List QY).toArray } }:=I2.lnew (t':=s2.toks) (its:=[]) .nil (Uq _);obtain⟨W,⟨m0,w0⟩,turn⟩:=q s2.heap.objs.size hD;generalize hs3:({ s2 with heap:=s2.heap.push { cls:=.type "list",data:=.seq ([]:List QY).toArray } }:Rg)=s3 at I3 ⊢;have hs3h:s3.heap=s2.heap.push { cls:=.type "list",data:=.seq ([]:List QY).toArray }:=by rw[←hs3]
 have hDs:s2.heap.objs.size<s3.heap.objs.size:=by rw[hs3h,V5];exact TC _
 have fpl:∀b∈fp,b<s2.heap.objs.size:=λb hb=>by
  obtain⟨o,ho,_⟩:=T.obj _ _ st2 b hb;exact Ry ho
 have kept3:∀b o,s2.heap.get? b=some o->s3.heap.get? b=some o:=λb o e=>by rw[hs3h];exact Ri _ e
 have st3:tn 0 s3.heap:=T.keep _ _ _ st2 λb _ o e=>kept3 b o e;generalize hDa:s2.heap.objs.size=Da at *;generalize hH3:upd H2 Da (.lst [])=H3 at *;have fr3:∀b∈fp,H3 b=none:=λb hb=>by rw[←hH3,aF (RU (fpl b hb))];exact(f2 b hb).1
 have cls:∀x c,(jm X.env.cells scope.names []).lookup x=some c->X.env.cells.lookup x=some c:=λx c e=>by
  rcases uo (λy hy hf=>I3.ok.has y.1 (.inl (hfree y hy hf))) e with e|e
  .cases e
  .exact e
 refine wpAny_newFunctionEnv hcell (by intro y hy;simp at hy) (λh4 ns4 sb4=>?_) hkind;have k4:∀b o,s3.heap.get? b=some o->h4.get? b=some o:=λb o e=>(sb4.2 b (RU (Ry e))).trans (Ri _ e);generalize hC:s3.heap.objs.size=C at *;have hCn:H3 C=none:=I3.hok.fresh (by rw[hC];exact RG _);have ltC:∀b o,s3.heap.get? b=some o->b≠C:=λb o e=>by rw[←hC];exact RU (Ry e)
 have cellC:∀x c,X.env.cells.lookup x=some c->c≠C:=λx c e=>by
  obtain⟨v,o,ho,_⟩:=I3.cell x c e;exact ltC c o ho
 have fpC:∀b∈fp,b≠C:=λb hb=>by
  have:=fpl b hb;exact RU (Nat.lt_trans this hDs)
 show Tw (RB X.prog X.w) X.A (.compStart (.ListComp elt [⟨tg,iter,ifs,0⟩] scope pos) 0 (.ref it) (.ref Da) (compEnvC scope (jm X.env.cells scope.names []) C X.env)) _ _;generalize hs4:({ s3 with heap:=h4,toks:=s3.toks+([]:List (Ro×QY)).length }:Rg)=s4;have hs4h:s4.heap=h4:=by rw[←hs4]
 have ok:(fH X N scope s3 H3 C fp (X.pn++π)).Ok:=by
  refine⟨I3.ok.mod,hkind,I3.ok.glob,I3.ok.blt,Wq hC,λx y c e1 e2=>I3.ok.inj x y c (cls x c e1) (cls y c e2),λx e=>?_,λx c e=>?_,λ_=>I3.ok.hd hc,I3.ok.frames,.inl rfl,λb hb=>⟨fpC b hb,λx c e=>(f2 b hb).2.2.2.2.1 x c (cls x c e)⟩,I3.bs,Ra I3.ok.bsz I3.sz,λb o e hb=>?_,λb hb z=>?_,I3.stack,I3.stkFree,I3.tab⟩
  .have mm:∀k:SR,(relabel scope X.env).names.lookup x=some k->(k=.cell∨k=.free)->(x,Td)∈scope.names:=λk hk hk2=>by
    have hm:=R8 hk;obtain⟨⟨n',k'⟩,hm1,hm2⟩:=Rl.mp hm;dsimp only at hm2;split at hm2
    .rename_i hcnd
     cases hm2;simp only[Rn,beq_iff_eq]at hcnd;rw[hcnd.1.1]at hm1;exact hm1
    .cases hm2
     rcases hk2 with rfl|rfl
     .exact absurd rfl (hcell _ hm1)
     .exact hm1
   rcases e with e|e
   .exact uq (mm _ e (.inl rfl))
   .exact uq (mm _ e (.inr rfl))
  .cases e
  .rcases(f2 b hb).2.2.2.1 with z|z
   .exact I3.ok.noex b o e z
   .exact absurd (Q4 (Ry e) (Ra I3.ok.bsz z)) (Tv _)
  .rcases Rh.mp (I3.stkSub b z) with z|z
   .exact(f2 b hb).2.1 z
   .exact(f2 b hb).2.2.1 z
 have I4:Inv (fH X N scope s3 H3 C fp (X.pn++π)) [] (oi n fr σ) H3 s4:=by
  refine⟨ok,by rw[←hs4];rfl,by rw[←hs4];exact I3.bare,by rw[hs4h];exact Un.kept k4,⟨_,by rw[hs4h];exact ns4,λi x v h1 h2 h3=>?_⟩,λx c e=>?_,hCn,λx c e=>I3.freeC x c (cls x c e),λp hp=>?_,by rw[hs4h];exact I3.hok.kept k4,?_⟩
  .obtain⟨j,j1,j2,j3,j4,j5⟩:=hfr.at h1 h2
   obtain⟨m,hn,hl⟩:=I3.loc;obtain⟨u,ru,l⟩:=hl j x v j1 j2 (.inr (.inl j3));refine⟨u,ru,.inr ⟨.inl j5,?_⟩⟩;rcases l with⟨z,_⟩|⟨_,c,z1,z2⟩
   .rw[show X.env.kindOf x=X.env.scope.names.lookup x from rfl,j3]at z;cases z
   .obtain⟨c',hc'⟩:=uq (cells:=X.env.cells) (names:=scope.names) (acc:=[]) (R8 j4)
    have:=cls x c' hc';rw[z1]at this;cases this;obtain⟨oc,q1,q2⟩:=z2;exact⟨c,hc',oc,by rw[hs4h];exact k4 _ _ q1,q2⟩
  .obtain⟨v,oc,q1,q2⟩:=I3.cell x c (cls x c e)
   exact⟨v,oc,by rw[hs4h];exact k4 _ _ q1,q2⟩
  .rw[Sj]at hp
   obtain⟨p1,p2,p3,p4,p5⟩:=I3.pin p hp;refine⟨by rw[hs4h];exact k4 _ _ p1,p2,ltC _ _ p1,λz=>?_,p5⟩;rcases Rh.mp (I3.stkSub _ z) with z|z
   .exact p3 z
   .exact p4 z
  .show(oi n fr σ).length=N.length
   unfold oi;rw[RQ,Tq,Q0,hfr.1]
 have st4:tn 0 s4.heap:=by rw[hs4h];exact T.keep _ _ _ st3 λb _ o e=>k4 b o e
 have stat:∀{H':Hp},(∀b∈fp,H' b=none)->∀b∈fp,pC (fH X N scope s3 H3 C fp (X.pn++π)) [] H' b:=λhn b hb=>by
  refine⟨hn b hb,fpC b hb,λz=>?_,.inl hb,λx c e=>(f2 b hb).2.2.2.2.1 x c (cls x c e),λp hp=>?_⟩
  .rcases Rh.mp (I3.stkSub b z) with z|z
   .exact(f2 b hb).2.1 z
   .exact(f2 b hb).2.2.1 z
  .rw[Sj]at hp
   exact(f2 b hb).2.2.2.2.2 p hp
 have loop:Tw (RB X.prog X.w) X.A (.compLoop (.ListComp elt [⟨tg,iter,ifs,0⟩] scope pos) 0 (.ref it) (.ref Da) (compEnvC scope (jm X.env.cells scope.names []) C X.env)) (RR (.ref Da) C) s4:=by
  refine uh (λn s'=>∃i ys σ' H',Inv (fH X N scope s3 H3 C fp (X.pn++π)) [] σ' H' s'/\tn i s'.heap/\(∀b∈fp,H' b=none)/\W i n ys σ' H') ?_ m0 ⟨0,[],_,H3,I4,st4,fr3,w0⟩;rintro k s5 ⟨i,ys,σ5,H5,I5,st5,fr5,w5⟩;obtain⟨hDl,ways⟩:=turn i k ys σ5 H5 w5;rcases ways with⟨stop,fin'⟩|⟨go,hz,step⟩
  .refine cT (T.done (fH X N scope s3 H3 C fp (X.pn++π)) rfl rfl rfl hc i [] s5 σ5 H5 (λ_ _=>False) I5 (stat fr5) st5 stop) λr s6 ⟨hr,I6⟩=>?_
   subst hr;obtain⟨mm,nsm,_⟩:=I6.loc;have free6:H5 C=none:=I6.free;have hok:jt X.prog X.w H5 s6.heap:=I6.hok;have un:Un (AS X.stack) fp H3 H5 s3.heap s6.heap:=I6.base;have IX:Inv X π σ H5 s6:=I3.call' (s':=s6) (ch:=fp) I6.os un hok I6.bare (λb hb=>⟨(f2 b hb).2.2.2.1,(f2 b hb).2.1,(f2 b hb).2.2.2.2.1,(f2 b hb).2.2.2.2.2⟩);have fC:pC X π H5 C:=I3.fpOk (b:=C) (H':=H5) (by rw[hC];exact RG _) free6;exact fin Da C s6 H5 mm IX nsm fC fin'
  .refine cT (T.item (fH X N scope s3 H3 C fp (X.pn++π)) rfl rfl rfl hc i [] s5 σ5 H5 (λ_ _=>False) I5 (stat fr5) st5 go) λr s6 ⟨u,hr,h6⟩=>?_
   subst hr;refine cT h6 λ_ s7 ⟨x,H7,I7,r7,y7,st7,fr7⟩=>?_;have I7':=I7.pinned (stat fr7) (T.obj _ _ st7);refine cT ((blk s3 H3 C fp (X.pn++π)).1 _ s7 σ5 H7 x u _ I7' r7 (step x H7 y7)) λ_ s8 ⟨σ8,H8,I8,q8⟩=>?_;refine cT ((blk s3 H3 C fp (X.pn++π)).2.1 _ s8 σ8 H8 _ I8 q8) λb s8b ⟨H8b,I8b,q8b⟩=>?_;have back:∀{σ':L2.St}{H':Hp}{s':Rg},L2.Inv (fH X N scope s3 H3 C fp (X.pn++π)) (([]:List (Q9×Obj))++rG fp s7.heap) σ' H' s'->tn (i+1) s'.heap/\∀b∈fp,H' b=none:=λ{σ' H' s'} I'=>by
    refine⟨T.keep _ _ _ st7 λb hb o e=>(I'.pin (b,o) (RO _ (RO _ (jV hb e)))).1,λb hb=>?_⟩;obtain⟨o,e,d⟩:=T.obj _ _ st7 b hb;exact(I'.pin (b,o) (RO _ (RO _ (jV hb e)))).2.1
   cases b with
   |false=>
    rw[if_neg RM]at q8b ⊢;obtain⟨m',hm,w9⟩:=q8b;exact⟨m',hm,i+1,ys,σ8,_,I8b.unpinned,(back I8b).1,(back I8b).2,w9⟩
   |true=>
    rw[if_pos rfl]at q8b ⊢;refine cT ((blk s3 H3 C fp (X.pn++π)).2.2 _ s8b σ8 H8b _ I8b q8b) λy s9 ⟨yv,H9,I9,r9,hD9,m',hm,w9⟩=>?_;refine cT (oW (X:=fH X N scope s3 H3 C fp (X.pn++π)) _ s9 σ8 H9 (.ref Da) [yv] (.ref Da) [y] (λv H'=>H'=upd H9 Da (.lst (ys++[yv]))) I9 rfl (.cons r9 .nil) ⟨Da,ys,yv,rfl,rfl,hD9,hz,rfl⟩) λ_ s10 ⟨v10,H10,I10,_,e10⟩=>?_;subst e10;exact⟨m',hm,i+1,ys++[yv],σ8,_,I10.unpinned,(back I10).1,(back I10).2,w9⟩
 exact codeAny_compStart_list loop (T.self _ 0 _ _ _ st4 loop)
structure OT (K:Q2) (ds:ac) (J:It) (Ha:Hp):Prop where
 go:∀(i:Nat) (H' Ha':Hp),aE Ha Ha'->aE Ha' H'->i<ds.length->J.go i H'
 yld:∀(i:Nat) (H' Ha':Hp) (x:V) (H2:Hp) (d:D),aE Ha Ha'->aE Ha' H'->ds[i]?=some d->J.yld i H' x H2->∃H₀2,bj H' Ha' H2 H₀2/\Rep K H₀2 d x
 stop:∀(i:Nat) (H' Ha':Hp),aE Ha Ha'->aE Ha' H'->ds.length<=i->J.stop i H'
noncomputable def Qz(K:Q2) (E:XK) (src:Ev->av (ac)):TI:=λσ H R=>∃Ha ρ,aE Ha H/\eW K Ha σ ρ/\match src ρ with
 |.ok ds=>∀J H' Ha',bj H Ha H' Ha'->OT K ds J Ha'->R J H'
 |.exn x=>∀C ox H' Ha',bj H Ha H' Ha'->zH K Ha' x C ox->E C ox H'
 |.stuck=>False
structure DI (X:Cx) (E:XK) (tg iter:R1) (src:Ev->av (ac)):Prop where
 o:PI X tg iter (Qz X.K E src)
def qD(h:PI X tg iter t)(w:∀σ H R,t' σ H R->t σ H R):PI X tg iter t':=λπ s σ H R I q=>h π s σ H R I (w σ H R q)
def jP(f:am):Ev->av (ac):=λρ=>(f ρ).bind λd=>match d with
 |.lst ds=>.ok ds
 |_=>.stuck
def HB(f:am):Ev->av (ac):=λρ=>(f ρ).bind λd=>match d with
 |.str z=>.ok (kD z)
 |_=>.stuck
def xV(f:am):Ev->av (ac):=λρ=>(f ρ).bind λd=>match d with
 |.int j=>if -4611686018427387904<=j/\j<4611686018427387904 then .ok (intsFrom 0 j.toNat) else .stuck
 |_=>.stuck
section
variable {X:Cx}{E:XK}{tg e a b:R1}{f g:am}
def fU(h:DE X E e f):DI X E tg e (jP f):=by
 refine⟨qD (BC h.o) λσ H R z9=>?_⟩;obtain⟨Ha,ρ,hs,hr,q⟩:=z9;refine⟨Ha,ρ,hs,hr,?_⟩;unfold jP at q;cases e1:f ρ with
 |stuck|exn x=>rw[e1]at q;exact q
 |ok d=>
  rw[e1]at q;intro v H1 H01 g1 r1;cases d with
  |lst ds=>
   obtain⟨p,vs,rfl,hv,hrv⟩:=aB.mp r1;refine⟨p,rfl,⟨vs,aE.sqL g1.sub hv⟩,q _ H1 H01 g1 ⟨λi H' Ha' s1 s2 hi=>?_,λi H' Ha' x H2 d s1 s2 hd hy=>?_,λi H' Ha' s1 s2 hi=>?_⟩⟩
   .exact⟨vs,vs[i]'(by rw[←hrv.length];exact hi),aE.sqL (s1.trans s2) hv,by simp⟩
   .obtain⟨rfl,hy⟩:=hy
    obtain⟨u,k1,k2⟩:=hrv.get hd;have:=hy vs (aE.sqL (s1.trans s2) hv);rw[k1]at this;cases this;exact⟨Ha',bj.refl s2,k2.mono s1⟩
   .exact⟨vs,aE.sqL (s1.trans s2) hv,by rw[←hrv.length];exact hi⟩
  |_=>exact q.elim
def Mg(h:DE X E e f):DI X E tg e (HB f):=by
 refine⟨qD (K8 h.o) λσ H R z9=>?_⟩;obtain⟨Ha,ρ,hs,hr,q⟩:=z9;refine⟨Ha,ρ,hs,hr,?_⟩;unfold HB at q;cases e1:f ρ with
 |stuck|exn x=>rw[e1]at q;exact q
 |ok d=>
  rw[e1]at q;intro v H1 H01 g1 r1;cases d with
  |str z=>
   refine⟨z,Rep.str_iff.mp r1,q _ H1 H01 g1 ⟨λi H' Ha' s1 s2 hi=>?_,λi H' Ha' x H2 d s1 s2 hd hy=>?_,λi H' Ha' s1 s2 hi=>?_⟩⟩
   .rw[mq]at hi;exact hi
   .obtain⟨rfl,c,hc,rfl⟩:=hy
    have:d=.str ⟨#[c]⟩:=by
     unfold kD at hd;rw[Q7]at hd;have h2:z.cps.toList[i]?=some c:=by simpa using hc
     rw[h2]at hd;cases hd;rfl
    subst this;exact⟨Ha',bj.refl s2,Rep.str_iff.mpr rfl⟩
   .rw[mq]at hi;exact hi
  |_=>exact q.elim
def Dc{K:Q2}{lo:Int}:OT K (intsFrom lo n) (MA lo n) H:=by
 have hl:(intsFrom lo n).length=n:=by unfold intsFrom;simp
 refine⟨λi H' Ha' _ _ hi=>?_,λi H' Ha' x H2 d s1 s2 hd hy=>?_,λi H' Ha' _ _ hi=>?_⟩
 .rw[hl]at hi;exact hi
 .obtain⟨rfl,rfl⟩:=hy
  have:d=.int (lo+i):=by
   unfold intsFrom at hd;rw[Q7]at hd;cases e:(R4 n)[i]? with
   |none=>rw[e]at hd;cases hd
   |some k=>
    rw[e]at hd;have hk:k=i:=by
     obtain⟨h1,h2⟩:=Q5.mp e;simpa using h2.symm
    subst hk;cases hd;rfl
  subst this;exact⟨Ha',bj.refl s2,ay.mpr rfl⟩
 .rw[hl]at hi;exact hi
def Dm(hg:Gl X "range")(hm:X.mg "range"=none)(h:DE X E a f)(hn:MI a=true:=by exact rfl):DI X E tg (.Call (.Name "range" p) [a] [] pos) (xV f):=by
 refine⟨qD (vE hg hm (fM h.o jR (jx hn)) (jx hn)) λσ H R z9=>?_⟩;obtain⟨Ha,ρ,hs,hr,q⟩:=z9;refine⟨Ha,ρ,hs,hr,?_⟩;unfold xV at q;cases e1:f ρ with
 |stuck|exn x=>rw[e1]at q;exact q
 |ok d=>
  rw[e1]at q;intro v H1 H01 g1 r1;cases d with
  |int j=>
   replace q:match (if -4611686018427387904<=j/\j<4611686018427387904 then av.ok (intsFrom 0 j.toNat) else .stuck) with
    |.ok ds=>∀J H' Ha',bj H Ha H' Ha'->OT X.K ds J Ha'->R J H'
    |.exn x=>∀C ox H' Ha',bj H Ha H' Ha'->zH X.K Ha' x C ox->E C ox H'
    |.stuck=>False:=q
   by_cases hj:-4611686018427387904<=j/\j<4611686018427387904
   .rw[if_pos hj]at q
    rw[ay.mp r1];exact⟨j,rfl,hj.1,hj.2,q _ H1 H01 g1 Dc⟩
   .rw[if_neg hj]at q;exact q.elim
  |_=>exact q.elim
end
def gB(src:Ev->av (ac))(tg:Ev->D->av Ev)(s:bi):bi:=λρ=>(src ρ).bind λds=>cm tg s ds ρ
section
variable {X:Cx}{E:XK}{He η:Hp}{st:Tr}{s:bi}{pos:Pos}
def zE{K:Q2}(z:aE Hb Ha)(h:eV K He η Ha σ H ρ)(q:bQ K E He η Ha (cm tg s (ds.drop i) ρ) D')(hd:ds[i]?=some d)(rv:Rep K Ha d v)
  (he:∀ρ,tg ρ d=.stuck∨∃ρ',tg ρ d=.ok ρ') :
  tG K He η tg v σ H λσ2 H2=>tS K E He η s { D' with nx:=jd K E He η Hb tg s ds D' (i+1),ct:=jd K E He η Hb tg s ds D' (i+1),bk:=D'.nx } σ2 H2:=by
 have hi:i<ds.length:=(Q5.mp hd).1;have hdr:ds.drop i=d::ds.drop (i+1):=by
  rw[Sm hi];rw[QW hi]at hd;cases hd;rfl
 rw[hdr]at q;refine⟨Ha,ρ,d,h,rv,?_⟩;unfold cm at q;rcases he ρ with e1|⟨ρ1,e1⟩
 .rw[e1]at q;exact q.elim
 .rw[e1]at q ⊢
  intro σ' H' Ha' z' h';refine⟨Ha',ρ1,h',?_⟩;replace q:=bQ.grow (r:=(s ρ1).bind λx=>match x with
   |.nx ρ2=>cm tg s (ds.drop (i+1)) ρ2
   |.ct ρ2=>cm tg s (ds.drop (i+1)) ρ2
   |.bk ρ2=>.ok (.nx ρ2)
   |.rt d=>.ok (.rt d)) q z'
  cases e2:s ρ1 with
  |stuck|exn x=>rw[e2]at q;exact q
  |ok r=>
   rw[e2]at q;cases r with|nx ρ2=>exact λσ3 H3 H03 z3 h3=>⟨H03,ρ2,(z.trans z').trans z3,h3,bQ.grow (r:=cm tg s (ds.drop (i+1)) ρ2) q z3⟩|ct ρ2=>exact λσ3 H3 H03 z3 h3=>⟨H03,ρ2,(z.trans z').trans z3,h3,bQ.grow (r:=cm tg s (ds.drop (i+1)) ρ2) q z3⟩|bk ρ2|rt d=>exact q
def lO(hp:PassesOwn (RB X.prog X.w) X.A X.env X.xe)(hc:X.calm=true)(hi:DI X E tgt iter src)(hg:DG X E He η tgt tg)(ht:zB tg)(hb:zL X E He η body s)
  (hs:∀x,foldedSetIterable iter X.env x=pure x:=by intro _;rfl):DS X E He η (.For tgt iter body [] pos) (gB src tg s):=by
 refine⟨cB (Ag hp hc hi.o hg.o hb.o hs) λD' σ H z9=>?_⟩;obtain⟨Ha,ρ,h,q⟩:=z9;refine⟨Ha,ρ,h.g.sub,h.rd,?_⟩;unfold gB at q;cases e1:src ρ with
 |stuck=>rw[e1]at q;exact q|exn x=>rw[e1]at q;exact λC ox H' Ha' g r=>q C ox H' Ha' (h.g.trans g) r
 |ok ds=>
  rw[e1]at q;intro J H1 H01 g it;have q1:bQ X.K E He η H01 (cm tg s ds ρ) D':=bQ.grow (r:=cm tg s ds ρ) q g.z;refine⟨λi m σ' H'=>m+i=ds.length/\jd X.K E He η H01 tg s ds D' i σ' H',⟨ds.length,rfl,H01,ρ,aE.refl _,h.grow g,q1⟩,?_⟩;rintro i m σ' H' ⟨hm,Ha',ρ',z,h',hq⟩
  by_cases hlt:i<ds.length
  .refine .inr ⟨it.go i H' Ha' z h'.g.sub hlt,λσ2 H2=>jd X.K E He η H01 tg s ds D' (i+1) σ2 H2,λσ2 H2 hl=>⟨m-1,by omega,by omega,hl⟩,λx H2 hy=>?_⟩
   obtain⟨H₀2,g2,rp⟩:=it.yld i H' Ha' x H2 ds[i] z h'.g.sub (QW hlt) hy;exact zE (z.trans g2.z) (h'.grow g2) (bQ.grow (r:=cm tg s (ds.drop i) ρ') hq g2.z) (QW hlt) rp λρ=>ht ρ _
  .have e:i=ds.length:=by omega
   refine .inl ⟨it.stop i H' Ha' z h'.g.sub (by omega),?_⟩;subst e;exact jd.done ⟨Ha',ρ',z,h',hq⟩
end
def oE(f:am):Prop:=∀ρ d,f ρ=.ok d->∃ds,d=.lst ds
def xR{K:Q2}(hf:oE f)(h:tD K E f σ H Q):tF K E f σ H Q:=by
 obtain⟨Ha,ρ,hs,hr,q⟩:=h;refine⟨Ha,ρ,hs,hr,?_⟩;cases e1:f ρ with
 |stuck|exn x=>rw[e1]at q;exact q
 |ok d=>
  obtain⟨ds,rfl⟩:=hf ρ d e1;rw[e1]at q;intro p vs H' Ha' g hp h0 hv rp;have n0:Ha p=none:=hs.free hp;refine q (.ref p) H' (upd Ha' p (.lst vs)) ⟨g.s,λb o e=>?_,λb o e=>?_,λb k1 k2=>?_⟩ (aB.mpr ⟨p,vs,rfl,fZ.of aL,rp.mono λb o e=>?_⟩)
  .rw[aF (by intro z;subst z;rw[n0]at e;cases e)];exact g.z _ _ e
  .by_cases hb:b=p
   .subst hb;rw[aL]at e;cases e;exact hv
   .rw[aF hb]at e;exact g.sub _ _ e
  .by_cases hb:b=p
   .subst hb;exact hp
   .rw[aF hb]at k1;exact g.nw b k1 k2
  .rw[aF (by intro z;subst z;rw[h0]at e;cases e)];exact e
def GH(hf:oE f)(h:DF X E e f):DE X E e f:=⟨bo h.o λσ H Q q=>xR hf q⟩
def du(n:Nat)(fr:ce)(ρ:Ev):Ev:=RC n .no++fr.map λ(i:Nat)=>match ρ[i]? with
 |some (.sh d)=>.sh d
 |_=>.no
noncomputable def bV(b:Ev) (tg:Ev->D->av Ev) (tt fe:am):ac->av (ac)
 |[]=>.ok []
 |d::r=>(tg b d).bind λρ1=>(tt ρ1).bind λt=>match t with
  |.bl true=>(fe ρ1).bind λx=>(bV b tg tt fe r).bind λxs=>.ok (x::xs)
  |.bl false=>bV b tg tt fe r
  |_=>.stuck
def cE(n:Nat)(fr:ce)(src:Ev->av (ac))(tg:Ev->D->av Ev)(tt fe:am):am:=λρ=>(src ρ).bind λds=>
 if ds.length<=line then match bV (du n fr ρ) tg tt fe ds with
  |.ok es=>.ok (.lst es)
  |_=>.stuck
 else .stuck
def jG{fr:ce}:oE (cE n fr src tg tt fe):=λρ d h=>by
 unfold cE at h;cases e1:src ρ with
 |stuck|exn x=>rw[e1]at h;cases h
 |ok ds=>
  rw[e1]at h;replace h:(if ds.length<=line then match bV (du n fr ρ) tg tt fe ds with
   |.ok es=>av.ok (D.lst es)
   |_=>.stuck else .stuck)=.ok d:=h
  split at h
  .split at h
   .cases h;exact⟨_,rfl⟩
   .cases h
  .cases h
def j8(h:bV b tg tt fe (d::r)=.ok es) :
  ∃ρ1 t,tg b d=.ok ρ1/\tt ρ1=.ok (.bl t)/\((t=true/\∃x xs,fe ρ1=.ok x/\bV b tg tt fe r=.ok xs/\es=x::xs)∨(t=false/\bV b tg tt fe r=.ok es)):=by
 unfold bV at h;cases e1:tg b d with
 |stuck|exn z=>rw[e1]at h;cases h
 |ok ρ1=>
  rw[e1]at h;replace h:((tt ρ1).bind λt=>match t with
   |.bl true=>(fe ρ1).bind λx=>(bV b tg tt fe r).bind λxs=>av.ok (x::xs)
   |.bl false=>bV b tg tt fe r
   |_=>.stuck)=.ok es:=h
  cases e2:tt ρ1 with
  |stuck|exn z=>rw[e2]at h;cases h
  |ok t=>
   rw[e2]at h;cases t with
   |bl t=>
    cases t with
    |true=>
     replace h:((fe ρ1).bind λx=>(bV b tg tt fe r).bind λxs=>av.ok (x::xs))=.ok es:=h;cases e3:fe ρ1 with
     |stuck|exn z=>rw[e3]at h;cases h
     |ok x=>
      rw[e3]at h;replace h:((bV b tg tt fe r).bind λxs=>av.ok (x::xs))=.ok es:=h;cases e4:bV b tg tt fe r with|stuck|exn z=>rw[e4]at h;cases h|ok xs=>rw[e4]at h;cases h;exact⟨ρ1,true,rfl,e2,.inl ⟨rfl,x,xs,e3,rfl,rfl⟩⟩
    |false=>exact⟨ρ1,false,rfl,e2,.inr ⟨rfl,h⟩⟩
   |_=>cases h
def jH(h1:tg b d=.ok ρ1)(h2:tt ρ1=.ok (.bl true))(h3:fe ρ1=.ok x):bV b tg tt fe (d::r)=(bV b tg tt fe r).bind λxs=>.ok (x::xs):=by
 rw[bV,h1];simp only[av.bind,h2,h3]
def uk(h1:tg b d=.ok ρ1)(h2:tt ρ1=.ok (.bl false)):bV b tg tt fe (d::r)=bV b tg tt fe r:=by
 rw[bV,h1];simp only[av.bind,h2]
theorem pf:∀{r q es:ac},bV b tg tt fe (r++q)=.ok es->∃e1 e2,bV b tg tt fe r=.ok e1/\bV b tg tt fe q=.ok e2/\es=e1++e2
 |[],q,es,h=>⟨[],es,rfl,h,rfl⟩
 |d::r,q,es,h=>by
  obtain⟨ρ1,t,h1,h2,h3⟩:=j8 h;rcases h3 with⟨rfl,x,xs,h3,h4,rfl⟩|⟨rfl,h4⟩
  .obtain⟨e1,e2,k1,k2,rfl⟩:=pf h4
   refine⟨x::e1,e2,?_,k2,rfl⟩;rw[jH h1 h2 h3,k1];rfl
  .obtain⟨e1,e2,k1,k2,rfl⟩:=pf h4
   refine⟨e1,e2,?_,k2,rfl⟩;rw[uk h1 h2];exact k1
theorem j7{b:Ev}{tg:Ev->D->av Ev}{tt fe:am}:∀{r q e1 e2:ac},bV b tg tt fe r=.ok e1->bV b tg tt fe q=.ok e2->bV b tg tt fe (r++q)=.ok (e1++e2)
 |[],q,e1,e2,h,h'=>by cases h;exact h'
 |d::r,q,e1,e2,h,h'=>by
  obtain⟨ρ1,t,h1,h2,h3⟩:=j8 h;show bV b tg tt fe (d::(r++q))=_;rcases h3 with⟨rfl,x,xs,h3,h4,rfl⟩|⟨rfl,h4⟩
  .rw[jH h1 h2 h3,j7 h4 h'];rfl
  .rw[uk h1 h2];exact j7 h4 h'
theorem um:∀{r es:ac},bV b tg tt fe r=.ok es->es.length<=r.length
 |[],es,h=>by cases h;exact RG _
 |d::r,es,h=>by
  obtain⟨ρ1,t,h1,h2,h3⟩:=j8 h;rcases h3 with⟨rfl,x,xs,h3,h4,rfl⟩|⟨rfl,h4⟩
  .exact Nat.succ_le_succ (um h4)
  .exact Nat.le_succ_of_le (um h4)
def GZ(n:Nat)(tg:Ev->D->av Ev):Prop:=∀ρ d ρ',tg ρ d=.ok ρ'->ρ'.length=ρ.length/\∀(k:Nat),n<=k->ρ'[k]?=ρ[k]?
def da(h:i<n):GZ n (bF i):=λρ d ρ' e=>by
 cases e;exact⟨by simp,λk hk=>by rw[Q8 (by omega)]⟩
theorem mQ:∀{is:ce}{ds:ac}{ρ:Ev},(is.all λi=>decide (i<n))=true->(de ρ is ds).length=ρ.length/\∀(k:Nat),n<=k->(de ρ is ds)[k]?=ρ[k]?
 |[],ds,ρ,_=>by unfold de;exact⟨rfl,λ_ _=>rfl⟩
 |i::is,[],ρ,_=>by unfold de;exact⟨rfl,λ_ _=>rfl⟩
 |i::is,d::ds,ρ,h=>by
  rw[TU,Rn,decide_eq_true_eq]at h;unfold de;obtain⟨h1,h2⟩:=mQ (ds:=ds) (ρ:=ρ.set i (.sh d)) h.2;exact⟨by rw[h1];simp,λk hk=>by rw[h2 k hk,Q8 (by omega)]⟩
def qY(h:(is.all λi=>decide (i<n))=true):GZ n (dy is):=λρ d ρ' e=>by
 unfold dy at e;cases hp:fL is.length d with|none=>rw[hp]at e;cases e|some ds=>rw[hp]at e;cases e;exact mQ h
def A2{K:Q2}{fr:ce}(h:eW K Ha σ ρ):eW K Ha (oi n fr σ) (du n fr ρ):=λi d e=>by
 unfold du at e;unfold oi
 by_cases hi:i<n
 .rw[RF (by simpa using hi),RZ,if_pos hi]at e
  cases e
 .rw[RN (by simpa using hi),Tq,Q7]at e ⊢
  cases hf:fr[i-n]? with
  |none=>rw[hf]at e;cases e
  |some j=>
   rw[hf]at e;simp only[TN,SQ]at e ⊢;cases hj:ρ[j]? with
   |none=>rw[hj]at e;cases e
   |some s=>
    rw[hj]at e;cases s with
    |sh d'=>
     cases e;obtain⟨v,h1,h2⟩:=h j d hj;exact⟨v,by rw[h1];rfl,h2⟩
    |_=>cases e
def JB{fr:ce}{k:Nat}(h:k<n):(du n fr ρ)[k]?=some .no:=by
 unfold du;rw[RF (by simpa using h),RZ,if_pos h]
def GU{fr:ce}(i j:Nat)(es:ac):(du n fr ρ)[i]?≠some (.ox j es):=λe=>by
 unfold du at e
 by_cases hj:i<n
 .rw[RF (by simpa using hj),RZ,if_pos hj]at e;cases e
 .rw[RN (by simpa using hj),Q7]at e
  cases hf:fr[i-(RC n Sl.no).length]? with
  |none=>rw[hf]at e;cases e
  |some z=>
   rw[hf]at e;simp only[TN,SQ]at e;split at e<;>cases e
def DC{fr:ce}{σ:L2.St}(i:Nat)(a:Q9)(e:(du n fr ρ)[i]?=some (.pt a)):σ[i]?=some (some (.ref a)):=by
 unfold du at e
 by_cases hj:i<n
 .rw[RF (by simpa using hj),RZ,if_pos hj]at e;cases e
 .rw[RN (by simpa using hj),Q7]at e
  cases hf:fr[i-(RC n Sl.no).length]? with
  |none=>rw[hf]at e;cases e
  |some z=>
   rw[hf]at e;simp only[TN,SQ]at e;split at e<;>cases e
def zv{fr:ce}:(du n fr ρ).length=n+fr.length:=by unfold du;simp
def AY{K:Q2}{fr:ce}(hsame:aE Ha H)(g1:bj H Ha H1 H01)(it:OT K ds J H01)(hl:ds.length<=line)
  (e2:bV (du n fr ρ) tg tt fe ds=.ok es)(hr:eW K H01 σ ρ)(hok:GZ n tg)
  (q:∀p vs H' Ha',bj H Ha H' Ha'->H p=none->Ha' p=none->H' p=some (.lst vs)->Reps K Ha' es vs->Q (.ref p) H') :
  zU n fr (LV K tg) (MF K E tt) (tD K E fe) J σ H1 Q:=by
 intro Da hDa;have h0D:H01 Da=none:=g1.sub.free hDa;refine⟨λi m ys σ' H'=>m=ds.length-i/\i<=ds.length/\σ'.length=n+fr.length/\∃Ha',bj H1 H01 H' Ha'/\Ha' Da=none/\H' Da=some (.lst ys)/\eW K Ha' σ' (du n fr ρ)/\∃es1,bV (du n fr ρ) tg tt fe (ds.take i)=.ok es1/\Reps K Ha' es1 ys,
  ⟨ds.length,by simp,Uq _,by unfold oi;simp,H01,?_,h0D,aL,A2 hr,[],rfl,Reps.nil⟩,?_⟩
 .refine⟨λb o e=>by rw[aF (bu e hDa)];exact e,aE.refl _,λb o e=>?_,λb k1 k2=>absurd k2 k1⟩
  rw[aF (by intro z;subst z;rw[h0D]at e;cases e)];exact g1.sub _ _ e
 .rintro i m ys σ' H' ⟨rfl,hile,hsl,Ha',gg,hD0,hDl,hrd,es1,hes1,hys⟩
  refine⟨hDl,?_⟩
  by_cases hlt:i<ds.length
  .refine .inr ⟨it.go i H' Ha' gg.z gg.sub hlt,?_,?_⟩
   .rw[←hys.length]
    have:=um hes1;rw[Tg]at this;have h2:line<sizeLine:=by decide
    omega
   .intro x H2 hy
    obtain⟨H₀2,g2,rp⟩:=it.yld i H' Ha' x H2 ds[i] gg.z gg.sub (QW hlt) hy;have hsplit:ds=ds.take i++(ds[i]::ds.drop (i+1)):=by rw[←Sm hlt,List.take_append_drop]
    rw[hsplit]at e2;obtain⟨a1,a2,k1,k2,k3⟩:=pf e2;rw[hes1]at k1;cases k1;obtain⟨ρ1,t,t1,t2,t3⟩:=j8 k2;have hn2:H₀2 Da=none:=by
     cases qq:H₀2 Da with|none=>rfl|some o=>have:=g2.nw Da (by rw[qq];simp) hD0;rw[hDl]at this;cases this
    have hD2:H2 Da=some (.lst ys):=g2.s _ _ hDl;refine⟨H2,H₀2,H₀2,du n fr ρ,ds[i],⟨bj.refl g2.sub,hrd.mono g2.z,λj d' e=>?_,λj k d1 d2 _ e=>?_,by rw[zv,hsl],OX.none GU DC⟩,rp,?_⟩
    .unfold du at e
     by_cases hj:j<n
     .rw[RF (by simpa using hj),RZ,if_pos hj]at e;cases e
     .rw[RN (by simpa using hj),Q7]at e
      cases hf:fr[j-(RC n Sl.no).length]? with
      |none=>rw[hf]at e;cases e
      |some z=>
       rw[hf]at e;simp only[TN,SQ]at e;split at e<;>cases e
    .unfold du at e
     by_cases hj:j<n
     .rw[RF (by simpa using hj),RZ,if_pos hj]at e;cases e
     .rw[RN (by simpa using hj),Q7]at e
      cases hf:fr[j-(RC n Sl.no).length]? with
      |none=>rw[hf]at e;cases e
      |some z=>
       rw[hf]at e;simp only[TN,SQ]at e;split at e<;>cases e
    .rw[t1]
     intro σ3 H3 H03 z3 s3;have hrl:=hok _ _ _ t1;have hσ3:σ3.length=n+fr.length:=by rw[←s3.ln,hrl.1,zv]
     have back:∀{Hx:Hp},aE H03 Hx->eW K Hx σ3 (du n fr ρ):=λ{Hx} sx k d e=>by
      by_cases hk:k<n
      .rw[JB hk]at e;cases e
      .rw[←hrl.2 k (by omega)]at e
       obtain⟨v,h1,h2⟩:=s3.rd k d e;exact⟨v,h1,h2.mono sx⟩
     have n3:H03 Da=none:=by
      cases qq:H03 Da with|none=>rfl|some o=>have:=s3.g.nw Da (by rw[qq];simp) hn2;rw[hD2]at this;cases this
     have hD3:H3 Da=some (.lst ys):=s3.g.s _ _ hD2;refine⟨H03,ρ1,s3.g.sub,s3.rd,?_⟩;rw[t2];intro H4 H04 g4;have hD4:H4 Da=some (.lst ys):=g4.s _ _ hD3;have n4:H04 Da=none:=by
      cases qq:H04 Da with|none=>rfl|some o=>have:=g4.nw Da (by rw[qq];simp) n3;rw[hD3]at this;cases this
     have htake:ds.take (i+1)=ds.take i++[ds[i]]:=by rw[List.take_add_one,QW hlt];rfl
     have g04:=(gg.trans g2).trans (s3.g.trans g4);rcases t3 with⟨rfl,y,xs,t3,t4,_⟩|⟨rfl,t4⟩
     .rw[if_pos rfl]
      refine⟨H04,ρ1,g4.sub,s3.rd.mono g4.z,?_⟩;rw[t3];intro yv H5 H05 g5 ry;have hD5:H5 Da=some (.lst ys):=g5.s _ _ hD4;have n5:H05 Da=none:=by
       cases qq:H05 Da with|none=>rfl|some o=>have:=g5.nw Da (by rw[qq];simp) n4;rw[hD4]at this;cases this
      have gall:=g04.trans g5;refine⟨hD5,ds.length-(i+1),by omega,rfl,hlt,hσ3,H05,⟨λb o e=>?_,gall.z,λb o e=>?_,gall.nw⟩,n5,aL,back (g4.z.trans g5.z),es1++[y],?_,?_⟩
      .rw[aF (bu e hDa)];exact gall.s _ _ e
      .rw[aF (by intro z;subst z;rw[n5]at e;cases e)];exact gall.sub _ _ e
      .rw[htake]
       refine j7 hes1 ?_;rw[jH t1 t2 t3];rfl
      .exact(hys.mono ((g2.z.trans s3.g.z).trans (g4.z.trans g5.z))).app (Reps.cons ry Reps.nil)
     .rw[if_neg RM]
      refine⟨ds.length-(i+1),by omega,rfl,hlt,hσ3,H04,g04,n4,hD4,back g4.z,es1,?_,hys.mono ((g2.z.trans s3.g.z).trans g4.z)⟩;rw[htake];rw[show es1=es1++[] by simp];refine j7 hes1 ?_;rw[uk t1 t2];rfl
  .have hi2:i=ds.length:=by omega
   refine .inl ⟨it.stop i H' Ha' gg.z gg.sub (by omega),?_⟩;rw[hi2,T8]at hes1;rw[e2]at hes1;cases hes1;exact q Da ys H' Ha' (g1.trans gg) (g1.s.free hDa) hD0 hDl hys
structure OV (X:Cx) (E:XK) (ifs:List R1) (f:am):Prop where
 o:Oz X ifs (MF X.K E f)
def mYes:am:=λ_=>.ok (.bl true)
def ig:OV X E [] mYes:=⟨λπ s σ H Q I ⟨Ha,ρ,hs,hr,q⟩=>Ie π s σ H Q I (q H Ha (bj.refl hs))⟩
def jX(h:DT X E c f):OV X E [c] f:=⟨Ic h.o⟩
structure MQ (X:Cx) (E:XK) (e:R1) (f:am):Prop where
 ev:PE X e (tF X.K E f)
 st:∀{i:Nat}{x:Ro}{pos' spos:Pos},X.N.Nodup->X.N[i]?=some x->X.env.scope.names.lookup x=some .local -> SD e (some (.Name x pos')) spos.line X.env=pure true->PS X (.Assign [.Name x pos'] e spos) (KH (tF X.K E f) (Gg i))
def QJ(N:bv)(n:Nat)(fr:ce)(hc:X.calm=true)(hi:DI X E tgt iter src)(hok:GZ n tg)
  (blk:∀s H C fp pn,(∀He η,DG (fH X N scope s H C fp pn) E He η tgt tg)/\OV (fH X N scope s H C fp pn) E ifs tt/\DE (fH X N scope s H C fp pn) E elt fe)
  (hfr:G4 X N n fr scope)(hcell:∀x∈scope.names,x.2≠.cell)(hfree:∀x∈scope.names,x.2=.free->X.env.scope.names.lookup x.1=some .cell)(hkind:scope.kind=.function)(hnames:∀x∈scope.names,x.2=.local -> scope.names.lookup x.1=some .local)
  (hs:∀x,foldedSetIterable iter X.env x=pure x:=by intro _;rfl):MQ X E (.ListComp elt [⟨tgt,iter,ifs,0⟩] scope pos) (cE n fr src tg tt fe):=by
 have blk':∀s H C fp pn,PG (fH X N scope s H C fp pn) tgt (LV X.K tg)/\Oz (fH X N scope s H C fp pn) ifs (MF X.K E tt)/\PE (fH X N scope s H C fp pn) elt (tD X.K E fe):=λs H C fp pn=>
  ⟨λπ s' σ' H' v u Q' I r ⟨He,η,q'⟩=>((blk s H C fp pn).1 He η).o π s' σ' H' v u Q' I r q',(blk s H C fp pn).2.1.o,(blk s H C fp pn).2.2.o⟩
 have first:∀{π:List (Q9×Obj)}{s:Rg}{σ:L2.St}{H:Hp}{Q:VK}{RR:QY->Q9->Result->Rg->Prop},L2.Inv X π σ H s->tF X.K E (cE n fr src tg tt fe) σ H Q ->
   (∀(Da C:Q9) (s6:Rg) (H5:Hp) (m:Ro->Option QY),L2.Inv X π σ H5 s6->s6.heap.Ns C m->pC X π H5 C->Q (.ref Da) H5->RR (.ref Da) C (.ok .next) s6) ->
   RH (RB X.prog X.w) X.A (eval iter X.env) (λx si=>RH (RB X.prog X.w) X.A (pyIter x) (λit sj=>RH (RB X.prog X.w) X.A (newList []) (λacc sn=>
    RH (RB X.prog X.w) X.A (newFunctionEnv scope X.env.globals (jm X.env.cells scope.names []) [] X.env.qual none .none (some X.env)) (λcenv so=>
     Tw (RB X.prog X.w) X.A (.compStart (.ListComp elt [⟨tgt,iter,ifs,0⟩] scope pos) 0 it acc { cenv with scope:=relabel scope X.env }) (RR acc cenv.locals) so) X.xe sn) X.xe sj) X.xe si) X.xe s:=by
  intro π s σ H Q RR I ⟨Ha,ρ,hsame,hr,q⟩ fin;refine cT (hi.o π s σ H (λJ H1=>zU n fr (LV X.K tg) (MF X.K E tt) (tD X.K E fe) J σ H1 Q) I ⟨Ha,ρ,hsame,hr,?_⟩) λv s1 h1=>cT h1 λitv s2 h2=>Ds (N:=N) hc hfr hcell hfree hkind blk' h2 fin;unfold cE at q;cases e1:src ρ with
  |stuck|exn x=>rw[e1]at q;exact q
  |ok ds=>
   rw[e1]at q;intro J H1 H01 g1 it;replace q:match (if ds.length<=line then match bV (du n fr ρ) tg tt fe ds with
     |.ok es=>av.ok (D.lst es)
     |_=>.stuck else .stuck) with
    |.ok (.lst ds)=>∀p vs H' Ha',bj H Ha H' Ha'->H p=none->Ha' p=none->H' p=some (.lst vs)->Reps X.K Ha' ds vs->Q (.ref p) H'
    |.ok _=>False
    |.exn x=>∀C ox H' Ha',bj H Ha H' Ha'->zH X.K Ha' x C ox->E C ox H'
    |.stuck=>False:=q
   by_cases hl:ds.length<=line
   .rw[if_pos hl]at q
    cases e2:bV (du n fr ρ) tg tt fe ds with
    |stuck|exn x=>rw[e2]at q;exact q.elim
    |ok es=>
     rw[e2]at q;exact AY hsame g1 it hl e2 (hr.mono g1.z) hok q
   .rw[if_neg hl]at q;exact q.elim
 have hcl:∀{π:List (Q9×Obj)}{s:Rg}{σ:L2.St}{H:Hp},L2.Inv X π σ H s->closureFor scope X.env=pure (jm X.env.cells scope.names []):=λ{π s σ H} I=>vd λy hy hf=>I.ok.has y.1 (.inl (hfree y hy hf));refine⟨λπ s σ H Q I h=>?_,λ{i x pos' spos} hN hi' hx hsw π s σ H D' I h=>?_⟩
 .rw[eval_ListComp]
  refine wpAny_comprehension_free (use:=none) rfl hs (hcl I) hkind hnames (first (RR:=λacc C=>compPost (RB X.prog X.w) X.A X.xe none (EP X π σ Q) acc C) I h λDa C s6 H5 m I6 ns fC q=>?_);refine⟨m,ns,λh' sb=>⟨.ref Da,H5,?_,rfl,q⟩⟩;exact I6.turned (t':=s6.toks) (it:=C) (λb o hb e=>(sb.2 b hb).trans e) fC.1 fC.2.1 fC.2.2.2.1 fC.2.2.2.2.1 fC.2.2.2.2.2
 .rw[exec_Assign_Name_used _ _ _ _ hsw]
  refine Rj (wpAny_standAt (Rj ?_));show RH _ X.A (do let _ ←comprehension (.ListComp elt [⟨tgt,iter,ifs,0⟩] scope pos) scope X.env _ (newList []) false (eval iter X.env) (some (assign (.Name x pos') X.env))) _ _ s;refine Rj (S8 (wpAny_comprehension_free (use:=some (assign (.Name x pos') X.env)) (Q:=λ_ s'=>SP X π D' .next s') rfl hs (hcl I) hkind hnames
   (first (RR:=λacc C=>compPost (RB X.prog X.w) X.A X.xe (some (assign (.Name x pos') X.env)) (λ_ s'=>SP X π D' .next s') acc C) I h λDa C s6 H5 m I6 ns fC q=>?_)) (λ_ s' hq=>RI (RI hq)) λ_ _ e=>e)
  show RH _ X.A (assign (.Name x pos') X.env (.ref Da)) _ _ _;refine wpAny_assign_Name (vz (v:=.ref Da) I6 hN hi' (.inl hx) rfl (λs' I' z9=>?_) (.inr hx));obtain⟨a,sb,ha⟩:=z9;have hCa:C≠a:=by
   rcases ha with rfl|ha
   .exact fC.2.1
   .exact λz=>fC.2.2.2.2.1 x a ha z.symm
  refine⟨m,ns.sameBut sb hCa,λh' sb'=>⟨_,H5,?_,q⟩⟩;exact I'.turned (t':=s'.toks) (it:=C) (λb o hb e=>(sb'.2 b hb).trans e) fC.1 fC.2.1 fC.2.2.2.1 fC.2.2.2.2.1 fC.2.2.2.2.2
def Kh(h:MQ X E e f):DF X E e f:=⟨h.ev⟩
def mj{fr:ce}(h:MQ X E e (cE n fr src tg tt fe)):DE X E e (cE n fr src tg tt fe):=GH jG (Kh h)
def lZ(N:bv)(n:Nat)(fr:ce)(hc:X.calm=true)(hi:DI X E tgt iter src)(hok:GZ n tg)
  (blk:∀s H C fp pn,(∀He η,DG (fH X N scope s H C fp pn) E He η tgt tg)/\OV (fH X N scope s H C fp pn) E ifs tt/\DE (fH X N scope s H C fp pn) E elt fe)
  (hfr:G4 X N n fr scope)(hcell:(scope.names.all λx=>!(x.2==.cell))=true)(hfree:(scope.names.all λx=>!(x.2==.free)||(X.env.scope.names.lookup x.1==some .cell))=true)(hkind:scope.kind=.function)
  (hnames:(scope.names.all λx=>!(x.2==.local)||(scope.names.lookup x.1==some .local))=true)
  (hs:∀x,foldedSetIterable iter X.env x=pure x:=by intro _;rfl):MQ X E (.ListComp elt [⟨tgt,iter,ifs,0⟩] scope pos) (cE n fr src tg tt fe):=by
 refine QJ N n fr hc hi hok blk hfr (λx hx z=>?_) (λx hx z=>?_) hkind (λx hx z=>?_) hs
 .have:=Ru.mp hcell x hx
  rw[z]at this;simp at this
 .have:=Ru.mp hfree x hx
  rw[z]at this;simpa using this
 .have:=Ru.mp hnames x hx
  rw[z]at this;simpa using this
def qO(hN:X.N.Nodup)(hi:X.N[i]?=some x)(hx:X.env.scope.names.lookup x=some .local)(hl:oE f)(he:MQ X E e f)(hs:SD e (some (.Name x pos')) pos.line X.env=pure true:=by rfl):DS X E He η (.Assign [.Name x pos'] e pos) (aJ i f):=by
 refine⟨cB (he.st hN hi hx hs) λD σ H ⟨Ha,ρ,h,q⟩=>?_⟩;refine xR hl ⟨Ha,ρ,h.g.sub,h.rd,?_⟩;refine plain h q λd v H' Ha' _ g rp q'=>?_;exact q' _ H' Ha' (aE.refl _) ((h.grow g).put rp)
end DL
namespace Com
open PySem L2 DL
noncomputable def iq:bi :=
 (aq (aJ 2 (ao (af (ae 0) (af (aa (aQ (dC (.int 1)) jF) (ae 0) ik) ax)) (m2 PU)))
 (aq (aJ 3 (ae 2))
 (aq (wJ 4 (ao ax cH))
 (aq (x9 (ao (af (ae 1) ax) (m1 dP)) (bF 5)
 (aq (cM (dZ (aa (ae 2) (aa (dC (.int 10)) (dC (.int 18)) kr) Mm) (aa (ae 3) (dC (.int 0)) zK))
 (aq (c6 4 (aa (ae 3) (aa (ae 1) (ae 5) aC) cQ))
 (aq (aJ 3 (aa (ae 3) (aa (ae 1) (ae 5) aC) l3))
 ak))
 (aq (aJ 6 (aa (aa (aa (aa (aa (aa (ae 2) (dC (.int 2147483647)) cQ) (aa (aa (dC (.int 1009)) (ae 5) bE) (ae 5) bE) bz) (aa (dC (.int 31)) (ae 5) bE) bz) (dC (.int 7)) bz) (dC (.int 48271)) bE) (dC (.int 2147483629)) cQ))
 (aq (aJ 6 (aa (aa (aa (aa (aa (ae 6) (ae 6) bE) (dC (.int 2147483647)) cQ) (ae 5) bz) (dC (.int 39373)) bE) (dC (.int 2147483587)) cQ))
 (aq (c6 4 (aa (aa (ae 6) (dC (.int 8)) l3) (aa (ae 1) (ae 5) aC) cQ))
 ak))))
 ak))
 (aq (aW (ae 4))
 ak)))))
def aD:ac->av D:=br 7 iq
def uH:bi :=
 (aq (gf (m7 1) (aa (ae 1) (dC (.int 0)) gO)
 (aq (CI 0 1 (af (ae 1) (af (aa (ae 0) (ae 1) cQ) ax)))
 ak))
 (aq (aW (ao (af (ae 0) ax) (m1 vc)))
 ak))
def rS:ac->av D:=br 2 uH
def ve:bi :=
 (aq (aJ 2 (ao (af (ae 0) (af (ae 1) ax)) rS))
 (aq (aW (ao (af (aa (ae 0) (ae 2) l3) (af (aa (ae 1) (ae 2) l3) ax)) c5))
 ak))
def mf:ac->av D:=br 3 ve
def xw:bi :=
 (aq (aW (dZ (aQ (ae 0) (gL "int")) (cg (aQ (ae 0) (gL "bool")))))
 ak)
def cG:ac->av D:=br 1 xw
def A4:bi :=
 (aq (aW (dZ (aQ (ae 0) (gL "int")) (cg (aQ (ae 0) (gL "bool")))))
 ak)
def m_is_whole:ac->av D:=br 1 A4
noncomputable def eN:bi :=
 (aq (aJ 2 (ao (af (ae 0) ax) (m1 vc)))
 (aq (aJ 3 (ao (af (ae 1) ax) (m1 vc)))
 (aq (gf (m7 3) (aa (ae 3) (dC (.int 0)) gO)
 (aq (aJ 4 (aa (ae 2) (ae 3) cQ))
 (aq (aJ 2 (ae 3))
 (aq (aJ 3 (ae 4))
 ak))))
 (aq (aW (ae 2))
 ak))))
def m_common_divisor:ac->av D:=br 5 eN
noncomputable def qR:bi :=
 (aq (cM (gZ (cg (ao (af (ae 0) ax) m_is_whole)) (cg (ao (af (ae 1) ax) m_is_whole)))
 (aq dg
 ak)
 ak)
 (aq (cM (aa (ae 1) (dC (.int 0)) fJ)
 (aq dg
 ak)
 ak)
 (aq (aJ 2 (ao (af (ae 0) (af (ae 1) ax)) m_common_divisor))
 (aq (cM (aa (ae 1) (dC (.int 0)) zk)
 (aq (aJ 2 (aQ (ae 2) jF))
 ak)
 ak)
 (aq (aW (ao (af (aa (ae 0) (ae 2) l3) (af (aa (ae 1) (ae 2) l3) ax)) c5))
 ak)))))
def m_ratio:ac->av D:=br 3 qR
noncomputable def A3:bi :=
 (aq (aW (ao (af (aa (aa (aa (ae 0) (dC (.int 0)) aC) (aa (ae 1) (dC (.int 1)) aC) bE) (aa (aa (ae 1) (dC (.int 0)) aC) (aa (ae 0) (dC (.int 1)) aC) bE) bz) (af (aa (aa (ae 0) (dC (.int 1)) aC) (aa (ae 1) (dC (.int 1)) aC) bE) ax)) m_ratio))
 ak)
def FW:ac->av D:=br 2 A3
def wa:bi :=
 (aq (aW (aa (aa (aa (ae 0) (dC (.int 0)) aC) (aa (ae 1) (dC (.int 1)) aC) bE) (aa (aa (ae 1) (dC (.int 0)) aC) (aa (ae 0) (dC (.int 1)) aC) bE) zk))
 ak)
def m_is_less:ac->av D:=br 2 wa
def DB{f:α->av β}:(av.ok a).bind f=f a:=rfl
def kE(h:s ρ=.ok (.nx ρ')):aq s t ρ=t ρ':=by unfold aq;rw[h];rfl
def z9(h:s ρ=.ok (.rt d)):aq s t ρ=.ok (.rt d):=by unfold aq;rw[h];rfl
def EA(h:s ρ=.ok (.nx ρ')):aq s ak ρ=.ok (.nx ρ'):=by unfold aq;rw[h];rfl
def z7(h:f ρ=.ok d):aJ i f ρ=.ok (.nx (ρ.set i (.sh d))):=by unfold aJ;rw[h];rfl
def Ab(h:f (iH ρ)=.ok d):aW f ρ=.ok (.rt d):=by unfold aW;rw[h];rfl
def LO(h:c (iH ρ)=.ok (.bl false)):cM c s t ρ=t ρ:=by unfold cM;rw[h];rfl
def jU:gO (.int i) (.int j)=.ok (.bl (!(i==j))):=by unfold gO;rw[if_pos ⟨rfl,rfl⟩,cw]
def o6:fJ (.int i) (.int j)=.ok (.bl (i==j)):=by unfold fJ;rw[if_pos ⟨rfl,rfl⟩,cw]
def KU(h:s (ds.map Sl.sh++RC (n-ds.length) .no)=.ok (.rt d)):br n s ds=.ok d:=by unfold br;rw[h];rfl
def oz(h:f ρ=.ok x)(h':fa ρ=.ok xs):af f fa ρ=.ok (x::xs):=by unfold af;rw[h,DB,h'];rfl
def iV(h:f ρ=.ok x)(h':g ρ=.ok y):aa f g op ρ=op x y:=by unfold aa;rw[h,DB,h'];rfl
def oj(h:fa ρ=.ok xs):ao fa m ρ=m xs:=by unfold ao;rw[h];rfl
def FR(h:b≠0):cQ (.int a) (.int b)=.ok (.int (a.fmod b)):=by
 show(if decide (b≠0)=true then av.ok (D.int (a.fmod b)) else .stuck)=_;rw[if_pos (decide_eq_true h)]
def GD(h:gJ a b=true):l3 (.int a) (.int b)=.ok (.int (a.fdiv b)):=by
 show(if gJ a b=true then av.ok (D.int (a.fdiv b)) else .stuck)=_;rw[if_pos h]
def Av(h:cU a b=true):bE (.int a) (.int b)=.ok (.int (a*b)):=by
 show(if cU a b=true then av.ok (D.int (a*b)) else .stuck)=_;rw[if_pos h]
def yL(a b:Int):RD b (a.fmod b)=RD a b:=by
 rw[Int.fmod_def,Int.gcd_sub_mul_left_right,Wv]
def Jc{a b:Int}(h:b≠0):(a.fmod b).natAbs<b.natAbs:=by
 rcases Int.lt_or_gt_of_ne h with hb|hb
 .have h1:=Vx (-a) (show 0 < -b by omega)
  have h2:=Uu (-a) (show 0 < -b by omega);rw[Int.neg_fmod_neg]at h1 h2;omega
 .have h1:=Vx a hb
  have h2:=Uu a hb;omega
theorem pV:∀(n:Nat) (x y:D) (a b:Int) (r:Sl),0<=a->0<=b->b.natAbs<n->∃r',
  ck (aa (ae 3) (dC (.int 0)) gO) (aq (aJ 4 (aa (ae 2) (ae 3) cQ)) (aq (aJ 2 (ae 3)) (aq (aJ 3 (ae 4)) ak))) n [.sh x,.sh y,.sh (.int a),.sh (.int b),r]=.ok (.nx [.sh x,.sh y,.sh (.int (RD a b)),.sh (.int 0),r'])
 |0,_,_,a,b,_,_,_,h=>absurd h (Nat.not_lt_zero _)
 |n+1,x,y,a,b,r,ha,hb0,h=>by
  unfold ck;have c:∀r,(aa (ae 3) (dC (.int 0)) gO) (iH [.sh x,.sh y,.sh (.int a),.sh (.int b),r])=.ok (.bl (!(b==0))):=λr=>jU;rw[c]
  by_cases hb:b=0
  .subst hb
   refine⟨r,?_⟩;have e:((RD a 0:Nat):Int)=a:=by simp;omega
   rw[e];rfl
  .have e:(!(b==0))=true:=by simp[hb]
   have hp:0<b:=by omega
   obtain⟨r',h2⟩:=pV n x y b (a.fmod b) (.sh (.int (a.fmod b))) hb0 (Uu a hp) (by have:=Jc (a:=a) hb;omega);refine⟨r',?_⟩;rw[yL]at h2;rw[←h2,e];have st:(aq (aJ 4 (aa (ae 2) (ae 3) cQ)) (aq (aJ 2 (ae 3)) (aq (aJ 3 (ae 4)) ak))) [.sh x,.sh y,.sh (.int a),.sh (.int b),r]=.ok (.nx [.sh x,.sh y,.sh (.int b),.sh (.int (a.fmod b)),.sh (.int (a.fmod b))]):=by
    have m:(aa (ae 2) (ae 3) cQ) [.sh x,.sh y,.sh (.int a),.sh (.int b),r]=.ok (.int (a.fmod b)):=by
     exact FR hb
    rw[kE (z7 m)];rfl
   show(av.bind _ _)=_;rw[st];rfl
def lT(a b:Int):m_common_divisor [.int a,.int b]=.ok (.int (RD a b)):=by
 have e:∀i:Int,(if i<0 then -i else i)=(i.natAbs:Int):=λi=>by split<;>omega
 obtain⟨r',h⟩:=pV ((b.natAbs:Int).natAbs+1) (.int a) (.int b) a.natAbs b.natAbs .no (Vv _) (Vv _) (TC _);have hg:RD (a.natAbs:Int) (b.natAbs:Int)=RD a b:=by simp[RD]
 rw[hg]at h;have r:eN [.sh (.int a),.sh (.int b),.no,.no,.no]=.ok (.rt (.int (RD a b))):=by
  unfold eN;rw[kE (ρ':=[.sh (.int a),.sh (.int b),.sh (.int (a.natAbs:Int)),.no,.no]) (by rw[←e a];rfl)];rw[kE (ρ':=[.sh (.int a),.sh (.int b),.sh (.int (a.natAbs:Int)),.sh (.int (b.natAbs:Int)),.no]) (by rw[←e b];rfl)];have w:gf (m7 3) (aa (ae 3) (dC (.int 0)) gO) (aq (aJ 4 (aa (ae 2) (ae 3) cQ)) (aq (aJ 2 (ae 3)) (aq (aJ 3 (ae 4)) ak))) [.sh (.int a),.sh (.int b),.sh (.int (a.natAbs:Int)),.sh (.int (b.natAbs:Int)),.no]=.ok (.nx [.sh (.int a),.sh (.int b),.sh (.int (RD a b)),.sh (.int 0),r']):=h;rw[kE w];exact z9 (Ab rfl)
 show(eN [.sh (.int a),.sh (.int b),.no,.no,.no]).bind _=_;rw[r];rfl
def Ah:(2:Nat) ^ 64<=qf:=by rw[pE];exact Sy (by decide) (by decide)
def NU{i:Int}(h:i.natAbs<18446744073709551616):i.natAbs<qf:=Q4 h Ah
def jA(h:i.natAbs<18446744073709551616)(h':j.natAbs<18446744073709551616):cU i j=true:=by
 unfold cU;rw[Rn];exact⟨decide_eq_true (NU h),decide_eq_true (NU h')⟩
def dY(h:i.natAbs<qf)(h':j.natAbs<qf):cU i j=true:=by
 unfold cU;rw[Rn];exact⟨decide_eq_true h,decide_eq_true h'⟩
def Kg(h0:j≠0)(h:j.natAbs<B9):gJ i j=true:=by
 unfold gJ;rw[Rn,VW];exact⟨decide_eq_true h0,.inl (decide_eq_true h)⟩
def ud(h0:j≠0)(h:i.natAbs<qU):gJ i j=true:=by
 unfold gJ;rw[Rn,VW];exact⟨decide_eq_true h0,.inr (decide_eq_true h)⟩
def eY{k:Nat}(h:ds[k]?=some d):aC (.lst ds) (.int (k:Int))=.ok d:=by
 unfold aC;simp only[fu h]
def eT{a b:Int}(hb:0<b):0<=a.fmod b/\a.fmod b<b:=⟨Uu a hb,Vx a hb⟩
def De{n k:Nat}(h:k<n):(DL.intsFrom 0 n).drop k=.int (k:Int)::(DL.intsFrom 0 n).drop (k+1):=by
 have hl:(DL.intsFrom 0 n).length=n:=by unfold DL.intsFrom;simp
 rw[Sm (by rw[hl];exact h)]
 congr 1
 unfold DL.intsFrom;simp
def Gd:(DL.intsFrom 0 n).drop n=[]:=by
 have hl:(DL.intsFrom 0 n).length=n:=by unfold DL.intsFrom;simp
 exact Ws (by omega)
def i5(h1:tg ρ d=.ok ρ1)(h2:s ρ1=.ok (.nx ρ2)):cm tg s (d::r) ρ=cm tg s r ρ2:=by
 rw[cm,h1,DB,h2,DB]
def G7:D->Bool
 |.int _=>true
 |_=>false
def D9(d:D):cG [d]=.ok (.bl (G7 d)):=by cases d<;>first|rfl|(rename_i k _;cases k<;>rfl)
def gG(d:D):m_is_whole [d]=.ok (.bl (G7 d)):=by cases d<;>first|rfl|(rename_i k _;cases k<;>rfl)
def jD{a g:Int}(hg:0<g):a.fdiv g=a / g:=V3 a (by omega)
def qJ(h:b≠0):0<(RD a b:Int):=by
 have:=Int.gcd_pos_of_ne_zero_right a h;omega
def E2(hb:0<b)(h1:a.natAbs<qU)(h2:b.natAbs<qU):m_ratio [.int a,.int b]=.ok (.tup [.int (a / RD a b),.int (b / RD a b)]):=by
 have hg:=qJ (a:=a) (b:=b) (by omega);have r:qR [.sh (.int a),.sh (.int b),.no]=.ok (.rt (.tup [.int (a / RD a b),.int (b / RD a b)])):=by
  unfold qR;rw[kE (ρ':=[.sh (.int a),.sh (.int b),.no]) (LO (t:=ak) rfl)];rw[kE (ρ':=[.sh (.int a),.sh (.int b),.no]) (LO (t:=ak) ((iV (x:=.int b) (y:=.int 0) rfl rfl).trans (o6.trans (by rw[beq_eq_false_iff_ne.mpr (by omega)]))))];rw[kE (ρ':=[.sh (.int a),.sh (.int b),.sh (.int (RD a b))]) (z7 ((oj (xs:=[.int a,.int b]) rfl).trans (lT a b)))];rw[kE (ρ':=[.sh (.int a),.sh (.int b),.sh (.int (RD a b))]) (LO (t:=ak) (by
   show av.ok (D.bl (decide (b<0)))=_;rw[decide_eq_false (by omega)]))]
  refine z9 (Ab ?_);refine(oj (xs:=[.int (a / RD a b),.int (b / RD a b)]) (oz ?_ (oz ?_ rfl))).trans rfl
  .rw[←jD hg]
   exact(iV (x:=.int a) (y:=.int (RD a b)) rfl rfl).trans (GD (ud (by omega) h1))
  .rw[←jD hg]
   exact(iV (x:=.int b) (y:=.int (RD a b)) rfl rfl).trans (GD (ud (by omega) h2))
 show(qR [.sh (.int a),.sh (.int b),.no]).bind _=_;rw[r];rfl
def IZ(p q:Int):D:=.tup [.int p,.int q]
end Com
open Com
namespace Com
open PySem L2 DL
abbrev cA:=Int×Int
def fr(x:cA):D:=IZ x.1 x.2
def kz:Nat:=1000000000000000000000000000000000000000000000000000000000000
def My:kz<=B9:=by rw[G5];exact Ra (show kz<=2 ^ 200 by decide) (Sy (by decide) (by decide))
def xB:kz<=qU:=by rw[mI];exact Ra (show kz<=2 ^ 200 by decide) (Sy (by decide) (by decide))
def cC:kz<=qf:=by rw[pE];exact Ra (show kz<=2 ^ 200 by decide) (Sy (by decide) (by decide))
def oF:qU<=qf:=by rw[mI,pE];exact Sy (by decide) (by decide)
structure Low (x:cA):Prop where
 q1:1<=x.2
 g1:RD x.1 x.2=1
structure aU (x:cA):Prop extends Low x where
 pN:x.1.natAbs<kz
 qN:x.2.natAbs<kz
def c9(a b:Int):cA:=(a / RD a b,b / RD a b)
def fq(hb:0<b):Low (c9 a b):=by
 have hg:=qJ (a:=a) (b:=b) (by omega);refine⟨?_,Int.gcd_ediv_gcd_ediv_gcd (by omega)⟩;have:=Int.ediv_gcd_ne_zero_if_ne_zero_right a (show b≠0 by omega);have h2:0<=b / (RD a b:Int):=Uj (by omega) (by omega);show 1<=b / (RD a b:Int);omega
def lH:(c9 a b).1*b=a*(c9 a b).2:=by
 unfold c9;obtain⟨x,hx⟩:=UA a b;obtain⟨y,hy⟩:=Ut a b
 by_cases hg:(RD a b:Int)=0
 .simp only[hg,Int.ediv_zero,Va,Int.mul_zero]
 .generalize hG:(RD a b:Int)=G at *
  have e1:a / G=x:=by rw[hx];exact Si x hg
  have e2:b / G=y:=by rw[hy];exact Si y hg
  show a / G*b=a*(b / G);rw[e1,e2]
  calc x*b=x*(G*y):=by rw[←hy]
   _=G*x*y:=by grind
   _=a*y:=by rw[←hx]
def lJ:(c9 a b).1.natAbs<=a.natAbs:=SA _ _
def lI:(c9 a b).2.natAbs<=b.natAbs:=SA _ _
def yy(hx:Low x)(hy:Low y)(h:x.1*y.2=y.1*x.2):x=y:=by
 have d1:x.2∣y.2:=by
  have:x.2∣x.1*y.2:=⟨y.1,by rw[h];exact Us _ _⟩
  rw[←VX,Wv,hx.g1]at this;simpa using this
 have d2:y.2∣x.2:=by
  have:y.2∣y.1*x.2:=⟨x.1,by rw[←h];exact Us _ _⟩
  rw[←VX,Wv,hy.g1]at this;simpa using this
 have e:x.2=y.2:=Int.dvd_antisymm (by have:=hx.q1;omega) (by have:=hy.q1;omega) d1 d2;have e1:x.1=y.1:=by
  rw[e]at h;exact SU (by have:=hy.q1;omega) h
 exact Prod.ext e1 e
def yd(hb:0<b)(h1:a.natAbs<qU)(h2:b.natAbs<qU):m_ratio [.int a,.int b]=.ok (fr (c9 a b)):=E2 hb h1 h2
def NV(hb:0<b)(h1:a.natAbs<kz)(h2:b.natAbs<kz):aU (c9 a b):=⟨fq hb,Rp lJ h1,Rp lI h2⟩
def wG(x:cA):aR (n+1) (fr x)=true:=by
 cases n<;>rfl
def eq_fr:cw (fr x) (fr y)=(x.1==y.1&&x.2==y.2):=by
 unfold fr IZ;simp[cw,eqDs]
def flt(x y:cA):Bool:=decide (x.1*y.2<y.1*x.2)
theorem BW{tg:Ev->D->av Ev}{body:bi}(P:Ev->Prop):∀{ds:ac},(∀d∈ds,∀ρ,P ρ->∃ρ1 ρ2,tg ρ d=.ok ρ1/\body ρ1=.ok (.nx ρ2)/\P ρ2)->∀ρ,P ρ->∃ρ',cm tg body ds ρ=.ok (.nx ρ')/\P ρ'
 |[],_,ρ,h=>⟨ρ,rfl,h⟩
 |d::r,hs,ρ,h=>by
  obtain⟨ρ1,ρ2,h1,h2,h3⟩:=hs d Q3 ρ h;obtain⟨ρ',h4,h5⟩:=BW P (λe he=>hs e (QX _ he)) ρ2 h3;exact⟨ρ',by rw[i5 h1 h2];exact h4,h5⟩
def QE{α:Type}{a b:α}(h:a=b):a=b:=h
def KP(t:bi)(r:Fl):av Fl:=match r with
 |.nx ρ'=>t ρ'
 |r=>.ok r
def Nl(i:Nat)(ρ:Ev)(d:D):av Fl:=.ok (.nx (ρ.set i (.sh d)))
def Np(d:D):av Fl:=.ok (.rt d)
def Ke(ρ:Ev)(_:D):av Fl:=.ok (.nx ρ)
def Pz(s t:bi)(ρ:Ev)(x:D):av Fl:=match x with
 |.bl b=>if b=true then s ρ else t ρ
 |_=>.stuck
def NJ(i:Nat)(ρ:Ev)(d:D):av Fl:=match d with
 |.lst ds=>.ok (.nx (ρ.set i (.ow (.lst ds))))
 |_=>.stuck
def Li(s:Option Sl)(k:ac->av Fl):av Fl:=match s with
 |some (.ow (.lst ds))=>k ds
 |_=>.stuck
def Ot(i:Nat)(ρ:Ev)(ds:ac)(d:D):av Fl:=if ds.length<line then .ok (.nx (ρ.set i (.ow (.lst (ds++[d]))))) else .stuck
def Ae(i:Nat)(ρ:Ev)(ds:ac)(d j:D):av Fl:=if kq d=true then DL.putAt ρ i ds d j else .stuck
def pF(i:Nat)(ρ:Ev)(k:am)(ds:ac)(d:D):av Fl:=(k (iH ρ)).bind (Ae i ρ ds d)
def Kv(is:ce)(ρ:Ev)(d:D):av Fl:=match fL is.length d with
 |some ds=>.ok (.nx (de ρ is ds))
 |none=>.stuck
def NI(i j:Nat)(ρ:Ev)(ds:ac):av Fl:=match ds with
 |[x,y]=>.ok (.nx ((ρ.set i (.sh x)).set j (.sh y)))
 |_=>.stuck
def k2(g:am)(op:D->D->av D)(ρ:Ev)(x:D):av D:=(g ρ).bind (op x)
def AX(x:D)(xs:ac):av (ac):=.ok (x::xs)
def Ki(fa:Ev->av (ac))(ρ:Ev)(x:D):av (ac):=(fa ρ).bind (AX x)
def Mt(g:am)(ρ:Ev)(x:D):av D:=match x with
 |.bl true=>g ρ
 |.bl false=>.ok (.bl false)
 |_=>.stuck
def Pq(g:am)(ρ:Ev)(x:D):av D:=match x with
 |.bl true=>.ok (.bl true)
 |.bl false=>g ρ
 |_=>.stuck
def NP(x:D):av D:=match x with
 |.bl b=>.ok (.bl (!b))
 |_=>.stuck
def LN(f g:am)(ρ:Ev)(x:D):av D:=match x with
 |.bl true=>f ρ
 |.bl false=>g ρ
 |_=>.stuck
def MW(s:Option Sl):av D:=match s with
 |some (.sh d)=>.ok d
 |_=>.stuck
def Ew(s:Sl):Sl:=match s with
 |.ow d=>.sh d
 |.ox _ ds=>.sh (.tup ds)
 |x=>x
def EE(r:Fl):av D:=match r with
 |.nx _=>.ok .non
 |.rt d=>.ok d
 |_=>.stuck
def Qf(x:D):av (Option Int):=match x with
 |.int i=>.ok (some i)
 |_=>.stuck
def CD(x:D)(l:Option Int)(h:Option Int):av D:=ra x l h
def Ph(hi:Ev->av (Option Int))(ρ:Ev)(x:D)(l:Option Int):av D:=(hi ρ).bind (CD x l)
def Nk(lo hi:Ev->av (Option Int))(ρ:Ev)(x:D):av D:=(lo ρ).bind (Ph hi ρ x)
def N9(tg:Ev->D->av Ev)(s:bi)(ρ:Ev)(d:D):av Fl:=match d with
 |.lst ds=>cm tg s ds ρ
 |_=>.stuck
def Jw(op':D->D->av D)(h:am)(ρ:Ev)(y z:D):av D:=match z with
 |.bl true=>(h ρ).bind (op' y)
 |.bl false=>.ok (.bl false)
 |_=>.stuck
def Mp(op op':D->D->av D)(h:am)(ρ:Ev)(x y:D):av D:=(op x y).bind (Jw op' h ρ y)
def Ql(op op':D->D->av D)(g h:am)(ρ:Ev)(x:D):av D:=(g ρ).bind (Mp op op' h ρ x)
section
variable {s t:bi}{f g h:am}{fa:Ev->av (ac)}{ρ r:Ev}{i j:Nat}{d x y:D}{ds xs:ac}{op op':D->D->av D}{a b:Int}
def ki{a:α}{k:α->av β}:(av.ok a).bind k=k a:=rfl
def gR:aq s t ρ=(s ρ).bind (KP t):=rfl
def gq:KP t (.nx ρ)=t ρ:=rfl
def nz:KP t (.rt d)=.ok (.rt d):=rfl
def lL:ak ρ=.ok (.nx ρ):=rfl
def mz:aJ i f ρ=(f ρ).bind (Nl i ρ):=rfl
def ny:Nl i ρ d=.ok (.nx (ρ.set i (.sh d))):=rfl
def tj:aW f ρ=(f (iH ρ)).bind Np:=rfl
def nC:Np d=.ok (.rt d):=rfl
def n8:gC f ρ=(f (iH ρ)).bind (Ke ρ):=rfl
def kS:Ke ρ d=.ok (.nx ρ):=rfl
def yX:cM f s t ρ=(f (iH ρ)).bind (Pz s t ρ):=rfl
def tP:Pz s t ρ (.bl true)=s ρ:=rfl
def tO:Pz s t ρ (.bl false)=t ρ:=rfl
def tq:wJ i f ρ=(f ρ).bind (NJ i ρ):=rfl
def nG:NJ i ρ (.lst ds)=.ok (.nx (ρ.set i (.ow (.lst ds)))):=rfl
def tZ:c6 i f ρ=Li ρ[i]? λds=>(f ρ).bind (Ot i ρ ds):=rfl
def nF{k:ac->av Fl}:Li (some (.ow (.lst ds))) k=k ds:=rfl
def dH(h:decide (ds.length<=999)=true):Ot i ρ ds d=.ok (.nx (ρ.set i (.ow (.lst (ds++[d]))))):=if_pos (Rp (of_decide_eq_true h) (by decide))
def nD:Bo i f g ρ=Li ρ[i]? λds=>(f (iH ρ)).bind (pF i ρ g ds):=rfl
def kP:pF i ρ g ds d=(g (iH ρ)).bind (Ae i ρ ds d):=rfl
def Gu(hf:kq d=true):Ae i ρ ds d x=DL.putAt ρ i ds d x:=if_pos hf
def sS:HI is f ρ=(f ρ).bind (Kv is ρ):=rfl
def tm:CI i j fa ρ=(fa ρ).bind (NI i j ρ):=rfl
def nE:NI i j ρ [x,y]=.ok (.nx ((ρ.set i (.sh x)).set j (.sh y))):=rfl
def y9:aQ f o ρ=(f ρ).bind o:=rfl
def tY:aa f g op ρ=(f ρ).bind (k2 g op ρ):=rfl
def tX:k2 g op ρ x=(g ρ).bind (op x):=rfl
def tW:ao fa m ρ=(fa ρ).bind m:=rfl
def tI:ax ρ=.ok []:=rfl
def ic:af f fa ρ=(f ρ).bind (Ki fa ρ):=rfl
def iN:Ki fa ρ x=(fa ρ).bind (AX x):=rfl
def kT:AX x xs=.ok (x::xs):=rfl
def t9:dZ f g ρ=(f ρ).bind (Mt g ρ):=rfl
def oa:Mt g ρ (.bl true)=g ρ:=rfl
def n9:Mt g ρ (.bl false)=.ok (.bl false):=rfl
def yT:gZ f g ρ=(f ρ).bind (Pq g ρ):=rfl
def tE:Pq g ρ (.bl true)=.ok (.bl true):=rfl
def tw:Pq g ρ (.bl false)=g ρ:=rfl
def tH:cg f ρ=(f ρ).bind NP:=rfl
def nH:NP (.bl c)=.ok (.bl (!c)):=rfl
def tN:Jt h f g ρ=(h ρ).bind (LN f g ρ):=rfl
def nW:LN f g ρ (.bl true)=f ρ:=rfl
def nV:LN f g ρ (.bl false)=g ρ:=rfl
def sQ:ae i ρ=MW ρ[i]?:=rfl
def nh:MW (some (.sh d))=.ok d:=rfl
def Gw:dC d ρ=.ok d:=rfl
def nu:iH []=[]:=rfl
def sZ:iH (c::r)=Ew c::iH r:=rfl
def nt:Ew (.ow d)=.sh d:=rfl
def xm:Ew (.ox j ds)=.sh (.tup ds):=rfl
def nr:Ew (.sh d)=.sh d:=rfl
def nq:Ew .no=.no:=rfl
def kO:br n s ds=(s (ds.map Sl.sh++RC (n-ds.length) .no)).bind EE:=rfl
def nB:EE (.rt d)=.ok d:=rfl
def nA:EE (.nx ρ)=.ok .non:=rfl
def yS:cD f ρ=(f ρ).bind Qf:=rfl
def tu:Qf (.int a)=.ok (some a):=rfl
def yU:fD ρ=.ok none:=rfl
def yQ:gK f lo hi ρ=(f ρ).bind (Nk lo hi ρ):=rfl
def sY:Nk lo hi ρ x=(lo ρ).bind (Ph hi ρ x):=rfl
def sX:Ph hi ρ x l=(hi ρ).bind (CD x l):=rfl
def sW:CD (.lst ds) l l'=.ok (.lst (l4 ds l l')):=rfl
def tQ:kF f tg s ρ=(f ρ).bind (N9 tg s ρ):=rfl
def n6:N9 tg s ρ (.lst ds)=cm tg s ds ρ:=rfl
def kU:jl op op' f g h ρ=(f ρ).bind (Ql op op' g h ρ):=rfl
def yY:Ql op op' g h ρ x=(g ρ).bind (Mp op op' h ρ x):=rfl
def tV:Mp op op' h ρ x y=(op x y).bind (Jw op' h ρ y):=rfl
def tU:Jw op' h ρ y (.bl true)=(h ρ).bind (op' y):=rfl
def tT:Jw op' h ρ y (.bl false)=.ok (.bl false):=rfl
def tM:xf (λ_ _=>true) o (.int a) (.int b)=.ok (o a b):=rfl
def ua:bz (.int a) (.int b)=.ok (.int (a+b)):=rfl
def ie(h:decide (ds.length+es.length<=1000)=true):bz (.lst ds) (.lst es)=.ok (.lst (ds++es)):=if_pos (Ra (of_decide_eq_true h) (by decide))
def tJ:jF (.int a)=.ok (.int (-a)):=rfl
def yW:m1 m [x]=m x:=rfl
def yV:m2 m [x,y]=m x y:=rfl
def nK:dP (.lst ds)=.ok (.int ds.length):=rfl
def nJ:dP (.tup ds)=.ok (.int ds.length):=rfl
def sT(h:decide (ds.length<=1000)=true):c5 ds=.ok (.tup ds):=if_pos (Ra (of_decide_eq_true h) (by decide))
def tL(h:decide (ds.length<=1000)=true):cH ds=.ok (.lst ds):=if_pos (Ra (of_decide_eq_true h) (by decide))
def fm:gL "str" (.str z)=.ok (.bl true):=rfl
def dO:gL "tuple" (.tup ds)=.ok (.bl true):=rfl
def eD:gL "list" (.lst ds)=.ok (.bl true):=rfl
def gI:kj (.non) .non=.ok (.bl false):=rfl
def iM:vb (.tup ds) .non=.ok (.bl false):=rfl
def gH:kj (.tup ds) .non=.ok (.bl true):=rfl
def cS(h:cU a b=true):bE (.int a) (.int b)=.ok (.int (a*b)):=if_pos h
def tK(h:(b==0)=false):cQ (.int a) (.int b)=.ok (.int (a.fmod b)):=FR (λz=>by rw[z]at h;cases h)
def tR(h:gJ a b=true):l3 (.int a) (.int b)=.ok (.int (a.fdiv b)):=if_pos h
def nj(h:(ds.length==is.length)=true):Kv is ρ (.tup ds)=.ok (.nx (de ρ is ds)):=by
 unfold Kv fL;simp only[if_pos (eq_of_beq h)]
def yR:de ρ (i::is) (d::ds)=de (ρ.set i (.sh d)) is ds:=rfl
def tf:de ρ [] ds=ρ:=rfl
def Gv{j:Int}(h:yD ds.length j=some n):DL.putAt ρ i ds d (.int j)=.ok (.nx (ρ.set i (.ow (.lst (ds.set n d))))):=by
 unfold DL.putAt;simp only[h]
def lN:aC (.lst (x0::xs)) (.int 0)=.ok x0:=by
 unfold aC;simp only[show atI (x0::xs) 0=some x0 from fu (j:=0) rfl]
def nT:aC (.tup (x0::xs)) (.int 0)=.ok x0:=by
 unfold aC;simp only[show atI (x0::xs) 0=some x0 from fu (j:=0) rfl]
def lM:aC (.lst (x0::x1::xs)) (.int 1)=.ok x1:=by
 unfold aC;simp only[show atI (x0::x1::xs) 1=some x1 from fu (j:=1) rfl]
def nS:aC (.tup (x0::x1::xs)) (.int 1)=.ok x1:=by
 unfold aC;simp only[show atI (x0::x1::xs) 1=some x1 from fu (j:=1) rfl]
def nU:aC (.lst (x0::x1::x2::xs)) (.int 2)=.ok x2:=by
 unfold aC;simp only[show atI (x0::x1::x2::xs) 2=some x2 from fu (j:=2) rfl]
def nR:aC (.tup (x0::x1::x2::xs)) (.int 2)=.ok x2:=by
 unfold aC;simp only[show atI (x0::x1::x2::xs) 2=some x2 from fu (j:=2) rfl]
def nQ:aC (.tup (x0::x1::x2::x3::xs)) (.int 3)=.ok x3:=by
 unfold aC;simp only[show atI (x0::x1::x2::x3::xs) 3=some x3 from fu (j:=3) rfl]
def nN:aC (.tup (x0::x1::x2::x3::x4::xs)) (.int 4)=.ok x4:=by
 unfold aC;simp only[show atI (x0::x1::x2::x3::x4::xs) 4=some x4 from fu (j:=4) rfl]
def y8:((2:Nat):Int)=2:=rfl
def y0:((4:Nat):Int)=4:=rfl
def yZ:((5:Nat):Int)=5:=rfl
end
def J9(fa:Ev->av (ac))(ρ:Ev)(x:D):av D:=match x with
 |.str z=>(fa ρ).bind (sG z)
 |_=>.stuck
def nM:zl f fa ρ=(f ρ).bind (J9 fa ρ):=rfl
def kQ:J9 fa ρ (.str z)=(fa ρ).bind (sG z):=rfl
end Com
local macro_rules|`(tactic|open_line with[$xs,*])=>do
  let ns:Array Lean.Term:=("ki gR gq nz lL mz ny tj nC n8 kS yX tP tO tq nG tZ nF nD kP sS tm nE y9 tY tX tW tI ic iN kT t9 oa n9 yT tE tw tH nH tN nW nV sQ nh Gw nu sZ nt nr nq kO nB nA yS tu yU yQ sY sX sW tQ n6 kU yY tV tU tT tM ua tJ yW yV nK nJ o6 jU Q6 Tt Rt TQ Sd Ub SY S4 SJ R0 Ul Um UM Nat.reduceSub Nat.reduceAdd UN Sn UC Uv sT tL ie dH tK nj yR tf lN lM nU nT nS nR nQ nN decide_true decide_false Nat.reduceLeDiff Nat.reduceBEq Int.reduceBEq beq_self_eq_true DL.dOne DL.mYes fm dO eD gI iM gH y8 y0 yZ Int.reduceLT Int.reduceLE Int.reduceSub Int.reduceAdd Int.reduceMul Int.reduceNeg nM kQ Int.reduceToNat UD".splitOn " ").toArray.map fun s=>Lean.mkIdent s.toName
  let ys:=ns++xs.getElems
  `(tactic|simp only[$[$ys:term],*])
local macro_rules|`(tactic|open_line with[no_df,$xs,*])=>do
  let ns:Array Lean.Term:=("ki gR gq nz lL mz ny tj nC n8 kS yX tP tO tq nG tZ nF nD kP sS tm nE y9 tY tX tW tI ic iN kT t9 oa n9 yT tE tw tH nH tN nW nV sQ nh Gw nu sZ nt nr nq kO nB nA yS tu yU yQ sY sX sW tQ n6 kU yY tV tU tT tM ua tJ yW yV nK nJ o6 jU Q6 Tt Rt TQ Sd Ub SY S4 SJ R0 Ul Um UM Nat.reduceSub Nat.reduceAdd UN Sn UC Uv sT tL ie dH tK nj yR tf lN lM nU nT nS nR nQ nN decide_true decide_false Nat.reduceLeDiff Nat.reduceBEq Int.reduceBEq beq_self_eq_true DL.dOne DL.mYes fm dO eD gI iM gH y8 y0 yZ Int.reduceLT Int.reduceLE Int.reduceSub Int.reduceAdd Int.reduceMul Int.reduceNeg nM kQ Int.reduceToNat UD".splitOn " ").toArray.map fun s=>Lean.mkIdent s.toName
  let ys:=ns++xs.getElems
  `(tactic|simp -implicitDefEqProofs only[$[$ys:term],*])
namespace Com
open PySem L2 DL
noncomputable def jK:bi :=
 (aq (cM (gZ (cg (aQ (ae 0) (gL "str"))) (cg (jl Js Js (dC (.int 1)) (ao (af (ae 0) ax) (m1 dP)) (dC (.int 8)))))
 (aq (aW (dC (.bl false)))
 ak)
 ak)
 (aq (aW (ao (af (cE 1 [] (HB (ae 0)) (bF 0) mYes (aa (ae 0) (dC (.str "abcdefghijklmnopqrstuvwxyz")) pS)) ax) (m1 ug)))
 ak))
def m_is_name:ac->av D:=br 1 jK
noncomputable def eF:bi :=
 (aq (cM (gZ (cg (aQ (ae 0) (gL "tuple"))) (aa (ao (af (ae 0) ax) (m1 dP)) (dC (.int 2)) gO))
 (aq (aW (dC (.bl false)))
 ak)
 ak)
 (aq (cM (gZ (cg (ao (af (aa (ae 0) (dC (.int 0)) aC) ax) m_is_whole)) (cg (ao (af (aa (ae 0) (dC (.int 1)) aC) ax) m_is_whole)))
 (aq (aW (dC (.bl false)))
 ak)
 ak)
 (aq (aW (dZ (aa (aa (ae 0) (dC (.int 1)) aC) (dC (.int 1)) Mm) (aa (ao (af (aa (ae 0) (dC (.int 0)) aC) (af (aa (ae 0) (dC (.int 1)) aC) ax)) m_common_divisor) (dC (.int 1)) fJ)))
 ak)))
def m_is_ratio:ac->av D:=br 1 eF
def QR:Ro:="abcdefghijklmnopqrstuvwxyz"
def sJ(c:Nat):Bool:=OL ⟨#[c]⟩ QR
def nameB(z:Ro):Bool:=decide (1<=z.length)&&(decide (z.length<=8)&&z.cps.toList.all sJ)
def NS:D->Bool
 |.str z=>nameB z
 |_=>false
def Kc:D->Bool
 |.str z=>decide (z.length<=line)
 |_=>true
theorem vY:∀{ds:ac},(∀d∈ds,∃ρ1,tg b d=.ok ρ1/\tt ρ1=.ok (.bl true)/\fe ρ1=.ok (F d))->bV b tg tt fe ds=.ok (ds.map F)
 |[],_=>rfl
 |d::r,h=>by
  obtain⟨ρ1,h1,h2,h3⟩:=h d Q3;rw[jH h1 h2 h3,vY (λe he=>h e (QX _ he))];rfl
theorem pZ{α:Type}(F:α->Bool):∀(cs:List α),eM (cs.map λc=>D.bl (F c))=some (cs.map F)
 |[]=>rfl
 |c::r=>by
  show(eM (r.map λc=>D.bl (F c))).map (F c::·)=_;rw[pZ F r];rfl
def Au(hz:z.length<=line):cE 1 [] (HB (ae 0)) (bF 0) mYes (aa (ae 0) (dC (.str "abcdefghijklmnopqrstuvwxyz")) pS) [.sh (.str z)]=.ok (.lst (z.cps.toList.map λc=>.bl (sJ c))):=by
 have hl:(kD z).length<=line:=by rw[mq];exact hz
 unfold cE;show(if(kD z).length<=line then _ else _)=_;rw[if_pos hl];have:bV (du 1 [] [.sh (.str z)]) (bF 0) mYes (aa (ae 0) (dC (.str "abcdefghijklmnopqrstuvwxyz")) pS) (kD z)=.ok (z.cps.toList.map λc=>D.bl (sJ c)):=by
  unfold kD
  induction z.cps.toList with
  |nil=>rfl
  |cons c r ih=>
   rw[Q6,jH (x:=.bl (sJ c)) rfl rfl rfl,ih];rfl
 rw[this]
def AK(h:Kc d=true):m_is_name [d]=.ok (.bl (NS d)):=by
 cases d with
 |str z=>
  have hz:z.length<=line:=of_decide_eq_true h;have hlen:dP (.str z)=.ok (.int z.length):=if_pos hz;show br 1 jK _=.ok (.bl (nameB z));unfold nameB
  by_cases h1:1<=z.length
  .by_cases h8:z.length<=8
   .have e1:decide ((1:Int)<=(z.length:Int))=true:=decide_eq_true (by omega)
    have e2:decide ((z.length:Int)<=8)=true:=decide_eq_true (by omega);open_line with[jK,hlen,e1,e2,Au hz,ug,pZ,decide_eq_true h1,decide_eq_true h8,Sr]
    simp[VG,Function.comp_def]
   .have e1:decide ((1:Int)<=(z.length:Int))=true:=decide_eq_true (by omega)
    have e2:decide ((z.length:Int)<=8)=false:=decide_eq_false (by omega);open_line with[jK,hlen,e1,e2,decide_eq_true h1,decide_eq_false h8,Sa,T6]
  .have e1:decide ((1:Int)<=(z.length:Int))=false:=decide_eq_false (by omega)
   open_line with[jK,hlen,e1,decide_eq_false h1,Sa]
 |ob k _=>cases k<;>rfl
 |_=>rfl
def fv:D->Bool
 |.tup [.int p,.int q]=>decide (1<=q)&&(RD p q==1)
 |_=>false
def Ma{g:Nat}:((g:Int)==1)=(g==1):=by
 cases h:(g==1) with
 |true=>rw[eq_of_beq h];rfl
 |false=>
  have:g≠1:=λz=>by rw[z]at h;cases h
  exact beq_eq_false_iff_ne.mpr (by omega)
def Ef{xs:ac}:(∃x y,xs=[x,y])∨xs.length≠2:=by
 match xs with
 |[]=>exact .inr (by decide)
 |[x]=>exact .inr (by simp)
 |[x,y]=>exact .inl ⟨x,y,rfl⟩
 |x::y::z::r=>exact .inr (by simp)
theorem yc:∀{xs:ac},xs.length≠2->fv (.tup xs)=false
 |[],_=>rfl
 |[x],_=>by cases x<;>rfl
 |[x,y],h=>absurd rfl h
 |x::y::z::r,_=>by cases x<;>cases y<;>rfl
def rB:fv (.tup [x,y])=(G7 x&&(G7 y&&fv (.tup [x,y]))):=by
 cases x<;>cases y<;>rfl
def m6(d:D):m_is_ratio [d]=.ok (.bl (fv d)):=by
 cases d with
 |tup xs=>
  rcases Ef (xs:=xs) with⟨x,y,rfl⟩|h
  .rw[rB]
   show br 1 eF _=_;cases hx:G7 x with
   |false=>open_line with[eF,gG,hx,Sa]
   |true=>
    cases hy:G7 y with
    |false=>open_line with[eF,gG,hx,hy,Sa,Sr]
    |true=>
     cases x<;>first|(cases hx;done)|skip
     cases y<;>first|(cases hy;done)|skip
     rename_i p q;show _=av.ok (D.bl (decide (1<=q)&&(RD p q==1)))
     by_cases hq:1<=q
     .open_line with[eF,gG,hx,hy,lT,Sr,decide_eq_true hq,Ma]
     .open_line with[eF,gG,hx,hy,lT,Sr,decide_eq_false hq,Sa]
  .have e2:((xs.length:Int)==2)=false:=beq_eq_false_iff_ne.mpr (by omega)
   rw[yc h];show br 1 eF _=_;open_line with[eF,e2]
 |ob k _=>cases k<;>rfl
 |_=>rfl
def j6{α:Type}{F:α->D}{xs:List α}:l4 (xs.map F) lo hi=((xs.drop (HT.sIx xs.length 0 lo)).take (HT.sIx xs.length xs.length hi-HT.sIx xs.length 0 lo)).map F:=by
 unfold l4;rw[Q0,←List.map_drop,←List.map_take]
end Com
namespace DL
open PySem PySem.Spec PyProof.Rows L2
def oN(x:Ro)(fa:Ev->av (ac)):bi:=λρ=>(fa (iH ρ)).bind λds=>if ds.length<=line then .exn ⟨x,[]⟩ else .stuck
section
variable {X:Cx}{E:XK}{e:R1}{es:List R1}{fa:Ev->av (ac)}{pos:Pos}
def Iu(ni:Nat)(r:Fl):av Fl:=match r with
 |.nx ρ=>.ok (.nx (ρ.set ni .no))
 |.rt d=>.ok (.rt d)
 |.bk ρ=>.ok (.bk (ρ.set ni .no))
 |.ct ρ=>.ok (.ct (ρ.set ni .no))
def Oa(x:MP):D:=match x.flds with
 |[]=>.exc x.cls
 |f::fs=>if((f::fs).map (·.1)).Nodup then .ob (.exf x.cls ((f::fs).map (·.1))) ((f::fs).map (·.2)) else .exc x.cls
def Pj(g:bi)(hit:Ro->Bool)(ni:Nat)(sh:bi):bi:=λρ=>match g ρ with
 |.exn x=>if hit x.cls=true then(sh (ρ.set ni (.sh (Oa x)))).bind (Iu ni) else .stuck
 |r=>r
end
structure Kn (k:Nat) (A:Sv):Prop where
 dp:A.depth+3*k+5<recursionLimit
 un:A.units+16*k+200<TY
def dz.h{k:Nat}(r:dz k A):Kn k A:=⟨r.dp,r.un⟩
structure Qq (P:Se) (w:Sx) (K:Q2) (mg:Ro->Option QY) (base:RA) (k:Nat) (f:Q9) (fd:SV) (ps:bv) (sp:Sp):Prop where
 len:∀vs H Q E,sp vs H Q E->vs.length=ps.length
 run:∀(A:Sv) (outer:List Ts) (s:Rg) (H:Hp) (args:Args) (us:List QY) (vs:al) (Q:VK) (E:XK),Kn k A->qr P w K mg base A outer s H->BindsTo s fd args (ps.zip us)->bg vs us->sp vs H Q E ->
  Tw (RB P w) A (.call (.ref f) args) (CR CX0 outer P w H s Q E) s
def Qq.ok{K:Q2}{k:Nat}{ps:bv}(F:Qq P w K mg base k f fd ps sp):iY P w K mg base CX0 k f fd ps sp :=
 ⟨F.len,λA outer s H args us vs Q E hr=>F.run A outer s H args us vs Q E (dz.h hr)⟩
def Oi(tab:Ro->Option Bool)(x:D):av D:=match x with
 |.exc c=>(match tab c with
  |some b=>.ok (.bl b)
  |none=>.stuck)
 |.ob (.exf c _) _=>(match tab c with
  |some b=>.ok (.bl b)
  |none=>.stuck)
 |_=>.stuck
end DL
namespace DL
open PySem PySem.Spec PyProof.Rows L2 PySem.W
def Ly{K:Frag}(hm:kitMeta T=true)(h:subIn K (.ref C) (.type T)=some b):kitOne K (.ref C) (.type T)=some b:=by
 unfold kitOne;rw[if_neg (by intro z;cases beq_iff_eq.mp z)];show(if kitMeta T=true then subIn K (.ref C) (.type T) else none)=_;rw[if_pos hm,h]
def yC:∀T∈iU,kitMeta T=true:=by decide +kernel
end DL
namespace Com
open PySem L2 DL
section
variable {α β:Type}
def kR{f:α->av β}:(av.exn x:av α).bind f=.exn x:=rfl
end
def MY(hit:Ro->Bool)(ni:Nat)(sh:bi)(ρ:Ev)(r:av Fl):av Fl:=match r with
 |.exn x=>if hit x.cls=true then(sh (ρ.set ni (.sh (Oa x)))).bind (Iu ni) else .stuck
 |r=>r
def PM:Pj g hit ni sh ρ=MY hit ni sh ρ (g ρ):=rfl
def OO(h:hit c=true):MY hit ni sh ρ (.exn ⟨c,[]⟩)=(sh (ρ.set ni (.sh (.exc c)))).bind (Iu ni):=if_pos h
def PN:Iu ni (.nx ρ)=.ok (.nx (ρ.set ni .no)):=rfl
def PQ{tab:Ro->Option Bool}(h:tab c=some b):Oi tab (.exc c)=.ok (.bl b):=by unfold Oi;simp only[h]
end Com
namespace DL
open PySem PySem.Spec PyProof.Rows L2
section
variable {X:Cx}{π:List (Q9×Obj)}{σ:L2.St}{H:Hp}{s:Rg}{h':RA}
def Cs{fp:List Q9}(I:Inv X π σ H s)(k:∀b o,b∉fp->s.heap.get? b=some o->h'.get? b=some o)(hf:∀b∈fp,pC X π H b)(hT:s.heap.objs.size<=T)
  (new:cy X.prog X.w (upd H T (.tup xs)) h' T (.tup xs)):Inv X π σ (upd H T (.tup xs)) { s with heap:=h',toks:=t' }:=by
 have hn:H T=none:=I.hok.fresh hT;have nit:∀b u,H b=some u->b∉fp:=λb u e z=>by rw[(hf b z).1]at e;cases e
 refine I.step (g':=s.gens) (d':=s.drawn) (ch:=fp) (λb hb=>?_) (λb o _ _ hc e _=>k b o hc e) (λb o _ _ hc e _=>⟨o.slots,k b o hc e⟩) (λb o _ e n=>?_)
  (λb o hc e=>⟨o,k b o hc e⟩) (λb xs e=>by rw[aF (bu e hn)];exact e) (λb o u e=>by rw[aF (bu e hn)];exact e) (λb ps e=>⟨#[],by rw[aF (bu e hn),e];simp⟩) (λm hm=>?_) (λb u e=>?_) I.bare
 .obtain⟨_,f1,_,f3,f4,f5⟩:=hf b hb
  exact⟨f3,f1,f4,f5⟩
 .rw[aF (RU (Q4 (Ry e) hT))];exact n
 .obtain⟨o,es,ep,ho,r⟩:=hm
  exact⟨o,es,ep,k _ o (λz=>(hf _ z).2.1 rfl) ho,r⟩
 .by_cases hb:b=T
  .subst hb;rw[aL]at e;cases e;exact new
  .rw[aF hb]at e
   refine(I.hok b u e).stay (λc v hc q=>k c v ?_ q) (λc q=>by rw[aF (bu q hn)];exact q) (λc xs q=>by rw[aF (bu q hn)];exact q) λc xs q=>by rw[aF (bu q hn)];exact q
   rcases hc with z|z
   .rw[z];exact nit b u e
   .exact nit c _ z
def Hs{fp:List Q9}(I:Inv X π σ H s)(k:∀b o,b∉fp->s.heap.get? b=some o->h'.get? b=some o)(hf:∀b∈fp,pC X π H b):Inv X π σ H { s with heap:=h',toks:=t' }:=by
 have nit:∀b u,H b=some u->b∉fp:=λb u e z=>by rw[(hf b z).1]at e;cases e
 refine I.step (g':=s.gens) (d':=s.drawn) (ch:=fp) (λb hb=>?_) (λb o _ _ hc e _=>k b o hc e) (λb o _ _ hc e _=>⟨o.slots,k b o hc e⟩) (λb o _ e n=>n)
  (λb o hc e=>⟨o,k b o hc e⟩) (λb xs e=>e) (λb o u e=>e) (λb ps e=>⟨#[],by rw[e];simp⟩) (λm hm=>?_) (λb u e=>?_) I.bare
 .obtain⟨_,f1,_,f3,f4,f5⟩:=hf b hb
  exact⟨f3,f1,f4,f5⟩
 .obtain⟨o,es,ep,ho,r⟩:=hm
  exact⟨o,es,ep,k _ o (λz=>(hf _ z).2.1 rfl) ho,r⟩
 .refine(I.hok b u e).stay (λc v hc q=>k c v ?_ q) (λ_ q=>q) (λ_ _ q=>q) λ_ _ q=>q
  rcases hc with z|z
  .rw[z];exact nit b u e
  .exact nit c _ z
end
def Qp(K:Q2)(a:Q9):It :=
 ⟨λi H=>∃xs x,fZ K H a xs/\xs[i]?=some x,λi H x H'=>∃p y,H p=none/\x=.ref p/\(∀xs,fZ K H a xs->xs[i]?=some y)/\H'=upd H p (.tup [.int i,y]),λi H=>∃xs,fZ K H a xs/\xs.length<=i⟩
def Cv{P:Se}{w:Sx}{K:Q2}{elts:List R1}{k:Nat}{pos:Pos}(a it e:Q9)(hne:e≠it)(hae:a≠e)(hai:a≠it) :
  DM P w K (.Tuple elts k pos) (Qp K a) [e,it] e (λi h=>(∃old,IsEnum h e it i old)/\h.IsListIter it a i) where
 mem:=by simp
 obj:=λi h st b hb=>by
  obtain⟨⟨old,he⟩,o,h1,h2,h3⟩:=st;rcases Rh.mp hb with rfl|hb
  .exact⟨_,he,λv z=>by cases z⟩
  .rcases Rh.mp hb with rfl|hb
   .exact⟨o,h1,λv z=>by rw[h3]at z;cases z⟩
   .cases hb
 keep:=λi h h' st k=>by
  obtain⟨⟨old,he⟩,hi⟩:=st;exact⟨⟨old,k e (by simp) _ he⟩,hi.at λo y=>k it (by simp) o y⟩
 item:=by
  intro X hP hw hK hc i π s σ H E I hf st hg;subst hP hw hK;obtain⟨xs,x,hq,hx⟩:=hg;obtain⟨its,rv,p,hz⟩:=I.list hq;obtain⟨u,hu,ru⟩:=rv.get hx;have W:=WalksT.enumerate (prog:=X.prog) (w:=X.w) (I.ok.hd hc) e it a hne hae hai its.toArray;have hil:i<its.toArray.size:=by simpa using (Q5.mp hu).1
  refine W.item i s _ _ hil ⟨st.1,st.2,p.isList⟩ λT vals h' tk hPt hT hTup hMid hk=>?_;refine⟨_,rfl,W.go elts k pos i T _ _ _ hMid λh'' st'' hk''=>?_⟩;obtain⟨t,y,hy,rfl⟩:=hPt;have hyu:y=u:=by
   have:its[i]?=some y:=by simpa using hy
   rw[hu]at this;cases this;rfl
  subst hyu;obtain⟨o,ho,hr⟩:=hTup;have ho':=hk'' T o (W.apart i T _ hMid) ho;refine⟨.ref T,upd H T (.tup [.int i,x]),Cs (s:=s) (h':=h'') (t':=tk) I (λb o hb e=>hk'' b o hb (hk b o hb e)) hf hT ⟨by show 2<=sizeLine;decide,[.int i t,y],.cons ⟨t,rfl⟩ (.cons ru .nil),o,ho',hr⟩,rfl,⟨T,x,I.hok.fresh hT,rfl,λys hy=>by rw[I.list_inj hy hq];exact hx,rfl⟩,⟨st''.1,st''.2.1⟩,λb hb=>?_⟩;have hb0:=(hf b hb).1;obtain⟨ob,hob,_⟩:∃o,s.heap.get? b=some o/\∀v,o.data≠.cell v:=by
   obtain⟨⟨old,he⟩,o,h1,h2,h3⟩:=st;rcases Rh.mp hb with rfl|hb
   .exact⟨_,he,λv z=>by cases z⟩
   .rcases Rh.mp hb with rfl|hb
    .exact⟨o,h1,λv z=>by rw[h3]at z;cases z⟩
    .cases hb
  rw[aF (RU (Q4 (Ry hob) hT))];exact hb0
 done:=by
  intro X hP hw hK hc i π s σ H E I hf st hg;subst hP hw hK;obtain⟨xs,hq,hx⟩:=hg;obtain⟨its,rv,p,hz⟩:=I.list hq;have hl:=rv.length;obtain⟨⟨old,he⟩,hi⟩:=st;exact wpAny_pyNext_enum_end (I.ok.hd hc) he hi p.isList (by simp;omega) λh' hx=>⟨rfl,Hs (t':=s.toks) I (λb o hb e=>hx b o (λz=>hb (by simp[z])) e) hf⟩
 self:=λ_ _ _ _ _ st h=>by
  obtain⟨⟨old,he⟩,_⟩:=st;exact wpAny_pyIter_enum he h
section
variable {X:Cx}{E:XK}{elts:List R1}{k:Nat}{tp:Pos}{e a b:R1}{f g:am}
def N4(K:Q2)(ta:TA):TI:=λσ H R=>ta σ H λvs H1=>∃a,vs=[.ref a]/\(∃xs,fZ K H1 a xs)/\R (Qp K a) H1
def Ig(hg:Gl X "enumerate")(hm:X.mg "enumerate"=none)(ha:PA X [a] ta)(hs:Rk [a] X.env=[(false,eval a X.env)]:=by rfl):PI X (.Tuple elts k tp) (.Call (.Name "enumerate" p) [a] [] pos) (N4 X.K ta):=by
 intro π s σ H R I h;refine Call_ (sv I hg hm PyProof.Rows.Boot.«enumerate» (UK (cT (ha pos π s σ H _ I h) λus s1 z9=>?_) hs rfl));obtain⟨vs,H1,I1,r1,q1⟩:=z9;obtain⟨l,e,⟨xs,hq⟩,q⟩:=q1;subst e;cases r1 with
 |cons r rr=>
  cases rr;cases r;obtain⟨its,rv,p,hz⟩:=I1.list hq;have hlt:l<s1.heap.objs.size:=by obtain⟨o,n,e,_⟩:=p;exact Ry e
  refine call_enumerate_list p.isList λh' he hi hsz hk=>?_;refine wpAny_pyIter_enum he ?_;refine⟨s1.heap.objs.size+1,[s1.heap.objs.size+1,s1.heap.objs.size],_,_,H1,rfl,I1.kept (t':=s1.toks) hk,Cv l s1.heap.objs.size (s1.heap.objs.size+1) (Nat.succ_ne_self _) (RU (Nat.lt_succ_of_lt hlt)) (RU hlt),⟨⟨_,he⟩,hi⟩,λb hb=>?_,q⟩;have hb':s1.heap.objs.size<=b:=by
   rcases Rh.mp hb with rfl|hb
   .omega
   .rcases Rh.mp hb with rfl|hb
    .exact RG _
    .cases hb
  exact I1.fpOk hb' (I1.hok.fresh hb')
def numbered(n:Nat):ac->ac
 |[]=>[]
 |d::ds=>.tup [.int n,d]::numbered (n+1) ds
theorem cF:∀(ds:ac) (n:Nat),(numbered n ds).length=ds.length
 |[],_=>rfl
 |d::ds,n=>by simp[numbered,cF ds]
theorem cq:∀(ds:ac) (n i:Nat),(numbered n ds)[i]?=(ds[i]?).map λd=>D.tup [.int (n+i:Nat),d]
 |[],_,_=>by simp[numbered]
 |d::ds,n,0=>by simp[numbered]
 |d::ds,n,i+1=>by simp only[numbered,R0];rw[cq ds (n+1) i,show n+1+i=n+(i+1) by omega]
def lW(f:am):Ev->av (ac):=λρ=>(f ρ).bind λd=>match d with
 |.lst ds=>.ok (numbered 0 ds)
 |_=>.stuck
def Hv{K:Q2}(hs:aE Ha H)(hp:H p=none)(r:Reps K Ha ds vs):∃H₀2,bj H Ha (upd H p (.tup vs)) H₀2/\Rep K H₀2 (.tup ds) (.ref p) :=
 ⟨upd Ha p (.tup vs),aY hs hp,aG.mpr ⟨p,vs,rfl,l9.of aL,r.mono (aY (o:=.tup vs) hs hp).z⟩⟩
def ij(hg:Gl X "enumerate")(hm:X.mg "enumerate"=none)(h:DE X E a f)(hn:MI a=true:=by exact rfl):DI X E (.Tuple elts k tp) (.Call (.Name "enumerate" p) [a] [] pos) (lW f):=by
 refine⟨qD (Ig hg hm (fM h.o jR (jx hn)) (jx hn)) λσ H R z9=>?_⟩;obtain⟨Ha,ρ,hs,hr,q⟩:=z9;refine⟨Ha,ρ,hs,hr,?_⟩;unfold lW at q;cases e1:f ρ with
 |stuck|exn x=>rw[e1]at q;exact q
 |ok d=>
  rw[e1]at q;intro v H1 H01 g1 r1;cases d with
  |lst ds=>
   obtain⟨l,vs,rfl,hv,hrv⟩:=aB.mp r1;refine⟨l,rfl,⟨vs,aE.sqL g1.sub hv⟩,q _ H1 H01 g1 ⟨λi H' Ha' s1 s2 hi=>?_,λi H' Ha' x H2 d s1 s2 hd hy=>?_,λi H' Ha' s1 s2 hi=>?_⟩⟩
   .rw[cF]at hi
    exact⟨vs,vs[i]'(by rw[←hrv.length];exact hi),aE.sqL (s1.trans s2) hv,by simp⟩
   .obtain⟨p,y,hp,rfl,hy,rfl⟩:=hy
    rw[cq]at hd;cases ei:ds[i]? with
    |none=>rw[ei]at hd;cases hd
    |some d'=>
     rw[ei]at hd;cases hd;obtain⟨u,k1,k2⟩:=hrv.get ei;have:=hy vs (aE.sqL (s1.trans s2) hv);rw[k1]at this;cases this;exact Hv s2 hp (Reps.cons (ay.mpr (by simp)) (Reps.cons (k2.mono s1) Reps.nil))
   .rw[cF]at hi
    exact⟨vs,aE.sqL (s1.trans s2) hv,by rw[←hrv.length];exact hi⟩
  |_=>exact q.elim
end
section
variable {X:Cx}{E:XK}{elts:List R1}{k:Nat}{tp:Pos}{e a b:R1}{f g:am}
def c8:ac->ac->ac
 |d::ds,e::es=>.tup [d,e]::c8 ds es
 |_,_=>[]
theorem rK:∀(ds es:ac),(c8 ds es).length=min ds.length es.length
 |[],_=>by simp[c8]
 |_::_,[]=>by simp[c8]
 |d::ds,e::es=>by simp[c8,rK ds es]
theorem rL:∀(ds es:ac) (i:Nat) (d:D),(c8 ds es)[i]?=some d->∃x y,ds[i]?=some x/\es[i]?=some y/\d=.tup [x,y]
 |[],_,_,_,h=>by simp[c8]at h
 |_::_,[],_,_,h=>by simp[c8]at h
 |d::ds,e::es,0,_,h=>by simp[c8]at h;exact⟨d,e,rfl,rfl,h.symm⟩
 |d::ds,e::es,i+1,_,h=>by
  simp only[c8,R0]at h;obtain⟨x,y,h1,h2,h3⟩:=rL ds es i _ h;exact⟨x,y,by simpa using h1,by simpa using h2,h3⟩
def KL(f g:am):Ev->av (ac):=λρ=>(f ρ).bind λd=>(g ρ).bind λe=>match d,e with
 |.lst ds,.lst es=>.ok (c8 ds es)
 |_,_=>.stuck
end
def yP(f:Ro):bv->ac->Option D
 |k::ks,d::ds=>if f=k then some d else yP f ks ds
 |_,_=>none
theorem BY{K:Q2}{H:Hp}{f:Ro}:∀{ks:bv}{ds:ac}{vs:al}{d:D},ks.length=vs.length->Reps K H ds vs->yP f ks ds=some d->∃v,(ks.zip vs).lookup f=some v/\Rep K H d v/\f∈ks
 |[],ds,vs,d,_,_,h=>by unfold yP at h;cases h
 |k::ks,[],vs,d,_,_,h=>by unfold yP at h;cases h
 |k::ks,x::ds,vs,d,hl,r,h=>by
  obtain⟨v,r',rfl,r1,r2⟩:=az.mp r;unfold yP at h
  by_cases c:f=k
  .rw[if_pos c]at h
   cases h;exact⟨v,by rw[SH,So,beq_iff_eq.mpr c],r1,by rw[c];exact Q3⟩
  .rw[if_neg c]at h
   obtain⟨u,h1,h2,h3⟩:=BY (by simpa using hl) r2 h;exact⟨u,by rw[SH,So,beq_eq_false_iff_ne.mpr c];exact h1,h2,QX _ h3⟩
def f9(f:Ro)(x:D):av D:=match x with
 |.ob (.ins c ks) ds=>match yP f ks ds with
  |some d=>.ok d
  |none=>.stuck
 |_=>.stuck
section
variable {X:Cx}{E:XK}{e a b o:R1}{es:List R1}{fe fo:am}{fa:Ev->av (ac)}{pos:Pos}
def jh(he:DE X E e fe)(hb:Tc e f X.env (eval e X.env)=eval e X.env:=by rfl):DE X E (.Attribute e f pos) (aQ fe (f9 f)):=by
 refine⟨bo (Lf he.o hb) λσ H Q z9=>?_⟩;obtain⟨Ha,ρ,hs,hr,q⟩:=z9;refine⟨Ha,ρ,hs,hr,?_⟩;unfold aQ at q;cases e1:fe ρ with
 |stuck|exn x=>rw[e1]at q;exact q
 |ok d=>
  rw[e1]at q;intro v H1 H01 g1 r1;replace q:post X.K E H Ha (f9 f d) Q:=q;unfold f9 at q;cases d with
  |ob k ds=>
   cases k with
   |ins c ks=>
    replace q:post X.K E H Ha (match yP f ks ds with|some d=>av.ok d|none=>.stuck) Q:=q;cases e2:yP f ks ds with
    |none=>rw[e2]at q;exact q.elim
    |some d=>
     rw[e2]at q;obtain⟨p,vs,rfl,⟨C,dx,h0,h1,h2,h3⟩,h4⟩:=aP.mp r1;obtain⟨u,k1,k2,k3⟩:=BY h3 h4 e2;exact⟨p,C,dx,_,u,rfl,g1.sub _ _ h2,h1.cls,h1.no f k3,k1,q u H1 H01 g1 k2⟩
   |_=>exact q.elim
  |_=>exact q.elim
def putAll:bv->al->List (Ro×V)->List (Ro×V)
 |f::fs,v::vs,l=>putAll fs vs (iW f v l)
 |_,_,l=>l
theorem ye:∀{l:List (Ro×V)},f∉l.map (·.1)->iW f v l=l++[(f,v)]
 |[],_=>rfl
 |(k,x)::l,h=>by
  simp only[Q6,Rh,not_or]at h;unfold iW;rw[if_neg (λz=>h.1 z.symm),ye h.2];rfl
theorem rD:∀{fs:bv}{vs:al}{l:List (Ro×V)},fs.Nodup->(∀f∈fs,f∉l.map (·.1))->fs.length=vs.length->putAll fs vs l=l++fs.zip vs
 |[],[],l,_,_,_=>by simp[putAll]
 |[],v::vs,l,_,_,h=>by simp at h
 |f::fs,[],l,_,_,h=>by simp at h
 |f::fs,v::vs,l,nd,hn,h=>by
  rw[RK]at nd;unfold putAll;rw[ye (hn f Q3),rD nd.2 (λg hg=>?_) (by simpa using h),SH,T3]
  .rfl
  .simp only[RX,Q6,Tt,Rv,RP,not_or]
   exact⟨hn g (QX _ hg),λz=>nd.1 (z▸hg)⟩
noncomputable def M9(K:Q2) (fs:bv) (is:ce):TS:=λD σ H=>∃a C dx l vs,σ[0]?=some (some (V.ref a))/\H a=some (.ins C dx l)/\Hd K C/\(∀f∈fs,gi K C f)/\l.length+fs.length<1000/\fs.length=vs.length /\
 is.map (λi=>σ[i]?)=vs.map (λv=>some (some v))/\D.nx σ (upd H a (.ins C dx (putAll fs vs l)))
structure Cp (X:Cx) (sts:List Tr) (fs:bv) (is:ce):Prop where
 o:uP X sts (M9 X.K fs is)
def Ec{a:Q9}{o:HO}(h:H a=some o):upd H a o=H:=by
 funext b
 by_cases hb:b=a
 .subst hb;rw[aL,h]
 .rw[aF hb]
def vp{a:Q9}{o u:HO}:upd (upd H a o) a u=upd H a u:=by
 funext b
 by_cases hb:b=a
 .subst hb;rw[aL,aL]
 .rw[aF hb,aF hb,aF hb]
def Mh:Cp X [] [] []:=⟨gD wO λD σ H ⟨a,C,dx,l,vs,h1,h2,h3,h4,h5,h6,h7,q⟩=>by
 cases vs with
 |nil=>
  unfold putAll at q;rw[Ec h2]at q;exact q
 |cons v vs=>simp at h6⟩
theorem yg:∀{l:List (Ro×V)},(iW f v l).length<=l.length+1
 |[]=>by simp[iW]
 |(k,x)::l=>by
  unfold iW;split
  .simp
  .have:=yg (f:=f) (v:=v) (l:=l)
   simp;omega
def lS{fs:bv}(hN:X.N[i]?=some y)(hN0:X.N[0]?=some x)(hv:Cn X.env.scope y)(hv0:Cn X.env.scope x)(h:Cp X sts fs is)
  (hd:(y==("__debug__" : Ro))=false:=by decide)(hcd:(y==("__classdict__" : Ro))=false:=by decide)(hd0:(x==("__debug__" : Ro))=false:=by decide)(hcd0:(x==("__classdict__" : Ro))=false:=by decide)
  (hs:SD (.Name y p3) (some (.Attribute (.Name x p1) f p2)) pos.line X.env=pure false:=by rfl) :
  Cp X (.Assign [.Attribute (.Name x p1) f p2] (.Name y p3) pos::sts) (f::fs) (i::is):=by
 refine⟨gD (iI (K7 (jf hN0 hv0 hd0 hcd0) (jf hN hv hd hcd) hs) h.o) λD σ H z9=>?_⟩;obtain⟨a,C,dx,l,vs,h1,h2,h3,h4,h5,h6,h7,q⟩:=z9;cases vs with
 |nil=>simp at h6
 |cons v vs=>
  simp only[Q6,List.cons.injEq]at h7;simp only[Rt]at h5 h6;refine⟨v,h7.1,.ref a,h1,a,C,dx,l,rfl,h2,h3,h4 f Q3,by omega,?_⟩;refine⟨a,C,dx,_,vs,h1,aL,h3,λg hg=>h4 g (QX _ hg),?_,by omega,h7.2,?_⟩
  .have:=yg (f:=f) (v:=v) (l:=l)
   omega
  .rw[vp];exact q
def wA(K:Q2)(ks:bv):Sp:=λvs H Q _=>∃x dx C args,vs=.ref x::args/\args.length=ks.length/\H x=some (.ins C dx [])/\Hd K C/\(∀f∈ks,gi K C f)/\Q .non (upd H x (.ins C dx (ks.zip args)))
def I0{K:Q2}{st:Tr}{ps:bv}(F:D1 K x qual st f fd)(S:gw ps ps (defScope st))(hk:ks.Nodup)(hps:ps.length=ks.length+1)(hf:ks.length<500)
  (hbody:∀(cdv:QY) (A:Sv) (outer:List Ts) (s0:Rg) (H:Hp) (E:XK),Cp (qo CX0 P w K mg base ps qual (defScope st) f cdv A outer s0 H E).nox (defBody st) ks ((R4 ks.length).map (· + 1))):iY P w K mg base CX0 1 f fd ps (wA K ks):=by
 refine F.ok S (λvs H Q E h=>?_) λcdv A outer s0 H vs Q E hr h=>?_
 .obtain⟨x,dx,C,args,rfl,hl,_⟩:=h
  simp[hl,hps]
 .obtain⟨x,dx,C,args,rfl,hl,hH,hC,hn,q⟩:=h
  refine⟨_,(hbody cdv A outer s0 H E).o,x,C,dx,[],args,?_,hH,hC,hn,by simp;omega,hl.symm,?_,?_⟩
  .unfold L2.start;simp
  .unfold L2.start
   apply Ur;intro i;simp only[Q7,RV]
   by_cases hi:i<ks.length
   .have hia:i<args.length:=by omega
    simp[hi,hia,RF,R0]
   .have hia:¬i<args.length:=by omega
    simp[hi,hia]
  .rw[rD hk (by simp) hl.symm]
   exact q
def AD(c:Ro)(ks:bv)(ds:ac):av D:=if ds.length=ks.length then .ok (.ob (.ins c ks) ds) else .stuck
def GJ{k:Nat}{ps ks:bv}(M:Mk X.K C fn)(F:iY X.prog X.w X.K X.mg X.base CX0 k fn fd ps (wA X.K ks))(hr:dz (k+1) X.A)(hg:Gl X x)(hm:X.mg x=some (.ref C))(hns:SF X.K Rr x=some (some (.ref C)))(hb:ko X.K fd ps [])(hC:Mw X.K ks C)(hx:gU CX0 X E)(ha:DA X E (e::es) fa)
  (hdb:(x==("__debug__" : Ro))=false:=by decide)(he:Rk (e::es) X.env=(false,eval e X.env)::Rk es X.env:=by exact bB rfl)(hpl:(SM pos (Rk es X.env)).any (·.1)=false:=by exact cX rfl) :
  DE X E (.Call (.Name x p) (e::es) [] pos) (ao fa (AD x ks)):=by
 refine⟨bo (Ij M F hr hg hm hb .nil hx ha.o hdb he hpl) (jL (r:=λvs H1 Q=>∀x dx,H1 x=none->H1 dx=none->dx≠x->wA X.K ks (.ref x::(vs++[])) (upd (upd H1 dx (.own x)) x (.ins C dx [])) (λv H2=>v=.non/\Q (.ref x) H2) E) λds vs H Ha Q hs hr q=>?_)⟩;intro y dx hy hdx hne;unfold AD at q
 by_cases hl:ds.length=ks.length
 .rw[if_pos hl]at q
  have hlv:vs.length=ks.length:=by rw[←hr.length];exact hl
  refine⟨y,dx,C,vs,by simp,hlv,aL,hC.cls,hC.no,rfl,?_⟩;rw[vp];have hy':(upd H dx (.own y)) y=none:=by rw[aF hne.symm];exact hy
  have g1:=aY (o:=.own y) hs hdx;have g2:=aY (o:=.ins C dx (ks.zip vs)) g1.sub hy';refine q _ _ _ (g1.trans g2) (aP.mpr ⟨y,vs,rfl,⟨C,dx,hns,hC,aL,hlv.symm⟩,hr.mono (g1.trans g2).z⟩)
 .rw[if_neg hl]at q;exact q.elim
def gQ:ac->Option (List Int)
 |[]=>some []
 |.int x::r=>(gQ r).map (x::·)
 |_=>none
theorem yI{K:Q2}{H:Hp}:∀{ds:ac}{ys:List Int}{vs:al}{us:List QY},gQ ds=some ys->Reps K H ds vs->bg vs us->IntsAre us ys
 |[],ys,vs,us,h,r,q=>by
  cases h;rw[Reps.nil_iff.mp r]at q;cases q;exact .nil
 |d::ds,ys,vs,us,h,r,q=>by
  obtain⟨v,r',rfl,h1,h2⟩:=az.mp r;cases q with
  |cons q1 q2=>
   cases d with
   |int x=>
    unfold gQ at h;cases e:gQ ds with
    |none=>rw[e]at h;cases h
    |some zs=>
     rw[e]at h;cases h;rw[ay.mp h1]at q1;obtain⟨t,rfl⟩:=q1;exact .cons _ _ (yI e h2 q2)
   |_=>cases h
def N1(a:Int):List Int->List Int
 |[]=>[a]
 |b::l=>if a<=b then a::b::l else b::N1 a l
def Ni:List Int->List Int
 |[]=>[]
 |a::l=>N1 a (Ni l)
end
structure Ox (K:Q2) (x:Ro) (ks:bv) (C:Q9):Prop where
 ns:SF K Rr x=some (some (.ref C))
 recC:Mw K ks C
def IE{K:Q2}:∀f∈([]:bv),gi K C f:=λ_ h=>nomatch h
def jz{K:Q2}(h:SN K (.ref C) f=some none)(r:∀f∈ks,gi K C f):∀g∈f::ks,gi K C g:=λg hg=>by
 rcases Rh.mp hg with rfl|hg
 .exact h
 .exact r g hg
def HM{K:Q2}(ns:SF K Rr x=some (some (.ref C)))(pg:Vr K C Str.empty=true)(hd:Vf K C=true)(po:VO K C=true)(sa:SN K (.ref C) "__setattr__"=some (some (.builtin "object.__setattr__")))
  (gc:SN K (.ref C) "__class__"=some (some (.builtin "object.__class__")))(gn:VN K (.builtin "object.__class__") "__get__"=some (some (.builtin "getset_descriptor.__get__")))(tk:Wj K (.builtin "object.__class__")=some true)(mo:W.mroIn K C (.type "object")=some true)
  (t1:Uh K (.ref C) (.type "NoneType")=some false)(t2:Uh K (.ref C) (.type "bool")=some false)(t3:Uh K (.ref C) (.type "int")=some false)(t4:Uh K (.ref C) (.type "str")=some false)(t5:Uh K (.ref C) (.type "tuple")=some false)
  (t6:Uh K (.ref C) (.type "list")=some false)(t7:Uh K (.ref C) (.type "dict")=some false)(no:∀f∈ks,gi K C f):Ox K x ks C :=
 ⟨ns,⟨⟨pg,hd,po,sa⟩,no,gc,gn,tk,mo,λT hT=>by
  refine Ly (yC T hT) ?_;simp only[iU,Rh,List.not_mem_nil,or_false]at hT;rcases hT with rfl|rfl|rfl|rfl|rfl|rfl|rfl
  .exact t1
  .exact t2
  .exact t3
  .exact t4
  .exact t5
  .exact t6
  .exact t7⟩⟩
section
variable {X:Cx}{E:XK}{He η:Hp}{e:R1}{es:List R1}{f:am}{fa:Ev->av (ac)}{pos:Pos}
def bj.keeps(g:bj H Ha H1 H01)(h:H p=some o)(h0:Ha p=none):H01 p=none:=by
 cases q:H01 p with|none=>rfl|some u=>have:=g.nw p (by rw[q];simp) h0;rw[h]at this;cases this
end
end DL
namespace Com
open PySem L2 DL
def Ka(tg:Ev->D->av Ev)(s:bi)(ρ:Ev)(ds:ac):av Fl:=cm tg s ds ρ
def JX(d:D):av (ac):=match d with
 |.lst ds=>.ok (numbered 0 ds)
 |_=>.stuck
def Bl(d:D):av (ac):=match d with
 |.lst ds=>.ok ds
 |_=>.stuck
def dQ(n:Nat)(fr:ce)(tg:Ev->D->av Ev)(tt fe:am)(ρ:Ev)(ds:ac):av D:=if ds.length<=line then match bV (du n fr ρ) tg tt fe ds with
  |.ok es=>.ok (.lst es)
  |_=>.stuck
 else .stuck
def Gn(tg:Ev->D->av Ev)(s:bi)(ρ:Ev)(d:D):av Fl:=match d with
 |.int j=>if -4611686018427387904<=j/\j<4611686018427387904 then cm tg s (intsFrom 0 j.toNat) ρ else .stuck
 |_=>.stuck
section
variable {s t:bi}{f g h:am}{src:Ev->av (ac)}{fa:Ev->av (ac)}{ρ r:Ev}{i j n:Nat}{d x y:D}{ds es xs:ac}{a b:Int}{tg:Ev->D->av Ev}{tt fe:am}{fr:ce}
def nZ:gB src tg s ρ=(src ρ).bind (Ka tg s ρ):=rfl
def nY:Ka tg s ρ ds=cm tg s ds ρ:=rfl
def nk:lW f ρ=(f ρ).bind JX:=rfl
def kN:JX (.lst ds)=.ok (numbered 0 ds):=rfl
def xl:jP f ρ=(f ρ).bind Bl:=rfl
def sV:Bl (.lst ds)=.ok ds:=rfl
def qL:cE n fr src tg tt fe ρ=(src ρ).bind (dQ n fr tg tt fe ρ):=rfl
def xn(h:(ds.length==ks.length)=true):AD c ks ds=.ok (.ob (.ins c ks) ds):=if_pos (eq_of_beq h)
def i7(h:(ds.length==is.length)=true):dy is ρ (.tup ds)=.ok (de ρ is ds):=by
 show(match (if ds.length=is.length then some ds else none) with|some ds=>av.ok (de ρ is ds)|none=>.stuck)=_;rw[if_pos (eq_of_beq h)]
def nX:x9 f tg s ρ=(f (iH ρ)).bind (Gn tg s ρ):=rfl
def yN{k:Nat}(h:k<=1000000):Gn tg s ρ (.int (k:Int))=cm tg s (intsFrom 0 k) ρ:=by
 unfold Gn;dsimp only;rw[if_pos ⟨by omega,by omega⟩,Sw]
def iL:kr (.int 10) (.int 18)=.ok (.int 1000000000000000000):=rfl
def kZ(hl:ds.length<=1000000)(h:∀d∈ds,∃ρ1,tg (du n fr ρ) d=.ok ρ1/\tt ρ1=.ok (.bl true)/\fe ρ1=.ok (F d)):dQ n fr tg tt fe ρ ds=.ok (.lst (ds.map F)):=by
 unfold dQ;rw[if_pos (show ds.length<=line from hl),vY h]
theorem pW:∀{ds:ac},(∀d∈ds,∃ρ1,tg B d=.ok ρ1/\tt ρ1=.ok (.bl (p d))/\(p d=true->fe ρ1=.ok (F d)))->bV B tg tt fe ds=.ok ((ds.filter p).map F)
 |[],_=>rfl
 |d::ds,h=>by
  obtain⟨ρ1,h1,h2,h3⟩:=h d Q3;have ih:=pW (ds:=ds) λd hd=>h d (QX _ hd);unfold bV;rw[h1,DB,h2,DB];cases hp:p d with
  |true=>
   show(fe ρ1).bind _=_;rw[h3 hp,DB,ih,DB,U2 hp];rfl
  |false=>
   show bV B tg tt fe ds=_;rw[ih,U3 (by rw[hp];decide)]
def k6(hl:ds.length<=1000000)(h:∀d∈ds,∃ρ1,tg (du n fr ρ) d=.ok ρ1/\tt ρ1=.ok (.bl (p d))/\(p d=true->fe ρ1=.ok (F d))):dQ n fr tg tt fe ρ ds=.ok (.lst ((ds.filter p).map F)):=by
 unfold dQ;rw[if_pos (show ds.length<=line from hl),pW h]
end
def bnd(k:Nat):Nat:=2 ^ (201*k)
def lU{k:Nat}(h:k<=62):bnd k<qU:=by
 rw[mI];unfold bnd;exact Vh (by decide) (by omega)
def xC:kz<=2 ^ 200:=by decide
def zu(k:Nat):bnd (k+1)=bnd k*2 ^ 200+2 ^ 200*bnd k:=by
 unfold bnd;rw[show 201*(k+1)=201*k+201 by omega,Vi];generalize 2 ^ (201*k)=z;omega
def un(s x:cA):cA:=(s.1*x.2+x.1*s.2,s.2*x.2)
structure DX (k:Nat) (s:cA):Prop where
 pos:0<s.2
 b1:s.1.natAbs<=bnd k
 b2:s.2.natAbs<=bnd k
def DX.step{k:Nat}(h:DX k s)(hx:aU x):DX (k+1) (un s x):=by
 have h1:x.1.natAbs<=2 ^ 200:=Ra (T7 hx.pN) xC;have h2:x.2.natAbs<=2 ^ 200:=Ra (T7 hx.qN) xC;have m1:=UR h.b1 h2;have m2:=UR h1 h.b2;have m3:=UR h.b2 h2;refine⟨T5 h.pos (by have:=hx.q1;omega),?_,?_⟩
 .show(s.1*x.2+x.1*s.2).natAbs<=_
  rw[zu];refine Ra (Int.natAbs_add_le _ _) ?_;rw[TJ,TJ];exact Nat.add_le_add m1 m2
 .show(s.2*x.2).natAbs<=_
  rw[zu,TJ];exact Ra m3 (Nat.le_add_right _ _)
def DX.start:DX 0 (0,1):=⟨by decide,by decide,by decide⟩
def rW(hs:0<s.2)(hx:1<=x.2):c9 ((c9 s.1 s.2).1*x.2+x.1*(c9 s.1 s.2).2) ((c9 s.1 s.2).2*x.2)=c9 (un s x).1 (un s x).2:=by
 have ht:=fq (a:=s.1) hs;have hr:=lH (a:=s.1) (b:=s.2);generalize c9 s.1 s.2=t at *;have hq:0<t.2*x.2:=T5 (by have:=ht.q1;omega) (by omega);have hq2:0<(un s x).2:=T5 hs (by omega);have l1:=fq (a:=t.1*x.2+x.1*t.2) hq;have r1:=lH (a:=t.1*x.2+x.1*t.2) (b:=t.2*x.2);have l2:=fq (a:=(un s x).1) hq2;have r2:=lH (a:=(un s x).1) (b:=(un s x).2);generalize c9 (t.1*x.2+x.1*t.2) (t.2*x.2)=u at *;generalize c9 (un s x).1 (un s x).2=v at *;refine yy l1 l2 ?_;have r2':v.1*(s.2*x.2)=(s.1*x.2+x.1*s.2)*v.2:=r2;have hk:0<t.2*x.2*(s.2*x.2):=T5 hq hq2;have:u.1*v.2*(t.2*x.2*(s.2*x.2))=v.1*u.2*(t.2*x.2*(s.2*x.2)):=by
  have e1:u.1*v.2*(t.2*x.2*(s.2*x.2))=(u.1*(t.2*x.2))*v.2*(s.2*x.2):=by grind
  have e2:v.1*u.2*(t.2*x.2*(s.2*x.2))=(v.1*(s.2*x.2))*u.2*(t.2*x.2):=by grind
  rw[e1,e2,r1,r2']
  grind
 exact SU (by omega) this
def Ib{k:Nat}(h:DX k s)(hk:k<=61)(hx:aU x):FW [fr (c9 s.1 s.2),fr x]=.ok (fr (c9 (un s x).1 (un s x).2)):=by
 have ht:=fq (a:=s.1) h.pos;have a1:(c9 s.1 s.2).1.natAbs<=bnd k:=Ra lJ h.b1;have a2:(c9 s.1 s.2).2.natAbs<=bnd k:=Ra lI h.b2;have hst:=rW h.pos hx.q1;have hA:DX k (c9 s.1 s.2):=⟨by have:=ht.q1;omega,a1,a2⟩
 have hB:=hA.step hx;rw[←hst];generalize c9 s.1 s.2=t at *;have b60:bnd k<qf:=Q4 (lU (by omega)) oF;have bb:bnd (k+1)<qU:=lU (by omega);have x1:x.1.natAbs<qf:=Q4 hx.pN cC;have x2:x.2.natAbs<qf:=Q4 hx.qN cC;refine KU (n:=2) (ds:=[fr t,fr x]) ?_;show A3 [.sh (fr t),.sh (fr x)]=_;unfold A3;refine z9 (Ab ?_);refine(oj (xs:=[.int (t.1*x.2+x.1*t.2),.int (t.2*x.2)]) (oz ?_ (oz ?_ rfl))).trans ?_
 .refine(iV (x:=.int (t.1*x.2)) (y:=.int (x.1*t.2)) ?_ ?_).trans rfl
  .exact(iV (x:=.int t.1) (y:=.int x.2) rfl rfl).trans (Av (dY (Rp a1 b60) x2))
  .exact(iV (x:=.int x.1) (y:=.int t.2) rfl rfl).trans (Av (dY x1 (Rp a2 b60)))
 .exact(iV (x:=.int t.2) (y:=.int x.2) rfl rfl).trans (Av (dY (Rp a2 b60) x2))
 .exact yd hB.pos (Rp hB.b1 bb) (Rp hB.b2 bb)
theorem xS{L:Sl}:∀(xs:List cA) (k:Nat) (s:cA) (z:Sl),DX k s->k+xs.length<=61->(∀x∈xs,aU x)->∃z',cm (bF 2) (aq (aJ 1 (ao (af (ae 1) (af (ae 2) ax)) FW)) ak) (xs.map fr) [L,.sh (fr (c9 s.1 s.2)),z] =
  .ok (.nx [L,.sh (fr (c9 (xs.foldl un s).1 (xs.foldl un s).2)),z'])/\DX (k+xs.length) (xs.foldl un s)
 |[],k,s,z,h,_,_=>⟨z,rfl,h⟩
 |x::xs,k,s,z,h,hk,hx=>by
  have hx0:=hx x Q3;simp only[Rt]at hk;obtain⟨z',e,a⟩:=xS xs (k+1) (un s x) (.sh (fr x)) (h.step hx0) (by omega) λy hy=>hx y (QX _ hy);refine⟨z',?_,by rw[Rt,show k+(xs.length+1)=k+1+xs.length by omega];exact a⟩;rw[Q6,i5 (ρ1:=[L,.sh (fr (c9 s.1 s.2)),.sh (fr x)]) (ρ2:=[L,.sh (fr (c9 (un s x).1 (un s x).2)),.sh (fr x)]) rfl]
  .exact e
  .exact EA (z7 ((oj (xs:=[fr (c9 s.1 s.2),fr x]) rfl).trans (Ib h (by omega) hx0)))
def mN(xs:List cA):cA:=xs.foldl un (0,1)
def jO(hl:xs.length<=61)(hx:∀x∈xs,aU x):DX xs.length (mN xs):=by
 obtain⟨z',e,a⟩:=xS (L:=.no) xs 0 (0,1) .no DX.start (by omega) hx;rw[Sn]at a;exact a
end Com
local macro_rules|`(tactic|open_line with[$xs,*])=>do
  let ns:Array Lean.Term:=("ki gR gq nz lL mz ny tj nC n8 kS yX tP tO tq nG tZ nF nD kP sS tm nE y9 tY tX tW tI ic iN kT t9 oa n9 yT tE tw tH nH tN nW nV sQ nh Gw nu sZ nt nr nq xm kO nB nA yS tu yU yQ sY sX sW tQ n6 kU yY tV tU tT tM ua tJ yW yV nK nJ o6 jU Q6 Tt Rt TQ Sd Ub SY S4 SJ R0 Ul Um UM Nat.reduceSub Nat.reduceAdd UN Sn UC Uv sT tL ie dH tK nj yR tf lN lM nU nT nS nR nQ nN decide_true decide_false Nat.reduceLeDiff Nat.reduceBEq Int.reduceBEq beq_self_eq_true DL.dOne DL.mYes fm dO eD gI iM gH y8 y0 yZ Int.reduceLT Int.reduceLE Int.reduceSub Int.reduceAdd Int.reduceMul Int.reduceNeg nM kQ Int.reduceToNat UD nZ nY nk kN xl sV qL xn i7 nX iL".splitOn " ").toArray.map fun s=>Lean.mkIdent s.toName
  let ys:=ns++xs.getElems
  `(tactic|simp only[$[$ys:term],*])
local macro_rules|`(tactic|open_line with[no_df,$xs,*])=>do
  let ns:Array Lean.Term:=("ki gR gq nz lL mz ny tj nC n8 kS yX tP tO tq nG tZ nF nD kP sS tm nE y9 tY tX tW tI ic iN kT t9 oa n9 yT tE tw tH nH tN nW nV sQ nh Gw nu sZ nt nr nq xm kO nB nA yS tu yU yQ sY sX sW tQ n6 kU yY tV tU tT tM ua tJ yW yV nK nJ o6 jU Q6 Tt Rt TQ Sd Ub SY S4 SJ R0 Ul Um UM Nat.reduceSub Nat.reduceAdd UN Sn UC Uv sT tL ie dH tK nj yR tf lN lM nU nT nS nR nQ nN decide_true decide_false Nat.reduceLeDiff Nat.reduceBEq Int.reduceBEq beq_self_eq_true DL.dOne DL.mYes fm dO eD gI iM gH y8 y0 yZ Int.reduceLT Int.reduceLE Int.reduceSub Int.reduceAdd Int.reduceMul Int.reduceNeg nM kQ Int.reduceToNat UD nZ nY nk kN xl sV qL xn i7 nX iL".splitOn " ").toArray.map fun s=>Lean.mkIdent s.toName
  let ys:=ns++xs.getElems
  `(tactic|simp -implicitDefEqProofs only[$[$ys:term],*])
namespace Com
open PySem L2 DL
noncomputable def dS:bi :=
 (aq (HI [2,3,4] (ae 0))
 (aq (cM (aa (ae 2) (dC (.int 3)) zk)
 (aq (aW (ao (af (aa (ae 1) (aa (ae 3) (dC (.int 10)) cQ) bz) (af (dC (.int 1)) ax)) c5))
 ak)
 ak)
 (aq (cM (aa (ae 2) (dC (.int 7)) zk)
 (aq (aW (ao (af (aa (ae 1) (aa (ae 3) (dC (.int 24)) cQ) bz) (af (aa (dC (.int 1)) (aa (ae 4) (dC (.int 6)) cQ) bz) ax)) mf))
 ak)
 ak)
 (aq (aW (ao (af (aa (ae 1) (ae 3) bz) (af (aa (dC (.int 1)) (ae 4) bz) ax)) mf))
 ak))))
def aA:ac->av D:=br 5 dS
def rX(ha:0<=a)(hb:0<b):0<=(c9 a b).1:=Uj ha (by omega)
def II(h0:0<=a)(h1:a<(kz:Int)):a.natAbs<qU:=Q4 (show a.natAbs<kz by omega) xB
def BV(P:Nat->Ev->Prop)(h:∀k,k<n->∀ρ,P k ρ->∃ρ2,body (ρ.set i (.sh (.int (k:Int))))=.ok (.nx ρ2)/\P (k+1) ρ2)(h0:P 0 ρ):∃ρ',cm (bF i) body (intsFrom 0 n) ρ=.ok (.nx ρ')/\P n ρ':=by
 have key:∀(m k:Nat) (ρ:Ev),k+m=n->P k ρ->∃ρ',cm (bF i) body ((intsFrom 0 n).drop k) ρ=.ok (.nx ρ')/\P n ρ':=by
  intro m
  induction m with
  |zero=>
   intro k ρ hk hp;have:k=n:=by omega
   subst this;rw[Gd];exact⟨ρ,rfl,hp⟩
  |succ m ih=>
   intro k ρ hk hp;obtain⟨ρ2,h1,h2⟩:=h k (by omega) ρ hp;rw[De (by omega),i5 (tg:=bF i) rfl h1];exact ih (k+1) ρ2 (by omega) h2
 exact key n 0 ρ (by omega) h0
def gp(P:Nat->Ev->Prop)(h:∀k d,ds[k]?=some d->∀ρ,P k ρ->∃ρ1 ρ2,tg ρ d=.ok ρ1/\body ρ1=.ok (.nx ρ2)/\P (k+1) ρ2)(h0:P 0 ρ):∃ρ',cm tg body ds ρ=.ok (.nx ρ')/\P ds.length ρ':=by
 have key:∀(m k:Nat) (ρ:Ev),k+m=ds.length->P k ρ->∃ρ',cm tg body (ds.drop k) ρ=.ok (.nx ρ')/\P ds.length ρ':=by
  intro m
  induction m with
  |zero=>
   intro k ρ hk hp;have:k=ds.length:=by omega
   subst this;rw[VJ];exact⟨ρ,rfl,hp⟩
  |succ m ih=>
   intro k ρ hk hp;have hlt:k<ds.length:=by omega
   obtain⟨ρ1,ρ2,h1,h2,h3⟩:=h k ds[k] (QW hlt) ρ hp;rw[Sm hlt,i5 h1 h2];exact ih (k+1) ρ2 (by omega) h3
 exact key ds.length 0 ρ (by omega) h0
structure Drawn (sz vs:List Int):Prop where
 len:vs.length=sz.length
 bnd:∀(i:Nat) (v s:Int),vs[i]?=some v->sz[i]?=some s->0<=v/\v<s
def Drawn.at{sz vs:List Int}(W:Drawn sz vs)(i:Nat)(h:sz[i]?=some s):∃v,vs[i]?=some v/\(0<=v/\v<s)/\aC (.lst (vs.map D.int)) (.int (i:Int))=.ok (.int v):=by
 have hi:i<vs.length:=by rw[W.len];exact(Q5.mp h).1
 refine⟨vs[i],QW hi,W.bnd i _ _ (QW hi) h,eY ?_⟩;rw[Q7,QW hi];rfl
def Drawn.ix{sz vs:List Int}(W:Drawn sz vs)(k:Int)(i:Nat)(hk:k=(i:Int))(h:sz[i]?=some s):∃v,vs[i]?=some v/\(0<=v/\v<s)/\aC (.lst (vs.map D.int)) (.int k)=.ok (.int v):=by
 subst hk;exact W.at i h
def JH:("abcdefghijklmnopqrstuvwxyz" : Ro).cps.toList=(R4 26).map (97 + ·):=by decide +kernel
def A7:∀n,n<26->sJ (97+n)=true:=by decide +kernel
def A6(h0:0<=v)(h1:v<26):aC (.str "abcdefghijklmnopqrstuvwxyz") (.int v)=.ok (.str ⟨#[97+v.toNat]⟩):=by
 obtain⟨n,rfl⟩:=Sb h0;have hn:n<26:=by omega
 have e:atI ("abcdefghijklmnopqrstuvwxyz" : Ro).cps.toList ((n:Nat):Int)=some (97+n):=fu (by rw[JH];simp[hn]);show(if("abcdefghijklmnopqrstuvwxyz" : Ro).length<=line then(match atI ("abcdefghijklmnopqrstuvwxyz" : Ro).cps.toList ((n:Nat):Int) with|some c=>av.ok (D.str ⟨#[c]⟩)|none=>.stuck) else .stuck)=_;rw[if_pos (by decide),e];rfl
theorem BN:∀cs:ce,Str.join "" (cs.map λc=>(⟨#[c]⟩:Ro))=⟨cs.toArray⟩
 |[]=>rfl
 |[c]=>rfl
 |c::d::cs=>by
  show(⟨#[c]⟩:Ro)++""++Str.join "" ((d::cs).map λc=>(⟨#[c]⟩:Ro))=_;rw[BN (d::cs)];apply Str.ext';show(#[c]++("" : Ro).cps)++(d::cs).toArray=_;have:("" : Ro).cps=#[]:=rfl;rw[this];simp
theorem Bk:∀cs:ce,je (cs.map λc=>D.str ⟨#[c]⟩)=some (cs.map λc=>(⟨#[c]⟩:Ro))
 |[]=>rfl
 |c::cs=>by
  show(je (cs.map λc=>D.str ⟨#[c]⟩)).map _=_;rw[Bk cs];rfl
def AH{cs:ce}(h:cs.length<=1000):sG "" [.lst (cs.map λc=>D.str ⟨#[c]⟩)]=.ok (.str ⟨cs.toArray⟩):=by
 have Kc:iZ "" (cs.map λc=>(⟨#[c]⟩:Ro))=true:=by
  unfold iZ;have e:((cs.map λc=>(⟨#[c]⟩:Ro)).map (·.length)).sum=cs.length:=by
   clear h
   induction cs with
   |nil=>rfl
   |cons c cs ih=>
    simp only[Q6,Te,Rt,ih];show 1+cs.length=_;omega
  rw[e,Rn];exact⟨by decide,decide_eq_true (by rw[Q0];omega)⟩
 show(match je (cs.map λc=>D.str ⟨#[c]⟩) with|some ys=>if iZ "" ys=true then av.ok (D.str (V0 "" ys)) else .stuck|none=>.stuck)=_;rw[Bk];show(if iZ "" _=true then av.ok (D.str (V0 "" _)) else .stuck)=_;rw[if_pos Kc];show av.ok (D.str (Builtin.Str.glued "" _))=_;rw[StrLaws.glued_eq_join,BN]
def qZ{cs:ce}(hb:b<=cs.length):Uo ⟨cs.toArray⟩ none (some (b:Int))=⟨(cs.take b).toArray⟩:=by
 have:=StrLaws.sliceText_to (x:=⟨cs.toArray⟩) (j:=(b:Int)) ⟨by omega,by simpa using hb⟩;refine Eq.trans this ?_;simp
structure oC (zs:bv):Prop where
 nd:zs.Nodup
 nm:∀z∈zs,nameB z=true
def zy(h:x.length+y.length<=1000):bz (.str x) (.str y)=.ok (.str (x++y)):=if_pos (Ra h (by decide))
def vW(a b:ce):(⟨a.toArray⟩:Ro)++⟨b.toArray⟩=⟨(a++b).toArray⟩:=by
 apply Str.ext';show a.toArray++b.toArray=_;simp
def Mo(a:ce):(⟨a.toArray⟩:Ro).length=a.length:=by show a.toArray.size=_;simp
def Bm{l h:Option Int}(hz:z.length<=1000):CD (.str z) l h=.ok (.str (Uo z l h)):=by
 show(if z.length<=line then _ else _)=_;rw[if_pos (Ra hz (by decide))]
structure fK where
 a:Ro
 b:Ro
 w:Ro
 l:cA
 o:Option cA
def cN:Option cA->D
 |none=>.non
 |some x=>fr x
def bf(t:fK):D:=.tup [.str t.a,.str t.b,.str t.w,fr t.l,cN t.o]
structure qd (zs:bv) (t:fK):Prop where
 a:t.a∈zs
 b:t.b∈zs
 ne:t.a≠t.b
 w:t.w="one"∨t.w="both"
 l:aU t.l
 l0:0<=t.l.1
 o:∀x,t.o=some x->aU x/\0<x.1
def Ek{α:Type}{vs:List α}{a b c:α}(h0:vs[i]?=some a)(h1:vs[i+1]?=some b)(h2:vs[i+2]?=some c):(vs.drop i).take 3=[a,b,c]:=by
 apply Ur;intro j;rcases j with _|_|_|j
 .rw[S7 (by decide),TM];simpa using h0
 .rw[S7 (by decide),TM];simpa using h1
 .rw[S7 (by decide),TM];simpa using h2
 .rw[S0 (by simp;omega)];simp
def zm{vs:List Int}{a b:Nat}(hx:x=(a:Int))(hy:y=(b:Int))(h:b<=vs.length)(hab:a<=b):l4 (vs.map D.int) (some x) (some y)=((vs.drop a).take (b-a)).map D.int:=by
 subst hx hy;rw[j6,HT.sIx_nat,HT.sIx_nat,VT h,VT (Ra hab h)]
def Ol{vs:List Int}{i:Nat}(hx:x=(i:Int))(hy:y=((i+3:Nat):Int))(h0:vs[i]?=some a)(h1:vs[i+1]?=some b)(h2:vs[i+2]?=some c):l4 (vs.map D.int) (some x) (some y)=[.int a,.int b,.int c]:=by
 have hl:i+3<=vs.length:=by have:=(Q5.mp h2).1;omega
 rw[zm hx hy hl (by omega),show i+3-i=3 by omega,Ek h0 h1 h2];rfl
def Es{zs:bv}{k:Int}(h0:0<=k)(h1:k<zs.length):∃z,zs[k.toNat]?=some z/\aC (.lst (zs.map D.str)) (.int k)=.ok (.str z):=by
 obtain⟨n,rfl⟩:=Sb h0;have hn:n<zs.length:=by omega
 refine⟨zs[n],by simp[hn],eY ?_⟩;rw[Q7,QW hn];rfl
def Ho{k:Int}(h0:0<=k)(h1:k<2):∃z:Ro,(z="one"∨z="both")/\aC (.lst [.str "one",.str "both"]) (.int k)=.ok (.str z):=by
 have:k=0∨k=1:=by omega
 rcases this with rfl|rfl
 .exact⟨_,.inl rfl,lN⟩
 .exact⟨_,.inr rfl,lM⟩
def we{n d e:Int}(h2:2<=n)(d0:0<=d)(d1:d<n)(e0:0<=e)(e1:e<n-1):(0<=(d+1+e).fmod n/\(d+1+e).fmod n<n)/\(d+1+e).fmod n≠d:=by
 refine⟨eT (by omega),?_⟩;rw[US _ (by omega)]
 by_cases h:d+1+e<n
 .rw[Int.emod_eq_of_lt (by omega) h];omega
 .have:(d+1+e) % n=d+1+e-n:=by
   rw[←Int.sub_emod_right (d+1+e) n,Int.emod_eq_of_lt (by omega) (by omega)]
  rw[this];omega
def yt{α:Type}{zs:List α}(nd:zs.Nodup){i j:Nat}{x y:α}(hi:zs[i]?=some x)(hj:zs[j]?=some y)(hij:i≠j):x≠y:=by
 intro e;subst e;obtain⟨h1,e1⟩:=Q5.mp hi;obtain⟨h2,e2⟩:=Q5.mp hj;exact hij ((U1 nd).mp (e1.trans e2.symm))
def p9:bi :=
 (aq (aW (dZ (ao (af (ae 0) ax) m_is_ratio) (aa (aa (ae 0) (dC (.int 0)) aC) (dC (.int 0)) Mm)))
 ak)
def m_is_length:ac->av D:=br 1 p9
def uC:bi :=
 (aq (aW (gZ (aa (ae 0) (dC (.non)) vb) (dZ (ao (af (ae 0) ax) m_is_ratio) (aa (aa (ae 0) (dC (.int 0)) aC) (dC (.int 0)) zK))))
 ak)
def m_is_worth:ac->av D:=br 1 uC
noncomputable def zx:bi :=
 (aq (cM (gZ (cg (aQ (ae 0) (gL "tuple"))) (aa (ao (af (ae 0) ax) (m1 dP)) (dC (.int 5)) gO))
 (aq (aW (dC (.bl false)))
 ak)
 ak)
 (aq (cM (gZ (cg (ao (af (aa (ae 0) (dC (.int 0)) aC) ax) m_is_name)) (gZ (cg (ao (af (aa (ae 0) (dC (.int 1)) aC) ax) m_is_name)) (aa (aa (ae 0) (dC (.int 0)) aC) (aa (ae 0) (dC (.int 1)) aC) fJ)))
 (aq (aW (dC (.bl false)))
 ak)
 ak)
 (aq (cM (gZ (cg (aQ (aa (ae 0) (dC (.int 2)) aC) (gL "str"))) (aa (aa (ae 0) (dC (.int 2)) aC) (dC (.tup [(.str "one"),(.str "both")])) bL))
 (aq (aW (dC (.bl false)))
 ak)
 ak)
 (aq (aW (dZ (ao (af (aa (ae 0) (dC (.int 3)) aC) ax) m_is_length) (ao (af (aa (ae 0) (dC (.int 4)) aC) ax) m_is_worth)))
 ak))))
def m_is_tie:ac->av D:=br 1 zx
noncomputable def jJ:bi :=
 (aq (cM (gZ (cg (aQ (ae 0) (gL "list"))) (cg (jl Js Js (dC (.int 2)) (ao (af (ae 0) ax) (m1 dP)) (dC (.int 7)))))
 (aq dg
 ak)
 ak)
 (aq (gB (lW (ae 0)) (dy [1,2])
 (aq (cM (gZ (cg (ao (af (ae 2) ax) m_is_name)) (aa (ae 2) (gK (ae 0) fD (cD (ae 1))) pS))
 (aq dg
 ak)
 ak)
 ak))
 ak))
def m_look_at_places:ac->av D:=br 3 jJ
noncomputable def lq:bi :=
 (aq (cM (gZ (cg (aQ (ae 0) (gL "list"))) (aa (ao (af (ae 0) ax) (m1 dP)) (dC (.int 14)) zK))
 (aq dg
 ak)
 ak)
 (aq (gB (lW (ae 0)) (dy [2,3])
 (aq (cM (gZ (cg (ao (af (ae 3) ax) m_is_tie)) (gZ (aa (aa (ae 3) (dC (.int 0)) aC) (ae 1) bL) (aa (aa (ae 3) (dC (.int 1)) aC) (ae 1) bL)))
 (aq dg
 ak)
 ak)
 ak))
 ak))
def m_look_at_ties:ac->av D:=br 4 lq
def uD:bi :=
 (aq (aW (dZ (ao (af (ae 0) ax) m_is_name) (aa (ae 0) (ae 1) pS)))
 ak)
def m_is_place:ac->av D:=br 2 uD
noncomputable def gs:bi :=
 (aq (cM (gZ (cg (aQ (ae 0) (gL "tuple"))) (aa (ao (af (ae 0) ax) (m1 dP)) (dC (.int 4)) gO))
 (aq dg
 ak)
 ak)
 (aq (gC (ao (af (aa (ae 0) (dC (.int 0)) aC) ax) m_look_at_places))
 (aq (gC (ao (af (aa (ae 0) (dC (.int 1)) aC) (af (aa (ae 0) (dC (.int 0)) aC) ax)) m_look_at_ties))
 (aq (cM (cg (ao (af (aa (ae 0) (dC (.int 2)) aC) (af (aa (ae 0) (dC (.int 0)) aC) ax)) m_is_place))
 (aq dg
 ak)
 ak)
 (aq (cM (gZ (cg (ao (af (aa (ae 0) (dC (.int 3)) aC) (af (aa (ae 0) (dC (.int 0)) aC) ax)) m_is_place)) (aa (aa (ae 0) (dC (.int 3)) aC) (aa (ae 0) (dC (.int 2)) aC) fJ))
 (aq dg
 ak)
 ak)
 ak)))))
def m_look_at_web:ac->av D:=br 1 gs
def km:bi :=
 (aq (aW (dZ (ao (af (ae 1) ax) m_is_whole) (jl Js zk (dC (.int 0)) (ae 1) (ao (af (aa (ae 0) (dC (.int 1)) aC) ax) (m1 dP)))))
 ak)
def m_is_tie_number:ac->av D:=br 2 km
noncomputable def cL:bi :=
 (aq (gC (ao (af (ae 0) ax) m_look_at_web))
 (aq (cM (cg (aQ (ae 1) (gL "list")))
 (aq dg
 ak)
 ak)
 (aq (aJ 2 (aQ (dC (.int 1)) jF))
 (aq (kF (ae 1) (bF 3)
 (aq (cM (gZ (cg (ao (af (ae 0) (af (ae 3) ax)) m_is_tie_number)) (aa (ae 3) (ae 2) Js))
 (aq dg
 ak)
 ak)
 (aq (cM (aa (aa (aa (aa (ae 0) (dC (.int 1)) aC) (ae 3) aC) (dC (.int 4)) aC) (dC (.non)) vb)
 (aq dg
 ak)
 ak)
 (aq (aJ 2 (ae 3))
 ak))))
 ak))))
def m_look_at_taking:ac->av D:=br 4 cL
structure jr where
 ps:bv
 ts:List fK
 fi:Ro
 la:Ro
def aK(w:jr):D:=.tup [.lst (w.ps.map D.str),.lst (w.ts.map bf),.str w.fi,.str w.la]
structure dU (w:jr):Prop where
 n2:2<=w.ps.length
 n7:w.ps.length<=7
 nm:oC w.ps
 t14:w.ts.length<=14
 ts:∀t∈w.ts,qd w.ps t
 fi:w.fi∈w.ps
 la:w.la∈w.ps
 ne:w.fi≠w.la
def lG(h:nameB z=true):m_is_name [.str z]=.ok (.bl true):=by
 have hl:z.length<=8:=by
  unfold nameB at h;simp only[Rn,decide_eq_true_eq]at h;exact h.2.1
 rw[AK (show Kc (.str z)=true from decide_eq_true (Ra hl (by decide)))];show av.ok (D.bl (nameB z))=_;rw[h]
def rA(h:Low x):m_is_ratio [fr x]=.ok (.bl true):=by
 rw[m6];show av.ok (D.bl (fv (.tup [.int x.1,.int x.2])))=_;have h1:=h.q1;have h2:=h.g1;show av.ok (D.bl (decide (1<=x.2)&&(RD x.1 x.2==1)))=_;rw[decide_eq_true h1,h2];rfl
def kK(h:Low x)(h0:0<=x.1):m_is_length [fr x]=.ok (.bl true):=by
 have e:fr x=.tup [.int x.1,.int x.2]:=rfl;have h1:=rA h;rw[e]at h1 ⊢;open_line with[m_is_length,p9,h1,decide_eq_true h0,decide_eq_true (show x.1≥0 from h0)]
def zM(h:∀x,o=some x->Low x/\0<x.1):m_is_worth [cN o]=.ok (.bl true):=by
 cases o with
 |none=>rfl
 |some x=>
  obtain⟨hx,h0⟩:=h x rfl;have e:cN (some x)=.tup [.int x.1,.int x.2]:=rfl;have h1:=rA hx;rw[show fr x=.tup [.int x.1,.int x.2] from rfl]at h1;rw[e];open_line with[m_is_worth,uC,h1,decide_eq_true h0]
def qM:fJ (.str x) (.str y)=.ok (.bl (x==y)):=by unfold fJ;rw[if_pos ⟨rfl,rfl⟩,cw]
def Ei(nm:oC zs)(h:qd zs t):m_is_tie [bf t]=.ok (.bl true):=by
 obtain⟨a,b,w,l,o⟩:=t;obtain⟨ha,hb,hne,hw,hl,hl0,ho⟩:=h;have h1:=lG (nm.nm a ha);have h2:=lG (nm.nm b hb);have h3:=kK hl.toLow hl0;have h4:=zM (o:=o) λx hx=>⟨(ho x hx).1.toLow,(ho x hx).2⟩
 have h5:(a==b)=false:=beq_eq_false_iff_ne.mpr hne;have h6:bL (.str w) (.tup [.str "one",.str "both"])=.ok (.bl false):=by
  rcases hw with rfl|rfl<;>rfl
 have e:bf ⟨a,b,w,l,o⟩=.tup [.str a,.str b,.str w,fr l,cN o]:=rfl;rw[e];open_line with[m_is_tie,zx,h1,h2,qM,h5,h6,h3,h4]
def qT{zs:bv}:(zs.map D.str).any (λd=>cw d (.str z))=decide (z∈zs):=by
 induction zs with
 |nil=>rfl
 |cons y zs ih=>
  rw[Q6,Tf,ih];show((y==z)||decide (z∈zs))=_
  by_cases h:y=z
  .subst h;simp
  .have:(y==z)=false:=beq_eq_false_iff_ne.mpr h
   rw[this,Ug];have:z∈y::zs↔z∈zs:=by simp[R7 h]
   exact decide_eq_decide.mpr this.symm
def vA{zs:bv}:(zs.map D.str).all (aR n)=true:=Ru.mpr λd hd=>by
 obtain⟨z,_,rfl⟩:=Rl.mp hd;cases n<;>rfl
def lK{zs:bv}:pS (.str z) (.lst (zs.map D.str))=.ok (.bl (decide (z∈zs))):=by
 have e:xH (.str z) (.lst (zs.map D.str))=some (decide (z∈zs)):=(if_pos ⟨rfl,vA⟩).trans (congrArg some qT);unfold pS;rw[e]
def rQ{zs:bv}:bL (.str z) (.lst (zs.map D.str))=.ok (.bl (!(decide (z∈zs)))):=by
 have e:xH (.str z) (.lst (zs.map D.str))=some (decide (z∈zs)):=(if_pos ⟨rfl,vA⟩).trans (congrArg some qT);unfold bL;rw[e]
def rF{zs:bv}(h:nameB z=true)(hz:z∈zs):m_is_place [.str z,.lst (zs.map D.str)]=.ok (.bl true):=by
 open_line with[m_is_place,uD,lG h,lK,decide_eq_true hz]
def fQ{α:Type}{F:α->D}{xs:List α}{k:Nat}(h:(numbered 0 (xs.map F))[k]?=some d):∃x,xs[k]?=some x/\d=.tup [.int (k:Int),F x]:=by
 rw[cq,Q7]at h;cases e:xs[k]? with
 |none=>rw[e]at h;cases h
 |some x=>
  rw[e]at h;cases h;exact⟨x,rfl,by simp⟩
def Mn{α:Type}{F:α->D}{xs:List α}{k:Nat}(h:k<=xs.length):l4 (xs.map F) none (some (k:Int))=(xs.take k).map F:=by
 rw[j6,HT.sIx_none,HT.sIx_nat,VT h,V2,UM]
def CM(h2:2<=zs.length)(h7:zs.length<=7)(nm:oC zs):m_look_at_places [.lst (zs.map D.str)]=.ok .non:=by
 obtain⟨ρ',hl,_⟩:=gp (ds:=numbered 0 (zs.map D.str)) (tg:=dy [1,2]) (ρ:=[.sh (.lst (zs.map D.str)),.no,.no])
  (body:=(aq (cM (gZ (cg (ao (af (ae 2) ax) m_is_name)) (aa (ae 2) (gK (ae 0) fD (cD (ae 1))) pS)) (aq dg ak) ak) ak))
  (λk ρ=>∃a b,ρ=[.sh (.lst (zs.map D.str)),a,b]) (by
   rintro k d hd ρ ⟨a,b,rfl⟩;obtain⟨z,hz,rfl⟩:=fQ hd;refine⟨_,[.sh (.lst (zs.map D.str)),.sh (.int (k:Int)),.sh (.str z)],i7 rfl,?_,_,_,rfl⟩;have hk:k<zs.length:=(Q5.mp hz).1;have hnot:decide (z∈zs.take k)=false:=decide_eq_false λhm=>by
    obtain⟨j,hj⟩:=WC.mp hm;have hjk:j<k:=by have:=(Q5.mp hj).1;simp at this;omega
    rw[S7 hjk]at hj;exact yt nm.nd hj hz (by omega) rfl
   open_line with[lG (nm.nm z (Rb hz)),Mn (T7 hk),lK,hnot]) ⟨.no,.no,rfl⟩
 have e1:decide ((2:Int)<=(zs.length:Int))=true:=decide_eq_true (by omega);have e2:decide ((zs.length:Int)<=7)=true:=decide_eq_true (by omega);open_line with[m_look_at_places,jJ,Q0,e1,e2,hl]
def Hw{ts:List fK}(h14:ts.length<=14)(nm:oC zs)(ht:∀t∈ts,qd zs t):m_look_at_ties [.lst (ts.map bf),.lst (zs.map D.str)]=.ok .non:=by
 obtain⟨ρ',hl,_⟩:=gp (ds:=numbered 0 (ts.map bf)) (tg:=dy [2,3]) (ρ:=[.sh (.lst (ts.map bf)),.sh (.lst (zs.map D.str)),.no,.no])
  (body:=(aq (cM (gZ (cg (ao (af (ae 3) ax) m_is_tie)) (gZ (aa (aa (ae 3) (dC (.int 0)) aC) (ae 1) bL) (aa (aa (ae 3) (dC (.int 1)) aC) (ae 1) bL))) (aq dg ak) ak) ak))
  (λk ρ=>∃a b,ρ=[.sh (.lst (ts.map bf)),.sh (.lst (zs.map D.str)),a,b]) (by
   rintro k d hd ρ ⟨a,b,rfl⟩;obtain⟨t,ht',rfl⟩:=fQ hd;refine⟨_,[.sh (.lst (ts.map bf)),.sh (.lst (zs.map D.str)),.sh (.int (k:Int)),.sh (bf t)],i7 rfl,?_,_,_,rfl⟩;have hT:=ht t (Rb ht');have h1:=Ei nm hT;rw[show bf t=.tup [.str t.a,.str t.b,.str t.w,fr t.l,cN t.o] from rfl]at h1 ⊢;open_line with[h1,rQ,decide_eq_true hT.a,decide_eq_true hT.b]) ⟨.no,.no,rfl⟩
 have e1:decide ((14:Int)<(ts.length:Int))=false:=decide_eq_false (by omega);open_line with[m_look_at_ties,lq,Q0,e1,decide_eq_false (show ¬(ts.length:Int) > 14 by omega),hl]
def zO(h:dU w):m_look_at_web [aK w]=.ok .non:=by
 obtain⟨ps,ts,fi,la⟩:=w;have h1:=CM h.n2 h.n7 h.nm;have h2:=Hw h.t14 h.nm h.ts;have h3:=rF (h.nm.nm fi h.fi) h.fi;have h4:=rF (h.nm.nm la h.la) h.la;have h5:(la==fi)=false:=beq_eq_false_iff_ne.mpr (R7 h.ne);rw[show aK ⟨ps,ts,fi,la⟩=.tup [.lst (ps.map D.str),.lst (ts.map bf),.str fi,.str la] from rfl];open_line with[m_look_at_web,gs,h1,h2,h3,h4,qM,h5]
noncomputable def kl:bi :=
 (aq (aJ 1 (dC (.int 1)))
 (aq (kF (ae 0) (bF 2)
 (aq (aJ 1 (aa (aa (ae 1) (ao (af (ae 1) (af (aa (ae 2) (dC (.int 1)) aC) ax)) m_common_divisor) l3) (aa (ae 2) (dC (.int 1)) aC) bE))
 ak))
 (aq (aW (ae 1))
 ak)))
def m_shared_bottom:ac->av D:=br 3 kl
def uE:bi :=
 (aq (aW (aa (aa (ae 0) (dC (.int 0)) aC) (aa (ae 1) (aa (ae 0) (dC (.int 1)) aC) l3) bE))
 ak)
def m_as_whole:ac->av D:=br 2 uE
noncomputable def lp:bi :=
 (aq (aJ 1 (ao (af (cE 1 [] (jP (ae 0)) (bF 0) (aa (ae 0) (dC (.non)) kj) (ae 0)) ax) m_shared_bottom))
 (aq (aW (ao (af (cE 1 [1] (jP (ae 0)) (bF 0) mYes (Jt (aa (ae 0) (dC (.non)) vb) (dC (.non)) (ao (af (ae 0) (af (ae 1) ax)) m_as_whole))) (af (ae 1) ax)) c5))
 ak))
def m_on_one_scale:ac->av D:=br 2 lp
def aS(ks:ce):D:=.lst (ks.map λ(k:Nat)=>D.int (k:Int))
structure kn (w:jr) (ks:ce):Prop where
 up:ks.Pairwise (· < ·)
 wo:∀k∈ks,∃t x,w.ts[k]?=some t/\t.o=some x
def kn.lt(T:kn w ks):∀k∈ks,k<w.ts.length:=λk hk=>by
 obtain⟨t,x,h1,h2⟩:=T.wo k hk;exact(Q5.mp h1).1
def Ej{w:jr}{k:Nat}(h:w.ts[k]?=some t):aC (.lst (w.ts.map bf)) (.int (k:Int))=.ok (bf t):=eY (by rw[Q7,h];rfl)
def yq{k:Nat}(h:k<w.ts.length):m_is_tie_number [aK w,.int (k:Int)]=.ok (.bl true):=by
 rw[show aK w=.tup [.lst (w.ps.map D.str),.lst (w.ts.map bf),.str w.fi,.str w.la] from rfl];open_line with[m_is_tie_number,km,gG,G7,Q0,decide_eq_true (show(0:Int)<=(k:Int) by omega),decide_eq_true (show(k:Int)<(w.ts.length:Int) by omega)]
def vt(W:dU w)(T:kn w ks):m_look_at_taking [aK w,aS ks]=.ok .non:=by
 obtain⟨ρ',hl,_⟩:=gp (ds:=ks.map λ(k:Nat)=>D.int (k:Int)) (tg:=bF 3) (ρ:=[.sh (aK w),.sh (aS ks),.sh (.int (-1)),.no])
  (body:=(aq (cM (gZ (cg (ao (af (ae 0) (af (ae 3) ax)) m_is_tie_number)) (aa (ae 3) (ae 2) Js))
   (aq dg ak) ak)
   (aq (cM (aa (aa (aa (aa (ae 0) (dC (.int 1)) aC) (ae 3) aC) (dC (.int 4)) aC) (dC (.non)) vb)
   (aq dg ak) ak)
   (aq (aJ 2 (ae 3)) ak))))
  (λj ρ=>∃(ah:Int) (x:Sl),ρ=[.sh (aK w),.sh (aS ks),.sh (.int ah),x]/\∀v∈ks.drop j,ah<(v:Int)) (by
   rintro j d hd ρ ⟨ah,x,rfl,hah⟩;rw[Q7]at hd;cases e:ks[j]? with
   |none=>rw[e]at hd;cases hd
   |some k=>
    rw[e]at hd;cases hd;have hj:j<ks.length:=(Q5.mp e).1;have hkm:=Rb e;obtain⟨t,y,h1,h2⟩:=T.wo k hkm;have hdr:ks.drop j=k::ks.drop (j+1):=by
     rw[Sm hj]
     congr 1
     rw[QW hj]at e;exact Sf e
    have hk:ah<(k:Int):=hah k (by rw[hdr];exact Q3);refine⟨_,[.sh (aK w),.sh (aS ks),.sh (.int (k:Int)),.sh (.int (k:Int))],rfl,?_,_,_,rfl,λv hv=>?_⟩
    .have hn:=yq (T.lt k hkm)
     have hix:=Ej h1;rw[show aK w=.tup [.lst (w.ps.map D.str),.lst (w.ts.map bf),.str w.fi,.str w.la] from rfl]at hn ⊢;rw[show bf t=.tup [.str t.a,.str t.b,.str t.w,fr t.l,cN t.o] from rfl,h2]at hix;open_line with[hn,decide_eq_false (show ¬(k:Int)<=ah by omega),hix,cN,fr,IZ]
    .have hp:(k::ks.drop (j+1)).Pairwise (· < ·):=by rw[←hdr];exact T.up.sublist (List.drop_sublist _ _)
     have:=(List.pairwise_cons.mp hp).1 v hv;omega) ⟨-1,.no,rfl,λv _=>by omega⟩
 have hw:=zO W;unfold aS at hl ⊢;open_line with[m_look_at_taking,cL,hw,hl]
def xO:mN (xs++[x])=un (mN xs) x:=by unfold mN;rw[List.foldl_append];rfl
def yF(h1:x.1.natAbs<qf)(h2:x.2.natAbs<qf)(h3:y.1.natAbs<qf)(h4:y.2.natAbs<qf):m_is_less [fr x,fr y]=.ok (.bl (flt x y)):=by
 rw[show fr x=.tup [.int x.1,.int x.2] from rfl,show fr y=.tup [.int y.1,.int y.2] from rfl];open_line with[m_is_less,wa,cS (dY h1 h4),cS (dY h3 h2)]
 rfl
def gM(b:Int)(x:cA):Int:=b / (RD b x.2:Int)*x.2
def eL(xs:List cA):Int:=xs.foldl gM 1
structure wu (k:Nat) (b:Int):Prop where
 pos:0<b
 bd:b.natAbs<=2 ^ (200*k)
def wQ{k:Nat}(h:k<=60):2 ^ (200*k)<qU:=by rw[mI];exact Vh (by decide) (by omega)
def yM(h:b≠0):0<(RD a b:Int):=qJ h
def wu.step{k:Nat}(h:wu k b)(hx:aU x):wu (k+1) (gM b x)/\b∣gM b x/\x.2∣gM b x:=by
 have q1:=hx.q1;have hg:0<(RD b x.2:Int):=yM (by omega);have hd:(RD b x.2:Int)∣b:=UA ..;have hd2:(RD b x.2:Int)∣x.2:=Ut ..;have hq:0<b / (RD b x.2:Int):=V4 h.pos (by omega) hd;refine⟨⟨T5 hq (by omega),?_⟩,?_,⟨b / (RD b x.2:Int),by unfold gM;rw[Us]⟩⟩
 .unfold gM
  rw[TJ,show 200*(k+1)=200*k+200 by omega,Vi];refine UR (Ra (SA _ _) h.bd) (Ra (T7 hx.qN) xC)
 .obtain⟨c,hc⟩:=hd
  obtain⟨d,hd'⟩:=hd2;refine⟨d,?_⟩;unfold gM;generalize (RD b x.2:Int)=g at *;have e1:b / g=c:=by rw[hc];exact Si c (by omega)
  rw[e1,hd',hc,←Wi,Us c g]
def A1{xs:List cA}(hx:∀x∈xs,aU x):∀(b:Int) (k:Nat),wu k b->wu (k+xs.length) (xs.foldl gM b)/\b∣xs.foldl gM b/\∀x∈xs,x.2∣xs.foldl gM b:=by
 induction xs with
 |nil=>intro b k h;exact⟨h,Int.dvd_refl b,λx hx=>nomatch hx⟩
 |cons x xs ih=>
  intro b k h;obtain⟨h1,h2,h3⟩:=h.step (hx x Q3);obtain⟨k1,k2,k3⟩:=ih (λy hy=>hx y (QX _ hy)) _ _ h1;refine⟨?_,Int.dvd_trans h2 k2,λy hy=>?_⟩
  .rw[Rt,show k+(xs.length+1)=k+1+xs.length by omega];exact k1
  .rcases Rh.mp hy with rfl|hy
   .exact Int.dvd_trans h3 k2
   .exact k3 y hy
def GS{L:Sl}:∀(xs:List cA) (k:Nat) (b:Int) (z:Sl),wu k b->k+xs.length<=60->(∀x∈xs,aU x)->∃z',cm (bF 2) (aq (aJ 1 (aa (aa (ae 1) (ao (af (ae 1) (af (aa (ae 2) (dC (.int 1)) aC) ax)) m_common_divisor) l3) (aa (ae 2) (dC (.int 1)) aC) bE)) ak) (xs.map fr) [L,.sh (.int b),z] =
  .ok (.nx [L,.sh (.int (xs.foldl gM b)),z']):=by
 intro xs
 induction xs with
 |nil=>intro k b z _ _ _;exact⟨z,rfl⟩
 |cons x xs ih=>
  intro k b z h hk hx;have hxx:=hx x Q3;have q1:=hxx.q1;obtain⟨h1,h2,h3⟩:=h.step hxx;simp only[Rt]at hk;obtain⟨z',hz'⟩:=ih (k+1) _ (.sh (fr x)) h1 (by omega) (λy hy=>hx y (QX _ hy));refine⟨z',?_⟩;have hg:0<(RD b x.2:Int):=yM (by omega);have hdiv:gJ b (RD b x.2:Int)=true:=ud (by omega) (Rp h.bd (wQ (by omega)));have hb13:(b / (RD b x.2:Int)).natAbs<qU:=Rp (Ra (SA _ _) h.bd) (wQ (by omega));have hmul:cU (b / (RD b x.2:Int)) x.2=true:=dY (Q4 hb13 oF) (Q4 hxx.qN cC);rw[Q6,i5 (ρ1:=[L,.sh (.int b),.sh (fr x)]) (ρ2:=[L,.sh (.int (gM b x)),.sh (fr x)]) rfl ?_]
  .exact hz'
  .rw[show fr x=.tup [.int x.1,.int x.2] from rfl]
   open_line with[lT,tR hdiv,jD hg,cS hmul]
   rfl
def Dz(hl:xs.length<=60)(hx:∀x∈xs,aU x):m_shared_bottom [.lst (xs.map fr)]=.ok (.int (eL xs)):=by
 obtain⟨z',hz⟩:=GS (L:=.sh (.lst (xs.map fr))) xs 0 1 .no ⟨by decide,by decide⟩ (by omega) hx;open_line with[m_shared_bottom,kl,hz]
 rfl
def wI(b:Int):Option cA->D
 |none=>.non
 |some x=>.int (x.1*(b / x.2))
def gA(os:List (Option cA)):List cA:=os.filterMap id
def C1{os:List (Option cA)}:x∈gA os↔some x∈os:=by unfold gA;simp
def D8(hx:aU x)(hb:b.natAbs<qU):m_as_whole [fr x,.int b]=.ok (.int (x.1*(b / x.2))):=by
 have q1:=hx.q1;have hdiv:gJ b x.2=true:=Kg (by omega) (Q4 hx.qN My);have hmul:cU x.1 (b / x.2)=true:=dY (Q4 hx.pN cC) (Q4 (Rp (SA _ _) hb) oF);rw[show fr x=.tup [.int x.1,.int x.2] from rfl];open_line with[m_as_whole,uE,tR hdiv,jD (show 0<x.2 by omega),cS hmul]
theorem jQ:∀os:List (Option cA),(os.map cN).filter (λd=>!(vQ d))=(gA os).map fr
 |[]=>rfl
 |none::os=>by
  rw[Q6,U3 (by decide),jQ os];rfl
 |some x::os=>by
  have:vQ (cN (some x))=false:=rfl;rw[Q6,U2 (by rw[this];rfl),jQ os];rfl
def xZ{os:List (Option cA)}(hl:os.length<=60)(hx:∀x,some x∈os->aU x):m_on_one_scale [.lst (os.map cN)]=.ok (.tup [.lst (os.map (wI (eL (gA os)))),.int (eL (gA os))]):=by
 have hxs:∀x∈gA os,aU x:=λx h=>hx x (C1.mp h);have hls:(gA os).length<=60:=Ra (List.length_filterMap_le _ _) hl;have h1:=Dz hls hxs;obtain⟨B,_,_⟩:=A1 hxs 1 0 ⟨by decide,by decide⟩;have hb:(eL (gA os)).natAbs<qU:=Rp B.bd (wQ (by omega));have c1:dQ 1 [] (bF 0) (aa (ae 0) (dC (.non)) kj) (ae 0) [.sh (.lst (os.map cN)),.no] (os.map cN)=.ok (.lst ((gA os).map fr)):=by
  rw[k6 (F:=id) (p:=λd=>!(vQ d)) (by rw[Q0];omega)]
  .rw[WL,jQ]
  .intro d hd
   exact⟨[.sh d],rfl,rfl,λ_=>rfl⟩
 have c2:dQ 1 [1] (bF 0) mYes (Jt (aa (ae 0) (dC (.non)) vb) (dC (.non)) (ao (af (ae 0) (af (ae 1) ax)) m_as_whole)) [.sh (.lst (os.map cN)),.sh (.int (eL (gA os)))] (os.map cN)=.ok (.lst (os.map (wI (eL (gA os))))):=by
  rw[kZ (F:=λd=>match d with|.tup [.int p,.int q]=>.int (p*(eL (gA os) / q))|_=>.non) (by rw[Q0];omega)]
  .congr 2
   rw[RV];apply Tx;intro o _;cases o<;>rfl
  .intro d hd
   obtain⟨o,ho,rfl⟩:=Rl.mp hd;refine⟨[.sh (cN o),.sh (.int (eL (gA os)))],rfl,rfl,?_⟩;cases o with
   |none=>rfl
   |some x=>
    have hw:=D8 (hx x ho) hb;rw[show fr x=.tup [.int x.1,.int x.2] from rfl]at hw;rw[show cN (some x)=.tup [.int x.1,.int x.2] from rfl];open_line with[hw]
 open_line with[m_on_one_scale,lp,c1,h1,c2]
theorem yH:∀ns:List Int,gQ (ns.map D.int)=some ns
 |[]=>rfl
 |n::ns=>by show(gQ (ns.map D.int)).map _=_;rw[yH ns];rfl
def xG:List Int->Int
 |[]=>0
 |a::l=>a+xG l
theorem vj:∀a b:List Int,xG (a++b)=xG a+xG b
 |[],b=>by show xG b=0+xG b;omega
 |x::a,b=>by show x+xG (a++b)=x+xG a+xG b;rw[vj a b];omega
def MJ(w:jr)(k:Nat):Bool:=((w.ts[k]?).bind fK.o).isSome
def IS{k:Nat}:MJ w k=true↔∃t x,w.ts[k]?=some t/\t.o=some x:=by
 unfold MJ;cases h:w.ts[k]? with
 |none=>simp
 |some t=>
  show(t.o).isSome=true↔_;rw[Uc];constructor
  .rintro⟨x,hx⟩;exact⟨t,x,rfl,hx⟩
  .rintro⟨t',x,h',hx⟩;cases h';exact⟨x,hx⟩
theorem oH{b:Int}:∀(xs:List cA) (s:cA) (z:Int),(∀x∈xs,x.2∣b)->s.1*b=z*s.2->(xs.foldl un s).1*b=(z+xG (xs.map λx=>x.1*(b / x.2)))*(xs.foldl un s).2
 |[],s,z,_,h=>by show s.1*b=(z+0)*s.2;rw[Int.add_zero];exact h
 |x::xs,s,z,hd,h=>by
  have hx:b / x.2*x.2=b:=UI (hd x Q3);have e:(un s x).1*b=(z+x.1*(b / x.2))*(un s x).2:=by
   show(s.1*x.2+x.1*s.2)*b=(z+x.1*(b / x.2))*(s.2*x.2);generalize b / x.2=q at *;have e1:(s.1*x.2+x.1*s.2)*b=(s.1*b)*x.2+x.1*s.2*b:=by grind
   rw[e1,h];rw[←hx]
   grind
  have:=oH xs (un s x) _ (λy hy=>hd y (QX _ hy)) e;show(xs.foldl un (un s x)).1*b=(z+(x.1*(b / x.2)+xG (xs.map λx=>x.1*(b / x.2))))*_;rw[this,Int.add_assoc];rfl
def JY(i:Nat)(ρ:Ev)(d:D):av Fl:=if kq d=true then .ok (.nx (ρ.set i (.sh d))) else .stuck
def Je:Bn i f ρ=(f (iH ρ)).bind (JY i ρ):=rfl
def Ey:aR (n+3) (bf t)=true:=by
 obtain⟨a,b,w,l,o⟩:=t;cases o<;>cases n<;>rfl
def kA(h1:c (iH ρ)=.ok (.bl true))(h2:s ρ=.ok (.nx ρ2)):ck c s (n+1) ρ=ck c s n ρ2:=by
 conv=>lhs;unfold ck
 rw[h1,h2];rfl
def iw(h1:c (iH ρ)=.ok (.bl false)):ck c s (n+1) ρ=.ok (.nx ρ):=by
 conv=>lhs;unfold ck
 rw[h1];rfl
end Com
namespace DL
open PySem PySem.Spec PyProof.Rows L2
section
variable {X:Cx}{E:XK}{He η:Hp}{e a b:R1}{es:List R1}{f g:am}{fa:Ev->av (ac)}{pos:Pos}
def Ml(x y:D):av D:=match x,y with
 |.int i,.int j=>.ok (.int (if j<i then j else i))
 |_,_=>.stuck
def Mq:mn X E (λxs H Q=>∃i j,xs=[.int i,.int j]/\Q (.int (if j<i then j else i)) H) (m2 Ml):=Oo λx y v u H Ha Q hs r r' q=>by
 cases x with
 |int i=>
  cases y with|int j=>exact⟨i,j,by rw[ay.mp r,ay.mp r'],bU hs q (ri _)⟩| _=>exact q.elim
 |_=>exact q.elim
def zj:D->D->av D:=xf (λ_ j=>decide (0<=j)) λi j=>.int (i / 2 ^ j.toNat)
def GG(ha:DE X E a f)(hb:DE X E b g):DE X E (.BinOp a .RShift b pos) (aa f g zj):=pR Ll (wX (λ_ _ h=>of_decide_eq_true h) λ_ _ _ _=>ri _) ha hb
def pb(x y:D):av D:=match x,y with
 |.lst ds,.lst es=>if ds.length+es.length<=line then .ok (.lst (ds++es)) else .stuck
 |_,_=>.stuck
def AW(ha:DE X E a f)(hb:DE X E b g):DF X E (.BinOp a .Add b pos) (aa f g pb):=by
 refine⟨?_⟩;refine bo (Fp BH ha.o hb.o) λσ H Q z9=>?_;obtain⟨Ha,ρ,hs,hr,q⟩:=z9;refine⟨Ha,ρ,hs,hr,?_⟩
 unfold aa at q;cases e1:f ρ with
 |stuck|exn x=>rw[e1]at q;exact q
 |ok x=>
  rw[e1]at q;intro v H1 H01 g1 r1;refine⟨H01,ρ,g1.sub,hr.mono g1.z,?_⟩;cases e2:g ρ with
  |stuck=>simp only[av.bind,e2]at q|exn y=>simp only[av.bind,e2]at q;exact λC ox H' Ha' g' ex=>q C ox H' Ha' (g1.trans g') ex
  |ok y=>
   simp only[av.bind,e2]at q;intro u H2 H02 g2 r2;cases x with
   |lst ds=>
    cases y with
    |lst es=>
     by_cases h:ds.length+es.length<=line
     .simp only[pb,if_pos h]at q
      obtain⟨l,vs,rfl,h1,h2⟩:=aB.mp (r1.mono g2.z);obtain⟨m,us,rfl,k1,k2⟩:=aB.mp r2;refine⟨l,m,vs,us,rfl,rfl,aE.sqL g2.sub h1,aE.sqL g2.sub k1,by rw[←h2.length,←k2.length];exact ft h,λp hp=>?_⟩;have sm:aE H2 (upd H2 p (.lst (vs++us))):=λb o eb=>by rw[aF (by intro z;subst z;rw[hp]at eb;cases eb)];exact eb
      refine q p (vs++us) _ H02 ⟨(g1.s.trans g2.s).trans sm,g1.z.trans g2.z,g2.sub.trans sm,(g1.trans g2).nw⟩ ((g1.s.trans g2.s).free hp) ?_ aL (h2.app k2);cases qq:H02 p with|none=>rfl|some o=>have:=g2.sub _ _ qq;rw[hp]at this;cases this
     .simp only[pb,if_neg h]at q
    |_=>simp only[pb]at q
   |_=>simp only[pb]at q
end
end DL
namespace Cod
open PySem L2 DL Com
noncomputable def iq:bi :=
 (aq (wJ 2 (ao ax cH))
 (aq (aJ 3 (ao (af (ae 0) ax) (m1 vc)))
 (aq (aJ 4 (aa (aa (aa (ae 0) (dC (.int 2147483647)) cQ) (dC (.int 48271)) bE) (dC (.int 2147483647)) cQ))
 (aq (x9 (ao (af (ae 1) ax) (m1 dP)) (bF 5)
 (aq (cM (aa (ao (af (ae 0) ax) (m1 vc)) (aa (dC (.int 10)) (dC (.int 18)) kr) Mm)
 (aq (c6 2 (aa (ae 3) (aa (ae 1) (ae 5) aC) cQ))
 (aq (aJ 3 (aa (ae 3) (aa (ae 1) (ae 5) aC) l3))
 ak))
 (aq (aJ 4 (aa (aa (aa (aa (aa (ae 4) (ae 4) bE) (aa (dC (.int 69621)) (ae 4) bE) bz) (aa (dC (.int 7919)) (ae 5) bE) bz) (dC (.int 1000003)) bz) (dC (.int 2147483647)) cQ))
 (aq (c6 2 (aa (aa (aa (ae 4) (dC (.int 39373)) bE) (dC (.int 2147483629)) cQ) (aa (ae 1) (ae 5) aC) cQ))
 ak)))
 ak))
 (aq (aW (ae 2))
 ak)))))
def aD:ac->av D:=br 6 iq
def JM:kz<B9:=by rw[G5];exact Q4 (show kz<2 ^ 200 by decide) (Sy (by decide) (by decide))
def abs_ok:vc (.int c)=.ok (.int (c.natAbs:Int)):=by
 show av.ok (D.int (if c<0 then -c else c))=_
 congr 2
 split<;>omega
def draws_ok(c:Int)(sz:List Int)(hp:∀s∈sz,0<s/\s<=(kz:Int))(hn:sz.length<=900):∃vs,aD [.int c,.lst (sz.map D.int)]=.ok (.lst (vs.map D.int))/\Drawn sz vs:=by
 have hmix0:=eT (a:=c.fmod 2147483647*48271) (b:=2147483647) (by decide);have hcm:=eT (a:=c) (b:=2147483647) (by decide);obtain⟨ρ',hl,vs,hv,hb,lf,mx,x5,rfl,_⟩:=BV (i:=5) (n:=sz.length)
  (ρ:=[.sh (.int c),.sh (.lst (sz.map D.int)),.ow (.lst []),.sh (.int (c.natAbs:Int)),.sh (.int ((c.fmod 2147483647*48271).fmod 2147483647)),.no])
  (body:=(aq (cM (aa (ao (af (ae 0) ax) (m1 vc)) (aa (dC (.int 10)) (dC (.int 18)) kr) Mm)
 (aq (c6 2 (aa (ae 3) (aa (ae 1) (ae 5) aC) cQ))
 (aq (aJ 3 (aa (ae 3) (aa (ae 1) (ae 5) aC) l3))
 ak))
 (aq (aJ 4 (aa (aa (aa (aa (aa (ae 4) (ae 4) bE) (aa (dC (.int 69621)) (ae 4) bE) bz) (aa (dC (.int 7919)) (ae 5) bE) bz) (dC (.int 1000003)) bz) (dC (.int 2147483647)) cQ))
 (aq (c6 2 (aa (aa (aa (ae 4) (dC (.int 39373)) bE) (dC (.int 2147483629)) cQ) (aa (ae 1) (ae 5) aC) cQ))
 ak)))
 ak))
  (λk ρ=>∃vs:List Int,vs.length=k/\(∀(i:Nat) (v s:Int),vs[i]?=some v->sz[i]?=some s->0<=v/\v<s)/\∃(lf mx:Int) (x5:Sl),ρ=[.sh (.int c),.sh (.lst (sz.map D.int)),.ow (.lst (vs.map D.int)),.sh (.int lf),.sh (.int mx),x5]/\0<=mx/\mx<2147483647) (by
   rintro k hk ρ ⟨vs,rfl,hb,lf,mx,x5,rfl,m0,m1_⟩;have hs:=hp sz[vs.length] (Sq hk);have hix:aC (.lst (sz.map D.int)) (.int (vs.length:Int))=.ok (.int sz[vs.length]):=eY (by rw[Q7,QW hk];rfl);have hsz0:(sz[vs.length]==0)=false:=beq_eq_false_iff_ne.mpr (by omega);have hap:decide ((vs.map D.int).length<=999)=true:=decide_eq_true (by rw[Q0];omega);have hbn:∀v:Int,0<=v->v<sz[vs.length]->∀(i:Nat) (u s:Int),(vs++[v])[i]?=some u->sz[i]?=some s->0<=u/\u<s:=λv v0 v1 i u s e1 e2=>by
    by_cases hi:i<vs.length
    .rw[RF hi]at e1;exact hb i u s e1 e2
    .have:i=vs.length:=by
      have:=(Q5.mp e1).1;simp at this;omega
     subst this;rw[RN (RG _),Nat.sub_self]at e1;cases e1;rw[QW hk]at e2;cases e2;exact⟨v0,v1⟩
   by_cases hc:(1000000000000000000:Int)<=(c.natAbs:Int)
   .have f:=eT (a:=lf) (b:=sz[vs.length]) hs.1
    have hdiv:gJ lf sz[vs.length]=true:=Kg (by omega) (Rp (show sz[vs.length].natAbs<=kz by omega) JM);refine⟨[.sh (.int c),.sh (.lst (sz.map D.int)),.ow (.lst ((vs++[lf.fmod sz[vs.length]]).map D.int)),.sh (.int (lf.fdiv sz[vs.length])),.sh (.int mx),.sh (.int (vs.length:Int))],?_,vs++[lf.fmod sz[vs.length]],by simp,hbn _ f.1 f.2,_,_,_,rfl,m0,m1_⟩;open_line with[no_df,abs_ok,iL,decide_eq_true hc,decide_eq_true (show(c.natAbs:Int)≥1000000000000000000 from hc),hix,hsz0,dH hap,tR hdiv,RX]
   .have f1:=eT (a:=mx*mx+69621*mx+7919*(vs.length:Int)+1000003) (b:=2147483647) (by decide)
    generalize hmx:(mx*mx+69621*mx+7919*(vs.length:Int)+1000003).fmod 2147483647=my at f1;have f:=eT (a:=(my*39373).fmod 2147483629) (b:=sz[vs.length]) hs.1;have o1:cU mx mx=true:=jA (by omega) (by omega);have o2:cU 69621 mx=true:=jA (by decide) (by omega);have o3:cU 7919 (vs.length:Int)=true:=jA (by decide) (by omega);have o4:cU my 39373=true:=jA (by omega) (by decide);refine⟨[.sh (.int c),.sh (.lst (sz.map D.int)),.ow (.lst ((vs++[((my*39373).fmod 2147483629).fmod sz[vs.length]]).map D.int)),.sh (.int lf),.sh (.int my),.sh (.int (vs.length:Int))],?_,vs++[((my*39373).fmod 2147483629).fmod sz[vs.length]],by simp,hbn _ f.1 f.2,_,_,_,rfl,f1.1,f1.2⟩;open_line with[no_df,abs_ok,iL,decide_eq_false hc,decide_eq_false (show ¬(c.natAbs:Int)≥1000000000000000000 from hc),cS o1,cS o2,cS o3,hmx,cS o4,hix,hsz0,dH hap,RX]) ⟨[],rfl,λi v s e=>(by simp at e),_,_,_,rfl,hmix0.1,hmix0.2⟩
 refine⟨vs,?_,hv,hb⟩;have o0:cU (c.fmod 2147483647) 48271=true:=jA (by omega) (by decide);open_line with[no_df,aD,iq,abs_ok,cS o0,Q0,nX,yN (show sz.length<=1000000 by omega),hl]
noncomputable def uG:bi :=
 (aq (aJ 2 (ao (af (ae 0) ax) (m1 vc)))
 (aq (aJ 3 (ae 1))
 (aq (gf (m7 3) (aa (ae 3) (dC (.int 0)) gO)
 (aq (CI 2 3 (af (ae 3) (af (aa (ae 2) (ae 3) cQ) ax)))
 ak))
 (aq (aW (ao (af (aa (ae 0) (ae 2) l3) (af (aa (ae 1) (ae 2) l3) ax)) c5))
 ak))))
def bJ:ac->av D:=br 4 uG
theorem yz{A B:Sl}:∀(n:Nat) (a b:Int),0<=a->0<=b->b.natAbs<n->ck (aa (ae 3) (dC (.int 0)) gO) (aq (CI 2 3 (af (ae 3) (af (aa (ae 2) (ae 3) cQ) ax))) ak) n [A,B,.sh (.int a),.sh (.int b)]=.ok (.nx [A,B,.sh (.int (RD a b:Int)),.sh (.int 0)])
 |0,a,b,_,_,h=>absurd h (Nat.not_lt_zero _)
 |n+1,a,b,ha,hb,h=>by
  by_cases h0:b=0
  .subst h0
   have hc:(aa (ae 3) (dC (.int 0)) gO) (iH [A,B,.sh (.int a),.sh (.int 0)])=.ok (.bl false):=by
    cases A<;>cases B<;>rfl
   rw[iw hc];have:((RD a 0:Nat):Int)=a:=by rw[Int.gcd_zero_right];omega
   rw[this]
  .have hc:(aa (ae 3) (dC (.int 0)) gO) (iH [A,B,.sh (.int a),.sh (.int b)])=.ok (.bl true):=by
    have:(b==0)=false:=beq_eq_false_iff_ne.mpr h0;cases A<;>cases B<;>open_line with[this]
   have f:=eT (a:=a) (b:=b) (by omega);have hb0:(b==0)=false:=beq_eq_false_iff_ne.mpr h0;rw[kA (ρ2:=[A,B,.sh (.int b),.sh (.int (a.fmod b))]) hc ?_,yz n b (a.fmod b) (by omega) f.1 (by omega)]
   .rw[yL]
   .cases A<;>cases B<;>open_line with[hb0]
def low_ok(hb:0<b)(h1:a.natAbs<qU)(h2:b.natAbs<qU):bJ [.int a,.int b]=.ok (fr (c9 a b)):=by
 have hg:0<(RD a b:Int):=qJ (by omega);have hgn:(RD (a.natAbs:Int) b:Int)=(RD a b:Int):=by
  congr 1
 have hl:=yz (A:=.sh (.int a)) (B:=.sh (.int b)) (b.natAbs+1) (a.natAbs:Int) b (by omega) (by omega) (TC _);rw[hgn]at hl;have hwh:∀(c:am) (s:bi),gf (m7 3) c s [.sh (.int a),.sh (.int b),.sh (.int (a.natAbs:Int)),.sh (.int b)]=ck c s (b.natAbs+1) [.sh (.int a),.sh (.int b),.sh (.int (a.natAbs:Int)),.sh (.int b)]:=λ_ _=>rfl;have d1:(RD a b:Int)∣a:=UA ..;have d2:(RD a b:Int)∣b:=Ut ..;have q1:gJ a (RD a b:Int)=true:=ud (by omega) h1;have q2:gJ b (RD a b:Int)=true:=ud (by omega) h2;have e1:a.fdiv (RD a b:Int)=a / (RD a b:Int):=jD hg;have e2:b.fdiv (RD a b:Int)=b / (RD a b:Int):=jD hg;open_line with[bJ,uG,abs_ok,hwh,hl,tR q1,tR q2,e1,e2]
 rfl
noncomputable def dS:bi :=
 (aq (aJ 1 (aa (ao (af (dC (.int 0)) (af (aa (aa (ae 0) (dC (.int 1)) aC) (dC (.int 7)) cQ) (af (aa (aa (ae 0) (dC (.int 1)) aC) (dC (.int 60)) cQ) (af (aa (ae 0) (dC (.int 1)) aC) (af (aa (aa (ae 0) (dC (.int 1)) aC) (dC (.int 1000)) cQ) ax))))) cH) (aa (ae 0) (dC (.int 0)) aC) aC))
 (aq (aJ 2 (aa (ao (af (dC (.int 1)) (af (dC (.int 1)) (af (aa (dC (.int 1)) (aa (ae 0) (dC (.int 2)) aC) bz) (af (dC (.int 1)) (af (aa (dC (.int 1)) (aa (aa (ae 0) (dC (.int 2)) aC) (dC (.int 4)) cQ) bz) ax))))) cH) (aa (ae 0) (dC (.int 0)) aC) aC))
 (aq (aW (ao (af (ae 1) (af (ae 2) ax)) bJ))
 ak)))
def aA:ac->av D:=br 3 dS
def fraction_ok(hw:0<=w/\w<5)(ha:0<=a/\a<1000000000000000000)(hb:0<=b/\b<30):∃x:cA,aA [.lst [.int w,.int a,.int b]]=.ok (fr x)/\aU x/\0<=x.1:=by
 have hN:(1000000000000000000000:Int)<(kz:Int):=by decide
 have f7:=eT (a:=a) (b:=7) (by decide);have f60:=eT (a:=a) (b:=60) (by decide);have f1000:=eT (a:=a) (b:=1000) (by decide);have f4:=eT (a:=b) (b:=4) (by decide);obtain⟨p,q,hp,hq,i1,i2⟩:∃p q:Int,(0<=p/\p<1000000000000000000)/\(1<=q/\q<1000)/\aC (.lst [.int 0,.int (a.fmod 7),.int (a.fmod 60),.int a,.int (a.fmod 1000)]) (.int w)=.ok (.int p)/\aC (.lst [.int 1,.int 1,.int (1+b),.int 1,.int (1+b.fmod 4)]) (.int w)=.ok (.int q):=by
  have:w=0∨w=1∨w=2∨w=3∨w=4:=by omega
  rcases this with rfl|rfl|rfl|rfl|rfl
  .exact⟨0,1,by decide,by decide,rfl,rfl⟩
  .exact⟨a.fmod 7,1,by omega,by decide,rfl,rfl⟩
  .exact⟨a.fmod 60,1+b,by omega,by omega,rfl,rfl⟩
  .exact⟨a,1,by omega,by decide,rfl,rfl⟩
  .exact⟨a.fmod 1000,1+b.fmod 4,by omega,by omega,rfl,rfl⟩
 have hlo:=low_ok (a:=p) (b:=q) (by omega) (II (by omega) (by omega)) (II (by omega) (by omega));refine⟨c9 p q,?_,NV (by omega) (by omega) (by omega),rX (by omega) (by omega)⟩;open_line with[aA,dS,i1,i2,hlo]
noncomputable def ot:bi :=
 (aq (aJ 2 (dC (.str "abcdefghijklmnopqrstuvwxyz")))
 (aq (wJ 3 (ao ax cH))
 (aq (x9 (ae 1) (bF 4)
 (aq (aJ 5 (gK (ae 0) (cD (aa (dC (.int 10)) (ae 4) bE)) (cD (aa (aa (dC (.int 10)) (ae 4) bE) (dC (.int 10)) bz))))
 (aq (aJ 6 (zl (dC (.str "")) (af (cE 1 [2,5] (xV (aa (dC (.int 1)) (aa (ae 5) (dC (.int 0)) aC) bz)) (bF 0) mYes (aa (ae 1) (aa (ae 2) (aa (dC (.int 2)) (ae 0) bz) aC) aC)) ax)))
 (aq (cM (dZ (aa (ae 4) (dC (.int 0)) zK) (aa (aa (ae 5) (dC (.int 1)) aC) (dC (.int 0)) fJ))
 (aq (Bn 6 (aa (gK (aa (ae 3) (aa (ae 4) (dC (.int 1)) ik) aC) fD (cD (aa (ae 5) (dC (.int 0)) aC))) (aa (ae 2) (aa (ae 5) (dC (.int 2)) aC) aC) bz))
 ak)
 ak)
 (aq (aJ 7 (aa (ae 5) (dC (.int 9)) aC))
 (aq (gf (λ_=>30) (aa (ae 6) (ae 3) pS)
 (aq (aJ 7 (aa (ae 7) (dC (.int 1)) bz))
 (aq (aJ 6 (aa (gK (ae 6) fD (cD (aQ (dC (.int 1)) jF))) (aa (ae 2) (aa (ae 7) (dC (.int 26)) cQ) aC) bz))
 ak)))
 (aq (c6 3 (ae 6))
 ak)))))))
 (aq (aW (ae 3))
 ak))))
def dG:ac->av D:=br 8 ot
def S(cs:ce):Ro:=⟨cs.toArray⟩
def Km(h:S a=S b):a=b:=by
 have:=congrArg (λs:Ro=>s.cps.toList) h;simpa[S] using this
def oA(a:ce):(S a).length=a.length:=Mo a
structure uN (cs:ce):Prop where
 l1:1<=cs.length
 l8:cs.length<=8
 ab:∀x∈cs,sJ x=true
def uN.nameB(h:uN cs):Com.nameB (S cs)=true:=by
 unfold Com.nameB;rw[oA];simp only[Rn,decide_eq_true_eq];exact⟨h.l1,h.l8,Ru.mpr λx hx=>h.ab x (by simpa[S] using hx)⟩
def iJ(css:List (ce)):ac:=css.map λcs=>D.str (S cs)
def sI:pS (.str (S cs)) (.lst (iJ css))=.ok (.bl (decide (cs∈css))):=by
 have e:iJ css=(css.map S).map D.str:=by unfold iJ;rw[RV];rfl
 rw[e,lK]
 congr 2
 apply decide_eq_decide.mpr;constructor
 .intro h
  obtain⟨b,hb,hs⟩:=Rl.mp h;rw[←Km hs];exact hb
 .exact λh=>Rl.mpr ⟨cs,h,rfl⟩
def Ju(h:1<=cs.length)(h8:cs.length<=1000):CD (.str (S cs)) none (some (-1))=.ok (.str (S cs.dropLast)):=by
 rw[Bm (by rw[oA];exact h8)]
 congr 2
 have e1:Uo (S cs) none (some (-1))=Uo (S cs) none (some (-1+((S cs).length:Int))):=StrLaws.sliceText_neg_hi (S cs) none (by decide) (by rw[oA];omega);rw[e1,oA,show(-1+(cs.length:Int))=((cs.length-1:Nat):Int) by omega,show S cs=⟨cs.toArray⟩ from rfl,qZ (by omega)];rw[List.dropLast_eq_take];rfl
def iR(pre:ce)(at_:Int)(i:Nat):ce:=pre++[97+((at_+(i:Int)).fmod 26).toNat]
def Jz(hl:pre.length<=7)(hp:∀x∈pre,sJ x=true):uN (iR pre at_ i):=by
 have f:=eT (a:=at_+(i:Int)) (b:=26) (by decide);refine⟨by unfold iR;simp,by unfold iR;simp;omega,λx hx=>?_⟩;unfold iR at hx;rw[Rv]at hx;rcases hx with hx|hx
 .exact hp x hx
 .have:x=97+((at_+(i:Int)).fmod 26).toNat:=by simpa using hx
  rw[this];exact A7 _ (by omega)
theorem nodup_le{α:Type}[DecidableEq α]:∀{l m:List α},l.Nodup->(∀x∈l,x∈m)->l.length<=m.length
 |[],_,_,_=>Uq _
 |a::l,m,nd,h=>by
  rw[RK]at nd;have ha:=h a Q3;have:=nodup_le (l:=l) (m:=m.erase a) nd.2 λx hx=>by
   have hne:x≠a:=λz=>nd.1 (z▸hx);exact(List.mem_erase_of_ne hne).mpr (h x (QX _ hx))
  rw[List.length_erase_of_mem ha]at this;have:=List.length_pos_of_mem ha;simp only[Rt];omega
def Dv{css:List (ce)}(h6:css.length<=6):∃j,j<=6/\iR pre at_ (1+j)∉css:=by
 refine Wa λhno=>?_;have hall:∀j,j<=6->iR pre at_ (1+j)∈css:=λj hj=>Wa λhn=>hno ⟨j,hj,hn⟩;have nd:((R4 7).map λj=>iR pre at_ (1+j)).Nodup:=by
  rw[Th,VF];refine Wh ?_ Wr;intro k j hk hj hlt heq;rw[Ti]at hk hj;have h1:=List.append_inj_right heq rfl;have h2:97+((at_+((1+k:Nat):Int)).fmod 26).toNat=97+((at_+((1+j:Nat):Int)).fmod 26).toNat:=by simpa using h1
  rw[US _ (by decide),US _ (by decide)]at h2;omega
 have:=nodup_le nd (m:=css) λx hx=>by
  obtain⟨j,hj,rfl⟩:=Rl.mp hx;rw[Ti]at hj;exact hall j (by omega)
 simp at this;omega
def BK(h1:1<=cs.length)(h8:cs.length<=8):(aq (aJ 7 (aa (ae 7) (dC (.int 1)) bz))
 (aq (aJ 6 (aa (gK (ae 6) fD (cD (aQ (dC (.int 1)) jF))) (aa (ae 2) (aa (ae 7) (dC (.int 26)) cQ) aC) bz))
 ak)) [.sh a,.sh b,.sh (.str "abcdefghijklmnopqrstuvwxyz"),.ow (.lst (iJ css)),.sh c,.sh e,.sh (.str (S cs)),.sh (.int at_)]=.ok (.nx [.sh a,.sh b,.sh (.str "abcdefghijklmnopqrstuvwxyz"),.ow (.lst (iJ css)),.sh c,.sh e,.sh (.str (S (cs.dropLast++[97+((at_+1).fmod 26).toNat]))),.sh (.int (at_+1))]):=by
 have f:=eT (a:=at_+1) (b:=26) (by decide);have hs:=Ju h1 (by omega);have hi:=A6 f.1 f.2;have hadd:bz (.str (S cs.dropLast)) (.str ⟨#[97+((at_+1).fmod 26).toNat]⟩)=.ok (.str (S (cs.dropLast++[97+((at_+1).fmod 26).toNat]))):=by
  have hln:(S cs.dropLast).length+(⟨#[97+((at_+1).fmod 26).toNat]⟩:Ro).length<=1000:=by
   rw[oA,WM];show cs.length-1+1<=1000;omega
  rw[zy hln];exact congrArg (λz=>av.ok (D.str z)) (vW cs.dropLast [97+((at_+1).fmod 26).toNat])
 open_line with[hs,hi,hadd]
def FN{a b c e:D}{css:List (ce)}{pre:ce}{at_:Int}(hl:pre.length<=7):∀(d i fuel:Nat),iR pre at_ (i+d)∉css->d<fuel->∃i',ck (aa (ae 6) (ae 3) pS)
 (aq (aJ 7 (aa (ae 7) (dC (.int 1)) bz))
 (aq (aJ 6 (aa (gK (ae 6) fD (cD (aQ (dC (.int 1)) jF))) (aa (ae 2) (aa (ae 7) (dC (.int 26)) cQ) aC) bz))
 ak)) fuel [.sh a,.sh b,.sh (.str "abcdefghijklmnopqrstuvwxyz"),.ow (.lst (iJ css)),.sh c,.sh e,.sh (.str (S (iR pre at_ i))),.sh (.int (at_+(i:Int)))]=.ok (.nx [.sh a,.sh b,.sh (.str "abcdefghijklmnopqrstuvwxyz"),.ow (.lst (iJ css)),.sh c,.sh e,.sh (.str (S (iR pre at_ i'))),.sh (.int (at_+(i':Int)))])/\iR pre at_ i'∉css:=by
 intro d
 induction d with
 |zero=>
  intro i fuel hn hf;obtain⟨f,rfl⟩:∃f,fuel=f+1:=⟨fuel-1,by omega⟩
  have hn:iR pre at_ i∉css:=hn;refine⟨i,?_,hn⟩;rw[iw];have:=sI (css:=css) (cs:=iR pre at_ i);rw[decide_eq_false hn]at this;open_line with[this]
 |succ d ih=>
  intro i fuel hn hf;obtain⟨f,rfl⟩:∃f,fuel=f+1:=⟨fuel-1,by omega⟩
  by_cases hm:iR pre at_ i∈css
  .obtain⟨i',h1,h2⟩:=ih (i+1) f (by rw[show i+1+d=i+(d+1) by omega];exact hn) (by omega)
   refine⟨i',?_,h2⟩;have hst:=BK (a:=a) (b:=b) (c:=c) (e:=e) (css:=css) (cs:=iR pre at_ i) (at_:=at_+(i:Int)) (by unfold iR;simp) (by unfold iR;simp;omega);have e1:(iR pre at_ i).dropLast++[97+((at_+(i:Int)+1).fmod 26).toNat]=iR pre at_ (i+1):=by
    unfold iR;rw[List.dropLast_concat,show at_+(i:Int)+1=at_+((i+1:Nat):Int) by omega]
   rw[e1,show at_+(i:Int)+1=at_+((i+1:Nat):Int) by omega]at hst;rw[kA ?_ hst]
   .exact h1
   .have:=sI (css:=css) (cs:=iR pre at_ i)
    rw[decide_eq_true hm]at this;open_line with[this]
  .refine⟨i,?_,hm⟩
   rw[iw];have:=sI (css:=css) (cs:=iR pre at_ i);rw[decide_eq_false hm]at this;open_line with[this]
def BJ(h6:css.length<=6)(h:uN cs):∃cs' at',ck (aa (ae 6) (ae 3) pS)
 (aq (aJ 7 (aa (ae 7) (dC (.int 1)) bz))
 (aq (aJ 6 (aa (gK (ae 6) fD (cD (aQ (dC (.int 1)) jF))) (aa (ae 2) (aa (ae 7) (dC (.int 26)) cQ) aC) bz))
 ak)) 30 [.sh a,.sh b,.sh (.str "abcdefghijklmnopqrstuvwxyz"),.ow (.lst (iJ css)),.sh c,.sh e,.sh (.str (S cs)),.sh (.int at_)]=.ok (.nx [.sh a,.sh b,.sh (.str "abcdefghijklmnopqrstuvwxyz"),.ow (.lst (iJ css)),.sh c,.sh e,.sh (.str (S cs')),.sh (.int at')])/\uN cs'/\cs'∉css:=by
 by_cases hm:cs∈css
 .have hpl:cs.dropLast.length<=7:=by rw[WM];have:=h.l8;omega
  obtain⟨j,hj,hn⟩:=Dv (pre:=cs.dropLast) (at_:=at_) (css:=css) h6;obtain⟨i',h1,h2⟩:=FN (a:=a) (b:=b) (c:=c) (e:=e) hpl j 1 29 hn (by omega);refine⟨iR cs.dropLast at_ i',at_+(i':Int),?_,Jz hpl λx hx=>h.ab x (List.dropLast_subset _ hx),h2⟩;have hst:=BK (a:=a) (b:=b) (c:=c) (e:=e) (css:=css) (cs:=cs) (at_:=at_) h.l1 h.l8;rw[kA ?_ hst]
  .exact h1
  .have:=sI (css:=css) (cs:=cs)
   rw[decide_eq_true hm]at this;open_line with[this]
 .refine⟨cs,at_,?_,h,hm⟩
  rw[iw];have:=sI (css:=css) (cs:=cs);rw[decide_eq_false hm]at this;open_line with[this]
def MK:List Int:=[8,3,26,26,26,26,26,26,26,26,8,3,26,26,26,26,26,26,26,26,8,3,26,26,26,26,26,26,26,26,8,3,26,26,26,26,26,26,26,26,8,3,26,26,26,26,26,26,26,26,8,3,26,26,26,26,26,26,26,26,8,3,26,26,26,26,26,26,26,26]
def Md:∀k,k<7->∀j,j<10->MK[10*k+j]?=some (if j=0 then 8 else if j=1 then 3 else 26):=by decide
structure JJ (es:List Int):Prop where
 len:es.length=10
 e0:∃v,es[0]?=some v/\0<=v/\v<8
 e1:∃v,es[1]?=some v/\0<=v/\v<3
 el:∀j,2<=j->j<10->∃v,es[j]?=some v/\0<=v/\v<26
def KA(W:Drawn MK ds){k:Nat}(hk:k<7):JJ ((ds.drop (10*k)).take 10):=by
 have hl:ds.length=70:=W.len;have at_:∀j,j<10->∃v,((ds.drop (10*k)).take 10)[j]?=some v/\0<=v/\v<(if j=0 then 8 else if j=1 then 3 else 26:Int):=λj hj=>by
  rw[S7 hj,TM];obtain⟨v,h1,h2,_⟩:=W.at (10*k+j) (Md k hk j hj);exact⟨v,h1,h2.1,h2.2⟩
 refine⟨by rw[Tg,TF];omega,?_,?_,λj h2 h10=>?_⟩
 .have:=at_ 0 (by decide);simpa using this
 .have:=at_ 1 (by decide);simpa using this
 .obtain⟨v,h⟩:=at_ j h10
  rw[if_neg (by omega),if_neg (by omega)]at h;exact⟨v,h⟩
def JJ.ix{es:List Int}{j:Nat}(h:es[j]?=some v):aC (.lst (es.map D.int)) (.int (j:Int))=.ok (.int v):=eY (by rw[Q7,h];rfl)
def wz(d:D):av (ac):=match d with
 |.int j=>if -4611686018427387904<=j/\j<4611686018427387904 then .ok (intsFrom 0 j.toNat) else .stuck
 |_=>.stuck
def sU:xV f ρ=(f ρ).bind wz:=rfl
def CC{k:Nat}(h:k<=1000000):wz (.int (k:Int))=.ok (intsFrom 0 k):=by
 unfold wz;dsimp only;rw[if_pos ⟨by omega,by omega⟩,Sw]
def first(es:List Int)(m:Nat):ce:=(R4 m).map λj=>97+((es[2+j]?).getD 0).toNat
def Gq(T:JJ es)(h1:1<=m)(h8:m<=8):uN (first es m):=by
 refine⟨by unfold first;simpa using h1,by unfold first;simpa using h8,λx hx=>?_⟩;unfold first at hx
 obtain⟨j,hj,rfl⟩:=Rl.mp hx;rw[Ti]at hj;obtain⟨v,e,b⟩:=T.el (2+j) (by omega) (by omega);rw[e,Tz];exact A7 _ (by omega)
def AU(T:JJ es)(h8:m<=8){a b n k:D}:dQ 1 [2,5] (bF 0) mYes (aa (ae 1) (aa (ae 2) (aa (dC (.int 2)) (ae 0) bz) aC) aC) [.sh a,.sh b,.sh (.str "abcdefghijklmnopqrstuvwxyz"),.ow n,.sh k,.sh (.lst (es.map D.int)),x6,x7] (intsFrom 0 m)=.ok (.lst ((first es m).map λc=>D.str ⟨#[c]⟩)):=by
 have hlen:(DL.intsFrom 0 m).length=m:=by unfold DL.intsFrom;simp
 rw[kZ (F:=λd=>match d with|.int j=>.str ⟨#[97+((es[2+j.toNat]?).getD 0).toNat]⟩|d=>d) (by rw[hlen];omega)]
 .congr 2
  unfold DL.intsFrom first
  rw[RV,RV];apply Tx;intro j _;show D.str ⟨#[97+((es[2+(0+(j:Int)).toNat]?).getD 0).toNat]⟩=_;rw[show(0+(j:Int)).toNat=j by omega];rfl
 .intro d hd
  unfold DL.intsFrom at hd;obtain⟨j,hj,rfl⟩:=Rl.mp hd;rw[Ti]at hj;obtain⟨v,e,hb⟩:=T.el (2+j) (by omega) (by omega);refine⟨[.sh (.int (0+(j:Int))),.sh (.str "abcdefghijklmnopqrstuvwxyz"),.sh (.lst (es.map D.int))],rfl,rfl,?_⟩;have hix:aC (.lst (es.map D.int)) (.int (2+(0+(j:Int))))=.ok (.int v):=by
   rw[show(2+(0+(j:Int)))=((2+j:Nat):Int) by omega];exact JJ.ix e
  open_line with[hix,A6 hb.1 hb.2]
  rw[show(0+(j:Int)).toNat=j by omega,e];rfl
def zZ(h:(z.length:Int)<=j):Uo z none (some j)=Uo z none (some (z.length:Int)):=by
 show VB z none (some j)=VB z none (some (z.length:Int));have e:UP none (some j) 1 z.length=UP none (some (z.length:Int)) 1 z.length:=by
  have a:¬j<0:=by omega
  have b:¬((z.length:Int)<0):=by omega
  have c:min j (z.length:Int)=(z.length:Int):=by omega
  have d:min (z.length:Int) (z.length:Int)=(z.length:Int):=by omega
  simp[UP,a,b,c,d]
 unfold VB;rw[e]
def Ar{α:Type}{l:List α}{x:α}(h:l.Nodup)(hx:x∉l):(l++[x]).Nodup:=by
 rw[TZ];refine⟨h,by simp,λa ha b hb=>?_⟩;have:b=x:=by simpa using hb
 subst this;intro z;subst z;exact hx ha
set_option maxHeartbeats 1000000 in
def FO(W:Drawn MK ds){n:Nat}(hn:n<=7):∃css:List (ce),dG [.lst (ds.map D.int),.int (n:Int)]=.ok (.lst (iJ css))/\css.length=n/\css.Nodup/\∀cs∈css,uN cs:=by
 have hdl:ds.length=70:=W.len;obtain⟨ρ',hl,css,hc,hnd,hnm,x4,x5,x6,x7,rfl⟩:=BV (i:=4) (n:=n)
  (ρ:=[.sh (.lst (ds.map D.int)),.sh (.int (n:Int)),.sh (.str "abcdefghijklmnopqrstuvwxyz"),.ow (.lst []),.no,.no,.no,.no])
  (body:=(aq (aJ 5 (gK (ae 0) (cD (aa (dC (.int 10)) (ae 4) bE)) (cD (aa (aa (dC (.int 10)) (ae 4) bE) (dC (.int 10)) bz))))
 (aq (aJ 6 (zl (dC (.str "")) (af (cE 1 [2,5] (xV (aa (dC (.int 1)) (aa (ae 5) (dC (.int 0)) aC) bz)) (bF 0) mYes (aa (ae 1) (aa (ae 2) (aa (dC (.int 2)) (ae 0) bz) aC) aC)) ax)))
 (aq (cM (dZ (aa (ae 4) (dC (.int 0)) zK) (aa (aa (ae 5) (dC (.int 1)) aC) (dC (.int 0)) fJ))
 (aq (Bn 6 (aa (gK (aa (ae 3) (aa (ae 4) (dC (.int 1)) ik) aC) fD (cD (aa (ae 5) (dC (.int 0)) aC))) (aa (ae 2) (aa (ae 5) (dC (.int 2)) aC) aC) bz))
 ak)
 ak)
 (aq (aJ 7 (aa (ae 5) (dC (.int 9)) aC))
 (aq (gf (λ_=>30) (aa (ae 6) (ae 3) pS)
 (aq (aJ 7 (aa (ae 7) (dC (.int 1)) bz))
 (aq (aJ 6 (aa (gK (ae 6) fD (cD (aQ (dC (.int 1)) jF))) (aa (ae 2) (aa (ae 7) (dC (.int 26)) cQ) aC) bz))
 ak)))
 (aq (c6 3 (ae 6))
 ak)))))))
  (λk ρ=>∃css:List (ce),css.length=k/\css.Nodup/\(∀cs∈css,uN cs)/\∃x4 x5 x6 x7,ρ=[.sh (.lst (ds.map D.int)),.sh (.int (n:Int)),.sh (.str "abcdefghijklmnopqrstuvwxyz"),.ow (.lst (iJ css)),x4,x5,x6,x7]) (by
   rintro k hk ρ ⟨css,rfl,hnd,hnm,x4,x5,x6,x7,rfl⟩;have T:=KA W (k:=css.length) (by omega);generalize hes:(ds.drop (10*css.length)).take 10=es at T;have hcut:l4 (ds.map D.int) (some (10*(css.length:Int))) (some (10*(css.length:Int)+10))=es.map D.int:=by
    rw[zm (a:=10*css.length) (b:=10*css.length+10) (by omega) (by omega) (by omega) (by omega),show 10*css.length+10-10*css.length=10 by omega,hes]
   obtain⟨e0,g0,b0,b0'⟩:=T.e0;obtain⟨e1,g1,b1,b1'⟩:=T.e1;obtain⟨e2,g2,b2,b2'⟩:=T.el 2 (by decide) (by decide);obtain⟨e9,g9,b9,b9'⟩:=T.el 9 (by decide) (by decide);have i0:aC (.lst (es.map D.int)) (.int 0)=.ok (.int e0):=JJ.ix (j:=0) g0;have i1:aC (.lst (es.map D.int)) (.int 1)=.ok (.int e1):=JJ.ix (j:=1) g1;have i2:aC (.lst (es.map D.int)) (.int 2)=.ok (.int e2):=JJ.ix (j:=2) g2;have i9:aC (.lst (es.map D.int)) (.int 9)=.ok (.int e9):=JJ.ix (j:=9) g9;obtain⟨m,rfl⟩:=Sb b0;have hm1:cU 10 (css.length:Int)=true:=jA (by decide) (by omega);have hsrc:wz (.int (1+(m:Int)))=.ok (DL.intsFrom 0 (1+m)):=by
    rw[show(1+(m:Int))=((1+m:Nat):Int) by omega];exact CC (by omega)
   have hjoin:=AH (cs:=first es (1+m)) (by unfold first;simp;omega);have hF:=Gq T (m:=1+m) (by omega) (by omega);have hcomp:=λ(x6 x7:Sl)=>AU T (m:=1+m) (by omega) (a:=.lst (ds.map D.int)) (b:=.int (n:Int)) (n:=.lst (iJ css)) (k:=.int (css.length:Int)) (x6:=x6) (x7:=x7);have hwh:∀(c:am) (s:bi) (ρ:Ev),gf (λ_=>30) c s ρ=ck c s 30 ρ:=λ_ _ _=>rfl;have hap:decide ((iJ css).length<=999)=true:=decide_eq_true (by unfold iJ;rw[Q0];omega);have fin:∀cs,cs∉css->uN cs->(css++[cs]).Nodup/\∀c∈css++[cs],uN c:=λcs h1 h2=>⟨Ar hnd h1,λc hc=>by
    rw[Rv]at hc;rcases hc with hc|hc
    .exact hnm c hc
    .have:c=cs:=by simpa using hc
     subst this;exact h2⟩
   have hmp:∀cs,iJ (css++[cs])=iJ css++[.str (S cs)]:=λcs=>by unfold iJ;rw[RX];rfl
   have hS:∀cs:ce,(⟨cs.toArray⟩:Ro)=S cs:=λ_=>rfl;rw[hS]at hjoin;cases hcc:(decide ((css.length:Int) > 0)&&(e1==0)) with
   |false=>
    obtain⟨cs',at',hw,hN,hO⟩:=BJ (a:=.lst (ds.map D.int)) (b:=.int (n:Int)) (c:=.int (css.length:Int)) (e:=.lst (es.map D.int)) (css:=css) (cs:=first es (1+m)) (at_:=e9) (by omega) hF;refine⟨[.sh (.lst (ds.map D.int)),.sh (.int (n:Int)),.sh (.str "abcdefghijklmnopqrstuvwxyz"),.ow (.lst (iJ (css++[cs']))),.sh (.int (css.length:Int)),.sh (.lst (es.map D.int)),.sh (.str (S cs')),.sh (.int at')],?_,css++[cs'],by simp,(fin cs' hO hN).1,(fin cs' hO hN).2,_,_,_,_,rfl⟩;rw[hmp]
    by_cases hk0:(css.length:Int) > 0
    .have h10:(e1==0)=false:=by rw[decide_eq_true hk0]at hcc;simpa using hcc
     open_line with[no_df,cS hm1,hcut,i0,sU,hsrc,hcomp,hjoin,decide_eq_true hk0,i1,h10,i9,hwh,hw,dH hap]
    .open_line with[no_df,cS hm1,hcut,i0,sU,hsrc,hcomp,hjoin,decide_eq_false hk0,i9,hwh,hw,dH hap]
   |true=>
    rw[Rn,decide_eq_true_eq]at hcc;have hk0:=hcc.1;have hlast:css.length-1<css.length:=by omega
    have hpx:=hnm css[css.length-1] (Sq hlast);have hixn:aC (.lst (iJ css)) (.int ((css.length:Int)-1))=.ok (.str (S css[css.length-1])):=by
     rw[show((css.length:Int)-1)=((css.length-1:Nat):Int) by omega];exact eY (by unfold iJ;rw[Q7,QW hlast];rfl)
    generalize css[css.length-1]=pv at hixn hpx;have hsl:CD (.str (S pv)) none (some (m:Int))=.ok (.str (S (pv.take m))):=by
     rw[Bm (by rw[oA];have:=hpx.l8;omega)]
     by_cases hmm:m<=pv.length
     .exact congrArg (λz=>av.ok (D.str z)) (qZ hmm)
     .rw[zZ (by rw[oA];omega),oA]
      refine congrArg (λz=>av.ok (D.str z)) ((qZ (RG _)).trans ?_);rw[T8,U8 (by omega)];rfl
    have hadd:bz (.str (S (pv.take m))) (.str ⟨#[97+e2.toNat]⟩)=.ok (.str (S (pv.take m++[97+e2.toNat]))):=by
     have hln:(S (pv.take m)).length+(⟨#[97+e2.toNat]⟩:Ro).length<=1000:=by
      rw[oA,Tg];show min m pv.length+1<=1000;omega
     rw[zy hln];exact congrArg (λz=>av.ok (D.str z)) (vW (pv.take m) [97+e2.toNat])
    have hset:∀(i:Nat) (ρ:Ev) (z:Ro),JY i ρ (.str z)=.ok (.nx (ρ.set i (.sh (.str z)))):=λ_ _ _=>rfl;have hF2:uN (pv.take m++[97+e2.toNat]):=by
     refine⟨by simp,by simp;omega,λx hx=>?_⟩;rw[Rv]at hx;rcases hx with hx|hx
     .exact hpx.ab x (WK hx)
     .have:x=97+e2.toNat:=by simpa using hx
      rw[this];exact A7 _ (by omega)
    obtain⟨cs',at',hw,hN,hO⟩:=BJ (a:=.lst (ds.map D.int)) (b:=.int (n:Int)) (c:=.int (css.length:Int)) (e:=.lst (es.map D.int)) (css:=css) (cs:=pv.take m++[97+e2.toNat]) (at_:=e9) (by omega) hF2;refine⟨[.sh (.lst (ds.map D.int)),.sh (.int (n:Int)),.sh (.str "abcdefghijklmnopqrstuvwxyz"),.ow (.lst (iJ (css++[cs']))),.sh (.int (css.length:Int)),.sh (.lst (es.map D.int)),.sh (.str (S cs')),.sh (.int at')],?_,css++[cs'],by simp,(fin cs' hO hN).1,(fin cs' hO hN).2,_,_,_,_,rfl⟩;rw[hmp];open_line with[no_df,cS hm1,hcut,i0,sU,hsrc,hcomp,hjoin,decide_eq_true hk0,i1,hcc.2,ik,hixn,hsl,i2,A6 b2 b2',hadd,Je,hset,i9,hwh,hw,dH hap]) ⟨[],rfl,List.nodup_nil,λc hc=>(nomatch hc),_,_,_,_,rfl⟩
 refine⟨css,?_,hc,hnd,hnm⟩;open_line with[no_df,dG,ot,nX,yN (show n<=1000000 by omega),hl]
noncomputable def fz:bi :=
 (aq (aJ 3 (ao (af (ae 0) (af (ao (af (dC (.int 420)) (af (dC (.int 60)) (af (dC (.int 2)) (af (dC (.int 5)) (af (aa (dC (.int 10)) (dC (.int 18)) kr) (af (dC (.int 30)) (af (dC (.int 6)) (af (dC (.int 5)) (af (aa (dC (.int 10)) (dC (.int 18)) kr) (af (dC (.int 30)) (af (dC (.int 3)) ax))))))))))) cH) ax)) aD))
 (aq (aJ 4 (aa (aa (ae 3) (dC (.int 0)) aC) (ao (af (ae 2) ax) (m1 dP)) cQ))
 (aq (aJ 5 (aa (aa (aa (ae 4) (dC (.int 1)) bz) (aa (aa (ae 3) (dC (.int 1)) aC) (aa (ao (af (ae 2) ax) (m1 dP)) (dC (.int 1)) ik) cQ) bz) (ao (af (ae 2) ax) (m1 dP)) cQ))
 (aq (cM (aa (aa (ae 3) (dC (.int 10)) aC) (dC (.int 0)) fJ)
 (aq (aJ 4 (aa (ae 1) (aa (ao (af (ae 2) ax) (m1 dP)) (dC (.int 1)) ik) cQ))
 (aq (aJ 5 (aa (ae 4) (dC (.int 1)) bz))
 ak))
 ak)
 (aq (aJ 6 (dC (.non)))
 (aq (cM (aa (aa (ae 3) (dC (.int 6)) aC) (dC (.int 0)) zK)
 (aq (aJ 6 (ao (af (gK (ae 3) (cD (dC (.int 7))) (cD (dC (.int 10)))) ax) aA))
 (aq (cM (aa (aa (ae 6) (dC (.int 0)) aC) (dC (.int 0)) fJ)
 (aq (aJ 6 (ao (af (dC (.int 1)) (af (dC (.int 1)) ax)) c5))
 ak)
 ak)
 ak))
 ak)
 (aq (aW (ao (af (aa (ae 2) (ae 4) aC) (af (aa (ae 2) (ae 5) aC) (af (aa (ao (af (dC (.str "one")) (af (dC (.str "both")) ax)) cH) (aa (ae 3) (dC (.int 2)) aC) aC) (af (ao (af (gK (ae 3) (cD (dC (.int 3))) (cD (dC (.int 6)))) ax) aA) (af (ae 6) ax))))) c5))
 ak)))))))
def bZ:ac->av D:=br 7 fz
def Cr:aU (1,1)/\0<((1,1):cA).1:=⟨⟨⟨by decide,by decide⟩,by decide,by decide⟩,by decide⟩
set_option maxHeartbeats 1000000 in
def Kz{k:Nat}(h2:2<=zs.length)(h8:zs.length<=8)(nd:zs.Nodup):∃t,bZ [.int c,.int (k:Int),.lst (zs.map D.str)]=.ok (bf t)/\qd zs t:=by
 obtain⟨vs,hd,W⟩:=draws_ok c [420,60,2,5,1000000000000000000,30,6,5,1000000000000000000,30,3] (by decide) (by decide);have hd':aD [.int c,.lst [.int 420,.int 60,.int 2,.int 5,.int 1000000000000000000,.int 30,.int 6,.int 5,.int 1000000000000000000,.int 30,.int 3]]=.ok (.lst (vs.map D.int)):=hd;obtain⟨d0,g0,b0,i0⟩:=W.ix 0 0 rfl rfl;obtain⟨d1,g1,b1,i1⟩:=W.ix 1 1 rfl rfl;obtain⟨d2,g2,b2,i2⟩:=W.ix 2 2 rfl rfl;obtain⟨d3,g3,b3,_⟩:=W.at 3 rfl;obtain⟨d4,g4,b4,_⟩:=W.at 4 rfl;obtain⟨d5,g5,b5,_⟩:=W.at 5 rfl;obtain⟨d6,g6,b6,i6⟩:=W.ix 6 6 rfl rfl;obtain⟨d7,g7,b7,_⟩:=W.at 7 rfl;obtain⟨d8,g8,b8,_⟩:=W.at 8 rfl;obtain⟨d9,g9,b9,_⟩:=W.at 9 rfl;obtain⟨d10,g10,b10,i10⟩:=W.ix 10 10 rfl rfl;have c3:=Ol (x:=3) (y:=6) (i:=3) rfl rfl g3 g4 g5;have c7:=Ol (x:=7) (y:=10) (i:=7) rfl rfl g7 g8 g9;obtain⟨x,hx,fx,lx⟩:=fraction_ok (w:=d3) (a:=d4) (b:=d5) b3 b4 b5;obtain⟨y,hy,fy,ly⟩:=fraction_ok (w:=d7) (a:=d8) (b:=d9) b7 b8 b9;obtain⟨wd,hw,jw⟩:=Ho b2.1 b2.2;have hn0:((zs.length:Int)==0)=false:=beq_eq_false_iff_ne.mpr (by omega);have hn1:((zs.length:Int)-1==0)=false:=beq_eq_false_iff_ne.mpr (by omega);obtain⟨p,q,hp,hq,hpq,hplace⟩:∃p q:Int,(0<=p/\p<(zs.length:Int))/\(0<=q/\q<(zs.length:Int))/\p≠q/\(((d10==0)=true/\p=(k:Int).fmod ((zs.length:Int)-1)/\q=p+1)∨((d10==0)=false/\p=d0.fmod (zs.length:Int)/\q=(d0.fmod (zs.length:Int)+1+d1.fmod ((zs.length:Int)-1)).fmod (zs.length:Int))):=by
  cases h10:(d10==0) with
  |true=>
   have f:=eT (a:=(k:Int)) (b:=(zs.length:Int)-1) (by omega);exact⟨(k:Int).fmod ((zs.length:Int)-1),(k:Int).fmod ((zs.length:Int)-1)+1,by omega,by omega,by omega,.inl ⟨rfl,rfl,rfl⟩⟩
  |false=>
   have f:=eT (a:=d0) (b:=(zs.length:Int)) (by omega);have f':=eT (a:=d1) (b:=(zs.length:Int)-1) (by omega);obtain⟨hr,hne⟩:=we (n:=(zs.length:Int)) (d:=d0.fmod (zs.length:Int)) (e:=d1.fmod ((zs.length:Int)-1)) (by omega) f.1 f.2 f'.1 f'.2;exact⟨_,_,f,hr,R7 hne,.inr ⟨rfl,rfl,rfl⟩⟩
 obtain⟨z1,k1,j1⟩:=Es (zs:=zs) hp.1 hp.2;obtain⟨z2,k2,j2⟩:=Es (zs:=zs) hq.1 hq.2;have hz12:z1≠z2:=yt nd k1 k2 (by omega);have f1:aC (fr y) (.int 0)=.ok (.int y.1):=rfl;obtain⟨o,ho,hworth⟩:∃o:Option cA,(∀v,o=some v->aU v/\0<v.1)/\((¬d6 > 0/\o=none)∨(d6 > 0/\(y.1==0)=true/\o=some (1,1))∨(d6 > 0/\(y.1==0)=false/\o=some y)):=by
  by_cases h6:d6 > 0
  .cases hy0:(y.1==0) with
   |true=>exact⟨some (1,1),λv hv=>by cases hv;exact Cr,.inr (.inl ⟨h6,rfl,rfl⟩)⟩
   |false=>exact⟨some y,λv hv=>by cases hv;exact⟨fy,by have:y.1≠0:=beq_eq_false_iff_ne.mp hy0;omega⟩,.inr (.inr ⟨h6,rfl,rfl⟩)⟩
  .exact⟨none,λv hv=>(nomatch hv),.inl ⟨h6,rfl⟩⟩
 refine⟨⟨z1,z2,wd,x,o⟩,?_,Rb k1,Rb k2,hz12,hw,fx,lx,ho⟩;rw[show bf ⟨z1,z2,wd,x,o⟩=.tup [.str z1,.str z2,.str wd,fr x,cN o] from rfl];rcases hplace with⟨h10,e1,e2⟩|⟨h10,e1,e2⟩<;>rcases hworth with⟨h6,e3⟩|⟨h6,hy0,e3⟩|⟨h6,hy0,e3⟩<;>subst e3
 .rw[e2,e1]at j2;rw[e1]at j1
  open_line with[bZ,fz,iL,hd',i0,i1,i2,i6,i10,Q0,hn0,hn1,ik,h10,decide_eq_false h6,j1,j2,jw,c3,hx]
  rfl
 .rw[e2,e1]at j2;rw[e1]at j1
  open_line with[bZ,fz,iL,hd',i0,i1,i2,i6,i10,Q0,hn0,hn1,ik,h10,decide_eq_true h6,c7,hy,f1,hy0,j1,j2,jw,c3,hx]
  rfl
 .rw[e2,e1]at j2;rw[e1]at j1
  open_line with[bZ,fz,iL,hd',i0,i1,i2,i6,i10,Q0,hn0,hn1,ik,h10,decide_eq_true h6,c7,hy,f1,hy0,j1,j2,jw,c3,hx]
  rfl
 .rw[e2]at j2;rw[e1]at j1
  open_line with[bZ,fz,iL,hd',i0,i1,i2,i6,i10,Q0,hn0,hn1,ik,h10,decide_eq_false h6,j1,j2,jw,c3,hx]
  rfl
 .rw[e2]at j2;rw[e1]at j1
  open_line with[bZ,fz,iL,hd',i0,i1,i2,i6,i10,Q0,hn0,hn1,ik,h10,decide_eq_true h6,c7,hy,f1,hy0,j1,j2,jw,c3,hx]
  rfl
 .rw[e2]at j2;rw[e1]at j1
  open_line with[bZ,fz,iL,hd',i0,i1,i2,i6,i10,Q0,hn0,hn1,ik,h10,decide_eq_true h6,c7,hy,f1,hy0,j1,j2,jw,c3,hx]
  rfl
noncomputable def ou:bi :=
 (aq (aJ 1 (ao (af (aa (aa (ae 0) (ao (af (dC (.int 0)) ax) cH) bz) (dC (.int 0)) aC) (af (aa (aa (ao (af (dC (.int 6)) (af (dC (.int 420)) (af (dC (.int 60)) ax))) cH) (uV (aa (ao (af (dC (.int 8)) (af (dC (.int 3)) ax)) cH) (uV (ao (af (dC (.int 26)) ax) cH) (dC (.int 8))) pb) (dC (.int 7))) bz) (ao (af (dC (.int 18)) ax) cH) bz) ax)) aD))
 (aq (aJ 2 (ao (af (dC (.int 14)) (af (aa (ae 1) (dC (.int 73)) aC) ax)) (m2 Ml)))
 (aq (aW (ao (af (gK (ae 0) (cD (dC (.int 1))) (cD (aa (dC (.int 1)) (ae 2) bz))) (af (gK (ae 0) (cD (aa (dC (.int 1)) (ae 2) bz)) (cD (dC (.int 63)))) ax)) c5))
 ak)))
def aI:ac->av D:=br 3 ou
def hd0(ns:List Int):Int:=(ns++[0]).headD 0
def BQ(hn:ns.length<=900)(h:ρ[0]?=some (.sh (.lst (ns.map D.int)))):(aa (aa (ae 0) (ao (af (dC (.int 0)) ax) cH) bz) (dC (.int 0)) aC) ρ=.ok (.int (hd0 ns)):=by
 have hadd:bz (.lst (ns.map D.int)) (.lst [.int 0])=.ok (.lst ((ns++[0]).map D.int)):=by
  rw[ie (decide_eq_true (by rw[Q0];simp;omega)),RX];rfl
 have hix:aC (.lst ((ns++[0]).map D.int)) (.int 0)=.ok (.int (hd0 ns)):=by
  refine eY (k:=0) ?_;unfold hd0;cases ns<;>rfl
 have hv:ae 0 ρ=.ok (.lst (ns.map D.int)):=by
  show(match ρ[0]? with|some (.sh d)=>av.ok d|_=>.stuck)=_;rw[h]
 rw[tY,tY,hv];open_line with[hadd,hix]
def Nh:List Int:=[6,420,60]++MK
def Qc:List Int:=Nh++[18]
def KI:(aa (ao (af (dC (.int 6)) (af (dC (.int 420)) (af (dC (.int 60)) ax))) cH) (uV (aa (ao (af (dC (.int 8)) (af (dC (.int 3)) ax)) cH) (uV (ao (af (dC (.int 26)) ax) cH) (dC (.int 8))) pb) (dC (.int 7))) bz) ρ=.ok (.lst (Nh.map D.int)):=rfl
def KJ:(aa (aa (ao (af (dC (.int 6)) (af (dC (.int 420)) (af (dC (.int 60)) ax))) cH) (uV (aa (ao (af (dC (.int 8)) (af (dC (.int 3)) ax)) cH) (uV (ao (af (dC (.int 26)) ax) cH) (dC (.int 8))) pb) (dC (.int 7))) bz) (ao (af (dC (.int 18)) ax) cH) bz) ρ=.ok (.lst (Qc.map D.int)):=rfl
def Jv{ns:List Int}:∃ms:List Int,l4 (ns.map D.int) lo hi=ms.map D.int/\ms.length<=ns.length:=by
 rw[j6];exact⟨_,rfl,Ra (List.length_take_le' ..) (by rw[TF];omega)⟩
def GP{ns:List Int}(hn:ns.length<=63):∃c1 c2:List Int,aI [.lst (ns.map D.int)]=.ok (.tup [.lst (c1.map D.int),.lst (c2.map D.int)])/\c1.length<=14/\c2.length<=63:=by
 obtain⟨vs,hd,W⟩:=draws_ok (hd0 ns) Qc (by decide) (by decide);obtain⟨d,g,b,i⟩:=W.ix 73 73 rfl rfl;have hmin:Ml (.int 14) (.int d)=.ok (.int (min 14 d)):=by
  show av.ok (D.int (if d<14 then d else 14))=_
  congr 2
  split<;>omega
 obtain⟨c2,hc2,hl2⟩:=Jv (ns:=ns) (lo:=some (1+min 14 d)) (hi:=some 63);obtain⟨m,hm⟩:=Sb (show 0<=min 14 d by omega);have hc1:∃c1:List Int,l4 (ns.map D.int) (some 1) (some (1+min 14 d))=c1.map D.int/\c1.length<=14:=by
  rw[j6];refine⟨_,rfl,Ra (List.length_take_le ..) ?_⟩;rw[hm,show(1+(m:Int))=((1+m:Nat):Int) by omega,HT.sIx_nat,show(1:Int)=((1:Nat):Int) from rfl,HT.sIx_nat];omega
 obtain⟨c1,hc1,hl1⟩:=hc1;refine⟨c1,c2,?_,hl1,by omega⟩;have hh:=BQ (ns:=ns) (by omega) (ρ:=[.sh (.lst (ns.map D.int)),.no,.no]) rfl;rw[aI,ou];rw[kO];show((aq _ _) [.sh (.lst (ns.map D.int)),.no,.no]).bind EE=_;rw[gR,mz,tW,ic,hh,ki,iN,ic,KJ];open_line with[hd,i,hmin,hc1,hc2]
noncomputable def uF:bi :=
 (aq (aJ 1 (ao (af (aa (aa (ae 0) (ao (af (dC (.int 0)) ax) cH) bz) (dC (.int 0)) aC) (af (aa (ao (af (dC (.int 6)) (af (dC (.int 420)) (af (dC (.int 60)) ax))) cH) (uV (aa (ao (af (dC (.int 8)) (af (dC (.int 3)) ax)) cH) (uV (ao (af (dC (.int 26)) ax) cH) (dC (.int 8))) pb) (dC (.int 7))) bz) ax)) aD))
 (aq (aJ 2 (ao (af (gK (ae 1) (cD (dC (.int 3))) fD) (af (aa (dC (.int 2)) (aa (ae 1) (dC (.int 0)) aC) bz) ax)) dG))
 (aq (aJ 3 (aa (aa (ae 1) (dC (.int 1)) aC) (ao (af (ae 2) ax) (m1 dP)) cQ))
 (aq (aJ 4 (aa (aa (aa (ae 3) (dC (.int 1)) bz) (aa (aa (ae 1) (dC (.int 2)) aC) (aa (ao (af (ae 2) ax) (m1 dP)) (dC (.int 1)) ik) cQ) bz) (ao (af (ae 2) ax) (m1 dP)) cQ))
 (aq (aJ 5 (cE 2 [3,4] (lW (ae 2)) (dy [0,1]) (aa (ae 0) (ao (af (ae 2) (af (ae 3) ax)) c5) bL) (ae 1)))
 (aq (aJ 6 (aa (aa (ao (af (aa (ae 2) (ae 3) aC) ax) cH) (ae 5) bz) (ao (af (aa (ae 2) (ae 4) aC) ax) cH) bz))
 (aq (aJ 7 (cE 2 [6] (lW (aa (ao (af (ae 0) ax) aI) (dC (.int 0)) aC)) (dy [0,1]) mYes (ao (af (ae 1) (af (ae 0) (af (ae 2) ax))) bZ)))
 (aq (aW (ao (af (ae 2) (af (ae 7) (af (aa (ae 2) (ae 3) aC) (af (aa (ae 2) (ae 4) aC) ax)))) c5))
 ak))))))))
def cY:ac->av D:=br 8 uF
def kJ{zs:bv}:numbered 0 (zs.map D.str)=(R4 zs.length).map λ(k:Nat)=>D.tup [.int (k:Int),.str (zs[k]?.getD ("" : Ro))]:=by
 apply Ur;intro i;rw[cq,Q7,Q7]
 by_cases h:i<zs.length
 .rw[QW h,Vm h]
  simp;rw[QW h];rfl
 .rw[S0 (by omega),S0 (by simp;omega)];rfl
def iA{k f l:Nat}:bL (.int (k:Int)) (.tup [.int (f:Int),.int (l:Int)])=.ok (.bl (!(decide (k=f)||decide (k=l)))):=by
 have e:xH (.int (k:Int)) (.tup [.int (f:Int),.int (l:Int)])=some (decide (k=f)||decide (k=l)):=by
  have e0:xH (.int (k:Int)) (.tup [.int (f:Int),.int (l:Int)])=some (((f:Int)==(k:Int))||(((l:Int)==(k:Int))||false)):=rfl;rw[e0];refine congrArg some ?_;show(((f:Int)==(k:Int))||(((l:Int)==(k:Int))||false))=_;rw[Vp]
  congr 1
  .by_cases h:k=f
   .subst h;simp
   .rw[decide_eq_false h];exact beq_eq_false_iff_ne.mpr (by omega)
  .by_cases h:k=l
   .subst h;simp
   .rw[decide_eq_false h];exact beq_eq_false_iff_ne.mpr (by omega)
 unfold bL;rw[e]
def xA(zs:bv)(f l:Nat):bv:=((R4 zs.length).filter λk=>!(decide (k=f)||decide (k=l))).map λ(k:Nat)=>zs[k]?.getD ("" : Ro)
def DJ{f l:Nat}(h:zs.length<=8):dQ 2 [3,4] (dy [0,1]) (aa (ae 0) (ao (af (ae 2) (af (ae 3) ax)) c5) bL) (ae 1) [a,b,.sh (.lst (zs.map D.str)),.sh (.int (f:Int)),.sh (.int (l:Int)),x5,x6,x7] (numbered 0 (zs.map D.str))=.ok (.lst ((xA zs f l).map D.str)):=by
 rw[k6 (F:=λd=>match d with|.tup [_,z]=>z|d=>d) (p:=λd=>match d with|.tup [.int k,_]=>!(decide (k.toNat=f)||decide (k.toNat=l))|_=>false) (by rw[cF,Q0];omega)]
 .congr 2
  rw[kJ];unfold xA;rw[VU,RV,RV];rfl
 .intro d hd
  rw[kJ]at hd;obtain⟨k,_,rfl⟩:=Rl.mp hd;refine⟨[.sh (.int (k:Int)),.sh (.str (zs[k]?.getD ("" : Ro))),.sh (.int (f:Int)),.sh (.int (l:Int))],rfl,?_,λ_=>rfl⟩;open_line with[iA,Sw]
def qh(zs:bv)(f l:Nat):bv:=(zs[f]?.getD ("" : Ro))::(xA zs f l++[zs[l]?.getD ("" : Ro)])
def MC(n f l:Nat):ce:=f::((R4 n).filter (λk=>!(decide (k=f)||decide (k=l)))++[l])
def xK:qh zs f l=(MC zs.length f l).map λ(k:Nat)=>zs[k]?.getD ("" : Ro):=by
 unfold qh MC xA;rw[Q6,RX];rfl
def Kt(hfl:f≠l):(MC n f l).Nodup:=by
 unfold MC;rw[RK,TZ];refine⟨λh=>?_,List.nodup_range.filter _,by simp,λa ha b hb=>?_⟩
 .rw[Rv]at h
  rcases h with h|h
  .have:=(Sg.mp h).2
   simp at this
  .exact hfl (by simpa using h)
 .have hb':b=l:=by simpa using hb
  subst hb';intro z;subst z;have:=(Sg.mp ha).2;simp at this
def zN(hf:f<n)(hl:l<n):∀k∈MC n f l,k<n:=λk hk=>by
 unfold MC at hk;rw[Rh,Rv]at hk;rcases hk with rfl|hk|hk
 .exact hf
 .exact Ti.mp (Sg.mp hk).1
 .have:k=l:=by simpa using hk
  subst this;exact hl
def Bb(nd:zs.Nodup)(hf:f<zs.length)(hl:l<zs.length)(hfl:f≠l):(qh zs f l).Nodup:=by
 rw[xK,Th,VF];refine Wh ?_ (Th.mp (Kt hfl));intro a b ha hb hab;have h1:=zN hf hl a ha;have h2:=zN hf hl b hb;rw[QW h1,QW h2,Tz,Tz];exact λz=>hab ((U1 nd).mp z)
def qX(hf:f<zs.length)(hl:l<zs.length):∀z∈qh zs f l,z∈zs:=λz hz=>by
 rw[xK]at hz;obtain⟨k,hk,rfl⟩:=Rl.mp hz;have h1:=zN hf hl k hk;rw[QW h1,Tz];exact Sq h1
def Ea(nd:zs.Nodup)(hf:f<zs.length)(hl:l<zs.length)(hfl:f≠l):2<=(qh zs f l).length/\(qh zs f l).length<=zs.length:=by
 refine⟨by unfold qh;simp,nodup_le (Bb nd hf hl hfl) (qX hf hl)⟩
def Cy{cs:List Int}(h2:2<=ws.length)(h8:ws.length<=8)(nd:ws.Nodup)(h14:cs.length<=14):∃ts:List fK,dQ 2 [6] (dy [0,1]) mYes (ao (af (ae 1) (af (ae 0) (af (ae 2) ax))) bZ) [x0,x1,x2,x3,x4,x5,.sh (.lst (ws.map D.str)),x7] (numbered 0 (cs.map D.int))=.ok (.lst (ts.map bf))/\ts.length=cs.length/\∀t∈ts,qd ws t:=by
 have key:∀(c:Int) (k:Nat),∃t,bZ [.int c,.int (k:Int),.lst (ws.map D.str)]=.ok (bf t)/\qd ws t:=λc k=>Kz h2 h8 nd;obtain⟨g,hg⟩:∃g:Int->Nat->fK,∀(c:Int) (k:Nat),bZ [.int c,.int (k:Int),.lst (ws.map D.str)]=.ok (bf (g c k))/\qd ws (g c k):=⟨λc k=>VM (key c k),λc k=>Vd (key c k)⟩
 refine⟨(R4 cs.length).map λ(k:Nat)=>g (cs[k]?.getD 0) k,?_,by simp,λt ht=>?_⟩
 .rw[kZ (F:=λd=>match d with|.tup [.int k,.int c]=>bf (g c k.toNat)|d=>d) (by rw[cF,Q0];omega)]
  .congr 2
   apply Ur;intro i;rw[Q7,cq,Q7,Q7,Q7]
   by_cases h:i<cs.length
   .rw[QW h,Vm h]
    show some (bf (g cs[i] (((0+i:Nat):Int)).toNat))=some (bf (g (cs[i]?.getD 0) i));rw[QW h,Tz,Sw,Sn]
   .rw[S0 (by omega),S0 (by simp;omega)];rfl
  .intro d hd
   obtain⟨i,hi⟩:=WC.mp hd;rw[cq,Q7]at hi;cases e:cs[i]? with
   |none=>rw[e]at hi;cases hi
   |some c=>
    rw[e]at hi;have hi':D.tup [.int ((0+i:Nat):Int),.int c]=d:=Sf hi;rw[Sn]at hi';subst hi';refine⟨[.sh (.int (i:Int)),.sh (.int c),.sh (.lst (ws.map D.str))],rfl,rfl,?_⟩;have h:=(hg c i).1;open_line with[h,Sw]
 .obtain⟨k,_,rfl⟩:=Rl.mp ht
  exact(hg _ _).2
set_option maxHeartbeats 1000000 in
def web_cells{ns:List Int}(hn:ns.length<=63):∃w,∃c1 c2:List Int,aI [.lst (ns.map D.int)]=.ok (.tup [.lst (c1.map D.int),.lst (c2.map D.int)])/\c2.length<=63/\w.ts.length=c1.length/\cY [.lst (ns.map D.int)]=.ok (aK w)/\dU w:=by
 obtain⟨vs,hd,W⟩:=draws_ok (hd0 ns) Nh (by decide) (by decide);have hvl:vs.length=73:=W.len;obtain⟨d0,g0,b0,i0⟩:=W.ix 0 0 rfl rfl;obtain⟨d1,g1,b1,i1⟩:=W.ix 1 1 rfl rfl;obtain⟨d2,g2,b2,i2⟩:=W.ix 2 2 rfl rfl;have W3:Drawn MK (vs.drop 3):=⟨by rw[TF,hvl];rfl,λi v s e1 e2=>by
  rw[TM]at e1;refine W.bnd (3+i) v s e1 ?_;have:Nh[3+i]?=MK[i]?:=by
   unfold Nh;rw[RN (by simp)];simp
  rw[this];exact e2⟩
 obtain⟨m,rfl⟩:=Sb b0.1;obtain⟨css,hnm,hcl,hnd,hall⟩:=FO W3 (n:=2+m) (by omega);have hnm':dG [.lst ((vs.drop 3).map D.int),.int (2+(m:Int))]=.ok (.lst ((css.map S).map D.str)):=by
  have:iJ css=(css.map S).map D.str:=by unfold iJ;rw[RV];rfl
  rw[←this];exact hnm
 have hzl:(css.map S).length=2+m:=by rw[Q0,hcl]
 have nd:(css.map S).Nodup:=by
  rw[Th,VF];exact Ud.imp (λh z=>h (Km z)) (Th.mp hnd)
 have nm:oC (css.map S):=⟨nd,λz hz=>by
  obtain⟨cs,hc,rfl⟩:=Rl.mp hz;exact(hall cs hc).nameB⟩
 generalize css.map S=zs at *;have hcut:l4 (vs.map D.int) (some 3) none=(vs.drop 3).map D.int:=by
  rw[j6,HT.sIx_none,show(3:Int)=((3:Nat):Int) from rfl,HT.sIx_nat,hvl];rw[U8 (by rw[TF];omega)];rfl
 have hn0:((zs.length:Int)==0)=false:=beq_eq_false_iff_ne.mpr (by omega);have hn1:((zs.length:Int)-1==0)=false:=beq_eq_false_iff_ne.mpr (by omega);have f1:=eT (a:=d1) (b:=(zs.length:Int)) (by omega);have f2:=eT (a:=d2) (b:=(zs.length:Int)-1) (by omega);obtain⟨hr,hne⟩:=we (n:=(zs.length:Int)) (d:=d1.fmod (zs.length:Int)) (e:=d2.fmod ((zs.length:Int)-1)) (by omega) f1.1 f1.2 f2.1 f2.2;obtain⟨f,hf⟩:=Sb f1.1;obtain⟨l,hl⟩:=Sb hr.1;have hfn:f<zs.length:=by omega
 have hln:l<zs.length:=by omega
 have hfl:f≠l:=by omega
 have hixf:aC (.lst (zs.map D.str)) (.int (f:Int))=.ok (.str zs[f]):=eY (by rw[Q7,QW hfn];rfl);have hixl:aC (.lst (zs.map D.str)) (.int (l:Int))=.ok (.str zs[l]):=eY (by rw[Q7,QW hln];rfl);obtain⟨c1,c2,hcells,hc1,hc2⟩:=GP hn;obtain⟨w2,w8⟩:=Ea nd hfn hln hfl;have hwl:(xA zs f l).length+2=(qh zs f l).length:=by unfold qh;simp
 have a1:bz (.lst [.str zs[f]]) (.lst ((xA zs f l).map D.str))=.ok (.lst (.str zs[f]::(xA zs f l).map D.str)):=by
  rw[ie (decide_eq_true (by rw[Q0];simp;omega))];rfl
 have a2:bz (.lst (.str zs[f]::(xA zs f l).map D.str)) (.lst [.str zs[l]])=.ok (.lst ((qh zs f l).map D.str)):=by
  rw[ie (decide_eq_true (by simp;omega))];unfold qh;rw[Q6,RX,QW hfn,QW hln];rfl
 have hh:=BQ (ns:=ns) (by omega) (ρ:=[.sh (.lst (ns.map D.int)),.no,.no,.no,.no,.no,.no,.no]) rfl;obtain⟨ts,hts,htl,htall⟩:=Cy (ws:=qh zs f l) (cs:=c1) w2 (by omega) (Bb nd hfn hln hfl) hc1 (x0:=.sh (.lst (ns.map D.int))) (x1:=.sh (.lst (vs.map D.int))) (x2:=.sh (.lst (zs.map D.str))) (x3:=.sh (.int (f:Int))) (x4:=.sh (.int (l:Int))) (x5:=.sh (.lst ((xA zs f l).map D.str))) (x7:=.no);refine⟨⟨zs,ts,zs[f],zs[l]⟩,c1,c2,hcells,hc2,htl,?_,⟨by show 2<=zs.length;omega,by show zs.length<=7;omega,nm,by show ts.length<=14;omega,λt ht=>?_,Sq hfn,Sq hln,λz=>hfl ((U1 nd).mp z)⟩⟩
 .rw[cY,uF,kO]
  show((aq _ _) [.sh (.lst (ns.map D.int)),.no,.no,.no,.no,.no,.no,.no]).bind EE=_;rw[gR,mz,tW,ic,hh,ki,iN,ic,KI];open_line with[no_df,hd,hcut,i0,hnm',i1,i2,Q0,hn0,hn1,ik,hf]
  rw[hf]at hl;open_line with[no_df,hl,qL,nk,kN,DJ (show zs.length<=8 by omega),hixf,hixl,a1,a2,hcells,hts]
  rfl
 .have T:=htall t ht
  exact⟨qX hfn hln _ T.a,qX hfn hln _ T.b,T.ne,T.w,T.l,T.l0,T.o⟩
end Cod
namespace DL
open PySem PySem.Spec PyProof.Rows L2
section
variable {X:Cx}{E:XK}{a b o:R1}{f g fo:am}{pos:Pos}
def pT:D->D->av D:=xf (λ_ _=>true) λi j=>.int (SW i j)
def B5(ha:DE X E a f)(hb:DE X E b g):DE X E (.BinOp a .BitAnd b pos) (aa f g pT):=pR Lp (cP λ_ _ _ _=>ri _) ha hb
end
def qt(x:Ro)(ks:bv)(fa:Ev->av (ac)):bi:=λρ=>(fa (iH ρ)).bind λds=>if ds.length=ks.length then .exn ⟨x,ks.zip ds⟩ else .stuck
def Pw{α:Type}{us:List α}(h:us.length=1):∃a,us=[a]:=List.length_eq_one_iff.mp h
def Qi{α:Type}{us:List α}(h:us.length=2):∃a b,us=[a,b]:=by
 cases us with|nil=>cases h|cons a us=>obtain⟨b,rfl⟩:=Pw (UL h);exact⟨a,b,rfl⟩
def Qh{α:Type}{us:List α}(h:us.length=3):∃a b c,us=[a,b,c]:=by
 cases us with|nil=>cases h|cons a us=>obtain⟨b,c,rfl⟩:=Qi (UL h);exact⟨a,b,c,rfl⟩
def Qg{α:Type}{us:List α}(h:us.length=4):∃a b c d,us=[a,b,c,d]:=by
 cases us with|nil=>cases h|cons a us=>obtain⟨b,c,d,rfl⟩:=Qh (UL h);exact⟨a,b,c,d,rfl⟩
def QH{α:Type}{us:List α}(h:us.length=5):∃a b c d e,us=[a,b,c,d,e]:=by
 cases us with|nil=>cases h|cons a us=>obtain⟨b,c,d,e,rfl⟩:=Qg (UL h);exact⟨a,b,c,d,e,rfl⟩
def QG{α:Type}{us:List α}(h:us.length=6):∃a b c d e f,us=[a,b,c,d,e,f]:=by
 cases us with|nil=>cases h|cons a us=>obtain⟨b,c,d,e,f,rfl⟩:=QH (UL h);exact⟨a,b,c,d,e,f,rfl⟩
def QF{α:Type}{us:List α}(h:us.length=7):∃a b c d e f g,us=[a,b,c,d,e,f,g]:=by
 cases us with|nil=>cases h|cons a us=>obtain⟨b,c,d,e,f,g,rfl⟩:=QG (UL h);exact⟨a,b,c,d,e,f,g,rfl⟩
end DL
namespace Com
open PySem L2 DL
def Bu(x:Ro)(ks:bv)(ds:ac):av Fl:=if ds.length=ks.length then .exn ⟨x,ks.zip ds⟩ else .stuck
def o5:qt x ks fa ρ=(fa (iH ρ)).bind (Bu x ks):=rfl
def mB:Bu x [f] [d]=.exn ⟨x,[(f,d)]⟩:=if_pos rfl
end Com
namespace DL
open PySem PySem.Spec PyProof.Rows L2
def Qj(d:D):Bool:=match d with
 |.dic [] []=>true
 |_=>false
def Pr(x y:D):Bool:=(Qj x&&Qj y)||(aR 39 x&&aR 39 y)
structure FT (K:Q2) (mg:Ro->Option QY) (x:Ro) (st:Tr) (ps:bv) (a:Q9) (d:SV):Prop where
 F:D1 K x x st a d
 b:ko K d ps []
 g:mg x=some (.ref a)
noncomputable def QA(K:Q2) (x:Ro) (st:Tr) (a:Q9):Prop:=SF K Rr x=some (some (.ref a))/\UZ K (.ref a)=true/\∃oc kV dc pm cd ct od an sl,K.lookup a=some ⟨oc,od,.func (Ua x x (defArgs st) (defBody st) (defScope st) .none kV dc pm an cd ct),sl⟩/\VY K cd x=true
def N8{K:Q2}{h:RA}{st:Tr}{ps:bv}(X:K.In h)(G:h.Ns Rr mg)(q:QA K x st a)
  (hb:∀(kV doc pm:QY) (an:Option Q9) (cdv ct:QY) (us:List QY),us.length=ps.length->bindArgs (Ua x x (defArgs st) (defBody st) (defScope st) .none kV doc pm an cdv ct) ⟨us,[]⟩=pure (ps.zip us)) :
  ∃d,FT K mg x st ps a d/\∃kV doc pm an cdv ct,d=Ua x x (defArgs st) (defBody st) (defScope st) .none kV doc pm an cdv ct:=by
 obtain⟨e1,e4,oc,kV,dc,pm,cd,ct,od,an,sl,e2,e3⟩:=q;exact⟨_,⟨xj e2 e3 e4,(xj (st:=st) e2 e3 e4).binds hb,TL X G e1⟩,_,_,_,_,_,_,rfl⟩
section
variable {X:Cx}{E:XK}{e:R1}{es:List R1}{fa:Ev->av (ac)}{f g h i j:am}{pos:Pos}{CX:zI}{k n:Nat}{fn:Q9}{fd:SV}{ps:bv}{m:ac->av D}{x:Ro}{p:Pos}{st:Tr}
def Qo(ρ:Ev)(ds:ac)(h:af f ax ρ=.ok ds):ds.length=1:=lV (λ_ h=>zA h) h
def Qn(ρ:Ev)(ds:ac)(q:af f (af g ax) ρ=.ok ds):ds.length=2:=lV (Qo ρ) q
def Qm(ρ:Ev)(ds:ac)(q:af f (af g (af h ax)) ρ=.ok ds):ds.length=3:=lV (Qn ρ) q
def QP(ρ:Ev)(ds:ac)(q:af f (af g (af h (af i ax))) ρ=.ok ds):ds.length=4:=lV (Qm ρ) q
end
def xI:bv->ac->Ro->Option D
 |k::ks,d::ds,x=>if k=x then some d else xI ks ds x
 |_,_,_=>none
def kY(x y:D):av D:=match x,y with
 |.dic ks ds,.str k=>match xI ks ds k with
  |some d=>.ok d
  |none=>.stuck
 |_,_=>.stuck
def xu(x y:D):av D:=match x,y with
 |.str k,.dic ks ds=>.ok (.bl (xI ks ds k).isSome)
 |_,_=>.stuck
def jZ(x y:D):av D:=match x,y with
 |.str k,.dic ks ds=>.ok (.bl (!(xI ks ds k).isSome))
 |_,_=>.stuck
theorem xx{K:Q2}{H:Hp}{k:Ro}:∀{ks:bv}{ds:ac}{vs:al},ks.length=vs.length->Reps K H ds vs ->
  (∀d,xI ks ds k=some d->∃v,qi ((ks.map Sh).zip vs) (Sh k:iF)=some v/\Rep K H d v)/\(xI ks ds k=none->qi ((ks.map Sh).zip vs) (Sh k:iF)=none)
 |[],ds,vs,hl,r=>by
  exact⟨λd e=>(nomatch e),λ_=>rfl⟩
 |x::ks,ds,vs,hl,r=>by
  cases vs with
  |nil=>cases hl
  |cons v vs=>
   cases ds with
   |nil=>have:=Reps.nil_iff.mp r;cases this
   |cons d ds=>
    obtain⟨v',vr,e0,h1,h2⟩:=az.mp r;cases e0;obtain⟨i1,i2⟩:=xx (k:=k) (ks:=ks) (ds:=ds) (vs:=vs) (by simpa using hl) h2;rw[Q6,SH]
    by_cases hx:x=k
    .subst hx
     refine⟨λd' e=>?_,λe=>?_⟩
     .rw[xI,if_pos rfl]at e;cases e
      exact⟨v,mK rfl,h1⟩
     .rw[xI,if_pos rfl]at e;cases e
    .have hne:¬(Sh x:iF)=Sh k:=λz=>hx (WI z)
     refine⟨λd' e=>?_,λe=>?_⟩
     .rw[xI,if_neg hx]at e
      rw[kB hne];exact i1 d' e
     .rw[xI,if_neg hx]at e
      rw[kB hne];exact i2 e
section
variable {X:Cx}{E:XK}{a b:R1}{f g:am}{pos:Pos}
abbrev Ny:R2:=λx y H Q=>∃p v,x=.ref p/\xF H p y (some v)/\Q v H
abbrev Nx:R2:=λy x H Q=>∃p o,x=.ref p/\xF H p y o/\Q (.bl o.isSome) H
abbrev Bv:R2:=λy x H Q=>∃p o,x=.ref p/\xF H p y o/\Q (.bl (!o.isSome)) H
def IC:zD X.K E Ny kY:=by
 intro x y v u H Ha Q hs r1 r2 q;unfold kY at q;cases x with
 |dic ks ds=>
  cases y with
  |str k=>
   rw[Rep]at r1;obtain⟨p,kvs,vs,rfl,h1,rfl,hl,h4⟩:=r1;rw[Rep.str_iff.mp r2];cases e:xI ks ds k with
   |none=>simp only[e]at q;exact q.elim
   |some d=>
    simp only[e]at q;obtain⟨v,hv,rv⟩:=(xx hl h4).1 d e;exact⟨p,v,rfl,.inl ⟨_,.inr k,aE.rd hs h1,rfl,hv.symm⟩,bU hs q rv⟩
  |_=>exact q.elim
 |_=>exact q.elim
def BP{k:Ro}{K:Q2}(hs:aE Ha H)(r1:Rep K Ha (.str k) v)(r2:Rep K Ha (.dic ks ds) u):∃p o,u=.ref p/\xF H p v o/\o.isSome=(xI ks ds k).isSome:=by
 rw[Rep]at r2;obtain⟨p,kvs,vs,rfl,h1,rfl,hl,h4⟩:=r2;rw[Rep.str_iff.mp r1];refine⟨p,_,rfl,.inl ⟨_,.inr k,aE.rd hs h1,rfl,rfl⟩,?_⟩;cases e:xI ks ds k with|none=>rw[(xx hl h4).2 e];rfl|some d=>obtain⟨v,hv,_⟩:=(xx hl h4).1 d e;rw[hv];rfl
def FH:zD X.K E Nx xu:=by
 intro x y v u H Ha Q hs r1 r2 q;unfold xu at q;cases x with
 |str k=>
  cases y with
  |dic ks ds=>
   obtain⟨p,o,e1,e2,e3⟩:=BP hs r1 r2;exact⟨p,o,e1,e2,by rw[e3];exact bU hs q (rb _)⟩
  |_=>exact q.elim
 |_=>exact q.elim
def CZ:zD X.K E Bv jZ:=by
 intro x y v u H Ha Q hs r1 r2 q;unfold jZ at q;cases x with
 |str k=>
  cases y with
  |dic ks ds=>
   obtain⟨p,o,e1,e2,e3⟩:=BP hs r1 r2;exact⟨p,o,e1,e2,by rw[e3];exact bU hs q (rb _)⟩
  |_=>exact q.elim
 |_=>exact q.elim
def FC(hu:X.A.units+1<TY):gu X (R5 .In) Nx:=by
 intro π s σ H x y v u Q I rx ry h;obtain⟨p,o,rfl,g,q⟩:=h;cases ry;exact PR hu I g rx λs' I'=>⟨.bl o.isSome,H,I',rfl,q⟩
def CU(hu:X.A.units+1<TY):gu X (R5 .NotIn) Bv:=by
 intro π s σ H x y v u Q I rx ry h;obtain⟨p,o,rfl,g,q⟩:=h;cases ry;exact Jq hu I g rx λs' I'=>⟨.bl (!o.isSome),H,I',rfl,q⟩
def xr(hu:X.A.units+1<TY)(ha:DE X E a f)(hb:DE X E b g)(hs:Mx b:=by intro _ _;rfl):DE X E (.Subscript a b pos) (aa f g kY) :=
 ⟨bo (Im hu ha.o hb.o hs) (ju IC)⟩
end
section
variable {K:Q2}{E:XK}{He η Ha H H1:Hp}{σ:L2.St}{ρ:Ev}
def eV.putOwnG(h:eV K He η Ha σ H ρ)(hp:∀(j:Nat) (a:Q9),σ[j]?=some (some (V.ref a))->a=p->∀d:D,ρ[j]?≠some (Sl.ow d))(he:He p=none)(h0:Ha p=none)(ho:JK K Ha H p dn)(hx:∀(i j:Nat) (ds:ac) (a:Q9) (P:Nat->Q9),ρ[i]?=some (.ox j ds)->σ[i]?=some (some (.ref a))->OA K He Ha H a j ds P->∀l,uW j l=true->p≠P l) :
  eV K He η Ha (σ.set i (some (.ref p))) H (ρ.set i (.ow dn)):=by
 have key:∀(j:Nat) (s:Sl),(ρ.set i (.ow dn))[j]?=some s->(j=i/\s=.ow dn/\i<σ.length)∨(j≠i/\ρ[j]?=some s):=λj s e=>by
  by_cases hj:i=j
  .subst hj
   rw[TH]at e;cases q:ρ[i]? with
   |none=>rw[q]at e;cases e
   |some s'=>
    rw[q]at e;cases e;refine .inl ⟨rfl,rfl,?_⟩;rw[←h.ln];exact(Q5.mp q).1
  .rw[Q8 hj]at e
   exact .inr ⟨λz=>hj z.symm,e⟩
 have other:∀(k:Nat) (d2:D),k≠i->ρ[k]?=some (.ow d2)->some (some (V.ref p))≠σ[k]?:=λk d2 hk e2 z=>by
  obtain⟨a,h1,_⟩:=h.ow k d2 e2;rw[h1]at z;cases z;exact hp k p h1 rfl d2 e2
 refine⟨h.g,λj d' e=>?_,λj d' e=>?_,λj k d1 d2 hn e1 e2=>?_,by simp[h.ln],h.ex.upd (λj s e=>?_) (aE.refl _) (λa vs _ e=>e) λp us _ h0 hp _=>⟨hp,h0⟩⟩
 rotate_left 3
 .rcases key j _ e with⟨rfl,e',hl⟩|⟨hj,e'⟩
  .exact .inr (.inr (.inr ⟨dn,p,e',by rw[RT hl],hx⟩))
  .exact .inl ⟨e',by rw[Q8 (R7 hj)]⟩
 .rcases key j _ e with⟨rfl,e',hl⟩|⟨hj,e'⟩
  .cases e'
  .obtain⟨v',h1,h2⟩:=h.rd j d' e'
   exact⟨v',by rw[Q8 (R7 hj)];exact h1,h2⟩
 .rcases key j _ e with⟨rfl,e',hl⟩|⟨hj,e'⟩
  .cases e'
   exact⟨p,by rw[RT hl],he,h0,ho⟩
  .obtain⟨a,h1,h2⟩:=h.ow j d' e'
   exact⟨a,by rw[Q8 (R7 hj)];exact h1,h2⟩
 .rcases key j _ e1 with⟨rfl,_,hl⟩|⟨hj,e1'⟩
  .rcases key k _ e2 with⟨rfl,_,_⟩|⟨hk,e2'⟩
   .exact absurd rfl hn
   .rw[RT hl,Q8 (R7 hk)]
    exact other k d2 hk e2'
  .rcases key k _ e2 with⟨rfl,_,hl⟩|⟨hk,e2'⟩
   .rw[RT hl,Q8 (R7 hj)]
    exact λz=>other j d1 hj e1' z.symm
   .rw[Q8 (R7 hj),Q8 (R7 hk)]
    exact h.ap j k d1 d2 hn e1' e2'
def eV.writeG(h:eV K He η Ha σ H ρ)(e:ρ[i]?=some (.ow d))(es:σ[i]?=some (some (.ref p)))(ho:JK K Ha (upd H p o) p dn) :
  eV K He η Ha σ (upd H p o) (ρ.set i (.ow dn)):=by
 obtain⟨a,h1,h2,h3,h4⟩:=h.ow i d e;rw[h1]at es;cases es;have hil:i<ρ.length:=(Q5.mp e).1;have key:∀(j:Nat) (s:Sl),(ρ.set i (.ow dn))[j]?=some s->(j=i/\s=.ow dn)∨(j≠i/\ρ[j]?=some s):=λj s e=>by
  by_cases hj:i=j
  .subst hj
   rw[RT hil]at e;cases e;exact .inl ⟨rfl,rfl⟩
  .rw[Q8 hj]at e
   exact .inr ⟨λz=>hj z.symm,e⟩
 refine⟨⟨λb o' eb=>?_,h.g.z,λb o' eb=>?_,h.g.nw⟩,λj d' e'=>?_,λj d' e'=>?_,λj k d1 d2 hn e1 e2=>?_,by simp[h.ln],h.ex.upd (λj s e'=>?_) (aE.refl _) (λb us _ eb=>?_) λq us _ q0 hq hd=>?_⟩
 rotate_left 5
 .rcases key j _ e' with⟨rfl,e''⟩|⟨hj,e''⟩
  .exact .inr (.inr (.inr ⟨dn,p,e'',h1,λi' j' ds' a' P' x1 x2 x3 l ol=>by
    obtain⟨a2,P2,y1,y2,y3,_⟩:=h.ex.1 i' j' ds' x1;rw[x2]at y1;cases y1;have:P2 l=P' l:=by
     obtain⟨vs1,_,z1,_,y5,_⟩:=x3;obtain⟨vs2,_,z3,_,y4,_⟩:=y2;rw[z1]at z3;cases z3;obtain⟨_,_,_,_,_,z2,_⟩:=y5 l ol;obtain⟨_,_,_,_,_,z4,_⟩:=y4 l ol;rw[z2]at z4;injection z4 with z4;injection z4 with z4;exact z4.symm
    rw[←this];intro zz;rw[zz]at h1;exact y3 j d l ol e h1⟩))
  .exact .inl ⟨e'',rfl⟩
 .rw[aF (by
   intro z;subst z;cases d with
   |lst ds'|dic ks ds'=>obtain⟨vs',h5,_⟩:=h4;rw[h5]at eb;cases eb
   |ob kk ds'=>
    cases kk with|dint ks=>obtain⟨vs',h5,_⟩:=h4;rw[h5]at eb;cases eb| _=>exact h4.elim
   |_=>exact h4)];exact eb
 .have hq':q≠p:=by
   intro z;subst z;exact hd i d e h1
  exact⟨by rw[aF hq'];exact hq,q0⟩
 .rw[aF (by intro z;subst z;rw[h2]at eb;cases eb)];exact h.g.s _ _ eb
 .rw[aF (by intro z;subst z;rw[h3]at eb;cases eb)];exact h.g.sub _ _ eb
 .rcases key j _ e' with⟨rfl,e''⟩|⟨hj,e''⟩
  .cases e''
  .exact h.rd j d' e''
 .rcases key j _ e' with⟨rfl,e''⟩|⟨hj,e''⟩
  .cases e''
   exact⟨p,h1,h2,h3,ho⟩
  .obtain⟨b,k1,k2,k3,k4⟩:=h.ow j d' e''
   refine⟨b,k1,k2,k3,?_⟩;have hb:b≠p:=by
    intro z;subst z;exact h.ap j i d' d hj e'' e (by rw[k1,h1])
   cases d' with
   |lst ds'=>
    obtain⟨vs',h5,h6⟩:=k4;exact⟨vs',by rw[aF hb];exact h5,h6⟩
   |dic ks ds'=>
    obtain⟨vs',h5,hl,h6⟩:=k4;exact⟨vs',by rw[aF hb];exact h5,hl,h6⟩
   |ob kk ds'=>
    cases kk with
    |dint ks=>
     obtain⟨vs',h5,hl,h6⟩:=k4;exact⟨vs',by rw[aF hb];exact h5,hl,h6⟩
    |_=>exact k4.elim
   |_=>exact k4.elim
 .rcases key j _ e1 with⟨rfl,e1'⟩|⟨hj,e1'⟩
  .rcases key k _ e2 with⟨rfl,_⟩|⟨hk,e2'⟩
   .exact absurd rfl hn
   .exact h.ap j k d d2 hn e e2'
  .rcases key k _ e2 with⟨rfl,_⟩|⟨hk,e2'⟩
   .exact h.ap j k d1 d hn e1' e
   .exact h.ap j k d1 d2 hn e1' e2'
end
def EZ:bv->ac->Ro->D->ac
 |k::ks,e::ds,x,d=>(if k=x then d else e)::EZ ks ds x d
 |_,ds,_,_=>ds
def CJ(ks:bv)(ds:ac)(k:Ro)(d:D):D:=if k∈ks then .dic ks (EZ ks ds k d) else .dic (ks++[k]) (ds++[d])
theorem Cf{k:Ro}:∀{ks:bv}{vs:al},ks.length=vs.length->(((ks.map Sh).zip vs).any λkv=>decide (kv.1=(Sh k:iF)))=decide (k∈ks)
 |[],_,_=>rfl
 |x::ks,[],h=>nomatch h
 |x::ks,v::vs,h=>by
  rw[Q6,SH,Tf,Cf (by simpa using h)]
  by_cases hx:x=k
  .subst hx;simp
  .have:¬k=x:=λz=>hx z.symm
   simp[hx,this]
theorem Bt{K:Q2}{H:Hp}{k:Ro}{d:D}{v:V}(r:Rep K H d v):∀{ks:bv}{ds:ac}{vs:al},ks.length=vs.length->Reps K H ds vs ->
  ∃vs',(((ks.map Sh).zip vs).map λkv=>if kv.1=(Sh k:iF) then(kv.1,v) else kv)=(ks.map Sh).zip vs'/\ks.length=vs'.length/\Reps K H (EZ ks ds k d) vs'
 |[],ds,vs,hl,h=>⟨vs,rfl,hl,by cases ds<;>exact h⟩
 |x::ks,ds,[],hl,h=>nomatch hl
 |x::ks,[],v'::vs,hl,h=>by have:=Reps.nil_iff.mp h;cases this
 |x::ks,e::ds,v'::vs,hl,h=>by
  obtain⟨v2,vr,e0,h1,h2⟩:=az.mp h;cases e0;obtain⟨vs',i1,i2,i3⟩:=Bt r (ks:=ks) (ds:=ds) (vs:=vs) (by simpa using hl) h2;rw[Q6,SH,Q6,i1]
  by_cases hx:x=k
  .subst hx
   refine⟨v::vs',by rw[if_pos rfl];rfl,by simp[i2],?_⟩;rw[EZ,if_pos rfl];exact Reps.cons r i3
  .have hne:¬(Sh x:iF)=Sh k:=λz=>hx (WI z)
   refine⟨v'::vs',by rw[if_neg hne];rfl,by simp[i2],?_⟩;rw[EZ,if_neg hx];exact Reps.cons h1 i3
theorem Reps.snoc{K:Q2}(r:Rep K H d v):∀{ds:ac}{vs:al},Reps K H ds vs->Reps K H (ds++[d]) (vs++[v])
 |[],vs,h=>by rw[Reps.nil_iff.mp h];exact Reps.cons r Reps.nil
 |e::ds,vs,h=>by
  obtain⟨v2,vr,rfl,h1,h2⟩:=az.mp h;exact Reps.cons h1 (Reps.snoc r h2)
def HW{K:Q2}{k:Ro}(hl:ks.length=vs.length)(h:Reps K Ha ds vs)(r:Rep K Ha d v):JK K Ha (upd H p (.dK (kG ((ks.map Sh).zip vs) (Sh k) v))) p (CJ ks ds k d):=by
 unfold CJ;rw[show ∀(kvs:List (iF×V)) (u:V),kG kvs (Sh k:iF) u=if(kvs.any λkv=>decide (kv.1=(Sh k:iF)))=true then kvs.map (λkv=>if kv.1=(Sh k:iF) then(kv.1,u) else kv) else kvs++[((Sh k:iF),u)] from λ_ _=>rfl];rw[Cf hl]
 by_cases hk:k∈ks
 .rw[if_pos hk,if_pos (decide_eq_true hk)]
  obtain⟨vs',i1,i2,i3⟩:=Bt (k:=k) r hl h;exact⟨vs',by rw[aL,i1],i2,i3⟩
 .rw[if_neg hk,if_neg (by rw[decide_eq_false hk];decide)]
  refine⟨vs++[v],by rw[aL,RX,List.zip_append (by rw[Q0];exact hl)];rfl,by simp[hl],Reps.snoc r h⟩
noncomputable def Qy(K:Q2) (E:XK) (f:am):TE:=λσ H Q=>∃Ha ρ,aE Ha H/\eW K Ha σ ρ/\match f ρ with
 |.ok (.dic ks ds)=>∀p vs H' Ha',bj H Ha H' Ha'->H p=none->Ha' p=none->H' p=some (.dK ((ks.map Sh).zip vs))->ks.length=vs.length->Reps K Ha' ds vs->Q (.ref p) H'
 |.ok _=>False
 |.exn x=>∀C ox H' Ha',bj H Ha H' Ha'->zH K Ha' x C ox->E C ox H'
 |.stuck=>False
structure Qr (X:Cx) (E:XK) (e:R1) (f:am):Prop where
 o:PE X e (Qy X.K E f)
def Fy(i:Nat)(ρ:Ev)(d:D):av Fl:=match d with
 |.dic ks ds=>.ok (.nx (ρ.set i (.ow (.dic ks ds))))
 |_=>.stuck
def Bp(i:Nat)(f:am):bi:=λρ=>(f ρ).bind (Fy i ρ)
section
variable {X:Cx}{E:XK}{He η:Hp}{e b:R1}{pos:Pos}{f k:am}
def Jl(hN:X.N.Nodup)(hi:X.N[i]?=some x)(hx:DR X.env.scope x)(he:Qr X E e f)(hs:SD e (some (.Name x pos')) pos.line X.env=pure false:=by rfl)
  (hf:X.fn x=true∨X.env.scope.names.lookup x=some .local := by first|exact .inl rfl|exact .inr rfl|assumption):DS X E He η (.Assign [.Name x pos'] e pos) (Bp i f):=by
 refine⟨?_⟩;refine cB (mr hN hi hx he.o hs hf) λD σ H z9=>?_;obtain⟨Ha,ρ,h,q⟩:=z9;refine⟨Ha,ρ,h.g.sub,h.rd,?_⟩
 unfold Bp at q;cases e1:f ρ with
 |stuck=>rw[e1]at q;exact q|exn x=>rw[e1]at q;exact λC ox H' Ha' g ex=>q C ox H' Ha' (h.g.trans g) ex
 |ok d=>
  rw[e1]at q;cases d with
  |dic ks ds=>
   intro p vs H' Ha' g hp h0 hv hl rp;refine q _ H' Ha' g.z ((h.grow g).putOwnG (dn:=.dic ks ds) (λj a ej ea d ed=>?_) (h.g.s.free hp) h0 ⟨vs,hv,hl,rp⟩ (h.fresh_x g.s hp));subst ea;obtain⟨a',k1,_,_,k4⟩:=h.ow j d ed;rw[ej]at k1;cases k1;cases d with
   |lst ds'|dic ks ds'=>obtain⟨vs',h5,_⟩:=k4;rw[hp]at h5;cases h5
   |ob kk ds'=>
    cases kk with|dint ks=>obtain⟨vs',h5,_⟩:=k4;rw[hp]at h5;cases h5| _=>exact k4.elim
   |_=>exact k4.elim
  |_=>exact q.elim
end
def GF(k d:D):av D:=match k with
 |.str x=>.ok (.dic [x] [d])
 |_=>.stuck
def B7(kf vf:am):am:=aa kf vf GF
def Al(ρ:Ev)(i:Nat)(k:bv->ac->av Fl):av Fl:=match ρ[i]? with
 |some (.ow (.dic ks ds))=>k ks ds
 |_=>.stuck
def pG(i:Nat)(ρ:Ev)(ks:bv)(ds:ac)(d j:D):av Fl:=match j with
 |.str x=>if ks.length<line then .ok (.nx (ρ.set i (.ow (CJ ks ds x d)))) else .stuck
 |_=>.stuck
section
variable {X:Cx}{E:XK}{He η:Hp}{e b:R1}{pos:Pos}{f k:am}
def Dn(hk:DE X E b k)(hv:DE X E e f):Qr X E (.Dict [some b] [e] pos) (B7 k f):=by
 refine⟨?_⟩;refine bo (Il (Fe hk.o hv.o HZ) rfl rfl (by simp) (by simp)) λσ H Q ⟨Ha,ρ,hs,hr,q⟩ p hpn=>?_;have h0:Ha p=none:=hs.free hpn;have hs2:aE Ha (upd H p (.dK [])):=λb o e=>by rw[aF (by intro z;subst z;rw[h0]at e;cases e)];exact hs _ _ e
 have back:∀{H' Ha':Hp},bj (upd H p (.dK [])) Ha H' Ha'->bj H Ha H' Ha':=λg=>⟨λb o e=>g.s _ _ (by rw[aF (bu e hpn)];exact e),g.z,g.sub,λa k1 k2=>by
   have:=g.nw a k1 k2
   by_cases ha:a=p
   .subst ha;exact hpn
   .rw[aF ha]at this;exact this⟩
 refine⟨Ha,ρ,hs2,hr,?_⟩;unfold B7 aa at q;cases e1:k ρ with
 |stuck=>rw[e1]at q;exact q|exn z=>rw[e1]at q;exact λC ox H' Ha' g ex=>q C ox H' Ha' (back g) ex
 |ok kd=>
  rw[e1]at q;intro xk H1 H01 g1 r1;refine⟨H01,ρ,g1.sub,hr.mono g1.z,?_⟩;cases e2:f ρ with
  |stuck=>rw[e2]at q;exact q|exn z=>rw[e2]at q;exact λC ox H' Ha' g ex=>q C ox H' Ha' (back (g1.trans g)) ex
  |ok d=>
   rw[e2]at q;intro v H2 H02 g2 r2;cases kd with
   |str x=>
    have G:=g1.trans g2;have hp2:H2 p=some (.dK []):=G.s _ _ aL;have n02:H02 p=none:=by
     cases qq:H02 p with|none=>rfl|some o=>have:=G.nw p (by rw[qq];simp) h0;rw[aL]at this;cases this
    rw[Rep.str_iff.mp r1];refine⟨hp2,[(Sh x,v)],rfl,by simp,?_⟩;have q:∀p vs H' Ha',bj H Ha H' Ha'->H p=none->Ha' p=none->H' p=some (.dK (([x].map Sh).zip vs))->[x].length=vs.length->Reps X.K Ha' [d] vs->Q (.ref p) H':=q;refine q p [v] _ H02 ⟨λb o e=>?_,G.z,λb o e=>?_,(back G).nw⟩ hpn n02 aL rfl (Reps.cons r2 Reps.nil)
    .rw[aF (bu e hpn)];exact(back G).s _ _ e
    .rw[aF (by intro z;subst z;rw[n02]at e;cases e)];exact G.sub _ _ e
   |_=>exact q.elim
def CP{K:Q2}{k:bv->ac->av Fl}(h:eV K He η Ha σ H ρ)(q:bQ K E He η Ha (Al ρ i k) D') :
  ∃ks ds p vs,ρ[i]?=some (.ow (.dic ks ds))/\σ[i]?=some (some (.ref p))/\H p=some (.dK ((ks.map Sh).zip vs))/\ks.length=vs.length/\Reps K Ha ds vs/\bQ K E He η Ha (k ks ds) D':=by
 unfold Al at q;cases e:ρ[i]? with
 |none=>rw[e]at q;exact q.elim
 |some s=>
  rw[e]at q;cases s with
  |no|sh d|ox j ds|pt a=>exact q.elim
  |ow d=>
   cases d with
   |dic ks ds=>
    obtain⟨p,h1,h2,h3,vs,h4,h5,h6⟩:=h.ow i _ e;exact⟨ks,ds,p,vs,rfl,h1,h4,h5,h6,q⟩
   |_=>exact q.elim
def E7{K:Q2}(h:eV K He η Ha σ H ρ)(e1:ρ[i]?=some (.ow (.dic ks ds)))(e2:σ[i]?=some (some (.ref p)))(e5:H p=some (.dK ((ks.map Sh).zip vs)))(el:ks.length=vs.length)(e6:Reps K Ha ds vs)
  (rp:Rep K Ha d v)(rj:Rep K Ha j u)(q:bQ K E He η Ha (pG i ρ ks ds d j) D'):∃a H4,V.ref p=.ref a/\DV H a u v H4/\D'.nx σ H4:=by
 unfold pG at q;cases j with
 |str x=>
  by_cases hl:ks.length<line
  .simp only[if_pos hl]at q
   rw[Rep.str_iff.mp rj];refine⟨p,_,rfl,DV.k (k:=.inr x) e5 ?_,?_⟩
   .rw[List.length_zip,Q0,←el,Nat.min_self]
    have:line<=sizeLine:=ft (RG _);omega
   .exact q σ _ Ha (aE.refl _) (h.writeG e1 e2 (HW el e6 rp))
  .simp only[if_neg hl]at q;exact q.elim
 |_=>exact q.elim
end
section
variable {X:Cx}{E:XK}{He η:Hp}{e b o:R1}{pos apos cpos:Pos}{f k g:am}
def Kx(h:n+64<TY):n+1<TY:=Rp (by omega) h
end
theorem Reps.erase{K:Q2}:∀{ds:ac}{vs:al}(n:Nat),Reps K H ds vs->Reps K H (ds.eraseIdx n) (vs.eraseIdx n)
 |[],vs,n,h=>by rw[Reps.nil_iff.mp h];exact Reps.nil
 |d::ds,vs,n,h=>by
  obtain⟨v,vr,rfl,h1,h2⟩:=az.mp h;cases n with|zero=>exact h2|succ n=>exact Reps.cons h1 (Reps.erase n h2)
section
variable {X:Cx}{E:XK}{a b:R1}{f g:am}{pos:Pos}
def Oj(x y:D):av D:=match x,y with
 |.tup [],.tup es=>.ok (.tup es)
 |.tup ds,.tup es=>if ds.isEmpty=false/\ds.length+es.length<=line then .ok (.tup (ds++es)) else .stuck
 |_,_=>.stuck
end
structure Rw where
 x:Ro
 st:Tr
 N:bv
 n:Nat
abbrev Rw.ps(r:Rw):bv:=r.N.take r.n
instance {N P:bv}{sc:UU}:Decidable (gw N P sc) :=
 decidable_of_iff (sc.kind=.function/\sc.isCoroutine=false/\sc.isGenerator=false/\N.Nodup/\N.take P.length=P/\(∀x∈P,sc.names.lookup x=some .local ∨ sc.names.lookup x=some .cell)/\∀y∈sc.names,y.2≠.free)
  ⟨λ⟨a,b,c,d,e,f,g⟩=>⟨a,b,c,d,e,f,g⟩,λ⟨a,b,c,d,e,f,g⟩=>⟨a,b,c,d,e,f,g⟩⟩
def OQ(rows:List Rw):Prop:=∀r∈rows,gw r.N r.ps (defScope r.st)
instance {rows:List Rw}:Decidable (OQ rows):=inferInstanceAs (Decidable (∀r∈rows,_))
def TG(rows:List Rw)(K:Q2)(mg:Ro->Option QY)(A:Nat->Q9)(Q:Nat->SV):Prop:=∀i r,rows[i]?=some r->FT K mg r.x r.st r.ps (A i) (Q i)
def MR(r:Rw):Prop:=∀(kV doc pm:QY) (an:Option Q9) (cdv ct:QY) (us:List QY),us.length=r.ps.length->bindArgs (Ua r.x r.x (defArgs r.st) (defBody r.st) (defScope r.st) .none kV doc pm an cdv ct) ⟨us,[]⟩=pure (r.ps.zip us)
def QAs(K:Q2):List Rw->List Q9->Prop
 |[],_=>True
 |r::rs,a::as=>QA K r.x r.st a/\QAs K rs as
 |_::_,[]=>False
def QAs.cons{K:Q2}{st:Tr}(q:QA K x st a)(t:QAs K rs as):QAs K (⟨x,st,N,n⟩::rs) (a::as):=⟨q,t⟩
theorem JT{K:Q2}{h:RA}{mg:Ro->Option QY}(X:K.In h)(G:h.Ns Rr mg):∀{rows:List Rw}{as:List Q9},(∀r∈rows,MR r)->QAs K rows as ->
  ∃Q:Nat->SV,∀i r,rows[i]?=some r->FT K mg r.x r.st r.ps (as.getD i 0) (Q i)/\∃kV doc pm an cdv ct,Q i=Ua r.x r.x (defArgs r.st) (defBody r.st) (defScope r.st) .none kV doc pm an cdv ct
 |[],as,_,_=>⟨λ_=>default,λi r e=>by simp at e⟩
 |r::rs,[],_,q=>q.elim
 |r::rs,a::as,hb,q=>by
  obtain⟨Q,h⟩:=JT X G (λr hr=>hb r (QX _ hr)) q.2;obtain⟨d,h1,h2⟩:=N8 X G q.1 (hb r Q3);refine⟨λi=>match i with|0=>d|i+1=>Q i,λi r' e=>?_⟩;cases i with|zero=>rw[SJ]at e;cases e;exact⟨h1,h2⟩|succ i=>rw[R0]at e;exact h i r' e
structure iu (P:Se) (w:Sx) (K:Q2) (mg:Ro->Option QY) (base:RA) (CX:zI) (k:Nat) (fn:Q9) (fd:SV) (ps:bv) (sp:Sp) (x:Ro) (st:Tr):Prop where
 F:iY P w K mg base CX k fn fd ps sp
 t:FT K mg x st ps fn fd
section
variable {P:Se}{w:Sx}{K:Q2}{mg:Ro->Option QY}{base:RA}{rows:List Rw}{A:Nat->Q9}{Q:Nat->SV}{i k n:Nat}{r:Rw}{s:bi}{sM:Q9->Ev->ac->av MFl}
variable (T:TG rows K mg A Q) (S:OQ rows) (h:rows[i]?=some r)
include T S h
theorem oD(b:∀(cdv:QY) (A':Sv) (outer:List Ts) (s0:Rg) (H Ha:Hp) (E:XK),dz k (A'.deeper (envOfC r.x (defScope r.st) s0.heap.objs.size (A i) cdv)) ->
   zL (qo CX0 P w K mg base r.N r.x (defScope r.st) (A i) cdv A' outer s0 H E).nox E H Ha (defBody r.st) s):iu P w K mg base CX0 (k+1) (A i) (Q i) r.ps (spD K r.ps.length (br r.N.length s)) r.x r.st :=
 ⟨Dj (T i r h).F (S r (Rb h)) b,T i r h⟩
end
section
variable {X:Cx}{E:XK}{e:R1}{es:List R1}{fa:Ev->av (ac)}{pos:Pos}{CX:zI}{k k0 n:Nat}{fn:Q9}{fd:SV}{ps:bv}{m:ac->av D}{x:Ro}{p:Pos}{st:Tr}
def rC(B:iu X.prog X.w X.K X.mg X.base CX k0 fn fd ps (spD X.K n m) x st)(hr:dz k X.A)(ha:DA X E (e::es) fa)(hle:k0<=k:=by decide)(hx:gU CX X E:=by first|exact yj|exact pass0E|exact passesE)(hl:∀ρ ds,fa ρ=.ok ds->ds.length=(e::es).length:=by first|exact Qo|exact Qn|exact Qm|exact QP|exact al5)(hn:(e::es).length=n:=by rfl)
  (hg:Gl X x:=by exact rfl)(hdb:(x==("__debug__" : Ro))=false:=by decide)(he:Rk (e::es) X.env=(false,eval e X.env)::Rk es X.env:=by exact bB rfl)(hpl:(SM pos (Rk es X.env)).any (·.1)=false:=by exact cX rfl) :
  DE X E (.Call (.Name x p) (e::es) [] pos) (ao fa m):=Jp (B.F.mono hle) hr hg B.t.g B.t.F.kp B.t.b hx ha hn hl hdb he hpl
end
def QN(hn:r.ps.length=1:=by rfl)(hb:∀(kV doc pm:QY) (an:Option Q9) (cdv ct b:QY),bindArgs (Ua r.x r.x (defArgs r.st) (defBody r.st) (defScope r.st) .none kV doc pm an cdv ct) ⟨[b],[]⟩=pure (r.ps.zip [b]):=by intros;rfl):MR r:=λ_ _ _ _ _ _ us hl=>by
 obtain⟨b,rfl⟩:=Pw (hl.trans hn);exact hb ..
def QM(hn:r.ps.length=2:=by rfl)(hb:∀(kV doc pm:QY) (an:Option Q9) (cdv ct b c:QY),bindArgs (Ua r.x r.x (defArgs r.st) (defBody r.st) (defScope r.st) .none kV doc pm an cdv ct) ⟨[b,c],[]⟩=pure (r.ps.zip [b,c]):=by intros;rfl):MR r:=λ_ _ _ _ _ _ us hl=>by
 obtain⟨b,c,rfl⟩:=Qi (hl.trans hn);exact hb ..
def QL(hn:r.ps.length=3:=by rfl)(hb:∀(kV doc pm:QY) (an:Option Q9) (cdv ct b c d:QY),bindArgs (Ua r.x r.x (defArgs r.st) (defBody r.st) (defScope r.st) .none kV doc pm an cdv ct) ⟨[b,c,d],[]⟩=pure (r.ps.zip [b,c,d]):=by intros;rfl):MR r:=λ_ _ _ _ _ _ us hl=>by
 obtain⟨b,c,d,rfl⟩:=Qh (hl.trans hn);exact hb ..
def QK(hn:r.ps.length=4:=by rfl)(hb:∀(kV doc pm:QY) (an:Option Q9) (cdv ct b c d e:QY),bindArgs (Ua r.x r.x (defArgs r.st) (defBody r.st) (defScope r.st) .none kV doc pm an cdv ct) ⟨[b,c,d,e],[]⟩=pure (r.ps.zip [b,c,d,e]):=by intros;rfl):MR r:=λ_ _ _ _ _ _ us hl=>by
 obtain⟨b,c,d,e,rfl⟩:=Qg (hl.trans hn);exact hb ..
mutual
def dE:D->Bool
 |.tup ds=>plainDs ds
 |.lst ds=>plainDs ds
 |.dic _ _=>false
 |.exc _=>false
 |.ob _ _=>false
 |_=>true
def plainDs:ac->Bool
 |[]=>true
 |d::ds=>dE d&&plainDs ds
end
mutual
/-- the cells of a tree -/
def Ft(K:Q2)(H:Hp):D->V->Q9->Prop
 |.tup ds,v,b=>∃a vs,v=.ref a/\((b=a/\Rd H a (.tup vs))∨(l9 K H a vs/\Fts K H ds vs b))
 |.lst ds,v,b=>∃a vs,v=.ref a/\((b=a/\Rd H a (.lst vs)/\Reps K H ds vs)∨(fZ K H a vs/\Reps K H ds vs/\Fts K H ds vs b))
 |_,_,_=>False
def Fts(K:Q2)(H:Hp):ac->al->Q9->Prop
 |d::ds,v::vs,b=>Ft K H d v b∨Fts K H ds vs b
 |_,_,_=>False
end
open Classical in
noncomputable def rst(H:Hp) (S:Q9->Prop):Hp:=λb=>if S b then H b else none
def oO{S:Q9->Prop}(h:S b):rst H S b=H b:=if_pos h
def EN{S:Q9->Prop}:aE (rst H S) H:=λb o e=>by
 unfold rst at e;split at e
 .exact e
 .cases e
def Bq{S:Q9->Prop}(h:rst H S b≠none):S b:=by
 unfold rst at h;split at h
 .assumption
 .exact absurd rfl h
def EO{S:Q9->Prop}(h:S b)(r:Rd H b u):Rd (rst H S) b u:=by
 unfold Rd;rw[oO h];exact r
mutual
theorem Rep.rst{K:Q2}{H:Hp}{S:Q9->Prop}:∀{d:D}{v:V},dE d=true->Rep K H d v->(∀b,Ft K H d v b->S b)->Rep K (rst H S) d v
 |.non,_,_,h,_=>by unfold Rep at h ⊢;exact h
 |.bl _,_,_,h,_=>by unfold Rep at h ⊢;exact h
 |.int _,_,_,h,_=>by unfold Rep at h ⊢;exact h
 |.str _,_,_,h,_=>by unfold Rep at h ⊢;exact h
 |.tup ds,_,p,h,s=>by
  obtain⟨a,vs,rfl,e2,e3⟩:=aG.mp h;unfold dE at p;refine aG.mpr ⟨a,vs,rfl,?_,Reps.rst p e3 λb hb=>s b (by unfold Ft;exact⟨a,vs,rfl,.inr ⟨e2,hb⟩⟩)⟩;rcases e2 with e2|e2
  .exact .inl (EO (s a (by unfold Ft;exact⟨a,vs,rfl,.inl ⟨rfl,e2⟩⟩)) e2)
  .exact .inr e2
 |.lst ds,_,p,h,s=>by
  obtain⟨a,vs,rfl,e2,e3⟩:=aB.mp h;unfold dE at p;refine aB.mpr ⟨a,vs,rfl,?_,Reps.rst p e3 λb hb=>s b (by unfold Ft;exact⟨a,vs,rfl,.inr ⟨e2,e3,hb⟩⟩)⟩;rcases e2 with e2|e2
  .exact .inl (EO (s a (by unfold Ft;exact⟨a,vs,rfl,.inl ⟨rfl,e2,e3⟩⟩)) e2)
  .exact .inr e2
 |.dic _ _,_,p,_,_=>by unfold dE at p;cases p
 |.exc _,_,p,_,_=>by unfold dE at p;cases p
 |.ob _ _,_,p,_,_=>by unfold dE at p;cases p
theorem Reps.rst{K:Q2}{H:Hp}{S:Q9->Prop}:∀{ds:ac}{vs:al},plainDs ds=true->Reps K H ds vs->(∀b,Fts K H ds vs b->S b)->Reps K (rst H S) ds vs
 |[],_,_,h,_=>by rw[Reps.nil_iff.mp h];exact Reps.nil
 |d::ds,_,p,h,s=>by
  obtain⟨v,r,rfl,h1,h2⟩:=az.mp h;unfold plainDs at p;rw[Rn]at p;exact Reps.cons (Rep.rst p.1 h1 λb hb=>s b (by unfold Fts;exact .inl hb)) (Reps.rst p.2 h2 λb hb=>s b (by unfold Fts;exact .inr hb))
end
def Vw(A:Q9->Prop)(H H2:Hp):Prop:=∀c,H2 c=H c∨(A c/\∃o u,(H c=some (.frz o u)/\∀b,u≠.own b)/\H2 c=some u)
def Vw.keep(v:Vw A H H2)(e:H c=some u)(n:∀o w,u≠.frz o w):H2 c=some u:=by
 rcases v c with h|⟨_,o,w,⟨h,_⟩,_⟩
 .rw[h];exact e
 .rw[e]at h;cases h;exact absurd rfl (n o w)
def Vw.own(v:Vw A H H2)(e:H c=some (.frz o (.own b))):H2 c=some (.frz o (.own b)):=by
 rcases v c with h|⟨_,o',w,⟨h,n⟩,_⟩
 .rw[h];exact e
 .rw[e]at h;cases h;exact absurd rfl (n b)
theorem dN.view(v:Vw A H H2):∀{cl:List (Ro×Q9)}{vs:al},dN H cl vs->dN H2 cl vs
 |[],_,h=>h
 |(_,c)::r,_,⟨x,rs,o,u,h1,h2,h3,h4,h5⟩=>⟨x,rs,o,u,h1,v.own h2,h3,h4,dN.view v h5⟩
def Vw.rd(v:Vw A H H2)(r:Rd H c u)(n:∀o w,u≠.frz o w):Rd H2 c u:=by
 rcases r with r|⟨o,r⟩
 .exact .inl (v.keep r n)
 .rcases v c with h|⟨_,o',w,⟨h,_⟩,h2⟩
  .exact .inr ⟨o,by rw[h];exact r⟩
  .rw[r]at h;cases h;exact .inl h2
def Vw.none(v:Vw A H H2)(e:H c=VQ):H2 c=VQ:=by
 rcases v c with h|⟨_,o',w,⟨h,_⟩,h2⟩
 .rw[h];exact e
 .rw[e]at h;cases h
theorem zF.view{K:Q2}(e:Vw A H H'):∀{k:Kd}{a:Q9}{vs:al},zF K H k a vs->zF K H' k a vs
 |.ins c ks,a,vs,⟨C,dx,h0,h1,h2,h3⟩=>⟨C,dx,h0,h1,e.keep h2 (λ_ _ z=>by cases z),h3⟩
 |.dint ks,a,vs,⟨kvs,h1,h2,h3⟩=>⟨kvs,e.rd h1 (λ_ _ z=>by cases z),h2,h3⟩
 |.exf c ks,a,vs,⟨C,dx,fs,h1,h2,h3,h4⟩=>⟨C,dx,fs,h1,e.rd h2 (λ_ _ z=>by cases z),e.keep h3 (λ_ _ z=>by cases z),h4⟩
 |.pl,a,vs,h=>e.keep h (λ_ _ z=>by cases z)
 |.fn q,a,vs,⟨F,clos,c',t,m,pm,ctv,h0,h1,h2,h3,h4⟩=>⟨F,clos,c',t,m,pm,ctv,h0,h1,e.own h2,e.keep h3 (λ_ _ z=>by cases z),dN.view e h4⟩
mutual
theorem Rep.view{K:Q2}{A:Q9->Prop}{H H':Hp}(e:Vw A H H'):∀{d:D}{v:V},Rep K H d v->Rep K H' d v
 |.non,_,h=>by unfold Rep at h ⊢;exact h
 |.bl _,_,h=>by unfold Rep at h ⊢;exact h
 |.int _,_,h=>by unfold Rep at h ⊢;exact h
 |.str _,_,h=>by unfold Rep at h ⊢;exact h
 |.tup ds,_,h=>by
  unfold Rep at h ⊢;obtain⟨a,vs,e1,e2,e3⟩:=h;exact⟨a,vs,e1,e2.imp (λr=>e.rd r (λ_ _ z=>by cases z)) id,Reps.view e e3⟩
 |.lst ds,_,h=>by
  unfold Rep at h ⊢;obtain⟨a,vs,e1,e2,e3⟩:=h;exact⟨a,vs,e1,e2.imp (λr=>e.rd r (λ_ _ z=>by cases z)) id,Reps.view e e3⟩
 |.dic ks ds,_,h=>by
  unfold Rep at h ⊢;obtain⟨a,kvs,vs,e1,e2,e3,e4,e5⟩:=h;exact⟨a,kvs,vs,e1,e.rd e2 (λ_ _ z=>by cases z),e3,e4,Reps.view e e5⟩
 |.exc x,_,h=>by
  unfold Rep at h ⊢;obtain⟨a,C,dc,e1,e2,e3⟩:=h;exact⟨a,C,dc,e1,e2,e.rd e3 (λ_ _ z=>by cases z)⟩
 |.ob k ds,_,h=>by
  unfold Rep at h ⊢;obtain⟨a,vs,e1,e2,e3⟩:=h;exact⟨a,vs,e1,e2.view e,Reps.view e e3⟩
theorem Reps.view{K:Q2}{A:Q9->Prop}{H H':Hp}(e:Vw A H H'):∀{ds:ac}{vs:al},Reps K H ds vs->Reps K H' ds vs
 |[],_,h=>by unfold Reps at h ⊢;exact h
 |d::ds,_,h=>by
  unfold Reps at h ⊢;obtain⟨v,r,e1,e2,e3⟩:=h;exact⟨v,r,e1,Rep.view e e2,Reps.view e e3⟩
end
def cy.view{h:RA}(v:Vw A H H2)(x:cy P w H h a o):cy P w H2 h a o :=
 x.stay (λb u _ q=>q) (λb q=>v.keep q (λ_ _ z=>by cases z)) (λb xs q=>v.keep q (λ_ _ z=>by cases z)) λb o q=>v.keep q (λ_ _ z=>by cases z)
def DZ(ρ:Ev):Bool:=ρ.all λs=>match s with
 |.ow _=>false
 |.ox _ _=>false
 |_=>true
section
variable {K:Q2}{He η Ha H H2:Hp}{σ:L2.St}{ρ:Ev}{a:Q9}{st:ac}{vs:al}
def DZ.ow(h:DZ ρ=true){i:Nat}(e:ρ[i]?=some (.ow d)):False:=by
 have:=Ru.mp h _ (Rb e);cases this
def DZ.ox(h:DZ ρ=true){i j:Nat}(e:ρ[i]?=some (.ox j ds)):False:=by
 have:=Ru.mp h _ (Rb e);cases this
def eV.poke(h:eV K He η Ha σ H ρ)(n:DZ ρ=true)(hs:aE He H2)(hz:aE Ha H2):eV K He η Ha σ H2 ρ :=
 ⟨⟨hs,h.g.z,hz,h.g.nw⟩,h.rd,λi d e=>(DZ.ow n e).elim,λi j d d' _ e=>(DZ.ow n e).elim,h.ln,⟨λi j ds e=>(DZ.ox n e).elim,h.ex.2⟩⟩
def eV.dropT(h:eV K He η Ha σ H ρ):eV K He η Ha (σ.set i (some v)) H (ρ.set i .no):=by
 have key:∀(j:Nat) (s:Sl),(ρ.set i .no)[j]?=some s->s=.no∨(j≠i/\ρ[j]?=some s):=λj s e=>by
  by_cases hj:i=j
  .subst hj
   rw[TH]at e;cases q:ρ[i]? with|none=>rw[q]at e;cases e|some s'=>rw[q]at e;cases e;exact .inl rfl
  .rw[Q8 hj]at e
   exact .inr ⟨λz=>hj z.symm,e⟩
 refine⟨h.g,λj d' e=>?_,λj d' e=>?_,λj k d1 d2 hn e1 e2=>?_,by simp[h.ln],h.ex.upd (λj s e=>?_) (aE.refl _) (λa vs _ e=>e) λp us _ h0 hp _=>⟨hp,h0⟩⟩
 .rcases key j _ e with e'|⟨hj,e'⟩
  .cases e'
  .obtain⟨v',h1,h2⟩:=h.rd j d' e'
   exact⟨v',by rw[Q8 (R7 hj)];exact h1,h2⟩
 .rcases key j _ e with e'|⟨hj,e'⟩
  .cases e'
  .obtain⟨b,h1,h2⟩:=h.ow j d' e'
   exact⟨b,by rw[Q8 (R7 hj)];exact h1,h2⟩
 .rcases key j _ e1 with e'|⟨hj,e1'⟩
  .cases e'
  rcases key k _ e2 with e'|⟨hk,e2'⟩
  .cases e'
  rw[Q8 (R7 hj),Q8 (R7 hk)];exact h.ap j k d1 d2 hn e1' e2'
 .rcases key j _ e with e'|⟨hj,e'⟩
  .exact .inr (.inr (.inl e'))
  .exact .inl ⟨e',by rw[Q8 (R7 hj)]⟩
end
def Gi(s:aE H H'):aE (frz He Ha H) (frz He Ha H'):=λc o e=>by
 unfold frz at e ⊢;cases q:He c with|none=>rw[q]at e;exact s _ _ e|some _=>rw[q]at e;exact e
def vx(x:Nat)(d:D)(ρ:Ev):Ev:=(iH ρ).set x (.sh d)
section
variable {X:Cx}{E:XK}{He η:Hp}{a:Q9}{x:Nat}{st:Tr}{rest:List Tr}{e b c:R1}{pos:Pos}{f fk:am}{g:D->Ev->ac->av MFl}{s r:Ev->ac->av MFl}
def vN(js:ce)(ρ:Ev):Ev:=ρ.mapIdx λi s=>if js.contains i then s else .no
def Ga(h:(vN js ρ)[i]?=some (.sh d)):i∈js/\ρ[i]?=some (.sh d):=by
 unfold vN at h;rw[List.getElem?_mapIdx]at h;cases q:ρ[i]? with
 |none=>rw[q]at h;cases h
 |some s=>
  rw[q]at h;simp only[TN,SQ]at h
  by_cases c:js.contains i=true
  .rw[if_pos c]at h;exact⟨by simpa using c,by rw[h]⟩
  .rw[if_neg c]at h;cases h
end
mutual
/-- .. seen as any list -/
def fgt:D->D
 |.tup ds=>.tup (fgts ds)
 |.lst ds=>.lst (fgts ds)
 |.dic ks ds=>.dic ks (fgts ds)
 |.ob k ds=>match k with
  |.pl=>.lst (fgts ds)
  |k=>.ob k (fgts ds)
 |.non=>.non
 |.bl b=>.bl b
 |.int i=>.int i
 |.str x=>.str x
 |.exc x=>.exc x
def fgts:ac->ac
 |[]=>[]
 |d::ds=>fgt d::fgts ds
end
mutual
theorem Rep.fgt{K:Q2}{H:Hp}:∀{d:D}{v:V},Rep K H d v->Rep K H (fgt d) v
 |.non,_,h=>by rw[DL.fgt];exact h
 |.bl _,_,h=>by rw[DL.fgt];exact h
 |.int _,_,h=>by rw[DL.fgt];exact h
 |.str _,_,h=>by rw[DL.fgt];exact h
 |.exc _,_,h=>by rw[DL.fgt];exact h
 |.tup ds,_,h=>by
  obtain⟨a,vs,e1,e2,e3⟩:=aG.mp h;rw[DL.fgt];exact aG.mpr ⟨a,vs,e1,e2,Reps.fgt e3⟩
 |.lst ds,_,h=>by
  obtain⟨a,vs,e1,e2,e3⟩:=aB.mp h;rw[DL.fgt];exact aB.mpr ⟨a,vs,e1,e2,Reps.fgt e3⟩
 |.dic ks ds,_,h=>by
  rw[Rep]at h;obtain⟨a,kvs,vs,e1,e2,e3,e4,e5⟩:=h;rw[DL.fgt,Rep];exact⟨a,kvs,vs,e1,e2,e3,e4,Reps.fgt e5⟩
 |.ob k ds,_,h=>by
  obtain⟨a,vs,e1,e2,e3⟩:=aP.mp h;cases k with
  |pl=>rw[DL.fgt];exact aB.mpr ⟨a,vs,e1,fZ.of e2,Reps.fgt e3⟩
  |ins c ks=>rw[DL.fgt]<;>first|exact aP.mpr ⟨a,vs,e1,e2,Reps.fgt e3⟩|(intro z;cases z)
  |dint ks=>rw[DL.fgt]<;>first|exact aP.mpr ⟨a,vs,e1,e2,Reps.fgt e3⟩|(intro z;cases z)
  |exf c ks=>rw[DL.fgt]<;>first|exact aP.mpr ⟨a,vs,e1,e2,Reps.fgt e3⟩|(intro z;cases z)
  |fn q=>rw[DL.fgt]<;>first|exact aP.mpr ⟨a,vs,e1,e2,Reps.fgt e3⟩|(intro z;cases z)
theorem Reps.fgt{K:Q2}{H:Hp}:∀{ds:ac}{vs:al},Reps K H ds vs->Reps K H (fgts ds) vs
 |[],_,h=>by rw[fgts];exact h
 |d::ds,_,h=>by
  obtain⟨v,r,rfl,h1,h2⟩:=az.mp h;rw[fgts];exact Reps.cons (Rep.fgt h1) (Reps.fgt h2)
end
section
variable {X:Cx}{E:XK}{e:R1}{f:am}
def GN(f:am):am:=λρ=>(f ρ).bind λd=>.ok (fgt d)
def xq(he:DE X E e f):DE X E e (GN f):=⟨bo he.o λσ H Q ⟨Ha,ρ,hs,hr,q⟩=>⟨Ha,ρ,hs,hr,by
 unfold GN at q;cases e1:f ρ with
 |stuck|exn x=>rw[e1]at q;exact q
 |ok d=>rw[e1]at q;exact λv H' Ha' g r=>q v H' Ha' g r.fgt⟩⟩
def Pp(d:D):av D:=match d with
 |.lst ds=>.ok (.ob .pl ds)
 |_=>.stuck
def Aj(f:am):am:=λρ=>(f ρ).bind Pp
def Oe(he:DF X E e f):DE X E e (Aj f):=⟨bo he.o λσ H Q ⟨Ha,ρ,hs,hr,q⟩=>⟨Ha,ρ,hs,hr,by
 unfold Aj at q;cases e1:f ρ with
 |stuck|exn x=>rw[e1]at q;exact q
 |ok d=>
  rw[e1]at q;cases d with
  |lst ds=>
   intro p vs H' Ha' g hp h0 hv rp;have z:aE Ha' (upd Ha' p (.lst vs)):=λb o e=>by rw[aF (by intro z;subst z;rw[h0]at e;cases e)];exact e
   refine q (.ref p) H' (upd Ha' p (.lst vs)) ⟨g.s,g.z.trans z,λb o e=>?_,λb h1 h2=>?_⟩ (aP.mpr ⟨p,vs,rfl,aL,rp.mono z⟩)
   .by_cases c:b=p
    .subst c;rw[aL]at e;cases e;exact hv
    .rw[aF c]at e;exact g.sub _ _ e
   .by_cases c:b=p
    .subst c;exact hp
    .rw[aF c]at h1;exact g.nw b h1 h2
  |_=>exact q.elim⟩⟩
end
def P6(J Jf:Hp):Prop:=∀c,Jf c=J c∨∃us o,J c=some (.lst us)/\Jf c=some (.frz o (.lst us))
mutual
theorem Rep.frv{K:Q2}{J Jf:Hp}(e:P6 J Jf):∀{d:D}{v:V},dE d=true->Rep K J d v->Rep K Jf d v
 |.non,_,_,h=>by unfold Rep at h ⊢;exact h
 |.bl _,_,_,h=>by unfold Rep at h ⊢;exact h
 |.int _,_,_,h=>by unfold Rep at h ⊢;exact h
 |.str _,_,_,h=>by unfold Rep at h ⊢;exact h
 |.tup ds,_,p,h=>by
  obtain⟨a,vs,rfl,e2,e3⟩:=aG.mp h;unfold dE at p;refine aG.mpr ⟨a,vs,rfl,e2.imp (λr=>?_) id,Reps.frv e p e3⟩;rcases e a with q|⟨us,o,q,_⟩
  .unfold Rd;rw[q];exact r
  .rcases r with r|⟨_,r⟩<;>rw[q]at r<;>cases r
 |.lst ds,_,p,h=>by
  obtain⟨a,vs,rfl,e2,e3⟩:=aB.mp h;unfold dE at p;refine aB.mpr ⟨a,vs,rfl,e2.imp (λr=>?_) id,Reps.frv e p e3⟩;rcases e a with q|⟨us,o,q,q2⟩
  .unfold Rd;rw[q];exact r
  .rcases r with r|⟨_,r⟩
   .rw[q]at r;cases r;exact .inr ⟨o,q2⟩
   .rw[q]at r;cases r
 |.dic _ _,_,p,_=>by unfold dE at p;cases p
 |.exc _,_,p,_=>by unfold dE at p;cases p
 |.ob _ _,_,p,_=>by unfold dE at p;cases p
theorem Reps.frv{K:Q2}{J Jf:Hp}(e:P6 J Jf):∀{ds:ac}{vs:al},plainDs ds=true->Reps K J ds vs->Reps K Jf ds vs
 |[],_,_,h=>by rw[Reps.nil_iff.mp h];exact Reps.nil
 |d::ds,_,p,h=>by
  obtain⟨v,r,rfl,h1,h2⟩:=az.mp h;unfold plainDs at p;rw[Rn]at p;exact Reps.cons (Rep.frv e p.1 h1) (Reps.frv e p.2 h2)
end
open Classical in
noncomputable def va(h:RA) (S:Q9->Prop) (H:Hp):Hp:=λc=>match H c with
 |some (.lst us)=>if S c then(match h.get? c with|some o=>some (.frz o (.lst us))|none=>some (.lst us)) else some (.lst us)
 |o=>o
open Classical in
noncomputable def p6(S:Q9->Prop) (H H1:Hp):Hp:=λc=>if S c/\∃us,H c=some (.lst us) then H c else H1 c
section
variable {h:RA}{S:Q9->Prop}{H H1:Hp}{c:Q9}
def BU(hc:S c)(e:H c=some (.lst us))(eo:h.get? c=some o):va h S H c=some (.frz o (.lst us)):=by
 unfold va;rw[e];simp only;rw[if_pos hc,eo]
def iK(hc:¬(S c/\∃us,H c=some (.lst us))):va h S H c=H c:=by
 unfold va;cases q:H c with
 |none=>rfl
 |some o=>
  cases o with|lst us=>simp only;rw[if_neg λz=>hc ⟨z,us,q⟩]| _=>rfl
def om(hc:S c/\∃us,H c=some (.lst us)):p6 S H H1 c=H c:=if_pos hc
def jI(hc:¬(S c/\∃us,H c=some (.lst us))):p6 S H H1 c=H1 c:=if_neg hc
def IY(ok:jt P w H h):jt P w (va h S H) h:=λa o e=>by
 have st:∀{u:HO},cy P w H h a u->cy P w (va h S H) h a u:=λx=>x.stay (λb u _ q=>q) (λb q=>by rw[iK (λz=>by obtain⟨_,us,z⟩:=z;rw[q]at z;cases z)];exact q) (λb xs q=>by rw[iK (λz=>by obtain⟨_,us,z⟩:=z;rw[q]at z;cases z)];exact q) λb xs q=>by rw[iK (λz=>by obtain⟨_,us,z⟩:=z;rw[q]at z;cases z)];exact q
 by_cases hc:S a/\∃us,H a=some (.lst us)
 .obtain⟨h1,us,ea⟩:=hc
  have x:=ok a _ ea;obtain⟨_,its,n,_,eo⟩:=id x;rw[BU h1 ea eo]at e;cases e;exact⟨eo,st x⟩
 .rw[iK hc]at e;exact st (ok a o e)
end
mutual
theorem Ft.some_of{K:Q2}{H:Hp}{b:Q9}:∀{d:D}{v:V},Ft K H d v b->H b≠none
 |.non,_,h=>by unfold Ft at h;exact h.elim
 |.bl _,_,h=>by unfold Ft at h;exact h.elim
 |.int _,_,h=>by unfold Ft at h;exact h.elim
 |.str _,_,h=>by unfold Ft at h;exact h.elim
 |.dic _ _,_,h=>by unfold Ft at h;exact h.elim
 |.exc _,_,h=>by unfold Ft at h;exact h.elim
 |.ob _ _,_,h=>by unfold Ft at h;exact h.elim
 |.tup ds,_,h=>by
  unfold Ft at h;obtain⟨a,vs,rfl,⟨rfl,h⟩|⟨_,h⟩⟩:=h
  .rcases h with h|⟨_,h⟩<;>rw[h]<;>simp
  .exact Fts.some_of h
 |.lst ds,_,h=>by
  unfold Ft at h;obtain⟨a,vs,rfl,⟨rfl,h,_⟩|⟨_,_,h⟩⟩:=h
  .rcases h with h|⟨_,h⟩<;>rw[h]<;>simp
  .exact Fts.some_of h
theorem Fts.some_of{K:Q2}{H:Hp}{b:Q9}:∀{ds:ac}{vs:al},Fts K H ds vs b->H b≠none
 |[],_,h=>by unfold Fts at h;exact h.elim
 |d::ds,[],h=>by unfold Fts at h;exact h.elim
 |d::ds,v::vs,h=>by
  unfold Fts at h;rcases h with h|h
  .exact Ft.some_of h
  .exact Fts.some_of h
end
def Qd(r:Fl):av Fl:=match r with
 |.rt d=>.ok (.rt d)
 |_=>.stuck
end DL
namespace DL
open PySem L2
section
variable {α β:Type}
def Rf(a b:av α):Prop:=a=.stuck∨a=b
def dD{f g:α->av β}(h:Rf a b)(k:∀x,Rf (f x) (g x)):Rf (a.bind f) (b.bind g):=by
 rcases h with rfl|rfl
 .exact .inl rfl
 .cases a with
  |ok x=>exact k x
  |exn x=>exact .inr rfl
  |stuck=>exact .inl rfl
structure ma (f g:Ev->av α):Prop where
 o:∀ρ,Rf (f ρ) (g ρ)
end
structure OR (f g:ac->av D):Prop where
 o:∀ds,Rf (f ds) (g ds)
def OR.ok(h:OR f g)(e:f ds=.ok d):g ds=.ok d:=by
 rcases h.o ds with q|q
 .rw[q]at e;cases e
 .rw[←q];exact e
def rfm_refl:OR f f:=⟨λ_=>.inr rfl⟩
def rf_refl{f:Ev->av α}:ma f f:=⟨λ_=>.inr rfl⟩
section
variable {s s' t t':bi}{c c' f f':am}{fa fa':Ev->av (ac)}{m m':ac->av D}
def rf_stuck:ma dg s:=⟨λ_=>.inl rfl⟩
def rf_seq(h1:ma s s')(h2:ma t t'):ma (aq s t) (aq s' t'):=⟨λρ=>dD (h1.o ρ) λr=>by
 cases r with
 |nx ρ'=>exact h2.o ρ'
 |_=>exact .inr rfl⟩
def rf_if(hc:ma c c')(h1:ma s s')(h2:ma t t'):ma (cM c s t) (cM c' s' t'):=⟨λρ=>dD (hc.o _) λr=>by
 cases r with
 |bl b=>cases b with
  |true=>exact h1.o ρ
  |false=>exact h2.o ρ
 |_=>exact .inr rfl⟩
theorem qw(h:ma s s'):∀(ds:ac) (ρ:Ev),Rf (cm tg s ds ρ) (cm tg s' ds ρ)
 |[],ρ=>.inr rfl
 |d::r,ρ=>by
  unfold cm;refine dD (.inr rfl) λρ1=>dD (h.o ρ1) λx=>?_;cases x with|nx ρ2|ct ρ2=>exact qw h r ρ2|bk ρ2|rt d=>exact .inr rfl
def rf_for(hf:ma f f')(h:ma s s'):ma (kF f tg s) (kF f' tg s'):=⟨λρ=>dD (hf.o ρ) λd=>by
 cases d with
 |lst ds=>exact qw h ds ρ
 |_=>exact .inr rfl⟩
def rf_forI(h:ma s s'):ma (gB src tg s) (gB src tg s'):=⟨λρ=>dD (.inr rfl) λds=>qw h ds ρ⟩
def rf_drop(h:ma f f'):ma (gC f) (gC f'):=⟨λρ=>dD (h.o _) λ_=>.inr rfl⟩
def rf_ret(h:ma f f'):ma (aW f) (aW f'):=⟨λρ=>dD (h.o _) λ_=>.inr rfl⟩
def rf_set(h:ma f f'):ma (aJ i f) (aJ i f'):=⟨λρ=>dD (h.o _) λ_=>.inr rfl⟩
def rf_b1(h:ma f f'):ma (aQ f op) (aQ f' op):=⟨λρ=>dD (h.o _) λ_=>.inr rfl⟩
def rf_not(h:ma f f'):ma (cg f) (cg f'):=rf_b1 h
def rf_b2(h:ma f f')(h2:ma c c'):ma (aa f c op) (aa f' c' op):=⟨λρ=>dD (h.o _) λ_=>dD (h2.o _) λ_=>.inr rfl⟩
def rf_bA(h:ma fa fa')(hm:OR m m'):ma (ao fa m) (ao fa' m'):=⟨λρ=>dD (h.o _) λds=>hm.o ds⟩
def rf_cons(h:ma f f')(h2:ma fa fa'):ma (af f fa) (af f' fa'):=⟨λρ=>dD (h.o _) λ_=>dD (h2.o _) λ_=>.inr rfl⟩
end
end DL
local macro_rules|`(tactic|open_line with[rf_go])=>`(tactic|repeat (first|with_reducible exact DL.rf_refl|with_reducible exact DL.rf_stuck|with_reducible assumption|with_reducible exact DL.rfm_refl|with_reducible refine DL.rf_seq ?_ ?_|with_reducible refine DL.rf_if ?_ ?_ ?_|with_reducible refine DL.rf_for ?_ ?_|with_reducible refine DL.rf_forI ?_|with_reducible refine DL.rf_drop ?_|with_reducible refine DL.rf_ret ?_|with_reducible refine DL.rf_set ?_|with_reducible refine DL.rf_not ?_|with_reducible refine DL.rf_bA ?_ ?_|with_reducible refine DL.rf_cons ?_ ?_|with_reducible refine DL.rf_b1 ?_|with_reducible refine DL.rf_b2 ?_ ?_))
namespace Wex
open PySem L2 DL Com
def m_look_at_web:ac->av D:=br 1 gs
noncomputable def cL:bi :=
 (aq (gC (ao (af (ae 0) ax) m_look_at_web))
 (aq (cM (cg (aQ (ae 1) (gL "list")))
 (aq (oN "NoTaking" (af (dC (.str "a taking is a list")) ax))
 ak)
 ak)
 (aq (aJ 2 (aQ (dC (.int 1)) jF))
 (aq (kF (ae 1) (bF 3)
 (aq (cM (gZ (cg (ao (af (ae 0) (af (ae 3) ax)) m_is_tie_number)) (aa (ae 3) (ae 2) Js))
 (aq (oN "NoTaking" (af (dC (.str "a taking is of rising numbers of ties")) ax))
 ak)
 ak)
 (aq (cM (aa (aa (aa (aa (ae 0) (dC (.int 1)) aC) (ae 3) aC) (dC (.int 4)) aC) (dC (.non)) vb)
 (aq (oN "NoTaking" (af (dC (.str "a watched tie can't be taken")) ax))
 ak)
 ak)
 (aq (aJ 2 (ae 3))
 ak))))
 ak))))
def m_look_at_taking:ac->av D:=br 4 cL
end Wex
namespace Nwb
open PySem L2 DL Com
def m_look_at_web:ac->av D:=br 1 gs
end Nwb
namespace DL
open PySem PySem.Spec PyProof.Rows L2
def OE(S:Q9->Prop)(H Hf:Hp):Prop:=∀c,((S c/\∃us,H c=some (.lst us))->∃us o,H c=some (.lst us)/\Hf c=some (.frz o (.lst us)))/\(¬(S c/\∃us,H c=some (.lst us))->Hf c=H c)
def LW{h:RA}{S:Q9->Prop}(ok:jt P w H h):OE S H (va h S H):=λc=>
 ⟨λz9=>by
  obtain⟨h1,us,e⟩:=z9;obtain⟨_,its,n,_,eo⟩:=ok c _ e;exact⟨us,_,e,BU h1 e eo⟩,λhc=>iK hc⟩
def A9{S:Q9->Prop}(I:Inv X π σ H s):Inv X π σ (va s.heap S H) s:=by
 have hout:∀c,H c=none->va s.heap S H c=none:=λc e=>by
  rw[iK (λz=>by obtain⟨_,us,z⟩:=z;rw[e]at z;cases z)];exact e
 have keep:∀b u,H b=some u->(∀us,u≠.lst us)->va s.heap S H b=some u:=λb u e n=>by
  rw[iK (λz=>by obtain⟨_,us,z⟩:=z;rw[e]at z;cases z;exact n us rfl)];exact e
 refine⟨I.ok,I.os,I.bare,⟨I.base.keep,I.base.slot,λb o e n hx=>hout _ (I.base.free b o e n hx),I.base.there,λb xs e=>keep _ _ (I.base.tups b xs e) (λ_ z=>by cases z),λb o u e=>keep _ _ (I.base.frzs b o u e) (λ_ z=>by cases z),λb ps e=>?_⟩,I.loc,I.cell,hout _ I.free,λx c e=>hout _ (I.freeC x c e),λp hp=>?_,IY I.hok,I.len⟩
 .obtain⟨m,h1⟩:=I.base.tbls b ps e
  exact⟨m,keep _ _ h1 (λ_ z=>by cases z)⟩
 .obtain⟨h1,h2,h3⟩:=I.pin p hp
  exact⟨h1,hout _ h2,h3⟩
def Af{st:List Tr}(h:uP X st t):uP X st λG σ H=>∃S,∀Hf,OE S H Hf->t G σ Hf :=
 λπ s σ H G I ⟨S,q⟩=>h π s σ _ G (A9 I) (q _ (LW I.hok))
def DU(v:Vw (λc=>∀o u,X.Ha c≠some (.frz o u)) H H2)(I:Inv X π σ H s):Inv X π σ H2 s:=by
 refine⟨I.ok,I.os,I.bare,⟨I.base.keep,I.base.slot,λb o e n hx=>v.none (I.base.free b o e n hx),I.base.there,λb xs e=>v.keep (I.base.tups b xs e) (λ_ _ z=>by cases z),λb o u e=>?_,λb ps e=>?_⟩,I.loc,I.cell,v.none I.free,λx c e=>v.none (I.freeC x c e),λp hp=>?_,λa o e=>?_,I.len⟩
 .have h1:=I.base.frzs b o u e
  rcases v b with h|⟨h,_⟩
  .rw[h];exact h1
  .exact absurd e (h o u)
 .obtain⟨m,h1⟩:=I.base.tbls b ps e
  exact⟨m,v.keep h1 (λ_ _ z=>by cases z)⟩
 .obtain⟨h1,h2,h3⟩:=I.pin p hp
  exact⟨h1,v.none h2,h3⟩
 .rcases v a with h|⟨_,ob,u,⟨h,_⟩,h2⟩
  .rw[h]at e;exact cy.view v (I.hok a o e)
  .rw[h2]at e;obtain rfl:u=o:=Sf e
   obtain⟨_,q⟩:=(show cy X.prog X.w H s.heap a (.frz ob u) from I.hok a _ h)
   exact cy.view v q
def CK{st:List Tr}(h:uP X st t):uP X st λG σ H=>∃H2,Vw (λc=>∀o u,X.Ha c≠some (.frz o u)) H H2/\t G σ H2 :=
 λπ s σ H G I ⟨H2,v,q⟩=>h π s σ H2 G (DU v I) q
structure TP (K:Q2) (He Ha:Hp) (σ:L2.St) (H:Hp) (x:Nat) (d:D):Prop where
 p:∃t a0 us0 a1 us1 wr,σ[x]?=some (some (.ref t))/\l9 K H t (.ref a0::.ref a1::wr)/\Rep K (frz He Ha H) d (.ref t)/\H a0=some (.lst us0)/\He a0=none/\Ha a0=none/\H a1=some (.lst us1)/\He a1=none/\Ha a1=none/\us1.length<line
def TP.same{K:Q2}(h:TP K He Ha σ H x d)(s:aE H H'):TP K He Ha σ H' x d:=by
 obtain⟨t,a0,us0,a1,us1,wr,h1,h2,h3,h4,h5,h6,h7,h8,h9,hl⟩:=h;exact⟨t,a0,us0,a1,us1,wr,h1,aE.sqT s h2,h3.mono (Gi s),s _ _ h4,h5,h6,s _ _ h7,h8,h9,hl⟩
def TP.looks{K:Q2}(t:TP K He Ha σ H x d)(h:eV K He η Ha σ H ρ):eW K (frz He Ha H) σ (vx x d ρ):=λi d' e=>by
 obtain⟨t,a0,us0,a1,us1,wr,h1,h2,h3,_⟩:=t;unfold vx at e
 by_cases c:x=i
 .subst c
  rw[TH]at e;cases q:(iH ρ)[x]? with|none=>rw[q]at e;cases e|some s=>rw[q]at e;cases e;exact⟨_,h1,h3⟩
 .rw[Q8 c]at e
  exact h.looks i d' e
def Qv(K:Q2)(E:XK)(He η:Hp)(x:Nat)(g:D->bi):TS:=λG σ H=>∃Ha ρ d,eV K He η Ha σ H ρ/\TP K He Ha σ H x d/\bQ K E He η Ha (g d ρ) G
structure MN (X:Cx) (E:XK) (He η:Hp) (x:Nat) (st:List Tr) (g:D->bi):Prop where
 o:uP X st (Qv X.K E He η x g)
def NL(js:ce)(ρ:Ev):Bool:=js.all λj=>match ρ[j]? with
 |some (.sh d)=>dE d
 |_=>true
def MH(d:D):Bool:=match d with
 |.tup (.ob .pl _::.ob .pl es::_)=>decide (es.length<line)
 |_=>false
section
variable {X:Cx}{E:XK}{He η:Hp}{x:Nat}{st:Tr}{rest:List Tr}{e c:R1}{pos:Pos}{f:am}{g:D->bi}{s r:bi}
def zT(x:Nat)(f:am)(s:bi)(g:D->bi):D->bi:=λd ρ=>(f (vx x d ρ)).bind λb=>match b with
 |.bl true=>(s ρ).bind Qd
 |.bl false=>g d ρ
 |_=>.stuck
def MZ(hc:DT X E c f)(hb:zL X E He η body s)(hr:MN X E He η x rest g):MN X E He η x (.If c body [] pos::rest) (zT x f s g):=by
 refine⟨?_⟩;refine gD (iI (J4 hc.o hb.o wO) hr.o) λG σ H ⟨Ha,ρ,d,h,t,q⟩=>?_;refine⟨frz He Ha H,vx x d ρ,h.frz_le,t.looks h,?_⟩;unfold zT at q;cases e1:f (vx x d ρ) with
 |stuck=>rw[e1]at q;exact q|exn y=>rw[e1]at q;exact λC ox H' Ha' g1 ex=>q C ox H' Ha' (h.frz_grow.trans g1) ex
 |ok y=>
  rw[e1]at q;cases y with
  |bl y=>
   cases y with
   |true=>
    intro H' J g1;show if true=true then _ else _
    rw[if_pos rfl];refine⟨Ha,ρ,h.same g1.s,?_⟩;replace q:bQ X.K E He η Ha ((s ρ).bind Qd) G:=q;cases e2:s ρ with
    |stuck|exn z=>rw[e2]at q;exact q
    |ok z=>
     rw[e2]at q;cases z with|rt d'=>exact q| _=>exact q.elim
   |false=>
    intro H' J g1;show if false=true then _ else _
    rw[if_neg (by decide)];exact⟨Ha,ρ,d,h.same g1.s,t.same g1.s,q⟩
  |_=>exact q.elim
def lz(r:bi):D->bi:=λ_ ρ=>if DZ ρ=true then r ρ else .stuck
def rh(x:Nat)(js:ce)(f:am)(g:D->bi):bi:=λρ=>match f (vN js ρ) with
 |.ok d=>if NL js ρ=true/\MH d=true/\x<ρ.length then g d (ρ.set x .no) else .stuck
 |_=>.stuck
def Dl(js:ce)(hN:X.N.Nodup)(hi:X.N[x]?=some y)(hx:DR X.env.scope y)(hE:aE X.Ha He)(he:DE X E e f)(hr:MN X E He η x rest g)(hs:SD e (some (.Name y pos')) pos.line X.env=pure false:=by rfl)
  (hf:X.fn y=true∨X.env.scope.names.lookup y=some .local := by first|exact .inl rfl|exact .inr rfl|assumption):zL X E He η (.Assign [.Name y pos'] e pos::rest) (rh x js f g):=by
 refine⟨?_⟩;refine gD (Af (iI (mr hN hi hx he.o hs hf) (CK hr.o))) λG σ H ⟨Ha,ρ,h,q⟩=>?_;unfold rh at q;cases e1:f (vN js ρ) with
 |stuck|exn z=>rw[e1]at q;exact q.elim
 |ok d=>
  rw[e1]at q;replace q:bQ X.K E He η Ha (if NL js ρ=true/\MH d=true/\x<ρ.length then g d (ρ.set x .no) else .stuck) G:=q
  by_cases hc:NL js ρ=true/\MH d=true/\x<ρ.length
  rotate_left
  .rw[if_neg hc]at q;exact q.elim
  rw[if_pos hc]at q;obtain⟨hp,hd,hxl⟩:=hc
  let S:Q9->Prop:=λb=>∃j∈js,∃dj v,ρ[j]?=some (.sh dj)/\σ[j]?=some (some v)/\Ft X.K Ha dj v b
  have s0:∀b,S b->Ha b≠none:=λb ⟨_,_,_,_,_,_,hb⟩=>Ft.some_of hb;refine⟨S,λHf hF=>?_⟩;have hfr:P6 (rst Ha S) (rst Hf S):=λc=>by
   by_cases sc:S c
   .rw[oO sc,oO sc]
    cases q0:Ha c with
    |none=>exact absurd q0 (s0 c sc)
    |some o=>
     have hH:=h.g.sub _ _ q0
     by_cases hc:S c/\∃us,H c=some (.lst us)
     .obtain⟨us,ob,z,z2⟩:=(hF c).1 hc
      rw[hH]at z;cases z;exact .inr ⟨us,ob,rfl,z2⟩
     .exact .inl (by rw[(hF c).2 hc,hH])
   .left;unfold rst;rw[if_neg sc,if_neg sc]
  have pj:∀j∈js,∀d',ρ[j]?=some (.sh d')->dE d'=true:=λj hj d' ej=>by
   have:=Ru.mp hp j hj;rw[ej]at this;exact this
  refine⟨rst Hf S,vN js ρ,EN,λi di ei=>?_,?_⟩
  .obtain⟨hj,ei⟩:=Ga ei
   obtain⟨v,h1,h2⟩:=h.rd i di ei;exact⟨v,h1,Rep.frv hfr (pj i hj di ei) (Rep.rst (pj i hj di ei) h2 λb hb=>⟨i,hj,di,v,ei,h1,hb⟩)⟩
  rw[e1];intro v H' Hm g1 rp;have hout:∀c,H c=none->Hf c=none:=λc z=>by rw[(hF c).2 (λy=>by obtain⟨_,us,y⟩:=y;rw[z]at y;cases y)];exact z
  have hin:∀c,Hf c=none->H c=none:=λc z=>by
   by_cases hc:S c/\∃us,H c=some (.lst us)
   .obtain⟨us,ob,z1,z2⟩:=(hF c).1 hc
    rw[z]at z2;cases z2
   .rw[←(hF c).2 hc];exact z
  have vw:∀{J:Hp},(∀c,S c->Hf c≠none->J c=Hf c)->Vw (λc=>∀o u,X.Ha c≠some (.frz o u)) J (p6 S H J):=λ{J} hJ c=>by
   by_cases hc:S c/\∃us,H c=some (.lst us)
   .obtain⟨us,ob,z1,z2⟩:=(hF c).1 hc
    refine .inr ⟨λo u z=>?_,ob,.lst us,⟨by rw[hJ c hc.1 (by rw[z2];simp)];exact z2,λ_ z=>by cases z⟩,by rw[om hc];exact z1⟩;have:=h.g.s _ _ (hE _ _ z);rw[z1]at this;cases this
   .exact .inl (jI hc)
  have sH:aE H (p6 S H H'):=λc o z=>by
   by_cases hc:S c/\∃us,H c=some (.lst us)
   .rw[om hc];exact z
   .rw[jI hc];exact g1.s _ _ (by rw[(hF c).2 hc];exact z)
  have nopl:∀c us,Hm c=some (.lst us)->H c=none/\H' c=some (.lst us):=λc us z=>by
   refine⟨?_,g1.sub _ _ z⟩;cases q0:rst Hf S c with
   |none=>exact hin _ (g1.nw c (by rw[z];simp) q0)
   |some o=>
    exfalso;have y:=g1.z _ _ q0;rw[z]at y;cases y;have sc:S c:=Bq (by rw[q0];simp);rw[oO sc]at q0
    by_cases hc:S c/\∃us,H c=some (.lst us)
    .obtain⟨us',ob,z1,z2⟩:=(hF c).1 hc
     rw[z2]at q0;cases q0
    .exact hc ⟨sc,us,by rw[←(hF c).2 hc];exact q0⟩
  have hback:∀{c:Q9},H c=none->∀{J:Hp},p6 S H J c=J c:=λ{c} z {J}=>jI (λ⟨_,us,y⟩=>by rw[z]at y;cases y);have h1:=(h.same sH).dropT (i:=x) (v:=v);have hJm:∀c,S c->Hf c≠none->Hm c=Hf c:=λc sc n=>by
   cases q0:Hf c with|none=>exact absurd q0 n|some o=>exact g1.z _ _ (by rw[oO sc];exact q0)
  have hJ':∀c,S c->Hf c≠none->H' c=Hf c:=λc sc n=>by
   cases q0:Hf c with|none=>exact absurd q0 n|some o=>exact g1.s _ _ q0
  have sF:aE (p6 S H Hm) (frz He Ha (p6 S H H')):=λc o z=>by
   unfold frz
   by_cases hc:S c/\∃us,H c=some (.lst us)
   .rw[om hc]at z
    cases q1:He c with
    |none=>simp only;rw[om hc];exact z
    |some o1=>
     simp only;cases q2:Ha c with|none=>exact absurd q2 (s0 c hc.1)|some o2=>rw[←z];exact(h.g.sub _ _ q2).symm
   .rw[jI hc]at z
    cases q1:He c with
    |none=>simp only;rw[jI hc];exact g1.sub _ _ z
    |some o1=>
     simp only;have hH:=h.g.s _ _ q1;cases q2:rst Hf S c with
     |none=>
      have:=hin _ (g1.nw c (by rw[z];simp) q2);rw[hH]at this;cases this
     |some o2=>
      have y:=g1.z _ _ q2;rw[z]at y;cases y;have sc:S c:=Bq (by rw[q2];simp);rw[oO sc,(hF c).2 hc]at q2;cases q3:Ha c with|none=>exact absurd q3 (s0 c sc)|some o3=>rw[←q2];exact(h.g.sub _ _ q3).symm
  have rp2:=(rp.view (vw hJm)).mono sF;unfold MH at hd;split at hd
  rotate_left
  .cases hd
  rename_i es0 es dr;have hl:es.length<line:=by simpa using hd
  obtain⟨t,ws,rfl,ht,hw⟩:=aG.mp rp;obtain⟨v0,_,rfl,r0,hw⟩:=az.mp hw;obtain⟨v1,wr,rfl,r1,hw⟩:=az.mp hw;obtain⟨a0,us0,rfl,c0,_⟩:=aP.mp r0;obtain⟨a1,us1,rfl,c1,rs1⟩:=aP.mp r1;have k0:=nopl a0 us0 c0;have k1:=nopl a1 us1 c1;refine⟨p6 S H H',vw hJ',Ha,ρ.set x .no,_,h1,⟨t,a0,us0,a1,us1,wr,by rw[RT (by rw[←h.ln];exact hxl)],?_,rp2,?_,h.g.s.free k0.1,h.g.sub.free k0.1,?_,h.g.s.free k1.1,h.g.sub.free k1.1,by rw[←rs1.length];exact hl⟩,q⟩
  .refine ht.imp (λz=>?_) id
   exact(vw hJ').rd (aE.rd g1.sub z) (λ_ _ z=>by cases z)
  .rw[hback k0.1];exact k0.2
  .rw[hback k1.1];exact k1.2
end
def Gz(hN:X.N.Nodup)(hi:X.N[i]?=some x)(hx:X.env.scope.names.lookup x=some .local)(he:MQ X E e f)(hs:SD e (some (.Name x pos')) pos.line X.env=pure true:=by rfl):DS X E He η (.Assign [.Name x pos'] e pos) (aJ i (Aj f)):=by
 refine⟨cB (he.st hN hi hx hs) λD σ H z9=>?_⟩;obtain⟨Ha,ρ,h,q⟩:=z9;refine⟨Ha,ρ,h.g.sub,h.rd,?_⟩;unfold aJ Aj at q;cases e1:f ρ with
 |stuck=>rw[e1]at q;exact q|exn x=>rw[e1]at q;exact λC ox H' Ha' g ex=>q C ox H' Ha' (h.g.trans g) ex
 |ok d=>
  rw[e1]at q;cases d with
  |lst ds=>
   intro p vs H' Ha' g hp h0 hv rp;have z:aE Ha' (upd Ha' p (.lst vs)):=λb o e=>by rw[aF (by intro z;subst z;rw[h0]at e;cases e)];exact e
   have g':bj H Ha H' (upd Ha' p (.lst vs)):=by
    refine⟨g.s,g.z.trans z,λb o e=>?_,λb h1 h2=>?_⟩
    .by_cases c:b=p
     .subst c;rw[aL]at e;cases e;exact hv
     .rw[aF c]at e;exact g.sub _ _ e
    .by_cases c:b=p
     .subst c;exact hp
     .rw[aF c]at h1;exact g.nw b h1 h2
   exact q _ H' _ g'.z ((h.grow g').put (aP.mpr ⟨p,vs,rfl,aL,rp.mono z⟩))
  |_=>exact q.elim
def TP.grow{K:Q2}(h:TP K He Ha σ H x d)(g:bj H Ha H' Ha'):TP K He Ha' σ H' x d:=by
 obtain⟨t,a0,us0,a1,us1,wr,h1,h2,h3,h4,h5,h6,h7,h8,h9,hl⟩:=h;have sF:aE (frz He Ha H) (frz He Ha' H'):=λc o e=>by
  unfold frz at e ⊢;cases q:He c with|none=>rw[q]at e;exact g.s _ _ e|some _=>rw[q]at e;exact g.z _ _ e
 exact⟨t,a0,us0,a1,us1,wr,h1,aE.sqT g.s h2,h3.mono sF,g.s _ _ h4,h5,g.keeps h4 h6,g.s _ _ h7,h8,g.keeps h7 h9,hl⟩
end DL
namespace K11
open PySem L2 DL
abbrev m_look_at_web:ac->av D:=Com.m_look_at_web
abbrev m_is_tie_number:ac->av D:=Com.m_is_tie_number
abbrev m_look_at_taking:ac->av D:=Com.m_look_at_taking
end K11
namespace K12
open PySem L2 DL
abbrev m_look_at_web:ac->av D:=Com.m_look_at_web
abbrev m_is_tie_number:ac->av D:=Com.m_is_tie_number
abbrev m_look_at_taking:ac->av D:=Com.m_look_at_taking
end K12
namespace K51
open PySem L2 DL
def jb:bi :=
 (aq (aW (aa (aa (aa (ae 0) (dC (.int 0)) aC) (aa (ae 1) (dC (.int 1)) aC) bE) (aa (aa (ae 1) (dC (.int 0)) aC) (aa (ae 0) (dC (.int 1)) aC) bE) zk))
 ak)
def cJ:ac->av D:=br 2 jb
abbrev m_is_length:ac->av D:=Com.m_is_length
abbrev m_look_at_web:ac->av D:=Com.m_look_at_web
noncomputable def b_has_lengths:bi :=
 (aq (cM (gZ (cg (aQ (ae 1) (gL "list"))) (aa (ao (af (ae 1) ax) (m1 dP)) (ao (af (aa (ae 0) (dC (.int 1)) aC) ax) (m1 dP)) gO))
 (aq (aW (dC (.bl false)))
 ak)
 ak)
 (aq (aW (ao (af (cE 1 [] (jP (ae 1)) (bF 0) mYes (ao (af (ae 0) ax) m_is_length)) ax) (m1 ug)))
 ak))
def m_has_lengths:ac->av D:=br 2 b_has_lengths
abbrev m_is_tie_number:ac->av D:=Com.m_is_tie_number
abbrev m_look_at_taking:ac->av D:=Com.m_look_at_taking
end K51
namespace K17
open PySem L2 DL
abbrev m_look_at_web:ac->av D:=Com.m_look_at_web
abbrev m_is_tie_number:ac->av D:=Com.m_is_tie_number
abbrev m_look_at_taking:ac->av D:=Com.m_look_at_taking
end K17
namespace K11
open PySem L2 DL Com
def eZ:fJ (.str x) (.str y)=.ok (.bl (decide (x=y))):=by
 have h:fJ (.str x) (.str y)=.ok (.bl (x==y)):=rfl;rw[h]
 by_cases e:x=y
 .rw[decide_eq_true e,e,beq_self_eq_true]
 .rw[decide_eq_false e,beq_eq_false_iff_ne.mpr e]
def CF{ks:ce}:(ks.map λ(k:Nat)=>D.int (k:Int)).all (aR m)=true:=Ru.mpr λd hd=>by
 obtain⟨z,_,rfl⟩:=Rl.mp hd;cases m<;>rfl
theorem Cg{n:Nat}:∀{ks:ce},((ks.map λ(k:Nat)=>D.int (k:Int)).any λd=>cw d (.int (n:Int)))=decide (n∈ks)
 |[]=>rfl
 |k::ks=>by
  rw[Q6,Tf,Cg];have e:cw (.int (k:Int)) (.int (n:Int))=((k:Int)==(n:Int)):=by rw[cw]
  rw[e]
  by_cases h:n=k
  .subst h;simp
  .have h1:((k:Int)==(n:Int))=false:=beq_eq_false_iff_ne.mpr (by omega)
   rw[h1,Ug];have:n∈k::ks↔n∈ks:=by simp[h]
   exact decide_eq_decide.mpr this.symm
def notIn_nums{ks:ce}{n:Nat}:bL (.int (n:Int)) (.lst (ks.map λ(k:Nat)=>D.int (k:Int)))=.ok (.bl (!(decide (n∈ks)))):=by
 have e:xH (.int (n:Int)) (.lst (ks.map λ(k:Nat)=>D.int (k:Int)))=some (decide (n∈ks)):=(if_pos ⟨rfl,CF⟩).trans (congrArg some Cg);unfold bL;rw[e]
def kR{k:α->av β}:(av.exn x).bind k=.exn x:=rfl
end K11
namespace K51
open PySem L2 DL Com
theorem vX{α:Type}(g:α->D)(pk:α->Option D):∀(L:List α),(∀a∈L,∃ρ1,tg B (g a)=.ok ρ1/\((pk a=none/\tt ρ1=.ok (.bl false))∨(∃d,pk a=some d/\tt ρ1=.ok (.bl true)/\fe ρ1=.ok d)))->bV B tg tt fe (L.map g)=.ok (L.filterMap pk)
 |[],_=>rfl
 |a::L,h=>by
  obtain⟨ρ1,h1,h2⟩:=h a Q3;have ih:=vX g pk L λd hd=>h d (QX _ hd);rw[Q6];unfold bV;rw[h1,DB];rcases h2 with⟨e,h2⟩|⟨d,e,h2,h3⟩
  .rw[h2,DB]
   show bV B tg tt fe (L.map g)=_;rw[ih,List.filterMap_cons_none e]
  .rw[h2,DB]
   show(fe ρ1).bind _=_;rw[h3,DB,ih,DB,List.filterMap_cons_some e]
def comp_pick{α:Type}(g:α->D)(pk:α->Option D){L:List α}(hl:L.length<=1000000)(h:∀a∈L,∃ρ1,tg (du n fr' ρ) (g a)=.ok ρ1/\((pk a=none/\tt ρ1=.ok (.bl false))∨(∃d,pk a=some d/\tt ρ1=.ok (.bl true)/\fe ρ1=.ok d))):dQ n fr' tg tt fe ρ (L.map g)=.ok (.lst (L.filterMap pk)):=by
 unfold dQ;rw[if_pos (show(L.map g).length<=line from by rw[Q0];exact hl),vX g pk L h]
end K51
namespace Pth
open PySem L2 DL Com K17
open K11 (eZ)
section
variable {ρ:Ev}{i:Nat}{f k:am}{ks:bv}{ds:ac}{d:D}
def ed_own:Bp i f ρ=(f ρ).bind (Fy i ρ):=rfl
def ed_own1:Fy i ρ (.dic ks ds)=.ok (.nx (ρ.set i (.ow (.dic ks ds)))):=rfl
def ed_put3(h:decide (ks.length<=900)=true):pG i ρ ks ds d (.str x)=.ok (.nx (ρ.set i (.ow (CJ ks ds x d)))):=if_pos (Rp (of_decide_eq_true h) (by decide))
def ed_disp:B7 a b ρ=aa a b GF ρ:=rfl
def ed_disp1:GF (.str x) d=.ok (.dic [x] [d]):=rfl
end
open K11 (eZ)
def somes_some(xs:List cA):gA (xs.map some)=xs:=by
 unfold gA;rw[Vu];simp
end Pth
namespace K16
open PySem L2 DL
abbrev m_look_at_web:ac->av D:=Nwb.m_look_at_web
abbrev m_is_tie_number:ac->av D:=Com.m_is_tie_number
noncomputable def cL:bi :=
 (aq (gC (ao (af (ae 0) ax) m_look_at_web))
 (aq (cM (cg (aQ (ae 1) (gL "list")))
 (aq (oN "NoTaking" (af (dC (.str "a taking is a list")) ax))
 ak)
 ak)
 (aq (aJ 2 (aQ (dC (.int 1)) jF))
 (aq (kF (ae 1) (bF 3)
 (aq (cM (gZ (cg (ao (af (ae 0) (af (ae 3) ax)) m_is_tie_number)) (aa (ae 3) (ae 2) Js))
 (aq (oN "NoTaking" (af (dC (.str "a taking is of rising numbers of ties")) ax))
 ak)
 ak)
 (aq (cM (aa (aa (aa (aa (ae 0) (dC (.int 1)) aC) (ae 3) aC) (dC (.int 4)) aC) (dC (.non)) vb)
 (aq (oN "NoTaking" (af (dC (.str "a watched tie can't be taken")) ax))
 ak)
 ak)
 (aq (aJ 2 (ae 3))
 ak))))
 ak))))
def m_look_at_taking:ac->av D:=br 4 cL
end K16
namespace DL
open PySem PySem.Spec PyProof.Rows L2
def Pu:Int->List Int->Int
 |a,[]=>a
 |a,b::r=>Pu (if b > a then b else a) r
def Ax:Int->List Int->Int
 |a,[]=>a
 |a,b::r=>Ax (if b<a then b else a) r
theorem FU:∀(r:List Int) (a:Int),Ax a r∈a::r/\∀x∈a::r,Ax a r<=x
 |[],a=>⟨by unfold Ax;exact Q3,λx hx=>by unfold Ax;rw[RP.mp hx];exact VR _⟩
 |b::r,a=>by
  unfold Ax;have ih:=FU r (if b<a then b else a);generalize hm:Ax (if b<a then b else a) r=m at ih
  by_cases h:b<a
  .rw[if_pos h]at ih
   refine⟨QX _ ih.1,λx hx=>?_⟩;rcases Rh.mp hx with rfl|hx
   .have:=ih.2 b Q3;omega
   .exact ih.2 x hx
  .rw[if_neg h]at ih
   refine⟨?_,λx hx=>?_⟩
   .rcases Rh.mp ih.1 with e|e
    .rw[e];exact Q3
    .exact QX _ (QX _ e)
   .have ha:=ih.2 a Q3
    rcases Rh.mp hx with rfl|hx
    .exact ha
    .rcases Rh.mp hx with rfl|hx
     .omega
     .exact ih.2 x (QX _ hx)
section
variable {X:Cx}{E:XK}
def Qk(x:D):av D:=match x with
 |.lst ds=>match gQ ds with
  |some (n::ns)=>.ok (.int (Pu n ns))
  |_=>.stuck
 |.tup ds=>match gQ ds with
  |some (n::ns)=>.ok (.int (Pu n ns))
  |_=>.stuck
 |_=>.stuck
def B6(x:D):av D:=match x with
 |.lst ds=>match gQ ds with
  |some (n::ns)=>.ok (.int (Ax n ns))
  |_=>.stuck
 |_=>.stuck
def J3(K:Q2):al->Hp->VK->Prop:=λxs H Q=>∃p ds n ns,xs=[.ref p]/\Rep K H (.lst ds) (.ref p)/\gQ ds=some (n::ns)/\Q (.int (Ax n ns)) H
def JA(e:n::ns=xs.toList.map (·.1))(hv:(intItems xs)[argBest (λi j=>decide (numAt xs i<numAt xs j)) (xs.size-1)]?=some v):∃t,v=.int (Ax n ns) t:=by
 obtain⟨t,rfl⟩:=intItems_at hv;have hsz:0<xs.size:=by
  have:=congrArg Vk e;rw[Rt,Q0,Tb (xs:=xs)]at this;omega
 obtain⟨h1,h2⟩:=argBest_lt (numAt xs) (xs.size-1);obtain⟨m1,m2⟩:=FU ns n;have hA:numAt xs (argBest (λi j=>decide (numAt xs i<numAt xs j)) (xs.size-1))∈n::ns:=by
  rw[e,numAt_eq];exact getD_mem (by rw[Q0,Tb];omega)
 have hB:numAt xs (argBest (λi j=>decide (numAt xs i<numAt xs j)) (xs.size-1))<=Ax n ns:=by
  rw[e]at m1;obtain⟨j,hj,ej⟩:=mem_getD m1;rw[Q0,Tb]at hj;have:=h2 j (by omega);rw[numAt_eq (j:=j)]at this;omega
 have:=m2 _ hA;exact⟨t,by congr 1;omega⟩
def Dw(hc:X.calm=true):ml X (.builtin "min") (J3 X.K):=by
 intro π s σ H xs us Q I r h;obtain⟨p,ds,n,ns,rfl,hr,hi,q⟩:=h;obtain⟨u,rfl,ru⟩:=r.one;obtain⟨a,vs,its,ea,rfl,h1,h2,h3,h4,_⟩:=bh I hr ru;have hI:=yI hi h2 h3;obtain⟨xs,hx⟩:=hI.allInts.items;have hl':s.heap.IsList a (intItems xs):=hx▸h4;have e1:n::ns=xs.toList.map (·.1):=by
  rw[←nums_intItems,←hx];exact(show numsOf its.toArray.toList=n::ns from hI.numsOf).symm
 refine min_intList (I.ok.hd hc) hl' (by have:=congrArg Vk e1;rw[Rt,Q0,Tb (xs:=xs)]at this;omega) λv h' tk hv hk=>?_;obtain⟨t,rfl⟩:=JA e1 hv;exact⟨.int _,H,I.kept (t':=tk) (λb o e=>hk b o e),⟨_,rfl⟩,q⟩
def Jx:mn X E (J3 X.K) (m1 B6):=zt λx v H Ha Q hs r q=>by
 cases x with
 |lst ds=>
  unfold B6 at q;obtain⟨p,vs,rfl,h1,h2⟩:=aB.mp r;cases e:gQ ds with
  |none=>simp only[e]at q;exact q.elim
  |some ns=>
   cases ns with
   |nil=>simp only[e]at q;exact q.elim
   |cons n ns=>
    simp only[e]at q;exact⟨p,ds,n,ns,rfl,r.mono hs,e,bU hs q (ri _)⟩
 |_=>exact q.elim
end
def uO(I:L2.Inv X π σ H s)(h1:s.heap.get? p.1=some p.2)(h2:H p.1=none)(h3:p.1≠X.env.locals)(h4:p.1∉X.fs)(h5:∀v,p.2.data≠.cell v):L2.Inv X (p::π) σ H s :=
 ⟨I.ok,I.os,I.bare,I.base,I.loc,I.cell,I.free,I.freeC,λq hq=>by
  rcases Rv.mp hq with hq|hq
  .exact I.pin q (R9 _ hq)
  .rcases Rh.mp hq with rfl|hq
   .exact⟨h1,h2,h3,h4,h5⟩
   .exact I.pin q (RO _ hq),I.hok,I.len⟩
def zG(I:L2.Inv X (p::π) σ H s):L2.Inv X π σ H s :=
 ⟨I.ok,I.os,I.bare,I.base,I.loc,I.cell,I.free,I.freeC,λq hq=>by
  rcases Rv.mp hq with hq|hq
  .exact I.pin q (R9 _ hq)
  .exact I.pin q (RO _ (QX _ hq)),I.hok,I.len⟩
structure Ko (X:Cx) (q:Ro) (F:jM) (c P:Q9) (clos:List (Ro×Q9)):Prop where
 cl:closureFor F.scope X.env=pure clos
 cd:X.env.code=.ref c
 hd:W.CodeHd X.base c P
 tb:(P,#[rawInt F.pos.line,rawInt F.pos.col,.str q 0])∈gW X.K
 qu:X.env.qual++"<lambda>"=q
 df:defaultsOf F.params X.env=([],[])
abbrev mv(q:Ro)(F:jM)(clos:List (Ro×Q9))(pm:QY)(c':Q9)(ctv:QY):Obj:=W.kla_obj "<lambda>" q F.params F.body F.scope clos pm c' ctv
def PX{m m':Array QY}(h:#[a,b,c]++m=#[a',b',c']++m'):a=a'/\b=b'/\c=c':=by
 have e:=congrArg VH h;simp only[WS,S4,SY]at e;injection e with e1 e;injection e with e2 e;injection e with e3 _;exact⟨e1,e2,e3⟩
section
variable {X:Cx}{π:List (Q9×Obj)}{σ:List (Option V)}{H:Hp}{s:Rg}{A:Sv}{q:Ro}{F:jM}{c P:Q9}{clos:List (Ro×Q9)}{Q:QY->Rg->Prop}{E:QY->Rg->Prop}
def F7(I:L2.Inv X π σ H s)(M:Ko X q F c P clos)
  (h:∀(f c':Q9) (ctv pm:QY) (t:Tok) (m:Array QY) (H':Hp) (s':Rg),L2.Inv X ((f,mv q F clos pm c' ctv)::π) σ H' s'->aE H H'->(∀b,H b=none->b≠c'->H' b=none)->H' c'=some (.tbl (#[.none,.str q t]++m))->s.heap.objs.size<=f->Q (.ref f) s') :
  RH (RB X.prog X.w) A (eval (.Lambda F.params F.body F.scope F.pos) X.env) Q E s:=by
 obtain⟨more,eP⟩:=I.tab P _ M.tb;have tok:L2.TabOk H s.heap P _:=I.hok P _ eP;have hg:s.heap.Ns Rr X.mg:=by
  obtain⟨o,es,ep,e,r⟩:=I.mod.glob;exact⟨o,es,ep,I.bk _ _ e,r⟩
 have hC:=M.hd.keeps I.bk;have hgP:Rr≠P:=λz=>by
  obtain⟨o,es,ep,e,r⟩:=I.mod.glob;have:=(I.bs _ _ e).2;rw[z,eP]at this;cases this
 obtain⟨bm,ob,b1,b2,b3,b4,b5,b6⟩:=I.mod.bm;have hbP:bm≠P:=λz=>by
  have:=(I.bs _ _ b3).2;rw[z,eP]at this;cases this
 have hbG:bm≠Rr:=λz=>by
  obtain⟨o,es,ep,e,hd,_⟩:=I.mod.glob;rw[z,e]at b3;cases b3;rw[hd]at b6;cases b6
 have hB:s.heap.BuiltinsAt X.mg P:=⟨bm,ob,b1,b2,hbG,hbP,I.bk _ _ b3,b4,b5,b6⟩
 have nP:∀b,H b=none->b≠P:=λb n z=>by rw[z,eP]at n;cases n
 refine W.kla_eval M.df ?_;rw[M.qu];rcases tok with⟨z,_⟩|⟨_,e|⟨l,c0,q',t0,t',mm,mm',c',e1,e2,e3⟩⟩
 .exact absurd z (mO M.tb)
 .-- for the first time
  refine W.kla_makeFunction M.cl I.ok.glob hg M.cd hC e S3 rfl hgP hB λc' ctv h' tk hx hge hlt hrec htb=>?_;obtain⟨cb,oc,vs,t,ec,hoc,hd,hv⟩:=hrec;obtain rfl:c'=cb:=by injection ec
  have hn:H c'=none:=I.hok.fresh hge;have old:∀{b:Q9}{o:Obj},s.heap.get? b=some o->b≠c':=λ{b o} e=>RU (Q4 (Ry e) hge);have kp:∀{b:Q9}{o:Obj},b≠P->s.heap.get? b=some o->(h'.push (mv q F clos ((X.mg "__name__").getD .none) c' ctv)).get? b=some o:=λ{b o} n e=>Ri _ (hx b o n e);have hsz:s.heap.objs.size<=h'.objs.size:=Ra hge (T7 hlt);have same:aE H (upd H c' (.tbl #[.none,.str q 0])):=λb o e=>by rw[aF (bu e hn)];exact e
  have I2:L2.Inv X π σ (upd H c' (.tbl #[.none,.str q 0])) { s with heap:=h'.push (mv q F clos ((X.mg "__name__").getD .none) c' ctv),gens:=s.gens,drawn:=s.drawn,toks:=tk }:=by
   refine I.step (ch:=[]) (λ_ z=>nomatch z) (λb o _ _ _ e n=>kp (nP b n) e) (λb o _ _ _ e n=>⟨o.slots,kp (nP b n) e⟩) (λb o _ e n=>by rw[aF (old e)];exact n) (λb o _ e=>?_) (λb xs e=>same _ _ e) (λb o u e=>same _ _ e) (λb ps e=>⟨#[],by rw[same _ _ e];simp⟩) (λm hm=>?_) (λb u eu=>?_) I.bare
   .by_cases hb:b=P
    .subst hb;exact⟨_,Ri _ htb⟩
    .exact⟨o,kp hb e⟩
   .obtain⟨o,es,ep,ho,r⟩:=hm
    exact⟨o,es,ep,kp (nP _ I.free) ho,r⟩
   .by_cases hb:b=c'
    .subst hb
     rw[aL]at eu;cases eu;exact Rm ⟨rfl,oc,vs,q,0,t,#[],rfl,Ri _ hoc,hd,hv⟩
    .rw[aF hb]at eu
     by_cases hP2:b=P
     .subst hP2
      rw[eP]at eu;cases eu;exact Uy ⟨mO M.tb,.inr ⟨_,_,q,0,0,more,#[],c',rfl,Ri _ htb,by rw[aL];rfl⟩⟩
     .refine(I.hok b u eu).stay (λa o ha x=>kp (λz=>?_) x) (λa x=>same _ _ x) (λa xs x=>same _ _ x) λa ps x=>same _ _ x
      rcases ha with rfl|ha
      .exact hP2 z
      .rw[z,eP]at ha;cases ha
  have hf:(upd H c' (.tbl #[.none,.str q 0])) h'.objs.size=none:=by rw[aF (Nat.ne_of_gt hlt)];exact I.hok.fresh hsz
  refine h h'.objs.size c' ctv _ 0 #[] _ _ (uO I2 (R3 _ rfl) hf (λz=>?_) (I.nofs hsz) (λv z=>by cases z)) same (λb n nb=>by rw[aF nb];exact n) (by rw[aL];rfl) hsz;have:=I.lt;exact absurd (show X.env.locals<X.env.locals from Q4 this (z▸hsz)) (Tv _)
 .-- its code stands in the table
  obtain⟨f1,f2,f3⟩:=PX e1;cases f1;cases f2;cases f3;refine W.kla_makeFunctionHit (cv:=.ref c') M.cl I.ok.glob hg M.cd hC e2 (by simp[TriplesOk,rawInt]) (by simp[codeAmong,rawInt]) hB λctv h' tk hk hsz=>?_;have kp:∀{b:Q9}{o:Obj},s.heap.get? b=some o->(h'.push (mv q F clos ((X.mg "__name__").getD .none) c' ctv)).get? b=some o:=λ{b o} e=>Ri _ (hk b o e);have I2:L2.Inv X π σ H { s with heap:=h'.push (mv q F clos ((X.mg "__name__").getD .none) c' ctv),toks:=tk }:=I.kept (λb o e=>kp e);have hf:H h'.objs.size=none:=I.hok.fresh hsz;refine h h'.objs.size c' ctv _ t' mm' H _ (uO I2 (R3 _ rfl) hf (λz=>?_) (I.nofs hsz) (λv z=>by cases z)) (aE.refl _) (λb n _=>n) e3 hsz;have:=I.lt;exact absurd (show X.env.locals<X.env.locals from Q4 this (z▸hsz)) (Tv _)
end
def uR(h:RA)(L:List Q9)(H:Hp):Hp:=λb=>if b∈L then(match h.get? b with|some o=>some (.frz o (.own b))|none=>H b) else H b
def unT(L:List Q9)(J:Hp):Hp:=λb=>if b∈L then none else J b
section
variable {h:RA}{L:List Q9}{H J:Hp}{b:Q9}
def mM(hb:b∈L)(e:h.get? b=some o):uR h L H b=some (.frz o (.own b)):=by unfold uR;rw[if_pos hb,e]
def gz(hb:b∉L):uR h L H b=H b:=if_neg hb
def kC(hb:b∈L):unT L J b=none:=if_pos hb
def bO(hb:b∉L):unT L J b=J b:=if_neg hb
def mL(e:unT L J b=some u):b∉L/\J b=some u:=by
 by_cases hb:b∈L
 .rw[kC hb]at e;cases e
 .rw[bO hb]at e;exact⟨hb,e⟩
end
structure vg (L:List Q9) (H:Hp) (h:RA):Prop where
 n:∀b∈L,H b=none
 o:∀b∈L,∃o,h.get? b=some o
def vg.same{h:RA}(f:vg L H h):aE H (uR h L H):=λb u e=>by
 rw[gz (λz=>by rw[f.n b z]at e;cases e)];exact e
section
variable {P:Se}{w:Sx}{K:Q2}{mg:Ro->Option QY}{base:RA}{A:Sv}{outer:List Ts}{s s':Rg}{H J:Hp}{L fs:List Q9}{h h':RA}
def vg.hok(f:vg L H h)(k:jt P w H h):jt P w (uR h L H) h:=λb u e=>by
 have own:∀c x,H c=some x->uR h L H c=some x:=λc x e=>f.same c x e
 by_cases hb:b∈L
 .obtain⟨o,ho⟩:=f.o b hb
  rw[mM hb ho]at e;cases e;exact⟨ho,o,ho⟩
 .rw[gz hb]at e
  exact(k b u e).stay (λ_ _ _ q=>q) (λc q=>own _ _ q) (λc xs q=>own _ _ q) λc ps q=>own _ _ q
def vg.env0(f:vg L H s.heap)(e:qr P w K mg base A outer s H)(hb:∀b∈L,base.get? b=none)(hf:∀b∈L,b∉AS outer):qr P w K mg base A outer s (uR s.heap L H) :=
 ⟨e.frames,e.mod,λb o q=>⟨(e.bs b o q).1,by rw[gz (λz=>by rw[hb b z]at q;cases q)];exact(e.bs b o q).2⟩,e.bsz,e.funs,λb q=>by rw[gz (λz=>hf b z q)];exact e.frf b q,f.hok e.hok,e.bare,λP' d hm=>by
  obtain⟨m,q⟩:=e.tab P' d hm;exact⟨m,f.same _ _ q⟩⟩
def vg.back(f:vg L H h)(u:Un fs [] (uR h L H) J h h')(k:jt P w J h'):Un fs [] H (unT L J) h h'/\jt P w (unT L J) h'/\∀b∈L,∃o,h.get? b=some o/\h'.get? b=some o/\J b=some (.frz o (.own b)):=by
 have hJ:∀b∈L,∃o,h.get? b=some o/\h'.get? b=some o/\J b=some (.frz o (.own b)):=λb hb=>by
  obtain⟨o,ho⟩:=f.o b hb;have q:=u.frzs b o _ (mM hb ho);exact⟨o,ho,(k b _ q).1,q⟩
 have out:∀{b:Q9}{x:HO},H b=some x->b∉L:=λ{b x} e z=>by rw[f.n b z]at e;cases e
 refine⟨⟨λb o e n hb hx=>?_,λb o e n hb hx=>?_,λb o e n hx=>?_,λb o e hx=>u.there b o e hx,λb xs e=>?_,λb o v e=>?_,λb ps e=>?_⟩,λb v e=>?_,hJ⟩
 .by_cases hL:b∈L
  .obtain⟨o',e1,e2,_⟩:=hJ b hL
   rw[e]at e1;cases e1;exact e2
  .exact u.keep b o e (by rw[gz hL];exact n) hb hx
 .by_cases hL:b∈L
  .obtain⟨o',e1,e2,_⟩:=hJ b hL
   rw[e]at e1;cases e1;exact⟨o.slots,e2⟩
  .exact u.slot b o e (by rw[gz hL];exact n) hb hx
 .by_cases hL:b∈L
  .exact kC hL
  .rw[bO hL];exact u.free b o e (by rw[gz hL];exact n) hx
 .rw[bO (out e)];exact u.tups b xs (f.same _ _ e)
 .rw[bO (out e)];exact u.frzs b o v (f.same _ _ e)
 .rw[bO (out e)];exact u.tbls b ps (f.same _ _ e)
 .obtain⟨hb,e⟩:=mL e
  have kp:∀c x,J c=some x->(∀o b,x≠.frz o (.own b))->unT L J c=some x:=λc x e n=>by
   rw[bO (λz=>by obtain⟨o,_,_,q⟩:=hJ c z;rw[q]at e;cases e;exact n _ _ rfl)];exact e
  exact(k b v e).stay (λ_ _ _ q=>q) (λc q=>kp _ _ q (λ_ _ z=>by cases z)) (λc xs q=>kp _ _ q (λ_ _ z=>by cases z)) λc ps q=>kp _ _ q (λ_ _ z=>by cases z)
end
mutual
def iX:D->Bool
 |.tup ds=>noFns ds
 |.lst ds=>noFns ds
 |.dic _ ds=>noFns ds
 |.ob (.fn _) _=>false
 |.ob _ ds=>noFns ds
 |_=>true
def noFns:ac->Bool
 |[]=>true
 |d::r=>iX d&&noFns r
end
def As(h:noFns (d::r)=true):iX d=true/\noFns r=true:=by
 rw[noFns,Rn]at h;exact h
def JN(L:List Q9)(J:Hp):Prop:=∀b∈L,(∃o c,J b=some (.frz o (.own c)))∨(∃ps,J b=some (.tbl ps))∨J b=none
section
variable {K:Q2}{L:List Q9}{J:Hp}
def JN.rd(h:JN L J)(r:Rd J a u)(n:∀b,u≠.own b)(n2:∀ps,u≠.tbl ps)(n3:∀o b,u≠.frz o b):Rd (unT L J) a u:=by
 have out:a∉L:=λz=>by
  rcases h a z with⟨o,c,q⟩|⟨ps,q⟩|q<;>rcases r with r|⟨o',r⟩<;>rw[q]at r<;>cases r
  .exact n3 _ _ rfl
  .exact n _ rfl
  .exact n2 _ rfl
 unfold Rd;rw[bO out];exact r
def JN.at(h:JN L J)(r:J a=some u)(n:∀o b,u≠.frz o (.own b))(n2:∀ps,u≠.tbl ps):unT L J a=some u:=by
 have out:a∉L:=λz=>by
  rcases h a z with⟨o,c,q⟩|⟨ps,q⟩|q<;>rw[q]at r<;>cases r
  .exact n _ _ rfl
  .exact n2 _ rfl
 rw[bO out];exact r
mutual
theorem Rep.unT(h:JN L J):∀{d:D}{v:V},iX d=true->Rep K J d v->Rep K (unT L J) d v
 |.non,_,_,r=>by unfold Rep at r ⊢;exact r
 |.bl _,_,_,r=>by unfold Rep at r ⊢;exact r
 |.int _,_,_,r=>by unfold Rep at r ⊢;exact r
 |.str _,_,_,r=>by unfold Rep at r ⊢;exact r
 |.tup ds,_,n,r=>by
  obtain⟨a,vs,e1,e2,e3⟩:=aG.mp r;rw[iX]at n;exact aG.mpr ⟨a,vs,e1,e2.imp (λq=>h.rd q (λ_ z=>by cases z) (λ_ z=>by cases z) (λ_ _ z=>by cases z)) id,Reps.unT h n e3⟩
 |.lst ds,_,n,r=>by
  obtain⟨a,vs,e1,e2,e3⟩:=aB.mp r;rw[iX]at n;exact aB.mpr ⟨a,vs,e1,e2.imp (λq=>h.rd q (λ_ z=>by cases z) (λ_ z=>by cases z) (λ_ _ z=>by cases z)) id,Reps.unT h n e3⟩
 |.dic ks ds,_,n,r=>by
  rw[iX]at n;rw[Rep]at r ⊢;obtain⟨a,kvs,vs,e1,e2,e3,e4,e5⟩:=r;exact⟨a,kvs,vs,e1,h.rd e2 (λ_ z=>by cases z) (λ_ z=>by cases z) (λ_ _ z=>by cases z),e3,e4,Reps.unT h n e5⟩
 |.exc x,_,_,r=>by
  obtain⟨a,C,dc,e1,e2,e3⟩:=jc.mp r;exact jc.mpr ⟨a,C,dc,e1,e2,h.rd e3 (λ_ z=>by cases z) (λ_ z=>by cases z) (λ_ _ z=>by cases z)⟩
 |.ob (.ins c ks) ds,_,n,r=>by
  rw[iX]at n
  .obtain⟨a,vs,e1,⟨C,dx,h0,h1,h2,h3⟩,e3⟩:=aP.mp r
   exact aP.mpr ⟨a,vs,e1,⟨C,dx,h0,h1,h.at h2 (λ_ _ z=>by cases z) (λ_ z=>by cases z),h3⟩,Reps.unT h n e3⟩
  .intro q z;cases z
 |.ob (.dint ks) ds,_,n,r=>by
  rw[iX]at n
  .obtain⟨a,vs,e1,⟨kvs,h1,h2,h3⟩,e3⟩:=aP.mp r
   exact aP.mpr ⟨a,vs,e1,⟨kvs,h.rd h1 (λ_ z=>by cases z) (λ_ z=>by cases z) (λ_ _ z=>by cases z),h2,h3⟩,Reps.unT h n e3⟩
  .intro q z;cases z
 |.ob (.exf c ks) ds,_,n,r=>by
  rw[iX]at n
  .obtain⟨a,vs,e1,⟨C,dx,fs,h1,h2,h3,h4⟩,e3⟩:=aP.mp r
   exact aP.mpr ⟨a,vs,e1,⟨C,dx,fs,h1,h.rd h2 (λ_ z=>by cases z) (λ_ z=>by cases z) (λ_ _ z=>by cases z),h.at h3 (λ_ _ z=>by cases z) (λ_ z=>by cases z),h4⟩,Reps.unT h n e3⟩
  .intro q z;cases z
 |.ob .pl ds,_,n,r=>by
  rw[iX]at n
  .obtain⟨a,vs,e1,h1,e3⟩:=aP.mp r
   exact aP.mpr ⟨a,vs,e1,h.at h1 (λ_ _ z=>by cases z) (λ_ z=>by cases z),Reps.unT h n e3⟩
  .intro q z;cases z
 |.ob (.fn q) ds,_,n,r=>by rw[iX]at n;cases n
theorem Reps.unT(h:JN L J):∀{ds:ac}{vs:al},noFns ds=true->Reps K J ds vs->Reps K (unT L J) ds vs
 |[],_,_,r=>by rw[Reps.nil_iff.mp r];exact Reps.nil
 |d::ds,_,n,r=>by
  obtain⟨n1,n2⟩:=As n;obtain⟨v,rs,rfl,e1,e2⟩:=az.mp r;exact Reps.cons (Rep.unT h n1 e1) (Reps.unT h n2 e2)
end
def BI(x:MP):Bool:=x.flds.all λp=>iX p.2
theorem rZ:∀{l:List (Ro×D)},l.lookup n=some d->∃k,(k,d)∈l
 |[],e=>by cases e
 |(k,v)::r,e=>by
  rw[So]at e;cases h:(n==k) with|true=>rw[h]at e;simp only[SQ]at e;subst e;exact⟨k,.head _⟩|false=>rw[h]at e;obtain⟨k',hk⟩:=rZ e;exact⟨k',.tail _ hk⟩
def zH.unT(h:JN L J){ox:Option Q9}(n:BI x=true)(r:zH K J x C ox):zH K (unT L J) x C ox:=by
 obtain⟨r1,r2⟩:=r;refine⟨r1,?_⟩;cases ox with
 |none=>exact r2
 |some a=>
  obtain⟨fs,e1,e2⟩:=r2;refine⟨fs,h.at e1 (λ_ _ z=>by cases z) (λ_ z=>by cases z),λm d hd=>?_⟩;obtain⟨v,e3,e4⟩:=e2 m d hd;obtain⟨k,hk⟩:=rZ hd;exact⟨v,e3,Rep.unT h (Ru.mp n _ hk) e4⟩
end
def xh(r:av D):av D:=match r with
 |.ok d=>if iX d=true then .ok d else .stuck
 |.exn x=>if BI x=true then .exn x else .stuck
 |.stuck=>.stuck
abbrev LT:=Ro->ac->ac->av D
noncomputable def mH(P:Se) (w:Sx) (K:Q2) (mg:Ro->Option QY) (base:RA) (CX:zI) (k:Nat) (q:Ro) (m:ac->ac->av D):Prop :=
 ∀(A:Sv) (outer:List Ts) (s:Rg) (H Ha:Hp) (caps ds:ac) (f:Q9) (us:List QY) (vs:al) (Q:VK) (E:XK),dz k A->qr P w K mg base A outer s H->aE Ha H->Rep K Ha (.ob (.fn q) caps) (.ref f)->Reps K Ha ds vs->bg vs us ->
  post K E H Ha (m caps ds) Q->Tw (RB P w) A (.call (.ref f) ⟨us,[]⟩) (CR CX outer P w H s Q E) s
structure ke (P:Se) (w:Sx) (K:Q2) (mg:Ro->Option QY) (base:RA) (CX:zI) (k:Nat) (lt:LT):Prop where
 run:∀q,mH P w K mg base CX k q (lt q)
section
variable {P:Se}{w:Sx}{K:Q2}{mg:Ro->Option QY}{base:RA}{CX:zI}{k:Nat}{lt:LT}{q:Ro}{m:ac->ac->av D}
def mH.mono(h:mH P w K mg base CX j q m)(l:j<=k):mH P w K mg base CX k q m:=λA outer s H Ha caps ds f us vs Q E hr=>h A outer s H Ha caps ds f us vs Q E (hr.mono l)
def ke.mono(h:ke P w K mg base CX j lt)(l:j<=k):ke P w K mg base CX k lt:=⟨λq=>(h.run q).mono l⟩
def FY:LT:=λ_ _ _=>.stuck
def rV(q:Ro)(m:ac->ac->av D)(lt:LT):LT:=λr=>if r=q then m else lt r
def FX:ke P w K mg base CX k FY:=⟨λq A outer s H Ha caps ds f us vs Q E _ _ _ _ _ _ h=>(show False from h).elim⟩
def C2(h:mH P w K mg base CX k q m)(hl:ke P w K mg base CX k lt):ke P w K mg base CX k (rV q m lt):=⟨λr=>by
 by_cases e:r=q
 .subst e
  have z:rV r m lt r=m:=if_pos rfl;rw[z];exact h
 .have z:rV q m lt r=lt r:=if_neg e
  rw[z];exact hl.run r⟩
end
section
variable {X:Cx}{CX:zI}{k:Nat}{lt:LT}{π:List (Q9×Obj)}{σ:L2.St}{H Ha:Hp}{s:Rg}{Q:VK}{E:XK}{q:Ro}{caps ds:ac}{f:Q9}{us:List QY}{vs:al}
def HJ(L:ke X.prog X.w X.K X.mg X.base CX k lt)(hr:dz k X.A)(hx:gU CX X E)(I:L2.Inv X π σ H s)(hs:aE Ha H)(rf:Rep X.K Ha (.ob (.fn q) caps) (.ref f))(rd:Reps X.K Ha ds vs)(r:bg vs us)(h:post X.K E H Ha (lt q caps ds) Q) :
  RH (RB X.prog X.w) X.A (call (.ref f) us) (EP X π σ Q) X.xe s:=by
 refine wpAny_call (codeAny_mono (L.run q X.A X.stack s H Ha caps ds f us vs Q E hr I.env0 hs rf rd r h) λr s' hq=>?_);cases r with
 |error e=>exact hx π σ H s e s' I hq
 |ok fl=>
  cases fl with|ret u=>exact I.after hq|next|brk|cont=>exact Ss hq
def yO(I:L2.Inv X π σ H s)(hs:aE Ha H)(rf:Rep X.K Ha (.ob (.fn q) caps) (.ref f)):W.FnAt f s.heap:=by
 obtain⟨a,vs,e1,⟨F,clos,c',t,m,pm,ctv,h0,h1,h2,_⟩,_⟩:=aP.mp rf;cases e1;exact⟨_,_,_,_,(I.hok f _ (hs _ _ h2)).1⟩
end
def pd(lt:LT)(j:Nat)(fa:Ev->av (ac)):am:=λρ=>match ρ[j]? with
 |some (.sh (.ob (.fn q) caps))=>(fa ρ).bind λds=>lt q caps ds
 |_=>.stuck
section
variable {X:Cx}{E:XK}{e:R1}{es:List R1}{fa:Ev->av (ac)}{pos:Pos}{j:Nat}{lt:LT}{k k0:Nat}{CX:zI}{y:Ro}{p:Pos}
def zh(L:ke X.prog X.w X.K X.mg X.base CX k0 lt)(hr:dz k X.A)(hN:X.N[j]?=some y)(hv:Cn X.env.scope y)(ha:DA X E (e::es) fa)(hle:k0<=k:=by decide)(hx:gU CX X E:=by first|exact yj|exact pass0E|exact passesE)
  (hd:(y==("__debug__" : Ro))=false:=by decide)(hcd:(y==("__classdict__" : Ro))=false:=by decide)(he:Rk (e::es) X.env=(false,eval e X.env)::Rk es X.env:=by exact bB rfl)(hpl:(SM pos (Rk es X.env)).any (·.1)=false:=by exact cX rfl) :
  DE X E (.Call (.Name y p) (e::es) [] pos) (pd lt j fa):=by
 refine⟨λπ s σ H Q I h=>?_⟩;obtain⟨Ha,ρ,hs,hr',q⟩:=h;unfold pd at q;cases ej:ρ[j]? with
 |none=>rw[ej]at q;exact q.elim
 |some sl=>
  rw[ej]at q;cases sl with
  |sh d=>
   cases d with
   |ob kd caps=>
    cases kd with
    |fn qn=>
     replace q:post X.K E H Ha ((fa ρ).bind λds=>lt qn caps ds) Q:=q;obtain⟨v,e1,e2⟩:=hr' j _ ej;obtain⟨a,vs0,rfl,_,_⟩:=aP.mp e2;refine wpAny_Call_Name_kw (cT (jf hN hv hd hcd π s σ H (λv H1=>v=.ref a/\H1=H) I ⟨.ref a,e1,rfl,rfl⟩) λu s1 ⟨v,H1,I1,r,ev,eh⟩=>?_);subst ev eh;obtain rfl:u=RY a:=r;refine W.callWith_F (yO I1 hs e2) (cT (ha.o pos π s1 σ H1 (λvs H2=>∃H₀2 ds,aE H₀2 H2/\Rep X.K H₀2 (.ob (.fn qn) caps) (.ref a)/\Reps X.K H₀2 ds vs/\post X.K E H2 H₀2 (lt qn caps ds) Q) I1 ⟨Ha,ρ,hs,hr',?_⟩) λus s2 ⟨vs,H2,I2,r,H₀2,ds,z1,z2,z3,z4⟩=>⟨yO I2 z1 z2,HJ (L.mono hle) hr hx I2 z1 z2 z3 r z4⟩) he hpl;cases e3:fa ρ with
     |stuck|exn x=>rw[e3]at q;exact q
     |ok ds=>
      rw[e3]at q;intro vs H' Ha' g r1;exact⟨Ha',ds,g.sub,e2.mono g.z,r1,post.grow (r:=lt qn caps ds) q g⟩
    |_=>exact q.elim
   |_=>exact q.elim
  |_=>exact q.elim
end
noncomputable def PV(P:Se) (w:Sx) (K:Q2) (mg:Ro->Option QY) (base:RA) (N:bv) (qual:Ro) (scope:UU) (f c':Q9) (clos:List (Ro×Q9)) (A:Sv) (outer:List Ts) (s:Rg) (H:Hp):Cx where
 prog:=P
 w:=w
 K:=K
 mg:=mg
 base:=base
 A:=A.deeper (W.envX qual scope s.heap.objs.size f (.ref c') clos)
 N:=N
 sf:=s
 Ha:=H
 env:=W.envX qual scope s.heap.objs.size f (.ref c') clos
 outer:=outer
 stack:=W.envX qual scope s.heap.objs.size f (.ref c') clos::outer
 ex:=[]
 calm:=true
 fn:=λ_=>false
 pn:=[]
 xe:=λ_ _=>False
structure G2 (N ps:bv) (sc:UU):Prop where
 kind:sc.kind=.function
 co:sc.isCoroutine=false
 gen:sc.isGenerator=false
 nd:N.Nodup
 eq:N=ps++gY sc
 par:∀x∈ps,sc.names.lookup x=some .local
 fr:∀x∈gY sc,sc.names.lookup x=some .free
 has:∀y∈sc.names,y.2=.free->y.1∈gY sc
 nocell:∀y∈sc.names,y.2≠.cell
def C6(n c:Nat)(fb:am)(caps ds:ac):av D:=if ds.length=n/\caps.length=c/\noFns ds=true/\noFns caps=true then(match fb ((ds++caps).map Sl.sh) with
 |.ok d=>.ok d
 |_=>.stuck) else .stuck
theorem dN.all{H:Hp}:∀{cl:List (Ro×Q9)}{vs:al},dN H cl vs->∀c∈cl.map (·.2),∃o u,H c=some (.frz o (.own c))/\o.data=.cell (some u)
 |[],_,_=>λc h=>by simp at h
 |(x,c)::r,_,⟨v,rs,o,u,_,h2,h3,_,h5⟩=>λb h=>by
  rw[Q6,Rh]at h;rcases h with h|h
  .rw[h];exact⟨o,u,h2,h3⟩
  .exact dN.all h5 b h
theorem dN.look{H:Hp}:∀{cl:List (Ro×Q9)}{vs:al}{j:Nat}{x:Ro}{v:V},dN H cl vs->(cl.map (·.1)).Nodup->(cl.map (·.1))[j]?=some x->vs[j]?=some v->∃c o u,cl.lookup x=some c/\H c=some (.frz o (.own c))/\o.data=.cell (some u)/\bw v u
 |[],_,_,_,_,_,_,h,_=>by simp at h
 |(y,c)::r,_,0,x,v,⟨v',rs,o,u,h1,h2,h3,h4,h5⟩,nd,e1,e2=>by
  simp at e1;subst e1;rw[h1]at e2;simp at e2;subst e2;exact⟨c,o,u,by rw[So,beq_self_eq_true],h2,h3,h4⟩
 |(y,c)::r,_,j+1,x,v,⟨v',rs,o,u,h1,h2,h3,h4,h5⟩,nd,e1,e2=>by
  rw[Q6]at nd e1;rw[R0]at e1;rw[h1,R0]at e2;obtain⟨c1,o1,u1,q1,q2⟩:=dN.look h5 (RK.mp nd).2 e1 e2;refine⟨c1,o1,u1,?_,q2⟩;have ne:(x==y)=false:=by
   rw[beq_eq_false_iff_ne];rintro rfl;exact(RK.mp nd).1 (Rb e1)
  rw[So,ne];exact q1
theorem mh:∀{cl:List (Ro×Q9)},x∈cl.map (·.1)->∃c,cl.lookup x=some c
 |[],h=>by simp at h
 |(y,c)::r,h=>by
  rw[So];cases e:(x==y) with
  |true=>exact⟨c,rfl⟩
  |false=>
   rw[Q6,Rh]at h;rcases h with h|h
   .rw[beq_eq_false_iff_ne]at e;exact absurd h e
   .exact mh h
theorem wc:∀{cl:List (Ro×Q9)},(cl.map (·.2)).Nodup->cl.Pairwise λx y=>x.2≠y.2
 |[],_=>.nil
 |(y,c)::r,h=>by
  rw[Q6]at h;obtain⟨h1,h2⟩:=RK.mp h;exact .cons (λp hp e=>h1 (e▸Ta hp)) (wc h2)
theorem qV{y:Ro}{u:QY}:∀{ps:bv}{us:List QY}{i:Nat},ps.Nodup->ps[i]?=some y->us[i]?=some u->(ps.zip us).lookup y=some u
 |[],_,_,_,h,_=>by simp at h
 |_::_,[],_,_,_,h=>by simp at h
 |p::P,w::vs,0,nd,h1,h2=>by
  simp at h1 h2;subst h1;subst h2;rw[SH,So,beq_self_eq_true]
 |p::P,w::vs,i+1,nd,h1,h2=>by
  have ne:(y==p)=false:=by
   rw[beq_eq_false_iff_ne];rintro rfl;exact(RK.mp nd).1 (Rb (by simpa using h1))
  rw[SH,So,ne];exact qV (i:=i) (RK.mp nd).2 (by simpa using h1) (by simpa using h2)
theorem D2:∀{ps:bv}{us:List QY},∀x∈(ps.zip us).map (·.1),x∈ps
 |_,_,x,h=>by
  obtain⟨⟨a,b⟩,h1,rfl⟩:=Rl.mp h;exact(UH h1).1
theorem vk:∀{ps:bv}{us:List QY},ps.Nodup->((ps.zip us).map (·.1)).Nodup
 |[],_,_=>by simp
 |_::_,[],_=>by simp
 |p::P,w::vs,h=>by
  rw[SH,Q6];exact RK.mpr ⟨λz=>(RK.mp h).1 (D2 _ z),vk (RK.mp h).2⟩
def Mz{ps:bv}{us:List QY}{i:Nat}(nd:ps.Nodup)(h1:ps[i]?=some y)(h2:us[i]?=some u):(ps.zip us).reverse.lookup y=some u:=by
 rw[lookup_reverse_of_nodup _ (vk nd)];exact qV nd h1 h2
def oo(L:List Q9)(H J:Hp):Hp:=λb=>if b∈L then H b else J b
section
variable {L:List Q9}{H J:Hp}{b:Q9}
def lj(hb:b∈L):oo L H J b=H b:=if_pos hb
def dX(hb:b∉L):oo L H J b=J b:=if_neg hb
def vC(s:aE (unT L H) J):aE H (oo L H J):=λb u e=>by
 by_cases hb:b∈L
 .rw[lj hb];exact e
 .rw[dX hb];exact s b u (by rw[bO hb];exact e)
def Dh(hs:aE Ha H)(g:bj (unT L H) (unT L Ha) J Ja):bj H Ha (oo L H J) (oo L Ha Ja) :=
 ⟨vC g.s,vC g.z,λb u e=>by
  by_cases hb:b∈L
  .rw[lj hb]at e ⊢;exact hs b u e
  .rw[dX hb]at e ⊢;exact g.sub b u e,λa h1 h2=>by
  by_cases hb:a∈L
  .rw[lj hb]at h1;exact absurd h2 h1
  .rw[dX hb]at h1
   have:=g.nw a h1 (by rw[bO hb];exact h2);rw[bO hb]at this;exact this⟩
end
section
variable {P:Se}{w:Sx}{L fs:List Q9}{H J:Hp}{h h':RA}
def AZ(hc:∀b∈L,∃o c,H b=some (.frz o (.own c))/\h.get? b=some o)(hf:∀b∈L,b∉fs)(u:Un fs [] (unT L H) J h h')(k:jt P w J h'):Un fs [] H (oo L H J) h h'/\jt P w (oo L H J) h':=by
 have out:∀{b:Q9}{x:HO},H b=some x->(∀o c,x≠.frz o (.own c))->b∉L:=λ{b x} e n z=>by
  obtain⟨o,c,q,_⟩:=hc b z;rw[e]at q;cases q;exact n _ _ rfl
 have outn:∀{b:Q9},H b=none->b∉L:=λ{b} e z=>by
  obtain⟨o,c,q,_⟩:=hc b z;rw[e]at q;cases q
 have jn:∀b∈L,J b=none:=λb hb=>by
  obtain⟨o,c,_,q⟩:=hc b hb;exact u.free b o q (kC hb) (by simp)
 refine⟨⟨λb o e n hb hx=>u.keep b o e (by rw[bO (outn n)];exact n) hb hx,λb o e n hb hx=>u.slot b o e (by rw[bO (outn n)];exact n) hb hx,λb o e n hx=>?_,λb o e hx=>u.there b o e hx,λb xs e=>?_,λb o v e=>?_,λb ps e=>?_⟩,λb v e=>?_⟩
 .rw[dX (outn n)];exact u.free b o e (by rw[bO (outn n)];exact n) hx
 .have nb:=out e (λ_ _ z=>by cases z)
  rw[dX nb];exact u.tups b xs (by rw[bO nb];exact e)
 .by_cases hb:b∈L
  .rw[lj hb];exact e
  .rw[dX hb];exact u.frzs b o v (by rw[bO hb];exact e)
 .have nb:=out e (λ_ _ z=>by cases z)
  rw[dX nb];exact u.tbls b ps (by rw[bO nb];exact e)
 .by_cases hb:b∈L
  .rw[lj hb]at e
   obtain⟨o,c,q,q2⟩:=hc b hb;rw[q]at e;cases e;have q3:=u.keep b o q2 (kC hb) (hf b hb) (by simp);exact⟨q3,o,q3⟩
  .rw[dX hb]at e
   have own:∀c x,J c=some x->oo L H J c=some x:=λc x q=>by
    rw[dX (λz=>by rw[jn c z]at q;cases q)];exact q
   exact(k b v e).stay (λ_ _ _ q=>q) (λc q=>own _ _ q) (λc xs q=>own _ _ q) λc ps q=>own _ _ q
def Du(hc:∀b∈L,∃o c,H b=some (.frz o (.own c))/\h.get? b=some o)(k:jt P w H h):jt P w (unT L H) h:=λb v e=>by
 obtain⟨hb,e⟩:=mL e;have own:∀c x,H c=some x->(∀o b,x≠.frz o b)->unT L H c=some x:=λc x q n=>by
  rw[bO (λz=>by obtain⟨o,c2,q2,_⟩:=hc c z;rw[q2]at q;cases q;exact n _ _ rfl)];exact q
 exact(k b v e).stay (λ_ _ _ q=>q) (λc q=>own _ _ q (λ_ _ z=>by cases z)) (λc xs q=>own _ _ q (λ_ _ z=>by cases z)) λc ps q=>own _ _ q (λ_ _ z=>by cases z)
end
section
variable {P:Se}{w:Sx}{K:Q2}{mg:Ro->Option QY}{base:RA}{k:Nat}{q:Ro}{F:jM}{N ps:bv}{fb:am}
def xa(hF:(vK K).lookup q=some F)(S:G2 N ps F.scope)
  (hbind:∀(c':Q9) (clos:List (Ro×Q9)) (pm ctv:QY) (us:List QY),us.length=ps.length->bindArgs (W.kla_fn "<lambda>" q F.params F.body F.scope clos pm (.ref c') ctv) ⟨us,[]⟩=pure (ps.zip us))
  (hbody:∀(f c':Q9) (clos:List (Ro×Q9)) (A:Sv) (outer:List Ts) (s:Rg) (H:Hp),dz k (A.deeper (W.envX q F.scope s.heap.objs.size f (.ref c') clos))->DE (PV P w K mg base N q F.scope f c' clos A outer s H) E0 F.body fb) :
  mH P w K mg base CX0 (k+1) q (C6 ps.length (gY F.scope).length fb):=by
 intro A outer s H Ha caps ds f us vs Q E hr e0 hs rf rd r h;unfold C6 at h
 by_cases hl:ds.length=ps.length/\caps.length=(gY F.scope).length/\noFns ds=true/\noFns caps=true
 case neg=>rw[if_neg hl]at h;exact h.elim
 rw[if_pos hl]at h;obtain⟨hl1,hl2,hn1,hn2⟩:=hl;obtain⟨a,vs0,ea,⟨F',clos,c',t,mm,pm,ctv,h0,⟨h1,h1'⟩,h2,h3,h4⟩,h5⟩:=aP.mp rf;cases ea;rw[hF]at h0;cases h0;have hvl:vs.length=ps.length:=by rw[←rd.length,hl1]
 have hul:us.length=ps.length:=by rw[←r.length,hvl]
 have hcl:vs0.length=(gY F.scope).length:=by rw[←h5.length,hl2]
 have hget:=(e0.hok f _ (hs _ _ h2)).1;have hcd:s.heap.CodeRec (.ref c') q:=by
  rcases e0.hok c' _ (hs _ _ h3) with⟨_,oc,ws,qu,t1,t2,more,z1,z2,z3,z4⟩|⟨z,_⟩
  .have e:=congrArg VH z1
   simp only[WS,S4,SY]at e;injection e with _ e;injection e with e _;cases e;exact⟨c',oc,ws,t2,rfl,z2,z3,z4⟩
  .exact(z (by rw[V8 (by simp)];rfl)).elim
 have lim:s.heap.NoLimit:=e0.mod.nolimit.keeps λb o e=>(e0.bs b o e).1;have hc:∀b∈clos.map (·.2),∃o c,H b=some (.frz o (.own c))/\s.heap.get? b=some o:=λb hb=>by
  obtain⟨o,u,z1,_⟩:=h4.all b hb;exact⟨o,b,hs _ _ z1,(e0.hok b _ (hs _ _ z1)).1⟩
 have hfr:∀b∈clos.map (·.2),b∉AS outer:=λb hb z=>by
  obtain⟨o,c,q1,_⟩:=hc b hb;rw[e0.frf b z]at q1;cases q1
 have hnd:(clos.map (·.1)).Nodup:=by
  have:=S.nd;rw[S.eq]at this;rw[h1];exact(TZ.mp this).2.1
 refine W.kla_callFunE hr.depth hget rfl S.co S.gen rfl hcd ?_;rw[hbind c' clos pm ctv us hul];refine RI (wpAny_newFunctionEnv S.nocell (λy hy=>S.par _ (UH hy).1) (λh₁ hns hsb=>⟨lim.fresh _ hsb,?_⟩) S.kind);show Tw _ _ (.expr F.body (W.envX q F.scope s.heap.objs.size f (.ref c') clos)) _ _;have hk₁:∀b o,s.heap.get? b=some o->h₁.get? b=some o:=λb o e=>hsb.extBut b o (RU (Ry e)) (Ri _ e);refine W.kla_codeExpr ?_;have off:jt P w (unT (clos.map (·.2)) H) h₁:=(Du hc e0.hok).kept hk₁;have un0:∀{b:Q9},H b=none->unT (clos.map (·.2)) H b=none:=λ{b} e=>by
  by_cases hb:b∈clos.map (·.2)
  .exact kC hb
  .rw[bO hb];exact e
 have hns':h₁.Ns s.heap.objs.size (λx=>(ps.zip us).reverse.lookup x):=hns;have I:L2.Inv (PV P w K mg base N q F.scope f c' clos A outer s (unT (clos.map (·.2)) H)) [] ((vs++vs0).map some) (unT (clos.map (·.2)) H) { s with heap:=h₁,toks:=s.toks+(ps.zip us).length }:=by
  have noA:∀b:Q9,b∉(PV P w K mg base N q F.scope f c' clos A outer s (unT (clos.map (·.2)) H)).ex:=λb z=>absurd (show b∈([]:List Q9) from z) (by simp);refine⟨⟨e0.mod,S.kind,rfl,rfl,RG _,λy z c h1 h2=>?_,λy hy=>?_,λy c z _=>absurd (show false=true from z) (by decide),λ_=>hr.hd,WQ e0.frames,.inr ⟨rfl,rfl⟩,λb z=>absurd z (noA b),λb o e=>⟨(e0.bs b o e).1,un0 (e0.bs b o e).2⟩,e0.bsz,λb _ _=>noA b,λb z=>absurd z (noA b),e0.funs,λb z=>un0 (e0.frf b z),λP' d hm=>?_⟩,
   rfl,e0.bare,Un.kept hk₁,⟨_,hns',λi y v z1 z2 z3=>?_⟩,λy c z=>?_,un0 (e0.hok.fresh (RG _)),λy c z=>?_,λp hp=>absurd (show p∈([]:List (Q9×Obj)) from hp) (by simp),off,?_⟩
  .exact name_of_addr (wc h1') (R8 h1) (R8 h2)
  .have hy:F.scope.names.lookup y=some .cell∨F.scope.names.lookup y=some .free:=hy
   rcases hy with hy|hy
   .exact absurd rfl (S.nocell _ (R8 hy))
   .refine mh ?_
    show y∈clos.map (·.1);rw[h1];exact S.has _ (R8 hy) rfl
  .obtain⟨m,e⟩:=e0.tab P' d hm
   refine⟨m,?_⟩;show unT _ H P'=_;rw[bO (λz=>by obtain⟨o,c,z1,_⟩:=hc _ z;rw[e]at z1;cases z1)];exact e
  .have z1:N[i]?=some y:=z1
   rw[S.eq]at z1
   by_cases hi:i<ps.length
   .rw[RF hi]at z1
    rw[RX,RF (by simp;omega),Q7]at z2;have ha:vs[i]?=some v:=by
     cases e:vs[i]? with|none=>rw[e]at z2;cases z2|some a=>rw[e]at z2;cases z2;rfl
    obtain⟨u,hu,rv⟩:=r.get ha;have k:=S.par y (Rb z1);refine⟨u,rv,.inl ⟨k,?_⟩⟩;have ndP:ps.Nodup:=by
     have:=S.nd;rw[S.eq]at this;exact(TZ.mp this).1
    exact Mz ndP z1 hu
   .rw[RN (by omega)]at z1
    rw[RX,RN (by simp;omega),Q0,hvl,Q7]at z2;have ha:vs0[i-ps.length]?=some v:=by
     cases e:vs0[i-ps.length]? with|none=>rw[e]at z2;cases z2|some a=>rw[e]at z2;cases z2;rfl
    rw[←h1]at z1;obtain⟨c,o,u,q1,q2,q3,q4⟩:=h4.look hnd z1 ha;have k:=S.fr y (by rw[←h1];exact Rb z1);exact⟨u,q4,.inr ⟨.inr k,c,q1,o,hk₁ _ _ (e0.hok c _ (hs _ _ q2)).1,q3⟩⟩
  .obtain⟨o,u,q1,q2⟩:=h4.all c (Ta (R8 z))
   exact⟨_,o,hk₁ _ _ (e0.hok c _ (hs _ _ q1)).1,q2⟩
  .exact kC (Ta (R8 z))
  .show((vs++vs0).map some).length=N.length
   rw[S.eq,Q0,RQ,RQ,hvl,hcl]
 have hLam:JN (clos.map (·.2)) Ha:=λb hb=>by
  obtain⟨o,u,z,_⟩:=h4.all b hb;exact .inl ⟨o,b,z⟩
 have hS:aE (unT (clos.map (·.2)) Ha) (unT (clos.map (·.2)) H):=λb u e=>by
  obtain⟨hb,e⟩:=mL e;rw[bO hb];exact hs b u e
 refine S8 ((hbody f c' clos A outer s (unT (clos.map (·.2)) H) (hr.deeper _)).o [] _ _ _ (λv J=>(∀b∈clos.map (·.2),J b=none)->Q v (oo (clos.map (·.2)) H J)) I ⟨unT (clos.map (·.2)) Ha,(ds++caps).map Sl.sh,hS,λi d e=>?_,?_⟩) (λu s' ⟨v,J,I',rv,q'⟩=>?_) λe s' z=>(show False from z).elim
 .rw[Q7]at e
  have e1:(ds++caps)[i]?=some d:=by
   cases z:(ds++caps)[i]? with|none=>rw[z]at e;cases e|some x=>rw[z]at e;cases e;rfl
  obtain⟨v,z1,z2⟩:=((Reps.unT hLam hn1 rd).app (Reps.unT hLam hn2 h5)).get e1;exact⟨v,by rw[Q7,z1];rfl,z2⟩
 .cases e:fb ((ds++caps).map Sl.sh) with
  |stuck=>rw[e]at h;exact h.elim
  |exn x=>rw[e]at h;exact h.elim
  |ok d=>
   rw[e]at h;intro v J Ja g rp hj;exact h v _ _ (Dh hs g) (rp.mono λb u z=>by
    rw[dX (λhb=>by have:=g.sub b u z;rw[hj b hb]at this;cases this)];exact z)
 .have hj:∀b∈clos.map (·.2),J b=none:=λb hb=>by
   obtain⟨o,c,_,z⟩:=hc b hb;exact I'.base.free b o z (kC hb) (by intro z;exact nomatch z)
  obtain⟨u1,k1⟩:=AZ hc hfr I'.base I'.hok;exact⟨v,_,I'.os,I'.bare,u1,k1,rv,q' hj⟩
end
def j9:ce->Ev->Option (ac)
 |[],_=>some []
 |i::r,ρ=>match ρ[i]? with
  |some (.sh d)=>(j9 r ρ).map (d::·)
  |_=>none
def AN(j:Nat)(d:D)(ds:ac):ac:=ds.take j++d::ds.drop j
def uf(fa:Ev->av (ac))(j:Nat)(q:Ro)(cs:ce)(m:ac->av D):am:=λρ=>(fa ρ).bind λds=>match j9 cs ρ with
 |some caps=>xh (m (AN j (.ob (.fn q) caps) ds))
 |none=>.stuck
structure JQ (X:Cx) (F:jM) (clos:List (Ro×Q9)) (cs:ce):Prop where
 nm:clos.map (·.1)=gY F.scope
 nd:(gY F.scope).Nodup
 lk:∀p∈clos,X.env.cells.lookup p.1=some p.2
 ix:cs.map (X.N[·]?)=clos.map λp=>some p.1
 nl:∀p∈clos,X.env.kindOf p.1≠some .local /\ Cn X.env.scope p.1
 fn:∀p∈clos,X.fn p.1=true
def A0(ok:X.Ok)(C:JQ X F clos cs):(clos.map (·.2)).Nodup:=by
 have nd:(clos.map (·.1)).Nodup:=by rw[C.nm];exact C.nd
 have lk:=C.lk;clear C
 induction clos with
 |nil=>simp
 |cons p r ih=>
  rw[Q6]at nd ⊢;obtain⟨n1,n2⟩:=RK.mp nd;refine RK.mpr ⟨λz=>?_,ih n2 λq hq=>lk q (QX _ hq)⟩;obtain⟨q,hq,e⟩:=Rl.mp z;have h1:=lk p Q3;have h2:=lk q (QX _ hq);have e3:=ok.inj p.1 q.1 p.2 h1 (by rw[h2,e]);exact n1 (by rw[e3];exact Ta hq)
theorem uw{X:Cx}{π:List (Q9×Obj)}{σ:L2.St}{H Ha:Hp}{s:Rg}{ρ:Ev}(I:L2.Inv X π σ H s)(hr:eW X.K Ha σ ρ):∀{clos:List (Ro×Q9)}{cs:ce}{caps:ac},(∀p∈clos,X.env.cells.lookup p.1=some p.2)->(cs.map (X.N[·]?)=clos.map λp=>some p.1) ->
  (∀p∈clos,X.env.kindOf p.1≠some .local /\ Cn X.env.scope p.1)->j9 cs ρ=some caps->∃vs,Reps X.K Ha caps vs/\∀(J:Hp),(∀p∈clos,∃o,s.heap.get? p.2=some o/\J p.2=some (.frz o (.own p.2)))->dN J clos vs
 |[],[],_,_,_,_,e=>by cases e;exact⟨[],Reps.nil,λJ _=>rfl⟩
 |[],_::_,_,_,e,_,_=>by simp at e
 |_::_,[],_,_,e,_,_=>by simp at e
 |(x,c)::r,i::is,caps,lk,e1,nl,e2=>by
  rw[Q6,Q6]at e1;injection e1 with e1 e1';unfold j9 at e2;cases e3:ρ[i]? with
  |none=>rw[e3]at e2;cases e2
  |some sl=>
   rw[e3]at e2;cases sl with
   |sh d=>
    replace e2:(j9 is ρ).map (d::·)=some caps:=e2;cases e4:j9 is ρ with
    |none=>rw[e4]at e2;cases e2
    |some cp=>
     rw[e4]at e2;cases e2;obtain⟨vs,h1,h2⟩:=uw I hr (λp hp=>lk p (QX _ hp)) e1' (λp hp=>nl p (QX _ hp)) e4;obtain⟨v,q1,q2⟩:=hr i d e3;refine⟨v::vs,Reps.cons q2 h1,λJ hJ=>?_⟩;obtain⟨m,hm,hl⟩:=I.loc;have nv:=nl (x,c) Q3;obtain⟨u,rv,lo⟩:=hl i x v e1 q1 nv.2;rcases lo with⟨lo,_⟩|⟨_,c',lc,o,ho,hd⟩
     .exact absurd lo nv.1
     .have:=lk (x,c) Q3
      rw[this]at lc;cases lc;obtain⟨o2,g1,g2⟩:=hJ (x,c) Q3;rw[ho]at g1;cases g1;exact⟨v,vs,o,u,rfl,g2,hd,rv,h2 J λp hp=>hJ p (QX _ hp)⟩
   |_=>cases e2
section
variable {X:Cx}{E:XK}{e:R1}{es:List R1}{f:am}{fa:Ev->av (ac)}{q:Ro}{F:jM}{clos:List (Ro×Q9)}{j:Nat}
noncomputable def Qs(X:Cx) (q:Ro) (F:jM) (clos:List (Ro×Q9)) (j:Nat) (π:List (Q9×Obj)) (σ:L2.St) (H Ha:Hp) (ds:ac) (us:List QY) (s':Rg):Prop :=
 ∃(f c':Q9) (ctv pm:QY) (t:Tok) (m:Array QY) (H' Ha':Hp) (vs1 vs2:al) (u1 u2:List QY),us=u1++.ref f::u2/\vs1.length=j/\bg vs1 u1/\bg vs2 u2/\Reps X.K Ha' ds (vs1++vs2)/\bj H Ha H' Ha' /\
  L2.Inv X ((f,mv q F clos pm c' ctv)::π) σ H' s'/\H' c'=some (.tbl (#[.none,.str q t]++m))/\X.sf.heap.objs.size<=f
structure AL (X:Cx) (E:XK) (es:List R1) (fa:Ev->av (ac)) (j:Nat) (q:Ro) (F:jM) (clos:List (Ro×Q9)):Prop where
 o:∀(pos:Pos) (π:List (Q9×Obj)) (s:Rg) (σ:L2.St) (H Ha:Hp) (ρ:Ev),L2.Inv X π σ H s->aE Ha H->eW X.K Ha σ ρ->vD X.K E H Ha (fa ρ) (λ_ _=>True) ->
  RH (RB X.prog X.w) X.A (spliced (SM pos (Rk es X.env))) (λus s'=>∃ds,fa ρ=.ok ds/\Qs X q F clos j π σ H Ha ds us s') X.xe s
def Mu(M:Ko X q F c P clos)(ha:DA X E es fa)(hs:Rk (.Lambda F.params F.body F.scope F.pos::es) X.env=(false,eval (.Lambda F.params F.body F.scope F.pos) X.env)::Rk es X.env:=by exact bB rfl):AL X E (.Lambda F.params F.body F.scope F.pos::es) fa 0 q F clos:=by
 refine⟨λpos π s σ H Ha ρ I hsm hrd h=>?_⟩;rw[hs];show RH _ _ (spliced ((false,eval (.Lambda F.params F.body F.scope F.pos) X.env)::SM pos (Rk es X.env))) _ _ s;refine Calls.spliced_cons (F7 I M λf c' ctv pm t m H' s' I' hsame _ htb hsz=>?_);have g0:bj H Ha H' Ha:=⟨hsame,aE.refl _,hsm.trans hsame,λa h1 h2=>absurd h2 h1⟩
 refine cT (ha.o pos _ s' σ H' (λvs H2=>∃ds H₀2,fa ρ=.ok ds/\bj H' Ha H2 H₀2/\Reps X.K H₀2 ds vs) I' ⟨Ha,ρ,g0.sub,hrd,?_⟩) λus s2 ⟨vs,H2,I2,r2,ds,H₀2,e2,g2,q2⟩=>?_
 .cases e2:fa ρ with
  |stuck=>rw[e2]at h;exact h.elim
  |exn y=>rw[e2]at h;exact λC ox H1 H₀1 g=>h C ox H1 H₀1 (g0.trans g)
  |ok ds=>exact λvs H1 H₀1 g r=>⟨ds,H₀1,rfl,g,r⟩
 .exact⟨ds,e2,f,c',ctv,pm,t,m,H2,H₀2,[],vs,[],us,rfl,rfl,.nil,r2,q2,g0.trans g2,I2,g2.s _ _ htb,Ra I.sz hsz⟩
end
def xE(CX:zI):Prop:=∀(outer:List Ts) (H:Hp) (s:Rg) (L:List Q9) (E:XK) (e:QY) (s':Rg),vg L H s.heap->CX outer (uR s.heap L H) s (λC ox J=>E C ox (unT L J)) e s'->CX outer H s E e s'
def Gk:xE CX0:=λ_ _ _ _ _ _ _ _ h=>h.elim
theorem ya{K:Q2}(h:Rep K H d v):∀{vs1:al}{ds:ac}{vs2:al},Reps K H ds (vs1++vs2)->Reps K H (AN vs1.length d ds) (vs1++v::vs2)
 |[],_,_,r=>Reps.cons h r
 |_::vs1,[],_,r=>by have:=Reps.nil_iff.mp r;cases this
 |_::vs1,x::ds,_,r=>by
  obtain⟨v',rs,e,h1,h2⟩:=az.mp r;rw[S4]at e;injection e with e1 e2;subst e1 e2;exact Reps.cons h1 (ya h (vs1:=vs1) h2)
section
variable {X:Cx}{E:XK}{CX:zI}{k n:Nat}{fn:Q9}{fd:SV}{ps:bv}{m:ac->av D}{q:Ro}{F:jM}{clos:List (Ro×Q9)}{cs:ce}{j:Nat}{π:List (Q9×Obj)}{σ:L2.St}{H Ha Hb H₀₁:Hp}{s:Rg}{ρ:Ev}{ds caps:ac}{us:List QY}{Q:VK}
def HK(Fn:iY X.prog X.w X.K X.mg X.base CX k fn fd ps (spD X.K n m))(hr:dz k X.A)(hb:ko X.K fd ps [])(hx:gU CX X E)(hf:xE CX)(hF:(vK X.K).lookup q=some F)(C:JQ X F clos cs)(hrd:eW X.K Ha σ ρ)(hcs:j9 cs ρ=some caps)(hn:ds.length+1=n)
  (hA:Qs X q F clos j π σ H Ha ds us s)(h:post X.K E H Ha (xh (m (AN j (.ob (.fn q) caps) ds))) Q):X.K.In s.heap/\RH (RB X.prog X.w) X.A (call (.ref fn) us) (EP X π σ Q) X.xe s:=by
 obtain⟨f,c',ctv,pm,t,mm,H',Ha',vs1,vs2,u1,u2,rfl,hj,r1,r2,hds,g,I,htb,hfz⟩:=hA;refine⟨I.kIn,?_⟩;replace h:=h.grow g;have hpin:=I.pin (f,mv q F clos pm c' ctv) (RO _ Q3);obtain⟨p1,p2,p3,p4,p5⟩:=hpin;have lkm:∀b∈clos.map (·.2),∃x,X.env.cells.lookup x=some b/\X.fn x=true:=λb hb=>by
  obtain⟨p,hp,e⟩:=Rl.mp hb;exact⟨p.1,by rw[←e];exact C.lk p hp,C.fn p hp⟩
 have fr:vg (f::clos.map (·.2)) H' s.heap:=⟨λb hb=>by
  rcases Rh.mp hb with rfl|hb
  .exact p2
  .obtain⟨x,hx,_⟩:=lkm b hb
   exact I.freeC x b hx,λb hb=>by
  rcases Rh.mp hb with rfl|hb
  .exact⟨_,p1⟩
  .obtain⟨x,hx,_⟩:=lkm b hb
   obtain⟨v,o,ho,_⟩:=I.cell x b hx;exact⟨o,ho⟩⟩
 have hc'L:c'∉f::clos.map (·.2):=λz=>by rw[fr.n c' z]at htb;cases htb
 have hge:∀b∈f::clos.map (·.2),X.sf.heap.objs.size<=b:=λb hb=>by
  rcases Rh.mp hb with rfl|hb
  .exact hfz
  .obtain⟨x,hx,hfn⟩:=lkm b hb
   exact I.ok.cab x b hfn hx
 have hbase:∀b∈f::clos.map (·.2),X.base.get? b=none:=λb hb=>WO (Ra I.ok.bsz (hge b hb));have hfrs:∀b∈f::clos.map (·.2),b∉AS X.stack:=λb hb z=>by
  rcases Rh.mp (I.stkSub b z) with e|z
  .rcases Rh.mp hb with rfl|hb
   .exact p3 e
   .obtain⟨x,hx,_⟩:=lkm b hb
    exact I.cne x b hx e
  .obtain⟨_,o,ho,_⟩:=I.ok.funs.mem z
   exact absurd (Q4 (Ry ho) (hge b hb)) (Tv _)
 let L:=f::clos.map (·.2)
 let H2:=uR s.heap L H'
 let R:Hp:=λb=>if b∈L∨b=c' then H2 b else Ha' b
 have s2:aE H' H2:=fr.same;have sR:aE R H2:=λb u e=>by
  by_cases hb:b∈L∨b=c'
  .have e:(if b∈L∨b=c' then H2 b else Ha' b)=some u:=e
   rw[if_pos hb]at e;exact e
  .have e:(if b∈L∨b=c' then H2 b else Ha' b)=some u:=e
   rw[if_neg hb]at e;exact s2 _ _ (g.sub _ _ e)
 have s0R:aE Ha' R:=λb u e=>by
  show(if b∈L∨b=c' then H2 b else Ha' b)=some u
  by_cases hb:b∈L∨b=c'
  .rw[if_pos hb];exact s2 _ _ (g.sub _ _ e)
  .rw[if_neg hb];exact e
 have RL:∀b,b∈L->R b=H2 b:=λb hb=>if_pos (.inl hb);have Rc:R c'=some (.tbl (#[.none,.str q t]++mm)):=by
  show(if c'∈L∨c'=c' then H2 c' else Ha' c')=_;rw[if_pos (.inr rfl)];exact s2 _ _ htb
 obtain⟨vs0,k1,k2⟩:=uw I (hrd.mono g.z) C.lk C.ix C.nl hcs;have rf:Rep X.K R (.ob (.fn q) caps) (.ref f):=aP.mpr ⟨f,vs0,rfl,⟨F,clos,c',t,mm,pm,ctv,hF,⟨C.nm,A0 I.ok C⟩,by rw[RL f Q3];exact mM Q3 p1,Rc,k2 R λp hp=>by
  have hm:p.2∈L:=QX _ (Ta hp);obtain⟨o,ho⟩:=fr.o _ hm;exact⟨o,ho,by rw[RL _ hm];exact mM hm ho⟩⟩,k1.mono s0R⟩
 have rds:Reps X.K R (AN j (.ob (.fn q) caps) ds) (vs1++.ref f::vs2):=by rw[←hj];exact ya rf (hds.mono s0R)
 have rv:bg (vs1++V.ref f::vs2) (u1++RY f::u2):=r1.append (.cons rfl r2);have env2:qr X.prog X.w X.K X.mg X.base X.A X.stack s H2:=fr.env0 I.env0 hbase hfrs;have hlen:(vs1++V.ref f::vs2).length=n:=by
  have:=hds.length;rw[RQ]at this;rw[RQ,Rt];omega
 have key:∀(J Ja:Hp),bj H2 R J Ja->∃L',JN L' Ja/\bj H' Ha' (unT L J) (unT L' Ja):=λJ Ja gj=>by
  have hl0:∀b∈L,∃o c,Ja b=some (.frz o (.own c)):=λb hb=>by
   obtain⟨o,ho⟩:=fr.o b hb;exact⟨o,b,gj.z b _ (by rw[RL b hb];exact mM hb ho)⟩
  have hcz:=gj.z c' _ Rc;refine⟨if Ha' c'=none then c'::L else L,λb hb=>?_,λb u e=>?_,λb u e=>?_,λb u e=>?_,λa h1 h2=>?_⟩
  .by_cases z:Ha' c'=none
   .rw[if_pos z]at hb
    rcases Rh.mp hb with rfl|hb
    .exact .inr (.inl ⟨_,hcz⟩)
    .exact .inl (hl0 b hb)
   .rw[if_neg z]at hb;exact .inl (hl0 b hb)
  .have nb:b∉L:=λz=>by rw[fr.n b z]at e;cases e
   rw[bO nb];exact gj.s b u (s2 b u e)
  .have nb:b∉L:=λz=>by have:=g.sub b u e;rw[fr.n b z]at this;cases this
   have nb':b∉(if Ha' c'=none then c'::L else L):=λz=>by
    by_cases y:Ha' c'=none
    .rw[if_pos y]at z
     rcases Rh.mp z with rfl|z
     .rw[y]at e;cases e
     .exact nb z
    .rw[if_neg y]at z;exact nb z
   rw[bO nb'];exact gj.z b u (s0R b u e)
  .obtain⟨nb,e⟩:=mL e
   have nL:b∉L:=λz=>nb (by
    by_cases y:Ha' c'=none
    .rw[if_pos y];exact QX _ z
    .rw[if_neg y];exact z)
   rw[bO nL];exact gj.sub b u e
  .have na:a∉(if Ha' c'=none then c'::L else L):=λz=>h1 (kC z)
   rw[bO na]at h1;have nL:a∉L:=λz=>na (by
    by_cases y:Ha' c'=none
    .rw[if_pos y];exact QX _ z
    .rw[if_neg y];exact z)
   have nc:a≠c':=λz=>na (by rw[←z,if_pos h2];exact Q3);have hRa:R a=none:=by
    show(if a∈L∨a=c' then H2 a else Ha' a)=none;rw[if_neg (by rintro(z|z);exact nL z;exact nc z)];exact h2
   have:=gj.nw a h1 hRa;have e:H2 a=H' a:=gz nL;rw[e]at this;exact this
 have hpost:post X.K (λC ox J=>E C ox (unT L J)) H2 R (m (AN j (.ob (.fn q) caps) ds)) (λv J=>Q v (unT L J)):=by
  cases e:m (AN j (.ob (.fn q) caps) ds) with
  |stuck=>rw[e]at h;exact h
  |ok d=>
   rw[e]at h;replace h:post X.K E H' Ha' (if iX d=true then .ok d else .stuck) Q:=h
   by_cases hd:iX d=true
   .rw[if_pos hd]at h
    intro v J Ja gj rp;obtain⟨L',hl,g'⟩:=key J Ja gj;exact h v _ _ g' (Rep.unT hl hd rp)
   .rw[if_neg hd]at h;exact h.elim
  |exn x=>
   rw[e]at h;replace h:post X.K E H' Ha' (if BI x=true then .exn x else .stuck) Q:=h
   by_cases hd:BI x=true
   .rw[if_pos hd]at h
    intro C' ox J Ja gj rp;obtain⟨L',hl,g'⟩:=key J Ja gj;exact h C' ox _ _ g' (zH.unT hl hd rp)
   .rw[if_neg hd]at h;exact h.elim
 have hul:(u1++RY f::u2).length=ps.length:=by
  rw[←rv.length];exact Fn.len _ _ _ _ (show spD X.K n m (vs1++V.ref f::vs2) H2 (λv J=>Q v (unT L J)) (λC ox J=>E C ox (unT L J)) from⟨hlen,R,_,sR,rds,hpost⟩)
 have hbd:=hb s (u1++RY f::u2) I.kIn (by rw[Sj];exact hul);rw[Sj]at hbd;refine wpAny_call (codeAny_mono (Fn.run X.A X.stack s H2 ⟨u1++.ref f::u2,[]⟩ (u1++.ref f::u2) (vs1++.ref f::vs2) (λv J=>Q v (unT L J)) (λC ox J=>E C ox (unT L J)) hr env2 hbd rv ⟨hlen,R,_,sR,rds,hpost⟩) λr s' hq=>?_);cases r with
 |error e=>exact hx _ σ H' s e s' I (hf _ _ _ L _ _ _ fr hq)
 |ok fl=>
  cases fl with
  |ret u=>
   obtain⟨v,J,os,bare,un,hok,rvv,qq⟩:=hq;obtain⟨un',hok',_⟩:=fr.back un hok;obtain⟨v2,H3,I3,r3,q3⟩:=I.after (Q:=Q) (u:=u) (s':=s') ⟨v,unT L J,os,bare,un',hok',rvv,qq⟩;exact⟨v2,H3,zG I3,r3,q3⟩
  |next|brk|cont=>exact Ss hq
end
structure uL (K:Q2) (fd:SV) (q:Ro) (F:jM):Prop where
 ex:∃c P,fd.code=.ref c/\VZ K c P=true/\(P,#[rawInt F.pos.line,rawInt F.pos.col,.str q 0])∈gW K
 lk:(vK K).lookup q=some F
section
variable {X:Cx}{E:XK}{e:R1}{es:List R1}{fa:Ev->av (ac)}{q:Ro}{F:jM}{clos:List (Ro×Q9)}{cs:ce}{j:Nat}{fd:SV}
def JE(L:uL X.K fd q F)(hcd:fd.code=X.env.code)(ha:DA X E es fa)(hcl:closureFor F.scope X.env=pure clos:=by exact rfl)(hq:X.env.qual++"<lambda>"=q:=by exact rfl)(hdf:defaultsOf F.params X.env=([],[]):=by exact rfl)
  (hs:Rk (.Lambda F.params F.body F.scope F.pos::es) X.env=(false,eval (.Lambda F.params F.body F.scope F.pos) X.env)::Rk es X.env:=by exact bB rfl):AL X E (.Lambda F.params F.body F.scope F.pos::es) fa 0 q F clos:=by
 obtain⟨c,P,e1,e2,e3⟩:=L.ex;exact⟨λpos π s σ H Ha ρ I=>(Mu ⟨hcl,by rw[←hcd];exact e1,W.codeHd_of_K I.ok.mod.kin e2,e3,hq,hdf⟩ ha hs).o pos π s σ H Ha ρ I⟩
def GL{k k0 n:Nat}{ps:bv}{st:Tr}(B:iu X.prog X.w X.K X.mg X.base CX k0 fn fd' ps (spD X.K n m) x st)(hr:dz k X.A)(L:uL X.K fd q F)(C:JQ X F clos cs)(ha:AL X E (e::es) fa j q F clos)(hl:∀ρ ds,fa ρ=.ok ds->ds.length+1=n)
  (hle:k0<=k:=by decide)(hx:gU CX X E:=by first|exact yj|exact pass0E|exact passesE)(hf:xE CX:=by first|exact Gk|exact forgetsE)
  (hg:Gl X x:=by exact rfl)(hdb:(x==("__debug__" : Ro))=false:=by decide)(he:Rk (e::es) X.env=(false,eval e X.env)::Rk es X.env:=by exact bB rfl)(hpl:(SM pos (Rk es X.env)).any (·.1)=false:=by exact cX rfl) :
  DE X E (.Call (.Name x p) (e::es) [] pos) (uf fa j q cs m):=by
 refine⟨λπ s σ H Q I h=>?_⟩;obtain⟨Ha,ρ,hs,hrd,h⟩:=h;unfold uf at h;refine wpAny_Call_Name_kw (qG I hg B.t.g ?_ hdb);refine Wl (h₀:=X.base) I.ok.mod.kin B.t.F.kp (cT (ha.o pos π s σ H Ha ρ I hs hrd ?_) λus s1 ⟨ds,e1,hA⟩=>?_) he hpl
 .cases e1:fa ρ with
  |stuck=>rw[e1]at h;exact h.elim
  |exn y=>rw[e1]at h;exact h
  |ok ds=>exact λ_ _ _ _ _=>S3
 .rw[e1]at h
  replace h:post X.K E H Ha (match j9 cs ρ with
   |some caps=>xh (m (AN j (.ob (.fn q) caps) ds))
   |none=>.stuck) Q:=h
  cases e2:j9 cs ρ with
  |none=>rw[e2]at h;exact h.elim
  |some caps=>
   rw[e2]at h;exact HK (B.F.mono hle) hr B.t.b hx hf L.lk C hrd e2 (hl ρ ds e1) hA h
end
section
variable {P:Se}{w:Sx}{K:Q2}{mg:Ro->Option QY}{base:RA}{rows:List Rw}{A:Nat->Q9}{Q:Nat->SV}{i k n:Nat}{r:Rw}{s:bi}
variable (T:TG rows K mg A Q) (S:OQ rows) (h:rows[i]?=some r)
include T S h
theorem QD(b:∀(cdv:QY),(Q i).code=cdv->∀(A':Sv) (outer:List Ts) (s0:Rg) (H Ha:Hp) (E:XK),dz k (A'.deeper (envOfC r.x (defScope r.st) s0.heap.objs.size (A i) cdv)) ->
   zL (qo CX0 P w K mg base r.N r.x (defScope r.st) (A i) cdv A' outer s0 H E).nox E H Ha (defBody r.st) s):iu P w K mg base CX0 (k+1) (A i) (Q i) r.ps (spD K r.ps.length (br r.N.length s)) r.x r.st :=
 ⟨sO (T i r h).F (S r (Rb h)) b,T i r h⟩
end
noncomputable def lC(i j:Nat) (ρ:Ev) (ds:ac) (d:D):av Fl:=match d with
 |.int k=>match yD ds.length k with
  |some n=>match ds[n]? with
   |some x=>if ds.length<line then .ok (.nx ((ρ.set j (.ow (.lst (ds.eraseIdx n)))).set i (.sh x))) else .stuck
   |none=>.stuck
  |none=>.stuck
 |_=>.stuck
def lE(i j:Nat)(f:am):bi:=λρ=>yk ρ j λds=>(f ρ).bind (lC i j ρ ds)
section
variable {X:Cx}{E:XK}{He η:Hp}{e:R1}{f:am}{pos:Pos}
def zd(hN:X.N.Nodup)(hi:X.N[i]?=some x)(hx:DR X.env.scope x)(hj:X.N[j]?=some y)(hv:Cn X.env.scope y)(he:DE X E e f)
  (hd:(y==("__debug__" : Ro))=false:=by decide)(hcd:(y==("__classdict__" : Ro))=false:=by decide)
  (hbase':Tc (.Name y q1) "pop" X.env (eval (.Name y q1) X.env)=eval (.Name y q1) X.env:=by rfl)
  (hfew':((SM q3 (Rk [e] X.env)).all (λx=>!x.1)&&(Vz q3 (UE [] X.env)).all (λx=>x.1.isSome)
  &&decide ([e].length+([]:List UB).length+(if([]:List UB).isEmpty then 0 else 1)<30))=true:=by exact ng rfl)
  (hline':(q2.endLine==q3.line)=true:=by rfl) (hs':Rk [e] X.env=(false,eval e X.env)::Rk [] X.env:=by exact bB rfl) (hplain':(SM q3 (Rk [] X.env)).any (·.1)=false:=by exact cX rfl)
  (hs:SD (.Call (.Attribute (.Name y q1) "pop" q2) [e] [] q3) (some (.Name x pos')) pos.line X.env=pure false:=by rfl)
  (hf:X.fn x=true∨X.env.scope.names.lookup x=some .local := by first|exact .inl rfl|exact .inr rfl|assumption) :
  DS X E He η (.Assign [.Name x pos'] (.Call (.Attribute (.Name y q1) "pop" q2) [e] [] q3) pos) (lE i j f):=by
 refine⟨?_⟩;refine cB (mr hN hi hx (BE Up PySem.F.slot_list_pop PySem.F.type_list_pop FP (jf hj hv hd hcd) (fM he.o jR hs') hbase' hfew' hline' hs' hplain') hs hf) λD σ H ⟨Ha,ρ,h,q⟩=>?_;obtain⟨ds,p,vs,e1,e2,e3,e4,e5,e6,q⟩:=rM h q;refine⟨.ref p,e2,.inl ⟨rfl,vs,fZ.of e5⟩,?_⟩;refine⟨Ha,ρ,h.g.sub,h.rd,plain h q λd v H' Ha' _ g rp q'=>?_⟩;unfold lC at q';cases d with
 |int k=>
  simp only at q';cases e7:yD ds.length k with
  |none=>simp only[e7]at q';exact q'.elim
  |some n=>
   simp only[e7]at q';cases e8:ds[n]? with
   |none=>simp only[e8]at q';exact q'.elim
   |some d=>
    simp only[e8]at q'
    by_cases hl:ds.length<line
    .rw[if_pos hl]at q'
     obtain⟨s1,s2,s3,s4⟩:=xb e7;have hlen:=e6.length;have hl2:ds.length<1000001:=Q4 hl (by decide);have e5':H' p=some (.lst vs):=g.s _ _ e5;rw[ay.mp rp];obtain⟨w,y1,y2⟩:=e6.get e8;refine⟨p,vs,k,n,w,rfl,rfl,e5',by omega,by omega,by rw[←hlen];exact s1,y1,?_⟩;have h2:=(h.grow g).write e1 e2 ((e6.mono g.z).erase n);exact q' _ _ Ha' (aE.refl _) (h2.put (y2.mono g.z))
    .rw[if_neg hl]at q';exact q'.elim
 |_=>exact q'.elim
end
mutual
def kM:D->Bool
 |.tup ds=>instFs ds
 |.lst _=>false
 |.dic _ _=>false
 |.exc _=>false
 |.ob (.ins _ _) ds=>instFs ds
 |.ob _ _=>false
 |_=>true
def instFs:ac->Bool
 |[]=>true
 |d::ds=>kM d&&instFs ds
end
mutual
theorem Rep.inst_to{K:Q2}{H H':Hp}(et:∀a vs,Rd H a (.tup vs)->Rd H' a (.tup vs))(ei:∀a C dx fs,H a=some (.ins C dx fs)->H' a=some (.ins C dx fs)):∀{d:D}{v:V},kM d=true->Rep K H d v->Rep K H' d v
 |.non,_,_,h=>by unfold Rep at h ⊢;exact h
 |.bl _,_,_,h=>by unfold Rep at h ⊢;exact h
 |.int _,_,_,h=>by unfold Rep at h ⊢;exact h
 |.str _,_,_,h=>by unfold Rep at h ⊢;exact h
 |.tup ds,_,f,h=>by
  rw[kM]at f;obtain⟨a,vs,e1,e2,e3⟩:=aG.mp h;refine aG.mpr ⟨a,vs,e1,?_,Reps.inst_to et ei f e3⟩;rcases e2 with e2|e2
  .exact .inl (et _ _ e2)
  .exact .inr e2
 |.lst ds,_,f,h=>by rw[kM]at f;cases f
 |.dic ks ds,_,f,h=>by rw[kM]at f;cases f
 |.exc x,_,f,h=>by rw[kM]at f;cases f
 |.ob (.ins c ks) ds,_,f,h=>by
  rw[kM]at f;obtain⟨a,vs,e1,⟨C,dx,h0,h1,h2,h3⟩,e3⟩:=aP.mp h;exact aP.mpr ⟨a,vs,e1,⟨C,dx,h0,h1,ei _ _ _ _ h2,h3⟩,Reps.inst_to et ei f e3⟩
 |.ob (.dint _) ds,_,f,h=>by rw[kM]at f<;>first|cases f|(intros;intro z;cases z)
 |.ob (.exf _ _) ds,_,f,h=>by rw[kM]at f<;>first|cases f|(intros;intro z;cases z)
 |.ob .pl ds,_,f,h=>by rw[kM]at f<;>first|cases f|(intros;intro z;cases z)
 |.ob (.fn _) ds,_,f,h=>by rw[kM]at f<;>first|cases f|(intros;intro z;cases z)
theorem Reps.inst_to{K:Q2}{H H':Hp}(et:∀a vs,Rd H a (.tup vs)->Rd H' a (.tup vs))(ei:∀a C dx fs,H a=some (.ins C dx fs)->H' a=some (.ins C dx fs)):∀{ds:ac}{vs:al},instFs ds=true->Reps K H ds vs->Reps K H' ds vs
 |[],_,_,h=>by unfold Reps at h ⊢;exact h
 |d::ds,_,f,h=>by
  rw[instFs,Rn]at f;obtain⟨v,r,e1,e2,e3⟩:=az.mp h;exact az.mpr ⟨v,r,e1,Rep.inst_to et ei f.1 e2,Reps.inst_to et ei f.2 e3⟩
end
noncomputable def fY(Ha J:Hp) (p:Q9) (ws:al):Hp:=λa=>match Ha a with
 |some o=>some o
 |none=>if a=p then some (.lst ws) else match J a with
  |some (.tup vs)=>some (.tup vs)
  |some (.frz o (.tup vs))=>some (.frz o (.tup vs))
  |some (.ins C dx fs)=>some (.ins C dx fs)
  |_=>none
section
variable {K:Q2}{E:XK}{He η Ha H H1 J:Hp}{σ:L2.St}{ρ:Ev}{p:Q9}{ws:al}
def Cm(h:aE Ha J)(n:a≠p)(e:fY Ha J p ws a=some o):J a=some o:=by
 unfold fY at e;cases q:Ha a with
 |some u=>rw[q]at e;cases e;exact h _ _ q
 |none=>
  rw[q]at e;simp only[if_neg n]at e;cases q2:J a with
  |none=>rw[q2]at e;cases e
  |some u=>
   rw[q2]at e;cases u with
   |tup vs|ins C dx fs=>cases e;rfl
   |frz o' u'=>cases u'<;>first|(cases e;rfl)|cases e
   |_=>cases e
def Ck(h:aE Ha J)(hp:J p=none∨∃l,J p=some (.lst l))(a:Q9)(vs:al)(e:Rd J a (.tup vs)):Rd (fY Ha J p ws) a (.tup vs):=by
 have n:a≠p:=λz=>by
  subst z;rcases hp with hp|⟨l,hp⟩<;>rcases e with e|⟨o,e⟩<;>rw[hp]at e<;>cases e
 rcases e with e|⟨o,e⟩
 .refine .inl ?_
  unfold fY;cases q:Ha a with|some u=>have:=h _ _ q;rw[e]at this;cases this;rfl|none=>simp only[if_neg n];rw[e]
 .refine .inr ⟨o,?_⟩
  unfold fY;cases q:Ha a with|some u=>have:=h _ _ q;rw[e]at this;cases this;rfl|none=>simp only[if_neg n];rw[e]
def GX(h:aE Ha J)(hp:J p=none∨∃l,J p=some (.lst l))(a:Q9)(C dx:Q9)(fs:List (Ro×V))(e:J a=some (.ins C dx fs)):fY Ha J p ws a=some (.ins C dx fs):=by
 have n:a≠p:=λz=>by
  subst z;rcases hp with hp|⟨l,hp⟩<;>rw[hp]at e<;>cases e
 unfold fY;cases q:Ha a with|some u=>have:=h _ _ q;rw[e]at this;cases this;rfl|none=>simp only[if_neg n];rw[e]
def eV.behindJ(h:eV K He η Ha σ H ρ)(g:bj H (frz He Ha H) H1 J)(hp:H p=none)(hv:H1 p=some (.lst ws)):eV K He η (fY Ha J p ws) σ H1 ρ:=by
 have hJ:aE Ha J:=h.frz_sub.trans g.z;have z:aE Ha (fY Ha J p ws):=λb o e=>by unfold fY;rw[e]
 have hpe:He p=none:=h.g.s.free hp;refine⟨⟨h.g.s.trans g.s,h.g.z.trans z,λb o e=>?_,λa h1 h2=>?_⟩,h.rd.mono z,λi d e=>?_,h.ap,h.ln,h.ex.upd (λj s e=>.inl ⟨e,rfl⟩) z (λa vs _ e=>g.s _ _ e) λq us hq h0 hl _=>⟨g.s _ _ hl,by
  have:frz He Ha H q=some (.lst us):=by unfold frz;rw[hq];exact hl
  have:=g.z _ _ this;have n:q≠p:=λz=>by rw[z,hp]at hl;cases hl
  unfold fY;rw[h0];simp only[if_neg n];rw[this]⟩⟩
 .by_cases n:b=p
  .subst n
   unfold fY at e;cases q:Ha b with|some u=>rw[h.g.sub _ _ q]at hp;cases hp|none=>rw[q]at e;simp only[if_true]at e;cases e;exact hv
  .exact g.sub _ _ (Cm hJ n e)
 .by_cases n:a=p
  .rw[n];exact hpe
  .cases q:fY Ha J p ws a with
   |none=>exact absurd q h1
   |some o=>
    have hj:=Cm hJ n q;exact(h.frz_grow.trans g).nw a (by rw[hj];simp) h2
 .obtain⟨a,k1,k2,k3,k4⟩:=h.ow i d e
  have non:∀u,H a=some u->(∀vs,u≠.tup vs)->(∀o v,u≠.frz o v)->(∀C dx fs,u≠.ins C dx fs)->fY Ha J p ws a=none:=λu hu n1 n2 n3=>by
   have n:a≠p:=λz=>by rw[z,hp]at hu;cases hu
   have:frz He Ha H a=some u:=by unfold frz;rw[k2];exact hu
   have:=g.z _ _ this;unfold fY;rw[k3];simp only[if_neg n];rw[this];cases u with|tup vs=>exact absurd rfl (n1 _)|frz o v=>exact absurd rfl (n2 _ _)|ins C dx fs=>exact absurd rfl (n3 _ _ _)| _=>rfl
  refine⟨a,k1,k2,?_,?_⟩
  .cases d with
   |lst ds=>obtain⟨vs,h5,_⟩:=k4;exact non _ h5 (λ_ z=>nomatch z) (λ_ _ z=>nomatch z) (λ_ _ _ z=>nomatch z)
   |dic ks ds=>obtain⟨vs,h5,_⟩:=k4;exact non _ h5 (λ_ z=>nomatch z) (λ_ _ z=>nomatch z) (λ_ _ _ z=>nomatch z)
   |ob kk ds=>
    cases kk with|dint ks=>obtain⟨vs,h5,_⟩:=k4;exact non _ h5 (λ_ z=>nomatch z) (λ_ _ z=>nomatch z) (λ_ _ _ z=>nomatch z)| _=>exact k4.elim
   |_=>exact k4.elim
  .cases d with
   |lst ds=>obtain⟨vs,h5,h6⟩:=k4;exact⟨vs,g.s _ _ h5,h6.mono z⟩
   |dic ks ds=>obtain⟨vs,h5,hl,h6⟩:=k4;exact⟨vs,g.s _ _ h5,hl,h6.mono z⟩
   |ob kk ds=>
    cases kk with|dint ks=>obtain⟨vs,h5,hl,h6⟩:=k4;exact⟨vs,g.s _ _ h5,hl,h6.mono z⟩| _=>exact k4.elim
   |_=>exact k4.elim
end
def pF(k:am)(i:Nat)(ρ:Ev)(ks:bv)(ds:ac)(d:D):av Fl:=match d with
 |.lst es=>if instFs es=true then(k ρ).bind (pG i ρ ks ds (.lst es)) else .stuck
 |_=>.stuck
def wH(i:Nat)(f k:am):bi:=λρ=>Al ρ i λks ds=>(f (iH ρ)).bind (pF k i ρ ks ds)
section
variable {X:Cx}{E:XK}{He η:Hp}{e b:R1}{pos:Pos}{f k:am}
def GA(hu:X.A.units+1<TY)(hN:X.N[i]?=some x)(hv:Cn X.env.scope x)(he:DF X E e f)(hk:DE X E b k)
  (hd:(x==("__debug__" : Ro))=false:=by decide)(hcd:(x==("__classdict__" : Ro))=false:=by decide)
  (hs:SD e (some (.Subscript (.Name x p1) b p2)) pos.line X.env=pure false:=by rfl):DS X E He η (.Assign [.Subscript (.Name x p1) b p2] e pos) (wH i f k):=by
 refine⟨?_⟩;refine cB (HY hu (jf hN hv hd hcd) hk.o he.o hs) λD σ H z9=>?_;obtain⟨Ha,ρ,h,q⟩:=z9;refine⟨frz He Ha H,iH ρ,h.frz_le,h.looks,?_⟩
 obtain⟨ks,ds,p,vs,e1,e2,e5,el,e6,q⟩:=CP h q;cases ef:f (iH ρ) with
 |stuck=>rw[ef]at q;exact q|exn x=>rw[ef]at q;exact λC ox H' Ha' g ex=>q C ox H' Ha' (h.frz_grow.trans g) ex
 |ok d=>
  rw[ef]at q;replace q:bQ X.K E He η Ha (pF k i ρ ks ds d) D:=q;unfold pF at q;cases d with
  |lst es=>
   simp only at q
   by_cases fl:instFs es=true
   .rw[if_pos fl]at q
    intro p' ws H1 J g hp h0 hv' rp;have hJ:aE Ha J:=h.frz_sub.trans g.z;have hJp:J p'=none∨∃l,J p'=some (.lst l):=by
     cases z:J p' with
     |none=>exact .inl rfl
     |some u=>
      have:=g.sub _ _ z;rw[hv']at this;cases this;exact .inr ⟨_,rfl⟩
    have h1':=h.behindJ g hp hv';have z:aE Ha (fY Ha J p' ws):=λb o e=>by unfold fY;rw[e]
    have hpR:fY Ha J p' ws p'=some (.lst ws):=by
     unfold fY;cases q0:Ha p' with|some u=>rw[h.g.sub _ _ q0]at hp;cases hp|none=>simp
    have r1:Rep X.K (fY Ha J p' ws) (.lst es) (.ref p'):=aB.mpr ⟨p',ws,rfl,fZ.of hpR,Reps.inst_to (Ck hJ hJp) (GX hJ hJp) fl rp⟩;refine⟨.ref p,e2,?_⟩;replace q:bQ X.K E He η (fY Ha J p' ws) ((k ρ).bind (pG i ρ ks ds (.lst es))) D:=bQ.grow (r:=(k ρ).bind (pG i ρ ks ds (.lst es))) q z;refine⟨fY Ha J p' ws,ρ,h1'.g.sub,h1'.rd,plain (k:=pG i ρ ks ds (.lst es)) h1' q λj u H2 H02 _ g2 r2 q2=>?_⟩;exact E7 (h1'.grow g2) e1 e2 (g2.s _ _ (g.s _ _ e5)) el ((e6.mono z).mono g2.z) (r1.mono g2.z) r2 q2
   .rw[if_neg fl]at q;exact q.elim
  |_=>exact q.elim
end
def pX(sc:UU)(env:Ts):List (Ro×Q9):=((sc.names.filter λp=>p.2==.free).map λp=>(p.1,(env.cells.lookup p.1).getD 0)).reverse
def ph{sc:UU}:(pX sc env).map (·.1)=gY sc:=by
 unfold pX gY;rw[List.map_reverse,RV];rfl
def Dt{sc:UU}(h:p∈pX sc env):p.1∈gY sc/\p.2=(env.cells.lookup p.1).getD 0:=by
 refine⟨by rw[←ph (env:=env)];exact Ta h,?_⟩;unfold pX at h;rw[List.mem_reverse]at h;obtain⟨q,_,e⟩:=Rl.mp h;rw[←e]
def AM(env:Ts)(x:Ro):Bool:=(env.cells.lookup x).isSome&&match env.kindOf x with
 |some .cell=>true
 |_=>false
def Jy(h1:(gY F.scope).Nodup:=by decide +kernel)(h2:∀x∈gY F.scope,AM X.env x=true:=by exact λx hx=>Ru.mp (by rfl:(gY _).all (AM _)=true) x hx)(ix:cs.map (X.N[·]?)=(gY F.scope).map some:=by exact rfl)(hf:∀x,X.fn x=true:=by exact λ_=>rfl):JQ X F (pX F.scope X.env) cs:=by
 have hc:∀p∈pX F.scope X.env,X.env.cells.lookup p.1=some p.2/\X.env.kindOf p.1=some .cell:=λp hp=>by
  obtain⟨m,e⟩:=Dt hp;have q:=h2 p.1 m;unfold AM at q;rw[Rn]at q;obtain⟨q1,q2⟩:=q;constructor
  .cases z:X.env.cells.lookup p.1 with
   |none=>rw[z]at q1;cases q1
   |some c=>rw[e,z];rfl
  .split at q2
   .assumption
   .cases q2
 refine⟨ph,h1,λp hp=>(hc p hp).1,?_,λp hp=>⟨?_,.inr (.inl ?_)⟩,λp _=>hf p.1⟩
 .rw[ix,←ph (env:=X.env),RV];rfl
 .rw[(hc p hp).2];decide
 .exact(hc p hp).2
def NW(st:Tr):jM:=(Lx (.stmts (defBody st))).getD ⟨⟨[],[],.none,[],[],.none,[]⟩,.Constant .none 0 ⟨0,0,0,0⟩,⟨.function,[],false,false,[]⟩,⟨0,0,0,0⟩⟩
def G0(K:Q2)(a:Q9)(q:Ro)(F:jM):Prop:=∃oc od fd sl c P,K.lookup a=some ⟨oc,od,.func fd,sl⟩/\fd.code=.ref c/\VZ K c P=true/\(P,#[rawInt F.pos.line,rawInt F.pos.col,.str q 0])∈gW K/\(vK K).lookup q=some F
def C7{K:Q2}{st:Tr}(U:D1 K x qual st a fd)(h:G0 K a q F):uL K fd q F:=by
 obtain⟨oc,od,fd',sl,c,P,h1,h2,h3,h4,h5⟩:=h;obtain⟨oc2,od2,kV,doc,pm,an,cdv,ct,osl,e,lk,hcd⟩:=U.ex;rw[lk]at h1;cases h1;exact⟨⟨c,P,h2,h3,h4⟩,h5⟩
section
variable {X:Cx}{E:XK}{es:List R1}{fa:Ev->av (ac)}{q:Ro}{F:jM}{fd:SV}
def JF(L:uL X.K fd q F)(hcd:fd.code=X.env.code)(ha:DA X E es fa)(hcl:closureFor F.scope X.env=pure (pX F.scope X.env):=by exact rfl)(hq:X.env.qual++"<lambda>"=q:=by exact rfl)(hdf:defaultsOf F.params X.env=([],[]):=by exact rfl)
  (hs:Rk (.Lambda F.params F.body F.scope F.pos::es) X.env=(false,eval (.Lambda F.params F.body F.scope F.pos) X.env)::Rk es X.env:=by exact bB rfl):AL X E (.Lambda F.params F.body F.scope F.pos::es) fa 0 q F (pX F.scope X.env):=JE L hcd ha hcl hq hdf hs
def Mv(h:∀ρ ds,fa ρ=.ok ds->ds.length+1=n):∀ρ ds,af f fa ρ=.ok ds->ds.length+1=n+1:=λρ ds e=>by
 unfold af at e;cases e1:f ρ with
 |stuck|exn x=>rw[e1]at e;cases e
 |ok x=>
  rw[e1]at e;replace e:((fa ρ).bind λxs=>av.ok (x::xs))=.ok ds:=e;cases e2:fa ρ with
  |stuck|exn x=>rw[e2]at e;cases e
  |ok xs=>
   rw[e2]at e;cases e;rw[Rt,h ρ xs e2]
def QQ:∀ρ ds,ax ρ=.ok ds->ds.length+1=1:=λ_ _ h=>by rw[zA h]
end
end DL
namespace DL
def Er:ac->Nat
 |.int x::r=>x.natAbs+Er r
 |_=>0
def Gh:Ev->Nat:=λρ=>match ρ with
 |.sh (.ob (.fn _) [_,_,.tup [.lst rs,_]])::_=>Er rs+1
 |_=>0
end DL
namespace K37
open PySem L2 DL
abbrev aD:ac->av D:=Cod.aD
abbrev aI:ac->av D:=Cod.aI
abbrev aA:ac->av D:=Cod.aA
noncomputable def dM:bi :=
 (aq (aJ 1 (ao (af (dC (.int 420)) (af (dC (.int 60)) (af (dC (.int 2)) (af (dC (.int 5)) (af (aa (dC (.int 10)) (dC (.int 18)) kr) (af (dC (.int 30)) (af (dC (.int 6)) (af (dC (.int 5)) (af (aa (dC (.int 10)) (dC (.int 18)) kr) (af (dC (.int 30)) (af (dC (.int 3)) (af (dC (.int 5)) (af (aa (dC (.int 10)) (dC (.int 18)) kr) (af (dC (.int 30)) ax)))))))))))))) cH))
 (aq (aW (cE 1 [1] (jP (aa (ao (af (ae 0) ax) aI) (dC (.int 0)) aC)) (bF 0) mYes (ao (af (gK (ao (af (ae 0) (af (ae 1) ax)) aD) (cD (dC (.int 11))) fD) ax) aA)))
 ak))
def aZ:ac->av D:=br 2 dM
abbrev m_look_at_web:ac->av D:=Nwb.m_look_at_web
abbrev m_is_tie_number:ac->av D:=Com.m_is_tie_number
abbrev m_look_at_taking:ac->av D:=K16.m_look_at_taking
noncomputable def b_fewest_turns:bi :=
 (aq (Bp 2 (B7 (ae 1) (ao ax cH)))
 (aq (wJ 3 (ao (af (ae 1) ax) cH))
 (aq (gf (λ_=>1000) (aa (ae 3) (ao ax cH) gO)
 (aq (lE 4 3 (dC (.int 0)))
 (aq (kF (ae 0) (bF 5)
 (aq (cM (dZ (aa (aQ (ae 5) (f9 "here")) (ae 4) fJ) (aa (aQ (ae 5) (f9 "there")) (ae 2) jZ))
 (aq (wH 2 (aa (aa (ae 2) (ae 4) kY) (ao (af (ae 5) ax) cH) pb) (aQ (ae 5) (f9 "there")))
 (aq (c6 3 (aQ (ae 5) (f9 "there")))
 ak))
 ak)
 ak))
 ak)))
 (aq (aW (ae 2))
 ak))))
def m_fewest_turns:ac->av D:=br 6 b_fewest_turns
noncomputable def b_sent_along:bi :=
 (aq (wJ 3 (ao (af (ae 0) ax) (m1 eU)))
 (aq (kF (ae 1) (bF 4)
 (aq (Bo 3 (aa (aa (ae 3) (aQ (ae 4) (f9 "number")) aC) (aa (aQ (ae 4) (f9 "sign")) (ae 2) bE) bz) (aQ (ae 4) (f9 "number")))
 ak))
 (aq (aW (ae 3))
 ak)))
def m_sent_along:ac->av D:=br 5 b_sent_along
def b_least_room:bi :=
 (aq (aW (ao (af (cE 1 [] (jP (ae 0)) (bF 0) (aa (aQ (ae 0) (f9 "room")) (dC (.non)) kj) (aQ (ae 0) (f9 "room"))) ax) (m1 B6)))
 ak)
def m_least_room:ac->av D:=br 1 b_least_room
noncomputable def b_turns_left:bi :=
 (aq (wJ 4 (ao ax cH))
 (aq (gB (lW (aa (ae 0) (dC (.int 1)) aC)) (dy [5,6])
 (aq (cM (aa (ae 5) (ae 2) bL)
 (aq (aJ 7 (Jt (aa (aa (ae 6) (dC (.int 2)) aC) (dC (.str "one")) fJ) (aa (ae 3) (ae 5) aC) (aa (aa (ae 1) (ae 5) aC) (aa (ae 3) (ae 5) aC) bz)))
 (aq (c6 4 (ao (af (ae 5) (af (dC (.int 1)) (af (aa (ae 6) (dC (.int 0)) aC) (af (aa (ae 6) (dC (.int 1)) aC) (af (dC (.int 0)) (af (aa (aa (ae 1) (ae 5) aC) (aa (ae 3) (ae 5) aC) ik) ax)))))) (AD "Turn" ["number","sign","here","there","cost","room"])))
 (aq (c6 4 (ao (af (ae 5) (af (aQ (dC (.int 1)) jF) (af (aa (ae 6) (dC (.int 1)) aC) (af (aa (ae 6) (dC (.int 0)) aC) (af (dC (.int 0)) (af (ae 7) ax)))))) (AD "Turn" ["number","sign","here","there","cost","room"])))
 ak)))
 ak)
 ak))
 (aq (aW (cE 1 [] (jP (ae 4)) (bF 0) (aa (aQ (ae 0) (f9 "room")) (dC (.int 0)) zK) (ae 0)))
 ak)))
def m_turns_left:ac->av D:=br 8 b_turns_left
def bl_most_flow:am :=
 (ao (af (ae 1) (af (aa (ae 3) (dC (.int 0)) aC) (af (ae 2) (af (ae 0) ax)))) m_turns_left)
def ia:ac->ac->av D:=C6 1 3 bl_most_flow
def lt_filled:LT:=(rV (sA "most_flow") ia FY)
noncomputable def b_filled:bi :=
 (aq (aJ 4 (ao (af (pd lt_filled 0 (af (ae 1) ax)) (af (ae 2) ax)) m_fewest_turns))
 (aq (gf Gh (aa (ae 3) (ae 4) xu)
 (aq (aJ 1 (ao (af (ae 1) (af (aa (ae 4) (ae 3) kY) (af (ao (af (aa (ae 4) (ae 3) kY) ax) m_least_room) ax))) m_sent_along))
 (aq (aJ 4 (ao (af (pd lt_filled 0 (af (ae 1) ax)) (af (ae 2) ax)) m_fewest_turns))
 ak)))
 (aq (aW (ao (af (ae 1) (af (ae 4) ax)) c5))
 ak)))
def m_filled:ac->av D:=br 5 b_filled
end K37
namespace K34
open PySem L2 DL
abbrev aD:ac->av D:=Cod.aD
abbrev aI:ac->av D:=Cod.aI
abbrev bJ:ac->av D:=Cod.bJ
abbrev aA:ac->av D:=Cod.aA
noncomputable def eG:bi :=
 (aq (aW (ao (af (aa (aa (aa (ae 0) (dC (.int 0)) aC) (aa (ae 1) (dC (.int 1)) aC) bE) (aa (aa (ae 2) (aa (ae 1) (dC (.int 0)) aC) bE) (aa (ae 0) (dC (.int 1)) aC) bE) bz) (af (aa (aa (ae 0) (dC (.int 1)) aC) (aa (ae 1) (dC (.int 1)) aC) bE) ax)) bJ)) ak)
def ba:ac->av D:=br 3 eG
noncomputable def dM:bi :=
 (aq (aJ 1 (ao (af (dC (.int 420)) (af (dC (.int 60)) (af (dC (.int 2)) (af (dC (.int 5)) (af (aa (dC (.int 10)) (dC (.int 18)) kr) (af (dC (.int 30)) (af (dC (.int 6)) (af (dC (.int 5)) (af (aa (dC (.int 10)) (dC (.int 18)) kr) (af (dC (.int 30)) (af (dC (.int 3)) (af (dC (.int 5)) (af (aa (dC (.int 10)) (dC (.int 18)) kr) (af (dC (.int 30)) ax)))))))))))))) cH)) (aq (aW (cE 1 [1] (jP (aa (ao (af (ae 0) ax) aI) (dC (.int 0)) aC)) (bF 0) mYes (ao (af (gK (ao (af (ae 0) (af (ae 1) ax)) aD) (cD (dC (.int 11))) fD) ax) aA))) ak))
def aZ:ac->av D:=br 2 dM
abbrev m_is_ratio:ac->av D:=Com.m_is_ratio
abbrev m_is_length:ac->av D:=Com.m_is_length
abbrev m_look_at_web:ac->av D:=Com.m_look_at_web
noncomputable def b_has_lengths:bi :=
 (aq (cM (gZ (cg (aQ (ae 1) (gL "list"))) (aa (ao (af (ae 1) ax) (m1 dP)) (ao (af (aa (ae 0) (dC (.int 1)) aC) ax) (m1 dP)) gO)) (aq (aW (dC (.bl false))) ak) ak) (aq (aW (ao (af (cE 1 [] (jP (ae 1)) (bF 0) mYes (ao (af (ae 0) ax) m_is_length)) ax) (m1 ug))) ak))
def m_has_lengths:ac->av D:=br 2 b_has_lengths
def dR:bi :=
 (aq (gC (ao (af (ae 0) ax) m_look_at_web)) (aq (cM (cg (ao (af (ae 0) (af (ae 1) ax)) m_has_lengths)) (aq dg ak) ak) ak))
def m_look_at_rooms:ac->av D:=br 2 dR
abbrev m_is_tie_number:ac->av D:=Com.m_is_tie_number
abbrev m_look_at_taking:ac->av D:=Com.m_look_at_taking
abbrev m_is_less:ac->av D:=Com.m_is_less
noncomputable def gN:bi :=
 (aq (cM (gZ (cg (ao (af (ae 2) ax) m_is_ratio)) (dZ (aa (aa (ae 2) (dC (.int 0)) aC) (dC (.int 0)) zk) (aa (aa (ae 0) (dC (.int 2)) aC) (dC (.str "one")) fJ))) (aq (aW (dC (.bl false))) ak) ak) (aq (aW (cg (ao (af (ae 1) (af (ao (af (ao (af (aa (ae 2) (dC (.int 0)) aC) ax) (m1 vc)) (af (aa (ae 2) (dC (.int 1)) aC) ax)) c5) ax)) m_is_less))) ak))
def fE:ac->av D:=br 3 gN
noncomputable def wq:bi:=(aq (aJ 6 (Jt (aa (ae 4) (ae 2) pS) (dC (.tup [(.int 0),(.int 1)])) (aa (ae 1) (ae 4) aC))) (aq (cM (cg (ao (af (aa (aa (ae 0) (dC (.int 1)) aC) (ae 4) aC) (af (ae 6) (af (ae 5) ax))) fE)) (aq (qt "NoFlow" ["at"] (af (ae 4) ax)) ak) ak) ak))
noncomputable def fW:bi :=
 (aq (cM (gZ (cg (aQ (ae 3) (gL "list"))) (aa (ao (af (ae 3) ax) (m1 dP)) (ao (af (aa (ae 0) (dC (.int 1)) aC) ax) (m1 dP)) gO)) (aq (qt "NoFlow" ["at"] (af (dC (.non)) ax)) ak) ak) (aq (gB (lW (ae 3)) (dy [4,5]) wq) ak))
def bY:ac->av D:=br 7 fW
abbrev m_on_one_scale:ac->av D:=Com.m_on_one_scale
noncomputable def i8:bi :=
 (aq (aJ 3 (dC (.int 0))) (aq (gB (KL (aa (ae 0) (dC (.int 1)) aC) (ae 1)) (dy [4,5]) (aq (cM (aa (aa (ae 4) (dC (.int 0)) aC) (ae 2) fJ) (aq (aJ 3 (aa (ae 3) (ae 5) bz)) ak) ak) (aq (cM (aa (aa (ae 4) (dC (.int 1)) aC) (ae 2) fJ) (aq (aJ 3 (aa (ae 3) (ae 5) ik)) ak) ak) ak))) (aq (aW (ae 3)) ak)))
def gF:ac->av D:=br 6 i8
def jq:bi :=
 (aq (aJ 3 (ao (af (ae 0) (af (ae 1) (af (ae 2) ax))) gF)) (aq (aW (Jt (aa (ae 2) (aa (ae 0) (dC (.int 2)) aC) fJ) (aa (ae 3) (dC (.int 0)) Mm) (aa (ae 3) (dC (.int 0)) fJ))) ak))
def gk:ac->av D:=br 4 jq
def wb:bi:=(aq (cM (dZ (aa (ae 3) (aa (ae 0) (dC (.int 3)) aC) gO) (cg (ao (af (ae 0) (af (ae 2) (af (ae 3) ax))) gk))) (aq (qt "Unbalanced" ["place"] (af (ae 3) ax)) ak) ak) ak)
def fV:bi :=
 (aq (aJ 2 (aa (ao (af (ae 1) ax) m_on_one_scale) (dC (.int 0)) aC)) (aq (kF (aa (ae 0) (dC (.int 0)) aC) (bF 3) wb) ak))
def bW:ac->av D:=br 4 fV
noncomputable def dw:bi :=
 (aq (gC (ao (af (ae 0) (af (ae 1) ax)) m_look_at_rooms)) (aq (gC (ao (af (ae 0) (af (ae 2) ax)) m_look_at_taking)) (aq (gC (ao (af (ae 0) (af (ae 1) (af (ae 2) (af (ae 3) ax)))) bY)) (aq (gC (ao (af (ae 0) (af (ae 3) ax)) bW)) ak))))
def m_look_at_flow:ac->av D:=br 4 dw
abbrev cG:ac->av D:=Com.cG
noncomputable def cn:bi :=
 (aq (cM (gZ (cg (aQ (ae 0) (gL "tuple"))) (aa (ao (af (ae 0) ax) (m1 dP)) (dC (.int 2)) gO)) (aq (aW (dC (.bl false))) ak) ak) (aq (cM (gZ (cg (ao (af (aa (ae 0) (dC (.int 0)) aC) ax) cG)) (cg (ao (af (aa (ae 0) (dC (.int 1)) aC) ax) cG))) (aq (aW (dC (.bl false))) ak) ak) (aq (aW (dZ (aa (aa (ae 0) (dC (.int 1)) aC) (dC (.int 0)) zK) (aa (ao (af (aa (ae 0) (dC (.int 0)) aC) (af (aa (ae 0) (dC (.int 1)) aC) ax)) bJ) (ae 0) fJ))) ak)))
def aX:ac->av D:=br 1 cn
def jb:bi :=
 (aq (aW (aa (aa (aa (ae 0) (dC (.int 0)) aC) (aa (ae 1) (dC (.int 1)) aC) bE) (aa (aa (ae 1) (dC (.int 0)) aC) (aa (ae 0) (dC (.int 1)) aC) bE) zk)) ak)
def cJ:ac->av D:=br 2 jb
noncomputable def il:bi :=
 (aq (aJ 3 (ao (af (dC (.int 0)) (af (dC (.int 1)) ax)) c5)) (aq (gB (lW (aa (ae 0) (dC (.int 1)) aC)) (dy [4,5]) (aq (cM (aa (aa (ae 5) (dC (.int 0)) aC) (ae 2) fJ) (aq (aJ 3 (ao (af (ae 3) (af (aa (ae 1) (ae 4) aC) (af (dC (.int 1)) ax))) ba)) ak) ak) (aq (cM (aa (aa (ae 5) (dC (.int 1)) aC) (ae 2) fJ) (aq (aJ 3 (ao (af (ae 3) (af (aa (ae 1) (ae 4) aC) (af (aQ (dC (.int 1)) jF) ax))) ba)) ak) ak) ak))) (aq (aW (ae 3)) ak)))
def bP:ac->av D:=br 6 il
noncomputable def NY:bi:=(cM (gZ (cg (ao (af (aa (ae 3) (ae 4) aC) ax) aX)) (dZ (aa (ae 4) (ae 2) pS) (aa (aa (aa (ae 3) (ae 4) aC) (dC (.int 0)) aC) (dC (.int 0)) gO))) (aq (aW (ao (af (dC (.str "flow")) (af (ae 4) ax)) c5)) ak) ak)
noncomputable def ON:bi:=(cM (gZ (ao (af (aa (ae 1) (ae 4) aC) (af (aa (ae 3) (ae 4) aC) ax)) cJ) (ao (af (aa (ae 1) (ae 4) aC) (af (ao (af (aQ (aa (aa (ae 3) (ae 4) aC) (dC (.int 0)) aC) jF) (af (aa (aa (ae 3) (ae 4) aC) (dC (.int 1)) aC) ax)) c5) ax)) cJ)) (aq (aW (ao (af (dC (.str "flow")) (af (ae 4) ax)) c5)) ak) ak)
def OM:bi:=(cM (dZ (aa (aa (ae 5) (dC (.int 2)) aC) (dC (.str "one")) fJ) (aa (aa (aa (ae 3) (ae 4) aC) (dC (.int 0)) aC) (dC (.int 0)) zk)) (aq (aW (ao (af (dC (.str "flow")) (af (ae 4) ax)) c5)) ak) ak)
noncomputable def lP:bi:=(aq (aJ 7 (aa (ao (af (ae 0) (af (ae 3) (af (ae 6) ax))) bP) (dC (.int 0)) aC)) (aq (cM (gZ (dZ (aa (ae 6) (aa (ae 0) (dC (.int 2)) aC) fJ) (aa (ae 7) (dC (.int 0)) zk)) (dZ (aa (ae 6) (ao (af (aa (ae 0) (dC (.int 2)) aC) (af (aa (ae 0) (dC (.int 3)) aC) ax)) c5) bL) (aa (ae 7) (dC (.int 0)) gO))) (aq (aW (ao (af (dC (.str "place")) (af (ae 6) ax)) c5)) ak) ak) ak))
def lA:bi:=(aq NY (aq ON (aq OM ak)))
noncomputable def eQ:bi :=
 (aq (cM (gZ (cg (aQ (ae 3) (gL "list"))) (aa (ao (af (ae 3) ax) (m1 dP)) (ao (af (aa (ae 0) (dC (.int 1)) aC) ax) (m1 dP)) gO)) (aq (aW (ao (af (dC (.str "flow")) (af (dC (.non)) ax)) c5)) ak) ak) (aq (gB (lW (aa (ae 0) (dC (.int 1)) aC)) (dy [4,5]) lA) (aq (kF (aa (ae 0) (dC (.int 0)) aC) (bF 6) lP) (aq (aW (dC (.non))) ak))))
def cu:ac->av D:=br 8 eQ
end K34
namespace K35
open PySem L2 DL
abbrev aD:ac->av D:=Cod.aD
abbrev aI:ac->av D:=Cod.aI
abbrev bJ:ac->av D:=Cod.bJ
abbrev aA:ac->av D:=Cod.aA
noncomputable def dM:bi :=
 (aq (aJ 1 (ao (af (dC (.int 420)) (af (dC (.int 60)) (af (dC (.int 2)) (af (dC (.int 5)) (af (aa (dC (.int 10)) (dC (.int 18)) kr) (af (dC (.int 30)) (af (dC (.int 6)) (af (dC (.int 5)) (af (aa (dC (.int 10)) (dC (.int 18)) kr) (af (dC (.int 30)) (af (dC (.int 3)) (af (dC (.int 5)) (af (aa (dC (.int 10)) (dC (.int 18)) kr) (af (dC (.int 30)) ax)))))))))))))) cH))
 (aq (aW (cE 1 [1] (jP (aa (ao (af (ae 0) ax) aI) (dC (.int 0)) aC)) (bF 0) mYes (ao (af (gK (ao (af (ae 0) (af (ae 1) ax)) aD) (cD (dC (.int 11))) fD) ax) aA)))
 ak))
def aZ:ac->av D:=br 2 dM
def qc:bi :=
 (aq (aW (cE 2 [1] (lW (aa (ae 0) (dC (.int 1)) aC)) (dy [0,1]) (dZ (aa (aa (ae 1) (dC (.int 4)) aC) (dC (.non)) kj) (aa (aa (aa (ae 2) (ae 0) zj) (dC (.int 1)) pT) (dC (.int 1)) fJ)) (ae 0)))
 ak)
def dA:ac->av D:=br 2 qc
abbrev m_look_at_web:ac->av D:=Wex.m_look_at_web
abbrev m_is_tie_number:ac->av D:=Com.m_is_tie_number
abbrev m_look_at_taking:ac->av D:=Wex.m_look_at_taking
noncomputable def fX:bi :=
 (aq (cM (gZ (cg (aQ (ae 1) (gL "list"))) (gZ (aa (aa (ae 0) (dC (.int 2)) aC) (ae 1) bL) (aa (aa (ae 0) (dC (.int 3)) aC) (ae 1) pS)))
 (aq (aW (dC (.bl false)))
 ak)
 ak)
 (aq (aJ 2 (dC (.int 0)))
 (aq (kF (aa (ae 0) (dC (.int 0)) aC) (bF 3)
 (aq (cM (dZ (aa (ae 2) (ao (af (ae 1) ax) (m1 dP)) zk) (aa (aa (ae 1) (ae 2) aC) (ae 3) fJ))
 (aq (aJ 2 (aa (ae 2) (dC (.int 1)) bz))
 ak)
 ak)
 ak))
 (aq (aW (aa (ae 2) (ao (af (ae 1) ax) (m1 dP)) fJ))
 ak))))
def cc:ac->av D:=br 4 fX
noncomputable def eO:bi :=
 (aq (cM (aa (aa (ae 0) (dC (.int 2)) aC) (dC (.str "both")) fJ)
 (aq (aW (aa (aa (aa (ae 0) (dC (.int 0)) aC) (ae 1) pS) (aa (aa (ae 0) (dC (.int 1)) aC) (ae 1) pS) gO))
 ak)
 ak)
 (aq (aW (dZ (aa (aa (ae 0) (dC (.int 0)) aC) (ae 1) pS) (aa (aa (ae 0) (dC (.int 1)) aC) (ae 1) bL)))
 ak))
def bD:ac->av D:=br 2 eO
noncomputable def eG:bi :=
 (aq (aW (ao (af (aa (aa (aa (ae 0) (dC (.int 0)) aC) (aa (ae 1) (dC (.int 1)) aC) bE) (aa (aa (ae 2) (aa (ae 1) (dC (.int 0)) aC) bE) (aa (ae 0) (dC (.int 1)) aC) bE) bz) (af (aa (aa (ae 0) (dC (.int 1)) aC) (aa (ae 1) (dC (.int 1)) aC) bE) ax)) bJ))
 ak)
def ba:ac->av D:=br 3 eG
noncomputable def ja:bi :=
 (aq (aJ 4 (ao (af (dC (.int 0)) (af (dC (.int 1)) ax)) c5))
 (aq (gB (lW (aa (ae 0) (dC (.int 1)) aC)) (dy [5,6])
 (aq (cM (dZ (aa (ae 5) (ae 2) bL) (ao (af (ae 6) (af (ae 3) ax)) bD))
 (aq (aJ 4 (ao (af (ae 4) (af (aa (ae 1) (ae 5) aC) (af (dC (.int 1)) ax))) ba))
 ak)
 ak)
 ak))
 (aq (aW (ae 4))
 ak)))
def fF:ac->av D:=br 7 ja
end K35
namespace K36
open PySem L2 DL
abbrev aD:ac->av D:=Cod.aD
abbrev aI:ac->av D:=Cod.aI
abbrev bJ:ac->av D:=Cod.bJ
abbrev aA:ac->av D:=Cod.aA
noncomputable def eG:bi :=
 (aq (aW (ao (af (aa (aa (aa (ae 0) (dC (.int 0)) aC) (aa (ae 1) (dC (.int 1)) aC) bE) (aa (aa (ae 2) (aa (ae 1) (dC (.int 0)) aC) bE) (aa (ae 0) (dC (.int 1)) aC) bE) bz) (af (aa (aa (ae 0) (dC (.int 1)) aC) (aa (ae 1) (dC (.int 1)) aC) bE) ax)) bJ))
 ak)
def ba:ac->av D:=br 3 eG
noncomputable def il:bi :=
 (aq (aJ 3 (ao (af (dC (.int 0)) (af (dC (.int 1)) ax)) c5))
 (aq (gB (lW (aa (ae 0) (dC (.int 1)) aC)) (dy [4,5])
 (aq (cM (aa (aa (ae 5) (dC (.int 0)) aC) (ae 2) fJ)
 (aq (aJ 3 (ao (af (ae 3) (af (aa (ae 1) (ae 4) aC) (af (dC (.int 1)) ax))) ba))
 ak)
 ak)
 (aq (cM (aa (aa (ae 5) (dC (.int 1)) aC) (ae 2) fJ)
 (aq (aJ 3 (ao (af (ae 3) (af (aa (ae 1) (ae 4) aC) (af (aQ (dC (.int 1)) jF) ax))) ba))
 ak)
 ak)
 ak)))
 (aq (aW (ae 3))
 ak)))
def bP:ac->av D:=br 6 il
abbrev m_look_at_web:ac->av D:=Com.m_look_at_web
noncomputable def i8:bi :=
 (aq (aJ 3 (dC (.int 0)))
 (aq (gB (KL (aa (ae 0) (dC (.int 1)) aC) (ae 1)) (dy [4,5])
 (aq (cM (aa (aa (ae 4) (dC (.int 0)) aC) (ae 2) fJ)
 (aq (aJ 3 (aa (ae 3) (ae 5) bz))
 ak)
 ak)
 (aq (cM (aa (aa (ae 4) (dC (.int 1)) aC) (ae 2) fJ)
 (aq (aJ 3 (aa (ae 3) (ae 5) ik))
 ak)
 ak)
 ak)))
 (aq (aW (ae 3))
 ak)))
def gF:ac->av D:=br 6 i8
end K36
namespace K40
open PySem L2 DL
abbrev aD:ac->av D:=Cod.aD
abbrev aI:ac->av D:=Cod.aI
abbrev aA:ac->av D:=Cod.aA
abbrev aZ:ac->av D:=K37.aZ
abbrev m_look_at_web:ac->av D:=Com.m_look_at_web
abbrev m_has_lengths:ac->av D:=K51.m_has_lengths
def dR:bi :=
 (aq (gC (ao (af (ae 0) ax) m_look_at_web))
 (aq (cM (cg (ao (af (ae 0) (af (ae 1) ax)) m_has_lengths))
 (aq dg
 ak)
 ak)
 ak))
def m_look_at_rooms:ac->av D:=br 2 dR
abbrev m_is_tie_number:ac->av D:=Com.m_is_tie_number
abbrev m_look_at_taking:ac->av D:=Com.m_look_at_taking
end K40
namespace DL
open PySem PySem.Spec PyProof.Rows L2
section
variable {K:Q2}{E:XK}{He η Ha H H1 J:Hp}{σ:L2.St}{ρ:Ev}
def xP(h:eV K He η Ha σ H ρ)(t:TP K He Ha σ H x d)(g:bj H (frz He Ha H) H1 J)(hp:H p=none)(hj:J p=none)(hv:H1 p=some (.lst ws))(r:Reps K J ds ws)(f:flats ds=true) :
  ∃H01,aE Ha H01/\eV K He η H01 σ H1 ρ/\TP K He H01 σ H1 x d/\Rep K H01 (.lst ds) (.ref p):=by
 have hJ:aE Ha J:=h.frz_sub.trans g.z;have z:aE Ha (fY Ha J p ws):=λb o e=>by unfold fY;rw[e]
 have h':=h.behindJ g hp hv;have hp0:Ha p=none:=h.g.sub.free hp;have sl:fZ K (fY Ha J p ws) p ws:=fZ.of (by unfold fY;rw[hp0];simp only[if_true]);refine⟨_,z,h',?_,aB.mpr ⟨p,ws,rfl,sl,Reps.flat_to (Ck hJ (.inl hj)) f r⟩⟩;obtain⟨tt,a0,us0,a1,us1,wr,h1,h2,h3,h4,h5,h6,h7,h8,h9,hl⟩:=t;have sF:aE (frz He Ha H) (frz He (fY Ha J p ws) H1):=λc o e=>by
  unfold frz at e ⊢;cases q:He c with|none=>rw[q]at e;exact g.s _ _ e|some _=>rw[q]at e;exact z _ _ e
 have no:∀a us,H a=some (.lst us)->He a=none->Ha a=none->fY Ha J p ws a=none:=λa us e1 e2 e3=>by
  have n:a≠p:=λz=>by rw[z,hp]at e1;cases e1
  have:frz He Ha H a=some (.lst us):=by unfold frz;rw[e2];exact e1
  have:=g.z _ _ this;unfold fY;rw[e3];simp only[if_neg n];rw[this]
 exact⟨tt,a0,us0,a1,us1,wr,h1,aE.sqT g.s h2,h3.mono sF,g.s _ _ h4,h5,no _ _ h4 h5 h6,g.s _ _ h7,h8,no _ _ h7 h8 h9,hl⟩
end
section
variable {X:Cx}{E:XK}{He η:Hp}{x:Nat}{rest:List Tr}{e e':R1}{pos:Pos}{f f':am}{g:D->bi}{r:bi}
def vq(x i:Nat)(f f':am)(g:D->bi):D->bi:=λd ρ=>match f (vx x d ρ),f' (vx x d ρ) with
 |.ok (.lst a),.ok (.lst b)=>if x≠i/\flats a=true/\flats b=true then g d (ρ.set i (.sh (.tup [.lst a,.lst b]))) else .stuck
 |_,_=>.stuck
def Ky{x1}(hN:X.N.Nodup)(hi:X.N[i]?=some y)(hx:DR X.env.scope y)(h0:DF X E e f)(h1:DF X E e' f')(hr:MN X E He η x rest g)(hs:SD (.Tuple [e,e'] x1 p2) (some (.Name y pos')) pos.line X.env=pure false:=by rfl)
  (hs1:Rk [e,e'] X.env=(false,eval e X.env)::Rk [e'] X.env:=by exact bB rfl)(hs2:Rk [e'] X.env=(false,eval e' X.env)::Rk [] X.env:=by exact bB rfl)
  (hf:X.fn y=true∨X.env.scope.names.lookup y=some .local := by first|exact .inl rfl|exact .inr rfl|assumption):MN X E He η x (.Assign [.Name y pos'] (.Tuple [e,e'] x1 p2) pos::rest) (vq x i f f' g):=by
 refine⟨?_⟩;refine gD (iI (mr hN hi hx (Fj (fM h0.o (fM h1.o jR hs2) hs1)) hs hf) hr.o) λG σ H z9=>?_;obtain⟨Ha,ρ,d,h,t,q⟩:=z9;refine⟨frz He Ha H,vx x d ρ,h.frz_le,t.looks h,?_⟩
 unfold vq at q;cases e1:f (vx x d ρ) with
 |stuck|exn z=>rw[e1]at q;exact q.elim
 |ok z=>
  rw[e1]at q;cases e2:f' (vx x d ρ) with
  |stuck=>rw[e2]at q;cases z<;>exact q.elim
  |exn z=>rw[e2]at q;rename_i z';cases z'<;>exact q.elim
  |ok z'=>
   rw[e2]at q;cases z with
   |lst a=>
    cases z' with
    |lst b=>
     replace q:bQ X.K E He η Ha (if x≠i/\flats a=true/\flats b=true then g d (ρ.set i (.sh (.tup [.lst a,.lst b]))) else .stuck) G:=q
     by_cases hc:x≠i/\flats a=true/\flats b=true
     rotate_left
     .rw[if_neg hc]at q;exact q.elim
     rw[if_pos hc]at q;obtain⟨hxi,fa,fb⟩:=hc;intro p us H1 J1 g1 hp hj hv rp;obtain⟨H01,s1,h2,t2,r2⟩:=xP h t g1 hp hj hv rp fa;refine⟨frz He H01 H1,vx x d ρ,h2.frz_le,t2.looks h2,?_⟩;rw[e2];intro p' us' H2 J2 g2 hp' hj' hv' rp';obtain⟨H02,s2,h3,t3,r3⟩:=xP h2 t2 g2 hp' hj' hv' rp' fb;refine⟨by show 2<=sizeLine;decide,λw hw=>?_⟩;have ga:bj H2 H02 (upd H2 w (.tup [.ref p,.ref p'])) (upd H02 w (.tup [.ref p,.ref p'])):=aY h3.g.sub hw;have h4:=h3.grow ga;obtain⟨tt,a0,us0,a1,us1,wr,k1,k2⟩:=t3.grow ga;refine⟨_,ρ.set i (.sh (.tup [.lst a,.lst b])),d,h4.put (aG.mpr ⟨w,_,rfl,l9.of aL,Reps.cons ((r2.mono s2).mono ga.z) (Reps.cons (r3.mono ga.z) Reps.nil)⟩),⟨tt,a0,us0,a1,us1,wr,by rw[Q8 (R7 hxi)];exact k1,k2⟩,q.grow ((s1.trans s2).trans ga.z)⟩
    |_=>exact q.elim
   |_=>exact q.elim
def Cw{k k':Int}{jj jk jn}(hk:k=0)(hk':k'=1)(hN:X.N[x]?=some y)(hv:Cn X.env.scope y)(hr:zL X E He η rest r)
  (hd:(y==("__debug__" : Ro))=false:=by decide)(hcd:(y==("__classdict__" : Ro))=false:=by decide)(hix:oB (.Constant (.int k) jj p4):=by exact λ_ _=>rfl)(hix':oB (.Constant (.int k') jk q4):=by exact λ_ _=>rfl)
  (hbase:Tc (.Subscript (.Name y p1) (.Constant (.int k) jj p4) p0) "clear" X.env (eval (.Subscript (.Name y p1) (.Constant (.int k) jj p4) p0) X.env)=eval (.Subscript (.Name y p1) (.Constant (.int k) jj p4) p0) X.env:=by rfl)(hline:(p2.endLine==p3.line)=true:=by rfl)
  (hw:SD (.Call (.Attribute (.Subscript (.Name y p1) (.Constant (.int k) jj p4) p0) "clear" p2) [] [] p3) none p5.line X.env=pure false:=by rfl)
  (hbase':Tc (.Subscript (.Name y q1) (.Constant (.int k') jk q4) q0) "append" X.env (eval (.Subscript (.Name y q1) (.Constant (.int k') jk q4) q0) X.env)=eval (.Subscript (.Name y q1) (.Constant (.int k') jk q4) q0) X.env:=by rfl)
  (hfew:((SM q3 (Rk [.Constant (.str tx) jn q6] X.env)).all (λx=>!x.1)&&(Vz q3 (UE [] X.env)).all (λx=>x.1.isSome)
  &&decide ([(.Constant (.str tx) jn q6:R1)].length+([]:List UB).length+(if([]:List UB).isEmpty then 0 else 1)<30))=true:=by exact ng rfl)
  (hline':(q2.endLine==q3.line)=true:=by rfl) (hs:Rk [.Constant (.str tx) jn q6] X.env=(false,eval (.Constant (.str tx) jn q6) X.env)::Rk [] X.env:=by exact bB rfl) (hplain:(SM q3 (Rk [] X.env)).any (·.1)=false:=by exact cX rfl)
  (hw':SD (.Call (.Attribute (.Subscript (.Name y q1) (.Constant (.int k') jk q4) q0) "append" q2) [.Constant (.str tx) jn q6] [] q3) none q5.line X.env=pure false:=by rfl) :
  MN X E He η x (.Expr (.Call (.Attribute (.Subscript (.Name y p1) (.Constant (.int k) jj p4) p0) "clear" p2) [] [] p3) p5::.Expr (.Call (.Attribute (.Subscript (.Name y q1) (.Constant (.int k') jk q4) q0) "append" q2) [.Constant (.str tx) jn q6] [] q3) q5::rest) (lz r):=by
 refine⟨?_⟩;have h1:=qC (Lg Up PySem.F.slot_list_clear PySem.F.type_list_clear FQ (Fs AI (jf hN hv hd hcd) Ak hix) hbase hline) hw;have h2:=qC (BE Up Wd Wc oW (Fs AI (jf hN hv hd hcd) Ak hix') (fM (Fm (j:=jn) (pos:=q6)) jR hs) hbase' hfew hline' hs hplain) hw';refine gD (iI h1 (iI h2 hr.o)) λG σ H ⟨Ha,ρ,d,h,t,q⟩=>?_;unfold lz at q
 by_cases hn:DZ ρ=true
 rotate_left
 .rw[if_neg hn]at q;exact q.elim
 rw[if_pos hn]at q;obtain⟨t,a0,us0,a1,us1,wr,e1,ht,_,c0,n0,m0,c1,n1,m1,hl⟩:=t;refine⟨.ref t,e1,?_⟩;refine⟨t,.ref a0::.ref a1::wr,k,.ref a0,rfl,rfl,ht,by rw[hk];exact fu (j:=0) rfl,.inl ⟨rfl,us0,fZ.of c0⟩,a0,us0,rfl,rfl,c0,?_⟩;have htn:l9 X.K (upd H a0 (.lst [])) t (.ref a0::.ref a1::wr):=by
  rcases ht with z|z
  .refine .inl ?_
   rcases z with z|⟨o,z⟩
   .exact .inl (by rw[aF (by intro y;subst y;rw[c0]at z;cases z)];exact z)
   .exact .inr ⟨o,by rw[aF (by intro y;subst y;rw[c0]at z;cases z)];exact z⟩
  .exact .inr z
 obtain⟨us,hu,hul⟩:∃us,upd H a0 (.lst []) a1=some (.lst us)/\us.length<sizeLine:=by
  by_cases c:a1=a0
  .subst c;exact⟨[],aL,by decide⟩
  .exact⟨us1,by rw[aF c];exact c1,Q4 hl (by decide)⟩
 refine⟨.ref t,e1,?_⟩;refine⟨t,.ref a0::.ref a1::wr,k',.ref a1,rfl,rfl,htn,by rw[hk'];exact fu (j:=1) rfl,.inl ⟨rfl,us,fZ.of hu⟩,?_⟩;refine⟨a1,us,.str tx,rfl,rfl,hu,hul,?_⟩;have kp:∀b o,b≠a0->b≠a1->H b=some o->upd (upd H a0 (.lst [])) a1 (.lst (us++[.str tx])) b=some o:=λb o z0 z1 eb=>by rw[aF z1,aF z0];exact eb
 exact⟨Ha,ρ,h.poke hn (λb o eb=>kp b o (by intro z;subst z;rw[n0]at eb;cases eb) (by intro z;subst z;rw[n1]at eb;cases eb) (h.g.s _ _ eb)) (λb o eb=>kp b o (by intro z;subst z;rw[m0]at eb;cases eb) (by intro z;subst z;rw[m1]at eb;cases eb) (h.g.sub _ _ eb)),q⟩
end
end DL
namespace K38
open PySem L2 DL
abbrev aD:ac->av D:=Cod.aD
abbrev dG:ac->av D:=Cod.dG
abbrev aI:ac->av D:=Cod.aI
abbrev bJ:ac->av D:=Cod.bJ
abbrev aA:ac->av D:=Cod.aA
abbrev bZ:ac->av D:=Cod.bZ
abbrev cY:ac->av D:=Cod.cY
abbrev aZ:ac->av D:=K37.aZ
abbrev dA:ac->av D:=K35.dA
abbrev m_is_name:ac->av D:=Com.m_is_name
abbrev m_look_at_places:ac->av D:=Com.m_look_at_places
abbrev m_is_whole:ac->av D:=Com.m_is_whole
abbrev m_common_divisor:ac->av D:=Com.m_common_divisor
abbrev m_is_ratio:ac->av D:=Com.m_is_ratio
abbrev m_is_length:ac->av D:=Com.m_is_length
abbrev m_is_worth:ac->av D:=Com.m_is_worth
abbrev m_is_tie:ac->av D:=Com.m_is_tie
abbrev m_look_at_ties:ac->av D:=Com.m_look_at_ties
abbrev m_is_place:ac->av D:=Com.m_is_place
abbrev m_look_at_web:ac->av D:=Com.m_look_at_web
abbrev m_has_lengths:ac->av D:=K51.m_has_lengths
abbrev m_look_at_rooms:ac->av D:=K40.m_look_at_rooms
abbrev m_is_tie_number:ac->av D:=Com.m_is_tie_number
abbrev m_look_at_taking:ac->av D:=Com.m_look_at_taking
abbrev m_shared_bottom:ac->av D:=Com.m_shared_bottom
abbrev m_as_whole:ac->av D:=Com.m_as_whole
abbrev m_on_one_scale:ac->av D:=Com.m_on_one_scale
abbrev m_fewest_turns:ac->av D:=K37.m_fewest_turns
abbrev m_sent_along:ac->av D:=K37.m_sent_along
abbrev m_least_room:ac->av D:=K37.m_least_room
abbrev m_turns_left:ac->av D:=K37.m_turns_left
def bl_most_flow:am :=
 (ao (af (ae 1) (af (aa (ae 3) (dC (.int 0)) aC) (af (ae 2) (af (ae 0) ax)))) m_turns_left)
def ia:ac->ac->av D:=C6 1 3 bl_most_flow
def lt_filled:LT:=(rV (sA "most_flow") ia FY)
abbrev m_filled:ac->av D:=K37.m_filled
abbrev m_ratio:ac->av D:=Com.m_ratio
noncomputable def p7:bi :=
 (aq (gC (ao (af (ae 0) (af (ae 1) ax)) m_look_at_rooms))
 (aq (gC (ao (af (ae 0) (af (ae 2) ax)) m_look_at_taking))
 (aq (aJ 3 (ao (af (ae 1) ax) m_on_one_scale))
 (aq (aJ 4 (cE 1 [] (jP (ae 1)) (bF 0) mYes (dC (.int 0))))
 (aq (aJ 5 (uf (af (ae 4) (af (aa (ae 0) (dC (.int 2)) aC) (af (aa (ae 0) (dC (.int 3)) aC) ax))) 0 (sA "most_flow") [0,2,3] m_filled))
 (aq (aJ 6 (Aj (cE 1 [5] (jP (aa (ae 0) (dC (.int 0)) aC)) (bF 0) (aa (ae 0) (aa (ae 1) (dC (.int 1)) aC) xu) (ae 0))))
 (aq (aW (ao (af (Aj (cE 1 [3] (jP (aa (ae 5) (dC (.int 0)) aC)) (bF 0) mYes (ao (af (ae 0) (af (aa (ae 1) (dC (.int 1)) aC) ax)) m_ratio))) (af (ae 6) ax)) c5))
 ak)))))))
def cI:ac->av D:=br 7 p7
abbrev cG:ac->av D:=Com.cG
abbrev aX:ac->av D:=K34.aX
abbrev cJ:ac->av D:=K51.cJ
abbrev ba:ac->av D:=K34.ba
abbrev bP:ac->av D:=K34.bP
noncomputable def eQ:bi :=
 (aq (cM (gZ (cg (aQ (ae 3) (gL "list"))) (aa (ao (af (ae 3) ax) (m1 dP)) (ao (af (aa (ae 0) (dC (.int 1)) aC) ax) (m1 dP)) gO))
 (aq (aW (ao (af (dC (.str "flow")) (af (dC (.non)) ax)) c5))
 ak)
 ak)
 (aq (gB (lW (aa (ae 0) (dC (.int 1)) aC)) (dy [4,5])
 (aq (cM (gZ (cg (ao (af (aa (ae 3) (ae 4) aC) ax) aX)) (dZ (aa (ae 4) (ae 2) pS) (aa (aa (aa (ae 3) (ae 4) aC) (dC (.int 0)) aC) (dC (.int 0)) gO)))
 (aq (aW (ao (af (dC (.str "flow")) (af (ae 4) ax)) c5))
 ak)
 ak)
 (aq (cM (gZ (ao (af (aa (ae 1) (ae 4) aC) (af (aa (ae 3) (ae 4) aC) ax)) cJ) (ao (af (aa (ae 1) (ae 4) aC) (af (ao (af (aQ (aa (aa (ae 3) (ae 4) aC) (dC (.int 0)) aC) jF) (af (aa (aa (ae 3) (ae 4) aC) (dC (.int 1)) aC) ax)) c5) ax)) cJ))
 (aq (aW (ao (af (dC (.str "flow")) (af (ae 4) ax)) c5))
 ak)
 ak)
 (aq (cM (dZ (aa (aa (ae 5) (dC (.int 2)) aC) (dC (.str "one")) fJ) (aa (aa (aa (ae 3) (ae 4) aC) (dC (.int 0)) aC) (dC (.int 0)) zk))
 (aq (aW (ao (af (dC (.str "flow")) (af (ae 4) ax)) c5))
 ak)
 ak)
 ak))))
 (aq (kF (aa (ae 0) (dC (.int 0)) aC) (bF 6)
 (aq (aJ 7 (aa (ao (af (ae 0) (af (ae 3) (af (ae 6) ax))) bP) (dC (.int 0)) aC))
 (aq (cM (gZ (dZ (aa (ae 6) (aa (ae 0) (dC (.int 2)) aC) fJ) (aa (ae 7) (dC (.int 0)) zk)) (dZ (aa (ae 6) (ao (af (aa (ae 0) (dC (.int 2)) aC) (af (aa (ae 0) (dC (.int 3)) aC) ax)) c5) bL) (aa (ae 7) (dC (.int 0)) gO)))
 (aq (aW (ao (af (dC (.str "place")) (af (ae 6) ax)) c5))
 ak)
 ak)
 ak)))
 (aq (aW (dC (.non)))
 ak))))
def cu:ac->av D:=br 8 eQ
abbrev cc:ac->av D:=K35.cc
abbrev bD:ac->av D:=K35.bD
noncomputable def ja:bi :=
 (aq (aJ 4 (ao (af (dC (.int 0)) (af (dC (.int 1)) ax)) c5))
 (aq (gB (lW (aa (ae 0) (dC (.int 1)) aC)) (dy [5,6])
 (aq (cM (dZ (aa (ae 5) (ae 2) bL) (ao (af (ae 6) (af (ae 3) ax)) bD))
 (aq (aJ 4 (ao (af (ae 4) (af (aa (ae 1) (ae 5) aC) (af (dC (.int 1)) ax))) ba))
 ak)
 ak)
 ak))
 (aq (aW (ae 4))
 ak)))
def fF:ac->av D:=br 7 ja
noncomputable def oq:bi :=
 (aq (cM (gZ (cg (aQ (ae 3) (gL "tuple"))) (aa (ao (af (ae 3) ax) (m1 dP)) (dC (.int 2)) gO))
 (aq (aW (dC (.bl false)))
 ak)
 ak)
 (aq (HI [4,5] (ae 3))
 (aq (cM (gZ (aa (ao (af (ae 0) (af (ae 1) (af (ae 2) (af (ae 4) ax)))) cu) (dC (.non)) kj) (cg (ao (af (ae 0) (af (ae 5) ax)) cc)))
 (aq (aW (dC (.bl false)))
 ak)
 ak)
 (aq (aW (aa (ao (af (ae 0) (af (ae 4) (af (aa (ae 0) (dC (.int 2)) aC) ax))) bP) (ao (af (ae 0) (af (ae 1) (af (ae 2) (af (ae 5) ax)))) fF) fJ))
 ak))))
def fR:ac->av D:=br 6 oq
noncomputable def Kj:bi :=
 (aq (aJ 1 (ao (af (ae 0) ax) cY))
 (aq (aJ 2 (ao (af (ae 0) ax) aZ))
 (aq (aJ 3 (ao (af (ao (af (ae 0) ax) cY) (af (ao (af (ae 2) ax) (m1 eU)) ax)) c5))
 (aq (kF (aa (ao (af (ao (af (dC (.int 0)) (af (dC (.int 0)) (af (dC (.int 0)) ax))) cH) ax) cH) (cE 1 [] (jP (aa (ao (af (ae 0) ax) aI) (dC (.int 1)) aC)) (bF 0) mYes (ao (af (ae 0) (af (ao (af (dC (.int 16384)) (af (dC (.int 3)) (af (dC (.int 16384)) ax))) cH) ax)) aD)) bz) (bF 4)
 (aq (aJ 5 (ao (af (ae 1) (af (aa (ae 4) (dC (.int 0)) aC) ax)) dA))
 (aq (cM (aa (aa (ae 4) (dC (.int 1)) aC) (dC (.int 0)) zK)
 (aq (aJ 5 (cE 1 [4] (jP (ae 5)) (bF 0) (aa (aa (aa (aa (ae 1) (dC (.int 2)) aC) (ae 0) zj) (dC (.int 1)) pT) (dC (.int 1)) fJ) (ae 0)))
 ak)
 ak)
 (aq (aJ 6 (ao (af (ae 5) ax) (m1 eU)))
 (rh 7 [3,5] (ao (af (aa (ae 3) (dC (.int 0)) aC) (af (aa (ae 3) (dC (.int 1)) aC) (af (ae 5) ax))) cI)
 (zT 7 (gZ (cg (ao (af (ae 1) (af (ae 2) (af (ae 6) (af (GN (ae 7)) ax)))) fR)) (gZ (aa (ae 3) (ao (af (ae 1) (af (ae 2) ax)) c5) gO) (aa (ae 5) (ae 6) gO)))
 (aq (aW (dC (.bl false)))
 ak)
 (vq 7 8 (ao (af (aa (GN (ae 7)) (dC (.int 0)) aC) ax) (m1 eU)) (ao (af (aa (GN (ae 7)) (dC (.int 1)) aC) ax) (m1 eU))
 (lz
 (aq (cM (aa (GN (ao (af (aa (ae 3) (dC (.int 0)) aC) (af (aa (ae 3) (dC (.int 1)) aC) (af (ae 5) ax))) cI)) (ae 8) gO)
 (aq (aW (dC (.bl false)))
 ak)
 ak)
 ak)))))))))
 (aq (aW (dC (.bl true)))
 ak)))))
def m_law:ac->av D:=br 9 Kj
def top(i:Nat):Tr:=PySem.Challenge.pw_farthestcut_k38_most_flow_meets.main.body.getD i (.Pass ⟨0,0,0,0⟩)
noncomputable def rows:List Rw:=[
 ⟨"_law_draws",top 57,["_law_cell","_law_tops","_law_found","_law_left","_law_mixed","_law_k"],2⟩,
 ⟨"_law_names",top 60,["_law_d","_law_many","_law_some","_law_names_here","_law_k","_law_e","_law_name","_law_at"],2⟩,
 ⟨"_law_cells",top 62,["_law_script","_law_d","_law_many"],1⟩,
 ⟨"_law_low",top 58,["_law_top","_law_bottom","_law_one","_law_other"],2⟩,
 ⟨"_law_fraction",top 59,["_law_d","_law_top","_law_bottom"],1⟩,
 ⟨"_law_tie",top 61,["_law_cell","_law_k","_law_walk","_law_d","_law_at","_law_other","_law_worth"],3⟩,
 ⟨"_law_web",top 63,["_law_script","_law_d","_law_places","_law_first","_law_last","_law_amid","_law_walk","_law_ties"],1⟩,
 ⟨"_law_rooms",top 64,["_law_script","_law_tops"],1⟩,
 ⟨"_law_bits",top 66,["_law_web_here","_law_bits_here"],2⟩,
 ⟨"is_name",top 19,["thing"],1⟩,
 ⟨"look_at_places",top 42,["places","number","place"],1⟩,
 ⟨"is_whole",top 17,["thing"],1⟩,
 ⟨"common_divisor",top 13,["one","other","larger","smaller","rest"],2⟩,
 ⟨"is_ratio",top 18,["thing"],1⟩,
 ⟨"is_length",top 37,["thing"],1⟩,
 ⟨"is_worth",top 38,["thing"],1⟩,
 ⟨"is_tie",top 36,["thing"],1⟩,
 ⟨"look_at_ties",top 43,["ties","places","number","tie"],2⟩,
 ⟨"is_place",top 44,["thing","places"],2⟩,
 ⟨"look_at_web",top 41,["thing"],1⟩,
 ⟨"has_lengths",top 40,["web","thing"],2⟩,
 ⟨"look_at_rooms",top 52,["web","thing"],2⟩,
 ⟨"is_tie_number",top 39,["web","thing"],2⟩,
 ⟨"look_at_taking",top 50,["web","thing","ahead","number"],2⟩,
 ⟨"shared_bottom",top 47,["some","bottom","one"],1⟩,
 ⟨"as_whole",top 48,["one","bottom"],2⟩,
 ⟨"on_one_scale",top 46,["some","bottom"],1⟩,
 ⟨"fewest_turns",top 3,["turns","first","found","waiting","here","turn"],2⟩,
 ⟨"sent_along",top 5,["amounts","turns","more","sent","turn"],3⟩,
 ⟨"least_room",top 4,["turns"],1⟩,
 ⟨"turns_left",top 55,["web","rooms","taken","amounts","turns","number","tie","back"],4⟩,
 ⟨"filled",top 2,["turns_with","amounts","first","last","found"],4⟩,
 ⟨"ratio",top 21,["top","bottom","divisor"],2⟩,
 ⟨"most_flow",top 54,["web","rooms","taking","scaled","nothing","found","side"],3⟩,
 ⟨"_law_whole",top 68,["_law_thing"],1⟩,
 ⟨"_law_is_fraction",top 69,["_law_thing"],1⟩,
 ⟨"_law_less",top 70,["_law_one","_law_other"],2⟩,
 ⟨"_law_plus",top 65,["_law_one","_law_other","_law_sign"],3⟩,
 ⟨"_law_going",top 67,["_law_web_here","_law_flow","_law_place","_law_found","_law_k","_law_tie_here"],3⟩,
 ⟨"_law_fault",top 71,["_law_web_here","_law_rooms_here","_law_taken","_law_thing","_law_k","_law_tie_here","_law_place","_law_more"],4⟩,
 ⟨"_law_is_side",top 74,["_law_web_here","_law_thing","_law_at","_law_place"],2⟩,
 ⟨"_law_leads_out",top 72,["_law_tie_here","_law_side"],2⟩,
 ⟨"_law_room",top 73,["_law_web_here","_law_rooms_here","_law_taken","_law_side","_law_found","_law_k","_law_tie_here"],4⟩,
 ⟨"_law_right",top 75,["_law_web_here","_law_rooms_here","_law_taking","_law_found","_law_flow","_law_side"],4⟩,
 ⟨"law",top 76,["_law_script","_law_web_here","_law_rooms_here","_law_handed","_law_d","_law_taking","_law_kept","_law_found","_law_told"],1⟩]
def sc:OQ rows:=by decide +kernel
theorem nd(i:Nat)(h:rows[i]?=some r:=by rfl):r.N.Nodup:=(sc r (Rb h)).nd
def bn:∀r∈rows,MR r:=by
 unfold rows
 repeat refine List.forall_mem_cons.mpr ⟨by first|exact QN|exact QM|exact QL|exact QK|exact bd5,?_⟩
 exact λ_ h=>nomatch h
abbrev lB:Tr:=IT (top 1) 0
def EB:gw ["self","number","sign","here","there","cost","room"] ["self","number","sign","here","there","cost","room"] (defScope lB):=⟨rfl,rfl,rfl,by decide +kernel,rfl,by decide +kernel,by decide +kernel⟩
abbrev ib:jM:=NW (top 54)
def wZ:G2 ["amounts","web","taking","scaled"] ["amounts"] ib.scope:=⟨rfl,rfl,rfl,by decide +kernel,rfl,by decide +kernel,by decide +kernel,by decide +kernel,by decide +kernel⟩
set_option genInjectivity false in
set_option genSizeOfSpec false in
structure Adr where
 bH:Q9
 i4:Q9
 xg:SV
 A:Nat->Q9
 Q:Nat->SV
set_option genInjectivity false in
set_option genSizeOfSpec false in
structure Txt (K:Q2) (mg:Ro->Option QY) (t:Adr):Prop where
 g:TG rows K mg t.A t.Q
 lm_most_flow:uL K (t.Q 33) (sA "most_flow") ib
 n_abs:mg "abs"=none
 n_all:mg "all"=none
 n_bool:mg "bool"=none
 n_enumerate:mg "enumerate"=none
 n_int:mg "int"=none
 n_isinstance:mg "isinstance"=none
 n_len:mg "len"=none
 n_list:mg "list"=none
 n_min:mg "min"=none
 n_range:mg "range"=none
 n_str:mg "str"=none
 n_tuple:mg "tuple"=none
 BS:mg "Turn"=some (.ref t.bH)
 JP:D1 K "__init__" "Turn.__init__" lB t.i4 t.xg
 qQ:ko K t.xg ["self","number","sign","here","there","cost","room"] []
 BL:Mk K t.bH t.i4
 qv:Ox K "Turn" ["number","sign","here","there","cost","room"] t.bH
 gT:xD K mg "FEWEST_PLACES" (.int 2)
 oh:xD K mg "FIRST" (.int 2)
 uA:xD K mg "LAST" (.int 3)
 uz:xD K mg "LENGTH" (.int 3)
 pq:xD K mg "LETTERS" (.str "abcdefghijklmnopqrstuvwxyz")
 iT:xD K mg "LONGEST_NAME" (.int 8)
 jo:xD K mg "MOST_PLACES" (.int 7)
 k9:xD K mg "MOST_TIES" (.int 14)
 uy:xD K mg "ONE" (.int 0)
 kc:xD K mg "OTHER" (.int 1)
 iS:xD K mg "PLACES" (.int 0)
 mG:xD K mg "TIES" (.int 1)
 ux:xD K mg "WORD" (.int 2)
 xv:xD K mg "WORDS" (.tup [(.str "one"),(.str "both")])
 qP:xD K mg "WORTH" (.int 4)
section
variable {P:Se}{w:Sx}{K:Q2}{mg:Ro->Option QY}{base:RA}{t:Adr}
def vR(T:Txt K mg t):iY P w K mg base CX0 1 t.i4 t.xg ["self","number","sign","here","there","cost","room"] (wA K ["number","sign","here","there","cost","room"]) :=
 I0 T.JP EB (by decide) rfl (by decide) λcdv A outer s0 H E=>(lS (i:=1) rfl rfl (Rm rfl) (Rm rfl) (lS (i:=2) rfl rfl (Rm rfl) (Rm rfl) (lS (i:=3) rfl rfl (Rm rfl) (Rm rfl) (lS (i:=4) rfl rfl (Rm rfl) (Rm rfl) (lS (i:=5) rfl rfl (Rm rfl) (Rm rfl) (lS (i:=6) rfl rfl (Rm rfl) (Rm rfl) Mh))))))
def fj(T:Txt K mg t):iu P w K mg base CX0 1 (t.A 0) (t.Q 0) ["_law_cell","_law_tops"] (spD K 2 aD) "_law_draws" (top 57) :=
 oD T.g sc (i:=0) rfl λ_ _ _ _ _ _ _ _=>(
 (ai (uc (i:=2) (nd 0) rfl (Rm rfl) (o7 aw))
 (ai (aN (i:=3) (nd 0) rfl (Rm rfl) (aV k8 uu rfl T.n_abs PyProof.Rows.Boot.«abs» (ag (dv 0) aw)))
 (ai (aN (i:=4) (nd 0) rfl (Rm rfl) (dm (ff (dm (dv 0) aj) aj) aj))
 (ai (B3 RW rfl rfl T.n_range (aV bG cO rfl T.n_len PyProof.Rows.Boot.«len» (ag (dv 1) aw)) (cj (i:=5) (nd 0) rfl (Rm rfl)) eI
 (ai (bI (aM FA (cP λ_ _ _ _=>rb _) (aV k8 uu rfl T.n_abs PyProof.Rows.Boot.«abs» (ag (dv 0) aw)) (o8 aj aj) nm)
 (ai (iE (i:=2) rfl (Rm rfl) (dm (dv 3) (ar (dv 1) (dv 5))))
 (ai (aN (i:=3) (nd 0) rfl (Rm rfl) (mE (dv 3) (ar (dv 1) (dv 5))))
 au))
 (ai (aN (i:=4) (nd 0) rfl (Rm rfl) (dm (bR (bR (bR (ff (dv 4) (dv 4)) (ff aj (dv 4))) (ff aj (dv 5))) aj) aj))
 (ai (iE (i:=2) rfl (Rm rfl) (dm (dm (ff (dv 4) aj) aj) (ar (dv 1) (dv 5))))
 au)))
 au))
 (ai (aO (dv 2))
 au))))))
def u7(T:Txt K mg t):iu P w K mg base CX0 1 (t.A 1) (t.Q 1) ["_law_d","_law_many"] (spD K 2 dG) "_law_names" (top 60) :=
 oD T.g sc (i:=1) rfl λ_ _ _ _ H _ _ hr=>(
 (ai (aN (i:=2) (nd 1) rfl (Uy rfl) gS)
 (ai (uc (i:=3) (nd 1) rfl (Rm rfl) (o7 aw))
 (ai (B3 RW rfl rfl T.n_range (dv 1) (cj (i:=4) (nd 1) rfl (Rm rfl)) eI
 (ai (aN (i:=5) (nd 1) rfl (Uy rfl) (dW (dv 0) (dJ (ff aj (dv 4))) (dJ (bR (ff aj (dv 4)) aj))))
 (ai (aN (i:=6) (nd 1) rfl (Rm rfl) (Jn gS (ag (mj (lZ ["_law_j","_law_some","_law_e"] 1 [2,5] rfl (Dm rfl T.n_range (bR aj (ar (dv 5) aj))) (da (by decide)) (λs H C fp pn=>⟨λHe η=>(cj (i:=0) (show Sz (["_law_j","_law_some","_law_e"]:bv) from by decide) rfl (Rm rfl)),ig,(ar (dv 1) (ar (dv 2) (bR aj (dv 0))))⟩) ⟨rfl,rfl⟩ rfl rfl rfl rfl)) aw)))
 (ai (bI (DW.dt (jW (aM rN (cP λ_ _ _ _=>rb _) (dv 4) aj nm) (dI (aM (dh hr.units) fA (ar (dv 5) aj) aj nm))))
 (ai (Jj (i:=6) (nd 1) rfl (Rm rfl) (bR (dW (ar (dv 3) (ue (dv 4) aj)) oe (dJ (ar (dv 5) aj))) (ar (dv 2) (ar (dv 5) aj))))
 au)
 au)
 (ai (aN (i:=7) (nd 1) rfl (Rm rfl) (ar (dv 5) aj))
 (ai (kX _ RW (aM (mT hr.units) m4 (dv 6) (dv 3) rfl)
 (ai (aN (i:=7) (nd 1) rfl (Rm rfl) (bR (dv 7) aj))
 (ai (aN (i:=6) (nd 1) rfl (Rm rfl) (bR (dW (dv 6) oe (dJ (o9 aj))) (ar (dv 2) (dm (dv 7) aj))))
 au)))
 (ai (iE (i:=3) rfl (Rm rfl) (dv 6))
 au)))))))
 (ai (aO (dv 3))
 au)))))
def jg(T:Txt K mg t):iu P w K mg base CX0 2 (t.A 2) (t.Q 2) ["_law_script"] (spD K 1 aI) "_law_cells" (top 62) :=
 oD T.g sc (i:=2) rfl λ_ _ _ _ _ _ _ hr=>(
 (ai (aN (i:=1) (nd 2) rfl (Rm rfl) (rC (fj T) hr (ag (ar (bR (dv 0) (dq (ag aj aw))) aj) (ag (bR (bR (dq (ag aj (ag aj (ag aj aw)))) (xp (AW (dq (ag aj (ag aj aw))) (xp (o7 (ag aj aw)) aj)) aj)) (dq (ag aj aw))) aw))))
 (ai (aN (i:=2) (nd 2) rfl (Rm rfl) (aV (Dx rfl) Mq rfl T.n_min PyProof.Rows.Boot.«min» (ag aj (ag (ar (dv 1) aj) aw))))
 (ai (aO (c4 (ag (dW (dv 0) (dJ aj) (dJ (bR aj (dv 2)))) (ag (dW (dv 0) (dJ (bR aj (dv 2))) (dJ aj)) aw))))
 au))))
def kI(T:Txt K mg t):iu P w K mg base CX0 1 (t.A 3) (t.Q 3) ["_law_top","_law_bottom"] (spD K 2 bJ) "_law_low" (top 58) :=
 oD T.g sc (i:=3) rfl λ_ _ _ _ _ _ _ hr=>(
 (ai (aN (i:=2) (nd 3) rfl (Rm rfl) (aV k8 uu rfl T.n_abs PyProof.Rows.Boot.«abs» (ag (dv 0) aw)))
 (ai (aN (i:=3) (nd 3) rfl (Rm rfl) (dv 1))
 (ai (kX _ RW (aM (eX hr.units) gX (dv 3) aj nm)
 (ai (Mf (i:=2) (j:=3) rfl (nd 3) rfl rfl (by decide) rfl rfl (ag (dv 3) (ag (dm (dv 2) (dv 3)) aw)) rfl)
 au))
 (ai (aO (c4 (ag (mE (dv 0) (dv 2)) (ag (mE (dv 1) (dv 2)) aw))))
 au)))))
def gh(T:Txt K mg t):iu P w K mg base CX0 2 (t.A 4) (t.Q 4) ["_law_d"] (spD K 1 aA) "_law_fraction" (top 59) :=
 oD T.g sc (i:=4) rfl λ_ _ _ _ _ _ _ hr=>(
 (ai (aN (i:=1) (nd 4) rfl (Rm rfl) (ar (dq (ag aj (ag (dm (ar (dv 0) aj) aj) (ag (dm (ar (dv 0) aj) aj) (ag (ar (dv 0) aj) (ag (dm (ar (dv 0) aj) aj) aw)))))) (ar (dv 0) aj)))
 (ai (aN (i:=2) (nd 4) rfl (Rm rfl) (ar (dq (ag aj (ag aj (ag (bR aj (ar (dv 0) aj)) (ag aj (ag (bR aj (dm (ar (dv 0) aj) aj)) aw)))))) (ar (dv 0) aj)))
 (ai (aO (rC (kI T) hr (ag (dv 1) (ag (dv 2) aw))))
 au))))
def yo(T:Txt K mg t):iu P w K mg base CX0 3 (t.A 5) (t.Q 5) ["_law_cell","_law_k","_law_walk"] (spD K 3 bZ) "_law_tie" (top 61) :=
 oD T.g sc (i:=5) rfl λ_ _ _ _ _ _ _ hr=>(
 (ai (aN (i:=3) (nd 5) rfl (Rm rfl) (rC (fj T) hr (ag (dv 0) (ag (dq (ag aj (ag aj (ag aj (ag aj (ag (o8 aj aj) (ag aj (ag aj (ag aj (ag (o8 aj aj) (ag aj (ag aj aw)))))))))))) aw))))
 (ai (aN (i:=4) (nd 5) rfl (Rm rfl) (dm (ar (dv 3) aj) (aV bG cO rfl T.n_len PyProof.Rows.Boot.«len» (ag (dv 2) aw))))
 (ai (aN (i:=5) (nd 5) rfl (Rm rfl) (dm (bR (bR (dv 4) aj) (dm (ar (dv 3) aj) (ue (aV bG cO rfl T.n_len PyProof.Rows.Boot.«len» (ag (dv 2) aw)) aj))) (aV bG cO rfl T.n_len PyProof.Rows.Boot.«len» (ag (dv 2) aw))))
 (ai (bI (aM (dh hr.units) fA (ar (dv 3) aj) aj nm)
 (ai (aN (i:=4) (nd 5) rfl (Rm rfl) (dm (dv 1) (ue (aV bG cO rfl T.n_len PyProof.Rows.Boot.«len» (ag (dv 2) aw)) aj)))
 (ai (aN (i:=5) (nd 5) rfl (Rm rfl) (bR (dv 4) aj))
 au))
 au)
 (ai (aN (i:=6) (nd 5) rfl (Rm rfl) iP)
 (ai (bI (aM rN (cP λ_ _ _ _=>rb _) (ar (dv 3) aj) aj nm)
 (ai (aN (i:=6) (nd 5) rfl (Rm rfl) (rC (gh T) hr (ag (dW (dv 3) (dJ aj) (dJ aj)) aw)))
 (ai (bI (aM (dh hr.units) fA (ar (dv 6) aj) aj nm)
 (ai (aN (i:=6) (nd 5) rfl (Rm rfl) (c4 (ag aj (ag aj aw))))
 au)
 au)
 au))
 au)
 (ai (aO (c4 (ag (ar (dv 2) (dv 4)) (ag (ar (dv 2) (dv 5)) (ag (ar (dq (ag gS (ag gS aw))) (ar (dv 3) aj)) (ag (rC (gh T) hr (ag (dW (dv 3) (dJ aj) (dJ aj)) aw)) (ag (dv 6) aw)))))))
 au))))))))
def pK(T:Txt K mg t):iu P w K mg base CX0 4 (t.A 6) (t.Q 6) ["_law_script"] (spD K 1 cY) "_law_web" (top 63) :=
 oD T.g sc (i:=6) rfl λ_ _ _ _ H _ _ hr=>(
 (ai (aN (i:=1) (nd 6) rfl (Rm rfl) (rC (fj T) hr (ag (ar (bR (dv 0) (dq (ag aj aw))) aj) (ag (bR (dq (ag aj (ag aj (ag aj aw)))) (xp (AW (dq (ag aj (ag aj aw))) (xp (o7 (ag aj aw)) aj)) aj)) aw))))
 (ai (aN (i:=2) (nd 6) rfl (Rm rfl) (rC (u7 T) hr (ag (dW (dv 1) (dJ aj) oe) (ag (bR aj (ar (dv 1) aj)) aw))))
 (ai (aN (i:=3) (nd 6) rfl (Uy rfl) (dm (ar (dv 1) aj) (aV bG cO rfl T.n_len PyProof.Rows.Boot.«len» (ag (dv 2) aw))))
 (ai (aN (i:=4) (nd 6) rfl (Uy rfl) (dm (bR (bR (dv 3) aj) (dm (ar (dv 1) aj) (ue (aV bG cO rfl T.n_len PyProof.Rows.Boot.«len» (ag (dv 2) aw)) aj))) (aV bG cO rfl T.n_len PyProof.Rows.Boot.«len» (ag (dv 2) aw))))
 (ai (qO (i:=5) (nd 6) rfl rfl jG (lZ ["_law_k","_law_place","_law_first","_law_last"] 2 [3,4] rfl (ij rfl T.n_enumerate (dv 2)) (qY (by decide)) (λs H C fp pn=>⟨λHe η=>(jY rfl (bS (i:=0) (show Sz (["_law_k","_law_place","_law_first","_law_last"]:bv) from by decide) rfl (Rm rfl) (bS (i:=1) (show Sz (["_law_k","_law_place","_law_first","_law_last"]:bv) from by decide) rfl (Rm rfl) gr))),(jX (aM (fN hr.units) fP (dv 0) (c4 (ag (dv 2) (ag (dv 3) aw))) rfl)),(dv 1)⟩) ⟨rfl,rfl⟩ rfl rfl rfl rfl))
 (ai (aN (i:=6) (nd 6) rfl (Uy rfl) (bR (bR (dq (ag (ar (dv 2) (dv 3)) aw)) (dv 5)) (dq (ag (ar (dv 2) (dv 4)) aw))))
 (ai (qO (i:=7) (nd 6) rfl rfl jG (lZ ["_law_k","_law_cell","_law_walk"] 2 [6] rfl (ij rfl T.n_enumerate (ar (rC (jg T) hr (ag (dv 0) aw)) aj)) (qY (by decide)) (λs H C fp pn=>⟨λHe η=>(jY rfl (bS (i:=0) (show Sz (["_law_k","_law_cell","_law_walk"]:bv) from by decide) rfl (Rm rfl) (bS (i:=1) (show Sz (["_law_k","_law_cell","_law_walk"]:bv) from by decide) rfl (Rm rfl) gr))),ig,(rC (yo T) hr (ag (dv 1) (ag (dv 0) (ag (dv 2) aw))))⟩) ⟨rfl,rfl⟩ rfl rfl rfl rfl))
 (ai (aO (c4 (ag (dv 2) (ag (dv 7) (ag (ar (dv 2) (dv 3)) (ag (ar (dv 2) (dv 4)) aw))))))
 au)))))))))
def u3(T:Txt K mg t):iu P w K mg base CX0 3 (t.A 7) (t.Q 7) ["_law_script"] (spD K 1 aZ) "_law_rooms" (top 64) :=
 oD T.g sc (i:=7) rfl λ_ _ _ _ H _ _ hr=>(
 (ai (aN (i:=1) (nd 7) rfl (Uy rfl) (dq (ag aj (ag aj (ag aj (ag aj (ag (o8 aj aj) (ag aj (ag aj (ag aj (ag (o8 aj aj) (ag aj (ag aj (ag aj (ag (o8 aj aj) (ag aj aw))))))))))))))))
 (ai (aO (mj (lZ ["_law_cell","_law_tops"] 1 [1] rfl (fU (ar (rC (jg T) hr (ag (dv 0) aw)) aj)) (da (by decide)) (λs H C fp pn=>⟨λHe η=>(cj (i:=0) (show Sz (["_law_cell","_law_tops"]:bv) from by decide) rfl (Rm rfl)),ig,(rC (gh T) hr (ag (dW (rC (fj T) hr (ag (dv 0) (ag (dv 1) aw))) (dJ aj) oe) aw))⟩) ⟨rfl,rfl⟩ rfl rfl rfl rfl)))
 au)))
def wW(T:Txt K mg t):iu P w K mg base CX0 1 (t.A 8) (t.Q 8) ["_law_web_here","_law_bits_here"] (spD K 2 dA) "_law_bits" (top 66) :=
 oD T.g sc (i:=8) rfl λ_ _ _ _ H _ _ hr=>(
 (ai (aO (mj (lZ ["_law_k","_law_tie_here","_law_bits_here"] 2 [1] rfl (ij rfl T.n_enumerate (ar (dv 0) aj)) (qY (by decide)) (λs H C fp pn=>⟨λHe η=>(jY rfl (bS (i:=0) (show Sz (["_law_k","_law_tie_here","_law_bits_here"]:bv) from by decide) rfl (Rm rfl) (bS (i:=1) (show Sz (["_law_k","_law_tie_here","_law_bits_here"]:bv) from by decide) rfl (Rm rfl) gr))),(jX (DW.dt (jW (aM qE qF (ar (dv 1) aj) iP nm) (dI (aM (dh hr.units) fA (B5 (GG (dv 2) (dv 0)) aj) aj nm))))),(dv 0)⟩) ⟨rfl,rfl⟩ rfl rfl rfl rfl)))
 au))
def jS(T:Txt K mg t):iu P w K mg base CX0 1 (t.A 9) (t.Q 9) ["thing"] (spD K 1 m_is_name) "is_name" (top 19) :=
 oD T.g sc (i:=9) rfl λ_ _ _ _ H _ _ hr=>(
 (ai (bI (DW.dt (cW (bN (bK (bT sC rfl T.n_isinstance rfl T.n_str PyProof.Rows.Boot.«str» (dv 0)))) (bc (bN (zc vI vI (iz λ_ _ _ _=>rb _) (iz λ_ _ _ _=>rb _) iC iC aj (aV bG cO rfl T.n_len PyProof.Rows.Boot.«len» (ag (dv 0) aw)) (bC T.iT rfl))))))
 (ai (aO iQ)
 au)
 au)
 (ai (aO (aV (zr rfl) GR rfl T.n_all PyProof.Rows.Boot.«all» (ag (mj (lZ ["sign"] 1 [] rfl (Mg (dv 0)) (da (by decide)) (λs H C fp pn=>⟨λHe η=>(cj (i:=0) (show Sz (["sign"]:bv) from by decide) rfl (Rm rfl)),ig,(eE (mT hr.units) m4 (dv 0) (bC T.pq rfl) rfl)⟩) ⟨rfl,rfl⟩ rfl rfl rfl rfl)) aw)))
 au)))
def mW(T:Txt K mg t):iu P w K mg base CX0 2 (t.A 10) (t.Q 10) ["places"] (spD K 1 m_look_at_places) "look_at_places" (top 42) :=
 oD T.g sc (i:=10) rfl λ_ _ _ _ _ _ _ hr=>(
 (ai (bI (DW.dt (cW (bN (bK (bT fG rfl T.n_isinstance rfl T.n_list PyProof.Rows.Boot.«list» (dv 0)))) (bc (bN (zc vI vI (iz λ_ _ _ _=>rb _) (iz λ_ _ _ _=>rb _) iC iC (bC T.gT rfl) (aV bG cO rfl T.n_len PyProof.Rows.Boot.«len» (ag (dv 0) aw)) (bC T.jo rfl))))))
 (ai dk
 au)
 au)
 (ai (lO RW rfl (ij rfl T.n_enumerate (dv 0)) (jY rfl (bS (i:=1) (nd 10) rfl (Rm rfl) (bS (i:=2) (nd 10) rfl (Rm rfl) gr))) iy
 (ai (bI (DW.dt (cW (bN (bK (rC (jS T) hr (ag (dv 2) aw)))) (bc (aM (mT hr.units) m4 (dv 2) (dW (dv 0) oe (dJ (dv 1))) rfl))))
 (ai dk
 au)
 au)
 au))
 au)))
def gE(T:Txt K mg t):iu P w K mg base CX0 1 (t.A 11) (t.Q 11) ["thing"] (spD K 1 m_is_whole) "is_whole" (top 17) :=
 oD T.g sc (i:=11) rfl λ_ _ _ _ _ _ _ _=>(
 (ai (aO (ji (bT sD rfl T.n_isinstance rfl T.n_int PyProof.Rows.Boot.«int» (dv 0)) (iO (GI (bT pQ rfl T.n_isinstance rfl T.n_bool PyProof.Rows.Boot.«bool» (dv 0))))))
 au))
def fO(T:Txt K mg t):iu P w K mg base CX0 1 (t.A 12) (t.Q 12) ["one","other"] (spD K 2 m_common_divisor) "common_divisor" (top 13) :=
 oD T.g sc (i:=12) rfl λ_ _ _ _ _ _ _ hr=>(
 (ai (aN (i:=2) (nd 12) rfl (Rm rfl) (aV k8 uu rfl T.n_abs PyProof.Rows.Boot.«abs» (ag (dv 0) aw)))
 (ai (aN (i:=3) (nd 12) rfl (Rm rfl) (aV k8 uu rfl T.n_abs PyProof.Rows.Boot.«abs» (ag (dv 1) aw)))
 (ai (kX _ RW (aM (eX hr.units) gX (dv 3) aj nm)
 (ai (aN (i:=4) (nd 12) rfl (Rm rfl) (dm (dv 2) (dv 3)))
 (ai (aN (i:=2) (nd 12) rfl (Rm rfl) (dv 3))
 (ai (aN (i:=3) (nd 12) rfl (Rm rfl) (dv 4))
 au))))
 (ai (aO (dv 2))
 au)))))
def pI(T:Txt K mg t):iu P w K mg base CX0 2 (t.A 13) (t.Q 13) ["thing"] (spD K 1 m_is_ratio) "is_ratio" (top 18) :=
 oD T.g sc (i:=13) rfl λ_ _ _ _ _ _ _ hr=>(
 (ai (bI (DW.dt (cW (bN (bK (bT fS rfl T.n_isinstance rfl T.n_tuple PyProof.Rows.Boot.«tuple» (dv 0)))) (bc (aM (eX hr.units) gX (aV bG cO rfl T.n_len PyProof.Rows.Boot.«len» (ag (dv 0) aw)) aj nm))))
 (ai (aO iQ)
 au)
 au)
 (ai (bI (DW.dt (cW (bN (bK (rC (gE T) hr (ag (ar (dv 0) aj) aw)))) (bc (bN (bK (rC (gE T) hr (ag (ar (dv 0) aj) aw)))))))
 (ai (aO iQ)
 au)
 au)
 (ai (aO (ji (eE FA (cP λ_ _ _ _=>rb _) (ar (dv 0) aj) aj nm) (iO (eE (dh hr.units) fA (rC (fO T) hr (ag (ar (dv 0) aj) (ag (ar (dv 0) aj) aw))) aj nm))))
 au))))
def mX(T:Txt K mg t):iu P w K mg base CX0 3 (t.A 14) (t.Q 14) ["thing"] (spD K 1 m_is_length) "is_length" (top 37) :=
 oD T.g sc (i:=14) rfl λ_ _ _ _ _ _ _ hr=>(
 (ai (aO (ji (rC (pI T) hr (ag (dv 0) aw)) (iO (eE FA (cP λ_ _ _ _=>rb _) (ar (dv 0) aj) aj nm))))
 au))
def ym(T:Txt K mg t):iu P w K mg base CX0 3 (t.A 15) (t.Q 15) ["thing"] (spD K 1 m_is_worth) "is_worth" (top 38) :=
 oD T.g sc (i:=15) rfl λ_ _ _ _ _ _ _ hr=>(
 (ai (aO (Of (eE An Aq (dv 0) iP nm) (iO (ji (rC (pI T) hr (ag (dv 0) aw)) (iO (eE rN (cP λ_ _ _ _=>rb _) (ar (dv 0) aj) aj nm))))))
 au))
def CV(T:Txt K mg t):iu P w K mg base CX0 4 (t.A 16) (t.Q 16) ["thing"] (spD K 1 m_is_tie) "is_tie" (top 36) :=
 oD T.g sc (i:=16) rfl λ_ _ _ _ _ _ _ hr=>(
 (ai (bI (DW.dt (cW (bN (bK (bT fS rfl T.n_isinstance rfl T.n_tuple PyProof.Rows.Boot.«tuple» (dv 0)))) (bc (aM (eX hr.units) gX (aV bG cO rfl T.n_len PyProof.Rows.Boot.«len» (ag (dv 0) aw)) aj nm))))
 (ai (aO iQ)
 au)
 au)
 (ai (bI (DW.dt (cW (bN (bK (rC (jS T) hr (ag (ar (dv 0) (bC T.uy rfl)) aw)))) (cW (bN (bK (rC (jS T) hr (ag (ar (dv 0) (bC T.kc rfl)) aw)))) (bc (aM (dh hr.units) fA (ar (dv 0) (bC T.uy rfl)) (ar (dv 0) (bC T.kc rfl)) nm)))))
 (ai (aO iQ)
 au)
 au)
 (ai (bI (DW.dt (cW (bN (bK (bT sC rfl T.n_isinstance rfl T.n_str PyProof.Rows.Boot.«str» (ar (dv 0) (bC T.ux rfl))))) (bc (aM (fN hr.units) fP (ar (dv 0) (bC T.ux rfl)) (bC T.xv rfl) rfl))))
 (ai (aO iQ)
 au)
 au)
 (ai (aO (ji (rC (mX T) hr (ag (ar (dv 0) (bC T.uz rfl)) aw)) (iO (rC (ym T) hr (ag (ar (dv 0) (bC T.qP rfl)) aw)))))
 au)))))
def qk(T:Txt K mg t):iu P w K mg base CX0 5 (t.A 17) (t.Q 17) ["ties","places"] (spD K 2 m_look_at_ties) "look_at_ties" (top 43) :=
 oD T.g sc (i:=17) rfl λ_ _ _ _ _ _ _ hr=>(
 (ai (bI (DW.dt (cW (bN (bK (bT fG rfl T.n_isinstance rfl T.n_list PyProof.Rows.Boot.«list» (dv 0)))) (bc (aM rN (cP λ_ _ _ _=>rb _) (aV bG cO rfl T.n_len PyProof.Rows.Boot.«len» (ag (dv 0) aw)) (bC T.k9 rfl) nm))))
 (ai dk
 au)
 au)
 (ai (lO RW rfl (ij rfl T.n_enumerate (dv 0)) (jY rfl (bS (i:=2) (nd 17) rfl (Rm rfl) (bS (i:=3) (nd 17) rfl (Rm rfl) gr))) iy
 (ai (bI (DW.dt (cW (bN (bK (rC (CV T) hr (ag (dv 3) aw)))) (cW (aM (fN hr.units) fP (ar (dv 3) (bC T.uy rfl)) (dv 1) rfl) (bc (aM (fN hr.units) fP (ar (dv 3) (bC T.kc rfl)) (dv 1) rfl)))))
 (ai dk
 au)
 au)
 au))
 au)))
def pJ(T:Txt K mg t):iu P w K mg base CX0 2 (t.A 18) (t.Q 18) ["thing","places"] (spD K 2 m_is_place) "is_place" (top 44) :=
 oD T.g sc (i:=18) rfl λ_ _ _ _ _ _ _ hr=>(
 (ai (aO (ji (rC (jS T) hr (ag (dv 0) aw)) (iO (eE (mT hr.units) m4 (dv 0) (dv 1) rfl))))
 au))
def kH(T:Txt K mg t):iu P w K mg base CX0 6 (t.A 19) (t.Q 19) ["thing"] (spD K 1 m_look_at_web) "look_at_web" (top 41) :=
 oD T.g sc (i:=19) rfl λ_ _ _ _ _ _ _ hr=>(
 (ai (bI (DW.dt (cW (bN (bK (bT fS rfl T.n_isinstance rfl T.n_tuple PyProof.Rows.Boot.«tuple» (dv 0)))) (bc (aM (eX hr.units) gX (aV bG cO rfl T.n_len PyProof.Rows.Boot.«len» (ag (dv 0) aw)) aj nm))))
 (ai dk
 au)
 au)
 (ai (lQ (rC (mW T) hr (ag (ar (dv 0) (bC T.iS rfl)) aw)))
 (ai (lQ (rC (qk T) hr (ag (ar (dv 0) (bC T.mG rfl)) (ag (ar (dv 0) (bC T.iS rfl)) aw))))
 (ai (bI (bN (bK (rC (pJ T) hr (ag (ar (dv 0) (bC T.oh rfl)) (ag (ar (dv 0) (bC T.iS rfl)) aw)))))
 (ai dk
 au)
 au)
 (ai (bI (DW.dt (cW (bN (bK (rC (pJ T) hr (ag (ar (dv 0) (bC T.uA rfl)) (ag (ar (dv 0) (bC T.iS rfl)) aw))))) (bc (aM (dh hr.units) fA (ar (dv 0) (bC T.uA rfl)) (ar (dv 0) (bC T.oh rfl)) nm))))
 (ai dk
 au)
 au)
 au))))))
def rO(T:Txt K mg t):iu P w K mg base CX0 4 (t.A 20) (t.Q 20) ["web","thing"] (spD K 2 m_has_lengths) "has_lengths" (top 40) :=
 oD T.g sc (i:=20) rfl λ_ _ _ _ H _ _ hr=>(
 (ai (bI (DW.dt (cW (bN (bK (bT fG rfl T.n_isinstance rfl T.n_list PyProof.Rows.Boot.«list» (dv 1)))) (bc (aM (eX hr.units) gX (aV bG cO rfl T.n_len PyProof.Rows.Boot.«len» (ag (dv 1) aw)) (aV bG cO rfl T.n_len PyProof.Rows.Boot.«len» (ag (ar (dv 0) (bC T.mG rfl)) aw)) nm))))
 (ai (aO iQ)
 au)
 au)
 (ai (aO (aV (zr rfl) GR rfl T.n_all PyProof.Rows.Boot.«all» (ag (mj (lZ ["one"] 1 [] rfl (fU (dv 1)) (da (by decide)) (λs H C fp pn=>⟨λHe η=>(cj (i:=0) (show Sz (["one"]:bv) from by decide) rfl (Rm rfl)),ig,(rC (mX T) hr (ag (dv 0) aw))⟩) ⟨rfl,rfl⟩ rfl rfl rfl rfl)) aw)))
 au)))
def oU(T:Txt K mg t):iu P w K mg base CX0 7 (t.A 21) (t.Q 21) ["web","thing"] (spD K 2 m_look_at_rooms) "look_at_rooms" (top 52) :=
 oD T.g sc (i:=21) rfl λ_ _ _ _ _ _ _ hr=>(
 (ai (lQ (rC (kH T) hr (ag (dv 0) aw)))
 (ai (bI (bN (bK (rC (rO T) hr (ag (dv 0) (ag (dv 1) aw)))))
 (ai dk
 au)
 au)
 au)))
def oV(T:Txt K mg t):iu P w K mg base CX0 2 (t.A 22) (t.Q 22) ["web","thing"] (spD K 2 m_is_tie_number) "is_tie_number" (top 39) :=
 oD T.g sc (i:=22) rfl λ_ _ _ _ _ _ _ hr=>(
 (ai (aO (ji (rC (gE T) hr (ag (dv 1) aw)) (iO (GK vI vH (iz λ_ _ _ _=>rb _) (iz λ_ _ _ _=>rb _) iC iC aj (dv 1) (aV bG cO rfl T.n_len PyProof.Rows.Boot.«len» (ag (ar (dv 0) (bC T.mG rfl)) aw))))))
 au))
def mV(T:Txt K mg t):iu P w K mg base CX0 7 (t.A 23) (t.Q 23) ["web","thing"] (spD K 2 m_look_at_taking) "look_at_taking" (top 50) :=
 oD T.g sc (i:=23) rfl λ_ _ _ _ _ _ _ hr=>(
 (ai (lQ (rC (kH T) hr (ag (dv 0) aw)))
 (ai (bI (bN (bK (bT fG rfl T.n_isinstance rfl T.n_list PyProof.Rows.Boot.«list» (dv 1))))
 (ai dk
 au)
 au)
 (ai (aN (i:=2) (nd 23) rfl (Rm rfl) (o9 aj))
 (ai (mD RW rfl (dv 1) (cj (i:=3) (nd 23) rfl (Rm rfl)) eI
 (ai (bI (DW.dt (cW (bN (bK (rC (oV T) hr (ag (dv 0) (ag (dv 3) aw))))) (bc (aM vI (cP λ_ _ _ _=>rb _) (dv 3) (dv 2) nm))))
 (ai dk
 au)
 au)
 (ai (bI (aM An Aq (ar (ar (ar (dv 0) (bC T.mG rfl)) (dv 3)) (bC T.qP rfl)) iP nm)
 (ai dk
 au)
 au)
 (ai (aN (i:=2) (nd 23) rfl (Rm rfl) (dv 3))
 au))))
 au)))))
def oT(T:Txt K mg t):iu P w K mg base CX0 2 (t.A 24) (t.Q 24) ["some"] (spD K 1 m_shared_bottom) "shared_bottom" (top 47) :=
 oD T.g sc (i:=24) rfl λ_ _ _ _ _ _ _ hr=>(
 (ai (aN (i:=1) (nd 24) rfl (Rm rfl) aj)
 (ai (mD RW rfl (dv 0) (cj (i:=2) (nd 24) rfl (Rm rfl)) eI
 (ai (aN (i:=1) (nd 24) rfl (Rm rfl) (ff (mE (dv 1) (rC (fO T) hr (ag (dv 1) (ag (ar (dv 2) aj) aw)))) (ar (dv 2) aj)))
 au))
 (ai (aO (dv 1))
 au))))
def yn(T:Txt K mg t):iu P w K mg base CX0 1 (t.A 25) (t.Q 25) ["one","bottom"] (spD K 2 m_as_whole) "as_whole" (top 48) :=
 oD T.g sc (i:=25) rfl λ_ _ _ _ _ _ _ _=>(
 (ai (aO (ff (ar (dv 0) aj) (mE (dv 1) (ar (dv 0) aj))))
 au))
def qj(T:Txt K mg t):iu P w K mg base CX0 3 (t.A 26) (t.Q 26) ["some"] (spD K 1 m_on_one_scale) "on_one_scale" (top 46) :=
 oD T.g sc (i:=26) rfl λ_ _ _ _ H _ _ hr=>(
 (ai (aN (i:=1) (nd 26) rfl (Uy rfl) (rC (oT T) hr (ag (mj (lZ ["one"] 1 [] rfl (fU (dv 0)) (da (by decide)) (λs H C fp pn=>⟨λHe η=>(cj (i:=0) (show Sz (["one"]:bv) from by decide) rfl (Rm rfl)),(jX (aM qE qF (dv 0) iP nm)),(dv 0)⟩) ⟨rfl,rfl⟩ rfl rfl rfl rfl)) aw)))
 (ai (aO (c4 (ag (mj (lZ ["one","bottom"] 1 [1] rfl (fU (dv 0)) (da (by decide)) (λs H C fp pn=>⟨λHe η=>(cj (i:=0) (show Sz (["one","bottom"]:bv) from by decide) rfl (Rm rfl)),ig,(zg (aM An Aq (dv 0) iP nm) iP (rC (yn T) hr (ag (dv 0) (ag (dv 1) aw))))⟩) ⟨rfl,rfl⟩ rfl rfl rfl rfl)) (ag (dv 1) aw))))
 au)))
def kg(T:Txt K mg t):iu P w K mg base CX0 1 (t.A 27) (t.Q 27) ["turns","first"] (spD K 2 m_fewest_turns) "fewest_turns" (top 3) :=
 oD T.g sc (i:=27) rfl λ_ _ _ _ _ _ _ hr=>(
 (ai (Jl (i:=2) (nd 27) rfl (Rm rfl) (Dn (dv 1) (dq aw)))
 (ai (uc (i:=3) (nd 27) rfl (Rm rfl) (o7 (ag (dv 1) aw)))
 (ai (kX _ RW (aM (eX hr.units) gX (dv 3) (dq aw) nm)
 (ai (zd (i:=4) (j:=3) (nd 27) rfl (Rm rfl) rfl (Rm rfl) aj)
 (ai (mD RW rfl (dv 0) (cj (i:=5) (nd 27) rfl (Rm rfl)) eI
 (ai (bI (DW.dt (jW (aM (dh hr.units) fA (jh (dv 5)) (dv 4) nm) (dI (aM (CU (Kx hr.units)) CZ (jh (dv 5)) (dv 2) rfl))))
 (ai (GA (i:=2) (Kx hr.units) rfl (Rm rfl) (AW (xr (Kx hr.units) (dv 2) (dv 4)) (dq (ag (dv 5) aw))) (jh (dv 5)))
 (ai (iE (i:=3) rfl (Rm rfl) (jh (dv 5)))
 au))
 au)
 au))
 au)))
 (ai (aO (dv 2))
 au)))))
def uZ(T:Txt K mg t):iu P w K mg base CX0 1 (t.A 28) (t.Q 28) ["amounts","turns","more"] (spD K 3 m_sent_along) "sent_along" (top 5) :=
 oD T.g sc (i:=28) rfl λ_ _ _ _ _ _ _ _=>(
 (ai (uc (i:=3) (nd 28) rfl (Rm rfl) (xo rfl T.n_list (ag (dv 0) aw)))
 (ai (mD RW rfl (dv 1) (cj (i:=4) (nd 28) rfl (Rm rfl)) eI
 (ai (Jk (i:=3) rfl (Rm rfl) (bR (ar (dv 3) (jh (dv 4))) (ff (jh (dv 4)) (dv 2))) (jh (dv 4)))
 au))
 (ai (aO (dv 3))
 au))))
def u0(T:Txt K mg t):iu P w K mg base CX0 1 (t.A 29) (t.Q 29) ["turns"] (spD K 1 m_least_room) "least_room" (top 4) :=
 oD T.g sc (i:=29) rfl λ_ _ _ _ H _ _ _=>(
 (ai (aO (aV (Dw rfl) Jx rfl T.n_min PyProof.Rows.Boot.«min» (ag (mj (lZ ["turn"] 1 [] rfl (fU (dv 0)) (da (by decide)) (λs H C fp pn=>⟨λHe η=>(cj (i:=0) (show Sz (["turn"]:bv) from by decide) rfl (Rm rfl)),(jX (aM qE qF (jh (dv 0)) iP nm)),(jh (dv 0))⟩) ⟨rfl,rfl⟩ rfl rfl rfl rfl)) aw)))
 au))
def uY(T:Txt K mg t):iu P w K mg base CX0 3 (t.A 30) (t.Q 30) ["web","rooms","taken","amounts"] (spD K 4 m_turns_left) "turns_left" (top 55) :=
 oD T.g sc (i:=30) rfl λ_ _ _ _ H _ _ hr=>(
 (ai (uc (i:=4) (nd 30) rfl (Rm rfl) (o7 aw))
 (ai (lO RW rfl (ij rfl T.n_enumerate (ar (dv 0) (bC T.mG rfl))) (jY rfl (bS (i:=5) (nd 30) rfl (Rm rfl) (bS (i:=6) (nd 30) rfl (Rm rfl) gr))) iy
 (ai (bI (aM (fN hr.units) fP (dv 5) (dv 2) rfl)
 (ai (aN (i:=7) (nd 30) rfl (Rm rfl) (zg (aM (dh hr.units) fA (ar (dv 6) (bC T.ux rfl)) gS nm) (ar (dv 3) (dv 5)) (bR (ar (dv 1) (dv 5)) (ar (dv 3) (dv 5)))))
 (ai (iE (i:=4) rfl (Rm rfl) (GJ T.BL ((vR T).mono (by decide:1<=1)) hr rfl T.BS T.qv.ns T.qQ T.qv.recC yj (ag (dv 5) (ag aj (ag (ar (dv 6) (bC T.uy rfl)) (ag (ar (dv 6) (bC T.kc rfl)) (ag aj (ag (ue (ar (dv 1) (dv 5)) (ar (dv 3) (dv 5))) aw))))))))
 (ai (iE (i:=4) rfl (Rm rfl) (GJ T.BL ((vR T).mono (by decide:1<=1)) hr rfl T.BS T.qv.ns T.qQ T.qv.recC yj (ag (dv 5) (ag (o9 aj) (ag (ar (dv 6) (bC T.kc rfl)) (ag (ar (dv 6) (bC T.uy rfl)) (ag aj (ag (dv 7) aw))))))))
 au)))
 au)
 au))
 (ai (aO (mj (lZ ["turn"] 1 [] rfl (fU (dv 4)) (da (by decide)) (λs H C fp pn=>⟨λHe η=>(cj (i:=0) (show Sz (["turn"]:bv) from by decide) rfl (Rm rfl)),(jX (aM rN (cP λ_ _ _ _=>rb _) (jh (dv 0)) aj nm)),(dv 0)⟩) ⟨rfl,rfl⟩ rfl rfl rfl rfl)))
 au))))
def uX(T:Txt K mg t):mH P w K mg base CX0 4 (sA "most_flow") ia :=
 xa (k:=3) T.lm_most_flow.lk wZ (λ_ _ _ _ us hl=>by obtain⟨_,rfl⟩:=Pw hl;rfl) λf c' clos A outer s H hr=>(
 (rC (uY T) hr (ag (dv 1) (ag (ar (dv 3) aj) (ag (dv 2) (ag (dv 0) aw))))))
def rT(T:Txt K mg t):ke P w K mg base CX0 4 lt_filled:=(C2 ((uX T).mono (by decide)) FX)
def CW(T:Txt K mg t):iu P w K mg base CX0 5 (t.A 31) (t.Q 31) ["turns_with","amounts","first","last"] (spD K 4 m_filled) "filled" (top 2) :=
 oD T.g sc (i:=31) rfl λ_ _ _ _ _ _ _ hr=>(
 (ai (aN (i:=4) (nd 31) rfl (Rm rfl) (rC (kg T) hr (ag (zh (rT T) hr rfl (Rm rfl) (ag (dv 1) aw)) (ag (dv 2) aw))))
 (ai (kX _ RW (aM (FC (Kx hr.units)) FH (dv 3) (dv 4) rfl)
 (ai (aN (i:=1) (nd 31) rfl (Rm rfl) (rC (uZ T) hr (ag (dv 1) (ag (xr (Kx hr.units) (dv 4) (dv 3)) (ag (rC (u0 T) hr (ag (xr (Kx hr.units) (dv 4) (dv 3)) aw)) aw)))))
 (ai (aN (i:=4) (nd 31) rfl (Rm rfl) (rC (kg T) hr (ag (zh (rT T) hr rfl (Rm rfl) (ag (dv 1) aw)) (ag (dv 2) aw))))
 au)))
 (ai (aO (c4 (ag (dv 1) (ag (dv 4) aw))))
 au))))
def FE(T:Txt K mg t):iu P w K mg base CX0 2 (t.A 32) (t.Q 32) ["top","bottom"] (spD K 2 m_ratio) "ratio" (top 21) :=
 oD T.g sc (i:=32) rfl λ_ _ _ _ _ _ _ hr=>(
 (ai (bI (DW.dt (cW (bN (bK (rC (gE T) hr (ag (dv 0) aw)))) (bc (bN (bK (rC (gE T) hr (ag (dv 1) aw)))))))
 (ai dk
 au)
 au)
 (ai (bI (aM (dh hr.units) fA (dv 1) aj nm)
 (ai dk
 au)
 au)
 (ai (aN (i:=2) (nd 32) rfl (Rm rfl) (rC (fO T) hr (ag (dv 0) (ag (dv 1) aw))))
 (ai (bI (aM vH (cP λ_ _ _ _=>rb _) (dv 1) aj nm)
 (ai (aN (i:=2) (nd 32) rfl (Rm rfl) (o9 (dv 2)))
 au)
 au)
 (ai (aO (c4 (ag (mE (dv 0) (dv 2)) (ag (mE (dv 1) (dv 2)) aw))))
 au))))))
def mU(T:Txt K mg t):iu P w K mg base CX0 8 (t.A 33) (t.Q 33) ["web","rooms","taking"] (spD K 3 cI) "most_flow" (top 54) :=
 QD T.g sc (i:=33) rfl λ_ hcd _ _ _ H _ _ hr=>(
 (ai (lQ (rC (oU T) hr (ag (dv 0) (ag (dv 1) aw))))
 (ai (lQ (rC (mV T) hr (ag (dv 0) (ag (dv 2) aw))))
 (ai (aN (i:=3) (nd 33) rfl (Uy rfl) (rC (qj T) hr (ag (dv 1) aw)))
 (ai (qO (i:=4) (nd 33) rfl rfl jG (lZ ["room"] 1 [] rfl (fU (dv 1)) (da (by decide)) (λs H C fp pn=>⟨λHe η=>(cj (i:=0) (show Sz (["room"]:bv) from by decide) rfl (Rm rfl)),ig,aj⟩) ⟨rfl,rfl⟩ rfl rfl rfl rfl))
 (ai (aN (i:=5) (nd 33) rfl (Uy rfl) (GL (CW T) hr T.lm_most_flow Jy (JF (F:=ib) T.lm_most_flow hcd (ag (dv 4) (ag (ar (dv 0) (bC T.oh rfl)) (ag (ar (dv 0) (bC T.uA rfl)) aw)))) (Mv (Mv (Mv QQ)))))
 (ai (Gz (i:=6) (nd 33) rfl rfl (lZ ["place","found"] 1 [5] rfl (fU (ar (dv 0) (bC T.iS rfl))) (da (by decide)) (λs H C fp pn=>⟨λHe η=>(cj (i:=0) (show Sz (["place","found"]:bv) from by decide) rfl (Rm rfl)),(jX (aM (FC (Kx hr.units)) FH (dv 0) (ar (dv 1) aj) rfl)),(dv 0)⟩) ⟨rfl,rfl⟩ rfl rfl rfl rfl))
 (ai (aO (c4 (ag (Oe (Kh (lZ ["amount","scaled"] 1 [3] rfl (fU (ar (dv 5) aj)) (da (by decide)) (λs H C fp pn=>⟨λHe η=>(cj (i:=0) (show Sz (["amount","scaled"]:bv) from by decide) rfl (Rm rfl)),ig,(rC (FE T) hr (ag (dv 0) (ag (ar (dv 1) aj) aw)))⟩) ⟨rfl,rfl⟩ rfl rfl rfl rfl))) (ag (dv 6) aw))))
 au))))))))
def md(T:Txt K mg t):iu P w K mg base CX0 1 (t.A 34) (t.Q 34) ["_law_thing"] (spD K 1 cG) "_law_whole" (top 68) :=
 oD T.g sc (i:=34) rfl λ_ _ _ _ _ _ _ _=>(
 (ai (aO (ji (bT sD rfl T.n_isinstance rfl T.n_int PyProof.Rows.Boot.«int» (dv 0)) (iO (GI (bT pQ rfl T.n_isinstance rfl T.n_bool PyProof.Rows.Boot.«bool» (dv 0))))))
 au))
def lX(T:Txt K mg t):iu P w K mg base CX0 2 (t.A 35) (t.Q 35) ["_law_thing"] (spD K 1 aX) "_law_is_fraction" (top 69) :=
 oD T.g sc (i:=35) rfl λ_ _ _ _ _ _ _ hr=>(
 (ai (bI (DW.dt (cW (bN (bK (bT fS rfl T.n_isinstance rfl T.n_tuple PyProof.Rows.Boot.«tuple» (dv 0)))) (bc (aM (eX hr.units) gX (aV bG cO rfl T.n_len PyProof.Rows.Boot.«len» (ag (dv 0) aw)) aj nm))))
 (ai (aO iQ)
 au)
 au)
 (ai (bI (DW.dt (cW (bN (bK (rC (md T) hr (ag (ar (dv 0) aj) aw)))) (bc (bN (bK (rC (md T) hr (ag (ar (dv 0) aj) aw)))))))
 (ai (aO iQ)
 au)
 au)
 (ai (aO (ji (eE rN (cP λ_ _ _ _=>rb _) (ar (dv 0) aj) aj nm) (iO (eE (dh hr.units) fA (rC (kI T) hr (ag (ar (dv 0) aj) (ag (ar (dv 0) aj) aw))) (dv 0) nm))))
 au))))
def mY(T:Txt K mg t):iu P w K mg base CX0 1 (t.A 36) (t.Q 36) ["_law_one","_law_other"] (spD K 2 cJ) "_law_less" (top 70) :=
 oD T.g sc (i:=36) rfl λ_ _ _ _ _ _ _ _=>(
 (ai (aO (eE vH (cP λ_ _ _ _=>rb _) (ff (ar (dv 0) aj) (ar (dv 1) aj)) (ff (ar (dv 1) aj) (ar (dv 0) aj)) nm))
 au))
def jT(T:Txt K mg t):iu P w K mg base CX0 2 (t.A 37) (t.Q 37) ["_law_one","_law_other","_law_sign"] (spD K 3 ba) "_law_plus" (top 65) :=
 oD T.g sc (i:=37) rfl λ_ _ _ _ _ _ _ hr=>(
 (ai (aO (rC (kI T) hr (ag (bR (ff (ar (dv 0) aj) (ar (dv 1) aj)) (ff (ff (dv 2) (ar (dv 1) aj)) (ar (dv 0) aj))) (ag (ff (ar (dv 0) aj) (ar (dv 1) aj)) aw))))
 au))
def me(T:Txt K mg t):iu P w K mg base CX0 3 (t.A 38) (t.Q 38) ["_law_web_here","_law_flow","_law_place"] (spD K 3 bP) "_law_going" (top 67) :=
 oD T.g sc (i:=38) rfl λ_ _ _ _ _ _ _ hr=>(
 (ai (aN (i:=3) (nd 38) rfl (Rm rfl) (c4 (ag aj (ag aj aw))))
 (ai (lO RW rfl (ij rfl T.n_enumerate (ar (dv 0) aj)) (jY rfl (bS (i:=4) (nd 38) rfl (Rm rfl) (bS (i:=5) (nd 38) rfl (Rm rfl) gr))) iy
 (ai (bI (aM (dh hr.units) fA (ar (dv 5) aj) (dv 2) nm)
 (ai (aN (i:=3) (nd 38) rfl (Rm rfl) (rC (jT T) hr (ag (dv 3) (ag (ar (dv 1) (dv 4)) (ag aj aw)))))
 au)
 au)
 (ai (bI (aM (dh hr.units) fA (ar (dv 5) aj) (dv 2) nm)
 (ai (aN (i:=3) (nd 38) rfl (Rm rfl) (rC (jT T) hr (ag (dv 3) (ag (ar (dv 1) (dv 4)) (ag (o9 aj) aw)))))
 au)
 au)
 au)))
 (ai (aO (dv 3))
 au))))
def u9(T:Txt K mg t):iu P w K mg base CX0 4 (t.A 39) (t.Q 39) ["_law_web_here","_law_rooms_here","_law_taken","_law_thing"] (spD K 4 cu) "_law_fault" (top 71) :=
 oD T.g sc (i:=39) rfl λ_ _ _ _ _ _ _ hr=>(
 (ai (bI (DW.dt (cW (bN (bK (bT fG rfl T.n_isinstance rfl T.n_list PyProof.Rows.Boot.«list» (dv 3)))) (bc (aM (eX hr.units) gX (aV bG cO rfl T.n_len PyProof.Rows.Boot.«len» (ag (dv 3) aw)) (aV bG cO rfl T.n_len PyProof.Rows.Boot.«len» (ag (ar (dv 0) aj) aw)) nm))))
 (ai (aO (c4 (ag gS (ag iP aw))))
 au)
 au)
 (ai (lO RW rfl (ij rfl T.n_enumerate (ar (dv 0) aj)) (jY rfl (bS (i:=4) (nd 39) rfl (Rm rfl) (bS (i:=5) (nd 39) rfl (Rm rfl) gr))) iy
 (ai (bI (DW.dt (cW (bN (bK (rC (lX T) hr (ag (ar (dv 3) (dv 4)) aw)))) (bc (DW.dt (jW (aM (mT hr.units) m4 (dv 4) (dv 2) rfl) (dI (aM (eX hr.units) gX (ar (ar (dv 3) (dv 4)) aj) aj nm)))))))
 (ai (aO (c4 (ag gS (ag (dv 4) aw))))
 au)
 au)
 (ai (bI (DW.dt (cW (bK (rC (mY T) hr (ag (ar (dv 1) (dv 4)) (ag (ar (dv 3) (dv 4)) aw)))) (bc (bK (rC (mY T) hr (ag (ar (dv 1) (dv 4)) (ag (c4 (ag (o9 (ar (ar (dv 3) (dv 4)) aj)) (ag (ar (ar (dv 3) (dv 4)) aj) aw))) aw)))))))
 (ai (aO (c4 (ag gS (ag (dv 4) aw))))
 au)
 au)
 (ai (bI (DW.dt (jW (aM (dh hr.units) fA (ar (dv 5) aj) gS nm) (dI (aM vH (cP λ_ _ _ _=>rb _) (ar (ar (dv 3) (dv 4)) aj) aj nm))))
 (ai (aO (c4 (ag gS (ag (dv 4) aw))))
 au)
 au)
 au))))
 (ai (mD RW rfl (ar (dv 0) aj) (cj (i:=6) (nd 39) rfl (Rm rfl)) eI
 (ai (aN (i:=7) (nd 39) rfl (Rm rfl) (ar (rC (me T) hr (ag (dv 0) (ag (dv 3) (ag (dv 6) aw)))) aj))
 (ai (bI (DW.dt (cW (DW.dt (jW (aM (dh hr.units) fA (dv 6) (ar (dv 0) aj) nm) (dI (aM vH (cP λ_ _ _ _=>rb _) (dv 7) aj nm)))) (bc (DW.dt (jW (aM (fN hr.units) fP (dv 6) (c4 (ag (ar (dv 0) aj) (ag (ar (dv 0) aj) aw))) rfl) (dI (aM (eX hr.units) gX (dv 7) aj nm)))))))
 (ai (aO (c4 (ag gS (ag (dv 6) aw))))
 au)
 au)
 au)))
 (ai (aO iP)
 au)))))
def ql(T:Txt K mg t):iu P w K mg base CX0 1 (t.A 40) (t.Q 40) ["_law_web_here","_law_thing"] (spD K 2 cc) "_law_is_side" (top 74) :=
 oD T.g sc (i:=40) rfl λ_ _ _ _ _ _ _ hr=>(
 (ai (bI (DW.dt (cW (bN (bK (bT fG rfl T.n_isinstance rfl T.n_list PyProof.Rows.Boot.«list» (dv 1)))) (cW (aM (fN hr.units) fP (ar (dv 0) aj) (dv 1) rfl) (bc (aM (mT hr.units) m4 (ar (dv 0) aj) (dv 1) rfl)))))
 (ai (aO iQ)
 au)
 au)
 (ai (aN (i:=2) (nd 40) rfl (Rm rfl) aj)
 (ai (mD RW rfl (ar (dv 0) aj) (cj (i:=3) (nd 40) rfl (Rm rfl)) eI
 (ai (bI (DW.dt (jW (aM vH (cP λ_ _ _ _=>rb _) (dv 2) (aV bG cO rfl T.n_len PyProof.Rows.Boot.«len» (ag (dv 1) aw)) nm) (dI (aM (dh hr.units) fA (ar (dv 1) (dv 2)) (dv 3) nm))))
 (ai (aN (i:=2) (nd 40) rfl (Rm rfl) (bR (dv 2) aj))
 au)
 au)
 au))
 (ai (aO (eE (dh hr.units) fA (dv 2) (aV bG cO rfl T.n_len PyProof.Rows.Boot.«len» (ag (dv 1) aw)) nm))
 au)))))
def mZ(T:Txt K mg t):iu P w K mg base CX0 1 (t.A 41) (t.Q 41) ["_law_tie_here","_law_side"] (spD K 2 bD) "_law_leads_out" (top 72) :=
 oD T.g sc (i:=41) rfl λ_ _ _ _ _ _ _ hr=>(
 (ai (bI (aM (dh hr.units) fA (ar (dv 0) aj) gS nm)
 (ai (aO (eE (eX hr.units) gX (eE (mT hr.units) m4 (ar (dv 0) aj) (dv 1) rfl) (eE (mT hr.units) m4 (ar (dv 0) aj) (dv 1) rfl) nm))
 au)
 au)
 (ai (aO (ji (eE (mT hr.units) m4 (ar (dv 0) aj) (dv 1) rfl) (iO (eE (fN hr.units) fP (ar (dv 0) aj) (dv 1) rfl))))
 au)))
def wV(T:Txt K mg t):iu P w K mg base CX0 3 (t.A 42) (t.Q 42) ["_law_web_here","_law_rooms_here","_law_taken","_law_side"] (spD K 4 fF) "_law_room" (top 73) :=
 oD T.g sc (i:=42) rfl λ_ _ _ _ _ _ _ hr=>(
 (ai (aN (i:=4) (nd 42) rfl (Rm rfl) (c4 (ag aj (ag aj aw))))
 (ai (lO RW rfl (ij rfl T.n_enumerate (ar (dv 0) aj)) (jY rfl (bS (i:=5) (nd 42) rfl (Rm rfl) (bS (i:=6) (nd 42) rfl (Rm rfl) gr))) iy
 (ai (bI (DW.dt (jW (aM (fN hr.units) fP (dv 5) (dv 2) rfl) (dI (bK (rC (mZ T) hr (ag (dv 6) (ag (dv 3) aw)))))))
 (ai (aN (i:=4) (nd 42) rfl (Rm rfl) (rC (jT T) hr (ag (dv 4) (ag (ar (dv 1) (dv 5)) (ag aj aw)))))
 au)
 au)
 au))
 (ai (aO (dv 4))
 au))))
def u4(T:Txt K mg t):iu P w K mg base CX0 5 (t.A 43) (t.Q 43) ["_law_web_here","_law_rooms_here","_law_taking","_law_found"] (spD K 4 fR) "_law_right" (top 75) :=
 oD T.g sc (i:=43) rfl λ_ _ _ _ _ _ _ hr=>(
 (ai (bI (DW.dt (cW (bN (bK (bT fS rfl T.n_isinstance rfl T.n_tuple PyProof.Rows.Boot.«tuple» (dv 3)))) (bc (aM (eX hr.units) gX (aV bG cO rfl T.n_len PyProof.Rows.Boot.«len» (ag (dv 3) aw)) aj nm))))
 (ai (aO iQ)
 au)
 au)
 (ai (Me rfl (dv 3) (bS (i:=4) (nd 43) rfl (Rm rfl) (bS (i:=5) (nd 43) rfl (Rm rfl) gr)))
 (ai (bI (DW.dt (cW (aM qE qF (rC (u9 T) hr (ag (dv 0) (ag (dv 1) (ag (dv 2) (ag (dv 4) aw))))) iP nm) (bc (bN (bK (rC (ql T) hr (ag (dv 0) (ag (dv 5) aw))))))))
 (ai (aO iQ)
 au)
 au)
 (ai (aO (eE (dh hr.units) fA (rC (me T) hr (ag (dv 0) (ag (dv 4) (ag (ar (dv 0) aj) aw)))) (rC (wV T) hr (ag (dv 0) (ag (dv 1) (ag (dv 2) (ag (dv 5) aw))))) nm))
 au)))))
def ok_law(T:Txt K mg t):iu P w K mg base CX0 9 (t.A 44) (t.Q 44) ["_law_script"] (spD K 1 m_law) "law" (top 76) :=
 oD T.g sc (i:=44) rfl λ_ _ _ _ H _ _ hr=>(
 (ai (aN (i:=1) (nd 44) rfl (Rm rfl) (rC (pK T) hr (ag (dv 0) aw)))
 (ai (aN (i:=2) (nd 44) rfl (Rm rfl) (rC (u3 T) hr (ag (dv 0) aw)))
 (ai (aN (i:=3) (nd 44) rfl (Rm rfl) (c4 (ag (rC (pK T) hr (ag (dv 0) aw)) (ag (zi ka Cb rfl T.n_list PyProof.Rows.Boot.«list» (ag (dv 2) aw)) aw))))
 (ai (mD RW rfl (bR (dq (ag (dq (ag aj (ag aj (ag aj aw)))) aw)) (mj (lZ ["_law_cell"] 1 [] rfl (fU (ar (rC (jg T) hr (ag (dv 0) aw)) aj)) (da (by decide)) (λs H C fp pn=>⟨λHe η=>(cj (i:=0) (show Sz (["_law_cell"]:bv) from by decide) rfl (Rm rfl)),ig,(rC (fj T) hr (ag (dv 0) (ag (dq (ag aj (ag aj (ag aj aw)))) aw)))⟩) ⟨rfl,rfl⟩ rfl rfl rfl rfl))) (cj (i:=4) (nd 44) rfl (Uy rfl)) eI
 (ai (aN (i:=5) (nd 44) rfl (Rm rfl) (rC (wW T) hr (ag (dv 1) (ag (ar (dv 4) aj) aw))))
 (ai (bI (aM rN (cP λ_ _ _ _=>rb _) (ar (dv 4) aj) aj nm)
 (ai (qO (i:=5) (nd 44) rfl rfl jG (lZ ["_law_k","_law_d"] 1 [4] rfl (fU (dv 5)) (da (by decide)) (λs H C fp pn=>⟨λHe η=>(cj (i:=0) (show Sz (["_law_k","_law_d"]:bv) from by decide) rfl (Rm rfl)),(jX (aM (dh hr.units) fA (B5 (GG (ar (dv 1) aj) (dv 0)) aj) aj nm)),(dv 0)⟩) ⟨rfl,rfl⟩ rfl rfl rfl rfl))
 au)
 au)
 (ai (aN (i:=6) (nd 44) rfl (Rm rfl) (zi ka Cb rfl T.n_list PyProof.Rows.Boot.«list» (ag (dv 5) aw)))
 (Dl (x:=7) [3,5] (nd 44) rfl (Rm rfl) (λ_ _ h=>h) (rC (mU T) hr (ag (ar (dv 3) aj) (ag (ar (dv 3) aj) (ag (dv 5) aw))))
 (MZ (x:=7) (DW.dt (cW (bN (bK (rC (u4 T) hr (ag (dv 1) (ag (dv 2) (ag (dv 6) (ag (xq (dv 7)) aw))))))) (cW (aM (eX hr.units) gX (dv 3) (c4 (ag (dv 1) (ag (dv 2) aw))) nm) (bc (aM (eX hr.units) gX (dv 5) (dv 6) nm)))))
 (ai (aO iQ)
 au)
 (Ky (x:=7) (i:=8) (nd 44) rfl (Rm rfl) (xo rfl T.n_list (ag (ar (xq (dv 7)) aj) aw)) (xo rfl T.n_list (ag (ar (xq (dv 7)) aj) aw))
 (Cw (x:=7) rfl rfl rfl (Rm rfl)
 (ai (bI (aM (eX hr.units) gX (xq (rC (mU T) hr (ag (ar (dv 3) aj) (ag (ar (dv 3) aj) (ag (dv 5) aw))))) (dv 8) nm)
 (ai (aO iQ)
 au)
 au)
 au)))))))))
 (ai (aO iQ)
 au))))))
end
def txt_mk{h:RA}(X:K.In h)(G:h.Ns Rr mg)(qs:QAs K rows [a0,a1,a2,a3,a4,a5,a6,a7,a8,a9,a10,a11,a12,a13,a14,a15,a16,a17,a18,a19,a20,a21,a22,a23,a24,a25,a26,a27,a28,a29,a30,a31,a32,a33,a34,a35,a36,a37,a38,a39,a40,a41,a42,a43,a44])
  
  (Bz:SF K Rr "Turn"=some (some (.ref bH))) (HS:SN K (.ref bH) "__init__"=some (some (.ref i4))) (HR:W.isFn K (.ref i4)=true) (By:K.lookup i4=some ⟨NO,NM,.func (Ua "__init__" "Turn.__init__" (defArgs lB) (defBody lB) (defScope lB) .none N0 Oh NC Ou GQ Om),Nj⟩) (Bx:VY K GQ "Turn.__init__"=true) (Bw:UZ K (.ref i4)=true) (HQ:W.makesIn K bH=true) (HP:UZ K (.ref bH)=true) (ET:Vr K bH Str.empty=true) (EW:Vf K bH=true) (ES:VO K bH=true) (ER:SN K (.ref bH) "__setattr__"=some (some (.builtin "object.__setattr__"))) (EY:SN K (.ref bH) "__class__"=some (some (.builtin "object.__class__"))) (EX:VN K (.builtin "object.__class__") "__get__"=some (some (.builtin "getset_descriptor.__get__"))) (EF:Wj K (.builtin "object.__class__")=some true) (EV:W.mroIn K bH (.type "object")=some true) (EM:Uh K (.ref bH) (.type "NoneType")=some false) (EL:Uh K (.ref bH) (.type "bool")=some false) (EK:Uh K (.ref bH) (.type "int")=some false) (EJ:Uh K (.ref bH) (.type "str")=some false) (EI:Uh K (.ref bH) (.type "tuple")=some false) (EH:Uh K (.ref bH) (.type "list")=some false) (EG:Uh K (.ref bH) (.type "dict")=some false) (rm:SN K (.ref bH) "number"=some none) (wK:SN K (.ref bH) "sign"=some none) (wM:SN K (.ref bH) "here"=some none) (uU:SN K (.ref bH) "there"=some none) (wN:SN K (.ref bH) "cost"=some none) (wL:SN K (.ref bH) "room"=some none)
  (lx_most_flow:G0 K a33 (sA "most_flow") ib)
  (z_abs:SF K Rr "abs"=some none)
  (z_all:SF K Rr "all"=some none)
  (z_bool:SF K Rr "bool"=some none)
  (z_enumerate:SF K Rr "enumerate"=some none)
  (z_int:SF K Rr "int"=some none)
  (z_isinstance:SF K Rr "isinstance"=some none)
  (z_len:SF K Rr "len"=some none)
  (z_list:SF K Rr "list"=some none)
  (z_min:SF K Rr "min"=some none)
  (z_range:SF K Rr "range"=some none)
  (z_str:SF K Rr "str"=some none)
  (z_tuple:SF K Rr "tuple"=some none)
  (qg:SF K Rr "FEWEST_PLACES"=some (some (.int 2 DY)))
  (Hj:SF K Rr "FIRST"=some (some (.int 2 OK)))
  (Kr:SF K Rr "LAST"=some (some (.int 3 O0)))
  (D5:SF K Rr "LENGTH"=some (some (.int 3 M3)))
  (Cq:SF K Rr "LETTERS"=some (some (.str "abcdefghijklmnopqrstuvwxyz" MD)))
  (qW:SF K Rr "LONGEST_NAME"=some (some (.int 8 Eo)))
  (uQ:SF K Rr "MOST_PLACES"=some (some (.int 7 G6)))
  (xJ:SF K Rr "MOST_TIES"=some (some (.int 14 JV)))
  (MT:SF K Rr "ONE"=some (some (.int 0 P8)))
  (Hi:SF K Rr "OTHER"=some (some (.int 1 OJ)))
  (D4:SF K Rr "PLACES"=some (some (.int 0 M1)))
  (Kq:SF K Rr "TIES"=some (some (.int 1 OZ)))
  (Kp:SF K Rr "WORD"=some (some (.int 2 OY)))
  (Hh:SF K Rr "WORDS"=some (some (.ref HU))) (Hn:K.lookup HU=some ID) (Hr:∃od its n sl vs,ID=⟨.type "tuple",od,.seq its n,sl⟩/\bg vs its.toList/\its.size<=sizeLine/\∀H,Reps K H [.str "one",.str "both"] vs)
  (Hg:SF K Rr "WORTH"=some (some (.int 4 OI))) :
  ∃t:Adr,Txt K mg t/\t.A 44=a44/\∃kV doc pm an cdv ct,t.Q 44=Ua "law" "law" (defArgs (top 76)) (defBody (top 76)) (defScope (top 76)) .none kV doc pm an cdv ct:=by
 obtain⟨Q,hQ⟩:=JT X G bn qs;have D_law:=(hQ 44 _ rfl).2;refine⟨⟨bH,i4,_,λi=>[a0,a1,a2,a3,a4,a5,a6,a7,a8,a9,a10,a11,a12,a13,a14,a15,a16,a17,a18,a19,a20,a21,a22,a23,a24,a25,a26,a27,a28,a29,a30,a31,a32,a33,a34,a35,a36,a37,a38,a39,a40,a41,a42,a43,a44].getD i 0,Q⟩,⟨λi r h=>(hQ i r h).1,C7 (hQ 33 _ rfl).1.F lx_most_flow,S6 X G z_abs,S6 X G z_all,S6 X G z_bool,S6 X G z_enumerate,S6 X G z_int,S6 X G z_isinstance,S6 X G z_len,S6 X G z_list,S6 X G z_min,S6 X G z_range,S6 X G z_str,S6 X G z_tuple,TL X G Bz,xj By Bx Bw,?qQ,⟨HQ,HS,HR,HP⟩,HM Bz ET EW ES ER EY EX EF EV EM EL EK EJ EI EH EG (jz rm ( jz wK ( jz wM ( jz uU ( jz wN ( jz wL (IE))))))),?gT,?oh,?uA,?uz,?pq,?iT,?jo,?k9,?uy,?kc,?iS,?mG,?ux,?xv,?qP⟩,rfl,D_law⟩
 case qQ=>exact(xj (st:=lB) By Bx Bw).binds λ_ _ _ _ _ _ us hl=>by obtain⟨_,_,_,_,_,_,_,rfl⟩:=QF hl;rfl
 case gT=>exact eK (TL X G qg)
 case oh=>exact eK (TL X G Hj)
 case uA=>exact eK (TL X G Kr)
 case uz=>exact eK (TL X G D5)
 case pq=>exact IM (TL X G Cq)
 case iT=>exact eK (TL X G qW)
 case jo=>exact eK (TL X G uQ)
 case k9=>exact eK (TL X G xJ)
 case uy=>exact eK (TL X G MT)
 case kc=>exact eK (TL X G Hi)
 case iS=>exact eK (TL X G D4)
 case mG=>exact eK (TL X G Kq)
 case ux=>exact eK (TL X G Kp)
 case xv=>
  obtain⟨od,its,n,sl,vs,rfl,h1,h2,h3⟩:=Hr;exact IL (TL X G Hh) Hn h1 h2 h3
 case qP=>exact eK (TL X G Hg)
def txt_wr{R:Adr->Prop}(h:∃t:Adr,Txt K mg t/\t.A 44=a/\R t):∃t:Adr,Txt K mg t/\mg "law"=some (.ref (t.A 44))/\R t:=h.elim λt ⟨T,_,r⟩=>⟨t,T,(T.g 44 _ rfl).g,r⟩
end K38
namespace Flo
open PySem L2 DL Com
open K11 (eZ)
structure Tn where
 n:Int
 sg:Int
 a:Ro
 b:Ro
 c:Int
def gV(t:Tn):D:=.ob (.ins "Turn" ["number","sign","here","there","cost","room"]) [.int t.n,.int t.sg,.str t.a,.str t.b,.int 0,.int t.c]
def PK:f9 "number" (gV t)=.ok (.int t.n):=rfl
def PJ:f9 "sign" (gV t)=.ok (.int t.sg):=rfl
def LZ:f9 "here" (gV t)=.ok (.str t.a):=rfl
def LY:f9 "there" (gV t)=.ok (.str t.b):=rfl
def Jb:f9 "room" (gV t)=.ok (.int t.c):=rfl
abbrev qe:=Ro×List Tn
def pD(p:List Tn):D:=.lst (p.map gV)
def fB(F:List qe):D:=.dic (F.map (·.1)) (F.map λe=>pD e.2)
def cZ(F:List qe)(k:Ro):Option (List Tn):=(F.find? λe=>decide (e.1=k)).map (·.2)
theorem qS{k:Ro}:∀{F:List qe},xI (F.map (·.1)) (F.map λe=>pD e.2) k=(cZ F k).map pD
 |[]=>rfl
 |e::F=>by
  rw[Q6,Q6,xI];unfold cZ
  by_cases h:e.1=k
  .rw[if_pos h,List.find?_cons_of_pos (by exact decide_eq_true h)];rfl
  .rw[if_neg h,List.find?_cons_of_neg (by simpa using h),qS];rfl
def iD{k:Ro}:cZ F k=none↔k∉F.map (·.1):=by
 unfold cZ;rw[Option.map_eq_none_iff,List.find?_eq_none];constructor
 .intro h z
  obtain⟨e,he,e2⟩:=Rl.mp z;exact h e he (decide_eq_true e2)
 .intro h e he z
  exact h (Rl.mpr ⟨e,he,of_decide_eq_true z⟩)
def jC{k:Ro}(h:cZ F k=some p):(k,p)∈F:=by
 unfold cZ at h;rw[U7]at h;obtain⟨e,h1,h2⟩:=h;have:=List.find?_some h1;simp at this;rw[←this,←h2];exact List.mem_of_find?_eq_some h1
def LU{k:Ro}:xu (.str k) (fB F)=.ok (.bl (cZ F k).isSome):=by
 show av.ok (D.bl (xI _ _ k).isSome)=_;rw[qS];cases cZ F k<;>rfl
def N5{k:Ro}:jZ (.str k) (fB F)=.ok (.bl (!(cZ F k).isSome)):=by
 show av.ok (D.bl (!(xI _ _ k).isSome))=_;rw[qS];cases cZ F k<;>rfl
def N6{k:Ro}(h:cZ F k=some p):kY (fB F) (.str k)=.ok (pD p):=by
 show(match xI _ _ k with|some d=>av.ok d|none=>.stuck)=_;rw[qS,h];rfl
theorem Ge:∀(p:List Tn),instFs (p.map gV)=true
 |[]=>rfl
 |t::p=>by rw[Q6,instFs,Ge];rfl
def E6{k:Ro}(h:cZ F k=none):CJ (F.map (·.1)) (F.map λe=>pD e.2) k (pD p)=fB (F++[(k,p)]):=by
 unfold CJ;rw[if_neg (iD.mp h)];unfold fB;rw[RX,RX];rfl
def Cd(h:Ro)(st:List qe×bv)(t:Tn):List qe×bv :=
 if t.a=h/\cZ st.1 t.b=none then(st.1++[(t.b,((cZ st.1 h).getD [])++[t])],st.2++[t.b]) else st
noncomputable abbrev iB:bi :=
 (aq (cM (dZ (aa (aQ (ae 5) (f9 "here")) (ae 4) fJ) (aa (aQ (ae 5) (f9 "there")) (ae 2) jZ))
 (aq (wH 2 (aa (aa (ae 2) (ae 4) kY) (ao (af (ae 5) ax) cH) pb) (aQ (ae 5) (f9 "there")))
 (aq (c6 3 (aQ (ae 5) (f9 "there")))
 ak))
 ak)
 ak)
section
variable {s0 s1 s2 s3 s4 s5:Sl}{f k:am}{ks:bv}{ds es:ac}{ρ:Ev}{i:Nat}
def Jh:wH 2 f k [s0,s1,.ow (.dic ks ds),s3,s4,s5]=(f (iH [s0,s1,.ow (.dic ks ds),s3,s4,s5])).bind (pF k 2 [s0,s1,.ow (.dic ks ds),s3,s4,s5] ks ds):=rfl
def Gx(h:instFs es=true):pF k i ρ ks ds (.lst es)=(k ρ).bind (pG i ρ ks ds (.lst es)):=if_pos h
def L9(h:decide (ds.length+es.length<=999)=true):pb (.lst ds) (.lst es)=.ok (.lst (ds++es)):=if_pos (Ra (of_decide_eq_true h) (by decide))
end
def LQ{h:Ro}(hp:cZ F h=some p)(h1:F.length<=900)(h2:p.length<=900)(h3:W.length<=900) :
  iB [.sh T,.sh Fi,.ow (fB F),.ow (.lst (W.map D.str)),.sh (.str h),.sh (gV t)]=.ok (.nx [.sh T,.sh Fi,.ow (fB (Cd h (F,W) t).1),.ow (.lst ((Cd h (F,W) t).2.map D.str)),.sh (.str h),.sh (gV t)]):=by
 unfold Cd
 by_cases e1:t.a=h
 .cases e2:cZ F t.b with
  |some q=>
   have g1:jZ (.str t.b) (fB F)=.ok (.bl false):=by rw[N5,e2];rfl
   rw[if_neg (by rintro⟨_,z⟩;cases z)];unfold fB at g1 ⊢;open_line with[LZ,LY,eZ,g1,decide_eq_true e1]
  |none=>
   have g1:jZ (.str t.b) (fB F)=.ok (.bl true):=by rw[N5,e2];rfl
   have g2:kY (fB F) (.str h)=.ok (.lst (p.map gV)):=N6 hp;have g3:pb (.lst (p.map gV)) (.lst [gV t])=.ok (pD (p++[t])):=by
    rw[L9 (decide_eq_true (by simp;omega))];unfold pD;rw[RX];rfl
   have g4:instFs ((p++[t]).map gV)=true:=Ge _;have g5:=E6 (p:=p++[t]) e2;have g6:decide ((F.map (·.1)).length<=900)=true:=decide_eq_true (by rw[Q0];exact h1);have g7:decide ((W.map D.str).length<=999)=true:=decide_eq_true (by rw[Q0];omega);have e9:(W++[t.b]).map D.str=W.map D.str++[.str t.b]:=by rw[RX];rfl
   rw[if_pos ⟨e1,rfl⟩,hp];unfold fB pD at g1 g2 g3 g5;unfold fB pD;open_line with[LZ,LY,eZ,g1,decide_eq_true e1,Jh,g2,g3,Gx g4,Pth.ed_put3 g6,g5,dH g7,e9,Tz]
 .rw[if_neg (by rintro⟨z,_⟩;exact e1 z)]
  unfold fB;open_line with[LZ,LY,eZ,decide_eq_false e1]
end Flo
namespace K21
open PySem L2 DL
abbrev m_look_at_web:ac->av D:=Nwb.m_look_at_web
abbrev m_is_tie_number:ac->av D:=Com.m_is_tie_number
end K21
namespace K15
open PySem L2 DL
abbrev m_look_at_web:ac->av D:=Com.m_look_at_web
abbrev m_is_tie_number:ac->av D:=Com.m_is_tie_number
abbrev m_look_at_taking:ac->av D:=Com.m_look_at_taking
end K15
namespace Vlx
open PySem L2 DL Com Pth
def eq_fr:fJ (fr x) (fr y)=.ok (.bl (decide (x=y))):=by
 obtain⟨a,b⟩:=x;obtain⟨c,d⟩:=y;have h:fJ (fr (a,b)) (fr (c,d))=.ok (.bl ((a==c)&&((b==d)&&true))):=by
  unfold fJ;rw[if_pos ⟨rfl,rfl⟩];show av.ok (D.bl (cw (.tup [.int a,.int b]) (.tup [.int c,.int d])))=_;rw[cw,eqDs,eqDs,eqDs,cw,cw]
 rw[h]
 by_cases e:(a,b)=(c,d)
 .cases e;simp
 .rw[decide_eq_false e]
  have:((a==c)&&((b==d)&&true))=false:=by
   rw[Vq,Ve]
   by_cases h1:a=c
   .right;exact beq_eq_false_iff_ne.mpr λh2=>e (by rw[h1,h2])
   .left;exact beq_eq_false_iff_ne.mpr h1
  rw[this]
end Vlx
namespace K54
open PySem L2 DL
abbrev m_look_at_web:ac->av D:=Com.m_look_at_web
abbrev m_is_tie_number:ac->av D:=Com.m_is_tie_number
abbrev m_look_at_taking:ac->av D:=Com.m_look_at_taking
end K54
namespace K54
open PySem L2 DL Com Pth
open K51 (comp_pick)
def qK{α:Type}(g:α->D)(P:List α->Ev->Prop){L:List α}(h:∀pre a post,L=pre++a::post->∀ρ,P pre ρ->∃ρ1 ρ2,tg ρ (g a)=.ok ρ1/\body ρ1=.ok (.nx ρ2)/\P (pre++[a]) ρ2)(h0:P [] ρ):∃ρ',cm tg body (L.map g) ρ=.ok (.nx ρ')/\P L ρ':=by
 have key:∀(post pre:List α) (ρ:Ev),L=pre++post->P pre ρ->∃ρ',cm tg body (post.map g) ρ=.ok (.nx ρ')/\P L ρ':=by
  intro post
  induction post with
  |nil=>intro pre ρ e hp;rw[Sj]at e;subst e;exact⟨ρ,rfl,hp⟩
  |cons a post ih=>
   intro pre ρ e hp;obtain⟨ρ1,ρ2,h1,h2,h3⟩:=h pre a post e ρ hp;obtain⟨ρ',h4,h5⟩:=ih (pre++[a]) ρ2 (by rw[e];simp) h3;exact⟨ρ',by rw[Q6,i5 h1 h2,h4],h5⟩
 exact key L [] ρ rfl h0
def m9{α:Type}(g:α->D)(P:List α->Ev->Prop){L:List α}(h:∀pre a post,L=pre++a::post->∀ρ,P pre ρ->∃ρ1 ρ2,tg ρ (.tup [.int (pre.length:Int),g a])=.ok ρ1/\body ρ1=.ok (.nx ρ2)/\P (pre++[a]) ρ2)(h0:P [] ρ):∃ρ',cm tg body (numbered 0 (L.map g)) ρ=.ok (.nx ρ')/\P L ρ':=by
 have key:∀(post pre:List α) (ρ:Ev),L=pre++post->P pre ρ->∃ρ',cm tg body (numbered pre.length (post.map g)) ρ=.ok (.nx ρ')/\P L ρ':=by
  intro post
  induction post with
  |nil=>intro pre ρ e hp;rw[Sj]at e;subst e;exact⟨ρ,rfl,hp⟩
  |cons a post ih=>
   intro pre ρ e hp;obtain⟨ρ1,ρ2,h1,h2,h3⟩:=h pre a post e ρ hp;obtain⟨ρ',h4,h5⟩:=ih (pre++[a]) ρ2 (by rw[e];simp) h3;rw[RQ,Tp]at h4;exact⟨ρ',by rw[Q6,DL.numbered,i5 h1 h2,h4],h5⟩
 exact key L [] ρ rfl h0
end K54
namespace Flo
open PySem L2 DL Com
open K11 (eZ)
open K54 (qK)
def Lk:Ro->List Tn->Ro->Prop
 |a,[],k=>a=k
 |a,t::r,k=>t.a=a/\Lk t.b r k
theorem Lk.snoc:∀{p:List Tn}{a:Ro},Lk a p t.a->Lk a (p++[t]) t.b
 |[],a,h=>⟨h.symm,rfl⟩
 |s::p,a,⟨h1,h2⟩=>⟨h1,Lk.snoc h2⟩
structure Bf (ts:List Tn) (fi:Ro) (F:List qe):Prop where
 nd:(F.map (·.1)).Nodup
 rt:(fi,[])∈F
 pl:∀k∈F.map (·.1),k∈fi::ts.map (·.b)
 lk:∀e∈F,Lk fi e.2 e.1
 tk:∀e∈F,∀s∈e.2,s∈ts/\s.b≠fi/\s.b∈F.map (·.1)
 nb:∀e∈F,(e.2.map (·.b)).Nodup
 fa:∀e∈F,∀s∈e.2.tail,s.a≠fi
 nf:∀e∈F,e.1=fi->e.2=[]
 ln:∀e∈F,e.2.length<F.length
section
variable {ts:List Tn}{fi h:Ro}{F:List qe}{p:List Tn}{t:Tn}{W:bv}
def Bf.start:Bf ts fi [(fi,[])]:=by
 have key:∀e∈[((fi,[]):qe)],e=(fi,[]):=λe he=>RP.mp he;refine⟨by simp,by simp,by simp,λe he=>?_,λe he s hs=>?_,λe he=>?_,λe he s hs=>?_,λe he _=>?_,λe he=>?_⟩
 .rw[key e he];rfl
 .rw[key e he]at hs;cases hs
 .rw[key e he];exact .nil
 .rw[key e he]at hs;cases hs
 .rw[key e he]
 .rw[key e he];exact Nat.one_pos
def Bf.len(B:Bf ts fi F):F.length<=ts.length+1:=by
 have:=Cod.nodup_le B.nd B.pl;simpa using this
def Bf.step(B:Bf ts fi F)(hp:cZ F h=some p)(ht:t∈ts)(ha:t.a=h)(hb:cZ F t.b=none):Bf ts fi (F++[(t.b,p++[t])]):=by
 have hm:=jC hp;have nb:=iD.mp hb;have hk:(F++[(t.b,p++[t])]).map (·.1)=F.map (·.1)++[t.b]:=by rw[RX];rfl
 have hfi:fi∈F.map (·.1):=Rl.mpr ⟨_,B.rt,rfl⟩;have nfi:t.b≠fi:=λz=>nb (z▸hfi);refine⟨?_,R9 _ B.rt,λk hk'=>?_,λe he=>?_,λe he s hs=>?_,λe he=>?_,λe he s hs=>?_,λe he z=>?_,λe he=>?_⟩
 .rw[hk]
  exact TZ.mpr ⟨B.nd,by simp,λa ha b hb=>by rw[RP.mp hb];rintro rfl;exact nb ha⟩
 .rw[hk]at hk'
  rcases Rv.mp hk' with z|z
  .exact B.pl k z
  .rw[RP.mp z];exact QX _ (Rl.mpr ⟨t,ht,rfl⟩)
 .rcases Rv.mp he with z|z
  .exact B.lk e z
  .obtain rfl:=RP.mp z
   exact Lk.snoc (by have:=B.lk _ hm;rw[ha];exact this)
 .rw[hk]
  rcases Rv.mp he with z|z
  .obtain⟨h1,h2,h3⟩:=B.tk e z s hs
   exact⟨h1,h2,R9 _ h3⟩
  .obtain rfl:=RP.mp z
   rcases Rv.mp hs with hs|hs
   .obtain⟨h1,h2,h3⟩:=B.tk _ hm s hs
    exact⟨h1,h2,R9 _ h3⟩
   .rw[RP.mp hs]
    exact⟨ht,nfi,RO _ (by simp)⟩
 .rcases Rv.mp he with z|z
  .exact B.nb e z
  .obtain rfl:=RP.mp z
   show((p++[t]).map (·.b)).Nodup;rw[RX];refine TZ.mpr ⟨B.nb _ hm,by simp,λa ha b hb=>?_⟩;rw[show b=t.b by simpa using hb];obtain⟨s,hs,rfl⟩:=Rl.mp ha;intro z;exact nb (z▸(B.tk _ hm s hs).2.2)
 .rcases Rv.mp he with z|z
  .exact B.fa e z s hs
  .obtain rfl:=RP.mp z
   have hs:s∈(p++[t]).tail:=hs;cases p with
   |nil=>cases hs
   |cons q p=>
    have hs:s∈p++[t]:=hs;rcases Rv.mp hs with hs|hs
    .exact B.fa _ hm s hs
    .rw[RP.mp hs,ha]
     intro z;have:=B.nf _ hm z;cases this
 .rcases Rv.mp he with y|y
  .exact B.nf e y z
  .obtain rfl:=RP.mp y
   exact absurd z nfi
 .rw[RQ,Tp]
  rcases Rv.mp he with z|z
  .have:=B.ln e z;omega
  .obtain rfl:=RP.mp z
   have:p.length<F.length:=B.ln _ hm;show(p++[t]).length<_;rw[RQ,Tp];omega
def Bf.get(B:Bf ts fi F)(he:e∈F):cZ F e.1=some e.2:=by
 cases z:cZ F e.1 with
 |none=>exact absurd (Rl.mpr ⟨e,he,rfl⟩) (iD.mp z)
 |some q=>
  have hm:=jC z;have:=B.nd;have key:∀(F:List qe),(F.map (·.1)).Nodup->∀(a b:qe),a∈F->b∈F->a.1=b.1->a=b:=by
   intro F
   induction F with
   |nil=>intro _ a b ha;cases ha
   |cons x F ih=>
    intro nd a b ha hb hab;rw[Q6,RK]at nd;rcases Rh.mp ha with ha|ha<;>rcases Rh.mp hb with hb|hb
    .rw[ha,hb]
    .exact absurd (by rw[←ha,hab];exact Rl.mpr ⟨b,hb,rfl⟩) nd.1
    .exact absurd (by rw[←hb,←hab];exact Rl.mpr ⟨a,ha,rfl⟩) nd.1
    .exact ih nd.2 a b ha hb hab
  have:=key _ this _ _ he hm rfl;rw[this]
def Bf.has(B:Bf ts fi F){k:Ro}(hk:k∈F.map (·.1)):∃p,cZ F k=some p:=by
 cases z:cZ F k with|none=>exact absurd hk (iD.mp z)|some p=>exact⟨p,rfl⟩
structure Wt (ts:List Tn) (F:List qe) (W:bv):Prop where
 k:∀x∈W,x∈F.map (·.1)
 dn:∀x∈F.map (·.1),x∉W->∀t∈ts,t.a=x->t.b∈F.map (·.1)
def LP(hn:ts.length<=800){F0:List qe}{W0:bv}(B0:Bf ts fi F0)(hh:h∈F0.map (·.1))(hW:W0.length+1<=F0.length) :
  ∃(F:List qe) (W:bv) (y5:Sl),Bf ts fi F/\(∀x∈F0.map (·.1),x∈F.map (·.1))/\W.length+F0.length=W0.length+F.length/\(∀x∈W0,x∈W)/\(∀x∈F.map (·.1),x∈F0.map (·.1)∨x∈W)/\(∀x∈W,x∈W0∨x∈F.map (·.1))/\(∀t∈ts,t.a=h->t.b∈F.map (·.1)) /\
   cm (bF 5) iB (ts.map gV) [.sh T,.sh Fi,.ow (fB F0),.ow (.lst (W0.map D.str)),.sh (.str h),x5]=.ok (.nx [.sh T,.sh Fi,.ow (fB F),.ow (.lst (W.map D.str)),.sh (.str h),y5]):=by
 obtain⟨ρ',e,F,W,y5,r1,r2,r3,r4,r5,r6,r7,rfl⟩:=qK (tg:=bF 5) (body:=iB) gV (L:=ts) (λpre ρ=>∃(F:List qe) (W:bv) (y5:Sl),Bf ts fi F/\(∀x∈F0.map (·.1),x∈F.map (·.1))/\W.length+F0.length=W0.length+F.length/\(∀x∈W0,x∈W)/\(∀x∈F.map (·.1),x∈F0.map (·.1)∨x∈W)/\(∀x∈W,x∈W0∨x∈F.map (·.1))/\(∀t∈pre,t.a=h->t.b∈F.map (·.1)) /\
   ρ=[.sh T,.sh Fi,.ow (fB F),.ow (.lst (W.map D.str)),.sh (.str h),y5]) (λpre t post hL ρ z9=>by
   obtain⟨F,W,y5,r1,r2,r3,r4,r5,r6,r7,er⟩:=z9;subst er;have ht:t∈ts:=by rw[hL];simp
   obtain⟨p,hp⟩:=r1.has (r2 h hh);have hl:=r1.len;have hpl:p.length<F.length:=r1.ln _ (jC hp);have eb:=LQ (T:=T) (Fi:=Fi) (W:=W) (t:=t) hp (by omega) (by omega) (by omega);refine⟨_,_,rfl,eb,?_⟩;unfold Cd
   by_cases c:t.a=h/\cZ F t.b=none
   .simp only[if_pos c,hp,Tz]
    have hk:(F++[(t.b,p++[t])]).map (·.1)=F.map (·.1)++[t.b]:=by rw[RX];rfl
    refine⟨_,_,_,r1.step hp ht c.1 c.2,λx hx=>?_,?_,λx hx=>?_,λx hx=>?_,λx hx=>?_,λs hs hsa=>?_,rfl⟩
    .rw[hk];exact R9 _ (r2 x hx)
    .simp only[RQ,Tp];omega
    .exact R9 _ (r4 x hx)
    .rw[hk]at hx
     rcases Rv.mp hx with hx|hx
     .exact(r5 x hx).imp id λz=>R9 _ z
     .exact .inr (RO _ hx)
    .rw[hk]
     rcases Rv.mp hx with hx|hx
     .exact(r6 x hx).imp id λz=>R9 _ z
     .exact .inr (RO _ hx)
    .rw[hk]
     rcases Rv.mp hs with hs|hs
     .exact R9 _ (r7 s hs hsa)
     .rw[RP.mp hs];exact RO _ (by simp)
   .simp only[if_neg c]
    refine⟨F,W,_,r1,r2,r3,r4,r5,r6,λs hs hsa=>?_,rfl⟩;rcases Rv.mp hs with hs|hs
    .exact r7 s hs hsa
    .rw[RP.mp hs]at hsa ⊢
     by_cases z:t.b∈F.map (·.1)
     .exact z
     .exact absurd ⟨hsa,iD.mpr z⟩ c) ⟨F0,W0,x5,B0,λ_ z=>z,rfl,λ_ z=>z,λ_ z=>.inl z,λ_ z=>.inl z,λ_ z=>(nomatch z),rfl⟩
 exact⟨F,W,y5,r1,r2,r3,r4,r5,r6,r7,e⟩
end
open K11 (eZ)
def zC(ts:List Tn)(F:List qe):Prop:=∀t∈ts,t.a∈F.map (·.1)->t.b∈F.map (·.1)
abbrev wT:am:=aa (ae 3) (ao ax cH) gO
abbrev wB:bi :=
 (aq (lE 4 3 (dC (.int 0)))
 (aq (kF (ae 0) (bF 5)
 iB)
 ak))
def Mc(h:decide ((d::ds).length<=900)=true):lE 4 3 (dC (.int 0)) [s0,s1,s2,.ow (.lst (d::ds)),s4,s5]=.ok (.nx [s0,s1,s2,.ow (.lst ds),.sh d,s5]):=by
 have h:=of_decide_eq_true h;have h2:(d::ds).length<line:=Rp h (by decide);have h1:yD (d::ds).length 0=some 0:=by
  unfold yD;simp
  try omega
 show lC 4 3 [s0,s1,s2,.ow (.lst (d::ds)),s4,s5] (d::ds) (.int 0)=_;unfold lC;simp only[h1];simp only[SJ,if_pos h2];rfl
def IG{h:Ro}{W:bv}:gO (.lst (D.str h::W.map D.str)) (.lst [])=.ok (.bl true):=by
 have h1:∀n,(W.map D.str).all (aR n)=true:=λn=>Ru.mpr λx hx=>by
  obtain⟨y,_,rfl⟩:=Rl.mp hx;cases n<;>rfl
 unfold gO;have h2:aR 40 (.lst (D.str h::W.map D.str))=true:=by
  show((D.str h::W.map D.str).all (aR 39))=true;rw[TU,h1];rfl
 rw[if_pos ⟨h2,rfl⟩];rfl
section
variable {ts:List Tn}{fi h:Ro}{F:List qe}{p:List Tn}{t:Tn}{W:bv}
def Ku(hn:ts.length<=800):∀(f:Nat) (F:List qe) (W:bv) (x4 x5:Sl),Bf ts fi F->Wt ts F W->W.length<=F.length->ts.length+1+W.length<F.length+f ->
  ∃(G:List qe) (y4 y5:Sl),Bf ts fi G/\zC ts G/\ck wT wB f [.sh (.lst (ts.map gV)),.sh (.str fi),.ow (fB F),.ow (.lst (W.map D.str)),x4,x5]=.ok (.nx [.sh (.lst (ts.map gV)),.sh (.str fi),.ow (fB G),.ow (.lst []),y4,y5]):=by
 intro f
 induction f with
 |zero=>intro F W x4 x5 B _ h1 h2;have:=B.len;omega
 |succ f ih=>
  intro F W x4 x5 B V h1 h2;cases W with
  |nil=>
   refine⟨F,x4,x5,B,λt ht ha=>V.dn _ ha (by simp) t ht rfl,iw ?_⟩;have e:gO (.lst []) (.lst [])=.ok (.bl false):=rfl;unfold fB;open_line with[e]
  |cons h W=>
   have hl:=B.len;obtain⟨G,U,y5,r1,r2,r3,r4,r5,r6,r7,e⟩:=LP hn (T:=.lst (ts.map gV)) (Fi:=.str fi) (x5:=x5) B (V.k h Q3) (W0:=W) (by rw[Rt]at h1;omega);have V':Wt ts G U:=⟨λx hx=>by
    rcases r6 x hx with z|z
    .exact r2 x (V.k x (QX _ z))
    .exact z,λx hx nx t ht ha=>by
    rcases r5 x hx with z|z
    .by_cases c:x=h
     .exact r7 t ht (by rw[ha,c])
     .exact r2 _ (V.dn x z (λy=>by
       rcases Rh.mp y with y|y
       .exact c y
       .exact nx (r4 x y)) t ht ha)
    .exact absurd z nx⟩
   rw[Rt]at h1 h2;obtain⟨G',y4,y6,q1,q2,q3⟩:=ih G U (.sh (.str h)) y5 r1 V' (by omega) (by omega);refine⟨G',y4,y6,q1,q2,?_⟩;rw[←q3];have hp:decide ((D.str h::W.map D.str).length<=900)=true:=decide_eq_true (by simp;omega);refine kA ?_ ?_
   .have e:gO (.lst (D.str h::W.map D.str)) (.lst [])=.ok (.bl true):=IG
    unfold fB;open_line with[e]
   .rw[Q6]
    unfold fB at e ⊢;open_line with[Mc hp,e]
def vT(hn:ts.length<=800):∃G,Bf ts fi G/\zC ts G/\K37.m_fewest_turns [.lst (ts.map gV),.str fi]=.ok (fB G):=by
 obtain⟨G,y4,y5,h1,h2,h3⟩:=Ku (fi:=fi) hn 1000 [(fi,[])] [fi] .no .no Bf.start ⟨λx hx=>by simpa using hx,λx hx nx=>by simp at hx nx;exact absurd hx nx⟩ (by simp) (by simp;omega);refine⟨G,h1,h2,?_⟩;have hf:fB [(fi,[])]=.dic [fi] [.lst []]:=rfl;rw[hf]at h3;have hw:∀(c:am) (s:bi) (ρ:Ev),gf (λ_=>1000) c s ρ=ck c s 1000 ρ:=λ_ _ _=>rfl;unfold fB at h3 ⊢;simp only[Q6,Tt]at h3;open_line with[K37.m_fewest_turns,K37.b_fewest_turns,Pth.ed_own,Pth.ed_disp,Pth.ed_disp1,Pth.ed_own1,hw,h3]
end
end Flo
namespace K35
open PySem L2 DL Com
abbrev nI(k:Nat):D:=.int (k:Int)
def Nn{ns:List Int}{c1 c2:List Int}(hc:Cod.aI [.lst (ns.map D.int)]=.ok (.tup [.lst (c1.map D.int),.lst (c2.map D.int)]))(h14:c1.length<=14):∃xs:List cA,aZ [.lst (ns.map D.int)]=.ok (.lst (xs.map fr))/\xs.length=c1.length/\∀x∈xs,aU x/\0<=x.1:=by
 have key:∀c:Int,∃x:cA,(∀ρ:Ev,ρ[0]?=some (.sh (.int c))->ρ[1]?=some (.sh (.lst [.int 420,.int 60,.int 2,.int 5,.int 1000000000000000000,.int 30,.int 6,.int 5,.int 1000000000000000000,.int 30,.int 3,.int 5,.int 1000000000000000000,.int 30]))->(ao (af (gK (ao (af (ae 0) (af (ae 1) ax)) aD) (cD (dC (.int 11))) fD) ax) aA) ρ=.ok (fr x))/\aU x/\0<=x.1:=λc=>by
  obtain⟨vs,hd,V⟩:=Cod.draws_ok c [420,60,2,5,1000000000000000000,30,6,5,1000000000000000000,30,3,5,1000000000000000000,30] (by decide) (by decide);have hvl:vs.length=14:=V.len;obtain⟨v11,g11,b11,_⟩:=V.ix 11 11 rfl rfl;obtain⟨v12,g12,b12,_⟩:=V.ix 12 12 rfl rfl;obtain⟨v13,g13,b13,_⟩:=V.ix 13 13 rfl rfl;obtain⟨x,hx,fx,x0⟩:=Cod.fraction_ok (w:=v11) (a:=v12) (b:=v13) b11 b12 b13;refine⟨x,λρ h0 h1=>?_,fx,x0⟩;have hcut:l4 (vs.map D.int) (some 11) none=[.int v11,.int v12,.int v13]:=by
   rw[j6,HT.sIx_none,show(11:Int)=((11:Nat):Int) from rfl,HT.sIx_nat,hvl];have:=Ek (i:=11) g11 g12 g13;show((vs.drop 11).take 3).map D.int=_;rw[this];rfl
  have hd':Cod.aD [.int c,.lst [.int 420,.int 60,.int 2,.int 5,.int 1000000000000000000,.int 30,.int 6,.int 5,.int 1000000000000000000,.int 30,.int 3,.int 5,.int 1000000000000000000,.int 30]]=.ok (.lst (vs.map D.int)):=hd;generalize vs.map D.int=Q at *;open_line with[h0,h1,hd',hcut,hx]
 obtain⟨g,hg⟩:∃g:Int->cA,∀c,(∀ρ:Ev,ρ[0]?=some (.sh (.int c))->ρ[1]?=some (.sh (.lst [.int 420,.int 60,.int 2,.int 5,.int 1000000000000000000,.int 30,.int 6,.int 5,.int 1000000000000000000,.int 30,.int 3,.int 5,.int 1000000000000000000,.int 30]))->(ao (af (gK (ao (af (ae 0) (af (ae 1) ax)) aD) (cD (dC (.int 11))) fD) ax) aA) ρ=.ok (fr (g c)))/\aU (g c)/\0<=(g c).1:=⟨λc=>VM (key c),λc=>Vd (key c)⟩
 refine⟨c1.map g,?_,by simp,λx hx=>?_⟩
 .have hcomp:dQ 1 [1] (bF 0) mYes (ao (af (gK (ao (af (ae 0) (af (ae 1) ax)) aD) (cD (dC (.int 11))) fD) ax) aA) [.sh (.lst (ns.map D.int)),.sh (.lst [.int 420,.int 60,.int 2,.int 5,.int 1000000000000000000,.int 30,.int 6,.int 5,.int 1000000000000000000,.int 30,.int 3,.int 5,.int 1000000000000000000,.int 30])] (c1.map D.int)=.ok (.lst ((c1.map g).map fr)):=by
   rw[kZ (F:=λd=>match d with|.int v=>fr (g v)|d=>d) (by rw[Q0];omega)]
   .rw[RV,RV];rfl
   .intro d hd
    obtain⟨c,_,rfl⟩:=Rl.mp hd;exact⟨[.sh (.int c),.sh (.lst [.int 420,.int 60,.int 2,.int 5,.int 1000000000000000000,.int 30,.int 6,.int 5,.int 1000000000000000000,.int 30,.int 3,.int 5,.int 1000000000000000000,.int 30])],rfl,rfl,(hg c).1 _ rfl rfl⟩
  have p18:kr (.int 10) (.int 18)=.ok (.int 1000000000000000000):=rfl;open_line with[aZ,dM,p18,hc,hcomp]
 .obtain⟨c,_,rfl⟩:=Rl.mp hx
  exact(hg c).2
def GO{α:Type}{F:α->D}{xs:List α}{fr:ce}(hn:xs.length<=1000)(h:∀(k:Nat) (x:α),xs[k]?=some x->∃ρ1,dy [0,1] (du m fr ρ) (.tup [.int (k:Int),F x])=.ok ρ1/\tt ρ1=.ok (.bl (q k))/\(q k=true->fe ρ1=.ok (G k))) :
  dQ m fr (dy [0,1]) tt fe ρ (numbered 0 (xs.map F))=.ok (.lst (((R4 xs.length).filter q).map G)):=by
 have hi:numbered 0 (xs.map F)=(R4 xs.length).map λ(k:Nat)=>D.tup [.int (k:Int),(xs[k]?.map F).getD .non]:=by
  apply Ur;intro i;rw[cq,Q7,Q7]
  by_cases h:i<xs.length
  .rw[QW h,Vm h]
   simp;rw[QW h];rfl
  .rw[S0 (by omega),S0 (by simp;omega)];rfl
 rw[hi];rw[k6 (F:=λd=>match d with|.tup [.int v,_]=>G v.toNat|d=>d) (p:=λd=>match d with|.tup [.int v,_]=>q v.toNat|_=>false) (by simp;omega)]
 .rw[VU,RV]
  rfl
 .intro d hd
  obtain⟨k,hk,rfl⟩:=Rl.mp hd;have hk':=Ti.mp hk;have e:xs[k]?=some xs[k]:=QW hk';obtain⟨ρ1,h1,h2,h3⟩:=h k xs[k] e;rw[e];exact⟨ρ1,h1,by simpa using h2,λz=>by simpa using h3 (by simpa using z)⟩
def bits_ok(W:dU w)(v:Int):∃ks,dA [aK w,.int v]=.ok (aS ks)/\kn w ks:=by
 have h14:=W.t14;have hc:dQ 2 [1] (dy [0,1]) (dZ (aa (aa (ae 1) (dC (.int 4)) aC) (dC (.non)) kj) (aa (aa (aa (ae 2) (ae 0) zj) (dC (.int 1)) pT) (dC (.int 1)) fJ)) (ae 0) [.sh (aK w),.sh (.int v)] (numbered 0 (w.ts.map bf))=.ok (.lst (((R4 w.ts.length).filter (λk=>MJ w k&&(SW (v / 2 ^ k) 1==1))).map nI)):=by
  refine GO (by omega) λk t ht=>?_;have hW:MJ w k=t.o.isSome:=by unfold MJ;rw[ht];rfl
  refine⟨[.sh (.int (k:Int)),.sh (bf t),.sh (.int v)],rfl,?_,λ_=>rfl⟩;have hs:zj (.int v) (.int (k:Int))=.ok (.int (v / 2 ^ k)):=by
   show(if decide (0<=(k:Int))=true then av.ok (D.int (v / 2 ^ (k:Int).toNat)) else .stuck)=_;rw[if_pos (decide_eq_true (by omega)),Sw]
  have hb:pT (.int (v / 2 ^ k)) (.int 1)=.ok (.int (SW (v / 2 ^ k) 1)):=rfl;rw[hW,show bf t=.tup [.str t.a,.str t.b,.str t.w,fr t.l,cN t.o] from rfl];cases ho:t.o with
  |none=>open_line with[cN];rfl
  |some x=>open_line with[cN,fr,IZ,hs,hb,Option.isSome_some,Sr]
 refine⟨(R4 w.ts.length).filter (λk=>MJ w k&&(SW (v / 2 ^ k) 1==1)),?_,?_,λk hk=>?_⟩
 .rw[show aK w=.tup [.lst (w.ps.map D.str),.lst (w.ts.map bf),.str w.fi,.str w.la] from rfl]at hc ⊢
  open_line with[dA,qc,hc]
  rfl
 .exact Ud.sublist WR Wr
 .have:=(Sg.mp hk).2
  rw[Rn]at this;exact IS.mp this.1
def gm:ac->bv->ac
 |ds,[]=>ds
 |[],_=>[]
 |d::r,z::zs=>if cw d (.str z)=true then gm r zs else gm (d::r) zs
theorem Gf:∀zs,gm [] zs=[]
 |[]=>rfl
 |_::_=>rfl
def eZ:cw d (.str z)=true↔d=.str z:=by
 cases d with
 |str x=>rw[cw];simp
 |_=>constructor<;>intro h<;>first|cases h|(unfold cw at h;cases h)
theorem gm_sub:∀{zs:bv}{ds:ac},gm ds zs=[]↔∃ss:bv,ds=ss.map D.str/\ss.Sublist zs
 |[],ds=>by
  unfold gm;constructor
  .rintro rfl;exact⟨[],rfl,.slnil⟩
  .rintro⟨ss,rfl,h⟩;rw[List.sublist_nil.mp h];rfl
 |z::zs,[]=>by
  rw[Gf];exact⟨λ_=>⟨[],rfl,List.nil_sublist _⟩,λ_=>rfl⟩
 |z::zs,d::r=>by
  unfold gm
  by_cases h:cw d (.str z)=true
  .rw[if_pos h,gm_sub]
   have hd:=eZ.mp h;subst hd;constructor
   .rintro⟨ss,rfl,hs⟩;exact⟨z::ss,rfl,hs.cons₂ z⟩
   .rintro⟨ss,e,hs⟩
    cases ss with
    |nil=>cases e
    |cons s ss=>
     rw[Q6]at e;injection e with e1 e2;injection e1 with e1;subst e1;refine⟨ss,e2,?_⟩;cases hs with|cons _ h=>exact(List.sublist_cons_self _ _).trans h|cons_cons _ h=>exact h
  .rw[if_neg h,gm_sub]
   constructor
   .rintro⟨ss,e,hs⟩;exact⟨ss,e,hs.cons z⟩
   .rintro⟨ss,e,hs⟩
    cases hs with
    |cons _ h=>exact⟨ss,e,h⟩
    |cons_cons _ h'=>
     rw[Q6]at e;injection e with e1 e2;subst e1;exact absurd (eZ.mpr rfl) h
structure PL (ds:ac):Prop where
 f:∀x∈ds,Kc x=true
 s:∀x∈ds,aR 39 x=true
def wD(h:aR 39 d=true):aR 40 d=true:=by
 have:∀(n:Nat) (d:D),aR n d=true->aR (n+1) d=true:=by
  intro n
  induction n with
  |zero=>
   intro d h;cases d<;>first|rfl|(unfold aR at h;cases h)
  |succ n ih=>
   intro d h;cases d with|tup ds=>exact Ru.mpr λx hx=>ih x (Ru.mp h x hx)|lst ds=>exact Ru.mpr λx hx=>ih x (Ru.mp h x hx)|non|bl _|int _|str _=>rfl| _=>unfold aR at h;cases h
 exact this 39 d h
def LL(h:PL ds):pS (.str z) (.lst ds)=.ok (.bl (ds.any λd=>cw d (.str z))):=by
 have e:xH (.str z) (.lst ds)=some (ds.any λd=>cw d (.str z)):=if_pos ⟨rfl,Ru.mpr λd hd=>wD (h.s d hd)⟩;unfold pS;rw[e]
def C0(h:PL ds):bL (.str z) (.lst ds)=.ok (.bl (!(ds.any λd=>cw d (.str z)))):=by
 have e:xH (.str z) (.lst ds)=some (ds.any λd=>cw d (.str z)):=if_pos ⟨rfl,Ru.mpr λd hd=>wD (h.s d hd)⟩;unfold bL;rw[e]
def sideB(w:jr)(ds:ac):Bool:=(ds.any λd=>cw d (.str w.fi))&&!(ds.any λd=>cw d (.str w.la))&&(gm ds w.ps).isEmpty
def gP:bi:=(aq (cM (dZ (aa (ae 2) (ao (af (ae 1) ax) (m1 dP)) zk) (aa (aa (ae 1) (ae 2) aC) (ae 3) fJ))
 (aq (aJ 2 (aa (ae 2) (dC (.int 1)) bz))
 ak)
 ak)
 ak)
theorem qH(h:PL ds):∀(zs:bv) (k:Nat) (x:Sl),k<=ds.length->∃(k':Nat) (x':Sl),cm (bF 3) gP (zs.map D.str) [.sh (aK w),.sh (.lst ds),.sh (.int (k:Int)),x]=.ok (.nx [.sh (aK w),.sh (.lst ds),.sh (.int (k':Int)),x'])/\k'<=ds.length/\gm (ds.drop k) zs=ds.drop k'
 |[],k,x,hk=>⟨k,x,rfl,hk,by unfold gm;rfl⟩
 |z::zs,k,x,hk=>by
  have red:∀ρ2,gP [.sh (aK w),.sh (.lst ds),.sh (.int (k:Int)),.sh (.str z)]=.ok (.nx ρ2)->cm (bF 3) gP ((z::zs).map D.str) [.sh (aK w),.sh (.lst ds),.sh (.int (k:Int)),x]=cm (bF 3) gP (zs.map D.str) ρ2:=λρ2 hr=>by
   rw[Q6]
   (conv=>lhs;unfold cm)
   show(gP [.sh (aK w),.sh (.lst ds),.sh (.int (k:Int)),.sh (.str z)]).bind _=_;rw[hr];rfl
  by_cases hlt:k<ds.length
  .have hd:ds[k]?=some ds[k]:=QW hlt
   have hix:=eY hd;have e1:ds.drop k=ds[k]::ds.drop (k+1):=Sm hlt;have heq:fJ ds[k] (.str z)=.ok (.bl (cw ds[k] (.str z))):=if_pos ⟨wD (h.s _ (Sq hlt)),rfl⟩;have q1:decide ((k:Int)<(ds.length:Int))=true:=decide_eq_true (by omega);cases he:cw ds[k] (.str z) with
   |true=>
    rw[he]at heq;have hb:gP [.sh (aK w),.sh (.lst ds),.sh (.int (k:Int)),.sh (.str z)]=.ok (.nx [.sh (aK w),.sh (.lst ds),.sh (.int ((k+1:Nat):Int)),.sh (.str z)]):=by
     unfold gP;open_line with[q1,hix,heq]
     rfl
    obtain⟨k',x',h1,h2,h3⟩:=qH (w:=w) h zs (k+1) (.sh (.str z)) (by omega);refine⟨k',x',(red _ hb).trans h1,h2,?_⟩;rw[e1];unfold gm;rw[if_pos he];exact h3
   |false=>
    rw[he]at heq;have hb:gP [.sh (aK w),.sh (.lst ds),.sh (.int (k:Int)),.sh (.str z)]=.ok (.nx [.sh (aK w),.sh (.lst ds),.sh (.int (k:Int)),.sh (.str z)]):=by
     unfold gP;open_line with[q1,hix,heq]
    obtain⟨k',x',h1,h2,h3⟩:=qH (w:=w) h zs k (.sh (.str z)) hk;refine⟨k',x',(red _ hb).trans h1,h2,?_⟩;rw[e1];unfold gm;rw[if_neg (by rw[he];decide),←e1];exact h3
  .have q1:decide ((k:Int)<(ds.length:Int))=false:=decide_eq_false (by omega)
   have hb:gP [.sh (aK w),.sh (.lst ds),.sh (.int (k:Int)),.sh (.str z)]=.ok (.nx [.sh (aK w),.sh (.lst ds),.sh (.int (k:Int)),.sh (.str z)]):=by
    unfold gP;open_line with[q1]
   obtain⟨k',x',h1,h2,h3⟩:=qH (w:=w) h zs k (.sh (.str z)) hk;refine⟨k',x',(red _ hb).trans h1,h2,?_⟩;have e1:ds.drop k=[]:=Ws (by omega);rw[e1]at h3 ⊢;rw[Gf]at h3 ⊢;exact h3
def is_side(h:PL ds):cc [aK w,.lst ds]=.ok (.bl (sideB w ds)):=by
 obtain⟨k',x',h1,h2,h3⟩:=qH (w:=w) h w.ps 0 .no (by omega);rw[V2]at h3;unfold gP at h1;have i0:aC (aK w) (.int 0)=.ok (.lst (w.ps.map D.str)):=rfl;have i2:aC (aK w) (.int 2)=.ok (.str w.fi):=rfl;have i3:aC (aK w) (.int 3)=.ok (.str w.la):=rfl;have n1:=C0 h (z:=w.fi);have n2:=LL h (z:=w.la);unfold sideB;cases e1:(ds.any λd=>cw d (.str w.fi)) with
 |false=>
  rw[e1]at n1;open_line with[cc,fX,i2,n1,Sa]
 |true=>
  rw[e1]at n1;cases e2:(ds.any λd=>cw d (.str w.la)) with
  |true=>
   rw[e2]at n2;open_line with[cc,fX,i2,i3,n1,n2,Sr,Sa]
  |false=>
   rw[e2]at n2;have hk:(((k':Nat):Int)==(ds.length:Int))=(gm ds w.ps).isEmpty:=by
    rw[h3]
    by_cases c:k'=ds.length
    .subst c
     rw[VJ];simp
    .have:ds.drop k'≠[]:=λz=>c (by have:=congrArg Vk z;rw[TF]at this;simp at this;omega)
     rw[beq_eq_false_iff_ne.mpr (by omega)];cases q:ds.drop k' with|nil=>exact absurd q this|cons _ _=>rfl
   have h0:((0:Nat):Int)=0:=rfl;rw[h0]at h1;open_line with[cc,fX,i0,i2,i3,n1,n2,h1,hk,Sr]
theorem Ci{α:Type}{g:α->Bool}:∀{l:List α},eM (l.map λx=>D.bl (g x))=some (l.map g)
 |[]=>rfl
 |a::l=>by rw[Q6,eM,Ci];rfl
def all_ok{ds:ac}:ug (.lst (ds.map λd=>.bl (g d)))=.ok (.bl (ds.all g)):=by
 show(match eM (ds.map λd=>D.bl (g d)) with|some bs=>av.ok (D.bl (bs.all id))|none=>.stuck)=_;rw[Ci];simp only[VG];rfl
def sg(s:Int)(x:cA):cA:=(s*x.1,x.2)
def oK(h:aU x)(hs:s=1∨s=-1):aU (sg s x):=by
 rcases hs with rfl|rfl
 .have:sg 1 x=x:=by unfold sg;rw[UW]
  rw[this];exact h
 .refine⟨⟨h.q1,?_⟩,?_,h.qN⟩
  .show RD (-1*x.1) x.2=1
   rw[show(-1*x.1)=-x.1 by omega,Int.neg_gcd];exact h.g1
  .show(-1*x.1).natAbs<kz
   have:=h.pN;omega
def sumF(xs:List cA):cA:=c9 (mN xs).1 (mN xs).2
def sum_acc{xs:List cA}(hl:xs.length<=40)(hx:∀x∈xs,aU x):DX xs.length (sumF xs)/\Low (sumF xs):=by
 have A:=jO (xs:=xs) (by omega) hx;have hL:=fq (a:=(mN xs).1) A.pos;have:=hL.q1;exact⟨⟨by show 0<(c9 _ _).2;omega,Ra lJ A.b1,Ra lI A.b2⟩,hL⟩
def mR(hl:xs.length<=39)(hxs:∀y∈xs,aU y)(hx:aU x)(hs:s=1∨s=-1):ba [fr (sumF xs),fr x,.int s]=.ok (fr (sumF (xs++[sg s x]))):=by
 have hx':=oK hx hs;have A:=jO (xs:=xs) (by omega) hxs;obtain⟨hA,_⟩:=sum_acc (xs:=xs) (by omega) hxs;have hB:=hA.step hx';have bb:bnd (xs.length+1)<qU:=lU (by omega);have b60:bnd xs.length<qf:=Q4 (lU (by omega)) oF;have hw:sumF (xs++[sg s x])=c9 ((sumF xs).1*x.2+s*x.1*(sumF xs).2) ((sumF xs).2*x.2):=by
  have:=rW (s:=mN xs) (x:=sg s x) A.pos hx'.q1;unfold sumF;rw[xO,←this];rfl
 have hlo:=Cod.low_ok (a:=(sumF xs).1*x.2+s*x.1*(sumF xs).2) (b:=(sumF xs).2*x.2) hB.pos (Rp hB.b1 bb) (Rp hB.b2 bb);have m1_:cU (sumF xs).1 x.2=true:=dY (Rp hA.b1 b60) (Q4 hx.qN cC);have m0_:cU s x.1=true:=dY (Q4 (show s.natAbs<kz by rcases hs with rfl|rfl<;>decide) cC) (Q4 hx.pN cC);have m2_:cU (s*x.1) (sumF xs).2=true:=dY (Q4 hx'.pN cC) (Rp hA.b2 b60);have m3_:cU (sumF xs).2 x.2=true:=dY (Rp hA.b2 b60) (Q4 hx.qN cC);rw[hw];generalize sumF xs=u at *;rw[show fr u=.tup [.int u.1,.int u.2] from rfl,show fr x=.tup [.int x.1,.int x.2] from rfl];open_line with[ba,eG,cS m1_,cS m0_,cS m2_,cS m3_,hlo]
def fI(ss:bv)(t:fK):Bool:=if t.w="both" then(decide (t.a∈ss) != decide (t.b∈ss)) else(decide (t.a∈ss)&&!(decide (t.b∈ss)))
def F3{w:jr}(h:qd w.ps t):bD [bf t,.lst (ss.map D.str)]=.ok (.bl (fI ss t)):=by
 have hb:fJ (.str t.w) (.str "both")=.ok (.bl (t.w=="both")):=qM;rw[show bf t=.tup [.str t.a,.str t.b,.str t.w,fr t.l,cN t.o] from rfl];unfold fI
 by_cases c:t.w="both"
 .rw[if_pos c]
  rw[c]at hb ⊢;have hne:∀x y:Bool,gO (.bl x) (.bl y)=.ok (.bl (x != y)):=λx y=>by cases x<;>cases y<;>rfl
  open_line with[bD,eO,hb,lK,hne]
 .rw[if_neg c]
  rw[beq_eq_false_iff_ne.mpr c]at hb;cases e:decide (t.a∈ss) with
  |true=>open_line with[bD,eO,hb,lK,e,rQ,Sr]
  |false=>open_line with[bD,eO,hb,lK,e,Sa]
def notin_nums{k:Nat}:bL (.int (k:Int)) (aS ks)=.ok (.bl (!(decide (k∈ks)))):=by
 have e:xH (.int (k:Int)) (aS ks)=some (decide (k∈ks)):=by
  have h1:(ks.map λ(k:Nat)=>D.int (k:Int)).all (aR 40)=true:=Ru.mpr λd hd=>by
   obtain⟨z,_,rfl⟩:=Rl.mp hd;rfl
  have h2:(ks.map λ(k:Nat)=>D.int (k:Int)).any (λd=>cw d (.int (k:Int)))=decide (k∈ks):=by
   induction ks with
   |nil=>rfl
   |cons y zs ih=>
    rw[Q6,Tf,ih (by
     rw[Q6,TU,Rn]at h1;exact h1.2)]
    rw[cw]
    by_cases h:y=k
    .subst h;simp
    .have:((y:Int)==(k:Int))=false:=beq_eq_false_iff_ne.mpr (by omega)
     rw[this,Ug];simp[R7 h]
  exact(if_pos ⟨rfl,h1⟩).trans (congrArg some h2)
 unfold bL;rw[e]
def mS(ks:ce)(ss:bv)(ts:List fK)(n:Nat):ce:=(R4 n).filter λk=>!(decide (k∈ks))&&(match ts[k]? with|some t=>fI ss t|none=>false)
def cR(ks:ce)(ss:bv)(ts:List fK)(xs:List cA)(n:Nat):List cA:=(mS ks ss ts n).map λk=>xs.getD k (0,1)
def roomF_fin(hx:∀x∈xs,aU x):∀x∈cR ks ss ts xs n,aU x:=λx hm=>by
 obtain⟨k,_,rfl⟩:=Rl.mp hm;rw[To];cases e:xs[k]? with|none=>exact⟨⟨by decide,by decide⟩,by decide,by decide⟩|some y=>exact hx y (Rb e)
def roomF_len:(cR ks ss ts xs n).length<=n:=by
 unfold cR mS;rw[Q0];exact Ra (Vc _ _) (by simp)
def CQ(h:ts[j]?=some t):mS ks ss ts (j+1)=mS ks ss ts j++(if(!(decide (j∈ks))&&fI ss t)=true then[j] else[]):=by
 unfold mS;rw[List.range_succ,List.filter_append]
 congr 1
 cases q:(!(decide (j∈ks))&&fI ss t) with|true=>rw[U2 (by rw[h];exact q)];rfl|false=>rw[U3 (by rw[h];show ¬(!(decide (j∈ks))&&fI ss t)=true;rw[q];decide)];rfl
def rq:bi:=(aq (cM (dZ (aa (ae 5) (ae 2) bL) (ao (af (ae 6) (af (ae 3) ax)) bD))
 (aq (aJ 4 (ao (af (ae 4) (af (aa (ae 1) (ae 5) aC) (af (dC (.int 1)) ax))) ba))
 ak)
 ak)
 ak)
def law_room(W:dU w)(hl:xs.length=w.ts.length)(hx:∀x∈xs,aU x/\0<=x.1):fF [aK w,.lst (xs.map fr),aS ks,.lst (ss.map D.str)]=.ok (fr (sumF (cR ks ss w.ts xs w.ts.length))):=by
 have h14:=W.t14;have s0:sumF (cR ks ss w.ts xs 0)=(0,1):=by show c9 0 1=(0,1);decide
 obtain⟨ρ',hf,x5,x6,rfl⟩:=gp (ds:=numbered 0 (w.ts.map bf)) (tg:=dy [5,6]) (body:=rq) (ρ:=[.sh (aK w),.sh (.lst (xs.map fr)),.sh (aS ks),.sh (.lst (ss.map D.str)),.sh (fr (0,1)),.no,.no])
  (λj ρ=>∃x5 x6,ρ=[.sh (aK w),.sh (.lst (xs.map fr)),.sh (aS ks),.sh (.lst (ss.map D.str)),.sh (fr (sumF (cR ks ss w.ts xs j))),x5,x6]) (by
   rintro j d hd ρ ⟨x5,x6,rfl⟩;obtain⟨t,ht,rfl⟩:=fQ hd;have hj:j<w.ts.length:=(Q5.mp ht).1;have hni:=notin_nums (k:=j) (ks:=ks);have hld:=F3 (W.ts t (Rb ht)) (ss:=ss);have hjx:j<xs.length:=by omega
   have hix:aC (.lst (xs.map fr)) (.int (j:Int))=.ok (fr (xs.getD j (0,1))):=eY (by
    rw[Q7,QW hjx,To,QW hjx];rfl)
   have hfx:aU (xs.getD j (0,1)):=by
    rw[To,QW hjx];exact(hx _ (Sq hjx)).1
   have hpl:=mR (xs:=cR ks ss w.ts xs j) (x:=xs.getD j (0,1)) (s:=1) (by have:=roomF_len (ks:=ks) (ss:=ss) (ts:=w.ts) (xs:=xs) (n:=j);omega) (roomF_fin λx hm=>(hx x hm).1) hfx (.inl rfl);have hsg:sg 1 (xs.getD j (0,1))=xs.getD j (0,1):=by unfold sg;rw[UW]
   rw[hsg]at hpl;have e1:cR ks ss w.ts xs (j+1)=cR ks ss w.ts xs j++(if(!(decide (j∈ks))&&fI ss t)=true then[xs.getD j (0,1)] else[]):=by
    unfold cR;rw[CQ ht,RX]
    congr 1
    split<;>rfl
   rw[e1];cases c:decide (j∈ks) with
   |true=>
    rw[c]at hni;refine⟨_,[.sh (aK w),.sh (.lst (xs.map fr)),.sh (aS ks),.sh (.lst (ss.map D.str)),.sh (fr (sumF (cR ks ss w.ts xs j))),.sh (.int (j:Int)),.sh (bf t)],i7 rfl,?_,_,_,by rw[if_neg (by simp),Sj]⟩;unfold rq;generalize fr (sumF (cR ks ss w.ts xs j))=Z at *;open_line with[hni]
   |false=>
    rw[c]at hni;cases q:fI ss t with
    |false=>
     rw[q]at hld;refine⟨_,[.sh (aK w),.sh (.lst (xs.map fr)),.sh (aS ks),.sh (.lst (ss.map D.str)),.sh (fr (sumF (cR ks ss w.ts xs j))),.sh (.int (j:Int)),.sh (bf t)],i7 rfl,?_,_,_,by rw[if_neg (by simp),Sj]⟩;unfold rq;generalize fr (sumF (cR ks ss w.ts xs j))=Z at *;open_line with[hni,hld]
    |true=>
     rw[q]at hld;refine⟨_,[.sh (aK w),.sh (.lst (xs.map fr)),.sh (aS ks),.sh (.lst (ss.map D.str)),.sh (fr (sumF (cR ks ss w.ts xs j++[xs.getD j (0,1)]))),.sh (.int (j:Int)),.sh (bf t)],i7 rfl,?_,_,_,by rw[if_pos (by simp)]⟩;unfold rq;generalize fr (sumF (cR ks ss w.ts xs j))=Z at *;generalize fr (sumF (cR ks ss w.ts xs j++[xs.getD j (0,1)]))=Z2 at *;generalize fr (xs.getD j (0,1))=Y at *;generalize D.lst (xs.map fr)=X at *;open_line with[hni,hld,hix,hpl]) ⟨.no,.no,by rw[s0]⟩
 have hlen:(numbered 0 (w.ts.map bf)).length=w.ts.length:=by rw[cF,Q0]
 rw[hlen]at hf;unfold rq at hf;have i1:aC (aK w) (.int 1)=.ok (.lst (w.ts.map bf)):=rfl;rw[show fr (0,1)=.tup [.int 0,.int 1] from rfl]at hf;generalize fr (sumF (cR ks ss w.ts xs w.ts.length))=Z at *;open_line with[fF,ja,i1,hf]
end K35
namespace K36
open PySem L2 DL Com
def sg(s:Int)(x:cA):cA:=(s*x.1,x.2)
def oK(h:aU x)(hs:s=1∨s=-1):aU (sg s x):=by
 rcases hs with rfl|rfl
 .have:sg 1 x=x:=by unfold sg;rw[UW]
  rw[this];exact h
 .refine⟨⟨h.q1,?_⟩,?_,h.qN⟩
  .show RD (-1*x.1) x.2=1
   rw[show(-1*x.1)=-x.1 by omega,Int.neg_gcd];exact h.g1
  .show(-1*x.1).natAbs<kz
   have:=h.pN;omega
def sumF(xs:List cA):cA:=c9 (mN xs).1 (mN xs).2
def sum_acc{xs:List cA}(hl:xs.length<=40)(hx:∀x∈xs,aU x):DX xs.length (sumF xs)/\Low (sumF xs):=by
 have A:=jO (xs:=xs) (by omega) hx;have hL:=fq (a:=(mN xs).1) A.pos;have:=hL.q1;exact⟨⟨by show 0<(c9 _ _).2;omega,Ra lJ A.b1,Ra lI A.b2⟩,hL⟩
def mR(hl:xs.length<=39)(hxs:∀y∈xs,aU y)(hx:aU x)(hs:s=1∨s=-1):ba [fr (sumF xs),fr x,.int s]=.ok (fr (sumF (xs++[sg s x]))):=by
 have hx':=oK hx hs;have A:=jO (xs:=xs) (by omega) hxs;obtain⟨hA,_⟩:=sum_acc (xs:=xs) (by omega) hxs;have hB:=hA.step hx';have bb:bnd (xs.length+1)<qU:=lU (by omega);have b60:bnd xs.length<qf:=Q4 (lU (by omega)) oF;have hw:sumF (xs++[sg s x])=c9 ((sumF xs).1*x.2+s*x.1*(sumF xs).2) ((sumF xs).2*x.2):=by
  have:=rW (s:=mN xs) (x:=sg s x) A.pos hx'.q1;unfold sumF;rw[xO,←this];rfl
 have hlo:=Cod.low_ok (a:=(sumF xs).1*x.2+s*x.1*(sumF xs).2) (b:=(sumF xs).2*x.2) hB.pos (Rp hB.b1 bb) (Rp hB.b2 bb);have m1_:cU (sumF xs).1 x.2=true:=dY (Rp hA.b1 b60) (Q4 hx.qN cC);have m0_:cU s x.1=true:=dY (Q4 (show s.natAbs<kz by rcases hs with rfl|rfl<;>decide) cC) (Q4 hx.pN cC);have m2_:cU (s*x.1) (sumF xs).2=true:=dY (Q4 hx'.pN cC) (Rp hA.b2 b60);have m3_:cU (sumF xs).2 x.2=true:=dY (Rp hA.b2 b60) (Q4 hx.qN cC);rw[hw];generalize sumF xs=u at *;rw[show fr u=.tup [.int u.1,.int u.2] from rfl,show fr x=.tup [.int x.1,.int x.2] from rfl];open_line with[ba,eG,cS m1_,cS m0_,cS m2_,cS m3_,hlo]
def part(p:Ro)(t:fK)(x:cA):List cA:=(if t.a=p then[sg 1 x] else[])++(if t.b=p then[sg (-1) x] else[])
def parts(p:Ro):List fK->List cA->List cA
 |t::ts,x::xs=>part p t x++parts p ts xs
 |_,_=>[]
def Ir:(part p t x).length<=2:=by
 unfold part;split<;>split<;>simp
theorem parts_len:∀{ts:List fK}{xs:List cA},(parts p ts xs).length<=2*ts.length
 |[],_=>by simp[parts]
 |_::_,[]=>by simp[parts]
 |t::ts,x::xs=>by
  unfold parts;rw[RQ,Rt];have:=parts_len (p:=p) (ts:=ts) (xs:=xs);have:=Ir (p:=p) (t:=t) (x:=x);omega
def Fw(h:aU x):∀y∈part p t x,aU y:=λy hy=>by
 unfold part at hy;rw[Rv]at hy;rcases hy with hy|hy
 .split at hy
  .have:y=sg 1 x:=by simpa using hy
   rw[this];exact oK h (.inl rfl)
  .cases hy
 .split at hy
  .have:y=sg (-1) x:=by simpa using hy
   rw[this];exact oK h (.inr rfl)
  .cases hy
theorem parts_fin{p:Ro}:∀{ts:List fK}{xs:List cA},(∀x∈xs,aU x)->∀y∈parts p ts xs,aU y
 |[],_,_,y,hy=>by simp[parts]at hy
 |_::_,[],_,y,hy=>by simp[parts]at hy
 |t::ts,x::xs,h,y,hy=>by
  unfold parts at hy;rw[Rv]at hy;rcases hy with hy|hy
  .exact Fw (h x Q3) y hy
  .exact parts_fin (λz hz=>h z (QX _ hz)) y hy
def eqs:fJ (.str x) (.str y)=.ok (.bl (decide (x=y))):=by
 rw[qM]
 congr 2
def AQ{A B p:D}{k:Nat}{xs:List cA}(hp:p=.str P)(hacc:∀y∈acc,aU y)(hl:acc.length<=37)(hx:xs[k]?=some x)(fx:aU x):∃ρ2,(aq (cM (aa (aa (ae 5) (dC (.int 0)) aC) (ae 2) fJ)
 (aq (aJ 3 (ao (af (ae 3) (af (aa (ae 1) (ae 4) aC) (af (dC (.int 1)) ax))) ba))
 ak)
 ak)
 (aq (cM (aa (aa (ae 5) (dC (.int 1)) aC) (ae 2) fJ)
 (aq (aJ 3 (ao (af (ae 3) (af (aa (ae 1) (ae 4) aC) (af (aQ (dC (.int 1)) jF) ax))) ba))
 ak)
 ak)
 ak)) [.sh A,.sh (.lst (xs.map fr)),.sh p,.sh (fr (sumF acc)),.sh (.int (k:Int)),.sh (bf t)]=.ok (.nx ρ2)/\ρ2=[.sh A,.sh (.lst (xs.map fr)),.sh p,.sh (fr (sumF (acc++part P t x))),.sh (.int (k:Int)),.sh (bf t)]:=by
 subst hp;have hix:aC (.lst (xs.map fr)) (.int (k:Int))=.ok (fr x):=eY (by rw[Q7,hx];rfl);have i0:aC (bf t) (.int 0)=.ok (.str t.a):=rfl;have i1:aC (bf t) (.int 1)=.ok (.str t.b):=rfl;have p1:=mR (xs:=acc) (x:=x) (s:=1) (by omega) hacc fx (.inl rfl);refine⟨_,?_,rfl⟩
 by_cases ha:t.a=P
 .have hacc':∀y∈acc++[sg 1 x],aU y:=λy hy=>by
   rw[Rv]at hy;rcases hy with hy|hy
   .exact hacc y hy
   .have:y=sg 1 x:=by simpa using hy
    rw[this];exact oK fx (.inl rfl)
  have p2:=mR (xs:=acc++[sg 1 x]) (x:=x) (s:=-1) (by simp;omega) hacc' fx (.inr rfl)
  by_cases hb:t.b=P
  .have e:acc++part P t x=acc++[sg 1 x]++[sg (-1) x]:=by unfold part;rw[if_pos ha,if_pos hb,T3]
   rw[e];open_line with[i0,i1,eqs,decide_eq_true ha,decide_eq_true hb,hix,p1,p2]
  .have e:acc++part P t x=acc++[sg 1 x]:=by unfold part;rw[if_pos ha,if_neg hb,Sj]
   rw[e];open_line with[i0,i1,eqs,decide_eq_true ha,decide_eq_false hb,hix,p1]
 .have p2:=mR (xs:=acc) (x:=x) (s:=-1) (by omega) hacc fx (.inr rfl)
  by_cases hb:t.b=P
  .have e:acc++part P t x=acc++[sg (-1) x]:=by unfold part;rw[if_neg ha,if_pos hb,SY]
   rw[e];open_line with[i0,i1,eqs,decide_eq_false ha,decide_eq_true hb,hix,p2]
  .have e:acc++part P t x=acc:=by unfold part;rw[if_neg ha,if_neg hb];simp
   rw[e];open_line with[i0,i1,eqs,decide_eq_false ha,decide_eq_false hb]
theorem rJ{p:Ro}:∀{ts:List fK}{xs:List cA}{k:Nat}{t:fK}{x:cA},ts[k]?=some t->xs[k]?=some x->parts p (ts.take (k+1)) (xs.take (k+1))=parts p (ts.take k) (xs.take k)++part p t x
 |t'::ts,x'::xs,0,t,x,h1,h2=>by
  cases h1;cases h2;show part p t' x'++parts p [] []=[]++part p t' x';simp[parts]
 |t'::ts,x'::xs,k+1,t,x,h1,h2=>by
  show part p t' x'++parts p (ts.take (k+1)) (xs.take (k+1))=(part p t' x'++parts p (ts.take k) (xs.take k))++part p t x;rw[rJ (ts:=ts) (xs:=xs) h1 h2,T3]
 |[],_,_,_,_,h1,_=>by simp at h1
 |_::_,[],_,_,_,_,h2=>by simp at h2
def going_ok(h14:w.ts.length<=14)(hl:xs.length=w.ts.length)(hx:∀x∈xs,aU x):bP [aK w,.lst (xs.map fr),.str P]=.ok (fr (sumF (parts P w.ts xs))):=by
 obtain⟨ρ',hf,x4,x5,rfl⟩:=gp (ds:=numbered 0 (w.ts.map bf)) (tg:=dy [4,5]) (ρ:=[.sh (aK w),.sh (.lst (xs.map fr)),.sh (.str P),.sh (fr (sumF [])),.no,.no])
  (body:=(aq (cM (aa (aa (ae 5) (dC (.int 0)) aC) (ae 2) fJ)
 (aq (aJ 3 (ao (af (ae 3) (af (aa (ae 1) (ae 4) aC) (af (dC (.int 1)) ax))) ba))
 ak)
 ak)
 (aq (cM (aa (aa (ae 5) (dC (.int 1)) aC) (ae 2) fJ)
 (aq (aJ 3 (ao (af (ae 3) (af (aa (ae 1) (ae 4) aC) (af (aQ (dC (.int 1)) jF) ax))) ba))
 ak)
 ak)
 ak)))
  (λk ρ=>∃x4 x5,ρ=[.sh (aK w),.sh (.lst (xs.map fr)),.sh (.str P),.sh (fr (sumF (parts P (w.ts.take k) (xs.take k)))),x4,x5]) (by
   rintro k d hd ρ ⟨x4,x5,rfl⟩;obtain⟨t,ht,rfl⟩:=fQ hd;have hk:k<w.ts.length:=(Q5.mp ht).1;have hxk:xs[k]?=some xs[k]:=QW (by omega);have hpl:(parts P (w.ts.take k) (xs.take k)).length<=28:=Ra parts_len (by rw[Tg];omega);obtain⟨ρ2,h1,h2⟩:=AQ (A:=aK w) (B:=.non) (p:=.str P) (P:=P) (t:=t) (acc:=parts P (w.ts.take k) (xs.take k)) (xs:=xs) rfl (parts_fin λx hx'=>hx x (WK hx')) (by omega) hxk (hx _ (Sq (by omega)));refine⟨_,ρ2,i7 rfl,h1,.sh (.int (k:Int)),.sh (bf t),?_⟩;rw[h2,rJ ht hxk]) ⟨.no,.no,rfl⟩
 rw[cF,Q0,T8,←hl,T8]at hf;have h0:fr (sumF [])=.tup [.int 0,.int 1]:=by
  show fr (c9 0 1)=_;have:c9 0 1=(0,1):=by decide
  rw[this];rfl
 rw[h0]at hf;rw[show aK w=.tup [.lst (w.ps.map D.str),.lst (w.ts.map bf),.str w.fi,.str w.la] from rfl]at hf ⊢;open_line with[bP,il,nZ,nk,kN,hf]
def ip(P:Ro)(t:fK)(z:Int):Int:=(if t.a=P then z else 0)-(if t.b=P then z else 0)
def ips(P:Ro):List fK->List Int->Int
 |t::ts,z::zs=>ip P t z+ips P ts zs
 |_,_=>0
theorem yG{p:Ro}:∀{ts:List fK}{xs:List Int}{k:Nat}{t:fK}{x:Int},ts[k]?=some t->xs[k]?=some x->ips p (ts.take (k+1)) (xs.take (k+1))=ips p (ts.take k) (xs.take k)+ip p t x
 |t'::ts,x'::xs,0,t,x,h1,h2=>by
  cases h1;cases h2;show ip p t' x' + ips p [] []=0+ip p t' x';simp[ips]
 |t'::ts,x'::xs,k+1,t,x,h1,h2=>by
  show ip p t' x' + ips p (ts.take (k+1)) (xs.take (k+1))=(ip p t' x' + ips p (ts.take k) (xs.take k))+ip p t x;rw[yG (ts:=ts) (xs:=xs) h1 h2,Int.add_assoc]
 |[],_,_,_,_,h1,_=>by simp at h1
 |_::_,[],_,_,_,_,h2=>by simp at h2
theorem ips_parts:∀(ts:List fK) (xs:List cA),ips P ts (xs.map λx=>x.1*(b / x.2))=xG ((parts P ts xs).map λx=>x.1*(b / x.2))
 |[],xs=>by simp[ips,parts,xG]
 |_::_,[]=>by simp[ips,parts,xG]
 |t::ts,x::xs=>by
  show ip P t (x.1*(b / x.2))+ips P ts (xs.map λx=>x.1*(b / x.2))=xG ((part P t x++parts P ts xs).map λx=>x.1*(b / x.2));rw[ips_parts ts xs,RX,vj]
  congr 1
  unfold ip part sg
  by_cases ha:t.a=P
  .by_cases hb:t.b=P
   .rw[if_pos ha,if_pos hb,if_pos ha,if_pos hb]
    show _=1*x.1*(b / x.2)+(-1*x.1*(b / x.2)+0);rw[UW,Int.neg_one_mul,UX];omega
   .rw[if_pos ha,if_neg hb,if_pos ha,if_neg hb]
    show _=1*x.1*(b / x.2)+0;rw[UW];omega
  .by_cases hb:t.b=P
   .rw[if_neg ha,if_pos hb,if_neg ha,if_pos hb]
    show _=-1*x.1*(b / x.2)+0;rw[Int.neg_one_mul,UX];omega
   .rw[if_neg ha,if_neg hb,if_neg ha,if_neg hb];rfl
def Eu(g:am)(ρ:Ev)(d:D):av (ac):=(g ρ).bind λe=>match d,e with
 |.lst ds,.lst es=>.ok (c8 ds es)
 |_,_=>.stuck
def Jd:KL f g ρ=(f ρ).bind (Eu g ρ):=rfl
def Gs(h:g ρ=.ok (.lst es)):Eu g ρ (.lst ds)=.ok (c8 ds es):=by unfold Eu;rw[h];rfl
def CN{ts:List fK}{zs:List Int}{k:Nat}(h:(c8 (ts.map bf) (zs.map D.int))[k]?=some d):∃t z,ts[k]?=some t/\zs[k]?=some z/\d=.tup [bf t,.int z]:=by
 obtain⟨x,y,h1,h2,h3⟩:=rL _ _ _ _ h;rw[Q7]at h1 h2;cases e1:ts[k]? with
 |none=>rw[e1]at h1;cases h1
 |some t=>
  cases e2:zs[k]? with
  |none=>rw[e2]at h2;cases h2
  |some z=>
   rw[e1]at h1;rw[e2]at h2;cases h1;cases h2;exact⟨t,z,rfl,rfl,h3⟩
def goes_ok(hl:zs.length=w.ts.length):gF [aK w,.lst (zs.map D.int),.str P]=.ok (.int (ips P w.ts zs)):=by
 obtain⟨ρ',hf,x4,x5,rfl⟩:=gp (ds:=c8 (w.ts.map bf) (zs.map D.int)) (tg:=dy [4,5]) (ρ:=[.sh (aK w),.sh (.lst (zs.map D.int)),.sh (.str P),.sh (.int 0),.no,.no])
  (body:=(aq (cM (aa (aa (ae 4) (dC (.int 0)) aC) (ae 2) fJ)
 (aq (aJ 3 (aa (ae 3) (ae 5) bz))
 ak)
 ak)
 (aq (cM (aa (aa (ae 4) (dC (.int 1)) aC) (ae 2) fJ)
 (aq (aJ 3 (aa (ae 3) (ae 5) ik))
 ak)
 ak)
 ak)))
  (λk ρ=>∃x4 x5,ρ=[.sh (aK w),.sh (.lst (zs.map D.int)),.sh (.str P),.sh (.int (ips P (w.ts.take k) (zs.take k))),x4,x5]) (by
   rintro k d hd ρ ⟨x4,x5,rfl⟩;obtain⟨t,z,ht,hz,rfl⟩:=CN hd;have i0:aC (bf t) (.int 0)=.ok (.str t.a):=rfl;have i1:aC (bf t) (.int 1)=.ok (.str t.b):=rfl;refine⟨_,[.sh (aK w),.sh (.lst (zs.map D.int)),.sh (.str P),.sh (.int (ips P (w.ts.take (k+1)) (zs.take (k+1)))),.sh (bf t),.sh (.int z)],i7 rfl,?_,_,_,rfl⟩;rw[yG ht hz];unfold ip;show(aq _ _) [.sh (aK w),.sh (.lst (zs.map D.int)),.sh (.str P),.sh (.int (ips P (w.ts.take k) (zs.take k))),.sh (bf t),.sh (.int z)]=_
   by_cases ha:t.a=P
   .by_cases hb:t.b=P
    .rw[if_pos ha,if_pos hb,show ips P (w.ts.take k) (zs.take k)+(z-z)=ips P (w.ts.take k) (zs.take k)+z-z by omega]
     open_line with[i0,i1,eqs,decide_eq_true ha,decide_eq_true hb,ik]
    .rw[if_pos ha,if_neg hb,Int.sub_zero]
     open_line with[i0,i1,eqs,decide_eq_true ha,decide_eq_false hb,ik]
   .by_cases hb:t.b=P
    .rw[if_neg ha,if_pos hb,show ips P (w.ts.take k) (zs.take k)+(0-z)=ips P (w.ts.take k) (zs.take k)-z by omega]
     open_line with[i0,i1,eqs,decide_eq_false ha,decide_eq_true hb,ik]
    .rw[if_neg ha,if_neg hb,show ips P (w.ts.take k) (zs.take k)+(0-0)=ips P (w.ts.take k) (zs.take k) by omega]
     open_line with[i0,i1,eqs,decide_eq_false ha,decide_eq_false hb]) ⟨.no,.no,rfl⟩
 have hpl:(c8 (w.ts.map bf) (zs.map D.int)).length=w.ts.length:=by
  rw[rK,Q0,Q0];omega
 rw[hpl,T8,←hl,T8]at hf;rw[show aK w=.tup [.lst (w.ps.map D.str),.lst (w.ts.map bf),.str w.fi,.str w.la] from rfl]at hf ⊢;open_line with[gF,i8,nZ,Jd]
 rw[Gs (es:=zs.map D.int) rfl];open_line with[nY,hf]
def somes_some(xs:List cA):gA (xs.map some)=xs:=by unfold gA;rw[Vu];simp
end K36
namespace K34
open PySem L2 DL Com
def Pt:gO (.str x) (.str y)=.ok (.bl (!(decide (x=y)))):=by
 unfold gO;rw[if_pos ⟨rfl,rfl⟩,cw];rfl
abbrev ips:=K36.ips
def IQ{n k:Nat}(h:k<n):yD n (k:Int)=some k:=by
 unfold yD;rw[if_pos (by omega),if_pos (by omega),Sw]
def Bd(d:D):Prop:=∀a b,d=.tup [.int a,.int b]->a.natAbs<kz/\b.natAbs<kz
def oP(h:fv d=true):∃x:cA,d=fr x/\Low x:=by
 unfold fv at h;split at h
 .rename_i p q
  rw[Rn]at h;exact⟨(p,q),rfl,⟨of_decide_eq_true h.1,eq_of_beq h.2⟩⟩
 .cases h
def Bd.fin(h:Bd (fr x))(l:Low x):aU x:=⟨l,(h x.1 x.2 rfl).1,(h x.1 x.2 rfl).2⟩
def Lv(hb:0<b):((c9 a b).1==a&&(c9 a b).2==b)=(RD a b==1):=by
 cases h:(RD a b==1) with
 |true=>
  have e:=eq_of_beq h;unfold c9;rw[e];simp
 |false=>
  have hne:RD a b≠1:=λz=>by rw[z]at h;cases h
  have h2:((c9 a b).2==b)=false:=beq_eq_false_iff_ne.mpr λz=>by
   have hl:=fq (a:=a) hb;have hr:=lH (a:=a) (b:=b);rw[z]at hr;have h1:(c9 a b).1=a:=SU (by omega) hr;have:=hl.g1;rw[h1,z]at this;exact hne this
  rw[h2,T6]
def mJ:cG [d]=.ok (.bl (G7 d)):=D9 d
def AF(hB:Bd d):aX [d]=.ok (.bl (fv d)):=by
 cases d with
 |tup xs=>
  rcases Ef (xs:=xs) with⟨x,y,rfl⟩|h
  .rw[rB]
   cases hx:G7 x with
   |false=>open_line with[aX,cn,mJ,hx,Sa]
   |true=>
    cases hy:G7 y with
    |false=>open_line with[aX,cn,mJ,hx,hy,Sa,Sr]
    |true=>
     have ex:∃a,x=.int a:=by cases x<;>first|exact⟨_,rfl⟩|cases hx
     have ey:∃a,y=.int a:=by cases y<;>first|exact⟨_,rfl⟩|cases hy
     obtain⟨a,rfl⟩:=ex;obtain⟨b,rfl⟩:=ey;obtain⟨ha,hb⟩:=hB a b rfl;show _=av.ok (D.bl (true&&(true&&(decide (1<=b)&&(RD a b==1)))))
     by_cases c:0<b
     .have hlo:=Cod.low_ok c (Q4 ha xB) (Q4 hb xB)
      have heq:fJ (fr (c9 a b)) (.tup [.int a,.int b])=.ok (.bl (RD a b==1)):=by
       have:fJ (fr (c9 a b)) (fr (a,b))=.ok (.bl (cw (fr (c9 a b)) (fr (a,b)))):=if_pos ⟨wG _,wG _⟩;rw[eq_fr,Lv c]at this;exact this
      have hgt:zK (.int b) (.int 0)=.ok (.bl true):=by
       show av.ok (D.bl (decide (b > 0)))=_;rw[decide_eq_true c]
      rw[decide_eq_true (show 1<=b by omega)];generalize fr (c9 a b)=L at *;open_line with[aX,cn,mJ,hx,hy,hgt,hlo,heq,Sr]
     .have hgt:zK (.int b) (.int 0)=.ok (.bl false):=by
       show av.ok (D.bl (decide (b > 0)))=_;rw[decide_eq_false c]
      rw[decide_eq_false (show ¬1<=b by omega)];open_line with[aX,cn,mJ,hx,hy,hgt,Sr,Sa]
  .rw[yc h]
   have e:gO (.int (xs.length:Int)) (.int 2)=.ok (.bl true):=by
    rw[jU,beq_eq_false_iff_ne.mpr (by omega)];rfl
   open_line with[aX,cn,e]
 |ob k ds=>cases k<;>rfl
 |_=>rfl
def kh(t:fK)(r:cA)(inK:Bool):D->Bool
 |.tup [.int a,.int b]=>(decide (1<=b)&&(RD a b==1))&&((if inK=true then a==0 else !(flt r ((a.natAbs:Int),b)))&&!(decide (a<0)&&decide (t.w="one")))
 |_=>false
def xi(h:fv d=false):kh t r i d=false:=by
 unfold kh;split
 .rename_i a b
  have h':(decide (1<=b)&&(RD a b==1))=false:=h;rw[h'];rfl
 .rfl
def AO(h:kh t r i d=true):fv d=true:=by
 cases e:fv d with|true=>rfl|false=>rw[xi e]at h;cases h
def good_low(h:Low x):kh t r i (fr x)=((if i=true then x.1==0 else !(flt r ((x.1.natAbs:Int),x.2)))&&!(decide (x.1<0)&&decide (t.w="one"))):=by
 show((decide (1<=x.2)&&(RD x.1 x.2==1))&&_)=_;rw[decide_eq_true h.q1,h.g1];rfl
def BM(hx:aU x)(hy:y.1.natAbs<kz/\y.2.natAbs<kz):m_is_less [fr x,fr y]=.ok (.bl (flt x y)) :=
 yF (Q4 hx.pN cC) (Q4 hx.qN cC) (Q4 hy.1 cC) (Q4 hy.2 cC)
def DH(hr:aU r)(hB:Bd d):fE [bf t,(if i=true then .tup [.int 0,.int 1] else fr r),d]=.ok (.bl (kh t r i d)):=by
 have h1:=m6 d;cases e:fv d with
 |false=>
  rw[e]at h1;rw[xi e];generalize (if i=true then D.tup [.int 0,.int 1] else fr r)=R;open_line with[fE,gN,h1]
 |true=>
  rw[e]at h1;obtain⟨x,rfl,hL⟩:=oP e;have hx:=hB.fin hL;rw[good_low hL];have i0:aC (fr x) (.int 0)=.ok (.int x.1):=rfl;have i1:aC (fr x) (.int 1)=.ok (.int x.2):=rfl;have i2:aC (bf t) (.int 2)=.ok (.str t.w):=rfl;have hlt:zk (.int x.1) (.int 0)=.ok (.bl (decide (x.1<0))):=rfl;have hab:(x.1.natAbs:Int).natAbs<kz:=by rw[Int.natAbs_natCast];exact hx.pN
  have hls:m_is_less [(if i=true then .tup [.int 0,.int 1] else fr r),.tup [.int (x.1.natAbs:Int),.int x.2]]=.ok (.bl (!(if i=true then x.1==0 else !(flt r ((x.1.natAbs:Int),x.2))))):=by
   cases i with
   |true=>
    have:=BM (x:=(0,1)) (y:=((x.1.natAbs:Int),x.2)) ⟨⟨by decide,by decide⟩,by decide,by decide⟩ ⟨hab,hx.qN⟩;rw[if_pos rfl,if_pos rfl];refine this.trans ?_
    congr 2
    show decide ((0:Int)*x.2<(x.1.natAbs:Int)*1)=_;cases c:(x.1==0) with
    |true=>have:=eq_of_beq c;exact decide_eq_false (by omega)
    |false=>have:x.1≠0:=(λz=>by rw[z]at c;cases c);exact decide_eq_true (by omega)
   |false=>
    have:=BM (x:=r) (y:=((x.1.natAbs:Int),x.2)) hr ⟨hab,hx.qN⟩;rw[if_neg RM,if_neg RM,WB];exact this
  generalize (if i=true then x.1==0 else !(flt r ((x.1.natAbs:Int),x.2)))=g at *;generalize (if i=true then D.tup [.int 0,.int 1] else fr r)=R at *;generalize fr x=X at *;generalize bf t=TD at *;cases c1:decide (x.1<0) with
  |false=>
   rw[c1]at hlt;open_line with[fE,gN,h1,i0,i1,i2,hlt,Cod.abs_ok,hls,WB,Sa,Vq]
  |true=>
   rw[c1]at hlt;cases c2:decide (t.w="one") with
   |true=>
    open_line with[fE,gN,h1,i0,i1,i2,hlt,K36.eqs,c2,T6]
   |false=>
    open_line with[fE,gN,h1,i0,i1,i2,hlt,K36.eqs,c2,Cod.abs_ok,hls,WB,Vq,Sr,T6]
def LI(r:av Fl):Bool:=match r with
 |.ok (.rt _)=>true
 |.exn _=>true
 |_=>false
def m8{tg:Ev->D->av Ev}{body:bi}{out:av Fl}(ho:LI out=true)(P:Nat->Ev->Prop):∀(k:Nat) (ds:ac) (ρ:Ev) (b:Nat),P b ρ ->
  (∀j d,j<k->ds[j]?=some d->∀ρ,P (b+j) ρ->∃ρ1 ρ2,tg ρ d=.ok ρ1/\body ρ1=.ok (.nx ρ2)/\P (b+j+1) ρ2)->(∃d,ds[k]?=some d/\∀ρ,P (b+k) ρ->∃ρ1,tg ρ d=.ok ρ1/\body ρ1=out)->cm tg body ds ρ=out:=by
 intro k
 induction k with
 |zero=>
  rintro ds ρ b hp hs ⟨d,hd,hk⟩;cases ds with
  |nil=>cases hd
  |cons d' r=>
   cases hd;obtain⟨ρ1,h1,h2⟩:=hk ρ hp
   conv=>lhs;unfold cm
   rw[h1];show(body ρ1).bind _=out;rw[h2];cases out with
   |ok f=>cases f<;>first|rfl|cases ho
   |exn x=>rfl|stuck=>cases ho
 |succ k ih=>
  rintro ds ρ b hp hs ⟨d,hd,hk⟩;cases ds with
  |nil=>cases hd
  |cons d' r=>
   obtain⟨ρ1,ρ2,h1,h2,h3⟩:=hs 0 d' (by omega) rfl ρ hp
   conv=>lhs;unfold cm
   rw[h1];show(body ρ1).bind _=out;rw[h2];refine ih r ρ2 (b+1) h3 (λj e hj he ρ hp=>?_) ⟨d,hd,λρ hp=>hk ρ (by rw[show b+(k+1)=b+1+k by omega];exact hp)⟩;have:=hs (j+1) e (by omega) he ρ (by rw[show b+(j+1)=b+1+j by omega];exact hp);rw[show b+(j+1)+1=b+1+j+1 by omega]at this;exact this
theorem oZ(g:Nat->Bool):∀n,(∀k,k<n->g k=true)∨∃k,k<n/\g k=false/\∀j,j<k->g j=true
 |0=>.inl λk h=>absurd h (by omega)
 |n+1=>by
  rcases oZ g n with h|⟨k,h1,h2,h3⟩
  .cases e:g n with
   |true=>
    refine .inl λk hk=>?_
    by_cases c:k=n
    .subst c;exact e
    .exact h k (by omega)
   |false=>exact .inr ⟨n,by omega,e,h⟩
  .exact .inr ⟨k,by omega,h2,h3⟩
def D0(w:jr)(rs:List cA)(ks:ce)(ds:ac)(k:Nat):Bool:=match w.ts[k]?,rs[k]?,ds[k]? with
 |some t,some r,some d=>kh t r (decide (k∈ks)) d
 |_,_,_=>false
structure Su (w:jr) (rs:List cA) (ks:ce):Prop where
 W:dU w
 T:kn w ks
 rl:rs.length=w.ts.length
 rf:∀r∈rs,aU r/\0<=r.1
def BO{k:Nat}:pS (.int (k:Int)) (aS ks)=.ok (.bl (decide (k∈ks))):=by
 have h:=K35.notin_nums (k:=k) (ks:=ks);unfold bL at h;unfold pS;cases e:xH (.int (k:Int)) (aS ks) with
 |none=>rw[e]at h;cases h
 |some b=>
  rw[e]at h;simp only[av.ok.injEq,D.bl.injEq]at h ⊢;cases b<;>cases hd:decide (k∈ks)<;>first|rfl|(rw[hd]at h;cases h)
section
variable {w:jr}{rs:List cA}{ks:ce}{ds:ac}
def Oq(S:Su w rs ks)(hl:ds.length=w.ts.length){k:Nat}(hk:k<w.ts.length):∃t r d,w.ts[k]?=some t/\rs[k]?=some r/\ds[k]?=some d/\D0 w rs ks ds k=kh t r (decide (k∈ks)) d:=by
 have h1:w.ts[k]?=some w.ts[k]:=QW hk;have h2:rs[k]?=some (rs[k]'(by rw[S.rl];exact hk)):=QW _;have h3:ds[k]?=some (ds[k]'(by omega)):=QW _;refine⟨_,_,_,h1,h2,h3,?_⟩;unfold D0;rw[h1,h2,h3]
abbrev GY(w:jr)(rs:List cA)(ks:ce)(ds:ac)(x4 x5 x6:Sl):Ev:=[.sh (aK w),.sh (.lst (rs.map fr)),.sh (aS ks),.sh (.lst ds),x4,x5,x6]
def Kl(S:Su w rs ks){k:Nat}(h1:w.ts[k]?=some t)(h2:rs[k]?=some r)(h3:ds[k]?=some d)(hB:Bd d) :
  ∃y6,wq (GY w rs ks ds (.sh (.int (k:Int))) (.sh d) x6)=(if kh t r (decide (k∈ks)) d=true then .ok (.nx (GY w rs ks ds (.sh (.int (k:Int))) (.sh d) y6)) else .exn ⟨"NoFlow",[("at",.int (k:Int))]⟩):=by
 have hr:=(S.rf r (Rb h2)).1;have ham:=DH (t:=t) (i:=decide (k∈ks)) hr hB;have hin:=BO (k:=k) (ks:=ks);have i1:aC (aK w) (.int 1)=.ok (.lst (w.ts.map bf)):=rfl;have it:aC (.lst (w.ts.map bf)) (.int (k:Int))=.ok (bf t):=Ej h1;have ir:aC (.lst (rs.map fr)) (.int (k:Int))=.ok (fr r):=eY (by rw[Q7,h2];rfl);refine⟨.sh (if decide (k∈ks)=true then .tup [.int 0,.int 1] else fr r),?_⟩;unfold wq GY;cases c:decide (k∈ks) with
 |true=>
  rw[c]at ham hin;rw[if_pos rfl]at ham ⊢;cases g:kh t r true d with
  |true=>
   rw[g]at ham;open_line with[hin,i1,it,ham,if_true]
  |false=>
   rw[g]at ham;rw[if_neg RM];open_line with[hin,i1,it,ham,o5,mB,kR]
 |false=>
  rw[c]at ham hin;rw[if_neg RM]at ham ⊢;cases g:kh t r false d with
  |true=>
   rw[g]at ham;open_line with[hin,i1,it,ir,ham,if_true]
  |false=>
   rw[g]at ham;rw[if_neg RM];open_line with[hin,i1,it,ir,ham,o5,mB,kR]
def Ls{k:Nat}(h:(numbered 0 ds)[k]?=some d):∃e,ds[k]?=some e/\d=.tup [.int (k:Int),e]:=by
 rw[cq]at h;cases e:ds[k]? with
 |none=>rw[e]at h;cases h
 |some x=>
  rw[e,Sn]at h;cases h;exact⟨x,rfl,rfl⟩
def amts_ok(S:Su w rs ks)(hl:ds.length=w.ts.length)(hB:∀d∈ds,Bd d) :
  ((∀k,k<w.ts.length->D0 w rs ks ds k=true)->bY [aK w,.lst (rs.map fr),aS ks,.lst ds]=.ok .non)/\(∀k,k<w.ts.length->D0 w rs ks ds k=false->(∀j,j<k->D0 w rs ks ds j=true)->bY [aK w,.lst (rs.map fr),aS ks,.lst ds]=.exn ⟨"NoFlow",[("at",.int (k:Int))]⟩):=by
 have h14:=S.W.t14;have step:∀(j:Nat) (d:D),(numbered 0 ds)[j]?=some d->D0 w rs ks ds j=true->∀ρ,(∃x4 x5 x6,ρ=GY w rs ks ds x4 x5 x6)->∃ρ1 ρ2,dy [4,5] ρ d=.ok ρ1/\wq ρ1=.ok (.nx ρ2)/\∃x4 x5 x6,ρ2=GY w rs ks ds x4 x5 x6:=by
  rintro j d hd hg ρ ⟨x4,x5,x6,rfl⟩;obtain⟨e,he,rfl⟩:=Ls hd;have hj:j<ds.length:=(Q5.mp he).1;obtain⟨t,r,d',a1,a2,a3,a4⟩:=Oq S hl (k:=j) (by omega);rw[he]at a3;cases a3;obtain⟨y6,ht⟩:=Kl S (x6:=x6) a1 a2 he (hB e (Rb he));rw[←a4,hg,if_pos rfl]at ht;exact⟨_,_,i7 rfl,ht,_,_,_,rfl⟩
 have hlen:(((ds.length:Int)==((w.ts.length:Nat):Int)))=true:=by rw[hl];exact beq_self_eq_true _
 have i1:aC (aK w) (.int 1)=.ok (.lst (w.ts.map bf)):=rfl;refine⟨λhall=>?_,λk hk hbad hgood=>?_⟩
 .obtain⟨ρ',hf,x4,x5,x6,rfl⟩:=gp (ds:=numbered 0 ds) (tg:=dy [4,5]) (body:=wq) (ρ:=GY w rs ks ds .no .no .no) (λ_ ρ=>∃x4 x5 x6,ρ=GY w rs ks ds x4 x5 x6) (λj d hd ρ hp=>by
   have hj:j<ds.length:=by have:=(Q5.mp hd).1;rw[cF]at this;exact this
   exact step j d hd (hall j (by omega)) ρ hp) ⟨_,_,_,rfl⟩
  unfold GY at hf;open_line with[bY,fW,i1,Q0,hlen,hf]
 .have hf:=m8 (tg:=dy [4,5]) (body:=wq) (out:=.exn ⟨"NoFlow",[("at",.int (k:Int))]⟩) rfl (λ_ ρ=>∃x4 x5 x6,ρ=GY w rs ks ds x4 x5 x6) k (numbered 0 ds) (GY w rs ks ds .no .no .no) 0 ⟨_,_,_,rfl⟩ (λj d hj hd ρ hp=>step j d hd (hgood j hj) ρ hp) (by
   obtain⟨t,r,d,a1,a2,a3,a4⟩:=Oq S hl hk;refine⟨.tup [.int (k:Int),d],by rw[cq,a3,Sn];rfl,?_⟩;rintro ρ ⟨x4,x5,x6,rfl⟩;obtain⟨y6,ht⟩:=Kl S (x6:=x6) a1 a2 a3 (hB d (Rb a3));rw[←a4,hbad,if_neg RM]at ht;exact⟨_,i7 rfl,ht⟩)
  unfold GY at hf;open_line with[bY,fW,i1,Q0,hlen,hf,kR]
abbrev mw(w:jr)(rs:List cA)(ks:ce)(ds:ac)(x4 x5 x6 x7:Sl):Ev:=[.sh (aK w),.sh (.lst (rs.map fr)),.sh (aS ks),.sh (.lst ds),x4,x5,x6,x7]
def J7(hx:aU x)(hy:y.1.natAbs<kz/\y.2.natAbs<kz):cJ [fr x,fr y]=.ok (.bl (flt x y)):=by
 have l60:∀{a:Int},a.natAbs<kz->a.natAbs<qf:=λh=>Q4 h cC;rw[show fr x=.tup [.int x.1,.int x.2] from rfl,show fr y=.tup [.int y.1,.int y.2] from rfl];open_line with[cJ,jb,cS (dY (l60 hx.pN) (l60 hy.2)),cS (dY (l60 hy.1) (l60 hx.qN))]
 rfl
def Gp(hr:1<=r.2)(r0:0<=r.1)(hx:1<=x.2):(flt r x||flt r (-x.1,x.2))=flt r ((x.1.natAbs:Int),x.2):=by
 have h0:0<=r.1*x.2:=SE r0 (by omega);unfold flt
 by_cases c:0<=x.1
 .have e:(x.1.natAbs:Int)=x.1:=by omega
  have h1:0<=x.1*r.2:=SE c (by omega);have e2:decide (r.1*x.2 < -x.1*r.2)=false:=decide_eq_false (by rw[UX];omega);show(decide (r.1*x.2<x.1*r.2)||decide (r.1*x.2 < -x.1*r.2))=decide (r.1*x.2<(x.1.natAbs:Int)*r.2);rw[e2,Vp,e]
 .have e:(x.1.natAbs:Int)=-x.1:=by omega
  have h1:x.1*r.2<=0:=Int.mul_nonpos_of_nonpos_of_nonneg (by omega) (by omega);have e2:decide (r.1*x.2<x.1*r.2)=false:=decide_eq_false (by omega);show(decide (r.1*x.2<x.1*r.2)||decide (r.1*x.2 < -x.1*r.2))=decide (r.1*x.2<(x.1.natAbs:Int)*r.2);rw[e2,Ug,e]
def J8(S:Su w rs ks){k:Nat}(h1:w.ts[k]?=some t)(h2:rs[k]?=some r)(h3:ds[k]?=some d)(hB:Bd d) :
  (aq NY (aq ON (aq OM ak))) (mw w rs ks ds (.sh (.int (k:Int))) (.sh (bf t)) x6 x7)=(if kh t r (decide (k∈ks)) d=true then .ok (.nx (mw w rs ks ds (.sh (.int (k:Int))) (.sh (bf t)) x6 x7)) else .ok (.rt (.tup [.str "flow",.int (k:Int)]))):=by
 obtain⟨hr,r0⟩:=S.rf r (Rb h2);have hfr:=AF hB;have hin:=BO (k:=k) (ks:=ks);have id_:aC (.lst ds) (.int (k:Int))=.ok d:=eY h3;have ir:aC (.lst (rs.map fr)) (.int (k:Int))=.ok (fr r):=eY (by rw[Q7,h2];rfl);have i2:aC (bf t) (.int 2)=.ok (.str t.w):=rfl;have htup:c5 [.str "flow",.int (k:Int)]=.ok (.tup [.str "flow",.int (k:Int)]):=rfl;cases e:fv d with
 |false=>
  rw[e]at hfr;rw[xi e,if_neg RM];unfold NY mw;open_line with[id_,hfr,htup]
 |true=>
  rw[e]at hfr;obtain⟨x,rfl,hL⟩:=oP e;have hx:=hB.fin hL;rw[good_low hL,←Gp hr.q1 r0 hL.q1];have i0:aC (fr x) (.int 0)=.ok (.int x.1):=rfl;have i1:aC (fr x) (.int 1)=.ok (.int x.2):=rfl;have hl1:=J7 (x:=r) (y:=x) hr ⟨hx.pN,hx.qN⟩;have hl2:=J7 (x:=r) (y:=(-x.1,x.2)) hr ⟨by rw[Int.natAbs_neg];exact hx.pN,hx.qN⟩;rw[show fr (-x.1,x.2)=.tup [.int (-x.1),.int x.2] from rfl]at hl2;have hz1:(x.1==0)=true->flt r x=false:=λh=>by
   have:=eq_of_beq h;unfold flt;rw[this];exact decide_eq_false (by have:=SE r0 (show 0<=x.2 by have:=hL.q1;omega);omega)
  have hz2:(x.1==0)=true->flt r (-x.1,x.2)=false:=λh=>by
   have:=eq_of_beq h;unfold flt;rw[this];exact decide_eq_false (by have:=SE r0 (show 0<=x.2 by have:=hL.q1;omega);show ¬(r.1*x.2 < -0*r.2);omega)
  have hlt:zk (.int x.1) (.int 0)=.ok (.bl (decide (x.1<0))):=rfl;generalize flt r (-x.1,x.2)=f2 at *;generalize flt r x=f1 at *;generalize hX:fr x=X at *;generalize fr r=R at *;generalize hTD:bf t=TD at *;have s1:NY (mw w rs ks ds (.sh (.int (k:Int))) (.sh TD) x6 x7)=(if(decide (k∈ks)&&!(x.1==0))=true then .ok (.rt (.tup [.str "flow",.int (k:Int)])) else .ok (.nx (mw w rs ks ds (.sh (.int (k:Int))) (.sh TD) x6 x7))):=by
   unfold NY mw;cases c:decide (k∈ks) with
   |false=>rw[c]at hin;open_line with[id_,hfr,hin,Sa,S5,if_false]
   |true=>
    rw[c]at hin;cases c2:(x.1==0) with
    |true=>open_line with[id_,hfr,hin,i0,c2,Sr,S5,if_false]
    |false=>open_line with[id_,hfr,hin,i0,c2,Sr,htup,if_true]
  have s2:ON (mw w rs ks ds (.sh (.int (k:Int))) (.sh TD) x6 x7)=(if(f1||f2)=true then .ok (.rt (.tup [.str "flow",.int (k:Int)])) else .ok (.nx (mw w rs ks ds (.sh (.int (k:Int))) (.sh TD) x6 x7))):=by
   unfold ON mw;cases f1 with
   |true=>open_line with[ir,id_,hl1,htup,WA,if_true]
   |false=>
    cases f2 with
    |true=>open_line with[ir,id_,hl1,i0,i1,hl2,htup,Ug,if_true]
    |false=>open_line with[ir,id_,hl1,i0,i1,hl2,Ug,S5,if_false]
  have s3:OM (mw w rs ks ds (.sh (.int (k:Int))) (.sh TD) x6 x7)=(if(decide (x.1<0)&&decide (t.w="one"))=true then .ok (.rt (.tup [.str "flow",.int (k:Int)])) else .ok (.nx (mw w rs ks ds (.sh (.int (k:Int))) (.sh TD) x6 x7))):=by
   unfold OM mw;cases c1:decide (t.w="one") with
   |false=>open_line with[i2,K36.eqs,c1,T6,S5,if_false]
   |true=>
    cases c2:decide (x.1<0) with
    |true=>open_line with[i2,K36.eqs,c1,id_,i0,hlt,c2,htup,UD,if_true]
    |false=>open_line with[i2,K36.eqs,c1,id_,i0,hlt,c2,Sa,S5,if_false]
  rw[gR,s1];cases cK:decide (k∈ks) with
  |true=>
   cases cz:(x.1==0) with
   |false=>rfl
   |true=>
    have hf1:=hz1 cz;have hf2:=hz2 cz;subst hf1 hf2;have hn:decide (x.1<0)=false:=decide_eq_false (by have:=eq_of_beq cz;omega);rw[if_neg (by decide),ki,gq,gR,s2,if_neg (by decide),ki,gq,gR,s3,hn,if_neg (by rw[Sa];decide),ki,gq,lL];rfl
  |false=>
   rw[if_neg (by simp),ki,gq,gR,s2];cases cf:(f1||f2) with
   |true=>rfl
   |false=>
    rw[if_neg (by decide),ki,gq,gR,s3];cases cl:(decide (x.1<0)&&decide (t.w="one")) with|true|false=>rfl
end
def uS(xs:List cA):List Int:=xs.map λx=>x.1*(eL xs / x.2)
def CH(hl:xs.length<=60)(hx:∀x∈xs,aU x):m_on_one_scale [.lst (xs.map fr)]=.ok (.tup [.lst ((uS xs).map D.int),.int (eL xs)]):=by
 have hsc:=xZ (os:=xs.map some) (by rw[Q0];omega) (λx h=>by
  obtain⟨y,hy,e⟩:=Rl.mp h;cases e;exact hx x hy)
 have e1:(xs.map some).map cN=xs.map fr:=by rw[RV];rfl
 rw[K36.somes_some,e1]at hsc;have e2:(xs.map some).map (wI (eL xs))=(xs.map λx=>x.1*(eL xs / x.2)).map D.int:=by rw[RV,RV];rfl
 rw[e2]at hsc;exact hsc
def Fx{P:Ro}{b:Int}:∀(ts:List fK) (xs':List cA),(∀x∈xs',x.2∣b)->∀x∈K36.parts P ts xs',x.2∣b:=by
 intro ts
 induction ts with
 |nil=>intro xs' _ x hx';simp[K36.parts]at hx'
 |cons t ts ih=>
  intro xs' h x hx';cases xs' with
  |nil=>simp[K36.parts]at hx'
  |cons y ys=>
   unfold K36.parts at hx';rw[Rv]at hx';rcases hx' with hx'|hx'
   .have:x.2=y.2:=by
     unfold K36.part at hx';rw[Rv]at hx';rcases hx' with h'|h'
     .split at h'
      .have:x=K36.sg 1 y:=by simpa using h'
       rw[this];rfl
      .cases h'
     .split at h'
      .have:x=K36.sg (-1) y:=by simpa using h'
       rw[this];rfl
      .cases h'
    rw[this];exact h y Q3
   .exact ih ys (λz hz=>h z (QX _ hz)) x hx'
def bot_pos(hx:∀x∈xs,aU x):0<eL xs/\∀x∈xs,x.2∣eL xs:=by
 obtain⟨B,_,hdv⟩:=A1 hx 1 0 ⟨by decide,by decide⟩;exact⟨B.pos,hdv⟩
def Ep(h14:ts.length<=14)(hx:∀x∈xs,aU x):∃b s2,0<b/\0<s2/\(K36.sumF (K36.parts P ts xs)).1*b=ips P ts (uS xs)*s2:=by
 obtain⟨hb,hdv⟩:=bot_pos hx;have hpl:(K36.parts P ts xs).length<=28:=Ra K36.parts_len (by omega);have hpf:=K36.parts_fin (p:=P) (ts:=ts) hx;have A:=jO (xs:=K36.parts P ts xs) (by omega) hpf;obtain⟨_,hSL⟩:=K36.sum_acc (xs:=K36.parts P ts xs) (by omega) hpf;have hts:=oH (b:=eL xs) (K36.parts P ts xs) (0,1) 0 (Fx ts xs hdv) (by show(0:Int)*_=0*1;omega);rw[Wu,←K36.ips_parts]at hts;change (mN (K36.parts P ts xs)).1*eL xs=ips P ts (uS xs)*(mN (K36.parts P ts xs)).2 at hts;have hr:=lH (a:=(mN (K36.parts P ts xs)).1) (b:=(mN (K36.parts P ts xs)).2);change (K36.sumF (K36.parts P ts xs)).1*_=_*(K36.sumF (K36.parts P ts xs)).2 at hr;have Ap:=A.pos;have q1:=hSL.q1;refine⟨eL xs,(K36.sumF (K36.parts P ts xs)).2,hb,by omega,?_⟩;generalize K36.sumF (K36.parts P ts xs)=S at *;generalize mN (K36.parts P ts xs)=T at *;generalize eL xs=b at *;generalize ips P ts (uS xs)=Z at *;refine SU (show T.2≠0 by omega) ?_;have e1:S.1*b*T.2=S.1*T.2*b:=by grind
 have e2:T.1*S.2*b=T.1*b*S.2:=by grind
 rw[e1,hr,e2,hts]
 grind
def HD{s z b c:Int}(hb:0<b)(hc:0<c)(h:s*b=z*c):decide (s<0)=decide (z<0):=by
 by_cases c1:s<0
 .have:s*b<0:=V9 c1 hb
  have c2:z<0:=by
   rcases Int.lt_or_le z 0 with h2|h2
   .exact h2
   .have:=SE h2 (show 0<=c by omega);omega
  rw[decide_eq_true c1,decide_eq_true c2]
 .have:0<=s*b:=SE (by omega) (by omega)
  have c2:¬z<0:=λh2=>by
   have:=V9 h2 hc;omega
  rw[decide_eq_false c1,decide_eq_false c2]
def HE{s z b c:Int}(hb:0<b)(hc:0<c)(h:s*b=z*c):(s==0)=(z==0):=by
 cases e:(s==0) with
 |true=>
  have:=eq_of_beq e;rw[this,Va]at h;have:z=0:=by
   rcases Vb.mp h.symm with h|h
   .exact h
   .omega
  rw[this];rfl
 |false=>
  have hs:s≠0:=λz=>by rw[z]at e;cases e
  symm;refine beq_eq_false_iff_ne.mpr λz0=>?_;rw[z0,Va]at h;rcases Vb.mp h with h|h
  .exact hs h
  .omega
def sN(w:jr)(Z:Int)(p:Ro):Bool:=if p=w.la then true else if p=w.fi then !(decide (Z<0)) else(Z==0)
section
variable {w:jr}{xs:List cA}
def zw(hl:xs.length=w.ts.length):gk [aK w,.lst ((uS xs).map D.int),.str p]=.ok (.bl (if p=w.fi then !(decide (ips p w.ts (uS xs)<0)) else(ips p w.ts (uS xs)==0))):=by
 have hg:=K36.goes_ok (w:=w) (P:=p) (zs:=uS xs) (by unfold uS;rw[Q0];exact hl);have i2:aC (aK w) (.int 2)=.ok (.str w.fi):=rfl;have hge:∀z:Int,Mm (.int z) (.int 0)=.ok (.bl (!(decide (z<0)))):=λz=>by
  show av.ok (D.bl (decide (0<=z)))=_
  congr 2
  by_cases c:z<0
  .rw[decide_eq_true c,decide_eq_false (by omega)];rfl
  .rw[decide_eq_false c,decide_eq_true (by omega)];rfl
 change gF [aK w,.lst ((uS xs).map D.int),.str p]=.ok (.int (ips p w.ts (uS xs))) at hg;generalize ips p w.ts (uS xs)=Z at *
 by_cases c:p=w.fi
 .rw[if_pos c]
  open_line with[gk,jq,hg,i2,K36.eqs,decide_eq_true c,hge]
 .rw[if_neg c]
  open_line with[gk,jq,hg,i2,K36.eqs,decide_eq_false c]
abbrev GV(w:jr)(xs:List cA)(x3:Sl):Ev:=[.sh (aK w),.sh (.lst (xs.map fr)),.sh (.lst ((uS xs).map D.int)),x3]
def Kk(hl:xs.length=w.ts.length):wb (GV w xs (.sh (.str p)))=(if sN w (ips p w.ts (uS xs)) p=true then .ok (.nx (GV w xs (.sh (.str p)))) else .exn ⟨"Unbalanced",[("place",.str p)]⟩):=by
 have hb:=zw (w:=w) hl (p:=p);have i3:aC (aK w) (.int 3)=.ok (.str w.la):=rfl;unfold wb GV sN;generalize ips p w.ts (uS xs)=Z at *
 by_cases c:p=w.la
 .rw[if_pos c,if_pos rfl]
  open_line with[i3,Pt,decide_eq_true c]
 .rw[if_neg c]
  cases g:(if p=w.fi then !(decide (Z<0)) else(Z==0)) with
  |true=>
   rw[g]at hb;rw[if_pos rfl];open_line with[i3,Pt,decide_eq_false c,hb]
  |false=>
   rw[g]at hb;rw[if_neg RM];open_line with[i3,Pt,decide_eq_false c,hb,o5,mB,kR]
def Et{zs:bv}{k:Nat}(h:(zs.map D.str)[k]?=some d):∃z,zs[k]?=some z/\d=.str z:=by
 rw[Q7]at h;cases e:zs[k]? with|none=>rw[e]at h;cases h|some z=>rw[e]at h;cases h;exact⟨z,rfl,rfl⟩
def CO(w:jr)(xs:List cA)(k:Nat):Bool:=match w.ps[k]? with
 |some p=>sN w (ips p w.ts (uS xs)) p
 |none=>false
def bal_ok(W:dU w)(hl:xs.length=w.ts.length)(hx:∀x∈xs,aU x) :
  ((∀k,k<w.ps.length->CO w xs k=true)->bW [aK w,.lst (xs.map fr)]=.ok .non)/\(∀k p,w.ps[k]?=some p->CO w xs k=false->(∀j,j<k->CO w xs j=true)->bW [aK w,.lst (xs.map fr)]=.exn ⟨"Unbalanced",[("place",.str p)]⟩):=by
 have h14:=W.t14;have hsc:=CH (xs:=xs) (by omega) hx;have i0:aC (aK w) (.int 0)=.ok (.lst (w.ps.map D.str)):=rfl;have step:∀(j:Nat) (d:D),(w.ps.map D.str)[j]?=some d->CO w xs j=true->∀ρ,(∃x3,ρ=GV w xs x3)->∃ρ1 ρ2,bF 3 ρ d=.ok ρ1/\wb ρ1=.ok (.nx ρ2)/\∃x3,ρ2=GV w xs x3:=by
  rintro j d hd hg ρ ⟨x3,rfl⟩;obtain⟨p,hp,rfl⟩:=Et hd;have ht:=Kk (w:=w) hl (p:=p);unfold CO at hg;rw[hp]at hg;simp only at hg;rw[hg,if_pos rfl]at ht;exact⟨_,_,rfl,ht,_,rfl⟩
 refine⟨λhall=>?_,λk p hk hbad hgood=>?_⟩
 .obtain⟨ρ',hf,x3,rfl⟩:=gp (ds:=w.ps.map D.str) (tg:=bF 3) (body:=wb) (ρ:=GV w xs .no) (λ_ ρ=>∃x3,ρ=GV w xs x3) (λj d hd ρ hp=>by
   have hj:j<w.ps.length:=by have:=(Q5.mp hd).1;rw[Q0]at this;exact this
   exact step j d hd (hall j hj) ρ hp) ⟨_,rfl⟩
  unfold GV at hf;open_line with[bW,fV,hsc,i0,hf]
 .have hf:=m8 (tg:=bF 3) (body:=wb) (out:=.exn ⟨"Unbalanced",[("place",.str p)]⟩) rfl (λ_ ρ=>∃x3,ρ=GV w xs x3) k (w.ps.map D.str) (GV w xs .no) 0 ⟨_,rfl⟩ (λj d hj hd ρ hp=>step j d hd (hgood j hj) ρ hp) (by
   refine⟨.str p,by rw[Q7,hk];rfl,?_⟩;rintro ρ ⟨x3,rfl⟩;have ht:=Kk (w:=w) hl (p:=p);unfold CO at hbad;rw[hk]at hbad;simp only at hbad;rw[hbad,if_neg RM]at ht;exact⟨_,rfl,ht⟩)
  unfold GV at hf;open_line with[bW,fV,hsc,i0,hf,kR]
def iA:bL (.str p) (.tup [.str a,.str b])=.ok (.bl (!(decide (p=a)||decide (p=b)))):=by
 have e:xH (.str p) (.tup [.str a,.str b])=some ([D.str a,.str b].any λd=>cw d (.str p)):=by
  unfold xH;exact if_pos ⟨rfl,rfl⟩
 unfold bL;rw[e];have h:∀x y:Ro,cw (.str x) (.str y)=decide (y=x):=λx y=>by
  rw[cw]
  by_cases c:y=x
  .subst c;simp
  .rw[decide_eq_false c];exact beq_eq_false_iff_ne.mpr λz=>c z.symm
 simp only[Tf,List.any_nil,h,Vp]
def F9(W:dU w)(hl:xs.length=w.ts.length)(hx:∀x∈xs,aU x):∃y7,lP (mw w rs ks (xs.map fr) x4 x5 (.sh (.str p)) x7)=(if sN w (ips p w.ts (uS xs)) p=true then .ok (.nx (mw w rs ks (xs.map fr) x4 x5 (.sh (.str p)) y7)) else .ok (.rt (.tup [.str "place",.str p]))):=by
 have hg:bP [aK w,.lst (xs.map fr),.str p]=_:=K36.going_ok (w:=w) (P:=p) W.t14 hl hx;obtain⟨b,s2,hb,hs2,he⟩:=Ep (P:=p) W.t14 hx;have h1:=HD hb hs2 he;have h2:=HE hb hs2 he;have i2:aC (aK w) (.int 2)=.ok (.str w.fi):=rfl;have i3:aC (aK w) (.int 3)=.ok (.str w.la):=rfl;have ne:=W.ne;have htup:c5 [.str "place",.str p]=.ok (.tup [.str "place",.str p]):=rfl;have htu2:c5 [.str w.fi,.str w.la]=.ok (.tup [.str w.fi,.str w.la]):=rfl;have hi0:∀u:cA,aC (fr u) (.int 0)=.ok (.int u.1):=λ_=>rfl;have hlt:∀z:Int,zk (.int z) (.int 0)=.ok (.bl (decide (z<0))):=λ_=>rfl;refine⟨.sh (.int (K36.sumF (K36.parts p w.ts xs)).1),?_⟩;unfold lP mw sN;rw[←h1,←h2];generalize K36.sumF (K36.parts p w.ts xs)=u at *
 by_cases cl:p=w.la
 .have cf:p≠w.fi:=λz=>ne (z.symm.trans cl)
  rw[if_pos cl,if_pos rfl];open_line with[hg,hi0,i2,i3,K36.eqs,decide_eq_false cf,htu2,iA,decide_eq_true cl,Bool.or_true]
 .rw[if_neg cl]
  by_cases cf:p=w.fi
  .rw[if_pos cf]
   cases c:decide (u.1<0) with
   |true=>
    rw[if_neg (by decide)];open_line with[hg,hi0,i2,i3,K36.eqs,decide_eq_true cf,hlt,c,htup]
   |false=>
    rw[if_pos (by decide)];open_line with[hg,hi0,i2,i3,K36.eqs,decide_eq_true cf,hlt,c,htu2,iA,WA]
  .rw[if_neg cf]
   cases c:(u.1==0) with
   |true=>
    rw[if_pos rfl];open_line with[hg,hi0,i2,i3,K36.eqs,decide_eq_false cf,htu2,iA,decide_eq_false cl,Bool.or_self,c]
   |false=>
    rw[if_neg RM];open_line with[hg,hi0,i2,i3,K36.eqs,decide_eq_false cf,htu2,iA,decide_eq_false cl,Bool.or_self,c,htup]
end
def XF(d:D):MP:=⟨"NoFlow",[("at",d)]⟩
def XP(p:Ro):MP:=⟨"Unbalanced",[("place",.str p)]⟩
inductive OG:D->av D->Prop
 |ok:OG .non (.ok .non)
 |no:OG (.tup [.str "flow",.non]) (.exn (XF .non))
 |at_ (k:Nat):OG (.tup [.str "flow",.int (k:Int)]) (.exn (XF (.int (k:Int))))
 |pl (p:Ro):OG (.tup [.str "place",.str p]) (.exn (XP p))
def Aa{xs:List cA}(W:dU w)(hl:xs.length=w.ts.length)(hx:∀x∈xs,aU x/\0<=x.1):m_look_at_rooms [aK w,.lst (xs.map fr)]=.ok .non:=by
 have h14:=W.t14;have i1:aC (aK w) (.int 1)=.ok (.lst (w.ts.map bf)):=rfl;have hc:∀ρ:Ev,dQ 1 [] (bF 0) mYes (ao (af (ae 0) ax) m_is_length) ρ (xs.map fr)=.ok (.lst ((xs.map fr).map λ_=>.bl true)):=λρ=>by
  rw[kZ (F:=λ_=>.bl true) (by rw[Q0];omega)];intro d hd;obtain⟨x,hm,rfl⟩:=Rl.mp hd;refine⟨[.sh (fr x)],rfl,rfl,?_⟩;have:=kK (hx x hm).1.toLow (hx x hm).2;open_line with[this]
 have hall:=K35.all_ok (ds:=xs.map fr) (g:=λ_=>true);have ht:(xs.map fr).all (λ_=>true)=true:=Ru.mpr λ_ _=>rfl;rw[ht]at hall;have hh:m_has_lengths [aK w,.lst (xs.map fr)]=.ok (.bl true):=by
  have hne:gO (.int (xs.length:Int)) (.int (w.ts.length:Int))=.ok (.bl false):=by rw[hl,jU];simp
  have e1:dP (.lst (xs.map fr))=.ok (.int (xs.length:Int)):=by show av.ok (D.int _)=_;rw[Q0]
  have e2:dP (.lst (w.ts.map bf))=.ok (.int (w.ts.length:Int)):=by show av.ok (D.int _)=_;rw[Q0]
  generalize hX:xs.map fr=X at *;open_line with[m_has_lengths,b_has_lengths,i1,Q0]
  rw[show X.length=xs.length by rw[←hX,Q0],hl];open_line with[jU,bne_self_eq_false,hc,hall]
 have hw:=zO W;open_line with[m_look_at_rooms,dR,hw,hh]
section
variable {w:jr}{rs:List cA}{ks:ce}{ds:ac}{d:D}
def look_of(S:Su w rs ks):m_look_at_flow [aK w,.lst (rs.map fr),aS ks,d]=((bY [aK w,.lst (rs.map fr),aS ks,d]).bind λ_=>(bW [aK w,d]).bind λ_=>.ok .non):=by
 have h1:=Aa S.W S.rl S.rf;have h2:=vt S.W S.T;cases e1:bY [aK w,.lst (rs.map fr),aS ks,d] with
 |stuck=>
  rw[show aS ks=.lst (ks.map λ(k:Nat)=>D.int (k:Int)) from rfl]at *;unfold m_look_at_flow;rw[kO];unfold dw;open_line with[h1,h2,e1]
  rfl
 |exn x=>open_line with[m_look_at_flow,dw,h1,h2,e1,kR]
 |ok v=>
  cases e2:bW [aK w,d] with
  |stuck=>
   open_line with[m_look_at_flow,dw,h1,h2,e1,e2]
   rfl
  |exn x=>open_line with[m_look_at_flow,dw,h1,h2,e1,e2,kR]
  |ok u=>open_line with[m_look_at_flow,dw,h1,h2,e1,e2]
theorem Gj:∀{ds:ac},(∀d∈ds,fv d=true)->∃xs:List cA,ds=xs.map fr/\∀x∈xs,Low x
 |[],_=>⟨[],rfl,λ_ h=>(nomatch h)⟩
 |d::ds,h=>by
  obtain⟨xs,rfl,hx⟩:=Gj (ds:=ds) λe he=>h e (QX _ he);obtain⟨x,rfl,hL⟩:=oP (h d Q3);exact⟨x::xs,rfl,λy hy=>(Rh.mp hy).elim (λe=>e▸hL) (hx y)⟩
def agree(S:Su w rs ks)(hl:ds.length=w.ts.length)(hB:∀d∈ds,Bd d):∃due,cu [aK w,.lst (rs.map fr),aS ks,.lst ds]=.ok due/\OG due (m_look_at_flow [aK w,.lst (rs.map fr),aS ks,.lst ds]):=by
 have i1:aC (aK w) (.int 1)=.ok (.lst (w.ts.map bf)):=rfl;have i0:aC (aK w) (.int 0)=.ok (.lst (w.ps.map D.str)):=rfl;have hlen:((ds.length:Int)==(w.ts.length:Int))=true:=by rw[hl];exact beq_self_eq_true _
 obtain⟨pA,pB⟩:=amts_ok S hl hB;have step:∀(j:Nat) (d:D),(numbered 0 (w.ts.map bf))[j]?=some d->D0 w rs ks ds j=true->∀ρ,(∃x4 x5,ρ=mw w rs ks ds x4 x5 .no .no)->∃ρ1 ρ2,dy [4,5] ρ d=.ok ρ1/\lA ρ1=.ok (.nx ρ2)/\∃x4 x5,ρ2=mw w rs ks ds x4 x5 .no .no:=by
  rintro j d hd hg ρ ⟨x4,x5,rfl⟩;obtain⟨t',ht',rfl⟩:=fQ hd;have hj:j<w.ts.length:=(Q5.mp ht').1;obtain⟨t,r,d',a1,a2,a3,a4⟩:=Oq S hl (k:=j) hj;rw[ht']at a1;cases a1;have ht:=J8 S (x6:=.no) (x7:=.no) ht' a2 a3 (hB d' (Rb a3));rw[←a4,hg,if_pos rfl]at ht;exact⟨_,_,i7 rfl,ht,_,_,rfl⟩
 rcases oZ (D0 w rs ks ds) w.ts.length with hall|⟨k,hk,hbad,hgood⟩
 .have hrat:∀d∈ds,fv d=true:=λd hd=>by
   obtain⟨k,hk⟩:=List.getElem?_of_mem hd;have hkl:k<ds.length:=(Q5.mp hk).1;obtain⟨t,r,d',a1,a2,a3,a4⟩:=Oq S hl (k:=k) (by omega);rw[hk]at a3;cases a3;have:=hall k (by omega);rw[a4]at this;exact AO this
  obtain⟨xs,rfl,hL⟩:=Gj hrat;rw[Q0]at hl hlen;have hx:∀x∈xs,aU x:=λx h=>(hB (fr x) (Rl.mpr ⟨x,h,rfl⟩)).fin (hL x h);obtain⟨qA,qB⟩:=bal_ok S.W hl hx;obtain⟨ρ',hf,x4,x5,rfl⟩:=gp (ds:=numbered 0 (w.ts.map bf)) (tg:=dy [4,5]) (body:=lA) (ρ:=mw w rs ks (xs.map fr) .no .no .no .no) (λ_ ρ=>∃x4 x5,ρ=mw w rs ks (xs.map fr) x4 x5 .no .no) (λj d hd ρ hp=>by
   have hj:j<w.ts.length:=by have:=(Q5.mp hd).1;rw[cF,Q0]at this;exact this
   exact step j d hd (hall j hj) ρ hp) ⟨_,_,rfl⟩
  have pstep:∀(j:Nat) (d:D),(w.ps.map D.str)[j]?=some d->CO w xs j=true->∀ρ,(∃x6 x7,ρ=mw w rs ks (xs.map fr) x4 x5 x6 x7)->∃ρ1 ρ2,bF 6 ρ d=.ok ρ1/\lP ρ1=.ok (.nx ρ2)/\∃x6 x7,ρ2=mw w rs ks (xs.map fr) x4 x5 x6 x7:=by
   rintro j d hd hg ρ ⟨x6,x7,rfl⟩;obtain⟨p,hp,rfl⟩:=Et hd;obtain⟨y7,ht⟩:=F9 (rs:=rs) (ks:=ks) S.W hl hx (p:=p) (x4:=x4) (x5:=x5) (x7:=x7);unfold CO at hg;rw[hp]at hg;simp only at hg;rw[hg,if_pos rfl]at ht;exact⟨_,_,rfl,ht,_,_,rfl⟩
  rw[look_of S,pA hall];unfold mw at hf;rcases oZ (CO w xs) w.ps.length with hpall|⟨k,hk,hbad,hgood⟩
  .obtain⟨ρ2,hf2,x6,x7,rfl⟩:=gp (ds:=w.ps.map D.str) (tg:=bF 6) (body:=lP) (ρ:=mw w rs ks (xs.map fr) x4 x5 .no .no) (λ_ ρ=>∃x6 x7,ρ=mw w rs ks (xs.map fr) x4 x5 x6 x7) (λj d hd ρ hp=>by
    have hj:j<w.ps.length:=by have:=(Q5.mp hd).1;rw[Q0]at this;exact this
    exact pstep j d hd (hpall j hj) ρ hp) ⟨_,_,rfl⟩
   unfold mw at hf2;refine⟨.non,?_,?_⟩
   .open_line with[cu,eQ,i1,i0,Q0,hlen,hf,hf2]
   .rw[qA hpall];exact .ok
  .obtain⟨p,hp⟩:∃p,w.ps[k]?=some p:=⟨_,QW hk⟩
   have hf2:=m8 (tg:=bF 6) (body:=lP) (out:=.ok (.rt (.tup [.str "place",.str p]))) rfl (λ_ ρ=>∃x6 x7,ρ=mw w rs ks (xs.map fr) x4 x5 x6 x7) k (w.ps.map D.str) (mw w rs ks (xs.map fr) x4 x5 .no .no) 0 ⟨_,_,rfl⟩ (λj d hj hd ρ hp=>pstep j d hd (hgood j hj) ρ hp) (by
    refine⟨.str p,by rw[Q7,hp];rfl,?_⟩;rintro ρ ⟨x6,x7,rfl⟩;obtain⟨y7,ht⟩:=F9 (rs:=rs) (ks:=ks) S.W hl hx (p:=p) (x4:=x4) (x5:=x5) (x7:=x7);unfold CO at hbad;rw[hp]at hbad;simp only at hbad;rw[hbad,if_neg RM]at ht;exact⟨_,rfl,ht⟩)
   unfold mw at hf2;refine⟨.tup [.str "place",.str p],?_,?_⟩
   .open_line with[cu,eQ,i1,i0,Q0,hlen,hf,hf2]
   .rw[qB k p hp hbad hgood];exact .pl p
 .have hf:=m8 (tg:=dy [4,5]) (body:=lA) (out:=.ok (.rt (.tup [.str "flow",.int (k:Int)]))) rfl (λ_ ρ=>∃x4 x5,ρ=mw w rs ks ds x4 x5 .no .no) k (numbered 0 (w.ts.map bf)) (mw w rs ks ds .no .no .no .no) 0 ⟨_,_,rfl⟩ (λj d hj hd ρ hp=>step j d hd (hgood j hj) ρ hp) (by
   obtain⟨t,r,d,a1,a2,a3,a4⟩:=Oq S hl hk;refine⟨.tup [.int (k:Int),bf t],by rw[cq,Q7,a1,Sn];rfl,?_⟩;rintro ρ ⟨x4,x5,rfl⟩;have ht:=J8 S (x6:=.no) (x7:=.no) a1 a2 a3 (hB d (Rb a3));rw[←a4,hbad,if_neg RM]at ht;exact⟨_,i7 rfl,ht⟩)
  unfold mw at hf;refine⟨.tup [.str "flow",.int (k:Int)],?_,?_⟩
  .open_line with[cu,eQ,i1,Q0,hlen,hf]
  .rw[look_of S,pB k hk hbad hgood];exact .at_ k
end
structure El (d:D):Prop where
 b:Bd d
 k:Pr d d=true
def FG(h:aR 39 d=true):Pr d d=true:=by unfold Pr;rw[h];simp
def el_fr(h1:x.1.natAbs<kz)(h2:x.2.natAbs<kz):El (fr x):=⟨λa b e=>by
 have e':D.tup [.int x.1,.int x.2]=.tup [.int a,.int b]:=e;injection e' with e';injection e' with e1 e2;injection e1 with e1;injection e2 with e2 _;injection e2 with e2;rw[←e1,←e2];exact⟨h1,h2⟩,FG (wG x)⟩
def put_nat{k:Nat}(h:k<ds.length)(ρ:Ev)(i:Nat):DL.putAt ρ i ds d (.int (k:Int))=.ok (.nx (ρ.set i (.ow (.lst (ds.set k d))))):=Gv (IQ h)
def QO(x:cA):aC (fr x) (.int 0)=.ok (.int x.1):=rfl
end K34
namespace Flo
open PySem L2 DL Com
open K11 (eZ)
open K54 (qK)
def dB(as:List Int)(k:Nat):Int:=(as[k]?).getD 0
def eC(m:Int)(as:List Int)(t:Tn):List Int:=as.set t.n.toNat (dB as t.n.toNat+t.sg*m)
abbrev sB:bi :=
 (aq (Bo 3 (aa (aa (ae 3) (aQ (ae 4) (f9 "number")) aC) (aa (aQ (ae 4) (f9 "sign")) (ae 2) bE) bz) (aQ (ae 4) (f9 "number")))
 ak)
def JI(N:Nat)(t:Tn):Prop:=(∃k:Nat,t.n=(k:Int)/\k<N)/\(t.sg=1∨t.sg=-1)
section
variable {as:List Int}{m:Int}{t:Tn}{p:List Tn}{A P:D}{N:Nat}
def lD:(eC m as t).length=as.length:=by unfold eC;rw[List.length_set]
def AJ{k:Nat}(h:k<as.length):aC (.lst (as.map D.int)) (.int (k:Int))=.ok (.int (dB as k)):=eY (by
 unfold dB;rw[Q7,QW h];rfl)
def KQ(ht:JI as.length t)(hm:m.natAbs<qf):sB [.sh A,.sh P,.sh (.int m),.ow (.lst (as.map D.int)),.sh (gV t)]=.ok (.nx [.sh A,.sh P,.sh (.int m),.ow (.lst ((eC m as t).map D.int)),.sh (gV t)]):=by
 obtain⟨⟨k,e1,e2⟩,e3⟩:=ht;have h1:=AJ e2;have h2:bE (.int t.sg) (.int m)=.ok (.int (t.sg*m)):=if_pos (dY (by rcases e3 with z|z<;>rw[z]<;>exact Q4 (show(1:Nat)<kz by decide) cC) hm);have h3:eC m as t=as.set k (dB as k+t.sg*m):=by unfold eC;rw[e1];rfl
 have h4:∀ρ:Ev,DL.putAt ρ 3 (as.map D.int) (.int (dB as k+t.sg*m)) (.int (k:Int))=.ok (.nx (ρ.set 3 (.ow (.lst ((as.map D.int).set k (.int (dB as k+t.sg*m))))))):=λρ=>K34.put_nat (by rw[Q0];exact e2) ρ 3;have fn:=PK (t:=t);rw[e1]at fn;rw[h3,List.map_set];open_line with[fn,PJ,h1,h2,Gu (show kq (.int (dB as k+t.sg*m))=true from rfl),h4]
theorem EC(hm:m.natAbs<qf):∀(p:List Tn) (as:List Int) (x4:Sl),(∀t∈p,JI as.length t)->∃y4,cm (bF 4) sB (p.map gV) [.sh A,.sh P,.sh (.int m),.ow (.lst (as.map D.int)),x4]=.ok (.nx [.sh A,.sh P,.sh (.int m),.ow (.lst ((p.foldl (eC m) as).map D.int)),y4])
 |[],as,x4,_=>⟨x4,rfl⟩
 |t::p,as,x4,h=>by
  obtain⟨y4,e⟩:=EC hm p (eC m as t) (.sh (gV t)) λs hs=>by rw[lD];exact h s (QX _ hs)
  exact⟨y4,by rw[Q6,i5 (ρ1:=[.sh A,.sh P,.sh (.int m),.ow (.lst (as.map D.int)),.sh (gV t)]) rfl (KQ (h t Q3) hm),e,S9]⟩
def HG(hm:m.natAbs<qf)(hl:as.length<=800)(h:∀t∈p,JI as.length t):K37.m_sent_along [.lst (as.map D.int),pD p,.int m]=.ok (.lst ((p.foldl (eC m) as).map D.int)):=by
 obtain⟨y4,e⟩:=EC (A:=.lst (as.map D.int)) (P:=pD p) hm p as .no h;have h1:m1 eU [.lst (as.map D.int)]=.ok (.lst (as.map D.int)):=by
  show eU (.lst (as.map D.int))=_
  first|rfl|exact if_pos (by rw[Q0];exact Ra hl (by decide))
 unfold pD at e ⊢;open_line with[K37.m_sent_along,K37.b_sent_along,h1,e]
def fw:List Tn->Int
 |[]=>0
 |t::p=>p.foldl (λx s=>min x s.c) t.c
def C4:∀{p:List Tn}{t:Tn},t∈p->fw p<=t.c:=by
 have key:∀(p:List Tn) (x:Int),p.foldl (λx s=>min x s.c) x<=x/\∀t∈p,p.foldl (λx s=>min x s.c) x<=t.c:=by
  intro p
  induction p with
  |nil=>intro x;exact⟨VR _,λt h=>nomatch h⟩
  |cons s p ih=>
   intro x;obtain⟨h1,h2⟩:=ih (min x s.c);rw[S9];refine⟨by omega,λt ht=>?_⟩;rcases Rh.mp ht with rfl|ht
   .omega
   .exact h2 t ht
 intro p t ht;cases p with
 |nil=>cases ht
 |cons s p=>
  obtain⟨h1,h2⟩:=key p s.c;rcases Rh.mp ht with rfl|ht
  .exact h1
  .exact h2 t ht
def AE:∀{p:List Tn},p≠[]->∃t∈p,fw p=t.c:=by
 have key:∀(p:List Tn) (x:Int),p.foldl (λx s=>min x s.c) x=x∨∃t∈p,p.foldl (λx s=>min x s.c) x=t.c:=by
  intro p
  induction p with
  |nil=>intro x;exact .inl rfl
  |cons s p ih=>
   intro x;rw[S9];rcases ih (min x s.c) with h|⟨t,h1,h2⟩
   .rw[h]
    by_cases c:x<=s.c
    .exact .inl (by omega)
    .exact .inr ⟨s,Q3,by omega⟩
   .exact .inr ⟨t,QX _ h1,h2⟩
 intro p hp;cases p with
 |nil=>exact absurd rfl hp
 |cons s p=>
  rcases key p s.c with h|⟨t,h1,h2⟩
  .exact⟨s,Q3,h⟩
  .exact⟨t,QX _ h1,h2⟩
end
theorem yu:∀(p:List Tn) (x:Int),Ax x (p.map (·.c))=p.foldl (λx s=>min x s.c) x
 |[],x=>rfl
 |t::p,x=>by
  rw[Q6,S9,←yu p];show Ax (if t.c<x then t.c else x) _=_
  congr 1
  show _=min x t.c;rw[Int.min_def];split<;>split<;>omega
def F2(hp:p≠[])(hl:p.length<=800):K37.m_least_room [pD p]=.ok (.int (fw p)):=by
 have hc:∀A,dQ 1 [] (bF 0) (aa (aQ (ae 0) (f9 "room")) (dC (.non)) kj) (aQ (ae 0) (f9 "room")) A (p.map gV)=.ok (.lst ((p.map (·.c)).map D.int)):=λA=>by
  rw[K51.comp_pick gV (λt=>some (.int t.c)) (by omega)]
  .rw[RV,←Ux];rfl
  .intro t ht
   have e:kj (.int t.c) .non=.ok (.bl true):=rfl;refine⟨[.sh (gV t)],rfl,.inr ⟨_,rfl,?_,?_⟩⟩
   .open_line with[Jb,e]
   .open_line with[Jb]
 have hm:B6 (.lst ((p.map (·.c)).map D.int))=.ok (.int (fw p)):=by
  cases p with
  |nil=>exact absurd rfl hp
  |cons t p=>
   show(match gQ (((t::p).map (·.c)).map D.int) with|some (n::ns)=>av.ok (D.int (Ax n ns))|_=>.stuck)=_;rw[yH];show av.ok (D.int (Ax t.c (p.map (·.c))))=_;rw[yu];rfl
 unfold pD;open_line with[K37.m_least_room,K37.b_least_room,hc,hm]
open K11 (eZ)
open K54 (m9)
def lh(zs as:List Int)(k:Nat)(t:fK):Int:=if t.w="one" then dB as k else dB zs k+dB as k
def jv(zs as:List Int)(k:Nat)(t:fK):List Tn:=[⟨(k:Int),1,t.a,t.b,dB zs k-dB as k⟩,⟨(k:Int),-1,t.b,t.a,lh zs as k t⟩]
def l7(zs:List Int)(ks:ce)(as:List Int):Nat->List fK->List Tn
 |_,[]=>[]
 |k,t::r=>(if k∈ks then[] else jv zs as k t)++l7 zs ks as (k+1) r
theorem wm:∀{pre:List fK}{k:Nat},l7 zs ks as k (pre++[t])=l7 zs ks as k pre++(if k+pre.length∈ks then[] else jv zs as (k+pre.length) t)
 |[],k=>by
  show(if k∈ks then[] else jv zs as k t)++[]=[]++(if k+0∈ks then[] else jv zs as (k+0) t);rw[Sj,SY,UN]
 |s::pre,k=>by
  rw[S4,l7,wm,l7,Rt,T3,show k+1+pre.length=k+(pre.length+1) by omega]
theorem oy:∀{L:List fK}{k:Nat},(l7 zs ks as k L).length<=2*L.length
 |[],k=>by simp[l7]
 |t::L,k=>by
  rw[l7,RQ,Rt];have:=oy (zs:=zs) (ks:=ks) (as:=as) (L:=L) (k:=k+1);split
  .simp;omega
  .simp[jv];omega
theorem uI:∀{L:List fK}{k:Nat},s∈l7 zs ks as k L↔∃i t,L[i]?=some t/\k+i∉ks/\s∈jv zs as (k+i) t
 |[],k=>by simp[l7]
 |t::L,k=>by
  rw[l7,Rv,uI];constructor
  .rintro(h|⟨i,u,h1,h2,h3⟩)
   .by_cases c:k∈ks
    .rw[if_pos c]at h;cases h
    .rw[if_neg c]at h;exact⟨0,t,rfl,c,h⟩
   .exact⟨i+1,u,h1,by rw[show k+(i+1)=k+1+i by omega];exact h2,by rw[show k+(i+1)=k+1+i by omega];exact h3⟩
  .rintro⟨i,u,h1,h2,h3⟩
   cases i with
   |zero=>
    simp at h1;subst h1;exact .inl (by rw[if_neg (by simpa using h2)];exact h3)
   |succ i=>exact .inr ⟨i,u,by simpa using h1,by rw[show k+1+i=k+(i+1) by omega];exact h2,by rw[show k+1+i=k+(i+1) by omega];exact h3⟩
noncomputable abbrev tB:bi :=
 (aq (cM (aa (ae 5) (ae 2) bL)
 (aq (aJ 7 (Jt (aa (aa (ae 6) (dC (.int 2)) aC) (dC (.str "one")) fJ) (aa (ae 3) (ae 5) aC) (aa (aa (ae 1) (ae 5) aC) (aa (ae 3) (ae 5) aC) bz)))
 (aq (c6 4 (ao (af (ae 5) (af (dC (.int 1)) (af (aa (ae 6) (dC (.int 0)) aC) (af (aa (ae 6) (dC (.int 1)) aC) (af (dC (.int 0)) (af (aa (aa (ae 1) (ae 5) aC) (aa (ae 3) (ae 5) aC) ik) ax)))))) (AD "Turn" ["number","sign","here","there","cost","room"])))
 (aq (c6 4 (ao (af (ae 5) (af (aQ (dC (.int 1)) jF) (af (aa (ae 6) (dC (.int 1)) aC) (af (aa (ae 6) (dC (.int 0)) aC) (af (dC (.int 0)) (af (ae 7) ax)))))) (AD "Turn" ["number","sign","here","there","cost","room"])))
 ak)))
 ak)
 ak)
def JS{n sg c:Int}:gV ⟨n,sg,a,b,c⟩=.ob (.ins "Turn" ["number","sign","here","there","cost","room"]) [.int n,.int sg,.str a,.str b,.int 0,.int c]:=rfl
section
variable {zs as:List Int}{ks:ce}{t:fK}{k:Nat}{W:D}{x7:Sl}{L:List Tn}
def KC(hz:k<zs.length)(ha:k<as.length)(hL:L.length<=900):∃y7,tB [.sh W,.sh (.lst (zs.map D.int)),.sh (aS ks),.sh (.lst (as.map D.int)),.ow (.lst (L.map gV)),.sh (.int (k:Int)),.sh (bf t),x7] =
  .ok (.nx [.sh W,.sh (.lst (zs.map D.int)),.sh (aS ks),.sh (.lst (as.map D.int)),.ow (.lst ((L++(if k∈ks then[] else jv zs as k t)).map gV)),.sh (.int (k:Int)),.sh (bf t),y7]):=by
 have hni:bL (.int (k:Int)) (aS ks)=.ok (.bl (!(decide (k∈ks)))):=K11.notIn_nums
 by_cases c:k∈ks
 .rw[decide_eq_true c]at hni
  refine⟨x7,?_⟩;rw[if_pos c,Sj];open_line with[hni]
 .rw[decide_eq_false c]at hni
  have h1:=AJ hz;have h2:=AJ ha;have w0:aC (bf t) (.int 0)=.ok (.str t.a):=rfl;have w1:aC (bf t) (.int 1)=.ok (.str t.b):=rfl;have w2:aC (bf t) (.int 2)=.ok (.str t.w):=rfl;have hs:ik (.int (dB zs k)) (.int (dB as k))=.ok (.int (dB zs k-dB as k)):=rfl;have a1:decide ((L.map gV).length<=999)=true:=decide_eq_true (by rw[Q0];omega);have a2:∀d:D,decide ((L.map gV++[d]).length<=999)=true:=λd=>decide_eq_true (by rw[RQ,Q0,Tp];omega);have e9:(L++jv zs as k t).map gV=(L.map gV++[gV ⟨(k:Int),1,t.a,t.b,dB zs k-dB as k⟩])++[gV ⟨(k:Int),-1,t.b,t.a,lh zs as k t⟩]:=by
   rw[RX,T3];rfl
  rw[if_neg c,e9];refine⟨.sh (.int (lh zs as k t)),?_⟩
  by_cases ho:t.w="one"
  .have hb:lh zs as k t=dB as k:=if_pos ho
   rw[hb];open_line with[hni,w0,w1,w2,eZ,decide_eq_true ho,h1,h2,hs,dH a1,dH (a2 _),JS]
  .have hb:lh zs as k t=dB zs k+dB as k:=if_neg ho
   rw[hb];open_line with[hni,w0,w1,w2,eZ,decide_eq_false ho,h1,h2,hs,dH a1,dH (a2 _),JS]
end
open K11 (eZ)
open K54 (m9)
def cx(w:jr)(zs:List Int)(ks:ce)(as:List Int):List Tn:=(l7 zs ks as 0 w.ts).filter λt=>decide (0<t.c)
theorem rH:∀(L:List Tn),(L.filterMap λt=>if 0<t.c then some (gV t) else none)=(L.filter λt=>decide (0<t.c)).map gV
 |[]=>rfl
 |t::L=>by
  rw[SX,U4]
  by_cases h:0<t.c
  .simp only[if_pos h,decide_eq_true h,if_true,Q6,rH L]
  .simp only[if_neg h,decide_eq_false h,S5,if_false,rH L]
section
variable {w:jr}{zs as:List Int}{ks:ce}
def su(W:dU w):(cx w zs ks as).length<=28:=by
 have h1:=Vc (λt:Tn=>decide (0<t.c)) (l7 zs ks as 0 w.ts);have h2:=oy (zs:=zs) (ks:=ks) (as:=as) (L:=w.ts) (k:=0);have:=W.t14;unfold cx;omega
def FZ(h:s∈cx w zs ks as):∃k t,w.ts[k]?=some t/\k∉ks/\s∈jv zs as k t/\0<s.c:=by
 unfold cx at h;obtain⟨h1,h2⟩:=Sg.mp h;obtain⟨i,t,e1,e2,e3⟩:=uI.mp h1;rw[Sn]at e2 e3;exact⟨i,t,e1,e2,e3,of_decide_eq_true h2⟩
def Eg(W:dU w)(hz:zs.length=w.ts.length)(ha:as.length=w.ts.length):K37.m_turns_left [aK w,.lst (zs.map D.int),aS ks,.lst (as.map D.int)]=.ok (.lst ((cx w zs ks as).map gV)):=by
 have t14:=W.t14;obtain⟨ρ',e,x5,x6,x7,rfl⟩:=m9 (tg:=dy [5,6]) (body:=tB) bf (L:=w.ts) (λpre ρ=>∃x5 x6 x7,ρ=[.sh (aK w),.sh (.lst (zs.map D.int)),.sh (aS ks),.sh (.lst (as.map D.int)),.ow (.lst ((l7 zs ks as 0 pre).map gV)),x5,x6,x7])
  (λpre t post hL ρ z9=>by
   obtain⟨x5,x6,x7,er⟩:=z9;subst er;have hk:pre.length<w.ts.length:=by rw[hL];simp
   have hl:=oy (zs:=zs) (ks:=ks) (as:=as) (L:=pre) (k:=0);obtain⟨y7,eb⟩:=KC (zs:=zs) (as:=as) (ks:=ks) (t:=t) (k:=pre.length) (W:=aK w) (x7:=x7) (L:=l7 zs ks as 0 pre) (by omega) (by omega) (by omega);refine⟨_,_,rfl,eb,.sh (.int (pre.length:Int)),.sh (bf t),y7,?_⟩;rw[wm,Sn]) ⟨.no,.no,.no,rfl⟩
 have e:cm (dy [5,6]) tB (numbered 0 (w.ts.map bf)) [.sh (aK w),.sh (.lst (zs.map D.int)),.sh (aS ks),.sh (.lst (as.map D.int)),.ow (.lst []),.no,.no,.no]=_:=e;have hi:aC (aK w) (.int 1)=.ok (.lst (w.ts.map bf)):=rfl;have hc:∀A,dQ 1 [] (bF 0) (aa (aQ (ae 0) (f9 "room")) (dC (.int 0)) zK) (ae 0) A ((l7 zs ks as 0 w.ts).map gV)=.ok (.lst ((cx w zs ks as).map gV)):=λA=>by
  have hl:=oy (zs:=zs) (ks:=ks) (as:=as) (L:=w.ts) (k:=0);rw[K51.comp_pick gV (λt=>if 0<t.c then some (gV t) else none) (by omega)]
  .rw[rH];rfl
  .intro t ht
   have e:zK (.int t.c) (.int 0)=.ok (.bl (decide (t.c > 0))):=rfl
   by_cases h:0<t.c
   .rw[decide_eq_true h]at e
    refine⟨[.sh (gV t)],rfl,.inr ⟨gV t,if_pos h,?_,?_⟩⟩
    .open_line with[Jb,e]
    .open_line with[]
   .rw[decide_eq_false h]at e
    refine⟨[.sh (gV t)],rfl,.inl ⟨if_neg h,?_⟩⟩;open_line with[Jb,e]
 open_line with[K37.m_turns_left,K37.b_turns_left,hi,e,hc]
theorem eJ{α:Type}{g:α->D}(h:∀a,iX (g a)=true):∀(L:List α),noFns (L.map g)=true
 |[]=>rfl
 |a::L=>by rw[Q6,noFns,h,eJ h L];rfl
def FL(t:fK):iX (bf t)=true:=by
 cases e:t.o with|none|some x=>unfold bf;rw[e];rfl
def FK:iX (aK w)=true:=by
 have h1:noFns (w.ps.map D.str)=true:=eJ (λ_=>rfl) _;have h2:noFns (w.ts.map bf)=true:=eJ FL _;show(noFns (w.ps.map D.str)&&(noFns (w.ts.map bf)&&true))=true;rw[h1,h2];rfl
def xa(W:dU w)(hz:zs.length=w.ts.length)(ha:as.length=w.ts.length):K37.lt_filled (sA "most_flow") [aK w,aS ks,.tup [.lst (zs.map D.int),.int B]] [.lst (as.map D.int)]=.ok (.lst ((cx w zs ks as).map gV)):=by
 have h:=Eg (ks:=ks) W hz ha;have h0:aC (.tup [.lst (zs.map D.int),.int B]) (.int 0)=.ok (.lst (zs.map D.int)):=rfl;have n1:noFns (as.map D.int)=true:=eJ (λ_=>rfl) _;have n2:noFns (zs.map D.int)=true:=eJ (λ_=>rfl) _;have n3:noFns (ks.map λ(k:Nat)=>D.int (k:Int))=true:=eJ (λ_=>rfl) _;have n4:noFns [.lst (as.map D.int)]=true:=by show(noFns (as.map D.int)&&true)=true;rw[n1];rfl
 have n5:noFns [aK w,aS ks,.tup [.lst (zs.map D.int),.int B]]=true:=by
  show(iX (aK w)&&(noFns (ks.map λ(k:Nat)=>D.int (k:Int))&&((noFns (zs.map D.int)&&true)&&true)))=true;rw[FK,n2,n3];rfl
 have hb:K37.bl_most_flow [.sh (.lst (as.map D.int)),.sh (aK w),.sh (aS ks),.sh (.tup [.lst (zs.map D.int),.int B])]=.ok (.lst ((cx w zs ks as).map gV)):=by
  open_line with[K37.bl_most_flow,h0,h]
 show C6 1 3 K37.bl_most_flow _ _=_;unfold C6;rw[if_pos ⟨rfl,rfl,n4,n5⟩];show(match K37.bl_most_flow [.sh (.lst (as.map D.int)),.sh (aK w),.sh (aS ks),.sh (.tup [.lst (zs.map D.int),.int B])] with|.ok d=>av.ok d|_=>.stuck)=_;rw[hb]
end
def ek(fi:Ro)(t:fK):Int:=(if t.a=fi then 1 else 0)-(if t.b=fi then 1 else 0)
def eg(fi:Ro):List fK->List Int->Int
 |t::ts,x::as=>x*ek fi t+eg fi ts as
 |_,_=>0
theorem BG{fi:Ro}{d:Int}:∀{ts:List fK}{as:List Int}{k:Nat}{t:fK},ts[k]?=some t->k<as.length->eg fi ts (as.set k (dB as k+d))=eg fi ts as+d*ek fi t
 |[],_,_,_,h,_=>by simp at h
 |_::_,[],_,_,_,h=>by simp at h
 |u::ts,x::as,0,t,h,_=>by
  simp at h;subst h;show(x+d)*ek fi u+eg fi ts as=x*ek fi u+eg fi ts as+d*ek fi u;rw[Int.add_mul];omega
 |u::ts,x::as,k+1,t,h,h2=>by
  have ih:=BG (fi:=fi) (d:=d) (ts:=ts) (as:=as) (k:=k) (t:=t) (by simpa using h) (by simpa using h2);show x*ek fi u+eg fi ts (as.set k (dB as k+d))=x*ek fi u+eg fi ts as+d*ek fi t;rw[ih];omega
def Ba(t:fK)(z x:Int):Prop:=x<=z/\(if t.w="one" then 0<=x else -z<=x)
def Ba.abs(h:Ba t z x)(hz:0<=z):x.natAbs<=z.natAbs:=by
 obtain⟨h1,h2⟩:=h;split at h2<;>omega
def ee(w:jr)(zs as:List Int):Prop:=as.length=w.ts.length/\∀k t,w.ts[k]?=some t->Ba t (dB zs k) (dB as k)
def Mb(h:t.a≠t.b):(ek fi t).natAbs<=1:=by
 unfold ek;split<;>split<;>first|omega|decide
def wy(zs:List Int):Nat:=(zs.map Int.natAbs).sum
theorem Fz{fi:Ro}:∀{ts:List fK}{zs as:List Int},(∀t∈ts,t.a≠t.b)->(∀k t,ts[k]?=some t->(dB as k).natAbs<=(dB zs k).natAbs)->zs.length=ts.length->eg fi ts as<=(wy zs:Int)
 |[],zs,as,_,_,_=>by
  have:eg fi [] as=0:=by cases as<;>rfl
  rw[this];omega
 |t::ts,zs,[],_,_,_=>by show(0:Int)<=_;omega
 |t::ts,[],x::as,_,_,h=>by simp at h
 |t::ts,z::zs,x::as,h1,h2,h3=>by
  have ih:=Fz (fi:=fi) (ts:=ts) (zs:=zs) (as:=as) (λu hu=>h1 u (QX _ hu)) (λk u hu=>h2 (k+1) u hu) (by simpa using h3);have hx:x.natAbs<=z.natAbs:=h2 0 t rfl;have he:=Mb (fi:=fi) (h1 t Q3);show x*ek fi t+eg fi ts as<=_;have hs:wy (z::zs)=z.natAbs+wy zs:=by unfold wy;rw[Q6,Te]
  rw[hs];have hm:(x*ek fi t).natAbs<=z.natAbs:=by
   rw[TJ];exact Ra (UR hx he) (by omega)
  omega
theorem rP:∀{p:List Tn}{a k:Ro},Lk a p k->(a::p.map (·.b)).Nodup->(∀s∈p,∀u∈p,s.n=u.n->s.b=u.b∨(u.b=s.a/\s.b=u.a))->(p.map (·.n)).Nodup
 |[],_,_,_,_,_=>.nil
 |t::p,a,k,⟨h1,h2⟩,nd,op=>by
  rw[Q6]at nd ⊢;obtain⟨n1,n2⟩:=RK.mp nd;refine RK.mpr ⟨λz=>?_,rP h2 n2 λs hs u hu=>op s (QX _ hs) u (QX _ hu)⟩;obtain⟨s,hs,e⟩:=Rl.mp z;rcases op t Q3 s (QX _ hs) e.symm with q|⟨q,_⟩
  .exact(RK.mp n2).1 (q▸Rl.mpr ⟨s,hs,rfl⟩)
  .exact n1 (QX _ (Rl.mpr ⟨s,hs,by rw[q,h1]⟩))
def JD{k j:Nat}(h:k<as.length):dB (as.set k v) j=if j=k then v else dB as j:=by
 unfold dB
 by_cases e:j=k
 .subst e;rw[RT h,if_pos rfl];rfl
 .rw[Q8 (R7 e),if_neg e]
def rg{k j:Nat}(e:s.n=(k:Int))(h:k<as.length):dB (eC m as s) j=if j=k then dB as k+s.sg*m else dB as j:=by
 unfold eC;rw[e,Sw];exact JD h
theorem vB{w:jr}{zs:List Int}{m:Int}:∀{p:List Tn}{as:List Int},(p.map (·.n)).Nodup->ee w zs as->(∀s∈p,∃(k:Nat) (t:fK),s.n=(k:Int)/\w.ts[k]?=some t/\Ba t (dB zs k) (dB as k+s.sg*m))->ee w zs (p.foldl (eC m) as)
 |[],as,_,h,_=>h
 |s::p,as,nd,h,hs=>by
  rw[Q6]at nd;obtain⟨n1,n2⟩:=RK.mp nd;obtain⟨k,t,e1,e2,e3⟩:=hs s Q3;have hk:k<as.length:=by rw[h.1];exact(Q5.mp e2).1
  rw[S9];refine vB n2 ⟨by rw[lD];exact h.1,λj u hu=>?_⟩ λr hr=>?_
  .rw[rg e1 hk]
   by_cases c:j=k
   .subst c
    rw[e2]at hu;cases hu;rw[if_pos rfl];exact e3
   .rw[if_neg c];exact h.2 j u hu
  .obtain⟨j,u,f1,f2,f3⟩:=hs r (QX _ hr)
   refine⟨j,u,f1,f2,?_⟩;rw[rg e1 hk,if_neg (λc=>n1 (by rw[e1,←c,←f1];exact Rl.mpr ⟨r,hr,rfl⟩))];exact f3
def G8(fi:Ro)(s:Tn):Int:=(if s.a=fi then 1 else 0)-(if s.b=fi then 1 else 0)
theorem oM{fi:Ro}{ts:List fK}{m:Int}:∀{p:List Tn}{as:List Int},as.length=ts.length->(∀s∈p,∃(k:Nat) (t:fK),s.n=(k:Int)/\ts[k]?=some t/\s.sg*ek fi t=G8 fi s)->eg fi ts (p.foldl (eC m) as)=eg fi ts as+m*(p.map (G8 fi)).sum
 |[],as,_,_=>by simp
 |s::p,as,hl,h=>by
  obtain⟨k,t,e1,e2,e3⟩:=h s Q3;have hk:k<as.length:=by rw[hl];exact(Q5.mp e2).1
  rw[S9,oM (by rw[lD];exact hl) (λr hr=>h r (QX _ hr)),Q6,Te];have e:eC m as s=as.set k (dB as k+s.sg*m):=by unfold eC;rw[e1,Sw]
  rw[e,BG e2 hk,Int.mul_add,←e3];have:s.sg*m*ek fi t=m*(s.sg*ek fi t):=by rw[Us s.sg m,Wi]
  omega
def Jm{k:Ro}(h1:Lk fi p k)(h2:p≠[])(h3:∀s∈p,s.b≠fi)(h4:∀s∈p.tail,s.a≠fi):(p.map (G8 fi)).sum=1:=by
 cases p with
 |nil=>exact absurd rfl h2
 |cons t p=>
  have z:∀(q:List Tn),(∀s∈q,s.a≠fi/\s.b≠fi)->(q.map (G8 fi)).sum=0:=by
   intro q
   induction q with
   |nil=>intro _;rfl
   |cons s q ih=>
    intro h;rw[Q6,Te,ih λu hu=>h u (QX _ hu)];unfold G8;rw[if_neg (h s Q3).1,if_neg (h s Q3).2];rfl
  rw[Q6,Te,z p λs hs=>⟨h4 s hs,h3 s (QX _ hs)⟩];unfold G8;rw[if_pos h1.1,if_neg (h3 t Q3)];rfl
section
variable {w:jr}{zs as:List Int}{ks:ce}
def jN(h:s∈cx w zs ks as):∃(k:Nat) (t:fK),s.n=(k:Int)/\w.ts[k]?=some t/\k∉ks/\0<s.c/\((s.sg=1/\s.a=t.a/\s.b=t.b/\s.c=dB zs k-dB as k)∨(s.sg=-1/\s.a=t.b/\s.b=t.a/\s.c=lh zs as k t)):=by
 obtain⟨k,t,h1,h2,h3,h4⟩:=FZ h;unfold jv at h3;rcases Rh.mp h3 with rfl|h3
 .exact⟨k,t,rfl,h1,h2,h4,.inl ⟨rfl,rfl,rfl,rfl⟩⟩
 .obtain rfl:=RP.mp h3
  exact⟨k,t,rfl,h1,h2,h4,.inr ⟨rfl,rfl,rfl,rfl⟩⟩
def Ht(hs:s∈cx w zs ks as)(hu:u∈cx w zs ks as)(e:s.n=u.n):s.b=u.b∨(u.b=s.a/\s.b=u.a):=by
 obtain⟨k,t,a1,a2,_,_,a3⟩:=jN hs;obtain⟨j,r,b1,b2,_,_,b3⟩:=jN hu;have:k=j:=by have:=a1.symm.trans (e.trans b1);omega
 subst this;rw[a2]at b2;cases b2;rcases a3 with⟨_,x1,x2,_⟩|⟨_,x1,x2,_⟩<;>rcases b3 with⟨_,y1,y2,_⟩|⟨_,y1,y2,_⟩
 .exact .inl (x2.trans y2.symm)
 .exact .inr ⟨y2.trans x1.symm,x2.trans y1.symm⟩
 .exact .inr ⟨y2.trans x1.symm,x2.trans y1.symm⟩
 .exact .inl (x2.trans y2.symm)
def xN(h:s∈cx w zs ks as):∃(k:Nat) (t:fK),s.n=(k:Int)/\w.ts[k]?=some t/\s.sg*ek fi t=G8 fi s:=by
 obtain⟨k,t,a1,a2,_,_,a3⟩:=jN h;refine⟨k,t,a1,a2,?_⟩;unfold ek G8;rcases a3 with⟨x0,x1,x2,_⟩|⟨x0,x1,x2,_⟩<;>rw[x0,x1,x2]<;>split<;>split<;>rfl
def Eh(A:ee w zs as)(h:s∈cx w zs ks as)(m0:0<=m)(hm:m<=s.c):∃(k:Nat) (t:fK),s.n=(k:Int)/\w.ts[k]?=some t/\Ba t (dB zs k) (dB as k+s.sg*m):=by
 obtain⟨k,t,a1,a2,_,_,a3⟩:=jN h;refine⟨k,t,a1,a2,?_⟩;obtain⟨f1,f2⟩:=A.2 k t a2;unfold Ba;rcases a3 with⟨x0,_,_,x3⟩|⟨x0,_,_,x3⟩
 .rw[x0,UW]
  refine⟨by omega,?_⟩;split<;>rename_i c<;>(first|rw[if_pos c]at f2|rw[if_neg c]at f2)<;>omega
 .rw[x0]
  unfold lh at x3;refine⟨by omega,?_⟩;split<;>rename_i c<;>(first|rw[if_pos c]at x3|rw[if_neg c]at x3)<;>omega
end
structure ML (w:jr) (zs:List Int):Prop where
 l:zs.length=w.ts.length
 nn:∀k,0<=dB zs k
 bd:∀k,2*(dB zs k).natAbs<qf
abbrev fT:am:=aa (ae 3) (ae 4) xu
noncomputable abbrev QI:bi :=
 (aq (aJ 1 (ao (af (ae 1) (af (aa (ae 4) (ae 3) kY) (af (ao (af (aa (ae 4) (ae 3) kY) ax) K37.m_least_room) ax))) K37.m_sent_along))
 (aq (aJ 4 (ao (af (pd K37.lt_filled 0 (af (ae 1) ax)) (af (ae 2) ax)) K37.m_fewest_turns))
 ak))
def za{lt:LT}:pd lt 0 fa (.sh (.ob (.fn q) caps)::r)=(fa (.sh (.ob (.fn q) caps)::r)).bind (lt q caps):=rfl
def yA(w:jr)(ks:ce)(zs:List Int)(B:Int):D:=.ob (.fn (sA "most_flow")) [aK w,aS ks,.tup [.lst (zs.map D.int),.int B]]
section
variable {w:jr}{zs as:List Int}{ks:ce}{G:List qe}{p:List Tn}{la fi:Ro}{B:Int}
def EU(W:dU w)(Z:ML w zs)(A:ee w zs as)(H:Bf (cx w zs ks as) fi G)(hp:cZ G la=some p)(hne:fi≠la) :
  p≠[]/\p.length<=28/\0<fw p/\(fw p).natAbs<qf/\(∀s∈p,JI as.length s)/\ee w zs (p.foldl (eC (fw p)) as)/\eg fi w.ts (p.foldl (eC (fw p)) as)=eg fi w.ts as+fw p:=by
 have hm:=jC hp;have lk:Lk fi p la:=H.lk _ hm;have hpn:p≠[]:=by
  rintro rfl;exact hne lk
 have hin:∀s∈p,s∈cx w zs ks as:=λs hs=>(H.tk _ hm s hs).1;have hnb:∀s∈p,s.b≠fi:=λs hs=>(H.tk _ hm s hs).2.1;have hln:p.length<G.length:=H.ln _ hm;have hG:=H.len;have h28:=su (zs:=zs) (as:=as) (ks:=ks) W;obtain⟨t,ht,et⟩:=AE hpn;obtain⟨k,u,_,a2,_,a4,a5⟩:=jN (hin t ht);have hf:=(A.2 k u a2).abs (Z.nn k);have hbd:=Z.bd k;have hnn:=Z.nn k;have hc:t.c.natAbs<=2*(dB zs k).natAbs:=by
  rcases a5 with⟨_,_,_,e⟩|⟨_,_,_,e⟩
  .omega
  .unfold lh at e
   split at e<;>omega
 have nd:(p.map (·.n)).Nodup:=rP lk (RK.mpr ⟨λz=>by
  obtain⟨s,hs,e⟩:=Rl.mp z;exact hnb s hs e,H.nb _ hm⟩) λs hs u hu e=>Ht (hin s hs) (hin u hu) e
 refine⟨hpn,by omega,by rw[et];exact a4,by rw[et];omega,λs hs=>?_,vB nd A λs hs=>Eh A (hin s hs) (by rw[et];omega) (C4 hs),?_⟩
 .obtain⟨j,r,b1,b2,_,_,b5⟩:=jN (hin s hs)
  exact⟨⟨j,b1,by rw[A.1];exact(Q5.mp b2).1⟩,b5.imp (λz=>z.1) λz=>z.1⟩
 .rw[oM A.1 λs hs=>xN (hin s hs),Jm lk hpn hnb (H.fa _ hm),Int.mul_one]
def L4(W:dU w)(Z:ML w zs)(hne:fi≠la){Q:List Int->Prop}(hQ:∀(as:List Int) (G:List qe) (p:List Tn),ee w zs as->Bf (cx w zs ks as) fi G->cZ G la=some p->Q as->Q (p.foldl (eC (fw p)) as)):∀(f:Nat) (as:List Int) (G:List qe),Q as->ee w zs as->Bf (cx w zs ks as) fi G->zC (cx w zs ks as) G->(wy zs:Int)<eg fi w.ts as+f ->
  ∃as' G',Q as'/\ee w zs as'/\Bf (cx w zs ks as') fi G'/\zC (cx w zs ks as') G'/\cZ G' la=none /\
   ck fT QI f [.sh (yA w ks zs B),.sh (.lst (as.map D.int)),.sh (.str fi),.sh (.str la),.sh (fB G)]=.ok (.nx [.sh (yA w ks zs B),.sh (.lst (as'.map D.int)),.sh (.str fi),.sh (.str la),.sh (fB G')]):=by
 have t14:=W.t14;intro f
 induction f with
 |zero=>
  intro as G _ A _ _ h;have:=Fz (fi:=fi) (zs:=zs) (as:=as) (λt ht=>(W.ts t ht).ne) (λk t hk=>(A.2 k t hk).abs (Z.nn k)) Z.l;omega
 |succ f ih=>
  intro as G hq A H S h;cases hp:cZ G la with
  |none=>
   refine⟨as,G,hq,A,H,S,hp,iw ?_⟩;have e:xu (.str la) (fB G)=.ok (.bl false):=by rw[LU,hp];rfl
   open_line with[e]
  |some p=>
   obtain⟨r1,r2,r3,r4,r5,r6,r7⟩:=EU W Z A H hp hne;obtain⟨G1,q1,q2,q3⟩:=vT (ts:=cx w zs ks (p.foldl (eC (fw p)) as)) (fi:=fi) (by have:=su (zs:=zs) (as:=p.foldl (eC (fw p)) as) (ks:=ks) W;omega);obtain⟨as',G',z0,z1,z2,z3,z4,z5⟩:=ih _ G1 (hQ as G p A H hp hq) r6 q1 q2 (by rw[r7];omega);refine⟨as',G',z0,z1,z2,z3,z4,?_⟩;rw[←z5];refine kA ?_ ?_
   .have e:xu (.str la) (fB G)=.ok (.bl true):=by rw[LU,hp];rfl
    open_line with[e]
   .have e1:=N6 hp
    have e2:=F2 r1 (by omega);have e3:=HG r4 (by rw[A.1];omega) r5;have e4:=xa (B:=B) (ks:=ks) W Z.l r6.1;unfold yA;open_line with[e1,e2,e3,za,e4,q3]
end
theorem Bj:∀(zs:List Int),Er (zs.map D.int)=wy zs
 |[]=>rfl
 |z::zs=>by
  rw[Q6,Er,Bj zs];unfold wy;rw[Q6,Te]
def gb(n:Nat):List Int:=RC n 0
def wg{n k:Nat}:dB (gb n) k=0:=by
 unfold dB gb;rw[RZ];split<;>rfl
theorem oR:∀(ts:List fK) (n:Nat),eg fi ts (gb n)=0
 |[],n=>by cases n<;>rfl
 |_::_,0=>rfl
 |t::ts,n+1=>by
  show 0*ek fi t+eg fi ts (gb n)=0;rw[oR ts n,Va,Wu]
section
variable {w:jr}{zs:List Int}{ks:ce}{la fi:Ro}{B:Int}
def vn(Z:ML w zs):ee w zs (gb w.ts.length):=⟨Tq ..,λk t _=>by
 rw[wg];have:=Z.nn k;unfold Ba;split<;>omega⟩
def Dk(W:dU w)(Z:ML w zs)(hne:fi≠la){Q:List Int->Prop}(hQ:∀(as:List Int) (G:List qe) (p:List Tn),ee w zs as->Bf (cx w zs ks as) fi G->cZ G la=some p->Q as->Q (p.foldl (eC (fw p)) as))(q0:Q (gb w.ts.length)):∃as' G',Q as'/\ee w zs as'/\Bf (cx w zs ks as') fi G'/\zC (cx w zs ks as') G'/\cZ G' la=none /\
  K37.m_filled [yA w ks zs B,.lst ((gb w.ts.length).map D.int),.str fi,.str la]=.ok (.tup [.lst (as'.map D.int),fB G']):=by
 have h28:=su (zs:=zs) (as:=gb w.ts.length) (ks:=ks) W;obtain⟨G,q1,q2,q3⟩:=vT (ts:=cx w zs ks (gb w.ts.length)) (fi:=fi) (by omega);obtain⟨as',G',z0,z1,z2,z3,z4,z5⟩:=L4 (B:=B) (ks:=ks) W Z hne hQ (wy zs+1) (gb w.ts.length) G q0 (vn Z) q1 q2 (by rw[oR];omega);refine⟨as',G',z0,z1,z2,z3,z4,?_⟩;have e4:=xa (B:=B) (ks:=ks) W Z.l (vn Z).1;have hw:∀(c:am) (s:bi) (r:Ev),gf Gh c s (.sh (yA w ks zs B)::r)=ck c s (wy zs+1) (.sh (yA w ks zs B)::r):=λc s r=>by
  show ck c s (Er (zs.map D.int)+1) _=_;rw[Bj]
 unfold yA at z5 hw ⊢;open_line with[K37.m_filled,K37.b_filled,za,e4,q3,hw,z5]
end
def IF(G:List qe):iX (fB G)=true:=by
 show noFns (G.map λe=>pD e.2)=true;refine eJ (λe=>?_) G;show noFns (e.2.map gV)=true;exact eJ (λ_=>rfl) _
def zq(W:dU w)(Z:ML w zs){Q:List Int->Prop}(hQ:∀(as:List Int) (G:List qe) (p:List Tn),ee w zs as->Bf (cx w zs ks as) w.fi G->cZ G w.la=some p->Q as->Q (p.foldl (eC (fw p)) as))(q0:Q (gb w.ts.length)):∃as' G',Q as'/\ee w zs as'/\Bf (cx w zs ks as') w.fi G'/\zC (cx w zs ks as') G'/\cZ G' w.la=none /\
  uf (af (ae 4) (af (aa (ae 0) (dC (.int 2)) aC) (af (aa (ae 0) (dC (.int 3)) aC) ax))) 0 (sA "most_flow") [0,2,3] K37.m_filled [.sh (aK w),.sh R,.sh (aS ks),.sh (.tup [.lst (zs.map D.int),.int B]),.sh (.lst ((gb w.ts.length).map D.int)),x5,x6]=.ok (.tup [.lst (as'.map D.int),fB G']):=by
 obtain⟨as',G',h0,h1,h2,h3,h4,h5⟩:=Dk (B:=B) (ks:=ks) W Z W.ne hQ q0;refine⟨as',G',h0,h1,h2,h3,h4,?_⟩;have i2:aC (aK w) (.int 2)=.ok (.str w.fi):=rfl;have i3:aC (aK w) (.int 3)=.ok (.str w.la):=rfl;have ea:(af (ae 4) (af (aa (ae 0) (dC (.int 2)) aC) (af (aa (ae 0) (dC (.int 3)) aC) ax))) [.sh (aK w),.sh R,.sh (aS ks),.sh (.tup [.lst (zs.map D.int),.int B]),.sh (.lst ((gb w.ts.length).map D.int)),x5,x6]=.ok [.lst ((gb w.ts.length).map D.int),.str w.fi,.str w.la]:=by
  open_line with[i2,i3]
 have hn:iX (.tup [.lst (as'.map D.int),fB G'])=true:=by
  have n1:noFns (as'.map D.int)=true:=eJ (λ_=>rfl) _;show(noFns (as'.map D.int)&&(iX (fB G')&&true))=true;rw[n1,IF];rfl
 unfold uf;rw[ea];show xh (K37.m_filled [yA w ks zs B,.lst ((gb w.ts.length).map D.int),.str w.fi,.str w.la])=_;rw[h5];exact if_pos hn
structure DN (w:jr) (xs:List cA):Prop where
 l:xs.length=w.ts.length
 f:∀x∈xs,aU x/\0<=x.1
def zR(xs:List cA):List Int:=xs.map λx=>x.1*(eL xs / x.2)
section
variable {w:jr}{xs:List cA}(W:dU w) (R:DN w xs)
include W R
theorem Ce:0<eL xs/\(eL xs).natAbs<=2 ^ 2800/\∀x∈xs,x.2∣eL xs:=by
 have h:=A1 (xs:=xs) (λx hx=>(R.f x hx).1) 1 0 ⟨by decide,by decide⟩;obtain⟨⟨h1,h2⟩,_,h3⟩:=h;refine⟨h1,?_,λx hx=>h3 _ hx⟩;refine Ra h2 (Sy (by decide) ?_);have:=W.t14;have:=R.l;omega
theorem D3:ML w (zR xs):=by
 have hb:=Ce W R;have at_:∀k,dB (zR xs) k=match xs[k]? with|some x=>x.1*(eL xs / x.2)|none=>0:=λk=>by
  unfold dB zR;rw[Q7];cases xs[k]?<;>rfl
 refine⟨by unfold zR;rw[Q0];exact R.l,λk=>?_,λk=>?_⟩
 .rw[at_]
  cases e:xs[k]? with
  |none=>exact VR _
  |some x=>
   obtain⟨h1,h2⟩:=R.f x (Rb e);have:=h1.q1;exact SE h2 (Uj (by have:=hb.1;omega) (by omega))
 .rw[at_]
  cases e:xs[k]? with
  |none=>show 2*(0:Int).natAbs<_;rw[pE];exact Vg (by decide)
  |some x=>
   obtain⟨h1,h2⟩:=R.f x (Rb e);show 2*(x.1*(eL xs / x.2)).natAbs<_;have q1:x.1.natAbs<2 ^ 200:=Q4 h1.pN (by decide);have q2:(eL xs / x.2).natAbs<=2 ^ 2800:=Ra (SA _ _) hb.2.1;rw[TJ];have q3:x.1.natAbs*(eL xs / x.2).natAbs<2 ^ 200*2 ^ 2800:=V1 q1 q2 (Vg (by decide));have q4:2*(2 ^ 200*2 ^ 2800)<=qf:=by
    rw[pE,←Vi,show(2:Nat)*2 ^ (200+2800)=2 ^ (1+(200+2800)) by rw[Vi 2 1]];exact Sy (by decide) (by decide)
   omega
theorem HH:m_on_one_scale [.lst (xs.map fr)]=.ok (.tup [.lst ((zR xs).map D.int),.int (eL xs)]):=by
 have t14:=W.t14;have hs:=xZ (os:=xs.map some) (by rw[Q0];have:=R.l;omega) (λx hx=>by
  obtain⟨y,hy,e⟩:=Rl.mp hx;cases e;exact(R.f x hy).1)
 rw[Pth.somes_some]at hs;rw[RV,RV]at hs;have e1:xs.map (cN∘some)=xs.map fr:=rfl;have e2:xs.map (wI (eL xs)∘some)=(zR xs).map D.int:=by unfold zR;rw[RV];rfl
 rw[e1,e2]at hs;exact hs
end
theorem uB:∀ds:ac,eM (ds.map λ_=>.bl true)=some (ds.map λ_=>true)
 |[]=>rfl
 |d::ds=>by rw[Q6,eM,uB ds];rfl
def GW{ds:ac}:ug (.lst (ds.map λ_=>.bl true))=.ok (.bl true):=by
 unfold ug;simp only[uB]
 congr 2
 rw[Ru];intro b hb;obtain⟨_,_,rfl⟩:=Rl.mp hb;rfl
def DK{α:Type}(L:List α):ug (.lst (L.map λ_=>D.bl true))=.ok (.bl true):=by
 have:=GW (ds:=L.map λ_=>D.non);rw[RV]at this;exact this
section
variable {w:jr}{xs:List cA}(W:dU w) (R:DN w xs)
include W R
theorem LR:K51.m_has_lengths [aK w,.lst (xs.map fr)]=.ok (.bl true):=by
 have t14:=W.t14;have hl:=R.l;have hi:aC (aK w) (.int 1)=.ok (.lst (w.ts.map bf)):=rfl;have hc:∀A,dQ 1 [] (bF 0) mYes (ao (af (ae 0) ax) Com.m_is_length) A (xs.map fr)=.ok (.lst (xs.map λ_=>D.bl true)):=λA=>by
  rw[K51.comp_pick fr (λ_=>some (.bl true)) (by omega)]
  .rw[←Ux];rfl
  .intro x hx
   have e:=kK (R.f x hx).1.toLow (R.f x hx).2;refine⟨[.sh (fr x)],rfl,.inr ⟨_,rfl,rfl,?_⟩⟩;open_line with[e]
 have ha:ug (.lst (xs.map λ_=>D.bl true))=.ok (.bl true):=DK xs;have hn:gO (.int ((xs.length:Nat):Int)) (.int ((w.ts.length:Nat):Int))=.ok (.bl false):=by
  rw[hl];show av.ok (D.bl (!(_==_)))=_;rw[beq_self_eq_true];rfl
 open_line with[K51.m_has_lengths,K51.b_has_lengths,hi,Q0,hn,hc,ha]
end
def iG(w:jr)(G:List qe):bv:=w.ps.filter λk=>(cZ G k).isSome
theorem oQ:∀(L:bv),(L.filterMap λk=>if(cZ G k).isSome=true then some (D.str k) else none)=(L.filter λk=>(cZ G k).isSome).map D.str
 |[]=>rfl
 |k::L=>by
  rw[SX,U4]
  by_cases h:(cZ G k).isSome=true
  .simp only[if_pos h,Q6,oQ L]
  .simp only[if_neg h,oQ L]
theorem vm:∀(xs:List cA),(xs.filterMap λ_=>some (D.int 0))=(gb xs.length).map D.int
 |[]=>rfl
 |x::xs=>by rw[SX];simp only;rw[vm xs];rfl
section
variable {w:jr}{xs:List cA}{ks:ce}(W:dU w) (R:DN w xs) (T:K37.m_look_at_taking [aK w,aS ks]=.ok .non)
include W R in
theorem MS(k:Nat):(dB (zR xs) k).natAbs<2 ^ 200*2 ^ 2800:=by
 have hb:=Ce W R;unfold dB zR;rw[Q7];cases e:xs[k]? with
 |none=>show(0:Int).natAbs<_;exact Nat.mul_pos (Vg (by decide)) (Vg (by decide))
 |some x=>
  have h1:=(R.f x (Rb e)).1;show(x.1*(eL xs / x.2)).natAbs<_;have q1:x.1.natAbs<2 ^ 200:=Q4 h1.pN (by decide);have q2:(eL xs / x.2).natAbs<=2 ^ 2800:=Ra (SA _ _) hb.2.1;rw[TJ];exact V1 q1 q2 (Vg (by decide))
end
end Flo
namespace Nwb
open PySem L2 DL Com
def QO:Oj (.tup []) (.tup es)=.ok (.tup es):=rfl
end Nwb
namespace Flo
open PySem L2 DL Com
open K35 (fI)
def wF(g:fK->Int):List fK->List Int->Int
 |t::ts,x::as=>x*g t+wF g ts as
 |_,_=>0
theorem J5:∀{ts:List fK}{as:List Int},eg q ts as=wF (ek q) ts as
 |[],as=>by cases as<;>rfl
 |t::ts,[]=>rfl
 |t::ts,x::as=>by show x*ek q t+eg q ts as=x*ek q t+wF (ek q) ts as;rw[J5]
theorem JR{f g h:fK->Int}(e:∀t,f t=g t+h t):∀{ts:List fK}{as:List Int},wF f ts as=wF g ts as+wF h ts as
 |[],as=>by cases as<;>rfl
 |t::ts,[]=>rfl
 |t::ts,x::as=>by
  show x*f t+wF f ts as=(x*g t+wF g ts as)+(x*h t+wF h ts as);rw[JR e,e,Int.mul_add];omega
theorem Eb(e:∀t,g t=0):∀{ts:List fK}{as:List Int},wF g ts as=0
 |[],as=>by cases as<;>rfl
 |t::ts,[]=>rfl
 |t::ts,x::as=>by show x*g t+wF g ts as=0;rw[Eb e,e];omega
def LM(L:bv)(s:Ro):Int:=if s∈L then 1 else 0
def cr(L:bv)(t:fK):Int:=LM L t.a-LM L t.b
def yJ(h:q∉L):LM (q::L) s=(if s=q then 1 else 0)+LM L s:=by
 unfold LM
 by_cases c:s=q
 .subst c;rw[if_pos Q3,if_pos rfl,if_neg h];rfl
 .rw[if_neg c]
  by_cases d:s∈L
  .rw[if_pos (QX _ d),if_pos d];rfl
  .rw[if_neg (λz=>by rcases Rh.mp z with z|z;exact c z;exact d z),if_neg d];rfl
theorem Bh:∀{L:bv},L.Nodup->(L.map λq=>eg q ts as).sum=wF (cr L) ts as
 |[],_=>by rw[Eb (λt=>by unfold cr LM;simp)];rfl
 |q::L,h=>by
  obtain⟨h1,h2⟩:=RK.mp h;rw[Q6,Te,Bh h2,JR (f:=cr (q::L)) (g:=ek q) (h:=cr L) (λt=>by
   unfold cr ek;rw[yJ h1,yJ h1];omega),J5]
theorem Bi{f:Ro->Int}{z:Ro}:∀{L:bv},L.Nodup->z∈L->(∀q∈L,q≠z->f q=0)->(L.map f).sum=f z
 |[],_,h,_=>by cases h
 |q::L,nd,h,h0=>by
  obtain⟨n1,n2⟩:=RK.mp nd;rw[Q6,Te];rcases Rh.mp h with rfl|h
  .have:∀(L:bv),(∀q∈L,f q=0)->(L.map f).sum=0:=by
    intro L
    induction L with
    |nil=>intro _;rfl
    |cons a L ih=>intro hL;rw[Q6,Te,hL a Q3,ih λb hb=>hL b (QX _ hb)];rfl
   rw[this L λa ha=>h0 a (QX _ ha) (λe=>n1 (e▸ha))];omega
  .rw[h0 q Q3 (λe=>n1 (e▸h)),Bi n2 h λa ha=>h0 a (QX _ ha)];omega
def pe(ks:ce)(L:bv):Nat->List fK->List Int->Int
 |j,t::ts,z::zs=>(if j∉ks/\fI L t=true then z else 0)+pe ks L (j+1) ts zs
 |_,_,_=>0
section
variable {ks:ce}{L:bv}{t:fK}{x z:Int}{j:Nat}
def F4(h:t.w="one"):fI L t=(decide (t.a∈L)&&!(decide (t.b∈L))):=by
 unfold fI;rw[if_neg (by rw[h];decide)]
def C5(h:t.w="both"):fI L t=(decide (t.a∈L) != decide (t.b∈L)):=by
 unfold fI;rw[if_pos h]
def Lb(hw:t.w="one"∨t.w="both")(ht:j∈ks->x=0)(h1:j∉ks->t.a∈L->t.b∉L->x=z)(h2:j∉ks->t.a∉L->t.b∈L->if t.w="one" then x=0 else x=-z):x*cr L t=if j∉ks/\fI L t=true then z else 0:=by
 by_cases c:j∈ks
 .rw[ht c,if_neg (λh=>h.1 c)];omega
 .unfold cr LM
  rcases hw with h|h
  .rw[F4 h]
   rw[if_pos h]at h2
   by_cases a:t.a∈L<;>by_cases b:t.b∈L<;>simp[a,b,c]
   .exact h1 c a b
   .exact h2 c a b
  .rw[C5 h]
   rw[if_neg (by rw[h];decide)]at h2
   by_cases a:t.a∈L<;>by_cases b:t.b∈L<;>simp[a,b,c]
   .exact h1 c a b
   .have:=h2 c a b;omega
def wj:dB (y::as) (i+1)=dB as i:=rfl
theorem MV:∀{ts:List fK}{zs as:List Int}{j:Nat},zs.length=ts.length->as.length=ts.length->(∀i t,ts[i]?=some t->(dB as i)*cr L t=if j+i∉ks/\fI L t=true then dB zs i else 0)->wF (cr L) ts as=pe ks L j ts zs
 |[],zs,as,j,_,_,_=>by
  have h1:wF (cr L) [] as=0:=by cases as<;>rfl
  have h2:pe ks L j [] zs=0:=by cases zs<;>rfl
  omega
 |t::ts,[],as,j,h,_,_=>by simp at h
 |t::ts,z::zs,[],j,_,h,_=>by simp at h
 |t::ts,z::zs,x::as,j,h1,h2,h=>by
  have ih:=MV (ts:=ts) (zs:=zs) (as:=as) (j:=j+1) (by simpa using h1) (by simpa using h2) (λi u hu=>by
   have:=h (i+1) u hu;rw[wj,wj,show j+(i+1)=j+1+i by omega]at this;exact this)
  have h0:x*cr L t=if j∉ks/\fI L t=true then z else 0:=h 0 t rfl
  show x*cr L t+wF (cr L) ts as=(if j∉ks/\fI L t=true then z else 0)+pe ks L (j+1) ts zs;omega
end
structure A8 (w:jr) (ks:ce) (as:List Int):Prop where
 tk:∀k∈ks,dB as k=0
 bal:∀q,q≠w.fi->q≠w.la->eg q w.ts as=0
theorem B4:∀{p:List Tn}{a k:Ro},Lk a p k->(p.map (G8 q)).sum=(if a=q then 1 else 0)-(if k=q then 1 else 0)
 |[],a,k,h=>by obtain rfl:a=k:=h;simp
 |t::p,a,k,⟨h1,h2⟩=>by
  rw[Q6,Te,B4 h2];unfold G8;rw[h1];omega
theorem xY{k:Nat}:∀{p:List Tn}{as:List Int},(∀s∈p,∃j:Nat,s.n=(j:Int)/\j<as.length/\j≠k)->dB (p.foldl (eC m) as) k=dB as k
 |[],as,_=>rfl
 |s::p,as,h=>by
  obtain⟨j,e1,e2,e3⟩:=h s Q3;rw[S9,xY (λu hu=>by rw[lD];exact h u (QX _ hu)),rg e1 e2,if_neg (R7 e3)]
section
variable {w:jr}{zs as:List Int}{ks:ce}{G:List qe}{p:List Tn}
def AG(A:ee w zs as)(H:Bf (cx w zs ks as) w.fi G)(hp:cZ G w.la=some p)(K:A8 w ks as):A8 w ks (p.foldl (eC (fw p)) as):=by
 have hm:=jC hp;have lk:Lk w.fi p w.la:=H.lk _ hm;have hin:∀s∈p,s∈cx w zs ks as:=λs hs=>(H.tk _ hm s hs).1;refine⟨λk hk=>?_,λq q1 q2=>?_⟩
 .rw[xY (λs hs=>?_)]
  .exact K.tk k hk
  .obtain⟨j,t,e1,e2,e3,_⟩:=jN (hin s hs)
   exact⟨j,e1,by rw[A.1];exact(Q5.mp e2).1,λc=>e3 (c▸hk)⟩
 .rw[oM A.1 (λs hs=>xN (hin s hs)),B4 lk,if_neg (R7 q1),if_neg (R7 q2),K.bal q q1 q2];omega
def NZ:A8 w ks (gb w.ts.length):=⟨λ_ _=>wg,λ_ _ _=>oR _ _⟩
def M0(W:dU w)(hz:zs.length=w.ts.length)(A:ee w zs as)(K:A8 w ks as)(S:zC (cx w zs ks as) G)(nd:L.Nodup)(hL:∀q∈w.ps,q∈L↔(cZ G q).isSome=true)(hf:w.fi∈L)(hl:w.la∉L):eg w.fi w.ts as=pe ks L 0 w.ts zs:=by
 rw[←Bi (f:=λq=>eg q w.ts as) nd hf (λq hq e=>K.bal q e (λc=>hl (c▸hq))),Bh nd];refine MV hz A.1 λi t ht=>?_;rw[Sn];have T:=W.ts t (Rb ht);have mem:∀s,s∈w.ps->(s∈L↔s∈G.map (·.1)):=λs hs=>by
  rw[hL s hs];cases e:cZ G s with|none=>exact⟨λh=>(nomatch h),λh=>absurd h (iD.mp e)⟩|some p=>exact⟨λ_=>Rl.mpr ⟨_,jC e,rfl⟩,λ_=>rfl⟩
 have inl:∀s∈jv zs as i t,i∉ks->0<s.c->s∈cx w zs ks as:=λs hs hk hc=>by
  unfold cx;refine Sg.mpr ⟨uI.mpr ⟨i,t,ht,?_,?_⟩,decide_eq_true hc⟩
  .rw[Sn];exact hk
  .rw[Sn];exact hs
 have Kc:=A.2 i t ht;refine Lb T.w (K.tk i) (λhk ha hb=>?_) (λhk ha hb=>?_)
 .have h1:=Kc.1
  by_cases c:dB as i<dB zs i
  .have:=S _ (inl ⟨(i:Int),1,t.a,t.b,dB zs i-dB as i⟩ (by unfold jv;exact Q3) hk (by show 0<dB zs i-dB as i;omega)) ((mem _ T.a).mp ha)
   exact absurd ((mem _ T.b).mpr this) hb
  .omega
 .have hb':¬0<lh zs as i t:=λc=>by
   have:=S _ (inl ⟨(i:Int),-1,t.b,t.a,lh zs as i t⟩ (by unfold jv;exact QX _ Q3) hk c) ((mem _ T.b).mp hb);exact absurd ((mem _ T.a).mpr this) ha
  have h2:=Kc.2;unfold lh at hb'
  by_cases c:t.w="one"
  .rw[if_pos c]at hb' h2;rw[if_pos c];omega
  .rw[if_neg c]at hb' h2;rw[if_neg c];omega
end
open K35 (fI mS cR)
theorem xc:∀{ts:List fK}{as:List Int},K36.ips P ts as=eg P ts as
 |[],as=>by cases as<;>rfl
 |t::ts,[]=>rfl
 |t::ts,x::as=>by
  show K36.ip P t x+K36.ips P ts as=x*ek P t+eg P ts as;rw[xc];unfold K36.ip ek
  by_cases a:t.a=P<;>by_cases b:t.b=P<;>simp[a,b]
def w4:(c9 a b).2∣b:=⟨(RD a b:Int),(UI (Ut ..)).symm⟩
def rY(hb:0<b):(c9 a b).1*(b / (c9 a b).2)=a:=by
 have h1:(c9 a b).2*(RD a b:Int)=b:=UI (Ut ..);have h2:(c9 a b).1*(RD a b:Int)=a:=UI (UA ..);have hp:=(fq (a:=a) hb).q1;generalize c9 a b=L at *;have h3:b / L.2=(RD a b:Int):=by
  conv=>lhs;rw[←h1]
  exact Si _ (by omega)
 rw[h3,h2]
theorem vG:∀{ts:List fK}{xs:List cA}{x:cA},x∈K36.parts P ts xs->∃y∈xs,x.2=y.2
 |[],xs,x,h=>by cases xs<;>simp[K36.parts]at h
 |t::ts,[],x,h=>by simp[K36.parts]at h
 |t::ts,y::ys,x,h=>by
  unfold K36.parts at h;rcases Rv.mp h with h|h
  .refine⟨y,Q3,?_⟩
   unfold K36.part at h;rcases Rv.mp h with h|h
   .split at h
    .rw[RP.mp h];rfl
    .cases h
   .split at h
    .rw[RP.mp h];rfl
    .cases h
  .obtain⟨z,hz,e⟩:=vG h
   exact⟨z,QX _ hz,e⟩
def vy(hd:∀x∈P,x.2∣b)(hp:0<(mN P).2):(c9 (mN P).1 (mN P).2).1*b=xG (P.map λx=>x.1*(b / x.2))*(c9 (mN P).1 (mN P).2).2:=by
 have h:=oH (b:=b) P (0,1) 0 hd (by show(0:Int)*_=0*1;omega);rw[Wu]at h;change (mN P).1*b=_*(mN P).2 at h;have hr:=lH (a:=(mN P).1) (b:=(mN P).2);generalize c9 (mN P).1 (mN P).2=L at *;generalize xG (P.map λx=>x.1*(b / x.2))=Z at *;generalize mN P=T at *;refine SU (a:=T.2) (by omega) ?_;have e1:L.1*b*T.2=(L.1*T.2)*b:=by grind
 have e2:Z*L.2*T.2=(Z*T.2)*L.2:=by grind
 rw[e1,e2,hr,←h];grind
section
variable {w:jr}{xs:List cA}{as:List Int}{ks:ce}{L:bv}{B:Int}
def DD(h14:w.ts.length<=14)(hb:0<B)(hf:∀a∈as,aU (c9 a B)):Low (K36.sumF (K36.parts w.fi w.ts (as.map λa=>c9 a B)))/\(K36.sumF (K36.parts w.fi w.ts (as.map λa=>c9 a B))).1*B=eg w.fi w.ts as*(K36.sumF (K36.parts w.fi w.ts (as.map λa=>c9 a B))).2:=by
 have hx:∀x∈as.map (λa=>c9 a B),aU x:=λx hx=>by
  obtain⟨a,ha,rfl⟩:=Rl.mp hx;exact hf a ha
 have hpl:(K36.parts w.fi w.ts (as.map λa=>c9 a B)).length<=28:=Ra K36.parts_len (by omega);have hpf:=K36.parts_fin (p:=w.fi) (ts:=w.ts) hx;have A:=jO (by omega) hpf;have hS:=K36.sum_acc (by omega) hpf;refine⟨hS.2,?_⟩;have e:=vy (b:=B) (P:=K36.parts w.fi w.ts (as.map λa=>c9 a B)) (λx hx=>by
  obtain⟨y,hy,e⟩:=vG hx;obtain⟨a,_,rfl⟩:=Rl.mp hy;rw[e];exact w4) A.pos
 rw[←K36.ips_parts,xc,RV]at e;have e2:as.map ((λx:cA=>x.1*(B / x.2))∘λa=>c9 a B)=as:=by
  conv=>rhs;rw[←WL as]
  exact Tx λa _=>rY hb
 rw[e2]at e;exact e
def Ac(n:Nat):R4 (n+1)=0::(R4 n).map (· + 1):=by
 rw[U9]
def IV(ks:ce)(L:bv)(j:Nat)(ts:List fK)(k:Nat):Bool:=!(decide (j+k∈ks))&&(match ts[k]? with|some t=>fI L t|none=>false)
theorem B8:∀{ts:List fK}{zs:List Int}{j:Nat},zs.length=ts.length->pe ks L j ts zs=xG (((R4 ts.length).filter (IV ks L j ts)).map (dB zs))
 |[],zs,j,_=>by cases zs<;>rfl
 |t::ts,[],j,h=>by simp at h
 |t::ts,z::zs,j,h=>by
  have ih:=B8 (ts:=ts) (zs:=zs) (j:=j+1) (by simpa using h);show(if j∉ks/\fI L t=true then z else 0)+pe ks L (j+1) ts zs=_;rw[Rt,Ac,U4,VU];have e1:(IV ks L j (t::ts)∘λk=>k+1)=IV ks L (j+1) ts:=by
   funext k;show IV ks L j (t::ts) (k+1)=_;unfold IV;rw[show j+(k+1)=j+1+k by omega,R0]
  have e0:IV ks L j (t::ts) 0=(!(decide (j∈ks))&&fI L t):=rfl;have e2:∀(l:ce),(l.map (· + 1)).map (dB (z::zs))=l.map (dB zs):=λl=>by rw[RV];rfl
  rw[e1,e0,ih]
  by_cases c:j∈ks
  .rw[if_neg (λq=>q.1 c),decide_eq_true c,UC,Sa,if_neg (by decide),e2];omega
  .rw[decide_eq_false c,Uv,Sr]
   cases d:fI L t with
   |true=>rw[if_pos ⟨c,rfl⟩,if_pos rfl,Q6,e2];rfl
   |false=>rw[if_neg (λq=>(nomatch q.2)),if_neg (by decide),e2];omega
def HL(h14:w.ts.length<=14)(hl:xs.length=w.ts.length)(hd:∀x∈xs,x.2∣B)(hf:∀x∈xs,aU x):Low (K35.sumF (cR ks L w.ts xs w.ts.length))/\(K35.sumF (cR ks L w.ts xs w.ts.length)).1*B=pe ks L 0 w.ts (xs.map λx=>x.1*(B / x.2))*(K35.sumF (cR ks L w.ts xs w.ts.length)).2:=by
 have hpl:(cR ks L w.ts xs w.ts.length).length<=14:=Ra K35.roomF_len h14;have hpf:=K35.roomF_fin (ks:=ks) (ss:=L) (ts:=w.ts) (n:=w.ts.length) hf;have A:=jO (by omega) hpf;have hS:=K35.sum_acc (by omega) hpf;refine⟨hS.2,?_⟩;have key:∀k∈mS ks L w.ts w.ts.length,k<xs.length:=λk hk=>by
  have:=Ti.mp (Sg.mp hk).1;omega
 have e:=vy (b:=B) (P:=cR ks L w.ts xs w.ts.length) (λx hx=>by
  obtain⟨k,hk,rfl⟩:=Rl.mp hx;have:=key k hk;rw[To,QW this];exact hd _ (Sq this)) A.pos
 have e2:(cR ks L w.ts xs w.ts.length).map (λx=>x.1*(B / x.2))=((R4 w.ts.length).filter (IV ks L 0 w.ts)).map (dB (xs.map λx=>x.1*(B / x.2))):=by
  unfold cR;rw[RV];have e3:(R4 w.ts.length).filter (IV ks L 0 w.ts)=mS ks L w.ts w.ts.length:=by
   unfold mS
   congr 1
   funext k;unfold IV;rw[Sn];first|done|rfl
  rw[e3];refine Tx λk hk=>?_;have:=key k hk;show(λx:cA=>x.1*(B / x.2)) (xs.getD k (0,1))=dB _ k;unfold dB;rw[To,Q7,QW this];rfl
 rw[e2,←B8 (by rw[Q0];exact hl)]at e;exact e
def Ee{V:Int}(hA:Low A)(hR:Low R)(hb:0<B)(a:A.1*B=V*A.2)(r:R.1*B=V*R.2):A=R:=by
 refine yy hA hR (SU (a:=B) (by omega) ?_);have e1:A.1*R.2*B=(A.1*B)*R.2:=by grind
 have e2:R.1*A.2*B=(R.1*B)*A.2:=by grind
 rw[e1,e2,a,r];grind
end
def MM:Int:=2329089562800
end Flo
namespace K40
open PySem L2 DL Com Flo
open K35 (fI mS cR)
def Dy(hb:0<b)(hx:0<x.2)(h1:b∣M)(h2:x.2∣M):gM b x∣M:=by
 have h:(Int.lcm b x.2:Int)∣M:=Int.coe_lcm_dvd h1 h2;have e:gM b x=(Int.lcm b x.2:Int):=by
  unfold gM;obtain⟨n,rfl⟩:=Sb (show 0<=b by omega);obtain⟨m,hm⟩:=Sb (show 0<=x.2 by omega);rw[hm];show((n:Int) / ((Nat.gcd n m:Nat):Int))*(m:Int)=((Nat.lcm n m:Nat):Int);unfold Nat.lcm;rw[Wo n m,Nat.mul_div_assoc _ (Nat.gcd_dvd_left n m),Wo m]
  push_cast
  rfl
 rw[e];exact h
theorem Cc{M:Int}:∀(xs:List cA) (b:Int),0<b->b∣M->(∀x∈xs,aU x/\x.2∣M)->xs.foldl gM b∣M
 |[],b,_,h,_=>h
 |x::xs,b,hb,h,hx=>by
  rw[S9];obtain⟨f,d⟩:=hx x Q3;have hp:=f.q1;have e:=Dy hb (x:=x) (by omega) h d;refine Cc xs _ ?_ e λy hy=>hx y (QX _ hy);unfold gM;have hg:0<(RD b x.2:Int):=by
   have:=Int.gcd_pos_of_ne_zero_left x.2 (show b≠0 by omega);omega
  exact T5 (V4 hb (by omega) (UA ..)) (by omega)
structure Rms (w:jr) (xs:List cA):Prop where
 r:DN w xs
 d:∀x∈xs,x.2∣MM
 s:∀x∈xs,x.1<=2000000000000000000
section
variable {w:jr}{xs:List cA}{ks:ce}(W:dU w) (X:Rms w xs)
include W X
theorem bX:0<eL xs/\eL xs∣MM/\eL xs<=MM/\∀x∈xs,x.2∣eL xs:=by
 have hb:=Ce W X.r;have hd:eL xs∣MM:=Cc xs 1 (by decide) (Int.one_dvd _) λx hx=>⟨(X.r.f x hx).1,X.d x hx⟩
 exact⟨hb.1,hd,Int.le_of_dvd (by decide) hd,hb.2.2⟩
theorem zX(k:Nat):dB (zR xs) k<=2000000000000000000*MM:=by
 obtain⟨h1,_,h3,h4⟩:=bX W X;unfold dB zR;rw[Q7];cases e:xs[k]? with
 |none=>show(0:Int)<=_;decide
 |some x=>
  have hx:=Rb e;have a:=X.s x hx;have p:=(X.r.f x hx).1.q1;have n:=(X.r.f x hx).2;show x.1*(eL xs / x.2)<=_;have q0:0<=eL xs / x.2:=Uj (by omega) (by omega);have q1:eL xs / x.2<=MM:=Int.le_trans (Int.ediv_le_self _ (by omega)) h3;exact Int.mul_le_mul a q1 q0 (by decide)
theorem finA(A:ee w (zR xs) as):∀a∈as,aU (c9 a (eL xs)):=by
 obtain⟨h1,_,h3,_⟩:=bX W X;intro a ha;obtain⟨k,hk,e⟩:=Vj.mp ha;have ea:dB as k=a:=by unfold dB;rw[QW hk,e];rfl
 have hkt:k<w.ts.length:=by rw[←A.1];exact hk
 have Z:=D3 W X.r;have f:=(A.2 k _ (QW hkt)).abs (Z.nn k);rw[ea]at f;have g:=zX W X k;have n:=Z.nn k;have m1:(2000000000000000000*MM).natAbs<kz:=by decide
 have m2:MM.natAbs<kz:=by decide
 refine⟨fq h1,Rp lJ ?_,Rp lI ?_⟩<;>omega
end
section
variable {w:jr}{xs:List cA}{ks:ce}(W:dU w) (R:DN w xs) (T:kn w ks)
include W R
theorem roomsN:m_look_at_rooms [aK w,.lst (xs.map fr)]=.ok .non:=by
 have h1:=zO W;have h2:=LR W R;open_line with[m_look_at_rooms,dR,h1,h2]
end
open K35 (fI mS cR)
open K54 (qK m9)
theorem BX{α β:Type}{f:α->β}:∀{l:List α},(l.filterMap λa=>some (f a))=l.map f
 |[]=>rfl
 |a::l=>by rw[SX,Q6];simp only;rw[BX]
end K40
namespace DL
open PySem PySem.Spec PyProof.Rows L2
def JU(o:Obj):Option Q9:=match o.data with
 |.func fd=>match fd.code with
  |.ref c=>some c
  |_=>none
 |_=>none
def En(K:Q2):List (Option Q9×Q9×Array QY):=K.filterMap λp=>(wx K p.2).map λq=>(JU p.2,q)
def Cz{K:Q2}(h:(P,d)∈gW K):∃c,(c,P,d)∈En K:=by
 obtain⟨p,hp,e⟩:=Tj.mp h;exact⟨JU p.2,Tj.mpr ⟨p,hp,by rw[e];rfl⟩⟩
theorem m5{P:Q9}{d:Array QY}:∀{l:List (Q9×Array QY)},(l.map (·.1)).Nodup->(P,d)∈l->l.lookup P=some d
 |[],_,h=>by cases h
 |(Q,e)::r,nd,h=>by
  rw[Q6]at nd;obtain⟨n1,n2⟩:=RK.mp nd;rw[So];rcases Rh.mp h with h2|h2
  .cases h2;rw[beq_self_eq_true]
  .have ne:(P==Q)=false:=by
    rw[beq_eq_false_iff_ne];rintro rfl;exact n1 (Ta (f:=(·.1)) h2)
   rw[ne];exact m5 n2 h2
def Em(K:Q2)(ts:List Q9):Bool:=(En K).all λq=>(match q.1 with
 |some c=>VZ K c q.2.1
 |none=>false)&&(K.lookup q.2.1).isNone&&ts.contains q.2.1
def tabsStart_mk{K:Q2}{h:RA}(kin:K.In h)(tabs:∀P∈ts,h.get? P=some (W.tabObj #[]))(e:Em K ts=true)(nd:decide ((gW K).map (·.1)).Nodup=true):L2.TabsStart K h:=λP d hm=>by
 obtain⟨c,hc⟩:=Cz hm;have q:=Ru.mp e _ hc;rw[Rn,Rn]at q;obtain⟨⟨q1,q2⟩,q3⟩:=q;refine⟨?_,tabs P (by simpa using q3),by simpa using q2,m5 (of_decide_eq_true nd) hm⟩;cases c with|none=>cases q1|some c=>exact⟨c,W.codeHd_of_K kin q1⟩
noncomputable def F8(K:Q2) (a:Q9) (q:Ro) (l c:Int):Bool:=match K.lookup a with
 |some ⟨_,_,.func fd,_⟩=>match fd.code with
  |.ref c0=>(En K).any λr=>r.1==some c0&&VZ K c0 r.2.1&&(match r.2.2.toList with
   |[.int l' 0,.int c' 0,.str q' 0]=>l'==l&&c'==c&&q'==q
   |_=>false)
  |_=>false
 |_=>false
def lamAt_mk{K:Q2}(e:F8 K a q F.pos.line F.pos.col=true)(l:(vK K).lookup q=some F):G0 K a q F:=by
 unfold F8 at e;split at e
 .rename_i oc od fd sl hk
  split at e
  .rename_i c0 hc
   obtain⟨⟨co,P,d⟩,hr,e⟩:=List.any_eq_true.mp e;rw[Rn,Rn]at e;obtain⟨⟨_,e2⟩,e3⟩:=e;obtain⟨p,hp,e4⟩:=Tj.mp hr;have hm:(P,d)∈gW K:=by
    refine Tj.mpr ⟨p,hp,?_⟩;cases z:wx K p.2 with|none=>rw[z]at e4;cases e4|some r=>rw[z]at e4;cases e4;rfl
   split at e3
   .rename_i l' c' q' hd
    rw[Rn,Rn]at e3;obtain⟨⟨z1,z2⟩,z3⟩:=e3;have z1:=eq_of_beq z1;have z2:=eq_of_beq z2;have z3:=eq_of_beq z3;rw[z1,z2,z3]at hd;have hd:d=#[rawInt F.pos.line,rawInt F.pos.col,.str q 0]:=by
     cases d;exact congrArg Array.mk hd
    rw[hd]at hm;exact⟨oc,od,fd,sl,c0,P,hk,hc,e2,hm,l⟩
   .cases e3
  .cases e
 .cases e
end DL
namespace K40
open PySem L2 DL Com Flo
open K35 (fI mS cR)
def QC:∀q:Nat,q<31->0<q->(q:Int)∣MM:=by decide
def Rd(x:cA):Prop:=aU x/\0<=x.1/\x.2∣MM/\x.1<=1000000000000000000
def LX(hw:0<=w/\w<5)(ha:0<=a/\a<1000000000000000000)(hb:0<=b/\b<30):∃x:cA,Cod.aA [.lst [.int w,.int a,.int b]]=.ok (fr x)/\Rd x:=by
 have hN:(1000000000000000000000:Int)<(kz:Int):=by decide
 have f7:=eT (a:=a) (b:=7) (by decide);have f60:=eT (a:=a) (b:=60) (by decide);have f1000:=eT (a:=a) (b:=1000) (by decide);have f4:=eT (a:=b) (b:=4) (by decide);obtain⟨p,q,hp,hq,i1,i2⟩:∃p q:Int,(0<=p/\p<1000000000000000000)/\(1<=q/\q<31)/\aC (.lst [.int 0,.int (a.fmod 7),.int (a.fmod 60),.int a,.int (a.fmod 1000)]) (.int w)=.ok (.int p)/\aC (.lst [.int 1,.int 1,.int (1+b),.int 1,.int (1+b.fmod 4)]) (.int w)=.ok (.int q):=by
  have:w=0∨w=1∨w=2∨w=3∨w=4:=by omega
  rcases this with rfl|rfl|rfl|rfl|rfl
  .exact⟨0,1,by decide,by decide,rfl,rfl⟩
  .exact⟨a.fmod 7,1,by omega,by decide,rfl,rfl⟩
  .exact⟨a.fmod 60,1+b,by omega,by omega,rfl,rfl⟩
  .exact⟨a,1,by omega,by decide,rfl,rfl⟩
  .exact⟨a.fmod 1000,1+b.fmod 4,by omega,by omega,rfl,rfl⟩
 have hlo:=Cod.low_ok (a:=p) (b:=q) (by omega) (II (by omega) (by omega)) (II (by omega) (by omega));have h1:(c9 p q).1.natAbs<=p.natAbs:=lJ;have h2:(c9 p q).2.natAbs<=q.natAbs:=lI;have h3:=rX (a:=p) (b:=q) (by omega) (by omega);have h4:=fq (a:=p) (b:=q) (by omega);have h5:=h4.q1;refine⟨c9 p q,?_,⟨h4,?_,?_⟩,h3,?_,?_⟩
 .open_line with[Cod.aA,Cod.dS,i1,i2,hlo]
 .omega
 .omega
 .obtain⟨n,hn⟩:=Sb (show 0<=(c9 p q).2 by omega)
  rw[hn];exact QC n (by omega) (by omega)
 .omega
def Br{ns:List Int}{c1 c2:List Int}(hc:Cod.aI [.lst (ns.map D.int)]=.ok (.tup [.lst (c1.map D.int),.lst (c2.map D.int)]))(h14:c1.length<=14):∃xs:List cA,aZ [.lst (ns.map D.int)]=.ok (.lst (xs.map fr))/\xs.length=c1.length/\∀x∈xs,Rd x:=by
 have key:∀c:Int,∃x:cA,(∀ρ:Ev,ρ[0]?=some (.sh (.int c))->ρ[1]?=some (.sh (.lst [.int 420,.int 60,.int 2,.int 5,.int 1000000000000000000,.int 30,.int 6,.int 5,.int 1000000000000000000,.int 30,.int 3,.int 5,.int 1000000000000000000,.int 30]))->(ao (af (gK (ao (af (ae 0) (af (ae 1) ax)) Cod.aD) (cD (dC (.int 11))) fD) ax) Cod.aA) ρ=.ok (fr x))/\Rd x:=λc=>by
  obtain⟨vs,hd,V⟩:=Cod.draws_ok c [420,60,2,5,1000000000000000000,30,6,5,1000000000000000000,30,3,5,1000000000000000000,30] (by decide) (by decide);have hvl:vs.length=14:=V.len;obtain⟨v11,g11,b11,_⟩:=V.ix 11 11 rfl rfl;obtain⟨v12,g12,b12,_⟩:=V.ix 12 12 rfl rfl;obtain⟨v13,g13,b13,_⟩:=V.ix 13 13 rfl rfl;obtain⟨x,hx,fx⟩:=LX (w:=v11) (a:=v12) (b:=v13) b11 b12 b13;refine⟨x,λρ h0 h1=>?_,fx⟩;have hcut:l4 (vs.map D.int) (some 11) none=[.int v11,.int v12,.int v13]:=by
   rw[j6,HT.sIx_none,show(11:Int)=((11:Nat):Int) from rfl,HT.sIx_nat,hvl];have:=Ek (i:=11) g11 g12 g13;show((vs.drop 11).take 3).map D.int=_;rw[this];rfl
  have hd':Cod.aD [.int c,.lst [.int 420,.int 60,.int 2,.int 5,.int 1000000000000000000,.int 30,.int 6,.int 5,.int 1000000000000000000,.int 30,.int 3,.int 5,.int 1000000000000000000,.int 30]]=.ok (.lst (vs.map D.int)):=hd;generalize vs.map D.int=Q at *;open_line with[h0,h1,hd',hcut,hx]
 obtain⟨g,hg⟩:=Classical.axiomOfChoice key;refine⟨c1.map g,?_,by simp,λx hx=>?_⟩
 .have hcomp:dQ 1 [1] (bF 0) mYes (ao (af (gK (ao (af (ae 0) (af (ae 1) ax)) Cod.aD) (cD (dC (.int 11))) fD) ax) Cod.aA) [.sh (.lst (ns.map D.int)),.sh (.lst [.int 420,.int 60,.int 2,.int 5,.int 1000000000000000000,.int 30,.int 6,.int 5,.int 1000000000000000000,.int 30,.int 3,.int 5,.int 1000000000000000000,.int 30])] (c1.map D.int)=.ok (.lst ((c1.map g).map fr)):=by
   rw[K51.comp_pick D.int (λv=>some (fr (g v))) (by omega)]
   .rw[BX,RV];rfl
   .intro c _
    exact⟨[.sh (.int c),.sh (.lst [.int 420,.int 60,.int 2,.int 5,.int 1000000000000000000,.int 30,.int 6,.int 5,.int 1000000000000000000,.int 30,.int 3,.int 5,.int 1000000000000000000,.int 30])],rfl,.inr ⟨_,rfl,rfl,(hg c).1 _ rfl rfl⟩⟩
  have p18:kr (.int 10) (.int 18)=.ok (.int 1000000000000000000):=rfl;have er:aZ=K34.aZ:=rfl;have ed:K34.aD=Cod.aD:=rfl;have ef:K34.aA=Cod.aA:=rfl;have ec:K34.aI=Cod.aI:=rfl;rw[er];open_line with[K34.aZ,K34.dM,p18,ed,ef,ec,hc,hcomp]
 .obtain⟨c,_,rfl⟩:=Rl.mp hx
  exact(hg c).2
section
variable {w:jr}{xs:List cA}{ks:ce}
def E1(hl:xs.length=w.ts.length)(h:∀x∈xs,Rd x):Rms w xs:=⟨⟨hl,λx hx=>⟨(h x hx).1,(h x hx).2.1⟩⟩,λx hx=>(h x hx).2.2.1,λx hx=>by have:=(h x hx).2.2.2;omega⟩
theorem cut_bd{L:bv}{M:Int}:∀{ts:List fK}{zs:List Int}{j:Nat},0<=M->(∀z∈zs,0<=z/\z<=M)->0<=pe ks L j ts zs/\pe ks L j ts zs<=ts.length*M
 |[],zs,j,_,_=>by
  have h:pe ks L j [] zs=0:=by cases zs<;>rfl
  rw[h];simp
 |t::ts,[],j,h,_=>⟨VR _,SE (by omega) h⟩
 |t::ts,z::zs,j,h0,h=>by
  obtain⟨a,b⟩:=cut_bd (L:=L) (ts:=ts) (zs:=zs) (j:=j+1) h0 λy hy=>h y (QX _ hy);obtain⟨c,d⟩:=h z Q3;show 0<=(if j∉ks/\fI L t=true then z else 0)+pe ks L (j+1) ts zs/\(if j∉ks/\fI L t=true then z else 0)+pe ks L (j+1) ts zs<=((ts.length+1:Nat):Int)*M;have e:((ts.length+1:Nat):Int)*M=ts.length*M+M:=by rw[Int.natCast_add,Int.add_mul];simp
  rw[e];split<;>omega
def Bg(T:kn w ks)(p:Nat->Bool):kn w (ks.filter p):=⟨WN _ T.up,λk hk=>T.wo k (Sg.mp hk).1⟩
end
theorem lF{p:Nat->Bool}:∀(ks:ce),(ks.filterMap λk=>if p k=true then some (D.int (k:Int)) else none)=(ks.filter p).map λ(k:Nat)=>D.int (k:Int)
 |[]=>rfl
 |k::ks=>by
  rw[SX,U4]
  by_cases h:p k=true
  .simp only[if_pos h,Q6,lF ks]
  .simp only[if_neg h,lF ks]
end K40
namespace K39
open PySem L2 DL
abbrev aD:ac->av D:=Cod.aD
abbrev aI:ac->av D:=Cod.aI
abbrev aA:ac->av D:=Cod.aA
abbrev aZ:ac->av D:=K34.aZ
abbrev m_look_at_web:ac->av D:=Com.m_look_at_web
abbrev m_is_tie_number:ac->av D:=Com.m_is_tie_number
abbrev m_look_at_taking:ac->av D:=Com.m_look_at_taking
end K39
namespace K39
open PySem L2 DL Com Flo
open K35 (fI mS)
open K34 (uS D0 CO kh sN)
section
variable {w:jr}{xs ys:List cA}{ks:ce}{Q:Int}
def MG(Q:Int)(ys:List cA):List Int:=ys.map λy=>y.1*(Q / y.2)
theorem oS:∀{ts:List fK}{as:List Int},eg q ts (as.map (· * c))=eg q ts as*c
 |[],as=>by
  have h:∀zs:List Int,eg q [] zs=0:=λzs=>by cases zs<;>rfl
  rw[h,h];omega
 |t::ts,[]=>by show(0:Int)=0*c;omega
 |t::ts,x::as=>by
  show x*c*ek q t+eg q ts (as.map (· * c))=(x*ek q t+eg q ts as)*c;rw[oS];grind
def FD(hd:∀y∈ys,y.2∣b)(h0:∀y∈ys,0<y.2):MG (b*c) ys=(MG b ys).map (· * c):=by
 unfold MG;rw[RV];refine Tx λy hy=>?_;obtain⟨m,rfl⟩:=hd y hy;have:=h0 y hy;show y.1*(y.2*m*c / y.2)=y.1*(y.2*m / y.2)*c;rw[Wi,Si _ (by omega),Si _ (by omega)];grind
structure GoodF (w:jr) (xs:List cA) (ks:ce) (ys:List cA):Prop where
 a:∀k,k<w.ts.length->D0 w xs ks (ys.map fr) k=true
 p:∀k,k<w.ps.length->CO w ys k=true
def IU(hx:xs.length=w.ts.length)(hy:ys.length=w.ts.length)(hf:∀y∈ys,aU y){k:Nat}(h:w.ts[k]?=some t):∃r y,xs[k]?=some r/\ys[k]?=some y/\D0 w xs ks (ys.map fr) k=((if decide (k∈ks)=true then y.1==0 else !(flt r ((y.1.natAbs:Int),y.2)))&&!(decide (y.1<0)&&decide (t.w="one"))):=by
 have hk:=(Q5.mp h).1;have e1:=QW (show k<xs.length by omega);have e2:=QW (show k<ys.length by omega);refine⟨_,_,e1,e2,?_⟩;unfold D0;rw[h,e1,Q7,e2];exact K34.good_low (hf _ (Sq _)).toLow
def L3{r y:cA}(hr:0<r.2)(hy:0<y.2)(h1:r.2∣Q)(h2:y.2∣Q)(hQ:0<Q):flt r ((y.1.natAbs:Int),y.2)=false↔(y.1*(Q / y.2)).natAbs<=(r.1*(Q / r.2)):=by
 obtain⟨a,rfl⟩:=h1;obtain⟨b,hb⟩:=h2;rw[Si _ (by omega)];have e:r.2*a / y.2=b:=by rw[hb];exact Si _ (by omega)
 have hb0:0<b:=by
  have:0<b*y.2:=by rw[Us];omega
  by_cases c:0<b
  .exact c
  .have:=SE (show 0<=-b by omega) (show 0<=y.2 by omega)
   rw[UX]at this;omega
 rw[e,TJ];unfold flt;have hc:((y.1.natAbs*b.natAbs:Nat):Int)=(y.1.natAbs:Int)*b:=by
  rw[Int.natCast_mul,Int.natAbs_of_nonneg (show 0<=b by omega)]
 rw[decide_eq_false_iff_not,hc];show ¬(r.1*y.2<(y.1.natAbs:Int)*r.2)↔_;generalize (y.1.natAbs:Int)=n at *;have k1:n*b*(r.2*y.2)=n*r.2*(y.2*b):=by grind
 have k2:r.1*a*(r.2*y.2)=r.1*y.2*(r.2*a):=by grind
 have hp:0<r.2*y.2:=T5 hr hy;constructor
 .intro h
  have h':n*r.2<=r.1*y.2:=by omega
  have:=VL h' (show 0<=r.2*a by omega);rw[←k2,hb,←k1]at this;exact Int.le_of_mul_le_mul_right this hp
 .intro h g
  have:=Int.mul_lt_mul_of_pos_right g hQ;have h2:=VL h (show 0<=r.2*y.2 by omega);rw[k1,k2]at h2;rw[←hb]at h2;omega
def Mi{p q:Prop}[Decidable p][Decidable q]:(!(decide p&&decide q))=true↔¬(p/\q):=by
 by_cases a:p<;>by_cases b:q<;>simp[a,b]
def Hz:uS ys=MG (eL ys) ys:=rfl
def vM(S:K34.Su w xs ks)(hf:∀a∈as,aU (c9 a (eL xs)))(A:ee w (zR xs) as)(K:A8 w ks as)(h0:0<=eg w.fi w.ts as):GoodF w xs ks (as.map λa=>c9 a (eL xs)):=by
 have bx:=K34.bot_pos (xs:=xs) λx hx=>(S.rf x hx).1;have hyl:(as.map λa=>c9 a (eL xs)).length=w.ts.length:=by rw[Q0];exact A.1
 have hyf:∀y∈as.map (λa=>c9 a (eL xs)),aU y:=λy h=>by
  obtain⟨a,ha,rfl⟩:=Rl.mp h;exact hf a ha
 have by_:=K34.bot_pos hyf;have eB:MG (eL xs) (as.map λa=>c9 a (eL xs))=as:=by
  unfold MG;rw[RV]
  conv=>rhs;rw[←WL as]
  exact Tx λa _=>rY bx.1
 have eS:∀q,eg q w.ts (uS (as.map λa=>c9 a (eL xs)))*eL xs=eg q w.ts as*eL (as.map λa=>c9 a (eL xs)):=λq=>by
  rw[Hz,←oS,←FD by_.2 (λy h=>by have:=(hyf y h).q1;omega),Us,FD (λy h=>by
   obtain⟨a,_,rfl⟩:=Rl.mp h;exact w4) (λy h=>by have:=(hyf y h).q1;omega),oS,eB]
 refine⟨λk hk=>?_,λk hk=>?_⟩
 .have ht:=QW hk
  obtain⟨r,y,e1,e2,e3⟩:=IU (ks:=ks) S.rl hyl hyf ht;rw[e3,Rn,Mi];rw[Q7]at e2;obtain⟨a,ea,ey⟩:=U7.mp e2;have ha:dB as k=a:=by unfold dB;rw[ea];rfl
  have hr:=S.rf r (Rb e1);have r1:=hr.1.q1;obtain⟨f1,f2⟩:=A.2 k _ ht;have hz:dB (zR xs) k=r.1*(eL xs / r.2):=by unfold dB zR;rw[Q7,e1];rfl
  rw[ha,hz]at f1 f2;have hrel:=rY (a:=a) bx.1;have l1:=(fq (a:=a) bx.1).q1;have ld:=w4 (a:=a) (b:=eL xs);rw[ey]at hrel l1 ld;have qn:0<=eL xs / y.2:=Uj (by have:=bx.1;omega) (by omega);have rn:0<=r.1*(eL xs / r.2):=SE hr.2 (Uj (by have:=bx.1;omega) (by omega));have hqp:0<eL xs / y.2:=by
   obtain⟨m,hm⟩:=ld;rw[hm,Si _ (by omega)];have:=bx.1
   by_cases c:0<m
   .exact c
   .have:=SE (show 0<=y.2 by omega) (show 0<=-m by omega)
    rw[Int.mul_neg]at this;omega
  refine⟨?_,?_⟩
  .by_cases c:k∈ks
   .rw[decide_eq_true c,if_pos rfl]
    have:=K.tk k c;rw[ha]at this;rw[this]at hrel;rcases Vb.mp hrel with z|z
    .rw[z];rfl
    .omega
   .rw[decide_eq_false c,if_neg (by decide)]
    have:=(L3 (r:=r) (y:=y) (by omega) (by omega) (bx.2 r (Rb e1)) ld bx.1).mpr (by
     rw[hrel];split at f2<;>omega)
    rw[this];rfl
  .rintro⟨n,c⟩
   rw[if_pos c]at f2;have:=T5 (show 0 < -y.1 by omega) hqp;rw[UX,hrel]at this;omega
 .unfold CO sN
  rw[QW hk];simp only;have bp:=by_.1;have bq:=bx.1
  by_cases c1:w.ps[k]=w.la
  .rw[if_pos c1]
  .rw[if_neg c1]
   have e:=eS w.ps[k];show(if _ then !(decide (K36.ips _ _ _<0)) else K36.ips _ _ _==0)=true;rw[xc]
   by_cases c2:w.ps[k]=w.fi
   .rw[if_pos c2]
    rw[c2]at e ⊢;have h2:=SE h0 (show 0<=eL (as.map λa=>c9 a (eL xs)) by omega);rw[←e]at h2;rw[decide_eq_false (λn=>by
     have:=T5 (show 0 < -(eg w.fi w.ts (uS (as.map λa=>c9 a (eL xs)))) by omega) bq;rw[UX]at this;omega)];rfl
   .rw[if_neg c2]
    rw[K.bal _ c2 c1,Va]at e;rcases Vb.mp e with z|z
    .rw[z];rfl
    .omega
end
end K39
namespace K38
open PySem L2 DL Com Flo
open K35 (fI mS cR)
open K39 (vM)
def L6:Aj f ρ=(f ρ).bind Pp:=rfl
def L7:Pp (.lst ds)=.ok (.ob .pl ds):=rfl
def Am(as:List Int)(xs:List cA):List cA:=as.map λa=>c9 a (eL xs)
section
variable {w:jr}{xs:List cA}{ks:ce}(W:dU w) (R:DN w xs) (T:kn w ks)
include W R T
theorem NT:∃as' G',A8 w ks as'/\ee w (zR xs) as'/\Bf (cx w (zR xs) ks as') w.fi G'/\zC (cx w (zR xs) ks as') G'/\cZ G' w.la=none /\
  cI [aK w,.lst (xs.map fr),aS ks]=.ok (.tup [.ob .pl ((Am as' xs).map fr),.ob .pl ((iG w G').map D.str)]):=by
 have t14:=W.t14;have n7:=W.n7;have hl:=R.l;have Z:=D3 W R;have hb:=Ce W R;obtain⟨as',G',h0,h1,h2,h3,h4,h5⟩:=zq (B:=eL xs) (ks:=ks) (R:=.lst (xs.map fr)) (x5:=.no) (x6:=.no) W Z (Q:=A8 w ks) (λas G p A H hp K=>AG A H hp K) NZ;refine⟨as',G',h0,h1,h2,h3,h4,?_⟩;have r1:m_look_at_rooms [aK w,.lst (xs.map fr)]=.ok .non:=K40.roomsN W R;have r2:m_look_at_taking [aK w,aS ks]=.ok .non:=vt W T;have r3:=HH W R;have i0:aC (aK w) (.int 0)=.ok (.lst (w.ps.map D.str)):=rfl;have hn:∀A,dQ 1 [] (bF 0) mYes (dC (.int 0)) A (xs.map fr)=.ok (.lst ((gb w.ts.length).map D.int)):=λA=>by
  rw[K51.comp_pick fr (λ_=>some (.int 0)) (by omega)]
  .rw[←hl,vm]
  .intro x hx
   exact⟨[.sh (fr x)],rfl,.inr ⟨_,rfl,rfl,rfl⟩⟩
 have j0:∀d e:D,aC (.tup [d,e]) (.int 0)=.ok d:=λ_ _=>rfl;have j1:∀d e:D,aC (.tup [d,e]) (.int 1)=.ok e:=λ_ _=>rfl;have hs:∀a b c d e x,dQ 1 [5] (bF 0) (aa (ae 0) (aa (ae 1) (dC (.int 1)) aC) xu) (ae 0) [a,b,c,d,e,.sh (.tup [.lst (as'.map D.int),fB G']),x] (w.ps.map D.str)=.ok (.lst ((iG w G').map D.str)):=λa b c d e x=>by
  rw[K51.comp_pick D.str (λk=>if(cZ G' k).isSome=true then some (D.str k) else none) (by omega)]
  .rw[oQ];rfl
  .intro k hk
   have q:=LU (F:=G') (k:=k)
   by_cases h:(cZ G' k).isSome=true
   .rw[h]at q
    refine⟨[.sh (.str k),.sh (.tup [.lst (as'.map D.int),fB G'])],rfl,.inr ⟨_,if_pos h,?_,rfl⟩⟩;open_line with[j1,q]
   .rw[show(cZ G' k).isSome=false by simpa using h]at q
    refine⟨[.sh (.str k),.sh (.tup [.lst (as'.map D.int),fB G'])],rfl,.inl ⟨if_neg h,?_⟩⟩;open_line with[j1,q]
 have hr:∀a b c e f x,dQ 1 [3] (bF 0) mYes (ao (af (ae 0) (af (aa (ae 1) (dC (.int 1)) aC) ax)) m_ratio) [a,b,c,.sh (.tup [.lst ((zR xs).map D.int),.int (eL xs)]),e,f,x] (as'.map D.int)=.ok (.lst ((Am as' xs).map fr)):=λa b c e f x=>by
  rw[K51.comp_pick D.int (λa=>some (fr (c9 a (eL xs)))) (by have:=h1.1;omega)]
  .unfold Am;rw[RV,←Ux];rfl
  .intro y hy
   have q:m_ratio [.int y,.int (eL xs)]=.ok (fr (c9 y (eL xs))):=by
    obtain⟨k,hk,ek⟩:=Vj.mp hy;have hka:dB as' k=y:=by unfold dB;rw[QW hk,ek];rfl
    have hkt:k<w.ts.length:=by rw[←h1.1];exact hk
    have f:=(h1.2 k _ (QW hkt)).abs (Z.nn k);rw[hka]at f;have g:=MS W R k;have b13:2 ^ 200*2 ^ 2800<=qU:=by rw[mI,←Vi];exact Sy (by decide) (by decide)
    have b14:2 ^ 2800<qU:=by rw[mI];exact Vh (by decide) (by decide)
    exact yd hb.1 (Rp f (Q4 g b13)) (Rp hb.2.1 b14)
   refine⟨[.sh (.int y),.sh (.tup [.lst ((zR xs).map D.int),.int (eL xs)])],rfl,.inr ⟨_,rfl,rfl,?_⟩⟩;open_line with[j1,q]
 have hM:m_filled=K37.m_filled:=rfl;open_line with[cI,p7,r1,r2,r3,hn,hM,h5,j0,hs,i0,hr,L6,L7]
end
def Ji:cu=K34.cu:=rfl
def Gr(S:K34.Su w xs ks)(hy:ys.length=w.ts.length)(hf:∀y∈ys,aU y)(G:K39.GoodF w xs ks ys):cu [aK w,.lst (xs.map fr),aS ks,.lst (ys.map fr)]=.ok .non:=by
 have hB:∀d∈ys.map fr,K34.Bd d:=λd hd=>by
  obtain⟨y,h,rfl⟩:=Rl.mp hd;exact(K34.el_fr (hf y h).pN (hf y h).qN).b
 have hl:=K34.look_of S (d:=.lst (ys.map fr));obtain⟨a1,_⟩:=K34.amts_ok S (ds:=ys.map fr) (by rw[Q0];exact hy) hB;obtain⟨p1,_⟩:=K34.bal_ok (xs:=ys) S.W hy hf;have hm:K34.m_look_at_flow [aK w,.lst (xs.map fr),aS ks,.lst (ys.map fr)]=.ok .non:=by
  rw[hl,a1 G.a,p1 G.p];rfl
 obtain⟨due,e,h⟩:=K34.agree S (ds:=ys.map fr) (by rw[Q0];exact hy) hB;rw[Ji,e];rw[hm]at h;cases h;rfl
section
variable {w:jr}{xs:List cA}{ks:ce}(W:dU w) (X:K40.Rms w xs) (T:kn w ks)
include W X T
theorem Aw:∃(ys:List cA) (ss:bv),ys.length=w.ts.length/\(∀y∈ys,aU y)/\ss.length<=7/\cI [aK w,.lst (xs.map fr),aS ks]=.ok (.tup [.ob .pl (ys.map fr),.ob .pl (ss.map D.str)]) /\
  fR [aK w,.lst (xs.map fr),aS ks,.tup [.lst (ys.map fr),.lst (ss.map D.str)]]=.ok (.bl true):=by
 have t14:=W.t14;have n7:=W.n7;have R:=X.r;obtain⟨as',G',K,A',H,S,hla,hm⟩:=NT W R T;obtain⟨b0,_,bM,bd⟩:=K40.bX W X;have hfi:(cZ G' w.fi).isSome=true:=by rw[H.get H.rt];rfl
 have mfi:w.fi∈iG w G':=Sg.mpr ⟨W.fi,hfi⟩;have mla:w.la∉iG w G':=λz=>by have:=(Sg.mp z).2;rw[hla]at this;cases this
 have nds:(iG w G').Nodup:=WN _ W.nm.nd;have hfin:=K40.finA W X A';have hln:(Am as' xs).length=w.ts.length:=by unfold Am;rw[Q0];exact A'.1
 have hfl:∀x∈Am as' xs,aU x:=λx hx=>by
  obtain⟨a,ha,rfl⟩:=Rl.mp hx;exact hfin a ha
 have hgo:bP [aK w,.lst ((Am as' xs).map fr),.str w.fi]=_:=K36.going_ok (P:=w.fi) t14 hln hfl;obtain⟨lA,eA⟩:=DD (w:=w) t14 b0 hfin;obtain⟨lR,eR⟩:=HL (w:=w) (ks:=ks) (L:=iG w G') (B:=eL xs) t14 R.l bd λx hx=>(R.f x hx).1;have ez:(xs.map λx=>x.1*(eL xs / x.2))=zR xs:=rfl;have hz:(zR xs).length=w.ts.length:=by unfold zR;rw[Q0];exact R.l
 have Z:=D3 W R;have hti:=M0 W hz A' K S (L:=iG w G') nds (λq hq=>⟨λz=>(Sg.mp z).2,λz=>Sg.mpr ⟨hq,z⟩⟩) mfi mla;have h0:0<=eg w.fi w.ts as':=by
  rw[hti];refine(K40.cut_bd (M:=2000000000000000000*MM) (by decide) λz hz=>?_).1;obtain⟨k,hk,e⟩:=Vj.mp hz;have ea:dB (zR xs) k=z:=by unfold dB;rw[QW hk,e];rfl
  rw[←ea];exact⟨Z.nn k,K40.zX W X k⟩
 rw[ez,←hti]at eR;have eAR:=Ee lR lA b0 eR eA;have hro:fF [aK w,.lst (xs.map fr),aS ks,.lst ((iG w G').map D.str)]=_:=K35.law_room W R.l R.f;rw[eAR]at hro;have hfa:=Gr ⟨W,T,R.l,R.f⟩ hln hfl (vM ⟨W,T,R.l,R.f⟩ hfin A' K h0);have hsl:(iG w G').length<=7:=Ra (Vc _ _) n7;refine⟨_,_,hln,hfl,hsl,hm,?_⟩;have pl:K35.PL ((iG w G').map D.str):=⟨λd hd=>by
  obtain⟨s,hs,rfl⟩:=Rl.mp hd;have:=W.nm.nm s (Sg.mp hs).1;unfold nameB at this;simp only[Rn,decide_eq_true_eq]at this;exact decide_eq_true (Ra this.2.1 (by decide)),λd hd=>by
  obtain⟨s,_,rfl⟩:=Rl.mp hd;rfl⟩
 have his:cc [aK w,.lst ((iG w G').map D.str)]=.ok (.bl (K35.sideB w ((iG w G').map D.str))):=K35.is_side pl;have hsb:K35.sideB w ((iG w G').map D.str)=true:=by
  unfold K35.sideB;rw[qT,qT,decide_eq_true mfi,decide_eq_false mla,(show K35.gm ((iG w G').map D.str) w.ps=[] from K35.gm_sub.mpr ⟨_,rfl,WR⟩)];rfl
 rw[hsb]at his;have i2:aC (aK w) (.int 2)=.ok (.str w.fi):=rfl;have ef:∀x:cA,fJ (fr x) (fr x)=.ok (.bl true):=λx=>by rw[Vlx.eq_fr,decide_eq_true rfl]
 have hgo':bP [aK w,.lst ((Am as' xs).map fr),.str w.fi]=.ok (fr (K36.sumF (K36.parts w.fi w.ts (as'.map λa=>c9 a (eL xs))))):=hgo;generalize K36.sumF (K36.parts w.fi w.ts (as'.map λa=>c9 a (eL xs)))=AA at *;generalize D.lst ((Am as' xs).map fr)=FF at *;generalize D.lst ((iG w G').map D.str)=SS at *;generalize D.lst (xs.map fr)=XX at *;open_line with[fR,oq,hfa,his,hgo',i2,hro,ef]
end
open K40 (Rd Br E1 Bg lF)
def T1:am:=(gZ (cg (ao (af (ae 1) (af (ae 2) (af (ae 6) (af (GN (ae 7)) ax)))) fR)) (gZ (aa (ae 3) (ao (af (ae 1) (af (ae 2) ax)) c5) gO) (aa (ae 5) (ae 6) gO)))
def F0:am:=(ao (af (aa (GN (ae 7)) (dC (.int 0)) aC) ax) (m1 eU))
def F1:am:=(ao (af (aa (GN (ae 7)) (dC (.int 1)) aC) ax) (m1 eU))
def RS:bi:=(aq (cM (aa (GN (ao (af (aa (ae 3) (dC (.int 0)) aC) (af (aa (ae 3) (dC (.int 1)) aC) (af (ae 5) ax))) cI)) (ae 8) gO)
 (aq (aW (dC (.bl false)))
 ak)
 ak)
 ak)
def TB:bi:=(rh 7 [3,5] (ao (af (aa (ae 3) (dC (.int 0)) aC) (af (aa (ae 3) (dC (.int 1)) aC) (af (ae 5) ax))) cI)
 (zT 7 T1
 (aq (aW (dC (.bl false)))
 ak)
 (vq 7 8 F0 F1
 (lz
 RS))))
noncomputable def LB:bi:=(aq (aJ 5 (ao (af (ae 1) (af (aa (ae 4) (dC (.int 0)) aC) ax)) dA))
 (aq (cM (aa (aa (ae 4) (dC (.int 1)) aC) (dC (.int 0)) zK)
 (aq (aJ 5 (cE 1 [4] (jP (ae 5)) (bF 0) (aa (aa (aa (aa (ae 1) (dC (.int 2)) aC) (ae 0) zj) (dC (.int 1)) pT) (dC (.int 1)) fJ) (ae 0)))
 ak)
 ak)
 (aq (aJ 6 (ao (af (ae 5) ax) (m1 eU)))
 TB)))
def Lw:Kj=  (aq (aJ 1 (ao (af (ae 0) ax) cY))
 (aq (aJ 2 (ao (af (ae 0) ax) aZ))
 (aq (aJ 3 (ao (af (ao (af (ae 0) ax) cY) (af (ao (af (ae 2) ax) (m1 eU)) ax)) c5))
 (aq (kF (aa (ao (af (ao (af (dC (.int 0)) (af (dC (.int 0)) (af (dC (.int 0)) ax))) cH) ax) cH) (cE 1 [] (jP (aa (ao (af (ae 0) ax) aI) (dC (.int 1)) aC)) (bF 0) mYes (ao (af (ae 0) (af (ao (af (dC (.int 16384)) (af (dC (.int 3)) (af (dC (.int 16384)) ax))) cH) ax)) aD)) bz) (bF 4)
 LB)
 (aq (aW (dC (.bl true)))
 ak))))):=rfl
theorem sP{α:Type}{F:α->D}(h:∀x,fgt (F x)=F x):∀xs:List α,fgts (xs.map F)=xs.map F
 |[]=>rfl
 |x::xs=>by rw[Q6,fgts,h x,sP h xs]
theorem oY{α:Type}{F:α->D}(h:∀x,kq (F x)=true):∀xs:List α,flats (xs.map F)=true
 |[]=>rfl
 |x::xs=>by rw[Q6,flats,h x,oY h xs];rfl
theorem jy{α:Type}{F:α->D}(h:∀x,dE (F x)=true):∀xs:List α,plainDs (xs.map F)=true
 |[]=>rfl
 |x::xs=>by
  show(dE (F x)&&plainDs (xs.map F))=true;rw[jy h xs,h x];rfl
def wY(h:aR 40 d=true):gO d d=.ok (.bl false):=by
 unfold gO;rw[if_pos ⟨h,h⟩,kW 40 _ h];rfl
def oJ{α:Type}{F:α->D}(h:∀x,aR n (F x)=true){xs:List α}:(xs.map F).all (aR n)=true:=Ru.mpr λd hd=>by
 obtain⟨x,_,rfl⟩:=Rl.mp hd;exact h x
def Ex:aR 39 (aK w)=true:=by
 have h1:aR 38 (.lst (w.ps.map D.str))=true:=oJ λ_=>rfl;have h2:aR 38 (.lst (w.ts.map bf))=true:=oJ λt=>Ey;show(aR 38 (.lst (w.ps.map D.str))&&(aR 38 (.lst (w.ts.map bf))&&(aR 38 (.str w.fi)&&(aR 38 (.str w.la)&&true))))=true;rw[h1,h2];rfl
def w6(h:ds.length<=100):eU (.lst ds)=.ok (.lst ds):=by
 unfold eU
 first|rfl|(rw[if_pos (Ra h (by decide))])
def BZ:GN f ρ=(f ρ).bind λd=>.ok (fgt d):=rfl
def Ob(h:DZ ρ=true):lz r d ρ=r ρ:=if_pos h
def L8(h:f (vx x d ρ)=.ok (.bl false)):zT x f s g d ρ=g d ρ:=by
 unfold zT;rw[h];rfl
def L5(h:f (vx x d ρ)=.ok (.lst a))(h':f' (vx x d ρ)=.ok (.lst b))(c:x≠i/\flats a=true/\flats b=true):vq x i f f' g d ρ=g d (ρ.set i (.sh (.tup [.lst a,.lst b]))):=by
 unfold vq;rw[h,h'];exact if_pos c
section
variable {ks:ce}{ds:ac}{s0 s1 s2 s3 s5 s6 s7 s8:Sl}
def Mr(hl:ks.length<=14)(i2:aC (.lst ds) (.int 2)=.ok (.int v)):dQ 1 [4] (bF 0) (aa (aa (aa (aa (ae 1) (dC (.int 2)) aC) (ae 0) zj) (dC (.int 1)) pT) (dC (.int 1)) fJ) (ae 0) [s0,s1,s2,s3,.sh (.lst ds),s5,s6,s7,s8] (ks.map λ(k:Nat)=>D.int (k:Int))=.ok (aS (ks.filter λk=>SW (v / 2 ^ k) 1==1)):=by
 rw[K51.comp_pick (λ(k:Nat)=>D.int (k:Int)) (λk=>if(SW (v / 2 ^ k) 1==1)=true then some (D.int (k:Int)) else none) (by omega)]
 .rw[lF];rfl
 .intro k hk
  have hs:zj (.int v) (.int (k:Int))=.ok (.int (v / 2 ^ k)):=by
   show(if decide (0<=(k:Int))=true then av.ok (D.int (v / 2 ^ (k:Int).toNat)) else .stuck)=_;rw[if_pos (decide_eq_true (by omega)),Sw]
  have hb:pT (.int (v / 2 ^ k)) (.int 1)=.ok (.int (SW (v / 2 ^ k) 1)):=rfl;cases e:(SW (v / 2 ^ k) 1==1) with
  |true=>
   refine⟨[.sh (.int (k:Int)),.sh (.lst ds)],rfl,.inr ⟨_,if_pos rfl,?_,rfl⟩⟩;open_line with[i2,hs,hb,e]
  |false=>
   refine⟨[.sh (.int (k:Int)),.sh (.lst ds)],rfl,.inl ⟨if_neg (by decide),?_⟩⟩;open_line with[i2,hs,hb,e]
end
section
variable {w:jr}{xs:List cA}(W:dU w) (X:K40.Rms w xs)
include W X
theorem Be{S:D}(T:kn w ks)(hk:ks.length<=14)(p8:s8=.no∨∃d,s8=.sh d):∃t,TB [.sh S,.sh (aK w),.sh (.lst (xs.map fr)),.sh (.tup [aK w,.lst (xs.map fr)]),.sh (.lst ds),.sh (aS ks),.sh (aS ks),s7,s8]=.ok (.nx [.sh S,.sh (aK w),.sh (.lst (xs.map fr)),.sh (.tup [aK w,.lst (xs.map fr)]),.sh (.lst ds),.sh (aS ks),.sh (aS ks),.no,.sh t]):=by
 obtain⟨ys,ss,yl,yf,sl,hm,hr⟩:=Aw W X T;have t14:=W.t14;have j0:∀d e:D,aC (.tup [d,e]) (.int 0)=.ok d:=λ_ _=>rfl;have j1:∀d e:D,aC (.tup [d,e]) (.int 1)=.ok e:=λ_ _=>rfl;have swb:aR 39 (aK w)=true:=Ex;have n1:gO (.tup [aK w,.lst (xs.map fr)]) (.tup [aK w,.lst (xs.map fr)])=.ok (.bl false):=wY (by
  show(aR 39 (aK w)&&((xs.map fr).all (aR 38)&&true))=true;rw[swb,oJ (λ_=>rfl)];rfl)
 have n2:gO (aS ks) (aS ks)=.ok (.bl false):=wY (show(ks.map λ(k:Nat)=>D.int (k:Int)).all (aR 39)=true from oJ λ_=>rfl);have n3:gO (.tup [.lst (ys.map fr),.lst (ss.map D.str)]) (.tup [.lst (ys.map fr),.lst (ss.map D.str)])=.ok (.bl false):=wY (by
  show((ys.map fr).all (aR 38)&&((ss.map D.str).all (aR 38)&&true))=true;rw[oJ (λ_=>rfl),oJ (λ_=>rfl)];rfl)
 have fg:fgt (.tup [.ob .pl (ys.map fr),.ob .pl (ss.map D.str)])=.tup [.lst (ys.map fr),.lst (ss.map D.str)]:=by
  show D.tup [.lst (fgts (ys.map fr)),.lst (fgts (ss.map D.str))]=_;rw[sP (λ_=>rfl),sP (λ_=>rfl)]
 have l1:eU (.lst (ys.map fr))=.ok (.lst (ys.map fr)):=w6 (show(ys.map fr).length<=100 by rw[Q0];omega);have l2:eU (.lst (ss.map D.str))=.ok (.lst (ss.map D.str)):=w6 (show(ss.map D.str).length<=100 by rw[Q0];omega);have pw:dE (aK w)=true:=by
  show(plainDs (w.ps.map D.str)&&(plainDs (w.ts.map bf)&&true))=true;rw[jy (λ_=>rfl),jy (λt=>by obtain⟨a,b,w,l,o⟩:=t;cases o<;>rfl)];rfl
 generalize hQ:D.tup [.ob .pl (ys.map fr),.ob .pl (ss.map D.str)]=Q at *;have o2:MH Q=true:=by
  rw[←hQ];exact decide_eq_true (by rw[Q0];exact Rp sl (by decide))
 have o1:NL [3,5] [.sh S,.sh (aK w),.sh (.lst (xs.map fr)),.sh (.tup [aK w,.lst (xs.map fr)]),.sh (.lst ds),.sh (aS ks),.sh (aS ks),s7,s8]=true:=by
  show((dE (aK w)&&(plainDs (xs.map fr)&&true))&&(plainDs (ks.map λ(k:Nat)=>D.int (k:Int))&&true))=true;rw[pw,jy (λ_=>rfl),jy (λ_=>rfl)];rfl
 obtain⟨x8,ev⟩:∃x8,vx 7 Q [.sh S,.sh (aK w),.sh (.lst (xs.map fr)),.sh (.tup [aK w,.lst (xs.map fr)]),.sh (.lst ds),.sh (aS ks),.sh (aS ks),.no,s8]=[.sh S,.sh (aK w),.sh (.lst (xs.map fr)),.sh (.tup [aK w,.lst (xs.map fr)]),.sh (.lst ds),.sh (aS ks),.sh (aS ks),.sh Q,x8]:=⟨_,rfl⟩
 have f1:flats (ys.map fr)=true:=oY (λ_=>rfl) _;have f2:flats (ss.map D.str)=true:=oY (λ_=>rfl) _;refine⟨.tup [.lst (ys.map fr),.lst (ss.map D.str)],?_⟩;generalize hY:ys.map fr=Y at *;generalize hZ:ss.map D.str=Z at *;generalize hXX:D.lst (xs.map fr)=XX at *;generalize aK w=WD at *;generalize aS ks=KS at *;have ek:(ao (af (aa (ae 3) (dC (.int 0)) aC) (af (aa (ae 3) (dC (.int 1)) aC) (af (ae 5) ax))) cI) (vN [3,5] [.sh S,.sh WD,.sh XX,.sh (.tup [WD,XX]),.sh (.lst ds),.sh KS,.sh KS,s7,s8])=.ok Q:=by
  show(ao (af (aa (ae 3) (dC (.int 0)) aC) (af (aa (ae 3) (dC (.int 1)) aC) (af (ae 5) ax))) cI) [.no,.no,.no,.sh (.tup [WD,XX]),.no,.sh KS,.no,.no,.no]=_;open_line with[j0,j1,hm]
 have t1:T1 [.sh S,.sh WD,.sh XX,.sh (.tup [WD,XX]),.sh (.lst ds),.sh KS,.sh KS,.sh Q,x8]=.ok (.bl false):=by
  open_line with[T1,BZ,fg,hr,n1,n2]
 have t2:F0 [.sh S,.sh WD,.sh XX,.sh (.tup [WD,XX]),.sh (.lst ds),.sh KS,.sh KS,.sh Q,x8]=.ok (.lst Y):=by
  open_line with[F0,BZ,fg,j0,l1]
 have t3:F1 [.sh S,.sh WD,.sh XX,.sh (.tup [WD,XX]),.sh (.lst ds),.sh KS,.sh KS,.sh Q,x8]=.ok (.lst Z):=by
  open_line with[F1,BZ,fg,j1,l2]
 have nO:DZ [.sh S,.sh WD,.sh XX,.sh (.tup [WD,XX]),.sh (.lst ds),.sh KS,.sh KS,.no,.sh (.tup [.lst Y,.lst Z])]=true:=rfl;have hR:RS [.sh S,.sh WD,.sh XX,.sh (.tup [WD,XX]),.sh (.lst ds),.sh KS,.sh KS,.no,.sh (.tup [.lst Y,.lst Z])]=.ok (.nx [.sh S,.sh WD,.sh XX,.sh (.tup [WD,XX]),.sh (.lst ds),.sh KS,.sh KS,.no,.sh (.tup [.lst Y,.lst Z])]):=by
  open_line with[RS,BZ,fg,j0,j1,hm,n3]
 unfold TB rh;rw[ek];show(if NL [3,5] _=true/\MH Q=true/\7<9 then _ else _)=_;rw[if_pos ⟨o1,o2,by decide⟩];show zT 7 T1 _ _ Q [.sh S,.sh WD,.sh XX,.sh (.tup [WD,XX]),.sh (.lst ds),.sh KS,.sh KS,.no,s8]=_;rw[L8 (by rw[ev];exact t1),L5 (by rw[ev];exact t2) (by rw[ev];exact t3) ⟨by decide,f1,f2⟩];show lz RS Q [.sh S,.sh WD,.sh XX,.sh (.tup [WD,XX]),.sh (.lst ds),.sh KS,.sh KS,.no,.sh (.tup [.lst Y,.lst Z])]=_;rw[Ob nO];exact hR
theorem Hu{S:D}(i0:aC (.lst ds) (.int 0)=.ok (.int a))(i1:aC (.lst ds) (.int 1)=.ok (.int v1))(i2:aC (.lst ds) (.int 2)=.ok (.int v2))(p8:s8=.no∨∃d,s8=.sh d):∃t5 t6 t:D,LB [.sh S,.sh (aK w),.sh (.lst (xs.map fr)),.sh (.tup [aK w,.lst (xs.map fr)]),.sh (.lst ds),s5,s6,s7,s8]=.ok (.nx [.sh S,.sh (aK w),.sh (.lst (xs.map fr)),.sh (.tup [aK w,.lst (xs.map fr)]),.sh (.lst ds),.sh t5,.sh t6,.no,.sh t]):=by
 obtain⟨k0,hb,T0⟩:=K35.bits_ok W a;have hb':dA [aK w,.int a]=.ok (aS k0):=hb;have tl:∀{ks:ce},kn w ks->ks.length<=14:=λ{ks} T=>by
  have t14:=W.t14;have:ks.length<=(R4 w.ts.length).length:=Cod.nodup_le (T.up.imp λh=>RU h) λk hk=>by
   obtain⟨t,_,h,_⟩:=T.wo k hk;exact Ti.mpr (Q5.mp h).1
  rw[List.length_range]at this;omega
 have ll:∀{ks:ce},ks.length<=14->eU (aS ks)=.ok (aS ks):=λ{ks} h=>w6 (show(ks.map λ(k:Nat)=>D.int (k:Int)).length<=100 by rw[Q0];omega);have src:∀ks:ce,Bl (aS ks)=.ok (ks.map λ(k:Nat)=>D.int (k:Int)):=λ_=>rfl
 by_cases g:v1 > 0
 .have gt:zK (.int v1) (.int 0)=.ok (.bl true):=by
   show av.ok (D.bl (decide (v1 > 0)))=_;rw[decide_eq_true g]
  have hbit:=Mr (s0:=.sh S) (s1:=.sh (aK w)) (s2:=.sh (.lst (xs.map fr))) (s3:=.sh (.tup [aK w,.lst (xs.map fr)])) (s5:=.sh (aS k0)) (s6:=s6) (s7:=s7) (s8:=s8) (tl T0) i2;have T1:=Bg T0 λk=>SW (v2 / 2 ^ k) 1==1;obtain⟨t,ht⟩:=Be W X (S:=S) T1 (tl T1) (ds:=ds) (s7:=s7) p8;have l1:=ll (tl T1);have sk:=src k0;refine⟨_,_,t,Eq.trans ?_ ht⟩;generalize aS (k0.filter λk=>SW (v2 / 2 ^ k) 1==1)=KF at *;generalize aS k0=KS at *;generalize D.lst (xs.map fr)=XX at *;generalize aK w=WD at *;open_line with[LB,i0,hb',i1,gt,sk,hbit,l1]
 .have gt:zK (.int v1) (.int 0)=.ok (.bl false):=by
   show av.ok (D.bl (decide (v1 > 0)))=_;rw[decide_eq_false g]
  obtain⟨t,ht⟩:=Be W X (S:=S) T0 (tl T0) (ds:=ds) (s7:=s7) p8;have l1:=ll (tl T0);refine⟨_,_,t,Eq.trans ?_ ht⟩;generalize aS k0=KS at *;generalize D.lst (xs.map fr)=XX at *;generalize aK w=WD at *;open_line with[LB,i0,hb',i1,gt,l1]
end
def F5(ns:List Int)(hn:ns.length<=63):m_law [.lst (ns.map D.int)]=.ok (.bl true):=by
 obtain⟨w,k1,k2,hc,hl,h3,hw,W⟩:=Cod.web_cells hn;have t14:=W.t14;obtain⟨xs,hr,r2,r3⟩:=Br hc (by omega);have hxl:xs.length=w.ts.length:=by omega
 have X:=E1 hxl r3;have l1:eU (.lst (xs.map fr))=.ok (.lst (xs.map fr)):=w6 (show(xs.map fr).length<=100 by rw[Q0];omega);have hr':aZ [.lst (ns.map D.int)]=.ok (.lst (xs.map fr)):=hr;have hw':cY [.lst (ns.map D.int)]=.ok (aK w):=hw;have hc':aI [.lst (ns.map D.int)]=.ok (.tup [.lst (k1.map D.int),.lst (k2.map D.int)]):=hc
 let Dr:D->Prop:=λd=>∃ds a v1 v2,d=.lst ds/\aC (.lst ds) (.int 0)=.ok (.int a)/\aC (.lst ds) (.int 1)=.ok (.int v1)/\aC (.lst ds) (.int 2)=.ok (.int v2)
 have drw:∀c:Int,∃d,aD [.int c,.lst [.int 16384,.int 3,.int 16384]]=.ok d/\Dr d:=λc=>by
  obtain⟨vs,hv,V⟩:=Cod.draws_ok c [16384,3,16384] (by decide) (by decide);obtain⟨a,_,_,i0⟩:=V.ix 0 0 rfl rfl;obtain⟨v1,_,_,i1⟩:=V.ix 1 1 rfl rfl;obtain⟨v2,_,_,i2⟩:=V.ix 2 2 rfl rfl;exact⟨_,hv,_,a,v1,v2,rfl,i0,i1,i2⟩
 obtain⟨dr,hdr⟩:∃dr:Int->D,∀c,aD [.int c,.lst [.int 16384,.int 3,.int 16384]]=.ok (dr c)/\Dr (dr c):=⟨λc=>VM (drw c),λc=>Vd (drw c)⟩
 have he:∀a b c d e f g h:Sl,dQ 1 [] (bF 0) mYes (ao (af (ae 0) (af (ao (af (dC (.int 16384)) (af (dC (.int 3)) (af (dC (.int 16384)) ax))) cH) ax)) aD) [a,b,c,d,e,f,g,h,.no] (k2.map D.int)=.ok (.lst (k2.map dr)):=λa b c d e f g h=>by
  rw[K51.comp_pick D.int (λc=>some (dr c)) (by omega)]
  .rw[←Ux];rfl
  .intro c hc
   have q:=(hdr c).1;refine⟨[.sh (.int c)],rfl,.inr ⟨_,rfl,rfl,?_⟩⟩;open_line with[q]
 have hall:∀d∈.lst [.int 0,.int 0,.int 0]::(k2.map dr),Dr d:=λd hd=>by
  rcases Rh.mp hd with rfl|hd
  .exact⟨_,0,0,0,rfl,rfl,rfl,rfl⟩
  .obtain⟨c,_,rfl⟩:=Rl.mp hd
   exact(hdr c).2
 have hel:(k2.map dr).length<=63:=by rw[Q0];exact hl
 generalize (k2.map dr)=es at *;have ad:bz (.lst [.lst [.int 0,.int 0,.int 0]]) (.lst es)=.ok (.lst (.lst [.int 0,.int 0,.int 0]::es)):=by
  rw[ie (decide_eq_true (by simp;omega))];rfl
 obtain⟨ρ',hf,t4,t5,t6,t7,t8,p8,rfl⟩:=BW (tg:=bF 4) (body:=LB) (ds:=.lst [.int 0,.int 0,.int 0]::es) (λρ=>∃t4 t5 t6 t7 t8,(t8=.no∨∃d,t8=.sh d)/\ρ=[.sh (.lst (ns.map D.int)),.sh (aK w),.sh (.lst (xs.map fr)),.sh (.tup [aK w,.lst (xs.map fr)]),t4,t5,t6,t7,t8]) (by
  rintro d hd ρ ⟨t4,t5,t6,t7,t8,p8,rfl⟩;obtain⟨ds,a,v1,v2,rfl,i0,i1,i2⟩:=hall d hd;obtain⟨u5,u6,u8,h⟩:=Hu W X (S:=.lst (ns.map D.int)) i0 i1 i2 (s5:=t5) (s6:=t6) (s7:=t7) p8;exact⟨_,_,rfl,h,_,_,_,_,_,.inr ⟨_,rfl⟩,rfl⟩) [.sh (.lst (ns.map D.int)),.sh (aK w),.sh (.lst (xs.map fr)),.sh (.tup [aK w,.lst (xs.map fr)]),.no,.no,.no,.no,.no] ⟨_,_,_,_,_,.inl rfl,rfl⟩
 have i1:aC (.tup [.lst (k1.map D.int),.lst (k2.map D.int)]) (.int 1)=.ok (.lst (k2.map D.int)):=rfl;unfold m_law;rw[Lw];have sx:Bl (.lst (k2.map D.int))=.ok (k2.map D.int):=rfl;generalize D.lst (xs.map fr)=XX at *;generalize aK w=WD at *;open_line with[hw',hr',l1,hc',i1,sx,he,ad,hf]
end K38
namespace K38
open PySem L2 DL
def sp_law(K:Q2)(H:Hp)(a:Q9)(ns:List Int)(hl:ns.length<=63)(hS:fZ K H a (ns.map V.int)):spD K 1 m_law [.ref a] H (λv _=>v=.bl true) λ_ _ _=>False:=by
 refine⟨rfl,H,[.lst (ns.map D.int)],aE.refl _,Reps.cons (aB.mpr ⟨a,_,rfl,hS,wt ns⟩) Reps.nil,?_⟩;rw[F5 ns hl];exact λv H' Ha' _ r=>aH.mp r
end K38
structure PySem.W.Fast:Prop where(tw10918353630020506379 tw11713324072210949137 tw5836064451059205126 tw9268816660242140674 tw17279299369327943504 tw17437881621323441860 tw8139531052896321910 tw11325783096329911745 tw11999702085859743846 tw2999998252929013369 tw17188568418847372996 tw11456037520800280108 tw12812176135637428148 tw17873647025621399857 tw2072653975275955170 tw10898778241452915051 tw3301537419943178632 tw8703980935974699161 tw831085669536569821 tw7754081490187911531 tw9855055288601598672 tw14191404634762367532 tw5379538987103649833 tw13829352612517969696 tw10048934680836060478 tw8378442330868063986 tw10914546297649854987 tw14027617626347562118 tw8157968274369830269 tw8986398608884636135 tw2614876695041530474 tw10248807580736228742 tw8113512159661250573 tw16184311584292745738 tw7660754417066123077 tw6193376969328712444 tw14365133298750519513 tw17910939412115203660 tw17606019958865573024 tw13648545167636032919 tw1065530281271879276 tw11002528945873967552 tw14231200893348081684 tw4235713335146125817 tw5596407319753955337 tw1299524740401578613 tw8491880408558179070 tw3259873141157687683 tw18029422099454103729 tw17550416992929863286 tw11942923315188411931 tw8479453313994883320 tw1120326689305733715 tw11536986996592301215 tw1082628340780655033 tw1311484363710843732 tw16725432660448792625 tw3303421868533641830 tw11805076663095710727 tw9317808605886342646 tw9884567912443367626 tw2908069924672129819 tw14543203908778169237 tw17320741384686041329 tw3997867638281759945 tw8490588724469998887 tw9905064829841628436 tw17542108753121408686 tw9432859838568484366 tw14088426745425157077 tw6627957246115742732 tw1752824050274262213 tw11850117564368690178 tw5365823319051802364 tw18010681566082778045 tw4062130378756192461 tw5935658560221690639 tw13092665695008499421 tw14211632274908314736 tw12296246640954693066 tw5047448620026872681 tw16585232143815041041 tw18337915911164596898 tw3060204347787894026 tw7278485766936285895 tw13968600912043453358 tw1634599956484309853 tw12799741221729044317 tw8198440225473338118 tw10536913854271132820 tw12948326907250566136 tw9560386144657892067 tw8704172032526258413 tw12979077930915400317 tw5088753768443401951 tw16338507194831882570 tw8772846271520305399 tw10820532235443277907 tw3197053345638099830 tw1500036019009145397 tw1256166360246847046 tw12318596971070330631 tw14295029889047622228 tw13079450816075285128 tw10187281794699997377 tw13709504621066142216 tw919969688119165131 tw17181473836400829937 tw2417566194150406267 tw9405816963293469709 tw6886326839135090334 tw12713188340724519554 tw15315122600141278293 tw8069644828537991983 tw10907937080167223158 tw17855263673979078615 tw17312278454901170285:True)
open PySem PySem.W PyProof.Rows
set_option maxRecDepth 100000 in
set_option maxHeartbeats 0 in
theorem PySem.Challenge.cw_farthestcut_k38_most_flow_meets_holds : PySem.Challenge.rw_farthestcut_k38_most_flow_meets.Holds := by
 w_on;o_law;k_head;(case hw=>w_witness2)
 k_fill
 refine L2.walk_ofK (l:=PySem.Challenge.rw_farthestcut_k38_most_flow_meets) (n:=63) (k:=9) (x:="_law_script") (CX:=L2.CX0) (sp:=fun K=>DL.spD K 1 K38.m_law) ?I rfl (by decide) rfl ⟨rfl,by decide,by decide,rfl⟩ (fun w h Y=>W.km_in_of Y) (fun w h Y=>DL.tabsStart_mk (W.km_in_of Y) (W.km_tabs_of Y) (by kernel_rfl) (by kernel_rfl)) ?F ?S ?C
 case S=>exact fun K H a ns hl _ hS=>K38.sp_law K H a ns hl hS
 case C=>exact fun _ _ _ _ h=>h
 case I=>rfl
 case F =>
  intro w mg fa h KX G hmg;have T:∃ t:K38.Adr,K38.Txt (L2.KOf KX) mg t/\mg "law"=some (.ref (t.A 44))/\∃ kV doc pm an cdv ct,t.Q 44=Ua "law" "law" (L2.defArgs (K38.top 76)) (L2.defBody (K38.top 76)) (L2.defScope (K38.top 76)) .none kV doc pm an cdv ct:=by
   dsimp only[L2.KOf];refine' K38.txt_wr (K38.txt_mk KX G ?QS ?_ ?_ ?_ ?_ ?_ ?_ ?_ ?_ ?_ ?_ ?_ ?_ ?_ ?_ ?_ ?_ ?_ ?_ ?_ ?_ ?_ ?_ ?_ ?_ ?_ ?_ ?_ ?_ ?_ ?lx_most_flow ?_ ?_ ?_ ?_ ?_ ?_ ?_ ?_ ?_ ?_ ?_ ?_ ?_ ?_ ?_ ?_ ?_ ?_ ?_ ?_ ?_ ?_ ?_ ?_ ?_ ?_ ?_ ?_ ?_)
   case' QS=>iterate 45 refine DL.QAs.cons ⟨by k_is,by k_is,_,_,_,_,_,_,_,_,_,by k_is,by k_is⟩ ?_
   case QS=>trivial
   case lx_most_flow=>exact DL.lamAt_mk (by kernel_rfl) (by kernel_rfl)
   all_goals try first |k_is |k_exc |rfl
   exact⟨_,_,_,_,[.str "one",.str "both"],rfl,.cons ⟨_,rfl⟩ (.cons ⟨_,rfl⟩ (.nil)),by decide,fun H=>DL.Reps.cons (DL.Rep.str_iff.mpr rfl) (DL.Reps.cons (DL.Rep.str_iff.mpr rfl) (DL.Reps.nil))⟩
  obtain⟨t,T,e0,kV,doc,pm,an,cdv,ct,ed⟩:=T;have e1:=hmg.symm.trans e0;cases e1;refine⟨t.Q 44,fun s u=>?_,fun base kb nb=>(K38.ok_law T).F⟩;rw[ed];exact .of_eq rfl
