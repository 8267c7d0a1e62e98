import PyProof.Rows.All
import Wide.All
import OpenK.AllK
import Wide.FinOn
import PyProof.EqAt
import PyProof.EqKinds
import PyProof.NeKinds
import PyProof.TupleCall
import KE.KLam
import PyProof.StrWalks
import PyProof.EnumMake
import PyProof.WalksEnum
import PyProof.ZipIter
import PyProof.Rows.ZipGen
import PyProof.Rows.SortWalk
import KE.KSortedM
import PyProof.StrLawsIdx
import PyProof.StrLawsNeg
import PyProof.ExcInit
import PyProof.InstStoreFacts
import PyProof.AttrMissHeap
import PyProof.FactsAll.enumerate
import PyProof.FactsAll.dict_1
import KE.KDictOf
import KE.KItemsList
import PyProof.ReprRoads
import KE.LcSums
import PyProof.AttrMissSeq
import PyProof.TupleIter
import PyProof.WalksMore
import PyProof.ExcClass2
import PyProof.Rows.MatchSeqLen
import PyProof.FitsInt
import PyProof.FactsAll.zip_1
import KE.KRevIter
import PyProof.DictWalks
import PyProof.DictItemsLoops
import KE.KPairComp
import KE.KNestM
import PySem.Challenge.RW_farthestcut_k39_whole_flows_below_sides
def dg:=@decide_eq_true
def dh:=@if_pos
def dy:=@decide_eq_false
def dV:=@if_neg
def ee:=@absurd
def ef:=@of_decide_eq_true
def ei:=@beq_self_eq_true
def en:=@congrArg
def eo:=@or_false
def er:=@beq_eq_false_iff_ne
def et:=@if_true
def eu:=@decide_eq_true_eq
open List renaming mem_cons_of_mem->Up,getElem?_eq_getElem->Uq,length_map->Ut,mem_cons_self->Uu,getElem?_map->Uw,getElem?_eq_some_iff->Uz,map_cons->UB,mem_cons->UG,mem_map->UK,mem_of_getElem?->UM,getElem?_set_ne->UN,mem_append->UO,length_cons->UP,size_toArray->UW,mem_singleton->UX,getElem?_append_left->U0,replicate->U1,nodup_cons->U6,map_append->U7,getElem?_append_right->U8,mem_append_right->Va,all_eq_true->Vd,map_map->Ve,length_append->Vf,getElem?_set_self->Vk,getElem?_replicate->Vl,mem_append_left->Vo,getElem?_cons_succ->Vu,getElem_mem->VB,getElem?_take_of_lt->VE,lookup_cons->VF,replicate_succ->VG,map_nil->VM,append_nil->VN,range->VO,Nodup->VP,zip_cons_cons->VS,getElem?_drop->VY,foldl_cons->VZ,length_take->V1,drop_eq_getElem_cons->V2,filterMap_cons->V5,getElem?_eq_none->V7,nil_append->V8,getElem?_cons_zero->Wd,length_replicate->Wn,mem_filterMap->Ws,cons_append->Wu,nodup_append->WB,length_nil->WC,mem_map_of_mem->WG,sum_cons->WL,length_drop->WM,nodup_iff_pairwise_ne->WO,length_singleton->WR,mem_filter->WS,ext_getElem?->WT,any_cons->WU,take_length->WY,take_of_length_le->W4,all_cons->W8,flatten_cons->Xc,append_assoc->Xd,mem_range->Xe,not_mem_nil->Xj,replicate_zero->Xo,map_congr_left->Xp,find?_cons->Xv,set_cons_zero->Xx,set_cons_succ->Xy,getElem?_set_self'->XH,mem_nil_iff->XW,mem_iff_getElem->X4,lookup->X5,length->X6,of_mem_zip->X9,Pairwise->Yu,length_eq_zero_iff->Yy,getElem_inj->Yz,all_map->YB,length_set->YC,filterMap_eq_map->YD,mem_of_mem_take->YH,getElem?_range->YL,filterMap_map->YU,pairwise_map->Y6,drop_zero->Zt,mem_or_eq_of_mem_set->ZC,length_erase_of_mem->ZI,eq_of_mem_replicate->ZJ,filter_cons_of_pos->ZT,filter_cons_of_neg->ZU,range_succ_eq_map->Z3,pairwise_lt_range->Z4,map_set->Z5,length_pos_of_mem->Z6,mem_iff_getElem?->sae,mem_erase_of_ne->san,map_id->sao,length_dropLast->sap
open PySem renaming Value->Ur,wpAny_bind->UA,Addr->UD,Shared->UH,starEach->UJ,Str->UL,Heap->UQ,mainGlobals->UU,model->UY,wpAny->UZ,wpAny_pure->U2,Expr->Vt,Program->Vv,compareOp->VA,mem_of_lookup->VC,Around->VD,wpAny_mono->VH,Env->VI,World->VL,backTo->VQ,FuncData->VX,swapsWith->V0,wpAny_holding->Wf,wpAny_truthy_bool->Wg,NameKind->Wi,wpAny_loadPart_at->Wz,Stmt->WE,codeAny->WQ,sysModules->W2,cLine->Xa,Within->Xi,attributeBase->Xq,keywordEach->Xz,typeLookup->XU,Scope->X3,holding->Yr,Keyword->Yt,backToKw->YE,DictEntry->ZV,intBits_le_iff->sal
open PySem.W renaming Frag->Uv,nsIn->VU,findIn->VW,kia_one->Wc,mg_none_of->Wh,emptyDict->Wm,subIn->Wv,mg_of->WI,exmOne->W6,fnOf->Xn,keepIn->X0,hasDictIn->X2,instObj->Yg,specialIn->Ys,Looks->YK,plainGet->YQ,callWith_K->YZ,plainOver->Zc,kitx_dict->Zd,codeIn->Zp,codeHdIn->Zq,looks_clsIn->ZE,takesIn->ZO,hideAll->ZP,mroIn->ZW,isNs_of_in->ZX,excIn->ZY,methodObj->sah,kitx_list->sai
open Nat renaming lt_of_lt_of_le->Uy,le_trans->UI,lt_of_le_of_lt->UR,le_refl->U3,ne_of_lt->Vh,pow_le_pow_right->Vy,zero_add->VR,le_of_lt->Ww,pow_lt_pow_right->Wx,lt_irrefl->WJ,mul_le_mul->WN,lt_succ_self->WX,zero_le->XD,pow_add->XG,sub_zero->XM,add_zero->XN,min_eq_left->X8,pow_pos->YG,succ->Y3,mul_comm->Y4,le_of_eq->Y5,mul_lt_mul_of_lt_of_le->Zs,ne_of_gt->Z2,le_succ->sam
open PySem.Heap renaming get?_push_of_some->UC,lt_size->UT,get?_push_size->Vs,get?_update_other->Wl,get?_update_self->Wo,FlyingW->W5,get?_none_of_le->Xg,SameBut->Ye,size_push->Zw,MadeExcOf->Zx,NotedW->saq,get?_update_ne->sas
open Or renaming inl->UE,inr->XI
open Bool renaming and_eq_true->US,false_ne_true->Vn,false_and->WZ,true_and->Xt,not_false->Yn,and_false->Yo,not_true->Yw,and_self->Yx,false_or->YO,false_eq_true->YX,or_eq_true->Zl,and_true->ZN,not_not->sac,and_eq_false_iff->sag
open PySem.SeqAt renaming RcNeAt->U4,EqAt->U5,RcAt->Vb,ne_of_list_tuple->Z0
open Int renaming gcd->Vc,mul_le_mul_of_nonneg_right->Vi,eq_ofNat_of_zero_le->Vm,natAbs_mul->Vr,mul_ediv_cancel_left->Vx,natAbs_ediv_le_natAbs->V3,toNat_natCast->V6,ediv_nonneg->V9,mul_pos->We,eq_of_mul_eq_mul_right->Wj,mul_nonneg->Wy,natAbs_of_nonneg->Xf,zero_mul->Xk,mul_comm->Xl,gcd_dvd_right->XO,fmod_nonneg_of_pos->XS,gcd_dvd_left->XY,dvd_trans->XZ,le_refl->X7,natCast_mul->Ya,ediv_mul_cancel->Yb,le_of_mul_le_mul_right->Yi,fmod_eq_emod_of_nonneg->Yj,fdiv_eq_ediv_of_nonneg->Yk,neg_mul->YI,natCast_nonneg->YV,fmod_lt_of_pos->YW,natAbs_add_le->Y7,ediv_le_self->Zb,one_mul->Ze,mul_le_mul_of_nonneg_left->Zf,add_mul->Zg,natCast_add->Zj,mul_eq_zero->Zk,mul_lt_mul_of_pos_right->Zm,dvd_gcd_mul_iff_dvd_mul->Zn,mul_le_mul->Zu,ediv_pos_of_pos_of_dvd->Zv,mul_assoc->ZL,le_of_dvd->ZM,zero_add->Z7,gcd_comm->Z8,add_zero->Z9
open PySem.Value renaming ref->Vg,none->Wa,bool->Wb,str->Wq,int->Wr,builtin->YM,float->saj
open PySem.PassesOwn renaming never->Vj
open Option.some renaming inj->Vp,injEq->WA
open Option renaming some->Vq,getD_some->WV,isSome_iff_exists->Xr,map_some->Xu,map_eq_some_iff->XJ,isSome_map->Y2,bind_eq_some_iff->ZS
open Ne renaming symm->Vw
open False renaming elim->Vz
open Sum renaming inr->VJ,inl->Yc
open True renaming intro->V4
open Array renaming length_toList->WH,getElem?_eq_some_iff->Xh,append_assoc->Yp,toList->Y8,getElem?_setIfInBounds_ne->Za,getElem?_append_left->ZA,toList_append->sau
open PySem.NameKind renaming free->WK
open PySem.Builtin renaming divisionGoesByPylong->W7,bitAnd->Ym
open PySem.F renaming typeOf_object_class->W9,excBase_ValueError->Yh,slot_gs_get->YN,args_tuple_add_2->ZG,plainAttrs_list->ZQ,entry_tuple_add->ZR,slot_tuple_add->Z1
open PyProof.Rows renaming callWith_type1->Xb,slot_tuple_getitem->XT
open PySem.Builtin.Slice renaming slicePlaces->Xm,sliceAdjust->Yq,sliceApplied->Zz
open PySem.Builtin.Tuple renaming tupleExact->Xs
open ForInStep renaming yield->Xw
open PySem.Txt renaming slice->XA,slice_le->Y0,join->Zr
open Nat.succ renaming inj->Yd
open PySem.Builtin.Str renaming strSliceIndices->Yf,occurrences->YA
open PySem.Code renaming quiet_builtin->Yl,isFrame->saa
open PySem.Builtin.List renaming listTooLong->Yv
open PySem.Calls renaming evalArgs_plain->YJ,Name_function_global->Zy,callWith_builtin->sab
open PySem.SeqAt.EqAt renaming of_refs->YR,same->Zh
open PySem.Obj renaming mapSeq->YS,data_mapFields->YT,isFreed_of_fields->sad
open PySem.StrLaws renaming sliceText->Y1
open PySem.Around renaming under->Y9,frames_deeper->sar
open List.cons renaming injEq->Zi
open Iff renaming rfl->Zo
open Classical renaming byContradiction->ZD,choose_spec->saf
open PySem.SeqAt.RcAt renaming lists_lengths->ZF
open PySem.Paired renaming length->ZH
open List.Pairwise renaming imp_of_mem->ZK
open Sum.inr renaming inj->sak
open PySem.EntryCells renaming newEntry->sat
open Option renaming some->W1,none->Wp
open Bool renaming true->VT,false->U9
set_option compiler.extract_closed false
set_option bootstrap.genMatcherCode false
set_option autoImplicit true
set_option Elab.async false
set_option linter.all false
set_option maxRecDepth 100000
set_option maxHeartbeats 4000000
noncomputable section
local macro_rules|`(1#$x)=>`(($x==("__debug__":PySem.Str))=Bool.false)|`(3#$x)=>`(($x==("__classdict__":PySem.Str))=Bool.false)|`(2#$x)=>`(($x).heap.objs.size)|`(4#$x)=>`(PySem.model ($x).prog ($x).w)
local macro_rules|`($_:num#1)=>`(by decide)|`($_:num#2)=>`(by omega)|`($_:num#3)=>`(by simp)|`($_:num#5)=>`(Or.inl rfl)|`($_:num#8)=>`(by lia)
local macro_rules|`(tactic|erw[$r,*])=>do let x:Array Lean.Term:=r.getElems.map λq=>⟨q.raw[1]⟩;`(tactic|open_line with[$x,*])
abbrev bv:=List UL
abbrev ci:=List Nat
namespace L2
open PySem PySem.Spec PyProof.Rows
abbrev jb:=Sum Int UL
def xu:jb->Ur->Bool
 |.inl k,v=>Value.isInt k v
 |.inr x,v=>Value.isStrOf x v
def SH(w:VL):jb->Int
 |.inl k=>hashInt k
 |.inr x=>hashStr w x
theorem dm:∀{k:jb}{v:Ur},xu k v=VT->(∃i t,k=Yc i/\v=Wr i t)∨(∃x t,k=VJ x/\v=Wq x t)
 |.inl i,v,h=>by
  obtain⟨t,e⟩:=Value.isInt_shape (k:=i) (v:=v) h;exact .inl ⟨i,t,rfl,e⟩
 |.inr x,v,h=>by
  obtain⟨t,e⟩:=Value.isStrOf_shape (x:=x) (v:=v) h;exact .inr ⟨x,t,rfl,e⟩
def Fp(i:Int)(t:Tok):xu (.inl i) (.int i t)=VT:=by simp[xu,Value.isInt]
def Fo(x:UL)(t:Tok):xu (.inr x) (.str x t)=VT:=by simp[xu,Value.isStrOf]
def Ov(a b:Int):decide ((Yc a:jb)=Yc b)=(a==b):=by
 by_cases e:a=b
 .subst e;simp
 .have h:¬(Yc a:jb)=Yc b:=λq=>e (Yc.inj q)
  rw[dy h];exact(beq_eq_false_iff_ne.mpr e).symm
def Oq(a b:UL):decide ((VJ a:jb)=VJ b)=decide (a=b):=by
 by_cases e:a=b
 .subst e;simp
 .have h:¬(VJ a:jb)=VJ b:=λq=>e (sak q)
  rw[dy h,dy e]
def Ou(a:Int)(b:UL):decide ((Yc a:jb)=VJ b)=U9:=dy<|λq=>nomatch q
def Ot(a:UL)(b:Int):decide ((VJ a:jb)=Yc b)=U9:=dy<|λq=>nomatch q
noncomputable def eg(prog:Vv) (w:VL):PySem.KeyKind prog w jb where
 is:=xu
 hash:=SH w
 inj:=λv a b ha hb=>by
  rcases dm ha with⟨i,t,rfl,rfl⟩|⟨x,t,rfl,rfl⟩
  .rcases dm hb with⟨j,u,rfl,e⟩|⟨y,u,rfl,e⟩
   .injection e with e1 _;rw[e1]
   .exact nomatch e
  .rcases dm hb with⟨j,u,rfl,e⟩|⟨y,u,rfl,e⟩
   .exact nomatch e
   .injection e with e1 _;rw[e1]
 byValue:=λk v h=>by
  rcases dm h with⟨i,t,rfl,rfl⟩|⟨x,t,rfl,rfl⟩<;>rfl
 pyHash:=λhv h=>by
  rcases dm hv with⟨i,t,rfl,rfl⟩|⟨x,t,rfl,rfl⟩
  .exact wpAny_pyHash_int h
  .exact wpAny_pyHash_str h
 eqBool:=λhu hv h=>by
  rcases dm hu with⟨i,t,rfl,rfl⟩|⟨x,t,rfl,rfl⟩
  .rcases dm hv with⟨j,u,rfl,rfl⟩|⟨y,u,rfl,rfl⟩
   .rw[Ov]at h;exact wpAny_eqBool_int h
   .rw[Ou]at h;exact U5.int_str i t y u _ _ _ _ h
  .rcases dm hv with⟨j,u,rfl,rfl⟩|⟨y,u,rfl,rfl⟩
   .rw[Ot]at h;exact U5.str_int x t j u _ _ _ _ h
   .rw[Oq]at h;exact wpAny_eqBool_str h
 «strs»:=λk x t v h=>by
  rcases dm h with⟨i,u,rfl,e⟩|⟨y,u,rfl,e⟩
  .exact nomatch e
  .injection e with e1 _
   subst e1;cases v<;>rfl
def AB(prog:Vv)(w:VL)(i:Int)(t:Tok):(eg prog w).is (.inl i) (.int i t)=VT:=Fp i t
def Az(prog:Vv)(w:VL)(x:UL)(t:Tok):(eg prog w).is (.inr x) (.str x t)=VT:=Fo x t
inductive V where
 |non|bl (b:Bool)|int (i:Int)|str (x:UL)|byt (b:Array UInt8)|flt (b:UInt64)|ref (a:UD)|ty (n:String)
 deriving DecidableEq
abbrev ad:=List V
noncomputable def bB:V->Ur->Prop
 |.non,u=>u=Wa
 |.bl b,u=>u=Wb b
 |.int i,u=>∃t,u=Wr i t
 |.str x,u=>∃t,u=Wq x t
 |.byt b,u=>∃t,u=Value.bytes b t
 |.flt b,u=>∃t,u=saj b t
 |.ref a,u=>u=Vg a
 |.ty n,u=>u=Value.type n
abbrev bo:ad->List Ur->Prop:=Paired bB
def bo.length(r:bo xs a):xs.length=a.length:=ZH r
theorem bo.get:∀{xs:ad}{a:List Ur}{i:Nat}{x:V},bo xs a->xs[i]?=W1 x->∃u,a[i]?=W1 u/\bB x u
 |_,_,_,_,.nil,e=>by simp at e
 |_,_,0,_,.cons r _,e=>by simp at e;subst e;exact⟨_,rfl,r⟩
 |_,_,i+1,x,.cons _ t,e=>by
  obtain⟨u,c,b⟩:=bo.get (i:=i) (x:=x) t (by simpa using e);exact⟨u,by simpa using c,b⟩
theorem bo.set(r:bB x u):∀{xs:ad}{a:List Ur}(i:Nat),bo xs a->bo (xs.set i x) (a.set i u)
 |_,_,_,.nil=>.nil
 |_,_,0,.cons _ t=>.cons r t
 |_,_,i+1,.cons q t=>.cons q<|bo.set r i t
theorem bo.append:∀{xs ys:ad}{a ws:List Ur},bo xs a->bo ys ws->bo (xs++ys) (a++ws)
 |_,_,_,_,.nil,s=>s
 |_,_,_,_,.cons r t,s=>.cons r<|bo.append t s
theorem bo.take:∀{xs:ad}{a:List Ur}(n:Nat),bo xs a->bo (xs.take n) (a.take n)
 |_,_,0,_=>.nil
 |_,_,_+1,.nil=>.nil
 |_,_,n+1,.cons r t=>.cons r<|bo.take n t
theorem bo.drop:∀{xs:ad}{a:List Ur}(n:Nat),bo xs a->bo (xs.drop n) (a.drop n)
 |_,_,0,r=>r
 |_,_,_+1,.nil=>.nil
 |_,_,n+1,.cons _ t=>bo.drop n t
def vR:Option V->Option Ur->Prop
 |some v,W1 u=>bB v u
 |none,Wp=>True
 |_,_=>False
def KV{a:Type}:List (a×V)->List (a×Ur)->Prop:=Paired λ(p:a×V) (q:a×Ur)=>p.1=q.1/\bB p.2 q.2
def kV:jb->V
 |.inl i=>.int i
 |.inr x=>.str x
inductive HO where
 |lst (xs:ad)
 |tup (xs:ad)
 |dK (kvs:List (jb×V))|dT (kvs:List (List jb×V))
 |set (S:Int->Bool) (n:Nat)
 |ins (C dx:UD) (fs:List (UL×V))
 |own (x:UD)
 |xd (fs:List (UL×V))
 |met (f x:UD)
 |rng (lo hi:Int)
 |frz (o:Obj) (u:HO)
 |tbl (ps:Array Ur)
 |ext (φ:UQ->Prop)
abbrev Hp:=UD->Option HO
structure kE where
 params:Arguments
 body:Vt
 scope:X3
 pos:Pos
def Li:Vt->Option kE
 |.Lambda a b sc pos=>W1 ⟨a,b,sc,pos⟩
 |_=>Wp
def QW:Vt->Option kE
 |.Call _ args a _=>(args.findSome? Li).or<|a.findSome? λk=>Li k.value
 |.Subscript (.Call _ args a _) _ _=>(args.findSome? Li).or<|a.findSome? λk=>Li k.value
 |_=>Wp
def SG:WE->Option kE
 |.Expr e _=>QW e
 |.Assign _ e _=>QW e
 |_=>Wp
def Oo:FuncBody->Option kE
 |.stmts b=>b.findSome? SG
 |.expr _=>Wp
def uq(qual:UL):UL:=qual++".<locals>.<lambda>"
noncomputable def yj(K:Uv) (o:Obj):Option (UD×Array Ur):=match o.data with
 |.func a=>match Oo a.body,a.code with
  |some F,.ref c=>match K.lookup c with
   |some ⟨_,_,.fields b,_⟩=>match (b[11]?:Option Ur) with
    |some (.ref P)=>W1 (P,#[rawInt F.pos.line,rawInt F.pos.col,.str (uq a.qualname) 0])
    |_=>Wp
   |_=>Wp
  |_,_=>Wp
 |_=>Wp
def xt(K:Uv):List (UL×kE):=K.filterMap λp=>match p.2.data with
 |.func a=>(Oo a.body).map λF=>(uq a.qualname,F)
 |_=>Wp
def iK(K:Uv):List (UD×Array Ur):=K.filterMap λp=>yj K p.2
def zV{K:Uv}(h:(P,d)∈iK K):∃(a b:Int) (q:UL),d=#[rawInt a,rawInt b,.str q 0]:=by
 obtain⟨p,_,e⟩:=Ws.mp h;unfold yj at e;split at e
 .split at e
  .split at e
   .split at e
    .cases e;exact⟨_,_,_,rfl⟩
    .cases e
   .cases e
  .cases e
 .cases e
def n6{K:Uv}(h:(P,d)∈iK K):(d++more)[0]?≠W1 .none:=by
 obtain⟨a,b,q,rfl⟩:=zV h;intro z;rw[ZA 0#3]at z;cases z
def Es(K:Uv)(H:Hp):Prop:=∀P d,(P,d)∈iK K->∃more,H P=W1 (.tbl<|d++more)
def Pm(h:UQ)(a:UD)(ps:Array Ur):Prop:=∃(c:Obj) (b:Array Ur) (qual:UL) (t d:Tok) (more:Array Ur),ps=#[.none,.str qual t]++more/\h.get? a=W1 c/\c.data=.fields b/\b[1]?=W1 (.str qual d)
noncomputable def Rx(H:Hp) (h:UQ) (a:UD) (ps:Array Ur):Prop :=
 h.get? a=W1 { cls:=.none,data:=.fields #[] } ∨
 ∃(l c:Ur) (qual:UL) (t e:Tok) (more b:Array Ur) (d:UD),ps=#[l,c,.str qual t]++more/\h.get? a=W1 { cls:=.none,data:=.fields #[l,c,.ref d] }/\H d=W1 (.tbl (#[.none,.str qual e]++b))
def TabOk(H:Hp)(h:UQ)(a:UD)(ps:Array Ur):Prop:=(ps[0]?=W1 .none/\Pm h a ps)∨(ps[0]?≠W1 .none/\Rx H h a ps)
def upd(H:Hp)(a:UD)(o:HO):Hp:=λb=>if b=a then W1 o else H b
def aG:upd H a o a=W1 o:=by unfold upd;rw[dh rfl]
def aA(h:b≠a):upd H a o b=H b:=by unfold upd;rw[dV h]
def QP{H:Hp}(h:H a=W1 o)(h':H b=W1 u)(d:o≠u):a≠b:=by
 intro e;subst e;rw[h]at h';exact d<|Vp h'
def aP{H:Hp}(h:H a=W1 o)(h':H b=Wp):a≠b:=by
 intro e;subst e;rw[h]at h';cases h'
section
variable (P:Vv) (w:VL)
noncomputable def cL(H:Hp) (h:UQ) (a:UD):HO->Prop
 |.lst xs=>xs.length<=sizeLine/\∃(c:List Ur) (n:Nat),bo xs c/\h.get? a=W1 { cls:=.type "list",data:=.seq c.toArray n }
 |.tup xs=>xs.length<=sizeLine/\∃c:List Ur,bo xs c/\IsTup h a c.toArray
 |.dK b=>b.length<=sizeLine/\(a==W2)=U9/\∃i,KV b i/\h.DictOf (eg P w) a i
 |.dT b=>b.length<=sizeLine/\(a==W2)=U9/\∃xs:List<|List jb×UD×Ur,
   Paired (λ(p:List jb×V) (q:List jb×UD×Ur)=>p.1=q.1/\H q.2.1=W1 (.tup<|p.1.map kV)/\bB p.2 q.2.2) b xs /\
   ∃o m s,h.get? a=W1 o/\o.ExactDict/\o.data=.dict m s/\m.toList=xs.map (entryOfKey<|tupleKind<|eg P w)/\(xs.map (·.1)).Nodup
 |.set S n=>h.SetOf (intKind P w) a S n
 |.ins C e fs=>H e=W1 (.own a)/\fs.length<=1000/\e≠a/\h.get? a=W1 (Yg C e) /\
   ∃d,h.Ns1 e d/\(∀f,vR (fs.lookup f)<|d f)/\Xi d (fs.map (·.1))
 |.own _=>∃o,h.get? a=W1 o
 |.xd fs=>∃d,h.Ns1 a d/\∀f,vR (fs.lookup f)<|d f
 |.rng lo r=>∃t u v,h.get? a=W1 { cls:=.type "range",data:=.fields #[.int lo t,.int r u,.int 1 v] }
 |.frz o u=>h.get? a=W1 o/\cL H h a u
 |.tbl ps=>TabOk H h a ps
 |.met f x=>h.get? a=W1 (sah (.ref f)<|.ref x)
 |.ext g=>g h/\(∃o,h.get? a=W1 o)/\∀l j:UQ,g l->(∀o,l.get? a=W1 o->j.get? a=W1 o)->g j
def gk(H:Hp)(h:UQ):Prop:=∀a o,H a=W1 o->cL P w H h a o
end
section
variable {P:Vv}{w:VL}{H H':Hp}{h h':UQ}{a:UD}{o:HO}
def cL.lt(x:cL P w H h a o):a<h.objs.size:=by
 cases o with
 |lst xs=>obtain⟨_,_,_,_,e⟩:=x;exact UT e|tup xs=>obtain⟨_,_,_,p⟩:=x;exact p.lt|dK b|dT b=>obtain⟨_,_,_,_,o,_,_,e,_⟩:=x;exact UT e|set S n=>obtain⟨o,_,_,_,e,_⟩:=x;exact UT e|ins C g fs=>obtain⟨_,_,_,e,_⟩:=x;exact UT e|own y=>obtain⟨_,e⟩:=x;exact UT e|xd fs=>obtain⟨_,⟨_,_,_,e,_⟩,_⟩:=x;exact UT e|rng lo d=>obtain⟨_,_,_,e⟩:=x;exact UT e|frz ob u=>obtain⟨e,_⟩:=x;exact UT e
 |tbl ps=>
  have x:TabOk H h a ps:=x;rcases x with⟨_,_,_,_,_,_,_,_,e,_⟩|⟨_,e|⟨_,_,_,_,_,_,_,_,_,e,_⟩⟩<;>exact UT e
 |met f y=>exact UT (show h.get? a=W1 _ from x)|ext c=>obtain⟨_,⟨_,e⟩,_⟩:=x;exact UT e
theorem mq{d c:Type}{F G:d->c->Prop}:∀{g:List d}{e:List c},Paired F g e->(∀a b,F a b->G a b)->Paired G g e
 |_,_,.nil,_=>.nil
 |_,_,.cons r t,f=>.cons (f _ _ r)<|mq t f
def cL.stay(x:cL P w H h a o)(k:∀b u,(b=a∨H b=W1 (.own a))->h.get? b=W1 u->h'.get? b=W1 u)
  (U:∀b,H b=W1 (.own a)->H' b=W1 (.own a))(T:∀b xs,H b=W1 (.tup xs)->H' b=W1 (.tup xs))(Y:∀b ps,H b=W1 (.tbl ps)->H' b=W1 (.tbl ps)):cL P w H' h' a o:=by
 induction o with
 |lst xs=>obtain⟨z,j,n,r,e⟩:=x;exact⟨z,j,n,r,k _ _ (.inl rfl) e⟩|tup xs=>obtain⟨z,j,r,ob,e,c⟩:=x;exact⟨z,j,r,ob,k _ _ (.inl rfl) e,c⟩|dK I=>obtain⟨z,y,A,r,ob,g,i,e,c⟩:=x;exact⟨z,y,A,r,ob,g,i,k _ _ (.inl rfl) e,c⟩
 |dT I=>
  obtain⟨z,y,xs,r,ob,g,i,e,c⟩:=x;exact⟨z,y,xs,mq r λp q z=>⟨z.1,T _ _ z.2.1,z.2.2⟩,ob,g,i,k _ _ (.inl rfl) e,c⟩
 |set S n=>obtain⟨ob,g,i,t,e,c⟩:=x;exact⟨ob,g,i,t,k _ _ (.inl rfl) e,c⟩
 |ins C dx fs=>
  obtain⟨d,z,N,e,G,⟨E,g,i,s,c⟩,r⟩:=x;exact⟨U _ d,z,N,k _ _ (.inl rfl) e,G,⟨E,g,i,k _ _ (.inr d) s,c⟩,r⟩
 |own y=>obtain⟨ob,e⟩:=x;exact⟨ob,k _ _ (.inl rfl) e⟩|xd fs=>obtain⟨G,⟨E,g,i,e,c⟩,r⟩:=x;exact⟨G,⟨E,g,i,k _ _ (.inl rfl) e,c⟩,r⟩|rng lo hi=>obtain⟨t,u,v,e⟩:=x;exact⟨t,u,v,k _ _ (.inl rfl) e⟩|frz ob u Q=>obtain⟨e,q⟩:=x;exact⟨k _ _ (.inl rfl) e,Q q⟩
 |tbl ps=>
  have x:TabOk H h a ps:=x;show TabOk H' h' a ps;rcases x with⟨z,M,A,q,t,B,m,L,s,J⟩|⟨z,e|⟨l,c,q,t,B,m,O,c',L,s,J⟩⟩
  .exact .inl ⟨z,M,A,q,t,B,m,L,k a _ (.inl rfl) s,J⟩
  .exact .inr ⟨z,.inl<|k a _ (.inl rfl) e⟩
  .exact .inr ⟨z,.inr ⟨l,c,q,t,B,m,O,c',L,k a _ (.inl rfl) s,Y _ _ J⟩⟩
 |met f y=>
  have e:h.get? a=W1 (sah (.ref f)<|.ref y):=x;show h'.get? a=W1 (sah (.ref f)<|.ref y);exact k a _ (.inl rfl) e
 |ext φ=>obtain⟨p,⟨o,e⟩,st⟩:=x;exact⟨st _ _ p λo q=>k _ _ (.inl rfl) q,⟨o,k _ _ (.inl rfl) e⟩,st⟩
def gk.lt(x:gk P w H h)(e:H a=W1 o):a<h.objs.size:=(x a o e).lt
def gk.fresh(x:gk P w H h)(e:h.objs.size<=a):H a=Wp:=by
 cases q:H a with|none=>rfl|some u=>exact ee (Uy (x.lt q) e)<|WJ _
def gk.kept(x:gk P w H h)(k:∀b u,h.get? b=W1 u->h'.get? b=W1 u):gk P w H h':=λa o e=>
 (x a o e).stay (λb u _ q=>k b u q) (λ_ q=>q) (λ_ _ q=>q) λ_ _ q=>q
def gk.laid(x:gk P w H h)(k:∀b u,h.get? b=W1 u->h'.get? b=W1 u)(i:h.objs.size<=a)(d:cL P w (upd H a o) h' a o):gk P w (upd H a o) h':=λb u e=>by
 have f:=x.fresh i
 by_cases g:b=a
 .subst g;rw[aG]at e;cases e;exact d
 .rw[aA g]at e
  exact(x b u e).stay (λc v _ q=>k c v q) (λc q=>by rw[aA (aP q f)];exact q) (λc xs q=>by rw[aA (aP q f)];exact q) λc o q=>by rw[aA (aP q f)];exact q
end
def Rd(H:Hp)(a:UD)(u:HO):Prop:=H a=W1 u∨∃o,H a=W1 (.frz o u)
def Rd.ok{h:UQ}(r:Rd H a u)(x:gk P w H h):cL P w H h a u:=by
 rcases r with r|⟨o,r⟩
 .exact x a u r
 .obtain⟨_,q⟩:=x a _ r
  exact q
def Pj:Option HO->Prop
 |some (.lst _)=>True
 |some (.dK _)=>True
 |some (.dT _)=>True
 |some (.set _ _)=>True
 |some (.ins _ _ _)=>True
 |some (.ext _)=>True
 |_=>False
section
variable {P:Vv}{w:VL}{H:Hp}{h h':UQ}{x e:UD}{o':HO}
def gk.write(ok:gk P w H h)(f:Pj<|H x)(s:e=x∨H e=W1 (.own x))(k:∀b u,b≠e->h.get? b=W1 u->h'.get? b=W1 u)(n:∃u,h'.get? e=W1 u)
  (m:cL P w (upd H x o') h' x o'):gk P w (upd H x o') h':=λb u q=>by
 have d:∀c y,H c=W1 (.own y)->c≠x:=λc y r z=>by subst z;rwa[r]at f
 have g:∀c xs,H c=W1 (.tup xs)->c≠x:=λc xs r z=>by subst z;rwa[r]at f
 have i:∀c o,H c=W1 (.tbl o)->c≠x:=λc o r z=>by subst z;rwa[r]at f
 by_cases l:b=x
 .subst l;rw[aG]at q;cases q;exact m
 .rw[aA l]at q
  by_cases a:b=e
  .have p:H b=W1 (.own x):=by
    rcases s with z|z
    .exact ee (a.trans z) l
    .rw[a];exact z
   rw[q]at p;cases p;obtain⟨v,t⟩:=n;exact⟨v,by rw[a];exact t⟩
  .refine(ok b u q).stay (λc v j r=>k c v ?_ r) (λc r=>by rw[aA (d c b r)];exact r) (λc xs r=>by rw[aA (g c xs r)];exact r) λc o r=>by rw[aA (i c o r)];exact r
   rcases j with rfl|j
   .exact a
   .rintro rfl
    rcases s with z|z
    .exact d c b j z
    .rw[j]at z;cases z;exact l rfl
end
structure Un (fs ex:List UD) (H H':Hp) (h h':UQ):Prop where
 keep:∀b o,h.get? b=W1 o->H b=Wp->b∉fs->b∉ex->h'.get? b=W1 o
 slot:∀b o,h.get? b=W1 o->H b=Wp->b∈fs->b∉ex->∃sl,h'.get? b=W1 { o with slots:=sl }
 free:∀b o,h.get? b=W1 o->H b=Wp->b∉ex->H' b=Wp
 there:∀b o,h.get? b=W1 o->b∉ex->∃o',h'.get? b=W1 o'
 tups:∀b xs,H b=W1 (.tup xs)->H' b=W1 (.tup xs)
 frzs:∀b o u,H b=W1 (.frz o u)->H' b=W1 (.frz o u)
 tbls:∀b ps,H b=W1 (.tbl ps)->∃more,H' b=W1 (.tbl (ps++more))
section
variable {fs fs' ex ex':List UD}{H H1 H2:Hp}{h h1 h2 h':UQ}{a x e:UD}{o:HO}
def Un.any(u:Un fs ex H H1 h h1)(q:h.get? b=W1 ob)(n:H b=Wp)(c:b∉ex):∃f,h1.get? b=W1 { ob with slots:=f }:=by
 by_cases d:b∈fs
 .exact u.slot b ob q n d c
 .exact⟨ob.slots,u.keep b ob q n d c⟩
def Un.trans(a:Un fs ex H H1 h h1)(b:Un fs ex H1 H2 h1 h2):Un fs ex H H2 h h2 where
 keep:=λc ob q n hc hx=>b.keep c ob (a.keep c ob q n hc hx) (a.free c ob q n hx) hc hx
 slot:=λc ob q n hc hx=>by
  obtain⟨sl,e1⟩:=a.slot c ob q n hc hx;obtain⟨sl',e2⟩:=b.slot c _ e1 (a.free c ob q n hx) hc hx;exact⟨sl',e2⟩
 free:=λc ob q n hx=>by
  obtain⟨o',e1⟩:=a.there c ob q hx;exact b.free c o' e1 (a.free c ob q n hx) hx
 there:=λc ob q hx=>by
  obtain⟨o',e1⟩:=a.there c ob q hx;exact b.there c o' e1 hx
 tups:=λc xs q=>b.tups c xs (a.tups c xs q)
 frzs:=λc ob xs q=>b.frzs c ob xs (a.frzs c ob xs q)
 tbls:=λc ps q=>by
  obtain⟨m1,e1⟩:=a.tbls c ps q;obtain⟨m2,e2⟩:=b.tbls c _ e1;exact⟨m1++m2,by rw[e2,Yp]⟩
def Un.kept(k:∀b u,h.get? b=W1 u->h'.get? b=W1 u):Un fs ex H H h h' :=
 ⟨λb ob q _ _ _=>k b ob q,λb ob q _ _ _=>⟨ob.slots,k b ob q⟩,λ_ _ _ n _=>n,λb ob q _=>⟨ob,k b ob q⟩,λ_ _ q=>q,λ_ _ _ q=>q,λ_ ps q=>⟨#[],by rw[q];simp⟩⟩
def Un.refl:Un fs ex H H h h:=Un.kept λ_ _ q=>q
def Un.laid(k:∀b u,h.get? b=W1 u->h'.get? b=W1 u)(hp:h.objs.size<=a)(hn:H a=Wp):Un fs ex H (upd H a o) h h' where
 keep:=λb u q _ _ _=>k b u q
 slot:=λb u q _ _ _=>⟨u.slots,k b u q⟩
 free:=λb u q n _=>by rw[aA (Vh<|Uy (UT q) hp)];exact n
 there:=λb u q _=>⟨u,k b u q⟩
 tups:=λb xs q=>by rw[aA (aP q hn)];exact q
 frzs:=λb u xs q=>by rw[aA (aP q hn)];exact q
 tbls:=λb ps q=>⟨#[],by rw[aA (aP q hn),q];simp⟩
def Un.write(d:Pj<|H x)(l:e=x∨H e=W1 (.own x))(k:∀b u,b≠e->h.get? b=W1 u->h'.get? b=W1 u)(g:∃u,h'.get? e=W1 u):Un fs ex H (upd H x o) h h':=by
 have i:∀b,H b=Wp->b≠x:=λb n z=>by subst z;rwa[n]at d
 have j:∀b,H b=Wp->b≠e:=λb n z=>by
  subst z;rcases l with r|r
  .exact i b n r
  .rw[n]at r;cases r
 have f:∀b u,H b=W1 u->¬Pj (W1 u)->b≠x:=λb u q nm z=>by subst z;rw[q]at d;exact nm d
 refine⟨λb u q n _ _=>k b u (j b n) q,λb u q n _ _=>⟨u.slots,k b u (j b n) q⟩,λb u q n _=>by rw[aA (i b n)];exact n,λb u q _=>?_,
  λb xs q=>by rw[aA (f b _ q λz=>z)];exact q,λb u xs q=>by rw[aA (f b _ q λz=>z)];exact q,λb ps q=>⟨#[],by rw[aA (f b _ q λz=>z),q];simp⟩⟩
 by_cases c:b=e
 .subst c;exact g
 .exact⟨u,k b u c q⟩
end
def RI(h:UQ)(H:Hp):List UD:=(VO h.objs.size).filter λa=>(H a).isSome
def AU(h:UQ)(H:Hp):UQ:=ZP h<|RI h H
def Fu(h:UQ)(H:Hp):(AU h H).objs.size=h.objs.size:=W.hideAll_size _ _
def uz{h:UQ}(e:h.get? b=W1 o)(n:H b=Wp):(AU h H).get? b=W1 o :=
 W.hideAll_get _ e λa=>by
  have q:(H b).isSome=VT:=(WS.mp a).2;rw[n]at q;simp at q
def K3{h:UQ}(e:(AU h H).get? b=W1 o):h.get? b=W1 o/\H b=Wp:=by
 have a:h.get? b=W1 o:=W.of_hideAll (RI h H) e;refine⟨a,?_⟩;cases q:H b with
 |none=>rfl
 |some x=>
  have c:b∈RI h H:=WS.mpr ⟨Xe.mpr<|UT a,by simp[q]⟩;have z:(AU h H).get? b=Wp:=W.hideAll_none (RI h H) c;rw[z]at e;cases e
structure Mod (K:Uv) (mg:UL->Option Ur) (base:UQ):Prop where
 kin:K.In base
 glob:base.Ns UU mg
 blt:∃mb,base.Ns builtinsNs mb/\∀x:UL,x≠"__name__"->mb x=bootBuiltins x
 nolimit:base.NoLimit
 sm:∃mm,base.Ns W2 mm
 bm:∃(b:UD) (ob:Obj),mg "__builtins__"=W1 (.ref b)/\b≠builtinsNs/\base.get? b=W1 ob/\ob.cls=.type "module"/\ob.dict=W1 builtinsNs/\ob.data=.plain
structure Cx where
 prog:Vv
 w:VL
 K:Uv
 mg:UL->Option Ur
 base:UQ
 A:VD
 N:bv
 sf:UH
 Ha:Hp
 env:Env
 outer:List Env
 stack:List Env
 ex:List UD
 fn:UL->Bool
 calm:Bool
 pn:List (UD×Obj)
 xe:Ur->UH->Prop
def jx(l:List Env):List UD:=l.filterMap (·.frame)
abbrev Cx.fs(X:Cx):List UD:=jx X.outer
def BX(sc:X3)(x:UL):Prop:=sc.names.lookup x=W1 .local ∨ sc.names.lookup x=W1 .cell∨sc.names.lookup x=W1 .free
def JC(sc:X3)(x:UL):Prop:=sc.names.lookup x=W1 .local ∨ sc.names.lookup x=W1 .cell
def Ta(env:Env)(h:UQ)(m:UL->Option Ur)(x:UL)(u:Ur):Prop :=
 (env.kindOf x=W1 .local /\ m x=W1 u)∨((env.kindOf x=W1 .cell∨env.kindOf x=W1 .free)/\∃c,env.cells.lookup x=W1 c/\h.IsCell c (W1 u))
structure Cx.Ok (X:Cx):Prop where
 mod:Mod X.K X.mg X.base
 kind:X.env.scope.kind=.function
 glob:X.env.globals=UU
 blt:X.env.builtins=builtinsNs
 above:X.sf.heap.objs.size<=X.env.locals
 inj:∀x y c,X.env.cells.lookup x=W1 c->X.env.cells.lookup y=W1 c->x=y
 has:∀x,(X.env.kindOf x=W1 .cell∨X.env.kindOf x=W1 .free)->∃c,X.env.cells.lookup x=W1 c
 cab:∀x c,X.fn x=VT->X.env.cells.lookup x=W1 c->X.sf.heap.objs.size<=c
 hd:X.calm=VT->X.A.handled=Wp
 frames:X.A.frames=W1 X.stack
 stk:X.stack=X.outer∨(X.stack=X.env::X.outer/\X.env.frame=W1 X.env.locals)
 exf:∀b∈X.ex,b≠X.env.locals/\∀x c,X.env.cells.lookup x=W1 c->c≠b
 bs:∀b o,X.base.get? b=W1 o->X.sf.heap.get? b=W1 o/\X.Ha b=Wp
 bsz:X.base.objs.size<=X.sf.heap.objs.size
 noex:∀b o,X.base.get? b=W1 o->b∉X.ex
 exfs:∀b∈X.ex,b∉X.fs
 funs:X.sf.heap.FunFrames X.base X.outer
 frf:∀b∈X.fs,X.Ha b=Wp
 tab:Es X.K X.Ha
structure Inv (X:Cx) (π:List (UD×Obj)) (σ:List (Option V)) (H:Hp) (s:UH):Prop where
 ok:X.Ok
 os:s.os=X.sf.os
 bare:AllBare s.gens
 base:Un X.fs X.ex X.Ha H X.sf.heap s.heap
 loc:∃m,s.heap.Ns X.env.locals m/\∀(i:Nat) (x:UL) (v:V),X.N[i]?=W1 x->σ[i]?=W1 (W1 v)->BX X.env.scope x->∃u,bB v u/\Ta X.env s.heap m x u
 cell:∀x c,X.env.cells.lookup x=W1 c->∃v,s.heap.IsCell c v
 free:H X.env.locals=Wp
 freeC:∀x c,X.env.cells.lookup x=W1 c->H c=Wp
 pin:∀p∈X.pn++π,s.heap.get? p.1=W1 p.2/\H p.1=Wp/\p.1≠X.env.locals/\p.1∉X.fs/\∀v,p.2.data≠.cell v
 hok:gk X.prog X.w H s.heap
 len:σ.length=X.N.length
section
variable {X:Cx}{π:List (UD×Obj)}{σ:List (Option V)}{H H':Hp}{s:UH}{h':UQ}
def Cx.Ok.nofr(ok:X.Ok)(e:X.base.get? b=W1 o):b∉X.fs:=λa=>by
 have:=(ok.funs.mem a).1;rw[e]at this;cases this
def Inv.bs(I:Inv X π σ H s):∀b o,X.base.get? b=W1 o->s.heap.get? b=W1 o/\H b=Wp:=λb o e=>
 ⟨I.base.keep b o (I.ok.bs b o e).1 (I.ok.bs b o e).2 (I.ok.nofr e)<|I.ok.noex b o e,I.base.free b o (I.ok.bs b o e).1 (I.ok.bs b o e).2<|I.ok.noex b o e⟩
def Inv.bk(I:Inv X π σ H s):∀b o,X.base.get? b=W1 o->s.heap.get? b=W1 o:=λb o e=>(I.bs b o e).1
def Inv.mod(I:Inv X π σ H s):Mod X.K X.mg X.base:=I.ok.mod
def Inv.kIn(I:Inv X π σ H s):X.K.In s.heap:=I.ok.mod.kin.keeps I.bk
def Inv.lt(I:Inv X π σ H s):X.env.locals<2#s:=let ⟨_,a,_⟩:=I.loc;a.lt
def Inv.sz(I:Inv X π σ H s):X.sf.heap.objs.size<=2#s:=UI I.ok.above<|Ww I.lt
def Inv.nofs(I:Inv X π σ H s)(h:2#s<=a):a∉X.fs:=λc=>by
 obtain⟨_,o,b,_⟩:=I.ok.funs.mem c;exact ee (Uy (UT b)<|UI I.sz h)<|WJ _
def Inv.cne(I:Inv X π σ H s):∀x c,X.env.cells.lookup x=W1 c->c≠X.env.locals:=λx c e z=>by
 obtain⟨v,o,d,f⟩:=I.cell x c e;obtain⟨m,⟨g,i,j,a,b,_⟩,_⟩:=I.loc;rw[z,a]at d;cases d;rw[b]at f;cases f
def Inv.funs(I:Inv X π σ H s):s.heap.FunFrames X.base X.outer:=by
 have all:∀(l:List Env),(∀b∈jx l,b∈X.fs)->X.sf.heap.FunFrames X.base l->s.heap.FunFrames X.base l:=by
  intro l
  induction l with
  |nil=>intro _ _;trivial
  |cons t r g=>
   intro f n;obtain⟨p,⟨L,o,a,m,j,q⟩,i⟩:=n;have d:L∈X.fs:=f L (by unfold jx;rw[V5,a];exact Uu);obtain⟨u,e⟩:=I.base.slot L o j (I.ok.frf L d) d λz=>I.ok.exfs L z d;exact⟨p,⟨L,_,a,m,e,q⟩,g (λb c=>f b (by unfold jx;rw[V5,a];exact Up _ c)) i⟩
 exact all X.outer (λ_ c=>c) I.ok.funs
def Inv.stack(I:Inv X π σ H s):s.heap.FunFrames X.base X.stack:=by
 rcases I.ok.stk with e|⟨e,b⟩
 .rw[e];exact I.funs
 .rw[e]
  obtain⟨m,a,_⟩:=I.loc;refine .cons (by rw[I.ok.kind];decide) b a ?_ I.funs;exact Xg<|UI I.ok.bsz I.ok.above
def Inv.stkSub(I:Inv X π σ H s):∀b∈jx X.stack,b∈X.env.locals::X.fs:=λb a=>by
 rcases I.ok.stk with e|⟨e,c⟩
 .rw[e]at a;exact Up _ a
 .rw[e]at a
  unfold jx at a;rwa[V5,c]at a
def Inv.stkFree(I:Inv X π σ H s):∀b∈jx X.stack,H b=Wp:=λb a=>by
 rcases UG.mp (I.stkSub b a) with e|a
 .rw[e];exact I.free
 .obtain⟨_,o,c,_⟩:=I.ok.funs.mem a
  exact I.base.free b o c (I.ok.frf b a) λz=>I.ok.exfs b z a
def Inv.step{ch:List UD}(I:Inv X π σ H s)
  (g:∀b∈ch,(b∈X.ex∨X.sf.heap.objs.size<=b)/\b≠X.env.locals/\(∀x c,X.env.cells.lookup x=W1 c->c≠b)/\∀p∈X.pn++π,p.1≠b)
  (keep:∀b o,b≠X.env.locals->b∉X.fs->b∉ch->s.heap.get? b=W1 o->H b=Wp->h'.get? b=W1 o)
  (slot:∀b o,b≠X.env.locals->b∈X.fs->b∉ch->s.heap.get? b=W1 o->H b=Wp->∃M,h'.get? b=W1 { o with slots:=M })(free:∀b o,b∉ch->s.heap.get? b=W1 o->H b=Wp->H' b=Wp)
  (there:∀b o,b∉ch->s.heap.get? b=W1 o->∃o',h'.get? b=W1 o')
  (B:∀b xs,H b=W1 (.tup xs)->H' b=W1 (.tup xs))(G:∀b o u,H b=W1 (.frz o u)->H' b=W1 (.frz o u))(C:∀b ps,H b=W1 (.tbl ps)->∃more,H' b=W1 (.tbl<|ps++more))
  (ns:∀m,s.heap.Ns X.env.locals m->h'.Ns X.env.locals m)(hok:gk X.prog X.w H' h')(hg:AllBare g') :
  Inv X π σ H' { s with heap:=h',gens:=g',drawn:=d',toks:=t' }:=by
 have E:∀b o,X.sf.heap.get? b=W1 o->b≠X.env.locals:=λb o e=>Vh<|Uy (UT e) I.ok.above;have j:∀b o,X.sf.heap.get? b=W1 o->b∉X.ex->b∉ch:=λb o e a y=>by
  rcases(g b y).1 with z|z
  .exact a z
  .exact ee (Uy (UT e) z)<|WJ _
 have cellK:∀x c,X.env.cells.lookup x=W1 c->∀v,s.heap.IsCell c v->h'.IsCell c v:=λx c e v z9=>by
  obtain⟨o,A,N⟩:=z9;have f:c∉ch:=λz=>(g c z).2.2.1 x c e rfl
  by_cases U:c∈X.fs
  .obtain⟨M,q⟩:=slot c o (I.cne x c e) U f A (I.freeC x c e)
   exact⟨_,q,N⟩
  .exact⟨o,keep c o (I.cne x c e) U f A<|I.freeC x c e,N⟩
 refine⟨I.ok,I.os,hg,⟨λb o e n y a=>?_,λb o e n y a=>?_,λb o e n a=>?_,λb o e a=>?_,λb xs e=>B b xs (I.base.tups b xs e),λb o xs e=>G b o xs (I.base.frzs b o xs e),λb ps e=>?_⟩,?_,λx c e=>?_,?_,λx c e=>?_,λp T=>?_,hok,I.len⟩
 .exact keep b o (E b o e) y (j b o e a) (I.base.keep b o e n y a)<|I.base.free b o e n a
 .obtain⟨M,t⟩:=I.base.slot b o e n y a
  obtain⟨L,J⟩:=slot b _ (E b o e) y (j b o e a) t<|I.base.free b o e n a;exact⟨L,J⟩
 .obtain⟨o',t⟩:=I.base.there b o e a
  exact free b o' (j b o e a) t<|I.base.free b o e n a
 .obtain⟨o',t⟩:=I.base.there b o e a
  exact there b o' (j b o e a) t
 .obtain⟨m1,t⟩:=I.base.tbls b ps e
  obtain⟨m2,J⟩:=C b _ t;exact⟨m1++m2,by rw[J,Yp]⟩
 .obtain⟨m,Y,hl⟩:=I.loc
  refine⟨m,ns m Y,λi x v t J e3=>?_⟩;obtain⟨u,r,l⟩:=hl i x v t J e3;refine⟨u,r,?_⟩;rcases l with l|⟨k,c,e,z⟩
  .exact .inl l
  .exact .inr ⟨k,c,e,cellK x c e _ z⟩
 .obtain⟨v,z⟩:=I.cell x c e
  exact⟨v,cellK x c e v z⟩
 .obtain⟨m,⟨o,_,_,A,_⟩,_⟩:=I.loc
  exact free _ o (λz=>(g _ z).2.1 rfl) A I.free
 .obtain⟨v,o,A,N⟩:=I.cell x c e
  exact free c o (λz=>(g c z).2.2.1 x c e rfl) A<|I.freeC x c e
 .obtain⟨e,n,Q,O,d⟩:=I.pin p T
  have f:p.1∉ch:=λz=>(g p.1 z).2.2.2 p T rfl;exact⟨keep p.1 p.2 Q O f e n,free p.1 p.2 f e n,Q,O,d⟩
def Inv.un(I:Inv X π σ H s)(u:Un X.fs [] H H' s.heap h')(hok:gk X.prog X.w H' h'):Inv X π σ H' { s with heap:=h',toks:=t' }:=by
 obtain⟨m,⟨o,x,y,g,r⟩,_⟩:=id I.loc;obtain⟨p,l⟩:=u.any g I.free 0#3;exact I.step (g':=s.gens) (d':=s.drawn) (ch:=[]) (λ_ z=>nomatch z) (λb o _ c _ e n=>u.keep b o e n c<|by simp) (λb o _ c _ e n=>u.slot b o e n c<|by simp) (λb o _ e n=>u.free b o e n<|by simp) (λb o _ e=>u.there b o e<|by simp) u.tups u.frzs u.tbls (λt j=>by
  obtain⟨q,d,f,a,i⟩:=j;rw[g]at a;cases a;exact⟨_,d,f,l,i⟩) hok I.bare
def Inv.call(I:Inv X π σ H s)(u:Un (jx X.stack) ch H H' s.heap h')(hok:gk X.prog X.w H' h')(v:AllBare g')
  (f:∀b∈ch,(b∈X.ex∨X.sf.heap.objs.size<=b)/\b≠X.env.locals/\(∀x c,X.env.cells.lookup x=W1 c->c≠b)/\∀p∈X.pn++π,p.1≠b) :
  Inv X π σ H' { s with heap:=h',gens:=g',drawn:=d',toks:=t' }:=by
 obtain⟨m,⟨o,E,G,l,r⟩,_⟩:=id I.loc;obtain⟨A,g⟩:=u.any l I.free λz=>(f _ z).2.1 rfl;exact I.step (ch:=ch) f (λb o g y a e n=>u.keep b o e n (λz=>(UG.mp<|I.stkSub b z).elim g y) a) (λb o _ _ a e n=>u.any e n a) (λb o a e n=>u.free b o e n a) (λb o a e=>u.there b o e a) u.tups u.frzs u.tbls (λC t=>by
  obtain⟨B,i,j,d,q⟩:=t;rw[l]at d;cases d;exact⟨_,i,j,g,q⟩) hok v
def Inv.turned(I:Inv X π σ H s)(k:∀b o,b≠it->s.heap.get? b=W1 o->h'.get? b=W1 o)(i:H it=Wp)(f:it≠X.env.locals)
  (y:it∈X.ex∨X.sf.heap.objs.size<=it)(w:∀x c,X.env.cells.lookup x=W1 c->c≠it)(t:∀p∈X.pn++π,p.1≠it):Inv X π σ H { s with heap:=h',toks:=t' }:=by
 have d:∀b u,H b=W1 u->b≠it:=λb u e z=>by rw[z,i]at e;cases e
 refine I.step (g':=s.gens) (d':=s.drawn) (ch:=[it]) (λb l=>?_) (λb o _ _ a e _=>k b o (λz=>a<|by simp[z]) e) (λb o _ _ a e _=>⟨o.slots,k b o (λz=>a<|by simp[z]) e⟩) (λ_ _ _ _ n=>n)
  (λb o a e=>⟨o,k b o (λz=>a<|by simp[z]) e⟩) (λ_ _ e=>e) (λ_ _ _ e=>e) (λb ps e=>⟨#[],by rw[e];simp⟩) (λm j=>?_) (λb u e=>?_) I.bare
 .have e:b=it:=by simpa using l
  subst e;exact⟨y,f,w,t⟩
 .obtain⟨o,A,B,g,r⟩:=j
  exact⟨o,A,B,k _ o (Vw f) g,r⟩
 .refine(I.hok b u e).stay (λc v a q=>k c v ?_ q) (λ_ q=>q) (λ_ _ q=>q) λ_ _ q=>q
  rcases a with z|z
  .rw[z];exact d b u e
  .exact d c _ z
def Inv.tok(I:Inv X π σ H s)(t:Nat):Inv X π σ H { s with toks:=t }:=I.un (h':=s.heap) (t':=t) Un.refl I.hok
def Inv.kept(I:Inv X π σ H s)(k:∀b u,s.heap.get? b=W1 u->h'.get? b=W1 u):Inv X π σ H { s with heap:=h',toks:=t' }:=I.un (Un.kept k)<|I.hok.kept k
def Inv.laid(I:Inv X π σ H s)(k:∀b u,s.heap.get? b=W1 u->h'.get? b=W1 u)(d:2#s<=a)(c:cL X.prog X.w (upd H a o) h' a o) :
  Inv X π σ (upd H a o) { s with heap:=h',toks:=t' }:=I.un (Un.laid k d<|I.hok.fresh d)<|I.hok.laid k d c
def Inv.write(I:Inv X π σ H s)(d:Pj<|H x)(f:e=x∨H e=W1 (.own x))(k:∀b u,b≠e->s.heap.get? b=W1 u->h'.get? b=W1 u)(a:∃u,h'.get? e=W1 u)
  (c:cL X.prog X.w (upd H x o) h' x o):Inv X π σ (upd H x o) { s with heap:=h',toks:=t' }:=I.un (Un.write d f k a)<|I.hok.write d f k a c
def Inv.pins_of(I:Inv X π σ H s)(h:∀p∈a,s.heap.get? p.1=W1 p.2/\H p.1=Wp/\p.1≠X.env.locals/\p.1∉X.fs/\∀v,p.2.data≠.cell v):Inv X a σ H s :=
 ⟨I.ok,I.os,I.bare,I.base,I.loc,I.cell,I.free,I.freeC,λp b=>(UO.mp b).elim (λz=>I.pin p<|Vo _ z)<|h p,I.hok,I.len⟩
def Aw{N:bv}(c:N.Nodup){i j:Nat}(a:N[i]?=W1 x)(b:N[j]?=W1 x):i=j:=by
 obtain⟨g,e⟩:=Uz.mp a;obtain⟨f,d⟩:=Uz.mp b;exact(Yz c).mp<|e.trans d.symm
def wV(I:Inv X π σ H s)(hN:X.N.Nodup)(hi:X.N[i]?=W1 x)(t:JC X.env.scope x)(r:bB v u)
  (h:∀s',Inv X π (σ.set i<|W1 v) H s'->(∃a,Ye a s.heap s'.heap/\(a=X.env.locals∨X.env.cells.lookup x=W1 a))->Q () s')(hf:X.fn x=VT∨X.env.scope.names.lookup x=W1 .local := by first|exact .inl rfl|exact .inr rfl|assumption):UZ M A (storeName X.env x u) Q E s:=by
 obtain⟨m,hn,hl⟩:=id I.loc;have ab:(X.env.scope.kind==.class||(X.env.scope.kind==.module&&X.env.locals != X.env.globals))=U9:=by rw[I.ok.kind];rfl
 have J:i<σ.length:=by rw[I.len];exact(Uz.mp hi).1
 have cne:=I.cne;have tracked:∀{a:UD}{h':UQ},(∃o,s.heap.get? a=W1 o/\H a=Wp)->Ye a s.heap h'->gk X.prog X.w H h':=λ{a h'} ha f b ob e=>by
  obtain⟨_,_,B⟩:=ha;refine(I.hok b ob e).stay (λc w' l q=>(f.2 c ?_).trans q) (λ_ q=>q) (λ_ _ q=>q) λ_ _ q=>q;rintro rfl;rcases l with rfl|l
  .rw[B]at e;cases e
  .rw[B]at l;cases l
 rcases t with G|G
 .refine wpAny_storeName_local G hn (λh' as f=>?_) ab
  obtain⟨oL,_,_,ap,_⟩:=id hn;refine h _ ⟨I.ok,I.os,I.bare,⟨λb o e n T t=>?_,λb o e n T t=>?_,I.base.free,λb o e t=>?_,I.base.tups,I.base.frzs,I.base.tbls⟩,⟨_,as,λj y v' g C e3=>?_⟩,λy c e=>?_,I.free,I.freeC,λp hp=>?_,tracked ⟨oL,ap,I.free⟩ f,by simpa using I.len⟩ ⟨_,f,.inl rfl⟩
  .exact(f.2 b<|Vh<|Uy (UT e) I.ok.above).trans<|I.base.keep b o e n T t
  .obtain⟨sl,g⟩:=I.base.slot b o e n T t
   exact⟨sl,(f.2 b<|Vh<|Uy (UT e) I.ok.above).trans g⟩
  .obtain⟨o',g⟩:=I.base.there b o e t
   exact⟨o',(f.2 b<|Vh<|Uy (UT e) I.ok.above).trans g⟩
  .by_cases L:j=i
   .subst L
    rw[hi]at g;cases g;rw[Vk J]at C;cases C;exact⟨u,r,.inl ⟨G,by simp⟩⟩
   .rw[UN (Vw L)]at C
    obtain⟨u',r',q⟩:=hl j y v' g C e3;refine⟨u',r',?_⟩;rcases q with⟨k,e⟩|⟨k,c,e,z⟩
    .refine .inl ⟨k,?_⟩
     have:y≠x:=λe=>L<|Aw hN g<|e▸hi;simp[this,e]
    .exact .inr ⟨k,c,e,z.sameBut f<|cne y c e⟩
  .obtain⟨w',z⟩:=I.cell y c e
   exact⟨w',z.sameBut f<|cne y c e⟩
  .obtain⟨e,n,ne,nf,d⟩:=I.pin p hp
   exact⟨(f.2 p.1 ne).trans e,n,ne,nf,d⟩
 .have O:X.fn x=VT:=by
   rcases hf with z|z
   .exact z
   .rw[z]at G;cases G
  obtain⟨c,l⟩:=I.ok.has x<|.inl G;obtain⟨w',z⟩:=I.cell x c l;refine wpAny_storeName_cell I.ok.kind G l z<|λh' an f=>?_;obtain⟨oc,Y,U⟩:=id z;refine h { s with heap:=h' } ⟨I.ok,I.os,I.bare,⟨λb o e n T t=>?_,λb o e n T t=>?_,I.base.free,λb o e t=>?_,I.base.tups,I.base.frzs,I.base.tbls⟩,⟨m,hn.sameBut f (Vw (cne x c l)),λj y v' g C e3=>?_⟩,λy c' e=>?_,I.free,I.freeC,λp hp=>?_,tracked ⟨oc,Y,I.freeC x c l⟩ f,by simpa using I.len⟩ ⟨c,f,.inr l⟩
  .exact(f.2 b<|Vh<|Uy (UT e)<|I.ok.cab x c O l).trans<|I.base.keep b o e n T t
  .obtain⟨sl,g⟩:=I.base.slot b o e n T t
   exact⟨sl,(f.2 b<|Vh<|Uy (UT e)<|I.ok.cab x c O l).trans g⟩
  .obtain⟨o',g⟩:=I.base.there b o e t
   exact⟨o',(f.2 b<|Vh<|Uy (UT e)<|I.ok.cab x c O l).trans g⟩
  .by_cases L:j=i
   .subst L
    rw[hi]at g;cases g;rw[Vk J]at C;cases C;exact⟨u,r,.inr ⟨.inl G,c,l,an⟩⟩
   .rw[UN (Vw L)]at C
    obtain⟨u',r',q⟩:=hl j y v' g C e3;refine⟨u',r',?_⟩;rcases q with q|⟨k,c',e,z'⟩
    .exact .inl q
    .refine .inr ⟨k,c',e,z'.sameBut f ?_⟩
     rintro rfl;exact L<|Aw hN g<|I.ok.inj _ _ _ e l▸hi
  .by_cases ah:c'=c
   .subst ah;exact⟨_,an⟩
   .obtain⟨w2,z2⟩:=I.cell y c' e
    exact⟨w2,z2.sameBut f ah⟩
  .obtain⟨e,n,ne,nf,d⟩:=I.pin p hp
   refine⟨(f.2 p.1 ?_).trans e,n,ne,nf,d⟩;intro q;rw[q,Y]at e;have q':oc=p.2:=Vp e;exact d w' (by rw[←q'];exact U)
def n8(I:Inv X π σ H s)(c:X.N.Nodup)(hi:X.N[i]?=W1 x)(a:JC X.env.scope x)(r:bB v u)
  (h:∀s',Inv X π (σ.set i<|W1 v) H s'->Q () s')(b:X.fn x=VT∨X.env.scope.names.lookup x=W1 .local := by first|exact .inl rfl|exact .inr rfl|assumption):UZ M A (storeName X.env x u) Q E s :=
 wV I c hi a r (λs' d _=>h s' d) b
def Inv.call'(I:Inv X π σ H s)(j:s'.os=s.os)(u:Un (jx X.stack) ch H H' s.heap s'.heap)(hok:gk X.prog X.w H' s'.heap)(l:AllBare s'.gens)
  (a:∀b∈ch,(b∈X.ex∨X.sf.heap.objs.size<=b)/\b≠X.env.locals/\(∀x c,X.env.cells.lookup x=W1 c->c≠b)/\∀p∈X.pn++π,p.1≠b):Inv X π σ H' s':=by
 obtain⟨h',f,g,d,i⟩:=s';have e:i=s.os:=j;subst e;exact I.call (g':=f) (t':=d) (d':=g) u hok l a
end
abbrev XK:=Ur->Option UD->Hp->Prop
abbrev St:=List<|Option V
abbrev VK:=V->Hp->Prop
abbrev TE:=St->Hp->VK->Prop
abbrev TT:=St->Hp->(Bool->Hp->Prop)->Prop
abbrev TA:=St->Hp->(ad->Hp->Prop)->Prop
structure qG where
 nx:St->Hp->Prop
 rt:VK
 bk:St->Hp->Prop:=λ_ _=>False
 ct:St->Hp->Prop:=λ_ _=>False
abbrev TS:=qG->St->Hp->Prop
def EP(X:Cx)(c:List<|UD×Obj)(b:St)(Q:VK)(u:Ur)(s':UH):Prop:=∃v a,Inv X c b a s'/\bB v u/\Q v a
def TP(X:Cx)(d:List<|UD×Obj)(c:St)(Q:Bool->Hp->Prop)(b:Bool)(s':UH):Prop:=∃a,Inv X d c a s'/\Q b a
def AP(X:Cx)(d:List<|UD×Obj)(c:St)(Q:ad->Hp->Prop)(e:List Ur)(s':UH):Prop:=∃a b,Inv X d c b s'/\bo a e/\Q a b
noncomputable def SP(X:Cx) (c:List<|UD×Obj) (D:qG) (f:Flow) (s':UH):Prop :=
 match f with
 |.next=>∃a b,Inv X c a b s'/\D.nx a b
 |.brk=>∃a b,Inv X c a b s'/\D.bk a b
 |.cont=>∃a b,Inv X c a b s'/\D.ct a b
 |.ret u=>∃v a b,Inv X c a b s'/\bB v u/\D.rt v b
def PE(X:Cx)(e:Vt)(t:TE):Prop :=
 ∀(b:List<|UD×Obj) (s:UH) (a:St) (H:Hp) (Q:VK),Inv X b a H s->t a H Q->UZ 4#X X.A (eval e X.env) (EP X b a Q) X.xe s
def PT(X:Cx)(e:Vt)(t:TT):Prop :=
 ∀(b:List<|UD×Obj) (s:UH) (a:St) (H:Hp) (Q:Bool->Hp->Prop),Inv X b a H s->t a H Q->UZ 4#X X.A (isTrue e X.env<|eval e X.env) (TP X b a Q) X.xe s
def PW(X:Cx)(e:Vt)(t:TT):Prop :=
 ∀(whole:Sem Ur) (b:List<|UD×Obj) (s:UH) (a:St) (H:Hp) (Q:Bool->Hp->Prop),Inv X b a H s->t a H Q->UZ 4#X X.A (isTrue e X.env whole) (TP X b a Q) X.xe s
def PW.pt(h:PW X e t):PT X e t:=h _
def PA(X:Cx)(es:List Vt)(t:TA):Prop :=
 ∀(pos:Pos) (b:List<|UD×Obj) (s:UH) (a:St) (H:Hp) (Q:ad->Hp->Prop),Inv X b a H s->t a H Q->UZ 4#X X.A (spliced<|VQ pos<|UJ es X.env) (AP X b a Q) X.xe s
def PS(X:Cx)(st:WE)(t:TS):Prop :=
 ∀(b:List<|UD×Obj) (s:UH) (a:St) (H:Hp) (D:qG),Inv X b a H s->t D a H->UZ 4#X X.A (exec st X.env) (SP X b D) X.xe s
def zE(X:Cx)(st:List WE)(t:TS):Prop :=
 ∀(b:List<|UD×Obj) (s:UH) (a:St) (H:Hp) (D:qG),Inv X b a H s->t D a H->UZ 4#X X.A (execs st X.env) (SP X b D) X.xe s
def cW{Q b:d->UH->Prop}(h:UZ M A t Q E s)(c:∀a s,Q a s->b a s):UZ M A t b E s:=VH h c λ_ _ x=>x
section
variable {X:Cx}
def R4(i:Nat):TE:=λa H Q=>∃v,a[i]?=W1 (W1 v)/\Q v H
def tC(v:V):TE:=λ_ H Q=>Q v H
def je(w:X.N[i]?=W1 x)(o:BX X.env.scope x)(d:1#x:=by decide)(f:3#x:=by decide):PE X (.Name x pos) (R4 i):=by
 intro n s j H Q I h;obtain⟨v,e,h⟩:=h;obtain⟨m,p,t⟩:=I.loc;obtain⟨u,r,l⟩:=t i x v w e o;have fin:EP X n j Q u s:=⟨v,H,I,r,h⟩
 rcases l with⟨b,q⟩|⟨b,c,g,a⟩
 .exact wpAny_Name (wpAny_loadName_local I.ok.kind b p q fin) d
 .rcases b with b|b
  .exact wpAny_Name (wpAny_loadName_cell I.ok.kind b g a fin) d
  .exact wpAny_Name (wpAny_loadName_free I.ok.kind b g a fin f) d
def N4{i j pos}:PE X (.Constant (.int i) j pos) (tC<|.int i):=λ_ _ _ H _ I h=>wpAny_Constant_int ⟨.int i,H,I.tok _,⟨_,rfl⟩,h⟩
def QF{b j pos}:PE X (.Constant (.bool b) j pos) (tC<|.bl b):=λ_ _ _ H _ I h=>Constant_bool ⟨.bl b,H,I,rfl,h⟩
def N3{j pos}:PE X (.Constant .none j pos) (tC .non):=λ_ _ _ H _ I h=>Constant_none ⟨.non,H,I,rfl,h⟩
def N0{x j pos}:PE X (.Constant (.str x) j pos) (tC<|.str x):=λ_ _ _ H _ I h=>Calls.Constant_str ⟨.str x,H,I.tok _,⟨_,rfl⟩,h⟩
def Gl(X:Cx)(x:UL):Prop:=X.env.kindOf x=W1 .globalImplicit
def iU(I:Inv X e d H s)(b:Gl X x)(a:X.mg x=W1 u)(h:Q u s)
  (c:1#x:=by decide):UZ 4#X X.A (eval (.Name x pos) X.env) Q E s :=
 Zy I.ok.kind b (Calls.loadGlobal_global (by rw[I.ok.glob];exact I.mod.glob.keeps I.bk) a h) c
def ql(I:Inv X j i H s)(d:Gl X x)(c:X.mg x=Wp)(a:bootBuiltins x=W1 u)(h:Q u s)
  (b:x≠"__name__":=by decide)(e:1#x:=by decide):UZ 4#X X.A (eval (.Name x pos) X.env) Q E s:=by
 obtain⟨l,g,f⟩:=I.mod.blt;exact Zy I.ok.kind d (Calls.loadGlobal_builtin (by rw[I.ok.glob];exact I.mod.glob.keeps I.bk) c (by rw[I.ok.blt];exact g.keeps I.bk) ((f x b).trans a) h) e
def KL(b:Gl X x)(a:X.mg x=W1 u)(r:bB v u)(c:1#x:=by decide):PE X (.Name x pos) (tC v) :=
 λ_ _ _ H _ I h=>iU I b a ⟨v,H,I,r,h⟩ c
def KR(d:Gl X x)(c:X.mg x=Wp)(a:bootBuiltins x=W1 u)(r:bB v u)(b:x≠"__name__":=by decide)(e:1#x:=by decide):PE X (.Name x pos) (tC v) :=
 λ_ _ _ H _ I h=>ql I d c a ⟨v,H,I,r,h⟩ b e
variable {a b:Vt}{ta tb:TE}{pos:Pos}
noncomputable def PC(X:Cx) (g:CmpOp) (a b:Vt) (t:TE):Prop :=
 ∀(d:List<|UD×Obj) (s:UH) (c:St) (H:Hp) (Q:VK),Inv X d c H s->t c H Q ->
  UZ 4#X X.A (eval a X.env) (λv f=>UZ 4#X X.A (eval b X.env) (λu e=>UZ 4#X X.A (VA g v u) (EP X d c Q) X.xe e) X.xe f) X.xe s
def HY(b:Vt)(h:c≠.In)(d:c≠.NotIn):behindInMarks c b=U9:=by
 have f:(c==CmpOp.In)=U9:=by cases c<;>first|rfl|exact ee rfl h
 have e:(c==CmpOp.NotIn)=U9:=by cases c<;>first|rfl|exact ee rfl d
 cases b<;>simp[behindInMarks,f,e]
def tB(t:TE):TT:=λd H Q=>t d H λx e=>∃c,x=.bl c/\Q c e
def NO(h:PE X e t)(j:∀whole,isTrue e X.env whole=(do let v ←whole;standAt e.pos;Yr [v] (truthy v)):=by intro _;rfl):PT X e (tB t):=by
 intro f s c H Q I hw;refine isTrue_plain (cW (h f s c H _ I hw) λv n z9=>?_)<|j _;obtain⟨x,m,l,g,i⟩:=z9;obtain⟨d,rfl,q⟩:=i;cases g;exact Wg ⟨m,l,q⟩
variable {tA tB':TT}{rest:List Vt}
def Sj(t u:TT):TT:=λd H Q=>t d H λc e=>if c=VT then u d e Q else Q U9 e
def TU(t u:TT):TT:=λd H Q=>t d H λc e=>if c=VT then Q VT e else u d e Q
def Sa(t:TT):TT:=λd H Q=>t d H λc e=>Q (!c) e
def Kt(g:PT X a tA):PW X (.BoolOp .And [a] pos) tA:=by
 intro i f s d H Q I h;refine isTrue_and<|cW (g f s d H Q I h) λc j e=>?_;cases c with|true=>exact isTrue_and_nil e|false=>exact e
def NM(g:PT X a tA):PW X (.BoolOp .Or [a] pos) tA:=by
 intro i f s d H Q I h;refine isTrue_or<|cW (g f s d H Q I h) λc j e=>?_;cases c with|false=>exact isTrue_or_nil e|true=>exact e
def NN(n:PT X a tA)(m:PW X (.BoolOp .And (b::rest) pos) tB'):PW X (.BoolOp .And (a::b::rest) pos) (Sj tA tB'):=by
 intro j e s d H Q I h;refine isTrue_and<|cW (n e s d H _ I h) λc l z9=>?_;obtain⟨i,g,f⟩:=z9;cases c with|true=>exact m j e l d i Q g f|false=>exact⟨i,g,f⟩
def Qv(n:PT X a tA)(m:PW X (.BoolOp .Or (b::rest) pos) tB'):PW X (.BoolOp .Or (a::b::rest) pos) (TU tA tB'):=by
 intro j e s d H Q I h;refine isTrue_or<|cW (n e s d H _ I h) λc l z9=>?_;obtain⟨i,g,f⟩:=z9;cases c with|true=>exact⟨i,g,f⟩|false=>exact m j e l d i Q g f
def NP(f:PT X a tA):PT X (.UnaryOp .Not a pos) (Sa tA):=by
 intro e s d H Q I h;exact isTrue_not<|f e s d H (λc g=>Q (!c) g) I h
def Qc(ta tb:TE):TE:=λd H Q=>ta d H λx e=>∃c,x=.bl c/\if c=VT then tb d e Q else Q (.bl U9) e
def R9(ta tb:TE):TE:=λd H Q=>ta d H λx e=>∃c,x=.bl c/\if c=VT then Q (.bl VT) e else tb d e Q
def P1(ta:TE):TE:=λd H Q=>ta d H λx e=>∃c,x=.bl c/\Q (.bl (!c)) e
def N1{e}(h:PE X a t):PE X (.BoolOp e [a] pos) t:=λd s c H Q I hw=>BoolOp_one<|h d s c H Q I hw
def N6(n:PE X a ta)(m:PE X (.BoolOp .And (b::rest) pos) tb):PE X (.BoolOp .And (a::b::rest) pos) (Qc ta tb):=by
 intro f s e H Q I h;refine BoolOp_and<|cW (n f s e H _ I h) λv j ⟨x,i,g,l,d⟩=>?_;obtain⟨c,rfl,d⟩:=d;cases l;refine Wg ?_;cases c with|true=>exact m f j e i Q g d|false=>exact⟨.bl U9,i,g,rfl,d⟩
def QD(n:PE X a ta)(m:PE X (.BoolOp .Or (b::rest) pos) tb):PE X (.BoolOp .Or (a::b::rest) pos) (R9 ta tb):=by
 intro f s e H Q I h;refine BoolOp_or<|cW (n f s e H _ I h) λv j ⟨x,i,g,l,d⟩=>?_;obtain⟨c,rfl,d⟩:=d;cases l;refine Wg ?_;cases c with|false=>exact m f j e i Q g d|true=>exact⟨.bl VT,i,g,rfl,d⟩
def N2(i:PE X a ta):PE X (.UnaryOp .Not a pos) (P1 ta):=by
 intro f s e H Q I h;refine UnaryOp_<|cW (i f s e H _ I h) λv m z9=>?_;obtain⟨x,l,j,g,d⟩:=z9;obtain⟨c,rfl,d⟩:=d;cases g;exact not_of<|Wg ⟨.bl (!c),l,j,rfl,d⟩
def TV(t:TT)(ta tb:TE):TE:=λd H Q=>t d H λc e=>if c=VT then ta d e Q else tb d e Q
def HK(m:PT X c tA)(o:PE X a ta)(n:PE X b tb):PE X (.IfExp c a b pos) (TV tA ta tb):=by
 intro f s e H Q I h;refine wpAny_IfExp<|cW (m f s e H _ I h) λd g z9=>?_;obtain⟨l,j,i⟩:=z9;cases d with|true=>exact o f g e l Q j i|false=>exact n f g e l Q j i
end
def gH(K:Uv)(H:Hp)(a:UD)(xs:ad):Prop :=
 Rd H a (.lst xs) ∨
  ∃(o:Obj) (b:Array Ur) (n:Nat),K.lookup a=W1 o/\o.cls=.type "list"/\o.dict=Wp/\o.data=.seq b n/\b.size<=sizeLine/\bo xs b.toList
def pZ(K:Uv)(H:Hp)(a:UD)(xs:ad):Prop :=
 Rd H a (.tup xs) ∨
  ∃(o:Obj) (b:Array Ur) (n:Nat),K.lookup a=W1 o/\o.cls=.type "tuple"/\o.data=.seq b n/\b.size<=sizeLine/\bo xs b.toList
def S5:Ur->Option V
 |.none=>W1 .non
 |.bool b=>W1<|.bl b
 |.int i _=>W1<|.int i
 |.str x _=>W1<|.str x
 |.bytes b _=>W1<|.byt b
 |.float b _=>W1<|.flt b
 |.ref a=>W1<|.ref a
 |.type n=>W1<|.ty n
 |_=>Wp
def bB.abs(r:bB x u):S5 u=W1 x:=by
 cases x with|non|bl _=>cases r;rfl|int _|str _|byt _|flt _=>obtain⟨t,rfl⟩:=r;rfl|ref _|ty _=>cases r;rfl
def bB.inj(r:bB x u)(q:bB y u):x=y:=Vp<|r.abs.symm.trans q.abs
theorem bo.inj:∀{xs ys:ad}{a:List Ur},bo xs a->bo ys a->xs=ys
 |_,_,_,.nil,.nil=>rfl
 |_,_,_,.cons r t,.cons c b=>by rw[r.inj c,bo.inj t b]
section
variable {X:Cx}{π:List (UD×Obj)}{σ:St}{H:Hp}{s:UH}{a:UD}{xs ys:ad}
def gH.of{K:Uv}(h:H a=W1 (.lst xs)):gH K H a xs:=.inl<|.inl h
def pZ.of{K:Uv}(h:H a=W1 (.tup xs)):pZ K H a xs:=.inl<|.inl h
def Inv.list(I:Inv X π σ H s)(h:gH X.K H a xs):∃its:List Ur,bo xs its/\PlainL s.heap a its.toArray/\xs.length<=sizeLine:=by
 rcases h with h|⟨o,its,n,c,f,d,b,g,r⟩
 .obtain⟨z,its,n,r,e⟩:=h.ok I.hok
  exact⟨its,r,⟨_,n,e,rfl,rfl,rfl⟩,z⟩
 .refine⟨its.toList,r,⟨o,n,I.kIn a o c,f,d,by simpa using b⟩,?_⟩
  have e:=r.length;simp only[WH]at e;omega
def Inv.tuple(I:Inv X π σ H s)(h:pZ X.K H a xs):∃its:List Ur,bo xs its/\IsTup s.heap a its.toArray/\xs.length<=sizeLine:=by
 rcases h with h|⟨o,its,n,c,d,b,f,r⟩
 .obtain⟨z,its,r,p⟩:=h.ok I.hok
  exact⟨its,r,p,z⟩
 .refine⟨its.toList,r,⟨o,I.kIn a o c,d,n,by simpa using b⟩,?_⟩
  have e:=r.length;simp only[WH]at e;omega
def Inv.list_inj(I:Inv X π σ H s)(h:gH X.K H a xs)(h':gH X.K H a ys):xs=ys:=by
 obtain⟨c,r,⟨o,n,e,_,_,d⟩,_⟩:=I.list h;obtain⟨b,i,⟨l,m,f,_,_,g⟩,_⟩:=I.list h';rw[e]at f;cases f;rw[d]at g;injection g with j _;have:c=b:=by simpa using en Y8 j
 subst this;exact r.inj i
def Inv.tuple_inj(I:Inv X π σ H s)(h:pZ X.K H a xs)(h':pZ X.K H a ys):xs=ys:=by
 obtain⟨c,r,⟨o,e,_,n,d⟩,_⟩:=I.tuple h;obtain⟨b,i,⟨l,f,_,m,g⟩,_⟩:=I.tuple h';rw[e]at f;cases f;rw[d]at g;injection g with j _;have:c=b:=by simpa using en Y8 j
 subst this;exact r.inj i
end
abbrev Cx.wish(X:Cx)(E:Ur->UH->Prop):Cx:={ X with xe:=E }
abbrev Cx.nox(X:Cx):Cx:=X.wish λ_ _=>False
def Cx.Ok.wish{X:Cx}(ok:X.Ok)(E:Ur->UH->Prop):(X.wish E).Ok :=
 ⟨ok.mod,ok.kind,ok.glob,ok.blt,ok.above,ok.inj,ok.has,ok.cab,ok.hd,ok.frames,ok.stk,ok.exf,ok.bs,ok.bsz,ok.noex,ok.exfs,ok.funs,ok.frf,ok.tab⟩
def Cx.Ok.unwish{X:Cx}(ok:(X.wish E).Ok):X.Ok :=
 ⟨ok.mod,ok.kind,ok.glob,ok.blt,ok.above,ok.inj,ok.has,ok.cab,ok.hd,ok.frames,ok.stk,ok.exf,ok.bs,ok.bsz,ok.noex,ok.exfs,ok.funs,ok.frf,ok.tab⟩
section
variable {X:Cx}{π:List (UD×Obj)}{σ:St}{H:Hp}{s:UH}{E:Ur->UH->Prop}
def Inv.wish(I:Inv X π σ H s)(E:Ur->UH->Prop):Inv (X.wish E) π σ H s:=⟨I.ok.wish E,I.os,I.bare,I.base,I.loc,I.cell,I.free,I.freeC,I.pin,I.hok,I.len⟩
def Inv.unwish(I:Inv (X.wish E) π σ H s):Inv X π σ H s:=⟨I.ok.unwish,I.os,I.bare,I.base,I.loc,I.cell,I.free,I.freeC,I.pin,I.hok,I.len⟩
def SP.unwish{D:qG}(h:SP (X.wish E) π D f s'):SP X π D f s':=by
 cases f with|next|brk|cont=>obtain⟨a,b,I,q⟩:=h;exact⟨a,b,I.unwish,q⟩|ret u=>obtain⟨v,a,b,I,r,q⟩:=h;exact⟨v,a,b,I.unwish,r,q⟩
def zE.nox{st:List WE}(h:zE X.nox st t):zE X st t:=λπ s σ H D I hw=>
 VH (h π s σ H D (I.wish _) hw) (λ_ _ q=>q.unwish) λ_ _ z=>Vz z
end
section
variable {X:Cx}{st:WE}{rest:List WE}{t u:TS}{e:Vt}{te:TE}{pos:Pos}
def P4:TS:=λD a H=>D.nx a H
def R6(t u:TS):TS:=λD a H=>t { D with nx:=u D } a H
def yA:zE X [] P4:=λ_ _ a H _ I h=>wpAny_execs_nil ⟨a,H,I,h⟩
def og(i:PS X st t)(g:zE X rest u):zE X (st::rest) (R6 t u):=by
 intro b s c H D I h;refine wpAny_execs_cons<|cW (i b s c H { D with nx:=u D } I h) λf d q=>?_;cases f with
 |next=>
  obtain⟨a,l,j,q⟩:=q;exact g b d a l D j q
 |ret v|brk|cont=>exact q
def Inv.quiet(I:Inv X b a H s):interactive X.env=U9:=by simp[interactive,I.ok.kind]
def P7(te:TE):TS:=λD a H=>te a H λ_ b=>D.nx a b
def yB(f:PE X e te)(d:V0 e Wp pos.line X.env=pure U9:=by rfl):PS X (.Expr e pos) (P7 te):=by
 intro b s a H D I h;exact wpAny_Expr_any (cW (f b s a H _ I h) λv j ⟨x,i,g,l,c⟩=>⟨a,i,g,c⟩) I.quiet d
def R7(te:TE):TS:=λD a H=>te a H D.rt
def NQ(f:PE X e te):PS X (.Return (W1 e) pos) (R7 te):=by
 intro b s a H D I h;exact wpAny_Return_some<|cW (f b s a H _ I h) λv j ⟨x,i,g,c,d⟩=>⟨x,a,i,g,c,d⟩
def Sf(c:TT)(t u:TS):TS:=λD a H=>c a H λb d=>if b=VT then t D a d else u D a d
def Qx(o:PT X c n)(q:zE X a t)(p:zE X b u):PS X (.If c a b pos) (Sf n t u):=by
 intro g s f H D I h;refine wpAny_If<|cW (o g s f H _ I h) λd i z9=>?_;obtain⟨m,l,j⟩:=z9;cases d with|true=>exact q g i f m D l j|false=>exact p g i f m D l j
def Nv:TS:=λ_ _ _=>False
def HB:PS X st Nv:=λ_ _ _ _ _ _ h=>h.elim
end
abbrev TG:=V->St->Hp->(St->Hp->Prop)->Prop
abbrev Px:=ad->St->Hp->(St->Hp->Prop)->Prop
noncomputable def PG(X:Cx) (target:Vt) (t:TG):Prop :=
 ∀(c:List<|UD×Obj) (s:UH) (b:St) (H:Hp) (v:V) (u:Ur) (Q:St->Hp->Prop),Inv X c b H s->bB v u->t v b H Q ->
  UZ 4#X X.A (assign target X.env u) (λ_ e=>∃a d,Inv X c a d e/\Q a d) X.xe s
noncomputable def F2(X:Cx) (ts:List Vt) (t:Px):Prop :=
 ∀(c:List<|UD×Obj) (s:UH) (b:St) (H:Hp) (d:ad) (e:List Ur) (Q:St->Hp->Prop),Inv X c b H s->bo d e->t d b H Q ->
  UZ 4#X X.A (assignInOrder ((assignEach ts X.env).map (·.2)) e) (λ_ g=>∃a f,Inv X c a f g/\Q a f) X.xe s
abbrev Ru:=V->V->V->Hp->(Hp->Prop)->Prop
noncomputable def Rz(X:Cx) (t:Ru):Prop :=
 ∀(b:List<|UD×Obj) (s:UH) (a:St) (H:Hp) (o i v:V) (c d u:Ur) (Q:Hp->Prop),Inv X b a H s->bB o c->bB i d->bB v u->t o i v H Q ->
  UZ 4#X X.A (setItem c d u) (λ_ f=>∃e,Inv X b a e f/\Q e) X.xe s
section
variable {X:Cx}{pos:Pos}
def IE(i:Nat):TG:=λv a H Q=>Q (a.set i<|W1 v) H
def DJ(c:X.N.Nodup)(hi:X.N[i]?=W1 x)(a:JC X.env.scope x)(b:X.fn x=VT∨X.env.scope.names.lookup x=W1 .local := by first|exact .inl rfl|exact .inr rfl|assumption):PG X (.Name x pos) (IE i):=by
 intro f s e H v u Q I r h;exact wpAny_assign_Name<|n8 I c hi a r (λg d=>⟨_,H,d,h⟩) b
def SO:Px:=λb a H Q=>b=[]/\Q a H
def Q4(t:TG)(u:Px):Px:=λc b H Q=>∃v r,c=v::r/\t v b H λa d=>u r a d Q
def KH:F2 X [] SO:=by
 intro b s a H c d Q I r h;obtain⟨e,h⟩:=h;subst e;cases r;exact assignInOrder_nil ⟨a,H,I,h⟩
def HF(l:PG X e t)(j:F2 X es u)
  (i:(assignEach (e::es) X.env).map (·.2)=assign e X.env::(assignEach es X.env).map (·.2):=by rfl):F2 X (e::es) (Q4 t u):=by
 intro b s c H p w Q I r h;obtain⟨v,q,m,h⟩:=h;subst m;cases r with
 |cons r f=>
  rw[i];refine assignInOrder_cons<|cW (l b s c H _ _ _ I r h) λ_ d z9=>?_;obtain⟨a,o,n,g⟩:=z9;exact j b d a o _ _ Q n f g
def SM(K:Uv)(n:Nat)(t:Px):TG:=λv b H Q=>∃a xs,v=.ref a/\pZ K H a xs/\xs.length=n/\t xs b H Q
def NV{k:Nat}(w:X.calm=VT)(h:F2 X es t)
  (p:(assignEach es X.env).length=n:=by rfl)(c:(assignEach es X.env).findIdx? (·.1)=Wp:=by rfl):PG X (.Tuple es k pos) (SM X.K n t):=by
 intro f s d H v u Q I r hw;obtain⟨a,xs,y,m,q,hw⟩:=hw;subst y;cases r;obtain⟨i,g,l,B⟩:=I.tuple m;refine assign_Tuple_tuple (I.ok.hd w) l (by simp[p,←q,g.length]) c λx j=>?_;have z:Inv X f d H { s with heap:=x }:=I.kept (t':=s.toks) λb o e=>j b o (Vh<|UT e) e;exact h f _ d H xs _ Q z (by simpa using g) hw
def SN(b c:TE)(t:Ru):TG:=λv a H Q=>b a H λo f=>c a f λi e=>t o i v e λd=>Q a d
def NW(z:PE X o e)(hi:PE X i f)(w:Rz X t)
  (A:∀v,assign (.Subscript o i pos) X.env v=(do
   let a ←Yr [v] (eval o X.env)
   let b ←Yr [v,a] (eval i X.env)
   standAt pos
   Yr [v,a,b] (setItem a b v)
   release [v,a,b] []):=by intro _;rfl):PG X (.Subscript o i pos) (SN e f t):=by
 intro d s c H v u Q I r h;rw[A];refine UA<|Wf<|cW (z d s c H _ I h) λa j ⟨x,L,E,m,q⟩=>?_;refine UA<|Wf<|cW (hi d j c L _ E q) λb g ⟨y,J,C,l,p⟩=>?_;refine UA<|wpAny_standAt<|UA<|Wf<|cW (w d g c J x y v a b u _ C m l r p) λ_ M z9=>?_;obtain⟨G,B,n⟩:=z9;exact wpAny_release ⟨c,G,B,n⟩
def Nw(b:TE)(g:TG):TS:=λD a H=>b a H λx c=>g x a c D.nx
def HC(m:PE X e c)(l:PG X tg g)(j:swapsWithSole [tg] e pos.line X.env=pure U9:=by rfl)(hw:swappedStores [tg] e X.env=pure Wp:=by rfl)
  (n:(assignEach [tg] X.env).map (·.2)=[assign tg X.env]:=by rfl):PS X (.Assign [tg] e pos) (Nw c g):=by
 intro b s a H D I h;refine wpAny_Assign_stores (cW (m b s a H _ I h) λv d z9=>?_) j hw;obtain⟨x,p,o,f,i⟩:=z9;rw[n];exact cW (l b d a p x v _ o f i) λ_ r q=>q
def tK(n:X.N.Nodup)(hi:X.N[i]?=W1 x)(g:JC X.env.scope x)(m:PE X e c)(j:V0 e (W1<|.Name x pos') pos.line X.env=pure U9:=by rfl)(l:X.fn x=VT∨X.env.scope.names.lookup x=W1 .local := by first|exact .inl rfl|exact .inr rfl|assumption) :
  PS X (.Assign [.Name x pos'] e pos) (Nw c<|IE i):=by
 intro b s a H D I h;refine wpAny_Assign_Name (cW (m b s a H _ I h) λv t z9=>?_) j;obtain⟨y,q,p,d,f⟩:=z9;exact n8 p n hi g d (λr o=>⟨_,q,o,f⟩) l
def R8(i j:Nat)(c:TA):TS:=λD a H=>c a H λb d=>∃v w,b=[v,w]/\D.nx ((a.set i<|W1 v).set j<|W1 w) d
def NR{r n pt:Pos}{t k2 c}(hc:X.calm=VT)(J:X.N.Nodup)(hi:X.N[i]?=W1 x)(hj:X.N[j]?=W1 y)(z:i≠j)
  (G:X.env.scope.names.lookup x=W1 .local)(E:X.env.scope.names.lookup y=W1 .local)(ha:PA X [a,b] T)
  (hw:swappedStores [.Tuple [.Name x r,.Name y n] t pt] (.Tuple [a,b] k2 c) X.env=pure (W1 [x,y]))
  (hs:swapsWithSole [.Tuple [.Name x r,.Name y n] t pt] (.Tuple [a,b] k2 c) pos.line X.env=pure U9:=by rfl) :
  PS X (.Assign [.Tuple [.Name x r,.Name y n] t pt] (.Tuple [a,b] k2 c) pos) (R8 i j T):=by
 intro C s B H D I h;rw[exec_Assign_arm];refine UA<|wpAny_standAt ?_;rw[hs];refine UA<|U2 ?_;rw[dV 0#1];refine UA<|Tuple_<|cW (ha _ C s B H _ I h) λQ g z9=>?_;obtain⟨vs,O,I1,r1,m⟩:=z9;obtain⟨v,w,e1,m⟩:=m;subst e1;obtain⟨f,d,rfl,Y,l⟩:∃f d,Q=[f,d]/\bB v f/\bB w d:=by
  cases r1 with
  |cons p q=>
   cases q with
   |cons p' q'=>
    cases q';exact⟨_,_,rfl,p,p'⟩
 refine wpAny_newObj_type ?_ (by show 2<=sizeLine;decide);have I2:Inv X C B O { g with heap:=g.heap.push { cls:=.type "tuple",data:=.seq [f,d].toArray } }:=I1.kept (t':=g.toks) λb o e=>UC _ e;rw[hw];refine UA<|U2 ?_;show UZ 4#X X.A (do rule "assign.swapped-stores";let items ←unpackItems (.ref 2#g) 2 Wp;assignInOrder [λv=>bindName X.env y v,λv=>bindName X.env x v] items.reverse;pure Flow.next) _ _ _;refine UA<|wpAny_rule<|UA<|unpackItems_tuple (items:=#[f,d]) (I.ok.hd hc) (IsTup.new g.heap _) λL u=>?_;have I3:=I2.kept (h':=L) (t':=g.toks) λb o e=>u b o (Vh<|UT e) e;show UZ _ _ (assignInOrder [λv=>bindName X.env y v,λv=>bindName X.env x v] [d,f] >>= λ_=>pure Flow.next) _ _ _;refine UA<|assignInOrder_cons<|wpAny_bindName<|n8 I3 J hj (.inl E) l (λs2 I4=>?_)<|.inr E;refine assignInOrder_cons<|wpAny_bindName<|n8 I4 J hi (.inl G) Y (λs3 M=>assignInOrder_nil<|U2 ?_)<|.inr G;rw[List.set_comm _ _ (Vw z)]at M;exact⟨_,O,M,m⟩
end
section
variable {X:Cx}{pos:Pos}
def Nu(c:TT)(tb:TS):TS:=λD a H=>∃W:Nat->St->Hp->Prop,(∃m,W m a H)/\∀m a H,W m a H ->
 c a H λb f=>if b=VT then ∃N:St->Hp->Prop,(∀d g,N d g->∃e,e < m/\W e d g)/\tb { D with nx:=N,ct:=N,bk:=D.nx } a f else D.nx a f
def HA(t:PassesOwn 4#X X.A X.env X.xe)(T:PT X c J)(U:zE X body tb):PS X (.While c body [] pos) (Nu J tb):=by
 intro j s C H D I h;obtain⟨W,⟨Q,G⟩,turn⟩:=h;refine wpAny_While<|codeAny_whileLoop (λn O=>∃e B,Inv X j e B O/\W n e B) ?_ Q ⟨C,H,I,G⟩;rintro n M ⟨d,z,Y,E⟩;refine wpAny_passesOwn t<|cW (T j M d z _ Y (turn n d z E)) λb L z9=>?_;obtain⟨y,x,i⟩:=z9;cases b with
 |true=>
  obtain⟨N,u,i⟩:=i;rw[dh rfl];refine wpAny_passesOwn t<|cW (U j L d y _ x i) λf s3 m=>?_;cases f with
  |next=>
   obtain⟨a,g,r,o⟩:=m;obtain⟨p,q,l⟩:=u a g o;exact⟨p,q,a,g,r,l⟩
  |cont=>
   obtain⟨a,g,r,o⟩:=m;obtain⟨p,q,l⟩:=u a g o;exact⟨p,q,a,g,r,l⟩
  |brk|ret v=>exact m
 |false=>
  rw[dV Vn];exact wpAny_execs_nil ⟨d,y,x,i⟩
end
structure It where
 go:Nat->Hp->Prop
 yld:Nat->Hp->V->Hp->Prop
 stop:Nat->Hp->Prop
def qF(X:Cx)(a:List<|UD×Obj)(H:Hp)(b:UD):Prop :=
 H b=Wp/\b≠X.env.locals/\b∉X.fs/\(b∈X.ex∨X.sf.heap.objs.size<=b)/\(∀x c,X.env.cells.lookup x=W1 c->c≠b)/\∀p∈X.pn++a,p.1≠b
def Inv.fpOk(I:Inv X d i H s)(a:2#s<=b)(g:H' b=Wp):qF X d H' b:=by
 refine⟨g,Z2 (Uy I.lt a),I.nofs a,.inr (UI I.sz a),λx c e z=>?_,λp f z=>?_⟩
 .obtain⟨v,q⟩:=I.cell x c e
  exact ee (Uy q.lt (by rw[z];exact a))<|WJ _
 .exact ee (Uy (UT (I.pin p f).1) (by rw[z];exact a))<|WJ _
structure C9 (P:Vv) (w:VL) (K:Uv) (tg:Vt) (J:It) (fp:List UD) (it:UD) (tn:Nat->UQ->Prop):Prop where
 mem:it∈fp
 obj:∀i h,tn i h->∀b∈fp,∃o,h.get? b=W1 o/\∀v,o.data≠.cell v
 keep:∀i h h',tn i h->(∀b∈fp,∀o,h.get? b=W1 o->h'.get? b=W1 o)->tn i h'
 item:∀(X:Cx),X.prog=P->X.w=w->X.K=K->X.calm=VT->∀(i:Nat) (π:List (UD×Obj)) (s:UH) (σ:St) (H:Hp) (E:Ur->UH->Prop),Inv X π σ H s->(∀b∈fp,qF X π H b)->tn i s.heap->J.go i H ->
  UZ (UY P w) X.A (pyNext (.ref it)) (λr s1=>∃u,r=W1 u /\
   UZ (UY P w) X.A (letOwnedTupleGo tg (.ref it) u) (λ_ s2=>∃x H',Inv X π σ H' s2/\bB x u/\J.yld i H x H'/\tn (i+1) s2.heap/\∀b∈fp,H' b=Wp) E s1) E s
 done:∀(X:Cx),X.prog=P->X.w=w->X.K=K->X.calm=VT->∀(i:Nat) (π:List (UD×Obj)) (s:UH) (σ:St) (H:Hp) (E:Ur->UH->Prop),Inv X π σ H s->(∀b∈fp,qF X π H b)->tn i s.heap->J.stop i H ->
  UZ (UY P w) X.A (pyNext (.ref it)) (λr s1=>r=Wp/\Inv X π σ H s1) E s
 self:∀(A:VD) (i:Nat) (s:UH) (Q:Ur->UH->Prop) (E:Ur->UH->Prop),tn i s.heap->Q (.ref it) s->UZ (UY P w) A (pyIter (.ref it)) Q E s
abbrev TI:=St->Hp->(It->Hp->Prop)->Prop
noncomputable def S9(X:Cx) (d:List<|UD×Obj) (i:St) (tg:Vt) (R:It->Hp->Prop) (a:Ur) (s2:UH):Prop :=
 ∃(f:UD) (g:List UD) (e:Nat->UQ->Prop) (J:It) (c:Hp),a=.ref f/\Inv X d i c s2/\C9 X.prog X.w X.K tg J g f e/\e 0 s2.heap/\(∀b∈g,qF X d c b)/\R J c
noncomputable def PI(X:Cx) (tg iter:Vt) (c:TI):Prop :=
 ∀(b:List<|UD×Obj) (s:UH) (a:St) (H:Hp) (R:It->Hp->Prop),Inv X b a H s->c a H R ->
  UZ 4#X X.A (eval iter X.env) (λv d=>UZ 4#X X.A (pyIter v) (S9 X b a tg R) X.xe d) X.xe s
def D2(b:s.heap.get? it=W1 o)(e:o.cls=.type n)(d:o.data=.fields vs)
  (c:["enumerate","zip","dict_itemiterator","dict_reverseitemiterator","odict_iterator","itertools.zip_longest","itertools.pairwise"].contains n=U9)(a:Q () s):UZ M A (letOwnedTupleGo tg (.ref it) u) Q E s:=by
 unfold letOwnedTupleGo;cases tg<;>first
  |exact U2 a
  |(cases u<;>first
    |exact U2 a
    |(refine UA<|wpAny_load b ?_;rw[e,d];show UZ M A (if(["enumerate","zip","dict_itemiterator","dict_reverseitemiterator","odict_iterator","itertools.zip_longest","itertools.pairwise"].contains n&&vs[0]?==W1 (rawInt _))=VT then _ else _) Q E s;rw[dV (by intro h;rw[c,WZ]at h;cases h)];exact U2 a))
def RE(K:Uv)(a:UD):It :=
 ⟨λi H=>∃xs x,gH K H a xs/\xs[i]?=W1 x,λi H x b=>b=H/\∀xs,gH K H a xs->xs[i]?=W1 x,λi H=>∃xs,gH K H a xs/\xs.length<=i⟩
def Pl(lo:Int)(n:Nat):It:=⟨λi _=>i<n,λi H x a=>a=H/\x=.int (lo+i),λi _=>n<=i⟩
def EC{P:Vv}{w:VL}{K:Uv}{tg:Vt}(a it:UD):C9 P w K tg (RE K a) [it] it (λi h=>h.IsListIter it a i) where
 mem:=by simp
 obj:=λi h st b hb=>by
  have e:b=it:=by simpa using hb
  subst e;obtain⟨o,e,c,d⟩:=st;exact⟨o,e,λv z=>by rw[d]at z;cases z⟩
 keep:=λi h h' st k=>st.at λo e=>k it 0#3 o e
 item:=by
  intro X hP hw hK hc i π s σ H E I hf st hg;subst hP hw hK;obtain⟨xs,x,hq,hx⟩:=hg;obtain⟨its,rv,p,hz⟩:=I.list hq;obtain⟨u,hu,ru⟩:=rv.get hx;obtain⟨f0,f1,f2,f3,f4,f5⟩:=hf it 0#3;refine wpAny_pyNext_list_item st p.isList (x:=u) (by simpa using hu) λh' st' sb=>?_;have I1:Inv X π σ H { s with heap:=h' }:=I.turned (t':=s.toks) (λb o hb e=>(sb.2 b hb).trans e) f0 f1 f3 f4 f5;obtain⟨o,e,c,d⟩:=id st';exact⟨u,rfl,D2 (s:={ s with heap:=h' }) e c d 0#1 ⟨x,H,I1,ru,⟨rfl,λys hy=>by rw[I.list_inj hy hq];exact hx⟩,st',λb hb=>(hf b hb).1⟩⟩
 done:=by
  intro X hP hw hK hc i π s σ H E I hf st hg;subst hP hw hK;obtain⟨xs,hq,hx⟩:=hg;obtain⟨its,rv,p,hz⟩:=I.list hq;obtain⟨f0,f1,f2,f3,f4,f5⟩:=hf it 0#3;have hl:=rv.length;exact wpAny_pyNext_list_end (I.ok.hd hc) st p.isList (by simp;omega) λh' eb=>⟨rfl,I.turned (t':=s.toks) (λb o hb e=>eb b o hb e) f0 f1 f3 f4 f5⟩
 self:=λ_ _ _ _ _ st h=>wpAny_pyIter_listiter st h
def B3{P:Vv}{w:VL}{K:Uv}{tg:Vt}(it:UD)(lo:Int)(n:Nat):C9 P w K tg (Pl lo n) [it] it (λi h=>IsRangeIter h it (lo+(i:Nat)*1) ((n:Int)-(i:Nat)) 1) where
 mem:=by simp
 obj:=λi h st b hb=>by
  have e:b=it:=by simpa using hb
  subst e;exact⟨_,st,λv z=>by
   have z':Data.fields _=Data.cell v:=z;cases z'⟩
 keep:=λi h h' st k=>k it 0#3 _ st
 item:=by
  intro X hP hw hK hc i π s σ H E I hf st hg;subst hP hw hK;obtain⟨f0,f1,f2,f3,f4,f5⟩:=hf it 0#3;have W:=Walks.range (prog:=X.prog) (w:=X.w) (I.ok.hd hc) it lo 1 n;refine W.item i s _ _ hg st λv h' tk hv st' kk=>?_;obtain⟨t,rfl⟩:=hv;have I1:Inv X π σ H { s with heap:=h',toks:=tk }:=I.turned (λb o hb e=>kk b o (by simpa using hb) e) f0 f1 f3 f4 f5;refine⟨_,rfl,D2 (s:={ s with heap:=h',toks:=tk }) (n:="range_iterator") st' rfl rfl 0#1 ⟨.int (lo+i),H,I1,⟨t,?_⟩,⟨rfl,rfl⟩,st',λb hb=>(hf b hb).1⟩⟩;rw[Int.mul_one]
 done:=by
  intro X hP hw hK hc i π s σ H E I hf st hg;subst hP hw hK;obtain⟨f0,f1,f2,f3,f4,f5⟩:=hf it 0#3;exact wpAny_pyNext_range_end (I.ok.hd hc) st (by have:n<=i:=hg;omega) λh' eb=>⟨rfl,I.turned (t':=s.toks) (λb o hb e=>eb b o hb e) f0 f1 f3 f4 f5⟩
 self:=λ_ _ _ _ _ st h=>wpAny_pyIter_rangeiter st h
section
variable {X:Cx}{tg:Vt}
def Q0(K:Uv)(d:TE):TI:=λc H R=>d c H λx b=>∃a,x=.ref a/\(∃xs,gH K b a xs)/\R (RE K a) b
def DH(t:PE X l i):PI X tg l (Q0 X.K i):=by
 intro g s f H R I h;refine cW (t g s f H _ I h) λv c ⟨x,w,d,j,m⟩=>?_;obtain⟨a,e,⟨xs,r⟩,q⟩:=m;subst e;cases j;obtain⟨n,z,p,A⟩:=d.list r;refine wpAny_pyIter_list p.isList ?_;refine⟨2#c,[2#c],_,_,w,rfl,d.kept (t':=c.toks) λb o e=>UC _ e,EC a _,⟨_,Vs _ rfl,rfl,rfl⟩,λb u=>?_,q⟩;have e:b=2#c:=by simpa using u
 subst e;exact d.fpOk (U3 _)<|d.hok.fresh<|U3 _
def Hq{lo hi:Int}(I:Inv X d c H s)(m:-(2 ^ 62)<=lo)(l:lo<2 ^ 62)(j:-(2 ^ 62)<=hi)(i:hi<2 ^ 62)
  (q:R (Pl lo (hi-lo).toNat) H):UZ 4#X X.A (pyIter<|.ref 2#s) (S9 X d c tg R) E { s with heap:=s.heap.push { cls:=.type "range",data:=.fields #[.int lo t,.int hi u,.int 1 v] },toks:=f }:=by
 refine wpAny_pyIter_range (IsRange.new ..) (small_one m l j i) ?_;have a:Inv X d c H { s with heap:=s.heap.push { cls:=.type "range",data:=.fields #[.int lo t,.int hi u,.int 1 v] },toks:=f }:=I.kept λb o e=>UC _ e;refine⟨(s.heap.push { cls:=.type "range",data:=.fields #[.int lo t,.int hi u,.int 1 v] }).objs.size,[(s.heap.push { cls:=.type "range",data:=.fields #[.int lo t,.int hi u,.int 1 v] }).objs.size],_,_,H,rfl,
  a.kept (t':=f) λb o e=>UC _ e,B3 _ lo (hi-lo).toNat,?_,λb g=>?_,q⟩
 .have p:lo+((0:Nat):Int)*1=lo:=by simp
  have n:(((hi-lo).toNat:Nat):Int)-((0:Nat):Int)=Builtin.Range.rangeSize lo hi 1:=by rw[rangeSize_one];split<;>omega
  show IsRangeIter _ _ (lo+((0:Nat):Int)*1) ((((hi-lo).toNat:Nat):Int)-((0:Nat):Int)) 1;rw[p,n];exact Vs _ rfl
 .have e:b=(s.heap.push { cls:=.type "range",data:=.fields #[.int lo t,.int hi u,.int 1 v] }).objs.size:=by simpa using g
  subst e;exact a.fpOk (U3 _)<|a.hok.fresh<|U3 _
def QZ(c:TA):TI:=λa H R=>c a H λb d=>∃j:Int,b=[.int j]/\-(2 ^ 62)<=j/\j<2 ^ 62/\R (Pl 0 j.toNat) d
def xg(o:Gl X "range")(n:X.mg "range"=Wp)(u:PA X [a] f)(m:UJ [a] X.env=[(U9,eval a X.env)]:=by rfl):PI X tg (.Call (.Name "range" p) [a] [] pos) (QZ f):=by
 intro d s c H R I h;refine Call_<|ql I o n boot_range<|Xb (cW (u pos d s c H _ I h) λx y z9=>?_) m rfl;obtain⟨w,z,v,i,b⟩:=z9;obtain⟨j,e,b,l,q⟩:=b;subst e;cases i with
 |cons r g=>
  cases g;obtain⟨t,rfl⟩:=r;exact call_range_1 (Hq v 0#2 0#2 b l<|by simpa using q)
noncomputable def Sg(f:TI) (g:TG) (tb:TS):TS:=λD a H=>f a H λJ l=>∃W:Nat->Nat->St->Hp->Prop,(∃m,W 0 m a l)/\∀i m a H,W i m a H ->
 (J.stop i H/\D.nx a H)∨(J.go i H/\∃N:St->Hp->Prop,(∀b c,N b c->∃e,e < m/\W (i+1) e b c)/\∀x c,J.yld i H x c->g x a c λd j=>tb { D with nx:=N,ct:=N,bk:=D.nx } d j)
def tP(a:List UD)(h:UQ):List (UD×Obj):=a.filterMap λb=>(h.get? b).map λo=>(b,o)
def kN{h:UQ}(a:b∈c)(e:h.get? b=W1 o):(b,o)∈tP c h:=Ws.mpr ⟨b,a,by rw[e];rfl⟩
def E8{h:UQ}(a:p∈tP d h):p.1∈d/\h.get? p.1=W1 p.2:=by
 obtain⟨b,c,e⟩:=Ws.mp a;cases q:h.get? b with
 |none=>rw[q]at e;cases e
 |some o=>
  rw[q]at e;have f:(b,o)=p:=Vp e;subst f;exact⟨c,q⟩
def Inv.pinned(I:Inv X a i H s)(m:∀b∈f,qF X a H b)(l:∀b∈f,∃o,s.heap.get? b=W1 o/\∀v,o.data≠.cell v):Inv X (a++tP f s.heap) i H s :=
 I.pins_of λp j=>(UO.mp j).elim (λz=>I.pin p (Va _ z)) λz=>by
  obtain⟨c,e⟩:=E8 z;obtain⟨r,q,n,_⟩:=m p.1 c;obtain⟨o,g,d⟩:=l p.1 c;rw[e]at g;cases g;exact⟨e,r,q,n,d⟩
def Inv.unpinned(I:Inv X (b++pl) a H s):Inv X b a H s:=I.pins_of λp c=>I.pin p<|Va _<|Vo _ c
def Cm(E:PassesOwn 4#X X.A X.env X.xe)(hc:X.calm=VT)(hi:PI X tg iter wi)(hg:PG X tg g)(l:zE X body tb)
  (hs:∀x,foldedSetIterable iter X.env x=pure x:=by intro _;rfl):PS X (.For tg iter body [] pos) (Sg wi g tb):=by
 intro y s σ H D I h;refine wpAny_For (cW (hi y s σ H _ I h) λv s1 h1=>cW h1 λan s2 h2=>?_) hs;obtain⟨it,L,tn,J,H2,e,I2,T,Q,f2,W,⟨m0,w0⟩,turn⟩:=h2;subst e;have stat:∀{q:Hp},(∀b∈L,q b=Wp)->∀b∈L,qF X y q b:=λhn b l=>⟨hn b l,(f2 b l).2⟩
 refine codeAny_forLoop_any (λn s'=>∃i j q,Inv X y j q s'/\tn i s'.heap/\(∀b∈L,q b=Wp)/\W i n j q) ?_ m0 ⟨0,σ,H2,I2,Q,λb l=>(f2 b l).1,w0⟩;rintro n s3 ⟨i,c,M,I3,C,G,w3⟩;rcases turn i n c M w3 with⟨stop,qn⟩|⟨go,N,hN,step⟩
 .refine wpAny_passesOwn E (cW (T.done X rfl rfl rfl hc i y s3 c M X.xe I3 (stat G) C stop) λr s4 ⟨hr,I4⟩=>?_)
  subst hr;exact wpAny_execs_nil ⟨c,M,I4,qn⟩
 .refine wpAny_passesOwn E (cW (T.item X rfl rfl rfl hc i y s3 c M X.xe I3 (stat G) C go) λr s4 ⟨u,hr,h4⟩=>?_)
  subst hr;refine wpAny_passesOwn E<|cW h4 λ_ s5 ⟨x,H5,I5,r5,y5,z,ab⟩=>?_;have ah:=I5.pinned (stat ab)<|T.obj _ _ z;refine wpAny_passesOwn E<|cW (hg _ s5 c H5 x u _ ah r5 (step x H5 y5)) λ_ s6 ⟨O,H6,I6,q6⟩=>?_;refine wpAny_passesOwn E<|cW (l _ s6 O H6 _ I6 q6) λf U B=>?_;have again:∀{a:St}{p:Hp},Inv X (y++tP L s5.heap) a p U->N a p->∃m,m<n/\∃i j q,Inv X y j q U/\tn i U.heap/\(∀b∈L,q b=Wp)/\W i m j q:=λ{a p} t Y=>by
   obtain⟨m',hm,w7⟩:=hN a p Y;refine⟨m',hm,i+1,a,p,t.unpinned,T.keep _ _ _ z λb l o e=>(t.pin (b,o) (Va _ (Va _ (kN l e)))).1,λb l=>?_,w7⟩;obtain⟨o,e,d⟩:=T.obj _ _ z b l;exact(t.pin (b,o)<|Va _<|Va _<|kN l e).2.1
  cases f with|next|cont=>obtain⟨a,p,t,Y⟩:=B;exact again t Y|brk=>obtain⟨a,p,t,B⟩:=B;exact⟨a,p,t.unpinned,B⟩|ret v=>obtain⟨x7,a,p,t,r7,B⟩:=B;exact⟨x7,a,p,t.unpinned,r7,B⟩
end
def IH{K:Uv}{g:TG}{tb:TS}{D:qG}(Pv:Nat->St->Hp->Prop)(u:Pv 0 b H)(r:∀i b H,i<=xs.length->Pv i b H->gH K H a xs)
  (o:∀i x b H,xs[i]?=W1 x->Pv i b H->g x b H λc j=>tb { D with nx:=Pv<|i+1,ct:=Pv<|i+1,bk:=D.nx } c j)(t:∀b H,Pv xs.length b H->D.nx b H) :
  ∃W:Nat->Nat->St->Hp->Prop,(∃m,W 0 m b H)/\∀i m b H,W i m b H ->
   ((RE K a).stop i H/\D.nx b H)∨((RE K a).go i H/\∃N:St->Hp->Prop,(∀d H',N d H'->∃l,l < m/\W (i+1) l d H')/\∀x H',(RE K a).yld i H x H'->g x b H' λc j=>tb { D with nx:=N,ct:=N,bk:=D.nx } c j):=by
 refine⟨λi m b H=>m=xs.length-i/\i<=xs.length/\Pv i b H,⟨xs.length,by simp,XD _,u⟩,?_⟩;rintro i m b H ⟨rfl,s,p⟩;have q:=r i b H s p
 by_cases f:i<xs.length
 .refine .inr ⟨⟨xs,xs[i],q,by simp[f]⟩,Pv (i+1),λd H' n=>⟨xs.length-(i+1),by omega,rfl,f,n⟩,λx H' y=>?_⟩
  obtain⟨e,y⟩:=y;subst e;exact o i x b _ (y xs q) p
 .have e:i=xs.length:=by omega
  subst e;exact .inl ⟨⟨xs,q,U3 _⟩,t b H p⟩
def Fy{lo:Int}{g:TG}{tb:TS}{D:qG}(Pv:Nat->St->Hp->Prop)(r:Pv 0 a H)
  (o:∀i a H,i<n->Pv i a H->g (.int (lo+i)) a H λb f=>tb { D with nx:=Pv<|i+1,ct:=Pv<|i+1,bk:=D.nx } b f)(q:∀a H,Pv n a H->D.nx a H) :
  ∃W:Nat->Nat->St->Hp->Prop,(∃m,W 0 m a H)/\∀i m a H,W i m a H ->
   ((Pl lo n).stop i H/\D.nx a H)∨((Pl lo n).go i H/\∃N:St->Hp->Prop,(∀c H',N c H'->∃j,j < m/\W (i+1) j c H')/\∀x H',(Pl lo n).yld i H x H'->g x a H' λb f=>tb { D with nx:=N,ct:=N,bk:=D.nx } b f):=by
 refine⟨λi m a H=>m=n-i/\i<=n/\Pv i a H,⟨n,by simp,XD _,r⟩,?_⟩;rintro i m a H ⟨rfl,s,p⟩
 by_cases d:i<n
 .refine .inr ⟨d,Pv (i+1),λc H' l=>⟨n-(i+1),by omega,rfl,d,l⟩,λx H' y=>?_⟩
  obtain⟨e,y⟩:=y;subst e y;exact o i a _ d p
 .have e:i=n:=by omega
  subst e;exact .inl ⟨U3 _,q a H p⟩
abbrev R2:=V->V->Hp->VK->Prop
def ia(X:Cx)(f:Ur->Ur->Sem Ur)(r:R2):Prop :=
 ∀(b:List<|UD×Obj) (s:UH) (a:St) (H:Hp) (x y:V) (v u:Ur) (Q:VK),Inv X b a H s->bB x v->bB y u->r x y H Q ->
  UZ 4#X X.A (f v u) (EP X b a Q) X.xe s
def RQ(X:Cx)(f:Ur->Sem Ur)(r:V->Hp->VK->Prop):Prop :=
 ∀(b:List<|UD×Obj) (s:UH) (a:St) (H:Hp) (x:V) (v:Ur) (Q:VK),Inv X b a H s->bB x v->r x H Q ->
  UZ 4#X X.A (f v) (EP X b a Q) X.xe s
def mv(X:Cx)(f:Ur)(r:ad->Hp->VK->Prop):Prop :=
 ∀(b:List<|UD×Obj) (s:UH) (a:St) (H:Hp) (xs:ad) (c:List Ur) (Q:VK),Inv X b a H s->bo xs c->r xs H Q ->
  UZ 4#X X.A (call f c) (EP X b a Q) X.xe s
def Uo(X:Cx)(r:V->Hp->(Bool->Hp->Prop)->Prop):Prop :=
 ∀(b:List<|UD×Obj) (s:UH) (a:St) (H:Hp) (x:V) (v:Ur) (Q:Bool->Hp->Prop),Inv X b a H s->bB x v->r x H Q ->
  UZ 4#X X.A (truthy v) (TP X b a Q) X.xe s
def P0(r:R2)(b tb:TE):TE:=λa H Q=>b a H λx d=>tb a d λy c=>r x y c Q
def TR(r:V->Hp->VK->Prop)(b:TE):TE:=λa H Q=>b a H λx c=>r x c Q
def rI(C:Int->Int->Prop)(g:Int->Int->V):R2:=λx y H Q=>∃i j,x=.int i/\y=.int j/\C i j/\Q (g i j) H
def Hs(g:Int->Int->V):R2:=λx y H Q=>∃i j,x=.int i/\y=.int j/\Q (g i j) H
def rU(g:Int->V):V->Hp->VK->Prop:=λx H Q=>∃i,x=.int i/\Q (g i) H
section
variable {X:Cx}{a b c:Vt}{ta tb tc:TE}{pos:Pos}
def Pb(t:PE X a ta)(r:PE X b tb){R:V->V->Hp->Prop}(I:Inv X g e H s)
  (h:ta e H λx H1=>tb e H1 λy d=>R x y d){f:Ur->Ur->Sem Ur}
  (q:∀v u s2 x y d,Inv X g e d s2->bB x v->bB y u->R x y d->UZ 4#X X.A (f v u) Q X.xe s2) :
  UZ 4#X X.A (eval a X.env) (λv j=>UZ 4#X X.A (eval b X.env) (λu i=>UZ 4#X X.A (f v u) Q X.xe i) X.xe j) X.xe s:=by
 refine cW (t g s e H _ I h) λv l ⟨x,H1,B,n,p⟩=>?_;refine cW (r g l e H1 _ B p) λu s2 ⟨y,d,z,m,o⟩=>?_;exact q v u s2 x y d z n m o
def HI(l:ia X (binaryOp j) r)(n:PE X a ta)(m:PE X b tb):PE X (.BinOp a j b pos) (P0 r ta tb):=by
 intro e s d H Q I h;exact wpAny_BinOp<|Pb n m I h λv u f x y p o i g q=>l e f d p x y v u Q o i g q
def QC(l:RQ X (unaryOp j) r)(m:PE X a ta):PE X (.UnaryOp j a pos) (TR r ta):=by
 intro e s d H Q I h;exact UnaryOp_<|cW (m e s d H _ I h) λv f ⟨x,o,n,g,i⟩=>l e f d o x v Q n g i
def QI{g:Int->Int->Int}
  (rule:∀(i j:Int) (t u:Tok) (s:UH) (Q:Ur->UH->Prop) (E:Ur->UH->Prop),C i j->Q (.int (g i j) s.toks) { s with toks:=s.toks+1 }->UZ 4#X X.A (f (.int i t)<|.int j u) Q E s) :
  ia X f (rI C λi j=>.int<|g i j):=by
 intro o s n H x y v u Q I l e h;obtain⟨i,j,rfl,rfl,m,q⟩:=h;obtain⟨t,rfl⟩:=l;obtain⟨d,rfl⟩:=e;exact rule i j t d s _ _ m ⟨.int<|g i j,H,I.tok _,⟨_,rfl⟩,q⟩
def Of{g:Int->Int->Int}
  (rule:∀(i j:Int) (t u:Tok) (s:UH) (Q:Ur->UH->Prop) (E:Ur->UH->Prop),Q (.int (g i j) s.toks) { s with toks:=s.toks+1 }->UZ 4#X X.A (f (.int i t)<|.int j u) Q E s) :
  ia X f (Hs λi j=>.int<|g i j):=by
 intro n s m H x y v u Q I l e h;obtain⟨i,j,rfl,rfl,q⟩:=h;obtain⟨t,rfl⟩:=l;obtain⟨d,rfl⟩:=e;exact rule i j t d s _ _ ⟨.int<|g i j,H,I.tok _,⟨_,rfl⟩,q⟩
def K2{g:Int->Int->Bool}
  (rule:∀(i j:Int) (t u:Tok) (s:UH) (Q:Ur->UH->Prop) (E:Ur->UH->Prop),Q (.bool<|g i j) s->UZ 4#X X.A (f (.int i t)<|.int j u) Q E s) :
  ia X f (Hs λi j=>.bl<|g i j):=by
 intro n s m H x y v u Q I l e h;obtain⟨i,j,rfl,rfl,q⟩:=h;obtain⟨t,rfl⟩:=l;obtain⟨d,rfl⟩:=e;exact rule i j t d s _ _ ⟨.bl<|g i j,H,I,rfl,q⟩
def Tc(i j:Int):Prop:=0<=j/\j<=1000000/\i.natAbs<2 ^ 64
def RH(i j:Int):Prop:=(-(2 ^ 64)<i/\i<2 ^ 64)∨(-(2 ^ 64)<j/\j<2 ^ 64)
def RH.ok(h:RH i j):IntMulOk i j:=by
 rcases h with⟨e,d⟩|⟨e,d⟩
 .exact .of_left<|intBits_le_64 e d
 .exact .of_right<|intBits_le_64 e d
def B2(k:Nat):(0:Int)<=2 ^ k:=by
 rw[two_pow_cast];exact YV _
def Oe:ia X (binaryOp .Add) (Hs λi j=>.int<|i+j):=Of λ_ _ _ _ _ _ _ q=>add_int q
def N8:ia X (binaryOp .Sub) (Hs λi j=>.int<|i-j):=Of λ_ _ _ _ _ _ _ q=>sub_int q
def KZ:ia X (binaryOp .Mod) (rI (λ_ j=>j≠0) λi j=>.int<|i.fmod j):=QI λ_ _ _ _ _ _ _ d q=>mod_int' d q
def Ob:ia X (binaryOp .Pow) (rI Tc λi j=>.int<|i ^ j.toNat):=QI λ_ _ _ _ _ _ _ d q=>pow_int_small d.1 d.2.1 d.2.2 q
def N9:ia X (binaryOp .RShift) (rI (λ_ j=>0<=j) λi j=>.int<|i / 2 ^ j.toNat):=QI λi j _ _ _ _ _ d q=>
 rshift_int d (by rw[Yk i (B2 _)];exact q)
def Od:ia X (binaryOp .BitAnd) (Hs λi j=>.int<|Ym i j):=Of λ_ _ _ _ _ _ _ q=>and_int q
def TM{g:Int->Int}
  (rule:∀(i:Int) (t:Tok) (s:UH) (Q:Ur->UH->Prop) (E:Ur->UH->Prop),Q (.int (g i) s.toks) { s with toks:=s.toks+1 }->UZ 4#X X.A (f<|.int i t) Q E s) :
  RQ X f (rU λi=>.int<|g i):=by
 intro j s e H x v Q I d h;obtain⟨i,rfl,q⟩:=h;obtain⟨t,rfl⟩:=d;exact rule i t s _ _ ⟨.int<|g i,H,I.tok _,⟨_,rfl⟩,q⟩
def Nj:RQ X (unaryOp .USub) (rU λi=>.int (-i)):=TM λ_ _ _ _ _ q=>neg_int q
end
section
variable {X:Cx}{a b c:Vt}{ta tb tc:TE}{pos:Pos}
def CT{k d:Bool}(I:Inv X g f H s)(q:Q (.bl k) H)(e:k=d):EP X g f Q (.bool d) s:=by
 subst e;exact⟨.bl k,H,I,rfl,q⟩
def Al:ia X (VA .Lt) (Hs λi j=>.bl (decide (i<j))):=K2 λ_ _ _ _ _ _ _ q=>lt_int q
def xm:ia X (VA .LtE) (Hs λi j=>.bl (decide (i<=j))):=K2 λ_ _ _ _ _ _ _ q=>le_int q
def tV:ia X (VA .Gt) (Hs λi j=>.bl (decide (j<i))):=K2 λ_ _ _ _ _ _ _ q=>gt_int q
def DN:ia X (VA .GtE) (Hs λi j=>.bl (decide (j<=i))):=K2 λ_ _ _ _ _ _ _ q=>ge_int q
def E4:ia X (VA .In) (λx y H Q=>∃i j,x=.str i/\y=.str j/\Q (.bl (!(YA j i 0 j.length 1).isEmpty)) H):=by
 intro g s f H x y v u Q I e d h;obtain⟨i,j,rfl,rfl,q⟩:=h;obtain⟨t,rfl⟩:=e;obtain⟨l,rfl⟩:=d;exact in_str<|CT I q rfl
def Cq:ia X (VA .Is) (λx y H Q=>y=.non/\Q (.bl (decide (x=.non))) H):=by
 intro g s f H x y v u Q I d e h;obtain⟨rfl,q⟩:=h;cases e;refine is_none_gen<|CT I q ?_;cases x<;>first
  |(cases d;rfl)
  |(obtain⟨t,rfl⟩:=d;rfl)
def yH:ia X (VA .IsNot) (λx y H Q=>y=.non/\Q (.bl (!decide (x=.non))) H):=by
 intro g s f H x y v u Q I d e h;obtain⟨rfl,q⟩:=h;cases e;refine isnot_none_gen<|CT I q ?_;cases x<;>first
  |(cases d;rfl)
  |(obtain⟨t,rfl⟩:=d;rfl)
def ia.or(h:ia X f r)(h':ia X f j):ia X f (λx y H Q=>r x y H Q∨j x y H Q):=by
 intro e s d H x y v u Q I i g q;rcases q with q|q
 .exact h e s d H x y v u Q I i g q
 .exact h' e s d H x y v u Q I i g q
def KP(l:ia X (VA d) r)(o:PE X a ta)(n:PE X b tb)(m:behindInMarks d b=U9):PE X (.Compare a [d] [b] pos) (P0 r ta tb):=by
 intro f s e H Q I h;exact wpAny_Compare1 (Pb o n I h λv u g x y t p j i q=>l f g e t x y v u Q p j i q) m
def MA(t:TE):TT:=λd H Q=>t d H λx e=>∃k,x=.bl k/\Q k e
def Kv(t:ia X (VA g) r)(B:PE X a ta)(A:PE X b tb)(w:behindInMarks g b=U9):PT X (.Compare a [g] [b] pos) (MA<|P0 r ta tb):=by
 intro f s d H Q I h;refine wpAny_isTrue_Compare1 (cW (B f s d H _ I h) λv j ⟨x,M,G,n,q⟩=>cW (A f j d M _ G q) λu i ⟨y,L,E,m,p⟩ =>
  cW (t f i d L x y v u _ E n m p) λc N ⟨z,J,C,l,k,e,o⟩=>?_) w
 subst e;cases l;exact Wg ⟨J,C,o⟩
def B7(r g:R2)(ta tb tc:TE):TE:=λd H Q=>ta d H λx l=>tb d l λy j=>r x y j λz e=>∃k,z=.bl k /\
 (if k=VT then tc d e λf i=>g y f i Q else Q (.bl U9) e)
def HL(T:ia X (VA n) r)(j:ia X (VA i) L)(ha:PE X a ta)(hb:PE X b tb)(Y:PE X c tc)
  (U:lastMarks [n,i] [b,c]=U9:=by with_unfolding_all rfl):PE X (.Compare a [n,i] [b,c] pos) (B7 r L ta tb tc):=by
 intro g s f H Q I h;refine Compare_chain (cW (ha g s f H _ I h) λv C ⟨x,H1,I1,J,O⟩=>chain_link (cW (hb g C f H1 _ I1 O) λu B ⟨y,H2,I2,l,N⟩ =>
  cW (T g B f H2 x y v u _ I2 J l N) λd A ⟨z,p,o,G,k,e,m⟩=>?_)) U
 subst e;cases G;refine Wg ?_;cases k with|false=>exact ite_ff ⟨.bl U9,p,o,rfl,m⟩|true=>exact ite_tt<|chain_last<|cW (Y g A f p _ o m) λt w ⟨q,H4,I4,E,M⟩=>j g w f H4 y q u t Q I4 l E M
def Hz(ho:ia X (VA n) r)(j:ia X (VA i) M)(ha:PE X a ta)(hb:PE X b tb)(hc:PE X c tc)
  (hm:lastMarks [n,i] [b,c]=U9:=by with_unfolding_all rfl):PT X (.Compare a [n,i] [b,c] pos) (MA<|B7 r M ta tb tc):=by
 intro g s f H Q I h;refine isTrue_chain (cW (ha g s f H _ I h) λv C ⟨x,H1,I1,L,U⟩=>test_link (cW (hb g C f H1 _ I1 U) λu B ⟨y,H2,I2,l,T⟩ =>
  cW (ho g B f H2 x y v u _ I2 L l T) λd A ⟨z,p,o,J,k,e,m⟩=>?_)) hm
 subst e;cases J;refine Wg ?_;cases k with
 |false=>
  obtain⟨k',e',Y⟩:=m;cases e';exact ite_ff ⟨p,o,Y⟩
 |true=>
  refine ite_tt<|test_last<|cW (hc g A f p _ o m) λt w ⟨q,H4,I4,G,O⟩=>cW (j g w f H4 y q u t _ I4 l G O) λd' s5 z9=>?_;obtain⟨z2,H5,I5,E,k2,e2,N⟩:=z9;subst e2;cases E;exact Wg ⟨H5,I5,N⟩
noncomputable def Um(K:Uv) (x:V) (H:Hp) (k:Bool):Prop :=
 match x with
 |.non=>k=U9
 |.bl b=>k=b
 |.int i=>k=(i != 0)
 |.str y=>y.length<=sizeLine/\k=((y.length:Int) != 0)
 |.byt y=>y.size<=sizeLine/\k=((y.size:Int) != 0)
 |.ref p=>(∃xs,gH K H p xs/\k=!xs.isEmpty)∨(∃xs,pZ K H p xs/\k=!xs.isEmpty)∨∃d,H p=W1 (.dK d)/\k=!d.isEmpty
 |_=>False
def OB{vs:List<|e×Ur}(r:KV d vs):(!vs.isEmpty)=!d.isEmpty:=by
 cases r<;>rfl
def OA(r:bo xs its):(!its.toArray.isEmpty)=!xs.isEmpty:=by
 cases r<;>simp
def um:(sizeLine:Nat)<2 ^ 63:=by rw[sizeLine_eq];decide
def Cr:ia X (binaryOp .Add) (λx y H Q=>∃i j,x=.str i/\y=.str j/\i.length+j.length<=sizeLine/\Q (.str<|i++j) H):=by
 intro m s l H x y v u Q I f e h;obtain⟨i,j,rfl,rfl,g,q⟩:=h;obtain⟨t,rfl⟩:=f;obtain⟨d,rfl⟩:=e;exact add_str (λd n=>⟨.str<|i++j,H,I.tok _,⟨_,rfl⟩,q⟩) g
def wO(r:bo [x] d):∃u,d=[u]/\bB x u:=by
 cases r with|cons f e=>cases e;exact⟨_,rfl,f⟩
def PM(r:bo [x,y] e):∃u d,e=[u,d]/\bB x u/\bB y d:=by
 cases r with
 |cons j i=>
  cases i with|cons g f=>cases f;exact⟨_,_,rfl,j,g⟩
def ku:mv X (.builtin "abs") (λxs H Q=>∃i,xs=[.int i]/\Q (.int<|if i<0 then -i else i) H):=by
 intro e s d H xs f Q I r h;obtain⟨i,rfl,q⟩:=h;obtain⟨u,rfl,t,rfl⟩:=wO r;exact call_abs_int λu g=>⟨.int<|if i<0 then -i else i,H,I.tok _,⟨_,rfl⟩,q⟩
def FN(e:X.calm=VT):mv X (.builtin "min") (λxs H Q=>∃i j,xs=[.int i,.int j]/\Q (.int<|if j<i then j else i) H):=by
 intro g s f H xs m Q I r h;obtain⟨i,j,rfl,q⟩:=h;obtain⟨u,l,rfl,⟨t,rfl⟩,⟨o,rfl⟩⟩:=PM r;refine min_two_ints (I.ok.hd e) λp n k=>⟨_,H,I.kept k,?_,q⟩
 by_cases d:j<i
 .rw[dh d,dh d];exact⟨_,rfl⟩
 .rw[dV d,dV d];exact⟨_,rfl⟩
def FO:mv X (.type "int") (λxs H Q=>(∃i,xs=[.int i]/\Q (.int i) H)∨∃k,xs=[.bl k]/\Q (.int<|if k then 1 else 0) H):=by
 intro f s e H xs g Q I r h;rcases h with⟨i,rfl,q⟩|⟨k,rfl,q⟩
 .obtain⟨u,rfl,t,rfl⟩:=wO r
  exact call_int_int ⟨.int i,H,I,⟨_,rfl⟩,q⟩
 .obtain⟨u,rfl,d⟩:=wO r
  cases d;exact call_int_bool ⟨.int<|if k then 1 else 0,H,I.tok _,⟨_,rfl⟩,q⟩
def RD(K:Uv)(x:V)(H:Hp)(n:Nat):Prop :=
 match x with
 |.str y=>y.length<=sizeLine/\n=y.length
 |.byt y=>y.size<=sizeLine/\n=y.size
 |.ref p=>(∃xs,gH K H p xs/\n=xs.length)∨∃xs,pZ K H p xs/\n=xs.length
 |_=>False
def bO:mv X (.builtin "len") (λxs H Q=>∃x n,xs=[x]/\RD X.K x H n/\Q (.int n) H):=by
 intro v s o H xs w Q I r h;obtain⟨x,n,rfl,e,q⟩:=h;obtain⟨u,rfl,f⟩:=wO r;have A:=um;have z:sizeLine=16777216:=sizeLine_eq;cases x with
 |str y=>
  obtain⟨t,rfl⟩:=f;obtain⟨m,d⟩:y.length<=sizeLine/\n=y.length:=e;subst d;exact len_str 0#2 ⟨.int _,H,I.tok _,⟨_,rfl⟩,q⟩
 |byt y=>
  obtain⟨t,rfl⟩:=f;obtain⟨m,d⟩:y.size<=sizeLine/\n=y.size:=e;subst d;exact W.len_bytes 0#2 ⟨.int _,H,I.tok _,⟨_,rfl⟩,q⟩
 |ref p=>
  cases f;have d:(∃xs,gH X.K H p xs/\n=xs.length)∨∃xs,pZ X.K H p xs/\n=xs.length:=e;rcases d with⟨xs,j,d⟩|⟨xs,j,d⟩
  .subst d
   obtain⟨i,g,pl,l⟩:=I.list j;have hlen:=g.length;exact Calls.call_len_list pl.isList (by simp only[UW];omega) ⟨.int xs.length,H,I.tok _,⟨_,by simp only[UW];rw[hlen]⟩,q⟩
  .subst d
   obtain⟨i,g,pl,l⟩:=I.tuple j;have hlen:=g.length;exact len_tuple pl (by simp only[UW];omega) ⟨.int xs.length,H,I.tok _,⟨_,by simp only[UW];rw[hlen]⟩,q⟩
 |_=>exact(show False from e).elim
end
structure F3 (h:UQ) (x dx C:UD) (mA:UL->Option Ur):Prop where
 obj:h.get? x=W1 (Yg C dx)
 ns:h.Ns1 dx mA
 ne:dx≠x
def Fg{h:UQ}(n:h.Ns1 m mA):∃c,h.get? m=W1 c/\∀name,W.lookIn name c=W1 (mA name):=by
 obtain⟨o,d,r,g,l,j,_,i⟩:=n;refine⟨o,g,λname=>?_⟩;have e:=i name;unfold nsFind findBy at e;rw[←Array.find?_toList]at e;unfold W.lookIn;rw[l];dsimp only;split
 .rename_i y q
  rw[q]at e;exact en W1 e
 .rename_i q
  rw[q]at e;have a:d.toList.any (·.refKey)=U9:=by
   rw[List.any_eq_false];intro y f;obtain⟨z,t,b⟩:=j y<|Array.mem_toList_iff.mp f;simp[DictEntry.refKey,b]
  have p:¬d.toList.any (·.refKey)=VT:=by rw[a];exact Vn
  rw[dV p];exact en W1 e
def F3.look{h:UQ}(I:F3 h x d C mA):∃a,W.InstAt h x (Yg C d) C (W1 a)/\∀name,W.lookIn name a=W1 (mA name) :=
 let ⟨a,b,c⟩:=Fg I.ns
 ⟨a,⟨I.obj,rfl,rfl,b⟩,c⟩
section
variable {prog:Vv}{w:VL}{A:VD}{E:Ur->UH->Prop}{s:UH}{K:Uv}{x dx C f:UD}{mA:UL->Option Ur}{name:UL}{v:Ur}
def Lr(X:K.In s.heap)(I:F3 s.heap x dx C mA)(e:YQ K C name=VT)(d:X2 K C=VT)
  (g:VW K (.ref C) name=W1 Wp)(b:mA name=W1 v)(a:W.handedIn v=VT)(h:Q v { s with toks:=s.toks+1 }) :
  UZ (UY prog w) A (getAttr (.ref x) name expr) Q E s:=by
 obtain⟨i,J,c⟩:=I.look;exact W.get_value X J (W.plainGet_of e).1 (W.findObj_own d g rfl (by rw[c,b])) a h
def Kg(X:K.In s.heap)(I:F3 s.heap x dx C mA)
  (n:VW K (.ref C) "__setattr__"=W1 (W1<|.builtin "object.__setattr__"))(o:Zc K C=VT)(m:W.takerIn K C name=W1 Wp)(p:X2 K C=VT)
  (hw:Xi mA ns)(hsz:ns.length<=sizeLine)
  (h:∀h',F3 h' x dx C (λy=>if y=name then W1 v else mA y)->Ye dx s.heap h'->Q () { s with heap:=h',toks:=s.toks+2 }) :
  UZ (UY prog w) A (setAttr (.ref x) name v) Q E s:=by
 obtain⟨z,J,B⟩:=I.look;refine W.set_plain X J n<|W.osa_open (s:={ s with toks:=s.toks+1 }) (r:=none) X J o m λb=>?_;obtain⟨G,q,i⟩:=W.any_some p;have l:s.heap.get? x=W1 ⟨.ref C,W1 dx,.plain,#[]⟩:=I.obj;refine UA<|U2<|UA<|UA<|wpAny_loadPart l<|UA<|YK.here (s:={ s with toks:=s.toks+1 }) (ZE X q) ?_;rw[i];refine U2 (a:=some dx)<|UA<|U2<|UA ?_;refine wpAny_nsSet1 (s:={ s with toks:=s.toks+1 }) I.ns λh' d c=>?_;obtain⟨oD,t,u,e,g,j⟩:=d.count<|Xi.cons name v hw;refine UA (wpAny_lookBehind e (by rw[g];exact pastItsLine_dict<|UI j (by rw[UP];omega)) ?_);exact U2<|h _ ⟨(c.2 _<|Vw I.ne).trans I.obj,d,I.ne⟩ c
def Ii(X:K.In s.heap)(b:W.makesIn K C=VT)
  (hi:VW K (.ref C) "__init__"=W1 (W1<|.ref f))(c:W.typeIn K (.ref f)=W1 (.type "function"))
  (h:WQ (UY prog w) (A.under<|.builtin "type.__call__" ⟨.ref C::vs,a⟩) (.call (.ref f) ⟨.ref (2#s+1)::vs,a⟩) (W.InitBack (2#s+1) R)
   { s with heap:=(s.heap.push Wm).push (Yg C 2#s) }) :
  WQ (UY prog w) A (.call (.ref C) ⟨vs,a⟩) R s:=by
 obtain⟨e,g,d,t,os⟩:=s;exact W.make_core (W.makes_of X b) (W.looks_findIn X hi) (λself=>W.bind_fn X self c) (.inl rfl) h
end
def jd(f:UL)(v:V):List (UL×V)->List (UL×V)
 |[]=>[(f,v)]
 |(g,x)::r=>if g=f then(g,v)::r else(g,x)::jd f v r
theorem lN(f g:UL)(v:V):∀fs:List<|UL×V,(jd f v fs).lookup g=if g=f then W1 v else fs.lookup g
 |[]=>by
  show X5 g [(f,v)]=_
  by_cases h:g=f
  .have a:(g==f)=VT:=beq_iff_eq.mpr h
   simp only[X5,a,dh h]
  .have a:(g==f)=U9:=beq_eq_false_iff_ne.mpr h
   simp only[X5,a,dV h]
 |(k,x)::r=>by
  have c:=lN f g v r;rw[show jd f v ((k,x)::r)=(if k=f then(k,v)::r else(k,x)::jd f v r) from rfl]
  by_cases b:k=f
  .rw[dh b]
   by_cases h:g=k
   .have a:(g==k)=VT:=beq_iff_eq.mpr h
    simp only[X5,a,dh<|h.trans b]
   .have a:(g==k)=U9:=beq_eq_false_iff_ne.mpr h
    simp only[X5,a,dV (λe:g=f=>h<|e.trans b.symm)]
  .rw[dV b]
   by_cases h:g=k
   .have a:(g==k)=VT:=beq_iff_eq.mpr h
    simp only[X5,a,dV (λe:g=f=>b<|h.symm.trans e)]
   .have a:(g==k)=U9:=beq_eq_false_iff_ne.mpr h
    simp only[X5,a];exact c
theorem kc(f:UL)(v:V):∀fs:List<|UL×V,f∈(jd f v fs).map (·.1)/\∀g,g∈fs.map (·.1)->g∈(jd f v fs).map (·.1)
 |[]=>⟨by simp[jd],λg h=>by simp at h⟩
 |(k,x)::r=>by
  obtain⟨c,b⟩:=kc f v r;rw[show jd f v ((k,x)::r)=(if k=f then(k,v)::r else(k,x)::jd f v r) from rfl]
  by_cases a:k=f
  .rw[dh a]
   subst a;exact⟨by simp,λg h=>by simpa using h⟩
  .rw[dV a]
   refine⟨?_,λg h=>?_⟩
   .rw[UB]
    exact Up _ c
   .rw[UB]at h ⊢
    rcases UG.mp h with e|e
    .exact UG.mpr<|.inl e
    .exact Up _<|b g e
theorem qX(f:UL)(v:V):∀fs:List<|UL×V,(jd f v fs).length<=fs.length+1
 |[]=>by simp[jd]
 |(k,x)::r=>by
  have b:=qX f v r;rw[show jd f v ((k,x)::r)=(if k=f then(k,v)::r else(k,x)::jd f v r) from rfl]
  by_cases a:k=f
  .rw[dh a,UP,UP];omega
  .rw[dV a,UP,UP];omega
def lh(r:vR (W1 v) o):∃u,o=W1 u/\bB v u:=by
 cases o with|none=>exact(show False from r).elim|some u=>exact⟨u,rfl,r⟩
def Fv(r:bB v u):W.handedIn u=VT:=by
 cases v with|non=>cases (show u=Wa from r);rfl|bl b=>cases (show u=Wb b from r);rfl|int i=>obtain⟨t,e⟩:=(show ∃t,u=Wr i t from r);cases e;rfl|str x=>obtain⟨t,e⟩:=(show ∃t,u=Wq x t from r);cases e;rfl|byt b=>obtain⟨t,e⟩:=(show ∃t,u=Value.bytes b t from r);cases e;rfl|flt b=>obtain⟨t,e⟩:=(show ∃t,u=saj b t from r);cases e;rfl|ref a=>cases (show u=Vg a from r);rfl|ty n=>cases (show u=Value.type n from r);rfl
section
variable {P:Vv}{w:VL}{H H':Hp}{h h':UQ}{a C dx:UD}{fs fs':List (UL×V)}
def sF(hok:gk P w H h)(e:H a=W1 (.ins C dx fs)):∃mA,F3 h a dx C mA/\(∀f,vR (fs.lookup f)<|mA f)/\Xi mA (fs.map (·.1))/\fs.length<=1000/\H dx=W1 (.own a):=by
 obtain⟨d,z,b,ob,mA,n,r,q⟩:=(show cL P w H h a (.ins C dx fs) from hok a _ e)
 exact⟨mA,⟨ob,n,b⟩,r,q,z,d⟩
end
structure JO (K:Uv) (C:UD):Prop where
 pg:YQ K C Str.empty=VT
 hd:X2 K C=VT
 po:Zc K C=VT
 sa:VW K (.ref C) "__setattr__"=W1 (W1 (.builtin "object.__setattr__"))
def JO.get{K:Uv}(c:JO K C)(f:UL):YQ K C f=VT:=c.pg
def fP(K:Uv)(C:UD)(f:UL):Prop:=VW K (.ref C) f=W1 Wp
def fP.taker{K:Uv}(n:fP K C f):W.takerIn K C f=W1 Wp:=by
 unfold W.takerIn;rw[show VW K (.ref C) f=W1 Wp from n];rfl
section
variable {X:Cx}{π:List (UD×Obj)}{σ:St}{H:Hp}{s:UH}{a C dx:UD}{fs:List (UL×V)}{f:UL}{v:V}{A:VD}{E:Ur->UH->Prop}
def CP(I:Inv X π σ H s)(e:H a=W1 (.ins C dx fs))(c:JO X.K C)(n:fP X.K C f)(l:fs.lookup f=W1 v)
  (h:∀u s',Inv X π σ H s'->bB v u->Q u s'):UZ 4#X A (getAttr (.ref a) f b) Q E s:=by
 obtain⟨g,O,r,_,_,_⟩:=sF I.hok e;obtain⟨u,i,d⟩:=lh (v:=v) (o:=g f) (by rw[←l];exact r f);exact Lr I.kIn O (c.get f) c.hd n i (Fv d)<|h u _ (I.tok _) d
def Ca(I:Inv X π σ H s)(e:H a=W1 (.ins C dx fs))(c:JO X.K C)(n:fP X.K C f)(N:fs.length<1000)(p:bB y u)
  (h:∀s',Inv X π σ (upd H a<|.ins C dx<|jd f y fs) s'->Q () s'):UZ 4#X A (setAttr (.ref a) f u) Q E s:=by
 obtain⟨j,O,r,i,_,l⟩:=sF I.hok e;have t:(fs.map (·.1)).length<=sizeLine:=by rw[Ut,sizeLine_eq];omega
 refine Kg I.kIn O c.sa c.po n.taker c.hd i t λL d m=>h _ ?_;have G:∃o,L.get? dx=W1 o:=let ⟨o,_,_,M,_⟩:=d.ns;⟨o,M⟩;refine I.write (x:=a) (e:=dx) (by rw[e];exact V4) (.inr l) (λb q J z=>(m.2 b J).trans z) G ?_;refine⟨by rw[aA O.ne];exact l,?_,O.ne,d.obj,_,d.ns,λg=>?_,λg B=>?_⟩
 .have:=qX f y fs;omega
 .show vR ((jd f y fs).lookup g) (if g=f then W1 u else j g)
  rw[lN]
  by_cases q:g=f
  .rw[dh q,dh q];exact p
  .rw[dV q,dV q];exact r g
 .by_cases q:g=f
  .rw[q];exact(kc f y fs).1
  .refine(kc f y fs).2 g (i g λz=>B ?_)
   show(if g=f then W1 u else j g)=Wp;rw[dV q];exact z
def JG(I:Inv X π σ H s):Inv X π σ (upd (upd H 2#s<|.own<|2#s+1) (2#s+1)<|.ins C 2#s [])
  { s with heap:=(s.heap.push Wm).push (Yg C 2#s) }:=by
 have d:(s.heap.push Wm).get? 2#s=W1 Wm:=Vs s.heap rfl;have m:((s.heap.push Wm).push<|Yg C 2#s).get? (2#s+1)=W1 (Yg C 2#s):=by
  have:=Vs (s.heap.push Wm) (o:=Yg C 2#s) rfl
  rwa [Zw]at this
 have l:(s.heap.push Wm).Ns 2#s (λ_=>Wp):=⟨Wm,#[],_,d,rfl,(λe j=>ee j 0#3),λ_=>rfl⟩
 have n:=I.laid (a:=2#s) (o:=.own<|2#s+1) (h':=s.heap.push Wm) (t':=s.toks) (λb u q=>UC _ q) (U3 _) ⟨_,d⟩;refine n.laid (a:=2#s+1) (o:=.ins C 2#s []) (t':=s.toks) (λb u q=>UC _ q) (Y5<|Zw _ _) ?_;have c:2#s≠2#s+1:=Vh<|WX _;refine⟨by rw[aA c,aG],XD _,c,m,λ_=>Wp,(Heap.Ns1.of_empty l).at λo q=>UC _ q,λ_=>V4,λy i=>ee rfl i⟩
def L6(c:Xq e f env (eval e env)=eval e env)
  (h:UZ (UY prog w) A (eval e env) (λo b=>UZ (UY prog w) A (getAttr o f VT) Q E b) E s):UZ (UY prog w) A (eval (.Attribute e f pos) env) Q E s :=
 Attribute_any_ h (by rw[arm_eval_Attribute,c])
end
def Sh(K:Uv)(d:TE)(f:UL):TE:=λc H Q=>d c H λx b=>∃a C e fs v,x=.ref a/\b a=W1 (.ins C e fs)/\JO K C/\fP K C f/\fs.lookup f=W1 v/\Q v b
def Sq(K:Uv)(g e:TE)(f:UL):TS:=λD b H=>e b H λy i=>g b i λx d=>∃a C c fs,x=.ref a/\d a=W1 (.ins C c fs)/\JO K C/\fP K C f/\fs.length<1000 /\
 D.nx b (upd d a<|.ins C c<|jd f y fs)
section
variable {X:Cx}{o e value:Vt}{f:UL}{pos pos' tpos:Pos}{ta tv:TE}
def N5(j:PE X e ta)(m:Xq e f X.env (eval e X.env)=eval e X.env):PE X (.Attribute e f pos) (Sh X.K ta f):=by
 intro d s b H Q I h;refine L6 m<|cW (j d s b H _ I h) λu B z9=>?_;obtain⟨x,y,w,g,a,C,E,fs,v,p,r,c,n,l,q⟩:=z9;subst p;obtain rfl:u=Vg a:=g;exact CP w r c n l λz A t i=>⟨v,y,t,i,q⟩
def NS(v:PE X o ta)(r:PE X value tv)(t:V0 value (W1<|.Attribute o f pos') pos.line X.env=pure U9):PS X (.Assign [.Attribute o f pos'] value pos) (Sq X.K ta tv f):=by
 intro d s b H D I h;refine plainObj_wpAny_Assign_Attribute (cW (r d s b H _ I h) λu g ⟨y,G,E,i,q⟩=>cW (v d g b G _ E q) λp L z9=>?_) t;obtain⟨x,N,B,j,a,C,M,fs,w,z,c,n,l,m⟩:=z9;subst w;obtain rfl:p=Vg a:=j;exact Ca B z c n l i λJ A=>⟨b,_,A,m⟩
end
section
variable {X:Cx}{π:List (UD×Obj)}{σ:St}{H:Hp}{s:UH}{A:VD}{E:Ur->UH->Prop}{Q:Ur->UH->Prop}{c:Ur}{b:Bool}
inductive rW (K:Uv) (H:Hp):V->Ur->Prop where
 |non:rW K H .non (.type "NoneType")
 |bl (x:Bool):rW K H (.bl x) (.type "bool")
 |int (i:Int):rW K H (.int i) (.type "int")
 |str (x:UL):rW K H (.str x) (.type "str")
 |flt (x:UInt64):rW K H (.flt x) (.type "float")
 |lst {a:UD}{xs:ad}(e:H a=W1 (.lst xs)):rW K H (.ref a) (.type "list")
 |frz {a:UD}{o:Obj}{xs:ad}(e:H a=W1 (.frz o (.lst xs))):rW K H (.ref a) (.type "list")
 |tup {a:UD}{xs:ad}(e:H a=W1 (.tup xs)):rW K H (.ref a) (.type "tuple")
 |dK {a:UD}{kvs:List (jb×V)}(e:H a=W1 (.dK kvs)):rW K H (.ref a) (.type "dict")
 |dT {a:UD}{kvs:List (List jb×V)}(e:H a=W1 (.dT kvs)):rW K H (.ref a) (.type "dict")
 |ins {a C dx:UD}{fs:List (UL×V)}(e:H a=W1 (.ins C dx fs)) (cl:JO K C) (ha:VW K (.ref C) "__class__"=W1 (W1 (.builtin "object.__class__")))
   (hn:Ys K (.builtin "object.__class__") "__get__"=W1 (W1 (.builtin "getset_descriptor.__get__"))) (htk:ZO K (.builtin "object.__class__")=W1 VT)
   (hm:ZW K C (.type "object")=W1 VT):rW K H (.ref a) (.ref C)
def ke(I:Inv X π σ H s)(d:bB x u)(ty:rW X.K H x t)(e:W.kitOne X.K t c=W1 b)(h:∀v,Q (.bool b) { s with toks:=v }) :
  UZ 4#X A (call (.builtin "isinstance") [u,c]) Q E s:=by
 cases ty with
 |non=>cases (show u=Wa from d);exact Wc W.kitx_none I.kIn V4 e (λz=>nomatch z) h|bl y=>cases (show u=Wb y from d);exact Wc W.kitx_bool I.kIn V4 e (λz=>nomatch z) h|int i=>obtain⟨t,q⟩:=(show ∃t,u=Wr i t from d);cases q;exact Wc W.kitx_int I.kIn V4 e (λz=>nomatch z) h|str y=>obtain⟨t,q⟩:=(show ∃t,u=Wq y t from d);cases q;exact Wc W.kitx_str I.kIn V4 e (λz=>nomatch z) h|flt y=>obtain⟨t,q⟩:=(show ∃t,u=saj y t from d);cases q;exact Wc W.kitx_float I.kIn V4 e (λz=>nomatch z) h
 |@lst a xs f=>
  cases (show u=Vg a from d);obtain⟨_,_,n,_,g⟩:=(show cL X.prog X.w H s.heap a (.lst xs) from I.hok a _ f)
  exact Wc sai I.kIn ⟨_,g,rfl⟩ e (λz=>nomatch z) h
 |@frz a ob xs f=>
  cases (show u=Vg a from d);obtain⟨_,_,_,n,_,g⟩:=(show cL X.prog X.w H s.heap a (.frz ob<|.lst xs) from I.hok a _ f)
  exact Wc sai I.kIn ⟨_,g,rfl⟩ e (λz=>nomatch z) h
 |@tup a xs f=>
  cases (show u=Vg a from d);obtain⟨_,_,_,p⟩:=(show cL X.prog X.w H s.heap a (.tup xs) from I.hok a _ f)
  obtain⟨o,g,l,_⟩:=p;exact Wc W.kitx_tuple I.kIn ⟨o,g,l⟩ e (λz=>nomatch z) h
 |@dK a j f=>
  cases (show u=Vg a from d);obtain⟨_,_,T,_,p⟩:=(show cL X.prog X.w H s.heap a (.dK j) from I.hok a _ f)
  obtain⟨o,M,N,g,l,_⟩:=p;exact Wc Zd I.kIn ⟨o,g,l.1⟩ e (λz=>nomatch z) h
 |@dT a j f=>
  cases (show u=Vg a from d);obtain⟨_,_,xs,_,o,M,N,g,l,_⟩:=(show cL X.prog X.w H s.heap a (.dT j) from I.hok a _ f)
  exact Wc Zd I.kIn ⟨o,g,l.1⟩ e (λz=>nomatch z) h
 |@ins a C dx fs f r L B m G=>
  cases (show u=Vg a from d);obtain⟨Y,O,_⟩:=sF I.hok f;obtain⟨U,J,_⟩:=O.look;exact Wc (W.kitx_own (r.get _) r.hd L B m G) I.kIn J e (λz=>nomatch z) h
end
structure cZ (k:Nat) (A:VD):Prop where
 hd:A.handled=Wp
 dp:A.depth+3*k+5<recursionLimit
 un:A.units+16*k+200<Xa
 gd:A.guards=W1 []
def cZ.mono{j k:Nat}(r:cZ k A)(h:j<=k):cZ j A:=⟨r.hd,by have:=r.dp;omega,by have:=r.un;omega,r.gd⟩
def cZ.deeper{k:Nat}(r:cZ (k+1) A)(env:Env):cZ k (A.deeper env) :=
 ⟨r.hd,by have:=r.dp;show A.depth+1+3*k+5<_;omega,by have:=r.un;show A.units+3+16*k+200<_;omega,r.gd⟩
def CD{A:VD}:(A.under<|.builtin "type.__call__" ⟨.ref C::a,b⟩).depth=A.depth+1:=by
 first|rfl|simp[Y9,Code.weight,Code.isCreation,Code.isGuard,Code.isCaller,Code.frames,saa,guardIds]
def CC{A:VD}:(A.under<|.builtin "type.__call__" ⟨.ref C::a,b⟩).units=A.units+1:=by
 first|rfl|simp[Y9,Code.cUnits,Code.frames,saa]
def cZ.make{k:Nat}(r:cZ (k+1) A)(C:UD)(a:List Ur)(b:List<|UL×Ur):cZ k (A.under<|.builtin "type.__call__" ⟨.ref C::a,b⟩) :=
 ⟨r.hd,by have:=r.dp;rw[CD];omega,by have:=r.un;rw[CC];omega,by have:=r.gd;simp[Y9,Code.guards,Code.isGuard,guardIds,pushGuards,this]⟩
def cZ.depth{k:Nat}(r:cZ k A):A.depth<recursionLimit:=by have:=r.dp;omega
def cZ.units{k:Nat}(r:cZ k A):A.units+64<Xa:=by have:=r.un;omega
def Sd:TA:=λ_ H Q=>Q [] H
def Qa(c:TE)(b:TA):TA:=λa H Q=>c a H λx e=>b a e λxs d=>Q (x::xs) d
section
variable {X:Cx}{e:Vt}{es:List Vt}{te:TE}{t:TA}{pos:Pos}
def kL:PA X [] Sd:=λ_ _ _ _ H Q I h=>Calls.spliced_nil ⟨[],H,I,.nil,h⟩
def gu(m:PE X e te)(l:PA X es t)(j:UJ (e::es) X.env=(U9,eval e X.env)::UJ es X.env:=by rfl):PA X (e::es) (Qa te t):=by
 intro pos b s a H Q I h;rw[j];show UZ _ _ (spliced ((U9,eval e X.env)::VQ pos (UJ es X.env))) _ _ s;refine Calls.spliced_cons<|cW (m b s a H _ I h) λu c ⟨x,q,o,f,i⟩=>?_;exact cW (l pos b c a q _ o i) λr v ⟨xs,p,n,d,g⟩=>⟨x::xs,p,n,.cons f d,g⟩
def R5(t:TA):TE:=λb H Q=>t b H λxs a=>xs.length<=sizeLine/\∀p,a p=Wp->Q (.ref p) (upd a p<|.tup xs)
def Se(t:TA):TE:=λb H Q=>t b H λxs a=>xs.length<=sizeLine/\∀p,a p=Wp->Q (.ref p) (upd a p<|.lst xs)
def NZ{x1}(h:PA X es t):PE X (.Tuple es x1 pos) (R5 t):=by
 intro g s f H Q I j;refine wpAny_Tuple_spliced (cW (h pos g s f H _ I j) λi a ⟨xs,d,c,r,z,q⟩=>⟨by rw[←r.length];exact z,?_⟩);have l:d 2#a=Wp:=c.hok.fresh<|U3 _;refine⟨.ref 2#a,upd d 2#a<|.tup xs,c.laid (t':=a.toks) (λb u e=>UC _ e) (U3 _) ?_,rfl,q _ l⟩;exact⟨z,i,r,⟨_,Vs _ rfl,rfl,_,rfl⟩⟩
def HJ(h:PA X es t):PE X (.List es pos) (Se t):=by
 intro g s f H Q I j;refine wpAny_List_spliced (cW (h pos g s f H _ I j) λi a ⟨xs,d,c,r,z,q⟩=>⟨by rw[←r.length];exact z,?_⟩);have l:d 2#a=Wp:=c.hok.fresh<|U3 _;refine⟨.ref 2#a,upd d 2#a<|.lst xs,c.laid (t':=a.toks) (λb u e=>UC _ e) (U3 _) ?_,rfl,q _ l⟩;exact⟨z,i,0,r,Vs _ rfl⟩
end
abbrev Sp:=ad->Hp->VK->XK->Prop
abbrev zK:=List Env->Hp->UH->XK->Ur->UH->Prop
structure rY (P:Vv) (w:VL) (K:Uv) (mg:UL->Option Ur) (base:UQ) (A:VD) (outer:List Env) (s:UH) (H:Hp):Prop where
 frames:A.frames=W1 outer
 mod:Mod K mg base
 bs:∀b o,base.get? b=W1 o->s.heap.get? b=W1 o/\H b=Wp
 bsz:base.objs.size<=2#s
 funs:s.heap.FunFrames base outer
 frf:∀b∈jx outer,H b=Wp
 hok:gk P w H s.heap
 bare:AllBare s.gens
 tab:Es K H
def CE(outer:List Env)(P:Vv)(w:VL)(H:Hp)(s:UH)(Q:VK)(u:Ur)(s':UH):Prop :=
 ∃v a,s'.os=s.os/\AllBare s'.gens/\Un (jx outer) [] H a s.heap s'.heap/\gk P w a s'.heap/\bB v u/\Q v a
def CR(CX:zK)(outer:List Env)(P:Vv)(w:VL)(H:Hp)(s:UH)(Q:VK)(E:XK)(r:Result)(s':UH):Prop :=
 match r with
 |.ok (.ret u)=>CE outer P w H s Q u s'
 |.ok _=>False
 |.error e=>CX outer H s E e s'
structure gi (P:Vv) (w:VL) (K:Uv) (mg:UL->Option Ur) (base:UQ) (CX:zK) (k:Nat) (f:UD) (fd:VX) (ps:bv) (sp:Sp):Prop where
 len:∀vs H Q E,sp vs H Q E->vs.length=ps.length
 run:∀(A:VD) (outer:List Env) (s:UH) (H:Hp) (args:Args) (us:List Ur) (vs:ad) (Q:VK) (E:XK),cZ k A->rY P w K mg base A outer s H->BindsTo s fd args (ps.zip us)->bo vs us->sp vs H Q E ->
  WQ (UY P w) A (.call (.ref f) args) (CR CX outer P w H s Q E) s
def gi.mono{K:Uv}{j k:Nat}{ps:bv}(F:gi P w K c base CX j f e ps sp)(h:j<=k) :
  gi P w K c base CX k f e ps sp:=⟨F.len,λA outer s H args b a Q E d=>F.run A outer s H args b a Q E<|d.mono h⟩
def rY.make{K:Uv}(e:rY P w K b base A outer s H)(C:UD)(a:List Ur)(c:List<|UL×Ur) :
  rY P w K b base (A.under<|.builtin "type.__call__" ⟨.ref C::a,c⟩) outer s H:=⟨by first|exact e.frames|(simpa[Y9,Code.envs,saa,pushEnvs] using e.frames),e.mod,e.bs,e.bsz,e.funs,e.frf,e.hok,e.bare,e.tab⟩
section
variable {X:Cx}{π:List (UD×Obj)}{σ:St}{H:Hp}{s s':UH}
def Inv.tab(I:Inv X π σ H s):Es X.K H:=λP d h=>by
 obtain⟨m,e⟩:=I.ok.tab P d h;obtain⟨m2,a⟩:=I.base.tbls P _ e;exact⟨m++m2,by rw[a,Yp]⟩
def Inv.env0(I:Inv X π σ H s):rY X.prog X.w X.K X.mg X.base X.A X.stack s H :=
 ⟨I.ok.frames,I.ok.mod,I.bs,UI I.ok.bsz I.sz,I.stack,I.stkFree,I.hok,I.bare,I.tab⟩
def Inv.after(I:Inv X π σ H s)(h:CE X.stack X.prog X.w H s Q u s'):EP X π σ Q u s':=by
 obtain⟨v,e,os,bare,un,hok,r,q⟩:=h;obtain⟨c,g,d,t,a⟩:=s';obtain rfl:a=s.os:=os;exact⟨v,e,I.call (h':=c) (g':=g) (d':=d) (t':=t) (ch:=[]) un hok bare (λb z=>ee z<|by simp),r,q⟩
end
def Qb(sp:Sp)(a:ad)(E:XK)(t:TA):TE:=λb H Q=>t b H λc d=>sp (c++a) d Q E
def P5(C:UD)(sp:Sp)(b:ad)(E:XK)(t:TA):TE:=λd H Q=>t d H λe c=>∀x a,c x=Wp->c a=Wp->a≠x ->
 sp (.ref x::(e++b)) (upd (upd c a<|.own x) x<|.ins C a []) (λv f=>v=.non/\Q (.ref x) f) E
def iC(K:Uv)(b:VX)(ps:bv)(ds:List Ur):Prop :=
 ∀(s:UH) (a:List Ur),K.In s.heap->(a++ds).length=ps.length->BindsTo s b ⟨a,[]⟩ (ps.zip<|a++ds)
def iC.all{K:Uv}{ps:bv}(h:∀a:List Ur,a.length=ps.length->bindArgs c ⟨a,[]⟩=pure (ps.zip a)):iC K c ps []:=λs a _ b=>by
 rw[VN]at b ⊢;exact .of_eq<|h a b
def gR(CX:zK)(X:Cx)(E:XK):Prop:=∀(c:List<|UD×Obj) (b:St) (H:Hp) (s:UH) (e:Ur) (a:UH),Inv X c b H s->CX X.stack H s E e a->X.xe e a
section
variable {X:Cx}{CX:zK}{k:Nat}{f C:UD}{fd:VX}{ps:bv}{sp:Sp}{dvs:ad}{ds:List Ur}{E:XK}{x m:UL}{p pos apos:Pos}{e o:Vt}{es:List Vt}{ta:TE}{t:TA}
def NH(F:gi X.prog X.w X.K X.mg X.base CX k f fd ps sp)(l:cZ k X.A)(v:iC X.K fd ps ds)(q:bo dvs ds)(j:gR CX X E)
  (I:Inv X d c H s)(r:bo vs a)(h:sp (vs++dvs) H Q E):UZ 4#X X.A (call (.ref f) a) (EP X d c Q) X.xe s:=by
 have g:bo (vs++dvs) (a++ds):=r.append q;have n:(a++ds).length=ps.length:=by rw[←g.length];exact F.len _ _ _ _ h
 refine wpAny_call<|codeAny_mono (F.run X.A X.stack s H ⟨a,[]⟩ (a++ds) (vs++dvs) Q E l I.env0 (v s a I.kIn n) g h) λr i b=>?_;cases r with
 |error e=>exact j d c H s e i I b
 |ok y=>
  cases y with|ret u=>exact I.after b|next|brk|cont=>exact Vz b
def KQ(F:gi X.prog X.w X.K X.mg X.base CX k f fd ps sp)(l:cZ k X.A)(v:Gl X x)(n:X.mg x=W1 (.ref f))(u:X0 X.K (.ref f)=VT)(B:iC X.K fd ps ds)(z:bo dvs ds)(j:gR CX X E)
  (G:PA X (e::es) t)(b:1#x:=by decide)(y:UJ (e::es) X.env=(U9,eval e X.env)::UJ es X.env:=by rfl)(a:(VQ pos<|UJ es X.env).any (·.1)=U9:=by rfl) :
  PE X (.Call (.Name x p) (e::es) [] pos) (Qb sp dvs E t):=by
 intro i s g H Q I h;refine wpAny_Call_Name_kw<|iU I v n ?_ b;refine YZ (h₀:=X.base) I.ok.mod.kin u (cW (G pos i s g H _ I h) λL M z9=>?_) y a;obtain⟨J,N,d,r,q⟩:=z9;refine⟨d.kIn,?_⟩;exact NH F l B z j d r q
structure Mk (K:Uv) (C f:UD):Prop where
 makes:W.makesIn K C=VT
 init:VW K (.ref C) "__init__"=W1 (W1 (.ref f))
 fn:W.isFn K (.ref f)=VT
 kp:X0 K (.ref C)=VT
def G2(M:Mk X.K C f)(F:gi X.prog X.w X.K X.mg X.base CX k f fd ps sp)(B:cZ (k+1) X.A)(L:iC X.K fd ps ds)(J:bo dvs ds)
  (z:gR CX X E)(I:Inv X i g H s)(r:bo vs a)
  (h:∀x c,H x=Wp->H c=Wp->c≠x->sp (.ref x::(vs++dvs)) (upd (upd H c<|.own x) x<|.ins C c []) (λv U=>v=.non/\Q (.ref x) U) E) :
  UZ 4#X X.A (call (.ref C) a) (EP X i g Q) X.xe s:=by
 have l:=h (2#s+1) 2#s (I.hok.fresh<|sam _) (I.hok.fresh<|U3 _)<|Vh<|WX _;have d:=JG (C:=C) I;have j:bo (V.ref (2#s+1)::(vs++dvs)) (Vg (2#s+1)::(a++ds)):=.cons rfl (r.append J);have G:(Vg (2#s+1)::a++ds).length=ps.length:=by
  have e:=j.length;rw[F.len _ _ _ _ l]at e;exact e.symm
 refine wpAny_call<|Ii (f:=f) I.kIn M.makes M.init (beq_iff_eq.mp M.fn)<|codeAny_mono (F.run _ X.stack _ _ ⟨Vg (2#s+1)::a,[]⟩ (Vg (2#s+1)::(a++ds)) _ _ E (B.make C a [])
  (d.env0.make C a []) (L _ (Vg (2#s+1)::a) d.kIn G) j l) λr n b=>?_
 cases r with
 |error e=>exact z i g _ _ e n d b
 |ok N=>
  cases N with
  |ret u=>
   obtain⟨v,Y,T,q,O,y⟩:=d.after b;subst O;exact⟨q,⟨V.ref<|2#s+1,Y,T,rfl,y⟩⟩
  |next|brk|cont=>exact Vz b
def KJ(M:Mk X.K C f)(F:gi X.prog X.w X.K X.mg X.base CX k f fd ps sp)(l:cZ (k+1) X.A)(u:Gl X x)(n:X.mg x=W1 (.ref C))(z:iC X.K fd ps ds)(y:bo dvs ds)(j:gR CX X E)
  (B:PA X (e::es) t)(b:1#x:=by decide)(v:UJ (e::es) X.env=(U9,eval e X.env)::UJ es X.env:=by rfl)(a:(VQ pos<|UJ es X.env).any (·.1)=U9:=by rfl) :
  PE X (.Call (.Name x p) (e::es) [] pos) (P5 C sp dvs E t):=by
 intro i s g H Q I h;refine wpAny_Call_Name_kw<|iU I u n ?_ b;refine YZ (h₀:=X.base) I.ok.mod.kin M.kp (cW (B pos i s g H _ I h) λJ L z9=>?_) v a;obtain⟨G,N,d,r,q⟩:=z9;refine⟨d.kIn,?_⟩;exact G2 M F l z y j d r q
end
structure eJ (N P:bv) (sc:X3):Prop where
 kind:sc.kind=.function
 co:sc.isCoroutine=U9
 gen:sc.isGenerator=U9
 nd:N.Nodup
 pre:N.take P.length=P
 par:∀x∈P,sc.names.lookup x=W1 .local ∨ sc.names.lookup x=W1 .cell
 nofree:∀y∈sc.names,y.2≠.free
theorem xO{kindOf:UL->Option Wi}:∀{binds:List<|UL×Ur}{m:UL->Option Ur},(∀v,(x,v)∉binds)->bindL kindOf binds m x=m x
 |[],_,_=>rfl
 |(n,v)::r,m,h=>by
  unfold bindL;rw[xO λw hw=>h w<|Up _ hw];split
  .have:x≠n:=by rintro rfl;exact h v Uu
   simp[this]
  .rfl
theorem xQ{kindOf:UL->Option Wi}:∀{binds:List<|UL×Ur}{m:UL->Option Ur},(∀v,(x,v)∉binds)->bindC kindOf binds m x=m x
 |[],_,_=>rfl
 |(n,v)::r,m,h=>by
  unfold bindC;rw[xQ λw hw=>h w<|Up _ hw];split
  .rfl
  .have:x≠n:=by rintro rfl;exact h v Uu
   simp[this]
theorem xP{kindOf:UL->Option Wi}{x:UL}{v:Ur}:∀{P:bv}{vs:List Ur}{i:Nat}{m:UL->Option Ur},P.Nodup->P[i]?=W1 x->vs[i]?=W1 v->kindOf x=W1 .local ->
  bindL kindOf (P.zip vs) m x=W1 v
 |[],_,_,_,_,h,_,_=>by simp at h
 |_::_,[],_,_,_,_,h,_=>by simp at h
 |p::P,w::vs,0,m,nd,b,a,c=>by
  simp at b a;subst b;subst a;show bindL kindOf ((p,w)::P.zip vs) m p=_;unfold bindL;rw[xO λv d=>(U6.mp nd).1 (X9 d).1,dh c];simp
 |p::P,w::vs,i+1,m,nd,b,a,c=>by
  show bindL kindOf ((p,w)::P.zip vs) m x=_;unfold bindL;exact xP (i:=i) (U6.mp nd).2 (by simpa using b) (by simpa using a) c
theorem xR{kindOf:UL->Option Wi}{x:UL}{v:Ur}:∀{P:bv}{vs:List Ur}{i:Nat}{m:UL->Option Ur},P.Nodup->P[i]?=W1 x->vs[i]?=W1 v->kindOf x≠W1 .local ->
  bindC kindOf (P.zip vs) m x=W1 v
 |[],_,_,_,_,h,_,_=>by simp at h
 |_::_,[],_,_,_,_,h,_=>by simp at h
 |p::P,w::vs,0,m,nd,b,a,c=>by
  simp at b a;subst b;subst a;show bindC kindOf ((p,w)::P.zip vs) m p=_;unfold bindC;rw[xQ λv d=>(U6.mp nd).1 (X9 d).1,dV c];simp
 |p::P,w::vs,i+1,m,nd,b,a,c=>by
  show bindC kindOf ((p,w)::P.zip vs) m x=_;unfold bindC;exact xR (i:=i) (U6.mp nd).2 (by simpa using b) (by simpa using a) c
def start(N:bv)(vs:ad):St:=vs.map W1++U1 (N.length-vs.length) Wp
noncomputable def gE(CX:zK) (P:Vv) (w:VL) (K:Uv) (mg:UL->Option Ur) (base:UQ) (N:bv) (qual:UL) (scope:X3) (f:UD) (cd:Ur) (A:VD) (outer:List Env) (s:UH) (H:Hp) (E:XK):Cx where
 prog:=P
 w:=w
 K:=K
 mg:=mg
 base:=base
 A:=A.deeper (envOfC qual scope 2#s f cd)
 N:=N
 sf:=s
 Ha:=H
 env:=envOfC qual scope 2#s f cd
 outer:=outer
 stack:=envOfC qual scope 2#s f cd::outer
 ex:=[]
 calm:=true
 fn:=λ_=>VT
 pn:=[]
 xe:=λe s'=>UZ (UY P w) (A.deeper<|envOfC qual scope 2#s f cd) (leaving (envOfC qual scope 2#s f cd) e) (λ_ s''=>CX outer H s E e s'') (λe' s''=>CX outer H s E e' s'') s'
def BB{sc:X3}(h:sc.names.lookup x=W1 .cell):∃c,(cellsFrom n sc.names []).lookup x=W1 c:=by
 have q:=W.cellsFrom_some sc.names n []<|.inl h;exact Xr.mp q
def Fs{K:Uv}{N ps:bv} 
  (S:eJ N ps scope)(Q:A.handled=Wp)(g:rY P w K I base A outer s H)(Y:vs.length=ps.length)(r:bo vs G)
  (x:InCallC s 2#s (bindL (envOfC qual scope 2#s f C).kindOf (ps.zip G) λ_=>Wp) (cellsFrom (2#s+1) scope.names []) (bindC (envOfC qual scope 2#s f C).kindOf (ps.zip G) λ_=>Wp) s1) :
  Inv (gE CX P w K I base N qual scope f C A outer s H E) [] (start N vs) H s1:=by
 have O:ps.length<=N.length:=by have:=en X6 S.pre;rw[V1]at this;omega
 obtain⟨B,U,rfl,L⟩:=x.done;have j:∀b:UD,b∉(gE CX P w K I base N qual scope f C A outer s H E).ex:=λb z=>ee (show b∈([]:List UD) from z) 0#3;refine⟨⟨g.mod,S.kind,rfl,rfl,U3 _,λy z c B d=>?_,λy l=>?_,λy c _ h=>?_,λ_=>Q,sar g.frames,.inr ⟨rfl,rfl⟩,λb z=>ee z (j b),g.bs,g.bsz,λb _ _=>j b,λb z=>ee z<|j b,g.funs,g.frf,g.tab⟩,
  rfl,g.bare,Un.kept L,⟨_,x.toInCall.ns,λi y v B d h3=>?_⟩,λy c h=>⟨_,x.cell y c h⟩,g.hok.fresh (U3 _),λy c h=>?_,λp o=>ee (show p∈([]:List<|UD×Obj) from o) 0#3,g.hok.kept L,?_⟩
 .exact name_of_addr x.apart (VC B)<|VC d
 .have l:scope.names.lookup y=W1 .cell∨scope.names.lookup y=W1 .free:=l
  rcases l with l|l
  .exact BB l
  .exact ee rfl (S.nofree _<|VC l)
 .exact Ww<|x.above y c<|VC h
 .have t:i<vs.length:=by
   unfold start at d
   by_cases t:i<vs.length
   .exact t
   .rw[U8 (by simpa using t)]at d
    rw[Vl]at d;split at d<;>cases d
  have T:vs[i]?=W1 v:=by
   unfold start at d;rw[U0 (by simpa using t),Uw]at d;cases e:vs[i]? with|none=>rw[e]at d;cases d|some a=>rw[e]at d;cases d;rfl
  obtain⟨u,J,M⟩:=r.get T;have o:ps[i]?=W1 y:=by
   rw[←S.pre,VE<|by omega];exact B
  have m:ps.Nodup:=by rw[←S.pre];exact S.nd.sublist<|List.take_sublist _ _
  refine⟨u,M,?_⟩;rcases S.par y (UM o) with k|k
  .exact .inl ⟨k,xP m o J k⟩
  .obtain⟨c,e⟩:=BB (n:=2#s+1) k
   refine .inr ⟨.inl k,c,e,?_⟩;have q:=x.cell y c e;rw[xR m o J (by show scope.names.lookup y≠_;rw[k];decide)]at q;exact q
 .exact g.hok.fresh<|Ww<|x.above y c<|VC h
 .unfold start
  show _=N.length;rw[Vf,Ut,Wn];omega
def II{K:Uv}{k:Nat}{O kV doc M a ct oc:Ur}
  {N ps:bv}(lk:K.lookup f=W1 ⟨oc,od,.func<|Xn name qual params body scope O kV doc M an a ct,Y⟩) (G:Zp K a qual=VT) (S:eJ N ps scope)
  (len:∀vs H Q E,sp vs H Q E->vs.length=ps.length)
  (g:∀(A:VD) (outer:List Env) (s:UH) (H:Hp) (vs:ad) (Q:VK) (E:XK),cZ k (A.deeper<|envOfC qual scope 2#s f a)->sp vs H Q E ->
   ∃t,zE (gE CX P w K z base N qual scope f a A outer s H E) body t/\t { nx:=λ_ H'=>Q .non H',rt:=Q } (start N vs) H) :
  gi P w K z base CX (k+1) f (Xn name qual params body scope O kV doc M an a ct) ps sp:=by
 refine⟨len,λA outer s H args U vs Q E C l hb r j=>?_⟩;have hl:=len _ _ _ _ j;have T:K.In s.heap:=l.mod.kin.keeps λb o e=>(l.bs b o e).1;have B:s.heap.NoLimit:=l.mod.nolimit.keeps λb o e=>(l.bs b o e).1;have d:∀y∈ps.zip U,scope.names.lookup y.1=W1 .local ∨ (scope.names.lookup y.1=W1 .cell/\((cellsFrom (2#s+1) scope.names []).lookup y.1).isSome=VT):=λ⟨n,v⟩ hy=>by
  rcases S.par n (X9 hy).1 with q|q
  .exact .inl q
  .exact .inr ⟨q,W.cellsFrom_some _ _ _<|.inl q⟩
 refine codeAny_call_function C.depth (T _ _ lk) rfl S.co S.gen rfl (W.codeRec_of T G) (hb _ _ _ _ ?_);refine wpAny_newFunctionEnv_cells S.kind d λab he L x=>?_;subst he;refine⟨B.keeps x.toInCall.keep,codeAny_func ?_⟩;obtain⟨t,ht,hq⟩:=g A outer s H vs Q E (C.deeper _) j;have I:Inv (gE CX P w K z base N qual scope f a A outer s H E) [] (start N vs) H L:=Fs S C.hd l hl r x;refine VH (ht [] L (start N vs) H _ I hq) (λfl m i=>?_) λe m i=>i;have fin:∀{c:St}{H':Hp}{v:V}{u:Ur},Inv (gE CX P w K z base N qual scope f a A outer s H E) [] c H' m->bB v u->Q v H'->CE outer P w H s Q u m :=
  λ{c H' v u} J p q=>⟨v,H',J.os,J.bare,J.base,J.hok,p,q⟩
 cases fl with
 |ret u=>
  obtain⟨v,c,H',J,p,q⟩:=i;exact fin J p q
 |next=>
  obtain⟨c,H',J,q⟩:=i;exact fin (v:=V.non) (u:=Wa) J rfl q
 |brk=>
  obtain⟨_,_,_,q⟩:=i;exact Vz q
 |cont=>
  obtain⟨_,_,_,q⟩:=i;exact Vz q
section
variable {X:Cx}{x:UL}{p pos:Pos}{e:Vt}{es:List Vt}{t:TA}{id T:String}{r:ad->Hp->VK->Prop}
def Tj(r:ad->Hp->VK->Prop)(t:TA):TE:=λa H Q=>t a H λb c=>r b c Q
def Ai(v:mv X (.builtin id) r)(q:Gl X x)(o:X.mg x=Wp)(m:bootBuiltins x=W1 (.builtin id))(w:PA X (e::es) t)(n:x≠"__name__":=by decide)(b:1#x:=by decide)
  (u:UJ (e::es) X.env=(U9,eval e X.env)::UJ es X.env:=by rfl)(a:(VQ pos<|UJ es X.env).any (·.1)=U9:=by rfl):PE X (.Call (.Name x p) (e::es) [] pos) (Tj r t):=by
 intro d s c H Q I h;refine wpAny_Call_Name_kw<|ql I q o m ?_ n b;exact PyProof.Rows.callWith_builtin1 (cW (w pos d s c H _ I h) λg i ⟨f,z,y,j,l⟩=>v d i c z f g Q y j l) u a
def xh(v:mv X (.type T) r)(q:Gl X x)(o:X.mg x=Wp)(m:bootBuiltins x=W1 (.type T))(w:PA X (e::es) t)(n:x≠"__name__":=by decide)(b:1#x:=by decide)
  (u:UJ (e::es) X.env=(U9,eval e X.env)::UJ es X.env:=by rfl)(a:(VQ pos<|UJ es X.env).any (·.1)=U9:=by rfl):PE X (.Call (.Name x p) (e::es) [] pos) (Tj r t):=by
 intro d s c H Q I h;refine wpAny_Call_Name_kw<|ql I q o m ?_ n b;exact Xb (cW (w pos d s c H _ I h) λg i ⟨f,z,y,j,l⟩=>v d i c z f g Q y j l) u a
end
end L2
namespace HT
open PySem PyProof.Rows
section
variable {prog:Vv}{w:VL}{A:VD}{E:Ur->UH->Prop}{s:UH}
def cat_tup(u:IsTup s.heap t vs.toArray)(v:IsTup s.heap b ws.toArray)(m:vs≠[])
  (y:ws=[]->Q (.ref t) s)(x:ws≠[]->Q (.ref 2#s) { s with heap:=s.heap.push { cls:=.type "tuple",data:=.seq (vs++ws).toArray } })
  (hsz:vs.length+ws.length<=sizeLine):UZ (UY prog w) A (binaryOp .Add (.ref t)<|.ref b) Q E s:=by
 obtain⟨⟨cls,q,data,j⟩,i,p,n,o⟩:=id u;obtain⟨⟨r,g,data2,c⟩,a,f,l,d⟩:=id v;simp only at p o f d;subst p o f d;have e:vs.toArray++ws.toArray=(vs++ws).toArray:=by simp
 by_cases hw:ws=[]
 .exact concat_meets ⟨_,i,rfl⟩ ⟨_,a,rfl⟩ noFill_tuple_add seq_tuple_add Z1 ZR (ZG _ _)
   (tuple_addW1 t b vs.toArray ws.toArray n l q g j c (by simpa using m)<|by simp[hw]) ⟨i,a,y hw⟩
 .refine concat_meets ⟨_,i,rfl⟩ ⟨_,a,rfl⟩ noFill_tuple_add seq_tuple_add Z1 ZR (ZG _ _)
   (tuple_addW2 t b vs.toArray ws.toArray n l q g j c (by simpa using m) (by simpa using hw) (by rw[UW,UW];exact hsz)) ⟨i,a,?_⟩
  rw[e];exact x hw
def sIx(n d:Nat):Option Int->Nat
 |none=>d
 |some v=>if v<0 then(v+(n:Int)).toNat else min v.toNat n
def sIx_none(n d:Nat):sIx n d Wp=d:=rfl
def sIx_nat(n d k:Nat):sIx n d (W1 (k:Int))=min k n:=by
 show(if(k:Int)<0 then((k:Int)+(n:Int)).toNat else min (k:Int).toNat n)=min k n;rw[dV 0#2,V6]
def NF(n d:Nat)(b:d<=n)(o:Option Int):sIx n d o<=n:=by
 cases o with
 |none=>exact b
 |some v=>
  show(if v<0 then(v+(n:Int)).toNat else min v.toNat n)<=n
  by_cases a:v<0
  .rw[dh a];omega
  .rw[dV a];exact Nat.min_le_right _ _
def Eg(v:Int)(n d:Nat):(if v<0 then max (v+(n:Int)) 0 else min v (n:Int))=((sIx n d (W1 v):Nat):Int):=by
 show(if v<0 then max (v+(n:Int)) 0 else min v (n:Int))=(((if v<0 then(v+(n:Int)).toNat else min v.toNat n):Nat):Int)
 by_cases a:v<0
 .simp only[dh a];omega
 .simp only[dV a];omega
def C6(lo hi:Option Int)(n:Nat):Yq lo hi 1 (n:Int)=(((sIx n 0 lo:Nat):Int),((sIx n n hi:Nat):Int)):=by
 have a:¬((1:Int)<0):=by omega
 unfold Yq;simp only[a,if_false];refine Prod.ext ?_ ?_
 .cases lo with
  |none=>rfl
  |some v=>exact Eg v n 0
 .cases hi with
  |none=>rfl
  |some v=>exact Eg v n n
def Co(i j:Nat):Xm (i:Int) (j:Int) 1=j-i:=by
 unfold Xm;have a:(1:Int) > 0:=by omega
 simp only[a,et,Int.ediv_one];split<;>omega
def sZ(p:IsPart v o)(h:Q o s):UZ (UY prog w) A (Builtin.Slice.slicePartIndex v) Q E s:=by
 cases p with|none=>exact slicePart_none h|int i t=>exact slicePart_int h
def qe{lo hi:Option Int}{Q:Int×Int×Nat->UH->Prop}(g:s.heap.IsSliceOf e d c .none)(pl:IsPart d lo)(f:IsPart c hi)
  (h:Q (((sIx n 0 lo:Nat):Int),1,sIx n n hi-sIx n 0 lo) s):UZ (UY prog w) A (Zz (.ref e)<|pure (n:Int)) Q E s:=by
 obtain⟨os,a,i,b⟩:=id g;unfold Zz Builtin.Slice.sliceFields;refine UA<|UA<|wpAny_field a b (x:=d) rfl (UA<|wpAny_field a b (x:=c) rfl (UA<|wpAny_field a b (x:=.none) rfl (U2 ?_)));refine UA<|slicePart_none ?_;show UZ _ _ (if((1:Int)==0)=VT then _ else _) _ _ s;rw[dV 0#1];refine UA<|sZ pl<|UA<|sZ f<|UA<|U2 ?_;show UZ _ _ (match Yq lo hi 1 (n:Int) with|(lo,hi)=>pure (lo,(1:Int),Xm lo hi 1)) _ _ s;rw[C6 lo hi n];show UZ _ _ (pure (((sIx n 0 lo:Nat):Int),(1:Int),Xm ((sIx n 0 lo:Nat):Int) ((sIx n n hi:Nat):Int) 1)) _ _ s;rw[Co];exact U2 h
def HE(xs:Array Ur)(i k:Nat):((VO k).filterMap λ(m:Nat)=>xs[((i:Int)+(m:Int)*1).toNat]?).toArray=((xs.toList.drop i).take k).toArray:=by
 have e:(λ(m:Nat)=>xs[((i:Int)+(m:Int)*1).toNat]?)=λm=>xs[i+m]?:=by
  funext m;have:((i:Int)+(m:Int)*1).toNat=i+m:=by omega
  rw[this]
 rw[e];have:=pick_run xs i k;rw[YU]at this;have a:((λx=>xs[x]?)∘λx=>i+x)=λm=>xs[i+m]?:=rfl;rw[a]at this;rw[this]
def getItem_tuple_cut{lo hi:Option Int}(b:IsTup s.heap t items)(i:s.heap.IsSliceOf g l j .none)(pl:IsPart l lo)(n:IsPart j hi)
  (hw:¬(sIx items.size 0 lo=0/\sIx items.size items.size hi=items.size))
  (h:Q (.ref 2#s) { s with heap:=s.heap.push { cls:=.type "tuple",data:=.seq ((items.toList.drop<|sIx items.size 0 lo).take<|sIx items.size items.size hi-sIx items.size 0 lo).toArray } })
  (hsz:items.size<=sizeLine):UZ (UY prog w) A (getItem (.ref t)<|.ref g) Q E s:=by
 have a:sizeOk (.seq ((items.toList.drop<|sIx items.size 0 lo).take<|sIx items.size items.size hi-sIx items.size 0 lo).toArray):=by
  show((items.toList.drop<|sIx items.size 0 lo).take<|sIx items.size items.size hi-sIx items.size 0 lo).toArray.size<=sizeLine;rw[UW,V1,WM,WH];omega
 have u:sIx items.size items.size hi<=items.size:=NF _ _ (U3 _) hi;obtain⟨os,c,e,o⟩:=id i;have f:s.TypeIs (.ref g) "slice":=⟨os,c,e⟩
 unfold getItem
 try with_reducible refine Wf ?_
 first|refine UA (U2 ?_)|skip
 refine UA (wpAny_sequenceKey b.typeIs 0#1 ?_);refine UA (wpAny_callSpecial?_slot (name:=Str.ofString "__getitem__") b.typeIs XT
  (wpAny_call_entry XT b.typeIs entry_tuple_getitem ?_<|args_tuple_getitem _ _))
 show UZ _ _ (Builtin.Tuple.tupleItemsOf (.ref t) >>= _) _ _ s;refine UA<|tupleItemsOf_ b ?_;refine UA<|wpAny_typeOf f ?_;rw[dh 0#1];refine UA<|qe i pl n ?_;have d:¬((((sIx items.size 0 lo:Nat):Int)==0&&(1:Int)==1&&(sIx items.size items.size hi-sIx items.size 0 lo)==items.size)=VT):=by
  intro q;rw[US,US]at q;have r:((sIx items.size 0 lo:Nat):Int)=0:=eq_of_beq q.1.1;have p:sIx items.size items.size hi-sIx items.size 0 lo=items.size:=eq_of_beq q.2;exact hw ⟨by omega,by omega⟩
 show UZ _ _ (if(((sIx items.size 0 lo:Nat):Int)==0&&(1:Int)==1&&(sIx items.size items.size hi-sIx items.size 0 lo)==items.size)=VT then _ else _) _ _ s;rw[dV d,HE]
 first
  |exact UA (m:=Xs _)<|wpAny_newObj_type (U2 ⟨_,rfl,U2 h⟩) a
  |exact UA (m:=Xs _)<|wpAny_newObj_type (UA<|U2<|U2 ⟨_,rfl,U2 h⟩) a
  |exact UA<|UA (m:=Xs _)<|wpAny_newObj_type (U2<|U2 ⟨_,rfl,U2 h⟩) a
  |exact UA<|UA (m:=Xs _)<|wpAny_newObj_type (U2 ⟨_,rfl,U2 h⟩) a
end
end HT
namespace L2
open PySem PySem.Spec PyProof.Rows
abbrev TO:=St->Hp->(Option Int->Hp->Prop)->Prop
def PO(X:Cx)(e:Option Vt)(t:TO):Prop :=
 ∀(b:List<|UD×Obj) (s:UH) (a:St) (H:Hp) (Q:Option Int->Hp->Prop),Inv X b a H s->t a H Q ->
  UZ 4#X X.A (evalPart e X.env) (λu d=>∃o c,Inv X b a c d/\IsPart u o/\Q o c) X.xe s
def Kb:TO:=λ_ H Q=>Q Wp H
def PZ(t:TE):TO:=λa H Q=>t a H λx b=>∃i,x=.int i/\Q (W1 i) b
section
variable {X:Cx}{e:Vt}{te:TE}{lo hi:Option Vt}{tl th:TO}{pos p2:Pos}
def Kz:PO X Wp Kb:=by
 intro b s a H Q I h;rw[evalPart_none];exact U2 ⟨Wp,H,I,.none,h⟩
def Ky(h:PE X e te):PO X (W1 e) (PZ te):=by
 intro b s a H Q I hw;rw[evalPart_some];refine cW (h b s a H _ I hw) λu j ⟨x,g,f,c,d⟩=>?_;obtain⟨i,rfl,q⟩:=d;obtain⟨t,rfl⟩:=c;exact⟨W1 i,g,f,.int i t,q⟩
noncomputable def JM(X:Cx) (r:V->Option Int->Option Int->Hp->VK->Prop):Prop :=
 ∀(b:List<|UD×Obj) (s:UH) (a:St) (H:Hp) (x:V) (v d c:Ur) (lo hi:Option Int) (f:UD) (Q:VK),Inv X b a H s->bB x v->s.heap.IsSliceOf f d c .none->IsPart d lo->IsPart c hi->r x lo hi H Q ->
  ∃T id,XU (.type T) "__getitem__"=pure (W1<|.builtin id)/\s.TypeIs v T/\UZ 4#X X.A (getItem v<|.ref f) (EP X b a Q) X.xe s
def JM.or(h:JM X r)(h':JM X l):JM X (λx lo hi H Q=>r x lo hi H Q∨l x lo hi H Q):=by
 intro b s a H x v d c lo hi f Q I g j pl i q;rcases q with q|q
 .exact h b s a H x v d c lo hi f Q I g j pl i q
 .exact h' b s a H x v d c lo hi f Q I g j pl i q
def Th(r:V->Option Int->Option Int->Hp->VK->Prop)(te:TE)(tl th:TO):TE:=λa H Q=>te a H λx d=>tl a d λl c=>th a c λu b=>r x l u b Q
def HH(E:JM X r)(L:PE X e te)(G:PO X lo tl)(B:PO X hi th):PE X (.Subscript e (.Slice lo hi Wp p2) pos) (Th r te tl th):=by
 intro d s c H Q I h;refine Subscript_<|cW (L d s c H _ I h) λv m ⟨x,H1,Y,n,t⟩=>?_;refine wpAny_Slice<|cW (G d m c H1 _ Y t) λg j ⟨l,H2,U,pl,p⟩=>cW (B d j c H2 _ U p) λf a ⟨u,i,O,y,o⟩=>?_;rw[evalPart_none];refine U2 ?_;have N:Inv X d c i { a with heap:=a.heap.push { cls:=.type "slice",data:=.fields #[g,f,.none] } }:=O.kept (t':=a.toks) λb ob q=>UC _ q;obtain⟨T,id,M,C,J⟩:=E d { a with heap:=a.heap.push { cls:=.type "slice",data:=.fields #[g,f,.none] } } c i x v g f l u 2#a Q N n (Heap.IsSliceOf.new ..) pl y o;show UZ 4#X X.A (subscriptTail e (.Slice lo hi Wp p2) v<|.ref 2#a) (EP X d c Q) X.xe { a with heap:=a.heap.push { cls:=.type "slice",data:=.fields #[g,f,.none] } };exact tail_any (ops:=[.ref 2#a,v]) C M J (by with_unfolding_all rfl)
def BA(xs:ad)(lo hi:Option Int):ad:=(xs.drop<|HT.sIx xs.length 0 lo).take<|HT.sIx xs.length xs.length hi-HT.sIx xs.length 0 lo
def rh(xs:ad)(lo hi:Option Int):(BA xs lo hi).length<=xs.length:=by
 unfold BA;rw[V1,WM];omega
def Sr(K:Uv):V->Option Int->Option Int->Hp->VK->Prop:=λx lo hi H Q=>∃a xs,x=.ref a/\pZ K H a xs /\
 ¬(HT.sIx xs.length 0 lo=0/\HT.sIx xs.length xs.length hi=xs.length)/\∀p,H p=Wp->Q (.ref p) (upd H p<|.tup<|BA xs lo hi)
def NA:JM X (Sr X.K):=by
 intro n s m H x v t p lo hi w Q I g l pl i h;obtain⟨a,xs,rfl,j,hw,q⟩:=h;cases g;obtain⟨c,r,f,d⟩:=I.tuple j;have hlen:c.toArray.size=xs.length:=by rw[UW];exact r.length.symm
 refine⟨"tuple",_,XT.lookup,f.typeIs,?_⟩;refine HT.getItem_tuple_cut f l pl i (by rw[hlen];exact hw) ?_ (by rw[hlen];exact d);rw[hlen];refine⟨.ref 2#s,_,I.laid (t':=s.toks) (o:=.tup<|BA xs lo hi) (λb ob q=>UC _ q) (U3 _) ?_,rfl,q _<|I.hok.fresh<|U3 _⟩;exact⟨UI (rh xs lo hi) d,_,(r.drop<|HT.sIx xs.length 0 lo).take<|HT.sIx xs.length xs.length hi-HT.sIx xs.length 0 lo,IsTup.new _ _⟩
def Qt(K:Uv):R2:=λx y H Q=>∃a b xs c,x=.ref a/\y=.ref b/\pZ K H a xs/\pZ K H b c/\xs≠[]/\xs.length+c.length<=sizeLine /\
 (c=[]->Q (.ref a) H)/\(c≠[]->∀p,H p=Wp->Q (.ref p) (upd H p<|.tup<|xs++c))
def bo.nil_iff(r:bo xs a):a=[]↔xs=[]:=by
 cases r with|nil|cons _ _=>simp
def K1:ia X (binaryOp .Add) (Qt X.K):=by
 intro E s C H x y v u Q I l j h;obtain⟨a,b,xs,i,rfl,rfl,B,A,t,g,n,m⟩:=h;cases l;cases j;obtain⟨r,d,p,_⟩:=I.tuple B;obtain⟨f,c,p2,_⟩:=I.tuple A;refine HT.cat_tup p p2 (λz=>t<|d.nil_iff.mp z) (λz=>⟨.ref a,H,I,rfl,n<|c.nil_iff.mp z⟩) (λz=>?_) (by rw[←d.length,←c.length];exact g);refine⟨.ref 2#s,_,I.laid (t':=s.toks) (o:=.tup<|xs++i) (λb ob q=>UC _ q) (U3 _) ?_,rfl,m (λw=>z<|c.nil_iff.mpr w) _<|I.hok.fresh<|U3 _⟩;exact⟨by rw[Vf];exact g,_,d.append c,IsTup.new _ _⟩
end
def AJ(n:Nat)(i:Int):Option Nat:=if 0<=i then(if i<n then W1 i.toNat else Wp) else if -(n:Int)<=i then W1 (i+n).toNat else Wp
def atI{a:Type}(xs:List a)(i:Int):Option a:=(AJ xs.length i).bind λj=>xs[j]?
def yX(h:AJ n i=W1 j):seqIndex? i n=W1 j/\j<n/\-(n:Int)<=i/\i<n:=by
 unfold AJ at h
 by_cases b:0<=i
 .rw[dh b]at h
  by_cases a:i<n
  .rw[dh a]at h
   have e:i.toNat=j:=Vp h;exact⟨by rw[seqIndex_of b a,e],by omega,by omega,a⟩
  .rw[dV a]at h;cases h
 .rw[dV b]at h
  by_cases a:-(n:Int)<=i
  .rw[dh a]at h
   have e:(i+n).toNat=j:=Vp h;exact⟨by rw[seqIndex_neg 0#2 a,e],by omega,a,by omega⟩
  .rw[dV a]at h;cases h
def zw{v:f}(h:atI xs i=W1 v):∃j,seqIndex? i xs.length=W1 j/\xs[j]?=W1 v/\j<xs.length/\-(xs.length:Int)<=i/\i<xs.length:=by
 unfold atI at h;cases e:AJ xs.length i with
 |none=>rw[e]at h;cases h
 |some j=>
  rw[e]at h;obtain⟨d,c,b,a⟩:=yX e;exact⟨j,d,h,c,b,a⟩
def gZ{j:Nat}{v:a}(h:xs[j]?=W1 v):atI xs (j:Int)=W1 v:=by
 have b:j<xs.length:=(Uz.mp h).1;have e:AJ xs.length (j:Int)=W1 j:=by
  unfold AJ;rw[dh 0#2,dh<|by omega];simp
 unfold atI;rw[e];exact h
def zD(b:Vt):Prop:=∀o i,subscripted b U9 o i=operate [o,i] (getItem o i)
noncomputable def JN(X:Cx) (r:R2):Prop :=
 ∀(value slice:Vt) (b:List<|UD×Obj) (s:UH) (a:St) (H:Hp) (x y:V) (v u:Ur) (Q:VK),Inv X b a H s->bB x v->bB y u->r x y H Q ->
  subscripted slice U9 v u=operate [v,u] (getItem v u)->UZ 4#X X.A (subscriptTail value slice v u) (EP X b a Q) X.xe s
noncomputable def Tz(X:Cx) (id:String) (r:V->ad->Hp->VK->Prop):Prop :=
 ∀(b:List<|UD×Obj) (s:UH) (a:St) (H:Hp) (x:V) (xs:ad) (v:Ur) (c:List Ur) (Q:VK),Inv X b a H s->bB x v->bo xs c->r x xs H Q ->
  UZ 4#X X.A (call (.builtin id) (v::c)) (EP X b a Q) X.xe s
section
variable {X:Cx}{a b:Vt}{ta tb:TE}{pos:Pos}
def JN.or(h:JN X r)(h':JN X i):JN X (λx y H Q=>r x y H Q∨i x y H Q):=by
 intro value slice d s c H x y v u Q I f e q g;rcases q with q|q
 .exact h value slice d s c H x y v u Q I f e q g
 .exact h' value slice d s c H x y v u Q I f e q g
def QE(j:JN X r)(m:PE X a ta)(l:PE X b tb)(i:zD b):PE X (.Subscript a b pos) (P0 r ta tb):=by
 intro d s c H Q I h;exact Subscript_<|Pb m l I h λv u e x y o n g f q=>j a b d e c o x y v u Q n g f q<|i _ _
def Qp(K:Uv):R2:=λx y H Q=>∃p xs i v,x=.ref p/\y=.int i/\gH K H p xs/\atI xs i=W1 v/\Q v H
def Qn(K:Uv):R2:=λx y H Q=>∃p xs i v,x=.ref p/\y=.int i/\pZ K H p xs/\atI xs i=W1 v/\Q v H
def Qo:R2:=λx y H Q=>∃z i c,x=.str z/\y=.int i/\z.length<=sizeLine/\atI z.cps.toList i=W1 c/\Q (.str ⟨#[c]⟩) H
def Ll:JN X (Qp X.K):=by
 intro value slice l s g H x y v u Q I C B h m;obtain⟨p,xs,i,z,rfl,rfl,E,J,q⟩:=h;cases C;obtain⟨t,rfl⟩:=B;obtain⟨e,r,pl,O⟩:=I.list E;obtain⟨j,c,N,U,M,L⟩:=zw J;obtain⟨w,o,d⟩:=r.get N;have G:=r.length;have T:=um;have fin:EP X l g Q w s:=⟨z,H,I,d,q⟩
 by_cases n:0<=i
 .have f:i.toNat=j:=by
   rw[seqIndex_of n L]at c;exact Vp c
  exact item_listR pl.isList n 0#2 (by rw[f];simpa using o) fin m
 .have f:(i+(e.toArray.size:Int)).toNat=j:=by
   rw[seqIndex_neg 0#2 M]at c;rw[UW,←G];exact Vp c
  exact subscriptTail_builtinR (x:=w) pl.isList.typeIs slot_list_getitem.lookup
   (wpAny_getItem_list_neg (Q:=λr A=>r=w/\EP X l g Q r A) pl.isList 0#2 (by rw[UW]<;>omega) 0#2 (by rw[f];simpa using o) ⟨rfl,fin⟩) m
def Ow:JN X (Qn X.K):=by
 intro value slice e s d H x y v u Q I l g h n;obtain⟨p,xs,i,z,rfl,rfl,o,B,q⟩:=h;cases l;obtain⟨t,rfl⟩:=g;obtain⟨m,r,pl,J⟩:=I.tuple o;obtain⟨j,E,C,O,N,M⟩:=zw B;obtain⟨w,G,c⟩:=r.get C;have A:=r.length;have L:=um;have fin:EP X e d Q w s:=⟨z,H,I,c,q⟩
 exact subscriptTail_builtinR (x:=w) pl.typeIs slot_tuple_getitem.lookup
  (getItem_tuple (j:=j) (Q:=λr f=>r=w/\EP X e d Q r f) pl 0#2 0#2 (by rw[UW,←A];exact E) (by simpa using G) ⟨rfl,fin⟩) n
def Ox:JN X Qo:=by
 intro value slice B s A H x y v u Q I f e h g;obtain⟨z,i,c,rfl,rfl,E,m,q⟩:=h;obtain⟨t,rfl⟩:=f;obtain⟨C,rfl⟩:=e;obtain⟨j,d,p,J,o,n⟩:=zw m;have l:z.cps.toList.length=z.length:=by simp[Str.length]
 rw[l]at d o n;have G:=um;exact tail_any (typeIs_str s z t) slot_str_getitem.lookup (getItem_str (c:=c) (by
  have w:decide (i < -(2 ^ 63:Int))=U9:=dy 0#2;have r:decide (i≥2 ^ 63)=U9:=dy 0#2;rw[w,r,Bool.or_false]) (by rw[d];simpa using p) ⟨.str ⟨#[c]⟩,H,I.tok _,⟨_,rfl⟩,q⟩) g
def Tp(K:Uv):R2:=λx y H Q=>Qp K x y H Q∨Qn K x y H Q∨Qo x y H Q
def Oy:JN X (Tp X.K):=Ll.or<|Ow.or Ox
def CB(its:List Ur)(n j:Nat)(u:Ur):YS (·.setIfInBounds j u) { cls:=.type "list",data:=.seq its.toArray n }={ cls:=.type "list",data:=.seq (its.set j u).toArray n }:=by
 simp[YS]
def Inv.lst(I:Inv X d c H s)(h:H p=W1 (.lst xs)) :
  ∃(its:List Ur) (n:Nat),bo xs its/\s.heap.get? p=W1 { cls:=.type "list",data:=.seq its.toArray n }/\xs.length<=sizeLine:=by
 obtain⟨z,its,n,r,e⟩:=I.hok p _ h;exact⟨its,n,r,e,z⟩
def Inv.lstUpd{its its':List Ur}(I:Inv X i g H s)(h:H p=W1 (.lst xs))
  (l:s.heap.get? p=W1 { cls:=.type "list",data:=.seq its.toArray n })(d:f { cls:=.type "list",data:=.seq its.toArray n }={ cls:=.type "list",data:=.seq its'.toArray c })(r:bo ys its')(j:ys.length<=sizeLine)(t:Nat) :
  Inv X i g (upd H p<|.lst ys) { s with heap:=s.heap.update p f,toks:=t }:=by
 have e:(s.heap.update p f).get? p=W1 { cls:=.type "list",data:=.seq its'.toArray c }:=by
  rw[Wo f l (by rw[d]<;>rfl),d]
 refine I.write (x:=p) (e:=p) (by rw[h];trivial) (.inl rfl) (λb u m q=>(Wl _ _<|Vw m).trans q) ⟨_,e⟩ ?_;exact⟨j,its',c,r,e⟩
def ME:V->V->V->Hp->(Hp->Prop)->Prop:=λo i v H Q=>∃p xs k j,o=.ref p/\i=.int k/\H p=W1 (.lst xs)/\AJ xs.length k=W1 j/\Q (upd H p<|.lst<|xs.set j v)
def GV:Rz X ME:=by
 intro A s z H o i v J L u Q I C ri B h;obtain⟨p,xs,k,j,rfl,rfl,l,G,q⟩:=h;cases C;obtain⟨t,rfl⟩:=ri;obtain⟨c,n,r,e,E⟩:=I.lst l;obtain⟨d,N,w,m⟩:=yX G;have f:=r.length;have M:=um;have y:Inv X A z (upd H p<|.lst<|xs.set j v) { s with heap:=s.heap.update p (YS (·.setIfInBounds j u)) } :=
  I.lstUpd l e (CB c n j u) (r.set B j) (by rw[YC];exact E) s.toks
 by_cases x:0<=k
 .have g:k.toNat=j:=by
   rw[seqIndex_of x m]at d;exact Vp d
  exact W.ki_setAt e x 0#2 (by rw[UW,←f];exact m) (by rw[g];exact⟨_,y,q⟩)
 .have g:(k+(c.toArray.size:Int)).toNat=j:=by
   rw[seqIndex_neg 0#2 w]at d;rw[UW,←f];exact Vp d
  exact W.ki_setBack e 0#2 (by rw[UW,←f];exact w) 0#2 (by rw[g];exact⟨_,y,q⟩)
def yq(lo hi:Option Int)(n:Nat):(sliceBounds lo hi Wp n).1=((HT.sIx n 0 lo:Nat):Int)/\(sliceBounds lo hi Wp n).2.1=((HT.sIx n n hi:Nat):Int)/\(sliceBounds lo hi Wp n).2.2=1:=by
 refine⟨?_,?_,rfl⟩
 .cases lo with
  |none=>simp[sliceBounds,HT.sIx]
  |some i=>
   simp only[sliceBounds,HT.sIx,Option.getD_none,show(1:Int) > 0 by decide,et]
   by_cases h:i<0
   .simp only[h,et]<;>omega
   .simp only[h,if_false]<;>omega
 .cases hi with
  |none=>simp[sliceBounds,HT.sIx]
  |some i=>
   simp only[sliceBounds,HT.sIx,Option.getD_none,show(1:Int) > 0 by decide,et]
   by_cases h:i<0
   .simp only[h,et]<;>omega
   .simp only[h,if_false]<;>omega
def wa(its:List Ur)(lo hi:Option Int):slicePick its.toArray lo hi Wp=((its.drop<|HT.sIx its.length 0 lo).take<|HT.sIx its.length its.length hi-HT.sIx its.length 0 lo).toArray:=by
 obtain⟨e,d,c⟩:=yq lo hi its.toArray.size;unfold slicePick;rw[e,d,c];simp only[sliceRange_one,pick_run,UW]<;>rfl
def Sv(K:Uv):V->Option Int->Option Int->Hp->VK->Prop:=λx lo c H Q=>∃a xs,x=.ref a/\gH K H a xs/\∀p,H p=Wp->Q (.ref p) (upd H p<|.lst<|BA xs lo c)
def Kf:JM X (Sv X.K):=by
 intro n s m H x v t p lo c w Q I e l pl f h;obtain⟨a,xs,rfl,j,q⟩:=h;cases e;obtain⟨g,r,d,i⟩:=I.list j;have hlen:=r.length;refine⟨"list",_,slot_list_getitem.lookup,d.isList.typeIs,?_⟩;refine wpAny_getItem_list_slice d.isList l pl f .none 0#3 ?_ (by rw[UW]<;>omega);rw[wa,←hlen];refine⟨.ref 2#s,_,I.laid (t':=s.toks) (o:=.lst<|BA xs lo c) (λb ob q=>UC _ q) (U3 _) ?_,rfl,q _<|I.hok.fresh<|U3 _⟩;exact⟨UI (rh xs lo c) i,_,0,(r.drop<|HT.sIx xs.length 0 lo).take<|HT.sIx xs.length xs.length c-HT.sIx xs.length 0 lo,Vs _ rfl⟩
def yI:ia X (VA .NotIn) (λx y H Q=>∃i j,x=.str i/\y=.str j/\Q (.bl (!(!(YA j i 0 j.length 1).isEmpty))) H):=by
 intro f s e H x y v u Q I d c h;obtain⟨i,j,rfl,rfl,q⟩:=h;obtain⟨t,rfl⟩:=d;obtain⟨g,rfl⟩:=c;exact notIn_str ⟨.bl _,H,I,rfl,q⟩
def zq:mv X (.type "list") (λxs H Q=>∃p ys,xs=[.ref p]/\(gH X.K H p ys∨pZ X.K H p ys)/\∀l,H l=Wp->Q (.ref l) (upd H l<|.lst ys)):=by
 intro A s z H xs C Q I r h;obtain⟨p,ys,rfl,m,q⟩:=h;obtain⟨u,rfl,B⟩:=wO r;cases B;have fin:∀(c:List Ur),bo ys c->ys.length<=sizeLine->∀(d:UQ) (g:Nat),(∀b y,s.heap.get? b=W1 y->d.get? b=W1 y) ->
   d.get? 2#s=W1 { cls:=.type "list",dict:=none,data:=.seq c.toArray g,slots:=#[] }->EP X A z Q (.ref 2#s) { s with heap:=d }:=λc f j d g i e=>
  ⟨.ref 2#s,_,I.laid (t':=s.toks) i (U3 _) (show cL X.prog X.w _ d _ (.lst ys) from⟨j,c,g,f,e⟩),rfl,q _<|I.hok.fresh<|U3 _⟩
 rcases m with m|m
 .obtain⟨c,f,pl,j⟩:=I.list m
  have hlen:=f.length;obtain⟨o,t,x,n,v⟩:=pl.isList;exact call_list_seq p (.inl rfl) t x v (λd g i e=>fin c f j d g i e) (by simp only[UW]<;>omega)
 .obtain⟨c,f,pl,j⟩:=I.tuple m
  have hlen:=f.length;obtain⟨o,t,x,n,v⟩:=pl;exact call_list_seq p (.inr rfl) t x v (λd g i e=>fin c f j d g i e) (by simp only[UW]<;>omega)
noncomputable def Tf(K:Uv) (T:String) (x:V) (H:Hp):Prop:=match x with
 |.str _=>T="str"
 |.int _=>T="int"
 |.ref p=>(T="list"/\∃xs,gH K H p xs)∨(T="tuple"/\∃o,K.lookup p=W1 o/\o.cls=.type "tuple"/\o.dict=Wp) ∨
   (T="dict"/\((∃c,H p=W1 (.dK c))∨∃c,H p=W1 (.dT c)))∨(T="set"/\∃S n,H p=W1 (.set S n))
 |_=>False
def Nk(I:Inv X y w H s)(r:bB x v)(ty:Tf X.K T x H) :
  s.TypeIs v T/\∀a,v=.ref a->∃ob,s.heap.get? a=W1 ob/\ob.dict=Wp:=by
 cases x with
 |str z=>
  obtain⟨t,rfl⟩:=r;cases (show T="str" from ty);exact⟨typeIs_str s z t,λ_ e=>nomatch e⟩
 |int i=>
  obtain⟨t,rfl⟩:=r;cases (show T="int" from ty);exact⟨typeIs_int s i t,λ_ e=>nomatch e⟩
 |ref p=>
  cases r;rcases ty with⟨rfl,xs,q⟩|⟨rfl,o,d,u,j⟩|⟨rfl,d⟩|⟨rfl,S,n,d⟩
  .obtain⟨m,_,pl,_⟩:=I.list q
   refine⟨pl.isList.typeIs,λa e=>?_⟩;cases e;obtain⟨o,n,e,c,j,_⟩:=pl;exact⟨o,e,j⟩
  .refine⟨⟨o,I.kIn p o d,u⟩,λa e=>?_⟩
   cases e;exact⟨o,I.kIn _ o d,j⟩
  .have z:∃o,s.heap.get? p=W1 o/\o.ExactDict:=by
    rcases d with⟨g,d⟩|⟨g,d⟩
    .obtain⟨_,_,_,_,o,_,_,e,f,_⟩:=I.hok p _ d
     exact⟨o,e,f⟩
    .obtain⟨_,_,_,_,o,_,_,e,f,_⟩:=I.hok p _ d
     exact⟨o,e,f⟩
   obtain⟨o,e,f⟩:=z;refine⟨⟨o,e,f.1⟩,λa l=>?_⟩;cases l;exact⟨o,e,f.2.1⟩
  .obtain⟨o,_,_,_,e,f,_⟩:=I.hok p _ d
   refine⟨⟨o,e,f.1⟩,λa l=>?_⟩;cases l;exact⟨o,e,f.2.1⟩
 |_=>exact Vz ty
def T1(K:Uv)(T:String)(r:V->ad->Hp->VK->Prop)(e:TE)(t:TA):TE:=λc H Q=>e c H λx d=>Tf K T x d/\t c d λxs f=>r x xs f Q
variable {o e:Vt}{es:List Vt}{to:TE}{t:TA}{name:UL}{apos cpos:Pos}{T id:String}{r:V->ad->Hp->VK->Prop}
def HM(C:PlainAttrs T)(slot:Slot T name id)(l:typeOf (.builtin id)=pure (.type "method_descriptor"))(J:Tz X id r)(G:PE X o to)(L:PA X (e::es) t)
  (f:Xq o name X.env (eval o X.env)=eval o X.env:=by rfl)
  (g:((VQ cpos<|UJ (e::es) X.env).all (λx=>!x.1)&&(YE cpos<|Xz [] X.env).all (λx=>x.1.isSome)
  &&decide ((e::es).length+([]:List Yt).length+(if([]:List Yt).isEmpty then 0 else 1)<30))=VT:=by rfl)
  (d:(apos.endLine==cpos.line)=VT:=by rfl) (E:UJ (e::es) X.env=(U9,eval e X.env)::UJ es X.env:=by rfl) (c:(VQ cpos<|UJ es X.env).any (·.1)=U9:=by rfl) :
  PE X (.Call (.Attribute o name apos) (e::es) [] cpos) (T1 X.K T r to t):=by
 intro j s i H Q I h;refine wpAny_Call_method_late f g d rfl (cW (G j s i H _ I h) λv y ⟨x,Y,p,m,ty,B⟩=>?_);obtain⟨N,M⟩:=Nk p m ty;refine⟨T,id,C,slot,l,N,M,?_⟩;have n:=L cpos j y i Y _ p B;rw[E]at n ⊢;refine sab (by show(U9||(VQ cpos<|UJ es X.env).any (·.1))=U9;rw[c]<;>rfl)<|YJ ?_;exact cW n λu w ⟨q,U,O,z,A⟩=>J j w i U x q v u Q O m z A
end
noncomputable def TC(X:Cx) (id:String) (r:V->ad->Hp->VK->Prop):Prop :=
 ∀(b:List<|UD×Obj) (s:UH) (a:St) (H:Hp) (x:V) (xs:ad) (v:Ur) (c:List Ur) (Q:VK),Inv X b a H s->bB x v->bo xs c->r x xs H Q ->
  UZ 4#X X.A (call (.builtin id) (v::c)) (EP X b a Q) X.xe s
theorem bo.one:∀{x:V}{a:List Ur},bo [x] a->∃u,a=[u]/\bB x u
 |_,_,.cons r .nil=>⟨_,rfl,r⟩
theorem bo.eraseIdx:∀{xs:ad}{a:List Ur}(i:Nat),bo xs a->bo (xs.eraseIdx i) (a.eraseIdx i)
 |_,_,_,.nil=>.nil
 |_,_,0,.cons _ t=>t
 |_,_,i+1,.cons r t=>.cons r<|bo.eraseIdx i t
theorem bo.rep(h:bo xs a):∀k:Nat,bo (U1 k xs).flatten (U1 k a).flatten
 |0=>.nil
 |k+1=>by
  rw[VG,VG,Xc,Xc];exact bo.append h<|bo.rep h k
theorem xq{a:Type}:∀(l:List a) (i:Nat),(l.eraseIdx i).length<=l.length
 |[],_=>U3 _
 |_::_,0=>sam _
 |_::r,i+1=>Nat.succ_le_succ<|xq r i
theorem xD(its:List Ur):∀(k:Nat) (acc:List Ur),
  List.foldl (λx1 x2=>x1++x2) acc.toArray (U1 k its.toArray)=(acc++(U1 k its).flatten).toArray
 |0,acc=>by simp
 |k+1,acc=>by
  have e:acc.toArray++its.toArray=(acc++its).toArray:=by simp
  have a:(acc++its)++(U1 k its).flatten=acc++(U1 (k+1) its).flatten:=by
   rw[VG,Xc,Xd]
  rw[←a,←xD its k (acc++its),←e,VG,VZ]
section
variable {X:Cx}{π:List (UD×Obj)}{σ:St}{H:Hp}{s:UH}{l b:UD}{xs ys zs:ad}
def Inv.lset{its its':List Ur}(I:Inv X π σ H s)(j:H l=W1 (.lst xs))
  (e:s.heap.get? l=W1 { cls:=.type "list",data:=.seq its.toArray n })(g:f its.toArray=its'.toArray)(c:bo ys its')(a:ys.length<=sizeLine) :
  Inv X π σ (upd H l<|.lst ys) { s with heap:=s.heap.update l<|YS f,toks:=t' }:=by
 have q:=PySem.IsL.update e f;rw[g]at q;refine I.write (x:=l) (e:=l) (by rw[j];exact trivial) (.inl rfl) (λm u i d=>(Wl s.heap (YS f)<|Vw i).trans d) ⟨_,q⟩ ?_;exact⟨a,its',_,c,q⟩
def Inv.lnew(I:Inv X π σ H s)(c:bo ys its)(a:ys.length<=sizeLine) :
  Inv X π σ (upd H 2#s<|.lst ys) { s with heap:=s.heap.push { cls:=.type "list",data:=.seq its.toArray },toks:=t' } :=
 I.laid (λ_ _ q=>UC _ q) (U3 _) ⟨a,its,0,c,Vs _ rfl⟩
def Inv.fresh(I:Inv X π σ H s):H 2#s=Wp:=I.hok.fresh<|U3 _
def Inv.lstM(I:Inv X π σ H s)(a:H l=W1 (.lst xs)):xs.length<=sizeLine/\∃(its:List Ur) (n:Nat),bo xs its/\xs.length=its.length/\s.heap.get? l=W1 { cls:=.type "list",data:=.seq its.toArray n }:=by
 obtain⟨z,its,n,r,e⟩:=I.hok l _ a;exact⟨z,its,n,r,r.length,e⟩
def HX(h:n<=sizeLine):Yv n=U9:=by
 unfold Yv;exact dy 0#2
end
section
variable {X:Cx}
def Kn:V->ad->Hp->VK->Prop:=λx a H Q=>∃l xs y,x=.ref l/\a=[y]/\H l=W1 (.lst xs)/\xs.length<sizeLine/\Q .non (upd H l<|.lst<|xs++[y])
def xp:TC X "list.append" Kn:=by
 intro j s i H x m v o Q I d f h;obtain⟨l,xs,y,rfl,rfl,c,p,q⟩:=h;cases d;obtain⟨u,rfl,g⟩:=f.one;obtain⟨z,a,n,r,t,e⟩:=I.lstM c;refine call_meets F.slot_list_append ⟨_,e,rfl⟩ F.entry_list_append (F.args_list_append_2 _ _) (PySem.list_append l a.toArray n u (by rw[UW];omega)) ⟨e,?_⟩;refine⟨.non,_,I.lset (its':=a++[u]) c e 0#3 (r.append<|.cons g .nil) ?_,rfl,q⟩;rw[Vf,WR];omega
def NL:V->ad->Hp->VK->Prop:=λx a H Q=>∃l xs i k y,x=.ref l/\a=[.int i]/\H l=W1 (.lst xs)/\-(2 ^ 63)<=i/\i<2 ^ 63/\seqIndex? i xs.length=W1 k/\xs[k]?=W1 y/\Q y (upd H l<|.lst<|xs.eraseIdx k)
def Ie:TC X "list.pop" NL:=by
 intro E s C H x G v J Q I f g h;obtain⟨l,xs,i,k,y,rfl,rfl,d,B,A,p,m,q⟩:=h;cases f;obtain⟨u,rfl,j⟩:=g.one;obtain⟨t,rfl⟩:=j;obtain⟨z,a,n,r,o,e⟩:=I.lstM d;obtain⟨w,hw,b⟩:=r.get m;refine call_meets F.slot_list_pop ⟨_,e,rfl⟩ F.entry_list_pop (F.args_list_pop_2 _ _)
  (MeetsSeq.list_pop_at l a.toArray n i t k w (fitsIndex_both B A) (by rw[UW,←o];exact p) (by rw[←Array.getElem?_toList];exact hw) (by rw[UW];omega)) ⟨e,?_⟩
 refine⟨y,_,I.lset (its':=a.eraseIdx k) d e ?_ (r.eraseIdx k) ?_,b,q⟩
 .show a.toArray.eraseIdxIfInBounds k=(a.eraseIdx k).toArray
  rw[List.eraseIdxIfInBounds_toArray]
 .have:=xq xs k
  omega
def Sw:R2:=λx y H Q=>∃l k xs,x=.ref l/\y=.int k/\H l=W1 (.lst xs)/\-(2 ^ 63)<=k/\k<2 ^ 63/\xs.length*k.toNat<=sizeLine /\
 ∀p,H p=Wp->Q (.ref p) (upd H p<|.lst (U1 k.toNat xs).flatten)
def Lh{a:Type}(xs:List a)(k:Nat):(U1 k xs).flatten.length=k*xs.length:=by
 induction k with|zero=>simp|succ k b=>rw[VG,Xc,Vf,b,Nat.succ_mul,Nat.add_comm]
def Oa:ia X (binaryOp .Mult) Sw:=by
 intro M s L H x y v u Q I A w h;obtain⟨l,k,xs,rfl,rfl,C,G,E,o,q⟩:=h;cases A;obtain⟨t,rfl⟩:=w;obtain⟨z,b,n,r,B,e⟩:=I.lstM C;have hlen:b.toArray.size*k.toNat<=sizeLine:=by rw[UW,←B];exact o
 have g:¬b.toArray.size*k.toNat > (2 ^ 63-1) / 8:=by
  have:(sizeLine:Nat)<=(2 ^ 63-1) / 8:=by decide
  omega
 have f:¬(!Builtin.List.listFitsIndex k)=VT:=by
  rw[fitsIndex_both G E];exact Vn
 have c:¬Yv (b.toArray.size*k.toNat)=VT:=by
  rw[HX hlen];exact Vn
 have d:List.foldl (λj i=>j++i) #[] (U1 (if b.toArray.isEmpty=VT then 0 else k.toNat) b.toArray)=(U1 k.toNat b).flatten.toArray:=by
  have J:∀m:Nat,List.foldl (λj i=>j++i) #[] (U1 m b.toArray)=(U1 m b).flatten.toArray:=λm=>by
   have:=xD b m [];rwa[V8]at this
  rw[J];cases b with|nil=>simp|cons a O=>rw[dV 0#3]
 refine wpAny_binaryOp_repeat_ref (T:="list") (U:="int") 0#1 ⟨_,e,rfl⟩ (λp=>typeIs_int p k t) noFill_list_mul F.fills_int_mul F.slot_int_rmul repeat_list F.slot_int_index.lookup
  (call_meets F.slot_int_rmul (typeIs_int s k t) F.entry_int_rmul (F.args_int_rmul_2 _ _) (int___rmul___int_list k t l b.toArray n)
   ⟨e,rfl,⟨_,e,rfl⟩,call_meets F.slot_list_mul ⟨_,e,rfl⟩ F.entry_list_mul (F.args_list_mul_2 _ _) (AutoListH.list___mul___list_int_3 l b.toArray n k t f g c) ⟨e,?_⟩⟩)
 rw[d];exact⟨.ref _,_,I.lnew (t':=s.toks) (r.rep k.toNat) (by rw[Lh,Y4];exact o),rfl,q _ I.fresh⟩
end
end L2
namespace Att
open PySem PySem.W PySem.Calls PyProof.Rows
def rT{h:UQ}:∀(ns:List Int) (vs:List Ur),WellAll P h vs (ns.map WData.int)->IntsAre vs ns:=by
 intro ns
 induction ns with
 |nil=>
  intro vs w;rw[VM]at w;cases w;exact .nil
 |cons n ns c=>
  intro vs w;rw[UB]at w;cases w with
  |cons a b=>
   cases a;exact .cons _ _<|c _ b
def EM{l:OpenLaw}(t:l.most=W1 n){h:UQ} 
  (b:l.row.toRowW.claim.pre args=VT)(g:WellAll P h vals args) :
  ∃a vs ns,vals=[Vg a]/\args=[WData.list<|ns.map WData.int]/\h.get? a=W1 { cls:=.type "list",data:=.seq vs.toArray }/\IntsAre vs ns/\ns.length<=n:=by
 have i:WShape.hasAll [] args [.list .int]=VT:=(pre_splitW b).1;have j:l.pre.holds [] { args:=args }=VT:=(pre_splitW b).2;obtain⟨d,r,rfl,w,v⟩:=hasAllW_cons i;obtain rfl:=hasAllW_nil v;obtain⟨xs,rfl,u⟩:=hasW_list w;obtain⟨ns,rfl⟩:=items_int u;have hlen:ns.length<=n:=by
  unfold OpenLaw.pre at j;have f:(WTm.not<|.lt (.lit<|.int (n:Int))<|.len<|.arg 0).holds [] { args:=[.list<|ns.map .int] }=VT:=by
   have f:=(holds_andW j).1;rwa[t]at f
  have e:=condW_of f<|w_not<|w_lt w_lit<|w_len_list<|w_arg rfl;rw[Ut]at e;refine Nat.le_of_not_lt λq=>?_;have p:(n:Int)<((ns.length:Nat):Int):=by omega
  first
   |(rw[dg p]at e;exact ee e<|by decide)
   |(simp at e;omega)
 cases g with
 |cons o m=>
  cases m;cases o with|list s c=>exact⟨_,_,ns,rfl,rfl,s,rT ns _ c,hlen⟩
def EY(l:OpenLaw)(args:List WData):l.row.toRowW.claim.post args (.bool VT) args=VT :=
 postW_of (r:=l.row.toRowW) (X:=(VT==VT))
  (show WShape.has [] (.bool VT) .bool=VT by first|rfl|decide|simp[WShape.has,WShape.arms,WShape.armsAll])
  (show(WTm.eq .res<|.lit<|.bool VT).value [] { args:=args,res:=some<|.bool VT,after:=args }=W1 (.bool<|VT==VT) from w_eq_bool (w_res rfl) w_lit) rfl
def attach_call{l:OpenLaw} 
  (C:l.most=W1 n)(u:d.params.defaults=[])
  (call:∀(w:VL) (sf b:UH) (i p:UL->Option Ur) (g:UD) (o:Obj) (m j doc:Ur) (a:UD) (vs:List Ur) (ns:List Int),
   Ground q loose [] T w sf i p b.heap->Q w b.heap ->
   b.heap.get? g=W1 o->o.data=.func (docDef d.name d.params d.body d.scope m j doc)->b.heap.CodeRec j d.name->i d.name=W1 (.ref g) ->
   b.heap.get? a=W1 { cls:=.type "list",data:=.seq vs.toArray }->IntsAre vs ns->ns.length<=n->b.gens=#[] ->
   WQ (UY l.prog w) callerA (.call (.ref g) ⟨[.ref a],[]⟩) (λr s'=>r=.ok (.ret<|.bool VT)/\OldK b.heap s'.heap/\s'.os=b.os/\AllBare s'.gens) b) :
  WalkO q loose T Q l.row.toRowW d [] (λf vs=>PySem.call f vs):=by
 intro w sf b i p G Y g o m j doc O kV B J v y t I args vals U c x z s H;obtain rfl:O=.none:=Dflts.none y u;obtain rfl:kV=.none:=Dflts.noKw y;obtain⟨a,vs,ns,rfl,rfl,e,hints,hlen⟩:=EM C c s;refine enter_call<|codeAny_mono (call w sf b i p g o m j doc a vs ns G Y B (fd_plain J) v t e hints hlen I) λr s' A=>?_;obtain⟨rfl,N,M,L⟩:=A;exact⟨.inl ⟨.bool VT,.bool VT,[],rfl,λ_=>rfl,.bool VT,EY l _,λ_=>⟨Yu.nil,λ_ E=>(nomatch E)⟩⟩,N,M,L⟩
end Att
namespace L2
open PySem PySem.Spec PyProof.Rows
theorem wN:∀{vs:List Ur}{ns:List Int},IntsAre vs ns->bo (ns.map V.int) vs
 |_,_,.nil=>.nil
 |_,_,.cons n t h=>.cons ⟨t,rfl⟩<|wN h
def Mn(H:Hp):Prop:=∀b,H b=Wp∨(∃o xs,H b=W1 (.frz o<|.lst xs))∨∃d,H b=W1 (.tbl d)
def TabsStart(K:Uv)(h:UQ):Prop:=∀P d,(P,d)∈iK K->(∃c,W.CodeHd h c P)/\h.get? P=W1 (W.tabObj #[])/\K.lookup P=Wp/\(iK K).lookup P=W1 d
def EG(K:Uv):Hp:=λb=>((iK K).lookup b).map HO.tbl
theorem qV:∀{l:List<|UD×Array Ur},l.lookup b=W1 d->(b,d)∈l
 |[],e=>by cases e
 |(k,v)::r,e=>by
  rw[VF]at e;cases h:(b==k) with
  |true=>
   rw[h]at e;have a:=beq_iff_eq.mp h;simp only[WA]at e;subst a;subst e;exact .head _
  |false=>rw[h]at e;exact .tail _<|qV e
def wU{K:Uv}(e:EG K b=W1 u):∃d,u=.tbl d/\(b,d)∈iK K:=by
 unfold EG at e;cases q:(iK K).lookup b with|none=>rw[q]at e;cases e|some d=>rw[q]at e;cases e;exact⟨d,rfl,qV q⟩
def Ir{K:Uv}{k:Nat} 
  (KX:K.In f.heap)(t:TabsStart K f.heap)(N:f.heap.Ns UU L)(E:f.heap.Ns builtinsNs mb)(a0:∀x:UL,x≠"__name__"->mb x=bootBuiltins x)(O:f.heap.NoLimit)(ap:∃mm,f.heap.Ns W2 mm)
  (as:∃(b:UD) (ob:Obj),L "__builtins__"=W1 (.ref b)/\b≠builtinsNs/\f.heap.get? b=W1 ob/\ob.cls=.type "module"/\ob.dict=W1 builtinsNs/\ob.data=.plain)(hg:f.gens=#[])
  (G:f.heap.get? a=W1 { cls:=.type "list",data:=.seq vs.toArray })(hi:IntsAre vs ns)(hl:ns.length<=sizeLine)(hr:cZ k callerA)
  (F:∀base:UQ,K.In base->base.Ns UU L->gi P w K L base CX k fa fd [x] sp)(A:∀(s:UH) (u:Ur),BindsTo s fd ⟨[u],[]⟩ [(x,u)])
  (an:∀H:Hp,Mn H->gH K H a (ns.map V.int)->sp [.ref a] H (λv _=>v=.bl VT) λ_ _ _=>False)
  (a2:∀H e s',CX [] H f (λ_ _ _=>False) e s'->False) :
  WQ (UY P w) callerA (.call (.ref fa) ⟨[.ref a],[]⟩) (λr s'=>r=.ok (.ret<|.bool VT)/\OldK f.heap s'.heap/\s'.os=f.os/\AllBare s'.gens) f:=by
 have rv:=wN hi;have M:=hi.length;have a1:∀j d,(j,d)∈iK K->j≠a:=λj d g z=>by
  have e:=(t j d g).2.1;rw[z,G]at e;cases e
 have core:∀H:Hp,(∀b u,H b=W1 u->(b=a/\u=.frz { cls:=.type "list",data:=.seq vs.toArray } (.lst<|ns.map V.int)/\K.lookup a=Wp)∨∃d,u=.tbl d/\(b,d)∈iK K)->Es K H->gH K H a (ns.map V.int) ->
   WQ (UY P w) callerA (.call (.ref fa) ⟨[.ref a],[]⟩) (λr s'=>r=.ok (.ret<|.bool VT)/\OldK f.heap s'.heap/\s'.os=f.os/\AllBare s'.gens) f:=by
  intro H I hT hS;have hO:Mn H:=λb=>by
   cases q:H b with
   |none=>exact .inl rfl
   |some u=>
    rcases I b u q with⟨_,rfl,_⟩|⟨d,rfl,_⟩
    .exact .inr<|.inl ⟨_,_,rfl⟩
    .exact .inr<|.inr ⟨d,rfl⟩
  have hok:gk P w H f.heap:=λb u q=>by
   rcases I b u q with⟨rfl,rfl,_⟩|⟨d,rfl,g⟩
   .exact⟨G,by rw[Ut];exact hl,vs,_,rv,G⟩
   .exact XI ⟨λz=>n6 (more:=#[]) g (by rw[Array.append_empty];exact z),UE (t b d g).2.1⟩
  have ah:∀{b:UD}{o:Obj}{T:Array ZV}{U:Nat},f.heap.get? b=W1 o->o.data=.dict T U->H b=Wp:=λ{b o T U} e d=>by
   cases q:H b with
   |none=>rfl
   |some u=>
    rcases I b u q with⟨rfl,_,_⟩|⟨C,_,g⟩
    .rw[G]at e;cases e
     have C:Data.seq vs.toArray _=Data.dict T U:=d;cases C
    .have B:=(t b C g).2.1
     rw[e]at B;cases B;cases d
  have ab:∀{b:UD}{o:Obj},f.heap.get? b=W1 o->o.data=.plain->H b=Wp:=λ{b o} e d=>by
   cases q:H b with
   |none=>rfl
   |some u=>
    rcases I b u q with⟨rfl,_,_⟩|⟨C,_,g⟩
    .rw[G]at e;cases e;cases d
    .have B:=(t b C g).2.1
     rw[e]at B;cases B;cases d
  have i:∀{b:UD}{m:UL->Option Ur},f.heap.Ns b m->(AU f.heap H).Ns b m:=λ{b m} ⟨o,T,U,e,d,r⟩=>⟨o,T,U,uz e<|ah e d,d,r⟩
  have Q:K.In (AU f.heap H):=λb o e=>uz (KX b o e) (by
   cases q:H b with
   |none=>rfl
   |some u=>
    rcases I b u q with⟨rfl,_,n⟩|⟨C,_,g⟩
    .rw[n]at e;cases e
    .rw[(t b C g).2.2.1]at e;cases e)
  have hM:Mod K L (AU f.heap H):=⟨Q,i N,⟨mb,i E,a0⟩,let ⟨mc,h1,h2⟩:=O;⟨mc,i h1,h2⟩,let ⟨mm,h1⟩:=ap;⟨mm,i h1⟩,let ⟨b,ob,b1,b2,b3,b4,b5,b6⟩:=as;⟨b,ob,b1,b2,uz b3<|ab b3 b6,b4,b5,b6⟩⟩
  have e0:rY P w K L (AU f.heap H) callerA [] f H:=⟨rfl,hM,λb o e=>K3 e,Y5 (Fu _ _),trivial,λb E=>ee (show b∈([]:List UD) from E) 0#3,hok,.of_eq hg,hT⟩
  refine codeAny_mono ((F _ Q (i N)).run callerA [] f H ⟨[.ref a],[]⟩ [.ref a] [.ref a] _ _ hr e0 (A f (.ref a)) (.cons rfl .nil) (an H hO hS)) λr s' h=>?_;cases r with
  |error e=>exact(a2 H e s' h).elim
  |ok fl=>
   cases fl with
   |next|brk|cont=>exact Vz h
   |ret u=>
    obtain⟨v,H',os,bare,un,p,r',q⟩:=h;have q':v=.bl VT:=q;subst q';obtain rfl:u=Wb VT:=r';have all:∀b o,f.heap.get? b=W1 o->asItWas f.heap s'.heap b o:=λb o e=>by
     cases q:H b with
     |none=>exact .inl (un.keep b o e q (by intro z;exact ee (show b∈([]:List UD) from z)<|by simp)<|by simp)
     |some u=>
      rcases I b u q with⟨rfl,rfl,_⟩|⟨d,rfl,g⟩
      .have z2:=un.frzs b _ _ q
       obtain⟨Y,_⟩:=hok b _ q;obtain⟨B,_⟩:=p b _ z2;rw[e]at Y;cases Y;exact .inl B
      .obtain⟨⟨c,hc⟩,Y,_⟩:=t b d g
       rw[e]at Y;cases Y;obtain⟨more,z2⟩:=un.tbls b d q;have J:TabOk H' s'.heap b (d++more):=p b _ z2;rcases J with⟨z4,oc,y,q3,t3,t4,m3,e5,e6,_⟩|⟨_,J|⟨l,c2,qq,t1,t2,m2,a3,c',_,J,_⟩⟩
       .exact ee z4<|n6 g
       .exact .inl J
       .refine .inr (.inl ⟨?_,rfl,#[],#[l,c2,.ref c'],rfl,by rw[J];simp⟩)
        obtain⟨⟨o',y,y1,y2,y3,y4⟩,_⟩:=hc.tab e;exact⟨c,o',y,y1,y2,y3,y4⟩
    refine⟨rfl,⟨all,λb o e=>?_⟩,os,bare⟩;rcases all b o e with z|⟨_,_,y,more,_,z⟩|⟨_,_,⟨o',_,_,z,_⟩,_⟩
    .exact⟨_,z⟩
    .exact⟨_,z⟩
    .exact⟨_,z⟩
 cases hk:K.lookup a with
 |some o=>
  have e:=KX a o hk;rw[G]at e;cases e;exact core (EG K) (λb u q=>.inr<|wU q) (λj d g=>⟨#[],by unfold EG;rw[(t j d g).2.2.2];simp⟩) (.inr ⟨_,vs.toArray,_,hk,rfl,rfl,rfl,by rw[UW,M];exact hl,by simpa using rv⟩)
 |none=>
  refine core (upd (EG K) a<|.frz { cls:=.type "list",data:=.seq vs.toArray }<|.lst<|ns.map V.int) (λb u q=>?_) (λj d g=>⟨#[],?_⟩)<|.inl<|.inr ⟨{ cls:=.type "list",data:=.seq vs.toArray },aG⟩
  .by_cases E:b=a
   .subst E
    rw[aG]at q;cases q;exact .inl ⟨rfl,rfl,hk⟩
   .rw[aA E]at q
    exact .inr<|wU q
  .rw[aA (a1 j d g)]
   unfold EG;rw[(t j d g).2.2.2];simp
abbrev KOf{K:Uv}{h:UQ}(_:K.In h):Uv:=K
def J5{l:W.OpenLaw}{n k:Nat}{K:Params->Uv}{CX:VL->zK}{sp:VL->Sp} 
  (hi:importsNone q=VT)(J:l.most=W1 n)(p:n<=sizeLine)(t:d.params.defaults=[])(I:cZ k callerA)
  (O:∀(w:VL) (h:UQ),A w h->(K w.params).In h)(Q:∀(w:VL) (h:UQ),A w h->TabsStart (K w.params) h)
  (F:∀(w:VL) (c:UL->Option Ur) (j:UD) (h:UQ),(K w.params).In h->h.Ns UU c->c d.name=W1 (.ref j) ->
   ∃z:VX,(∀(s:UH) (u:Ur),BindsTo s z ⟨[u],[]⟩ [(x,u)]) /\
    ∀base:UQ,(K w.params).In base->base.Ns UU c->gi l.prog w (K w.params) c base (CX w) k j z [x] (sp w))
  (m:∀(w:VL) (H:Hp) (a:UD) (ns:List Int),ns.length<=n->Mn H->gH (K w.params) H a (ns.map V.int)->sp w [.ref a] H (λv _=>v=.bl VT) λ_ _ _=>False)
  (y:∀(w:VL) (H:Hp) (s:UH) (e:Ur) (s':UH),CX w [] H s (λ_ _ _=>False) e s'->False) :
  W.WalkO q loose XP A l.row.toRowW d [] (λf vs=>PySem.call f vs):=by
 refine Att.attach_call J t λw sf C c mb j o pm cd doc a vs ns G Y ho hd M r i hints hlen L=>?_;have B:=O w _ Y;obtain⟨z,N,hF⟩:=F w c j _ B G.T.g r;exact Ir B (Q w _ Y) G.T.g G.T.b G.T.builtins G.T.nolimit (let ⟨E,h1,_⟩:=(G.T.seer hi).mods;⟨E,h1⟩) G.T.bmain L i hints (UI hlen p) I hF N (λH hO U=>m w H a ns hlen hO U) λH e s'=>y w H C e s'
def walk_ofK{l:W.OpenLaw}{n k:Nat}{K:Params->Uv}{sp:Uv->Sp} 
  (hi:importsNone q=VT)(t:l.most=W1 n)(g:n<=sizeLine)(i:d.params.defaults=[])(r:cZ k callerA)
  (y:∀(w:VL) (h:UQ),p w h->(K w.params).In h)(z:∀(w:VL) (h:UQ),p w h->TabsStart (K w.params) h)
  (F:∀(w:VL) (b:UL->Option Ur) (o:UD) (h:UQ),(K w.params).In h->h.Ns UU b->b d.name=W1 (.ref o) ->
   ∃m:VX,(∀(s:UH) (u:Ur),BindsTo s m ⟨[u],[]⟩ [(x,u)]) /\
    ∀base:UQ,(K w.params).In base->base.Ns UU b->gi l.prog w (K w.params) b base CX k o m [x] (sp<|K w.params))
  (c:∀(K:Uv) (H:Hp) (a:UD) (ns:List Int),ns.length<=n->Mn H->gH K H a (ns.map V.int)->sp K [.ref a] H (λv _=>v=.bl VT) λ_ _ _=>False)
  (j:∀(H:Hp) (s:UH) (e:Ur) (s':UH),CX [] H s (λ_ _ _=>False) e s'->False) :
  W.WalkO q loose E p l.row.toRowW d [] (λf vs=>PySem.call f vs) :=
 J5 (K:=K) (CX:=λ_=>CX) (sp:=λw=>sp (K w.params)) hi t g i r y z F (λw H a ns C B A=>c (K w.params) H a ns C B A) λ_ H s e s'=>j H s e s'
def yZ(s:WE)(j:Nat):WE:=match s with
 |.ClassDef _ _ _ body _ _ _ _ _ _ _=>body.getD j<|.Pass ⟨0,0,0,0⟩
 |_=>.Pass ⟨0,0,0,0⟩
def defArgs(s:WE):Arguments:=match s with
 |.FunctionDef _ a _ _ _ _ _ _ _ _=>a
 |_=>{ posonlyargs:=[],args:=[],vararg:=none,kwonlyargs:=[],kw_defaults:=[],kwarg:=none,defaults:=[] }
def defBody(s:WE):List WE:=match s with
 |.FunctionDef _ _ b _ _ _ _ _ _ _=>b
 |_=>[]
def defScope(s:WE):X3:=match s with
 |.FunctionDef _ _ _ _ _ _ sc _ _ _=>sc
 |_=>{ kind:=.function,names:=[],isGenerator:=false,isCoroutine:=false }
abbrev CX0:zK:=λ_ _ _ _ _ _=>False
abbrev E0:XK:=λ_ _ _=>False
def Aj:gR CX0 X E0:=λ_ _ _ _ _ _ _ h=>h.elim
structure BU (K:Uv) (x qual:UL) (st:WE) (f:UD) (fd:VX):Prop where
 ex:∃(oc:Ur) (od:Option UD) (kV doc pm:Ur) (an:Option UD) (cdv ct:Ur) (osl:Array (Option Ur)),
  fd=Xn x qual (defArgs st) (defBody st) (defScope st) .none kV doc pm an cdv ct/\K.lookup f=W1 ⟨oc,od,.func fd,osl⟩/\Zp K cdv qual=VT
 kp:X0 K (.ref f)=VT
section
variable {P:Vv}{w:VL}{K:Uv}{mg:UL->Option Ur}{base:UQ}
def BU.ok{st:WE}{N ps:bv}{k:Nat}(F:BU K x qual st f i)(S:eJ N ps<|defScope st)(len:∀vs H Q E,sp vs H Q E->vs.length=ps.length)
  (b:∀(a:Ur) (A:VD) (outer:List Env) (s:UH) (H:Hp) (vs:ad) (Q:VK) (E:XK),cZ k (A.deeper<|envOfC qual (defScope st) 2#s f a)->sp vs H Q E ->
   ∃t,zE (gE CX0 P w K mg base N qual (defScope st) f a A outer s H E).nox (defBody st) t/\t { nx:=λ_ H'=>Q .non H',rt:=Q } (start N vs) H):gi P w K mg base CX0 (k+1) f i ps sp:=by
 obtain⟨m,l,kV,doc,j,n,a,ct,e,rfl,lk,d⟩:=F.ex;refine II lk d S len λA outer s H vs Q E g c=>?_;obtain⟨t,h,q⟩:=b a A outer s H vs Q E g c;exact⟨t,h.nox,q⟩
def BU.binds{st:WE}{ps:bv}(F:BU K x qual st f i)
  (h:∀(kV doc c:Ur) (d:Option UD) (a ct:Ur) (b:List Ur),b.length=ps.length->bindArgs (Xn x qual (defArgs st) (defBody st) (defScope st) .none kV doc c d a ct) ⟨b,[]⟩=pure (ps.zip b)):iC K i ps []:=by
 obtain⟨l,j,kV,doc,c,d,a,ct,e,rfl,lk,g⟩:=F.ex;exact .all<|h kV doc c d a ct
def uC{st:WE}{kV doc b a ct:Ur}(l:K.lookup f=W1 ⟨i,g,.func<|Xn x qual (defArgs st) (defBody st) (defScope st) .none kV doc b e a ct,d⟩)
  (c:Zp K a qual=VT)(k:X0 K (.ref f)=VT):BU K x qual st f (Xn x qual (defArgs st) (defBody st) (defScope st) .none kV doc b e a ct):=⟨⟨i,g,kV,doc,b,e,a,ct,d,rfl,l,c⟩,k⟩
end
def aE(H H':Hp):Prop:=∀b o,H b=W1 o->H' b=W1 o
def aE.refl(H:Hp):aE H H:=λ_ _ h=>h
def aE.trans(a:aE H H1)(b:aE H1 d):aE H d:=λc o h=>b c o<|a c o h
def aE.free(e:aE H H')(h:H' l=Option.none):H l=Option.none:=by
 cases q:H l with
 |none=>rfl
 |some o=>
  rw[e l o q]at h;cases h
end L2
namespace DL
open PySem PySem.Spec PySem.Calls PySem.W PyProof.Rows Builtin Builtin.ObjectAttr Builtin.Getset_descriptor
section
variable {prog:Vv}{w:VL}{A:VD}{E:Ur->UH->Prop}{h:UQ}{g:Array GenState}{d:Drawn}{t:Nat}{os:OsState}{a C:UD}{o:Obj}{K:Frag}
structure wH (K:Frag) (C:UD):Prop where
 cls:findIn K (.ref C) "__class__"=W1 (W1 (.builtin "object.__class__"))
 ga:findIn K (.ref C) "__getattribute__"=W1 (W1 (.builtin "BaseException.__getattribute__"))
 gt:findIn K (.ref C) "__getattr__"=W1 Wp
 ob:mroIn K C (.type "object")=W1 VT
 be:subIn K (.ref C) (.type "BaseException")=W1 VT
def Nd(X:K.In h)(Z:wH K C)(b:h.get? a=W1 o)(e:o.cls=.ref C)(c:R (.ok<|.ret<|.ref C) ⟨h,g,d,t,os⟩) :
  WQ (UY prog w) A (.call (.builtin "getset_descriptor.__get__") ⟨[.builtin "object.__class__",.ref a,f],[]⟩) R ⟨h,g,d,t,os⟩:=by
 have j:Looks (UY prog w) h (typeOf<|.ref a) (.ref C):=e▸(Looks.ld b).andThen .now;have i:=looks_mroIn (M:=UY prog w) X Z.ob;refine codeAny_call_builtin KF.slot_gs.plain KF.entry_gs<|KF.slot_gs.check _ _ _ _ _ _ _ _ KF.type_class (KF.args_gs _ _ _) ?_;unfold Builtin.«getset_descriptor.__get__» descrGet;rw[dga_obj];refine UA<|U2 ?_;unfold descrGetter descrCheckInstance descrNameAndClass isInstance;simp only[KF.owner_class]
 repeat lk
 refine⟨Yl _ (by decide +kernel),codeAny_builtin KF.entry_class ?_⟩;unfold Builtin.«object.__class__» shownTypeOf
 repeat lk
 exact c
def Gk(X:K.In h)(Z:wH K C)(e:h.get? a=W1 o)(j:o.cls=.ref C)(f:Q () ⟨h,g,d,t,os⟩):UZ M A (checkBuiltinCall "BaseException.__getattribute__" ⟨[.ref a,c],[]⟩) Q E ⟨h,g,d,t,os⟩:=by
 have i:builtinKind "BaseException.__getattribute__"=W1 .slot:=by decide +kernel
 have b:splitId "BaseException.__getattribute__"=W1 ("BaseException","__getattribute__"):=by decide +kernel
 have m:=F.args_bexc_ga (.ref a) c;have l:Looks M h (isSubtype (.ref C)<|.type "BaseException") VT:=looks_subIn X Z.be;simp only[checkBuiltinCall,i,b];refine UA ?_
 .unfold isInstance
  repeat (first|(with_reducible refine Wz e ?_;rw[j])|(with_reducible refine l.at ?_)|wp_step)
  exact f
def Gj(X:K.In h)(Z:wH K C)(b:h.get? a=W1 o)(c:o.cls=.ref C)(j:Q (.done<|.ret<|.ref C) ⟨h,g,d,t,os⟩) :
  UZ (UY prog w) A (Builtin.«object.__getattribute__» ⟨[.ref a,.str "__class__" i],[]⟩) Q E ⟨h,g,d,t,os⟩:=by
 have e:(⟨h,g,d,t,os⟩:UH).TypeIs (.builtin "object.__class__") "getset_descriptor":=W9;have n:=W9;have m:=YN.lookup;have l:=F.slot_gs_set.lookup;have f:Looks (UY prog w) h (XU (.ref C) "__class__") (W1<|.builtin "object.__class__"):=looks_findIn X Z.cls
 repeat (any_goals (first|assumption|(with_reducible refine Wz b ?_;rw[c])|(with_reducible refine f.at ?_)|wp_step))
 refine Nd X Z b c ?_
 repeat (any_goals (first|assumption|wp_step))
def JY(X:K.In h)(Z:wH K C)(b:h.get? a=W1 o)(c:o.cls=.ref C)(e:R (.ok<|.ret<|.ref C) ⟨h,g,d,t,os⟩) :
  WQ (UY prog w) A (.call (.builtin "BaseException.__getattribute__") ⟨[.ref a,.str "__class__" f],[]⟩) R ⟨h,g,d,t,os⟩ :=
 codeAny_call_builtin F.attr_ValueError.ga.plain F.entry_bexc_ga (Gk X Z b c<|Gj X Z b c e)
def PF(X:K.In h)(Z:wH K C)(c:h.get? a=W1 o)(e:o.cls=.ref C)(l:Q (.ref C) ⟨h,g,d,t,os⟩) :
  UZ (UY prog w) A (getAttrBy (.ref a) (.str "__class__" j) U9) Q E ⟨h,g,d,t,os⟩:=by
 have m:=F.attr_ValueError.ga.bind<|.ref a;have b:(YM "BaseException.__getattribute__"==YM "object.__getattribute__")=U9:=by decide +kernel
 have f:(onTheHeap (Vg C)&&YM "BaseException.__getattribute__"==YM "object.__getattribute__")=U9:=by rw[b];rfl
 have i:Looks (UY prog w) h (XU (.ref C) "__getattribute__") (W1<|.builtin "BaseException.__getattribute__"):=looks_findIn X Z.ga;have L2:Looks (UY prog w) h (XU (.ref C) "__getattr__") Wp:=looks_findIn X Z.gt
 repeat (any_goals (first|assumption|(with_reducible refine Wz c ?_;rw[e])|(with_reducible refine i.at ?_)|(with_reducible refine L2.at ?_)|wp_step))
 refine JY X Z c e ?_
 repeat (any_goals (first|assumption|wp_step))
def JZ(X:K.In h)(Z:wH K C)(b:h.get? a=W1 o)(c:o.cls=.ref C)(e:Q (W1<|.ref C) ⟨h,g,d,t+1,os⟩):UZ (UY prog w) A (getAttr? (.ref a) "__class__") Q E ⟨h,g,d,t,os⟩:=by
 unfold getAttr? getAttrBy?
 repeat (any_goals (first|assumption|with_reducible apply PF X Z b c|wp_step))
end
def BY(a C:UD)(c:Option UD):UQ->Prop:=λh=>∃o b,h.get? a=W1 o/\o.cls=.ref C/\o.data=.fields b/\o.dict=c
def AH{K:Frag}{a C:UD}{dc:Option UD}(Z:wH K C)(hC:(clsIn K C).isSome=VT):KitX K (.ref a) (.ref C) (BY a C dc) where
 ty:=λ_ _ _ ⟨o,_,h1,h2,_⟩=>h2▸(Looks.ld h1).andThen .now
 it:=λ_ _ X _=>by
  obtain⟨cd,hcD⟩:=Xr.mp hC;unfold clsIn at hcD;split at hcD
  .rename_i c' d' cd' sl' ho
   intro A' Q' E' s' k q;unfold isType loadHead;exact UA<|wpAny_loadPart (k _ _<|X _ _ ho)<|U2 q
  .cases hcD
 ne:=λh tp dd its n sl X htp=>by
  obtain⟨cd,hcD⟩:=Xr.mp hC;refine Bool.eq_false_iff.mpr λq=>?_;have e:C=tp:=Vg.inj<|beq_iff_eq.mp q;subst e;unfold clsIn at hcD;split at hcD
  .rename_i c' d' cd' sl' ho
   have z:=(X _ _ ho).symm.trans htp;cases z
  .cases hcD
 ca:=λ{_ _ _ _ _ s} X ⟨o,_,h1,h2,_⟩ k=>by
  obtain⟨h,g,d,t,os⟩:=s;exact JZ X Z h1 h2 k
def wH.isCls{K:Frag}(Z:wH K C):(clsIn K C).isSome=VT:=by
 obtain⟨c,a,b⟩:=ZS.mp Z.ob;rw[a];rfl
def iI:List String:=["NoneType","bool","int","str","tuple","list","dict"]
structure XC (K:Frag) (x:UL) (C:UD):Prop where
 ns:nsIn K UU x=W1 (W1 (.ref C))
 ek:wH K C
 bt:∀T∈iI,kitOne K (.ref C) (.type T)=W1 U9
end DL
namespace DL
open PySem PySem.Spec PyProof.Rows L2
def vq(o:Obj)(f:Array Ur->Array Ur):(o.mapFields f).dict=o.dict:=by unfold Obj.mapFields;split<;>rfl
def nh(h:UQ)(e:UD)(b:Option UD):Prop:=∃o,h.get? e=W1 o/\o.dict=b/\(b≠Wp->∃a,o.data=.fields a/\a[2]?=W1 .none)
section
variable {M:Model}{A:VD}{E:Ur->UH->Prop}{s:UH}{base:UQ}{env:VI}{outer l:List VI}{L e:UD}{cls a0 fl:Ur}{dc:Option UD}{Q:Unit->UH->Prop}
def A7(t:A.frames=W1 (env::outer))(n:s.heap.FunFrames base (env::outer))(U:env.frame=W1 L)(v:s.heap.get? e=W1 i)(O:base.StaysIn s.heap)(u:base.get? e=Wp)(p:i.data=.fields vs)(H:1<vs.size)(h0:vs[0]?=W1 a0)(T:i.dict≠Wp->vs[2]?=W1 .none)
  (h:∀h',saq base (env::outer) e i.cls a0 (rawInt L) s.heap h'->nh h' e i.dict->Q () { s with heap:=h' }) :
  UZ M A (do
   let a ←frameOf env
   let pl ←entryPlaceOf L b0
   let b ←sat head a .none (rawInt L) .none pl
   setField (.ref e) 1 b) Q E s:=by
 have J:e∉(env::outer).filterMap (·.frame):=λr=>by
  obtain⟨_,o,I,q⟩:=n.mem r;rw[v]at I;cases I;exact q vs p
 refine UA<|wpAny_frameOf_fun t n U λg ⟨_,same,slots⟩=>UA<|wpAny_entryPlaceOf λpl j=>?_;have w:g.get? e=W1 i:=(same e J).trans v;have up:∀(N:Obj) (f:Obj->Obj) (b:UD) (o:Obj),b≠e->g.get? b=W1 o->((g.push N).update e f).get? b=W1 o:=λN f b o Y q=>(Wl _ _<|Vw Y).trans<|UC _ q;have C:∀b o,s.heap.get? b=W1 o->(∀vs,o.data≠.fields vs)->b≠e:=λb o q z c=>by subst c;rw[v]at q;cases q;exact z vs p
 have G:base.StaysIn g:=λb o q=>(same b λr=>by rw[(n.mem r).1]at q;cases q).trans<|O b o q;unfold sat newFields;refine UA<|wpAny_newObj_type ?_<|j.sizeOk5 _ _ _ _ _;have y:=YT p (·.setIfInBounds 1 (Vg g.objs.size));have m:g.objs.size≠e:=Z2<|UT w;have d:∀N:Obj,((g.push N).update e (Obj.mapFields (·.setIfInBounds 1 (Vg g.objs.size)))).get? e=W1 (i.mapFields (·.setIfInBounds 1 (Vg g.objs.size))):=λN=>Wo _ (UC _ w)<|sad y;refine wpAny_setField (UC _ w) p H (h _ ⟨λb o q=>up _ _ b o (λc=>by subst c;rw[u]at q;cases q) (G b o q),n.of_keeps λb o q z=>?_,?_,λb o q z=>?_⟩ ⟨_,d _,vq _ _,λz=>⟨_,y,by rw[Za 0#1];exact T z⟩⟩)
 .obtain⟨B,x⟩:=slots b o q
  exact⟨_,up _ _ b _ (C b o q z) x,rfl⟩
 .refine⟨_,_,g.objs.size,_,_,d _,⟨Obj.cls_mapFields _ _,?_⟩,y,?_,G.fresh,m,(Wl _ _<|Vw m).trans<|Vs g rfl,rfl,?_⟩
  .rw[Za 0#1];exact h0
  .simp[H]
  .first|(simp;done)|(rcases j with rfl|⟨_,_,_,_,_,_,_,rfl⟩<;>simp)
 .obtain⟨B,x⟩:=slots b o q
  exact⟨B,up _ _ b _ (C b o q z) x⟩
def IL(b:A.frames=W1 (env::outer))(n:s.heap.FunFrames base (env::outer))(d:env.frame=W1 L)(f:s.heap.get? e=W1 a)(j:base.StaysIn s.heap)(c:base.get? e=Wp)(g:a.data=.fields vs)(i:vs[1]?=W1 .none)(o:vs[0]?=W1 a0)(m:a.dict≠Wp->vs[2]?=W1 .none)
  (h:∀h',saq base (env::outer) e a.cls a0 (rawInt L) s.heap h'->nh h' e a.dict->Q () { s with heap:=h' }):UZ M A (noteFrame (.ref e) env) Q E s:=by
 unfold noteFrame;simp only[d];refine UA<|wpAny_field f g i ?_;rw[dV 0#1];exact A7 b n d f j c g (Xh.mp i).1 o m h
def D8(j:A.frames=W1 (env::outer))(hl:s.heap.FunFrames base (env::outer))(v:env.frame=W1 L)(ht:s.heap.TracedW base e cls a0)(hc:nh s.heap e dc)(U:base.StaysIn s.heap)(m:base.get? e=Wp)
  (h:∀h',saq base (env::outer) e cls a0 (rawInt L) s.heap h'->nh h' e dc->Q () { s with heap:=h' }):UZ M A (noteFrame (.ref e) env) Q E s:=by
 obtain⟨O,d,T,oT,N,n,⟨rfl,h0⟩,p,x,i,r,t,dT,w⟩:=ht;obtain⟨o',q,rfl,cx⟩:=hc;rw[n]at q;cases q;have Y:O.dict≠Wp->d[2]?=W1 .none:=λz=>by
  obtain⟨J,y,g⟩:=cx z;rw[p]at y;cases y;exact g
 have a:∀(f:Obj->Obj) (b:UD),b≠T->(s.heap.update T f).get? b=s.heap.get? b:=λf b hb=>Wl _ _<|Vw hb;have u:∀b o,s.heap.get? b=W1 o->(∀d,o.data≠.fields d)->b≠T:=λb o q z c=>by subst c;rw[t]at q;cases q;exact z N dT
 unfold noteFrame;simp only[v];refine UA<|wpAny_field n p x ?_;rw[dh 0#3];refine UA<|wpAny_field t dT w ?_;rw[dV (by simp[rawInt])];refine UA<|wpAny_setField t dT (Xh.mp w).1 ?_;refine A7 j (hl.of_keeps λb o q z=>⟨o,(a _ b (u b o q z)).trans q,rfl⟩) v ((a _ e (Vw r)).trans n) (λb o q=>(a _ b λc=>by subst c;rw[i]at q;cases q).trans (U b o q)) m p (Xh.mp x).1 h0 Y λh' ⟨I,H,G,C⟩ B=>h h' ⟨I,H,G,λb o q z=>C b o ((a _ b<|u b o q z).trans q) z⟩ B
def mR(y:base.StaysIn s.heap)(C:s.heap.FunFrames base l)(B:s.heap.TracedAtW base e cls a0 fl)(G:nh s.heap e dc)
  (h:∀h',base.StaysIn h'->h'.FunFrames base l->h'.TracedW base e cls a0->(∀b o,s.heap.get? b=W1 o->(∀vs,o.data≠.fields vs)->h'.get? b=W1 o)->nh h' e dc->Q () { s with heap:=h' }):UZ M A (setFlight (.ref e) Wp) Q E s:=by
 obtain⟨w,vs,T,N,n,r,i,t,u,g,d,j,dT,I⟩:=B;have m:3<n.size:=(Xh.mp I).1;have a:∀(f:Obj->Obj) (b:UD),b≠T->(s.heap.update T f).get? b=s.heap.get? b:=λf b H=>Wl _ _<|Vw H;have p:∀b o,s.heap.get? b=W1 o->(∀vs,o.data≠.fields vs)->b≠T:=λb o q z c=>by subst c;rw[j]at q;cases q;exact z n dT
 unfold setFlight;refine UA<|wpAny_field r t u ?_;rw[dh 0#3];obtain⟨x,v,rfl,J⟩:=G;refine wpAny_setField j dT m (h _ (λb o q=>(a _ b λc=>by subst c;rw[g]at q;cases q).trans<|y b o q) (C.of_keeps λb o q z=>⟨o,(a _ b<|p b o q z).trans q,rfl⟩) ?_ (λb o q z=>(a _ b<|p b o q z).trans q) ⟨x,(a _ e<|Vw d).trans v,rfl,J⟩);exact⟨w,vs,T,_,_,(a _ e<|Vw d).trans r,i,t,u,g,d,Wo _ j<|sad<|YT dT _,YT dT _,by simp[m]⟩
def RB(h:UQ)(e:UD)(ox:Option UD):Prop:=∃dc,nh h e dc/\(ox=Wp∨ox=dc)
def CU(d:A.frames=W1 (env::outer))(u:s.heap.FunFrames base (env::outer))(v:env.frame=W1 L)(w:s.heap.get? e=W1 c)(m:base.StaysIn s.heap)(a:base.get? e=Wp)(y:c.data=.fields vs)(B:vs[1]?=W1 .none)(C:vs[0]?=W1 a0)(t:c.dict≠Wp->vs[2]?=W1 .none)
  (h:∀h',W5 base outer e c.cls a0 h'->s.heap.UpToSlots h'->nh h' e c.dict->Q () { s with heap:=h' }):UZ M A (leaving env<|.ref e) Q E s:=by
 unfold leaving;refine UA<|IL d u v w m a y B C t λg ⟨r,k2,p,n⟩ H=>?_;refine mR (s:={ s with heap:=g }) r k2 p H λh' m1 ⟨_,_,m2⟩ j i G=>h h' ⟨m1,a,m2,j⟩ (λb o q z=>?_) G;obtain⟨f,x⟩:=n b o q z;exact⟨f,i b _ x z⟩
def FC(a:A.frames=W1 (env::outer))(r:env.frame=W1 L)(c:W5 base (env::outer) e cls a0 s.heap)(t:nh s.heap e dc)
  (h:∀h',W5 base outer e cls a0 h'->s.heap.UpToSlots h'->nh h' e dc->Q () { s with heap:=h' }):UZ M A (leaving env<|.ref e) Q E s:=by
 obtain⟨w,d,v,u⟩:=c;unfold leaving;refine UA<|D8 a v r u t w d λg ⟨p,k2,n,m⟩ B=>?_;refine mR (s:={ s with heap:=g }) p k2 n B λh' m1 ⟨_,_,m2⟩ j i y=>h h' ⟨m1,d,m2,j⟩ (λb o q z=>?_) y;obtain⟨f,x⟩:=m b o q z;exact⟨f,i b _ x z⟩
def IM(a:A.frames=W1 (env::outer))(j:env.frame=W1 L)(b:W5 base (env::outer) e cls a0 s.heap)(m:nh s.heap e dc)
  (h:∀h',Heap.HeldW base (env::outer) e cls a0 L h'->s.heap.UpToSlots h'->nh h' e dc->Q () { s with heap:=h' }):UZ M A (noteFrame (.ref e) env) Q E s:=by
 obtain⟨p,c,o,n⟩:=b;exact D8 a o j n m p c λg ⟨i,k2,f,d⟩ q=>h g ⟨i,c,k2,f⟩ d q
def IP(g:Heap.HeldW base l e cls a0 L s.heap)(i:nh s.heap e dc)(h:∀h',W5 base l e cls a0 h'->s.heap.UpToSlots h'->nh h' e dc->Q () { s with heap:=h' }):UZ M A (setFlight (.ref e) Wp) Q E s:=by
 obtain⟨p,n,m,j⟩:=g;exact mR p m j i λh' f k2 d c a=>h h' ⟨f,n,k2,d⟩ (λb o q z=>⟨o.slots,c b o q z⟩) a
def A8(g:W5 base l e cls a0 s.heap)(i:nh s.heap e dc)(h:∀h',W5 base l e cls a0 h'->s.heap.UpToSlots h'->nh h' e dc->Q () { s with heap:=h' }):UZ M A (setFlight (.ref e) Wp) Q E s:=by
 obtain⟨p,n,m,j⟩:=g;exact mR p m j.at i λh' f k2 d c a=>h h' ⟨f,n,k2,d⟩ (λb o q z=>⟨o.slots,c b o q z⟩) a
end
end DL
namespace PySem
namespace F
def slot_function_getattribute:Slot "function" "__getattribute__" "object.__getattribute__":=.of (owner:="object") (n:="__getattribute__") (by rw[typeLookup_type,builtinLookup_eq_fast];kernel_rfl) (by decide +kernel) (by decide +kernel) (by decide +kernel)
 (by first|exact .inl (by decide +kernel)|exact .inr<|by decide +kernel) (by rw[isSubtype_type];kernel_rfl)
def args_function_getattribute_2(a b:Ur):argsOk "object.__getattribute__" ⟨[a,b],[]⟩:=by unfold argsOk;kernel_rfl
end F
end PySem
namespace PySem
open Sem (wp)
namespace F
def entry_function_ga:entryFor table "object.__getattribute__"=W1 Builtin.«object.__getattribute__»:=entryFor_of_tree (by kernel_rfl)
def lk_function_class:XU (.type "function") "__class__"=pure (W1<|.builtin "object.__class__"):=by rw[typeLookup_type,builtinLookup_eq_fast];kernel_rfl
def sub_function_class_owner:isSubtype (.type "function") (.type<|".".intercalate ("object.__class__".cutAt '.').dropLast)=pure VT:=by
 rw[owner_object_class,isSubtype_type];kernel_rfl
end F
section
variable {prog:Vv}{w:VL}{A:VD}{E:Ur->UH->Prop}{h:UQ}{g:Array GenState}{d:Drawn}{t:Nat}{os:OsState}{a:UD}{o:Obj}
def nS(c:h.get? a=W1 o)(e:o.cls=.type "function")(f:R (.ok<|.ret<|.type "function") ⟨h,g,d,t,os⟩) :
  WQ (UY prog w) A (.call (.builtin "getset_descriptor.__get__") ⟨[.builtin "object.__class__",.ref a,.type "function"],[]⟩) R ⟨h,g,d,t,os⟩:=by
 have i:(⟨h,g,d,t,os⟩:UH).TypeIs (.ref a) "function":=⟨_,c,e⟩
 have b:(⟨h,g,d,t,os⟩:UH).TypeIs (.builtin "object.__class__") "getset_descriptor":=W9;have j:=F.sub_function_class_owner;refine codeAny_call_builtin YN.plain F.entry_gs_get<|YN.check _ _ _ _ _ _ _ _ b (F.args_gs_get _ _ _) ?_
 repeat (any_goals (first|assumption|wp_step))
 refine⟨Yl _ (by decide +kernel),codeAny_builtin F.entry_object_class ?_⟩
 repeat (any_goals (first|assumption|wp_step))
def me(b:h.get? a=W1 o)(c:o.cls=.type "function")(i:Q (.done<|.ret<|.type "function") ⟨h,g,d,t,os⟩) :
  UZ (UY prog w) A (Builtin.«object.__getattribute__» ⟨[.ref a,.str "__class__" f],[]⟩) Q E ⟨h,g,d,t,os⟩:=by
 have j:(⟨h,g,d,t,os⟩:UH).TypeIs (.ref a) "function":=⟨_,b,c⟩
 have e:(⟨h,g,d,t,os⟩:UH).TypeIs (.builtin "object.__class__") "getset_descriptor":=W9;have p:=F.lk_function_class;have n:=W9;have m:=YN.lookup;have l:=F.slot_gs_set.lookup
 repeat (any_goals (first|assumption|wp_step))
 refine nS b c ?_
 repeat (any_goals (first|assumption|wp_step))
def m7(b:h.get? a=W1 o)(c:o.cls=.type "function")(e:R (.ok<|.ret<|.type "function") ⟨h,g,d,t,os⟩) :
  WQ (UY prog w) A (.call (.builtin "object.__getattribute__") ⟨[.ref a,.str "__class__" f],[]⟩) R ⟨h,g,d,t,os⟩ :=
 codeAny_call_builtin F.slot_function_getattribute.plain F.entry_function_ga (F.slot_function_getattribute.check _ _ _ _ _ _ _ _ (show(⟨h,g,d,t,os⟩:UH).TypeIs (.ref a) "function" from⟨_,b,c⟩) (F.args_function_getattribute_2 _ _)<|me b c e)
def pJ(b:h.get? a=W1 o)(c:o.cls=.type "function")(f:Q (.type "function") ⟨h,g,d,t,os⟩):UZ (UY prog w) A (getAttrBy (.ref a) (.str "__class__" e) U9) Q E ⟨h,g,d,t,os⟩:=by
 have i:(⟨h,g,d,t,os⟩:UH).TypeIs (.ref a) "function":=⟨_,b,c⟩
 have l:=F.slot_function_getattribute.lookup;have j:=F.slot_function_getattribute.bind<|.ref a
 repeat (any_goals (first|assumption|wp_step))
 refine m7 b c ?_
 repeat (any_goals (first|assumption|wp_step))
def m8(b:h.get? a=W1 o)(c:o.cls=.type "function")(e:Q (W1<|.type "function") ⟨h,g,d,t+1,os⟩):UZ (UY prog w) A (getAttr? (.ref a) "__class__") Q E ⟨h,g,d,t,os⟩:=by
 unfold getAttr? getAttrBy?
 repeat (any_goals (first|assumption|with_reducible apply pJ b c|wp_step))
end
end PySem
namespace DL
open PySem PySem.Spec PyProof.Rows L2
def MJ:Vt->Bool
 |.Starred _ _=>U9
 |_=>VT
def aW(h:MJ e=VT):UJ (e::es) env=(U9,eval e env)::UJ es env:=by
 cases e<;>first|(rw[UJ];intros;contradiction)|rw[UJ]|(cases h)
def gq(h:MJ e=VT):UJ [e] env=[(U9,eval e env)]:=by
 rw[aW h,UJ]
theorem cC:∀{es:List Vt},es.all MJ=VT->(VQ pos<|UJ es env).any (·.1)=U9
 |[],_=>by rw[UJ];rfl
 |e::es,h=>by
  rw[W8,US]at h;rw[aW h.1];have:=cC (env:=env) (pos:=pos) h.2;show(U9||(VQ pos<|UJ es env).any (·.1))=U9;rw[this];rfl
def uE(h:MJ e=VT):((VQ pos<|UJ [e] env).all (λx=>!x.1)&&(YE pos<|Xz [] env).all (λx=>x.1.isSome)
  &&decide ([e].length+([]:List Yt).length+(if([]:List Yt).isEmpty then 0 else 1)<30))=VT:=by
 rw[gq h,Xz];rfl
inductive Kd where
 |ins (c:UL) (ks:bv)|dint (ks:List Int)|exf (c:UL) (ks:bv)|pl|fn (q:UL)
inductive D where
 |non|bl (b:Bool)|int (i:Int)|str (x:UL)|tup (xs:List D)|lst (xs:List D)|dic (ks:bv) (xs:List D)|exc (x:UL)|ob (k:Kd) (xs:List D)
abbrev ac:=List D
structure Pf (K:Uv) (ks:bv) (C:UD):Prop where
 cls:JO K C
 no:∀f∈ks,fP K C f
 gc:VW K (.ref C) "__class__"=W1 (W1 (.builtin "object.__class__"))
 gn:Ys K (.builtin "object.__class__") "__get__"=W1 (W1 (.builtin "getset_descriptor.__get__"))
 tk:ZO K (.builtin "object.__class__")=W1 VT
 mo:ZW K C (.type "object")=W1 VT
 bt:∀T∈iI,W.kitOne K (.ref C) (.type T)=W1 U9
def gG(H:Hp):List (UL×UD)->ad->Prop
 |[],a=>a=[]
 |(_,c)::r,a=>∃v b o u,a=v::b/\H c=W1 (.frz o<|.own c)/\o.data=.cell (W1 u)/\bB v u/\gG H r b
def iL(sc:X3):bv:=((sc.names.filter λp=>p.2==.free).map (·.1)).reverse
noncomputable def JF(K:Uv) (H:Hp):Kd->UD->ad->Prop
 |.ins c e,a,d=>∃C j,VU K UU c=W1 (W1<|.ref C)/\Pf K e C/\H a=W1 (.ins C j<|e.zip d)/\e.length=d.length
 |.dint e,a,d=>∃g,Rd H a (.dK g)/\g=(e.map Yc).zip d/\e.length=d.length
 |.exf c e,a,d=>∃C j fs,XC K c C/\Rd H a (.ext<|BY a C<|W1 j)/\H j=W1 (.xd fs)/\e.length=d.length/\∀(i:Nat) (f:UL) (v:V),e[i]?=W1 f->d[i]?=W1 v->fs.lookup f=W1 v
 |.pl,a,d=>H a=W1 (.lst d)
 |.fn q,a,d=>∃F b n t m o l,(xt K).lookup q=W1 F/\(b.map (·.1)=iL F.scope/\(b.map (·.2)).Nodup)/\H a=W1 (.frz (W.kla_obj "<lambda>" q F.params F.body F.scope b o n l)<|.own a)/\H n=W1 (.tbl (#[.none,.str q t]++m))/\gG H b d
structure RG where
 cls:UL
 flds:List (UL×D)
inductive aw (α:Type) where
 |ok (a:α)|exn (x:RG)|stuck
def aw.bind{c b:Type}(r:aw c)(f:c->aw b):aw b:=match r with
 |.ok a=>f a
 |.exn x=>.exn x
 |.stuck=>.stuck
mutual
def Rep(K:Uv)(H:Hp):D->V->Prop
 |.non,v=>v=.non
 |.bl b,v=>v=.bl b
 |.int i,v=>v=.int i
 |.str x,v=>v=.str x
 |.tup d,v=>∃a c,v=.ref a/\pZ K H a c/\Reps K H d c
 |.lst d,v=>∃a c,v=.ref a/\gH K H a c/\Reps K H d c
 |.dic f d,v=>∃a e c,v=.ref a/\Rd H a (.dK e)/\e=(f.map VJ).zip c/\f.length=c.length/\Reps K H d c
 |.exc x,v=>∃a C g,v=.ref a/\XC K x C/\Rd H a (.ext<|BY a C g)
 |.ob k d,v=>∃a c,v=.ref a/\JF K H k a c/\Reps K H d c
def Reps(K:Uv)(H:Hp):ac->ad->Prop
 |[],a=>a=[]
 |d::b,a=>∃v r,a=v::r/\Rep K H d v/\Reps K H b r
end
def aE.rd(e:aE H H')(h:Rd H a o):Rd H' a o:=by
 rcases h with h|⟨b,h⟩
 .exact .inl<|e _ _ h
 .exact .inr ⟨b,e _ _ h⟩
def aE.sqT{K:Uv}(e:aE H H')(h:pZ K H a xs):pZ K H' a xs:=by
 rcases h with h|h
 .exact .inl<|aE.rd e h
 .exact .inr h
def aE.sqL{K:Uv}(e:aE H H')(h:gH K H a xs):gH K H' a xs:=by
 rcases h with h|h
 .exact .inl<|aE.rd e h
 .exact .inr h
theorem gG.mono(e:aE H H'):∀{a:List<|UL×UD}{vs:ad},gG H a vs->gG H' a vs
 |[],_,h=>h
 |(_,c)::r,_,⟨v,b,o,u,j,i,g,f,d⟩=>⟨v,b,o,u,j,e _ _ i,g,f,gG.mono e d⟩
theorem JF.mono{K:Uv}(e:aE H H'):∀{k:Kd}{a:UD}{vs:ad},JF K H k a vs->JF K H' k a vs
 |.ins c p,a,vs,⟨C,n,l,f,d,b⟩=>⟨C,n,l,f,e _ _ d,b⟩
 |.dint p,a,vs,⟨i,f,d,b⟩=>⟨i,aE.rd e f,d,b⟩
 |.exf c p,a,vs,⟨C,n,fs,f,d,b,j⟩=>⟨C,n,fs,f,aE.rd e d,e _ _ b,j⟩
 |.pl,a,vs,h=>e _ _ h
 |.fn q,a,vs,⟨F,g,s,t,m,r,o,l,f,d,b,j⟩=>⟨F,g,s,t,m,r,o,l,f,e _ _ d,e _ _ b,gG.mono e j⟩
mutual
theorem Rep.mono{K:Uv}{H H':Hp}(e:aE H H'):∀{d:D}{v:V},Rep K H d v->Rep K H' d v
 |.non,_,h=>by unfold Rep at h ⊢;exact h
 |.bl _,_,h=>by unfold Rep at h ⊢;exact h
 |.int _,_,h=>by unfold Rep at h ⊢;exact h
 |.str _,_,h=>by unfold Rep at h ⊢;exact h
 |.tup j,_,h=>by
  unfold Rep at h ⊢;obtain⟨a,g,f,c,b⟩:=h;exact⟨a,g,f,aE.sqT e c,Reps.mono e b⟩
 |.lst j,_,h=>by
  unfold Rep at h ⊢;obtain⟨a,g,f,c,b⟩:=h;exact⟨a,g,f,aE.sqL e c,Reps.mono e b⟩
 |.dic o j,_,h=>by
  unfold Rep at h ⊢;obtain⟨a,i,g,f,c,b,m,l⟩:=h;exact⟨a,i,g,f,aE.rd e c,b,m,Reps.mono e l⟩
 |.exc x,_,h=>by
  unfold Rep at h ⊢;obtain⟨a,C,n,f,c,b⟩:=h;exact⟨a,C,n,f,c,aE.rd e b⟩
 |.ob k j,_,h=>by
  unfold Rep at h ⊢;obtain⟨a,g,f,c,b⟩:=h;exact⟨a,g,f,c.mono e,Reps.mono e b⟩
theorem Reps.mono{K:Uv}{H H':Hp}(e:aE H H'):∀{ds:ac}{vs:ad},Reps K H ds vs->Reps K H' ds vs
 |[],_,h=>by unfold Reps at h ⊢;exact h
 |d::ds,_,h=>by
  unfold Reps at h ⊢;obtain⟨v,r,c,b,a⟩:=h;exact⟨v,r,c,Rep.mono e b,Reps.mono e a⟩
end
section
variable {K:Uv}{H:Hp}{v:V}{vs:ad}{d:D}{ds:ac}
def aS:Rep K H .non v↔v=.non:=by unfold Rep;exact Zo
def aI{b}:Rep K H (.bl b) v↔v=.bl b:=by unfold Rep;exact Zo
def ay{i}:Rep K H (.int i) v↔v=.int i:=by unfold Rep;exact Zo
def Rep.str_iff{x}:Rep K H (.str x) v↔v=.str x:=by unfold Rep;exact Zo
def aM:Rep K H (.tup ds) v↔∃a vs,v=.ref a/\pZ K H a vs/\Reps K H ds vs:=by rw[Rep]
def aF:Rep K H (.lst ds) v↔∃a vs,v=.ref a/\gH K H a vs/\Reps K H ds vs:=by rw[Rep]
def jO{x}:Rep K H (.exc x) v↔∃a C b,v=.ref a/\XC K x C/\Rd H a (.ext<|BY a C b):=by rw[Rep]
def bE{k}:Rep K H (.ob k ds) v↔∃a vs,v=.ref a/\JF K H k a vs/\Reps K H ds vs:=by rw[Rep]
def Reps.nil_iff:Reps K H [] vs↔vs=[]:=by unfold Reps;exact Zo
def aC:Reps K H (d::ds) vs↔∃v r,vs=v::r/\Rep K H d v/\Reps K H ds r:=by rw[Reps]
def Reps.nil:Reps K H [] []:=Reps.nil_iff.mpr rfl
def Reps.cons(h:Rep K H d v)(h':Reps K H ds vs):Reps K H (d::ds) (v::vs):=aC.mpr ⟨_,_,rfl,h,h'⟩
end
theorem Reps.length{K:Uv}:∀{ds:ac}{vs:ad},Reps K H ds vs->ds.length=vs.length
 |[],_,h=>by rw[Reps.nil_iff.mp h];rfl
 |d::ds,_,h=>by
  obtain⟨v,r,rfl,_,h⟩:=aC.mp h;simp[Reps.length h]
theorem Reps.get{K:Uv}{H:Hp}:∀{ds:ac}{vs:ad}{i:Nat}{d:D},Reps K H ds vs->ds[i]?=W1 d->∃v,vs[i]?=W1 v/\Rep K H d v
 |[],_,_,_,h,e=>by simp at e
 |x::ds,_,0,d,h,e=>by
  obtain⟨v,r,rfl,b,_⟩:=aC.mp h;simp at e;subst e;exact⟨v,rfl,b⟩
 |x::ds,_,i+1,d,h,e=>by
  obtain⟨v,r,rfl,_,a⟩:=aC.mp h;obtain⟨u,f,c⟩:=Reps.get (i:=i) a (by simpa using e);exact⟨u,by simpa using f,c⟩
theorem Reps.app{K:Uv}{H:Hp}:∀{ds es:ac}{vs b:ad},Reps K H ds vs->Reps K H es b->Reps K H (ds++es) (vs++b)
 |[],_,_,_,h,a=>by rw[Reps.nil_iff.mp h];exact a
 |d::ds,_,_,_,h,a=>by
  obtain⟨v,r,rfl,e,c⟩:=aC.mp h;exact Reps.cons e<|Reps.app c a
theorem Reps.take{K:Uv}:∀{ds:ac}{vs:ad}(n:Nat),Reps K H ds vs->Reps K H (ds.take n) (vs.take n)
 |_,_,0,_=>by simp;exact Reps.nil
 |[],_,n+1,h=>by rw[Reps.nil_iff.mp h];exact Reps.nil
 |d::ds,_,n+1,h=>by
  obtain⟨v,r,rfl,b,a⟩:=aC.mp h;exact Reps.cons b<|Reps.take n a
theorem Reps.drop{K:Uv}:∀{ds:ac}{vs:ad}(n:Nat),Reps K H ds vs->Reps K H (ds.drop n) (vs.drop n)
 |_,_,0,h=>by simpa using h
 |[],_,n+1,h=>by rw[Reps.nil_iff.mp h];exact Reps.nil
 |d::ds,_,n+1,h=>by
  obtain⟨v,r,rfl,b,a⟩:=aC.mp h;exact Reps.drop n a
theorem Reps.set{K:Uv}(h:Rep K H d v):∀{ds:ac}{vs:ad}(n:Nat),Reps K H ds vs->Reps K H (ds.set n d) (vs.set n v)
 |[],_,n,a=>by rw[Reps.nil_iff.mp a];exact Reps.nil
 |x::ds,_,0,a=>by
  obtain⟨v,r,rfl,c,b⟩:=aC.mp a;exact Reps.cons h b
 |x::ds,_,n+1,a=>by
  obtain⟨v,r,rfl,c,b⟩:=aC.mp a;exact Reps.cons c<|Reps.set h n b
theorem ya{K:Uv}:∀(ns:List Int),Reps K H (ns.map D.int) (ns.map V.int)
 |[]=>Reps.nil
 |n::r=>Reps.cons (ay.mpr rfl)<|ya r
structure bC (H Ha H' Ha':Hp):Prop where
 s:aE H H'
 z:aE Ha Ha'
 sub:aE Ha' H'
 nw:∀a,Ha' a≠Wp->Ha a=Wp->H a=Wp
def bC.refl(h:aE Ha H):bC H Ha H Ha:=⟨aE.refl _,aE.refl _,h,λa c b=>ee b c⟩
theorem bC.trans(a:bC H Ha H1 c)(b:bC H1 c g d):bC H Ha g d :=
 ⟨a.s.trans b.s,a.z.trans b.z,b.sub,λx f e=>by
  cases q:c x with
  |none=>exact a.s.free<|b.nw x f q
  |some o=>exact a.nw x (by rw[q];simp) e⟩
def bg(hs:aE Ha H)(hp:H p=Wp):bC H Ha (upd H p o) (upd Ha p o) :=
 ⟨same_new hp o,same_new (hs.free hp) o,λb u e=>by
  by_cases hb:b=p
  .subst hb;rw[aG]at e ⊢;exact e
  .rw[aA hb]at e ⊢;exact hs _ _ e,λa h1 h2=>by
  by_cases hb:a=p
  .subst hb;exact hp
  .rw[aA hb]at h1;exact ee h2 h1⟩
where
 same_new {H:Hp}{p:UD}(h:H p=Wp) (o:HO):aE H (upd H p o):=λb u q=>by rw[aA (aP q h)];exact q
inductive Sl where
 |no|sh (d:D)|ow (d:D)|ox (j:Nat) (ds:ac)|pt (a:UD)
abbrev Ev:=List Sl
abbrev al:=Ev->aw D
def fW(K:Uv)(Ha:Hp)(a:L2.St)(ρ:Ev):Prop:=∀(i:Nat) (d:D),ρ[i]?=W1 (.sh d)->∃v,a[i]?=W1 (W1 v)/\Rep K Ha d v
def fW.mono{K:Uv}(e:aE H H')(r:fW K H a ρ):fW K H' a ρ:=λi d h=>
 let ⟨v,c,b⟩:=r i d h
 ⟨v,c,b.mono e⟩
def zI(K:Uv)(H:Hp)(x:RG)(C:Ur)(ox:Option UD):Prop :=
 (∃c,C=.ref c/\XC K x.cls c)/\match ox with
  |none=>x.flds=[]
  |some a=>∃fs,H a=W1 (.xd fs)/\∀n d,x.flds.lookup n=W1 d->∃v,fs.lookup n=W1 v/\Rep K H d v
def post(K:Uv)(E:XK)(H Ha:Hp)(r:aw D)(Q:VK):Prop:=match r with
 |.ok d=>∀v b a,bC H Ha b a->Rep K a d v->Q v b
 |.exn x=>∀C ox b a,bC H Ha b a->zI K a x C ox->E C ox b
 |.stuck=>False
def tM(K:Uv)(E:XK)(H Ha:Hp)(r:aw<|ac)(Q:ad->Hp->Prop):Prop:=match r with
 |.ok d=>∀c b a,bC H Ha b a->Reps K a d c->Q c b
 |.exn x=>∀C ox b a,bC H Ha b a->zI K a x C ox->E C ox b
 |.stuck=>False
def tN(K:Uv)(E:XK)(H Ha:Hp)(r:aw D)(Q:Bool->Hp->Prop):Prop:=match r with
 |.ok (.bl b)=>∀c a,bC H Ha c a->Q b c
 |.ok _=>False
 |.exn x=>∀C ox c a,bC H Ha c a->zI K a x C ox->E C ox c
 |.stuck=>False
section
variable {K:Uv}{E:XK}{H Ha H1 H01:Hp}
def post.grow(h:post K E H Ha r Q)(g:bC H Ha H1 H01):post K E H1 H01 r Q:=by
 cases r with|ok d=>exact λv c a b=>h v c a (g.trans b)|exn x=>exact λC ox c a b=>h C ox c a (g.trans b)|stuck=>exact h
def tM.grow(h:tM K E H Ha r Q)(g:bC H Ha H1 H01):tM K E H1 H01 r Q:=by
 cases r with|ok d=>exact λv c a b=>h v c a (g.trans b)|exn x=>exact λC ox c a b=>h C ox c a (g.trans b)|stuck=>exact h
def tN.grow(h:tN K E H Ha r Q)(g:bC H Ha H1 H01):tN K E H1 H01 r Q:=by
 cases r with
 |ok d=>
  cases d with|bl b=>exact λe a c=>h e a (g.trans c)| _=>exact h
 |exn x=>exact λC ox e a c=>h C ox e a<|g.trans c
 |stuck=>exact h
end
def tD(K:Uv)(E:XK)(f:al):TE:=λc H Q=>∃a b,aE a H/\fW K a c b/\post K E H a (f b) Q
def Ti(K:Uv)(E:XK)(f:Ev->aw (ac)):TA:=λc H Q=>∃a b,aE a H/\fW K a c b/\tM K E H a (f b) Q
def Pq(K:Uv)(E:XK)(f:al):TT:=λc H Q=>∃a b,aE a H/\fW K a c b/\tN K E H a (f b) Q
structure DE (X:Cx) (E:XK) (e:Vt) (f:al):Prop where
 o:PE X e (tD X.K E f)
structure DA (X:Cx) (E:XK) (es:List Vt) (f:Ev->aw (ac)):Prop where
 o:PA X es (Ti X.K E f)
structure DT (X:Cx) (E:XK) (e:Vt) (f:al):Prop where
 o:PT X e (Pq X.K E f)
structure DW (X:Cx) (E:XK) (e:Vt) (f:al):Prop where
 o:PW X e (Pq X.K E f)
section
variable {X:Cx}{E:XK}{e a b:Vt}{es:List Vt}{f g:al}{fa:Ev->aw (ac)}{pos:Pos}
def bF(h:PE X e t)(w:∀c H Q,t' c H Q->t c H Q):PE X e t':=λd s c H Q I q=>h d s c H Q I<|w c H Q q
def DK(h:PA X es t)(w:∀c H Q,t' c H Q->t c H Q):PA X es t':=λpos d s c H Q I q=>h pos d s c H Q I<|w c H Q q
def sA(h:PT X e t)(w:∀c H Q,t' c H Q->t c H Q):PT X e t':=λd s c H Q I q=>h d s c H Q I<|w c H Q q
def DB(h:PW X e t)(w:∀c H Q,t' c H Q->t c H Q):PW X e t':=λi d s c H Q I q=>h i d s c H Q I<|w c H Q q
def ae(i:Nat):al:=λc=>match c[i]? with
 |some (.sh d)=>.ok d
 |_=>.stuck
def dC(d:D):al:=λ_=>.ok d
def O2(r:X.N[i]?=W1 x)(m:BX X.env.scope x)(p:1#x:=by decide)(c:3#x:=by decide):DE X E (.Name x pos) (ae i):=by
 refine⟨?_⟩;refine bF (je r m p c) λy H Q ⟨w,l,n,o,q⟩=>?_;unfold ae at q;cases e:l[i]? with
 |none=>rw[e]at q;exact q.elim
 |some s=>
  rw[e]at q;cases s with
  |sh d=>
   obtain⟨v,u,t⟩:=o i d e;exact⟨v,u,q v H w (bC.refl n) t⟩
  |no|ow d|ox j z|pt a=>exact q.elim
def aj{i j}:DE X E (.Constant (.int i) j pos) (dC<|.int i):=⟨bF N4 λl H Q ⟨d,m,c,n,q⟩=>q _ H d (bC.refl c)<|ay.mpr rfl⟩
def jq{i j}:DE X E (.Constant (.bool i) j pos) (dC<|.bl i):=⟨bF QF λl H Q ⟨d,m,c,n,q⟩=>q _ H d (bC.refl c)<|aI.mpr rfl⟩
def kX{j}:DE X E (.Constant .none j pos) (dC .non):=⟨bF N3 λi H Q ⟨d,l,c,m,q⟩=>q _ H d (bC.refl c)<|aS.mpr rfl⟩
def l4{x j}:DE X E (.Constant (.str x) j pos) (dC<|.str x):=⟨bF N0 λi H Q ⟨d,l,c,m,q⟩=>q _ H d (bC.refl c)<|Rep.str_iff.mpr rfl⟩
def LJ(n:Gl X x)(m:X.mg x=W1 u)(r:bB v u)(l:∀H,Rep X.K H d v)(o:1#x:=by decide):DE X E (.Name x pos) (dC d) :=
 ⟨bF (KL n m r o) λp H Q ⟨c,s,i,j,q⟩=>q _ H c (bC.refl i)<|l c⟩
def aa(f g:al)(d:D->D->aw D):al:=λc=>(f c).bind λx=>(g c).bind λy=>d x y
def aU(f:al)(d:D->aw D):al:=λc=>(f c).bind d
def BO(K:Uv)(E:XK)(r:R2)(d:D->D->aw D):Prop:=∀(x y:D) (v u:V) (H c:Hp) (Q:VK),aE c H->Rep K c x v->Rep K c y u->post K E H c (d x y) Q->r v u H Q
def j6(C:BO X.K E r d)(n:L2.St)(H:Hp)(Q:VK)(h:tD X.K E (aa f g d) n H Q):P0 r (tD X.K E f) (tD X.K E g) n H Q:=by
 obtain⟨t,c,B,o,q⟩:=h;refine⟨t,c,B,o,?_⟩;unfold aa at q;cases s:f c with
 |stuck|exn x=>rwa[s]at q
 |ok x=>
  rw[s]at q;intro v I m j A;refine⟨m,c,j.sub,o.mono j.z,?_⟩;replace q:post X.K E H t ((g c).bind λy=>d x y) Q:=q;replace q:=q.grow j;cases p:g c with
  |stuck|exn x=>rwa[p]at q
  |ok y=>
   rw[p]at q;intro u G l i w;exact C x y v u G l Q i.sub (A.mono i.z) w<|post.grow (r:=d x y) q i
def rg(h:ia X (binaryOp c) r)(d:BO X.K E r o)(j:DE X E a f)(i:DE X E b g):DE X E (.BinOp a c b pos) (aa f g o) :=
 ⟨bF (HI h j.o i.o)<|j6 d⟩
def fq(h:ia X (VA c) r)(d:BO X.K E r o)(l:DE X E a f)(j:DE X E b g)(i:behindInMarks c b=U9):DE X E (.Compare a [c] [b] pos) (aa f g o) :=
 ⟨bF (KP h l.o j.o i)<|j6 d⟩
def Ri(h:JN X r)(d:BO X.K E r o)(j:DE X E a f)(i:DE X E b g)(c:zD b):DE X E (.Subscript a b pos) (aa f g o) :=
 ⟨bF (QE h j.o i.o c)<|j6 d⟩
def Ul(K:Uv)(E:XK)(r:V->Hp->VK->Prop)(d:D->aw D):Prop:=∀(x:D) (v:V) (H c:Hp) (Q:VK),aE c H->Rep K c x v->post K E H c (d x) Q->r v H Q
def Rg(h:RQ X (unaryOp m) r)(s:Ul X.K E r o)(t:DE X E a f):DE X E (.UnaryOp m a pos) (aU f o):=by
 refine⟨?_⟩;refine bF (QC h t.o) λy H Q z9=>?_;obtain⟨u,d,n,p,q⟩:=z9;refine⟨u,d,n,p,?_⟩
 unfold aU at q;cases j:f d with
 |stuck|exn x=>rwa[j]at q
 |ok x=>
  rw[j]at q;intro v w c i l;exact s x v w c Q i.sub l<|post.grow (r:=o x) q i
def ax:Ev->aw (ac):=λ_=>.ok []
def af(f:al)(fa:Ev->aw (ac)):Ev->aw (ac):=λc=>(f c).bind λx=>(fa c).bind λxs=>.ok (x::xs)
def av:DA X E [] ax:=⟨DK kL λi H Q ⟨d,j,c,l,q⟩=>q [] H d (bC.refl c) Reps.nil⟩
def ag(y:DE X E e f)(d:DA X E es fa)(i:UJ (e::es) X.env=(U9,eval e X.env)::UJ es X.env:=by exact aW rfl):DA X E (e::es) (af f fa):=by
 refine⟨?_⟩;refine DK (gu y.o d.o i) λB H Q z9=>?_;obtain⟨s,c,i,d,q⟩:=z9;refine⟨s,c,i,d,?_⟩
 unfold af at q;cases r:f c with
 |stuck|exn x=>rwa[r]at q
 |ok x=>
  rw[r]at q;intro v C m j w;refine⟨m,c,j.sub,d.mono j.z,?_⟩;replace q:tM X.K E H s ((fa c).bind λxs=>.ok (x::xs)) Q:=q;replace q:=q.grow j;cases p:fa c with
  |stuck|exn x=>rwa[p]at q
  |ok xs=>
   rw[p]at q;intro t A l n u;exact q (v::t) A l n<|Reps.cons (w.mono n.z) u
def line:Nat:=1000000
def fF(h:n<=line):n<=sizeLine:=UI h 0#1
def ak(fa:Ev->aw (ac))(m:ac->aw D):al:=λc=>(fa c).bind m
def fE:ac->aw D:=λc=>if c.length<=line then .ok (.tup c) else .stuck
def bD:ac->aw D:=λc=>if c.length<=line then .ok (.lst c) else .stuck
def kB{r:ad->Hp->VK->Prop}(s:∀(ds:ac) (vs:ad) (H Ha:Hp) (Q:VK),aE Ha H->Reps X.K Ha ds vs->post X.K E H Ha (m ds) Q->r vs H Q)
  (d:L2.St)(H:Hp)(Q:VK)(h:tD X.K E (ak fa m) d H Q):Ti X.K E fa d H λvs H1=>r vs H1 Q:=by
 obtain⟨Ha,i,o,p,q⟩:=h;refine⟨Ha,i,o,p,?_⟩;unfold ak at q;cases l:fa i with
 |stuck|exn x=>rwa[l]at q
 |ok x=>
  rw[l]at q;intro v H1 c j n;exact s x v H1 c Q j.sub n<|post.grow (r:=m x) q j
def eE{x1}(h:DA X E es fa):DE X E (.Tuple es x1 pos) (ak fa fE):=by
 refine⟨?_⟩;refine bF (NZ h.o)<|kB (r:=λxs l Q=>xs.length<=sizeLine/\∀p,l p=Wp->Q (.ref p) (upd l p (.tup xs))) λn m H s Q d i q=>?_;unfold fE at q
 by_cases c:n.length<=line
 .rw[dh c]at q
  refine⟨by rw[←i.length];exact fF c,λp j=>q _ _ _ (bg d j)<|aM.mpr ⟨p,m,rfl,pZ.of aG,i.mono (bg d j).z⟩⟩
 .rw[dV c]at q;exact q.elim
def cq(h:DA X E es fa):DE X E (.List es pos) (ak fa bD):=by
 refine⟨?_⟩;refine bF (HJ h.o)<|kB (r:=λxs l Q=>xs.length<=sizeLine/\∀p,l p=Wp->Q (.ref p) (upd l p (.lst xs))) λn m H s Q d i q=>?_;unfold bD at q
 by_cases c:n.length<=line
 .rw[dh c]at q
  refine⟨by rw[←i.length];exact fF c,λp j=>q _ _ _ (bg d j)<|aF.mpr ⟨p,m,rfl,gH.of aG,i.mono (bg d j).z⟩⟩
 .rw[dV c]at q;exact q.elim
def spD(K:Uv)(n:Nat)(m:ac->aw D):Sp:=λd H Q E=>d.length=n/\∃c i,aE c H/\Reps K c i d/\post K E H c (m i) Q
def LK{k n:Nat}{ps:bv}(F:gi X.prog X.w X.K X.mg X.base CX k fn M ps<|spD X.K n m)(c:cZ k X.A)(G:Gl X x)(z:X.mg x=W1 (.ref fn))
  (C:X0 X.K (.ref fn)=VT)(J:iC X.K M ps [])(u:gR CX X E)(L:DA X E (e::es) fa)(T:(e::es).length=n:=by rfl)(B:∀ρ ds,fa ρ=.ok ds->ds.length=(e::es).length)
  (i:1#x:=by decide)(I:UJ (e::es) X.env=(U9,eval e X.env)::UJ es X.env:=by exact aW rfl)(d:(VQ pos<|UJ es X.env).any (·.1)=U9:=by exact cC rfl) :
  DE X E (.Call (.Name x p) (e::es) [] pos) (ak fa m):=by
 refine⟨?_⟩;refine bF (KQ F c G z C J .nil u L.o i I d) λO H Q h=>?_;obtain⟨N,ρ,y,c,q⟩:=h;refine⟨N,ρ,y,c,?_⟩;unfold ak at q;cases j:fa ρ with
 |stuck|exn x=>rwa[j]at q
 |ok ds=>
  rw[j]at q;intro v U l t s;refine⟨?_,l,ds,t.sub,by simpa using s,post.grow (r:=m ds) q t⟩;have:=s.length;have:=B ρ ds j;simp only[VN];omega
def BL(h:ax ρ=.ok ds):ds.length=0:=by cases h;rfl
def mZ(i:∀es,fa ρ=.ok es->es.length=n)(h:af f fa ρ=.ok ds):ds.length=n+1:=by
 unfold af at h;cases d:f ρ with
 |stuck|exn x=>rw[d]at h;cases h
 |ok x=>
  rw[d]at h;replace h:((fa ρ).bind λxs=>aw.ok (x::xs))=.ok ds:=h;cases c:fa ρ with
  |stuck|exn x=>rw[c]at h;cases h
  |ok xs=>
   rw[c]at h;cases h;simp[i xs c]
def nz(X:Cx)(E:XK)(r:ad->Hp->VK->Prop)(m:ac->aw D):Prop:=∀(i:ac) (d:ad) (H c:Hp) (Q:VK),aE c H->Reps X.K c i d->post X.K E H c (m i) Q->r d H Q
def aT{id:String}(t:mv X (.builtin id) r)(s:nz X E r m)(n:Gl X x)(l:X.mg x=Wp)(i:bootBuiltins x=W1 (.builtin id))(u:DA X E (e::es) fa)(j:x≠"__name__":=by decide)(d:1#x:=by decide)
  (q:UJ (e::es) X.env=(U9,eval e X.env)::UJ es X.env:=by exact aW rfl)(c:(VQ pos<|UJ es X.env).any (·.1)=U9:=by exact cC rfl):DE X E (.Call (.Name x p) (e::es) [] pos) (ak fa m) :=
 ⟨bF (Ai t n l i u.o j d q c)<|kB s⟩
def IW(h:PT X e<|tB<|tD X.K E f):DT X E e f:=by
 refine⟨?_⟩;refine sA h λs H Q z9=>?_;obtain⟨p,i,m,n,q⟩:=z9;refine⟨p,i,m,n,?_⟩
 cases j:f i with
 |stuck|exn x=>rwa[j]at q
 |ok d=>
  rw[j]at q;intro v r c o l;cases d with|bl b=>rw[aI.mp l];exact⟨b,rfl,q r c o⟩| _=>exact q.elim
def cw(h:DE X E e f)(c:∀whole,isTrue e X.env whole=(do let v ←whole;standAt e.pos;Yr [v] (truthy v)):=by intro _;rfl):DT X E e f:=IW<|NO h.o c
def aL(h:ia X (VA l) r)(t:BO X.K E r o)(z:DE X E a f)(y:DE X E b g)(u:behindInMarks l b=U9):DT X E (.Compare a [l] [b] pos) (aa f g o):=by
 refine⟨?_⟩;refine sA (Kv h z.o y.o u) λi H Q h=>?_;have w:tD X.K E (aa f g o) i H λx G=>∃k,x=.bl k/\Q k G:=by
  obtain⟨B,j,p,s,q⟩:=h;refine⟨B,j,p,s,?_⟩;cases m:aa f g o j with
  |stuck|exn x=>rwa[m]at q
  |ok d=>
   rw[m]at q;intro v C c A n;cases d with|bl b=>rw[aI.mp n];exact⟨b,rfl,q C c A⟩| _=>exact q.elim
 exact j6 t i H _ w
def cM(f:al):al:=aU f λx=>match x with
 |.bl b=>.ok<|.bl (!b)
 |_=>.stuck
def eG(f g:al):al:=λc=>(f c).bind λx=>match x with
 |.bl VT=>g c
 |.bl U9=>.ok<|.bl U9
 |_=>.stuck
def lz(f g:al):al:=λc=>(f c).bind λx=>match x with
 |.bl VT=>.ok<|.bl VT
 |.bl U9=>g c
 |_=>.stuck
def cB(m:DT X E a f):DT X E (.UnaryOp .Not a pos) (cM f):=by
 refine⟨?_⟩;refine sA (NP m.o) λp H Q z9=>?_;obtain⟨n,c,j,l,q⟩:=z9;refine⟨n,c,j,l,?_⟩
 unfold cM aU at q;cases i:f c with
 |stuck|exn x=>rwa[i]at q
 |ok d=>
  rw[i]at q;cases d with|bl b=>exact q| _=>exact q.elim
def Jh(p:DE X E a f):DE X E (.UnaryOp .Not a pos) (cM f):=by
 refine⟨?_⟩;refine bF (N2 p.o) λu H Q z9=>?_;obtain⟨s,i,m,n,q⟩:=z9;refine⟨s,i,m,n,?_⟩
 unfold cM aU at q;cases j:f i with
 |stuck|exn x=>rwa[j]at q
 |ok d=>
  rw[j]at q;intro v t c r l;cases d with|bl b=>rw[aI.mp l];exact⟨b,rfl,q (.bl !b) t c r<|aI.mpr rfl⟩| _=>exact q.elim
variable {rest:List Vt}
def dD(c:DT X E a f):DW X E (.BoolOp .And [a] pos) f:=⟨Kt c.o⟩
def bR(c:DT X E a f):DW X E (.BoolOp .Or [a] pos) f:=⟨NM c.o⟩
def gO(t:DT X E a f)(s:DW X E (.BoolOp .And (b::rest) pos) g):DW X E (.BoolOp .And (a::b::rest) pos) (eG f g):=by
 refine⟨?_⟩;refine DB (NN t.o s.o) λv H Q z9=>?_;obtain⟨u,j,p,l,q⟩:=z9;refine⟨u,j,p,l,?_⟩
 unfold eG at q;cases m:f j with
 |stuck|exn x=>rwa[m]at q
 |ok d=>
  rw[m]at q;cases d with
  |bl b=>
   cases b with|true=>exact λn c i=>⟨c,j,i.sub,l.mono i.z,tN.grow (r:=g j) q i⟩|false=>exact λn c i=>q n c i
  |_=>exact q.elim
def fV(t:DT X E a f)(s:DW X E (.BoolOp .Or (b::rest) pos) g):DW X E (.BoolOp .Or (a::b::rest) pos) (lz f g):=by
 refine⟨?_⟩;refine DB (Qv t.o s.o) λv H Q z9=>?_;obtain⟨u,j,p,l,q⟩:=z9;refine⟨u,j,p,l,?_⟩
 unfold lz at q;cases m:f j with
 |stuck|exn x=>rwa[m]at q
 |ok d=>
  rw[m]at q;cases d with
  |bl b=>
   cases b with|false=>exact λn c i=>⟨c,j,i.sub,l.mono i.z,tN.grow (r:=g j) q i⟩|true=>exact λn c i=>q n c i
  |_=>exact q.elim
def DW.dt(h:DW X E e f):DT X E e f:=⟨PW.pt h.o⟩
def kW{c}(h:DE X E a f):DE X E (.BoolOp c [a] pos) f:=⟨N1 h.o⟩
def l6(t:DE X E a f)(s:DE X E (.BoolOp .And (b::rest) pos) g):DE X E (.BoolOp .And (a::b::rest) pos) (eG f g):=by
 refine⟨?_⟩;refine bF (N6 t.o s.o) λy H Q z9=>?_;obtain⟨u,i,p,l,q⟩:=z9;refine⟨u,i,p,l,?_⟩
 unfold eG at q;cases m:f i with
 |stuck|exn x=>rwa[m]at q
 |ok d=>
  rw[m]at q;intro v w c j n;cases d with
  |bl b=>
   rw[aI.mp n];cases b with|true=>exact⟨VT,rfl,c,i,j.sub,l.mono j.z,post.grow (r:=g i) q j⟩|false=>exact⟨U9,rfl,q (.bl U9) w c j<|aI.mpr rfl⟩
  |_=>exact q.elim
def Rh(t:DE X E a f)(s:DE X E (.BoolOp .Or (b::rest) pos) g):DE X E (.BoolOp .Or (a::b::rest) pos) (lz f g):=by
 refine⟨?_⟩;refine bF (QD t.o s.o) λy H Q z9=>?_;obtain⟨u,i,p,l,q⟩:=z9;refine⟨u,i,p,l,?_⟩
 unfold lz at q;cases m:f i with
 |stuck|exn x=>rwa[m]at q
 |ok d=>
  rw[m]at q;intro v w c j n;cases d with
  |bl b=>
   rw[aI.mp n];cases b with|false=>exact⟨U9,rfl,c,i,j.sub,l.mono j.z,post.grow (r:=g i) q j⟩|true=>exact⟨VT,rfl,q (.bl VT) w c j<|aI.mpr rfl⟩
  |_=>exact q.elim
def JL(c f g:al):al:=λd=>(c d).bind λx=>match x with
 |.bl VT=>f d
 |.bl U9=>g d
 |_=>.stuck
def pI(t:DT X E c n)(v:DE X E a f)(u:DE X E b g):DE X E (.IfExp c a b pos) (JL n f g):=by
 refine⟨?_⟩;refine bF (HK t.o v.o u.o) λA H Q z9=>?_;obtain⟨w,l,s,m,q⟩:=z9;refine⟨w,l,s,m,?_⟩
 unfold JL at q;cases p:n l with
 |stuck|exn x=>rwa[p]at q
 |ok d=>
  rw[p]at q;cases d with
  |bl b=>
   cases b with|true=>exact λy j i=>⟨j,l,i.sub,m.mono i.z,post.grow (r:=f l) q i⟩|false=>exact λy j i=>⟨j,l,i.sub,m.mono i.z,post.grow (r:=g l) q i⟩
  |_=>exact q.elim
end
noncomputable def Mm(K:Uv) (Ha H:Hp) (a:UD) (d:D):Prop:=match d with
 |.lst e=>∃b,H a=W1 (.lst b)/\Reps K Ha e b
 |.dic c e=>∃b,H a=W1 (.dK<|(c.map VJ).zip b)/\c.length=b.length/\Reps K Ha e b
 |.ob (.dint c) e=>∃b,H a=W1 (.dK<|(c.map Yc).zip b)/\c.length=b.length/\Reps K Ha e b
 |_=>False
def wc(j k:Nat):Bool:=if j=99 then decide (k<=1) else k==j
noncomputable def RC(K:Uv) (f Ha H:Hp) (a:UD) (j:Nat) (ds:ac) (P:Nat->UD):Prop:=∃b,f a=Wp/\H a=W1 (.tup b)/\ds.length=b.length /\
 (∀k,wc j k=VT->∃e c,f (P k)=Wp/\Ha (P k)=Wp/\ds[k]?=W1 (.lst e)/\b[k]?=W1 (.ref<|P k)/\H (P k)=W1 (.lst c)/\Reps K Ha e c) /\
 (∀k l,wc j k=VT->wc j l=VT->P k=P l->k=l)/\∀k d v,wc j k=U9->ds[k]?=W1 d->b[k]?=W1 v->Rep K Ha d v
noncomputable def OX(K:Uv) (g Ha:Hp) (b:L2.St) (H:Hp) (ρ:Ev):Prop:=(∀(i j:Nat) (e:ac),ρ[i]?=W1 (.ox j e)->∃a P,b[i]?=W1 (W1<|.ref a)/\RC K g Ha H a j e P/\(∀(k:Nat) (d:D) (l:Nat),wc j l=VT->ρ[k]?=W1 (.ow d)->b[k]?≠W1 (W1<|.ref<|P l))/\∀(k f:Nat) (c:ac),ρ[k]?=W1 (.ox f c)->k=i)/\∀(i:Nat) (a:UD),ρ[i]?=W1 (.pt a)->b[i]?=W1 (W1<|.ref a)
def OX.upd{K:Uv}(h:OX K w Ha u H ρ)
  (n:∀(j:Nat) (s:Sl),ρ'[j]?=W1 s->(ρ[j]?=W1 s/\f[j]?=u[j]?)∨(∃d,s=.sh d)∨s=.no∨∃d q,s=.ow d/\f[j]?=W1 (W1<|.ref q)/\∀(i j:Nat) (ds:ac) (a:UD) (P:Nat->UD),ρ[i]?=W1 (.ox j ds)->u[i]?=W1 (W1<|.ref a)->RC K w Ha H a j ds P->∀l,wc j l=VT->q≠P l)
  (G:aE Ha t)(ht:∀a vs,w a=Wp->H a=W1 (.tup vs)->H' a=W1 (.tup vs))
  (hl:∀p o,w p=Wp->Ha p=Wp->H p=W1 (.lst o)->(∀(k:Nat) (d:D),ρ[k]?=W1 (.ow d)->u[k]?≠W1 (W1<|.ref p))->H' p=W1 (.lst o)/\t p=Wp):OX K w t f H' ρ':=by
 refine⟨λi j ds e=>?_,λi a e=>?_⟩
 rotate_left
 .rcases n i _ e with c|⟨d,c⟩|c|⟨d,q,c,_⟩
  .rw[c.2];exact h.2 i a c.1
  .cases c
  .cases c
  .cases c
 have g:ρ[i]?=W1 (.ox j ds)/\f[i]?=u[i]?:=by
  rcases n i _ e with c|⟨d,c⟩|c|⟨d,q,c,_⟩
  .exact c
  .cases c
  .cases c
  .cases c
 obtain⟨a,P,c,J,I,h4⟩:=h.1 i j ds g.1;have y:=J;obtain⟨vs,C,Q,O,N,M,L⟩:=J;refine⟨a,P,g.2.trans c,⟨vs,C,ht a vs C Q,O,λk ok=>?_,M,λk d v n e1 e2=>(L k d v n e1 e2).mono G⟩,λk d l ok ek z=>?_,λk j' A ek=>?_⟩
 .obtain⟨es,o,E,q2,q3,Y,U,T⟩:=N k ok
  obtain⟨l1,l2⟩:=hl (P k) o E q2 U λm d em=>I m d k ok em;exact⟨es,o,E,l2,q3,Y,l1,T.mono G⟩
 .rcases n k _ ek with b|⟨B,b⟩|b|⟨B,q,b,r,x⟩
  .exact I k d l ok b.1 (by rw[←b.2];exact z)
  .cases b
  .cases b
  .rw[r]at z
   cases z;exact x i j ds a P g.1 c y l ok rfl
 .rcases n k _ ek with b|⟨B,b⟩|b|⟨B,q,b,_⟩
  .exact h4 k j' A b.1
  .cases b
  .cases b
  .cases b
def OX.none{K:Uv}(h:∀(i j:Nat) (ds:ac),ρ[i]?≠W1 (.ox j ds))(h':∀(i:Nat) (a:UD),ρ[i]?=W1 (.pt a)->b[i]?=W1 (W1<|.ref a)):OX K c Ha b H ρ:=⟨λi j ds e=>ee e<|h i j ds,h'⟩
theorem Ds{K:Uv}{H:Hp}:∀{ds:ac}{vs:ad},ds.length=vs.length->(∀(k:Nat) (d:D) (v:V),ds[k]?=W1 d->vs[k]?=W1 v->Rep K H d v)->Reps K H ds vs
 |[],[],_,_=>Reps.nil
 |d::ds,v::vs,b,h=>Reps.cons (h 0 d v rfl rfl) (Ds (by simpa using b) λk f a e c=>h (k+1) f a e c)
structure f9 (K:Uv) (He η Ha:Hp) (σ:L2.St) (H:Hp) (ρ:Ev):Prop where
 g:bC He η H Ha
 rd:fW K Ha σ ρ
 ow:∀(i:Nat) (d:D),ρ[i]?=W1 (.ow d)->∃a,σ[i]?=W1 (W1 (.ref a))/\He a=Wp/\Ha a=Wp/\Mm K Ha H a d
 ap:∀(i j:Nat) (d d':D),i≠j->ρ[i]?=W1 (.ow d)->ρ[j]?=W1 (.ow d')->σ[i]?≠σ[j]?
 ln:ρ.length=σ.length
 ex:OX K He Ha σ H ρ
inductive Fl where
 |nx (ρ:Ev)|rt (d:D)|bk (ρ:Ev)|ct (ρ:Ev)
abbrev am:=Ev->aw Fl
noncomputable def bZ(K:Uv) (E:XK) (f e Ha:Hp) (r:aw Fl) (D:qG):Prop:=match r with
 |.ok (.nx c)=>∀b H a,aE Ha a->f9 K f e a b H c->D.nx b H
 |.ok (.rt d)=>∀v H a,bC f e H a->Rep K a d v->D.rt v H
 |.ok (.bk c)=>∀b H a,aE Ha a->f9 K f e a b H c->D.bk b H
 |.ok (.ct c)=>∀b H a,aE Ha a->f9 K f e a b H c->D.ct b H
 |.exn x=>∀C ox H a,bC f e H a->zI K a x C ox->E C ox H
 |.stuck=>False
def bZ.grow{K:Uv}{D:qG}(h:bZ K E i g Ha r D)(s:aE Ha j):bZ K E i g j r D:=by
 cases r with
 |ok f=>
  cases f with|nx e=>exact λb H a c=>h b H a (s.trans c)|rt d=>exact h|bk e=>exact λb H a c=>h b H a (s.trans c)|ct e=>exact λb H a c=>h b H a<|s.trans c
 |exn x=>exact h
 |stuck=>exact h
def tS(K:Uv)(E:XK)(c b:Hp)(g:am):TS:=λD e H=>∃d a,f9 K c b d e H a/\bZ K E c b d (g a) D
structure DS (X:Cx) (E:XK) (He η:Hp) (st:WE) (g:am):Prop where
 o:PS X st (tS X.K E He η g)
structure zM (X:Cx) (E:XK) (He η:Hp) (st:List WE) (g:am):Prop where
 o:zE X st (tS X.K E He η g)
def iD(ρ:Ev):Ev:=ρ.map λs=>match s with
 |.ow d=>.sh d
 |.ox _ a=>.sh<|.tup a
 |x=>x
def frz(b Ha H:Hp):Hp:=λa=>match b a with
 |none=>H a
 |some _=>Ha a
section
variable {K:Uv}{E:XK}{He η Ha H H1:Hp}{σ:L2.St}{ρ:Ev}
def f9.same(h:f9 K He η Ha σ H ρ)(s:aE H H1):f9 K He η Ha σ H1 ρ :=
 ⟨⟨h.g.s.trans s,h.g.z,h.g.sub.trans s,h.g.nw⟩,h.rd,λi d e=>by
  obtain⟨a,v,u,t,l⟩:=h.ow i d e;refine⟨a,v,u,t,?_⟩;cases d with
  |lst n=>obtain⟨b,f,c⟩:=l;exact⟨b,s _ _ f,c⟩|dic o n=>obtain⟨b,f,m,c⟩:=l;exact⟨b,s _ _ f,m,c⟩
  |ob q n=>
   cases q with|dint o=>obtain⟨b,f,m,c⟩:=l;exact⟨b,s _ _ f,m,c⟩| _=>exact l.elim
  |_=>exact l,h.ap,h.ln,h.ex.upd (λj y e=>.inl ⟨e,rfl⟩) (aE.refl _) (λa b _ e=>s _ _ e) λp x _ w r _=>⟨s _ _ r,w⟩⟩
def f9.grow(h:f9 K He η Ha σ H ρ)(s:bC H Ha H1 f):f9 K He η f σ H1 ρ :=
 ⟨h.g.trans s,h.rd.mono s.z,λi d e=>by
  obtain⟨a,A,y,x,c⟩:=h.ow i d e;have w:f a=Wp:=by
   cases q:f a with
   |none=>rfl
   |some o=>
    have:=s.nw a (by rw[q];simp) x;cases d with
    |lst n|dic r n=>obtain⟨l,b,_⟩:=c;rw[b]at this;cases this
    |ob t n=>
     cases t with|dint r=>obtain⟨l,b,_⟩:=c;rw[b]at this;cases this| _=>exact c.elim
    |_=>exact c.elim
  refine⟨a,A,y,w,?_⟩;cases d with
  |lst n=>obtain⟨l,b,m⟩:=c;exact⟨l,s.s _ _ b,m.mono s.z⟩|dic r n=>obtain⟨l,b,u,m⟩:=c;exact⟨l,s.s _ _ b,u,m.mono s.z⟩
  |ob t n=>
   cases t with|dint r=>obtain⟨l,b,u,m⟩:=c;exact⟨l,s.s _ _ b,u,m.mono s.z⟩| _=>exact c.elim
  |_=>exact c,h.ap,h.ln,h.ex.upd (λj G e=>.inl ⟨e,rfl⟩) s.z (λa l _ e=>s.s _ _ e) λp C _ B v _=>⟨s.s _ _ v,by
   cases q:f p with
   |none=>rfl
   |some o=>have:=s.nw p (by rw[q];simp) B;rw[v]at this;cases this⟩⟩
def f9.frz_sub(h:f9 K He η Ha σ H ρ):aE Ha (frz He Ha H):=λb o e=>by
 unfold frz;cases q:He b with|none=>exact h.g.sub _ _ e|some _=>exact e
def f9.frz_le(h:f9 K He η Ha σ H ρ):aE (frz He Ha H) H:=λb o e=>by
 unfold frz at e;cases q:He b with|none=>rwa[q]at e|some _=>rw[q]at e;exact h.g.sub _ _ e
theorem f9.frz_grow(h:f9 K He η Ha σ H ρ):bC He η H (frz He Ha H) :=
 ⟨h.g.s,h.g.z.trans h.frz_sub,h.frz_le,λa b c=>by
  cases q:He a with
  |none=>rfl
  |some o=>
   unfold frz at b;rw[q]at b;have:=h.g.nw a b c;rw[q]at this;cases this⟩
def f9.looks(h:f9 K He η Ha σ H ρ):fW K (frz He Ha H) σ (iD ρ):=λi d e=>by
 unfold iD at e;rw[Uw]at e;cases q:ρ[i]? with
 |none=>rw[q]at e;cases e
 |some s=>
  rw[q]at e;cases s with
  |no|pt a=>cases e
  |sh N=>
   cases e;obtain⟨v,m,l⟩:=h.rd i d q;exact⟨v,m,l.mono h.frz_sub⟩
  |ow N=>
   cases e;obtain⟨a,m,l,T,g⟩:=h.ow i d q;refine⟨_,m,?_⟩;cases d with
   |lst n=>
    obtain⟨b,f,c⟩:=g;exact aF.mpr ⟨a,b,rfl,gH.of (by unfold frz;rw[l];exact f),c.mono h.frz_sub⟩
   |dic L n=>
    obtain⟨b,f,o,c⟩:=g;rw[Rep];exact⟨a,_,b,rfl,.inl (by unfold frz;rw[l];exact f),rfl,o,c.mono h.frz_sub⟩
   |ob M n=>
    cases M with
    |dint L=>
     obtain⟨b,f,o,c⟩:=g;exact bE.mpr ⟨a,b,rfl,⟨_,.inl (by unfold frz;rw[l];exact f),rfl,o⟩,c.mono h.frz_sub⟩
    |_=>exact g.elim
   |_=>exact g.elim
  |ox j n=>
   cases e;obtain⟨a,P,m,⟨b,A,z,y,x,O,w⟩,_⟩:=h.ex.1 i j n q;refine⟨_,m,aM.mpr ⟨a,b,rfl,pZ.of (by unfold frz;rw[A];exact z),Ds y λk d v r p=>?_⟩⟩;cases t:wc j k with
   |true=>
    obtain⟨U,u,J,Q,I,G,C,B⟩:=x k t;rw[I]at r;cases r;rw[G]at p;cases p;exact aF.mpr ⟨P k,u,rfl,gH.of (by unfold frz;rw[J];exact C),B.mono h.frz_sub⟩
   |false=>exact(w k d v t r p).mono h.frz_sub
def f9.put(h:f9 K He η Ha σ H ρ)(r:Rep K Ha d v):f9 K He η Ha (σ.set i<|W1 v) H (ρ.set i<|.sh d):=by
 have key:∀(j:Nat) (s:Sl),(ρ.set i<|.sh d)[j]?=W1 s->(j=i/\s=.sh d/\i<σ.length)∨(j≠i/\ρ[j]?=W1 s):=λj s e=>by
  by_cases c:i=j
  .subst c
   rw[XH]at e;cases q:ρ[i]? with
   |none=>rw[q]at e;cases e
   |some M=>
    rw[q]at e;cases e;refine .inl ⟨rfl,rfl,?_⟩;rw[←h.ln];exact(Uz.mp q).1
  .rw[UN c]at e
   exact .inr ⟨λz=>c z.symm,e⟩
 refine⟨h.g,λj t e=>?_,λj t e=>?_,λj k I G x C B=>?_,by simp[h.ln],h.ex.upd (λj s e=>?_) (aE.refl _) (λa J _ e=>e) λp L _ A w _=>⟨w,A⟩⟩
 rotate_left 3
 .rcases key j _ e with⟨rfl,b,f⟩|⟨c,b⟩
  .exact .inr<|.inl ⟨d,b⟩
  .exact .inl ⟨b,by rw[UN (Vw c)]⟩
 .rcases key j _ e with⟨rfl,b,f⟩|⟨c,b⟩
  .cases b
   exact⟨v,by rw[Vk f],r⟩
  .obtain⟨u,m,l⟩:=h.rd j t b
   exact⟨u,by rw[UN (Vw c)];exact m,l⟩
 .rcases key j _ e with⟨rfl,b,f⟩|⟨c,b⟩
  .cases b
  .obtain⟨a,m,l⟩:=h.ow j t b
   exact⟨a,by rw[UN (Vw c)];exact m,l⟩
 .rcases key j _ C with⟨_,b,_⟩|⟨c,o⟩
  .cases b
  rcases key k _ B with⟨_,b,_⟩|⟨y,n⟩
  .cases b
  rw[UN (Vw c),UN<|Vw y];exact h.ap j k I G x o n
def f9.putOwn(h:f9 K He η Ha σ H ρ)(w:∀(j:Nat) (a:UD),σ[j]?=W1 (W1<|V.ref a)->a=p->∀d:D,ρ[j]?≠W1 (Sl.ow d))(L:He p=Wp)(y:Ha p=Wp)(J:H p=W1 (.lst vs))(r:Reps K Ha ds vs)(I:∀(i j:Nat) (ds:ac) (a:UD) (P:Nat->UD),ρ[i]?=W1 (.ox j ds)->σ[i]?=W1 (W1<|.ref a)->RC K He Ha H a j ds P->∀l,wc j l=VT->p≠P l) :
  f9 K He η Ha (σ.set i<|W1<|.ref p) H (ρ.set i<|.ow<|.lst ds):=by
 have key:∀(j:Nat) (s:Sl),(ρ.set i<|.ow<|.lst ds)[j]?=W1 s->(j=i/\s=.ow (.lst ds)/\i<σ.length)∨(j≠i/\ρ[j]?=W1 s):=λj s e=>by
  by_cases b:i=j
  .subst b
   rw[XH]at e;cases q:ρ[i]? with
   |none=>rw[q]at e;cases e
   |some O=>
    rw[q]at e;cases e;refine .inl ⟨rfl,rfl,?_⟩;rw[←h.ln];exact(Uz.mp q).1
  .rw[UN b]at e
   exact .inr ⟨λz=>b z.symm,e⟩
 have other:∀(k:Nat) (n:D),k≠i->ρ[k]?=W1 (.ow n)->W1 (W1<|V.ref p)≠σ[k]?:=λk n t u z=>by
  obtain⟨a,o,_⟩:=h.ow k n u;rw[o]at z;cases z;exact w k p o rfl n u
 refine⟨h.g,λj A e=>?_,λj A e=>?_,λj k C n B M u=>?_,by simp[h.ln],h.ex.upd (λj s e=>?_) (aE.refl _) (λa vs _ e=>e) λp N _ y w _=>⟨w,y⟩⟩
 rotate_left 3
 .rcases key j _ e with⟨rfl,c,f⟩|⟨b,c⟩
  .exact .inr (.inr<|.inr ⟨.lst ds,p,c,by rw[Vk f],I⟩)
  .exact .inl ⟨c,by rw[UN (Vw b)]⟩
 .rcases key j _ e with⟨rfl,c,f⟩|⟨b,c⟩
  .cases c
  .obtain⟨G,o,x⟩:=h.rd j A c
   exact⟨G,by rw[UN (Vw b)];exact o,x⟩
 .rcases key j _ e with⟨rfl,c,f⟩|⟨b,c⟩
  .cases c
   exact⟨p,by rw[Vk f],L,y,vs,J,r⟩
  .obtain⟨a,o,x⟩:=h.ow j A c
   exact⟨a,by rw[UN (Vw b)];exact o,x⟩
 .rcases key j _ M with⟨rfl,_,f⟩|⟨b,v⟩
  .rcases key k _ u with⟨rfl,_,_⟩|⟨t,m⟩
   .exact ee rfl B
   .rw[Vk f,UN<|Vw t]
    exact other k n t m
  .rcases key k _ u with⟨rfl,_,f⟩|⟨t,m⟩
   .rw[Vk f,UN<|Vw b]
    exact λz=>other j C b v z.symm
   .rw[UN (Vw b),UN<|Vw t]
    exact h.ap j k C n B v m
def f9.fresh_x{c:Hp}{p:UD}(h:f9 K He η Ha σ H ρ)(s:aE H H1)(y:H p=Wp):∀(i j:Nat) (ds:ac) (a:UD) (P:Nat->UD),ρ[i]?=W1 (.ox j ds)->σ[i]?=W1 (W1<|.ref a)->RC K He c H1 a j ds P->∀l,wc j l=VT->p≠P l:=λi j ds a P u t r l f=>by
 obtain⟨A,B,e,⟨v,_,g,_,q,_⟩,_⟩:=h.ex.1 i j ds u;rw[t]at e;cases e;obtain⟨w,_,n,_,o,_⟩:=r;have:=s _ _ g;rw[n]at this;cases this;obtain⟨_,x,_,_,_,b,d,_⟩:=q l f;obtain⟨_,_,_,_,_,m,_⟩:=o l f;rw[m]at b;injection b with b;injection b with b;intro z;rw[←b,←z,y]at d;cases d
def f9.write(h:f9 K He η Ha σ H ρ)(e:ρ[i]?=W1 (.ow d))(es:σ[i]?=W1 (W1<|.ref p))(r:Reps K Ha ds vs) :
  f9 K He η Ha σ (upd H p<|.lst vs) (ρ.set i<|.ow<|.lst ds):=by
 obtain⟨a,v,h2,h3,J⟩:=h.ow i d e;rw[v]at es;cases es;have T:i<ρ.length:=(Uz.mp e).1;have key:∀(j:Nat) (s:Sl),(ρ.set i<|.ow<|.lst ds)[j]?=W1 s->(j=i/\s=.ow (.lst ds))∨(j≠i/\ρ[j]?=W1 s):=λj s e=>by
  by_cases u:i=j
  .subst u
   rw[Vk T]at e;cases e;exact .inl ⟨rfl,rfl⟩
  .rw[UN u]at e
   exact .inr ⟨λz=>u z.symm,e⟩
 refine⟨⟨λb o n=>?_,h.g.z,λb o n=>?_,h.g.nw⟩,λj G C=>?_,λj G C=>?_,λj k d1 d2 I e1 e2=>?_,by simp[h.ln],h.ex.upd (λj s C=>?_) (aE.refl _) (λb us _ n=>?_) λq us _ q0 hq hd=>?_⟩
 rotate_left 5
 .rcases key j _ C with⟨rfl,c⟩|⟨u,c⟩
  .exact .inr (.inr<|.inr ⟨.lst ds,p,c,v,λi' j' m a' P' x1 x2 x3 l L=>by
    obtain⟨a2,P2,y1,y2,y3,_⟩:=h.ex.1 i' j' m x1;rw[x2]at y1;cases y1;have:P2 l=P' l:=by
     obtain⟨ah,_,z1,_,y5,_⟩:=x3;obtain⟨ab,_,Y,_,y4,_⟩:=y2;rw[z1]at Y;cases Y;obtain⟨_,_,_,_,_,z2,_⟩:=y5 l L;obtain⟨_,_,_,_,_,y,_⟩:=y4 l L;rw[z2]at y;injection y with y;injection y with y;exact y.symm
    rw[←this];intro zz;rw[zz]at v;exact y3 j d l L e v⟩)
  .exact .inl ⟨c,rfl⟩
 .rw[aA (by
   intro z;subst z;cases d with
   |lst m|dic M m=>obtain⟨f,t,_⟩:=J;rw[t]at n;cases n
   |ob N m=>
    cases N with|dint M=>obtain⟨f,t,_⟩:=J;rw[t]at n;cases n| _=>exact J.elim
   |_=>exact J)];exact n
 .have O:q≠p:=by
   intro z;subst z;exact hd i d e v
  exact⟨by rw[aA O];exact hq,q0⟩
 .rw[aA (by intro z;subst z;rw[h2]at n;cases n)];exact h.g.s _ _ n
 .rw[aA (by intro z;subst z;rw[h3]at n;cases n)];exact h.g.sub _ _ n
 .rcases key j _ C with⟨rfl,c⟩|⟨u,c⟩
  .cases c
  .exact h.rd j G c
 .rcases key j _ C with⟨rfl,c⟩|⟨u,c⟩
  .cases c
   exact⟨p,v,h2,h3,vs,aG,r⟩
  .obtain⟨b,k1,k2,k3,A⟩:=h.ow j G c
   refine⟨b,k1,k2,k3,?_⟩;have U:b≠p:=by
    intro z;subst z;exact h.ap j i G d u c e (by rw[k1,v])
   cases G with
   |lst m=>
    obtain⟨f,t,B⟩:=A;exact⟨f,by rw[aA U];exact t,B⟩
   |dic M m=>
    obtain⟨f,t,Q,B⟩:=A;exact⟨f,by rw[aA U];exact t,Q,B⟩
   |ob N m=>
    cases N with
    |dint M=>
     obtain⟨f,t,Q,B⟩:=A;exact⟨f,by rw[aA U];exact t,Q,B⟩
    |_=>exact A.elim
   |_=>exact A.elim
 .rcases key j _ e1 with⟨rfl,x⟩|⟨u,x⟩
  .rcases key k _ e2 with⟨rfl,_⟩|⟨hk,w⟩
   .exact ee rfl I
   .exact h.ap j k d d2 I e w
  .rcases key k _ e2 with⟨rfl,_⟩|⟨hk,w⟩
   .exact h.ap j k d1 d I x e
   .exact h.ap j k d1 d2 I x w
end
mutual
def jS:D->Bool
 |.lst _=>U9
 |.dic _ _=>U9
 |.exc _=>U9
 |.ob _ _=>U9
 |.tup a=>flats a
 |_=>VT
def flats:ac->Bool
 |[]=>VT
 |d::a=>jS d&&flats a
end
mutual
theorem Rep.flat_to{K:Uv}{H H':Hp}(e:∀a vs,Rd H a (.tup vs)->Rd H' a (.tup vs)):∀{d:D}{v:V},jS d=VT->Rep K H d v->Rep K H' d v
 |.non,_,_,h=>by unfold Rep at h ⊢;exact h
 |.bl _,_,_,h=>by unfold Rep at h ⊢;exact h
 |.int _,_,_,h=>by unfold Rep at h ⊢;exact h
 |.str _,_,_,h=>by unfold Rep at h ⊢;exact h
 |.tup c,_,f,h=>by
  unfold jS at f;obtain⟨a,vs,i,b,g⟩:=aM.mp h;refine aM.mpr ⟨a,vs,i,?_,Reps.flat_to e f g⟩;rcases b with b|b
  .exact .inl<|e _ _ b
  .exact .inr b
 |.lst c,_,f,h=>by unfold jS at f;cases f
 |.dic j c,_,f,h=>by unfold jS at f;cases f
 |.exc x,_,f,h=>by unfold jS at f;cases f
 |.ob k c,_,f,h=>by unfold jS at f;cases f
theorem Reps.flat_to{K:Uv}{H H':Hp}(e:∀a vs,Rd H a (.tup vs)->Rd H' a (.tup vs)):∀{ds:ac}{vs:ad},flats ds=VT->Reps K H ds vs->Reps K H' ds vs
 |[],_,_,h=>by unfold Reps at h ⊢;exact h
 |d::ds,_,f,h=>by
  unfold flats at f;rw[US]at f;obtain⟨v,r,g,c,b⟩:=aC.mp h;exact aC.mpr ⟨v,r,g,Rep.flat_to e f.1 c,Reps.flat_to e f.2 b⟩
end
def kD(Ha J:Hp):Hp:=λa=>match Ha a with
 |some o=>W1 o
 |none=>match J a with
  |some (.tup b)=>W1<|.tup b
  |some (.frz o (.tup b))=>W1<|.frz o<|.tup b
  |_=>Wp
section
variable {K:Uv}{E:XK}{He η Ha H H1 J:Hp}{σ:L2.St}{ρ:Ev}
def Mb(h:aE Ha J):∀a o,kD Ha J a=W1 o->J a=W1 o:=λa o e=>by
 unfold kD at e;cases q:Ha a with
 |some u=>rw[q]at e;cases e;exact h _ _ q
 |none=>
  rw[q]at e;cases b:J a with
  |none=>rw[b]at e;cases e
  |some u=>
   rw[b]at e;cases u with
   |tup c=>cases e;rfl
   |frz o d=>
    cases d with|tup c=>cases e;rfl| _=>cases e
   |_=>cases e
def zB(h:aE Ha J)(a:UD)(vs:ad)(e:Rd J a<|.tup vs):Rd (kD Ha J) a (.tup vs):=by
 rcases e with e|⟨o,e⟩
 .refine .inl ?_
  unfold kD;cases q:Ha a with|some u=>have:=h _ _ q;rw[e]at this;cases this;rfl|none=>rw[e]
 .refine .inr ⟨o,?_⟩
  unfold kD;cases q:Ha a with|some u=>have:=h _ _ q;rw[e]at this;cases this;rfl|none=>rw[e]
def f9.behind(h:f9 K He η Ha σ H ρ)(g:bC H (frz He Ha H) H1 J):f9 K He η (kD Ha J) σ H1 ρ:=by
 have B:aE Ha J:=h.frz_sub.trans g.z;have le:=Mb (Ha:=Ha) (J:=J) B;have z:aE Ha (kD Ha J):=λb o e=>by unfold kD;rw[e]
 refine⟨⟨h.g.s.trans g.s,h.g.z.trans z,λb o e=>g.sub _ _ (le b o e),λa G C=>?_⟩,h.rd.mono z,λi d e=>?_,h.ap,h.ln,h.ex.upd (λj s e=>.inl ⟨e,rfl⟩) z (λa c _ e=>g.s _ _ e) λp w y I m _=>⟨g.s _ _ m,by
  have:frz He Ha H p=W1 (.lst w):=by unfold frz;rw[y];exact m
  have:=g.z _ _ this;unfold kD;rw[I,this]⟩⟩
 .cases q:kD Ha J a with
  |none=>exact ee q G
  |some o=>
   have A:=le a o q;exact(h.frz_grow.trans g).nw a (by rw[A];simp) C
 .obtain⟨a,x,k2,v,l⟩:=h.ow i d e
  refine⟨a,x,k2,?_,?_⟩
  .cases d with
   |lst t=>
    obtain⟨c,f,_⟩:=l;have:frz He Ha H a=W1 (.lst c):=by unfold frz;rw[k2];exact f
    have:=g.z _ _ this;unfold kD;rw[v,this]
   |dic n t=>
    obtain⟨c,f,_⟩:=l;have:frz He Ha H a=W1 (.dK<|(n.map VJ).zip c):=by unfold frz;rw[k2];exact f
    have:=g.z _ _ this;unfold kD;rw[v,this]
   |ob u t=>
    cases u with
    |dint n=>
     obtain⟨c,f,_⟩:=l;have:frz He Ha H a=W1 (.dK<|(n.map Yc).zip c):=by unfold frz;rw[k2];exact f
     have:=g.z _ _ this;unfold kD;rw[v,this]
    |_=>exact l.elim
   |_=>exact l.elim
  .cases d with
   |lst t=>obtain⟨c,f,r⟩:=l;exact⟨c,g.s _ _ f,r.mono z⟩
   |dic n t=>obtain⟨c,f,m,r⟩:=l;exact⟨c,g.s _ _ f,m,r.mono z⟩
   |ob u t=>
    cases u with|dint n=>obtain⟨c,f,m,r⟩:=l;exact⟨c,g.s _ _ f,m,r.mono z⟩| _=>exact l.elim
   |_=>exact l.elim
end
section
variable {X:Cx}{E:XK}{He η:Hp}{st:WE}{rest:List WE}{e a b:Vt}{es:List Vt}{f g:al}{fa:Ev->aw (ac)}{s t:am}{pos:Pos}
def cH{t t':TS}(h:PS X st t)(w:∀D c H,t' D c H->t D c H):PS X st t':=λd s c H D I q=>h d s c H D I<|w D c H q
def j9{t t':TS}(h:zE X rest t)(w:∀D c H,t' D c H->t D c H):zE X rest t':=λd s c H D I q=>h d s c H D I<|w D c H q
def ao:am:=λc=>.ok<|.nx c
def aq(s t:am):am:=λd=>(s d).bind λr=>match r with
 |.nx c=>t c
 |r=>.ok r
def au:zM X E He η [] ao:=⟨j9 yA λD c H ⟨d,i,h,q⟩=>q c H d (aE.refl _) h⟩
def ai(u:DS X E He η st s)(p:zM X E He η rest t):zM X E He η (st::rest) (aq s t):=by
 refine⟨?_⟩;refine j9 (og u.o p.o) λD y H z9=>?_;obtain⟨w,j,h,q⟩:=z9;refine⟨w,j,h,?_⟩
 unfold aq at q;cases l:s j with
 |stuck|exn x=>rwa[l]at q
 |ok r=>
  rw[l]at q;cases r with|nx c=>exact λm z i n v=>⟨i,c,v,bZ.grow (r:=t c) q n⟩|rt d|bk c|ct c=>exact q
def dI:am:=λ_=>.stuck
def dN:DS X E He η st dI:=⟨cH HB λD c H ⟨i,d,h,q⟩=>q⟩
def plain{K:Uv}{k:D->aw Fl}(h:f9 K He η Ha n H ρ) 
  (q:bZ K E He η Ha (r.bind k) m)(j:∀d v H' c,r=.ok d->bC H Ha H' c->Rep K c d v->bZ K E He η c (k d) m->Q v H'):post K E H Ha r Q:=by
 cases r with|stuck=>exact q|exn x=>exact λC ox H' c g l=>q C ox H' c (h.g.trans g) l|ok d=>exact λv H' c g i=>j d v H' c rfl g i (bZ.grow (r:=k d) q g.z)
def look{K:Uv}{k:D->aw Fl}(h:f9 K He η Ha n H ρ) 
  (q:bZ K E He η Ha (r.bind k) m)(j:∀d v H' J,r=.ok d->bC H (frz He Ha H) H' J->Rep K J d v->bZ K E He η Ha (k d) m->Q v H'):post K E H (frz He Ha H) r Q:=by
 cases r with|stuck=>exact q|exn x=>exact λC ox H' c g l=>q C ox H' c (h.frz_grow.trans g) l|ok d=>exact λv H' J g i=>j d v H' J rfl g i q
def ML{K:Uv}{k:Bool->aw Fl}(h:f9 K He η Ha m H ρ) 
  (q:bZ K E He η Ha (r.bind λx=>match x with|.bl b=>k b|_=>.stuck) l)(i:∀b H',aE H H'->bZ K E He η Ha (k b) l->Q b H'):tN K E H (frz He Ha H) r Q:=by
 cases r with
 |stuck=>exact q|exn x=>exact λC ox H' c g j=>q C ox H' c (h.frz_grow.trans g) j
 |ok d=>
  cases d with|bl b=>exact λH' J g=>i b H' g.s q| _=>exact q.elim
def aH(i:Nat)(f:al):am:=λc=>(f c).bind λd=>.ok<|.nx<|c.set i<|.sh d
def w6(i:Nat)(f:al):am:=λc=>(f (iD c)).bind λd=>if jS d=VT then .ok (.nx<|c.set i<|.sh d) else .stuck
def bh(f:al):am:=λc=>(f (iD c)).bind λd=>.ok<|.rt d
def ff(f:al):am:=λc=>(f (iD c)).bind λ_=>.ok<|.nx c
def cT(c:al)(s t:am):am:=λd=>(c (iD d)).bind λx=>match x with
 |.bl b=>if b=VT then s d else t d
 |_=>.stuck
def aJ(w:X.N.Nodup)(hi:X.N[i]?=W1 x)(n:JC X.env.scope x)(u:DE X E e f)(p:V0 e (W1<|.Name x pos') pos.line X.env=pure U9:=by rfl)
  (r:X.fn x=VT∨X.env.scope.names.lookup x=W1 .local := by first|exact .inl rfl|exact .inr rfl|assumption):DS X E He η (.Assign [.Name x pos'] e pos) (aH i f):=by
 refine⟨?_⟩;refine cH (tK w hi n u.o p r) λD A H z9=>?_;obtain⟨y,j,h,q⟩:=z9;refine⟨y,j,h.g.sub,h.rd,?_⟩
 refine plain h q λd v z c _ g l m=>?_;exact m _ z c (aE.refl _)<|(h.grow g).put l
def Ec(y:X.N.Nodup)(hi:X.N[i]?=W1 x)(p:JC X.env.scope x)(w:DE X E e f)(r:V0 e (W1<|.Name x pos') pos.line X.env=pure U9:=by rfl)
  (u:X.fn x=VT∨X.env.scope.names.lookup x=W1 .local := by first|exact .inl rfl|exact .inr rfl|assumption):DS X E He η (.Assign [.Name x pos'] e pos) (w6 i f):=by
 refine⟨?_⟩;refine cH (tK y hi p w.o r u) λD C H z9=>?_;obtain⟨l,m,h,q⟩:=z9;refine⟨frz He l H,iD m,h.frz_le,h.looks,?_⟩
 refine look h q λd v B J _ g n c=>?_
 by_cases j:jS d=VT
 .rw[dh j]at c
  have A:aE l J:=h.frz_sub.trans g.z;refine c _ B (kD l J) (λb o e=>by unfold kD;rw[e])<|(h.behind g).put<|n.flat_to (zB A) j
 .rw[dV j]at c;exact c.elim
def aO(l:DE X E e f):DS X E He η (.Return (W1 e) pos) (bh f):=by
 refine⟨?_⟩;refine cH (NQ l.o) λD p H z9=>?_;obtain⟨m,c,h,q⟩:=z9;refine⟨frz He m H,iD c,h.frz_le,h.looks,?_⟩
 exact look h q λd v n J _ g i j=>j v n J (h.frz_grow.trans g) i
def gC(n:DE X E e f)(m:V0 e Wp pos.line X.env=pure U9:=by rfl):DS X E He η (.Expr e pos) (ff f):=by
 refine⟨?_⟩;refine cH (yB n.o m) λD i H z9=>?_;obtain⟨c,j,h,q⟩:=z9;refine⟨frz He c H,iD j,h.frz_le,h.looks,?_⟩
 exact look h q λd v p J _ g r l=>l i p c (aE.refl _)<|h.same g.s
def bN(p:DT X E c v)(u:zM X E He η n s)(r:zM X E He η m t):DS X E He η (.If c n m pos) (cT v s t):=by
 refine⟨?_⟩;refine cH (Qx p.o u.o r.o) λD w H z9=>?_;obtain⟨j,d,h,q⟩:=z9;refine⟨frz He j H,iD d,h.frz_le,h.looks,?_⟩
 refine ML (k:=λb=>if b=VT then s d else t d) h q λb x l i=>?_;cases b with|true=>rw[dh rfl]at i ⊢;exact⟨j,d,h.same l,i⟩|false=>rw[dV Vn]at i ⊢;exact⟨j,d,h.same l,i⟩
noncomputable def tF(K:Uv) (E:XK) (f:al):TE:=λm H Q=>∃i j,aE i H/\fW K i m j/\match f j with
 |.ok (.lst n)=>∀p l d c,bC H i d c->H p=Wp->c p=Wp->d p=W1 (.lst l)->Reps K c n l->Q (.ref p) d
 |.ok _=>False
 |.exn x=>∀C ox d c,bC H i d c->zI K c x C ox->E C ox d
 |.stuck=>False
structure DF (X:Cx) (E:XK) (e:Vt) (f:al):Prop where
 o:PE X e (tF X.K E f)
def j8(i:Nat)(f:al):am:=λc=>(f c).bind λd=>match d with
 |.lst j=>.ok<|.nx<|c.set i<|.ow<|.lst j
 |_=>.stuck
def kS(T:X.N.Nodup)(hi:X.N[i]?=W1 x)(J:JC X.env.scope x)(Q:DF X E e f)(M:V0 e (W1<|.Name x pos') pos.line X.env=pure U9:=by rfl)
  (O:X.fn x=VT∨X.env.scope.names.lookup x=W1 .local := by first|exact .inl rfl|exact .inr rfl|assumption):DS X E He η (.Assign [.Name x pos'] e pos) (j8 i f):=by
 refine⟨?_⟩;refine cH (tK T hi J Q.o M O) λD σ H z9=>?_;obtain⟨Ha,y,h,q⟩:=z9;refine⟨Ha,y,h.g.sub,h.rd,?_⟩
 unfold j8 at q;cases v:f y with
 |stuck=>rwa[v]at q|exn x=>rw[v]at q;exact λC ox w c g Y=>q C ox w c (h.g.trans g) Y
 |ok d=>
  rw[v]at q;cases d with
  |lst ds=>
   intro p vs w c g r U L B;refine q _ w c g.z<|(h.grow g).putOwn (λj a ej ea d ed=>?_) (h.g.s.free r) U L B<|h.fresh_x g.s r;subst ea;obtain⟨a',A,_,_,n⟩:=h.ow j d ed;rw[ej]at A;cases A;cases d with
   |lst m|dic G m=>obtain⟨u,l,_⟩:=n;rw[r]at l;cases l
   |ob I m=>
    cases I with|dint G=>obtain⟨u,l,_⟩:=n;rw[r]at l;cases l| _=>exact n.elim
   |_=>exact n.elim
  |_=>exact q.elim
def jo(h:DA X E es fa):DF X E (.List es pos) (ak fa bD):=by
 refine⟨?_⟩;refine bF (HJ h.o) λL H Q h=>?_;obtain⟨u,v,B,G,q⟩:=h;refine⟨u,v,B,G,?_⟩;unfold ak at q;cases A:fa v with
 |stuck|exn x=>rwa[A]at q
 |ok m=>
  rw[A]at q;intro j M i l w;replace q:match bD m with
   |.ok (.lst m)=>∀p j d c,bC H u d c->H p=Wp->c p=Wp->d p=W1 (.lst j)->Reps X.K c m j->Q (.ref p) d
   |.ok _=>False
   |.exn x=>∀C ox d c,bC H u d c->zI X.K c x C ox->E C ox d
   |.stuck=>False:=q
  unfold bD at q
  by_cases r:m.length<=line
  .rw[dh r]at q
   refine⟨by rw[←w.length];exact fF r,λp n=>?_⟩;have y:i p=Wp:=l.sub.free n;refine q p j _ i (l.trans ⟨λb o q=>by rw[aA (aP q n)];exact q,aE.refl _,λb o q=>?_,λa J I=>ee I J⟩) (l.s.free n) y aG w;rw[aA (by intro z;subst z;rw[y]at q;cases q)];exact l.sub _ _ q
  .rw[dV r]at q;exact q.elim
def Ak(ρ:Ev)(i:Nat)(k:ac->aw Fl):aw Fl:=match ρ[i]? with
 |some (.ow (.lst c))=>k c
 |_=>.stuck
def bU(i:Nat)(f:al):am:=λc=>Ak c i λj=>(f c).bind λd=>if j.length<line then .ok (.nx<|c.set i<|.ow<|.lst<|j++[d]) else .stuck
def tU{K:Uv}{k:ac->aw Fl}(h:f9 K He η Ha c H ρ)(q:bZ K E He η Ha (Ak ρ i k) u) :
  ∃ds p vs,ρ[i]?=W1 (.ow<|.lst ds)/\c[i]?=W1 (W1<|.ref p)/\He p=Wp/\Ha p=Wp/\H p=W1 (.lst vs)/\Reps K Ha ds vs/\bZ K E He η Ha (k ds) u:=by
 unfold Ak at q;cases e:ρ[i]? with
 |none=>rw[e]at q;exact q.elim
 |some s=>
  rw[e]at q;cases s with
  |no|sh d|ox j ds|pt a=>exact q.elim
  |ow d=>
   cases d with
   |lst ds=>
    obtain⟨p,r,o,n,vs,m,l⟩:=h.ow i _ e;exact⟨ds,p,vs,rfl,r,o,n,m,l,q⟩
   |_=>exact q.elim
def dO(hN:X.N[i]?=W1 x)(U:BX X.env.scope x)(Y:DE X E e f)
  (hd:1#x:=by decide)(A:3#x:=by decide)
  (l:Xq (.Name x u) "append" X.env (eval (.Name x u) X.env)=eval (.Name x u) X.env:=by rfl)
  (n:((VQ m<|UJ [e] X.env).all (λx=>!x.1)&&(YE m<|Xz [] X.env).all (λx=>x.1.isSome)
  &&decide ([e].length+([]:List Yt).length+(if([]:List Yt).isEmpty then 0 else 1)<30))=VT:=by exact uE rfl)
  (j:(G.endLine==m.line)=VT:=by rfl) (I:UJ [e] X.env=(U9,eval e X.env)::UJ [] X.env:=by exact aW rfl) (c:(VQ m<|UJ [] X.env).any (·.1)=U9:=by exact cC rfl)
  (hw:V0 (.Call (.Attribute (.Name x u) "append" G) [e] [] m) Wp pos.line X.env=pure U9:=by rfl) :
  DS X E He η (.Expr (.Call (.Attribute (.Name x u) "append" G) [e] [] m) pos) (bU i f):=by
 refine⟨?_⟩;refine cH (yB (HM ZQ PySem.F.slot_list_append PySem.F.type_list_append xp (je hN U hd A) (gu Y.o kL I) l n j I c) hw) λD O H ⟨Ha,Q,h,q⟩=>?_;obtain⟨ds,p,w,e1,M,e3,e4,L,J,q⟩:=tU h q;refine⟨.ref p,M,.inl ⟨rfl,w,gH.of L⟩,?_⟩;refine⟨Ha,Q,h.g.sub,h.rd,plain h q λd v H' C _ g T r=>?_⟩
 by_cases y:ds.length<line
 .rw[dh y]at r
  have B:H' p=W1 (.lst w):=g.s _ _ L;refine⟨p,w,v,rfl,rfl,B,by rw[←J.length];exact Uy y 0#1,?_⟩;exact r O _ C (aE.refl _)<|(h.grow g).write e1 M<|(J.mono g.z).app<|Reps.cons T Reps.nil
 .rw[dV y]at r;exact r.elim
def putAt(ρ:Ev)(i:Nat)(ds:ac)(d:D)(j:D):aw Fl:=match j with
 |.int j=>match AJ ds.length j with
  |some n=>.ok<|.nx<|ρ.set i<|.ow<|.lst<|ds.set n d
  |none=>.stuck
 |_=>.stuck
def qO(i:Nat)(f k:al):am:=λc=>Ak c i λl=>(f (iD c)).bind λd=>(k (iD c)).bind λj=>if jS d=VT then putAt c i l d j else .stuck
def Hy{K:Uv}(h:f9 K He η Ha c H ρ)(z:ρ[i]?=W1 (.ow<|.lst ds))(y:c[i]?=W1 (W1<|.ref p))(x:H p=W1 (.lst vs))(o:Reps K Ha ds vs)
  (r:Rep K Ha d v)(w:Rep K Ha j u)(q:bZ K E He η Ha (putAt ρ i ds d j) A):ME (.ref p) u v H λH'=>A.nx c H':=by
 unfold putAt at q;cases j with
 |int n=>
  cases l:AJ ds.length n with
  |none=>simp only[l]at q;exact q.elim
  |some m=>
   simp only[l]at q;refine⟨p,vs,n,m,rfl,ay.mp w,x,by rw[←o.length];exact l,?_⟩;exact q c _ Ha (aE.refl _)<|h.write z y<|o.set r m
 |_=>exact q.elim
section
variable {i:Nat}{x:UL}{p1 p2:Pos}{k:al}
def zh(hN:X.N[i]?=W1 x)(Y:BX X.env.scope x)(he:DE X E e f)(hk:DE X E b k)
  (hd:1#x:=by decide)(A:3#x:=by decide)
  (ha:∀v,assign (.Subscript (.Name x p1) b p2) X.env v=(do
   let w ←Yr [v] (eval (.Name x p1) X.env)
   let y ←Yr [v,w] (eval b X.env)
   standAt p2
   Yr [v,w,y] (setItem w y v)
   release [v,w,y] []):=by intro _;rfl)
  (hs:swapsWithSole [.Subscript (.Name x p1) b p2] e pos.line X.env=pure U9:=by rfl) (hw:swappedStores [.Subscript (.Name x p1) b p2] e X.env=pure Wp:=by rfl)
  (h1:(assignEach [.Subscript (.Name x p1) b p2] X.env).map (·.2)=[assign (.Subscript (.Name x p1) b p2) X.env]:=by rfl) :
  DS X E He η (.Assign [.Subscript (.Name x p1) b p2] e pos) (qO i f k):=by
 refine⟨?_⟩;refine cH (HC he.o (NW (je hN Y hd A) hk.o GV ha) hs hw h1) λD σ H z9=>?_;obtain⟨l,m,h,q⟩:=z9;refine⟨frz He l H,iD m,h.frz_le,h.looks,?_⟩
 obtain⟨M,p,vs,e1,L,e3,e4,e5,e6,q⟩:=tU h q;refine look (k:=λd=>(k (iD m)).bind λj=>if jS d=VT then putAt m i M d j else .stuck) h q λd v H1 O _ r U c=>⟨.ref p,L,?_⟩
 have ab:aE l O:=h.frz_sub.trans r.z;refine⟨O,iD m,r.sub,h.looks.mono r.z,?_⟩;cases ek:k (iD m) with
 |stuck=>rwa[ek]at c|exn x=>rw[ek]at c;exact λC ox H' I g ex=>c C ox H' I (h.frz_grow.trans<|r.trans g) ex
 |ok j=>
  rw[ek]at c;intro u H2 G J T;replace c:bZ X.K E He η l (if jS d=VT then putAt m i M d j else .stuck) D:=c
  by_cases B:jS d=VT
  .rw[dh B]at c
   have g:=r.trans J;have hJ:aE l G:=h.frz_sub.trans g.z;have z:aE l (kD l G):=λb o e=>by unfold kD;rw[e]
   have rd:=(U.mono J.z).flat_to (zB hJ) B;have Q:Rep X.K (kD l G) j u:=by
    cases j with|int n=>exact ay.mpr (ay.mp T)| _=>exact c.elim
   exact Hy (h.behind g) e1 L (g.s _ _ e5) (e6.mono z) rd Q<|c.grow z
  .rw[dV B]at c;exact c.elim
end
noncomputable def cD(tg:Ev->D->aw Ev) (body:am):ac->am
 |[],j=>.ok<|.nx j
 |d::r,j=>(tg j d).bind λi=>(body i).bind λx=>match x with
  |.nx c=>cD tg body r c
  |.ct c=>cD tg body r c
  |.bk c=>.ok<|.nx c
  |.rt d=>.ok<|.rt d
def tG(K:Uv)(He η:Hp)(tg:Ev->D->aw Ev):TG:=λv o H Q=>∃l m d,f9 K He η l o H m/\Rep K l d v/\match tg m d with
  |.ok j=>∀c n i,aE l i->f9 K He η i c n j->Q c n
  |_=>False
structure DG (X:Cx) (E:XK) (He η:Hp) (target:Vt) (tg:Ev->D->aw Ev):Prop where
 o:PG X target (tG X.K He η tg)
def bK(i:Nat):Ev->D->aw Ev:=λc d=>.ok<|c.set i<|.sh d
def yE{t t':TG}(h:PG X d t)(w:∀v c H Q,t' v c H Q->t v c H Q):PG X d t':=λi s c H v u Q I r q=>h i s c H v u Q I r<|w v c H Q q
def cj(m:X.N.Nodup)(hi:X.N[i]?=W1 x)(j:JC X.env.scope x)(l:X.fn x=VT∨X.env.scope.names.lookup x=W1 .local := by first|exact .inl rfl|exact .inr rfl|assumption):DG X E He η (.Name x pos) (bK i) :=
 ⟨yE (DJ m hi j l) λv o H Q ⟨n,p,d,h,c,q⟩=>q _ H n (aE.refl _)<|h.put c⟩
def jP(K:Uv)(E:XK)(He η l:Hp)(tg:Ev->D->aw Ev)(s:am)(ds:ac)(m:qG)(i:Nat)(j:L2.St)(H:Hp):Prop :=
 ∃c d,aE l c/\f9 K He η c j H d/\bZ K E He η c (cD tg s (ds.drop i) d) m
def jP.step{K:Uv}(h:jP K E He η C tg s ds n i M H)(y:ds[i]?=W1 d)(N:Rep K C d v)
  (O:∀ρ,tg ρ d=.stuck∨∃ρ',tg ρ d=.ok ρ') :
  tG K He η tg v M H λp Y=>tS K E He η s { n with nx:=jP K E He η C tg s ds n<|i+1,ct:=jP K E He η C tg s ds n<|i+1,bk:=n.nx } p Y:=by
 obtain⟨T,ρ,z,h,q⟩:=h;have I:i<ds.length:=(Uz.mp y).1;have w:ds.drop i=d::ds.drop (i+1):=by
  rw[V2 I];rw[Uq I]at y;cases y;rfl
 rw[w]at q;refine⟨T,ρ,d,h,N.mono z,?_⟩;unfold cD at q;rcases O ρ with B|⟨j,B⟩
 .rw[B]at q;exact q.elim
 .rw[B]at q ⊢
  intro L H' G u Q;refine⟨G,j,Q,?_⟩;replace q:=bZ.grow (r:=(s j).bind λx=>match x with
   |.nx c=>cD tg s (ds.drop<|i+1) c
   |.ct c=>cD tg s (ds.drop<|i+1) c
   |.bk c=>.ok<|.nx c
   |.rt d=>.ok<|.rt d) q u
  cases J:s j with
  |stuck|exn x=>rwa[J]at q
  |ok r=>
   rw[J]at q;cases r with|nx c=>exact λo U l m A=>⟨l,c,(z.trans u).trans m,A,bZ.grow (r:=cD tg s (ds.drop<|i+1) c) q m⟩|ct c=>exact λo U l m A=>⟨l,c,(z.trans u).trans m,A,bZ.grow (r:=cD tg s (ds.drop<|i+1) c) q m⟩|bk c|rt d=>exact q
def jP.done{K:Uv}(h:jP K E He η l tg s ds i ds.length c H):i.nx c H:=by
 obtain⟨d,j,z,h,q⟩:=h;rw[List.drop_length]at q;unfold cD at q;exact q c H d (aE.refl _) h
def BM(tg:Ev->D->aw Ev):Prop:=∀i d,tg i d=.stuck∨∃c,tg i d=.ok c
def dH:BM (bK i):=λc d=>.inr ⟨_,rfl⟩
def kI(f:al)(tg:Ev->D->aw Ev)(s:am):am:=λc=>(f c).bind λd=>match d with
 |.lst i=>cD tg s i c
 |_=>.stuck
def kT(U:PassesOwn 4#X X.A X.env X.xe)(hc:X.calm=VT)(hi:DE X E iter f)(Y:DG X E He η p tg)(Q:BM tg)(hb:zM X E He η body s)
  (T:∀x,foldedSetIterable iter X.env x=pure x:=by intro _;rfl):DS X E He η (.For p iter body [] pos) (kI f tg s):=by
 refine⟨?_⟩;refine cH (Cm U hc (DH hi.o) Y.o hb.o T) λM σ H z9=>?_;obtain⟨Ha,m,h,q⟩:=z9;refine⟨Ha,m,h.g.sub,h.rd,?_⟩
 refine plain h q λd v H1 l _ g O B=>?_;cases d with
 |lst J=>
  obtain⟨a,y,rfl,G,r⟩:=aF.mp O;refine⟨a,rfl,⟨y,aE.sqL g.sub G⟩,?_⟩;refine IH (K:=X.K) (a:=a) (g:=tG X.K He η tg) (tb:=tS X.K E He η s) (D:=M) (xs:=y) (jP X.K E He η l tg s J M) ⟨l,m,aE.refl _,h.grow g,B⟩ ?_ ?_ ?_
  .rintro i c L _ ⟨ab,N,z,h',_⟩
   exact aE.sqL (z.trans h'.g.sub) G
  .intro i x c L C n
   have j:i<J.length:=by rw[r.length];exact(Uz.mp C).1
   obtain⟨u,I,e2⟩:=r.get<|Uq j;rw[C]at I;cases I;exact n.step (Uq j) e2 λm=>Q m _
  .intro c L n
   rw[←r.length]at n;exact n.done
 |_=>exact B.elim
def intsFrom(lo:Int)(n:Nat):ac:=(VO n).map λ(k:Nat)=>D.int<|lo+(k:Int)
def tw(f:al)(tg:Ev->D->aw Ev)(s:am):am:=λc=>(f (iD c)).bind λd=>match d with
 |.int j=>if -4611686018427387904<=j/\j<4611686018427387904 then cD tg s (intsFrom 0 j.toNat) c else .stuck
 |_=>.stuck
def zi(Q:PassesOwn 4#X X.A X.env X.xe)(Y:X.calm=VT)(C:Gl X "range")(T:X.mg "range"=Wp)(hi:DE X E iter f)(U:DG X E He η z tg)(N:BM tg)(hb:zM X E He η body s)
  (r:UJ [iter] X.env=[(U9,eval iter X.env)]:=by exact gq rfl)(O:∀x,foldedSetIterable (.Call (.Name "range" p) [iter] [] m) X.env x=pure x:=by intro _;rfl):DS X E He η (.For z (.Call (.Name "range" p) [iter] [] m) body [] pos) (tw f tg s):=by
 refine⟨?_⟩;refine cH (Cm Q Y (xg C T (gu hi.o kL r) r) U.o hb.o O) λI σ H ⟨u,l,h,q⟩=>?_;refine⟨frz He u H,iD l,h.frz_le,h.looks,look h q λd v H1 J _ g M c=>?_⟩;cases d with
 |int j=>
  rw[ay.mp M];replace c:bZ X.K E He η u (if -4611686018427387904<=j/\j<4611686018427387904 then cD tg s (intsFrom 0 j.toNat) l else .stuck) I:=c
  by_cases L:-4611686018427387904<=j/\j<4611686018427387904
  .rw[dh L]at c
   refine⟨j,rfl,by omega,by omega,?_⟩;have hlen:(intsFrom 0 j.toNat).length=j.toNat:=by unfold intsFrom;simp
   refine Fy (lo:=0) (n:=j.toNat) (g:=tG X.K He η tg) (tb:=tS X.K E He η s) (D:=I) (jP X.K E He η u tg s (intsFrom 0 j.toNat) I) ⟨u,l,aE.refl _,h.same g.s,c⟩ ?_ ?_
   .intro i y H' B G
    refine G.step (d:=.int (0+i)) ?_ (ay.mpr rfl) λl=>N l _;unfold intsFrom;simp[B]
   .intro y H' G
    exact jP.done (ds:=intsFrom 0 j.toNat) (by rw[hlen];exact G)
  .rw[dV L]at c;exact c.elim
 |_=>exact c.elim
noncomputable def bY(c:al) (s:am):Nat->am
 |0,_=>.stuck
 |n+1,j=>(c (iD j)).bind λx=>match x with
  |.bl b=>if b=VT then(s j).bind λx=>match x with
    |.nx i=>bY c s n i
    |.ct i=>bY c s n i
    |.bk i=>.ok<|.nx i
    |.rt d=>.ok (.rt d)
   else .ok<|.nx j
  |_=>.stuck
def eZ(fuel:Ev->Nat)(c:al)(s:am):am:=λd=>bY c s (fuel d) d
def km(fuel:Ev->Nat)(hp:PassesOwn 4#X X.A X.env X.xe)(hc:DT X E c p)(hb:zM X E He η body s):DS X E He η (.While c body [] pos) (eZ fuel p s):=by
 refine⟨?_⟩;refine cH (HA hp hc.o hb.o) λY N H ⟨u,n,h,q⟩=>?_;refine⟨λm N H=>∃u n,f9 X.K He η u N H n/\bZ X.K E He η u (bY p s m n) Y,⟨fuel n,u,n,h,q⟩,?_⟩;rintro m I H1 ⟨y,j,C,L⟩;cases m with
 |zero=>exact L.elim
 |succ m=>
  refine⟨frz He y H1,iD j,C.frz_le,C.looks,?_⟩;unfold bY at L;refine ML (k:=λb=>if b=VT then(s j).bind λx=>match x with
    |.nx i=>bY p s m i
    |.ct i=>bY p s m i
    |.bk i=>.ok<|.nx i
    |.rt d=>.ok (.rt d)
   else .ok (.nx j)) C L λb H2 Q l=>?_
  cases b with
  |false=>
   rw[dV Vn]at l ⊢;exact l I H2 y (aE.refl _)<|C.same Q
  |true=>
   rw[dh rfl]at l ⊢;refine⟨λB U=>∃O,O < m+1/\∃u n,f9 X.K He η u B U n/\bZ X.K E He η u (bY p s O n) Y,λB U z=>z,y,j,C.same Q,?_⟩;cases T:s j with
   |stuck|exn x=>rwa[T]at l
   |ok r=>
    rw[T]at l;cases r with|nx i=>exact λG H3 v J M=>⟨m,WX _,v,i,M,bZ.grow (r:=bY p s m i) l J⟩|ct i=>exact λG H3 v J M=>⟨m,WX _,v,i,M,bZ.grow (r:=bY p s m i) l J⟩|bk i|rt d=>exact l
end
def bz(n:Nat)(s:am)(ds:ac):aw D:=(s (ds.map Sl.sh++U1 (n-ds.length) .no)).bind λr=>match r with
 |.nx _=>.ok .non
 |.rt d=>.ok d
 |_=>.stuck
def qM{K:Uv}(h:Reps K Ha ds vs):fW K Ha (start N vs) (ds.map Sl.sh++U1 (N.length-ds.length) .no):=by
 intro i d e;have f:=h.length
 by_cases a:i<ds.length
 .rw[U0 (by simpa using a),Uw]at e
  cases q:ds[i]? with
  |none=>rw[q]at e;cases e
  |some g=>
   rw[q]at e;cases e;obtain⟨v,c,b⟩:=h.get q;refine⟨v,?_,b⟩;unfold L2.start;rw[U0 (by simp;omega),Uw,c];rfl
 .rw[U8 (by simpa using a),Vl]at e
  split at e<;>cases e
def wW{ds:ac}(i j:Nat)(es:ac):(ds.map Sl.sh++U1 n Sl.no)[i]?≠W1 (.ox j es):=λe=>by
 have:=UM e;rw[UO]at this;rcases this with h|h
 .obtain⟨_,_,h⟩:=UK.mp h;cases h
 .have:=ZJ h;cases this
def sX{ds:ac}{b:L2.St}(i:Nat)(a:UD)(e:(ds.map Sl.sh++U1 n Sl.no)[i]?=W1 (.pt a)):b[i]?=W1 (W1<|.ref a):=by
 have:=UM e;rw[UO]at this;rcases this with h|h
 .obtain⟨_,_,h⟩:=UK.mp h;cases h
 .have:=ZJ h;cases this
def Mr{K:Uv}{st:WE}{N ps:bv}{k:Nat}(F:BU K x qual st f e)(S:eJ N ps<|defScope st)(len:∀vs H Q E,sp vs H Q E->vs.length=ps.length)
  (b:∀(a:Ur),e.code=a->∀(A:VD) (outer:List VI) (s:UH) (H:Hp) (vs:ad) (Q:VK) (E:XK),cZ k (A.deeper<|envOfC qual (defScope st) 2#s f a)->sp vs H Q E ->
   ∃t,zE (gE CX0 P w K i base N qual (defScope st) f a A outer s H E).nox (defBody st) t/\t { nx:=λ_ H'=>Q .non H',rt:=Q } (start N vs) H):gi P w K i base CX0 (k+1) f e ps sp:=by
 obtain⟨n,m,kV,doc,l,o,a,ct,g,rfl,lk,d⟩:=F.ex;refine II lk d S len λA outer s H vs Q E j c=>?_;obtain⟨t,h,q⟩:=b a rfl A outer s H vs Q E j c;exact⟨t,h.nox,q⟩
def uD{K:Uv}{st:WE}{N ps:bv}{k:Nat}(F:BU K x qual st f u)(S:eJ N ps<|defScope st)
  (c:∀(a:Ur),u.code=a->∀(A:VD) (outer:List VI) (s0:UH) (H Ha:Hp) (E:XK),cZ k (A.deeper<|envOfC qual (defScope st) 2#s0 f a) ->
   zM (gE CX0 P w K I base N qual (defScope st) f a A outer s0 H E).nox E H Ha (defBody st) s):gi P w K I base CX0 (k+1) f u ps (spD K ps.length<|bz N.length s):=by
 have M:ps.length<=N.length:=by have:=en X6 S.pre;rw[V1]at this;omega
 refine Mr F S (λC H Q E h=>h.1) λa T A outer s0 H C Q E L h=>?_;obtain⟨Y,Ha,b,J,t,q⟩:=h;refine⟨_,(c a T A outer s0 H Ha E L).o,Ha,b.map Sl.sh++U1 (N.length-b.length) .no,?_,?_⟩
 .refine⟨bC.refl J,qM t,λi d e=>?_,λi j d z O e=>?_,?_,OX.none wW sX⟩
  .by_cases n:i<b.length
   .rw[U0 (by simpa using n),Uw]at e
    cases q:b[i]? with|none|some z=>rw[q]at e;cases e
   .rw[U8 (by simpa using n),Vl]at e
    split at e<;>cases e
  .by_cases n:i<b.length
   .rw[U0 (by simpa using n),Uw]at e
    cases q:b[i]? with|none|some z=>rw[q]at e;cases e
   .rw[U8 (by simpa using n),Vl]at e
    split at e<;>cases e
  .unfold L2.start
   have:=t.length;simp only[Vf,Ut,Wn];omega
 .unfold bz at q
  cases y:s (b.map Sl.sh++U1 (N.length-b.length) .no) with
  |stuck|exn x=>rwa[y]at q
  |ok r=>
   rw[y]at q;cases r with|nx m=>exact λB p l _ U=>q .non p l U.g (aS.mpr rfl)|rt d=>exact λv p l g G=>q v p l g G|bk m|ct m=>exact q.elim
def Fz{K:Uv}{st:WE}{N ps:bv}{k:Nat}(F:BU K x qual st f d)(S:eJ N ps<|defScope st)
  (b:∀(a:Ur) (A:VD) (outer:List VI) (s0:UH) (H Ha:Hp) (E:XK),cZ k (A.deeper<|envOfC qual (defScope st) 2#s0 f a) ->
   zM (gE CX0 P w K c base N qual (defScope st) f a A outer s0 H E).nox E H Ha (defBody st) s):gi P w K c base CX0 (k+1) f d ps (spD K ps.length<|bz N.length s):=uD F S λa _=>b a
mutual
def du:D->D->Bool
 |.non,.non=>VT
 |.bl a,.bl b=>a==b
 |.bl a,.int b=>(if a then 1 else 0)==b
 |.int a,.bl b=>a==(if b then 1 else 0)
 |.int a,.int b=>a==b
 |.str a,.str b=>a==b
 |.tup xs,.tup c=>eqDs xs c
 |.lst xs,.lst c=>eqDs xs c
 |_,_=>U9
def eqDs:ac->ac->Bool
 |[],[]=>VT
 |x::xs,y::a=>du x y&&eqDs xs a
 |_,_=>U9
end
def br:Nat->D->Bool
 |_,.non=>VT
 |_,.bl _=>VT
 |_,.int _=>VT
 |_,.str _=>VT
 |n+1,.tup a=>a.all<|br n
 |n+1,.lst a=>a.all<|br n
 |_,_=>U9
def xF(h:∀d∈ds,du d d=VT):eqDs ds ds=VT:=by
 induction ds with
 |nil=>simp[eqDs]
 |cons d r a=>
  unfold eqDs;rw[h d Uu,a λx b=>h x<|Up _ b];rfl
theorem pF:∀(n:Nat) (d:D),br n d=VT->du d d=VT
 |_,.non,_=>by simp[du]
 |_,.bl b,_=>by simp[du]
 |_,.int b,_=>by simp[du]
 |_,.str b,_=>by simp[du]
 |n+1,.tup a,h=>by
  unfold br at h;unfold du;exact xF λd c=>pF n d<|Vd.mp h d c
 |n+1,.lst a,h=>by
  unfold br at h;unfold du;exact xF λd c=>pF n d<|Vd.mp h d c
 |0,.tup a,h=>by unfold br at h;cases h
 |0,.lst a,h=>by unfold br at h;cases h
 |0,.dic e a,h=>by unfold br at h;cases h
 |n+1,.dic e a,h=>by unfold br at h;cases h
 |0,.exc x,h=>by unfold br at h;cases h
 |0,.ob k x,h=>by unfold br at h;cases h
 |n+1,.ob k x,h=>by unfold br at h;cases h
 |n+1,.exc x,h=>by unfold br at h;cases h
def Lz:du (.tup xs) (.tup ys)=eqDs xs ys:=by rw[du]
def pG:du (.lst xs) (.lst ys)=eqDs xs ys:=by rw[du]
theorem nN:∀(xs ys:ac),xs.length=ys.length->eqDs xs ys=(VO xs.length).all λj=>du (xs.getD j .non) (ys.getD j .non)
 |[],[],_=>by simp[eqDs]
 |x::xs,y::ys,h=>by
  have a:=nN xs ys (by simpa using h);unfold eqDs;rw[a,UP,Z3,W8,YB];rfl
 |[],_::_,h=>by simp at h
 |_::_,[],h=>by simp at h
theorem vp:∀(xs ys:ac),xs.length≠ys.length->eqDs xs ys=U9
 |[],[],h=>ee rfl h
 |x::xs,y::ys,h=>by
  unfold eqDs;rw[vp xs ys (by simpa using h),Yo]
 |[],_::_,h=>by simp[eqDs]
 |_::_,[],h=>by simp[eqDs]
section
variable {X:Cx}{π:List (UD×Obj)}{σ:L2.St}{H:Hp}{s:UH}
def bJ(I:Inv X π σ H s)(r:Rep X.K H (.tup ds) v)(e:bB v u):∃a vs its,v=.ref a/\u=.ref a/\pZ X.K H a vs/\Reps X.K H ds vs/\bo vs its/\IsTup s.heap a its.toArray/\ds.length=its.length:=by
 obtain⟨a,vs,rfl,d,c⟩:=aM.mp r;obtain rfl:u=Vg a:=e;obtain⟨its,b,f,_⟩:=I.tuple d;exact⟨a,vs,its,rfl,rfl,d,c,b,f,c.length.trans b.length⟩
def bw(I:Inv X π σ H s)(r:Rep X.K H (.lst ds) v)(e:bB v u):∃a vs its,v=.ref a/\u=.ref a/\gH X.K H a vs/\Reps X.K H ds vs/\bo vs its/\s.heap.IsList a its.toArray/\ds.length=its.length:=by
 obtain⟨a,vs,rfl,d,c⟩:=aF.mp r;obtain rfl:u=Vg a:=e;obtain⟨its,b,f,_⟩:=I.list d;exact⟨a,vs,its,rfl,rfl,d,c,b,f.isList,c.length.trans b.length⟩
theorem tH{n:Nat}(j:∀(d d':D) (v:V),br n d=VT->br n d'=VT->Rep X.K H d v->Rep X.K H d' v->d=d'):∀(ds b:ac) (vs:ad),ds.all (br n)=VT->b.all (br n)=VT->Reps X.K H ds vs->Reps X.K H b vs->ds=b
 |[],b,vs,_,_,h,c=>by
  rw[Reps.nil_iff.mp h]at c;cases b with|nil=>rfl|cons d r=>obtain⟨_,_,e,_⟩:=aC.mp c;cases e
 |d::ds,b,vs,a,i,h,c=>by
  obtain⟨v,r,rfl,m,l⟩:=aC.mp h;cases b with
  |nil=>cases Reps.nil_iff.mp c
  |cons d' b=>
   obtain⟨o,p,e,g,f⟩:=aC.mp c;cases e;rw[W8,US]at a i;rw[j d d' v a.1 i.1 m g,tH j ds b r a.2 i.2 l f]
def Rep.inj(I:Inv X π σ H s):∀(n:Nat) (d d':D) (v:V),br n d=VT->br n d'=VT->Rep X.K H d v->Rep X.K H d' v->d=d':=by
 have atom:∀(n:Nat) (d d':D) (v:V),(∀c,d≠.tup c)->(∀c,d≠.lst c)->br n d=VT->br n d'=VT->Rep X.K H d v->Rep X.K H d' v->d=d':=by
  intro n d d' v U T j i h f;have nd:∀m q c,br m (.dic q c)=VT->False:=λm q c h=>by cases m<;>(unfold br at h;cases h)
  have nx:∀m x,br m (.exc x)=VT->False:=λm x h=>by cases m<;>(unfold br at h;cases h)
  have z:∀m k x,br m (.ob k x)=VT->False:=λm k x h=>by cases m<;>(unfold br at h;cases h)
  cases d with
  |tup c=>exact ee rfl (U c)|lst c=>exact ee rfl (T c)|dic q c=>exact(nd _ _ _ j).elim|exc x=>exact(nx _ _ j).elim|ob k x=>exact(z _ _ _ j).elim
  |non=>
   rw[aS.mp h]at f;cases d' with|non=>rfl|bl b=>cases aI.mp f|int b=>cases ay.mp f|str b=>cases Rep.str_iff.mp f|tup c=>obtain⟨_,_,e,_⟩:=aM.mp f;cases e|lst c=>obtain⟨_,_,e,_⟩:=aF.mp f;cases e|dic q c=>exact(nd _ _ _ i).elim|exc x=>exact(nx _ _ i).elim|ob k x=>exact(z _ _ _ i).elim
  |bl x=>
   rw[aI.mp h]at f;cases d' with|non=>cases aS.mp f|bl b=>cases aI.mp f;rfl|int b=>cases ay.mp f|str b=>cases Rep.str_iff.mp f|tup c=>obtain⟨_,_,e,_⟩:=aM.mp f;cases e|lst c=>obtain⟨_,_,e,_⟩:=aF.mp f;cases e|dic q c=>exact(nd _ _ _ i).elim|exc x=>exact(nx _ _ i).elim|ob k x=>exact(z _ _ _ i).elim
  |int x=>
   rw[ay.mp h]at f;cases d' with|non=>cases aS.mp f|bl b=>cases aI.mp f|int b=>cases ay.mp f;rfl|str b=>cases Rep.str_iff.mp f|tup c=>obtain⟨_,_,e,_⟩:=aM.mp f;cases e|lst c=>obtain⟨_,_,e,_⟩:=aF.mp f;cases e|dic q c=>exact(nd _ _ _ i).elim|exc x=>exact(nx _ _ i).elim|ob k x=>exact(z _ _ _ i).elim
  |str x=>
   rw[Rep.str_iff.mp h]at f;cases d' with|non=>cases aS.mp f|bl b=>cases aI.mp f|int b=>cases ay.mp f|str b=>cases Rep.str_iff.mp f;rfl|tup c=>obtain⟨_,_,e,_⟩:=aM.mp f;cases e|lst c=>obtain⟨_,_,e,_⟩:=aF.mp f;cases e|dic q c=>exact(nd _ _ _ i).elim|exc x=>exact(nx _ _ i).elim|ob k x=>exact(z _ _ _ i).elim
 intro n
 induction n with
 |zero=>
  intro d d' v j i h f;exact atom 0 d d' v (λc e=>by subst e;unfold br at j;cases j) (λc e=>by subst e;unfold br at j;cases j) j i h f
 |succ n Q=>
  intro d d' v j i h f
  by_cases O:∃c,d=.tup c
  .obtain⟨c,rfl⟩:=O
   by_cases w:∃g,d'=.tup g
   .obtain⟨g,rfl⟩:=w
    obtain⟨a,t,rfl,C,B⟩:=aM.mp h;obtain⟨N,p,e,o,l⟩:=aM.mp f;cases e;rw[I.tuple_inj o C]at l;unfold br at j i;rw[tH Q c g t j i B l]
   .by_cases u:∃g,d'=.lst g
    .obtain⟨g,rfl⟩:=u
     obtain⟨a0,_,L,_,_⟩:=aM.mp h;subst L;obtain⟨a,t,E,M,_,C,B,Y,G,_⟩:=bJ I h rfl;cases M;obtain⟨N,p,A,e,_,o,l,J,r,_⟩:=bw I f rfl;cases e;exact ee rfl (Z0 r G)
    .exact(atom (n+1) d' _ v (λc e=>w ⟨c,e⟩) (λc e=>u ⟨c,e⟩) i j f h).symm
  .by_cases y:∃c,d=.lst c
   .obtain⟨c,rfl⟩:=y
    by_cases w:∃g,d'=.lst g
    .obtain⟨g,rfl⟩:=w
     obtain⟨a,t,rfl,C,B⟩:=aF.mp h;obtain⟨N,p,e,o,l⟩:=aF.mp f;cases e;rw[I.list_inj o C]at l;unfold br at j i;rw[tH Q c g t j i B l]
    .by_cases u:∃g,d'=.tup g
     .obtain⟨g,rfl⟩:=u
      obtain⟨a0,_,L,_,_⟩:=aF.mp h;subst L;obtain⟨a,t,E,M,_,C,B,Y,G,_⟩:=bw I h rfl;cases M;obtain⟨N,p,A,e,_,o,l,J,r,_⟩:=bJ I f rfl;cases e;exact ee rfl (Z0 G r)
     .exact(atom (n+1) d' _ v (λc e=>u ⟨c,e⟩) (λc e=>w ⟨c,e⟩) i j f h).symm
   .exact atom (n+1) d d' v (λc e=>O ⟨c,e⟩) (λc e=>y ⟨c,e⟩) j i h f
def AK{A:VD} 
  (L:∀(x y:D) (v u:V) (a b:Ur),br n x=VT->br n y=VT->Rep X.K H x v->Rep X.K H y u->bB v a->bB u b->U5 A.in1 s a b (du x y))
  (C:xs.all (br n)=VT)(B:ys.all (br n)=VT)(m:Reps X.K H xs vs)(l:Reps X.K H ys z)(p:bo vs d)(o:bo z c) :
  ∀j (r:j<d.toArray.size) (q:j<c.toArray.size),U5 A.in1 s d.toArray[j] c.toArray[j] (du (xs.getD j .non)<|ys.getD j .non):=by
 intro j r q;have lx:=m.length;have Y:=l.length;have kx:=p.length;have ky:=o.length;have i:j<d.length:=by simpa using r
 have g:j<c.length:=by simpa using q
 have f:j<xs.length:=by omega
 have e:j<ys.length:=by omega
 obtain⟨v,U,J⟩:=m.get<|Uq f;obtain⟨u,T,I⟩:=l.get<|Uq e;obtain⟨a,w,G⟩:=p.get U;obtain⟨b,t,E⟩:=o.get T;have Q:d.toArray[j]=a:=by
  rw[Uq i]at w;simpa using Vp w
 have O:c.toArray[j]=b:=by
  rw[Uq g]at t;simpa using Vp t
 rw[Q,O];have N:xs.getD j .non=xs[j]:=by simp[List.getD,Uq f]
 have M:ys.getD j .non=ys[j]:=by simp[List.getD,Uq e]
 rw[N,M];exact L _ _ v u a b (Vd.mp C _<|VB f) (Vd.mp B _<|VB e) J I G E
def Ae(I:Inv X π σ H s)(d:A.units<Xa)(i:Rep X.K H x v)(g:Rep X.K H y u)(l:bB v a)(j:bB u b)
  (B:∀ds p,¬(x=.lst ds/\y=.lst p))(z:∀ds p,¬(x=.tup ds/\y=.tup p))(C:∀ks ds,x≠.dic ks ds)(r:∀ks ds,y≠.dic ks ds)(x1:∀c,x≠.exc c)(x2:∀c,y≠.exc c)(w:∀k c,x≠.ob k c)(q:∀k c,y≠.ob k c) :
  Vb A s a b (du x y)/\U5 A s a b (du x y)/\U4 A s a b (!(du x y)):=by
 cases x with
 |non=>
  cases y with
  |non=>
   obtain rfl:=aS.mp i;obtain rfl:a=Wa:=l;obtain rfl:=aS.mp g;obtain rfl:b=Wa:=j;unfold du;exact⟨Vb.none_none ,Zh _,U4.none_none ⟩
  |bl y=>
   obtain rfl:=aS.mp i;obtain rfl:a=Wa:=l;obtain rfl:=aI.mp g;obtain rfl:b=Wb _:=j;unfold du;exact⟨Vb.none_bool _,U5.none_bool _,U4.none_bool _⟩
  |int y=>
   obtain rfl:=aS.mp i;obtain rfl:a=Wa:=l;obtain rfl:=ay.mp g;obtain⟨ty,rfl⟩:∃t,b=Wr _ t:=j;unfold du;exact⟨Vb.none_int _ _,U5.none_int _ _,U4.none_int _ _⟩
  |str y=>
   obtain rfl:=aS.mp i;obtain rfl:a=Wa:=l;obtain rfl:=Rep.str_iff.mp g;obtain⟨ty,rfl⟩:∃t,b=Wq _ t:=j;unfold du;exact⟨Vb.none_str _ _,U5.none_str _ _,U4.none_str _ _⟩
  |lst y=>
   obtain rfl:=aS.mp i;obtain rfl:a=Wa:=l;obtain⟨n,_,_,rfl,rfl,_,_,_,e,_⟩:=bw I g j;unfold du;exact⟨Vb.none_list  e d,U5.none_list  e d,U4.none_list  e d⟩
  |tup y=>
   obtain rfl:=aS.mp i;obtain rfl:a=Wa:=l;obtain⟨n,_,_,rfl,rfl,_,_,_,e,_⟩:=bJ I g j;unfold du;exact⟨Vb.none_tuple  e d,U5.none_tuple  e d,U4.none_tuple  e d⟩
  |dic ks ds=>exact ee rfl (r ks ds)|exc c=>exact ee rfl (x2 c)|ob k c=>exact ee rfl (q k c)
 |bl x=>
  cases y with
  |non=>
   obtain rfl:=aI.mp i;obtain rfl:a=Wb _:=l;obtain rfl:=aS.mp g;obtain rfl:b=Wa:=j;unfold du;exact⟨Vb.bool_none _,U5.bool_none _,U4.bool_none _⟩
  |bl y=>
   obtain rfl:=aI.mp i;obtain rfl:a=Wb _:=l;obtain rfl:=aI.mp g;obtain rfl:b=Wb _:=j;unfold du;exact⟨Vb.bool_bool _ _,U5.bool_bool _ _,U4.bool_bool _ _⟩
  |int y=>
   obtain rfl:=aI.mp i;obtain rfl:a=Wb _:=l;obtain rfl:=ay.mp g;obtain⟨ty,rfl⟩:∃t,b=Wr _ t:=j;unfold du;exact⟨Vb.bool_int _ _ _,U5.bool_int _ _ _,U4.bool_int _ _ _⟩
  |str y=>
   obtain rfl:=aI.mp i;obtain rfl:a=Wb _:=l;obtain rfl:=Rep.str_iff.mp g;obtain⟨ty,rfl⟩:∃t,b=Wq _ t:=j;unfold du;exact⟨Vb.bool_str _ _ _,U5.bool_str _ _ _,U4.bool_str _ _ _⟩
  |lst y=>
   obtain rfl:=aI.mp i;obtain rfl:a=Wb _:=l;obtain⟨n,_,_,rfl,rfl,_,_,_,e,_⟩:=bw I g j;unfold du;exact⟨Vb.bool_list _ e d,U5.bool_list _ e d,U4.bool_list _ e d⟩
  |tup y=>
   obtain rfl:=aI.mp i;obtain rfl:a=Wb _:=l;obtain⟨n,_,_,rfl,rfl,_,_,_,e,_⟩:=bJ I g j;unfold du;exact⟨Vb.bool_tuple _ e d,U5.bool_tuple _ e d,U4.bool_tuple _ e d⟩
  |dic ks ds=>exact ee rfl (r ks ds)|exc c=>exact ee rfl (x2 c)|ob k c=>exact ee rfl (q k c)
 |int x=>
  cases y with
  |non=>
   obtain rfl:=ay.mp i;obtain⟨m,rfl⟩:∃t,a=Wr _ t:=l;obtain rfl:=aS.mp g;obtain rfl:b=Wa:=j;unfold du;exact⟨Vb.int_none _ _,U5.int_none _ _,U4.int_none _ _⟩
  |bl y=>
   obtain rfl:=ay.mp i;obtain⟨m,rfl⟩:∃t,a=Wr _ t:=l;obtain rfl:=aI.mp g;obtain rfl:b=Wb _:=j;unfold du;exact⟨Vb.int_bool _ _ _,U5.int_bool _ _ _,U4.int_bool _ _ _⟩
  |int y=>
   obtain rfl:=ay.mp i;obtain⟨m,rfl⟩:∃t,a=Wr _ t:=l;obtain rfl:=ay.mp g;obtain⟨ty,rfl⟩:∃t,b=Wr _ t:=j;unfold du;exact⟨Vb.int_int _ _ _ _,U5.int_int _ _ _ _,U4.int_int _ _ _ _⟩
  |str y=>
   obtain rfl:=ay.mp i;obtain⟨m,rfl⟩:∃t,a=Wr _ t:=l;obtain rfl:=Rep.str_iff.mp g;obtain⟨ty,rfl⟩:∃t,b=Wq _ t:=j;unfold du;exact⟨Vb.int_str _ _ _ _,U5.int_str _ _ _ _,U4.int_str _ _ _ _⟩
  |lst y=>
   obtain rfl:=ay.mp i;obtain⟨m,rfl⟩:∃t,a=Wr _ t:=l;obtain⟨n,_,_,rfl,rfl,_,_,_,e,_⟩:=bw I g j;unfold du;exact⟨Vb.int_list _ _ e d,U5.int_list _ _ e d,U4.int_list _ _ e d⟩
  |tup y=>
   obtain rfl:=ay.mp i;obtain⟨m,rfl⟩:∃t,a=Wr _ t:=l;obtain⟨n,_,_,rfl,rfl,_,_,_,e,_⟩:=bJ I g j;unfold du;exact⟨Vb.int_tuple _ _ e d,U5.int_tuple _ _ e d,U4.int_tuple _ _ e d⟩
  |dic ks ds=>exact ee rfl (r ks ds)|exc c=>exact ee rfl (x2 c)|ob k c=>exact ee rfl (q k c)
 |str x=>
  cases y with
  |non=>
   obtain rfl:=Rep.str_iff.mp i;obtain⟨m,rfl⟩:∃t,a=Wq _ t:=l;obtain rfl:=aS.mp g;obtain rfl:b=Wa:=j;unfold du;exact⟨Vb.str_none _ _,U5.str_none _ _,U4.str_none _ _⟩
  |bl y=>
   obtain rfl:=Rep.str_iff.mp i;obtain⟨m,rfl⟩:∃t,a=Wq _ t:=l;obtain rfl:=aI.mp g;obtain rfl:b=Wb _:=j;unfold du;exact⟨Vb.str_bool _ _ _,U5.str_bool _ _ _,U4.str_bool _ _ _⟩
  |int y=>
   obtain rfl:=Rep.str_iff.mp i;obtain⟨m,rfl⟩:∃t,a=Wq _ t:=l;obtain rfl:=ay.mp g;obtain⟨ty,rfl⟩:∃t,b=Wr _ t:=j;unfold du;exact⟨Vb.str_int _ _ _ _,U5.str_int _ _ _ _,U4.str_int _ _ _ _⟩
  |str y=>
   obtain rfl:=Rep.str_iff.mp i;obtain⟨m,rfl⟩:∃t,a=Wq _ t:=l;obtain rfl:=Rep.str_iff.mp g;obtain⟨ty,rfl⟩:∃t,b=Wq _ t:=j;unfold du;exact⟨Vb.str_str _ _ _ _,U5.str_str _ _ _ _,U4.str_str _ _ _ _⟩
  |lst y=>
   obtain rfl:=Rep.str_iff.mp i;obtain⟨m,rfl⟩:∃t,a=Wq _ t:=l;obtain⟨n,_,_,rfl,rfl,_,_,_,e,_⟩:=bw I g j;unfold du;exact⟨Vb.str_list _ _ e d,U5.str_list _ _ e d,U4.str_list _ _ e d⟩
  |tup y=>
   obtain rfl:=Rep.str_iff.mp i;obtain⟨m,rfl⟩:∃t,a=Wq _ t:=l;obtain⟨n,_,_,rfl,rfl,_,_,_,e,_⟩:=bJ I g j;unfold du;exact⟨Vb.str_tuple _ _ e d,U5.str_tuple _ _ e d,U4.str_tuple _ _ e d⟩
  |dic ks ds=>exact ee rfl (r ks ds)|exc c=>exact ee rfl (x2 c)|ob k c=>exact ee rfl (q k c)
 |lst x=>
  cases y with
  |non=>
   obtain⟨o,_,_,rfl,rfl,_,_,_,f,_⟩:=bw I i l;obtain rfl:=aS.mp g;obtain rfl:b=Wa:=j;unfold du;exact⟨Vb.list_none  f d,U5.list_none  f d,U4.list_none  f d⟩
  |bl y=>
   obtain⟨o,_,_,rfl,rfl,_,_,_,f,_⟩:=bw I i l;obtain rfl:=aI.mp g;obtain rfl:b=Wb _:=j;unfold du;exact⟨Vb.list_bool _ f d,U5.list_bool _ f d,U4.list_bool _ f d⟩
  |int y=>
   obtain⟨o,_,_,rfl,rfl,_,_,_,f,_⟩:=bw I i l;obtain rfl:=ay.mp g;obtain⟨ty,rfl⟩:∃t,b=Wr _ t:=j;unfold du;exact⟨Vb.list_int _ _ f d,U5.list_int _ _ f d,U4.list_int _ _ f d⟩
  |str y=>
   obtain⟨o,_,_,rfl,rfl,_,_,_,f,_⟩:=bw I i l;obtain rfl:=Rep.str_iff.mp g;obtain⟨ty,rfl⟩:∃t,b=Wq _ t:=j;unfold du;exact⟨Vb.list_str _ _ f d,U5.list_str _ _ f d,U4.list_str _ _ f d⟩
  |lst y=>
   exact ee ⟨rfl,rfl⟩<|B x y
  |tup y=>
   obtain⟨o,_,_,rfl,rfl,_,_,_,f,_⟩:=bw I i l;obtain⟨n,_,_,rfl,rfl,_,_,_,e,_⟩:=bJ I g j;unfold du;exact⟨Vb.list_tuple  f e d,U5.list_tuple  f e d,U4.list_tuple  f e d⟩
  |dic ks ds=>exact ee rfl (r ks ds)|exc c=>exact ee rfl (x2 c)|ob k c=>exact ee rfl (q k c)
 |tup x=>
  cases y with
  |non=>
   obtain⟨o,_,_,rfl,rfl,_,_,_,f,_⟩:=bJ I i l;obtain rfl:=aS.mp g;obtain rfl:b=Wa:=j;unfold du;exact⟨Vb.tuple_none  f d,U5.tuple_none  f d,U4.tuple_none  f d⟩
  |bl y=>
   obtain⟨o,_,_,rfl,rfl,_,_,_,f,_⟩:=bJ I i l;obtain rfl:=aI.mp g;obtain rfl:b=Wb _:=j;unfold du;exact⟨Vb.tuple_bool _ f d,U5.tuple_bool _ f d,U4.tuple_bool _ f d⟩
  |int y=>
   obtain⟨o,_,_,rfl,rfl,_,_,_,f,_⟩:=bJ I i l;obtain rfl:=ay.mp g;obtain⟨ty,rfl⟩:∃t,b=Wr _ t:=j;unfold du;exact⟨Vb.tuple_int _ _ f d,U5.tuple_int _ _ f d,U4.tuple_int _ _ f d⟩
  |str y=>
   obtain⟨o,_,_,rfl,rfl,_,_,_,f,_⟩:=bJ I i l;obtain rfl:=Rep.str_iff.mp g;obtain⟨ty,rfl⟩:∃t,b=Wq _ t:=j;unfold du;exact⟨Vb.tuple_str _ _ f d,U5.tuple_str _ _ f d,U4.tuple_str _ _ f d⟩
  |lst y=>
   obtain⟨o,_,_,rfl,rfl,_,_,_,f,_⟩:=bJ I i l;obtain⟨n,_,_,rfl,rfl,_,_,_,e,_⟩:=bw I g j;unfold du;exact⟨Vb.tuple_list  f e d,U5.tuple_list  f e d,U4.tuple_list  f e d⟩
  |tup y=>
   exact ee ⟨rfl,rfl⟩<|z x y
  |dic ks ds=>exact ee rfl (r ks ds)|exc c=>exact ee rfl (x2 c)|ob k c=>exact ee rfl (q k c)
 |dic ks ds=>exact ee rfl (C ks ds)
 |exc c=>exact ee rfl (x1 c)
 |ob k c=>exact ee rfl (w k c)
def NK(I:Inv X π σ H s):∀(n:Nat) (A:VD),A.units+n<Xa->∀(x y:D) (v u:V) (a b:Ur),br n x=VT->br n y=VT->Rep X.K H x v->Rep X.K H y u->bB v a->bB u b ->
  Vb A s a b (du x y)/\U5 A s a b (du x y)/\U4 A s a b (!(du x y)):=by
 have nd:∀m L i,br m (.dic L i)=VT->False:=λm L i h=>by cases m<;>(unfold br at h;cases h)
 have nx:∀m x,br m (.exc x)=VT->False:=λm x h=>by cases m<;>(unfold br at h;cases h)
 have U:∀m k x,br m (.ob k x)=VT->False:=λm k x h=>by cases m<;>(unfold br at h;cases h)
 intro n
 induction n with
 |zero=>
  intro A hu x y v u a b f o G E O N;refine Ae I 0#2 G E O N (λi g z=>?_) (λi g z=>?_) (λL i z=>?_) (λL i z=>?_) (λc z=>nx _ _<|z▸f) (λc z=>nx _ _<|z▸o) (λk c z=>U _ _ _<|z▸f)<|λk c z=>U _ _ _<|z▸o
  .rw[z.1]at f;unfold br at f;cases f
  .rw[z.1]at f;unfold br at f;cases f
  .rw[z]at f;exact nd _ _ _ f
  .rw[z]at o;exact nd _ _ _ o
 |succ n ih=>
  intro A hu x y v u a b f o G E O N;have T:∀(x y:D) (v u:V) (a b:Ur),br n x=VT->br n y=VT->Rep X.K H x v->Rep X.K H y u->bB v a->bB u b->U5 A.in1 s a b (du x y) :=
   λx y v u a b s1 s2 r1 r2 q1 q2=>(ih A.in1 (by show A.units+1+n<Xa;omega) x y v u a b s1 s2 r1 r2 q1 q2).2.1
  by_cases t1:∃i g,x=.tup i/\y=.tup g
  .obtain⟨xs,r,rfl,rfl⟩:=t1
   obtain⟨l,vs,M,rfl,rfl,h1,h2,h3,B,h5⟩:=bJ I G O;obtain⟨m,us,Q,rfl,rfl,k1,k2,Y,w,k5⟩:=bJ I E N;have C:=f;have q:=o;unfold br at f o;have each:=AK (A:=A) T f o h2 k2 h3 Y;have d:du (.tup xs) (.tup r)=((VO<|min M.toArray.size Q.toArray.size).all (λj=>du (xs.getD j .non)<|r.getD j .non)&&M.toArray.size==Q.toArray.size):=by
    rw[Lz];simp only[UW,←h5,←k5]
    by_cases J:xs.length=r.length
    .rw[nN xs r J,←J,Nat.min_self,ei,ZN]
    .rw[vp xs r J,beq_eq_false_iff_ne.mpr J,Yo]
   refine⟨?_,?_,?_⟩
   .rw[d];exact Vb.tuples B w 0#2 each
   .by_cases t:l=m
    .subst t
     rw[Rep.inj I (n+1) _ _ _ C q G E,pF (n+1) _ q];exact Zh _
    .refine YR t ?_
     rw[d];exact Vb.tuples B w 0#2 each
   .rw[d];exact U4.tuples B w 0#2 each
  .by_cases t2:∃i g,x=.lst i/\y=.lst g
   .obtain⟨xs,r,rfl,rfl⟩:=t2
    obtain⟨l,vs,M,rfl,rfl,h1,h2,h3,B,h5⟩:=bw I G O;obtain⟨m,us,Q,rfl,rfl,k1,k2,Y,w,k5⟩:=bw I E N;have C:=f;have q:=o;unfold br at f o;have each:=AK (A:=A) T f o h2 k2 h3 Y
    by_cases J:xs.length=r.length
    .have p:M.toArray.size=Q.toArray.size:=by simp only[UW];omega
     have d:du (.lst xs) (.lst r)=(VO M.toArray.size).all (λj=>du (xs.getD j .non)<|r.getD j .non):=by
      rw[pG];simp only[UW,←h5];exact nN xs r J
     refine⟨?_,?_,?_⟩
     .rw[d];exact Vb.lists B w p 0#2 each
     .by_cases t:l=m
      .subst t
       rw[Rep.inj I (n+1) _ _ _ C q G E,pF (n+1) _ q];exact Zh _
      .refine YR t ?_
       rw[d];exact Vb.lists B w p 0#2 each
     .rw[d];exact U4.lists B w p 0#2 each
    .have p:(M.toArray.size != Q.toArray.size)=VT:=by simp only[UW,bne_iff_ne,ne_eq];omega
     have d:du (.lst xs) (.lst r)=U9:=by rw[pG];exact vp xs r J
     rw[d];refine⟨ZF B w p 0#2,?_,U4.lists_lengths B w p<|by omega⟩;refine YR (λe=>?_) (ZF B w p<|by omega);subst e;have:=Rep.inj I (n+1) _ _ _ C q G E;cases this;exact J rfl
   .exact Ae I 0#2 G E O N (λi g z=>t2 ⟨i,g,z⟩) (λi g z=>t1 ⟨i,g,z⟩) (λL i z=>by rw[z]at f;exact nd _ _ _ f) (λL i z=>by rw[z]at o;exact nd _ _ _ o) (λc z=>nx _ _<|z▸f) (λc z=>nx _ _<|z▸o) (λk c z=>U _ _ _<|z▸f)<|λk c z=>U _ _ _<|z▸o
end
section
variable {X:Cx}{E:XK}
def gD(x y:D):aw D:=if br 40 x=VT/\br 40 y=VT then .ok (.bl<|du x y) else .stuck
def iM(x y:D):aw D:=if br 40 x=VT/\br 40 y=VT then .ok (.bl (!(du x y))) else .stuck
def Qq(K:Uv):R2:=λv u H Q=>∃x y,Rep K H x v/\Rep K H y u/\br 40 x=VT/\br 40 y=VT/\Q (.bl<|du x y) H
def Ql(K:Uv):R2:=λv u H Q=>∃x y,Rep K H x v/\Rep K H y u/\br 40 x=VT/\br 40 y=VT/\Q (.bl (!(du x y))) H
def cP(m:X.A.units+64<Xa):ia X (VA .Eq) (Qq X.K):=by
 intro l s j H x y v u Q I e c h;obtain⟨d,i,g,f,b,a,q⟩:=h;exact(NK I 40 X.A 0#2 d i x y v u b a g f e c).1 _ _ _ _ ⟨.bl _,H,I,rfl,q⟩
def gw(m:X.A.units+64<Xa):ia X (VA .NotEq) (Ql X.K):=by
 intro l s j H x y v u Q I e c h;obtain⟨d,i,g,f,b,a,q⟩:=h;exact(NK I 40 X.A 0#2 d i x y v u b a g f e c).2.2 _ _ _ _ ⟨.bl _,H,I,rfl,q⟩
def eM:BO X.K E (Qq X.K) gD:=by
 intro x y v u H e Q a d b q;unfold gD at q
 by_cases c:br 40 x=VT/\br 40 y=VT
 .rw[dh c]at q
  exact⟨x,y,d.mono a,b.mono a,c.1,c.2,q _ H e (bC.refl a)<|aI.mpr rfl⟩
 .rw[dV c]at q;exact q.elim
def jF:BO X.K E (Ql X.K) iM:=by
 intro x y v u H e Q a d b q;unfold iM at q
 by_cases c:br 40 x=VT/\br 40 y=VT
 .rw[dh c]at q
  exact⟨x,y,d.mono a,b.mono a,c.1,c.2,q _ H e (bC.refl a)<|aI.mpr rfl⟩
 .rw[dV c]at q;exact q.elim
open Classical in
noncomputable def m6(K:Uv) (H:Hp) (ds:ac) (x:D) (u:Ur):Bool :=
 if h:∃d,d∈ds/\∃v,Rep K H d v/\bB v u then du h.choose x else U9
def Eb(I:Inv X l j H s)(a:ds.all (br 40)=VT)(b:d∈ds)(r:Rep X.K H d v)(q:bB v u):m6 X.K H ds x u=du d x:=by
 have h:∃d,d∈ds/\∃v,Rep X.K H d v/\bB v u:=⟨d,b,v,r,q⟩
 unfold m6;rw[dif_pos h];obtain⟨i,c,g,f⟩:=h.choose_spec;have e:c=v:=f.inj q;subst e;rw[Rep.inj I 40 _ _ _ (Vd.mp a _ i) (Vd.mp a _ b) g r]
def Cj(K:Uv)(neg:Bool):R2:=λv u H Q=>∃x a,Rep K H x v/\(Rep K H (.lst a) u∨Rep K H (.tup a) u)/\br 40 x=VT/\a.all (br 40)=VT/\Q (.bl<|if neg then !(a.any λd=>du d x) else a.any λd=>du d x) H
theorem mn{f:List (UD×Obj)}{e:L2.St}{H:Hp}{s:UH}(I:Inv X f e H s){x:D}{es:ac}(b:es.all (br 40)=VT):∀{ds:ac}{vs:ad}{a:List Ur},(∀d∈ds,d∈es)->Reps X.K H ds vs->bo vs a->a.any (m6 X.K H es x)=ds.any λd=>du d x
 |[],_,_,_,h,q=>by
  rw[Reps.nil_iff.mp h]at q;cases q;rfl
 |d::ds,_,_,c,h,q=>by
  obtain⟨v,r,rfl,m,l⟩:=aC.mp h;cases q with
  |cons i g=>
   rw[WU,WU,Eb I b (c d Uu) m i,mn I b (λx j=>c x<|Up _ j) l g]
theorem kl{n:List<|UD×Obj}{m:L2.St}{H:Hp}{s:UH}(I:Inv X n m H s)(t:X.A.units+64<Xa){x:D}{v:V}{u:Ur}(f:br 40 x=VT)(g:Rep X.K H x v)(i:bB v u){es:ac}(b:es.all (br 40)=VT):∀{ds:ac}{vs:ad}{e:List Ur},(∀d∈ds,d∈es)->Reps X.K H ds vs->bo vs e->∀y∈e,U5 X.A.in1 s y u (m6 X.K H es x y)
 |[],_,_,_,h,q=>λy a=>by
  rw[Reps.nil_iff.mp h]at q;cases q;cases a
 |d::ds,_,_,c,h,q=>λy a=>by
  obtain⟨w,r,rfl,l,z⟩:=aC.mp h;cases q with
  |cons j o=>
   rcases UG.mp a with rfl|a
   .rw[Eb I b (c d Uu) l j]
    exact(NK I 40 X.A.in1 (by show X.A.units+1+40<Xa;omega) d x w v _ u (Vd.mp b _<|c d Uu) f l g j i).2.1
   .exact kl I t f g i b (λx p=>c x<|Up _ p) z o y a
def Oc(n:X.A.units+64<Xa):ia X (VA .In) (Cj X.K U9):=by
 intro C s B H x y v u Q I m l h;obtain⟨d,c,o,f,j,g,q⟩:=h;rcases f with f|f
 .obtain⟨a,p,b,rfl,rfl,t,k2,e,i,r⟩:=bw I f l
  refine SeqAt.in_listAt (m6 X.K H c d) i (λw hw=>kl I n j o m g (λ_ z=>z) k2 e w<|by simpa using hw) ⟨.bl _,H,I,rfl,?_⟩;rw[show b.toArray.any (m6 X.K H c d)=b.any (m6 X.K H c d) by simp,mn I g (λ_ z=>z) k2 e];exact q
 .obtain⟨a,p,b,rfl,rfl,t,k2,e,i,r⟩:=bJ I f l
  refine SeqAt.in_tupleAt (m6 X.K H c d) i (λw hw=>kl I n j o m g (λ_ z=>z) k2 e w<|by simpa using hw) ⟨.bl _,H,I,rfl,?_⟩;rw[show b.toArray.any (m6 X.K H c d)=b.any (m6 X.K H c d) by simp,mn I g (λ_ z=>z) k2 e];exact q
def E3(n:X.A.units+64<Xa):ia X (VA .NotIn) (Cj X.K VT):=by
 intro C s B H x y v u Q I m l h;obtain⟨d,c,o,f,j,g,q⟩:=h;rcases f with f|f
 .obtain⟨a,p,b,rfl,rfl,t,k2,e,i,r⟩:=bw I f l
  refine SeqAt.notIn_listAt (m6 X.K H c d) i (λw hw=>kl I n j o m g (λ_ z=>z) k2 e w<|by simpa using hw) ⟨.bl _,H,I,rfl,?_⟩;rw[show b.toArray.any (m6 X.K H c d)=b.any (m6 X.K H c d) by simp,mn I g (λ_ z=>z) k2 e];exact q
 .obtain⟨a,p,b,rfl,rfl,t,k2,e,i,r⟩:=bJ I f l
  refine SeqAt.notIn_tupleAt (m6 X.K H c d) i (λw hw=>kl I n j o m g (λ_ z=>z) k2 e w<|by simpa using hw) ⟨.bl _,H,I,rfl,?_⟩;rw[show b.toArray.any (m6 X.K H c d)=b.any (m6 X.K H c d) by simp,mn I g (λ_ z=>z) k2 e];exact q
def RN(i j:UL):Bool:=!(YA j i 0 j.length 1).isEmpty
noncomputable def D0(x y:D):Option Bool:=match y with
 |.lst a=>if br 40 x=VT/\a.all (br 40)=VT then W1 (a.any λd=>du d x) else Wp
 |.tup a=>if br 40 x=VT/\a.all (br 40)=VT then W1 (a.any λd=>du d x) else Wp
 |.str j=>match x with
  |.str i=>W1<|RN i j
  |_=>Wp
 |_=>Wp
def vY(x y:D):aw D:=match D0 x y with
 |some b=>.ok<|.bl b
 |none=>.stuck
def bL(x y:D):aw D:=match D0 x y with
 |some b=>.ok<|.bl (!b)
 |none=>.stuck
def Hr(neg:Bool):R2:=λx y H Q=>∃i j,x=.str i/\y=.str j/\Q (.bl<|if neg then !(RN i j) else RN i j) H
def qS(e:X.A.units+64<Xa):ia X (VA .In) (λv u H Q=>Cj X.K U9 v u H Q∨Hr U9 v u H Q):=ia.or (Oc e) (by
 intro b s a H x y v u Q I d c h;obtain⟨i,j,rfl,rfl,q⟩:=h;exact E4 b s a H _ _ v u Q I d c ⟨i,j,rfl,rfl,q⟩)
def eK(e:X.A.units+64<Xa):ia X (VA .NotIn) (λv u H Q=>Cj X.K VT v u H Q∨Hr VT v u H Q):=ia.or (E3 e) (by
 intro b s a H x y v u Q I d c h;obtain⟨i,j,rfl,rfl,q⟩:=h;exact yI b s a H _ _ v u Q I d c ⟨i,j,rfl,rfl,q⟩)
def Au(a:aE Ha H)(f:Rep X.K Ha x v)(e:Rep X.K Ha y u)
  (q:post X.K E H Ha (match D0 x y with|some b=>.ok (.bl<|if neg then !b else b)|none=>.stuck) Q):Cj X.K neg v u H Q∨Hr neg v u H Q:=by
 cases y with
 |lst d=>
  simp only[D0]at q
  by_cases c:br 40 x=VT/\d.all (br 40)=VT
  .rw[dh c]at q
   exact .inl ⟨x,d,f.mono a,.inl<|e.mono a,c.1,c.2,q _ H Ha (bC.refl a)<|aI.mpr rfl⟩
  .rw[dV c]at q;exact q.elim
 |tup d=>
  simp only[D0]at q
  by_cases c:br 40 x=VT/\d.all (br 40)=VT
  .rw[dh c]at q
   exact .inl ⟨x,d,f.mono a,.inr<|e.mono a,c.1,c.2,q _ H Ha (bC.refl a)<|aI.mpr rfl⟩
  .rw[dV c]at q;exact q.elim
 |str j=>
  cases x with|str i=>exact .inr ⟨i,j,Rep.str_iff.mp f,Rep.str_iff.mp e,q _ H Ha (bC.refl a)<|aI.mpr rfl⟩| _=>exact q.elim
 |_=>exact q.elim
def qU:BO X.K E (λv u H Q=>Cj X.K U9 v u H Q∨Hr U9 v u H Q) vY:=λx y v u H f Q d c a q=>Au (neg:=false) (E:=E) d c a (by
 unfold vY at q;cases e:D0 x y with
 |none=>rwa[e]at q
 |some b=>rwa[e]at q)
def eL:BO X.K E (λv u H Q=>Cj X.K VT v u H Q∨Hr VT v u H Q) bL:=λx y v u H f Q d c a q=>Au (neg:=true) (E:=E) d c a (by
 unfold bL at q;cases e:D0 x y with
 |none=>rwa[e]at q
 |some b=>rwa[e]at q)
end
@[irreducible] def B9:Nat:=2 ^ 9000
@[irreducible] def p6:Nat:=2 ^ 13500
@[irreducible] def mw:Nat:=2 ^ 60000
theorem JI:B9=2 ^ 9000:=by unfold B9;rfl
def jv:p6=2 ^ 13500:=by unfold p6;rfl
def qI:mw=2 ^ 60000:=by unfold mw;rfl
def uk{n k:Nat}(h:n<2 ^ k)(b:0<k):n.log2<k:=by
 by_cases a:n=0
 .rw[a]
  have:Nat.log2 0=0:=by decide
  omega
 .exact(Nat.log2_lt a).mpr h
def QN(h:y.natAbs<B9):W7 x y=U9:=by
 rw[JI]at h;exact PyProof.noPylong_of_log2 (uk h<|by omega)
def Oi(h:x.natAbs<p6):W7 x y=U9:=by
 rw[jv]at h;have b:x.natAbs.log2<13500:=uk h 0#2;show(decide ((if y==0 then 0 else y.natAbs.log2 / 30+1) > 300)&&decide ((if x==0 then 0 else x.natAbs.log2 / 30+1) > (if y==0 then 0 else y.natAbs.log2 / 30+1)+150))=U9;have k:(if x==0 then 0 else x.natAbs.log2 / 30+1)<=450:=by
  by_cases a:(x==0)=VT
  .rw[dh a];omega
  .rw[dV a];omega
 by_cases c:(if y==0 then 0 else y.natAbs.log2 / 30+1) > 300
 .rw[sag];right;exact dy 0#2
 .rw[sag];left;exact dy c
def iw(i j:Int):Bool:=decide (j≠0)&&(decide (j.natAbs<B9)||decide (i.natAbs<p6))
def dj(i j:Int):Bool:=decide (i.natAbs<mw)&&decide (j.natAbs<mw)
def iw.ok(h:iw i j=VT):j≠0/\W7 i j=U9:=by
 unfold iw at h;rw[US,Zl]at h;refine⟨ef h.1,?_⟩;rcases h.2 with h|h
 .exact QN<|ef h
 .exact Oi<|ef h
def dj.ok(h:dj i j=VT):IntMulOk i j:=by
 unfold dj at h;rw[US]at h;have b:=ef h.1;have a:=ef h.2;rw[qI]at b a;exact PyProof.Rows.mulOk_of_bits (m:=60000) (n:=60000) (sal.mpr b) (sal.mpr a) 0#1
section
variable {X:Cx}{E:XK}{e a b c:Vt}{es:List Vt}{f g k:al}{fa:Ev->aw (ac)}{pos:Pos}
def bW{K:Uv}(i:aE Ha H)(q:post K E H Ha (.ok d) Q)(r:Rep K Ha d v):Q v H:=q v H Ha (bC.refl i) r
def yY(c:Int->Int->Bool)(g:Int->Int->D)(x y:D):aw D:=match x,y with
 |.int i,.int j=>if c i j=VT then .ok (g i j) else .stuck
 |_,_=>.stuck
def yS{c:Int->Int->Bool}{g:Int->Int->D}(o:∀i j,c i j=VT->C i j)(n:∀K H i j,Rep K H (g i j)<|p i j):BO X.K E (rI C p) (yY c g):=by
 intro x y v u H r Q m l d q;unfold yY at q;cases x with
 |int i=>
  cases y with
  |int j=>
   by_cases h:c i j=VT
   .simp only[dh h]at q
    exact⟨i,j,ay.mp l,ay.mp d,o i j h,bW m q<|n _ _ i j⟩
   .simp only[dV h]at q;exact q.elim
  |_=>exact q.elim
 |_=>exact q.elim
def c4{g:Int->Int->D}(n:∀K H i j,Rep K H (g i j)<|o i j):BO X.K E (Hs o) (yY (λ_ _=>VT) g):=by
 intro x y v u H p Q m l d q;unfold yY at q;cases x with
 |int i=>
  cases y with|int j=>simp only[dh]at q;exact⟨i,j,ay.mp l,ay.mp d,bW m q<|n _ _ i j⟩| _=>exact q.elim
 |_=>exact q.elim
def ri{K:Uv}(n:Int):Rep K H (.int n) (.int n):=ay.mpr rfl
def rb{K:Uv}(n:Bool):Rep K H (.bl n) (.bl n):=aI.mpr rfl
abbrev gQ:=yY (λ_ _=>VT) λi j=>.int<|i-j
abbrev kY:=yY iw λi j=>.int<|i.fdiv j
abbrev cE:=yY (λ_ j=>decide (j≠0)) λi j=>.int<|i.fmod j
abbrev kn:=yY (λi j=>decide (0<=j)&&decide (j<=1000000)&&decide (i.natAbs<18446744073709551616)) λi j=>.int<|i ^ j.toNat
abbrev LP:=yY (λ_ _=>VT) λi j=>.bl (decide (i<j))
abbrev LQ:=yY (λ_ _=>VT) λi j=>.bl (decide (i<=j))
abbrev CY:=yY (λ_ _=>VT) λi j=>.bl (decide (j<i))
abbrev O5:=yY (λ_ _=>VT) λi j=>.bl (decide (j<=i))
def KY:ia X (binaryOp .Mult) (rI IntMulOk λi j=>.int<|i*j):=QI λ_ _ _ _ _ _ _ d q=>mul_int q d
def K0:ia X (binaryOp .FloorDiv) (rI (λi j=>j≠0/\W7 i j=U9) λi j=>.int<|i.fdiv j):=QI λ_ _ _ _ _ _ _ d q=>floordiv_int d.1 q<|.inl d.2
def nO(i:DE X E a f)(d:DE X E b g):DE X E (.BinOp a .Sub b pos) (aa f g gQ):=rg N8 (c4 λ_ _ _ _=>ri _) i d
def l5(i:DE X E a f)(d:DE X E b g):DE X E (.BinOp a .FloorDiv b pos) (aa f g kY):=rg K0 (yS (λ_ _ h=>iw.ok h) λ_ _ _ _=>ri _) i d
def cR(i:DE X E a f)(d:DE X E b g):DE X E (.BinOp a .Mod b pos) (aa f g cE):=rg KZ (yS (λ_ _ h=>ef h) λ_ _ _ _=>ri _) i d
def nQ(l:DE X E a f)(d:DE X E b g):DE X E (.BinOp a .Pow b pos) (aa f g kn):=rg Ob (yS (λi j h=>by
 rw[US,US]at h;exact⟨ef h.1.1,ef h.1.2,ef h.2⟩) λ_ _ _ _=>ri _) l d
def nm(j:d≠.In:=by decide)(i:d≠.NotIn:=by decide):behindInMarks d b=U9:=HY _ j i
def ko(x:D):aw D:=match x with
 |.int i=>.ok<|.int (-i)
 |_=>.stuck
def qv(j:DE X E a f):DE X E (.UnaryOp .USub a pos) (aU f ko):=Rg Nj (by
 intro x v H l Q d r q;cases x with
 |int i=>exact⟨i,ay.mp r,bW d q<|ri _⟩
 |_=>exact q.elim) j
def DP:ia X (binaryOp .Add) (λx y H Q=>∃l b xs zs,x=.ref l/\y=.ref b/\gH X.K H l xs/\gH X.K H b zs/\xs.length+zs.length<=sizeLine/\∀p,H p=Wp->Q (.ref p) (upd H p<|.lst<|xs++zs)):=by
 intro π s σ H x y v u Q I O N h;obtain⟨l,b,xs,zs,rfl,rfl,U,Y,hz,q⟩:=h;cases O;cases N;obtain⟨i,r,pl,z⟩:=I.list U;obtain⟨d,B,w,z2⟩:=I.list Y;obtain⟨⟨cls,dd,data,M⟩,C,J,n,G⟩:=pl.isList;obtain⟨⟨L,A,data2,t⟩,j,o,T,m⟩:=w.isList;simp only at J G o m;subst J G o m;have e:i.toArray++d.toArray=(i++d).toArray:=by simp
 have l1:=r.length;have l2:=B.length;refine concat_meets ⟨_,C,rfl⟩ ⟨_,j,rfl⟩ noFill_list_add seq_list_add PySem.F.slot_list_add PySem.F.entry_list_add (PySem.F.args_list_add_2 _ _) (list_addW l b i.toArray d.toArray n T dd A M t (by simp only[UW];omega)) ⟨C,j,?_⟩;rw[e];exact⟨.ref _,_,I.lnew (t':=s.toks) (r.append B) (by rw[Vf];omega),rfl,q _ I.fresh⟩
noncomputable def aZ(x y:D):aw D:=match x,y with
 |.int i,.int j=>.ok<|.int<|i+j
 |.str i,.str j=>if i.length+j.length<=line then .ok (.str<|i++j) else .stuck
 |.lst d,.lst es=>if d.length+es.length<=line then .ok (.lst<|d++es) else .stuck
 |.tup d,.tup es=>if d.isEmpty=U9/\d.length+es.length<=line then .ok (.tup<|d++es) else .stuck
 |_,_=>.stuck
def bI(I:DE X E a f)(G:DE X E b g):DE X E (.BinOp a .Add b pos) (aa f g aZ):=rg (ia.or Oe<|ia.or Cr<|ia.or DP K1) (by
 intro x y v u H J Q d o t q;unfold aZ at q;cases x with
 |int i=>
  cases y with|int j=>exact .inl ⟨i,j,ay.mp o,ay.mp t,bW d q<|ri _⟩| _=>exact q.elim
 |str i=>
  cases y with
  |str j=>
   by_cases h:i.length+j.length<=line
   .simp only[dh h]at q
    exact .inr<|.inl ⟨i,j,Rep.str_iff.mp o,Rep.str_iff.mp t,fF h,bW d q<|Rep.str_iff.mpr rfl⟩
   .simp only[dV h]at q;exact q.elim
  |_=>exact q.elim
 |lst s=>
  cases y with
  |lst es=>
   by_cases h:s.length+es.length<=line
   .simp only[dh h]at q
    obtain⟨l,w,rfl,C,n⟩:=aF.mp o;obtain⟨m,A,rfl,B,k2⟩:=aF.mp t;refine .inr (.inr<|.inl ⟨l,m,w,A,rfl,rfl,aE.sqL d C,aE.sqL d B,by rw[←n.length,←k2.length];exact fF h,λp r=>?_⟩);exact q _ _ _ (bg d r)<|aF.mpr ⟨p,_,rfl,gH.of aG,(n.app k2).mono (bg d r).z⟩
   .simp only[dV h]at q;exact q.elim
  |_=>exact q.elim
 |tup s=>
  cases y with
  |tup es=>
   by_cases h:s.isEmpty=U9/\s.length+es.length<=line
   .simp only[dh h]at q
    obtain⟨l,w,rfl,C,n⟩:=aM.mp o;obtain⟨m,A,rfl,B,k2⟩:=aM.mp t;refine .inr (.inr<|.inr ⟨l,m,w,A,rfl,rfl,aE.sqT d C,aE.sqT d B,λz=>?_,by rw[←n.length,←k2.length];exact fF h.2,λz=>?_,λz p r=>?_⟩)
    .have:=n.length
     rw[z]at this;have e:s=[]:=Yy.mp this;rw[e]at h;exact ee h.1 0#1
    .have:=k2.length
     rw[z]at this;have e:es=[]:=Yy.mp this;rw[e,VN]at q;exact bW d q o
    .exact q _ _ _ (bg d r)<|aM.mpr ⟨p,_,rfl,pZ.of aG,(n.app k2).mono (bg d r).z⟩
   .simp only[dV h]at q;exact q.elim
  |_=>exact q.elim
 |_=>exact q.elim) I G
noncomputable def aB(x y:D):aw D:=match y with
 |.int i=>match x with
  |.lst j=>match atI j i with
   |some d=>.ok d
   |none=>.stuck
  |.tup j=>match atI j i with
   |some d=>.ok d
   |none=>.stuck
  |.str z=>if z.length<=line then match atI z.cps.toList i with
   |some c=>.ok<|.str ⟨#[c]⟩
   |none=>.stuck else .stuck
  |_=>.stuck
 |_=>.stuck
def Reps.atI{K:Uv}(h:Reps K H ds vs)(e:atI ds i=W1 d):∃v,L2.atI vs i=W1 v/\Rep K H d v:=by
 unfold L2.atI at e ⊢;rw[←h.length];cases q:AJ ds.length i with
 |none=>rw[q]at e;cases e
 |some j=>
  rw[q]at e;exact h.get e
def QK:BO X.K E (Tp X.K) aB:=by
 intro x y v u H C Q j o n q;unfold aB at q;cases y with
 |int i=>
  cases x with
  |lst B=>
   obtain⟨l,m,rfl,s,r⟩:=aF.mp o;cases e:atI B i with
   |none=>simp only[e]at q;exact q.elim
   |some d=>
    simp only[e]at q;obtain⟨w,A,t⟩:=r.atI e;exact .inl ⟨l,m,i,w,rfl,ay.mp n,aE.sqL j s,A,bW j q t⟩
  |tup B=>
   obtain⟨l,m,rfl,s,r⟩:=aM.mp o;cases e:atI B i with
   |none=>simp only[e]at q;exact q.elim
   |some d=>
    simp only[e]at q;obtain⟨w,A,t⟩:=r.atI e;exact .inr<|.inl ⟨l,m,i,w,rfl,ay.mp n,aE.sqT j s,A,bW j q t⟩
  |str z=>
   by_cases p:z.length<=line
   .simp only[dh p]at q
    cases e:atI z.cps.toList i with
    |none=>simp only[e]at q;exact q.elim
    |some c=>
     simp only[e]at q;exact .inr<|.inr ⟨z,i,c,Rep.str_iff.mp o,ay.mp n,fF p,e,bW j q<|Rep.str_iff.mpr rfl⟩
   .simp only[dV p]at q;exact q.elim
  |_=>exact q.elim
 |_=>exact q.elim
def ar(j:DE X E a f)(i:DE X E b g)(d:zD b:=by intro _ _;rfl):DE X E (.Subscript a b pos) (aa f g aB):=Ri Oy QK j i d
def eV:Ev->aw (Option Int):=λ_=>.ok Wp
def bS(f:al):Ev->aw (Option Int):=λd=>(f d).bind λx=>match x with
 |.int i=>.ok<|W1 i
 |_=>.stuck
def Si(K:Uv)(E:XK)(f:Ev->aw (Option Int)):TO:=λm H Q=>∃j l,aE j H/\fW K j m l/\match f l with
 |.ok o=>∀i d,bC H j i d->Q o i
 |.exn x=>∀C ox i d,bC H j i d->zI K d x C ox->E C ox i
 |.stuck=>False
structure DO (X:Cx) (E:XK) (e:Option Vt) (f:Ev->aw (Option Int)):Prop where
 o:PO X e (Si X.K E f)
def DC(h:PO X j t)(w:∀d H Q,t' d H Q->t d H Q):PO X j t':=λi s d H Q I q=>h i s d H Q I<|w d H Q q
def kU:DO X E Wp eV:=⟨DC Kz λj H Q ⟨i,l,d,m,q⟩=>q H i<|bC.refl d⟩
def cI(s:DE X E a f):DO X E (W1 a) (bS f):=by
 refine⟨?_⟩;refine DC (Ky s.o) λy H Q z9=>?_;obtain⟨u,l,p,r,q⟩:=z9;refine⟨u,l,p,r,?_⟩
 unfold bS at q;cases m:f l with
 |stuck|exn x=>rwa[m]at q
 |ok d=>
  rw[m]at q;intro v w j t n;cases d with|int i=>exact⟨i,ay.mp n,q w j t⟩| _=>exact q.elim
def jA(xs:ac)(lo hi:Option Int):ac:=(xs.drop<|HT.sIx xs.length 0 lo).take<|HT.sIx xs.length xs.length hi-HT.sIx xs.length 0 lo
def Reps.cut{K:Uv}(h:Reps K H ds vs)(lo hi:Option Int):Reps K H (jA ds lo hi) (BA vs lo hi):=by
 unfold jA BA;rw[←h.length];exact(h.drop _).take _
def Aa{lo hi:Ev->aw (Option Int)}{m:D->Option Int->Option Int->aw D}
  (C:∀x v l h H Ha Q,aE Ha H->Rep X.K Ha x v->post X.K E H Ha (m x l h) Q->r v l h H Q)(t:L2.St)(H:Hp)(Q:VK)
  (h:tD X.K E (λρ=>(f ρ).bind λx=>(lo ρ).bind λl=>(hi ρ).bind λh=>m x l h) t H Q):Th r (tD X.K E f) (Si X.K E lo) (Si X.K E hi) t H Q:=by
 obtain⟨Ha,ρ,B,n,q⟩:=h;refine⟨Ha,ρ,B,n,?_⟩;replace q:post X.K E H Ha ((f ρ).bind λx=>(lo ρ).bind λl=>(hi ρ).bind λh=>m x l h) Q:=q;cases y:f ρ with
 |stuck|exn x=>rwa[y]at q
 |ok x=>
  rw[y]at q;intro v I d j A;refine⟨d,ρ,j.sub,n.mono j.z,?_⟩;replace q:post X.K E H Ha ((lo ρ).bind λl=>(hi ρ).bind λh=>m x l h) Q:=q;replace q:=q.grow j;cases w:lo ρ with
  |stuck|exn x=>rwa[w]at q
  |ok l=>
   rw[w]at q;intro J s i;refine⟨s,ρ,i.sub,(n.mono j.z).mono i.z,?_⟩;replace q:post X.K E I d ((hi ρ).bind λh=>m x l h) Q:=q;replace q:=q.grow i;cases u:hi ρ with
   |stuck|exn x=>rwa[u]at q
   |ok h=>
    rw[u]at q;intro G p o;exact C x v l h G p Q o.sub ((A.mono i.z).mono o.z)<|post.grow (r:=m x l h) q o
def m1(m:D->aw D)(ds:ac):aw D:=match ds with
 |[x]=>m x
 |_=>.stuck
def m2(m:D->D->aw D)(ds:ac):aw D:=match ds with
 |[x,y]=>m x y
 |_=>.stuck
def BE(h:∀x v H Ha Q,aE Ha H->Rep X.K Ha x v->post X.K E H Ha (m x) Q->r [v] H Q):nz X E r (m1 m):=by
 intro n o H Ha Q i d q;unfold m1 at q
 match n,d,q with
 |[x],d,q=>
  obtain⟨v,p,rfl,l,j⟩:=aC.mp d;rw[Reps.nil_iff.mp j];exact h x v H Ha Q i l q
 |[],_,q=>exact q.elim
 |_::_::_,_,q=>exact q.elim
def Ro(h:∀x y v u H Ha Q,aE Ha H->Rep X.K Ha x v->Rep X.K Ha y u->post X.K E H Ha (m x y) Q->r [v,u] H Q):nz X E r (m2 m):=by
 intro s t H Ha Q j d q;unfold m2 at q
 match s,d,q with
 |[x,y],d,q=>
  obtain⟨v,w,rfl,p,o⟩:=aC.mp d;obtain⟨u,i,rfl,n,l⟩:=aC.mp o;rw[Reps.nil_iff.mp l];exact h x y v u H Ha Q j p n q
 |[],_,q=>exact q.elim
 |[_],_,q=>exact q.elim
 |_::_::_::_,_,q=>exact q.elim
def wA(x:D):aw D:=match x with
 |.int i=>.ok<|.int<|if i<0 then -i else i
 |_=>.stuck
def SY(x y:D):aw D:=match x,y with
 |.int i,.int j=>.ok<|.int<|if j > i then j else i
 |_,_=>.stuck
def dP(x:D):aw D:=match x with
 |.lst d=>.ok<|.int d.length
 |.tup d=>.ok<|.int d.length
 |.str z=>if z.length<=line then .ok (.int z.length) else .stuck
 |_=>.stuck
def zo(x:D):aw D:=match x with
 |.int i=>.ok<|.int i
 |.bl b=>.ok<|.int<|if b then 1 else 0
 |_=>.stuck
def vt(x:D):aw D:=match x with
 |.lst d=>.ok<|.lst d
 |.tup d=>.ok<|.lst d
 |_=>.stuck
def qB:nz X E (λxs H Q=>∃i,xs=[.int i]/\Q (.int<|if i<0 then -i else i) H) (m1 wA):=BE λx v H j Q d r q=>by
 cases x with|int i=>exact⟨i,by rw[ay.mp r],bW d q<|ri _⟩| _=>exact q.elim
def cY:nz X E (λxs H Q=>∃x n,xs=[x]/\RD X.K x H n/\Q (.int n) H) (m1 dP):=BE λx v H s Q i r q=>by
 cases x with
 |lst o=>
  obtain⟨p,d,rfl,m,l⟩:=aF.mp r;refine⟨_,d.length,rfl,.inl ⟨d,aE.sqL i m,rfl⟩,?_⟩;rw[←l.length];exact bW i q<|ri _
 |tup o=>
  obtain⟨p,d,rfl,m,l⟩:=aM.mp r;refine⟨_,d.length,rfl,.inr ⟨d,aE.sqT i m,rfl⟩,?_⟩;rw[←l.length];exact bW i q<|ri _
 |str z=>
  unfold dP at q
  by_cases j:z.length<=line
  .simp only[dh j]at q
   rw[Rep.str_iff.mp r];exact⟨_,z.length,rfl,⟨fF j,rfl⟩,bW i q<|ri _⟩
  .simp only[dV j]at q;exact q.elim
 |_=>exact q.elim
def Pa:nz X E (λxs H Q=>(∃i,xs=[.int i]/\Q (.int i) H)∨∃k,xs=[.bl k]/\Q (.int<|if k then 1 else 0) H) (m1 zo):=BE λx v H j Q d r q=>by
 cases x with|int i=>exact .inl ⟨i,by rw[ay.mp r],bW d q<|ri _⟩|bl i=>exact .inr ⟨i,by rw[aI.mp r],bW d q<|ri _⟩| _=>exact q.elim
def Jk(u:mv X (.type T) r)(t:nz X E r m)(q:Gl X x)(n:X.mg x=Wp)(j:bootBuiltins x=W1 (.type T))(v:DA X E (e::es) fa)(l:x≠"__name__":=by decide)(i:1#x:=by decide)
  (s:UJ (e::es) X.env=(U9,eval e X.env)::UJ es X.env:=by exact aW rfl)(d:(VQ pos<|UJ es X.env).any (·.1)=U9:=by exact cC rfl):DE X E (.Call (.Name x p) (e::es) [] pos) (ak fa m) :=
 ⟨bF (xh u q n j v.o l i s d)<|kB t⟩
def LG(hg:Gl X "list")(L:X.mg "list"=Wp)(ha:DA X E [x] fa)(he:UJ [x] X.env=(U9,eval x X.env)::UJ [] X.env:=by exact aW rfl)(G:(VQ pos<|UJ [] X.env).any (·.1)=U9:=by exact cC rfl) :
  DF X E (.Call (.Name "list" p) [x] [] pos) (ak fa<|m1 vt):=by
 refine⟨?_⟩;refine bF (xh zq hg L PyProof.Rows.Boot.«list» ha.o 0#1 0#1 he G) λσ H Q h=>?_;obtain⟨u,N,hs,hr,q⟩:=h;refine⟨u,N,hs,hr,?_⟩;unfold ak at q;cases T:fa N with
 |stuck|exn x=>rwa[T]at q
 |ok l=>
  rw[T]at q;intro j U r t A;have fin:∀(es:ac) (w:ad) (p:UD),m1 vt l=.ok (.lst es)->U p=Wp->Reps X.K r es w->Q (.ref p) (upd U p<|.lst w):=λes w p L I hu=>by
   have O:r p=Wp:=t.sub.free I;have Y:∀p j i d,bC H u i d->H p=Wp->d p=Wp->i p=W1 (.lst j)->Reps X.K d es j->Q (.ref p) i:=by
    have m:match m1 vt l with
     |.ok (.lst l)=>∀p j i d,bC H u i d->H p=Wp->d p=Wp->i p=W1 (.lst j)->Reps X.K d l j->Q (.ref p) i
     |.ok _=>False
     |.exn x=>∀C ox i d,bC H u i d->zI X.K d x C ox->E C ox i
     |.stuck=>False:=q
    rwa[L]at m
   refine Y p w _ r (t.trans ⟨λb o q=>by rw[aA (aP q I)];exact q,aE.refl _,λb o q=>?_,λa y M=>ee M y⟩) (t.s.free I) O aG hu;rw[aA (by intro z;subst z;rw[O]at q;cases q)];exact t.sub _ _ q
  have m:match m1 vt l with
     |.ok (.lst l)=>∀p j i d,bC H u i d->H p=Wp->d p=Wp->i p=W1 (.lst j)->Reps X.K d l j->Q (.ref p) i
     |.ok _=>False
     |.exn x=>∀C ox i d,bC H u i d->zI X.K d x C ox->E C ox i
     |.stuck=>False:=q
  match l,A,m,fin with
  |[],_,m,_=>exact m.elim
  |_::_::_,_,m,_=>exact m.elim
  |[x],A,m,fin=>
   obtain⟨v,r',rfl,y,M⟩:=aC.mp A;rw[Reps.nil_iff.mp M];cases x with
   |lst l=>
    obtain⟨p,j,rfl,B,k2⟩:=aF.mp y;exact⟨p,j,rfl,.inl (aE.sqL t.sub B),λn J=>fin l j n rfl J k2⟩
   |tup l=>
    obtain⟨p,j,rfl,B,k2⟩:=aM.mp y;exact⟨p,j,rfl,.inr (aE.sqT t.sub B),λn J=>fin l j n rfl J k2⟩
   |_=>exact m.elim
def xA:D->Bool
 |.non=>VT
 |_=>U9
def wz(x y:D):aw D:=match y with
 |.non=>.ok<|.bl<|xA x
 |_=>.stuck
def l7(x y:D):aw D:=match y with
 |.non=>.ok<|.bl (!(xA x))
 |_=>.stuck
def Rep.is_non{K:Uv}(r:Rep K H x v):decide (v=.non)=xA x:=by
 cases x with|non=>rw[aS.mp r];rfl|bl b=>rw[aI.mp r];rfl|int b=>rw[ay.mp r];rfl|str b=>rw[Rep.str_iff.mp r];rfl|tup d=>obtain⟨_,_,e,_⟩:=aM.mp r;rw[e];rfl|lst d=>obtain⟨_,_,e,_⟩:=aF.mp r;rw[e];rfl|dic i d=>rw[Rep]at r;obtain⟨_,_,_,e,_⟩:=r;rw[e];rfl|exc x=>obtain⟨_,_,_,e,_⟩:=jO.mp r;rw[e];rfl|ob k x=>obtain⟨_,_,e,_⟩:=bE.mp r;rw[e];rfl
def Cv:BO X.K E (λx y H Q=>y=.non/\Q (.bl (decide (x=.non))) H) wz:=by
 intro x y v u H l Q j i d q;unfold wz at q;cases y with|non=>exact⟨aS.mp d,by rw[i.is_non];exact bW j q<|rb _⟩| _=>exact q.elim
def yR:BO X.K E (λx y H Q=>y=.non/\Q (.bl (!decide (x=.non))) H) l7:=by
 intro x y v u H l Q j i d q;unfold l7 at q;cases y with
 |non=>
  refine⟨aS.mp d,?_⟩;rw[i.is_non];exact bW j q<|rb _
 |_=>exact q.elim
noncomputable def BW:D->String
 |.non=>"NoneType"
 |.bl _=>"bool"
 |.int _=>"int"
 |.str _=>"str"
 |.tup _=>"tuple"
 |.lst _=>"list"
 |.dic _ _=>"dict"
 |.exc _=>"<exc>"
 |.ob (.ins _ _) _=>"<exc>"
 |.ob (.dint _) _=>"dict"
 |.ob (.exf _ _) _=>"<exc>"
 |.ob .pl _=>"list"
 |.ob (.fn _) _=>"function"
def kq(T:String)(x:D):aw D:=.ok<|.bl (BW x==T||(BW x=="bool"&&T=="int"))
def vV(K:Uv)(T:String):Prop:=∀S,S∈["NoneType","bool","int","str","tuple","list","dict","function"]->W.kitOne K (.type S) (.type T)=W1 (S==T||(S=="bool"&&T=="int"))
def Iy(I:Inv X π σ H s)(r:Rep X.K H x v)(q:bB v u)(n:vV X.K T)(G:T∈iI)(h:∀tk,Q (.bool (BW x==T||(BW x=="bool"&&T=="int"))) { s with toks:=tk }) :
  UZ 4#X A (call (.builtin "isinstance") [u,.type T]) Q X.xe s:=by
 cases x with
 |non=>rw[aS.mp r]at q;exact ke I q .non (n _<|by simp) h|bl b=>rw[aI.mp r]at q;exact ke I q (.bl b) (n _<|by simp) h|int b=>rw[ay.mp r]at q;exact ke I q (.int b) (n _<|by simp) h|str b=>rw[Rep.str_iff.mp r]at q;exact ke I q (.str b) (n _<|by simp) h
 |tup Y=>
  obtain⟨a,L,N,rfl,rfl,j,l,h3,U,_⟩:=bJ I r q;obtain⟨o,B,k2,_⟩:=U;exact Wc W.kitx_tuple I.kIn ⟨o,B,k2⟩ (n _<|by simp) (λz=>nomatch z) h
 |lst Y=>
  obtain⟨a,L,N,rfl,rfl,j,l,h3,U,_⟩:=bw I r q;obtain⟨o,B,k2,_⟩:=U;exact Wc sai I.kIn ⟨o,B,k2⟩ (n _<|by simp) (λz=>nomatch z) h
 |dic y Y=>
  rw[Rep]at r;obtain⟨a,M,L,rfl,j,l,_⟩:=r;cases (show u=Vg a from q);obtain⟨_,_,J,_,p⟩:=j.ok I.hok;obtain⟨o,es,ep,B,k2,_⟩:=p;exact Wc Zd I.kIn ⟨o,B,k2.1⟩ (n _<|by simp) (λz=>nomatch z) h
 |exc x=>
  obtain⟨a,C,dc,rfl,i,j⟩:=jO.mp r;cases (show u=Vg a from q);obtain⟨p,_,_⟩:=j.ok I.hok;have e:(BW (.exc x)==T||(BW (.exc x)=="bool"&&T=="int"))=U9:=by
   have:∀T∈iI,(BW (.exc x)==T||(BW (.exc x)=="bool"&&T=="int"))=U9:=by show ∀T∈iI,("<exc>"==T||("<exc>"=="bool"&&T=="int"))=U9;decide
   exact this T G
  rw[e]at h;exact Wc (AH i.ek i.ek.isCls) I.kIn p (i.bt T G) (λz=>nomatch z) h
 |ob k xs=>
  obtain⟨a,L,rfl,j,_⟩:=bE.mp r;cases (show u=Vg a from q);cases k with
  |exf c y=>
   obtain⟨C,dx,fs,i,l,_⟩:=j;obtain⟨p,_,_⟩:=l.ok I.hok;have e:(BW (.ob (.exf c y) xs)==T||(BW (.ob (.exf c y) xs)=="bool"&&T=="int"))=U9:=by
    have:∀T∈iI,("<exc>"==T||("<exc>"=="bool"&&T=="int"))=U9:=by decide
    exact this T G
   rw[e]at h;exact Wc (AH i.ek i.ek.isCls) I.kIn p (i.bt T G) (λz=>nomatch z) h
  |ins c y=>
   obtain⟨C,dx,_,i,l,_⟩:=j;obtain⟨mA,O,_⟩:=sF I.hok l;obtain⟨od,O',_⟩:=O.look;have e:(BW (.ob (.ins c y) xs)==T||(BW (.ob (.ins c y) xs)=="bool"&&T=="int"))=U9:=by
    have:∀T∈iI,(BW (.ob (.ins c y) xs)==T||(BW (.ob (.ins c y) xs)=="bool"&&T=="int"))=U9:=by show ∀T∈iI,("<exc>"==T||("<exc>"=="bool"&&T=="int"))=U9;decide
    exact this T G
   rw[e]at h;exact Wc (W.kitx_own (i.cls.get _) i.cls.hd i.gc i.gn i.tk i.mo) I.kIn O' (i.bt T G) (λz=>nomatch z) h
  |dint y=>
   obtain⟨M,l,_⟩:=j;obtain⟨_,_,J,_,p⟩:=l.ok I.hok;obtain⟨o,es,ep,B,k2,_⟩:=p;exact Wc Zd I.kIn ⟨o,B,k2.1⟩ (n _<|by simp) (λz=>nomatch z) h
  |pl=>exact ke I (show bB (.ref a) (Vg a) from rfl) (.lst j) (n _<|by simp) h
  |fn q=>
   obtain⟨F,ab,c',t,m,pm,ah,_,_,l,_⟩:=j;obtain⟨e,_⟩:=I.hok a _ l;exact Wc (W.kitx_of W.kitAt_ty (λ{_ _ _ _ _ s} p k=>by obtain⟨h,g,d,t,os⟩:=s;obtain⟨o,j,l⟩:=p;exact m8 j l k)) I.kIn ⟨_,e,rfl⟩ (n _<|by simp) (λz=>nomatch z) h
def c6(hk:vV X.K T)(n:Gl X "isinstance")(m:X.mg "isinstance"=Wp)(hg:Gl X x)(hm:X.mg x=Wp)(N:bootBuiltins x=W1 (.type T))(ha:DE X E a f)
  (Y:x≠"__name__":=by decide)(t:1#x:=by decide)(hT:T∈iI:=by decide)
  (y:UJ [a,.Name x i] X.env=(U9,eval a X.env)::UJ [.Name x i] X.env:=by exact aW rfl)(p:UJ [.Name x i] X.env=(U9,eval (.Name x i) X.env)::UJ [] X.env:=by exact aW rfl)(l:(VQ pos<|UJ [.Name x i] X.env).any (·.1)=U9:=by exact cC rfl) :
  DE X E (.Call (.Name "isinstance" p1) [a,.Name x i] [] pos) (aU f<|kq T):=by
 refine⟨?_⟩;refine bF (Ai (r:=λC H Q=>∃d v,C=[v,.ty T]/\Rep X.K H d v/\Q (.bl (BW d==T||(BW d=="bool"&&T=="int"))) H) ?_ n m PyProof.Rows.Boot.«isinstance» (gu ha.o (gu (KR (v:=.ty T) hg hm N rfl Y t) kL p) y) 0#1 0#1 y l) λB H Q ⟨Ha,w,O,U,q⟩=>⟨Ha,w,O,U,?_⟩
 .intro π s B H xs us Q I r h
  obtain⟨d,v,rfl,h1,q⟩:=h;cases r with
  |cons j M=>
   cases M with
   |cons L J=>
    cases J;rename_i u1 G;obtain rfl:G=Value.type T:=L;exact Iy I h1 j hk hT λtk=>⟨.bl _,H,I.tok _,rfl,q⟩
 .unfold aU at q
  cases A:f w with
  |stuck|exn x=>rwa[A]at q
  |ok d=>
   rw[A]at q;intro v H1 u z j;exact⟨d,v,rfl,j.mono z.sub,q _ H1 u z<|rb _⟩
end
theorem xG{prog:Vv}{w:VL}{A:VD}{E:Ur->UH->Prop}{it t:UD}{items:Array Ur}(j:t≠it):∀(n i:Nat) (s:UH) (Q:List Ur->UH->Prop),s.heap.IsListIter it t i->s.heap.IsList t items->i+n<=items.size ->
  (∀h',h'.IsListIter it t (i+n)->Ye it s.heap h'->Q ((items.toList.drop i).take n) { s with heap:=h' })->UZ (UY prog w) A (draw (.ref it) n) Q E s
 |0,i,s,Q,f,_,_,m=>by
  show UZ _ _ (pure []) Q E s;exact U2 (by simpa using m s.heap f (Ye.refl ..))
 |n+1,i,s,Q,f,p,r,m=>by
  have l:i<items.size:=by omega
  show UZ _ _ (pyNext (.ref it) >>= _) Q E s;refine UA (wpAny_pyNext_list_item f p (x:=items[i]) (by simp[l]) λg c a=>?_);have d:g.IsList t items:=by
   obtain⟨o,q,k2⟩:=p;exact⟨o,(a.2 t j).trans q,k2⟩
  refine UA (Wf<|xG j n (i+1) _ _ c d 0#2 λv b e=>U2 ?_);have u:items.toList.drop i=items[i]::items.toList.drop (i+1):=by simp[V2,l]
  have:=m v (by rw[show i+(n+1)=i+1+n by omega];exact b)<|a.trans e;rwa[u,List.take_succ_cons]at this
def p8(r:A.handled=Wp)(m:s.heap.IsList t items)
  (v:∀h',Heap.ExtBut 2#s s.heap h'->Q items.toList { s with heap:=h' }):UZ (UY prog w) A (unpackItems (.ref t) items.size Wp) Q E s:=by
 have j:t≠2#s:=by obtain⟨o,q,_⟩:=m;exact Vh<|UT q
 unfold unpackItems;refine UA ?_
 .unfold notIterableAtAll
  refine UA<|wpAny_specialOf m.typeIs slot_list_iter.lookup ?_;refine U2 ?_;simp only[YX,if_false];refine UA<|Wf<|wpAny_pyIter_list m ?_;have i:(s.heap.push { cls:=.type "list_iterator",data:=.fields #[.ref t,.int 0 0] }).IsList t items:=by
   obtain⟨o,n,k2⟩:=m;exact⟨o,UC _ n,k2⟩
  refine UA (Wf<|xG j items.size 0 _ _ ⟨_,Vs _ rfl,rfl,rfl⟩ i 0#2 λg c a=>?_);have l:List.take items.size (List.drop 0 items.toList)=items.toList:=by
   rw[Zt];exact W4 0#3
  rw[l];rw[dV 0#3];have d:g.IsList t items:=by
   obtain⟨o,n,k2⟩:=i;exact⟨o,(a.2 t j).trans n,k2⟩
  refine UA (Wf<|wpAny_pyNext_list_end r c d 0#3 λu f=>?_);simp only[Option.isSome_none,YX,if_false];refine U2<|v u λb o p e=>f b o p<|a.extBut b o p<|UC _ e
def Cc(a:L2.St):ci->ad->L2.St
 |i::c,v::b=>Cc (a.set i<|W1 v) c b
 |_,_=>a
def eU(ρ:Ev):ci->ac->Ev
 |i::a,d::b=>eU (ρ.set i<|.sh d) a b
 |_,_=>ρ
theorem f9.putAll{K:Uv}{e c Ha H:Hp}:∀{a:ci}{ds:ac}{vs:ad}{b:L2.St}{ρ:Ev},f9 K e c Ha b H ρ->Reps K Ha ds vs->f9 K e c Ha (Cc b a vs) H (eU ρ a ds)
 |[],_,_,_,_,h,_=>by unfold Cc eU;exact h
 |_::_,[],_,_,_,h,r=>by rw[Reps.nil_iff.mp r];unfold Cc eU;exact h
 |i::a,d::ds,_,_,_,h,r=>by
  obtain⟨v,vs,rfl,g,f⟩:=aC.mp r;unfold Cc eU;exact f9.putAll (h.put g) f
section
variable {X:Cx}{E:XK}{He η:Hp}{e a b:Vt}{es:List Vt}{f g:al}{fa:Ev->aw (ac)}{pos:Pos}{is:ci}
def Pp(is:ci):Px:=λc d H Q=>c.length=is.length/\Q (Cc d is c) H
def Ah(h:F2 X es t)(w:∀vs c H Q,t' vs c H Q->t vs c H Q):F2 X es t':=λd s c H vs i Q I r q=>h d s c H vs i Q I r<|w vs c H Q q
def eX:F2 X [] (Pp []):=Ah KH λc d H Q z9=>by
 obtain⟨h,q⟩:=z9;have e:c=[]:=Yy.mp h;subst e;exact⟨rfl,q⟩
def bu(m:X.N.Nodup)(hi:X.N[i]?=W1 x)(d:JC X.env.scope x)(h:F2 X es<|Pp is)(l:X.fn x=VT∨X.env.scope.names.lookup x=W1 .local := by first|exact .inl rfl|exact .inr rfl|assumption)
  (j:(assignEach (.Name x p::es) X.env).map (·.2)=assign (.Name x p) X.env::(assignEach es X.env).map (·.2):=by rfl):F2 X (.Name x p::es) (Pp (i::is)) :=
 Ah (HF (DJ m hi d l) h j) λc n H Q z9=>by
  obtain⟨h,q⟩:=z9;cases c with|nil=>simp at h|cons v c=>exact⟨v,c,rfl,by simpa using h,q⟩
def KI{k:Nat}(z:X.calm=VT)(h:F2 X es t)
  (x:(assignEach es X.env).length=n:=by rfl)(j:(assignEach es X.env).findIdx? (·.1)=Wp:=by rfl):PG X (.Tuple es k pos) (λv c H Q=>∃a xs,v=.ref a/\gH X.K H a xs/\xs.length=n/\t xs c H Q):=by
 intro l s c H v u Q I r hw;obtain⟨a,xs,B,w,y,hw⟩:=hw;subst B;cases r;obtain⟨d,m,q,J⟩:=I.list w;rw[assign_Tuple];refine UA<|wpAny_standAt ?_;unfold unpack;rw[x,j];have i:n=d.toArray.size:=by rw[UW,←m.length,y]
 rw[i];refine UA<|Wf<|p8 (I.ok.hd z) q.isList λA p=>?_;have C:Inv X l c H { s with heap:=A }:=I.kept (t':=s.toks) λb o e=>p b o (Vh<|UT e) e;exact h l _ c H xs _ Q C (by simpa using m) hw
def Qz(h:PG X d t)(h':PG X d t'):PG X d (λv c H Q=>t v c H Q∨t' v c H Q):=λi s c H v u Q I r q=>q.elim (h i s c H v u Q I r)<|h' i s c H v u Q I r
def HG{k:Nat}(l:X.calm=VT)(h:F2 X es<|Pp is)(j:(assignEach es X.env).length=is.length:=by rfl)(c:(assignEach es X.env).findIdx? (·.1)=Wp:=by rfl) :
  PG X (.Tuple es k pos) (λv i H Q=>∃a xs,v=.ref a/\(pZ X.K H a xs∨gH X.K H a xs)/\xs.length=is.length/\Q (Cc i is xs) H) :=
 yE (Qz (NV l h j c) (KI l h j c)) λv i H Q ⟨a,xs,e,m,d,q⟩=>m.elim (λz=>.inl ⟨a,xs,e,z,d,d,q⟩) λz=>.inr ⟨a,xs,e,z,d,d,q⟩
def iO(n:Nat)(d:D):Option (ac):=match d with
 |.tup c=>if c.length=n then W1 c else Wp
 |.lst c=>if c.length=n then W1 c else Wp
 |_=>Wp
def qR{K:Uv}(h:iO n d=W1 ds)(r:Rep K H d v):∃a vs,v=.ref a/\(pZ K H a vs∨gH K H a vs)/\vs.length=n/\Reps K H ds vs:=by
 unfold iO at h;cases d with
 |tup es=>
  by_cases c:es.length=n
  .simp only[dh c]at h;cases h
   obtain⟨a,vs,rfl,j,i⟩:=aM.mp r;exact⟨a,vs,rfl,.inl j,by rw[←i.length];exact c,i⟩
  .simp only[dV c]at h;cases h
 |lst es=>
  by_cases c:es.length=n
  .simp only[dh c]at h;cases h
   obtain⟨a,vs,rfl,j,i⟩:=aF.mp r;exact⟨a,vs,rfl,.inr j,by rw[←i.length];exact c,i⟩
  .simp only[dV c]at h;cases h
 |_=>cases h
def Ab{K:Uv}{a:UD}(c:aE H H')(h:pZ K H a vs∨gH K H a vs):pZ K H' a vs∨gH K H' a vs:=h.elim (λz=>.inl (aE.sqT c z)) λz=>.inr<|aE.sqL c z
def Sn(is:ci)(f:al):am:=λc=>(f c).bind λd=>match iO is.length d with
 |some i=>.ok<|.nx<|eU c is i
 |none=>.stuck
def c5(is:ci):Ev->D->aw Ev:=λc d=>match iO is.length d with
 |some i=>.ok<|eU c is i
 |none=>.stuck
def fw:BM (c5 is):=λc d=>by
 unfold c5;cases iO is.length d with|none=>exact .inl rfl|some i=>exact .inr ⟨_,rfl⟩
def gP{k:Nat}(p:X.calm=VT)(h:F2 X es<|Pp is)(o:(assignEach es X.env).length=is.length:=by rfl)(c:(assignEach es X.env).findIdx? (·.1)=Wp:=by rfl):DG X E He η (.Tuple es k pos) (c5 is) :=
 ⟨yE (HG p h o c) λv s H Q z9=>by
  obtain⟨r,t,d,h,l,q⟩:=z9;unfold c5 at q;cases i:iO is.length d with
  |none=>rw[i]at q;exact q.elim
  |some u=>
   rw[i]at q;obtain⟨a,j,rfl,n,k2,m⟩:=qR i l;exact⟨a,j,rfl,Ab h.g.sub n,k2,q _ H r (aE.refl _)<|h.putAll m⟩⟩
def ER(i j:Nat)(fa:Ev->aw (ac)):am:=λc=>(fa c).bind λd=>match d with
 |[x,y]=>.ok<|.nx<|(c.set i<|.sh x).set j<|.sh y
 |_=>.stuck
def OY{m l pt c:Pos}{n k2}(M:X.calm=VT)(Q:X.N.Nodup)(hi:X.N[i]?=W1 x)(L:X.N[j]?=W1 y)(p:i≠j)
  (I:X.env.scope.names.lookup x=W1 .local)(G:X.env.scope.names.lookup y=W1 .local)(O:DA X E [a,b] fa)
  (hw:swappedStores [.Tuple [.Name x m,.Name y l] n pt] (.Tuple [a,b] k2 c) X.env=pure (W1 [x,y]))
  (J:swapsWithSole [.Tuple [.Name x m,.Name y l] n pt] (.Tuple [a,b] k2 c) pos.line X.env=pure U9:=by rfl) :
  DS X E He η (.Assign [.Tuple [.Name x m,.Name y l] n pt] (.Tuple [a,b] k2 c) pos) (ER i j fa):=by
 refine⟨?_⟩;refine cH (NR M Q hi L p I G O.o hw J) λD σ H z9=>?_;obtain⟨Ha,w,h,q⟩:=z9;refine⟨Ha,w,h.g.sub,h.rd,?_⟩
 unfold ER at q;cases r:fa w with
 |stuck=>rwa[r]at q|exn x=>rw[r]at q;exact λC ox H' s g ex=>q C ox H' s (h.g.trans g) ex
 |ok ds=>
  rw[r]at q;intro vs H1 t A d
  match ds,d,q with
  |[x,y],d,q=>
   obtain⟨v,r',rfl,h1,Y⟩:=aC.mp d;obtain⟨u,B,rfl,U,T⟩:=aC.mp Y;rw[Reps.nil_iff.mp T];exact⟨v,u,rfl,q _ H1 t A.z<|((h.grow A).put h1).put U⟩
  |[],_,q=>exact q.elim
  |[_],_,q=>exact q.elim
  |_::_::_::_,_,q=>exact q.elim
end
def CI{K:Uv}:vV K "int":=by
 intro S a;simp only[UG,XW,eo]at a;rcases a with rfl|rfl|rfl|rfl|rfl|rfl|rfl|rfl<;>first|rfl|decide +kernel
def AI{K:Uv}:vV K "bool":=by
 intro S a;simp only[UG,XW,eo]at a;rcases a with rfl|rfl|rfl|rfl|rfl|rfl|rfl|rfl<;>first|rfl|decide +kernel
def ur{K:Uv}:vV K "str":=by
 intro S a;simp only[UG,XW,eo]at a;rcases a with rfl|rfl|rfl|rfl|rfl|rfl|rfl|rfl<;>first|rfl|decide +kernel
def kO{K:Uv}:vV K "tuple":=by
 intro S a;simp only[UG,XW,eo]at a;rcases a with rfl|rfl|rfl|rfl|rfl|rfl|rfl|rfl<;>first|rfl|decide +kernel
def ik{K:Uv}:vV K "list":=by
 intro S a;simp only[UG,XW,eo]at a;rcases a with rfl|rfl|rfl|rfl|rfl|rfl|rfl|rfl<;>first|rfl|decide +kernel
section
variable {X:Cx}{E:XK}{He η:Hp}{e a b c:Vt}{f g h:al}{pos:Pos}
def dv(i:Nat)(m:X.N[i]?=W1 x:=by rfl)(j:BX X.env.scope x:=by first|exact UE rfl|exact XI 0#5|exact XI<|XI rfl)(l:1#x:=by decide)
  (d:3#x:=by decide):DE X E (.Name x pos) (ae i):=O2 m j l d
def yb(K:Uv)(i:UL->Option Ur)(x:UL)(d:D):Prop:=∃v u,i x=W1 u/\bB v u/\∀H,Rep K H d v
def aY(k:yb X.K X.mg x d)(i:Gl X x)(j:1#x:=by decide):DE X E (.Name x pos) (dC d):=by
 obtain⟨v,u,n,m,l⟩:=k;exact LJ i n m l j
def fG{K:Uv}(h:d x=W1 (.int i t)):yb K d x (.int i):=⟨.int i,_,h,⟨t,rfl⟩,λ_=>ri _⟩
def Lj{K:Uv}(h:d x=W1 (.str i t)):yb K d x (.str i):=⟨.str i,_,h,⟨t,rfl⟩,λ_=>Rep.str_iff.mpr rfl⟩
def DX{K:Uv}{a:UD}(h:d x=W1 (.ref a))(l:K.lookup a=W1 ⟨.type "tuple",p,.seq its n,o⟩)
  (j:bo vs its.toList)(i:its.size<=sizeLine)(m:∀H,Reps K H ds vs):yb K d x (.tup ds):=⟨.ref a,_,h,rfl,λH=>aM.mpr ⟨a,vs,rfl,.inr ⟨_,its,n,l,rfl,rfl,i,j⟩,m H⟩⟩
def jU(j i:D->D->aw D)(f g h:al):al:=λd=>(f d).bind λx=>(g d).bind λy=>(j x y).bind λz=>match z with
 |.bl VT=>(h d).bind λw=>i y w
 |.bl U9=>.ok<|.bl U9
 |_=>.stuck
def vS(r:R2)(o:D->D->aw D):Prop:=∀(K:Uv) (x y:D) (v u:V) (H i:Hp) (Q:VK) (d:D),aE i H->Rep K i x v->Rep K i y u->o x y=.ok d->(∀w,Rep K i d w->Q w H)->r v u H Q
def i4{g:Int->Int->D}(n:∀K H i j,Rep K H (g i j)<|o i j):vS (Hs o) (yY (λ_ _=>VT) g):=by
 intro K x y v u H r Q d p m l e q;unfold yY at e;cases x with
 |int i=>
  cases y with|int j=>simp only[dh]at e;cases e;exact⟨i,j,ay.mp m,ay.mp l,q _<|n _ _ i j⟩| _=>cases e
 |_=>cases e
def vT(o:D->D->aw D):Prop:=∀x y,∀z,o x y≠.exn z
def rB(p:vS r o)(p':vS r' o')(n:vT o)(n':vT o')(M:L2.St)(H:Hp)(Q:VK)(q:tD X.K E (jU o o' f g h) M H Q) :
  B7 r r' (tD X.K E f) (tD X.K E g) (tD X.K E h) M H Q:=by
 obtain⟨Ha,i,hs,I,q⟩:=q;refine⟨Ha,i,hs,I,?_⟩;unfold jU at q;cases U:f i with
 |stuck|exn x=>rwa[U]at q
 |ok x=>
  rw[U]at q;intro v H1 L A r1;refine⟨L,i,A.sub,I.mono A.z,?_⟩;replace q:=post.grow (r:=(g i).bind λy=>(o x y).bind λz=>match z with
   |.bl VT=>(h i).bind λw=>o' y w
   |.bl U9=>.ok<|.bl U9
   |_=>.stuck) q A
  cases T:g i with
  |stuck|exn x=>rwa[T]at q
  |ok y=>
   rw[T]at q;intro u J j l N;replace q:=post.grow (r:=(o x y).bind λz=>match z with
    |.bl VT=>(h i).bind λw=>o' y w
    |.bl U9=>.ok<|.bl U9
    |_=>.stuck) q l
   cases C:o x y with
   |stuck=>rw[C]at q;exact q.elim|exn z=>exact ee C<|n x y z
   |ok z=>
    rw[C]at q;refine p X.K x y v u J j _ z l.sub (r1.mono l.z) N C λw G=>?_;cases z with
    |bl b=>
     rw[aI.mp G];refine⟨b,rfl,?_⟩;cases b with
     |false=>rw[dV Vn];exact q _ J j (bC.refl l.sub)<|rb _
     |true=>
      rw[dh rfl];refine⟨j,i,l.sub,(I.mono A.z).mono l.z,?_⟩;replace q:post X.K E J j ((h i).bind λw=>o' y w) Q:=q;cases O:h i with
      |stuck|exn x=>rwa[O]at q
      |ok s=>
       rw[O]at q;intro v3 Y m t r3;replace q:=post.grow (r:=o' y s) q t;cases B:o' y s with
       |stuck=>rw[B]at q;exact q.elim|exn z=>exact ee B<|n' y s z
       |ok d=>
        rw[B]at q;exact p' X.K y s u v3 Y m Q d t.sub (N.mono t.z) r3 B λw3 r5=>q w3 Y m (bC.refl t.sub) r5
    |_=>exact q.elim
def Jj(s:ia X (VA j) r)(i:ia X (VA d) l)(p:vS r o)(m:vS l o')(n:vT o)(q:vT o')(w:DE X E a f)(v:DE X E b g)(u:DE X E c h)
  (t:lastMarks [j,d] [b,c]=U9:=by with_unfolding_all rfl):DE X E (.Compare a [j,d] [b,c] pos) (jU o o' f g h):=⟨bF (HL s i w.o v.o u.o t)<|rB p m n q⟩
def Bt(I:ia X (VA t) r)(j:ia X (VA i) z)(p:vS r o)(A:vS z o')(n:vT o)(B:vT o')(N:DE X E a f)(M:DE X E b g)(L:DE X E c h)
  (J:lastMarks [t,i] [b,c]=U9:=by with_unfolding_all rfl):DT X E (.Compare a [t,i] [b,c] pos) (jU o o' f g h):=by
 refine⟨?_⟩;refine sA (Hz I j N.o M.o L.o J) λm H Q q=>?_;have w:tD X.K E (jU o o' f g h) m H λx Y=>∃k,x=.bl k/\Q k Y:=by
  obtain⟨T,s,C,G,q⟩:=q;refine⟨T,s,C,G,?_⟩;cases u:jU o o' f g h s with
  |stuck|exn x=>rwa[u]at q
  |ok d=>
   rw[u]at q;intro v U l O y;cases d with|bl b=>rw[aI.mp y];exact⟨b,rfl,q U l O⟩| _=>exact q.elim
 exact rB p A n B m H _ w
def i5{c:Int->Int->Bool}{g:Int->Int->D}:vT (yY c g):=by
 intro x y z;unfold yY;cases x<;>cases y<;>simp<;>split<;>simp
end
def oB(i:Nat):Ev->Nat:=λa=>match a[i]? with
 |some (.sh (.int j))=>j.natAbs+1
 |_=>0
section
variable {X:Cx}{E:XK}{a b:Vt}{f g:al}{pos:Pos}
def bf(x y:D):aw D:=match x,y with
 |.int i,.int j=>if dj i j=VT then .ok (.int<|i*j) else .stuck
 |_,_=>.stuck
def cQ(m:DE X E a f)(l:DE X E b g):DE X E (.BinOp a .Mult b pos) (aa f g bf):=rg KY (by
 intro x y v u H n Q e d c q;unfold bf at q;cases x with
 |int i=>
  cases y with
  |int j=>
   by_cases h:dj i j=VT
   .simp only[dh h]at q
    exact⟨i,j,ay.mp d,ay.mp c,dj.ok h,bW e q<|ri _⟩
   .simp only[dV h]at q;exact q.elim
  |_=>exact q.elim
 |_=>exact q.elim) m l
end
def ON(K:Uv)(tg:Ev->D->aw Ev):TG:=λv a H Q=>∃c b,tG K c b tg v a H Q
theorem Reps.rep{K:Uv}(h:Reps K H ds vs):∀k:Nat,Reps K H (U1 k ds).flatten (U1 k vs).flatten
 |0=>by simp;exact Reps.nil
 |k+1=>by
  rw[VG,VG,Xc,Xc];exact h.app<|Reps.rep h k
section
variable {X:Cx}{E:XK}{a b:Vt}{f g:al}{pos:Pos}
def LO(x y:D):aw D:=match x,y with
 |.lst c,.int k=>if c.length*k.toNat<=line/\-9223372036854775808<=k/\k<9223372036854775808 then .ok (.lst (U1 k.toNat c).flatten) else .stuck
 |_,_=>.stuck
def oa(f g:al):al:=λc=>(f c).bind λx=>match x with
 |.lst d=>(g c).bind λy=>LO (.lst d) y
 |_=>.stuck
def qt(M:DF X E a f)(L:DE X E b g):DE X E (.BinOp a .Mult b pos) (oa f g):=by
 refine⟨?_⟩;refine bF (HI Oa M.o L.o) λO H Q z9=>?_;obtain⟨B,d,J,t,q⟩:=z9;refine⟨B,d,J,t,?_⟩
 unfold oa at q;cases A:f d with
 |stuck|exn x=>rwa[A]at q
 |ok x=>
  rw[A]at q;cases x with
  |lst j=>
   replace q:post X.K E H B ((g d).bind λy=>LO (.lst j) y) Q:=q;intro p C H1 l i T U I m;refine⟨l,d,i.sub,t.mono i.z,?_⟩;replace q:=q.grow i;cases w:g d with
   |stuck|exn x=>rwa[w]at q
   |ok y=>
    rw[w]at q;intro u Y N e G;replace q:=post.grow (r:=LO (.lst j) y) q e;cases y with
    |int k=>
     unfold LO at q
     by_cases c:j.length*k.toNat<=line/\-9223372036854775808<=k/\k<9223372036854775808
     .simp only[dh c]at q
      refine⟨p,k,C,rfl,ay.mp G,e.s _ _ I,by omega,by omega,by rw[←m.length];exact fF c.1,λn v=>?_⟩;exact q _ _ _ (bg e.sub v)<|aF.mpr ⟨n,_,rfl,gH.of aG,((m.mono e.z).rep _).mono (bg e.sub v).z⟩
     .simp only[dV c]at q;exact q.elim
    |_=>exact q.elim
  |_=>exact q.elim
end
def jQ:ac->Option (bv)
 |[]=>W1 []
 |.str x::r=>(jQ r).map (x::·)
 |_=>Wp
theorem z8{K:Uv}{H:Hp}:∀{ds:ac}{ys:bv}{vs:ad}{a:List Ur},jQ ds=W1 ys->Reps K H ds vs->bo vs a->StrsAre a ys
 |[],ys,vs,a,h,r,q=>by
  cases h;rw[Reps.nil_iff.mp r]at q;cases q;exact .nil
 |d::ds,ys,vs,a,h,r,q=>by
  obtain⟨v,j,rfl,g,f⟩:=aC.mp r;cases q with
  |cons b c=>
   cases d with
   |str x=>
    unfold jQ at h;cases e:jQ ds with
    |none=>rw[e]at h;cases h
    |some i=>
     rw[e]at h;cases h;rw[Rep.str_iff.mp g]at b;obtain⟨t,rfl⟩:=b;exact .cons _ _<|z8 e f c
   |_=>cases h
section
variable {X:Cx}{E:XK}{o e:Vt}{fo:al}{fa:Ev->aw (ac)}
def jG(z:UL)(ys:bv):Bool:=decide (z.length<=16)&&decide ((ys.map (·.length)).sum+ys.length<=1048576)
def Qm(K:Uv):V->ad->Hp->VK->Prop:=λx xs H Q=>∃z p b a,x=.str z/\xs=[.ref p]/\Rep K H (.lst b) (.ref p)/\jQ b=W1 a/\jG z a=VT/\Q (.str<|Zr z a) H
def La:Tz X "str.join" (Qm X.K):=by
 intro y s w H x xs v B Q I d g h;obtain⟨z,p,L,c,rfl,rfl,l,j,b,q⟩:=h;obtain⟨t,rfl⟩:=d;obtain⟨u,rfl,f⟩:=g.one;obtain⟨a,A,i,J,rfl,G,r,n,m,_⟩:=bw I l f;unfold jG at b;rw[US]at b;exact join_listW m (by simpa using z8 j r n) (ef b.1) (ef b.2) λC k=>⟨.str<|Zr z c,H,I.tok _,⟨_,rfl⟩,q⟩
def uv(z:UL)(xs:ac):aw D:=match xs with
 |[.lst b]=>match jQ b with
  |some a=>if jG z a=VT then .ok (.str<|Zr z a) else .stuck
  |none=>.stuck
 |_=>.stuck
def By(fo:al)(fa:Ev->aw (ac)):al:=λa=>(fo a).bind λx=>match x with
 |.str z=>(fa a).bind λxs=>uv z xs
 |_=>.stuck
def LI(J:DE X E o fo)(L:DA X E [e] fa)
  (f:Xq o "join" X.env (eval o X.env)=eval o X.env:=by rfl)
  (i:((VQ a<|UJ [e] X.env).all (λx=>!x.1)&&(YE a<|Xz [] X.env).all (λx=>x.1.isSome)
  &&decide ([e].length+([]:List Yt).length+(if([]:List Yt).isEmpty then 0 else 1)<30))=VT:=by exact uE rfl)
  (d:(apos.endLine==a.line)=VT:=by rfl) (l:UJ [e] X.env=(U9,eval e X.env)::UJ [] X.env:=by exact aW rfl) (b:(VQ a<|UJ [] X.env).any (·.1)=U9:=by exact cC rfl) :
  DE X E (.Call (.Attribute o "join" apos) [e] [] a) (By fo fa):=by
 refine⟨?_⟩;refine bF (HM PySem.F.plainAttrs_str PySem.F.slot_str_join PySem.F.type_str_join La J.o L.o f i d l b) λT H Q z9=>?_;obtain⟨N,g,l,A,q⟩:=z9;refine⟨N,g,l,A,?_⟩
 unfold By at q;cases C:fo g with
 |stuck|exn x=>rwa[C]at q
 |ok x=>
  rw[C]at q;intro v H1 t n I;cases x with
  |str z=>
   rw[Rep.str_iff.mp I];refine⟨rfl,t,g,n.sub,A.mono n.z,?_⟩;replace q:=post.grow (r:=(fa g).bind λxs=>uv z xs) q n;cases B:fa g with
   |stuck|exn x=>rwa[B]at q
   |ok xs=>
    rw[B]at q;intro Y H2 O m j;replace q:=post.grow (r:=uv z xs) q m;unfold uv at q
    match xs,j,q with
    |[.lst G],j,q=>
     obtain⟨w,r',rfl,y,k2⟩:=aC.mp j;rw[Reps.nil_iff.mp k2];obtain⟨p,U,rfl,k3,k4⟩:=aF.mp y;cases s:jQ G with
     |none=>simp only[s]at q;exact q.elim
     |some u=>
      simp only[s]at q
      by_cases c:jG z u=VT
      .rw[dh c]at q
       exact⟨z,p,G,u,rfl,rfl,y.mono m.sub,s,c,bW m.sub q<|Rep.str_iff.mpr rfl⟩
      .rw[dV c]at q;exact q.elim
    |[],_,q=>exact q.elim
    |M::_::_,_,q=>cases M<;>exact Vz q
    |[.non],_,q=>exact q.elim
    |[.bl _],_,q=>exact q.elim
    |[.int _],_,q=>exact q.elim
    |[.str _],_,q=>exact q.elim
    |[.tup _],_,q=>exact q.elim
    |[.dic _ _],_,q=>exact q.elim
    |[.exc _],_,q=>exact q.elim
    |[.ob _ _],_,q=>exact q.elim
  |_=>exact q.elim
end
section
variable {X:Cx}{E:XK}{a:Vt}{f:al}{pos:Pos}
def Ss:V->Option Int->Option Int->Hp->VK->Prop:=λx lo b H Q=>∃z,x=.str z/\z.length<=sizeLine/\Q (.str<|XA z lo b) H
def NB:JM X Ss:=by
 intro p s o H x v y w lo n A Q I r c pl m h;obtain⟨z,rfl,b,q⟩:=h;obtain⟨t,rfl⟩:=r;have fin:∀g k,EP X p o Q (.str (XA z lo n) g) { s with toks:=k }:=λg k=>⟨.str<|XA z lo n,H,I.tok _,⟨_,rfl⟩,q⟩
 refine⟨"str",_,PySem.F.slot_str_getitem.lookup,typeIs_str s z t,?_⟩;cases pl with
 |none=>
  cases m with|none=>exact wpAny_getItem_str_slice (l:=none) (u:=none) (st:=none) c rfl (post_val_or_str ⟨UI (Y0 z _ _) b,fin⟩)|int j d=>exact wpAny_getItem_str_slice (l:=none) (u:=some (j,d)) (st:=none) c rfl (post_val_or_str ⟨UI (Y0 z _ _) b,fin⟩)
 |int i e=>
  cases m with|none=>exact wpAny_getItem_str_slice (l:=some (i,e)) (u:=none) (st:=none) c rfl (post_val_or_str ⟨UI (Y0 z _ _) b,fin⟩)|int j d=>exact wpAny_getItem_str_slice (l:=some (i,e)) (u:=some (j,d)) (st:=none) c rfl (post_val_or_str ⟨UI (Y0 z _ _) b,fin⟩)
noncomputable def tf(x:D) (l h:Option Int):aw D:=match x with
 |.lst b=>.ok<|.lst<|jA b l h
 |.str z=>if z.length<=line then .ok (.str<|XA z l h) else .stuck
 |.tup b=>if HT.sIx b.length 0 l=0/\HT.sIx b.length b.length h=b.length then .stuck else .ok<|.tup<|jA b l h
 |_=>.stuck
def fJ(f:al)(lo hi:Ev->aw (Option Int)):al:=λb=>(f b).bind λx=>(lo b).bind λl=>(hi b).bind λh=>tf x l h
def cO{lo hi:Option Vt}(u:DE X E a f)(s:DO X E lo w)(t:DO X E hi y):DE X E (.Subscript a (.Slice lo hi Wp A) pos) (fJ f w y) :=
 ⟨bF (HH (JM.or Kf<|JM.or NB NA) u.o s.o t.o) (Aa (m:=tf) λx v l h H B Q b r q=>by
  cases x with
  |lst e=>
   obtain⟨p,i,rfl,j,g⟩:=aF.mp r;exact .inl ⟨p,i,rfl,aE.sqL b j,λn d=>q _ _ _ (bg b d)<|aF.mpr ⟨n,_,rfl,gH.of aG,(g.cut l h).mono (bg b d).z⟩⟩
  |str z=>
   unfold tf at q
   by_cases c:z.length<=line
   .simp only[dh c]at q
    exact .inr<|.inl ⟨z,Rep.str_iff.mp r,fF c,bW b q<|Rep.str_iff.mpr rfl⟩
   .simp only[dV c]at q;exact q.elim
  |tup e=>
   unfold tf at q
   by_cases c:HT.sIx e.length 0 l=0/\HT.sIx e.length e.length h=e.length
   .simp only[dh c]at q;exact q.elim
   .simp only[dV c]at q
    obtain⟨p,i,rfl,j,g⟩:=aM.mp r;exact .inr (.inr ⟨p,i,rfl,aE.sqT b j,by rw[←g.length];exact c,λn d=>q _ _ _ (bg b d)<|aM.mpr ⟨n,_,rfl,pZ.of aG,(g.cut l h).mono (bg b d).z⟩⟩)
  |_=>exact q.elim)⟩
end
def Tb(z:UL):It:=⟨λi _=>i<z.cps.size,λi H x a=>a=H/\∃c,z.cps[i]?=W1 c/\x=.str ⟨#[c]⟩,λi _=>z.cps.size<=i⟩
def B4{P:Vv}{w:VL}{K:Uv}{tg:Vt}(z:UL)(t:Tok)(it:UD):C9 P w K tg (Tb z) [it] it (λi h=>h.IsStrIter it "str_ascii_iterator" z t i) where
 mem:=by simp
 obj:=λi h st b hb=>by
  have e:b=it:=by simpa using hb
  subst e;obtain⟨o,e,c,d⟩:=st;exact⟨o,e,λv z=>by rw[d]at z;cases z⟩
 keep:=λi h h' st k=>let ⟨o,ho,r⟩:=st;⟨o,k it 0#3 o ho,r⟩
 item:=by
  intro X hP hw hK hc i π s σ H E I hf st hg;subst hP hw hK;have hg':i<z.cps.size:=hg;obtain⟨f0,f1,f2,f3,f4,f5⟩:=hf it 0#3;refine wpAny_pyNext_ascii_item st (c:=z.cps[i]) (by simp[hg']) λh' st' sb=>?_;have I1:Inv X π σ H { s with heap:=h',toks:=s.toks+1 }:=I.turned (t':=s.toks+1) (λb o hb e=>(sb.2 b hb).trans e) f0 f1 f3 f4 f5;obtain⟨o,e,c,d⟩:=id st';exact⟨_,rfl,D2 (s:={ s with heap:=h',toks:=s.toks+1 }) e c d 0#1 ⟨.str ⟨#[z.cps[i]]⟩,H,I1,⟨_,rfl⟩,⟨rfl,_,by simp[hg'],rfl⟩,st',λb hb=>(hf b hb).1⟩⟩
 done:=by
  intro X hP hw hK hc i π s σ H E I hf st hg;subst hP hw hK;have hg':z.cps.size<=i:=hg;obtain⟨f0,f1,f2,f3,f4,f5⟩:=hf it 0#3;exact wpAny_pyNext_ascii_end (I.ok.hd hc) st (by simp[hg']) λh' eb=>⟨rfl,I.turned (t':=s.toks) (λb o hb e=>eb b o hb e) f0 f1 f3 f4 f5⟩
 self:=λ_ _ _ _ _ st h=>wpAny_pyIter_striter_ascii st h
def EA{P:Vv}{w:VL}{K:Uv}{tg:Vt}(z:UL)(t:Tok)(it:UD):C9 P w K tg (Tb z) [it] it (λi h=>h.IsStrIter it "str_iterator" z t i) where
 mem:=by simp
 obj:=λi h st b hb=>by
  have e:b=it:=by simpa using hb
  subst e;obtain⟨o,e,c,d⟩:=st;exact⟨o,e,λv z=>by rw[d]at z;cases z⟩
 keep:=λi h h' st k=>let ⟨o,ho,r⟩:=st;⟨o,k it 0#3 o ho,r⟩
 item:=by
  intro X hP hw hK hc i π s σ H E I hf st hg;subst hP hw hK;have hg':i<z.cps.size:=hg;obtain⟨f0,f1,f2,f3,f4,f5⟩:=hf it 0#3;refine wpAny_pyNext_wide_item st (c:=z.cps[i]) (by simp[hg']) λh' st' sb=>?_;have I1:Inv X π σ H { s with heap:=h',toks:=s.toks+1 }:=I.turned (t':=s.toks+1) (λb o hb e=>(sb.2 b hb).trans e) f0 f1 f3 f4 f5;obtain⟨o,e,c,d⟩:=id st';exact⟨_,rfl,D2 (s:={ s with heap:=h',toks:=s.toks+1 }) e c d 0#1 ⟨.str ⟨#[z.cps[i]]⟩,H,I1,⟨_,rfl⟩,⟨rfl,_,by simp[hg'],rfl⟩,st',λb hb=>(hf b hb).1⟩⟩
 done:=by
  intro X hP hw hK hc i π s σ H E I hf st hg;subst hP hw hK;have hg':z.cps.size<=i:=hg;obtain⟨f0,f1,f2,f3,f4,f5⟩:=hf it 0#3;exact wpAny_pyNext_wide_end (I.ok.hd hc) st (by simp[hg']) λh' eb=>⟨rfl,I.turned (t':=s.toks) (λb o hb e=>eb b o hb e) f0 f1 f3 f4 f5⟩
 self:=λ_ _ _ _ _ st h=>wpAny_pyIter_striter_wide st h
def SK(b:TE):TI:=λa H R=>b a H λx c=>∃z,x=.str z/\R (Tb z) c
def NU(u:PE X l m):PI X tg l (SK m):=by
 intro g s j H R I h;refine cW (u g s j H _ I h) λv a ⟨x,f,d,p,r⟩=>?_;obtain⟨z,rfl,q⟩:=r;obtain⟨t,rfl⟩:=p;have c:∀b∈[2#a],qF X g f b:=λb w=>by
  have e:b=2#a:=by simpa using w
  subst e;exact d.fpOk (U3 _)<|d.hok.fresh<|U3 _
 cases i:z.cps.all (· < 128) with|false=>exact wpAny_pyIter_wide i ⟨2#a,[2#a],_,_,f,rfl,d.kept (t':=a.toks) λb o e=>UC _ e,EA z t _,⟨_,Vs _ rfl,rfl,rfl⟩,c,q⟩|true=>exact wpAny_pyIter_ascii i ⟨2#a,[2#a],_,_,f,rfl,d.kept (t':=a.toks) λb o e=>UC _ e,B4 z t _,⟨_,Vs _ rfl,rfl,rfl⟩,c,q⟩
def lE(z:UL):ac:=z.cps.toList.map λc=>.str ⟨#[c]⟩
def nA(z:UL):(lE z).length=z.cps.size:=by unfold lE;simp
section
variable {X:Cx}{E:XK}
def Qu(K:Uv):ad->Hp->VK->Prop:=λxs H Q=>∃(p:UD) (bs:List Bool),xs=[.ref p]/\gH K H p (bs.map V.bl)/\Q (.bl<|bs.all id) H
theorem xX:∀bs:List Bool,(VO bs.length).all (λi=>bs.getD i U9)=bs.all id
 |[]=>rfl
 |b::r=>by
  rw[UP,Z3,W8,YB,W8,←xX r];rfl
def BD(B:X.calm=VT):mv X (.builtin "all") (Qu X.K):=by
 intro L s J H xs M Q I r h;obtain⟨p,bs,rfl,y,q⟩:=h;obtain⟨u,rfl,n⟩:=wO r;cases n;obtain⟨a,j,pl,T⟩:=I.list y;have hlen:=j.length;rw[Ut]at hlen;have g:p≠2#s:=Vh pl.lt;refine call_all_walk<|wpAny_pyIter_list pl.isList ?_;have f:(s.heap.push { cls:=.type "list_iterator",data:=.fields #[.ref p,.int 0 0] }).IsList p a.toArray:=by
  obtain⟨o,t,k2⟩:=pl.isList;exact⟨o,UC _ t,k2⟩
 refine⟨2#s,_,_,_,_,_,λi=>bs.getD i U9,rfl,Walks.list (A:=X.A.in1) (I.ok.hd B) 2#s p g a.toArray,⟨⟨_,Vs _ rfl,rfl,rfl⟩,f⟩,?_,λY m z=>?_⟩
 .intro i v O Q' E' x C
  have c:a[i]?=W1 v:=by simpa using x
  have U:i<a.length:=(Uz.mp c).1;obtain⟨w,l,G⟩:=j.get (show(bs.map V.bl)[i]?=W1 (V.bl<|bs.getD i U9) by
   rw[Uw,Uq<|by omega];simp[List.getD,Uq (show i<bs.length by omega)])
  rw[c]at l;cases l;obtain rfl:v=Wb _:=G;exact Wg C
 .have d:(VO a.toArray.size).all (λi=>bs.getD i U9)=bs.all id:=by
   rw[UW,←hlen];exact xX bs
  rw[d];exact⟨.bl _,H,I.kept (t':=m) (λb o e=>z b o (by simp only[UX];exact Vh<|UT e)<|UC _ e),rfl,q⟩
def fK:ac->Option (List Bool)
 |[]=>W1 []
 |.bl b::r=>(fK r).map (b::·)
 |_=>Wp
theorem xN{K:Uv}{H:Hp}:∀{ds:ac}{bs:List Bool}{vs:ad},fK ds=W1 bs->Reps K H ds vs->vs=bs.map V.bl
 |[],bs,vs,h,r=>by cases h;exact Reps.nil_iff.mp r
 |d::ds,bs,vs,h,r=>by
  obtain⟨v,f,rfl,b,a⟩:=aC.mp r;cases d with
  |bl x=>
   unfold fK at h;cases e:fK ds with
   |none=>rw[e]at h;cases h
   |some c=>
    rw[e]at h;cases h;rw[aI.mp b,xN e a];rfl
  |_=>cases h
def vw(x:D):aw D:=match x with
 |.lst a=>match fK a with
  |some bs=>.ok<|.bl<|bs.all id
  |none=>.stuck
 |_=>.stuck
def Jp:nz X E (Qu X.K) (m1 vw):=BE λx v H g Q a r q=>by
 cases x with
 |lst d=>
  unfold vw at q;obtain⟨p,f,rfl,c,b⟩:=aF.mp r;cases e:fK d with
  |none=>simp only[e]at q;exact q.elim
  |some bs=>
   simp only[e]at q;exact⟨p,bs,rfl,by rw[←xN e b];exact aE.sqL a c,bW a q<|rb _⟩
 |_=>exact q.elim
end
end DL
local macro_rules|`($n:num#0)=>`(DL.dC (.int $n))|`($_:num#$x:str)=>`(DL.dC (.str $x))|`($_:num#4)=>`(DL.dC .non)|`($n:num#6)=>`(DL.af $n)|`($n:num#7)=>`(DL.dv $n)
namespace L2
open PySem PySem.Spec PyProof.Rows
section
variable {κ:Type}[DecidableEq κ]
def rQ(a:List<|κ×V)(k:κ):Option V:=(a.find? λb=>decide (b.1=k)).map (·.2)
def lH(a:List<|κ×V)(k:κ)(v:V):List (κ×V) :=
 if(a.any λb=>decide (b.1=k))=VT then a.map (λb=>if b.1=k then(b.1,v) else b) else a++[(k,v)]
def nW{p:κ×V}{r:List<|κ×V}{k:κ}(e:p.1=k):rQ (p::r) k=W1 p.2:=by simp[rQ,Xv,e]
def lB{p:κ×V}{r:List<|κ×V}{k:κ}(e:¬p.1=k):rQ (p::r) k=rQ r k:=by simp[rQ,Xv,e]
theorem zS(k:κ):∀a:List<|κ×V,(a.any λb=>decide (b.1=k))=(rQ a k).isSome
 |[]=>rfl
 |p::r=>by
  rw[WU]
  by_cases e:p.1=k
  .simp only[nW e,dg e,Bool.true_or,Option.isSome_some]
  .rw[lB e,dy e,YO];exact zS k r
def lP(a:List<|κ×V)(k:κ)(v:V):(lH a k v).length<=a.length+1:=by
 unfold lH;split
 .rw[Ut];omega
 .rw[Vf,UP,WC];omega
def vR.isSome_eq(r:vR o u):o.isSome=u.isSome:=by
 cases o with
 |none=>cases u with
  |none=>rfl
  |some _=>exact(show False from r).elim
 |some _=>cases u with
  |none=>exact(show False from r).elim
  |some _=>rfl
def KV.val{a:List<|κ×V}{vs:List<|κ×Ur}(r:KV a vs)(k:κ):vR (rQ a k) (valueAt vs k):=by
 unfold KV at r
 induction r with
 |nil=>exact V4
 |@cons p q ps c h t g=>
  obtain⟨f,i⟩:=h
  by_cases e:p.1=k
  .have d:q.1=k:=f.symm.trans e
   have b:valueAt (q::c) k=W1 q.2:=by simp[valueAt,Xv,d]
   rw[nW e,b];exact i
  .have d:¬q.1=k:=λz=>e (f.trans z)
   have b:valueAt (q::c) k=valueAt c k:=by simp[valueAt,Xv,d]
   rw[lB e,b];exact g
def KV.any{a:List (κ×V)}{vs:List (κ×Ur)}(r:KV a vs)(k:κ):(a.any λb=>decide (b.1=k))=vs.any λb=>decide (b.1=k):=by
 unfold KV at r
 induction r with|nil=>rfl|cons h t c=>rw[WU,WU,c,h.1]
def KV.repl{b:List<|κ×V}{vs:List<|κ×Ur}(r:KV b vs)(k:κ){y:V}{u:Ur}(d:bB y u) :
  KV (b.map λa=>if a.1=k then(a.1,y) else a) (vs.map λa=>if a.1=k then(a.1,u) else a):=by
 unfold KV at r ⊢
 induction r with
 |nil=>exact .nil
 |@cons p q ps i h t f=>
  rw[UB,UB];refine .cons ?_ f;obtain⟨c,g⟩:=h
  by_cases e:p.1=k
  .rw[dh e,dh<|c.symm.trans e];exact⟨c,d⟩
  .rw[dV e,dV<|λz=>e<|c.trans z];exact⟨c,g⟩
def KV.put{a:List<|κ×V}{vs:List<|κ×Ur}(r:KV a vs)(k:κ){y:V}{u:Ur}(b:bB y u):KV (lH a k y) (stored vs k u):=by
 unfold lH stored;rw[r.any k]
 by_cases e:(vs.any λc=>decide (c.1=k))=VT
 .rw[dh e,dh e];exact r.repl k b
 .rw[dV e,dV e];exact Paired.snoc r ⟨rfl,b⟩
def KV.length{a:List<|κ×V}{vs:List<|κ×Ur}(r:KV a vs):a.length=vs.length:=ZH r
end
def xx{k:jb}(r:bB (kV k) u):(eg P w).is k u=VT:=by
 cases k with|inl i=>obtain⟨t,e⟩:=(show ∃t,u=Wr i t from r);subst e;exact AB P w i t|inr x=>obtain⟨t,e⟩:=(show ∃t,u=Wq x t from r);subst e;exact Az P w x t
theorem xy:∀{ks:List jb}{a:List Ur},bo (ks.map kV) a->ItemsAre (eg P w) ks a
 |[],_,r=>by rw[VM]at r;cases r;exact .nil
 |k::ks,_,r=>by
  rw[UB]at r;cases r with|cons h t=>exact .cons (xx h)<|xy t
abbrev KT(H:Hp):List (List jb×V)->List (List jb×UD×Ur)->Prop:=Paired λp q=>p.1=q.1/\H q.2.1=W1 (.tup<|p.1.map kV)/\bB p.2 q.2.2
def KT.val(r:KT H c xs)(k:List jb):vR (rQ c k) ((atKey xs k).map (·.2)):=by
 induction r with
 |nil=>exact V4
 |@cons p q ps a h t g=>
  obtain⟨f,_,i⟩:=h
  by_cases e:p.1=k
  .have d:q.1=k:=f.symm.trans e
   have b:atKey (q::a) k=W1 q.2:=by simp[atKey,Xv,d]
   rw[nW e,b];exact i
  .have d:¬q.1=k:=λz=>e (f.trans z)
   have b:atKey (q::a) k=atKey a k:=by simp[atKey,Xv,d]
   rw[lB e,b];exact g
def KT.repl(r:KT H b xs)(k:List jb)(f:bB y u) :
  KT H (b.map λc=>if c.1=k then(c.1,y) else c) (xs.map<|putAt k u):=by
 induction r with
 |nil=>exact .nil
 |@cons p q ps j h t g=>
  rw[UB,UB];refine .cons ?_ g;obtain⟨a,d,i⟩:=h;unfold putAt
  by_cases e:p.1=k
  .rw[dh e,dh<|a.symm.trans e];exact⟨a,d,f⟩
  .rw[dV e,dV<|λz=>e<|a.trans z];exact⟨a,d,i⟩
def KT.put(r:KT H a xs)(k:List jb)(f:H b=W1 (.tup<|k.map kV))(c:bB y u) :
  KT H (lH a k y) (storedH xs k b u):=by
 have e:(a.any λd=>decide (d.1=k))=(atKey xs k).isSome:=by
  rw[zS,(r.val k).isSome_eq,Y2]
 unfold lH storedH;rw[e]
 by_cases q:(atKey xs k).isSome=VT
 .rw[dh q,dh q];exact r.repl k c
 .rw[dV q,dV q];exact Paired.snoc r ⟨rfl,f,c⟩
def KT.keeps(r:KT H a xs)(c:∀b ys,H b=W1 (.tup ys)->H' b=W1 (.tup ys)):KT H' a xs :=
 mq r λ_ _ z=>⟨z.1,c _ _ z.2.1,z.2.2⟩
section
variable {P:Vv}{w:VL}{H:Hp}{h:UQ}{a:UD}
def MD(ok:gk P w H h)(e:Rd H a u):cL P w H h a u:=e.ok ok
def Bv(ok:gk P w H h)(e:Rd H a<|.dK b):b.length<=sizeLine/\(a==W2)=U9/\∃vs,KV b vs/\h.DictOf (eg P w) a vs :=
 show cL P w H h a (.dK b) from MD ok e
def MV(ok:gk P w H h)(e:H a=W1 (.dK b)):b.length<=sizeLine/\(a==W2)=U9/\∃vs,KV b vs/\h.DictOf (eg P w) a vs:=Bv ok<|.inl e
def uu(ok:gk P w H h)(e:H a=W1 (.tup<|ks.map kV)):(tupleKind<|eg P w).is h ks a:=by
 obtain⟨_,b,r,o,f,d,n,c⟩:=(show cL P w H h a (.tup<|ks.map kV) from ok a _ e)
 exact⟨o,b.toArray,n,f,d,c,by simpa using xy r⟩
def Bs(ok:gk P w H h)(e:Rd H a<|.dT b):b.length<=sizeLine/\(a==W2)=U9 /\
  ∃xs,KT H b xs/\h.DictOfH (tupleKind<|eg P w) a xs:=by
 obtain⟨z,y,xs,r,o,u,v,s,n,j,i,g⟩:=(show cL P w H h a (.dT b) from MD ok e)
 refine⟨z,y,xs,r,o,u,v,s,n,j,i,λx c=>?_,g⟩;have all:∀{l:List<|List jb×V}{m:List<|List jb×UD×Ur},KT H l m->∀x∈m,(tupleKind<|eg P w).is h x.1 x.2.1:=by
  intro l m q
  induction q with
  |nil=>intro x c;exact nomatch c
  |@cons p q ps A d t f=>
   intro x c;rcases UG.mp c with e|c
   .subst e
    exact uu ok (by rw[←d.1];exact d.2.1)
   .exact f x c
 exact all r x c
def Ra(ok:gk P w H h)(e:H a=W1 (.dT b)):b.length<=sizeLine/\(a==W2)=U9 /\
  ∃xs,KT H b xs/\h.DictOfH (tupleKind<|eg P w) a xs:=Bs ok<|.inl e
end
def zJ(H:Hp)(a:UD)(y:V)(r:Option V):Prop :=
 (∃c k,Rd H a (.dK c)/\y=kV k/\r=rQ c k)∨∃c k b,Rd H a (.dT c)/\y=.ref b/\H b=W1 (.tup<|k.map kV)/\r=rQ c k
noncomputable def F4(H:Hp) (a:UD) (y v:V) (H':Hp):Prop :=
 (∃c k,H a=W1 (.dK c)/\y=kV k/\c.length<sizeLine/\H'=upd H a (.dK<|lH c k v)) ∨
 ∃c k b,H a=W1 (.dT c)/\y=.ref b/\H b=W1 (.tup<|k.map kV)/\c.length<sizeLine/\H'=upd H a (.dT<|lH c k v)
theorem F4.k{k:jb}(e:H a=W1 (.dK b))(c:b.length<sizeLine):F4 H a (kV k) v (upd H a<|.dK<|lH b k v):=.inl ⟨b,k,e,rfl,c,rfl⟩
section
variable {X:Cx}{π:List (UD×Obj)}{σ:St}{H:Hp}{s:UH}{a:UD}{y v:V}{u r:Ur}{o:Option V}{A:VD}{E:Ur->UH->Prop}
def Inv.big(I:Inv X π σ H s):W2<2#s:=by
 have h:UU<2#s:=(I.mod.glob.keeps I.bk).lt;exact Nat.lt_trans 0#1 h
def FH(x:A.units+1<Xa)(I:Inv X π σ H s)(g:zJ H a y<|W1 v)(q:bB y u)(h:∀f s',Inv X π σ H s'->bB v f->Q f s') :
  UZ 4#X A (getItem (.ref a) u) Q E s:=by
 rcases g with⟨i,k,e,m,l⟩|⟨i,k,b,e,m,G,l⟩
 .subst m
  obtain⟨z,C,t,d,n⟩:=Bv I.hok e;obtain⟨f,hw,c⟩:=lh (v:=v) (o:=valueAt t k) (by rw[l];exact d.val k);exact wpAny_getItem_of (xx q) n.mapOf hw<|h f _ (I.tok _) c
 .subst m
  cases (show u=Vg b from q);obtain⟨z,C,xs,d,n⟩:=Bs I.hok e;obtain⟨f,hw,c⟩:=lh (v:=v) (o:=(atKey xs k).map (·.2)) (by rw[l];exact d.val k);obtain⟨p,B,j⟩:=XJ.mp hw;refine wpAny_getItem_heap (tupleKind_room_in1 x) (uu I.hok G) n B ?_;rw[j];exact h f _ (I.tok _) c
def SX(n:A.units+1<Xa)(I:Inv X π σ H s)(g:zJ H a y o)(m:bB y u)(h:∀s',Inv X π σ H s'->Q (.bool o.isSome) s') :
  UZ 4#X A (VA .In u<|.ref a) Q E s:=by
 rcases g with⟨d,k,e,i,l⟩|⟨d,k,b,e,i,p,l⟩
 .subst i
  obtain⟨z,f,t,c,j⟩:=Bv I.hok e;refine wpAny_in_of (xx m) f j.mapOf ?_;rw[←(c.val k).isSome_eq,←l];exact h _<|I.tok _
 .subst i
  cases (show u=Vg b from m);obtain⟨z,f,xs,c,j⟩:=Bs I.hok e;refine wpAny_in_heap (tupleKind_room_in1 n) (uu I.hok p) f j ?_;have q:=(c.val k).isSome_eq;rw[Y2]at q;rw[←q,←l];exact h _<|I.tok _
def LM(n:A.units+1<Xa)(I:Inv X π σ H s)(g:zJ H a y o)(m:bB y u)(h:∀s',Inv X π σ H s'->Q (.bool (!o.isSome)) s') :
  UZ 4#X A (VA .NotIn u<|.ref a) Q E s:=by
 rcases g with⟨d,k,e,i,l⟩|⟨d,k,b,e,i,p,l⟩
 .subst i
  obtain⟨z,f,t,c,j⟩:=Bv I.hok e;refine wpAny_notIn_of (xx m) f j.mapOf ?_;rw[←(c.val k).isSome_eq,←l];exact h _<|I.tok _
 .subst i
  cases (show u=Vg b from m);obtain⟨z,f,xs,c,j⟩:=Bs I.hok e;refine wpAny_notIn_heap (tupleKind_room_in1 n) (uu I.hok p) f j ?_;have q:=(c.val k).isSome_eq;rw[Y2]at q;rw[←q,←l];exact h _<|I.tok _
def zm(I:Inv X π σ H s)(d:Pj<|H a)(f:Ye a s.heap h')(g:∃q,h'.get? a=W1 q)(c:cL X.prog X.w (upd H a ob) h' a ob) :
  Inv X π σ (upd H a ob) { s with heap:=h',toks:=t' } :=
 I.write (x:=a) (e:=a) d (.inl rfl) (λb q i z=>(f.2 b i).trans z) g c
def Jc(z:b.length<=sizeLine)(d:(a==W2)=U9)(c:KV b vs)(dd:h'.DictOf (eg P w) a vs) :
  cL P w H' h' a (.dK b):=⟨z,d,vs,c,dd⟩
def FG(U:A.units+1<Xa)(I:Inv X π σ H s)(g:F4 H a y v H')(J:bB y u)(L:bB v r)(h:∀s',Inv X π σ H' s'->Q () s') :
  UZ 4#X A (setItem (.ref a) u r) Q E s:=by
 rcases g with⟨f,k,e,B,l,C⟩|⟨f,k,b,e,B,O,l,C⟩
 .subst B C
  obtain⟨z,x,T,d,G⟩:=MV I.hok e;have m:T.length<=sizeLine:=by rw[←d.length];exact z
  have t:(lH f k v).length<=sizeLine:=by have:=lP f k v;omega
  refine wpAny_setItem_pairs (hsz:=m) (xx J) G λM i p=>h _ ?_;have Y:∃q,M.get? a=W1 q:=let ⟨q,_,_,j,_⟩:=i;⟨q,j⟩;exact zm I (by rw[e];exact V4) p Y<|Jc t x (d.put k L) i
 .subst B C
  cases (show u=Vg b from J);obtain⟨z,x,xs,d,G⟩:=Ra I.hok e;have m:xs.length<=sizeLine:=by rw[←ZH d];exact z
  have t:(lH f k v).length<=sizeLine:=by have:=lP f k v;omega
  refine wpAny_setItem_heap (hsz:=m) (tupleKind_room_in1 U) (uu I.hok O) G λM i p=>h _ ?_;obtain⟨q,es,ep,j,h2,h3,h4,_,h5⟩:=i;refine zm I (by rw[e];exact V4) p ⟨q,j⟩ ⟨t,x,_,(d.put k O L).keeps λc ys N=>?_,q,es,ep,j,h2,h3,h4,h5⟩;rw[aA (QP N e<|λz=>nomatch z)];exact N
end
def Pg(i:Vt):Prop:=∀a b,subscripted i U9 a b=operate [a,b] (getItem a b)
def Kc{T id:String} 
  (j:XU (.type T) "__getitem__"=pure (W1<|.builtin id))(g:Pg slice)
  (h:UZ (UY prog w) A (eval value env) (λo e=>UZ (UY prog w) A (eval slice env) (λi b=>b.TypeIs o T/\UZ (UY prog w) A (getItem o i) Q E b) E e) E s) :
  UZ (UY prog w) A (eval (.Subscript value slice pos) env) Q E s:=by
 refine Subscript_<|VH h (λo e a=>VH a (λi b c=>?_) λ_ _ x=>x) λ_ _ x=>x;obtain⟨f,c⟩:=c;unfold subscriptTail;refine UA ?_;rw[getitemInPython_of_ne f.not_modules];refine UA<|wpAny_specialOf f j ?_;have fin:UZ (UY prog w) A (subscripted slice U9 o i) (λr d=>UZ (UY prog w) A (letTemporaryGo value o r >>= λ_=>pure r) Q E d) E b:=by
  rw[g o i];exact wpAny_operating<|VH c (λr d l=>UA (wpAny_letTemporaryGo (U2 l))) λ_ _ x=>x
 first
  |exact U2<|UA fin
  |exact UA<|U2<|UA fin
  |exact UA fin
def Bw(I:Inv X i f H s)(g:zJ H a y o):s.TypeIs (.ref a) "dict":=by
 rcases g with⟨c,k,e,_,_⟩|⟨c,k,b,e,_,_,_⟩
 .obtain⟨_,_,j,_,d⟩:=Bv I.hok e
  exact d.typeIs
 .obtain⟨_,_,xs,_,d⟩:=Bs I.hok e
  exact d.typeIs
def P9(d ty:TE):TE:=λb H Q=>d b H λx e=>ty b e λy c=>∃a v,x=.ref a/\zJ c a y (W1 v)/\Q v c
def Qi(e ty d:TE):TS:=λD b H=>d b H λv i=>e b i λx g=>ty b g λy f=>∃a c,x=.ref a/\F4 f a y v c/\D.nx b c
section
variable {X:Cx}{o i e value:Vt}{pos pos' tpos:Pos}{td ty tv:TE}
def KO(q:X.A.units+1<Xa)(t:PE X o td)(hi:PE X i ty)(r:Pg i):PE X (.Subscript o i pos) (P9 td ty):=by
 intro d s c H Q I h;refine Kc PySem.F.slot_dict_getitem.lookup r<|cW (t d s c H _ I h) λu j ⟨x,E,B,m,p⟩=>cW (hi d j c E _ B p) λM L z9=>?_;obtain⟨y,C,f,l,a,v,w,g,n⟩:=z9;subst w;obtain rfl:u=Vg a:=m;exact⟨Bw f g,FH q f g l λG J z b=>⟨v,C,z,b,n⟩⟩
def Kw(w:X.A.units+1<Xa)(B:PE X o td)(hi:PE X i ty)(t:PE X value tv)(z:V0 value (W1<|.Subscript o i pos') pos.line X.env=pure U9) :
  PS X (.Assign [.Subscript o i pos'] value pos) (Qi td ty tv):=by
 intro c s b H D I h;refine wpAny_Assign_Subscript (cW (t c s b H _ I h) λr f ⟨v,O,L,m,q⟩=>cW (B c f b O _ L q) λu d ⟨x,N,J,l,p⟩=>cW (hi c d b N _ J p) λU T z9=>?_) z;obtain⟨y,Y,G,j,a,M,C,g,n⟩:=z9;subst C;obtain rfl:u=Vg a:=l;exact FG w G g j m λQ E=>⟨b,M,E,n⟩
end
def Jd(h:UQ)(a:W2<h.objs.size):cL P w H (h.push { cls:=.type "dict",data:=.dict #[] }) h.objs.size (.dK []) :=
 ⟨XD _,beq_eq_false_iff_ne.mpr<|Vw<|Vh a,[],.nil,Heap.DictOf.new h⟩
def B6:List (TE×TE)->St->Hp->(List (V×V)->Hp->Prop)->Prop
 |[],_,H,Q=>Q [] H
 |(c,b)::r,a,H,Q=>c a H λx f=>b a f λy e=>B6 r a e λps d=>Q ((x,y)::ps) d
abbrev VV:List (V×V)->List (Ur×Ur)->Prop:=Paired λp q=>bB p.1 q.1/\bB p.2 q.2
noncomputable def RU(X:Cx) (pos:Pos) (keys:List<|Option Vt) (values:List Vt) (b:List<|TE×TE):Prop :=
 ∀(c:List<|UD×Obj) (s:UH) (a:St) (H:Hp) (Q:List (V×V)->Hp->Prop),Inv X c a H s->B6 b a H Q ->
  UZ 4#X X.A (evalPairs<|pairTrees keys values X.env pos) (λe f=>∃ps d,Inv X c a d f/\VV ps e/\Q ps d) X.xe s
def Kx:RU X pos [] [] []:=λb s a H Q I h=>pairTrees_nil_walk ⟨[],H,I,.nil,h⟩
def HD{k v:Vt}(r:PE X k f)(p:PE X v e)(q:RU X pos ks vs c) :
  RU X pos (W1 k::ks) (v::vs) ((f,e)::c):=λb s a H Q I h=>
 pairTrees_cons_walk (cW (r b s a H _ I h) λu i ⟨x,C,z,l,o⟩=>cW (p b i a C _ z o) λG g ⟨y,B,w,j,n⟩ =>
  cW (q b g a B _ w n) λE J ⟨ps,A,t,d,m⟩=>⟨(x,y)::ps,A,t,.cons ⟨l,j⟩ d,m⟩)
def ua(a more:List<|jb×V):List (jb×V):=more.foldl (λb c=>lH b c.1 c.2) a
def KV.merge:∀{more:List<|jb×V}{b:List<|jb×Ur}{a:List<|jb×V}{vs:List<|jb×Ur},KV more b->KV a vs->KV (ua a more) (merged vs b):=by
 intro more b a vs r;unfold KV at r
 induction r generalizing a vs with
 |nil=>intro q;exact q
 |@cons p q ps f h t d=>
  intro c;have e:KV (lH a p.1 p.2) (stored vs q.1 q.2):=by
   have:=c.put p.1 h.2;rw[←h.1];exact this
  exact d e
theorem nr:∀(more a:List<|jb×V),(ua a more).length<=a.length+more.length
 |[],a=>by show a.length<=a.length+0;omega
 |p::r,a=>by
  have c:=nr r<|lH a p.1 p.2;have b:=lP a p.1 p.2;show(ua (lH a p.1 p.2) r).length<=_;rw[UP];omega
theorem vE:∀{d:List<|jb×V}{ws:List<|Ur×Ur},VV (d.map λf=>(kV f.1,f.2)) ws->∃e,Carries (eg P w) ws e/\KV d e
 |[],_,r=>by rw[VM]at r;cases r;exact⟨[],V4,.nil⟩
 |p::d,_,r=>by
  rw[UB]at r;cases r with
  |@cons a b j bs h t=>
   obtain⟨e,c,q⟩:=vE (P:=P) (w:=w) t;obtain⟨i,g⟩:=b;exact⟨(p.1,g)::e,⟨xx h.1,rfl,c⟩,.cons ⟨rfl,h.2⟩ q⟩
def P8(b:List<|TE×TE):TE:=λe H Q=>∀p,H p=Wp->B6 b e (upd H p (.dK [])) λps d=>d p=W1 (.dK [])/\∃a:List<|jb×V,ps=a.map (λc=>(kV c.1,c.2))/\a.length<=15/\Q (.ref p) (upd d p<|.dK<|ua [] a)
def KN(h:RU X pos keys values g)(d:keys.all (·.isSome)=VT)(G:keys.length=values.length)(N:keys≠[])
  (j:keys.length<=15):PE X (.Dict keys values pos) (P8 g):=by
 intro p s n H Q I q;have E:=I.hok.fresh<|U3 2#s;have U:=I.laid (a:=2#s) (o:=.dK []) (h':=s.heap.push { cls:=.type "dict",data:=.dict #[] }) (t':=s.toks) (λ_ _ q=>UC _ q) (U3 _)<|Jd s.heap I.big;refine wpAny_Dict_walk (knd:=eg X.prog X.w) d G N j<|cW (h p _ n _ _ U (q _ E)) λY s2 ⟨ps,H2,m,i,e,b,O,lk,x⟩=>?_;subst O;obtain⟨t,c,u⟩:=vE (P:=X.prog) (w:=X.w) i;obtain⟨z,L,r,v,T⟩:=MV m.hok e;cases v;refine⟨t,c,T,λl f B=>⟨.ref 2#s,_,?_,rfl,x⟩⟩;have A:(ua [] b).length<=sizeLine:=by
  have M:=nr b [];rw[WC]at M;rw[sizeLine_eq];omega
 have J:∃q,l.get? 2#s=W1 q:=let ⟨q,_,_,C,_⟩:=f;⟨q,C⟩;exact zm m (by rw[e];exact V4) B J<|Jc A L (u.merge .nil) f
end L2
namespace DL
open PySem PySem.Spec PyProof.Rows L2
section
variable {X:Cx}{E:XK}{e:Vt}{f:al}{pos p1:Pos}
def dOne(x:UL)(d:D):aw D:=.ok<|.dic [x] [d]
end
def jV(cells:List<|UL×UD):List (UL×Wi)->List (UL×UD)->List (UL×UD)
 |[],a=>a
 |(n,k)::r,a=>if(k==WK)=VT then jV cells r ((n,(cells.lookup n).getD 0)::a) else jV cells r a
def wC(h:∀x∈scope.names,x.2=.free->∃c,env.cells.lookup x.1=W1 c):closureFor scope env=pure (jV env.cells scope.names []):=by
 simp only[closureFor];have key:∀(names:List<|UL×Wi) (a:List<|UL×UD),(∀x∈names,x.2=.free->∃c,env.cells.lookup x.1=W1 c) ->
   (forIn names a λ(x:UL×Wi) (z:List (UL×UD))=>
      if(x.snd==WK)=VT then do
       let y ←cellOf env x.fst
       pure (Xw ((x.fst,y)::z))
      else(pure (Xw z):Sem _))=pure (jV env.cells names a):=by
  intro names
  induction names with
  |nil=>intro a _;rfl
  |cons x r g=>
   intro a f;obtain⟨n,k⟩:=x;rw[List.forIn_cons]
   by_cases d:(k==WK)=VT
   .obtain⟨c,i⟩:=f (n,k) Uu (by simpa using d)
    have b:cellOf env n=pure c:=by unfold cellOf;rw[show env.cells.lookup n=W1 c from i]
    simp only[d,et];rw[b];have:=g ((n,c)::a)<|λy e=>f y<|Up _ e;rw[show jV env.cells ((n,k)::r) a=jV env.cells r ((n,c)::a) by
     show(if(k==WK)=VT then _ else _)=_;rw[dh d,show env.cells.lookup n=W1 c from i];rfl]
    rw[←this];rfl
   .have:=g a (λy e=>f y<|Up _ e)
    rw[dV d];rw[show jV env.cells ((n,k)::r) a=jV env.cells r a by
     show(if(k==WK)=VT then _ else _)=_;rw[dV d]]
    rw[←this];rfl
 rw[key _ _ h];rfl
theorem vB{cells:List<|UL×UD}:∀{names:List<|UL×Wi}{acc:List<|UL×UD}{x:UL}{c:UD},(∀y∈names,y.2=.free->∃c,cells.lookup y.1=W1 c) ->
  (jV cells names acc).lookup x=W1 c->acc.lookup x=W1 c∨cells.lookup x=W1 c
 |[],acc,x,c,_,h=>.inl h
 |(n,k)::r,acc,x,c,f,h=>by
  unfold jV at h
  by_cases b:(k==WK)=VT
  .rw[dh b]at h
   obtain⟨d,g⟩:=f (n,k) Uu (by simpa using b);rcases vB (λy a=>f y<|Up _ a) h with h|h
   .rw[VF]at h
    cases e:x==n with
    |true=>
     rw[e]at h;rw[show cells.lookup n=W1 d from g]at h;cases h;rw[eq_of_beq e];exact .inr g
    |false=>rw[e]at h;exact .inl h
   .exact .inr h
  .rw[dV b]at h
   exact vB (λy a=>f y<|Up _ a) h
theorem qW{a:Type}:∀{l:List<|UL×a},(∃v,(x,v)∈l)->∃v,l.lookup x=W1 v
 |[],⟨v,h⟩=>by cases h
 |(n,w)::r,⟨v,h⟩=>by
  rw[VF];cases e:x==n with
  |true=>exact⟨w,rfl⟩
  |false=>
   rcases UG.mp h with h|h
   .cases h;simp at e
   .exact qW ⟨v,h⟩
theorem vD:∀{names:List<|UL×Wi}{acc:List<|UL×UD},(x,c)∈acc->(x,c)∈jV cells names acc
 |[],acc,h=>h
 |(n,k)::r,acc,h=>by
  unfold jV
  by_cases a:(k==WK)=VT
  .rw[dh a];exact vD<|Up _ h
  .rw[dV a];exact vD h
def vC:∀{names:List<|UL×Wi}{acc:List<|UL×UD},(x,WK)∈names->∃c,(jV cells names acc).lookup x=W1 c:=by
 intro names
 induction names with
 |nil=>intro acc h;cases h
 |cons y r a=>
  intro acc h;obtain⟨n,k⟩:=y;unfold jV;rcases UG.mp h with h|h
  .cases h
   rw[dh (by rfl)];exact qW ⟨_,vD Uu⟩
  .by_cases b:(k==WK)=VT
   .rw[dh b];exact a h
   .rw[dV b];exact a h
noncomputable def gh(X:Cx) (N:bv) (scope:X3) (s:UH) (H:Hp) (C:UD) (a:List UD) (pn:List<|UD×Obj):Cx :=
 { X with N:=N,sf:=s,Ha:=H,env:=compEnvC scope (jV X.env.cells scope.names []) C X.env,outer:=X.stack,stack:=X.stack,ex:=a,fn:=λ_=>U9,pn:=pn,xe:=λ_ _=>False }
def pK(n:Nat)(fr:ci)(a:L2.St):L2.St:=U1 n Wp++fr.map λ(i:Nat)=>(a[i]?).getD Wp
noncomputable def JH(X:Cx) (N:bv) (n:Nat) (fr:ci) (scope:X3):Prop :=
 N.length=n+fr.length/\((N.drop n).zip fr).all (λp=>X.N[p.2]?==W1 p.1&&X.env.scope.names.lookup p.1==W1 .cell&&scope.names.lookup p.1==W1 .free&&(relabel scope X.env).names.lookup p.1==W1 .cell)=VT
theorem JH.at{fr:ci}(h:JH X N n fr scope){k:Nat}(g:N[k]?=W1 x)(a:(pK n fr d)[k]?=W1 (W1 v)) :
  ∃i:Nat,X.N[i]?=W1 x/\d[i]?=W1 (W1 v)/\X.env.scope.names.lookup x=W1 .cell/\scope.names.lookup x=W1 .free/\(relabel scope X.env).names.lookup x=W1 .cell:=by
 unfold pK at a
 by_cases b:k<n
 .rw[U0 (by simpa using b),Vl,dh b]at a
  cases a
 .rw[U8 (by simpa using b),Wn,Uw]at a
  cases c:fr[k-n]? with
  |none=>rw[c]at a;cases a
  |some i=>
   rw[c]at a;have f:((N.drop n).zip fr)[k-n]?=W1 (x,i):=by
    rw[List.getElem?_zip_eq_some];exact⟨by rw[VY,show n+(k-n)=k by omega];exact g,c⟩
   have:=Vd.mp h.2 _<|UM f;simp only[US,beq_iff_eq]at this;refine⟨i,this.1.1.1,?_,this.1.1.2,this.1.2,this.2⟩;simp only[Xu,WA]at a;cases e:d[i]? with|none=>rw[e]at a;cases a|some u=>rw[e]at a;exact en W1 a
noncomputable def RA(X:Cx) (b:List Vt) (t:TT):Prop :=
 ∀(d:List<|UD×Obj) (s:UH) (a:L2.St) (H:Hp) (Q:Bool->Hp->Prop),Inv X d a H s->t a H Q ->
  UZ 4#X X.A (forIn b VT λc r=>if r=VT then do let ok ←isTrue c X.env (eval c X.env);pure (Xw ok) else pure<|Xw r) (TP X d a Q) X.xe s
def R3:TT:=λ_ H Q=>Q VT H
def KD:RA X [] R3:=λ_ _ _ H _ I h=>wpAny_tests_nil ⟨H,I,h⟩
def KC(h:PT X c t):RA X [c] t:=λb s a H Q I q=>wpAny_tests_one<|h b s a H Q I q
theorem vy(I:Nat->UH->Prop)
  (turn:∀n s,I n s->UZ (UY prog w) A (pyNext it) (λr l=>match r with
   |none=>R (.ok .next) l
   |some v=>UZ (UY prog w) A (letOwnedTupleGo target it v) (λ_ e=>UZ (UY prog w) A (assign target env v) (λ_ q=>
     UZ (UY prog w) A (forIn f VT λc r=>if r=VT then do let ok ←isTrue c env (eval c env);pure (Xw ok) else pure<|Xw r) (λok j=>
      if ok=VT then UZ (UY prog w) A (eval i env) (λx p=>
       UZ (UY prog w) A (call (.builtin "list.append") [acc,x]) (λ_ o=>∃m,m<n/\I m o) (λ_ _=>False) p) (λ_ _=>False) j
      else ∃m,m<n/\I m j) (λ_ _=>False) q) (λ_ _=>False) e) (λ_ _=>False) l) (λ_ _=>False) s)
  (n:Nat) (h:I n s) :
  WQ (UY prog w) A (.compLoop (.ListComp i [⟨target,iter,f,0⟩] scope pos) 0 it acc env) R s:=by
 refine codeAny_loop rfl I (λn s z=>?_) n h;show UZ _ A ((compTurn (.ListComp i [⟨target,iter,f,0⟩] scope pos) 0 it acc env).onRaise (λx=>do noteFrame x env;theTreesLotGoes x)) _ _ s;refine wpAny_noted ?_;rw[compTurn_list];refine UA<|wpAny_standAt<|UA<|VH (turn n s z) (λr l b=>?_) λ_ _ a=>a.elim;cases r with
 |none=>exact U2 b
 |some v=>
  refine UA<|VH b (λ_ e d=>?_) λ_ _ a=>a.elim;refine UA<|VH d (λ_ q y=>UA (VH y (λok j t=>?_) λ_ _ a=>a.elim)) λ_ _ a=>a.elim;cases ok with
  |false=>exact U2 ⟨rfl,t⟩
  |true=>
   exact UA<|UA<|VH t (λx p u=>UA (VH u (λ_ o g=>U2 (U2 ⟨rfl,g⟩)) λ_ _ a=>a.elim)) λ_ _ a=>a.elim
noncomputable def B5(n:Nat) (fr:ci) (g:TG) (q:TT) (r:TE) (J:It) (p:L2.St) (H1:Hp) (Q:VK):Prop:=∀D,H1 D=Wp->∃W:Nat->Nat->ad->L2.St->Hp->Prop,(∃m,W 0 m [] (pK n fr p)<|upd H1 D<|.lst []) /\
 ∀i m c e d,W i m c e d->d D=W1 (.lst c)/\((J.stop i d/\Q (.ref D) d)∨(J.go i d/\c.length<sizeLine/\∀x o,J.yld i d x o->g x e o λa s=>q a s λb l=>
  if b=VT then r a l λy j=>j D=W1 (.lst c)/\∃f,f < m/\W (i+1) f (c++[y]) a (upd j D<|.lst<|c++[y])
  else ∃f,f < m/\W (i+1) f c a l))
def FI{fr:ci}(hc:X.calm=VT)(bt:JH X N n fr scope)
  (ah:∀x∈scope.names,x.2≠.cell)(a9:∀x∈scope.names,x.2=.free->X.env.scope.names.lookup x.1=W1 .cell)(ab:scope.kind=.function)
  (bc:∀s H C t pn,PG (gh X N scope s H C t pn) tg g/\RA (gh X N scope s H C t pn) a7 tt/\PE (gh X N scope s H C t pn) bb te)
  {RR:Ur->UD->Result->UH->Prop}
  (h2:S9 X G σ tg (λJ H1=>B5 n fr g tt te J σ H1 Q) b9 s2)
  (fin:∀(Da C:UD) (s6:UH) (L:Hp) (m:UL->Option Ur),Inv X G σ L s6->s6.heap.Ns C m->qF X G L C->Q (.ref Da) L->RR (.ref Da) C (.ok .next) s6) :
  UZ 4#X X.A (newList []) (λacc sk=>UZ 4#X X.A (newFunctionEnv scope X.env.globals (jV X.env.cells scope.names []) [] X.env.qual Wp .none<|W1 X.env) (λa4 so=>
   WQ 4#X X.A (.compStart (.ListComp bb [⟨tg,iter,a7,0⟩] scope pos) 0 b9 acc { a4 with scope:=relabel scope X.env }) (RR acc a4.locals) so) X.xe sk) X.xe s2:=by
 obtain⟨it,t,tn,J,H2,e,I2,T,bp,M,q⟩:=h2;subst e;have hD:H2 2#s2=Wp:=I2.fresh;refine wpAny_newObj_type ?_;have f:Inv X G σ (upd H2 2#s2<|.lst []) { s2 with heap:=s2.heap.push { cls:=.type "list",data:=.seq ([]:List Ur).toArray } }:=I2.lnew (t':=s2.toks) (its:=[]) .nil<|XD _;obtain⟨W,⟨m0,w0⟩,turn⟩:=q 2#s2 hD;generalize ca:({ s2 with heap:=s2.heap.push { cls:=.type "list",data:=.seq ([]:List Ur).toArray } }:UH)=E at f ⊢;have a2:E.heap=s2.heap.push { cls:=.type "list",data:=.seq ([]:List Ur).toArray }:=by rw[←ca]
 have cd:2#s2<2#E:=by rw[a2,Zw];exact WX _
 have b1:∀b∈t,b<2#s2:=λb a=>by
  obtain⟨o,ho,_⟩:=T.obj _ _ bp b a;exact UT ho
 have a6:∀b o,s2.heap.get? b=W1 o->E.heap.get? b=W1 o:=λb o e=>by rw[a2];exact UC _ e
 have b4:tn 0 E.heap:=T.keep _ _ _ bp λb _ o e=>a6 b o e;generalize c3:2#s2=Da at *;generalize cc:upd H2 Da (.lst [])=I at *;have cn:∀b∈t,I b=Wp:=λb a=>by rw[←cc,aA<|Vh<|b1 b a];exact(M b a).1
 have cls:∀x c,(jV X.env.cells scope.names []).lookup x=W1 c->X.env.cells.lookup x=W1 c:=λx c e=>by
  rcases vB (λy hy hf=>f.ok.has y.1<|.inl<|a9 y hy hf) e with e|e
  .cases e
  .exact e
 refine wpAny_newFunctionEnv ah (by intro y hy;simp at hy) (λh4 b8 b5=>?_) ab;have k4:∀b o,E.heap.get? b=W1 o->h4.get? b=W1 o:=λb o e=>(b5.2 b<|Vh<|UT e).trans<|UC _ e;generalize hC:2#E=C at *;have ck:I C=Wp:=f.hok.fresh (by rw[hC];exact U3 _);have bq:∀b o,E.heap.get? b=W1 o->b≠C:=λb o e=>by rw[←hC];exact Vh<|UT e
 have cp:∀x c,X.env.cells.lookup x=W1 c->c≠C:=λx c e=>by
  obtain⟨v,o,ho,_⟩:=f.cell x c e;exact bq c o ho
 have b2:∀b∈t,b≠C:=λb a=>by
  have:=b1 b a;exact Vh<|Nat.lt_trans this cd
 show WQ 4#X X.A (.compStart (.ListComp bb [⟨tg,iter,a7,0⟩] scope pos) 0 (.ref it) (.ref Da)<|compEnvC scope (jV X.env.cells scope.names []) C X.env) _ _;generalize a8:({ E with heap:=h4,toks:=E.toks+([]:List<|UL×Ur).length }:UH)=s4;have B:s4.heap=h4:=by rw[←a8]
 have ok:(gh X N scope E I C t<|X.pn++G).Ok:=by
  refine⟨f.ok.mod,ab,f.ok.glob,f.ok.blt,Y5 hC,λx y c e1 e2=>f.ok.inj x y c (cls x c e1) (cls y c e2),λx e=>?_,λx c e=>?_,λ_=>f.ok.hd hc,f.ok.frames,.inl rfl,λb a=>⟨b2 b a,λx c e=>(M b a).2.2.2.2.1 x c (cls x c e)⟩,f.bs,UI f.ok.bsz f.sz,λb o e a=>?_,λb a z=>?_,f.stack,f.stkFree,f.tab⟩
  .have mm:∀k:Wi,(relabel scope X.env).names.lookup x=W1 k->(k=.cell∨k=.free)->(x,WK)∈scope.names:=λk hk cb=>by
    have hm:=VC hk;obtain⟨⟨n',k'⟩,a0,as⟩:=UK.mp hm;dsimp only at as;split at as
    .rename_i a3
     cases as;simp only[US,beq_iff_eq]at a3;rwa[a3.1.1]at a0
    .cases as
     rcases cb with rfl|rfl
     .exact ee rfl (ah _ a0)
     .exact a0
   rcases e with e|e
   .exact vC<|mm _ e<|.inl rfl
   .exact vC<|mm _ e<|.inr rfl
  .cases e
  .rcases(M b a).2.2.2.1 with z|z
   .exact f.ok.noex b o e z
   .exact ee (Uy (UT e)<|UI f.ok.bsz z)<|WJ _
  .rcases UG.mp (f.stkSub b z) with z|z
   .exact(M b a).2.1 z
   .exact(M b a).2.2.1 z
 have I4:Inv (gh X N scope E I C t<|X.pn++G) [] (pK n fr σ) I s4:=by
  refine⟨ok,by rw[←a8];rfl,by rw[←a8];exact f.bare,by rw[B];exact Un.kept k4,⟨_,by rw[B];exact b8,λi x v h1 h2 h3=>?_⟩,λx c e=>?_,ck,λx c e=>f.freeC x c (cls x c e),λp hp=>?_,by rw[B];exact f.hok.kept k4,?_⟩
  .obtain⟨j,j1,j2,j3,j4,j5⟩:=bt.at h1 h2
   obtain⟨m,hn,hl⟩:=f.loc;obtain⟨u,ru,l⟩:=hl j x v j1 j2<|.inr<|.inl j3;refine⟨u,ru,.inr ⟨.inl j5,?_⟩⟩;rcases l with⟨z,_⟩|⟨_,c,z1,z2⟩
   .rw[show X.env.kindOf x=X.env.scope.names.lookup x from rfl,j3]at z;cases z
   .obtain⟨c',bx⟩:=vC (cells:=X.env.cells) (names:=scope.names) (acc:=[]) (VC j4)
    have:=cls x c' bx;rw[z1]at this;cases this;obtain⟨oc,q1,q2⟩:=z2;exact⟨c,bx,oc,by rw[B];exact k4 _ _ q1,q2⟩
  .obtain⟨v,oc,q1,q2⟩:=f.cell x c (cls x c e)
   exact⟨v,oc,by rw[B];exact k4 _ _ q1,q2⟩
  .rw[VN]at hp
   obtain⟨p1,p2,p3,p4,p5⟩:=f.pin p hp;refine⟨by rw[B];exact k4 _ _ p1,p2,bq _ _ p1,λz=>?_,p5⟩;rcases UG.mp (f.stkSub _ z) with z|z
   .exact p3 z
   .exact p4 z
  .show(pK n fr σ).length=N.length
   unfold pK;rw[Vf,Wn,Ut,bt.1]
 have bm:tn 0 s4.heap:=by rw[B];exact T.keep _ _ _ b4 λb _ o e=>k4 b o e
 have stat:∀{O:Hp},(∀b∈t,O b=Wp)->∀b∈t,qF (gh X N scope E I C t<|X.pn++G) [] O b:=λhn b a=>by
  refine⟨hn b a,b2 b a,λz=>?_,.inl a,λx c e=>(M b a).2.2.2.2.1 x c (cls x c e),λp hp=>?_⟩
  .rcases UG.mp (f.stkSub b z) with z|z
   .exact(M b a).2.1 z
   .exact(M b a).2.2.1 z
  .rw[VN]at hp
   exact(M b a).2.2.2.2.2 p hp
 have loop:WQ 4#X X.A (.compLoop (.ListComp bb [⟨tg,iter,a7,0⟩] scope pos) 0 (.ref it) (.ref Da)<|compEnvC scope (jV X.env.cells scope.names []) C X.env) (RR (.ref Da) C) s4:=by
  refine vy (λn s'=>∃i ys Y O,Inv (gh X N scope E I C t<|X.pn++G) [] Y O s'/\tn i s'.heap/\(∀b∈t,O b=Wp)/\W i n ys Y O) ?_ m0 ⟨0,[],_,I,I4,bm,cn,w0⟩;rintro k s5 ⟨i,ys,an,L,I5,bi,b0,w5⟩;obtain⟨c2,be⟩:=turn i k ys an L w5;rcases be with⟨stop,b3⟩|⟨go,hz,step⟩
  .refine cW (T.done (gh X N scope E I C t (X.pn++G)) rfl rfl rfl hc i [] s5 an L (λ_ _=>False) I5 (stat b0) bi stop) λr s6 ⟨hr,I6⟩=>?_
   subst hr;obtain⟨mm,b7,_⟩:=I6.loc;have ba:L C=Wp:=I6.free;have hok:gk X.prog X.w L s6.heap:=I6.hok;have un:Un (jx X.stack) t I L E.heap s6.heap:=I6.base;have IX:Inv X G σ L s6:=f.call' (s':=s6) (ch:=t) I6.os un hok I6.bare<|λb a=>⟨(M b a).2.2.2.1,(M b a).2.1,(M b a).2.2.2.2.1,(M b a).2.2.2.2.2⟩;have fC:qF X G L C:=f.fpOk (b:=C) (H':=L) (by rw[hC];exact U3 _) ba;exact fin Da C s6 L mm IX b7 fC b3
  .refine cW (T.item (gh X N scope E I C t (X.pn++G)) rfl rfl rfl hc i [] s5 an L (λ_ _=>False) I5 (stat b0) bi go) λr s6 ⟨u,hr,h6⟩=>?_
   subst hr;refine cW h6 λ_ s7 ⟨x,H7,I7,r7,y7,a5,cl⟩=>?_;have cs:=I7.pinned (stat cl)<|T.obj _ _ a5;refine cW ((bc E I C t (X.pn++G)).1 _ s7 an H7 x u _ cs r7 (step x H7 y7)) λ_ s8 ⟨U,H8,I8,q8⟩=>?_;refine cW ((bc E I C t (X.pn++G)).2.1 _ s8 U H8 _ I8 q8) λb b6 ⟨cv,a1,ap⟩=>?_;have back:∀{Y:L2.St}{O:Hp}{s':UH},L2.Inv (gh X N scope E I C t<|X.pn++G) (([]:List<|UD×Obj)++tP t s7.heap) Y O s'->tn (i+1) s'.heap/\∀b∈t,O b=Wp:=λ{Y O s'} I'=>by
    refine⟨T.keep _ _ _ a5 λb a o e=>(I'.pin (b,o) (Va _ (Va _ (kN a e)))).1,λb a=>?_⟩;obtain⟨o,e,d⟩:=T.obj _ _ a5 b a;exact(I'.pin (b,o)<|Va _<|Va _<|kN a e).2.1
   cases b with
   |false=>
    rw[dV Vn]at ap ⊢;obtain⟨m',hm,w9⟩:=ap;exact⟨m',hm,i+1,ys,U,_,a1.unpinned,(back a1).1,(back a1).2,w9⟩
   |true=>
    rw[dh rfl]at ap ⊢;refine cW ((bc E I C t (X.pn++G)).2.2 _ b6 U cv _ a1 ap) λy s9 ⟨yv,H9,I9,r9,ce,m',hm,w9⟩=>?_;refine cW (xp (X:=gh X N scope E I C t (X.pn++G)) _ s9 U H9 (.ref Da) [yv] (.ref Da) [y] (λv O=>O=upd H9 Da (.lst (ys++[yv]))) I9 rfl (.cons r9 .nil) ⟨Da,ys,yv,rfl,rfl,ce,hz,rfl⟩) λ_ c0 ⟨cx,c7,bd,_,co⟩=>?_;subst co;exact⟨m',hm,i+1,ys++[yv],U,_,bd.unpinned,(back bd).1,(back bd).2,w9⟩
 exact codeAny_compStart_list loop<|T.self _ 0 _ _ _ bm loop
structure RF (K:Uv) (ds:ac) (J:It) (Ha:Hp):Prop where
 go:∀(i:Nat) (H' Ha':Hp),aE Ha Ha'->aE Ha' H'->i<ds.length->J.go i H'
 yld:∀(i:Nat) (H' Ha':Hp) (x:V) (H2:Hp) (d:D),aE Ha Ha'->aE Ha' H'->ds[i]?=W1 d->J.yld i H' x H2->∃H₀2,bC H' Ha' H2 H₀2/\Rep K H₀2 d x
 stop:∀(i:Nat) (H' Ha':Hp),aE Ha Ha'->aE Ha' H'->ds.length<=i->J.stop i H'
noncomputable def TZ(K:Uv) (E:XK) (d:Ev->aw (ac)):TI:=λf H R=>∃c e,aE c H/\fW K c f e/\match d e with
 |.ok g=>∀J b a,bC H c b a->RF K g J a->R J b
 |.exn x=>∀C ox b a,bC H c b a->zI K a x C ox->E C ox b
 |.stuck=>False
structure DI (X:Cx) (E:XK) (tg iter:Vt) (src:Ev->aw (ac)):Prop where
 o:PI X tg iter (TZ X.K E src)
def oh(h:PI X tg iter t)(w:∀a H R,t' a H R->t a H R):PI X tg iter t':=λb s a H R I q=>h b s a H R I<|w a H R q
def jy(f:al):Ev->aw (ac):=λa=>(f a).bind λd=>match d with
 |.lst b=>.ok b
 |_=>.stuck
def Ke(f:al):Ev->aw (ac):=λa=>(f a).bind λd=>match d with
 |.str z=>.ok<|lE z
 |_=>.stuck
def z9(f:al):Ev->aw (ac):=λa=>(f a).bind λd=>match d with
 |.int j=>if -4611686018427387904<=j/\j<4611686018427387904 then .ok (intsFrom 0 j.toNat) else .stuck
 |_=>.stuck
section
variable {X:Cx}{E:XK}{tg e a b:Vt}{f g:al}
def fH(h:DE X E e f):DI X E tg e (jy f):=by
 refine⟨oh (DH h.o) λO H R z9=>?_⟩;obtain⟨M,y,I,J,q⟩:=z9;refine⟨M,y,I,J,?_⟩;unfold jy at q;cases A:f y with
 |stuck|exn x=>rwa[A]at q
 |ok d=>
  rw[A]at q;intro v N w z C;cases d with
  |lst Q=>
   obtain⟨p,n,rfl,r,c⟩:=aF.mp C;refine⟨p,rfl,⟨n,aE.sqL z.sub r⟩,q _ N w z ⟨λi B j m l t=>?_,λi B j x T d m l L s=>?_,λi B j m l t=>?_⟩⟩
   .exact⟨n,n[i]'(by rw[←c.length];exact t),aE.sqL (m.trans l) r,by simp⟩
   .obtain⟨rfl,s⟩:=s
    obtain⟨u,G,k2⟩:=c.get L;have:=s n<|aE.sqL (m.trans l) r;rw[G]at this;cases this;exact⟨j,bC.refl l,k2.mono m⟩
   .exact⟨n,aE.sqL (m.trans l) r,by rw[←c.length];exact t⟩
  |_=>exact q.elim
def O0(h:DE X E e f):DI X E tg e (Ke f):=by
 refine⟨oh (NU h.o) λM H R z9=>?_⟩;obtain⟨J,r,A,B,q⟩:=z9;refine⟨J,r,A,B,?_⟩;unfold Ke at q;cases t:f r with
 |stuck|exn x=>rwa[t]at q
 |ok d=>
  rw[t]at q;intro v L p I w;cases d with
  |str z=>
   refine⟨z,Rep.str_iff.mp w,q _ L p I ⟨λi u j s n l=>?_,λi u j x N d s n m y=>?_,λi u j s n l=>?_⟩⟩
   .rwa[nA]at l
   .obtain⟨rfl,c,C,rfl⟩:=y
    have:d=.str ⟨#[c]⟩:=by
     unfold lE at m;rw[Uw]at m;have G:z.cps.toList[i]?=W1 c:=by simpa using C
     rw[G]at m;cases m;rfl
    subst this;exact⟨j,bC.refl n,Rep.str_iff.mpr rfl⟩
   .rwa[nA]at l
  |_=>exact q.elim
def Fq{K:Uv}{lo:Int}:RF K (intsFrom lo n) (Pl lo n) H:=by
 have m:(intsFrom lo n).length=n:=by unfold intsFrom;simp
 refine⟨λi o c _ _ l=>?_,λi o c x v d t p j q=>?_,λi o c _ _ l=>?_⟩
 .rwa[m]at l
 .obtain⟨rfl,rfl⟩:=q
  have:d=.int (lo+i):=by
   unfold intsFrom at j;rw[Uw]at j;cases e:(VO n)[i]? with
   |none=>rw[e]at j;cases j
   |some k=>
    rw[e]at j;have r:k=i:=by
     obtain⟨u,s⟩:=Uz.mp e;simpa using s.symm
    subst r;cases j;rfl
  subst this;exact⟨c,bC.refl p,ay.mpr rfl⟩
 .rwa[m]at l
def FE(A:Gl X "range")(z:X.mg "range"=Wp)(h:DE X E a f)(s:MJ a=VT:=by exact rfl):DI X E tg (.Call (.Name "range" p) [a] [] pos) (z9 f):=by
 refine⟨oh (xg A z (gu h.o kL (gq s)) (gq s)) λL H R z9=>?_⟩;obtain⟨m,r,w,y,q⟩:=z9;refine⟨m,r,w,y,?_⟩;unfold z9 at q;cases t:f r with
 |stuck|exn x=>rwa[t]at q
 |ok d=>
  rw[t]at q;intro v I n B u;cases d with
  |int j=>
   replace q:match (if -4611686018427387904<=j/\j<4611686018427387904 then aw.ok (intsFrom 0 j.toNat) else .stuck) with
    |.ok G=>∀J i c,bC H m i c->RF X.K G J c->R J i
    |.exn x=>∀C ox i c,bC H m i c->zI X.K c x C ox->E C ox i
    |.stuck=>False:=q
   by_cases l:-4611686018427387904<=j/\j<4611686018427387904
   .rw[dh l]at q
    rw[ay.mp u];exact⟨j,rfl,l.1,l.2,q _ I n B Fq⟩
   .rw[dV l]at q;exact q.elim
  |_=>exact q.elim
end
def gJ(a:Ev->aw (ac))(tg:Ev->D->aw Ev)(s:am):am:=λb=>(a b).bind λc=>cD tg s c b
section
variable {X:Cx}{E:XK}{He η:Hp}{st:WE}{s:am}{pos:Pos}
def BP{K:Uv}(z:aE y Ha)(h:f9 K He η Ha B H ρ)(q:bZ K E He η Ha (cD tg s (ds.drop i) ρ) f)(n:ds[i]?=W1 d)(C:Rep K Ha d v)
  (G:∀ρ,tg ρ d=.stuck∨∃ρ',tg ρ d=.ok ρ') :
  tG K He η tg v B H λj L=>tS K E He η s { f with nx:=jP K E He η y tg s ds f<|i+1,ct:=jP K E He η y tg s ds f<|i+1,bk:=f.nx } j L:=by
 have u:i<ds.length:=(Uz.mp n).1;have m:ds.drop i=d::ds.drop (i+1):=by
  rw[V2 u];rw[Uq u]at n;cases n;rfl
 rw[m]at q;refine⟨Ha,ρ,d,h,C,?_⟩;unfold cD at q;rcases G ρ with p|⟨b,p⟩
 .rw[p]at q;exact q.elim
 .rw[p]at q ⊢
  intro A M t l I;refine⟨t,b,I,?_⟩;replace q:=bZ.grow (r:=(s b).bind λx=>match x with
   |.nx a=>cD tg s (ds.drop<|i+1) a
   |.ct a=>cD tg s (ds.drop<|i+1) a
   |.bk a=>.ok<|.nx a
   |.rt d=>.ok<|.rt d) q l
  cases w:s b with
  |stuck|exn x=>rwa[w]at q
  |ok r=>
   rw[w]at q;cases r with|nx a=>exact λg J c e o=>⟨c,a,(z.trans l).trans e,o,bZ.grow (r:=cD tg s (ds.drop<|i+1) a) q e⟩|ct a=>exact λg J c e o=>⟨c,a,(z.trans l).trans e,o,bZ.grow (r:=cD tg s (ds.drop<|i+1) a) q e⟩|bk a|rt d=>exact q
def jJ(hp:PassesOwn 4#X X.A X.env X.xe)(hc:X.calm=VT)(hi:DI X E t iter u)(hg:DG X E He η t tg)(U:BM tg)(hb:zM X E He η body s)
  (Y:∀x,foldedSetIterable iter X.env x=pure x:=by intro _;rfl):DS X E He η (.For t iter body [] pos) (gJ u tg s):=by
 refine⟨cH (Cm hp hc hi.o hg.o hb.o Y) λM σ H z9=>?_⟩;obtain⟨Ha,d,h,q⟩:=z9;refine⟨Ha,d,h.g.sub,h.rd,?_⟩;unfold gJ at q;cases I:u d with
 |stuck=>rwa[I]at q|exn x=>rw[I]at q;exact λC ox j a g r=>q C ox j a (h.g.trans g) r
 |ok b=>
  rw[I]at q;intro J H1 c g B;have Q:bZ X.K E He η c (cD tg s b d) M:=bZ.grow (r:=cD tg s b d) q g.z;refine⟨λi m n j=>m+i=b.length/\jP X.K E He η c tg s b M i n j,⟨b.length,rfl,c,d,aE.refl _,h.grow g,Q⟩,?_⟩;rintro i m n j ⟨hm,a,p,z,v,N⟩
  by_cases f:i<b.length
  .refine .inr ⟨B.go i j a z v.g.sub f,λl y=>jP X.K E He η c tg s b M (i+1) l y,λl y hl=>⟨m-1,by omega,by omega,hl⟩,λx y T=>?_⟩
   obtain⟨L,G,O⟩:=B.yld i j a x y b[i] z v.g.sub (Uq f) T;exact BP (z.trans G.z) (v.grow G) (bZ.grow (r:=cD tg s (b.drop i) p) N G.z) (Uq f) O λd=>U d _
  .have e:i=b.length:=by omega
   refine .inl ⟨B.stop i j a z v.g.sub 0#2,?_⟩;subst e;exact jP.done ⟨a,p,z,v,N⟩
end
def pW(f:al):Prop:=∀a d,f a=.ok d->∃b,d=.lst b
def zY{K:Uv}(B:pW f)(h:tD K E f u H Q):tF K E f u H Q:=by
 obtain⟨t,c,n,A,q⟩:=h;refine⟨t,c,n,A,?_⟩;cases i:f c with
 |stuck|exn x=>rwa[i]at q
 |ok d=>
  obtain⟨I,rfl⟩:=B c d i;rw[i]at q;intro p l G j g r C y v;have w:t p=Wp:=n.free r;refine q (.ref p) G (upd j p<|.lst l) ⟨g.s,λb o e=>?_,λb o e=>?_,λb m k2=>?_⟩<|aF.mpr ⟨p,l,rfl,gH.of aG,v.mono λb o e=>?_⟩
  .rw[aA (by intro z;subst z;rw[w]at e;cases e)];exact g.z _ _ e
  .by_cases a:b=p
   .subst a;rw[aG]at e;cases e;exact y
   .rw[aA a]at e;exact g.sub _ _ e
  .by_cases a:b=p
   .subst a;exact r
   .rw[aA a]at m;exact g.nw b m k2
  .rw[aA (by intro z;subst z;rw[C]at e;cases e)];exact e
def Jg(a:pW f)(h:DF X E e f):DE X E e f:=⟨bF h.o λb H Q q=>zY a q⟩
def dQ(n:Nat)(fr:ci)(ρ:Ev):Ev:=U1 n .no++fr.map λ(i:Nat)=>match ρ[i]? with
 |some (.sh d)=>.sh d
 |_=>.no
noncomputable def cy(b:Ev) (tg:Ev->D->aw Ev) (c e:al):ac->aw (ac)
 |[]=>.ok []
 |d::r=>(tg b d).bind λa=>(c a).bind λt=>match t with
  |.bl VT=>(e a).bind λx=>(cy b tg c e r).bind λxs=>.ok (x::xs)
  |.bl U9=>cy b tg c e r
  |_=>.stuck
def cG(n:Nat)(fr:ci)(a:Ev->aw (ac))(tg:Ev->D->aw Ev)(d e:al):al:=λb=>(a b).bind λc=>
 if c.length<=line then match cy (dQ n fr b) tg d e c with
  |.ok f=>.ok<|.lst f
  |_=>.stuck
 else .stuck
def ja{fr:ci}:pW (cG n fr a tg f g):=λb d h=>by
 unfold cG at h;cases c:a b with
 |stuck|exn x=>rw[c]at h;cases h
 |ok e=>
  rw[c]at h;replace h:(if e.length<=line then match cy (dQ n fr b) tg f g e with
   |.ok i=>aw.ok<|D.lst i
   |_=>.stuck else .stuck)=.ok d:=h
  split at h
  .split at h
   .cases h;exact⟨_,rfl⟩
   .cases h
  .cases h
def k7(h:cy b tg c a (d::r)=.ok es) :
  ∃ρ1 t,tg b d=.ok ρ1/\c ρ1=.ok (.bl t)/\((t=VT/\∃x xs,a ρ1=.ok x/\cy b tg c a r=.ok xs/\es=x::xs)∨(t=U9/\cy b tg c a r=.ok es)):=by
 unfold cy at h;cases i:tg b d with
 |stuck|exn z=>rw[i]at h;cases h
 |ok ρ1=>
  rw[i]at h;replace h:((c ρ1).bind λt=>match t with
   |.bl VT=>(a ρ1).bind λx=>(cy b tg c a r).bind λxs=>aw.ok (x::xs)
   |.bl U9=>cy b tg c a r
   |_=>.stuck)=.ok es:=h
  cases e:c ρ1 with
  |stuck|exn z=>rw[e]at h;cases h
  |ok t=>
   rw[e]at h;cases t with
   |bl t=>
    cases t with
    |true=>
     replace h:((a ρ1).bind λx=>(cy b tg c a r).bind λxs=>aw.ok (x::xs))=.ok es:=h;cases f:a ρ1 with
     |stuck|exn z=>rw[f]at h;cases h
     |ok x=>
      rw[f]at h;replace h:((cy b tg c a r).bind λxs=>aw.ok (x::xs))=.ok es:=h;cases g:cy b tg c a r with|stuck|exn z=>rw[g]at h;cases h|ok xs=>rw[g]at h;cases h;exact⟨ρ1,VT,rfl,e,.inl ⟨rfl,x,xs,f,rfl,rfl⟩⟩
    |false=>exact⟨ρ1,U9,rfl,e,.inr ⟨rfl,h⟩⟩
   |_=>cases h
def kr(g:tg b d=.ok ρ1)(f:a ρ1=.ok (.bl VT))(e:c ρ1=.ok x):cy b tg a c (d::r)=(cy b tg a c r).bind λxs=>.ok (x::xs):=by
 rw[cy,g];simp only[aw.bind,f,e]
def vz(e:tg b d=.ok ρ1)(c:a ρ1=.ok (.bl U9)):cy b tg a f (d::r)=cy b tg a f r:=by
 rw[cy,e];simp only[aw.bind,c]
theorem qz:∀{r q es:ac},cy b tg i m (r++q)=.ok es->∃c a,cy b tg i m r=.ok c/\cy b tg i m q=.ok a/\es=c++a
 |[],q,es,h=>⟨[],es,rfl,h,rfl⟩
 |d::r,q,es,h=>by
  obtain⟨n,t,l,j,g⟩:=k7 h;rcases g with⟨rfl,x,xs,g,f,rfl⟩|⟨rfl,f⟩
  .obtain⟨c,a,e,k2,rfl⟩:=qz f
   refine⟨x::c,a,?_,k2,rfl⟩;rw[kr l j g,e];rfl
  .obtain⟨c,a,e,k2,rfl⟩:=qz f
   refine⟨c,a,?_,k2,rfl⟩;rw[vz l j];exact e
theorem k6{b:Ev}{tg:Ev->D->aw Ev}{a e:al}:∀{r q g f:ac},cy b tg a e r=.ok g->cy b tg a e q=.ok f->cy b tg a e (r++q)=.ok (g++f)
 |[],q,g,f,h,c=>by cases h;exact c
 |d::r,q,g,f,h,c=>by
  obtain⟨n,t,m,l,j⟩:=k7 h;show cy b tg a e (d::(r++q))=_;rcases j with⟨rfl,x,xs,j,i,rfl⟩|⟨rfl,i⟩
  .rw[kr m l j,k6 i c];rfl
  .rw[vz m l];exact k6 i c
theorem vA:∀{r es:ac},cy b tg f j r=.ok es->es.length<=r.length
 |[],es,h=>by cases h;exact U3 _
 |d::r,es,h=>by
  obtain⟨e,t,i,g,c⟩:=k7 h;rcases c with⟨rfl,x,xs,c,a,rfl⟩|⟨rfl,a⟩
  .exact Nat.succ_le_succ<|vA a
  .exact Nat.le_succ_of_le<|vA a
def Jz(n:Nat)(tg:Ev->D->aw Ev):Prop:=∀b d a,tg b d=.ok a->a.length=b.length/\∀(k:Nat),n<=k->a[k]?=b[k]?
def da(h:i<n):Jz n (bK i):=λb d a e=>by
 cases e;exact⟨by simp,λk c=>by rw[UN 0#2]⟩
theorem n9:∀{a:ci}{ds:ac}{ρ:Ev},(a.all λi=>decide (i<n))=VT->(eU ρ a ds).length=ρ.length/\∀(k:Nat),n<=k->(eU ρ a ds)[k]?=ρ[k]?
 |[],ds,ρ,_=>by unfold eU;exact⟨rfl,λ_ _=>rfl⟩
 |i::a,[],ρ,_=>by unfold eU;exact⟨rfl,λ_ _=>rfl⟩
 |i::a,d::ds,ρ,h=>by
  rw[W8,US,eu]at h;unfold eU;obtain⟨e,c⟩:=n9 (ds:=ds) (ρ:=ρ.set i<|.sh d) h.2;exact⟨by rw[e];simp,λk b=>by rw[c k b,UN<|by omega]⟩
def nZ(h:(a.all λi=>decide (i<n))=VT):Jz n (c5 a):=λf d c e=>by
 unfold c5 at e;cases b:iO a.length d with|none=>rw[b]at e;cases e|some g=>rw[b]at e;cases e;exact n9 h
def C3{K:Uv}{fr:ci}(h:fW K Ha f ρ):fW K Ha (pK n fr f) (dQ n fr ρ):=λi d e=>by
 unfold dQ at e;unfold pK
 by_cases b:i<n
 .rw[U0 (by simpa using b),Vl,dh b]at e
  cases e
 .rw[U8 (by simpa using b),Wn,Uw]at e ⊢
  cases c:fr[i-n]? with
  |none=>rw[c]at e;cases e
  |some j=>
   rw[c]at e;simp only[Xu,WA]at e ⊢;cases a:ρ[j]? with
   |none=>rw[a]at e;cases e
   |some s=>
    rw[a]at e;cases s with
    |sh m=>
     cases e;obtain⟨v,l,g⟩:=h j d a;exact⟨v,by rw[l];rfl,g⟩
    |_=>cases e
def L5{fr:ci}{k:Nat}(h:k<n):(dQ n fr ρ)[k]?=W1 .no:=by
 unfold dQ;rw[U0 (by simpa using h),Vl,dh h]
def Js{fr:ci}(i j:Nat)(es:ac):(dQ n fr ρ)[i]?≠W1 (.ox j es):=λe=>by
 unfold dQ at e
 by_cases a:i<n
 .rw[U0 (by simpa using a),Vl,dh a]at e;cases e
 .rw[U8 (by simpa using a),Uw]at e
  cases b:fr[i-(U1 n Sl.no).length]? with
  |none=>rw[b]at e;cases e
  |some z=>
   rw[b]at e;simp only[Xu,WA]at e;split at e<;>cases e
def FU{fr:ci}{d:L2.St}(i:Nat)(a:UD)(e:(dQ n fr ρ)[i]?=W1 (.pt a)):d[i]?=W1 (W1<|.ref a):=by
 unfold dQ at e
 by_cases b:i<n
 .rw[U0 (by simpa using b),Vl,dh b]at e;cases e
 .rw[U8 (by simpa using b),Uw]at e
  cases c:fr[i-(U1 n Sl.no).length]? with
  |none=>rw[c]at e;cases e
  |some z=>
   rw[c]at e;simp only[Xu,WA]at e;split at e<;>cases e
def BG{fr:ci}:(dQ n fr ρ).length=n+fr.length:=by unfold dQ;simp
def C0{K:Uv}{fr:ci}(a9:aE Ha H)(g1:bC H Ha H1 A)(it:RF K ds J A)(hl:ds.length<=line)
  (e2:cy (dQ n fr ρ) tg tt fe ds=.ok es)(hr:fW K A σ ρ)(hok:Jz n tg)
  (q:∀p vs H' a,bC H Ha H' a->H p=Wp->a p=Wp->H' p=W1 (.lst vs)->Reps K a es vs->Q (.ref p) H') :
  B5 n fr (ON K tg) (Pq K E tt) (tD K E fe) J σ H1 Q:=by
 intro Da L;have a6:A Da=Wp:=g1.sub.free L;refine⟨λi m T ab H'=>m=ds.length-i/\i<=ds.length/\ab.length=n+fr.length/\∃a,bC H1 A H' a/\a Da=Wp/\H' Da=W1 (.lst T)/\fW K a ab (dQ n fr ρ)/\∃l,cy (dQ n fr ρ) tg tt fe (ds.take i)=.ok l/\Reps K a l T,
  ⟨ds.length,by simp,XD _,by unfold pK;simp,A,?_,a6,aG,C3 hr,[],rfl,Reps.nil⟩,?_⟩
 .refine⟨λb o e=>by rw[aA (aP e L)];exact e,aE.refl _,λb o e=>?_,λb k1 k2=>ee k2 k1⟩
  rw[aA (by intro z;subst z;rw[a6]at e;cases e)];exact g1.sub _ _ e
 .rintro i m T ab H' ⟨rfl,be,a8,a,Y,a5,I,ba,l,c,C⟩
  refine⟨I,?_⟩
  by_cases u:i<ds.length
  .refine .inr ⟨it.go i H' a Y.z Y.sub u,?_,?_⟩
   .rw[←C.length]
    have:=vA c;rw[V1]at this;have h2:line<sizeLine:=by decide
    omega
   .intro x H2 hy
    obtain⟨f,g2,rp⟩:=it.yld i H' a x H2 ds[i] Y.z Y.sub (Uq u) hy;have G:ds=ds.take i++(ds[i]::ds.drop (i+1)):=by rw[←V2 u,List.take_append_drop]
    rw[G]at e2;obtain⟨a1,a2,k1,k2,k3⟩:=qz e2;rw[c]at k1;cases k1;obtain⟨as,t,t1,t2,t3⟩:=k7 k2;have bb:f Da=Wp:=by
     cases qq:f Da with|none=>rfl|some o=>have:=g2.nw Da (by rw[qq];simp) a5;rw[I]at this;cases this
    have a4:H2 Da=W1 (.lst T):=g2.s _ _ I;refine⟨H2,f,f,dQ n fr ρ,ds[i],⟨bC.refl g2.sub,ba.mono g2.z,λj d' e=>?_,λj k d1 d2 _ e=>?_,by rw[BG,a8],OX.none Js FU⟩,rp,?_⟩
    .unfold dQ at e
     by_cases hj:j<n
     .rw[U0 (by simpa using hj),Vl,dh hj]at e;cases e
     .rw[U8 (by simpa using hj),Uw]at e
      cases hf:fr[j-(U1 n Sl.no).length]? with
      |none=>rw[hf]at e;cases e
      |some z=>
       rw[hf]at e;simp only[Xu,WA]at e;split at e<;>cases e
    .unfold dQ at e
     by_cases hj:j<n
     .rw[U0 (by simpa using hj),Vl,dh hj]at e;cases e
     .rw[U8 (by simpa using hj),Uw]at e
      cases hf:fr[j-(U1 n Sl.no).length]? with
      |none=>rw[hf]at e;cases e
      |some z=>
       rw[hf]at e;simp only[Xu,WA]at e;split at e<;>cases e
    .rw[t1]
     intro ap H3 O z3 B;have a0:=hok _ _ _ t1;have U:ap.length=n+fr.length:=by rw[←B.ln,a0.1,BG]
     have back:∀{Hx:Hp},aE O Hx->fW K Hx ap (dQ n fr ρ):=λ{Hx} sx k d e=>by
      by_cases hk:k<n
      .rw[L5 hk]at e;cases e
      .rw[←a0.2 k 0#2]at e
       obtain⟨v,h1,h2⟩:=B.rd k d e;exact⟨v,h1,h2.mono sx⟩
     have n3:O Da=Wp:=by
      cases qq:O Da with|none=>rfl|some o=>have:=B.g.nw Da (by rw[qq];simp) bb;rw[a4]at this;cases this
     have a3:H3 Da=W1 (.lst T):=B.g.s _ _ a4;refine⟨O,as,B.g.sub,B.rd,?_⟩;rw[t2];intro H4 N M;have ah:H4 Da=W1 (.lst T):=M.s _ _ a3;have n4:N Da=Wp:=by
      cases qq:N Da with|none=>rfl|some o=>have:=M.nw Da (by rw[qq];simp) n3;rw[a3]at this;cases this
     have w:ds.take (i+1)=ds.take i++[ds[i]]:=by rw[List.take_add_one,Uq u];rfl
     have a7:=(Y.trans g2).trans<|B.g.trans M;rcases t3 with⟨rfl,y,xs,t3,t4,_⟩|⟨rfl,t4⟩
     .rw[dh rfl]
      refine⟨N,as,M.sub,B.rd.mono M.z,?_⟩;rw[t3];intro yv H5 an g5 ry;have bd:H5 Da=W1 (.lst T):=g5.s _ _ ah;have n5:an Da=Wp:=by
       cases qq:an Da with|none=>rfl|some o=>have:=g5.nw Da (by rw[qq];simp) n4;rw[ah]at this;cases this
      have r:=a7.trans g5;refine⟨bd,ds.length-(i+1),by omega,rfl,u,U,an,⟨λb o e=>?_,r.z,λb o e=>?_,r.nw⟩,n5,aG,back<|M.z.trans g5.z,l++[y],?_,?_⟩
      .rw[aA (aP e L)];exact r.s _ _ e
      .rw[aA (by intro z;subst z;rw[n5]at e;cases e)];exact r.sub _ _ e
      .rw[w]
       refine k6 c ?_;rw[kr t1 t2 t3];rfl
      .exact(C.mono<|(g2.z.trans B.g.z).trans<|M.z.trans g5.z).app<|Reps.cons ry Reps.nil
     .rw[dV Vn]
      refine⟨ds.length-(i+1),by omega,rfl,u,U,N,a7,n4,ah,back M.z,l,?_,C.mono<|(g2.z.trans B.g.z).trans M.z⟩;rw[w];rw[show l=l++[] by simp];refine k6 c ?_;rw[vz t1 t2];rfl
  .have bc:i=ds.length:=by omega
   refine .inl ⟨it.stop i H' a Y.z Y.sub 0#2,?_⟩;rw[bc,WY]at c;rw[e2]at c;cases c;exact q Da T H' a (g1.trans Y) (g1.s.free L) a5 I C
structure RV (X:Cx) (E:XK) (ifs:List Vt) (f:al):Prop where
 o:RA X ifs (Pq X.K E f)
def mYes:al:=λ_=>.ok<|.bl VT
def fZ:RV X E [] mYes:=⟨λb s a H Q I ⟨d,e,c,f,q⟩=>KD b s a H Q I<|q H d<|bC.refl c⟩
def mU(h:DT X E c f):RV X E [c] f:=⟨KC h.o⟩
structure Py (X:Cx) (E:XK) (e:Vt) (f:al):Prop where
 ev:PE X e (tF X.K E f)
 st:∀{i:Nat}{x:UL}{pos' spos:Pos},X.N.Nodup->X.N[i]?=W1 x->X.env.scope.names.lookup x=W1 .local -> V0 e (W1 (.Name x pos')) spos.line X.env=pure VT->PS X (.Assign [.Name x pos'] e spos) (Nw (tF X.K E f) (IE i))
def Uc(N:bv)(n:Nat)(fr:ci)(hc:X.calm=VT)(hi:DI X E B iter ab)(hok:Jz n tg)
  (an:∀s H C M pn,(∀He η,DG (gh X N scope s H C M pn) E He η B tg)/\RV (gh X N scope s H C M pn) E O tt/\DE (gh X N scope s H C M pn) E T fe)
  (a4:JH X N n fr scope)(ah:∀x∈scope.names,x.2≠.cell)(L:∀x∈scope.names,x.2=.free->X.env.scope.names.lookup x.1=W1 .cell)(d:scope.kind=.function)(f:∀x∈scope.names,x.2=.local -> scope.names.lookup x.1=W1 .local)
  (hs:∀x,foldedSetIterable iter X.env x=pure x:=by intro _;rfl):Py X E (.ListComp T [⟨B,iter,O,0⟩] scope pos) (cG n fr ab tg tt fe):=by
 have as:∀s H C M pn,PG (gh X N scope s H C M pn) B (ON X.K tg)/\RA (gh X N scope s H C M pn) O (Pq X.K E tt)/\PE (gh X N scope s H C M pn) T (tD X.K E fe):=λs H C M pn=>
  ⟨λc U a0 H' v u Q' I r ⟨He,η,q'⟩=>((an s H C M pn).1 He η).o c U a0 H' v u Q' I r q',(an s H C M pn).2.1.o,(an s H C M pn).2.2.o⟩
 have first:∀{c:List<|UD×Obj}{s:UH}{t:L2.St}{H:Hp}{Q:VK}{RR:Ur->UD->Result->UH->Prop},L2.Inv X c t H s->tF X.K E (cG n fr ab tg tt fe) t H Q ->
   (∀(Da C:UD) (s6:UH) (H5:Hp) (m:UL->Option Ur),L2.Inv X c t H5 s6->s6.heap.Ns C m->qF X c H5 C->Q (.ref Da) H5->RR (.ref Da) C (.ok .next) s6) ->
   UZ 4#X X.A (eval iter X.env) (λx si=>UZ 4#X X.A (pyIter x) (λit sj=>UZ 4#X X.A (newList []) (λj sk=>
    UZ 4#X X.A (newFunctionEnv scope X.env.globals (jV X.env.cells scope.names []) [] X.env.qual Wp .none<|W1 X.env) (λY so=>
     WQ 4#X X.A (.compStart (.ListComp T [⟨B,iter,O,0⟩] scope pos) 0 it j { Y with scope:=relabel scope X.env }) (RR j Y.locals) so) X.xe sk) X.xe sj) X.xe si) X.xe s:=by
  intro c s t H Q RR I ⟨Ha,ρ,G,hr,q⟩ fin;refine cW (hi.o c s t H (λJ H1=>B5 n fr (ON X.K tg) (Pq X.K E tt) (tD X.K E fe) J t H1 Q) I ⟨Ha,ρ,G,hr,?_⟩) λv s1 h1=>cW h1 λa7 s2 h2=>FI (N:=N) hc a4 ah L d as h2 fin;unfold cG at q;cases e1:ab ρ with
  |stuck|exn x=>rwa[e1]at q
  |ok ds=>
   rw[e1]at q;intro J H1 a8 g1 it;replace q:match (if ds.length<=line then match cy (dQ n fr ρ) tg tt fe ds with
     |.ok es=>aw.ok<|D.lst es
     |_=>.stuck else .stuck) with
    |.ok (.lst ds)=>∀p vs H' l,bC H Ha H' l->H p=Wp->l p=Wp->H' p=W1 (.lst vs)->Reps X.K l ds vs->Q (.ref p) H'
    |.ok _=>False
    |.exn x=>∀C ox H' l,bC H Ha H' l->zI X.K l x C ox->E C ox H'
    |.stuck=>False:=q
   by_cases hl:ds.length<=line
   .rw[dh hl]at q
    cases e2:cy (dQ n fr ρ) tg tt fe ds with
    |stuck|exn x=>rw[e2]at q;exact q.elim
    |ok es=>
     rw[e2]at q;exact C0 G g1 it hl e2 (hr.mono g1.z) hok q
   .rw[dV hl]at q;exact q.elim
 have ap:∀{c:List<|UD×Obj}{s:UH}{t:L2.St}{H:Hp},L2.Inv X c t H s->closureFor scope X.env=pure (jV X.env.cells scope.names []):=λ{c s t H} I=>wC λy hy hf=>I.ok.has y.1<|.inl<|L y hy hf;refine⟨λc s t H Q I h=>?_,λ{i x pos' a6} hN a3 hx a2 c s t H D' I h=>?_⟩
 .rw[eval_ListComp]
  refine wpAny_comprehension_free (use:=none) rfl hs (ap I) d f (first (RR:=λj C=>compPost 4#X X.A X.xe Wp (EP X c t Q) j C) I h λDa C s6 H5 m I6 ns g q=>?_);refine⟨m,ns,λh' sb=>⟨.ref Da,H5,?_,rfl,q⟩⟩;exact I6.turned (t':=s6.toks) (it:=C) (λb o hb e=>(sb.2 b hb).trans e) g.1 g.2.1 g.2.2.2.1 g.2.2.2.2.1 g.2.2.2.2.2
 .rw[exec_Assign_Name_used _ _ _ _ a2]
  refine UA<|wpAny_standAt<|UA ?_;show UZ _ X.A (do let _ ←comprehension (.ListComp T [⟨B,iter,O,0⟩] scope pos) scope X.env _ (newList []) U9 (eval iter X.env) (W1<|assign (.Name x pos') X.env)) _ _ s;refine UA<|VH (wpAny_comprehension_free (use:=some<|assign (.Name x pos') X.env) (Q:=λ_ U=>SP X c D' .next U) rfl hs (ap I) d f
   (first (RR:=λj C=>compPost 4#X X.A X.xe (W1 (assign (.Name x pos') X.env)) (λ_ U=>SP X c D' .next U) j C) I h λDa C s6 H5 m I6 ns g q=>?_)) (λ_ U hq=>U2 (U2 hq)) λ_ _ e=>e
  show UZ _ X.A (assign (.Name x pos') X.env<|.ref Da) _ _ _;refine wpAny_assign_Name<|wV (v:=.ref Da) I6 hN a3 (.inl hx) rfl (λU I' z9=>?_) (.inr hx);obtain⟨a,sb,ha⟩:=z9;have a5:C≠a:=by
   rcases ha with rfl|ha
   .exact g.2.1
   .exact λz=>g.2.2.2.2.1 x a ha z.symm
  refine⟨m,ns.sameBut sb a5,λh' a1=>⟨_,H5,?_,q⟩⟩;exact I'.turned (t':=U.toks) (it:=C) (λb o hb e=>(a1.2 b hb).trans e) g.1 g.2.1 g.2.2.2.1 g.2.2.2.2.1 g.2.2.2.2.2
def Rb(h:Py X E e f):DF X E e f:=⟨h.ev⟩
def lp{fr:ci}(h:Py X E e<|cG n fr a tg b c):DE X E e (cG n fr a tg b c):=Jg ja<|Rb h
section
variable {X:Cx}{E:XK}{He η:Hp}{e:Vt}{f:al}{s:am}{pos:Pos}{st:WE}
def LF(L:X.N.Nodup)(hi:X.N[i]?=W1 x)(B:X.env.scope.names.lookup x=W1 .local)(J:Py X E e f)(I:V0 e (W1<|.Name x pos') pos.line X.env=pure VT:=by rfl):DS X E He η (.Assign [.Name x pos'] e pos) (j8 i f):=by
 refine⟨cH (J.st L hi B I) λD σ H z9=>?_⟩;obtain⟨Y,u,h,q⟩:=z9;refine⟨Y,u,h.g.sub,h.rd,?_⟩;unfold j8 at q;cases r:f u with
 |stuck=>rwa[r]at q|exn x=>rw[r]at q;exact λC ox t b g O=>q C ox t b (h.g.trans g) O
 |ok d=>
  rw[r]at q;cases d with
  |lst ds=>
   intro p vs t b g n M G w;refine q _ t b g.z<|(h.grow g).putOwn (λj a Q U d T=>?_) (h.g.s.free n) M G w<|h.fresh_x g.s n;subst U;obtain⟨a',v,_,_,m⟩:=h.ow j d T;rw[Q]at v;cases v;cases d with
   |lst l|dic y l=>obtain⟨o,c,_⟩:=m;rw[n]at c;cases c
   |ob A l=>
    cases A with|dint y=>obtain⟨o,c,_⟩:=m;rw[n]at c;cases c| _=>exact m.elim
   |_=>exact m.elim
  |_=>exact q.elim
def unown(i:Nat)(ρ:Ev):Ev:=match ρ[i]? with
 |some (.ow d)=>ρ.set i<|.sh d
 |_=>ρ
def ET(i:Nat)(s:am):am:=λa=>s<|unown i a
def f9.unown{K:Uv}(h:f9 K He η Ha N H ρ)(i:Nat):∃M,aE Ha M/\f9 K He η M N H (DL.unown i ρ):=by
 unfold DL.unown;cases e:ρ[i]? with
 |none=>exact⟨Ha,aE.refl _,h⟩
 |some s=>
  cases s with
  |no|sh d|ox j ds|pt a=>exact⟨Ha,aE.refl _,h⟩
  |ow d=>
   obtain⟨a,O,k2,k3,A⟩:=h.ow i d e;obtain⟨o,t,B⟩:∃o,H a=W1 o/\∀w,aE Ha w->w a=W1 o->Rep K w d (.ref a):=by
    cases d with
    |lst ds=>obtain⟨x,t,I⟩:=A;exact⟨_,t,λw z e=>aF.mpr ⟨a,x,rfl,gH.of e,I.mono z⟩⟩
    |dic ks ds=>obtain⟨x,t,p,I⟩:=A;exact⟨_,t,λw z e=>by rw[Rep];exact⟨a,_,x,rfl,.inl e,rfl,p,I.mono z⟩⟩
    |ob Y ds=>
     cases Y with|dint ks=>obtain⟨x,t,p,I⟩:=A;exact⟨_,t,λw z e=>by exact bE.mpr ⟨a,x,rfl,⟨_,.inl e,rfl,p⟩,I.mono z⟩⟩| _=>exact A.elim
    |_=>exact A.elim
   have z:aE Ha (upd Ha a o):=λb o' q=>by rw[aA (by intro z;subst z;rw[k3]at q;cases q)];exact q
   have h':f9 K He η (upd Ha a o) N H (ρ.set i .no):=by
    have c:∀(j:Nat) (s:Sl),(ρ.set i .no)[j]?=W1 s->s≠.no->j≠i/\ρ[j]?=W1 s:=λj s q Q=>by
     by_cases u:i=j
     .subst u
      rw[XH]at q;rw[e]at q;cases q;exact ee rfl Q
     .rw[UN u]at q;exact⟨λz=>u z.symm,q⟩
    refine⟨⟨h.g.s,h.g.z.trans z,λb o' q=>?_,λb m n=>?_⟩,λj L q=>?_,λj L q=>?_,λj k d1 d2 hn m n=>?_,by simp[h.ln],h.ex.upd (λj s q=>?_) z (λb us _ eb=>eb) λq us _ q0 hq hd=>?_⟩
    rotate_left 5
    .by_cases Q:s=.no
     .exact .inr<|.inr<|.inl Q
     .exact .inl ⟨(c j s q Q).2,rfl⟩
    .have ah:q≠a:=by
      intro T;subst T;exact hd i _ e O
     exact⟨hq,by rw[aA ah];exact q0⟩
    .by_cases r:b=a
     .subst r;rw[aG]at q;cases q;exact t
     .rw[aA r]at q;exact h.g.sub _ _ q
    .by_cases r:b=a
     .subst r;exact k2
     .rw[aA r]at m;exact h.g.nw b m n
    .obtain⟨u,q⟩:=c j _ q (λz=>nomatch z)
     obtain⟨v,m,n⟩:=h.rd j L q;exact⟨v,m,n.mono z⟩
    .obtain⟨u,q⟩:=c j _ q (λz=>nomatch z)
     obtain⟨b,m,n,q3,y⟩:=h.ow j L q;have r:b≠a:=by
      intro T;subst T;exact h.ap j i L d u q e (by rw[m,O])
     refine⟨b,m,n,by rw[aA r];exact q3,?_⟩;cases L with
     |lst J=>obtain⟨l,G,C⟩:=y;exact⟨l,G,C.mono z⟩|dic U J=>obtain⟨l,G,p,C⟩:=y;exact⟨l,G,p,C.mono z⟩
     |ob Y J=>
      cases Y with|dint U=>obtain⟨l,G,p,C⟩:=y;exact⟨l,G,p,C.mono z⟩| _=>exact y.elim
     |_=>exact y.elim
    .obtain⟨_,m⟩:=c j _ m (λz=>nomatch z)
     obtain⟨_,n⟩:=c k _ n<|λz=>nomatch z;exact h.ap j k d1 d2 hn m n
   refine⟨_,z,?_⟩;have hp:=h'.put (i:=i) (d:=d) (v:=.ref a)<|B _ z aG;rw[List.set_set]at hp;have ab:N.set i (W1<|V.ref a)=N:=by
    apply WT;intro k
    by_cases hk:i=k
    .subst hk
     obtain⟨an,_⟩:=Uz.mp O;rw[Vk an,O]
    .rw[UN hk]
   rwa[ab]at hp
def Jb(i:Nat)(h:DS X E He η st s):DS X E He η st (ET i s):=⟨cH h.o λl g H z9=>by
 obtain⟨j,c,d,q⟩:=z9;obtain⟨b,z,a⟩:=d.unown i;exact⟨b,DL.unown i c,a,bZ.grow (r:=s<|DL.unown i c) q z⟩⟩
end
def lu(N:bv)(n:Nat)(fr:ci)(t:X.calm=VT)(hi:DI X E e iter g)(hok:Jz n tg)
  (o:∀s H C l pn,(∀v p,DG (gh X N scope s H C l pn) E v p e tg)/\RV (gh X N scope s H C l pn) E i q/\DE (gh X N scope s H C l pn) E m u)
  (j:JH X N n fr scope)(d:(scope.names.all λx=>!(x.2==.cell))=VT)(c:(scope.names.all λx=>!(x.2==.free)||(X.env.scope.names.lookup x.1==W1 .cell))=VT)(b:scope.kind=.function)
  (a:(scope.names.all λx=>!(x.2==.local)||(scope.names.lookup x.1==W1 .local))=VT)
  (r:∀x,foldedSetIterable iter X.env x=pure x:=by intro _;rfl):Py X E (.ListComp m [⟨e,iter,i,0⟩] scope pos) (cG n fr g tg q u):=by
 refine Uc N n fr t hi hok o j (λx f z=>?_) (λx f z=>?_) b (λx f z=>?_) r
 .have:=Vd.mp d x f
  rw[z]at this;simp at this
 .have:=Vd.mp c x f
  rw[z]at this;simpa using this
 .have:=Vd.mp a x f
  rw[z]at this;simpa using this
def pH(p:X.N.Nodup)(hi:X.N[i]?=W1 x)(l:X.env.scope.names.lookup x=W1 .local)(n:pW f)(o:Py X E e f)(m:V0 e (W1<|.Name x pos') pos.line X.env=pure VT:=by rfl):DS X E w u (.Assign [.Name x pos'] e pos) (aH i f):=by
 refine⟨cH (o.st p hi l m) λD t H ⟨r,b,h,q⟩=>?_⟩;refine zY n ⟨r,b,h.g.sub,h.rd,?_⟩;refine plain h q λd v s a _ g c j=>?_;exact j _ s a (aE.refl _)<|(h.grow g).put c
end DL
namespace Com
open PySem L2 DL
noncomputable def iY:am :=
 (aq (aH 2<|ak (af (ae 0)<|af (aa (aU 1#0 ko) (ae 0) gQ) ax)<|m2 SY)
 (aq (aH 3<|ae 2)
 (aq (j8 4<|ak ax bD)
 (aq (tw (ak (af (ae 1) ax)<|m1 dP) (bK 5)
 (aq (cT (eG (aa (ae 2) (aa 10#0 18#0 kn) O5)<|aa (ae 3) 0#0 CY)
 (aq (bU 4<|aa (ae 3) (aa (ae 1) (ae 5) aB) cE)
 (aq (aH 3<|aa (ae 3) (aa (ae 1) (ae 5) aB) kY)
 ao))
 (aq (aH 6<|aa (aa (aa (aa (aa (aa (ae 2) 2147483647#0 cE) (aa (aa 1009#0 (ae 5) bf) (ae 5) bf) aZ) (aa 31#0 (ae 5) bf) aZ) 7#0 aZ) 48271#0 bf) 2147483629#0 cE)
 (aq (aH 6<|aa (aa (aa (aa (aa (ae 6) (ae 6) bf) 2147483647#0 cE) (ae 5) aZ) 39373#0 bf) 2147483587#0 cE)
 (aq (bU 4<|aa (aa (ae 6) 8#0 kY) (aa (ae 1) (ae 5) aB) cE)
 ao))))
 ao))
 (aq (bh<|ae 4)
 ao)))))
def aD:ac->aw D:=bz 7 iY
def vO:am :=
 (aq (eZ (oB 1) (aa (ae 1) 0#0 iM)
 (aq (ER 0 1<|af (ae 1)<|af (aa (ae 0) (ae 1) cE) ax)
 ao))
 (aq (bh<|ak (af (ae 0) ax)<|m1 wA)
 ao))
def ub:ac->aw D:=bz 2 vO
def wD:am :=
 (aq (aH 2<|ak (af (ae 0)<|af (ae 1) ax) ub)
 (aq (bh<|ak (af (aa (ae 0) (ae 2) kY)<|af (aa (ae 1) (ae 2) kY) ax) fE)
 ao))
def nk:ac->aw D:=bz 3 wD
def C5:am :=
 (aq (bh<|eG (aU (ae 0)<|kq "int")<|cM<|aU (ae 0)<|kq "bool")
 ao)
def m_is_whole:ac->aw D:=bz 1 C5
noncomputable def fM:am :=
 (aq (aH 2<|ak (af (ae 0) ax)<|m1 wA)
 (aq (aH 3<|ak (af (ae 1) ax)<|m1 wA)
 (aq (eZ (oB 3) (aa (ae 3) 0#0 iM)
 (aq (aH 4<|aa (ae 2) (ae 3) cE)
 (aq (aH 2<|ae 3)
 (aq (aH 3<|ae 4)
 ao))))
 (aq (bh<|ae 2)
 ao))))
def m_common_divisor:ac->aw D:=bz 5 fM
noncomputable def sO:am :=
 (aq (cT (lz (cM<|ak (af (ae 0) ax) m_is_whole)<|cM<|ak (af (ae 1) ax) m_is_whole)
 (aq dI
 ao)
 ao)
 (aq (cT (aa (ae 1) 0#0 gD)
 (aq dI
 ao)
 ao)
 (aq (aH 2<|ak (af (ae 0)<|af (ae 1) ax) m_common_divisor)
 (aq (cT (aa (ae 1) 0#0 LP)
 (aq (aH 2<|aU (ae 2) ko)
 ao)
 ao)
 (aq (bh<|ak (af (aa (ae 0) (ae 2) kY)<|af (aa (ae 1) (ae 2) kY) ax) fE)
 ao)))))
def m_ratio:ac->aw D:=bz 3 sO
noncomputable def C4:am :=
 (aq (bh<|ak (af (aa (aa (aa (ae 0) 0#0 aB) (aa (ae 1) 1#0 aB) bf) (aa (aa (ae 1) 0#0 aB) (aa (ae 0) 1#0 aB) bf) aZ)<|af (aa (aa (ae 0) 1#0 aB) (aa (ae 1) 1#0 aB) bf) ax) m_ratio)
 ao)
def Ij:ac->aw D:=bz 2 C4
def xS:am :=
 (aq (bh<|aa (aa (aa (ae 0) 0#0 aB) (aa (ae 1) 1#0 aB) bf) (aa (aa (ae 1) 0#0 aB) (aa (ae 0) 1#0 aB) bf) LP)
 ao)
def m_is_less:ac->aw D:=bz 2 xS
def FR{f:c->aw b}:(aw.ok a).bind f=f a:=rfl
def lF(h:s ρ=.ok (.nx ρ')):aq s t ρ=t ρ':=by unfold aq;rw[h];rfl
def Cd(h:s ρ=.ok (.rt d)):aq s t ρ=.ok (.rt d):=by unfold aq;rw[h];rfl
def GX(h:s ρ=.ok (.nx ρ')):aq s ao ρ=.ok (.nx ρ'):=by unfold aq;rw[h];rfl
def Cb(h:f ρ=.ok d):aH i f ρ=.ok (.nx<|ρ.set i<|.sh d):=by unfold aH;rw[h];rfl
def Cg(h:f (iD ρ)=.ok d):bh f ρ=.ok (.rt d):=by unfold bh;rw[h];rfl
def OD(h:c (iD ρ)=.ok (.bl U9)):cT c s t ρ=t ρ:=by unfold cT;rw[h];rfl
def lM:iM (.int i) (.int j)=.ok (.bl (!(i==j))):=by unfold iM;rw[dh ⟨rfl,rfl⟩,du]
def qo:gD (.int i) (.int j)=.ok (.bl<|i==j):=by unfold gD;rw[dh ⟨rfl,rfl⟩,du]
def NG(h:s (ds.map Sl.sh++U1 (n-ds.length) .no)=.ok (.rt d)):bz n s ds=.ok d:=by unfold bz;rw[h];rfl
def pT(h:f ρ=.ok x)(h':a ρ=.ok xs):af f a ρ=.ok (x::xs):=by unfold af;rw[h,FR,h'];rfl
def ju(h:f ρ=.ok x)(h':g ρ=.ok y):aa f g a ρ=a x y:=by unfold aa;rw[h,FR,h'];rfl
def pM(h:a ρ=.ok xs):ak a m ρ=m xs:=by unfold ak;rw[h];rfl
def tZ(h:b≠0):cE (.int a) (.int b)=.ok (.int<|a.fmod b):=by
 show(if decide (b≠0)=VT then aw.ok (D.int<|a.fmod b) else .stuck)=_;rw[dh (dg h)]
def CW(h:iw a b=VT):kY (.int a) (.int b)=.ok (.int<|a.fdiv b):=by
 show(if iw a b=VT then aw.ok (D.int<|a.fdiv b) else .stuck)=_;rw[dh h]
def CA(h:dj a b=VT):bf (.int a) (.int b)=.ok (.int<|a*b):=by
 show(if dj a b=VT then aw.ok (D.int<|a*b) else .stuck)=_;rw[dh h]
def AW(a b:Int):Vc b (a.fmod b)=Vc a b:=by
 rw[Int.fmod_def,Int.gcd_sub_mul_left_right,Z8]
def Lx{a b:Int}(h:b≠0):(a.fmod b).natAbs<b.natAbs:=by
 rcases Int.lt_or_gt_of_ne h with c|c
 .have e:=YW (-a) (show 0 < -b by omega)
  have d:=XS (-a) (show 0 < -b by omega);rw[Int.neg_fmod_neg]at e d;omega
 .have e:=YW a c
  have d:=XS a c;omega
theorem rm:∀(n:Nat) (x y:D) (a b:Int) (r:Sl),0<=a->0<=b->b.natAbs<n->∃f,
  bY (aa (ae 3) 0#0 iM) (aq (aH 4<|aa (ae 2) (ae 3) cE)<|aq (aH 2<|ae 3)<|aq (aH 3<|ae 4) ao) n [.sh x,.sh y,.sh<|.int a,.sh<|.int b,r]=.ok (.nx [.sh x,.sh y,.sh<|.int<|Vc a b,.sh<|.int 0,f])
 |0,_,_,a,b,_,_,_,h=>ee h<|Nat.not_lt_zero _
 |n+1,x,y,a,b,r,l,g,h=>by
  unfold bY;have c:∀r,(aa (ae 3) 0#0 iM) (iD [.sh x,.sh y,.sh<|.int a,.sh<|.int b,r])=.ok (.bl (!(b==0))):=λr=>lM;rw[c]
  by_cases d:b=0
  .subst d
   refine⟨r,?_⟩;have e:((Vc a 0:Nat):Int)=a:=by simp;omega
   rw[e];rfl
  .have e:(!(b==0))=VT:=by simp[d]
   have j:0<b:=by omega
   obtain⟨f,i⟩:=rm n x y b (a.fmod b) (.sh<|.int<|a.fmod b) g (XS a j) (by have:=Lx (a:=a) d;omega);refine⟨f,?_⟩;rw[AW]at i;rw[←i,e];have st:(aq (aH 4<|aa (ae 2) (ae 3) cE)<|aq (aH 2<|ae 3)<|aq (aH 3<|ae 4) ao) [.sh x,.sh y,.sh<|.int a,.sh<|.int b,r]=.ok (.nx [.sh x,.sh y,.sh<|.int b,.sh<|.int<|a.fmod b,.sh<|.int<|a.fmod b]):=by
    have m:(aa (ae 2) (ae 3) cE) [.sh x,.sh y,.sh<|.int a,.sh<|.int b,r]=.ok (.int<|a.fmod b):=by
     exact tZ d
    rw[lF (Cb m)];rfl
   show(aw.bind _ _)=_;rw[st];rfl
def mX(a b:Int):m_common_divisor [.int a,.int b]=.ok (.int<|Vc a b):=by
 have e:∀i:Int,(if i<0 then -i else i)=(i.natAbs:Int):=λi=>by split<;>omega
 obtain⟨d,h⟩:=rm ((b.natAbs:Int).natAbs+1) (.int a) (.int b) a.natAbs b.natAbs .no (YV _) (YV _)<|WX _;have f:Vc (a.natAbs:Int) (b.natAbs:Int)=Vc a b:=by simp[Vc]
 rw[f]at h;have r:fM [.sh<|.int a,.sh<|.int b,.no,.no,.no]=.ok (.rt<|.int<|Vc a b):=by
  unfold fM;rw[lF (ρ':=[.sh<|.int a,.sh<|.int b,.sh<|.int (a.natAbs:Int),.no,.no]) (by rw[←e a];rfl)];rw[lF (ρ':=[.sh<|.int a,.sh<|.int b,.sh<|.int (a.natAbs:Int),.sh<|.int (b.natAbs:Int),.no]) (by rw[←e b];rfl)];have w:eZ (oB 3) (aa (ae 3) 0#0 iM) (aq (aH 4<|aa (ae 2) (ae 3) cE)<|aq (aH 2<|ae 3)<|aq (aH 3<|ae 4) ao) [.sh<|.int a,.sh<|.int b,.sh<|.int (a.natAbs:Int),.sh<|.int (b.natAbs:Int),.no]=.ok (.nx [.sh<|.int a,.sh<|.int b,.sh<|.int<|Vc a b,.sh<|.int 0,d]):=h;rw[lF w];exact Cd<|Cg rfl
 show(fM [.sh<|.int a,.sh<|.int b,.no,.no,.no]).bind _=_;rw[r];rfl
def Cn:(2:Nat) ^ 64<=mw:=by rw[qI];exact Vy 0#1 0#1
def QT{i:Int}(h:i.natAbs<18446744073709551616):i.natAbs<mw:=Uy h Cn
def ji(h:i.natAbs<18446744073709551616)(h':j.natAbs<18446744073709551616):dj i j=VT:=by
 unfold dj;rw[US];exact⟨dg<|QT h,dg<|QT h'⟩
def fg(h:i.natAbs<mw)(h':j.natAbs<mw):dj i j=VT:=by
 unfold dj;rw[US];exact⟨dg h,dg h'⟩
def MW(a:j≠0)(h:j.natAbs<B9):iw i j=VT:=by
 unfold iw;rw[US,Zl];exact⟨dg a,.inl<|dg h⟩
def qr(a:j≠0)(h:i.natAbs<p6):iw i j=VT:=by
 unfold iw;rw[US,Zl];exact⟨dg a,.inr<|dg h⟩
def dJ{k:Nat}(h:ds[k]?=W1 d):aB (.lst ds) (.int (k:Int))=.ok d:=by
 unfold aB;simp only[gZ h]
def dM{a b:Int}(c:0<b):0<=a.fmod b/\a.fmod b<b:=⟨XS a c,YW a c⟩
def Ft{n k:Nat}(h:k<n):(DL.intsFrom 0 n).drop k=.int (k:Int)::(DL.intsFrom 0 n).drop (k+1):=by
 have a:(DL.intsFrom 0 n).length=n:=by unfold DL.intsFrom;simp
 rw[V2 (by rw[a];exact h)]
 congr 1
 unfold DL.intsFrom;simp
def Iz:(DL.intsFrom 0 n).drop n=[]:=by
 have a:(DL.intsFrom 0 n).length=n:=by unfold DL.intsFrom;simp
 exact List.drop_eq_nil_of_le 0#2
def fX(b:tg ρ d=.ok ρ1)(a:s ρ1=.ok (.nx ρ2)):cD tg s (d::r) ρ=cD tg s r ρ2:=by
 rw[cD,b,FR,a,FR]
def Pt:D->Bool
 |.int _=>VT
 |_=>U9
def il(d:D):m_is_whole [d]=.ok (.bl<|Pt d):=by cases d<;>first|rfl|(rename_i k _;cases k<;>rfl)
def kj{a g:Int}(b:0<g):a.fdiv g=a / g:=Yk a 0#2
def sG(h:b≠0):0<(Vc a b:Int):=by
 have:=Int.gcd_pos_of_ne_zero_right a h;omega
def Ho(g:0<b)(f:a.natAbs<p6)(e:b.natAbs<p6):m_ratio [.int a,.int b]=.ok (.tup [.int<|a / Vc a b,.int<|b / Vc a b]):=by
 have d:=sG (a:=a) (b:=b) 0#2;have r:sO [.sh<|.int a,.sh<|.int b,.no]=.ok (.rt<|.tup [.int<|a / Vc a b,.int<|b / Vc a b]):=by
  unfold sO;rw[lF (ρ':=[.sh<|.int a,.sh<|.int b,.no]) (OD (t:=ao) rfl)];rw[lF (ρ':=[.sh<|.int a,.sh<|.int b,.no]) (OD (t:=ao)<|(ju (x:=.int b) (y:=.int 0) rfl rfl).trans<|qo.trans<|by rw[beq_eq_false_iff_ne.mpr 0#2])];rw[lF (ρ':=[.sh<|.int a,.sh<|.int b,.sh<|.int<|Vc a b]) (Cb<|(pM (xs:=[.int a,.int b]) rfl).trans<|mX a b)];rw[lF (ρ':=[.sh<|.int a,.sh<|.int b,.sh<|.int<|Vc a b]) (OD (t:=ao) (by
   show aw.ok (D.bl (decide (b<0)))=_;rw[dy 0#2]))]
  refine Cd<|Cg ?_;refine(pM (xs:=[.int<|a / Vc a b,.int<|b / Vc a b])<|pT ?_<|pT ?_ rfl).trans rfl
  .rw[←kj d]
   exact(ju (x:=.int a) (y:=.int<|Vc a b) rfl rfl).trans (CW<|qr 0#2 f)
  .rw[←kj d]
   exact(ju (x:=.int b) (y:=.int<|Vc a b) rfl rfl).trans (CW<|qr 0#2 e)
 show(sO [.sh<|.int a,.sh<|.int b,.no]).bind _=_;rw[r];rfl
def Lu(p q:Int):D:=.tup [.int p,.int q]
end Com
open Com
namespace Com
open PySem L2 DL
abbrev cu:=Int×Int
def fr(x:cu):D:=Lu x.1 x.2
def jD:Nat:=1000000000000000000000000000000000000000000000000000000000000
def Ph:jD<=B9:=by rw[JI];exact UI (show jD<=2 ^ 200 by decide) (Vy 0#1<|by decide)
def sQ:jD<=p6:=by rw[jv];exact UI (show jD<=2 ^ 200 by decide) (Vy 0#1<|by decide)
def dG:jD<=mw:=by rw[qI];exact UI (show jD<=2 ^ 200 by decide) (Vy 0#1<|by decide)
def pY:p6<=mw:=by rw[jv,qI];exact Vy 0#1 0#1
structure Low (x:cu):Prop where
 q1:1<=x.2
 g1:Vc x.1 x.2=1
structure aV (x:cu):Prop extends Low x where
 pN:x.1.natAbs<jD
 qN:x.2.natAbs<jD
def dU(a b:Int):cu:=(a / Vc a b,b / Vc a b)
def eW(d:0<b):Low (dU a b):=by
 have c:=sG (a:=a) (b:=b) 0#2;refine⟨?_,Int.gcd_ediv_gcd_ediv_gcd<|by omega⟩;have:=Int.ediv_gcd_ne_zero_if_ne_zero_right a (show b≠0 by omega);have e:0<=b / (Vc a b:Int):=V9 0#2 0#2;show 1<=b / (Vc a b:Int);omega
def iS:(dU a b).1*b=a*(dU a b).2:=by
 unfold dU;obtain⟨x,e⟩:=XY a b;obtain⟨y,d⟩:=XO a b
 by_cases c:(Vc a b:Int)=0
 .simp only[c,Int.ediv_zero,Xk,Int.mul_zero]
 .generalize i:(Vc a b:Int)=G at *
  have g:a / G=x:=by rw[e];exact Vx x c
  have f:b / G=y:=by rw[d];exact Vx y c
  show a / G*b=a*(b / G);rw[g,f]
  calc x*b=x*(G*y):=by rw[←d]
   _=G*x*y:=by grind
   _=a*y:=by rw[←e]
def mL:(dU a b).1.natAbs<=a.natAbs:=V3 _ _
def oq:(dU a b).2.natAbs<=b.natAbs:=V3 _ _
def ue(b:Low x)(a:Low y)(h:x.1*y.2=y.1*x.2):x=y:=by
 have f:x.2∣y.2:=by
  have:x.2∣x.1*y.2:=⟨y.1,by rw[h];exact Xl _ _⟩
  rw[←Zn,Z8,b.g1]at this;simpa using this
 have d:y.2∣x.2:=by
  have:y.2∣y.1*x.2:=⟨x.1,by rw[←h];exact Xl _ _⟩
  rw[←Zn,Z8,a.g1]at this;simpa using this
 have e:x.2=y.2:=Int.dvd_antisymm (by have:=b.q1;omega) (by have:=a.q1;omega) f d;have c:x.1=y.1:=by
  rw[e]at h;exact Wj (by have:=a.q1;omega) h
 exact Prod.ext c e
def tJ(c:0<b)(e:a.natAbs<p6)(d:b.natAbs<p6):m_ratio [.int a,.int b]=.ok (fr<|dU a b):=Ho c e d
def QU(c:0<b)(e:a.natAbs<jD)(d:b.natAbs<jD):aV (dU a b):=⟨eW c,UR mL e,UR oq d⟩
def r8(x:cu):br (n+1) (fr x)=VT:=by
 cases n<;>rfl
def GS(fs:List cu):(fs.map fr).all (br<|n+1)=VT:=by
 rw[YB];exact Vd.mpr λx _=>r8 x
def Q9:du (fr x) (fr y)=(x.1==y.1&&x.2==y.2):=by
 unfold fr Lu;simp[du,eqDs]
def CV:du (fr x) (fr x)=VT:=by rw[Q9];simp
def flt(x y:cu):Bool:=decide (x.1*y.2<y.1*x.2)
theorem D5{tg:Ev->D->aw Ev}{body:am}(P:Ev->Prop):∀{ds:ac},(∀d∈ds,∀ρ,P ρ->∃ρ1 ρ2,tg ρ d=.ok ρ1/\body ρ1=.ok (.nx ρ2)/\P ρ2)->∀ρ,P ρ->∃ρ',cD tg body ds ρ=.ok (.nx ρ')/\P ρ'
 |[],_,ρ,h=>⟨ρ,rfl,h⟩
 |d::r,a,ρ,h=>by
  obtain⟨ρ1,ρ2,j,i,g⟩:=a d Uu ρ h;obtain⟨ρ',f,c⟩:=D5 P (λe b=>a e<|Up _ b) ρ2 g;exact⟨ρ',by rw[fX j i];exact f,c⟩
def T7{c:Type}{a b:c}(h:a=b):a=b:=h
def NC(t:am)(r:Fl):aw Fl:=match r with
 |.nx a=>t a
 |r=>.ok r
def Qh(i:Nat)(ρ:Ev)(d:D):aw Fl:=.ok<|.nx<|ρ.set i<|.sh d
def Qk(d:D):aw Fl:=.ok<|.rt d
def MU(ρ:Ev)(_:D):aw Fl:=.ok<|.nx ρ
def SI(s t:am)(ρ:Ev)(x:D):aw Fl:=match x with
 |.bl b=>if b=VT then s ρ else t ρ
 |_=>.stuck
def QH(i:Nat)(ρ:Ev)(d:D):aw Fl:=match d with
 |.lst a=>.ok<|.nx<|ρ.set i<|.ow<|.lst a
 |_=>.stuck
def N7(s:Option Sl)(k:ac->aw Fl):aw Fl:=match s with
 |some (.ow (.lst a))=>k a
 |_=>.stuck
def Rr(i:Nat)(ρ:Ev)(ds:ac)(d:D):aw Fl:=if ds.length<line then .ok (.nx<|ρ.set i<|.ow<|.lst<|ds++[d]) else .stuck
def Ck(i:Nat)(ρ:Ev)(ds:ac)(d j:D):aw Fl:=if jS d=VT then DL.putAt ρ i ds d j else .stuck
def qP(i:Nat)(ρ:Ev)(k:al)(ds:ac)(d:D):aw Fl:=(k<|iD ρ).bind<|Ck i ρ ds d
def QG(i j:Nat)(ρ:Ev)(ds:ac):aw Fl:=match ds with
 |[x,y]=>.ok<|.nx<|(ρ.set i<|.sh x).set j<|.sh y
 |_=>.stuck
def k2(g:al)(a:D->D->aw D)(ρ:Ev)(x:D):aw D:=(g ρ).bind<|a x
def CZ(x:D)(xs:ac):aw (ac):=.ok (x::xs)
def MX(a:Ev->aw (ac))(ρ:Ev)(x:D):aw (ac):=(a ρ).bind<|CZ x
def Pc(g:al)(ρ:Ev)(x:D):aw D:=match x with
 |.bl VT=>g ρ
 |.bl U9=>.ok<|.bl U9
 |_=>.stuck
def Sx(g:al)(ρ:Ev)(x:D):aw D:=match x with
 |.bl VT=>.ok<|.bl VT
 |.bl U9=>g ρ
 |_=>.stuck
def QM(x:D):aw D:=match x with
 |.bl b=>.ok<|.bl (!b)
 |_=>.stuck
def OC(f g:al)(ρ:Ev)(x:D):aw D:=match x with
 |.bl VT=>f ρ
 |.bl U9=>g ρ
 |_=>.stuck
def PL(s:Option Sl):aw D:=match s with
 |some (.sh d)=>.ok d
 |_=>.stuck
def GR(s:Sl):Sl:=match s with
 |.ow d=>.sh d
 |.ox _ a=>.sh<|.tup a
 |x=>x
def EU(r:Fl):aw D:=match r with
 |.nx _=>.ok .non
 |.rt d=>.ok d
 |_=>.stuck
def Tq(x:D):aw (Option Int):=match x with
 |.int i=>.ok<|W1 i
 |_=>.stuck
def EK(x:D)(l:Option Int)(h:Option Int):aw D:=tf x l h
def Sk(hi:Ev->aw (Option Int))(ρ:Ev)(x:D)(l:Option Int):aw D:=(hi ρ).bind<|EK x l
def Qg(lo hi:Ev->aw (Option Int))(ρ:Ev)(x:D):aw D:=(lo ρ).bind<|Sk hi ρ x
def Q6(tg:Ev->D->aw Ev)(s:am)(ρ:Ev)(d:D):aw Fl:=match d with
 |.lst a=>cD tg s a ρ
 |_=>.stuck
def LW(a:D->D->aw D)(h:al)(ρ:Ev)(y z:D):aw D:=match z with
 |.bl VT=>(h ρ).bind<|a y
 |.bl U9=>.ok<|.bl U9
 |_=>.stuck
def O8(b a:D->D->aw D)(h:al)(ρ:Ev)(x y:D):aw D:=(b x y).bind<|LW a h ρ y
def Tv(b a:D->D->aw D)(g h:al)(ρ:Ev)(x:D):aw D:=(g ρ).bind<|O8 b a h ρ x
section
variable {s t:am}{f g h:al}{fa:Ev->aw (ac)}{ρ r:Ev}{i j:Nat}{d x y:D}{ds xs:ac}{op op':D->D->aw D}{a b:Int}
def oX{a:c}{k:c->aw e}:(aw.ok a).bind k=k a:=rfl
def kQ:aq s t ρ=(s ρ).bind (NC t):=rfl
def kP:NC t (.nx ρ)=t ρ:=rfl
def oO:NC t (.rt d)=.ok (.rt d):=rfl
def mS:ao ρ=.ok (.nx ρ):=rfl
def nJ:aH i f ρ=(f ρ).bind (Qh i ρ):=rfl
def oN:Qh i ρ d=.ok (.nx<|ρ.set i<|.sh d):=rfl
def uR:bh f ρ=(f<|iD ρ).bind Qk:=rfl
def oR:Qk d=.ok (.rt d):=rfl
def pB:ff f ρ=(f<|iD ρ).bind (MU ρ):=rfl
def lX:MU ρ d=.ok (.nx ρ):=rfl
def Bk:cT f s t ρ=(f<|iD ρ).bind (SI s t ρ):=rfl
def u7:SI s t ρ (.bl VT)=s ρ:=rfl
def u6:SI s t ρ (.bl U9)=t ρ:=rfl
def uU:j8 i f ρ=(f ρ).bind (QH i ρ):=rfl
def oW:QH i ρ (.lst ds)=.ok (.nx<|ρ.set i<|.ow<|.lst ds):=rfl
def vm:bU i f ρ=N7 ρ[i]? λds=>(f ρ).bind (Rr i ρ ds):=rfl
def oV{k:ac->aw Fl}:N7 (W1<|.ow<|.lst ds) k=k ds:=rfl
def cN(h:decide (ds.length<=999)=VT):Rr i ρ ds d=.ok (.nx<|ρ.set i<|.ow<|.lst<|ds++[d]):=dh (UR (ef h)<|by decide)
def oS:qO i f g ρ=N7 ρ[i]? λds=>(f<|iD ρ).bind (qP i ρ g ds):=rfl
def lU:qP i ρ g ds d=(g<|iD ρ).bind (Ck i ρ ds d):=rfl
def uS(c:jS d=VT):Ck i ρ ds d x=DL.putAt ρ i ds d x:=dh c
def va:ET i s ρ=s (unown i ρ):=rfl
def uT:ER i j fa ρ=(fa ρ).bind (QG i j ρ):=rfl
def oU:QG i j ρ [x,y]=.ok (.nx<|(ρ.set i<|.sh x).set j<|.sh y):=rfl
def Bq:aU f o ρ=(f ρ).bind o:=rfl
def vk:aa f g op ρ=(f ρ).bind (k2 g op ρ):=rfl
def vj:k2 g op ρ x=(g ρ).bind (op x):=rfl
def vi:ak fa m ρ=(fa ρ).bind m:=rfl
def uZ:ax ρ=.ok []:=rfl
def iV:af f fa ρ=(f ρ).bind (MX fa ρ):=rfl
def jm:MX fa ρ x=(fa ρ).bind (CZ x):=rfl
def lY:CZ x xs=.ok (x::xs):=rfl
def vn:eG f g ρ=(f ρ).bind (Pc g ρ):=rfl
def pE:Pc g ρ (.bl VT)=g ρ:=rfl
def pC:Pc g ρ (.bl U9)=.ok (.bl U9):=rfl
def Bg:lz f g ρ=(f ρ).bind (Sx g ρ):=rfl
def uX:Sx g ρ (.bl VT)=.ok (.bl VT):=rfl
def uW:Sx g ρ (.bl U9)=g ρ:=rfl
def uY:cM f ρ=(f ρ).bind QM:=rfl
def oY:QM (.bl c)=.ok (.bl (!c)):=rfl
def u5:JL h f g ρ=(h ρ).bind (OC f g ρ):=rfl
def pj:OC f g ρ (.bl VT)=f ρ:=rfl
def ph:OC f g ρ (.bl U9)=g ρ:=rfl
def uG:ae i ρ=PL ρ[i]?:=rfl
def oF:PL (W1<|.sh d)=.ok d:=rfl
def IU:dC d ρ=.ok d:=rfl
def oM:iD []=[]:=rfl
def uP:iD (c::r)=GR c::iD r:=rfl
def oK:GR (.ow d)=.sh d:=rfl
def ze:GR (.ox j ds)=.sh (.tup ds):=rfl
def oJ:GR (.sh d)=.sh d:=rfl
def oH:GR .no=.no:=rfl
def lT:bz n s ds=(s<|ds.map Sl.sh++U1 (n-ds.length) .no).bind EU:=rfl
def oQ:EU (.rt d)=.ok d:=rfl
def oP:EU (.nx ρ)=.ok .non:=rfl
def Be:bS f ρ=(f ρ).bind Tq:=rfl
def uV:Tq (.int a)=.ok (W1 a):=rfl
def Bh:eV ρ=.ok Wp:=rfl
def Bb:fJ f lo hi ρ=(f ρ).bind (Qg lo hi ρ):=rfl
def uO:Qg lo hi ρ x=(lo ρ).bind (Sk hi ρ x):=rfl
def uN:Sk hi ρ x l=(hi ρ).bind (EK x l):=rfl
def uM:EK (.lst ds) l c=.ok (.lst<|jA ds l c):=rfl
def vb:kI f tg s ρ=(f ρ).bind (Q6 tg s ρ):=rfl
def pA:Q6 tg s ρ (.lst ds)=cD tg s ds ρ:=rfl
def lZ:jU op op' f g h ρ=(f ρ).bind (Tv op op' g h ρ):=rfl
def Bm:Tv op op' g h ρ x=(g ρ).bind (O8 op op' h ρ x):=rfl
def vh:O8 op op' h ρ x y=(op x y).bind (LW op' h ρ y):=rfl
def vg:LW op' h ρ y (.bl VT)=(h ρ).bind (op' y):=rfl
def vd:LW op' h ρ y (.bl U9)=.ok (.bl U9):=rfl
def u4:yY (λ_ _=>VT) o (.int a) (.int b)=.ok (o a b):=rfl
def vo:aZ (.int a) (.int b)=.ok (.int<|a+b):=rfl
def fY(h:decide (ds.length+es.length<=1000)=VT):aZ (.lst ds) (.lst es)=.ok (.lst<|ds++es):=dh (UI (ef h)<|by decide)
def u0:ko (.int a)=.ok (.int (-a)):=rfl
def Bj:m1 m [x]=m x:=rfl
def Bi:m2 m [x,y]=m x y:=rfl
def o5:dP (.lst ds)=.ok (.int ds.length):=rfl
def oZ:dP (.tup ds)=.ok (.int ds.length):=rfl
def uJ(h:decide (ds.length<=1000)=VT):fE ds=.ok (.tup ds):=dh (UI (ef h)<|by decide)
def u3(h:decide (ds.length<=1000)=VT):bD ds=.ok (.lst ds):=dh (UI (ef h)<|by decide)
def fU:kq "str" (.str z)=.ok (.bl VT):=rfl
def eN:kq "tuple" (.tup ds)=.ok (.bl VT):=rfl
def fk:kq "list" (.lst ds)=.ok (.bl VT):=rfl
def iu:l7 (.non) .non=.ok (.bl U9):=rfl
def jl:wz (.tup ds) .non=.ok (.bl U9):=rfl
def iq:l7 (.tup ds) .non=.ok (.bl VT):=rfl
def dB(h:dj a b=VT):bf (.int a) (.int b)=.ok (.int<|a*b):=dh h
def nM(h:(b==0)=U9):cE (.int a) (.int b)=.ok (.int<|a.fmod b):=tZ (λz=>by rw[z]at h;cases h)
def vc(h:iw a b=VT):kY (.int a) (.int b)=.ok (.int<|a.fdiv b):=dh h
def Bc:eU ρ (i::c) (d::ds)=eU (ρ.set i<|.sh d) c ds:=rfl
def uQ:eU ρ [] ds=ρ:=rfl
def RX(i:Nat)(ρ:Ev)(s:Option Sl):Ev:=match s with
 |some (.ow d)=>ρ.set i<|.sh d
 |_=>ρ
def Ba:unown i ρ=RX i ρ ρ[i]?:=rfl
def uI:RX i ρ (W1<|.ow d)=ρ.set i (.sh d):=rfl
def uH:RX i ρ (W1<|.sh d)=ρ:=rfl
def IS{j:Int}(h:AJ ds.length j=W1 n):DL.putAt ρ i ds d (.int j)=.ok (.nx<|ρ.set i<|.ow<|.lst<|ds.set n d):=by
 unfold DL.putAt;simp only[h]
def kR:aB (.lst (x0::xs)) (.int 0)=.ok x0:=by
 unfold aB;simp only[show atI (x0::xs) 0=W1 x0 from gZ (j:=0) rfl]
def pe:aB (.tup (x0::xs)) (.int 0)=.ok x0:=by
 unfold aB;simp only[show atI (x0::xs) 0=W1 x0 from gZ (j:=0) rfl]
def mT:aB (.lst (x0::x1::xs)) (.int 1)=.ok x1:=by
 unfold aB;simp only[show atI (x0::x1::xs) 1=W1 x1 from gZ (j:=1) rfl]
def pd:aB (.tup (x0::x1::xs)) (.int 1)=.ok x1:=by
 unfold aB;simp only[show atI (x0::x1::xs) 1=W1 x1 from gZ (j:=1) rfl]
def pf:aB (.lst (x0::x1::x2::xs)) (.int 2)=.ok x2:=by
 unfold aB;simp only[show atI (x0::x1::x2::xs) 2=W1 x2 from gZ (j:=2) rfl]
def pb:aB (.tup (x0::x1::x2::xs)) (.int 2)=.ok x2:=by
 unfold aB;simp only[show atI (x0::x1::x2::xs) 2=W1 x2 from gZ (j:=2) rfl]
def o9:aB (.tup (x0::x1::x2::x3::xs)) (.int 3)=.ok x3:=by
 unfold aB;simp only[show atI (x0::x1::x2::x3::xs) 3=W1 x3 from gZ (j:=3) rfl]
def o8:aB (.tup (x0::x1::x2::x3::x4::xs)) (.int 4)=.ok x4:=by
 unfold aB;simp only[show atI (x0::x1::x2::x3::x4::xs) 4=W1 x4 from gZ (j:=4) rfl]
def Bp:((2:Nat):Int)=2:=rfl
def Bo:((4:Nat):Int)=4:=rfl
def Bn:((5:Nat):Int)=5:=rfl
end
def MO(a:Ev->aw (ac))(ρ:Ev)(x:D):aw D:=match x with
 |.str z=>(a ρ).bind<|uv z
 |_=>.stuck
def o7:By f a ρ=(f ρ).bind (MO a ρ):=rfl
def lV:MO a ρ (.str z)=(a ρ).bind (uv z):=rfl
end Com
local macro_rules|`(tactic|open_line with[$xs,*])=>do
  let ns:Array Lean.Term:=("oX kQ kP oO mS nJ oN uR oR pB lX Bk u7 u6 uU oW vm oV oS lU va uT oU Bq vk vj vi uZ iV jm lY vn pE pC Bg uX uW uY oY u5 pj ph uG oF IU oM uP oK oJ oH lT oQ oP Be uV Bh Bb uO uN uM vb pA lZ Bm vh vg vd u4 vo u0 Bj Bi o5 oZ qo lM UB VM UP WC VG Xo V8 Wu Wd Vu Xx Xy XM Nat.reduceSub Nat.reduceAdd XN VR Yw Yn uJ u3 fY cN nM Bc uQ Ba uI uH kR mT pf pe pd pb o9 o8 decide_true decide_false Nat.reduceLeDiff Nat.reduceBEq Int.reduceBEq ei DL.dOne DL.mYes fU eN fk iu jl iq Bp Bo Bn Int.reduceLT Int.reduceLE Int.reduceSub Int.reduceAdd Int.reduceMul Int.reduceNeg o7 lV Int.reduceToNat Yx".splitOn " ").toArray.map fun s=>Lean.mkIdent s.toName
  let ys:=ns++xs.getElems
  `(tactic|simp only[$[$ys:term],*])
local macro_rules|`(tactic|open_line with[no_df,$xs,*])=>do
  let ns:Array Lean.Term:=("oX kQ kP oO mS nJ oN uR oR pB lX Bk u7 u6 uU oW vm oV oS lU va uT oU Bq vk vj vi uZ iV jm lY vn pE pC Bg uX uW uY oY u5 pj ph uG oF IU oM uP oK oJ oH lT oQ oP Be uV Bh Bb uO uN uM vb pA lZ Bm vh vg vd u4 vo u0 Bj Bi o5 oZ qo lM UB VM UP WC VG Xo V8 Wu Wd Vu Xx Xy XM Nat.reduceSub Nat.reduceAdd XN VR Yw Yn uJ u3 fY cN nM Bc uQ Ba uI uH kR mT pf pe pd pb o9 o8 decide_true decide_false Nat.reduceLeDiff Nat.reduceBEq Int.reduceBEq ei DL.dOne DL.mYes fU eN fk iu jl iq Bp Bo Bn Int.reduceLT Int.reduceLE Int.reduceSub Int.reduceAdd Int.reduceMul Int.reduceNeg o7 lV Int.reduceToNat Yx".splitOn " ").toArray.map fun s=>Lean.mkIdent s.toName
  let ys:=ns++xs.getElems
  `(tactic|simp -implicitDefEqProofs only[$[$ys:term],*])
namespace Com
open PySem L2 DL
noncomputable def kA:am :=
 (aq (cT (lz (cM<|aU (ae 0)<|kq "str")<|cM<|jU LQ LQ 1#0 (ak (af (ae 0) ax)<|m1 dP)<|dC<|.int 8)
 (aq (bh<|dC<|.bl U9)
 ao)
 ao)
 (aq (bh<|ak (af (cG 1 [] (Ke<|ae 0) (bK 0) mYes<|aa (ae 0) 0#"abcdefghijklmnopqrstuvwxyz" vY) ax)<|m1 vw)
 ao))
def m_is_name:ac->aw D:=bz 1 kA
noncomputable def ft:am :=
 (aq (cT (lz (cM<|aU (ae 0)<|kq "tuple")<|aa (ak (af (ae 0) ax)<|m1 dP) 2#0 iM)
 (aq (bh<|dC<|.bl U9)
 ao)
 ao)
 (aq (cT (lz (cM<|ak (af (aa (ae 0) 0#0 aB) ax) m_is_whole)<|cM<|ak (af (aa (ae 0) 1#0 aB) ax) m_is_whole)
 (aq (bh<|dC<|.bl U9)
 ao)
 ao)
 (aq (bh<|eG (aa (aa (ae 0) 1#0 aB) 1#0 O5)<|aa (ak (af (aa (ae 0) 0#0 aB)<|af (aa (ae 0) 1#0 aB) ax) m_common_divisor) 1#0 gD)
 ao)))
def m_is_ratio:ac->aw D:=bz 1 ft
def Uk:UL:="abcdefghijklmnopqrstuvwxyz"
def uy(c:Nat):Bool:=RN ⟨#[c]⟩ Uk
def nameB(z:UL):Bool:=decide (1<=z.length)&&(decide (z.length<=8)&&z.cps.toList.all uy)
def QR:D->Bool
 |.str z=>nameB z
 |_=>U9
def OQ:D->Bool
 |.str z=>decide (z.length<=line)
 |_=>VT
theorem xK:∀{ds:ac},(∀d∈ds,∃ρ1,tg b d=.ok ρ1/\a ρ1=.ok (.bl VT)/\j ρ1=.ok (F d))->cy b tg a j ds=.ok (ds.map F)
 |[],_=>rfl
 |d::r,h=>by
  obtain⟨ρ1,i,g,f⟩:=h d Uu;rw[kr i g f,xK<|λe c=>h e<|Up _ c];rfl
theorem rF{a:Type}(F:a->Bool):∀(cs:List a),fK (cs.map λc=>D.bl<|F c)=W1 (cs.map F)
 |[]=>rfl
 |c::r=>by
  show(fK<|r.map λc=>D.bl<|F c).map (F c::·)=_;rw[rF F r];rfl
def Cz(b:z.length<=line):cG 1 [] (Ke<|ae 0) (bK 0) mYes (aa (ae 0) 0#"abcdefghijklmnopqrstuvwxyz" vY) [.sh<|.str z]=.ok (.lst<|z.cps.toList.map λc=>.bl<|uy c):=by
 have d:(lE z).length<=line:=by rw[nA];exact b
 unfold cG;show(if(lE z).length<=line then _ else _)=_;rw[dh d];have:cy (dQ 1 [] [.sh<|.str z]) (bK 0) mYes (aa (ae 0) 0#"abcdefghijklmnopqrstuvwxyz" vY) (lE z)=.ok (z.cps.toList.map λc=>D.bl<|uy c):=by
  unfold lE
  induction z.cps.toList with
  |nil=>rfl
  |cons c r a=>
   rw[UB,kr (x:=.bl<|uy c) rfl rfl rfl,a];rfl
 rw[this]
def CL(h:OQ d=VT):m_is_name [d]=.ok (.bl<|QR d):=by
 cases d with
 |str z=>
  have e:z.length<=line:=ef h;have hlen:dP (.str z)=.ok (.int z.length):=dh e;show bz 1 kA _=.ok (.bl<|nameB z);unfold nameB
  by_cases b:1<=z.length
  .by_cases f:z.length<=8
   .have a:decide ((1:Int)<=(z.length:Int))=VT:=dg 0#2
    have c:decide ((z.length:Int)<=8)=VT:=dg 0#2;erw[kA,hlen,a,c,Cz e,vw,rF,dg b,dg f,Xt]
    simp[YB,Function.comp_def]
   .have a:decide ((1:Int)<=(z.length:Int))=VT:=dg 0#2
    have c:decide ((z.length:Int)<=8)=U9:=dy 0#2;erw[kA,hlen,a,c,dg b,dy f,WZ,Yo]
  .have a:decide ((1:Int)<=(z.length:Int))=U9:=dy 0#2
   erw[kA,hlen,a,dy b,WZ]
 |ob k _=>cases k<;>rfl
 |_=>rfl
def kJ:D->Bool
 |.tup [.int p,.int q]=>decide (1<=q)&&(Vc p q==1)
 |_=>U9
def OT{g:Nat}:((g:Int)==1)=(g==1):=by
 cases h:(g==1) with
 |true=>rw[eq_of_beq h];rfl
 |false=>
  have:g≠1:=λz=>by rw[z]at h;cases h
  exact beq_eq_false_iff_ne.mpr 0#2
def Nl{xs:ac}:(∃x y,xs=[x,y])∨xs.length≠2:=by
 match xs with
 |[]=>exact .inr 0#1
 |[x]=>exact .inr 0#3
 |[x,y]=>exact .inl ⟨x,y,rfl⟩
 |x::y::z::r=>exact .inr 0#3
theorem Hn:∀{xs:ac},xs.length≠2->kJ (.tup xs)=U9
 |[],_=>rfl
 |[x],_=>by cases x<;>rfl
 |[x,y],h=>ee rfl h
 |x::y::z::r,_=>by cases x<;>cases y<;>rfl
def Ci:kJ (.tup [x,y])=(Pt x&&(Pt y&&kJ (.tup [x,y]))):=by
 cases x<;>cases y<;>rfl
def ou(d:D):m_is_ratio [d]=.ok (.bl<|kJ d):=by
 cases d with
 |tup xs=>
  rcases Nl (xs:=xs) with⟨x,y,rfl⟩|h
  .rw[Ci]
   show bz 1 ft _=_;cases a:Pt x with
   |false=>erw[ft,il,a,WZ]
   |true=>
    cases b:Pt y with
    |false=>erw[ft,il,a,b,WZ,Xt]
    |true=>
     cases x<;>first|(cases a;done)|skip
     cases y<;>first|(cases b;done)|skip
     rename_i p q;show _=aw.ok (D.bl (decide (1<=q)&&(Vc p q==1)))
     by_cases c:1<=q
     .erw[ft,il,a,b,mX,Xt,dg c,OT]
     .erw[ft,il,a,b,mX,Xt,dy c,WZ]
  .have e:((xs.length:Int)==2)=U9:=beq_eq_false_iff_ne.mpr 0#2
   rw[Hn h];show bz 1 ft _=_;erw[ft,e]
 |ob k _=>cases k<;>rfl
 |_=>rfl
def iW{a:Type}{F:a->D}{xs:List a}:jA (xs.map F) lo hi=((xs.drop<|HT.sIx xs.length 0 lo).take<|HT.sIx xs.length xs.length hi-HT.sIx xs.length 0 lo).map F:=by
 unfold jA;rw[Ut,←List.map_drop,←List.map_take]
end Com
namespace DL
open PySem PySem.Spec PyProof.Rows L2
def cL.there{h:UQ}(x:cL P w H h a o):∃u,h.get? a=W1 u:=by
 cases o with
 |lst xs=>obtain⟨_,_,_,_,e⟩:=x;exact⟨_,e⟩|tup xs=>obtain⟨_,_,_,ob,e,_⟩:=x;exact⟨_,e⟩|dK b|dT b=>obtain⟨_,_,_,_,o,_,_,e,_⟩:=x;exact⟨_,e⟩|set S n=>obtain⟨o,_,_,_,e,_⟩:=x;exact⟨_,e⟩|ins C g fs=>obtain⟨_,_,_,e,_⟩:=x;exact⟨_,e⟩|own y=>obtain⟨_,e⟩:=x;exact⟨_,e⟩|xd fs=>obtain⟨_,⟨_,_,_,e,_⟩,_⟩:=x;exact⟨_,e⟩|rng lo d=>obtain⟨_,_,_,e⟩:=x;exact⟨_,e⟩|frz ob u=>obtain⟨e,_⟩:=x;exact⟨_,e⟩
 |tbl ps=>
  have x:TabOk H h a ps:=x;rcases x with⟨_,_,_,_,_,_,_,_,e,_⟩|⟨_,e|⟨_,_,_,_,_,_,_,_,_,e,_⟩⟩<;>exact⟨_,e⟩
 |met f y=>exact⟨_,show h.get? a=W1 _ from x⟩|ext c=>obtain⟨_,⟨_,e⟩,_⟩:=x;exact⟨_,e⟩
noncomputable def p0(P:Vv) (w:VL):zK:=λouter H s E e a=>∃(d C:UD) (f:Ur) (B:UQ) (c:Hp),e=.ref d/\a.os=s.os/\AllBare a.gens/\Un (jx outer) [] H c s.heap a.heap/\gk P w c a.heap/\c d=Wp /\
 W5 B outer d (.ref C) f a.heap/\(∀b,b∉jx outer->(c b≠Wp∨∃o,s.heap.get? b=W1 o)->∃o,B.get? b=W1 o)/\∃ox,RB a.heap d ox/\E (.ref C) ox c
def Ls{l:List VI}:∀env∈l,∀a,env.frame=W1 a->a∈jx l:=λenv c a b=>Ws.mpr ⟨env,c,b⟩
section
variable {P:Vv}{w:VL}{K:Uv}{mg:UL->Option Ur}{base:UQ}{N:bv}{qual:UL}{scope:X3}{f:UD}{cd:Ur}{A:VD}{outer:List VI}{s0:UH}{H0:Hp}{E:XK}
 {π:List (UD×Obj)}{σ:L2.St}{H:Hp}{s:UH}
def iZ{B h h':UQ}(k:B.StaysIn h)(a:B.StaysIn h')(c:∃u,B.get? b=W1 u)(e:h.get? b=W1 o):h'.get? b=W1 o:=by
 obtain⟨u,q⟩:=c;have:=k b u q;rw[e]at this;cases this;exact a b o q
def MT(hX:X=gE (p0 P w) P w K mg base N qual scope f cd A outer s0 H0 E)(I:Inv X π σ H s){s1:UH}(os:s1.os=s.os)(bare:AllBare s1.gens)
  (un:Un (jx X.stack) [] H H1 s.heap s1.heap)(hok:gk P w H1 s1.heap)(T:H1 J=Wp)(m:B.StaysIn s1.heap)(U:s1.heap.FunFrames B X.stack)
  (Y:∀b,b∉jx X.stack->(H1 b≠Wp∨∃o,s.heap.get? b=W1 o)->∃o,B.get? b=W1 o)(G:W5 B outer J (.ref C) a0 h')(up:s1.heap.UpToSlots h')(hE:∃ox,RB h' J ox/\E (.ref C) ox H1) :
  p0 P w outer H0 s0 E (.ref J) { s1 with heap:=h' }:=by
 subst hX;have hL:(envOfC qual scope 2#s0 f cd).frame=W1 (envOfC qual scope 2#s0 f cd).locals:=rfl;have j:∀b,b∈jx (envOfC qual scope 2#s0 f cd::outer)->b=(envOfC qual scope 2#s0 f cd).locals∨b∈jx outer:=λb c=>by
  unfold jx at c;rw[V5,hL]at c;exact UG.mp c
 have v:∀b,b∈jx outer->b∈jx (envOfC qual scope 2#s0 f cd::outer):=λb c=>by
  unfold jx;rw[V5,hL];exact Up _ c
 have t:∀b o,s0.heap.get? b=W1 o->b≠(envOfC qual scope 2#s0 f cd).locals:=λb o e=>Vh<|Uy (UT e) I.ok.above;have nofr:∀b o,s0.heap.get? b=W1 o->b∉jx outer->b∉jx (envOfC qual scope 2#s0 f cd::outer):=λb o e c p=>(j b p).elim (t b o e) c;have g:∀b o,s0.heap.get? b=W1 o->∃r,s.heap.get? b=W1 r:=λb o e=>I.base.there b o e (by intro z;exact nomatch z);have y:∀b,b∈jx outer->∀o,s1.heap.get? b=W1 o->∃M,h'.get? b=W1 { o with slots:=M }:=λb c o e=>by
  obtain⟨_,r,x,hd⟩:=U.mem<|v b c;rw[e]at x;cases x;exact up b o e hd
 have d:∀b∈jx (envOfC qual scope 2#s0 f cd::outer),H1 b=Wp:=λb c=>by
  obtain⟨_,o,ho,_⟩:=I.stack.mem c;exact un.free b o ho (I.stkFree b c) 0#3
 have B0:∀b o,s0.heap.get? b=W1 o->b∉jx outer->∃u,B.get? b=W1 u:=λb o e c=>Y b (nofr b o e c)<|.inr<|g b o e;refine⟨J,C,a0,B,H1,rfl,os.trans I.os,bare,⟨λb o e n c Q=>?_,λb o e n c Q=>?_,λb o e n Q=>?_,λb o e Q=>?_,λb xs e=>un.tups b xs (I.base.tups b xs e),λb o u e=>un.frzs b o u (I.base.frzs b o u e),λb ps e=>?_⟩,λa o e=>?_,T,G,λb c h=>?_,hE⟩
 .have i:=I.base.keep b o e n c (by intro z;exact nomatch z)
  have O:=I.base.free b o e n (by intro z;exact nomatch z);have l:=un.keep b o i O (nofr b o e c) 0#3;exact iZ m G.1 (B0 b o e c) l
 .obtain⟨M,i⟩:=I.base.slot b o e n c (by intro z;exact nomatch z)
  have O:=I.base.free b o e n (by intro z;exact nomatch z);obtain⟨ab,l⟩:=un.any i O 0#3;obtain⟨L,e3⟩:=y b c _ l;exact⟨L,e3⟩
 .obtain⟨r,i⟩:=g b o e
  exact un.free b r i (I.base.free b o e n (by intro z;exact nomatch z)) 0#3
 .obtain⟨r,i⟩:=g b o e
  obtain⟨o2,l⟩:=un.there b r i 0#3
  by_cases c:b∈jx outer
  .obtain⟨M,e3⟩:=y b c _ l
   exact⟨_,e3⟩
  .exact⟨_,iZ m G.1 (B0 b o e c) l⟩
 .obtain⟨m1,i⟩:=I.base.tbls b ps e
  obtain⟨m2,l⟩:=un.tbls b _ i;exact⟨m1++m2,by rw[l,Yp]⟩
 .refine(hok a o e).stay (λb u c q=>?_) (λ_ q=>q) (λ_ _ q=>q) λ_ _ q=>q
  have hn:H1 b≠Wp:=by
   rcases c with rfl|c
   .rw[e];simp
   .rw[c];simp
  exact iZ m G.1 (Y b (λp=>hn<|d b p)<|.inl hn) q
 .by_cases p:b∈jx (envOfC qual scope 2#s0 f cd::outer)
  .rcases j b p with z|z
   .rcases h with h|⟨o,h⟩
    .exact ee (d b p) h
    .exact ee z<|t b o h
   .exact ee z c
  .exact Y b p<|h.elim .inl λ⟨o,h⟩=>.inr<|g b o h
def yF:gR (p0 P w) (gE (p0 P w) P w K mg base N qual scope f cd A outer s0 H0 E) E:=by
 intro π σ H s e n I h;obtain⟨p,C,q,B,r,rfl,os,bare,un,hok,b,i,l,ox,⟨m,c,a⟩,j⟩:=h;refine FC I.ok.frames rfl i c λo g up d=>?_;exact MT rfl I os bare un hok b i.1 i.2.2.1 l g up ⟨ox,⟨m,d,a⟩,j⟩
end
def A4{K:Uv}{st:WE}{N ps:bv}{k:Nat}(F:BU K x qual st f y)(S:eJ N ps<|defScope st)
  (c:∀(a:Ur),y.code=a->∀(A:VD) (outer:List VI) (s0:UH) (H Ha:Hp) (E:XK),cZ k (A.deeper<|envOfC qual (defScope st) 2#s0 f a) ->
   zM (gE (p0 P w) P w K L base N qual (defScope st) f a A outer s0 H E) E H Ha (defBody st) s):gi P w K L base (p0 P w) (k+1) f y ps (spD K ps.length<|bz N.length s):=by
 have T:ps.length<=N.length:=by have:=en X6 S.pre;rw[V1]at this;omega
 obtain⟨oc,od,kV,doc,pm,an,a,ct,J,rfl,lk,p⟩:=F.ex;refine II lk p S (λG H Q E h=>h.1) λA outer s0 H G Q E O h=>?_;obtain⟨hn,Ha,b,M,u,q⟩:=h;refine⟨_,(c a rfl A outer s0 H Ha E O).o,Ha,b.map Sl.sh++U1 (N.length-b.length) .no,?_,?_⟩
 .refine⟨bC.refl M,qM u,λi d e=>?_,λi j d B U e=>?_,?_,OX.none wW sX⟩
  .by_cases n:i<b.length
   .rw[U0 (by simpa using n),Uw]at e
    cases q:b[i]? with|none|some B=>rw[q]at e;cases e
   .rw[U8 (by simpa using n),Vl]at e
    split at e<;>cases e
  .by_cases n:i<b.length
   .rw[U0 (by simpa using n),Uw]at e
    cases q:b[i]? with|none|some B=>rw[q]at e;cases e
   .rw[U8 (by simpa using n),Vl]at e
    split at e<;>cases e
  .unfold L2.start
   have:=u.length;simp only[Vf,Ut,Wn];omega
 .unfold bz at q
  cases z:s (b.map Sl.sh++U1 (N.length-b.length) .no) with
  |stuck|exn x=>rwa[z]at q
  |ok r=>
   rw[z]at q;cases r with|nx m=>exact λC t l _ Y=>q .non t l Y.g (aS.mpr rfl)|rt d=>exact λv t l g I=>q v t l g I|bk m|ct m=>exact q.elim
def CQ{K:Uv}{st:WE}{N ps:bv}{k:Nat}(F:BU K x qual st f d)(S:eJ N ps<|defScope st)
  (b:∀(a:Ur) (A:VD) (outer:List VI) (s0:UH) (H Ha:Hp) (E:XK),cZ k (A.deeper<|envOfC qual (defScope st) 2#s0 f a) ->
   zM (gE (p0 P w) P w K c base N qual (defScope st) f a A outer s0 H E) E H Ha (defBody st) s):gi P w K c base (p0 P w) (k+1) f d ps (spD K ps.length<|bz N.length s):=A4 F S λa _=>b a
def qh(x:UL)(b:Ev->aw (ac)):am:=λa=>(b (iD a)).bind λc=>if c.length<=line then .exn ⟨x,[]⟩ else .stuck
section
variable {P:Vv}{w:VL}{st:List VI}{H H':Hp}{h g g' B:UQ}
def Un.fly(un:Un (jx st) [] H H' h g)(k:B.StaysIn g)(m:g.FunFrames B st)(r:∀b,b∉jx st->(H' b≠Wp∨∃o,h.get? b=W1 o)->∃o,B.get? b=W1 o)(q:B.StaysIn g')(up:g.UpToSlots g'):Un (jx st) [] H H' h g':=by
 have f:∀b,b∈jx st->∀o,g.get? b=W1 o->∃l,g'.get? b=W1 { o with slots:=l }:=λb a o e=>by
  obtain⟨_,s,d,t⟩:=m.mem a;rw[e]at d;cases d;exact up b o e t
 refine⟨λb o e n a c=>?_,λb o e n a c=>?_,un.free,λb o e c=>?_,un.tups,un.frzs,un.tbls⟩
 .exact iZ k q (r b a<|.inr ⟨o,e⟩)<|un.keep b o e n a c
 .obtain⟨l,i⟩:=un.slot b o e n a c
  obtain⟨j,p⟩:=f b a _ i;exact⟨j,p⟩
 .obtain⟨s,i⟩:=un.there b o e c
  by_cases a:b∈jx st
  .obtain⟨l,p⟩:=f b a _ i
   exact⟨_,p⟩
  .exact⟨_,iZ k q (r b a<|.inr ⟨o,e⟩) i⟩
def gk.fly(ok:gk P w H' g)(j:∀b∈jx st,H' b=Wp)(k:B.StaysIn g)(l:∀b,b∉jx st->(H' b≠Wp∨∃o,h.get? b=W1 o)->∃o,B.get? b=W1 o)(f:B.StaysIn g'):gk P w H' g':=λa o e=>by
 refine(ok a o e).stay (λb u c q=>?_) (λ_ q=>q) (λ_ _ q=>q) λ_ _ q=>q;have d:H' b≠Wp:=by
  rcases c with rfl|c
  .rw[e];simp
  .rw[c];simp
 exact iZ k f (l b (λi=>d<|j b i)<|.inl d) q
def gk.ext(ok:gk P w H g)(f:H a=Wp)(p:d g)(m:∃o,g.get? a=W1 o)(n:∀l j:UQ,d l->(∀o,l.get? a=W1 o->j.get? a=W1 o)->d j):gk P w (upd H a<|.ext d) g:=λb u e=>by
 by_cases i:b=a
 .subst i;rw[aG]at e;cases e;exact⟨p,m,n⟩
 .rw[aA i]at e
  exact(ok b u e).stay (λc v _ q=>q) (λc q=>by rw[aA (aP q f)];exact q) (λc xs q=>by rw[aA (aP q f)];exact q) λc xs q=>by rw[aA (aP q f)];exact q
def Un.ext{fs:List UD}(un:Un fs [] H H' h g)(c:H' a=Wp)(f:h.get? a=Wp):Un fs [] H (upd H' a o) h g :=
 ⟨un.keep,un.slot,λb ob e n d=>by rw[aA (λz=>by subst z;rw[f]at e;cases e)];exact un.free b ob e n d,un.there,λb xs q=>by rw[aA (aP (un.tups b xs q) c)];exact un.tups b xs q,
  λb ob u q=>by rw[aA (aP (un.frzs b ob u q) c)];exact un.frzs b ob u q,λb ps q=>by
   obtain⟨m,e⟩:=un.tbls b ps q;exact⟨m,by rw[aA (aP e c)];exact e⟩⟩
def FD{a C:UD}{i:Option UD}:∀f b:UQ,BY a C i f->(∀o,f.get? a=W1 o->b.get? a=W1 o)->BY a C i b:=λf b ⟨o,j,e,c,d⟩ k=>⟨o,j,k o e,c,d⟩
end
def hand(X:Cx)(e:UD):Cx:={ X with A:=X.A.mark<|W1<|.ref e,calm:=false,xe:=λ_ _=>False }
section
variable {X:Cx}{π:List (UD×Obj)}{σ:L2.St}{H:Hp}{s:UH}{e:UD}
def Lp(ok:X.Ok):(hand X e).Ok :=
 ⟨ok.mod,ok.kind,ok.glob,ok.blt,ok.above,ok.inj,ok.has,ok.cab,λz=>Bool.noConfusion z,ok.frames,ok.stk,ok.exf,ok.bs,ok.bsz,ok.noex,ok.exfs,ok.funs,ok.frf,ok.tab⟩
def Inv.hand(I:Inv X π σ H s):Inv (DL.hand X e) π σ H s:=⟨Lp I.ok,I.os,I.bare,I.base,I.loc,I.cell,I.free,I.freeC,I.pin,I.hok,I.len⟩
def fv(ok:X.Ok)(I:Inv (DL.hand X e) π σ H s):Inv X π σ H s:=⟨ok,I.os,I.bare,I.base,I.loc,I.cell,I.free,I.freeC,I.pin,I.hok,I.len⟩
end
def PA.nox(h:PA X.nox es t):PA X es t:=λpos b s a H Q I hw=>
 VH (h pos b s a H Q (I.wish _) hw) (λ_ _ ⟨v,d,c,r,q⟩=>⟨v,d,c.unwish,r,q⟩) λ_ _ z=>Vz z
section
variable {X:Cx}{π:List (UD×Obj)}{σ:L2.St}{H:Hp}{s:UH}{CX:zK}{k:Nat}{f:UD}{fd:VX}{ps:bv}{sp:Sp}{Ex:XK}{x:UL}{p pos:Pos}{e:Vt}{es:List Vt}{t:TA}
def LZ(F:gi X.prog X.w X.K X.mg X.base CX k f fd ps sp)(o:cZ k X.A)(B:Gl X x)(v:X.mg x=W1 (.ref f))(z:X0 X.K (.ref f)=VT)(E:iC X.K fd ps [])(G:PA X.nox (e::es) t)
  (I:Inv X π σ H s)(h:t σ H λvs H1=>sp vs H1 Q Ex)(n:∀H1 s1 e s',Inv X π σ H1 s1->CX X.stack H1 s1 Ex e s'->d e s')
  (j:1#x:=by decide)(C:UJ (e::es) X.env=(U9,eval e X.env)::UJ es X.env:=by exact aW rfl)(i:(VQ pos<|UJ es X.env).any (·.1)=U9:=by exact cC rfl) :
  UZ 4#X X.A (eval (.Call (.Name x p) (e::es) [] pos) X.env) (EP X π σ Q) d s:=by
 refine wpAny_Call_Name_kw<|iU I B v ?_ j;have l:PA (X.wish d) (e::es) t:=PA.nox (X:=X.wish d) G;refine YZ (h₀:=X.base) I.ok.mod.kin z (cW (l pos π s σ H _ (I.wish d) h) λc s1 z9=>?_) C i;obtain⟨vs,H1,a,r,q⟩:=z9;refine⟨a.unwish.kIn,?_⟩;have a:=a.unwish;have y:c.length=ps.length:=by rw[←r.length];exact F.len _ _ _ _ q
 have b:=E s1 c a.kIn (by simpa using y);rw[VN]at b;refine wpAny_call<|codeAny_mono (F.run X.A X.stack s1 H1 ⟨c,[]⟩ c vs Q Ex o a.env0 b r q) λr s' g=>?_;cases r with
 |error e=>exact n H1 s1 e s' a g
 |ok J=>
  cases J with|ret u=>exact a.after g|next|brk|cont=>exact Vz g
end
def GD(K:Uv)(b a Ha:Hp)(r:aw Fl)(D:qG):Prop:=match r with
 |.exn _=>True
 |r=>bZ K E0 b a Ha r D
def RY(K:Uv)(d c Ha:Hp)(b:L2.St)(ρ:Ev)(r:aw Fl):XK:=λC ox e=>∃x a,r=.exn x/\aE Ha a/\f9 K d c a b e ρ/\zI K a x C ox
structure TB (X:Cx) (st:WE) (g:am):Prop where
 o:∀(π:List (UD×Obj)) (s:UH) (σ:L2.St) (H He η Ha:Hp) (ρ:Ev) (D:qG) (XE:Ur->UH->Prop),Inv X π σ H s->f9 X.K He η Ha σ H ρ->GD X.K He η Ha (g ρ) D ->
  (∀H1 s1 e s',Inv X π σ H1 s1->p0 X.prog X.w X.stack H1 s1 (RY X.K He η Ha σ ρ (g ρ)) e s'->XE e s')->UZ 4#X X.A (exec st X.env) (SP X π D) XE s
section
variable {X:Cx}{E:XK}{e:Vt}{es:List Vt}{fa:Ev->aw (ac)}{pos:Pos}
def KW(b:Nat)(r:Fl):aw Fl:=match r with
 |.nx a=>.ok<|.nx<|a.set b .no
 |.rt d=>.ok<|.rt d
 |.bk a=>.ok<|.bk<|a.set b .no
 |.ct a=>.ok<|.ct<|a.set b .no
def Q8(x:RG):D:=match x.flds with
 |[]=>.exc x.cls
 |f::fs=>if((f::fs).map (·.1)).Nodup then .ob (.exf x.cls ((f::fs).map (·.1))) ((f::fs).map (·.2)) else .exc x.cls
def So(g:am)(hit:UL->Bool)(b:Nat)(sh:am):am:=λa=>match g a with
 |.exn x=>if hit x.cls=VT then(sh<|a.set b<|.sh<|Q8 x).bind (KW b) else .stuck
 |r=>r
end
structure M5 (k:Nat) (A:VD):Prop where
 dp:A.depth+3*k+5<recursionLimit
 un:A.units+16*k+200<Xa
def cZ.h{k:Nat}(r:cZ k A):M5 k A:=⟨r.dp,r.un⟩
structure TJ (P:Vv) (w:VL) (K:Uv) (mg:UL->Option Ur) (base:UQ) (k:Nat) (f:UD) (fd:VX) (ps:bv) (sp:Sp):Prop where
 len:∀vs H Q E,sp vs H Q E->vs.length=ps.length
 run:∀(A:VD) (outer:List VI) (s:UH) (H:Hp) (args:Args) (us:List Ur) (vs:ad) (Q:VK) (E:XK),M5 k A->rY P w K mg base A outer s H->BindsTo s fd args (ps.zip us)->bo vs us->sp vs H Q E ->
  WQ (UY P w) A (.call (.ref f) args) (CR CX0 outer P w H s Q E) s
def TJ.ok{K:Uv}{k:Nat}{ps:bv}(F:TJ P w K c base k f e ps sp):gi P w K c base CX0 k f e ps sp :=
 ⟨F.len,λA outer s H args b a Q E d=>F.run A outer s H args b a Q E<|cZ.h d⟩
def Rk(tab:UL->Option Bool)(x:D):aw D:=match x with
 |.exc c=>(match tab c with
  |some b=>.ok<|.bl b
  |none=>.stuck)
 |.ob (.exf c _) _=>(match tab c with
  |some b=>.ok<|.bl b
  |none=>.stuck)
 |_=>.stuck
end DL
namespace DL
open PySem PySem.Spec PyProof.Rows L2 PySem.W
structure qH (K:Frag) (x:UL) (C:UD):Prop where
 ns:nsIn K UU x=W1 (W1 (.ref C))
 ty:typeIn K (.ref C)=W1 (.type "type")
 ob:mroIn K C (.type "object")=W1 VT
 be:subIn K (.ref C) (.type "BaseException")=W1 VT
def qH.isCls{K:Frag}(Z:qH K x C):(clsIn K C).isSome=VT:=by
 obtain⟨c,a,b⟩:=ZS.mp Z.ob;rw[a];rfl
def qH.kitCls{K:Frag}(Z:qH K x C):W.kitCls K t (.ref C)=subIn K t (.ref C):=by
 show(if((clsIn K C).isSome&&typeIn K (.ref C)==W1 (.type "type"))=VT then subIn K t (.ref C) else Wp)=_;rw[Z.isCls,Z.ty];rfl
def qH.exm{K:Frag}(Z:qH K x C)(h:subIn K t (.ref C)=W1 b):exmOne K t (.ref C)=W1 b:=by
 unfold exmOne;rw[Z.be,dh 0#1,Z.kitCls,h]
def Iw{K:Frag}(a:kitMeta T=VT)(h:subIn K (.ref C) (.type T)=W1 b):kitOne K (.ref C) (.type T)=W1 b:=by
 unfold kitOne;rw[dV (by intro z;cases beq_iff_eq.mp z)];show(if kitMeta T=VT then subIn K (.ref C) (.type T) else Wp)=_;rw[dh a,h]
def qY:∀T∈iI,kitMeta T=VT:=by decide +kernel
def XC.inj{K:Frag}(a:XC K x C)(b:XC K x c):C=c:=by
 have:=a.ns.symm.trans b.ns;simpa using this
def zW:List (UL×Bool)->UL->Option Bool
 |[],_=>Wp
 |(x,b)::r,c=>if x=c then W1 b else zW r c
theorem qc{K:Frag}{p:UL->UD->Bool->Prop}:∀{l:List<|UL×Bool},(∀q∈l,∃C,XC K q.1 C/\p q.1 C q.2)->∀c C b,zW l c=W1 b->XC K c C->p c C b
 |[],_,c,C,b,h,_=>by cases h
 |(x,v)::r,H,c,C,b,h,xc=>by
  unfold zW at h
  by_cases e:x=c
  .subst e
   rw[dh rfl]at h;cases h;obtain⟨f,a,q⟩:=H _ Uu;obtain rfl:=XC.inj xc a;exact q
  .rw[dV e]at h
   exact qc (λq d=>H q<|Up _ d) c C b h xc
def kh(l:List<|UL×Bool)(c:UL):Bool:=zW l c==W1 VT
def ID{K:Frag}{l:List<|UL×Bool}{cv:Ur}(H:∀q∈l,∃C,XC K q.1 C/\exmOne K (.ref C) cv=W1 q.2):∀x C,kh l x=VT->XC K x C->exmOne K (.ref C) cv=W1 VT:=λx C h xc=>
 qc (p:=λ_ C b=>exmOne K (.ref C) cv=W1 b) H x C VT (by unfold kh at h;exact beq_iff_eq.mp h) xc
end DL
namespace Com
open PySem L2 DL
section
variable {α β:Type}
def lW{f:α->aw β}:(aw.exn x:aw α).bind f=.exn x:=rfl
end
def PN(hit:UL->Bool)(a:Nat)(sh:am)(ρ:Ev)(r:aw Fl):aw Fl:=match r with
 |.exn x=>if hit x.cls=VT then(sh<|ρ.set a<|.sh<|Q8 x).bind (KW a) else .stuck
 |r=>r
def SU:So g hit a sh ρ=PN hit a sh ρ (g ρ):=rfl
def RP(h:hit c=VT):PN hit a sh ρ (.exn ⟨c,[]⟩)=(sh<|ρ.set a<|.sh<|.exc c).bind (KW a):=dh h
def SV:KW a (.nx ρ)=.ok (.nx<|ρ.set a .no):=rfl
def SW{tab:UL->Option Bool}(h:tab c=W1 b):Rk tab (.exc c)=.ok (.bl b):=by unfold Rk;simp only[h]
end Com
namespace DL
open PySem PySem.Spec PyProof.Rows L2
section
variable {X:Cx}{π:List (UD×Obj)}{σ:L2.St}{H:Hp}{s:UH}{h':UQ}
def wQ{i:List UD}(I:Inv X π σ H s)(k:∀b o,b∉i->s.heap.get? b=W1 o->h'.get? b=W1 o)(l:∀b∈i,qF X π H b)(p:2#s<=T)
  (j:cL X.prog X.w (upd H T<|.tup xs) h' T<|.tup xs):Inv X π σ (upd H T<|.tup xs) { s with heap:=h',toks:=t' }:=by
 have d:H T=Wp:=I.hok.fresh p;have f:∀b u,H b=W1 u->b∉i:=λb u e z=>by rw[(l b z).1]at e;cases e
 refine I.step (g':=s.gens) (d':=s.drawn) (ch:=i) (λb g=>?_) (λb o _ _ a e _=>k b o a e) (λb o _ _ a e _=>⟨o.slots,k b o a e⟩) (λb o _ e n=>?_)
  (λb o a e=>⟨o,k b o a e⟩) (λb xs e=>by rw[aA (aP e d)];exact e) (λb o u e=>by rw[aA (aP e d)];exact e) (λb ps e=>⟨#[],by rw[aA (aP e d),e];simp⟩) (λm x=>?_) (λb u e=>?_) I.bare
 .obtain⟨_,C,_,B,A,y⟩:=l b g
  exact⟨B,C,A,y⟩
 .rw[aA (Vh<|Uy (UT e) p)];exact n
 .obtain⟨o,E,G,t,r⟩:=x
  exact⟨o,E,G,k _ o (λz=>(l _ z).2.1 rfl) t,r⟩
 .by_cases g:b=T
  .subst g;rw[aG]at e;cases e;exact j
  .rw[aA g]at e
   refine(I.hok b u e).stay (λc v a q=>k c v ?_ q) (λc q=>by rw[aA (aP q d)];exact q) (λc xs q=>by rw[aA (aP q d)];exact q) λc xs q=>by rw[aA (aP q d)];exact q
   rcases a with z|z
   .rw[z];exact f b u e
   .exact f c _ z
def Df{f:List UD}(I:Inv X π σ H s)(k:∀b o,b∉f->s.heap.get? b=W1 o->h'.get? b=W1 o)(g:∀b∈f,qF X π H b):Inv X π σ H { s with heap:=h',toks:=t' }:=by
 have d:∀b u,H b=W1 u->b∉f:=λb u e z=>by rw[(g b z).1]at e;cases e
 refine I.step (g':=s.gens) (d':=s.drawn) (ch:=f) (λb l=>?_) (λb o _ _ a e _=>k b o a e) (λb o _ _ a e _=>⟨o.slots,k b o a e⟩) (λb o _ e n=>n)
  (λb o a e=>⟨o,k b o a e⟩) (λb xs e=>e) (λb o u e=>e) (λb ps e=>⟨#[],by rw[e];simp⟩) (λm j=>?_) (λb u e=>?_) I.bare
 .obtain⟨_,x,_,w,t,p⟩:=g b l
  exact⟨w,x,t,p⟩
 .obtain⟨o,y,A,i,r⟩:=j
  exact⟨o,y,A,k _ o (λz=>(g _ z).2.1 rfl) i,r⟩
 .refine(I.hok b u e).stay (λc v a q=>k c v ?_ q) (λ_ q=>q) (λ_ _ q=>q) λ_ _ q=>q
  rcases a with z|z
  .rw[z];exact d b u e
  .exact d c _ z
end
def TH(K:Uv)(a:UD):It :=
 ⟨λi H=>∃xs x,gH K H a xs/\xs[i]?=W1 x,λi H x b=>∃p y,H p=Wp/\x=.ref p/\(∀xs,gH K H a xs->xs[i]?=W1 y)/\b=upd H p (.tup [.int i,y]),λi H=>∃xs,gH K H a xs/\xs.length<=i⟩
def ED{P:Vv}{w:VL}{K:Uv}{elts:List Vt}{k:Nat}{pos:Pos}(a it e:UD)(hne:e≠it)(hae:a≠e)(hai:a≠it) :
  C9 P w K (.Tuple elts k pos) (TH K a) [e,it] e (λi h=>(∃old,IsEnum h e it i old)/\h.IsListIter it a i) where
 mem:=by simp
 obj:=λi h st b hb=>by
  obtain⟨⟨old,he⟩,o,h1,h2,h3⟩:=st;rcases UG.mp hb with rfl|hb
  .exact⟨_,he,λv z=>by cases z⟩
  .rcases UG.mp hb with rfl|hb
   .exact⟨o,h1,λv z=>by rw[h3]at z;cases z⟩
   .cases hb
 keep:=λi h h' st k=>by
  obtain⟨⟨old,he⟩,hi⟩:=st;exact⟨⟨old,k e 0#3 _ he⟩,hi.at λo y=>k it 0#3 o y⟩
 item:=by
  intro X hP hw hK hc i π s σ H E I hf st hg;subst hP hw hK;obtain⟨xs,x,hq,hx⟩:=hg;obtain⟨its,rv,p,hz⟩:=I.list hq;obtain⟨u,hu,ru⟩:=rv.get hx;have W:=WalksT.enumerate (prog:=X.prog) (w:=X.w) (I.ok.hd hc) e it a hne hae hai its.toArray;have hil:i<its.toArray.size:=by simpa using (Uz.mp hu).1
  refine W.item i s _ _ hil ⟨st.1,st.2,p.isList⟩ λT vals h' tk hPt hT hTup hMid hk=>?_;refine⟨_,rfl,W.go elts k pos i T _ _ _ hMid λh'' st'' hk''=>?_⟩;obtain⟨t,y,hy,rfl⟩:=hPt;have hyu:y=u:=by
   have:its[i]?=W1 y:=by simpa using hy
   rw[hu]at this;cases this;rfl
  subst hyu;obtain⟨o,ho,hr⟩:=hTup;have ho':=hk'' T o (W.apart i T _ hMid) ho;refine⟨.ref T,upd H T (.tup [.int i,x]),wQ (s:=s) (h':=h'') (t':=tk) I (λb o hb e=>hk'' b o hb (hk b o hb e)) hf hT ⟨by show 2<=sizeLine;decide,[.int i t,y],.cons ⟨t,rfl⟩ (.cons ru .nil),o,ho',hr⟩,rfl,⟨T,x,I.hok.fresh hT,rfl,λys hy=>by rw[I.list_inj hy hq];exact hx,rfl⟩,⟨st''.1,st''.2.1⟩,λb hb=>?_⟩;have hb0:=(hf b hb).1;obtain⟨ob,hob,_⟩:∃o,s.heap.get? b=W1 o/\∀v,o.data≠.cell v:=by
   obtain⟨⟨old,he⟩,o,h1,h2,h3⟩:=st;rcases UG.mp hb with rfl|hb
   .exact⟨_,he,λv z=>by cases z⟩
   .rcases UG.mp hb with rfl|hb
    .exact⟨o,h1,λv z=>by rw[h3]at z;cases z⟩
    .cases hb
  rw[aA (Vh<|Uy (UT hob) hT)];exact hb0
 done:=by
  intro X hP hw hK hc i π s σ H E I hf st hg;subst hP hw hK;obtain⟨xs,hq,hx⟩:=hg;obtain⟨its,rv,p,hz⟩:=I.list hq;have hl:=rv.length;obtain⟨⟨old,he⟩,hi⟩:=st;exact wpAny_pyNext_enum_end (I.ok.hd hc) he hi p.isList (by simp;omega) λh' hx=>⟨rfl,Df (t':=s.toks) I (λb o hb e=>hx b o (λz=>hb<|by simp[z]) e) hf⟩
 self:=λ_ _ _ _ _ st h=>by
  obtain⟨⟨old,he⟩,_⟩:=st;exact wpAny_pyIter_enum he h
section
variable {X:Cx}{E:XK}{elts:List Vt}{k:Nat}{tp:Pos}{e a b:Vt}{f g:al}
def Q1(K:Uv)(j:TA):TI:=λd H R=>j d H λi c=>∃a,i=[.ref a]/\(∃xs,gH K c a xs)/\R (TH K a) c
def KG(N:Gl X "enumerate")(J:X.mg "enumerate"=Wp)(O:PA X [a] w)(C:UJ [a] X.env=[(U9,eval a X.env)]:=by rfl):PI X (.Tuple elts k tp) (.Call (.Name "enumerate" p) [a] [] pos) (Q1 X.K w):=by
 intro v s u H R I h;refine Call_<|ql I N J PyProof.Rows.Boot.«enumerate» (Xb (cW (O pos v s u H _ I h) λU c z9=>?_) C rfl);obtain⟨T,Q,m,y,z⟩:=z9;obtain⟨l,e,⟨xs,G⟩,q⟩:=z;subst e;cases y with
 |cons r x=>
  cases x;cases r;obtain⟨A,rv,p,hz⟩:=m.list G;have d:l<2#c:=by obtain⟨o,n,e,_⟩:=p;exact UT e
  refine call_enumerate_list p.isList λh' t M B L=>?_;refine wpAny_pyIter_enum t ?_;refine⟨2#c+1,[2#c+1,2#c],_,_,Q,rfl,m.kept (t':=c.toks) L,ED l 2#c (2#c+1) (Nat.succ_ne_self _) (Vh (Nat.lt_succ_of_lt d)) (Vh d),⟨⟨_,t⟩,M⟩,λb j=>?_,q⟩;have i:2#c<=b:=by
   rcases UG.mp j with rfl|j
   .omega
   .rcases UG.mp j with rfl|j
    .exact U3 _
    .cases j
  exact m.fpOk i<|m.hok.fresh i
def numbered(n:Nat):ac->ac
 |[]=>[]
 |d::c=>.tup [.int n,d]::numbered (n+1) c
theorem di:∀(ds:ac) (n:Nat),(numbered n ds).length=ds.length
 |[],_=>rfl
 |d::ds,n=>by simp[numbered,di ds]
theorem cU:∀(ds:ac) (n i:Nat),(numbered n ds)[i]?=(ds[i]?).map λd=>D.tup [.int (n+i:Nat),d]
 |[],_,_=>by simp[numbered]
 |d::ds,n,0=>by simp[numbered]
 |d::ds,n,i+1=>by simp only[numbered,Vu];rw[cU ds (n+1) i,show n+1+i=n+(i+1) by omega]
def lD(f:al):Ev->aw (ac):=λc=>(f c).bind λd=>match d with
 |.lst i=>.ok<|numbered 0 i
 |_=>.stuck
def Dg{K:Uv}(d:aE Ha H)(i:H p=Wp)(r:Reps K Ha ds vs):∃c,bC H Ha (upd H p<|.tup vs) c/\Rep K c (.tup ds) (.ref p) :=
 ⟨upd Ha p<|.tup vs,bg d i,aM.mpr ⟨p,vs,rfl,pZ.of aG,r.mono (bg (o:=.tup vs) d i).z⟩⟩
def gW(Y:Gl X "enumerate")(U:X.mg "enumerate"=Wp)(h:DE X E a f)(G:MJ a=VT:=by exact rfl):DI X E (.Tuple elts k tp) (.Call (.Name "enumerate" p) [a] [] pos) (lD f):=by
 refine⟨oh (KG Y U (gu h.o kL (gq G)) (gq G)) λσ H R z9=>?_⟩;obtain⟨Ha,C,O,Q,q⟩:=z9;refine⟨Ha,C,O,Q,?_⟩;unfold lD at q;cases J:f C with
 |stuck|exn x=>rwa[J]at q
 |ok d=>
  rw[J]at q;intro v H1 B I M;cases d with
  |lst ds=>
   obtain⟨l,n,rfl,w,c⟩:=aF.mp M;refine⟨l,rfl,⟨n,aE.sqL I.sub w⟩,q _ H1 B I ⟨λi L t m j r=>?_,λi L t x H2 d m j s z=>?_,λi L t m j r=>?_⟩⟩
   .rw[di]at r
    exact⟨n,n[i]'(by rw[←c.length];exact r),aE.sqL (m.trans j) w,by simp⟩
   .obtain⟨p,y,T,rfl,z,rfl⟩:=z
    rw[cU]at s;cases A:ds[i]? with
    |none=>rw[A]at s;cases s
    |some d'=>
     rw[A]at s;cases s;obtain⟨u,N,k2⟩:=c.get A;have:=z n<|aE.sqL (m.trans j) w;rw[N]at this;cases this;exact Dg j T (Reps.cons (ay.mpr<|by simp)<|Reps.cons (k2.mono m) Reps.nil)
   .rw[di]at r
    exact⟨n,aE.sqL (m.trans j) w,by rw[←c.length];exact r⟩
  |_=>exact q.elim
end
noncomputable def TF(K:Uv) (a b:UD):It :=
 ⟨λi H=>∃xs c x y,gH K H a xs/\gH K H b c/\xs[i]?=W1 x/\c[i]?=W1 y,λi H x d=>∃p y z,H p=Wp/\x=.ref p/\(∀xs,gH K H a xs->xs[i]?=W1 y)/\(∀xs,gH K H b xs->xs[i]?=W1 z)/\d=upd H p (.tup [y,z]),
  λi H=>∃xs c,gH K H a xs/\gH K H b c/\min xs.length c.length<=i⟩
def Gy{P:Vv}{w:VL}{K:Uv}{elts:List Vt}{k:Nat}{pos:Pos}(z TI TO i1 i2 a b:UD)(D:ZipApart z TI TO i1 i2 a b) :
  C9 P w K (.Tuple elts k pos) (TF K a b) [z,TI,TO,i1,i2] z (λi h=>IsZip h z TI TO .none/\IsPair h TI (.ref i1) (.ref i2)/\(∃a b,IsPair h TO a b)/\h.IsListIter i1 a i/\h.IsListIter i2 b i) where
 mem:=by simp
 obj:=λi h st b hb=>by
  obtain⟨hz,hTI,⟨a',b',hTO⟩,⟨o1,e1,c1,d1⟩,⟨o2,e2,c2,d2⟩⟩:=st;simp only[UG,Xj,eo]at hb;rcases hb with rfl|rfl|rfl|rfl|rfl
  .exact⟨_,hz,λv z=>by cases z⟩
  .exact⟨_,hTI,λv z=>by cases z⟩
  .exact⟨_,hTO,λv z=>by cases z⟩
  .exact⟨_,e1,λv z=>by rw[d1]at z;cases z⟩
  .exact⟨_,e2,λv z=>by rw[d2]at z;cases z⟩
 keep:=λi h h' st k=>by
  obtain⟨hz,hTI,⟨a',b',hTO⟩,h1,h2⟩:=st;exact⟨k z 0#3 _ hz,k TI 0#3 _ hTI,⟨a',b',k TO 0#3 _ hTO⟩,h1.at λo y=>k i1 0#3 o y,h2.at λo y=>k i2 0#3 o y⟩
 item:=by
  intro X hP hw hK hc i π s σ H E I hf st hg;subst hP hw hK;obtain⟨xs,ys,x,y,hqx,hqy,hx,hy⟩:=hg;obtain⟨its,rv,p,hz⟩:=I.list hqx;obtain⟨jts,rw_,p',hz'⟩:=I.list hqy;obtain⟨u,hu,ru⟩:=rv.get hx;obtain⟨u',hu',ru'⟩:=rw_.get hy;have W:=WalksT.zip2 (prog:=X.prog) (w:=X.w) (I.ok.hd hc) z TI TO i1 i2 a b D its.toArray jts.toArray;have hil:i<min its.toArray.size jts.toArray.size:=by
   have h1:=(Uz.mp hu).1;have h2:=(Uz.mp hu').1;simp only[UW];omega
  have sub:∀b,b∉[z,TI,TO,i1,i2]->b∉[z,TO,i1,i2]:=λb hb hc=>hb (by simp only[UG,Xj,eo]at hc ⊢;rcases hc with h|h|h|h<;>simp[h]);refine W.item i s _ _ hil ⟨st.1,st.2.1,st.2.2.1,st.2.2.2.1,st.2.2.2.2,p.isList,p'.isList⟩ λT vals h' tk hPt hT hTup hMid hk=>?_;refine⟨_,rfl,W.go elts k pos i T _ _ _ hMid λh'' st'' hk''=>?_⟩;obtain⟨v,v',hv,hv',rfl⟩:=hPt;have hyu:v=u:=by
   have:its[i]?=W1 v:=by simpa using hv
   rw[hu]at this;cases this;rfl
  have hyu':v'=u':=by
   have:jts[i]?=W1 v':=by simpa using hv'
   rw[hu']at this;cases this;rfl
  subst hyu hyu';obtain⟨o,ho,hr⟩:=hTup;have ho':=hk'' T o (W.apart i T _ hMid) ho;refine⟨.ref T,upd H T<|.tup [x,y],wQ (s:=s) (h':=h'') (t':=tk) I (λb o hb e=>hk'' b o (sub b hb)<|hk b o (sub b hb) e) hf hT ⟨by show 2<=sizeLine;decide,[v,v'],.cons ru<|.cons ru' .nil,o,ho',hr⟩,rfl,⟨T,x,y,I.hok.fresh hT,rfl,λys hy'=>by rw[I.list_inj hy' hqx];exact hx,λys hy'=>by rw[I.list_inj hy' hqy];exact hy,rfl⟩,
   ⟨st''.1,st''.2.1,st''.2.2.1,st''.2.2.2.1,st''.2.2.2.2.1⟩,λb hb=>?_⟩
  have hb0:=(hf b hb).1;obtain⟨ob,hob⟩:∃o,s.heap.get? b=W1 o:=by
   obtain⟨hz,hTI,⟨a',b',hTO⟩,⟨o1,e1,c1,d1⟩,⟨o2,e2,c2,d2⟩⟩:=st;simp only[UG,Xj,eo]at hb;rcases hb with rfl|rfl|rfl|rfl|rfl
   .exact⟨_,hz⟩
   .exact⟨_,hTI⟩
   .exact⟨_,hTO⟩
   .exact⟨_,e1⟩
   .exact⟨_,e2⟩
  rw[aA (Vh<|Uy (UT hob) hT)];exact hb0
 done:=by
  intro X hP hw hK hc i π s σ H E I hf st hg;subst hP hw hK;obtain⟨xs,ys,hqx,hqy,hx⟩:=hg;obtain⟨its,rv,p,hz⟩:=I.list hqx;obtain⟨jts,rw_,p',hz'⟩:=I.list hqy;have hl:=rv.length;have hl':=rw_.length;obtain⟨hz,hTI,⟨a',b',hTO⟩,h1,h2⟩:=st;refine wpAny_pyNext_zip_end (I.ok.hd hc) D hz hTI hTO h1 h2 p.isList p'.isList ?_ λh' hk=>⟨rfl,Df (t':=s.toks) I (λc o hb e=>hk c o (λx=>hb<|by simp[x]) (λx=>hb<|by simp[x]) (λx=>hb<|by simp[x]) (λx=>hb<|by simp[x]) e) hf⟩
  by_cases hle:xs.length<=ys.length
  .left;simp;omega
  .right;simp;omega
 self:=λ_ _ _ _ _ st h=>by
  obtain⟨hz,_⟩:=st;exact wpAny_pyIter_zip hz h
section
variable {X:Cx}{E:XK}{elts:List Vt}{k:Nat}{tp:Pos}{e a b:Vt}{f g:al}
def SJ(K:Uv)(j:TA):TI:=λd H R=>j d H λi c=>∃a b,i=[.ref a,.ref b]/\(∃xs,gH K c a xs)/\(∃xs,gH K c b xs)/\R (TF K a b) c
def NT(hg:Gl X "zip")(hm:X.mg "zip"=Wp)(ha:PA X [a,b] M)(hs:UJ [a,b] X.env=[(U9,eval a X.env),(U9,eval b X.env)]:=by rfl)(d:UJ [b] X.env=[(U9,eval b X.env)]:=by rfl) :
  PI X (.Tuple elts k tp) (.Call (.Name "zip" p) [a,b] [] pos) (SJ X.K M):=by
 intro L s J H R I h;refine Call_ (ql I hg hm PyProof.Rows.Boot.«zip» (Xb (cW (ha pos L s J H _ I h) λus c ⟨vs,H1,m,O,T⟩=>?_) (by rw[hs,d]) (by rw[d];rfl)));obtain⟨l,C,e,⟨xs,hq⟩,⟨ys,v⟩,q⟩:=T;subst e;cases O with
 |cons r t=>
  cases t with
  |cons Q t=>
   cases t;cases r;cases Q;obtain⟨Y,rv,p,u⟩:=m.list hq;obtain⟨U,N,B,ab⟩:=m.list v;have w:l<2#c:=by obtain⟨o,n,e,_⟩:=p;exact UT e
   have i:C < 2#c:=by obtain⟨o,n,e,_⟩:=B;exact UT e
   refine call_zip_2 p.isList B.isList λh' u A z y x ah hk=>?_;refine wpAny_pyIter_zip u ?_;refine⟨2#c+4,[2#c+4,2#c+2,2#c+3,2#c,2#c+1],_,_,H1,rfl,m.kept (t':=c.toks) hk,Gy _ _ _ _ _ l C (zipApart_new w i),⟨u,A,⟨_,_,z⟩,y,x⟩,λb G=>?_,q⟩;have j:2#c<=b:=by
    simp only[UG,Xj,eo]at G;rcases G with rfl|rfl|rfl|rfl|rfl<;>omega
   exact m.fpOk j<|m.hok.fresh j
def de:ac->ac->ac
 |d::i,e::c=>.tup [d,e]::de i c
 |_,_=>[]
theorem kK:∀(ds es:ac),(de ds es).length=min ds.length es.length
 |[],_=>by simp[de]
 |_::_,[]=>by simp[de]
 |d::ds,e::es=>by simp[de,kK ds es]
theorem nC:∀(ds es:ac) (i:Nat) (d:D),(de ds es)[i]?=W1 d->∃x y,ds[i]?=W1 x/\es[i]?=W1 y/\d=.tup [x,y]
 |[],_,_,_,h=>by simp[de]at h
 |_::_,[],_,_,h=>by simp[de]at h
 |d::ds,e::es,0,_,h=>by simp[de]at h;exact⟨d,e,rfl,rfl,h.symm⟩
 |d::ds,e::es,i+1,_,h=>by
  simp only[de,Vu]at h;obtain⟨x,y,l,j,c⟩:=nC ds es i _ h;exact⟨x,y,by simpa using l,by simpa using j,c⟩
def GN(f g:al):Ev->aw (ac):=λc=>(f c).bind λd=>(g c).bind λe=>match d,e with
 |.lst j,.lst i=>.ok<|de j i
 |_,_=>.stuck
def OZ(hg:Gl X "zip")(hm:X.mg "zip"=Wp)(h:DE X E a f)(h':DE X E b g)(hn:MJ a=VT:=by exact rfl)(A:MJ b=VT:=by exact rfl):DI X E (.Tuple elts k tp) (.Call (.Name "zip" p) [a,b] [] pos) (GN f g):=by
 refine⟨oh (NT hg hm (gu h.o (gu h'.o kL (gq A)) (aW hn)) (by rw[aW hn,gq A]) (gq A)) λσ H R z9=>?_⟩;obtain⟨Ha,G,hs,hr,q⟩:=z9;refine⟨Ha,G,hs,hr,?_⟩;unfold GN at q;cases e1:f G with
 |stuck|exn x=>rwa[e1]at q
 |ok d=>
  rw[e1]at q;intro v H1 ah M r1;refine⟨ah,G,M.sub,hr.mono M.z,?_⟩;replace q:match ((g G).bind λe=>match d,e with
   |.lst N,.lst es=>aw.ok<|de N es
   |_,_=>.stuck) with
    |.ok N=>∀J r c,bC H Ha r c->RF X.K N J c->R J r
    |.exn x=>∀C ox r c,bC H Ha r c->zI X.K c x C ox->E C ox r
    |.stuck=>False:=q
  cases Y:g G with
  |stuck=>rwa[Y]at q|exn x=>rw[Y]at q;exact λC ox r c B=>q C ox r c<|M.trans B
  |ok d2=>
   rw[Y]at q;intro v2 H2 ab B r2;cases d with
   |lst N=>
    cases d2 with
    |lst es=>
     obtain⟨l,I,rfl,L,w⟩:=aF.mp<|r1.mono B.z;obtain⟨l',j,rfl,t,m⟩:=aF.mp r2;refine⟨l,l',rfl,⟨I,aE.sqL B.sub L⟩,⟨j,aE.sqL B.sub t⟩,q _ H2 ab (M.trans B) ⟨λi r c n s U=>?_,λi r c x H2 d n s hd T=>?_,λi r c n s U=>?_⟩⟩
     .rw[kK]at U
      have h1:=w.length;have h2:=m.length;exact⟨I,j,I[i]' 0#2,j[i]' 0#2,aE.sqL (n.trans s) L,aE.sqL (n.trans s) t,by simp,by simp⟩
     .obtain⟨p,y,z,hp,rfl,T,hz,rfl⟩:=T
      obtain⟨d1,d2,k1,k2,rfl⟩:=nC _ _ _ _ hd;obtain⟨u,m1,m2⟩:=w.get k1;obtain⟨u',Q,O⟩:=m.get k2;have:=T I<|aE.sqL (n.trans s) L;rw[m1]at this;cases this;have:=hz j<|aE.sqL (n.trans s) t;rw[Q]at this;cases this;exact Dg s hp<|Reps.cons (m2.mono n)<|Reps.cons (O.mono n) Reps.nil
     .rw[kK]at U
      have h1:=w.length;have h2:=m.length;exact⟨I,j,aE.sqL (n.trans s) L,aE.sqL (n.trans s) t,by omega⟩
    |_=>exact q.elim
   |_=>exact q.elim
end
def A6(f:UL):bv->ac->Option D
 |k::a,d::b=>if f=k then W1 d else A6 f a b
 |_,_=>Wp
theorem D7{K:Uv}{H:Hp}{f:UL}:∀{ks:bv}{ds:ac}{vs:ad}{d:D},ks.length=vs.length->Reps K H ds vs->A6 f ks ds=W1 d->∃v,(ks.zip vs).lookup f=W1 v/\Rep K H d v/\f∈ks
 |[],ds,vs,d,_,_,h=>by unfold A6 at h;cases h
 |k::ks,[],vs,d,_,_,h=>by unfold A6 at h;cases h
 |k::ks,x::ds,vs,d,e,r,h=>by
  obtain⟨v,l,rfl,b,a⟩:=aC.mp r;unfold A6 at h
  by_cases c:f=k
  .rw[dh c]at h
   cases h;exact⟨v,by rw[VS,VF,beq_iff_eq.mpr c],b,by rw[c];exact Uu⟩
  .rw[dV c]at h
   obtain⟨u,j,i,g⟩:=D7 (by simpa using e) a h;exact⟨u,by rw[VS,VF,beq_eq_false_iff_ne.mpr c];exact j,i,Up _ g⟩
def gI(f:UL)(x:D):aw D:=match x with
 |.ob (.ins c a) b=>match A6 f a b with
  |some d=>.ok d
  |none=>.stuck
 |_=>.stuck
section
variable {X:Cx}{E:XK}{e a b o:Vt}{es:List Vt}{fe fo:al}{fa:Ev->aw (ac)}{pos:Pos}
def jT(G:DE X E e fe)(I:Xq e f X.env (eval e X.env)=eval e X.env:=by rfl):DE X E (.Attribute e f pos) (aU fe<|gI f):=by
 refine⟨bF (N5 G.o I) λT H Q z9=>?_⟩;obtain⟨i,l,A,B,q⟩:=z9;refine⟨i,l,A,B,?_⟩;unfold aU at q;cases s:fe l with
 |stuck|exn x=>rwa[s]at q
 |ok d=>
  rw[s]at q;intro v O j r w;replace q:post X.K E H i (gI f d) Q:=q;unfold gI at q;cases d with
  |ob k t=>
   cases k with
   |ins c m=>
    replace q:post X.K E H i (match A6 f m t with|some d=>aw.ok d|none=>.stuck) Q:=q;cases g:A6 f m t with
    |none=>rw[g]at q;exact q.elim
    |some d=>
     rw[g]at q;obtain⟨p,U,rfl,⟨C,N,Y,n,M,L⟩,J⟩:=bE.mp w;obtain⟨u,z,k2,y⟩:=D7 L J g;exact⟨p,C,N,_,u,rfl,r.sub _ _ M,n.cls,n.no f y,z,q u O j r k2⟩
   |_=>exact q.elim
  |_=>exact q.elim
def putAll:bv->ad->List (UL×V)->List (UL×V)
 |f::fs,v::c,l=>putAll fs c<|jd f v l
 |_,_,l=>l
theorem Af:∀{l:List<|UL×V},f∉l.map (·.1)->jd f v l=l++[(f,v)]
 |[],_=>rfl
 |(k,x)::l,h=>by
  simp only[UB,UG,not_or]at h;unfold jd;rw[dV (λz=>h.1 z.symm),Af h.2];rfl
theorem nB:∀{fs:bv}{vs:ad}{l:List<|UL×V},fs.Nodup->(∀f∈fs,f∉l.map (·.1))->fs.length=vs.length->putAll fs vs l=l++fs.zip vs
 |[],[],l,_,_,_=>by simp[putAll]
 |[],v::vs,l,_,_,h=>by simp at h
 |f::fs,[],l,_,_,h=>by simp at h
 |f::fs,v::vs,l,nd,c,h=>by
  rw[U6]at nd;unfold putAll;rw[Af (c f Uu),nB nd.2 (λg d=>?_) (by simpa using h),VS,Xd]
  .rfl
  .simp only[U7,UB,VM,UO,UX,not_or]
   exact⟨c g (Up _ d),λz=>nd.1<|z▸d⟩
noncomputable def P6(K:Uv) (fs:bv) (j:ci):TS:=λD c H=>∃a C g l d,c[0]?=W1 (W1<|V.ref a)/\H a=W1 (.ins C g l)/\JO K C/\(∀f∈fs,fP K C f)/\l.length+fs.length<1000/\fs.length=d.length /\
 j.map (λi=>c[i]?)=d.map (λv=>W1<|W1 v)/\D.nx c (upd H a<|.ins C g<|putAll fs d l)
structure Et (X:Cx) (sts:List WE) (fs:bv) (is:ci):Prop where
 o:zE X sts (P6 X.K fs is)
def sW{a:UD}{o:HO}(h:H a=W1 o):upd H a o=H:=by
 funext b
 by_cases c:b=a
 .subst c;rw[aG,h]
 .rw[aA c]
def mB{a:UD}{o u:HO}:upd (upd H a o) a u=upd H a u:=by
 funext b
 by_cases c:b=a
 .subst c;rw[aG,aG]
 .rw[aA c,aA c,aA c]
def O1:Et X [] [] []:=⟨j9 yA λD g H ⟨a,C,r,l,c,p,f,n,m,j,d,i,q⟩=>by
 cases c with
 |nil=>
  unfold putAll at q;rwa[sW f]at q
 |cons v c=>simp at d⟩
theorem Ag:∀{l:List<|UL×V},(jd f v l).length<=l.length+1
 |[]=>by simp[jd]
 |(k,x)::l=>by
  unfold jd;split
  .simp
  .have:=Ag (f:=f) (v:=v) (l:=l)
   simp;omega
def mV{fs:bv}(Q:X.N[i]?=W1 y)(p:X.N[0]?=W1 x)(J:BX X.env.scope y)(m:BX X.env.scope x)(h:Et X j fs I)
  (O:1#y:=by decide)(n:3#y:=by decide)(hd0:1#x:=by decide)(c:3#x:=by decide)
  (L:V0 (.Name y A) (W1<|.Attribute (.Name x G) f B) pos.line X.env=pure U9:=by rfl) :
  Et X (.Assign [.Attribute (.Name x G) f B] (.Name y A) pos::j) (f::fs) (i::I):=by
 refine⟨j9 (og (NS (je p m hd0 c) (je Q J O n) L) h.o) λD Y H z9=>?_⟩;obtain⟨a,C,z,l,d,w,U,u,t,T,s,r,q⟩:=z9;cases d with
 |nil=>simp at s
 |cons v d=>
  simp only[UB,Zi]at r;simp only[UP]at T s;refine⟨v,r.1,.ref a,w,a,C,z,l,rfl,U,u,t f Uu,by omega,?_⟩;refine⟨a,C,z,_,d,w,aG,u,λg M=>t g<|Up _ M,?_,by omega,r.2,?_⟩
  .have:=Ag (f:=f) (v:=v) (l:=l)
   omega
  .rw[mB];exact q
def yp(K:Uv)(ks:bv):Sp:=λd H Q _=>∃x c C args,d=.ref x::args/\args.length=ks.length/\H x=W1 (.ins C c [])/\JO K C/\(∀f∈ks,fP K C f)/\Q .non (upd H x<|.ins C c<|ks.zip args)
def Lv{K:Uv}{st:WE}{ps:bv}(F:BU K x qual st f y)(S:eJ ps ps<|defScope st)(t:ks.Nodup)(l:ps.length=ks.length+1)(B:ks.length<500)
  (d:∀(g:Ur) (A:VD) (outer:List VI) (s0:UH) (H:Hp) (E:XK),Et (gE CX0 P w K r base ps qual (defScope st) f g A outer s0 H E).nox (defBody st) ks ((VO ks.length).map (· + 1))):gi P w K r base CX0 1 f y ps (yp K ks):=by
 refine F.ok S (λp H Q E h=>?_) λg A outer s0 H p Q E z h=>?_
 .obtain⟨x,n,C,args,rfl,j,_⟩:=h
  simp[j,l]
 .obtain⟨x,n,C,args,rfl,j,u,v,s,q⟩:=h
  refine⟨_,(d g A outer s0 H E).o,x,C,n,[],args,?_,u,v,s,by simp;omega,j.symm,?_,?_⟩
  .unfold L2.start;simp
  .unfold L2.start
   apply WT;intro i;simp only[Uw,Ve]
   by_cases m:i<ks.length
   .have c:i<args.length:=by omega
    simp[m,c,U0,Vu]
   .have c:¬i<args.length:=by omega
    simp[m,c]
  .rw[nB t 0#3 j.symm]
   exact q
def CF(c:UL)(ks:bv)(ds:ac):aw D:=if ds.length=ks.length then .ok (.ob (.ins c ks) ds) else .stuck
def Ji{k:Nat}{ps ks:bv}(M:Mk X.K C fn)(F:gi X.prog X.w X.K X.mg X.base CX0 k fn fd ps<|yp X.K ks)(g:cZ (k+1) X.A)(T:Gl X x)(O:X.mg x=W1 (.ref C))(l:VU X.K UU x=W1 (W1<|.ref C))(Y:iC X.K fd ps [])(u:Pf X.K ks C)(L:gR CX0 X E)(ha:DA X E (e::es) fa)
  (t:1#x:=by decide)(U:UJ (e::es) X.env=(U9,eval e X.env)::UJ es X.env:=by exact aW rfl)(j:(VQ pos<|UJ es X.env).any (·.1)=U9:=by exact cC rfl) :
  DE X E (.Call (.Name x p) (e::es) [] pos) (ak fa<|CF x ks):=by
 refine⟨bF (KJ M F g T O Y .nil L ha.o t U j)<|kB (r:=λd G Q=>∀x c,G x=Wp->G c=Wp->c≠x->yp X.K ks (.ref x::(d++[])) (upd (upd G c (.own x)) x (.ins C c [])) (λv H2=>v=.non/\Q (.ref x) H2) E) λds d H Ha Q N g q=>?_⟩;intro y c J s m;unfold CF at q
 by_cases n:ds.length=ks.length
 .rw[dh n]at q
  have f:d.length=ks.length:=by rw[←g.length];exact n
  refine⟨y,c,C,d,by simp,f,aG,u.cls,u.no,rfl,?_⟩;rw[mB];have i:(upd H c<|.own y) y=Wp:=by rw[aA m.symm];exact J
  have B:=bg (o:=.own y) N s;have I:=bg (o:=.ins C c<|ks.zip d) B.sub i;refine q _ _ _ (B.trans I)<|bE.mpr ⟨y,d,rfl,⟨C,c,l,u,aG,f.symm⟩,g.mono (B.trans I).z⟩
 .rw[dV n]at q;exact q.elim
def gN:ac->Option (List Int)
 |[]=>W1 []
 |.int x::r=>(gN r).map (x::·)
 |_=>Wp
theorem AQ{K:Uv}{H:Hp}:∀{ds:ac}{ys:List Int}{vs:ad}{c:List Ur},gN ds=W1 ys->Reps K H ds vs->bo vs c->IntsAre c ys
 |[],ys,vs,c,h,r,q=>by
  cases h;rw[Reps.nil_iff.mp r]at q;cases q;exact .nil
 |d::ds,ys,vs,c,h,r,q=>by
  obtain⟨v,m,rfl,j,i⟩:=aC.mp r;cases q with
  |cons f g=>
   cases d with
   |int x=>
    unfold gN at h;cases e:gN ds with
    |none=>rw[e]at h;cases h
    |some l=>
     rw[e]at h;cases h;rw[ay.mp j]at f;obtain⟨t,rfl⟩:=f;exact .cons _ _<|AQ e i g
   |_=>cases h
def QY(a:Int):List Int->List Int
 |[]=>[a]
 |b::l=>if a<=b then a::b::l else b::QY a l
def Qe:List Int->List Int
 |[]=>[]
 |a::l=>QY a<|Qe l
end
structure Ry (K:Uv) (x:UL) (ks:bv) (C:UD):Prop where
 ns:VU K UU x=W1 (W1 (.ref C))
 recC:Pf K ks C
def noL_nil{K:Uv}:∀f∈([]:bv),fP K C f:=λ_ h=>nomatch h
def noL_cons{K:Uv}(h:VW K (.ref C) f=W1 Wp)(r:∀f∈ks,fP K C f):∀g∈f::ks,fP K C g:=λg a=>by
 rcases UG.mp a with rfl|a
 .exact h
 .exact r g a
def Km{K:Uv}(ns:VU K UU x=W1 (W1<|.ref C))(o:YQ K C Str.empty=VT)(q:X2 K C=VT)(n:Zc K C=VT)(m:VW K (.ref C) "__setattr__"=W1 (W1<|.builtin "object.__setattr__"))
  (gc:VW K (.ref C) "__class__"=W1 (W1<|.builtin "object.__class__"))(r:Ys K (.builtin "object.__class__") "__get__"=W1 (W1<|.builtin "getset_descriptor.__get__"))(b:ZO K (.builtin "object.__class__")=W1 VT)(p:ZW K C (.type "object")=W1 VT)
  (l:Wv K (.ref C) (.type "NoneType")=W1 U9)(j:Wv K (.ref C) (.type "bool")=W1 U9)(i:Wv K (.ref C) (.type "int")=W1 U9)(g:Wv K (.ref C) (.type "str")=W1 U9)(e:Wv K (.ref C) (.type "tuple")=W1 U9)
  (d:Wv K (.ref C) (.type "list")=W1 U9)(c:Wv K (.ref C) (.type "dict")=W1 U9)(no:∀f∈ks,fP K C f):Ry K x ks C :=
 ⟨ns,⟨⟨o,q,n,m⟩,no,gc,r,b,p,λT a=>by
  refine Iw (qY T a) ?_;simp only[iI,UG,Xj,eo]at a;rcases a with rfl|rfl|rfl|rfl|rfl|rfl|rfl
  .exact l
  .exact j
  .exact i
  .exact g
  .exact e
  .exact d
  .exact c⟩⟩
end DL
namespace Com
open PySem L2 DL
def MR(tg:Ev->D->aw Ev)(s:am)(ρ:Ev)(ds:ac):aw Fl:=cD tg s ds ρ
def MB(d:D):aw (ac):=match d with
 |.lst a=>.ok<|numbered 0 a
 |_=>.stuck
def wX(d:D):aw (ac):=match d with
 |.lst a=>.ok a
 |_=>.stuck
def dY(n:Nat)(fr:ci)(tg:Ev->D->aw Ev)(a b:al)(ρ:Ev)(ds:ac):aw D:=if ds.length<=line then match cy (dQ n fr ρ) tg a b ds with
  |.ok c=>.ok<|.lst c
  |_=>.stuck
 else .stuck
def D6(tg:Ev->D->aw Ev)(s:am)(ρ:Ev)(d:D):aw Fl:=match d with
 |.int j=>if -4611686018427387904<=j/\j<4611686018427387904 then cD tg s (intsFrom 0 j.toNat) ρ else .stuck
 |_=>.stuck
section
variable {s t:am}{f g h:al}{src:Ev->aw (ac)}{fa:Ev->aw (ac)}{ρ r:Ev}{i j n:Nat}{d x y:D}{ds es xs:ac}{a b:Int}{tg:Ev->D->aw Ev}{tt fe:al}{fr:ci}
def pz:gJ src tg s ρ=(src ρ).bind (MR tg s ρ):=rfl
def pw:MR tg s ρ ds=cD tg s ds ρ:=rfl
def oG:lD f ρ=(f ρ).bind MB:=rfl
def lS:MB (.lst ds)=.ok (numbered 0 ds):=rfl
def zd:jy f ρ=(f ρ).bind wX:=rfl
def uL:wX (.lst ds)=.ok ds:=rfl
def sH:cG n fr src tg tt fe ρ=(src ρ).bind (dY n fr tg tt fe ρ):=rfl
def zg(h:(ds.length==ks.length)=VT):CF c ks ds=.ok (.ob (.ins c ks) ds):=dh<|eq_of_beq h
def nu(h:(ds.length==c.length)=VT):c5 c ρ (.tup ds)=.ok (eU ρ c ds):=by
 show(match (if ds.length=c.length then W1 ds else Wp) with|some ds=>aw.ok (eU ρ c ds)|none=>.stuck)=_;rw[dh (eq_of_beq h)]
def pq:tw f tg s ρ=(f<|iD ρ).bind (D6 tg s ρ):=rfl
def A3{k:Nat}(h:k<=1000000):D6 tg s ρ (.int (k:Int))=cD tg s (intsFrom 0 k) ρ:=by
 unfold D6;dsimp only;rw[dh ⟨by omega,by omega⟩,V6]
def jk:kn (.int 10) (.int 18)=.ok (.int 1000000000000000000):=rfl
def ma(c:ds.length<=1000000)(h:∀d∈ds,∃ρ1,tg (dQ n fr ρ) d=.ok ρ1/\tt ρ1=.ok (.bl VT)/\fe ρ1=.ok (F d)):dY n fr tg tt fe ρ ds=.ok (.lst<|ds.map F):=by
 unfold dY;rw[dh (show ds.length<=line from c),xK h]
theorem rz:∀{ds:ac},(∀d∈ds,∃ρ1,tg B d=.ok ρ1/\tt ρ1=.ok (.bl<|p d)/\(p d=VT->fe ρ1=.ok (F d)))->cy B tg tt fe ds=.ok ((ds.filter p).map F)
 |[],_=>rfl
 |d::ds,h=>by
  obtain⟨ρ1,q,o,m⟩:=h d Uu;have e:=rz (ds:=ds) λd l=>h d<|Up _ l;unfold cy;rw[q,FR,o,FR];cases c:p d with
  |true=>
   show(fe ρ1).bind _=_;rw[m c,FR,e,FR,ZT c];rfl
  |false=>
   show cy B tg tt fe ds=_;rw[e,ZU (by rw[c];decide)]
def md(c:ds.length<=1000000)(h:∀d∈ds,∃ρ1,tg (dQ n fr ρ) d=.ok ρ1/\tt ρ1=.ok (.bl<|p d)/\(p d=VT->fe ρ1=.ok (F d))):dY n fr tg tt fe ρ ds=.ok (.lst<|(ds.filter p).map F):=by
 unfold dY;rw[dh (show ds.length<=line from c),rz h]
end
def bnd(k:Nat):Nat:=2 ^ (201*k)
def sL{k:Nat}(h:k<=62):bnd k<p6:=by
 rw[jv];unfold bnd;exact Wx 0#1 0#2
def zF:jD<=2 ^ 200:=by decide
def BF(k:Nat):bnd (k+1)=bnd k*2 ^ 200+2 ^ 200*bnd k:=by
 unfold bnd;rw[show 201*(k+1)=201*k+201 by omega,XG];generalize 2 ^ (201*k)=z;omega
def un(s x:cu):cu:=(s.1*x.2+x.1*s.2,s.2*x.2)
structure F5 (k:Nat) (s:cu):Prop where
 pos:0<s.2
 b1:s.1.natAbs<=bnd k
 b2:s.2.natAbs<=bnd k
def F5.step{k:Nat}(h:F5 k s)(a:aV x):F5 (k+1) (un s x):=by
 have d:x.1.natAbs<=2 ^ 200:=UI (Ww a.pN) zF;have b:x.2.natAbs<=2 ^ 200:=UI (Ww a.qN) zF;have m1:=WN h.b1 b;have m2:=WN d h.b2;have c:=WN h.b2 b;refine⟨We h.pos (by have:=a.q1;omega),?_,?_⟩
 .show(s.1*x.2+x.1*s.2).natAbs<=_
  rw[BF];refine UI (Y7 _ _) ?_;rw[Vr,Vr];exact Nat.add_le_add m1 m2
 .show(s.2*x.2).natAbs<=_
  rw[BF,Vr];exact UI c<|Nat.le_add_right _ _
def F5.start:F5 0 (0,1):=⟨by decide,by decide,by decide⟩
def AD(e:0<s.2)(p:1<=x.2):dU ((dU s.1 s.2).1*x.2+x.1*(dU s.1 s.2).2) ((dU s.1 s.2).2*x.2)=dU (un s x).1 (un s x).2:=by
 have m:=eW (a:=s.1) e;have q:=iS (a:=s.1) (b:=s.2);generalize dU s.1 s.2=t at *;have f:0<t.2*x.2:=We (by have:=m.q1;omega) 0#2;have c:0<(un s x).2:=We e 0#2;have l:=eW (a:=t.1*x.2+x.1*t.2) f;have i:=iS (a:=t.1*x.2+x.1*t.2) (b:=t.2*x.2);have j:=eW (a:=(un s x).1) c;have g:=iS (a:=(un s x).1) (b:=(un s x).2);generalize dU (t.1*x.2+x.1*t.2) (t.2*x.2)=u at *;generalize dU (un s x).1 (un s x).2=v at *;refine ue l j ?_;have d:v.1*(s.2*x.2)=(s.1*x.2+x.1*s.2)*v.2:=g;have r:0<t.2*x.2*(s.2*x.2):=We f c;have:u.1*v.2*(t.2*x.2*(s.2*x.2))=v.1*u.2*(t.2*x.2*(s.2*x.2)):=by
  have o:u.1*v.2*(t.2*x.2*(s.2*x.2))=(u.1*(t.2*x.2))*v.2*(s.2*x.2):=by grind
  have n:v.1*u.2*(t.2*x.2*(s.2*x.2))=(v.1*(s.2*x.2))*u.2*(t.2*x.2):=by grind
  rw[o,n,i,d]
  grind
 exact Wj 0#2 this
def KA{k:Nat}(h:F5 k s)(p:k<=61)(c:aV x):Ij [fr<|dU s.1 s.2,fr x]=.ok (fr<|dU (un s x).1 (un s x).2):=by
 have m:=eW (a:=s.1) h.pos;have j:(dU s.1 s.2).1.natAbs<=bnd k:=UI mL h.b1;have f:(dU s.1 s.2).2.natAbs<=bnd k:=UI oq h.b2;have d:=AD h.pos c.q1;have o:F5 k (dU s.1 s.2):=⟨by have:=m.q1;omega,j,f⟩
 have e:=o.step c;rw[←d];generalize dU s.1 s.2=t at *;have b:bnd k<mw:=Uy (sL<|by omega) pY;have i:bnd (k+1)<p6:=sL 0#2;have l:x.1.natAbs<mw:=Uy c.pN dG;have g:x.2.natAbs<mw:=Uy c.qN dG;refine NG (n:=2) (ds:=[fr t,fr x]) ?_;show C4 [.sh<|fr t,.sh<|fr x]=_;unfold C4;refine Cd<|Cg ?_;refine(pM (xs:=[.int<|t.1*x.2+x.1*t.2,.int<|t.2*x.2])<|pT ?_<|pT ?_ rfl).trans ?_
 .refine(ju (x:=.int<|t.1*x.2) (y:=.int<|x.1*t.2) ?_ ?_).trans rfl
  .exact(ju (x:=.int t.1) (y:=.int x.2) rfl rfl).trans<|CA<|fg (UR j b) g
  .exact(ju (x:=.int x.1) (y:=.int t.2) rfl rfl).trans<|CA<|fg l<|UR f b
 .exact(ju (x:=.int t.2) (y:=.int x.2) rfl rfl).trans<|CA<|fg (UR f b) g
 .exact tJ e.pos (UR e.b1 i)<|UR e.b2 i
theorem zZ{L:Sl}:∀(xs:List cu) (k:Nat) (s:cu) (z:Sl),F5 k s->k+xs.length<=61->(∀x∈xs,aV x)->∃c,cD (bK 2) (aq (aH 1<|ak (af (ae 1)<|af (ae 2) ax) Ij) ao) (xs.map fr) [L,.sh<|fr<|dU s.1 s.2,z] =
  .ok (.nx [L,.sh<|fr<|dU (xs.foldl un s).1 (xs.foldl un s).2,c])/\F5 (k+xs.length) (xs.foldl un s)
 |[],k,s,z,h,_,_=>⟨z,rfl,h⟩
 |x::xs,k,s,z,h,j,d=>by
  have b:=d x Uu;simp only[UP]at j;obtain⟨c,e,a⟩:=zZ xs (k+1) (un s x) (.sh (fr x)) (h.step b) 0#2 λy i=>d y<|Up _ i;refine⟨c,?_,by rw[UP,show k+(xs.length+1)=k+1+xs.length by omega];exact a⟩;rw[UB,fX (ρ1:=[L,.sh<|fr<|dU s.1 s.2,.sh<|fr x]) (ρ2:=[L,.sh<|fr<|dU (un s x).1 (un s x).2,.sh<|fr x]) rfl]
  .exact e
  .exact GX (Cb<|(pM (xs:=[fr<|dU s.1 s.2,fr x]) rfl).trans<|KA h 0#2 b)
def qL(xs:List cu):cu:=xs.foldl un (0,1)
def rZ(d:xs.length<=61)(b:∀x∈xs,aV x):F5 xs.length (qL xs):=by
 obtain⟨c,e,a⟩:=zZ (L:=.no) xs 0 (0,1) .no F5.start 0#2 b;rwa[VR]at a
end Com
local macro_rules|`(tactic|open_line with[$xs,*])=>do
  let ns:Array Lean.Term:=("oX kQ kP oO mS nJ oN uR oR pB lX Bk u7 u6 uU oW vm oV oS lU va uT oU Bq vk vj vi uZ iV jm lY vn pE pC Bg uX uW uY oY u5 pj ph uG oF IU oM uP oK oJ oH ze lT oQ oP Be uV Bh Bb uO uN uM vb pA lZ Bm vh vg vd u4 vo u0 Bj Bi o5 oZ qo lM UB VM UP WC VG Xo V8 Wu Wd Vu Xx Xy XM Nat.reduceSub Nat.reduceAdd XN VR Yw Yn uJ u3 fY cN nM Bc uQ Ba uI uH kR mT pf pe pd pb o9 o8 decide_true decide_false Nat.reduceLeDiff Nat.reduceBEq Int.reduceBEq ei DL.dOne DL.mYes fU eN fk iu jl iq Bp Bo Bn Int.reduceLT Int.reduceLE Int.reduceSub Int.reduceAdd Int.reduceMul Int.reduceNeg o7 lV Int.reduceToNat Yx pz pw oG lS zd uL sH zg nu pq jk".splitOn " ").toArray.map fun s=>Lean.mkIdent s.toName
  let ys:=ns++xs.getElems
  `(tactic|simp only[$[$ys:term],*])
local macro_rules|`(tactic|open_line with[no_df,$xs,*])=>do
  let ns:Array Lean.Term:=("oX kQ kP oO mS nJ oN uR oR pB lX Bk u7 u6 uU oW vm oV oS lU va uT oU Bq vk vj vi uZ iV jm lY vn pE pC Bg uX uW uY oY u5 pj ph uG oF IU oM uP oK oJ oH ze lT oQ oP Be uV Bh Bb uO uN uM vb pA lZ Bm vh vg vd u4 vo u0 Bj Bi o5 oZ qo lM UB VM UP WC VG Xo V8 Wu Wd Vu Xx Xy XM Nat.reduceSub Nat.reduceAdd XN VR Yw Yn uJ u3 fY cN nM Bc uQ Ba uI uH kR mT pf pe pd pb o9 o8 decide_true decide_false Nat.reduceLeDiff Nat.reduceBEq Int.reduceBEq ei DL.dOne DL.mYes fU eN fk iu jl iq Bp Bo Bn Int.reduceLT Int.reduceLE Int.reduceSub Int.reduceAdd Int.reduceMul Int.reduceNeg o7 lV Int.reduceToNat Yx pz pw oG lS zd uL sH zg nu pq jk".splitOn " ").toArray.map fun s=>Lean.mkIdent s.toName
  let ys:=ns++xs.getElems
  `(tactic|simp -implicitDefEqProofs only[$[$ys:term],*])
namespace Com
open PySem L2 DL
noncomputable def eQ:am :=
 (aq (Sn [2,3,4]<|ae 0)
 (aq (cT (aa (ae 2) 3#0 LP)
 (aq (bh<|ak (af (aa (ae 1) (aa (ae 3) 10#0 cE) aZ)<|af 1#0 ax) fE)
 ao)
 ao)
 (aq (cT (aa (ae 2) 7#0 LP)
 (aq (bh<|ak (af (aa (ae 1) (aa (ae 3) 24#0 cE) aZ)<|af (aa 1#0 (aa (ae 4) 6#0 cE) aZ) ax) nk)
 ao)
 ao)
 (aq (bh<|ak (af (aa (ae 1) (ae 3) aZ)<|af (aa 1#0 (ae 4) aZ) ax) nk)
 ao))))
def az:ac->aw D:=bz 5 eQ
def uf(c:0<=a)(d:0<b):0<=(dU a b).1:=V9 c 0#2
def Ld(c:0<=a)(b:a<(jD:Int)):a.natAbs<p6:=Uy (show a.natAbs<jD by omega) sQ
def D4(P:Nat->Ev->Prop)(h:∀k,k<n->∀ρ,P k ρ->∃ρ2,body (ρ.set i<|.sh<|.int (k:Int))=.ok (.nx ρ2)/\P (k+1) ρ2)(f:P 0 ρ):∃ρ',cD (bK i) body (intsFrom 0 n) ρ=.ok (.nx ρ')/\P n ρ':=by
 have key:∀(m k:Nat) (ρ:Ev),k+m=n->P k ρ->∃ρ',cD (bK i) body ((intsFrom 0 n).drop k) ρ=.ok (.nx ρ')/\P n ρ':=by
  intro m
  induction m with
  |zero=>
   intro k ρ c a;have:k=n:=by omega
   subst this;rw[Iz];exact⟨ρ,rfl,a⟩
  |succ m b=>
   intro k ρ c a;obtain⟨ρ2,e,d⟩:=h k 0#2 ρ a;rw[Ft 0#2,fX (tg:=bK i) rfl e];exact b (k+1) ρ2 0#2 d
 exact key n 0 ρ 0#2 f
def jI(P:Nat->Ev->Prop)(h:∀k d,ds[k]?=W1 d->∀ρ,P k ρ->∃ρ1 ρ2,tg ρ d=.ok ρ1/\body ρ1=.ok (.nx ρ2)/\P (k+1) ρ2)(j:P 0 ρ):∃ρ',cD tg body ds ρ=.ok (.nx ρ')/\P ds.length ρ':=by
 have key:∀(m k:Nat) (ρ:Ev),k+m=ds.length->P k ρ->∃ρ',cD tg body (ds.drop k) ρ=.ok (.nx ρ')/\P ds.length ρ':=by
  intro m
  induction m with
  |zero=>
   intro k ρ e b;have:k=ds.length:=by omega
   subst this;rw[List.drop_length];exact⟨ρ,rfl,b⟩
  |succ m c=>
   intro k ρ e b;have a:k<ds.length:=by omega
   obtain⟨ρ1,ρ2,i,g,f⟩:=h k ds[k] (Uq a) ρ b;rw[V2 a,fX i g];exact c (k+1) ρ2 0#2 f
 exact key ds.length 0 ρ 0#2 j
structure Drawn (sz vs:List Int):Prop where
 len:vs.length=sz.length
 bnd:∀(i:Nat) (v s:Int),vs[i]?=W1 v->sz[i]?=W1 s->0<=v/\v<s
def Drawn.at{sz vs:List Int}(W:Drawn sz vs)(i:Nat)(h:sz[i]?=W1 s):∃v,vs[i]?=W1 v/\(0<=v/\v<s)/\aB (.lst<|vs.map D.int) (.int (i:Int))=.ok (.int v):=by
 have a:i<vs.length:=by rw[W.len];exact(Uz.mp h).1
 refine⟨vs[i],Uq a,W.bnd i _ _ (Uq a) h,dJ ?_⟩;rw[Uw,Uq a];rfl
def Drawn.ix{sz vs:List Int}(W:Drawn sz vs)(k:Int)(i:Nat)(a:k=(i:Int))(h:sz[i]?=W1 s):∃v,vs[i]?=W1 v/\(0<=v/\v<s)/\aB (.lst<|vs.map D.int) (.int k)=.ok (.int v):=by
 subst a;exact W.at i h
def Md:("abcdefghijklmnopqrstuvwxyz" : UL).cps.toList=(VO 26).map (97 + ·):=by decide +kernel
def C8:∀n,n<26->uy (97+n)=VT:=by decide +kernel
def C7(b:0<=v)(d:v<26):aB (.str "abcdefghijklmnopqrstuvwxyz") (.int v)=.ok (.str ⟨#[97+v.toNat]⟩):=by
 obtain⟨n,rfl⟩:=Vm b;have a:n<26:=by omega
 have e:atI ("abcdefghijklmnopqrstuvwxyz" : UL).cps.toList ((n:Nat):Int)=W1 (97+n):=gZ (by rw[Md];simp[a]);show(if("abcdefghijklmnopqrstuvwxyz" : UL).length<=line then(match atI ("abcdefghijklmnopqrstuvwxyz" : UL).cps.toList ((n:Nat):Int) with|some c=>aw.ok (D.str ⟨#[c]⟩)|none=>.stuck) else .stuck)=_;rw[dh 0#1,e];rfl
theorem DY:∀cs:ci,Str.join "" (cs.map λc=>(⟨#[c]⟩:UL))=⟨cs.toArray⟩
 |[]=>rfl
 |[c]=>rfl
 |c::d::cs=>by
  show(⟨#[c]⟩:UL)++""++Str.join "" ((d::cs).map λc=>(⟨#[c]⟩:UL))=_;rw[DY (d::cs)];apply Str.ext';show(#[c]++("" : UL).cps)++(d::cs).toArray=_;have:("" : UL).cps=#[]:=rfl;rw[this];simp
theorem Dk:∀cs:ci,jQ (cs.map λc=>D.str ⟨#[c]⟩)=W1 (cs.map λc=>(⟨#[c]⟩:UL))
 |[]=>rfl
 |c::cs=>by
  show(jQ<|cs.map λc=>D.str ⟨#[c]⟩).map _=_;rw[Dk cs];rfl
def CK{cs:ci}(h:cs.length<=1000):uv "" [.lst<|cs.map λc=>D.str ⟨#[c]⟩]=.ok (.str ⟨cs.toArray⟩):=by
 have OQ:jG "" (cs.map λc=>(⟨#[c]⟩:UL))=VT:=by
  unfold jG;have e:((cs.map λc=>(⟨#[c]⟩:UL)).map (·.length)).sum=cs.length:=by
   clear h
   induction cs with
   |nil=>rfl
   |cons c cs b=>
    simp only[UB,WL,UP,b];show 1+cs.length=_;omega
  rw[e,US];exact⟨by decide,dg (by rw[Ut];omega)⟩
 show(match jQ (cs.map λc=>D.str ⟨#[c]⟩) with|some a=>if jG "" a=VT then aw.ok (D.str<|Zr "" a) else .stuck|none=>.stuck)=_;rw[Dk];show(if jG "" _=VT then aw.ok (D.str<|Zr "" _) else .stuck)=_;rw[dh OQ];show aw.ok (D.str<|Builtin.Str.glued "" _)=_;rw[StrLaws.glued_eq_join,DY]
def sY{cs:ci}(a:b<=cs.length):XA ⟨cs.toArray⟩ Wp (W1 (b:Int))=⟨(cs.take b).toArray⟩:=by
 have:=StrLaws.sliceText_to (x:=⟨cs.toArray⟩) (j:=(b:Int)) ⟨by omega,by simpa using a⟩;refine Eq.trans this ?_;simp
structure pV (zs:bv):Prop where
 nd:zs.Nodup
 nm:∀z∈zs,nameB z=VT
def BK(h:x.length+y.length<=1000):aZ (.str x) (.str y)=.ok (.str<|x++y):=dh (UI h<|by decide)
def xI(a b:ci):(⟨a.toArray⟩:UL)++⟨b.toArray⟩=⟨(a++b).toArray⟩:=by
 apply Str.ext';show a.toArray++b.toArray=_;simp
def O7(a:ci):(⟨a.toArray⟩:UL).length=a.length:=by show a.toArray.size=_;simp
def Dl{l h:Option Int}(a:z.length<=1000):EK (.str z) l h=.ok (.str<|XA z l h):=by
 show(if z.length<=line then _ else _)=_;rw[dh (UI a<|by decide)]
structure fQ where
 a:UL
 b:UL
 w:UL
 l:cu
 o:Option cu
def cS:Option cu->D
 |none=>.non
 |some x=>fr x
def aX(t:fQ):D:=.tup [.str t.a,.str t.b,.str t.w,fr t.l,cS t.o]
structure ny (zs:bv) (t:fQ):Prop where
 a:t.a∈zs
 b:t.b∈zs
 ne:t.a≠t.b
 w:t.w="one"∨t.w="both"
 l:aV t.l
 l0:0<=t.l.1
 o:∀x,t.o=W1 x->aV x/\0<x.1
def Dh{d:Type}{vs:List d}{a b c:d}(g:vs[i]?=W1 a)(f:vs[i+1]?=W1 b)(e:vs[i+2]?=W1 c):(vs.drop i).take 3=[a,b,c]:=by
 apply WT;intro j;rcases j with _|_|_|j
 .rw[VE 0#1,VY];simpa using g
 .rw[VE 0#1,VY];simpa using f
 .rw[VE 0#1,VY];simpa using e
 .rw[V7 (by simp;omega)];simp
def vx{vs:List Int}{a b:Nat}(e:x=(a:Int))(d:y=(b:Int))(h:b<=vs.length)(c:a<=b):jA (vs.map D.int) (W1 x) (W1 y)=((vs.drop a).take<|b-a).map D.int:=by
 subst e d;rw[iW,HT.sIx_nat,HT.sIx_nat,X8 h,X8<|UI c h]
def Rm{vs:List Int}{i:Nat}(f:x=(i:Int))(e:y=((i+3:Nat):Int))(l:vs[i]?=W1 a)(j:vs[i+1]?=W1 b)(d:vs[i+2]?=W1 c):jA (vs.map D.int) (W1 x) (W1 y)=[.int a,.int b,.int c]:=by
 have g:i+3<=vs.length:=by have:=(Uz.mp d).1;omega
 rw[vx f e g 0#2,show i+3-i=3 by omega,Dh l j d];rfl
def GK{zs:bv}{k:Int}(b:0<=k)(c:k<zs.length):∃z,zs[k.toNat]?=W1 z/\aB (.lst<|zs.map D.str) (.int k)=.ok (.str z):=by
 obtain⟨n,rfl⟩:=Vm b;have a:n<zs.length:=by omega
 refine⟨zs[n],by simp[a],dJ ?_⟩;rw[Uw,Uq a];rfl
def J3{k:Int}(b:0<=k)(a:k<2):∃z:UL,(z="one"∨z="both")/\aB (.lst [.str "one",.str "both"]) (.int k)=.ok (.str z):=by
 have:k=0∨k=1:=by omega
 rcases this with rfl|rfl
 .exact⟨_,.inl rfl,kR⟩
 .exact⟨_,.inr rfl,mT⟩
def xV{n d e:Int}(a:2<=n)(g:0<=d)(f:d<n)(c:0<=e)(b:e<n-1):(0<=(d+1+e).fmod n/\(d+1+e).fmod n<n)/\(d+1+e).fmod n≠d:=by
 refine⟨dM 0#2,?_⟩;rw[Yj _ 0#2]
 by_cases h:d+1+e<n
 .rw[Int.emod_eq_of_lt 0#2 h];omega
 .have:(d+1+e) % n=d+1+e-n:=by
   rw[←Int.sub_emod_right (d+1+e) n,Int.emod_eq_of_lt 0#2<|by omega]
  rw[this];omega
def Ax{b:Type}{zs:List b}(nd:zs.Nodup){i j:Nat}{x y:b}(hi:zs[i]?=W1 x)(c:zs[j]?=W1 y)(a:i≠j):x≠y:=by
 intro e;subst e;obtain⟨l,f⟩:=Uz.mp hi;obtain⟨g,d⟩:=Uz.mp c;exact a<|(Yz nd).mp<|f.trans d.symm
def rH:am :=
 (aq (bh<|eG (ak (af (ae 0) ax) m_is_ratio)<|aa (aa (ae 0) 0#0 aB) 0#0 O5)
 ao)
def m_is_length:ac->aw D:=bz 1 rH
def vJ:am :=
 (aq (bh<|lz (aa (ae 0) 0#4 wz)<|eG (ak (af (ae 0) ax) m_is_ratio)<|aa (aa (ae 0) 0#0 aB) 0#0 CY)
 ao)
def m_is_worth:ac->aw D:=bz 1 vJ
noncomputable def BI:am :=
 (aq (cT (lz (cM<|aU (ae 0)<|kq "tuple")<|aa (ak (af (ae 0) ax)<|m1 dP) 5#0 iM)
 (aq (bh<|dC<|.bl U9)
 ao)
 ao)
 (aq (cT (lz (cM<|ak (af (aa (ae 0) 0#0 aB) ax) m_is_name)<|lz (cM<|ak (af (aa (ae 0) 1#0 aB) ax) m_is_name)<|aa (aa (ae 0) 0#0 aB) (aa (ae 0) 1#0 aB) gD)
 (aq (bh<|dC<|.bl U9)
 ao)
 ao)
 (aq (cT (lz (cM<|aU (aa (ae 0) 2#0 aB)<|kq "str")<|aa (aa (ae 0) 2#0 aB) (dC<|.tup [(.str "one"),(.str "both")]) bL)
 (aq (bh<|dC<|.bl U9)
 ao)
 ao)
 (aq (bh<|eG (ak (af (aa (ae 0) 3#0 aB) ax) m_is_length)<|ak (af (aa (ae 0) 4#0 aB) ax) m_is_worth)
 ao))))
def m_is_tie:ac->aw D:=bz 1 BI
noncomputable def kz:am :=
 (aq (cT (lz (cM<|aU (ae 0)<|kq "list")<|cM<|jU LQ LQ 2#0 (ak (af (ae 0) ax)<|m1 dP)<|dC<|.int 7)
 (aq dI
 ao)
 ao)
 (aq (gJ (lD<|ae 0) (c5 [1,2])
 (aq (cT (lz (cM<|ak (af (ae 2) ax) m_is_name)<|aa (ae 2) (fJ (ae 0) eV<|bS<|ae 1) vY)
 (aq dI
 ao)
 ao)
 ao))
 ao))
def m_look_at_places:ac->aw D:=bz 3 kz
noncomputable def ml:am :=
 (aq (cT (lz (cM<|aU (ae 0)<|kq "list")<|aa (ak (af (ae 0) ax)<|m1 dP) 14#0 CY)
 (aq dI
 ao)
 ao)
 (aq (gJ (lD<|ae 0) (c5 [2,3])
 (aq (cT (lz (cM<|ak (af (ae 3) ax) m_is_tie)<|lz (aa (aa (ae 3) 0#0 aB) (ae 1) bL)<|aa (aa (ae 3) 1#0 aB) (ae 1) bL)
 (aq dI
 ao)
 ao)
 ao))
 ao))
def m_look_at_ties:ac->aw D:=bz 4 ml
def vK:am :=
 (aq (bh<|eG (ak (af (ae 0) ax) m_is_name)<|aa (ae 0) (ae 1) vY)
 ao)
def m_is_place:ac->aw D:=bz 2 vK
noncomputable def gX:am :=
 (aq (cT (lz (cM<|aU (ae 0)<|kq "tuple")<|aa (ak (af (ae 0) ax)<|m1 dP) 4#0 iM)
 (aq dI
 ao)
 ao)
 (aq (ff<|ak (af (aa (ae 0) 0#0 aB) ax) m_look_at_places)
 (aq (ff<|ak (af (aa (ae 0) 1#0 aB)<|af (aa (ae 0) 0#0 aB) ax) m_look_at_ties)
 (aq (cT (cM<|ak (af (aa (ae 0) 2#0 aB)<|af (aa (ae 0) 0#0 aB) ax) m_is_place)
 (aq dI
 ao)
 ao)
 (aq (cT (lz (cM<|ak (af (aa (ae 0) 3#0 aB)<|af (aa (ae 0) 0#0 aB) ax) m_is_place)<|aa (aa (ae 0) 3#0 aB) (aa (ae 0) 2#0 aB) gD)
 (aq dI
 ao)
 ao)
 ao)))))
def m_look_at_web:ac->aw D:=bz 1 gX
def lr:am :=
 (aq (bh<|eG (ak (af (ae 1) ax) m_is_whole)<|jU LQ LP 0#0 (ae 1)<|ak (af (aa (ae 0) 1#0 aB) ax)<|m1 dP)
 ao)
def m_is_tie_number:ac->aw D:=bz 2 lr
noncomputable def cV:am :=
 (aq (ff<|ak (af (ae 0) ax) m_look_at_web)
 (aq (cT (cM<|aU (ae 1)<|kq "list")
 (aq dI
 ao)
 ao)
 (aq (aH 2<|aU 1#0 ko)
 (aq (kI (ae 1) (bK 3)
 (aq (cT (lz (cM<|ak (af (ae 0)<|af (ae 3) ax) m_is_tie_number)<|aa (ae 3) (ae 2) LQ)
 (aq dI
 ao)
 ao)
 (aq (cT (aa (aa (aa (aa (ae 0) 1#0 aB) (ae 3) aB) 4#0 aB) 0#4 wz)
 (aq dI
 ao)
 ao)
 (aq (aH 2<|ae 3)
 ao))))
 ao))))
def m_look_at_taking:ac->aw D:=bz 4 cV
structure iE where
 ps:bv
 ts:List fQ
 fi:UL
 la:UL
def aN(w:iE):D:=.tup [.lst<|w.ps.map D.str,.lst<|w.ts.map aX,.str w.fi,.str w.la]
structure cF (w:iE):Prop where
 n2:2<=w.ps.length
 n7:w.ps.length<=7
 nm:pV w.ps
 t14:w.ts.length<=14
 ts:∀t∈w.ts,ny w.ps t
 fi:w.fi∈w.ps
 la:w.la∈w.ps
 ne:w.fi≠w.la
def mK(h:nameB z=VT):m_is_name [.str z]=.ok (.bl VT):=by
 have a:z.length<=8:=by
  unfold nameB at h;simp only[US,eu]at h;exact h.2.1
 rw[CL (show OQ (.str z)=VT from dg<|UI a<|by decide)];show aw.ok (D.bl<|nameB z)=_;rw[h]
def tI(h:Low x):m_is_ratio [fr x]=.ok (.bl VT):=by
 rw[ou];show aw.ok (D.bl<|kJ<|.tup [.int x.1,.int x.2])=_;have b:=h.q1;have a:=h.g1;show aw.ok (D.bl (decide (1<=x.2)&&(Vc x.1 x.2==1)))=_;rw[dg b,a];rfl
def lO(h:Low x)(b:0<=x.1):m_is_length [fr x]=.ok (.bl VT):=by
 have e:fr x=.tup [.int x.1,.int x.2]:=rfl;have a:=tI h;rw[e]at a ⊢;erw[m_is_length,rH,a,dg b,dg (show x.1≥0 from b)]
def BZ(h:∀x,o=W1 x->Low x/\0<x.1):m_is_worth [cS o]=.ok (.bl VT):=by
 cases o with
 |none=>rfl
 |some x=>
  obtain⟨b,c⟩:=h x rfl;have e:cS (W1 x)=.tup [.int x.1,.int x.2]:=rfl;have a:=tI b;rw[show fr x=.tup [.int x.1,.int x.2] from rfl]at a;rw[e];erw[m_is_worth,vJ,a,dg c]
def sI:gD (.str x) (.str y)=.ok (.bl<|x==y):=by unfold gD;rw[dh ⟨rfl,rfl⟩,du]
def GB(nm:pV zs)(h:ny zs t):m_is_tie [aX t]=.ok (.bl VT):=by
 obtain⟨a,b,w,l,o⟩:=t;obtain⟨m,j,c,hw,i,d,g⟩:=h;have u:=mK<|nm.nm a m;have s:=mK<|nm.nm b j;have r:=lO i.toLow d;have q:=BZ (o:=o) λx f=>⟨(g x f).1.toLow,(g x f).2⟩
 have p:(a==b)=U9:=beq_eq_false_iff_ne.mpr c;have n:bL (.str w) (.tup [.str "one",.str "both"])=.ok (.bl U9):=by
  rcases hw with rfl|rfl<;>rfl
 have e:aX ⟨a,b,w,l,o⟩=.tup [.str a,.str b,.str w,fr l,cS o]:=rfl;rw[e];erw[m_is_tie,BI,u,s,sI,p,n,r,q]
def En{zs:bv}:(zs.map D.str).any (λd=>du d<|.str z)=decide (z∈zs):=by
 induction zs with
 |nil=>rfl
 |cons y zs a=>
  rw[UB,WU,a];show((y==z)||decide (z∈zs))=_
  by_cases h:y=z
  .subst h;simp
  .have:(y==z)=U9:=beq_eq_false_iff_ne.mpr h
   rw[this,YO];have:z∈y::zs↔z∈zs:=by simp[Vw h]
   exact decide_eq_decide.mpr this.symm
def wY{zs:bv}:(zs.map D.str).all (br n)=VT:=Vd.mpr λd a=>by
 obtain⟨z,_,rfl⟩:=UK.mp a;cases n<;>rfl
def mM{zs:bv}:vY (.str z) (.lst<|zs.map D.str)=.ok (.bl (decide (z∈zs))):=by
 have e:D0 (.str z) (.lst<|zs.map D.str)=W1 (decide (z∈zs)):=(dh ⟨rfl,wY⟩).trans<|en W1 En;unfold vY;rw[e]
def gM{zs:bv}:bL (.str z) (.lst<|zs.map D.str)=.ok (.bl (!(decide (z∈zs)))):=by
 have e:D0 (.str z) (.lst<|zs.map D.str)=W1 (decide (z∈zs)):=(dh ⟨rfl,wY⟩).trans<|en W1 En;unfold bL;rw[e]
def tO{zs:bv}(h:nameB z=VT)(a:z∈zs):m_is_place [.str z,.lst<|zs.map D.str]=.ok (.bl VT):=by
 erw[m_is_place,vK,mK h,mM,dg a]
def iQ{a:Type}{F:a->D}{xs:List a}{k:Nat}(h:(numbered 0<|xs.map F)[k]?=W1 d):∃x,xs[k]?=W1 x/\d=.tup [.int (k:Int),F x]:=by
 rw[cU,Uw]at h;cases e:xs[k]? with
 |none=>rw[e]at h;cases h
 |some x=>
  rw[e]at h;cases h;exact⟨x,rfl,by simp⟩
def O6{a:Type}{F:a->D}{xs:List a}{k:Nat}(h:k<=xs.length):jA (xs.map F) Wp (W1 (k:Int))=(xs.take k).map F:=by
 rw[iW,HT.sIx_none,HT.sIx_nat,X8 h,Zt,XM]
def EZ(u:2<=zs.length)(t:zs.length<=7)(nm:pV zs):m_look_at_places [.lst<|zs.map D.str]=.ok .non:=by
 obtain⟨l,n,_⟩:=jI (ds:=numbered 0<|zs.map D.str) (tg:=c5 [1,2]) (ρ:=[.sh<|.lst<|zs.map D.str,.no,.no])
  (body:=(aq (cT (lz (cM<|ak (af (ae 2) ax) m_is_name)<|aa (ae 2) (fJ (ae 0) eV<|bS<|ae 1) vY) (aq dI ao) ao) ao))
  (λk e=>∃a b,e=[.sh<|.lst<|zs.map D.str,a,b]) (by
   rintro k d p e ⟨a,b,rfl⟩;obtain⟨z,f,rfl⟩:=iQ p;refine⟨_,[.sh<|.lst<|zs.map D.str,.sh<|.int (k:Int),.sh<|.str z],nu rfl,?_,_,_,rfl⟩;have o:k<zs.length:=(Uz.mp f).1;have c:decide (z∈zs.take k)=U9:=dy λm=>by
    obtain⟨j,i⟩:=sae.mp m;have g:j<k:=by have:=(Uz.mp i).1;simp at this;omega
    rw[VE g]at i;exact Ax nm.nd i f 0#2 rfl
   erw[mK (nm.nm z<|UM f),O6<|Ww o,mM,c]) ⟨.no,.no,rfl⟩
 have r:decide ((2:Int)<=(zs.length:Int))=VT:=dg 0#2;have q:decide ((zs.length:Int)<=7)=VT:=dg 0#2;erw[m_look_at_places,kz,Ut,r,q,n]
def J9{ts:List fQ}(p:ts.length<=14)(nm:pV zs)(j:∀t∈ts,ny zs t):m_look_at_ties [.lst<|ts.map aX,.lst<|zs.map D.str]=.ok .non:=by
 obtain⟨i,m,_⟩:=jI (ds:=numbered 0<|ts.map aX) (tg:=c5 [2,3]) (ρ:=[.sh<|.lst<|ts.map aX,.sh<|.lst<|zs.map D.str,.no,.no])
  (body:=(aq (cT (lz (cM<|ak (af (ae 3) ax) m_is_tie)<|lz (aa (aa (ae 3) 0#0 aB) (ae 1) bL)<|aa (aa (ae 3) 1#0 aB) (ae 1) bL) (aq dI ao) ao) ao))
  (λk c=>∃a b,c=[.sh<|.lst<|ts.map aX,.sh<|.lst<|zs.map D.str,a,b]) (by
   rintro k d n c ⟨a,b,rfl⟩;obtain⟨t,e,rfl⟩:=iQ n;refine⟨_,[.sh<|.lst<|ts.map aX,.sh<|.lst<|zs.map D.str,.sh<|.int (k:Int),.sh<|aX t],nu rfl,?_,_,_,rfl⟩;have f:=j t<|UM e;have g:=GB nm f;rw[show aX t=.tup [.str t.a,.str t.b,.str t.w,fr t.l,cS t.o] from rfl]at g ⊢;erw[g,gM,dg f.a,dg f.b]) ⟨.no,.no,rfl⟩
 have q:decide ((14:Int)<(ts.length:Int))=U9:=dy 0#2;erw[m_look_at_ties,ml,Ut,q,dy (show ¬(ts.length:Int) > 14 by omega),m]
def yh(h:cF w):m_look_at_web [aN w]=.ok .non:=by
 obtain⟨ps,c,b,a⟩:=w;have i:=EZ h.n2 h.n7 h.nm;have g:=J9 h.t14 h.nm h.ts;have f:=tO (h.nm.nm b h.fi) h.fi;have e:=tO (h.nm.nm a h.la) h.la;have d:(a==b)=U9:=beq_eq_false_iff_ne.mpr<|Vw h.ne;rw[show aN ⟨ps,c,b,a⟩=.tup [.lst<|ps.map D.str,.lst<|c.map aX,.str b,.str a] from rfl];erw[m_look_at_web,gX,i,g,f,e,sI,d]
noncomputable def lq:am :=
 (aq (aH 1<|dC<|.int 1)
 (aq (kI (ae 0) (bK 2)
 (aq (aH 1<|aa (aa (ae 1) (ak (af (ae 1)<|af (aa (ae 2) 1#0 aB) ax) m_common_divisor) kY) (aa (ae 2) 1#0 aB) bf)
 ao))
 (aq (bh<|ae 1)
 ao)))
def m_shared_bottom:ac->aw D:=bz 3 lq
def vL:am :=
 (aq (bh<|aa (aa (ae 0) 0#0 aB) (aa (ae 1) (aa (ae 0) 1#0 aB) kY) bf)
 ao)
def m_as_whole:ac->aw D:=bz 2 vL
noncomputable def mj:am :=
 (aq (aH 1<|ak (af (cG 1 [] (jy<|ae 0) (bK 0) (aa (ae 0) 0#4 l7)<|ae 0) ax) m_shared_bottom)
 (aq (bh<|ak (af (cG 1 [1] (jy<|ae 0) (bK 0) mYes<|JL (aa (ae 0) 0#4 wz) 0#4<|ak (af (ae 0)<|af (ae 1) ax) m_as_whole)<|af (ae 1) ax) fE)
 ao))
def m_on_one_scale:ac->aw D:=bz 2 mj
def aQ(ks:ci):D:=.lst<|ks.map λ(k:Nat)=>D.int (k:Int)
structure rN (w:iE) (ks:ci):Prop where
 up:ks.Pairwise (· < ·)
 wo:∀k∈ks,∃t x,w.ts[k]?=W1 t/\t.o=W1 x
def rN.lt(T:rN w ks):∀k∈ks,k<w.ts.length:=λk a=>by
 obtain⟨t,x,b,c⟩:=T.wo k a;exact(Uz.mp b).1
def GC{w:iE}{k:Nat}(h:w.ts[k]?=W1 t):aB (.lst<|w.ts.map aX) (.int (k:Int))=.ok (aX t):=dJ (by rw[Uw,h];rfl)
def Av{k:Nat}(h:k<w.ts.length):m_is_tie_number [aN w,.int (k:Int)]=.ok (.bl VT):=by
 rw[show aN w=.tup [.lst<|w.ps.map D.str,.lst<|w.ts.map aX,.str w.fi,.str w.la] from rfl];erw[m_is_tie_number,lr,il,Pt,Ut,dg (show(0:Int)<=(k:Int) by omega),dg (show(k:Int)<(w.ts.length:Int) by omega)]
def wR(W:cF w)(T:rN w ks):m_look_at_taking [aN w,aQ ks]=.ok .non:=by
 obtain⟨u,r,_⟩:=jI (ds:=ks.map λ(k:Nat)=>D.int (k:Int)) (tg:=bK 3) (ρ:=[.sh<|aN w,.sh<|aQ ks,.sh<|.int (-1),.no])
  (body:=(aq (cT (lz (cM<|ak (af (ae 0)<|af (ae 3) ax) m_is_tie_number)<|aa (ae 3) (ae 2) LQ)
   (aq dI ao) ao)
   (aq (cT (aa (aa (aa (aa (ae 0) 1#0 aB) (ae 3) aB) 4#0 aB) 0#4 wz)
   (aq dI ao) ao)
   (aq (aH 2<|ae 3) ao))))
  (λj n=>∃(m:Int) (x:Sl),n=[.sh<|aN w,.sh<|aQ ks,.sh<|.int m,x]/\∀v∈ks.drop j,m<(v:Int)) (by
   rintro j d i n ⟨m,x,rfl,p⟩;rw[Uw]at i;cases e:ks[j]? with
   |none=>rw[e]at i;cases i
   |some k=>
    rw[e]at i;cases i;have s:j<ks.length:=(Uz.mp e).1;have c:=UM e;obtain⟨t,y,C,B⟩:=T.wo k c;have g:ks.drop j=k::ks.drop (j+1):=by
     rw[V2 s]
     congr 1
     rw[Uq s]at e;exact Vp e
    have G:m<(k:Int):=p k (by rw[g];exact Uu);refine⟨_,[.sh (aN w),.sh (aQ ks),.sh (.int (k:Int)),.sh (.int (k:Int))],rfl,?_,_,_,rfl,λv z=>?_⟩
    .have q:=Av (T.lt k c)
     have f:=GC C;rw[show aN w=.tup [.lst<|w.ps.map D.str,.lst<|w.ts.map aX,.str w.fi,.str w.la] from rfl]at q ⊢;rw[show aX t=.tup [.str t.a,.str t.b,.str t.w,fr t.l,cS t.o] from rfl,B]at f;erw[q,dy (show ¬(k:Int)<=m by omega),f,cS,fr,Lu]
    .have A:(k::ks.drop (j+1)).Pairwise (· < ·):=by rw[←g];exact T.up.sublist (List.drop_sublist _ _)
     have:=(List.pairwise_cons.mp A).1 v z;omega) ⟨-1,.no,rfl,λv _=>by omega⟩
 have hw:=yh W;unfold aQ at r ⊢;erw[m_look_at_taking,cV,hw,r]
def GA:qL (xs++[x])=un (qL xs) x:=by unfold qL;rw[List.foldl_append];rfl
def AN(d:x.1.natAbs<mw)(c:x.2.natAbs<mw)(b:y.1.natAbs<mw)(a:y.2.natAbs<mw):m_is_less [fr x,fr y]=.ok (.bl<|flt x y):=by
 rw[show fr x=.tup [.int x.1,.int x.2] from rfl,show fr y=.tup [.int y.1,.int y.2] from rfl];erw[m_is_less,xS,dB<|fg d a,dB<|fg b c]
 rfl
def gK(b:Int)(x:cu):Int:=b / (Vc b x.2:Int)*x.2
def bT(xs:List cu):Int:=xs.foldl gK 1
structure yc (k:Nat) (b:Int):Prop where
 pos:0<b
 bd:b.natAbs<=2 ^ (200*k)
def yC{k:Nat}(h:k<=60):2 ^ (200*k)<p6:=by rw[jv];exact Wx 0#1 0#2
def AX(h:b≠0):0<(Vc a b:Int):=sG h
def yc.step{k:Nat}(h:yc k b)(f:aV x):yc (k+1) (gK b x)/\b∣gK b x/\x.2∣gK b x:=by
 have n:=f.q1;have o:0<(Vc b x.2:Int):=AX 0#2;have i:(Vc b x.2:Int)∣b:=XY ..;have a:(Vc b x.2:Int)∣x.2:=XO ..;have l:0<b / (Vc b x.2:Int):=Zv h.pos 0#2 i;refine⟨⟨We l 0#2,?_⟩,?_,⟨b / (Vc b x.2:Int),by unfold gK;rw[Xl]⟩⟩
 .unfold gK
  rw[Vr,show 200*(k+1)=200*k+200 by omega,XG];refine WN (UI (V3 _ _) h.bd)<|UI (Ww f.qN) zF
 .obtain⟨c,j⟩:=i
  obtain⟨d,e⟩:=a;refine⟨d,?_⟩;unfold gK;generalize (Vc b x.2:Int)=g at *;have m:b / g=c:=by rw[j];exact Vx c 0#2
  rw[m,e,j,←ZL,Xl c g]
def zt{xs:List cu}(c:∀x∈xs,aV x):∀(b:Int) (k:Nat),yc k b->yc (k+xs.length) (xs.foldl gK b)/\b∣xs.foldl gK b/\∀x∈xs,x.2∣xs.foldl gK b:=by
 induction xs with
 |nil=>intro b k h;exact⟨h,Int.dvd_refl b,λx c=>nomatch c⟩
 |cons x xs f=>
  intro b k h;obtain⟨j,i,g⟩:=h.step<|c x Uu;obtain⟨e,k2,d⟩:=f (λy a=>c y<|Up _ a) _ _ j;refine⟨?_,XZ i k2,λy a=>?_⟩
  .rw[UP,show k+(xs.length+1)=k+1+xs.length by omega];exact e
  .rcases UG.mp a with rfl|a
   .exact XZ g k2
   .exact d y a
def Jr{L:Sl}:∀(xs:List cu) (k:Nat) (b:Int) (z:Sl),yc k b->k+xs.length<=60->(∀x∈xs,aV x)->∃d,cD (bK 2) (aq (aH 1<|aa (aa (ae 1) (ak (af (ae 1)<|af (aa (ae 2) 1#0 aB) ax) m_common_divisor) kY) (aa (ae 2) 1#0 aB) bf) ao) (xs.map fr) [L,.sh<|.int b,z] =
  .ok (.nx [L,.sh<|.int<|xs.foldl gK b,d]):=by
 intro xs
 induction xs with
 |nil=>intro k b z _ _ _;exact⟨z,rfl⟩
 |cons x xs j=>
  intro k b z h m f;have a:=f x Uu;have p:=a.q1;obtain⟨o,r,q⟩:=h.step a;simp only[UP]at m;obtain⟨d,e⟩:=j (k+1) _ (.sh<|fr x) o 0#2<|λy l=>f y<|Up _ l;refine⟨d,?_⟩;have n:0<(Vc b x.2:Int):=AX 0#2;have hdiv:iw b (Vc b x.2:Int)=VT:=qr 0#2 (UR h.bd<|yC<|by omega);have c:(b / (Vc b x.2:Int)).natAbs<p6:=UR (UI (V3 _ _) h.bd) (yC<|by omega);have hmul:dj (b / (Vc b x.2:Int)) x.2=VT:=fg (Uy c pY)<|Uy a.qN dG;rw[UB,fX (ρ1:=[L,.sh<|.int b,.sh<|fr x]) (ρ2:=[L,.sh<|.int<|gK b x,.sh<|fr x]) rfl ?_]
  .exact e
  .rw[show fr x=.tup [.int x.1,.int x.2] from rfl]
   erw[mX,vc hdiv,kj n,dB hmul]
   rfl
def FQ(d:xs.length<=60)(b:∀x∈xs,aV x):m_shared_bottom [.lst<|xs.map fr]=.ok (.int<|bT xs):=by
 obtain⟨c,a⟩:=Jr (L:=.sh<|.lst<|xs.map fr) xs 0 1 .no ⟨by decide,by decide⟩ 0#2 b;erw[m_shared_bottom,lq,a]
 rfl
def wI(b:Int):Option cu->D
 |none=>.non
 |some x=>.int<|x.1*(b / x.2)
def ic(os:List<|Option cu):List cu:=os.filterMap id
def Fe{os:List<|Option cu}:x∈ic os↔W1 x∈os:=by unfold ic;simp
def Gn(a:aV x)(c:b.natAbs<p6):m_as_whole [fr x,.int b]=.ok (.int<|x.1*(b / x.2)):=by
 have d:=a.q1;have hdiv:iw b x.2=VT:=MW 0#2<|Uy a.qN Ph;have hmul:dj x.1 (b / x.2)=VT:=fg (Uy a.pN dG)<|Uy (UR (V3 _ _) c) pY;rw[show fr x=.tup [.int x.1,.int x.2] from rfl];erw[m_as_whole,vL,vc hdiv,kj (show 0<x.2 by omega),dB hmul]
theorem kH:∀os:List<|Option cu,(os.map cS).filter (λd=>!(xA d))=(ic os).map fr
 |[]=>rfl
 |none::os=>by
  rw[UB,ZU 0#1,kH os];rfl
 |some x::os=>by
  have:xA (cS<|W1 x)=U9:=rfl;rw[UB,ZT (by rw[this];rfl),kH os];rfl
def tu{os:List<|Option cu}(g:os.length<=60)(c:∀x,W1 x∈os->aV x):m_on_one_scale [.lst<|os.map cS]=.ok (.tup [.lst<|os.map<|wI<|bT<|ic os,.int<|bT<|ic os]):=by
 have a:∀x∈ic os,aV x:=λx h=>c x<|Fe.mp h;have b:(ic os).length<=60:=UI (List.length_filterMap_le _ _) g;have j:=FQ b a;obtain⟨B,_,_⟩:=zt a 1 0 ⟨by decide,by decide⟩;have i:(bT<|ic os).natAbs<p6:=UR B.bd (yC<|by omega);have m:dY 1 [] (bK 0) (aa (ae 0) 0#4 l7) (ae 0) [.sh<|.lst<|os.map cS,.no] (os.map cS)=.ok (.lst<|(ic os).map fr):=by
  rw[md (F:=id) (p:=λd=>!(xA d)) (by rw[Ut];omega)]
  .rw[sao,kH]
  .intro d e
   exact⟨[.sh d],rfl,rfl,λ_=>rfl⟩
 have l:dY 1 [1] (bK 0) mYes (JL (aa (ae 0) 0#4 wz) 0#4<|ak (af (ae 0)<|af (ae 1) ax) m_as_whole) [.sh<|.lst<|os.map cS,.sh<|.int<|bT<|ic os] (os.map cS)=.ok (.lst<|os.map<|wI<|bT<|ic os):=by
  rw[ma (F:=λd=>match d with|.tup [.int p,.int q]=>.int (p*(bT (ic os) / q))|_=>.non) (by rw[Ut];omega)]
  .congr 2
   rw[Ve];apply Xp;intro o _;cases o<;>rfl
  .intro d e
   obtain⟨o,f,rfl⟩:=UK.mp e;refine⟨[.sh<|cS o,.sh<|.int<|bT<|ic os],rfl,rfl,?_⟩;cases o with
   |none=>rfl
   |some x=>
    have hw:=Gn (c x f) i;rw[show fr x=.tup [.int x.1,.int x.2] from rfl]at hw;rw[show cS (W1 x)=.tup [.int x.1,.int x.2] from rfl];erw[hw]
 erw[m_on_one_scale,mj,m,j,l]
theorem uw:∀ns:List Int,gN (ns.map D.int)=W1 ns
 |[]=>rfl
 |n::ns=>by show(gN<|ns.map D.int).map _=_;rw[uw ns];rfl
def v5:List Int->Int
 |[]=>0
 |a::l=>a+v5 l
theorem wJ:∀a b:List Int,v5 (a++b)=v5 a+v5 b
 |[],b=>by show v5 b=0+v5 b;omega
 |x::a,b=>by show x+v5 (a++b)=x+v5 a+v5 b;rw[wJ a b];omega
def Pr(w:iE)(k:Nat):Bool:=((w.ts[k]?).bind fQ.o).isSome
def Ln{k:Nat}:Pr w k=VT↔∃t x,w.ts[k]?=W1 t/\t.o=W1 x:=by
 unfold Pr;cases h:w.ts[k]? with
 |none=>simp
 |some t=>
  show(t.o).isSome=VT↔_;rw[Xr];constructor
  .rintro⟨x,a⟩;exact⟨t,x,rfl,a⟩
  .rintro⟨c,x,b,a⟩;cases b;exact⟨x,a⟩
theorem p9{b:Int}:∀(xs:List cu) (s:cu) (z:Int),(∀x∈xs,x.2∣b)->s.1*b=z*s.2->(xs.foldl un s).1*b=(z+v5 (xs.map λx=>x.1*(b / x.2)))*(xs.foldl un s).2
 |[],s,z,_,h=>by show s.1*b=(z+0)*s.2;rw[Z9];exact h
 |x::xs,s,z,a,h=>by
  have d:b / x.2*x.2=b:=Yb<|a x Uu;have e:(un s x).1*b=(z+x.1*(b / x.2))*(un s x).2:=by
   show(s.1*x.2+x.1*s.2)*b=(z+x.1*(b / x.2))*(s.2*x.2);generalize b / x.2=q at *;have f:(s.1*x.2+x.1*s.2)*b=(s.1*b)*x.2+x.1*s.2*b:=by grind
   rw[f,h];rw[←d]
   grind
  have:=p9 xs (un s x) _ (λy c=>a y<|Up _ c) e;show(xs.foldl un<|un s x).1*b=(z+(x.1*(b / x.2)+v5 (xs.map λx=>x.1*(b / x.2))))*_;rw[this,Int.add_assoc];rfl
def GW(i:Nat)(ρ:Ev)(d:D):aw Fl:=if jS d=VT then .ok (.nx<|ρ.set i<|.sh d) else .stuck
def D9:w6 i f ρ=(f<|iD ρ).bind (GW i ρ):=rfl
def QQ:iM (fr x) (fr x)=.ok (.bl U9):=by
 unfold iM;rw[dh ⟨r8 x,r8 x⟩,CV];rfl
def jZ(b:c (iD ρ)=.ok (.bl VT))(a:s ρ=.ok (.nx ρ2)):bY c s (n+1) ρ=bY c s n ρ2:=by
 conv=>lhs;unfold bY
 rw[b,a];rfl
def gL(a:c (iD ρ)=.ok (.bl U9)):bY c s (n+1) ρ=.ok (.nx ρ):=by
 conv=>lhs;unfold bY
 rw[a];rfl
end Com
namespace DL
open PySem PySem.Spec PyProof.Rows L2
section
variable {X:Cx}{E:XK}{He η:Hp}{e a b:Vt}{es:List Vt}{f g:al}{fa:Ev->aw (ac)}{pos:Pos}
def O4(x y:D):aw D:=match x,y with
 |.int i,.int j=>.ok<|.int<|if j<i then j else i
 |_,_=>.stuck
def O9:nz X E (λxs H Q=>∃i j,xs=[.int i,.int j]/\Q (.int<|if j<i then j else i) H) (m2 O4):=Ro λx y v u H l Q d r c q=>by
 cases x with
 |int i=>
  cases y with|int j=>exact⟨i,j,by rw[ay.mp r,ay.mp c],bW d q<|ri _⟩| _=>exact q.elim
 |_=>exact q.elim
def LN:D->D->aw D:=yY (λ_ j=>decide (0<=j)) λi j=>.int<|i / 2 ^ j.toNat
def O3(d:DE X E a f)(c:DE X E b g):DE X E (.BinOp a .RShift b pos) (aa f g LN):=rg N9 (yS (λ_ _ h=>ef h) λ_ _ _ _=>ri _) d c
def nR(x y:D):aw D:=match x,y with
 |.lst c,.lst es=>if c.length+es.length<=line then .ok (.lst<|c++es) else .stuck
 |_,_=>.stuck
def zj(ha:DE X E a f)(hb:DE X E b g):DF X E (.BinOp a .Add b pos) (aa f g nR):=by
 refine⟨?_⟩;refine bF (HI DP ha.o hb.o) λσ H Q z9=>?_;obtain⟨Ha,j,hs,J,q⟩:=z9;refine⟨Ha,j,hs,J,?_⟩
 unfold aa at q;cases M:f j with
 |stuck|exn x=>rwa[M]at q
 |ok x=>
  rw[M]at q;intro v H1 G d T;refine⟨G,j,d.sub,J.mono d.z,?_⟩;cases A:g j with
  |stuck=>simp only[aw.bind,A]at q|exn y=>simp only[aw.bind,A]at q;exact λC ox H' B g' ex=>q C ox H' B (d.trans g') ex
  |ok y=>
   simp only[aw.bind,A]at q;intro u N i c O;cases x with
   |lst ds=>
    cases y with
    |lst es=>
     by_cases h:ds.length+es.length<=line
     .simp only[nR,dh h]at q
      obtain⟨l,n,rfl,h1,L⟩:=aF.mp<|T.mono c.z;obtain⟨m,r,rfl,Y,k2⟩:=aF.mp O;refine⟨l,m,n,r,rfl,rfl,aE.sqL c.sub h1,aE.sqL c.sub Y,by rw[←L.length,←k2.length];exact fF h,λp t=>?_⟩;have I:aE N (upd N p<|.lst<|n++r):=λb o w=>by rw[aA (by intro z;subst z;rw[t]at w;cases w)];exact w
      refine q p (n++r) _ i ⟨(d.s.trans c.s).trans I,d.z.trans c.z,c.sub.trans I,(d.trans c).nw⟩ ((d.s.trans c.s).free t) ?_ aG<|L.app k2;cases U:i p with|none=>rfl|some o=>have:=c.sub _ _ U;rw[t]at this;cases this
     .simp only[nR,dV h]at q
    |_=>simp only[nR]at q
   |_=>simp only[nR]at q
end
end DL
namespace Cod
open PySem L2 DL Com
noncomputable def iY:am :=
 (aq (j8 2<|ak ax bD)
 (aq (aH 3<|ak (af (ae 0) ax)<|m1 wA)
 (aq (aH 4<|aa (aa (aa (ae 0) 2147483647#0 cE) 48271#0 bf) 2147483647#0 cE)
 (aq (tw (ak (af (ae 1) ax)<|m1 dP) (bK 5)
 (aq (cT (aa (ak (af (ae 0) ax)<|m1 wA) (aa 10#0 18#0 kn) O5)
 (aq (bU 2<|aa (ae 3) (aa (ae 1) (ae 5) aB) cE)
 (aq (aH 3<|aa (ae 3) (aa (ae 1) (ae 5) aB) kY)
 ao))
 (aq (aH 4<|aa (aa (aa (aa (aa (ae 4) (ae 4) bf) (aa 69621#0 (ae 4) bf) aZ) (aa 7919#0 (ae 5) bf) aZ) 1000003#0 aZ) 2147483647#0 cE)
 (aq (bU 2<|aa (aa (aa (ae 4) 39373#0 bf) 2147483629#0 cE) (aa (ae 1) (ae 5) aB) cE)
 ao)))
 ao))
 (aq (bh<|ae 2)
 ao)))))
def aD:ac->aw D:=bz 6 iY
def Mo:jD<B9:=by rw[JI];exact Uy (show jD<2 ^ 200 by decide) (Vy 0#1<|by decide)
def abs_ok:wA (.int c)=.ok (.int (c.natAbs:Int)):=by
 show aw.ok (D.int<|if c<0 then -c else c)=_
 congr 2
 split<;>omega
def draws_ok(c:Int)(sz:List Int)(Y:∀s∈sz,0<s/\s<=(jD:Int))(hn:sz.length<=900):∃vs,aD [.int c,.lst<|sz.map D.int]=.ok (.lst<|vs.map D.int)/\Drawn sz vs:=by
 have g:=dM (a:=c.fmod 2147483647*48271) (b:=2147483647) 0#1;have ab:=dM (a:=c) (b:=2147483647) 0#1;obtain⟨H,hl,vs,U,B,j,d,x,rfl,_⟩:=D4 (i:=5) (n:=sz.length)
  (ρ:=[.sh<|.int c,.sh<|.lst<|sz.map D.int,.ow<|.lst [],.sh<|.int (c.natAbs:Int),.sh<|.int<|(c.fmod 2147483647*48271).fmod 2147483647,.no])
  (body:=(aq (cT (aa (ak (af (ae 0) ax)<|m1 wA) (aa 10#0 18#0 kn) O5)
 (aq (bU 2<|aa (ae 3) (aa (ae 1) (ae 5) aB) cE)
 (aq (aH 3<|aa (ae 3) (aa (ae 1) (ae 5) aB) kY)
 ao))
 (aq (aH 4<|aa (aa (aa (aa (aa (ae 4) (ae 4) bf) (aa 69621#0 (ae 4) bf) aZ) (aa 7919#0 (ae 5) bf) aZ) 1000003#0 aZ) 2147483647#0 cE)
 (aq (bU 2<|aa (aa (aa (ae 4) 39373#0 bf) 2147483629#0 cE) (aa (ae 1) (ae 5) aB) cE)
 ao)))
 ao))
  (λk w=>∃vs:List Int,vs.length=k/\(∀(i:Nat) (v s:Int),vs[i]?=W1 v->sz[i]?=W1 s->0<=v/\v<s)/\∃(j d:Int) (x:Sl),w=[.sh<|.int c,.sh<|.lst<|sz.map D.int,.ow<|.lst<|vs.map D.int,.sh<|.int j,.sh<|.int d,x]/\0<=d/\d<2147483647) (by
   rintro k A w ⟨vs,rfl,B,j,d,x,rfl,T,y⟩;have G:=Y sz[vs.length]<|VB A;have o:aB (.lst<|sz.map D.int) (.int (vs.length:Int))=.ok (.int sz[vs.length]):=dJ (by rw[Uw,Uq A];rfl);have l:(sz[vs.length]==0)=U9:=beq_eq_false_iff_ne.mpr 0#2;have q:decide ((vs.map D.int).length<=999)=VT:=dg (by rw[Ut];omega);have p:∀v:Int,0<=v->v<sz[vs.length]->∀(i:Nat) (u s:Int),(vs++[v])[i]?=W1 u->sz[i]?=W1 s->0<=u/\u<s:=λv J I i u s r E=>by
    by_cases hi:i<vs.length
    .rw[U0 hi]at r;exact B i u s r E
    .have:i=vs.length:=by
      have:=(Uz.mp r).1;simp at this;omega
     subst this;rw[U8 (U3 _),Nat.sub_self]at r;cases r;rw[Uq A]at E;cases E;exact⟨J,I⟩
   by_cases t:(1000000000000000000:Int)<=(c.natAbs:Int)
   .have f:=dM (a:=j) (b:=sz[vs.length]) G.1
    have hdiv:iw j sz[vs.length]=VT:=MW 0#2 (UR (show sz[vs.length].natAbs<=jD by omega) Mo);refine⟨[.sh<|.int c,.sh<|.lst<|sz.map D.int,.ow<|.lst<|(vs++[j.fmod sz[vs.length]]).map D.int,.sh<|.int<|j.fdiv sz[vs.length],.sh<|.int d,.sh<|.int (vs.length:Int)],?_,vs++[j.fmod sz[vs.length]],by simp,p _ f.1 f.2,_,_,_,rfl,T,y⟩;erw[no_df,abs_ok,jk,dg t,dg (show(c.natAbs:Int)≥1000000000000000000 from t),o,l,cN q,vc hdiv,U7]
   .have C:=dM (a:=d*d+69621*d+7919*(vs.length:Int)+1000003) (b:=2147483647) 0#1
    generalize z:(d*d+69621*d+7919*(vs.length:Int)+1000003).fmod 2147483647=m at C;have f:=dM (a:=(m*39373).fmod 2147483629) (b:=sz[vs.length]) G.1;have O:dj d d=VT:=ji 0#2 0#2;have N:dj 69621 d=VT:=ji 0#1 0#2;have M:dj 7919 (vs.length:Int)=VT:=ji 0#1 0#2;have L:dj m 39373=VT:=ji 0#2 0#1;refine⟨[.sh<|.int c,.sh<|.lst<|sz.map D.int,.ow<|.lst<|(vs++[((m*39373).fmod 2147483629).fmod sz[vs.length]]).map D.int,.sh<|.int j,.sh<|.int m,.sh<|.int (vs.length:Int)],?_,vs++[((m*39373).fmod 2147483629).fmod sz[vs.length]],by simp,p _ f.1 f.2,_,_,_,rfl,C.1,C.2⟩;erw[no_df,abs_ok,jk,dy t,dy (show ¬(c.natAbs:Int)≥1000000000000000000 from t),dB O,dB N,dB M,z,dB L,o,l,cN q,U7]) ⟨[],rfl,λi v s e=>(by simp at e),_,_,_,rfl,g.1,g.2⟩
 refine⟨vs,?_,U,B⟩;have Q:dj (c.fmod 2147483647) 48271=VT:=ji 0#2 0#1;erw[no_df,aD,iY,abs_ok,dB Q,Ut,pq,A3 (show sz.length<=1000000 by omega),hl]
noncomputable def vN:am :=
 (aq (aH 2<|ak (af (ae 0) ax)<|m1 wA)
 (aq (aH 3<|ae 1)
 (aq (eZ (oB 3) (aa (ae 3) 0#0 iM)
 (aq (ER 2 3<|af (ae 3)<|af (aa (ae 2) (ae 3) cE) ax)
 ao))
 (aq (bh<|ak (af (aa (ae 0) (ae 2) kY)<|af (aa (ae 1) (ae 2) kY) ax) fE)
 ao))))
def cm:ac->aw D:=bz 4 vN
theorem AE{A B:Sl}:∀(n:Nat) (a b:Int),0<=a->0<=b->b.natAbs<n->bY (aa (ae 3) 0#0 iM) (aq (ER 2 3<|af (ae 3)<|af (aa (ae 2) (ae 3) cE) ax) ao) n [A,B,.sh<|.int a,.sh<|.int b]=.ok (.nx [A,B,.sh<|.int (Vc a b:Int),.sh<|.int 0])
 |0,a,b,_,_,h=>ee h<|Nat.not_lt_zero _
 |n+1,a,b,j,i,h=>by
  by_cases e:b=0
  .subst e
   have c:(aa (ae 3) 0#0 iM) (iD [A,B,.sh<|.int a,.sh<|.int 0])=.ok (.bl U9):=by
    cases A<;>cases B<;>rfl
   rw[gL c];have:((Vc a 0:Nat):Int)=a:=by rw[Int.gcd_zero_right];omega
   rw[this]
  .have c:(aa (ae 3) 0#0 iM) (iD [A,B,.sh<|.int a,.sh<|.int b])=.ok (.bl VT):=by
    have:(b==0)=U9:=beq_eq_false_iff_ne.mpr e;cases A<;>cases B<;>erw[this]
   have f:=dM (a:=a) (b:=b) 0#2;have d:(b==0)=U9:=beq_eq_false_iff_ne.mpr e;rw[jZ (ρ2:=[A,B,.sh<|.int b,.sh<|.int<|a.fmod b]) c ?_,AE n b (a.fmod b) 0#2 f.1<|by omega]
   .rw[AW]
   .cases A<;>cases B<;>erw[d]
def low_ok(p:0<b)(m:a.natAbs<p6)(l:b.natAbs<p6):cm [.int a,.int b]=.ok (fr<|dU a b):=by
 have g:0<(Vc a b:Int):=sG 0#2;have e:(Vc (a.natAbs:Int) b:Int)=(Vc a b:Int):=by
  congr 1
 have f:=AE (A:=.sh<|.int a) (B:=.sh<|.int b) (b.natAbs+1) (a.natAbs:Int) b 0#2 0#2<|WX _;rw[e]at f;have d:∀(c:al) (s:am),eZ (oB 3) c s [.sh<|.int a,.sh<|.int b,.sh<|.int (a.natAbs:Int),.sh<|.int b]=bY c s (b.natAbs+1) [.sh<|.int a,.sh<|.int b,.sh<|.int (a.natAbs:Int),.sh<|.int b]:=λ_ _=>rfl;have r:(Vc a b:Int)∣a:=XY ..;have q:(Vc a b:Int)∣b:=XO ..;have j:iw a (Vc a b:Int)=VT:=qr 0#2 m;have i:iw b (Vc a b:Int)=VT:=qr 0#2 l;have o:a.fdiv (Vc a b:Int)=a / (Vc a b:Int):=kj g;have n:b.fdiv (Vc a b:Int)=b / (Vc a b:Int):=kj g;erw[cm,vN,abs_ok,d,f,vc j,vc i,o,n]
 rfl
noncomputable def eQ:am :=
 (aq (aH 1<|aa (ak (af 0#0<|af (aa (aa (ae 0) 1#0 aB) 7#0 cE)<|af (aa (aa (ae 0) 1#0 aB) 60#0 cE)<|af (aa (ae 0) 1#0 aB)<|af (aa (aa (ae 0) 1#0 aB) 1000#0 cE) ax) bD) (aa (ae 0) 0#0 aB) aB)
 (aq (aH 2<|aa (ak (af 1#0<|af 1#0<|af (aa 1#0 (aa (ae 0) 2#0 aB) aZ)<|af 1#0<|af (aa 1#0 (aa (aa (ae 0) 2#0 aB) 4#0 cE) aZ) ax) bD) (aa (ae 0) 0#0 aB) aB)
 (aq (bh<|ak (af (ae 1)<|af (ae 2) ax) cm)
 ao)))
def az:ac->aw D:=bz 3 eQ
def fraction_ok(hw:0<=w/\w<5)(m:0<=a/\a<1000000000000000000)(l:0<=b/\b<30):∃x:cu,az [.lst [.int w,.int a,.int b]]=.ok (fr x)/\aV x/\0<=x.1:=by
 have n:(1000000000000000000000:Int)<(jD:Int):=by decide
 have o:=dM (a:=a) (b:=7) 0#1;have g:=dM (a:=a) (b:=60) 0#1;have d:=dM (a:=a) (b:=1000) 0#1;have r:=dM (a:=b) (b:=4) 0#1;obtain⟨p,q,j,i,f,e⟩:∃p q:Int,(0<=p/\p<1000000000000000000)/\(1<=q/\q<1000)/\aB (.lst [.int 0,.int<|a.fmod 7,.int<|a.fmod 60,.int a,.int<|a.fmod 1000]) (.int w)=.ok (.int p)/\aB (.lst [.int 1,.int 1,.int (1+b),.int 1,.int (1+b.fmod 4)]) (.int w)=.ok (.int q):=by
  have:w=0∨w=1∨w=2∨w=3∨w=4:=by omega
  rcases this with rfl|rfl|rfl|rfl|rfl
  .exact⟨0,1,by decide,by decide,rfl,rfl⟩
  .exact⟨a.fmod 7,1,by omega,by decide,rfl,rfl⟩
  .exact⟨a.fmod 60,1+b,by omega,by omega,rfl,rfl⟩
  .exact⟨a,1,by omega,by decide,rfl,rfl⟩
  .exact⟨a.fmod 1000,1+b.fmod 4,by omega,by omega,rfl,rfl⟩
 have c:=low_ok (a:=p) (b:=q) 0#2 (Ld 0#2<|by omega) (Ld 0#2<|by omega);refine⟨dU p q,?_,QU 0#2 0#2 0#2,uf 0#2<|by omega⟩;erw[az,eQ,f,e,c]
noncomputable def pQ:am :=
 (aq (aH 2<|dC<|.str "abcdefghijklmnopqrstuvwxyz")
 (aq (j8 3<|ak ax bD)
 (aq (tw (ae 1) (bK 4)
 (aq (aH 5<|fJ (ae 0) (bS<|aa 10#0 (ae 4) bf)<|bS<|aa (aa 10#0 (ae 4) bf) 10#0 aZ)
 (aq (aH 6<|By 0#""<|af (cG 1 [2,5] (z9<|aa 1#0 (aa (ae 5) 0#0 aB) aZ) (bK 0) mYes<|aa (ae 1) (aa (ae 2) (aa 2#0 (ae 0) aZ) aB) aB) ax)
 (aq (cT (eG (aa (ae 4) 0#0 CY)<|aa (aa (ae 5) 1#0 aB) 0#0 gD)
 (aq (w6 6<|aa (fJ (aa (ae 3) (aa (ae 4) 1#0 gQ) aB) eV<|bS<|aa (ae 5) 0#0 aB) (aa (ae 2) (aa (ae 5) 2#0 aB) aB) aZ)
 ao)
 ao)
 (aq (aH 7<|aa (ae 5) 9#0 aB)
 (aq (eZ (λ_=>30) (aa (ae 6) (ae 3) vY)
 (aq (aH 7<|aa (ae 7) 1#0 aZ)
 (aq (aH 6<|aa (fJ (ae 6) eV<|bS<|aU 1#0 ko) (aa (ae 2) (aa (ae 7) 26#0 cE) aB) aZ)
 ao)))
 (aq (bU 3<|ae 6)
 ao)))))))
 (aq (bh<|ae 3)
 ao))))
def eD:ac->aw D:=bz 8 pQ
def S(cs:ci):UL:=⟨cs.toArray⟩
def M4(h:S a=S b):a=b:=by
 have:=en (λs:UL=>s.cps.toList) h;simpa[S] using this
def pU(a:ci):(S a).length=a.length:=O7 a
structure vW (cs:ci):Prop where
 l1:1<=cs.length
 l8:cs.length<=8
 ab:∀x∈cs,uy x=VT
def vW.nameB(h:vW cs):Com.nameB (S cs)=VT:=by
 unfold Com.nameB;rw[pU];simp only[US,eu];exact⟨h.l1,h.l8,Vd.mpr λx a=>h.ab x<|by simpa[S] using a⟩
def jh(css:List<|ci):ac:=css.map λa=>D.str<|S a
def ux:vY (.str<|S cs) (.lst<|jh css)=.ok (.bl (decide (cs∈css))):=by
 have e:jh css=(css.map S).map D.str:=by unfold jh;rw[Ve];rfl
 rw[e,mM]
 congr 2
 apply decide_eq_decide.mpr;constructor
 .intro h
  obtain⟨b,c,a⟩:=UK.mp h;rw[←M4 a];exact c
 .exact λh=>UK.mpr ⟨cs,h,rfl⟩
def LR(h:1<=cs.length)(a:cs.length<=1000):EK (.str<|S cs) Wp (W1 (-1))=.ok (.str<|S cs.dropLast):=by
 rw[Dl (by rw[pU];exact a)]
 congr 2
 have b:XA (S cs) Wp (W1 (-1))=XA (S cs) Wp (W1 (-1+((S cs).length:Int))):=StrLaws.sliceText_neg_hi (S cs) Wp 0#1 (by rw[pU];omega);rw[b,pU,show(-1+(cs.length:Int))=((cs.length-1:Nat):Int) by omega,show S cs=⟨cs.toArray⟩ from rfl,sY<|by omega];rw[List.dropLast_eq_take];rfl
def jr(pre:ci)(at_:Int)(i:Nat):ci:=pre++[97+((at_+(i:Int)).fmod 26).toNat]
def LY(e:pre.length<=7)(d:∀x∈pre,uy x=VT):vW (jr pre at_ i):=by
 have f:=dM (a:=at_+(i:Int)) (b:=26) 0#1;refine⟨by unfold jr;simp,by unfold jr;simp;omega,λx c=>?_⟩;unfold jr at c;rw[UO]at c;rcases c with c|c
 .exact d x c
 .have:x=97+((at_+(i:Int)).fmod 26).toNat:=by simpa using c
  rw[this];exact C8 _ 0#2
theorem nodup_le{c:Type}[DecidableEq c]:∀{l m:List c},l.Nodup->(∀x∈l,x∈m)->l.length<=m.length
 |[],_,_,_=>XD _
 |a::l,m,nd,h=>by
  rw[U6]at nd;have e:=h a Uu;have:=nodup_le (l:=l) (m:=m.erase a) nd.2 λx d=>by
   have b:x≠a:=λz=>nd.1<|z▸d;exact(san b).mpr<|h x<|Up _ d
  rw[ZI e]at this;have:=Z6 e;simp only[UP];omega
def FL{css:List<|ci}(o:css.length<=6):∃j,j<=6/\jr pre at_ (1+j)∉css:=by
 refine ZD λc=>?_;have b:∀j,j<=6->jr pre at_ (1+j)∈css:=λj a=>ZD λf=>c ⟨j,a,f⟩;have nd:((VO 7).map λj=>jr pre at_ (1+j)).Nodup:=by
  rw[WO,Y6];refine ZK ?_ Z4;intro k j i a g d;rw[Xe]at i a;have n:=List.append_inj_right d rfl;have l:97+((at_+((1+k:Nat):Int)).fmod 26).toNat=97+((at_+((1+j:Nat):Int)).fmod 26).toNat:=by simpa using n
  rw[Yj _ 0#1,Yj _<|by decide]at l;omega
 have:=nodup_le nd (m:=css) λx e=>by
  obtain⟨j,a,rfl⟩:=UK.mp e;rw[Xe]at a;exact b j 0#2
 simp at this;omega
def DU(l:1<=cs.length)(m:cs.length<=8):(aq (aH 7<|aa (ae 7) 1#0 aZ)
 (aq (aH 6<|aa (fJ (ae 6) eV<|bS<|aU 1#0 ko) (aa (ae 2) (aa (ae 7) 26#0 cE) aB) aZ)
 ao)) [.sh a,.sh b,.sh<|.str "abcdefghijklmnopqrstuvwxyz",.ow<|.lst<|jh css,.sh c,.sh e,.sh<|.str<|S cs,.sh<|.int at_]=.ok (.nx [.sh a,.sh b,.sh<|.str "abcdefghijklmnopqrstuvwxyz",.ow<|.lst<|jh css,.sh c,.sh e,.sh<|.str<|S<|cs.dropLast++[97+((at_+1).fmod 26).toNat],.sh<|.int<|at_+1]):=by
 have f:=dM (a:=at_+1) (b:=26) 0#1;have i:=LR l 0#2;have j:=C7 f.1 f.2;have d:aZ (.str<|S cs.dropLast) (.str ⟨#[97+((at_+1).fmod 26).toNat]⟩)=.ok (.str<|S<|cs.dropLast++[97+((at_+1).fmod 26).toNat]):=by
  have g:(S cs.dropLast).length+(⟨#[97+((at_+1).fmod 26).toNat]⟩:UL).length<=1000:=by
   rw[pU,sap];show cs.length-1+1<=1000;omega
  rw[BK g];exact en (λz=>aw.ok<|D.str z)<|xI cs.dropLast [97+((at_+1).fmod 26).toNat]
 erw[i,j,d]
def Ib{a b c e:D}{css:List<|ci}{pre:ci}{at_:Int}(t:pre.length<=7):∀(d i fuel:Nat),jr pre at_ (i+d)∉css->d<fuel->∃j,bY (aa (ae 6) (ae 3) vY)
 (aq (aH 7<|aa (ae 7) 1#0 aZ)
 (aq (aH 6<|aa (fJ (ae 6) eV<|bS<|aU 1#0 ko) (aa (ae 2) (aa (ae 7) 26#0 cE) aB) aZ)
 ao)) fuel [.sh a,.sh b,.sh<|.str "abcdefghijklmnopqrstuvwxyz",.ow<|.lst<|jh css,.sh c,.sh e,.sh<|.str<|S<|jr pre at_ i,.sh<|.int<|at_+(i:Int)]=.ok (.nx [.sh a,.sh b,.sh<|.str "abcdefghijklmnopqrstuvwxyz",.ow<|.lst<|jh css,.sh c,.sh e,.sh<|.str<|S<|jr pre at_ j,.sh<|.int<|at_+(j:Int)])/\jr pre at_ j∉css:=by
 intro d
 induction d with
 |zero=>
  intro i fuel g p;obtain⟨f,rfl⟩:∃f,fuel=f+1:=⟨fuel-1,by omega⟩
  have g:jr pre at_ i∉css:=g;refine⟨i,?_,g⟩;rw[gL];have:=ux (css:=css) (cs:=jr pre at_ i);rw[dy g]at this;erw[this]
 |succ d o=>
  intro i fuel g p;obtain⟨f,rfl⟩:∃f,fuel=f+1:=⟨fuel-1,by omega⟩
  by_cases m:jr pre at_ i∈css
  .obtain⟨j,r,q⟩:=o (i+1) f (by rw[show i+1+d=i+(d+1) by omega];exact g) 0#2
   refine⟨j,?_,q⟩;have l:=DU (a:=a) (b:=b) (c:=c) (e:=e) (css:=css) (cs:=jr pre at_ i) (at_:=at_+(i:Int)) (by unfold jr;simp) (by unfold jr;simp;omega);have s:(jr pre at_ i).dropLast++[97+((at_+(i:Int)+1).fmod 26).toNat]=jr pre at_ (i+1):=by
    unfold jr;rw[List.dropLast_concat,show at_+(i:Int)+1=at_+((i+1:Nat):Int) by omega]
   rw[s,show at_+(i:Int)+1=at_+((i+1:Nat):Int) by omega]at l;rw[jZ ?_ l]
   .exact r
   .have:=ux (css:=css) (cs:=jr pre at_ i)
    rw[dg m]at this;erw[this]
  .refine⟨i,?_,m⟩
   rw[gL];have:=ux (css:=css) (cs:=jr pre at_ i);rw[dy m]at this;erw[this]
def DR(p:css.length<=6)(h:vW cs):∃d l,bY (aa (ae 6) (ae 3) vY)
 (aq (aH 7<|aa (ae 7) 1#0 aZ)
 (aq (aH 6<|aa (fJ (ae 6) eV<|bS<|aU 1#0 ko) (aa (ae 2) (aa (ae 7) 26#0 cE) aB) aZ)
 ao)) 30 [.sh a,.sh b,.sh<|.str "abcdefghijklmnopqrstuvwxyz",.ow<|.lst<|jh css,.sh c,.sh e,.sh<|.str<|S cs,.sh<|.int at_]=.ok (.nx [.sh a,.sh b,.sh<|.str "abcdefghijklmnopqrstuvwxyz",.ow<|.lst<|jh css,.sh c,.sh e,.sh<|.str<|S d,.sh<|.int l])/\vW d/\d∉css:=by
 by_cases i:cs∈css
 .have f:cs.dropLast.length<=7:=by rw[sap];have:=h.l8;omega
  obtain⟨j,s,o⟩:=FL (pre:=cs.dropLast) (at_:=at_) (css:=css) p;obtain⟨m,r,q⟩:=Ib (a:=a) (b:=b) (c:=c) (e:=e) f j 1 29 o 0#2;refine⟨jr cs.dropLast at_ m,at_+(m:Int),?_,LY f λx n=>h.ab x<|List.dropLast_subset _ n,q⟩;have g:=DU (a:=a) (b:=b) (c:=c) (e:=e) (css:=css) (cs:=cs) (at_:=at_) h.l1 h.l8;rw[jZ ?_ g]
  .exact r
  .have:=ux (css:=css) (cs:=cs)
   rw[dg i]at this;erw[this]
 .refine⟨cs,at_,?_,h,i⟩
  rw[gL];have:=ux (css:=css) (cs:=cs);rw[dy i]at this;erw[this]
def Pu:List Int:=[8,3,26,26,26,26,26,26,26,26,8,3,26,26,26,26,26,26,26,26,8,3,26,26,26,26,26,26,26,26,8,3,26,26,26,26,26,26,26,26,8,3,26,26,26,26,26,26,26,26,8,3,26,26,26,26,26,26,26,26,8,3,26,26,26,26,26,26,26,26]
def OW:∀k,k<7->∀j,j<10->Pu[10*k+j]?=W1 (if j=0 then 8 else if j=1 then 3 else 26):=by decide
structure Mj (es:List Int):Prop where
 len:es.length=10
 e0:∃v,es[0]?=W1 v/\0<=v/\v<8
 e1:∃v,es[1]?=W1 v/\0<=v/\v<3
 el:∀j,2<=j->j<10->∃v,es[j]?=W1 v/\0<=v/\v<26
def Nr(W:Drawn Pu ds){k:Nat}(e:k<7):Mj ((ds.drop (10*k)).take 10):=by
 have g:ds.length=70:=W.len;have a:∀j,j<10->∃v,((ds.drop (10*k)).take 10)[j]?=W1 v/\0<=v/\v<(if j=0 then 8 else if j=1 then 3 else 26:Int):=λj d=>by
  rw[VE d,VY];obtain⟨v,f,b,_⟩:=W.at (10*k+j) (OW k e j d);exact⟨v,f,b.1,b.2⟩
 refine⟨by rw[V1,WM];omega,?_,?_,λj b c=>?_⟩
 .have:=a 0 0#1;simpa using this
 .have:=a 1 0#1;simpa using this
 .obtain⟨v,h⟩:=a j c
  rw[dV 0#2,dV<|by omega]at h;exact⟨v,h⟩
def Mj.ix{es:List Int}{j:Nat}(h:es[j]?=W1 v):aB (.lst<|es.map D.int) (.int (j:Int))=.ok (.int v):=dJ (by rw[Uw,h];rfl)
def yo(d:D):aw (ac):=match d with
 |.int j=>if -4611686018427387904<=j/\j<4611686018427387904 then .ok (intsFrom 0 j.toNat) else .stuck
 |_=>.stuck
def uK:z9 f ρ=(f ρ).bind yo:=rfl
def EJ{k:Nat}(h:k<=1000000):yo (.int (k:Int))=.ok (intsFrom 0 k):=by
 unfold yo;dsimp only;rw[dh ⟨by omega,by omega⟩,V6]
def first(es:List Int)(m:Nat):ci:=(VO m).map λj=>97+((es[2+j]?).getD 0).toNat
def IK(T:Mj es)(f:1<=m)(d:m<=8):vW (first es m):=by
 refine⟨by unfold first;simpa using f,by unfold first;simpa using d,λx a=>?_⟩;unfold first at a
 obtain⟨j,c,rfl⟩:=UK.mp a;rw[Xe]at c;obtain⟨v,e,b⟩:=T.el (2+j) 0#2 0#2;rw[e,WV];exact C8 _ 0#2
def CS(T:Mj es)(o:m<=8){a b n k:D}:dY 1 [2,5] (bK 0) mYes (aa (ae 1) (aa (ae 2) (aa 2#0 (ae 0) aZ) aB) aB) [.sh a,.sh b,.sh<|.str "abcdefghijklmnopqrstuvwxyz",.ow n,.sh k,.sh<|.lst<|es.map D.int,x6,x7] (intsFrom 0 m)=.ok (.lst<|(first es m).map λc=>D.str ⟨#[c]⟩):=by
 have hlen:(DL.intsFrom 0 m).length=m:=by unfold DL.intsFrom;simp
 rw[ma (F:=λd=>match d with|.int j=>.str ⟨#[97+((es[2+j.toNat]?).getD 0).toNat]⟩|d=>d) (by rw[hlen];omega)]
 .congr 2
  unfold DL.intsFrom first
  rw[Ve,Ve];apply Xp;intro j _;show D.str ⟨#[97+((es[2+(0+(j:Int)).toNat]?).getD 0).toNat]⟩=_;rw[show(0+(j:Int)).toNat=j by omega];rfl
 .intro d g
  unfold DL.intsFrom at g;obtain⟨j,l,rfl⟩:=UK.mp g;rw[Xe]at l;obtain⟨v,e,i⟩:=T.el (2+j) 0#2 0#2;refine⟨[.sh<|.int (0+(j:Int)),.sh<|.str "abcdefghijklmnopqrstuvwxyz",.sh<|.lst<|es.map D.int],rfl,rfl,?_⟩;have f:aB (.lst<|es.map D.int) (.int (2+(0+(j:Int))))=.ok (.int v):=by
   rw[show(2+(0+(j:Int)))=((2+j:Nat):Int) by omega];exact Mj.ix e
  erw[f,C7 i.1 i.2]
  rw[show(0+(j:Int)).toNat=j by omega,e];rfl
def B8(h:(z.length:Int)<=j):XA z Wp (W1 j)=XA z Wp (W1 (z.length:Int)):=by
 show Y1 z Wp (W1 j)=Y1 z Wp (W1 (z.length:Int));have e:Yf Wp (W1 j) 1 z.length=Yf Wp (W1 (z.length:Int)) 1 z.length:=by
  have a:¬j<0:=by omega
  have b:¬((z.length:Int)<0):=by omega
  have c:min j (z.length:Int)=(z.length:Int):=by omega
  have d:min (z.length:Int) (z.length:Int)=(z.length:Int):=by omega
  simp[Yf,a,b,c,d]
 unfold Y1;rw[e]
def Cw{c:Type}{l:List c}{x:c}(h:l.Nodup)(d:x∉l):(l++[x]).Nodup:=by
 rw[WB];refine⟨h,by simp,λa f b e=>?_⟩;have:b=x:=by simpa using e
 subst this;intro z;subst z;exact d f
set_option maxHeartbeats 1000000 in
def Ic(W:Drawn Pu ds){n:Nat}(hn:n<=7):∃css:List<|ci,eD [.lst<|ds.map D.int,.int (n:Int)]=.ok (.lst<|jh css)/\css.length=n/\css.Nodup/\∀cs∈css,vW cs:=by
 have a5:ds.length=70:=W.len;obtain⟨a4,hl,css,v,G,y,x4,x5,M,L,rfl⟩:=D4 (i:=4) (n:=n)
  (ρ:=[.sh<|.lst<|ds.map D.int,.sh<|.int (n:Int),.sh<|.str "abcdefghijklmnopqrstuvwxyz",.ow<|.lst [],.no,.no,.no,.no])
  (body:=(aq (aH 5<|fJ (ae 0) (bS<|aa 10#0 (ae 4) bf)<|bS<|aa (aa 10#0 (ae 4) bf) 10#0 aZ)
 (aq (aH 6<|By 0#""<|af (cG 1 [2,5] (z9<|aa 1#0 (aa (ae 5) 0#0 aB) aZ) (bK 0) mYes<|aa (ae 1) (aa (ae 2) (aa 2#0 (ae 0) aZ) aB) aB) ax)
 (aq (cT (eG (aa (ae 4) 0#0 CY)<|aa (aa (ae 5) 1#0 aB) 0#0 gD)
 (aq (w6 6<|aa (fJ (aa (ae 3) (aa (ae 4) 1#0 gQ) aB) eV<|bS<|aa (ae 5) 0#0 aB) (aa (ae 2) (aa (ae 5) 2#0 aB) aB) aZ)
 ao)
 ao)
 (aq (aH 7<|aa (ae 5) 9#0 aB)
 (aq (eZ (λ_=>30) (aa (ae 6) (ae 3) vY)
 (aq (aH 7<|aa (ae 7) 1#0 aZ)
 (aq (aH 6<|aa (fJ (ae 6) eV<|bS<|aU 1#0 ko) (aa (ae 2) (aa (ae 7) 26#0 cE) aB) aZ)
 ao)))
 (aq (bU 3<|ae 6)
 ao)))))))
  (λk w=>∃css:List<|ci,css.length=k/\css.Nodup/\(∀cs∈css,vW cs)/\∃x4 x5 M L,w=[.sh<|.lst<|ds.map D.int,.sh<|.int (n:Int),.sh<|.str "abcdefghijklmnopqrstuvwxyz",.ow<|.lst<|jh css,x4,x5,M,L]) (by
   rintro k hk w ⟨css,rfl,G,y,x4,x5,M,L,rfl⟩;have T:=Nr W (k:=css.length) 0#2;generalize as:(ds.drop (10*css.length)).take 10=t at T;have q:jA (ds.map D.int) (W1 (10*(css.length:Int))) (W1 (10*(css.length:Int)+10))=t.map D.int:=by
    rw[vx (a:=10*css.length) (b:=10*css.length+10) 0#2 0#2 0#2 0#2,show 10*css.length+10-10*css.length=10 by omega,as]
   obtain⟨e0,g0,b0,a8⟩:=T.e0;obtain⟨e1,g1,b1,a7⟩:=T.e1;obtain⟨B,g2,b2,a2⟩:=T.el 2 0#1 0#1;obtain⟨e9,g9,b9,a6⟩:=T.el 9 0#1 0#1;have i0:aB (.lst<|t.map D.int) (.int 0)=.ok (.int e0):=Mj.ix (j:=0) g0;have i1:aB (.lst<|t.map D.int) (.int 1)=.ok (.int e1):=Mj.ix (j:=1) g1;have i2:aB (.lst<|t.map D.int) (.int 2)=.ok (.int B):=Mj.ix (j:=2) g2;have i9:aB (.lst<|t.map D.int) (.int 9)=.ok (.int e9):=Mj.ix (j:=9) g9;obtain⟨m,rfl⟩:=Vm b0;have H:dj 10 (css.length:Int)=VT:=ji 0#1 0#2;have l:yo (.int (1+(m:Int)))=.ok (DL.intsFrom 0 (1+m)):=by
    rw[show(1+(m:Int))=((1+m:Nat):Int) by omega];exact EJ 0#2
   have f:=CK (cs:=first t (1+m)) (by unfold first;simp;omega);have hF:=IK T (m:=1+m) 0#2 0#2;have g:=λ(M L:Sl)=>CS T (m:=1+m) 0#2 (a:=.lst<|ds.map D.int) (b:=.int (n:Int)) (n:=.lst<|jh css) (k:=.int (css.length:Int)) (x6:=M) (x7:=L);have C:∀(c:al) (s:am) (w:Ev),eZ (λ_=>30) c s w=bY c s 30 w:=λ_ _ _=>rfl;have I:decide ((jh css).length<=999)=VT:=dg (by unfold jh;rw[Ut];omega);have fin:∀cs,cs∉css->vW cs->(css++[cs]).Nodup/\∀c∈css++[cs],vW c:=λcs h1 h2=>⟨Cw G h1,λc v=>by
    rw[UO]at v;rcases v with v|v
    .exact y c v
    .have:c=cs:=by simpa using v
     subst this;exact h2⟩
   have Q:∀cs,jh (css++[cs])=jh css++[.str<|S cs]:=λcs=>by unfold jh;rw[U7];rfl
   have hS:∀cs:ci,(⟨cs.toArray⟩:UL)=S cs:=λ_=>rfl;rw[hS]at f;cases r:(decide ((css.length:Int) > 0)&&(e1==0)) with
   |false=>
    obtain⟨d,J,hw,hN,Y⟩:=DR (a:=.lst<|ds.map D.int) (b:=.int (n:Int)) (c:=.int (css.length:Int)) (e:=.lst<|t.map D.int) (css:=css) (cs:=first t (1+m)) (at_:=e9) 0#2 hF;refine⟨[.sh<|.lst<|ds.map D.int,.sh<|.int (n:Int),.sh<|.str "abcdefghijklmnopqrstuvwxyz",.ow<|.lst<|jh<|css++[d],.sh<|.int (css.length:Int),.sh<|.lst<|t.map D.int,.sh<|.str<|S d,.sh<|.int J],?_,css++[d],by simp,(fin d Y hN).1,(fin d Y hN).2,_,_,_,_,rfl⟩;rw[Q]
    by_cases p:(css.length:Int) > 0
    .have a1:(e1==0)=U9:=by rw[dg p]at r;simpa using r
     erw[no_df,dB H,q,i0,uK,l,g,f,dg p,i1,a1,i9,C,hw,cN I]
    .erw[no_df,dB H,q,i0,uK,l,g,f,dy p,i9,C,hw,cN I]
   |true=>
    rw[US,eu]at r;have p:=r.1;have o:css.length-1<css.length:=by omega
    have E:=y css[css.length-1]<|VB o;have A:aB (.lst<|jh css) (.int<|(css.length:Int)-1)=.ok (.str<|S css[css.length-1]):=by
     rw[show((css.length:Int)-1)=((css.length-1:Nat):Int) by omega];exact dJ (by unfold jh;rw[Uw,Uq o];rfl)
    generalize css[css.length-1]=u at A E;have ah:EK (.str<|S u) Wp (W1 (m:Int))=.ok (.str<|S<|u.take m):=by
     rw[Dl (by rw[pU];have:=E.l8;omega)]
     by_cases an:m<=u.length
     .exact en (λz=>aw.ok<|D.str z)<|sY an
     .rw[B8 (by rw[pU];omega),pU]
      refine en (λz=>aw.ok<|D.str z)<|(sY<|U3 _).trans ?_;rw[WY,W4<|by omega];rfl
    have U:aZ (.str<|S<|u.take m) (.str ⟨#[97+B.toNat]⟩)=.ok (.str<|S<|u.take m++[97+B.toNat]):=by
     have ap:(S<|u.take m).length+(⟨#[97+B.toNat]⟩:UL).length<=1000:=by
      rw[pU,V1];show min m u.length+1<=1000;omega
     rw[BK ap];exact en (λz=>aw.ok<|D.str z)<|xI (u.take m) [97+B.toNat]
    have O:∀(i:Nat) (w:Ev) (z:UL),GW i w (.str z)=.ok (.nx<|w.set i<|.sh<|.str z):=λ_ _ _=>rfl;have a0:vW (u.take m++[97+B.toNat]):=by
     refine⟨by simp,by simp;omega,λx N=>?_⟩;rw[UO]at N;rcases N with N|N
     .exact E.ab x<|YH N
     .have:x=97+B.toNat:=by simpa using N
      rw[this];exact C8 _ 0#2
    obtain⟨d,J,hw,hN,Y⟩:=DR (a:=.lst<|ds.map D.int) (b:=.int (n:Int)) (c:=.int (css.length:Int)) (e:=.lst<|t.map D.int) (css:=css) (cs:=u.take m++[97+B.toNat]) (at_:=e9) 0#2 a0;refine⟨[.sh<|.lst<|ds.map D.int,.sh<|.int (n:Int),.sh<|.str "abcdefghijklmnopqrstuvwxyz",.ow<|.lst<|jh<|css++[d],.sh<|.int (css.length:Int),.sh<|.lst<|t.map D.int,.sh<|.str<|S d,.sh<|.int J],?_,css++[d],by simp,(fin d Y hN).1,(fin d Y hN).2,_,_,_,_,rfl⟩;rw[Q];erw[no_df,dB H,q,i0,uK,l,g,f,dg p,i1,r.2,gQ,A,ah,i2,C7 b2 a2,U,D9,O,i9,C,hw,cN I]) ⟨[],rfl,List.nodup_nil,λc v=>(nomatch v),_,_,_,_,rfl⟩
 refine⟨css,?_,v,G,y⟩;erw[no_df,eD,pQ,pq,A3 (show n<=1000000 by omega),hl]
noncomputable def gf:am :=
 (aq (aH 3<|ak (af (ae 0)<|af (ak (af 420#0<|af 60#0<|af 2#0<|af 5#0<|af (aa 10#0 18#0 kn)<|af 30#0<|af 6#0<|af 5#0<|af (aa 10#0 18#0 kn)<|af 30#0<|af 3#0 ax) bD) ax) aD)
 (aq (aH 4<|aa (aa (ae 3) 0#0 aB) (ak (af (ae 2) ax)<|m1 dP) cE)
 (aq (aH 5<|aa (aa (aa (ae 4) 1#0 aZ) (aa (aa (ae 3) 1#0 aB) (aa (ak (af (ae 2) ax)<|m1 dP) 1#0 gQ) cE) aZ) (ak (af (ae 2) ax)<|m1 dP) cE)
 (aq (cT (aa (aa (ae 3) 10#0 aB) 0#0 gD)
 (aq (aH 4<|aa (ae 1) (aa (ak (af (ae 2) ax)<|m1 dP) 1#0 gQ) cE)
 (aq (aH 5<|aa (ae 4) 1#0 aZ)
 ao))
 ao)
 (aq (aH 6<|dC<|.non)
 (aq (cT (aa (aa (ae 3) 6#0 aB) 0#0 CY)
 (aq (aH 6<|ak (af (fJ (ae 3) (bS<|dC<|.int 7)<|bS<|dC<|.int 10) ax) az)
 (aq (cT (aa (aa (ae 6) 0#0 aB) 0#0 gD)
 (aq (aH 6<|ak (af 1#0<|af 1#0 ax) fE)
 ao)
 ao)
 ao))
 ao)
 (aq (bh<|ak (af (aa (ae 2) (ae 4) aB)<|af (aa (ae 2) (ae 5) aB)<|af (aa (ak (af 0#"one"<|af 0#"both" ax) bD) (aa (ae 3) 2#0 aB) aB)<|af (ak (af (fJ (ae 3) (bS<|dC<|.int 3)<|bS<|dC<|.int 6) ax) az)<|af (ae 6) ax) fE)
 ao)))))))
def cz:ac->aw D:=bz 7 gf
def Ez:aV (1,1)/\0<((1,1):cu).1:=⟨⟨⟨by decide,by decide⟩,by decide,by decide⟩,by decide⟩
set_option maxHeartbeats 1000000 in
def Nq{k:Nat}(h2:2<=zs.length)(h8:zs.length<=8)(nd:zs.Nodup):∃t,cz [.int c,.int (k:Int),.lst<|zs.map D.str]=.ok (aX t)/\ny zs t:=by
 obtain⟨vs,hd,W⟩:=draws_ok c [420,60,2,5,1000000000000000000,30,6,5,1000000000000000000,30,3] 0#1 0#1;have s:aD [.int c,.lst [.int 420,.int 60,.int 2,.int 5,.int 1000000000000000000,.int 30,.int 6,.int 5,.int 1000000000000000000,.int 30,.int 3]]=.ok (.lst<|vs.map D.int):=hd;obtain⟨d0,g0,b0,N⟩:=W.ix 0 0 rfl rfl;obtain⟨d1,g1,b1,M⟩:=W.ix 1 1 rfl rfl;obtain⟨d2,g2,b2,L⟩:=W.ix 2 2 rfl rfl;obtain⟨d3,g3,b3,_⟩:=W.at 3 rfl;obtain⟨d4,g4,b4,_⟩:=W.at 4 rfl;obtain⟨d5,g5,b5,_⟩:=W.at 5 rfl;obtain⟨d6,g6,b6,J⟩:=W.ix 6 6 rfl rfl;obtain⟨d7,g7,b7,_⟩:=W.at 7 rfl;obtain⟨d8,g8,b8,_⟩:=W.at 8 rfl;obtain⟨d9,g9,b9,_⟩:=W.at 9 rfl;obtain⟨H,an,ap,l⟩:=W.ix 10 10 rfl rfl;have Q:=Rm (x:=3) (y:=6) (i:=3) rfl rfl g3 g4 g5;have c7:=Rm (x:=7) (y:=10) (i:=7) rfl rfl g7 g8 g9;obtain⟨x,O,fx,lx⟩:=fraction_ok (w:=d3) (a:=d4) (b:=d5) b3 b4 b5;obtain⟨y,hy,fy,ly⟩:=fraction_ok (w:=d7) (a:=d8) (b:=d9) b7 b8 b9;obtain⟨wd,hw,I⟩:=J3 b2.1 b2.2;have r:((zs.length:Int)==0)=U9:=beq_eq_false_iff_ne.mpr 0#2;have m:((zs.length:Int)-1==0)=U9:=beq_eq_false_iff_ne.mpr 0#2;obtain⟨p,q,hp,hq,ah,E⟩:∃p q:Int,(0<=p/\p<(zs.length:Int))/\(0<=q/\q<(zs.length:Int))/\p≠q/\(((H==0)=VT/\p=(k:Int).fmod ((zs.length:Int)-1)/\q=p+1)∨((H==0)=U9/\p=d0.fmod (zs.length:Int)/\q=(d0.fmod (zs.length:Int)+1+d1.fmod ((zs.length:Int)-1)).fmod (zs.length:Int))):=by
  cases g:(H==0) with
  |true=>
   have f:=dM (a:=(k:Int)) (b:=(zs.length:Int)-1) 0#2;exact⟨(k:Int).fmod<|(zs.length:Int)-1,(k:Int).fmod ((zs.length:Int)-1)+1,by omega,by omega,by omega,.inl ⟨rfl,rfl,rfl⟩⟩
  |false=>
   have f:=dM (a:=d0) (b:=(zs.length:Int)) 0#2;have f':=dM (a:=d1) (b:=(zs.length:Int)-1) 0#2;obtain⟨hr,ab⟩:=xV (n:=(zs.length:Int)) (d:=d0.fmod (zs.length:Int)) (e:=d1.fmod<|(zs.length:Int)-1) 0#2 f.1 f.2 f'.1 f'.2;exact⟨_,_,f,hr,Vw ab,.inr ⟨rfl,rfl,rfl⟩⟩
 obtain⟨z1,k1,z⟩:=GK (zs:=zs) hp.1 hp.2;obtain⟨Y,k2,u⟩:=GK (zs:=zs) hq.1 hq.2;have T:z1≠Y:=Ax nd k1 k2 0#2;have f1:aB (fr y) (.int 0)=.ok (.int y.1):=rfl;obtain⟨o,ho,C⟩:∃o:Option cu,(∀v,o=W1 v->aV v/\0<v.1)/\((¬d6 > 0/\o=Wp)∨(d6 > 0/\(y.1==0)=VT/\o=W1 (1,1))∨(d6 > 0/\(y.1==0)=U9/\o=W1 y)):=by
  by_cases A:d6 > 0
  .cases j:(y.1==0) with
   |true=>exact⟨W1 (1,1),λv U=>by cases U;exact Ez,.inr<|.inl ⟨A,rfl,rfl⟩⟩
   |false=>exact⟨W1 y,λv U=>by cases U;exact⟨fy,by have:y.1≠0:=beq_eq_false_iff_ne.mp j;omega⟩,.inr<|.inr ⟨A,rfl,rfl⟩⟩
  .exact⟨Wp,λv U=>(nomatch U),.inl ⟨A,rfl⟩⟩
 refine⟨⟨z1,Y,wd,x,o⟩,?_,UM k1,UM k2,T,hw,fx,lx,ho⟩;rw[show aX ⟨z1,Y,wd,x,o⟩=.tup [.str z1,.str Y,.str wd,fr x,cS o] from rfl];rcases E with⟨g,B,G⟩|⟨g,B,G⟩<;>rcases C with⟨A,e3⟩|⟨A,j,e3⟩|⟨A,j,e3⟩<;>subst e3
 .rw[G,B]at u;rw[B]at z
  erw[cz,gf,jk,s,N,M,L,J,l,Ut,r,m,gQ,g,dy A,z,u,I,Q,O]
  rfl
 .rw[G,B]at u;rw[B]at z
  erw[cz,gf,jk,s,N,M,L,J,l,Ut,r,m,gQ,g,dg A,c7,hy,f1,j,z,u,I,Q,O]
  rfl
 .rw[G,B]at u;rw[B]at z
  erw[cz,gf,jk,s,N,M,L,J,l,Ut,r,m,gQ,g,dg A,c7,hy,f1,j,z,u,I,Q,O]
  rfl
 .rw[G]at u;rw[B]at z
  erw[cz,gf,jk,s,N,M,L,J,l,Ut,r,m,gQ,g,dy A,z,u,I,Q,O]
  rfl
 .rw[G]at u;rw[B]at z
  erw[cz,gf,jk,s,N,M,L,J,l,Ut,r,m,gQ,g,dg A,c7,hy,f1,j,z,u,I,Q,O]
  rfl
 .rw[G]at u;rw[B]at z
  erw[cz,gf,jk,s,N,M,L,J,l,Ut,r,m,gQ,g,dg A,c7,hy,f1,j,z,u,I,Q,O]
  rfl
noncomputable def pR:am :=
 (aq (aH 1<|ak (af (aa (aa (ae 0) (ak (af 0#0 ax) bD) aZ) 0#0 aB)<|af (aa (aa (ak (af 6#0<|af 420#0<|af 60#0 ax) bD) (oa (aa (ak (af 8#0<|af 3#0 ax) bD) (oa (ak (af 26#0 ax) bD)<|dC<|.int 8) nR)<|dC<|.int 7) aZ) (ak (af 18#0 ax) bD) aZ) ax) aD)
 (aq (aH 2<|ak (af 14#0<|af (aa (ae 1) 73#0 aB) ax)<|m2 O4)
 (aq (bh<|ak (af (fJ (ae 0) (bS<|dC<|.int 1)<|bS<|aa 1#0 (ae 2) aZ)<|af (fJ (ae 0) (bS<|aa 1#0 (ae 2) aZ)<|bS<|dC<|.int 63) ax) fE)
 ao)))
def aK:ac->aw D:=bz 3 pR
def hd0(ns:List Int):Int:=(ns++[0]).headD 0
def D1(e:ns.length<=900)(h:ρ[0]?=W1 (.sh<|.lst<|ns.map D.int)):(aa (aa (ae 0) (ak (af 0#0 ax) bD) aZ) 0#0 aB) ρ=.ok (.int<|hd0 ns):=by
 have a:aZ (.lst<|ns.map D.int) (.lst [.int 0])=.ok (.lst<|(ns++[0]).map D.int):=by
  rw[fY (dg (by rw[Ut];simp;omega)),U7];rfl
 have b:aB (.lst<|(ns++[0]).map D.int) (.int 0)=.ok (.int<|hd0 ns):=by
  refine dJ (k:=0) ?_;unfold hd0;cases ns<;>rfl
 have c:ae 0 ρ=.ok (.lst<|ns.map D.int):=by
  show(match ρ[0]? with|some (.sh d)=>aw.ok d|_=>.stuck)=_;rw[h]
 rw[vk,vk,c];erw[a,b]
def Qd:List Int:=[6,420,60]++Pu
def To:List Int:=Qd++[18]
def Nx:(aa (ak (af 6#0<|af 420#0<|af 60#0 ax) bD) (oa (aa (ak (af 8#0<|af 3#0 ax) bD) (oa (ak (af 26#0 ax) bD)<|dC<|.int 8) nR)<|dC<|.int 7) aZ) ρ=.ok (.lst<|Qd.map D.int):=rfl
def Ny:(aa (aa (ak (af 6#0<|af 420#0<|af 60#0 ax) bD) (oa (aa (ak (af 8#0<|af 3#0 ax) bD) (oa (ak (af 26#0 ax) bD)<|dC<|.int 8) nR)<|dC<|.int 7) aZ) (ak (af 18#0 ax) bD) aZ) ρ=.ok (.lst<|To.map D.int):=rfl
def LU{ns:List Int}:∃a:List Int,jA (ns.map D.int) lo hi=a.map D.int/\a.length<=ns.length:=by
 rw[iW];exact⟨_,rfl,UI (List.length_take_le' ..) (by rw[WM];omega)⟩
def Jn{ns:List Int}(t:ns.length<=63):∃c f:List Int,aK [.lst<|ns.map D.int]=.ok (.tup [.lst<|c.map D.int,.lst<|f.map D.int])/\c.length<=14/\f.length<=63:=by
 obtain⟨s,q,W⟩:=draws_ok (hd0 ns) To 0#1 0#1;obtain⟨d,g,b,i⟩:=W.ix 73 73 rfl rfl;have e:O4 (.int 14) (.int d)=.ok (.int<|min 14 d):=by
  show aw.ok (D.int<|if d<14 then d else 14)=_
  congr 2
  split<;>omega
 obtain⟨f,l,o⟩:=LU (ns:=ns) (lo:=some (1+min 14 d)) (hi:=some 63);obtain⟨m,n⟩:=Vm (show 0<=min 14 d by omega);have a:∃c:List Int,jA (ns.map D.int) (W1 1) (W1 (1+min 14 d))=c.map D.int/\c.length<=14:=by
  rw[iW];refine⟨_,rfl,UI (List.length_take_le ..) ?_⟩;rw[n,show(1+(m:Int))=((1+m:Nat):Int) by omega,HT.sIx_nat,show(1:Int)=((1:Nat):Int) from rfl,HT.sIx_nat];omega
 obtain⟨c,a,j⟩:=a;refine⟨c,f,?_,j,by omega⟩;have p:=D1 (ns:=ns) 0#2 (ρ:=[.sh<|.lst<|ns.map D.int,.no,.no]) rfl;rw[aK,pR];rw[lT];show((aq _ _) [.sh<|.lst<|ns.map D.int,.no,.no]).bind EU=_;rw[kQ,nJ,vi,iV,p,oX,jm,iV,Ny];erw[q,i,e,a,l]
noncomputable def vM:am :=
 (aq (aH 1<|ak (af (aa (aa (ae 0) (ak (af 0#0 ax) bD) aZ) 0#0 aB)<|af (aa (ak (af 6#0<|af 420#0<|af 60#0 ax) bD) (oa (aa (ak (af 8#0<|af 3#0 ax) bD) (oa (ak (af 26#0 ax) bD)<|dC<|.int 8) nR)<|dC<|.int 7) aZ) ax) aD)
 (aq (aH 2<|ak (af (fJ (ae 1) (bS<|dC<|.int 3) eV)<|af (aa 2#0 (aa (ae 1) 0#0 aB) aZ) ax) eD)
 (aq (aH 3<|aa (aa (ae 1) 1#0 aB) (ak (af (ae 2) ax)<|m1 dP) cE)
 (aq (aH 4<|aa (aa (aa (ae 3) 1#0 aZ) (aa (aa (ae 1) 2#0 aB) (aa (ak (af (ae 2) ax)<|m1 dP) 1#0 gQ) cE) aZ) (ak (af (ae 2) ax)<|m1 dP) cE)
 (aq (aH 5<|cG 2 [3,4] (lD<|ae 2) (c5 [0,1]) (aa (ae 0) (ak (af (ae 2)<|af (ae 3) ax) fE) bL)<|ae 1)
 (aq (aH 6<|aa (aa (ak (af (aa (ae 2) (ae 3) aB) ax) bD) (ae 5) aZ) (ak (af (aa (ae 2) (ae 4) aB) ax) bD) aZ)
 (aq (aH 7<|cG 2 [6] (lD<|aa (ak (af (ae 0) ax) aK) 0#0 aB) (c5 [0,1]) mYes<|ak (af (ae 1)<|af (ae 0)<|af (ae 2) ax) cz)
 (aq (bh<|ak (af (ae 2)<|af (ae 7)<|af (aa (ae 2) (ae 3) aB)<|af (aa (ae 2) (ae 4) aB) ax) fE)
 ao))))))))
def eC:ac->aw D:=bz 8 vM
def lK{zs:bv}:numbered 0 (zs.map D.str)=(VO zs.length).map λ(k:Nat)=>D.tup [.int (k:Int),.str<|zs[k]?.getD ("" : UL)]:=by
 apply WT;intro i;rw[cU,Uw,Uw]
 by_cases h:i<zs.length
 .rw[Uq h,YL h]
  simp;rw[Uq h];rfl
 .rw[V7 0#2,V7 (by simp;omega)];rfl
def Fb{k f l:Nat}:bL (.int (k:Int)) (.tup [.int (f:Int),.int (l:Int)])=.ok (.bl (!(decide (k=f)||decide (k=l)))):=by
 have e:D0 (.int (k:Int)) (.tup [.int (f:Int),.int (l:Int)])=W1 (decide (k=f)||decide (k=l)):=by
  have a:D0 (.int (k:Int)) (.tup [.int (f:Int),.int (l:Int)])=W1 (((f:Int)==(k:Int))||(((l:Int)==(k:Int))||false)):=rfl;rw[a];refine en W1 ?_;show(((f:Int)==(k:Int))||(((l:Int)==(k:Int))||false))=_;rw[Bool.or_false]
  congr 1
  .by_cases h:k=f
   .subst h;simp
   .rw[dy h];exact beq_eq_false_iff_ne.mpr 0#2
  .by_cases h:k=l
   .subst h;simp
   .rw[dy h];exact beq_eq_false_iff_ne.mpr 0#2
 unfold bL;rw[e]
def zy(zs:bv)(f l:Nat):bv:=((VO zs.length).filter λk=>!(decide (k=f)||decide (k=l))).map λ(k:Nat)=>zs[k]?.getD ("" : UL)
def FX{f l:Nat}(h:zs.length<=8):dY 2 [3,4] (c5 [0,1]) (aa (ae 0) (ak (af (ae 2)<|af (ae 3) ax) fE) bL) (ae 1) [a,b,.sh<|.lst<|zs.map D.str,.sh<|.int (f:Int),.sh<|.int (l:Int),x5,x6,x7] (numbered 0<|zs.map D.str)=.ok (.lst<|(zy zs f l).map D.str):=by
 rw[md (F:=λd=>match d with|.tup [_,z]=>z|d=>d) (p:=λd=>match d with|.tup [.int k,_]=>!(decide (k.toNat=f)||decide (k.toNat=l))|_=>U9) (by rw[di,Ut];omega)]
 .congr 2
  rw[lK];unfold zy;rw[List.filter_map,Ve,Ve];rfl
 .intro d c
  rw[lK]at c;obtain⟨k,_,rfl⟩:=UK.mp c;refine⟨[.sh (.int (k:Int)),.sh (.str (zs[k]?.getD ("" : UL))),.sh (.int (f:Int)),.sh (.int (l:Int))],rfl,?_,λ_=>rfl⟩;erw[Fb,V6]
def rP(zs:bv)(f l:Nat):bv:=(zs[f]?.getD ("" : UL))::(zy zs f l++[zs[l]?.getD ("" : UL)])
def Pn(n f l:Nat):ci:=f::((VO n).filter (λk=>!(decide (k=f)||decide (k=l)))++[l])
def zQ:rP zs f l=(Pn zs.length f l).map λ(k:Nat)=>zs[k]?.getD ("" : UL):=by
 unfold rP Pn zy;rw[UB,U7];rfl
def Nf(c:f≠l):(Pn n f l).Nodup:=by
 unfold Pn;rw[U6,WB];refine⟨λh=>?_,List.nodup_range.filter _,by simp,λa g b e=>?_⟩
 .rw[UO]at h
  rcases h with h|h
  .have:=(WS.mp h).2
   simp at this
  .exact c (by simpa using h)
 .have d:b=l:=by simpa using e
  subst d;intro z;subst z;have:=(WS.mp g).2;simp at this
def B1(c:f<n)(b:l<n):∀k∈Pn n f l,k<n:=λk a=>by
 unfold Pn at a;rw[UG,UO]at a;rcases a with rfl|a|a
 .exact c
 .exact Xe.mp (WS.mp a).1
 .have:k=l:=by simpa using a
  subst this;exact b
def De(nd:zs.Nodup)(g:f<zs.length)(e:l<zs.length)(c:f≠l):(rP zs f l).Nodup:=by
 rw[zQ,WO,Y6];refine ZK ?_<|WO.mp<|Nf c;intro a b j i d;have n:=B1 g e a j;have m:=B1 g e b i;rw[Uq n,Uq m,WV,WV];exact λz=>d<|(Yz nd).mp z
def sU(e:f<zs.length)(c:l<zs.length):∀z∈rP zs f l,z∈zs:=λz a=>by
 rw[zQ]at a;obtain⟨k,d,rfl⟩:=UK.mp a;have b:=B1 e c k d;rw[Uq b,WV];exact VB b
def Gq(nd:zs.Nodup)(c:f<zs.length)(b:l<zs.length)(a:f≠l):2<=(rP zs f l).length/\(rP zs f l).length<=zs.length:=by
 refine⟨by unfold rP;simp,nodup_le (De nd c b a)<|sU c b⟩
def EE{cs:List Int}(n:2<=ws.length)(m:ws.length<=8)(nd:ws.Nodup)(o:cs.length<=14):∃ts:List fQ,dY 2 [6] (c5 [0,1]) mYes (ak (af (ae 1)<|af (ae 0)<|af (ae 2) ax) cz) [x0,x1,x2,x3,x4,x5,.sh<|.lst<|ws.map D.str,x7] (numbered 0<|cs.map D.int)=.ok (.lst<|ts.map aX)/\ts.length=cs.length/\∀t∈ts,ny ws t:=by
 have key:∀(c:Int) (k:Nat),∃t,cz [.int c,.int (k:Int),.lst<|ws.map D.str]=.ok (aX t)/\ny ws t:=λc k=>Nq n m nd;obtain⟨g,f⟩:∃g:Int->Nat->fQ,∀(c:Int) (k:Nat),cz [.int c,.int (k:Int),.lst<|ws.map D.str]=.ok (aX<|g c k)/\ny ws (g c k):=⟨λc k=>Classical.choose (key c k),λc k=>saf<|key c k⟩
 refine⟨(VO cs.length).map λ(k:Nat)=>g (cs[k]?.getD 0) k,?_,by simp,λt j=>?_⟩
 .rw[ma (F:=λd=>match d with|.tup [.int k,.int c]=>aX (g c k.toNat)|d=>d) (by rw[di,Ut];omega)]
  .congr 2
   apply WT;intro i;rw[Uw,cU,Uw,Uw,Uw]
   by_cases h:i<cs.length
   .rw[Uq h,YL h]
    show W1 (aX<|g cs[i] (((0+i:Nat):Int)).toNat)=W1 (aX<|g (cs[i]?.getD 0) i);rw[Uq h,WV,V6,VR]
   .rw[V7 0#2,V7 (by simp;omega)];rfl
  .intro d l
   obtain⟨i,b⟩:=sae.mp l;rw[cU,Uw]at b;cases e:cs[i]? with
   |none=>rw[e]at b;cases b
   |some c=>
    rw[e]at b;have a:D.tup [.int ((0+i:Nat):Int),.int c]=d:=Vp b;rw[VR]at a;subst a;refine⟨[.sh<|.int (i:Int),.sh<|.int c,.sh<|.lst<|ws.map D.str],rfl,rfl,?_⟩;have h:=(f c i).1;erw[h,V6]
 .obtain⟨k,_,rfl⟩:=UK.mp j
  exact(f _ _).2
set_option maxHeartbeats 1000000 in
def web_cells{ns:List Int}(hn:ns.length<=63):∃w,∃H I:List Int,aK [.lst<|ns.map D.int]=.ok (.tup [.lst<|H.map D.int,.lst<|I.map D.int])/\I.length<=63/\w.ts.length=H.length/\eC [.lst<|ns.map D.int]=.ok (aN w)/\cF w:=by
 obtain⟨x,hd,W⟩:=draws_ok (hd0 ns) Qd 0#1 0#1;have y:x.length=73:=W.len;obtain⟨d0,g0,b0,i0⟩:=W.ix 0 0 rfl rfl;obtain⟨d1,g1,b1,i1⟩:=W.ix 1 1 rfl rfl;obtain⟨d2,g2,b2,i2⟩:=W.ix 2 2 rfl rfl;have W3:Drawn Pu (x.drop 3):=⟨by rw[WM,y];rfl,λi v s e1 e2=>by
  rw[VY]at e1;refine W.bnd (3+i) v s e1 ?_;have:Qd[3+i]?=Pu[i]?:=by
   unfold Qd;rw[U8 0#3];simp
  rw[this];exact e2⟩
 obtain⟨m,rfl⟩:=Vm b0.1;obtain⟨p,M,U,N,G⟩:=Ic W3 (n:=2+m) 0#2;have A:eD [.lst<|(x.drop 3).map D.int,.int (2+(m:Int))]=.ok (.lst<|(p.map S).map D.str):=by
  have:jh p=(p.map S).map D.str:=by unfold jh;rw[Ve];rfl
  rw[←this];exact M
 have ah:(p.map S).length=2+m:=by rw[Ut,U]
 have nd:(p.map S).Nodup:=by
  rw[WO,Y6];exact Yu.imp (λh z=>h<|M4 z)<|WO.mp N
 have nm:pV (p.map S):=⟨nd,λz hz=>by
  obtain⟨cs,hc,rfl⟩:=UK.mp hz;exact(G cs hc).nameB⟩
 generalize p.map S=c at *;have E:jA (x.map D.int) (W1 3) Wp=(x.drop 3).map D.int:=by
  rw[iW,HT.sIx_none,show(3:Int)=((3:Nat):Int) from rfl,HT.sIx_nat,y];rw[W4 (by rw[WM];omega)];rfl
 have Q:((c.length:Int)==0)=U9:=beq_eq_false_iff_ne.mpr 0#2;have O:((c.length:Int)-1==0)=U9:=beq_eq_false_iff_ne.mpr 0#2;have f1:=dM (a:=d1) (b:=(c.length:Int)) 0#2;have f2:=dM (a:=d2) (b:=(c.length:Int)-1) 0#2;obtain⟨hr,ap⟩:=xV (n:=(c.length:Int)) (d:=d1.fmod (c.length:Int)) (e:=d2.fmod<|(c.length:Int)-1) 0#2 f1.1 f1.2 f2.1 f2.2;obtain⟨f,hf⟩:=Vm f1.1;obtain⟨l,hl⟩:=Vm hr.1;have j:f<c.length:=by omega
 have g:l<c.length:=by omega
 have u:f≠l:=by omega
 have C:aB (.lst<|c.map D.str) (.int (f:Int))=.ok (.str c[f]):=dJ (by rw[Uw,Uq j];rfl);have B:aB (.lst<|c.map D.str) (.int (l:Int))=.ok (.str c[l]):=dJ (by rw[Uw,Uq g];rfl);obtain⟨H,I,q,ab,Y⟩:=Jn hn;obtain⟨w2,w8⟩:=Gq nd j g u;have an:(zy c f l).length+2=(rP c f l).length:=by unfold rP;simp
 have a1:aZ (.lst [.str c[f]]) (.lst<|(zy c f l).map D.str)=.ok (.lst (.str c[f]::(zy c f l).map D.str)):=by
  rw[fY (dg (by rw[Ut];simp;omega))];rfl
 have a2:aZ (.lst (.str c[f]::(zy c f l).map D.str)) (.lst [.str c[l]])=.ok (.lst<|(rP c f l).map D.str):=by
  rw[fY (dg (by simp;omega))];unfold rP;rw[UB,U7,Uq j,Uq g];rfl
 have hh:=D1 (ns:=ns) 0#2 (ρ:=[.sh<|.lst<|ns.map D.int,.no,.no,.no,.no,.no,.no,.no]) rfl;obtain⟨ts,J,L,r⟩:=EE (ws:=rP c f l) (cs:=H) w2 0#2 (De nd j g u) ab (x0:=.sh<|.lst<|ns.map D.int) (x1:=.sh<|.lst<|x.map D.int) (x2:=.sh<|.lst<|c.map D.str) (x3:=.sh<|.int (f:Int)) (x4:=.sh<|.int (l:Int)) (x5:=.sh<|.lst<|(zy c f l).map D.str) (x7:=.no);refine⟨⟨c,ts,c[f],c[l]⟩,H,I,q,Y,L,?_,⟨by show 2<=c.length;omega,by show c.length<=7;omega,nm,by show ts.length<=14;omega,λt ht=>?_,VB j,VB g,λz=>u<|(Yz nd).mp z⟩⟩
 .rw[eC,vM,lT]
  show((aq _ _) [.sh<|.lst<|ns.map D.int,.no,.no,.no,.no,.no,.no,.no]).bind EU=_;rw[kQ,nJ,vi,iV,hh,oX,jm,iV,Nx];erw[no_df,hd,E,i0,A,i1,i2,Ut,Q,O,gQ,hf]
  rw[hf]at hl;erw[no_df,hl,sH,oG,lS,FX (show c.length<=8 by omega),C,B,a1,a2,q,J]
  rfl
 .have T:=r t ht
  exact⟨sU j g _ T.a,sU j g _ T.b,T.ne,T.w,T.l,T.l0,T.o⟩
end Cod
namespace DL
open PySem PySem.Spec PyProof.Rows L2
section
variable {prog:Vv}{w:VL}{A:VD}{E:Ur->UH->Prop}{h:UQ}{g:Array GenState}{d:Drawn}{t:Nat}{os:OsState}
variable {nm q:UL}{C N:UD}{bs bm bmB:List Ur}{hdct:Bool}{sn:bv}{sub:List Ur}{ab:Bool}{col:Option Bool}{dd:Option UD}{k0 k1 k2 k3 k5:Option Ur}{B newId initId:String}{mN:UL->Option Ur}{rest:List Ur}{fI:UD}{oI:Obj}
def JT(F:ExcBaseFacts B newId initId bmB)(T:OwnTail h bmB bm)(j:h.get? C=W1 (excClassObj nm q C N bs bm hdct sn sub ab col dd k0 k1 k2 k3 k5 newId))(G:h.Ns N mN)(hi:mN "__init__"=W1 (.ref fI))(s:h.get? fI=W1 oI)(p:oI.cls=.type "function")(c:rest.length<=sizeLine)
  (z:∀h' e,Zx h h' e (.ref C) rest->UZ (UY prog w) A (call (.ref fI) (.ref e::rest)) (λr s'=>r=.none/\Q (.done<|.ret<|.ref e) s') E ⟨h',g,d,t,os⟩):UZ (UY prog w) A (Builtin.«type.__call__» ⟨.ref C::rest,[]⟩) Q E ⟨h,g,d,t,os⟩:=by
 repeat (first|with_reducible refine Wz j ?_|with_reducible refine wpAny_madeBy_exc j ?_|wp_step)
 refine codeAny_call_builtin_code (Yl _ F.quiet)<|wpAny_check_new_subT F T j<|codeAny_exc_new_subT F T j ?_ c;generalize m:({ cls:=.type "tuple",data:=.seq rest.toArray }:Obj)=n;generalize f:({ cls:=.ref C,data:=.fields #[.ref h.objs.size,.none,.none,.none,.bool U9,.none] }:Obj)=l;have i:∀b o,h.get? b=W1 o->((h.push n).push l).get? b=W1 o:=λb o H=>UC l<|UC n H;have a:((h.push n).push l).get? (h.objs.size+1)=W1 l:=by subst f m;heap_get
 have v:l.cls=.ref C:=by subst f;rfl
 have u:(Vg C::bm).contains (.ref C)=VT:=by simp
 show UZ _ _ _ _ _ _;unfold isInstance
 repeat (first|(with_reducible refine Wz a ?_;try rw[v])|(with_reducible refine wpAny_isSubtype_exc (i _ _ j) ?_;rw[u])|wp_step)
 show UZ _ _ (XU (.ref C) _) _ _ _;refine wpAny_typeLookup_tail (i _ _ j) (G.keeps i) (T.keeps i) F.mroIs F.init.lookup ?_;rw[hi];refine Wf<|UA (show UZ _ _ (bindSpecial _ _) _ _ _ from ?_);unfold bindSpecial;refine UA<|wpAny_typeOf (T:="function") ⟨_,i _ _ s,p⟩ ?_;rw[dh 0#1];refine U2 (UA<|VH (z _ (h.objs.size+1) ⟨i,Xg<|sam _,h.objs.size,by rw[f];exact a,Xg (U3 _),?_⟩) (λr s' y=>?_) λ_ _ x=>x)
 .subst m;exact UC _<|Heap.get?_push_at rfl rfl
 .obtain⟨rfl,I⟩:=y
  wp_walk
  exact I
def JW(F:ExcBaseFacts B newId initId bmB)(T:OwnTail h bmB bm)(b:h.get? C=W1 (excClassObj nm q C N bs bm hdct sn sub ab col dd k0 k1 k2 k3 k5 newId))(j:h.Ns N mN)(hi:mN "__init__"=W1 (.ref fI))(f:h.get? fI=W1 oI)(c:oI.cls=.type "function")(a:rest.length<=sizeLine)
  (i:∀h' e,Zx h h' e (.ref C) rest->UZ (UY prog w) (A.under<|.builtin "type.__call__" ⟨.ref C::rest,[]⟩) (call (.ref fI) (.ref e::rest)) (λr s'=>r=.none/\Q (.ref e) s') E ⟨h',g,d,t,os⟩):UZ (UY prog w) A (call (.ref C) rest) Q E ⟨h,g,d,t,os⟩:=by
 have o:=tc_lookup;have n:=tc_bind<|.ref C;have m:(⟨h,g,d,t,os⟩:UH).TypeIs (.ref C) "type":=⟨_,b,rfl⟩
 refine wpAny_call<|codeAny_of_tree (show UZ _ _ (callAny (.ref C) _) _ _ _ from ?_)
 repeat (any_goals (first|assumption|with_reducible refine Wz b ?_|wp_step))
 exact⟨rfl,codeAny_call_builtin_at (Yl _<|by decide +kernel) entry_typeCall<|wpAny_check_type_call_sub b<|JT F T b j hi f c a λh' e l=>i h' e l⟩
end
section
variable {M:Model}{A:VD}{E:Ur->UH->Prop}{env:VI}
variable {nm q:UL}{C N:UD}{bs bm:List Ur}{hdct:Bool}{sn:bv}{sub:List Ur}{ab:Bool}{col:Option Bool}{dd:Option UD}{k0 k1 k2 k3 k5:Option Ur}{newId:String}
def Gg(a:bm.contains (.type "BaseException")=VT)(l:A.handled=Wp)
  (h:UZ M A x (λv b=>∃e i t,v=.ref e/\b.heap.get? C=W1 (excClassObj nm q C N bs bm hdct sn sub ab col dd k0 k1 k2 k3 k5 newId)/\b.heap.get? e=W1 ⟨.ref C,i,.fields #[.ref t,.none,.none,.none,.bool U9,.none],#[]⟩/\E (.ref e) b) E s):UZ M A (raiseStmt env (W1 x) Wp) Q E s:=by
 have c:(Vg C::bm).contains (.type "BaseException")=VT:=by rw[List.contains_cons,a,Bool.or_true]
 unfold raiseStmt;refine UA<|VH h (λv b ⟨e,i,t,j,f,m,n⟩=>?_) λ_ _ x=>x;subst j;obtain⟨p,g,d,o,os⟩:=b
 repeat (first|with_reducible refine Wz m ?_|with_reducible refine Wz f ?_|(with_reducible refine wpAny_isSubtype_exc f ?_;rw[c])|wp_step)
 exact wpAny_raiseNew_none l n
end
def lA:List Ur->Bool
 |.ref _::r=>lA r
 |l=>l==[.type "ValueError",.type "Exception",.type "BaseException",.type "object"]
theorem xa(self:Ur):∀{l:List Ur},lA l=VT->refuseLoop self "__setattr__" l=pure ()
 |[],e=>by cases e
 |x::r,e=>by
  cases x with|ref c=>rw[refuseLoop_ref];exact xa self (l:=r) (by unfold lA at e;exact e)| _=>unfold lA at e;rw[beq_iff_eq.mp e];exact PySem.F.store_ValueError.passes self
theorem Gv:∀{l:List Ur},lA l=VT->l.contains (.type "object")=VT
 |[],e=>by cases e
 |x::r,e=>by
  cases x with|ref c=>rw[List.contains_cons,Gv (l:=r) (by unfold lA at e;exact e),Bool.or_true]| _=>unfold lA at e;rw[beq_iff_eq.mp e];decide
structure Mg (K:Uv) (C:UD) (ks:bv):Prop where
 sa:VW K (.ref C) "__setattr__"=W1 (W1 (.builtin "object.__setattr__"))
 hd:X2 K C=VT
 mr:(W.clsIn K C).any (λcd=>lA cd.mro)=VT
 no:∀f∈ks,fP K C f
section
variable {prog:Vv}{w:VL}{A:VD}{K:Uv}{C x:UD}{s:UH}{R:Result->UH->Prop}
def JV(X:K.In s.heap)(I:W.InstAt s.heap x ox C r)(c:Mg K C ks)(o:name∈ks)
  (h:∀b,UZ (UY prog w) A.in1 (Builtin.ObjectAttr.storeInOwnDict (.ref x) (.ref C) (.str name g) name v b) (λfin s'=>match fin with|.done f=>R (.ok f) s'|.again l=>l.quiet=VT/\WQ (UY prog w) A l R s') (λe s'=>R (.error e) s') s) :
  WQ (UY prog w) A (.call (.builtin "object.__setattr__") ⟨[.ref x,.str name g,v],[]⟩) R s:=by
 have a:=PySem.F.store_object;obtain⟨i,j,d⟩:=W.any_some c.mr;have m:i.mro.isEmpty=U9:=by cases q:i.mro with|nil=>rw[q]at d;cases d|cons _ _=>rfl
 have sub:YK (UY prog w) s.heap (isInstance (.ref x)<|.type "object") VT:=I.type.andThen (W.looks_mroIn X (by unfold ZW;rw[j,Option.bind_some,dV (by rw[m];decide),Gv d]));refine codeAny_call_builtin a.slot.plain a.entry (@W.check_slot (UY prog w) _ _ s "object.__setattr__" "object" "__setattr__" (.ref x) [.str name g,v] [] _ a.kind a.split sub (a.args (.ref x) (.str name g) v) ?_);have n:YK (UY prog w) s.heap (mroOf<|.ref C) i.mro:=(ZE X j).andThen .now;rw[W.osa_eq,refuse_eq];refine UA<|UA<|I.type.here<|UA<|n.here ?_;rw[xa _ d];refine U2 ?_;have p:YK (UY prog w) s.heap (Builtin.ObjectAttr.storeTaker? Wp) Wp:=.now;have L2:YK (UY prog w) s.heap (XU (.ref C) name) Wp:=W.looks_findIn X<|c.no name o;refine UA<|I.type.here<|UA<|L2.here<|UA<|p.here ?_;exact h _
def JU{fs:Array Ur}(X:K.In s.heap)(g:s.heap.get? x=W1 ⟨.ref C,Wp,.fields fs,#[]⟩)(c:Mg K C ks)(t:name∈ks)
  (h:∀h',h'.get? x=W1 ⟨.ref C,W1 2#s,.fields fs,#[]⟩->h'.Ns1 2#s (λy=>if y=name then W1 v else Wp)->(∀b o,b≠x->s.heap.get? b=W1 o->h'.get? b=W1 o)->Q () { s with heap:=h',toks:=s.toks+2 }) :
  UZ (UY prog w) A (setAttr (.ref x) name v) Q E s:=by
 have J:W.InstAt s.heap x ⟨.ref C,Wp,.fields fs,#[]⟩ C Wp:=⟨g,rfl,rfl,trivial⟩
 refine W.set_plain X J c.sa<|JV (s:={ s with toks:=s.toks+1 }) X J c t λb=>?_;obtain⟨I,z,p⟩:=W.any_some c.hd;refine UA<|U2<|UA<|UA<|wpAny_loadPart g<|UA<|YK.here (s:={ s with toks:=s.toks+1 }) (ZE X z) ?_;rw[p];have a:(s.heap.push Wm).get? x=W1 ⟨.ref C,Wp,.fields fs,#[]⟩:=UC _ g;have d:x≠2#s:=Vh<|UT g;have m:((s.heap.push Wm).update x λo=>{ o with dict:=some 2#s }).get? 2#s=W1 Wm:=(sas _ _ _ _ d.symm).trans<|Heap.get?_push_at rfl rfl;have l:((s.heap.push Wm).update x λo=>{ o with dict:=some 2#s }).Ns 2#s (λ_=>Wp):=⟨_,#[],_,m,rfl,λe u=>ee u 0#3,λ_=>rfl⟩
 have i:((s.heap.push Wm).update x λo=>{ o with dict:=some 2#s }).get? x=W1 ⟨.ref C,W1 2#s,.fields fs,#[]⟩:=Wo _ a rfl;refine UA<|wpAny_alloc'<|UA<|wpAny_update' a<|U2 ?_;refine UA<|U2<|UA<|wpAny_nsSet1 (Heap.Ns1.of_empty l) λh' f r=>?_;obtain⟨oD,G,H,j,n,q⟩:=f.count<|Xi.cons name v Xi.nil;refine UA (wpAny_lookBehind j (by rw[n];exact pastItsLine_dict<|UI q (by rw[UP,WC,sizeLine_eq];omega))<|U2<|h h' ?_ f λb o B e=>?_)
 .exact(r.2 x d).trans i
 .exact(r.2 b<|Vh<|UT e).trans<|(sas _ _ _ _ B).trans<|UC _ e
end
def vZ(a C:UD)(b:Option UD)(h:UQ):Prop:=∃t,h.get? a=W1 ⟨.ref C,b,.fields #[.ref t,.none,.none,.none,.bool U9,.none],#[]⟩
def FZ(a:UD)(fs:List<|UL×V)(h:UQ):Prop:=∃b,h.Ns1 a b/\(∀f,vR (fs.lookup f)<|b f)/\Xi b (fs.map (·.1))
def uF{a C:UD}{d:Option UD}:∀c b:UQ,vZ a C d c->(∀o,c.get? a=W1 o->b.get? a=W1 o)->vZ a C d b:=λ_ _ ⟨t,e⟩ k=>⟨t,k _ e⟩
def Gi{a:UD}{fs:List<|UL×V}:∀c b:UQ,FZ a fs c->(∀o,c.get? a=W1 o->b.get? a=W1 o)->FZ a fs b:=λ_ _ ⟨m,n,r⟩ k=>⟨m,n.at k,r⟩
def Ey{fs:List<|UL×V}{h:UQ}(x:FZ a fs h):∃o,h.get? a=W1 o:=let ⟨_,⟨o,_,_,e,_⟩,_⟩:=x;⟨o,e⟩
def JX{fs:List<|UL×V}{h:UQ}(c:bB y u)(r:∀f,vR (fs.lookup f)<|mA f)(b:Xi mA (fs.map (·.1)))(n:h.Ns1 a<|λz=>if z=f then W1 u else mA z):FZ a (jd f y fs) h:=by
 refine⟨_,n,λg=>?_,λg d=>?_⟩
 .rw[lN]
  by_cases q:g=f
  .rw[dh q];simp only[dh q];exact c
  .rw[dV q];simp only[dV q];exact r g
 .by_cases q:g=f
  .rw[q];exact(kc f y fs).1
  .exact(kc f y fs).2 g (b g λz=>d (by simp only[dV q];exact z))
section
variable {X:Cx}{o value:Vt}{f:UL}{pos pos':Pos}{ta tv:TE}
def T3(K:Uv)(ta tv:TE)(f:UL):TS:=λD c H=>tv c H λy g=>ta c g λx d=>∃a C e,x=.ref a/\d a=W1 (.ext<|vZ a C Wp)/\Mg K C e/\f∈e/\∀b,d b=Wp->D.nx c (upd (upd d a<|.ext<|vZ a C<|W1 b) b<|.ext<|FZ b [(f,y)])
def Qw(Y:PE X o ta)(Q:PE X value tv)(T:V0 value (W1<|.Attribute o f pos') pos.line X.env=pure U9):PS X (.Assign [.Attribute o f pos'] value pos) (T3 X.K ta tv f):=by
 intro r s l H D I h;refine plainObj_wpAny_Assign_Attribute (cW (Q r s l H _ I h) λu G ⟨y,H1,I1,J,q⟩=>cW (Y r G l H1 _ I1 q) λN d z9=>?_) T;obtain⟨x,j,g,L,a,C,ks,ex,E,c,U,M⟩:=z9;subst ex;obtain rfl:N=Vg a:=L;obtain⟨⟨t,B⟩,_,_⟩:=(show cL X.prog X.w j d.heap a (.ext _) from g.hok a _ E)
 have fr:j 2#d=Wp:=g.hok.fresh<|U3 _;have m:2#d≠a:=λz=>WJ _<|z▸UT B;refine JU g.kIn B c U λh' i O A=>⟨l,_,?_,M 2#d fr⟩
 have p:FZ 2#d [(f,y)] h':=JX (fs:=[]) (mA:=λ_=>Wp) J (λ_=>V4) (λ_ z=>ee rfl z) O;have v:Pj (j a):=by rw[E];exact V4
 have e:(upd j a<|.ext<|vZ a C<|W1 2#d) 2#d=Wp:=by rw[aA m];exact fr
 exact g.un (Un.ext (Un.write v (.inl rfl) (λb q n z=>A b q n z) ⟨_,i⟩) e<|Xg<|U3 _)<|gk.ext (g.hok.write (o':=.ext<|vZ a C<|W1 2#d) v (.inl rfl) (λb q n z=>A b q n z) ⟨_,i⟩ ⟨⟨t,i⟩,⟨_,i⟩,uF⟩) e p (Ey p) Gi
end
def PX(c:ci):TA:=λb H Q=>∃a,c.map (λi=>b[i]?)=a.map (λv=>W1<|W1 v)/\Q a H
structure PV (X:Cx) (es:List Vt) (is:ci):Prop where
 o:PA X es (PX is)
section
variable {X:Cx}
def Hu:PV X [] []:=⟨λpos c s b H Q I ⟨a,e,h⟩=>by
 cases a with
 |nil=>exact kL pos c s b H Q I h
 |cons v a=>simp at e⟩
def yz(l:X.N[i]?=W1 y)(g:BX X.env.scope y)(h:PV X es f)(j:1#y:=by decide)(b:3#y:=by decide):PV X (.Name y p::es) (i::f) :=
 ⟨λpos d s c H Q I ⟨a,e,q⟩=>by
  cases a with
  |nil=>simp at e
  |cons v a=>
   simp only[UB,Zi]at e;exact gu (je l g j b) h.o (aW rfl) pos d s c H Q I ⟨v,e.1,a,e.2,q⟩⟩
structure Jy (K:Uv) (CE:UD):Prop where
 rd:W.readsIn K CE (.type "type")=VT
 fc:W.findCls K (.ref CE) (.type "type") "__init__"=W1 (.val (.builtin "ValueError.__init__"))
 sp:Ys K (.ref CE) "__getattribute__"=W1 (W1 (.builtin "type.__getattribute__"))
structure M3 (K:Uv) (C fn:UD):Prop where
 ex:∃CE nm q N bs hdct sn sub ab col dd k0 k1 k2 k3 k5,K.lookup C=W1 (excClassObj nm q C N bs [.ref CE,.type "ValueError",.type "Exception",.type "BaseException",.type "object"] hdct sn sub ab col dd k0 k1 k2 k3 k5 "ValueError.__new__")/\W.nsOkIn K N=VT/\VU K N "__init__"=W1 (W1 (.ref fn)) /\
  ZY K CE [.type "ValueError",.type "Exception",.type "BaseException",.type "object"] "ValueError.__new__"=VT
def K6{K:Uv}{h:UQ}(X:K.In h)(G:h.Ns N a)(e:VU K N n=W1 (W1 v)):a n=W1 v:=by
 obtain⟨o,p,r,b,i,_,f⟩:=G;unfold VU at e;split at e
 .rename_i c d j m l q
  have:=X _ _ q;rw[b]at this;cases this;cases i;split at e
  .rename_i s g
   rw[←f];unfold nsFind findBy;rw[←Array.find?_toList,g];simpa using e
  .split at e<;>cases e
 .cases e
structure S7 (h:UQ) (C fn:UD):Prop where
 ex:∃bm N nm q bs hdct sn sub ab col dd k0 k1 k2 k3 k5 mN,h.get? C=W1 (excClassObj nm q C N bs bm hdct sn sub ab col dd k0 k1 k2 k3 k5 "ValueError.__new__")/\h.Ns N mN/\mN "__init__"=W1 (.ref fn)/\OwnTail h [.type "ValueError",.type "Exception",.type "BaseException",.type "object"] bm
def GF{K:Uv}{CE:UD}{h:UQ}(X:K.In h)(q:ZY K CE [.type "ValueError",.type "Exception",.type "BaseException",.type "object"] "ValueError.__new__"=VT):OwnTail h [.type "ValueError",.type "Exception",.type "BaseException",.type "object"] [.ref CE,.type "ValueError",.type "Exception",.type "BaseException",.type "object"]:=by
 unfold ZY at q;split at q
 .rename_i d e c b
  split at q
  .simp only[US,beq_iff_eq,Bool.not_eq_true']at q
   obtain⟨⟨⟨⟨_,_⟩,_⟩,hok⟩,a⟩:=q;exact .own (X _ _ b) (.of_isNs<|ZX X hok) (W.nsMap_none_of_in X hok a) .base
  .cases q
 .cases q
def Dd{K:Uv}{h:UQ}(X:K.In h)(q:M3 K C fn):S7 h C fn:=by
 obtain⟨CE,nm,d,N,bs,a,c,sub,o,b,n,i,g,k2,f,e,j,hok,l,m⟩:=q.ex;exact⟨_,N,nm,d,bs,a,c,sub,o,b,n,i,g,k2,f,e,_,X _ _ j,.of_isNs<|ZX X hok,K6 X (.of_isNs<|ZX X hok) l,GF X m⟩
def T2(K:Uv)(t:TA):TE:=λc H Q=>t c H λd b=>∃a C rest fn,d=.ref a::rest/\rest.length<=line/\b a=W1 (.ext<|vZ a C Wp)/\M3 K C fn/\Q .non (upd b a<|.ext<|vZ a C Wp)
def QB{CE:UD}(b:Jy X.K CE)(hg:Gl X l)(hm:X.mg l=W1 (.ref CE))(ha:PA X (e::es) t)(n:1#l:=by decide)
  (he:UJ (e::es) X.env=(U9,eval e X.env)::UJ es X.env:=by exact aW rfl)(m:(VQ c<|UJ es X.env).any (·.1)=U9:=by exact cC rfl)
  (ht:eval (.Call (.Attribute (.Name l A) "__init__" apos) (e::es) [] c) X.env=(do
   let z ←eval (.Name l A) X.env
   standAt apos.atName
   let (f,first) ←Yr [z] (getMethod z "__init__" pl)
   callWith c f first (VQ c<|UJ (e::es) X.env) (YE c<|Xz [] X.env)):=by rfl) :
  PE X (.Call (.Attribute (.Name l A) "__init__" apos) (e::es) [] c) (T2 X.K t):=by
 intro M s L H Q I h;refine W.methodCall_KW (pl:=pl) (iU I hg hm (W.method_cls I.kIn b.sp<|W.cls_value I.kIn b.rd b.fc rfl ?_) n) ht;have I0:=I.tok<|s.toks+1;have G:=ha c M _ L H _ I0 h;rw[he]at G ⊢;refine sab (by show(U9||(VQ c<|UJ es X.env).any (·.1))=U9;rw[m];rfl)<|YJ<|cW G λO y ⟨vs,v,p,r,a,C,rest,fn,ev,hl,J,hx,q⟩=>?_;subst ev;obtain⟨_,j,rfl,U,r'⟩:∃u j,O=u::j/\bB (.ref a) u/\bo rest j:=by cases r with|cons r1 Y=>exact⟨_,_,rfl,r1,Y⟩
 obtain rfl:_=Vg a:=U;obtain⟨bm,N,nm,qn,bs,E,sn,sub,ab,an,dd,k0,k1,k2,k3,k5,mN,hC,hn,hi,T⟩:=(Dd p.kIn hx).ex;obtain⟨⟨t0,i⟩,_,_⟩:=(show cL X.prog X.w v y.heap a (.ext _) from p.hok a _ J)
 have F:=Yh;have hz:j.length<=sizeLine:=by rw[←r'.length];exact fF hl
 obtain⟨B,g,d,tk,os⟩:=y;refine wpAny_call (codeAny_call_builtin F.init.plain F.initEntry<|wpAny_check_init_subT F T hC i rfl ?_)
 wp_walk
 have mu:Pj (v a):=by rw[J];exact V4
 have ah:a≠B.objs.size:=Vh<|UT i;refine⟨.non,upd v a<|.ext<|vZ a C Wp,p.write (o:=.ext<|vZ a C Wp) (x:=a) (e:=a) mu (.inl rfl) (λb u hb e=>(Wl _ _<|Vw hb).trans<|UC _ e) ⟨_,Wo _ (UC _ i) rfl⟩ ⟨⟨B.objs.size,?_⟩,⟨_,Wo _ (UC _ i) rfl⟩,uF⟩,rfl,q⟩;rw[Wo _ (UC _ i) rfl];rfl
end
section
variable {X:Cx}
noncomputable def TN(K:Uv) (fs:bv) (g:ci):TS:=λD c H=>∃a C b l e d,c[0]?=W1 (W1<|V.ref a)/\H a=W1 (.ext<|vZ a C<|W1 b)/\H b=W1 (.ext<|FZ b l)/\b≠a/\Mg K C e/\(∀f∈fs,f∈e)/\l.length+fs.length<1000/\fs.length=d.length /\
 g.map (λi=>c[i]?)=d.map (λv=>W1<|W1 v)/\D.nx c (upd H b<|.ext<|FZ b<|putAll fs d l)
structure XR (X:Cx) (sts:List WE) (fs:bv) (is:ci):Prop where
 o:zE X sts (TN X.K fs is)
def Gf:XR X [] [] []:=⟨j9 yA λD e H ⟨a,C,r,l,f,b,p,o,d,n,m,j,i,c,g,q⟩=>by
 cases b with
 |nil=>unfold putAll at q;rwa[sW d]at q
 |cons v b=>simp at c⟩
noncomputable def TQ(K:Uv) (ks:bv) (e:ci):TS:=λD c H=>∃a C fn d,c[0]?=W1 (W1<|V.ref a)/\H a=W1 (.ext<|vZ a C Wp)/\Mg K C ks/\M3 K C fn/\ks.length=d.length/\ks.length<=60 /\
 e.map (λi=>c[i]?)=d.map (λv=>W1<|W1 v)/\∀b,H b=Wp->D.nx c (upd (upd H a<|.ext<|vZ a C<|W1 b) b<|.ext<|FZ b<|putAll ks d [])
structure XB (X:Cx) (sts:List WE) (ks:bv) (is:ci):Prop where
 o:zE X sts (TQ X.K ks is)
def Mu{fs:bv}{CE:UD}(b:Jy X.K CE)(L:Gl X m)(hm:X.mg m=W1 (.ref CE))(I:PV X es (i::E))(hN:X.N[i]?=W1 y)(t:X.N[0]?=W1 x)(hv:BX X.env.scope y)(r:BX X.env.scope x)(h:XR X A fs E)
  (hd:1#y:=by decide)(O:3#y:=by decide)(hd0:1#x:=by decide)(e:3#x:=by decide)(M:1#m:=by decide)
  (hs:V0 (.Name y p3) (W1<|.Attribute (.Name x p1) f p2) pos.line X.env=pure U9:=by rfl)(G:V0 (.Call (.Attribute (.Name m B) "__init__" apos) (.Name x d::es) [] c) Wp n.line X.env=pure U9:=by rfl)(J:(VQ c<|UJ es X.env).any (·.1)=U9:=by exact cC rfl)
  (ht:eval (.Call (.Attribute (.Name m B) "__init__" apos) (.Name x d::es) [] c) X.env=(do
   let Y ←eval (.Name m B) X.env
   standAt apos.atName
   let (f,first) ←Yr [Y] (getMethod Y "__init__" pl)
   callWith c f first (VQ c<|UJ (.Name x d::es) X.env) (YE c<|Xz [] X.env)):=by rfl) :
  XB X (.Expr (.Call (.Attribute (.Name m B) "__init__" apos) (.Name x d::es) [] c) n::.Assign [.Attribute (.Name x p1) f p2] (.Name y p3) pos::A) (f::fs) (i::E):=by
 refine⟨j9 (og (yB (QB b L hm (yz (p:=d) t r I hd0 e).o M (aW rfl) J ht) G) (og (Qw (je t r hd0 e) (je hN hv hd O) hs) h.o)) λD U H ⟨a,C,fn,j,Q,w,h3,h4,h5,h6,u,q⟩=>?_⟩;refine⟨.ref a::j,(show U[0]?::(i::E).map (λi=>U[i]?)=W1 (W1<|V.ref a)::j.map (λv=>W1<|W1 v) by rw[Q,u]),a,C,j,fn,rfl,?_,w,h4,?_⟩
 .have:j.length<=60:=by omega
  exact UI this 0#1
 .cases j with
  |nil=>simp at h5
  |cons v j=>
   simp only[UB,Zi]at u;simp only[UP]at h5 h6;rw[sW w];refine⟨v,u.1,.ref a,Q,a,C,f::fs,rfl,w,h3,Uu,λT l=>?_⟩;have s:T≠a:=λz=>by subst z;rw[w]at l;cases l
   refine⟨a,C,T,[(f,v)],f::fs,j,Q,?_,aG,s,h3,λg L=>Up _ L,?_,by omega,u.2,?_⟩
   .rw[aA s.symm,aG]
   .simp only[UP,WC];omega
   .rw[mB]
    have:=q T l;unfold putAll at this;exact this
end
noncomputable def GO(K:Uv) (ks:bv):Sp:=λc H Q _=>∃a C fn args,c=.ref a::args/\args.length=ks.length/\H a=W1 (.ext<|vZ a C Wp)/\Mg K C ks/\M3 K C fn/\∀b,H b=Wp->Q .non (upd (upd H a<|.ext<|vZ a C<|W1 b) b<|.ext<|FZ b<|putAll ks args [])
def MS{K:Uv}{st:WE}{ps:bv}(F:BU K x qual st f t)(S:eJ ps ps<|defScope st)(e:ps.length=ks.length+1)(p:ks.length<=60)
  (c:∀(d:Ur) (A:VD) (outer:List VI) (s0:UH) (H:Hp) (E:XK),XB (gE CX0 P w K m base ps qual (defScope st) f d A outer s0 H E).nox (defBody st) ks ((VO ks.length).map (· + 1))):gi P w K m base CX0 1 f t ps (GO K ks):=by
 refine F.ok S (λl H Q E h=>?_) λd A outer s0 H l Q E u h=>?_
 .obtain⟨a,C,fn,args,rfl,g,_⟩:=h
  simp[g,e]
 .obtain⟨a,C,fn,args,rfl,g,r,s,n,q⟩:=h
  refine⟨_,(c d A outer s0 H E).o,a,C,fn,args,?_,r,s,n,g.symm,p,?_,q⟩
  .unfold L2.start;simp
  .unfold L2.start
   apply WT;intro i;simp only[Uw,Ve]
   by_cases j:i<ks.length
   .have b:i<args.length:=by omega
    simp[j,b,U0,Vu]
   .have b:¬i<args.length:=by omega
    simp[j,b]
section
variable {prog:Vv}{w:VL}{A:VD}{E:Ur->UH->Prop}{s:UH}{env:VI}
variable {nm q:UL}{C N:UD}{bs bm bmB:List Ur}{hdct:Bool}{sn:bv}{sub:List Ur}{ab:Bool}{col:Option Bool}{dd:Option UD}{k0 k1 k2 k3 k5:Option Ur}{B newId initId:String}{mN:UL->Option Ur}{fI:UD}{oI:Obj}
def Gh(F:ExcBaseFacts B newId initId bmB)(l:bm.contains (.type "BaseException")=VT)(M:A.handled=Wp)(c:(VQ j<|UJ args env).any (·.1)=U9)(hi:mN "__init__"=W1 (.ref fI))
  (h:UZ (UY prog w) A (eval (.Name x H) env) (λf y=>f=.ref C/\UZ (UY prog w) A (evalArgs (.ref C) VT (VQ j<|UJ args env) []) (λa i=>a.kw=[]/\a.pos.length<=sizeLine/\i.heap.get? C=W1 (excClassObj nm q C N bs bm hdct sn sub ab col dd k0 k1 k2 k3 k5 newId)/\i.heap.Ns N mN/\OwnTail i.heap bmB bm/\i.heap.get? fI=W1 oI/\oI.cls=.type "function" /\
    ∀h' e,Zx i.heap h' e (.ref C) a.pos->UZ (UY prog w) (A.under<|.builtin "type.__call__" ⟨.ref C::a.pos,[]⟩) (call (.ref fI) (.ref e::a.pos)) (λr s'=>r=.none/\s'.heap.get? C=W1 (excClassObj nm q C N bs bm hdct sn sub ab col dd k0 k1 k2 k3 k5 newId)/\(∃p t,s'.heap.get? e=W1 ⟨.ref C,p,.fields #[.ref t,.none,.none,.none,.bool U9,.none],#[]⟩)/\E (.ref e) s') E { i with heap:=h' }) E y) E s) :
  UZ (UY prog w) A (exec (.Raise (W1<|.Call (.Name x H) args [] j) Wp pos) env) Q E s:=by
 rw[arm_exec_Raise];refine UA<|wpAny_standAt<|Gg (C:=C) (nm:=nm) (q:=q) (N:=N) (bs:=bs) (bm:=bm) (hdct:=hdct) (sn:=sn) (sub:=sub) (ab:=ab) (col:=col) (dd:=dd) (k0:=k0) (k1:=k1) (k2:=k2) (k3:=k3) (k5:=k5) (newId:=newId) l M<|UA<|VH (wpAny_Call_ofName (VH h (λf y b=>?_) λ_ _ x=>x)) (λv sk Y=>UA (wpAny_standAt (U2 Y))) λ_ _ x=>x;obtain⟨rfl,b⟩:=b;unfold callWith;refine UA<|Wf<|VH b (λ⟨apos,u⟩ i ⟨m,hlen,G,J,T,O,n,hR⟩=>UA (wpAny_standAt ?_)) λ_ _ x=>x;obtain rfl:u=[]:=m;obtain⟨hp,g,d,tk,os⟩:=i;simp only[c];refine UA<|wpAny_keeperOf_exc G<|UA<|JW F T G J hi O n hlen λh' e L=>VH (hR h' e L) (λr s' I=>?_) λ_ _ z=>z;obtain⟨rfl,o,⟨p,t,U⟩,hE⟩:=I;exact⟨rfl,UA<|Wf<|wpAny_point<|U2 ⟨e,p,t,rfl,o,U,hE⟩⟩
end
structure vQ (K:Uv) (x:UL) (C:UD):Prop where
 i:qH K x C
 cls:VW K (.ref C) "__class__"=W1 (W1 (.builtin "object.__class__"))
 ga:VW K (.ref C) "__getattribute__"=W1 (W1 (.builtin "BaseException.__getattribute__"))
 gt:VW K (.ref C) "__getattr__"=W1 Wp
 t1:Wv K (.ref C) (.type "NoneType")=W1 U9
 t2:Wv K (.ref C) (.type "bool")=W1 U9
 t3:Wv K (.ref C) (.type "int")=W1 U9
 t4:Wv K (.ref C) (.type "str")=W1 U9
 t5:Wv K (.ref C) (.type "tuple")=W1 U9
 t6:Wv K (.ref C) (.type "list")=W1 U9
 t7:Wv K (.ref C) (.type "dict")=W1 U9
 ve:Wv K (.ref C) (.type "ValueError")=W1 VT
 self:Wv K (.ref C) (.ref C)=W1 VT
def vQ.xc{K:Uv}(Z:vQ K x C):XC K x C :=
 ⟨Z.i.ns,⟨Z.cls,Z.ga,Z.gt,Z.i.ob,Z.i.be⟩,λT a=>by
  refine Iw (qY T a) ?_;simp only[iI,UG,Xj,eo]at a;rcases a with rfl|rfl|rfl|rfl|rfl|rfl|rfl
  all_goals first|exact Z.t1|exact Z.t2|exact Z.t3|exact Z.t4|exact Z.t5|exact Z.t6|exact Z.t7⟩
def Na{K:Uv}(z:M3 K C fn)(b:VW K (.ref C) "__setattr__"=W1 (W1<|.builtin "object.__setattr__"))(d:X2 K C=VT)(no:∀f∈ks,fP K C f):Mg K C ks:=by
 obtain⟨CE,nm,i,N,bs,a,g,sub,p,e,o,n,m,k2,l,j,c,_⟩:=z.ex;refine⟨b,d,?_,no⟩;unfold W.clsIn;rw[c];rfl
section
variable {P:Vv}{w:VL}{K:Uv}{mg:UL->Option Ur}{base:UQ}{N:bv}{qual:UL}{scope:X3}{f:UD}{cd:Ur}{A:VD}{outer:List VI}{s0:UH}{H0:Hp}{E:XK}{He η:Hp}
def IB{h:UQ}(ok:gk P w (upd (upd H e j) g i) h)(n:H e=Wp)(p:H g=Wp)(m:∀b,j≠.own b)(l:∀b,i≠.own b)(m1:∀b,j≠.tup b)(m2:∀b,i≠.tup b)(s:∀o,j≠.tbl o:=by intro _ z;cases z)(r:∀o,i≠.tbl o:=by intro _ z;cases z):gk P w H h:=λa o q=>by
 have v:a≠e:=λz=>by subst z;rw[n]at q;cases q
 have t:a≠g:=λz=>by subst z;rw[p]at q;cases q
 refine(ok a o (by rw[aA t,aA v];exact q)).stay (λb u _ z=>z) (λb z=>?_) (λb xs z=>?_) λb o z=>?_
 .by_cases c:b=g
  .subst c;rw[aG]at z;exact ee (Vp z)<|l _
  .rw[aA c]at z
   by_cases d:b=e
   .subst d;rw[aG]at z;exact ee (Vp z)<|m _
   .rwa[aA d]at z
 .by_cases c:b=g
  .subst c;rw[aG]at z;exact ee (Vp z)<|m2 _
  .rw[aA c]at z
   by_cases d:b=e
   .subst d;rw[aG]at z;exact ee (Vp z)<|m1 _
   .rwa[aA d]at z
 .by_cases c:b=g
  .subst c;rw[aG]at z;exact ee (Vp z)<|r _
  .rw[aA c]at z
   by_cases d:b=e
   .subst d;rw[aG]at z;exact ee (Vp z)<|s _
   .rwa[aA d]at z
def F1{fs:List UD}{h a:UQ}(u:Un fs [] H b h a):Un fs [] H H h a:=⟨u.keep,u.slot,λ_ _ _ n _=>n,u.there,λ_ _ q=>q,λ_ _ _ q=>q,λ_ ps q=>⟨#[],by rw[q];simp⟩⟩
end
def MK(e:ZV):Bool:=match e.key with
 |.str _ _=>VT
 |_=>U9
def Nc{K:Uv}{C CE fn N:UD}{nm q:UL}{bs sub:List Ur}{k0 k1 k2 k3 k5:Option Ur}{st:Array<|Option Ur}
  (d:K.lookup C=W1 (excClassObj nm q C N bs [.ref CE,.type "ValueError",.type "Exception",.type "BaseException",.type "object"] hdct sn sub ab col dd k0 k1 k2 k3 k5 "ValueError.__new__"))(c:K.lookup N=W1 ⟨g,dn,.dict es f,st⟩)(a:es.toList.all MK=VT)(b:VU K N "__init__"=W1 (W1<|.ref fn))
  (e:ZY K CE [.type "ValueError",.type "Exception",.type "BaseException",.type "object"] "ValueError.__new__"=VT):M3 K C fn:=by
 refine⟨CE,nm,q,N,bs,hdct,sn,sub,ab,col,dd,k0,k1,k2,k3,k5,d,?_,b,e⟩;unfold W.nsOkIn;rw[c];rwa[Array.all_toList]at a
section
variable {X:Cx}{E:XK}{a b o:Vt}{f g fo:al}{pos:Pos}
def Ef:D->D->aw D:=yY (λ_ _=>VT) λi j=>.int<|Ym i j
def LL(d:DE X E a f)(c:DE X E b g):DE X E (.BinOp a .BitAnd b pos) (aa f g Ef):=rg Od (c4 λ_ _ _ _=>ri _) d c
end
def iN(x:UL)(ks:bv)(c:Ev->aw (ac)):am:=λb=>(c (iD b)).bind λa=>if a.length=ks.length then .exn ⟨x,ks.zip a⟩ else .stuck
theorem zN{K:Uv}{H:Hp}:∀{ks:bv}{ds:ac}{vs:ad}{n:UL}{d:D},Reps K H ds vs->(ks.zip ds).lookup n=W1 d->∃v,(ks.zip vs).lookup n=W1 v/\Rep K H d v
 |[],ds,vs,n,d,r,h=>by rw[List.zip_nil_left]at h;cases h
 |k::ks,[],vs,n,d,r,h=>by rw[List.zip_nil_right]at h;cases h
 |k::ks,e::ds,vs,n,d,r,h=>by
  obtain⟨v,a,rfl,c,b⟩:=aC.mp r;rw[VS,VF]at h;rw[VS];cases q:n==k with
  |true=>rw[q]at h;cases h;exact⟨v,by rw[VF,q],c⟩
  |false=>
   rw[q]at h;obtain⟨u,g,f⟩:=zN b h;exact⟨u,by rw[VF,q];exact g,f⟩
def gk.xd(ok:gk P w H g){fs:List<|UL×V}(d:H a=Wp)(p:FZ a fs g):gk P w (upd H a<|.xd fs) g:=λb u e=>by
 by_cases f:b=a
 .subst f;rw[aG]at e;cases e;obtain⟨m,n,r,_⟩:=p;exact⟨m,n,r⟩
 .rw[aA f]at e
  exact(ok b u e).stay (λc v _ q=>q) (λc q=>by rw[aA (aP q d)];exact q) (λc xs q=>by rw[aA (aP q d)];exact q) λc xs q=>by rw[aA (aP q d)];exact q
section
variable {P:Vv}{w:VL}{K:Uv}{mg:UL->Option Ur}{base:UQ}{N:bv}{qual:UL}{scope:X3}{f:UD}{cd:Ur}{A:VD}{outer:List VI}{s0:UH}{H0:Hp}{E:XK}{He η:Hp}
def qp{k:Nat}{ps ks:bv}(xc:XC K x C)(z:M3 K C fn)(st:Mg K C ks)(b3:W.isFn K (.ref fn)=VT)(F:gi P w K mg base CX0 k fn fd ps<|GO K ks)(hb:iC K fd ps [])(ca:ks.length<=60)(b0:ks.Nodup)(hr:cZ (k+1) (gE (p0 P w) P w K mg base N qual scope f cd A outer s0 H0 E).A)(hm:mg x=W1 (.ref C))(hh:A.handled=Wp)
  (hg:Gl (gE (p0 P w) P w K mg base N qual scope f cd A outer s0 H0 E) x)(ha:DA (gE (p0 P w) P w K mg base N qual scope f cd A outer s0 H0 E) E (e::es) fa)
  (b5:1#x:=by decide)(he:UJ (e::es) (gE (p0 P w) P w K mg base N qual scope f cd A outer s0 H0 E).env=(U9,eval e (gE (p0 P w) P w K mg base N qual scope f cd A outer s0 H0 E).env)::UJ es (gE (p0 P w) P w K mg base N qual scope f cd A outer s0 H0 E).env:=by exact aW rfl)
  (bq:(VQ M<|UJ es (gE (p0 P w) P w K mg base N qual scope f cd A outer s0 H0 E).env).any (·.1)=U9:=by exact cC rfl) :
  DS (gE (p0 P w) P w K mg base N qual scope f cd A outer s0 H0 E) E He η (.Raise (W1<|.Call (.Name x np) (e::es) [] M) Wp pos) (iN x ks fa):=by
 refine⟨?_⟩;intro π s σ H D I ⟨Ha,ρ,Y,q⟩;obtain⟨bm,Nn,nm,qn,bs,as,sn,sub,ab,bc,dd,k0,k1,k2,k3,k5,mN,hC,hN,hi,T⟩:=(Dd I.ok.mod.kin z).ex;obtain⟨oI,bx,bt⟩:∃oI,base.get? fn=W1 oI/\oI.cls=.type "function":=by
  have:=beq_iff_eq.mp b3;obtain⟨o,ho,hc⟩:=XJ.mp this;exact⟨o,I.ok.mod.kin _ _ ho,hc⟩
 refine Gh (C:=C) (nm:=nm) (q:=qn) (N:=Nn) (bs:=bs) (bm:=bm) (hdct:=as) (sn:=sn) (sub:=sub) (ab:=ab) (col:=bc) (dd:=dd) (k0:=k0) (k1:=k1) (k2:=k2) (k3:=k3) (k5:=k5)
  Yh (mN:=mN) (oI:=oI) (T.hasType Yh.hasBase) hh (by rw[he];show(U9||(VQ M<|UJ es (gE (p0 P w) P w K mg base N qual scope f cd A outer s0 H0 E).env).any (·.1))=U9;rw[bq];rfl) hi (iU I hg hm ⟨rfl,?_⟩ b5)
 have hq:tM K E H (frz He Ha H) (fa<|iD ρ) (λB p=>B.length=ks.length/\∀j,p j=Wp->E (.ref C) (W1 j) (upd p j<|.xd<|ks.zip B)):=by
  unfold iN at q;cases e1:fa (iD ρ) with
  |stuck=>rwa[e1]at q|exn z=>rw[e1]at q;exact λC ox H' b9 g ex=>q C ox H' b9 (Y.frz_grow.trans g) ex
  |ok ds=>
   rw[e1]at q;intro B p cb g rp;have q:bZ K E He η Ha (if ds.length=ks.length then aw.exn ⟨x,ks.zip ds⟩ else .stuck) D:=q
   by_cases hl:ds.length=ks.length
   .rw[dh hl]at q
    refine⟨by rw[←rp.length];exact hl,λj m=>?_⟩;have ga:=bg (o:=.xd<|ks.zip B) g.sub m;refine q (.ref C) (W1 j) _ _ (Y.frz_grow.trans<|g.trans ga) ⟨⟨C,rfl,xc⟩,ks.zip B,aG,λn d hn=>?_⟩;obtain⟨v,k1,k2⟩:=zN rp hn;exact⟨v,k1,k2.mono ga.z⟩
   .rw[dV hl]at q;exact q.elim
 have h1:=ha.o M π s σ H _ I ⟨frz He Ha H,iD ρ,Y.frz_le,Y.looks,hq⟩;rw[he]at h1 ⊢;refine YJ<|VH h1 (λus s2 h2=>?_) λ_ _ y=>y;obtain⟨B,p,U,rv,hl,hE⟩:=h2;have hz:us.length<=sizeLine:=by rw[←rv.length,hl,sizeLine_eq];omega
 refine⟨rfl,hz,U.bk _ _ hC,hN.keeps U.bk,T.keeps U.bk,U.bk _ _ bx,bt,λh' i hx=>?_⟩;have hn:p i=Wp:=by
  cases q:p i with|none=>rfl|some o=>obtain⟨u,hu⟩:=cL.there<|U.hok i o q;rw[hx.new]at hu;cases hu
 obtain⟨t,ht,_,_⟩:=hx.there;have bi:vZ i C Wp h':=⟨t,ht⟩
 have un1:Un (jx (gE (p0 P w) P w K mg base N qual scope f cd A outer s0 H0 E).stack) [] p (upd p i<|.ext<|vZ i C Wp) s2.heap h':=Un.ext (Un.kept hx.keeps) hn hx.new;have I2:Inv (gE (p0 P w) P w K mg base N qual scope f cd A outer s0 H0 E) π σ (upd p i<|.ext<|vZ i C Wp) { s2 with heap:=h' } :=
  U.call' (ch:=[]) rfl un1 (gk.ext (U.hok.kept hx.keeps) hn bi ⟨_,ht⟩ uF) U.bare (λ_ z=>nomatch z)
 have a4:bo (V.ref i::B) (Vg i::us):=.cons rfl rv;have a9:GO K ks (V.ref i::B) (upd p i<|.ext<|vZ i C Wp) (λv H2=>v=.non/\∃j,p j=Wp/\j≠i/\H2=upd (upd (upd p i<|.ext<|vZ i C Wp) i<|.ext<|vZ i C<|W1 j) j (.ext<|FZ j<|putAll ks B [])) E :=
  ⟨i,C,fn,B,rfl,hl,aG,st,z,λj m=>by
   have c:j≠i:=λc=>by rw[c,aG]at m;cases m
   rw[aA c]at m;exact⟨rfl,j,m,c,rfl⟩⟩
 have b1:(Vg i::us).length=ps.length:=by rw[←a4.length];exact F.len _ _ _ _ a9
 have bb:=hb { s2 with heap:=h' } (Vg i::us) I2.kIn (by simpa using b1);rw[VN]at bb;refine wpAny_call<|codeAny_mono (F.run _ _ { s2 with heap:=h' } _ ⟨Vg i::us,[]⟩ (Vg i::us) _ _ E (hr.make C us []) (I2.env0.make C us []) bb a4 a9) λr Q a3=>?_;cases r with
 |error e=>exact Vz a3
 |ok fl=>
  cases fl with
  |next|brk|cont=>exact Vz a3
  |ret u=>
   obtain⟨v,H2,a6,O,a2,G,a5,rfl,j,m,J,rfl⟩:=a3;obtain rfl:u=Wa:=a5;rw[mB]at G a2;have a1:=F1<|un1.trans a2;have ap:gk P w p Q.heap:=IB G hn m (λ_ z=>by cases z) (λ_ z=>by cases z) (λ_ z=>by cases z) (λ_ z=>by cases z);obtain⟨⟨t3,a7⟩,_,_⟩:=(show cL P w _ Q.heap i (.ext<|vZ i C<|W1 j) from G i _<|by rw[aA J.symm,aG])
   have I3:=U.call' (ch:=[]) a6 a1 ap O<|λ_ z=>nomatch z;refine⟨rfl,I3.bk _ _ hC,⟨_,t3,a7⟩,?_⟩;have b2:=Ls (l:=envOfC qual scope 2#s0 f cd::outer);have ba:Q.heap.FunFrames (ZP Q.heap (i::jx (envOfC qual scope 2#s0 f cd::outer))) (envOfC qual scope 2#s0 f cd::outer):=W.funFrames_hide I3.stack λenv he a hf=>Up _<|b2 env he a hf;have a8:(ZP Q.heap (i::jx (envOfC qual scope 2#s0 f cd::outer))).StaysIn Q.heap:=λb o q=>W.of_hideAll _ q;have b4:(ZP Q.heap (i::jx (envOfC qual scope 2#s0 f cd::outer))).get? i=Wp:=W.hideAll_none _<|.head _;obtain⟨pX,_,_⟩:=(show cL P w _ Q.heap j (.ext<|FZ j<|putAll ks B []) from G j _ aG)
   rw[nB b0 (λ_ _ z=>by simp at z) hl.symm,V8]at pX;have an:=gk.xd ap m pX;have ah:s2.heap.get? j=Wp:=by
    cases qd:s2.heap.get? j with
    |none=>rfl
    |some o=>
     have:=a2.free j o (hx.keeps j o qd) (by rw[aA J];exact m) 0#3;rw[aG]at this;cases this
   have be:=Un.ext (o:=.xd<|ks.zip B) a1 m ah;refine CU (a0:=.ref t3) I3.ok.frames ba rfl a7 a8 b4 rfl rfl rfl (λ_=>rfl) λh4 b7 bd b8=>?_;refine MT rfl U (s1:=Q) (H1:=upd p j<|.xd<|ks.zip B) a6 O be an (by rw[aA J.symm];exact hn) a8 ba (λb hb L=>?_) b7 bd ⟨W1 j,⟨W1 j,b8,.inr rfl⟩,hE j m⟩;have b6:b≠i:=λc=>by
    subst c;rcases L with L|⟨o,L⟩
    .exact L (by rw[aA J.symm];exact hn)
    .rw[hx.new]at L;cases L
   have bp:∃o,Q.heap.get? b=W1 o:=by
    rcases L with L|⟨o,L⟩
    .cases q:(upd p j<|.xd<|ks.zip B) b with
     |none=>exact ee q L
     |some o=>exact cL.there<|an b o q
    .exact a1.there b o L 0#3
   obtain⟨o,q⟩:=bp;exact⟨o,W.hideAll_get _ q<|List.not_mem_cons_of_ne_of_not_mem b6 hb⟩
end
def SE{c:Type}{b:List c}(h:b.length=1):∃a,b=[a]:=List.length_eq_one_iff.mp h
def RO{d:Type}{c:List d}(h:c.length=2):∃a b,c=[a,b]:=by
 cases c with|nil=>cases h|cons a c=>obtain⟨b,rfl⟩:=SE<|Yd h;exact⟨a,b,rfl⟩
def Ts{e:Type}{d:List e}(h:d.length=3):∃a b c,d=[a,b,c]:=by
 cases d with|nil=>cases h|cons a d=>obtain⟨b,c,rfl⟩:=RO<|Yd h;exact⟨a,b,c,rfl⟩
def Tr{f:Type}{e:List f}(h:e.length=4):∃a b c d,e=[a,b,c,d]:=by
 cases e with|nil=>cases h|cons a e=>obtain⟨b,c,d,rfl⟩:=Ts<|Yd h;exact⟨a,b,c,d,rfl⟩
def Ua{g:Type}{f:List g}(h:f.length=5):∃a b c d e,f=[a,b,c,d,e]:=by
 cases f with|nil=>cases h|cons a f=>obtain⟨b,c,d,e,rfl⟩:=Tr<|Yd h;exact⟨a,b,c,d,e,rfl⟩
def T9{i:Type}{g:List i}(h:g.length=6):∃a b c d e f,g=[a,b,c,d,e,f]:=by
 cases g with|nil=>cases h|cons a g=>obtain⟨b,c,d,e,f,rfl⟩:=Ua<|Yd h;exact⟨a,b,c,d,e,f,rfl⟩
def T8{j:Type}{i:List j}(h:i.length=7):∃a b c d e f g,i=[a,b,c,d,e,f,g]:=by
 cases i with|nil=>cases h|cons a i=>obtain⟨b,c,d,e,f,g,rfl⟩:=T9<|Yd h;exact⟨a,b,c,d,e,f,g,rfl⟩
end DL
namespace Com
open PySem L2 DL
def Du(x:UL)(ks:bv)(ds:ac):aw Fl:=if ds.length=ks.length then .exn ⟨x,ks.zip ds⟩ else .stuck
def qm:iN x ks a ρ=(a<|iD ρ).bind (Du x ks):=rfl
def nK:Du x [f] [d]=.exn ⟨x,[(f,d)]⟩:=dh rfl
end Com
namespace DL
open PySem PySem.Spec PyProof.Rows L2
def Tt(d:D):Bool:=match d with
 |.dic [] []=>VT
 |_=>U9
def Sy(x y:D):Bool:=(Tt x&&Tt y)||(br 39 x&&br 39 y)
section
variable {X:Cx}{E:XK}{He η:Hp}{e:Vt}{f:al}{is:ci}{es:List Vt}{pos:Pos}
def zT(is:ci)(ρ:Ev)(d:D):aw Fl:=if jS d=VT then(match iO is.length d with
 |some a=>.ok<|.nx<|eU ρ is a
 |none=>.stuck) else .stuck
def Dp(is:ci)(f:al):am:=λa=>(f<|iD a).bind<|zT is a
def LB{k:Nat}(B:X.calm=VT)(A:DE X E e f)(h:F2 X es<|Pp is)(x:swapsWithSole [.Tuple es k i] e pos.line X.env=pure U9:=by rfl)(hw:swappedStores [.Tuple es k i] e X.env=pure Wp:=by rfl)
  (G:(assignEach [.Tuple es k i] X.env).map (·.2)=[assign (.Tuple es k i) X.env]:=by rfl)(y:(assignEach es X.env).length=is.length:=by rfl)(l:(assignEach es X.env).findIdx? (·.1)=Wp:=by rfl) :
  DS X E He η (.Assign [.Tuple es k i] e pos) (Dp is f):=by
 refine⟨?_⟩;refine cH (HC A.o (HG B h y l) x hw G) λD L H z9=>?_;obtain⟨p,r,h,q⟩:=z9;refine⟨frz He p H,iD r,h.frz_le,h.looks,?_⟩
 refine look (k:=zT is r) h q λd v I J _ g t c=>?_;unfold zT at c
 by_cases m:jS d=VT
 .rw[dh m]at c
  have C:aE p J:=h.frz_sub.trans g.z;have j:=t.flat_to (zB C) m;cases n:iO is.length d with
  |none=>rw[n]at c;exact c.elim
  |some M=>
   rw[n]at c;obtain⟨a,s,rfl,w,k2,u⟩:=qR n j;exact⟨a,s,rfl,Ab (h.behind g).g.sub w,k2,c _ I (kD p J) (λb o e=>by unfold kD;rw[e])<|(h.behind g).putAll u⟩
 .rw[dV m]at c;exact c.elim
end
structure FT (K:Uv) (mg:UL->Option Ur) (x:UL) (st:WE) (ps:bv) (a:UD) (d:VX):Prop where
 F:BU K x x st a d
 b:iC K d ps []
 g:mg x=W1 (.ref a)
noncomputable def QA(K:Uv) (x:UL) (st:WE) (a:UD):Prop:=VU K UU x=W1 (W1<|.ref a)/\X0 K (.ref a)=VT/\∃f kV g d b ct e i c,K.lookup a=W1 ⟨f,e,.func<|Xn x x (defArgs st) (defBody st) (defScope st) .none kV g d i b ct,c⟩/\Zp K b x=VT
def Q5{K:Uv}{h:UQ}{st:WE}{ps:bv}(X:K.In h)(G:h.Ns UU l)(q:QA K x st a)
  (m:∀(kV doc c:Ur) (e:Option UD) (b ct:Ur) (f:List Ur),f.length=ps.length->bindArgs (Xn x x (defArgs st) (defBody st) (defScope st) .none kV doc c e b ct) ⟨f,[]⟩=pure (ps.zip f)) :
  ∃d,FT K l x st ps a d/\∃kV doc c e b ct,d=Xn x x (defArgs st) (defBody st) (defScope st) .none kV doc c e b ct:=by
 obtain⟨n,g,r,kV,s,c,t,ct,p,e,o,j,i⟩:=q;exact⟨_,⟨uC j i g,(uC (st:=st) j i g).binds m,WI X G n⟩,_,_,_,_,_,_,rfl⟩
section
variable {X:Cx}{E:XK}{e:Vt}{es:List Vt}{fa:Ev->aw (ac)}{f g h i j:al}{pos:Pos}{CX:zK}{k n:Nat}{fn:UD}{fd:VX}{ps:bv}{m:ac->aw D}{x:UL}{p:Pos}{st:WE}
def S4(ρ:Ev)(ds:ac)(h:af f ax ρ=.ok ds):ds.length=1:=mZ (λ_ h=>BL h) h
def S3(ρ:Ev)(ds:ac)(q:af f (af g ax) ρ=.ok ds):ds.length=2:=mZ (S4 ρ) q
def S2(ρ:Ev)(ds:ac)(q:af f (af g<|af h ax) ρ=.ok ds):ds.length=3:=mZ (S3 ρ) q
def Tx(ρ:Ev)(ds:ac)(q:af f (af g<|af h<|af i ax) ρ=.ok ds):ds.length=4:=mZ (S2 ρ) q
end
def lG(b:Ev->aw (ac))(m:ac->aw D):am:=λa=>match b a with
 |.ok c=>(m c).bind λ_=>.ok<|.nx a
 |_=>.stuck
section
variable {X:Cx}{e:Vt}{es:List Vt}{fa:Ev->aw (ac)}{pos:Pos}{k n:Nat}{fn:UD}{fd:VX}{ps:bv}{m:ac->aw D}{x:UL}{p:Pos}{st:WE}
def Ka(F:gi X.prog X.w X.K X.mg X.base (p0 X.prog X.w) k fn fd ps<|spD X.K n m)(M:cZ k X.A)(U:Gl X x)(N:X.mg x=W1 (.ref fn))
  (T:X0 X.K (.ref fn)=VT)(hb:iC X.K fd ps [])(ha:DA X.nox E0 (e::es) fa)(hn:(e::es).length=n:=by rfl)(O:∀ρ ds,fa ρ=.ok ds->ds.length=(e::es).length)
  (r:1#x:=by decide)(Y:UJ (e::es) X.env=(U9,eval e X.env)::UJ es X.env:=by exact aW rfl)(l:(VQ a<|UJ es X.env).any (·.1)=U9:=by exact cC rfl)
  (L:V0 (.Call (.Name x p) (e::es) [] a) Wp pos.line X.env=pure U9:=by rfl):TB X (.Expr (.Call (.Name x p) (e::es) [] a) pos) (lG fa m):=by
 refine⟨λπ s B H He η Ha ρ D XE I h q J=>?_⟩;refine wpAny_Expr_any (cW (LZ (Q:=λv i=>D.nx B i) F M U N T hb ha.o I ?_ J r Y l) λv s1 ⟨y,i,I1,j,G⟩=>⟨B,i,I1,G⟩) I.quiet L;refine⟨Ha,ρ,h.g.sub,h.rd,?_⟩;unfold lG at q ⊢;cases f:fa ρ with
 |stuck=>rwa[f]at q|exn x=>rw[f]at q;exact q.elim
 |ok ds=>
  rw[f]at q;intro vs i u c j;refine⟨?_,u,ds,c.sub,j,?_⟩
  .have:=j.length
   have:=O ρ ds f;omega
  .show post _ _ _ _ (m ds) _
   cases t:m ds with
   |stuck=>simp only[t]at q;exact q
   |exn x=>exact λC ox E b g ex=>⟨x,b,by simp only[t];rfl,c.z.trans g.z,h.grow<|c.trans g,ex⟩
   |ok d=>
    simp only[t]at q;exact λv E b g rp=>q _ E b (c.z.trans g.z)<|h.grow<|c.trans g
end
def zL:bv->ac->UL->Option D
 |k::a,d::b,x=>if k=x then W1 d else zL a b x
 |_,_,_=>Wp
def l9(x y:D):aw D:=match x,y with
 |.dic a b,.str k=>match zL a b k with
  |some d=>.ok d
  |none=>.stuck
 |_,_=>.stuck
def zp(x y:D):aw D:=match x,y with
 |.str k,.dic a b=>.ok<|.bl (zL a b k).isSome
 |_,_=>.stuck
def kZ(x y:D):aw D:=match x,y with
 |.str k,.dic a b=>.ok<|.bl (!(zL a b k).isSome)
 |_,_=>.stuck
theorem zv{K:Uv}{H:Hp}{k:UL}:∀{ks:bv}{ds:ac}{vs:ad},ks.length=vs.length->Reps K H ds vs ->
  (∀d,zL ks ds k=W1 d->∃v,rQ ((ks.map VJ).zip vs) (VJ k:jb)=W1 v/\Rep K H d v)/\(zL ks ds k=Wp->rQ ((ks.map VJ).zip vs) (VJ k:jb)=Wp)
 |[],ds,vs,c,r=>by
  exact⟨λd e=>(nomatch e),λ_=>rfl⟩
 |x::ks,ds,vs,c,r=>by
  cases vs with
  |nil=>cases c
  |cons v vs=>
   cases ds with
   |nil=>have:=Reps.nil_iff.mp r;cases this
   |cons d ds=>
    obtain⟨o,n,m,l,j⟩:=aC.mp r;cases m;obtain⟨i,g⟩:=zv (k:=k) (ks:=ks) (ds:=ds) (vs:=vs) (by simpa using c) j;rw[UB,VS]
    by_cases b:x=k
    .subst b
     refine⟨λf e=>?_,λe=>?_⟩
     .rw[zL,dh rfl]at e;cases e
      exact⟨v,nW rfl,l⟩
     .rw[zL,dh rfl]at e;cases e
    .have a:¬(VJ x:jb)=VJ k:=λz=>b (sak z)
     refine⟨λf e=>?_,λe=>?_⟩
     .rw[zL,dV b]at e
      rw[lB a];exact i f e
     .rw[zL,dV b]at e
      rw[lB a];exact g e
section
variable {X:Cx}{E:XK}{a b:Vt}{f g:al}{pos:Pos}
abbrev Qs:R2:=λx y H Q=>∃p v,x=.ref p/\zJ H p y (W1 v)/\Q v H
abbrev Qr:R2:=λy x H Q=>∃p o,x=.ref p/\zJ H p y o/\Q (.bl o.isSome) H
abbrev Dv:R2:=λy x H Q=>∃p o,x=.ref p/\zJ H p y o/\Q (.bl (!o.isSome)) H
def K4:BO X.K E Qs l9:=by
 intro x y v u H A Q i c l q;unfold l9 at q;cases x with
 |dic n w=>
  cases y with
  |str k=>
   rw[Rep]at c;obtain⟨p,m,z,rfl,t,rfl,r,s⟩:=c;rw[Rep.str_iff.mp l];cases e:zL n w k with
   |none=>simp only[e]at q;exact q.elim
   |some d=>
    simp only[e]at q;obtain⟨v,o,j⟩:=(zv r s).1 d e;exact⟨p,v,rfl,.inl ⟨_,.inr k,aE.rd i t,rfl,o.symm⟩,bW i q j⟩
  |_=>exact q.elim
 |_=>exact q.elim
def DZ{k:UL}{K:Uv}(q:aE Ha H)(l:Rep K Ha (.str k) v)(c:Rep K Ha (.dic ks ds) u):∃p o,u=.ref p/\zJ H p v o/\o.isSome=(zL ks ds k).isSome:=by
 rw[Rep]at c;obtain⟨p,m,s,rfl,r,rfl,i,j⟩:=c;rw[Rep.str_iff.mp l];refine⟨p,_,rfl,.inl ⟨_,.inr k,aE.rd q r,rfl,rfl⟩,?_⟩;cases e:zL ks ds k with|none=>rw[(zv i j).2 e];rfl|some d=>obtain⟨v,n,_⟩:=(zv i j).1 d e;rw[n];rfl
def HV:BO X.K E Qr zp:=by
 intro x y v u H r Q c e d q;unfold zp at q;cases x with
 |str k=>
  cases y with
  |dic m n=>
   obtain⟨p,o,l,j,i⟩:=DZ c e d;exact⟨p,o,l,j,by rw[i];exact bW c q<|rb _⟩
  |_=>exact q.elim
 |_=>exact q.elim
def E9:BO X.K E Dv kZ:=by
 intro x y v u H r Q c e d q;unfold kZ at q;cases x with
 |str k=>
  cases y with
  |dic m n=>
   obtain⟨p,o,l,j,i⟩:=DZ c e d;exact⟨p,o,l,j,by rw[i];exact bW c q<|rb _⟩
  |_=>exact q.elim
 |_=>exact q.elim
def HS(e:X.A.units+1<Xa):ia X (VA .In) Qr:=by
 intro l s j H x y v u Q I d c h;obtain⟨p,o,rfl,g,q⟩:=h;cases c;exact SX e I g d λm i=>⟨.bl o.isSome,H,i,rfl,q⟩
def E5(e:X.A.units+1<Xa):ia X (VA .NotIn) Dv:=by
 intro l s j H x y v u Q I d c h;obtain⟨p,o,rfl,g,q⟩:=h;cases c;exact LM e I g d λm i=>⟨.bl (!o.isSome),H,i,rfl,q⟩
def zk(c:X.A.units+1<Xa)(i:DE X E a f)(e:DE X E b g)(d:Pg b:=by intro _ _;rfl):DE X E (.Subscript a b pos) (aa f g l9) :=
 ⟨bF (KO c i.o e.o d)<|j6 K4⟩
end
section
variable {K:Uv}{E:XK}{He η Ha H H1:Hp}{σ:L2.St}{ρ:Ev}
def f9.putOwnG(h:f9 K He η Ha σ H ρ)(v:∀(j:Nat) (a:UD),σ[j]?=W1 (W1<|V.ref a)->a=p->∀d:D,ρ[j]?≠W1 (Sl.ow d))(J:He p=Wp)(x:Ha p=Wp)(I:Mm K Ha H p dn)(G:∀(i j:Nat) (ds:ac) (a:UD) (P:Nat->UD),ρ[i]?=W1 (.ox j ds)->σ[i]?=W1 (W1<|.ref a)->RC K He Ha H a j ds P->∀l,wc j l=VT->p≠P l) :
  f9 K He η Ha (σ.set i<|W1<|.ref p) H (ρ.set i<|.ow dn):=by
 have key:∀(j:Nat) (s:Sl),(ρ.set i<|.ow dn)[j]?=W1 s->(j=i/\s=.ow dn/\i<σ.length)∨(j≠i/\ρ[j]?=W1 s):=λj s e=>by
  by_cases b:i=j
  .subst b
   rw[XH]at e;cases q:ρ[i]? with
   |none=>rw[q]at e;cases e
   |some O=>
    rw[q]at e;cases e;refine .inl ⟨rfl,rfl,?_⟩;rw[←h.ln];exact(Uz.mp q).1
  .rw[UN b]at e
   exact .inr ⟨λz=>b z.symm,e⟩
 have other:∀(k:Nat) (n:D),k≠i->ρ[k]?=W1 (.ow n)->W1 (W1<|V.ref p)≠σ[k]?:=λk n r t z=>by
  obtain⟨a,o,_⟩:=h.ow k n t;rw[o]at z;cases z;exact v k p o rfl n t
 refine⟨h.g,λj y e=>?_,λj y e=>?_,λj k B n A L t=>?_,by simp[h.ln],h.ex.upd (λj s e=>?_) (aE.refl _) (λa M _ e=>e) λp N _ x v _=>⟨v,x⟩⟩
 rotate_left 3
 .rcases key j _ e with⟨rfl,c,f⟩|⟨b,c⟩
  .exact .inr (.inr<|.inr ⟨dn,p,c,by rw[Vk f],G⟩)
  .exact .inl ⟨c,by rw[UN (Vw b)]⟩
 .rcases key j _ e with⟨rfl,c,f⟩|⟨b,c⟩
  .cases c
  .obtain⟨C,o,w⟩:=h.rd j y c
   exact⟨C,by rw[UN (Vw b)];exact o,w⟩
 .rcases key j _ e with⟨rfl,c,f⟩|⟨b,c⟩
  .cases c
   exact⟨p,by rw[Vk f],J,x,I⟩
  .obtain⟨a,o,w⟩:=h.ow j y c
   exact⟨a,by rw[UN (Vw b)];exact o,w⟩
 .rcases key j _ L with⟨rfl,_,f⟩|⟨b,u⟩
  .rcases key k _ t with⟨rfl,_,_⟩|⟨r,m⟩
   .exact ee rfl A
   .rw[Vk f,UN<|Vw r]
    exact other k n r m
  .rcases key k _ t with⟨rfl,_,f⟩|⟨r,m⟩
   .rw[Vk f,UN<|Vw b]
    exact λz=>other j B b u z.symm
   .rw[UN (Vw b),UN<|Vw r]
    exact h.ap j k B n A u m
def f9.writeG(h:f9 K He η Ha σ H ρ)(e:ρ[i]?=W1 (.ow d))(es:σ[i]?=W1 (W1<|.ref p))(ho:Mm K Ha (upd H p o) p dn) :
  f9 K He η Ha σ (upd H p o) (ρ.set i<|.ow dn):=by
 obtain⟨a,u,h2,h3,I⟩:=h.ow i d e;rw[u]at es;cases es;have Q:i<ρ.length:=(Uz.mp e).1;have key:∀(j:Nat) (s:Sl),(ρ.set i<|.ow dn)[j]?=W1 s->(j=i/\s=.ow dn)∨(j≠i/\ρ[j]?=W1 s):=λj s e=>by
  by_cases t:i=j
  .subst t
   rw[Vk Q]at e;cases e;exact .inl ⟨rfl,rfl⟩
  .rw[UN t]at e
   exact .inr ⟨λz=>t z.symm,e⟩
 refine⟨⟨λb o' n=>?_,h.g.z,λb o' n=>?_,h.g.nw⟩,λj C B=>?_,λj C B=>?_,λj k d1 d2 G e1 e2=>?_,by simp[h.ln],h.ex.upd (λj s B=>?_) (aE.refl _) (λb us _ n=>?_) λq us _ q0 hq hd=>?_⟩
 rotate_left 5
 .rcases key j _ B with⟨rfl,c⟩|⟨t,c⟩
  .exact .inr (.inr<|.inr ⟨dn,p,c,u,λi' j' m a' P' x1 x2 x3 l J=>by
    obtain⟨a2,P2,Y,y2,y3,_⟩:=h.ex.1 i' j' m x1;rw[x2]at Y;cases Y;have:P2 l=P' l:=by
     obtain⟨ah,_,z1,_,y5,_⟩:=x3;obtain⟨ab,_,U,_,y4,_⟩:=y2;rw[z1]at U;cases U;obtain⟨_,_,_,_,_,z2,_⟩:=y5 l J;obtain⟨_,_,_,_,_,x,_⟩:=y4 l J;rw[z2]at x;injection x with x;injection x with x;exact x.symm
    rw[←this];intro zz;rw[zz]at u;exact y3 j d l J e u⟩)
  .exact .inl ⟨c,rfl⟩
 .rw[aA (by
   intro z;subst z;cases d with
   |lst m|dic L m=>obtain⟨f,r,_⟩:=I;rw[r]at n;cases n
   |ob M m=>
    cases M with|dint L=>obtain⟨f,r,_⟩:=I;rw[r]at n;cases n| _=>exact I.elim
   |_=>exact I)];exact n
 .have N:q≠p:=by
   intro z;subst z;exact hd i d e u
  exact⟨by rw[aA N];exact hq,q0⟩
 .rw[aA (by intro z;subst z;rw[h2]at n;cases n)];exact h.g.s _ _ n
 .rw[aA (by intro z;subst z;rw[h3]at n;cases n)];exact h.g.sub _ _ n
 .rcases key j _ B with⟨rfl,c⟩|⟨t,c⟩
  .cases c
  .exact h.rd j C c
 .rcases key j _ B with⟨rfl,c⟩|⟨t,c⟩
  .cases c
   exact⟨p,u,h2,h3,ho⟩
  .obtain⟨b,k1,k2,k3,y⟩:=h.ow j C c
   refine⟨b,k1,k2,k3,?_⟩;have T:b≠p:=by
    intro z;subst z;exact h.ap j i C d t c e (by rw[k1,u])
   cases C with
   |lst m=>
    obtain⟨f,r,A⟩:=y;exact⟨f,by rw[aA T];exact r,A⟩
   |dic L m=>
    obtain⟨f,r,O,A⟩:=y;exact⟨f,by rw[aA T];exact r,O,A⟩
   |ob M m=>
    cases M with
    |dint L=>
     obtain⟨f,r,O,A⟩:=y;exact⟨f,by rw[aA T];exact r,O,A⟩
    |_=>exact y.elim
   |_=>exact y.elim
 .rcases key j _ e1 with⟨rfl,w⟩|⟨t,w⟩
  .rcases key k _ e2 with⟨rfl,_⟩|⟨hk,v⟩
   .exact ee rfl G
   .exact h.ap j k d d2 G e v
  .rcases key k _ e2 with⟨rfl,_⟩|⟨hk,v⟩
   .exact h.ap j k d1 d G w e
   .exact h.ap j k d1 d2 G w v
end
def Hm:bv->ac->UL->D->ac
 |k::b,e::a,x,d=>(if k=x then d else e)::Hm b a x d
 |_,a,_,_=>a
def EW(ks:bv)(ds:ac)(k:UL)(d:D):D:=if k∈ks then .dic ks (Hm ks ds k d) else .dic (ks++[k])<|ds++[d]
theorem Em{k:UL}:∀{ks:bv}{vs:ad},ks.length=vs.length->(((ks.map VJ).zip vs).any λb=>decide (b.1=(VJ k:jb)))=decide (k∈ks)
 |[],_,_=>rfl
 |x::ks,[],h=>nomatch h
 |x::ks,v::vs,h=>by
  rw[UB,VS,WU,Em<|by simpa using h]
  by_cases a:x=k
  .subst a;simp
  .have:¬k=x:=λz=>a z.symm
   simp[a,this]
theorem Dt{K:Uv}{H:Hp}{k:UL}{d:D}{v:V}(r:Rep K H d v):∀{ks:bv}{ds:ac}{vs:ad},ks.length=vs.length->Reps K H ds vs ->
  ∃a,(((ks.map VJ).zip vs).map λc=>if c.1=(VJ k:jb) then(c.1,v) else c)=(ks.map VJ).zip a/\ks.length=a.length/\Reps K H (Hm ks ds k d) a
 |[],ds,vs,b,h=>⟨vs,rfl,b,by cases ds<;>exact h⟩
 |x::ks,ds,[],b,h=>nomatch b
 |x::ks,[],i::vs,b,h=>by have:=Reps.nil_iff.mp h;cases this
 |x::ks,e::ds,i::vs,b,h=>by
  obtain⟨s,q,p,o,n⟩:=aC.mp h;cases p;obtain⟨a,m,l,j⟩:=Dt r (ks:=ks) (ds:=ds) (vs:=vs) (by simpa using b) n;rw[UB,VS,UB,m]
  by_cases f:x=k
  .subst f
   refine⟨v::a,by rw[dh rfl];rfl,by simp[l],?_⟩;rw[Hm,dh rfl];exact Reps.cons r j
  .have g:¬(VJ x:jb)=VJ k:=λz=>f (sak z)
   refine⟨i::a,by rw[dV g];rfl,by simp[l],?_⟩;rw[Hm,dV f];exact Reps.cons o j
theorem Reps.snoc{K:Uv}(r:Rep K H d v):∀{ds:ac}{vs:ad},Reps K H ds vs->Reps K H (ds++[d]) (vs++[v])
 |[],vs,h=>by rw[Reps.nil_iff.mp h];exact Reps.cons r Reps.nil
 |e::ds,vs,h=>by
  obtain⟨f,c,rfl,b,a⟩:=aC.mp h;exact Reps.cons b<|Reps.snoc r a
def Ku{K:Uv}{k:UL}(c:ks.length=vs.length)(h:Reps K Ha ds vs)(r:Rep K Ha d v):Mm K Ha (upd H p<|.dK<|lH ((ks.map VJ).zip vs) (VJ k) v) p (EW ks ds k d):=by
 unfold EW;rw[show ∀(a:List (jb×V)) (u:V),lH a (VJ k:jb) u=if(a.any λb=>decide (b.1=(VJ k:jb)))=VT then a.map (λb=>if b.1=(VJ k:jb) then(b.1,u) else b) else a++[((VJ k:jb),u)] from λ_ _=>rfl];rw[Em c]
 by_cases e:k∈ks
 .rw[dh e,dh<|dg e]
  obtain⟨f,j,i,g⟩:=Dt (k:=k) r c h;exact⟨f,by rw[aG,j],i,g⟩
 .rw[dV e,dV (by rw[dy e];decide)]
  refine⟨vs++[v],by rw[aG,U7,List.zip_append (by rw[Ut];exact c)];rfl,by simp[c],Reps.snoc r h⟩
noncomputable def TY(K:Uv) (E:XK) (f:al):TE:=λi H Q=>∃c e,aE c H/\fW K c i e/\match f e with
 |.ok (.dic g j)=>∀p d b a,bC H c b a->H p=Wp->a p=Wp->b p=W1 (.dK<|(g.map VJ).zip d)->g.length=d.length->Reps K a j d->Q (.ref p) b
 |.ok _=>False
 |.exn x=>∀C ox b a,bC H c b a->zI K a x C ox->E C ox b
 |.stuck=>False
structure TK (X:Cx) (E:XK) (e:Vt) (f:al):Prop where
 o:PE X e (TY X.K E f)
def HQ(i:Nat)(ρ:Ev)(d:D):aw Fl:=match d with
 |.dic a b=>.ok<|.nx<|ρ.set i<|.ow<|.dic a b
 |_=>.stuck
def Dq(i:Nat)(f:al):am:=λa=>(f a).bind<|HQ i a
section
variable {X:Cx}{E:XK}{He η:Hp}{e b:Vt}{pos:Pos}{f k:al}
def LD(U:X.N.Nodup)(hi:X.N[i]?=W1 x)(J:JC X.env.scope x)(T:TK X E e f)(M:V0 e (W1<|.Name x pos') pos.line X.env=pure U9:=by rfl)
  (Q:X.fn x=VT∨X.env.scope.names.lookup x=W1 .local := by first|exact .inl rfl|exact .inr rfl|assumption):DS X E He η (.Assign [.Name x pos'] e pos) (Dq i f):=by
 refine⟨?_⟩;refine cH (tK U hi J T.o M Q) λD σ H z9=>?_;obtain⟨Ha,y,h,q⟩:=z9;refine⟨Ha,y,h.g.sub,h.rd,?_⟩
 unfold Dq at q;cases v:f y with
 |stuck=>rwa[v]at q|exn x=>rw[v]at q;exact λC ox w c g ex=>q C ox w c (h.g.trans g) ex
 |ok d=>
  rw[v]at q;cases d with
  |dic u ds=>
   intro p B w c g r Y L O G;refine q _ w c g.z<|(h.grow g).putOwnG (dn:=.dic u ds) (λj a ej ea d ed=>?_) (h.g.s.free r) Y ⟨B,L,O,G⟩<|h.fresh_x g.s r;subst ea;obtain⟨a',A,_,_,n⟩:=h.ow j d ed;rw[ej]at A;cases A;cases d with
   |lst m|dic u m=>obtain⟨t,l,_⟩:=n;rw[r]at l;cases l
   |ob I m=>
    cases I with|dint u=>obtain⟨t,l,_⟩:=n;rw[r]at l;cases l| _=>exact n.elim
   |_=>exact n.elim
  |_=>exact q.elim
end
def Je(k d:D):aw D:=match k with
 |.str x=>.ok<|.dic [x] [d]
 |_=>.stuck
def Ee(b a:al):al:=aa b a Je
def Cp(ρ:Ev)(i:Nat)(k:bv->ac->aw Fl):aw Fl:=match ρ[i]? with
 |some (.ow (.dic a b))=>k a b
 |_=>.stuck
def qQ(i:Nat)(ρ:Ev)(ks:bv)(ds:ac)(d j:D):aw Fl:=match j with
 |.str x=>if ks.length<line then .ok (.nx<|ρ.set i<|.ow<|EW ks ds x d) else .stuck
 |_=>.stuck
section
variable {X:Cx}{E:XK}{He η:Hp}{e b:Vt}{pos:Pos}{f k:al}
def FF(hk:DE X E b k)(hv:DE X E e f):TK X E (.Dict [W1 b] [e] pos) (Ee k f):=by
 refine⟨?_⟩;refine bF (KN (HD hk.o hv.o Kx) rfl rfl 0#3 0#3) λσ H Q ⟨m,r,L,M,q⟩ p i=>?_;have O:m p=Wp:=L.free i;have w:aE m (upd H p<|.dK []):=λb o e=>by rw[aA (by intro z;subst z;rw[O]at e;cases e)];exact L _ _ e
 have back:∀{j c:Hp},bC (upd H p<|.dK []) m j c->bC H m j c:=λg=>⟨λb o e=>g.s _ _ (by rw[aA (aP e i)];exact e),g.z,g.sub,λa k1 k2=>by
   have:=g.nw a k1 k2
   by_cases N:a=p
   .subst N;exact i
   .rwa[aA N]at this⟩
 refine⟨m,r,w,M,?_⟩;unfold Ee aa at q;cases I:k r with
 |stuck=>rwa[I]at q|exn z=>rw[I]at q;exact λC ox j c g A=>q C ox j c (back g) A
 |ok kd=>
  rw[I]at q;intro xk H1 J t U;refine⟨J,r,t.sub,M.mono t.z,?_⟩;cases B:f r with
  |stuck=>rwa[B]at q|exn z=>rw[B]at q;exact λC ox j c g A=>q C ox j c (back<|t.trans g) A
  |ok d=>
   rw[B]at q;intro v H2 l g2 T;cases kd with
   |str x=>
    have G:=t.trans g2;have y:H2 p=W1 (.dK []):=G.s _ _ aG;have n:l p=Wp:=by
     cases Y:l p with|none=>rfl|some o=>have:=G.nw p (by rw[Y];simp) O;rw[aG]at this;cases this
    rw[Rep.str_iff.mp U];refine⟨y,[(VJ x,v)],rfl,by simp,?_⟩;have q:∀p u j c,bC H m j c->H p=Wp->c p=Wp->j p=W1 (.dK<|([x].map VJ).zip u)->[x].length=u.length->Reps X.K c [d] u->Q (.ref p) j:=q;refine q p [v] _ l ⟨λb o e=>?_,G.z,λb o e=>?_,(back G).nw⟩ i n aG rfl (Reps.cons T Reps.nil)
    .rw[aA (aP e i)];exact(back G).s _ _ e
    .rw[aA (by intro z;subst z;rw[n]at e;cases e)];exact G.sub _ _ e
   |_=>exact q.elim
def E2{K:Uv}{k:bv->ac->aw Fl}(h:f9 K He η Ha c H ρ)(q:bZ K E He η Ha (Cp ρ i k) o) :
  ∃ks ds p vs,ρ[i]?=W1 (.ow<|.dic ks ds)/\c[i]?=W1 (W1<|.ref p)/\H p=W1 (.dK<|(ks.map VJ).zip vs)/\ks.length=vs.length/\Reps K Ha ds vs/\bZ K E He η Ha (k ks ds) o:=by
 unfold Cp at q;cases e:ρ[i]? with
 |none=>rw[e]at q;exact q.elim
 |some s=>
  rw[e]at q;cases s with
  |no|sh d|ox j ds|pt a=>exact q.elim
  |ow d=>
   cases d with
   |dic ks ds=>
    obtain⟨p,n,t,r,vs,m,l,g⟩:=h.ow i _ e;exact⟨ks,ds,p,vs,rfl,n,m,l,g,q⟩
   |_=>exact q.elim
def Hw{K:Uv}(h:f9 K He η Ha c H ρ)(w:ρ[i]?=W1 (.ow<|.dic ks ds))(t:c[i]?=W1 (W1<|.ref p))(s:H p=W1 (.dK<|(ks.map VJ).zip vs))(l:ks.length=vs.length)(r:Reps K Ha ds vs)
  (n:Rep K Ha d v)(o:Rep K Ha j u)(q:bZ K E He η Ha (qQ i ρ ks ds d j) y):∃a m,V.ref p=.ref a/\F4 H a u v m/\y.nx c m:=by
 unfold qQ at q;cases j with
 |str x=>
  by_cases g:ks.length<line
  .simp only[dh g]at q
   rw[Rep.str_iff.mp o];refine⟨p,_,rfl,F4.k (k:=.inr x) s ?_,?_⟩
   .rw[List.length_zip,Ut,←l,Nat.min_self]
    have:line<=sizeLine:=fF<|U3 _;omega
   .exact q c _ Ha (aE.refl _)<|h.writeG w t<|Ku l r n
  .simp only[dV g]at q;exact q.elim
 |_=>exact q.elim
end
section
variable {X:Cx}{E:XK}{He η:Hp}{e b o:Vt}{pos apos cpos:Pos}{f k g:al}
def un1(h:n+64<Xa):n+1<Xa:=UR 0#2 h
end
theorem Reps.erase{K:Uv}:∀{ds:ac}{vs:ad}(n:Nat),Reps K H ds vs->Reps K H (ds.eraseIdx n) (vs.eraseIdx n)
 |[],vs,n,h=>by rw[Reps.nil_iff.mp h];exact Reps.nil
 |d::ds,vs,n,h=>by
  obtain⟨v,c,rfl,b,a⟩:=aC.mp h;cases n with|zero=>exact a|succ n=>exact Reps.cons b<|Reps.erase n a
section
variable {X:Cx}{E:XK}{a b:Vt}{f g:al}{pos:Pos}
def Rl(x y:D):aw D:=match x,y with
 |.tup [],.tup c=>.ok<|.tup c
 |.tup d,.tup c=>if d.isEmpty=U9/\d.length+c.length<=line then .ok (.tup<|d++c) else .stuck
 |_,_=>.stuck
end
structure Rw where
 x:UL
 st:WE
 N:bv
 n:Nat
abbrev Rw.ps(r:Rw):bv:=r.N.take r.n
instance {N P:bv}{sc:X3}:Decidable (eJ N P sc) :=
 decidable_of_iff (sc.kind=.function/\sc.isCoroutine=U9/\sc.isGenerator=U9/\N.Nodup/\N.take P.length=P/\(∀x∈P,sc.names.lookup x=W1 .local ∨ sc.names.lookup x=W1 .cell)/\∀y∈sc.names,y.2≠.free)
  ⟨λ⟨a,b,c,d,e,f,g⟩=>⟨a,b,c,d,e,f,g⟩,λ⟨a,b,c,d,e,f,g⟩=>⟨a,b,c,d,e,f,g⟩⟩
def RS(rows:List Rw):Prop:=∀r∈rows,eJ r.N r.ps<|defScope r.st
instance {rows:List Rw}:Decidable (RS rows):=inferInstanceAs (Decidable (∀r∈rows,_))
def TG(rows:List Rw)(K:Uv)(a:UL->Option Ur)(A:Nat->UD)(Q:Nat->VX):Prop:=∀i r,rows[i]?=W1 r->FT K a r.x r.st r.ps (A i) (Q i)
def Pz(r:Rw):Prop:=∀(kV doc c:Ur) (d:Option UD) (b ct:Ur) (a:List Ur),a.length=r.ps.length->bindArgs (Xn r.x r.x (defArgs r.st) (defBody r.st) (defScope r.st) .none kV doc c d b ct) ⟨a,[]⟩=pure (r.ps.zip a)
def QAs(K:Uv):List Rw->List UD->Prop
 |[],_=>True
 |r::b,a::c=>QA K r.x r.st a/\QAs K b c
 |_::_,[]=>False
def QAs.cons{K:Uv}{st:WE}(q:QA K x st a)(t:QAs K b as):QAs K (⟨x,st,N,n⟩::b) (a::as):=⟨q,t⟩
theorem Mx{K:Uv}{h:UQ}{c:UL->Option Ur}(X:K.In h)(G:h.Ns UU c):∀{rows:List Rw}{as:List UD},(∀r∈rows,Pz r)->QAs K rows as ->
  ∃Q:Nat->VX,∀i r,rows[i]?=W1 r->FT K c r.x r.st r.ps (as.getD i 0) (Q i)/\∃kV doc l p b ct,Q i=Xn r.x r.x (defArgs r.st) (defBody r.st) (defScope r.st) .none kV doc l p b ct
 |[],as,_,_=>⟨λ_=>default,λi r e=>by simp at e⟩
 |r::g,[],_,q=>q.elim
 |r::g,a::as,f,q=>by
  obtain⟨Q,h⟩:=Mx X G (λr m=>f r<|Up _ m) q.2;obtain⟨d,o,n⟩:=Q5 X G q.1<|f r Uu;refine⟨λi=>match i with|0=>d|i+1=>Q i,λi j e=>?_⟩;cases i with|zero=>rw[Wd]at e;cases e;exact⟨o,n⟩|succ i=>rw[Vu]at e;exact h i j e
structure gF (P:Vv) (w:VL) (K:Uv) (mg:UL->Option Ur) (base:UQ) (CX:zK) (k:Nat) (fn:UD) (fd:VX) (ps:bv) (sp:Sp) (x:UL) (st:WE):Prop where
 F:gi P w K mg base CX k fn fd ps sp
 t:FT K mg x st ps fn fd
section
variable {P:Vv}{w:VL}{K:Uv}{mg:UL->Option Ur}{base:UQ}{rows:List Rw}{A:Nat->UD}{Q:Nat->VX}{i k n:Nat}{r:Rw}{s:am}{sM:UD->Ev->ac->aw MFl}
variable (T:TG rows K mg A Q) (S:RS rows) (h:rows[i]?=W1 r)
include T S h
theorem oD(b:∀(a:Ur) (c:VD) (outer:List VI) (s0:UH) (H Ha:Hp) (E:XK),cZ k (c.deeper<|envOfC r.x (defScope r.st) 2#s0 (A i) a) ->
   zM (gE CX0 P w K mg base r.N r.x (defScope r.st) (A i) a c outer s0 H E).nox E H Ha (defBody r.st) s):gF P w K mg base CX0 (k+1) (A i) (Q i) r.ps (spD K r.ps.length<|bz r.N.length s) r.x r.st :=
 ⟨Fz (T i r h).F (S r<|UM h) b,T i r h⟩
theorem oE(b:∀(a:Ur) (c:VD) (outer:List VI) (s0:UH) (H Ha:Hp) (E:XK),cZ k (c.deeper<|envOfC r.x (defScope r.st) 2#s0 (A i) a) ->
   zM (gE (p0 P w) P w K mg base r.N r.x (defScope r.st) (A i) a c outer s0 H E) E H Ha (defBody r.st) s):gF P w K mg base (p0 P w) (k+1) (A i) (Q i) r.ps (spD K r.ps.length<|bz r.N.length s) r.x r.st :=
 ⟨CQ (T i r h).F (S r<|UM h) b,T i r h⟩
end
section
variable {X:Cx}{E:XK}{e:Vt}{es:List Vt}{fa:Ev->aw (ac)}{pos:Pos}{CX:zK}{k k0 n:Nat}{fn:UD}{fd:VX}{ps:bv}{m:ac->aw D}{x:UL}{p:Pos}{st:WE}
def rC(B:gF X.prog X.w X.K X.mg X.base CX k0 fn fd ps (spD X.K n m) x st)(j:cZ k X.A)(s:DA X E (e::es) fa)(d:k0<=k:=by decide)(i:gR CX X E:=by first|exact Aj|exact a|exact yF)(o:∀ρ ds,fa ρ=.ok ds->ds.length=(e::es).length:=by first|exact S4|exact S3|exact S2|exact Tx|exact u)(l:(e::es).length=n:=by rfl)
  (q:Gl X x:=by exact rfl)(f:1#x:=by decide)(r:UJ (e::es) X.env=(U9,eval e X.env)::UJ es X.env:=by exact aW rfl)(c:(VQ pos<|UJ es X.env).any (·.1)=U9:=by exact cC rfl) :
  DE X E (.Call (.Name x p) (e::es) [] pos) (ak fa m):=LK (B.F.mono d) j q B.t.g B.t.F.kp B.t.b i s l o f r c
def rD(B:gF X.prog X.w X.K X.mg X.base (p0 X.prog X.w) k0 fn fd ps (spD X.K n m) x st)(j:cZ k X.A)(s:DA X.nox E0 (e::es) fa)(d:k0<=k:=by decide)(o:∀ρ ds,fa ρ=.ok ds->ds.length=(e::es).length:=by first|exact S4|exact S3|exact S2|exact Tx|exact u)(l:(e::es).length=n:=by rfl)
  (q:Gl X x:=by exact rfl)(f:1#x:=by decide)(r:UJ (e::es) X.env=(U9,eval e X.env)::UJ es X.env:=by exact aW rfl)(c:(VQ a<|UJ es X.env).any (·.1)=U9:=by exact cC rfl)
  (i:V0 (.Call (.Name x p) (e::es) [] a) Wp pos.line X.env=pure U9:=by rfl):TB X (.Expr (.Call (.Name x p) (e::es) [] a) pos) (lG fa m):=Ka (B.F.mono d) j q B.t.g B.t.F.kp B.t.b s l o f r c i
end
def Uh(d:r.ps.length=1:=by rfl)(f:∀(kV doc c:Ur) (g:Option UD) (a ct b:Ur),bindArgs (Xn r.x r.x (defArgs r.st) (defBody r.st) (defScope r.st) .none kV doc c g a ct) ⟨[b],[]⟩=pure (r.ps.zip [b]):=by intros;rfl):Pz r:=λ_ _ _ _ _ _ i e=>by
 obtain⟨b,rfl⟩:=SE<|e.trans d;exact f ..
def Ug(e:r.ps.length=2:=by rfl)(g:∀(kV doc d:Ur) (i:Option UD) (a ct b c:Ur),bindArgs (Xn r.x r.x (defArgs r.st) (defBody r.st) (defScope r.st) .none kV doc d i a ct) ⟨[b,c],[]⟩=pure (r.ps.zip [b,c]):=by intros;rfl):Pz r:=λ_ _ _ _ _ _ j f=>by
 obtain⟨b,c,rfl⟩:=RO<|f.trans e;exact g ..
def Ue(f:r.ps.length=3:=by rfl)(i:∀(kV doc e:Ur) (j:Option UD) (a ct b c d:Ur),bindArgs (Xn r.x r.x (defArgs r.st) (defBody r.st) (defScope r.st) .none kV doc e j a ct) ⟨[b,c,d],[]⟩=pure (r.ps.zip [b,c,d]):=by intros;rfl):Pz r:=λ_ _ _ _ _ _ l g=>by
 obtain⟨b,c,d,rfl⟩:=Ts<|g.trans f;exact i ..
def Ud(g:r.ps.length=4:=by rfl)(j:∀(kV doc f:Ur) (l:Option UD) (a ct b c d e:Ur),bindArgs (Xn r.x r.x (defArgs r.st) (defBody r.st) (defScope r.st) .none kV doc f l a ct) ⟨[b,c,d,e],[]⟩=pure (r.ps.zip [b,c,d,e]):=by intros;rfl):Pz r:=λ_ _ _ _ _ _ m i=>by
 obtain⟨b,c,d,e,rfl⟩:=Tr<|i.trans g;exact j ..
end DL
namespace DL
open PySem L2
section
variable {α β:Type}
def Rf(a b:aw α):Prop:=a=.stuck∨a=b
def dZ{f g:α->aw β}(h:Rf a b)(k:∀x,Rf (f x)<|g x):Rf (a.bind f) (b.bind g):=by
 rcases h with rfl|rfl
 .exact .inl rfl
 .cases a with
  |ok x=>exact k x
  |exn x=>exact .inr rfl
  |stuck=>exact .inl rfl
structure ng (f g:Ev->aw α):Prop where
 o:∀ρ,Rf (f ρ) (g ρ)
end
structure RT (f g:ac->aw D):Prop where
 o:∀ds,Rf (f ds) (g ds)
def RT.ok(h:RT f g)(e:f ds=.ok d):g ds=.ok d:=by
 rcases h.o ds with q|q
 .rw[q]at e;cases e
 .rw[←q];exact e
def rfm_refl:RT f f:=⟨λ_=>.inr rfl⟩
def rf_refl{f:Ev->aw a}:ng f f:=⟨λ_=>.inr rfl⟩
section
variable {s s' t t':am}{c c' f f':al}{fa fa':Ev->aw (ac)}{m m':ac->aw D}
def rf_stuck:ng dI s:=⟨λ_=>.inl rfl⟩
def rf_seq(e:ng s s')(d:ng t t'):ng (aq s t) (aq s' t'):=⟨λb=>dZ (e.o b) λr=>by
 cases r with
 |nx a=>exact d.o a
 |_=>exact .inr rfl⟩
def rf_if(d:ng c c')(g:ng s s')(e:ng t t'):ng (cT c s t) (cT c' s' t'):=⟨λa=>dZ (d.o _) λr=>by
 cases r with
 |bl b=>cases b with
  |true=>exact g.o a
  |false=>exact e.o a
 |_=>exact .inr rfl⟩
theorem sv(h:ng s s'):∀(ds:ac) (ρ:Ev),Rf (cD tg s ds ρ) (cD tg s' ds ρ)
 |[],ρ=>.inr rfl
 |d::r,ρ=>by
  unfold cD;refine dZ (.inr rfl) λb=>dZ (h.o b) λx=>?_;cases x with|nx a|ct a=>exact sv h r a|bk a|rt d=>exact .inr rfl
def rf_for(b:ng f f')(h:ng s s'):ng (kI f tg s) (kI f' tg s'):=⟨λa=>dZ (b.o a) λd=>by
 cases d with
 |lst e=>exact sv h e a
 |_=>exact .inr rfl⟩
def rf_forI(h:ng s s'):ng (gJ a tg s) (gJ a tg s'):=⟨λb=>dZ (.inr rfl) λd=>sv h d b⟩
def rf_drop(h:ng f f'):ng (ff f) (ff f'):=⟨λa=>dZ (h.o _) λ_=>.inr rfl⟩
def rf_ret(h:ng f f'):ng (bh f) (bh f'):=⟨λa=>dZ (h.o _) λ_=>.inr rfl⟩
def rf_set(h:ng f f'):ng (aH i f) (aH i f'):=⟨λa=>dZ (h.o _) λ_=>.inr rfl⟩
def rf_b1(h:ng f f'):ng (aU f a) (aU f' a):=⟨λb=>dZ (h.o _) λ_=>.inr rfl⟩
def rf_not(h:ng f f'):ng (cM f) (cM f'):=rf_b1 h
def rf_b2(h:ng f f')(b:ng c c'):ng (aa f c a) (aa f' c' a):=⟨λd=>dZ (h.o _) λ_=>dZ (b.o _) λ_=>.inr rfl⟩
def rf_bA(h:ng fa fa')(a:RT m m'):ng (ak fa m) (ak fa' m'):=⟨λd=>dZ (h.o _) λb=>a.o b⟩
def rf_cons(h:ng f f')(a:ng fa fa'):ng (af f fa) (af f' fa'):=⟨λb=>dZ (h.o _) λ_=>dZ (a.o _) λ_=>.inr rfl⟩
end
end DL
local macro_rules|`(tactic|open_line with[rf_go])=>`(tactic|repeat (first|with_reducible exact DL.rf_refl|with_reducible exact DL.rf_stuck|with_reducible assumption|with_reducible exact DL.rfm_refl|with_reducible refine DL.rf_seq ?_ ?_|with_reducible refine DL.rf_if ?_ ?_ ?_|with_reducible refine DL.rf_for ?_ ?_|with_reducible refine DL.rf_forI ?_|with_reducible refine DL.rf_drop ?_|with_reducible refine DL.rf_ret ?_|with_reducible refine DL.rf_set ?_|with_reducible refine DL.rf_not ?_|with_reducible refine DL.rf_bA ?_ ?_|with_reducible refine DL.rf_cons ?_ ?_|with_reducible refine DL.rf_b1 ?_|with_reducible refine DL.rf_b2 ?_ ?_))
namespace Wex
open PySem L2 DL Com
def m_look_at_web:ac->aw D:=bz 1 gX
noncomputable def cV:am :=
 (aq (ff<|ak (af (ae 0) ax) m_look_at_web)
 (aq (cT (cM<|aU (ae 1)<|kq "list")
 (aq (qh "NoTaking"<|af 0#"a taking is a list" ax)
 ao)
 ao)
 (aq (aH 2<|aU 1#0 ko)
 (aq (kI (ae 1) (bK 3)
 (aq (cT (lz (cM<|ak (af (ae 0)<|af (ae 3) ax) m_is_tie_number)<|aa (ae 3) (ae 2) LQ)
 (aq (qh "NoTaking"<|af 0#"a taking is of rising numbers of ties" ax)
 ao)
 ao)
 (aq (cT (aa (aa (aa (aa (ae 0) 1#0 aB) (ae 3) aB) 4#0 aB) 0#4 wz)
 (aq (qh "NoTaking"<|af 0#"a watched tie can't be taken" ax)
 ao)
 ao)
 (aq (aH 2<|ae 3)
 ao))))
 ao))))
def m_look_at_taking:ac->aw D:=bz 4 cV
end Wex
namespace Nwb
open PySem L2 DL Com
def m_look_at_web:ac->aw D:=bz 1 gX
end Nwb
namespace DL
open PySem PySem.Spec PyProof.Rows L2 PySem.W
noncomputable abbrev XQ(K:Frag) (q:UL) (C CE f:UD) (s:WE) (ks:bv):Prop :=
 ∃(o kV doc l c ct:Ur) (m A:Option UD) (i:Array<|Option Ur) (nm j:UL) (n:UD) (bs d:List Ur) (v B:Bool) (e:bv) (a:Option Bool) (y x:Option UD) (u t k2 r p:Option Ur) (z:Ur) (b:Array ZV) (w:Nat) (st:Array<|Option Ur),
  K.lookup C=W1 (excClassObj nm j C n bs [.ref CE,.type "ValueError",.type "Exception",.type "BaseException",.type "object"] v e d B a y u t k2 r p "ValueError.__new__")/\K.lookup n=W1 ⟨z,x,.dict b w,st⟩/\b.toList.all MK=VT/\nsIn K n "__init__"=W1 (W1<|.ref f) /\
  isFn K (.ref f)=VT/\K.lookup f=W1 ⟨o,m,.func<|fnOf "__init__" q (defArgs s) (defBody s) (defScope s) .none kV doc l A c ct,i⟩/\codeIn K c q=VT/\keepIn K (.ref f)=VT /\
  findIn K (.ref C) "__setattr__"=W1 (W1<|.builtin "object.__setattr__")/\hasDictIn K C=VT/\∀g∈ks,fP K C g
structure S8 (K:Frag) (q:UL) (C f:UD) (fd:VX) (s:WE) (ps ks:bv):Prop where
 Fi:BU K "__init__" q s f fd
 bi:iC K fd ps []
 xi:M3 K C f
 xs:Mg K C ks
 xf:isFn K (.ref f)=VT
def Te{K:Frag}{C CE f:UD}{ps ks:bv}(n:∀{m},BU K "__init__" q s f m->iC K m ps [])(x:XQ K q C CE f s ks)
  (o:excIn K CE [.type "ValueError",.type "Exception",.type "BaseException",.type "object"] "ValueError.__new__"=VT):∃m,S8 K q C f m s ps ks:=by
 obtain⟨_,_,_,_,_,_,_,_,_,_,_,_,_,_,_,_,_,_,_,_,_,_,_,_,_,_,_,_,_,a,b,c,d,e,g,h,i,j,k,l⟩:=x;have F:=uC g h i;have I:=Nc a b c d o;exact⟨_,F,n F,I,Na I j k l,e⟩
def Sb(K:Frag)(r:UD):List UD->List Bool->Prop
 |[],_=>True
 |_,[]=>False
 |c::a,b::bs=>subIn K (.ref r) (.ref c)=W1 b/\Sb K r a bs
def sb_c{K:Frag}{bs:List Bool}(h:subIn K (.ref r) (.ref c)=W1 b)(h':Sb K r cs bs):Sb K r (c::cs) (b::bs):=⟨h,h'⟩
theorem GZ{K:Frag}{r c:UD}:∀{cs:List UD}{bs:List Bool},Sb K r cs bs->∀n:Nat,cs[n]?=W1 c->subIn K (.ref r) (.ref c)=W1 (bs.getD n U9)
 |[],_,_,_,e=>by cases e
 |_::_,[],h,_,_=>h.elim
 |_::_,_::_,h,0,e=>by cases e;exact h.1
 |_::_,_::_,h,n+1,e=>GZ h.2 n e
structure S6 (K:Frag) (x:UL) (r:UD) (cs:List UD) (bs:List Bool):Prop where
 xc:XC K x r
 self:subIn K (.ref r) (.ref r)=W1 VT
 ve:subIn K (.ref r) (.type "ValueError")=W1 VT
 sb:Sb K r cs bs
def Mh(K:Frag)(cs:List UD)(l:List<|UL×UD×List Bool):Prop:=∀q∈l,S6 K q.1 q.2.1 cs q.2.2
def Nb{K:Frag}:Mh K cs []:=λ_ h=>nomatch h
def RW{K:Frag}{bs:List Bool}(z:S6 K x r cs bs)(h:Mh K cs l):Mh K cs ((x,r,bs)::l):=λq a=>by
 rcases UG.mp a with rfl|a
 .exact z
 .exact h q a
def Td{K:Frag}{bs:List Bool}(z:vQ K x r)(p:Sb K r cs bs)(h:Mh K cs l):Mh K cs ((x,r,bs)::l):=RW ⟨z.xc,z.self,z.ve,p⟩ h
def Dr{K:Frag}(h:Mh K cs l)(g:List Bool->Bool){p:UD->Bool->Prop}(c:∀{x r bs},S6 K x r cs bs->p r (g bs)):∀q∈l.map λq=>(q.1,g q.2.2),∃C,XC K q.1 C/\p C q.2:=λq b=>by
 obtain⟨y,a,rfl⟩:=UK.mp b;exact⟨_,(h y a).xc,c<|h y a⟩
def IC{K:Frag}{cs:List UD}{l:List<|UL×UD×List Bool}{x:UL}{C:UD}{a:List<|UL×Bool}(h:Mh K cs l)(z:qH K x C)(n:Nat)(d:cs[n]?=W1 C)(c:a=l.map λq=>(q.1,q.2.2.getD n U9)):∀x D,kh a x=VT->XC K x D->exmOne K (.ref D) (.ref C)=W1 VT :=
 ID (c▸Dr h (·.getD n U9) (p:=λr b=>exmOne K (.ref r) (.ref C)=W1 b) λy=>z.exm<|GZ y.sb n d)
end DL
namespace K11
open PySem L2 DL
abbrev m_look_at_web:ac->aw D:=Com.m_look_at_web
abbrev m_is_tie_number:ac->aw D:=Com.m_is_tie_number
abbrev m_look_at_taking:ac->aw D:=Com.m_look_at_taking
end K11
namespace K12
open PySem L2 DL
abbrev m_look_at_web:ac->aw D:=Com.m_look_at_web
abbrev m_is_tie_number:ac->aw D:=Com.m_is_tie_number
abbrev m_look_at_taking:ac->aw D:=Com.m_look_at_taking
end K12
namespace K51
open PySem L2 DL
def rK:am :=
 (aq (bh<|aa (aa (aa (ae 0) 0#0 aB) (aa (ae 1) 1#0 aB) bf) (aa (aa (ae 1) 0#0 aB) (aa (ae 0) 1#0 aB) bf) LP)
 ao)
def dk:ac->aw D:=bz 2 rK
abbrev m_is_length:ac->aw D:=Com.m_is_length
abbrev m_look_at_web:ac->aw D:=Com.m_look_at_web
noncomputable def b_has_lengths:am :=
 (aq (cT (lz (cM<|aU (ae 1)<|kq "list")<|aa (ak (af (ae 1) ax)<|m1 dP) (ak (af (aa (ae 0) 1#0 aB) ax)<|m1 dP) iM)
 (aq (bh<|dC<|.bl U9)
 ao)
 ao)
 (aq (bh<|ak (af (cG 1 [] (jy<|ae 1) (bK 0) mYes<|ak (af (ae 0) ax) m_is_length) ax)<|m1 vw)
 ao))
def m_has_lengths:ac->aw D:=bz 2 b_has_lengths
abbrev m_is_tie_number:ac->aw D:=Com.m_is_tie_number
abbrev m_look_at_taking:ac->aw D:=Com.m_look_at_taking
end K51
namespace K17
open PySem L2 DL
abbrev m_look_at_web:ac->aw D:=Com.m_look_at_web
abbrev m_is_tie_number:ac->aw D:=Com.m_is_tie_number
abbrev m_look_at_taking:ac->aw D:=Com.m_look_at_taking
end K17
namespace K11
open PySem L2 DL Com
def gB:gD (.str x) (.str y)=.ok (.bl (decide (x=y))):=by
 have h:gD (.str x) (.str y)=.ok (.bl<|x==y):=rfl;rw[h]
 by_cases e:x=y
 .rw[dg e,e,ei]
 .rw[dy e,beq_eq_false_iff_ne.mpr e]
def EL{ks:ci}:(ks.map λ(k:Nat)=>D.int (k:Int)).all (br m)=VT:=Vd.mpr λd a=>by
 obtain⟨z,_,rfl⟩:=UK.mp a;cases m<;>rfl
theorem Eo{n:Nat}:∀{ks:ci},((ks.map λ(k:Nat)=>D.int (k:Int)).any λd=>du d<|.int (n:Int))=decide (n∈ks)
 |[]=>rfl
 |k::ks=>by
  rw[UB,WU,Eo];have e:du (.int (k:Int)) (.int (n:Int))=((k:Int)==(n:Int)):=by rw[du]
  rw[e]
  by_cases h:n=k
  .subst h;simp
  .have a:((k:Int)==(n:Int))=U9:=beq_eq_false_iff_ne.mpr 0#2
   rw[a,YO];have:n∈k::ks↔n∈ks:=by simp[h]
   exact decide_eq_decide.mpr this.symm
def notIn_nums{ks:ci}{n:Nat}:bL (.int (n:Int)) (.lst<|ks.map λ(k:Nat)=>D.int (k:Int))=.ok (.bl (!(decide (n∈ks)))):=by
 have e:D0 (.int (n:Int)) (.lst<|ks.map λ(k:Nat)=>D.int (k:Int))=W1 (decide (n∈ks)):=(dh ⟨rfl,EL⟩).trans<|en W1 Eo;unfold bL;rw[e]
def lW{k:b->aw a}:(aw.exn x).bind k=.exn x:=rfl
end K11
namespace K51
open PySem L2 DL Com
theorem xJ{f:Type}(g:f->D)(c:f->Option D):∀(L:List f),(∀a∈L,∃ρ1,tg B (g a)=.ok ρ1/\((c a=Wp/\i ρ1=.ok (.bl U9))∨(∃d,c a=W1 d/\i ρ1=.ok (.bl VT)/\j ρ1=.ok d)))->cy B tg i j (L.map g)=.ok (L.filterMap c)
 |[],_=>rfl
 |a::L,h=>by
  obtain⟨ρ1,o,b⟩:=h a Uu;have l:=xJ g c L λd m=>h d<|Up _ m;rw[UB];unfold cy;rw[o,FR];rcases b with⟨e,b⟩|⟨d,e,b,n⟩
  .rw[b,FR]
   show cy B tg i j (L.map g)=_;rw[l,List.filterMap_cons_none e]
  .rw[b,FR]
   show(j ρ1).bind _=_;rw[n,FR,l,FR,List.filterMap_cons_some e]
def comp_pick{c:Type}(g:c->D)(b:c->Option D){L:List c}(i:L.length<=1000000)(h:∀a∈L,∃ρ1,tg (dQ n e ρ) (g a)=.ok ρ1/\((b a=Wp/\f ρ1=.ok (.bl U9))∨(∃d,b a=W1 d/\f ρ1=.ok (.bl VT)/\j ρ1=.ok d))):dY n e tg f j ρ (L.map g)=.ok (.lst<|L.filterMap b):=by
 unfold dY;rw[dh (show(L.map g).length<=line from by rw[Ut];exact i),xJ g b L h]
end K51
namespace Pth
open PySem L2 DL Com K17
open K11 (gB)
section
variable {ρ:Ev}{i:Nat}{f k:al}{ks:bv}{ds:ac}{d:D}
def ed_own:Dq i f ρ=(f ρ).bind (HQ i ρ):=rfl
def ed_own1:HQ i ρ (.dic ks ds)=.ok (.nx<|ρ.set i<|.ow<|.dic ks ds):=rfl
def ed_put3(h:decide (ks.length<=900)=VT):qQ i ρ ks ds d (.str x)=.ok (.nx<|ρ.set i<|.ow<|EW ks ds x d):=dh (UR (ef h)<|by decide)
def ed_disp:Ee a b ρ=aa a b Je ρ:=rfl
def ed_disp1:Je (.str x) d=.ok (.dic [x] [d]):=rfl
end
open K11 (gB)
def somes_some(xs:List cu):ic (xs.map W1)=xs:=by
 unfold ic;rw[YU];simp
end Pth
namespace K16
open PySem L2 DL
abbrev m_look_at_web:ac->aw D:=Nwb.m_look_at_web
abbrev m_is_tie_number:ac->aw D:=Com.m_is_tie_number
noncomputable def cV:am :=
 (aq (ff<|ak (af (ae 0) ax) m_look_at_web)
 (aq (cT (cM<|aU (ae 1)<|kq "list")
 (aq (qh "NoTaking"<|af 0#"a taking is a list" ax)
 ao)
 ao)
 (aq (aH 2<|aU 1#0 ko)
 (aq (kI (ae 1) (bK 3)
 (aq (cT (lz (cM<|ak (af (ae 0)<|af (ae 3) ax) m_is_tie_number)<|aa (ae 3) (ae 2) LQ)
 (aq (qh "NoTaking"<|af 0#"a taking is of rising numbers of ties" ax)
 ao)
 ao)
 (aq (cT (aa (aa (aa (aa (ae 0) 1#0 aB) (ae 3) aB) 4#0 aB) 0#4 wz)
 (aq (qh "NoTaking"<|af 0#"a watched tie can't be taken" ax)
 ao)
 ao)
 (aq (aH 2<|ae 3)
 ao))))
 ao))))
def m_look_at_taking:ac->aw D:=bz 4 cV
end K16
namespace DL
open PySem PySem.Spec PyProof.Rows L2
def Sz:Int->List Int->Int
 |a,[]=>a
 |a,b::r=>Sz (if b > a then b else a) r
def sC:Int->List Int->Int
 |a,[]=>a
 |a,b::r=>sC (if b<a then b else a) r
theorem Ig:∀(r:List Int) (a:Int),sC a r∈a::r/\∀x∈a::r,sC a r<=x
 |[],a=>⟨by unfold sC;exact Uu,λx c=>by unfold sC;rw[UX.mp c];exact X7 _⟩
 |b::r,a=>by
  unfold sC;have d:=Ig r<|if b<a then b else a;generalize g:sC (if b<a then b else a) r=m at d
  by_cases h:b<a
  .rw[dh h]at d
   refine⟨Up _ d.1,λx c=>?_⟩;rcases UG.mp c with rfl|c
   .have:=d.2 b Uu;omega
   .exact d.2 x c
  .rw[dV h]at d
   refine⟨?_,λx c=>?_⟩
   .rcases UG.mp d.1 with e|e
    .rw[e];exact Uu
    .exact Up _<|Up _ e
   .have f:=d.2 a Uu
    rcases UG.mp c with rfl|c
    .exact f
    .rcases UG.mp c with rfl|c
     .omega
     .exact d.2 x<|Up _ c
section
variable {X:Cx}{E:XK}
def Tu(x:D):aw D:=match x with
 |.lst b=>match gN b with
  |some (n::a)=>.ok<|.int<|Sz n a
  |_=>.stuck
 |.tup b=>match gN b with
  |some (n::a)=>.ok<|.int<|Sz n a
  |_=>.stuck
 |_=>.stuck
def xH(x:D):aw D:=match x with
 |.lst b=>match gN b with
  |some (n::a)=>.ok<|.int<|sC n a
  |_=>.stuck
 |_=>.stuck
def MH(K:Uv):ad->Hp->VK->Prop:=λxs H Q=>∃p b n a,xs=[.ref p]/\Rep K H (.lst b) (.ref p)/\gN b=W1 (n::a)/\Q (.int<|sC n a) H
def L4(e:n::ns=xs.toList.map (·.1))(a:(intItems xs)[argBest (λi j=>decide (numAt xs i<numAt xs j))<|xs.size-1]?=W1 v):∃t,v=.int (sC n ns) t:=by
 obtain⟨t,rfl⟩:=intItems_at a;have b:0<xs.size:=by
  have:=en X6 e;rw[UP,Ut,WH (xs:=xs)]at this;omega
 obtain⟨l,f⟩:=argBest_lt (numAt xs)<|xs.size-1;obtain⟨m1,m2⟩:=Ig ns n;have d:numAt xs (argBest (λi j=>decide (numAt xs i<numAt xs j))<|xs.size-1)∈n::ns:=by
  rw[e,numAt_eq];exact getD_mem (by rw[Ut,WH];omega)
 have g:numAt xs (argBest (λi j=>decide (numAt xs i<numAt xs j))<|xs.size-1)<=sC n ns:=by
  rw[e]at m1;obtain⟨j,c,m⟩:=mem_getD m1;rw[Ut,WH]at c;have:=f j 0#2;rw[numAt_eq (j:=j)]at this;omega
 have:=m2 _ d;exact⟨t,by congr 1;omega⟩
def xM(A:X.calm=VT):mv X (.builtin "min") (MH X.K):=by
 intro L s J H xs N Q I r h;obtain⟨p,ds,n,f,rfl,x,z,q⟩:=h;obtain⟨u,rfl,m⟩:=r.one;obtain⟨a,M,c,Y,rfl,T,G,C,B,_⟩:=bw I x m;have i:=AQ z G C;obtain⟨xs,g⟩:=i.allInts.items;have d:s.heap.IsList a (intItems xs):=g▸B;have j:n::f=xs.toList.map (·.1):=by
  rw[←nums_intItems,←g];exact(show numsOf c.toArray.toList=n::f from i.numsOf).symm
 refine min_intList (I.ok.hd A) d (by have:=en X6 j;rw[UP,Ut,WH (xs:=xs)]at this;omega) λv U l w y=>?_;obtain⟨t,rfl⟩:=L4 j w;exact⟨.int _,H,I.kept (t':=l)<|λb o e=>y b o e,⟨_,rfl⟩,q⟩
def Eh:nz X E (MH X.K) (m1 xH):=BE λx v H i Q b r q=>by
 cases x with
 |lst c=>
  unfold xH at q;obtain⟨p,d,rfl,g,f⟩:=aF.mp r;cases e:gN c with
  |none=>simp only[e]at q;exact q.elim
  |some a=>
   cases a with
   |nil=>simp only[e]at q;exact q.elim
   |cons n a=>
    simp only[e]at q;exact⟨p,c,n,a,rfl,r.mono b,e,bW b q<|ri _⟩
 |_=>exact q.elim
end
def vX(I:L2.Inv X c b H s)(i:s.heap.get? p.1=W1 p.2)(g:H p.1=Wp)(f:p.1≠X.env.locals)(e:p.1∉X.fs)(d:∀v,p.2.data≠.cell v):L2.Inv X (p::c) b H s :=
 ⟨I.ok,I.os,I.bare,I.base,I.loc,I.cell,I.free,I.freeC,λq a=>by
  rcases UO.mp a with a|a
  .exact I.pin q<|Vo _ a
  .rcases UG.mp a with rfl|a
   .exact⟨i,g,f,e,d⟩
   .exact I.pin q<|Va _ a,I.hok,I.len⟩
def BQ(I:L2.Inv X (p::c) b H s):L2.Inv X c b H s :=
 ⟨I.ok,I.os,I.bare,I.base,I.loc,I.cell,I.free,I.freeC,λq a=>by
  rcases UO.mp a with a|a
  .exact I.pin q<|Vo _ a
  .exact I.pin q<|Va _<|Up _ a,I.hok,I.len⟩
structure M6 (X:Cx) (q:UL) (F:kE) (c P:UD) (clos:List (UL×UD)):Prop where
 cl:closureFor F.scope X.env=pure clos
 cd:X.env.code=.ref c
 hd:W.CodeHd X.base c P
 tb:(P,#[rawInt F.pos.line,rawInt F.pos.col,.str q 0])∈iK X.K
 qu:X.env.qual++"<lambda>"=q
 df:defaultsOf F.params X.env=([],[])
abbrev nH(q:UL)(F:kE)(a:List<|UL×UD)(c:Ur)(d:UD)(b:Ur):Obj:=W.kla_obj "<lambda>" q F.params F.body F.scope a c d b
def S1{m d:Array Ur}(h:#[a,b,c]++m=#[n,l,j]++d):a=n/\b=l/\c=j:=by
 have e:=en Y8 h;simp only[sau,Wu,V8]at e;injection e with i e;injection e with g e;injection e with f _;exact⟨i,g,f⟩
section
variable {X:Cx}{π:List (UD×Obj)}{σ:List (Option V)}{H:Hp}{s:UH}{A:VD}{q:UL}{F:kE}{c P:UD}{clos:List (UL×UD)}{Q:Ur->UH->Prop}{E:Ur->UH->Prop}
def Iu(I:L2.Inv X π σ H s)(M:M6 X q F c P clos)
  (h:∀(f d:UD) (i pm:Ur) (t:Tok) (m:Array Ur) (H':Hp) (s':UH),L2.Inv X ((f,nH q F clos pm d i)::π) σ H' s'->aE H H'->(∀b,H b=Wp->b≠d->H' b=Wp)->H' d=W1 (.tbl (#[.none,.str q t]++m))->2#s<=f->Q (.ref f) s') :
  UZ 4#X A (eval (.Lambda F.params F.body F.scope F.pos) X.env) Q E s:=by
 obtain⟨more,C⟩:=I.tab P _ M.tb;have tok:L2.TabOk H s.heap P _:=I.hok P _ C;have hg:s.heap.Ns UU X.mg:=by
  obtain⟨o,T,U,e,r⟩:=I.mod.glob;exact⟨o,T,U,I.bk _ _ e,r⟩
 have hC:=M.hd.keeps I.bk;have as:UU≠P:=λz=>by
  obtain⟨o,T,U,e,r⟩:=I.mod.glob;have:=(I.bs _ _ e).2;rw[z,C]at this;cases this
 obtain⟨bm,ob,b1,b2,b3,b4,b5,b6⟩:=I.mod.bm;have a0:bm≠P:=λz=>by
  have:=(I.bs _ _ b3).2;rw[z,C]at this;cases this
 have a1:bm≠UU:=λz=>by
  obtain⟨o,T,U,e,hd,_⟩:=I.mod.glob;rw[z,e]at b3;cases b3;rw[hd]at b6;cases b6
 have hB:s.heap.BuiltinsAt X.mg P:=⟨bm,ob,b1,b2,a1,a0,I.bk _ _ b3,b4,b5,b6⟩
 have nP:∀b,H b=Wp->b≠P:=λb n z=>by rw[z,C]at n;cases n
 refine W.kla_eval M.df ?_;rw[M.qu];rcases tok with⟨z,_⟩|⟨_,e|⟨l,c0,q',t0,t',mm,an,d,e1,e2,e3⟩⟩
 .exact ee z<|n6 M.tb
 .-- for ab first time
  refine W.kla_makeFunction M.cl I.ok.glob hg M.cd hC e V4 rfl as hB λd i j tk hx y L J G=>?_;obtain⟨cb,oc,vs,t,ec,ap,hd,hv⟩:=J;obtain rfl:d=cb:=by injection ec
  have hn:H d=Wp:=I.hok.fresh y;have ah:∀{b:UD}{o:Obj},s.heap.get? b=W1 o->b≠d:=λ{b o} e=>Vh<|Uy (UT e) y;have p:∀{b:UD}{o:Obj},b≠P->s.heap.get? b=W1 o->(j.push<|nH q F clos ((X.mg "__name__").getD .none) d i).get? b=W1 o:=λ{b o} n e=>UC _<|hx b o n e;have g:2#s<=j.objs.size:=UI y<|Ww L;have same:aE H (upd H d<|.tbl #[.none,.str q 0]):=λb o e=>by rw[aA (aP e hn)];exact e
  have I2:L2.Inv X π σ (upd H d<|.tbl #[.none,.str q 0]) { s with heap:=j.push<|nH q F clos ((X.mg "__name__").getD .none) d i,gens:=s.gens,drawn:=s.drawn,toks:=tk }:=by
   refine I.step (ch:=[]) (λ_ z=>nomatch z) (λb o _ _ _ e n=>p (nP b n) e) (λb o _ _ _ e n=>⟨o.slots,p (nP b n) e⟩) (λb o _ e n=>by rw[aA (ah e)];exact n) (λb o _ e=>?_) (λb xs e=>same _ _ e) (λb o u e=>same _ _ e) (λb ps e=>⟨#[],by rw[same _ _ e];simp⟩) (λm hm=>?_) (λb u B=>?_) I.bare
   .by_cases N:b=P
    .subst N;exact⟨_,UC _ G⟩
    .exact⟨o,p N e⟩
   .obtain⟨o,T,U,ho,r⟩:=hm
    exact⟨o,T,U,p (nP _ I.free) ho,r⟩
   .by_cases N:b=d
    .subst N
     rw[aG]at B;cases B;exact UE ⟨rfl,oc,vs,q,0,t,#[],rfl,UC _ ap,hd,hv⟩
    .rw[aA N]at B
     by_cases O:b=P
     .subst O
      rw[C]at B;cases B;exact XI ⟨n6 M.tb,.inr ⟨_,_,q,0,0,more,#[],d,rfl,UC _ G,by rw[aG];rfl⟩⟩
     .refine(I.hok b u B).stay (λa o ha x=>p (λz=>?_) x) (λa x=>same _ _ x) (λa xs x=>same _ _ x) λa ps x=>same _ _ x
      rcases ha with rfl|ha
      .exact O z
      .rw[z,C]at ha;cases ha
  have hf:(upd H d<|.tbl #[.none,.str q 0]) j.objs.size=Wp:=by rw[aA (Z2 L)];exact I.hok.fresh g
  refine h j.objs.size d i _ 0 #[] _ _ (vX I2 (Vs _ rfl) hf (λz=>?_) (I.nofs g)<|λv z=>by cases z) same (λb n nb=>by rw[aA nb];exact n) (by rw[aG];rfl) g;have:=I.lt;exact ee (show X.env.locals<X.env.locals from Uy this<|z▸g)<|WJ _
 .-- a2 code Y in ab table
  obtain⟨f1,f2,f3⟩:=S1 e1;cases f1;cases f2;cases f3;refine W.kla_makeFunctionHit (cv:=.ref d) M.cl I.ok.glob hg M.cd hC e2 (by simp[TriplesOk,rawInt]) (by simp[codeAmong,rawInt]) hB λi j tk hk g=>?_;have p:∀{b:UD}{o:Obj},s.heap.get? b=W1 o->(j.push<|nH q F clos ((X.mg "__name__").getD .none) d i).get? b=W1 o:=λ{b o} e=>UC _<|hk b o e;have I2:L2.Inv X π σ H { s with heap:=j.push<|nH q F clos ((X.mg "__name__").getD .none) d i,toks:=tk }:=I.kept<|λb o e=>p e;have hf:H j.objs.size=Wp:=I.hok.fresh g;refine h j.objs.size d i _ t' an H _ (vX I2 (Vs _ rfl) hf (λz=>?_) (I.nofs g)<|λv z=>by cases z) (aE.refl _) (λb n _=>n) e3 g;have:=I.lt;exact ee (show X.env.locals<X.env.locals from Uy this<|z▸g)<|WJ _
end
def v9(h:UQ)(L:List UD)(H:Hp):Hp:=λb=>if b∈L then(match h.get? b with|some o=>W1 (.frz o<|.own b)|none=>H b) else H b
def unT(L:List UD)(J:Hp):Hp:=λb=>if b∈L then Wp else J b
section
variable {h:UQ}{L:List UD}{H J:Hp}{b:UD}
def nY(a:b∈L)(e:h.get? b=W1 o):v9 h L H b=W1 (.frz o<|.own b):=by unfold v9;rw[dh a,e]
def ib(a:b∉L):v9 h L H b=H b:=dV a
def lC(a:b∈L):unT L J b=Wp:=dh a
def cg(a:b∉L):unT L J b=J b:=dV a
def nX(e:unT L J b=W1 u):b∉L/\J b=W1 u:=by
 by_cases a:b∈L
 .rw[lC a]at e;cases e
 .rw[cg a]at e;exact⟨a,e⟩
end
structure wG (L:List UD) (H:Hp) (h:UQ):Prop where
 n:∀b∈L,H b=Wp
 o:∀b∈L,∃o,h.get? b=W1 o
def wG.same{h:UQ}(f:wG L H h):aE H (v9 h L H):=λb u e=>by
 rw[ib (λz=>by rw[f.n b z]at e;cases e)];exact e
section
variable {P:Vv}{w:VL}{K:Uv}{mg:UL->Option Ur}{base:UQ}{A:VD}{outer:List VI}{s s':UH}{H J:Hp}{L fs:List UD}{h h':UQ}
def wG.hok(f:wG L H h)(k:gk P w H h):gk P w (v9 h L H) h:=λb u e=>by
 have own:∀c x,H c=W1 x->v9 h L H c=W1 x:=λc x e=>f.same c x e
 by_cases d:b∈L
 .obtain⟨o,a⟩:=f.o b d
  rw[nY d a]at e;cases e;exact⟨a,o,a⟩
 .rw[ib d]at e
  exact(k b u e).stay (λ_ _ _ q=>q) (λc q=>own _ _ q) (λc xs q=>own _ _ q) λc ps q=>own _ _ q
def wG.env0(f:wG L H s.heap)(e:rY P w K mg base A outer s H)(g:∀b∈L,base.get? b=Wp)(c:∀b∈L,b∉jx outer):rY P w K mg base A outer s (v9 s.heap L H) :=
 ⟨e.frames,e.mod,λb o q=>⟨(e.bs b o q).1,by rw[ib (λz=>by rw[g b z]at q;cases q)];exact(e.bs b o q).2⟩,e.bsz,e.funs,λb q=>by rw[ib (λz=>c b z q)];exact e.frf b q,f.hok e.hok,e.bare,λi d a=>by
  obtain⟨m,q⟩:=e.tab i d a;exact⟨m,f.same _ _ q⟩⟩
def wG.back(f:wG L H h)(u:Un fs [] (v9 h L H) J h h')(k:gk P w J h'):Un fs [] H (unT L J) h h'/\gk P w (unT L J) h'/\∀b∈L,∃o,h.get? b=W1 o/\h'.get? b=W1 o/\J b=W1 (.frz o<|.own b):=by
 have l:∀b∈L,∃o,h.get? b=W1 o/\h'.get? b=W1 o/\J b=W1 (.frz o<|.own b):=λb i=>by
  obtain⟨o,r⟩:=f.o b i;have q:=u.frzs b o _<|nY i r;exact⟨o,r,(k b _ q).1,q⟩
 have d:∀{b:UD}{x:HO},H b=W1 x->b∉L:=λ{b x} e z=>by rw[f.n b z]at e;cases e
 refine⟨⟨λb o e n i g=>?_,λb o e n i g=>?_,λb o e n g=>?_,λb o e g=>u.there b o e g,λb xs e=>?_,λb o v e=>?_,λb ps e=>?_⟩,λb v e=>?_,l⟩
 .by_cases a:b∈L
  .obtain⟨t,j,p,_⟩:=l b a
   rw[e]at j;cases j;exact p
  .exact u.keep b o e (by rw[ib a];exact n) i g
 .by_cases a:b∈L
  .obtain⟨t,j,p,_⟩:=l b a
   rw[e]at j;cases j;exact⟨o.slots,p⟩
  .exact u.slot b o e (by rw[ib a];exact n) i g
 .by_cases a:b∈L
  .exact lC a
  .rw[cg a];exact u.free b o e (by rw[ib a];exact n) g
 .rw[cg (d e)];exact u.tups b xs<|f.same _ _ e
 .rw[cg (d e)];exact u.frzs b o v<|f.same _ _ e
 .rw[cg (d e)];exact u.tbls b ps<|f.same _ _ e
 .obtain⟨i,e⟩:=nX e
  have m:∀c x,J c=W1 x->(∀o b,x≠.frz o (.own b))->unT L J c=W1 x:=λc x e n=>by
   rw[cg (λz=>by obtain⟨o,_,_,q⟩:=l c z;rw[q]at e;cases e;exact n _ _ rfl)];exact e
  exact(k b v e).stay (λ_ _ _ q=>q) (λc q=>m _ _ q (λ_ _ z=>by cases z)) (λc xs q=>m _ _ q (λ_ _ z=>by cases z)) λc ps q=>m _ _ q (λ_ _ z=>by cases z)
end
mutual
def jz:D->Bool
 |.tup a=>noFns a
 |.lst a=>noFns a
 |.dic _ a=>noFns a
 |.ob (.fn _) _=>U9
 |.ob _ a=>noFns a
 |_=>VT
def noFns:ac->Bool
 |[]=>VT
 |d::r=>jz d&&noFns r
end
def Cy(h:noFns (d::r)=VT):jz d=VT/\noFns r=VT:=by
 rwa[noFns,US]at h
def Mp(L:List UD)(J:Hp):Prop:=∀b∈L,(∃o c,J b=W1 (.frz o<|.own c))∨(∃ps,J b=W1 (.tbl ps))∨J b=Wp
section
variable {K:Uv}{L:List UD}{J:Hp}
def Mp.rd(h:Mp L J)(r:Rd J a u)(n:∀b,u≠.own b)(f:∀ps,u≠.tbl ps)(e:∀o b,u≠.frz o b):Rd (unT L J) a u:=by
 have d:a∉L:=λz=>by
  rcases h a z with⟨o,c,q⟩|⟨ps,q⟩|q<;>rcases r with r|⟨g,r⟩<;>rw[q]at r<;>cases r
  .exact e _ _ rfl
  .exact n _ rfl
  .exact f _ rfl
 unfold Rd;rw[cg d];exact r
def Mp.at(h:Mp L J)(r:J a=W1 u)(n:∀o b,u≠.frz o (.own b))(e:∀ps,u≠.tbl ps):unT L J a=W1 u:=by
 have d:a∉L:=λz=>by
  rcases h a z with⟨o,c,q⟩|⟨ps,q⟩|q<;>rw[q]at r<;>cases r
  .exact n _ _ rfl
  .exact e _ rfl
 rw[cg d];exact r
mutual
theorem Rep.unT(h:Mp L J):∀{d:D}{v:V},jz d=VT->Rep K J d v->Rep K (unT L J) d v
 |.non,_,_,r=>by unfold Rep at r ⊢;exact r
 |.bl _,_,_,r=>by unfold Rep at r ⊢;exact r
 |.int _,_,_,r=>by unfold Rep at r ⊢;exact r
 |.str _,_,_,r=>by unfold Rep at r ⊢;exact r
 |.tup l,_,n,r=>by
  obtain⟨a,f,e,j,b⟩:=aM.mp r;rw[jz]at n;exact aM.mpr ⟨a,f,e,j.imp (λq=>h.rd q (λ_ z=>by cases z) (λ_ z=>by cases z)<|λ_ _ z=>by cases z) id,Reps.unT h n b⟩
 |.lst l,_,n,r=>by
  obtain⟨a,f,e,j,b⟩:=aF.mp r;rw[jz]at n;exact aF.mpr ⟨a,f,e,j.imp (λq=>h.rd q (λ_ z=>by cases z) (λ_ z=>by cases z)<|λ_ _ z=>by cases z) id,Reps.unT h n b⟩
 |.dic p l,_,n,r=>by
  rw[jz]at n;rw[Rep]at r ⊢;obtain⟨a,g,f,e,j,b,y,w⟩:=r;exact⟨a,g,f,e,h.rd j (λ_ z=>by cases z) (λ_ z=>by cases z) (λ_ _ z=>by cases z),b,y,Reps.unT h n w⟩
 |.exc x,_,_,r=>by
  obtain⟨a,C,A,e,j,b⟩:=jO.mp r;exact jO.mpr ⟨a,C,A,e,j,h.rd b (λ_ z=>by cases z) (λ_ z=>by cases z)<|λ_ _ z=>by cases z⟩
 |.ob (.ins c p) l,_,n,r=>by
  rw[jz]at n
  .obtain⟨a,f,e,⟨C,s,u,i,o,m⟩,b⟩:=bE.mp r
   exact bE.mpr ⟨a,f,e,⟨C,s,u,i,h.at o (λ_ _ z=>by cases z) (λ_ z=>by cases z),m⟩,Reps.unT h n b⟩
  .intro q z;cases z
 |.ob (.dint p) l,_,n,r=>by
  rw[jz]at n
  .obtain⟨a,f,e,⟨g,i,o,m⟩,b⟩:=bE.mp r
   exact bE.mpr ⟨a,f,e,⟨g,h.rd i (λ_ z=>by cases z) (λ_ z=>by cases z) (λ_ _ z=>by cases z),o,m⟩,Reps.unT h n b⟩
  .intro q z;cases z
 |.ob (.exf c p) l,_,n,r=>by
  rw[jz]at n
  .obtain⟨a,f,e,⟨C,s,fs,i,o,m,t⟩,b⟩:=bE.mp r
   exact bE.mpr ⟨a,f,e,⟨C,s,fs,i,h.rd o (λ_ z=>by cases z) (λ_ z=>by cases z) (λ_ _ z=>by cases z),h.at m (λ_ _ z=>by cases z) (λ_ z=>by cases z),t⟩,Reps.unT h n b⟩
  .intro q z;cases z
 |.ob .pl l,_,n,r=>by
  rw[jz]at n
  .obtain⟨a,f,e,i,b⟩:=bE.mp r
   exact bE.mpr ⟨a,f,e,h.at i (λ_ _ z=>by cases z) (λ_ z=>by cases z),Reps.unT h n b⟩
  .intro q z;cases z
 |.ob (.fn q) l,_,n,r=>by rw[jz]at n;cases n
theorem Reps.unT(h:Mp L J):∀{ds:ac}{vs:ad},noFns ds=VT->Reps K J ds vs->Reps K (unT L J) ds vs
 |[],_,_,r=>by rw[Reps.nil_iff.mp r];exact Reps.nil
 |d::ds,_,n,r=>by
  obtain⟨b,a⟩:=Cy n;obtain⟨v,f,rfl,e,c⟩:=aC.mp r;exact Reps.cons (Rep.unT h b e)<|Reps.unT h a c
end
def DQ(x:RG):Bool:=x.flds.all λp=>jz p.2
theorem uh:∀{l:List<|UL×D},l.lookup n=W1 d->∃k,(k,d)∈l
 |[],e=>by cases e
 |(k,v)::r,e=>by
  rw[VF]at e;cases h:(n==k) with|true=>rw[h]at e;simp only[WA]at e;subst e;exact⟨k,.head _⟩|false=>rw[h]at e;obtain⟨a,b⟩:=uh e;exact⟨a,.tail _ b⟩
def zI.unT(h:Mp L J)(n:DQ x=VT)(r:zI K J x C ox):zI K (unT L J) x C ox:=by
 obtain⟨e,b⟩:=r;refine⟨e,?_⟩;cases ox with
 |none=>exact b
 |some a=>
  obtain⟨fs,l,j⟩:=b;refine⟨fs,h.at l (λ_ _ z=>by cases z) (λ_ z=>by cases z),λm d c=>?_⟩;obtain⟨v,i,g⟩:=j m d c;obtain⟨k,f⟩:=uh c;exact⟨v,i,Rep.unT h (Vd.mp n _ f) g⟩
end
def zb(r:aw D):aw D:=match r with
 |.ok d=>if jz d=VT then .ok d else .stuck
 |.exn x=>if DQ x=VT then .exn x else .stuck
 |.stuck=>.stuck
abbrev LT:=UL->ac->ac->aw D
noncomputable def nU(P:Vv) (w:VL) (K:Uv) (g:UL->Option Ur) (base:UQ) (CX:zK) (k:Nat) (q:UL) (m:ac->ac->aw D):Prop :=
 ∀(A:VD) (outer:List VI) (s:UH) (H b:Hp) (a e:ac) (f:UD) (d:List Ur) (c:ad) (Q:VK) (E:XK),cZ k A->rY P w K g base A outer s H->aE b H->Rep K b (.ob (.fn q) a) (.ref f)->Reps K b e c->bo c d ->
  post K E H b (m a e) Q->WQ (UY P w) A (.call (.ref f) ⟨d,[]⟩) (CR CX outer P w H s Q E) s
structure lj (P:Vv) (w:VL) (K:Uv) (mg:UL->Option Ur) (base:UQ) (CX:zK) (k:Nat) (lt:LT):Prop where
 run:∀q,nU P w K mg base CX k q (lt q)
section
variable {P:Vv}{w:VL}{K:Uv}{mg:UL->Option Ur}{base:UQ}{CX:zK}{k:Nat}{lt:LT}{q:UL}{m:ac->ac->aw D}
def nU.mono(h:nU P w K mg base CX j q m)(l:j<=k):nU P w K mg base CX k q m:=λA outer s H g a e f c b Q E d=>h A outer s H g a e f c b Q E<|d.mono l
def lj.mono(h:lj P w K mg base CX j lt)(l:j<=k):lj P w K mg base CX k lt:=⟨λq=>(h.run q).mono l⟩
def Il:LT:=λ_ _ _=>.stuck
def ud(q:UL)(m:ac->ac->aw D)(lt:LT):LT:=λr=>if r=q then m else lt r
def Ik:lj P w K mg base CX k Il:=⟨λq A outer s H e a d f c b Q E _ _ _ _ _ _ h=>(show False from h).elim⟩
def Ff(h:nU P w K mg base CX k q m)(a:lj P w K mg base CX k lt):lj P w K mg base CX k (ud q m lt):=⟨λr=>by
 by_cases e:r=q
 .subst e
  have z:ud r m lt r=m:=dh rfl;rw[z];exact h
 .have z:ud q m lt r=lt r:=dV e
  rw[z];exact a.run r⟩
end
section
variable {X:Cx}{CX:zK}{k:Nat}{lt:LT}{π:List (UD×Obj)}{σ:L2.St}{H Ha:Hp}{s:UH}{Q:VK}{E:XK}{q:UL}{caps ds:ac}{f:UD}{us:List Ur}{vs:ad}
def Kk(L:lj X.prog X.w X.K X.mg X.base CX k lt)(i:cZ k X.A)(d:gR CX X E)(I:L2.Inv X π σ H s)(g:aE Ha H)(c:Rep X.K Ha (.ob (.fn q) caps)<|.ref f)(rd:Reps X.K Ha ds vs)(r:bo vs us)(h:post X.K E H Ha (lt q caps ds) Q) :
  UZ 4#X X.A (call (.ref f) us) (EP X π σ Q) X.xe s:=by
 refine wpAny_call<|codeAny_mono (L.run q X.A X.stack s H Ha caps ds f us vs Q E i I.env0 g c rd r h) λr b a=>?_;cases r with
 |error e=>exact d π σ H s e b I a
 |ok j=>
  cases j with|ret u=>exact I.after a|next|brk|cont=>exact Vz a
def A5(I:L2.Inv X π σ H s)(d:aE Ha H)(c:Rep X.K Ha (.ob (.fn q) caps)<|.ref f):W.FnAt f s.heap:=by
 obtain⟨a,vs,g,⟨F,b,o,t,m,j,i,n,l,e,_⟩,_⟩:=bE.mp c;cases g;exact⟨_,_,_,_,(I.hok f _<|d _ _ e).1⟩
end
def qw(lt:LT)(j:Nat)(c:Ev->aw (ac)):al:=λb=>match b[j]? with
 |some (.sh (.ob (.fn q) a))=>(c b).bind λd=>lt q a d
 |_=>.stuck
section
variable {X:Cx}{E:XK}{e:Vt}{es:List Vt}{fa:Ev->aw (ac)}{pos:Pos}{j:Nat}{lt:LT}{k k0:Nat}{CX:zK}{y:UL}{p:Pos}
def Bx(L:lj X.prog X.w X.K X.mg X.base CX k0 lt)(hr:cZ k X.A)(hN:X.N[j]?=W1 y)(hv:BX X.env.scope y)(ha:DA X E (e::es) fa)(C:k0<=k:=by decide)(hx:gR CX X E:=by first|exact Aj|exact n|exact yF)
  (hd:1#y:=by decide)(G:3#y:=by decide)(he:UJ (e::es) X.env=(U9,eval e X.env)::UJ es X.env:=by exact aW rfl)(B:(VQ pos<|UJ es X.env).any (·.1)=U9:=by exact cC rfl) :
  DE X E (.Call (.Name y p) (e::es) [] pos) (qw lt j fa):=by
 refine⟨λπ s Y H Q I h=>?_⟩;obtain⟨Ha,l,hs,i,q⟩:=h;unfold qw at q;cases J:l[j]? with
 |none=>rw[J]at q;exact q.elim
 |some sl=>
  rw[J]at q;cases sl with
  |sh d=>
   cases d with
   |ob kd c=>
    cases kd with
    |fn m=>
     replace q:post X.K E H Ha ((fa l).bind λf=>lt m c f) Q:=q;obtain⟨v,e1,M⟩:=i j _ J;obtain⟨a,ab,rfl,_,_⟩:=bE.mp M;refine wpAny_Call_Name_kw<|cW (je hN hv hd G π s Y H (λv U=>v=.ref a/\U=H) I ⟨.ref a,e1,rfl,rfl⟩) λu s1 ⟨v,U,I1,r,ev,eh⟩=>?_;subst ev eh;obtain rfl:u=Vg a:=r;refine W.callWith_F (A5 I1 hs M) (cW (ha.o pos π s1 Y U (λt T=>∃b f,aE b T/\Rep X.K b (.ob (.fn m) c) (.ref a)/\Reps X.K b f t/\post X.K E T b (lt m c f) Q) I1 ⟨Ha,l,hs,i,?_⟩) λus s2 ⟨t,T,I2,r,b,f,z1,z2,z3,z4⟩=>⟨A5 I2 z1 z2,Kk (L.mono C) hr hx I2 z1 z2 z3 r z4⟩) he B;cases e3:fa l with
     |stuck|exn x=>rwa[e3]at q
     |ok f=>
      rw[e3]at q;intro t H' O g r1;exact⟨O,f,g.sub,M.mono g.z,r1,post.grow (r:=lt m c f) q g⟩
    |_=>exact q.elim
   |_=>exact q.elim
  |_=>exact q.elim
end
noncomputable def S0(P:Vv) (w:VL) (K:Uv) (mg:UL->Option Ur) (base:UQ) (N:bv) (qual:UL) (scope:X3) (f c':UD) (clos:List<|UL×UD) (A:VD) (outer:List VI) (s:UH) (H:Hp):Cx where
 prog:=P
 w:=w
 K:=K
 mg:=mg
 base:=base
 A:=A.deeper (W.envX qual scope 2#s f (.ref c') clos)
 N:=N
 sf:=s
 Ha:=H
 env:=W.envX qual scope 2#s f (.ref c') clos
 outer:=outer
 stack:=W.envX qual scope 2#s f (.ref c') clos::outer
 ex:=[]
 calm:=true
 fn:=λ_=>U9
 pn:=[]
 xe:=λ_ _=>False
structure JE (N ps:bv) (sc:X3):Prop where
 kind:sc.kind=.function
 co:sc.isCoroutine=U9
 gen:sc.isGenerator=U9
 nd:N.Nodup
 eq:N=ps++iL sc
 par:∀x∈ps,sc.names.lookup x=W1 .local
 fr:∀x∈iL sc,sc.names.lookup x=W1 .free
 has:∀y∈sc.names,y.2=.free->y.1∈iL sc
 nocell:∀y∈sc.names,y.2≠.cell
def Fj(n c:Nat)(b:al)(a ds:ac):aw D:=if ds.length=n/\a.length=c/\noFns ds=VT/\noFns a=VT then(match b ((ds++a).map Sl.sh) with
 |.ok d=>.ok d
 |_=>.stuck) else .stuck
theorem gG.all{H:Hp}:∀{a:List<|UL×UD}{vs:ad},gG H a vs->∀c∈a.map (·.2),∃o u,H c=W1 (.frz o<|.own c)/\o.data=.cell (W1 u)
 |[],_,_=>λc h=>by simp at h
 |(x,c)::r,_,⟨v,g,o,u,_,f,e,_,d⟩=>λb h=>by
  rw[UB,UG]at h;rcases h with h|h
  .rw[h];exact⟨o,u,f,e⟩
  .exact gG.all d b h
theorem gG.look{H:Hp}:∀{d:List<|UL×UD}{vs:ad}{j:Nat}{x:UL}{v:V},gG H d vs->(d.map (·.1)).Nodup->(d.map (·.1))[j]?=W1 x->vs[j]?=W1 v->∃c o u,d.lookup x=W1 c/\H c=W1 (.frz o<|.own c)/\o.data=.cell (W1 u)/\bB v u
 |[],_,_,_,_,_,_,h,_=>by simp at h
 |(y,c)::r,_,0,x,v,⟨m,p,o,u,e,l,i,g,f⟩,nd,a,b=>by
  simp at a;subst a;rw[e]at b;simp at b;subst b;exact⟨c,o,u,by rw[VF,ei],l,i,g⟩
 |(y,c)::r,_,j+1,x,v,⟨m,p,o,u,e,l,i,g,f⟩,nd,a,b=>by
  rw[UB]at nd a;rw[Vu]at a;rw[e,Vu]at b;obtain⟨z,t,n,s,q⟩:=gG.look f (U6.mp nd).2 a b;refine⟨z,t,n,?_,q⟩;have w:(x==y)=U9:=by
   rw[er];rintro rfl;exact(U6.mp nd).1<|UM a
  rw[VF,w];exact s
theorem nq:∀{a:List<|UL×UD},x∈a.map (·.1)->∃c,a.lookup x=W1 c
 |[],h=>by simp at h
 |(y,c)::r,h=>by
  rw[VF];cases e:(x==y) with
  |true=>exact⟨c,rfl⟩
  |false=>
   rw[UB,UG]at h;rcases h with h|h
   .rw[er]at e;exact ee h e
   .exact nq h
theorem xU:∀{a:List (UL×UD)},(a.map (·.2)).Nodup->a.Pairwise λx y=>x.2≠y.2
 |[],_=>.nil
 |(y,c)::r,h=>by
  rw[UB]at h;obtain⟨f,d⟩:=U6.mp h;exact .cons (λp b e=>f<|e▸WG b)<|xU d
theorem sS{y:UL}{u:Ur}:∀{ps:bv}{c:List Ur}{i:Nat},ps.Nodup->ps[i]?=W1 y->c[i]?=W1 u->(ps.zip c).lookup y=W1 u
 |[],_,_,_,h,_=>by simp at h
 |_::_,[],_,_,_,h=>by simp at h
 |p::P,w::d,0,nd,a,b=>by
  simp at a b;subst a;subst b;rw[VS,VF,ei]
 |p::P,w::d,i+1,nd,a,b=>by
  have e:(y==p)=U9:=by
   rw[er];rintro rfl;exact(U6.mp nd).1 (UM<|by simpa using a)
  rw[VS,VF,e];exact sS (i:=i) (U6.mp nd).2 (by simpa using a) (by simpa using b)
theorem F9:∀{ps:bv}{c:List Ur},∀x∈(ps.zip c).map (·.1),x∈ps
 |_,_,x,h=>by
  obtain⟨⟨a,b⟩,d,rfl⟩:=UK.mp h;exact(X9 d).1
theorem wK:∀{ps:bv}{a:List Ur},ps.Nodup->((ps.zip a).map (·.1)).Nodup
 |[],_,_=>by simp
 |_::_,[],_=>by simp
 |p::P,w::b,h=>by
  rw[VS,UB];exact U6.mpr ⟨λz=>(U6.mp h).1<|F9 _ z,wK (U6.mp h).2⟩
def Pk{ps:bv}{a:List Ur}{i:Nat}(nd:ps.Nodup)(c:ps[i]?=W1 y)(b:a[i]?=W1 u):(ps.zip a).reverse.lookup y=W1 u:=by
 rw[lookup_reverse_of_nodup _ (wK nd)];exact sS nd c b
def pO(L:List UD)(H J:Hp):Hp:=λb=>if b∈L then H b else J b
section
variable {L:List UD}{H J:Hp}{b:UD}
def mi(a:b∈L):pO L H J b=H b:=dh a
def eT(a:b∉L):pO L H J b=J b:=dV a
def w4(s:aE (unT L H) J):aE H (pO L H J):=λb u e=>by
 by_cases a:b∈L
 .rw[mi a];exact e
 .rw[eT a];exact s b u (by rw[cg a];exact e)
def Fw(i:aE Ha H)(g:bC (unT L H) (unT L Ha) J j):bC H Ha (pO L H J) (pO L Ha j) :=
 ⟨w4 g.s,w4 g.z,λb u e=>by
  by_cases c:b∈L
  .rw[mi c]at e ⊢;exact i b u e
  .rw[eT c]at e ⊢;exact g.sub b u e,λa d f=>by
  by_cases c:a∈L
  .rw[mi c]at d;exact ee f d
  .rw[eT c]at d
   have:=g.nw a d (by rw[cg c];exact f);rwa[cg c]at this⟩
end
section
variable {P:Vv}{w:VL}{L fs:List UD}{H J:Hp}{h h':UQ}
def C1(j:∀b∈L,∃o c,H b=W1 (.frz o<|.own c)/\h.get? b=W1 o)(r:∀b∈L,b∉fs)(u:Un fs [] (unT L H) J h h')(k:gk P w J h'):Un fs [] H (pO L H J) h h'/\gk P w (pO L H J) h':=by
 have g:∀{b:UD}{x:HO},H b=W1 x->(∀o c,x≠.frz o (.own c))->b∉L:=λ{b x} e n z=>by
  obtain⟨o,c,q,_⟩:=j b z;rw[e]at q;cases q;exact n _ _ rfl
 have d:∀{b:UD},H b=Wp->b∉L:=λ{b} e z=>by
  obtain⟨o,c,q,_⟩:=j b z;rw[e]at q;cases q
 have p:∀b∈L,J b=Wp:=λb a=>by
  obtain⟨o,c,_,q⟩:=j b a;exact u.free b o q (lC a) 0#3
 refine⟨⟨λb o e n a f=>u.keep b o e (by rw[cg (d n)];exact n) a f,λb o e n a f=>u.slot b o e (by rw[cg (d n)];exact n) a f,λb o e n f=>?_,λb o e f=>u.there b o e f,λb xs e=>?_,λb o v e=>?_,λb ps e=>?_⟩,λb v e=>?_⟩
 .rw[eT (d n)];exact u.free b o e (by rw[cg (d n)];exact n) f
 .have i:=g e (λ_ _ z=>by cases z)
  rw[eT i];exact u.tups b xs (by rw[cg i];exact e)
 .by_cases a:b∈L
  .rw[mi a];exact e
  .rw[eT a];exact u.frzs b o v (by rw[cg a];exact e)
 .have i:=g e (λ_ _ z=>by cases z)
  rw[eT i];exact u.tbls b ps (by rw[cg i];exact e)
 .by_cases a:b∈L
  .rw[mi a]at e
   obtain⟨o,c,q,m⟩:=j b a;rw[q]at e;cases e;have l:=u.keep b o m (lC a) (r b a) 0#3;exact⟨l,o,l⟩
  .rw[eT a]at e
   have own:∀c x,J c=W1 x->pO L H J c=W1 x:=λc x q=>by
    rw[eT (λz=>by rw[p c z]at q;cases q)];exact q
   exact(k b v e).stay (λ_ _ _ q=>q) (λc q=>own _ _ q) (λc xs q=>own _ _ q) λc ps q=>own _ _ q
def FK(d:∀b∈L,∃o c,H b=W1 (.frz o<|.own c)/\h.get? b=W1 o)(k:gk P w H h):gk P w (unT L H) h:=λb v e=>by
 obtain⟨f,e⟩:=nX e;have own:∀c x,H c=W1 x->(∀o b,x≠.frz o b)->unT L H c=W1 x:=λc x q n=>by
  rw[cg (λz=>by obtain⟨o,g,a,_⟩:=d c z;rw[a]at q;cases q;exact n _ _ rfl)];exact q
 exact(k b v e).stay (λ_ _ _ q=>q) (λc q=>own _ _ q (λ_ _ z=>by cases z)) (λc xs q=>own _ _ q (λ_ _ z=>by cases z)) λc ps q=>own _ _ q (λ_ _ z=>by cases z)
end
section
variable {P:Vv}{w:VL}{K:Uv}{mg:UL->Option Ur}{base:UQ}{k:Nat}{q:UL}{F:kE}{N ps:bv}{fb:al}
def yV(hF:(xt K).lookup q=W1 F)(S:JE N ps F.scope)
  (a0:∀(O:UD) (j:List<|UL×UD) (pm a1:Ur) (Y:List Ur),Y.length=ps.length->bindArgs (W.kla_fn "<lambda>" q F.params F.body F.scope j pm (.ref O) a1) ⟨Y,[]⟩=pure (ps.zip Y))
  (as:∀(f O:UD) (j:List<|UL×UD) (A:VD) (outer:List VI) (s:UH) (H:Hp),cZ k (A.deeper<|W.envX q F.scope 2#s f (.ref O) j)->DE (S0 P w K mg base N q F.scope f O j A outer s H) E0 F.body fb) :
  nU P w K mg base CX0 (k+1) q (Fj ps.length (iL F.scope).length fb):=by
 intro A outer s H Ha n ds f Y vs Q E hr C hs rf rd r h;unfold Fj at h
 by_cases hl:ds.length=ps.length/\n.length=(iL F.scope).length/\noFns ds=VT/\noFns n=VT
 case neg=>rw[dV hl]at h;exact h.elim
 rw[dh hl]at h;obtain⟨be,bd,bc,bb⟩:=hl;obtain⟨a,T,ea,⟨F',j,O,t,mm,pm,a1,h0,⟨h1,bq⟩,h2,h3,h4⟩,h5⟩:=bE.mp rf;cases ea;rw[hF]at h0;cases h0;have ap:vs.length=ps.length:=by rw[←rd.length,be]
 have a8:Y.length=ps.length:=by rw[←r.length,ap]
 have bm:T.length=(iL F.scope).length:=by rw[←h5.length,bd]
 have a4:=(C.hok f _<|hs _ _ h2).1;have bp:s.heap.CodeRec (.ref O) q:=by
  rcases C.hok O _ (hs _ _ h3) with⟨_,oc,ws,qu,t1,t2,more,l,L,z3,z4⟩|⟨z,_⟩
  .have e:=en Y8 l
   simp only[sau,Wu,V8]at e;injection e with _ e;injection e with e _;cases e;exact⟨O,oc,ws,t2,rfl,L,z3,z4⟩
  .exact(z (by rw[ZA 0#3];rfl)).elim
 have a7:s.heap.NoLimit:=C.mod.nolimit.keeps λb o e=>(C.bs b o e).1;have hc:∀b∈j.map (·.2),∃o c,H b=W1 (.frz o<|.own c)/\s.heap.get? b=W1 o:=λb G=>by
  obtain⟨o,u,l,_⟩:=h4.all b G;exact⟨o,b,hs _ _ l,(C.hok b _<|hs _ _ l).1⟩
 have bi:∀b∈j.map (·.2),b∉jx outer:=λb G z=>by
  obtain⟨o,c,q1,_⟩:=hc b G;rw[C.frf b z]at q1;cases q1
 have ba:(j.map (·.1)).Nodup:=by
  have:=S.nd;rw[S.eq]at this;rw[h1];exact(WB.mp this).2.1
 refine W.kla_callFunE hr.depth a4 rfl S.co S.gen rfl bp ?_;rw[a0 O j pm a1 Y a8];refine U2<|wpAny_newFunctionEnv S.nocell (λy U=>S.par _ (X9 U).1) (λM a9 a2=>⟨a7.fresh _ a2,?_⟩) S.kind;show WQ _ _ (.expr F.body<|W.envX q F.scope 2#s f (.ref O) j) _ _;have B:∀b o,s.heap.get? b=W1 o->M.get? b=W1 o:=λb o e=>a2.extBut b o (Vh<|UT e)<|UC _ e;refine W.kla_codeExpr ?_;have a5:gk P w (unT (j.map (·.2)) H) M:=(FK hc C.hok).kept B;have ah:∀{b:UD},H b=Wp->unT (j.map (·.2)) H b=Wp:=λ{b} e=>by
  by_cases G:b∈j.map (·.2)
  .exact lC G
  .rw[cg G];exact e
 have a3:M.Ns 2#s (λx=>(ps.zip Y).reverse.lookup x):=a9;have I:L2.Inv (S0 P w K mg base N q F.scope f O j A outer s (unT (j.map (·.2)) H)) [] ((vs++T).map W1) (unT (j.map (·.2)) H) { s with heap:=M,toks:=s.toks+(ps.zip Y).length }:=by
  have an:∀b:UD,b∉(S0 P w K mg base N q F.scope f O j A outer s (unT (j.map (·.2)) H)).ex:=λb z=>ee (show b∈([]:List UD) from z) 0#3;refine⟨⟨C.mod,S.kind,rfl,rfl,U3 _,λy z c h1 h2=>?_,λy U=>?_,λy c z _=>ee (show U9=VT from z) 0#1,λ_=>hr.hd,sar C.frames,.inr ⟨rfl,rfl⟩,λb z=>ee z (an b),λb o e=>⟨(C.bs b o e).1,ah (C.bs b o e).2⟩,C.bsz,λb _ _=>an b,λb z=>ee z (an b),C.funs,λb z=>ah (C.frf b z),λP' d hm=>?_⟩,
   rfl,C.bare,Un.kept B,⟨_,a3,λi y v l L z3=>?_⟩,λy c z=>?_,ah (C.hok.fresh (U3 _)),λy c z=>?_,λp hp=>ee (show p∈([]:List<|UD×Obj) from hp) 0#3,a5,?_⟩
  .exact name_of_addr (xU bq) (VC h1)<|VC h2
  .have U:F.scope.names.lookup y=W1 .cell∨F.scope.names.lookup y=W1 .free:=U
   rcases U with U|U
   .exact ee rfl (S.nocell _<|VC U)
   .refine nq ?_
    show y∈j.map (·.1);rw[h1];exact S.has _ (VC U) rfl
  .obtain⟨m,e⟩:=C.tab P' d hm
   refine⟨m,?_⟩;show unT _ H P'=_;rw[cg (λz=>by obtain⟨o,c,l,_⟩:=hc _ z;rw[e]at l;cases l)];exact e
  .have l:N[i]?=W1 y:=l
   rw[S.eq]at l
   by_cases hi:i<ps.length
   .rw[U0 hi]at l
    rw[U7,U0 (by simp;omega),Uw]at L;have ha:vs[i]?=W1 v:=by
     cases e:vs[i]? with|none=>rw[e]at L;cases L|some a=>rw[e]at L;cases L;rfl
    obtain⟨u,hu,rv⟩:=r.get ha;have k:=S.par y<|UM l;refine⟨u,rv,.inl ⟨k,?_⟩⟩;have a6:ps.Nodup:=by
     have:=S.nd;rw[S.eq]at this;exact(WB.mp this).1
    exact Pk a6 l hu
   .rw[U8 0#2]at l
    rw[U7,U8 (by simp;omega),Ut,ap,Uw]at L;have ha:T[i-ps.length]?=W1 v:=by
     cases e:T[i-ps.length]? with|none=>rw[e]at L;cases L|some a=>rw[e]at L;cases L;rfl
    rw[←h1]at l;obtain⟨c,o,u,q1,q2,q3,q4⟩:=h4.look ba l ha;have k:=S.fr y (by rw[←h1];exact UM l);exact⟨u,q4,.inr ⟨.inr k,c,q1,o,B _ _ (C.hok c _<|hs _ _ q2).1,q3⟩⟩
  .obtain⟨o,u,q1,q2⟩:=h4.all c (WG<|VC z)
   exact⟨_,o,B _ _ (C.hok c _<|hs _ _ q1).1,q2⟩
  .exact lC<|WG<|VC z
  .show((vs++T).map W1).length=N.length
   rw[S.eq,Ut,Vf,Vf,ap,bm]
 have ab:Mp (j.map (·.2)) Ha:=λb G=>by
  obtain⟨o,u,z,_⟩:=h4.all b G;exact .inl ⟨o,b,z⟩
 have hS:aE (unT (j.map (·.2)) Ha) (unT (j.map (·.2)) H):=λb u e=>by
  obtain⟨G,e⟩:=nX e;rw[cg G];exact hs b u e
 refine VH ((as f O j A outer s (unT (j.map (·.2)) H) (hr.deeper _)).o [] _ _ _ (λv J=>(∀b∈j.map (·.2),J b=Wp)->Q v (pO (j.map (·.2)) H J)) I ⟨unT (j.map (·.2)) Ha,(ds++n).map Sl.sh,hS,λi d e=>?_,?_⟩) (λu s' ⟨v,J,I',rv,q'⟩=>?_) λe s' z=>(show False from z).elim
 .rw[Uw]at e
  have e1:(ds++n)[i]?=W1 d:=by
   cases z:(ds++n)[i]? with|none=>rw[z]at e;cases e|some x=>rw[z]at e;cases e;rfl
  obtain⟨v,l,L⟩:=((Reps.unT ab bc rd).app<|Reps.unT ab bb h5).get e1;exact⟨v,by rw[Uw,l];rfl,L⟩
 .cases e:fb ((ds++n).map Sl.sh) with
  |stuck=>rw[e]at h;exact h.elim
  |exn x=>rw[e]at h;exact h.elim
  |ok d=>
   rw[e]at h;intro v J Ja g rp hj;exact h v _ _ (Fw hs g) (rp.mono λb u z=>by
    rw[eT (λG=>by have:=g.sub b u z;rw[hj b G]at this;cases this)];exact z)
 .have hj:∀b∈j.map (·.2),J b=Wp:=λb G=>by
   obtain⟨o,c,_,z⟩:=hc b G;exact I'.base.free b o z (lC G) (by intro z;exact nomatch z)
  obtain⟨u1,k1⟩:=C1 hc bi I'.base I'.hok;exact⟨v,_,I'.os,I'.bare,u1,k1,rv,q' hj⟩
end
def k8:ci->Ev->Option (ac)
 |[],_=>W1 []
 |i::r,a=>match a[i]? with
  |some (.sh d)=>(k8 r a).map (d::·)
  |_=>Wp
def CN(j:Nat)(d:D)(ds:ac):ac:=ds.take j++d::ds.drop j
def vv(c:Ev->aw (ac))(j:Nat)(q:UL)(cs:ci)(m:ac->aw D):al:=λb=>(c b).bind λd=>match k8 cs b with
 |some a=>zb<|m<|CN j (.ob (.fn q) a) d
 |none=>.stuck
structure Mt (X:Cx) (F:kE) (clos:List (UL×UD)) (cs:ci):Prop where
 nm:clos.map (·.1)=iL F.scope
 nd:(iL F.scope).Nodup
 lk:∀p∈clos,X.env.cells.lookup p.1=W1 p.2
 ix:cs.map (X.N[·]?)=clos.map λp=>W1 p.1
 nl:∀p∈clos,X.env.kindOf p.1≠W1 .local /\ BX X.env.scope p.1
 fn:∀p∈clos,X.fn p.1=VT
def C2(ok:X.Ok)(C:Mt X F a cs):(a.map (·.2)).Nodup:=by
 have nd:(a.map (·.1)).Nodup:=by rw[C.nm];exact C.nd
 have lk:=C.lk;clear C
 induction a with
 |nil=>simp
 |cons p r f=>
  rw[UB]at nd ⊢;obtain⟨d,c⟩:=U6.mp nd;refine U6.mpr ⟨λz=>?_,f c λq b=>lk q<|Up _ b⟩;obtain⟨q,b,e⟩:=UK.mp z;have i:=lk p Uu;have g:=lk q<|Up _ b;have j:=ok.inj p.1 q.1 p.2 i (by rw[g,e]);exact d (by rw[j];exact WG b)
theorem vF{X:Cx}{G:List<|UD×Obj}{t:L2.St}{H Ha:Hp}{s:UH}{ρ:Ev}(I:L2.Inv X G t H s)(B:fW X.K Ha t ρ):∀{a:List<|UL×UD}{cs:ci}{b:ac},(∀p∈a,X.env.cells.lookup p.1=W1 p.2)->(cs.map (X.N[·]?)=a.map λp=>W1 p.1) ->
  (∀p∈a,X.env.kindOf p.1≠W1 .local /\ BX X.env.scope p.1)->k8 cs ρ=W1 b->∃vs,Reps X.K Ha b vs/\∀(J:Hp),(∀p∈a,∃o,s.heap.get? p.2=W1 o/\J p.2=W1 (.frz o<|.own p.2))->gG J a vs
 |[],[],_,_,_,_,e=>by cases e;exact⟨[],Reps.nil,λJ _=>rfl⟩
 |[],_::_,_,_,e,_,_=>by simp at e
 |_::_,[],_,_,e,_,_=>by simp at e
 |(x,c)::r,i::A,b,lk,j,y,f=>by
  rw[UB,UB]at j;injection j with j q;unfold k8 at f;cases n:ρ[i]? with
  |none=>rw[n]at f;cases f
  |some L=>
   rw[n]at f;cases L with
   |sh d=>
    replace f:(k8 A ρ).map (d::·)=W1 b:=f;cases l:k8 A ρ with
    |none=>rw[l]at f;cases f
    |some cp=>
     rw[l]at f;cases f;obtain⟨vs,h1,h2⟩:=vF I B (λp g=>lk p<|Up _ g) q (λp g=>y p<|Up _ g) l;obtain⟨v,Q,O⟩:=B i d n;refine⟨v::vs,Reps.cons O h1,λJ C=>?_⟩;obtain⟨m,hm,U⟩:=I.loc;have w:=y (x,c) Uu;obtain⟨u,M,lo⟩:=U i x v j Q w.2;rcases lo with⟨lo,_⟩|⟨_,c',z,o,T,Y⟩
     .exact ee lo w.1
     .have:=lk (x,c) Uu
      rw[this]at z;cases z;obtain⟨o2,E,g2⟩:=C (x,c) Uu;rw[T]at E;cases E;exact⟨v,vs,o,u,rfl,g2,Y,M,h2 J λp g=>C p<|Up _ g⟩
   |_=>cases f
section
variable {X:Cx}{E:XK}{e:Vt}{es:List Vt}{f:al}{fa:Ev->aw (ac)}{q:UL}{F:kE}{clos:List (UL×UD)}{j:Nat}
noncomputable def TL(X:Cx) (q:UL) (F:kE) (clos:List<|UL×UD) (j:Nat) (p:List<|UD×Obj) (o:L2.St) (H Ha:Hp) (ds:ac) (r:List Ur) (s':UH):Prop :=
 ∃(f n:UD) (d s:Ur) (t:Tok) (m:Array Ur) (g c:Hp) (a b:ad) (l i:List Ur),r=l++.ref f::i/\a.length=j/\bo a l/\bo b i/\Reps X.K c ds (a++b)/\bC H Ha g c /\
  L2.Inv X ((f,nH q F clos s n d)::p) o g s'/\g n=W1 (.tbl (#[.none,.str q t]++m))/\X.sf.heap.objs.size<=f
structure AL (X:Cx) (E:XK) (es:List Vt) (fa:Ev->aw (ac)) (j:Nat) (q:UL) (F:kE) (clos:List (UL×UD)):Prop where
 o:∀(pos:Pos) (π:List (UD×Obj)) (s:UH) (σ:L2.St) (H Ha:Hp) (ρ:Ev),L2.Inv X π σ H s->aE Ha H->fW X.K Ha σ ρ->tM X.K E H Ha (fa ρ) (λ_ _=>True) ->
  UZ 4#X X.A (spliced (VQ pos (UJ es X.env))) (λus s'=>∃ds,fa ρ=.ok ds/\TL X q F clos j π σ H Ha ds us s') X.xe s
def Pd(M:M6 X q F c P clos)(ha:DA X E es fa)(hs:UJ (.Lambda F.params F.body F.scope F.pos::es) X.env=(U9,eval (.Lambda F.params F.body F.scope F.pos) X.env)::UJ es X.env:=by exact aW rfl):AL X E (.Lambda F.params F.body F.scope F.pos::es) fa 0 q F clos:=by
 refine⟨λpos π s Q H u v I z A h=>?_⟩;rw[hs];show UZ _ _ (spliced ((U9,eval (.Lambda F.params F.body F.scope F.pos) X.env)::VQ pos (UJ es X.env))) _ _ s;refine Calls.spliced_cons<|Iu I M λf c' G pm t m L U I' i _ w x=>?_;have B:bC H u L u:=⟨i,aE.refl _,z.trans i,λa h1 h2=>ee h2 h1⟩
 refine cW (ha.o pos _ U Q L (λn J=>∃l b,fa v=.ok l/\bC L u J b/\Reps X.K b l n) I' ⟨u,v,B.sub,A,?_⟩) λT s2 ⟨n,J,I2,Y,l,b,p,N,q2⟩=>?_
 .cases p:fa v with
  |stuck=>rw[p]at h;exact h.elim
  |exn y=>rw[p]at h;exact λC ox O d g=>h C ox O d<|B.trans g
  |ok l=>exact λn O d g r=>⟨l,d,rfl,g,r⟩
 .exact⟨l,p,f,c',G,pm,t,m,J,b,[],n,[],T,rfl,rfl,.nil,Y,q2,B.trans N,I2,N.s _ _ w,UI I.sz x⟩
end
def zH(CX:zK):Prop:=∀(outer:List VI) (H:Hp) (s:UH) (L:List UD) (E:XK) (e:Ur) (a:UH),wG L H s.heap->CX outer (v9 s.heap L H) s (λC ox J=>E C ox<|unT L J) e a->CX outer H s E e a
def IG:zH CX0:=λ_ _ _ _ _ _ _ _ h=>h.elim
theorem Ad{K:Uv}(h:Rep K H d v):∀{vs1:ad}{ds:ac}{a:ad},Reps K H ds (vs1++a)->Reps K H (CN vs1.length d ds) (vs1++v::a)
 |[],_,_,r=>Reps.cons h r
 |_::vs1,[],_,r=>by have:=Reps.nil_iff.mp r;cases this
 |_::vs1,x::ds,_,r=>by
  obtain⟨i,j,e,c,b⟩:=aC.mp r;rw[Wu]at e;injection e with g f;subst g f;exact Reps.cons c<|Ad h (vs1:=vs1) b
section
variable {X:Cx}{E:XK}{CX:zK}{k n:Nat}{fn:UD}{fd:VX}{ps:bv}{m:ac->aw D}{q:UL}{F:kE}{clos:List (UL×UD)}{cs:ci}{j:Nat}{π:List (UD×Obj)}{σ:L2.St}{H Ha Hb H₀₁:Hp}{s:UH}{ρ:Ev}{ds caps:ac}{us:List Ur}{Q:VK}
def Kl(Fn:gi X.prog X.w X.K X.mg X.base CX k fn fd ps<|spD X.K n m)(hr:cZ k X.A)(i:iC X.K fd ps [])(Y:gR CX X E)(hf:zH CX)(hF:(xt X.K).lookup q=W1 F)(C:Mt X F clos cs)(bd:fW X.K Ha σ ρ)(bp:k8 cs ρ=W1 caps)(hn:ds.length+1=n)
  (hA:TL X q F clos j π σ H Ha ds us s)(h:post X.K E H Ha (zb<|m<|CN j (.ob (.fn q) caps) ds) Q):X.K.In s.heap/\UZ 4#X X.A (call (.ref fn) us) (EP X π σ Q) X.xe s:=by
 obtain⟨f,B,a7,pm,t,mm,H',l,N,M,u1,u2,rfl,hj,r1,r2,a4,g,I,ah,be⟩:=hA;refine⟨I.kIn,?_⟩;replace h:=h.grow g;have as:=I.pin (f,nH q F clos pm B a7)<|Va _ Uu;obtain⟨p1,p2,p3,p4,p5⟩:=as;have U:∀b∈clos.map (·.2),∃x,X.env.cells.lookup x=W1 b/\X.fn x=VT:=λb i=>by
  obtain⟨p,hp,e⟩:=UK.mp i;exact⟨p.1,by rw[←e];exact C.lk p hp,C.fn p hp⟩
 have fr:wG (f::clos.map (·.2)) H' s.heap:=⟨λb i=>by
  rcases UG.mp i with rfl|i
  .exact p2
  .obtain⟨x,Y,_⟩:=U b i
   exact I.freeC x b Y,λb i=>by
  rcases UG.mp i with rfl|i
  .exact⟨_,p1⟩
  .obtain⟨x,Y,_⟩:=U b i
   obtain⟨v,o,ho,_⟩:=I.cell x b Y;exact⟨o,ho⟩⟩
 have bt:B∉f::clos.map (·.2):=λz=>by rw[fr.n B z]at ah;cases ah
 have a2:∀b∈f::clos.map (·.2),X.sf.heap.objs.size<=b:=λb i=>by
  rcases UG.mp i with rfl|i
  .exact be
  .obtain⟨x,Y,bi⟩:=U b i
   exact I.ok.cab x b bi Y
 have an:∀b∈f::clos.map (·.2),X.base.get? b=Wp:=λb i=>Xg<|UI I.ok.bsz<|a2 b i;have a3:∀b∈f::clos.map (·.2),b∉jx X.stack:=λb i z=>by
  rcases UG.mp (I.stkSub b z) with e|z
  .rcases UG.mp i with rfl|i
   .exact p3 e
   .obtain⟨x,Y,_⟩:=U b i
    exact I.cne x b Y e
  .obtain⟨_,o,ho,_⟩:=I.ok.funs.mem z
   exact ee (Uy (UT ho)<|a2 b i) (WJ _)
 let L:=f::clos.map (·.2)
 let G:=v9 s.heap L H'
 let R:Hp:=λb=>if b∈L∨b=B then G b else l b
 have s2:aE H' G:=fr.same;have sR:aE R G:=λb u e=>by
  by_cases i:b∈L∨b=B
  .have e:(if b∈L∨b=B then G b else l b)=W1 u:=e
   rwa[dh i]at e
  .have e:(if b∈L∨b=B then G b else l b)=W1 u:=e
   rw[dV i]at e;exact s2 _ _<|g.sub _ _ e
 have ab:aE l R:=λb u e=>by
  show(if b∈L∨b=B then G b else l b)=W1 u
  by_cases i:b∈L∨b=B
  .rw[dh i];exact s2 _ _<|g.sub _ _ e
  .rw[dV i];exact e
 have RL:∀b,b∈L->R b=G b:=λb i=>dh<|.inl i;have Rc:R B=W1 (.tbl (#[.none,.str q t]++mm)):=by
  show(if B∈L∨B=B then G B else l B)=_;rw[dh (.inr rfl)];exact s2 _ _ ah
 obtain⟨a8,k1,k2⟩:=vF I (bd.mono g.z) C.lk C.ix C.nl bp;have rf:Rep X.K R (.ob (.fn q) caps) (.ref f):=bE.mpr ⟨f,a8,rfl,⟨F,clos,B,t,mm,pm,a7,hF,⟨C.nm,C2 I.ok C⟩,by rw[RL f Uu];exact nY Uu p1,Rc,k2 R λp hp=>by
  have hm:p.2∈L:=Up _<|WG hp;obtain⟨o,ho⟩:=fr.o _ hm;exact⟨o,ho,by rw[RL _ hm];exact nY hm ho⟩⟩,k1.mono ab⟩
 have ap:Reps X.K R (CN j (.ob (.fn q) caps) ds) (N++.ref f::M):=by rw[←hj];exact Ad rf<|a4.mono ab
 have rv:bo (N++V.ref f::M) (u1++Vg f::u2):=r1.append<|.cons rfl r2;have a6:rY X.prog X.w X.K X.mg X.base X.A X.stack s G:=fr.env0 I.env0 an a3;have hlen:(N++V.ref f::M).length=n:=by
  have:=a4.length;rw[Vf]at this;rw[Vf,UP];omega
 have key:∀(J Ja:Hp),bC G R J Ja->∃L',Mp L' Ja/\bC H' l (unT L J) (unT L' Ja):=λJ Ja T=>by
  have a1:∀b∈L,∃o c,Ja b=W1 (.frz o<|.own c):=λb i=>by
   obtain⟨o,ho⟩:=fr.o b i;exact⟨o,b,T.z b _ (by rw[RL b i];exact nY i ho)⟩
  have bm:=T.z B _ Rc;refine⟨if l B=Wp then B::L else L,λb i=>?_,λb u e=>?_,λb u e=>?_,λb u e=>?_,λa h1 h2=>?_⟩
  .by_cases z:l B=Wp
   .rw[dh z]at i
    rcases UG.mp i with rfl|i
    .exact .inr<|.inl ⟨_,bm⟩
    .exact .inl<|a1 b i
   .rw[dV z]at i;exact .inl<|a1 b i
  .have nb:b∉L:=λz=>by rw[fr.n b z]at e;cases e
   rw[cg nb];exact T.s b u<|s2 b u e
  .have nb:b∉L:=λz=>by have:=g.sub b u e;rw[fr.n b z]at this;cases this
   have bb:b∉(if l B=Wp then B::L else L):=λz=>by
    by_cases y:l B=Wp
    .rw[dh y]at z
     rcases UG.mp z with rfl|z
     .rw[y]at e;cases e
     .exact nb z
    .rw[dV y]at z;exact nb z
   rw[cg bb];exact T.z b u<|ab b u e
  .obtain⟨nb,e⟩:=nX e
   have nL:b∉L:=λz=>nb (by
    by_cases y:l B=Wp
    .rw[dh y];exact Up _ z
    .rw[dV y];exact z)
   rw[cg nL];exact T.sub b u e
  .have na:a∉(if l B=Wp then B::L else L):=λz=>h1 (lC z)
   rw[cg na]at h1;have nL:a∉L:=λz=>na (by
    by_cases y:l B=Wp
    .rw[dh y];exact Up _ z
    .rw[dV y];exact z)
   have nc:a≠B:=λz=>na (by rw[←z,dh h2];exact Uu);have bq:R a=Wp:=by
    show(if a∈L∨a=B then G a else l a)=Wp;rw[dV (by rintro(z|z);exact nL z;exact nc z)];exact h2
   have:=T.nw a h1 bq;have e:G a=H' a:=ib nL;rwa[e]at this
 have O:post X.K (λC ox J=>E C ox<|unT L J) G R (m<|CN j (.ob (.fn q) caps) ds) (λv J=>Q v<|unT L J):=by
  cases e:m (CN j (.ob (.fn q) caps) ds) with
  |stuck=>rwa[e]at h
  |ok d=>
   rw[e]at h;replace h:post X.K E H' l (if jz d=VT then .ok d else .stuck) Q:=h
   by_cases hd:jz d=VT
   .rw[dh hd]at h
    intro v J Ja T rp;obtain⟨L',hl,g'⟩:=key J Ja T;exact h v _ _ g'<|Rep.unT hl hd rp
   .rw[dV hd]at h;exact h.elim
  |exn x=>
   rw[e]at h;replace h:post X.K E H' l (if DQ x=VT then .exn x else .stuck) Q:=h
   by_cases hd:DQ x=VT
   .rw[dh hd]at h
    intro C' ox J Ja T rp;obtain⟨L',hl,g'⟩:=key J Ja T;exact h C' ox _ _ g'<|zI.unT hl hd rp
   .rw[dV hd]at h;exact h.elim
 have bc:(u1++Vg f::u2).length=ps.length:=by
  rw[←rv.length];exact Fn.len _ _ _ _ (show spD X.K n m (N++V.ref f::M) G (λv J=>Q v<|unT L J) (λC ox J=>E C ox<|unT L J) from⟨hlen,R,_,sR,ap,O⟩)
 have a5:=i s (u1++Vg f::u2) I.kIn (by rw[VN];exact bc);rw[VN]at a5;refine wpAny_call<|codeAny_mono (Fn.run X.A X.stack s G ⟨u1++.ref f::u2,[]⟩ (u1++.ref f::u2) (N++.ref f::M) (λv J=>Q v (unT L J)) (λC ox J=>E C ox (unT L J)) hr a6 a5 rv ⟨hlen,R,_,sR,ap,O⟩) λr s' hq=>?_;cases r with
 |error e=>exact Y _ σ H' s e s' I<|hf _ _ _ L _ _ _ fr hq
 |ok fl=>
  cases fl with
  |ret u=>
   obtain⟨v,J,os,bare,un,hok,ba,qq⟩:=hq;obtain⟨a9,a0,_⟩:=fr.back un hok;obtain⟨v2,H3,I3,r3,q3⟩:=I.after (Q:=Q) (u:=u) (s':=s') ⟨v,unT L J,os,bare,a9,a0,ba,qq⟩;exact⟨v2,H3,BQ I3,r3,q3⟩
  |next|brk|cont=>exact Vz hq
end
structure vU (K:Uv) (fd:VX) (q:UL) (F:kE):Prop where
 ex:∃c P,fd.code=.ref c/\Zq K c P=VT/\(P,#[rawInt F.pos.line,rawInt F.pos.col,.str q 0])∈iK K
 lk:(xt K).lookup q=W1 F
section
variable {X:Cx}{E:XK}{e:Vt}{es:List Vt}{fa:Ev->aw (ac)}{q:UL}{F:kE}{clos:List (UL×UD)}{cs:ci}{j:Nat}{fd:VX}
def L8(L:vU X.K fd q F)(d:fd.code=X.env.code)(n:DA X E es fa)(b:closureFor F.scope X.env=pure clos:=by exact rfl)(m:X.env.qual++"<lambda>"=q:=by exact rfl)(a:defaultsOf F.params X.env=([],[]):=by exact rfl)
  (l:UJ (.Lambda F.params F.body F.scope F.pos::es) X.env=(U9,eval (.Lambda F.params F.body F.scope F.pos) X.env)::UJ es X.env:=by exact aW rfl):AL X E (.Lambda F.params F.body F.scope F.pos::es) fa 0 q F clos:=by
 obtain⟨c,P,t,r,p⟩:=L.ex;exact⟨λpos i s f H u g I=>(Pd ⟨b,by rw[←d];exact t,W.codeHd_of_K I.ok.mod.kin r,p,m,a⟩ n l).o pos i s f H u g I⟩
def Jl{k k0 n:Nat}{ps:bv}{st:WE}(B:gF X.prog X.w X.K X.mg X.base CX k0 fn ab ps (spD X.K n m) x st)(T:cZ k X.A)(L:vU X.K fd q F)(C:Mt X F clos cs)(ha:AL X E (e::es) fa j q F clos)(U:∀ρ ds,fa ρ=.ok ds->ds.length+1=n)
  (r:k0<=k:=by decide)(N:gR CX X E:=by first|exact Aj|exact i|exact yF)(hf:zH CX:=by first|exact IG|exact c)
  (Y:Gl X x:=by exact rfl)(u:1#x:=by decide)(he:UJ (e::es) X.env=(U9,eval e X.env)::UJ es X.env:=by exact aW rfl)(l:(VQ pos<|UJ es X.env).any (·.1)=U9:=by exact cC rfl) :
  DE X E (.Call (.Name x p) (e::es) [] pos) (vv fa j q cs m):=by
 refine⟨λM s J H Q I h=>?_⟩;obtain⟨G,ρ,O,d,h⟩:=h;unfold vv at h;refine wpAny_Call_Name_kw<|iU I Y B.t.g ?_ u;refine YZ (h₀:=X.base) I.ok.mod.kin B.t.F.kp (cW (ha.o pos M s J H G ρ I O d ?_) λus s1 ⟨ds,f,hA⟩=>?_) he l
 .cases f:fa ρ with
  |stuck=>rw[f]at h;exact h.elim
  |exn y=>rwa[f]at h
  |ok ds=>exact λ_ _ _ _ _=>V4
 .rw[f]at h
  replace h:post X.K E H G (match k8 cs ρ with
   |some a=>zb<|m<|CN j (.ob (.fn q) a) ds
   |none=>.stuck) Q:=h
  cases v:k8 cs ρ with
  |none=>rw[v]at h;exact h.elim
  |some a=>
   rw[v]at h;exact Kl (B.F.mono r) T B.t.b N hf L.lk C d v (U ρ ds f) hA h
end
section
variable {P:Vv}{w:VL}{K:Uv}{mg:UL->Option Ur}{base:UQ}{rows:List Rw}{A:Nat->UD}{Q:Nat->VX}{i k n:Nat}{r:Rw}{s:am}
variable (T:TG rows K mg A Q) (S:RS rows) (h:rows[i]?=W1 r)
include T S h
theorem T6(b:∀(a:Ur),(Q i).code=a->∀(c:VD) (outer:List VI) (s0:UH) (H Ha:Hp) (E:XK),cZ k (c.deeper<|envOfC r.x (defScope r.st) 2#s0 (A i) a) ->
   zM (gE CX0 P w K mg base r.N r.x (defScope r.st) (A i) a c outer s0 H E).nox E H Ha (defBody r.st) s):gF P w K mg base CX0 (k+1) (A i) (Q i) r.ps (spD K r.ps.length<|bz r.N.length s) r.x r.st :=
 ⟨uD (T i r h).F (S r<|UM h) b,T i r h⟩
end
noncomputable def mF(i j:Nat) (ρ:Ev) (ds:ac) (d:D):aw Fl:=match d with
 |.int k=>match AJ ds.length k with
  |some n=>match ds[n]? with
   |some x=>if ds.length<line then .ok (.nx<|(ρ.set j<|.ow<|.lst<|ds.eraseIdx n).set i<|.sh x) else .stuck
   |none=>.stuck
  |none=>.stuck
 |_=>.stuck
def mH(i j:Nat)(f:al):am:=λa=>Ak a j λb=>(f a).bind<|mF i j a b
section
variable {X:Cx}{E:XK}{He η:Hp}{e:Vt}{f:al}{pos:Pos}
def Bu(hN:X.N.Nodup)(hi:X.N[i]?=W1 x)(hx:JC X.env.scope x)(hj:X.N[j]?=W1 y)(hv:BX X.env.scope y)(he:DE X E e f)
  (hd:1#y:=by decide)(G:3#y:=by decide)
  (l:Xq (.Name y u) "pop" X.env (eval (.Name y u) X.env)=eval (.Name y u) X.env:=by rfl)
  (m:((VQ r<|UJ [e] X.env).all (λx=>!x.1)&&(YE r<|Xz [] X.env).all (λx=>x.1.isSome)
  &&decide ([e].length+([]:List Yt).length+(if([]:List Yt).isEmpty then 0 else 1)<30))=VT:=by exact uE rfl)
  (c:(Q.endLine==r.line)=VT:=by rfl) (t:UJ [e] X.env=(U9,eval e X.env)::UJ [] X.env:=by exact aW rfl) (b:(VQ r<|UJ [] X.env).any (·.1)=U9:=by exact cC rfl)
  (hs:V0 (.Call (.Attribute (.Name y u) "pop" Q) [e] [] r) (W1<|.Name x pos') pos.line X.env=pure U9:=by rfl)
  (hf:X.fn x=VT∨X.env.scope.names.lookup x=W1 .local := by first|exact .inl rfl|exact .inr rfl|assumption) :
  DS X E He η (.Assign [.Name x pos'] (.Call (.Attribute (.Name y u) "pop" Q) [e] [] r) pos) (mH i j f):=by
 refine⟨?_⟩;refine cH (tK hN hi hx (HM ZQ PySem.F.slot_list_pop PySem.F.type_list_pop Ie (je hj hv hd G) (gu he.o kL t) l m c t b) hs hf) λD σ H ⟨Ha,Y,h,q⟩=>?_;obtain⟨A,p,B,e1,U,e3,e4,T,L,q⟩:=tU h q;refine⟨.ref p,U,.inl ⟨rfl,B,gH.of T⟩,?_⟩;refine⟨Ha,Y,h.g.sub,h.rd,plain h q λd v H' O _ g rp a=>?_⟩;unfold mF at a;cases d with
 |int k=>
  simp only at a;cases J:AJ A.length k with
  |none=>simp only[J]at a;exact a.elim
  |some n=>
   simp only[J]at a;cases I:A[n]? with
   |none=>simp only[I]at a;exact a.elim
   |some d=>
    simp only[I]at a
    by_cases C:A.length<line
    .rw[dh C]at a
     obtain⟨s1,s2,s3,s4⟩:=yX J;have hlen:=L.length;have ab:A.length<1000001:=Uy C 0#1;have M:H' p=W1 (.lst B):=g.s _ _ T;rw[ay.mp rp];obtain⟨w,y1,y2⟩:=L.get I;refine⟨p,B,k,n,w,rfl,rfl,M,by omega,by omega,by rw[←hlen];exact s1,y1,?_⟩;have h2:=(h.grow g).write e1 U<|(L.mono g.z).erase n;exact a _ _ O (aE.refl _)<|h2.put<|y2.mono g.z
    .rw[dV C]at a;exact a.elim
 |_=>exact a.elim
end
mutual
def lQ:D->Bool
 |.tup a=>instFs a
 |.lst _=>U9
 |.dic _ _=>U9
 |.exc _=>U9
 |.ob (.ins _ _) a=>instFs a
 |.ob _ _=>U9
 |_=>VT
def instFs:ac->Bool
 |[]=>VT
 |d::a=>lQ d&&instFs a
end
mutual
theorem Rep.inst_to{K:Uv}{H H':Hp}(i:∀a vs,Rd H a (.tup vs)->Rd H' a (.tup vs))(j:∀a C g fs,H a=W1 (.ins C g fs)->H' a=W1 (.ins C g fs)):∀{d:D}{v:V},lQ d=VT->Rep K H d v->Rep K H' d v
 |.non,_,_,h=>by unfold Rep at h ⊢;exact h
 |.bl _,_,_,h=>by unfold Rep at h ⊢;exact h
 |.int _,_,_,h=>by unfold Rep at h ⊢;exact h
 |.str _,_,_,h=>by unfold Rep at h ⊢;exact h
 |.tup b,_,f,h=>by
  rw[lQ]at f;obtain⟨a,vs,m,e,l⟩:=aM.mp h;refine aM.mpr ⟨a,vs,m,?_,Reps.inst_to i j f l⟩;rcases e with e|e
  .exact .inl<|i _ _ e
  .exact .inr e
 |.lst b,_,f,h=>by rw[lQ]at f;cases f
 |.dic n b,_,f,h=>by rw[lQ]at f;cases f
 |.exc x,_,f,h=>by rw[lQ]at f;cases f
 |.ob (.ins c n) b,_,f,h=>by
  rw[lQ]at f;obtain⟨a,vs,m,⟨C,g,r,q,p,o⟩,l⟩:=bE.mp h;exact bE.mpr ⟨a,vs,m,⟨C,g,r,q,j _ _ _ _ p,o⟩,Reps.inst_to i j f l⟩
 |.ob (.dint _) b,_,f,h=>by rw[lQ]at f<;>first|cases f|(intros;intro z;cases z)
 |.ob (.exf _ _) b,_,f,h=>by rw[lQ]at f<;>first|cases f|(intros;intro z;cases z)
 |.ob .pl b,_,f,h=>by rw[lQ]at f<;>first|cases f|(intros;intro z;cases z)
 |.ob (.fn _) b,_,f,h=>by rw[lQ]at f<;>first|cases f|(intros;intro z;cases z)
theorem Reps.inst_to{K:Uv}{H H':Hp}(b:∀a vs,Rd H a (.tup vs)->Rd H' a (.tup vs))(c:∀a C e fs,H a=W1 (.ins C e fs)->H' a=W1 (.ins C e fs)):∀{ds:ac}{vs:ad},instFs ds=VT->Reps K H ds vs->Reps K H' ds vs
 |[],_,_,h=>by unfold Reps at h ⊢;exact h
 |d::ds,_,f,h=>by
  rw[instFs,US]at f;obtain⟨v,r,j,i,g⟩:=aC.mp h;exact aC.mpr ⟨v,r,j,Rep.inst_to b c f.1 i,Reps.inst_to b c f.2 g⟩
end
noncomputable def jB(Ha J:Hp) (p:UD) (ws:ad):Hp:=λa=>match Ha a with
 |some o=>W1 o
 |none=>if a=p then W1 (.lst ws) else match J a with
  |some (.tup b)=>W1<|.tup b
  |some (.frz o (.tup b))=>W1<|.frz o<|.tup b
  |some (.ins C c fs)=>W1<|.ins C c fs
  |_=>Wp
section
variable {K:Uv}{E:XK}{He η Ha H H1 J:Hp}{σ:L2.St}{ρ:Ev}{p:UD}{ws:ad}
def Er(h:aE Ha J)(n:a≠p)(e:jB Ha J p ws a=W1 o):J a=W1 o:=by
 unfold jB at e;cases q:Ha a with
 |some u=>rw[q]at e;cases e;exact h _ _ q
 |none=>
  rw[q]at e;simp only[dV n]at e;cases b:J a with
  |none=>rw[b]at e;cases e
  |some u=>
   rw[b]at e;cases u with
   |tup d|ins C g fs=>cases e;rfl
   |frz f c=>cases c<;>first|(cases e;rfl)|cases e
   |_=>cases e
def Mc(h:aE Ha J)(b:J p=Wp∨∃l,J p=W1 (.lst l))(a:UD)(vs:ad)(e:Rd J a<|.tup vs):Rd (jB Ha J p ws) a (.tup vs):=by
 have n:a≠p:=λz=>by
  subst z;rcases b with b|⟨l,b⟩<;>rcases e with e|⟨o,e⟩<;>rw[b]at e<;>cases e
 rcases e with e|⟨o,e⟩
 .refine .inl ?_
  unfold jB;cases q:Ha a with|some u=>have:=h _ _ q;rw[e]at this;cases this;rfl|none=>simp only[dV n];rw[e]
 .refine .inr ⟨o,?_⟩
  unfold jB;cases q:Ha a with|some u=>have:=h _ _ q;rw[e]at this;cases this;rfl|none=>simp only[dV n];rw[e]
def Jw(h:aE Ha J)(b:J p=Wp∨∃l,J p=W1 (.lst l))(a:UD)(C c:UD)(fs:List<|UL×V)(e:J a=W1 (.ins C c fs)):jB Ha J p ws a=W1 (.ins C c fs):=by
 have n:a≠p:=λz=>by
  subst z;rcases b with b|⟨l,b⟩<;>rw[b]at e<;>cases e
 unfold jB;cases q:Ha a with|some u=>have:=h _ _ q;rw[e]at this;cases this;rfl|none=>simp only[dV n];rw[e]
def f9.behindJ(h:f9 K He η Ha σ H ρ)(g:bC H (frz He Ha H) H1 J)(r:H p=Wp)(U:H1 p=W1 (.lst ws)):f9 K He η (jB Ha J p ws) σ H1 ρ:=by
 have G:aE Ha J:=h.frz_sub.trans g.z;have z:aE Ha (jB Ha J p ws):=λb o e=>by unfold jB;rw[e]
 have B:He p=Wp:=h.g.s.free r;refine⟨⟨h.g.s.trans g.s,h.g.z.trans z,λb o e=>?_,λa h1 h2=>?_⟩,h.rd.mono z,λi d e=>?_,h.ap,h.ln,h.ex.upd (λj s e=>.inl ⟨e,rfl⟩) z (λa c _ e=>g.s _ _ e) λq L Y h0 m _=>⟨g.s _ _ m,by
  have:frz He Ha H q=W1 (.lst L):=by unfold frz;rw[Y];exact m
  have:=g.z _ _ this;have n:q≠p:=λz=>by rw[z,r]at m;cases m
  unfold jB;rw[h0];simp only[dV n];rw[this]⟩⟩
 .by_cases n:b=p
  .subst n
   unfold jB at e;cases q:Ha b with|some u=>rw[h.g.sub _ _ q]at r;cases r|none=>rw[q]at e;simp only[et]at e;cases e;exact U
  .exact g.sub _ _<|Er G n e
 .by_cases n:a=p
  .rw[n];exact B
  .cases q:jB Ha J p ws a with
   |none=>exact ee q h1
   |some o=>
    have hj:=Er G n q;exact(h.frz_grow.trans g).nw a (by rw[hj];simp) h2
 .obtain⟨a,T,k2,Q,l⟩:=h.ow i d e
  have non:∀u,H a=W1 u->(∀c,u≠.tup c)->(∀o v,u≠.frz o v)->(∀C I fs,u≠.ins C I fs)->jB Ha J p ws a=Wp:=λu A O N M=>by
   have n:a≠p:=λz=>by rw[z,r]at A;cases A
   have:frz He Ha H a=W1 u:=by unfold frz;rw[k2];exact A
   have:=g.z _ _ this;unfold jB;rw[Q];simp only[dV n];rw[this];cases u with|tup c=>exact ee rfl (O _)|frz o v=>exact ee rfl (N _ _)|ins C I fs=>exact ee rfl (M _ _ _)| _=>rfl
  refine⟨a,T,k2,?_,?_⟩
  .cases d with
   |lst w=>obtain⟨c,f,_⟩:=l;exact non _ f (λ_ z=>nomatch z) (λ_ _ z=>nomatch z)<|λ_ _ _ z=>nomatch z
   |dic x w=>obtain⟨c,f,_⟩:=l;exact non _ f (λ_ z=>nomatch z) (λ_ _ z=>nomatch z)<|λ_ _ _ z=>nomatch z
   |ob y w=>
    cases y with|dint x=>obtain⟨c,f,_⟩:=l;exact non _ f (λ_ z=>nomatch z) (λ_ _ z=>nomatch z) (λ_ _ _ z=>nomatch z)| _=>exact l.elim
   |_=>exact l.elim
  .cases d with
   |lst w=>obtain⟨c,f,t⟩:=l;exact⟨c,g.s _ _ f,t.mono z⟩
   |dic x w=>obtain⟨c,f,m,t⟩:=l;exact⟨c,g.s _ _ f,m,t.mono z⟩
   |ob y w=>
    cases y with|dint x=>obtain⟨c,f,m,t⟩:=l;exact⟨c,g.s _ _ f,m,t.mono z⟩| _=>exact l.elim
   |_=>exact l.elim
end
def qP(k:al)(i:Nat)(ρ:Ev)(ks:bv)(ds:ac)(d:D):aw Fl:=match d with
 |.lst a=>if instFs a=VT then(k ρ).bind (qQ i ρ ks ds<|.lst a) else .stuck
 |_=>.stuck
def yt(i:Nat)(f k:al):am:=λa=>Cp a i λb c=>(f<|iD a).bind<|qP k i a b c
section
variable {X:Cx}{E:XK}{He η:Hp}{e b:Vt}{pos:Pos}{f k:al}
def IZ(hu:X.A.units+1<Xa)(hN:X.N[i]?=W1 x)(hv:BX X.env.scope x)(he:DF X E e f)(hk:DE X E b k)
  (hd:1#x:=by decide)(O:3#x:=by decide)
  (hs:V0 e (W1<|.Subscript (.Name x p1) b p2) pos.line X.env=pure U9:=by rfl):DS X E He η (.Assign [.Subscript (.Name x p1) b p2] e pos) (yt i f k):=by
 refine⟨?_⟩;refine cH (Kw hu (je hN hv hd O) hk.o he.o hs) λD σ H z9=>?_;obtain⟨c,m,h,q⟩:=z9;refine⟨frz He c H,iD m,h.frz_le,h.looks,?_⟩
 obtain⟨B,I,p,vs,e1,e2,e5,el,e6,q⟩:=E2 h q;cases T:f (iD m) with
 |stuck=>rwa[T]at q|exn x=>rw[T]at q;exact λC ox H' U g ex=>q C ox H' U (h.frz_grow.trans g) ex
 |ok d=>
  rw[T]at q;replace q:bZ X.K E He η c (qP k i m B I d) D:=q;unfold qP at q;cases d with
  |lst y=>
   simp only at q
   by_cases Q:instFs y=VT
   .rw[dh Q]at q
    intro a t H1 J g M h0 v rp;have Y:aE c J:=h.frz_sub.trans g.z;have w:J a=Wp∨∃l,J a=W1 (.lst l):=by
     cases z:J a with
     |none=>exact .inl rfl
     |some u=>
      have:=g.sub _ _ z;rw[v]at this;cases this;exact .inr ⟨_,rfl⟩
    have n:=h.behindJ g M v;have z:aE c (jB c J a t):=λb o e=>by unfold jB;rw[e]
    have L:jB c J a t a=W1 (.lst t):=by
     unfold jB;cases q0:c a with|some u=>rw[h.g.sub _ _ q0]at M;cases M|none=>simp
    have r1:Rep X.K (jB c J a t) (.lst y) (.ref a):=aF.mpr ⟨a,t,rfl,gH.of L,Reps.inst_to (Mc Y w) (Jw Y w) Q rp⟩;refine⟨.ref p,e2,?_⟩;replace q:bZ X.K E He η (jB c J a t) ((k m).bind<|qQ i m B I<|.lst y) D:=bZ.grow (r:=(k m).bind<|qQ i m B I<|.lst y) q z;refine⟨jB c J a t,m,n.g.sub,n.rd,plain (k:=qQ i m B I (.lst y)) n q λj u H2 ab _ G r2 q2=>?_⟩;exact Hw (n.grow G) e1 e2 (G.s _ _<|g.s _ _ e5) el ((e6.mono z).mono G.z) (r1.mono G.z) r2 q2
   .rw[dV Q]at q;exact q.elim
  |_=>exact q.elim
end
def rA(sc:X3)(env:VI):List (UL×UD):=((sc.names.filter λp=>p.2==.free).map λp=>(p.1,(env.cells.lookup p.1).getD 0)).reverse
def qA{sc:X3}:(rA sc env).map (·.1)=iL sc:=by
 unfold rA iL;rw[List.map_reverse,Ve];rfl
def FJ{sc:X3}(h:p∈rA sc env):p.1∈iL sc/\p.2=(env.cells.lookup p.1).getD 0:=by
 refine⟨by rw[←qA (env:=env)];exact WG h,?_⟩;unfold rA at h;rw[List.mem_reverse]at h;obtain⟨q,_,e⟩:=UK.mp h;rw[←e]
def CM(env:VI)(x:UL):Bool:=(env.cells.lookup x).isSome&&match env.kindOf x with
 |some .cell=>VT
 |_=>U9
def LX(l:(iL F.scope).Nodup:=by decide +kernel)(j:∀x∈iL F.scope,CM X.env x=VT:=by exact λx g=>Vd.mp (by rfl:(iL _).all (CM _)=VT) x g)(ix:cs.map (X.N[·]?)=(iL F.scope).map W1:=by exact rfl)(i:∀x,X.fn x=VT:=by exact λ_=>rfl):Mt X F (rA F.scope X.env) cs:=by
 have b:∀p∈rA F.scope X.env,X.env.cells.lookup p.1=W1 p.2/\X.env.kindOf p.1=W1 .cell:=λp a=>by
  obtain⟨m,e⟩:=FJ a;have q:=j p.1 m;unfold CM at q;rw[US]at q;obtain⟨f,d⟩:=q;constructor
  .cases z:X.env.cells.lookup p.1 with
   |none=>rw[z]at f;cases f
   |some c=>rw[e,z];rfl
  .split at d
   .assumption
   .cases d
 refine⟨qA,l,λp a=>(b p a).1,?_,λp a=>⟨?_,.inr (.inl ?_)⟩,λp _=>i p.1⟩
 .rw[ix,←qA (env:=X.env),Ve];rfl
 .rw[(b p a).2];decide
 .exact(b p a).2
def QV(st:WE):kE:=(Oo<|.stmts<|defBody st).getD ⟨⟨[],[],.none,[],[],.none,[]⟩,.Constant .none 0 ⟨0,0,0,0⟩,⟨.function,[],U9,U9,[]⟩,⟨0,0,0,0⟩⟩
def JD(K:Uv)(a:UD)(q:UL)(F:kE):Prop:=∃f e b d c P,K.lookup a=W1 ⟨f,e,.func b,d⟩/\b.code=.ref c/\Zq K c P=VT/\(P,#[rawInt F.pos.line,rawInt F.pos.col,.str q 0])∈iK K/\(xt K).lookup q=W1 F
def Fm{K:Uv}{st:WE}(U:BU K x qual st a p)(h:JD K a q F):vU K p q F:=by
 obtain⟨v,u,o,s,c,P,b,n,m,l,j⟩:=h;obtain⟨g,f,kV,doc,t,w,r,ct,d,e,lk,i⟩:=U.ex;rw[lk]at b;cases b;exact⟨⟨c,P,n,m,l⟩,j⟩
section
variable {X:Cx}{E:XK}{es:List Vt}{fa:Ev->aw (ac)}{q:UL}{F:kE}{fd:VX}
def L9(L:vU X.K fd q F)(c:fd.code=X.env.code)(f:DA X E es fa)(b:closureFor F.scope X.env=pure (rA F.scope X.env):=by exact rfl)(e:X.env.qual++"<lambda>"=q:=by exact rfl)(a:defaultsOf F.params X.env=([],[]):=by exact rfl)
  (d:UJ (.Lambda F.params F.body F.scope F.pos::es) X.env=(U9,eval (.Lambda F.params F.body F.scope F.pos) X.env)::UJ es X.env:=by exact aW rfl):AL X E (.Lambda F.params F.body F.scope F.pos::es) fa 0 q F (rA F.scope X.env):=L8 L c f b e a d
def Pe(h:∀ρ ds,fa ρ=.ok ds->ds.length+1=n):∀ρ ds,af f fa ρ=.ok ds->ds.length+1=n+1:=λρ ds e=>by
 unfold af at e;cases b:f ρ with
 |stuck|exn x=>rw[b]at e;cases e
 |ok x=>
  rw[b]at e;replace e:((fa ρ).bind λxs=>aw.ok (x::xs))=.ok ds:=e;cases a:fa ρ with
  |stuck|exn x=>rw[a]at e;cases e
  |ok xs=>
   rw[a]at e;cases e;rw[UP,h ρ xs a]
def Uj:∀ρ ds,ax ρ=.ok ds->ds.length+1=1:=λ_ _ h=>by rw[BL h]
end
end DL
namespace DL
def GJ:ac->Nat
 |.int x::r=>x.natAbs+GJ r
 |_=>0
def IF:Ev->Nat:=λa=>match a with
 |.sh (.ob (.fn _) [_,_,.tup [.lst b,_]])::_=>GJ b+1
 |_=>0
end DL
namespace K37
open PySem L2 DL
abbrev aD:ac->aw D:=Cod.aD
abbrev aK:ac->aw D:=Cod.aK
abbrev az:ac->aw D:=Cod.az
noncomputable def eI:am :=
 (aq (aH 1<|ak (af 420#0<|af 60#0<|af 2#0<|af 5#0<|af (aa 10#0 18#0 kn)<|af 30#0<|af 6#0<|af 5#0<|af (aa 10#0 18#0 kn)<|af 30#0<|af 3#0<|af 5#0<|af (aa 10#0 18#0 kn)<|af 30#0 ax) bD)
 (aq (bh<|cG 1 [1] (jy<|aa (ak (af (ae 0) ax) aK) 0#0 aB) (bK 0) mYes<|ak (af (fJ (ak (af (ae 0)<|af (ae 1) ax) aD) (bS<|dC<|.int 11) eV) ax) az)
 ao))
def bA:ac->aw D:=bz 2 eI
abbrev m_look_at_web:ac->aw D:=Nwb.m_look_at_web
abbrev m_is_tie_number:ac->aw D:=Com.m_is_tie_number
abbrev m_look_at_taking:ac->aw D:=K16.m_look_at_taking
noncomputable def b_fewest_turns:am :=
 (aq (Dq 2<|Ee (ae 1)<|ak ax bD)
 (aq (j8 3<|ak (af (ae 1) ax) bD)
 (aq (eZ (λ_=>1000) (aa (ae 3) (ak ax bD) iM)
 (aq (mH 4 3<|dC<|.int 0)
 (aq (kI (ae 0) (bK 5)
 (aq (cT (eG (aa (aU (ae 5)<|gI "here") (ae 4) gD)<|aa (aU (ae 5)<|gI "there") (ae 2) kZ)
 (aq (yt 2 (aa (aa (ae 2) (ae 4) l9) (ak (af (ae 5) ax) bD) nR)<|aU (ae 5)<|gI "there")
 (aq (bU 3<|aU (ae 5)<|gI "there")
 ao))
 ao)
 ao))
 ao)))
 (aq (bh<|ae 2)
 ao))))
def m_fewest_turns:ac->aw D:=bz 6 b_fewest_turns
noncomputable def b_sent_along:am :=
 (aq (j8 3<|ak (af (ae 0) ax)<|m1 vt)
 (aq (kI (ae 1) (bK 4)
 (aq (qO 3 (aa (aa (ae 3) (aU (ae 4)<|gI "number") aB) (aa (aU (ae 4)<|gI "sign") (ae 2) bf) aZ)<|aU (ae 4)<|gI "number")
 ao))
 (aq (bh<|ae 3)
 ao)))
def m_sent_along:ac->aw D:=bz 5 b_sent_along
def b_least_room:am :=
 (aq (bh<|ak (af (cG 1 [] (jy<|ae 0) (bK 0) (aa (aU (ae 0)<|gI "room") 0#4 l7)<|aU (ae 0)<|gI "room") ax)<|m1 xH)
 ao)
def m_least_room:ac->aw D:=bz 1 b_least_room
noncomputable def b_turns_left:am :=
 (aq (j8 4<|ak ax bD)
 (aq (gJ (lD<|aa (ae 0) 1#0 aB) (c5 [5,6])
 (aq (cT (aa (ae 5) (ae 2) bL)
 (aq (aH 7<|JL (aa (aa (ae 6) 2#0 aB) 0#"one" gD) (aa (ae 3) (ae 5) aB)<|aa (aa (ae 1) (ae 5) aB) (aa (ae 3) (ae 5) aB) aZ)
 (aq (bU 4<|ak (af (ae 5)<|af 1#0<|af (aa (ae 6) 0#0 aB)<|af (aa (ae 6) 1#0 aB)<|af 0#0<|af (aa (aa (ae 1) (ae 5) aB) (aa (ae 3) (ae 5) aB) gQ) ax)<|CF "Turn" ["number","sign","here","there","cost","room"])
 (aq (bU 4<|ak (af (ae 5)<|af (aU 1#0 ko)<|af (aa (ae 6) 1#0 aB)<|af (aa (ae 6) 0#0 aB)<|af 0#0<|af (ae 7) ax)<|CF "Turn" ["number","sign","here","there","cost","room"])
 ao)))
 ao)
 ao))
 (aq (bh<|cG 1 [] (jy<|ae 4) (bK 0) (aa (aU (ae 0)<|gI "room") 0#0 CY)<|ae 0)
 ao)))
def m_turns_left:ac->aw D:=bz 8 b_turns_left
def bl_most_flow:al :=
 (ak (af (ae 1)<|af (aa (ae 3) 0#0 aB)<|af (ae 2)<|af (ae 0) ax) m_turns_left)
def iR:ac->ac->aw D:=Fj 1 3 bl_most_flow
def lt_filled:LT:=(ud (uq "most_flow") iR Il)
noncomputable def b_filled:am :=
 (aq (aH 4<|ak (af (qw lt_filled 0<|af (ae 1) ax)<|af (ae 2) ax) m_fewest_turns)
 (aq (eZ IF (aa (ae 3) (ae 4) zp)
 (aq (aH 1<|ak (af (ae 1)<|af (aa (ae 4) (ae 3) l9)<|af (ak (af (aa (ae 4) (ae 3) l9) ax) m_least_room) ax) m_sent_along)
 (aq (aH 4<|ak (af (qw lt_filled 0<|af (ae 1) ax)<|af (ae 2) ax) m_fewest_turns)
 ao)))
 (aq (bh<|ak (af (ae 1)<|af (ae 4) ax) fE)
 ao)))
def m_filled:ac->aw D:=bz 5 b_filled
end K37
namespace K34
open PySem L2 DL
abbrev aD:ac->aw D:=Cod.aD
abbrev aK:ac->aw D:=Cod.aK
abbrev cm:ac->aw D:=Cod.cm
abbrev az:ac->aw D:=Cod.az
noncomputable def iA:am :=
 (aq (bh<|ak (af (aa (aa (aa (ae 0) 0#0 aB) (aa (ae 1) 1#0 aB) bf) (aa (aa (ae 2) (aa (ae 1) 0#0 aB) bf) (aa (ae 0) 1#0 aB) bf) aZ)<|af (aa (aa (ae 0) 1#0 aB) (aa (ae 1) 1#0 aB) bf) ax) cm) ao)
def aR:ac->aw D:=bz 3 iA
noncomputable def OH:am:=(cT (eG (aa (ae 7) (ae 1) bL)<|eG (aa (aa (ae 8) 0#0 aB) (ae 3) gD)<|aa (aa (ae 8) 1#0 aB) (ae 4) bL) (aq (bU 6<|ak (af (ae 7)<|af 1#0<|af (aa (ae 8) 1#0 aB) ax) fE) ao) ao)
noncomputable def OF:am:=(cT (eG (aa (ae 7) (ae 1) bL)<|eG (aa (aa (ae 8) 2#0 aB) 0#"both" gD)<|eG (aa (aa (ae 8) 1#0 aB) (ae 3) gD)<|aa (aa (ae 8) 0#0 aB) (ae 4) bL) (aq (bU 6<|ak (af (ae 7)<|af (aU 1#0 ko)<|af (aa (ae 8) 0#0 aB) ax) fE) ao) ao)
def wM:al:=(aa (ae 3) (aa (ae 0) 3#0 aB) iM)
noncomputable def qK:am:=(aq (j8 6<|ak ax bD)<|aq (gJ (lD<|aa (ae 0) 1#0 aB) (c5 [7,8])<|aq OH<|aq OF ao)<|aq (ET 6<|cT (aa (ae 6) (ak ax bD) gD) (aq (bh<|ak ax bD) ao) ao)<|aq (ET 6<|Dp [7,9,3]<|aa (ae 6) (aa (aa (ae 2) (ak (af (ae 5) ax)<|m1 dP) aB) (ak (af (ae 6) ax)<|m1 dP) cE) aB)<|aq (bU 5<|ak (af (ae 7)<|af (ae 9) ax) fE)<|aq (bU 4<|ae 3) ao)
noncomputable def eI:am :=
 (aq (aH 1<|ak (af 420#0<|af 60#0<|af 2#0<|af 5#0<|af (aa 10#0 18#0 kn)<|af 30#0<|af 6#0<|af 5#0<|af (aa 10#0 18#0 kn)<|af 30#0<|af 3#0<|af 5#0<|af (aa 10#0 18#0 kn)<|af 30#0 ax) bD)<|aq (bh<|cG 1 [1] (jy<|aa (ak (af (ae 0) ax) aK) 0#0 aB) (bK 0) mYes<|ak (af (fJ (ak (af (ae 0)<|af (ae 1) ax) aD) (bS<|dC<|.int 11) eV) ax) az) ao)
def bA:ac->aw D:=bz 2 eI
abbrev m_is_ratio:ac->aw D:=Com.m_is_ratio
abbrev m_is_length:ac->aw D:=Com.m_is_length
abbrev m_look_at_web:ac->aw D:=Com.m_look_at_web
noncomputable def b_has_lengths:am :=
 (aq (cT (lz (cM<|aU (ae 1)<|kq "list")<|aa (ak (af (ae 1) ax)<|m1 dP) (ak (af (aa (ae 0) 1#0 aB) ax)<|m1 dP) iM) (aq (bh<|dC<|.bl U9) ao) ao)<|aq (bh<|ak (af (cG 1 [] (jy<|ae 1) (bK 0) mYes<|ak (af (ae 0) ax) m_is_length) ax)<|m1 vw) ao)
def m_has_lengths:ac->aw D:=bz 2 b_has_lengths
def eO:am :=
 (aq (ff<|ak (af (ae 0) ax) m_look_at_web)<|aq (cT (cM<|ak (af (ae 0)<|af (ae 1) ax) m_has_lengths) (aq dI ao) ao) ao)
def m_look_at_rooms:ac->aw D:=bz 2 eO
abbrev m_is_tie_number:ac->aw D:=Com.m_is_tie_number
abbrev m_look_at_taking:ac->aw D:=Com.m_look_at_taking
abbrev m_is_less:ac->aw D:=Com.m_is_less
noncomputable def iz:am :=
 (aq (cT (lz (cM<|ak (af (ae 2) ax) m_is_ratio)<|eG (aa (aa (ae 2) 0#0 aB) 0#0 LP)<|aa (aa (ae 0) 2#0 aB) 0#"one" gD) (aq (bh<|dC<|.bl U9) ao) ao)<|aq (bh<|cM<|ak (af (ae 1)<|af (ak (af (ak (af (aa (ae 2) 0#0 aB) ax)<|m1 wA)<|af (aa (ae 2) 1#0 aB) ax) fE) ax) m_is_less) ao)
def m_is_amount:ac->aw D:=bz 3 iz
noncomputable def xZ:am:=(aq (aH 6<|JL (aa (ae 4) (ae 2) vY) (dC<|.tup [(.int 0),(.int 1)])<|aa (ae 1) (ae 4) aB)<|aq (cT (cM<|ak (af (aa (aa (ae 0) 1#0 aB) (ae 4) aB)<|af (ae 6)<|af (ae 5) ax) m_is_amount) (aq (iN "NoFlow" ["at"]<|af (ae 4) ax) ao) ao) ao)
noncomputable def dz:am :=
 (aq (cT (lz (cM<|aU (ae 3)<|kq "list")<|aa (ak (af (ae 3) ax)<|m1 dP) (ak (af (aa (ae 0) 1#0 aB) ax)<|m1 dP) iM) (aq (iN "NoFlow" ["at"]<|af 0#4 ax) ao) ao)<|aq (gJ (lD<|ae 3) (c5 [4,5]) xZ) ao)
def bH:ac->aw D:=bz 7 dz
abbrev m_on_one_scale:ac->aw D:=Com.m_on_one_scale
noncomputable def jL:am :=
 (aq (aH 3<|dC<|.int 0)<|aq (gJ (GN (aa (ae 0) 1#0 aB)<|ae 1) (c5 [4,5])<|aq (cT (aa (aa (ae 4) 0#0 aB) (ae 2) gD) (aq (aH 3<|aa (ae 3) (ae 5) aZ) ao) ao)<|aq (cT (aa (aa (ae 4) 1#0 aB) (ae 2) gD) (aq (aH 3<|aa (ae 3) (ae 5) gQ) ao) ao) ao)<|aq (bh<|ae 3) ao)
def m_goes_from:ac->aw D:=bz 6 jL
def jY:am :=
 (aq (aH 3<|ak (af (ae 0)<|af (ae 1)<|af (ae 2) ax) m_goes_from)<|aq (bh<|JL (aa (ae 2) (aa (ae 0) 2#0 aB) gD) (aa (ae 3) 0#0 O5)<|aa (ae 3) 0#0 gD) ao)
def m_is_balanced:ac->aw D:=bz 4 jY
def xT:am:=(aq (cT (eG (aa (ae 3) (aa (ae 0) 3#0 aB) iM)<|cM<|ak (af (ae 0)<|af (ae 2)<|af (ae 3) ax) m_is_balanced) (aq (iN "Unbalanced" ["place"]<|af (ae 3) ax) ao) ao) ao)
def dw:am :=
 (aq (aH 2<|aa (ak (af (ae 1) ax) m_on_one_scale) 0#0 aB)<|aq (kI (aa (ae 0) 0#0 aB) (bK 3) xT) ao)
def bG:ac->aw D:=bz 4 dw
noncomputable def cK:am :=
 (aq (ff<|ak (af (ae 0)<|af (ae 1) ax) m_look_at_rooms)<|aq (ff<|ak (af (ae 0)<|af (ae 2) ax) m_look_at_taking)<|aq (ff<|ak (af (ae 0)<|af (ae 1)<|af (ae 2)<|af (ae 3) ax) bH)<|aq (ff<|ak (af (ae 0)<|af (ae 3) ax) bG) ao)
def m_look_at_flow:ac->aw D:=bz 4 cK
noncomputable def iX:am :=
 (aq (aH 3<|ak (af 0#0<|af 1#0 ax) fE)<|aq (gJ (lD<|aa (ae 0) 1#0 aB) (c5 [4,5])<|aq (cT (aa (aa (ae 5) 0#0 aB) (ae 2) gD) (aq (aH 3<|ak (af (ae 3)<|af (aa (ae 1) (ae 4) aB)<|af 1#0 ax) aR) ao) ao)<|aq (cT (aa (aa (ae 5) 1#0 aB) (ae 2) gD) (aq (aH 3<|ak (af (ae 3)<|af (aa (ae 1) (ae 4) aB)<|af (aU 1#0 ko) ax) aR) ao) ao) ao)<|aq (bh<|ae 3) ao)
def cA:ac->aw D:=bz 6 iX
end K34
namespace K35
open PySem L2 DL
abbrev aD:ac->aw D:=Cod.aD
abbrev aK:ac->aw D:=Cod.aK
abbrev az:ac->aw D:=Cod.az
noncomputable def eI:am :=
 (aq (aH 1<|ak (af 420#0<|af 60#0<|af 2#0<|af 5#0<|af (aa 10#0 18#0 kn)<|af 30#0<|af 6#0<|af 5#0<|af (aa 10#0 18#0 kn)<|af 30#0<|af 3#0<|af 5#0<|af (aa 10#0 18#0 kn)<|af 30#0 ax) bD)
 (aq (bh<|cG 1 [1] (jy<|aa (ak (af (ae 0) ax) aK) 0#0 aB) (bK 0) mYes<|ak (af (fJ (ak (af (ae 0)<|af (ae 1) ax) aD) (bS<|dC<|.int 11) eV) ax) az)
 ao))
def bA:ac->aw D:=bz 2 eI
def rM:am :=
 (aq (bh<|cG 2 [1] (lD<|aa (ae 0) 1#0 aB) (c5 [0,1]) (eG (aa (aa (ae 1) 4#0 aB) 0#4 l7)<|aa (aa (aa (ae 2) (ae 0) LN) 1#0 Ef) 1#0 gD)<|ae 0)
 ao)
def dX:ac->aw D:=bz 2 rM
abbrev m_look_at_web:ac->aw D:=Wex.m_look_at_web
abbrev m_is_tie_number:ac->aw D:=Com.m_is_tie_number
abbrev m_look_at_taking:ac->aw D:=Wex.m_look_at_taking
noncomputable def fN:am :=
 (aq (cT (aa (aa (ae 0) 2#0 aB) 0#"both" gD)
 (aq (bh<|aa (aa (aa (ae 0) 0#0 aB) (ae 1) vY) (aa (aa (ae 0) 1#0 aB) (ae 1) vY) iM)
 ao)
 ao)
 (aq (bh<|eG (aa (aa (ae 0) 0#0 aB) (ae 1) vY)<|aa (aa (ae 0) 1#0 aB) (ae 1) bL)
 ao))
def bj:ac->aw D:=bz 2 fN
end K35
namespace K36
open PySem L2 DL
abbrev aD:ac->aw D:=Cod.aD
abbrev aK:ac->aw D:=Cod.aK
abbrev cm:ac->aw D:=Cod.cm
abbrev az:ac->aw D:=Cod.az
noncomputable def iA:am :=
 (aq (bh<|ak (af (aa (aa (aa (ae 0) 0#0 aB) (aa (ae 1) 1#0 aB) bf) (aa (aa (ae 2) (aa (ae 1) 0#0 aB) bf) (aa (ae 0) 1#0 aB) bf) aZ)<|af (aa (aa (ae 0) 1#0 aB) (aa (ae 1) 1#0 aB) bf) ax) cm)
 ao)
def aR:ac->aw D:=bz 3 iA
noncomputable def iX:am :=
 (aq (aH 3<|ak (af 0#0<|af 1#0 ax) fE)
 (aq (gJ (lD<|aa (ae 0) 1#0 aB) (c5 [4,5])
 (aq (cT (aa (aa (ae 5) 0#0 aB) (ae 2) gD)
 (aq (aH 3<|ak (af (ae 3)<|af (aa (ae 1) (ae 4) aB)<|af 1#0 ax) aR)
 ao)
 ao)
 (aq (cT (aa (aa (ae 5) 1#0 aB) (ae 2) gD)
 (aq (aH 3<|ak (af (ae 3)<|af (aa (ae 1) (ae 4) aB)<|af (aU 1#0 ko) ax) aR)
 ao)
 ao)
 ao)))
 (aq (bh<|ae 3)
 ao)))
def cA:ac->aw D:=bz 6 iX
abbrev m_look_at_web:ac->aw D:=Com.m_look_at_web
abbrev m_on_one_scale:ac->aw D:=Com.m_on_one_scale
abbrev m_ratio:ac->aw D:=Com.m_ratio
noncomputable def jL:am :=
 (aq (aH 3<|dC<|.int 0)
 (aq (gJ (GN (aa (ae 0) 1#0 aB)<|ae 1) (c5 [4,5])
 (aq (cT (aa (aa (ae 4) 0#0 aB) (ae 2) gD)
 (aq (aH 3<|aa (ae 3) (ae 5) aZ)
 ao)
 ao)
 (aq (cT (aa (aa (ae 4) 1#0 aB) (ae 2) gD)
 (aq (aH 3<|aa (ae 3) (ae 5) gQ)
 ao)
 ao)
 ao)))
 (aq (bh<|ae 3)
 ao)))
def m_goes_from:ac->aw D:=bz 6 jL
noncomputable def jM:am :=
 (aq (ff<|ak (af (ae 0) ax) m_look_at_web)
 (aq (aH 2<|ak (af (ae 1) ax) m_on_one_scale)
 (aq (bh<|ak (af (ak (af (ae 0)<|af (aa (ae 2) 0#0 aB)<|af (aa (ae 0) 2#0 aB) ax) m_goes_from)<|af (aa (ae 2) 1#0 aB) ax) m_ratio)
 ao)))
def fj:ac->aw D:=bz 3 jM
end K36
namespace K40
open PySem L2 DL
abbrev aD:ac->aw D:=Cod.aD
abbrev aK:ac->aw D:=Cod.aK
abbrev az:ac->aw D:=Cod.az
abbrev bA:ac->aw D:=K37.bA
def rL:am :=
 (aq (aH 1<|dC<|.int 2329089562800)
 (aq (bh<|cG 2 [1] (jy<|ae 0) (c5 [0,1]) mYes<|aa (ae 0) (aa (ae 2) (ae 1) kY) bf)
 ao))
def dW:ac->aw D:=bz 2 rL
abbrev m_look_at_web:ac->aw D:=Com.m_look_at_web
abbrev m_has_lengths:ac->aw D:=K51.m_has_lengths
def eO:am :=
 (aq (ff<|ak (af (ae 0) ax) m_look_at_web)
 (aq (cT (cM<|ak (af (ae 0)<|af (ae 1) ax) m_has_lengths)
 (aq dI
 ao)
 ao)
 ao))
def m_look_at_rooms:ac->aw D:=bz 2 eO
abbrev m_is_tie_number:ac->aw D:=Com.m_is_tie_number
abbrev m_look_at_taking:ac->aw D:=Com.m_look_at_taking
abbrev m_on_one_scale:ac->aw D:=Com.m_on_one_scale
abbrev m_filled:ac->aw D:=K37.m_filled
abbrev m_ratio:ac->aw D:=Com.m_ratio
noncomputable def rG:am :=
 (aq (ff<|ak (af (ae 0)<|af (ae 1) ax) m_look_at_rooms)
 (aq (ff<|ak (af (ae 0)<|af (ae 2) ax) m_look_at_taking)
 (aq (aH 3<|ak (af (ae 1) ax) m_on_one_scale)
 (aq (aH 4<|cG 1 [] (jy<|ae 1) (bK 0) mYes<|dC<|.int 0)
 (aq (aH 5<|vv (af (ae 4)<|af (aa (ae 0) 2#0 aB)<|af (aa (ae 0) 3#0 aB) ax) 0 (uq "most_flow") [0,2,3] m_filled)
 (aq (aH 6<|cG 1 [5] (jy<|aa (ae 0) 0#0 aB) (bK 0) (aa (ae 0) (aa (ae 1) 1#0 aB) zp)<|ae 0)
 (aq (bh<|ak (af (cG 1 [3] (jy<|aa (ae 5) 0#0 aB) (bK 0) mYes<|ak (af (ae 0)<|af (aa (ae 1) 1#0 aB) ax) m_ratio)<|af (ae 6) ax) fE)
 ao)))))))
def m_most_flow:ac->aw D:=bz 7 rG
abbrev bj:ac->aw D:=K35.bj
noncomputable def pP:am :=
 (aq (aH 1<|ak (af (ak (af (aa (ae 0) 2#0 aB) ax) bD) ax) bD)
 (aq (kI (aa (ae 0) 0#0 aB) (bK 2)
 (aq (cT (aa (ae 2) (ak (af (aa (ae 0) 2#0 aB)<|af (aa (ae 0) 3#0 aB) ax) fE) bL)
 (aq (aH 1<|aa (ae 1) (cG 1 [2] (jy<|ae 1) (bK 0) mYes<|aa (ae 0) (ak (af (ae 1) ax) bD) aZ) aZ)
 ao)
 ao)
 ao))
 (aq (bh<|ae 1)
 ao)))
def fD:ac->aw D:=bz 3 pP
noncomputable def jN:am :=
 (aq (j8 3<|ak ax bD)
 (aq (kI (ak (af (ae 0) ax) fD) (bK 4)
 (aq (aH 5<|dC<|.int 0)
 (aq (gJ (lD<|aa (ae 0) 1#0 aB) (c5 [6,7])
 (aq (cT (eG (aa (ae 6) (ae 2) bL)<|ak (af (ae 7)<|af (ae 4) ax) bj)
 (aq (aH 5<|aa (ae 5) (aa (ae 1) (ae 6) aB) aZ)
 ao)
 ao)
 ao))
 (aq (bU 3<|ae 5)
 ao))))
 (aq (bh<|ak (af (ae 3) ax)<|m1 xH)
 ao)))
def bV:ac->aw D:=bz 8 jN
end K40
namespace DL
open PySem PySem.Spec PyProof.Rows L2
section
variable {X:Cx}{π:List (UD×Obj)}{σ:L2.St}{H:Hp}{s:UH}{e:UD}
def Jq{D:qG}(m:X.stack=X.env::X.outer/\X.env.frame=W1 X.env.locals)(I:Inv X π σ H1 s1)
  (h:p0 X.prog X.w X.stack H1 s1 Ex ev s')(hg:Gl X c)(hm:X.mg c=W1 cv)(a9:Gl X c2)(a8:X.mg c2=W1 bm)(hx:∀C ox H',Ex (.ref C) ox H'->W6 X.K (.ref C) cv=W1 VT∨W6 X.K (.ref C) cv=W1 U9/\W6 X.K (.ref C) bm=W1 VT)
  (hs:∀a C j ox H' s2,Ex (.ref C) ox H'->W6 X.K (.ref C) cv=W1 VT->(ox=Wp∨ox=j)->H' a=Wp->Inv (DL.hand X a) π σ (upd H' a<|.ext<|BY a C j) s2 ->
   UZ 4#X (X.A.mark<|W1<|.ref a) (execs (ba::O) X.env) (SP (DL.hand X a) π D) (λ_ _=>False) s2)
  (a3:∀a C j ox H' s2,Ex (.ref C) ox H'->W6 X.K (.ref C) cv=W1 U9->(ox=Wp∨ox=j)->H' a=Wp->Inv (DL.hand X a) π σ (upd H' a<|.ext<|BY a C j) s2 ->
   UZ 4#X (X.A.mark<|W1<|.ref a) (execs (bc::t) X.env) (SP (DL.hand X a) π D) (λ_ _=>False) s2)
  (bd:1#c:=by decide) (ap:1#c2:=by decide) :
  UZ 4#X X.A (noteFrame ev X.env) (λ_ sj=>UZ 4#X X.A (setFlight ev Wp) (λ_ sk=>
   UZ 4#X X.A (handleBy ev X.env (.ExceptHandler (W1<|.Name c np) Wp (ba::O) bp::.ExceptHandler (W1<|.Name c2 bq) Wp (bc::t) a4::rest)) (SP X π D) X.xe sk) X.xe sj) X.xe s':=by
 obtain⟨a,C,a0,B,H',rfl,os,bare,un,hok,x,fl,hB,ox,⟨j,bb,ab⟩,hE⟩:=h;have hA:X.A.frames=W1 (X.env::X.outer):=by rw[←m.1];exact I.ok.frames
 have d:=fl;rw[m.1]at fl;have an:∀b∈jx X.stack,H' b=Wp:=λb hb=>by
  obtain⟨_,o,ho,_⟩:=I.stack.mem hb;exact un.free b o ho (I.stkFree b hb) 0#3
 have ah:s1.heap.get? a=Wp:=by
  cases q:s1.heap.get? a with
  |none=>rfl
  |some o=>
   by_cases hb:a∈jx X.stack
   .obtain⟨_,o',a7,hd⟩:=d.2.2.1.mem hb
    obtain⟨oe,Y,G,_,be,_⟩:=d.first
    rw[a7]at G;cases G;exact ee be<|hd Y
   .obtain⟨u,hu⟩:=hB a hb (.inr ⟨o,q⟩)
    rw[fl.2.1]at hu;cases hu
 have a1:∀g,B.StaysIn g->s'.heap.UpToSlots g->Inv X π σ H' { s' with heap:=g }:=λg k up=>
  I.call' (ch:=[]) os (Un.fly un d.1 d.2.2.1 hB k up) (gk.fly hok an d.1 hB k) bare (λ_ z=>nomatch z)
 have E:∀g,B.StaysIn g->s'.heap.UpToSlots g->BY a C j g->Inv X π σ (upd H' a<|.ext<|BY a C j) { s' with heap:=g }:=λg k up p=>
  I.call' (ch:=[]) os (Un.ext (Un.fly un d.1 d.2.2.1 hB k up) x ah) (gk.ext (gk.fly hok an d.1 hB k) x p (let ⟨o,_,e,_⟩:=p;⟨o,e⟩) FD) bare (λ_ z=>nomatch z)
 refine IM hA m.2 fl bb λh4 Q N bi=>?_;refine IP Q bi λh5 y M as=>?_;have I5:Inv (DL.hand X a) π σ H' { s' with heap:=h5 }:=Inv.hand<|a1 h5 y.1<|N.trans M;refine wpAny_handleBy_cons (codeAny_handlers_test ?_) (by intro q;cases q);refine iU I5 hg hm ?_ bd;obtain⟨ob,a6,a5⟩:=y.there;have LT:YK 4#X h5 (typeOf<|.ref a) (.ref C):=a5▸(YK.ld a6).andThen .now;rcases hx C ox H' hE with l|⟨l,a2⟩
 .refine(W.exm_one I5.kIn LT l).here ?_
  refine codeAny_handlers_suite ?_;refine A8 y as λh6 n L T=>?_;obtain⟨oe,Y,G,hc,hd,_⟩:=n.first
  have I6:Inv (DL.hand X a) π σ (upd H' a<|.ext<|BY a C j) { s' with heap:=h6 }:=Inv.hand (E h6 n.1 ((N.trans M).trans L) ⟨oe,Y,G,hc,hd,(by obtain⟨o6,e6,d6,_⟩:=T;rw[G]at e6;cases e6;exact d6)⟩);refine VH (hs a C j ox H' _ hE l ab x I6) (λf s8 h8=>?_) λ_ _ z=>z.elim;cases f with|next|brk|cont=>obtain⟨i,U,J,q⟩:=h8;exact⟨i,U,fv I.ok J,q⟩|ret u=>obtain⟨v,i,U,J,r,q⟩:=h8;exact⟨v,i,U,fv I.ok J,r,q⟩
 .refine(W.exm_one I5.kIn LT l).here ?_
  refine wpAny_handleBy_cons (codeAny_handlers_test ?_) (by intro q;cases q);refine iU I5 a9 a8 ?_ ap;refine(W.exm_one I5.kIn LT a2).here ?_;refine codeAny_handlers_suite ?_;refine A8 y as λh6 n L T=>?_;obtain⟨oe,Y,G,hc,hd,_⟩:=n.first
  have I6:Inv (DL.hand X a) π σ (upd H' a<|.ext<|BY a C j) { s' with heap:=h6 }:=Inv.hand (E h6 n.1 ((N.trans M).trans L) ⟨oe,Y,G,hc,hd,(by obtain⟨o6,e6,d6,_⟩:=T;rw[G]at e6;cases e6;exact d6)⟩);refine VH (a3 a C j ox H' _ hE l ab x I6) (λf s8 h8=>?_) λ_ _ z=>z.elim;cases f with|next|brk|cont=>obtain⟨i,U,J,q⟩:=h8;exact⟨i,U,fv I.ok J,q⟩|ret u=>obtain⟨v,i,U,J,r,q⟩:=h8;exact⟨v,i,U,fv I.ok J,r,q⟩
end
def iF(g:am)(hit mis hit2:UL->Bool)(sh sh2:am):am:=λa=>match g a with
 |.exn x=>if hit x.cls=VT then sh a else if mis x.cls=VT/\hit2 x.cls=VT then sh2 a else .stuck
 |r=>r
def nG(l:List<|UL×Bool)(c:UL):Bool:=zW l c==W1 U9
def Lc{K:Uv}{cs:List UD}{l:List<|UL×UD×List Bool}{x:UL}{C:UD}{a:List<|UL×Bool}(h:Mh K cs l)(z:qH K x C)(n:Nat)(e:cs[n]?=W1 C)(d:a=l.map λq=>(q.1,q.2.2.getD n U9)):∀x D,nG a x=VT->XC K x D->W6 K (.ref D) (.ref C)=W1 U9:=λx D c xc=>
 qc (p:=λ_ f b=>W6 K (.ref f) (.ref C)=W1 b) (d▸Dr h (·.getD n U9) (p:=λr b=>W6 K (.ref r) (.ref C)=W1 b) λy=>z.exm<|GZ y.sb n e) x D U9 (by unfold nG at c;exact beq_iff_eq.mp c) xc
section
variable {X:Cx}{E:XK}{e:Vt}{es:List Vt}{fa:Ev->aw (ac)}{pos:Pos}
def IY{st ba bc:WE}(G:X.stack=X.env::X.outer/\X.env.frame=W1 X.env.locals)(hb:TB X st g)
  (hg:Gl X c)(hm:X.mg c=W1 cv)(n:∀x C,hit x=VT->XC X.K x C->W6 X.K (.ref C) cv=W1 VT)(m:∀x C,mis x=VT->XC X.K x C->W6 X.K (.ref C) cv=W1 U9)
  (a0:Gl X c2)(ap:X.mg c2=W1 a2)(w:∀x C,hit2 x=VT->XC X.K x C->W6 X.K (.ref C) a2=W1 VT)
  (hh:∀b,zM (DL.hand X b) E Q N (ba::p) sh)(as:∀b,zM (DL.hand X b) E Q N (bc::l) sh2)(a1:1#c:=by decide)(J:1#c2:=by decide) :
  DS X E Q N (.Try [st] [.ExceptHandler (W1<|.Name c np) Wp (ba::p) a3,.ExceptHandler (W1<|.Name c2 a4) Wp (bc::l) ab] [] [] pos) (iF g hit mis hit2 sh sh2):=by
 refine⟨?_⟩;intro U s σ H D I ⟨T,B,h,q⟩;have hq:GD X.K Q N T (g B) D:=by
  unfold iF at q;cases i:g B with
  |exn x=>trivial|stuck=>rwa[i]at q
  |ok r=>rw[i]at q;cases r<;>exact q
 refine wpAny_Try_except<|wpAny_execs_cons<|cW (hb.o U s σ H Q N T B D _ I h hq λH1 s1 e s' I1 hc=>?_) λf s1 O=>?_
 .have A:∀x,g B=.exn x->hit x.cls=VT∨hit x.cls≠VT/\mis x.cls=VT/\hit2 x.cls=VT:=λx i=>by
   unfold iF at q;rw[i]at q
   by_cases z:hit x.cls=VT
   .exact .inl z
   .by_cases y:mis x.cls=VT/\hit2 x.cls=VT
    .exact .inr ⟨z,y⟩
    .simp only[dV z,dV y]at q;exact q.elim
  refine Jq G I1 hc hg hm a0 ap (λC ox H' ⟨x,d,i,_,_,⟨⟨c',L,xc⟩,_⟩⟩=>?_) (λb C M ox H' s2 ⟨x,d,i,sm,a,⟨⟨c',L,xc⟩,an⟩⟩ v ah j I2=>?_) (λb C M ox H' s2 ⟨x,d,i,sm,a,⟨⟨c',L,xc⟩,an⟩⟩ v ah j I2=>?_) a1 J
  .cases L
   rcases A x i with z|⟨_,Y,y2⟩
   .exact .inl<|n _ _ z xc
   .exact .inr ⟨m _ _ Y xc,w _ _ y2 xc⟩
  .cases L
   have z:hit x.cls=VT:=by
    rcases A x i with z|⟨_,Y,_⟩
    .exact z
    .have:=m _ _ Y xc;rw[v]at this;cases this
   refine(hh b).o U s2 _ _ _ I2 ⟨upd d b<|.ext<|BY b C M,B,a.grow<|bg a.g.sub j,?_⟩;have t:aE T (upd d b<|.ext<|BY b C M):=sm.trans (bg a.g.sub j).z;unfold iF at q;rw[i]at q;simp only[dh z]at q;exact bZ.grow q t
  .cases L
   have z:hit x.cls≠VT/\mis x.cls=VT/\hit2 x.cls=VT:=by
    rcases A x i with z|z
    .have:=n _ _ z xc;rw[v]at this;cases this
    .exact z
   refine(as b).o U s2 _ _ _ I2 ⟨upd d b<|.ext<|BY b C M,B,a.grow<|bg a.g.sub j,?_⟩;have t:aE T (upd d b<|.ext<|BY b C M):=sm.trans (bg a.g.sub j).z;unfold iF at q;rw[i]at q;simp only[dV z.1,dh z.2]at q;exact bZ.grow q t
 .cases f with
  |next=>exact wpAny_execs_nil<|wpAny_execs_nil O
  |brk=>exact O
  |cont=>exact O
  |ret u=>exact O
end
end DL
namespace K39
open PySem L2 DL
def fS:List (UL×Bool):=[("NoFlow",VT),("Unbalanced",U9)]
def gA:List (UL×Bool):=[("NoFlow",U9),("Unbalanced",VT)]
abbrev aD:ac->aw D:=Cod.aD
abbrev eD:ac->aw D:=Cod.eD
abbrev aK:ac->aw D:=Cod.aK
abbrev cm:ac->aw D:=Cod.cm
abbrev az:ac->aw D:=Cod.az
abbrev cz:ac->aw D:=Cod.cz
abbrev eC:ac->aw D:=Cod.eC
abbrev bA:ac->aw D:=K34.bA
abbrev dX:ac->aw D:=K35.dX
abbrev bj:ac->aw D:=K35.bj
abbrev fD:ac->aw D:=K40.fD
abbrev bV:ac->aw D:=K40.bV
abbrev dW:ac->aw D:=K40.dW
abbrev m_is_name:ac->aw D:=Com.m_is_name
abbrev m_look_at_places:ac->aw D:=Com.m_look_at_places
abbrev m_is_whole:ac->aw D:=Com.m_is_whole
abbrev m_common_divisor:ac->aw D:=Com.m_common_divisor
abbrev m_is_ratio:ac->aw D:=Com.m_is_ratio
abbrev m_is_length:ac->aw D:=Com.m_is_length
abbrev m_is_worth:ac->aw D:=Com.m_is_worth
abbrev m_is_tie:ac->aw D:=Com.m_is_tie
abbrev m_look_at_ties:ac->aw D:=Com.m_look_at_ties
abbrev m_is_place:ac->aw D:=Com.m_is_place
abbrev m_look_at_web:ac->aw D:=Com.m_look_at_web
abbrev m_has_lengths:ac->aw D:=K51.m_has_lengths
abbrev m_look_at_rooms:ac->aw D:=K40.m_look_at_rooms
abbrev m_is_tie_number:ac->aw D:=Com.m_is_tie_number
abbrev m_look_at_taking:ac->aw D:=Com.m_look_at_taking
abbrev m_shared_bottom:ac->aw D:=Com.m_shared_bottom
abbrev m_as_whole:ac->aw D:=Com.m_as_whole
abbrev m_on_one_scale:ac->aw D:=Com.m_on_one_scale
abbrev m_fewest_turns:ac->aw D:=K37.m_fewest_turns
abbrev m_sent_along:ac->aw D:=K37.m_sent_along
abbrev m_least_room:ac->aw D:=K37.m_least_room
abbrev m_turns_left:ac->aw D:=K37.m_turns_left
def bl_most_flow:al :=
 (ak (af (ae 1)<|af (aa (ae 3) 0#0 aB)<|af (ae 2)<|af (ae 0) ax) m_turns_left)
def iR:ac->ac->aw D:=Fj 1 3 bl_most_flow
def lt_filled:LT:=(ud (uq "most_flow") iR Il)
abbrev m_filled:ac->aw D:=K37.m_filled
abbrev m_ratio:ac->aw D:=Com.m_ratio
abbrev m_most_flow:ac->aw D:=K40.m_most_flow
abbrev m_is_less:ac->aw D:=Com.m_is_less
abbrev m_is_amount:ac->aw D:=K34.m_is_amount
noncomputable def dz:am :=
 (aq (cT (lz (cM<|aU (ae 3)<|kq "list")<|aa (ak (af (ae 3) ax)<|m1 dP) (ak (af (aa (ae 0) 1#0 aB) ax)<|m1 dP) iM)
 (aq (iN "NoFlow" ["at"]<|af 0#4 ax)
 ao)
 ao)
 (aq (gJ (lD<|ae 3) (c5 [4,5])
 (aq (aH 6<|JL (aa (ae 4) (ae 2) vY) (dC<|.tup [(.int 0),(.int 1)])<|aa (ae 1) (ae 4) aB)
 (aq (cT (cM<|ak (af (aa (aa (ae 0) 1#0 aB) (ae 4) aB)<|af (ae 6)<|af (ae 5) ax) m_is_amount)
 (aq (iN "NoFlow" ["at"]<|af (ae 4) ax)
 ao)
 ao)
 ao)))
 ao))
def bH:ac->aw D:=bz 7 dz
abbrev m_goes_from:ac->aw D:=K34.m_goes_from
abbrev m_is_balanced:ac->aw D:=K34.m_is_balanced
noncomputable def dw:am :=
 (aq (aH 2<|aa (ak (af (ae 1) ax) m_on_one_scale) 0#0 aB)
 (aq (kI (aa (ae 0) 0#0 aB) (bK 3)
 (aq (cT (eG (aa (ae 3) (aa (ae 0) 3#0 aB) iM)<|cM<|ak (af (ae 0)<|af (ae 2)<|af (ae 3) ax) m_is_balanced)
 (aq (iN "Unbalanced" ["place"]<|af (ae 3) ax)
 ao)
 ao)
 ao))
 ao))
def bG:ac->aw D:=bz 4 dw
noncomputable def cK:am :=
 (aq (ff<|ak (af (ae 0)<|af (ae 1) ax) m_look_at_rooms)
 (aq (ff<|ak (af (ae 0)<|af (ae 2) ax) m_look_at_taking)
 (aq (ff<|ak (af (ae 0)<|af (ae 1)<|af (ae 2)<|af (ae 3) ax) bH)
 (aq (ff<|ak (af (ae 0)<|af (ae 3) ax) bG)
 ao))))
def m_look_at_flow:ac->aw D:=bz 4 cK
noncomputable def gY:am :=
 (aq (iF (lG (af (ae 0)<|af (ae 1)<|af (ae 2)<|af (ae 3) ax) m_look_at_flow) (kh fS) (nG fS) (kh gA)
 (aq (bh<|dC<|.bl U9)
 ao)
 (aq (bh<|dC<|.bl U9)
 ao))
 (aq (bh<|dC<|.bl VT)
 ao))
def cf:ac->aw D:=bz 4 gY
noncomputable def nT:am :=
 (aq (aH 3<|aa (ae 0) 2#0 aB)
 (aq (j8 4<|ak (af (ae 3) ax) bD)
 (aq (j8 5<|ak ax bD)
 (aq (eZ (λ_=>1000) (aa (ae 3) (aa (ae 0) 3#0 aB) iM)
 (aq (j8 6<|ak ax bD)
 (aq (gJ (lD<|aa (ae 0) 1#0 aB) (c5 [7,8])
 (aq (cT (eG (aa (ae 7) (ae 1) bL)<|eG (aa (aa (ae 8) 0#0 aB) (ae 3) gD)<|aa (aa (ae 8) 1#0 aB) (ae 4) bL)
 (aq (bU 6<|ak (af (ae 7)<|af 1#0<|af (aa (ae 8) 1#0 aB) ax) fE)
 ao)
 ao)
 (aq (cT (eG (aa (ae 7) (ae 1) bL)<|eG (aa (aa (ae 8) 2#0 aB) 0#"both" gD)<|eG (aa (aa (ae 8) 1#0 aB) (ae 3) gD)<|aa (aa (ae 8) 0#0 aB) (ae 4) bL)
 (aq (bU 6<|ak (af (ae 7)<|af (aU 1#0 ko)<|af (aa (ae 8) 0#0 aB) ax) fE)
 ao)
 ao)
 ao)))
 (aq (ET 6 (cT (aa (ae 6) (ak ax bD) gD)
 (aq (bh<|ak ax bD)
 ao)
 ao))
 (aq (ET 6<|Dp [7,9,3]<|aa (ae 6) (aa (aa (ae 2) (ak (af (ae 5) ax)<|m1 dP) aB) (ak (af (ae 6) ax)<|m1 dP) cE) aB)
 (aq (bU 5<|ak (af (ae 7)<|af (ae 9) ax) fE)
 (aq (bU 4<|ae 3)
 ao)))))))
 (aq (bh<|ae 5)
 ao)))))
def jj:ac->aw D:=bz 10 nT
abbrev aR:ac->aw D:=K34.aR
noncomputable def rJ:am :=
 (aq (aH 4<|ak (af (ae 3)<|af (aa (oa (aa (oa (ak (af 360360#0 ax) bD)<|dC<|.int 6) (ak (af 5#0<|af (aa 10#0 18#0 kn)<|af 30#0<|af 3#0 ax) bD) nR)<|dC<|.int 3) (ak (af 6#0<|af 14#0<|af 2#0 ax) bD) aZ) ax) aD)
 (aq (j8 5<|cG 1 [] (jy<|aa (ae 0) 1#0 aB) (bK 0) mYes<|ak (af 0#0<|af 1#0 ax) fE)
 (aq (tw 3#0 (bK 6)
 (aq (aH 7<|fJ (ae 4) (bS<|aa 10#0 (ae 6) bf)<|bS<|aa (aa 10#0 (ae 6) bf) 10#0 aZ)
 (aq (aH 8<|ak (af (ae 0)<|af (aa (ak (af (ae 2)<|af (ak ax bD) ax) bD) (ak (af (aa (aa (ae 7) 9#0 aB) 0#0 gD) ax)<|m1 zo) aB)<|af (ae 7) ax) jj)
 (aq (cT (aa (aa (ae 4) 30#0 aB) 1#0 gD)
 (aq (aH 8<|fJ (ae 8) eV<|bS<|aa 1#0 (aa (aa (ae 4) 31#0 aB) 5#0 cE) aZ)
 ao)
 ao)
 (aq (aH 9<|ak (af (fJ (ae 7) (bS<|dC<|.int 6)<|bS<|dC<|.int 9) ax) az)
 (aq (cT (eG (aa (aa (ae 7) 9#0 aB) 0#0 CY)<|aa (ae 8) (ak ax bD) iM)
 (aq (aH 10<|aa (ae 1) (aa (aa (ae 8) (aa (aa (ae 7) 8#0 aB) (ak (af (ae 8) ax)<|m1 dP) cE) aB) 0#0 aB) aB)
 (aq (aH 9<|ak (af (aa (ae 10) 0#0 aB)<|af (aa (aa (ae 10) 1#0 aB) (aa 1#0 (aa (aa (ae 7) 8#0 aB) 4#0 cE) aZ) bf) ax) cm)
 ao))
 ao)
 (aq (kI (ae 8) (c5 [11,12])
 (aq (qO 5 (ak (af (aa (ae 5) (ae 11) aB)<|af (ae 9)<|af (ae 12) ax) aR)<|ae 11)
 ao))
 ao)))))))
 (aq (cT (eG (aa (aa (ae 4) 30#0 aB) 0#0 gD)<|aa (ae 5) (ak ax bD) iM)
 (aq (w6 11<|aa (aa (ae 4) 31#0 aB) (ak (af (ae 5) ax)<|m1 dP) cE)
 (aq (qO 5 (ak (af (aa (ae 5) (ae 11) aB)<|af (ak (af 1#0<|af (aa 1#0 (aa (ae 4) 31#0 aB) aZ) ax) fE)<|af (aa 1#0 (aa 2#0 (aa (ae 4) 32#0 aB) bf) gQ) ax) aR)<|ae 11)
 ao))
 ao)
 (aq (bh<|ae 5)
 ao)))))
def ij:ac->aw D:=bz 13 rJ
abbrev cA:ac->aw D:=K34.cA
noncomputable def jM:am :=
 (aq (ff<|ak (af (ae 0) ax) m_look_at_web)
 (aq (aH 2<|ak (af (ae 1) ax) m_on_one_scale)
 (aq (bh<|ak (af (ak (af (ae 0)<|af (aa (ae 2) 0#0 aB)<|af (aa (ae 0) 2#0 aB) ax) m_goes_from)<|af (aa (ae 2) 1#0 aB) ax) m_ratio)
 ao)))
def fj:ac->aw D:=bz 3 jM
abbrev dk:ac->aw D:=K51.dk
noncomputable def MY:am :=
 (aq (aH 1<|ak (af (ae 0) ax) eC)
 (aq (aH 2<|ak (af (ae 0) ax) bA)
 (aq (aH 3<|ak (af (ae 1)<|af (aa (ak (af (aa (aa (aa (ak (af (ae 0) ax) aK) 1#0 aB) (ak (af 0#0 ax) bD) aZ) 0#0 aB)<|af (ak (af 16384#0 ax) bD) ax) aD) 0#0 aB) ax) dX)
 (aq (aH 4<|ak (af (ae 1)<|af (ak (af (ae 2) ax) dW)<|af (ae 3) ax) bV)
 (aq (aH 5<|aa (ak (af (ae 1)<|af (ae 2)<|af (ae 3) ax) m_most_flow) 0#0 aB)
 (aq (aH 6<|cG 1 [] (jy<|aa (ae 1) 1#0 aB) (bK 0) mYes<|ak (af 0#0<|af 1#0 ax) fE)
 (aq (cT (lz (cM<|ak (af (ae 1)<|af (ae 2)<|af (ae 3)<|af (ae 5) ax) cf)<|cM<|ak (af (ae 1)<|af (ae 2)<|af (ae 3)<|af (ae 6) ax) cf)
 (aq (bh<|dC<|.bl U9)
 ao)
 ao)
 (aq (kI (aa (fJ (aa (ak (af (ae 0) ax) aK) 1#0 aB) (bS<|dC<|.int 1) eV) (ak (af 7#0 ax) bD) aZ) (bK 7)
 (aq (aH 8<|ak (af (ae 1)<|af (ae 2)<|af (ae 3)<|af (ae 7) ax) ij)
 (aq (cT (ak (af (ae 1)<|af (ae 2)<|af (ae 3)<|af (ae 8) ax) cf)
 (aq (aH 9<|ak (af (ae 1)<|af (ae 8)<|af (aa (ae 1) 2#0 aB) ax) cA)
 (aq (cT (lz (aa (aa (aa (ae 9) 0#0 aB) 2329089562800#0 bf) (aa (ae 4) (aa (ae 9) 1#0 aB) bf) CY)<|aa (ak (af (ae 1)<|af (ae 8) ax) fj) (ae 9) iM)
 (aq (bh<|dC<|.bl U9)
 ao)
 ao)
 (aq (cT (ak (af (ak (af (ae 1)<|af (ae 5)<|af (aa (ae 1) 2#0 aB) ax) cA)<|af (ae 9) ax) dk)
 (aq (bh<|dC<|.bl U9)
 ao)
 ao)
 ao)))
 ao)
 ao)))
 (aq (bh<|dC<|.bl VT)
 ao)))))))))
def m_law:ac->aw D:=bz 10 MY
def top(i:Nat):WE:=PySem.Challenge.pw_farthestcut_k39_whole_flows_below_sides.main.body.getD i<|.Pass ⟨0,0,0,0⟩
noncomputable def rows:List Rw:=[
 ⟨"_law_draws",top 68,["_law_cell","_law_tops","_law_found","_law_left","_law_mixed","_law_k"],2⟩,
 ⟨"_law_names",top 71,["_law_d","_law_many","_law_some","_law_names_here","_law_k","_law_e","_law_name","_law_at"],2⟩,
 ⟨"_law_cells",top 73,["_law_script","_law_d","_law_many"],1⟩,
 ⟨"_law_low",top 69,["_law_top","_law_bottom","_law_one","_law_other"],2⟩,
 ⟨"_law_fraction",top 70,["_law_d","_law_top","_law_bottom"],1⟩,
 ⟨"_law_tie",top 72,["_law_cell","_law_k","_law_walk","_law_d","_law_at","_law_other","_law_worth"],3⟩,
 ⟨"_law_web",top 74,["_law_script","_law_d","_law_places","_law_first","_law_last","_law_amid","_law_walk","_law_ties"],1⟩,
 ⟨"_law_rooms",top 75,["_law_script","_law_tops"],1⟩,
 ⟨"_law_bits",top 80,["_law_web_here","_law_bits_here"],2⟩,
 ⟨"_law_leads_out",top 81,["_law_tie_here","_law_side"],2⟩,
 ⟨"_law_sides",top 83,["_law_web_here","_law_sides_here","_law_place"],1⟩,
 ⟨"_law_least_room",top 84,["_law_web_here","_law_numbers","_law_taken","_law_found","_law_side","_law_out","_law_k","_law_tie_here"],3⟩,
 ⟨"_law_ints",top 82,["_law_rooms_here","_law_bottom"],1⟩,
 ⟨"is_name",top 15,["thing"],1⟩,
 ⟨"look_at_places",top 40,["places","number","place"],1⟩,
 ⟨"is_whole",top 13,["thing"],1⟩,
 ⟨"common_divisor",top 9,["one","other","larger","smaller","rest"],2⟩,
 ⟨"is_ratio",top 14,["thing"],1⟩,
 ⟨"is_length",top 35,["thing"],1⟩,
 ⟨"is_worth",top 36,["thing"],1⟩,
 ⟨"is_tie",top 34,["thing"],1⟩,
 ⟨"look_at_ties",top 41,["ties","places","number","tie"],2⟩,
 ⟨"is_place",top 42,["thing","places"],2⟩,
 ⟨"look_at_web",top 39,["thing"],1⟩,
 ⟨"has_lengths",top 38,["web","thing"],2⟩,
 ⟨"look_at_rooms",top 50,["web","thing"],2⟩,
 ⟨"is_tie_number",top 37,["web","thing"],2⟩,
 ⟨"look_at_taking",top 48,["web","thing","ahead","number"],2⟩,
 ⟨"shared_bottom",top 45,["some","bottom","one"],1⟩,
 ⟨"as_whole",top 46,["one","bottom"],2⟩,
 ⟨"on_one_scale",top 44,["some","bottom"],1⟩,
 ⟨"fewest_turns",top 61,["turns","first","found","waiting","here","turn"],2⟩,
 ⟨"sent_along",top 63,["amounts","turns","more","sent","turn"],3⟩,
 ⟨"least_room",top 62,["turns"],1⟩,
 ⟨"turns_left",top 66,["web","rooms","taken","amounts","turns","number","tie","back"],4⟩,
 ⟨"filled",top 60,["turns_with","amounts","first","last","found"],4⟩,
 ⟨"ratio",top 18,["top","bottom","divisor"],2⟩,
 ⟨"most_flow",top 65,["web","rooms","taking","scaled","nothing","found","side"],3⟩,
 ⟨"is_less",top 19,["one","other"],2⟩,
 ⟨"is_amount",top 53,["tie","room","thing"],3⟩,
 ⟨"look_at_amounts",top 52,["web","rooms","taken","thing","number","amount","room"],4⟩,
 ⟨"goes_from",top 56,["web","sizes","place","more","tie","size"],3⟩,
 ⟨"is_balanced",top 55,["web","sizes","place","more"],3⟩,
 ⟨"look_at_balance",top 54,["web","flow","sizes","place"],2⟩,
 ⟨"look_at_flow",top 51,["web","rooms","taking","thing"],4⟩,
 ⟨"_law_let_by",top 86,["_law_web_here","_law_rooms_here","_law_taking","_law_flow"],4⟩,
 ⟨"_law_way",top 77,["_law_web_here","_law_taken","_law_d","_law_place","_law_been","_law_steps","_law_ways","_law_k","_law_tie_here","_law_sign"],3⟩,
 ⟨"_law_plus",top 76,["_law_one","_law_other","_law_sign"],3⟩,
 ⟨"_law_list",top 85,["_law_web_here","_law_rooms_here","_law_taking","_law_cell","_law_d","_law_found","_law_turn","_law_e","_law_steps","_law_amount","_law_room","_law_k","_law_sign"],4⟩,
 ⟨"_law_going",top 78,["_law_web_here","_law_flow","_law_place","_law_found","_law_k","_law_tie_here"],3⟩,
 ⟨"amount_of",top 57,["web","flow","scaled"],2⟩,
 ⟨"_law_less",top 79,["_law_one","_law_other"],2⟩,
 ⟨"law",top 87,["_law_script","_law_web_here","_law_rooms_here","_law_taking","_law_least","_law_most","_law_nought","_law_cell","_law_flow","_law_amount"],1⟩]
def sc:RS rows:=by decide +kernel
theorem nd(i:Nat)(h:rows[i]?=W1 r:=by rfl):r.N.Nodup:=(sc r<|UM h).nd
def bn:∀r∈rows,Pz r:=by
 unfold rows
 repeat refine List.forall_mem_cons.mpr ⟨by first|exact Uh|exact Ug|exact Ue|exact Ud|exact a,?_⟩
 exact λ_ h=>nomatch h
abbrev mE:WE:=yZ (top 59) 0
def GY:eJ ["self","number","sign","here","there","cost","room"] ["self","number","sign","here","there","cost","room"] (defScope mE):=⟨rfl,rfl,rfl,by decide +kernel,rfl,by decide +kernel,by decide +kernel⟩
abbrev qf:WE:=yZ (top 6) 0
def Ce:eJ ["self","at"] ["self","at"] (defScope qf):=⟨rfl,rfl,rfl,by decide +kernel,rfl,by decide +kernel,by decide +kernel⟩
abbrev jR:WE:=yZ (top 7) 0
def tq:eJ ["self","place"] ["self","place"] (defScope jR):=⟨rfl,rfl,rfl,by decide +kernel,rfl,by decide +kernel,by decide +kernel⟩
abbrev iT:kE:=QV<|top 65
def yU:JE ["amounts","web","taking","scaled"] ["amounts"] iT.scope:=⟨rfl,rfl,rfl,by decide +kernel,rfl,by decide +kernel,by decide +kernel,by decide +kernel,by decide +kernel⟩
set_option genInjectivity false in
set_option genSizeOfSpec false in
structure Adr where
 mP:UD
 mO:VX
 gV:UD
 gU:VX
 bP:UD
 jH:UD
 y0:VX
 cX:UD
 dq:UD
 bQ:UD
 A:Nat->UD
 Q:Nat->VX
set_option genInjectivity false in
set_option genSizeOfSpec false in
structure Txt (K:Uv) (mg:UL->Option Ur) (t:Adr):Prop where
 g:TG rows K mg t.A t.Q
 lm_most_flow:vU K (t.Q 37) (uq "most_flow") iT
 n_abs:mg "abs"=Wp
 n_all:mg "all"=Wp
 n_bool:mg "bool"=Wp
 n_enumerate:mg "enumerate"=Wp
 n_int:mg "int"=Wp
 n_isinstance:mg "isinstance"=Wp
 n_len:mg "len"=Wp
 n_list:mg "list"=Wp
 n_min:mg "min"=Wp
 n_range:mg "range"=Wp
 n_str:mg "str"=Wp
 n_tuple:mg "tuple"=Wp
 n_zip:mg "zip"=Wp
 D3:mg "Turn"=W1 (.ref t.bP)
 Ms:BU K "__init__" "Turn.__init__" mE t.jH t.y0
 sN:iC K t.y0 ["self","number","sign","here","there","cost","room"] []
 DV:Mk K t.bP t.jH
 sr:Ry K "Turn" ["number","sign","here","there","cost","room"] t.bP
 uB:mg "CutError"=W1 (.ref t.cX)
 OK:qH K "CutError" t.cX
 uA:mg "NoFlow"=W1 (.ref t.dq)
 AS:qH K "NoFlow" t.dq
 oA:mg "Unbalanced"=W1 (.ref t.bQ)
 za:qH K "Unbalanced" t.bQ
 zP:vQ K "NoFlow" t.dq
 yg:vQ K "Unbalanced" t.bQ
 gs:S8 K "NoFlow.__init__" t.dq t.mP t.mO qf ["self","at"] ["at"]
 gr:S8 K "Unbalanced.__init__" t.bQ t.gV t.gU jR ["self","place"] ["place"]
 qJ:Jy K t.cX
 rs:Mh K [t.dq,t.bQ] [("NoFlow",t.dq,[VT,U9]),("Unbalanced",t.bQ,[U9,VT])]
 iH:yb K mg "FEWEST_PLACES" (.int 2)
 k9:yb K mg "FIRST" (.int 2)
 qE:yb K mg "LAST" (.int 3)
 vH:yb K mg "LENGTH" (.int 3)
 qD:yb K mg "LETTERS" (.str "abcdefghijklmnopqrstuvwxyz")
 jt:yb K mg "LONGEST_NAME" (.int 8)
 jX:yb K mg "MOST_PLACES" (.int 7)
 mf:yb K mg "MOST_TIES" (.int 14)
 vG:yb K mg "NOUGHT" (.tup [(.int 0),(.int 1)])
 rE:yb K mg "ONE" (.int 0)
 jK:yb K mg "OTHER" (.int 1)
 iy:yb K mg "PLACES" (.int 0)
 jW:yb K mg "TIES" (.int 1)
 qC:yb K mg "WORD" (.int 2)
 zr:yb K mg "WORDS" (.tup [(.str "one"),(.str "both")])
 sJ:yb K mg "WORTH" (.int 4)
section
variable {P:Vv}{w:VL}{K:Uv}{mg:UL->Option Ur}{base:UQ}{t:Adr}
def wy(T:Txt K mg t):∀x C,kh fS x=VT->XC K x C->W6 K (.ref C) (.ref t.dq)=W1 VT:=IC T.rs T.AS 0 rfl rfl
def oz(T:Txt K mg t):∀x C,kh gA x=VT->XC K x C->W6 K (.ref C) (.ref t.bQ)=W1 VT:=IC T.rs T.za 1 rfl rfl
def wx(T:Txt K mg t):∀x C,nG fS x=VT->XC K x C->W6 K (.ref C) (.ref t.dq)=W1 U9:=Lc T.rs T.AS 0 rfl rfl
def xB(T:Txt K mg t):gi P w K mg base CX0 1 t.jH t.y0 ["self","number","sign","here","there","cost","room"] (yp K ["number","sign","here","there","cost","room"]) :=
 Lv T.Ms GY 0#1 rfl 0#1 λa A outer b H E=>(mV (i:=1) rfl rfl 0#5 0#5 (mV (i:=2) rfl rfl 0#5 0#5 (mV (i:=3) rfl rfl 0#5 0#5 (mV (i:=4) rfl rfl 0#5 0#5 (mV (i:=5) rfl rfl 0#5 0#5 (mV (i:=6) rfl rfl 0#5 0#5 O1))))))
def q9(T:Txt K mg t):gi P w K mg base CX0 1 t.mP t.mO ["self","at"] (GO K ["at"]) :=
 MS T.gs.Fi Ce rfl 0#1 λa A outer b H E=>(Mu (i:=1) T.qJ rfl T.uB (yz (i:=1) rfl 0#5 Hu) rfl rfl 0#5 0#5 Gf)
def rV(T:Txt K mg t):gi P w K mg base CX0 1 t.gV t.gU ["self","place"] (GO K ["place"]) :=
 MS T.gr.Fi tq rfl 0#1 λa A outer b H E=>(Mu (i:=1) T.qJ rfl T.uB (yz (i:=1) rfl 0#5 Hu) rfl rfl 0#5 0#5 Gf)
def eR(T:Txt K mg t):gF P w K mg base CX0 1 (t.A 0) (t.Q 0) ["_law_cell","_law_tops"] (spD K 2 aD) "_law_draws" (top 68) :=
 oD T.g sc (i:=0) rfl λ_ _ _ _ _ _ _ _=>(
 (ai (kS (i:=2) (nd 0) rfl 0#5 (jo av))
 (ai (aJ (i:=3) (nd 0) rfl 0#5 (aT ku qB rfl T.n_abs PyProof.Rows.Boot.«abs» (ag 0#7 av)))
 (ai (aJ (i:=4) (nd 0) rfl 0#5 (cR (cQ (cR 0#7 aj) aj) aj))
 (ai (zi Vj rfl rfl T.n_range (aT bO cY rfl T.n_len PyProof.Rows.Boot.«len» (ag 1#7 av)) (cj (i:=5) (nd 0) rfl 0#5) dH
 (ai (bN (aL DN (c4 λ_ _ _ _=>rb _) (aT ku qB rfl T.n_abs PyProof.Rows.Boot.«abs» (ag 0#7 av)) (nQ aj aj) nm)
 (ai (dO (i:=2) rfl 0#5 (cR 3#7<|ar 1#7<|dv 5))
 (ai (aJ (i:=3) (nd 0) rfl 0#5 (l5 3#7<|ar 1#7<|dv 5))
 au))
 (ai (aJ (i:=4) (nd 0) rfl 0#5 (cR (bI (bI (bI (cQ 4#7<|dv 4)<|cQ aj<|dv 4)<|cQ aj<|dv 5) aj) aj))
 (ai (dO (i:=2) rfl 0#5 (cR (cR (cQ 4#7 aj) aj)<|ar 1#7<|dv 5))
 au)))
 au))
 (ai (aO<|dv 2)
 au))))))
def wu(T:Txt K mg t):gF P w K mg base CX0 1 (t.A 1) (t.Q 1) ["_law_d","_law_many"] (spD K 2 eD) "_law_names" (top 71) :=
 oD T.g sc (i:=1) rfl λ_ _ _ _ H _ _ a=>(
 (ai (aJ (i:=2) (nd 1) rfl (XI rfl) l4)
 (ai (kS (i:=3) (nd 1) rfl 0#5 (jo av))
 (ai (zi Vj rfl rfl T.n_range 1#7 (cj (i:=4) (nd 1) rfl 0#5) dH
 (ai (aJ (i:=5) (nd 1) rfl (XI rfl) (cO 0#7 (cI<|cQ aj<|dv 4)<|cI<|bI (cQ aj<|dv 4) aj))
 (ai (aJ (i:=6) (nd 1) rfl 0#5 (LI l4<|ag (lp<|lu ["_law_j","_law_some","_law_e"] 1 [2,5] rfl (FE rfl T.n_range (bI aj<|ar 5#7 aj)) (da<|by decide) (λs H C d c=>⟨λe b=>(cj (i:=0) (show VP (["_law_j","_law_some","_law_e"]:bv) from by decide) rfl 0#5),fZ,(ar 1#7<|ar 2#7<|bI aj<|dv 0)⟩) ⟨rfl,rfl⟩ rfl rfl rfl rfl) av))
 (ai (bN (DW.dt<|gO (aL tV (c4 λ_ _ _ _=>rb _) 4#7 aj nm)<|dD<|aL (cP a.units) eM (ar 5#7 aj) aj nm)
 (ai (Ec (i:=6) (nd 1) rfl 0#5 (bI (cO (ar 3#7<|nO 4#7 aj) kU<|cI<|ar 5#7 aj)<|ar 2#7<|ar 5#7 aj))
 au)
 au)
 (ai (aJ (i:=7) (nd 1) rfl 0#5 (ar 5#7 aj))
 (ai (km _ Vj (aL (qS a.units) qU 6#7 3#7 rfl)
 (ai (aJ (i:=7) (nd 1) rfl 0#5 (bI 7#7 aj))
 (ai (aJ (i:=6) (nd 1) rfl 0#5 (bI (cO 6#7 kU<|cI<|qv aj)<|ar 2#7<|cR 7#7 aj))
 au)))
 (ai (dO (i:=3) rfl 0#5 6#7)
 au)))))))
 (ai (aO<|dv 3)
 au)))))
def gT(T:Txt K mg t):gF P w K mg base CX0 2 (t.A 2) (t.Q 2) ["_law_script"] (spD K 1 aK) "_law_cells" (top 73) :=
 oD T.g sc (i:=2) rfl λ_ _ _ _ _ _ _ a=>(
 (ai (aJ (i:=1) (nd 2) rfl 0#5 (rC (eR T) a<|ag (ar (bI 0#7<|cq<|ag aj av) aj)<|ag (bI (bI (cq<|ag aj<|ag aj<|ag aj av)<|qt (zj (cq<|ag aj<|ag aj av)<|qt (jo<|ag aj av) aj) aj)<|cq<|ag aj av) av))
 (ai (aJ (i:=2) (nd 2) rfl 0#5 (aT (FN rfl) O9 rfl T.n_min PyProof.Rows.Boot.«min» (ag aj<|ag (ar 1#7 aj) av)))
 (ai (aO<|eE<|ag (cO 0#7 (cI aj)<|cI<|bI aj<|dv 2)<|ag (cO 0#7 (cI<|bI aj<|dv 2)<|cI aj) av)
 au))))
def lJ(T:Txt K mg t):gF P w K mg base CX0 1 (t.A 3) (t.Q 3) ["_law_top","_law_bottom"] (spD K 2 cm) "_law_low" (top 69) :=
 oD T.g sc (i:=3) rfl λ_ _ _ _ _ _ _ a=>(
 (ai (aJ (i:=2) (nd 3) rfl 0#5 (aT ku qB rfl T.n_abs PyProof.Rows.Boot.«abs» (ag 0#7 av)))
 (ai (aJ (i:=3) (nd 3) rfl 0#5 1#7)
 (ai (km _ Vj (aL (gw a.units) jF 3#7 aj nm)
 (ai (OY (i:=2) (j:=3) rfl (nd 3) rfl rfl 0#1 rfl rfl (ag 3#7<|ag (cR 2#7<|dv 3) av) rfl)
 au))
 (ai (aO<|eE<|ag (l5 0#7<|dv 2)<|ag (l5 1#7<|dv 2) av)
 au)))))
def fz(T:Txt K mg t):gF P w K mg base CX0 2 (t.A 4) (t.Q 4) ["_law_d"] (spD K 1 az) "_law_fraction" (top 70) :=
 oD T.g sc (i:=4) rfl λ_ _ _ _ _ _ _ a=>(
 (ai (aJ (i:=1) (nd 4) rfl 0#5 (ar (cq<|ag aj<|ag (cR (ar 0#7 aj) aj)<|ag (cR (ar 0#7 aj) aj)<|ag (ar 0#7 aj)<|ag (cR (ar 0#7 aj) aj) av)<|ar 0#7 aj))
 (ai (aJ (i:=2) (nd 4) rfl 0#5 (ar (cq<|ag aj<|ag aj<|ag (bI aj<|ar 0#7 aj)<|ag aj<|ag (bI aj<|cR (ar 0#7 aj) aj) av)<|ar 0#7 aj))
 (ai (aO<|rC (lJ T) a<|ag 1#7<|ag 2#7 av)
 au))))
def As(T:Txt K mg t):gF P w K mg base CX0 3 (t.A 5) (t.Q 5) ["_law_cell","_law_k","_law_walk"] (spD K 3 cz) "_law_tie" (top 72) :=
 oD T.g sc (i:=5) rfl λ_ _ _ _ _ _ _ a=>(
 (ai (aJ (i:=3) (nd 5) rfl 0#5 (rC (eR T) a<|ag 0#7<|ag (cq<|ag aj<|ag aj<|ag aj<|ag aj<|ag (nQ aj aj)<|ag aj<|ag aj<|ag aj<|ag (nQ aj aj)<|ag aj<|ag aj av) av))
 (ai (aJ (i:=4) (nd 5) rfl 0#5 (cR (ar 3#7 aj)<|aT bO cY rfl T.n_len PyProof.Rows.Boot.«len» (ag 2#7 av)))
 (ai (aJ (i:=5) (nd 5) rfl 0#5 (cR (bI (bI 4#7 aj)<|cR (ar 3#7 aj)<|nO (aT bO cY rfl T.n_len PyProof.Rows.Boot.«len» (ag 2#7 av)) aj)<|aT bO cY rfl T.n_len PyProof.Rows.Boot.«len» (ag 2#7 av)))
 (ai (bN (aL (cP a.units) eM (ar 3#7 aj) aj nm)
 (ai (aJ (i:=4) (nd 5) rfl 0#5 (cR 1#7<|nO (aT bO cY rfl T.n_len PyProof.Rows.Boot.«len» (ag 2#7 av)) aj))
 (ai (aJ (i:=5) (nd 5) rfl 0#5 (bI 4#7 aj))
 au))
 au)
 (ai (aJ (i:=6) (nd 5) rfl 0#5 kX)
 (ai (bN (aL tV (c4 λ_ _ _ _=>rb _) (ar 3#7 aj) aj nm)
 (ai (aJ (i:=6) (nd 5) rfl 0#5 (rC (fz T) a<|ag (cO 3#7 (cI aj)<|cI aj) av))
 (ai (bN (aL (cP a.units) eM (ar 6#7 aj) aj nm)
 (ai (aJ (i:=6) (nd 5) rfl 0#5 (eE<|ag aj<|ag aj av))
 au)
 au)
 au))
 au)
 (ai (aO<|eE<|ag (ar 2#7<|dv 4)<|ag (ar 2#7<|dv 5)<|ag (ar (cq<|ag l4<|ag l4 av)<|ar 3#7 aj)<|ag (rC (fz T) a<|ag (cO 3#7 (cI aj)<|cI aj) av)<|ag 6#7 av)
 au))))))))
def Aq(T:Txt K mg t):gF P w K mg base CX0 4 (t.A 6) (t.Q 6) ["_law_script"] (spD K 1 eC) "_law_web" (top 74) :=
 oD T.g sc (i:=6) rfl λ_ _ _ _ H _ _ a=>(
 (ai (aJ (i:=1) (nd 6) rfl 0#5 (rC (eR T) a<|ag (ar (bI 0#7<|cq<|ag aj av) aj)<|ag (bI (cq<|ag aj<|ag aj<|ag aj av)<|qt (zj (cq<|ag aj<|ag aj av)<|qt (jo<|ag aj av) aj) aj) av))
 (ai (aJ (i:=2) (nd 6) rfl 0#5 (rC (wu T) a<|ag (cO 1#7 (cI aj) kU)<|ag (bI aj<|ar 1#7 aj) av))
 (ai (aJ (i:=3) (nd 6) rfl (XI rfl) (cR (ar 1#7 aj)<|aT bO cY rfl T.n_len PyProof.Rows.Boot.«len» (ag 2#7 av)))
 (ai (aJ (i:=4) (nd 6) rfl (XI rfl) (cR (bI (bI 3#7 aj)<|cR (ar 1#7 aj)<|nO (aT bO cY rfl T.n_len PyProof.Rows.Boot.«len» (ag 2#7 av)) aj)<|aT bO cY rfl T.n_len PyProof.Rows.Boot.«len» (ag 2#7 av)))
 (ai (pH (i:=5) (nd 6) rfl rfl ja (lu ["_law_k","_law_place","_law_first","_law_last"] 2 [3,4] rfl (gW rfl T.n_enumerate 2#7) (nZ<|by decide) (λs H C d c=>⟨λe b=>(gP rfl (bu (i:=0) (show VP (["_law_k","_law_place","_law_first","_law_last"]:bv) from by decide) rfl 0#5 (bu (i:=1) (show VP (["_law_k","_law_place","_law_first","_law_last"]:bv) from by decide) rfl 0#5 eX))),(mU<|aL (eK a.units) eL 0#7 (eE<|ag 2#7<|ag 3#7 av) rfl),1#7⟩) ⟨rfl,rfl⟩ rfl rfl rfl rfl))
 (ai (aJ (i:=6) (nd 6) rfl (XI rfl) (bI (bI (cq<|ag (ar 2#7<|dv 3) av)<|dv 5)<|cq<|ag (ar 2#7<|dv 4) av))
 (ai (pH (i:=7) (nd 6) rfl rfl ja (lu ["_law_k","_law_cell","_law_walk"] 2 [6] rfl (gW rfl T.n_enumerate (ar (rC (gT T) a<|ag 0#7 av) aj)) (nZ<|by decide) (λs H C d c=>⟨λe b=>(gP rfl (bu (i:=0) (show VP (["_law_k","_law_cell","_law_walk"]:bv) from by decide) rfl 0#5 (bu (i:=1) (show VP (["_law_k","_law_cell","_law_walk"]:bv) from by decide) rfl 0#5 eX))),fZ,(rC (As T) a<|ag 1#7<|ag 0#7<|ag 2#7 av)⟩) ⟨rfl,rfl⟩ rfl rfl rfl rfl))
 (ai (aO<|eE<|ag 2#7<|ag 7#7<|ag (ar 2#7<|dv 3)<|ag (ar 2#7<|dv 4) av)
 au)))))))))
def wt(T:Txt K mg t):gF P w K mg base CX0 3 (t.A 7) (t.Q 7) ["_law_script"] (spD K 1 bA) "_law_rooms" (top 75) :=
 oD T.g sc (i:=7) rfl λ_ _ _ _ H _ _ a=>(
 (ai (aJ (i:=1) (nd 7) rfl (XI rfl) (cq<|ag aj<|ag aj<|ag aj<|ag aj<|ag (nQ aj aj)<|ag aj<|ag aj<|ag aj<|ag (nQ aj aj)<|ag aj<|ag aj<|ag aj<|ag (nQ aj aj)<|ag aj av))
 (ai (aO<|lp<|lu ["_law_cell","_law_tops"] 1 [1] rfl (fH<|ar (rC (gT T) a<|ag 0#7 av) aj) (da<|by decide) (λs H C d c=>⟨λe b=>(cj (i:=0) (show VP (["_law_cell","_law_tops"]:bv) from by decide) rfl 0#5),fZ,(rC (fz T) a<|ag (cO (rC (eR T) a<|ag 0#7<|ag 1#7 av) (cI aj) kU) av)⟩) ⟨rfl,rfl⟩ rfl rfl rfl rfl)
 au)))
def yQ(T:Txt K mg t):gF P w K mg base CX0 1 (t.A 8) (t.Q 8) ["_law_web_here","_law_bits_here"] (spD K 2 dX) "_law_bits" (top 80) :=
 oD T.g sc (i:=8) rfl λ_ _ _ _ H _ _ a=>(
 (ai (aO<|lp<|lu ["_law_k","_law_tie_here","_law_bits_here"] 2 [1] rfl (gW rfl T.n_enumerate (ar 0#7 aj)) (nZ<|by decide) (λs H C d c=>⟨λe b=>(gP rfl (bu (i:=0) (show VP (["_law_k","_law_tie_here","_law_bits_here"]:bv) from by decide) rfl 0#5 (bu (i:=1) (show VP (["_law_k","_law_tie_here","_law_bits_here"]:bv) from by decide) rfl 0#5 eX))),(mU<|DW.dt<|gO (aL yH yR (ar 1#7 aj) kX nm)<|dD<|aL (cP a.units) eM (LL (O3 2#7<|dv 0) aj) aj nm),0#7⟩) ⟨rfl,rfl⟩ rfl rfl rfl rfl)
 au))
def oo(T:Txt K mg t):gF P w K mg base CX0 1 (t.A 9) (t.Q 9) ["_law_tie_here","_law_side"] (spD K 2 bj) "_law_leads_out" (top 81) :=
 oD T.g sc (i:=9) rfl λ_ _ _ _ _ _ _ a=>(
 (ai (bN (aL (cP a.units) eM (ar 0#7 aj) l4 nm)
 (ai (aO<|fq (gw a.units) jF (fq (qS a.units) qU (ar 0#7 aj) 1#7 rfl) (fq (qS a.units) qU (ar 0#7 aj) 1#7 rfl) nm)
 au)
 au)
 (ai (aO<|l6 (fq (qS a.units) qU (ar 0#7 aj) 1#7 rfl)<|kW<|fq (eK a.units) eL (ar 0#7 aj) 1#7 rfl)
 au)))
def wq(T:Txt K mg t):gF P w K mg base CX0 1 (t.A 10) (t.Q 10) ["_law_web_here"] (spD K 1 fD) "_law_sides" (top 83) :=
 oD T.g sc (i:=10) rfl λ_ _ _ _ H _ _ a=>(
 (ai (aJ (i:=1) (nd 10) rfl 0#5 (cq<|ag (cq<|ag (ar 0#7 aj) av) av))
 (ai (kT Vj rfl (ar 0#7 aj) (cj (i:=2) (nd 10) rfl (XI rfl)) dH
 (ai (bN (aL (eK a.units) eL 2#7 (eE<|ag (ar 0#7 aj)<|ag (ar 0#7 aj) av) rfl)
 (ai (aJ (i:=1) (nd 10) rfl 0#5 (bI 1#7<|lp<|lu ["_law_side","_law_place"] 1 [2] rfl (fH<|dv 1) (da<|by decide) (λs H C d c=>⟨λe b=>(cj (i:=0) (show VP (["_law_side","_law_place"]:bv) from by decide) rfl 0#5),fZ,(bI 0#7<|cq<|ag 1#7 av)⟩) ⟨rfl,rfl⟩ rfl rfl rfl rfl))
 au)
 au)
 au))
 (ai (aO<|dv 1)
 au))))
def nF(T:Txt K mg t):gF P w K mg base CX0 2 (t.A 11) (t.Q 11) ["_law_web_here","_law_numbers","_law_taken"] (spD K 3 bV) "_law_least_room" (top 84) :=
 oD T.g sc (i:=11) rfl λ_ _ _ _ _ _ _ a=>(
 (ai (kS (i:=3) (nd 11) rfl 0#5 (jo av))
 (ai (kT Vj rfl (rC (wq T) a<|ag 0#7 av) (cj (i:=4) (nd 11) rfl 0#5) dH
 (ai (aJ (i:=5) (nd 11) rfl 0#5 aj)
 (ai (jJ Vj rfl (gW rfl T.n_enumerate (ar 0#7 aj)) (gP rfl (bu (i:=6) (nd 11) rfl 0#5 (bu (i:=7) (nd 11) rfl 0#5 eX))) fw
 (ai (bN (DW.dt<|gO (aL (eK a.units) eL 6#7 2#7 rfl)<|dD<|cw<|rC (oo T) a<|ag 7#7<|ag 4#7 av)
 (ai (aJ (i:=5) (nd 11) rfl 0#5 (bI 5#7<|ar 1#7<|dv 6))
 au)
 au)
 au))
 (ai (dO (i:=3) rfl 0#5 5#7)
 au))))
 (ai (aO<|aT (xM rfl) Eh rfl T.n_min PyProof.Rows.Boot.«min» (ag 3#7 av))
 au))))
def yP(T:Txt K mg t):gF P w K mg base CX0 1 (t.A 12) (t.Q 12) ["_law_rooms_here"] (spD K 1 dW) "_law_ints" (top 82) :=
 oD T.g sc (i:=12) rfl λ_ _ _ _ H _ _ _=>(
 (ai (aJ (i:=1) (nd 12) rfl (XI rfl) aj)
 (ai (aO<|lp<|lu ["_law_top","_law_part","_law_bottom"] 2 [1] rfl (fH<|dv 0) (nZ<|by decide) (λs H C c b=>⟨λd a=>(gP rfl (bu (i:=0) (show VP (["_law_top","_law_part","_law_bottom"]:bv) from by decide) rfl 0#5 (bu (i:=1) (show VP (["_law_top","_law_part","_law_bottom"]:bv) from by decide) rfl 0#5 eX))),fZ,(cQ 0#7<|l5 2#7<|dv 1)⟩) ⟨rfl,rfl⟩ rfl rfl rfl rfl)
 au)))
def kM(T:Txt K mg t):gF P w K mg base CX0 1 (t.A 13) (t.Q 13) ["thing"] (spD K 1 m_is_name) "is_name" (top 15) :=
 oD T.g sc (i:=13) rfl λ_ _ _ _ H _ _ a=>(
 (ai (bN (DW.dt<|fV (cB<|cw<|c6 ur rfl T.n_isinstance rfl T.n_str PyProof.Rows.Boot.«str» 0#7)<|bR<|cB<|Bt xm xm (i4 λ_ _ _ _=>rb _) (i4 λ_ _ _ _=>rb _) i5 i5 aj (aT bO cY rfl T.n_len PyProof.Rows.Boot.«len» (ag 0#7 av))<|aY T.jt rfl)
 (ai (aO jq)
 au)
 au)
 (ai (aO<|aT (BD rfl) Jp rfl T.n_all PyProof.Rows.Boot.«all» (ag (lp<|lu ["sign"] 1 [] rfl (O0<|dv 0) (da<|by decide) (λs H C d c=>⟨λe b=>(cj (i:=0) (show VP (["sign"]:bv) from by decide) rfl 0#5),fZ,(fq (qS a.units) qU 0#7 (aY T.qD rfl) rfl)⟩) ⟨rfl,rfl⟩ rfl rfl rfl rfl) av))
 au)))
def oi(T:Txt K mg t):gF P w K mg base CX0 2 (t.A 14) (t.Q 14) ["places"] (spD K 1 m_look_at_places) "look_at_places" (top 40) :=
 oD T.g sc (i:=14) rfl λ_ _ _ _ _ _ _ a=>(
 (ai (bN (DW.dt<|fV (cB<|cw<|c6 ik rfl T.n_isinstance rfl T.n_list PyProof.Rows.Boot.«list» 0#7)<|bR<|cB<|Bt xm xm (i4 λ_ _ _ _=>rb _) (i4 λ_ _ _ _=>rb _) i5 i5 (aY T.iH rfl) (aT bO cY rfl T.n_len PyProof.Rows.Boot.«len» (ag 0#7 av))<|aY T.jX rfl)
 (ai dN
 au)
 au)
 (ai (jJ Vj rfl (gW rfl T.n_enumerate 0#7) (gP rfl (bu (i:=1) (nd 14) rfl 0#5 (bu (i:=2) (nd 14) rfl 0#5 eX))) fw
 (ai (bN (DW.dt<|fV (cB<|cw<|rC (kM T) a<|ag 2#7 av)<|bR<|aL (qS a.units) qU 2#7 (cO 0#7 kU<|cI<|dv 1) rfl)
 (ai dN
 au)
 au)
 au))
 au)))
def ig(T:Txt K mg t):gF P w K mg base CX0 1 (t.A 15) (t.Q 15) ["thing"] (spD K 1 m_is_whole) "is_whole" (top 13) :=
 oD T.g sc (i:=15) rfl λ_ _ _ _ _ _ _ _=>(
 (ai (aO<|l6 (c6 CI rfl T.n_isinstance rfl T.n_int PyProof.Rows.Boot.«int» 0#7)<|kW<|Jh<|c6 AI rfl T.n_isinstance rfl T.n_bool PyProof.Rows.Boot.«bool» 0#7)
 au))
def gz(T:Txt K mg t):gF P w K mg base CX0 1 (t.A 16) (t.Q 16) ["one","other"] (spD K 2 m_common_divisor) "common_divisor" (top 9) :=
 oD T.g sc (i:=16) rfl λ_ _ _ _ _ _ _ a=>(
 (ai (aJ (i:=2) (nd 16) rfl 0#5 (aT ku qB rfl T.n_abs PyProof.Rows.Boot.«abs» (ag 0#7 av)))
 (ai (aJ (i:=3) (nd 16) rfl 0#5 (aT ku qB rfl T.n_abs PyProof.Rows.Boot.«abs» (ag 1#7 av)))
 (ai (km _ Vj (aL (gw a.units) jF 3#7 aj nm)
 (ai (aJ (i:=4) (nd 16) rfl 0#5 (cR 2#7<|dv 3))
 (ai (aJ (i:=2) (nd 16) rfl 0#5 3#7)
 (ai (aJ (i:=3) (nd 16) rfl 0#5 4#7)
 au))))
 (ai (aO<|dv 2)
 au)))))
def lI(T:Txt K mg t):gF P w K mg base CX0 2 (t.A 17) (t.Q 17) ["thing"] (spD K 1 m_is_ratio) "is_ratio" (top 14) :=
 oD T.g sc (i:=17) rfl λ_ _ _ _ _ _ _ a=>(
 (ai (bN (DW.dt<|fV (cB<|cw<|c6 kO rfl T.n_isinstance rfl T.n_tuple PyProof.Rows.Boot.«tuple» 0#7)<|bR<|aL (gw a.units) jF (aT bO cY rfl T.n_len PyProof.Rows.Boot.«len» (ag 0#7 av)) aj nm)
 (ai (aO jq)
 au)
 au)
 (ai (bN (DW.dt<|fV (cB<|cw<|rC (ig T) a<|ag (ar 0#7 aj) av)<|bR<|cB<|cw<|rC (ig T) a<|ag (ar 0#7 aj) av)
 (ai (aO jq)
 au)
 au)
 (ai (aO<|l6 (fq DN (c4 λ_ _ _ _=>rb _) (ar 0#7 aj) aj nm)<|kW<|fq (cP a.units) eM (rC (gz T) a<|ag (ar 0#7 aj)<|ag (ar 0#7 aj) av) aj nm)
 au))))
def oj(T:Txt K mg t):gF P w K mg base CX0 3 (t.A 18) (t.Q 18) ["thing"] (spD K 1 m_is_length) "is_length" (top 35) :=
 oD T.g sc (i:=18) rfl λ_ _ _ _ _ _ _ a=>(
 (ai (aO<|l6 (rC (lI T) a<|ag 0#7 av)<|kW<|fq DN (c4 λ_ _ _ _=>rb _) (ar 0#7 aj) aj nm)
 au))
def An(T:Txt K mg t):gF P w K mg base CX0 3 (t.A 19) (t.Q 19) ["thing"] (spD K 1 m_is_worth) "is_worth" (top 36) :=
 oD T.g sc (i:=19) rfl λ_ _ _ _ _ _ _ a=>(
 (ai (aO<|Rh (fq Cq Cv 0#7 kX nm)<|kW<|l6 (rC (lI T) a<|ag 0#7 av)<|kW<|fq tV (c4 λ_ _ _ _=>rb _) (ar 0#7 aj) aj nm)
 au))
def E6(T:Txt K mg t):gF P w K mg base CX0 4 (t.A 20) (t.Q 20) ["thing"] (spD K 1 m_is_tie) "is_tie" (top 34) :=
 oD T.g sc (i:=20) rfl λ_ _ _ _ _ _ _ a=>(
 (ai (bN (DW.dt<|fV (cB<|cw<|c6 kO rfl T.n_isinstance rfl T.n_tuple PyProof.Rows.Boot.«tuple» 0#7)<|bR<|aL (gw a.units) jF (aT bO cY rfl T.n_len PyProof.Rows.Boot.«len» (ag 0#7 av)) aj nm)
 (ai (aO jq)
 au)
 au)
 (ai (bN (DW.dt<|fV (cB<|cw<|rC (kM T) a<|ag (ar 0#7<|aY T.rE rfl) av)<|fV (cB<|cw<|rC (kM T) a<|ag (ar 0#7<|aY T.jK rfl) av)<|bR<|aL (cP a.units) eM (ar 0#7<|aY T.rE rfl) (ar 0#7<|aY T.jK rfl) nm)
 (ai (aO jq)
 au)
 au)
 (ai (bN (DW.dt<|fV (cB<|cw<|c6 ur rfl T.n_isinstance rfl T.n_str PyProof.Rows.Boot.«str» (ar 0#7<|aY T.qC rfl))<|bR<|aL (eK a.units) eL (ar 0#7<|aY T.qC rfl) (aY T.zr rfl) rfl)
 (ai (aO jq)
 au)
 au)
 (ai (aO<|l6 (rC (oj T) a<|ag (ar 0#7<|aY T.vH rfl) av)<|kW<|rC (An T) a<|ag (ar 0#7<|aY T.sJ rfl) av)
 au)))))
def rR(T:Txt K mg t):gF P w K mg base CX0 5 (t.A 21) (t.Q 21) ["ties","places"] (spD K 2 m_look_at_ties) "look_at_ties" (top 41) :=
 oD T.g sc (i:=21) rfl λ_ _ _ _ _ _ _ a=>(
 (ai (bN (DW.dt<|fV (cB<|cw<|c6 ik rfl T.n_isinstance rfl T.n_list PyProof.Rows.Boot.«list» 0#7)<|bR<|aL tV (c4 λ_ _ _ _=>rb _) (aT bO cY rfl T.n_len PyProof.Rows.Boot.«len» (ag 0#7 av)) (aY T.mf rfl) nm)
 (ai dN
 au)
 au)
 (ai (jJ Vj rfl (gW rfl T.n_enumerate 0#7) (gP rfl (bu (i:=2) (nd 21) rfl 0#5 (bu (i:=3) (nd 21) rfl 0#5 eX))) fw
 (ai (bN (DW.dt<|fV (cB<|cw<|rC (E6 T) a<|ag 3#7 av)<|fV (aL (eK a.units) eL (ar 3#7<|aY T.rE rfl) 1#7 rfl)<|bR<|aL (eK a.units) eL (ar 3#7<|aY T.jK rfl) 1#7 rfl)
 (ai dN
 au)
 au)
 au))
 au)))
def qT(T:Txt K mg t):gF P w K mg base CX0 2 (t.A 22) (t.Q 22) ["thing","places"] (spD K 2 m_is_place) "is_place" (top 42) :=
 oD T.g sc (i:=22) rfl λ_ _ _ _ _ _ _ a=>(
 (ai (aO<|l6 (rC (kM T) a<|ag 0#7 av)<|kW<|fq (qS a.units) qU 0#7 1#7 rfl)
 au))
def jf(T:Txt K mg t):gF P w K mg base CX0 6 (t.A 23) (t.Q 23) ["thing"] (spD K 1 m_look_at_web) "look_at_web" (top 39) :=
 oD T.g sc (i:=23) rfl λ_ _ _ _ _ _ _ a=>(
 (ai (bN (DW.dt<|fV (cB<|cw<|c6 kO rfl T.n_isinstance rfl T.n_tuple PyProof.Rows.Boot.«tuple» 0#7)<|bR<|aL (gw a.units) jF (aT bO cY rfl T.n_len PyProof.Rows.Boot.«len» (ag 0#7 av)) aj nm)
 (ai dN
 au)
 au)
 (ai (gC<|rC (oi T) a<|ag (ar 0#7<|aY T.iy rfl) av)
 (ai (gC<|rC (rR T) a<|ag (ar 0#7<|aY T.jW rfl)<|ag (ar 0#7<|aY T.iy rfl) av)
 (ai (bN (cB<|cw<|rC (qT T) a<|ag (ar 0#7<|aY T.k9 rfl)<|ag (ar 0#7<|aY T.iy rfl) av)
 (ai dN
 au)
 au)
 (ai (bN (DW.dt<|fV (cB<|cw<|rC (qT T) a<|ag (ar 0#7<|aY T.qE rfl)<|ag (ar 0#7<|aY T.iy rfl) av)<|bR<|aL (cP a.units) eM (ar 0#7<|aY T.qE rfl) (ar 0#7<|aY T.k9 rfl) nm)
 (ai dN
 au)
 au)
 au))))))
def tX(T:Txt K mg t):gF P w K mg base CX0 4 (t.A 24) (t.Q 24) ["web","thing"] (spD K 2 m_has_lengths) "has_lengths" (top 38) :=
 oD T.g sc (i:=24) rfl λ_ _ _ _ H _ _ a=>(
 (ai (bN (DW.dt<|fV (cB<|cw<|c6 ik rfl T.n_isinstance rfl T.n_list PyProof.Rows.Boot.«list» 1#7)<|bR<|aL (gw a.units) jF (aT bO cY rfl T.n_len PyProof.Rows.Boot.«len» (ag 1#7 av)) (aT bO cY rfl T.n_len PyProof.Rows.Boot.«len» (ag (ar 0#7<|aY T.jW rfl) av)) nm)
 (ai (aO jq)
 au)
 au)
 (ai (aO<|aT (BD rfl) Jp rfl T.n_all PyProof.Rows.Boot.«all» (ag (lp<|lu ["one"] 1 [] rfl (fH<|dv 1) (da<|by decide) (λs H C d c=>⟨λe b=>(cj (i:=0) (show VP (["one"]:bv) from by decide) rfl 0#5),fZ,(rC (oj T) a<|ag 0#7 av)⟩) ⟨rfl,rfl⟩ rfl rfl rfl rfl) av))
 au)))
def ka(T:Txt K mg t):gF P w K mg base CX0 7 (t.A 25) (t.Q 25) ["web","thing"] (spD K 2 m_look_at_rooms) "look_at_rooms" (top 50) :=
 oD T.g sc (i:=25) rfl λ_ _ _ _ _ _ _ a=>(
 (ai (gC<|rC (jf T) a<|ag 0#7 av)
 (ai (bN (cB<|cw<|rC (tX T) a<|ag 0#7<|ag 1#7 av)
 (ai dN
 au)
 au)
 au)))
def qk(T:Txt K mg t):gF P w K mg base CX0 2 (t.A 26) (t.Q 26) ["web","thing"] (spD K 2 m_is_tie_number) "is_tie_number" (top 37) :=
 oD T.g sc (i:=26) rfl λ_ _ _ _ _ _ _ a=>(
 (ai (aO<|l6 (rC (ig T) a<|ag 1#7 av)<|kW<|Jj xm Al (i4 λ_ _ _ _=>rb _) (i4 λ_ _ _ _=>rb _) i5 i5 aj 1#7<|aT bO cY rfl T.n_len PyProof.Rows.Boot.«len» (ag (ar 0#7<|aY T.jW rfl) av))
 au))
def jE(T:Txt K mg t):gF P w K mg base CX0 7 (t.A 27) (t.Q 27) ["web","thing"] (spD K 2 m_look_at_taking) "look_at_taking" (top 48) :=
 oD T.g sc (i:=27) rfl λ_ _ _ _ _ _ _ a=>(
 (ai (gC<|rC (jf T) a<|ag 0#7 av)
 (ai (bN (cB<|cw<|c6 ik rfl T.n_isinstance rfl T.n_list PyProof.Rows.Boot.«list» 1#7)
 (ai dN
 au)
 au)
 (ai (aJ (i:=2) (nd 27) rfl 0#5 (qv aj))
 (ai (kT Vj rfl 1#7 (cj (i:=3) (nd 27) rfl 0#5) dH
 (ai (bN (DW.dt<|fV (cB<|cw<|rC (qk T) a<|ag 0#7<|ag 3#7 av)<|bR<|aL xm (c4 λ_ _ _ _=>rb _) 3#7 2#7 nm)
 (ai dN
 au)
 au)
 (ai (bN (aL Cq Cv (ar (ar (ar 0#7<|aY T.jW rfl)<|dv 3)<|aY T.sJ rfl) kX nm)
 (ai dN
 au)
 au)
 (ai (aJ (i:=2) (nd 27) rfl 0#5 3#7)
 au))))
 au)))))
def qj(T:Txt K mg t):gF P w K mg base CX0 2 (t.A 28) (t.Q 28) ["some"] (spD K 1 m_shared_bottom) "shared_bottom" (top 45) :=
 oD T.g sc (i:=28) rfl λ_ _ _ _ _ _ _ a=>(
 (ai (aJ (i:=1) (nd 28) rfl 0#5 aj)
 (ai (kT Vj rfl 0#7 (cj (i:=2) (nd 28) rfl 0#5) dH
 (ai (aJ (i:=1) (nd 28) rfl 0#5 (cQ (l5 1#7<|rC (gz T) a<|ag 1#7<|ag (ar 2#7 aj) av)<|ar 2#7 aj))
 au))
 (ai (aO<|dv 1)
 au))))
def Ao(T:Txt K mg t):gF P w K mg base CX0 1 (t.A 29) (t.Q 29) ["one","bottom"] (spD K 2 m_as_whole) "as_whole" (top 46) :=
 oD T.g sc (i:=29) rfl λ_ _ _ _ _ _ _ _=>(
 (ai (aO<|cQ (ar 0#7 aj)<|l5 1#7<|ar 0#7 aj)
 au))
def iG(T:Txt K mg t):gF P w K mg base CX0 3 (t.A 30) (t.Q 30) ["some"] (spD K 1 m_on_one_scale) "on_one_scale" (top 44) :=
 oD T.g sc (i:=30) rfl λ_ _ _ _ H _ _ a=>(
 (ai (aJ (i:=1) (nd 30) rfl (XI rfl) (rC (qj T) a<|ag (lp<|lu ["one"] 1 [] rfl (fH<|dv 0) (da<|by decide) (λs H C d c=>⟨λe b=>(cj (i:=0) (show VP (["one"]:bv) from by decide) rfl 0#5),(mU<|aL yH yR 0#7 kX nm),0#7⟩) ⟨rfl,rfl⟩ rfl rfl rfl rfl) av))
 (ai (aO<|eE<|ag (lp<|lu ["one","bottom"] 1 [1] rfl (fH<|dv 0) (da<|by decide) (λs H C d c=>⟨λe b=>(cj (i:=0) (show VP (["one","bottom"]:bv) from by decide) rfl 0#5),fZ,(pI (aL Cq Cv 0#7 kX nm) kX<|rC (Ao T) a<|ag 0#7<|ag 1#7 av)⟩) ⟨rfl,rfl⟩ rfl rfl rfl rfl)<|ag 1#7 av)
 au)))
def ll(T:Txt K mg t):gF P w K mg base CX0 1 (t.A 31) (t.Q 31) ["turns","first"] (spD K 2 m_fewest_turns) "fewest_turns" (top 61) :=
 oD T.g sc (i:=31) rfl λ_ _ _ _ _ _ _ a=>(
 (ai (LD (i:=2) (nd 31) rfl 0#5 (FF 1#7<|cq av))
 (ai (kS (i:=3) (nd 31) rfl 0#5 (jo<|ag 1#7 av))
 (ai (km _ Vj (aL (gw a.units) jF 3#7 (cq av) nm)
 (ai (Bu (i:=4) (j:=3) (nd 31) rfl 0#5 rfl 0#5 aj)
 (ai (kT Vj rfl 0#7 (cj (i:=5) (nd 31) rfl 0#5) dH
 (ai (bN (DW.dt<|gO (aL (cP a.units) eM (jT<|dv 5) 4#7 nm)<|dD<|aL (E5<|un1 a.units) E9 (jT<|dv 5) 2#7 rfl)
 (ai (IZ (i:=2) (un1 a.units) rfl 0#5 (zj (zk (un1 a.units) 2#7<|dv 4)<|cq<|ag 5#7 av) (jT<|dv 5))
 (ai (dO (i:=3) rfl 0#5 (jT<|dv 5))
 au))
 au)
 au))
 au)))
 (ai (aO<|dv 2)
 au)))))
def wj(T:Txt K mg t):gF P w K mg base CX0 1 (t.A 32) (t.Q 32) ["amounts","turns","more"] (spD K 3 m_sent_along) "sent_along" (top 63) :=
 oD T.g sc (i:=32) rfl λ_ _ _ _ _ _ _ _=>(
 (ai (kS (i:=3) (nd 32) rfl 0#5 (LG rfl T.n_list (ag 0#7 av)))
 (ai (kT Vj rfl 1#7 (cj (i:=4) (nd 32) rfl 0#5) dH
 (ai (zh (i:=3) rfl 0#5 (bI (ar 3#7<|jT<|dv 4)<|cQ (jT<|dv 4)<|dv 2) (jT<|dv 4))
 au))
 (ai (aO<|dv 3)
 au))))
def wm(T:Txt K mg t):gF P w K mg base CX0 1 (t.A 33) (t.Q 33) ["turns"] (spD K 1 m_least_room) "least_room" (top 62) :=
 oD T.g sc (i:=33) rfl λ_ _ _ _ H _ _ _=>(
 (ai (aO<|aT (xM rfl) Eh rfl T.n_min PyProof.Rows.Boot.«min» (ag (lp<|lu ["turn"] 1 [] rfl (fH<|dv 0) (da<|by decide) (λs H C c b=>⟨λd a=>(cj (i:=0) (show VP (["turn"]:bv) from by decide) rfl 0#5),(mU<|aL yH yR (jT<|dv 0) kX nm),(jT<|dv 0)⟩) ⟨rfl,rfl⟩ rfl rfl rfl rfl) av))
 au))
def wg(T:Txt K mg t):gF P w K mg base CX0 3 (t.A 34) (t.Q 34) ["web","rooms","taken","amounts"] (spD K 4 m_turns_left) "turns_left" (top 66) :=
 oD T.g sc (i:=34) rfl λ_ _ _ _ H _ _ a=>(
 (ai (kS (i:=4) (nd 34) rfl 0#5 (jo av))
 (ai (jJ Vj rfl (gW rfl T.n_enumerate (ar 0#7<|aY T.jW rfl)) (gP rfl (bu (i:=5) (nd 34) rfl 0#5 (bu (i:=6) (nd 34) rfl 0#5 eX))) fw
 (ai (bN (aL (eK a.units) eL 5#7 2#7 rfl)
 (ai (aJ (i:=7) (nd 34) rfl 0#5 (pI (aL (cP a.units) eM (ar 6#7<|aY T.qC rfl) l4 nm) (ar 3#7<|dv 5)<|bI (ar 1#7<|dv 5)<|ar 3#7<|dv 5))
 (ai (dO (i:=4) rfl 0#5 (Ji T.DV ((xB T).mono (by decide:1<=1)) a rfl T.D3 T.sr.ns T.sN T.sr.recC Aj (ag 5#7<|ag aj<|ag (ar 6#7<|aY T.rE rfl)<|ag (ar 6#7<|aY T.jK rfl)<|ag aj<|ag (nO (ar 1#7<|dv 5)<|ar 3#7<|dv 5) av)))
 (ai (dO (i:=4) rfl 0#5 (Ji T.DV ((xB T).mono (by decide:1<=1)) a rfl T.D3 T.sr.ns T.sN T.sr.recC Aj (ag 5#7<|ag (qv aj)<|ag (ar 6#7<|aY T.jK rfl)<|ag (ar 6#7<|aY T.rE rfl)<|ag aj<|ag 7#7 av)))
 au)))
 au)
 au))
 (ai (aO<|lp<|lu ["turn"] 1 [] rfl (fH<|dv 4) (da<|by decide) (λs H C d c=>⟨λe b=>(cj (i:=0) (show VP (["turn"]:bv) from by decide) rfl 0#5),(mU<|aL tV (c4 λ_ _ _ _=>rb _) (jT<|dv 0) aj nm),0#7⟩) ⟨rfl,rfl⟩ rfl rfl rfl rfl)
 au))))
def we(T:Txt K mg t):nU P w K mg base CX0 4 (uq "most_flow") iR :=
 yV (k:=3) T.lm_most_flow.lk yU (λ_ _ _ _ d c=>by obtain⟨_,rfl⟩:=SE c;rfl) λf e a A outer s H b=>(
 (rC (wg T) b<|ag 1#7<|ag (ar 3#7 aj)<|ag 2#7<|ag 0#7 av))
def uc(T:Txt K mg t):lj P w K mg base CX0 4 lt_filled:=(Ff ((we T).mono<|by decide) Ik)
def E7(T:Txt K mg t):gF P w K mg base CX0 5 (t.A 35) (t.Q 35) ["turns_with","amounts","first","last"] (spD K 4 m_filled) "filled" (top 60) :=
 oD T.g sc (i:=35) rfl λ_ _ _ _ _ _ _ a=>(
 (ai (aJ (i:=4) (nd 35) rfl 0#5 (rC (ll T) a<|ag (Bx (uc T) a rfl 0#5 (ag 1#7 av))<|ag 2#7 av))
 (ai (km _ Vj (aL (HS<|un1 a.units) HV 3#7 4#7 rfl)
 (ai (aJ (i:=1) (nd 35) rfl 0#5 (rC (wj T) a<|ag 1#7<|ag (zk (un1 a.units) 4#7<|dv 3)<|ag (rC (wm T) a<|ag (zk (un1 a.units) 4#7<|dv 3) av) av))
 (ai (aJ (i:=4) (nd 35) rfl 0#5 (rC (ll T) a<|ag (Bx (uc T) a rfl 0#5 (ag 1#7 av))<|ag 2#7 av))
 au)))
 (ai (aO<|eE<|ag 1#7<|ag 4#7 av)
 au))))
def Am(T:Txt K mg t):gF P w K mg base CX0 2 (t.A 36) (t.Q 36) ["top","bottom"] (spD K 2 m_ratio) "ratio" (top 18) :=
 oD T.g sc (i:=36) rfl λ_ _ _ _ _ _ _ a=>(
 (ai (bN (DW.dt<|fV (cB<|cw<|rC (ig T) a<|ag 0#7 av)<|bR<|cB<|cw<|rC (ig T) a<|ag 1#7 av)
 (ai dN
 au)
 au)
 (ai (bN (aL (cP a.units) eM 1#7 aj nm)
 (ai dN
 au)
 au)
 (ai (aJ (i:=2) (nd 36) rfl 0#5 (rC (gz T) a<|ag 0#7<|ag 1#7 av))
 (ai (bN (aL Al (c4 λ_ _ _ _=>rb _) 1#7 aj nm)
 (ai (aJ (i:=2) (nd 36) rfl 0#5 (qv<|dv 2))
 au)
 au)
 (ai (aO<|eE<|ag (l5 0#7<|dv 2)<|ag (l5 1#7<|dv 2) av)
 au))))))
def yK(T:Txt K mg t):gF P w K mg base CX0 8 (t.A 37) (t.Q 37) ["web","rooms","taking"] (spD K 3 m_most_flow) "most_flow" (top 65) :=
 T6 T.g sc (i:=37) rfl λ_ b _ _ _ H _ _ a=>(
 (ai (gC<|rC (ka T) a<|ag 0#7<|ag 1#7 av)
 (ai (gC<|rC (jE T) a<|ag 0#7<|ag 2#7 av)
 (ai (aJ (i:=3) (nd 37) rfl (XI rfl) (rC (iG T) a<|ag 1#7 av))
 (ai (pH (i:=4) (nd 37) rfl rfl ja (lu ["room"] 1 [] rfl (fH<|dv 1) (da<|by decide) (λs H C e d=>⟨λf c=>(cj (i:=0) (show VP (["room"]:bv) from by decide) rfl 0#5),fZ,aj⟩) ⟨rfl,rfl⟩ rfl rfl rfl rfl))
 (ai (aJ (i:=5) (nd 37) rfl (XI rfl) (Jl (E7 T) a T.lm_most_flow LX (L9 (F:=iT) T.lm_most_flow b<|ag 4#7<|ag (ar 0#7<|aY T.k9 rfl)<|ag (ar 0#7<|aY T.qE rfl) av)<|Pe<|Pe<|Pe Uj))
 (ai (pH (i:=6) (nd 37) rfl rfl ja (lu ["place","found"] 1 [5] rfl (fH<|ar 0#7<|aY T.iy rfl) (da<|by decide) (λs H C e d=>⟨λf c=>(cj (i:=0) (show VP (["place","found"]:bv) from by decide) rfl 0#5),(mU<|aL (HS<|un1 a.units) HV 0#7 (ar 1#7 aj) rfl),0#7⟩) ⟨rfl,rfl⟩ rfl rfl rfl rfl))
 (ai (aO<|eE<|ag (lp<|lu ["amount","scaled"] 1 [3] rfl (fH<|ar 5#7 aj) (da<|by decide) (λs H C e d=>⟨λf c=>(cj (i:=0) (show VP (["amount","scaled"]:bv) from by decide) rfl 0#5),fZ,(rC (Am T) a<|ag 0#7<|ag (ar 1#7 aj) av)⟩) ⟨rfl,rfl⟩ rfl rfl rfl rfl)<|ag 6#7 av)
 au))))))))
def Cu(T:Txt K mg t):gF P w K mg base CX0 1 (t.A 38) (t.Q 38) ["one","other"] (spD K 2 m_is_less) "is_less" (top 19) :=
 oD T.g sc (i:=38) rfl λ_ _ _ _ _ _ _ _=>(
 (ai (aO<|fq Al (c4 λ_ _ _ _=>rb _) (cQ (ar 0#7 aj)<|ar 1#7 aj) (cQ (ar 1#7 aj)<|ar 0#7 aj) nm)
 au))
def yL(T:Txt K mg t):gF P w K mg base CX0 3 (t.A 39) (t.Q 39) ["tie","room","thing"] (spD K 3 m_is_amount) "is_amount" (top 53) :=
 oD T.g sc (i:=39) rfl λ_ _ _ _ _ _ _ a=>(
 (ai (bN (DW.dt<|fV (cB<|cw<|rC (lI T) a<|ag 2#7 av)<|bR<|DW.dt<|gO (aL Al (c4 λ_ _ _ _=>rb _) (ar 2#7 aj) aj nm)<|dD<|aL (cP a.units) eM (ar 0#7<|aY T.qC rfl) l4 nm)
 (ai (aO jq)
 au)
 au)
 (ai (aO<|Jh<|rC (Cu T) a<|ag 1#7<|ag (eE<|ag (aT ku qB rfl T.n_abs PyProof.Rows.Boot.«abs» (ag (ar 2#7 aj) av))<|ag (ar 2#7 aj) av) av)
 au)))
def nE(T:Txt K mg t):gF P w K mg base (p0 P w) 4 (t.A 40) (t.Q 40) ["web","rooms","taken","thing"] (spD K 4 bH) "look_at_amounts" (top 52) :=
 oE T.g sc (i:=40) rfl λ_ _ _ _ _ _ _ a=>(
 (ai (bN (DW.dt<|fV (cB<|cw<|c6 ik rfl T.n_isinstance rfl T.n_list PyProof.Rows.Boot.«list» 3#7)<|bR<|aL (gw a.units) jF (aT bO cY rfl T.n_len PyProof.Rows.Boot.«len» (ag 3#7 av)) (aT bO cY rfl T.n_len PyProof.Rows.Boot.«len» (ag (ar 0#7<|aY T.jW rfl) av)) nm)
 (ai (qp T.zP.xc T.gs.xi T.gs.xs T.gs.xf ((q9 T).mono (by decide:1<=2)) T.gs.bi 0#1 0#1 a T.uA a.hd rfl (ag kX av))
 au)
 au)
 (ai (jJ PassesOwn.leaving rfl (gW rfl T.n_enumerate 3#7) (gP rfl (bu (i:=4) (nd 40) rfl 0#5 (bu (i:=5) (nd 40) rfl 0#5 eX))) fw
 (ai (aJ (i:=6) (nd 40) rfl 0#5 (pI (aL (qS a.units) qU 4#7 2#7 rfl) (aY T.vG rfl)<|ar 1#7<|dv 4))
 (ai (bN (cB<|cw<|rC (yL T) a<|ag (ar (ar 0#7<|aY T.jW rfl)<|dv 4)<|ag 6#7<|ag 5#7 av)
 (ai (qp T.zP.xc T.gs.xi T.gs.xs T.gs.xf ((q9 T).mono (by decide:1<=2)) T.gs.bi 0#1 0#1 a T.uA a.hd rfl (ag 4#7 av))
 au)
 au)
 au)))
 au)))
def om(T:Txt K mg t):gF P w K mg base CX0 1 (t.A 41) (t.Q 41) ["web","sizes","place"] (spD K 3 m_goes_from) "goes_from" (top 56) :=
 oD T.g sc (i:=41) rfl λ_ _ _ _ _ _ _ a=>(
 (ai (aJ (i:=3) (nd 41) rfl 0#5 aj)
 (ai (jJ Vj rfl (OZ rfl T.n_zip (ar 0#7<|aY T.jW rfl) 1#7) (gP rfl (bu (i:=4) (nd 41) rfl 0#5 (bu (i:=5) (nd 41) rfl 0#5 eX))) fw
 (ai (bN (aL (cP a.units) eM (ar 4#7<|aY T.rE rfl) 2#7 nm)
 (ai (aJ (i:=3) (nd 41) rfl 0#5 (bI 3#7<|dv 5))
 au)
 au)
 (ai (bN (aL (cP a.units) eM (ar 4#7<|aY T.jK rfl) 2#7 nm)
 (ai (aJ (i:=3) (nd 41) rfl 0#5 (nO 3#7<|dv 5))
 au)
 au)
 au)))
 (ai (aO<|dv 3)
 au))))
def tW(T:Txt K mg t):gF P w K mg base CX0 2 (t.A 42) (t.Q 42) ["web","sizes","place"] (spD K 3 m_is_balanced) "is_balanced" (top 55) :=
 oD T.g sc (i:=42) rfl λ_ _ _ _ _ _ _ a=>(
 (ai (aJ (i:=3) (nd 42) rfl 0#5 (rC (om T) a<|ag 0#7<|ag 1#7<|ag 2#7 av))
 (ai (aO<|pI (aL (cP a.units) eM 2#7 (ar 0#7<|aY T.k9 rfl) nm) (fq DN (c4 λ_ _ _ _=>rb _) 3#7 aj nm)<|fq (cP a.units) eM 3#7 aj nm)
 au)))
def nD(T:Txt K mg t):gF P w K mg base (p0 P w) 4 (t.A 43) (t.Q 43) ["web","flow"] (spD K 2 bG) "look_at_balance" (top 54) :=
 oE T.g sc (i:=43) rfl λ_ _ _ _ _ _ _ a=>(
 (ai (aJ (i:=2) (nd 43) rfl 0#5 (ar (rC (iG T) a<|ag 1#7 av) aj))
 (ai (kT PassesOwn.leaving rfl (ar 0#7<|aY T.iy rfl) (cj (i:=3) (nd 43) rfl 0#5) dH
 (ai (bN (DW.dt<|gO (aL (gw a.units) jF 3#7 (ar 0#7<|aY T.qE rfl) nm)<|dD<|cB<|cw<|rC (tW T) a<|ag 0#7<|ag 2#7<|ag 3#7 av)
 (ai (qp T.yg.xc T.gr.xi T.gr.xs T.gr.xf ((rV T).mono (by decide:1<=2)) T.gr.bi 0#1 0#1 a T.oA a.hd rfl (ag 3#7 av))
 au)
 au)
 au))
 au)))
def rS(T:Txt K mg t):gF P w K mg base (p0 P w) 8 (t.A 44) (t.Q 44) ["web","rooms","taking","thing"] (spD K 4 m_look_at_flow) "look_at_flow" (top 51) :=
 oE T.g sc (i:=44) rfl λ_ _ _ _ _ _ _ a=>(
 (ai (gC<|rC (ka T) a<|ag 0#7<|ag 1#7 av)
 (ai (gC<|rC (jE T) a<|ag 0#7<|ag 2#7 av)
 (ai (gC<|rC (nE T) a<|ag 0#7<|ag 1#7<|ag 2#7<|ag 3#7 av)
 (ai (gC<|rC (nD T) a<|ag 0#7<|ag 3#7 av)
 au)))))
def jg(T:Txt K mg t):gF P w K mg base CX0 9 (t.A 45) (t.Q 45) ["_law_web_here","_law_rooms_here","_law_taking","_law_flow"] (spD K 4 cf) "_law_let_by" (top 86) :=
 oD T.g sc (i:=45) rfl λ_ _ _ _ _ _ _ a=>(
 (ai (IY ⟨rfl,rfl⟩ (rD (rS T) a<|ag 0#7<|ag 1#7<|ag 2#7<|ag 3#7 av) rfl T.uA (wy T) (wx T) rfl T.oA (oz T) (λb=>(ai (aO jq)
 au)) (λb=>(ai (aO jq)
 au)))
 (ai (aO jq)
 au)))
def Ar(T:Txt K mg t):gF P w K mg base CX0 1 (t.A 46) (t.Q 46) ["_law_web_here","_law_taken","_law_d"] (spD K 3 jj) "_law_way" (top 77) :=
 oD T.g sc (i:=46) rfl λ_ _ _ _ _ _ _ a=>(
 (ai (aJ (i:=3) (nd 46) rfl 0#5 (ar 0#7 aj))
 (ai (kS (i:=4) (nd 46) rfl 0#5 (jo<|ag 3#7 av))
 (ai (kS (i:=5) (nd 46) rfl 0#5 (jo av))
 (ai (km _ Vj (aL (gw a.units) jF 3#7 (ar 0#7 aj) nm)
 (ai (kS (i:=6) (nd 46) rfl 0#5 (jo av))
 (ai (jJ Vj rfl (gW rfl T.n_enumerate (ar 0#7 aj)) (gP rfl (bu (i:=7) (nd 46) rfl 0#5 (bu (i:=8) (nd 46) rfl 0#5 eX))) fw
 (ai (bN (DW.dt<|gO (aL (eK a.units) eL 7#7 1#7 rfl)<|gO (aL (cP a.units) eM (ar 8#7 aj) 3#7 nm)<|dD<|aL (eK a.units) eL (ar 8#7 aj) 4#7 rfl)
 (ai (dO (i:=6) rfl 0#5 (eE<|ag 7#7<|ag aj<|ag (ar 8#7 aj) av))
 au)
 au)
 (ai (bN (DW.dt<|gO (aL (eK a.units) eL 7#7 1#7 rfl)<|gO (aL (cP a.units) eM (ar 8#7 aj) l4 nm)<|gO (aL (cP a.units) eM (ar 8#7 aj) 3#7 nm)<|dD<|aL (eK a.units) eL (ar 8#7 aj) 4#7 rfl)
 (ai (dO (i:=6) rfl 0#5 (eE<|ag 7#7<|ag (qv aj)<|ag (ar 8#7 aj) av))
 au)
 au)
 au)))
 (ai (Jb 6 (bN (aL (cP a.units) eM 6#7 (cq av) nm)
 (ai (aO<|cq av)
 au)
 au))
 (ai (Jb 6<|LB rfl (ar 6#7<|cR (ar 2#7<|aT bO cY rfl T.n_len PyProof.Rows.Boot.«len» (ag 5#7 av))<|aT bO cY rfl T.n_len PyProof.Rows.Boot.«len» (ag 6#7 av)) (bu (i:=7) (nd 46) rfl 0#5 (bu (i:=9) (nd 46) rfl 0#5 (bu (i:=3) (nd 46) rfl 0#5 eX))))
 (ai (dO (i:=5) rfl 0#5 (eE<|ag 7#7<|ag 9#7 av))
 (ai (dO (i:=4) rfl 0#5 3#7)
 au)))))))
 (ai (aO<|dv 5)
 au))))))
def iP(T:Txt K mg t):gF P w K mg base CX0 2 (t.A 47) (t.Q 47) ["_law_one","_law_other","_law_sign"] (spD K 3 aR) "_law_plus" (top 76) :=
 oD T.g sc (i:=47) rfl λ_ _ _ _ _ _ _ a=>(
 (ai (aO<|rC (lJ T) a<|ag (bI (cQ (ar 0#7 aj)<|ar 1#7 aj)<|cQ (cQ 2#7<|ar 1#7 aj)<|ar 0#7 aj)<|ag (cQ (ar 0#7 aj)<|ar 1#7 aj) av)
 au))
def yN(T:Txt K mg t):gF P w K mg base CX0 3 (t.A 48) (t.Q 48) ["_law_web_here","_law_rooms_here","_law_taking","_law_cell"] (spD K 4 ij) "_law_list" (top 85) :=
 oD T.g sc (i:=48) rfl λ_ _ _ _ H _ _ a=>(
 (ai (aJ (i:=4) (nd 48) rfl 0#5 (rC (eR T) a<|ag 3#7<|ag (bI (qt (zj (qt (jo<|ag aj av) aj)<|cq<|ag aj<|ag (nQ aj aj)<|ag aj<|ag aj av) aj)<|cq<|ag aj<|ag aj<|ag aj av) av))
 (ai (LF (i:=5) (nd 48) rfl rfl (lu ["_law_tie_here"] 1 [] rfl (fH<|ar 0#7 aj) (da<|by decide) (λs H C d c=>⟨λe b=>(cj (i:=0) (show VP (["_law_tie_here"]:bv) from by decide) rfl 0#5),fZ,(eE<|ag aj<|ag aj av)⟩) ⟨rfl,rfl⟩ rfl rfl rfl rfl))
 (ai (zi Vj rfl rfl T.n_range aj (cj (i:=6) (nd 48) rfl 0#5) dH
 (ai (aJ (i:=7) (nd 48) rfl 0#5 (cO 4#7 (cI<|cQ aj<|dv 6)<|cI<|bI (cQ aj<|dv 6) aj))
 (ai (aJ (i:=8) (nd 48) rfl 0#5 (rC (Ar T) a<|ag 0#7<|ag (ar (cq<|ag 2#7<|ag (cq av) av)<|Jk FO Pa rfl T.n_int PyProof.Rows.Boot.«int» (ag (fq (cP a.units) eM (ar 7#7 aj) aj nm) av))<|ag 7#7 av))
 (ai (bN (aL (cP a.units) eM (ar 4#7 aj) aj nm)
 (ai (aJ (i:=8) (nd 48) rfl 0#5 (cO 8#7 kU<|cI<|bI aj<|cR (ar 4#7 aj) aj))
 au)
 au)
 (ai (aJ (i:=9) (nd 48) rfl 0#5 (rC (fz T) a<|ag (cO 7#7 (cI aj)<|cI aj) av))
 (ai (bN (DW.dt<|gO (aL tV (c4 λ_ _ _ _=>rb _) (ar 7#7 aj) aj nm)<|dD<|aL (gw a.units) jF 8#7 (cq av) nm)
 (ai (aJ (i:=10) (nd 48) rfl 0#5 (ar 1#7<|ar (ar 8#7<|cR (ar 7#7 aj)<|aT bO cY rfl T.n_len PyProof.Rows.Boot.«len» (ag 8#7 av)) aj))
 (ai (aJ (i:=9) (nd 48) rfl 0#5 (rC (lJ T) a<|ag (ar 10#7 aj)<|ag (cQ (ar 10#7 aj)<|bI aj<|cR (ar 7#7 aj) aj) av))
 au))
 au)
 (ai (kT Vj rfl 8#7 (gP rfl (bu (i:=11) (nd 48) rfl 0#5 (bu (i:=12) (nd 48) rfl 0#5 eX))) fw
 (ai (zh (i:=5) rfl 0#5 (rC (iP T) a<|ag (ar 5#7<|dv 11)<|ag 9#7<|ag 12#7 av) 11#7)
 au))
 au)))))))
 (ai (bN (DW.dt<|gO (aL (cP a.units) eM (ar 4#7 aj) aj nm)<|dD<|aL (gw a.units) jF 5#7 (cq av) nm)
 (ai (Ec (i:=11) (nd 48) rfl 0#5 (cR (ar 4#7 aj)<|aT bO cY rfl T.n_len PyProof.Rows.Boot.«len» (ag 5#7 av)))
 (ai (zh (i:=5) rfl 0#5 (rC (iP T) a<|ag (ar 5#7<|dv 11)<|ag (eE<|ag aj<|ag (bI aj<|ar 4#7 aj) av)<|ag (nO aj<|cQ aj<|ar 4#7 aj) av) 11#7)
 au))
 au)
 (ai (aO<|dv 5)
 au))))))
def nj(T:Txt K mg t):gF P w K mg base CX0 3 (t.A 49) (t.Q 49) ["_law_web_here","_law_flow","_law_place"] (spD K 3 cA) "_law_going" (top 78) :=
 oD T.g sc (i:=49) rfl λ_ _ _ _ _ _ _ a=>(
 (ai (aJ (i:=3) (nd 49) rfl 0#5 (eE<|ag aj<|ag aj av))
 (ai (jJ Vj rfl (gW rfl T.n_enumerate (ar 0#7 aj)) (gP rfl (bu (i:=4) (nd 49) rfl 0#5 (bu (i:=5) (nd 49) rfl 0#5 eX))) fw
 (ai (bN (aL (cP a.units) eM (ar 5#7 aj) 2#7 nm)
 (ai (aJ (i:=3) (nd 49) rfl 0#5 (rC (iP T) a<|ag 3#7<|ag (ar 1#7<|dv 4)<|ag aj av))
 au)
 au)
 (ai (bN (aL (cP a.units) eM (ar 5#7 aj) 2#7 nm)
 (ai (aJ (i:=3) (nd 49) rfl 0#5 (rC (iP T) a<|ag 3#7<|ag (ar 1#7<|dv 4)<|ag (qv aj) av))
 au)
 au)
 au)))
 (ai (aO<|dv 3)
 au))))
def yM(T:Txt K mg t):gF P w K mg base CX0 7 (t.A 50) (t.Q 50) ["web","flow"] (spD K 2 fj) "amount_of" (top 57) :=
 oD T.g sc (i:=50) rfl λ_ _ _ _ _ _ _ a=>(
 (ai (gC<|rC (jf T) a<|ag 0#7 av)
 (ai (aJ (i:=2) (nd 50) rfl 0#5 (rC (iG T) a<|ag 1#7 av))
 (ai (aO<|rC (Am T) a<|ag (rC (om T) a<|ag 0#7<|ag (ar 2#7 aj)<|ag (ar 0#7<|aY T.k9 rfl) av)<|ag (ar 2#7 aj) av)
 au))))
def yO(T:Txt K mg t):gF P w K mg base CX0 1 (t.A 51) (t.Q 51) ["_law_one","_law_other"] (spD K 2 dk) "_law_less" (top 79) :=
 oD T.g sc (i:=51) rfl λ_ _ _ _ _ _ _ _=>(
 (ai (aO<|fq Al (c4 λ_ _ _ _=>rb _) (cQ (ar 0#7 aj)<|ar 1#7 aj) (cQ (ar 1#7 aj)<|ar 0#7 aj) nm)
 au))
def ok_law(T:Txt K mg t):gF P w K mg base CX0 10 (t.A 52) (t.Q 52) ["_law_script"] (spD K 1 m_law) "law" (top 87) :=
 oD T.g sc (i:=52) rfl λ_ _ _ _ H _ _ a=>(
 (ai (aJ (i:=1) (nd 52) rfl 0#5 (rC (Aq T) a<|ag 0#7 av))
 (ai (aJ (i:=2) (nd 52) rfl 0#5 (rC (wt T) a<|ag 0#7 av))
 (ai (aJ (i:=3) (nd 52) rfl 0#5 (rC (yQ T) a<|ag 1#7<|ag (ar (rC (eR T) a<|ag (ar (bI (ar (rC (gT T) a<|ag 0#7 av) aj)<|cq<|ag aj av) aj)<|ag (cq<|ag aj av) av) aj) av))
 (ai (aJ (i:=4) (nd 52) rfl 0#5 (rC (nF T) a<|ag 1#7<|ag (rC (yP T) a<|ag 2#7 av)<|ag 3#7 av))
 (ai (aJ (i:=5) (nd 52) rfl 0#5 (ar (rC (yK T) a<|ag 1#7<|ag 2#7<|ag 3#7 av) aj))
 (ai (pH (i:=6) (nd 52) rfl rfl ja (lu ["_law_tie_here"] 1 [] rfl (fH<|ar 1#7 aj) (da<|by decide) (λs H C d c=>⟨λe b=>(cj (i:=0) (show VP (["_law_tie_here"]:bv) from by decide) rfl 0#5),fZ,(eE<|ag aj<|ag aj av)⟩) ⟨rfl,rfl⟩ rfl rfl rfl rfl))
 (ai (bN (DW.dt<|fV (cB<|cw<|rC (jg T) a<|ag 1#7<|ag 2#7<|ag 3#7<|ag 5#7 av)<|bR<|cB<|cw<|rC (jg T) a<|ag 1#7<|ag 2#7<|ag 3#7<|ag 6#7 av)
 (ai (aO jq)
 au)
 au)
 (ai (kT Vj rfl (bI (cO (ar (rC (gT T) a<|ag 0#7 av) aj) (cI aj) kU)<|cq<|ag aj av) (cj (i:=7) (nd 52) rfl 0#5) dH
 (ai (aJ (i:=8) (nd 52) rfl 0#5 (rC (yN T) a<|ag 1#7<|ag 2#7<|ag 3#7<|ag 7#7 av))
 (ai (bN (cw<|rC (jg T) a<|ag 1#7<|ag 2#7<|ag 3#7<|ag 8#7 av)
 (ai (aJ (i:=9) (nd 52) rfl 0#5 (rC (nj T) a<|ag 1#7<|ag 8#7<|ag (ar 1#7 aj) av))
 (ai (bN (DW.dt<|fV (aL tV (c4 λ_ _ _ _=>rb _) (cQ (ar 9#7 aj) aj) (cQ 4#7<|ar 9#7 aj) nm)<|bR<|aL (gw a.units) jF (rC (yM T) a<|ag 1#7<|ag 8#7 av) 9#7 nm)
 (ai (aO jq)
 au)
 au)
 (ai (bN (cw<|rC (yO T) a<|ag (rC (nj T) a<|ag 1#7<|ag 5#7<|ag (ar 1#7 aj) av)<|ag 9#7 av)
 (ai (aO jq)
 au)
 au)
 au)))
 au)
 au)))
 (ai (aO jq)
 au))))))))))
end
def txt_mk{h:UQ}(X:K.In h)(G:h.Ns UU mg)(qs:QAs K rows [a0,a1,a2,a3,a4,a5,a6,a7,a8,a9,c0,cx,cv,cs,cp,co,cn,cl,ck,ch,ce,cd,cc,cb,ca,b9,b8,b7,b6,b5,b4,b3,b2,b1,b0,bx,bt,E,bq,bp,bm,bi,be,bd,bc,bb,ba,as,ap,ah,ab,Y,C])
  
  (Dz:VU K UU "Turn"=W1 (W1<|.ref a)) (Kr:VW K (.ref a) "__init__"=W1 (W1<|.ref J)) (Kq:W.isFn K (.ref J)=VT) (Dy:K.lookup J=W1 ⟨QL,QJ,.func<|Xn "__init__" "Turn.__init__" (defArgs mE) (defBody mE) (defScope mE) .none QX Rj Qy Rt Jo Rn,Qf⟩) (Dx:Zp K Jo "Turn.__init__"=VT) (Dw:X0 K (.ref J)=VT) (Kp:W.makesIn K a=VT) (Ko:X0 K (.ref a)=VT) (Hg:YQ K a Str.empty=VT) (Hj:X2 K a=VT) (Hf:Zc K a=VT) (Hd:VW K (.ref a) "__setattr__"=W1 (W1<|.builtin "object.__setattr__")) (Hl:VW K (.ref a) "__class__"=W1 (W1<|.builtin "object.__class__")) (Hk:Ys K (.builtin "object.__class__") "__get__"=W1 (W1<|.builtin "getset_descriptor.__get__")) (G3:ZO K (.builtin "object.__class__")=W1 VT) (Hi:ZW K a (.type "object")=W1 VT) (Hc:Wv K (.ref a) (.type "NoneType")=W1 U9) (G9:Wv K (.ref a) (.type "bool")=W1 U9) (G8:Wv K (.ref a) (.type "int")=W1 U9) (G7:Wv K (.ref a) (.type "str")=W1 U9) (G6:Wv K (.ref a) (.type "tuple")=W1 U9) (G5:Wv K (.ref a) (.type "list")=W1 U9) (G4:Wv K (.ref a) (.type "dict")=W1 U9) (tE:VW K (.ref a) "number"=W1 Wp) (yu:VW K (.ref a) "sign"=W1 Wp) (yx:VW K (.ref a) "here"=W1 Wp) (wb:VW K (.ref a) "there"=W1 Wp) (yy:VW K (.ref a) "cost"=W1 Wp) (yw:VW K (.ref a) "room"=W1 Wp)
  (lx_most_flow:JD K E (uq "most_flow") iT)
  (s:VU K UU "abs"=W1 Wp)
  (q:VU K UU "all"=W1 Wp)
  (g:VU K UU "bool"=W1 Wp)
  (c:VU K UU "enumerate"=W1 Wp)
  (p:VU K UU "int"=W1 Wp)
  (b:VU K UU "isinstance"=W1 Wp)
  (o:VU K UU "len"=W1 Wp)
  (f:VU K UU "list"=W1 Wp)
  (m:VU K UU "min"=W1 Wp)
  (e:VU K UU "range"=W1 Wp)
  (l:VU K UU "str"=W1 Wp)
  (d:VU K UU "tuple"=W1 Wp)
  (j:VU K UU "zip"=W1 Wp)
  (qZ:qH K "CutError" u)
  (I:vQ K "NoFlow" z)
  (L:vQ K "Unbalanced" B)
  (Ew:XQ K "NoFlow.__init__" z u mP qf ["at"])
  (v8:XQ K "Unbalanced.__init__" B u gV jR ["place"])
  (nV:ZY K u [.type "ValueError",.type "Exception",.type "BaseException",.type "object"] "ValueError.__new__"=VT) (ye:W.readsIn K u (.type "type")=VT) (yf:W.findCls K (.ref u) (.type "type") "__init__"=W1 (.val<|.builtin "ValueError.__init__")) (yd:Ys K (.ref u) "__getattribute__"=W1 (W1<|.builtin "type.__getattribute__"))
  (HP:Sb K z [z,B] [VT,U9])
  (yG:Sb K B [z,B] [U9,VT])
  (rO:VU K UU "FEWEST_PLACES"=W1 (W1<|.int 2 F6))
  (JS:VU K UU "FIRST"=W1 (W1<|.int 2 RM))
  (M9:VU K UU "LAST"=W1 (W1<|.int 3 R1))
  (Ge:VU K UU "LENGTH"=W1 (W1<|.int 3 PU))
  (Eu:VU K UU "LETTERS"=W1 (W1<|.str "abcdefghijklmnopqrstuvwxyz" Po))
  (sT:VU K UU "LONGEST_NAME"=W1 (W1<|.int 8 GI))
  (v7:VU K UU "MOST_PLACES"=W1 (W1<|.int 7 JJ))
  (zO:VU K UU "MOST_TIES"=W1 (W1<|.int 14 Mz))
  (Gd:VU K UU "NOUGHT"=W1 (W1<|.ref Ht)) (Gm:K.lookup Ht=W1 HW) (Gs:∃x its n w vs,HW=⟨.type "tuple",x,.seq its n,w⟩/\bo vs its.toList/\its.size<=sizeLine/\∀H,Reps K H [.int 0,.int 1] vs)
  (PD:VU K UU "ONE"=W1 (W1<|.int 0 Tg))
  (JR:VU K UU "OTHER"=W1 (W1<|.int 1 RK))
  (Gb:VU K UU "PLACES"=W1 (W1<|.int 0 PR))
  (M8:VU K UU "TIES"=W1 (W1<|.int 1 R0))
  (M7:VU K UU "WORD"=W1 (W1<|.int 2 RZ))
  (JQ:VU K UU "WORDS"=W1 (W1<|.ref Ks)) (J0:K.lookup Ks=W1 K5) (J6:∃x its n w vs,K5=⟨.type "tuple",x,.seq its n,w⟩/\bo vs its.toList/\its.size<=sizeLine/\∀H,Reps K H [.str "one",.str "both"] vs)
  (JP:VU K UU "WORTH"=W1 (W1<|.int 4 RJ)) :
  ∃t:Adr,Txt K mg t/\t.A 52=C/\∃kV doc pm an U ct,t.Q 52=Xn "law" "law" (defArgs<|top 87) (defBody<|top 87) (defScope<|top 87) .none kV doc pm an U ct:=by
 obtain⟨mO,JB⟩:=Te (ps:=["self","at"]) (λF=>F.binds λ_ _ _ _ _ _ us y=>by obtain⟨_,_,rfl⟩:=RO y;rfl) Ew nV;obtain⟨gU,zC⟩:=Te (ps:=["self","place"]) (λF=>F.binds λ_ _ _ _ _ _ us y=>by obtain⟨_,_,rfl⟩:=RO y;rfl) v8 nV;obtain⟨Q,M⟩:=Mx X G bn qs;have v:=(M 52 _ rfl).2;refine⟨⟨mP,mO,gV,gU,a,J,_,u,z,B,λi=>[a0,a1,a2,a3,a4,a5,a6,a7,a8,a9,c0,cx,cv,cs,cp,co,cn,cl,ck,ch,ce,cd,cc,cb,ca,b9,b8,b7,b6,b5,b4,b3,b2,b1,b0,bx,bt,E,bq,bp,bm,bi,be,bd,bc,bb,ba,as,ap,ah,ab,Y,C].getD i 0,Q⟩,⟨λi r h=>(M i r h).1,Fm (M 37 _ rfl).1.F lx_most_flow,Wh X G s,Wh X G q,Wh X G g,Wh X G c,Wh X G p,Wh X G b,Wh X G o,Wh X G f,Wh X G m,Wh X G e,Wh X G l,Wh X G d,Wh X G j,WI X G Dz,uC Dy Dx Dw,?sN,⟨Kp,Kr,Kq,Ko⟩,Km Dz Hg Hj Hf Hd Hl Hk G3 Hi Hc G9 G8 G7 G6 G5 G4<|noL_cons tE ( noL_cons yu ( noL_cons yx ( noL_cons wb ( noL_cons yy ( noL_cons yw<|noL_nil))))),WI X G qZ.ns,qZ,WI X G I.i.ns,I.i,WI X G L.i.ns,L.i,I,L,JB,zC,⟨ye,yf,yd⟩,(Td I HP<|Td L yG Nb),?iH,?k9,?qE,?vH,?qD,?jt,?jX,?mf,?vG,?rE,?jK,?iy,?jW,?qC,?zr,?sJ⟩,rfl,v⟩
 case sN=>exact(uC (st:=mE) Dy Dx Dw).binds λ_ _ _ _ _ _ us y=>by obtain⟨_,_,_,_,_,_,_,rfl⟩:=T8 y;rfl
 case iH=>exact fG<|WI X G rO
 case k9=>exact fG<|WI X G JS
 case qE=>exact fG<|WI X G M9
 case vH=>exact fG<|WI X G Ge
 case qD=>exact Lj<|WI X G Eu
 case jt=>exact fG<|WI X G sT
 case jX=>exact fG<|WI X G v7
 case mf=>exact fG<|WI X G zO
 case vG=>
  obtain⟨x,its,n,w,vs,rfl,T,O,N⟩:=Gs;exact DX (WI X G Gd) Gm T O N
 case rE=>exact fG<|WI X G PD
 case jK=>exact fG<|WI X G JR
 case iy=>exact fG<|WI X G Gb
 case jW=>exact fG<|WI X G M8
 case qC=>exact fG<|WI X G M7
 case zr=>
  obtain⟨x,its,n,w,vs,rfl,T,O,N⟩:=J6;exact DX (WI X G JQ) J0 T O N
 case sJ=>exact fG<|WI X G JP
def txt_wr{R:Adr->Prop}(h:∃t:Adr,Txt K b t/\t.A 52=a/\R t):∃t:Adr,Txt K b t/\b "law"=W1 (.ref<|t.A 52)/\R t:=h.elim λt ⟨T,_,r⟩=>⟨t,T,(T.g 52 _ rfl).g,r⟩
end K39
namespace Flo
open PySem L2 DL Com
open K11 (gB)
structure Tn where
 n:Int
 sg:Int
 a:UL
 b:UL
 c:Int
def iJ(t:Tn):D:=.ob (.ins "Turn" ["number","sign","here","there","cost","room"]) [.int t.n,.int t.sg,.str t.a,.str t.b,.int 0,.int t.c]
def SR:gI "number" (iJ t)=.ok (.int t.n):=rfl
def SQ:gI "sign" (iJ t)=.ok (.int t.sg):=rfl
def OP:gI "here" (iJ t)=.ok (.str t.a):=rfl
def OO:gI "there" (iJ t)=.ok (.str t.b):=rfl
def Lw:gI "room" (iJ t)=.ok (.int t.c):=rfl
abbrev rX:=UL×List Tn
def pD(p:List Tn):D:=.lst<|p.map iJ
def fB(F:List rX):D:=.dic (F.map (·.1))<|F.map λe=>pD e.2
def dr(F:List rX)(k:UL):Option (List Tn):=(F.find? λe=>decide (e.1=k)).map (·.2)
theorem sP{k:UL}:∀{F:List rX},zL (F.map (·.1)) (F.map λe=>pD e.2) k=(dr F k).map pD
 |[]=>rfl
 |e::F=>by
  rw[UB,UB,zL];unfold dr
  by_cases h:e.1=k
  .rw[dh h,List.find?_cons_of_pos<|by exact dg h];rfl
  .rw[dV h,List.find?_cons_of_neg (by simpa using h),sP];rfl
def i7{k:UL}:dr F k=Wp↔k∉F.map (·.1):=by
 unfold dr;rw[Option.map_eq_none_iff,List.find?_eq_none];constructor
 .intro h z
  obtain⟨e,a,b⟩:=UK.mp z;exact h e a<|dg b
 .intro h e a z
  exact h<|UK.mpr ⟨e,a,ef z⟩
def ki{k:UL}(h:dr F k=W1 p):(k,p)∈F:=by
 unfold dr at h;rw[XJ]at h;obtain⟨e,a,b⟩:=h;have:=List.find?_some a;simp at this;rw[←this,←b];exact List.mem_of_find?_eq_some a
def OM{k:UL}:zp (.str k) (fB F)=.ok (.bl (dr F k).isSome):=by
 show aw.ok (D.bl (zL _ _ k).isSome)=_;rw[sP];cases dr F k<;>rfl
def Q2{k:UL}:kZ (.str k) (fB F)=.ok (.bl (!(dr F k).isSome)):=by
 show aw.ok (D.bl (!(zL _ _ k).isSome))=_;rw[sP];cases dr F k<;>rfl
def Q3{k:UL}(h:dr F k=W1 p):l9 (fB F) (.str k)=.ok (pD p):=by
 show(match zL _ _ k with|some d=>aw.ok d|none=>.stuck)=_;rw[sP,h];rfl
theorem IA:∀(p:List Tn),instFs (p.map iJ)=VT
 |[]=>rfl
 |t::p=>by rw[UB,instFs,IA];rfl
def Hv{k:UL}(h:dr F k=Wp):EW (F.map (·.1)) (F.map λe=>pD e.2) k (pD p)=fB (F++[(k,p)]):=by
 unfold EW;rw[dV (i7.mp h)];unfold fB;rw[U7,U7];rfl
def Ej(h:UL)(st:List rX×bv)(t:Tn):List rX×bv :=
 if t.a=h/\dr st.1 t.b=Wp then(st.1++[(t.b,((dr st.1 h).getD [])++[t])],st.2++[t.b]) else st
noncomputable abbrev iB:am :=
 (aq (cT (eG (aa (aU (ae 5)<|gI "here") (ae 4) gD)<|aa (aU (ae 5)<|gI "there") (ae 2) kZ)
 (aq (yt 2 (aa (aa (ae 2) (ae 4) l9) (ak (af (ae 5) ax) bD) nR)<|aU (ae 5)<|gI "there")
 (aq (bU 3<|aU (ae 5)<|gI "there")
 ao))
 ao)
 ao)
section
variable {s0 s1 s2 s3 s4 s5:Sl}{f k:al}{ks:bv}{ds es:ac}{ρ:Ev}{i:Nat}
def LA:yt 2 f k [s0,s1,.ow<|.dic ks ds,s3,s4,s5]=(f<|iD [s0,s1,.ow<|.dic ks ds,s3,s4,s5]).bind (qP k 2 [s0,s1,.ow<|.dic ks ds,s3,s4,s5] ks ds):=rfl
def IV(h:instFs es=VT):qP k i ρ ks ds (.lst es)=(k ρ).bind (qQ i ρ ks ds<|.lst es):=dh h
def OS(h:decide (ds.length+es.length<=999)=VT):nR (.lst ds) (.lst es)=.ok (.lst<|ds++es):=dh (UI (ef h)<|by decide)
end
def OJ{h:UL}(f:dr F h=W1 p)(l:F.length<=900)(u:p.length<=900)(s:W.length<=900) :
  iB [.sh T,.sh Fi,.ow<|fB F,.ow<|.lst<|W.map D.str,.sh<|.str h,.sh<|iJ t]=.ok (.nx [.sh T,.sh Fi,.ow<|fB (Ej h (F,W) t).1,.ow<|.lst<|(Ej h (F,W) t).2.map D.str,.sh<|.str h,.sh<|iJ t]):=by
 unfold Ej
 by_cases d:t.a=h
 .cases e:dr F t.b with
  |some q=>
   have c:kZ (.str t.b) (fB F)=.ok (.bl U9):=by rw[Q2,e];rfl
   rw[dV (by rintro⟨_,z⟩;cases z)];unfold fB at c ⊢;erw[OP,OO,gB,c,dg d]
  |none=>
   have c:kZ (.str t.b) (fB F)=.ok (.bl VT):=by rw[Q2,e];rfl
   have j:l9 (fB F) (.str h)=.ok (.lst<|p.map iJ):=Q3 f;have i:nR (.lst<|p.map iJ) (.lst [iJ t])=.ok (pD<|p++[t]):=by
    rw[OS (dg (by simp;omega))];unfold pD;rw[U7];rfl
   have o:instFs ((p++[t]).map iJ)=VT:=IA _;have g:=Hv (p:=p++[t]) e;have n:decide ((F.map (·.1)).length<=900)=VT:=dg (by rw[Ut];exact l);have m:decide ((W.map D.str).length<=999)=VT:=dg (by rw[Ut];omega);have r:(W++[t.b]).map D.str=W.map D.str++[.str t.b]:=by rw[U7];rfl
   rw[dh ⟨d,rfl⟩,f];unfold fB pD at c j i g;unfold fB pD;erw[OP,OO,gB,c,dg d,LA,j,i,IV o,Pth.ed_put3 n,g,cN m,r,WV]
 .rw[dV (by rintro⟨z,_⟩;exact d z)]
  unfold fB;erw[OP,OO,gB,dy d]
end Flo
namespace K21
open PySem L2 DL
abbrev m_look_at_web:ac->aw D:=Nwb.m_look_at_web
abbrev m_is_tie_number:ac->aw D:=Com.m_is_tie_number
end K21
namespace K15
open PySem L2 DL
abbrev m_look_at_web:ac->aw D:=Com.m_look_at_web
abbrev m_is_tie_number:ac->aw D:=Com.m_is_tie_number
abbrev m_look_at_taking:ac->aw D:=Com.m_look_at_taking
end K15
namespace K54
open PySem L2 DL
abbrev m_look_at_web:ac->aw D:=Com.m_look_at_web
abbrev m_is_tie_number:ac->aw D:=Com.m_is_tie_number
abbrev m_look_at_taking:ac->aw D:=Com.m_look_at_taking
end K54
namespace K54
open PySem L2 DL Com Pth
open K51 (comp_pick)
def mQ{b:Type}(g:b->D)(P:List b->Ev->Prop){L:List b}(h:∀pre a post,L=pre++a::post->∀ρ,P pre ρ->∃ρ1 ρ2,tg ρ (g a)=.ok ρ1/\body ρ1=.ok (.nx ρ2)/\P (pre++[a]) ρ2)(n:P [] ρ):∃ρ',cD tg body (L.map g) ρ=.ok (.nx ρ')/\P L ρ':=by
 have key:∀(post pre:List b) (ρ:Ev),L=pre++post->P pre ρ->∃ρ',cD tg body (post.map g) ρ=.ok (.nx ρ')/\P L ρ':=by
  intro post
  induction post with
  |nil=>intro pre ρ e c;rw[VN]at e;subst e;exact⟨ρ,rfl,c⟩
  |cons a post d=>
   intro pre ρ e c;obtain⟨ρ1,ρ2,m,l,j⟩:=h pre a post e ρ c;obtain⟨ρ',i,f⟩:=d (pre++[a]) ρ2 (by rw[e];simp) j;exact⟨ρ',by rw[UB,fX m l,i],f⟩
 exact key L [] ρ rfl n
def lR{b:Type}(g:b->D)(P:List b->Ev->Prop){L:List b}(h:∀pre a post,L=pre++a::post->∀ρ,P pre ρ->∃ρ1 ρ2,tg ρ (.tup [.int (pre.length:Int),g a])=.ok ρ1/\body ρ1=.ok (.nx ρ2)/\P (pre++[a]) ρ2)(n:P [] ρ):∃ρ',cD tg body (numbered 0<|L.map g) ρ=.ok (.nx ρ')/\P L ρ':=by
 have key:∀(post pre:List b) (ρ:Ev),L=pre++post->P pre ρ->∃ρ',cD tg body (numbered pre.length<|post.map g) ρ=.ok (.nx ρ')/\P L ρ':=by
  intro post
  induction post with
  |nil=>intro pre ρ e c;rw[VN]at e;subst e;exact⟨ρ,rfl,c⟩
  |cons a post f=>
   intro pre ρ e c;obtain⟨ρ1,ρ2,m,l,j⟩:=h pre a post e ρ c;obtain⟨ρ',d,i⟩:=f (pre++[a]) ρ2 (by rw[e];simp) j;rw[Vf,WR]at d;exact⟨ρ',by rw[UB,DL.numbered,fX m l,d],i⟩
 exact key L [] ρ rfl n
end K54
namespace Flo
open PySem L2 DL Com
open K11 (gB)
open K54 (mQ)
def Lk:UL->List Tn->UL->Prop
 |a,[],k=>a=k
 |a,t::r,k=>t.a=a/\Lk t.b r k
theorem Lk.snoc:∀{p:List Tn}{a:UL},Lk a p t.a->Lk a (p++[t]) t.b
 |[],a,h=>⟨h.symm,rfl⟩
 |s::p,a,⟨d,c⟩=>⟨d,Lk.snoc c⟩
structure Bf (ts:List Tn) (fi:UL) (F:List rX):Prop where
 nd:(F.map (·.1)).Nodup
 rt:(fi,[])∈F
 pl:∀k∈F.map (·.1),k∈fi::ts.map (·.b)
 lk:∀e∈F,Lk fi e.2 e.1
 tk:∀e∈F,∀s∈e.2,s∈ts/\s.b≠fi/\s.b∈F.map (·.1)
 nb:∀e∈F,(e.2.map (·.b)).Nodup
 fa:∀e∈F,∀s∈e.2.tail,s.a≠fi
 nf:∀e∈F,e.1=fi->e.2=[]
 ln:∀e∈F,e.2.length<F.length
section
variable {ts:List Tn}{fi h:UL}{F:List rX}{p:List Tn}{t:Tn}{W:bv}
def Bf.start:Bf ts fi [(fi,[])]:=by
 have key:∀e∈[((fi,[]):rX)],e=(fi,[]):=λe a=>UX.mp a;refine⟨by simp,by simp,by simp,λe a=>?_,λe a s b=>?_,λe a=>?_,λe a s b=>?_,λe a _=>?_,λe a=>?_⟩
 .rw[key e a];rfl
 .rw[key e a]at b;cases b
 .rw[key e a];exact .nil
 .rw[key e a]at b;cases b
 .rw[key e a]
 .rw[key e a];exact Nat.one_pos
def Bf.len(B:Bf ts fi F):F.length<=ts.length+1:=by
 have:=Cod.nodup_le B.nd B.pl;simpa using this
def Bf.step(B:Bf ts fi F)(x:dr F h=W1 p)(w:t∈ts)(g:t.a=h)(l:dr F t.b=Wp):Bf ts fi (F++[(t.b,p++[t])]):=by
 have f:=ki x;have m:=i7.mp l;have n:(F++[(t.b,p++[t])]).map (·.1)=F.map (·.1)++[t.b]:=by rw[U7];rfl
 have o:fi∈F.map (·.1):=UK.mpr ⟨_,B.rt,rfl⟩;have i:t.b≠fi:=λz=>m<|z▸o;refine⟨?_,Vo _ B.rt,λk j=>?_,λe d=>?_,λe d s c=>?_,λe d=>?_,λe d s c=>?_,λe d z=>?_,λe d=>?_⟩
 .rw[n]
  exact WB.mpr ⟨B.nd,by simp,λa g b l=>by rw[UX.mp l];rintro rfl;exact m g⟩
 .rw[n]at j
  rcases UO.mp j with z|z
  .exact B.pl k z
  .rw[UX.mp z];exact Up _<|UK.mpr ⟨t,w,rfl⟩
 .rcases UO.mp d with z|z
  .exact B.lk e z
  .obtain rfl:=UX.mp z
   exact Lk.snoc (by have:=B.lk _ f;rw[g];exact this)
 .rw[n]
  rcases UO.mp d with z|z
  .obtain⟨v,u,r⟩:=B.tk e z s c
   exact⟨v,u,Vo _ r⟩
  .obtain rfl:=UX.mp z
   rcases UO.mp c with c|c
   .obtain⟨v,u,r⟩:=B.tk _ f s c
    exact⟨v,u,Vo _ r⟩
   .rw[UX.mp c]
    exact⟨w,i,Va _<|by simp⟩
 .rcases UO.mp d with z|z
  .exact B.nb e z
  .obtain rfl:=UX.mp z
   show((p++[t]).map (·.b)).Nodup;rw[U7];refine WB.mpr ⟨B.nb _ f,by simp,λa g b l=>?_⟩;rw[show b=t.b by simpa using l];obtain⟨s,c,rfl⟩:=UK.mp g;intro z;exact m<|z▸(B.tk _ f s c).2.2
 .rcases UO.mp d with z|z
  .exact B.fa e z s c
  .obtain rfl:=UX.mp z
   have c:s∈(p++[t]).tail:=c;cases p with
   |nil=>cases c
   |cons q p=>
    have c:s∈p++[t]:=c;rcases UO.mp c with c|c
    .exact B.fa _ f s c
    .rw[UX.mp c,g]
     intro z;have:=B.nf _ f z;cases this
 .rcases UO.mp d with y|y
  .exact B.nf e y z
  .obtain rfl:=UX.mp y
   exact ee z i
 .rw[Vf,WR]
  rcases UO.mp d with z|z
  .have:=B.ln e z;omega
  .obtain rfl:=UX.mp z
   have:p.length<F.length:=B.ln _ f;show(p++[t]).length<_;rw[Vf,WR];omega
def Bf.get(B:Bf ts fi F)(g:e∈F):dr F e.1=W1 e.2:=by
 cases z:dr F e.1 with
 |none=>exact ee (UK.mpr ⟨e,g,rfl⟩)<|i7.mp z
 |some q=>
  have j:=ki z;have:=B.nd;have key:∀(F:List rX),(F.map (·.1)).Nodup->∀(a b:rX),a∈F->b∈F->a.1=b.1->a=b:=by
   intro F
   induction F with
   |nil=>intro _ a b c;cases c
   |cons x F i=>
    intro nd a b c d f;rw[UB,U6]at nd;rcases UG.mp c with c|c<;>rcases UG.mp d with d|d
    .rw[c,d]
    .exact ee (by rw[←c,f];exact UK.mpr ⟨b,d,rfl⟩) nd.1
    .exact ee (by rw[←d,←f];exact UK.mpr ⟨a,c,rfl⟩) nd.1
    .exact i nd.2 a b c d f
  have:=key _ this _ _ g j rfl;rw[this]
def Bf.has(B:Bf ts fi F){k:UL}(a:k∈F.map (·.1)):∃p,dr F k=W1 p:=by
 cases z:dr F k with|none=>exact ee a (i7.mp z)|some p=>exact⟨p,rfl⟩
structure Wt (ts:List Tn) (F:List rX) (W:bv):Prop where
 k:∀x∈W,x∈F.map (·.1)
 dn:∀x∈F.map (·.1),x∉W->∀t∈ts,t.a=x->t.b∈F.map (·.1)
def OI(N:ts.length<=800){W0:bv}(J:Bf ts fi i)(E:h∈i.map (·.1))(Q:W0.length+1<=i.length) :
  ∃(F:List rX) (W:bv) (l:Sl),Bf ts fi F/\(∀x∈i.map (·.1),x∈F.map (·.1))/\W.length+i.length=W0.length+F.length/\(∀x∈W0,x∈W)/\(∀x∈F.map (·.1),x∈i.map (·.1)∨x∈W)/\(∀x∈W,x∈W0∨x∈F.map (·.1))/\(∀t∈ts,t.a=h->t.b∈F.map (·.1)) /\
   cD (bK 5) iB (ts.map iJ) [.sh T,.sh Fi,.ow<|fB i,.ow<|.lst<|W0.map D.str,.sh<|.str h,x5]=.ok (.nx [.sh T,.sh Fi,.ow<|fB F,.ow<|.lst<|W.map D.str,.sh<|.str h,l]):=by
 obtain⟨A,e,F,W,l,j,m,w,r,q,o,n,rfl⟩:=mQ (tg:=bK 5) (body:=iB) iJ (L:=ts) (λpre y=>∃(F:List rX) (W:bv) (l:Sl),Bf ts fi F/\(∀x∈i.map (·.1),x∈F.map (·.1))/\W.length+i.length=W0.length+F.length/\(∀x∈W0,x∈W)/\(∀x∈F.map (·.1),x∈i.map (·.1)∨x∈W)/\(∀x∈W,x∈W0∨x∈F.map (·.1))/\(∀t∈pre,t.a=h->t.b∈F.map (·.1)) /\
   y=[.sh T,.sh Fi,.ow<|fB F,.ow<|.lst<|W.map D.str,.sh<|.str h,l]) (λpre t post G y z9=>by
   obtain⟨F,W,l,j,m,w,r,q,o,n,H⟩:=z9;subst H;have B:t∈ts:=by rw[G];simp
   obtain⟨p,u⟩:=j.has<|m h E;have O:=j.len;have C:p.length<F.length:=j.ln _<|ki u;have I:=OJ (T:=T) (Fi:=Fi) (W:=W) (t:=t) u 0#2 0#2 0#2;refine⟨_,_,rfl,I,?_⟩;unfold Ej
   by_cases c:t.a=h/\dr F t.b=Wp
   .simp only[dh c,u,WV]
    have v:(F++[(t.b,p++[t])]).map (·.1)=F.map (·.1)++[t.b]:=by rw[U7];rfl
    refine⟨_,_,_,j.step u B c.1 c.2,λx d=>?_,?_,λx d=>?_,λx d=>?_,λx d=>?_,λs g f=>?_,rfl⟩
    .rw[v];exact Vo _<|m x d
    .simp only[Vf,WR];omega
    .exact Vo _<|r x d
    .rw[v]at d
     rcases UO.mp d with d|d
     .exact(q x d).imp id λz=>Vo _ z
     .exact .inr<|Va _ d
    .rw[v]
     rcases UO.mp d with d|d
     .exact(o x d).imp id λz=>Vo _ z
     .exact .inr<|Va _ d
    .rw[v]
     rcases UO.mp g with g|g
     .exact Vo _<|n s g f
     .rw[UX.mp g];exact Va _ 0#3
   .simp only[dV c]
    refine⟨F,W,_,j,m,w,r,q,o,λs g f=>?_,rfl⟩;rcases UO.mp g with g|g
    .exact n s g f
    .rw[UX.mp g]at f ⊢
     by_cases z:t.b∈F.map (·.1)
     .exact z
     .exact ee ⟨f,i7.mpr z⟩ c) ⟨i,W0,x5,J,λ_ z=>z,rfl,λ_ z=>z,λ_ z=>.inl z,λ_ z=>.inl z,λ_ z=>(nomatch z),rfl⟩
 exact⟨F,W,l,j,m,w,r,q,o,n,e⟩
end
open K11 (gB)
def BN(ts:List Tn)(F:List rX):Prop:=∀t∈ts,t.a∈F.map (·.1)->t.b∈F.map (·.1)
abbrev wT:al:=aa (ae 3) (ak ax bD) iM
abbrev wB:am :=
 (aq (mH 4 3<|dC<|.int 0)
 (aq (kI (ae 0) (bK 5)
 iB)
 ao))
def OV(h:decide ((d::ds).length<=900)=VT):mH 4 3 0#0 [s0,s1,s2,.ow<|.lst (d::ds),s4,a]=.ok (.nx [s0,s1,s2,.ow<|.lst ds,.sh d,a]):=by
 have h:=ef h;have b:(d::ds).length<line:=UR h 0#1;have c:AJ (d::ds).length 0=W1 0:=by
  unfold AJ;simp
  try omega
 show mF 4 3 [s0,s1,s2,.ow<|.lst (d::ds),s4,a] (d::ds) (.int 0)=_;unfold mF;simp only[c];simp only[Wd,dh b];rfl
def K8{h:UL}{W:bv}:iM (.lst (D.str h::W.map D.str)) (.lst [])=.ok (.bl VT):=by
 have c:∀n,(W.map D.str).all (br n)=VT:=λn=>Vd.mpr λx a=>by
  obtain⟨y,_,rfl⟩:=UK.mp a;cases n<;>rfl
 unfold iM;have b:br 40 (.lst (D.str h::W.map D.str))=VT:=by
  show((D.str h::W.map D.str).all<|br 39)=VT;rw[W8,c];rfl
 rw[dh ⟨b,rfl⟩];rfl
section
variable {ts:List Tn}{fi h:UL}{F:List rX}{p:List Tn}{t:Tn}{W:bv}
def Ni(H:ts.length<=800):∀(f:Nat) (F:List rX) (W:bv) (x4 x5:Sl),Bf ts fi F->Wt ts F W->W.length<=F.length->ts.length+1+W.length<F.length+f ->
  ∃(G:List rX) (g d:Sl),Bf ts fi G/\BN ts G/\bY wT wB f [.sh<|.lst<|ts.map iJ,.sh<|.str fi,.ow<|fB F,.ow<|.lst<|W.map D.str,x4,x5]=.ok (.nx [.sh<|.lst<|ts.map iJ,.sh<|.str fi,.ow<|fB G,.ow<|.lst [],g,d]):=by
 intro f
 induction f with
 |zero=>intro F W x4 x5 B _ j m;have:=B.len;omega
 |succ f C=>
  intro F W x4 x5 B V j m;cases W with
  |nil=>
   refine⟨F,x4,x5,B,λt a b=>V.dn _ b 0#3 t a rfl,gL ?_⟩;have e:iM (.lst []) (.lst [])=.ok (.bl U9):=rfl;unfold fB;erw[e]
  |cons h W=>
   have M:=B.len;obtain⟨G,U,d,u,l,L,s,r,q,o,e⟩:=OI H (T:=.lst<|ts.map iJ) (Fi:=.str fi) (x5:=x5) B (V.k h Uu) (W0:=W) (by rw[UP]at j;omega);have I:Wt ts G U:=⟨λx i=>by
    rcases q x i with z|z
    .exact l x<|V.k x<|Up _ z
    .exact z,λx i nx t a b=>by
    rcases r x i with z|z
    .by_cases c:x=h
     .exact o t a (by rw[b,c])
     .exact l _ (V.dn x z (λy=>by
       rcases UG.mp y with y|y
       .exact c y
       .exact nx<|s x y) t a b)
    .exact ee z nx⟩
   rw[UP]at j m;obtain⟨J,g,n,A,w,v⟩:=C G U (.sh<|.str h) d u I 0#2 0#2;refine⟨J,g,n,A,w,?_⟩;rw[←v];have E:decide ((D.str h::W.map D.str).length<=900)=VT:=dg (by simp;omega);refine jZ ?_ ?_
   .have e:iM (.lst (D.str h::W.map D.str)) (.lst [])=.ok (.bl VT):=K8
    unfold fB;erw[e]
   .rw[UB]
    unfold fB at e ⊢;erw[OV E,e]
def xE(e:ts.length<=800):∃G,Bf ts fi G/\BN ts G/\K37.m_fewest_turns [.lst<|ts.map iJ,.str fi]=.ok (fB G):=by
 obtain⟨G,l,j,i,g,b⟩:=Ni (fi:=fi) e 1000 [(fi,[])] [fi] .no .no Bf.start ⟨λx a=>by simpa using a,λx a nx=>by simp at a nx;exact ee a nx⟩ 0#3 (by simp;omega);refine⟨G,i,g,?_⟩;have f:fB [(fi,[])]=.dic [fi] [.lst []]:=rfl;rw[f]at b;have hw:∀(c:al) (s:am) (d:Ev),eZ (λ_=>1000) c s d=bY c s 1000 d:=λ_ _ _=>rfl;unfold fB at b ⊢;simp only[UB,VM]at b;erw[K37.m_fewest_turns,K37.b_fewest_turns,Pth.ed_own,Pth.ed_disp,Pth.ed_disp1,Pth.ed_own1,hw,b]
end
end Flo
namespace K35
open PySem L2 DL Com
abbrev nI(k:Nat):D:=.int (k:Int)
def Qj{ns:List Int}{j O:List Int}(I:Cod.aK [.lst<|ns.map D.int]=.ok (.tup [.lst<|j.map D.int,.lst<|O.map D.int]))(J:j.length<=14):∃xs:List cu,bA [.lst<|ns.map D.int]=.ok (.lst<|xs.map fr)/\xs.length=j.length/\∀x∈xs,aV x/\0<=x.1:=by
 have key:∀c:Int,∃x:cu,(∀e:Ev,e[0]?=W1 (.sh<|.int c)->e[1]?=W1 (.sh<|.lst [.int 420,.int 60,.int 2,.int 5,.int 1000000000000000000,.int 30,.int 6,.int 5,.int 1000000000000000000,.int 30,.int 3,.int 5,.int 1000000000000000000,.int 30])->(ak (af (fJ (ak (af (ae 0)<|af (ae 1) ax) aD) (bS<|dC<|.int 11) eV) ax) az) e=.ok (fr x))/\aV x/\0<=x.1:=λc=>by
  obtain⟨l,u,V⟩:=Cod.draws_ok c [420,60,2,5,1000000000000000000,30,6,5,1000000000000000000,30,3,5,1000000000000000000,30] 0#1 0#1;have s:l.length=14:=V.len;obtain⟨o,A,E,_⟩:=V.ix 11 11 rfl rfl;obtain⟨n,z,C,_⟩:=V.ix 12 12 rfl rfl;obtain⟨m,y,B,_⟩:=V.ix 13 13 rfl rfl;obtain⟨x,r,N,H⟩:=Cod.fraction_ok (w:=o) (a:=n) (b:=m) E C B;refine⟨x,λe M L=>?_,N,H⟩;have p:jA (l.map D.int) (W1 11) Wp=[.int o,.int n,.int m]:=by
   rw[iW,HT.sIx_none,show(11:Int)=((11:Nat):Int) from rfl,HT.sIx_nat,s];have:=Dh (i:=11) A z y;show((l.drop 11).take 3).map D.int=_;rw[this];rfl
  have t:Cod.aD [.int c,.lst [.int 420,.int 60,.int 2,.int 5,.int 1000000000000000000,.int 30,.int 6,.int 5,.int 1000000000000000000,.int 30,.int 3,.int 5,.int 1000000000000000000,.int 30]]=.ok (.lst<|l.map D.int):=u;generalize l.map D.int=Q at *;erw[M,L,t,p,r]
 obtain⟨g,G⟩:∃g:Int->cu,∀c,(∀e:Ev,e[0]?=W1 (.sh<|.int c)->e[1]?=W1 (.sh<|.lst [.int 420,.int 60,.int 2,.int 5,.int 1000000000000000000,.int 30,.int 6,.int 5,.int 1000000000000000000,.int 30,.int 3,.int 5,.int 1000000000000000000,.int 30])->(ak (af (fJ (ak (af (ae 0)<|af (ae 1) ax) aD) (bS<|dC<|.int 11) eV) ax) az) e=.ok (fr<|g c))/\aV (g c)/\0<=(g c).1:=⟨λc=>Classical.choose (key c),λc=>saf<|key c⟩
 refine⟨j.map g,?_,by simp,λx r=>?_⟩
 .have f:dY 1 [1] (bK 0) mYes (ak (af (fJ (ak (af (ae 0)<|af (ae 1) ax) aD) (bS<|dC<|.int 11) eV) ax) az) [.sh<|.lst<|ns.map D.int,.sh<|.lst [.int 420,.int 60,.int 2,.int 5,.int 1000000000000000000,.int 30,.int 6,.int 5,.int 1000000000000000000,.int 30,.int 3,.int 5,.int 1000000000000000000,.int 30]] (j.map D.int)=.ok (.lst<|(j.map g).map fr):=by
   rw[ma (F:=λd=>match d with|.int v=>fr (g v)|d=>d) (by rw[Ut];omega)]
   .rw[Ve,Ve];rfl
   .intro d u
    obtain⟨c,_,rfl⟩:=UK.mp u;exact⟨[.sh<|.int c,.sh<|.lst [.int 420,.int 60,.int 2,.int 5,.int 1000000000000000000,.int 30,.int 6,.int 5,.int 1000000000000000000,.int 30,.int 3,.int 5,.int 1000000000000000000,.int 30]],rfl,rfl,(G c).1 _ rfl rfl⟩
  have q:kn (.int 10) (.int 18)=.ok (.int 1000000000000000000):=rfl;erw[bA,eI,q,I,f]
 .obtain⟨c,_,rfl⟩:=UK.mp r
  exact(G c).2
def Jm{a:Type}{F:a->D}{xs:List a}{fr:ci}(s:xs.length<=1000)(h:∀(k:Nat) (x:a),xs[k]?=W1 x->∃ρ1,c5 [0,1] (dQ m fr ρ) (.tup [.int (k:Int),F x])=.ok ρ1/\c ρ1=.ok (.bl<|q k)/\(q k=VT->r ρ1=.ok (G k))) :
  dY m fr (c5 [0,1]) c r ρ (numbered 0<|xs.map F)=.ok (.lst<|((VO xs.length).filter q).map G):=by
 have g:numbered 0 (xs.map F)=(VO xs.length).map λ(k:Nat)=>D.tup [.int (k:Int),(xs[k]?.map F).getD .non]:=by
  apply WT;intro i;rw[cU,Uw,Uw]
  by_cases h:i<xs.length
  .rw[Uq h,YL h]
   simp;rw[Uq h];rfl
  .rw[V7 0#2,V7 (by simp;omega)];rfl
 rw[g];rw[md (F:=λd=>match d with|.tup [.int v,_]=>G v.toNat|d=>d) (p:=λd=>match d with|.tup [.int v,_]=>q v.toNat|_=>U9) (by simp;omega)]
 .rw[List.filter_map,Ve]
  rfl
 .intro d j
  obtain⟨k,f,rfl⟩:=UK.mp j;have b:=Xe.mp f;have e:xs[k]?=W1 xs[k]:=Uq b;obtain⟨ρ1,o,n,l⟩:=h k xs[k] e;rw[e];exact⟨ρ1,o,by simpa using n,λz=>by simpa using l (by simpa using z)⟩
def bits_ok(W:cF w)(v:Int):∃ks,dX [aN w,.int v]=.ok (aQ ks)/\rN w ks:=by
 have j:=W.t14;have c:dY 2 [1] (c5 [0,1]) (eG (aa (aa (ae 1) 4#0 aB) 0#4 l7)<|aa (aa (aa (ae 2) (ae 0) LN) 1#0 Ef) 1#0 gD) (ae 0) [.sh<|aN w,.sh<|.int v] (numbered 0<|w.ts.map aX)=.ok (.lst<|((VO w.ts.length).filter<|λk=>Pr w k&&(Ym (v / 2 ^ k) 1==1)).map nI):=by
  refine Jm 0#2 λk t d=>?_;have i:Pr w k=t.o.isSome:=by unfold Pr;rw[d];rfl
  refine⟨[.sh (.int (k:Int)),.sh (aX t),.sh (.int v)],rfl,?_,λ_=>rfl⟩;have e:LN (.int v) (.int (k:Int))=.ok (.int<|v / 2 ^ k):=by
   show(if decide (0<=(k:Int))=VT then aw.ok (D.int<|v / 2 ^ (k:Int).toNat) else .stuck)=_;rw[dh (dg<|by omega),V6]
  have g:Ef (.int<|v / 2 ^ k) (.int 1)=.ok (.int<|Ym (v / 2 ^ k) 1):=rfl;rw[i,show aX t=.tup [.str t.a,.str t.b,.str t.w,fr t.l,cS t.o] from rfl];cases m:t.o with
  |none=>erw[cS];rfl
  |some x=>erw[cS,fr,Lu,e,g,Option.isSome_some,Xt]
 refine⟨(VO w.ts.length).filter (λk=>Pr w k&&(Ym (v / 2 ^ k) 1==1)),?_,?_,λk f=>?_⟩
 .rw[show aN w=.tup [.lst<|w.ps.map D.str,.lst<|w.ts.map aX,.str w.fi,.str w.la] from rfl]at c ⊢
  erw[dX,rM,c]
  rfl
 .exact Yu.sublist List.filter_sublist Z4
 .have:=(WS.mp f).2
  rw[US]at this;exact Ln.mp this.1
def gB:du d (.str z)=VT↔d=.str z:=by
 cases d with
 |str x=>rw[du];simp
 |_=>constructor<;>intro h<;>first|cases h|(unfold du at h;cases h)
theorem Ep{b:Type}{g:b->Bool}:∀{l:List b},fK (l.map λx=>D.bl<|g x)=W1 (l.map g)
 |[]=>rfl
 |a::l=>by rw[UB,fK,Ep];rfl
def all_ok{ds:ac}:vw (.lst<|ds.map λd=>.bl<|g d)=.ok (.bl<|ds.all g):=by
 show(match fK (ds.map λd=>D.bl<|g d) with|some bs=>aw.ok (D.bl<|bs.all id)|none=>.stuck)=_;rw[Ep];simp only[YB];rfl
def fO(c:bv)(t:fQ):Bool:=if t.w="both" then(decide (t.a∈c) != decide (t.b∈c)) else(decide (t.a∈c)&&!(decide (t.b∈c)))
def leads_ok{w:iE}(h:ny w.ps t):bj [aX t,.lst<|g.map D.str]=.ok (.bl<|fO g t):=by
 have d:gD (.str t.w) (.str "both")=.ok (.bl<|t.w=="both"):=sI;rw[show aX t=.tup [.str t.a,.str t.b,.str t.w,fr t.l,cS t.o] from rfl];unfold fO
 by_cases c:t.w="both"
 .rw[dh c]
  rw[c]at d ⊢;have f:∀x y:Bool,iM (.bl x) (.bl y)=.ok (.bl<|x != y):=λx y=>by cases x<;>cases y<;>rfl
  erw[bj,fN,d,mM,f]
 .rw[dV c]
  rw[beq_eq_false_iff_ne.mpr c]at d;cases e:decide (t.a∈g) with
  |true=>erw[bj,fN,d,mM,e,gM,Xt]
  |false=>erw[bj,fN,d,mM,e,WZ]
def notin_nums{k:Nat}:bL (.int (k:Int)) (aQ ks)=.ok (.bl (!(decide (k∈ks)))):=by
 have e:D0 (.int (k:Int)) (aQ ks)=W1 (decide (k∈ks)):=by
  have a:(ks.map λ(k:Nat)=>D.int (k:Int)).all (br 40)=VT:=Vd.mpr λd c=>by
   obtain⟨z,_,rfl⟩:=UK.mp c;rfl
  have f:(ks.map λ(k:Nat)=>D.int (k:Int)).any (λd=>du d<|.int (k:Int))=decide (k∈ks):=by
   induction ks with
   |nil=>rfl
   |cons y g b=>
    rw[UB,WU,b (by
     rw[UB,W8,US]at a;exact a.2)]
    rw[du]
    by_cases h:y=k
    .subst h;simp
    .have:((y:Int)==(k:Int))=U9:=beq_eq_false_iff_ne.mpr 0#2
     rw[this,YO];simp[Vw h]
  exact(dh ⟨rfl,a⟩).trans<|en W1 f
 unfold bL;rw[e]
end K35
namespace K36
open PySem L2 DL Com
def sg(s:Int)(x:cu):cu:=(s*x.1,x.2)
def yr(h:aV x)(a:s=1∨s=-1):aV (sg s x):=by
 rcases a with rfl|rfl
 .have:sg 1 x=x:=by unfold sg;rw[Ze]
  rw[this];exact h
 .refine⟨⟨h.q1,?_⟩,?_,h.qN⟩
  .show Vc (-1*x.1) x.2=1
   rw[show(-1*x.1)=-x.1 by omega,Int.neg_gcd];exact h.g1
  .show(-1*x.1).natAbs<jD
   have:=h.pN;omega
def sumF(xs:List cu):cu:=dU (qL xs).1 (qL xs).2
def sum_acc{xs:List cu}(d:xs.length<=40)(c:∀x∈xs,aV x):F5 xs.length (sumF xs)/\Low (sumF xs):=by
 have A:=rZ (xs:=xs) 0#2 c;have b:=eW (a:=(qL xs).1) A.pos;have:=b.q1;exact⟨⟨by show 0<(dU _ _).2;omega,UI mL A.b1,UI oq A.b2⟩,b⟩
def yD(r:xs.length<=39)(e:∀y∈xs,aV y)(f:aV x)(p:s=1∨s=-1):aR [fr<|sumF xs,fr x,.int s]=.ok (fr<|sumF<|xs++[sg s x]):=by
 have c:=yr f p;have A:=rZ (xs:=xs) 0#2 e;obtain⟨g,_⟩:=sum_acc (xs:=xs) 0#2 e;have o:=g.step c;have q:bnd (xs.length+1)<p6:=sL 0#2;have d:bnd xs.length<mw:=Uy (sL<|by omega) pY;have hw:sumF (xs++[sg s x])=dU ((sumF xs).1*x.2+s*x.1*(sumF xs).2) ((sumF xs).2*x.2):=by
  have:=AD (s:=qL xs) (x:=sg s x) A.pos c.q1;unfold sumF;rw[GA,←this];rfl
 have n:=Cod.low_ok (a:=(sumF xs).1*x.2+s*x.1*(sumF xs).2) (b:=(sumF xs).2*x.2) o.pos (UR o.b1 q)<|UR o.b2 q;have l:dj (sumF xs).1 x.2=VT:=fg (UR g.b1 d)<|Uy f.qN dG;have m:dj s x.1=VT:=fg (Uy (show s.natAbs<jD by rcases p with rfl|rfl<;>decide) dG)<|Uy f.pN dG;have j:dj (s*x.1) (sumF xs).2=VT:=fg (Uy c.pN dG)<|UR g.b2 d;have i:dj (sumF xs).2 x.2=VT:=fg (UR g.b2 d)<|Uy f.qN dG;rw[hw];generalize sumF xs=u at *;rw[show fr u=.tup [.int u.1,.int u.2] from rfl,show fr x=.tup [.int x.1,.int x.2] from rfl];erw[aR,iA,dB l,dB m,dB j,dB i,n]
def part(p:UL)(t:fQ)(x:cu):List cu:=(if t.a=p then[sg 1 x] else[])++(if t.b=p then[sg (-1) x] else[])
def parts(p:UL):List fQ->List cu->List cu
 |t::a,x::xs=>part p t x++parts p a xs
 |_,_=>[]
def KU:(part p t x).length<=2:=by
 unfold part;split<;>split<;>simp
theorem parts_len:∀{ts:List fQ}{xs:List cu},(parts p ts xs).length<=2*ts.length
 |[],_=>by simp[parts]
 |_::_,[]=>by simp[parts]
 |t::ts,x::xs=>by
  unfold parts;rw[Vf,UP];have:=parts_len (p:=p) (ts:=ts) (xs:=xs);have:=KU (p:=p) (t:=t) (x:=x);omega
def HN(h:aV x):∀y∈part p t x,aV y:=λy a=>by
 unfold part at a;rw[UO]at a;rcases a with a|a
 .split at a
  .have:y=sg 1 x:=by simpa using a
   rw[this];exact yr h<|.inl rfl
  .cases a
 .split at a
  .have:y=sg (-1) x:=by simpa using a
   rw[this];exact yr h<|.inr rfl
  .cases a
theorem parts_fin{p:UL}:∀{ts:List fQ}{xs:List cu},(∀x∈xs,aV x)->∀y∈parts p ts xs,aV y
 |[],_,_,y,a=>by simp[parts]at a
 |_::_,[],_,y,a=>by simp[parts]at a
 |t::ts,x::xs,h,y,a=>by
  unfold parts at a;rw[UO]at a;rcases a with a|a
  .exact HN (h x Uu) y a
  .exact parts_fin (λz b=>h z<|Up _ b) y a
def eqs:gD (.str x) (.str y)=.ok (.bl (decide (x=y))):=by
 rw[sI]
 congr 2
def CO{A B p:D}{k:Nat}{xs:List cu}(u:p=.str P)(c:∀y∈acc,aV y)(v:acc.length<=37)(r:xs[k]?=W1 x)(n:aV x):∃ρ2,(aq (cT (aa (aa (ae 5) 0#0 aB) (ae 2) gD)
 (aq (aH 3<|ak (af (ae 3)<|af (aa (ae 1) (ae 4) aB)<|af 1#0 ax) aR)
 ao)
 ao)
 (aq (cT (aa (aa (ae 5) 1#0 aB) (ae 2) gD)
 (aq (aH 3<|ak (af (ae 3)<|af (aa (ae 1) (ae 4) aB)<|af (aU 1#0 ko) ax) aR)
 ao)
 ao)
 ao)) [.sh A,.sh<|.lst<|xs.map fr,.sh p,.sh<|fr<|sumF acc,.sh<|.int (k:Int),.sh<|aX t]=.ok (.nx ρ2)/\ρ2=[.sh A,.sh<|.lst<|xs.map fr,.sh p,.sh<|fr<|sumF<|acc++part P t x,.sh<|.int (k:Int),.sh<|aX t]:=by
 subst u;have g:aB (.lst<|xs.map fr) (.int (k:Int))=.ok (fr x):=dJ (by rw[Uw,r];rfl);have m:aB (aX t) (.int 0)=.ok (.str t.a):=rfl;have l:aB (aX t) (.int 1)=.ok (.str t.b):=rfl;have q:=yD (xs:=acc) (x:=x) (s:=1) 0#2 c n<|.inl rfl;refine⟨_,?_,rfl⟩
 by_cases f:t.a=P
 .have i:∀y∈acc++[sg 1 x],aV y:=λy j=>by
   rw[UO]at j;rcases j with j|j
   .exact c y j
   .have:y=sg 1 x:=by simpa using j
    rw[this];exact yr n<|.inl rfl
  have o:=yD (xs:=acc++[sg 1 x]) (x:=x) (s:=-1) (by simp;omega) i n<|.inr rfl
  by_cases d:t.b=P
  .have e:acc++part P t x=acc++[sg 1 x]++[sg (-1) x]:=by unfold part;rw[dh f,dh d,Xd]
   rw[e];erw[m,l,eqs,dg f,dg d,g,q,o]
  .have e:acc++part P t x=acc++[sg 1 x]:=by unfold part;rw[dh f,dV d,VN]
   rw[e];erw[m,l,eqs,dg f,dy d,g,q]
 .have o:=yD (xs:=acc) (x:=x) (s:=-1) 0#2 c n (.inr rfl)
  by_cases d:t.b=P
  .have e:acc++part P t x=acc++[sg (-1) x]:=by unfold part;rw[dV f,dh d,V8]
   rw[e];erw[m,l,eqs,dy f,dg d,g,o]
  .have e:acc++part P t x=acc:=by unfold part;rw[dV f,dV d];simp
   rw[e];erw[m,l,eqs,dy f,dy d]
theorem tR{p:UL}:∀{ts:List fQ}{xs:List cu}{k:Nat}{t:fQ}{x:cu},ts[k]?=W1 t->xs[k]?=W1 x->parts p (ts.take<|k+1) (xs.take<|k+1)=parts p (ts.take k) (xs.take k)++part p t x
 |b::ts,a::xs,0,t,x,d,c=>by
  cases d;cases c;show part p b a++parts p [] []=[]++part p b a;simp[parts]
 |b::ts,a::xs,k+1,t,x,d,c=>by
  show part p b a++parts p (ts.take<|k+1) (xs.take<|k+1)=(part p b a++parts p (ts.take k) (xs.take k))++part p t x;rw[tR (ts:=ts) (xs:=xs) d c,Xd]
 |[],_,_,_,_,d,_=>by simp at d
 |_::_,[],_,_,_,_,c=>by simp at c
def going_ok(s:w.ts.length<=14)(o:xs.length=w.ts.length)(j:∀x∈xs,aV x):cA [aN w,.lst<|xs.map fr,.str P]=.ok (fr<|sumF<|parts P w.ts xs):=by
 obtain⟨m,b,g,f,rfl⟩:=jI (ds:=numbered 0<|w.ts.map aX) (tg:=c5 [4,5]) (ρ:=[.sh<|aN w,.sh<|.lst<|xs.map fr,.sh<|.str P,.sh<|fr<|sumF [],.no,.no])
  (body:=(aq (cT (aa (aa (ae 5) 0#0 aB) (ae 2) gD)
 (aq (aH 3<|ak (af (ae 3)<|af (aa (ae 1) (ae 4) aB)<|af 1#0 ax) aR)
 ao)
 ao)
 (aq (cT (aa (aa (ae 5) 1#0 aB) (ae 2) gD)
 (aq (aH 3<|ak (af (ae 3)<|af (aa (ae 1) (ae 4) aB)<|af (aU 1#0 ko) ax) aR)
 ao)
 ao)
 ao)))
  (λk e=>∃g f,e=[.sh<|aN w,.sh<|.lst<|xs.map fr,.sh<|.str P,.sh<|fr<|sumF<|parts P (w.ts.take k)<|xs.take k,g,f]) (by
   rintro k d q e ⟨g,f,rfl⟩;obtain⟨t,l,rfl⟩:=iQ q;have C:k<w.ts.length:=(Uz.mp l).1;have a:xs[k]?=W1 xs[k]:=Uq 0#2;have n:(parts P (w.ts.take k)<|xs.take k).length<=28:=UI parts_len (by rw[V1];omega);obtain⟨c,u,r⟩:=CO (A:=aN w) (B:=.non) (p:=.str P) (P:=P) (t:=t) (acc:=parts P (w.ts.take k)<|xs.take k) (xs:=xs) rfl (parts_fin λx i=>j x<|YH i) 0#2 a (j _<|VB<|by omega);refine⟨_,c,nu rfl,u,.sh<|.int (k:Int),.sh<|aX t,?_⟩;rw[r,tR l a]) ⟨.no,.no,rfl⟩
 rw[di,Ut,WY,←o,WY]at b;have v:fr (sumF [])=.tup [.int 0,.int 1]:=by
  show fr (dU 0 1)=_;have:dU 0 1=(0,1):=by decide
  rw[this];rfl
 rw[v]at b;rw[show aN w=.tup [.lst<|w.ps.map D.str,.lst<|w.ts.map aX,.str w.fi,.str w.la] from rfl]at b ⊢;erw[cA,iX,pz,oG,lS,b]
def ip(P:UL)(t:fQ)(z:Int):Int:=(if t.a=P then z else 0)-(if t.b=P then z else 0)
def ips(P:UL):List fQ->List Int->Int
 |t::b,z::a=>ip P t z+ips P b a
 |_,_=>0
theorem AO{p:UL}:∀{ts:List fQ}{xs:List Int}{k:Nat}{t:fQ}{x:Int},ts[k]?=W1 t->xs[k]?=W1 x->ips p (ts.take<|k+1) (xs.take<|k+1)=ips p (ts.take k) (xs.take k)+ip p t x
 |b::ts,a::xs,0,t,x,d,c=>by
  cases d;cases c;show ip p b a + ips p [] []=0+ip p b a;simp[ips]
 |b::ts,a::xs,k+1,t,x,d,c=>by
  show ip p b a + ips p (ts.take<|k+1) (xs.take<|k+1)=(ip p b a + ips p (ts.take k) (xs.take k))+ip p t x;rw[AO (ts:=ts) (xs:=xs) d c,Int.add_assoc]
 |[],_,_,_,_,d,_=>by simp at d
 |_::_,[],_,_,_,_,c=>by simp at c
theorem ips_parts:∀(ts:List fQ) (xs:List cu),ips P ts (xs.map λx=>x.1*(b / x.2))=v5 ((parts P ts xs).map λx=>x.1*(b / x.2))
 |[],xs=>by simp[ips,parts,v5]
 |_::_,[]=>by simp[ips,parts,v5]
 |t::ts,x::xs=>by
  show ip P t (x.1*(b / x.2))+ips P ts (xs.map λx=>x.1*(b / x.2))=v5 ((part P t x++parts P ts xs).map λx=>x.1*(b / x.2));rw[ips_parts ts xs,U7,wJ]
  congr 1
  unfold ip part sg
  by_cases d:t.a=P
  .by_cases c:t.b=P
   .rw[dh d,dh c,dh d,dh c]
    show _=1*x.1*(b / x.2)+(-1*x.1*(b / x.2)+0);rw[Ze,Int.neg_one_mul,YI];omega
   .rw[dh d,dV c,dh d,dV c]
    show _=1*x.1*(b / x.2)+0;rw[Ze];omega
  .by_cases c:t.b=P
   .rw[dV d,dh c,dV d,dh c]
    show _=-1*x.1*(b / x.2)+0;rw[Int.neg_one_mul,YI];omega
   .rw[dV d,dV c,dV d,dV c];rfl
def GL(g:al)(ρ:Ev)(d:D):aw (ac):=(g ρ).bind λe=>match d,e with
 |.lst b,.lst a=>.ok<|de b a
 |_,_=>.stuck
def Ly:GN f g ρ=(f ρ).bind (GL g ρ):=rfl
def IQ(h:g ρ=.ok (.lst es)):GL g ρ (.lst ds)=.ok (de ds es):=by unfold GL;rw[h];rfl
def E1{ts:List fQ}{zs:List Int}{k:Nat}(h:(de (ts.map aX)<|zs.map D.int)[k]?=W1 d):∃t z,ts[k]?=W1 t/\zs[k]?=W1 z/\d=.tup [aX t,.int z]:=by
 obtain⟨x,y,b,a,f⟩:=nC _ _ _ _ h;rw[Uw]at b a;cases e:ts[k]? with
 |none=>rw[e]at b;cases b
 |some t=>
  cases c:zs[k]? with
  |none=>rw[c]at a;cases a
  |some z=>
   rw[e]at b;rw[c]at a;cases b;cases a;exact⟨t,z,rfl,rfl,f⟩
def goes_ok(r:zs.length=w.ts.length):m_goes_from [aN w,.lst<|zs.map D.int,.str P]=.ok (.int<|ips P w.ts zs):=by
 obtain⟨o,n,l,j,rfl⟩:=jI (ds:=de (w.ts.map aX)<|zs.map D.int) (tg:=c5 [4,5]) (ρ:=[.sh<|aN w,.sh<|.lst<|zs.map D.int,.sh<|.str P,.sh<|.int 0,.no,.no])
  (body:=(aq (cT (aa (aa (ae 4) 0#0 aB) (ae 2) gD)
 (aq (aH 3<|aa (ae 3) (ae 5) aZ)
 ao)
 ao)
 (aq (cT (aa (aa (ae 4) 1#0 aB) (ae 2) gD)
 (aq (aH 3<|aa (ae 3) (ae 5) gQ)
 ao)
 ao)
 ao)))
  (λk i=>∃l j,i=[.sh<|aN w,.sh<|.lst<|zs.map D.int,.sh<|.str P,.sh<|.int<|ips P (w.ts.take k)<|zs.take k,l,j]) (by
   rintro k d s i ⟨l,j,rfl⟩;obtain⟨t,z,q,p,rfl⟩:=E1 s;have g:aB (aX t) (.int 0)=.ok (.str t.a):=rfl;have f:aB (aX t) (.int 1)=.ok (.str t.b):=rfl;refine⟨_,[.sh<|aN w,.sh<|.lst<|zs.map D.int,.sh<|.str P,.sh<|.int<|ips P (w.ts.take<|k+1)<|zs.take<|k+1,.sh<|aX t,.sh<|.int z],nu rfl,?_,_,_,rfl⟩;rw[AO q p];unfold ip;show(aq _ _) [.sh<|aN w,.sh<|.lst<|zs.map D.int,.sh<|.str P,.sh<|.int<|ips P (w.ts.take k)<|zs.take k,.sh<|aX t,.sh<|.int z]=_
   by_cases e:t.a=P
   .by_cases c:t.b=P
    .rw[dh e,dh c,show ips P (w.ts.take k) (zs.take k)+(z-z)=ips P (w.ts.take k) (zs.take k)+z-z by omega]
     erw[g,f,eqs,dg e,dg c,gQ]
    .rw[dh e,dV c,Int.sub_zero]
     erw[g,f,eqs,dg e,dy c,gQ]
   .by_cases c:t.b=P
    .rw[dV e,dh c,show ips P (w.ts.take k) (zs.take k)+(0-z)=ips P (w.ts.take k) (zs.take k)-z by omega]
     erw[g,f,eqs,dy e,dg c,gQ]
    .rw[dV e,dV c,show ips P (w.ts.take k) (zs.take k)+(0-0)=ips P (w.ts.take k) (zs.take k) by omega]
     erw[g,f,eqs,dy e,dy c]) ⟨.no,.no,rfl⟩
 have m:(de (w.ts.map aX)<|zs.map D.int).length=w.ts.length:=by
  rw[kK,Ut,Ut];omega
 rw[m,WY,←r,WY]at n;rw[show aN w=.tup [.lst<|w.ps.map D.str,.lst<|w.ts.map aX,.str w.fi,.str w.la] from rfl]at n ⊢;erw[m_goes_from,jL,pz,Ly]
 rw[IQ (es:=zs.map D.int) rfl];erw[pw,n]
def somes_some(xs:List cu):ic (xs.map W1)=xs:=by unfold ic;rw[YU];simp
def amount_ok(W:cF w)(hl:xs.length=w.ts.length)(u:∀x∈xs,aV x):fj [aN w,.lst<|xs.map fr]=.ok (fr<|sumF<|parts w.fi w.ts xs):=by
 have ah:=W.t14;have f:=yh W;have i:=tu (os:=xs.map W1) (by rw[Ut];omega) (λx h=>by
  obtain⟨y,U,e⟩:=UK.mp h;cases e;exact u x U)
 have J:(xs.map W1).map cS=xs.map fr:=by rw[Ve];rfl
 obtain⟨B,_,H⟩:=zt u 1 0 ⟨by decide,by decide⟩;rw[somes_some,J]at i;have hB:bT xs=xs.foldl gK 1:=rfl;have I:(xs.map W1).map (wI<|bT xs)=(xs.map λx=>x.1*(bT xs / x.2)).map D.int:=by rw[Ve,Ve];rfl
 rw[I]at i;have E:=goes_ok (w:=w) (P:=w.fi) (zs:=xs.map λx=>x.1*(bT xs / x.2)) (by rw[Ut];exact hl);rw[ips_parts]at E;have ab:(parts w.fi w.ts xs).length<=28:=UI parts_len 0#2;have n:=parts_fin (p:=w.fi) (ts:=w.ts) u;have A:=rZ (xs:=parts w.fi w.ts xs) 0#2 n;obtain⟨_,s⟩:=sum_acc (xs:=parts w.fi w.ts xs) 0#2 n;have o:∀(ts:List fQ) (d:List cu),(∀x∈d,x.2∣bT xs)->∀x∈parts w.fi ts d,x.2∣bT xs:=by
  intro ts
  induction ts with
  |nil=>intro d _ x c;simp[parts]at c
  |cons t ts O=>
   intro d h x c;cases d with
   |nil=>simp[parts]at c
   |cons y N=>
    unfold parts at c;rw[UO]at c;rcases c with c|c
    .have:x.2=y.2:=by
      unfold part at c;rw[UO]at c;rcases c with l|l
      .split at l
       .have:x=sg 1 y:=by simpa using l
        rw[this];rfl
       .cases l
      .split at l
       .have:x=sg (-1) y:=by simpa using l
        rw[this];rfl
       .cases l
     rw[this];exact h y Uu
    .exact O N (λz Q=>h z<|Up _ Q) x c
 have g:=p9 (b:=bT xs) (parts w.fi w.ts xs) (0,1) 0 (o w.ts xs H) (by show(0:Int)*_=0*1;omega);rw[Z7]at g;change (qL<|parts w.fi w.ts xs).1*bT xs=v5 ((parts w.fi w.ts xs).map λx=>x.1*(bT xs / x.2))*(qL<|parts w.fi w.ts xs).2 at g;have j:0<bT xs:=B.pos;have q:(bT xs).natAbs<=2 ^ (200*14):=UI B.bd (Vy 0#1<|by omega);have A1:(qL<|parts w.fi w.ts xs).1.natAbs<=2 ^ (201*28):=UI A.b1 (Vy 0#1<|by omega);have Ap:=A.pos;have Y:=iS (a:=(qL<|parts w.fi w.ts xs).1) (b:=(qL<|parts w.fi w.ts xs).2);have v:=iS (a:=v5<|(parts w.fi w.ts xs).map λx=>x.1*(bT xs / x.2)) (b:=bT xs);have C:=eW (a:=v5<|(parts w.fi w.ts xs).map λx=>x.1*(bT xs / x.2)) j;unfold sumF at s ⊢;generalize v5 ((parts w.fi w.ts xs).map λx=>x.1*(bT xs / x.2))=Z at *;generalize qL (parts w.fi w.ts xs)=T at *;generalize bT xs=b at *;have hZ:Z.natAbs<p6:=by
  have h1:Z.natAbs<=Z.natAbs*T.2.natAbs:=Nat.le_mul_of_pos_right _ 0#2;have h2:Z.natAbs*T.2.natAbs=T.1.natAbs*b.natAbs:=by rw[←Vr,←Vr,g]
  have M:T.1.natAbs*b.natAbs<=2 ^ (201*28)*2 ^ (200*14):=WN A1 q;rw[←XG]at M;refine UR (UI h1<|h2▸M) ?_;rw[jv];exact Wx 0#1 0#1
 have r:b.natAbs<p6:=UR q (by rw[jv];exact Wx 0#1<|by decide);have m:=tJ (a:=Z) (b:=b) j hZ r;have G:dU Z b=dU T.1 T.2:=by
  refine ue C s ?_;generalize dU Z b=L at *;generalize dU T.1 T.2=S at *;have k:L.1*S.2*(b*T.2)=S.1*L.2*(b*T.2):=by
   have J:L.1*S.2*(b*T.2)=(L.1*b)*S.2*T.2:=by grind
   have I:S.1*L.2*(b*T.2)=(S.1*T.2)*L.2*b:=by grind
   have e3:T.1*S.2*L.2*b=(T.1*b)*S.2*L.2:=by grind
   rw[J,I,v,Y,e3,g]
   grind
  exact Wj (by have:=We j Ap;omega) k
 rw[G]at m;rw[show aN w=.tup [.lst<|w.ps.map D.str,.lst<|w.ts.map aX,.str w.fi,.str w.la] from rfl]at f E ⊢;erw[fj,jM,f,i,E,m]
end K36
namespace K34
open PySem L2 DL Com
def jC(u x:cu)(s:Int):cu:=dU (u.1*x.2+s*x.1*u.2)<|u.2*x.2
def GU(b:s=1∨s=-1):(s*a).natAbs=a.natAbs:=by
 rw[Vr];rcases b with rfl|rfl<;>simp
def Ma{u x:cu}(a:s=1∨s=-1):(u.1*x.2+s*x.1*u.2).natAbs<=u.1.natAbs*x.2.natAbs+x.1.natAbs*u.2.natAbs:=by
 refine UI (Y7 _ _) ?_;rw[Vr,Vr,GU a];exact U3 _
def DD(d:aV u)(c:aV x)(l:s=1∨s=-1):aR [fr u,fr x,.int s]=.ok (fr<|jC u x s):=by
 have y:=d.q1;have w:=c.q1;have p:0<u.2*x.2:=We 0#2 0#2;have n60:jD<=2 ^ 200:=by decide
 have v:u.1.natAbs<=2 ^ 200:=UI (Ww d.pN) n60;have o:u.2.natAbs<=2 ^ 200:=UI (Ww d.qN) n60;have t:x.1.natAbs<=2 ^ 200:=UI (Ww c.pN) n60;have n:x.2.natAbs<=2 ^ 200:=UI (Ww c.qN) n60;have e:(2:Nat) ^ 401<p6:=by rw[jv];exact Wx 0#1 0#1
 have r:(u.1*x.2+s*x.1*u.2).natAbs<p6:=by
  refine UR (UI (Ma l)<|Nat.add_le_add (WN v n)<|WN t o)<|UR (Y5 ?_) e;rw[←XG,show(401:Nat)=(200+200)+1 from rfl,Nat.pow_succ];omega
 have q:(u.2*x.2).natAbs<p6:=by
  rw[Vr];refine UR (WN o n)<|UR ?_ e;rw[←XG];exact Vy 0#1 0#1
 have m:=Cod.low_ok p r q;have b:∀{a:Int},a.natAbs<jD->a.natAbs<mw:=λh=>Uy h dG;have i:dj u.1 x.2=VT:=fg (b d.pN)<|b c.qN;have j:dj s x.1=VT:=fg (b (show s.natAbs<jD by rcases l with rfl|rfl<;>decide))<|b c.pN;have g:dj (s*x.1) u.2=VT:=fg (by rw[GU l];exact b c.pN)<|b d.qN;have f:dj u.2 x.2=VT:=fg (b d.qN)<|b c.qN;rw[show fr u=.tup [.int u.1,.int u.2] from rfl,show fr x=.tup [.int x.1,.int x.2] from rfl];unfold jC;erw[aR,iA,dB i,dB j,dB g,dB f,m]
def Rp(M:Int)(x:cu)(z:Int):Prop:=x.1*M=z*x.2
def Rp.add(f:Rp M u d)(e:Rp M x c)(m:1<=u.2)(x1:1<=x.2):Rp M (jC u x s) (d+s*c):=by
 have g:=iS (a:=u.1*x.2+s*x.1*u.2) (b:=u.2*x.2);have i:u.2*x.2≠0:=by have:=We (show 0<u.2 by omega) (show 0<x.2 by omega);omega
 unfold Rp at *;unfold jC;generalize dU (u.1*x.2+s*x.1*u.2) (u.2*x.2)=L at *;refine Wj i ?_;have l:L.1*M*(u.2*x.2)=L.1*(u.2*x.2)*M:=by grind
 rw[l,g];have j:(u.1*x.2+s*x.1*u.2)*L.2*M=(u.1*M)*x.2*L.2+s*(x.1*M)*u.2*L.2:=by grind
 rw[j,f,e]
 grind
end K34
namespace K35
open PySem L2 DL Com
def ix_mem(c:0<=v)(b:v<(ds.length:Int)):∃d,aB (.lst ds) (.int v)=.ok d/\d∈ds:=by
 have a:v.toNat<ds.length:=by omega
 refine⟨ds[v.toNat],?_,VB a⟩;have:=dJ<|Uq a;rwa[show((v.toNat:Nat):Int)=v by omega]at this
end K35
namespace K34
open PySem L2 DL Com
def kF(c:Nat×Int×UL):D:=.tup [.int (c.1:Int),.int c.2.1,.str c.2.2]
def dF(c:Nat×Int):D:=.tup [.int (c.1:Int),.int c.2]
def Rv(ts:List fQ)(p:UL)(k:Nat)(s:Int)(q:UL):Prop:=∃t,ts[k]?=W1 t/\((s=1/\t.a=p/\t.b=q)∨(s=-1/\t.w="both"/\t.b=p/\t.a=q))
def Wk(ts:List fQ):UL->List (Nat×Int)->UL->Prop
 |p,[],q=>p=q
 |p,c::r,q=>∃a,Rv ts p c.1 c.2 a/\Wk ts a r q
theorem Wk.snoc{ts:List fQ}{k:Nat}{s:Int}{q a:UL}:∀{p:UL}{l:List<|Nat×Int},Wk ts p l q->Rv ts q k s a->Wk ts p (l++[(k,s)]) a
 |p,[],h,g=>by
  cases h;exact⟨a,g,rfl⟩
 |p,c::r,⟨b,e,d⟩,g=>⟨b,e,Wk.snoc d g⟩
def BS(w:iE)(p:UL)(been:bv)(c:Nat×Int×UL):Prop:=Rv w.ts p c.1 c.2.1 c.2.2/\c.2.2∉been/\c.2.2∈w.ps
section
variable {w:iE}{p:UL}{been:bv}{st:List (Nat×Int)}{ws:List (Nat×Int×UL)}{k:Nat}{t:fQ}{A2:D}{x9:Sl}
theorem yT:∀{a b:bv},a.Nodup->(∀x∈a,x∈b)->a.length<=b.length
 |[],b,_,_=>XD _
 |x::a,b,h,s=>by
  rw[U6]at h;have f:x∈b:=s x Uu;have:=yT (a:=a) (b:=b.erase x) h.2 λy d=>by
   have c:y≠x:=λe=>h.1<|e▸d;exact(san c).mpr<|s y<|Up _ d
  rw[ZI f]at this;have g:0<b.length:=Z6 f;rw[UP];omega
end
def Ea{ws:List<|Nat×Int×UL}:gD (.lst<|ws.map kF) (.lst [])=.ok (.bl ws.isEmpty):=by
 have b:br 40 (.lst<|ws.map kF)=VT:=Vd.mpr λd a=>by
  obtain⟨c,_,rfl⟩:=UK.mp a;rfl
 unfold gD;rw[dh ⟨b,rfl⟩,pG];cases ws<;>rfl
def QO:iM (.str x) (.str y)=.ok (.bl (!(decide (x=y)))):=by
 unfold iM;rw[dh ⟨rfl,rfl⟩,du];rfl
def Gw{i j k:Nat}:zT [i,j,k] ρ (kF c)=.ok (.nx<|((ρ.set i<|.sh<|.int (c.1:Int)).set j<|.sh<|.int c.2.1).set k<|.sh<|.str c.2.2):=rfl
def A9:Dp a f ρ=(f<|iD ρ).bind (zT a ρ):=rfl
def oC:eZ a c s ρ=bY c s (a ρ) ρ:=rfl
abbrev ips:=K36.ips
def Lm{n k:Nat}(h:k<n):AJ n (k:Int)=W1 k:=by
 unfold AJ;rw[dh 0#2,dh 0#2,V6]
def Bd(d:D):Prop:=∀a b,d=.tup [.int a,.int b]->a.natAbs<jD/\b.natAbs<jD
def EV(h:kJ d=VT):∃x:cu,d=fr x/\Low x:=by
 unfold kJ at h;split at h
 .rename_i p q
  rw[US]at h;exact⟨(p,q),rfl,⟨ef h.1,eq_of_beq h.2⟩⟩
 .cases h
def Bd.fin(h:Bd<|fr x)(l:Low x):aV x:=⟨l,(h x.1 x.2 rfl).1,(h x.1 x.2 rfl).2⟩
def nt(t:fQ)(r:cu)(c:Bool):D->Bool
 |.tup [.int a,.int b]=>(decide (1<=b)&&(Vc a b==1))&&((if c=VT then a==0 else !(flt r ((a.natAbs:Int),b)))&&!(decide (a<0)&&decide (t.w="one")))
 |_=>U9
def Lq(h:kJ d=U9):nt t r i d=U9:=by
 unfold nt;split
 .rename_i a b
  have c:(decide (1<=b)&&(Vc a b==1))=U9:=h;rw[c];rfl
 .rfl
def good_low(h:Low x):nt t r i (fr x)=((if i=VT then x.1==0 else !(flt r ((x.1.natAbs:Int),x.2)))&&!(decide (x.1<0)&&decide (t.w="one"))):=by
 show((decide (1<=x.2)&&(Vc x.1 x.2==1))&&_)=_;rw[dg h.q1,h.g1];rfl
def sE(b:aV x)(a:y.1.natAbs<jD/\y.2.natAbs<jD):m_is_less [fr x,fr y]=.ok (.bl<|flt x y) :=
 AN (Uy b.pN dG) (Uy b.qN dG) (Uy a.1 dG) (Uy a.2 dG)
def FV(u:aV r)(v:Bd d):m_is_amount [aX t,(if i=VT then .tup [.int 0,.int 1] else fr r),d]=.ok (.bl<|nt t r i d):=by
 have b:=ou d;cases e:kJ d with
 |false=>
  rw[e]at b;rw[Lq e];generalize (if i=VT then D.tup [.int 0,.int 1] else fr r)=R;erw[m_is_amount,iz,b]
 |true=>
  rw[e]at b;obtain⟨x,rfl,p⟩:=EV e;have o:=v.fin p;rw[good_low p];have n:aB (fr x) (.int 0)=.ok (.int x.1):=rfl;have m:aB (fr x) (.int 1)=.ok (.int x.2):=rfl;have l:aB (aX t) (.int 2)=.ok (.str t.w):=rfl;have a:LP (.int x.1) (.int 0)=.ok (.bl (decide (x.1<0))):=rfl;have j:(x.1.natAbs:Int).natAbs<jD:=by rw[Int.natAbs_natCast];exact o.pN
  have f:m_is_less [(if i=VT then .tup [.int 0,.int 1] else fr r),.tup [.int (x.1.natAbs:Int),.int x.2]]=.ok (.bl (!(if i=VT then x.1==0 else !(flt r ((x.1.natAbs:Int),x.2))))):=by
   cases i with
   |true=>
    have:=sE (x:=(0,1)) (y:=((x.1.natAbs:Int),x.2)) ⟨⟨by decide,by decide⟩,by decide,by decide⟩ ⟨j,o.qN⟩;rw[dh rfl,dh rfl];refine this.trans ?_
    congr 2
    show decide ((0:Int)*x.2<(x.1.natAbs:Int)*1)=_;cases c:(x.1==0) with
    |true=>have:=eq_of_beq c;exact dy 0#2
    |false=>have:x.1≠0:=(λz=>by rw[z]at c;cases c);exact dg 0#2
   |false=>
    have:=sE (x:=r) (y:=((x.1.natAbs:Int),x.2)) u ⟨j,o.qN⟩;rw[dV Vn,dV Vn,sac];exact this
  generalize (if i=VT then x.1==0 else !(flt r ((x.1.natAbs:Int),x.2)))=g at *;generalize (if i=VT then D.tup [.int 0,.int 1] else fr r)=R at *;generalize fr x=X at *;generalize aX t=A at *;cases s:decide (x.1<0) with
  |false=>
   rw[s]at a;erw[m_is_amount,iz,b,n,m,l,a,Cod.abs_ok,f,sac,WZ,ZN]
  |true=>
   rw[s]at a;cases q:decide (t.w="one") with
   |true=>
    erw[m_is_amount,iz,b,n,m,l,a,K36.eqs,q,Yo]
   |false=>
    erw[m_is_amount,iz,b,n,m,l,a,K36.eqs,q,Cod.abs_ok,f,sac,ZN,Xt,Yo]
def Oz(r:aw Fl):Bool:=match r with
 |.ok (.rt _)=>VT
 |.exn _=>VT
 |_=>U9
def AZ{tg:Ev->D->aw Ev}{body:am}{out:aw Fl}(n:Oz out=VT)(P:Nat->Ev->Prop):∀(k:Nat) (ds:ac) (ρ:Ev) (b:Nat),P b ρ ->
  (∀j d,j<k->ds[j]?=W1 d->∀ρ,P (b+j) ρ->∃ρ1 ρ2,tg ρ d=.ok ρ1/\body ρ1=.ok (.nx ρ2)/\P (b+j+1) ρ2)->(∃d,ds[k]?=W1 d/\∀ρ,P (b+k) ρ->∃ρ1,tg ρ d=.ok ρ1/\body ρ1=out)->cD tg body ds ρ=out:=by
 intro k
 induction k with
 |zero=>
  rintro ds ρ b a g ⟨d,c,i⟩;cases ds with
  |nil=>cases c
  |cons o r=>
   cases c;obtain⟨ρ1,m,l⟩:=i ρ a
   conv=>lhs;unfold cD
   rw[m];show(body ρ1).bind _=out;rw[l];cases out with
   |ok f=>cases f<;>first|rfl|cases n
   |exn x=>rfl|stuck=>cases n
 |succ k p=>
  rintro ds ρ b a g ⟨d,c,i⟩;cases ds with
  |nil=>cases c
  |cons o r=>
   obtain⟨ρ1,ρ2,m,l,s⟩:=g 0 o 0#2 rfl ρ a
   conv=>lhs;unfold cD
   rw[m];show(body ρ1).bind _=out;rw[l];refine p r ρ2 (b+1) s (λj e t q ρ a=>?_) ⟨d,c,λρ a=>i ρ (by rw[show b+(k+1)=b+1+k by omega];exact a)⟩;have:=g (j+1) e 0#2 q ρ (by rw[show b+(j+1)=b+1+j by omega];exact a);rwa[show b+(j+1)+1=b+1+j+1 by omega]at this
theorem first_bad(g:Nat->Bool):∀n,(∀k,k<n->g k=VT)∨∃k,k<n/\g k=U9/\∀j,j<k->g j=VT
 |0=>.inl λk h=>ee h 0#2
 |n+1=>by
  rcases first_bad g n with h|⟨k,f,b,a⟩
  .cases e:g n with
   |true=>
    refine .inl λk d=>?_
    by_cases c:k=n
    .subst c;exact e
    .exact h k 0#2
   |false=>exact .inr ⟨n,by omega,e,h⟩
  .exact .inr ⟨k,by omega,b,a⟩
def F8(w:iE)(a:List cu)(ks:ci)(ds:ac)(k:Nat):Bool:=match w.ts[k]?,a[k]?,ds[k]? with
 |some t,W1 r,W1 d=>nt t r (decide (k∈ks)) d
 |_,_,_=>U9
structure Su (w:iE) (rs:List cu) (ks:ci):Prop where
 W:cF w
 T:rN w ks
 rl:rs.length=w.ts.length
 rf:∀r∈rs,aV r/\0<=r.1
def Lo{k:Nat}:vY (.int (k:Int)) (aQ ks)=.ok (.bl (decide (k∈ks))):=by
 have h:=K35.notin_nums (k:=k) (ks:=ks);unfold bL at h;unfold vY;cases e:D0 (.int (k:Int)) (aQ ks) with
 |none=>rw[e]at h;cases h
 |some b=>
  rw[e]at h;simp only[aw.ok.injEq,D.bl.injEq]at h ⊢;cases b<;>cases a:decide (k∈ks)<;>first|rfl|(rw[a]at h;cases h)
section
variable {w:iE}{rs:List cu}{ks:ci}{ds:ac}
def Tw(S:Su w rs ks)(f:ds.length=w.ts.length){k:Nat}(a:k<w.ts.length):∃t r d,w.ts[k]?=W1 t/\rs[k]?=W1 r/\ds[k]?=W1 d/\F8 w rs ks ds k=nt t r (decide (k∈ks)) d:=by
 have e:w.ts[k]?=W1 w.ts[k]:=Uq a;have c:rs[k]?=W1 (rs[k]'(by rw[S.rl];exact a)):=Uq _;have b:ds[k]?=W1 (ds[k]' 0#2):=Uq _;refine⟨_,_,_,e,c,b,?_⟩;unfold F8;rw[e,c,b]
abbrev Jx(w:iE)(rs:List cu)(ks:ci)(ds:ac)(x4 x5 x6:Sl):Ev:=[.sh<|aN w,.sh<|.lst<|rs.map fr,.sh<|aQ ks,.sh<|.lst ds,x4,x5,x6]
def M1(S:Su w rs ks){k:Nat}(p:w.ts[k]?=W1 t)(l:rs[k]?=W1 r)(q:ds[k]?=W1 d)(o:Bd d) :
  ∃m,xZ (Jx w rs ks ds (.sh<|.int (k:Int)) (.sh d) x6)=(if nt t r (decide (k∈ks)) d=VT then .ok (.nx<|Jx w rs ks ds (.sh<|.int (k:Int)) (.sh d) m) else .exn ⟨"NoFlow",[("at",.int (k:Int))]⟩):=by
 have n:=(S.rf r<|UM l).1;have a:=FV (t:=t) (i:=decide (k∈ks)) n o;have b:=Lo (k:=k) (ks:=ks);have f:aB (aN w) (.int 1)=.ok (.lst<|w.ts.map aX):=rfl;have e:aB (.lst<|w.ts.map aX) (.int (k:Int))=.ok (aX t):=GC p;have j:aB (.lst<|rs.map fr) (.int (k:Int))=.ok (fr r):=dJ (by rw[Uw,l];rfl);refine⟨.sh<|if decide (k∈ks)=VT then .tup [.int 0,.int 1] else fr r,?_⟩;unfold xZ Jx;cases c:decide (k∈ks) with
 |true=>
  rw[c]at a b;rw[dh rfl]at a ⊢;cases g:nt t r VT d with
  |true=>
   rw[g]at a;erw[b,f,e,a,et]
  |false=>
   rw[g]at a;rw[dV Vn];erw[b,f,e,a,qm,nK,lW]
 |false=>
  rw[c]at a b;rw[dV Vn]at a ⊢;cases g:nt t r U9 d with
  |true=>
   rw[g]at a;erw[b,f,e,j,a,et]
  |false=>
   rw[g]at a;rw[dV Vn];erw[b,f,e,j,a,qm,nK,lW]
def Oh{k:Nat}(h:(numbered 0 ds)[k]?=W1 d):∃e,ds[k]?=W1 e/\d=.tup [.int (k:Int),e]:=by
 rw[cU]at h;cases e:ds[k]? with
 |none=>rw[e]at h;cases h
 |some x=>
  rw[e,VR]at h;cases h;exact⟨x,rfl,rfl⟩
def amts_ok(S:Su w rs ks)(x:ds.length=w.ts.length)(E:∀d∈ds,Bd d) :
  ((∀k,k<w.ts.length->F8 w rs ks ds k=VT)->bH [aN w,.lst<|rs.map fr,aQ ks,.lst ds]=.ok .non)/\(∀k,k<w.ts.length->F8 w rs ks ds k=U9->(∀j,j<k->F8 w rs ks ds j=VT)->bH [aN w,.lst<|rs.map fr,aQ ks,.lst ds]=.exn ⟨"NoFlow",[("at",.int (k:Int))]⟩):=by
 have N:=S.W.t14;have step:∀(j:Nat) (d:D),(numbered 0 ds)[j]?=W1 d->F8 w rs ks ds j=VT->∀b,(∃f c a,b=Jx w rs ks ds f c a)->∃n m,c5 [4,5] b d=.ok n/\xZ n=.ok (.nx m)/\∃f c a,m=Jx w rs ks ds f c a:=by
  rintro j d i M b ⟨f,c,a,rfl⟩;obtain⟨e,u,rfl⟩:=Oh i;have y:j<ds.length:=(Uz.mp u).1;obtain⟨t,r,O,B,A,l,z⟩:=Tw S x (k:=j) 0#2;rw[u]at l;cases l;obtain⟨H,o⟩:=M1 S (x6:=a) B A u<|E e<|UM u;rw[←z,M,dh rfl]at o;exact⟨_,_,nu rfl,o,_,_,_,rfl⟩
 have hlen:(((ds.length:Int)==((w.ts.length:Nat):Int)))=VT:=by rw[x];exact ei _
 have C:aB (aN w) (.int 1)=.ok (.lst<|w.ts.map aX):=rfl;refine⟨λs=>?_,λk L q g=>?_⟩
 .obtain⟨G,p,f,c,a,rfl⟩:=jI (ds:=numbered 0 ds) (tg:=c5 [4,5]) (body:=xZ) (ρ:=Jx w rs ks ds .no .no .no) (λ_ b=>∃f c a,b=Jx w rs ks ds f c a) (λj d i b v=>by
   have y:j<ds.length:=by have:=(Uz.mp i).1;rwa[di]at this
   exact step j d i (s j<|by omega) b v) ⟨_,_,_,rfl⟩
  unfold Jx at p;erw[bH,dz,C,Ut,hlen,p]
 .have p:=AZ (tg:=c5 [4,5]) (body:=xZ) (out:=.exn ⟨"NoFlow",[("at",.int (k:Int))]⟩) rfl (λ_ b=>∃f c a,b=Jx w rs ks ds f c a) k (numbered 0 ds) (Jx w rs ks ds .no .no .no) 0 ⟨_,_,_,rfl⟩ (λj d y i b v=>step j d i (g j y) b v) (by
   obtain⟨t,r,d,B,A,l,z⟩:=Tw S x L;refine⟨.tup [.int (k:Int),d],by rw[cU,l,VR];rfl,?_⟩;rintro b ⟨f,c,a,rfl⟩;obtain⟨H,o⟩:=M1 S (x6:=a) B A l<|E d<|UM l;rw[←z,q,dV Vn]at o;exact⟨_,nu rfl,o⟩)
  unfold Jx at p;erw[bH,dz,C,Ut,hlen,p,lW]
end
def yk(xs:List cu):List Int:=xs.map λx=>x.1*(bT xs / x.2)
def EO(g:xs.length<=60)(c:∀x∈xs,aV x):m_on_one_scale [.lst<|xs.map fr]=.ok (.tup [.lst<|(yk xs).map D.int,.int<|bT xs]):=by
 have a:=tu (os:=xs.map W1) (by rw[Ut];omega) (λx h=>by
  obtain⟨y,b,e⟩:=UK.mp h;cases e;exact c x b)
 have f:(xs.map W1).map cS=xs.map fr:=by rw[Ve];rfl
 rw[K36.somes_some,f]at a;have d:(xs.map W1).map (wI<|bT xs)=(xs.map λx=>x.1*(bT xs / x.2)).map D.int:=by rw[Ve,Ve];rfl
 rwa[d]at a
def bot_pos(b:∀x∈xs,aV x):0<bT xs/\∀x∈xs,x.2∣bT xs:=by
 obtain⟨B,_,a⟩:=zt b 1 0 ⟨by decide,by decide⟩;exact⟨B.pos,a⟩
def xC(w:iE)(Z:Int)(p:UL):Bool:=if p=w.la then VT else if p=w.fi then !(decide (Z<0)) else(Z==0)
section
variable {w:iE}{xs:List cu}
def BH(e:xs.length=w.ts.length):m_is_balanced [aN w,.lst<|(yk xs).map D.int,.str p]=.ok (.bl<|if p=w.fi then !(decide (ips p w.ts (yk xs)<0)) else(ips p w.ts (yk xs)==0)):=by
 have b:=K36.goes_ok (w:=w) (P:=p) (zs:=yk xs) (by unfold yk;rw[Ut];exact e);have d:aB (aN w) (.int 2)=.ok (.str w.fi):=rfl;have a:∀z:Int,O5 (.int z) (.int 0)=.ok (.bl (!(decide (z<0)))):=λz=>by
  show aw.ok (D.bl (decide (0<=z)))=_
  congr 2
  by_cases c:z<0
  .rw[dg c,dy<|by omega];rfl
  .rw[dy c,dg<|by omega];rfl
 change m_goes_from [aN w,.lst<|(yk xs).map D.int,.str p]=.ok (.int<|ips p w.ts<|yk xs) at b;generalize ips p w.ts (yk xs)=Z at *
 by_cases c:p=w.fi
 .rw[dh c]
  erw[m_is_balanced,jY,b,d,K36.eqs,dg c,a]
 .rw[dV c]
  erw[m_is_balanced,jY,b,d,K36.eqs,dy c]
abbrev Jt(w:iE)(xs:List cu)(x3:Sl):Ev:=[.sh<|aN w,.sh<|.lst<|xs.map fr,.sh<|.lst<|(yk xs).map D.int,x3]
def MZ(d:xs.length=w.ts.length):xT (Jt w xs<|.sh<|.str p)=(if xC w (ips p w.ts<|yk xs) p=VT then .ok (.nx<|Jt w xs<|.sh<|.str p) else .exn ⟨"Unbalanced",[("place",.str p)]⟩):=by
 have a:=BH (w:=w) d (p:=p);have b:aB (aN w) (.int 3)=.ok (.str w.la):=rfl;unfold xT Jt xC;generalize ips p w.ts (yk xs)=Z at *
 by_cases c:p=w.la
 .rw[dh c,dh rfl]
  erw[b,QO,dg c]
 .rw[dV c]
  cases g:(if p=w.fi then !(decide (Z<0)) else(Z==0)) with
  |true=>
   rw[g]at a;rw[dh rfl];erw[b,QO,dy c,a]
  |false=>
   rw[g]at a;rw[dV Vn];erw[b,QO,dy c,a,qm,nK,lW]
def Nz{zs:bv}{k:Nat}(h:(zs.map D.str)[k]?=W1 d):∃z,zs[k]?=W1 z/\d=.str z:=by
 rw[Uw]at h;cases e:zs[k]? with|none=>rw[e]at h;cases h|some z=>rw[e]at h;cases h;exact⟨z,rfl,rfl⟩
def F7(w:iE)(xs:List cu)(k:Nat):Bool:=match w.ps[k]? with
 |some p=>xC w (ips p w.ts<|yk xs) p
 |none=>U9
def bal_ok(W:cF w)(u:xs.length=w.ts.length)(B:∀x∈xs,aV x) :
  ((∀k,k<w.ps.length->F7 w xs k=VT)->bG [aN w,.lst<|xs.map fr]=.ok .non)/\(∀k p,w.ps[k]?=W1 p->F7 w xs k=U9->(∀j,j<k->F7 w xs j=VT)->bG [aN w,.lst<|xs.map fr]=.exn ⟨"Unbalanced",[("place",.str p)]⟩):=by
 have C:=W.t14;have m:=EO (xs:=xs) 0#2 B;have t:aB (aN w) (.int 0)=.ok (.lst<|w.ps.map D.str):=rfl;have step:∀(j:Nat) (d:D),(w.ps.map D.str)[j]?=W1 d->F7 w xs j=VT->∀b,(∃c,b=Jt w xs c)->∃i g,bK 3 b d=.ok i/\xT i=.ok (.nx g)/\∃c,g=Jt w xs c:=by
  rintro j d f r b ⟨c,rfl⟩;obtain⟨p,n,rfl⟩:=Nz f;have l:=MZ (w:=w) u (p:=p);unfold F7 at r;rw[n]at r;simp only at r;rw[r,dh rfl]at l;exact⟨_,_,rfl,l,_,rfl⟩
 refine⟨λq=>?_,λk p v a e=>?_⟩
 .obtain⟨y,o,c,rfl⟩:=jI (ds:=w.ps.map D.str) (tg:=bK 3) (body:=xT) (ρ:=Jt w xs .no) (λ_ b=>∃c,b=Jt w xs c) (λj d f b n=>by
   have s:j<w.ps.length:=by have:=(Uz.mp f).1;rwa[Ut]at this
   exact step j d f (q j s) b n) ⟨_,rfl⟩
  unfold Jt at o;erw[bG,dw,m,t,o]
 .have o:=AZ (tg:=bK 3) (body:=xT) (out:=.exn ⟨"Unbalanced",[("place",.str p)]⟩) rfl (λ_ b=>∃c,b=Jt w xs c) k (w.ps.map D.str) (Jt w xs .no) 0 ⟨_,rfl⟩ (λj d s f b n=>step j d f (e j s) b n) (by
   refine⟨.str p,by rw[Uw,v];rfl,?_⟩;rintro b ⟨c,rfl⟩;have l:=MZ (w:=w) u (p:=p);unfold F7 at a;rw[v]at a;simp only at a;rw[a,dV Vn]at l;exact⟨_,rfl,l⟩)
  unfold Jt at o;erw[bG,dw,m,t,o,lW]
end
def Cf{xs:List cu}(W:cF w)(f:xs.length=w.ts.length)(c:∀x∈xs,aV x/\0<=x.1):m_look_at_rooms [aN w,.lst<|xs.map fr]=.ok .non:=by
 have q:=W.t14;have i:aB (aN w) (.int 1)=.ok (.lst<|w.ts.map aX):=rfl;have o:∀b:Ev,dY 1 [] (bK 0) mYes (ak (af (ae 0) ax) m_is_length) b (xs.map fr)=.ok (.lst<|(xs.map fr).map λ_=>.bl VT):=λb=>by
  rw[ma (F:=λ_=>.bl VT) (by rw[Ut];omega)];intro d n;obtain⟨x,e,rfl⟩:=UK.mp n;refine⟨[.sh<|fr x],rfl,rfl,?_⟩;have:=lO (c x e).1.toLow (c x e).2;erw[this]
 have a:=K35.all_ok (ds:=xs.map fr) (g:=λ_=>VT);have j:(xs.map fr).all (λ_=>VT)=VT:=Vd.mpr λ_ _=>rfl;rw[j]at a;have m:m_has_lengths [aN w,.lst<|xs.map fr]=.ok (.bl VT):=by
  have l:iM (.int (xs.length:Int)) (.int (w.ts.length:Int))=.ok (.bl U9):=by rw[f,lM];simp
  have s:dP (.lst<|xs.map fr)=.ok (.int (xs.length:Int)):=by show aw.ok (D.int _)=_;rw[Ut]
  have r:dP (.lst<|w.ts.map aX)=.ok (.int (w.ts.length:Int)):=by show aw.ok (D.int _)=_;rw[Ut]
  generalize p:xs.map fr=X at *;erw[m_has_lengths,b_has_lengths,i,Ut]
  rw[show X.length=xs.length by rw[←p,Ut],f];erw[lM,bne_self_eq_false,o,a]
 have hw:=yh W;erw[m_look_at_rooms,eO,hw,m]
section
variable {w:iE}{rs:List cu}{ks:ci}{ds:ac}{d:D}
def look_of(S:Su w rs ks):m_look_at_flow [aN w,.lst<|rs.map fr,aQ ks,d]=((bH [aN w,.lst (rs.map fr),aQ ks,d]).bind λ_=>(bG [aN w,d]).bind λ_=>.ok .non):=by
 have b:=Cf S.W S.rl S.rf;have a:=wR S.W S.T;cases c:bH [aN w,.lst<|rs.map fr,aQ ks,d] with
 |stuck=>
  rw[show aQ ks=.lst (ks.map λ(k:Nat)=>D.int (k:Int)) from rfl]at *;unfold m_look_at_flow;rw[lT];unfold cK;erw[b,a,c]
  rfl
 |exn x=>erw[m_look_at_flow,cK,b,a,c,lW]
 |ok v=>
  cases e:bG [aN w,d] with
  |stuck=>
   erw[m_look_at_flow,cK,b,a,c,e]
   rfl
  |exn x=>erw[m_look_at_flow,cK,b,a,c,e,lW]
  |ok u=>erw[m_look_at_flow,cK,b,a,c,e]
end
structure El (d:D):Prop where
 b:Bd d
 k:Sy d d=VT
def HU(h:br 39 d=VT):Sy d d=VT:=by unfold Sy;rw[h];simp
def el_fr(i:x.1.natAbs<jD)(g:x.2.natAbs<jD):El (fr x):=⟨λa b e=>by
 have f:D.tup [.int x.1,.int x.2]=.tup [.int a,.int b]:=e;injection f with f;injection f with d c;injection d with d;injection c with c _;injection c with c;rw[←d,←c];exact⟨i,g⟩,HU<|r8 x⟩
def put_nat{k:Nat}(h:k<ds.length)(ρ:Ev)(i:Nat):DL.putAt ρ i ds d (.int (k:Int))=.ok (.nx<|ρ.set i<|.ow<|.lst<|ds.set k d):=IS<|Lm h
def Ui(x:cu):aB (fr x) (.int 0)=.ok (.int x.1):=rfl
end K34
namespace Flo
open PySem L2 DL Com
open K11 (gB)
open K54 (mQ)
def dR(as:List Int)(k:Nat):Int:=(as[k]?).getD 0
def eY(m:Int)(as:List Int)(t:Tn):List Int:=as.set t.n.toNat<|dR as t.n.toNat+t.sg*m
abbrev sB:am :=
 (aq (qO 3 (aa (aa (ae 3) (aU (ae 4)<|gI "number") aB) (aa (aU (ae 4)<|gI "sign") (ae 2) bf) aZ)<|aU (ae 4)<|gI "number")
 ao)
def Mi(N:Nat)(t:Tn):Prop:=(∃k:Nat,t.n=(k:Int)/\k<N)/\(t.sg=1∨t.sg=-1)
section
variable {as:List Int}{m:Int}{t:Tn}{p:List Tn}{A P:D}{N:Nat}
def mG:(eY m as t).length=as.length:=by unfold eY;rw[YC]
def yW{k:Nat}(h:k<as.length):aB (.lst<|as.map D.int) (.int (k:Int))=.ok (.int<|dR as k):=dJ (by
 unfold dR;rw[Uw,Uq h];rfl)
def ND(d:Mi as.length t)(e:m.natAbs<mw):sB [.sh A,.sh P,.sh<|.int m,.ow<|.lst<|as.map D.int,.sh<|iJ t]=.ok (.nx [.sh A,.sh P,.sh<|.int m,.ow<|.lst<|(eY m as t).map D.int,.sh<|iJ t]):=by
 obtain⟨⟨k,c,b⟩,l⟩:=d;have j:=yW b;have i:bf (.int t.sg) (.int m)=.ok (.int<|t.sg*m):=dh (fg (by rcases l with z|z<;>rw[z]<;>exact Uy (show(1:Nat)<jD by decide) dG) e);have g:eY m as t=as.set k (dR as k+t.sg*m):=by unfold eY;rw[c];rfl
 have f:∀a:Ev,DL.putAt a 3 (as.map D.int) (.int<|dR as k+t.sg*m) (.int (k:Int))=.ok (.nx<|a.set 3<|.ow<|.lst<|(as.map D.int).set k<|.int<|dR as k+t.sg*m):=λa=>K34.put_nat (by rw[Ut];exact b) a 3;have fn:=SR (t:=t);rw[c]at fn;rw[g,Z5];erw[fn,SQ,j,i,uS (show jS (.int<|dR as k+t.sg*m)=VT from rfl),f]
theorem G0(b:m.natAbs<mw):∀(p:List Tn) (as:List Int) (x4:Sl),(∀t∈p,Mi as.length t)->∃a,cD (bK 4) sB (p.map iJ) [.sh A,.sh P,.sh<|.int m,.ow<|.lst<|as.map D.int,x4]=.ok (.nx [.sh A,.sh P,.sh<|.int m,.ow<|.lst<|(p.foldl (eY m) as).map D.int,a])
 |[],as,x4,_=>⟨x4,rfl⟩
 |t::p,as,x4,h=>by
  obtain⟨a,e⟩:=G0 b p (eY m as t) (.sh (iJ t)) λs d=>by rw[mG];exact h s<|Up _ d
  exact⟨a,by rw[UB,fX (ρ1:=[.sh A,.sh P,.sh<|.int m,.ow<|.lst<|as.map D.int,.sh<|iJ t]) rfl (ND (h t Uu) b),e,VZ]⟩
def Kh(a:m.natAbs<mw)(b:as.length<=800)(h:∀t∈p,Mi as.length t):K37.m_sent_along [.lst<|as.map D.int,pD p,.int m]=.ok (.lst<|(p.foldl (eY m) as).map D.int):=by
 obtain⟨d,e⟩:=G0 (A:=.lst<|as.map D.int) (P:=pD p) a p as .no h;have c:m1 vt [.lst<|as.map D.int]=.ok (.lst<|as.map D.int):=by
  show vt (.lst<|as.map D.int)=_
  first|rfl|exact dh (by rw[Ut];exact UI b<|by decide)
 unfold pD at e ⊢;erw[K37.m_sent_along,K37.b_sent_along,c,e]
def gb:List Tn->Int
 |[]=>0
 |t::p=>p.foldl (λx s=>min x s.c) t.c
def Fh:∀{p:List Tn}{t:Tn},t∈p->gb p<=t.c:=by
 have key:∀(p:List Tn) (x:Int),p.foldl (λx s=>min x s.c) x<=x/\∀t∈p,p.foldl (λx s=>min x s.c) x<=t.c:=by
  intro p
  induction p with
  |nil=>intro x;exact⟨X7 _,λt h=>nomatch h⟩
  |cons s p e=>
   intro x;obtain⟨d,b⟩:=e<|min x s.c;rw[VZ];refine⟨by omega,λt a=>?_⟩;rcases UG.mp a with rfl|a
   .omega
   .exact b t a
 intro p t a;cases p with
 |nil=>cases a
 |cons s p=>
  obtain⟨d,b⟩:=key p s.c;rcases UG.mp a with rfl|a
  .exact d
  .exact b t a
def CH:∀{p:List Tn},p≠[]->∃t∈p,gb p=t.c:=by
 have key:∀(p:List Tn) (x:Int),p.foldl (λx s=>min x s.c) x=x∨∃t∈p,p.foldl (λx s=>min x s.c) x=t.c:=by
  intro p
  induction p with
  |nil=>intro x;exact .inl rfl
  |cons s p d=>
   intro x;rw[VZ];rcases d (min x s.c) with h|⟨t,b,a⟩
   .rw[h]
    by_cases c:x<=s.c
    .exact .inl 0#2
    .exact .inr ⟨s,Uu,by omega⟩
   .exact .inr ⟨t,Up _ b,a⟩
 intro p e;cases p with
 |nil=>exact ee rfl e
 |cons s p=>
  rcases key p s.c with h|⟨t,b,a⟩
  .exact⟨s,Uu,h⟩
  .exact⟨t,Up _ b,a⟩
end
theorem Ay:∀(p:List Tn) (x:Int),sC x (p.map (·.c))=p.foldl (λx s=>min x s.c) x
 |[],x=>rfl
 |t::p,x=>by
  rw[UB,VZ,←Ay p];show sC (if t.c<x then t.c else x) _=_
  congr 1
  show _=min x t.c;rw[Int.min_def];split<;>split<;>omega
def Ip(b:p≠[])(i:p.length<=800):K37.m_least_room [pD p]=.ok (.int<|gb p):=by
 have f:∀A,dY 1 [] (bK 0) (aa (aU (ae 0)<|gI "room") 0#4 l7) (aU (ae 0)<|gI "room") A (p.map iJ)=.ok (.lst ((p.map (·.c)).map D.int)):=λA=>by
  rw[K51.comp_pick iJ (λt=>W1<|.int t.c) 0#2]
  .rw[Ve,←YD];rfl
  .intro t g
   have e:l7 (.int t.c) .non=.ok (.bl VT):=rfl;refine⟨[.sh<|iJ t],rfl,.inr ⟨_,rfl,?_,?_⟩⟩
   .erw[Lw,e]
   .erw[Lw]
 have d:xH (.lst ((p.map (·.c)).map D.int))=.ok (.int<|gb p):=by
  cases p with
  |nil=>exact ee rfl b
  |cons t p=>
   show(match gN (((t::p).map (·.c)).map D.int) with|some (n::a)=>aw.ok (D.int<|sC n a)|_=>.stuck)=_;rw[uw];show aw.ok (D.int (sC t.c (p.map (·.c))))=_;rw[Ay];rfl
 unfold pD;erw[K37.m_least_room,K37.b_least_room,f,d]
open K11 (gB)
open K54 (lR)
def mh(zs as:List Int)(k:Nat)(t:fQ):Int:=if t.w="one" then dR as k else dR zs k+dR as k
def j7(zs as:List Int)(k:Nat)(t:fQ):List Tn:=[⟨(k:Int),1,t.a,t.b,dR zs k-dR as k⟩,⟨(k:Int),-1,t.b,t.a,mh zs as k t⟩]
def m9(zs:List Int)(ks:ci)(as:List Int):Nat->List fQ->List Tn
 |_,[]=>[]
 |k,t::r=>(if k∈ks then[] else j7 zs as k t)++m9 zs ks as (k+1) r
theorem xY:∀{pre:List fQ}{k:Nat},m9 zs ks as k (pre++[t])=m9 zs ks as k pre++(if k+pre.length∈ks then[] else j7 zs as (k+pre.length) t)
 |[],k=>by
  show(if k∈ks then[] else j7 zs as k t)++[]=[]++(if k+0∈ks then[] else j7 zs as (k+0) t);rw[VN,V8,XN]
 |s::pre,k=>by
  rw[Wu,m9,xY,m9,UP,Xd,show k+1+pre.length=k+(pre.length+1) by omega]
theorem pS:∀{L:List fQ}{k:Nat},(m9 zs ks as k L).length<=2*L.length
 |[],k=>by simp[m9]
 |t::L,k=>by
  rw[m9,Vf,UP];have:=pS (zs:=zs) (ks:=ks) (as:=as) (L:=L) (k:=k+1);split
  .simp;omega
  .simp[j7];omega
theorem vP:∀{L:List fQ}{k:Nat},s∈m9 zs ks as k L↔∃i t,L[i]?=W1 t/\k+i∉ks/\s∈j7 zs as (k+i) t
 |[],k=>by simp[m9]
 |t::L,k=>by
  rw[m9,UO,vP];constructor
  .rintro(h|⟨i,u,a,d,b⟩)
   .by_cases c:k∈ks
    .rw[dh c]at h;cases h
    .rw[dV c]at h;exact⟨0,t,rfl,c,h⟩
   .exact⟨i+1,u,a,by rw[show k+(i+1)=k+1+i by omega];exact d,by rw[show k+(i+1)=k+1+i by omega];exact b⟩
  .rintro⟨i,u,a,d,b⟩
   cases i with
   |zero=>
    simp at a;subst a;exact .inl (by rw[dV (by simpa using d)];exact b)
   |succ i=>exact .inr ⟨i,u,by simpa using a,by rw[show k+1+i=k+(i+1) by omega];exact d,by rw[show k+1+i=k+(i+1) by omega];exact b⟩
noncomputable abbrev tB:am :=
 (aq (cT (aa (ae 5) (ae 2) bL)
 (aq (aH 7<|JL (aa (aa (ae 6) 2#0 aB) 0#"one" gD) (aa (ae 3) (ae 5) aB)<|aa (aa (ae 1) (ae 5) aB) (aa (ae 3) (ae 5) aB) aZ)
 (aq (bU 4<|ak (af (ae 5)<|af 1#0<|af (aa (ae 6) 0#0 aB)<|af (aa (ae 6) 1#0 aB)<|af 0#0<|af (aa (aa (ae 1) (ae 5) aB) (aa (ae 3) (ae 5) aB) gQ) ax)<|CF "Turn" ["number","sign","here","there","cost","room"])
 (aq (bU 4<|ak (af (ae 5)<|af (aU 1#0 ko)<|af (aa (ae 6) 1#0 aB)<|af (aa (ae 6) 0#0 aB)<|af 0#0<|af (ae 7) ax)<|CF "Turn" ["number","sign","here","there","cost","room"])
 ao)))
 ao)
 ao)
def Mw{n sg c:Int}:iJ ⟨n,sg,a,b,c⟩=.ob (.ins "Turn" ["number","sign","here","there","cost","room"]) [.int n,.int sg,.str a,.str b,.int 0,.int c]:=rfl
section
variable {zs as:List Int}{ks:ci}{t:fQ}{k:Nat}{W:D}{x7:Sl}{L:List Tn}
def Nt(s:k<zs.length)(u:k<as.length)(x:L.length<=900):∃r,tB [.sh W,.sh<|.lst<|zs.map D.int,.sh<|aQ ks,.sh<|.lst<|as.map D.int,.ow<|.lst<|L.map iJ,.sh<|.int (k:Int),.sh<|aX t,x7] =
  .ok (.nx [.sh W,.sh<|.lst<|zs.map D.int,.sh<|aQ ks,.sh<|.lst<|as.map D.int,.ow<|.lst<|(L++(if k∈ks then[] else j7 zs as k t)).map iJ,.sh<|.int (k:Int),.sh<|aX t,r]):=by
 have e:bL (.int (k:Int)) (aQ ks)=.ok (.bl (!(decide (k∈ks)))):=K11.notIn_nums
 by_cases c:k∈ks
 .rw[dg c]at e
  refine⟨x7,?_⟩;rw[dh c,VN];erw[e]
 .rw[dy c]at e
  have o:=yW s;have n:=yW u;have l:aB (aX t) (.int 0)=.ok (.str t.a):=rfl;have j:aB (aX t) (.int 1)=.ok (.str t.b):=rfl;have i:aB (aX t) (.int 2)=.ok (.str t.w):=rfl;have m:gQ (.int<|dR zs k) (.int<|dR as k)=.ok (.int<|dR zs k-dR as k):=rfl;have q:decide ((L.map iJ).length<=999)=VT:=dg (by rw[Ut];omega);have p:∀d:D,decide ((L.map iJ++[d]).length<=999)=VT:=λd=>dg (by rw[Vf,Ut,WR];omega);have v:(L++j7 zs as k t).map iJ=(L.map iJ++[iJ ⟨(k:Int),1,t.a,t.b,dR zs k-dR as k⟩])++[iJ ⟨(k:Int),-1,t.b,t.a,mh zs as k t⟩]:=by
   rw[U7,Xd];rfl
  rw[dV c,v];refine⟨.sh<|.int<|mh zs as k t,?_⟩
  by_cases f:t.w="one"
  .have g:mh zs as k t=dR as k:=dh f
   rw[g];erw[e,l,j,i,gB,dg f,o,n,m,cN q,cN<|p _,Mw]
  .have g:mh zs as k t=dR zs k+dR as k:=dV f
   rw[g];erw[e,l,j,i,gB,dy f,o,n,m,cN q,cN<|p _,Mw]
end
open K11 (gB)
open K54 (lR)
def cJ(w:iE)(zs:List Int)(ks:ci)(as:List Int):List Tn:=(m9 zs ks as 0 w.ts).filter λt=>decide (0<t.c)
theorem tQ:∀(L:List Tn),(L.filterMap λt=>if 0<t.c then W1 (iJ t) else Wp)=(L.filter λt=>decide (0<t.c)).map iJ
 |[]=>rfl
 |t::L=>by
  rw[V5,List.filter_cons]
  by_cases h:0<t.c
  .simp only[dh h,dg h,et,UB,tQ L]
  .simp only[dV h,dy h,YX,if_false,tQ L]
section
variable {w:iE}{zs as:List Int}{ks:ci}
def uo(W:cF w):(cJ w zs ks as).length<=28:=by
 have b:=List.length_filter_le (λt:Tn=>decide (0<t.c))<|m9 zs ks as 0 w.ts;have a:=pS (zs:=zs) (ks:=ks) (as:=as) (L:=w.ts) (k:=0);have:=W.t14;unfold cJ;omega
def Io(h:s∈cJ w zs ks as):∃k t,w.ts[k]?=W1 t/\k∉ks/\s∈j7 zs as k t/\0<s.c:=by
 unfold cJ at h;obtain⟨e,d⟩:=WS.mp h;obtain⟨i,t,f,b,a⟩:=vP.mp e;rw[VR]at b a;exact⟨i,t,f,b,a,ef d⟩
def Gx(W:cF w)(s:zs.length=w.ts.length)(x:as.length=w.ts.length):K37.m_turns_left [aN w,.lst<|zs.map D.int,aQ ks,.lst<|as.map D.int]=.ok (.lst<|(cJ w zs ks as).map iJ):=by
 have j:=W.t14;obtain⟨g,e,d,b,a,rfl⟩:=lR (tg:=c5 [5,6]) (body:=tB) aX (L:=w.ts) (λpre f=>∃d b a,f=[.sh<|aN w,.sh<|.lst<|zs.map D.int,.sh<|aQ ks,.sh<|.lst<|as.map D.int,.ow<|.lst<|(m9 zs ks as 0 pre).map iJ,d,b,a])
  (λpre t post o f z9=>by
   obtain⟨d,b,a,p⟩:=z9;subst p;have v:pre.length<w.ts.length:=by rw[o];simp
   have l:=pS (zs:=zs) (ks:=ks) (as:=as) (L:=pre) (k:=0);obtain⟨i,q⟩:=Nt (zs:=zs) (as:=as) (ks:=ks) (t:=t) (k:=pre.length) (W:=aN w) (x7:=a) (L:=m9 zs ks as 0 pre) 0#2 0#2 0#2;refine⟨_,_,rfl,q,.sh<|.int (pre.length:Int),.sh<|aX t,i,?_⟩;rw[xY,VR]) ⟨.no,.no,.no,rfl⟩
 have e:cD (c5 [5,6]) tB (numbered 0<|w.ts.map aX) [.sh<|aN w,.sh<|.lst<|zs.map D.int,.sh<|aQ ks,.sh<|.lst<|as.map D.int,.ow<|.lst [],.no,.no,.no]=_:=e;have m:aB (aN w) (.int 1)=.ok (.lst<|w.ts.map aX):=rfl;have n:∀A,dY 1 [] (bK 0) (aa (aU (ae 0)<|gI "room") 0#0 CY) (ae 0) A ((m9 zs ks as 0 w.ts).map iJ)=.ok (.lst<|(cJ w zs ks as).map iJ):=λA=>by
  have l:=pS (zs:=zs) (ks:=ks) (as:=as) (L:=w.ts) (k:=0);rw[K51.comp_pick iJ (λt=>if 0<t.c then W1 (iJ t) else Wp) 0#2]
  .rw[tQ];rfl
  .intro t u
   have e:CY (.int t.c) (.int 0)=.ok (.bl (decide (t.c > 0))):=rfl
   by_cases h:0<t.c
   .rw[dg h]at e
    refine⟨[.sh<|iJ t],rfl,.inr ⟨iJ t,dh h,?_,?_⟩⟩
    .erw[Lw,e]
    .erw[]
   .rw[dy h]at e
    refine⟨[.sh<|iJ t],rfl,.inl ⟨dV h,?_⟩⟩;erw[Lw,e]
 erw[K37.m_turns_left,K37.b_turns_left,m,e,n]
theorem fA{b:Type}{g:b->D}(h:∀a,jz (g a)=VT):∀(L:List b),noFns (L.map g)=VT
 |[]=>rfl
 |a::L=>by rw[UB,noFns,h,fA h L];rfl
def Ia(t:fQ):jz (aX t)=VT:=by
 cases e:t.o with|none|some x=>unfold aX;rw[e];rfl
def HZ:jz (aN w)=VT:=by
 have b:noFns (w.ps.map D.str)=VT:=fA (λ_=>rfl) _;have a:noFns (w.ts.map aX)=VT:=fA Ia _;show(noFns (w.ps.map D.str)&&(noFns (w.ts.map aX)&&VT))=VT;rw[b,a];rfl
def yV(W:cF w)(g:zs.length=w.ts.length)(j:as.length=w.ts.length):K37.lt_filled (uq "most_flow") [aN w,aQ ks,.tup [.lst<|zs.map D.int,.int B]] [.lst<|as.map D.int]=.ok (.lst<|(cJ w zs ks as).map iJ):=by
 have h:=Gx (ks:=ks) W g j;have l:aB (.tup [.lst<|zs.map D.int,.int B]) (.int 0)=.ok (.lst<|zs.map D.int):=rfl;have f:noFns (as.map D.int)=VT:=fA (λ_=>rfl) _;have e:noFns (zs.map D.int)=VT:=fA (λ_=>rfl) _;have c:noFns (ks.map λ(k:Nat)=>D.int (k:Int))=VT:=fA (λ_=>rfl) _;have b:noFns [.lst<|as.map D.int]=VT:=by show(noFns (as.map D.int)&&VT)=VT;rw[f];rfl
 have a:noFns [aN w,aQ ks,.tup [.lst<|zs.map D.int,.int B]]=VT:=by
  show(jz (aN w)&&(noFns (ks.map λ(k:Nat)=>D.int (k:Int))&&((noFns (zs.map D.int)&&VT)&&VT)))=VT;rw[HZ,e,c];rfl
 have i:K37.bl_most_flow [.sh<|.lst<|as.map D.int,.sh<|aN w,.sh<|aQ ks,.sh<|.tup [.lst<|zs.map D.int,.int B]]=.ok (.lst<|(cJ w zs ks as).map iJ):=by
  erw[K37.bl_most_flow,l,h]
 show Fj 1 3 K37.bl_most_flow _ _=_;unfold Fj;rw[dh ⟨rfl,rfl,b,a⟩];show(match K37.bl_most_flow [.sh<|.lst<|as.map D.int,.sh<|aN w,.sh<|aQ ks,.sh<|.tup [.lst<|zs.map D.int,.int B]] with|.ok d=>aw.ok d|_=>.stuck)=_;rw[i]
end
def ek(fi:UL)(t:fQ):Int:=(if t.a=fi then 1 else 0)-(if t.b=fi then 1 else 0)
def dA(fi:UL):List fQ->List Int->Int
 |t::a,x::b=>x*ek fi t+dA fi a b
 |_,_=>0
theorem DM{fi:UL}{d:Int}:∀{ts:List fQ}{as:List Int}{k:Nat}{t:fQ},ts[k]?=W1 t->k<as.length->dA fi ts (as.set k<|dR as k+d)=dA fi ts as+d*ek fi t
 |[],_,_,_,h,_=>by simp at h
 |_::_,[],_,_,_,h=>by simp at h
 |u::ts,x::as,0,t,h,_=>by
  simp at h;subst h;show(x+d)*ek fi u+dA fi ts as=x*ek fi u+dA fi ts as+d*ek fi u;rw[Zg];omega
 |u::ts,x::as,k+1,t,h,b=>by
  have a:=DM (fi:=fi) (d:=d) (ts:=ts) (as:=as) (k:=k) (t:=t) (by simpa using h) (by simpa using b);show x*ek fi u+dA fi ts (as.set k<|dR as k+d)=x*ek fi u+dA fi ts as+d*ek fi t;rw[a];omega
def BV(t:fQ)(z x:Int):Prop:=x<=z/\(if t.w="one" then 0<=x else -z<=x)
def BV.abs(h:BV t z x)(b:0<=z):x.natAbs<=z.natAbs:=by
 obtain⟨c,a⟩:=h;split at a<;>omega
def dS(w:iE)(zs as:List Int):Prop:=as.length=w.ts.length/\∀k t,w.ts[k]?=W1 t->BV t (dR zs k) (dR as k)
def OU(h:t.a≠t.b):(ek fi t).natAbs<=1:=by
 unfold ek;split<;>split<;>first|omega|decide
def yn(zs:List Int):Nat:=(zs.map Int.natAbs).sum
theorem HR{fi:UL}:∀{ts:List fQ}{zs as:List Int},(∀t∈ts,t.a≠t.b)->(∀k t,ts[k]?=W1 t->(dR as k).natAbs<=(dR zs k).natAbs)->zs.length=ts.length->dA fi ts as<=(yn zs:Int)
 |[],zs,as,_,_,_=>by
  have:dA fi [] as=0:=by cases as<;>rfl
  rw[this];omega
 |t::ts,zs,[],_,_,_=>by show(0:Int)<=_;omega
 |t::ts,[],x::as,_,_,h=>by simp at h
 |t::ts,z::zs,x::as,e,d,j=>by
  have l:=HR (fi:=fi) (ts:=ts) (zs:=zs) (as:=as) (λu c=>e u<|Up _ c) (λk u c=>d (k+1) u c) (by simpa using j);have f:x.natAbs<=z.natAbs:=d 0 t rfl;have i:=OU (fi:=fi)<|e t Uu;show x*ek fi t+dA fi ts as<=_;have g:yn (z::zs)=z.natAbs+yn zs:=by unfold yn;rw[UB,WL]
  rw[g];have m:(x*ek fi t).natAbs<=z.natAbs:=by
   rw[Vr];exact UI (WN f i) 0#2
  omega
theorem tY:∀{p:List Tn}{a k:UL},Lk a p k->(a::p.map (·.b)).Nodup->(∀s∈p,∀u∈p,s.n=u.n->s.b=u.b∨(u.b=s.a/\s.b=u.a))->(p.map (·.n)).Nodup
 |[],_,_,_,_,_=>.nil
 |t::p,a,k,⟨l,j⟩,nd,d=>by
  rw[UB]at nd ⊢;obtain⟨g,f⟩:=U6.mp nd;refine U6.mpr ⟨λz=>?_,tY j f λs c u i=>d s (Up _ c) u<|Up _ i⟩;obtain⟨s,c,e⟩:=UK.mp z;rcases d t Uu s (Up _ c) e.symm with q|⟨q,_⟩
  .exact(U6.mp f).1<|q▸UK.mpr ⟨s,c,rfl⟩
  .exact g (Up _<|UK.mpr ⟨s,c,by rw[q,l]⟩)
def L7{k j:Nat}(h:k<as.length):dR (as.set k v) j=if j=k then v else dR as j:=by
 unfold dR
 by_cases e:j=k
 .subst e;rw[Vk h,dh rfl];rfl
 .rw[UN (Vw e),dV e]
def tm{k j:Nat}(e:s.n=(k:Int))(h:k<as.length):dR (eY m as s) j=if j=k then dR as k+s.sg*m else dR as j:=by
 unfold eY;rw[e,V6];exact L7 h
theorem wZ{w:iE}{zs:List Int}{m:Int}:∀{p:List Tn}{as:List Int},(p.map (·.n)).Nodup->dS w zs as->(∀s∈p,∃(k:Nat) (t:fQ),s.n=(k:Int)/\w.ts[k]?=W1 t/\BV t (dR zs k) (dR as k+s.sg*m))->dS w zs (p.foldl (eY m) as)
 |[],as,_,h,_=>h
 |s::p,as,nd,h,d=>by
  rw[UB]at nd;obtain⟨o,l⟩:=U6.mp nd;obtain⟨k,t,b,i,x⟩:=d s Uu;have f:k<as.length:=by rw[h.1];exact(Uz.mp i).1
  rw[VZ];refine wZ l ⟨by rw[mG];exact h.1,λj u a=>?_⟩ λr e=>?_
  .rw[tm b f]
   by_cases c:j=k
   .subst c
    rw[i]at a;cases a;rw[dh rfl];exact x
   .rw[dV c];exact h.2 j u a
  .obtain⟨j,u,g,v,q⟩:=d r (Up _ e)
   refine⟨j,u,g,v,?_⟩;rw[tm b f,dV<|λc=>o (by rw[b,←c,←g];exact UK.mpr ⟨r,e,rfl⟩)];exact q
def JK(fi:UL)(s:Tn):Int:=(if s.a=fi then 1 else 0)-(if s.b=fi then 1 else 0)
theorem qg{fi:UL}{ts:List fQ}{m:Int}:∀{p:List Tn}{as:List Int},as.length=ts.length->(∀s∈p,∃(k:Nat) (t:fQ),s.n=(k:Int)/\ts[k]?=W1 t/\s.sg*ek fi t=JK fi s)->dA fi ts (p.foldl (eY m) as)=dA fi ts as+m*(p.map<|JK fi).sum
 |[],as,_,_=>by simp
 |s::p,as,a,h=>by
  obtain⟨k,t,g,b,f⟩:=h s Uu;have d:k<as.length:=by rw[a];exact(Uz.mp b).1
  rw[VZ,qg (by rw[mG];exact a)<|λr c=>h r<|Up _ c,UB,WL];have e:eY m as s=as.set k (dR as k+s.sg*m):=by unfold eY;rw[g,V6]
  rw[e,DM b d,Int.mul_add,←f];have:s.sg*m*ek fi t=m*(s.sg*ek fi t):=by rw[Xl s.sg m,ZL]
  omega
def LH{k:UL}(j:Lk fi p k)(i:p≠[])(d:∀s∈p,s.b≠fi)(g:∀s∈p.tail,s.a≠fi):(p.map<|JK fi).sum=1:=by
 cases p with
 |nil=>exact ee rfl i
 |cons t p=>
  have z:∀(q:List Tn),(∀s∈q,s.a≠fi/\s.b≠fi)->(q.map<|JK fi).sum=0:=by
   intro q
   induction q with
   |nil=>intro _;rfl
   |cons s q e=>
    intro h;rw[UB,WL,e λu f=>h u<|Up _ f];unfold JK;rw[dV (h s Uu).1,dV (h s Uu).2];rfl
  rw[UB,WL,z p λs c=>⟨g s c,d s<|Up _ c⟩];unfold JK;rw[dh j.1,dV<|d t Uu];rfl
section
variable {w:iE}{zs as:List Int}{ks:ci}
def kG(h:s∈cJ w zs ks as):∃(k:Nat) (t:fQ),s.n=(k:Int)/\w.ts[k]?=W1 t/\k∉ks/\0<s.c/\((s.sg=1/\s.a=t.a/\s.b=t.b/\s.c=dR zs k-dR as k)∨(s.sg=-1/\s.a=t.b/\s.b=t.a/\s.c=mh zs as k t)):=by
 obtain⟨k,t,g,f,d,e⟩:=Io h;unfold j7 at d;rcases UG.mp d with rfl|d
 .exact⟨k,t,rfl,g,f,e,.inl ⟨rfl,rfl,rfl,rfl⟩⟩
 .obtain rfl:=UX.mp d
  exact⟨k,t,rfl,g,f,e,.inr ⟨rfl,rfl,rfl,rfl⟩⟩
def J7(m:s∈cJ w zs ks as)(l:u∈cJ w zs ks as)(e:s.n=u.n):s.b=u.b∨(u.b=s.a/\s.b=u.a):=by
 obtain⟨k,t,x,v,_,_,q⟩:=kG m;obtain⟨j,r,p,i,_,_,o⟩:=kG l;have:k=j:=by have:=x.symm.trans (e.trans p);omega
 subst this;rw[v]at i;cases i;rcases q with⟨_,g,d,_⟩|⟨_,g,d,_⟩<;>rcases o with⟨_,f,c,_⟩|⟨_,f,c,_⟩
 .exact .inl<|d.trans c.symm
 .exact .inr ⟨c.trans g.symm,d.trans f.symm⟩
 .exact .inr ⟨c.trans g.symm,d.trans f.symm⟩
 .exact .inl<|d.trans c.symm
def zU(h:s∈cJ w zs ks as):∃(k:Nat) (t:fQ),s.n=(k:Int)/\w.ts[k]?=W1 t/\s.sg*ek fi t=JK fi s:=by
 obtain⟨k,t,f,e,_,_,d⟩:=kG h;refine⟨k,t,f,e,?_⟩;unfold ek JK;rcases d with⟨c,b,a,_⟩|⟨c,b,a,_⟩<;>rw[c,b,a]<;>split<;>split<;>rfl
def Gz(A:dS w zs as)(h:s∈cJ w zs ks as)(i:0<=m)(j:m<=s.c):∃(k:Nat) (t:fQ),s.n=(k:Int)/\w.ts[k]?=W1 t/\BV t (dR zs k) (dR as k+s.sg*m):=by
 obtain⟨k,t,g,e,_,_,f⟩:=kG h;refine⟨k,t,g,e,?_⟩;obtain⟨l,d⟩:=A.2 k t e;unfold BV;rcases f with⟨b,_,_,a⟩|⟨b,_,_,a⟩
 .rw[b,Ze]
  refine⟨by omega,?_⟩;split<;>rename_i c<;>(first|rw[dh c]at d|rw[dV c]at d)<;>omega
 .rw[b]
  unfold mh at a;refine⟨by omega,?_⟩;split<;>rename_i c<;>(first|rw[dh c]at a|rw[dV c]at a)<;>omega
end
structure Pw (w:iE) (zs:List Int):Prop where
 l:zs.length=w.ts.length
 nn:∀k,0<=dR zs k
 bd:∀k,2*(dR zs k).natAbs<mw
abbrev fT:al:=aa (ae 3) (ae 4) zp
noncomputable abbrev Ub:am :=
 (aq (aH 1<|ak (af (ae 1)<|af (aa (ae 4) (ae 3) l9)<|af (ak (af (aa (ae 4) (ae 3) l9) ax) K37.m_least_room) ax) K37.m_sent_along)
 (aq (aH 4<|ak (af (qw K37.lt_filled 0<|af (ae 1) ax)<|af (ae 2) ax) K37.m_fewest_turns)
 ao))
def Br{lt:LT}:qw lt 0 b (.sh (.ob (.fn q) a)::r)=(b (.sh (.ob (.fn q) a)::r)).bind (lt q a):=rfl
def AG(w:iE)(ks:ci)(zs:List Int)(B:Int):D:=.ob (.fn<|uq "most_flow") [aN w,aQ ks,.tup [.lst<|zs.map D.int,.int B]]
section
variable {w:iE}{zs as:List Int}{ks:ci}{G:List rX}{p:List Tn}{la fi:UL}{B:Int}
def Hh(W:cF w)(Z:Pw w zs)(A:dS w zs as)(H:Bf (cJ w zs ks as) fi G)(v:dr G la=W1 p)(l:fi≠la) :
  p≠[]/\p.length<=28/\0<gb p/\(gb p).natAbs<mw/\(∀s∈p,Mi as.length s)/\dS w zs (p.foldl (eY<|gb p) as)/\dA fi w.ts (p.foldl (eY<|gb p) as)=dA fi w.ts as+gb p:=by
 have g:=ki v;have lk:Lk fi p la:=H.lk _ g;have f:p≠[]:=by
  rintro rfl;exact l lk
 have d:∀s∈p,s∈cJ w zs ks as:=λs a=>(H.tk _ g s a).1;have i:∀s∈p,s.b≠fi:=λs a=>(H.tk _ g s a).2.1;have y:p.length<G.length:=H.ln _ g;have U:=H.len;have E:=uo (zs:=zs) (as:=as) (ks:=ks) W;obtain⟨t,q,m⟩:=CH f;obtain⟨k,u,_,O,_,N,M⟩:=kG<|d t q;have Q:=(A.2 k u O).abs<|Z.nn k;have C:=Z.bd k;have x:=Z.nn k;have T:t.c.natAbs<=2*(dR zs k).natAbs:=by
  rcases M with⟨_,_,_,e⟩|⟨_,_,_,e⟩
  .omega
  .unfold mh at e
   split at e<;>omega
 have nd:(p.map (·.n)).Nodup:=tY lk (U6.mpr ⟨λz=>by
  obtain⟨s,a,e⟩:=UK.mp z;exact i s a e,H.nb _ g⟩) λs a u o e=>J7 (d s a) (d u o) e
 refine⟨f,by omega,by rw[m];exact N,by rw[m];omega,λs a=>?_,wZ nd A λs a=>Gz A (d s a) (by rw[m];omega)<|Fh a,?_⟩
 .obtain⟨j,r,L,J,_,_,I⟩:=kG (d s a)
  exact⟨⟨j,L,by rw[A.1];exact(Uz.mp J).1⟩,I.imp (λz=>z.1) λz=>z.1⟩
 .rw[qg A.1 λs a=>zU<|d s a,LH lk f i<|H.fa _ g,Int.mul_one]
def OR(W:cF w)(Z:Pw w zs)(d:fi≠la){Q:List Int->Prop}(M:∀(as:List Int) (G:List rX) (p:List Tn),dS w zs as->Bf (cJ w zs ks as) fi G->dr G la=W1 p->Q as->Q (p.foldl (eY<|gb p) as)):∀(f:Nat) (as:List Int) (G:List rX),Q as->dS w zs as->Bf (cJ w zs ks as) fi G->BN (cJ w zs ks as) G->(yn zs:Int)<dA fi w.ts as+f ->
  ∃a c,Q a/\dS w zs a/\Bf (cJ w zs ks a) fi c/\BN (cJ w zs ks a) c/\dr c la=Wp /\
   bY fT Ub f [.sh<|AG w ks zs B,.sh<|.lst<|as.map D.int,.sh<|.str fi,.sh<|.str la,.sh<|fB G]=.ok (.nx [.sh<|AG w ks zs B,.sh<|.lst<|a.map D.int,.sh<|.str fi,.sh<|.str la,.sh<|fB c]):=by
 have s:=W.t14;intro f
 induction f with
 |zero=>
  intro as G _ A _ _ h;have:=HR (fi:=fi) (zs:=zs) (as:=as) (λt J=>(W.ts t J).ne) (λk t L=>(A.2 k t L).abs<|Z.nn k) Z.l;omega
 |succ f I=>
  intro as G i A H S h;cases b:dr G la with
  |none=>
   refine⟨as,G,i,A,H,S,b,gL ?_⟩;have e:zp (.str la) (fB G)=.ok (.bl U9):=by rw[OM,b];rfl
   erw[e]
  |some p=>
   obtain⟨y,r2,r3,x,v,g,u⟩:=Hh W Z A H b d;obtain⟨Y,E,C,z⟩:=xE (ts:=cJ w zs ks<|p.foldl (eY<|gb p) as) (fi:=fi) (by have:=uo (zs:=zs) (as:=p.foldl (eY<|gb p) as) (ks:=ks) W;omega);obtain⟨a,c,r,q,o,n,m,j⟩:=I _ Y (M as G p A H b i) g E C (by rw[u];omega);refine⟨a,c,r,q,o,n,m,?_⟩;rw[←j];refine jZ ?_ ?_
   .have e:zp (.str la) (fB G)=.ok (.bl VT):=by rw[OM,b];rfl
    erw[e]
   .have U:=Q3 b
    have T:=Ip y 0#2;have O:=Kh x (by rw[A.1];omega) v;have N:=yV (B:=B) (ks:=ks) W Z.l g.1;unfold AG;erw[U,T,O,Br,N,z]
end
theorem Dj:∀(zs:List Int),GJ (zs.map D.int)=yn zs
 |[]=>rfl
 |z::zs=>by
  rw[UB,GJ,Dj zs];unfold yn;rw[UB,WL]
def fR(n:Nat):List Int:=U1 n 0
def xW{n k:Nat}:dR (fR n) k=0:=by
 unfold dR fR;rw[Vl];split<;>rfl
theorem mI:∀(ts:List fQ) (n:Nat),dA fi ts (fR n)=0
 |[],n=>by cases n<;>rfl
 |_::_,0=>rfl
 |t::ts,n+1=>by
  show 0*ek fi t+dA fi ts (fR n)=0;rw[mI ts n,Xk,Z7]
section
variable {w:iE}{zs:List Int}{ks:ci}{la fi:UL}{B:Int}
def p7(Z:Pw w zs):dS w zs (fR w.ts.length):=⟨Wn ..,λk t _=>by
 rw[xW];have:=Z.nn k;unfold BV;split<;>omega⟩
def FA(W:cF w)(Z:Pw w zs)(d:fi≠la){Q:List Int->Prop}(u:∀(as:List Int) (G:List rX) (p:List Tn),dS w zs as->Bf (cJ w zs ks as) fi G->dr G la=W1 p->Q as->Q (p.foldl (eY<|gb p) as))(t:Q<|fR w.ts.length):∃a b,Q a/\dS w zs a/\Bf (cJ w zs ks a) fi b/\BN (cJ w zs ks a) b/\dr b la=Wp /\
  K37.m_filled [AG w ks zs B,.lst<|(fR w.ts.length).map D.int,.str fi,.str la]=.ok (.tup [.lst<|a.map D.int,fB b]):=by
 have v:=uo (zs:=zs) (as:=fR w.ts.length) (ks:=ks) W;obtain⟨G,q,o,n⟩:=xE (ts:=cJ w zs ks<|fR w.ts.length) (fi:=fi) 0#2;obtain⟨a,b,m,j,i,g,f,e⟩:=OR (B:=B) (ks:=ks) W Z d u (yn zs+1) (fR w.ts.length) G t (p7 Z) q o (by rw[mI];omega);refine⟨a,b,m,j,i,g,f,?_⟩;have x:=yV (B:=B) (ks:=ks) W Z.l (p7 Z).1;have hw:∀(c:al) (s:am) (r:Ev),eZ IF c s (.sh (AG w ks zs B)::r)=bY c s (yn zs+1) (.sh (AG w ks zs B)::r):=λc s r=>by
  show bY c s (GJ (zs.map D.int)+1) _=_;rw[Dj]
 unfold AG at e hw ⊢;erw[K37.m_filled,K37.b_filled,Br,x,n,hw,e]
end
def K7(G:List rX):jz (fB G)=VT:=by
 show noFns (G.map λe=>pD e.2)=VT;refine fA (λe=>?_) G;show noFns (e.2.map iJ)=VT;exact fA (λ_=>rfl) _
def BC(W:cF w)(Z:Pw w zs){Q:List Int->Prop}(i:∀(as:List Int) (G:List rX) (p:List Tn),dS w zs as->Bf (cJ w zs ks as) w.fi G->dr G w.la=W1 p->Q as->Q (p.foldl (eY<|gb p) as))(c:Q<|fR w.ts.length):∃a b,Q a/\dS w zs a/\Bf (cJ w zs ks a) w.fi b/\BN (cJ w zs ks a) b/\dr b w.la=Wp /\
  vv (af (ae 4)<|af (aa (ae 0) 2#0 aB)<|af (aa (ae 0) 3#0 aB) ax) 0 (uq "most_flow") [0,2,3] K37.m_filled [.sh<|aN w,.sh R,.sh<|aQ ks,.sh<|.tup [.lst<|zs.map D.int,.int B],.sh<|.lst<|(fR w.ts.length).map D.int,x5,x6]=.ok (.tup [.lst<|a.map D.int,fB b]):=by
 obtain⟨a,b,q,o,n,m,l,j⟩:=FA (B:=B) (ks:=ks) W Z W.ne i c;refine⟨a,b,q,o,n,m,l,?_⟩;have f:aB (aN w) (.int 2)=.ok (.str w.fi):=rfl;have e:aB (aN w) (.int 3)=.ok (.str w.la):=rfl;have r:(af (ae 4)<|af (aa (ae 0) 2#0 aB)<|af (aa (ae 0) 3#0 aB) ax) [.sh<|aN w,.sh R,.sh<|aQ ks,.sh<|.tup [.lst<|zs.map D.int,.int B],.sh<|.lst<|(fR w.ts.length).map D.int,x5,x6]=.ok [.lst<|(fR w.ts.length).map D.int,.str w.fi,.str w.la]:=by
  erw[f,e]
 have g:jz (.tup [.lst<|a.map D.int,fB b])=VT:=by
  have d:noFns (a.map D.int)=VT:=fA (λ_=>rfl) _;show(noFns (a.map D.int)&&(jz (fB b)&&VT))=VT;rw[d,K7];rfl
 unfold vv;rw[r];show zb (K37.m_filled [AG w ks zs B,.lst<|(fR w.ts.length).map D.int,.str w.fi,.str w.la])=_;rw[j];exact dh g
structure JA (w:iE) (xs:List cu):Prop where
 l:xs.length=w.ts.length
 f:∀x∈xs,aV x/\0<=x.1
def zR(xs:List cu):List Int:=xs.map λx=>x.1*(bT xs / x.2)
section
variable {w:iE}{xs:List cu}(W:cF w) (R:JA w xs)
include W R
theorem Ek:0<bT xs/\(bT xs).natAbs<=2 ^ 2800/\∀x∈xs,x.2∣bT xs:=by
 have h:=zt (xs:=xs) (λx a=>(R.f x a).1) 1 0 ⟨by decide,by decide⟩;obtain⟨⟨d,c⟩,_,b⟩:=h;refine⟨d,?_,λx a=>b _ a⟩;refine UI c (Vy 0#1 ?_);have:=W.t14;have:=R.l;omega
theorem Dc:Pw w (zR xs):=by
 have c:=Ek W R;have a:∀k,dR (zR xs) k=match xs[k]? with|some x=>x.1*(bT xs / x.2)|none=>0:=λk=>by
  unfold dR zR;rw[Uw];cases xs[k]?<;>rfl
 refine⟨by unfold zR;rw[Ut];exact R.l,λk=>?_,λk=>?_⟩
 .rw[a]
  cases e:xs[k]? with
  |none=>exact X7 _
  |some x=>
   obtain⟨b,d⟩:=R.f x<|UM e;have:=b.q1;exact Wy d (V9 (by have:=c.1;omega)<|by omega)
 .rw[a]
  cases e:xs[k]? with
  |none=>show 2*(0:Int).natAbs<_;rw[qI];exact YG 0#1
  |some x=>
   obtain⟨b,d⟩:=R.f x<|UM e;show 2*(x.1*(bT xs / x.2)).natAbs<_;have i:x.1.natAbs<2 ^ 200:=Uy b.pN 0#1;have g:(bT xs / x.2).natAbs<=2 ^ 2800:=UI (V3 _ _) c.2.1;rw[Vr];have m:x.1.natAbs*(bT xs / x.2).natAbs<2 ^ 200*2 ^ 2800:=Zs i g (YG<|by decide);have j:2*(2 ^ 200*2 ^ 2800)<=mw:=by
    rw[qI,←XG,show(2:Nat)*2 ^ (200+2800)=2 ^ (1+(200+2800)) by rw[XG 2 1]];exact Vy 0#1 0#1
   omega
theorem Kj:m_on_one_scale [.lst<|xs.map fr]=.ok (.tup [.lst<|(zR xs).map D.int,.int<|bT xs]):=by
 have b:=W.t14;have a:=tu (os:=xs.map W1) (by rw[Ut];have:=R.l;omega) (λx d=>by
  obtain⟨y,c,e⟩:=UK.mp d;cases e;exact(R.f x c).1)
 rw[Pth.somes_some]at a;rw[Ve,Ve]at a;have i:xs.map (cS∘W1)=xs.map fr:=rfl;have g:xs.map (wI (bT xs)∘W1)=(zR xs).map D.int:=by unfold zR;rw[Ve];rfl
 rwa[i,g]at a
end
theorem vI:∀ds:ac,fK (ds.map λ_=>.bl VT)=W1 (ds.map λ_=>VT)
 |[]=>rfl
 |d::ds=>by rw[UB,fK,vI ds];rfl
def Jv{ds:ac}:vw (.lst<|ds.map λ_=>.bl VT)=.ok (.bl VT):=by
 unfold vw;simp only[vI]
 congr 2
 rw[Vd];intro b a;obtain⟨_,_,rfl⟩:=UK.mp a;rfl
def FY{a:Type}(L:List a):vw (.lst<|L.map λ_=>D.bl VT)=.ok (.bl VT):=by
 have:=Jv (ds:=L.map λ_=>D.non);rwa[Ve]at this
section
variable {w:iE}{xs:List cu}(W:cF w) (R:JA w xs)
include W R
theorem OL:K51.m_has_lengths [aN w,.lst<|xs.map fr]=.ok (.bl VT):=by
 have b:=W.t14;have d:=R.l;have g:aB (aN w) (.int 1)=.ok (.lst<|w.ts.map aX):=rfl;have i:∀A,dY 1 [] (bK 0) mYes (ak (af (ae 0) ax) Com.m_is_length) A (xs.map fr)=.ok (.lst<|xs.map λ_=>D.bl VT):=λA=>by
  rw[K51.comp_pick fr (λ_=>W1<|.bl VT) 0#2]
  .rw[←YD];rfl
  .intro x a
   have e:=lO (R.f x a).1.toLow (R.f x a).2;refine⟨[.sh<|fr x],rfl,.inr ⟨_,rfl,rfl,?_⟩⟩;erw[e]
 have j:vw (.lst<|xs.map λ_=>D.bl VT)=.ok (.bl VT):=FY xs;have c:iM (.int ((xs.length:Nat):Int)) (.int ((w.ts.length:Nat):Int))=.ok (.bl U9):=by
  rw[d];show aw.ok (D.bl (!(_==_)))=_;rw[ei];rfl
 erw[K51.m_has_lengths,K51.b_has_lengths,g,Ut,c,i,j]
end
def MC(w:iE)(G:List rX):bv:=w.ps.filter λk=>(dr G k).isSome
theorem qi:∀(L:bv),(L.filterMap λk=>if(dr G k).isSome=VT then W1 (D.str k) else Wp)=(L.filter λk=>(dr G k).isSome).map D.str
 |[]=>rfl
 |k::L=>by
  rw[V5,List.filter_cons]
  by_cases h:(dr G k).isSome=VT
  .simp only[dh h,UB,qi L]
  .simp only[dV h,qi L]
theorem wL:∀(xs:List cu),(xs.filterMap λ_=>W1<|D.int 0)=(fR xs.length).map D.int
 |[]=>rfl
 |x::xs=>by rw[V5];simp only;rw[wL xs];rfl
section
variable {w:iE}{xs:List cu}{ks:ci}(W:cF w) (R:JA w xs) (T:K37.m_look_at_taking [aN w,aQ ks]=.ok .non)
include W R in
theorem PB(k:Nat):(dR (zR xs) k).natAbs<2 ^ 200*2 ^ 2800:=by
 have c:=Ek W R;unfold dR zR;rw[Uw];cases e:xs[k]? with
 |none=>show(0:Int).natAbs<_;exact Nat.mul_pos (YG<|by decide) (YG<|by decide)
 |some x=>
  have d:=(R.f x<|UM e).1;show(x.1*(bT xs / x.2)).natAbs<_;have b:x.1.natAbs<2 ^ 200:=Uy d.pN 0#1;have a:(bT xs / x.2).natAbs<=2 ^ 2800:=UI (V3 _ _) c.2.1;rw[Vr];exact Zs b a (YG<|by decide)
end
end Flo
namespace Nwb
open PySem L2 DL Com
def Ui:Rl (.tup []) (.tup es)=.ok (.tup es):=rfl
def cut_dr{k:Nat}(h:k<=xs.length):jA xs (W1 (k:Int)) Wp=xs.drop k:=by
 unfold jA;rw[HT.sIx_nat,HT.sIx_none,X8 h];exact W4 0#3
end Nwb
namespace Flo
open PySem L2 DL Com
def Bl(h:b ρ=.ok ds)(a:m ds=.exn e):lG b m ρ=.exn e:=by
 unfold lG;rw[h];dsimp only;rw[a];rfl
def IT(h:b ρ=.ok ds)(a:m ds=.ok d):lG b m ρ=.ok (.nx ρ):=by
 unfold lG;rw[h];dsimp only;rw[a];rfl
open K35 (fO)
def wF(g:fQ->Int):List fQ->List Int->Int
 |t::a,x::b=>x*g t+wF g a b
 |_,_=>0
theorem MI:∀{ts:List fQ}{as:List Int},dA q ts as=wF (ek q) ts as
 |[],as=>by cases as<;>rfl
 |t::ts,[]=>rfl
 |t::ts,x::as=>by show x*ek q t+dA q ts as=x*ek q t+wF (ek q) ts as;rw[MI]
theorem Mv{f g h:fQ->Int}(e:∀t,f t=g t+h t):∀{ts:List fQ}{as:List Int},wF f ts as=wF g ts as+wF h ts as
 |[],as=>by cases as<;>rfl
 |t::ts,[]=>rfl
 |t::ts,x::as=>by
  show x*f t+wF f ts as=(x*g t+wF g ts as)+(x*h t+wF h ts as);rw[Mv e,e,Int.mul_add];omega
theorem Gr(e:∀t,g t=0):∀{ts:List fQ}{as:List Int},wF g ts as=0
 |[],as=>by cases as<;>rfl
 |t::ts,[]=>rfl
 |t::ts,x::as=>by show x*g t+wF g ts as=0;rw[Gr e,e];omega
def MP(L:bv)(s:UL):Int:=if s∈L then 1 else 0
def cr(L:bv)(t:fQ):Int:=MP L t.a-MP L t.b
def AR(h:q∉L):MP (q::L) s=(if s=q then 1 else 0)+MP L s:=by
 unfold MP
 by_cases c:s=q
 .subst c;rw[dh Uu,dh rfl,dV h];rfl
 .rw[dV c]
  by_cases d:s∈L
  .rw[dh (Up _ d),dh d];rfl
  .rw[dV (λz=>by rcases UG.mp z with z|z;exact c z;exact d z),dV d];rfl
theorem yl:∀{L:bv},L.Nodup->(L.map λq=>dA q ts as).sum=wF (cr L) ts as
 |[],_=>by rw[Gr (λt=>by unfold cr MP;simp)];rfl
 |q::L,h=>by
  obtain⟨a,b⟩:=U6.mp h;rw[UB,WL,yl b,Mv (f:=cr (q::L)) (g:=ek q) (h:=cr L) (λt=>by
   unfold cr ek;rw[AR a,AR a];omega),MI]
theorem ym{f:UL->Int}{z:UL}:∀{L:bv},L.Nodup->z∈L->(∀q∈L,q≠z->f q=0)->(L.map f).sum=f z
 |[],_,h,_=>by cases h
 |q::L,nd,h,d=>by
  obtain⟨g,j⟩:=U6.mp nd;rw[UB,WL];rcases UG.mp h with rfl|h
  .have:∀(L:bv),(∀q∈L,f q=0)->(L.map f).sum=0:=by
    intro L
    induction L with
    |nil=>intro _;rfl
    |cons a L l=>intro i;rw[UB,WL,i a Uu,l λb m=>i b<|Up _ m];rfl
   rw[this L λa c=>d a (Up _ c)<|λe=>g<|e▸c];omega
  .rw[d q Uu (λe=>g (e▸h)),ym j h λa c=>d a<|Up _ c];omega
def dE(ks:ci)(L:bv):Nat->List fQ->List Int->Int
 |j,t::b,z::a=>(if j∉ks/\fO L t=VT then z else 0)+dE ks L (j+1) b a
 |_,_,_=>0
section
variable {ks:ci}{L:bv}{t:fQ}{x z:Int}{j:Nat}
def AF(h:t.w="one"):fO L t=(decide (t.a∈L)&&!(decide (t.b∈L))):=by
 unfold fO;rw[dV (by rw[h];decide)]
def xr(h:t.w="both"):fO L t=(decide (t.a∈L) != decide (t.b∈L)):=by
 unfold fO;rw[dh h]
def NX(hw:t.w="one"∨t.w="both")(f:BV t z x)(g:0<=z)(e:j∈ks->x=0):x*cr L t<=if j∉ks/\fO L t=VT then z else 0:=by
 by_cases c:j∈ks
 .rw[e c,dV<|λh=>h.1 c];omega
 .obtain⟨i,d⟩:=f
  unfold cr MP;rcases hw with h|h
  .rw[AF h]
   rw[dh h]at d
   by_cases a:t.a∈L<;>by_cases b:t.b∈L<;>simp[a,b,c]<;>omega
  .rw[xr h]
   rw[dV (by rw[h];decide)]at d
   by_cases a:t.a∈L<;>by_cases b:t.b∈L<;>simp[a,b,c]<;>omega
def NY(hw:t.w="one"∨t.w="both")(f:j∈ks->x=0)(e:j∉ks->t.a∈L->t.b∉L->x=z)(d:j∉ks->t.a∉L->t.b∈L->if t.w="one" then x=0 else x=-z):x*cr L t=if j∉ks/\fO L t=VT then z else 0:=by
 by_cases c:j∈ks
 .rw[f c,dV<|λh=>h.1 c];omega
 .unfold cr MP
  rcases hw with h|h
  .rw[AF h]
   rw[dh h]at d
   by_cases a:t.a∈L<;>by_cases b:t.b∈L<;>simp[a,b,c]
   .exact e c a b
   .exact d c a b
  .rw[xr h]
   rw[dV (by rw[h];decide)]at d
   by_cases a:t.a∈L<;>by_cases b:t.b∈L<;>simp[a,b,c]
   .exact e c a b
   .have:=d c a b;omega
def mY:dR (y::as) (i+1)=dR as i:=rfl
theorem PJ:∀{ts:List fQ}{zs as:List Int}{j:Nat},zs.length=ts.length->as.length=ts.length->(∀i t,ts[i]?=W1 t->(dR as i)*cr L t<=if j+i∉ks/\fO L t=VT then dR zs i else 0)->wF (cr L) ts as<=dE ks L j ts zs
 |[],zs,as,j,_,_,_=>by
  have b:wF (cr L) [] as=0:=by cases as<;>rfl
  have a:dE ks L j [] zs=0:=by cases zs<;>rfl
  omega
 |t::ts,[],as,j,h,_,_=>by simp at h
 |t::ts,z::zs,[],j,_,h,_=>by simp at h
 |t::ts,z::zs,x::as,j,b,a,h=>by
  have d:=PJ (ts:=ts) (zs:=zs) (as:=as) (j:=j+1) (by simpa using b) (by simpa using a) (λi u c=>by
   have:=h (i+1) u c;rwa[mY,mY,show j+(i+1)=j+1+i by omega]at this)
  have e:x*cr L t<=if j∉ks/\fO L t=VT then z else 0:=h 0 t rfl
  show x*cr L t+wF (cr L) ts as<=(if j∉ks/\fO L t=VT then z else 0)+dE ks L (j+1) ts zs;omega
theorem PK:∀{ts:List fQ}{zs as:List Int}{j:Nat},zs.length=ts.length->as.length=ts.length->(∀i t,ts[i]?=W1 t->(dR as i)*cr L t=if j+i∉ks/\fO L t=VT then dR zs i else 0)->wF (cr L) ts as=dE ks L j ts zs
 |[],zs,as,j,_,_,_=>by
  have b:wF (cr L) [] as=0:=by cases as<;>rfl
  have a:dE ks L j [] zs=0:=by cases zs<;>rfl
  omega
 |t::ts,[],as,j,h,_,_=>by simp at h
 |t::ts,z::zs,[],j,_,h,_=>by simp at h
 |t::ts,z::zs,x::as,j,b,a,h=>by
  have d:=PK (ts:=ts) (zs:=zs) (as:=as) (j:=j+1) (by simpa using b) (by simpa using a) (λi u c=>by
   have:=h (i+1) u c;rwa[mY,mY,show j+(i+1)=j+1+i by omega]at this)
  have e:x*cr L t=if j∉ks/\fO L t=VT then z else 0:=h 0 t rfl
  show x*cr L t+wF (cr L) ts as=(if j∉ks/\fO L t=VT then z else 0)+dE ks L (j+1) ts zs;omega
end
structure zG (w:iE) (ks:ci) (as:List Int):Prop where
 tk:∀k∈ks,dR as k=0
 bal:∀q,q≠w.fi->q≠w.la->dA q w.ts as=0
theorem Ed:∀{p:List Tn}{a k:UL},Lk a p k->(p.map<|JK q).sum=(if a=q then 1 else 0)-(if k=q then 1 else 0)
 |[],a,k,h=>by obtain rfl:a=k:=h;simp
 |t::p,a,k,⟨c,b⟩=>by
  rw[UB,WL,Ed b];unfold JK;rw[c];omega
theorem Ac{k:Nat}:∀{p:List Tn}{as:List Int},(∀s∈p,∃j:Nat,s.n=(j:Int)/\j<as.length/\j≠k)->dR (p.foldl (eY m) as) k=dR as k
 |[],as,_=>rfl
 |s::p,as,h=>by
  obtain⟨j,d,c,b⟩:=h s Uu;rw[VZ,Ac (λu a=>by rw[mG];exact h u<|Up _ a),tm d c,dV<|Vw b]
section
variable {w:iE}{zs as:List Int}{ks:ci}{G:List rX}{p:List Tn}
def CJ(A:dS w zs as)(H:Bf (cJ w zs ks as) w.fi G)(i:dr G w.la=W1 p)(K:zG w ks as):zG w ks (p.foldl (eY<|gb p) as):=by
 have f:=ki i;have lk:Lk w.fi p w.la:=H.lk _ f;have b:∀s∈p,s∈cJ w zs ks as:=λs a=>(H.tk _ f s a).1;refine⟨λk g=>?_,λq e d=>?_⟩
 .rw[Ac (λs a=>?_)]
  .exact K.tk k g
  .obtain⟨j,t,n,m,l,_⟩:=kG (b s a)
   exact⟨j,n,by rw[A.1];exact(Uz.mp m).1,λc=>l<|c▸g⟩
 .rw[qg A.1 (λs a=>zU<|b s a),Ed lk,dV<|Vw e,dV<|Vw d,K.bal q e d];omega
def MN:zG w ks (fR w.ts.length):=⟨λ_ _=>xW,λ_ _ _=>mI _ _⟩
def PH(W:cF w)(d:zs.length=w.ts.length)(b:∀k,0<=dR zs k)(A:dS w zs as)(K:zG w ks as)(nd:L.Nodup)(l:w.fi∈L)(j:w.la∉L):dA w.fi w.ts as<=dE ks L 0 w.ts zs:=by
 rw[←ym (f:=λq=>dA q w.ts as) nd l (λq g e=>K.bal q e<|λc=>j<|c▸g),yl nd];refine PJ d A.1 λi t a=>?_;rw[VR];exact NX (W.ts t<|UM a).w (A.2 i t a) (b i)<|K.tk i
def PQ(W:cF w)(u:zs.length=w.ts.length)(A:dS w zs as)(K:zG w ks as)(S:BN (cJ w zs ks as) G)(nd:L.Nodup)(B:∀q∈w.ps,q∈L↔(dr G q).isSome=VT)(y:w.fi∈L)(x:w.la∉L):dA w.fi w.ts as=dE ks L 0 w.ts zs:=by
 rw[←ym (f:=λq=>dA q w.ts as) nd y (λq v e=>K.bal q e<|λc=>x<|c▸v),yl nd];refine PK u A.1 λi t l=>?_;rw[VR];have T:=W.ts t<|UM l;have d:∀s,s∈w.ps->(s∈L↔s∈G.map (·.1)):=λs m=>by
  rw[B s m];cases e:dr G s with|none=>exact⟨λh=>(nomatch h),λh=>ee h<|i7.mp e⟩|some p=>exact⟨λ_=>UK.mpr ⟨_,ki e,rfl⟩,λ_=>rfl⟩
 have inl:∀s∈j7 zs as i t,i∉ks->0<s.c->s∈cJ w zs ks as:=λs m j z=>by
  unfold cJ;refine WS.mpr ⟨vP.mpr ⟨i,t,l,?_,?_⟩,dg z⟩
  .rw[VR];exact j
  .rw[VR];exact m
 have OQ:=A.2 i t l;refine NY T.w (K.tk i) (λj o n=>?_)<|λj o n=>?_
 .have C:=OQ.1
  by_cases c:dR as i<dR zs i
  .have:=S _ (inl ⟨(i:Int),1,t.a,t.b,dR zs i-dR as i⟩ (by unfold j7;exact Uu) j (by show 0<dR zs i-dR as i;omega)) ((d _ T.a).mp o)
   exact ee ((d _ T.b).mpr this) n
  .omega
 .have g:¬0<mh zs as i t:=λc=>by
   have:=S _ (inl ⟨(i:Int),-1,t.b,t.a,mh zs as i t⟩ (by unfold j7;exact Up _ Uu) j c)<|(d _ T.b).mp n;exact ee ((d _ T.a).mpr this) o
  have r:=OQ.2;unfold mh at g
  by_cases c:t.w="one"
  .rw[dh c]at g r;rw[dh c];omega
  .rw[dV c]at g r;rw[dV c];omega
end
open K35 (fO)
theorem oy:∀{ts:List fQ}{as:List Int},K36.ips P ts as=dA P ts as
 |[],as=>by cases as<;>rfl
 |t::ts,[]=>rfl
 |t::ts,x::as=>by
  show K36.ip P t x+K36.ips P ts as=x*ek P t+dA P ts as;rw[oy];unfold K36.ip ek
  by_cases a:t.a=P<;>by_cases b:t.b=P<;>simp[a,b]
def sD:(dU a b).2∣b:=⟨(Vc a b:Int),(Yb<|XO ..).symm⟩
def ug(c:0<b):(dU a b).1*(b / (dU a b).2)=a:=by
 have f:(dU a b).2*(Vc a b:Int)=b:=Yb<|XO ..;have e:(dU a b).1*(Vc a b:Int)=a:=Yb<|XY ..;have g:=(eW (a:=a) c).q1;generalize dU a b=L at *;have d:b / L.2=(Vc a b:Int):=by
  conv=>lhs;rw[←f]
  exact Vx _ 0#2
 rw[d,e]
theorem xj:∀{ts:List fQ}{xs:List cu}{x:cu},x∈K36.parts P ts xs->∃y∈xs,x.2=y.2
 |[],xs,x,h=>by cases xs<;>simp[K36.parts]at h
 |t::ts,[],x,h=>by simp[K36.parts]at h
 |t::ts,y::b,x,h=>by
  unfold K36.parts at h;rcases UO.mp h with h|h
  .refine⟨y,Uu,?_⟩
   unfold K36.part at h;rcases UO.mp h with h|h
   .split at h
    .rw[UX.mp h];rfl
    .cases h
   .split at h
    .rw[UX.mp h];rfl
    .cases h
  .obtain⟨z,a,e⟩:=xj h
   exact⟨z,Up _ a,e⟩
def EH(d:∀x∈P,x.2∣b)(g:0<(qL P).2):(dU (qL P).1 (qL P).2).1*b=v5 (P.map λx=>x.1*(b / x.2))*(dU (qL P).1 (qL P).2).2:=by
 have h:=p9 (b:=b) P (0,1) 0 d (by show(0:Int)*_=0*1;omega);rw[Z7]at h;change (qL P).1*b=_*(qL P).2 at h;have c:=iS (a:=(qL P).1) (b:=(qL P).2);generalize dU (qL P).1 (qL P).2=L at *;generalize v5 (P.map λx=>x.1*(b / x.2))=Z at *;generalize qL P=T at *;refine Wj (a:=T.2) 0#2 ?_;have f:L.1*b*T.2=(L.1*T.2)*b:=by grind
 have e:Z*L.2*T.2=(Z*T.2)*L.2:=by grind
 rw[f,e,c,←h];grind
def MM:Int:=2329089562800
def lL(xs:List cu):List Int:=xs.map λx=>x.1*(MM / x.2)
def EN{x:cu}(d:x.2∣M)(c:x.2∣B)(a:x.2≠0):x.1*(M / x.2)*B=x.1*(B / x.2)*M:=by
 obtain⟨m,rfl⟩:=d;obtain⟨b,rfl⟩:=c;rw[Vx _ a,Vx _ a];grind
section
variable {ks ls:ci}{L:bv}{B:Int}
theorem mW:∀{ts:List fQ}{xs:List cu}{j:Nat},(∀x∈xs,x.2∣MM/\x.2∣B/\x.2≠0)->dE ks L j ts (lL xs)*B=dE ks L j ts (xs.map λx=>x.1*(B / x.2))*MM
 |[],xs,j,_=>by
  have h:∀a:List Int,dE ks L j [] a=0:=λa=>by cases a<;>rfl
  rw[h,h];omega
 |t::ts,[],j,_=>by show(0:Int)*B=0*MM;omega
 |t::ts,x::xs,j,h=>by
  have b:=mW (ts:=ts) (xs:=xs) (j:=j+1) λy c=>h y<|Up _ c;obtain⟨g,f,d⟩:=h x Uu;have e:=EN g f d;show((if j∉ks/\fO L t=VT then x.1*(MM / x.2) else 0)+dE ks L (j+1) ts (lL xs))*B=((if j∉ks/\fO L t=VT then x.1*(B / x.2) else 0)+dE ks L (j+1) ts (xs.map λx=>x.1*(B / x.2)))*MM;rw[Zg,Zg,b]
  congr 1
  split
  .exact e
  .omega
end
def ie(w:iE)(S:List<|bv)(p:UL):List (bv):=if p≠w.fi/\p≠w.la then S++S.map (·++[p]) else S
def jc(w:iE):List (bv):=w.ps.foldl (ie w) [[w.fi]]
section
variable {w:iE}
theorem tj:∀{qs:bv}{S:List<|bv},qs.Nodup->(∀L∈S,(L.Nodup/\w.fi∈L/\w.la∉L)/\∀q∈L,q≠w.fi->q∉qs)->∀L∈qs.foldl (ie w) S,L.Nodup/\w.fi∈L/\w.la∉L
 |[],S,_,h=>λL d=>(h L d).1
 |p::qs,S,nd,h=>by
  obtain⟨l,j⟩:=U6.mp nd;rw[VZ];refine tj j λL d=>?_;unfold ie at d;split at d
  .rename_i c
   rcases UO.mp d with d|d
   .exact⟨(h L d).1,λq f e z=>(h L d).2 q f e<|Up _ z⟩
   .obtain⟨M,o,rfl⟩:=UK.mp d
    obtain⟨⟨t,s,r⟩,g⟩:=h M o;have i:p∉M:=λz=>g p z c.1 Uu;refine⟨⟨WB.mpr ⟨t,by simp,λa n b m=>by rw[UX.mp m];rintro rfl;exact i n⟩,Vo _ s,λz=>?_⟩,λq f e z=>?_⟩
    .rcases UO.mp z with z|z
     .exact r z
     .exact c.2 (UX.mp z).symm
    .rcases UO.mp f with f|f
     .exact g q f e<|Up _ z
     .rw[UX.mp f]at z;exact l z
  .exact⟨(h L d).1,λq f e z=>(h L d).2 q f e<|Up _ z⟩
theorem mC(c:UL->Bool):∀{qs:bv}{S:List<|bv}{L0:bv},qs.Nodup->L0∈S->(∀q∈L0,q≠w.fi->q∉qs)->∃L∈qs.foldl (ie w) S,(∀q∈qs,q≠w.fi->q≠w.la->(q∈L↔c q=VT))/\(∀q,q∉qs->(q∈L↔q∈L0))
 |[],S,L0,_,h,_=>⟨L0,h,λq d=>(nomatch d),λq _=>Zo⟩
 |p::qs,S,L0,nd,h,j=>by
  obtain⟨n,l⟩:=U6.mp nd;rw[VZ]
  by_cases m:p≠w.fi/\p≠w.la
  .have r:p∉L0:=λz=>j p z m.1 Uu
   have e:ie w S p=S++S.map (·++[p]):=dh m;rw[e]
   by_cases o:c p=VT
   .obtain⟨L,i,g,f⟩:=mC c (qs:=qs) (S:=S++S.map (·++[p])) (L0:=L0++[p]) l (Va _<|UK.mpr ⟨L0,h,rfl⟩) (λq d e z=>by
     rcases UO.mp d with d|d
     .exact j q d e<|Up _ z
     .rw[UX.mp d]at z;exact n z)
    refine⟨L,i,λq d=>?_,λq d=>?_⟩
    .rcases UG.mp d with rfl|d
     .intro _ _
      rw[f q n];exact⟨λ_=>o,λ_=>Va _<|by simp⟩
     .exact g q d
    .rw[f q (λz=>d<|Up _ z)]
     constructor
     .intro z
      rcases UO.mp z with z|z
      .exact z
      .exact ee (by rw[UX.mp z];exact Uu) d
     .exact λz=>Vo _ z
   .obtain⟨L,i,g,f⟩:=mC c (qs:=qs) (S:=S++S.map (·++[p])) (L0:=L0) l (Vo _ h) (λq d e z=>j q d e<|Up _ z)
    refine⟨L,i,λq d=>?_,λq d=>f q<|λz=>d<|Up _ z⟩;rcases UG.mp d with rfl|d
    .intro _ _
     rw[f q n];exact⟨λz=>ee z r,λz=>ee z o⟩
    .exact g q d
  .have e:ie w S p=S:=dV m
   rw[e];obtain⟨L,i,g,f⟩:=mC c (qs:=qs) (S:=S) (L0:=L0) l h<|λq d e z=>j q d e<|Up _ z;refine⟨L,i,λq d a b=>?_,λq d=>f q<|λz=>d<|Up _ z⟩;rcases UG.mp d with rfl|d
   .exact ee ⟨a,b⟩ m
   .exact g q d a b
structure IsL (w:iE) (ks:ci) (ns:List Int) (v:Int):Prop where
 at_:∃L∈jc w,v=dE ks L 0 w.ts ns
 le:∀L∈jc w,v<=dE ks L 0 w.ts ns
def mD(W:cF w)(h:L∈jc w):L.Nodup/\w.fi∈L/\w.la∉L :=
 tj W.nm.nd (λL b=>by
  obtain rfl:=UX.mp b;exact⟨⟨by simp,by simp,λz=>W.ne (UX.mp z).symm⟩,λq a e=>ee (UX.mp a) e⟩) L h
def Dm(W:cF w)(c:UL->Bool)(j:c w.fi=VT)(i:c w.la=U9):∃L∈jc w,∀q∈w.ps,q∈L↔c q=VT:=by
 obtain⟨L,f,g,o⟩:=mC (w:=w) c (qs:=w.ps) (S:=[[w.fi]]) (L0:=[w.fi]) W.nm.nd 0#3<|λq d e=>ee (UX.mp d) e;obtain⟨_,m,l⟩:=mD W f;refine⟨L,f,λq d=>?_⟩
 by_cases a:q=w.fi
 .rw[a];exact⟨λ_=>j,λ_=>m⟩
 .by_cases b:q=w.la
  .rw[b];exact⟨λz=>ee z l,λz=>by rw[i]at z;cases z⟩
  .exact g q d a b
def IsL.scale{v V B:Int}(h:IsL w ks (lL xs) v)(f:∀x∈xs,x.2∣MM/\x.2∣B/\x.2≠0)(o:0<B)(m:∀L∈jc w,V<=dE ks L 0 w.ts (xs.map λx=>x.1*(B / x.2)))(l:∃L∈jc w,V=dE ks L 0 w.ts (xs.map λx=>x.1*(B / x.2))):v*B=V*MM:=by
 obtain⟨⟨L,i,g⟩,e⟩:=h;obtain⟨M,m1,m2⟩:=l;have a:=mW (ks:=ks) (L:=L) (ts:=w.ts) (j:=0) f;have b:=mW (ks:=ks) (L:=M) (ts:=w.ts) (j:=0) f;have c:=e M m1;have d:=m L i;have n:(0:Int)<MM:=by decide
 have q:v*B<=dE ks M 0 w.ts (lL xs)*B:=Vi c 0#2;have p:V*MM<=dE ks L 0 w.ts (xs.map λx=>x.1*(B / x.2))*MM:=Vi d 0#2;rw[←g]at a;rw[←m2]at b;omega
end
end Flo
namespace K40
open PySem L2 DL Com Flo
open K35 (fO)
def FP(g:0<b)(f:0<x.2)(d:b∣M)(c:x.2∣M):gK b x∣M:=by
 have h:(Int.lcm b x.2:Int)∣M:=Int.coe_lcm_dvd d c;have e:gK b x=(Int.lcm b x.2:Int):=by
  unfold gK;obtain⟨n,rfl⟩:=Vm (show 0<=b by omega);obtain⟨m,a⟩:=Vm (show 0<=x.2 by omega);rw[a];show((n:Int) / ((Nat.gcd n m:Nat):Int))*(m:Int)=((Nat.lcm n m:Nat):Int);unfold Nat.lcm;rw[Y4 n m,Nat.mul_div_assoc _<|Nat.gcd_dvd_left n m,Y4 m]
  push_cast
  rfl
 rw[e];exact h
theorem Ei{M:Int}:∀(xs:List cu) (b:Int),0<b->b∣M->(∀x∈xs,aV x/\x.2∣M)->xs.foldl gK b∣M
 |[],b,_,h,_=>h
 |x::xs,b,c,h,a=>by
  rw[VZ];obtain⟨f,d⟩:=a x Uu;have i:=f.q1;have e:=FP c (x:=x) 0#2 h d;refine Ei xs _ ?_ e λy g=>a y<|Up _ g;unfold gK;have j:0<(Vc b x.2:Int):=by
   have:=Int.gcd_pos_of_ne_zero_left x.2 (show b≠0 by omega);omega
  exact We (Zv c 0#2<|XY ..) 0#2
structure Rms (w:iE) (xs:List cu):Prop where
 r:JA w xs
 d:∀x∈xs,x.2∣MM
 s:∀x∈xs,x.1<=2000000000000000000
section
variable {w:iE}{xs:List cu}{ks:ci}(W:cF w) (X:Rms w xs)
include W X
theorem bX:0<bT xs/\bT xs∣MM/\bT xs<=MM/\∀x∈xs,x.2∣bT xs:=by
 have c:=Ek W X.r;have b:bT xs∣MM:=Ei xs 1 0#1 (Int.one_dvd _) λx a=>⟨(X.r.f x a).1,X.d x a⟩
 exact⟨c.1,b,ZM 0#1 b,c.2.2⟩
theorem zX(k:Nat):dR (zR xs) k<=2000000000000000000*MM:=by
 obtain⟨j,_,g,i⟩:=bX W X;unfold dR zR;rw[Uw];cases e:xs[k]? with
 |none=>show(0:Int)<=_;decide
 |some x=>
  have b:=UM e;have a:=X.s x b;have p:=(X.r.f x b).1.q1;have n:=(X.r.f x b).2;show x.1*(bT xs / x.2)<=_;have d:0<=bT xs / x.2:=V9 0#2 0#2;have c:bT xs / x.2<=MM:=Int.le_trans (Zb _<|by omega) g;exact Zu a c d 0#1
theorem finA(A:dS w (zR xs) as):∀a∈as,aV (dU a<|bT xs):=by
 obtain⟨i,_,l,_⟩:=bX W X;intro a d;obtain⟨k,c,e⟩:=X4.mp d;have j:dR as k=a:=by unfold dR;rw[Uq c,e];rfl
 have b:k<w.ts.length:=by rw[←A.1];exact c
 have Z:=Dc W X.r;have f:=(A.2 k _<|Uq b).abs<|Z.nn k;rw[j]at f;have g:=zX W X k;have n:=Z.nn k;have m1:(2000000000000000000*MM).natAbs<jD:=by decide
 have m2:MM.natAbs<jD:=by decide
 refine⟨eW i,UR mL ?_,UR oq ?_⟩<;>omega
end
section
variable {w:iE}{xs:List cu}{ks:ci}(W:cF w) (R:JA w xs) (T:rN w ks)
include W R
theorem NJ:m_look_at_rooms [aN w,.lst<|xs.map fr]=.ok .non:=by
 have b:=yh W;have a:=OL W R;erw[m_look_at_rooms,eO,b,a]
include T
theorem mostN:∃i j,zG w ks i/\dS w (zR xs) i/\Bf (cJ w (zR xs) ks i) w.fi j/\BN (cJ w (zR xs) ks i) j/\dr j w.la=Wp /\
  m_most_flow [aN w,.lst<|xs.map fr,aQ ks]=.ok (.tup [.lst<|(i.map λa=>dU a<|bT xs).map fr,.lst<|(MC w j).map D.str]):=by
 have z:=W.t14;have n7:=W.n7;have hl:=R.l;have Z:=Dc W R;have v:=Ek W R;obtain⟨i,j,h0,m,h2,h3,h4,h5⟩:=BC (B:=bT xs) (ks:=ks) (R:=.lst<|xs.map fr) (x5:=.no) (x6:=.no) W Z (Q:=zG w ks) (λas G p A H U K=>CJ A H U K) MN;refine⟨i,j,h0,m,h2,h3,h4,?_⟩;have I:=NJ W R;have E:=wR W T;have C:=Kj W R;have L:aB (aN w) (.int 0)=.ok (.lst<|w.ps.map D.str):=rfl;have Y:∀A,dY 1 [] (bK 0) mYes 0#0 A (xs.map fr)=.ok (.lst<|(fR w.ts.length).map D.int):=λA=>by
  rw[K51.comp_pick fr (λ_=>W1<|.int 0) 0#2]
  .rw[←hl,wL]
  .intro x hx
   exact⟨[.sh<|fr x],rfl,.inr ⟨_,rfl,rfl,rfl⟩⟩
 have J:∀d e:D,aB (.tup [d,e]) (.int 0)=.ok d:=λ_ _=>rfl;have n:∀d e:D,aB (.tup [d,e]) (.int 1)=.ok e:=λ_ _=>rfl;have N:∀a b c d e x,dY 1 [5] (bK 0) (aa (ae 0) (aa (ae 1) 1#0 aB) zp) (ae 0) [a,b,c,d,e,.sh<|.tup [.lst<|i.map D.int,fB j],x] (w.ps.map D.str)=.ok (.lst<|(MC w j).map D.str):=λa b c d e x=>by
  rw[K51.comp_pick D.str (λk=>if(dr j k).isSome=VT then W1 (D.str k) else Wp) 0#2]
  .rw[qi];rfl
  .intro k s
   have q:=OM (F:=j) (k:=k)
   by_cases h:(dr j k).isSome=VT
   .rw[h]at q
    refine⟨[.sh<|.str k,.sh<|.tup [.lst<|i.map D.int,fB j]],rfl,.inr ⟨_,dh h,?_,rfl⟩⟩;erw[n,q]
   .rw[show(dr j k).isSome=U9 by simpa using h]at q
    refine⟨[.sh<|.str k,.sh<|.tup [.lst<|i.map D.int,fB j]],rfl,.inl ⟨dV h,?_⟩⟩;erw[n,q]
 have O:∀a b c e f x,dY 1 [3] (bK 0) mYes (ak (af (ae 0)<|af (aa (ae 1) 1#0 aB) ax) m_ratio) [a,b,c,.sh<|.tup [.lst<|(zR xs).map D.int,.int<|bT xs],e,f,x] (i.map D.int)=.ok (.lst<|(i.map λa=>dU a<|bT xs).map fr):=λa b c e f x=>by
  rw[K51.comp_pick D.int (λa=>W1<|fr<|dU a<|bT xs) (by have:=m.1;omega)]
  .rw[Ve,←YD];rfl
  .intro y M
   have q:m_ratio [.int y,.int<|bT xs]=.ok (fr<|dU y<|bT xs):=by
    obtain⟨k,s,ek⟩:=X4.mp M;have r:dR i k=y:=by unfold dR;rw[Uq s,ek];rfl
    have o:k<w.ts.length:=by rw[←m.1];exact s
    have f:=(m.2 k _<|Uq o).abs<|Z.nn k;rw[r]at f;have g:=PB W R k;have u:2 ^ 200*2 ^ 2800<=p6:=by rw[jv,←XG];exact Vy 0#1 0#1
    have t:2 ^ 2800<p6:=by rw[jv];exact Wx 0#1 0#1
    exact tJ v.1 (UR f<|Uy g u)<|UR v.2.1 t
   refine⟨[.sh<|.int y,.sh<|.tup [.lst<|(zR xs).map D.int,.int<|bT xs]],rfl,.inr ⟨_,rfl,rfl,?_⟩⟩;erw[n,q]
 have hM:m_filled=K37.m_filled:=rfl;erw[m_most_flow,rG,I,E,C,Y,hM,h5,J,N,L,O]
end
open K35 (fO)
open K54 (mQ lR)
theorem fm_some{b c:Type}{f:b->c}:∀{l:List b},(l.filterMap λa=>W1<|f a)=l.map f
 |[]=>rfl
 |a::l=>by rw[V5,UB];simp only;rw[fm_some]
def EI(S:List<|bv):D:=.lst<|S.map λL=>.lst<|L.map D.str
noncomputable abbrev Sm:am:=(aq (cT (aa (ae 2) (ak (af (aa (ae 0) 2#0 aB)<|af (aa (ae 0) 3#0 aB) ax) fE) bL)
 (aq (aH 1<|aa (ae 1) (cG 1 [2] (jy<|ae 1) (bK 0) mYes<|aa (ae 0) (ak (af (ae 1) ax) bD) aZ) aZ)
 ao)
 ao)
 ao)
section
variable {w:iE}
def Fc:bL (.str x) (.tup [.str y,.str z])=.ok (.bl (decide (x≠y/\x≠z))):=by
 have h:bL (.str x) (.tup [.str y,.str z])=.ok (.bl (!((y==x)||((z==x)||false)))):=rfl;rw[h]
 congr 2
 by_cases a:x=y
 .subst a;simp
 .by_cases b:x=z
  .subst b;simp
  .have d:(y==x)=U9:=beq_eq_false_iff_ne.mpr (Vw a)
   have c:(z==x)=U9:=beq_eq_false_iff_ne.mpr<|Vw b;rw[d,c,dg ⟨a,b⟩];rfl
def Ki{S:List<|bv}(s:S.length<=400)(n:∀L∈S,L.length<=400):Sm [.sh<|aN w,.sh<|EI S,.sh<|.str p]=.ok (.nx [.sh<|aN w,.sh<|EI<|ie w S p,.sh<|.str p]):=by
 have l:aB (aN w) (.int 2)=.ok (.str w.fi):=rfl;have j:aB (aN w) (.int 3)=.ok (.str w.la):=rfl;have e:=Fc (x:=p) (y:=w.fi) (z:=w.la);unfold ie
 by_cases c:p≠w.fi/\p≠w.la
 .rw[dg c]at e
  rw[dh c];have m:∀a b,dY 1 [2] (bK 0) mYes (aa (ae 0) (ak (af (ae 1) ax) bD) aZ) [a,b,.sh<|.str p] (S.map λL=>.lst<|L.map D.str)=.ok (EI (S.map (·++[p]))):=λa b=>by
   rw[K51.comp_pick (λL:bv=>.lst<|L.map D.str) (λL=>W1<|.lst<|(L++[p]).map D.str) 0#2]
   .rw[fm_some];unfold EI;rw[Ve];rfl
   .intro L i
    refine⟨[.sh<|.lst<|L.map D.str,.sh<|.str p],rfl,.inr ⟨_,rfl,rfl,?_⟩⟩;have g:=fY (ds:=L.map D.str) (es:=[.str p]) (dg (by rw[Ut];have:=n L i;simp;omega));rw[U7];erw[g]
  have g:=fY (ds:=S.map λL=>.lst<|L.map D.str) (es:=(S.map (·++[p])).map λL=>.lst<|L.map D.str) (dg (by rw[Ut,Ut,Ut];omega));have d:wX (EI S)=.ok (S.map λL=>.lst<|L.map D.str):=rfl;have q:EI (S++S.map (·++[p]))=.lst ((S.map λL=>.lst (L.map D.str))++(S.map (·++[p])).map λL=>.lst<|L.map D.str):=by unfold EI;rw[U7]
  have f:aZ (EI S) (EI (S.map (·++[p])))=.ok (EI (S++S.map (·++[p]))):=by rw[q];exact g
  erw[l,j,e,d,m,f]
 .rw[dy c]at e
  rw[dV c];erw[l,j,e]
def GQ{S:List<|bv}(c:S.length<=n)(a:∀L∈S,L.length<=m):(ie w S p).length<=2*n/\∀L∈ie w S p,L.length<=m+1:=by
 unfold ie;split
 .refine⟨by rw[Vf,Ut];omega,λL h=>?_⟩
  rcases UO.mp h with h|h
  .have:=a L h;omega
  .obtain⟨M,b,rfl⟩:=UK.mp h
   have:=a M b;simp;omega
 .exact⟨by omega,λL h=>by have:=a L h;omega⟩
theorem Dn:∀(qs:bv) (S:List<|bv) (n m:Nat),S.length<=n->(∀L∈S,L.length<=m)->(qs.foldl (ie w) S).length<=2 ^ qs.length*n/\∀L∈qs.foldl (ie w) S,L.length<=m+qs.length
 |[],S,n,m,h,g=>⟨by simpa using h,λL e=>g L e⟩
 |p::qs,S,n,m,h,g=>by
  obtain⟨a,b⟩:=GQ (w:=w) (p:=p) h g;obtain⟨c,d⟩:=Dn qs (ie w S p) (2*n) (m+1) a b;rw[VZ,UP];refine⟨by rw[Nat.pow_succ,Nat.mul_assoc];exact c,λL e=>?_⟩;have:=d L e;omega
def GP(W:cF w):fD [aN w]=.ok (EI<|jc w)/\(jc w).length<=128:=by
 have j:=W.n7;have key:∀pre:bv,pre.length<=7->(pre.foldl (ie w) [[w.fi]]).length<=128/\∀L∈pre.foldl (ie w) [[w.fi]],L.length<=8:=λpre f=>by
  obtain⟨a,b⟩:=Dn (w:=w) pre [[w.fi]] 1 1 0#3 (λL c=>by rw[UX.mp c];simp);have:2 ^ pre.length<=2 ^ 7:=Vy 0#1 f;exact⟨by omega,λL c=>by have:=b L c;omega⟩
 refine⟨?_,(key w.ps j).1⟩;obtain⟨i,e,d,rfl⟩:=mQ (tg:=bK 2) (body:=Sm) D.str (L:=w.ps) (λpre g=>∃d,g=[.sh<|aN w,.sh<|EI<|pre.foldl (ie w) [[w.fi]],d]) (λpre p post c g z9=>by
  obtain⟨d,n⟩:=z9;subst n;have f:pre.length<=7:=by have:=en X6 c;simp at this;omega
  obtain⟨a,b⟩:=key pre f;refine⟨_,_,rfl,Ki (w:=w) (p:=p) 0#2 (λL h=>by have:=b L h;omega),.sh<|.str p,?_⟩;rw[List.foldl_append];rfl) ⟨.no,rfl⟩
 have e:cD (bK 2) Sm (w.ps.map D.str) [.sh<|aN w,.sh<|.lst [.lst [.str w.fi]],.no]=_:=e;have m:aB (aN w) (.int 0)=.ok (.lst<|w.ps.map D.str):=rfl;have l:aB (aN w) (.int 2)=.ok (.str w.fi):=rfl;erw[fD,pP,l,m,e]
 rfl
end
theorem Ih:∀(l:List Int) (x:Int),(sC x l=x∨sC x l∈l)/\sC x l<=x/\∀y∈l,sC x l<=y
 |[],x=>⟨.inl rfl,X7 _,λ_ h=>nomatch h⟩
 |z::l,x=>by
  obtain⟨a,c,d⟩:=Ih l<|if z<x then z else x;have e:sC x (z::l)=sC (if z<x then z else x) l:=rfl;rw[e];generalize sC (if z<x then z else x) l=m at *;refine⟨?_,?_,λy b=>?_⟩
  .rcases a with a|a
   .split at a
    .exact .inr (by rw[a];exact Uu)
    .exact .inl a
   .exact .inr<|Up _ a
  .split at c<;>omega
  .rcases UG.mp b with rfl|b
   .split at c<;>omega
   .exact d y b
def Ol(h:l≠[]):∃v,xH (.lst<|l.map D.int)=.ok (.int v)/\v∈l/\∀y∈l,v<=y:=by
 cases l with
 |nil=>exact ee rfl h
 |cons x l=>
  obtain⟨a,e,d⟩:=Ih l x;refine⟨sC x l,?_,?_,λy b=>?_⟩
  .show(match gN ((x::l).map D.int) with|some (n::c)=>aw.ok (D.int<|sC n c)|_=>.stuck)=_
   rw[uw]
  .rcases a with a|a
   .rw[a];exact Uu
   .exact Up _ a
  .rcases UG.mp b with rfl|b
   .exact e
   .exact d y b
abbrev SA:am:=(aq (cT (eG (aa (ae 6) (ae 2) bL)<|ak (af (ae 7)<|af (ae 4) ax) bj)
 (aq (aH 5<|aa (ae 5) (aa (ae 1) (ae 6) aB) aZ)
 ao)
 ao)
 ao)
abbrev SD:am:=(aq (aH 5<|dC<|.int 0)
 (aq (gJ (lD<|aa (ae 0) 1#0 aB) (c5 [6,7]) SA)
 (aq (bU 3<|ae 5)
 ao)))
theorem Bz:∀{pre:List fQ}{zs:List Int}{j:Nat},pre.length<zs.length->dE ks L j (pre++[t]) zs=dE ks L j pre zs+(if j+pre.length∉ks/\fO L t=VT then dR zs pre.length else 0)
 |[],[],j,h=>by simp at h
 |[],z::zs,j,h=>by
  show(if j∉ks/\fO L t=VT then z else 0)+dE ks L (j+1) [] zs=0+(if j+0∉ks/\fO L t=VT then z else 0);have:dE ks L (j+1) [] zs=0:=by cases zs<;>rfl
  rw[this,XN];omega
 |s::pre,[],j,h=>by simp at h
 |s::pre,z::zs,j,h=>by
  have a:=Bz (ks:=ks) (L:=L) (t:=t) (pre:=pre) (zs:=zs) (j:=j+1) (by simpa using h);show(if j∉ks/\fO L s=VT then z else 0)+dE ks L (j+1) (pre++[t]) zs=(if j∉ks/\fO L s=VT then z else 0)+dE ks L (j+1) pre zs+(if j+(pre.length+1)∉ks/\fO L t=VT then dR zs pre.length else 0);rw[a,show j+1+pre.length=j+(pre.length+1) by omega];omega
section
variable {w:iE}{ns:List Int}{ks:ci}(W:cF w) (hn:ns.length=w.ts.length)
include W hn
theorem Le(C:vs.length<=900):∃u f c,SD [.sh<|aN w,.sh<|.lst<|ns.map D.int,.sh<|aQ ks,.ow<|.lst<|vs.map D.int,.sh<|.lst<|L.map D.str,x5,x6,x7]=.ok (.nx [.sh<|aN w,.sh<|.lst<|ns.map D.int,.sh<|aQ ks,.ow<|.lst<|(vs++[dE ks L 0 w.ts ns]).map D.int,.sh<|.lst<|L.map D.str,u,f,c]):=by
 obtain⟨s,e,f,c,rfl⟩:=lR (tg:=c5 [6,7]) (body:=SA) aX (L:=w.ts) (λpre n=>∃f c,n=[.sh<|aN w,.sh<|.lst<|ns.map D.int,.sh<|aQ ks,.ow<|.lst<|vs.map D.int,.sh<|.lst<|L.map D.str,.sh<|.int<|dE ks L 0 pre ns,f,c]) (λpre t post r n z9=>by
  obtain⟨f,c,y⟩:=z9;subst y;have x:t∈w.ts:=by rw[r];simp
  have p:pre.length<ns.length:=by rw[hn,r];simp
  have l:=K35.notin_nums (k:=pre.length) (ks:=ks);have m:bj [aX t,.lst<|L.map D.str]=.ok (.bl<|fO L t):=K35.leads_ok<|W.ts t x;have z:=yW p;have g:=Bz (ks:=ks) (L:=L) (t:=t) (j:=0) p;rw[VR]at g;refine⟨_,[.sh<|aN w,.sh<|.lst<|ns.map D.int,.sh<|aQ ks,.ow<|.lst<|vs.map D.int,.sh<|.lst<|L.map D.str,.sh<|.int<|dE ks L 0 (pre++[t]) ns,.sh<|.int (pre.length:Int),.sh<|aX t],rfl,?_,_,_,rfl⟩;rw[g]
  by_cases a:pre.length∈ks
  .rw[dg a]at l
   rw[dV (λq=>q.1 a),Z9];erw[l]
  .rw[dy a]at l
   cases b:fO L t with
   |true=>
    rw[b]at m;rw[dh ⟨a,rfl⟩];erw[l,m,z]
   |false=>
    rw[b]at m;rw[dV (λq=>(nomatch q.2)),Z9];erw[l,m]) ⟨x6,x7,rfl⟩
 have o:dE ks L 0 [] ns=0:=by cases ns<;>rfl
 rw[o]at e;have e:cD (c5 [6,7]) SA (numbered 0<|w.ts.map aX) _=_:=e;have v:aB (aN w) (.int 1)=.ok (.lst<|w.ts.map aX):=rfl;have A:=cN (i:=3) (ds:=vs.map D.int) (d:=.int<|dE ks L 0 w.ts ns) (ρ:=[.sh<|aN w,.sh<|.lst<|ns.map D.int,.sh<|aQ ks,.ow<|.lst<|vs.map D.int,.sh<|.lst<|L.map D.str,.sh<|.int<|dE ks L 0 w.ts ns,f,c]) (dg (by rw[Ut];omega));refine⟨.sh<|.int<|dE ks L 0 w.ts ns,f,c,?_⟩;rw[U7];erw[v,e,A]
theorem least_law:∃v,bV [aN w,.lst<|ns.map D.int,aQ ks]=.ok (.int v)/\IsL w ks ns v:=by
 obtain⟨i,q⟩:=GP W;obtain⟨j,e,f,c,b,a,rfl⟩:=mQ (tg:=bK 4) (body:=SD) (λL:bv=>.lst<|L.map D.str) (L:=jc w) (λpre g=>∃f c b a,g=[.sh<|aN w,.sh<|.lst<|ns.map D.int,.sh<|aQ ks,.ow<|.lst<|(pre.map λL=>dE ks L 0 w.ts ns).map D.int,f,c,b,a]) (λpre L post s g z9=>by
  obtain⟨f,c,b,a,u⟩:=z9;subst u;have G:pre.length<=128:=by have:=en X6 s;simp at this;omega
  obtain⟨n,m,l,x⟩:=Le (ks:=ks) W hn (L:=L) (vs:=pre.map λL=>dE ks L 0 w.ts ns) (by rw[Ut];omega) (x5:=c) (x6:=b) (x7:=a);refine⟨_,_,rfl,x,.sh<|.lst<|L.map D.str,n,m,l,?_⟩;simp only[U7,UB,VM]) ⟨.no,.no,.no,.no,rfl⟩
 have o:(jc w).map (λL=>dE ks L 0 w.ts ns)≠[]:=by
  obtain⟨L,d,_⟩:=Dm W (λk=>decide (k=w.fi)) (dg rfl)<|dy<|Vw W.ne;intro z;rw[List.map_eq_nil_iff]at z;rw[z]at d;cases d
 obtain⟨v,m1,m2,p⟩:=Ol o;refine⟨v,?_,?_⟩
 .have e:cD (bK 4) SD ((jc w).map λL=>.lst<|L.map D.str) [.sh<|aN w,.sh<|.lst<|ns.map D.int,.sh<|aQ ks,.ow<|.lst [],.no,.no,.no,.no]=_:=e
  unfold EI at i;erw[bV,jN,i,e,m1]
 .obtain⟨L,d,t⟩:=UK.mp m2
  exact⟨⟨L,d,t.symm⟩,λM r=>p _<|UK.mpr ⟨M,r,rfl⟩⟩
end
end K40
namespace DL
open PySem PySem.Spec PyProof.Rows L2
def My(o:Obj):Option UD:=match o.data with
 |.func a=>match a.code with
  |.ref c=>W1 c
  |_=>Wp
 |_=>Wp
def GH(K:Uv):List (Option UD×UD×Array Ur):=K.filterMap λp=>(yj K p.2).map λq=>(My p.2,q)
def EF{K:Uv}(h:(P,d)∈iK K):∃c,(c,P,d)∈GH K:=by
 obtain⟨p,a,e⟩:=Ws.mp h;exact⟨My p.2,Ws.mpr ⟨p,a,by rw[e];rfl⟩⟩
theorem ot{P:UD}{d:Array Ur}:∀{l:List<|UD×Array Ur},(l.map (·.1)).Nodup->(P,d)∈l->l.lookup P=W1 d
 |[],_,h=>by cases h
 |(Q,e)::r,nd,h=>by
  rw[UB]at nd;obtain⟨g,c⟩:=U6.mp nd;rw[VF];rcases UG.mp h with a|a
  .cases a;rw[ei]
  .have b:(P==Q)=U9:=by
    rw[er];rintro rfl;exact g (WG (f:=(·.1)) a)
   rw[b];exact ot c a
def GG(K:Uv)(ts:List UD):Bool:=(GH K).all λq=>(match q.1 with
 |some c=>Zq K c q.2.1
 |none=>U9)&&(K.lookup q.2.1).isNone&&ts.contains q.2.1
def tabsStart_mk{K:Uv}{h:UQ}(a:K.In h)(tabs:∀P∈ts,h.get? P=W1 (W.tabObj #[]))(e:GG K ts=VT)(nd:decide ((iK K).map (·.1)).Nodup=VT):L2.TabsStart K h:=λP d f=>by
 obtain⟨c,j⟩:=EF f;have q:=Vd.mp e _ j;rw[US,US]at q;obtain⟨⟨b,i⟩,g⟩:=q;refine⟨?_,tabs P (by simpa using g),by simpa using i,ot (ef nd) f⟩;cases c with|none=>cases b|some c=>exact⟨c,W.codeHd_of_K a b⟩
noncomputable def Iv(K:Uv) (a:UD) (q:UL) (l c:Int):Bool:=match K.lookup a with
 |some ⟨_,_,.func f,_⟩=>match f.code with
  |.ref b=>(GH K).any λr=>r.1==W1 b&&Zq K b r.2.1&&(match r.2.2.toList with
   |[.int e 0,.int g 0,.str d 0]=>e==l&&g==c&&d==q
   |_=>U9)
  |_=>U9
 |_=>U9
def lamAt_mk{K:Uv}(e:Iv K a q F.pos.line F.pos.col=VT)(l:(xt K).lookup q=W1 F):JD K a q F:=by
 unfold Iv at e;split at e
 .rename_i s o x n v
  split at e
  .rename_i A w
   obtain⟨⟨E,P,d⟩,t,e⟩:=List.any_eq_true.mp e;rw[US,US]at e;obtain⟨⟨_,y⟩,f⟩:=e;obtain⟨p,u,c⟩:=Ws.mp t;have m:(P,d)∈iK K:=by
    refine Ws.mpr ⟨p,u,?_⟩;cases z:yj K p.2 with|none=>rw[z]at c;cases c|some r=>rw[z]at c;cases c;rfl
   split at f
   .rename_i C G B b
    rw[US,US]at f;obtain⟨⟨j,i⟩,g⟩:=f;have j:=eq_of_beq j;have i:=eq_of_beq i;have g:=eq_of_beq g;rw[j,i,g]at b;have b:d=#[rawInt F.pos.line,rawInt F.pos.col,.str q 0]:=by
     cases d;exact en Array.mk b
    rw[b]at m;exact⟨s,o,x,n,A,P,v,w,y,m,l⟩
   .cases f
  .cases e
 .cases e
end DL
namespace K40
open PySem L2 DL Com Flo
open K35 (fO)
def T4:∀q:Nat,q<31->0<q->(q:Int)∣MM:=by decide
def Rd(x:cu):Prop:=aV x/\0<=x.1/\x.2∣MM/\x.1<=1000000000000000000
def frac30(hw:0<=w/\w<5)(s:0<=a/\a<1000000000000000000)(r:0<=b/\b<30):∃x:cu,Cod.az [.lst [.int w,.int a,.int b]]=.ok (fr x)/\Rd x:=by
 have t:(1000000000000000000000:Int)<(jD:Int):=by decide
 have z:=dM (a:=a) (b:=7) 0#1;have l:=dM (a:=a) (b:=60) 0#1;have d:=dM (a:=a) (b:=1000) 0#1;have A:=dM (a:=b) (b:=4) 0#1;obtain⟨p,q,o,m,g,f⟩:∃p q:Int,(0<=p/\p<1000000000000000000)/\(1<=q/\q<31)/\aB (.lst [.int 0,.int<|a.fmod 7,.int<|a.fmod 60,.int a,.int<|a.fmod 1000]) (.int w)=.ok (.int p)/\aB (.lst [.int 1,.int 1,.int (1+b),.int 1,.int (1+b.fmod 4)]) (.int w)=.ok (.int q):=by
  have:w=0∨w=1∨w=2∨w=3∨w=4:=by omega
  rcases this with rfl|rfl|rfl|rfl|rfl
  .exact⟨0,1,by decide,by decide,rfl,rfl⟩
  .exact⟨a.fmod 7,1,by omega,by decide,rfl,rfl⟩
  .exact⟨a.fmod 60,1+b,by omega,by omega,rfl,rfl⟩
  .exact⟨a,1,by omega,by decide,rfl,rfl⟩
  .exact⟨a.fmod 1000,1+b.fmod 4,by omega,by omega,rfl,rfl⟩
 have c:=Cod.low_ok (a:=p) (b:=q) 0#2 (Ld 0#2<|by omega) (Ld 0#2<|by omega);have y:(dU p q).1.natAbs<=p.natAbs:=mL;have v:(dU p q).2.natAbs<=q.natAbs:=oq;have j:=uf (a:=p) (b:=q) 0#2 0#2;have e:=eW (a:=p) (b:=q) 0#2;have u:=e.q1;refine⟨dU p q,?_,⟨e,?_,?_⟩,j,?_,?_⟩
 .erw[Cod.az,Cod.eQ,g,f,c]
 .omega
 .omega
 .obtain⟨n,i⟩:=Vm (show 0<=(dU p q).2 by omega)
  rw[i];exact T4 n 0#2 0#2
 .omega
def rooms30{ns:List Int}{e U:List Int}(G:Cod.aK [.lst<|ns.map D.int]=.ok (.tup [.lst<|e.map D.int,.lst<|U.map D.int]))(H:e.length<=14):∃xs:List cu,bA [.lst<|ns.map D.int]=.ok (.lst<|xs.map fr)/\xs.length=e.length/\∀x∈xs,Rd x:=by
 have key:∀c:Int,∃x:cu,(∀o:Ev,o[0]?=W1 (.sh<|.int c)->o[1]?=W1 (.sh<|.lst [.int 420,.int 60,.int 2,.int 5,.int 1000000000000000000,.int 30,.int 6,.int 5,.int 1000000000000000000,.int 30,.int 3,.int 5,.int 1000000000000000000,.int 30])->(ak (af (fJ (ak (af (ae 0)<|af (ae 1) ax) Cod.aD) (bS<|dC<|.int 11) eV) ax) Cod.az) o=.ok (fr x))/\Rd x:=λc=>by
  obtain⟨f,E,V⟩:=Cod.draws_ok c [420,60,2,5,1000000000000000000,30,6,5,1000000000000000000,30,3,5,1000000000000000000,30] 0#1 0#1;have r:f.length=14:=V.len;obtain⟨m,y,B,_⟩:=V.ix 11 11 rfl rfl;obtain⟨l,u,A,_⟩:=V.ix 12 12 rfl rfl;obtain⟨j,t,z,_⟩:=V.ix 13 13 rfl rfl;obtain⟨x,q,L⟩:=frac30 (w:=m) (a:=l) (b:=j) B A z;refine⟨x,λo J I=>?_,L⟩;have n:jA (f.map D.int) (W1 11) Wp=[.int m,.int l,.int j]:=by
   rw[iW,HT.sIx_none,show(11:Int)=((11:Nat):Int) from rfl,HT.sIx_nat,r];have:=Dh (i:=11) y u t;show((f.drop 11).take 3).map D.int=_;rw[this];rfl
  have s:Cod.aD [.int c,.lst [.int 420,.int 60,.int 2,.int 5,.int 1000000000000000000,.int 30,.int 6,.int 5,.int 1000000000000000000,.int 30,.int 3,.int 5,.int 1000000000000000000,.int 30]]=.ok (.lst<|f.map D.int):=E;generalize f.map D.int=Q at *;erw[J,I,s,n,q]
 obtain⟨g,C⟩:=Classical.axiomOfChoice key;refine⟨e.map g,?_,by simp,λx q=>?_⟩
 .have d:dY 1 [1] (bK 0) mYes (ak (af (fJ (ak (af (ae 0)<|af (ae 1) ax) Cod.aD) (bS<|dC<|.int 11) eV) ax) Cod.az) [.sh<|.lst<|ns.map D.int,.sh<|.lst [.int 420,.int 60,.int 2,.int 5,.int 1000000000000000000,.int 30,.int 6,.int 5,.int 1000000000000000000,.int 30,.int 3,.int 5,.int 1000000000000000000,.int 30]] (e.map D.int)=.ok (.lst<|(e.map g).map fr):=by
   rw[K51.comp_pick D.int (λv=>W1<|fr<|g v) 0#2]
   .rw[fm_some,Ve];rfl
   .intro c _
    exact⟨[.sh<|.int c,.sh<|.lst [.int 420,.int 60,.int 2,.int 5,.int 1000000000000000000,.int 30,.int 6,.int 5,.int 1000000000000000000,.int 30,.int 3,.int 5,.int 1000000000000000000,.int 30]],rfl,.inr ⟨_,rfl,rfl,(C c).1 _ rfl rfl⟩⟩
  have p:kn (.int 10) (.int 18)=.ok (.int 1000000000000000000):=rfl;have M:bA=K34.bA:=rfl;have O:K34.aD=Cod.aD:=rfl;have N:K34.az=Cod.az:=rfl;have T:K34.aK=Cod.aK:=rfl;rw[M];erw[K34.bA,K34.eI,p,O,N,T,G,d]
 .obtain⟨c,_,rfl⟩:=UK.mp q
  exact(C c).2
section
variable {w:iE}{xs:List cu}{ks:ci}
def rd_rms(b:xs.length=w.ts.length)(h:∀x∈xs,Rd x):Rms w xs:=⟨⟨b,λx a=>⟨(h x a).1,(h x a).2.1⟩⟩,λx a=>(h x a).2.2.1,λx a=>by have:=(h x a).2.2.2;omega⟩
def Og(X:Rms w xs):∀z∈lL xs,0<=z/\z<=2000000000000000000*MM:=λz e=>by
 obtain⟨x,b,rfl⟩:=UK.mp e;have a:=X.s x b;have p:=(X.r.f x b).1.q1;have n:=(X.r.f x b).2;have c:0<=MM / x.2:=V9 0#1 0#2;have d:MM / x.2<=MM:=Zb _ 0#1;exact⟨Wy n c,Zu a d c<|by decide⟩
theorem cut_bd{L:bv}{M:Int}:∀{ts:List fQ}{zs:List Int}{j:Nat},0<=M->(∀z∈zs,0<=z/\z<=M)->0<=dE ks L j ts zs/\dE ks L j ts zs<=ts.length*M
 |[],zs,j,_,_=>by
  have h:dE ks L j [] zs=0:=by cases zs<;>rfl
  rw[h];simp
 |t::ts,[],j,h,_=>⟨X7 _,Wy 0#2 h⟩
 |t::ts,z::zs,j,g,h=>by
  obtain⟨a,b⟩:=cut_bd (L:=L) (ts:=ts) (zs:=zs) (j:=j+1) g λy f=>h y<|Up _ f;obtain⟨c,d⟩:=h z Uu;show 0<=(if j∉ks/\fO L t=VT then z else 0)+dE ks L (j+1) ts zs/\(if j∉ks/\fO L t=VT then z else 0)+dE ks L (j+1) ts zs<=((ts.length+1:Nat):Int)*M;have e:((ts.length+1:Nat):Int)*M=ts.length*M+M:=by rw[Zj,Zg];simp
  rw[e];split<;>omega
def isl_bd(W:cF w)(X:Rms w xs)(v:Int)(h:IsL w ks (lL xs) v):v.natAbs<jD:=by
 obtain⟨L,_,e⟩:=h.at_;have f:=W.t14;obtain⟨a,b⟩:=cut_bd (ks:=ks) (L:=L) (ts:=w.ts) (j:=0) (M:=2000000000000000000*MM) 0#1<|Og X;have c:(w.ts.length:Int)*(2000000000000000000*MM)<=14*(2000000000000000000*MM):=Vi 0#2 0#1;have d:(14*(2000000000000000000*MM)).natAbs<jD:=by decide
 omega
end
def mulN(hi:i.natAbs<mw)(a:j.natAbs<mw):bf (.int i) (.int j)=.ok (.int<|i*j):=dh<|fg hi a
def n60{i:Int}(h:i.natAbs<jD):i.natAbs<mw:=Uy h dG
def ints_ok(W:cF w)(X:Rms w xs):dW [.lst<|xs.map fr]=.ok (.lst<|(lL xs).map D.int):=by
 have b:=W.t14;have t:=X.r.l;have m:∀a,dY 2 [1] (c5 [0,1]) mYes (aa (ae 0) (aa (ae 2) (ae 1) kY) bf) [a,.sh<|.int 2329089562800] (xs.map fr)=.ok (.lst<|(lL xs).map D.int):=λa=>by
  rw[K51.comp_pick fr (λx=>W1<|.int<|x.1*(MM / x.2)) 0#2]
  .rw[fm_some];unfold lL;rw[Ve];rfl
  .intro x c
   obtain⟨f,n⟩:=X.r.f x c;have p:=f.q1;have g:kY (.int 2329089562800) (.int x.2)=.ok (.int<|MM / x.2):=by
    have e:Int.fdiv MM x.2=MM / x.2:=Yk _ 0#2;rw[←e];exact CW (a:=2329089562800) (qr 0#2<|Uy (show(2329089562800:Int).natAbs<jD by decide) sQ)
   have o:MM / x.2<=MM:=Zb _ 0#1;have q:0<=MM / x.2:=V9 0#1 0#2;have s:MM.natAbs<jD:=by decide
   have d:=mulN (i:=x.1) (j:=MM / x.2) (n60 f.pN) (n60<|by omega);refine⟨[.sh<|.int x.1,.sh<|.int x.2,.sh<|.int 2329089562800],rfl,.inr ⟨_,rfl,rfl,?_⟩⟩;erw[g,d]
 erw[dW,rL,m]
end K40
namespace K39
open PySem L2 DL Com Flo
open K35 (fO)
open K34 (yk F8 F7 nt xC)
section
variable {w:iE}{xs ys:List cu}{ks:ci}{Q:Int}
def xo(Q:Int)(ys:List cu):List Int:=ys.map λy=>y.1*(Q / y.2)
def kC(w:iE)(ys:List cu):cu:=K36.sumF<|K36.parts w.fi w.ts ys
def zA(b:w.ts.length<=14)(a:∀y∈ys,aV y):F5 (K36.parts w.fi w.ts ys).length (kC w ys)/\Low (kC w ys) :=
 K36.sum_acc (UI K36.parts_len<|by omega) (K36.parts_fin a)
def BJ(i:w.ts.length<=14)(g:∀y∈ys,y.2∣Q)(f:∀y∈ys,aV y):(kC w ys).1*Q=dA w.fi w.ts (xo Q ys)*(kC w ys).2:=by
 have d:(K36.parts w.fi w.ts ys).length<=28:=UI K36.parts_len 0#2;have A:=rZ 0#2<|K36.parts_fin (p:=w.fi) (ts:=w.ts) f;have e:=EH (b:=Q) (P:=K36.parts w.fi w.ts ys) (λx c=>by
  obtain⟨y,a,e⟩:=xj c;rw[e];exact g y a) A.pos
 rwa[←K36.ips_parts,oy]at e
theorem mJ:∀{ts:List fQ}{as:List Int},dA q ts (as.map (· * c))=dA q ts as*c
 |[],as=>by
  have h:∀a:List Int,dA q [] a=0:=λa=>by cases a<;>rfl
  rw[h,h];omega
 |t::ts,[]=>by show(0:Int)=0*c;omega
 |t::ts,x::as=>by
  show x*c*ek q t+dA q ts (as.map (· * c))=(x*ek q t+dA q ts as)*c;rw[mJ];grind
def Cs(d:∀y∈ys,y.2∣b)(e:∀y∈ys,0<y.2):xo (b*c) ys=(xo b ys).map (· * c):=by
 unfold xo;rw[Ve];refine Xp λy a=>?_;obtain⟨m,rfl⟩:=d y a;have:=e y a;show y.1*(y.2*m*c / y.2)=y.1*(y.2*m / y.2)*c;rw[ZL,Vx _ 0#2,Vx _<|by omega];grind
def Ct{k:Nat}(h:ys[k]?=W1 y):dR (xo Q ys) k=y.1*(Q / y.2):=by
 unfold dR xo;rw[Uw,h];rfl
def yJ:(xo Q ys).length=ys.length:=by unfold xo;rw[Ut]
structure BR (w:iE) (xs:List cu) (ks:ci) (ys:List cu):Prop where
 a:∀k,k<w.ts.length->F8 w xs ks (ys.map fr) k=VT
 p:∀k,k<w.ps.length->F7 w ys k=VT
def zc(e:xs.length=w.ts.length)(d:ys.length=w.ts.length)(c:∀y∈ys,aV y){k:Nat}(h:w.ts[k]?=W1 t):∃r y,xs[k]?=W1 r/\ys[k]?=W1 y/\F8 w xs ks (ys.map fr) k=((if decide (k∈ks)=VT then y.1==0 else !(flt r ((y.1.natAbs:Int),y.2)))&&!(decide (y.1<0)&&decide (t.w="one"))):=by
 have f:=(Uz.mp h).1;have b:=Uq (show k<xs.length by omega);have a:=Uq (show k<ys.length by omega);refine⟨_,_,b,a,?_⟩;unfold F8;rw[h,b,Uw,a];exact K34.good_low (c _<|VB _).toLow
def IJ{r y:cu}(l:0<r.2)(j:0<y.2)(s:r.2∣Q)(d:y.2∣Q)(q:0<Q):flt r ((y.1.natAbs:Int),y.2)=U9↔(y.1*(Q / y.2)).natAbs<=(r.1*(Q / r.2)):=by
 obtain⟨a,rfl⟩:=s;obtain⟨b,f⟩:=d;rw[Vx _ 0#2];have e:r.2*a / y.2=b:=by rw[f];exact Vx _ 0#2
 have p:0<b:=by
  have:0<b*y.2:=by rw[Xl];omega
  by_cases c:0<b
  .exact c
  .have:=Wy (show 0<=-b by omega) (show 0<=y.2 by omega)
   rw[YI]at this;omega
 rw[e,Vr];unfold flt;have o:((y.1.natAbs*b.natAbs:Nat):Int)=(y.1.natAbs:Int)*b:=by
  rw[Ya,Xf (show 0<=b by omega)]
 rw[decide_eq_false_iff_not,o];show ¬(r.1*y.2<(y.1.natAbs:Int)*r.2)↔_;generalize (y.1.natAbs:Int)=n at *;have i:n*b*(r.2*y.2)=n*r.2*(y.2*b):=by grind
 have k2:r.1*a*(r.2*y.2)=r.1*y.2*(r.2*a):=by grind
 have m:0<r.2*y.2:=We l j;constructor
 .intro h
  have t:n*r.2<=r.1*y.2:=by omega
  have:=Vi t (show 0<=r.2*a by omega);rw[←k2,f,←i]at this;exact Yi this m
 .intro h g
  have:=Zm g q;have d:=Vi h (show 0<=r.2*y.2 by omega);rw[i,k2]at d;rw[←f]at d;omega
def Jf{p q:Prop}[Decidable p][Decidable q]:(!(decide p&&decide q))=VT↔¬(p/\q):=by
 by_cases a:p<;>by_cases b:q<;>simp[a,b]
def Di:yk ys=xo (bT ys) ys:=rfl
def Fx(S:K34.Su w xs ks)(B:ys.length=w.ts.length)(m:∀y∈ys,aV y)(G:BR w xs ks ys) :
  0<bT xs*bT ys/\(∀x∈xs,x.2∣bT xs*bT ys)/\(∀y∈ys,y.2∣bT xs*bT ys)/\dS w (xo (bT xs*bT ys) xs) (xo (bT xs*bT ys) ys)/\zG w ks (xo (bT xs*bT ys) ys):=by
 have W:=S.W;have N:=K34.bot_pos (xs:=xs) λx C=>(S.rf x C).1;have f:=K34.bot_pos (xs:=ys) m;have J:0<bT xs*bT ys:=We N.1 f.1;have M:∀x∈xs,x.2∣bT xs*bT ys:=λx C=>XZ (N.2 x C)<|Int.dvd_mul_right ..;have L:∀y∈ys,y.2∣bT xs*bT ys:=λy h=>XZ (f.2 y h)<|Int.dvd_mul_left ..;refine⟨J,M,L,⟨by rw[yJ];exact B,λk t j=>?_⟩,λk i=>?_,λq Y U=>?_⟩
 .obtain⟨r,y,v,o,H⟩:=zc (ks:=ks) S.rl B m j
  have i:=(Uz.mp j).1;have g:=G.a k i;rw[H,US,Jf]at g;obtain⟨s,g2⟩:=g;have I:=S.rf r<|UM v;have A:=m y<|UM o;have r1:=I.1.q1;have y1:=A.q1;rw[Ct v,Ct o];have T:0<=(bT xs*bT ys) / y.2:=V9 0#2 0#2;have O:0<=r.1*((bT xs*bT ys) / r.2):=Wy I.2 (V9 0#2<|by omega);have ab:((y.1*((bT xs*bT ys) / y.2)).natAbs:Int)<=r.1*((bT xs*bT ys) / r.2):=by
   by_cases c:k∈ks
   .rw[dg c,dh rfl]at s
    rw[eq_of_beq s,Xk];simpa using O
   .rw[dy c,dV<|by decide]at s
    exact(IJ 0#2 0#2 (M r<|UM v) (L y<|UM o) J).mp (by simpa using s)
  refine⟨by omega,?_⟩
  by_cases c:t.w="one"
  .rw[dh c]
   exact Wy (by by_cases n:y.1<0;exact ee ⟨n,c⟩ g2;omega) T
  .rw[dV c];omega
 .by_cases l:k<w.ts.length
  .obtain⟨r,y,v,o,H⟩:=zc (ks:=ks) S.rl B m (Uq l)
   have g:=G.a k l;rw[H,US,dg i,dh rfl]at g;rw[Ct o,eq_of_beq g.1,Xk]
  .unfold dR
   rw[V7 (by rw[yJ];omega)];rfl
 .rw[Xl,Cs f.2 (λy h=>by have:=(m y h).q1;omega),mJ,←Di,←oy]
  by_cases E:q∈w.ps
  .obtain⟨k,i,e⟩:=X4.mp E
   have g:=G.p k i;unfold F7 xC at g;rw[Uq i,e]at g;simp only[dV U,dV Y]at g;have g:K36.ips q w.ts (yk ys)=0:=eq_of_beq g;rw[g,Xk]
  .have z:∀(ts:List fQ) (d:List Int),(∀t∈ts,t.a≠q/\t.b≠q)->dA q ts d=0:=by
    intro ts
    induction ts with
    |nil=>intro d _;cases d<;>rfl
    |cons t ts ih=>
     intro d h;cases d with
     |nil=>rfl
     |cons x d=>
      obtain⟨h1,h2⟩:=h t Uu;show x*ek q t+dA q ts d=0;rw[ih d λu hu=>h u<|Up _ hu];unfold ek;rw[dV h1,dV h2];simp
   rw[oy,z w.ts _ λt j=>⟨λe=>E (e▸(W.ts t j).a),λe=>E<|e▸(W.ts t j).b⟩,Xk]
def xw(S:K34.Su w xs ks)(L:∀a∈as,aV<|dU a<|bT xs)(A:dS w (zR xs) as)(K:zG w ks as)(N:0<=dA w.fi w.ts as):BR w xs ks (as.map λa=>dU a<|bT xs):=by
 have g:=K34.bot_pos (xs:=xs) λx I=>(S.rf x I).1;have o:(as.map λa=>dU a<|bT xs).length=w.ts.length:=by rw[Ut];exact A.1
 have f:∀y∈as.map (λa=>dU a<|bT xs),aV y:=λy h=>by
  obtain⟨a,j,rfl⟩:=UK.mp h;exact L a j
 have i:=K34.bot_pos f;have eB:xo (bT xs) (as.map λa=>dU a<|bT xs)=as:=by
  unfold xo;rw[Ve]
  conv=>rhs;rw[←sao as]
  exact Xp λa _=>ug g.1
 have Y:∀q,dA q w.ts (yk<|as.map λa=>dU a<|bT xs)*bT xs=dA q w.ts as*bT (as.map λa=>dU a<|bT xs):=λq=>by
  rw[Di,←mJ,←Cs i.2 (λy h=>by have:=(f y h).q1;omega),Xl,Cs (λy h=>by
   obtain⟨a,_,rfl⟩:=UK.mp h;exact sD) (λy h=>by have:=(f y h).q1;omega),mJ,eB]
 refine⟨λk s=>?_,λk s=>?_⟩
 .have B:=Uq s
  obtain⟨r,y,u,E,e3⟩:=zc (ks:=ks) S.rl o f B;rw[e3,US,Jf];rw[Uw]at E;obtain⟨a,U,T⟩:=XJ.mp E;have j:dR as k=a:=by unfold dR;rw[U];rfl
  have C:=S.rf r<|UM u;have r1:=C.1.q1;obtain⟨O,t⟩:=A.2 k _ B;have H:dR (zR xs) k=r.1*(bT xs / r.2):=by unfold dR zR;rw[Uw,u];rfl
  rw[j,H]at O t;have d:=ug (a:=a) g.1;have G:=(eW (a:=a) g.1).q1;have ld:=sD (a:=a) (b:=bT xs);rw[T]at d G ld;have qn:0<=bT xs / y.2:=V9 (by have:=g.1;omega) 0#2;have rn:0<=r.1*(bT xs / r.2):=Wy C.2 (V9 (by have:=g.1;omega)<|by omega);have p:0<bT xs / y.2:=by
   obtain⟨m,J⟩:=ld;rw[J,Vx _<|by omega];have:=g.1
   by_cases c:0<m
   .exact c
   .have:=Wy (show 0<=y.2 by omega) (show 0<=-m by omega)
    rw[Int.mul_neg]at this;omega
  refine⟨?_,?_⟩
  .by_cases c:k∈ks
   .rw[dg c,dh rfl]
    have:=K.tk k c;rw[j]at this;rw[this]at d;rcases Zk.mp d with z|z
    .rw[z];rfl
    .omega
   .rw[dy c,dV<|by decide]
    have:=(IJ (r:=r) (y:=y) 0#2 0#2 (g.2 r<|UM u) ld g.1).mpr (by
     rw[d];split at t<;>omega)
    rw[this];rfl
  .rintro⟨n,c⟩
   rw[dh c]at t;have:=We (show 0 < -y.1 by omega) p;rw[YI,d]at this;omega
 .unfold F7 xC
  rw[Uq s];simp only;have bp:=i.1;have bq:=g.1
  by_cases v:w.ps[k]=w.la
  .rw[dh v]
  .rw[dV v]
   have e:=Y w.ps[k];show(if _ then !(decide (K36.ips _ _ _<0)) else K36.ips _ _ _==0)=VT;rw[oy]
   by_cases l:w.ps[k]=w.fi
   .rw[dh l]
    rw[l]at e ⊢;have M:=Wy N (show 0<=bT (as.map λa=>dU a<|bT xs) by omega);rw[←e]at M;rw[dy (λn=>by
     have:=We (show 0 < -(dA w.fi w.ts<|yk<|as.map λa=>dU a<|bT xs) by omega) bq;rw[YI]at this;omega)];rfl
   .rw[dV l]
    rw[K.bal _ l v,Xk]at e;rcases Zk.mp e with z|z
    .rw[z];rfl
    .omega
end
open K34 (kF dF Rv Wk BS yT Ea QO Gw A9 OH OF qK wM oC Wk.snoc)
def Nh:nT=(aq (aH 3<|aa (ae 0) 2#0 aB)<|aq (j8 4<|ak (af (ae 3) ax) bD)<|aq (j8 5<|ak ax bD)<|aq (eZ (λ_=>1000) wM qK)<|aq (bh<|ae 5) ao):=rfl
section
variable {w:iE}{p:UL}{been:bv}{st:List (Nat×Int)}{ws:List (Nat×Int×UL)}{k:Nat}{t:fQ}{A2:D}{ks:ci}{x9:Sl}
abbrev sV(w:iE)(ks:ci)(A2:D)(p:UL)(been:bv)(st:List<|Nat×Int)(x6 x7 x8 x9:Sl):Ev:=[.sh<|aN w,.sh<|aQ ks,.sh A2,.sh<|.str p,.ow<|.lst<|been.map D.str,.ow<|.lst<|st.map dF,x6,x7,x8,x9]
def OG(o:w.ts[k]?=W1 t)(q:ny w.ps t)(hw:∀c∈ws,BS w p been c)(r:ws.length<=100):∃d:List<|Nat×Int×UL,OH (sV w ks A2 p been st (.ow<|.lst<|ws.map kF) (.sh<|.int (k:Int)) (.sh<|aX t) x9)=.ok (.nx<|sV w ks A2 p been st (.ow<|.lst<|d.map kF) (.sh<|.int (k:Int)) (.sh<|aX t) x9)/\(∀c∈d,BS w p been c)/\d.length<=ws.length+1:=by
 have e:=K35.notin_nums (k:=k) (ks:=ks);have j:aB (aX t) (.int 0)=.ok (.str t.a):=rfl;have i:aB (aX t) (.int 1)=.ok (.str t.b):=rfl;have l:decide ((ws.map kF).length<=999)=VT:=dg (by rw[Ut];omega);unfold sV OH
 by_cases n:k∈ks
 .rw[dg n]at e
  exact⟨ws,by erw[e],hw,by omega⟩
 .rw[dy n]at e
  by_cases g:t.a=p
  .by_cases m:t.b∈been
   .exact⟨ws,by erw[e,j,i,K36.eqs,dg g,gM,dg m],hw,by omega⟩
   .refine⟨ws++[((k,1,t.b):Nat×Int×UL)],?_,λc f=>?_,by simp⟩
    .rw[U7]
     erw[e,j,i,K36.eqs,dg g,gM,dy m,cN l]
     rfl
    .rcases UO.mp f with f|f
     .exact hw c f
     .have:c=(k,1,t.b):=by simpa using f
      subst this;exact⟨⟨t,o,.inl ⟨rfl,g,rfl⟩⟩,m,q.b⟩
  .exact⟨ws,by erw[e,j,i,K36.eqs,dy g],hw,by omega⟩
def OE(r:w.ts[k]?=W1 t)(s:ny w.ps t)(hw:∀c∈ws,BS w p been c)(u:ws.length<=100):∃d:List<|Nat×Int×UL,OF (sV w ks A2 p been st (.ow<|.lst<|ws.map kF) (.sh<|.int (k:Int)) (.sh<|aX t) x9)=.ok (.nx<|sV w ks A2 p been st (.ow<|.lst<|d.map kF) (.sh<|.int (k:Int)) (.sh<|aX t) x9)/\(∀c∈d,BS w p been c)/\d.length<=ws.length+1:=by
 have e:=K35.notin_nums (k:=k) (ks:=ks);have l:aB (aX t) (.int 0)=.ok (.str t.a):=rfl;have j:aB (aX t) (.int 1)=.ok (.str t.b):=rfl;have i:aB (aX t) (.int 2)=.ok (.str t.w):=rfl;have n:decide ((ws.map kF).length<=999)=VT:=dg (by rw[Ut];omega);unfold sV OF
 by_cases q:k∈ks
 .rw[dg q]at e
  exact⟨ws,by erw[e],hw,by omega⟩
 .rw[dy q]at e
  by_cases g:t.w="both"
  .by_cases m:t.b=p
   .by_cases o:t.a∈been
    .exact⟨ws,by erw[e,l,j,i,K36.eqs,dg g,dg m,gM,dg o],hw,by omega⟩
    .refine⟨ws++[((k,-1,t.a):Nat×Int×UL)],?_,λc f=>?_,by simp⟩
     .rw[U7]
      erw[e,l,j,i,K36.eqs,dg g,dg m,gM,dy o,cN n]
      rfl
     .rcases UO.mp f with f|f
      .exact hw c f
      .have:c=(k,-1,t.a):=by simpa using f
       subst this;exact⟨⟨t,r,.inr ⟨rfl,g,m,rfl⟩⟩,o,s.a⟩
   .exact⟨ws,by erw[e,l,j,i,K36.eqs,dg g,dy m],hw,by omega⟩
  .exact⟨ws,by erw[e,l,j,i,K36.eqs,dy g],hw,by omega⟩
def J4(W:cF w)(x7 x8:Sl):∃(ws:List<|Nat×Int×UL) (b a:Sl),cD (c5 [7,8]) (aq OH<|aq OF ao) (numbered 0<|w.ts.map aX) (sV w ks A2 p been st (.ow<|.lst []) x7 x8 x9)=.ok (.nx<|sV w ks A2 p been st (.ow<|.lst<|ws.map kF) b a x9)/\(∀c∈ws,BS w p been c)/\ws.length<=28:=by
 have r:=W.t14;obtain⟨l,n,ws,b,a,rfl,g,i⟩:=jI (ds:=numbered 0<|w.ts.map aX) (tg:=c5 [7,8]) (ρ:=sV w ks A2 p been st (.ow<|.lst []) x7 x8 x9) (body:=aq OH<|aq OF ao)
  (λk f=>∃(ws:List<|Nat×Int×UL) (b a:Sl),f=sV w ks A2 p been st (.ow<|.lst<|ws.map kF) b a x9/\(∀c∈ws,BS w p been c)/\ws.length<=2*k) (by
   rintro k d o f ⟨ws,b,a,rfl,g,i⟩;obtain⟨t,e,rfl⟩:=iQ o;have B:k<w.ts.length:=(Uz.mp e).1;have j:=W.ts t<|UM e;obtain⟨x,s,v,A⟩:=OG (A2:=A2) (ks:=ks) (st:=st) (x9:=x9) e j g 0#2;obtain⟨m,q,u,z⟩:=OE (A2:=A2) (ks:=ks) (st:=st) (x9:=x9) e j v 0#2;refine⟨_,_,nu rfl,?_,m,.sh<|.int (k:Int),.sh<|aX t,rfl,u,by omega⟩;show(aq OH<|aq OF ao) (sV w ks A2 p been st (.ow<|.lst<|ws.map kF) (.sh<|.int (k:Int)) (.sh<|aX t) x9)=_;rw[kQ,s,oX,kP,kQ,q,oX,kP,mS]) ⟨[],x7,x8,rfl,λc h=>(nomatch h),by simp⟩
 rw[di,Ut]at i;exact⟨ws,b,a,n,g,by omega⟩
end
def Gu(W:cF w){es:List Int}(E:st.length<es.length)(C:st.length<=100)(N:been.length<=100) :
  qK (sV w ks (.lst<|es.map D.int) p been st x6 x7 x8 x9)=.ok (.rt<|.lst [])∨∃c B x m A,BS w p been c/\qK (sV w ks (.lst<|es.map D.int) p been st x6 x7 x8 x9)=.ok (.nx<|sV w ks (.lst<|es.map D.int) c.2.2 (been++[c.2.2]) (st++[(c.1,c.2.1)]) B x m A):=by
 obtain⟨y,x,m,j,H,M⟩:=J4 (ks:=ks) (A2:=.lst<|es.map D.int) (p:=p) (been:=been) (st:=st) (x9:=x9) W x7 x8;have f:bD []=.ok (.lst []):=rfl;have z:aB (aN w) (.int 1)=.ok (.lst<|w.ts.map aX):=rfl;cases y with
 |nil=>
  left;have l:gD (.lst []) (.lst [])=.ok (.bl VT):=rfl;unfold qK;unfold sV at j ⊢;rw[VM]at j;erw[f,z,j,l]
 |cons e r=>
  right;have l:=Ea (ws:=e::r);rw[List.isEmpty_cons]at l;have hlen:(((e::r).map kF).length:Int)=((e::r).length:Int):=by rw[Ut]
  have o:aB (.lst<|es.map D.int) (.int (st.length:Int))=.ok (.int es[st.length]):=dJ (by rw[Uw,Uq E];rfl);have q:((e::r).length:Int)≠0:=by rw[UP];omega
  have i:=dM (a:=es[st.length]) (b:=((e::r).length:Int)) (by rw[UP];omega);obtain⟨d,I,G⟩:=K35.ix_mem (ds:=(e::r).map kF) (v:=es[st.length].fmod ((e::r).length:Int)) i.1 (by rw[Ut];exact i.2);obtain⟨c,J,rfl⟩:=UK.mp G;have g:=tZ (a:=es[st.length]) q;have t:decide ((st.map dF).length<=999)=VT:=dg (by rw[Ut];omega);have s:decide ((been.map D.str).length<=999)=VT:=dg (by rw[Ut];omega);refine⟨c,.sh<|.lst<|(e::r).map kF,.sh<|.int (c.1:Int),m,.sh<|.int c.2.1,H c J,?_⟩;unfold qK;unfold sV at j ⊢;rw[U7,U7];generalize O:(e::r).map kF=L at *;have u:(L.length:Int)=((e::r).length:Int):=hlen;generalize ((e::r).length:Int)=n at *;erw[f,z,j,l,A9,Ut,u,o,g,I,Gw,cN t,cN s]
  rfl
def Gp{w:iE}{ks:ci}(W:cF w){es:List Int}(C:es.length=10):∀(n:Nat) (p:UL) (been:bv) (st:List<|Nat×Int) (x6 x7 x8 x9:Sl),been.Nodup->(∀x∈been,x∈w.ps)->st.length+1=been.length->9<=n+been.length->Wk w.ts w.fi st p ->
  bY wM qK n (sV w ks (.lst<|es.map D.int) p been st x6 x7 x8 x9)=.ok (.rt<|.lst [])∨∃g f q o m l,bY wM qK n (sV w ks (.lst<|es.map D.int) p been st x6 x7 x8 x9)=.ok (.nx<|sV w ks (.lst<|es.map D.int) w.la g f q o m l)/\Wk w.ts w.fi f w.la/\f.length<=6:=by
 intro n
 induction n with
 |zero=>
  intro p been st x6 x7 x8 x9 nd sub y v r;exfalso;have:=yT nd sub;have:=W.n7;omega
 |succ n t=>
  intro p been st x6 x7 x8 x9 nd sub y v r;have E:=yT nd sub;have B:=W.n7;have u:aB (aN w) (.int 3)=.ok (.str w.la):=rfl;have d:wM (iD<|sV w ks (.lst<|es.map D.int) p been st x6 x7 x8 x9)=.ok (.bl (!(decide (p=w.la)))):=by
   unfold sV wM;erw[u,QO]
  by_cases c:p=w.la
  .right
   subst c;rw[dg rfl]at d;exact⟨been,st,x6,x7,x8,x9,gL d,r,by omega⟩
  .rw[dy c]at d
   rcases Gu W (p:=p) (been:=been) (st:=st) (es:=es) (x6:=x6) (x7:=x7) (x8:=x8) (x9:=x9) 0#2 0#2 0#2 with h|⟨i,q,o,m,l,s,h⟩
   .left
    conv=>lhs;unfold bY
    rw[d,h];rfl
   .rw[jZ d h]
    refine t i.2.2 (been++[i.2.2]) (st++[(i.1,i.2.1)]) q o m l ?_ (λx j=>?_) (by simp;omega) (by simp;omega)<|Wk.snoc r s.1
    .rw[WB]
     exact⟨nd,by simp,λa A b z=>by
      have:b=i.2.2:=by simpa using z
      subst this;intro e;subst e;exact s.2.1 A⟩
    .rcases UO.mp j with j|j
     .exact sub x j
     .have:x=i.2.2:=by simpa using j
      subst this;exact s.2.2
def oC:eZ a c s ρ=bY c s (a ρ) ρ:=rfl
def Ng(W:cF w){es:List Int}(l:es.length=10):∃st:List<|Nat×Int,jj [aN w,aQ ks,.lst<|es.map D.int]=.ok (.lst<|st.map dF)/\(st=[]∨Wk w.ts w.fi st w.la)/\st.length<=6:=by
 have f:aB (aN w) (.int 2)=.ok (.str w.fi):=rfl;have b:bD []=.ok (.lst []):=rfl;have c:bD [.str w.fi]=.ok (.lst [.str w.fi]):=rfl;have a:jj [aN w,aQ ks,.lst<|es.map D.int]=(nT [.sh<|aN w,.sh<|aQ ks,.sh<|.lst<|es.map D.int,.no,.no,.no,.no,.no,.no,.no]).bind EU:=rfl;rw[a,Nh];rcases Gp (ks:=ks) W l 1000 w.fi [w.fi] [] .no .no .no .no 0#3 (λx i=>by
  have:x=w.fi:=by simpa using i
  subst this;exact W.fi) rfl (by show 9<=1000+1;omega) rfl with h|⟨e,d,p,o,n,m,h,g,j⟩
 .refine⟨[],?_,.inl rfl,by decide⟩
  unfold sV at h;rw[VM,UB,VM]at h;erw[f,b,c,oC,h]
 .refine⟨d,?_,.inr g,j⟩
  unfold sV at h;rw[VM,UB,VM]at h;erw[f,b,c,oC,h]
open K34 (kF dF Rv Wk jC DD put_nat Gw)
def MQ:Int:=27949074753600
structure Mq (n:Nat) (x:cu):Prop where
 l:Low x
 d:x.2∣MQ
 b:(x.1.natAbs:Int)<=n*1000000000000000000*x.2
def Mq.fin(h:Mq n x)(c:n<=40):aV x:=by
 have p:=h.l.q1;have a:x.2<=MQ:=ZM 0#1 h.d;have i:(n:Int)*1000000000000000000*x.2<=40*1000000000000000000*MQ:=Zu 0#2 a 0#2 0#1;have g:(40*1000000000000000000*MQ).natAbs<jD:=by decide
 have f:MQ.natAbs<jD:=by decide
 have e:=h.b;exact⟨h.l,by omega,by omega⟩
def Mq.up(h:Mq n x)(a:n<=m):Mq m x:=⟨h.l,h.d,by
 have p:=h.l.q1;have:=h.b;have c:(n:Int)*1000000000000000000*x.2<=m*1000000000000000000*x.2:=Vi 0#2 0#2;omega⟩
def Mq.nil:Mq 0 (0,1):=⟨⟨by decide,by decide⟩,by decide,by decide⟩
def Im(a:Low x)(h:x.1*M=z*x.2):x.2∣M:=by
 have b:Nat.Coprime x.2.natAbs x.1.natAbs:=by
  have:Vc x.1 x.2=1:=a.g1;rw[Nat.Coprime,Nat.gcd_comm];exact this
 have c:x.2.natAbs∣x.1.natAbs*M.natAbs:=⟨z.natAbs,by rw[←Vr,h,Vr,Y4]⟩
 exact Int.natAbs_dvd_natAbs.mp<|b.dvd_of_dvd_mul_left c
def Mq.add(e:Mq n u)(c:Mq m x)(t:s=1∨s=-1):Mq (n+m) (jC u x s):=by
 have o:=e.l.q1;have j:=c.l.q1;have i:0<u.2*x.2:=We 0#2 0#2;have f:Low (jC u x s):=eW i;obtain⟨a,z⟩:=e.d;obtain⟨b,y⟩:=c.d;have r:K34.Rp MQ u (u.1*a):=by unfold K34.Rp;rw[z];grind
 have p:K34.Rp MQ x (x.1*b):=by unfold K34.Rp;rw[y];grind
 refine⟨f,Im f<|r.add p (s:=s) o j,?_⟩;have v:=iS (a:=u.1*x.2+s*x.1*u.2) (b:=u.2*x.2);have q:=f.q1;unfold jC at q ⊢;generalize dU (u.1*x.2+s*x.1*u.2) (u.2*x.2)=L at *;have w:((u.1*x.2+s*x.1*u.2).natAbs:Int)<=((n+m:Nat):Int)*1000000000000000000*(u.2*x.2):=by
  have J:(u.1*x.2+s*x.1*u.2).natAbs<=u.1.natAbs*x.2.natAbs+x.1.natAbs*u.2.natAbs:=by
   refine UI (Y7 _ _) ?_;rw[Vr,Vr,Vr];have:s.natAbs=1:=by rcases t with rfl|rfl<;>rfl
   rw[this,Nat.one_mul];exact U3 _
  have I:((u.1.natAbs*x.2.natAbs+x.1.natAbs*u.2.natAbs:Nat):Int)=(u.1.natAbs:Int)*x.2+(x.1.natAbs:Int)*u.2:=by
   rw[Zj,Ya,Ya,Xf (show 0<=x.2 by omega),Xf (show 0<=u.2 by omega)]
  have H:=Vi e.b (show 0<=x.2 by omega);have G:=Vi c.b (show 0<=u.2 by omega);have E:((n+m:Nat):Int)*1000000000000000000*(u.2*x.2)=(n:Int)*1000000000000000000*u.2*x.2+(m:Int)*1000000000000000000*x.2*u.2:=by
   rw[Zj];grind
  omega
 refine Yi (a:=u.2*x.2) ?_ i;have A:(L.1.natAbs:Int)*(u.2*x.2)=((u.1*x.2+s*x.1*u.2).natAbs:Int)*L.2:=by
  have this:L.1.natAbs*(u.2*x.2).natAbs=(u.1*x.2+s*x.1*u.2).natAbs*L.2.natAbs:=by rw[←Vr,←Vr,v]
  have g:((L.1.natAbs*(u.2*x.2).natAbs:Nat):Int)=(((u.1*x.2+s*x.1*u.2).natAbs*L.2.natAbs:Nat):Int):=by rw[this]
  rw[Ya,Ya]at g;rwa[Xf (show 0<=u.2*x.2 by omega),Xf (show 0<=L.2 by omega)]at g
 rw[A];have C:=Vi w (show 0<=L.2 by omega);have B:((n+m:Nat):Int)*1000000000000000000*L.2*(u.2*x.2)=((n+m:Nat):Int)*1000000000000000000*(u.2*x.2)*L.2:=by grind
 omega
def Oj(f:0<=p/\p<=1000000000000000000)(b:0<q)(c:q∣MQ):Mq 1 (dU p q):=by
 have e:(dU p q).1.natAbs<=p.natAbs:=mL;have l:=eW (a:=p) b;have d:=l.q1;refine⟨l,XZ sD c,?_⟩;have:=Zf (show 1<=(dU p q).2 by omega) (show(0:Int)<=1000000000000000000 by decide);show((dU p q).1.natAbs:Int)<=1*1000000000000000000*(dU p q).2;omega
abbrev pL:am:=(aq (qO 5 (ak (af (aa (ae 5) (ae 11) aB)<|af (ae 9)<|af (ae 12) ax) aR)<|ae 11) ao)
section
variable {s0 s1 s2 s3 s4 s6 s7 s8 s10:Sl}{A:cu}{N:Nat}
def EX(t:Mq 1 A):∀(st:List<|Nat×Int) (c:Nat) (ys:List cu) (x11 x12:Sl),ys.length=N->(∀y∈ys,Mq c y)->c+st.length<=38->(∀z∈st,z.1<N/\(z.2=1∨z.2=-1)) ->
  ∃(b:List cu) (f e:Sl),cD (c5 [11,12]) pL (st.map dF) [s0,s1,s2,s3,s4,.ow<|.lst<|ys.map fr,s6,s7,s8,.sh<|fr A,s10,x11,x12]=.ok (.nx [s0,s1,s2,s3,s4,.ow<|.lst<|b.map fr,s6,s7,s8,.sh<|fr A,s10,f,e])/\b.length=N/\∀y∈b,Mq (c+st.length) y:=by
 intro st
 induction st with
 |nil=>intro c ys x11 x12 n g _ _;exact⟨ys,x11,x12,rfl,n,g⟩
 |cons a r v=>
  intro c ys x11 x12 n g B i;obtain⟨k,s⟩:=a;obtain⟨l,q⟩:=i _ Uu;have l:k<ys.length:=by omega
  rw[UP]at B;have x:∀y∈ys.set k (jC ys[k] A s),Mq (c+1) y:=λy h=>by
   rcases ZC h with h|rfl
   .exact(g y h).up 0#2
   .exact(g _<|VB l).add t q
  obtain⟨b,f,e,H,G,E⟩:=v (c+1) (ys.set k (jC ys[k] A s)) (.sh (.int (k:Int))) (.sh (.int s)) (by rw[YC];exact n) x 0#2 λz w=>i z<|Up _ w;refine⟨b,f,e,?_,G,by rw[UP,show c+(r.length+1)=c+1+r.length by omega];exact E⟩;have o:aB (.lst<|ys.map fr) (.int (k:Int))=.ok (fr ys[k]):=dJ (by rw[Uw,Uq l];rfl);have m:aR [fr ys[k],fr A,.int s]=.ok (fr<|jC ys[k] A s):=DD ((g _<|VB l).fin<|by omega) (t.fin<|by decide) q;have j:=put_nat (ds:=ys.map fr) (d:=fr<|jC ys[k] A s) (by rw[Ut];exact l);have C:pL [s0,s1,s2,s3,s4,.ow<|.lst<|ys.map fr,s6,s7,s8,.sh<|fr A,s10,.sh<|.int (k:Int),.sh<|.int s]=.ok (.nx [s0,s1,s2,s3,s4,.ow<|.lst<|(ys.set k<|jC ys[k] A s).map fr,s6,s7,s8,.sh<|fr A,s10,.sh<|.int (k:Int),.sh<|.int s]):=by
   have p:jS (fr<|jC ys[k] A s)=VT:=rfl;rw[Z5];generalize I:fr (jC ys[k] A s)=y at *;erw[o,m,uS p,j]
  rw[UB,fX (ρ1:=[s0,s1,s2,s3,s4,.ow<|.lst<|ys.map fr,s6,s7,s8,.sh<|fr A,s10,.sh<|.int (k:Int),.sh<|.int s]) rfl C];exact H
end
def LV:am:=(cT (aa (aa (ae 4) 30#0 aB) 1#0 gD)
 (aq (aH 8<|fJ (ae 8) eV<|bS<|aa 1#0 (aa (aa (ae 4) 31#0 aB) 5#0 cE) aZ)
 ao)
 ao)
noncomputable def Ju:am:=(cT (eG (aa (aa (ae 7) 9#0 aB) 0#0 CY)<|aa (ae 8) (ak ax bD) iM)
 (aq (aH 10<|aa (ae 1) (aa (aa (ae 8) (aa (aa (ae 7) 8#0 aB) (ak (af (ae 8) ax)<|m1 dP) cE) aB) 0#0 aB) aB)
 (aq (aH 9<|ak (af (aa (ae 10) 0#0 aB)<|af (aa (aa (ae 10) 1#0 aB) (aa 1#0 (aa (aa (ae 7) 8#0 aB) 4#0 cE) aZ) bf) ax) cm)
 ao))
 ao)
noncomputable abbrev tL:am:=(aq (aH 7<|fJ (ae 4) (bS<|aa 10#0 (ae 6) bf)<|bS<|aa (aa 10#0 (ae 6) bf) 10#0 aZ)
 (aq (aH 8<|ak (af (ae 0)<|af (aa (ak (af (ae 2)<|af (ak ax bD) ax) bD) (ak (af (aa (aa (ae 7) 9#0 aB) 0#0 gD) ax)<|m1 zo) aB)<|af (ae 7) ax) jj)
 (aq LV
 (aq (aH 9<|ak (af (fJ (ae 7) (bS<|dC<|.int 6)<|bS<|dC<|.int 9) ax) az)
 (aq Ju
 (aq (kI (ae 8) (c5 [11,12]) pL)
 ao))))))
def fT:List Int:=(U1 3 [360360,360360,360360,360360,360360,360360,5,1000000000000000000,30,3]).flatten++[6,14,2]
def Q7:∀t,t<3->fT[10*t+6]?=W1 5/\fT[10*t+7]?=W1 1000000000000000000/\fT[10*t+8]?=W1 30/\fT[10*t+9]?=W1 3:=by decide
def T5:∀q:Nat,q<31->0<q->(q:Int)∣MQ:=by decide
def Fd{st:List<|Nat×Int}:iM (.lst<|st.map dF) (.lst [])=.ok (.bl (!st.isEmpty)):=by
 have b:br 40 (.lst<|st.map dF)=VT:=Vd.mpr λd a=>by
  obtain⟨c,_,rfl⟩:=UK.mp a;rfl
 unfold iM;rw[dh ⟨b,rfl⟩,pG];cases st<;>rfl
section
variable {w:iE}{xs:List cu}{ks:ci}(W:cF w) (X:K40.Rms w xs) (X1:∀x∈xs,K40.Rd x)
include W X X1
theorem yi(V:Drawn fT vs)(ht:t<3){ys:List cu}(hy:ys.length=w.ts.length)(hm:∀y∈ys,Mq (6*t) y) :
  ∃(s:List cu) (y7 y8 y9 j ab Y:Sl),tL [.sh<|aN w,.sh<|.lst<|xs.map fr,.sh<|aQ ks,.sh c,.sh<|.lst<|vs.map D.int,.ow<|.lst<|ys.map fr,.sh<|.int (t:Int),x7,x8,x9,x10,x11,x12]=.ok (.nx [.sh<|aN w,.sh<|.lst<|xs.map fr,.sh<|aQ ks,.sh c,.sh<|.lst<|vs.map D.int,.ow<|.lst<|s.map fr,.sh<|.int (t:Int),y7,y8,y9,j,ab,Y])/\s.length=w.ts.length/\∀y∈s,Mq (6*(t+1)) y:=by
 have co:vs.length=33:=V.len;have cn:=W.t14;obtain⟨o,s7,s8,s9⟩:=Q7 t ht;obtain⟨d6,g6,b6,_⟩:=V.at _ o;obtain⟨d7,g7,b7,_⟩:=V.at _ s7;obtain⟨g,g8,b8,_⟩:=V.at _ s8;obtain⟨M,g9,b9,_⟩:=V.at _ s9;obtain⟨bc,_,c7,as⟩:=V.ix 30 30 rfl rfl;obtain⟨O,_,c3,be⟩:=V.ix 31 31 rfl rfl;have a9:jA (vs.map D.int) (W1 (10*(t:Int))) (W1 (10*(t:Int)+10))=((vs.drop (10*t)).take 10).map D.int:=by
  rw[vx (a:=10*t) (b:=10*t+10) 0#2 0#2 0#2 0#2,show 10*t+10-10*t=10 by omega]
 have a7:((vs.drop (10*t)).take 10).length=10:=by rw[V1,WM];omega
 have e6:((vs.drop (10*t)).take 10)[6]?=W1 d6:=by rw[VE 0#1,VY];exact g6
 have e7:((vs.drop (10*t)).take 10)[7]?=W1 d7:=by rw[VE 0#1,VY];exact g7
 have e8:((vs.drop (10*t)).take 10)[8]?=W1 g:=by rw[VE 0#1,VY];exact g8
 have e9:((vs.drop (10*t)).take 10)[9]?=W1 M:=by rw[VE 0#1,VY];exact g9
 generalize (vs.drop (10*t)).take 10=J at *;have i8:aB (.lst<|J.map D.int) (.int 8)=.ok (.int g):=dJ (k:=8) (by rw[Uw,e8];rfl);have i9:aB (.lst<|J.map D.int) (.int 9)=.ok (.int M):=dJ (k:=9) (by rw[Uw,e9];rfl);have ah:jA (J.map D.int) (W1 6) (W1 9)=[.int d6,.int d7,.int g]:=by
  rw[iW,show(6:Int)=((6:Nat):Int) from rfl,show(9:Int)=((9:Nat):Int) from rfl,HT.sIx_nat,HT.sIx_nat,a7];have:=Dh (i:=6) e6 e7 e8;show((J.drop 6).take 3).map D.int=_;rw[this];rfl
 obtain⟨U,ch,G⟩:=K40.frac30 b6 b7 b8;have bb:az [.lst [.int d6,.int d7,.int g]]=.ok (fr U):=ch;have ap:Mq 1 U:=⟨G.1.toLow,XZ G.2.2.1 0#1,by
  have:=G.2.2.2;have n:=G.2.1;have p:=G.1.q1;have:=Zf (show 1<=U.2 by omega) (show(0:Int)<=1000000000000000000 by decide);show(U.1.natAbs:Int)<=1*1000000000000000000*U.2;omega⟩
 have bd:bf (.int 10) (.int (t:Int))=.ok (.int (10*(t:Int))):=dB (ji 0#1<|by omega);obtain⟨ls,bx⟩:∃ls:ci,aB (.lst [aQ ks,.lst []]) (.int<|if(M==0)=VT then 1 else 0)=.ok (aQ ls):=by
  by_cases c:(M==0)=VT
  .rw[dh c];exact⟨[],rfl⟩
  .rw[dV c];exact⟨ks,rfl⟩
 have b4:zo (.bl<|M==0)=.ok (.int<|if(M==0)=VT then 1 else 0):=by
  cases (M==0)<;>rfl
 obtain⟨st,bm,hw,b2⟩:=Ng (ks:=ls) W a7;have a0:∀z∈st,z.1<w.ts.length/\(z.2=1∨z.2=-1):=by
  rcases hw with rfl|hw
  .intro z Q;cases Q
  .have:∀(st:List<|Nat×Int) (p q:UL),Wk w.ts p st q->∀z∈st,z.1<w.ts.length/\(z.2=1∨z.2=-1):=by
    intro st
    induction st with
    |nil=>intro p q _ z Q;cases Q
    |cons a r ih=>
     rintro p q ⟨p',⟨u,hu,hd⟩,h2⟩ z Q;rcases UG.mp Q with rfl|Q
     .exact⟨(Uz.mp hu).1,hd.imp (λh=>h.1) λh=>h.1⟩
     .exact ih p' q h2 z Q
   exact this st _ _ hw
 obtain⟨d,cl,T,an⟩:∃d:List<|Nat×Int,d.length<=6/\(∀z∈d,z∈st)/\∀(B:cu->Prop) (s0 s1 C v L o s7 s9 E f e:Sl),LV [s0,s1,C,v,.sh<|.lst<|vs.map D.int,L,o,s7,.sh<|.lst<|st.map dF,s9,E,f,e]=.ok (.nx [s0,s1,C,v,.sh<|.lst<|vs.map D.int,L,o,s7,.sh<|.lst<|d.map dF,s9,E,f,e]):=by
  cases c:(bc==1) with
  |false=>
   refine⟨st,b2,λ_ h=>h,λ_ s0 s1 C v L o s7 s9 E f e=>?_⟩;generalize D.lst (vs.map D.int)=VV at *;erw[LV,as,c]
  |true=>
   have f5:=dM (a:=O) (b:=5) 0#1;have m5:=tZ (a:=O) (b:=5) 0#1;obtain⟨n,hn⟩:=Vm (show 0<=1+O.fmod 5 by omega);have ca:jA (st.map dF) Wp (W1 (1+O.fmod 5))=(st.take n).map dF:=by
    rw[hn,iW,HT.sIx_nat];have e0:HT.sIx st.length 0 Wp=0:=rfl;rw[e0,XM,Zt]
    congr 1
    by_cases q:n<=st.length
    .rw[X8 q]
    .rw[Nat.min_eq_right 0#2,WY,W4<|by omega]
   refine⟨st.take n,by rw[V1];omega,λz h=>YH h,λ_ s0 s1 C v L o s7 s9 E f e=>?_⟩;generalize cd:vs.map D.int=VV at *;generalize cx:st.map dF=SS at *;erw[LV,as,c,be,m5,ca]
 obtain⟨A,mA,j,cb⟩:∃(A:cu),Mq 1 A/\∃j:Sl,∀(C v s4 L o f e:Sl),Ju [.sh<|aN w,.sh<|.lst<|xs.map fr,C,v,s4,L,o,.sh<|.lst<|J.map D.int,.sh<|.lst<|d.map dF,.sh<|fr U,x10,f,e]=.ok (.nx [.sh<|aN w,.sh<|.lst<|xs.map fr,C,v,s4,L,o,.sh<|.lst<|J.map D.int,.sh<|.lst<|d.map dF,.sh<|fr A,j,f,e]):=by
  have I:CY (.int M) (.int 0)=.ok (.bl (decide (M > 0))):=rfl;have H:=Fd (st:=d);have a2:bD []=.ok (.lst []):=rfl
  by_cases c1:M > 0
  .rw[dg c1]at I
   cases hE:d with
   |nil=>
    rw[hE]at H;refine⟨U,ap,x10,λC v s4 L o f e=>?_⟩;have H:iM (.lst []) (.lst [])=.ok (.bl U9):=rfl;rw[VM];erw[Ju,i9,I,a2,H]
   |cons a r=>
    have b5:d.isEmpty=U9:=by rw[hE];rfl
    rw[b5]at H;rw[←hE];have hp:0<d.length:=by rw[hE];simp
    have fm:=dM (a:=g) (b:=(d.length:Int)) 0#2;have a4:cE (.int g) (.int (d.length:Int))=.ok (.int<|g.fmod (d.length:Int)):=nM (beq_eq_false_iff_ne.mpr<|by omega);obtain⟨m,em⟩:=Vm fm.1;rw[em]at a4 fm;have a3:m<d.length:=by omega
    obtain⟨k1,k2⟩:=a0 _<|T _<|VB a3;have b3:aB (.lst<|d.map dF) (.int (m:Int))=.ok (dF d[m]):=dJ (by rw[Uw,Uq a3];rfl);have a6:aB (dF d[m]) (.int 0)=.ok (.int (d[m].1:Int)):=rfl;have a5:d[m].1<xs.length:=by rw[X.r.l];exact k1
    have bp:aB (.lst<|xs.map fr) (.int (d[m].1:Int))=.ok (fr xs[d[m].1]):=dJ (by rw[Uw,Uq a5];rfl);have hr:=X1 _<|VB a5;have c2:=dM (a:=g) (b:=4) 0#1;have bt:=tZ (a:=g) (b:=4) 0#1;have j0:aB (fr xs[d[m].1]) (.int 0)=.ok (.int xs[d[m].1].1):=rfl;have j1:aB (fr xs[d[m].1]) (.int 1)=.ok (.int xs[d[m].1].2):=rfl;have b1:m1 dP [.lst<|d.map dF]=.ok (.int (d.length:Int)):=by
     show aw.ok (D.int ((d.map dF).length:Nat))=_;rw[Ut]
    obtain⟨r1,r2,r3,r4⟩:=hr;have rq:=r1.q1;have a8:xs[d[m].1].2*(1+g.fmod 4)∣MQ:=by
     have h4:(1+g.fmod 4)∣12:=by
      have:g.fmod 4=0∨g.fmod 4=1∨g.fmod 4=2∨g.fmod 4=3:=by omega
      rcases this with z|z|z|z<;>rw[z]<;>decide
     rw[show MQ=MM*12 from rfl];exact Int.mul_dvd_mul r3 h4
    have bq:bf (.int xs[d[m].1].2) (.int (1+g.fmod 4))=.ok (.int<|xs[d[m].1].2*(1+g.fmod 4)):=K40.mulN (K40.n60 r1.qN) (K40.n60 (by
     have:(5:Nat)<jD:=by decide
     omega))
    have a1:0<xs[d[m].1].2*(1+g.fmod 4):=We 0#2 0#2;have cp:xs[d[m].1].2*(1+g.fmod 4)<=MQ:=ZM 0#1 a8;have c0:MQ.natAbs<jD:=by decide
    have b0:cm [.int xs[d[m].1].1,.int<|xs[d[m].1].2*(1+g.fmod 4)]=_:=Cod.low_ok a1 (Uy r1.pN sQ) (Uy (show(xs[d[m].1].2*(1+g.fmod 4)).natAbs<jD by omega) sQ);refine⟨_,Oj ⟨r2,r4⟩ a1 a8,.sh (fr xs[d[m].1]),λC v s4 L o f e=>?_⟩;generalize ba:J.map D.int=ES at *;generalize ce:d.map dF=SP at *;generalize cc:xs.map fr=XF at *;erw[Ju,i9,I,a2,H,i8,b1,a4,b3,a6,bp,j0,j1,bt,bq,b0]
  .rw[dy c1]at I
   refine⟨U,ap,x10,λC v s4 L o f e=>?_⟩;generalize ba:J.map D.int=ES at *;erw[Ju,i9,I]
 obtain⟨s,ab,Y,h1,h2,h3⟩:=EX (s0:=.sh (aN w)) (s1:=.sh (.lst (xs.map fr))) (s2:=.sh (aQ ks)) (s3:=.sh c) (s4:=.sh (.lst (vs.map D.int))) (s6:=.sh (.int (t:Int))) (s7:=.sh (.lst (J.map D.int))) (s8:=.sh (.lst (d.map dF))) (s10:=j) (N:=w.ts.length) mA d (6*t) ys x11 x12 hy hm 0#2 λz Q=>a0 z<|T z Q;refine⟨s,.sh (.lst (J.map D.int)),.sh (.lst (d.map dF)),.sh (fr A),j,ab,Y,?_,h2,λy bi=>(h3 y bi).up<|by omega⟩;have an:=an<|λ_=>True;have ck:∀l:List<|Nat×Int,wX (.lst<|l.map dF)=.ok (l.map dF):=λ_=>rfl;generalize ce:d.map dF=SP at *;generalize cv:st.map dF=SS at *;generalize ba:J.map D.int=ES at *;generalize cd:vs.map D.int=VV at *;generalize cs:ys.map fr=YY at *;generalize cc:xs.map fr=XF at *;unfold tL;erw[bd,a9,i9,b4,bx,bm,an,ah,bb,cb,h1]
end
open K34 (kF dF jC DD put_nat F8 F7 yk)
open K40 (mulN n60)
noncomputable def fL:am:=(cT (eG (aa (aa (ae 4) 30#0 aB) 0#0 gD)<|aa (ae 5) (ak ax bD) iM)
 (aq (w6 11<|aa (aa (ae 4) 31#0 aB) (ak (af (ae 5) ax)<|m1 dP) cE)
 (aq (qO 5 (ak (af (aa (ae 5) (ae 11) aB)<|af (ak (af 1#0<|af (aa 1#0 (aa (ae 4) 31#0 aB) aZ) ax) fE)<|af (aa 1#0 (aa 2#0 (aa (ae 4) 32#0 aB) bf) gQ) ax) aR)<|ae 11)
 ao))
 ao)
noncomputable def tT:al:=(aa (oa (aa (oa (ak (af 360360#0 ax) bD)<|dC<|.int 6) (ak (af 5#0<|af (aa 10#0 18#0 kn)<|af 30#0<|af 3#0 ax) bD) nR)<|dC<|.int 3) (ak (af 6#0<|af 14#0<|af 2#0 ax) bD) aZ)
def Lg:rJ=(aq (aH 4<|ak (af (ae 3)<|af tT ax) aD)
 (aq (j8 5<|cG 1 [] (jy<|aa (ae 0) 1#0 aB) (bK 0) mYes<|ak (af 0#0<|af 1#0 ax) fE)
 (aq (tw 3#0 (bK 6) tL)
 (aq fL
 (aq (bh<|ae 5)
 ao))))):=rfl
def PY:tT ρ=.ok (.lst<|fT.map D.int):=rfl
def K9{ys:List cu}:iM (.lst<|ys.map fr) (.lst [])=.ok (.bl (!ys.isEmpty)):=by
 have h:br 40 (.lst<|ys.map fr)=VT:=GS ys;unfold iM;rw[dh ⟨h,rfl⟩,pG];cases ys<;>rfl
def Ga(W:cF w):dY 1 [] (bK 0) mYes (ak (af 0#0<|af 1#0 ax) fE) ρ (w.ts.map aX)=.ok (.lst<|(w.ts.map λ_=>((0,1):cu)).map fr):=by
 have a:=W.t14;rw[K51.comp_pick aX (λ_=>W1<|fr (0,1)) 0#2]
 .rw[K40.fm_some,Ve];rfl
 .intro t _
  exact⟨[.sh<|aX t],rfl,.inr ⟨_,rfl,rfl,rfl⟩⟩
section
variable {w:iE}{xs:List cu}{ks:ci}(W:cF w) (X:K40.Rms w xs) (X1:∀x∈xs,K40.Rd x)
include W X X1
theorem Lf(c:Int):∃ys:List cu,ij [aN w,.lst<|xs.map fr,aQ ks,.int c]=.ok (.lst<|ys.map fr)/\ys.length=w.ts.length/\∀y∈ys,aV y:=by
 obtain⟨o,hv,V⟩:=Cod.draws_ok c fT 0#1 0#1;have ah:aD [.int c,.lst<|fT.map D.int]=.ok (.lst<|o.map D.int):=hv;have bm:=W.t14;obtain⟨N,_,b0,r⟩:=V.ix 30 30 rfl rfl;obtain⟨e,_,bx,U⟩:=V.ix 31 31 rfl rfl;obtain⟨g,_,bt,T⟩:=V.ix 32 32 rfl rfl;have a6:(w.ts.map λ_=>((0,1):cu)).length=w.ts.length:=Ut ..;have O:∀y∈w.ts.map (λ_=>((0,1):cu)),Mq (6*0) y:=λy s=>by
  obtain⟨_,_,rfl⟩:=UK.mp s;exact Mq.nil
 obtain⟨y1,a7,a8,a9,bi,be,bd,e1,l1,q1⟩:=yi (ks:=ks) W X X1 V (t:=0) 0#1 (c:=.int c) a6 O (x7:=.no) (x8:=.no) (x9:=.no) (x10:=.no) (x11:=.no) (x12:=.no);obtain⟨y2,b7,b8,b9,bc,bb,ba,e2,l2,q2⟩:=yi (ks:=ks) W X X1 V (t:=1) 0#1 (c:=.int c) l1 q1 (x7:=a7) (x8:=a8) (x9:=a9) (x10:=bi) (x11:=be) (x12:=bd);obtain⟨f,c7,c8,c9,z,q,v,e3,Q,q3⟩:=yi (ks:=ks) W X X1 V (t:=2) 0#1 (c:=.int c) l2 q2 (x7:=b7) (x8:=b8) (x9:=b9) (x10:=bc) (x11:=bb) (x12:=ba);have L:cD (bK 6) tL [.int 0,.int 1,.int 2] [.sh<|aN w,.sh<|.lst<|xs.map fr,.sh<|aQ ks,.sh<|.int c,.sh<|.lst<|o.map D.int,.ow<|.lst<|(w.ts.map λ_=>((0,1):cu)).map fr,.no,.no,.no,.no,.no,.no,.no]=.ok (.nx [.sh<|aN w,.sh<|.lst<|xs.map fr,.sh<|aQ ks,.sh<|.int c,.sh<|.lst<|o.map D.int,.ow<|.lst<|f.map fr,.sh<|.int 2,c7,c8,c9,z,q,v]):=by
  rw[fX rfl e1,fX rfl e2,fX rfl e3];rfl
 have as:∀l,D6 (bK 6) tL l (.int 3)=cD (bK 6) tL [.int 0,.int 1,.int 2] l:=λ_=>rfl;obtain⟨ys,M,u,Y,ab⟩:∃(ys:List cu) (M:Sl),fL [.sh<|aN w,.sh<|.lst<|xs.map fr,.sh<|aQ ks,.sh<|.int c,.sh<|.lst<|o.map D.int,.ow<|.lst<|f.map fr,.sh<|.int 2,c7,c8,c9,z,q,v]=.ok (.nx [.sh<|aN w,.sh<|.lst<|xs.map fr,.sh<|aQ ks,.sh<|.int c,.sh<|.lst<|o.map D.int,.ow<|.lst<|ys.map fr,.sh<|.int 2,c7,c8,c9,z,M,v])/\ys.length=w.ts.length/\∀y∈ys,aV y:=by
  have I:bD []=.ok (.lst []):=rfl;have j:=K9 (ys:=f);have i:∀y∈f,aV y:=λy s=>(q3 y s).fin 0#1;cases cc:(N==0) with
  |false=>
   refine⟨f,q,?_,Q,i⟩;generalize D.lst (o.map D.int)=VV at *;unfold fL;erw[r,cc]
  |true=>
   by_cases h0:f=[]
   .refine⟨f,q,?_,Q,i⟩
    rw[h0]at j ⊢;have j:iM (.lst []) (.lst [])=.ok (.bl U9):=j;generalize D.lst (o.map D.int)=VV at *;unfold fL;rw[VM];erw[r,cc,I,j]
   .have a4:f.isEmpty=U9:=by cases f;exact ee rfl h0;rfl
    rw[a4]at j;have hp:0<f.length:=List.length_pos_iff.mpr h0;have fm:=dM (a:=e) (b:=(f.length:Int)) 0#2;have J:cE (.int e) (.int (f.length:Int))=.ok (.int<|e.fmod (f.length:Int)):=nM (beq_eq_false_iff_ne.mpr<|by omega);obtain⟨m,em⟩:=Vm fm.1;rw[em]at J fm;have p:m<f.length:=by omega
    have a2:m1 dP [.lst<|f.map fr]=.ok (.int (f.length:Int)):=by
     show aw.ok (D.int ((f.map fr).length:Nat))=_;rw[Ut]
    have hs:1-2*g=1∨1-2*g=-1:=by omega
    have mu:Mq 1 (1,1+e):=⟨⟨by show 1<=1+e;omega,Int.gcd_one_left ..⟩,by
     obtain⟨n,hn⟩:=Vm (show 0<=1+e by omega);show 1+e∣MQ;rw[hn];exact T5 n 0#2 0#2,by show(1:Int)<=1*1000000000000000000*(1+e);omega⟩
    have a0:aR [fr f[m],fr (1,1+e),.int (1-2*g)]=.ok (fr<|jC f[m] (1,1+e) (1-2*g)):=DD (i _<|VB p) (mu.fin<|by decide) hs;have H:aR [fr f[m],.tup [.int 1,.int (1+e)],.int (1-2*g)]=.ok (fr<|jC f[m] (1,1+e) (1-2*g)):=a0;have a3:aB (.lst<|f.map fr) (.int (m:Int))=.ok (fr f[m]):=dJ (by rw[Uw,Uq p];rfl);have G:=put_nat (ds:=f.map fr) (d:=fr<|jC f[m] (1,1+e) (1-2*g)) (by rw[Ut];exact p);have an:∀(d:Int) (l:Ev),GW 11 l (.int d)=.ok (.nx<|l.set 11<|.sh<|.int d):=λ_ _=>rfl;have a1:bf (.int 2) (.int g)=.ok (.int (2*g)):=mulN (n60<|by decide) (n60 (by
     have:(5:Nat)<jD:=by decide
     omega))
    have ap:gQ (.int 1) (.int (2*g))=.ok (.int (1-2*g)):=rfl;have u:jS (fr<|jC f[m] (1,1+e) (1-2*g))=VT:=rfl;refine⟨f.set m<|jC f[m] (1,1+e) (1-2*g),.sh<|.int (m:Int),?_,by rw[YC];exact Q,λy s=>?_⟩
    .rw[Z5]
     generalize a5:D.lst (o.map D.int)=VV at *;generalize hY:fr (jC f[m] (1,1+e) (1-2*g))=y at *;unfold fL;erw[r,cc,I,j,U,a2,J,D9,an,a3,T,a1,ap,H,uS u,G]
    .rcases ZC s with s|rfl
     .exact i y s
     .exact((q3 _<|VB p).add mu hs).fin 0#1
 refine⟨ys,?_,Y,ab⟩;have i1:aB (aN w) (.int 1)=.ok (.lst<|w.ts.map aX):=rfl;have hz:=λl=>Ga W (ρ:=l);have E:wX (.lst<|w.ts.map aX)=.ok (w.ts.map aX):=rfl;unfold ij;rw[Lg];generalize hT:D.lst (fT.map D.int)=TT at *;have tt:∀l,tT l=.ok TT:=λl=>by rw[←hT];exact PY
 generalize a5:D.lst (o.map D.int)=VV at *;generalize bq:aN w=WW at *;generalize bp:D.lst (xs.map fr)=XX at *;erw[tt,ah,i1,E,hz,as,L,u]
end
section
variable {g:am}{hit mis hit2:UL->Bool}{sh sh2:am}{ρ:Ev}{x:RG}
def J8(h:g ρ=.ok r):iF g hit mis hit2 sh sh2 ρ=.ok r:=by unfold iF;rw[h]
def Np(h:g ρ=.exn x)(a:hit x.cls=VT):iF g hit mis hit2 sh sh2 ρ=sh ρ:=by unfold iF;rw[h];exact dh a
def Nm(h:g ρ=.exn x)(c:hit x.cls=U9)(b:mis x.cls=VT)(a:hit2 x.cls=VT):iF g hit mis hit2 sh sh2 ρ=sh2 ρ:=by
 unfold iF;rw[h];show(if _ then _ else _)=_;rw[dV (by rw[c];decide),dh ⟨b,a⟩]
end
section
variable {w:iE}{xs ys:List cu}{ks:ci}
def CG(S:K34.Su w xs ks)(t:ys.length=w.ts.length)(o:∀y∈ys,aV y):∃b:Bool,cf [aN w,.lst<|xs.map fr,aQ ks,.lst<|ys.map fr]=.ok (.bl b)/\(b=VT↔BR w xs ks ys):=by
 have B:∀d∈ys.map fr,K34.Bd d:=λd A=>by
  obtain⟨y,h,rfl⟩:=UK.mp A;exact(K34.el_fr (o y h).pN (o y h).qN).b
 obtain⟨v,C⟩:=K34.amts_ok S (ds:=ys.map fr) (by rw[Ut];exact t) B;obtain⟨z,x⟩:=K34.bal_ok (xs:=ys) S.W t o;have n:=K34.look_of S (d:=.lst<|ys.map fr);have s:(af (ae 0)<|af (ae 1)<|af (ae 2)<|af (ae 3) ax) [.sh<|aN w,.sh<|.lst<|xs.map fr,.sh<|aQ ks,.sh<|.lst<|ys.map fr]=.ok [aN w,.lst<|xs.map fr,aQ ks,.lst<|ys.map fr]:=rfl;have r:m_look_at_flow [aN w,.lst<|xs.map fr,aQ ks,.lst<|ys.map fr]=K34.m_look_at_flow [aN w,.lst<|xs.map fr,aQ ks,.lst<|ys.map fr]:=rfl;rcases K34.first_bad (F8 w xs ks<|ys.map fr) w.ts.length with q|⟨k,g,k2,m⟩
 .rcases K34.first_bad (F7 w ys) w.ps.length with u|⟨k,g,k2,m⟩
  .have j:m_look_at_flow [aN w,.lst<|xs.map fr,aQ ks,.lst<|ys.map fr]=.ok .non:=by
    rw[r,n,v q,z u];rfl
   have i:=J8 (hit:=kh fS) (mis:=nG fS) (hit2:=kh gA) (sh:=(aq (bh<|dC<|.bl U9) ao)) (sh2:=(aq (bh<|dC<|.bl U9) ao))<|IT s j;exact⟨VT,by erw[cf,gY,i],⟨λ_=>⟨q,u⟩,λ_=>rfl⟩⟩
  .have j:m_look_at_flow [aN w,.lst<|xs.map fr,aQ ks,.lst<|ys.map fr]=.exn ⟨"Unbalanced",[("place",.str w.ps[k])]⟩:=by
    rw[r,n,v q,x k _ (Uq g) k2 m];rfl
   have i:=Nm (hit:=kh fS) (mis:=nG fS) (hit2:=kh gA) (sh:=(aq (bh<|dC<|.bl U9) ao)) (sh2:=(aq (bh<|dC<|.bl U9) ao)) (Bl s j) rfl rfl rfl;exact⟨U9,by erw[cf,gY,i],⟨λh=>(nomatch h),λh=>by rw[h.p k g]at k2;cases k2⟩⟩
 .have j:m_look_at_flow [aN w,.lst<|xs.map fr,aQ ks,.lst<|ys.map fr]=.exn ⟨"NoFlow",[("at",.int (k:Int))]⟩:=by
   rw[r,n,C k g k2 m];rfl
  have i:=Np (hit:=kh fS) (mis:=nG fS) (hit2:=kh gA) (sh:=(aq (bh<|dC<|.bl U9) ao)) (sh2:=(aq (bh<|dC<|.bl U9) ao)) (Bl s j) rfl;exact⟨U9,by erw[cf,gY,i],⟨λh=>(nomatch h),λh=>by rw[h.a k g]at k2;cases k2⟩⟩
def Rq(S:K34.Su w xs ks)(p:∀x∈xs,x.2∣MM)(n:ys.length=w.ts.length)(f:∀y∈ys,aV y)(G:BR w xs ks ys)(I:IsL w ks (lL xs) v):(kC w ys).1*MM<=v*(kC w ys).2:=by
 obtain⟨q,T,N,A,K⟩:=Fx S n f G;have b:=S.W.t14;have o:=BJ (Q:=bT xs*bT ys) b N f;have Y:=(zA b f).2.q1;obtain⟨⟨L,m,l⟩,_⟩:=I;obtain⟨E,z,u⟩:=mD S.W m;have hw:=PH S.W (zs:=xo (bT xs*bT ys) xs) (by rw[yJ];exact S.rl) (λk=>by
  unfold dR xo;rw[Uw];cases e:xs[k]? with
  |none=>exact X7 _
  |some x=>
   obtain⟨t,s⟩:=S.rf x<|UM e;exact Wy s<|V9 0#2 (by have:=t.q1;omega)) A K E z u
 have g:=mW (ks:=ks) (L:=L) (B:=bT xs*bT ys) (ts:=w.ts) (xs:=xs) (j:=0) λx c=>⟨p x c,T x c,by have:=(S.rf x c).1.q1;omega⟩
 rw[←l]at g;have d:dA w.fi w.ts (xo (bT xs*bT ys) ys)<=dE ks L 0 w.ts (xs.map λx=>x.1*(bT xs*bT ys / x.2)):=hw;clear hw;generalize dE ks L 0 w.ts (xs.map λx=>x.1*(bT xs*bT ys / x.2))=C at *;generalize dA w.fi w.ts (xo (bT xs*bT ys) ys)=O at *;generalize bT xs*bT ys=Q at *;generalize kC w ys=R at *;refine Yi (a:=Q) ?_ q;have M:R.1*MM*Q=(R.1*Q)*MM:=by grind
 have J:v*R.2*Q=(v*Q)*R.2:=by grind
 rw[M,J,o,g];have i:(0:Int)<=MM:=by decide
 have r:=Vi (Vi d (show 0<=R.2 by omega)) i;have H:C*MM*R.2=C*R.2*MM:=by grind
 rw[H];exact r
def M0(a:w.ts.length<=14)(c:∀y∈ys,aV y):(kC w ys).1.natAbs<mw/\(kC w ys).2.natAbs<mw:=by
 have A:=(zA a c).1;have d:(K36.parts w.fi w.ts ys).length<=28:=UI K36.parts_len 0#2;have b:bnd (K36.parts w.fi w.ts ys).length<mw:=by
  refine Uy ?_ pY;rw[jv];exact Wx 0#1 0#2
 exact⟨UR A.b1 b,UR A.b2 b⟩
def AV(a:w.ts.length<=14)(b:ys.length=w.ts.length)(c:∀y∈ys,aV y):cA [aN w,.lst<|ys.map fr,.str w.fi]=.ok (fr<|kC w ys):=K36.going_ok (P:=w.fi) a b c
def FW(W:cF w)(a:ys.length=w.ts.length)(b:∀y∈ys,aV y):fj [aN w,.lst<|ys.map fr]=.ok (fr<|kC w ys):=K36.amount_ok W a b
def Lb(W:cF w)(X:K40.Rms w xs)(T:rN w ks)(I:IsL w ks (lL xs) v):∃ys S,K40.m_most_flow [aN w,.lst<|xs.map fr,aQ ks]=.ok (.tup [.lst<|ys.map fr,S])/\ys.length=w.ts.length/\(∀y∈ys,aV y)/\BR w xs ks ys/\(kC w ys).1*MM=v*(kC w ys).2:=by
 have p:=W.t14;have R:=X.r;obtain⟨b,G,K,m,H,S,t,hm⟩:=K40.mostN W R T;obtain⟨E,_,bM,bd⟩:=K40.bX W X;have u:(dr G w.fi).isSome=VT:=by rw[H.get H.rt];rfl
 have n:(zR xs).length=w.ts.length:=by unfold zR;rw[Ut];exact R.l
 have Z:=Dc W R;have c:=K40.finA W X m;have s:(b.map λa=>dU a<|bT xs).length=w.ts.length:=by rw[Ut];exact m.1
 have j:∀x∈b.map (λa=>dU a<|bT xs),aV x:=λx g=>by
  obtain⟨a,ha,rfl⟩:=UK.mp g;exact c a ha
 obtain⟨L,A,U⟩:=Dm W (λk=>(dr G k).isSome) u (by rw[t];rfl);obtain⟨g1,g2,g3⟩:=mD W A;have i:=PQ W n m K S g1 U g2 g3;have h0:0<=dA w.fi w.ts b:=by
  rw[i];refine(K40.cut_bd (M:=2000000000000000000*MM) 0#1 λz n=>?_).1;obtain⟨k,hk,e⟩:=X4.mp n;have ea:dR (zR xs) k=z:=by unfold dR;rw[Uq hk,e];rfl
  rw[←ea];exact⟨Z.nn k,K40.zX W X k⟩
 refine⟨_,_,hm,s,j,xw ⟨W,T,R.l,R.f⟩ c m K h0,?_⟩;have C:=BJ (Q:=bT xs) p (λy Y=>by
  obtain⟨a,_,rfl⟩:=UK.mp Y;exact sD) j
 have eB:xo (bT xs) (b.map λa=>dU a<|bT xs)=b:=by
  unfold xo;rw[Ve]
  conv=>rhs;rw[←sao b]
  exact Xp λa _=>ug E
 rw[eB]at C;have q:=I.scale (V:=dA w.fi w.ts b) (B:=bT xs) (λx g=>⟨X.d x g,bd x g,by have:=(R.f x g).1.q1;omega⟩) E (λL hL=>by
  obtain⟨O,N,J⟩:=mD W hL;exact PH W n Z.nn m K O N J) ⟨L,A,i⟩
 generalize kC w (b.map λa=>dU a<|bT xs)=o at *;refine Wj (a:=bT xs) 0#2 ?_;have e1:o.1*MM*bT xs=(o.1*bT xs)*MM:=by grind
 have e2:v*o.2*bT xs=(v*bT xs)*o.2:=by grind
 rw[e1,e2,C,q];grind
noncomputable def TB:am:=(aq (aH 8<|ak (af (ae 1)<|af (ae 2)<|af (ae 3)<|af (ae 7) ax) ij)
 (aq (cT (ak (af (ae 1)<|af (ae 2)<|af (ae 3)<|af (ae 8) ax) cf)
 (aq (aH 9<|ak (af (ae 1)<|af (ae 8)<|af (aa (ae 1) 2#0 aB) ax) cA)
 (aq (cT (lz (aa (aa (aa (ae 9) 0#0 aB) 2329089562800#0 bf) (aa (ae 4) (aa (ae 9) 1#0 aB) bf) CY)<|aa (ak (af (ae 1)<|af (ae 8) ax) fj) (ae 9) iM)
 (aq (bh<|dC<|.bl U9)
 ao)
 ao)
 (aq (cT (ak (af (ak (af (ae 1)<|af (ae 5)<|af (aa (ae 1) 2#0 aB) ax) cA)<|af (ae 9) ax) dk)
 (aq (bh<|dC<|.bl U9)
 ao)
 ao)
 ao)))
 ao)
 ao))
def sE(a:x.1.natAbs<mw)(b:x.2.natAbs<mw)(c:y.1.natAbs<mw)(d:y.2.natAbs<mw):dk [fr x,fr y]=.ok (.bl (decide (x.1*y.2<y.1*x.2))):=by
 have g:∀z:cu,aB (fr z) (.int 0)=.ok (.int z.1):=λ_=>rfl;have f:∀z:cu,aB (fr z) (.int 1)=.ok (.int z.2):=λ_=>rfl;have e:dk=K51.dk:=rfl;have l:∀i j:Int,LP (.int i) (.int j)=.ok (.bl (decide (i<j))):=λ_ _=>rfl;rw[e];erw[K51.dk,K51.rK,g,f,mulN a d,mulN c b,l]
def EB(W:cF w)(X:K40.Rms w xs)(X1:∀x∈xs,K40.Rd x)(T:rN w ks)(I:IsL w ks (lL xs) v)(Ml:M.length=w.ts.length)(o:∀y∈M,aV y)(Me:(kC w M).1*MM=v*(kC w M).2){S:D} :
  ∃A u,TB [.sh S,.sh<|aN w,.sh<|.lst<|xs.map fr,.sh<|aQ ks,.sh<|.int v,.sh<|.lst<|M.map fr,s6,.sh<|.int c,s8,s9]=.ok (.nx [.sh S,.sh<|aN w,.sh<|.lst<|xs.map fr,.sh<|aQ ks,.sh<|.int v,.sh<|.lst<|M.map fr,s6,.sh<|.int c,A,u]):=by
 have a:=W.t14;obtain⟨ys,s,i,e⟩:=Lf (ks:=ks) W X X1 c;obtain⟨b,t,O⟩:=CG (xs:=xs) (ks:=ks) ⟨W,T,X.r.l,X.r.f⟩ i e;cases b with
 |false=>
  refine⟨.sh<|.lst<|ys.map fr,s9,?_⟩;generalize D.lst (M.map fr)=MF at *;generalize D.lst (xs.map fr)=XF at *;generalize aN w=WD at *;generalize aQ ks=KS at *;erw[TB,s,t]
 |true=>
  have G:=O.mp rfl;have n:=Rq (ks:=ks) ⟨W,T,X.r.l,X.r.f⟩ X.d i e G I;have N:aB (aN w) (.int 2)=.ok (.str w.fi):=rfl;have ga:=AV a i e;have gm:=AV a Ml o;have Q:=FW W i e;have l1:=(zA (w:=w) a e).2.q1;have l2:=(zA (w:=w) a o).2.q1;obtain⟨q,p⟩:=M0 (w:=w) a e;obtain⟨C,B⟩:=M0 (w:=w) a o;have g:=sE C B q p;have E:=QQ (x:=kC w ys);have L:∀z:cu,aB (fr z) (.int 0)=.ok (.int z.1):=λ_=>rfl;have J:∀z:cu,aB (fr z) (.int 1)=.ok (.int z.2):=λ_=>rfl;have m1:bf (.int (kC w ys).1) (.int 2329089562800)=.ok (.int<|(kC w ys).1*MM):=mulN (j:=MM) q (n60<|by decide);have m2:=mulN (n60<|K40.isl_bd W X v I) p;have Y:CY (.int<|(kC w ys).1*MM) (.int<|v*(kC w ys).2)=.ok (.bl U9):=by
   show aw.ok (D.bl (decide (_ > _)))=_;rw[dy 0#2]
  have m:¬(kC w M).1*(kC w ys).2<(kC w ys).1*(kC w M).2:=by
   intro h;have H:(0:Int)<MM:=by decide
   have U:=Zm h H;have h2:=Vi n (show 0<=(kC w M).2 by omega);have e1:(kC w M).1*(kC w ys).2*MM=((kC w M).1*MM)*(kC w ys).2:=by grind
   have e2:(kC w ys).1*(kC w M).2*MM=((kC w ys).1*MM)*(kC w M).2:=by grind
   have e3:v*(kC w M).2*(kC w ys).2=v*(kC w ys).2*(kC w M).2:=by grind
   rw[e1,e2,Me,e3]at U;omega
  rw[dy m]at g;refine⟨.sh<|.lst<|ys.map fr,.sh<|fr<|kC w ys,?_⟩;generalize kC w ys=AY at *;generalize kC w M=AM at *;generalize D.lst (M.map fr)=MF at *;generalize D.lst (xs.map fr)=XF at *;generalize D.lst (ys.map fr)=YF at *;generalize aN w=WD at *;generalize aQ ks=KS at *;erw[TB,s,t,N,ga,L,J,m1,m2,Y,Q,E,gm,g]
end
def Om:MY=(aq (aH 1<|ak (af (ae 0) ax) eC)
 (aq (aH 2<|ak (af (ae 0) ax) bA)
 (aq (aH 3<|ak (af (ae 1)<|af (aa (ak (af (aa (aa (aa (ak (af (ae 0) ax) aK) 1#0 aB) (ak (af 0#0 ax) bD) aZ) 0#0 aB)<|af (ak (af 16384#0 ax) bD) ax) aD) 0#0 aB) ax) dX)
 (aq (aH 4<|ak (af (ae 1)<|af (ak (af (ae 2) ax) dW)<|af (ae 3) ax) bV)
 (aq (aH 5<|aa (ak (af (ae 1)<|af (ae 2)<|af (ae 3) ax) m_most_flow) 0#0 aB)
 (aq (aH 6<|cG 1 [] (jy<|aa (ae 1) 1#0 aB) (bK 0) mYes<|ak (af 0#0<|af 1#0 ax) fE)
 (aq (cT (lz (cM<|ak (af (ae 1)<|af (ae 2)<|af (ae 3)<|af (ae 5) ax) cf)<|cM<|ak (af (ae 1)<|af (ae 2)<|af (ae 3)<|af (ae 6) ax) cf)
 (aq (bh<|dC<|.bl U9)
 ao)
 ao)
 (aq (kI (aa (fJ (aa (ak (af (ae 0) ax) aK) 1#0 aB) (bS<|dC<|.int 1) eV) (ak (af 7#0 ax) bD) aZ) (bK 7)
 TB)
 (aq (bh<|dC<|.bl VT)
 ao))))))))):=rfl
def Iq(ns:List Int)(hn:ns.length<=63):m_law [.lst<|ns.map D.int]=.ok (.bl VT):=by
 obtain⟨w,k1,k2,Q,hl,h3,hw,W⟩:=Cod.web_cells hn;have ah:=W.t14;obtain⟨xs,C,r2,O⟩:=K40.rooms30 Q 0#2;have C:bA [.lst<|ns.map D.int]=.ok (.lst<|xs.map fr):=C;have A:xs.length=w.ts.length:=by omega
 have X:=K40.rd_rms A O;have g:aZ (.lst<|k2.map D.int) (.lst [.int 0])=.ok (.lst<|(k2++[0]).map D.int):=by
  rw[fY (dg (by rw[Ut];simp;omega)),U7];rfl
 obtain⟨u,E⟩:∃u,aB (.lst<|(k2++[0]).map D.int) (.int 0)=.ok (.int u):=by
  cases k2 with|nil=>exact⟨0,rfl⟩|cons a r=>exact⟨a,kR⟩
 obtain⟨vs,hv,V⟩:=Cod.draws_ok u [16384] 0#1 0#1;have B:aD [.int u,.lst [.int 16384]]=.ok (.lst<|vs.map D.int):=hv;obtain⟨N,_,_,i0⟩:=V.ix 0 0 rfl rfl;obtain⟨e,hb,T⟩:=K35.bits_ok W N;have J:dX [aN w,.int N]=.ok (aQ e):=hb;have hi:dW [.lst<|xs.map fr]=.ok (.lst<|(lL xs).map D.int):=K40.ints_ok W X;obtain⟨v,H,I⟩:=K40.least_law (ks:=e) W (ns:=lL xs) (by unfold lL;rw[Ut];exact X.r.l);have m:bV [aN w,.lst<|(lL xs).map D.int,aQ e]=.ok (.int v):=H;obtain⟨M,Y,hm,Ml,Mf,MG,Me⟩:=Lb W X T I;have G:m_most_flow [aN w,.lst<|xs.map fr,aQ e]=.ok (.tup [.lst<|M.map fr,Y]):=hm;have Su:K34.Su w xs e:=⟨W,T,X.r.l,X.r.f⟩
 obtain⟨b1,p,g1⟩:=CG Su Ml Mf;rw[g1.mpr MG]at p;have zl:(w.ts.map λ_=>((0,1):cu)).length=w.ts.length:=Ut ..;have L:∀y∈w.ts.map (λ_=>((0,1):cu)),aV y:=λy hy=>by
  obtain⟨_,_,rfl⟩:=UK.mp hy;exact Mq.nil.fin 0#1
 obtain⟨b2,o,g2⟩:=CG Su zl L;have U:(w.ts.map λ_=>((0,1):cu))=(fR w.ts.length).map λa=>dU a (bT xs):=by
  have b0:=(K40.bX W X).1;have:dU 0 (bT xs)=(0,1):=by
   have h:=eW (a:=0) b0;exact ue h ⟨by decide,by decide⟩ (by
    have:=iS (a:=0) (b:=bT xs);rw[Xk]at this;rcases Zk.mp this with z|z
    .rw[z];show(0:Int)*1=0*_;omega
    .omega)
  unfold fR;rw[List.map_replicate,this,List.map_const']
 rw[g2.mpr (by
  rw[U];refine xw Su (λa ha=>?_) (p7<|Dc W X.r) MN (by rw[mI];exact X7 _);have h:(dU a (bT xs))∈(fR w.ts.length).map λa=>dU a (bT xs):=UK.mpr ⟨a,ha,rfl⟩;rw[←U]at h;exact L _ h)]at o
 have ew:eC=Cod.eC:=rfl;have ec:aK=Cod.aK:=rfl;have i1:aB (.tup [.lst<|k1.map D.int,.lst<|k2.map D.int]) (.int 1)=.ok (.lst<|k2.map D.int):=rfl;have j1:aB (aN w) (.int 1)=.ok (.lst<|w.ts.map aX):=rfl;have j0:aB (.tup [.lst<|M.map fr,Y]) (.int 0)=.ok (.lst<|M.map fr):=rfl;have n:jA (k2.map D.int) (W1 1) Wp=(k2.drop 1).map D.int:=by
  cases k2 with|nil=>rfl|cons a r=>exact(Nwb.cut_dr (k:=1)<|by simp).trans (by rw[List.map_drop])
 have q:aZ (.lst<|(k2.drop 1).map D.int) (.lst [.int 7])=.ok (.lst<|(k2.drop 1++[7]).map D.int):=by
  rw[fY (dg (by rw[Ut,WM];simp;omega)),U7];rfl
 obtain⟨ab,hf,x,t,s,rfl⟩:=D5 (tg:=bK 7) (body:=TB) (ds:=(k2.drop 1++[7]).map D.int) (λi=>∃x t s,i=[.sh<|.lst<|ns.map D.int,.sh<|aN w,.sh<|.lst<|xs.map fr,.sh<|aQ e,.sh<|.int v,.sh<|.lst<|M.map fr,.sh<|.lst<|(w.ts.map λ_=>((0,1):cu)).map fr,x,t,s]) (by
  rintro d hd i ⟨x,t,s,rfl⟩;obtain⟨c,_,rfl⟩:=UK.mp hd;obtain⟨u8,u9,h⟩:=EB W X O T I Ml Mf Me (S:=.lst<|ns.map D.int) (c:=c) (s6:=.sh<|.lst<|(w.ts.map λ_=>((0,1):cu)).map fr) (s8:=t) (s9:=s);exact⟨_,_,rfl,h,_,_,_,rfl⟩) [.sh<|.lst<|ns.map D.int,.sh<|aN w,.sh<|.lst<|xs.map fr,.sh<|aQ e,.sh<|.int v,.sh<|.lst<|M.map fr,.sh<|.lst<|(w.ts.map λ_=>((0,1):cu)).map fr,.no,.no,.no] ⟨_,_,_,rfl⟩
 have hz:=λi=>Ga W (ρ:=i);have j:wX (.lst<|w.ts.map aX)=.ok (w.ts.map aX):=rfl;unfold m_law;rw[Om];generalize D.lst ((lL xs).map D.int)=NI at *;generalize D.lst ((w.ts.map λ_=>((0,1):cu)).map fr)=ZZ at *;generalize D.lst (M.map fr)=MF at *;generalize D.lst (xs.map fr)=XF at *;generalize aN w=WD at *;generalize aQ e=KS at *;erw[ew,ec,hw,C,Q,i1,g,E,B,i0,J,hi,m,G,j0,j1,j,hz,p,o,n,q,hf]
end K39
namespace K39
open PySem L2 DL
def sp_law(K:Uv)(H:Hp)(a:UD)(ns:List Int)(b:ns.length<=63)(c:gH K H a (ns.map V.int)):spD K 1 m_law [.ref a] H (λv _=>v=.bl VT) λ_ _ _=>False:=by
 refine⟨rfl,H,[.lst<|ns.map D.int],aE.refl _,Reps.cons (aF.mpr ⟨a,_,rfl,c,ya ns⟩) Reps.nil,?_⟩;rw[Iq ns b];exact λv e d _ r=>aI.mp r
end K39
structure PySem.W.Fast:Prop where(tw4349475398753618894 tw7092488558915393972 tw9217618683530411447 tw10137468319686850898 tw3001081181278520865 tw12450316793061451542 tw11995209067279592635 tw2026820383493555540 tw11918570641629777447 tw15781708408615749370 tw9565825647740042506 tw3375180534006800443 tw13287393957788191923 tw7029642122663192860 tw7031648541247050987 tw4434110246709808994 tw2865105496429444531 tw331667629511989717 tw12719571415251955535 tw2049640915806751587 tw8419303308904698260 tw2861796719353924883 tw9195137512112563998 tw8598938685121372513 tw11621525466924699308 tw4479308804485605861 tw5641160940743893339 tw15887317764218761253 tw4110533150221451970 tw5959285707256530787 tw866312861272403581 tw3324534999853759217 tw5193916722806890627 tw1693393239929514160 tw11191052807536926089 tw14551080849889792505 tw1789361356469109563 tw17433995630238586091 tw2488537747570378837 tw7775125791261142297 tw2830048109873938208 tw10638989340261516162 tw15910501627080138563 tw1322299770531668074 tw10645457639619031143 tw14577027619923060195 tw9183038769502173627 tw8961868003114512759 tw9171038900739075910 tw5190303104308484594 tw6676596326150078637 tw2259402437498048777 tw5727801921259174848 tw13096699491396958228 tw589662465261737771 tw18008464940123413222 tw12066635228186333792 tw2742594945530277061 tw11532293100970100058 tw4685567321187026899 tw13210880662180036177 tw14859822470454985461 tw6989414000786644626 tw89292067529231550 tw2172580679835397391 tw8787867467843761812 tw15188927418472051418 tw10432140099613304646 tw14287862391269478575 tw16219505145837730290 tw14667837493736887101 tw6509561864389367287 tw13611094555545540652 tw10142370730617135417 tw12676608896314461067 tw6136853060550620332 tw1581731890563281898 tw12048318782291894886 tw11016826690788327405 tw18441331459548746863 tw6059835327455025851 tw13358153223411279980 tw627470307578979238 tw9237591364844752719 tw4808077578141578747 tw2171152047934950158 tw9516307267415306676 tw7488420254589718429 tw18002344061172194169 tw17743643160623975915 tw1447335535808353621 tw1201515690948666317 tw4973717131103107043 tw9520418908024647590 tw6879286677584124994 tw4662490978599111108 tw16318368530388748088 tw1397036963579212013 tw8664337170912761854 tw17864651636977160226 tw5976960068627204058 tw12161299389495747900 tw10089149652777744370 tw16916555518462454413 tw13653751952684112619 tw6923614442541897585 tw8443969715744108467 tw3339689415012361720 tw8542212080551202545 tw5314326516401973914 tw8212656685946094915 tw4255881595866871441 tw15315077520273158618 tw17924588385968267855 tw12206651252418583612 tw3594771133656847285 tw7747658694844844250 tw9236778506880734980 tw4075319472656793445 tw7108299999248515273 tw13806441965062328446 tw10229316576338267505 tw15474947939022673480 tw4322853728346851322 tw16243369636894110235 tw1143275382745561714 tw18443529820658078657 tw12039756148243658310 tw13773631108706877651 tw5585098261700102859 tw10978297783114399201 tw14969242013480900113 tw7650353679385978842 tw17260751940888628032 tw912138707066395456 tw254071659814497129 tw1903069022266521517 tw15975625984373628330 tw6311028317043484936 tw1233610501974753508 tw4799174195471616254 tw4173887585225555886:True)
open PySem PySem.W PyProof.Rows
set_option maxRecDepth 100000 in
set_option maxHeartbeats 0 in
theorem PySem.Challenge.cw_farthestcut_k39_whole_flows_below_sides_holds : PySem.Challenge.rw_farthestcut_k39_whole_flows_below_sides.Holds := by
 w_on;o_law;k_head;(case hw=>w_witness2)
 k_fill
 refine L2.walk_ofK (l:=PySem.Challenge.rw_farthestcut_k39_whole_flows_below_sides) (n:=63) (k:=10) (x:="_law_script") (CX:=L2.CX0) (sp:=fun K=>DL.spD K 1 K39.m_law) ?I rfl (by decide) rfl ⟨rfl,by decide,by decide,rfl⟩ (fun w h Y=>W.km_in_of Y) (fun w h Y=>DL.tabsStart_mk (W.km_in_of Y) (W.km_tabs_of Y) (by kernel_rfl) (by kernel_rfl)) ?F ?S ?C
 case S=>exact fun K H a ns hl _ hS=>K39.sp_law K H a ns hl hS
 case C=>exact fun _ _ _ _ h=>h
 case I=>rfl
 case F =>
  intro w mg fa h KX G hmg;have T:∃ t:K39.Adr,K39.Txt (L2.KOf KX) mg t/\mg "law"=some (.ref (t.A 52))/\∃ kV doc pm an cdv ct,t.Q 52=Xn "law" "law" (L2.defArgs (K39.top 87)) (L2.defBody (K39.top 87)) (L2.defScope (K39.top 87)) .none kV doc pm an cdv ct:=by
   dsimp only[L2.KOf];refine' K39.txt_wr (K39.txt_mk KX G ?QS ?_ ?_ ?_ ?_ ?_ ?_ ?_ ?_ ?_ ?_ ?_ ?_ ?_ ?_ ?_ ?_ ?_ ?_ ?_ ?_ ?_ ?_ ?_ ?_ ?_ ?_ ?_ ?_ ?_ ?lx_most_flow ?_ ?_ ?_ ?_ ?_ ?_ ?_ ?_ ?_ ?_ ?_ ?_ ?_ ⟨?_,?_,?_,?_⟩ ⟨⟨?_,?_,?_,?_⟩,?_,?_,?_,?_,?_,?_,?_,?_,?_,?_,?_,?_⟩ ⟨⟨?_,?_,?_,?_⟩,?_,?_,?_,?_,?_,?_,?_,?_,?_,?_,?_,?_⟩ ⟨_,_,_,_,_,_,_,_,_,_,_,_,_,_,_,_,_,_,_,_,_,_,_,_,_,_,_,_,_,?_,?_,?_,?_,?_,?_,?_,?_,?_,?_,(DL.noL_cons ?_ DL.noL_nil)⟩ ⟨_,_,_,_,_,_,_,_,_,_,_,_,_,_,_,_,_,_,_,_,_,_,_,_,_,_,_,_,_,?_,?_,?_,?_,?_,?_,?_,?_,?_,?_,(DL.noL_cons ?_ DL.noL_nil)⟩ ?_ ?_ ?_ ?_ (DL.sb_c ?_ (DL.sb_c ?_ trivial)) (DL.sb_c ?_ (DL.sb_c ?_ trivial)) ?_ ?_ ?_ ?_ ?_ ?_ ?_ ?_ ?_ ?_ ?_ ?_ ?_ ?_ ?_ ?_ ?_ ?_ ?_ ?_)
   case' QS=>iterate 53 refine DL.QAs.cons ⟨by k_is,by k_is,_,_,_,_,_,_,_,_,_,by k_is,by k_is⟩ ?_
   case QS=>trivial
   case lx_most_flow=>exact DL.lamAt_mk (by kernel_rfl) (by kernel_rfl)
   all_goals try first |k_is |k_exc |rfl
   exact⟨_,_,_,_,[.int 0,.int 1],rfl,.cons ⟨_,rfl⟩ (.cons ⟨_,rfl⟩ (.nil)),by decide,fun H=>DL.Reps.cons (DL.ri _) (DL.Reps.cons (DL.ri _) (DL.Reps.nil))⟩;exact⟨_,_,_,_,[.str "one",.str "both"],rfl,.cons ⟨_,rfl⟩ (.cons ⟨_,rfl⟩ (.nil)),by decide,fun H=>DL.Reps.cons (DL.Rep.str_iff.mpr rfl) (DL.Reps.cons (DL.Rep.str_iff.mpr rfl) (DL.Reps.nil))⟩
  obtain⟨t,T,e0,kV,doc,pm,an,cdv,ct,ed⟩:=T;have e1:=hmg.symm.trans e0;cases e1;refine⟨t.Q 52,fun s u=>?_,fun base kb nb=>(K39.ok_law T).F⟩;rw[ed];exact .of_eq rfl
