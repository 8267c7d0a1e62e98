import PyProof.Rows.All
import Wide.All
import OpenK.AllK
import Wide.FinOn
import PyProof.EqAt
import PyProof.EqKinds
import PyProof.NeKinds
import PyProof.TupleCall
import KE.KLam
import PyProof.StrWalks
import PyProof.EnumMake
import PyProof.WalksEnum
import PyProof.ZipIter
import PyProof.Rows.ZipGen
import PyProof.Rows.SortWalk
import KE.KSortedM
import PyProof.StrLawsIdx
import PyProof.StrLawsNeg
import PyProof.ExcInit
import PyProof.InstStoreFacts
import PyProof.AttrMissHeap
import PyProof.FactsAll.enumerate
import PyProof.FactsAll.dict_1
import KE.KDictOf
import KE.KItemsList
import PyProof.ReprRoads
import KE.LcSums
import PyProof.AttrMissSeq
import PyProof.TupleIter
import PyProof.WalksMore
import PyProof.ExcClass2
import PyProof.Rows.MatchSeqLen
import PyProof.FitsInt
import PyProof.FactsAll.zip_1
import KE.KRevIter
import PyProof.DictWalks
import PyProof.DictItemsLoops
import KE.KPairComp
import KE.KNestM
import PySem.Challenge.RW_farthestcut_k37_what_goes_first
def dV:=@decide_eq_true
def ef:=@if_pos
def en:=@decide_eq_false
def eo:=@if_neg
def er:=@absurd
def et:=@of_decide_eq_true
def eu:=@beq_self_eq_true
def ew:=@congrArg
def ey:=@or_false
def ez:=@decide_eq_true_eq
def eH:=@if_false
def eP:=@if_true
def eR:=@beq_eq_false_iff_ne
open PySem renaming Value->U5,wpAny_bind->Vb,starEach->Vg,Addr->Vi,Shared->Vm,Str->Vq,Heap->Vu,model->Vy,mainGlobals->Vz,wpAny->VC,wpAny_pure->VE,Expr->V4,Program->V5,compareOp->Wf,Around->Wh,mem_of_lookup->Wi,wpAny_mono->Wj,backTo->Wn,Env->Wq,World->Wx,FuncData->WD,swapsWith->WI,wpAny_holding->WW,wpAny_truthy_bool->WX,wpAny_loadPart_at->WY,NameKind->W2,attributeBase->Xe,Stmt->Xi,codeAny->Xm,Within->Xr,cLine->Xu,keywordEach->XA,sysModules->XD,typeLookup->XY,Keyword->Yc,holding->Yk,Scope->Yt,backToKw->YK,DictEntry->saf,getAttr->sag,intBits_le_iff->saF
open List renaming getElem?_eq_getElem->U7,length_map->U8,mem_cons_of_mem->U9,mem_cons_self->Ve,map_cons->Vf,getElem?_map->Vh,mem_cons->Vl,getElem?_eq_some_iff->Vn,getElem?_set_ne->Vo,length_cons->Vp,length_append->Vs,replicate->Vt,size_toArray->Vx,getElem?_append_left->VA,mem_map->VD,getElem?_append_right->VF,mem_append->VH,mem_singleton->VL,mem_of_getElem?->VQ,nodup_cons->VR,mem_append_right->VS,getElem?_set_self->VT,replicate_succ->VU,map_append->VX,getElem?_replicate->VY,getElem?_cons_succ->VZ,all_eq_true->V2,length_replicate->V3,lookup_cons->V7,length_take->Wc,filterMap_cons->Wd,append_nil->We,map_map->Wk,Nodup->Wl,mem_append_left->Wm,range->Ws,not_mem_nil->Wu,length_drop->Wv,getElem_mem->Ww,zip_cons_cons->Wy,getElem?_cons_zero->Wz,drop_eq_getElem_cons->WB,length_singleton->WG,flatten_cons->WO,nil_append->WS,getElem?_drop->WU,nodup_iff_pairwise_ne->W4,length_nil->W7,getElem?_eq_none->W8,mem_filterMap->Xc,cons_append->Xd,map_nil->Xg,getElem?_take_of_lt->Xh,mem_map_of_mem->Xk,nodup_append->Xs,ext_getElem?->Xt,replicate_zero->Xv,mem_range->Xy,getElem?_set_self'->Xz,mem_filter->XI,foldl_cons->XJ,any_cons->XO,length_filter_le->XS,filterMap_eq_map->XT,append_assoc->XX,eq_of_mem_replicate->X7,all_cons->X8,find?_cons->Yb,set_cons_zero->Ye,set_cons_succ->Yf,take_of_length_le->Yp,mem_nil_iff->Yu,getElem_inj->Yv,sum_cons->Yw,lookup->Yz,length->YA,of_mem_zip->YB,filterMap_map->YL,reverse_cons->YS,pairwise_map->YT,Pairwise->YX,length_eq_zero_iff->Y2,filter_cons->Y3,range_succ_eq_map->Y6,mem_of_mem_take->Zc,length_reverse->Zf,getElem?_range->Zg,not_mem_cons_of_ne_of_not_mem->Zq,take_length->ZG,drop_length->ZH,map_id->ZL,filter_cons_of_pos->sab,filter_cons_of_neg->sac,cons->sad,drop_eq_nil_of_le->san,all_map->sao,mem_iff_getElem?->sav,mem_of_mem_drop->saI,mem_iff_getElem->saJ,length_dropLast->saK,getElem_toArray->saL,map_congr_left->saO
open PySem.W renaming Frag->Va,nsIn->WC,findIn->WH,kia_one->WQ,mg_none_of->WR,mg_of->WZ,emptyDict->W6,subIn->Xf,hasDictIn->Xq,fnOf->X6,hideAll->Yg,keepIn->Yx,of_hideAll->YC,instObj->YJ,specialIn->YR,Looks->Y5,looks_clsIn->Zh,hideAll_get->Zi,plainGet->Zm,isNs_of_in->Zs,excIn->Zt,callWith_K->Zu,funFrames_hide->ZF,plainOver->ZJ,kitx_dict->ZK,hideAll_none->ZQ,codeIn->ZR,codeHdIn->ZS,any_some->ZT,InstAt->ZU,takesIn->Z8,mroIn->sah,set_plain->say,methodObj->saz,lookIn->saA,kitx_list->saB,kitOne->saC
open PySem.Heap renaming get?_push_of_some->Vc,lt_size->Vw,get?_push_size->V1,get?_update_other->W5,get?_update_self->W9,FlyingW->XH,get?_none_of_le->X1,SameBut->X4,MadeExcOf->Ze,size_push->ZY,NotedW->saM,get?_update_ne->saP
open Or renaming inl->Vj,inr->Ym
open Nat renaming lt_of_lt_of_le->Vk,le_trans->Vr,le_refl->VB,ne_of_lt->VM,lt_of_le_of_lt->VN,pow_le_pow_right->WA,lt_irrefl->Xn,lt_succ_self->Xx,zero_add->XF,le_of_lt->XG,zero_le->Yj,mul_le_mul->Yo,pow_lt_pow_right->Yy,sub_zero->YF,add_zero->YG,min_eq_left->Y8,pow_pos->Za,pow_add->Zb,succ->Zz,sub_self->ZA,mul_lt_mul_of_lt_of_le->ZW,ne_of_gt->sal,le_of_eq->sam,mul_le_mul_right->saG,le_succ->saH
open Bool renaming and_eq_true->Vv,false_and->WE,false_ne_true->WL,false_eq_true->WV,true_and->Xp,and_false->Yr,not_false->YN,not_true->Y0,and_self->Y1,or_false->Zk,and_true->Zl,or_eq_true->ZO,false_or->Z7,and_eq_false_iff->sax
open PySem.Value renaming ref->VG,none->WN,bool->WT,str->Xa,int->Xb,builtin->XN,float->saD
open PySem.SeqAt renaming RcNeAt->VI,EqAt->VJ,RcAt->VP,ne_of_list_tuple->saj
open Int renaming gcd->VW,eq_ofNat_of_zero_le->Wa,toNat_natCast->Wo,natAbs_ediv_le_natAbs->WM,natAbs_mul->XZ,fmod_eq_emod_of_nonneg->X0,fmod_nonneg_of_pos->Yq,le_refl->YU,mul_ediv_cancel_left->YY,mul_comm->Y7,mul_pos->Zd,fmod_lt_of_pos->Zr,gcd_dvd_right->ZC,gcd_dvd_left->ZI,ediv_nonneg->ZN,dvd_gcd_mul_iff_dvd_mul->ZP,eq_of_mul_eq_mul_right->ZX,zero_mul->sap,gcd_comm->saq
open False renaming elim->V0
open Ne renaming symm->V6
open Option.some renaming inj->V8,injEq->Xj
open Option renaming some->V9,getD_some->Xw,map_some->Ya,map_eq_some_iff->Yn,isSome_iff_exists->YW,isSome_map->Zy,bind_eq_some_iff->saa
open PySem.PassesOwn renaming never->Wg,leaving->Yl
open Sum renaming inr->Wr,inl->YD
open True renaming intro->WJ
open PySem.F renaming excBase_ValueError->WK,typeOf_object_class->XU,plainAttrs_list->Yi,attr_ValueError->YV,slot_gs_get->Zj,args_tuple_add_2->Z4,entry_tuple_add->Z9,slot_tuple_add->sak
open Array renaming length_toList->Xl,getElem?_eq_some_iff->X3,toList->YI,append_assoc->YO,getElem?_setIfInBounds_ne->ZE,getElem?_append_left->Z1,toList_append->saR
open PySem.NameKind renaming free->Xo
open PySem.Builtin renaming divisionGoesByPylong->XM
open PyProof.Rows renaming callWith_type1->XW,slot_tuple_getitem->Ys
open PySem.Calls renaming evalArgs_plain->X2,Name_function_global->ZZ,callWith_builtin->sat
open PySem.Builtin.Slice renaming slicePlaces->X5,sliceAdjust->YQ,sliceApplied->Z0
open PySem.Builtin.Tuple renaming tupleExact->X9
open ForInStep renaming yield->Yd
open PySem.Txt renaming slice->Yh,slice_le->Zv,join->ZV
open Nat.succ renaming inj->YE
open PySem.Builtin.Str renaming strSliceIndices->YH,occurrences->Y4
open PySem.Code renaming quiet_builtin->YM,isFrame->sas
open PySem.Builtin.List renaming listTooLong->YZ
open List.cons renaming injEq->Y9
open PySem.SeqAt.EqAt renaming of_refs->Zn,same->ZM
open PySem.Obj renaming mapSeq->Zo,data_mapFields->Zp,isFreed_of_fields->sau
open PySem.StrLaws renaming sliceText->Zw
open PySem.Within renaming cons->Zx
open PySem.Around renaming under->ZD,frames_deeper->saN
open Classical renaming byContradiction->Z2,choose_spec->saw
open PySem.SeqAt.RcAt renaming lists_lengths->Z3
open PySem.Paired renaming length->Z5
open List.Pairwise renaming imp_of_mem->Z6
open PyProof.Rows.IsTup renaming new->sae
open PySem.W.Looks renaming here->sai
open Iff renaming rfl->sar
open Sum.inr renaming inj->saE
open PySem.EntryCells renaming newEntry->saQ
open Option renaming some->Wp,none->Wb
open Bool renaming true->VO,false->Vd
set_option compiler.extract_closed false
set_option bootstrap.genMatcherCode false
set_option autoImplicit true
set_option Elab.async false
set_option linter.all false
set_option maxRecDepth 100000
set_option maxHeartbeats 4000000
noncomputable section
local macro_rules|`(1#$x)=>`(($x==("__debug__":PySem.Str))=Bool.false)|`(3#$x)=>`(($x==("__classdict__":PySem.Str))=Bool.false)|`(2#$x)=>`(($x).heap.objs.size)|`(4#$x)=>`(PySem.model ($x).prog ($x).w)
local macro_rules|`($_:num#1)=>`(by decide)|`($_:num#2)=>`(by omega)|`($_:num#3)=>`(by simp)|`($_:num#5)=>`(Or.inl rfl)|`($_:num#8)=>`(by lia)
local macro_rules|`(tactic|erw[$r,*])=>do let x:Array Lean.Term:=r.getElems.map λq=>⟨q.raw[1]⟩;`(tactic|open_line with[$x,*])
abbrev cr:=List Vq
abbrev db:=List Nat
namespace L2
open PySem PySem.Spec PyProof.Rows
abbrev iV:=Sum Int Vq
def x8:iV->U5->Bool
 |.inl k,v=>Value.isInt k v
 |.inr x,v=>Value.isStrOf x v
def TH(w:Wx):iV->Int
 |.inl k=>hashInt k
 |.inr x=>hashStr w x
theorem de:∀{k:iV}{v:U5},x8 k v=VO->(∃i t,k=YD i/\v=Xb i t)∨(∃x t,k=Wr x/\v=Xa x t)
 |.inl i,v,h=>by
  obtain⟨t,e⟩:=Value.isInt_shape (k:=i) (v:=v) h;exact .inl ⟨i,t,rfl,e⟩
 |.inr x,v,h=>by
  obtain⟨t,e⟩:=Value.isStrOf_shape (x:=x) (v:=v) h;exact .inr ⟨x,t,rfl,e⟩
def FG(i:Int)(t:Tok):x8 (.inl i) (.int i t)=VO:=by simp[x8,Value.isInt]
def FF(x:Vq)(t:Tok):x8 (.inr x) (.str x t)=VO:=by simp[x8,Value.isStrOf]
def O9(a b:Int):decide ((YD a:iV)=YD b)=(a==b):=by
 by_cases e:a=b
 .subst e;simp
 .have h:¬(YD a:iV)=YD b:=λq=>e (YD.inj q)
  rw[en h];exact(beq_eq_false_iff_ne.mpr e).symm
def O6(a b:Vq):decide ((Wr a:iV)=Wr b)=decide (a=b):=by
 by_cases e:a=b
 .subst e;simp
 .have h:¬(Wr a:iV)=Wr b:=λq=>e (saE q)
  rw[en h,en e]
def O8(a:Int)(b:Vq):decide ((YD a:iV)=Wr b)=Vd:=en<|λq=>nomatch q
def O7(a:Vq)(b:Int):decide ((Wr a:iV)=YD b)=Vd:=en<|λq=>nomatch q
noncomputable def dI(prog:V5) (w:Wx):PySem.KeyKind prog w iV where
 is:=x8
 hash:=TH w
 inj:=λv a b ha hb=>by
  rcases de ha with⟨i,t,rfl,rfl⟩|⟨x,t,rfl,rfl⟩
  .rcases de hb with⟨j,u,rfl,e⟩|⟨y,u,rfl,e⟩
   .injection e with e1 _;rw[e1]
   .exact nomatch e
  .rcases de hb with⟨j,u,rfl,e⟩|⟨y,u,rfl,e⟩
   .exact nomatch e
   .injection e with e1 _;rw[e1]
 byValue:=λk v h=>by
  rcases de h with⟨i,t,rfl,rfl⟩|⟨x,t,rfl,rfl⟩<;>rfl
 pyHash:=λhv h=>by
  rcases de hv with⟨i,t,rfl,rfl⟩|⟨x,t,rfl,rfl⟩
  .exact wpAny_pyHash_int h
  .exact wpAny_pyHash_str h
 eqBool:=λhu hv h=>by
  rcases de hu with⟨i,t,rfl,rfl⟩|⟨x,t,rfl,rfl⟩
  .rcases de hv with⟨j,u,rfl,rfl⟩|⟨y,u,rfl,rfl⟩
   .rw[O9]at h;exact wpAny_eqBool_int h
   .rw[O8]at h;exact VJ.int_str i t y u _ _ _ _ h
  .rcases de hv with⟨j,u,rfl,rfl⟩|⟨y,u,rfl,rfl⟩
   .rw[O7]at h;exact VJ.str_int x t j u _ _ _ _ h
   .rw[O6]at h;exact wpAny_eqBool_str h
 «strs»:=λk x t v h=>by
  rcases de h with⟨i,u,rfl,e⟩|⟨y,u,rfl,e⟩
  .exact nomatch e
  .injection e with e1 _
   subst e1;cases v<;>rfl
def AY(prog:V5)(w:Wx)(i:Int)(t:Tok):(dI prog w).is (.inl i) (.int i t)=VO:=FG i t
def AX(prog:V5)(w:Wx)(x:Vq)(t:Tok):(dI prog w).is (.inr x) (.str x t)=VO:=FF x t
inductive V where
 |non|bl (b:Bool)|int (i:Int)|str (x:Vq)|byt (b:Array UInt8)|flt (b:UInt64)|ref (a:Vi)|ty (n:String)
 deriving DecidableEq
abbrev am:=List V
noncomputable def bw:V->U5->Prop
 |.non,u=>u=WN
 |.bl b,u=>u=WT b
 |.int i,u=>∃t,u=Xb i t
 |.str x,u=>∃t,u=Xa x t
 |.byt b,u=>∃t,u=Value.bytes b t
 |.flt b,u=>∃t,u=saD b t
 |.ref a,u=>u=VG a
 |.ty n,u=>u=Value.type n
abbrev bh:am->List U5->Prop:=Paired bw
def bh.length(r:bh xs a):xs.length=a.length:=Z5 r
theorem bh.get:∀{xs:am}{a:List U5}{i:Nat}{x:V},bh xs a->xs[i]?=Wp x->∃u,a[i]?=Wp u/\bw x u
 |_,_,_,_,.nil,e=>by simp at e
 |_,_,0,_,.cons r _,e=>by simp at e;subst e;exact⟨_,rfl,r⟩
 |_,_,i+1,x,.cons _ t,e=>by
  obtain⟨u,c,b⟩:=bh.get (i:=i) (x:=x) t (by simpa using e);exact⟨u,by simpa using c,b⟩
theorem bh.set(r:bw x u):∀{xs:am}{a:List U5}(i:Nat),bh xs a->bh (xs.set i x) (a.set i u)
 |_,_,_,.nil=>.nil
 |_,_,0,.cons _ t=>.cons r t
 |_,_,i+1,.cons q t=>.cons q<|bh.set r i t
theorem bh.append:∀{xs a:am}{b ws:List U5},bh xs b->bh a ws->bh (xs++a) (b++ws)
 |_,_,_,_,.nil,s=>s
 |_,_,_,_,.cons r t,s=>.cons r<|bh.append t s
theorem bh.take:∀{xs:am}{a:List U5}(n:Nat),bh xs a->bh (xs.take n) (a.take n)
 |_,_,0,_=>.nil
 |_,_,_+1,.nil=>.nil
 |_,_,n+1,.cons r t=>.cons r<|bh.take n t
theorem bh.drop:∀{xs:am}{a:List U5}(n:Nat),bh xs a->bh (xs.drop n) (a.drop n)
 |_,_,0,r=>r
 |_,_,_+1,.nil=>.nil
 |_,_,n+1,.cons _ t=>bh.drop n t
def wJ:Option V->Option U5->Prop
 |some v,Wp u=>bw v u
 |none,Wb=>True
 |_,_=>False
def KV{a:Type}:List (a×V)->List (a×U5)->Prop:=Paired λ(p:a×V) (q:a×U5)=>p.1=q.1/\bw p.2 q.2
def kV:iV->V
 |.inl i=>.int i
 |.inr x=>.str x
inductive HO where
 |lst (xs:am)
 |tup (xs:am)
 |dK (kvs:List (iV×V))|dT (kvs:List (List iV×V))
 |set (S:Int->Bool) (n:Nat)
 |ins (C dx:Vi) (fs:List (Vq×V))
 |own (x:Vi)
 |xd (fs:List (Vq×V))
 |met (f x:Vi)
 |rng (lo hi:Int)
 |frz (o:Obj) (u:HO)
 |tbl (ps:Array U5)
 |ext (φ:Vu->Prop)
abbrev Hp:=Vi->Option HO
structure kq where
 params:Arguments
 body:V4
 scope:Yt
 pos:Pos
def LY:V4->Option kq
 |.Lambda a b sc pos=>Wp ⟨a,b,sc,pos⟩
 |_=>Wb
def RI:V4->Option kq
 |.Call _ args a _=>(args.findSome? LY).or<|a.findSome? λk=>LY k.value
 |.Subscript (.Call _ args a _) _ _=>(args.findSome? LY).or<|a.findSome? λk=>LY k.value
 |_=>Wb
def TF:Xi->Option kq
 |.Expr e _=>RI e
 |.Assign _ e _=>RI e
 |_=>Wb
def O0:FuncBody->Option kq
 |.stmts b=>b.findSome? TF
 |.expr _=>Wb
def xr(qual:Vq):Vq:=qual++".<locals>.<lambda>"
noncomputable def yN(K:Va) (o:Obj):Option (Vi×Array U5):=match o.data with
 |.func a=>match O0 a.body,a.code with
  |some F,.ref c=>match K.lookup c with
   |some ⟨_,_,.fields b,_⟩=>match (b[11]?:Option U5) with
    |some (.ref P)=>Wp (P,#[rawInt F.pos.line,rawInt F.pos.col,.str (xr a.qualname) 0])
    |_=>Wb
   |_=>Wb
  |_,_=>Wb
 |_=>Wb
def xZ(K:Va):List (Vq×kq):=K.filterMap λp=>match p.2.data with
 |.func a=>(O0 a.body).map λF=>(xr a.qualname,F)
 |_=>Wb
def iC(K:Va):List (Vi×Array U5):=K.filterMap λp=>yN K p.2
def Ap{K:Va}(h:(P,d)∈iC K):∃(a b:Int) (q:Vq),d=#[rawInt a,rawInt b,.str q 0]:=by
 obtain⟨p,_,e⟩:=Xc.mp h;unfold yN at e;split at e
 .split at e
  .split at e
   .split at e
    .cases e;exact⟨_,_,_,rfl⟩
    .cases e
   .cases e
  .cases e
 .cases e
def om{K:Va}(h:(P,d)∈iC K):(d++more)[0]?≠Wp .none:=by
 obtain⟨a,b,q,rfl⟩:=Ap h;intro z;rw[Z1 0#3]at z;cases z
def EW(K:Va)(H:Hp):Prop:=∀P d,(P,d)∈iC K->∃more,H P=Wp (.tbl<|d++more)
def Qj(h:Vu)(a:Vi)(ps:Array U5):Prop:=∃(c:Obj) (b:Array U5) (qual:Vq) (t d:Tok) (more:Array U5),ps=#[.none,.str qual t]++more/\h.get? a=Wp c/\c.data=.fields b/\b[1]?=Wp (.str qual d)
noncomputable def Sf(H:Hp) (h:Vu) (a:Vi) (ps:Array U5):Prop :=
 h.get? a=Wp { cls:=.none,data:=.fields #[] } ∨
 ∃(l c:U5) (qual:Vq) (t e:Tok) (more b:Array U5) (d:Vi),ps=#[l,c,.str qual t]++more/\h.get? a=Wp { cls:=.none,data:=.fields #[l,c,.ref d] }/\H d=Wp (.tbl (#[.none,.str qual e]++b))
def TabOk(H:Hp)(h:Vu)(a:Vi)(ps:Array U5):Prop:=(ps[0]?=Wp .none/\Qj h a ps)∨(ps[0]?≠Wp .none/\Sf H h a ps)
def upd(H:Hp)(a:Vi)(o:HO):Hp:=λb=>if b=a then Wp o else H b
def aC:upd H a o a=Wp o:=by unfold upd;rw[ef rfl]
def ay(h:b≠a):upd H a o b=H b:=by unfold upd;rw[eo h]
def RE{H:Hp}(h:H a=Wp o)(h':H b=Wp u)(d:o≠u):a≠b:=by
 intro e;subst e;rw[h]at h';exact d<|V8 h'
def aN{H:Hp}(h:H a=Wp o)(h':H b=Wb):a≠b:=by
 intro e;subst e;rw[h]at h';cases h'
section
variable (P:V5) (w:Wx)
noncomputable def bV(H:Hp) (h:Vu) (a:Vi):HO->Prop
 |.lst xs=>xs.length<=sizeLine/\∃(c:List U5) (n:Nat),bh xs c/\h.get? a=Wp { cls:=.type "list",data:=.seq c.toArray n }
 |.tup xs=>xs.length<=sizeLine/\∃c:List U5,bh xs c/\IsTup h a c.toArray
 |.dK b=>b.length<=sizeLine/\(a==XD)=Vd/\∃i,KV b i/\h.DictOf (dI P w) a i
 |.dT b=>b.length<=sizeLine/\(a==XD)=Vd/\∃xs:List<|List iV×Vi×U5,
   Paired (λ(p:List iV×V) (q:List iV×Vi×U5)=>p.1=q.1/\H q.2.1=Wp (.tup<|p.1.map kV)/\bw p.2 q.2.2) b xs /\
   ∃o m s,h.get? a=Wp o/\o.ExactDict/\o.data=.dict m s/\m.toList=xs.map (entryOfKey<|tupleKind<|dI P w)/\(xs.map (·.1)).Nodup
 |.set S n=>h.SetOf (intKind P w) a S n
 |.ins C e fs=>H e=Wp (.own a)/\fs.length<=1000/\e≠a/\h.get? a=Wp (YJ C e) /\
   ∃d,h.Ns1 e d/\(∀f,wJ (fs.lookup f)<|d f)/\Xr d (fs.map (·.1))
 |.own _=>∃o,h.get? a=Wp o
 |.xd fs=>∃d,h.Ns1 a d/\∀f,wJ (fs.lookup f)<|d f
 |.rng lo r=>∃t u v,h.get? a=Wp { cls:=.type "range",data:=.fields #[.int lo t,.int r u,.int 1 v] }
 |.frz o u=>h.get? a=Wp o/\bV H h a u
 |.tbl ps=>TabOk H h a ps
 |.met f x=>h.get? a=Wp (saz (.ref f)<|.ref x)
 |.ext g=>g h/\(∃o,h.get? a=Wp o)/\∀l j:Vu,g l->(∀o,l.get? a=Wp o->j.get? a=Wp o)->g j
def fJ(H:Hp)(h:Vu):Prop:=∀a o,H a=Wp o->bV P w H h a o
end
section
variable {P:V5}{w:Wx}{H H':Hp}{h h':Vu}{a:Vi}{o:HO}
def bV.lt(x:bV P w H h a o):a<h.objs.size:=by
 cases o with
 |lst xs=>obtain⟨_,_,_,_,e⟩:=x;exact Vw e|tup xs=>obtain⟨_,_,_,p⟩:=x;exact p.lt|dK b|dT b=>obtain⟨_,_,_,_,o,_,_,e,_⟩:=x;exact Vw e|set S n=>obtain⟨o,_,_,_,e,_⟩:=x;exact Vw e|ins C g fs=>obtain⟨_,_,_,e,_⟩:=x;exact Vw e|own y=>obtain⟨_,e⟩:=x;exact Vw e|xd fs=>obtain⟨_,⟨_,_,_,e,_⟩,_⟩:=x;exact Vw e|rng lo d=>obtain⟨_,_,_,e⟩:=x;exact Vw e|frz ob u=>obtain⟨e,_⟩:=x;exact Vw e
 |tbl ps=>
  have x:TabOk H h a ps:=x;rcases x with⟨_,_,_,_,_,_,_,_,e,_⟩|⟨_,e|⟨_,_,_,_,_,_,_,_,_,e,_⟩⟩<;>exact Vw e
 |met f y=>exact Vw (show h.get? a=Wp _ from x)|ext c=>obtain⟨_,⟨_,e⟩,_⟩:=x;exact Vw e
theorem ml{d c:Type}{F G:d->c->Prop}:∀{g:List d}{e:List c},Paired F g e->(∀a b,F a b->G a b)->Paired G g e
 |_,_,.nil,_=>.nil
 |_,_,.cons r t,f=>.cons (f _ _ r)<|ml t f
def bV.stay(x:bV P w H h a o)(k:∀b u,(b=a∨H b=Wp (.own a))->h.get? b=Wp u->h'.get? b=Wp u)
  (U:∀b,H b=Wp (.own a)->H' b=Wp (.own a))(T:∀b xs,H b=Wp (.tup xs)->H' b=Wp (.tup xs))(Y:∀b ps,H b=Wp (.tbl ps)->H' b=Wp (.tbl ps)):bV P w H' h' a o:=by
 induction o with
 |lst xs=>obtain⟨z,j,n,r,e⟩:=x;exact⟨z,j,n,r,k _ _ (.inl rfl) e⟩|tup xs=>obtain⟨z,j,r,ob,e,c⟩:=x;exact⟨z,j,r,ob,k _ _ (.inl rfl) e,c⟩|dK I=>obtain⟨z,y,A,r,ob,g,i,e,c⟩:=x;exact⟨z,y,A,r,ob,g,i,k _ _ (.inl rfl) e,c⟩
 |dT I=>
  obtain⟨z,y,xs,r,ob,g,i,e,c⟩:=x;exact⟨z,y,xs,ml r λp q z=>⟨z.1,T _ _ z.2.1,z.2.2⟩,ob,g,i,k _ _ (.inl rfl) e,c⟩
 |set S n=>obtain⟨ob,g,i,t,e,c⟩:=x;exact⟨ob,g,i,t,k _ _ (.inl rfl) e,c⟩
 |ins C dx fs=>
  obtain⟨d,z,N,e,G,⟨E,g,i,s,c⟩,r⟩:=x;exact⟨U _ d,z,N,k _ _ (.inl rfl) e,G,⟨E,g,i,k _ _ (.inr d) s,c⟩,r⟩
 |own y=>obtain⟨ob,e⟩:=x;exact⟨ob,k _ _ (.inl rfl) e⟩|xd fs=>obtain⟨G,⟨E,g,i,e,c⟩,r⟩:=x;exact⟨G,⟨E,g,i,k _ _ (.inl rfl) e,c⟩,r⟩|rng lo hi=>obtain⟨t,u,v,e⟩:=x;exact⟨t,u,v,k _ _ (.inl rfl) e⟩|frz ob u Q=>obtain⟨e,q⟩:=x;exact⟨k _ _ (.inl rfl) e,Q q⟩
 |tbl ps=>
  have x:TabOk H h a ps:=x;show TabOk H' h' a ps;rcases x with⟨z,M,A,q,t,B,m,L,s,J⟩|⟨z,e|⟨l,c,q,t,B,m,O,c',L,s,J⟩⟩
  .exact .inl ⟨z,M,A,q,t,B,m,L,k a _ (.inl rfl) s,J⟩
  .exact .inr ⟨z,.inl<|k a _ (.inl rfl) e⟩
  .exact .inr ⟨z,.inr ⟨l,c,q,t,B,m,O,c',L,k a _ (.inl rfl) s,Y _ _ J⟩⟩
 |met f y=>
  have e:h.get? a=Wp (saz (.ref f)<|.ref y):=x;show h'.get? a=Wp (saz (.ref f)<|.ref y);exact k a _ (.inl rfl) e
 |ext φ=>obtain⟨p,⟨o,e⟩,st⟩:=x;exact⟨st _ _ p λo q=>k _ _ (.inl rfl) q,⟨o,k _ _ (.inl rfl) e⟩,st⟩
def fJ.lt(x:fJ P w H h)(e:H a=Wp o):a<h.objs.size:=(x a o e).lt
def fJ.fresh(x:fJ P w H h)(e:h.objs.size<=a):H a=Wb:=by
 cases q:H a with|none=>rfl|some u=>exact er (Vk (x.lt q) e)<|Xn _
def fJ.kept(x:fJ P w H h)(k:∀b u,h.get? b=Wp u->h'.get? b=Wp u):fJ P w H h':=λa o e=>
 (x a o e).stay (λb u _ q=>k b u q) (λ_ q=>q) (λ_ _ q=>q) λ_ _ q=>q
def fJ.laid(x:fJ P w H h)(k:∀b u,h.get? b=Wp u->h'.get? b=Wp u)(g:h.objs.size<=a)(new:bV P w (upd H a o) h' a o):fJ P w (upd H a o) h':=λb u e=>by
 have d:=x.fresh g
 by_cases f:b=a
 .subst f;rw[aC]at e;cases e;exact new
 .rw[ay f]at e
  exact(x b u e).stay (λc v _ q=>k c v q) (λc q=>by rw[ay (aN q d)];exact q) (λc xs q=>by rw[ay (aN q d)];exact q) λc o q=>by rw[ay (aN q d)];exact q
end
def Rd(H:Hp)(a:Vi)(u:HO):Prop:=H a=Wp u∨∃o,H a=Wp (.frz o u)
def Rd.ok{h:Vu}(r:Rd H a u)(x:fJ P w H h):bV P w H h a u:=by
 rcases r with r|⟨o,r⟩
 .exact x a u r
 .obtain⟨_,q⟩:=x a _ r
  exact q
def Qg:Option HO->Prop
 |some (.lst _)=>True
 |some (.dK _)=>True
 |some (.dT _)=>True
 |some (.set _ _)=>True
 |some (.ins _ _ _)=>True
 |some (.ext _)=>True
 |_=>False
section
variable {P:V5}{w:Wx}{H:Hp}{h h':Vu}{x e:Vi}{o':HO}
def fJ.write(ok:fJ P w H h)(f:Qg<|H x)(p:e=x∨H e=Wp (.own x))(k:∀b u,b≠e->h.get? b=Wp u->h'.get? b=Wp u)(m:∃u,h'.get? e=Wp u)
  (new:bV P w (upd H x o') h' x o'):fJ P w (upd H x o') h':=λb u q=>by
 have d:∀c y,H c=Wp (.own y)->c≠x:=λc y r z=>by subst z;rwa[r]at f
 have g:∀c xs,H c=Wp (.tup xs)->c≠x:=λc xs r z=>by subst z;rwa[r]at f
 have i:∀c o,H c=Wp (.tbl o)->c≠x:=λc o r z=>by subst z;rwa[r]at f
 by_cases l:b=x
 .subst l;rw[aC]at q;cases q;exact new
 .rw[ay l]at q
  by_cases a:b=e
  .have n:H b=Wp (.own x):=by
    rcases p with z|z
    .exact er (a.trans z) l
    .rw[a];exact z
   rw[q]at n;cases n;obtain⟨v,s⟩:=m;exact⟨v,by rw[a];exact s⟩
  .refine(ok b u q).stay (λc v j r=>k c v ?_ r) (λc r=>by rw[ay (d c b r)];exact r) (λc xs r=>by rw[ay (g c xs r)];exact r) λc o r=>by rw[ay (i c o r)];exact r
   rcases j with rfl|j
   .exact a
   .rintro rfl
    rcases p with z|z
    .exact d c b j z
    .rw[j]at z;cases z;exact l rfl
end
structure Un (fs ex:List Vi) (H H':Hp) (h h':Vu):Prop where
 keep:∀b o,h.get? b=Wp o->H b=Wb->b∉fs->b∉ex->h'.get? b=Wp o
 slot:∀b o,h.get? b=Wp o->H b=Wb->b∈fs->b∉ex->∃sl,h'.get? b=Wp { o with slots:=sl }
 free:∀b o,h.get? b=Wp o->H b=Wb->b∉ex->H' b=Wb
 there:∀b o,h.get? b=Wp o->b∉ex->∃o',h'.get? b=Wp o'
 tups:∀b xs,H b=Wp (.tup xs)->H' b=Wp (.tup xs)
 frzs:∀b o u,H b=Wp (.frz o u)->H' b=Wp (.frz o u)
 tbls:∀b ps,H b=Wp (.tbl ps)->∃more,H' b=Wp (.tbl (ps++more))
section
variable {fs fs' ex ex':List Vi}{H H1 H2:Hp}{h h1 h2 h':Vu}{a x e:Vi}{o:HO}
def Un.any(u:Un fs ex H H1 h h1)(q:h.get? b=Wp ob)(n:H b=Wb)(c:b∉ex):∃f,h1.get? b=Wp { ob with slots:=f }:=by
 by_cases d:b∈fs
 .exact u.slot b ob q n d c
 .exact⟨ob.slots,u.keep b ob q n d c⟩
def Un.trans(a:Un fs ex H H1 h h1)(b:Un fs ex H1 H2 h1 h2):Un fs ex H H2 h h2 where
 keep:=λc ob q n hc hx=>b.keep c ob (a.keep c ob q n hc hx) (a.free c ob q n hx) hc hx
 slot:=λc ob q n hc hx=>by
  obtain⟨sl,e1⟩:=a.slot c ob q n hc hx;obtain⟨sl',e2⟩:=b.slot c _ e1 (a.free c ob q n hx) hc hx;exact⟨sl',e2⟩
 free:=λc ob q n hx=>by
  obtain⟨o',e1⟩:=a.there c ob q hx;exact b.free c o' e1 (a.free c ob q n hx) hx
 there:=λc ob q hx=>by
  obtain⟨o',e1⟩:=a.there c ob q hx;exact b.there c o' e1 hx
 tups:=λc xs q=>b.tups c xs (a.tups c xs q)
 frzs:=λc ob xs q=>b.frzs c ob xs (a.frzs c ob xs q)
 tbls:=λc ps q=>by
  obtain⟨m1,e1⟩:=a.tbls c ps q;obtain⟨m2,e2⟩:=b.tbls c _ e1;exact⟨m1++m2,by rw[e2,YO]⟩
def Un.kept(k:∀b u,h.get? b=Wp u->h'.get? b=Wp u):Un fs ex H H h h' :=
 ⟨λb ob q _ _ _=>k b ob q,λb ob q _ _ _=>⟨ob.slots,k b ob q⟩,λ_ _ _ n _=>n,λb ob q _=>⟨ob,k b ob q⟩,λ_ _ q=>q,λ_ _ _ q=>q,λ_ ps q=>⟨#[],by rw[q];simp⟩⟩
def Un.refl:Un fs ex H H h h:=Un.kept λ_ _ q=>q
def Un.laid(k:∀b u,h.get? b=Wp u->h'.get? b=Wp u)(hp:h.objs.size<=a)(hn:H a=Wb):Un fs ex H (upd H a o) h h' where
 keep:=λb u q _ _ _=>k b u q
 slot:=λb u q _ _ _=>⟨u.slots,k b u q⟩
 free:=λb u q n _=>by rw[ay (VM<|Vk (Vw q) hp)];exact n
 there:=λb u q _=>⟨u,k b u q⟩
 tups:=λb xs q=>by rw[ay (aN q hn)];exact q
 frzs:=λb u xs q=>by rw[ay (aN q hn)];exact q
 tbls:=λb ps q=>⟨#[],by rw[ay (aN q hn),q];simp⟩
def Un.write(d:Qg<|H x)(l:e=x∨H e=Wp (.own x))(k:∀b u,b≠e->h.get? b=Wp u->h'.get? b=Wp u)(g:∃u,h'.get? e=Wp u):Un fs ex H (upd H x o) h h':=by
 have i:∀b,H b=Wb->b≠x:=λb n z=>by subst z;rwa[n]at d
 have j:∀b,H b=Wb->b≠e:=λb n z=>by
  subst z;rcases l with r|r
  .exact i b n r
  .rw[n]at r;cases r
 have f:∀b u,H b=Wp u->¬Qg (Wp u)->b≠x:=λb u q nm z=>by subst z;rw[q]at d;exact nm d
 refine⟨λb u q n _ _=>k b u (j b n) q,λb u q n _ _=>⟨u.slots,k b u (j b n) q⟩,λb u q n _=>by rw[ay (i b n)];exact n,λb u q _=>?_,
  λb xs q=>by rw[ay (f b _ q λz=>z)];exact q,λb u xs q=>by rw[ay (f b _ q λz=>z)];exact q,λb ps q=>⟨#[],by rw[ay (f b _ q λz=>z),q];simp⟩⟩
 by_cases c:b=e
 .subst c;exact g
 .exact⟨u,k b u c q⟩
end
def Su(h:Vu)(H:Hp):List Vi:=(Ws h.objs.size).filter λa=>(H a).isSome
def A7(h:Vu)(H:Hp):Vu:=Yg h<|Su h H
def FO(h:Vu)(H:Hp):(A7 h H).objs.size=h.objs.size:=W.hideAll_size _ _
def uV{h:Vu}(e:h.get? b=Wp o)(n:H b=Wb):(A7 h H).get? b=Wp o :=
 Zi _ e λa=>by
  have q:(H b).isSome=VO:=(XI.mp a).2;rw[n]at q;simp at q
def LK{h:Vu}(e:(A7 h H).get? b=Wp o):h.get? b=Wp o/\H b=Wb:=by
 have a:h.get? b=Wp o:=YC (Su h H) e;refine⟨a,?_⟩;cases q:H b with
 |none=>rfl
 |some x=>
  have c:b∈Su h H:=XI.mpr ⟨Xy.mpr<|Vw a,by simp[q]⟩;have z:(A7 h H).get? b=Wb:=ZQ (Su h H) c;rw[z]at e;cases e
structure Mod (K:Va) (mg:Vq->Option U5) (base:Vu):Prop where
 kin:K.In base
 glob:base.Ns Vz mg
 blt:∃mb,base.Ns builtinsNs mb/\∀x:Vq,x≠"__name__"->mb x=bootBuiltins x
 nolimit:base.NoLimit
 sm:∃mm,base.Ns XD mm
 bm:∃(b:Vi) (ob:Obj),mg "__builtins__"=Wp (.ref b)/\b≠builtinsNs/\base.get? b=Wp ob/\ob.cls=.type "module"/\ob.dict=Wp builtinsNs/\ob.data=.plain
structure Cx where
 prog:V5
 w:Wx
 K:Va
 mg:Vq->Option U5
 base:Vu
 A:Wh
 N:cr
 sf:Vm
 Ha:Hp
 env:Env
 outer:List Env
 stack:List Env
 ex:List Vi
 fn:Vq->Bool
 calm:Bool
 pn:List (Vi×Obj)
 xe:U5->Vm->Prop
def gW(l:List Env):List Vi:=l.filterMap (·.frame)
abbrev Cx.fs(X:Cx):List Vi:=gW X.outer
def yC(sc:Yt)(x:Vq):Prop:=sc.names.lookup x=Wp .local ∨ sc.names.lookup x=Wp .cell∨sc.names.lookup x=Wp .free
def Ka(sc:Yt)(x:Vq):Prop:=sc.names.lookup x=Wp .local ∨ sc.names.lookup x=Wp .cell
def Sm(env:Env)(h:Vu)(m:Vq->Option U5)(x:Vq)(u:U5):Prop :=
 (env.kindOf x=Wp .local /\ m x=Wp u)∨((env.kindOf x=Wp .cell∨env.kindOf x=Wp .free)/\∃c,env.cells.lookup x=Wp c/\h.IsCell c (Wp u))
structure Cx.Ok (X:Cx):Prop where
 mod:Mod X.K X.mg X.base
 kind:X.env.scope.kind=.function
 glob:X.env.globals=Vz
 blt:X.env.builtins=builtinsNs
 above:X.sf.heap.objs.size<=X.env.locals
 inj:∀x y c,X.env.cells.lookup x=Wp c->X.env.cells.lookup y=Wp c->x=y
 has:∀x,(X.env.kindOf x=Wp .cell∨X.env.kindOf x=Wp .free)->∃c,X.env.cells.lookup x=Wp c
 cab:∀x c,X.fn x=VO->X.env.cells.lookup x=Wp c->X.sf.heap.objs.size<=c
 hd:X.calm=VO->X.A.handled=Wb
 frames:X.A.frames=Wp X.stack
 stk:X.stack=X.outer∨(X.stack=X.env::X.outer/\X.env.frame=Wp X.env.locals)
 exf:∀b∈X.ex,b≠X.env.locals/\∀x c,X.env.cells.lookup x=Wp c->c≠b
 bs:∀b o,X.base.get? b=Wp o->X.sf.heap.get? b=Wp o/\X.Ha b=Wb
 bsz:X.base.objs.size<=X.sf.heap.objs.size
 noex:∀b o,X.base.get? b=Wp o->b∉X.ex
 exfs:∀b∈X.ex,b∉X.fs
 funs:X.sf.heap.FunFrames X.base X.outer
 frf:∀b∈X.fs,X.Ha b=Wb
 tab:EW X.K X.Ha
structure Inv (X:Cx) (π:List (Vi×Obj)) (σ:List (Option V)) (H:Hp) (s:Vm):Prop where
 ok:X.Ok
 os:s.os=X.sf.os
 bare:AllBare s.gens
 base:Un X.fs X.ex X.Ha H X.sf.heap s.heap
 loc:∃m,s.heap.Ns X.env.locals m/\∀(i:Nat) (x:Vq) (v:V),X.N[i]?=Wp x->σ[i]?=Wp (Wp v)->yC X.env.scope x->∃u,bw v u/\Sm X.env s.heap m x u
 cell:∀x c,X.env.cells.lookup x=Wp c->∃v,s.heap.IsCell c v
 free:H X.env.locals=Wb
 freeC:∀x c,X.env.cells.lookup x=Wp c->H c=Wb
 pin:∀p∈X.pn++π,s.heap.get? p.1=Wp p.2/\H p.1=Wb/\p.1≠X.env.locals/\p.1∉X.fs/\∀v,p.2.data≠.cell v
 hok:fJ X.prog X.w H s.heap
 len:σ.length=X.N.length
section
variable {X:Cx}{π:List (Vi×Obj)}{σ:List (Option V)}{H H':Hp}{s:Vm}{h':Vu}
def Cx.Ok.nofr(ok:X.Ok)(e:X.base.get? b=Wp o):b∉X.fs:=λa=>by
 have:=(ok.funs.mem a).1;rw[e]at this;cases this
def Inv.bs(I:Inv X π σ H s):∀b o,X.base.get? b=Wp o->s.heap.get? b=Wp o/\H b=Wb:=λb o e=>
 ⟨I.base.keep b o (I.ok.bs b o e).1 (I.ok.bs b o e).2 (I.ok.nofr e)<|I.ok.noex b o e,I.base.free b o (I.ok.bs b o e).1 (I.ok.bs b o e).2<|I.ok.noex b o e⟩
def Inv.bk(I:Inv X π σ H s):∀b o,X.base.get? b=Wp o->s.heap.get? b=Wp o:=λb o e=>(I.bs b o e).1
def Inv.mod(I:Inv X π σ H s):Mod X.K X.mg X.base:=I.ok.mod
def Inv.kIn(I:Inv X π σ H s):X.K.In s.heap:=I.ok.mod.kin.keeps I.bk
def Inv.lt(I:Inv X π σ H s):X.env.locals<2#s:=let ⟨_,a,_⟩:=I.loc;a.lt
def Inv.sz(I:Inv X π σ H s):X.sf.heap.objs.size<=2#s:=Vr I.ok.above<|XG I.lt
def Inv.nofs(I:Inv X π σ H s)(h:2#s<=a):a∉X.fs:=λc=>by
 obtain⟨_,o,b,_⟩:=I.ok.funs.mem c;exact er (Vk (Vw b)<|Vr I.sz h)<|Xn _
def Inv.cne(I:Inv X π σ H s):∀x c,X.env.cells.lookup x=Wp c->c≠X.env.locals:=λx c e z=>by
 obtain⟨v,o,d,hd⟩:=I.cell x c e;obtain⟨m,⟨f,g,i,a,b,_⟩,_⟩:=I.loc;rw[z,a]at d;cases d;rw[b]at hd;cases hd
def Inv.funs(I:Inv X π σ H s):s.heap.FunFrames X.base X.outer:=by
 have all:∀(l:List Env),(∀b∈gW l,b∈X.fs)->X.sf.heap.FunFrames X.base l->s.heap.FunFrames X.base l:=by
  intro l
  induction l with
  |nil=>intro _ _;trivial
  |cons q r g=>
   intro f n;obtain⟨p,⟨L,o,a,m,j,hd⟩,i⟩:=n;have d:L∈X.fs:=f L (by unfold gW;rw[Wd,a];exact Ve);obtain⟨t,e⟩:=I.base.slot L o j (I.ok.frf L d) d λz=>I.ok.exfs L z d;exact⟨p,⟨L,_,a,m,e,hd⟩,g (λb c=>f b (by unfold gW;rw[Wd,a];exact U9 _ c)) i⟩
 exact all X.outer (λ_ c=>c) I.ok.funs
def Inv.stack(I:Inv X π σ H s):s.heap.FunFrames X.base X.stack:=by
 rcases I.ok.stk with e|⟨e,b⟩
 .rw[e];exact I.funs
 .rw[e]
  obtain⟨m,a,_⟩:=I.loc;refine .cons (by rw[I.ok.kind];decide) b a ?_ I.funs;exact X1<|Vr I.ok.bsz I.ok.above
def Inv.stkSub(I:Inv X π σ H s):∀b∈gW X.stack,b∈X.env.locals::X.fs:=λb a=>by
 rcases I.ok.stk with e|⟨e,c⟩
 .rw[e]at a;exact U9 _ a
 .rw[e]at a
  unfold gW at a;rwa[Wd,c]at a
def Inv.stkFree(I:Inv X π σ H s):∀b∈gW X.stack,H b=Wb:=λb a=>by
 rcases Vl.mp (I.stkSub b a) with e|a
 .rw[e];exact I.free
 .obtain⟨_,o,c,_⟩:=I.ok.funs.mem a
  exact I.base.free b o c (I.ok.frf b a) λz=>I.ok.exfs b z a
def Inv.step{ch:List Vi}(I:Inv X π σ H s)
  (g:∀b∈ch,(b∈X.ex∨X.sf.heap.objs.size<=b)/\b≠X.env.locals/\(∀x c,X.env.cells.lookup x=Wp c->c≠b)/\∀p∈X.pn++π,p.1≠b)
  (keep:∀b o,b≠X.env.locals->b∉X.fs->b∉ch->s.heap.get? b=Wp o->H b=Wb->h'.get? b=Wp o)
  (slot:∀b o,b≠X.env.locals->b∈X.fs->b∉ch->s.heap.get? b=Wp o->H b=Wb->∃M,h'.get? b=Wp { o with slots:=M })(free:∀b o,b∉ch->s.heap.get? b=Wp o->H b=Wb->H' b=Wb)
  (there:∀b o,b∉ch->s.heap.get? b=Wp o->∃o',h'.get? b=Wp o')
  (B:∀b xs,H b=Wp (.tup xs)->H' b=Wp (.tup xs))(G:∀b o u,H b=Wp (.frz o u)->H' b=Wp (.frz o u))(C:∀b ps,H b=Wp (.tbl ps)->∃more,H' b=Wp (.tbl<|ps++more))
  (ns:∀m,s.heap.Ns X.env.locals m->h'.Ns X.env.locals m)(hok:fJ X.prog X.w H' h')(hg:AllBare g') :
  Inv X π σ H' { s with heap:=h',gens:=g',drawn:=d',toks:=t' }:=by
 have E:∀b o,X.sf.heap.get? b=Wp o->b≠X.env.locals:=λb o e=>VM<|Vk (Vw e) I.ok.above;have j:∀b o,X.sf.heap.get? b=Wp o->b∉X.ex->b∉ch:=λb o e a y=>by
  rcases(g b y).1 with z|z
  .exact a z
  .exact er (Vk (Vw e) z)<|Xn _
 have cellK:∀x c,X.env.cells.lookup x=Wp c->∀v,s.heap.IsCell c v->h'.IsCell c v:=λx c e v z9=>by
  obtain⟨o,A,hd⟩:=z9;have f:c∉ch:=λz=>(g c z).2.2.1 x c e rfl
  by_cases T:c∈X.fs
  .obtain⟨M,q⟩:=slot c o (I.cne x c e) T f A (I.freeC x c e)
   exact⟨_,q,hd⟩
  .exact⟨o,keep c o (I.cne x c e) T f A<|I.freeC x c e,hd⟩
 refine⟨I.ok,I.os,hg,⟨λb o e n y a=>?_,λb o e n y a=>?_,λb o e n a=>?_,λb o e a=>?_,λb xs e=>B b xs (I.base.tups b xs e),λb o xs e=>G b o xs (I.base.frzs b o xs e),λb ps e=>?_⟩,?_,λx c e=>?_,?_,λx c e=>?_,λp Q=>?_,hok,I.len⟩
 .exact keep b o (E b o e) y (j b o e a) (I.base.keep b o e n y a)<|I.base.free b o e n a
 .obtain⟨M,t⟩:=I.base.slot b o e n y a
  obtain⟨L,J⟩:=slot b _ (E b o e) y (j b o e a) t<|I.base.free b o e n a;exact⟨L,J⟩
 .obtain⟨o',t⟩:=I.base.there b o e a
  exact free b o' (j b o e a) t<|I.base.free b o e n a
 .obtain⟨o',t⟩:=I.base.there b o e a
  exact there b o' (j b o e a) t
 .obtain⟨m1,t⟩:=I.base.tbls b ps e
  obtain⟨m2,J⟩:=C b _ t;exact⟨m1++m2,by rw[J,YO]⟩
 .obtain⟨m,U,Y⟩:=I.loc
  refine⟨m,ns m U,λi x v t J e3=>?_⟩;obtain⟨u,r,l⟩:=Y i x v t J e3;refine⟨u,r,?_⟩;rcases l with l|⟨k,c,e,z⟩
  .exact .inl l
  .exact .inr ⟨k,c,e,cellK x c e _ z⟩
 .obtain⟨v,z⟩:=I.cell x c e
  exact⟨v,cellK x c e v z⟩
 .obtain⟨m,⟨o,_,_,A,_⟩,_⟩:=I.loc
  exact free _ o (λz=>(g _ z).2.1 rfl) A I.free
 .obtain⟨v,o,A,hd⟩:=I.cell x c e
  exact free c o (λz=>(g c z).2.2.1 x c e rfl) A<|I.freeC x c e
 .obtain⟨e,n,O,N,d⟩:=I.pin p Q
  have f:p.1∉ch:=λz=>(g p.1 z).2.2.2 p Q rfl;exact⟨keep p.1 p.2 O N f e n,free p.1 p.2 f e n,O,N,d⟩
def Inv.un(I:Inv X π σ H s)(u:Un X.fs [] H H' s.heap h')(hok:fJ X.prog X.w H' h'):Inv X π σ H' { s with heap:=h',toks:=t' }:=by
 obtain⟨m,⟨o,x,y,g,r⟩,_⟩:=id I.loc;obtain⟨p,l⟩:=u.any g I.free 0#3;exact I.step (g':=s.gens) (d':=s.drawn) (ch:=[]) (λ_ z=>nomatch z) (λb o _ c _ e n=>u.keep b o e n c<|by simp) (λb o _ c _ e n=>u.slot b o e n c<|by simp) (λb o _ e n=>u.free b o e n<|by simp) (λb o _ e=>u.there b o e<|by simp) u.tups u.frzs u.tbls (λt j=>by
  obtain⟨q,d,f,a,i⟩:=j;rw[g]at a;cases a;exact⟨_,d,f,l,i⟩) hok I.bare
def Inv.call(I:Inv X π σ H s)(u:Un (gW X.stack) ch H H' s.heap h')(hok:fJ X.prog X.w H' h')(v:AllBare g')
  (f:∀b∈ch,(b∈X.ex∨X.sf.heap.objs.size<=b)/\b≠X.env.locals/\(∀x c,X.env.cells.lookup x=Wp c->c≠b)/\∀p∈X.pn++π,p.1≠b) :
  Inv X π σ H' { s with heap:=h',gens:=g',drawn:=d',toks:=t' }:=by
 obtain⟨m,⟨o,E,G,l,r⟩,_⟩:=id I.loc;obtain⟨A,g⟩:=u.any l I.free λz=>(f _ z).2.1 rfl;exact I.step (ch:=ch) f (λb o g y a e n=>u.keep b o e n (λz=>(Vl.mp<|I.stkSub b z).elim g y) a) (λb o _ _ a e n=>u.any e n a) (λb o a e n=>u.free b o e n a) (λb o a e=>u.there b o e a) u.tups u.frzs u.tbls (λC t=>by
  obtain⟨B,i,j,d,q⟩:=t;rw[l]at d;cases d;exact⟨_,i,j,g,q⟩) hok v
def Inv.turned(I:Inv X π σ H s)(k:∀b o,b≠it->s.heap.get? b=Wp o->h'.get? b=Wp o)(i:H it=Wb)(f:it≠X.env.locals)
  (y:it∈X.ex∨X.sf.heap.objs.size<=it)(w:∀x c,X.env.cells.lookup x=Wp c->c≠it)(t:∀p∈X.pn++π,p.1≠it):Inv X π σ H { s with heap:=h',toks:=t' }:=by
 have d:∀b u,H b=Wp u->b≠it:=λb u e z=>by rw[z,i]at e;cases e
 refine I.step (g':=s.gens) (d':=s.drawn) (ch:=[it]) (λb l=>?_) (λb o _ _ a e _=>k b o (λz=>a<|by simp[z]) e) (λb o _ _ a e _=>⟨o.slots,k b o (λz=>a<|by simp[z]) e⟩) (λ_ _ _ _ n=>n)
  (λb o a e=>⟨o,k b o (λz=>a<|by simp[z]) e⟩) (λ_ _ e=>e) (λ_ _ _ e=>e) (λb ps e=>⟨#[],by rw[e];simp⟩) (λm j=>?_) (λb u e=>?_) I.bare
 .have e:b=it:=by simpa using l
  subst e;exact⟨y,f,w,t⟩
 .obtain⟨o,A,B,g,r⟩:=j
  exact⟨o,A,B,k _ o (V6 f) g,r⟩
 .refine(I.hok b u e).stay (λc v a q=>k c v ?_ q) (λ_ q=>q) (λ_ _ q=>q) λ_ _ q=>q
  rcases a with z|z
  .rw[z];exact d b u e
  .exact d c _ z
def Inv.tok(I:Inv X π σ H s)(t:Nat):Inv X π σ H { s with toks:=t }:=I.un (h':=s.heap) (t':=t) Un.refl I.hok
def Inv.kept(I:Inv X π σ H s)(k:∀b u,s.heap.get? b=Wp u->h'.get? b=Wp u):Inv X π σ H { s with heap:=h',toks:=t' }:=I.un (Un.kept k)<|I.hok.kept k
def Inv.laid(I:Inv X π σ H s)(k:∀b u,s.heap.get? b=Wp u->h'.get? b=Wp u)(c:2#s<=a)(new:bV X.prog X.w (upd H a o) h' a o) :
  Inv X π σ (upd H a o) { s with heap:=h',toks:=t' }:=I.un (Un.laid k c<|I.hok.fresh c)<|I.hok.laid k c new
def Inv.write(I:Inv X π σ H s)(c:Qg<|H x)(d:e=x∨H e=Wp (.own x))(k:∀b u,b≠e->s.heap.get? b=Wp u->h'.get? b=Wp u)(a:∃u,h'.get? e=Wp u)
  (new:bV X.prog X.w (upd H x o) h' x o):Inv X π σ (upd H x o) { s with heap:=h',toks:=t' }:=I.un (Un.write c d k a)<|I.hok.write c d k a new
def Inv.pins_of(I:Inv X π σ H s)(h:∀p∈a,s.heap.get? p.1=Wp p.2/\H p.1=Wb/\p.1≠X.env.locals/\p.1∉X.fs/\∀v,p.2.data≠.cell v):Inv X a σ H s :=
 ⟨I.ok,I.os,I.bare,I.base,I.loc,I.cell,I.free,I.freeC,λp b=>(VH.mp b).elim (λz=>I.pin p<|Wm _ z)<|h p,I.hok,I.len⟩
def uE{N:cr}(c:N.Nodup){i j:Nat}(a:N[i]?=Wp x)(b:N[j]?=Wp x):i=j:=by
 obtain⟨g,e⟩:=Vn.mp a;obtain⟨f,d⟩:=Vn.mp b;exact(Yv c).mp<|e.trans d.symm
def xG(I:Inv X π σ H s)(hN:X.N.Nodup)(hi:X.N[i]?=Wp x)(t:Ka X.env.scope x)(r:bw v u)
  (h:∀s',Inv X π (σ.set i<|Wp v) H s'->(∃a,X4 a s.heap s'.heap/\(a=X.env.locals∨X.env.cells.lookup x=Wp a))->Q () s')(hf:X.fn x=VO∨X.env.scope.names.lookup x=Wp .local := by first|exact .inl rfl|exact .inr rfl|assumption):VC M A (storeName X.env x u) Q E s:=by
 obtain⟨m,hn,hl⟩:=id I.loc;have ab:(X.env.scope.kind==.class||(X.env.scope.kind==.module&&X.env.locals != X.env.globals))=Vd:=by rw[I.ok.kind];rfl
 have J:i<σ.length:=by rw[I.len];exact(Vn.mp hi).1
 have cne:=I.cne;have tracked:∀{a:Vi}{h':Vu},(∃o,s.heap.get? a=Wp o/\H a=Wb)->X4 a s.heap h'->fJ X.prog X.w H h':=λ{a h'} ha f b ob e=>by
  obtain⟨_,_,B⟩:=ha;refine(I.hok b ob e).stay (λc w' l q=>(f.2 c ?_).trans q) (λ_ q=>q) (λ_ _ q=>q) λ_ _ q=>q;rintro rfl;rcases l with rfl|l
  .rw[B]at e;cases e
  .rw[B]at l;cases l
 rcases t with G|G
 .refine wpAny_storeName_local G hn (λh' as f=>?_) ab
  obtain⟨oL,_,_,ap,_⟩:=id hn;refine h _ ⟨I.ok,I.os,I.bare,⟨λb o e n T t=>?_,λb o e n T t=>?_,I.base.free,λb o e t=>?_,I.base.tups,I.base.frzs,I.base.tbls⟩,⟨_,as,λj y v' g C e3=>?_⟩,λy c e=>?_,I.free,I.freeC,λp hp=>?_,tracked ⟨oL,ap,I.free⟩ f,by simpa using I.len⟩ ⟨_,f,.inl rfl⟩
  .exact(f.2 b<|VM<|Vk (Vw e) I.ok.above).trans<|I.base.keep b o e n T t
  .obtain⟨sl,g⟩:=I.base.slot b o e n T t
   exact⟨sl,(f.2 b<|VM<|Vk (Vw e) I.ok.above).trans g⟩
  .obtain⟨o',g⟩:=I.base.there b o e t
   exact⟨o',(f.2 b<|VM<|Vk (Vw e) I.ok.above).trans g⟩
  .by_cases L:j=i
   .subst L
    rw[hi]at g;cases g;rw[VT J]at C;cases C;exact⟨u,r,.inl ⟨G,by simp⟩⟩
   .rw[Vo (V6 L)]at C
    obtain⟨u',r',q⟩:=hl j y v' g C e3;refine⟨u',r',?_⟩;rcases q with⟨k,e⟩|⟨k,c,e,z⟩
    .refine .inl ⟨k,?_⟩
     have:y≠x:=λe=>L<|uE hN g<|e▸hi;simp[this,e]
    .exact .inr ⟨k,c,e,z.sameBut f<|cne y c e⟩
  .obtain⟨w',z⟩:=I.cell y c e
   exact⟨w',z.sameBut f<|cne y c e⟩
  .obtain⟨e,n,ne,nf,d⟩:=I.pin p hp
   exact⟨(f.2 p.1 ne).trans e,n,ne,nf,d⟩
 .have O:X.fn x=VO:=by
   rcases hf with z|z
   .exact z
   .rw[z]at G;cases G
  obtain⟨c,l⟩:=I.ok.has x<|.inl G;obtain⟨w',z⟩:=I.cell x c l;refine wpAny_storeName_cell I.ok.kind G l z<|λh' an f=>?_;obtain⟨oc,Y,U⟩:=id z;refine h { s with heap:=h' } ⟨I.ok,I.os,I.bare,⟨λb o e n T t=>?_,λb o e n T t=>?_,I.base.free,λb o e t=>?_,I.base.tups,I.base.frzs,I.base.tbls⟩,⟨m,hn.sameBut f (V6 (cne x c l)),λj y v' g C e3=>?_⟩,λy c' e=>?_,I.free,I.freeC,λp hp=>?_,tracked ⟨oc,Y,I.freeC x c l⟩ f,by simpa using I.len⟩ ⟨c,f,.inr l⟩
  .exact(f.2 b<|VM<|Vk (Vw e)<|I.ok.cab x c O l).trans<|I.base.keep b o e n T t
  .obtain⟨sl,g⟩:=I.base.slot b o e n T t
   exact⟨sl,(f.2 b<|VM<|Vk (Vw e)<|I.ok.cab x c O l).trans g⟩
  .obtain⟨o',g⟩:=I.base.there b o e t
   exact⟨o',(f.2 b<|VM<|Vk (Vw e)<|I.ok.cab x c O l).trans g⟩
  .by_cases L:j=i
   .subst L
    rw[hi]at g;cases g;rw[VT J]at C;cases C;exact⟨u,r,.inr ⟨.inl G,c,l,an⟩⟩
   .rw[Vo (V6 L)]at C
    obtain⟨u',r',q⟩:=hl j y v' g C e3;refine⟨u',r',?_⟩;rcases q with q|⟨k,c',e,z'⟩
    .exact .inl q
    .refine .inr ⟨k,c',e,z'.sameBut f ?_⟩
     rintro rfl;exact L<|uE hN g<|I.ok.inj _ _ _ e l▸hi
  .by_cases al:c'=c
   .subst al;exact⟨_,an⟩
   .obtain⟨w2,z2⟩:=I.cell y c' e
    exact⟨w2,z2.sameBut f al⟩
  .obtain⟨e,n,ne,nf,d⟩:=I.pin p hp
   refine⟨(f.2 p.1 ?_).trans e,n,ne,nf,d⟩;intro q;rw[q,Y]at e;have q':oc=p.2:=V8 e;exact d w' (by rw[←q'];exact U)
def lz(I:Inv X π σ H s)(c:X.N.Nodup)(hi:X.N[i]?=Wp x)(a:Ka X.env.scope x)(r:bw v u)
  (h:∀s',Inv X π (σ.set i<|Wp v) H s'->Q () s')(b:X.fn x=VO∨X.env.scope.names.lookup x=Wp .local := by first|exact .inl rfl|exact .inr rfl|assumption):VC M A (storeName X.env x u) Q E s :=
 xG I c hi a r (λs' d _=>h s' d) b
def Inv.call'(I:Inv X π σ H s)(j:s'.os=s.os)(u:Un (gW X.stack) ch H H' s.heap s'.heap)(hok:fJ X.prog X.w H' s'.heap)(l:AllBare s'.gens)
  (a:∀b∈ch,(b∈X.ex∨X.sf.heap.objs.size<=b)/\b≠X.env.locals/\(∀x c,X.env.cells.lookup x=Wp c->c≠b)/\∀p∈X.pn++π,p.1≠b):Inv X π σ H' s':=by
 obtain⟨h',f,g,d,i⟩:=s';have e:i=s.os:=j;subst e;exact I.call (g':=f) (t':=d) (d':=g) u hok l a
end
abbrev XK:=U5->Option Vi->Hp->Prop
abbrev St:=List<|Option V
abbrev VK:=V->Hp->Prop
abbrev TE:=St->Hp->VK->Prop
abbrev TT:=St->Hp->(Bool->Hp->Prop)->Prop
abbrev TA:=St->Hp->(am->Hp->Prop)->Prop
structure rq where
 nx:St->Hp->Prop
 rt:VK
 bk:St->Hp->Prop:=λ_ _=>False
 ct:St->Hp->Prop:=λ_ _=>False
abbrev TS:=rq->St->Hp->Prop
def EP(X:Cx)(c:List<|Vi×Obj)(b:St)(Q:VK)(u:U5)(s':Vm):Prop:=∃v a,Inv X c b a s'/\bw v u/\Q v a
def TP(X:Cx)(d:List<|Vi×Obj)(c:St)(Q:Bool->Hp->Prop)(b:Bool)(s':Vm):Prop:=∃a,Inv X d c a s'/\Q b a
def AP(X:Cx)(d:List<|Vi×Obj)(c:St)(Q:am->Hp->Prop)(e:List U5)(s':Vm):Prop:=∃a b,Inv X d c b s'/\bh a e/\Q a b
noncomputable def SP(X:Cx) (c:List<|Vi×Obj) (D:rq) (f:Flow) (s':Vm):Prop :=
 match f with
 |.next=>∃a b,Inv X c a b s'/\D.nx a b
 |.brk=>∃a b,Inv X c a b s'/\D.bk a b
 |.cont=>∃a b,Inv X c a b s'/\D.ct a b
 |.ret u=>∃v a b,Inv X c a b s'/\bw v u/\D.rt v b
def PE(X:Cx)(e:V4)(t:TE):Prop :=
 ∀(b:List<|Vi×Obj) (s:Vm) (a:St) (H:Hp) (Q:VK),Inv X b a H s->t a H Q->VC 4#X X.A (eval e X.env) (EP X b a Q) X.xe s
def PT(X:Cx)(e:V4)(t:TT):Prop :=
 ∀(b:List<|Vi×Obj) (s:Vm) (a:St) (H:Hp) (Q:Bool->Hp->Prop),Inv X b a H s->t a H Q->VC 4#X X.A (isTrue e X.env<|eval e X.env) (TP X b a Q) X.xe s
def PW(X:Cx)(e:V4)(t:TT):Prop :=
 ∀(whole:Sem U5) (b:List<|Vi×Obj) (s:Vm) (a:St) (H:Hp) (Q:Bool->Hp->Prop),Inv X b a H s->t a H Q->VC 4#X X.A (isTrue e X.env whole) (TP X b a Q) X.xe s
def PW.pt(h:PW X e t):PT X e t:=h _
def PA(X:Cx)(c:List V4)(t:TA):Prop :=
 ∀(pos:Pos) (b:List<|Vi×Obj) (s:Vm) (a:St) (H:Hp) (Q:am->Hp->Prop),Inv X b a H s->t a H Q->VC 4#X X.A (spliced<|Wn pos<|Vg c X.env) (AP X b a Q) X.xe s
def PS(X:Cx)(st:Xi)(t:TS):Prop :=
 ∀(b:List<|Vi×Obj) (s:Vm) (a:St) (H:Hp) (D:rq),Inv X b a H s->t D a H->VC 4#X X.A (exec st X.env) (SP X b D) X.xe s
def z8(X:Cx)(st:List Xi)(t:TS):Prop :=
 ∀(b:List<|Vi×Obj) (s:Vm) (a:St) (H:Hp) (D:rq),Inv X b a H s->t D a H->VC 4#X X.A (execs st X.env) (SP X b D) X.xe s
def cM{Q b:d->Vm->Prop}(h:VC M A t Q E s)(c:∀a s,Q a s->b a s):VC M A t b E s:=Wj h c λ_ _ x=>x
section
variable {X:Cx}
def S2(i:Nat):TE:=λa H Q=>∃v,a[i]?=Wp (Wp v)/\Q v H
def tC(v:V):TE:=λ_ H Q=>Q v H
def fW(t:X.N[i]?=Wp x)(n:yC X.env.scope x)(hd:1#x:=by decide)(d:3#x:=by decide):PE X (.Name x pos) (S2 i):=by
 intro j s g H Q I h;obtain⟨v,e,h⟩:=h;obtain⟨m,o,q⟩:=I.loc;obtain⟨u,r,l⟩:=q i x v t e n;have fin:EP X j g Q u s:=⟨v,H,I,r,h⟩
 rcases l with⟨b,p⟩|⟨b,c,f,a⟩
 .exact wpAny_Name (wpAny_loadName_local I.ok.kind b o p fin) hd
 .rcases b with b|b
  .exact wpAny_Name (wpAny_loadName_cell I.ok.kind b f a fin) hd
  .exact wpAny_Name (wpAny_loadName_free I.ok.kind b f a fin d) hd
def Ii{i j pos}:PE X (.Constant (.int i) j pos) (tC<|.int i):=λ_ _ _ H _ I h=>wpAny_Constant_int ⟨.int i,H,I.tok _,⟨_,rfl⟩,h⟩
def Rt{b j pos}:PE X (.Constant (.bool b) j pos) (tC<|.bl b):=λ_ _ _ H _ I h=>Constant_bool ⟨.bl b,H,I,rfl,h⟩
def OO{j pos}:PE X (.Constant .none j pos) (tC .non):=λ_ _ _ H _ I h=>Constant_none ⟨.non,H,I,rfl,h⟩
def OK{x j pos}:PE X (.Constant (.str x) j pos) (tC<|.str x):=λ_ _ _ H _ I h=>Calls.Constant_str ⟨.str x,H,I.tok _,⟨_,rfl⟩,h⟩
def Gl(X:Cx)(x:Vq):Prop:=X.env.kindOf x=Wp .globalImplicit
def gP(I:Inv X d c H s)(b:Gl X x)(a:X.mg x=Wp u)(h:Q u s)
  (hd:1#x:=by decide):VC 4#X X.A (eval (.Name x pos) X.env) Q E s :=
 ZZ I.ok.kind b (Calls.loadGlobal_global (by rw[I.ok.glob];exact I.mod.glob.keeps I.bk) a h) hd
def qO(I:Inv X i g H s)(d:Gl X x)(c:X.mg x=Wb)(a:bootBuiltins x=Wp u)(h:Q u s)
  (b:x≠"__name__":=by decide)(hd:1#x:=by decide):VC 4#X X.A (eval (.Name x pos) X.env) Q E s:=by
 obtain⟨j,f,e⟩:=I.mod.blt;exact ZZ I.ok.kind d (Calls.loadGlobal_builtin (by rw[I.ok.glob];exact I.mod.glob.keeps I.bk) c (by rw[I.ok.blt];exact f.keeps I.bk) ((e x b).trans a) h) hd
def Ec(b:Gl X x)(a:X.mg x=Wp u)(r:bw v u)(hd:1#x:=by decide):PE X (.Name x pos) (tC v) :=
 λ_ _ _ H _ I h=>gP I b a ⟨v,H,I,r,h⟩ hd
def Ed(d:Gl X x)(c:X.mg x=Wb)(a:bootBuiltins x=Wp u)(r:bw v u)(b:x≠"__name__":=by decide)(hd:1#x:=by decide):PE X (.Name x pos) (tC v) :=
 λ_ _ _ H _ I h=>qO I d c a ⟨v,H,I,r,h⟩ b hd
variable {a b:V4}{ta tb:TE}{pos:Pos}
noncomputable def PC(X:Cx) (g:CmpOp) (a b:V4) (t:TE):Prop :=
 ∀(d:List<|Vi×Obj) (s:Vm) (c:St) (H:Hp) (Q:VK),Inv X d c H s->t c H Q ->
  VC 4#X X.A (eval a X.env) (λv f=>VC 4#X X.A (eval b X.env) (λu e=>VC 4#X X.A (Wf g v u) (EP X d c Q) X.xe e) X.xe f) X.xe s
def Iz(b:V4)(h:c≠.In)(d:c≠.NotIn):behindInMarks c b=Vd:=by
 have f:(c==CmpOp.In)=Vd:=by cases c<;>first|rfl|exact er rfl h
 have e:(c==CmpOp.NotIn)=Vd:=by cases c<;>first|rfl|exact er rfl d
 cases b<;>simp[behindInMarks,f,e]
def tB(t:TE):TT:=λd H Q=>t d H λx e=>∃c,x=.bl c/\Q c e
def OB(h:PE X e t)(j:∀whole,isTrue e X.env whole=(do let v ←whole;standAt e.pos;Yk [v] (truthy v)):=by intro _;rfl):PT X e (tB t):=by
 intro f s c H Q I hw;refine isTrue_plain (cM (h f s c H _ I hw) λv n z9=>?_)<|j _;obtain⟨x,m,l,g,i⟩:=z9;obtain⟨d,rfl,q⟩:=i;cases g;exact WX ⟨m,l,q⟩
variable {tA tB':TT}{rest:List V4}
def Tg(t u:TT):TT:=λd H Q=>t d H λc e=>if c=VO then u d e Q else Q Vd e
def UE(t u:TT):TT:=λd H Q=>t d H λc e=>if c=VO then Q VO e else u d e Q
def S9(t:TT):TT:=λd H Q=>t d H λc e=>Q (!c) e
def Le(g:PT X a tA):PW X (.BoolOp .And [a] pos) tA:=by
 intro i f s d H Q I h;refine isTrue_and<|cM (g f s d H Q I h) λc j e=>?_;cases c with|true=>exact isTrue_and_nil e|false=>exact e
def Oz(g:PT X a tA):PW X (.BoolOp .Or [a] pos) tA:=by
 intro i f s d H Q I h;refine isTrue_or<|cM (g f s d H Q I h) λc j e=>?_;cases c with|false=>exact isTrue_or_nil e|true=>exact e
def OA(n:PT X a tA)(m:PW X (.BoolOp .And (b::rest) pos) tB'):PW X (.BoolOp .And (a::b::rest) pos) (Tg tA tB'):=by
 intro j e s d H Q I h;refine isTrue_and<|cM (n e s d H _ I h) λc l z9=>?_;obtain⟨i,g,f⟩:=z9;cases c with|true=>exact m j e l d i Q g f|false=>exact⟨i,g,f⟩
def Rj(n:PT X a tA)(m:PW X (.BoolOp .Or (b::rest) pos) tB'):PW X (.BoolOp .Or (a::b::rest) pos) (UE tA tB'):=by
 intro j e s d H Q I h;refine isTrue_or<|cM (n e s d H _ I h) λc l z9=>?_;obtain⟨i,g,f⟩:=z9;cases c with|true=>exact⟨i,g,f⟩|false=>exact m j e l d i Q g f
def OC(f:PT X a tA):PT X (.UnaryOp .Not a pos) (S9 tA):=by
 intro e s d H Q I h;exact isTrue_not<|f e s d H (λc g=>Q (!c) g) I h
def QV(ta tb:TE):TE:=λd H Q=>ta d H λx e=>∃c,x=.bl c/\if c=VO then tb d e Q else Q (.bl Vd) e
def S8(ta tb:TE):TE:=λd H Q=>ta d H λx e=>∃c,x=.bl c/\if c=VO then Q (.bl VO) e else tb d e Q
def QK(ta:TE):TE:=λd H Q=>ta d H λx e=>∃c,x=.bl c/\Q (.bl (!c)) e
def OM{e}(h:PE X a t):PE X (.BoolOp e [a] pos) t:=λd s c H Q I hw=>BoolOp_one<|h d s c H Q I hw
def OQ(n:PE X a ta)(m:PE X (.BoolOp .And (b::rest) pos) tb):PE X (.BoolOp .And (a::b::rest) pos) (QV ta tb):=by
 intro f s e H Q I h;refine BoolOp_and<|cM (n f s e H _ I h) λv j ⟨x,i,g,l,d⟩=>?_;obtain⟨c,rfl,d⟩:=d;cases l;refine WX ?_;cases c with|true=>exact m f j e i Q g d|false=>exact⟨.bl Vd,i,g,rfl,d⟩
def Rq(n:PE X a ta)(m:PE X (.BoolOp .Or (b::rest) pos) tb):PE X (.BoolOp .Or (a::b::rest) pos) (S8 ta tb):=by
 intro f s e H Q I h;refine BoolOp_or<|cM (n f s e H _ I h) λv j ⟨x,i,g,l,d⟩=>?_;obtain⟨c,rfl,d⟩:=d;cases l;refine WX ?_;cases c with|false=>exact m f j e i Q g d|true=>exact⟨.bl VO,i,g,rfl,d⟩
def ON(i:PE X a ta):PE X (.UnaryOp .Not a pos) (QK ta):=by
 intro f s e H Q I h;refine UnaryOp_<|cM (i f s e H _ I h) λv m z9=>?_;obtain⟨x,l,j,g,d⟩:=z9;obtain⟨c,rfl,d⟩:=d;cases g;exact not_of<|WX ⟨.bl (!c),l,j,rfl,d⟩
def UG(t:TT)(ta tb:TE):TE:=λd H Q=>t d H λc e=>if c=VO then ta d e Q else tb d e Q
def Ij(m:PT X c tA)(o:PE X a ta)(n:PE X b tb):PE X (.IfExp c a b pos) (UG tA ta tb):=by
 intro f s e H Q I h;refine wpAny_IfExp<|cM (m f s e H _ I h) λd g z9=>?_;obtain⟨l,j,i⟩:=z9;cases d with|true=>exact o f g e l Q j i|false=>exact n f g e l Q j i
end
def fm(K:Va)(H:Hp)(a:Vi)(xs:am):Prop :=
 Rd H a (.lst xs) ∨
  ∃(o:Obj) (b:Array U5) (n:Nat),K.lookup a=Wp o/\o.cls=.type "list"/\o.dict=Wb/\o.data=.seq b n/\b.size<=sizeLine/\bh xs b.toList
def nq(K:Va)(H:Hp)(a:Vi)(xs:am):Prop :=
 Rd H a (.tup xs) ∨
  ∃(o:Obj) (b:Array U5) (n:Nat),K.lookup a=Wp o/\o.cls=.type "tuple"/\o.data=.seq b n/\b.size<=sizeLine/\bh xs b.toList
def T7:U5->Option V
 |.none=>Wp .non
 |.bool b=>Wp<|.bl b
 |.int i _=>Wp<|.int i
 |.str x _=>Wp<|.str x
 |.bytes b _=>Wp<|.byt b
 |.float b _=>Wp<|.flt b
 |.ref a=>Wp<|.ref a
 |.type n=>Wp<|.ty n
 |_=>Wb
def bw.abs(r:bw x u):T7 u=Wp x:=by
 cases x with|non|bl _=>cases r;rfl|int _|str _|byt _|flt _=>obtain⟨t,rfl⟩:=r;rfl|ref _|ty _=>cases r;rfl
def bw.inj(r:bw x u)(q:bw y u):x=y:=V8<|r.abs.symm.trans q.abs
theorem bh.inj:∀{xs a:am}{b:List U5},bh xs b->bh a b->xs=a
 |_,_,_,.nil,.nil=>rfl
 |_,_,_,.cons r t,.cons d c=>by rw[r.inj d,bh.inj t c]
section
variable {X:Cx}{π:List (Vi×Obj)}{σ:St}{H:Hp}{s:Vm}{a:Vi}{xs ys:am}
def fm.of{K:Va}(h:H a=Wp (.lst xs)):fm K H a xs:=.inl<|.inl h
def nq.of{K:Va}(h:H a=Wp (.tup xs)):nq K H a xs:=.inl<|.inl h
def Inv.list(I:Inv X π σ H s)(h:fm X.K H a xs):∃its:List U5,bh xs its/\PlainL s.heap a its.toArray/\xs.length<=sizeLine:=by
 rcases h with h|⟨o,its,n,c,d,hd,b,f,r⟩
 .obtain⟨z,its,n,r,e⟩:=h.ok I.hok
  exact⟨its,r,⟨_,n,e,rfl,rfl,rfl⟩,z⟩
 .refine⟨its.toList,r,⟨o,n,I.kIn a o c,d,hd,by simpa using b⟩,?_⟩
  have e:=r.length;simp only[Xl]at e;omega
def Inv.tuple(I:Inv X π σ H s)(h:nq X.K H a xs):∃its:List U5,bh xs its/\IsTup s.heap a its.toArray/\xs.length<=sizeLine:=by
 rcases h with h|⟨o,its,n,c,d,b,f,r⟩
 .obtain⟨z,its,r,p⟩:=h.ok I.hok
  exact⟨its,r,p,z⟩
 .refine⟨its.toList,r,⟨o,I.kIn a o c,d,n,by simpa using b⟩,?_⟩
  have e:=r.length;simp only[Xl]at e;omega
def Inv.list_inj(I:Inv X π σ H s)(h:fm X.K H a xs)(h':fm X.K H a ys):xs=ys:=by
 obtain⟨c,r,⟨o,n,e,_,_,d⟩,_⟩:=I.list h;obtain⟨b,i,⟨l,m,f,_,_,g⟩,_⟩:=I.list h';rw[e]at f;cases f;rw[d]at g;injection g with j _;have:c=b:=by simpa using ew YI j
 subst this;exact r.inj i
def Inv.tuple_inj(I:Inv X π σ H s)(h:nq X.K H a xs)(h':nq X.K H a ys):xs=ys:=by
 obtain⟨c,r,⟨o,e,_,n,d⟩,_⟩:=I.tuple h;obtain⟨b,i,⟨l,f,_,m,g⟩,_⟩:=I.tuple h';rw[e]at f;cases f;rw[d]at g;injection g with j _;have:c=b:=by simpa using ew YI j
 subst this;exact r.inj i
end
abbrev Cx.wish(X:Cx)(E:U5->Vm->Prop):Cx:={ X with xe:=E }
abbrev Cx.nox(X:Cx):Cx:=X.wish λ_ _=>False
def Cx.Ok.wish{X:Cx}(ok:X.Ok)(E:U5->Vm->Prop):(X.wish E).Ok :=
 ⟨ok.mod,ok.kind,ok.glob,ok.blt,ok.above,ok.inj,ok.has,ok.cab,ok.hd,ok.frames,ok.stk,ok.exf,ok.bs,ok.bsz,ok.noex,ok.exfs,ok.funs,ok.frf,ok.tab⟩
def Cx.Ok.unwish{X:Cx}(ok:(X.wish E).Ok):X.Ok :=
 ⟨ok.mod,ok.kind,ok.glob,ok.blt,ok.above,ok.inj,ok.has,ok.cab,ok.hd,ok.frames,ok.stk,ok.exf,ok.bs,ok.bsz,ok.noex,ok.exfs,ok.funs,ok.frf,ok.tab⟩
section
variable {X:Cx}{π:List (Vi×Obj)}{σ:St}{H:Hp}{s:Vm}{E:U5->Vm->Prop}
def Inv.wish(I:Inv X π σ H s)(E:U5->Vm->Prop):Inv (X.wish E) π σ H s:=⟨I.ok.wish E,I.os,I.bare,I.base,I.loc,I.cell,I.free,I.freeC,I.pin,I.hok,I.len⟩
def Inv.unwish(I:Inv (X.wish E) π σ H s):Inv X π σ H s:=⟨I.ok.unwish,I.os,I.bare,I.base,I.loc,I.cell,I.free,I.freeC,I.pin,I.hok,I.len⟩
def SP.unwish{D:rq}(h:SP (X.wish E) π D f s'):SP X π D f s':=by
 cases f with|next|brk|cont=>obtain⟨a,b,I,q⟩:=h;exact⟨a,b,I.unwish,q⟩|ret u=>obtain⟨v,a,b,I,r,q⟩:=h;exact⟨v,a,b,I.unwish,r,q⟩
def z8.nox{st:List Xi}(h:z8 X.nox st t):z8 X st t:=λπ s σ H D I hw=>
 Wj (h π s σ H D (I.wish _) hw) (λ_ _ q=>q.unwish) λ_ _ z=>V0 z
end
section
variable {X:Cx}{st:Xi}{rest:List Xi}{t u:TS}{e:V4}{te:TE}{pos:Pos}
def QL:TS:=λD a H=>D.nx a H
def S4(t u:TS):TS:=λD a H=>t { D with nx:=u D } a H
def y9:z8 X [] QL:=λ_ _ a H _ I h=>wpAny_execs_nil ⟨a,H,I,h⟩
def lE(i:PS X st t)(g:z8 X rest u):z8 X (st::rest) (S4 t u):=by
 intro b s c H D I h;refine wpAny_execs_cons<|cM (i b s c H { D with nx:=u D } I h) λf d q=>?_;cases f with
 |next=>
  obtain⟨a,l,j,q⟩:=q;exact g b d a l D j q
 |ret v|brk|cont=>exact q
def Inv.quiet(I:Inv X b a H s):interactive X.env=Vd:=by simp[interactive,I.ok.kind]
def QP(te:TE):TS:=λD a H=>te a H λ_ b=>D.nx a b
def za(f:PE X e te)(d:WI e Wb pos.line X.env=pure Vd:=by rfl):PS X (.Expr e pos) (QP te):=by
 intro b s a H D I h;exact wpAny_Expr_any (cM (f b s a H _ I h) λv j ⟨x,i,g,l,c⟩=>⟨a,i,g,c⟩) I.quiet d
def S6(te:TE):TS:=λD a H=>te a H D.rt
def OD(f:PE X e te):PS X (.Return (Wp e) pos) (S6 te):=by
 intro b s a H D I h;exact wpAny_Return_some<|cM (f b s a H _ I h) λv j ⟨x,i,g,c,d⟩=>⟨x,a,i,g,c,d⟩
def Tc(c:TT)(t u:TS):TS:=λD a H=>c a H λb d=>if b=VO then t D a d else u D a d
def Rm(o:PT X c n)(q:z8 X a t)(p:z8 X b u):PS X (.If c a b pos) (Tc n t u):=by
 intro g s f H D I h;refine wpAny_If<|cM (o g s f H _ I h) λd i z9=>?_;obtain⟨m,l,j⟩:=z9;cases d with|true=>exact q g i f m D l j|false=>exact p g i f m D l j
def Oc:TS:=λ_ _ _=>False
def HW:PS X st Oc:=λ_ _ _ _ _ _ h=>h.elim
end
abbrev TG:=V->St->Hp->(St->Hp->Prop)->Prop
abbrev Qu:=am->St->Hp->(St->Hp->Prop)->Prop
noncomputable def PG(X:Cx) (target:V4) (t:TG):Prop :=
 ∀(c:List<|Vi×Obj) (s:Vm) (b:St) (H:Hp) (v:V) (u:U5) (Q:St->Hp->Prop),Inv X c b H s->bw v u->t v b H Q ->
  VC 4#X X.A (assign target X.env u) (λ_ e=>∃a d,Inv X c a d e/\Q a d) X.xe s
noncomputable def Gr(X:Cx) (ts:List V4) (t:Qu):Prop :=
 ∀(c:List<|Vi×Obj) (s:Vm) (b:St) (H:Hp) (d:am) (e:List U5) (Q:St->Hp->Prop),Inv X c b H s->bh d e->t d b H Q ->
  VC 4#X X.A (assignInOrder ((assignEach ts X.env).map (·.2)) e) (λ_ g=>∃a f,Inv X c a f g/\Q a f) X.xe s
abbrev Sd:=V->V->V->Hp->(Hp->Prop)->Prop
noncomputable def Sh(X:Cx) (t:Sd):Prop :=
 ∀(b:List<|Vi×Obj) (s:Vm) (a:St) (H:Hp) (o i v:V) (c d u:U5) (Q:Hp->Prop),Inv X b a H s->bw o c->bw i d->bw v u->t o i v H Q ->
  VC 4#X X.A (setItem c d u) (λ_ f=>∃e,Inv X b a e f/\Q e) X.xe s
section
variable {X:Cx}{pos:Pos}
def Jm(i:Nat):TG:=λv a H Q=>Q (a.set i<|Wp v) H
def Eb(c:X.N.Nodup)(hi:X.N[i]?=Wp x)(a:Ka X.env.scope x)(b:X.fn x=VO∨X.env.scope.names.lookup x=Wp .local := by first|exact .inl rfl|exact .inr rfl|assumption):PG X (.Name x pos) (Jm i):=by
 intro f s e H v u Q I r h;exact wpAny_assign_Name<|lz I c hi a r (λg d=>⟨_,H,d,h⟩) b
def TQ:Qu:=λb a H Q=>b=[]/\Q a H
def RS(t:TG)(u:Qu):Qu:=λc b H Q=>∃v r,c=v::r/\t v b H λa d=>u r a d Q
def Lq:Gr X [] TQ:=by
 intro b s a H c d Q I r h;obtain⟨e,h⟩:=h;subst e;cases r;exact assignInOrder_nil ⟨a,H,I,h⟩
def Ib(m:PG X e t)(l:Gr X b u)
  (j:(assignEach (e::b) X.env).map (·.2)=assign e X.env::(assignEach b X.env).map (·.2):=by rfl):Gr X (e::b) (RS t u):=by
 intro c s d H q x Q I r h;obtain⟨v,w,n,h⟩:=h;subst n;cases r with
 |cons r g=>
  rw[j];refine assignInOrder_cons<|cM (m c s d H _ _ _ I r h) λ_ f z9=>?_;obtain⟨a,p,o,i⟩:=z9;exact l c f a p _ _ Q o g i
def TM(K:Va)(n:Nat)(t:Qu):TG:=λv b H Q=>∃a xs,v=.ref a/\nq K H a xs/\xs.length=n/\t xs b H Q
def OI{k:Nat}(x:X.calm=VO)(h:Gr X d t)
  (q:(assignEach d X.env).length=n:=by rfl)(c:(assignEach d X.env).findIdx? (·.1)=Wb:=by rfl):PG X (.Tuple d k pos) (TM X.K n t):=by
 intro g s f H v u Q I r hw;obtain⟨a,xs,z,p,w,hw⟩:=hw;subst z;cases r;obtain⟨j,i,m,C⟩:=I.tuple p;refine assign_Tuple_tuple (I.ok.hd x) m (by simp[q,←w,i.length]) c λy l=>?_;have A:Inv X g f H { s with heap:=y }:=I.kept (t':=s.toks) λb o e=>l b o (VM<|Vw e) e;exact h g _ f H xs _ Q A (by simpa using i) hw
def TN(b c:TE)(t:Sd):TG:=λv a H Q=>b a H λo f=>c a f λi e=>t o i v e λd=>Q a d
def Ic(z:PE X o e)(hi:PE X i f)(w:Sh X t)
  (A:∀v,assign (.Subscript o i pos) X.env v=(do
   let a ←Yk [v] (eval o X.env)
   let b ←Yk [v,a] (eval i X.env)
   standAt pos
   Yk [v,a,b] (setItem a b v)
   release [v,a,b] []):=by intro _;rfl):PG X (.Subscript o i pos) (TN e f t):=by
 intro d s c H v u Q I r h;rw[A];refine Vb<|WW<|cM (z d s c H _ I h) λa j ⟨x,L,E,m,q⟩=>?_;refine Vb<|WW<|cM (hi d j c L _ E q) λb g ⟨y,J,C,l,p⟩=>?_;refine Vb<|wpAny_standAt<|Vb<|WW<|cM (w d g c J x y v a b u _ C m l r p) λ_ M z9=>?_;obtain⟨G,B,n⟩:=z9;exact wpAny_release ⟨c,G,B,n⟩
def Oe(b:TE)(g:TG):TS:=λD a H=>b a H λx c=>g x a c D.nx
def Cy(m:PE X e c)(l:PG X tg g)(j:swapsWithSole [tg] e pos.line X.env=pure Vd:=by rfl)(hw:swappedStores [tg] e X.env=pure Wb:=by rfl)
  (n:(assignEach [tg] X.env).map (·.2)=[assign tg X.env]:=by rfl):PS X (.Assign [tg] e pos) (Oe c g):=by
 intro b s a H D I h;refine wpAny_Assign_stores (cM (m b s a H _ I h) λv d z9=>?_) j hw;obtain⟨x,p,o,f,i⟩:=z9;rw[n];exact cM (l b d a p x v _ o f i) λ_ r q=>q
def uo(n:X.N.Nodup)(hi:X.N[i]?=Wp x)(g:Ka X.env.scope x)(m:PE X e c)(j:WI e (Wp<|.Name x pos') pos.line X.env=pure Vd:=by rfl)(l:X.fn x=VO∨X.env.scope.names.lookup x=Wp .local := by first|exact .inl rfl|exact .inr rfl|assumption) :
  PS X (.Assign [.Name x pos'] e pos) (Oe c<|Jm i):=by
 intro b s a H D I h;refine wpAny_Assign_Name (cM (m b s a H _ I h) λv t z9=>?_) j;obtain⟨y,q,p,d,f⟩:=z9;exact lz p n hi g d (λr o=>⟨_,q,o,f⟩) l
def S7(i j:Nat)(c:TA):TS:=λD a H=>c a H λb d=>∃v w,b=[v,w]/\D.nx ((a.set i<|Wp v).set j<|Wp w) d
def OE{r n pt:Pos}{t k2 c}(hc:X.calm=VO)(J:X.N.Nodup)(hi:X.N[i]?=Wp x)(hj:X.N[j]?=Wp y)(z:i≠j)
  (G:X.env.scope.names.lookup x=Wp .local)(E:X.env.scope.names.lookup y=Wp .local)(ha:PA X [a,b] T)
  (hw:swappedStores [.Tuple [.Name x r,.Name y n] t pt] (.Tuple [a,b] k2 c) X.env=pure (Wp [x,y]))
  (hs:swapsWithSole [.Tuple [.Name x r,.Name y n] t pt] (.Tuple [a,b] k2 c) pos.line X.env=pure Vd:=by rfl) :
  PS X (.Assign [.Tuple [.Name x r,.Name y n] t pt] (.Tuple [a,b] k2 c) pos) (S7 i j T):=by
 intro C s B H D I h;rw[exec_Assign_arm];refine Vb<|wpAny_standAt ?_;rw[hs];refine Vb<|VE ?_;rw[eo 0#1];refine Vb<|Tuple_<|cM (ha _ C s B H _ I h) λQ g z9=>?_;obtain⟨vs,O,I1,r1,m⟩:=z9;obtain⟨v,w,e1,m⟩:=m;subst e1;obtain⟨f,d,rfl,Y,l⟩:∃f d,Q=[f,d]/\bw v f/\bw w d:=by
  cases r1 with
  |cons p q=>
   cases q with
   |cons p' q'=>
    cases q';exact⟨_,_,rfl,p,p'⟩
 refine wpAny_newObj_type ?_ (by show 2<=sizeLine;decide);have I2:Inv X C B O { g with heap:=g.heap.push { cls:=.type "tuple",data:=.seq [f,d].toArray } }:=I1.kept (t':=g.toks) λb o e=>Vc _ e;rw[hw];refine Vb<|VE ?_;show VC 4#X X.A (do rule "assign.swapped-stores";let items ←unpackItems (.ref 2#g) 2 Wb;assignInOrder [λv=>bindName X.env y v,λv=>bindName X.env x v] items.reverse;pure Flow.next) _ _ _;refine Vb<|wpAny_rule<|Vb<|unpackItems_tuple (items:=#[f,d]) (I.ok.hd hc) (sae g.heap _) λL u=>?_;have I3:=I2.kept (h':=L) (t':=g.toks) λb o e=>u b o (VM<|Vw e) e;show VC _ _ (assignInOrder [λv=>bindName X.env y v,λv=>bindName X.env x v] [d,f] >>= λ_=>pure Flow.next) _ _ _;refine Vb<|assignInOrder_cons<|wpAny_bindName<|lz I3 J hj (.inl E) l (λs2 I4=>?_)<|.inr E;refine assignInOrder_cons<|wpAny_bindName<|lz I4 J hi (.inl G) Y (λs3 M=>assignInOrder_nil<|VE ?_)<|.inr G;rw[List.set_comm _ _ (V6 z)]at M;exact⟨_,O,M,m⟩
end
section
variable {X:Cx}{pos:Pos}
def Ob(c:TT)(tb:TS):TS:=λD a H=>∃W:Nat->St->Hp->Prop,(∃m,W m a H)/\∀m a H,W m a H ->
 c a H λb f=>if b=VO then ∃N:St->Hp->Prop,(∀d g,N d g->∃e,e < m/\W e d g)/\tb { D with nx:=N,ct:=N,bk:=D.nx } a f else D.nx a f
def HV(t:PassesOwn 4#X X.A X.env X.xe)(T:PT X c J)(U:z8 X body tb):PS X (.While c body [] pos) (Ob J tb):=by
 intro j s C H D I h;obtain⟨W,⟨Q,G⟩,turn⟩:=h;refine wpAny_While<|codeAny_whileLoop (λn O=>∃e B,Inv X j e B O/\W n e B) ?_ Q ⟨C,H,I,G⟩;rintro n M ⟨d,z,Y,E⟩;refine wpAny_passesOwn t<|cM (T j M d z _ Y (turn n d z E)) λb L z9=>?_;obtain⟨y,x,i⟩:=z9;cases b with
 |true=>
  obtain⟨N,u,i⟩:=i;rw[ef rfl];refine wpAny_passesOwn t<|cM (U j L d y _ x i) λf s3 m=>?_;cases f with
  |next=>
   obtain⟨a,g,r,o⟩:=m;obtain⟨p,q,l⟩:=u a g o;exact⟨p,q,a,g,r,l⟩
  |cont=>
   obtain⟨a,g,r,o⟩:=m;obtain⟨p,q,l⟩:=u a g o;exact⟨p,q,a,g,r,l⟩
  |brk|ret v=>exact m
 |false=>
  rw[eo WL];exact wpAny_execs_nil ⟨d,y,x,i⟩
end
structure It where
 go:Nat->Hp->Prop
 yld:Nat->Hp->V->Hp->Prop
 stop:Nat->Hp->Prop
def rn(X:Cx)(a:List<|Vi×Obj)(H:Hp)(b:Vi):Prop :=
 H b=Wb/\b≠X.env.locals/\b∉X.fs/\(b∈X.ex∨X.sf.heap.objs.size<=b)/\(∀x c,X.env.cells.lookup x=Wp c->c≠b)/\∀p∈X.pn++a,p.1≠b
def Inv.fpOk(I:Inv X d i H s)(a:2#s<=b)(g:H' b=Wb):rn X d H' b:=by
 refine⟨g,sal (Vk I.lt a),I.nofs a,.inr (Vr I.sz a),λx c e z=>?_,λp f z=>?_⟩
 .obtain⟨v,q⟩:=I.cell x c e
  exact er (Vk q.lt (by rw[z];exact a))<|Xn _
 .exact er (Vk (Vw (I.pin p f).1) (by rw[z];exact a))<|Xn _
structure Dw (P:V5) (w:Wx) (K:Va) (tg:V4) (J:It) (fp:List Vi) (it:Vi) (tn:Nat->Vu->Prop):Prop where
 mem:it∈fp
 obj:∀i h,tn i h->∀b∈fp,∃o,h.get? b=Wp o/\∀v,o.data≠.cell v
 keep:∀i h h',tn i h->(∀b∈fp,∀o,h.get? b=Wp o->h'.get? b=Wp o)->tn i h'
 item:∀(X:Cx),X.prog=P->X.w=w->X.K=K->X.calm=VO->∀(i:Nat) (π:List (Vi×Obj)) (s:Vm) (σ:St) (H:Hp) (E:U5->Vm->Prop),Inv X π σ H s->(∀b∈fp,rn X π H b)->tn i s.heap->J.go i H ->
  VC (Vy P w) X.A (pyNext (.ref it)) (λr s1=>∃u,r=Wp u /\
   VC (Vy P w) X.A (letOwnedTupleGo tg (.ref it) u) (λ_ s2=>∃x H',Inv X π σ H' s2/\bw x u/\J.yld i H x H'/\tn (i+1) s2.heap/\∀b∈fp,H' b=Wb) E s1) E s
 done:∀(X:Cx),X.prog=P->X.w=w->X.K=K->X.calm=VO->∀(i:Nat) (π:List (Vi×Obj)) (s:Vm) (σ:St) (H:Hp) (E:U5->Vm->Prop),Inv X π σ H s->(∀b∈fp,rn X π H b)->tn i s.heap->J.stop i H ->
  VC (Vy P w) X.A (pyNext (.ref it)) (λr s1=>r=Wb/\Inv X π σ H s1) E s
 self:∀(A:Wh) (i:Nat) (s:Vm) (Q:U5->Vm->Prop) (E:U5->Vm->Prop),tn i s.heap->Q (.ref it) s->VC (Vy P w) A (pyIter (.ref it)) Q E s
abbrev TI:=St->Hp->(It->Hp->Prop)->Prop
noncomputable def Ua(X:Cx) (d:List<|Vi×Obj) (i:St) (tg:V4) (R:It->Hp->Prop) (a:U5) (s2:Vm):Prop :=
 ∃(f:Vi) (g:List Vi) (e:Nat->Vu->Prop) (J:It) (c:Hp),a=.ref f/\Inv X d i c s2/\Dw X.prog X.w X.K tg J g f e/\e 0 s2.heap/\(∀b∈g,rn X d c b)/\R J c
noncomputable def PI(X:Cx) (tg iter:V4) (c:TI):Prop :=
 ∀(b:List<|Vi×Obj) (s:Vm) (a:St) (H:Hp) (R:It->Hp->Prop),Inv X b a H s->c a H R ->
  VC 4#X X.A (eval iter X.env) (λv d=>VC 4#X X.A (pyIter v) (Ua X b a tg R) X.xe d) X.xe s
def Ew(b:s.heap.get? it=Wp o)(d:o.cls=.type n)(hd:o.data=.fields vs)
  (c:["enumerate","zip","dict_itemiterator","dict_reverseitemiterator","odict_iterator","itertools.zip_longest","itertools.pairwise"].contains n=Vd)(a:Q () s):VC M A (letOwnedTupleGo tg (.ref it) u) Q E s:=by
 unfold letOwnedTupleGo;cases tg<;>first
  |exact VE a
  |(cases u<;>first
    |exact VE a
    |(refine Vb<|wpAny_load b ?_;rw[d,hd];show VC M A (if(["enumerate","zip","dict_itemiterator","dict_reverseitemiterator","odict_iterator","itertools.zip_longest","itertools.pairwise"].contains n&&vs[0]?==Wp (rawInt _))=VO then _ else _) Q E s;rw[eo (by intro h;rw[c,WE]at h;cases h)];exact VE a))
def So(K:Va)(a:Vi):It :=
 ⟨λi H=>∃xs x,fm K H a xs/\xs[i]?=Wp x,λi H x b=>b=H/\∀xs,fm K H a xs->xs[i]?=Wp x,λi H=>∃xs,fm K H a xs/\xs.length<=i⟩
def Qi(lo:Int)(n:Nat):It:=⟨λi _=>i<n,λi H x a=>a=H/\x=.int (lo+i),λi _=>n<=i⟩
def E4{P:V5}{w:Wx}{K:Va}{tg:V4}(a it:Vi):Dw P w K tg (So K a) [it] it (λi h=>h.IsListIter it a i) where
 mem:=by simp
 obj:=λi h st b hb=>by
  have e:b=it:=by simpa using hb
  subst e;obtain⟨o,e,c,d⟩:=st;exact⟨o,e,λv z=>by rw[d]at z;cases z⟩
 keep:=λi h h' st k=>st.at λo e=>k it 0#3 o e
 item:=by
  intro X hP hw hK hc i π s σ H E I hf st hg;subst hP hw hK;obtain⟨xs,x,hq,hx⟩:=hg;obtain⟨its,rv,p,hz⟩:=I.list hq;obtain⟨u,hu,ru⟩:=rv.get hx;obtain⟨f0,f1,f2,f3,f4,f5⟩:=hf it 0#3;refine wpAny_pyNext_list_item st p.isList (x:=u) (by simpa using hu) λh' st' sb=>?_;have I1:Inv X π σ H { s with heap:=h' }:=I.turned (t':=s.toks) (λb o hb e=>(sb.2 b hb).trans e) f0 f1 f3 f4 f5;obtain⟨o,e,c,d⟩:=id st';exact⟨u,rfl,Ew (s:={ s with heap:=h' }) e c d 0#1 ⟨x,H,I1,ru,⟨rfl,λys hy=>by rw[I.list_inj hy hq];exact hx⟩,st',λb hb=>(hf b hb).1⟩⟩
 done:=by
  intro X hP hw hK hc i π s σ H E I hf st hg;subst hP hw hK;obtain⟨xs,hq,hx⟩:=hg;obtain⟨its,rv,p,hz⟩:=I.list hq;obtain⟨f0,f1,f2,f3,f4,f5⟩:=hf it 0#3;have hl:=rv.length;exact wpAny_pyNext_list_end (I.ok.hd hc) st p.isList (by simp;omega) λh' eb=>⟨rfl,I.turned (t':=s.toks) (λb o hb e=>eb b o hb e) f0 f1 f3 f4 f5⟩
 self:=λ_ _ _ _ _ st h=>wpAny_pyIter_listiter st h
def Cb{P:V5}{w:Wx}{K:Va}{tg:V4}(it:Vi)(lo:Int)(n:Nat):Dw P w K tg (Qi lo n) [it] it (λi h=>IsRangeIter h it (lo+(i:Nat)*1) ((n:Int)-(i:Nat)) 1) where
 mem:=by simp
 obj:=λi h st b hb=>by
  have e:b=it:=by simpa using hb
  subst e;exact⟨_,st,λv z=>by
   have z':Data.fields _=Data.cell v:=z;cases z'⟩
 keep:=λi h h' st k=>k it 0#3 _ st
 item:=by
  intro X hP hw hK hc i π s σ H E I hf st hg;subst hP hw hK;obtain⟨f0,f1,f2,f3,f4,f5⟩:=hf it 0#3;have W:=Walks.range (prog:=X.prog) (w:=X.w) (I.ok.hd hc) it lo 1 n;refine W.item i s _ _ hg st λv h' tk hv st' kk=>?_;obtain⟨t,rfl⟩:=hv;have I1:Inv X π σ H { s with heap:=h',toks:=tk }:=I.turned (λb o hb e=>kk b o (by simpa using hb) e) f0 f1 f3 f4 f5;refine⟨_,rfl,Ew (s:={ s with heap:=h',toks:=tk }) (n:="range_iterator") st' rfl rfl 0#1 ⟨.int (lo+i),H,I1,⟨t,?_⟩,⟨rfl,rfl⟩,st',λb hb=>(hf b hb).1⟩⟩;rw[Int.mul_one]
 done:=by
  intro X hP hw hK hc i π s σ H E I hf st hg;subst hP hw hK;obtain⟨f0,f1,f2,f3,f4,f5⟩:=hf it 0#3;exact wpAny_pyNext_range_end (I.ok.hd hc) st (by have:n<=i:=hg;omega) λh' eb=>⟨rfl,I.turned (t':=s.toks) (λb o hb e=>eb b o hb e) f0 f1 f3 f4 f5⟩
 self:=λ_ _ _ _ _ st h=>wpAny_pyIter_rangeiter st h
section
variable {X:Cx}{tg:V4}
def RN(K:Va)(d:TE):TI:=λc H R=>d c H λx b=>∃a,x=.ref a/\(∃xs,fm K b a xs)/\R (So K a) b
def Ea(t:PE X l i):PI X tg l (RN X.K i):=by
 intro g s f H R I h;refine cM (t g s f H _ I h) λv c ⟨x,w,d,j,m⟩=>?_;obtain⟨a,e,⟨xs,r⟩,q⟩:=m;subst e;cases j;obtain⟨n,z,p,A⟩:=d.list r;refine wpAny_pyIter_list p.isList ?_;refine⟨2#c,[2#c],_,_,w,rfl,d.kept (t':=c.toks) λb o e=>Vc _ e,E4 a _,⟨_,V1 _ rfl,rfl,rfl⟩,λb u=>?_,q⟩;have e:b=2#c:=by simpa using u
 subst e;exact d.fpOk (VB _)<|d.hok.fresh<|VB _
def HM{lo hi:Int}(I:Inv X d c H s)(m:-(2 ^ 62)<=lo)(l:lo<2 ^ 62)(j:-(2 ^ 62)<=hi)(i:hi<2 ^ 62)
  (q:R (Qi lo (hi-lo).toNat) H):VC 4#X X.A (pyIter<|.ref 2#s) (Ua X d c tg R) E { s with heap:=s.heap.push { cls:=.type "range",data:=.fields #[.int lo t,.int hi u,.int 1 v] },toks:=f }:=by
 refine wpAny_pyIter_range (IsRange.new ..) (small_one m l j i) ?_;have a:Inv X d c H { s with heap:=s.heap.push { cls:=.type "range",data:=.fields #[.int lo t,.int hi u,.int 1 v] },toks:=f }:=I.kept λb o e=>Vc _ e;refine⟨(s.heap.push { cls:=.type "range",data:=.fields #[.int lo t,.int hi u,.int 1 v] }).objs.size,[(s.heap.push { cls:=.type "range",data:=.fields #[.int lo t,.int hi u,.int 1 v] }).objs.size],_,_,H,rfl,
  a.kept (t':=f) λb o e=>Vc _ e,Cb _ lo (hi-lo).toNat,?_,λb g=>?_,q⟩
 .have p:lo+((0:Nat):Int)*1=lo:=by simp
  have n:(((hi-lo).toNat:Nat):Int)-((0:Nat):Int)=Builtin.Range.rangeSize lo hi 1:=by rw[rangeSize_one];split<;>omega
  show IsRangeIter _ _ (lo+((0:Nat):Int)*1) ((((hi-lo).toNat:Nat):Int)-((0:Nat):Int)) 1;rw[p,n];exact V1 _ rfl
 .have e:b=(s.heap.push { cls:=.type "range",data:=.fields #[.int lo t,.int hi u,.int 1 v] }).objs.size:=by simpa using g
  subst e;exact a.fpOk (VB _)<|a.hok.fresh<|VB _
def RM(c:TA):TI:=λa H R=>c a H λb d=>∃j:Int,b=[.int j]/\-(2 ^ 62)<=j/\j<2 ^ 62/\R (Qi 0 j.toNat) d
def xR(o:Gl X "range")(n:X.mg "range"=Wb)(u:PA X [a] f)(m:Vg [a] X.env=[(Vd,eval a X.env)]:=by rfl):PI X tg (.Call (.Name "range" p) [a] [] pos) (RM f):=by
 intro d s c H R I h;refine Call_<|qO I o n boot_range<|XW (cM (u pos d s c H _ I h) λx y z9=>?_) m rfl;obtain⟨w,z,v,i,b⟩:=z9;obtain⟨j,e,b,l,q⟩:=b;subst e;cases i with
 |cons r g=>
  cases g;obtain⟨t,rfl⟩:=r;exact call_range_1 (HM v 0#2 0#2 b l<|by simpa using q)
noncomputable def Td(f:TI) (g:TG) (tb:TS):TS:=λD a H=>f a H λJ l=>∃W:Nat->Nat->St->Hp->Prop,(∃m,W 0 m a l)/\∀i m a H,W i m a H ->
 (J.stop i H/\D.nx a H)∨(J.go i H/\∃N:St->Hp->Prop,(∀b c,N b c->∃e,e < m/\W (i+1) e b c)/\∀x c,J.yld i H x c->g x a c λd j=>tb { D with nx:=N,ct:=N,bk:=D.nx } d j)
def ur(a:List Vi)(h:Vu):List (Vi×Obj):=a.filterMap λb=>(h.get? b).map λo=>(b,o)
def kF{h:Vu}(a:b∈c)(e:h.get? b=Wp o):(b,o)∈ur c h:=Xc.mpr ⟨b,a,by rw[e];rfl⟩
def Fx{h:Vu}(a:p∈ur d h):p.1∈d/\h.get? p.1=Wp p.2:=by
 obtain⟨b,c,e⟩:=Xc.mp a;cases q:h.get? b with
 |none=>rw[q]at e;cases e
 |some o=>
  rw[q]at e;have f:(b,o)=p:=V8 e;subst f;exact⟨c,q⟩
def Inv.pinned(I:Inv X a i H s)(m:∀b∈f,rn X a H b)(l:∀b∈f,∃o,s.heap.get? b=Wp o/\∀v,o.data≠.cell v):Inv X (a++ur f s.heap) i H s :=
 I.pins_of λp j=>(VH.mp j).elim (λz=>I.pin p (VS _ z)) λz=>by
  obtain⟨c,e⟩:=Fx z;obtain⟨r,q,n,_⟩:=m p.1 c;obtain⟨o,g,d⟩:=l p.1 c;rw[e]at g;cases g;exact⟨e,r,q,n,d⟩
def Inv.unpinned(I:Inv X (b++pl) a H s):Inv X b a H s:=I.pins_of λp c=>I.pin p<|VS _<|Wm _ c
def Cw(E:PassesOwn 4#X X.A X.env X.xe)(hc:X.calm=VO)(hi:PI X tg iter wi)(hg:PG X tg g)(l:z8 X body tb)
  (hs:∀x,foldedSetIterable iter X.env x=pure x:=by intro _;rfl):PS X (.For tg iter body [] pos) (Td wi g tb):=by
 intro y s σ H D I h;refine wpAny_For (cM (hi y s σ H _ I h) λv s1 h1=>cM h1 λan s2 h2=>?_) hs;obtain⟨it,L,tn,J,H2,e,I2,T,Q,f2,W,⟨m0,w0⟩,turn⟩:=h2;subst e;have stat:∀{q:Hp},(∀b∈L,q b=Wb)->∀b∈L,rn X y q b:=λhn b l=>⟨hn b l,(f2 b l).2⟩
 refine codeAny_forLoop_any (λn s'=>∃i j q,Inv X y j q s'/\tn i s'.heap/\(∀b∈L,q b=Wb)/\W i n j q) ?_ m0 ⟨0,σ,H2,I2,Q,λb l=>(f2 b l).1,w0⟩;rintro n s3 ⟨i,c,M,I3,C,G,w3⟩;rcases turn i n c M w3 with⟨stop,qn⟩|⟨go,N,hN,step⟩
 .refine wpAny_passesOwn E (cM (T.done X rfl rfl rfl hc i y s3 c M X.xe I3 (stat G) C stop) λr s4 ⟨hr,I4⟩=>?_)
  subst hr;exact wpAny_execs_nil ⟨c,M,I4,qn⟩
 .refine wpAny_passesOwn E (cM (T.item X rfl rfl rfl hc i y s3 c M X.xe I3 (stat G) C go) λr s4 ⟨u,hr,h4⟩=>?_)
  subst hr;refine wpAny_passesOwn E<|cM h4 λ_ s5 ⟨x,H5,I5,r5,y5,z,ab⟩=>?_;have al:=I5.pinned (stat ab)<|T.obj _ _ z;refine wpAny_passesOwn E<|cM (hg _ s5 c H5 x u _ al r5 (step x H5 y5)) λ_ s6 ⟨O,H6,I6,q6⟩=>?_;refine wpAny_passesOwn E<|cM (l _ s6 O H6 _ I6 q6) λf U B=>?_;have again:∀{a:St}{p:Hp},Inv X (y++ur L s5.heap) a p U->N a p->∃m,m<n/\∃i j q,Inv X y j q U/\tn i U.heap/\(∀b∈L,q b=Wb)/\W i m j q:=λ{a p} t Y=>by
   obtain⟨m',hm,w7⟩:=hN a p Y;refine⟨m',hm,i+1,a,p,t.unpinned,T.keep _ _ _ z λb l o e=>(t.pin (b,o) (VS _ (VS _ (kF l e)))).1,λb l=>?_,w7⟩;obtain⟨o,e,d⟩:=T.obj _ _ z b l;exact(t.pin (b,o)<|VS _<|VS _<|kF l e).2.1
  cases f with|next|cont=>obtain⟨a,p,t,Y⟩:=B;exact again t Y|brk=>obtain⟨a,p,t,B⟩:=B;exact⟨a,p,t.unpinned,B⟩|ret v=>obtain⟨x7,a,p,t,r7,B⟩:=B;exact⟨x7,a,p,t.unpinned,r7,B⟩
end
def Jp{K:Va}{g:TG}{tb:TS}{D:rq}(Pv:Nat->St->Hp->Prop)(t:Pv 0 b H)(r:∀i b H,i<=xs.length->Pv i b H->fm K H a xs)
  (o:∀i x b H,xs[i]?=Wp x->Pv i b H->g x b H λc j=>tb { D with nx:=Pv<|i+1,ct:=Pv<|i+1,bk:=D.nx } c j)(hd:∀b H,Pv xs.length b H->D.nx b H) :
  ∃W:Nat->Nat->St->Hp->Prop,(∃m,W 0 m b H)/\∀i m b H,W i m b H ->
   ((So K a).stop i H/\D.nx b H)∨((So K a).go i H/\∃N:St->Hp->Prop,(∀d H',N d H'->∃l,l < m/\W (i+1) l d H')/\∀x H',(So K a).yld i H x H'->g x b H' λc j=>tb { D with nx:=N,ct:=N,bk:=D.nx } c j):=by
 refine⟨λi m b H=>m=xs.length-i/\i<=xs.length/\Pv i b H,⟨xs.length,by simp,Yj _,t⟩,?_⟩;rintro i m b H ⟨rfl,s,p⟩;have q:=r i b H s p
 by_cases f:i<xs.length
 .refine .inr ⟨⟨xs,xs[i],q,by simp[f]⟩,Pv (i+1),λd H' n=>⟨xs.length-(i+1),by omega,rfl,f,n⟩,λx H' y=>?_⟩
  obtain⟨e,y⟩:=y;subst e;exact o i x b _ (y xs q) p
 .have e:i=xs.length:=by omega
  subst e;exact .inl ⟨⟨xs,q,VB _⟩,hd b H p⟩
def FQ{lo:Int}{g:TG}{tb:TS}{D:rq}(Pv:Nat->St->Hp->Prop)(q:Pv 0 a H)
  (o:∀i a H,i<n->Pv i a H->g (.int (lo+i)) a H λb f=>tb { D with nx:=Pv<|i+1,ct:=Pv<|i+1,bk:=D.nx } b f)(hd:∀a H,Pv n a H->D.nx a H) :
  ∃W:Nat->Nat->St->Hp->Prop,(∃m,W 0 m a H)/\∀i m a H,W i m a H ->
   ((Qi lo n).stop i H/\D.nx a H)∨((Qi lo n).go i H/\∃N:St->Hp->Prop,(∀c H',N c H'->∃j,j < m/\W (i+1) j c H')/\∀x H',(Qi lo n).yld i H x H'->g x a H' λb f=>tb { D with nx:=N,ct:=N,bk:=D.nx } b f):=by
 refine⟨λi m a H=>m=n-i/\i<=n/\Pv i a H,⟨n,by simp,Yj _,q⟩,?_⟩;rintro i m a H ⟨rfl,r,p⟩
 by_cases d:i<n
 .refine .inr ⟨d,Pv (i+1),λc H' l=>⟨n-(i+1),by omega,rfl,d,l⟩,λx H' y=>?_⟩
  obtain⟨e,y⟩:=y;subst e y;exact o i a _ d p
 .have e:i=n:=by omega
  subst e;exact .inl ⟨VB _,hd a H p⟩
abbrev R2:=V->V->Hp->VK->Prop
def ia(X:Cx)(f:U5->U5->Sem U5)(r:R2):Prop :=
 ∀(b:List<|Vi×Obj) (s:Vm) (a:St) (H:Hp) (x y:V) (v u:U5) (Q:VK),Inv X b a H s->bw x v->bw y u->r x y H Q ->
  VC 4#X X.A (f v u) (EP X b a Q) X.xe s
def SK(X:Cx)(f:U5->Sem U5)(r:V->Hp->VK->Prop):Prop :=
 ∀(b:List<|Vi×Obj) (s:Vm) (a:St) (H:Hp) (x:V) (v:U5) (Q:VK),Inv X b a H s->bw x v->r x H Q ->
  VC 4#X X.A (f v) (EP X b a Q) X.xe s
def ku(X:Cx)(f:U5)(r:am->Hp->VK->Prop):Prop :=
 ∀(b:List<|Vi×Obj) (s:Vm) (a:St) (H:Hp) (xs:am) (c:List U5) (Q:VK),Inv X b a H s->bh xs c->r xs H Q ->
  VC 4#X X.A (call f c) (EP X b a Q) X.xe s
def U4(X:Cx)(r:V->Hp->(Bool->Hp->Prop)->Prop):Prop :=
 ∀(b:List<|Vi×Obj) (s:Vm) (a:St) (H:Hp) (x:V) (v:U5) (Q:Bool->Hp->Prop),Inv X b a H s->bw x v->r x H Q ->
  VC 4#X X.A (truthy v) (TP X b a Q) X.xe s
def QJ(r:R2)(b tb:TE):TE:=λa H Q=>b a H λx d=>tb a d λy c=>r x y c Q
def UD(r:V->Hp->VK->Prop)(b:TE):TE:=λa H Q=>b a H λx c=>r x c Q
def rI(C:Int->Int->Prop)(g:Int->Int->V):R2:=λx y H Q=>∃i j,x=.int i/\y=.int j/\C i j/\Q (g i j) H
def Kl(g:Int->Int->V):R2:=λx y H Q=>∃i j,x=.int i/\y=.int j/\Q (g i j) H
def rU(g:Int->V):V->Hp->VK->Prop:=λx H Q=>∃i,x=.int i/\Q (g i) H
section
variable {X:Cx}{a b c:V4}{ta tb tc:TE}{pos:Pos}
def P0(t:PE X a ta)(r:PE X b tb){R:V->V->Hp->Prop}(I:Inv X g e H s)
  (h:ta e H λx H1=>tb e H1 λy d=>R x y d){f:U5->U5->Sem U5}
  (q:∀v u s2 x y d,Inv X g e d s2->bw x v->bw y u->R x y d->VC 4#X X.A (f v u) Q X.xe s2) :
  VC 4#X X.A (eval a X.env) (λv j=>VC 4#X X.A (eval b X.env) (λu i=>VC 4#X X.A (f v u) Q X.xe i) X.xe j) X.xe s:=by
 refine cM (t g s e H _ I h) λv l ⟨x,H1,B,n,p⟩=>?_;refine cM (r g l e H1 _ B p) λu s2 ⟨y,d,z,m,o⟩=>?_;exact q v u s2 x y d z n m o
def Ig(l:ia X (binaryOp j) r)(n:PE X a ta)(m:PE X b tb):PE X (.BinOp a j b pos) (QJ r ta tb):=by
 intro e s d H Q I h;exact wpAny_BinOp<|P0 n m I h λv u f x y p o i g q=>l e f d p x y v u Q o i g q
def Nu(l:SK X (unaryOp j) r)(m:PE X a ta):PE X (.UnaryOp j a pos) (UD r ta):=by
 intro e s d H Q I h;exact UnaryOp_<|cM (m e s d H _ I h) λv f ⟨x,o,n,g,i⟩=>l e f d o x v Q n g i
def SA{g:Int->Int->Int}
  (rule:∀(i j:Int) (t u:Tok) (s:Vm) (Q:U5->Vm->Prop) (E:U5->Vm->Prop),C i j->Q (.int (g i j) s.toks) { s with toks:=s.toks+1 }->VC 4#X X.A (f (.int i t)<|.int j u) Q E s) :
  ia X f (rI C λi j=>.int<|g i j):=by
 intro o s n H x y v u Q I l e h;obtain⟨i,j,rfl,rfl,m,q⟩:=h;obtain⟨t,rfl⟩:=l;obtain⟨d,rfl⟩:=e;exact rule i j t d s _ _ m ⟨.int<|g i j,H,I.tok _,⟨_,rfl⟩,q⟩
def Ry{g:Int->Int->Int}
  (rule:∀(i j:Int) (t u:Tok) (s:Vm) (Q:U5->Vm->Prop) (E:U5->Vm->Prop),Q (.int (g i j) s.toks) { s with toks:=s.toks+1 }->VC 4#X X.A (f (.int i t)<|.int j u) Q E s) :
  ia X f (Kl λi j=>.int<|g i j):=by
 intro n s m H x y v u Q I l e h;obtain⟨i,j,rfl,rfl,q⟩:=h;obtain⟨t,rfl⟩:=l;obtain⟨d,rfl⟩:=e;exact rule i j t d s _ _ ⟨.int<|g i j,H,I.tok _,⟨_,rfl⟩,q⟩
def LI{g:Int->Int->Bool}
  (rule:∀(i j:Int) (t u:Tok) (s:Vm) (Q:U5->Vm->Prop) (E:U5->Vm->Prop),Q (.bool<|g i j) s->VC 4#X X.A (f (.int i t)<|.int j u) Q E s) :
  ia X f (Kl λi j=>.bl<|g i j):=by
 intro n s m H x y v u Q I l e h;obtain⟨i,j,rfl,rfl,q⟩:=h;obtain⟨t,rfl⟩:=l;obtain⟨d,rfl⟩:=e;exact rule i j t d s _ _ ⟨.bl<|g i j,H,I,rfl,q⟩
def Uc(i j:Int):Prop:=0<=j/\j<=1000000/\i.natAbs<2 ^ 64
def Ss(i j:Int):Prop:=(-(2 ^ 64)<i/\i<2 ^ 64)∨(-(2 ^ 64)<j/\j<2 ^ 64)
def Ss.ok(h:Ss i j):IntMulOk i j:=by
 rcases h with⟨e,d⟩|⟨e,d⟩
 .exact .of_left<|intBits_le_64 e d
 .exact .of_right<|intBits_le_64 e d
def OV:ia X (binaryOp .Add) (Kl λi j=>.int<|i+j):=Ry λ_ _ _ _ _ _ _ q=>add_int q
def OR:ia X (binaryOp .Sub) (Kl λi j=>.int<|i-j):=Ry λ_ _ _ _ _ _ _ q=>sub_int q
def LF:ia X (binaryOp .Mod) (rI (λ_ j=>j≠0) λi j=>.int<|i.fmod j):=SA λ_ _ _ _ _ _ _ d q=>mod_int' d q
def OT:ia X (binaryOp .Pow) (rI Uc λi j=>.int<|i ^ j.toNat):=SA λ_ _ _ _ _ _ _ d q=>pow_int_small d.1 d.2.1 d.2.2 q
def UA{g:Int->Int}
  (rule:∀(i:Int) (t:Tok) (s:Vm) (Q:U5->Vm->Prop) (E:U5->Vm->Prop),Q (.int (g i) s.toks) { s with toks:=s.toks+1 }->VC 4#X X.A (f<|.int i t) Q E s) :
  SK X f (rU λi=>.int<|g i):=by
 intro j s e H x v Q I d h;obtain⟨i,rfl,q⟩:=h;obtain⟨t,rfl⟩:=d;exact rule i t s _ _ ⟨.int<|g i,H,I.tok _,⟨_,rfl⟩,q⟩
def GR:SK X (unaryOp .USub) (rU λi=>.int (-i)):=UA λ_ _ _ _ _ q=>neg_int q
end
section
variable {X:Cx}{a b c:V4}{ta tb tc:TE}{pos:Pos}
def De{k d:Bool}(I:Inv X g f H s)(q:Q (.bl k) H)(e:k=d):EP X g f Q (.bool d) s:=by
 subst e;exact⟨.bl k,H,I,rfl,q⟩
def ux:ia X (Wf .Lt) (Kl λi j=>.bl (decide (i<j))):=LI λ_ _ _ _ _ _ _ q=>lt_int q
def xU:ia X (Wf .LtE) (Kl λi j=>.bl (decide (i<=j))):=LI λ_ _ _ _ _ _ _ q=>le_int q
def AM:ia X (Wf .Gt) (Kl λi j=>.bl (decide (j<i))):=LI λ_ _ _ _ _ _ _ q=>gt_int q
def Eg:ia X (Wf .GtE) (Kl λi j=>.bl (decide (j<=i))):=LI λ_ _ _ _ _ _ _ q=>ge_int q
def Fs:ia X (Wf .In) (λx y H Q=>∃i j,x=.str i/\y=.str j/\Q (.bl (!(Y4 j i 0 j.length 1).isEmpty)) H):=by
 intro g s f H x y v u Q I e d h;obtain⟨i,j,rfl,rfl,q⟩:=h;obtain⟨t,rfl⟩:=e;obtain⟨l,rfl⟩:=d;exact in_str<|De I q rfl
def zg:ia X (Wf .Is) (λx y H Q=>y=.non/\Q (.bl (decide (x=.non))) H):=by
 intro g s f H x y v u Q I d e h;obtain⟨rfl,q⟩:=h;cases e;refine is_none_gen<|De I q ?_;cases x<;>first
  |(cases d;rfl)
  |(obtain⟨t,rfl⟩:=d;rfl)
def sX:ia X (Wf .IsNot) (λx y H Q=>y=.non/\Q (.bl (!decide (x=.non))) H):=by
 intro g s f H x y v u Q I d e h;obtain⟨rfl,q⟩:=h;cases e;refine isnot_none_gen<|De I q ?_;cases x<;>first
  |(cases d;rfl)
  |(obtain⟨t,rfl⟩:=d;rfl)
def ia.or(h:ia X f r)(h':ia X f j):ia X f (λx y H Q=>r x y H Q∨j x y H Q):=by
 intro e s d H x y v u Q I i g q;rcases q with q|q
 .exact h e s d H x y v u Q I i g q
 .exact h' e s d H x y v u Q I i g q
def Lx(l:ia X (Wf d) r)(o:PE X a ta)(n:PE X b tb)(m:behindInMarks d b=Vd):PE X (.Compare a [d] [b] pos) (QJ r ta tb):=by
 intro f s e H Q I h;exact wpAny_Compare1 (P0 o n I h λv u g x y t p j i q=>l f g e t x y v u Q p j i q) m
def Ni(t:TE):TT:=λd H Q=>t d H λx e=>∃k,x=.bl k/\Q k e
def Lg(t:ia X (Wf g) r)(B:PE X a ta)(A:PE X b tb)(w:behindInMarks g b=Vd):PT X (.Compare a [g] [b] pos) (Ni<|QJ r ta tb):=by
 intro f s d H Q I h;refine wpAny_isTrue_Compare1 (cM (B f s d H _ I h) λv j ⟨x,M,G,n,q⟩=>cM (A f j d M _ G q) λu i ⟨y,L,E,m,p⟩ =>
  cM (t f i d L x y v u _ E n m p) λc N ⟨z,J,C,l,k,e,o⟩=>?_) w
 subst e;cases l;exact WX ⟨J,C,o⟩
def Cf(r g:R2)(ta tb tc:TE):TE:=λd H Q=>ta d H λx l=>tb d l λy j=>r x y j λz e=>∃k,z=.bl k /\
 (if k=VO then tc d e λf i=>g y f i Q else Q (.bl Vd) e)
def Il(T:ia X (Wf n) r)(j:ia X (Wf i) L)(ha:PE X a ta)(hb:PE X b tb)(Y:PE X c tc)
  (U:lastMarks [n,i] [b,c]=Vd:=by with_unfolding_all rfl):PE X (.Compare a [n,i] [b,c] pos) (Cf r L ta tb tc):=by
 intro g s f H Q I h;refine Compare_chain (cM (ha g s f H _ I h) λv C ⟨x,H1,I1,J,O⟩=>chain_link (cM (hb g C f H1 _ I1 O) λu B ⟨y,H2,I2,l,N⟩ =>
  cM (T g B f H2 x y v u _ I2 J l N) λd A ⟨z,p,o,G,k,e,m⟩=>?_)) U
 subst e;cases G;refine WX ?_;cases k with|false=>exact ite_ff ⟨.bl Vd,p,o,rfl,m⟩|true=>exact ite_tt<|chain_last<|cM (Y g A f p _ o m) λt w ⟨q,H4,I4,E,M⟩=>j g w f H4 y q u t Q I4 l E M
def HU(ho:ia X (Wf n) r)(j:ia X (Wf i) M)(ha:PE X a ta)(hb:PE X b tb)(hc:PE X c tc)
  (hm:lastMarks [n,i] [b,c]=Vd:=by with_unfolding_all rfl):PT X (.Compare a [n,i] [b,c] pos) (Ni<|Cf r M ta tb tc):=by
 intro g s f H Q I h;refine isTrue_chain (cM (ha g s f H _ I h) λv C ⟨x,H1,I1,L,U⟩=>test_link (cM (hb g C f H1 _ I1 U) λu B ⟨y,H2,I2,l,T⟩ =>
  cM (ho g B f H2 x y v u _ I2 L l T) λd A ⟨z,p,o,J,k,e,m⟩=>?_)) hm
 subst e;cases J;refine WX ?_;cases k with
 |false=>
  obtain⟨k',e',Y⟩:=m;cases e';exact ite_ff ⟨p,o,Y⟩
 |true=>
  refine ite_tt<|test_last<|cM (hc g A f p _ o m) λt w ⟨q,H4,I4,G,O⟩=>cM (j g w f H4 y q u t _ I4 l G O) λd' s5 z9=>?_;obtain⟨z2,H5,I5,E,k2,e2,N⟩:=z9;subst e2;cases E;exact WX ⟨H5,I5,N⟩
noncomputable def U3(K:Va) (x:V) (H:Hp) (k:Bool):Prop :=
 match x with
 |.non=>k=Vd
 |.bl b=>k=b
 |.int i=>k=(i != 0)
 |.str y=>y.length<=sizeLine/\k=((y.length:Int) != 0)
 |.byt y=>y.size<=sizeLine/\k=((y.size:Int) != 0)
 |.ref p=>(∃xs,fm K H p xs/\k=!xs.isEmpty)∨(∃xs,nq K H p xs/\k=!xs.isEmpty)∨∃d,H p=Wp (.dK d)/\k=!d.isEmpty
 |_=>False
def Pe{vs:List<|e×U5}(r:KV d vs):(!vs.isEmpty)=!d.isEmpty:=by
 cases r<;>rfl
def Pd(r:bh xs its):(!its.toArray.isEmpty)=!xs.isEmpty:=by
 cases r<;>simp
def uM:(sizeLine:Nat)<2 ^ 63:=by rw[sizeLine_eq];decide
def CD:ia X (binaryOp .Add) (λx y H Q=>∃i j,x=.str i/\y=.str j/\i.length+j.length<=sizeLine/\Q (.str<|i++j) H):=by
 intro m s l H x y v u Q I f e h;obtain⟨i,j,rfl,rfl,g,q⟩:=h;obtain⟨t,rfl⟩:=f;obtain⟨d,rfl⟩:=e;exact add_str (λd n=>⟨.str<|i++j,H,I.tok _,⟨_,rfl⟩,q⟩) g
def tU(r:bh [x] d):∃u,d=[u]/\bw x u:=by
 cases r with|cons f e=>cases e;exact⟨_,rfl,f⟩
def QE(r:bh [x,y] e):∃u d,e=[u,d]/\bw x u/\bw y d:=by
 cases r with
 |cons j i=>
  cases i with|cons g f=>cases f;exact⟨_,_,rfl,j,g⟩
def kl:ku X (.builtin "abs") (λxs H Q=>∃i,xs=[.int i]/\Q (.int<|if i<0 then -i else i) H):=by
 intro e s d H xs f Q I r h;obtain⟨i,rfl,q⟩:=h;obtain⟨u,rfl,t,rfl⟩:=tU r;exact call_abs_int λu g=>⟨.int<|if i<0 then -i else i,H,I.tok _,⟨_,rfl⟩,q⟩
def F9(e:X.calm=VO):ku X (.builtin "min") (λxs H Q=>∃i j,xs=[.int i,.int j]/\Q (.int<|if j<i then j else i) H):=by
 intro g s f H xs m Q I r h;obtain⟨i,j,rfl,q⟩:=h;obtain⟨u,l,rfl,⟨t,rfl⟩,⟨o,rfl⟩⟩:=QE r;refine min_two_ints (I.ok.hd e) λp n k=>⟨_,H,I.kept k,?_,q⟩
 by_cases d:j<i
 .rw[ef d,ef d];exact⟨_,rfl⟩
 .rw[eo d,eo d];exact⟨_,rfl⟩
def mU:ku X (.type "int") (λxs H Q=>(∃i,xs=[.int i]/\Q (.int i) H)∨∃k,xs=[.bl k]/\Q (.int<|if k then 1 else 0) H):=by
 intro f s e H xs g Q I r h;rcases h with⟨i,rfl,q⟩|⟨k,rfl,q⟩
 .obtain⟨u,rfl,t,rfl⟩:=tU r
  exact call_int_int ⟨.int i,H,I,⟨_,rfl⟩,q⟩
 .obtain⟨u,rfl,d⟩:=tU r
  cases d;exact call_int_bool ⟨.int<|if k then 1 else 0,H,I.tok _,⟨_,rfl⟩,q⟩
def Sn(K:Va)(x:V)(H:Hp)(n:Nat):Prop :=
 match x with
 |.str y=>y.length<=sizeLine/\n=y.length
 |.byt y=>y.size<=sizeLine/\n=y.size
 |.ref p=>(∃xs,fm K H p xs/\n=xs.length)∨∃xs,nq K H p xs/\n=xs.length
 |_=>False
def bC:ku X (.builtin "len") (λxs H Q=>∃x n,xs=[x]/\Sn X.K x H n/\Q (.int n) H):=by
 intro v s o H xs w Q I r h;obtain⟨x,n,rfl,e,q⟩:=h;obtain⟨u,rfl,f⟩:=tU r;have A:=uM;have z:sizeLine=16777216:=sizeLine_eq;cases x with
 |str y=>
  obtain⟨t,rfl⟩:=f;obtain⟨m,d⟩:y.length<=sizeLine/\n=y.length:=e;subst d;exact len_str 0#2 ⟨.int _,H,I.tok _,⟨_,rfl⟩,q⟩
 |byt y=>
  obtain⟨t,rfl⟩:=f;obtain⟨m,d⟩:y.size<=sizeLine/\n=y.size:=e;subst d;exact W.len_bytes 0#2 ⟨.int _,H,I.tok _,⟨_,rfl⟩,q⟩
 |ref p=>
  cases f;have d:(∃xs,fm X.K H p xs/\n=xs.length)∨∃xs,nq X.K H p xs/\n=xs.length:=e;rcases d with⟨xs,j,d⟩|⟨xs,j,d⟩
  .subst d
   obtain⟨i,g,pl,l⟩:=I.list j;have hlen:=g.length;exact Calls.call_len_list pl.isList (by simp only[Vx];omega) ⟨.int xs.length,H,I.tok _,⟨_,by simp only[Vx];rw[hlen]⟩,q⟩
  .subst d
   obtain⟨i,g,pl,l⟩:=I.tuple j;have hlen:=g.length;exact len_tuple pl (by simp only[Vx];omega) ⟨.int xs.length,H,I.tok _,⟨_,by simp only[Vx];rw[hlen]⟩,q⟩
 |_=>exact(show False from e).elim
end
structure Gs (h:Vu) (x dx C:Vi) (mA:Vq->Option U5):Prop where
 obj:h.get? x=Wp (YJ C dx)
 ns:h.Ns1 dx mA
 ne:dx≠x
def qM{h:Vu}(n:h.Ns1 l mA):∃c,h.get? l=Wp c/\∀name,saA name c=Wp (mA name):=by
 obtain⟨o,d,p,g,hd,j,_,i⟩:=n;refine⟨o,g,λname=>?_⟩;have e:=i name;unfold nsFind findBy at e;rw[←Array.find?_toList]at e;unfold saA;rw[hd];dsimp only;split
 .rename_i y q
  rw[q]at e;exact ew Wp e
 .rename_i q
  rw[q]at e;have a:d.toList.any (·.refKey)=Vd:=by
   rw[List.any_eq_false];intro y f;obtain⟨z,t,b⟩:=j y<|Array.mem_toList_iff.mp f;simp[DictEntry.refKey,b]
  have m:¬d.toList.any (·.refKey)=VO:=by rw[a];exact WL
  rw[eo m];exact ew Wp e
def Gs.look{h:Vu}(I:Gs h x d C mA):∃a,ZU h x (YJ C d) C (Wp a)/\∀name,saA name a=Wp (mA name) :=
 let ⟨a,b,c⟩:=qM I.ns
 ⟨a,⟨I.obj,rfl,rfl,b⟩,c⟩
section
variable {prog:V5}{w:Wx}{A:Wh}{E:U5->Vm->Prop}{s:Vm}{K:Va}{x dx C f:Vi}{mA:Vq->Option U5}{name:Vq}{v:U5}
def Mb(X:K.In s.heap)(I:Gs s.heap x dx C mA)(e:Zm K C name=VO)(d:Xq K C=VO)
  (g:WH K (.ref C) name=Wp Wb)(b:mA name=Wp v)(a:W.handedIn v=VO)(h:Q v { s with toks:=s.toks+1 }) :
  VC (Vy prog w) A (sag (.ref x) name expr) Q E s:=by
 obtain⟨i,J,c⟩:=I.look;exact W.get_value X J (W.plainGet_of e).1 (W.findObj_own d g rfl (by rw[c,b])) a h
def K2(X:K.In s.heap)(I:Gs s.heap x dx C mA)
  (n:WH K (.ref C) "__setattr__"=Wp (Wp<|.builtin "object.__setattr__"))(o:ZJ K C=VO)(m:W.takerIn K C name=Wp Wb)(p:Xq K C=VO)
  (hw:Xr mA ns)(hsz:ns.length<=sizeLine)
  (h:∀h',Gs h' x dx C (λy=>if y=name then Wp v else mA y)->X4 dx s.heap h'->Q () { s with heap:=h',toks:=s.toks+2 }) :
  VC (Vy prog w) A (setAttr (.ref x) name v) Q E s:=by
 obtain⟨z,J,B⟩:=I.look;refine say X J n<|W.osa_open (s:={ s with toks:=s.toks+1 }) (r:=none) X J o m λb=>?_;obtain⟨G,q,i⟩:=ZT p;have l:s.heap.get? x=Wp ⟨.ref C,Wp dx,.plain,#[]⟩:=I.obj;refine Vb<|VE<|Vb<|Vb<|wpAny_loadPart l<|Vb<|sai (s:={ s with toks:=s.toks+1 }) (Zh X q) ?_;rw[i];refine VE (a:=some dx)<|Vb<|VE<|Vb ?_;refine wpAny_nsSet1 (s:={ s with toks:=s.toks+1 }) I.ns λh' d c=>?_;obtain⟨oD,t,u,e,g,j⟩:=d.count<|Zx name v hw;refine Vb (wpAny_lookBehind e (by rw[g];exact pastItsLine_dict<|Vr j (by rw[Vp];omega)) ?_);exact VE<|h _ ⟨(c.2 _<|V6 I.ne).trans I.obj,d,I.ne⟩ c
def IM(X:K.In s.heap)(b:W.makesIn K C=VO)
  (hi:WH K (.ref C) "__init__"=Wp (Wp<|.ref f))(c:W.typeIn K (.ref f)=Wp (.type "function"))
  (h:Xm (Vy prog w) (A.under<|.builtin "type.__call__" ⟨.ref C::vs,a⟩) (.call (.ref f) ⟨.ref (2#s+1)::vs,a⟩) (W.InitBack (2#s+1) R)
   { s with heap:=(s.heap.push W6).push (YJ C 2#s) }) :
  Xm (Vy prog w) A (.call (.ref C) ⟨vs,a⟩) R s:=by
 obtain⟨e,g,d,t,os⟩:=s;exact W.make_core (W.makes_of X b) (W.looks_findIn X hi) (λself=>W.bind_fn X self c) (.inl rfl) h
end
def ie(f:Vq)(v:V):List (Vq×V)->List (Vq×V)
 |[]=>[(f,v)]
 |(g,x)::r=>if g=f then(g,v)::r else(g,x)::ie f v r
theorem lJ(f g:Vq)(v:V):∀fs:List<|Vq×V,(ie f v fs).lookup g=if g=f then Wp v else fs.lookup g
 |[]=>by
  show Yz g [(f,v)]=_
  by_cases h:g=f
  .have a:(g==f)=VO:=beq_iff_eq.mpr h
   simp only[Yz,a,ef h]
  .have a:(g==f)=Vd:=beq_eq_false_iff_ne.mpr h
   simp only[Yz,a,eo h]
 |(k,x)::r=>by
  have c:=lJ f g v r;rw[show ie f v ((k,x)::r)=(if k=f then(k,v)::r else(k,x)::ie f v r) from rfl]
  by_cases b:k=f
  .rw[ef b]
   by_cases h:g=k
   .have a:(g==k)=VO:=beq_iff_eq.mpr h
    simp only[Yz,a,ef<|h.trans b]
   .have a:(g==k)=Vd:=beq_eq_false_iff_ne.mpr h
    simp only[Yz,a,eo (λe:g=f=>h<|e.trans b.symm)]
  .rw[eo b]
   by_cases h:g=k
   .have a:(g==k)=VO:=beq_iff_eq.mpr h
    simp only[Yz,a,eo (λe:g=f=>b<|h.symm.trans e)]
   .have a:(g==k)=Vd:=beq_eq_false_iff_ne.mpr h
    simp only[Yz,a];exact c
theorem j6(f:Vq)(v:V):∀fs:List<|Vq×V,f∈(ie f v fs).map (·.1)/\∀g,g∈fs.map (·.1)->g∈(ie f v fs).map (·.1)
 |[]=>⟨by simp[ie],λg h=>by simp at h⟩
 |(k,x)::r=>by
  obtain⟨c,b⟩:=j6 f v r;rw[show ie f v ((k,x)::r)=(if k=f then(k,v)::r else(k,x)::ie f v r) from rfl]
  by_cases a:k=f
  .rw[ef a]
   subst a;exact⟨by simp,λg h=>by simpa using h⟩
  .rw[eo a]
   refine⟨?_,λg h=>?_⟩
   .rw[Vf]
    exact U9 _ c
   .rw[Vf]at h ⊢
    rcases Vl.mp h with e|e
    .exact Vl.mpr<|.inl e
    .exact U9 _<|b g e
theorem rM(f:Vq)(v:V):∀fs:List<|Vq×V,(ie f v fs).length<=fs.length+1
 |[]=>by simp[ie]
 |(k,x)::r=>by
  have b:=rM f v r;rw[show ie f v ((k,x)::r)=(if k=f then(k,v)::r else(k,x)::ie f v r) from rfl]
  by_cases a:k=f
  .rw[ef a,Vp,Vp];omega
  .rw[eo a,Vp,Vp];omega
def iL(r:wJ (Wp v) o):∃u,o=Wp u/\bw v u:=by
 cases o with|none=>exact(show False from r).elim|some u=>exact⟨u,rfl,r⟩
def yd(r:bw v u):W.handedIn u=VO:=by
 cases v with|non=>cases (show u=WN from r);rfl|bl b=>cases (show u=WT b from r);rfl|int i=>obtain⟨t,e⟩:=(show ∃t,u=Xb i t from r);cases e;rfl|str x=>obtain⟨t,e⟩:=(show ∃t,u=Xa x t from r);cases e;rfl|byt b=>obtain⟨t,e⟩:=(show ∃t,u=Value.bytes b t from r);cases e;rfl|flt b=>obtain⟨t,e⟩:=(show ∃t,u=saD b t from r);cases e;rfl|ref a=>cases (show u=VG a from r);rfl|ty n=>cases (show u=Value.type n from r);rfl
section
variable {P:V5}{w:Wx}{H H':Hp}{h h':Vu}{a C dx:Vi}{fs fs':List (Vq×V)}
def sZ(hok:fJ P w H h)(e:H a=Wp (.ins C dx fs)):∃mA,Gs h a dx C mA/\(∀f,wJ (fs.lookup f)<|mA f)/\Xr mA (fs.map (·.1))/\fs.length<=1000/\H dx=Wp (.own a):=by
 obtain⟨d,z,b,ob,mA,n,r,q⟩:=(show bV P w H h a (.ins C dx fs) from hok a _ e)
 exact⟨mA,⟨ob,n,b⟩,r,q,z,d⟩
end
structure Kq (K:Va) (C:Vi):Prop where
 pg:Zm K C Str.empty=VO
 hd:Xq K C=VO
 po:ZJ K C=VO
 sa:WH K (.ref C) "__setattr__"=Wp (Wp (.builtin "object.__setattr__"))
def Kq.get{K:Va}(c:Kq K C)(f:Vq):Zm K C f=VO:=c.pg
def dD(K:Va)(C:Vi)(f:Vq):Prop:=WH K (.ref C) f=Wp Wb
def dD.taker{K:Va}(n:dD K C f):W.takerIn K C f=Wp Wb:=by
 unfold W.takerIn;rw[show WH K (.ref C) f=Wp Wb from n];rfl
section
variable {X:Cx}{π:List (Vi×Obj)}{σ:St}{H:Hp}{s:Vm}{a C dx:Vi}{fs:List (Vq×V)}{f:Vq}{v:V}{A:Wh}{E:U5->Vm->Prop}
def C7(I:Inv X π σ H s)(e:H a=Wp (.ins C dx fs))(c:Kq X.K C)(n:dD X.K C f)(l:fs.lookup f=Wp v)
  (h:∀u s',Inv X π σ H s'->bw v u->Q u s'):VC 4#X A (sag (.ref a) f b) Q E s:=by
 obtain⟨g,O,r,_,_,_⟩:=sZ I.hok e;obtain⟨u,i,d⟩:=iL (v:=v) (o:=g f) (by rw[←l];exact r f);exact Mb I.kIn O (c.get f) c.hd n i (yd d)<|h u _ (I.tok _) d
def Ci(I:Inv X π σ H s)(e:H a=Wp (.ins C dx fs))(c:Kq X.K C)(n:dD X.K C f)(M:fs.length<1000)(p:bw y u)
  (h:∀s',Inv X π σ (upd H a<|.ins C dx<|ie f y fs) s'->Q () s'):VC 4#X A (setAttr (.ref a) f u) Q E s:=by
 obtain⟨j,O,r,i,_,l⟩:=sZ I.hok e;have t:(fs.map (·.1)).length<=sizeLine:=by rw[U8,sizeLine_eq];omega
 refine K2 I.kIn O c.sa c.po n.taker c.hd i t λJ d m=>h _ ?_;have hd:∃o,J.get? dx=Wp o:=let ⟨o,_,_,L,_⟩:=d.ns;⟨o,L⟩;refine I.write (x:=a) (e:=dx) (by rw[e];exact WJ) (.inr l) (λb q G z=>(m.2 b G).trans z) hd ?_;refine⟨by rw[ay O.ne];exact l,?_,O.ne,d.obj,_,d.ns,λg=>?_,λg B=>?_⟩
 .have:=rM f y fs;omega
 .show wJ ((ie f y fs).lookup g) (if g=f then Wp u else j g)
  rw[lJ]
  by_cases q:g=f
  .rw[ef q,ef q];exact p
  .rw[eo q,eo q];exact r g
 .by_cases q:g=f
  .rw[q];exact(j6 f y fs).1
  .refine(j6 f y fs).2 g (i g λz=>B ?_)
   show(if g=f then Wp u else j g)=Wb;rw[eo q];exact z
def Kf(I:Inv X π σ H s):Inv X π σ (upd (upd H 2#s<|.own<|2#s+1) (2#s+1)<|.ins C 2#s [])
  { s with heap:=(s.heap.push W6).push (YJ C 2#s) }:=by
 have d:(s.heap.push W6).get? 2#s=Wp W6:=V1 s.heap rfl;have m:((s.heap.push W6).push<|YJ C 2#s).get? (2#s+1)=Wp (YJ C 2#s):=by
  have:=V1 (s.heap.push W6) (o:=YJ C 2#s) rfl
  rwa [ZY]at this
 have l:(s.heap.push W6).Ns 2#s (λ_=>Wb):=⟨W6,#[],_,d,rfl,(λe j=>er j 0#3),λ_=>rfl⟩
 have n:=I.laid (a:=2#s) (o:=.own<|2#s+1) (h':=s.heap.push W6) (t':=s.toks) (λb u q=>Vc _ q) (VB _) ⟨_,d⟩;refine n.laid (a:=2#s+1) (o:=.ins C 2#s []) (t':=s.toks) (λb u q=>Vc _ q) (sam<|ZY _ _) ?_;have c:2#s≠2#s+1:=VM<|Xx _;refine⟨by rw[ay c,aC],Yj _,c,m,λ_=>Wb,(Heap.Ns1.of_empty l).at λo q=>Vc _ q,λ_=>WJ,λy i=>er rfl i⟩
def EO(c:Xe e f env (eval e env)=eval e env)
  (h:VC (Vy prog w) A (eval e env) (λo b=>VC (Vy prog w) A (sag o f VO) Q E b) E s):VC (Vy prog w) A (eval (.Attribute e f pos) env) Q E s :=
 Attribute_any_ h (by rw[arm_eval_Attribute,c])
end
def Te(K:Va)(d:TE)(f:Vq):TE:=λc H Q=>d c H λx b=>∃a C e fs v,x=.ref a/\b a=Wp (.ins C e fs)/\Kq K C/\dD K C f/\fs.lookup f=Wp v/\Q v b
def Ti(K:Va)(g e:TE)(f:Vq):TS:=λD b H=>e b H λy i=>g b i λx d=>∃a C c fs,x=.ref a/\d a=Wp (.ins C c fs)/\Kq K C/\dD K C f/\fs.length<1000 /\
 D.nx b (upd d a<|.ins C c<|ie f y fs)
section
variable {X:Cx}{o e value:V4}{f:Vq}{pos pos' tpos:Pos}{ta tv:TE}
def OP(j:PE X e ta)(m:Xe e f X.env (eval e X.env)=eval e X.env):PE X (.Attribute e f pos) (Te X.K ta f):=by
 intro d s b H Q I h;refine EO m<|cM (j d s b H _ I h) λu B z9=>?_;obtain⟨x,y,w,g,a,C,E,fs,v,p,r,c,n,l,q⟩:=z9;subst p;obtain rfl:u=VG a:=g;exact C7 w r c n l λz A t i=>⟨v,y,t,i,q⟩
def OF(v:PE X o ta)(r:PE X value tv)(t:WI value (Wp<|.Attribute o f pos') pos.line X.env=pure Vd):PS X (.Assign [.Attribute o f pos'] value pos) (Ti X.K ta tv f):=by
 intro d s b H D I h;refine plainObj_wpAny_Assign_Attribute (cM (r d s b H _ I h) λu g ⟨y,G,E,i,q⟩=>cM (v d g b G _ E q) λp L z9=>?_) t;obtain⟨x,N,B,j,a,C,M,fs,w,z,c,n,l,m⟩:=z9;subst w;obtain rfl:p=VG a:=j;exact Ci B z c n l i λJ A=>⟨b,_,A,m⟩
end
section
variable {X:Cx}{π:List (Vi×Obj)}{σ:St}{H:Hp}{s:Vm}{A:Wh}{E:U5->Vm->Prop}{Q:U5->Vm->Prop}{c:U5}{b:Bool}
inductive sO (K:Va) (H:Hp):V->U5->Prop where
 |non:sO K H .non (.type "NoneType")
 |bl (x:Bool):sO K H (.bl x) (.type "bool")
 |int (i:Int):sO K H (.int i) (.type "int")
 |str (x:Vq):sO K H (.str x) (.type "str")
 |flt (x:UInt64):sO K H (.flt x) (.type "float")
 |lst {a:Vi}{xs:am}(e:H a=Wp (.lst xs)):sO K H (.ref a) (.type "list")
 |frz {a:Vi}{o:Obj}{xs:am}(e:H a=Wp (.frz o (.lst xs))):sO K H (.ref a) (.type "list")
 |tup {a:Vi}{xs:am}(e:H a=Wp (.tup xs)):sO K H (.ref a) (.type "tuple")
 |dK {a:Vi}{kvs:List (iV×V)}(e:H a=Wp (.dK kvs)):sO K H (.ref a) (.type "dict")
 |dT {a:Vi}{kvs:List (List iV×V)}(e:H a=Wp (.dT kvs)):sO K H (.ref a) (.type "dict")
 |ins {a C dx:Vi}{fs:List (Vq×V)}(e:H a=Wp (.ins C dx fs)) (cl:Kq K C) (ha:WH K (.ref C) "__class__"=Wp (Wp (.builtin "object.__class__")))
   (hn:YR K (.builtin "object.__class__") "__get__"=Wp (Wp (.builtin "getset_descriptor.__get__"))) (htk:Z8 K (.builtin "object.__class__")=Wp VO)
   (hm:sah K C (.type "object")=Wp VO):sO K H (.ref a) (.ref C)
def j7(I:Inv X π σ H s)(d:bw x u)(ty:sO X.K H x t)(e:saC X.K t c=Wp b)(h:∀v,Q (.bool b) { s with toks:=v }) :
  VC 4#X A (call (.builtin "isinstance") [u,c]) Q E s:=by
 cases ty with
 |non=>cases (show u=WN from d);exact WQ W.kitx_none I.kIn WJ e (λz=>nomatch z) h|bl y=>cases (show u=WT y from d);exact WQ W.kitx_bool I.kIn WJ e (λz=>nomatch z) h|int i=>obtain⟨t,q⟩:=(show ∃t,u=Xb i t from d);cases q;exact WQ W.kitx_int I.kIn WJ e (λz=>nomatch z) h|str y=>obtain⟨t,q⟩:=(show ∃t,u=Xa y t from d);cases q;exact WQ W.kitx_str I.kIn WJ e (λz=>nomatch z) h|flt y=>obtain⟨t,q⟩:=(show ∃t,u=saD y t from d);cases q;exact WQ W.kitx_float I.kIn WJ e (λz=>nomatch z) h
 |@lst a xs f=>
  cases (show u=VG a from d);obtain⟨_,_,n,_,g⟩:=(show bV X.prog X.w H s.heap a (.lst xs) from I.hok a _ f)
  exact WQ saB I.kIn ⟨_,g,rfl⟩ e (λz=>nomatch z) h
 |@frz a ob xs f=>
  cases (show u=VG a from d);obtain⟨_,_,_,n,_,g⟩:=(show bV X.prog X.w H s.heap a (.frz ob<|.lst xs) from I.hok a _ f)
  exact WQ saB I.kIn ⟨_,g,rfl⟩ e (λz=>nomatch z) h
 |@tup a xs f=>
  cases (show u=VG a from d);obtain⟨_,_,_,p⟩:=(show bV X.prog X.w H s.heap a (.tup xs) from I.hok a _ f)
  obtain⟨o,g,l,_⟩:=p;exact WQ W.kitx_tuple I.kIn ⟨o,g,l⟩ e (λz=>nomatch z) h
 |@dK a j f=>
  cases (show u=VG a from d);obtain⟨_,_,T,_,p⟩:=(show bV X.prog X.w H s.heap a (.dK j) from I.hok a _ f)
  obtain⟨o,M,N,g,l,_⟩:=p;exact WQ ZK I.kIn ⟨o,g,l.1⟩ e (λz=>nomatch z) h
 |@dT a j f=>
  cases (show u=VG a from d);obtain⟨_,_,xs,_,o,M,N,g,l,_⟩:=(show bV X.prog X.w H s.heap a (.dT j) from I.hok a _ f)
  exact WQ ZK I.kIn ⟨o,g,l.1⟩ e (λz=>nomatch z) h
 |@ins a C dx fs f r L B m G=>
  cases (show u=VG a from d);obtain⟨Y,O,_⟩:=sZ I.hok f;obtain⟨U,J,_⟩:=O.look;exact WQ (W.kitx_own (r.get _) r.hd L B m G) I.kIn J e (λz=>nomatch z) h
end
structure cW (k:Nat) (A:Wh):Prop where
 hd:A.handled=Wb
 dp:A.depth+3*k+5<recursionLimit
 un:A.units+16*k+200<Xu
 gd:A.guards=Wp []
def cW.mono{j k:Nat}(r:cW k A)(h:j<=k):cW j A:=⟨r.hd,by have:=r.dp;omega,by have:=r.un;omega,r.gd⟩
def cW.deeper{k:Nat}(r:cW (k+1) A)(env:Env):cW k (A.deeper env) :=
 ⟨r.hd,by have:=r.dp;show A.depth+1+3*k+5<_;omega,by have:=r.un;show A.units+3+16*k+200<_;omega,r.gd⟩
def CT{A:Wh}:(A.under<|.builtin "type.__call__" ⟨.ref C::a,b⟩).depth=A.depth+1:=by
 first|rfl|simp[ZD,Code.weight,Code.isCreation,Code.isGuard,Code.isCaller,Code.frames,sas,guardIds]
def CS{A:Wh}:(A.under<|.builtin "type.__call__" ⟨.ref C::a,b⟩).units=A.units+1:=by
 first|rfl|simp[ZD,Code.cUnits,Code.frames,sas]
def cW.make{k:Nat}(r:cW (k+1) A)(C:Vi)(a:List U5)(b:List<|Vq×U5):cW k (A.under<|.builtin "type.__call__" ⟨.ref C::a,b⟩) :=
 ⟨r.hd,by have:=r.dp;rw[CT];omega,by have:=r.un;rw[CS];omega,by have:=r.gd;simp[ZD,Code.guards,Code.isGuard,guardIds,pushGuards,this]⟩
def cW.depth{k:Nat}(r:cW k A):A.depth<recursionLimit:=by have:=r.dp;omega
def cW.units{k:Nat}(r:cW k A):A.units+64<Xu:=by have:=r.un;omega
def Ta:TA:=λ_ H Q=>Q [] H
def QT(c:TE)(b:TA):TA:=λa H Q=>c a H λx e=>b a e λxs d=>Q (x::xs) d
section
variable {X:Cx}{e:V4}{es:List V4}{te:TE}{t:TA}{pos:Pos}
def ig:PA X [] Ta:=λ_ _ _ _ H Q I h=>Calls.spliced_nil ⟨[],H,I,.nil,h⟩
def dH(m:PE X e te)(l:PA X es t)(j:Vg (e::es) X.env=(Vd,eval e X.env)::Vg es X.env:=by rfl):PA X (e::es) (QT te t):=by
 intro pos b s a H Q I h;rw[j];show VC _ _ (spliced ((Vd,eval e X.env)::Wn pos (Vg es X.env))) _ _ s;refine Calls.spliced_cons<|cM (m b s a H _ I h) λu c ⟨x,q,o,f,i⟩=>?_;exact cM (l pos b c a q _ o i) λr v ⟨xs,p,n,d,g⟩=>⟨x::xs,p,n,.cons f d,g⟩
def S3(t:TA):TE:=λb H Q=>t b H λxs a=>xs.length<=sizeLine/\∀p,a p=Wb->Q (.ref p) (upd a p<|.tup xs)
def Tb(t:TA):TE:=λb H Q=>t b H λxs a=>xs.length<=sizeLine/\∀p,a p=Wb->Q (.ref p) (upd a p<|.lst xs)
def OJ{x1}(h:PA X es t):PE X (.Tuple es x1 pos) (S3 t):=by
 intro g s f H Q I j;refine wpAny_Tuple_spliced (cM (h pos g s f H _ I j) λi a ⟨xs,d,c,r,z,q⟩=>⟨by rw[←r.length];exact z,?_⟩);have l:d 2#a=Wb:=c.hok.fresh<|VB _;refine⟨.ref 2#a,upd d 2#a<|.tup xs,c.laid (t':=a.toks) (λb u e=>Vc _ e) (VB _) ?_,rfl,q _ l⟩;exact⟨z,i,r,⟨_,V1 _ rfl,rfl,_,rfl⟩⟩
def Ih(h:PA X es t):PE X (.List es pos) (Tb t):=by
 intro g s f H Q I j;refine wpAny_List_spliced (cM (h pos g s f H _ I j) λi a ⟨xs,d,c,r,z,q⟩=>⟨by rw[←r.length];exact z,?_⟩);have l:d 2#a=Wb:=c.hok.fresh<|VB _;refine⟨.ref 2#a,upd d 2#a<|.lst xs,c.laid (t':=a.toks) (λb u e=>Vc _ e) (VB _) ?_,rfl,q _ l⟩;exact⟨z,i,0,r,V1 _ rfl⟩
end
abbrev Sp:=am->Hp->VK->XK->Prop
abbrev Ac:=List Env->Hp->Vm->XK->U5->Vm->Prop
structure sQ (P:V5) (w:Wx) (K:Va) (mg:Vq->Option U5) (base:Vu) (A:Wh) (outer:List Env) (s:Vm) (H:Hp):Prop where
 frames:A.frames=Wp outer
 mod:Mod K mg base
 bs:∀b o,base.get? b=Wp o->s.heap.get? b=Wp o/\H b=Wb
 bsz:base.objs.size<=2#s
 funs:s.heap.FunFrames base outer
 frf:∀b∈gW outer,H b=Wb
 hok:fJ P w H s.heap
 bare:AllBare s.gens
 tab:EW K H
def CE(outer:List Env)(P:V5)(w:Wx)(H:Hp)(s:Vm)(Q:VK)(u:U5)(s':Vm):Prop :=
 ∃v a,s'.os=s.os/\AllBare s'.gens/\Un (gW outer) [] H a s.heap s'.heap/\fJ P w a s'.heap/\bw v u/\Q v a
def CR(CX:Ac)(outer:List Env)(P:V5)(w:Wx)(H:Hp)(s:Vm)(Q:VK)(E:XK)(r:Result)(s':Vm):Prop :=
 match r with
 |.ok (.ret u)=>CE outer P w H s Q u s'
 |.ok _=>False
 |.error e=>CX outer H s E e s'
structure ft (P:V5) (w:Wx) (K:Va) (mg:Vq->Option U5) (base:Vu) (CX:Ac) (k:Nat) (f:Vi) (fd:WD) (ps:cr) (sp:Sp):Prop where
 len:∀vs H Q E,sp vs H Q E->vs.length=ps.length
 run:∀(A:Wh) (outer:List Env) (s:Vm) (H:Hp) (args:Args) (us:List U5) (vs:am) (Q:VK) (E:XK),cW k A->sQ P w K mg base A outer s H->BindsTo s fd args (ps.zip us)->bh vs us->sp vs H Q E ->
  Xm (Vy P w) A (.call (.ref f) args) (CR CX outer P w H s Q E) s
def ft.mono{K:Va}{j k:Nat}{ps:cr}(F:ft P w K c base CX j f e ps sp)(h:j<=k) :
  ft P w K c base CX k f e ps sp:=⟨F.len,λA outer s H args b a Q E d=>F.run A outer s H args b a Q E<|d.mono h⟩
def sQ.make{K:Va}(e:sQ P w K b base A outer s H)(C:Vi)(a:List U5)(c:List<|Vq×U5) :
  sQ P w K b base (A.under<|.builtin "type.__call__" ⟨.ref C::a,c⟩) outer s H:=⟨by first|exact e.frames|(simpa[ZD,Code.envs,sas,pushEnvs] using e.frames),e.mod,e.bs,e.bsz,e.funs,e.frf,e.hok,e.bare,e.tab⟩
section
variable {X:Cx}{π:List (Vi×Obj)}{σ:St}{H:Hp}{s s':Vm}
def Inv.tab(I:Inv X π σ H s):EW X.K H:=λP d h=>by
 obtain⟨m,e⟩:=I.ok.tab P d h;obtain⟨m2,a⟩:=I.base.tbls P _ e;exact⟨m++m2,by rw[a,YO]⟩
def Inv.env0(I:Inv X π σ H s):sQ X.prog X.w X.K X.mg X.base X.A X.stack s H :=
 ⟨I.ok.frames,I.ok.mod,I.bs,Vr I.ok.bsz I.sz,I.stack,I.stkFree,I.hok,I.bare,I.tab⟩
def Inv.after(I:Inv X π σ H s)(h:CE X.stack X.prog X.w H s Q u s'):EP X π σ Q u s':=by
 obtain⟨v,e,os,bare,un,hok,r,q⟩:=h;obtain⟨c,g,d,t,a⟩:=s';obtain rfl:a=s.os:=os;exact⟨v,e,I.call (h':=c) (g':=g) (d':=d) (t':=t) (ch:=[]) un hok bare (λb z=>er z<|by simp),r,q⟩
end
def QU(sp:Sp)(a:am)(E:XK)(t:TA):TE:=λb H Q=>t b H λc d=>sp (c++a) d Q E
def QM(C:Vi)(sp:Sp)(b:am)(E:XK)(t:TA):TE:=λd H Q=>t d H λe c=>∀x a,c x=Wb->c a=Wb->a≠x ->
 sp (.ref x::(e++b)) (upd (upd c a<|.own x) x<|.ins C a []) (λv f=>v=.non/\Q (.ref x) f) E
def gw(K:Va)(b:WD)(ps:cr)(ds:List U5):Prop :=
 ∀(s:Vm) (a:List U5),K.In s.heap->(a++ds).length=ps.length->BindsTo s b ⟨a,[]⟩ (ps.zip<|a++ds)
def gw.all{K:Va}{ps:cr}(h:∀a:List U5,a.length=ps.length->bindArgs c ⟨a,[]⟩=pure (ps.zip a)):gw K c ps []:=λs a _ b=>by
 rw[We]at b ⊢;exact .of_eq<|h a b
def gN(CX:Ac)(X:Cx)(E:XK):Prop:=∀(c:List<|Vi×Obj) (b:St) (H:Hp) (s:Vm) (e:U5) (a:Vm),Inv X c b H s->CX X.stack H s E e a->X.xe e a
section
variable {X:Cx}{CX:Ac}{k:Nat}{f C:Vi}{fd:WD}{ps:cr}{sp:Sp}{dvs:am}{ds:List U5}{E:XK}{x m:Vq}{p pos apos:Pos}{e o:V4}{es:List V4}{ta:TE}{t:TA}
def Oq(F:ft X.prog X.w X.K X.mg X.base CX k f fd ps sp)(l:cW k X.A)(q:gw X.K fd ps ds)(hd:bh dvs ds)(j:gN CX X E)
  (I:Inv X d c H s)(r:bh vs a)(h:sp (vs++dvs) H Q E):VC 4#X X.A (call (.ref f) a) (EP X d c Q) X.xe s:=by
 have g:bh (vs++dvs) (a++ds):=r.append hd;have n:(a++ds).length=ps.length:=by rw[←g.length];exact F.len _ _ _ _ h
 refine wpAny_call<|codeAny_mono (F.run X.A X.stack s H ⟨a,[]⟩ (a++ds) (vs++dvs) Q E l I.env0 (q s a I.kIn n) g h) λr i b=>?_;cases r with
 |error e=>exact j d c H s e i I b
 |ok v=>
  cases v with|ret u=>exact I.after b|next|brk|cont=>exact V0 b
def Ly(F:ft X.prog X.w X.K X.mg X.base CX k f fd ps sp)(l:cW k X.A)(v:Gl X x)(n:X.mg x=Wp (.ref f))(u:Yx X.K (.ref f)=VO)(z:gw X.K fd ps ds)(hd:bh dvs ds)(j:gN CX X E)
  (B:PA X (e::es) t)(b:1#x:=by decide)(y:Vg (e::es) X.env=(Vd,eval e X.env)::Vg es X.env:=by rfl)(a:(Wn pos<|Vg es X.env).any (·.1)=Vd:=by rfl) :
  PE X (.Call (.Name x p) (e::es) [] pos) (QU sp dvs E t):=by
 intro i s g H Q I h;refine wpAny_Call_Name_kw<|gP I v n ?_ b;refine Zu (h₀:=X.base) I.ok.mod.kin u (cM (B pos i s g H _ I h) λJ L z9=>?_) y a;obtain⟨G,M,d,r,q⟩:=z9;refine⟨d.kIn,?_⟩;exact Oq F l z hd j d r q
structure Mk (K:Va) (C f:Vi):Prop where
 makes:W.makesIn K C=VO
 init:WH K (.ref C) "__init__"=Wp (Wp (.ref f))
 fn:W.isFn K (.ref f)=VO
 kp:Yx K (.ref C)=VO
def Hq(M:Mk X.K C f)(F:ft X.prog X.w X.K X.mg X.base CX k f fd ps sp)(B:cW (k+1) X.A)(J:gw X.K fd ps ds)(hd:bh dvs ds)
  (z:gN CX X E)(I:Inv X i g H s)(r:bh vs a)
  (h:∀x c,H x=Wb->H c=Wb->c≠x->sp (.ref x::(vs++dvs)) (upd (upd H c<|.own x) x<|.ins C c []) (λv T=>v=.non/\Q (.ref x) T) E) :
  VC 4#X X.A (call (.ref C) a) (EP X i g Q) X.xe s:=by
 have l:=h (2#s+1) 2#s (I.hok.fresh<|saH _) (I.hok.fresh<|VB _)<|VM<|Xx _;have d:=Kf (C:=C) I;have j:bh (V.ref (2#s+1)::(vs++dvs)) (VG (2#s+1)::(a++ds)):=.cons rfl (r.append hd);have G:(VG (2#s+1)::a++ds).length=ps.length:=by
  have e:=j.length;rw[F.len _ _ _ _ l]at e;exact e.symm
 refine wpAny_call<|IM (f:=f) I.kIn M.makes M.init (beq_iff_eq.mp M.fn)<|codeAny_mono (F.run _ X.stack _ _ ⟨VG (2#s+1)::a,[]⟩ (VG (2#s+1)::(a++ds)) _ _ E (B.make C a [])
  (d.env0.make C a []) (J _ (VG (2#s+1)::a) d.kIn G) j l) λr n b=>?_
 cases r with
 |error e=>exact z i g _ _ e n d b
 |ok L=>
  cases L with
  |ret u=>
   obtain⟨v,U,O,q,N,y⟩:=d.after b;subst N;exact⟨q,⟨V.ref<|2#s+1,U,O,rfl,y⟩⟩
  |next|brk|cont=>exact V0 b
def Ls(M:Mk X.K C f)(F:ft X.prog X.w X.K X.mg X.base CX k f fd ps sp)(l:cW (k+1) X.A)(u:Gl X x)(n:X.mg x=Wp (.ref C))(y:gw X.K fd ps ds)(hd:bh dvs ds)(j:gN CX X E)
  (z:PA X (e::es) t)(b:1#x:=by decide)(v:Vg (e::es) X.env=(Vd,eval e X.env)::Vg es X.env:=by rfl)(a:(Wn pos<|Vg es X.env).any (·.1)=Vd:=by rfl) :
  PE X (.Call (.Name x p) (e::es) [] pos) (QM C sp dvs E t):=by
 intro i s g H Q I h;refine wpAny_Call_Name_kw<|gP I u n ?_ b;refine Zu (h₀:=X.base) I.ok.mod.kin M.kp (cM (z pos i s g H _ I h) λG J z9=>?_) v a;obtain⟨B,L,d,r,q⟩:=z9;refine⟨d.kIn,?_⟩;exact Hq M F l y hd j d r q
end
structure dy (N P:cr) (sc:Yt):Prop where
 kind:sc.kind=.function
 co:sc.isCoroutine=Vd
 gen:sc.isGenerator=Vd
 nd:N.Nodup
 pre:N.take P.length=P
 par:∀x∈P,sc.names.lookup x=Wp .local ∨ sc.names.lookup x=Wp .cell
 nofree:∀y∈sc.names,y.2≠.free
theorem yr{kindOf:Vq->Option W2}:∀{binds:List<|Vq×U5}{m:Vq->Option U5},(∀v,(x,v)∉binds)->bindL kindOf binds m x=m x
 |[],_,_=>rfl
 |(n,v)::r,m,h=>by
  unfold bindL;rw[yr λw hw=>h w<|U9 _ hw];split
  .have:x≠n:=by rintro rfl;exact h v Ve
   simp[this]
  .rfl
theorem yu{kindOf:Vq->Option W2}:∀{binds:List<|Vq×U5}{m:Vq->Option U5},(∀v,(x,v)∉binds)->bindC kindOf binds m x=m x
 |[],_,_=>rfl
 |(n,v)::r,m,h=>by
  unfold bindC;rw[yu λw hw=>h w<|U9 _ hw];split
  .rfl
  .have:x≠n:=by rintro rfl;exact h v Ve
   simp[this]
theorem yt{kindOf:Vq->Option W2}{x:Vq}{v:U5}:∀{P:cr}{vs:List U5}{i:Nat}{m:Vq->Option U5},P.Nodup->P[i]?=Wp x->vs[i]?=Wp v->kindOf x=Wp .local ->
  bindL kindOf (P.zip vs) m x=Wp v
 |[],_,_,_,_,h,_,_=>by simp at h
 |_::_,[],_,_,_,_,h,_=>by simp at h
 |p::P,w::vs,0,m,nd,b,a,c=>by
  simp at b a;subst b;subst a;show bindL kindOf ((p,w)::P.zip vs) m p=_;unfold bindL;rw[yr λv d=>(VR.mp nd).1 (YB d).1,ef c];simp
 |p::P,w::vs,i+1,m,nd,b,a,c=>by
  show bindL kindOf ((p,w)::P.zip vs) m x=_;unfold bindL;exact yt (i:=i) (VR.mp nd).2 (by simpa using b) (by simpa using a) c
theorem yw{kindOf:Vq->Option W2}{x:Vq}{v:U5}:∀{P:cr}{vs:List U5}{i:Nat}{m:Vq->Option U5},P.Nodup->P[i]?=Wp x->vs[i]?=Wp v->kindOf x≠Wp .local ->
  bindC kindOf (P.zip vs) m x=Wp v
 |[],_,_,_,_,h,_,_=>by simp at h
 |_::_,[],_,_,_,_,h,_=>by simp at h
 |p::P,w::vs,0,m,nd,b,a,c=>by
  simp at b a;subst b;subst a;show bindC kindOf ((p,w)::P.zip vs) m p=_;unfold bindC;rw[yu λv d=>(VR.mp nd).1 (YB d).1,eo c];simp
 |p::P,w::vs,i+1,m,nd,b,a,c=>by
  show bindC kindOf ((p,w)::P.zip vs) m x=_;unfold bindC;exact yw (i:=i) (VR.mp nd).2 (by simpa using b) (by simpa using a) c
def start(N:cr)(vs:am):St:=vs.map Wp++Vt (N.length-vs.length) Wb
noncomputable def cP(CX:Ac) (P:V5) (w:Wx) (K:Va) (mg:Vq->Option U5) (base:Vu) (N:cr) (qual:Vq) (scope:Yt) (f:Vi) (cd:U5) (A:Wh) (outer:List Env) (s:Vm) (H:Hp) (E:XK):Cx where
 prog:=P
 w:=w
 K:=K
 mg:=mg
 base:=base
 A:=A.deeper (envOfC qual scope 2#s f cd)
 N:=N
 sf:=s
 Ha:=H
 env:=envOfC qual scope 2#s f cd
 outer:=outer
 stack:=envOfC qual scope 2#s f cd::outer
 ex:=[]
 calm:=true
 fn:=λ_=>VO
 pn:=[]
 xe:=λe s'=>VC (Vy P w) (A.deeper<|envOfC qual scope 2#s f cd) (leaving (envOfC qual scope 2#s f cd) e) (λ_ s''=>CX outer H s E e s'') (λe' s''=>CX outer H s E e' s'') s'
def BK{sc:Yt}(h:sc.names.lookup x=Wp .cell):∃c,(cellsFrom n sc.names []).lookup x=Wp c:=by
 have q:=W.cellsFrom_some sc.names n []<|.inl h;exact YW.mp q
def FJ{K:Va}{N ps:cr} 
  (S:dy N ps scope)(hd:A.handled=Wb)(g:sQ P w K I base A outer s H)(U:vs.length=ps.length)(r:bh vs G)
  (x:InCallC s 2#s (bindL (envOfC qual scope 2#s f C).kindOf (ps.zip G) λ_=>Wb) (cellsFrom (2#s+1) scope.names []) (bindC (envOfC qual scope 2#s f C).kindOf (ps.zip G) λ_=>Wb) s1) :
  Inv (cP CX P w K I base N qual scope f C A outer s H E) [] (start N vs) H s1:=by
 have O:ps.length<=N.length:=by have:=ew YA S.pre;rw[Wc]at this;omega
 obtain⟨B,T,rfl,L⟩:=x.done;have j:∀b:Vi,b∉(cP CX P w K I base N qual scope f C A outer s H E).ex:=λb z=>er (show b∈([]:List Vi) from z) 0#3;refine⟨⟨g.mod,S.kind,rfl,rfl,VB _,λy z c B d=>?_,λy l=>?_,λy c _ h=>?_,λ_=>hd,saN g.frames,.inr ⟨rfl,rfl⟩,λb z=>er z (j b),g.bs,g.bsz,λb _ _=>j b,λb z=>er z<|j b,g.funs,g.frf,g.tab⟩,
  rfl,g.bare,Un.kept L,⟨_,x.toInCall.ns,λi y v B d Y=>?_⟩,λy c h=>⟨_,x.cell y c h⟩,g.hok.fresh (VB _),λy c h=>?_,λp o=>er (show p∈([]:List<|Vi×Obj) from o) 0#3,g.hok.kept L,?_⟩
 .exact name_of_addr x.apart (Wi B)<|Wi d
 .have l:scope.names.lookup y=Wp .cell∨scope.names.lookup y=Wp .free:=l
  rcases l with l|l
  .exact BK l
  .exact er rfl (S.nofree _<|Wi l)
 .exact XG<|x.above y c<|Wi h
 .have t:i<vs.length:=by
   unfold start at d
   by_cases t:i<vs.length
   .exact t
   .rw[VF (by simpa using t)]at d
    rw[VY]at d;split at d<;>cases d
  have Q:vs[i]?=Wp v:=by
   unfold start at d;rw[VA (by simpa using t),Vh]at d;cases e:vs[i]? with|none=>rw[e]at d;cases d|some a=>rw[e]at d;cases d;rfl
  obtain⟨u,J,M⟩:=r.get Q;have o:ps[i]?=Wp y:=by
   rw[←S.pre,Xh<|by omega];exact B
  have m:ps.Nodup:=by rw[←S.pre];exact S.nd.sublist<|List.take_sublist _ _
  refine⟨u,M,?_⟩;rcases S.par y (VQ o) with k|k
  .exact .inl ⟨k,yt m o J k⟩
  .obtain⟨c,e⟩:=BK (n:=2#s+1) k
   refine .inr ⟨.inl k,c,e,?_⟩;have q:=x.cell y c e;rw[yw m o J (by show scope.names.lookup y≠_;rw[k];decide)]at q;exact q
 .exact g.hok.fresh<|XG<|x.above y c<|Wi h
 .unfold start
  show _=N.length;rw[Vs,U8,V3];omega
def Jr{K:Va}{k:Nat}{O kV doc M a ct oc:U5}
  {N ps:cr}(lk:K.lookup f=Wp ⟨oc,od,.func<|X6 name qual params body scope O kV doc M an a ct,Y⟩) (G:ZR K a qual=VO) (S:dy N ps scope)
  (len:∀vs H Q E,sp vs H Q E->vs.length=ps.length)
  (g:∀(A:Wh) (outer:List Env) (s:Vm) (H:Hp) (vs:am) (Q:VK) (E:XK),cW k (A.deeper<|envOfC qual scope 2#s f a)->sp vs H Q E ->
   ∃t,z8 (cP CX P w K z base N qual scope f a A outer s H E) body t/\t { nx:=λ_ H'=>Q .non H',rt:=Q } (start N vs) H) :
  ft P w K z base CX (k+1) f (X6 name qual params body scope O kV doc M an a ct) ps sp:=by
 refine⟨len,λA outer s H args U vs Q E C l hb r j=>?_⟩;have hl:=len _ _ _ _ j;have T:K.In s.heap:=l.mod.kin.keeps λb o e=>(l.bs b o e).1;have B:s.heap.NoLimit:=l.mod.nolimit.keeps λb o e=>(l.bs b o e).1;have d:∀y∈ps.zip U,scope.names.lookup y.1=Wp .local ∨ (scope.names.lookup y.1=Wp .cell/\((cellsFrom (2#s+1) scope.names []).lookup y.1).isSome=VO):=λ⟨n,v⟩ hy=>by
  rcases S.par n (YB hy).1 with q|q
  .exact .inl q
  .exact .inr ⟨q,W.cellsFrom_some _ _ _<|.inl q⟩
 refine codeAny_call_function C.depth (T _ _ lk) rfl S.co S.gen rfl (W.codeRec_of T G) (hb _ _ _ _ ?_);refine wpAny_newFunctionEnv_cells S.kind d λab he L x=>?_;subst he;refine⟨B.keeps x.toInCall.keep,codeAny_func ?_⟩;obtain⟨t,ht,hq⟩:=g A outer s H vs Q E (C.deeper _) j;have I:Inv (cP CX P w K z base N qual scope f a A outer s H E) [] (start N vs) H L:=FJ S C.hd l hl r x;refine Wj (ht [] L (start N vs) H _ I hq) (λfl m i=>?_) λe m i=>i;have fin:∀{c:St}{H':Hp}{v:V}{u:U5},Inv (cP CX P w K z base N qual scope f a A outer s H E) [] c H' m->bw v u->Q v H'->CE outer P w H s Q u m :=
  λ{c H' v u} J p q=>⟨v,H',J.os,J.bare,J.base,J.hok,p,q⟩
 cases fl with
 |ret u=>
  obtain⟨v,c,H',J,p,q⟩:=i;exact fin J p q
 |next=>
  obtain⟨c,H',J,q⟩:=i;exact fin (v:=V.non) (u:=WN) J rfl q
 |brk=>
  obtain⟨_,_,_,q⟩:=i;exact V0 q
 |cont=>
  obtain⟨_,_,_,q⟩:=i;exact V0 q
section
variable {X:Cx}{x:Vq}{p pos:Pos}{e:V4}{es:List V4}{t:TA}{id T:String}{r:am->Hp->VK->Prop}
def Ui(r:am->Hp->VK->Prop)(t:TA):TE:=λa H Q=>t a H λb c=>r b c Q
def uv(v:ku X (.builtin id) r)(q:Gl X x)(o:X.mg x=Wb)(m:bootBuiltins x=Wp (.builtin id))(w:PA X (e::es) t)(n:x≠"__name__":=by decide)(b:1#x:=by decide)
  (u:Vg (e::es) X.env=(Vd,eval e X.env)::Vg es X.env:=by rfl)(a:(Wn pos<|Vg es X.env).any (·.1)=Vd:=by rfl):PE X (.Call (.Name x p) (e::es) [] pos) (Ui r t):=by
 intro d s c H Q I h;refine wpAny_Call_Name_kw<|qO I q o m ?_ n b;exact PyProof.Rows.callWith_builtin1 (cM (w pos d s c H _ I h) λg i ⟨f,z,y,j,l⟩=>v d i c z f g Q y j l) u a
def xS(v:ku X (.type T) r)(q:Gl X x)(o:X.mg x=Wb)(m:bootBuiltins x=Wp (.type T))(w:PA X (e::es) t)(n:x≠"__name__":=by decide)(b:1#x:=by decide)
  (u:Vg (e::es) X.env=(Vd,eval e X.env)::Vg es X.env:=by rfl)(a:(Wn pos<|Vg es X.env).any (·.1)=Vd:=by rfl):PE X (.Call (.Name x p) (e::es) [] pos) (Ui r t):=by
 intro d s c H Q I h;refine wpAny_Call_Name_kw<|qO I q o m ?_ n b;exact XW (cM (w pos d s c H _ I h) λg i ⟨f,z,y,j,l⟩=>v d i c z f g Q y j l) u a
end
end L2
namespace HT
open PySem PyProof.Rows
section
variable {prog:V5}{w:Wx}{A:Wh}{E:U5->Vm->Prop}{s:Vm}
def cat_tup(r:IsTup s.heap t vs.toArray)(u:IsTup s.heap b ws.toArray)(m:vs≠[])
  (x:ws=[]->Q (.ref t) s)(v:ws≠[]->Q (.ref 2#s) { s with heap:=s.heap.push { cls:=.type "tuple",data:=.seq (vs++ws).toArray } })
  (hsz:vs.length+ws.length<=sizeLine):VC (Vy prog w) A (binaryOp .Add (.ref t)<|.ref b) Q E s:=by
 obtain⟨⟨cls,p,data,j⟩,i,o,n,hd⟩:=id r;obtain⟨⟨q,g,data2,c⟩,a,f,l,d⟩:=id u;simp only at o hd f d;subst o hd f d;have e:vs.toArray++ws.toArray=(vs++ws).toArray:=by simp
 by_cases hw:ws=[]
 .exact concat_meets ⟨_,i,rfl⟩ ⟨_,a,rfl⟩ noFill_tuple_add seq_tuple_add sak Z9 (Z4 _ _)
   (tuple_addW1 t b vs.toArray ws.toArray n l p g j c (by simpa using m)<|by simp[hw]) ⟨i,a,x hw⟩
 .refine concat_meets ⟨_,i,rfl⟩ ⟨_,a,rfl⟩ noFill_tuple_add seq_tuple_add sak Z9 (Z4 _ _)
   (tuple_addW2 t b vs.toArray ws.toArray n l p g j c (by simpa using m) (by simpa using hw) (by rw[Vx,Vx];exact hsz)) ⟨i,a,?_⟩
  rw[e];exact v hw
def sIx(n d:Nat):Option Int->Nat
 |none=>d
 |some v=>if v<0 then(v+(n:Int)).toNat else min v.toNat n
def sIx_none(n d:Nat):sIx n d Wb=d:=rfl
def sIx_nat(n d k:Nat):sIx n d (Wp (k:Int))=min k n:=by
 show(if(k:Int)<0 then((k:Int)+(n:Int)).toNat else min (k:Int).toNat n)=min k n;rw[eo 0#2,Wo]
def Oo(n d:Nat)(hd:d<=n)(o:Option Int):sIx n d o<=n:=by
 cases o with
 |none=>exact hd
 |some v=>
  show(if v<0 then(v+(n:Int)).toNat else min v.toNat n)<=n
  by_cases a:v<0
  .rw[ef a];omega
  .rw[eo a];exact Nat.min_le_right _ _
def EK(v:Int)(n d:Nat):(if v<0 then max (v+(n:Int)) 0 else min v (n:Int))=((sIx n d (Wp v):Nat):Int):=by
 show(if v<0 then max (v+(n:Int)) 0 else min v (n:Int))=(((if v<0 then(v+(n:Int)).toNat else min v.toNat n):Nat):Int)
 by_cases a:v<0
 .simp only[ef a];omega
 .simp only[eo a];omega
def Dt(lo hi:Option Int)(n:Nat):YQ lo hi 1 (n:Int)=(((sIx n 0 lo:Nat):Int),((sIx n n hi:Nat):Int)):=by
 have a:¬((1:Int)<0):=by omega
 unfold YQ;simp only[a,eH];refine Prod.ext ?_ ?_
 .cases lo with
  |none=>rfl
  |some v=>exact EK v n 0
 .cases hi with
  |none=>rfl
  |some v=>exact EK v n n
def CA(i j:Nat):X5 (i:Int) (j:Int) 1=j-i:=by
 unfold X5;have a:(1:Int) > 0:=by omega
 simp only[a,eP,Int.ediv_one];split<;>omega
def tZ(p:IsPart v o)(h:Q o s):VC (Vy prog w) A (Builtin.Slice.slicePartIndex v) Q E s:=by
 cases p with|none=>exact slicePart_none h|int i t=>exact slicePart_int h
def qF{lo hi:Option Int}{Q:Int×Int×Nat->Vm->Prop}(g:s.heap.IsSliceOf e d c .none)(pl:IsPart d lo)(f:IsPart c hi)
  (h:Q (((sIx n 0 lo:Nat):Int),1,sIx n n hi-sIx n 0 lo) s):VC (Vy prog w) A (Z0 (.ref e)<|pure (n:Int)) Q E s:=by
 obtain⟨os,a,i,b⟩:=id g;unfold Z0 Builtin.Slice.sliceFields;refine Vb<|Vb<|wpAny_field a b (x:=d) rfl (Vb<|wpAny_field a b (x:=c) rfl (Vb<|wpAny_field a b (x:=.none) rfl (VE ?_)));refine Vb<|slicePart_none ?_;show VC _ _ (if((1:Int)==0)=VO then _ else _) _ _ s;rw[eo 0#1];refine Vb<|tZ pl<|Vb<|tZ f<|Vb<|VE ?_;show VC _ _ (match YQ lo hi 1 (n:Int) with|(lo,hi)=>pure (lo,(1:Int),X5 lo hi 1)) _ _ s;rw[Dt lo hi n];show VC _ _ (pure (((sIx n 0 lo:Nat):Int),(1:Int),X5 ((sIx n 0 lo:Nat):Int) ((sIx n n hi:Nat):Int) 1)) _ _ s;rw[CA];exact VE h
def Ia(xs:Array U5)(i k:Nat):((Ws k).filterMap λ(m:Nat)=>xs[((i:Int)+(m:Int)*1).toNat]?).toArray=((xs.toList.drop i).take k).toArray:=by
 have e:(λ(m:Nat)=>xs[((i:Int)+(m:Int)*1).toNat]?)=λm=>xs[i+m]?:=by
  funext m;have:((i:Int)+(m:Int)*1).toNat=i+m:=by omega
  rw[this]
 rw[e];have:=pick_run xs i k;rw[YL]at this;have a:((λx=>xs[x]?)∘λx=>i+x)=λm=>xs[i+m]?:=rfl;rw[a]at this;rw[this]
def getItem_tuple_cut{lo hi:Option Int}(b:IsTup s.heap t items)(i:s.heap.IsSliceOf g l j .none)(pl:IsPart l lo)(n:IsPart j hi)
  (hw:¬(sIx items.size 0 lo=0/\sIx items.size items.size hi=items.size))
  (h:Q (.ref 2#s) { s with heap:=s.heap.push { cls:=.type "tuple",data:=.seq ((items.toList.drop<|sIx items.size 0 lo).take<|sIx items.size items.size hi-sIx items.size 0 lo).toArray } })
  (hsz:items.size<=sizeLine):VC (Vy prog w) A (getItem (.ref t)<|.ref g) Q E s:=by
 have a:sizeOk (.seq ((items.toList.drop<|sIx items.size 0 lo).take<|sIx items.size items.size hi-sIx items.size 0 lo).toArray):=by
  show((items.toList.drop<|sIx items.size 0 lo).take<|sIx items.size items.size hi-sIx items.size 0 lo).toArray.size<=sizeLine;rw[Vx,Wc,Wv,Xl];omega
 have u:sIx items.size items.size hi<=items.size:=Oo _ _ (VB _) hi;obtain⟨os,c,e,o⟩:=id i;have f:s.TypeIs (.ref g) "slice":=⟨os,c,e⟩
 unfold getItem
 try with_reducible refine WW ?_
 first|refine Vb (VE ?_)|skip
 refine Vb (wpAny_sequenceKey b.typeIs 0#1 ?_);refine Vb (wpAny_callSpecial?_slot (name:=Str.ofString "__getitem__") b.typeIs Ys
  (wpAny_call_entry Ys b.typeIs entry_tuple_getitem ?_<|args_tuple_getitem _ _))
 show VC _ _ (Builtin.Tuple.tupleItemsOf (.ref t) >>= _) _ _ s;refine Vb<|tupleItemsOf_ b ?_;refine Vb<|wpAny_typeOf f ?_;rw[ef 0#1];refine Vb<|qF i pl n ?_;have d:¬((((sIx items.size 0 lo:Nat):Int)==0&&(1:Int)==1&&(sIx items.size items.size hi-sIx items.size 0 lo)==items.size)=VO):=by
  intro q;rw[Vv,Vv]at q;have r:((sIx items.size 0 lo:Nat):Int)=0:=eq_of_beq q.1.1;have p:sIx items.size items.size hi-sIx items.size 0 lo=items.size:=eq_of_beq q.2;exact hw ⟨by omega,by omega⟩
 show VC _ _ (if(((sIx items.size 0 lo:Nat):Int)==0&&(1:Int)==1&&(sIx items.size items.size hi-sIx items.size 0 lo)==items.size)=VO then _ else _) _ _ s;rw[eo d,Ia]
 first
  |exact Vb (m:=X9 _)<|wpAny_newObj_type (VE ⟨_,rfl,VE h⟩) a
  |exact Vb (m:=X9 _)<|wpAny_newObj_type (Vb<|VE<|VE ⟨_,rfl,VE h⟩) a
  |exact Vb<|Vb (m:=X9 _)<|wpAny_newObj_type (VE<|VE ⟨_,rfl,VE h⟩) a
  |exact Vb<|Vb (m:=X9 _)<|wpAny_newObj_type (VE ⟨_,rfl,VE h⟩) a
end
end HT
namespace L2
open PySem PySem.Spec PyProof.Rows
abbrev TO:=St->Hp->(Option Int->Hp->Prop)->Prop
def PO(X:Cx)(e:Option V4)(t:TO):Prop :=
 ∀(b:List<|Vi×Obj) (s:Vm) (a:St) (H:Hp) (Q:Option Int->Hp->Prop),Inv X b a H s->t a H Q ->
  VC 4#X X.A (evalPart e X.env) (λu d=>∃o c,Inv X b a c d/\IsPart u o/\Q o c) X.xe s
def KW:TO:=λ_ H Q=>Q Wb H
def QI(t:TE):TO:=λa H Q=>t a H λx b=>∃i,x=.int i/\Q (Wp i) b
section
variable {X:Cx}{e:V4}{te:TE}{lo hi:Option V4}{tl th:TO}{pos p2:Pos}
def Ll:PO X Wb KW:=by
 intro b s a H Q I h;rw[evalPart_none];exact VE ⟨Wb,H,I,.none,h⟩
def Lj(h:PE X e te):PO X (Wp e) (QI te):=by
 intro b s a H Q I hw;rw[evalPart_some];refine cM (h b s a H _ I hw) λu j ⟨x,g,f,c,d⟩=>?_;obtain⟨i,rfl,q⟩:=d;obtain⟨t,rfl⟩:=c;exact⟨Wp i,g,f,.int i t,q⟩
noncomputable def Kn(X:Cx) (r:V->Option Int->Option Int->Hp->VK->Prop):Prop :=
 ∀(b:List<|Vi×Obj) (s:Vm) (a:St) (H:Hp) (x:V) (v d c:U5) (lo hi:Option Int) (f:Vi) (Q:VK),Inv X b a H s->bw x v->s.heap.IsSliceOf f d c .none->IsPart d lo->IsPart c hi->r x lo hi H Q ->
  ∃T id,XY (.type T) "__getitem__"=pure (Wp<|.builtin id)/\s.TypeIs v T/\VC 4#X X.A (getItem v<|.ref f) (EP X b a Q) X.xe s
def Kn.or(h:Kn X r)(h':Kn X l):Kn X (λx lo hi H Q=>r x lo hi H Q∨l x lo hi H Q):=by
 intro b s a H x v d c lo hi f Q I g j pl i q;rcases q with q|q
 .exact h b s a H x v d c lo hi f Q I g j pl i q
 .exact h' b s a H x v d c lo hi f Q I g j pl i q
def Ug(r:V->Option Int->Option Int->Hp->VK->Prop)(te:TE)(tl th:TO):TE:=λa H Q=>te a H λx d=>tl a d λl c=>th a c λu b=>r x l u b Q
def AH(E:Kn X r)(L:PE X e te)(G:PO X lo tl)(B:PO X hi th):PE X (.Subscript e (.Slice lo hi Wb p2) pos) (Ug r te tl th):=by
 intro d s c H Q I h;refine Subscript_<|cM (L d s c H _ I h) λv m ⟨x,H1,Y,n,t⟩=>?_;refine wpAny_Slice<|cM (G d m c H1 _ Y t) λg j ⟨l,H2,U,pl,p⟩=>cM (B d j c H2 _ U p) λf a ⟨u,i,O,y,o⟩=>?_;rw[evalPart_none];refine VE ?_;have N:Inv X d c i { a with heap:=a.heap.push { cls:=.type "slice",data:=.fields #[g,f,.none] } }:=O.kept (t':=a.toks) λb ob q=>Vc _ q;obtain⟨T,id,M,C,J⟩:=E d { a with heap:=a.heap.push { cls:=.type "slice",data:=.fields #[g,f,.none] } } c i x v g f l u 2#a Q N n (Heap.IsSliceOf.new ..) pl y o;show VC 4#X X.A (subscriptTail e (.Slice lo hi Wb p2) v<|.ref 2#a) (EP X d c Q) X.xe { a with heap:=a.heap.push { cls:=.type "slice",data:=.fields #[g,f,.none] } };exact tail_any (ops:=[.ref 2#a,v]) C M J (by with_unfolding_all rfl)
def BI(xs:am)(lo hi:Option Int):am:=(xs.drop<|HT.sIx xs.length 0 lo).take<|HT.sIx xs.length xs.length hi-HT.sIx xs.length 0 lo
def rT(xs:am)(lo hi:Option Int):(BI xs lo hi).length<=xs.length:=by
 unfold BI;rw[Wc,Wv];omega
def Tj(K:Va):V->Option Int->Option Int->Hp->VK->Prop:=λx lo hi H Q=>∃a xs,x=.ref a/\nq K H a xs /\
 ¬(HT.sIx xs.length 0 lo=0/\HT.sIx xs.length xs.length hi=xs.length)/\∀p,H p=Wb->Q (.ref p) (upd H p<|.tup<|BI xs lo hi)
def Oh:Kn X (Tj X.K):=by
 intro n s m H x v t p lo hi w Q I g l pl i h;obtain⟨a,xs,rfl,j,hw,q⟩:=h;cases g;obtain⟨c,r,f,d⟩:=I.tuple j;have hlen:c.toArray.size=xs.length:=by rw[Vx];exact r.length.symm
 refine⟨"tuple",_,Ys.lookup,f.typeIs,?_⟩;refine HT.getItem_tuple_cut f l pl i (by rw[hlen];exact hw) ?_ (by rw[hlen];exact d);rw[hlen];refine⟨.ref 2#s,_,I.laid (t':=s.toks) (o:=.tup<|BI xs lo hi) (λb ob q=>Vc _ q) (VB _) ?_,rfl,q _<|I.hok.fresh<|VB _⟩;exact⟨Vr (rT xs lo hi) d,_,(r.drop<|HT.sIx xs.length 0 lo).take<|HT.sIx xs.length xs.length hi-HT.sIx xs.length 0 lo,sae _ _⟩
def Rh(K:Va):R2:=λx y H Q=>∃a b xs c,x=.ref a/\y=.ref b/\nq K H a xs/\nq K H b c/\xs≠[]/\xs.length+c.length<=sizeLine /\
 (c=[]->Q (.ref a) H)/\(c≠[]->∀p,H p=Wb->Q (.ref p) (upd H p<|.tup<|xs++c))
def bh.nil_iff(r:bh xs a):a=[]↔xs=[]:=by
 cases r with|nil|cons _ _=>simp
def LH:ia X (binaryOp .Add) (Rh X.K):=by
 intro E s C H x y v u Q I l j h;obtain⟨a,b,xs,i,rfl,rfl,B,A,t,g,n,m⟩:=h;cases l;cases j;obtain⟨r,d,p,_⟩:=I.tuple B;obtain⟨f,c,p2,_⟩:=I.tuple A;refine HT.cat_tup p p2 (λz=>t<|d.nil_iff.mp z) (λz=>⟨.ref a,H,I,rfl,n<|c.nil_iff.mp z⟩) (λz=>?_) (by rw[←d.length,←c.length];exact g);refine⟨.ref 2#s,_,I.laid (t':=s.toks) (o:=.tup<|xs++i) (λb ob q=>Vc _ q) (VB _) ?_,rfl,m (λw=>z<|c.nil_iff.mpr w) _<|I.hok.fresh<|VB _⟩;exact⟨by rw[Vs];exact g,_,d.append c,sae _ _⟩
end
def xt(n:Nat)(i:Int):Option Nat:=if 0<=i then(if i<n then Wp i.toNat else Wb) else if -(n:Int)<=i then Wp (i+n).toNat else Wb
def atI{a:Type}(xs:List a)(i:Int):Option a:=(xt xs.length i).bind λj=>xs[j]?
def zv(h:xt n i=Wp j):seqIndex? i n=Wp j/\j<n/\-(n:Int)<=i/\i<n:=by
 unfold xt at h
 by_cases b:0<=i
 .rw[ef b]at h
  by_cases a:i<n
  .rw[ef a]at h
   have e:i.toNat=j:=V8 h;exact⟨by rw[seqIndex_of b a,e],by omega,by omega,a⟩
  .rw[eo a]at h;cases h
 .rw[eo b]at h
  by_cases a:-(n:Int)<=i
  .rw[ef a]at h
   have e:(i+n).toNat=j:=V8 h;exact⟨by rw[seqIndex_neg 0#2 a,e],by omega,a,by omega⟩
  .rw[eo a]at h;cases h
def zV{v:f}(h:atI xs i=Wp v):∃j,seqIndex? i xs.length=Wp j/\xs[j]?=Wp v/\j<xs.length/\-(xs.length:Int)<=i/\i<xs.length:=by
 unfold atI at h;cases e:xt xs.length i with
 |none=>rw[e]at h;cases h
 |some j=>
  rw[e]at h;obtain⟨d,c,b,a⟩:=zv e;exact⟨j,d,h,c,b,a⟩
def gp{j:Nat}{v:a}(h:xs[j]?=Wp v):atI xs (j:Int)=Wp v:=by
 have b:j<xs.length:=(Vn.mp h).1;have e:xt xs.length (j:Int)=Wp j:=by
  unfold xt;rw[ef 0#2,ef<|by omega];simp
 unfold atI;rw[e];exact h
def z7(b:V4):Prop:=∀o i,subscripted b Vd o i=operate [o,i] (getItem o i)
noncomputable def Ko(X:Cx) (r:R2):Prop :=
 ∀(value slice:V4) (b:List<|Vi×Obj) (s:Vm) (a:St) (H:Hp) (x y:V) (v u:U5) (Q:VK),Inv X b a H s->bw x v->bw y u->r x y H Q ->
  subscripted slice Vd v u=operate [v,u] (getItem v u)->VC 4#X X.A (subscriptTail value slice v u) (EP X b a Q) X.xe s
noncomputable def SO(X:Cx) (id:String) (r:V->am->Hp->VK->Prop):Prop :=
 ∀(b:List<|Vi×Obj) (s:Vm) (a:St) (H:Hp) (x:V) (xs:am) (v:U5) (c:List U5) (Q:VK),Inv X b a H s->bw x v->bh xs c->r x xs H Q ->
  VC 4#X X.A (call (.builtin id) (v::c)) (EP X b a Q) X.xe s
section
variable {X:Cx}{a b:V4}{ta tb:TE}{pos:Pos}
def Ko.or(h:Ko X r)(h':Ko X i):Ko X (λx y H Q=>r x y H Q∨i x y H Q):=by
 intro value slice d s c H x y v u Q I f e q g;rcases q with q|q
 .exact h value slice d s c H x y v u Q I f e q g
 .exact h' value slice d s c H x y v u Q I f e q g
def Rr(j:Ko X r)(m:PE X a ta)(l:PE X b tb)(i:z7 b):PE X (.Subscript a b pos) (QJ r ta tb):=by
 intro d s c H Q I h;exact Subscript_<|P0 m l I h λv u e x y o n g f q=>j a b d e c o x y v u Q n g f q<|i _ _
def Q9(K:Va):R2:=λx y H Q=>∃p xs i v,x=.ref p/\y=.int i/\fm K H p xs/\atI xs i=Wp v/\Q v H
def Q7(K:Va):R2:=λx y H Q=>∃p xs i v,x=.ref p/\y=.int i/\nq K H p xs/\atI xs i=Wp v/\Q v H
def Q8:R2:=λx y H Q=>∃z i c,x=.str z/\y=.int i/\z.length<=sizeLine/\atI z.cps.toList i=Wp c/\Q (.str ⟨#[c]⟩) H
def L4:Ko X (Q9 X.K):=by
 intro value slice l s g H x y v u Q I C B h m;obtain⟨p,xs,i,z,rfl,rfl,E,J,q⟩:=h;cases C;obtain⟨t,rfl⟩:=B;obtain⟨e,r,pl,O⟩:=I.list E;obtain⟨j,c,N,U,M,L⟩:=zV J;obtain⟨w,o,d⟩:=r.get N;have G:=r.length;have T:=uM;have fin:EP X l g Q w s:=⟨z,H,I,d,q⟩
 by_cases n:0<=i
 .have f:i.toNat=j:=by
   rw[seqIndex_of n L]at c;exact V8 c
  exact item_listR pl.isList n 0#2 (by rw[f];simpa using o) fin m
 .have f:(i+(e.toArray.size:Int)).toNat=j:=by
   rw[seqIndex_neg 0#2 M]at c;rw[Vx,←G];exact V8 c
  exact subscriptTail_builtinR (x:=w) pl.isList.typeIs slot_list_getitem.lookup
   (wpAny_getItem_list_neg (Q:=λr A=>r=w/\EP X l g Q r A) pl.isList 0#2 (by rw[Vx]<;>omega) 0#2 (by rw[f];simpa using o) ⟨rfl,fin⟩) m
def Pa:Ko X (Q7 X.K):=by
 intro value slice e s d H x y v u Q I l g h n;obtain⟨p,xs,i,z,rfl,rfl,o,B,q⟩:=h;cases l;obtain⟨t,rfl⟩:=g;obtain⟨m,r,pl,J⟩:=I.tuple o;obtain⟨j,E,C,O,N,M⟩:=zV B;obtain⟨w,G,c⟩:=r.get C;have A:=r.length;have L:=uM;have fin:EP X e d Q w s:=⟨z,H,I,c,q⟩
 exact subscriptTail_builtinR (x:=w) pl.typeIs slot_tuple_getitem.lookup
  (getItem_tuple (j:=j) (Q:=λr f=>r=w/\EP X e d Q r f) pl 0#2 0#2 (by rw[Vx,←A];exact E) (by simpa using G) ⟨rfl,fin⟩) n
def Pb:Ko X Q8:=by
 intro value slice B s A H x y v u Q I f e h g;obtain⟨z,i,c,rfl,rfl,E,m,q⟩:=h;obtain⟨t,rfl⟩:=f;obtain⟨C,rfl⟩:=e;obtain⟨j,d,p,J,o,n⟩:=zV m;have l:z.cps.toList.length=z.length:=by simp[Str.length]
 rw[l]at d o n;have G:=uM;exact tail_any (typeIs_str s z t) slot_str_getitem.lookup (getItem_str (c:=c) (by
  have w:decide (i < -(2 ^ 63:Int))=Vd:=en 0#2;have r:decide (i≥2 ^ 63)=Vd:=en 0#2;rw[w,r,Zk]) (by rw[d];simpa using p) ⟨.str ⟨#[c]⟩,H,I.tok _,⟨_,rfl⟩,q⟩) g
def Uk(K:Va):R2:=λx y H Q=>Q9 K x y H Q∨Q7 K x y H Q∨Q8 x y H Q
def Pc:Ko X (Uk X.K):=L4.or<|Pa.or Pb
def CQ(its:List U5)(n j:Nat)(u:U5):Zo (·.setIfInBounds j u) { cls:=.type "list",data:=.seq its.toArray n }={ cls:=.type "list",data:=.seq (its.set j u).toArray n }:=by
 simp[Zo]
def Inv.lst(I:Inv X d c H s)(h:H p=Wp (.lst xs)) :
  ∃(its:List U5) (n:Nat),bh xs its/\s.heap.get? p=Wp { cls:=.type "list",data:=.seq its.toArray n }/\xs.length<=sizeLine:=by
 obtain⟨z,its,n,r,e⟩:=I.hok p _ h;exact⟨its,n,r,e,z⟩
def Inv.lstUpd{its its':List U5}(I:Inv X j i H s)(h:H p=Wp (.lst xs))
  (m:s.heap.get? p=Wp { cls:=.type "list",data:=.seq its.toArray n })(g:f { cls:=.type "list",data:=.seq its.toArray n }={ cls:=.type "list",data:=.seq its'.toArray d })(r:bh c its')(l:c.length<=sizeLine)(t:Nat) :
  Inv X j i (upd H p<|.lst c) { s with heap:=s.heap.update p f,toks:=t }:=by
 have e:(s.heap.update p f).get? p=Wp { cls:=.type "list",data:=.seq its'.toArray d }:=by
  rw[W9 f m (by rw[g]<;>rfl),g]
 refine I.write (x:=p) (e:=p) (by rw[h];trivial) (.inl rfl) (λb u o q=>(W5 _ _<|V6 o).trans q) ⟨_,e⟩ ?_;exact⟨l,its',d,r,e⟩
def Nr:V->V->V->Hp->(Hp->Prop)->Prop:=λo i v H Q=>∃p xs k j,o=.ref p/\i=.int k/\H p=Wp (.lst xs)/\xt xs.length k=Wp j/\Q (upd H p<|.lst<|xs.set j v)
def Aw:Sh X Nr:=by
 intro A s z H o i v J L u Q I C ri B h;obtain⟨p,xs,k,j,rfl,rfl,l,G,q⟩:=h;cases C;obtain⟨t,rfl⟩:=ri;obtain⟨c,n,r,e,E⟩:=I.lst l;obtain⟨d,N,w,m⟩:=zv G;have f:=r.length;have M:=uM;have y:Inv X A z (upd H p<|.lst<|xs.set j v) { s with heap:=s.heap.update p (Zo (·.setIfInBounds j u)) } :=
  I.lstUpd l e (CQ c n j u) (r.set B j) (by rw[List.length_set];exact E) s.toks
 by_cases x:0<=k
 .have g:k.toNat=j:=by
   rw[seqIndex_of x m]at d;exact V8 d
  exact W.ki_setAt e x 0#2 (by rw[Vx,←f];exact m) (by rw[g];exact⟨_,y,q⟩)
 .have g:(k+(c.toArray.size:Int)).toNat=j:=by
   rw[seqIndex_neg 0#2 w]at d;rw[Vx,←f];exact V8 d
  exact W.ki_setBack e 0#2 (by rw[Vx,←f];exact w) 0#2 (by rw[g];exact⟨_,y,q⟩)
def yQ(lo hi:Option Int)(n:Nat):(sliceBounds lo hi Wb n).1=((HT.sIx n 0 lo:Nat):Int)/\(sliceBounds lo hi Wb n).2.1=((HT.sIx n n hi:Nat):Int)/\(sliceBounds lo hi Wb n).2.2=1:=by
 refine⟨?_,?_,rfl⟩
 .cases lo with
  |none=>simp[sliceBounds,HT.sIx]
  |some i=>
   simp only[sliceBounds,HT.sIx,Option.getD_none,show(1:Int) > 0 by decide,eP]
   by_cases h:i<0
   .simp only[h,eP]<;>omega
   .simp only[h,eH]<;>omega
 .cases hi with
  |none=>simp[sliceBounds,HT.sIx]
  |some i=>
   simp only[sliceBounds,HT.sIx,Option.getD_none,show(1:Int) > 0 by decide,eP]
   by_cases h:i<0
   .simp only[h,eP]<;>omega
   .simp only[h,eH]<;>omega
def wY(its:List U5)(lo hi:Option Int):slicePick its.toArray lo hi Wb=((its.drop<|HT.sIx its.length 0 lo).take<|HT.sIx its.length its.length hi-HT.sIx its.length 0 lo).toArray:=by
 obtain⟨e,d,c⟩:=yQ lo hi its.toArray.size;unfold slicePick;rw[e,d,c];simp only[sliceRange_one,pick_run,Vx]<;>rfl
def Tp(K:Va):V->Option Int->Option Int->Hp->VK->Prop:=λx lo c H Q=>∃a xs,x=.ref a/\fm K H a xs/\∀p,H p=Wb->Q (.ref p) (upd H p<|.lst<|BI xs lo c)
def DR:Kn X (Tp X.K):=by
 intro n s m H x v t p lo c w Q I e l pl f h;obtain⟨a,xs,rfl,j,q⟩:=h;cases e;obtain⟨g,r,d,i⟩:=I.list j;have hlen:=r.length;refine⟨"list",_,slot_list_getitem.lookup,d.isList.typeIs,?_⟩;refine wpAny_getItem_list_slice d.isList l pl f .none 0#3 ?_ (by rw[Vx]<;>omega);rw[wY,←hlen];refine⟨.ref 2#s,_,I.laid (t':=s.toks) (o:=.lst<|BI xs lo c) (λb ob q=>Vc _ q) (VB _) ?_,rfl,q _<|I.hok.fresh<|VB _⟩;exact⟨Vr (rT xs lo c) i,_,0,(r.drop<|HT.sIx xs.length 0 lo).take<|HT.sIx xs.length xs.length c-HT.sIx xs.length 0 lo,V1 _ rfl⟩
def zf:ia X (Wf .NotIn) (λx y H Q=>∃i j,x=.str i/\y=.str j/\Q (.bl (!(!(Y4 j i 0 j.length 1).isEmpty))) H):=by
 intro f s e H x y v u Q I d c h;obtain⟨i,j,rfl,rfl,q⟩:=h;obtain⟨t,rfl⟩:=d;obtain⟨g,rfl⟩:=c;exact notIn_str ⟨.bl _,H,I,rfl,q⟩
def qe:ku X (.type "list") (λxs H Q=>∃p f,xs=[.ref p]/\(fm X.K H p f∨nq X.K H p f)/\∀l,H l=Wb->Q (.ref l) (upd H l<|.lst f)):=by
 intro A s z H xs C Q I r h;obtain⟨p,f,rfl,t,q⟩:=h;obtain⟨u,rfl,B⟩:=tU r;cases B;have fin:∀(c:List U5),bh f c->f.length<=sizeLine->∀(d:Vu) (i:Nat),(∀b y,s.heap.get? b=Wp y->d.get? b=Wp y) ->
   d.get? 2#s=Wp { cls:=.type "list",dict:=none,data:=.seq c.toArray i,slots:=#[] }->EP X A z Q (.ref 2#s) { s with heap:=d }:=λc g m d i j e=>
  ⟨.ref 2#s,_,I.laid (t':=s.toks) j (VB _) (show bV X.prog X.w _ d _ (.lst f) from⟨m,c,i,g,e⟩),rfl,q _<|I.hok.fresh<|VB _⟩
 rcases t with t|t
 .obtain⟨c,g,pl,m⟩:=I.list t
  have hlen:=g.length;obtain⟨o,v,x,n,hd⟩:=pl.isList;exact call_list_seq p (.inl rfl) v x hd (λd i j e=>fin c g m d i j e) (by simp only[Vx]<;>omega)
 .obtain⟨c,g,pl,m⟩:=I.tuple t
  have hlen:=g.length;obtain⟨o,v,x,n,hd⟩:=pl;exact call_list_seq p (.inr rfl) v x hd (λd i j e=>fin c g m d i j e) (by simp only[Vx]<;>omega)
def gS:ku X (.type "tuple") (λxs H Q=>∃p d,xs=[.ref p]/\((fm X.K H p d/\∀l,H l=Wb->Q (.ref l) (upd H l<|.tup d))∨(nq X.K H p d/\Q (.ref p) H))):=by
 intro m s j H xs A Q I r h;obtain⟨p,d,rfl,h⟩:=h;obtain⟨u,rfl,x⟩:=tU r;cases x;rcases h with⟨i,q⟩|⟨i,q⟩
 .obtain⟨c,g,pl,n⟩:=I.list i
  have hlen:=g.length;refine call_tuple_list pl.isList (λf y=>?_) (by simp only[Vx]<;>omega);have t:Inv X m j H { s with heap:=f }:=I.kept (t':=s.toks) y;have z:Inv X m j (upd H f.objs.size<|.tup d) { s with heap:=f.push { cls:=.type "tuple",data:=.seq c.toArray } } :=
   t.laid (t':=s.toks) (λb o e=>Vc _ e) (VB _) (show bV X.prog X.w _ _ _ (.tup d) from⟨n,c,g,sae _ _⟩)
  exact⟨.ref f.objs.size,_,z,rfl,q _<|t.hok.fresh<|VB _⟩
 .obtain⟨c,g,pl,n⟩:=I.tuple i
  exact call_tuple_same pl ⟨.ref p,H,I,rfl,q⟩
noncomputable def Ud(K:Va) (T:String) (x:V) (H:Hp):Prop:=match x with
 |.str _=>T="str"
 |.int _=>T="int"
 |.ref p=>(T="list"/\∃xs,fm K H p xs)∨(T="tuple"/\∃o,K.lookup p=Wp o/\o.cls=.type "tuple"/\o.dict=Wb) ∨
   (T="dict"/\((∃c,H p=Wp (.dK c))∨∃c,H p=Wp (.dT c)))∨(T="set"/\∃S n,H p=Wp (.set S n))
 |_=>False
def N1(I:Inv X w u H s)(r:bw x v)(ty:Ud X.K T x H) :
  s.TypeIs v T/\∀a,v=.ref a->∃ob,s.heap.get? a=Wp ob/\ob.dict=Wb:=by
 cases x with
 |str z=>
  obtain⟨t,rfl⟩:=r;cases (show T="str" from ty);exact⟨typeIs_str s z t,λ_ e=>nomatch e⟩
 |int i=>
  obtain⟨t,rfl⟩:=r;cases (show T="int" from ty);exact⟨typeIs_int s i t,λ_ e=>nomatch e⟩
 |ref p=>
  cases r;rcases ty with⟨rfl,xs,m⟩|⟨rfl,o,d,q,hd⟩|⟨rfl,d⟩|⟨rfl,S,n,d⟩
  .obtain⟨l,_,pl,_⟩:=I.list m
   refine⟨pl.isList.typeIs,λa e=>?_⟩;cases e;obtain⟨o,n,e,c,hd,_⟩:=pl;exact⟨o,e,hd⟩
  .refine⟨⟨o,I.kIn p o d,q⟩,λa e=>?_⟩
   cases e;exact⟨o,I.kIn _ o d,hd⟩
  .have z:∃o,s.heap.get? p=Wp o/\o.ExactDict:=by
    rcases d with⟨g,d⟩|⟨g,d⟩
    .obtain⟨_,_,_,_,o,_,_,e,f,_⟩:=I.hok p _ d
     exact⟨o,e,f⟩
    .obtain⟨_,_,_,_,o,_,_,e,f,_⟩:=I.hok p _ d
     exact⟨o,e,f⟩
   obtain⟨o,e,f⟩:=z;refine⟨⟨o,e,f.1⟩,λa j=>?_⟩;cases j;exact⟨o,e,f.2.1⟩
  .obtain⟨o,_,_,_,e,f,_⟩:=I.hok p _ d
   refine⟨⟨o,e,f.1⟩,λa j=>?_⟩;cases j;exact⟨o,e,f.2.1⟩
 |_=>exact V0 ty
def UJ(K:Va)(T:String)(r:V->am->Hp->VK->Prop)(e:TE)(t:TA):TE:=λc H Q=>e c H λx d=>Ud K T x d/\t c d λxs f=>r x xs f Q
variable {o e:V4}{es:List V4}{to:TE}{t:TA}{name:Vq}{apos cpos:Pos}{T id:String}{r:V->am->Hp->VK->Prop}
def AI(C:PlainAttrs T)(slot:Slot T name id)(l:typeOf (.builtin id)=pure (.type "method_descriptor"))(J:SO X id r)(G:PE X o to)(L:PA X (e::es) t)
  (f:Xe o name X.env (eval o X.env)=eval o X.env:=by rfl)
  (g:((Wn cpos<|Vg (e::es) X.env).all (λx=>!x.1)&&(YK cpos<|XA [] X.env).all (λx=>x.1.isSome)
  &&decide ((e::es).length+([]:List Yc).length+(if([]:List Yc).isEmpty then 0 else 1)<30))=VO:=by rfl)
  (d:(apos.endLine==cpos.line)=VO:=by rfl) (E:Vg (e::es) X.env=(Vd,eval e X.env)::Vg es X.env:=by rfl) (c:(Wn cpos<|Vg es X.env).any (·.1)=Vd:=by rfl) :
  PE X (.Call (.Attribute o name apos) (e::es) [] cpos) (UJ X.K T r to t):=by
 intro j s i H Q I h;refine wpAny_Call_method_late f g d rfl (cM (G j s i H _ I h) λv y ⟨x,Y,p,m,ty,B⟩=>?_);obtain⟨N,M⟩:=N1 p m ty;refine⟨T,id,C,slot,l,N,M,?_⟩;have n:=L cpos j y i Y _ p B;rw[E]at n ⊢;refine sat (by show(Vd||(Wn cpos<|Vg es X.env).any (·.1))=Vd;rw[c]<;>rfl)<|X2 ?_;exact cM n λu w ⟨q,U,O,z,A⟩=>J j w i U x q v u Q O m z A
end
noncomputable def Uu(X:Cx) (id:String) (r:V->am->Hp->VK->Prop):Prop :=
 ∀(b:List<|Vi×Obj) (s:Vm) (a:St) (H:Hp) (x:V) (xs:am) (v:U5) (c:List U5) (Q:VK),Inv X b a H s->bw x v->bh xs c->r x xs H Q ->
  VC 4#X X.A (call (.builtin id) (v::c)) (EP X b a Q) X.xe s
theorem bh.one:∀{x:V}{a:List U5},bh [x] a->∃u,a=[u]/\bw x u
 |_,_,.cons r .nil=>⟨_,rfl,r⟩
theorem bh.eraseIdx:∀{xs:am}{a:List U5}(i:Nat),bh xs a->bh (xs.eraseIdx i) (a.eraseIdx i)
 |_,_,_,.nil=>.nil
 |_,_,0,.cons _ t=>t
 |_,_,i+1,.cons r t=>.cons r<|bh.eraseIdx i t
theorem bh.rep(h:bh xs a):∀k:Nat,bh (Vt k xs).flatten (Vt k a).flatten
 |0=>.nil
 |k+1=>by
  rw[VU,VU,WO,WO];exact bh.append h<|bh.rep h k
theorem xY{a:Type}:∀(l:List a) (i:Nat),(l.eraseIdx i).length<=l.length
 |[],_=>VB _
 |_::_,0=>saH _
 |_::r,i+1=>Nat.succ_le_succ<|xY r i
theorem yf(its:List U5):∀(k:Nat) (acc:List U5),
  List.foldl (λx1 x2=>x1++x2) acc.toArray (Vt k its.toArray)=(acc++(Vt k its).flatten).toArray
 |0,acc=>by simp
 |k+1,acc=>by
  have e:acc.toArray++its.toArray=(acc++its).toArray:=by simp
  have a:(acc++its)++(Vt k its).flatten=acc++(Vt (k+1) its).flatten:=by
   rw[VU,WO,XX]
  rw[←a,←yf its k (acc++its),←e,VU,XJ]
section
variable {X:Cx}{π:List (Vi×Obj)}{σ:St}{H:Hp}{s:Vm}{l b:Vi}{xs ys zs:am}
def Inv.lset{its its':List U5}(I:Inv X π σ H s)(j:H l=Wp (.lst xs))
  (e:s.heap.get? l=Wp { cls:=.type "list",data:=.seq its.toArray n })(g:f its.toArray=its'.toArray)(c:bh ys its')(a:ys.length<=sizeLine) :
  Inv X π σ (upd H l<|.lst ys) { s with heap:=s.heap.update l<|Zo f,toks:=t' }:=by
 have q:=PySem.IsL.update e f;rw[g]at q;refine I.write (x:=l) (e:=l) (by rw[j];exact trivial) (.inl rfl) (λm u i d=>(W5 s.heap (Zo f)<|V6 i).trans d) ⟨_,q⟩ ?_;exact⟨a,its',_,c,q⟩
def Inv.lnew(I:Inv X π σ H s)(c:bh ys its)(a:ys.length<=sizeLine) :
  Inv X π σ (upd H 2#s<|.lst ys) { s with heap:=s.heap.push { cls:=.type "list",data:=.seq its.toArray },toks:=t' } :=
 I.laid (λ_ _ q=>Vc _ q) (VB _) ⟨a,its,0,c,V1 _ rfl⟩
def Inv.fresh(I:Inv X π σ H s):H 2#s=Wb:=I.hok.fresh<|VB _
def Inv.lstM(I:Inv X π σ H s)(a:H l=Wp (.lst xs)):xs.length<=sizeLine/\∃(its:List U5) (n:Nat),bh xs its/\xs.length=its.length/\s.heap.get? l=Wp { cls:=.type "list",data:=.seq its.toArray n }:=by
 obtain⟨z,its,n,r,e⟩:=I.hok l _ a;exact⟨z,its,n,r,r.length,e⟩
def Iy(h:n<=sizeLine):YZ n=Vd:=by
 unfold YZ;exact en 0#2
end
section
variable {X:Cx}
def K8:V->am->Hp->VK->Prop:=λx a H Q=>∃l xs y,x=.ref l/\a=[y]/\H l=Wp (.lst xs)/\xs.length<sizeLine/\Q .non (upd H l<|.lst<|xs++[y])
def xW:Uu X "list.append" K8:=by
 intro j s i H x m v o Q I d f h;obtain⟨l,xs,y,rfl,rfl,c,p,q⟩:=h;cases d;obtain⟨u,rfl,g⟩:=f.one;obtain⟨z,a,n,r,t,e⟩:=I.lstM c;refine call_meets F.slot_list_append ⟨_,e,rfl⟩ F.entry_list_append (F.args_list_append_2 _ _) (PySem.list_append l a.toArray n u (by rw[Vx];omega)) ⟨e,?_⟩;refine⟨.non,_,I.lset (its':=a++[u]) c e 0#3 (r.append<|.cons g .nil) ?_,rfl,q⟩;rw[Vs,WG];omega
def Ow:V->am->Hp->VK->Prop:=λx a H Q=>∃l xs i k y,x=.ref l/\a=[.int i]/\H l=Wp (.lst xs)/\-(2 ^ 63)<=i/\i<2 ^ 63/\seqIndex? i xs.length=Wp k/\xs[k]?=Wp y/\Q y (upd H l<|.lst<|xs.eraseIdx k)
def IH:Uu X "list.pop" Ow:=by
 intro E s C H x G v J Q I f g h;obtain⟨l,xs,i,k,y,rfl,rfl,d,B,A,p,m,q⟩:=h;cases f;obtain⟨u,rfl,j⟩:=g.one;obtain⟨t,rfl⟩:=j;obtain⟨z,a,n,r,o,e⟩:=I.lstM d;obtain⟨w,hw,b⟩:=r.get m;refine call_meets F.slot_list_pop ⟨_,e,rfl⟩ F.entry_list_pop (F.args_list_pop_2 _ _)
  (MeetsSeq.list_pop_at l a.toArray n i t k w (fitsIndex_both B A) (by rw[Vx,←o];exact p) (by rw[←Array.getElem?_toList];exact hw) (by rw[Vx];omega)) ⟨e,?_⟩
 refine⟨y,_,I.lset (its':=a.eraseIdx k) d e ?_ (r.eraseIdx k) ?_,b,q⟩
 .show a.toArray.eraseIdxIfInBounds k=(a.eraseIdx k).toArray
  rw[List.eraseIdxIfInBounds_toArray]
 .have:=xY xs k
  omega
def Tq:R2:=λx y H Q=>∃l k xs,x=.ref l/\y=.int k/\H l=Wp (.lst xs)/\-(2 ^ 63)<=k/\k<2 ^ 63/\xs.length*k.toNat<=sizeLine /\
 ∀p,H p=Wb->Q (.ref p) (upd H p<|.lst (Vt k.toNat xs).flatten)
def LV{a:Type}(xs:List a)(k:Nat):(Vt k xs).flatten.length=k*xs.length:=by
 induction k with|zero=>simp|succ k b=>rw[VU,WO,Vs,b,Nat.succ_mul,Nat.add_comm]
def OS:ia X (binaryOp .Mult) Tq:=by
 intro M s L H x y v u Q I A w h;obtain⟨l,k,xs,rfl,rfl,C,G,E,o,q⟩:=h;cases A;obtain⟨t,rfl⟩:=w;obtain⟨z,b,n,r,B,e⟩:=I.lstM C;have hlen:b.toArray.size*k.toNat<=sizeLine:=by rw[Vx,←B];exact o
 have g:¬b.toArray.size*k.toNat > (2 ^ 63-1) / 8:=by
  have:(sizeLine:Nat)<=(2 ^ 63-1) / 8:=by decide
  omega
 have f:¬(!Builtin.List.listFitsIndex k)=VO:=by
  rw[fitsIndex_both G E];exact WL
 have c:¬YZ (b.toArray.size*k.toNat)=VO:=by
  rw[Iy hlen];exact WL
 have d:List.foldl (λj i=>j++i) #[] (Vt (if b.toArray.isEmpty=VO then 0 else k.toNat) b.toArray)=(Vt k.toNat b).flatten.toArray:=by
  have J:∀m:Nat,List.foldl (λj i=>j++i) #[] (Vt m b.toArray)=(Vt m b).flatten.toArray:=λm=>by
   have:=yf b m [];rwa[WS]at this
  rw[J];cases b with|nil=>simp|cons a O=>rw[eo 0#3]
 refine wpAny_binaryOp_repeat_ref (T:="list") (U:="int") 0#1 ⟨_,e,rfl⟩ (λp=>typeIs_int p k t) noFill_list_mul F.fills_int_mul F.slot_int_rmul repeat_list F.slot_int_index.lookup
  (call_meets F.slot_int_rmul (typeIs_int s k t) F.entry_int_rmul (F.args_int_rmul_2 _ _) (int___rmul___int_list k t l b.toArray n)
   ⟨e,rfl,⟨_,e,rfl⟩,call_meets F.slot_list_mul ⟨_,e,rfl⟩ F.entry_list_mul (F.args_list_mul_2 _ _) (AutoListH.list___mul___list_int_3 l b.toArray n k t f g c) ⟨e,?_⟩⟩)
 rw[d];exact⟨.ref _,_,I.lnew (t':=s.toks) (r.rep k.toNat) (by rw[LV,Nat.mul_comm];exact o),rfl,q _ I.fresh⟩
end
end L2
namespace Att
open PySem PySem.W PySem.Calls PyProof.Rows
def sI{h:Vu}:∀(ns:List Int) (vs:List U5),WellAll P h vs (ns.map WData.int)->IntsAre vs ns:=by
 intro ns
 induction ns with
 |nil=>
  intro vs w;rw[Xg]at w;cases w;exact .nil
 |cons n ns c=>
  intro vs w;rw[Vf]at w;cases w with
  |cons a b=>
   cases a;exact .cons _ _<|c _ b
def Fe{l:OpenLaw}(t:l.most=Wp n){h:Vu} 
  (b:l.row.toRowW.claim.pre args=VO)(g:WellAll P h vals args) :
  ∃a vs ns,vals=[VG a]/\args=[WData.list<|ns.map WData.int]/\h.get? a=Wp { cls:=.type "list",data:=.seq vs.toArray }/\IntsAre vs ns/\ns.length<=n:=by
 have i:WShape.hasAll [] args [.list .int]=VO:=(pre_splitW b).1;have j:l.pre.holds [] { args:=args }=VO:=(pre_splitW b).2;obtain⟨d,r,rfl,w,v⟩:=hasAllW_cons i;obtain rfl:=hasAllW_nil v;obtain⟨xs,rfl,u⟩:=hasW_list w;obtain⟨ns,rfl⟩:=items_int u;have hlen:ns.length<=n:=by
  unfold OpenLaw.pre at j;have f:(WTm.not<|.lt (.lit<|.int (n:Int))<|.len<|.arg 0).holds [] { args:=[.list<|ns.map .int] }=VO:=by
   have f:=(holds_andW j).1;rwa[t]at f
  have e:=condW_of f<|w_not<|w_lt w_lit<|w_len_list<|w_arg rfl;rw[U8]at e;refine Nat.le_of_not_lt λq=>?_;have p:(n:Int)<((ns.length:Nat):Int):=by omega
  first
   |(rw[dV p]at e;exact er e<|by decide)
   |(simp at e;omega)
 cases g with
 |cons o m=>
  cases m;cases o with|list s c=>exact⟨_,_,ns,rfl,rfl,s,sI ns _ c,hlen⟩
def Fj(l:OpenLaw)(args:List WData):l.row.toRowW.claim.post args (.bool VO) args=VO :=
 postW_of (r:=l.row.toRowW) (X:=(VO==VO))
  (show WShape.has [] (.bool VO) .bool=VO by first|rfl|decide|simp[WShape.has,WShape.arms,WShape.armsAll])
  (show(WTm.eq .res<|.lit<|.bool VO).value [] { args:=args,res:=some<|.bool VO,after:=args }=Wp (.bool<|VO==VO) from w_eq_bool (w_res rfl) w_lit) rfl
def attach_call{l:OpenLaw} 
  (C:l.most=Wp n)(u:d.params.defaults=[])
  (call:∀(w:Wx) (sf b:Vm) (i p:Vq->Option U5) (g:Vi) (o:Obj) (m j doc:U5) (a:Vi) (vs:List U5) (ns:List Int),
   Ground q loose [] Q w sf i p b.heap->O w b.heap ->
   b.heap.get? g=Wp o->o.data=.func (docDef d.name d.params d.body d.scope m j doc)->b.heap.CodeRec j d.name->i d.name=Wp (.ref g) ->
   b.heap.get? a=Wp { cls:=.type "list",data:=.seq vs.toArray }->IntsAre vs ns->ns.length<=n->b.gens=#[] ->
   Xm (Vy l.prog w) callerA (.call (.ref g) ⟨[.ref a],[]⟩) (λr s'=>r=.ok (.ret<|.bool VO)/\OldK b.heap s'.heap/\s'.os=b.os/\AllBare s'.gens) b) :
  WalkO q loose Q O l.row.toRowW d [] (λf vs=>PySem.call f vs):=by
 intro w sf b i p G Y g o m j doc N kV B hd v y t I args vals T c x z s H;obtain rfl:N=.none:=Dflts.none y u;obtain rfl:kV=.none:=Dflts.noKw y;obtain⟨a,vs,ns,rfl,rfl,e,hints,hlen⟩:=Fe C c s;refine enter_call<|codeAny_mono (call w sf b i p g o m j doc a vs ns G Y B (fd_plain hd) v t e hints hlen I) λr s' A=>?_;obtain⟨rfl,M,L,J⟩:=A;exact⟨.inl ⟨.bool VO,.bool VO,[],rfl,λ_=>rfl,.bool VO,Fj l _,λ_=>⟨YX.nil,λ_ E=>(nomatch E)⟩⟩,M,L,J⟩
end Att
namespace L2
open PySem PySem.Spec PyProof.Rows
theorem xC:∀{vs:List U5}{ns:List Int},IntsAre vs ns->bh (ns.map V.int) vs
 |_,_,.nil=>.nil
 |_,_,.cons n t h=>.cons ⟨t,rfl⟩<|xC h
def M5(H:Hp):Prop:=∀b,H b=Wb∨(∃o xs,H b=Wp (.frz o<|.lst xs))∨∃d,H b=Wp (.tbl d)
def TabsStart(K:Va)(h:Vu):Prop:=∀P d,(P,d)∈iC K->(∃c,W.CodeHd h c P)/\h.get? P=Wp (W.tabObj #[])/\K.lookup P=Wb/\(iC K).lookup P=Wp d
def E9(K:Va):Hp:=λb=>((iC K).lookup b).map HO.tbl
theorem rK:∀{l:List<|Vi×Array U5},l.lookup b=Wp d->(b,d)∈l
 |[],e=>by cases e
 |(k,v)::r,e=>by
  rw[V7]at e;cases h:(b==k) with
  |true=>
   rw[h]at e;have a:=beq_iff_eq.mp h;simp only[Xj]at e;subst a;subst e;exact .head _
  |false=>rw[h]at e;exact .tail _<|rK e
def xF{K:Va}(e:E9 K b=Wp u):∃d,u=.tbl d/\(b,d)∈iC K:=by
 unfold E9 at e;cases q:(iC K).lookup b with|none=>rw[q]at e;cases e|some d=>rw[q]at e;cases e;exact⟨d,rfl,rK q⟩
def IY{K:Va}{k:Nat} 
  (KX:K.In f.heap)(t:TabsStart K f.heap)(N:f.heap.Ns Vz L)(E:f.heap.Ns builtinsNs mb)(a0:∀x:Vq,x≠"__name__"->mb x=bootBuiltins x)(O:f.heap.NoLimit)(ap:∃mm,f.heap.Ns XD mm)
  (as:∃(b:Vi) (ob:Obj),L "__builtins__"=Wp (.ref b)/\b≠builtinsNs/\f.heap.get? b=Wp ob/\ob.cls=.type "module"/\ob.dict=Wp builtinsNs/\ob.data=.plain)(hg:f.gens=#[])
  (G:f.heap.get? a=Wp { cls:=.type "list",data:=.seq vs.toArray })(hi:IntsAre vs ns)(hl:ns.length<=sizeLine)(hr:cW k callerA)
  (F:∀base:Vu,K.In base->base.Ns Vz L->ft P w K L base CX k fa fd [x] sp)(A:∀(s:Vm) (u:U5),BindsTo s fd ⟨[u],[]⟩ [(x,u)])
  (an:∀H:Hp,M5 H->fm K H a (ns.map V.int)->sp [.ref a] H (λv _=>v=.bl VO) λ_ _ _=>False)
  (a2:∀H e s',CX [] H f (λ_ _ _=>False) e s'->False) :
  Xm (Vy P w) callerA (.call (.ref fa) ⟨[.ref a],[]⟩) (λr s'=>r=.ok (.ret<|.bool VO)/\OldK f.heap s'.heap/\s'.os=f.os/\AllBare s'.gens) f:=by
 have rv:=xC hi;have M:=hi.length;have a1:∀j d,(j,d)∈iC K->j≠a:=λj d g z=>by
  have e:=(t j d g).2.1;rw[z,G]at e;cases e
 have core:∀H:Hp,(∀b u,H b=Wp u->(b=a/\u=.frz { cls:=.type "list",data:=.seq vs.toArray } (.lst<|ns.map V.int)/\K.lookup a=Wb)∨∃d,u=.tbl d/\(b,d)∈iC K)->EW K H->fm K H a (ns.map V.int) ->
   Xm (Vy P w) callerA (.call (.ref fa) ⟨[.ref a],[]⟩) (λr s'=>r=.ok (.ret<|.bool VO)/\OldK f.heap s'.heap/\s'.os=f.os/\AllBare s'.gens) f:=by
  intro H I hT hS;have hO:M5 H:=λb=>by
   cases q:H b with
   |none=>exact .inl rfl
   |some u=>
    rcases I b u q with⟨_,rfl,_⟩|⟨d,rfl,_⟩
    .exact .inr<|.inl ⟨_,_,rfl⟩
    .exact .inr<|.inr ⟨d,rfl⟩
  have hok:fJ P w H f.heap:=λb u q=>by
   rcases I b u q with⟨rfl,rfl,_⟩|⟨d,rfl,g⟩
   .exact⟨G,by rw[U8];exact hl,vs,_,rv,G⟩
   .exact Ym ⟨λz=>om (more:=#[]) g (by rw[Array.append_empty];exact z),Vj (t b d g).2.1⟩
  have al:∀{b:Vi}{o:Obj}{T:Array saf}{U:Nat},f.heap.get? b=Wp o->o.data=.dict T U->H b=Wb:=λ{b o T U} e d=>by
   cases q:H b with
   |none=>rfl
   |some u=>
    rcases I b u q with⟨rfl,_,_⟩|⟨C,_,g⟩
    .rw[G]at e;cases e
     have C:Data.seq vs.toArray _=Data.dict T U:=d;cases C
    .have B:=(t b C g).2.1
     rw[e]at B;cases B;cases d
  have ab:∀{b:Vi}{o:Obj},f.heap.get? b=Wp o->o.data=.plain->H b=Wb:=λ{b o} e d=>by
   cases q:H b with
   |none=>rfl
   |some u=>
    rcases I b u q with⟨rfl,_,_⟩|⟨C,_,g⟩
    .rw[G]at e;cases e;cases d
    .have B:=(t b C g).2.1
     rw[e]at B;cases B;cases d
  have i:∀{b:Vi}{m:Vq->Option U5},f.heap.Ns b m->(A7 f.heap H).Ns b m:=λ{b m} ⟨o,T,U,e,d,r⟩=>⟨o,T,U,uV e<|al e d,d,r⟩
  have Q:K.In (A7 f.heap H):=λb o e=>uV (KX b o e) (by
   cases q:H b with
   |none=>rfl
   |some u=>
    rcases I b u q with⟨rfl,_,n⟩|⟨C,_,g⟩
    .rw[n]at e;cases e
    .rw[(t b C g).2.2.1]at e;cases e)
  have hM:Mod K L (A7 f.heap H):=⟨Q,i N,⟨mb,i E,a0⟩,let ⟨mc,h1,h2⟩:=O;⟨mc,i h1,h2⟩,let ⟨mm,h1⟩:=ap;⟨mm,i h1⟩,let ⟨b,ob,b1,b2,b3,b4,b5,b6⟩:=as;⟨b,ob,b1,b2,uV b3<|ab b3 b6,b4,b5,b6⟩⟩
  have e0:sQ P w K L (A7 f.heap H) callerA [] f H:=⟨rfl,hM,λb o e=>LK e,sam (FO _ _),trivial,λb E=>er (show b∈([]:List Vi) from E) 0#3,hok,.of_eq hg,hT⟩
  refine codeAny_mono ((F _ Q (i N)).run callerA [] f H ⟨[.ref a],[]⟩ [.ref a] [.ref a] _ _ hr e0 (A f (.ref a)) (.cons rfl .nil) (an H hO hS)) λr s' h=>?_;cases r with
  |error e=>exact(a2 H e s' h).elim
  |ok fl=>
   cases fl with
   |next|brk|cont=>exact V0 h
   |ret u=>
    obtain⟨v,H',os,bare,un,p,r',q⟩:=h;have q':v=.bl VO:=q;subst q';obtain rfl:u=WT VO:=r';have all:∀b o,f.heap.get? b=Wp o->asItWas f.heap s'.heap b o:=λb o e=>by
     cases q:H b with
     |none=>exact .inl (un.keep b o e q (by intro z;exact er (show b∈([]:List Vi) from z)<|by simp)<|by simp)
     |some u=>
      rcases I b u q with⟨rfl,rfl,_⟩|⟨d,rfl,g⟩
      .have z2:=un.frzs b _ _ q
       obtain⟨Y,_⟩:=hok b _ q;obtain⟨B,_⟩:=p b _ z2;rw[e]at Y;cases Y;exact .inl B
      .obtain⟨⟨c,hc⟩,Y,_⟩:=t b d g
       rw[e]at Y;cases Y;obtain⟨more,z2⟩:=un.tbls b d q;have J:TabOk H' s'.heap b (d++more):=p b _ z2;rcases J with⟨z4,oc,y,q3,t3,t4,m3,e5,e6,_⟩|⟨_,J|⟨l,c2,qq,t1,t2,m2,a3,c',_,J,_⟩⟩
       .exact er z4<|om g
       .exact .inl J
       .refine .inr (.inl ⟨?_,rfl,#[],#[l,c2,.ref c'],rfl,by rw[J];simp⟩)
        obtain⟨⟨o',y,y1,y2,y3,y4⟩,_⟩:=hc.tab e;exact⟨c,o',y,y1,y2,y3,y4⟩
    refine⟨rfl,⟨all,λb o e=>?_⟩,os,bare⟩;rcases all b o e with z|⟨_,_,y,more,_,z⟩|⟨_,_,⟨o',_,_,z,_⟩,_⟩
    .exact⟨_,z⟩
    .exact⟨_,z⟩
    .exact⟨_,z⟩
 cases hk:K.lookup a with
 |some o=>
  have e:=KX a o hk;rw[G]at e;cases e;exact core (E9 K) (λb u q=>.inr<|xF q) (λj d g=>⟨#[],by unfold E9;rw[(t j d g).2.2.2];simp⟩) (.inr ⟨_,vs.toArray,_,hk,rfl,rfl,rfl,by rw[Vx,M];exact hl,by simpa using rv⟩)
 |none=>
  refine core (upd (E9 K) a<|.frz { cls:=.type "list",data:=.seq vs.toArray }<|.lst<|ns.map V.int) (λb u q=>?_) (λj d g=>⟨#[],?_⟩)<|.inl<|.inr ⟨{ cls:=.type "list",data:=.seq vs.toArray },aC⟩
  .by_cases E:b=a
   .subst E
    rw[aC]at q;cases q;exact .inl ⟨rfl,rfl,hk⟩
   .rw[ay E]at q
    exact .inr<|xF q
  .rw[ay (a1 j d g)]
   unfold E9;rw[(t j d g).2.2.2];simp
abbrev KOf{K:Va}{h:Vu}(_:K.In h):Va:=K
def KL{l:W.OpenLaw}{n k:Nat}{K:Params->Va}{CX:Wx->Ac}{sp:Wx->Sp} 
  (hi:importsNone q=VO)(J:l.most=Wp n)(p:n<=sizeLine)(t:d.params.defaults=[])(I:cW k callerA)
  (O:∀(w:Wx) (h:Vu),A w h->(K w.params).In h)(Q:∀(w:Wx) (h:Vu),A w h->TabsStart (K w.params) h)
  (F:∀(w:Wx) (c:Vq->Option U5) (j:Vi) (h:Vu),(K w.params).In h->h.Ns Vz c->c d.name=Wp (.ref j) ->
   ∃z:WD,(∀(s:Vm) (u:U5),BindsTo s z ⟨[u],[]⟩ [(x,u)]) /\
    ∀base:Vu,(K w.params).In base->base.Ns Vz c->ft l.prog w (K w.params) c base (CX w) k j z [x] (sp w))
  (m:∀(w:Wx) (H:Hp) (a:Vi) (ns:List Int),ns.length<=n->M5 H->fm (K w.params) H a (ns.map V.int)->sp w [.ref a] H (λv _=>v=.bl VO) λ_ _ _=>False)
  (y:∀(w:Wx) (H:Hp) (s:Vm) (e:U5) (s':Vm),CX w [] H s (λ_ _ _=>False) e s'->False) :
  W.WalkO q loose XP A l.row.toRowW d [] (λf vs=>PySem.call f vs):=by
 refine Att.attach_call J t λw sf C c mb j o pm cd doc a vs ns G Y ho hd M r i hints hlen L=>?_;have B:=O w _ Y;obtain⟨z,N,hF⟩:=F w c j _ B G.T.g r;exact IY B (Q w _ Y) G.T.g G.T.b G.T.builtins G.T.nolimit (let ⟨E,h1,_⟩:=(G.T.seer hi).mods;⟨E,h1⟩) G.T.bmain L i hints (Vr hlen p) I hF N (λH hO U=>m w H a ns hlen hO U) λH e s'=>y w H C e s'
def walk_ofK{l:W.OpenLaw}{n k:Nat}{K:Params->Va}{sp:Va->Sp} 
  (hi:importsNone q=VO)(t:l.most=Wp n)(g:n<=sizeLine)(i:d.params.defaults=[])(r:cW k callerA)
  (y:∀(w:Wx) (h:Vu),p w h->(K w.params).In h)(z:∀(w:Wx) (h:Vu),p w h->TabsStart (K w.params) h)
  (F:∀(w:Wx) (b:Vq->Option U5) (o:Vi) (h:Vu),(K w.params).In h->h.Ns Vz b->b d.name=Wp (.ref o) ->
   ∃m:WD,(∀(s:Vm) (u:U5),BindsTo s m ⟨[u],[]⟩ [(x,u)]) /\
    ∀base:Vu,(K w.params).In base->base.Ns Vz b->ft l.prog w (K w.params) b base CX k o m [x] (sp<|K w.params))
  (c:∀(K:Va) (H:Hp) (a:Vi) (ns:List Int),ns.length<=n->M5 H->fm K H a (ns.map V.int)->sp K [.ref a] H (λv _=>v=.bl VO) λ_ _ _=>False)
  (j:∀(H:Hp) (s:Vm) (e:U5) (s':Vm),CX [] H s (λ_ _ _=>False) e s'->False) :
  W.WalkO q loose E p l.row.toRowW d [] (λf vs=>PySem.call f vs) :=
 KL (K:=K) (CX:=λ_=>CX) (sp:=λw=>sp (K w.params)) hi t g i r y z F (λw H a ns C B A=>c (K w.params) H a ns C B A) λ_ H s e s'=>j H s e s'
def tf(s:Xi)(j:Nat):Xi:=match s with
 |.ClassDef _ _ _ body _ _ _ _ _ _ _=>body.getD j<|.Pass ⟨0,0,0,0⟩
 |_=>.Pass ⟨0,0,0,0⟩
def defArgs(s:Xi):Arguments:=match s with
 |.FunctionDef _ a _ _ _ _ _ _ _ _=>a
 |_=>{ posonlyargs:=[],args:=[],vararg:=none,kwonlyargs:=[],kw_defaults:=[],kwarg:=none,defaults:=[] }
def defBody(s:Xi):List Xi:=match s with
 |.FunctionDef _ _ b _ _ _ _ _ _ _=>b
 |_=>[]
def defScope(s:Xi):Yt:=match s with
 |.FunctionDef _ _ _ _ _ _ sc _ _ _=>sc
 |_=>{ kind:=.function,names:=[],isGenerator:=false,isCoroutine:=false }
abbrev CX0:Ac:=λ_ _ _ _ _ _=>False
abbrev E0:XK:=λ_ _ _=>False
def AJ:gN CX0 X E0:=λ_ _ _ _ _ _ _ h=>h.elim
structure B1 (K:Va) (x qual:Vq) (st:Xi) (f:Vi) (fd:WD):Prop where
 ex:∃(oc:U5) (od:Option Vi) (kV doc pm:U5) (an:Option Vi) (cdv ct:U5) (osl:Array (Option U5)),
  fd=X6 x qual (defArgs st) (defBody st) (defScope st) .none kV doc pm an cdv ct/\K.lookup f=Wp ⟨oc,od,.func fd,osl⟩/\ZR K cdv qual=VO
 kp:Yx K (.ref f)=VO
section
variable {P:V5}{w:Wx}{K:Va}{mg:Vq->Option U5}{base:Vu}
def B1.ok{st:Xi}{N ps:cr}{k:Nat}(F:B1 K x qual st f i)(S:dy N ps<|defScope st)(len:∀vs H Q E,sp vs H Q E->vs.length=ps.length)
  (b:∀(a:U5) (A:Wh) (outer:List Env) (s:Vm) (H:Hp) (vs:am) (Q:VK) (E:XK),cW k (A.deeper<|envOfC qual (defScope st) 2#s f a)->sp vs H Q E ->
   ∃t,z8 (cP CX0 P w K mg base N qual (defScope st) f a A outer s H E).nox (defBody st) t/\t { nx:=λ_ H'=>Q .non H',rt:=Q } (start N vs) H):ft P w K mg base CX0 (k+1) f i ps sp:=by
 obtain⟨m,l,kV,doc,j,n,a,ct,e,rfl,lk,d⟩:=F.ex;refine Jr lk d S len λA outer s H vs Q E g c=>?_;obtain⟨t,h,q⟩:=b a A outer s H vs Q E g c;exact⟨t,h.nox,q⟩
def B1.binds{st:Xi}{ps:cr}(F:B1 K x qual st f i)
  (h:∀(kV doc c:U5) (d:Option Vi) (a ct:U5) (b:List U5),b.length=ps.length->bindArgs (X6 x qual (defArgs st) (defBody st) (defScope st) .none kV doc c d a ct) ⟨b,[]⟩=pure (ps.zip b)):gw K i ps []:=by
 obtain⟨l,j,kV,doc,c,d,a,ct,e,rfl,lk,g⟩:=F.ex;exact .all<|h kV doc c d a ct
def uZ{st:Xi}{kV doc b a ct:U5}(l:K.lookup f=Wp ⟨i,g,.func<|X6 x qual (defArgs st) (defBody st) (defScope st) .none kV doc b e a ct,d⟩)
  (c:ZR K a qual=VO)(k:Yx K (.ref f)=VO):B1 K x qual st f (X6 x qual (defArgs st) (defBody st) (defScope st) .none kV doc b e a ct):=⟨⟨i,g,kV,doc,b,e,a,ct,d,rfl,l,c⟩,k⟩
end
def aD(H H':Hp):Prop:=∀b o,H b=Wp o->H' b=Wp o
def aD.refl(H:Hp):aD H H:=λ_ _ h=>h
def aD.trans(a:aD H H1)(b:aD H1 d):aD H d:=λc o h=>b c o<|a c o h
def aD.free(e:aD H H')(h:H' l=Option.none):H l=Option.none:=by
 cases q:H l with
 |none=>rfl
 |some o=>
  rw[e l o q]at h;cases h
end L2
namespace DL
open PySem PySem.Spec PySem.Calls PySem.W PyProof.Rows Builtin Builtin.ObjectAttr Builtin.Getset_descriptor
section
variable {prog:V5}{w:Wx}{A:Wh}{E:U5->Vm->Prop}{h:Vu}{g:Array GenState}{d:Drawn}{t:Nat}{os:OsState}{a C:Vi}{o:Obj}{K:Frag}
structure qB (K:Frag) (C:Vi):Prop where
 cls:findIn K (.ref C) "__class__"=Wp (Wp (.builtin "object.__class__"))
 ga:findIn K (.ref C) "__getattribute__"=Wp (Wp (.builtin "BaseException.__getattribute__"))
 gt:findIn K (.ref C) "__getattr__"=Wp Wb
 ob:mroIn K C (.type "object")=Wp VO
 be:subIn K (.ref C) (.type "BaseException")=Wp VO
def NW(X:K.In h)(Z:qB K C)(b:h.get? a=Wp o)(e:o.cls=.ref C)(c:R (.ok<|.ret<|.ref C) ⟨h,g,d,t,os⟩) :
  Xm (Vy prog w) A (.call (.builtin "getset_descriptor.__get__") ⟨[.builtin "object.__class__",.ref a,f],[]⟩) R ⟨h,g,d,t,os⟩:=by
 have j:Looks (Vy prog w) h (typeOf<|.ref a) (.ref C):=e▸(Looks.ld b).andThen .now;have i:=looks_mroIn (M:=Vy prog w) X Z.ob;refine codeAny_call_builtin KF.slot_gs.plain KF.entry_gs<|KF.slot_gs.check _ _ _ _ _ _ _ _ KF.type_class (KF.args_gs _ _ _) ?_;unfold Builtin.«getset_descriptor.__get__» descrGet;rw[dga_obj];refine Vb<|VE ?_;unfold descrGetter descrCheckInstance descrNameAndClass isInstance;simp only[KF.owner_class]
 repeat lk
 refine⟨YM _ (by decide +kernel),codeAny_builtin KF.entry_class ?_⟩;unfold Builtin.«object.__class__» shownTypeOf
 repeat lk
 exact c
def Ak(X:K.In h)(Z:qB K C)(e:h.get? a=Wp o)(j:o.cls=.ref C)(f:Q () ⟨h,g,d,t,os⟩):VC M A (checkBuiltinCall "BaseException.__getattribute__" ⟨[.ref a,c],[]⟩) Q E ⟨h,g,d,t,os⟩:=by
 have i:builtinKind "BaseException.__getattribute__"=Wp .slot:=by decide +kernel
 have b:splitId "BaseException.__getattribute__"=Wp ("BaseException","__getattribute__"):=by decide +kernel
 have m:=F.args_bexc_ga (.ref a) c;have l:Looks M h (isSubtype (.ref C)<|.type "BaseException") VO:=looks_subIn X Z.be;simp only[checkBuiltinCall,i,b];refine Vb ?_
 .unfold isInstance
  repeat (first|(with_reducible refine WY e ?_;rw[j])|(with_reducible refine l.at ?_)|wp_step)
  exact f
def GI(X:K.In h)(Z:qB K C)(b:h.get? a=Wp o)(c:o.cls=.ref C)(j:Q (.done<|.ret<|.ref C) ⟨h,g,d,t,os⟩) :
  VC (Vy prog w) A (Builtin.«object.__getattribute__» ⟨[.ref a,.str "__class__" i],[]⟩) Q E ⟨h,g,d,t,os⟩:=by
 have e:(⟨h,g,d,t,os⟩:Vm).TypeIs (.builtin "object.__class__") "getset_descriptor":=XU;have n:=XU;have m:=Zj.lookup;have l:=F.slot_gs_set.lookup;have f:Looks (Vy prog w) h (XY (.ref C) "__class__") (Wp<|.builtin "object.__class__"):=looks_findIn X Z.cls
 repeat (any_goals (first|assumption|(with_reducible refine WY b ?_;rw[c])|(with_reducible refine f.at ?_)|wp_step))
 refine NW X Z b c ?_
 repeat (any_goals (first|assumption|wp_step))
def KD(X:K.In h)(Z:qB K C)(b:h.get? a=Wp o)(c:o.cls=.ref C)(e:R (.ok<|.ret<|.ref C) ⟨h,g,d,t,os⟩) :
  Xm (Vy prog w) A (.call (.builtin "BaseException.__getattribute__") ⟨[.ref a,.str "__class__" f],[]⟩) R ⟨h,g,d,t,os⟩ :=
 codeAny_call_builtin YV.ga.plain F.entry_bexc_ga (Ak X Z b c<|GI X Z b c e)
def QC(X:K.In h)(Z:qB K C)(c:h.get? a=Wp o)(e:o.cls=.ref C)(l:Q (.ref C) ⟨h,g,d,t,os⟩) :
  VC (Vy prog w) A (getAttrBy (.ref a) (.str "__class__" j) Vd) Q E ⟨h,g,d,t,os⟩:=by
 have m:=YV.ga.bind<|.ref a;have b:(XN "BaseException.__getattribute__"==XN "object.__getattribute__")=Vd:=by decide +kernel
 have f:(onTheHeap (VG C)&&XN "BaseException.__getattribute__"==XN "object.__getattribute__")=Vd:=by rw[b];rfl
 have i:Looks (Vy prog w) h (XY (.ref C) "__getattribute__") (Wp<|.builtin "BaseException.__getattribute__"):=looks_findIn X Z.ga;have L2:Looks (Vy prog w) h (XY (.ref C) "__getattr__") Wb:=looks_findIn X Z.gt
 repeat (any_goals (first|assumption|(with_reducible refine WY c ?_;rw[e])|(with_reducible refine i.at ?_)|(with_reducible refine L2.at ?_)|wp_step))
 refine KD X Z c e ?_
 repeat (any_goals (first|assumption|wp_step))
def KG(X:K.In h)(Z:qB K C)(b:h.get? a=Wp o)(c:o.cls=.ref C)(e:Q (Wp<|.ref C) ⟨h,g,d,t+1,os⟩):VC (Vy prog w) A (getAttr? (.ref a) "__class__") Q E ⟨h,g,d,t,os⟩:=by
 unfold getAttr? getAttrBy?
 repeat (any_goals (first|assumption|with_reducible apply QC X Z b c|wp_step))
end
def B5(a C:Vi)(c:Option Vi):Vu->Prop:=λh=>∃o b,h.get? a=Wp o/\o.cls=.ref C/\o.data=.fields b/\o.dict=c
def uO{K:Frag}{a C:Vi}{dc:Option Vi}(Z:qB K C)(hC:(clsIn K C).isSome=VO):KitX K (.ref a) (.ref C) (B5 a C dc) where
 ty:=λ_ _ _ ⟨o,_,h1,h2,_⟩=>h2▸(Looks.ld h1).andThen .now
 it:=λ_ _ X _=>by
  obtain⟨cd,hcD⟩:=YW.mp hC;unfold clsIn at hcD;split at hcD
  .rename_i c' d' cd' sl' ho
   intro A' Q' E' s' k q;unfold isType loadHead;exact Vb<|wpAny_loadPart (k _ _<|X _ _ ho)<|VE q
  .cases hcD
 ne:=λh tp dd its n sl X htp=>by
  obtain⟨cd,hcD⟩:=YW.mp hC;refine Bool.eq_false_iff.mpr λq=>?_;have e:C=tp:=VG.inj<|beq_iff_eq.mp q;subst e;unfold clsIn at hcD;split at hcD
  .rename_i c' d' cd' sl' ho
   have z:=(X _ _ ho).symm.trans htp;cases z
  .cases hcD
 ca:=λ{_ _ _ _ _ s} X ⟨o,_,h1,h2,_⟩ k=>by
  obtain⟨h,g,d,t,os⟩:=s;exact KG X Z h1 h2 k
def qB.isCls{K:Frag}(Z:qB K C):(clsIn K C).isSome=VO:=by
 obtain⟨c,a,b⟩:=saa.mp Z.ob;rw[a];rfl
def gM:List String:=["NoneType","bool","int","str","tuple","list","dict"]
structure XC (K:Frag) (x:Vq) (C:Vi):Prop where
 ns:nsIn K Vz x=Wp (Wp (.ref C))
 ek:qB K C
 bt:∀T∈gM,kitOne K (.ref C) (.type T)=Wp Vd
end DL
namespace DL
open PySem PySem.Spec PyProof.Rows L2
def wa(o:Obj)(f:Array U5->Array U5):(o.mapFields f).dict=o.dict:=by unfold Obj.mapFields;split<;>rfl
def m7(h:Vu)(e:Vi)(b:Option Vi):Prop:=∃o,h.get? e=Wp o/\o.dict=b/\(b≠Wb->∃a,o.data=.fields a/\a[2]?=Wp .none)
section
variable {M:Model}{A:Wh}{E:U5->Vm->Prop}{s:Vm}{base:Vu}{env:Wq}{outer l:List Wq}{L e:Vi}{cls a0 fl:U5}{dc:Option Vi}{Q:Unit->Vm->Prop}
def Bh(t:A.frames=Wp (env::outer))(n:s.heap.FunFrames base (env::outer))(U:env.frame=Wp L)(v:s.heap.get? e=Wp i)(O:base.StaysIn s.heap)(u:base.get? e=Wb)(hd:i.data=.fields vs)(H:1<vs.size)(h0:vs[0]?=Wp a0)(T:i.dict≠Wb->vs[2]?=Wp .none)
  (h:∀h',saM base (env::outer) e i.cls a0 (rawInt L) s.heap h'->m7 h' e i.dict->Q () { s with heap:=h' }) :
  VC M A (do
   let a ←frameOf env
   let pl ←entryPlaceOf L b0
   let b ←saQ head a .none (rawInt L) .none pl
   setField (.ref e) 1 b) Q E s:=by
 have J:e∉(env::outer).filterMap (·.frame):=λr=>by
  obtain⟨_,o,I,q⟩:=n.mem r;rw[v]at I;cases I;exact q vs hd
 refine Vb<|wpAny_frameOf_fun t n U λg ⟨_,same,slots⟩=>Vb<|wpAny_entryPlaceOf λpl j=>?_;have w:g.get? e=Wp i:=(same e J).trans v;have p:∀(N:Obj) (f:Obj->Obj) (b:Vi) (o:Obj),b≠e->g.get? b=Wp o->((g.push N).update e f).get? b=Wp o:=λN f b o Y q=>(W5 _ _<|V6 Y).trans<|Vc _ q;have C:∀b o,s.heap.get? b=Wp o->(∀vs,o.data≠.fields vs)->b≠e:=λb o q z c=>by subst c;rw[v]at q;cases q;exact z vs hd
 have G:base.StaysIn g:=λb o q=>(same b λr=>by rw[(n.mem r).1]at q;cases q).trans<|O b o q;unfold saQ newFields;refine Vb<|wpAny_newObj_type ?_<|j.sizeOk5 _ _ _ _ _;have y:=Zp hd (·.setIfInBounds 1 (VG g.objs.size));have m:g.objs.size≠e:=sal<|Vw w;have d:∀N:Obj,((g.push N).update e (Obj.mapFields (·.setIfInBounds 1 (VG g.objs.size)))).get? e=Wp (i.mapFields (·.setIfInBounds 1 (VG g.objs.size))):=λN=>W9 _ (Vc _ w)<|sau y;refine wpAny_setField (Vc _ w) hd H (h _ ⟨λb o q=>p _ _ b o (λc=>by subst c;rw[u]at q;cases q) (G b o q),n.of_keeps λb o q z=>?_,?_,λb o q z=>?_⟩ ⟨_,d _,wa _ _,λz=>⟨_,y,by rw[ZE 0#1];exact T z⟩⟩)
 .obtain⟨B,x⟩:=slots b o q
  exact⟨_,p _ _ b _ (C b o q z) x,rfl⟩
 .refine⟨_,_,g.objs.size,_,_,d _,⟨Obj.cls_mapFields _ _,?_⟩,y,?_,G.fresh,m,(W5 _ _<|V6 m).trans<|V1 g rfl,rfl,?_⟩
  .rw[ZE 0#1];exact h0
  .simp[H]
  .first|(simp;done)|(rcases j with rfl|⟨_,_,_,_,_,_,_,rfl⟩<;>simp)
 .obtain⟨B,x⟩:=slots b o q
  exact⟨B,p _ _ b _ (C b o q z) x⟩
def Jt(b:A.frames=Wp (env::outer))(m:s.heap.FunFrames base (env::outer))(d:env.frame=Wp L)(f:s.heap.get? e=Wp a)(i:base.StaysIn s.heap)(c:base.get? e=Wb)(hd:a.data=.fields vs)(g:vs[1]?=Wp .none)(n:vs[0]?=Wp a0)(j:a.dict≠Wb->vs[2]?=Wp .none)
  (h:∀h',saM base (env::outer) e a.cls a0 (rawInt L) s.heap h'->m7 h' e a.dict->Q () { s with heap:=h' }):VC M A (noteFrame (.ref e) env) Q E s:=by
 unfold noteFrame;simp only[d];refine Vb<|wpAny_field f hd g ?_;rw[eo 0#1];exact Bh b m d f i c hd (X3.mp g).1 n j h
def EE(j:A.frames=Wp (env::outer))(hl:s.heap.FunFrames base (env::outer))(u:env.frame=Wp L)(Y:s.heap.TracedW base e cls a0)(hc:m7 s.heap e dc)(O:base.StaysIn s.heap)(m:base.get? e=Wb)
  (h:∀h',saM base (env::outer) e cls a0 (rawInt L) s.heap h'->m7 h' e dc->Q () { s with heap:=h' }):VC M A (noteFrame (.ref e) env) Q E s:=by
 obtain⟨N,d,T,oT,J,n,⟨rfl,h0⟩,hd,w,i,p,r,dT,v⟩:=Y;obtain⟨o',q,rfl,cx⟩:=hc;rw[n]at q;cases q;have U:N.dict≠Wb->d[2]?=Wp .none:=λz=>by
  obtain⟨I,x,g⟩:=cx z;rw[hd]at x;cases x;exact g
 have a:∀(f:Obj->Obj) (b:Vi),b≠T->(s.heap.update T f).get? b=s.heap.get? b:=λf b hb=>W5 _ _<|V6 hb;have t:∀b o,s.heap.get? b=Wp o->(∀d,o.data≠.fields d)->b≠T:=λb o q z c=>by subst c;rw[r]at q;cases q;exact z J dT
 unfold noteFrame;simp only[u];refine Vb<|wpAny_field n hd w ?_;rw[ef 0#3];refine Vb<|wpAny_field r dT v ?_;rw[eo (by simp[rawInt])];refine Vb<|wpAny_setField r dT (X3.mp v).1 ?_;refine Bh j (hl.of_keeps λb o q z=>⟨o,(a _ b (t b o q z)).trans q,rfl⟩) u ((a _ e (V6 p)).trans n) (λb o q=>(a _ b λc=>by subst c;rw[i]at q;cases q).trans (O b o q)) m hd (X3.mp w).1 h0 U λh' ⟨H,G,C,B⟩ y=>h h' ⟨H,G,C,λb o q z=>B b o ((a _ b<|t b o q z).trans q) z⟩ y
def mL(x:base.StaysIn s.heap)(B:s.heap.FunFrames base l)(y:s.heap.TracedAtW base e cls a0 fl)(C:m7 s.heap e dc)
  (h:∀h',base.StaysIn h'->h'.FunFrames base l->h'.TracedW base e cls a0->(∀b o,s.heap.get? b=Wp o->(∀vs,o.data≠.fields vs)->h'.get? b=Wp o)->m7 h' e dc->Q () { s with heap:=h' }):VC M A (setFlight (.ref e) Wb) Q E s:=by
 obtain⟨v,vs,T,J,n,r,i,hd,t,g,d,j,dT,H⟩:=y;have m:3<n.size:=(X3.mp H).1;have a:∀(f:Obj->Obj) (b:Vi),b≠T->(s.heap.update T f).get? b=s.heap.get? b:=λf b G=>W5 _ _<|V6 G;have p:∀b o,s.heap.get? b=Wp o->(∀vs,o.data≠.fields vs)->b≠T:=λb o q z c=>by subst c;rw[j]at q;cases q;exact z n dT
 unfold setFlight;refine Vb<|wpAny_field r hd t ?_;rw[ef 0#3];obtain⟨w,u,rfl,I⟩:=C;refine wpAny_setField j dT m (h _ (λb o q=>(a _ b λc=>by subst c;rw[g]at q;cases q).trans<|x b o q) (B.of_keeps λb o q z=>⟨o,(a _ b<|p b o q z).trans q,rfl⟩) ?_ (λb o q z=>(a _ b<|p b o q z).trans q) ⟨w,(a _ e<|V6 d).trans u,rfl,I⟩);exact⟨v,vs,T,_,_,(a _ e<|V6 d).trans r,i,hd,t,g,d,W9 _ j<|sau<|Zp dT _,Zp dT _,by simp[m]⟩
def Sj(h:Vu)(e:Vi)(ox:Option Vi):Prop:=∃dc,m7 h e dc/\(ox=Wb∨ox=dc)
def nK(d:A.frames=Wp (env::outer))(u:s.heap.FunFrames base (env::outer))(v:env.frame=Wp L)(w:s.heap.get? e=Wp c)(m:base.StaysIn s.heap)(a:base.get? e=Wb)(hd:c.data=.fields vs)(y:vs[1]?=Wp .none)(B:vs[0]?=Wp a0)(t:c.dict≠Wb->vs[2]?=Wp .none)
  (h:∀h',XH base outer e c.cls a0 h'->s.heap.UpToSlots h'->m7 h' e c.dict->Q () { s with heap:=h' }):VC M A (leaving env<|.ref e) Q E s:=by
 unfold leaving;refine Vb<|Jt d u v w m a hd y B t λg ⟨r,k2,p,n⟩ G=>?_;refine mL (s:={ s with heap:=g }) r k2 p G λh' m1 ⟨_,_,m2⟩ j i C=>h h' ⟨m1,a,m2,j⟩ (λb o q z=>?_) C;obtain⟨f,x⟩:=n b o q z;exact⟨f,i b _ x z⟩
def FV(a:A.frames=Wp (env::outer))(r:env.frame=Wp L)(c:XH base (env::outer) e cls a0 s.heap)(t:m7 s.heap e dc)
  (h:∀h',XH base outer e cls a0 h'->s.heap.UpToSlots h'->m7 h' e dc->Q () { s with heap:=h' }):VC M A (leaving env<|.ref e) Q E s:=by
 obtain⟨w,d,v,u⟩:=c;unfold leaving;refine Vb<|EE a v r u t w d λg ⟨p,k2,n,m⟩ B=>?_;refine mL (s:={ s with heap:=g }) p k2 n B λh' m1 ⟨_,_,m2⟩ j i y=>h h' ⟨m1,d,m2,j⟩ (λb o q z=>?_) y;obtain⟨f,x⟩:=m b o q z;exact⟨f,i b _ x z⟩
def Ju(a:A.frames=Wp (env::outer))(j:env.frame=Wp L)(b:XH base (env::outer) e cls a0 s.heap)(m:m7 s.heap e dc)
  (h:∀h',Heap.HeldW base (env::outer) e cls a0 L h'->s.heap.UpToSlots h'->m7 h' e dc->Q () { s with heap:=h' }):VC M A (noteFrame (.ref e) env) Q E s:=by
 obtain⟨p,c,o,n⟩:=b;exact EE a o j n m p c λg ⟨i,k2,f,d⟩ q=>h g ⟨i,c,k2,f⟩ d q
def Jv(g:Heap.HeldW base l e cls a0 L s.heap)(i:m7 s.heap e dc)(h:∀h',XH base l e cls a0 h'->s.heap.UpToSlots h'->m7 h' e dc->Q () { s with heap:=h' }):VC M A (setFlight (.ref e) Wb) Q E s:=by
 obtain⟨p,n,m,j⟩:=g;exact mL p m j i λh' f k2 d c a=>h h' ⟨f,n,k2,d⟩ (λb o q z=>⟨o.slots,c b o q z⟩) a
def Jw(g:XH base l e cls a0 s.heap)(i:m7 s.heap e dc)(h:∀h',XH base l e cls a0 h'->s.heap.UpToSlots h'->m7 h' e dc->Q () { s with heap:=h' }):VC M A (setFlight (.ref e) Wb) Q E s:=by
 obtain⟨p,n,m,j⟩:=g;exact mL p m j.at i λh' f k2 d c a=>h h' ⟨f,n,k2,d⟩ (λb o q z=>⟨o.slots,c b o q z⟩) a
end
end DL
namespace PySem
namespace F
def slot_function_getattribute:Slot "function" "__getattribute__" "object.__getattribute__":=.of (owner:="object") (n:="__getattribute__") (by rw[typeLookup_type,builtinLookup_eq_fast];kernel_rfl) (by decide +kernel) (by decide +kernel) (by decide +kernel)
 (by first|exact .inl (by decide +kernel)|exact .inr<|by decide +kernel) (by rw[isSubtype_type];kernel_rfl)
def args_function_getattribute_2(a b:U5):argsOk "object.__getattribute__" ⟨[a,b],[]⟩:=by unfold argsOk;kernel_rfl
end F
end PySem
namespace PySem
open Sem (wp)
namespace F
def entry_function_ga:entryFor table "object.__getattribute__"=Wp Builtin.«object.__getattribute__»:=entryFor_of_tree (by kernel_rfl)
def lk_function_class:XY (.type "function") "__class__"=pure (Wp<|.builtin "object.__class__"):=by rw[typeLookup_type,builtinLookup_eq_fast];kernel_rfl
def sub_function_class_owner:isSubtype (.type "function") (.type<|".".intercalate ("object.__class__".cutAt '.').dropLast)=pure VO:=by
 rw[owner_object_class,isSubtype_type];kernel_rfl
end F
section
variable {prog:V5}{w:Wx}{A:Wh}{E:U5->Vm->Prop}{h:Vu}{g:Array GenState}{d:Drawn}{t:Nat}{os:OsState}{a:Vi}{o:Obj}
def nT(c:h.get? a=Wp o)(e:o.cls=.type "function")(f:R (.ok<|.ret<|.type "function") ⟨h,g,d,t,os⟩) :
  Xm (Vy prog w) A (.call (.builtin "getset_descriptor.__get__") ⟨[.builtin "object.__class__",.ref a,.type "function"],[]⟩) R ⟨h,g,d,t,os⟩:=by
 have i:(⟨h,g,d,t,os⟩:Vm).TypeIs (.ref a) "function":=⟨_,c,e⟩
 have b:(⟨h,g,d,t,os⟩:Vm).TypeIs (.builtin "object.__class__") "getset_descriptor":=XU;have j:=F.sub_function_class_owner;refine codeAny_call_builtin Zj.plain F.entry_gs_get<|Zj.check _ _ _ _ _ _ _ _ b (F.args_gs_get _ _ _) ?_
 repeat (any_goals (first|assumption|wp_step))
 refine⟨YM _ (by decide +kernel),codeAny_builtin F.entry_object_class ?_⟩
 repeat (any_goals (first|assumption|wp_step))
def ma(b:h.get? a=Wp o)(c:o.cls=.type "function")(i:Q (.done<|.ret<|.type "function") ⟨h,g,d,t,os⟩) :
  VC (Vy prog w) A (Builtin.«object.__getattribute__» ⟨[.ref a,.str "__class__" f],[]⟩) Q E ⟨h,g,d,t,os⟩:=by
 have j:(⟨h,g,d,t,os⟩:Vm).TypeIs (.ref a) "function":=⟨_,b,c⟩
 have e:(⟨h,g,d,t,os⟩:Vm).TypeIs (.builtin "object.__class__") "getset_descriptor":=XU;have p:=F.lk_function_class;have n:=XU;have m:=Zj.lookup;have l:=F.slot_gs_set.lookup
 repeat (any_goals (first|assumption|wp_step))
 refine nT b c ?_
 repeat (any_goals (first|assumption|wp_step))
def mZ(b:h.get? a=Wp o)(c:o.cls=.type "function")(e:R (.ok<|.ret<|.type "function") ⟨h,g,d,t,os⟩) :
  Xm (Vy prog w) A (.call (.builtin "object.__getattribute__") ⟨[.ref a,.str "__class__" f],[]⟩) R ⟨h,g,d,t,os⟩ :=
 codeAny_call_builtin F.slot_function_getattribute.plain F.entry_function_ga (F.slot_function_getattribute.check _ _ _ _ _ _ _ _ (show(⟨h,g,d,t,os⟩:Vm).TypeIs (.ref a) "function" from⟨_,b,c⟩) (F.args_function_getattribute_2 _ _)<|ma b c e)
def p9(b:h.get? a=Wp o)(c:o.cls=.type "function")(f:Q (.type "function") ⟨h,g,d,t,os⟩):VC (Vy prog w) A (getAttrBy (.ref a) (.str "__class__" e) Vd) Q E ⟨h,g,d,t,os⟩:=by
 have i:(⟨h,g,d,t,os⟩:Vm).TypeIs (.ref a) "function":=⟨_,b,c⟩
 have l:=F.slot_function_getattribute.lookup;have j:=F.slot_function_getattribute.bind<|.ref a
 repeat (any_goals (first|assumption|wp_step))
 refine mZ b c ?_
 repeat (any_goals (first|assumption|wp_step))
def m5(b:h.get? a=Wp o)(c:o.cls=.type "function")(e:Q (Wp<|.type "function") ⟨h,g,d,t+1,os⟩):VC (Vy prog w) A (getAttr? (.ref a) "__class__") Q E ⟨h,g,d,t,os⟩:=by
 unfold getAttr? getAttrBy?
 repeat (any_goals (first|assumption|with_reducible apply p9 b c|wp_step))
end
end PySem
namespace DL
open PySem PySem.Spec PyProof.Rows L2
def Nv:V4->Bool
 |.Starred _ _=>Vd
 |_=>VO
def aM(h:Nv e=VO):Vg (e::a) env=(Vd,eval e env)::Vg a env:=by
 cases e<;>first|(rw[Vg];intros;contradiction)|rw[Vg]|(cases h)
def fS(h:Nv e=VO):Vg [e] env=[(Vd,eval e env)]:=by
 rw[aM h,Vg]
theorem bM:∀{a:List V4},a.all Nv=VO->(Wn pos<|Vg a env).any (·.1)=Vd
 |[],_=>by rw[Vg];rfl
 |e::a,h=>by
  rw[X8,Vv]at h;rw[aM h.1];have:=bM (env:=env) (pos:=pos) h.2;show(Vd||(Wn pos<|Vg a env).any (·.1))=Vd;rw[this];rfl
def lQ(h:Nv e=VO):((Wn pos<|Vg [e] env).all (λx=>!x.1)&&(YK pos<|XA [] env).all (λx=>x.1.isSome)
  &&decide ([e].length+([]:List Yc).length+(if([]:List Yc).isEmpty then 0 else 1)<30))=VO:=by
 rw[fS h,XA];rfl
inductive Kd where
 |ins (c:Vq) (ks:cr)|dint (ks:List Int)|exf (c:Vq) (ks:cr)|pl|fn (q:Vq)
inductive D where
 |non|bl (b:Bool)|int (i:Int)|str (x:Vq)|tup (xs:List D)|lst (xs:List D)|dic (ks:cr) (xs:List D)|exc (x:Vq)|ob (k:Kd) (xs:List D)
abbrev ac:=List D
structure Qd (K:Va) (ks:cr) (C:Vi):Prop where
 cls:Kq K C
 no:∀f∈ks,dD K C f
 gc:WH K (.ref C) "__class__"=Wp (Wp (.builtin "object.__class__"))
 gn:YR K (.builtin "object.__class__") "__get__"=Wp (Wp (.builtin "getset_descriptor.__get__"))
 tk:Z8 K (.builtin "object.__class__")=Wp VO
 mo:sah K C (.type "object")=Wp VO
 bt:∀T∈gM,saC K (.ref C) (.type T)=Wp Vd
def gq(H:Hp):List (Vq×Vi)->am->Prop
 |[],a=>a=[]
 |(_,c)::r,a=>∃v b o u,a=v::b/\H c=Wp (.frz o<|.own c)/\o.data=.cell (Wp u)/\bw v u/\gq H r b
def iD(sc:Yt):cr:=((sc.names.filter λp=>p.2==.free).map (·.1)).reverse
noncomputable def Ke(K:Va) (H:Hp):Kd->Vi->am->Prop
 |.ins c e,a,d=>∃C j,WC K Vz c=Wp (Wp<|.ref C)/\Qd K e C/\H a=Wp (.ins C j<|e.zip d)/\e.length=d.length
 |.dint e,a,d=>∃g,Rd H a (.dK g)/\g=(e.map YD).zip d/\e.length=d.length
 |.exf c e,a,d=>∃C j fs,XC K c C/\Rd H a (.ext<|B5 a C<|Wp j)/\H j=Wp (.xd fs)/\e.length=d.length/\∀(i:Nat) (f:Vq) (v:V),e[i]?=Wp f->d[i]?=Wp v->fs.lookup f=Wp v
 |.pl,a,d=>H a=Wp (.lst d)
 |.fn q,a,d=>∃F b n t m o l,(xZ K).lookup q=Wp F/\(b.map (·.1)=iD F.scope/\(b.map (·.2)).Nodup)/\H a=Wp (.frz (W.kla_obj "<lambda>" q F.params F.body F.scope b o n l)<|.own a)/\H n=Wp (.tbl (#[.none,.str q t]++m))/\gq H b d
structure Kp where
 cls:Vq
 flds:List (Vq×D)
inductive aw (α:Type) where
 |ok (a:α)|exn (x:Kp)|stuck
def aw.bind{c b:Type}(r:aw c)(f:c->aw b):aw b:=match r with
 |.ok a=>f a
 |.exn x=>.exn x
 |.stuck=>.stuck
mutual
def Rep(K:Va)(H:Hp):D->V->Prop
 |.non,v=>v=.non
 |.bl b,v=>v=.bl b
 |.int i,v=>v=.int i
 |.str x,v=>v=.str x
 |.tup d,v=>∃a c,v=.ref a/\nq K H a c/\Reps K H d c
 |.lst d,v=>∃a c,v=.ref a/\fm K H a c/\Reps K H d c
 |.dic f d,v=>∃a e c,v=.ref a/\Rd H a (.dK e)/\e=(f.map Wr).zip c/\f.length=c.length/\Reps K H d c
 |.exc x,v=>∃a C g,v=.ref a/\XC K x C/\Rd H a (.ext<|B5 a C g)
 |.ob k d,v=>∃a c,v=.ref a/\Ke K H k a c/\Reps K H d c
def Reps(K:Va)(H:Hp):ac->am->Prop
 |[],a=>a=[]
 |d::b,a=>∃v r,a=v::r/\Rep K H d v/\Reps K H b r
end
def aD.rd(e:aD H H')(h:Rd H a o):Rd H' a o:=by
 rcases h with h|⟨b,h⟩
 .exact .inl<|e _ _ h
 .exact .inr ⟨b,e _ _ h⟩
def aD.sqT{K:Va}(e:aD H H')(h:nq K H a xs):nq K H' a xs:=by
 rcases h with h|h
 .exact .inl<|aD.rd e h
 .exact .inr h
def aD.sqL{K:Va}(e:aD H H')(h:fm K H a xs):fm K H' a xs:=by
 rcases h with h|h
 .exact .inl<|aD.rd e h
 .exact .inr h
theorem gq.mono(e:aD H H'):∀{a:List<|Vq×Vi}{vs:am},gq H a vs->gq H' a vs
 |[],_,h=>h
 |(_,c)::r,_,⟨v,b,o,u,j,i,g,f,d⟩=>⟨v,b,o,u,j,e _ _ i,g,f,gq.mono e d⟩
theorem Ke.mono{K:Va}(e:aD H H'):∀{k:Kd}{a:Vi}{vs:am},Ke K H k a vs->Ke K H' k a vs
 |.ins c p,a,vs,⟨C,n,l,f,d,b⟩=>⟨C,n,l,f,e _ _ d,b⟩
 |.dint p,a,vs,⟨i,f,d,b⟩=>⟨i,aD.rd e f,d,b⟩
 |.exf c p,a,vs,⟨C,n,fs,f,d,b,j⟩=>⟨C,n,fs,f,aD.rd e d,e _ _ b,j⟩
 |.pl,a,vs,h=>e _ _ h
 |.fn q,a,vs,⟨F,g,s,t,m,r,o,l,f,d,b,j⟩=>⟨F,g,s,t,m,r,o,l,f,e _ _ d,e _ _ b,gq.mono e j⟩
mutual
theorem Rep.mono{K:Va}{H H':Hp}(e:aD H H'):∀{d:D}{v:V},Rep K H d v->Rep K H' d v
 |.non,_,h=>by unfold Rep at h ⊢;exact h
 |.bl _,_,h=>by unfold Rep at h ⊢;exact h
 |.int _,_,h=>by unfold Rep at h ⊢;exact h
 |.str _,_,h=>by unfold Rep at h ⊢;exact h
 |.tup j,_,h=>by
  unfold Rep at h ⊢;obtain⟨a,g,f,c,b⟩:=h;exact⟨a,g,f,aD.sqT e c,Reps.mono e b⟩
 |.lst j,_,h=>by
  unfold Rep at h ⊢;obtain⟨a,g,f,c,b⟩:=h;exact⟨a,g,f,aD.sqL e c,Reps.mono e b⟩
 |.dic o j,_,h=>by
  unfold Rep at h ⊢;obtain⟨a,i,g,f,c,b,m,l⟩:=h;exact⟨a,i,g,f,aD.rd e c,b,m,Reps.mono e l⟩
 |.exc x,_,h=>by
  unfold Rep at h ⊢;obtain⟨a,C,n,f,c,b⟩:=h;exact⟨a,C,n,f,c,aD.rd e b⟩
 |.ob k j,_,h=>by
  unfold Rep at h ⊢;obtain⟨a,g,f,c,b⟩:=h;exact⟨a,g,f,c.mono e,Reps.mono e b⟩
theorem Reps.mono{K:Va}{H H':Hp}(e:aD H H'):∀{ds:ac}{vs:am},Reps K H ds vs->Reps K H' ds vs
 |[],_,h=>by unfold Reps at h ⊢;exact h
 |d::ds,_,h=>by
  unfold Reps at h ⊢;obtain⟨v,r,c,b,a⟩:=h;exact⟨v,r,c,Rep.mono e b,Reps.mono e a⟩
end
section
variable {K:Va}{H:Hp}{v:V}{vs:am}{d:D}{ds:ac}
def aY:Rep K H .non v↔v=.non:=by unfold Rep;exact sar
def aF{b}:Rep K H (.bl b) v↔v=.bl b:=by unfold Rep;exact sar
def ax{i}:Rep K H (.int i) v↔v=.int i:=by unfold Rep;exact sar
def Rep.str_iff{x}:Rep K H (.str x) v↔v=.str x:=by unfold Rep;exact sar
def aH:Rep K H (.tup ds) v↔∃a vs,v=.ref a/\nq K H a vs/\Reps K H ds vs:=by rw[Rep]
def aA:Rep K H (.lst ds) v↔∃a vs,v=.ref a/\fm K H a vs/\Reps K H ds vs:=by rw[Rep]
def eE{x}:Rep K H (.exc x) v↔∃a C b,v=.ref a/\XC K x C/\Rd H a (.ext<|B5 a C b):=by rw[Rep]
def bj{k}:Rep K H (.ob k ds) v↔∃a vs,v=.ref a/\Ke K H k a vs/\Reps K H ds vs:=by rw[Rep]
def Rep.exf_exc(h:Rep K H (.ob (.exf c ks) ds) v):Rep K H (.exc c) v:=by
 obtain⟨a,vs,e,⟨C,g,fs,f,b,_⟩,_⟩:=bj.mp h;exact eE.mpr ⟨a,C,Wp g,e,f,b⟩
def Reps.nil_iff:Reps K H [] vs↔vs=[]:=by unfold Reps;exact sar
def az:Reps K H (d::ds) vs↔∃v r,vs=v::r/\Rep K H d v/\Reps K H ds r:=by rw[Reps]
def Reps.nil:Reps K H [] []:=Reps.nil_iff.mpr rfl
def Reps.cons(h:Rep K H d v)(h':Reps K H ds vs):Reps K H (d::ds) (v::vs):=az.mpr ⟨_,_,rfl,h,h'⟩
end
theorem Reps.length{K:Va}:∀{ds:ac}{vs:am},Reps K H ds vs->ds.length=vs.length
 |[],_,h=>by rw[Reps.nil_iff.mp h];rfl
 |d::ds,_,h=>by
  obtain⟨v,r,rfl,_,h⟩:=az.mp h;simp[Reps.length h]
theorem Reps.get{K:Va}{H:Hp}:∀{ds:ac}{vs:am}{i:Nat}{d:D},Reps K H ds vs->ds[i]?=Wp d->∃v,vs[i]?=Wp v/\Rep K H d v
 |[],_,_,_,h,e=>by simp at e
 |x::ds,_,0,d,h,e=>by
  obtain⟨v,r,rfl,b,_⟩:=az.mp h;simp at e;subst e;exact⟨v,rfl,b⟩
 |x::ds,_,i+1,d,h,e=>by
  obtain⟨v,r,rfl,_,a⟩:=az.mp h;obtain⟨u,f,c⟩:=Reps.get (i:=i) a (by simpa using e);exact⟨u,by simpa using f,c⟩
theorem Reps.app{K:Va}{H:Hp}:∀{ds c:ac}{vs b:am},Reps K H ds vs->Reps K H c b->Reps K H (ds++c) (vs++b)
 |[],_,_,_,h,a=>by rw[Reps.nil_iff.mp h];exact a
 |d::ds,_,_,_,h,a=>by
  obtain⟨v,r,rfl,f,e⟩:=az.mp h;exact Reps.cons f<|Reps.app e a
theorem Reps.take{K:Va}:∀{ds:ac}{vs:am}(n:Nat),Reps K H ds vs->Reps K H (ds.take n) (vs.take n)
 |_,_,0,_=>by simp;exact Reps.nil
 |[],_,n+1,h=>by rw[Reps.nil_iff.mp h];exact Reps.nil
 |d::ds,_,n+1,h=>by
  obtain⟨v,r,rfl,b,a⟩:=az.mp h;exact Reps.cons b<|Reps.take n a
theorem Reps.drop{K:Va}:∀{ds:ac}{vs:am}(n:Nat),Reps K H ds vs->Reps K H (ds.drop n) (vs.drop n)
 |_,_,0,h=>by simpa using h
 |[],_,n+1,h=>by rw[Reps.nil_iff.mp h];exact Reps.nil
 |d::ds,_,n+1,h=>by
  obtain⟨v,r,rfl,b,a⟩:=az.mp h;exact Reps.drop n a
theorem Reps.set{K:Va}(h:Rep K H d v):∀{ds:ac}{vs:am}(n:Nat),Reps K H ds vs->Reps K H (ds.set n d) (vs.set n v)
 |[],_,n,a=>by rw[Reps.nil_iff.mp a];exact Reps.nil
 |x::ds,_,0,a=>by
  obtain⟨v,r,rfl,c,b⟩:=az.mp a;exact Reps.cons h b
 |x::ds,_,n+1,a=>by
  obtain⟨v,r,rfl,c,b⟩:=az.mp a;exact Reps.cons c<|Reps.set h n b
theorem yE{K:Va}:∀(ns:List Int),Reps K H (ns.map D.int) (ns.map V.int)
 |[]=>Reps.nil
 |n::r=>Reps.cons (ax.mpr rfl)<|yE r
structure bz (H Ha H' Ha':Hp):Prop where
 s:aD H H'
 z:aD Ha Ha'
 sub:aD Ha' H'
 nw:∀a,Ha' a≠Wb->Ha a=Wb->H a=Wb
def bz.refl(h:aD Ha H):bz H Ha H Ha:=⟨aD.refl _,aD.refl _,h,λa c b=>er b c⟩
theorem bz.trans(a:bz H Ha H1 c)(b:bz H1 c g d):bz H Ha g d :=
 ⟨a.s.trans b.s,a.z.trans b.z,b.sub,λx f e=>by
  cases q:c x with
  |none=>exact a.s.free<|b.nw x f q
  |some o=>exact a.nw x (by rw[q];simp) e⟩
def aR(hs:aD Ha H)(hp:H p=Wb):bz H Ha (upd H p o) (upd Ha p o) :=
 ⟨same_new hp o,same_new (hs.free hp) o,λb u e=>by
  by_cases hb:b=p
  .subst hb;rw[aC]at e ⊢;exact e
  .rw[ay hb]at e ⊢;exact hs _ _ e,λa h1 h2=>by
  by_cases hb:a=p
  .subst hb;exact hp
  .rw[ay hb]at h1;exact er h2 h1⟩
where
 same_new {H:Hp}{p:Vi}(h:H p=Wb) (o:HO):aD H (upd H p o):=λb u q=>by rw[ay (aN q h)];exact q
inductive Sl where
 |no|sh (d:D)|ow (d:D)|ox (j:Nat) (ds:ac)|pt (a:Vi)
abbrev Ev:=List Sl
abbrev bv:=Ev->aw D
def fq(K:Va)(Ha:Hp)(a:L2.St)(ρ:Ev):Prop:=∀(i:Nat) (d:D),ρ[i]?=Wp (.sh d)->∃v,a[i]?=Wp (Wp v)/\Rep K Ha d v
def fq.mono{K:Va}(e:aD H H')(r:fq K H a ρ):fq K H' a ρ:=λi d h=>
 let ⟨v,c,b⟩:=r i d h
 ⟨v,c,b.mono e⟩
def yG(K:Va)(H:Hp)(x:Kp)(C:U5)(ox:Option Vi):Prop :=
 (∃c,C=.ref c/\XC K x.cls c)/\match ox with
  |none=>x.flds=[]
  |some a=>∃fs,H a=Wp (.xd fs)/\∀n d,x.flds.lookup n=Wp d->∃v,fs.lookup n=Wp v/\Rep K H d v
def post(K:Va)(E:XK)(H Ha:Hp)(r:aw D)(Q:VK):Prop:=match r with
 |.ok d=>∀v b a,bz H Ha b a->Rep K a d v->Q v b
 |.exn x=>∀C ox b a,bz H Ha b a->yG K a x C ox->E C ox b
 |.stuck=>False
def ou(K:Va)(E:XK)(H Ha:Hp)(r:aw<|ac)(Q:am->Hp->Prop):Prop:=match r with
 |.ok d=>∀c b a,bz H Ha b a->Reps K a d c->Q c b
 |.exn x=>∀C ox b a,bz H Ha b a->yG K a x C ox->E C ox b
 |.stuck=>False
def uq(K:Va)(E:XK)(H Ha:Hp)(r:aw D)(Q:Bool->Hp->Prop):Prop:=match r with
 |.ok (.bl b)=>∀c a,bz H Ha c a->Q b c
 |.ok _=>False
 |.exn x=>∀C ox c a,bz H Ha c a->yG K a x C ox->E C ox c
 |.stuck=>False
section
variable {K:Va}{E:XK}{H Ha H1 H01:Hp}
def post.grow(h:post K E H Ha r Q)(g:bz H Ha H1 H01):post K E H1 H01 r Q:=by
 cases r with|ok d=>exact λv c a b=>h v c a (g.trans b)|exn x=>exact λC ox c a b=>h C ox c a (g.trans b)|stuck=>exact h
def ou.grow(h:ou K E H Ha r Q)(g:bz H Ha H1 H01):ou K E H1 H01 r Q:=by
 cases r with|ok d=>exact λv c a b=>h v c a (g.trans b)|exn x=>exact λC ox c a b=>h C ox c a (g.trans b)|stuck=>exact h
def uq.grow(h:uq K E H Ha r Q)(g:bz H Ha H1 H01):uq K E H1 H01 r Q:=by
 cases r with
 |ok d=>
  cases d with|bl b=>exact λe a c=>h e a (g.trans c)| _=>exact h
 |exn x=>exact λC ox e a c=>h C ox e a<|g.trans c
 |stuck=>exact h
end
def tD(K:Va)(E:XK)(f:bv):TE:=λc H Q=>∃a b,aD a H/\fq K a c b/\post K E H a (f b) Q
def Uh(K:Va)(E:XK)(f:Ev->aw (ac)):TA:=λc H Q=>∃a b,aD a H/\fq K a c b/\ou K E H a (f b) Q
def Qn(K:Va)(E:XK)(f:bv):TT:=λc H Q=>∃a b,aD a H/\fq K a c b/\uq K E H a (f b) Q
structure DE (X:Cx) (E:XK) (e:V4) (f:bv):Prop where
 o:PE X e (tD X.K E f)
structure DA (X:Cx) (E:XK) (es:List V4) (f:Ev->aw (ac)):Prop where
 o:PA X es (Uh X.K E f)
structure DT (X:Cx) (E:XK) (e:V4) (f:bv):Prop where
 o:PT X e (Qn X.K E f)
structure DW (X:Cx) (E:XK) (e:V4) (f:bv):Prop where
 o:PW X e (Qn X.K E f)
section
variable {X:Cx}{E:XK}{e a b:V4}{es:List V4}{f g:bv}{fa:Ev->aw (ac)}{pos:Pos}
def bc(h:PE X e t)(w:∀c H Q,t' c H Q->t c H Q):PE X e t':=λd s c H Q I q=>h d s c H Q I<|w c H Q q
def Ee(h:PA X es t)(w:∀c H Q,t' c H Q->t c H Q):PA X es t':=λpos d s c H Q I q=>h pos d s c H Q I<|w c H Q q
def sW(h:PT X e t)(w:∀c H Q,t' c H Q->t c H Q):PT X e t':=λd s c H Q I q=>h d s c H Q I<|w c H Q q
def D8(h:PW X e t)(w:∀c H Q,t' c H Q->t c H Q):PW X e t':=λi d s c H Q I q=>h i d s c H Q I<|w c H Q q
def af(i:Nat):bv:=λc=>match c[i]? with
 |some (.sh d)=>.ok d
 |_=>.stuck
def dC(d:D):bv:=λ_=>.ok d
def PM(p:X.N[i]?=Wp x)(m:yC X.env.scope x)(hd:1#x:=by decide)(c:3#x:=by decide):DE X E (.Name x pos) (af i):=by
 refine⟨?_⟩;refine bc (fW p m hd c) λw H Q ⟨u,l,n,o,q⟩=>?_;unfold af at q;cases e:l[i]? with
 |none=>rw[e]at q;exact q.elim
 |some s=>
  rw[e]at q;cases s with
  |sh d=>
   obtain⟨v,t,r⟩:=o i d e;exact⟨v,t,q v H u (bz.refl n) r⟩
  |no|ow d|ox j y|pt a=>exact q.elim
def ai{i j}:DE X E (.Constant (.int i) j pos) (dC<|.int i):=⟨bc Ii λl H Q ⟨d,m,c,n,q⟩=>q _ H d (bz.refl c)<|ax.mpr rfl⟩
def fg{i j}:DE X E (.Constant (.bool i) j pos) (dC<|.bl i):=⟨bc Rt λl H Q ⟨d,m,c,n,q⟩=>q _ H d (bz.refl c)<|aF.mpr rfl⟩
def bF{j}:DE X E (.Constant .none j pos) (dC .non):=⟨bc OO λi H Q ⟨d,l,c,m,q⟩=>q _ H d (bz.refl c)<|aY.mpr rfl⟩
def bE{x j}:DE X E (.Constant (.str x) j pos) (dC<|.str x):=⟨bc OK λi H Q ⟨d,l,c,m,q⟩=>q _ H d (bz.refl c)<|Rep.str_iff.mpr rfl⟩
def Mt(n:Gl X x)(m:X.mg x=Wp u)(r:bw v u)(l:∀H,Rep X.K H d v)(hd:1#x:=by decide):DE X E (.Name x pos) (dC d) :=
 ⟨bc (Ec n m r hd) λo H Q ⟨c,p,i,j,q⟩=>q _ H c (bz.refl i)<|l c⟩
def ag(f g:bv)(d:D->D->aw D):bv:=λc=>(f c).bind λx=>(g c).bind λy=>d x y
def aL(f:bv)(d:D->aw D):bv:=λc=>(f c).bind d
def BX(K:Va)(E:XK)(r:R2)(d:D->D->aw D):Prop:=∀(x y:D) (v u:V) (H c:Hp) (Q:VK),aD c H->Rep K c x v->Rep K c y u->post K E H c (d x y) Q->r v u H Q
def jV(C:BX X.K E r d)(n:L2.St)(H:Hp)(Q:VK)(h:tD X.K E (ag f g d) n H Q):QJ r (tD X.K E f) (tD X.K E g) n H Q:=by
 obtain⟨t,c,B,o,q⟩:=h;refine⟨t,c,B,o,?_⟩;unfold ag at q;cases s:f c with
 |stuck|exn x=>rwa[s]at q
 |ok x=>
  rw[s]at q;intro v I m j A;refine⟨m,c,j.sub,o.mono j.z,?_⟩;replace q:post X.K E H t ((g c).bind λy=>d x y) Q:=q;replace q:=q.grow j;cases p:g c with
  |stuck|exn x=>rwa[p]at q
  |ok y=>
   rw[p]at q;intro u G l i w;exact C x y v u G l Q i.sub (A.mono i.z) w<|post.grow (r:=d x y) q i
def yk(h:ia X (binaryOp c) r)(d:BX X.K E r o)(j:DE X E a f)(i:DE X E b g):DE X E (.BinOp a c b pos) (ag f g o) :=
 ⟨bc (Ig h j.o i.o)<|jV d⟩
def dk(h:ia X (Wf c) r)(d:BX X.K E r o)(l:DE X E a f)(j:DE X E b g)(i:behindInMarks c b=Vd):DE X E (.Compare a [c] [b] pos) (ag f g o) :=
 ⟨bc (Lx h l.o j.o i)<|jV d⟩
def R3(h:Ko X r)(d:BX X.K E r o)(j:DE X E a f)(i:DE X E b g)(c:z7 b):DE X E (.Subscript a b pos) (ag f g o) :=
 ⟨bc (Rr h j.o i.o c)<|jV d⟩
def U2(K:Va)(E:XK)(r:V->Hp->VK->Prop)(d:D->aw D):Prop:=∀(x:D) (v:V) (H c:Hp) (Q:VK),aD c H->Rep K c x v->post K E H c (d x) Q->r v H Q
def R0(h:SK X (unaryOp m) r)(s:U2 X.K E r o)(t:DE X E a f):DE X E (.UnaryOp m a pos) (aL f o):=by
 refine⟨?_⟩;refine bc (Nu h t.o) λy H Q z9=>?_;obtain⟨u,d,n,p,q⟩:=z9;refine⟨u,d,n,p,?_⟩
 unfold aL at q;cases j:f d with
 |stuck|exn x=>rwa[j]at q
 |ok x=>
  rw[j]at q;intro v w c i l;exact s x v w c Q i.sub l<|post.grow (r:=o x) q i
def av:Ev->aw (ac):=λ_=>.ok []
def ae(f:bv)(fa:Ev->aw (ac)):Ev->aw (ac):=λc=>(f c).bind λx=>(fa c).bind λxs=>.ok (x::xs)
def aj:DA X E [] av:=⟨Ee ig λi H Q ⟨d,j,c,l,q⟩=>q [] H d (bz.refl c) Reps.nil⟩
def aa(y:DE X E e f)(d:DA X E es fa)(i:Vg (e::es) X.env=(Vd,eval e X.env)::Vg es X.env:=by exact aM rfl):DA X E (e::es) (ae f fa):=by
 refine⟨?_⟩;refine Ee (dH y.o d.o i) λB H Q z9=>?_;obtain⟨s,c,i,d,q⟩:=z9;refine⟨s,c,i,d,?_⟩
 unfold ae at q;cases r:f c with
 |stuck|exn x=>rwa[r]at q
 |ok x=>
  rw[r]at q;intro v C m j w;refine⟨m,c,j.sub,d.mono j.z,?_⟩;replace q:ou X.K E H s ((fa c).bind λxs=>.ok (x::xs)) Q:=q;replace q:=q.grow j;cases p:fa c with
  |stuck|exn x=>rwa[p]at q
  |ok xs=>
   rw[p]at q;intro t A l n u;exact q (v::t) A l n<|Reps.cons (w.mono n.z) u
def line:Nat:=1000000
def dW(h:n<=line):n<=sizeLine:=Vr h 0#1
def ak(fa:Ev->aw (ac))(m:ac->aw D):bv:=λc=>(fa c).bind m
def bI:ac->aw D:=λc=>if c.length<=line then .ok (.tup c) else .stuck
def aZ:ac->aw D:=λc=>if c.length<=line then .ok (.lst c) else .stuck
def ko{r:am->Hp->VK->Prop}(s:∀(ds:ac) (vs:am) (H Ha:Hp) (Q:VK),aD Ha H->Reps X.K Ha ds vs->post X.K E H Ha (m ds) Q->r vs H Q)
  (d:L2.St)(H:Hp)(Q:VK)(h:tD X.K E (ak fa m) d H Q):Uh X.K E fa d H λvs H1=>r vs H1 Q:=by
 obtain⟨Ha,i,o,p,q⟩:=h;refine⟨Ha,i,o,p,?_⟩;unfold ak at q;cases l:fa i with
 |stuck|exn x=>rwa[l]at q
 |ok x=>
  rw[l]at q;intro v H1 c j n;exact s x v H1 c Q j.sub n<|post.grow (r:=m x) q j
def aK{x1}(h:DA X E es fa):DE X E (.Tuple es x1 pos) (ak fa bI):=by
 refine⟨?_⟩;refine bc (OJ h.o)<|ko (r:=λxs l Q=>xs.length<=sizeLine/\∀p,l p=Wb->Q (.ref p) (upd l p (.tup xs))) λn m H s Q d i q=>?_;unfold bI at q
 by_cases c:n.length<=line
 .rw[ef c]at q
  refine⟨by rw[←i.length];exact dW c,λp j=>q _ _ _ (aR d j)<|aH.mpr ⟨p,m,rfl,nq.of aC,i.mono (aR d j).z⟩⟩
 .rw[eo c]at q;exact q.elim
def aQ(h:DA X E es fa):DE X E (.List es pos) (ak fa aZ):=by
 refine⟨?_⟩;refine bc (Ih h.o)<|ko (r:=λxs l Q=>xs.length<=sizeLine/\∀p,l p=Wb->Q (.ref p) (upd l p (.lst xs))) λn m H s Q d i q=>?_;unfold aZ at q
 by_cases c:n.length<=line
 .rw[ef c]at q
  refine⟨by rw[←i.length];exact dW c,λp j=>q _ _ _ (aR d j)<|aA.mpr ⟨p,m,rfl,fm.of aC,i.mono (aR d j).z⟩⟩
 .rw[eo c]at q;exact q.elim
def spD(K:Va)(n:Nat)(m:ac->aw D):Sp:=λd H Q E=>d.length=n/\∃c i,aD c H/\Reps K c i d/\post K E H c (m i) Q
def Mu{k n:Nat}{ps:cr}(F:ft X.prog X.w X.K X.mg X.base CX k fn M ps<|spD X.K n m)(c:cW k X.A)(G:Gl X x)(z:X.mg x=Wp (.ref fn))
  (C:Yx X.K (.ref fn)=VO)(J:gw X.K M ps [])(u:gN CX X E)(L:DA X E (e::es) fa)(T:(e::es).length=n:=by rfl)(B:∀ρ ds,fa ρ=.ok ds->ds.length=(e::es).length)
  (i:1#x:=by decide)(I:Vg (e::es) X.env=(Vd,eval e X.env)::Vg es X.env:=by exact aM rfl)(d:(Wn pos<|Vg es X.env).any (·.1)=Vd:=by exact bM rfl) :
  DE X E (.Call (.Name x p) (e::es) [] pos) (ak fa m):=by
 refine⟨?_⟩;refine bc (Ly F c G z C J .nil u L.o i I d) λO H Q h=>?_;obtain⟨N,ρ,y,c,q⟩:=h;refine⟨N,ρ,y,c,?_⟩;unfold ak at q;cases j:fa ρ with
 |stuck|exn x=>rwa[j]at q
 |ok ds=>
  rw[j]at q;intro v U l t s;refine⟨?_,l,ds,t.sub,by simpa using s,post.grow (r:=m ds) q t⟩;have:=s.length;have:=B ρ ds j;simp only[We];omega
def BS(h:av ρ=.ok ds):ds.length=0:=by cases h;rfl
def mV(i:∀es,fa ρ=.ok es->es.length=n)(h:ae f fa ρ=.ok ds):ds.length=n+1:=by
 unfold ae at h;cases d:f ρ with
 |stuck|exn x=>rw[d]at h;cases h
 |ok x=>
  rw[d]at h;replace h:((fa ρ).bind λxs=>aw.ok (x::xs))=.ok ds:=h;cases c:fa ρ with
  |stuck|exn x=>rw[c]at h;cases h
  |ok xs=>
   rw[c]at h;cases h;simp[i xs c]
def k8(X:Cx)(E:XK)(r:am->Hp->VK->Prop)(m:ac->aw D):Prop:=∀(i:ac) (d:am) (H c:Hp) (Q:VK),aD c H->Reps X.K c i d->post X.K E H c (m i) Q->r d H Q
def aU{id:String}(s:ku X (.builtin id) r)(hd:k8 X E r m)(n:Gl X x)(l:X.mg x=Wb)(i:bootBuiltins x=Wp (.builtin id))(t:DA X E (e::es) fa)(j:x≠"__name__":=by decide)(d:1#x:=by decide)
  (q:Vg (e::es) X.env=(Vd,eval e X.env)::Vg es X.env:=by exact aM rfl)(c:(Wn pos<|Vg es X.env).any (·.1)=Vd:=by exact bM rfl):DE X E (.Call (.Name x p) (e::es) [] pos) (ak fa m) :=
 ⟨bc (uv s n l i t.o j d q c)<|ko hd⟩
def JD(h:PT X e<|tB<|tD X.K E f):DT X E e f:=by
 refine⟨?_⟩;refine sW h λs H Q z9=>?_;obtain⟨p,i,m,n,q⟩:=z9;refine⟨p,i,m,n,?_⟩
 cases j:f i with
 |stuck|exn x=>rwa[j]at q
 |ok d=>
  rw[j]at q;intro v r c o l;cases d with|bl b=>rw[aF.mp l];exact⟨b,rfl,q r c o⟩| _=>exact q.elim
def cf(h:DE X E e f)(c:∀whole,isTrue e X.env whole=(do let v ←whole;standAt e.pos;Yk [v] (truthy v)):=by intro _;rfl):DT X E e f:=JD<|OB h.o c
def aO(h:ia X (Wf l) r)(t:BX X.K E r o)(z:DE X E a f)(y:DE X E b g)(u:behindInMarks l b=Vd):DT X E (.Compare a [l] [b] pos) (ag f g o):=by
 refine⟨?_⟩;refine sW (Lg h z.o y.o u) λi H Q h=>?_;have w:tD X.K E (ag f g o) i H λx G=>∃k,x=.bl k/\Q k G:=by
  obtain⟨B,j,p,s,q⟩:=h;refine⟨B,j,p,s,?_⟩;cases m:ag f g o j with
  |stuck|exn x=>rwa[m]at q
  |ok d=>
   rw[m]at q;intro v C c A n;cases d with|bl b=>rw[aF.mp n];exact⟨b,rfl,q C c A⟩| _=>exact q.elim
 exact jV t i H _ w
def cD(f:bv):bv:=aL f λx=>match x with
 |.bl b=>.ok<|.bl (!b)
 |_=>.stuck
def gm(f g:bv):bv:=λc=>(f c).bind λx=>match x with
 |.bl VO=>g c
 |.bl Vd=>.ok<|.bl Vd
 |_=>.stuck
def iU(f g:bv):bv:=λc=>(f c).bind λx=>match x with
 |.bl VO=>.ok<|.bl VO
 |.bl Vd=>g c
 |_=>.stuck
def cg(m:DT X E a f):DT X E (.UnaryOp .Not a pos) (cD f):=by
 refine⟨?_⟩;refine sW (OC m.o) λp H Q z9=>?_;obtain⟨n,c,j,l,q⟩:=z9;refine⟨n,c,j,l,?_⟩
 unfold cD aL at q;cases i:f c with
 |stuck|exn x=>rwa[i]at q
 |ok d=>
  rw[i]at q;cases d with|bl b=>exact q| _=>exact q.elim
def JK(p:DE X E a f):DE X E (.UnaryOp .Not a pos) (cD f):=by
 refine⟨?_⟩;refine bc (ON p.o) λu H Q z9=>?_;obtain⟨s,i,m,n,q⟩:=z9;refine⟨s,i,m,n,?_⟩
 unfold cD aL at q;cases j:f i with
 |stuck|exn x=>rwa[j]at q
 |ok d=>
  rw[j]at q;intro v t c r l;cases d with|bl b=>rw[aF.mp l];exact⟨b,rfl,q (.bl !b) t c r<|aF.mpr rfl⟩| _=>exact q.elim
variable {rest:List V4}
def gI(c:DT X E a f):DW X E (.BoolOp .And [a] pos) f:=⟨Le c.o⟩
def bN(c:DT X E a f):DW X E (.BoolOp .Or [a] pos) f:=⟨Oz c.o⟩
def qR(t:DT X E a f)(s:DW X E (.BoolOp .And (b::rest) pos) g):DW X E (.BoolOp .And (a::b::rest) pos) (gm f g):=by
 refine⟨?_⟩;refine D8 (OA t.o s.o) λv H Q z9=>?_;obtain⟨u,j,p,l,q⟩:=z9;refine⟨u,j,p,l,?_⟩
 unfold gm at q;cases m:f j with
 |stuck|exn x=>rwa[m]at q
 |ok d=>
  rw[m]at q;cases d with
  |bl b=>
   cases b with|true=>exact λn c i=>⟨c,j,i.sub,l.mono i.z,uq.grow (r:=g j) q i⟩|false=>exact λn c i=>q n c i
  |_=>exact q.elim
def eX(t:DT X E a f)(s:DW X E (.BoolOp .Or (b::rest) pos) g):DW X E (.BoolOp .Or (a::b::rest) pos) (iU f g):=by
 refine⟨?_⟩;refine D8 (Rj t.o s.o) λv H Q z9=>?_;obtain⟨u,j,p,l,q⟩:=z9;refine⟨u,j,p,l,?_⟩
 unfold iU at q;cases m:f j with
 |stuck|exn x=>rwa[m]at q
 |ok d=>
  rw[m]at q;cases d with
  |bl b=>
   cases b with|false=>exact λn c i=>⟨c,j,i.sub,l.mono i.z,uq.grow (r:=g j) q i⟩|true=>exact λn c i=>q n c i
  |_=>exact q.elim
def DW.dt(h:DW X E e f):DT X E e f:=⟨PW.pt h.o⟩
def gK{c}(h:DE X E a f):DE X E (.BoolOp c [a] pos) f:=⟨OM h.o⟩
def jQ(t:DE X E a f)(s:DE X E (.BoolOp .And (b::rest) pos) g):DE X E (.BoolOp .And (a::b::rest) pos) (gm f g):=by
 refine⟨?_⟩;refine bc (OQ t.o s.o) λy H Q z9=>?_;obtain⟨u,i,p,l,q⟩:=z9;refine⟨u,i,p,l,?_⟩
 unfold gm at q;cases m:f i with
 |stuck|exn x=>rwa[m]at q
 |ok d=>
  rw[m]at q;intro v w c j n;cases d with
  |bl b=>
   rw[aF.mp n];cases b with|true=>exact⟨VO,rfl,c,i,j.sub,l.mono j.z,post.grow (r:=g i) q j⟩|false=>exact⟨Vd,rfl,q (.bl Vd) w c j<|aF.mpr rfl⟩
  |_=>exact q.elim
def EF(t:DE X E a f)(s:DE X E (.BoolOp .Or (b::rest) pos) g):DE X E (.BoolOp .Or (a::b::rest) pos) (iU f g):=by
 refine⟨?_⟩;refine bc (Rq t.o s.o) λy H Q z9=>?_;obtain⟨u,i,p,l,q⟩:=z9;refine⟨u,i,p,l,?_⟩
 unfold iU at q;cases m:f i with
 |stuck|exn x=>rwa[m]at q
 |ok d=>
  rw[m]at q;intro v w c j n;cases d with
  |bl b=>
   rw[aF.mp n];cases b with|false=>exact⟨Vd,rfl,c,i,j.sub,l.mono j.z,post.grow (r:=g i) q j⟩|true=>exact⟨VO,rfl,q (.bl VO) w c j<|aF.mpr rfl⟩
  |_=>exact q.elim
def Km(c f g:bv):bv:=λd=>(c d).bind λx=>match x with
 |.bl VO=>f d
 |.bl Vd=>g d
 |_=>.stuck
def p7(t:DT X E c n)(v:DE X E a f)(u:DE X E b g):DE X E (.IfExp c a b pos) (Km n f g):=by
 refine⟨?_⟩;refine bc (Ij t.o v.o u.o) λA H Q z9=>?_;obtain⟨w,l,s,m,q⟩:=z9;refine⟨w,l,s,m,?_⟩
 unfold Km at q;cases p:n l with
 |stuck|exn x=>rwa[p]at q
 |ok d=>
  rw[p]at q;cases d with
  |bl b=>
   cases b with|true=>exact λy j i=>⟨j,l,i.sub,m.mono i.z,post.grow (r:=f l) q i⟩|false=>exact λy j i=>⟨j,l,i.sub,m.mono i.z,post.grow (r:=g l) q i⟩
  |_=>exact q.elim
end
noncomputable def M4(K:Va) (Ha H:Hp) (a:Vi) (d:D):Prop:=match d with
 |.lst e=>∃b,H a=Wp (.lst b)/\Reps K Ha e b
 |.dic c e=>∃b,H a=Wp (.dK<|(c.map Wr).zip b)/\c.length=b.length/\Reps K Ha e b
 |.ob (.dint c) e=>∃b,H a=Wp (.dK<|(c.map YD).zip b)/\c.length=b.length/\Reps K Ha e b
 |_=>False
def w4(j k:Nat):Bool:=if j=99 then decide (k<=1) else k==j
noncomputable def Sk(K:Va) (f Ha H:Hp) (a:Vi) (j:Nat) (ds:ac) (P:Nat->Vi):Prop:=∃b,f a=Wb/\H a=Wp (.tup b)/\ds.length=b.length /\
 (∀k,w4 j k=VO->∃e c,f (P k)=Wb/\Ha (P k)=Wb/\ds[k]?=Wp (.lst e)/\b[k]?=Wp (.ref<|P k)/\H (P k)=Wp (.lst c)/\Reps K Ha e c) /\
 (∀k l,w4 j k=VO->w4 j l=VO->P k=P l->k=l)/\∀k d v,w4 j k=Vd->ds[k]?=Wp d->b[k]?=Wp v->Rep K Ha d v
noncomputable def OX(K:Va) (g Ha:Hp) (b:L2.St) (H:Hp) (ρ:Ev):Prop:=(∀(i j:Nat) (e:ac),ρ[i]?=Wp (.ox j e)->∃a P,b[i]?=Wp (Wp<|.ref a)/\Sk K g Ha H a j e P/\(∀(k:Nat) (d:D) (l:Nat),w4 j l=VO->ρ[k]?=Wp (.ow d)->b[k]?≠Wp (Wp<|.ref<|P l))/\∀(k f:Nat) (c:ac),ρ[k]?=Wp (.ox f c)->k=i)/\∀(i:Nat) (a:Vi),ρ[i]?=Wp (.pt a)->b[i]?=Wp (Wp<|.ref a)
def OX.upd{K:Va}(h:OX K w Ha u H ρ)
  (n:∀(j:Nat) (s:Sl),ρ'[j]?=Wp s->(ρ[j]?=Wp s/\f[j]?=u[j]?)∨(∃d,s=.sh d)∨s=.no∨∃d q,s=.ow d/\f[j]?=Wp (Wp<|.ref q)/\∀(i j:Nat) (ds:ac) (a:Vi) (P:Nat->Vi),ρ[i]?=Wp (.ox j ds)->u[i]?=Wp (Wp<|.ref a)->Sk K w Ha H a j ds P->∀l,w4 j l=VO->q≠P l)
  (G:aD Ha t)(ht:∀a vs,w a=Wb->H a=Wp (.tup vs)->H' a=Wp (.tup vs))
  (hl:∀p o,w p=Wb->Ha p=Wb->H p=Wp (.lst o)->(∀(k:Nat) (d:D),ρ[k]?=Wp (.ow d)->u[k]?≠Wp (Wp<|.ref p))->H' p=Wp (.lst o)/\t p=Wb):OX K w t f H' ρ':=by
 refine⟨λi j ds e=>?_,λi a e=>?_⟩
 rotate_left
 .rcases n i _ e with c|⟨d,c⟩|c|⟨d,q,c,_⟩
  .rw[c.2];exact h.2 i a c.1
  .cases c
  .cases c
  .cases c
 have g:ρ[i]?=Wp (.ox j ds)/\f[i]?=u[i]?:=by
  rcases n i _ e with c|⟨d,c⟩|c|⟨d,q,c,_⟩
  .exact c
  .cases c
  .cases c
  .cases c
 obtain⟨a,P,c,J,I,h4⟩:=h.1 i j ds g.1;have y:=J;obtain⟨vs,C,Q,O,N,M,L⟩:=J;refine⟨a,P,g.2.trans c,⟨vs,C,ht a vs C Q,O,λk ok=>?_,M,λk d v n e1 e2=>(L k d v n e1 e2).mono G⟩,λk d l ok ek z=>?_,λk j' A ek=>?_⟩
 .obtain⟨es,o,E,q2,q3,Y,U,T⟩:=N k ok
  obtain⟨l1,l2⟩:=hl (P k) o E q2 U λm d em=>I m d k ok em;exact⟨es,o,E,l2,q3,Y,l1,T.mono G⟩
 .rcases n k _ ek with b|⟨B,b⟩|b|⟨B,q,b,r,x⟩
  .exact I k d l ok b.1 (by rw[←b.2];exact z)
  .cases b
  .cases b
  .rw[r]at z
   cases z;exact x i j ds a P g.1 c y l ok rfl
 .rcases n k _ ek with b|⟨B,b⟩|b|⟨B,q,b,_⟩
  .exact h4 k j' A b.1
  .cases b
  .cases b
  .cases b
def OX.none{K:Va}(h:∀(i j:Nat) (ds:ac),ρ[i]?≠Wp (.ox j ds))(h':∀(i:Nat) (a:Vi),ρ[i]?=Wp (.pt a)->b[i]?=Wp (Wp<|.ref a)):OX K c Ha b H ρ:=⟨λi j ds e=>er e<|h i j ds,h'⟩
theorem D0{K:Va}{H:Hp}:∀{ds:ac}{vs:am},ds.length=vs.length->(∀(k:Nat) (d:D) (v:V),ds[k]?=Wp d->vs[k]?=Wp v->Rep K H d v)->Reps K H ds vs
 |[],[],_,_=>Reps.nil
 |d::ds,v::vs,b,h=>Reps.cons (h 0 d v rfl rfl) (D0 (by simpa using b) λk f a e c=>h (k+1) f a e c)
structure eG (K:Va) (He η Ha:Hp) (σ:L2.St) (H:Hp) (ρ:Ev):Prop where
 g:bz He η H Ha
 rd:fq K Ha σ ρ
 ow:∀(i:Nat) (d:D),ρ[i]?=Wp (.ow d)->∃a,σ[i]?=Wp (Wp (.ref a))/\He a=Wb/\Ha a=Wb/\M4 K Ha H a d
 ap:∀(i j:Nat) (d d':D),i≠j->ρ[i]?=Wp (.ow d)->ρ[j]?=Wp (.ow d')->σ[i]?≠σ[j]?
 ln:ρ.length=σ.length
 ex:OX K He Ha σ H ρ
inductive Fl where
 |nx (ρ:Ev)|rt (d:D)|bk (ρ:Ev)|ct (ρ:Ev)
abbrev ci:=Ev->aw Fl
noncomputable def bX(K:Va) (E:XK) (f e Ha:Hp) (r:aw Fl) (D:rq):Prop:=match r with
 |.ok (.nx c)=>∀b H a,aD Ha a->eG K f e a b H c->D.nx b H
 |.ok (.rt d)=>∀v H a,bz f e H a->Rep K a d v->D.rt v H
 |.ok (.bk c)=>∀b H a,aD Ha a->eG K f e a b H c->D.bk b H
 |.ok (.ct c)=>∀b H a,aD Ha a->eG K f e a b H c->D.ct b H
 |.exn x=>∀C ox H a,bz f e H a->yG K a x C ox->E C ox H
 |.stuck=>False
def bX.grow{K:Va}{D:rq}(h:bX K E i g Ha r D)(s:aD Ha j):bX K E i g j r D:=by
 cases r with
 |ok f=>
  cases f with|nx e=>exact λb H a c=>h b H a (s.trans c)|rt d=>exact h|bk e=>exact λb H a c=>h b H a (s.trans c)|ct e=>exact λb H a c=>h b H a<|s.trans c
 |exn x=>exact h
 |stuck=>exact h
def tS(K:Va)(E:XK)(c b:Hp)(g:ci):TS:=λD e H=>∃d a,eG K c b d e H a/\bX K E c b d (g a) D
structure DS (X:Cx) (E:XK) (He η:Hp) (st:Xi) (g:ci):Prop where
 o:PS X st (tS X.K E He η g)
structure B2 (X:Cx) (E:XK) (He η:Hp) (st:List Xi) (g:ci):Prop where
 o:z8 X st (tS X.K E He η g)
def fQ(ρ:Ev):Ev:=ρ.map λs=>match s with
 |.ow d=>.sh d
 |.ox _ a=>.sh<|.tup a
 |x=>x
def frz(b Ha H:Hp):Hp:=λa=>match b a with
 |none=>H a
 |some _=>Ha a
section
variable {K:Va}{E:XK}{He η Ha H H1:Hp}{σ:L2.St}{ρ:Ev}
def eG.same(h:eG K He η Ha σ H ρ)(s:aD H H1):eG K He η Ha σ H1 ρ :=
 ⟨⟨h.g.s.trans s,h.g.z,h.g.sub.trans s,h.g.nw⟩,h.rd,λi d e=>by
  obtain⟨a,v,u,t,l⟩:=h.ow i d e;refine⟨a,v,u,t,?_⟩;cases d with
  |lst n=>obtain⟨b,f,c⟩:=l;exact⟨b,s _ _ f,c⟩|dic o n=>obtain⟨b,f,m,c⟩:=l;exact⟨b,s _ _ f,m,c⟩
  |ob q n=>
   cases q with|dint o=>obtain⟨b,f,m,c⟩:=l;exact⟨b,s _ _ f,m,c⟩| _=>exact l.elim
  |_=>exact l,h.ap,h.ln,h.ex.upd (λj y e=>.inl ⟨e,rfl⟩) (aD.refl _) (λa b _ e=>s _ _ e) λp x _ w r _=>⟨s _ _ r,w⟩⟩
def eG.grow(h:eG K He η Ha σ H ρ)(s:bz H Ha H1 f):eG K He η f σ H1 ρ :=
 ⟨h.g.trans s,h.rd.mono s.z,λi d e=>by
  obtain⟨a,A,y,x,c⟩:=h.ow i d e;have w:f a=Wb:=by
   cases q:f a with
   |none=>rfl
   |some o=>
    have:=s.nw a (by rw[q];simp) x;cases d with
    |lst n|dic r n=>obtain⟨l,b,_⟩:=c;rw[b]at this;cases this
    |ob t n=>
     cases t with|dint r=>obtain⟨l,b,_⟩:=c;rw[b]at this;cases this| _=>exact c.elim
    |_=>exact c.elim
  refine⟨a,A,y,w,?_⟩;cases d with
  |lst n=>obtain⟨l,b,m⟩:=c;exact⟨l,s.s _ _ b,m.mono s.z⟩|dic r n=>obtain⟨l,b,u,m⟩:=c;exact⟨l,s.s _ _ b,u,m.mono s.z⟩
  |ob t n=>
   cases t with|dint r=>obtain⟨l,b,u,m⟩:=c;exact⟨l,s.s _ _ b,u,m.mono s.z⟩| _=>exact c.elim
  |_=>exact c,h.ap,h.ln,h.ex.upd (λj G e=>.inl ⟨e,rfl⟩) s.z (λa l _ e=>s.s _ _ e) λp C _ B v _=>⟨s.s _ _ v,by
   cases q:f p with
   |none=>rfl
   |some o=>have:=s.nw p (by rw[q];simp) B;rw[v]at this;cases this⟩⟩
def eG.frz_sub(h:eG K He η Ha σ H ρ):aD Ha (frz He Ha H):=λb o e=>by
 unfold frz;cases q:He b with|none=>exact h.g.sub _ _ e|some _=>exact e
def eG.frz_le(h:eG K He η Ha σ H ρ):aD (frz He Ha H) H:=λb o e=>by
 unfold frz at e;cases q:He b with|none=>rwa[q]at e|some _=>rw[q]at e;exact h.g.sub _ _ e
theorem eG.frz_grow(h:eG K He η Ha σ H ρ):bz He η H (frz He Ha H) :=
 ⟨h.g.s,h.g.z.trans h.frz_sub,h.frz_le,λa b c=>by
  cases q:He a with
  |none=>rfl
  |some o=>
   unfold frz at b;rw[q]at b;have:=h.g.nw a b c;rw[q]at this;cases this⟩
def eG.looks(h:eG K He η Ha σ H ρ):fq K (frz He Ha H) σ (fQ ρ):=λi d e=>by
 unfold fQ at e;rw[Vh]at e;cases q:ρ[i]? with
 |none=>rw[q]at e;cases e
 |some s=>
  rw[q]at e;cases s with
  |no|pt a=>cases e
  |sh N=>
   cases e;obtain⟨v,m,l⟩:=h.rd i d q;exact⟨v,m,l.mono h.frz_sub⟩
  |ow N=>
   cases e;obtain⟨a,m,l,T,g⟩:=h.ow i d q;refine⟨_,m,?_⟩;cases d with
   |lst n=>
    obtain⟨b,f,c⟩:=g;exact aA.mpr ⟨a,b,rfl,fm.of (by unfold frz;rw[l];exact f),c.mono h.frz_sub⟩
   |dic L n=>
    obtain⟨b,f,o,c⟩:=g;rw[Rep];exact⟨a,_,b,rfl,.inl (by unfold frz;rw[l];exact f),rfl,o,c.mono h.frz_sub⟩
   |ob M n=>
    cases M with
    |dint L=>
     obtain⟨b,f,o,c⟩:=g;exact bj.mpr ⟨a,b,rfl,⟨_,.inl (by unfold frz;rw[l];exact f),rfl,o⟩,c.mono h.frz_sub⟩
    |_=>exact g.elim
   |_=>exact g.elim
  |ox j n=>
   cases e;obtain⟨a,P,m,⟨b,A,z,y,x,O,w⟩,_⟩:=h.ex.1 i j n q;refine⟨_,m,aH.mpr ⟨a,b,rfl,nq.of (by unfold frz;rw[A];exact z),D0 y λk d v r p=>?_⟩⟩;cases t:w4 j k with
   |true=>
    obtain⟨U,u,J,Q,I,G,C,B⟩:=x k t;rw[I]at r;cases r;rw[G]at p;cases p;exact aA.mpr ⟨P k,u,rfl,fm.of (by unfold frz;rw[J];exact C),B.mono h.frz_sub⟩
   |false=>exact(w k d v t r p).mono h.frz_sub
def eG.put(h:eG K He η Ha σ H ρ)(r:Rep K Ha d v):eG K He η Ha (σ.set i<|Wp v) H (ρ.set i<|.sh d):=by
 have key:∀(j:Nat) (s:Sl),(ρ.set i<|.sh d)[j]?=Wp s->(j=i/\s=.sh d/\i<σ.length)∨(j≠i/\ρ[j]?=Wp s):=λj s e=>by
  by_cases c:i=j
  .subst c
   rw[Xz]at e;cases q:ρ[i]? with
   |none=>rw[q]at e;cases e
   |some M=>
    rw[q]at e;cases e;refine .inl ⟨rfl,rfl,?_⟩;rw[←h.ln];exact(Vn.mp q).1
  .rw[Vo c]at e
   exact .inr ⟨λz=>c z.symm,e⟩
 refine⟨h.g,λj t e=>?_,λj t e=>?_,λj k I G x C B=>?_,by simp[h.ln],h.ex.upd (λj s e=>?_) (aD.refl _) (λa J _ e=>e) λp L _ A w _=>⟨w,A⟩⟩
 rotate_left 3
 .rcases key j _ e with⟨rfl,b,f⟩|⟨c,b⟩
  .exact .inr<|.inl ⟨d,b⟩
  .exact .inl ⟨b,by rw[Vo (V6 c)]⟩
 .rcases key j _ e with⟨rfl,b,f⟩|⟨c,b⟩
  .cases b
   exact⟨v,by rw[VT f],r⟩
  .obtain⟨u,m,l⟩:=h.rd j t b
   exact⟨u,by rw[Vo (V6 c)];exact m,l⟩
 .rcases key j _ e with⟨rfl,b,f⟩|⟨c,b⟩
  .cases b
  .obtain⟨a,m,l⟩:=h.ow j t b
   exact⟨a,by rw[Vo (V6 c)];exact m,l⟩
 .rcases key j _ C with⟨_,b,_⟩|⟨c,o⟩
  .cases b
  rcases key k _ B with⟨_,b,_⟩|⟨y,n⟩
  .cases b
  rw[Vo (V6 c),Vo<|V6 y];exact h.ap j k I G x o n
def eG.putOwn(h:eG K He η Ha σ H ρ)(w:∀(j:Nat) (a:Vi),σ[j]?=Wp (Wp<|V.ref a)->a=p->∀d:D,ρ[j]?≠Wp (Sl.ow d))(L:He p=Wb)(y:Ha p=Wb)(J:H p=Wp (.lst vs))(r:Reps K Ha ds vs)(I:∀(i j:Nat) (ds:ac) (a:Vi) (P:Nat->Vi),ρ[i]?=Wp (.ox j ds)->σ[i]?=Wp (Wp<|.ref a)->Sk K He Ha H a j ds P->∀l,w4 j l=VO->p≠P l) :
  eG K He η Ha (σ.set i<|Wp<|.ref p) H (ρ.set i<|.ow<|.lst ds):=by
 have key:∀(j:Nat) (s:Sl),(ρ.set i<|.ow<|.lst ds)[j]?=Wp s->(j=i/\s=.ow (.lst ds)/\i<σ.length)∨(j≠i/\ρ[j]?=Wp s):=λj s e=>by
  by_cases b:i=j
  .subst b
   rw[Xz]at e;cases q:ρ[i]? with
   |none=>rw[q]at e;cases e
   |some O=>
    rw[q]at e;cases e;refine .inl ⟨rfl,rfl,?_⟩;rw[←h.ln];exact(Vn.mp q).1
  .rw[Vo b]at e
   exact .inr ⟨λz=>b z.symm,e⟩
 have other:∀(k:Nat) (n:D),k≠i->ρ[k]?=Wp (.ow n)->Wp (Wp<|V.ref p)≠σ[k]?:=λk n t u z=>by
  obtain⟨a,o,_⟩:=h.ow k n u;rw[o]at z;cases z;exact w k p o rfl n u
 refine⟨h.g,λj A e=>?_,λj A e=>?_,λj k C n B M u=>?_,by simp[h.ln],h.ex.upd (λj s e=>?_) (aD.refl _) (λa vs _ e=>e) λp N _ y w _=>⟨w,y⟩⟩
 rotate_left 3
 .rcases key j _ e with⟨rfl,c,f⟩|⟨b,c⟩
  .exact .inr (.inr<|.inr ⟨.lst ds,p,c,by rw[VT f],I⟩)
  .exact .inl ⟨c,by rw[Vo (V6 b)]⟩
 .rcases key j _ e with⟨rfl,c,f⟩|⟨b,c⟩
  .cases c
  .obtain⟨G,o,x⟩:=h.rd j A c
   exact⟨G,by rw[Vo (V6 b)];exact o,x⟩
 .rcases key j _ e with⟨rfl,c,f⟩|⟨b,c⟩
  .cases c
   exact⟨p,by rw[VT f],L,y,vs,J,r⟩
  .obtain⟨a,o,x⟩:=h.ow j A c
   exact⟨a,by rw[Vo (V6 b)];exact o,x⟩
 .rcases key j _ M with⟨rfl,_,f⟩|⟨b,v⟩
  .rcases key k _ u with⟨rfl,_,_⟩|⟨t,m⟩
   .exact er rfl B
   .rw[VT f,Vo<|V6 t]
    exact other k n t m
  .rcases key k _ u with⟨rfl,_,f⟩|⟨t,m⟩
   .rw[VT f,Vo<|V6 b]
    exact λz=>other j C b v z.symm
   .rw[Vo (V6 b),Vo<|V6 t]
    exact h.ap j k C n B v m
def eG.fresh_x{c:Hp}{p:Vi}(h:eG K He η Ha σ H ρ)(s:aD H H1)(y:H p=Wb):∀(i j:Nat) (ds:ac) (a:Vi) (P:Nat->Vi),ρ[i]?=Wp (.ox j ds)->σ[i]?=Wp (Wp<|.ref a)->Sk K He c H1 a j ds P->∀l,w4 j l=VO->p≠P l:=λi j ds a P u t r l f=>by
 obtain⟨A,B,e,⟨v,_,g,_,q,_⟩,_⟩:=h.ex.1 i j ds u;rw[t]at e;cases e;obtain⟨w,_,n,_,o,_⟩:=r;have:=s _ _ g;rw[n]at this;cases this;obtain⟨_,x,_,_,_,b,d,_⟩:=q l f;obtain⟨_,_,_,_,_,m,_⟩:=o l f;rw[m]at b;injection b with b;injection b with b;intro z;rw[←b,←z,y]at d;cases d
def eG.write(h:eG K He η Ha σ H ρ)(e:ρ[i]?=Wp (.ow d))(es:σ[i]?=Wp (Wp<|.ref p))(r:Reps K Ha ds vs) :
  eG K He η Ha σ (upd H p<|.lst vs) (ρ.set i<|.ow<|.lst ds):=by
 obtain⟨a,v,h2,h3,J⟩:=h.ow i d e;rw[v]at es;cases es;have T:i<ρ.length:=(Vn.mp e).1;have key:∀(j:Nat) (s:Sl),(ρ.set i<|.ow<|.lst ds)[j]?=Wp s->(j=i/\s=.ow (.lst ds))∨(j≠i/\ρ[j]?=Wp s):=λj s e=>by
  by_cases u:i=j
  .subst u
   rw[VT T]at e;cases e;exact .inl ⟨rfl,rfl⟩
  .rw[Vo u]at e
   exact .inr ⟨λz=>u z.symm,e⟩
 refine⟨⟨λb o n=>?_,h.g.z,λb o n=>?_,h.g.nw⟩,λj G C=>?_,λj G C=>?_,λj k d1 d2 I e1 e2=>?_,by simp[h.ln],h.ex.upd (λj s C=>?_) (aD.refl _) (λb us _ n=>?_) λq us _ q0 hq hd=>?_⟩
 rotate_left 5
 .rcases key j _ C with⟨rfl,c⟩|⟨u,c⟩
  .exact .inr (.inr<|.inr ⟨.lst ds,p,c,v,λi' j' m a' P' x1 x2 x3 l L=>by
    obtain⟨a2,P2,y1,y2,y3,_⟩:=h.ex.1 i' j' m x1;rw[x2]at y1;cases y1;have:P2 l=P' l:=by
     obtain⟨al,_,z1,_,y5,_⟩:=x3;obtain⟨ab,_,Y,_,y4,_⟩:=y2;rw[z1]at Y;cases Y;obtain⟨_,_,_,_,_,z2,_⟩:=y5 l L;obtain⟨_,_,_,_,_,y,_⟩:=y4 l L;rw[z2]at y;injection y with y;injection y with y;exact y.symm
    rw[←this];intro zz;rw[zz]at v;exact y3 j d l L e v⟩)
  .exact .inl ⟨c,rfl⟩
 .rw[ay (by
   intro z;subst z;cases d with
   |lst m|dic M m=>obtain⟨f,t,_⟩:=J;rw[t]at n;cases n
   |ob N m=>
    cases N with|dint M=>obtain⟨f,t,_⟩:=J;rw[t]at n;cases n| _=>exact J.elim
   |_=>exact J)];exact n
 .have O:q≠p:=by
   intro z;subst z;exact hd i d e v
  exact⟨by rw[ay O];exact hq,q0⟩
 .rw[ay (by intro z;subst z;rw[h2]at n;cases n)];exact h.g.s _ _ n
 .rw[ay (by intro z;subst z;rw[h3]at n;cases n)];exact h.g.sub _ _ n
 .rcases key j _ C with⟨rfl,c⟩|⟨u,c⟩
  .cases c
  .exact h.rd j G c
 .rcases key j _ C with⟨rfl,c⟩|⟨u,c⟩
  .cases c
   exact⟨p,v,h2,h3,vs,aC,r⟩
  .obtain⟨b,k1,k2,k3,A⟩:=h.ow j G c
   refine⟨b,k1,k2,k3,?_⟩;have U:b≠p:=by
    intro z;subst z;exact h.ap j i G d u c e (by rw[k1,v])
   cases G with
   |lst m=>
    obtain⟨f,t,B⟩:=A;exact⟨f,by rw[ay U];exact t,B⟩
   |dic M m=>
    obtain⟨f,t,Q,B⟩:=A;exact⟨f,by rw[ay U];exact t,Q,B⟩
   |ob N m=>
    cases N with
    |dint M=>
     obtain⟨f,t,Q,B⟩:=A;exact⟨f,by rw[ay U];exact t,Q,B⟩
    |_=>exact A.elim
   |_=>exact A.elim
 .rcases key j _ e1 with⟨rfl,x⟩|⟨u,x⟩
  .rcases key k _ e2 with⟨rfl,_⟩|⟨hk,w⟩
   .exact er rfl I
   .exact h.ap j k d d2 I e w
  .rcases key k _ e2 with⟨rfl,_⟩|⟨hk,w⟩
   .exact h.ap j k d1 d I x e
   .exact h.ap j k d1 d2 I x w
end
mutual
def lP:D->Bool
 |.lst _=>Vd
 |.dic _ _=>Vd
 |.exc _=>Vd
 |.ob _ _=>Vd
 |.tup a=>flats a
 |_=>VO
def flats:ac->Bool
 |[]=>VO
 |d::a=>lP d&&flats a
end
mutual
theorem Rep.flat_to{K:Va}{H H':Hp}(e:∀a vs,Rd H a (.tup vs)->Rd H' a (.tup vs)):∀{d:D}{v:V},lP d=VO->Rep K H d v->Rep K H' d v
 |.non,_,_,h=>by unfold Rep at h ⊢;exact h
 |.bl _,_,_,h=>by unfold Rep at h ⊢;exact h
 |.int _,_,_,h=>by unfold Rep at h ⊢;exact h
 |.str _,_,_,h=>by unfold Rep at h ⊢;exact h
 |.tup c,_,f,h=>by
  unfold lP at f;obtain⟨a,vs,i,b,g⟩:=aH.mp h;refine aH.mpr ⟨a,vs,i,?_,Reps.flat_to e f g⟩;rcases b with b|b
  .exact .inl<|e _ _ b
  .exact .inr b
 |.lst c,_,f,h=>by unfold lP at f;cases f
 |.dic j c,_,f,h=>by unfold lP at f;cases f
 |.exc x,_,f,h=>by unfold lP at f;cases f
 |.ob k c,_,f,h=>by unfold lP at f;cases f
theorem Reps.flat_to{K:Va}{H H':Hp}(e:∀a vs,Rd H a (.tup vs)->Rd H' a (.tup vs)):∀{ds:ac}{vs:am},flats ds=VO->Reps K H ds vs->Reps K H' ds vs
 |[],_,_,h=>by unfold Reps at h ⊢;exact h
 |d::ds,_,f,h=>by
  unfold flats at f;rw[Vv]at f;obtain⟨v,r,g,c,b⟩:=az.mp h;exact az.mpr ⟨v,r,g,Rep.flat_to e f.1 c,Reps.flat_to e f.2 b⟩
end
def lh(Ha J:Hp):Hp:=λa=>match Ha a with
 |some o=>Wp o
 |none=>match J a with
  |some (.tup b)=>Wp<|.tup b
  |some (.frz o (.tup b))=>Wp<|.frz o<|.tup b
  |_=>Wb
section
variable {K:Va}{E:XK}{He η Ha H H1 J:Hp}{σ:L2.St}{ρ:Ev}
def MV(h:aD Ha J):∀a o,lh Ha J a=Wp o->J a=Wp o:=λa o e=>by
 unfold lh at e;cases q:Ha a with
 |some u=>rw[q]at e;cases e;exact h _ _ q
 |none=>
  rw[q]at e;cases b:J a with
  |none=>rw[b]at e;cases e
  |some u=>
   rw[b]at e;cases u with
   |tup c=>cases e;rfl
   |frz o d=>
    cases d with|tup c=>cases e;rfl| _=>cases e
   |_=>cases e
def EU(h:aD Ha J)(a:Vi)(vs:am)(e:Rd J a<|.tup vs):Rd (lh Ha J) a (.tup vs):=by
 rcases e with e|⟨o,e⟩
 .refine .inl ?_
  unfold lh;cases q:Ha a with|some u=>have:=h _ _ q;rw[e]at this;cases this;rfl|none=>rw[e]
 .refine .inr ⟨o,?_⟩
  unfold lh;cases q:Ha a with|some u=>have:=h _ _ q;rw[e]at this;cases this;rfl|none=>rw[e]
def eG.behind(h:eG K He η Ha σ H ρ)(g:bz H (frz He Ha H) H1 J):eG K He η (lh Ha J) σ H1 ρ:=by
 have B:aD Ha J:=h.frz_sub.trans g.z;have le:=MV (Ha:=Ha) (J:=J) B;have z:aD Ha (lh Ha J):=λb o e=>by unfold lh;rw[e]
 refine⟨⟨h.g.s.trans g.s,h.g.z.trans z,λb o e=>g.sub _ _ (le b o e),λa G C=>?_⟩,h.rd.mono z,λi d e=>?_,h.ap,h.ln,h.ex.upd (λj s e=>.inl ⟨e,rfl⟩) z (λa c _ e=>g.s _ _ e) λp w y I m _=>⟨g.s _ _ m,by
  have:frz He Ha H p=Wp (.lst w):=by unfold frz;rw[y];exact m
  have:=g.z _ _ this;unfold lh;rw[I,this]⟩⟩
 .cases q:lh Ha J a with
  |none=>exact er q G
  |some o=>
   have A:=le a o q;exact(h.frz_grow.trans g).nw a (by rw[A];simp) C
 .obtain⟨a,x,k2,v,l⟩:=h.ow i d e
  refine⟨a,x,k2,?_,?_⟩
  .cases d with
   |lst t=>
    obtain⟨c,f,_⟩:=l;have:frz He Ha H a=Wp (.lst c):=by unfold frz;rw[k2];exact f
    have:=g.z _ _ this;unfold lh;rw[v,this]
   |dic n t=>
    obtain⟨c,f,_⟩:=l;have:frz He Ha H a=Wp (.dK<|(n.map Wr).zip c):=by unfold frz;rw[k2];exact f
    have:=g.z _ _ this;unfold lh;rw[v,this]
   |ob u t=>
    cases u with
    |dint n=>
     obtain⟨c,f,_⟩:=l;have:frz He Ha H a=Wp (.dK<|(n.map YD).zip c):=by unfold frz;rw[k2];exact f
     have:=g.z _ _ this;unfold lh;rw[v,this]
    |_=>exact l.elim
   |_=>exact l.elim
  .cases d with
   |lst t=>obtain⟨c,f,r⟩:=l;exact⟨c,g.s _ _ f,r.mono z⟩
   |dic n t=>obtain⟨c,f,m,r⟩:=l;exact⟨c,g.s _ _ f,m,r.mono z⟩
   |ob u t=>
    cases u with|dint n=>obtain⟨c,f,m,r⟩:=l;exact⟨c,g.s _ _ f,m,r.mono z⟩| _=>exact l.elim
   |_=>exact l.elim
end
section
variable {X:Cx}{E:XK}{He η:Hp}{st:Xi}{rest:List Xi}{e a b:V4}{es:List V4}{f g:bv}{fa:Ev->aw (ac)}{s t:ci}{pos:Pos}
def cA{t t':TS}(h:PS X st t)(w:∀D c H,t' D c H->t D c H):PS X st t':=λd s c H D I q=>h d s c H D I<|w D c H q
def iY{t t':TS}(h:z8 X rest t)(w:∀D c H,t' D c H->t D c H):z8 X rest t':=λd s c H D I q=>h d s c H D I<|w D c H q
def au:ci:=λc=>.ok<|.nx c
def ar(s t:ci):ci:=λd=>(s d).bind λr=>match r with
 |.nx c=>t c
 |r=>.ok r
def aq:B2 X E He η [] au:=⟨iY y9 λD c H ⟨d,i,h,q⟩=>q c H d (aD.refl _) h⟩
def ah(u:DS X E He η st s)(p:B2 X E He η rest t):B2 X E He η (st::rest) (ar s t):=by
 refine⟨?_⟩;refine iY (lE u.o p.o) λD y H z9=>?_;obtain⟨w,j,h,q⟩:=z9;refine⟨w,j,h,?_⟩
 unfold ar at q;cases l:s j with
 |stuck|exn x=>rwa[l]at q
 |ok r=>
  rw[l]at q;cases r with|nx c=>exact λm z i n v=>⟨i,c,v,bX.grow (r:=t c) q n⟩|rt d|bk c|ct c=>exact q
def gA:ci:=λ_=>.stuck
def BA:DS X E He η st gA:=⟨cA HW λD c H ⟨i,d,h,q⟩=>q⟩
def plain{K:Va}{k:D->aw Fl}(h:eG K He η Ha n H ρ) 
  (q:bX K E He η Ha (r.bind k) m)(j:∀d v H' c,r=.ok d->bz H Ha H' c->Rep K c d v->bX K E He η c (k d) m->Q v H'):post K E H Ha r Q:=by
 cases r with|stuck=>exact q|exn x=>exact λC ox H' c g l=>q C ox H' c (h.g.trans g) l|ok d=>exact λv H' c g i=>j d v H' c rfl g i (bX.grow (r:=k d) q g.z)
def look{K:Va}{k:D->aw Fl}(h:eG K He η Ha n H ρ) 
  (q:bX K E He η Ha (r.bind k) m)(j:∀d v H' J,r=.ok d->bz H (frz He Ha H) H' J->Rep K J d v->bX K E He η Ha (k d) m->Q v H'):post K E H (frz He Ha H) r Q:=by
 cases r with|stuck=>exact q|exn x=>exact λC ox H' c g l=>q C ox H' c (h.frz_grow.trans g) l|ok d=>exact λv H' J g i=>j d v H' J rfl g i q
def NA{K:Va}{k:Bool->aw Fl}(h:eG K He η Ha m H ρ) 
  (q:bX K E He η Ha (r.bind λx=>match x with|.bl b=>k b|_=>.stuck) l)(i:∀b H',aD H H'->bX K E He η Ha (k b) l->Q b H'):uq K E H (frz He Ha H) r Q:=by
 cases r with
 |stuck=>exact q|exn x=>exact λC ox H' c g j=>q C ox H' c (h.frz_grow.trans g) j
 |ok d=>
  cases d with|bl b=>exact λH' J g=>i b H' g.s q| _=>exact q.elim
def aJ(i:Nat)(f:bv):ci:=λc=>(f c).bind λd=>.ok<|.nx<|c.set i<|.sh d
def DV(i:Nat)(f:bv):ci:=λc=>(f (fQ c)).bind λd=>if lP d=VO then .ok (.nx<|c.set i<|.sh d) else .stuck
def bJ(f:bv):ci:=λc=>(f (fQ c)).bind λd=>.ok<|.rt d
def fL(f:bv):ci:=λc=>(f (fQ c)).bind λ_=>.ok<|.nx c
def dG(c:bv)(s t:ci):ci:=λd=>(c (fQ d)).bind λx=>match x with
 |.bl b=>if b=VO then s d else t d
 |_=>.stuck
def aG(w:X.N.Nodup)(hi:X.N[i]?=Wp x)(n:Ka X.env.scope x)(u:DE X E e f)(p:WI e (Wp<|.Name x pos') pos.line X.env=pure Vd:=by rfl)
  (r:X.fn x=VO∨X.env.scope.names.lookup x=Wp .local := by first|exact .inl rfl|exact .inr rfl|assumption):DS X E He η (.Assign [.Name x pos'] e pos) (aJ i f):=by
 refine⟨?_⟩;refine cA (uo w hi n u.o p r) λD A H z9=>?_;obtain⟨y,j,h,q⟩:=z9;refine⟨y,j,h.g.sub,h.rd,?_⟩
 refine plain h q λd v z c _ g l m=>?_;exact m _ z c (aD.refl _)<|(h.grow g).put l
def Mn(y:X.N.Nodup)(hi:X.N[i]?=Wp x)(p:Ka X.env.scope x)(w:DE X E e f)(r:WI e (Wp<|.Name x pos') pos.line X.env=pure Vd:=by rfl)
  (u:X.fn x=VO∨X.env.scope.names.lookup x=Wp .local := by first|exact .inl rfl|exact .inr rfl|assumption):DS X E He η (.Assign [.Name x pos'] e pos) (DV i f):=by
 refine⟨?_⟩;refine cA (uo y hi p w.o r u) λD C H z9=>?_;obtain⟨l,m,h,q⟩:=z9;refine⟨frz He l H,fQ m,h.frz_le,h.looks,?_⟩
 refine look h q λd v B J _ g n c=>?_
 by_cases j:lP d=VO
 .rw[ef j]at c
  have A:aD l J:=h.frz_sub.trans g.z;refine c _ B (lh l J) (λb o e=>by unfold lh;rw[e])<|(h.behind g).put<|n.flat_to (EU A) j
 .rw[eo j]at c;exact c.elim
def aP(l:DE X E e f):DS X E He η (.Return (Wp e) pos) (bJ f):=by
 refine⟨?_⟩;refine cA (OD l.o) λD p H z9=>?_;obtain⟨m,c,h,q⟩:=z9;refine⟨frz He m H,fQ c,h.frz_le,h.looks,?_⟩
 exact look h q λd v n J _ g i j=>j v n J (h.frz_grow.trans g) i
def dY(n:DE X E e f)(m:WI e Wb pos.line X.env=pure Vd:=by rfl):DS X E He η (.Expr e pos) (fL f):=by
 refine⟨?_⟩;refine cA (za n.o m) λD i H z9=>?_;obtain⟨c,j,h,q⟩:=z9;refine⟨frz He c H,fQ j,h.frz_le,h.looks,?_⟩
 exact look h q λd v p J _ g r l=>l i p c (aD.refl _)<|h.same g.s
def bQ(p:DT X E c v)(u:B2 X E He η n s)(r:B2 X E He η m t):DS X E He η (.If c n m pos) (dG v s t):=by
 refine⟨?_⟩;refine cA (Rm p.o u.o r.o) λD w H z9=>?_;obtain⟨j,d,h,q⟩:=z9;refine⟨frz He j H,fQ d,h.frz_le,h.looks,?_⟩
 refine NA (k:=λb=>if b=VO then s d else t d) h q λb x l i=>?_;cases b with|true=>rw[ef rfl]at i ⊢;exact⟨j,d,h.same l,i⟩|false=>rw[eo WL]at i ⊢;exact⟨j,d,h.same l,i⟩
noncomputable def tF(K:Va) (E:XK) (f:bv):TE:=λm H Q=>∃i j,aD i H/\fq K i m j/\match f j with
 |.ok (.lst n)=>∀p l d c,bz H i d c->H p=Wb->c p=Wb->d p=Wp (.lst l)->Reps K c n l->Q (.ref p) d
 |.ok _=>False
 |.exn x=>∀C ox d c,bz H i d c->yG K c x C ox->E C ox d
 |.stuck=>False
structure DF (X:Cx) (E:XK) (e:V4) (f:bv):Prop where
 o:PE X e (tF X.K E f)
def mX(i:Nat)(f:bv):ci:=λc=>(f c).bind λd=>match d with
 |.lst j=>.ok<|.nx<|c.set i<|.ow<|.lst j
 |_=>.stuck
def jj(T:X.N.Nodup)(hi:X.N[i]?=Wp x)(J:Ka X.env.scope x)(Q:DF X E e f)(M:WI e (Wp<|.Name x pos') pos.line X.env=pure Vd:=by rfl)
  (O:X.fn x=VO∨X.env.scope.names.lookup x=Wp .local := by first|exact .inl rfl|exact .inr rfl|assumption):DS X E He η (.Assign [.Name x pos'] e pos) (mX i f):=by
 refine⟨?_⟩;refine cA (uo T hi J Q.o M O) λD σ H z9=>?_;obtain⟨Ha,y,h,q⟩:=z9;refine⟨Ha,y,h.g.sub,h.rd,?_⟩
 unfold mX at q;cases v:f y with
 |stuck=>rwa[v]at q|exn x=>rw[v]at q;exact λC ox w c g Y=>q C ox w c (h.g.trans g) Y
 |ok d=>
  rw[v]at q;cases d with
  |lst ds=>
   intro p vs w c g r U L B;refine q _ w c g.z<|(h.grow g).putOwn (λj a ej ea d ed=>?_) (h.g.s.free r) U L B<|h.fresh_x g.s r;subst ea;obtain⟨a',A,_,_,n⟩:=h.ow j d ed;rw[ej]at A;cases A;cases d with
   |lst m|dic G m=>obtain⟨u,l,_⟩:=n;rw[r]at l;cases l
   |ob I m=>
    cases I with|dint G=>obtain⟨u,l,_⟩:=n;rw[r]at l;cases l| _=>exact n.elim
   |_=>exact n.elim
  |_=>exact q.elim
def fF(h:DA X E es fa):DF X E (.List es pos) (ak fa aZ):=by
 refine⟨?_⟩;refine bc (Ih h.o) λL H Q h=>?_;obtain⟨u,v,B,G,q⟩:=h;refine⟨u,v,B,G,?_⟩;unfold ak at q;cases A:fa v with
 |stuck|exn x=>rwa[A]at q
 |ok m=>
  rw[A]at q;intro j M i l w;replace q:match aZ m with
   |.ok (.lst m)=>∀p j d c,bz H u d c->H p=Wb->c p=Wb->d p=Wp (.lst j)->Reps X.K c m j->Q (.ref p) d
   |.ok _=>False
   |.exn x=>∀C ox d c,bz H u d c->yG X.K c x C ox->E C ox d
   |.stuck=>False:=q
  unfold aZ at q
  by_cases r:m.length<=line
  .rw[ef r]at q
   refine⟨by rw[←w.length];exact dW r,λp n=>?_⟩;have y:i p=Wb:=l.sub.free n;refine q p j _ i (l.trans ⟨λb o q=>by rw[ay (aN q n)];exact q,aD.refl _,λb o q=>?_,λa J I=>er I J⟩) (l.s.free n) y aC w;rw[ay (by intro z;subst z;rw[y]at q;cases q)];exact l.sub _ _ q
  .rw[eo r]at q;exact q.elim
def xT(ρ:Ev)(i:Nat)(k:ac->aw Fl):aw Fl:=match ρ[i]? with
 |some (.ow (.lst c))=>k c
 |_=>.stuck
def bP(i:Nat)(f:bv):ci:=λc=>xT c i λj=>(f c).bind λd=>if j.length<line then .ok (.nx<|c.set i<|.ow<|.lst<|j++[d]) else .stuck
def oz{K:Va}{k:ac->aw Fl}(h:eG K He η Ha c H ρ)(q:bX K E He η Ha (xT ρ i k) u) :
  ∃ds p vs,ρ[i]?=Wp (.ow<|.lst ds)/\c[i]?=Wp (Wp<|.ref p)/\He p=Wb/\Ha p=Wb/\H p=Wp (.lst vs)/\Reps K Ha ds vs/\bX K E He η Ha (k ds) u:=by
 unfold xT at q;cases e:ρ[i]? with
 |none=>rw[e]at q;exact q.elim
 |some s=>
  rw[e]at q;cases s with
  |no|sh d|ox j ds|pt a=>exact q.elim
  |ow d=>
   cases d with
   |lst ds=>
    obtain⟨p,r,o,n,vs,m,l⟩:=h.ow i _ e;exact⟨ds,p,vs,rfl,r,o,n,m,l,q⟩
   |_=>exact q.elim
def bW(hN:X.N[i]?=Wp x)(U:yC X.env.scope x)(Y:DE X E e f)
  (hd:1#x:=by decide)(A:3#x:=by decide)
  (l:Xe (.Name x u) "append" X.env (eval (.Name x u) X.env)=eval (.Name x u) X.env:=by rfl)
  (n:((Wn m<|Vg [e] X.env).all (λx=>!x.1)&&(YK m<|XA [] X.env).all (λx=>x.1.isSome)
  &&decide ([e].length+([]:List Yc).length+(if([]:List Yc).isEmpty then 0 else 1)<30))=VO:=by exact lQ rfl)
  (j:(G.endLine==m.line)=VO:=by rfl) (I:Vg [e] X.env=(Vd,eval e X.env)::Vg [] X.env:=by exact aM rfl) (c:(Wn m<|Vg [] X.env).any (·.1)=Vd:=by exact bM rfl)
  (hw:WI (.Call (.Attribute (.Name x u) "append" G) [e] [] m) Wb pos.line X.env=pure Vd:=by rfl) :
  DS X E He η (.Expr (.Call (.Attribute (.Name x u) "append" G) [e] [] m) pos) (bP i f):=by
 refine⟨?_⟩;refine cA (za (AI Yi PySem.F.slot_list_append PySem.F.type_list_append xW (fW hN U hd A) (dH Y.o ig I) l n j I c) hw) λD O H ⟨Ha,Q,h,q⟩=>?_;obtain⟨ds,p,w,e1,M,e3,e4,L,J,q⟩:=oz h q;refine⟨.ref p,M,.inl ⟨rfl,w,fm.of L⟩,?_⟩;refine⟨Ha,Q,h.g.sub,h.rd,plain h q λd v H' C _ g T r=>?_⟩
 by_cases y:ds.length<line
 .rw[ef y]at r
  have B:H' p=Wp (.lst w):=g.s _ _ L;refine⟨p,w,v,rfl,rfl,B,by rw[←J.length];exact Vk y 0#1,?_⟩;exact r O _ C (aD.refl _)<|(h.grow g).write e1 M<|(J.mono g.z).app<|Reps.cons T Reps.nil
 .rw[eo y]at r;exact r.elim
def putAt(ρ:Ev)(i:Nat)(ds:ac)(d:D)(j:D):aw Fl:=match j with
 |.int j=>match xt ds.length j with
  |some n=>.ok<|.nx<|ρ.set i<|.ow<|.lst<|ds.set n d
  |none=>.stuck
 |_=>.stuck
def K4(i:Nat)(f k:bv):ci:=λc=>xT c i λl=>(f c).bind λd=>(k c).bind λj=>putAt c i l d j
def DX(i:Nat)(f k:bv):ci:=λc=>xT c i λl=>(f (fQ c)).bind λd=>(k (fQ c)).bind λj=>if lP d=VO then putAt c i l d j else .stuck
def AD{K:Va}(h:eG K He η Ha c H ρ)(z:ρ[i]?=Wp (.ow<|.lst ds))(y:c[i]?=Wp (Wp<|.ref p))(x:H p=Wp (.lst vs))(o:Reps K Ha ds vs)
  (r:Rep K Ha d v)(w:Rep K Ha j u)(q:bX K E He η Ha (putAt ρ i ds d j) A):Nr (.ref p) u v H λH'=>A.nx c H':=by
 unfold putAt at q;cases j with
 |int n=>
  cases l:xt ds.length n with
  |none=>simp only[l]at q;exact q.elim
  |some m=>
   simp only[l]at q;refine⟨p,vs,n,m,rfl,ax.mp w,x,by rw[←o.length];exact l,?_⟩;exact q c _ Ha (aD.refl _)<|h.write z y<|o.set r m
 |_=>exact q.elim
section
variable {i:Nat}{x:Vq}{p1 p2:Pos}{k:bv}
def PF(Y:X.N[i]?=Wp x)(M:yC X.env.scope x)(T:DE X E e f)(Q:DE X E b k)
  (hd:1#x:=by decide)(w:3#x:=by decide)
  (U:∀v,assign (.Subscript (.Name x p1) b p2) X.env v=(do
   let m ←Yk [v] (eval (.Name x p1) X.env)
   let r ←Yk [v,m] (eval b X.env)
   standAt p2
   Yk [v,m,r] (setItem m r v)
   release [v,m,r] []):=by intro _;rfl)
  (O:swapsWithSole [.Subscript (.Name x p1) b p2] e pos.line X.env=pure Vd:=by rfl) (hw:swappedStores [.Subscript (.Name x p1) b p2] e X.env=pure Wb:=by rfl)
  (h1:(assignEach [.Subscript (.Name x p1) b p2] X.env).map (·.2)=[assign (.Subscript (.Name x p1) b p2) X.env]:=by rfl) :
  DS X E He η (.Assign [.Subscript (.Name x p1) b p2] e pos) (K4 i f k):=by
 refine⟨?_⟩;refine cA (Cy T.o (Ic (fW Y M hd w) Q.o Aw U) O hw h1) λD σ H z9=>?_;obtain⟨Ha,l,h,q⟩:=z9;refine⟨Ha,l,h.g.sub,h.rd,?_⟩
 obtain⟨C,p,vs,e1,B,e3,e4,e5,e6,q⟩:=oz h q;refine plain (k:=λd=>(k l).bind λj=>putAt l i C d j) h q λd v H1 A _ y I L=>⟨.ref p,B,?_⟩
 have c:=h.grow y;refine⟨A,l,c.g.sub,c.rd,plain (k:=λj=>putAt l i C d j) c L λj u H2 ab _ n G J=>?_⟩;exact AD (c.grow n) e1 B (n.s _ _<|y.s _ _ e5) ((e6.mono y.z).mono n.z) (I.mono n.z) G J
def Mo(hN:X.N[i]?=Wp x)(Y:yC X.env.scope x)(he:DE X E e f)(hk:DE X E b k)
  (hd:1#x:=by decide)(A:3#x:=by decide)
  (ha:∀v,assign (.Subscript (.Name x p1) b p2) X.env v=(do
   let w ←Yk [v] (eval (.Name x p1) X.env)
   let y ←Yk [v,w] (eval b X.env)
   standAt p2
   Yk [v,w,y] (setItem w y v)
   release [v,w,y] []):=by intro _;rfl)
  (hs:swapsWithSole [.Subscript (.Name x p1) b p2] e pos.line X.env=pure Vd:=by rfl) (hw:swappedStores [.Subscript (.Name x p1) b p2] e X.env=pure Wb:=by rfl)
  (h1:(assignEach [.Subscript (.Name x p1) b p2] X.env).map (·.2)=[assign (.Subscript (.Name x p1) b p2) X.env]:=by rfl) :
  DS X E He η (.Assign [.Subscript (.Name x p1) b p2] e pos) (DX i f k):=by
 refine⟨?_⟩;refine cA (Cy he.o (Ic (fW hN Y hd A) hk.o Aw ha) hs hw h1) λD σ H z9=>?_;obtain⟨l,m,h,q⟩:=z9;refine⟨frz He l H,fQ m,h.frz_le,h.looks,?_⟩
 obtain⟨M,p,vs,e1,L,e3,e4,e5,e6,q⟩:=oz h q;refine look (k:=λd=>(k (fQ m)).bind λj=>if lP d=VO then putAt m i M d j else .stuck) h q λd v H1 O _ r U c=>⟨.ref p,L,?_⟩
 have ab:aD l O:=h.frz_sub.trans r.z;refine⟨O,fQ m,r.sub,h.looks.mono r.z,?_⟩;cases ek:k (fQ m) with
 |stuck=>rwa[ek]at c|exn x=>rw[ek]at c;exact λC ox H' I g ex=>c C ox H' I (h.frz_grow.trans<|r.trans g) ex
 |ok j=>
  rw[ek]at c;intro u H2 G J T;replace c:bX X.K E He η l (if lP d=VO then putAt m i M d j else .stuck) D:=c
  by_cases B:lP d=VO
  .rw[ef B]at c
   have g:=r.trans J;have hJ:aD l G:=h.frz_sub.trans g.z;have z:aD l (lh l G):=λb o e=>by unfold lh;rw[e]
   have rd:=(U.mono J.z).flat_to (EU hJ) B;have Q:Rep X.K (lh l G) j u:=by
    cases j with|int n=>exact ax.mpr (ax.mp T)| _=>exact c.elim
   exact AD (h.behind g) e1 L (g.s _ _ e5) (e6.mono z) rd Q<|c.grow z
  .rw[eo B]at c;exact c.elim
end
noncomputable def bT(tg:Ev->D->aw Ev) (body:ci):ac->ci
 |[],j=>.ok<|.nx j
 |d::r,j=>(tg j d).bind λi=>(body i).bind λx=>match x with
  |.nx c=>bT tg body r c
  |.ct c=>bT tg body r c
  |.bk c=>.ok<|.nx c
  |.rt d=>.ok<|.rt d
def tG(K:Va)(He η:Hp)(tg:Ev->D->aw Ev):TG:=λv o H Q=>∃l m d,eG K He η l o H m/\Rep K l d v/\match tg m d with
  |.ok j=>∀c n i,aD l i->eG K He η i c n j->Q c n
  |_=>False
structure DG (X:Cx) (E:XK) (He η:Hp) (target:V4) (tg:Ev->D->aw Ev):Prop where
 o:PG X target (tG X.K He η tg)
def bK(i:Nat):Ev->D->aw Ev:=λc d=>.ok<|c.set i<|.sh d
def zc{t t':TG}(h:PG X d t)(w:∀v c H Q,t' v c H Q->t v c H Q):PG X d t':=λi s c H v u Q I r q=>h i s c H v u Q I r<|w v c H Q q
def bZ(m:X.N.Nodup)(hi:X.N[i]?=Wp x)(j:Ka X.env.scope x)(l:X.fn x=VO∨X.env.scope.names.lookup x=Wp .local := by first|exact .inl rfl|exact .inr rfl|assumption):DG X E He η (.Name x pos) (bK i) :=
 ⟨zc (Eb m hi j l) λv o H Q ⟨n,p,d,h,c,q⟩=>q _ H n (aD.refl _)<|h.put c⟩
def jG(K:Va)(E:XK)(He η l:Hp)(tg:Ev->D->aw Ev)(s:ci)(ds:ac)(m:rq)(i:Nat)(j:L2.St)(H:Hp):Prop :=
 ∃c d,aD l c/\eG K He η c j H d/\bX K E He η c (bT tg s (ds.drop i) d) m
def jG.step{K:Va}(h:jG K E He η B tg s ds n i L H)(hd:ds[i]?=Wp d)(M:Rep K B d v)
  (N:∀ρ,tg ρ d=.stuck∨∃ρ',tg ρ d=.ok ρ') :
  tG K He η tg v L H λp U=>tS K E He η s { n with nx:=jG K E He η B tg s ds n<|i+1,ct:=jG K E He η B tg s ds n<|i+1,bk:=n.nx } p U:=by
 obtain⟨Q,ρ,z,h,q⟩:=h;have G:i<ds.length:=(Vn.mp hd).1;have w:ds.drop i=d::ds.drop (i+1):=by
  rw[WB G];rw[U7 G]at hd;cases hd;rfl
 rw[w]at q;refine⟨Q,ρ,d,h,M.mono z,?_⟩;unfold bT at q;rcases N ρ with A|⟨j,A⟩
 .rw[A]at q;exact q.elim
 .rw[A]at q ⊢
  intro J Y C u O;refine⟨C,j,O,?_⟩;replace q:=bX.grow (r:=(s j).bind λx=>match x with
   |.nx c=>bT tg s (ds.drop<|i+1) c
   |.ct c=>bT tg s (ds.drop<|i+1) c
   |.bk c=>.ok<|.nx c
   |.rt d=>.ok<|.rt d) q u
  cases I:s j with
  |stuck|exn x=>rwa[I]at q
  |ok r=>
   rw[I]at q;cases r with|nx c=>exact λo T l m y=>⟨l,c,(z.trans u).trans m,y,bX.grow (r:=bT tg s (ds.drop<|i+1) c) q m⟩|ct c=>exact λo T l m y=>⟨l,c,(z.trans u).trans m,y,bX.grow (r:=bT tg s (ds.drop<|i+1) c) q m⟩|bk c|rt d=>exact q
def jG.done{K:Va}(h:jG K E He η l tg s ds i ds.length c H):i.nx c H:=by
 obtain⟨d,j,z,h,q⟩:=h;rw[ZH]at q;unfold bT at q;exact q c H d (aD.refl _) h
def BV(tg:Ev->D->aw Ev):Prop:=∀i d,tg i d=.stuck∨∃c,tg i d=.ok c
def dS:BV (bK i):=λc d=>.inr ⟨_,rfl⟩
def lD(f:bv)(tg:Ev->D->aw Ev)(s:ci):ci:=λc=>(f c).bind λd=>match d with
 |.lst i=>bT tg s i c
 |_=>.stuck
def l4(U:PassesOwn 4#X X.A X.env X.xe)(hc:X.calm=VO)(hi:DE X E iter f)(Y:DG X E He η p tg)(Q:BV tg)(hb:B2 X E He η body s)
  (T:∀x,foldedSetIterable iter X.env x=pure x:=by intro _;rfl):DS X E He η (.For p iter body [] pos) (lD f tg s):=by
 refine⟨?_⟩;refine cA (Cw U hc (Ea hi.o) Y.o hb.o T) λM σ H z9=>?_;obtain⟨Ha,m,h,q⟩:=z9;refine⟨Ha,m,h.g.sub,h.rd,?_⟩
 refine plain h q λd v H1 l _ g O B=>?_;cases d with
 |lst J=>
  obtain⟨a,y,rfl,G,r⟩:=aA.mp O;refine⟨a,rfl,⟨y,aD.sqL g.sub G⟩,?_⟩;refine Jp (K:=X.K) (a:=a) (g:=tG X.K He η tg) (tb:=tS X.K E He η s) (D:=M) (xs:=y) (jG X.K E He η l tg s J M) ⟨l,m,aD.refl _,h.grow g,B⟩ ?_ ?_ ?_
  .rintro i c L _ ⟨ab,N,z,h',_⟩
   exact aD.sqL (z.trans h'.g.sub) G
  .intro i x c L C n
   have j:i<J.length:=by rw[r.length];exact(Vn.mp C).1
   obtain⟨u,I,e2⟩:=r.get<|U7 j;rw[C]at I;cases I;exact n.step (U7 j) e2 λm=>Q m _
  .intro c L n
   rw[←r.length]at n;exact n.done
 |_=>exact B.elim
def intsFrom(lo:Int)(n:Nat):ac:=(Ws n).map λ(k:Nat)=>D.int<|lo+(k:Int)
def xN(f:bv)(tg:Ev->D->aw Ev)(s:ci):ci:=λc=>(f (fQ c)).bind λd=>match d with
 |.int j=>if -4611686018427387904<=j/\j<4611686018427387904 then bT tg s (intsFrom 0 j.toNat) c else .stuck
 |_=>.stuck
def zK(Q:PassesOwn 4#X X.A X.env X.xe)(Y:X.calm=VO)(C:Gl X "range")(T:X.mg "range"=Wb)(hi:DE X E iter f)(U:DG X E He η z tg)(N:BV tg)(hb:B2 X E He η body s)
  (r:Vg [iter] X.env=[(Vd,eval iter X.env)]:=by exact fS rfl)(O:∀x,foldedSetIterable (.Call (.Name "range" p) [iter] [] m) X.env x=pure x:=by intro _;rfl):DS X E He η (.For z (.Call (.Name "range" p) [iter] [] m) body [] pos) (xN f tg s):=by
 refine⟨?_⟩;refine cA (Cw Q Y (xR C T (dH hi.o ig r) r) U.o hb.o O) λI σ H ⟨u,l,h,q⟩=>?_;refine⟨frz He u H,fQ l,h.frz_le,h.looks,look h q λd v H1 J _ g M c=>?_⟩;cases d with
 |int j=>
  rw[ax.mp M];replace c:bX X.K E He η u (if -4611686018427387904<=j/\j<4611686018427387904 then bT tg s (intsFrom 0 j.toNat) l else .stuck) I:=c
  by_cases L:-4611686018427387904<=j/\j<4611686018427387904
  .rw[ef L]at c
   refine⟨j,rfl,by omega,by omega,?_⟩;have hlen:(intsFrom 0 j.toNat).length=j.toNat:=by unfold intsFrom;simp
   refine FQ (lo:=0) (n:=j.toNat) (g:=tG X.K He η tg) (tb:=tS X.K E He η s) (D:=I) (jG X.K E He η u tg s (intsFrom 0 j.toNat) I) ⟨u,l,aD.refl _,h.same g.s,c⟩ ?_ ?_
   .intro i y H' B G
    refine G.step (d:=.int (0+i)) ?_ (ax.mpr rfl) λl=>N l _;unfold intsFrom;simp[B]
   .intro y H' G
    exact jG.done (ds:=intsFrom 0 j.toNat) (by rw[hlen];exact G)
  .rw[eo L]at c;exact c.elim
 |_=>exact c.elim
noncomputable def cu(c:bv) (s:ci):Nat->ci
 |0,_=>.stuck
 |n+1,j=>(c (fQ j)).bind λx=>match x with
  |.bl b=>if b=VO then(s j).bind λx=>match x with
    |.nx i=>cu c s n i
    |.ct i=>cu c s n i
    |.bk i=>.ok<|.nx i
    |.rt d=>.ok (.rt d)
   else .ok<|.nx j
  |_=>.stuck
def ib(fuel:Ev->Nat)(c:bv)(s:ci):ci:=λd=>cu c s (fuel d) d
def lZ(fuel:Ev->Nat)(hp:PassesOwn 4#X X.A X.env X.xe)(hc:DT X E c p)(hb:B2 X E He η body s):DS X E He η (.While c body [] pos) (ib fuel p s):=by
 refine⟨?_⟩;refine cA (HV hp hc.o hb.o) λY N H ⟨u,n,h,q⟩=>?_;refine⟨λm N H=>∃u n,eG X.K He η u N H n/\bX X.K E He η u (cu p s m n) Y,⟨fuel n,u,n,h,q⟩,?_⟩;rintro m I H1 ⟨y,j,C,L⟩;cases m with
 |zero=>exact L.elim
 |succ m=>
  refine⟨frz He y H1,fQ j,C.frz_le,C.looks,?_⟩;unfold cu at L;refine NA (k:=λb=>if b=VO then(s j).bind λx=>match x with
    |.nx i=>cu p s m i
    |.ct i=>cu p s m i
    |.bk i=>.ok<|.nx i
    |.rt d=>.ok (.rt d)
   else .ok (.nx j)) C L λb H2 Q l=>?_
  cases b with
  |false=>
   rw[eo WL]at l ⊢;exact l I H2 y (aD.refl _)<|C.same Q
  |true=>
   rw[ef rfl]at l ⊢;refine⟨λB U=>∃O,O < m+1/\∃u n,eG X.K He η u B U n/\bX X.K E He η u (cu p s O n) Y,λB U z=>z,y,j,C.same Q,?_⟩;cases T:s j with
   |stuck|exn x=>rwa[T]at l
   |ok r=>
    rw[T]at l;cases r with|nx i=>exact λG H3 v J M=>⟨m,Xx _,v,i,M,bX.grow (r:=cu p s m i) l J⟩|ct i=>exact λG H3 v J M=>⟨m,Xx _,v,i,M,bX.grow (r:=cu p s m i) l J⟩|bk i|rt d=>exact l
end
def bH(n:Nat)(s:ci)(ds:ac):aw D:=(s (ds.map Sl.sh++Vt (n-ds.length) .no)).bind λr=>match r with
 |.nx _=>.ok .non
 |.rt d=>.ok d
 |_=>.stuck
def rA{K:Va}(h:Reps K Ha ds vs):fq K Ha (start N vs) (ds.map Sl.sh++Vt (N.length-ds.length) .no):=by
 intro i d e;have f:=h.length
 by_cases a:i<ds.length
 .rw[VA (by simpa using a),Vh]at e
  cases q:ds[i]? with
  |none=>rw[q]at e;cases e
  |some g=>
   rw[q]at e;cases e;obtain⟨v,c,b⟩:=h.get q;refine⟨v,?_,b⟩;unfold L2.start;rw[VA (by simp;omega),Vh,c];rfl
 .rw[VF (by simpa using a),VY]at e
  split at e<;>cases e
def xH{ds:ac}(i j:Nat)(a:ac):(ds.map Sl.sh++Vt n Sl.no)[i]?≠Wp (.ox j a):=λe=>by
 have:=VQ e;rw[VH]at this;rcases this with h|h
 .obtain⟨_,_,h⟩:=VD.mp h;cases h
 .have:=X7 h;cases this
def tW{ds:ac}{b:L2.St}(i:Nat)(a:Vi)(e:(ds.map Sl.sh++Vt n Sl.no)[i]?=Wp (.pt a)):b[i]?=Wp (Wp<|.ref a):=by
 have:=VQ e;rw[VH]at this;rcases this with h|h
 .obtain⟨_,_,h⟩:=VD.mp h;cases h
 .have:=X7 h;cases this
def M9{K:Va}{st:Xi}{N ps:cr}{k:Nat}(F:B1 K x qual st f e)(S:dy N ps<|defScope st)(len:∀vs H Q E,sp vs H Q E->vs.length=ps.length)
  (b:∀(a:U5),e.code=a->∀(A:Wh) (outer:List Wq) (s:Vm) (H:Hp) (vs:am) (Q:VK) (E:XK),cW k (A.deeper<|envOfC qual (defScope st) 2#s f a)->sp vs H Q E ->
   ∃t,z8 (cP CX0 P w K i base N qual (defScope st) f a A outer s H E).nox (defBody st) t/\t { nx:=λ_ H'=>Q .non H',rt:=Q } (start N vs) H):ft P w K i base CX0 (k+1) f e ps sp:=by
 obtain⟨n,m,kV,doc,l,o,a,ct,g,rfl,lk,d⟩:=F.ex;refine Jr lk d S len λA outer s H vs Q E j c=>?_;obtain⟨t,h,q⟩:=b a rfl A outer s H vs Q E j c;exact⟨t,h.nox,q⟩
def C9{K:Va}{st:Xi}{N ps:cr}{k:Nat}(F:B1 K x qual st f u)(S:dy N ps<|defScope st)
  (c:∀(a:U5),u.code=a->∀(A:Wh) (outer:List Wq) (s0:Vm) (H Ha:Hp) (E:XK),cW k (A.deeper<|envOfC qual (defScope st) 2#s0 f a) ->
   B2 (cP CX0 P w K I base N qual (defScope st) f a A outer s0 H E).nox E H Ha (defBody st) s):ft P w K I base CX0 (k+1) f u ps (spD K ps.length<|bH N.length s):=by
 have M:ps.length<=N.length:=by have:=ew YA S.pre;rw[Wc]at this;omega
 refine M9 F S (λC H Q E h=>h.1) λa T A outer s0 H C Q E L h=>?_;obtain⟨Y,Ha,b,J,t,q⟩:=h;refine⟨_,(c a T A outer s0 H Ha E L).o,Ha,b.map Sl.sh++Vt (N.length-b.length) .no,?_,?_⟩
 .refine⟨bz.refl J,rA t,λi d e=>?_,λi j d z O e=>?_,?_,OX.none xH tW⟩
  .by_cases n:i<b.length
   .rw[VA (by simpa using n),Vh]at e
    cases q:b[i]? with|none|some z=>rw[q]at e;cases e
   .rw[VF (by simpa using n),VY]at e
    split at e<;>cases e
  .by_cases n:i<b.length
   .rw[VA (by simpa using n),Vh]at e
    cases q:b[i]? with|none|some z=>rw[q]at e;cases e
   .rw[VF (by simpa using n),VY]at e
    split at e<;>cases e
  .unfold L2.start
   have:=t.length;simp only[Vs,U8,V3];omega
 .unfold bH at q
  cases y:s (b.map Sl.sh++Vt (N.length-b.length) .no) with
  |stuck|exn x=>rwa[y]at q
  |ok r=>
   rw[y]at q;cases r with|nx m=>exact λB p l _ U=>q .non p l U.g (aY.mpr rfl)|rt d=>exact λv p l g G=>q v p l g G|bk m|ct m=>exact q.elim
def FR{K:Va}{st:Xi}{N ps:cr}{k:Nat}(F:B1 K x qual st f d)(S:dy N ps<|defScope st)
  (b:∀(a:U5) (A:Wh) (outer:List Wq) (s0:Vm) (H Ha:Hp) (E:XK),cW k (A.deeper<|envOfC qual (defScope st) 2#s0 f a) ->
   B2 (cP CX0 P w K c base N qual (defScope st) f a A outer s0 H E).nox E H Ha (defBody st) s):ft P w K c base CX0 (k+1) f d ps (spD K ps.length<|bH N.length s):=C9 F S λa _=>b a
mutual
def cX:D->D->Bool
 |.non,.non=>VO
 |.bl a,.bl b=>a==b
 |.bl a,.int b=>(if a then 1 else 0)==b
 |.int a,.bl b=>a==(if b then 1 else 0)
 |.int a,.int b=>a==b
 |.str a,.str b=>a==b
 |.tup xs,.tup c=>eqDs xs c
 |.lst xs,.lst c=>eqDs xs c
 |_,_=>Vd
def eqDs:ac->ac->Bool
 |[],[]=>VO
 |x::xs,y::a=>cX x y&&eqDs xs a
 |_,_=>Vd
end
def bp:Nat->D->Bool
 |_,.non=>VO
 |_,.bl _=>VO
 |_,.int _=>VO
 |_,.str _=>VO
 |n+1,.tup a=>a.all<|bp n
 |n+1,.lst a=>a.all<|bp n
 |_,_=>Vd
def yh(h:∀d∈ds,cX d d=VO):eqDs ds ds=VO:=by
 induction ds with
 |nil=>simp[eqDs]
 |cons d r a=>
  unfold eqDs;rw[h d Ve,a λx b=>h x<|U9 _ b];rfl
theorem lY:∀(n:Nat) (d:D),bp n d=VO->cX d d=VO
 |_,.non,_=>by simp[cX]
 |_,.bl b,_=>by simp[cX]
 |_,.int b,_=>by simp[cX]
 |_,.str b,_=>by simp[cX]
 |n+1,.tup a,h=>by
  unfold bp at h;unfold cX;exact yh λd hd=>lY n d<|V2.mp h d hd
 |n+1,.lst a,h=>by
  unfold bp at h;unfold cX;exact yh λd hd=>lY n d<|V2.mp h d hd
 |0,.tup a,h=>by unfold bp at h;cases h
 |0,.lst a,h=>by unfold bp at h;cases h
 |0,.dic c a,h=>by unfold bp at h;cases h
 |n+1,.dic c a,h=>by unfold bp at h;cases h
 |0,.exc x,h=>by unfold bp at h;cases h
 |0,.ob k x,h=>by unfold bp at h;cases h
 |n+1,.ob k x,h=>by unfold bp at h;cases h
 |n+1,.exc x,h=>by unfold bp at h;cases h
def Mi:cX (.tup xs) (.tup a)=eqDs xs a:=by rw[cX]
def zJ:cX (.lst xs) (.lst a)=eqDs xs a:=by rw[cX]
theorem nQ:∀(xs a:ac),xs.length=a.length->eqDs xs a=(Ws xs.length).all λj=>cX (xs.getD j .non) (a.getD j .non)
 |[],[],_=>by simp[eqDs]
 |x::xs,y::a,h=>by
  have b:=nQ xs a (by simpa using h);unfold eqDs;rw[b,Vp,Y6,X8,sao];rfl
 |[],_::_,h=>by simp at h
 |_::_,[],h=>by simp at h
theorem vY:∀(xs a:ac),xs.length≠a.length->eqDs xs a=Vd
 |[],[],h=>er rfl h
 |x::xs,y::a,h=>by
  unfold eqDs;rw[vY xs a (by simpa using h),Yr]
 |[],_::_,h=>by simp[eqDs]
 |_::_,[],h=>by simp[eqDs]
section
variable {X:Cx}{π:List (Vi×Obj)}{σ:L2.St}{H:Hp}{s:Vm}
def bD(I:Inv X π σ H s)(r:Rep X.K H (.tup ds) v)(e:bw v u):∃a vs its,v=.ref a/\u=.ref a/\nq X.K H a vs/\Reps X.K H ds vs/\bh vs its/\IsTup s.heap a its.toArray/\ds.length=its.length:=by
 obtain⟨a,vs,rfl,d,c⟩:=aH.mp r;obtain rfl:u=VG a:=e;obtain⟨its,b,f,_⟩:=I.tuple d;exact⟨a,vs,its,rfl,rfl,d,c,b,f,c.length.trans b.length⟩
def bg(I:Inv X π σ H s)(r:Rep X.K H (.lst ds) v)(e:bw v u):∃a vs its,v=.ref a/\u=.ref a/\fm X.K H a vs/\Reps X.K H ds vs/\bh vs its/\s.heap.IsList a its.toArray/\ds.length=its.length:=by
 obtain⟨a,vs,rfl,d,c⟩:=aA.mp r;obtain rfl:u=VG a:=e;obtain⟨its,b,f,_⟩:=I.list d;exact⟨a,vs,its,rfl,rfl,d,c,b,f.isList,c.length.trans b.length⟩
theorem ug{n:Nat}(j:∀(d d':D) (v:V),bp n d=VO->bp n d'=VO->Rep X.K H d v->Rep X.K H d' v->d=d'):∀(ds b:ac) (vs:am),ds.all (bp n)=VO->b.all (bp n)=VO->Reps X.K H ds vs->Reps X.K H b vs->ds=b
 |[],b,vs,_,_,h,c=>by
  rw[Reps.nil_iff.mp h]at c;cases b with|nil=>rfl|cons d r=>obtain⟨_,_,e,_⟩:=az.mp c;cases e
 |d::ds,b,vs,a,i,h,c=>by
  obtain⟨v,r,rfl,m,l⟩:=az.mp h;cases b with
  |nil=>cases Reps.nil_iff.mp c
  |cons d' b=>
   obtain⟨o,p,e,g,f⟩:=az.mp c;cases e;rw[X8,Vv]at a i;rw[j d d' v a.1 i.1 m g,ug j ds b r a.2 i.2 l f]
def Rep.inj(I:Inv X π σ H s):∀(n:Nat) (d d':D) (v:V),bp n d=VO->bp n d'=VO->Rep X.K H d v->Rep X.K H d' v->d=d':=by
 have atom:∀(n:Nat) (d d':D) (v:V),(∀c,d≠.tup c)->(∀c,d≠.lst c)->bp n d=VO->bp n d'=VO->Rep X.K H d v->Rep X.K H d' v->d=d':=by
  intro n d d' v U T j i h f;have nd:∀m q c,bp m (.dic q c)=VO->False:=λm q c h=>by cases m<;>(unfold bp at h;cases h)
  have nx:∀m x,bp m (.exc x)=VO->False:=λm x h=>by cases m<;>(unfold bp at h;cases h)
  have z:∀m k x,bp m (.ob k x)=VO->False:=λm k x h=>by cases m<;>(unfold bp at h;cases h)
  cases d with
  |tup c=>exact er rfl (U c)|lst c=>exact er rfl (T c)|dic q c=>exact(nd _ _ _ j).elim|exc x=>exact(nx _ _ j).elim|ob k x=>exact(z _ _ _ j).elim
  |non=>
   rw[aY.mp h]at f;cases d' with|non=>rfl|bl b=>cases aF.mp f|int b=>cases ax.mp f|str b=>cases Rep.str_iff.mp f|tup c=>obtain⟨_,_,e,_⟩:=aH.mp f;cases e|lst c=>obtain⟨_,_,e,_⟩:=aA.mp f;cases e|dic q c=>exact(nd _ _ _ i).elim|exc x=>exact(nx _ _ i).elim|ob k x=>exact(z _ _ _ i).elim
  |bl x=>
   rw[aF.mp h]at f;cases d' with|non=>cases aY.mp f|bl b=>cases aF.mp f;rfl|int b=>cases ax.mp f|str b=>cases Rep.str_iff.mp f|tup c=>obtain⟨_,_,e,_⟩:=aH.mp f;cases e|lst c=>obtain⟨_,_,e,_⟩:=aA.mp f;cases e|dic q c=>exact(nd _ _ _ i).elim|exc x=>exact(nx _ _ i).elim|ob k x=>exact(z _ _ _ i).elim
  |int x=>
   rw[ax.mp h]at f;cases d' with|non=>cases aY.mp f|bl b=>cases aF.mp f|int b=>cases ax.mp f;rfl|str b=>cases Rep.str_iff.mp f|tup c=>obtain⟨_,_,e,_⟩:=aH.mp f;cases e|lst c=>obtain⟨_,_,e,_⟩:=aA.mp f;cases e|dic q c=>exact(nd _ _ _ i).elim|exc x=>exact(nx _ _ i).elim|ob k x=>exact(z _ _ _ i).elim
  |str x=>
   rw[Rep.str_iff.mp h]at f;cases d' with|non=>cases aY.mp f|bl b=>cases aF.mp f|int b=>cases ax.mp f|str b=>cases Rep.str_iff.mp f;rfl|tup c=>obtain⟨_,_,e,_⟩:=aH.mp f;cases e|lst c=>obtain⟨_,_,e,_⟩:=aA.mp f;cases e|dic q c=>exact(nd _ _ _ i).elim|exc x=>exact(nx _ _ i).elim|ob k x=>exact(z _ _ _ i).elim
 intro n
 induction n with
 |zero=>
  intro d d' v j i h f;exact atom 0 d d' v (λc e=>by subst e;unfold bp at j;cases j) (λc e=>by subst e;unfold bp at j;cases j) j i h f
 |succ n Q=>
  intro d d' v j i h f
  by_cases O:∃c,d=.tup c
  .obtain⟨c,rfl⟩:=O
   by_cases w:∃g,d'=.tup g
   .obtain⟨g,rfl⟩:=w
    obtain⟨a,t,rfl,C,B⟩:=aH.mp h;obtain⟨N,p,e,o,l⟩:=aH.mp f;cases e;rw[I.tuple_inj o C]at l;unfold bp at j i;rw[ug Q c g t j i B l]
   .by_cases u:∃g,d'=.lst g
    .obtain⟨g,rfl⟩:=u
     obtain⟨a0,_,L,_,_⟩:=aH.mp h;subst L;obtain⟨a,t,E,M,_,C,B,Y,G,_⟩:=bD I h rfl;cases M;obtain⟨N,p,A,e,_,o,l,J,r,_⟩:=bg I f rfl;cases e;exact er rfl (saj r G)
    .exact(atom (n+1) d' _ v (λc e=>w ⟨c,e⟩) (λc e=>u ⟨c,e⟩) i j f h).symm
  .by_cases y:∃c,d=.lst c
   .obtain⟨c,rfl⟩:=y
    by_cases w:∃g,d'=.lst g
    .obtain⟨g,rfl⟩:=w
     obtain⟨a,t,rfl,C,B⟩:=aA.mp h;obtain⟨N,p,e,o,l⟩:=aA.mp f;cases e;rw[I.list_inj o C]at l;unfold bp at j i;rw[ug Q c g t j i B l]
    .by_cases u:∃g,d'=.tup g
     .obtain⟨g,rfl⟩:=u
      obtain⟨a0,_,L,_,_⟩:=aA.mp h;subst L;obtain⟨a,t,E,M,_,C,B,Y,G,_⟩:=bg I h rfl;cases M;obtain⟨N,p,A,e,_,o,l,J,r,_⟩:=bD I f rfl;cases e;exact er rfl (saj G r)
     .exact(atom (n+1) d' _ v (λc e=>u ⟨c,e⟩) (λc e=>w ⟨c,e⟩) i j f h).symm
   .exact atom (n+1) d d' v (λc e=>O ⟨c,e⟩) (λc e=>y ⟨c,e⟩) j i h f
def A2{A:Wh} 
  (M:∀(x y:D) (v u:V) (a b:U5),bp n x=VO->bp n y=VO->Rep X.K H x v->Rep X.K H y u->bw v a->bw u b->VJ A.in1 s a b (cX x y))
  (E:xs.all (bp n)=VO)(C:c.all (bp n)=VO)(o:Reps X.K H xs vs)(m:Reps X.K H c B)(q:bh vs e)(p:bh B d) :
  ∀j (t:j<e.toArray.size) (r:j<d.toArray.size),VJ A.in1 s e.toArray[j] d.toArray[j] (cX (xs.getD j .non)<|c.getD j .non):=by
 intro j t r;have lx:=o.length;have ly:=m.length;have kx:=q.length;have ky:=p.length;have l:j<e.length:=by simpa using t
 have i:j<d.length:=by simpa using r
 have g:j<xs.length:=by omega
 have f:j<c.length:=by omega
 obtain⟨v,Y,L⟩:=o.get<|U7 g;obtain⟨u,U,J⟩:=m.get<|U7 f;obtain⟨a,z,I⟩:=q.get Y;obtain⟨b,w,G⟩:=p.get U;have T:e.toArray[j]=a:=by
  rw[U7 l]at z;simpa using V8 z
 have Q:d.toArray[j]=b:=by
  rw[U7 i]at w;simpa using V8 w
 rw[T,Q];have O:xs.getD j .non=xs[j]:=by simp[List.getD,U7 g]
 have N:c.getD j .non=c[j]:=by simp[List.getD,U7 f]
 rw[O,N];exact M _ _ v u a b (V2.mp E _<|Ww g) (V2.mp C _<|Ww f) L J I G
def AA(I:Inv X π σ H s)(d:A.units<Xu)(i:Rep X.K H x v)(g:Rep X.K H y u)(l:bw v a)(j:bw u b)
  (B:∀ds p,¬(x=.lst ds/\y=.lst p))(z:∀ds p,¬(x=.tup ds/\y=.tup p))(C:∀ks ds,x≠.dic ks ds)(r:∀ks ds,y≠.dic ks ds)(x1:∀c,x≠.exc c)(x2:∀c,y≠.exc c)(w:∀k c,x≠.ob k c)(q:∀k c,y≠.ob k c) :
  VP A s a b (cX x y)/\VJ A s a b (cX x y)/\VI A s a b (!(cX x y)):=by
 cases x with
 |non=>
  cases y with
  |non=>
   obtain rfl:=aY.mp i;obtain rfl:a=WN:=l;obtain rfl:=aY.mp g;obtain rfl:b=WN:=j;unfold cX;exact⟨VP.none_none ,ZM _,VI.none_none ⟩
  |bl y=>
   obtain rfl:=aY.mp i;obtain rfl:a=WN:=l;obtain rfl:=aF.mp g;obtain rfl:b=WT _:=j;unfold cX;exact⟨VP.none_bool _,VJ.none_bool _,VI.none_bool _⟩
  |int y=>
   obtain rfl:=aY.mp i;obtain rfl:a=WN:=l;obtain rfl:=ax.mp g;obtain⟨ty,rfl⟩:∃t,b=Xb _ t:=j;unfold cX;exact⟨VP.none_int _ _,VJ.none_int _ _,VI.none_int _ _⟩
  |str y=>
   obtain rfl:=aY.mp i;obtain rfl:a=WN:=l;obtain rfl:=Rep.str_iff.mp g;obtain⟨ty,rfl⟩:∃t,b=Xa _ t:=j;unfold cX;exact⟨VP.none_str _ _,VJ.none_str _ _,VI.none_str _ _⟩
  |lst y=>
   obtain rfl:=aY.mp i;obtain rfl:a=WN:=l;obtain⟨n,_,_,rfl,rfl,_,_,_,e,_⟩:=bg I g j;unfold cX;exact⟨VP.none_list  e d,VJ.none_list  e d,VI.none_list  e d⟩
  |tup y=>
   obtain rfl:=aY.mp i;obtain rfl:a=WN:=l;obtain⟨n,_,_,rfl,rfl,_,_,_,e,_⟩:=bD I g j;unfold cX;exact⟨VP.none_tuple  e d,VJ.none_tuple  e d,VI.none_tuple  e d⟩
  |dic ks ds=>exact er rfl (r ks ds)|exc c=>exact er rfl (x2 c)|ob k c=>exact er rfl (q k c)
 |bl x=>
  cases y with
  |non=>
   obtain rfl:=aF.mp i;obtain rfl:a=WT _:=l;obtain rfl:=aY.mp g;obtain rfl:b=WN:=j;unfold cX;exact⟨VP.bool_none _,VJ.bool_none _,VI.bool_none _⟩
  |bl y=>
   obtain rfl:=aF.mp i;obtain rfl:a=WT _:=l;obtain rfl:=aF.mp g;obtain rfl:b=WT _:=j;unfold cX;exact⟨VP.bool_bool _ _,VJ.bool_bool _ _,VI.bool_bool _ _⟩
  |int y=>
   obtain rfl:=aF.mp i;obtain rfl:a=WT _:=l;obtain rfl:=ax.mp g;obtain⟨ty,rfl⟩:∃t,b=Xb _ t:=j;unfold cX;exact⟨VP.bool_int _ _ _,VJ.bool_int _ _ _,VI.bool_int _ _ _⟩
  |str y=>
   obtain rfl:=aF.mp i;obtain rfl:a=WT _:=l;obtain rfl:=Rep.str_iff.mp g;obtain⟨ty,rfl⟩:∃t,b=Xa _ t:=j;unfold cX;exact⟨VP.bool_str _ _ _,VJ.bool_str _ _ _,VI.bool_str _ _ _⟩
  |lst y=>
   obtain rfl:=aF.mp i;obtain rfl:a=WT _:=l;obtain⟨n,_,_,rfl,rfl,_,_,_,e,_⟩:=bg I g j;unfold cX;exact⟨VP.bool_list _ e d,VJ.bool_list _ e d,VI.bool_list _ e d⟩
  |tup y=>
   obtain rfl:=aF.mp i;obtain rfl:a=WT _:=l;obtain⟨n,_,_,rfl,rfl,_,_,_,e,_⟩:=bD I g j;unfold cX;exact⟨VP.bool_tuple _ e d,VJ.bool_tuple _ e d,VI.bool_tuple _ e d⟩
  |dic ks ds=>exact er rfl (r ks ds)|exc c=>exact er rfl (x2 c)|ob k c=>exact er rfl (q k c)
 |int x=>
  cases y with
  |non=>
   obtain rfl:=ax.mp i;obtain⟨m,rfl⟩:∃t,a=Xb _ t:=l;obtain rfl:=aY.mp g;obtain rfl:b=WN:=j;unfold cX;exact⟨VP.int_none _ _,VJ.int_none _ _,VI.int_none _ _⟩
  |bl y=>
   obtain rfl:=ax.mp i;obtain⟨m,rfl⟩:∃t,a=Xb _ t:=l;obtain rfl:=aF.mp g;obtain rfl:b=WT _:=j;unfold cX;exact⟨VP.int_bool _ _ _,VJ.int_bool _ _ _,VI.int_bool _ _ _⟩
  |int y=>
   obtain rfl:=ax.mp i;obtain⟨m,rfl⟩:∃t,a=Xb _ t:=l;obtain rfl:=ax.mp g;obtain⟨ty,rfl⟩:∃t,b=Xb _ t:=j;unfold cX;exact⟨VP.int_int _ _ _ _,VJ.int_int _ _ _ _,VI.int_int _ _ _ _⟩
  |str y=>
   obtain rfl:=ax.mp i;obtain⟨m,rfl⟩:∃t,a=Xb _ t:=l;obtain rfl:=Rep.str_iff.mp g;obtain⟨ty,rfl⟩:∃t,b=Xa _ t:=j;unfold cX;exact⟨VP.int_str _ _ _ _,VJ.int_str _ _ _ _,VI.int_str _ _ _ _⟩
  |lst y=>
   obtain rfl:=ax.mp i;obtain⟨m,rfl⟩:∃t,a=Xb _ t:=l;obtain⟨n,_,_,rfl,rfl,_,_,_,e,_⟩:=bg I g j;unfold cX;exact⟨VP.int_list _ _ e d,VJ.int_list _ _ e d,VI.int_list _ _ e d⟩
  |tup y=>
   obtain rfl:=ax.mp i;obtain⟨m,rfl⟩:∃t,a=Xb _ t:=l;obtain⟨n,_,_,rfl,rfl,_,_,_,e,_⟩:=bD I g j;unfold cX;exact⟨VP.int_tuple _ _ e d,VJ.int_tuple _ _ e d,VI.int_tuple _ _ e d⟩
  |dic ks ds=>exact er rfl (r ks ds)|exc c=>exact er rfl (x2 c)|ob k c=>exact er rfl (q k c)
 |str x=>
  cases y with
  |non=>
   obtain rfl:=Rep.str_iff.mp i;obtain⟨m,rfl⟩:∃t,a=Xa _ t:=l;obtain rfl:=aY.mp g;obtain rfl:b=WN:=j;unfold cX;exact⟨VP.str_none _ _,VJ.str_none _ _,VI.str_none _ _⟩
  |bl y=>
   obtain rfl:=Rep.str_iff.mp i;obtain⟨m,rfl⟩:∃t,a=Xa _ t:=l;obtain rfl:=aF.mp g;obtain rfl:b=WT _:=j;unfold cX;exact⟨VP.str_bool _ _ _,VJ.str_bool _ _ _,VI.str_bool _ _ _⟩
  |int y=>
   obtain rfl:=Rep.str_iff.mp i;obtain⟨m,rfl⟩:∃t,a=Xa _ t:=l;obtain rfl:=ax.mp g;obtain⟨ty,rfl⟩:∃t,b=Xb _ t:=j;unfold cX;exact⟨VP.str_int _ _ _ _,VJ.str_int _ _ _ _,VI.str_int _ _ _ _⟩
  |str y=>
   obtain rfl:=Rep.str_iff.mp i;obtain⟨m,rfl⟩:∃t,a=Xa _ t:=l;obtain rfl:=Rep.str_iff.mp g;obtain⟨ty,rfl⟩:∃t,b=Xa _ t:=j;unfold cX;exact⟨VP.str_str _ _ _ _,VJ.str_str _ _ _ _,VI.str_str _ _ _ _⟩
  |lst y=>
   obtain rfl:=Rep.str_iff.mp i;obtain⟨m,rfl⟩:∃t,a=Xa _ t:=l;obtain⟨n,_,_,rfl,rfl,_,_,_,e,_⟩:=bg I g j;unfold cX;exact⟨VP.str_list _ _ e d,VJ.str_list _ _ e d,VI.str_list _ _ e d⟩
  |tup y=>
   obtain rfl:=Rep.str_iff.mp i;obtain⟨m,rfl⟩:∃t,a=Xa _ t:=l;obtain⟨n,_,_,rfl,rfl,_,_,_,e,_⟩:=bD I g j;unfold cX;exact⟨VP.str_tuple _ _ e d,VJ.str_tuple _ _ e d,VI.str_tuple _ _ e d⟩
  |dic ks ds=>exact er rfl (r ks ds)|exc c=>exact er rfl (x2 c)|ob k c=>exact er rfl (q k c)
 |lst x=>
  cases y with
  |non=>
   obtain⟨o,_,_,rfl,rfl,_,_,_,f,_⟩:=bg I i l;obtain rfl:=aY.mp g;obtain rfl:b=WN:=j;unfold cX;exact⟨VP.list_none  f d,VJ.list_none  f d,VI.list_none  f d⟩
  |bl y=>
   obtain⟨o,_,_,rfl,rfl,_,_,_,f,_⟩:=bg I i l;obtain rfl:=aF.mp g;obtain rfl:b=WT _:=j;unfold cX;exact⟨VP.list_bool _ f d,VJ.list_bool _ f d,VI.list_bool _ f d⟩
  |int y=>
   obtain⟨o,_,_,rfl,rfl,_,_,_,f,_⟩:=bg I i l;obtain rfl:=ax.mp g;obtain⟨ty,rfl⟩:∃t,b=Xb _ t:=j;unfold cX;exact⟨VP.list_int _ _ f d,VJ.list_int _ _ f d,VI.list_int _ _ f d⟩
  |str y=>
   obtain⟨o,_,_,rfl,rfl,_,_,_,f,_⟩:=bg I i l;obtain rfl:=Rep.str_iff.mp g;obtain⟨ty,rfl⟩:∃t,b=Xa _ t:=j;unfold cX;exact⟨VP.list_str _ _ f d,VJ.list_str _ _ f d,VI.list_str _ _ f d⟩
  |lst y=>
   exact er ⟨rfl,rfl⟩<|B x y
  |tup y=>
   obtain⟨o,_,_,rfl,rfl,_,_,_,f,_⟩:=bg I i l;obtain⟨n,_,_,rfl,rfl,_,_,_,e,_⟩:=bD I g j;unfold cX;exact⟨VP.list_tuple  f e d,VJ.list_tuple  f e d,VI.list_tuple  f e d⟩
  |dic ks ds=>exact er rfl (r ks ds)|exc c=>exact er rfl (x2 c)|ob k c=>exact er rfl (q k c)
 |tup x=>
  cases y with
  |non=>
   obtain⟨o,_,_,rfl,rfl,_,_,_,f,_⟩:=bD I i l;obtain rfl:=aY.mp g;obtain rfl:b=WN:=j;unfold cX;exact⟨VP.tuple_none  f d,VJ.tuple_none  f d,VI.tuple_none  f d⟩
  |bl y=>
   obtain⟨o,_,_,rfl,rfl,_,_,_,f,_⟩:=bD I i l;obtain rfl:=aF.mp g;obtain rfl:b=WT _:=j;unfold cX;exact⟨VP.tuple_bool _ f d,VJ.tuple_bool _ f d,VI.tuple_bool _ f d⟩
  |int y=>
   obtain⟨o,_,_,rfl,rfl,_,_,_,f,_⟩:=bD I i l;obtain rfl:=ax.mp g;obtain⟨ty,rfl⟩:∃t,b=Xb _ t:=j;unfold cX;exact⟨VP.tuple_int _ _ f d,VJ.tuple_int _ _ f d,VI.tuple_int _ _ f d⟩
  |str y=>
   obtain⟨o,_,_,rfl,rfl,_,_,_,f,_⟩:=bD I i l;obtain rfl:=Rep.str_iff.mp g;obtain⟨ty,rfl⟩:∃t,b=Xa _ t:=j;unfold cX;exact⟨VP.tuple_str _ _ f d,VJ.tuple_str _ _ f d,VI.tuple_str _ _ f d⟩
  |lst y=>
   obtain⟨o,_,_,rfl,rfl,_,_,_,f,_⟩:=bD I i l;obtain⟨n,_,_,rfl,rfl,_,_,_,e,_⟩:=bg I g j;unfold cX;exact⟨VP.tuple_list  f e d,VJ.tuple_list  f e d,VI.tuple_list  f e d⟩
  |tup y=>
   exact er ⟨rfl,rfl⟩<|z x y
  |dic ks ds=>exact er rfl (r ks ds)|exc c=>exact er rfl (x2 c)|ob k c=>exact er rfl (q k c)
 |dic ks ds=>exact er rfl (C ks ds)
 |exc c=>exact er rfl (x1 c)
 |ob k c=>exact er rfl (w k c)
def Ov(I:Inv X π σ H s):∀(n:Nat) (A:Wh),A.units+n<Xu->∀(x y:D) (v u:V) (a b:U5),bp n x=VO->bp n y=VO->Rep X.K H x v->Rep X.K H y u->bw v a->bw u b ->
  VP A s a b (cX x y)/\VJ A s a b (cX x y)/\VI A s a b (!(cX x y)):=by
 have nd:∀m L i,bp m (.dic L i)=VO->False:=λm L i h=>by cases m<;>(unfold bp at h;cases h)
 have nx:∀m x,bp m (.exc x)=VO->False:=λm x h=>by cases m<;>(unfold bp at h;cases h)
 have U:∀m k x,bp m (.ob k x)=VO->False:=λm k x h=>by cases m<;>(unfold bp at h;cases h)
 intro n
 induction n with
 |zero=>
  intro A hu x y v u a b f o G E O N;refine AA I 0#2 G E O N (λi g z=>?_) (λi g z=>?_) (λL i z=>?_) (λL i z=>?_) (λc z=>nx _ _<|z▸f) (λc z=>nx _ _<|z▸o) (λk c z=>U _ _ _<|z▸f)<|λk c z=>U _ _ _<|z▸o
  .rw[z.1]at f;unfold bp at f;cases f
  .rw[z.1]at f;unfold bp at f;cases f
  .rw[z]at f;exact nd _ _ _ f
  .rw[z]at o;exact nd _ _ _ o
 |succ n ih=>
  intro A hu x y v u a b f o G E O N;have T:∀(x y:D) (v u:V) (a b:U5),bp n x=VO->bp n y=VO->Rep X.K H x v->Rep X.K H y u->bw v a->bw u b->VJ A.in1 s a b (cX x y) :=
   λx y v u a b s1 s2 r1 r2 q1 q2=>(ih A.in1 (by show A.units+1+n<Xu;omega) x y v u a b s1 s2 r1 r2 q1 q2).2.1
  by_cases t1:∃i g,x=.tup i/\y=.tup g
  .obtain⟨xs,r,rfl,rfl⟩:=t1
   obtain⟨l,vs,M,rfl,rfl,h1,h2,h3,B,h5⟩:=bD I G O;obtain⟨m,us,Q,rfl,rfl,k1,k2,Y,w,k5⟩:=bD I E N;have C:=f;have q:=o;unfold bp at f o;have each:=A2 (A:=A) T f o h2 k2 h3 Y;have d:cX (.tup xs) (.tup r)=((Ws<|min M.toArray.size Q.toArray.size).all (λj=>cX (xs.getD j .non)<|r.getD j .non)&&M.toArray.size==Q.toArray.size):=by
    rw[Mi];simp only[Vx,←h5,←k5]
    by_cases J:xs.length=r.length
    .rw[nQ xs r J,←J,Nat.min_self,eu,Zl]
    .rw[vY xs r J,beq_eq_false_iff_ne.mpr J,Yr]
   refine⟨?_,?_,?_⟩
   .rw[d];exact VP.tuples B w 0#2 each
   .by_cases t:l=m
    .subst t
     rw[Rep.inj I (n+1) _ _ _ C q G E,lY (n+1) _ q];exact ZM _
    .refine Zn t ?_
     rw[d];exact VP.tuples B w 0#2 each
   .rw[d];exact VI.tuples B w 0#2 each
  .by_cases t2:∃i g,x=.lst i/\y=.lst g
   .obtain⟨xs,r,rfl,rfl⟩:=t2
    obtain⟨l,vs,M,rfl,rfl,h1,h2,h3,B,h5⟩:=bg I G O;obtain⟨m,us,Q,rfl,rfl,k1,k2,Y,w,k5⟩:=bg I E N;have C:=f;have q:=o;unfold bp at f o;have each:=A2 (A:=A) T f o h2 k2 h3 Y
    by_cases J:xs.length=r.length
    .have p:M.toArray.size=Q.toArray.size:=by simp only[Vx];omega
     have d:cX (.lst xs) (.lst r)=(Ws M.toArray.size).all (λj=>cX (xs.getD j .non)<|r.getD j .non):=by
      rw[zJ];simp only[Vx,←h5];exact nQ xs r J
     refine⟨?_,?_,?_⟩
     .rw[d];exact VP.lists B w p 0#2 each
     .by_cases t:l=m
      .subst t
       rw[Rep.inj I (n+1) _ _ _ C q G E,lY (n+1) _ q];exact ZM _
      .refine Zn t ?_
       rw[d];exact VP.lists B w p 0#2 each
     .rw[d];exact VI.lists B w p 0#2 each
    .have p:(M.toArray.size != Q.toArray.size)=VO:=by simp only[Vx,bne_iff_ne,ne_eq];omega
     have d:cX (.lst xs) (.lst r)=Vd:=by rw[zJ];exact vY xs r J
     rw[d];refine⟨Z3 B w p 0#2,?_,VI.lists_lengths B w p<|by omega⟩;refine Zn (λe=>?_) (Z3 B w p<|by omega);subst e;have:=Rep.inj I (n+1) _ _ _ C q G E;cases this;exact J rfl
   .exact AA I 0#2 G E O N (λi g z=>t2 ⟨i,g,z⟩) (λi g z=>t1 ⟨i,g,z⟩) (λL i z=>by rw[z]at f;exact nd _ _ _ f) (λL i z=>by rw[z]at o;exact nd _ _ _ o) (λc z=>nx _ _<|z▸f) (λc z=>nx _ _<|z▸o) (λk c z=>U _ _ _<|z▸f)<|λk c z=>U _ _ _<|z▸o
end
section
variable {X:Cx}{E:XK}
def gZ(x y:D):aw D:=if bp 40 x=VO/\bp 40 y=VO then .ok (.bl<|cX x y) else .stuck
def iE(x y:D):aw D:=if bp 40 x=VO/\bp 40 y=VO then .ok (.bl (!(cX x y))) else .stuck
def Ra(K:Va):R2:=λv u H Q=>∃x y,Rep K H x v/\Rep K H y u/\bp 40 x=VO/\bp 40 y=VO/\Q (.bl<|cX x y) H
def Q5(K:Va):R2:=λv u H Q=>∃x y,Rep K H x v/\Rep K H y u/\bp 40 x=VO/\bp 40 y=VO/\Q (.bl (!(cX x y))) H
def cN(m:X.A.units+64<Xu):ia X (Wf .Eq) (Ra X.K):=by
 intro l s j H x y v u Q I e c h;obtain⟨d,i,g,f,b,a,q⟩:=h;exact(Ov I 40 X.A 0#2 d i x y v u b a g f e c).1 _ _ _ _ ⟨.bl _,H,I,rfl,q⟩
def fA(m:X.A.units+64<Xu):ia X (Wf .NotEq) (Q5 X.K):=by
 intro l s j H x y v u Q I e c h;obtain⟨d,i,g,f,b,a,q⟩:=h;exact(Ov I 40 X.A 0#2 d i x y v u b a g f e c).2.2 _ _ _ _ ⟨.bl _,H,I,rfl,q⟩
def dP:BX X.K E (Ra X.K) gZ:=by
 intro x y v u H e Q a d b q;unfold gZ at q
 by_cases c:bp 40 x=VO/\bp 40 y=VO
 .rw[ef c]at q
  exact⟨x,y,d.mono a,b.mono a,c.1,c.2,q _ H e (bz.refl a)<|aF.mpr rfl⟩
 .rw[eo c]at q;exact q.elim
def ja:BX X.K E (Q5 X.K) iE:=by
 intro x y v u H e Q a d b q;unfold iE at q
 by_cases c:bp 40 x=VO/\bp 40 y=VO
 .rw[ef c]at q
  exact⟨x,y,d.mono a,b.mono a,c.1,c.2,q _ H e (bz.refl a)<|aF.mpr rfl⟩
 .rw[eo c]at q;exact q.elim
open Classical in
noncomputable def jt(K:Va) (H:Hp) (ds:ac) (x:D) (u:U5):Bool :=
 if h:∃d,d∈ds/\∃v,Rep K H d v/\bw v u then cX h.choose x else Vd
def tH(I:Inv X j i H s)(a:ds.all (bp 40)=VO)(hd:d∈ds)(r:Rep X.K H d v)(q:bw v u):jt X.K H ds x u=cX d x:=by
 have h:∃d,d∈ds/\∃v,Rep X.K H d v/\bw v u:=⟨d,hd,v,r,q⟩
 unfold jt;rw[dif_pos h];obtain⟨g,b,f,c⟩:=h.choose_spec;have e:b=v:=c.inj q;subst e;rw[Rep.inj I 40 _ _ _ (V2.mp a _ g) (V2.mp a _ hd) f r]
def Ct(K:Va)(neg:Bool):R2:=λv u H Q=>∃x a,Rep K H x v/\(Rep K H (.lst a) u∨Rep K H (.tup a) u)/\bp 40 x=VO/\a.all (bp 40)=VO/\Q (.bl<|if neg then !(a.any λd=>cX d x) else a.any λd=>cX d x) H
theorem mj{g:List (Vi×Obj)}{f:L2.St}{H:Hp}{s:Vm}(I:Inv X g f H s){x:D}{a:ac}(c:a.all (bp 40)=VO):∀{ds:ac}{vs:am}{b:List U5},(∀d∈ds,d∈a)->Reps X.K H ds vs->bh vs b->b.any (jt X.K H a x)=ds.any λd=>cX d x
 |[],_,_,_,h,q=>by
  rw[Reps.nil_iff.mp h]at q;cases q;rfl
 |d::ds,_,_,e,h,q=>by
  obtain⟨v,r,rfl,n,m⟩:=az.mp h;cases q with
  |cons j i=>
   rw[XO,XO,tH I c (e d Ve) n j,mj I c (λx l=>e x<|U9 _ l) m i]
theorem gH{o:List<|Vi×Obj}{n:L2.St}{H:Hp}{s:Vm}(I:Inv X o n H s)(z:X.A.units+64<Xu){x:D}{v:V}{u:U5}(g:bp 40 x=VO)(i:Rep X.K H x v)(j:bw v u){e:ac}(b:e.all (bp 40)=VO):∀{ds:ac}{vs:am}{f:List U5},(∀d∈ds,d∈e)->Reps X.K H ds vs->bh vs f->∀y∈f,VJ X.A.in1 s y u (jt X.K H e x y)
 |[],_,_,_,h,q=>λy a=>by
  rw[Reps.nil_iff.mp h]at q;cases q;cases a
 |d::ds,_,_,c,h,q=>λy a=>by
  obtain⟨w,r,rfl,m,B⟩:=az.mp h;cases q with
  |cons l p=>
   rcases Vl.mp a with rfl|a
   .rw[tH I b (c d Ve) m l]
    exact(Ov I 40 X.A.in1 (by show X.A.units+1+40<Xu;omega) d x w v _ u (V2.mp b _<|c d Ve) g m i l j).2.1
   .exact gH I z g i j b (λx t=>c x<|U9 _ t) B p y a
def OU(n:X.A.units+64<Xu):ia X (Wf .In) (Ct X.K Vd):=by
 intro C s B H x y v u Q I m l h;obtain⟨d,c,o,f,j,g,q⟩:=h;rcases f with f|f
 .obtain⟨a,p,b,rfl,rfl,t,k2,e,i,r⟩:=bg I f l
  refine SeqAt.in_listAt (jt X.K H c d) i (λw hw=>gH I n j o m g (λ_ z=>z) k2 e w<|by simpa using hw) ⟨.bl _,H,I,rfl,?_⟩;rw[show b.toArray.any (jt X.K H c d)=b.any (jt X.K H c d) by simp,mj I g (λ_ z=>z) k2 e];exact q
 .obtain⟨a,p,b,rfl,rfl,t,k2,e,i,r⟩:=bD I f l
  refine SeqAt.in_tupleAt (jt X.K H c d) i (λw hw=>gH I n j o m g (λ_ z=>z) k2 e w<|by simpa using hw) ⟨.bl _,H,I,rfl,?_⟩;rw[show b.toArray.any (jt X.K H c d)=b.any (jt X.K H c d) by simp,mj I g (λ_ z=>z) k2 e];exact q
def Fq(n:X.A.units+64<Xu):ia X (Wf .NotIn) (Ct X.K VO):=by
 intro C s B H x y v u Q I m l h;obtain⟨d,c,o,f,j,g,q⟩:=h;rcases f with f|f
 .obtain⟨a,p,b,rfl,rfl,t,k2,e,i,r⟩:=bg I f l
  refine SeqAt.notIn_listAt (jt X.K H c d) i (λw hw=>gH I n j o m g (λ_ z=>z) k2 e w<|by simpa using hw) ⟨.bl _,H,I,rfl,?_⟩;rw[show b.toArray.any (jt X.K H c d)=b.any (jt X.K H c d) by simp,mj I g (λ_ z=>z) k2 e];exact q
 .obtain⟨a,p,b,rfl,rfl,t,k2,e,i,r⟩:=bD I f l
  refine SeqAt.notIn_tupleAt (jt X.K H c d) i (λw hw=>gH I n j o m g (λ_ z=>z) k2 e w<|by simpa using hw) ⟨.bl _,H,I,rfl,?_⟩;rw[show b.toArray.any (jt X.K H c d)=b.any (jt X.K H c d) by simp,mj I g (λ_ z=>z) k2 e];exact q
def SD(i j:Vq):Bool:=!(Y4 j i 0 j.length 1).isEmpty
noncomputable def FL(x y:D):Option Bool:=match y with
 |.lst a=>if bp 40 x=VO/\a.all (bp 40)=VO then Wp (a.any λd=>cX d x) else Wb
 |.tup a=>if bp 40 x=VO/\a.all (bp 40)=VO then Wp (a.any λd=>cX d x) else Wb
 |.str j=>match x with
  |.str i=>Wp<|SD i j
  |_=>Wb
 |_=>Wb
def nY(x y:D):aw D:=match FL x y with
 |some b=>.ok<|.bl b
 |none=>.stuck
def bG(x y:D):aw D:=match FL x y with
 |some b=>.ok<|.bl (!b)
 |none=>.stuck
def HP(neg:Bool):R2:=λx y H Q=>∃i j,x=.str i/\y=.str j/\Q (.bl<|if neg then !(SD i j) else SD i j) H
def rH(e:X.A.units+64<Xu):ia X (Wf .In) (λv u H Q=>Ct X.K Vd v u H Q∨HP Vd v u H Q):=ia.or (OU e) (by
 intro b s a H x y v u Q I d c h;obtain⟨i,j,rfl,rfl,q⟩:=h;exact Fs b s a H _ _ v u Q I d c ⟨i,j,rfl,rfl,q⟩)
def fY(e:X.A.units+64<Xu):ia X (Wf .NotIn) (λv u H Q=>Ct X.K VO v u H Q∨HP VO v u H Q):=ia.or (Fq e) (by
 intro b s a H x y v u Q I d c h;obtain⟨i,j,rfl,rfl,q⟩:=h;exact zf b s a H _ _ v u Q I d c ⟨i,j,rfl,rfl,q⟩)
def AU(a:aD Ha H)(f:Rep X.K Ha x v)(e:Rep X.K Ha y u)
  (q:post X.K E H Ha (match FL x y with|some b=>.ok (.bl<|if neg then !b else b)|none=>.stuck) Q):Ct X.K neg v u H Q∨HP neg v u H Q:=by
 cases y with
 |lst d=>
  simp only[FL]at q
  by_cases c:bp 40 x=VO/\d.all (bp 40)=VO
  .rw[ef c]at q
   exact .inl ⟨x,d,f.mono a,.inl<|e.mono a,c.1,c.2,q _ H Ha (bz.refl a)<|aF.mpr rfl⟩
  .rw[eo c]at q;exact q.elim
 |tup d=>
  simp only[FL]at q
  by_cases c:bp 40 x=VO/\d.all (bp 40)=VO
  .rw[ef c]at q
   exact .inl ⟨x,d,f.mono a,.inr<|e.mono a,c.1,c.2,q _ H Ha (bz.refl a)<|aF.mpr rfl⟩
  .rw[eo c]at q;exact q.elim
 |str j=>
  cases x with|str i=>exact .inr ⟨i,j,Rep.str_iff.mp f,Rep.str_iff.mp e,q _ H Ha (bz.refl a)<|aF.mpr rfl⟩| _=>exact q.elim
 |_=>exact q.elim
def rJ:BX X.K E (λv u H Q=>Ct X.K Vd v u H Q∨HP Vd v u H Q) nY:=λx y v u H f Q d c a q=>AU (neg:=false) (E:=E) d c a (by
 unfold nY at q;cases e:FL x y with
 |none=>rwa[e]at q
 |some b=>rwa[e]at q)
def gf:BX X.K E (λv u H Q=>Ct X.K VO v u H Q∨HP VO v u H Q) bG:=λx y v u H f Q d c a q=>AU (neg:=true) (E:=E) d c a (by
 unfold bG at q;cases e:FL x y with
 |none=>rwa[e]at q
 |some b=>rwa[e]at q)
end
@[irreducible] def B9:Nat:=2 ^ 9000
@[irreducible] def wR:Nat:=2 ^ 13500
@[irreducible] def Ad:Nat:=2 ^ 60000
theorem Kj:B9=2 ^ 9000:=by unfold B9;rfl
def mn:wR=2 ^ 13500:=by unfold wR;rfl
def rz:Ad=2 ^ 60000:=by unfold Ad;rfl
def uL{n k:Nat}(h:n<2 ^ k)(b:0<k):n.log2<k:=by
 by_cases a:n=0
 .rw[a]
  have:Nat.log2 0=0:=by decide
  omega
 .exact(Nat.log2_lt a).mpr h
def RD(h:y.natAbs<B9):XM x y=Vd:=by
 rw[Kj]at h;exact PyProof.noPylong_of_log2 (uL h<|by omega)
def OW(h:x.natAbs<wR):XM x y=Vd:=by
 rw[mn]at h;have b:x.natAbs.log2<13500:=uL h 0#2;show(decide ((if y==0 then 0 else y.natAbs.log2 / 30+1) > 300)&&decide ((if x==0 then 0 else x.natAbs.log2 / 30+1) > (if y==0 then 0 else y.natAbs.log2 / 30+1)+150))=Vd;have k:(if x==0 then 0 else x.natAbs.log2 / 30+1)<=450:=by
  by_cases a:(x==0)=VO
  .rw[ef a];omega
  .rw[eo a];omega
 by_cases c:(if y==0 then 0 else y.natAbs.log2 / 30+1) > 300
 .rw[sax];right;exact en 0#2
 .rw[sax];left;exact en c
def gY(i j:Int):Bool:=decide (j≠0)&&(decide (j.natAbs<B9)||decide (i.natAbs<wR))
def eU(i j:Int):Bool:=decide (i.natAbs<Ad)&&decide (j.natAbs<Ad)
def gY.ok(h:gY i j=VO):j≠0/\XM i j=Vd:=by
 unfold gY at h;rw[Vv,ZO]at h;refine⟨et h.1,?_⟩;rcases h.2 with h|h
 .exact RD<|et h
 .exact OW<|et h
def eU.ok(h:eU i j=VO):IntMulOk i j:=by
 unfold eU at h;rw[Vv]at h;have b:=et h.1;have a:=et h.2;rw[rz]at b a;exact PyProof.Rows.mulOk_of_bits (m:=60000) (n:=60000) (saF.mpr b) (saF.mpr a) 0#1
section
variable {X:Cx}{E:XK}{e a b c:V4}{es:List V4}{f g k:bv}{fa:Ev->aw (ac)}{pos:Pos}
def bL{K:Va}(i:aD Ha H)(q:post K E H Ha (.ok d) Q)(r:Rep K Ha d v):Q v H:=q v H Ha (bz.refl i) r
def A3(c:Int->Int->Bool)(g:Int->Int->D)(x y:D):aw D:=match x,y with
 |.int i,.int j=>if c i j=VO then .ok (g i j) else .stuck
 |_,_=>.stuck
def CI{c:Int->Int->Bool}{g:Int->Int->D}(o:∀i j,c i j=VO->C i j)(n:∀K H i j,Rep K H (g i j)<|p i j):BX X.K E (rI C p) (A3 c g):=by
 intro x y v u H r Q m l d q;unfold A3 at q;cases x with
 |int i=>
  cases y with
  |int j=>
   by_cases h:c i j=VO
   .simp only[ef h]at q
    exact⟨i,j,ax.mp l,ax.mp d,o i j h,bL m q<|n _ _ i j⟩
   .simp only[eo h]at q;exact q.elim
  |_=>exact q.elim
 |_=>exact q.elim
def c9{g:Int->Int->D}(n:∀K H i j,Rep K H (g i j)<|o i j):BX X.K E (Kl o) (A3 (λ_ _=>VO) g):=by
 intro x y v u H p Q m l d q;unfold A3 at q;cases x with
 |int i=>
  cases y with|int j=>simp only[ef]at q;exact⟨i,j,ax.mp l,ax.mp d,bL m q<|n _ _ i j⟩| _=>exact q.elim
 |_=>exact q.elim
def ri{K:Va}(n:Int):Rep K H (.int n) (.int n):=ax.mpr rfl
def rb{K:Va}(n:Bool):Rep K H (.bl n) (.bl n):=aF.mpr rfl
abbrev ke:=A3 (λ_ _=>VO) λi j=>.int<|i-j
abbrev sN:=A3 gY λi j=>.int<|i.fdiv j
abbrev dO:=A3 (λ_ j=>decide (j≠0)) λi j=>.int<|i.fmod j
abbrev qW:=A3 (λi j=>decide (0<=j)&&decide (j<=1000000)&&decide (i.natAbs<18446744073709551616)) λi j=>.int<|i ^ j.toNat
abbrev B4:=A3 (λ_ _=>VO) λi j=>.bl (decide (i<j))
abbrev Mx:=A3 (λ_ _=>VO) λi j=>.bl (decide (i<=j))
abbrev My:=A3 (λ_ _=>VO) λi j=>.bl (decide (j<i))
abbrev Qs:=A3 (λ_ _=>VO) λi j=>.bl (decide (j<=i))
def LD:ia X (binaryOp .Mult) (rI IntMulOk λi j=>.int<|i*j):=SA λ_ _ _ _ _ _ _ d q=>mul_int q d
def LG:ia X (binaryOp .FloorDiv) (rI (λi j=>j≠0/\XM i j=Vd) λi j=>.int<|i.fdiv j):=SA λ_ _ _ _ _ _ _ d q=>floordiv_int d.1 q<|.inl d.2
def qT(i:DE X E a f)(d:DE X E b g):DE X E (.BinOp a .Sub b pos) (ag f g ke):=yk OR (c9 λ_ _ _ _=>ri _) i d
def nR(i:DE X E a f)(d:DE X E b g):DE X E (.BinOp a .FloorDiv b pos) (ag f g sN):=yk LG (CI (λ_ _ h=>gY.ok h) λ_ _ _ _=>ri _) i d
def dj(i:DE X E a f)(d:DE X E b g):DE X E (.BinOp a .Mod b pos) (ag f g dO):=yk LF (CI (λ_ _ h=>et h) λ_ _ _ _=>ri _) i d
def qU(l:DE X E a f)(d:DE X E b g):DE X E (.BinOp a .Pow b pos) (ag f g qW):=yk OT (CI (λi j h=>by
 rw[Vv,Vv]at h;exact⟨et h.1.1,et h.1.2,et h.2⟩) λ_ _ _ _=>ri _) l d
def nm(j:d≠.In:=by decide)(i:d≠.NotIn:=by decide):behindInMarks d b=Vd:=Iz _ j i
def k9(x:D):aw D:=match x with
 |.int i=>.ok<|.int (-i)
 |_=>.stuck
def jO(j:DE X E a f):DE X E (.UnaryOp .USub a pos) (aL f k9):=R0 GR (by
 intro x v H l Q d r q;cases x with
 |int i=>exact⟨i,ax.mp r,bL d q<|ri _⟩
 |_=>exact q.elim) j
def Eh:ia X (binaryOp .Add) (λx y H Q=>∃l b xs zs,x=.ref l/\y=.ref b/\fm X.K H l xs/\fm X.K H b zs/\xs.length+zs.length<=sizeLine/\∀p,H p=Wb->Q (.ref p) (upd H p<|.lst<|xs++zs)):=by
 intro π s σ H x y v u Q I N M h;obtain⟨l,b,xs,zs,rfl,rfl,T,U,hz,q⟩:=h;cases N;cases M;obtain⟨i,r,pl,z⟩:=I.list T;obtain⟨d,B,w,z2⟩:=I.list U;obtain⟨⟨cls,Y,data,L⟩,C,G,n,hd⟩:=pl.isList;obtain⟨⟨J,A,data2,t⟩,j,o,O,m⟩:=w.isList;simp only at G hd o m;subst G hd o m;have e:i.toArray++d.toArray=(i++d).toArray:=by simp
 have l1:=r.length;have l2:=B.length;refine concat_meets ⟨_,C,rfl⟩ ⟨_,j,rfl⟩ noFill_list_add seq_list_add PySem.F.slot_list_add PySem.F.entry_list_add (PySem.F.args_list_add_2 _ _) (list_addW l b i.toArray d.toArray n O Y A L t (by simp only[Vx];omega)) ⟨C,j,?_⟩;rw[e];exact⟨.ref _,_,I.lnew (t':=s.toks) (r.append B) (by rw[Vs];omega),rfl,q _ I.fresh⟩
noncomputable def aV(x y:D):aw D:=match x,y with
 |.int i,.int j=>.ok<|.int<|i+j
 |.str i,.str j=>if i.length+j.length<=line then .ok (.str<|i++j) else .stuck
 |.lst d,.lst es=>if d.length+es.length<=line then .ok (.lst<|d++es) else .stuck
 |.tup d,.tup es=>if d.isEmpty=Vd/\d.length+es.length<=line then .ok (.tup<|d++es) else .stuck
 |_,_=>.stuck
def aT(I:DE X E a f)(G:DE X E b g):DE X E (.BinOp a .Add b pos) (ag f g aV):=yk (ia.or OV<|ia.or CD<|ia.or Eh LH) (by
 intro x y v u H J Q d o t q;unfold aV at q;cases x with
 |int i=>
  cases y with|int j=>exact .inl ⟨i,j,ax.mp o,ax.mp t,bL d q<|ri _⟩| _=>exact q.elim
 |str i=>
  cases y with
  |str j=>
   by_cases h:i.length+j.length<=line
   .simp only[ef h]at q
    exact .inr<|.inl ⟨i,j,Rep.str_iff.mp o,Rep.str_iff.mp t,dW h,bL d q<|Rep.str_iff.mpr rfl⟩
   .simp only[eo h]at q;exact q.elim
  |_=>exact q.elim
 |lst s=>
  cases y with
  |lst es=>
   by_cases h:s.length+es.length<=line
   .simp only[ef h]at q
    obtain⟨l,w,rfl,C,n⟩:=aA.mp o;obtain⟨m,A,rfl,B,k2⟩:=aA.mp t;refine .inr (.inr<|.inl ⟨l,m,w,A,rfl,rfl,aD.sqL d C,aD.sqL d B,by rw[←n.length,←k2.length];exact dW h,λp r=>?_⟩);exact q _ _ _ (aR d r)<|aA.mpr ⟨p,_,rfl,fm.of aC,(n.app k2).mono (aR d r).z⟩
   .simp only[eo h]at q;exact q.elim
  |_=>exact q.elim
 |tup s=>
  cases y with
  |tup es=>
   by_cases h:s.isEmpty=Vd/\s.length+es.length<=line
   .simp only[ef h]at q
    obtain⟨l,w,rfl,C,n⟩:=aH.mp o;obtain⟨m,A,rfl,B,k2⟩:=aH.mp t;refine .inr (.inr<|.inr ⟨l,m,w,A,rfl,rfl,aD.sqT d C,aD.sqT d B,λz=>?_,by rw[←n.length,←k2.length];exact dW h.2,λz=>?_,λz p r=>?_⟩)
    .have:=n.length
     rw[z]at this;have e:s=[]:=Y2.mp this;rw[e]at h;exact er h.1 0#1
    .have:=k2.length
     rw[z]at this;have e:es=[]:=Y2.mp this;rw[e,We]at q;exact bL d q o
    .exact q _ _ _ (aR d r)<|aH.mpr ⟨p,_,rfl,nq.of aC,(n.app k2).mono (aR d r).z⟩
   .simp only[eo h]at q;exact q.elim
  |_=>exact q.elim
 |_=>exact q.elim) I G
noncomputable def aE(x y:D):aw D:=match y with
 |.int i=>match x with
  |.lst j=>match atI j i with
   |some d=>.ok d
   |none=>.stuck
  |.tup j=>match atI j i with
   |some d=>.ok d
   |none=>.stuck
  |.str z=>if z.length<=line then match atI z.cps.toList i with
   |some c=>.ok<|.str ⟨#[c]⟩
   |none=>.stuck else .stuck
  |_=>.stuck
 |_=>.stuck
def Reps.atI{K:Va}(h:Reps K H ds vs)(e:atI ds i=Wp d):∃v,L2.atI vs i=Wp v/\Rep K H d v:=by
 unfold L2.atI at e ⊢;rw[←h.length];cases q:xt ds.length i with
 |none=>rw[q]at e;cases e
 |some j=>
  rw[q]at e;exact h.get e
def RA:BX X.K E (Uk X.K) aE:=by
 intro x y v u H C Q j o n q;unfold aE at q;cases y with
 |int i=>
  cases x with
  |lst B=>
   obtain⟨l,m,rfl,s,r⟩:=aA.mp o;cases e:atI B i with
   |none=>simp only[e]at q;exact q.elim
   |some d=>
    simp only[e]at q;obtain⟨w,A,t⟩:=r.atI e;exact .inl ⟨l,m,i,w,rfl,ax.mp n,aD.sqL j s,A,bL j q t⟩
  |tup B=>
   obtain⟨l,m,rfl,s,r⟩:=aH.mp o;cases e:atI B i with
   |none=>simp only[e]at q;exact q.elim
   |some d=>
    simp only[e]at q;obtain⟨w,A,t⟩:=r.atI e;exact .inr<|.inl ⟨l,m,i,w,rfl,ax.mp n,aD.sqT j s,A,bL j q t⟩
  |str z=>
   by_cases p:z.length<=line
   .simp only[ef p]at q
    cases e:atI z.cps.toList i with
    |none=>simp only[e]at q;exact q.elim
    |some c=>
     simp only[e]at q;exact .inr<|.inr ⟨z,i,c,Rep.str_iff.mp o,ax.mp n,dW p,e,bL j q<|Rep.str_iff.mpr rfl⟩
   .simp only[eo p]at q;exact q.elim
  |_=>exact q.elim
 |_=>exact q.elim
def ao(j:DE X E a f)(i:DE X E b g)(d:z7 b:=by intro _ _;rfl):DE X E (.Subscript a b pos) (ag f g aE):=R3 Pc RA j i d
def cR:Ev->aw (Option Int):=λ_=>.ok Wb
def bS(f:bv):Ev->aw (Option Int):=λd=>(f d).bind λx=>match x with
 |.int i=>.ok<|Wp i
 |_=>.stuck
def Tf(K:Va)(E:XK)(f:Ev->aw (Option Int)):TO:=λm H Q=>∃j l,aD j H/\fq K j m l/\match f l with
 |.ok o=>∀i d,bz H j i d->Q o i
 |.exn x=>∀C ox i d,bz H j i d->yG K d x C ox->E C ox i
 |.stuck=>False
structure DO (X:Cx) (E:XK) (e:Option V4) (f:Ev->aw (Option Int)):Prop where
 o:PO X e (Tf X.K E f)
def D9(h:PO X j t)(w:∀d H Q,t' d H Q->t d H Q):PO X j t':=λi s d H Q I q=>h i s d H Q I<|w d H Q q
def dw:DO X E Wb cR:=⟨D9 Ll λj H Q ⟨i,l,d,m,q⟩=>q H i<|bz.refl d⟩
def bU(s:DE X E a f):DO X E (Wp a) (bS f):=by
 refine⟨?_⟩;refine D9 (Lj s.o) λy H Q z9=>?_;obtain⟨u,l,p,r,q⟩:=z9;refine⟨u,l,p,r,?_⟩
 unfold bS at q;cases m:f l with
 |stuck|exn x=>rwa[m]at q
 |ok d=>
  rw[m]at q;intro v w j t n;cases d with|int i=>exact⟨i,ax.mp n,q w j t⟩| _=>exact q.elim
def cE(xs:ac)(lo hi:Option Int):ac:=(xs.drop<|HT.sIx xs.length 0 lo).take<|HT.sIx xs.length xs.length hi-HT.sIx xs.length 0 lo
def Reps.cut{K:Va}(h:Reps K H ds vs)(lo hi:Option Int):Reps K H (cE ds lo hi) (BI vs lo hi):=by
 unfold cE BI;rw[←h.length];exact(h.drop _).take _
def Av{lo hi:Ev->aw (Option Int)}{m:D->Option Int->Option Int->aw D}
  (C:∀x v l h H Ha Q,aD Ha H->Rep X.K Ha x v->post X.K E H Ha (m x l h) Q->r v l h H Q)(t:L2.St)(H:Hp)(Q:VK)
  (h:tD X.K E (λρ=>(f ρ).bind λx=>(lo ρ).bind λl=>(hi ρ).bind λh=>m x l h) t H Q):Ug r (tD X.K E f) (Tf X.K E lo) (Tf X.K E hi) t H Q:=by
 obtain⟨Ha,ρ,B,n,q⟩:=h;refine⟨Ha,ρ,B,n,?_⟩;replace q:post X.K E H Ha ((f ρ).bind λx=>(lo ρ).bind λl=>(hi ρ).bind λh=>m x l h) Q:=q;cases y:f ρ with
 |stuck|exn x=>rwa[y]at q
 |ok x=>
  rw[y]at q;intro v I d j A;refine⟨d,ρ,j.sub,n.mono j.z,?_⟩;replace q:post X.K E H Ha ((lo ρ).bind λl=>(hi ρ).bind λh=>m x l h) Q:=q;replace q:=q.grow j;cases w:lo ρ with
  |stuck|exn x=>rwa[w]at q
  |ok l=>
   rw[w]at q;intro J s i;refine⟨s,ρ,i.sub,(n.mono j.z).mono i.z,?_⟩;replace q:post X.K E I d ((hi ρ).bind λh=>m x l h) Q:=q;replace q:=q.grow i;cases u:hi ρ with
   |stuck|exn x=>rwa[u]at q
   |ok h=>
    rw[u]at q;intro G p o;exact C x v l h G p Q o.sub ((A.mono i.z).mono o.z)<|post.grow (r:=m x l h) q o
def m1(m:D->aw D)(ds:ac):aw D:=match ds with
 |[x]=>m x
 |_=>.stuck
def m2(m:D->D->aw D)(ds:ac):aw D:=match ds with
 |[x,y]=>m x y
 |_=>.stuck
def wx(h:∀x v H Ha Q,aD Ha H->Rep X.K Ha x v->post X.K E H Ha (m x) Q->r [v] H Q):k8 X E r (m1 m):=by
 intro n o H Ha Q i d q;unfold m1 at q
 match n,d,q with
 |[x],d,q=>
  obtain⟨v,p,rfl,l,j⟩:=az.mp d;rw[Reps.nil_iff.mp j];exact h x v H Ha Q i l q
 |[],_,q=>exact q.elim
 |_::_::_,_,q=>exact q.elim
def R8(h:∀x y v u H Ha Q,aD Ha H->Rep X.K Ha x v->Rep X.K Ha y u->post X.K E H Ha (m x y) Q->r [v,u] H Q):k8 X E r (m2 m):=by
 intro s t H Ha Q j d q;unfold m2 at q
 match s,d,q with
 |[x,y],d,q=>
  obtain⟨v,w,rfl,p,o⟩:=az.mp d;obtain⟨u,i,rfl,n,l⟩:=az.mp o;rw[Reps.nil_iff.mp l];exact h x y v u H Ha Q j p n q
 |[],_,q=>exact q.elim
 |[_],_,q=>exact q.elim
 |_::_::_::_,_,q=>exact q.elim
def xu(x:D):aw D:=match x with
 |.int i=>.ok<|.int<|if i<0 then -i else i
 |_=>.stuck
def eg(x:D):aw D:=match x with
 |.lst d=>.ok<|.int d.length
 |.tup d=>.ok<|.int d.length
 |.str z=>if z.length<=line then .ok (.int z.length) else .stuck
 |_=>.stuck
def gL(x:D):aw D:=match x with
 |.int i=>.ok<|.int i
 |.bl b=>.ok<|.int<|if b then 1 else 0
 |_=>.stuck
def nj(x:D):aw D:=match x with
 |.lst d=>.ok<|.lst d
 |.tup d=>.ok<|.lst d
 |_=>.stuck
def rh:k8 X E (λxs H Q=>∃i,xs=[.int i]/\Q (.int<|if i<0 then -i else i) H) (m1 xu):=wx λx v H j Q d r q=>by
 cases x with|int i=>exact⟨i,by rw[ax.mp r],bL d q<|ri _⟩| _=>exact q.elim
def cz:k8 X E (λxs H Q=>∃x n,xs=[x]/\Sn X.K x H n/\Q (.int n) H) (m1 eg):=wx λx v H s Q i r q=>by
 cases x with
 |lst o=>
  obtain⟨p,d,rfl,m,l⟩:=aA.mp r;refine⟨_,d.length,rfl,.inl ⟨d,aD.sqL i m,rfl⟩,?_⟩;rw[←l.length];exact bL i q<|ri _
 |tup o=>
  obtain⟨p,d,rfl,m,l⟩:=aH.mp r;refine⟨_,d.length,rfl,.inr ⟨d,aD.sqT i m,rfl⟩,?_⟩;rw[←l.length];exact bL i q<|ri _
 |str z=>
  unfold eg at q
  by_cases j:z.length<=line
  .simp only[ef j]at q
   rw[Rep.str_iff.mp r];exact⟨_,z.length,rfl,⟨dW j,rfl⟩,bL i q<|ri _⟩
  .simp only[eo j]at q;exact q.elim
 |_=>exact q.elim
def zS:k8 X E (λxs H Q=>(∃i,xs=[.int i]/\Q (.int i) H)∨∃k,xs=[.bl k]/\Q (.int<|if k then 1 else 0) H) (m1 gL):=wx λx v H j Q d r q=>by
 cases x with|int i=>exact .inl ⟨i,by rw[ax.mp r],bL d q<|ri _⟩|bl i=>exact .inr ⟨i,by rw[aF.mp r],bL d q<|ri _⟩| _=>exact q.elim
def MF:k8 X E (λxs H Q=>∃p j,xs=[.ref p]/\(fm X.K H p j∨nq X.K H p j)/\∀l,H l=Wb->Q (.ref l) (upd H l<|.lst j)) (m1 nj):=wx λx v H u Q d r q=>by
 cases x with
 |lst t=>
  obtain⟨p,m,rfl,s,o⟩:=aA.mp r;exact⟨p,m,rfl,.inl (aD.sqL d s),λn i=>q _ _ _ (aR d i)<|aA.mpr ⟨n,_,rfl,fm.of aC,o.mono (aR d i).z⟩⟩
 |tup t=>
  obtain⟨p,m,rfl,s,o⟩:=aH.mp r;exact⟨p,m,rfl,.inr (aD.sqT d s),λn i=>q _ _ _ (aR d i)<|aA.mpr ⟨n,_,rfl,fm.of aC,o.mono (aR d i).z⟩⟩
 |_=>exact q.elim
def gk(t:ku X (.type T) r)(hd:k8 X E r m)(q:Gl X x)(n:X.mg x=Wb)(j:bootBuiltins x=Wp (.type T))(u:DA X E (e::es) fa)(l:x≠"__name__":=by decide)(i:1#x:=by decide)
  (s:Vg (e::es) X.env=(Vd,eval e X.env)::Vg es X.env:=by exact aM rfl)(d:(Wn pos<|Vg es X.env).any (·.1)=Vd:=by exact bM rfl):DE X E (.Call (.Name x p) (e::es) [] pos) (ak fa m) :=
 ⟨bc (xS t q n j u.o l i s d)<|ko hd⟩
def Mq(hg:Gl X "list")(L:X.mg "list"=Wb)(ha:DA X E [x] fa)(he:Vg [x] X.env=(Vd,eval x X.env)::Vg [] X.env:=by exact aM rfl)(G:(Wn pos<|Vg [] X.env).any (·.1)=Vd:=by exact bM rfl) :
  DF X E (.Call (.Name "list" p) [x] [] pos) (ak fa<|m1 nj):=by
 refine⟨?_⟩;refine bc (xS qe hg L PyProof.Rows.Boot.«list» ha.o 0#1 0#1 he G) λσ H Q h=>?_;obtain⟨u,N,hs,hr,q⟩:=h;refine⟨u,N,hs,hr,?_⟩;unfold ak at q;cases T:fa N with
 |stuck|exn x=>rwa[T]at q
 |ok l=>
  rw[T]at q;intro j U r t A;have fin:∀(es:ac) (w:am) (p:Vi),m1 nj l=.ok (.lst es)->U p=Wb->Reps X.K r es w->Q (.ref p) (upd U p<|.lst w):=λes w p L I hu=>by
   have O:r p=Wb:=t.sub.free I;have Y:∀p j i d,bz H u i d->H p=Wb->d p=Wb->i p=Wp (.lst j)->Reps X.K d es j->Q (.ref p) i:=by
    have m:match m1 nj l with
     |.ok (.lst l)=>∀p j i d,bz H u i d->H p=Wb->d p=Wb->i p=Wp (.lst j)->Reps X.K d l j->Q (.ref p) i
     |.ok _=>False
     |.exn x=>∀C ox i d,bz H u i d->yG X.K d x C ox->E C ox i
     |.stuck=>False:=q
    rwa[L]at m
   refine Y p w _ r (t.trans ⟨λb o q=>by rw[ay (aN q I)];exact q,aD.refl _,λb o q=>?_,λa y M=>er M y⟩) (t.s.free I) O aC hu;rw[ay (by intro z;subst z;rw[O]at q;cases q)];exact t.sub _ _ q
  have m:match m1 nj l with
     |.ok (.lst l)=>∀p j i d,bz H u i d->H p=Wb->d p=Wb->i p=Wp (.lst j)->Reps X.K d l j->Q (.ref p) i
     |.ok _=>False
     |.exn x=>∀C ox i d,bz H u i d->yG X.K d x C ox->E C ox i
     |.stuck=>False:=q
  match l,A,m,fin with
  |[],_,m,_=>exact m.elim
  |_::_::_,_,m,_=>exact m.elim
  |[x],A,m,fin=>
   obtain⟨v,r',rfl,y,M⟩:=az.mp A;rw[Reps.nil_iff.mp M];cases x with
   |lst l=>
    obtain⟨p,j,rfl,B,k2⟩:=aA.mp y;exact⟨p,j,rfl,.inl (aD.sqL t.sub B),λn J=>fin l j n rfl J k2⟩
   |tup l=>
    obtain⟨p,j,rfl,B,k2⟩:=aH.mp y;exact⟨p,j,rfl,.inr (aD.sqT t.sub B),λn J=>fin l j n rfl J k2⟩
   |_=>exact m.elim
def yb:D->Bool
 |.non=>VO
 |_=>Vd
def qX(x y:D):aw D:=match y with
 |.non=>.ok<|.bl<|yb x
 |_=>.stuck
def jC(x y:D):aw D:=match y with
 |.non=>.ok<|.bl (!(yb x))
 |_=>.stuck
def Rep.is_non{K:Va}(r:Rep K H x v):decide (v=.non)=yb x:=by
 cases x with|non=>rw[aY.mp r];rfl|bl b=>rw[aF.mp r];rfl|int b=>rw[ax.mp r];rfl|str b=>rw[Rep.str_iff.mp r];rfl|tup d=>obtain⟨_,_,e,_⟩:=aH.mp r;rw[e];rfl|lst d=>obtain⟨_,_,e,_⟩:=aA.mp r;rw[e];rfl|dic i d=>rw[Rep]at r;obtain⟨_,_,_,e,_⟩:=r;rw[e];rfl|exc x=>obtain⟨_,_,_,e,_⟩:=eE.mp r;rw[e];rfl|ob k x=>obtain⟨_,_,e,_⟩:=bj.mp r;rw[e];rfl
def zl:BX X.K E (λx y H Q=>y=.non/\Q (.bl (decide (x=.non))) H) qX:=by
 intro x y v u H l Q j i d q;unfold qX at q;cases y with|non=>exact⟨aY.mp d,by rw[i.is_non];exact bL j q<|rb _⟩| _=>exact q.elim
def sY:BX X.K E (λx y H Q=>y=.non/\Q (.bl (!decide (x=.non))) H) jC:=by
 intro x y v u H l Q j i d q;unfold jC at q;cases y with
 |non=>
  refine⟨aY.mp d,?_⟩;rw[i.is_non];exact bL j q<|rb _
 |_=>exact q.elim
noncomputable def B3:D->String
 |.non=>"NoneType"
 |.bl _=>"bool"
 |.int _=>"int"
 |.str _=>"str"
 |.tup _=>"tuple"
 |.lst _=>"list"
 |.dic _ _=>"dict"
 |.exc _=>"<exc>"
 |.ob (.ins _ _) _=>"<exc>"
 |.ob (.dint _) _=>"dict"
 |.ob (.exf _ _) _=>"<exc>"
 |.ob .pl _=>"list"
 |.ob (.fn _) _=>"function"
def eY(T:String)(x:D):aw D:=.ok<|.bl (B3 x==T||(B3 x=="bool"&&T=="int"))
def wN(K:Va)(T:String):Prop:=∀S,S∈["NoneType","bool","int","str","tuple","list","dict","function"]->saC K (.type S) (.type T)=Wp (S==T||(S=="bool"&&T=="int"))
def Jd(I:Inv X π σ H s)(r:Rep X.K H x v)(q:bw v u)(n:wN X.K T)(G:T∈gM)(h:∀tk,Q (.bool (B3 x==T||(B3 x=="bool"&&T=="int"))) { s with toks:=tk }) :
  VC 4#X A (call (.builtin "isinstance") [u,.type T]) Q X.xe s:=by
 cases x with
 |non=>rw[aY.mp r]at q;exact j7 I q .non (n _<|by simp) h|bl b=>rw[aF.mp r]at q;exact j7 I q (.bl b) (n _<|by simp) h|int b=>rw[ax.mp r]at q;exact j7 I q (.int b) (n _<|by simp) h|str b=>rw[Rep.str_iff.mp r]at q;exact j7 I q (.str b) (n _<|by simp) h
 |tup Y=>
  obtain⟨a,L,N,rfl,rfl,j,l,h3,U,_⟩:=bD I r q;obtain⟨o,B,k2,_⟩:=U;exact WQ W.kitx_tuple I.kIn ⟨o,B,k2⟩ (n _<|by simp) (λz=>nomatch z) h
 |lst Y=>
  obtain⟨a,L,N,rfl,rfl,j,l,h3,U,_⟩:=bg I r q;obtain⟨o,B,k2,_⟩:=U;exact WQ saB I.kIn ⟨o,B,k2⟩ (n _<|by simp) (λz=>nomatch z) h
 |dic y Y=>
  rw[Rep]at r;obtain⟨a,M,L,rfl,j,l,_⟩:=r;cases (show u=VG a from q);obtain⟨_,_,J,_,p⟩:=j.ok I.hok;obtain⟨o,es,ep,B,k2,_⟩:=p;exact WQ ZK I.kIn ⟨o,B,k2.1⟩ (n _<|by simp) (λz=>nomatch z) h
 |exc x=>
  obtain⟨a,C,dc,rfl,i,j⟩:=eE.mp r;cases (show u=VG a from q);obtain⟨p,_,_⟩:=j.ok I.hok;have e:(B3 (.exc x)==T||(B3 (.exc x)=="bool"&&T=="int"))=Vd:=by
   have:∀T∈gM,(B3 (.exc x)==T||(B3 (.exc x)=="bool"&&T=="int"))=Vd:=by show ∀T∈gM,("<exc>"==T||("<exc>"=="bool"&&T=="int"))=Vd;decide
   exact this T G
  rw[e]at h;exact WQ (uO i.ek i.ek.isCls) I.kIn p (i.bt T G) (λz=>nomatch z) h
 |ob k xs=>
  obtain⟨a,L,rfl,j,_⟩:=bj.mp r;cases (show u=VG a from q);cases k with
  |exf c y=>
   obtain⟨C,dx,fs,i,l,_⟩:=j;obtain⟨p,_,_⟩:=l.ok I.hok;have e:(B3 (.ob (.exf c y) xs)==T||(B3 (.ob (.exf c y) xs)=="bool"&&T=="int"))=Vd:=by
    have:∀T∈gM,("<exc>"==T||("<exc>"=="bool"&&T=="int"))=Vd:=by decide
    exact this T G
   rw[e]at h;exact WQ (uO i.ek i.ek.isCls) I.kIn p (i.bt T G) (λz=>nomatch z) h
  |ins c y=>
   obtain⟨C,dx,_,i,l,_⟩:=j;obtain⟨mA,O,_⟩:=sZ I.hok l;obtain⟨od,O',_⟩:=O.look;have e:(B3 (.ob (.ins c y) xs)==T||(B3 (.ob (.ins c y) xs)=="bool"&&T=="int"))=Vd:=by
    have:∀T∈gM,(B3 (.ob (.ins c y) xs)==T||(B3 (.ob (.ins c y) xs)=="bool"&&T=="int"))=Vd:=by show ∀T∈gM,("<exc>"==T||("<exc>"=="bool"&&T=="int"))=Vd;decide
    exact this T G
   rw[e]at h;exact WQ (W.kitx_own (i.cls.get _) i.cls.hd i.gc i.gn i.tk i.mo) I.kIn O' (i.bt T G) (λz=>nomatch z) h
  |dint y=>
   obtain⟨M,l,_⟩:=j;obtain⟨_,_,J,_,p⟩:=l.ok I.hok;obtain⟨o,es,ep,B,k2,_⟩:=p;exact WQ ZK I.kIn ⟨o,B,k2.1⟩ (n _<|by simp) (λz=>nomatch z) h
  |pl=>exact j7 I (show bw (.ref a) (VG a) from rfl) (.lst j) (n _<|by simp) h
  |fn q=>
   obtain⟨F,ab,c',t,m,pm,al,_,_,l,_⟩:=j;obtain⟨e,_⟩:=I.hok a _ l;exact WQ (W.kitx_of W.kitAt_ty (λ{_ _ _ _ _ s} p k=>by obtain⟨h,g,d,t,os⟩:=s;obtain⟨o,j,l⟩:=p;exact m5 j l k)) I.kIn ⟨_,e,rfl⟩ (n _<|by simp) (λz=>nomatch z) h
def cU(hk:wN X.K T)(n:Gl X "isinstance")(m:X.mg "isinstance"=Wb)(hg:Gl X x)(hm:X.mg x=Wb)(N:bootBuiltins x=Wp (.type T))(ha:DE X E a f)
  (Y:x≠"__name__":=by decide)(t:1#x:=by decide)(hT:T∈gM:=by decide)
  (y:Vg [a,.Name x i] X.env=(Vd,eval a X.env)::Vg [.Name x i] X.env:=by exact aM rfl)(p:Vg [.Name x i] X.env=(Vd,eval (.Name x i) X.env)::Vg [] X.env:=by exact aM rfl)(l:(Wn pos<|Vg [.Name x i] X.env).any (·.1)=Vd:=by exact bM rfl) :
  DE X E (.Call (.Name "isinstance" p1) [a,.Name x i] [] pos) (aL f<|eY T):=by
 refine⟨?_⟩;refine bc (uv (r:=λC H Q=>∃d v,C=[v,.ty T]/\Rep X.K H d v/\Q (.bl (B3 d==T||(B3 d=="bool"&&T=="int"))) H) ?_ n m PyProof.Rows.Boot.«isinstance» (dH ha.o (dH (Ed (v:=.ty T) hg hm N rfl Y t) ig p) y) 0#1 0#1 y l) λB H Q ⟨Ha,w,O,U,q⟩=>⟨Ha,w,O,U,?_⟩
 .intro π s B H xs us Q I r h
  obtain⟨d,v,rfl,h1,q⟩:=h;cases r with
  |cons j M=>
   cases M with
   |cons L J=>
    cases J;rename_i u1 G;obtain rfl:G=Value.type T:=L;exact Jd I h1 j hk hT λtk=>⟨.bl _,H,I.tok _,rfl,q⟩
 .unfold aL at q
  cases A:f w with
  |stuck|exn x=>rwa[A]at q
  |ok d=>
   rw[A]at q;intro v H1 u z j;exact⟨d,v,rfl,j.mono z.sub,q _ H1 u z<|rb _⟩
end
theorem yi{prog:V5}{w:Wx}{A:Wh}{E:U5->Vm->Prop}{it t:Vi}{items:Array U5}(j:t≠it):∀(n i:Nat) (s:Vm) (Q:List U5->Vm->Prop),s.heap.IsListIter it t i->s.heap.IsList t items->i+n<=items.size ->
  (∀h',h'.IsListIter it t (i+n)->X4 it s.heap h'->Q ((items.toList.drop i).take n) { s with heap:=h' })->VC (Vy prog w) A (draw (.ref it) n) Q E s
 |0,i,s,Q,f,_,_,m=>by
  show VC _ _ (pure []) Q E s;exact VE (by simpa using m s.heap f (X4.refl ..))
 |n+1,i,s,Q,f,p,r,m=>by
  have l:i<items.size:=by omega
  show VC _ _ (pyNext (.ref it) >>= _) Q E s;refine Vb (wpAny_pyNext_list_item f p (x:=items[i]) (by simp[l]) λg c a=>?_);have d:g.IsList t items:=by
   obtain⟨o,q,k2⟩:=p;exact⟨o,(a.2 t j).trans q,k2⟩
  refine Vb (WW<|yi j n (i+1) _ _ c d 0#2 λu b e=>VE ?_);have hd:items.toList.drop i=items[i]::items.toList.drop (i+1):=by simp[WB,l]
  have:=m u (by rw[show i+(n+1)=i+1+n by omega];exact b)<|a.trans e;rwa[hd,List.take_succ_cons]at this
def qD(r:A.handled=Wb)(m:s.heap.IsList t items)
  (v:∀h',Heap.ExtBut 2#s s.heap h'->Q items.toList { s with heap:=h' }):VC (Vy prog w) A (unpackItems (.ref t) items.size Wb) Q E s:=by
 have j:t≠2#s:=by obtain⟨o,q,_⟩:=m;exact VM<|Vw q
 unfold unpackItems;refine Vb ?_
 .unfold notIterableAtAll
  refine Vb<|wpAny_specialOf m.typeIs slot_list_iter.lookup ?_;refine VE ?_;simp only[WV,eH];refine Vb<|WW<|wpAny_pyIter_list m ?_;have i:(s.heap.push { cls:=.type "list_iterator",data:=.fields #[.ref t,.int 0 0] }).IsList t items:=by
   obtain⟨o,n,k2⟩:=m;exact⟨o,Vc _ n,k2⟩
  refine Vb (WW<|yi j items.size 0 _ _ ⟨_,V1 _ rfl,rfl,rfl⟩ i 0#2 λg c a=>?_);have l:List.take items.size (List.drop 0 items.toList)=items.toList:=by
   rw[List.drop_zero];exact Yp 0#3
  rw[l];rw[eo 0#3];have d:g.IsList t items:=by
   obtain⟨o,n,k2⟩:=i;exact⟨o,(a.2 t j).trans n,k2⟩
  refine Vb (WW<|wpAny_pyNext_list_end r c d 0#3 λu f=>?_);simp only[Option.isSome_none,WV,eH];refine VE<|v u λb o p e=>f b o p<|a.extBut b o p<|Vc _ e
def Ck(a:L2.St):db->am->L2.St
 |i::c,v::b=>Ck (a.set i<|Wp v) c b
 |_,_=>a
def dz(ρ:Ev):db->ac->Ev
 |i::a,d::b=>dz (ρ.set i<|.sh d) a b
 |_,_=>ρ
theorem eG.putAll{K:Va}{e c Ha H:Hp}:∀{a:db}{ds:ac}{vs:am}{b:L2.St}{ρ:Ev},eG K e c Ha b H ρ->Reps K Ha ds vs->eG K e c Ha (Ck b a vs) H (dz ρ a ds)
 |[],_,_,_,_,h,_=>by unfold Ck dz;exact h
 |_::_,[],_,_,_,h,r=>by rw[Reps.nil_iff.mp r];unfold Ck dz;exact h
 |i::a,d::ds,_,_,_,h,r=>by
  obtain⟨v,vs,rfl,g,f⟩:=az.mp r;unfold Ck dz;exact eG.putAll (h.put g) f
section
variable {X:Cx}{E:XK}{He η:Hp}{e a b:V4}{es:List V4}{f g:bv}{fa:Ev->aw (ac)}{pos:Pos}{is:db}
def Qm(is:db):Qu:=λc d H Q=>c.length=is.length/\Q (Ck d is c) H
def AG(h:Gr X es t)(w:∀vs c H Q,t' vs c H Q->t vs c H Q):Gr X es t':=λd s c H vs i Q I r q=>h d s c H vs i Q I r<|w vs c H Q q
def eN:Gr X [] (Qm []):=AG Lq λc d H Q z9=>by
 obtain⟨h,q⟩:=z9;have e:c=[]:=Y2.mp h;subst e;exact⟨rfl,q⟩
def br(m:X.N.Nodup)(hi:X.N[i]?=Wp x)(d:Ka X.env.scope x)(h:Gr X es<|Qm is)(l:X.fn x=VO∨X.env.scope.names.lookup x=Wp .local := by first|exact .inl rfl|exact .inr rfl|assumption)
  (j:(assignEach (.Name x p::es) X.env).map (·.2)=assign (.Name x p) X.env::(assignEach es X.env).map (·.2):=by rfl):Gr X (.Name x p::es) (Qm (i::is)) :=
 AG (Ib (Eb m hi d l) h j) λc n H Q z9=>by
  obtain⟨h,q⟩:=z9;cases c with|nil=>simp at h|cons v c=>exact⟨v,c,rfl,by simpa using h,q⟩
def Lr{k:Nat}(z:X.calm=VO)(h:Gr X es t)
  (x:(assignEach es X.env).length=n:=by rfl)(j:(assignEach es X.env).findIdx? (·.1)=Wb:=by rfl):PG X (.Tuple es k pos) (λv c H Q=>∃a xs,v=.ref a/\fm X.K H a xs/\xs.length=n/\t xs c H Q):=by
 intro l s c H v u Q I r hw;obtain⟨a,xs,B,w,y,hw⟩:=hw;subst B;cases r;obtain⟨d,m,q,J⟩:=I.list w;rw[assign_Tuple];refine Vb<|wpAny_standAt ?_;unfold unpack;rw[x,j];have i:n=d.toArray.size:=by rw[Vx,←m.length,y]
 rw[i];refine Vb<|WW<|qD (I.ok.hd z) q.isList λA p=>?_;have C:Inv X l c H { s with heap:=A }:=I.kept (t':=s.toks) λb o e=>p b o (VM<|Vw e) e;exact h l _ c H xs _ Q C (by simpa using m) hw
def Ro(h:PG X d t)(h':PG X d t'):PG X d (λv c H Q=>t v c H Q∨t' v c H Q):=λi s c H v u Q I r q=>q.elim (h i s c H v u Q I r)<|h' i s c H v u Q I r
def Ie{k:Nat}(l:X.calm=VO)(h:Gr X es<|Qm is)(j:(assignEach es X.env).length=is.length:=by rfl)(c:(assignEach es X.env).findIdx? (·.1)=Wb:=by rfl) :
  PG X (.Tuple es k pos) (λv i H Q=>∃a xs,v=.ref a/\(nq X.K H a xs∨fm X.K H a xs)/\xs.length=is.length/\Q (Ck i is xs) H) :=
 zc (Ro (OI l h j c) (Lr l h j c)) λv i H Q ⟨a,xs,e,m,d,q⟩=>m.elim (λz=>.inl ⟨a,xs,e,z,d,d,q⟩) λz=>.inr ⟨a,xs,e,z,d,d,q⟩
def fX(n:Nat)(d:D):Option (ac):=match d with
 |.tup c=>if c.length=n then Wp c else Wb
 |.lst c=>if c.length=n then Wp c else Wb
 |_=>Wb
def rG{K:Va}(h:fX n d=Wp ds)(r:Rep K H d v):∃a vs,v=.ref a/\(nq K H a vs∨fm K H a vs)/\vs.length=n/\Reps K H ds vs:=by
 unfold fX at h;cases d with
 |tup es=>
  by_cases c:es.length=n
  .simp only[ef c]at h;cases h
   obtain⟨a,vs,rfl,j,i⟩:=aH.mp r;exact⟨a,vs,rfl,.inl j,by rw[←i.length];exact c,i⟩
  .simp only[eo c]at h;cases h
 |lst es=>
  by_cases c:es.length=n
  .simp only[ef c]at h;cases h
   obtain⟨a,vs,rfl,j,i⟩:=aA.mp r;exact⟨a,vs,rfl,.inr j,by rw[←i.length];exact c,i⟩
  .simp only[eo c]at h;cases h
 |_=>cases h
def Ax{K:Va}{a:Vi}(c:aD H H')(h:nq K H a vs∨fm K H a vs):nq K H' a vs∨fm K H' a vs:=h.elim (λz=>.inl (aD.sqT c z)) λz=>.inr<|aD.sqL c z
def Om(is:db)(f:bv):ci:=λc=>(f c).bind λd=>match fX is.length d with
 |some i=>.ok<|.nx<|dz c is i
 |none=>.stuck
def PB{k:Nat}(z:X.calm=VO)(y:DE X E e f)(h:Gr X es<|Qm is)(w:swapsWithSole [.Tuple es k c] e pos.line X.env=pure Vd:=by rfl)(hw:swappedStores [.Tuple es k c] e X.env=pure Wb:=by rfl)
  (A:(assignEach [.Tuple es k c] X.env).map (·.2)=[assign (.Tuple es k c) X.env]:=by rfl)(x:(assignEach es X.env).length=is.length:=by rfl)(j:(assignEach es X.env).findIdx? (·.1)=Wb:=by rfl) :
  DS X E He η (.Assign [.Tuple es k c] e pos) (Om is f):=by
 refine⟨?_⟩;refine cA (Cy y.o (Ie z h x j) w hw A) λD G H z9=>?_;obtain⟨B,n,h,q⟩:=z9;refine⟨B,n,h.g.sub,h.rd,?_⟩
 refine plain (k:=λd=>match fX is.length d with
  |some p=>.ok<|.nx<|dz n is p
  |none=>.stuck) h q λd v C m _ g s i=>?_
 cases l:fX is.length d with
 |none=>rw[l]at i;exact i.elim
 |some p=>
  rw[l]at i;obtain⟨a,r,rfl,u,k2,t⟩:=rG l s;exact⟨a,r,rfl,Ax g.sub u,k2,i _ C m (aD.refl _)<|(h.grow g).putAll t⟩
def dE(is:db):Ev->D->aw Ev:=λc d=>match fX is.length d with
 |some i=>.ok<|dz c is i
 |none=>.stuck
def gz:BV (dE is):=λc d=>by
 unfold dE;cases fX is.length d with|none=>exact .inl rfl|some i=>exact .inr ⟨_,rfl⟩
def ip{k:Nat}(p:X.calm=VO)(h:Gr X es<|Qm is)(o:(assignEach es X.env).length=is.length:=by rfl)(c:(assignEach es X.env).findIdx? (·.1)=Wb:=by rfl):DG X E He η (.Tuple es k pos) (dE is) :=
 ⟨zc (Ie p h o c) λv s H Q z9=>by
  obtain⟨r,t,d,h,l,q⟩:=z9;unfold dE at q;cases i:fX is.length d with
  |none=>rw[i]at q;exact q.elim
  |some u=>
   rw[i]at q;obtain⟨a,j,rfl,n,k2,m⟩:=rG i l;exact⟨a,j,rfl,Ax h.g.sub n,k2,q _ H r (aD.refl _)<|h.putAll m⟩⟩
def Ho(i j:Nat)(fa:Ev->aw (ac)):ci:=λc=>(fa c).bind λd=>match d with
 |[x,y]=>.ok<|.nx<|(c.set i<|.sh x).set j<|.sh y
 |_=>.stuck
def PH{m l pt c:Pos}{n k2}(M:X.calm=VO)(Q:X.N.Nodup)(hi:X.N[i]?=Wp x)(L:X.N[j]?=Wp y)(p:i≠j)
  (I:X.env.scope.names.lookup x=Wp .local)(G:X.env.scope.names.lookup y=Wp .local)(O:DA X E [a,b] fa)
  (hw:swappedStores [.Tuple [.Name x m,.Name y l] n pt] (.Tuple [a,b] k2 c) X.env=pure (Wp [x,y]))
  (J:swapsWithSole [.Tuple [.Name x m,.Name y l] n pt] (.Tuple [a,b] k2 c) pos.line X.env=pure Vd:=by rfl) :
  DS X E He η (.Assign [.Tuple [.Name x m,.Name y l] n pt] (.Tuple [a,b] k2 c) pos) (Ho i j fa):=by
 refine⟨?_⟩;refine cA (OE M Q hi L p I G O.o hw J) λD σ H z9=>?_;obtain⟨Ha,w,h,q⟩:=z9;refine⟨Ha,w,h.g.sub,h.rd,?_⟩
 unfold Ho at q;cases r:fa w with
 |stuck=>rwa[r]at q|exn x=>rw[r]at q;exact λC ox H' s g ex=>q C ox H' s (h.g.trans g) ex
 |ok ds=>
  rw[r]at q;intro vs H1 t A d
  match ds,d,q with
  |[x,y],d,q=>
   obtain⟨v,r',rfl,h1,Y⟩:=az.mp d;obtain⟨u,B,rfl,U,T⟩:=az.mp Y;rw[Reps.nil_iff.mp T];exact⟨v,u,rfl,q _ H1 t A.z<|((h.grow A).put h1).put U⟩
  |[],_,q=>exact q.elim
  |[_],_,q=>exact q.elim
  |_::_::_::_,_,q=>exact q.elim
end
def CW{K:Va}:wN K "int":=by
 intro S a;simp only[Vl,Yu,ey]at a;rcases a with rfl|rfl|rfl|rfl|rfl|rfl|rfl|rfl<;>first|rfl|decide +kernel
def A1{K:Va}:wN K "bool":=by
 intro S a;simp only[Vl,Yu,ey]at a;rcases a with rfl|rfl|rfl|rfl|rfl|rfl|rfl|rfl<;>first|rfl|decide +kernel
def uP{K:Va}:wN K "str":=by
 intro S a;simp only[Vl,Yu,ey]at a;rcases a with rfl|rfl|rfl|rfl|rfl|rfl|rfl|rfl<;>first|rfl|decide +kernel
def kI{K:Va}:wN K "tuple":=by
 intro S a;simp only[Vl,Yu,ey]at a;rcases a with rfl|rfl|rfl|rfl|rfl|rfl|rfl|rfl<;>first|rfl|decide +kernel
def fM{K:Va}:wN K "list":=by
 intro S a;simp only[Vl,Yu,ey]at a;rcases a with rfl|rfl|rfl|rfl|rfl|rfl|rfl|rfl<;>first|rfl|decide +kernel
section
variable {X:Cx}{E:XK}{He η:Hp}{e a b c:V4}{f g h:bv}{pos:Pos}
def dv(i:Nat)(l:X.N[i]?=Wp x:=by rfl)(j:yC X.env.scope x:=by first|exact Vj rfl|exact Ym 0#5|exact Ym<|Ym rfl)(hd:1#x:=by decide)
  (d:3#x:=by decide):DE X E (.Name x pos) (af i):=PM l j hd d
def yF(K:Va)(i:Vq->Option U5)(x:Vq)(d:D):Prop:=∃v u,i x=Wp u/\bw v u/\∀H,Rep K H d v
def aS(k:yF X.K X.mg x d)(i:Gl X x)(hd:1#x:=by decide):DE X E (.Name x pos) (dC d):=by
 obtain⟨v,u,m,l,j⟩:=k;exact Mt i m l j hd
def eJ{K:Va}(h:d x=Wp (.int i t)):yF K d x (.int i):=⟨.int i,_,h,⟨t,rfl⟩,λ_=>ri _⟩
def LZ{K:Va}(h:d x=Wp (.str i t)):yF K d x (.str i):=⟨.str i,_,h,⟨t,rfl⟩,λ_=>Rep.str_iff.mpr rfl⟩
def Eo{K:Va}{a:Vi}(h:d x=Wp (.ref a))(l:K.lookup a=Wp ⟨.type "tuple",o,.seq its n,m⟩)
  (j:bh vs its.toList)(i:its.size<=sizeLine)(hd:∀H,Reps K H ds vs):yF K d x (.tup ds):=⟨.ref a,_,h,rfl,λH=>aH.mpr ⟨a,vs,rfl,.inr ⟨_,its,n,l,rfl,rfl,i,j⟩,hd H⟩⟩
def jk(j i:D->D->aw D)(f g h:bv):bv:=λd=>(f d).bind λx=>(g d).bind λy=>(j x y).bind λz=>match z with
 |.bl VO=>(h d).bind λw=>i y w
 |.bl Vd=>.ok<|.bl Vd
 |_=>.stuck
def wK(r:R2)(o:D->D->aw D):Prop:=∀(K:Va) (x y:D) (v u:V) (H i:Hp) (Q:VK) (d:D),aD i H->Rep K i x v->Rep K i y u->o x y=.ok d->(∀w,Rep K i d w->Q w H)->r v u H Q
def iR{g:Int->Int->D}(n:∀K H i j,Rep K H (g i j)<|o i j):wK (Kl o) (A3 (λ_ _=>VO) g):=by
 intro K x y v u H r Q d p m l e q;unfold A3 at e;cases x with
 |int i=>
  cases y with|int j=>simp only[ef]at e;cases e;exact⟨i,j,ax.mp m,ax.mp l,q _<|n _ _ i j⟩| _=>cases e
 |_=>cases e
def wL(o:D->D->aw D):Prop:=∀x y,∀z,o x y≠.exn z
def rY(p:wK r o)(p':wK r' o')(n:wL o)(n':wL o')(M:L2.St)(H:Hp)(Q:VK)(q:tD X.K E (jk o o' f g h) M H Q) :
  Cf r r' (tD X.K E f) (tD X.K E g) (tD X.K E h) M H Q:=by
 obtain⟨Ha,i,hs,I,q⟩:=q;refine⟨Ha,i,hs,I,?_⟩;unfold jk at q;cases U:f i with
 |stuck|exn x=>rwa[U]at q
 |ok x=>
  rw[U]at q;intro v H1 L A r1;refine⟨L,i,A.sub,I.mono A.z,?_⟩;replace q:=post.grow (r:=(g i).bind λy=>(o x y).bind λz=>match z with
   |.bl VO=>(h i).bind λw=>o' y w
   |.bl Vd=>.ok<|.bl Vd
   |_=>.stuck) q A
  cases T:g i with
  |stuck|exn x=>rwa[T]at q
  |ok y=>
   rw[T]at q;intro u J j l N;replace q:=post.grow (r:=(o x y).bind λz=>match z with
    |.bl VO=>(h i).bind λw=>o' y w
    |.bl Vd=>.ok<|.bl Vd
    |_=>.stuck) q l
   cases C:o x y with
   |stuck=>rw[C]at q;exact q.elim|exn z=>exact er C<|n x y z
   |ok z=>
    rw[C]at q;refine p X.K x y v u J j _ z l.sub (r1.mono l.z) N C λw G=>?_;cases z with
    |bl b=>
     rw[aF.mp G];refine⟨b,rfl,?_⟩;cases b with
     |false=>rw[eo WL];exact q _ J j (bz.refl l.sub)<|rb _
     |true=>
      rw[ef rfl];refine⟨j,i,l.sub,(I.mono A.z).mono l.z,?_⟩;replace q:post X.K E J j ((h i).bind λw=>o' y w) Q:=q;cases O:h i with
      |stuck|exn x=>rwa[O]at q
      |ok s=>
       rw[O]at q;intro v3 Y m t r3;replace q:=post.grow (r:=o' y s) q t;cases B:o' y s with
       |stuck=>rw[B]at q;exact q.elim|exn z=>exact er B<|n' y s z
       |ok d=>
        rw[B]at q;exact p' X.K y s u v3 Y m Q d t.sub (N.mono t.z) r3 B λw3 r5=>q w3 Y m (bz.refl t.sub) r5
    |_=>exact q.elim
def JO(s:ia X (Wf j) r)(i:ia X (Wf d) l)(p:wK r o)(m:wK l o')(n:wL o)(q:wL o')(w:DE X E a f)(v:DE X E b g)(u:DE X E c h)
  (t:lastMarks [j,d] [b,c]=Vd:=by with_unfolding_all rfl):DE X E (.Compare a [j,d] [b,c] pos) (jk o o' f g h):=⟨bc (Il s i w.o v.o u.o t)<|rY p m n q⟩
def By(I:ia X (Wf t) r)(j:ia X (Wf i) z)(p:wK r o)(A:wK z o')(n:wL o)(B:wL o')(N:DE X E a f)(M:DE X E b g)(L:DE X E c h)
  (J:lastMarks [t,i] [b,c]=Vd:=by with_unfolding_all rfl):DT X E (.Compare a [t,i] [b,c] pos) (jk o o' f g h):=by
 refine⟨?_⟩;refine sW (HU I j N.o M.o L.o J) λm H Q q=>?_;have w:tD X.K E (jk o o' f g h) m H λx Y=>∃k,x=.bl k/\Q k Y:=by
  obtain⟨T,s,C,G,q⟩:=q;refine⟨T,s,C,G,?_⟩;cases u:jk o o' f g h s with
  |stuck|exn x=>rwa[u]at q
  |ok d=>
   rw[u]at q;intro v U l O y;cases d with|bl b=>rw[aF.mp y];exact⟨b,rfl,q U l O⟩| _=>exact q.elim
 exact rY p A n B m H _ w
def iS{c:Int->Int->Bool}{g:Int->Int->D}:wL (A3 c g):=by
 intro x y z;unfold A3;cases x<;>cases y<;>simp<;>split<;>simp
end
def tm(i:Nat):Ev->Nat:=λa=>match a[i]? with
 |some (.sh (.int j))=>j.natAbs+1
 |_=>0
section
variable {X:Cx}{E:XK}{a b:V4}{f g:bv}{pos:Pos}
def dm(x y:D):aw D:=match x,y with
 |.int i,.int j=>if eU i j=VO then .ok (.int<|i*j) else .stuck
 |_,_=>.stuck
def fG(m:DE X E a f)(l:DE X E b g):DE X E (.BinOp a .Mult b pos) (ag f g dm):=yk LD (by
 intro x y v u H n Q e d c q;unfold dm at q;cases x with
 |int i=>
  cases y with
  |int j=>
   by_cases h:eU i j=VO
   .simp only[ef h]at q
    exact⟨i,j,ax.mp d,ax.mp c,eU.ok h,bL e q<|ri _⟩
   .simp only[eo h]at q;exact q.elim
  |_=>exact q.elim
 |_=>exact q.elim) m l
end
def Po(K:Va)(tg:Ev->D->aw Ev):TG:=λv a H Q=>∃c b,tG K c b tg v a H Q
theorem Reps.rep{K:Va}(h:Reps K H ds vs):∀k:Nat,Reps K H (Vt k ds).flatten (Vt k vs).flatten
 |0=>by simp;exact Reps.nil
 |k+1=>by
  rw[VU,VU,WO,WO];exact h.app<|Reps.rep h k
section
variable {X:Cx}{E:XK}{a b:V4}{f g:bv}{pos:Pos}
def qV(x y:D):aw D:=match x,y with
 |.lst c,.int k=>if c.length*k.toNat<=line/\-9223372036854775808<=k/\k<9223372036854775808 then .ok (.lst (Vt k.toNat c).flatten) else .stuck
 |_,_=>.stuck
def jK(f g:bv):bv:=λc=>(f c).bind λx=>match x with
 |.lst d=>(g c).bind λy=>qV (.lst d) y
 |_=>.stuck
def kO(M:DF X E a f)(L:DE X E b g):DE X E (.BinOp a .Mult b pos) (jK f g):=by
 refine⟨?_⟩;refine bc (Ig OS M.o L.o) λO H Q z9=>?_;obtain⟨B,d,J,t,q⟩:=z9;refine⟨B,d,J,t,?_⟩
 unfold jK at q;cases A:f d with
 |stuck|exn x=>rwa[A]at q
 |ok x=>
  rw[A]at q;cases x with
  |lst j=>
   replace q:post X.K E H B ((g d).bind λy=>qV (.lst j) y) Q:=q;intro p C H1 l i T U I m;refine⟨l,d,i.sub,t.mono i.z,?_⟩;replace q:=q.grow i;cases w:g d with
   |stuck|exn x=>rwa[w]at q
   |ok y=>
    rw[w]at q;intro u Y N e G;replace q:=post.grow (r:=qV (.lst j) y) q e;cases y with
    |int k=>
     unfold qV at q
     by_cases c:j.length*k.toNat<=line/\-9223372036854775808<=k/\k<9223372036854775808
     .simp only[ef c]at q
      refine⟨p,k,C,rfl,ax.mp G,e.s _ _ I,by omega,by omega,by rw[←m.length];exact dW c.1,λn v=>?_⟩;exact q _ _ _ (aR e.sub v)<|aA.mpr ⟨n,_,rfl,fm.of aC,((m.mono e.z).rep _).mono (aR e.sub v).z⟩
     .simp only[eo c]at q;exact q.elim
    |_=>exact q.elim
  |_=>exact q.elim
def l5(x:D):aw D:=match x with
 |.lst c=>.ok<|.tup c
 |.tup c=>.ok<|.tup c
 |_=>.stuck
def qc:k8 X E (λxs H Q=>∃p d,xs=[.ref p]/\((fm X.K H p d/\∀l,H l=Wb->Q (.ref l) (upd H l<|.tup d))∨(nq X.K H p d/\Q (.ref p) H))) (m1 l5):=wx λx v H t Q c r q=>by
 cases x with
 |lst s=>
  obtain⟨p,i,rfl,j,o⟩:=aA.mp r;exact⟨p,i,rfl,.inl ⟨aD.sqL c j,λn m=>q _ _ _ (aR c m)<|aH.mpr ⟨n,_,rfl,nq.of aC,o.mono (aR c m).z⟩⟩⟩
 |tup s=>
  obtain⟨p,i,e,j,o⟩:=aH.mp r;subst e;exact⟨p,i,rfl,.inr ⟨aD.sqT c j,bL c q r⟩⟩
 |_=>exact q.elim
end
def jH:ac->Option (cr)
 |[]=>Wp []
 |.str x::r=>(jH r).map (x::·)
 |_=>Wb
theorem As{K:Va}{H:Hp}:∀{ds:ac}{a:cr}{vs:am}{b:List U5},jH ds=Wp a->Reps K H ds vs->bh vs b->StrsAre b a
 |[],a,vs,b,h,r,q=>by
  cases h;rw[Reps.nil_iff.mp r]at q;cases q;exact .nil
 |d::ds,a,vs,b,h,r,q=>by
  obtain⟨v,l,rfl,i,g⟩:=az.mp r;cases q with
  |cons c f=>
   cases d with
   |str x=>
    unfold jH at h;cases e:jH ds with
    |none=>rw[e]at h;cases h
    |some j=>
     rw[e]at h;cases h;rw[Rep.str_iff.mp i]at c;obtain⟨t,rfl⟩:=c;exact .cons _ _<|As e g f
   |_=>cases h
section
variable {X:Cx}{E:XK}{o e:V4}{fo:bv}{fa:Ev->aw (ac)}
def jy(z:Vq)(a:cr):Bool:=decide (z.length<=16)&&decide ((a.map (·.length)).sum+a.length<=1048576)
def Q6(K:Va):V->am->Hp->VK->Prop:=λx xs H Q=>∃z p b a,x=.str z/\xs=[.ref p]/\Rep K H (.lst b) (.ref p)/\jH b=Wp a/\jy z a=VO/\Q (.str<|ZV z a) H
def LQ:SO X "str.join" (Q6 X.K):=by
 intro y s w H x xs v B Q I d g h;obtain⟨z,p,L,c,rfl,rfl,l,j,b,q⟩:=h;obtain⟨t,rfl⟩:=d;obtain⟨u,rfl,f⟩:=g.one;obtain⟨a,A,i,J,rfl,G,r,n,m,_⟩:=bg I l f;unfold jy at b;rw[Vv]at b;exact join_listW m (by simpa using As j r n) (et b.1) (et b.2) λC k=>⟨.str<|ZV z c,H,I.tok _,⟨_,rfl⟩,q⟩
def uR(z:Vq)(xs:ac):aw D:=match xs with
 |[.lst b]=>match jH b with
  |some a=>if jy z a=VO then .ok (.str<|ZV z a) else .stuck
  |none=>.stuck
 |_=>.stuck
def BG(fo:bv)(fa:Ev->aw (ac)):bv:=λa=>(fo a).bind λx=>match x with
 |.str z=>(fa a).bind λxs=>uR z xs
 |_=>.stuck
def Ms(J:DE X E o fo)(L:DA X E [e] fa)
  (f:Xe o "join" X.env (eval o X.env)=eval o X.env:=by rfl)
  (i:((Wn a<|Vg [e] X.env).all (λx=>!x.1)&&(YK a<|XA [] X.env).all (λx=>x.1.isSome)
  &&decide ([e].length+([]:List Yc).length+(if([]:List Yc).isEmpty then 0 else 1)<30))=VO:=by exact lQ rfl)
  (d:(apos.endLine==a.line)=VO:=by rfl) (l:Vg [e] X.env=(Vd,eval e X.env)::Vg [] X.env:=by exact aM rfl) (b:(Wn a<|Vg [] X.env).any (·.1)=Vd:=by exact bM rfl) :
  DE X E (.Call (.Attribute o "join" apos) [e] [] a) (BG fo fa):=by
 refine⟨?_⟩;refine bc (AI PySem.F.plainAttrs_str PySem.F.slot_str_join PySem.F.type_str_join LQ J.o L.o f i d l b) λT H Q z9=>?_;obtain⟨N,g,l,A,q⟩:=z9;refine⟨N,g,l,A,?_⟩
 unfold BG at q;cases C:fo g with
 |stuck|exn x=>rwa[C]at q
 |ok x=>
  rw[C]at q;intro v H1 t n I;cases x with
  |str z=>
   rw[Rep.str_iff.mp I];refine⟨rfl,t,g,n.sub,A.mono n.z,?_⟩;replace q:=post.grow (r:=(fa g).bind λxs=>uR z xs) q n;cases B:fa g with
   |stuck|exn x=>rwa[B]at q
   |ok xs=>
    rw[B]at q;intro Y H2 O m j;replace q:=post.grow (r:=uR z xs) q m;unfold uR at q
    match xs,j,q with
    |[.lst G],j,q=>
     obtain⟨w,r',rfl,y,k2⟩:=az.mp j;rw[Reps.nil_iff.mp k2];obtain⟨p,U,rfl,k3,k4⟩:=aA.mp y;cases s:jH G with
     |none=>simp only[s]at q;exact q.elim
     |some u=>
      simp only[s]at q
      by_cases c:jy z u=VO
      .rw[ef c]at q
       exact⟨z,p,G,u,rfl,rfl,y.mono m.sub,s,c,bL m.sub q<|Rep.str_iff.mpr rfl⟩
      .rw[eo c]at q;exact q.elim
    |[],_,q=>exact q.elim
    |M::_::_,_,q=>cases M<;>exact V0 q
    |[.non],_,q=>exact q.elim
    |[.bl _],_,q=>exact q.elim
    |[.int _],_,q=>exact q.elim
    |[.str _],_,q=>exact q.elim
    |[.tup _],_,q=>exact q.elim
    |[.dic _ _],_,q=>exact q.elim
    |[.exc _],_,q=>exact q.elim
    |[.ob _ _],_,q=>exact q.elim
  |_=>exact q.elim
end
section
variable {X:Cx}{E:XK}{a:V4}{f:bv}{pos:Pos}
def To:V->Option Int->Option Int->Hp->VK->Prop:=λx lo b H Q=>∃z,x=.str z/\z.length<=sizeLine/\Q (.str<|Yh z lo b) H
def Oi:Kn X To:=by
 intro p s o H x v y w lo n A Q I r c pl m h;obtain⟨z,rfl,b,q⟩:=h;obtain⟨t,rfl⟩:=r;have fin:∀g k,EP X p o Q (.str (Yh z lo n) g) { s with toks:=k }:=λg k=>⟨.str<|Yh z lo n,H,I.tok _,⟨_,rfl⟩,q⟩
 refine⟨"str",_,PySem.F.slot_str_getitem.lookup,typeIs_str s z t,?_⟩;cases pl with
 |none=>
  cases m with|none=>exact wpAny_getItem_str_slice (l:=none) (u:=none) (st:=none) c rfl (post_val_or_str ⟨Vr (Zv z _ _) b,fin⟩)|int j d=>exact wpAny_getItem_str_slice (l:=none) (u:=some (j,d)) (st:=none) c rfl (post_val_or_str ⟨Vr (Zv z _ _) b,fin⟩)
 |int i e=>
  cases m with|none=>exact wpAny_getItem_str_slice (l:=some (i,e)) (u:=none) (st:=none) c rfl (post_val_or_str ⟨Vr (Zv z _ _) b,fin⟩)|int j d=>exact wpAny_getItem_str_slice (l:=some (i,e)) (u:=some (j,d)) (st:=none) c rfl (post_val_or_str ⟨Vr (Zv z _ _) b,fin⟩)
noncomputable def ua(x:D) (l h:Option Int):aw D:=match x with
 |.lst b=>.ok<|.lst<|cE b l h
 |.str z=>if z.length<=line then .ok (.str<|Yh z l h) else .stuck
 |.tup b=>if HT.sIx b.length 0 l=0/\HT.sIx b.length b.length h=b.length then .stuck else .ok<|.tup<|cE b l h
 |_=>.stuck
def dZ(f:bv)(lo hi:Ev->aw (Option Int)):bv:=λb=>(f b).bind λx=>(lo b).bind λl=>(hi b).bind λh=>ua x l h
def bO{lo hi:Option V4}(u:DE X E a f)(s:DO X E lo w)(t:DO X E hi y):DE X E (.Subscript a (.Slice lo hi Wb A) pos) (dZ f w y) :=
 ⟨bc (AH (Kn.or DR<|Kn.or Oi Oh) u.o s.o t.o) (Av (m:=ua) λx v l h H B Q b r q=>by
  cases x with
  |lst e=>
   obtain⟨p,i,rfl,j,g⟩:=aA.mp r;exact .inl ⟨p,i,rfl,aD.sqL b j,λn d=>q _ _ _ (aR b d)<|aA.mpr ⟨n,_,rfl,fm.of aC,(g.cut l h).mono (aR b d).z⟩⟩
  |str z=>
   unfold ua at q
   by_cases c:z.length<=line
   .simp only[ef c]at q
    exact .inr<|.inl ⟨z,Rep.str_iff.mp r,dW c,bL b q<|Rep.str_iff.mpr rfl⟩
   .simp only[eo c]at q;exact q.elim
  |tup e=>
   unfold ua at q
   by_cases c:HT.sIx e.length 0 l=0/\HT.sIx e.length e.length h=e.length
   .simp only[ef c]at q;exact q.elim
   .simp only[eo c]at q
    obtain⟨p,i,rfl,j,g⟩:=aH.mp r;exact .inr (.inr ⟨p,i,rfl,aD.sqT b j,by rw[←g.length];exact c,λn d=>q _ _ _ (aR b d)<|aH.mpr ⟨n,_,rfl,nq.of aC,(g.cut l h).mono (aR b d).z⟩⟩)
  |_=>exact q.elim)⟩
end
def Ub(z:Vq):It:=⟨λi _=>i<z.cps.size,λi H x a=>a=H/\∃c,z.cps[i]?=Wp c/\x=.str ⟨#[c]⟩,λi _=>z.cps.size<=i⟩
def Cc{P:V5}{w:Wx}{K:Va}{tg:V4}(z:Vq)(t:Tok)(it:Vi):Dw P w K tg (Ub z) [it] it (λi h=>h.IsStrIter it "str_ascii_iterator" z t i) where
 mem:=by simp
 obj:=λi h st b hb=>by
  have e:b=it:=by simpa using hb
  subst e;obtain⟨o,e,c,d⟩:=st;exact⟨o,e,λv z=>by rw[d]at z;cases z⟩
 keep:=λi h h' st k=>let ⟨o,ho,r⟩:=st;⟨o,k it 0#3 o ho,r⟩
 item:=by
  intro X hP hw hK hc i π s σ H E I hf st hg;subst hP hw hK;have hg':i<z.cps.size:=hg;obtain⟨f0,f1,f2,f3,f4,f5⟩:=hf it 0#3;refine wpAny_pyNext_ascii_item st (c:=z.cps[i]) (by simp[hg']) λh' st' sb=>?_;have I1:Inv X π σ H { s with heap:=h',toks:=s.toks+1 }:=I.turned (t':=s.toks+1) (λb o hb e=>(sb.2 b hb).trans e) f0 f1 f3 f4 f5;obtain⟨o,e,c,d⟩:=id st';exact⟨_,rfl,Ew (s:={ s with heap:=h',toks:=s.toks+1 }) e c d 0#1 ⟨.str ⟨#[z.cps[i]]⟩,H,I1,⟨_,rfl⟩,⟨rfl,_,by simp[hg'],rfl⟩,st',λb hb=>(hf b hb).1⟩⟩
 done:=by
  intro X hP hw hK hc i π s σ H E I hf st hg;subst hP hw hK;have hg':z.cps.size<=i:=hg;obtain⟨f0,f1,f2,f3,f4,f5⟩:=hf it 0#3;exact wpAny_pyNext_ascii_end (I.ok.hd hc) st (by simp[hg']) λh' eb=>⟨rfl,I.turned (t':=s.toks) (λb o hb e=>eb b o hb e) f0 f1 f3 f4 f5⟩
 self:=λ_ _ _ _ _ st h=>wpAny_pyIter_striter_ascii st h
def E3{P:V5}{w:Wx}{K:Va}{tg:V4}(z:Vq)(t:Tok)(it:Vi):Dw P w K tg (Ub z) [it] it (λi h=>h.IsStrIter it "str_iterator" z t i) where
 mem:=by simp
 obj:=λi h st b hb=>by
  have e:b=it:=by simpa using hb
  subst e;obtain⟨o,e,c,d⟩:=st;exact⟨o,e,λv z=>by rw[d]at z;cases z⟩
 keep:=λi h h' st k=>let ⟨o,ho,r⟩:=st;⟨o,k it 0#3 o ho,r⟩
 item:=by
  intro X hP hw hK hc i π s σ H E I hf st hg;subst hP hw hK;have hg':i<z.cps.size:=hg;obtain⟨f0,f1,f2,f3,f4,f5⟩:=hf it 0#3;refine wpAny_pyNext_wide_item st (c:=z.cps[i]) (by simp[hg']) λh' st' sb=>?_;have I1:Inv X π σ H { s with heap:=h',toks:=s.toks+1 }:=I.turned (t':=s.toks+1) (λb o hb e=>(sb.2 b hb).trans e) f0 f1 f3 f4 f5;obtain⟨o,e,c,d⟩:=id st';exact⟨_,rfl,Ew (s:={ s with heap:=h',toks:=s.toks+1 }) e c d 0#1 ⟨.str ⟨#[z.cps[i]]⟩,H,I1,⟨_,rfl⟩,⟨rfl,_,by simp[hg'],rfl⟩,st',λb hb=>(hf b hb).1⟩⟩
 done:=by
  intro X hP hw hK hc i π s σ H E I hf st hg;subst hP hw hK;have hg':z.cps.size<=i:=hg;obtain⟨f0,f1,f2,f3,f4,f5⟩:=hf it 0#3;exact wpAny_pyNext_wide_end (I.ok.hd hc) st (by simp[hg']) λh' eb=>⟨rfl,I.turned (t':=s.toks) (λb o hb e=>eb b o hb e) f0 f1 f3 f4 f5⟩
 self:=λ_ _ _ _ _ st h=>wpAny_pyIter_striter_wide st h
def TL(b:TE):TI:=λa H R=>b a H λx c=>∃z,x=.str z/\R (Ub z) c
def OH(u:PE X l m):PI X tg l (TL m):=by
 intro g s j H R I h;refine cM (u g s j H _ I h) λv a ⟨x,f,d,p,r⟩=>?_;obtain⟨z,rfl,q⟩:=r;obtain⟨t,rfl⟩:=p;have c:∀b∈[2#a],rn X g f b:=λb w=>by
  have e:b=2#a:=by simpa using w
  subst e;exact d.fpOk (VB _)<|d.hok.fresh<|VB _
 cases i:z.cps.all (· < 128) with|false=>exact wpAny_pyIter_wide i ⟨2#a,[2#a],_,_,f,rfl,d.kept (t':=a.toks) λb o e=>Vc _ e,E3 z t _,⟨_,V1 _ rfl,rfl,rfl⟩,c,q⟩|true=>exact wpAny_pyIter_ascii i ⟨2#a,[2#a],_,_,f,rfl,d.kept (t':=a.toks) λb o e=>Vc _ e,Cc z t _,⟨_,V1 _ rfl,rfl,rfl⟩,c,q⟩
def lB(z:Vq):ac:=z.cps.toList.map λc=>.str ⟨#[c]⟩
def nu(z:Vq):(lB z).length=z.cps.size:=by unfold lB;simp
section
variable {X:Cx}{E:XK}
def Ri(K:Va):am->Hp->VK->Prop:=λxs H Q=>∃(p:Vi) (bs:List Bool),xs=[.ref p]/\fm K H p (bs.map V.bl)/\Q (.bl<|bs.all id) H
theorem yA:∀bs:List Bool,(Ws bs.length).all (λi=>bs.getD i Vd)=bs.all id
 |[]=>rfl
 |b::r=>by
  rw[Vp,Y6,X8,sao,X8,←yA r];rfl
def wu(B:X.calm=VO):ku X (.builtin "all") (Ri X.K):=by
 intro L s J H xs M Q I r h;obtain⟨p,bs,rfl,y,q⟩:=h;obtain⟨u,rfl,n⟩:=tU r;cases n;obtain⟨a,j,pl,T⟩:=I.list y;have hlen:=j.length;rw[U8]at hlen;have g:p≠2#s:=VM pl.lt;refine call_all_walk<|wpAny_pyIter_list pl.isList ?_;have f:(s.heap.push { cls:=.type "list_iterator",data:=.fields #[.ref p,.int 0 0] }).IsList p a.toArray:=by
  obtain⟨o,t,k2⟩:=pl.isList;exact⟨o,Vc _ t,k2⟩
 refine⟨2#s,_,_,_,_,_,λi=>bs.getD i Vd,rfl,Walks.list (A:=X.A.in1) (I.ok.hd B) 2#s p g a.toArray,⟨⟨_,V1 _ rfl,rfl,rfl⟩,f⟩,?_,λY m z=>?_⟩
 .intro i v O Q' E' x C
  have c:a[i]?=Wp v:=by simpa using x
  have U:i<a.length:=(Vn.mp c).1;obtain⟨w,l,G⟩:=j.get (show(bs.map V.bl)[i]?=Wp (V.bl<|bs.getD i Vd) by
   rw[Vh,U7<|by omega];simp[List.getD,U7 (show i<bs.length by omega)])
  rw[c]at l;cases l;obtain rfl:v=WT _:=G;exact WX C
 .have d:(Ws a.toArray.size).all (λi=>bs.getD i Vd)=bs.all id:=by
   rw[Vx,←hlen];exact yA bs
  rw[d];exact⟨.bl _,H,I.kept (t':=m) (λb o e=>z b o (by simp only[VL];exact VM<|Vw e)<|Vc _ e),rfl,q⟩
def fw:ac->Option (List Bool)
 |[]=>Wp []
 |.bl b::r=>(fw r).map (b::·)
 |_=>Wb
theorem yq{K:Va}{H:Hp}:∀{ds:ac}{bs:List Bool}{vs:am},fw ds=Wp bs->Reps K H ds vs->vs=bs.map V.bl
 |[],bs,vs,h,r=>by cases h;exact Reps.nil_iff.mp r
 |d::ds,bs,vs,h,r=>by
  obtain⟨v,f,rfl,b,a⟩:=az.mp r;cases d with
  |bl x=>
   unfold fw at h;cases e:fw ds with
   |none=>rw[e]at h;cases h
   |some c=>
    rw[e]at h;cases h;rw[aF.mp b,yq e a];rfl
  |_=>cases h
def p8(x:D):aw D:=match x with
 |.lst a=>match fw a with
  |some bs=>.ok<|.bl<|bs.all id
  |none=>.stuck
 |_=>.stuck
def Dm:k8 X E (Ri X.K) (m1 p8):=wx λx v H g Q a r q=>by
 cases x with
 |lst d=>
  unfold p8 at q;obtain⟨p,f,rfl,c,b⟩:=aA.mp r;cases e:fw d with
  |none=>simp only[e]at q;exact q.elim
  |some bs=>
   simp only[e]at q;exact⟨p,bs,rfl,by rw[←yq e b];exact aD.sqL a c,bL a q<|rb _⟩
 |_=>exact q.elim
end
end DL
local macro_rules|`($n:num#0)=>`(DL.dC (.int $n))|`($_:num#$x:str)=>`(DL.dC (.str $x))|`($_:num#4)=>`(DL.dC .non)|`($n:num#6)=>`(DL.af $n)|`($n:num#7)=>`(DL.dv $n)
namespace L2
open PySem PySem.Spec PyProof.Rows
section
variable {κ:Type}[DecidableEq κ]
def sD(a:List<|κ×V)(k:κ):Option V:=(a.find? λb=>decide (b.1=k)).map (·.2)
def jY(a:List<|κ×V)(k:κ)(v:V):List (κ×V) :=
 if(a.any λb=>decide (b.1=k))=VO then a.map (λb=>if b.1=k then(b.1,v) else b) else a++[(k,v)]
def og{p:κ×V}{r:List<|κ×V}{k:κ}(e:p.1=k):sD (p::r) k=Wp p.2:=by simp[sD,Yb,e]
def lq{p:κ×V}{r:List<|κ×V}{k:κ}(e:¬p.1=k):sD (p::r) k=sD r k:=by simp[sD,Yb,e]
theorem An(k:κ):∀a:List<|κ×V,(a.any λb=>decide (b.1=k))=(sD a k).isSome
 |[]=>rfl
 |p::r=>by
  rw[XO]
  by_cases e:p.1=k
  .simp only[og e,dV e,Bool.true_or,Option.isSome_some]
  .rw[lq e,en e,Z7];exact An k r
def lL(a:List<|κ×V)(k:κ)(v:V):(jY a k v).length<=a.length+1:=by
 unfold jY;split
 .rw[U8];omega
 .rw[Vs,Vp,W7];omega
def wJ.isSome_eq(r:wJ o u):o.isSome=u.isSome:=by
 cases o with
 |none=>cases u with
  |none=>rfl
  |some _=>exact(show False from r).elim
 |some _=>cases u with
  |none=>exact(show False from r).elim
  |some _=>rfl
def KV.val{a:List<|κ×V}{vs:List<|κ×U5}(r:KV a vs)(k:κ):wJ (sD a k) (valueAt vs k):=by
 unfold KV at r
 induction r with
 |nil=>exact WJ
 |@cons p q ps c h t g=>
  obtain⟨f,i⟩:=h
  by_cases e:p.1=k
  .have d:q.1=k:=f.symm.trans e
   have b:valueAt (q::c) k=Wp q.2:=by simp[valueAt,Yb,d]
   rw[og e,b];exact i
  .have d:¬q.1=k:=λz=>e (f.trans z)
   have b:valueAt (q::c) k=valueAt c k:=by simp[valueAt,Yb,d]
   rw[lq e,b];exact g
def KV.any{a:List (κ×V)}{vs:List (κ×U5)}(r:KV a vs)(k:κ):(a.any λb=>decide (b.1=k))=vs.any λb=>decide (b.1=k):=by
 unfold KV at r
 induction r with|nil=>rfl|cons h t c=>rw[XO,XO,c,h.1]
def KV.repl{b:List<|κ×V}{vs:List<|κ×U5}(r:KV b vs)(k:κ){y:V}{u:U5}(d:bw y u) :
  KV (b.map λa=>if a.1=k then(a.1,y) else a) (vs.map λa=>if a.1=k then(a.1,u) else a):=by
 unfold KV at r ⊢
 induction r with
 |nil=>exact .nil
 |@cons p q ps i h t f=>
  rw[Vf,Vf];refine .cons ?_ f;obtain⟨c,g⟩:=h
  by_cases e:p.1=k
  .rw[ef e,ef<|c.symm.trans e];exact⟨c,d⟩
  .rw[eo e,eo<|λz=>e<|c.trans z];exact⟨c,g⟩
def KV.put{a:List<|κ×V}{vs:List<|κ×U5}(r:KV a vs)(k:κ){y:V}{u:U5}(b:bw y u):KV (jY a k y) (stored vs k u):=by
 unfold jY stored;rw[r.any k]
 by_cases e:(vs.any λc=>decide (c.1=k))=VO
 .rw[ef e,ef e];exact r.repl k b
 .rw[eo e,eo e];exact Paired.snoc r ⟨rfl,b⟩
def KV.length{a:List<|κ×V}{vs:List<|κ×U5}(r:KV a vs):a.length=vs.length:=Z5 r
end
def x9{k:iV}(r:bw (kV k) u):(dI P w).is k u=VO:=by
 cases k with|inl i=>obtain⟨t,e⟩:=(show ∃t,u=Xb i t from r);subst e;exact AY P w i t|inr x=>obtain⟨t,e⟩:=(show ∃t,u=Xa x t from r);subst e;exact AX P w x t
theorem ya:∀{ks:List iV}{a:List U5},bh (ks.map kV) a->ItemsAre (dI P w) ks a
 |[],_,r=>by rw[Xg]at r;cases r;exact .nil
 |k::ks,_,r=>by
  rw[Vf]at r;cases r with|cons h t=>exact .cons (x9 h)<|ya t
abbrev KT(H:Hp):List (List iV×V)->List (List iV×Vi×U5)->Prop:=Paired λp q=>p.1=q.1/\H q.2.1=Wp (.tup<|p.1.map kV)/\bw p.2 q.2.2
def KT.val(r:KT H c xs)(k:List iV):wJ (sD c k) ((atKey xs k).map (·.2)):=by
 induction r with
 |nil=>exact WJ
 |@cons p q ps a h t g=>
  obtain⟨f,_,i⟩:=h
  by_cases e:p.1=k
  .have d:q.1=k:=f.symm.trans e
   have b:atKey (q::a) k=Wp q.2:=by simp[atKey,Yb,d]
   rw[og e,b];exact i
  .have d:¬q.1=k:=λz=>e (f.trans z)
   have b:atKey (q::a) k=atKey a k:=by simp[atKey,Yb,d]
   rw[lq e,b];exact g
def KT.repl(r:KT H b xs)(k:List iV)(f:bw y u) :
  KT H (b.map λc=>if c.1=k then(c.1,y) else c) (xs.map<|putAt k u):=by
 induction r with
 |nil=>exact .nil
 |@cons p q ps j h t g=>
  rw[Vf,Vf];refine .cons ?_ g;obtain⟨a,d,i⟩:=h;unfold putAt
  by_cases e:p.1=k
  .rw[ef e,ef<|a.symm.trans e];exact⟨a,d,f⟩
  .rw[eo e,eo<|λz=>e<|a.trans z];exact⟨a,d,i⟩
def KT.put(r:KT H a xs)(k:List iV)(f:H b=Wp (.tup<|k.map kV))(c:bw y u) :
  KT H (jY a k y) (storedH xs k b u):=by
 have e:(a.any λd=>decide (d.1=k))=(atKey xs k).isSome:=by
  rw[An,(r.val k).isSome_eq,Zy]
 unfold jY storedH;rw[e]
 by_cases q:(atKey xs k).isSome=VO
 .rw[ef q,ef q];exact r.repl k c
 .rw[eo q,eo q];exact Paired.snoc r ⟨rfl,f,c⟩
def KT.keeps(r:KT H a xs)(d:∀b c,H b=Wp (.tup c)->H' b=Wp (.tup c)):KT H' a xs :=
 ml r λ_ _ z=>⟨z.1,d _ _ z.2.1,z.2.2⟩
section
variable {P:V5}{w:Wx}{H:Hp}{h:Vu}{a:Vi}
def Nq(ok:fJ P w H h)(e:Rd H a u):bV P w H h a u:=e.ok ok
def BC(ok:fJ P w H h)(e:Rd H a<|.dK b):b.length<=sizeLine/\(a==XD)=Vd/\∃vs,KV b vs/\h.DictOf (dI P w) a vs :=
 show bV P w H h a (.dK b) from Nq ok e
def NG(ok:fJ P w H h)(e:H a=Wp (.dK b)):b.length<=sizeLine/\(a==XD)=Vd/\∃vs,KV b vs/\h.DictOf (dI P w) a vs:=BC ok<|.inl e
def uQ(ok:fJ P w H h)(e:H a=Wp (.tup<|ks.map kV)):(tupleKind<|dI P w).is h ks a:=by
 obtain⟨_,b,r,o,f,d,n,c⟩:=(show bV P w H h a (.tup<|ks.map kV) from ok a _ e)
 exact⟨o,b.toArray,n,f,d,c,by simpa using ya r⟩
def Bx(ok:fJ P w H h)(e:Rd H a<|.dT b):b.length<=sizeLine/\(a==XD)=Vd /\
  ∃xs,KT H b xs/\h.DictOfH (tupleKind<|dI P w) a xs:=by
 obtain⟨z,y,xs,r,o,u,v,s,n,j,i,g⟩:=(show bV P w H h a (.dT b) from Nq ok e)
 refine⟨z,y,xs,r,o,u,v,s,n,j,i,λx c=>?_,g⟩;have all:∀{l:List<|List iV×V}{m:List<|List iV×Vi×U5},KT H l m->∀x∈m,(tupleKind<|dI P w).is h x.1 x.2.1:=by
  intro l m q
  induction q with
  |nil=>intro x c;exact nomatch c
  |@cons p q ps A d t f=>
   intro x c;rcases Vl.mp c with e|c
   .subst e
    exact uQ ok (by rw[←d.1];exact d.2.1)
   .exact f x c
 exact all r x c
def RY(ok:fJ P w H h)(e:H a=Wp (.dT b)):b.length<=sizeLine/\(a==XD)=Vd /\
  ∃xs,KT H b xs/\h.DictOfH (tupleKind<|dI P w) a xs:=Bx ok<|.inl e
end
def Ab(H:Hp)(a:Vi)(y:V)(r:Option V):Prop :=
 (∃c k,Rd H a (.dK c)/\y=kV k/\r=sD c k)∨∃c k b,Rd H a (.dT c)/\y=.ref b/\H b=Wp (.tup<|k.map kV)/\r=sD c k
noncomputable def Gu(H:Hp) (a:Vi) (y v:V) (H':Hp):Prop :=
 (∃c k,H a=Wp (.dK c)/\y=kV k/\c.length<sizeLine/\H'=upd H a (.dK<|jY c k v)) ∨
 ∃c k b,H a=Wp (.dT c)/\y=.ref b/\H b=Wp (.tup<|k.map kV)/\c.length<sizeLine/\H'=upd H a (.dT<|jY c k v)
theorem Gu.k{k:iV}(e:H a=Wp (.dK b))(c:b.length<sizeLine):Gu H a (kV k) v (upd H a<|.dK<|jY b k v):=.inl ⟨b,k,e,rfl,c,rfl⟩
section
variable {X:Cx}{π:List (Vi×Obj)}{σ:St}{H:Hp}{s:Vm}{a:Vi}{y v:V}{u r:U5}{o:Option V}{A:Wh}{E:U5->Vm->Prop}
def Inv.big(I:Inv X π σ H s):XD<2#s:=by
 have h:Vz<2#s:=(I.mod.glob.keeps I.bk).lt;exact Nat.lt_trans 0#1 h
def F2(x:A.units+1<Xu)(I:Inv X π σ H s)(g:Ab H a y<|Wp v)(q:bw y u)(h:∀f s',Inv X π σ H s'->bw v f->Q f s') :
  VC 4#X A (getItem (.ref a) u) Q E s:=by
 rcases g with⟨i,k,e,m,l⟩|⟨i,k,b,e,m,C,l⟩
 .subst m
  obtain⟨z,hd,t,d,n⟩:=BC I.hok e;obtain⟨f,hw,c⟩:=iL (v:=v) (o:=valueAt t k) (by rw[l];exact d.val k);exact wpAny_getItem_of (x9 q) n.mapOf hw<|h f _ (I.tok _) c
 .subst m
  cases (show u=VG b from q);obtain⟨z,hd,xs,d,n⟩:=Bx I.hok e;obtain⟨f,hw,c⟩:=iL (v:=v) (o:=(atKey xs k).map (·.2)) (by rw[l];exact d.val k);obtain⟨p,B,j⟩:=Yn.mp hw;refine wpAny_getItem_heap (tupleKind_room_in1 x) (uQ I.hok C) n B ?_;rw[j];exact h f _ (I.tok _) c
def TZ(m:A.units+1<Xu)(I:Inv X π σ H s)(g:Ab H a y o)(j:bw y u)(h:∀s',Inv X π σ H s'->Q (.bool o.isSome) s') :
  VC 4#X A (Wf .In u<|.ref a) Q E s:=by
 rcases g with⟨d,k,e,f,l⟩|⟨d,k,b,e,f,n,l⟩
 .subst f
  obtain⟨z,hd,p,c,i⟩:=BC I.hok e;refine wpAny_in_of (x9 j) hd i.mapOf ?_;rw[←(c.val k).isSome_eq,←l];exact h _<|I.tok _
 .subst f
  cases (show u=VG b from j);obtain⟨z,hd,xs,c,i⟩:=Bx I.hok e;refine wpAny_in_heap (tupleKind_room_in1 m) (uQ I.hok n) hd i ?_;have q:=(c.val k).isSome_eq;rw[Zy]at q;rw[←q,←l];exact h _<|I.tok _
def Mv(m:A.units+1<Xu)(I:Inv X π σ H s)(g:Ab H a y o)(j:bw y u)(h:∀s',Inv X π σ H s'->Q (.bool (!o.isSome)) s') :
  VC 4#X A (Wf .NotIn u<|.ref a) Q E s:=by
 rcases g with⟨d,k,e,f,l⟩|⟨d,k,b,e,f,n,l⟩
 .subst f
  obtain⟨z,hd,p,c,i⟩:=BC I.hok e;refine wpAny_notIn_of (x9 j) hd i.mapOf ?_;rw[←(c.val k).isSome_eq,←l];exact h _<|I.tok _
 .subst f
  cases (show u=VG b from j);obtain⟨z,hd,xs,c,i⟩:=Bx I.hok e;refine wpAny_notIn_heap (tupleKind_room_in1 m) (uQ I.hok n) hd i ?_;have q:=(c.val k).isSome_eq;rw[Zy]at q;rw[←q,←l];exact h _<|I.tok _
def zO(I:Inv X π σ H s)(c:Qg<|H a)(d:X4 a s.heap h')(f:∃q,h'.get? a=Wp q)(new:bV X.prog X.w (upd H a ob) h' a ob) :
  Inv X π σ (upd H a ob) { s with heap:=h',toks:=t' } :=
 I.write (x:=a) (e:=a) c (.inl rfl) (λb q g z=>(d.2 b g).trans z) f new
def JF(z:b.length<=sizeLine)(hd:(a==XD)=Vd)(c:KV b vs)(dd:h'.DictOf (dI P w) a vs) :
  bV P w H' h' a (.dK b):=⟨z,hd,vs,c,dd⟩
def F1(T:A.units+1<Xu)(I:Inv X π σ H s)(g:Gu H a y v H')(G:bw y u)(J:bw v r)(h:∀s',Inv X π σ H' s'->Q () s') :
  VC 4#X A (setItem (.ref a) u r) Q E s:=by
 rcases g with⟨f,k,e,x,l,B⟩|⟨f,k,b,e,x,N,l,B⟩
 .subst x B
  obtain⟨z,hd,O,d,C⟩:=NG I.hok e;have m:O.length<=sizeLine:=by rw[←d.length];exact z
  have t:(jY f k v).length<=sizeLine:=by have:=lL f k v;omega
  refine wpAny_setItem_pairs (hsz:=m) (x9 G) C λL i p=>h _ ?_;have U:∃q,L.get? a=Wp q:=let ⟨q,_,_,j,_⟩:=i;⟨q,j⟩;exact zO I (by rw[e];exact WJ) p U<|JF t hd (d.put k J) i
 .subst x B
  cases (show u=VG b from G);obtain⟨z,hd,xs,d,C⟩:=RY I.hok e;have m:xs.length<=sizeLine:=by rw[←Z5 d];exact z
  have t:(jY f k v).length<=sizeLine:=by have:=lL f k v;omega
  refine wpAny_setItem_heap (hsz:=m) (tupleKind_room_in1 T) (uQ I.hok N) C λL i p=>h _ ?_;obtain⟨q,es,ep,j,h2,h3,h4,_,Y⟩:=i;refine zO I (by rw[e];exact WJ) p ⟨q,j⟩ ⟨t,hd,_,(d.put k N J).keeps λc ys M=>?_,q,es,ep,j,h2,h3,h4,Y⟩;rw[ay (RE M e<|λz=>nomatch z)];exact M
end
def Qe(i:V4):Prop:=∀a b,subscripted i Vd a b=operate [a,b] (getItem a b)
def KY{T id:String} 
  (j:XY (.type T) "__getitem__"=pure (Wp<|.builtin id))(g:Qe slice)
  (h:VC (Vy prog w) A (eval value env) (λo e=>VC (Vy prog w) A (eval slice env) (λi b=>b.TypeIs o T/\VC (Vy prog w) A (getItem o i) Q E b) E e) E s) :
  VC (Vy prog w) A (eval (.Subscript value slice pos) env) Q E s:=by
 refine Subscript_<|Wj h (λo e a=>Wj a (λi b c=>?_) λ_ _ x=>x) λ_ _ x=>x;obtain⟨f,c⟩:=c;unfold subscriptTail;refine Vb ?_;rw[getitemInPython_of_ne f.not_modules];refine Vb<|wpAny_specialOf f j ?_;have fin:VC (Vy prog w) A (subscripted slice Vd o i) (λr d=>VC (Vy prog w) A (letTemporaryGo value o r >>= λ_=>pure r) Q E d) E b:=by
  rw[g o i];exact wpAny_operating<|Wj c (λr d l=>Vb (wpAny_letTemporaryGo (VE l))) λ_ _ x=>x
 first
  |exact VE<|Vb fin
  |exact Vb<|VE<|Vb fin
  |exact Vb fin
def BE(I:Inv X i f H s)(g:Ab H a y o):s.TypeIs (.ref a) "dict":=by
 rcases g with⟨c,k,e,_,_⟩|⟨c,k,b,e,_,_,_⟩
 .obtain⟨_,_,j,_,d⟩:=BC I.hok e
  exact d.typeIs
 .obtain⟨_,_,xs,_,d⟩:=Bx I.hok e
  exact d.typeIs
def QR(d ty:TE):TE:=λb H Q=>d b H λx e=>ty b e λy c=>∃a v,x=.ref a/\Ab c a y (Wp v)/\Q v c
def Q2(e ty d:TE):TS:=λD b H=>d b H λv i=>e b i λx g=>ty b g λy f=>∃a c,x=.ref a/\Gu f a y v c/\D.nx b c
section
variable {X:Cx}{o i e value:V4}{pos pos' tpos:Pos}{td ty tv:TE}
def Lw(q:X.A.units+1<Xu)(t:PE X o td)(hi:PE X i ty)(r:Qe i):PE X (.Subscript o i pos) (QR td ty):=by
 intro d s c H Q I h;refine KY PySem.F.slot_dict_getitem.lookup r<|cM (t d s c H _ I h) λu j ⟨x,E,B,m,p⟩=>cM (hi d j c E _ B p) λM L z9=>?_;obtain⟨y,C,f,l,a,v,w,g,n⟩:=z9;subst w;obtain rfl:u=VG a:=m;exact⟨BE f g,F2 q f g l λG J z b=>⟨v,C,z,b,n⟩⟩
def Lh(w:X.A.units+1<Xu)(B:PE X o td)(hi:PE X i ty)(t:PE X value tv)(z:WI value (Wp<|.Subscript o i pos') pos.line X.env=pure Vd) :
  PS X (.Assign [.Subscript o i pos'] value pos) (Q2 td ty tv):=by
 intro c s b H D I h;refine wpAny_Assign_Subscript (cM (t c s b H _ I h) λr f ⟨v,O,L,m,q⟩=>cM (B c f b O _ L q) λu d ⟨x,N,J,l,p⟩=>cM (hi c d b N _ J p) λU T z9=>?_) z;obtain⟨y,Y,G,j,a,M,C,g,n⟩:=z9;subst C;obtain rfl:u=VG a:=l;exact F1 w G g j m λQ E=>⟨b,M,E,n⟩
end
def BD(h:Vu)(a:XD<h.objs.size):bV P w H (h.push { cls:=.type "dict",data:=.dict #[] }) h.objs.size (.dK []) :=
 ⟨Yj _,beq_eq_false_iff_ne.mpr<|V6<|VM a,[],.nil,Heap.DictOf.new h⟩
def Od:TE:=λ_ H Q=>∀p,H p=Wb->Q (.ref p) (upd H p<|.dK [])
section
variable {X:Cx}{pos:Pos}
def Ik:PE X (.Dict [] [] pos) Od:=λc s b H Q I h=>
 wpAny_Dict_empty ⟨.ref 2#s,_,I.laid (a:=2#s) (o:=.dK []) (t':=s.toks) (λ_ _ q=>Vc _ q) (VB _)<|BD s.heap I.big,rfl,h _<|I.hok.fresh<|VB _⟩
end
def Ce:List (TE×TE)->St->Hp->(List (V×V)->Hp->Prop)->Prop
 |[],_,H,Q=>Q [] H
 |(c,b)::r,a,H,Q=>c a H λx f=>b a f λy e=>Ce r a e λps d=>Q ((x,y)::ps) d
abbrev VV:List (V×V)->List (U5×U5)->Prop:=Paired λp q=>bw p.1 q.1/\bw p.2 q.2
noncomputable def SN(X:Cx) (pos:Pos) (keys:List<|Option V4) (values:List V4) (b:List<|TE×TE):Prop :=
 ∀(c:List<|Vi×Obj) (s:Vm) (a:St) (H:Hp) (Q:List (V×V)->Hp->Prop),Inv X c a H s->Ce b a H Q ->
  VC 4#X X.A (evalPairs<|pairTrees keys values X.env pos) (λe f=>∃ps d,Inv X c a d f/\VV ps e/\Q ps d) X.xe s
def Li:SN X pos [] [] []:=λb s a H Q I h=>pairTrees_nil_walk ⟨[],H,I,.nil,h⟩
def HX{k v:V4}(r:PE X k f)(p:PE X v e)(q:SN X pos ks vs c) :
  SN X pos (Wp k::ks) (v::vs) ((f,e)::c):=λb s a H Q I h=>
 pairTrees_cons_walk (cM (r b s a H _ I h) λu i ⟨x,C,z,l,o⟩=>cM (p b i a C _ z o) λG g ⟨y,B,w,j,n⟩ =>
  cM (q b g a B _ w n) λE J ⟨ps,A,t,d,m⟩=>⟨(x,y)::ps,A,t,.cons ⟨l,j⟩ d,m⟩)
def uH(a more:List<|iV×V):List (iV×V):=more.foldl (λb c=>jY b c.1 c.2) a
def KV.merge:∀{more:List<|iV×V}{rs:List<|iV×U5}{a:List<|iV×V}{vs:List<|iV×U5},KV more rs->KV a vs->KV (uH a more) (merged vs rs):=by
 intro more rs a vs r;unfold KV at r
 induction r generalizing a vs with
 |nil=>intro q;exact q
 |@cons p q ps d h t c=>
  intro b;have e:KV (jY a p.1 p.2) (stored vs q.1 q.2):=by
   have:=b.put p.1 h.2;rw[←h.1];exact this
  exact c e
theorem nh:∀(more a:List<|iV×V),(uH a more).length<=a.length+more.length
 |[],a=>by show a.length<=a.length+0;omega
 |p::r,a=>by
  have c:=nh r<|jY a p.1 p.2;have b:=lL a p.1 p.2;show(uH (jY a p.1 p.2) r).length<=_;rw[Vp];omega
theorem wq:∀{d:List<|iV×V}{ws:List<|U5×U5},VV (d.map λe=>(kV e.1,e.2)) ws->∃rs,Carries (dI P w) ws rs/\KV d rs
 |[],_,r=>by rw[Xg]at r;cases r;exact⟨[],WJ,.nil⟩
 |p::d,_,r=>by
  rw[Vf]at r;cases r with
  |@cons a b i bs h t=>
   obtain⟨rs,c,q⟩:=wq (P:=P) (w:=w) t;obtain⟨g,f⟩:=b;exact⟨(p.1,f)::rs,⟨x9 h.1,rfl,c⟩,.cons ⟨rfl,h.2⟩ q⟩
def QQ(b:List<|TE×TE):TE:=λe H Q=>∀p,H p=Wb->Ce b e (upd H p (.dK [])) λps d=>d p=Wp (.dK [])/\∃a:List<|iV×V,ps=a.map (λc=>(kV c.1,c.2))/\a.length<=15/\Q (.ref p) (upd d p<|.dK<|uH [] a)
def Lv(h:SN X pos keys values g)(d:keys.all (·.isSome)=VO)(G:keys.length=values.length)(M:keys≠[])
  (j:keys.length<=15):PE X (.Dict keys values pos) (QQ g):=by
 intro p s n H Q I q;have E:=I.hok.fresh<|VB 2#s;have T:=I.laid (a:=2#s) (o:=.dK []) (h':=s.heap.push { cls:=.type "dict",data:=.dict #[] }) (t':=s.toks) (λ_ _ q=>Vc _ q) (VB _)<|BD s.heap I.big;refine wpAny_Dict_walk (knd:=dI X.prog X.w) d G M j<|cM (h p _ n _ _ T (q _ E)) λU s2 ⟨ps,H2,m,i,e,b,N,lk,x⟩=>?_;subst N;obtain⟨t,c,u⟩:=wq (P:=X.prog) (w:=X.w) i;obtain⟨z,hd,r,v,O⟩:=NG m.hok e;cases v;refine⟨t,c,O,λl f B=>⟨.ref 2#s,_,?_,rfl,x⟩⟩;have A:(uH [] b).length<=sizeLine:=by
  have L:=nh b [];rw[W7]at L;rw[sizeLine_eq];omega
 have J:∃q,l.get? 2#s=Wp q:=let ⟨q,_,_,C,_⟩:=f;⟨q,C⟩;exact zO m (by rw[e];exact WJ) B J<|JF A hd (u.merge .nil) f
end L2
namespace DL
open PySem PySem.Spec PyProof.Rows L2
def BW{K:Va}:Rep K H (.dic ks ds) v↔∃a b vs,v=.ref a/\Rd H a (.dK b)/\b=(ks.map Wr).zip vs/\ks.length=vs.length/\Reps K H ds vs:=by rw[Rep]
section
variable {X:Cx}{E:XK}{e:V4}{f:bv}{pos p1:Pos}
def zM:DE X E (.Dict [] [] pos) (dC<|.dic [] []):=by
 refine⟨?_⟩;refine bc Ik λc H Q ⟨i,d,a,g,q⟩ p b=>?_;exact q _ _ _ (aR a b)<|BW.mpr ⟨p,[],[],rfl,.inl aC,rfl,rfl,Reps.nil⟩
def dOne(x:Vq)(d:D):aw D:=.ok<|.dic [x] [d]
end
def jR(cells:List<|Vq×Vi):List (Vq×W2)->List (Vq×Vi)->List (Vq×Vi)
 |[],a=>a
 |(n,k)::r,a=>if(k==Xo)=VO then jR cells r ((n,(cells.lookup n).getD 0)::a) else jR cells r a
def xw(h:∀x∈scope.names,x.2=.free->∃c,env.cells.lookup x.1=Wp c):closureFor scope env=pure (jR env.cells scope.names []):=by
 simp only[closureFor];have key:∀(names:List<|Vq×W2) (a:List<|Vq×Vi),(∀x∈names,x.2=.free->∃c,env.cells.lookup x.1=Wp c) ->
   (forIn names a λ(x:Vq×W2) (z:List (Vq×Vi))=>
      if(x.snd==Xo)=VO then do
       let y ←cellOf env x.fst
       pure (Yd ((x.fst,y)::z))
      else(pure (Yd z):Sem _))=pure (jR env.cells names a):=by
  intro names
  induction names with
  |nil=>intro a _;rfl
  |cons x r g=>
   intro a f;obtain⟨n,k⟩:=x;rw[List.forIn_cons]
   by_cases d:(k==Xo)=VO
   .obtain⟨c,i⟩:=f (n,k) Ve (by simpa using d)
    have b:cellOf env n=pure c:=by unfold cellOf;rw[show env.cells.lookup n=Wp c from i]
    simp only[d,eP];rw[b];have:=g ((n,c)::a)<|λy e=>f y<|U9 _ e;rw[show jR env.cells ((n,k)::r) a=jR env.cells r ((n,c)::a) by
     show(if(k==Xo)=VO then _ else _)=_;rw[ef d,show env.cells.lookup n=Wp c from i];rfl]
    rw[←this];rfl
   .have:=g a (λy e=>f y<|U9 _ e)
    rw[eo d];rw[show jR env.cells ((n,k)::r) a=jR env.cells r a by
     show(if(k==Xo)=VO then _ else _)=_;rw[eo d]]
    rw[←this];rfl
 rw[key _ _ h];rfl
theorem wk{cells:List<|Vq×Vi}:∀{names:List<|Vq×W2}{acc:List<|Vq×Vi}{x:Vq}{c:Vi},(∀y∈names,y.2=.free->∃c,cells.lookup y.1=Wp c) ->
  (jR cells names acc).lookup x=Wp c->acc.lookup x=Wp c∨cells.lookup x=Wp c
 |[],acc,x,c,_,h=>.inl h
 |(n,k)::r,acc,x,c,f,h=>by
  unfold jR at h
  by_cases b:(k==Xo)=VO
  .rw[ef b]at h
   obtain⟨d,hd⟩:=f (n,k) Ve (by simpa using b);rcases wk (λy a=>f y<|U9 _ a) h with h|h
   .rw[V7]at h
    cases e:x==n with
    |true=>
     rw[e]at h;rw[show cells.lookup n=Wp d from hd]at h;cases h;rw[eq_of_beq e];exact .inr hd
    |false=>rw[e]at h;exact .inl h
   .exact .inr h
  .rw[eo b]at h
   exact wk (λy a=>f y<|U9 _ a) h
theorem rL{a:Type}:∀{l:List<|Vq×a},(∃v,(x,v)∈l)->∃v,l.lookup x=Wp v
 |[],⟨v,h⟩=>by cases h
 |(n,w)::r,⟨v,h⟩=>by
  rw[V7];cases e:x==n with
  |true=>exact⟨w,rfl⟩
  |false=>
   rcases Vl.mp h with h|h
   .cases h;simp at e
   .exact rL ⟨v,h⟩
theorem wo:∀{names:List<|Vq×W2}{acc:List<|Vq×Vi},(x,c)∈acc->(x,c)∈jR cells names acc
 |[],acc,h=>h
 |(n,k)::r,acc,h=>by
  unfold jR
  by_cases a:(k==Xo)=VO
  .rw[ef a];exact wo<|U9 _ h
  .rw[eo a];exact wo h
def wm:∀{names:List<|Vq×W2}{acc:List<|Vq×Vi},(x,Xo)∈names->∃c,(jR cells names acc).lookup x=Wp c:=by
 intro names
 induction names with
 |nil=>intro acc h;cases h
 |cons y r a=>
  intro acc h;obtain⟨n,k⟩:=y;unfold jR;rcases Vl.mp h with h|h
  .cases h
   rw[ef (by rfl)];exact rL ⟨_,wo Ve⟩
  .by_cases b:(k==Xo)=VO
   .rw[ef b];exact a h
   .rw[eo b];exact a h
noncomputable def fO(X:Cx) (N:cr) (scope:Yt) (s:Vm) (H:Hp) (C:Vi) (a:List Vi) (pn:List<|Vi×Obj):Cx :=
 { X with N:=N,sf:=s,Ha:=H,env:=compEnvC scope (jR X.env.cells scope.names []) C X.env,outer:=X.stack,stack:=X.stack,ex:=a,fn:=λ_=>Vd,pn:=pn,xe:=λ_ _=>False }
def qg(n:Nat)(fr:db)(a:L2.St):L2.St:=Vt n Wb++fr.map λ(i:Nat)=>(a[i]?).getD Wb
noncomputable def Kh(X:Cx) (N:cr) (n:Nat) (fr:db) (scope:Yt):Prop :=
 N.length=n+fr.length/\((N.drop n).zip fr).all (λp=>X.N[p.2]?==Wp p.1&&X.env.scope.names.lookup p.1==Wp .cell&&scope.names.lookup p.1==Wp .free&&(relabel scope X.env).names.lookup p.1==Wp .cell)=VO
theorem Kh.at{fr:db}(h:Kh X N n fr scope){k:Nat}(g:N[k]?=Wp x)(a:(qg n fr d)[k]?=Wp (Wp v)) :
  ∃i:Nat,X.N[i]?=Wp x/\d[i]?=Wp (Wp v)/\X.env.scope.names.lookup x=Wp .cell/\scope.names.lookup x=Wp .free/\(relabel scope X.env).names.lookup x=Wp .cell:=by
 unfold qg at a
 by_cases b:k<n
 .rw[VA (by simpa using b),VY,ef b]at a
  cases a
 .rw[VF (by simpa using b),V3,Vh]at a
  cases c:fr[k-n]? with
  |none=>rw[c]at a;cases a
  |some i=>
   rw[c]at a;have f:((N.drop n).zip fr)[k-n]?=Wp (x,i):=by
    rw[List.getElem?_zip_eq_some];exact⟨by rw[WU,show n+(k-n)=k by omega];exact g,c⟩
   have:=V2.mp h.2 _<|VQ f;simp only[Vv,beq_iff_eq]at this;refine⟨i,this.1.1.1,?_,this.1.1.2,this.1.2,this.2⟩;simp only[Ya,Xj]at a;cases e:d[i]? with|none=>rw[e]at a;cases a|some u=>rw[e]at a;exact ew Wp a
noncomputable def Si(X:Cx) (b:List V4) (t:TT):Prop :=
 ∀(d:List<|Vi×Obj) (s:Vm) (a:L2.St) (H:Hp) (Q:Bool->Hp->Prop),Inv X d a H s->t a H Q ->
  VC 4#X X.A (forIn b VO λc r=>if r=VO then do let ok ←isTrue c X.env (eval c X.env);pure (Yd ok) else pure<|Yd r) (TP X d a Q) X.xe s
def S1:TT:=λ_ H Q=>Q VO H
def Lo:Si X [] S1:=λ_ _ _ H _ I h=>wpAny_tests_nil ⟨H,I,h⟩
def Ln(h:PT X c t):Si X [c] t:=λb s a H Q I q=>wpAny_tests_one<|h b s a H Q I q
theorem we(I:Nat->Vm->Prop)
  (turn:∀n s,I n s->VC (Vy prog w) A (pyNext it) (λr l=>match r with
   |none=>R (.ok .next) l
   |some v=>VC (Vy prog w) A (letOwnedTupleGo target it v) (λ_ e=>VC (Vy prog w) A (assign target env v) (λ_ q=>
     VC (Vy prog w) A (forIn f VO λc r=>if r=VO then do let ok ←isTrue c env (eval c env);pure (Yd ok) else pure<|Yd r) (λok j=>
      if ok=VO then VC (Vy prog w) A (eval i env) (λx p=>
       VC (Vy prog w) A (call (.builtin "list.append") [acc,x]) (λ_ o=>∃m,m<n/\I m o) (λ_ _=>False) p) (λ_ _=>False) j
      else ∃m,m<n/\I m j) (λ_ _=>False) q) (λ_ _=>False) e) (λ_ _=>False) l) (λ_ _=>False) s)
  (n:Nat) (h:I n s) :
  Xm (Vy prog w) A (.compLoop (.ListComp i [⟨target,iter,f,0⟩] scope pos) 0 it acc env) R s:=by
 refine codeAny_loop rfl I (λn s z=>?_) n h;show VC _ A ((compTurn (.ListComp i [⟨target,iter,f,0⟩] scope pos) 0 it acc env).onRaise (λx=>do noteFrame x env;theTreesLotGoes x)) _ _ s;refine wpAny_noted ?_;rw[compTurn_list];refine Vb<|wpAny_standAt<|Vb<|Wj (turn n s z) (λr l b=>?_) λ_ _ a=>a.elim;cases r with
 |none=>exact VE b
 |some v=>
  refine Vb<|Wj b (λ_ e d=>?_) λ_ _ a=>a.elim;refine Vb<|Wj d (λ_ q y=>Vb (Wj y (λok j t=>?_) λ_ _ a=>a.elim)) λ_ _ a=>a.elim;cases ok with
  |false=>exact VE ⟨rfl,t⟩
  |true=>
   exact Vb<|Vb<|Wj t (λx p u=>Vb (Wj u (λ_ o g=>VE (VE ⟨rfl,g⟩)) λ_ _ a=>a.elim)) λ_ _ a=>a.elim
noncomputable def Cd(n:Nat) (fr:db) (g:TG) (q:TT) (r:TE) (J:It) (p:L2.St) (H1:Hp) (Q:VK):Prop:=∀D,H1 D=Wb->∃W:Nat->Nat->am->L2.St->Hp->Prop,(∃m,W 0 m [] (qg n fr p)<|upd H1 D<|.lst []) /\
 ∀i m c e d,W i m c e d->d D=Wp (.lst c)/\((J.stop i d/\Q (.ref D) d)∨(J.go i d/\c.length<sizeLine/\∀x o,J.yld i d x o->g x e o λa s=>q a s λb l=>
  if b=VO then r a l λy j=>j D=Wp (.lst c)/\∃f,f < m/\W (i+1) f (c++[y]) a (upd j D<|.lst<|c++[y])
  else ∃f,f < m/\W (i+1) f c a l))
def F3{fr:db}(hc:X.calm=VO)(bx:Kh X N n fr scope)
  (al:∀x∈scope.names,x.2≠.cell)(a9:∀x∈scope.names,x.2=.free->X.env.scope.names.lookup x.1=Wp .cell)(ab:scope.kind=.function)
  (bd:∀s H C t pn,PG (fO X N scope s H C t pn) tg g/\Si (fO X N scope s H C t pn) a7 tt/\PE (fO X N scope s H C t pn) bb te)
  {RR:U5->Vi->Result->Vm->Prop}
  (h2:Ua X G σ tg (λJ H1=>Cd n fr g tt te J σ H1 Q) ca s2)
  (fin:∀(Da C:Vi) (s6:Vm) (L:Hp) (m:Vq->Option U5),Inv X G σ L s6->s6.heap.Ns C m->rn X G L C->Q (.ref Da) L->RR (.ref Da) C (.ok .next) s6) :
  VC 4#X X.A (newList []) (λacc sk=>VC 4#X X.A (newFunctionEnv scope X.env.globals (jR X.env.cells scope.names []) [] X.env.qual Wb .none<|Wp X.env) (λa4 so=>
   Xm 4#X X.A (.compStart (.ListComp bb [⟨tg,iter,a7,0⟩] scope pos) 0 ca acc { a4 with scope:=relabel scope X.env }) (RR acc a4.locals) so) X.xe sk) X.xe s2:=by
 obtain⟨it,t,tn,J,H2,e,I2,T,bq,M,q⟩:=h2;subst e;have hD:H2 2#s2=Wb:=I2.fresh;refine wpAny_newObj_type ?_;have f:Inv X G σ (upd H2 2#s2<|.lst []) { s2 with heap:=s2.heap.push { cls:=.type "list",data:=.seq ([]:List U5).toArray } }:=I2.lnew (t':=s2.toks) (its:=[]) .nil<|Yj _;obtain⟨W,⟨m0,w0⟩,turn⟩:=q 2#s2 hD;generalize cb:({ s2 with heap:=s2.heap.push { cls:=.type "list",data:=.seq ([]:List U5).toArray } }:Vm)=E at f ⊢;have a2:E.heap=s2.heap.push { cls:=.type "list",data:=.seq ([]:List U5).toArray }:=by rw[←cb]
 have ce:2#s2<2#E:=by rw[a2,ZY];exact Xx _
 have b2:∀b∈t,b<2#s2:=λb a=>by
  obtain⟨o,ho,_⟩:=T.obj _ _ bq b a;exact Vw ho
 have a6:∀b o,s2.heap.get? b=Wp o->E.heap.get? b=Wp o:=λb o e=>by rw[a2];exact Vc _ e
 have b5:tn 0 E.heap:=T.keep _ _ _ bq λb _ o e=>a6 b o e;generalize dd:2#s2=Da at *;generalize cd:upd H2 Da (.lst [])=I at *;have cp:∀b∈t,I b=Wb:=λb a=>by rw[←cd,ay<|VM<|b2 b a];exact(M b a).1
 have cls:∀x c,(jR X.env.cells scope.names []).lookup x=Wp c->X.env.cells.lookup x=Wp c:=λx c e=>by
  rcases wk (λy hy hf=>f.ok.has y.1<|.inl<|a9 y hy hf) e with e|e
  .cases e
  .exact e
 refine wpAny_newFunctionEnv al (by intro y hy;simp at hy) (λh4 b9 b6=>?_) ab;have k4:∀b o,E.heap.get? b=Wp o->h4.get? b=Wp o:=λb o e=>(b6.2 b<|VM<|Vw e).trans<|Vc _ e;generalize hC:2#E=C at *;have cn:I C=Wb:=f.hok.fresh (by rw[hC];exact VB _);have bt:∀b o,E.heap.get? b=Wp o->b≠C:=λb o e=>by rw[←hC];exact VM<|Vw e
 have cv:∀x c,X.env.cells.lookup x=Wp c->c≠C:=λx c e=>by
  obtain⟨v,o,ho,_⟩:=f.cell x c e;exact bt c o ho
 have b3:∀b∈t,b≠C:=λb a=>by
  have:=b2 b a;exact VM<|Nat.lt_trans this ce
 show Xm 4#X X.A (.compStart (.ListComp bb [⟨tg,iter,a7,0⟩] scope pos) 0 (.ref it) (.ref Da)<|compEnvC scope (jR X.env.cells scope.names []) C X.env) _ _;generalize a8:({ E with heap:=h4,toks:=E.toks+([]:List<|Vq×U5).length }:Vm)=s4;have B:s4.heap=h4:=by rw[←a8]
 have ok:(fO X N scope E I C t<|X.pn++G).Ok:=by
  refine⟨f.ok.mod,ab,f.ok.glob,f.ok.blt,sam hC,λx y c e1 e2=>f.ok.inj x y c (cls x c e1) (cls y c e2),λx e=>?_,λx c e=>?_,λ_=>f.ok.hd hc,f.ok.frames,.inl rfl,λb a=>⟨b3 b a,λx c e=>(M b a).2.2.2.2.1 x c (cls x c e)⟩,f.bs,Vr f.ok.bsz f.sz,λb o e a=>?_,λb a z=>?_,f.stack,f.stkFree,f.tab⟩
  .have mm:∀k:W2,(relabel scope X.env).names.lookup x=Wp k->(k=.cell∨k=.free)->(x,Xo)∈scope.names:=λk hk cc=>by
    have hm:=Wi hk;obtain⟨⟨n',k'⟩,a0,as⟩:=VD.mp hm;dsimp only at as;split at as
    .rename_i a3
     cases as;simp only[Vv,beq_iff_eq]at a3;rwa[a3.1.1]at a0
    .cases as
     rcases cc with rfl|rfl
     .exact er rfl (al _ a0)
     .exact a0
   rcases e with e|e
   .exact wm<|mm _ e<|.inl rfl
   .exact wm<|mm _ e<|.inr rfl
  .cases e
  .rcases(M b a).2.2.2.1 with z|z
   .exact f.ok.noex b o e z
   .exact er (Vk (Vw e)<|Vr f.ok.bsz z)<|Xn _
  .rcases Vl.mp (f.stkSub b z) with z|z
   .exact(M b a).2.1 z
   .exact(M b a).2.2.1 z
 have I4:Inv (fO X N scope E I C t<|X.pn++G) [] (qg n fr σ) I s4:=by
  refine⟨ok,by rw[←a8];rfl,by rw[←a8];exact f.bare,by rw[B];exact Un.kept k4,⟨_,by rw[B];exact b9,λi x v h1 h2 h3=>?_⟩,λx c e=>?_,cn,λx c e=>f.freeC x c (cls x c e),λp hp=>?_,by rw[B];exact f.hok.kept k4,?_⟩
  .obtain⟨j,j1,j2,j3,j4,j5⟩:=bx.at h1 h2
   obtain⟨m,hn,hl⟩:=f.loc;obtain⟨u,ru,l⟩:=hl j x v j1 j2<|.inr<|.inl j3;refine⟨u,ru,.inr ⟨.inl j5,?_⟩⟩;rcases l with⟨z,_⟩|⟨_,c,z1,z2⟩
   .rw[show X.env.kindOf x=X.env.scope.names.lookup x from rfl,j3]at z;cases z
   .obtain⟨c',b0⟩:=wm (cells:=X.env.cells) (names:=scope.names) (acc:=[]) (Wi j4)
    have:=cls x c' b0;rw[z1]at this;cases this;obtain⟨oc,q1,q2⟩:=z2;exact⟨c,b0,oc,by rw[B];exact k4 _ _ q1,q2⟩
  .obtain⟨v,oc,q1,q2⟩:=f.cell x c (cls x c e)
   exact⟨v,oc,by rw[B];exact k4 _ _ q1,q2⟩
  .rw[We]at hp
   obtain⟨p1,p2,p3,p4,p5⟩:=f.pin p hp;refine⟨by rw[B];exact k4 _ _ p1,p2,bt _ _ p1,λz=>?_,p5⟩;rcases Vl.mp (f.stkSub _ z) with z|z
   .exact p3 z
   .exact p4 z
  .show(qg n fr σ).length=N.length
   unfold qg;rw[Vs,V3,U8,bx.1]
 have bm:tn 0 s4.heap:=by rw[B];exact T.keep _ _ _ b5 λb _ o e=>k4 b o e
 have stat:∀{O:Hp},(∀b∈t,O b=Wb)->∀b∈t,rn (fO X N scope E I C t<|X.pn++G) [] O b:=λhn b a=>by
  refine⟨hn b a,b3 b a,λz=>?_,.inl a,λx c e=>(M b a).2.2.2.2.1 x c (cls x c e),λp hp=>?_⟩
  .rcases Vl.mp (f.stkSub b z) with z|z
   .exact(M b a).2.1 z
   .exact(M b a).2.2.1 z
  .rw[We]at hp
   exact(M b a).2.2.2.2.2 p hp
 have loop:Xm 4#X X.A (.compLoop (.ListComp bb [⟨tg,iter,a7,0⟩] scope pos) 0 (.ref it) (.ref Da)<|compEnvC scope (jR X.env.cells scope.names []) C X.env) (RR (.ref Da) C) s4:=by
  refine we (λn s'=>∃i ys Y O,Inv (fO X N scope E I C t<|X.pn++G) [] Y O s'/\tn i s'.heap/\(∀b∈t,O b=Wb)/\W i n ys Y O) ?_ m0 ⟨0,[],_,I,I4,bm,cp,w0⟩;rintro k s5 ⟨i,ys,an,L,I5,bi,b1,w5⟩;obtain⟨dc,ways⟩:=turn i k ys an L w5;rcases ways with⟨stop,b4⟩|⟨go,hz,step⟩
  .refine cM (T.done (fO X N scope E I C t (X.pn++G)) rfl rfl rfl hc i [] s5 an L (λ_ _=>False) I5 (stat b1) bi stop) λr s6 ⟨hr,I6⟩=>?_
   subst hr;obtain⟨mm,b8,_⟩:=I6.loc;have ba:L C=Wb:=I6.free;have hok:fJ X.prog X.w L s6.heap:=I6.hok;have un:Un (gW X.stack) t I L E.heap s6.heap:=I6.base;have IX:Inv X G σ L s6:=f.call' (s':=s6) (ch:=t) I6.os un hok I6.bare<|λb a=>⟨(M b a).2.2.2.1,(M b a).2.1,(M b a).2.2.2.2.1,(M b a).2.2.2.2.2⟩;have fC:rn X G L C:=f.fpOk (b:=C) (H':=L) (by rw[hC];exact VB _) ba;exact fin Da C s6 L mm IX b8 fC b4
  .refine cM (T.item (fO X N scope E I C t (X.pn++G)) rfl rfl rfl hc i [] s5 an L (λ_ _=>False) I5 (stat b1) bi go) λr s6 ⟨u,hr,h6⟩=>?_
   subst hr;refine cM h6 λ_ s7 ⟨x,H7,I7,r7,y7,a5,co⟩=>?_;have cw:=I7.pinned (stat co)<|T.obj _ _ a5;refine cM ((bd E I C t (X.pn++G)).1 _ s7 an H7 x u _ cw r7 (step x H7 y7)) λ_ s8 ⟨U,H8,I8,q8⟩=>?_;refine cM ((bd E I C t (X.pn++G)).2.1 _ s8 U H8 _ I8 q8) λb b7 ⟨cx,a1,ap⟩=>?_;have back:∀{Y:L2.St}{O:Hp}{s':Vm},L2.Inv (fO X N scope E I C t<|X.pn++G) (([]:List<|Vi×Obj)++ur t s7.heap) Y O s'->tn (i+1) s'.heap/\∀b∈t,O b=Wb:=λ{Y O s'} I'=>by
    refine⟨T.keep _ _ _ a5 λb a o e=>(I'.pin (b,o) (VS _ (VS _ (kF a e)))).1,λb a=>?_⟩;obtain⟨o,e,d⟩:=T.obj _ _ a5 b a;exact(I'.pin (b,o)<|VS _<|VS _<|kF a e).2.1
   cases b with
   |false=>
    rw[eo WL]at ap ⊢;obtain⟨m',hm,w9⟩:=ap;exact⟨m',hm,i+1,ys,U,_,a1.unpinned,(back a1).1,(back a1).2,w9⟩
   |true=>
    rw[ef rfl]at ap ⊢;refine cM ((bd E I C t (X.pn++G)).2.2 _ b7 U cx _ a1 ap) λy s9 ⟨yv,H9,I9,r9,cl,m',hm,w9⟩=>?_;refine cM (xW (X:=fO X N scope E I C t (X.pn++G)) _ s9 U H9 (.ref Da) [yv] (.ref Da) [y] (λv O=>O=upd H9 Da (.lst (ys++[yv]))) I9 rfl (.cons r9 .nil) ⟨Da,ys,yv,rfl,rfl,cl,hz,rfl⟩) λ_ c4 ⟨c2,df,be,_,cs⟩=>?_;subst cs;exact⟨m',hm,i+1,ys++[yv],U,_,be.unpinned,(back be).1,(back be).2,w9⟩
 exact codeAny_compStart_list loop<|T.self _ 0 _ _ _ bm loop
structure Sq (K:Va) (ds:ac) (J:It) (Ha:Hp):Prop where
 go:∀(i:Nat) (H' Ha':Hp),aD Ha Ha'->aD Ha' H'->i<ds.length->J.go i H'
 yld:∀(i:Nat) (H' Ha':Hp) (x:V) (H2:Hp) (d:D),aD Ha Ha'->aD Ha' H'->ds[i]?=Wp d->J.yld i H' x H2->∃H₀2,bz H' Ha' H2 H₀2/\Rep K H₀2 d x
 stop:∀(i:Nat) (H' Ha':Hp),aD Ha Ha'->aD Ha' H'->ds.length<=i->J.stop i H'
noncomputable def UI(K:Va) (E:XK) (d:Ev->aw (ac)):TI:=λf H R=>∃c e,aD c H/\fq K c f e/\match d e with
 |.ok g=>∀J b a,bz H c b a->Sq K g J a->R J b
 |.exn x=>∀C ox b a,bz H c b a->yG K a x C ox->E C ox b
 |.stuck=>False
structure DI (X:Cx) (E:XK) (tg iter:V4) (src:Ev->aw (ac)):Prop where
 o:PI X tg iter (UI X.K E src)
def oy(h:PI X tg iter t)(w:∀a H R,t' a H R->t a H R):PI X tg iter t':=λb s a H R I q=>h b s a H R I<|w a H R q
def lA(f:bv):Ev->aw (ac):=λa=>(f a).bind λd=>match d with
 |.lst b=>.ok b
 |_=>.stuck
def K0(f:bv):Ev->aw (ac):=λa=>(f a).bind λd=>match d with
 |.str z=>.ok<|lB z
 |_=>.stuck
def rB(f:bv):Ev->aw (ac):=λa=>(f a).bind λd=>match d with
 |.int j=>if -4611686018427387904<=j/\j<4611686018427387904 then .ok (intsFrom 0 j.toNat) else .stuck
 |_=>.stuck
section
variable {X:Cx}{E:XK}{tg e a b:V4}{f g:bv}
def eM(h:DE X E e f):DI X E tg e (lA f):=by
 refine⟨oy (Ea h.o) λN H R z9=>?_⟩;obtain⟨L,y,I,J,q⟩:=z9;refine⟨L,y,I,J,?_⟩;unfold lA at q;cases A:f y with
 |stuck|exn x=>rwa[A]at q
 |ok d=>
  rw[A]at q;intro v M w z C;cases d with
  |lst O=>
   obtain⟨p,n,rfl,r,c⟩:=aA.mp C;refine⟨p,rfl,⟨n,aD.sqL z.sub r⟩,q _ M w z ⟨λi B j m l t=>?_,λi B j x Q d m l hd s=>?_,λi B j m l t=>?_⟩⟩
   .exact⟨n,n[i]'(by rw[←c.length];exact t),aD.sqL (m.trans l) r,by simp⟩
   .obtain⟨rfl,s⟩:=s
    obtain⟨u,G,k2⟩:=c.get hd;have:=s n<|aD.sqL (m.trans l) r;rw[G]at this;cases this;exact⟨j,bz.refl l,k2.mono m⟩
   .exact⟨n,aD.sqL (m.trans l) r,by rw[←c.length];exact t⟩
  |_=>exact q.elim
def PK(h:DE X E e f):DI X E tg e (K0 f):=by
 refine⟨oy (OH h.o) λL H R z9=>?_⟩;obtain⟨I,p,y,A,q⟩:=z9;refine⟨I,p,y,A,?_⟩;unfold K0 at q;cases s:f p with
 |stuck|exn x=>rwa[s]at q
 |ok d=>
  rw[s]at q;intro v J n G u;cases d with
  |str z=>
   refine⟨z,Rep.str_iff.mp u,q _ J n G ⟨λi t j r m l=>?_,λi t j x M d r m hd w=>?_,λi t j r m l=>?_⟩⟩
   .rwa[nu]at l
   .obtain⟨rfl,c,B,rfl⟩:=w
    have:d=.str ⟨#[c]⟩:=by
     unfold lB at hd;rw[Vh]at hd;have C:z.cps.toList[i]?=Wp c:=by simpa using B
     rw[C]at hd;cases hd;rfl
    subst this;exact⟨j,bz.refl m,Rep.str_iff.mpr rfl⟩
   .rwa[nu]at l
  |_=>exact q.elim
def FH{K:Va}{lo:Int}:Sq K (intsFrom lo n) (Qi lo n) H:=by
 have l:(intsFrom lo n).length=n:=by unfold intsFrom;simp
 refine⟨λi m c _ _ j=>?_,λi m c x u d s o hd p=>?_,λi m c _ _ j=>?_⟩
 .rwa[l]at j
 .obtain⟨rfl,rfl⟩:=p
  have:d=.int (lo+i):=by
   unfold intsFrom at hd;rw[Vh]at hd;cases e:(Ws n)[i]? with
   |none=>rw[e]at hd;cases hd
   |some k=>
    rw[e]at hd;have q:k=i:=by
     obtain⟨t,r⟩:=Vn.mp e;simpa using r.symm
    subst q;cases hd;rfl
  subst this;exact⟨c,bz.refl o,ax.mpr rfl⟩
 .rwa[l]at j
def yj(A:Gl X "range")(z:X.mg "range"=Wb)(h:DE X E a f)(s:Nv a=VO:=by exact rfl):DI X E tg (.Call (.Name "range" p) [a] [] pos) (rB f):=by
 refine⟨oy (xR A z (dH h.o ig (fS s)) (fS s)) λL H R z9=>?_⟩;obtain⟨m,r,w,y,q⟩:=z9;refine⟨m,r,w,y,?_⟩;unfold rB at q;cases t:f r with
 |stuck|exn x=>rwa[t]at q
 |ok d=>
  rw[t]at q;intro v I n B u;cases d with
  |int j=>
   replace q:match (if -4611686018427387904<=j/\j<4611686018427387904 then aw.ok (intsFrom 0 j.toNat) else .stuck) with
    |.ok G=>∀J i c,bz H m i c->Sq X.K G J c->R J i
    |.exn x=>∀C ox i c,bz H m i c->yG X.K c x C ox->E C ox i
    |.stuck=>False:=q
   by_cases l:-4611686018427387904<=j/\j<4611686018427387904
   .rw[ef l]at q
    rw[ax.mp u];exact⟨j,rfl,l.1,l.2,q _ I n B FH⟩
   .rw[eo l]at q;exact q.elim
  |_=>exact q.elim
end
def jW(a:Ev->aw (ac))(tg:Ev->D->aw Ev)(s:ci):ci:=λb=>(a b).bind λc=>bT tg s c b
section
variable {X:Cx}{E:XK}{He η:Hp}{st:Xi}{s:ci}{pos:Pos}
def BY{K:Va}(z:aD w Ha)(h:eG K He η Ha A H ρ)(q:bX K E He η Ha (bT tg s (ds.drop i) ρ) f)(hd:ds[i]?=Wp d)(B:Rep K Ha d v)
  (C:∀ρ,tg ρ d=.stuck∨∃ρ',tg ρ d=.ok ρ') :
  tG K He η tg v A H λj J=>tS K E He η s { f with nx:=jG K E He η w tg s ds f<|i+1,ct:=jG K E He η w tg s ds f<|i+1,bk:=f.nx } j J:=by
 have t:i<ds.length:=(Vn.mp hd).1;have m:ds.drop i=d::ds.drop (i+1):=by
  rw[WB t];rw[U7 t]at hd;cases hd;rfl
 rw[m]at q;refine⟨Ha,ρ,d,h,B,?_⟩;unfold bT at q;rcases C ρ with o|⟨b,o⟩
 .rw[o]at q;exact q.elim
 .rw[o]at q ⊢
  intro y L p l G;refine⟨p,b,G,?_⟩;replace q:=bX.grow (r:=(s b).bind λx=>match x with
   |.nx a=>bT tg s (ds.drop<|i+1) a
   |.ct a=>bT tg s (ds.drop<|i+1) a
   |.bk a=>.ok<|.nx a
   |.rt d=>.ok<|.rt d) q l
  cases u:s b with
  |stuck|exn x=>rwa[u]at q
  |ok r=>
   rw[u]at q;cases r with|nx a=>exact λg I c e n=>⟨c,a,(z.trans l).trans e,n,bX.grow (r:=bT tg s (ds.drop<|i+1) a) q e⟩|ct a=>exact λg I c e n=>⟨c,a,(z.trans l).trans e,n,bX.grow (r:=bT tg s (ds.drop<|i+1) a) q e⟩|bk a|rt d=>exact q
def mQ(hp:PassesOwn 4#X X.A X.env X.xe)(hc:X.calm=VO)(hi:DI X E t iter u)(hg:DG X E He η t tg)(U:BV tg)(hb:B2 X E He η body s)
  (Y:∀x,foldedSetIterable iter X.env x=pure x:=by intro _;rfl):DS X E He η (.For t iter body [] pos) (jW u tg s):=by
 refine⟨cA (Cw hp hc hi.o hg.o hb.o Y) λM σ H z9=>?_⟩;obtain⟨Ha,d,h,q⟩:=z9;refine⟨Ha,d,h.g.sub,h.rd,?_⟩;unfold jW at q;cases I:u d with
 |stuck=>rwa[I]at q|exn x=>rw[I]at q;exact λC ox j a g r=>q C ox j a (h.g.trans g) r
 |ok b=>
  rw[I]at q;intro J H1 c g B;have Q:bX X.K E He η c (bT tg s b d) M:=bX.grow (r:=bT tg s b d) q g.z;refine⟨λi m n j=>m+i=b.length/\jG X.K E He η c tg s b M i n j,⟨b.length,rfl,c,d,aD.refl _,h.grow g,Q⟩,?_⟩;rintro i m n j ⟨hm,a,p,z,v,N⟩
  by_cases f:i<b.length
  .refine .inr ⟨B.go i j a z v.g.sub f,λl y=>jG X.K E He η c tg s b M (i+1) l y,λl y hl=>⟨m-1,by omega,by omega,hl⟩,λx y T=>?_⟩
   obtain⟨L,G,O⟩:=B.yld i j a x y b[i] z v.g.sub (U7 f) T;exact BY (z.trans G.z) (v.grow G) (bX.grow (r:=bT tg s (b.drop i) p) N G.z) (U7 f) O λd=>U d _
  .have e:i=b.length:=by omega
   refine .inl ⟨B.stop i j a z v.g.sub 0#2,?_⟩;subst e;exact jG.done ⟨a,p,z,v,N⟩
end
def qA(f:bv):Prop:=∀a d,f a=.ok d->∃b,d=.lst b
def Aq{K:Va}(B:qA f)(h:tD K E f u H Q):tF K E f u H Q:=by
 obtain⟨t,c,n,A,q⟩:=h;refine⟨t,c,n,A,?_⟩;cases i:f c with
 |stuck|exn x=>rwa[i]at q
 |ok d=>
  obtain⟨I,rfl⟩:=B c d i;rw[i]at q;intro p l G j g r C y v;have w:t p=Wb:=n.free r;refine q (.ref p) G (upd j p<|.lst l) ⟨g.s,λb o e=>?_,λb o e=>?_,λb m k2=>?_⟩<|aA.mpr ⟨p,l,rfl,fm.of aC,v.mono λb o e=>?_⟩
  .rw[ay (by intro z;subst z;rw[w]at e;cases e)];exact g.z _ _ e
  .by_cases a:b=p
   .subst a;rw[aC]at e;cases e;exact y
   .rw[ay a]at e;exact g.sub _ _ e
  .by_cases a:b=p
   .subst a;exact r
   .rw[ay a]at m;exact g.nw b m k2
  .rw[ay (by intro z;subst z;rw[C]at e;cases e)];exact e
def JJ(a:qA f)(h:DF X E e f):DE X E e f:=⟨bc h.o λb H Q q=>Aq a q⟩
def dB(n:Nat)(fr:db)(ρ:Ev):Ev:=Vt n .no++fr.map λ(i:Nat)=>match ρ[i]? with
 |some (.sh d)=>.sh d
 |_=>.no
noncomputable def cj(b:Ev) (tg:Ev->D->aw Ev) (c e:bv):ac->aw (ac)
 |[]=>.ok []
 |d::r=>(tg b d).bind λa=>(c a).bind λt=>match t with
  |.bl VO=>(e a).bind λx=>(cj b tg c e r).bind λxs=>.ok (x::xs)
  |.bl Vd=>cj b tg c e r
  |_=>.stuck
def cJ(n:Nat)(fr:db)(a:Ev->aw (ac))(tg:Ev->D->aw Ev)(d e:bv):bv:=λb=>(a b).bind λc=>
 if c.length<=line then match cj (dB n fr b) tg d e c with
  |.ok f=>.ok<|.lst f
  |_=>.stuck
 else .stuck
def fN{fr:db}:qA (cJ n fr a tg f g):=λb d h=>by
 unfold cJ at h;cases c:a b with
 |stuck|exn x=>rw[c]at h;cases h
 |ok e=>
  rw[c]at h;replace h:(if e.length<=line then match cj (dB n fr b) tg f g e with
   |.ok i=>aw.ok<|D.lst i
   |_=>.stuck else .stuck)=.ok d:=h
  split at h
  .split at h
   .cases h;exact⟨_,rfl⟩
   .cases h
  .cases h
def kS(h:cj b tg c a (d::r)=.ok e) :
  ∃ρ1 t,tg b d=.ok ρ1/\c ρ1=.ok (.bl t)/\((t=VO/\∃x xs,a ρ1=.ok x/\cj b tg c a r=.ok xs/\e=x::xs)∨(t=Vd/\cj b tg c a r=.ok e)):=by
 unfold cj at h;cases j:tg b d with
 |stuck|exn z=>rw[j]at h;cases h
 |ok ρ1=>
  rw[j]at h;replace h:((c ρ1).bind λt=>match t with
   |.bl VO=>(a ρ1).bind λx=>(cj b tg c a r).bind λxs=>aw.ok (x::xs)
   |.bl Vd=>cj b tg c a r
   |_=>.stuck)=.ok e:=h
  cases f:c ρ1 with
  |stuck|exn z=>rw[f]at h;cases h
  |ok t=>
   rw[f]at h;cases t with
   |bl t=>
    cases t with
    |true=>
     replace h:((a ρ1).bind λx=>(cj b tg c a r).bind λxs=>aw.ok (x::xs))=.ok e:=h;cases g:a ρ1 with
     |stuck|exn z=>rw[g]at h;cases h
     |ok x=>
      rw[g]at h;replace h:((cj b tg c a r).bind λxs=>aw.ok (x::xs))=.ok e:=h;cases i:cj b tg c a r with|stuck|exn z=>rw[i]at h;cases h|ok xs=>rw[i]at h;cases h;exact⟨ρ1,VO,rfl,f,.inl ⟨rfl,x,xs,g,rfl,rfl⟩⟩
    |false=>exact⟨ρ1,Vd,rfl,f,.inr ⟨rfl,h⟩⟩
   |_=>cases h
def kj(g:tg b d=.ok ρ1)(f:a ρ1=.ok (.bl VO))(e:c ρ1=.ok x):cj b tg a c (d::r)=(cj b tg a c r).bind λxs=>.ok (x::xs):=by
 rw[cj,g];simp only[aw.bind,f,e]
def wg(e:tg b d=.ok ρ1)(c:a ρ1=.ok (.bl Vd)):cj b tg a f (d::r)=cj b tg a f r:=by
 rw[cj,e];simp only[aw.bind,c]
theorem qZ:∀{r q e:ac},cj b tg j n (r++q)=.ok e->∃c a,cj b tg j n r=.ok c/\cj b tg j n q=.ok a/\e=c++a
 |[],q,e,h=>⟨[],e,rfl,h,rfl⟩
 |d::r,q,e,h=>by
  obtain⟨o,t,m,l,i⟩:=kS h;rcases i with⟨rfl,x,xs,i,g,rfl⟩|⟨rfl,g⟩
  .obtain⟨c,a,f,k2,rfl⟩:=qZ g
   refine⟨x::c,a,?_,k2,rfl⟩;rw[kj m l i,f];rfl
  .obtain⟨c,a,f,k2,rfl⟩:=qZ g
   refine⟨c,a,?_,k2,rfl⟩;rw[wg m l];exact f
theorem kR{b:Ev}{tg:Ev->D->aw Ev}{a e:bv}:∀{r q g f:ac},cj b tg a e r=.ok g->cj b tg a e q=.ok f->cj b tg a e (r++q)=.ok (g++f)
 |[],q,g,f,h,c=>by cases h;exact c
 |d::r,q,g,f,h,c=>by
  obtain⟨n,t,m,l,j⟩:=kS h;show cj b tg a e (d::(r++q))=_;rcases j with⟨rfl,x,xs,j,i,rfl⟩|⟨rfl,i⟩
  .rw[kj m l j,kR i c];rfl
  .rw[wg m l];exact kR i c
theorem wj:∀{r a:ac},cj b tg g l r=.ok a->a.length<=r.length
 |[],a,h=>by cases h;exact VB _
 |d::r,a,h=>by
  obtain⟨f,t,j,i,e⟩:=kS h;rcases e with⟨rfl,x,xs,e,c,rfl⟩|⟨rfl,c⟩
  .exact Nat.succ_le_succ<|wj c
  .exact Nat.le_succ_of_le<|wj c
def J7(n:Nat)(tg:Ev->D->aw Ev):Prop:=∀b d a,tg b d=.ok a->a.length=b.length/\∀(k:Nat),n<=k->a[k]?=b[k]?
def cY(h:i<n):J7 n (bK i):=λb d a e=>by
 cases e;exact⟨by simp,λk c=>by rw[Vo 0#2]⟩
theorem oq:∀{a:db}{ds:ac}{ρ:Ev},(a.all λi=>decide (i<n))=VO->(dz ρ a ds).length=ρ.length/\∀(k:Nat),n<=k->(dz ρ a ds)[k]?=ρ[k]?
 |[],ds,ρ,_=>by unfold dz;exact⟨rfl,λ_ _=>rfl⟩
 |i::a,[],ρ,_=>by unfold dz;exact⟨rfl,λ_ _=>rfl⟩
 |i::a,d::ds,ρ,h=>by
  rw[X8,Vv,ez]at h;unfold dz;obtain⟨e,c⟩:=oq (ds:=ds) (ρ:=ρ.set i<|.sh d) h.2;exact⟨by rw[e];simp,λk b=>by rw[c k b,Vo<|by omega]⟩
def lu(h:(a.all λi=>decide (i<n))=VO):J7 n (dE a):=λf d c e=>by
 unfold dE at e;cases b:fX a.length d with|none=>rw[b]at e;cases e|some g=>rw[b]at e;cases e;exact oq h
def Dq{K:Va}{fr:db}(h:fq K Ha f ρ):fq K Ha (qg n fr f) (dB n fr ρ):=λi d e=>by
 unfold dB at e;unfold qg
 by_cases b:i<n
 .rw[VA (by simpa using b),VY,ef b]at e
  cases e
 .rw[VF (by simpa using b),V3,Vh]at e ⊢
  cases c:fr[i-n]? with
  |none=>rw[c]at e;cases e
  |some j=>
   rw[c]at e;simp only[Ya,Xj]at e ⊢;cases a:ρ[j]? with
   |none=>rw[a]at e;cases e
   |some s=>
    rw[a]at e;cases s with
    |sh m=>
     cases e;obtain⟨v,l,g⟩:=h j d a;exact⟨v,by rw[l];rfl,g⟩
    |_=>cases e
def MK{fr:db}{k:Nat}(h:k<n):(dB n fr ρ)[k]?=Wp .no:=by
 unfold dB;rw[VA (by simpa using h),VY,ef h]
def JW{fr:db}(i j:Nat)(c:ac):(dB n fr ρ)[i]?≠Wp (.ox j c):=λe=>by
 unfold dB at e
 by_cases a:i<n
 .rw[VA (by simpa using a),VY,ef a]at e;cases e
 .rw[VF (by simpa using a),Vh]at e
  cases b:fr[i-(Vt n Sl.no).length]? with
  |none=>rw[b]at e;cases e
  |some z=>
   rw[b]at e;simp only[Ya,Xj]at e;split at e<;>cases e
def Gf{fr:db}{d:L2.St}(i:Nat)(a:Vi)(e:(dB n fr ρ)[i]?=Wp (.pt a)):d[i]?=Wp (Wp<|.ref a):=by
 unfold dB at e
 by_cases b:i<n
 .rw[VA (by simpa using b),VY,ef b]at e;cases e
 .rw[VF (by simpa using b),Vh]at e
  cases c:fr[i-(Vt n Sl.no).length]? with
  |none=>rw[c]at e;cases e
  |some z=>
   rw[c]at e;simp only[Ya,Xj]at e;split at e<;>cases e
def BO{fr:db}:(dB n fr ρ).length=n+fr.length:=by unfold dB;simp
def Dk{K:Va}{fr:db}(a9:aD Ha H)(g1:bz H Ha H1 A)(it:Sq K ds J A)(hl:ds.length<=line)
  (e2:cj (dB n fr ρ) tg tt fe ds=.ok es)(hr:fq K A σ ρ)(hok:J7 n tg)
  (q:∀p vs H' a,bz H Ha H' a->H p=Wb->a p=Wb->H' p=Wp (.lst vs)->Reps K a es vs->Q (.ref p) H') :
  Cd n fr (Po K tg) (Qn K E tt) (tD K E fe) J σ H1 Q:=by
 intro Da L;have a6:A Da=Wb:=g1.sub.free L;refine⟨λi m T ab H'=>m=ds.length-i/\i<=ds.length/\ab.length=n+fr.length/\∃a,bz H1 A H' a/\a Da=Wb/\H' Da=Wp (.lst T)/\fq K a ab (dB n fr ρ)/\∃l,cj (dB n fr ρ) tg tt fe (ds.take i)=.ok l/\Reps K a l T,
  ⟨ds.length,by simp,Yj _,by unfold qg;simp,A,?_,a6,aC,Dq hr,[],rfl,Reps.nil⟩,?_⟩
 .refine⟨λb o e=>by rw[ay (aN e L)];exact e,aD.refl _,λb o e=>?_,λb k1 k2=>er k2 k1⟩
  rw[ay (by intro z;subst z;rw[a6]at e;cases e)];exact g1.sub _ _ e
 .rintro i m T ab H' ⟨rfl,bi,a8,a,Y,a5,I,ba,l,c,C⟩
  refine⟨I,?_⟩
  by_cases u:i<ds.length
  .refine .inr ⟨it.go i H' a Y.z Y.sub u,?_,?_⟩
   .rw[←C.length]
    have:=wj c;rw[Wc]at this;have h2:line<sizeLine:=by decide
    omega
   .intro x H2 hy
    obtain⟨f,g2,rp⟩:=it.yld i H' a x H2 ds[i] Y.z Y.sub (U7 u) hy;have G:ds=ds.take i++(ds[i]::ds.drop (i+1)):=by rw[←WB u,List.take_append_drop]
    rw[G]at e2;obtain⟨a1,a2,k1,k2,k3⟩:=qZ e2;rw[c]at k1;cases k1;obtain⟨as,t,t1,t2,t3⟩:=kS k2;have bb:f Da=Wb:=by
     cases qq:f Da with|none=>rfl|some o=>have:=g2.nw Da (by rw[qq];simp) a5;rw[I]at this;cases this
    have a4:H2 Da=Wp (.lst T):=g2.s _ _ I;refine⟨H2,f,f,dB n fr ρ,ds[i],⟨bz.refl g2.sub,ba.mono g2.z,λj d' e=>?_,λj k d1 d2 _ e=>?_,by rw[BO,a8],OX.none JW Gf⟩,rp,?_⟩
    .unfold dB at e
     by_cases hj:j<n
     .rw[VA (by simpa using hj),VY,ef hj]at e;cases e
     .rw[VF (by simpa using hj),Vh]at e
      cases hf:fr[j-(Vt n Sl.no).length]? with
      |none=>rw[hf]at e;cases e
      |some z=>
       rw[hf]at e;simp only[Ya,Xj]at e;split at e<;>cases e
    .unfold dB at e
     by_cases hj:j<n
     .rw[VA (by simpa using hj),VY,ef hj]at e;cases e
     .rw[VF (by simpa using hj),Vh]at e
      cases hf:fr[j-(Vt n Sl.no).length]? with
      |none=>rw[hf]at e;cases e
      |some z=>
       rw[hf]at e;simp only[Ya,Xj]at e;split at e<;>cases e
    .rw[t1]
     intro ap H3 O z3 B;have a0:=hok _ _ _ t1;have U:ap.length=n+fr.length:=by rw[←B.ln,a0.1,BO]
     have back:∀{Hx:Hp},aD O Hx->fq K Hx ap (dB n fr ρ):=λ{Hx} sx k d e=>by
      by_cases hk:k<n
      .rw[MK hk]at e;cases e
      .rw[←a0.2 k 0#2]at e
       obtain⟨v,h1,h2⟩:=B.rd k d e;exact⟨v,h1,h2.mono sx⟩
     have n3:O Da=Wb:=by
      cases qq:O Da with|none=>rfl|some o=>have:=B.g.nw Da (by rw[qq];simp) bb;rw[a4]at this;cases this
     have a3:H3 Da=Wp (.lst T):=B.g.s _ _ a4;refine⟨O,as,B.g.sub,B.rd,?_⟩;rw[t2];intro H4 N M;have al:H4 Da=Wp (.lst T):=M.s _ _ a3;have n4:N Da=Wb:=by
      cases qq:N Da with|none=>rfl|some o=>have:=M.nw Da (by rw[qq];simp) n3;rw[a3]at this;cases this
     have w:ds.take (i+1)=ds.take i++[ds[i]]:=by rw[List.take_add_one,U7 u];rfl
     have a7:=(Y.trans g2).trans<|B.g.trans M;rcases t3 with⟨rfl,y,xs,t3,t4,_⟩|⟨rfl,t4⟩
     .rw[ef rfl]
      refine⟨N,as,M.sub,B.rd.mono M.z,?_⟩;rw[t3];intro yv H5 an g5 ry;have be:H5 Da=Wp (.lst T):=g5.s _ _ al;have n5:an Da=Wb:=by
       cases qq:an Da with|none=>rfl|some o=>have:=g5.nw Da (by rw[qq];simp) n4;rw[al]at this;cases this
      have r:=a7.trans g5;refine⟨be,ds.length-(i+1),by omega,rfl,u,U,an,⟨λb o e=>?_,r.z,λb o e=>?_,r.nw⟩,n5,aC,back<|M.z.trans g5.z,l++[y],?_,?_⟩
      .rw[ay (aN e L)];exact r.s _ _ e
      .rw[ay (by intro z;subst z;rw[n5]at e;cases e)];exact r.sub _ _ e
      .rw[w]
       refine kR c ?_;rw[kj t1 t2 t3];rfl
      .exact(C.mono<|(g2.z.trans B.g.z).trans<|M.z.trans g5.z).app<|Reps.cons ry Reps.nil
     .rw[eo WL]
      refine⟨ds.length-(i+1),by omega,rfl,u,U,N,a7,n4,al,back M.z,l,?_,C.mono<|(g2.z.trans B.g.z).trans M.z⟩;rw[w];rw[show l=l++[] by simp];refine kR c ?_;rw[wg t1 t2];rfl
  .have bd:i=ds.length:=by omega
   refine .inl ⟨it.stop i H' a Y.z Y.sub 0#2,?_⟩;rw[bd,ZG]at c;rw[e2]at c;cases c;exact q Da T H' a (g1.trans Y) (g1.s.free L) a5 I C
structure SQ (X:Cx) (E:XK) (ifs:List V4) (f:bv):Prop where
 o:Si X ifs (Qn X.K E f)
def mYes:bv:=λ_=>.ok<|.bl VO
def gi:SQ X E [] mYes:=⟨λb s a H Q I ⟨d,e,c,f,q⟩=>Lo b s a H Q I<|q H d<|bz.refl c⟩
def iI(h:DT X E c f):SQ X E [c] f:=⟨Ln h.o⟩
structure Sr (X:Cx) (E:XK) (e:V4) (f:bv):Prop where
 ev:PE X e (tF X.K E f)
 st:∀{i:Nat}{x:Vq}{pos' spos:Pos},X.N.Nodup->X.N[i]?=Wp x->X.env.scope.names.lookup x=Wp .local -> WI e (Wp (.Name x pos')) spos.line X.env=pure VO->PS X (.Assign [.Name x pos'] e spos) (Oe (tF X.K E f) (Jm i))
def UT(N:cr)(n:Nat)(fr:db)(hc:X.calm=VO)(hi:DI X E B iter ab)(hok:J7 n tg)
  (an:∀s H C M pn,(∀He η,DG (fO X N scope s H C M pn) E He η B tg)/\SQ (fO X N scope s H C M pn) E O tt/\DE (fO X N scope s H C M pn) E T fe)
  (a4:Kh X N n fr scope)(al:∀x∈scope.names,x.2≠.cell)(L:∀x∈scope.names,x.2=.free->X.env.scope.names.lookup x.1=Wp .cell)(d:scope.kind=.function)(f:∀x∈scope.names,x.2=.local -> scope.names.lookup x.1=Wp .local)
  (hs:∀x,foldedSetIterable iter X.env x=pure x:=by intro _;rfl):Sr X E (.ListComp T [⟨B,iter,O,0⟩] scope pos) (cJ n fr ab tg tt fe):=by
 have as:∀s H C M pn,PG (fO X N scope s H C M pn) B (Po X.K tg)/\Si (fO X N scope s H C M pn) O (Qn X.K E tt)/\PE (fO X N scope s H C M pn) T (tD X.K E fe):=λs H C M pn=>
  ⟨λc U a0 H' v u Q' I r ⟨He,η,q'⟩=>((an s H C M pn).1 He η).o c U a0 H' v u Q' I r q',(an s H C M pn).2.1.o,(an s H C M pn).2.2.o⟩
 have first:∀{c:List<|Vi×Obj}{s:Vm}{t:L2.St}{H:Hp}{Q:VK}{RR:U5->Vi->Result->Vm->Prop},L2.Inv X c t H s->tF X.K E (cJ n fr ab tg tt fe) t H Q ->
   (∀(Da C:Vi) (s6:Vm) (H5:Hp) (m:Vq->Option U5),L2.Inv X c t H5 s6->s6.heap.Ns C m->rn X c H5 C->Q (.ref Da) H5->RR (.ref Da) C (.ok .next) s6) ->
   VC 4#X X.A (eval iter X.env) (λx si=>VC 4#X X.A (pyIter x) (λit sj=>VC 4#X X.A (newList []) (λj sk=>
    VC 4#X X.A (newFunctionEnv scope X.env.globals (jR X.env.cells scope.names []) [] X.env.qual Wb .none<|Wp X.env) (λY so=>
     Xm 4#X X.A (.compStart (.ListComp T [⟨B,iter,O,0⟩] scope pos) 0 it j { Y with scope:=relabel scope X.env }) (RR j Y.locals) so) X.xe sk) X.xe sj) X.xe si) X.xe s:=by
  intro c s t H Q RR I ⟨Ha,ρ,G,hr,q⟩ fin;refine cM (hi.o c s t H (λJ H1=>Cd n fr (Po X.K tg) (Qn X.K E tt) (tD X.K E fe) J t H1 Q) I ⟨Ha,ρ,G,hr,?_⟩) λv s1 h1=>cM h1 λa7 s2 h2=>F3 (N:=N) hc a4 al L d as h2 fin;unfold cJ at q;cases e1:ab ρ with
  |stuck|exn x=>rwa[e1]at q
  |ok ds=>
   rw[e1]at q;intro J H1 a8 g1 it;replace q:match (if ds.length<=line then match cj (dB n fr ρ) tg tt fe ds with
     |.ok es=>aw.ok<|D.lst es
     |_=>.stuck else .stuck) with
    |.ok (.lst ds)=>∀p vs H' l,bz H Ha H' l->H p=Wb->l p=Wb->H' p=Wp (.lst vs)->Reps X.K l ds vs->Q (.ref p) H'
    |.ok _=>False
    |.exn x=>∀C ox H' l,bz H Ha H' l->yG X.K l x C ox->E C ox H'
    |.stuck=>False:=q
   by_cases hl:ds.length<=line
   .rw[ef hl]at q
    cases e2:cj (dB n fr ρ) tg tt fe ds with
    |stuck|exn x=>rw[e2]at q;exact q.elim
    |ok es=>
     rw[e2]at q;exact Dk G g1 it hl e2 (hr.mono g1.z) hok q
   .rw[eo hl]at q;exact q.elim
 have ap:∀{c:List<|Vi×Obj}{s:Vm}{t:L2.St}{H:Hp},L2.Inv X c t H s->closureFor scope X.env=pure (jR X.env.cells scope.names []):=λ{c s t H} I=>xw λy hy hf=>I.ok.has y.1<|.inl<|L y hy hf;refine⟨λc s t H Q I h=>?_,λ{i x pos' a6} hN a3 hx a2 c s t H D' I h=>?_⟩
 .rw[eval_ListComp]
  refine wpAny_comprehension_free (use:=none) rfl hs (ap I) d f (first (RR:=λj C=>compPost 4#X X.A X.xe Wb (EP X c t Q) j C) I h λDa C s6 H5 m I6 ns g q=>?_);refine⟨m,ns,λh' sb=>⟨.ref Da,H5,?_,rfl,q⟩⟩;exact I6.turned (t':=s6.toks) (it:=C) (λb o hb e=>(sb.2 b hb).trans e) g.1 g.2.1 g.2.2.2.1 g.2.2.2.2.1 g.2.2.2.2.2
 .rw[exec_Assign_Name_used _ _ _ _ a2]
  refine Vb<|wpAny_standAt<|Vb ?_;show VC _ X.A (do let _ ←comprehension (.ListComp T [⟨B,iter,O,0⟩] scope pos) scope X.env _ (newList []) Vd (eval iter X.env) (Wp<|assign (.Name x pos') X.env)) _ _ s;refine Vb<|Wj (wpAny_comprehension_free (use:=some<|assign (.Name x pos') X.env) (Q:=λ_ U=>SP X c D' .next U) rfl hs (ap I) d f
   (first (RR:=λj C=>compPost 4#X X.A X.xe (Wp (assign (.Name x pos') X.env)) (λ_ U=>SP X c D' .next U) j C) I h λDa C s6 H5 m I6 ns g q=>?_)) (λ_ U hq=>VE (VE hq)) λ_ _ e=>e
  show VC _ X.A (assign (.Name x pos') X.env<|.ref Da) _ _ _;refine wpAny_assign_Name<|xG (v:=.ref Da) I6 hN a3 (.inl hx) rfl (λU I' z9=>?_) (.inr hx);obtain⟨a,sb,ha⟩:=z9;have a5:C≠a:=by
   rcases ha with rfl|ha
   .exact g.2.1
   .exact λz=>g.2.2.2.2.1 x a ha z.symm
  refine⟨m,ns.sameBut sb a5,λh' a1=>⟨_,H5,?_,q⟩⟩;exact I'.turned (t':=U.toks) (it:=C) (λb o hb e=>(a1.2 b hb).trans e) g.1 g.2.1 g.2.2.2.1 g.2.2.2.2.1 g.2.2.2.2.2
def RZ(h:Sr X E e f):DF X E e f:=⟨h.ev⟩
def ka{fr:db}(h:Sr X E e<|cJ n fr a tg b c):DE X E e (cJ n fr a tg b c):=JJ fN<|RZ h
section
variable {X:Cx}{E:XK}{He η:Hp}{e:V4}{f:bv}{s:ci}{pos:Pos}{st:Xi}
def unown(i:Nat)(ρ:Ev):Ev:=match ρ[i]? with
 |some (.ow d)=>ρ.set i<|.sh d
 |_=>ρ
def Co(i:Nat)(s:ci):ci:=λa=>s<|unown i a
def eG.unown{K:Va}(h:eG K He η Ha N H ρ)(i:Nat):∃M,aD Ha M/\eG K He η M N H (DL.unown i ρ):=by
 unfold DL.unown;cases e:ρ[i]? with
 |none=>exact⟨Ha,aD.refl _,h⟩
 |some s=>
  cases s with
  |no|sh d|ox j ds|pt a=>exact⟨Ha,aD.refl _,h⟩
  |ow d=>
   obtain⟨a,O,k2,k3,A⟩:=h.ow i d e;obtain⟨o,t,B⟩:∃o,H a=Wp o/\∀w,aD Ha w->w a=Wp o->Rep K w d (.ref a):=by
    cases d with
    |lst ds=>obtain⟨x,t,I⟩:=A;exact⟨_,t,λw z e=>aA.mpr ⟨a,x,rfl,fm.of e,I.mono z⟩⟩
    |dic ks ds=>obtain⟨x,t,p,I⟩:=A;exact⟨_,t,λw z e=>by rw[Rep];exact⟨a,_,x,rfl,.inl e,rfl,p,I.mono z⟩⟩
    |ob Y ds=>
     cases Y with|dint ks=>obtain⟨x,t,p,I⟩:=A;exact⟨_,t,λw z e=>by exact bj.mpr ⟨a,x,rfl,⟨_,.inl e,rfl,p⟩,I.mono z⟩⟩| _=>exact A.elim
    |_=>exact A.elim
   have z:aD Ha (upd Ha a o):=λb o' q=>by rw[ay (by intro z;subst z;rw[k3]at q;cases q)];exact q
   have h':eG K He η (upd Ha a o) N H (ρ.set i .no):=by
    have c:∀(j:Nat) (s:Sl),(ρ.set i .no)[j]?=Wp s->s≠.no->j≠i/\ρ[j]?=Wp s:=λj s q Q=>by
     by_cases u:i=j
     .subst u
      rw[Xz]at q;rw[e]at q;cases q;exact er rfl Q
     .rw[Vo u]at q;exact⟨λz=>u z.symm,q⟩
    refine⟨⟨h.g.s,h.g.z.trans z,λb o' q=>?_,λb m n=>?_⟩,λj L q=>?_,λj L q=>?_,λj k d1 d2 hn m n=>?_,by simp[h.ln],h.ex.upd (λj s q=>?_) z (λb us _ eb=>eb) λq us _ q0 hq hd=>?_⟩
    rotate_left 5
    .by_cases Q:s=.no
     .exact .inr<|.inr<|.inl Q
     .exact .inl ⟨(c j s q Q).2,rfl⟩
    .have al:q≠a:=by
      intro T;subst T;exact hd i _ e O
     exact⟨hq,by rw[ay al];exact q0⟩
    .by_cases r:b=a
     .subst r;rw[aC]at q;cases q;exact t
     .rw[ay r]at q;exact h.g.sub _ _ q
    .by_cases r:b=a
     .subst r;exact k2
     .rw[ay r]at m;exact h.g.nw b m n
    .obtain⟨u,q⟩:=c j _ q (λz=>nomatch z)
     obtain⟨v,m,n⟩:=h.rd j L q;exact⟨v,m,n.mono z⟩
    .obtain⟨u,q⟩:=c j _ q (λz=>nomatch z)
     obtain⟨b,m,n,q3,y⟩:=h.ow j L q;have r:b≠a:=by
      intro T;subst T;exact h.ap j i L d u q e (by rw[m,O])
     refine⟨b,m,n,by rw[ay r];exact q3,?_⟩;cases L with
     |lst J=>obtain⟨l,G,C⟩:=y;exact⟨l,G,C.mono z⟩|dic U J=>obtain⟨l,G,p,C⟩:=y;exact⟨l,G,p,C.mono z⟩
     |ob Y J=>
      cases Y with|dint U=>obtain⟨l,G,p,C⟩:=y;exact⟨l,G,p,C.mono z⟩| _=>exact y.elim
     |_=>exact y.elim
    .obtain⟨_,m⟩:=c j _ m (λz=>nomatch z)
     obtain⟨_,n⟩:=c k _ n<|λz=>nomatch z;exact h.ap j k d1 d2 hn m n
   refine⟨_,z,?_⟩;have hp:=h'.put (i:=i) (d:=d) (v:=.ref a)<|B _ z aC;rw[List.set_set]at hp;have ab:N.set i (Wp<|V.ref a)=N:=by
    apply Xt;intro k
    by_cases hk:i=k
    .subst hk
     obtain⟨an,_⟩:=Vn.mp O;rw[VT an,O]
    .rw[Vo hk]
   rwa[ab]at hp
def Di(i:Nat)(h:DS X E He η st s):DS X E He η st (Co i s):=⟨cA h.o λl g H z9=>by
 obtain⟨j,c,d,q⟩:=z9;obtain⟨b,z,a⟩:=d.unown i;exact⟨b,DL.unown i c,a,bX.grow (r:=s<|DL.unown i c) q z⟩⟩
end
def kc(N:cr)(n:Nat)(fr:db)(t:X.calm=VO)(hi:DI X E e iter g)(hok:J7 n tg)
  (o:∀s H C l pn,(∀v p,DG (fO X N scope s H C l pn) E v p e tg)/\SQ (fO X N scope s H C l pn) E i q/\DE (fO X N scope s H C l pn) E m u)
  (j:Kh X N n fr scope)(d:(scope.names.all λx=>!(x.2==.cell))=VO)(c:(scope.names.all λx=>!(x.2==.free)||(X.env.scope.names.lookup x.1==Wp .cell))=VO)(b:scope.kind=.function)
  (a:(scope.names.all λx=>!(x.2==.local)||(scope.names.lookup x.1==Wp .local))=VO)
  (r:∀x,foldedSetIterable iter X.env x=pure x:=by intro _;rfl):Sr X E (.ListComp m [⟨e,iter,i,0⟩] scope pos) (cJ n fr g tg q u):=by
 refine UT N n fr t hi hok o j (λx f z=>?_) (λx f z=>?_) b (λx f z=>?_) r
 .have:=V2.mp d x f
  rw[z]at this;simp at this
 .have:=V2.mp c x f
  rw[z]at this;simpa using this
 .have:=V2.mp a x f
  rw[z]at this;simpa using this
def kN(p:X.N.Nodup)(hi:X.N[i]?=Wp x)(l:X.env.scope.names.lookup x=Wp .local)(n:qA f)(o:Sr X E e f)(m:WI e (Wp<|.Name x pos') pos.line X.env=pure VO:=by rfl):DS X E w u (.Assign [.Name x pos'] e pos) (aJ i f):=by
 refine⟨cA (o.st p hi l m) λD t H ⟨r,b,h,q⟩=>?_⟩;refine Aq n ⟨r,b,h.g.sub,h.rd,?_⟩;refine plain h q λd v s a _ g c j=>?_;exact j _ s a (aD.refl _)<|(h.grow g).put c
end DL
namespace Com
open PySem L2 DL
def Ds:ci :=
 (ar (bJ<|gm (aL 0#6<|eY "int")<|cD<|aL 0#6<|eY "bool")
 au)
def m_is_whole:ac->aw D:=bH 1 Ds
noncomputable def eQ:ci :=
 (ar (aJ 2<|ak (ae 0#6 av)<|m1 xu)
 (ar (aJ 3<|ak (ae 1#6 av)<|m1 xu)
 (ar (ib (tm 3) (ag 3#6 0#0 iE)
 (ar (aJ 4<|ag 2#6 3#6 dO)
 (ar (aJ 2<|af 3)
 (ar (aJ 3<|af 4)
 au))))
 (ar (bJ<|af 2)
 au))))
def m_common_divisor:ac->aw D:=bH 5 eQ
noncomputable def tL:ci :=
 (ar (dG (iU (cD<|ak (ae 0#6 av) m_is_whole)<|cD<|ak (ae 1#6 av) m_is_whole)
 (ar gA
 au)
 au)
 (ar (dG (ag 1#6 0#0 gZ)
 (ar gA
 au)
 au)
 (ar (aJ 2<|ak (ae 0#6<|ae 1#6 av) m_common_divisor)
 (ar (dG (ag 1#6 0#0 B4)
 (ar (aJ 2<|aL 2#6 k9)
 au)
 au)
 (ar (bJ<|ak (ae (ag 0#6 2#6 sN)<|ae (ag 1#6 2#6 sN) av) bI)
 au)))))
def m_ratio:ac->aw D:=bH 3 tL
noncomputable def Dr:ci :=
 (ar (bJ<|ak (ae (ag (ag (ag 0#6 0#0 aE) (ag 1#6 1#0 aE) dm) (ag (ag 1#6 0#0 aE) (ag 0#6 1#0 aE) dm) aV)<|ae (ag (ag 0#6 1#0 aE) (ag 1#6 1#0 aE) dm) av) m_ratio)
 au)
def m_plus:ac->aw D:=bH 2 Dr
def rm:ci :=
 (ar (bJ<|ag (ag (ag 0#6 0#0 aE) (ag 1#6 1#0 aE) dm) (ag (ag 1#6 0#0 aE) (ag 0#6 1#0 aE) dm) B4)
 au)
def m_is_less:ac->aw D:=bH 2 rm
def wA:ci :=
 (ar (aJ 1<|dC<|.tup [(.int 0),(.int 1)])
 (ar (lD 0#6 (bK 2)
 (ar (aJ 1<|ak (ae 1#6<|ae 2#6 av) m_plus)
 au))
 (ar (bJ<|af 1)
 au)))
def m_sum_of:ac->aw D:=bH 3 wA
def Ge{f:c->aw b}:(aw.ok a).bind f=f a:=rfl
def jJ(h:s ρ=.ok (.nx ρ')):ar s t ρ=t ρ':=by unfold ar;rw[h];rfl
def uc(h:s ρ=.ok (.rt d)):ar s t ρ=.ok (.rt d):=by unfold ar;rw[h];rfl
def Hj(h:s ρ=.ok (.nx ρ')):ar s au ρ=.ok (.nx ρ'):=by unfold ar;rw[h];rfl
def Cj(h:f ρ=.ok d):aJ i f ρ=.ok (.nx<|ρ.set i<|.sh d):=by unfold aJ;rw[h];rfl
def uf(h:f (fQ ρ)=.ok d):bJ f ρ=.ok (.rt d):=by unfold bJ;rw[h];rfl
def Pg(h:c (fQ ρ)=.ok (.bl Vd)):dG c s t ρ=t ρ:=by unfold dG;rw[h];rfl
def nG:iE (.int i) (.int j)=.ok (.bl (!(i==j))):=by unfold iE;rw[ef ⟨rfl,rfl⟩,cX]
def qQ:gZ (.int i) (.int j)=.ok (.bl<|i==j):=by unfold gZ;rw[ef ⟨rfl,rfl⟩,cX]
def Cp(h:s (ds.map Sl.sh++Vt (n-ds.length) .no)=.ok (.rt d)):bH n s ds=.ok d:=by unfold bH;rw[h];rfl
def qr(h:f ρ=.ok x)(h':a ρ=.ok xs):ae f a ρ=.ok (x::xs):=by unfold ae;rw[h,Ge,h'];rfl
def fk(h:f ρ=.ok x)(h':g ρ=.ok y):ag f g a ρ=a x y:=by unfold ag;rw[h,Ge,h'];rfl
def qh(h:a ρ=.ok xs):ak a m ρ=m xs:=by unfold ak;rw[h];rfl
def IK(h:b≠0):dO (.int a) (.int b)=.ok (.int<|a.fmod b):=by
 show(if decide (b≠0)=VO then aw.ok (D.int<|a.fmod b) else .stuck)=_;rw[ef (dV h)]
def JG(h:gY a b=VO):sN (.int a) (.int b)=.ok (.int<|a.fdiv b):=by
 show(if gY a b=VO then aw.ok (D.int<|a.fdiv b) else .stuck)=_;rw[ef h]
def uG(h:eU a b=VO):dm (.int a) (.int b)=.ok (.int<|a*b):=by
 show(if eU a b=VO then aw.ok (D.int<|a*b) else .stuck)=_;rw[ef h]
def A8(a b:Int):VW b (a.fmod b)=VW a b:=by
 rw[Int.fmod_def,Int.gcd_sub_mul_left_right,saq]
def Mf{a b:Int}(h:b≠0):(a.fmod b).natAbs<b.natAbs:=by
 rcases Int.lt_or_gt_of_ne h with c|c
 .have e:=Zr (-a) (show 0 < -b by omega)
  have d:=Yq (-a) (show 0 < -b by omega);rw[Int.neg_fmod_neg]at e d;omega
 .have e:=Zr a c
  have d:=Yq a c;omega
theorem rV:∀(n:Nat) (x y:D) (a b:Int) (r:Sl),0<=a->0<=b->b.natAbs<n->∃f,
  cu (ag 3#6 0#0 iE) (ar (aJ 4<|ag 2#6 3#6 dO)<|ar (aJ 2<|af 3)<|ar (aJ 3<|af 4) au) n [.sh x,.sh y,.sh<|.int a,.sh<|.int b,r]=.ok (.nx [.sh x,.sh y,.sh<|.int<|VW a b,.sh<|.int 0,f])
 |0,_,_,a,b,_,_,_,h=>er h<|Nat.not_lt_zero _
 |n+1,x,y,a,b,r,l,g,h=>by
  unfold cu;have c:∀r,(ag 3#6 0#0 iE) (fQ [.sh x,.sh y,.sh<|.int a,.sh<|.int b,r])=.ok (.bl (!(b==0))):=λr=>nG;rw[c]
  by_cases d:b=0
  .subst d
   refine⟨r,?_⟩;have e:((VW a 0:Nat):Int)=a:=by simp;omega
   rw[e];rfl
  .have e:(!(b==0))=VO:=by simp[d]
   have j:0<b:=by omega
   obtain⟨f,i⟩:=rV n x y b (a.fmod b) (.sh<|.int<|a.fmod b) g (Yq a j) (by have:=Mf (a:=a) d;omega);refine⟨f,?_⟩;rw[A8]at i;rw[←i,e];have st:(ar (aJ 4<|ag 2#6 3#6 dO)<|ar (aJ 2<|af 3)<|ar (aJ 3<|af 4) au) [.sh x,.sh y,.sh<|.int a,.sh<|.int b,r]=.ok (.nx [.sh x,.sh y,.sh<|.int b,.sh<|.int<|a.fmod b,.sh<|.int<|a.fmod b]):=by
    have m:(ag 2#6 3#6 dO) [.sh x,.sh y,.sh<|.int a,.sh<|.int b,r]=.ok (.int<|a.fmod b):=by
     exact IK d
    rw[jJ (Cj m)];rfl
   show(aw.bind _ _)=_;rw[st];rfl
def mT(a b:Int):m_common_divisor [.int a,.int b]=.ok (.int<|VW a b):=by
 have e:∀i:Int,(if i<0 then -i else i)=(i.natAbs:Int):=λi=>by split<;>omega
 obtain⟨d,h⟩:=rV ((b.natAbs:Int).natAbs+1) (.int a) (.int b) a.natAbs b.natAbs .no (Int.natCast_nonneg _) (Int.natCast_nonneg _)<|Xx _;have f:VW (a.natAbs:Int) (b.natAbs:Int)=VW a b:=by simp[VW]
 rw[f]at h;have r:eQ [.sh<|.int a,.sh<|.int b,.no,.no,.no]=.ok (.rt<|.int<|VW a b):=by
  unfold eQ;rw[jJ (ρ':=[.sh<|.int a,.sh<|.int b,.sh<|.int (a.natAbs:Int),.no,.no]) (by rw[←e a];rfl)];rw[jJ (ρ':=[.sh<|.int a,.sh<|.int b,.sh<|.int (a.natAbs:Int),.sh<|.int (b.natAbs:Int),.no]) (by rw[←e b];rfl)];have w:ib (tm 3) (ag 3#6 0#0 iE) (ar (aJ 4<|ag 2#6 3#6 dO)<|ar (aJ 2<|af 3)<|ar (aJ 3<|af 4) au) [.sh<|.int a,.sh<|.int b,.sh<|.int (a.natAbs:Int),.sh<|.int (b.natAbs:Int),.no]=.ok (.nx [.sh<|.int a,.sh<|.int b,.sh<|.int<|VW a b,.sh<|.int 0,d]):=h;rw[jJ w];exact uc<|uf rfl
 show(eQ [.sh<|.int a,.sh<|.int b,.no,.no,.no]).bind _=_;rw[r];rfl
def Cz:(2:Nat) ^ 64<=Ad:=by rw[rz];exact WA 0#1 0#1
def RF{i:Int}(h:i.natAbs<18446744073709551616):i.natAbs<Ad:=Vk h Cz
def jZ(h:i.natAbs<18446744073709551616)(h':j.natAbs<18446744073709551616):eU i j=VO:=by
 unfold eU;rw[Vv];exact⟨dV<|RF h,dV<|RF h'⟩
def nH(h:i.natAbs<Ad)(h':j.natAbs<Ad):eU i j=VO:=by
 unfold eU;rw[Vv];exact⟨dV h,dV h'⟩
def NH(a:j≠0)(h:j.natAbs<B9):gY i j=VO:=by
 unfold gY;rw[Vv,ZO];exact⟨dV a,.inl<|dV h⟩
def vZ(a:j≠0)(h:i.natAbs<wR):gY i j=VO:=by
 unfold gY;rw[Vv,ZO];exact⟨dV a,.inr<|dV h⟩
def c5{k:Nat}(h:ds[k]?=Wp d):aE (.lst ds) (.int (k:Int))=.ok d:=by
 unfold aE;simp only[gp h]
def eV{a b:Int}(c:0<b):0<=a.fmod b/\a.fmod b<b:=⟨Yq a c,Zr a c⟩
def FK{n k:Nat}(h:k<n):(DL.intsFrom 0 n).drop k=.int (k:Int)::(DL.intsFrom 0 n).drop (k+1):=by
 have a:(DL.intsFrom 0 n).length=n:=by unfold DL.intsFrom;simp
 rw[WB (by rw[a];exact h)]
 congr 1
 unfold DL.intsFrom;simp
def Jf:(DL.intsFrom 0 n).drop n=[]:=by
 have a:(DL.intsFrom 0 n).length=n:=by unfold DL.intsFrom;simp
 exact san 0#2
def dr(b:tg ρ d=.ok ρ1)(a:s ρ1=.ok (.nx ρ2)):bT tg s (d::r) ρ=bT tg s r ρ2:=by
 rw[bT,b,Ge,a,Ge]
def Gw:D->Bool
 |.int _=>VO
 |_=>Vd
def cH(d:D):m_is_whole [d]=.ok (.bl<|Gw d):=by cases d<;>first|rfl|(rename_i k _;cases k<;>rfl)
def j8{a g:Int}(b:0<g):a.fdiv g=a / g:=Int.fdiv_eq_ediv_of_nonneg a 0#2
def tj(h:b≠0):0<(VW a b:Int):=by
 have:=Int.gcd_pos_of_ne_zero_right a h;omega
def HL(g:0<b)(f:a.natAbs<wR)(e:b.natAbs<wR):m_ratio [.int a,.int b]=.ok (.tup [.int<|a / VW a b,.int<|b / VW a b]):=by
 have d:=tj (a:=a) (b:=b) 0#2;have r:tL [.sh<|.int a,.sh<|.int b,.no]=.ok (.rt<|.tup [.int<|a / VW a b,.int<|b / VW a b]):=by
  unfold tL;rw[jJ (ρ':=[.sh<|.int a,.sh<|.int b,.no]) (Pg (t:=au) rfl)];rw[jJ (ρ':=[.sh<|.int a,.sh<|.int b,.no]) (Pg (t:=au)<|(fk (x:=.int b) (y:=.int 0) rfl rfl).trans<|qQ.trans<|by rw[beq_eq_false_iff_ne.mpr 0#2])];rw[jJ (ρ':=[.sh<|.int a,.sh<|.int b,.sh<|.int<|VW a b]) (Cj<|(qh (xs:=[.int a,.int b]) rfl).trans<|mT a b)];rw[jJ (ρ':=[.sh<|.int a,.sh<|.int b,.sh<|.int<|VW a b]) (Pg (t:=au) (by
   show aw.ok (D.bl (decide (b<0)))=_;rw[en 0#2]))]
  refine uc<|uf ?_;refine(qh (xs:=[.int<|a / VW a b,.int<|b / VW a b])<|qr ?_<|qr ?_ rfl).trans rfl
  .rw[←j8 d]
   exact(fk (x:=.int a) (y:=.int<|VW a b) rfl rfl).trans (JG<|vZ 0#2 f)
  .rw[←j8 d]
   exact(fk (x:=.int b) (y:=.int<|VW a b) rfl rfl).trans (JG<|vZ 0#2 e)
 show(tL [.sh<|.int a,.sh<|.int b,.no]).bind _=_;rw[r];rfl
def RU(p q:Int):D:=.tup [.int p,.int q]
end Com
open Com
namespace Com
open PySem L2 DL
abbrev iz:=Int×Int
def fr(x:iz):D:=RU x.1 x.2
def wU:Nat:=1000000000000000000000000000000000000000000000000000000000000
def Qf:wU<=B9:=by rw[Kj];exact Vr (show wU<=2 ^ 200 by decide) (WA 0#1<|by decide)
def M7:wU<=wR:=by rw[mn];exact Vr (show wU<=2 ^ 200 by decide) (WA 0#1<|by decide)
def kX:wU<=Ad:=by rw[rz];exact Vr (show wU<=2 ^ 200 by decide) (WA 0#1<|by decide)
def Ae:wR<=Ad:=by rw[mn,rz];exact WA 0#1 0#1
structure Low (x:iz):Prop where
 q1:1<=x.2
 g1:VW x.1 x.2=1
structure eF (x:iz):Prop extends Low x where
 pN:x.1.natAbs<wU
 qN:x.2.natAbs<wU
def kH(a b:Int):iz:=(a / VW a b,b / VW a b)
def mG(d:0<b):Low (kH a b):=by
 have c:=tj (a:=a) (b:=b) 0#2;refine⟨?_,Int.gcd_ediv_gcd_ediv_gcd<|by omega⟩;have:=Int.ediv_gcd_ne_zero_if_ne_zero_right a (show b≠0 by omega);have e:0<=b / (VW a b:Int):=ZN 0#2 0#2;show 1<=b / (VW a b:Int);omega
def zp:(kH a b).1*b=a*(kH a b).2:=by
 unfold kH;obtain⟨x,e⟩:=ZI a b;obtain⟨y,d⟩:=ZC a b
 by_cases c:(VW a b:Int)=0
 .simp only[c,Int.ediv_zero,sap,Int.mul_zero]
 .generalize i:(VW a b:Int)=G at *
  have g:a / G=x:=by rw[e];exact YY x c
  have f:b / G=y:=by rw[d];exact YY y c
  show a / G*b=a*(b / G);rw[g,f]
  calc x*b=x*(G*y):=by rw[←d]
   _=G*x*y:=by grind
   _=a*y:=by rw[←e]
def zr:(kH a b).1.natAbs<=a.natAbs:=WM _ _
def zq:(kH a b).2.natAbs<=b.natAbs:=WM _ _
def IQ(b:Low x)(a:Low y)(h:x.1*y.2=y.1*x.2):x=y:=by
 have f:x.2∣y.2:=by
  have:x.2∣x.1*y.2:=⟨y.1,by rw[h];exact Y7 _ _⟩
  rw[←ZP,saq,b.g1]at this;simpa using this
 have d:y.2∣x.2:=by
  have:y.2∣y.1*x.2:=⟨x.1,by rw[←h];exact Y7 _ _⟩
  rw[←ZP,saq,a.g1]at this;simpa using this
 have e:x.2=y.2:=Int.dvd_antisymm (by have:=b.q1;omega) (by have:=a.q1;omega) f d;have c:x.1=y.1:=by
  rw[e]at h;exact ZX (by have:=a.q1;omega) h
 exact Prod.ext c e
def uh(c:0<b)(e:a.natAbs<wR)(d:b.natAbs<wR):m_ratio [.int a,.int b]=.ok (fr<|kH a b):=HL c e d
def RG(c:0<b)(e:a.natAbs<wU)(d:b.natAbs<wU):eF (kH a b):=⟨mG c,VN zr e,VN zq d⟩
def flt(x y:iz):Bool:=decide (x.1*y.2<y.1*x.2)
def Ny(b:x.natAbs<wU)(a:y.natAbs<wU):eU x y=VO:=nH (Vk b kX)<|Vk a kX
def C1(b:eF x)(a:eF y):m_is_less [fr x,fr y]=.ok (.bl<|flt x y):=by
 refine Cp (n:=2) (ds:=[fr x,fr y]) ?_;show rm [.sh<|fr x,.sh<|fr y]=_;unfold rm;refine uc<|uf ?_;refine(fk (x:=.int<|x.1*y.2) (y:=.int<|y.1*x.2) ?_ ?_).trans rfl
 .exact(fk (x:=.int x.1) (y:=.int y.2) rfl rfl).trans<|uG<|Ny b.pN a.qN
 .exact(fk (x:=.int y.1) (y:=.int x.2) rfl rfl).trans<|uG<|Ny a.pN b.qN
theorem EB{tg:Ev->D->aw Ev}{body:ci}(P:Ev->Prop):∀{ds:ac},(∀d∈ds,∀ρ,P ρ->∃ρ1 ρ2,tg ρ d=.ok ρ1/\body ρ1=.ok (.nx ρ2)/\P ρ2)->∀ρ,P ρ->∃ρ',bT tg body ds ρ=.ok (.nx ρ')/\P ρ'
 |[],_,ρ,h=>⟨ρ,rfl,h⟩
 |d::r,a,ρ,h=>by
  obtain⟨ρ1,ρ2,j,i,g⟩:=a d Ve ρ h;obtain⟨ρ',f,c⟩:=EB P (λe b=>a e<|U9 _ b) ρ2 g;exact⟨ρ',by rw[dr j i];exact f,c⟩
def UO{c:Type}{a b:c}(h:a=b):a=b:=h
def Oj(t:ci)(r:Fl):aw Fl:=match r with
 |.nx a=>t a
 |r=>.ok r
def Q1(i:Nat)(ρ:Ev)(d:D):aw Fl:=.ok<|.nx<|ρ.set i<|.sh d
def Q4(d:D):aw Fl:=.ok<|.rt d
def NF(ρ:Ev)(_:D):aw Fl:=.ok<|.nx ρ
def TJ(s t:ci)(ρ:Ev)(x:D):aw Fl:=match x with
 |.bl b=>if b=VO then s ρ else t ρ
 |_=>.stuck
def Rv(i:Nat)(ρ:Ev)(d:D):aw Fl:=match d with
 |.lst a=>.ok<|.nx<|ρ.set i<|.ow<|.lst a
 |_=>.stuck
def LA(s:Option Sl)(k:ac->aw Fl):aw Fl:=match s with
 |some (.ow (.lst a))=>k a
 |_=>.stuck
def R9(i:Nat)(ρ:Ev)(ds:ac)(d:D):aw Fl:=if ds.length<line then .ok (.nx<|ρ.set i<|.ow<|.lst<|ds++[d]) else .stuck
def jY(i:Nat)(ρ:Ev)(k:bv)(ds:ac)(d:D):aw Fl:=(k ρ).bind<|DL.putAt ρ i ds d
def Cv(i:Nat)(ρ:Ev)(ds:ac)(d j:D):aw Fl:=if lP d=VO then DL.putAt ρ i ds d j else .stuck
def rE(i:Nat)(ρ:Ev)(k:bv)(ds:ac)(d:D):aw Fl:=(k<|fQ ρ).bind<|Cv i ρ ds d
def N0(a:db)(ρ:Ev)(d:D):aw Fl:=match fX a.length d with
 |some b=>.ok<|.nx<|dz ρ a b
 |none=>.stuck
def Ru(i j:Nat)(ρ:Ev)(ds:ac):aw Fl:=match ds with
 |[x,y]=>.ok<|.nx<|(ρ.set i<|.sh x).set j<|.sh y
 |_=>.stuck
def k2(g:bv)(a:D->D->aw D)(ρ:Ev)(x:D):aw D:=(g ρ).bind<|a x
def Dj(x:D)(xs:ac):aw (ac):=.ok (x::xs)
def NI(a:Ev->aw (ac))(ρ:Ev)(x:D):aw (ac):=(a ρ).bind<|Dj x
def Qa(g:bv)(ρ:Ev)(x:D):aw D:=match x with
 |.bl VO=>g ρ
 |.bl Vd=>.ok<|.bl Vd
 |_=>.stuck
def Ts(g:bv)(ρ:Ev)(x:D):aw D:=match x with
 |.bl VO=>.ok<|.bl VO
 |.bl Vd=>g ρ
 |_=>.stuck
def RC(x:D):aw D:=match x with
 |.bl b=>.ok<|.bl (!b)
 |_=>.stuck
def Pf(f g:bv)(ρ:Ev)(x:D):aw D:=match x with
 |.bl VO=>f ρ
 |.bl Vd=>g ρ
 |_=>.stuck
def QD(s:Option Sl):aw D:=match s with
 |some (.sh d)=>.ok d
 |_=>.stuck
def Hi(s:Sl):Sl:=match s with
 |.ow d=>.sh d
 |.ox _ a=>.sh<|.tup a
 |x=>x
def Hr(r:Fl):aw D:=match r with
 |.nx _=>.ok .non
 |.rt d=>.ok d
 |_=>.stuck
def Ul(x:D):aw (Option Int):=match x with
 |.int i=>.ok<|Wp i
 |_=>.stuck
def Fd(x:D)(l:Option Int)(h:Option Int):aw D:=ua x l h
def Th(hi:Ev->aw (Option Int))(ρ:Ev)(x:D)(l:Option Int):aw D:=(hi ρ).bind<|Fd x l
def QZ(lo hi:Ev->aw (Option Int))(ρ:Ev)(x:D):aw D:=(lo ρ).bind<|Th hi ρ x
def RV(tg:Ev->D->aw Ev)(s:ci)(ρ:Ev)(d:D):aw Fl:=match d with
 |.lst a=>bT tg s a ρ
 |_=>.stuck
def MD(a:D->D->aw D)(h:bv)(ρ:Ev)(y z:D):aw D:=match z with
 |.bl VO=>(h ρ).bind<|a y
 |.bl Vd=>.ok<|.bl Vd
 |_=>.stuck
def PX(b a:D->D->aw D)(h:bv)(ρ:Ev)(x y:D):aw D:=(b x y).bind<|MD a h ρ y
def Us(b a:D->D->aw D)(g h:bv)(ρ:Ev)(x:D):aw D:=(g ρ).bind<|PX b a h ρ x
section
variable {s t:ci}{f g h:bv}{fa:Ev->aw (ac)}{ρ r:Ev}{i j:Nat}{d x y:D}{ds xs:ac}{op op':D->D->aw D}{a b:Int}
def rS{a:c}{k:c->aw e}:(aw.ok a).bind k=k a:=rfl
def nN:ar s t ρ=(s ρ).bind (Oj t):=rfl
def o9:Oj t (.nx ρ)=t ρ:=rfl
def o7:Oj t (.rt d)=.ok (.rt d):=rfl
def pC:au ρ=.ok (.nx ρ):=rfl
def nM:aJ i f ρ=(f ρ).bind (Q1 i ρ):=rfl
def o5:Q1 i ρ d=.ok (.nx<|ρ.set i<|.sh d):=rfl
def vo:bJ f ρ=(f<|fQ ρ).bind Q4:=rfl
def pe:Q4 d=.ok (.rt d):=rfl
def pZ:fL f ρ=(f<|fQ ρ).bind (NF ρ):=rfl
def lV:NF ρ d=.ok (.nx ρ):=rfl
def Bq:dG f s t ρ=(f<|fQ ρ).bind (TJ s t ρ):=rfl
def vK:TJ s t ρ (.bl VO)=s ρ:=rfl
def vJ:TJ s t ρ (.bl Vd)=t ρ:=rfl
def vz:mX i f ρ=(f ρ).bind (Rv i ρ):=rfl
def pA:Rv i ρ (.lst ds)=.ok (.nx<|ρ.set i<|.ow<|.lst ds):=rfl
def vV:bP i f ρ=LA ρ[i]? λds=>(f ρ).bind (R9 i ρ ds):=rfl
def pz{k:ac->aw Fl}:LA (Wp<|.ow<|.lst ds) k=k ds:=rfl
def du(h:decide (ds.length<=999)=VO):R9 i ρ ds d=.ok (.nx<|ρ.set i<|.ow<|.lst<|ds++[d]):=ef (VN (et h)<|by decide)
def vq:K4 i f g ρ=LA ρ[i]? λds=>(f ρ).bind (jY i ρ g ds):=rfl
def pq:jY i ρ g ds d=(g ρ).bind (DL.putAt ρ i ds d):=rfl
def pj:DX i f g ρ=LA ρ[i]? λds=>(f<|fQ ρ).bind (rE i ρ g ds):=rfl
def lR:rE i ρ g ds d=(g<|fQ ρ).bind (Cv i ρ ds d):=rfl
def Jz(c:lP d=VO):Cv i ρ ds d x=DL.putAt ρ i ds d x:=ef c
def vL:Co i s ρ=s (unown i ρ):=rfl
def va:Om c f ρ=(f ρ).bind (N0 c ρ):=rfl
def vy:Ho i j fa ρ=(fa ρ).bind (Ru i j ρ):=rfl
def pw:Ru i j ρ [x,y]=.ok (.nx<|(ρ.set i<|.sh x).set j<|.sh y):=rfl
def Bv:aL f o ρ=(f ρ).bind o:=rfl
def vU:ag f g op ρ=(f ρ).bind (k2 g op ρ):=rfl
def vT:k2 g op ρ x=(g ρ).bind (op x):=rfl
def vS:ak fa m ρ=(fa ρ).bind m:=rfl
def vE:av ρ=.ok []:=rfl
def iH:ae f fa ρ=(f ρ).bind (NI fa ρ):=rfl
def jh:NI fa ρ x=(fa ρ).bind (Dj x):=rfl
def lW:Dj x xs=.ok (x::xs):=rfl
def vW:gm f g ρ=(f ρ).bind (Qa g ρ):=rfl
def p6:Qa g ρ (.bl VO)=g ρ:=rfl
def p0:Qa g ρ (.bl Vd)=.ok (.bl Vd):=rfl
def Bm:iU f g ρ=(f ρ).bind (Ts g ρ):=rfl
def vC:Ts g ρ (.bl VO)=.ok (.bl VO):=rfl
def vB:Ts g ρ (.bl Vd)=g ρ:=rfl
def vD:cD f ρ=(f ρ).bind RC:=rfl
def pB:RC (.bl c)=.ok (.bl (!c)):=rfl
def vI:Km h f g ρ=(h ρ).bind (Pf f g ρ):=rfl
def pR:Pf f g ρ (.bl VO)=f ρ:=rfl
def pQ:Pf f g ρ (.bl Vd)=g ρ:=rfl
def u3:af i ρ=QD ρ[i]?:=rfl
def oS:QD (Wp<|.sh d)=.ok d:=rfl
def JB:dC d ρ=.ok d:=rfl
def oZ:fQ []=[]:=rfl
def vm:fQ (c::r)=Hi c::fQ r:=rfl
def oY:Hi (.ow d)=.sh d:=rfl
def zG:Hi (.ox j ds)=.sh (.tup ds):=rfl
def oX:Hi (.sh d)=.sh d:=rfl
def oW:Hi .no=.no:=rfl
def nO:bH n s ds=(s<|ds.map Sl.sh++Vt (n-ds.length) .no).bind Hr:=rfl
def pd:Hr (.rt d)=.ok d:=rfl
def pb:Hr (.nx ρ)=.ok .non:=rfl
def Bl:bS f ρ=(f ρ).bind Ul:=rfl
def vA:Ul (.int a)=.ok (Wp a):=rfl
def Bn:cR ρ=.ok Wb:=rfl
def Bj:dZ f lo hi ρ=(f ρ).bind (QZ lo hi ρ):=rfl
def vk:QZ lo hi ρ x=(lo ρ).bind (Th hi ρ x):=rfl
def vj:Th hi ρ x l=(hi ρ).bind (Fd x l):=rfl
def vi:Fd (.lst ds) l c=.ok (.lst<|cE ds l c):=rfl
def vN:lD f tg s ρ=(f ρ).bind (RV tg s ρ):=rfl
def pV:RV tg s ρ (.lst ds)=bT tg s ds ρ:=rfl
def lX:jk op op' f g h ρ=(f ρ).bind (Us op op' g h ρ):=rfl
def Br:Us op op' g h ρ x=(g ρ).bind (PX op op' h ρ x):=rfl
def vR:PX op op' h ρ x y=(op x y).bind (MD op' h ρ y):=rfl
def vQ:MD op' h ρ y (.bl VO)=(h ρ).bind (op' y):=rfl
def vP:MD op' h ρ y (.bl Vd)=.ok (.bl Vd):=rfl
def vH:A3 (λ_ _=>VO) o (.int a) (.int b)=.ok (o a b):=rfl
def vX:aV (.int a) (.int b)=.ok (.int<|a+b):=rfl
def dX(h:decide (ds.length+c.length<=1000)=VO):aV (.lst ds) (.lst c)=.ok (.lst<|ds++c):=ef (Vr (et h)<|by decide)
def vF:k9 (.int a)=.ok (.int (-a)):=rfl
def Bp:m1 m [x]=m x:=rfl
def Bo:m2 m [x,y]=m x y:=rfl
def pF:eg (.lst ds)=.ok (.int ds.length):=rfl
def pE:eg (.tup ds)=.ok (.int ds.length):=rfl
def vd(h:decide (ds.length<=1000)=VO):bI ds=.ok (.tup ds):=ef (Vr (et h)<|by decide)
def vG(h:decide (ds.length<=1000)=VO):aZ ds=.ok (.lst ds):=ef (Vr (et h)<|by decide)
def ff:eY "str" (.str z)=.ok (.bl VO):=rfl
def dR:eY "tuple" (.tup ds)=.ok (.bl VO):=rfl
def eB:eY "list" (.lst ds)=.ok (.bl VO):=rfl
def jg:qX (.non) .non=.ok (.bl VO):=rfl
def gX:jC (.non) .non=.ok (.bl Vd):=rfl
def jf:qX (.tup ds) .non=.ok (.bl Vd):=rfl
def jN(h:eU a b=VO):dm (.int a) (.int b)=.ok (.int<|a*b):=ef h
def qP(h:(b==0)=Vd):dO (.int a) (.int b)=.ok (.int<|a.fmod b):=IK (λz=>by rw[z]at h;cases h)
def vO(h:gY a b=VO):sN (.int a) (.int b)=.ok (.int<|a.fdiv b):=ef h
def oU(h:(ds.length==c.length)=VO):N0 c ρ (.tup ds)=.ok (.nx<|dz ρ c ds):=by
 unfold N0 fX;simp only[ef (eq_of_beq h)]
def Bk:dz ρ (i::c) (d::ds)=dz (ρ.set i<|.sh d) c ds:=rfl
def vn:dz ρ [] ds=ρ:=rfl
def SV(i:Nat)(ρ:Ev)(s:Option Sl):Ev:=match s with
 |some (.ow d)=>ρ.set i<|.sh d
 |_=>ρ
def Bi:unown i ρ=SV i ρ ρ[i]?:=rfl
def vc:SV i ρ (Wp<|.ow d)=ρ.set i (.sh d):=rfl
def vb:SV i ρ (Wp<|.sh d)=ρ:=rfl
def lS{j:Int}(h:xt ds.length j=Wp n):DL.putAt ρ i ds d (.int j)=.ok (.nx<|ρ.set i<|.ow<|.lst<|ds.set n d):=by
 unfold DL.putAt;simp only[h]
def mO:aE (.lst (x0::xs)) (.int 0)=.ok x0:=by
 unfold aE;simp only[show atI (x0::xs) 0=Wp x0 from gp (j:=0) rfl]
def pM:aE (.tup (x0::xs)) (.int 0)=.ok x0:=by
 unfold aE;simp only[show atI (x0::xs) 0=Wp x0 from gp (j:=0) rfl]
def mM:aE (.lst (x0::x1::xs)) (.int 1)=.ok x1:=by
 unfold aE;simp only[show atI (x0::x1::xs) 1=Wp x1 from gp (j:=1) rfl]
def pL:aE (.tup (x0::x1::xs)) (.int 1)=.ok x1:=by
 unfold aE;simp only[show atI (x0::x1::xs) 1=Wp x1 from gp (j:=1) rfl]
def pP:aE (.lst (x0::x1::x2::xs)) (.int 2)=.ok x2:=by
 unfold aE;simp only[show atI (x0::x1::x2::xs) 2=Wp x2 from gp (j:=2) rfl]
def pK:aE (.tup (x0::x1::x2::xs)) (.int 2)=.ok x2:=by
 unfold aE;simp only[show atI (x0::x1::x2::xs) 2=Wp x2 from gp (j:=2) rfl]
def pO:aE (.lst (x0::x1::x2::x3::xs)) (.int 3)=.ok x3:=by
 unfold aE;simp only[show atI (x0::x1::x2::x3::xs) 3=Wp x3 from gp (j:=3) rfl]
def pJ:aE (.tup (x0::x1::x2::x3::xs)) (.int 3)=.ok x3:=by
 unfold aE;simp only[show atI (x0::x1::x2::x3::xs) 3=Wp x3 from gp (j:=3) rfl]
def pI:aE (.tup (x0::x1::x2::x3::x4::xs)) (.int 4)=.ok x4:=by
 unfold aE;simp only[show atI (x0::x1::x2::x3::x4::xs) 4=Wp x4 from gp (j:=4) rfl]
def Bu:((2:Nat):Int)=2:=rfl
def Bt:((4:Nat):Int)=4:=rfl
def Bs:((5:Nat):Int)=5:=rfl
def vx:DL.putAt ρ i (x0::xs) d (.int 0)=.ok (.nx<|ρ.set i<|.ow<|.lst (d::xs)):=by
 refine(lS (n:=0) ?_).trans rfl;unfold xt;rw[ef 0#1,ef (by simp only[Vp];omega)];rfl
def vw:DL.putAt ρ i (x0::x1::xs) d (.int 1)=.ok (.nx<|ρ.set i<|.ow<|.lst (x0::d::xs)):=by
 refine(lS (n:=1) ?_).trans rfl;unfold xt;rw[ef 0#1,ef (by simp only[Vp];omega)];rfl
def vv:DL.putAt ρ i (x0::x1::x2::xs) d (.int 2)=.ok (.nx<|ρ.set i<|.ow<|.lst (x0::x1::d::xs)):=by
 refine(lS (n:=2) ?_).trans rfl;unfold xt;rw[ef 0#1,ef (by simp only[Vp];omega)];rfl
def vt:DL.putAt ρ i (x0::x1::x2::x3::xs) d (.int 3)=.ok (.nx<|ρ.set i<|.ow<|.lst (x0::x1::x2::d::xs)):=by
 refine(lS (n:=3) ?_).trans rfl;unfold xt;rw[ef 0#1,ef (by simp only[Vp];omega)];rfl
end
def NB(a:Ev->aw (ac))(ρ:Ev)(x:D):aw D:=match x with
 |.str z=>(a ρ).bind<|uR z
 |_=>.stuck
def pH:BG f a ρ=(f ρ).bind (NB a ρ):=rfl
def lT:NB a ρ (.str z)=(a ρ).bind (uR z):=rfl
def Ou(g:bv)(ρ:Ev)(x:D):aw D:=match x with
 |.lst a=>(g ρ).bind<|qV<|.lst a
 |_=>.stuck
def vp:jK f g ρ=(f ρ).bind (Ou g ρ):=rfl
def ph:Ou g ρ (.lst ds)=(g ρ).bind (qV<|.lst ds):=rfl
theorem Bg{a:Type}{x:a}:∀{n:Nat},(Vt n [x]).flatten=Vt n x
 |0=>rfl
 |n+1=>by rw[VU,WO,Bg,VU];rfl
def pf{k:Int}(h:(decide (0<=k)&&decide (k<=1000))=VO):qV (.lst [x]) (.int k)=.ok (.lst<|Vt k.toNat x):=by
 simp only[Vv,ez]at h;unfold qV;have:([x]:ac).length*k.toNat<=line/\-9223372036854775808<=k/\k<9223372036854775808:=⟨by
  have a:k.toNat<=1000:=by omega
  show 1*k.toNat<=line;have:(1000:Nat)<=line:=by decide
  omega,by omega,by omega⟩
 simp only[ef this,Bg]
end Com
local macro_rules|`(tactic|open_line with[$xs,*])=>do
  let ns:Array Lean.Term:=("rS nN o9 o7 pC nM o5 vo pe pZ lV Bq vK vJ vz pA vV pz vq pq pj lR vL va vy pw Bv vU vT vS vE iH jh lW vW p6 p0 Bm vC vB vD pB vI pR pQ u3 oS JB oZ vm oY oX oW nO pd pb Bl vA Bn Bj vk vj vi vN pV lX Br vR vQ vP vH vX vF Bp Bo pF pE qQ nG Vf Xg Vp W7 VU Xv WS Xd Wz VZ Ye Yf YF Nat.reduceSub Nat.reduceAdd YG XF Y0 YN vd vG dX du qP oU Bk vn Bi vc vb mO mM pP pO pM pL pK pJ pI decide_true decide_false Nat.reduceLeDiff Nat.reduceBEq Int.reduceBEq eu DL.dOne DL.mYes ff dR eB jg gX jf Bu Bt Bs Int.reduceLT Int.reduceLE Int.reduceSub Int.reduceAdd Int.reduceMul Int.reduceNeg pH lT vx vw vv vt vp ph pf Int.reduceToNat Y1".splitOn " ").toArray.map fun s=>Lean.mkIdent s.toName
  let ys:=ns++xs.getElems
  `(tactic|simp only[$[$ys:term],*])
local macro_rules|`(tactic|open_line with[no_df,$xs,*])=>do
  let ns:Array Lean.Term:=("rS nN o9 o7 pC nM o5 vo pe pZ lV Bq vK vJ vz pA vV pz vq pq pj lR vL va vy pw Bv vU vT vS vE iH jh lW vW p6 p0 Bm vC vB vD pB vI pR pQ u3 oS JB oZ vm oY oX oW nO pd pb Bl vA Bn Bj vk vj vi vN pV lX Br vR vQ vP vH vX vF Bp Bo pF pE qQ nG Vf Xg Vp W7 VU Xv WS Xd Wz VZ Ye Yf YF Nat.reduceSub Nat.reduceAdd YG XF Y0 YN vd vG dX du qP oU Bk vn Bi vc vb mO mM pP pO pM pL pK pJ pI decide_true decide_false Nat.reduceLeDiff Nat.reduceBEq Int.reduceBEq eu DL.dOne DL.mYes ff dR eB jg gX jf Bu Bt Bs Int.reduceLT Int.reduceLE Int.reduceSub Int.reduceAdd Int.reduceMul Int.reduceNeg pH lT vx vw vv vt vp ph pf Int.reduceToNat Y1".splitOn " ").toArray.map fun s=>Lean.mkIdent s.toName
  let ys:=ns++xs.getElems
  `(tactic|simp -implicitDefEqProofs only[$[$ys:term],*])
namespace Com
open PySem L2 DL
noncomputable def km:ci :=
 (ar (dG (iU (cD<|aL 0#6<|eY "str")<|cD<|jk Mx Mx 1#0 (ak (ae 0#6 av)<|m1 eg)<|dC<|.int 8)
 (ar (bJ<|dC<|.bl Vd)
 au)
 au)
 (ar (bJ<|ak (ae (cJ 1 [] (K0<|af 0) (bK 0) mYes<|ag 0#6 0#"abcdefghijklmnopqrstuvwxyz" nY) av)<|m1 p8)
 au))
def m_is_name:ac->aw D:=bH 1 km
noncomputable def eD:ci :=
 (ar (dG (iU (cD<|aL 0#6<|eY "tuple")<|ag (ak (ae 0#6 av)<|m1 eg) 2#0 iE)
 (ar (bJ<|dC<|.bl Vd)
 au)
 au)
 (ar (dG (iU (cD<|ak (ae (ag 0#6 0#0 aE) av) m_is_whole)<|cD<|ak (ae (ag 0#6 1#0 aE) av) m_is_whole)
 (ar (bJ<|dC<|.bl Vd)
 au)
 au)
 (ar (bJ<|gm (ag (ag 0#6 1#0 aE) 1#0 Qs)<|ag (ak (ae (ag 0#6 0#0 aE)<|ae (ag 0#6 1#0 aE) av) m_common_divisor) 1#0 gZ)
 au)))
def m_is_ratio:ac->aw D:=bH 1 eD
def U1:Vq:="abcdefghijklmnopqrstuvwxyz"
def uU(c:Nat):Bool:=SD ⟨#[c]⟩ U1
def nameB(z:Vq):Bool:=decide (1<=z.length)&&(decide (z.length<=8)&&z.cps.toList.all uU)
def Nx:D->Bool
 |.str z=>nameB z
 |_=>Vd
def SG:D->Bool
 |.str z=>decide (z.length<=line)
 |_=>VO
theorem yo:∀{ds:ac},(∀d∈ds,∃ρ1,tg b d=.ok ρ1/\a ρ1=.ok (.bl VO)/\j ρ1=.ok (F d))->cj b tg a j ds=.ok (ds.map F)
 |[],_=>rfl
 |d::r,h=>by
  obtain⟨ρ1,i,g,f⟩:=h d Ve;rw[kj i g f,yo<|λe c=>h e<|U9 _ c];rfl
theorem rZ{a:Type}(F:a->Bool):∀(cs:List a),fw (cs.map λc=>D.bl<|F c)=Wp (cs.map F)
 |[]=>rfl
 |c::r=>by
  show(fw<|r.map λc=>D.bl<|F c).map (F c::·)=_;rw[rZ F r];rfl
def CO(b:z.length<=line):cJ 1 [] (K0<|af 0) (bK 0) mYes (ag 0#6 0#"abcdefghijklmnopqrstuvwxyz" nY) [.sh<|.str z]=.ok (.lst<|z.cps.toList.map λc=>.bl<|uU c):=by
 have d:(lB z).length<=line:=by rw[nu];exact b
 unfold cJ;show(if(lB z).length<=line then _ else _)=_;rw[ef d];have:cj (dB 1 [] [.sh<|.str z]) (bK 0) mYes (ag 0#6 0#"abcdefghijklmnopqrstuvwxyz" nY) (lB z)=.ok (z.cps.toList.map λc=>D.bl<|uU c):=by
  unfold lB
  induction z.cps.toList with
  |nil=>rfl
  |cons c r a=>
   rw[Vf,kj (x:=.bl<|uU c) rfl rfl rfl,a];rfl
 rw[this]
def uS(h:SG d=VO):m_is_name [d]=.ok (.bl<|Nx d):=by
 cases d with
 |str z=>
  have e:z.length<=line:=et h;have hlen:eg (.str z)=.ok (.int z.length):=ef e;show bH 1 km _=.ok (.bl<|nameB z);unfold nameB
  by_cases b:1<=z.length
  .by_cases f:z.length<=8
   .have a:decide ((1:Int)<=(z.length:Int))=VO:=dV 0#2
    have c:decide ((z.length:Int)<=8)=VO:=dV 0#2;erw[km,hlen,a,c,CO e,p8,rZ,dV b,dV f,Xp]
    simp[sao,Function.comp_def]
   .have a:decide ((1:Int)<=(z.length:Int))=VO:=dV 0#2
    have c:decide ((z.length:Int)<=8)=Vd:=en 0#2;erw[km,hlen,a,c,dV b,en f,WE,Yr]
  .have a:decide ((1:Int)<=(z.length:Int))=Vd:=en 0#2
   erw[km,hlen,a,en b,WE]
 |ob k _=>cases k<;>rfl
 |_=>rfl
def uk:D->Bool
 |.tup [.int p,.int q]=>decide (1<=q)&&(VW p q==1)
 |_=>Vd
def Pw{g:Nat}:((g:Int)==1)=(g==1):=by
 cases h:(g==1) with
 |true=>rw[eq_of_beq h];rfl
 |false=>
  have:g≠1:=λz=>by rw[z]at h;cases h
  exact beq_eq_false_iff_ne.mpr 0#2
def N2{xs:ac}:(∃x y,xs=[x,y])∨xs.length≠2:=by
 match xs with
 |[]=>exact .inr 0#1
 |[x]=>exact .inr 0#3
 |[x,y]=>exact .inl ⟨x,y,rfl⟩
 |x::y::z::r=>exact .inr 0#3
theorem HK:∀{xs:ac},xs.length≠2->uk (.tup xs)=Vd
 |[],_=>rfl
 |[x],_=>by cases x<;>rfl
 |[x,y],h=>er rfl h
 |x::y::z::r,_=>by cases x<;>cases y<;>rfl
def Cs:uk (.tup [x,y])=(Gw x&&(Gw y&&uk (.tup [x,y]))):=by
 cases x<;>cases y<;>rfl
def zw(d:D):m_is_ratio [d]=.ok (.bl<|uk d):=by
 cases d with
 |tup xs=>
  rcases N2 (xs:=xs) with⟨x,y,rfl⟩|h
  .rw[Cs]
   show bH 1 eD _=_;cases a:Gw x with
   |false=>erw[eD,cH,a,WE]
   |true=>
    cases b:Gw y with
    |false=>erw[eD,cH,a,b,WE,Xp]
    |true=>
     cases x<;>first|(cases a;done)|skip
     cases y<;>first|(cases b;done)|skip
     rename_i p q;show _=aw.ok (D.bl (decide (1<=q)&&(VW p q==1)))
     by_cases c:1<=q
     .erw[eD,cH,a,b,mT,Xp,dV c,Pw]
     .erw[eD,cH,a,b,mT,Xp,en c,WE]
  .have e:((xs.length:Int)==2)=Vd:=beq_eq_false_iff_ne.mpr 0#2
   rw[HK h];show bH 1 eD _=_;erw[eD,e]
 |ob k _=>cases k<;>rfl
 |_=>rfl
def mS{a:Type}{F:a->D}{xs:List a}:cE (xs.map F) lo hi=((xs.drop<|HT.sIx xs.length 0 lo).take<|HT.sIx xs.length xs.length hi-HT.sIx xs.length 0 lo).map F:=by
 unfold cE;rw[U8,←List.map_drop,←List.map_take]
def EJ:(cE xs lo hi).length<=xs.length:=by
 unfold cE;rw[Wc,Wv];omega
def MA(h:d∈cE xs lo hi):d∈xs:=saI<|Zc h
end Com
namespace DL
open PySem PySem.Spec PyProof.Rows L2
def bV.there{h:Vu}(x:bV P w H h a o):∃u,h.get? a=Wp u:=by
 cases o with
 |lst xs=>obtain⟨_,_,_,_,e⟩:=x;exact⟨_,e⟩|tup xs=>obtain⟨_,_,_,ob,e,_⟩:=x;exact⟨_,e⟩|dK b|dT b=>obtain⟨_,_,_,_,o,_,_,e,_⟩:=x;exact⟨_,e⟩|set S n=>obtain⟨o,_,_,_,e,_⟩:=x;exact⟨_,e⟩|ins C g fs=>obtain⟨_,_,_,e,_⟩:=x;exact⟨_,e⟩|own y=>obtain⟨_,e⟩:=x;exact⟨_,e⟩|xd fs=>obtain⟨_,⟨_,_,_,e,_⟩,_⟩:=x;exact⟨_,e⟩|rng lo d=>obtain⟨_,_,_,e⟩:=x;exact⟨_,e⟩|frz ob u=>obtain⟨e,_⟩:=x;exact⟨_,e⟩
 |tbl ps=>
  have x:TabOk H h a ps:=x;rcases x with⟨_,_,_,_,_,_,_,_,e,_⟩|⟨_,e|⟨_,_,_,_,_,_,_,_,_,e,_⟩⟩<;>exact⟨_,e⟩
 |met f y=>exact⟨_,show h.get? a=Wp _ from x⟩|ext c=>obtain⟨_,⟨_,e⟩,_⟩:=x;exact⟨_,e⟩
noncomputable def fR(P:V5) (w:Wx):Ac:=λouter H s E e a=>∃(d C:Vi) (f:U5) (B:Vu) (c:Hp),e=.ref d/\a.os=s.os/\AllBare a.gens/\Un (gW outer) [] H c s.heap a.heap/\fJ P w c a.heap/\c d=Wb /\
 XH B outer d (.ref C) f a.heap/\(∀b,b∉gW outer->(c b≠Wb∨∃o,s.heap.get? b=Wp o)->∃o,B.get? b=Wp o)/\∃ox,Sj a.heap d ox/\E (.ref C) ox c
def zD{l:List Wq}:∀env∈l,∀a,env.frame=Wp a->a∈gW l:=λenv c a b=>Xc.mpr ⟨env,c,b⟩
section
variable {P:V5}{w:Wx}{K:Va}{mg:Vq->Option U5}{base:Vu}{N:cr}{qual:Vq}{scope:Yt}{f:Vi}{cd:U5}{A:Wh}{outer:List Wq}{s0:Vm}{H0:Hp}{E:XK}
 {π:List (Vi×Obj)}{σ:L2.St}{H:Hp}{s:Vm}
def iQ{B h h':Vu}(k:B.StaysIn h)(a:B.StaysIn h')(c:∃u,B.get? b=Wp u)(e:h.get? b=Wp o):h'.get? b=Wp o:=by
 obtain⟨u,q⟩:=c;have:=k b u q;rw[e]at this;cases this;exact a b o q
def ED(hX:X=cP (fR P w) P w K mg base N qual scope f cd A outer s0 H0 E)(I:Inv X π σ H s){s1:Vm}(os:s1.os=s.os)(bare:AllBare s1.gens)
  (un:Un (gW X.stack) [] H H1 s.heap s1.heap)(hok:fJ P w H1 s1.heap)(T:H1 J=Wb)(m:B.StaysIn s1.heap)(U:s1.heap.FunFrames B X.stack)
  (Y:∀b,b∉gW X.stack->(H1 b≠Wb∨∃o,s.heap.get? b=Wp o)->∃o,B.get? b=Wp o)(G:XH B outer J (.ref C) a0 h')(up:s1.heap.UpToSlots h')(hE:∃ox,Sj h' J ox/\E (.ref C) ox H1) :
  fR P w outer H0 s0 E (.ref J) { s1 with heap:=h' }:=by
 subst hX;have hL:(envOfC qual scope 2#s0 f cd).frame=Wp (envOfC qual scope 2#s0 f cd).locals:=rfl;have j:∀b,b∈gW (envOfC qual scope 2#s0 f cd::outer)->b=(envOfC qual scope 2#s0 f cd).locals∨b∈gW outer:=λb c=>by
  unfold gW at c;rw[Wd,hL]at c;exact Vl.mp c
 have v:∀b,b∈gW outer->b∈gW (envOfC qual scope 2#s0 f cd::outer):=λb c=>by
  unfold gW;rw[Wd,hL];exact U9 _ c
 have t:∀b o,s0.heap.get? b=Wp o->b≠(envOfC qual scope 2#s0 f cd).locals:=λb o e=>VM<|Vk (Vw e) I.ok.above;have nofr:∀b o,s0.heap.get? b=Wp o->b∉gW outer->b∉gW (envOfC qual scope 2#s0 f cd::outer):=λb o e c p=>(j b p).elim (t b o e) c;have g:∀b o,s0.heap.get? b=Wp o->∃r,s.heap.get? b=Wp r:=λb o e=>I.base.there b o e (by intro z;exact nomatch z);have y:∀b,b∈gW outer->∀o,s1.heap.get? b=Wp o->∃M,h'.get? b=Wp { o with slots:=M }:=λb c o e=>by
  obtain⟨_,r,x,hd⟩:=U.mem<|v b c;rw[e]at x;cases x;exact up b o e hd
 have d:∀b∈gW (envOfC qual scope 2#s0 f cd::outer),H1 b=Wb:=λb c=>by
  obtain⟨_,o,ho,_⟩:=I.stack.mem c;exact un.free b o ho (I.stkFree b c) 0#3
 have B0:∀b o,s0.heap.get? b=Wp o->b∉gW outer->∃u,B.get? b=Wp u:=λb o e c=>Y b (nofr b o e c)<|.inr<|g b o e;refine⟨J,C,a0,B,H1,rfl,os.trans I.os,bare,⟨λb o e n c Q=>?_,λb o e n c Q=>?_,λb o e n Q=>?_,λb o e Q=>?_,λb xs e=>un.tups b xs (I.base.tups b xs e),λb o u e=>un.frzs b o u (I.base.frzs b o u e),λb ps e=>?_⟩,λa o e=>?_,T,G,λb c h=>?_,hE⟩
 .have i:=I.base.keep b o e n c (by intro z;exact nomatch z)
  have O:=I.base.free b o e n (by intro z;exact nomatch z);have l:=un.keep b o i O (nofr b o e c) 0#3;exact iQ m G.1 (B0 b o e c) l
 .obtain⟨M,i⟩:=I.base.slot b o e n c (by intro z;exact nomatch z)
  have O:=I.base.free b o e n (by intro z;exact nomatch z);obtain⟨ab,l⟩:=un.any i O 0#3;obtain⟨L,e3⟩:=y b c _ l;exact⟨L,e3⟩
 .obtain⟨r,i⟩:=g b o e
  exact un.free b r i (I.base.free b o e n (by intro z;exact nomatch z)) 0#3
 .obtain⟨r,i⟩:=g b o e
  obtain⟨o2,l⟩:=un.there b r i 0#3
  by_cases c:b∈gW outer
  .obtain⟨M,e3⟩:=y b c _ l
   exact⟨_,e3⟩
  .exact⟨_,iQ m G.1 (B0 b o e c) l⟩
 .obtain⟨m1,i⟩:=I.base.tbls b ps e
  obtain⟨m2,l⟩:=un.tbls b _ i;exact⟨m1++m2,by rw[l,YO]⟩
 .refine(hok a o e).stay (λb u c q=>?_) (λ_ q=>q) (λ_ _ q=>q) λ_ _ q=>q
  have hn:H1 b≠Wb:=by
   rcases c with rfl|c
   .rw[e];simp
   .rw[c];simp
  exact iQ m G.1 (Y b (λp=>hn<|d b p)<|.inl hn) q
 .by_cases p:b∈gW (envOfC qual scope 2#s0 f cd::outer)
  .rcases j b p with z|z
   .rcases h with h|⟨o,h⟩
    .exact er (d b p) h
    .exact er z<|t b o h
   .exact er z c
  .exact Y b p<|h.elim .inl λ⟨o,h⟩=>.inr<|g b o h
def yZ(I:Inv (cP (fR P w) P w K mg base N qual scope f cd A outer s0 H0 E) π σ H s)(a:Ze s.heap i e (.ref C) vs)(x:E (.ref C) Wb H) :
  (cP (fR P w) P w K mg base N qual scope f cd A outer s0 H0 E).xe (.ref e) { s with heap:=i }:=by
 have d:=zD (l:=envOfC qual scope 2#s0 f cd::outer);have n:s.heap.FunFrames (Yg s.heap<|gW (envOfC qual scope 2#s0 f cd::outer)) (envOfC qual scope 2#s0 f cd::outer):=ZF I.stack d;have r:H e=Wb:=by
  cases q:H e with|none=>rfl|some o=>obtain⟨u,m⟩:=bV.there<|I.hok e o q;rw[a.new]at m;cases m
 obtain⟨t,v,_,_⟩:=a.there;have g:(Yg s.heap<|gW (envOfC qual scope 2#s0 f cd::outer)).get? e=Wb:=by
  cases q:(Yg s.heap<|gW (envOfC qual scope 2#s0 f cd::outer)).get? e with|none=>rfl|some o=>have:=YC _ q;rw[a.new]at this;cases this
 refine nK (s:={ s with heap:=i }) (a0:=.ref t) I.ok.frames (n.of_keeps λb o c _=>⟨o,a.keeps b o c,rfl⟩) rfl v (λb o q=>a.keeps b o (YC _ q)) g rfl rfl rfl (λz=>er rfl z) λG y p j=>?_;refine ED rfl I (s1:={ s with heap:=i }) (H1:=H) rfl I.bare (Un.kept a.keeps) (I.hok.kept a.keeps) r (λb o q=>a.keeps b o<|YC _ q) (n.of_keeps λb o c _=>⟨o,a.keeps b o c,rfl⟩) (λb c h=>?_) y p ⟨Wb,⟨Wb,j,.inl rfl⟩,x⟩;have:∃o,s.heap.get? b=Wp o:=by
  rcases h with h|h
  .cases q:H b with
   |none=>exact er q h
   |some o=>exact bV.there<|I.hok b o q
  .exact h
 obtain⟨o,q⟩:=this;exact⟨o,Zi _ q c⟩
def zd:gN (fR P w) (cP (fR P w) P w K mg base N qual scope f cd A outer s0 H0 E) E:=by
 intro π σ H s e o I h;obtain⟨q,C,r,B,t,rfl,os,bare,un,hok,b,i,m,ox,⟨n,c,a⟩,l⟩:=h;refine FV I.ok.frames rfl i c λp g j d=>?_;exact ED rfl I os bare un hok b i.1 i.2.2.1 m g j ⟨ox,⟨n,d,a⟩,l⟩
end
def rR{K:Va}{st:Xi}{N ps:cr}{k:Nat}(F:B1 K x qual st f y)(S:dy N ps<|defScope st)
  (c:∀(a:U5),y.code=a->∀(A:Wh) (outer:List Wq) (s0:Vm) (H Ha:Hp) (E:XK),cW k (A.deeper<|envOfC qual (defScope st) 2#s0 f a) ->
   B2 (cP (fR P w) P w K L base N qual (defScope st) f a A outer s0 H E) E H Ha (defBody st) s):ft P w K L base (fR P w) (k+1) f y ps (spD K ps.length<|bH N.length s):=by
 have T:ps.length<=N.length:=by have:=ew YA S.pre;rw[Wc]at this;omega
 obtain⟨oc,od,kV,doc,pm,an,a,ct,J,rfl,lk,p⟩:=F.ex;refine Jr lk p S (λG H Q E h=>h.1) λA outer s0 H G Q E O h=>?_;obtain⟨hn,Ha,b,M,u,q⟩:=h;refine⟨_,(c a rfl A outer s0 H Ha E O).o,Ha,b.map Sl.sh++Vt (N.length-b.length) .no,?_,?_⟩
 .refine⟨bz.refl M,rA u,λi d e=>?_,λi j d B U e=>?_,?_,OX.none xH tW⟩
  .by_cases n:i<b.length
   .rw[VA (by simpa using n),Vh]at e
    cases q:b[i]? with|none|some B=>rw[q]at e;cases e
   .rw[VF (by simpa using n),VY]at e
    split at e<;>cases e
  .by_cases n:i<b.length
   .rw[VA (by simpa using n),Vh]at e
    cases q:b[i]? with|none|some B=>rw[q]at e;cases e
   .rw[VF (by simpa using n),VY]at e
    split at e<;>cases e
  .unfold L2.start
   have:=u.length;simp only[Vs,U8,V3];omega
 .unfold bH at q
  cases z:s (b.map Sl.sh++Vt (N.length-b.length) .no) with
  |stuck|exn x=>rwa[z]at q
  |ok r=>
   rw[z]at q;cases r with|nx m=>exact λC t l _ Y=>q .non t l Y.g (aY.mpr rfl)|rt d=>exact λv t l g I=>q v t l g I|bk m|ct m=>exact q.elim
def Dc{K:Va}{st:Xi}{N ps:cr}{k:Nat}(F:B1 K x qual st f d)(S:dy N ps<|defScope st)
  (b:∀(a:U5) (A:Wh) (outer:List Wq) (s0:Vm) (H Ha:Hp) (E:XK),cW k (A.deeper<|envOfC qual (defScope st) 2#s0 f a) ->
   B2 (cP (fR P w) P w K c base N qual (defScope st) f a A outer s0 H E) E H Ha (defBody st) s):ft P w K c base (fR P w) (k+1) f d ps (spD K ps.length<|bH N.length s):=rR F S λa _=>b a
structure MZ (K:Va) (x:Vq) (C:Vi):Prop where
 xc:XC K x C
 ex:Zt K C [.type "ValueError",.type "Exception",.type "BaseException",.type "object"] "ValueError.__new__"=VO
def MZ.obj{K:Va}(c:MZ K x C){h:Vu}(X:K.In h):∃bm N nm q bs hdct sn sub ab col dd k0 k1 k2 k3 k5 mN,h.get? C=Wp (excClassObj nm q C N bs bm hdct sn sub ab col dd k0 k1 k2 k3 k5 "ValueError.__new__")/\h.Ns N mN/\mN "__init__"=Wb /\
  OwnTail h [.type "ValueError",.type "Exception",.type "BaseException",.type "object"] bm:=by
 have q:=c.ex;unfold Zt at q;split at q
 .rename_i dd p e o
  split at q
  .rename_i r bm k0 k1 k2 k3 n k5 g f
   simp only[Vv,beq_iff_eq,Bool.not_eq_true']at q;obtain⟨⟨⟨⟨⟨rfl,rfl⟩,a⟩,m⟩,hok⟩,b⟩:=q;obtain⟨nm,bs,mro,j,i,hd,sn,sub,ab,col,del⟩:=p;dsimp only at g a hok b;subst g a;have d:e=#[k0,k1,k2,k3,Wp<|.builtin "ValueError.__new__",k5]:=by
    obtain⟨l⟩:=e;simp only at f;rw[f]
   subst d;exact⟨bm,j,nm,i,bs,hd,sn,sub,ab,col,dd,k0,k1,k2,k3,k5,_,X _ _ o,.of_isNs<|Zs X hok,W.nsMap_none_of_in X hok b,W.tail_of_in X m⟩
  .cases q
 .cases q
def ic(x:Vq)(b:Ev->aw (ac)):ci:=λa=>(b (fQ a)).bind λc=>if c.length<=line then .exn ⟨x,[]⟩ else .stuck
section
variable {P:V5}{w:Wx}{K:Va}{mg:Vq->Option U5}{base:Vu}{N:cr}{qual:Vq}{scope:Yt}{f:Vi}{cd:U5}{A:Wh}{outer:List Wq}{s0:Vm}{H0:Hp}{E:XK}{He η:Hp}
def ji(c:MZ K x C)(hm:mg x=Wp (.ref C))(hh:A.handled=Wb)
  (hg:Gl (cP (fR P w) P w K mg base N qual scope f cd A outer s0 H0 E) x)(ha:DA (cP (fR P w) P w K mg base N qual scope f cd A outer s0 H0 E) E (e::i) B)
  (v:1#x:=by decide)(he:Vg (e::i) (cP (fR P w) P w K mg base N qual scope f cd A outer s0 H0 E).env=(Vd,eval e (cP (fR P w) P w K mg base N qual scope f cd A outer s0 H0 E).env)::Vg i (cP (fR P w) P w K mg base N qual scope f cd A outer s0 H0 E).env:=by exact aM rfl)
  (t:(Wn a<|Vg i (cP (fR P w) P w K mg base N qual scope f cd A outer s0 H0 E).env).any (·.1)=Vd:=by exact bM rfl) :
  DS (cP (fR P w) P w K mg base N qual scope f cd A outer s0 H0 E) E He η (.Raise (Wp<|.Call (.Name x np) (e::i) [] a) Wb pos) (ic x B):=by
 refine⟨?_⟩;intro π s σ H D I ⟨L,p,l,q⟩;obtain⟨bm,Nn,nm,qn,bs,b,O,sub,ab,j,dd,k0,k1,k2,Y,U,Q,hC,hN,u,T⟩:=c.obj I.ok.mod.kin;refine wpAny_Raise_call_subT (C:=C) (nm:=nm) (q:=qn) (N:=Nn) (bs:=bs) (bm:=bm) (hdct:=b) (sn:=O) (sub:=sub) (ab:=ab) (col:=j) (dd:=dd) (k0:=k0) (k1:=k1) (k2:=k2) (k3:=Y) (k5:=U)
  WK (mN:=Q) (T.hasType WK.hasBase) hh (by rw[he];show(Vd||(Wn a<|Vg i (cP (fR P w) P w K mg base N qual scope f cd A outer s0 H0 E).env).any (·.1))=Vd;rw[t];rfl) u (gP I hg hm ⟨rfl,?_⟩ v)
 have hq:ou K E H (frz He L H) (B<|fQ p) (λr n=>r.length<=sizeLine/\E (.ref C) Wb n):=by
  unfold ic at q;cases G:B (fQ p) with
  |stuck=>rwa[G]at q|exn z=>rw[G]at q;exact λC ox H' J g ex=>q C ox H' J (l.frz_grow.trans g) ex
  |ok ds=>
   rw[G]at q;intro r n M g rp;have q:bX K E He η L (if ds.length<=line then aw.exn ⟨x,[]⟩ else .stuck) D:=q
   by_cases d:ds.length<=line
   .rw[ef d]at q
    exact⟨by rw[←rp.length];exact dW d,q (.ref C) Wb n M (l.frz_grow.trans g) ⟨⟨C,rfl,c.xc⟩,rfl⟩⟩
   .rw[eo d]at q;exact q.elim
 have h1:=ha.o a π s σ H _ I ⟨frz He L H,fQ p,l.frz_le,l.looks,hq⟩;rw[he]at h1 ⊢;refine X2<|Wj h1 (λr s2 h2=>?_) λ_ _ y=>y;obtain⟨al,n,m,rv,d,hE⟩:=h2;exact⟨rfl,by rw[←rv.length];exact d,m.bk _ _ hC,hN.keeps m.bk,T.keeps m.bk,λh' ee hx=>yZ m hx hE⟩
end
section
variable {P:V5}{w:Wx}{st:List Wq}{H H':Hp}{h g g' B:Vu}
def Un.fly(un:Un (gW st) [] H H' h g)(k:B.StaysIn g)(m:g.FunFrames B st)(r:∀b,b∉gW st->(H' b≠Wb∨∃o,h.get? b=Wp o)->∃o,B.get? b=Wp o)(q:B.StaysIn g')(s:g.UpToSlots g'):Un (gW st) [] H H' h g':=by
 have f:∀b,b∈gW st->∀o,g.get? b=Wp o->∃l,g'.get? b=Wp { o with slots:=l }:=λb a o e=>by
  obtain⟨_,t,d,hd⟩:=m.mem a;rw[e]at d;cases d;exact s b o e hd
 refine⟨λb o e n a c=>?_,λb o e n a c=>?_,un.free,λb o e c=>?_,un.tups,un.frzs,un.tbls⟩
 .exact iQ k q (r b a<|.inr ⟨o,e⟩)<|un.keep b o e n a c
 .obtain⟨l,i⟩:=un.slot b o e n a c
  obtain⟨j,p⟩:=f b a _ i;exact⟨j,p⟩
 .obtain⟨t,i⟩:=un.there b o e c
  by_cases a:b∈gW st
  .obtain⟨l,p⟩:=f b a _ i
   exact⟨_,p⟩
  .exact⟨_,iQ k q (r b a<|.inr ⟨o,e⟩) i⟩
def fJ.fly(ok:fJ P w H' g)(j:∀b∈gW st,H' b=Wb)(k:B.StaysIn g)(l:∀b,b∉gW st->(H' b≠Wb∨∃o,h.get? b=Wp o)->∃o,B.get? b=Wp o)(f:B.StaysIn g'):fJ P w H' g':=λa o e=>by
 refine(ok a o e).stay (λb u c q=>?_) (λ_ q=>q) (λ_ _ q=>q) λ_ _ q=>q;have d:H' b≠Wb:=by
  rcases c with rfl|c
  .rw[e];simp
  .rw[c];simp
 exact iQ k f (l b (λi=>d<|j b i)<|.inl d) q
def fJ.ext(ok:fJ P w H g)(f:H a=Wb)(p:d g)(m:∃o,g.get? a=Wp o)(n:∀l j:Vu,d l->(∀o,l.get? a=Wp o->j.get? a=Wp o)->d j):fJ P w (upd H a<|.ext d) g:=λb u e=>by
 by_cases i:b=a
 .subst i;rw[aC]at e;cases e;exact⟨p,m,n⟩
 .rw[ay i]at e
  exact(ok b u e).stay (λc v _ q=>q) (λc q=>by rw[ay (aN q f)];exact q) (λc xs q=>by rw[ay (aN q f)];exact q) λc xs q=>by rw[ay (aN q f)];exact q
def Un.ext{fs:List Vi}(un:Un fs [] H H' h g)(c:H' a=Wb)(f:h.get? a=Wb):Un fs [] H (upd H' a o) h g :=
 ⟨un.keep,un.slot,λb ob e n d=>by rw[ay (λz=>by subst z;rw[f]at e;cases e)];exact un.free b ob e n d,un.there,λb xs q=>by rw[ay (aN (un.tups b xs q) c)];exact un.tups b xs q,
  λb ob u q=>by rw[ay (aN (un.frzs b ob u q) c)];exact un.frzs b ob u q,λb ps q=>by
   obtain⟨m,e⟩:=un.tbls b ps q;exact⟨m,by rw[ay (aN e c)];exact e⟩⟩
def FW{a C:Vi}{i:Option Vi}:∀f b:Vu,B5 a C i f->(∀o,f.get? a=Wp o->b.get? a=Wp o)->B5 a C i b:=λf b ⟨o,j,e,c,d⟩ k=>⟨o,j,k o e,c,d⟩
end
def hand(X:Cx)(e:Vi):Cx:={ X with A:=X.A.mark<|Wp<|.ref e,calm:=false,xe:=λ_ _=>False }
section
variable {X:Cx}{π:List (Vi×Obj)}{σ:L2.St}{H:Hp}{s:Vm}{e:Vi}
def Ma(ok:X.Ok):(hand X e).Ok :=
 ⟨ok.mod,ok.kind,ok.glob,ok.blt,ok.above,ok.inj,ok.has,ok.cab,λz=>Bool.noConfusion z,ok.frames,ok.stk,ok.exf,ok.bs,ok.bsz,ok.noex,ok.exfs,ok.funs,ok.frf,ok.tab⟩
def Inv.hand(I:Inv X π σ H s):Inv (DL.hand X e) π σ H s:=⟨Ma I.ok,I.os,I.bare,I.base,I.loc,I.cell,I.free,I.freeC,I.pin,I.hok,I.len⟩
def Dy(ok:X.Ok)(I:Inv (DL.hand X e) π σ H s):Inv X π σ H s:=⟨ok,I.os,I.bare,I.base,I.loc,I.cell,I.free,I.freeC,I.pin,I.hok,I.len⟩
def Kg(I:Inv X π σ H s)(hN:X.N.Nodup)(hi:X.N[i]?=Wp x)
  (hm:∀(j:Nat) (y:Vq) (v:V),X.N[j]?=Wp y->σ[j]?=Wp (Wp v)->yC X.env.scope y->∃u,bw v u/\Sm X.env s.heap m y u)(hn:h'.Ns X.env.locals<|λy=>if y=x then v else m y)(f:X4 X.env.locals s.heap h') :
  Inv X π (σ.set i Wb) H { s with heap:=h',toks:=t' }:=by
 have cne:=I.cne;obtain⟨m0,⟨oL,_,_,Y,_⟩,_⟩:=id I.loc;have tracked:fJ X.prog X.w H h':=λb ob e=>by
  refine(I.hok b ob e).stay (λc E t q=>(f.2 c ?_).trans q) (λ_ q=>q) (λ_ _ q=>q) λ_ _ q=>q;rintro rfl;have a:=I.free;rcases t with rfl|t
  .rw[a]at e;cases e
  .rw[a]at t;cases t
 refine⟨I.ok,I.os,I.bare,⟨λb o e n C l=>?_,λb o e n C l=>?_,I.base.free,λb o e l=>?_,I.base.tups,I.base.frzs,I.base.tbls⟩,⟨_,hn,λj y J g A e3=>?_⟩,λy c e=>?_,I.free,I.freeC,λp U=>?_,tracked,by simpa using I.len⟩
 .exact(f.2 b<|VM<|Vk (Vw e) I.ok.above).trans<|I.base.keep b o e n C l
 .obtain⟨M,g⟩:=I.base.slot b o e n C l
  exact⟨M,(f.2 b<|VM<|Vk (Vw e) I.ok.above).trans g⟩
 .obtain⟨Q,g⟩:=I.base.there b o e l
  exact⟨Q,(f.2 b<|VM<|Vk (Vw e) I.ok.above).trans g⟩
 .by_cases B:j=i
  .subst B
   have r:j<σ.length:=by rw[I.len];exact(Vn.mp hi).1
   rw[VT r]at A;cases A
  .rw[Vo (V6 B)]at A
   obtain⟨L,O,q⟩:=hm j y J g A e3;refine⟨L,O,?_⟩;rcases q with⟨k,e⟩|⟨k,c,e,z⟩
   .refine .inl ⟨k,?_⟩
    have:y≠x:=λe=>B<|uE hN g<|e▸hi;simp[this,e]
   .exact .inr ⟨k,c,e,z.sameBut f<|cne y c e⟩
 .obtain⟨E,z⟩:=I.cell y c e
  exact⟨E,z.sameBut f<|cne y c e⟩
 .obtain⟨e,n,G,T,d⟩:=I.pin p U
  exact⟨(f.2 p.1 G).trans e,n,G,T,d⟩
def PZ{D:rq}(j:X.stack=X.env::X.outer/\X.env.frame=Wp X.env.locals)(I:Inv X π σ H1 s1)
  (h:fR X.prog X.w X.stack H1 s1 Ex ev s')(hg:Gl X c)(hm:X.mg c=Wp cv)(hx:∀C ox H',Ex (.ref C) ox H'->W.exmOne X.K (.ref C) cv=Wp VO)
  (hN:X.N.Nodup)(hi:X.N[Y]?=Wp n)(y:X.env.scope.names.lookup n=Wp .local)
  (hs:∀d C L ox H' s2,Ex (.ref C) ox H'->(ox=Wb∨ox=L)->H' d=Wb->Inv (DL.hand X d) π (σ.set Y<|Wp<|.ref d) (upd H' d<|.ext<|B5 d C L) s2 ->
   VC 4#X (X.A.mark<|Wp<|.ref d) (execs (ba::t) X.env) (SP (DL.hand X d) π { nx:=λa H=>D.nx (a.set Y Wb) H,rt:=D.rt,bk:=λa H=>D.bk (a.set Y Wb) H,ct:=λa H=>D.ct (a.set Y Wb) H }) (λ_ _=>False) s2)
  (bd:1#c:=by decide) :
  VC 4#X X.A (noteFrame ev X.env) (λ_ sj=>VC 4#X X.A (setFlight ev Wb) (λ_ sk=>
   VC 4#X X.A (handleBy ev X.env (.ExceptHandler (Wp<|.Name c np) (Wp n) (ba::t) al::rest)) (SP X π D) X.xe sk) X.xe sj) X.xe s':=by
 obtain⟨d,C,a0,B,H',rfl,os,bare,un,hok,x,fl,hB,ox,⟨L,bb,a5⟩,hE⟩:=h;have hA:X.A.frames=Wp (X.env::X.outer):=by rw[←j.1];exact I.ok.frames
 have i:=fl;rw[j.1]at fl;have ap:∀b∈gW X.stack,H' b=Wb:=λb hb=>by
  obtain⟨_,o,ho,_⟩:=I.stack.mem hb;exact un.free b o ho (I.stkFree b hb) 0#3
 have an:s1.heap.get? d=Wb:=by
  cases q:s1.heap.get? d with
  |none=>rfl
  |some o=>
   by_cases hb:d∈gW X.stack
   .obtain⟨_,o',a8,hd⟩:=i.2.2.1.mem hb
    obtain⟨oe,vs,he,_,be,_⟩:=i.first
    rw[a8]at he;cases he;exact er be<|hd vs
   .obtain⟨u,hu⟩:=hB d hb (.inr ⟨o,q⟩)
    rw[fl.2.1]at hu;cases hu
 have a3:∀g,B.StaysIn g->s'.heap.UpToSlots g->Inv X π σ H' { s' with heap:=g }:=λg k up=>
  I.call' (ch:=[]) os (Un.fly un i.1 i.2.2.1 hB k up) (fJ.fly hok ap i.1 hB k) bare (λ_ z=>nomatch z)
 have ab:∀g,B.StaysIn g->s'.heap.UpToSlots g->B5 d C L g->Inv X π σ (upd H' d<|.ext<|B5 d C L) { s' with heap:=g }:=λg k up p=>
  I.call' (ch:=[]) os (Un.ext (Un.fly un i.1 i.2.2.1 hB k up) x an) (fJ.ext (fJ.fly hok ap i.1 hB k) x p (let ⟨o,_,e,_⟩:=p;⟨o,e⟩) FW) bare (λ_ z=>nomatch z)
 refine Ju hA j.2 fl bb λh4 E U bq=>?_;refine Jv E bq λh5 G T bm=>?_;have I5:Inv (DL.hand X d) π σ H' { s' with heap:=h5 }:=Inv.hand<|a3 h5 G.1<|U.trans T;refine wpAny_handleBy_cons (codeAny_handlers_test ?_) (by intro q;cases q);refine gP I5 hg hm ?_ bd;obtain⟨ob,a7,a6⟩:=G.there;have LT:Y5 4#X h5 (typeOf<|.ref d) (.ref C):=a6▸(Y5.ld a7).andThen .now;refine(W.exm_one I5.kIn LT<|hx C ox H' hE).here ?_;refine codeAny_handlers_suite_as ?_;refine Jw G bm λh6 a1 a2 bi=>?_;obtain⟨oe,vs,he,hc,hd,_⟩:=a1.first
 have I6:Inv (DL.hand X d) π σ (upd H' d<|.ext<|B5 d C L) { s' with heap:=h6 }:=Inv.hand (ab h6 a1.1 ((U.trans T).trans a2) ⟨oe,vs,he,hc,hd,(by obtain⟨o6,e6,d6,_⟩:=bi;rw[he]at e6;cases e6;exact d6)⟩);refine lz (X:=DL.hand X d) (v:=.ref d) I6 hN hi (.inl y) rfl (λs7 I7=>?_) (.inr y);refine Wj (hs d C L ox H' s7 hE a5 x I7) (λf s8 h8=>?_) λ_ _ z=>z.elim;have as:(X.env.scope.kind==.class||(X.env.scope.kind==.module&&X.env.locals != X.env.globals))=Vd:=by rw[I.ok.kind];rfl
 have fin:∀{a:L2.St}{l:Hp}{Q:Unit->Vm->Prop},Inv (DL.hand X d) π a l s8->(∀O,Inv X π (a.set Y Wb) l O->Q () O) ->
   VC 4#X X.A (do bindName X.env n .none;unbindBehindTheSuite X.env n al) Q X.xe s8:=λ{a l Q} J q=>by
  have J':=Dy I.ok J;obtain⟨m,hn,hl⟩:=id J'.loc;exact wpAny_nameGoes_keeps y hn as λh' v a9 a4=>q _<|Kg J' hN hi hl a9 a4
 cases f with|next=>obtain⟨a,l,J,q⟩:=h8;exact fin J λO M=>⟨_,l,M,q⟩|brk=>obtain⟨a,l,J,q⟩:=h8;exact fin J λO M=>⟨_,l,M,q⟩|cont=>obtain⟨a,l,J,q⟩:=h8;exact fin J λO M=>⟨_,l,M,q⟩|ret u=>obtain⟨v,a,l,J,r,q⟩:=h8;exact fin J λO M=>⟨v,_,l,M,r,q⟩
end
def PA.nox(h:PA X.nox c t):PA X c t:=λpos b s a H Q I hw=>
 Wj (h pos b s a H Q (I.wish _) hw) (λ_ _ ⟨v,e,d,r,q⟩=>⟨v,e,d.unwish,r,q⟩) λ_ _ z=>V0 z
section
variable {X:Cx}{π:List (Vi×Obj)}{σ:L2.St}{H:Hp}{s:Vm}{CX:Ac}{k:Nat}{f:Vi}{fd:WD}{ps:cr}{sp:Sp}{Ex:XK}{x:Vq}{p pos:Pos}{e:V4}{es:List V4}{t:TA}
def MI(F:ft X.prog X.w X.K X.mg X.base CX k f fd ps sp)(o:cW k X.A)(B:Gl X x)(v:X.mg x=Wp (.ref f))(z:Yx X.K (.ref f)=VO)(E:gw X.K fd ps [])(G:PA X.nox (e::es) t)
  (I:Inv X π σ H s)(h:t σ H λvs H1=>sp vs H1 Q Ex)(n:∀H1 s1 e s',Inv X π σ H1 s1->CX X.stack H1 s1 Ex e s'->d e s')
  (j:1#x:=by decide)(C:Vg (e::es) X.env=(Vd,eval e X.env)::Vg es X.env:=by exact aM rfl)(i:(Wn pos<|Vg es X.env).any (·.1)=Vd:=by exact bM rfl) :
  VC 4#X X.A (eval (.Call (.Name x p) (e::es) [] pos) X.env) (EP X π σ Q) d s:=by
 refine wpAny_Call_Name_kw<|gP I B v ?_ j;have l:PA (X.wish d) (e::es) t:=PA.nox (X:=X.wish d) G;refine Zu (h₀:=X.base) I.ok.mod.kin z (cM (l pos π s σ H _ (I.wish d) h) λc s1 z9=>?_) C i;obtain⟨vs,H1,a,r,q⟩:=z9;refine⟨a.unwish.kIn,?_⟩;have a:=a.unwish;have y:c.length=ps.length:=by rw[←r.length];exact F.len _ _ _ _ q
 have b:=E s1 c a.kIn (by simpa using y);rw[We]at b;refine wpAny_call<|codeAny_mono (F.run X.A X.stack s1 H1 ⟨c,[]⟩ c vs Q Ex o a.env0 b r q) λr s' g=>?_;cases r with
 |error e=>exact n H1 s1 e s' a g
 |ok J=>
  cases J with|ret u=>exact a.after g|next|brk|cont=>exact V0 g
end
def G0(K:Va)(b a Ha:Hp)(r:aw Fl)(D:rq):Prop:=match r with
 |.exn _=>True
 |r=>bX K E0 b a Ha r D
def SW(K:Va)(d c Ha:Hp)(b:L2.St)(ρ:Ev)(r:aw Fl):XK:=λC ox e=>∃x a,r=.exn x/\aD Ha a/\eG K d c a b e ρ/\yG K a x C ox
structure TB (X:Cx) (st:Xi) (g:ci):Prop where
 o:∀(π:List (Vi×Obj)) (s:Vm) (σ:L2.St) (H He η Ha:Hp) (ρ:Ev) (D:rq) (XE:U5->Vm->Prop),Inv X π σ H s->eG X.K He η Ha σ H ρ->G0 X.K He η Ha (g ρ) D ->
  (∀H1 s1 e s',Inv X π σ H1 s1->fR X.prog X.w X.stack H1 s1 (SW X.K He η Ha σ ρ (g ρ)) e s'->XE e s')->VC 4#X X.A (exec st X.env) (SP X π D) XE s
section
variable {X:Cx}{E:XK}{e:V4}{es:List V4}{fa:Ev->aw (ac)}{pos:Pos}
def eG.drop{K:Va}(h:eG K I t Ha r H ρ):eG K I t Ha (r.set i Wb) H (ρ.set i .no):=by
 have key:∀(j:Nat) (s:Sl),(ρ.set i .no)[j]?=Wp s->s≠.no->j≠i/\ρ[j]?=Wp s:=λj s e d=>by
  by_cases b:i=j
  .subst b
   rw[Xz]at e;cases q:ρ[i]? with|none=>rw[q]at e;cases e|some M=>rw[q]at e;cases e;exact er rfl d
  .rw[Vo b]at e
   exact⟨λz=>b z.symm,e⟩
 refine⟨h.g,λj o e=>?_,λj o e=>?_,λj k G C w B A=>?_,by simp[h.ln],h.ex.upd (λj s e=>?_) (aD.refl _) (λa J _ e=>e) λp L _ y v _=>⟨v,y⟩⟩
 rotate_left 3
 .by_cases d:s=.no
  .exact .inr<|.inr<|.inl d
  .obtain⟨b,c⟩:=key j s e d
   exact .inl ⟨c,by rw[Vo (V6 b)]⟩
 .obtain⟨b,c⟩:=key j _ e 0#3
  obtain⟨u,l,f⟩:=h.rd j o c;exact⟨u,by rw[Vo (V6 b)];exact l,f⟩
 .obtain⟨b,c⟩:=key j _ e 0#3
  obtain⟨a,l,f⟩:=h.ow j o c;exact⟨a,by rw[Vo (V6 b)];exact l,f⟩
 .obtain⟨b,n⟩:=key j _ B 0#3
  obtain⟨x,m⟩:=key k _ A 0#3;rw[Vo (V6 b),Vo<|V6 x];exact h.ap j k G C w n m
def LB(b:Nat)(r:Fl):aw Fl:=match r with
 |.nx a=>.ok<|.nx<|a.set b .no
 |.rt d=>.ok<|.rt d
 |.bk a=>.ok<|.bk<|a.set b .no
 |.ct a=>.ok<|.ct<|a.set b .no
def j9(x:Kp):D:=match x.flds with
 |[]=>.exc x.cls
 |f::fs=>if((f::fs).map (·.1)).Nodup then .ob (.exf x.cls ((f::fs).map (·.1))) ((f::fs).map (·.2)) else .exc x.cls
theorem xX{a:Type}:∀{l:List<|Vq×a}{f:Vq}{d:a},(l.map (·.1)).Nodup->(f,d)∈l->l.lookup f=Wp d
 |(g,e)::l,f,d,nd,h=>by
  rw[Vf,VR]at nd;rcases Vl.mp h with h|h
  .cases h;rw[V7,eu]
  .have:f≠g:=λz=>nd.1 (z▸VD.mpr ⟨(f,d),h,rfl⟩)
   rw[V7,beq_eq_false_iff_ne.mpr this];exact xX nd.2 h
theorem Be{K:Va}{fs:List<|Vq×V}:∀(l:List<|Vq×D),(∀n d,(n,d)∈l->∃v,fs.lookup n=Wp v/\Rep K H d v)->∃vs,Reps K H (l.map (·.2)) vs/\l.length=vs.length/\∀(i:Nat) (f:Vq) (v:V),(l.map (·.1))[i]?=Wp f->vs[i]?=Wp v->fs.lookup f=Wp v
 |[],_=>⟨[],Reps.nil_iff.mpr rfl,rfl,λi f v e=>by simp at e⟩
 |(n,d)::l,h=>by
  obtain⟨v,p,o⟩:=h n d Ve;obtain⟨vs,m,j,g⟩:=Be l λn d c=>h n d<|U9 _ c;refine⟨v::vs,az.mpr ⟨v,vs,rfl,o,m⟩,by simp[j],λi f w b a=>?_⟩;cases i with|zero=>simp at b a;rw[←b,←a];exact p|succ i=>exact g i f w (by simpa using b) (by simpa using a)
def Jx{K:Va}(xc:XC K x.cls C)(ex:yG K H x (.ref C) ox)(j:ox=Wb∨ox=i)(l:H c=Wb):Rep K (upd H c<|.ext<|B5 c C i) (j9 x) (.ref c):=by
 have plain:Rep K (upd H c<|.ext<|B5 c C i) (.exc x.cls) (.ref c):=eE.mpr ⟨c,C,i,rfl,xc,.inl aC⟩;have r:aD H (upd H c<|.ext<|B5 c C i):=λb o q=>by rw[ay (aN q l)];exact q
 obtain⟨cls,g⟩:=x;unfold j9;cases g with
 |nil=>exact plain
 |cons f fs=>
  show Rep _ _ (if((f::fs).map (·.1)).Nodup then D.ob (.exf cls ((f::fs).map (·.1))) ((f::fs).map (·.2)) else .exc cls) _
  by_cases nd:((f::fs).map (·.1)).Nodup
  .rw[ef nd]
   obtain⟨_,s⟩:=ex;cases ox with
   |none=>cases s
   |some a=>
    obtain⟨t,A,y⟩:=s;have p:i=Wp a:=by
     rcases j with z|z
     .cases z
     .exact z.symm
    obtain⟨u,w,k2,v⟩:=Be (K:=K) (H:=H) (fs:=t) (f::fs) λn d m=>y n d<|xX nd m;exact bj.mpr ⟨c,u,rfl,⟨C,a,t,xc,p▸.inl aC,r _ _ A,by rw[U8];exact k2,v⟩,w.mono r⟩
  .rw[eo nd];exact plain
def Cn(g:ci)(a:Vq->Bool)(c:Nat)(sh:ci):ci:=λb=>match g b with
 |.exn x=>if a x.cls=VO then(sh<|b.set c<|.sh<|j9 x).bind (LB c) else .stuck
 |r=>r
def PD{st ba:Xi}(J:X.stack=X.env::X.outer/\X.env.frame=Wp X.env.locals)(hb:TB X st g)
  (hg:Gl X c)(hm:X.mg c=Wp cv)(L:∀x C,v x=VO->XC X.K x C->W.exmOne X.K (.ref C) cv=Wp VO)(hN:X.N.Nodup)(hi:X.N[U]?=Wp n)(al:X.env.scope.names.lookup n=Wp .local)
  (hh:∀w,B2 (DL.hand X w) E He T (ba::l) sh)(an:1#c:=by decide) :
  DS X E He T (.Try [st] [.ExceptHandler (Wp<|.Name c np) (Wp n) (ba::l) ap] [] [] pos) (Cn g v U sh):=by
 refine⟨?_⟩;intro π s σ H D I ⟨Ha,A,h,q⟩;have hq:G0 X.K He T Ha (g A) D:=by
  unfold Cn at q;cases i:g A with
  |exn x=>trivial|stuck=>rwa[i]at q
  |ok r=>rw[i]at q;cases r<;>exact q
 refine wpAny_Try_except<|wpAny_execs_cons<|cM (hb.o π s σ H He T Ha A D _ I h hq λH1 s1 e s' I1 hc=>?_) λf s1 Q=>?_
 .have j:∀x,g A=.exn x->v x.cls=VO:=λx i=>by
   unfold Cn at q;rw[i]at q
   by_cases z:v x.cls=VO
   .exact z
   .simp only[eo z]at q;exact q.elim
  refine PZ J I1 hc hg hm (λC ox H' ⟨x,y,i,_,_,⟨⟨c',ec,xc⟩,_⟩⟩=>?_) hN hi al (λw C dc ox H' p ⟨x,y,i,sm,b,⟨⟨c',ec,xc⟩,ab⟩⟩ Y t I2=>?_) an
  .cases ec;exact L _ _ (j x i) xc
  .cases ec
   refine(hh w).o π p _ _ _ I2 ⟨upd y w<|.ext<|B5 w C dc,A.set U<|.sh<|j9 x,(b.grow<|aR b.g.sub t).put<|Jx xc ⟨⟨C,rfl,xc⟩,ab⟩ Y<|b.g.sub.free t,?_⟩;have m:aD Ha (upd y w<|.ext<|B5 w C dc):=sm.trans (aR b.g.sub t).z;unfold Cn at q;rw[i]at q;simp only[ef (j x i)]at q;cases e2:sh (A.set U<|.sh<|j9 x) with
   |stuck|exn z=>rwa[e2]at q
   |ok r=>
    rw[e2]at q;cases r with|nx G=>exact λB O a p M=>q _ O a (m.trans p) (eG.drop M)|rt d=>exact q|bk G=>exact λB O a p M=>q _ O a (m.trans p) (eG.drop M)|ct G=>exact λB O a p M=>q _ O a (m.trans p)<|eG.drop M
 .cases f with
  |next=>exact wpAny_execs_nil<|wpAny_execs_nil Q
  |brk=>exact Q
  |cont=>exact Q
  |ret u=>exact Q
end
structure NM (k:Nat) (A:Wh):Prop where
 dp:A.depth+3*k+5<recursionLimit
 un:A.units+16*k+200<Xu
def cW.h{k:Nat}(r:cW k A):NM k A:=⟨r.dp,r.un⟩
structure Ux (P:V5) (w:Wx) (K:Va) (mg:Vq->Option U5) (base:Vu) (k:Nat) (f:Vi) (fd:WD) (ps:cr) (sp:Sp):Prop where
 len:∀vs H Q E,sp vs H Q E->vs.length=ps.length
 run:∀(A:Wh) (outer:List Wq) (s:Vm) (H:Hp) (args:Args) (us:List U5) (vs:am) (Q:VK) (E:XK),NM k A->sQ P w K mg base A outer s H->BindsTo s fd args (ps.zip us)->bh vs us->sp vs H Q E ->
  Xm (Vy P w) A (.call (.ref f) args) (CR CX0 outer P w H s Q E) s
def Ux.ok{K:Va}{k:Nat}{ps:cr}(F:Ux P w K c base k f e ps sp):ft P w K c base CX0 k f e ps sp :=
 ⟨F.len,λA outer s H args b a Q E d=>F.run A outer s H args b a Q E<|cW.h d⟩
def iq(tab:Vq->Option Bool)(x:D):aw D:=match x with
 |.exc c=>(match tab c with
  |some b=>.ok<|.bl b
  |none=>.stuck)
 |.ob (.exf c _) _=>(match tab c with
  |some b=>.ok<|.bl b
  |none=>.stuck)
 |_=>.stuck
def TabOk(K:Va)(tab:Vq->Option Bool)(cv:U5):Prop:=∀c C b,tab c=Wp b->XC K c C->saC K (.ref C) cv=Wp b
section
variable {X:Cx}{E:XK}{e a:V4}{es:List V4}{f:bv}{pos:Pos}{tab:Vq->Option Bool}
def L6(d:∀u,bw cV u->u=cv)(o:TabOk X.K tab cv):ku X (.builtin "isinstance") (λvs H Q=>∃c v b,vs=[v,cV]/\Rep X.K H (.exc c) v/\tab c=Wp b/\Q (.bl b) H):=by
 intro A s y H xs B Q I r h;obtain⟨c,v,b,rfl,x,w,q⟩:=h;cases r with
 |cons n m=>
  cases m with
  |cons l j=>
   cases j;rename_i i G;obtain rfl:=d _ l;obtain⟨ad,C,L,rfl,g,t⟩:=eE.mp x;cases (show i=VG ad from n);obtain⟨p,_,_⟩:=t.ok I.hok;exact WQ (uO g.ek g.ek.isCls) I.kIn p (o c C b w g) (λz=>nomatch z) λJ=>⟨.bl b,H,I.tok _,rfl,q⟩
def Je(h:tD X.K E (aL f (iq tab)) r H Q):tD X.K E f r H λv H1=>∃c n b,[v,cV]=[n,cV]/\Rep X.K H1 (.exc c) n/\tab c=Wp b/\Q (.bl b) H1:=by
 obtain⟨p,m,s,t,q⟩:=h;refine⟨p,m,s,t,?_⟩;unfold aL at q;cases o:f m with
 |stuck|exn x=>rwa[o]at q
 |ok d=>
  rw[o]at q;intro v H1 i l j;have q:post X.K E H p (iq tab d) Q:=q;cases d with
  |exc c=>
   unfold iq at q;cases g:tab c with|none=>simp only[g]at q;exact q.elim|some b=>simp only[g]at q;exact⟨c,v,b,rfl,j.mono l.sub,g,q _ H1 i l<|rb _⟩
  |ob k w=>
   cases k with
   |exf c u=>
    replace j:=j.exf_exc;unfold iq at q;cases g:tab c with|none=>simp only[g]at q;exact q.elim|some b=>simp only[g]at q;exact⟨c,v,b,rfl,j.mono l.sub,g,q _ H1 i l<|rb _⟩
   |_=>exact q.elim
  |_=>exact q.elim
def JL(c:∀u,bw cV u->u=cv)(m:TabOk X.K tab cv)(n:PE X (.Name x b)<|tC cV)(i:Gl X "isinstance")(g:X.mg "isinstance"=Wb)(p:DE X E a f)
  (l:Vg [a,.Name x b] X.env=(Vd,eval a X.env)::Vg [.Name x b] X.env:=by exact aM rfl)(j:Vg [.Name x b] X.env=(Vd,eval (.Name x b) X.env)::Vg [] X.env:=by exact aM rfl)(d:(Wn pos<|Vg [.Name x b] X.env).any (·.1)=Vd:=by exact bM rfl) :
  DE X E (.Call (.Name "isinstance" r) [a,.Name x b] [] pos) (aL f<|iq tab):=by
 refine⟨?_⟩;exact bc (uv (L6 c m) i g PyProof.Rows.Boot.«isinstance» (dH p.o (dH n ig j) l) 0#1 0#1 l d) λq H Q h=>Je h
def iT(l:Gl X x)(j:X.mg x=Wp (.ref C))(i:TabOk X.K tab<|.ref C)(c:Gl X "isinstance")(b:X.mg "isinstance"=Wb)(n:DE X E a f)(d:1#x:=by decide)
  (m:Vg [a,.Name x g] X.env=(Vd,eval a X.env)::Vg [.Name x g] X.env:=by exact aM rfl):DE X E (.Call (.Name "isinstance" o) [a,.Name x g] [] pos) (aL f<|iq tab) :=
 JL (cV:=.ref C) (λu h=>h) i (Ec l j rfl d) c b n m
def FZ(n:Gl X x)(m:X.mg x=Wb)(i:bootBuiltins x=Wp (.type T))(j:TabOk X.K tab<|.type T)(c:Gl X "isinstance")(b:X.mg "isinstance"=Wb)(p:DE X E a f)(l:x≠"__name__":=by decide)(d:1#x:=by decide)
  (o:Vg [a,.Name x g] X.env=(Vd,eval a X.env)::Vg [.Name x g] X.env:=by exact aM rfl):DE X E (.Call (.Name "isinstance" q) [a,.Name x g] [] pos) (aL f<|iq tab) :=
 JL (cV:=.ty T) (λu h=>h) j (Ed n m i rfl l d) c b p o
end
end DL
namespace DL
open PySem PySem.Spec PyProof.Rows L2 PySem.W
structure kr (K:Frag) (x:Vq) (C:Vi):Prop where
 ns:nsIn K Vz x=Wp (Wp (.ref C))
 ty:typeIn K (.ref C)=Wp (.type "type")
 ob:mroIn K C (.type "object")=Wp VO
 be:subIn K (.ref C) (.type "BaseException")=Wp VO
def kr.isCls{K:Frag}(Z:kr K x C):(clsIn K C).isSome=VO:=by
 obtain⟨c,a,b⟩:=saa.mp Z.ob;rw[a];rfl
def kr.kitCls{K:Frag}(Z:kr K x C):W.kitCls K t (.ref C)=subIn K t (.ref C):=by
 show(if((clsIn K C).isSome&&typeIn K (.ref C)==Wp (.type "type"))=VO then subIn K t (.ref C) else Wb)=_;rw[Z.isCls,Z.ty];rfl
def kr.exm{K:Frag}(Z:kr K x C)(h:subIn K t (.ref C)=Wp b):exmOne K t (.ref C)=Wp b:=by
 unfold exmOne;rw[Z.be,ef 0#1,Z.kitCls,h]
def kr.kit{K:Frag}(Z:kr K x C)(a:subIn K (.ref R) (.ref R)=Wp VO)(h:subIn K (.ref R) (.ref C)=Wp b):kitOne K (.ref R) (.ref C)=Wp b:=by
 unfold kitOne
 by_cases e:(VG R==VG C)=VO
 .rw[ef e]
  cases (VG.inj<|beq_iff_eq.mp e);rw[←a,h]
 .rw[eo e,Z.kitCls,h]
def zu{K:Frag}(a:kitMeta T=VO)(h:subIn K (.ref C) (.type T)=Wp b):kitOne K (.ref C) (.type T)=Wp b:=by
 unfold kitOne;rw[eo (by intro z;cases beq_iff_eq.mp z)];show(if kitMeta T=VO then subIn K (.ref C) (.type T) else Wb)=_;rw[ef a,h]
def lM:∀T∈gM,kitMeta T=VO:=by decide +kernel
def CY:kitMeta "ValueError"=VO:=by decide +kernel
structure qv (K:Frag) (x:Vq) (C:Vi):Prop where
 i:kr K x C
 cls:findIn K (.ref C) "__class__"=Wp (Wp (.builtin "object.__class__"))
 ga:findIn K (.ref C) "__getattribute__"=Wp (Wp (.builtin "BaseException.__getattribute__"))
 gt:findIn K (.ref C) "__getattr__"=Wp Wb
 t1:subIn K (.ref C) (.type "NoneType")=Wp Vd
 t2:subIn K (.ref C) (.type "bool")=Wp Vd
 t3:subIn K (.ref C) (.type "int")=Wp Vd
 t4:subIn K (.ref C) (.type "str")=Wp Vd
 t5:subIn K (.ref C) (.type "tuple")=Wp Vd
 t6:subIn K (.ref C) (.type "list")=Wp Vd
 t7:subIn K (.ref C) (.type "dict")=Wp Vd
 ve:subIn K (.ref C) (.type "ValueError")=Wp VO
 self:subIn K (.ref C) (.ref C)=Wp VO
 ex:excIn K C [.type "ValueError",.type "Exception",.type "BaseException",.type "object"] "ValueError.__new__"=VO
def qv.xcls{K:Frag}{x:Vq}{C:Vi}(Z:qv K x C):MZ K x C where
 xc:=⟨Z.i.ns,⟨Z.cls,Z.ga,Z.gt,Z.i.ob,Z.i.be⟩,λT hT=>by
  refine zu (lM T hT) ?_;simp only[gM,Vl,Wu,ey]at hT;rcases hT with rfl|rfl|rfl|rfl|rfl|rfl|rfl
  .exact Z.t1
  .exact Z.t2
  .exact Z.t3
  .exact Z.t4
  .exact Z.t5
  .exact Z.t6
  .exact Z.t7⟩
 ex:=Z.ex
def XC.inj{K:Frag}(a:XC K x C)(b:XC K x c):C=c:=by
 have:=a.ns.symm.trans b.ns;simpa using this
def iW:List (Vq×Bool)->Vq->Option Bool
 |[],_=>Wb
 |(x,b)::r,c=>if x=c then Wp b else iW r c
theorem iP{K:Frag}{p:Vq->Vi->Bool->Prop}:∀{l:List<|Vq×Bool},(∀q∈l,∃C,XC K q.1 C/\p q.1 C q.2)->∀c C b,iW l c=Wp b->XC K c C->p c C b
 |[],_,c,C,b,h,_=>by cases h
 |(x,v)::r,H,c,C,b,h,xc=>by
  unfold iW at h
  by_cases e:x=c
  .subst e
   rw[ef rfl]at h;cases h;obtain⟨f,a,q⟩:=H _ Ve;obtain rfl:=XC.inj xc a;exact q
  .rw[eo e]at h
   exact iP (λq d=>H q<|U9 _ d) c C b h xc
def rP(l:List<|Vq×Bool)(c:Vq):Bool:=iW l c==Wp VO
def Jk{K:Frag}{l:List<|Vq×Bool}{cv:U5}(H:∀q∈l,∃C,XC K q.1 C/\exmOne K (.ref C) cv=Wp q.2):∀x C,rP l x=VO->XC K x C->exmOne K (.ref C) cv=Wp VO:=λx C h xc=>
 iP (p:=λ_ C b=>exmOne K (.ref C) cv=Wp b) H x C VO (by unfold rP at h;exact beq_iff_eq.mp h) xc
end DL
namespace Com
open PySem L2 DL
section
variable {α β:Type}
def bu{f:α->aw β}:(aw.exn x:aw α).bind f=.exn x:=rfl
end
def KQ(a:Vq->Bool)(b:Nat)(sh:ci)(ρ:Ev)(r:aw Fl):aw Fl:=match r with
 |.exn x=>if a x.cls=VO then(sh<|ρ.set b<|.sh<|j9 x).bind (LB b) else .stuck
 |r=>r
def Jy:Cn g a b sh ρ=KQ a b sh ρ (g ρ):=rfl
def Mg:KQ a b sh ρ (.ok r)=.ok r:=rfl
def SI(h:a c=VO):KQ a b sh ρ (.exn ⟨c,[]⟩)=(sh<|ρ.set b<|.sh<|.exc c).bind (LB b):=ef h
def TV:LB a (.nx ρ)=.ok (.nx<|ρ.set a .no):=rfl
def HN(x:Vq)(ds:ac):aw Fl:=if ds.length<=line then .exn ⟨x,[]⟩ else .stuck
def gh:ic x a ρ=(a<|fQ ρ).bind (HN x):=rfl
def eK:HN x [d]=.exn ⟨x,[]⟩:=ef (show 1<=line by decide)
def TY{tab:Vq->Option Bool}(h:tab c=Wp b):iq tab (.exc c)=.ok (.bl b):=by unfold iq;simp only[h]
end Com
namespace DL
open PySem PySem.Spec PyProof.Rows L2
section
variable {X:Cx}{π:List (Vi×Obj)}{σ:L2.St}{H:Hp}{s:Vm}{h':Vu}
def xD{i:List Vi}(I:Inv X π σ H s)(k:∀b o,b∉i->s.heap.get? b=Wp o->h'.get? b=Wp o)(j:∀b∈i,rn X π H b)(l:2#s<=T)
  (new:bV X.prog X.w (upd H T<|.tup xs) h' T<|.tup xs):Inv X π σ (upd H T<|.tup xs) { s with heap:=h',toks:=t' }:=by
 have d:H T=Wb:=I.hok.fresh l;have f:∀b u,H b=Wp u->b∉i:=λb u e z=>by rw[(j b z).1]at e;cases e
 refine I.step (g':=s.gens) (d':=s.drawn) (ch:=i) (λb g=>?_) (λb o _ _ a e _=>k b o a e) (λb o _ _ a e _=>⟨o.slots,k b o a e⟩) (λb o _ e n=>?_)
  (λb o a e=>⟨o,k b o a e⟩) (λb xs e=>by rw[ay (aN e d)];exact e) (λb o u e=>by rw[ay (aN e d)];exact e) (λb ps e=>⟨#[],by rw[ay (aN e d),e];simp⟩) (λm t=>?_) (λb u e=>?_) I.bare
 .obtain⟨_,B,_,A,y,x⟩:=j b g
  exact⟨A,B,y,x⟩
 .rw[ay (VM<|Vk (Vw e) l)];exact n
 .obtain⟨o,C,E,p,r⟩:=t
  exact⟨o,C,E,k _ o (λz=>(j _ z).2.1 rfl) p,r⟩
 .by_cases g:b=T
  .subst g;rw[aC]at e;cases e;exact new
  .rw[ay g]at e
   refine(I.hok b u e).stay (λc v a q=>k c v ?_ q) (λc q=>by rw[ay (aN q d)];exact q) (λc xs q=>by rw[ay (aN q d)];exact q) λc xs q=>by rw[ay (aN q d)];exact q
   rcases a with z|z
   .rw[z];exact f b u e
   .exact f c _ z
def DH{f:List Vi}(I:Inv X π σ H s)(k:∀b o,b∉f->s.heap.get? b=Wp o->h'.get? b=Wp o)(g:∀b∈f,rn X π H b):Inv X π σ H { s with heap:=h',toks:=t' }:=by
 have d:∀b u,H b=Wp u->b∉f:=λb u e z=>by rw[(g b z).1]at e;cases e
 refine I.step (g':=s.gens) (d':=s.drawn) (ch:=f) (λb l=>?_) (λb o _ _ a e _=>k b o a e) (λb o _ _ a e _=>⟨o.slots,k b o a e⟩) (λb o _ e n=>n)
  (λb o a e=>⟨o,k b o a e⟩) (λb xs e=>e) (λb o u e=>e) (λb ps e=>⟨#[],by rw[e];simp⟩) (λm j=>?_) (λb u e=>?_) I.bare
 .obtain⟨_,x,_,w,t,p⟩:=g b l
  exact⟨w,x,t,p⟩
 .obtain⟨o,y,A,i,r⟩:=j
  exact⟨o,y,A,k _ o (λz=>(g _ z).2.1 rfl) i,r⟩
 .refine(I.hok b u e).stay (λc v a q=>k c v ?_ q) (λ_ q=>q) (λ_ _ q=>q) λ_ _ q=>q
  rcases a with z|z
  .rw[z];exact d b u e
  .exact d c _ z
end
def Uw(K:Va)(a:Vi):It :=
 ⟨λi H=>∃xs x,fm K H a xs/\xs[i]?=Wp x,λi H x b=>∃p y,H p=Wb/\x=.ref p/\(∀xs,fm K H a xs->xs[i]?=Wp y)/\b=upd H p (.tup [.int i,y]),λi H=>∃xs,fm K H a xs/\xs.length<=i⟩
def E5{P:V5}{w:Wx}{K:Va}{elts:List V4}{k:Nat}{pos:Pos}(a it e:Vi)(hne:e≠it)(hae:a≠e)(hai:a≠it) :
  Dw P w K (.Tuple elts k pos) (Uw K a) [e,it] e (λi h=>(∃old,IsEnum h e it i old)/\h.IsListIter it a i) where
 mem:=by simp
 obj:=λi h st b hb=>by
  obtain⟨⟨old,he⟩,o,h1,h2,h3⟩:=st;rcases Vl.mp hb with rfl|hb
  .exact⟨_,he,λv z=>by cases z⟩
  .rcases Vl.mp hb with rfl|hb
   .exact⟨o,h1,λv z=>by rw[h3]at z;cases z⟩
   .cases hb
 keep:=λi h h' st k=>by
  obtain⟨⟨old,he⟩,hi⟩:=st;exact⟨⟨old,k e 0#3 _ he⟩,hi.at λo y=>k it 0#3 o y⟩
 item:=by
  intro X hP hw hK hc i π s σ H E I hf st hg;subst hP hw hK;obtain⟨xs,x,hq,hx⟩:=hg;obtain⟨its,rv,p,hz⟩:=I.list hq;obtain⟨u,hu,ru⟩:=rv.get hx;have W:=WalksT.enumerate (prog:=X.prog) (w:=X.w) (I.ok.hd hc) e it a hne hae hai its.toArray;have hil:i<its.toArray.size:=by simpa using (Vn.mp hu).1
  refine W.item i s _ _ hil ⟨st.1,st.2,p.isList⟩ λT vals h' tk hPt hT hTup hMid hk=>?_;refine⟨_,rfl,W.go elts k pos i T _ _ _ hMid λh'' st'' hk''=>?_⟩;obtain⟨t,y,hy,rfl⟩:=hPt;have hyu:y=u:=by
   have:its[i]?=Wp y:=by simpa using hy
   rw[hu]at this;cases this;rfl
  subst hyu;obtain⟨o,ho,hr⟩:=hTup;have ho':=hk'' T o (W.apart i T _ hMid) ho;refine⟨.ref T,upd H T (.tup [.int i,x]),xD (s:=s) (h':=h'') (t':=tk) I (λb o hb e=>hk'' b o hb (hk b o hb e)) hf hT ⟨by show 2<=sizeLine;decide,[.int i t,y],.cons ⟨t,rfl⟩ (.cons ru .nil),o,ho',hr⟩,rfl,⟨T,x,I.hok.fresh hT,rfl,λys hy=>by rw[I.list_inj hy hq];exact hx,rfl⟩,⟨st''.1,st''.2.1⟩,λb hb=>?_⟩;have hb0:=(hf b hb).1;obtain⟨ob,hob,_⟩:∃o,s.heap.get? b=Wp o/\∀v,o.data≠.cell v:=by
   obtain⟨⟨old,he⟩,o,h1,h2,h3⟩:=st;rcases Vl.mp hb with rfl|hb
   .exact⟨_,he,λv z=>by cases z⟩
   .rcases Vl.mp hb with rfl|hb
    .exact⟨o,h1,λv z=>by rw[h3]at z;cases z⟩
    .cases hb
  rw[ay (VM<|Vk (Vw hob) hT)];exact hb0
 done:=by
  intro X hP hw hK hc i π s σ H E I hf st hg;subst hP hw hK;obtain⟨xs,hq,hx⟩:=hg;obtain⟨its,rv,p,hz⟩:=I.list hq;have hl:=rv.length;obtain⟨⟨old,he⟩,hi⟩:=st;exact wpAny_pyNext_enum_end (I.ok.hd hc) he hi p.isList (by simp;omega) λh' hx=>⟨rfl,DH (t':=s.toks) I (λb o hb e=>hx b o (λz=>hb<|by simp[z]) e) hf⟩
 self:=λ_ _ _ _ _ st h=>by
  obtain⟨⟨old,he⟩,_⟩:=st;exact wpAny_pyIter_enum he h
section
variable {X:Cx}{E:XK}{elts:List V4}{k:Nat}{tp:Pos}{e a b:V4}{f g:bv}
def RO(K:Va)(j:TA):TI:=λd H R=>j d H λi c=>∃a,i=[.ref a]/\(∃xs,fm K c a xs)/\R (Uw K a) c
def Lp(N:Gl X "enumerate")(J:X.mg "enumerate"=Wb)(O:PA X [a] w)(C:Vg [a] X.env=[(Vd,eval a X.env)]:=by rfl):PI X (.Tuple elts k tp) (.Call (.Name "enumerate" p) [a] [] pos) (RO X.K w):=by
 intro v s u H R I h;refine Call_<|qO I N J PyProof.Rows.Boot.«enumerate» (XW (cM (O pos v s u H _ I h) λU c z9=>?_) C rfl);obtain⟨T,Q,m,y,z⟩:=z9;obtain⟨l,e,⟨xs,G⟩,q⟩:=z;subst e;cases y with
 |cons r x=>
  cases x;cases r;obtain⟨A,rv,p,hz⟩:=m.list G;have d:l<2#c:=by obtain⟨o,n,e,_⟩:=p;exact Vw e
  refine call_enumerate_list p.isList λh' t M B L=>?_;refine wpAny_pyIter_enum t ?_;refine⟨2#c+1,[2#c+1,2#c],_,_,Q,rfl,m.kept (t':=c.toks) L,E5 l 2#c (2#c+1) (Nat.succ_ne_self _) (VM (Nat.lt_succ_of_lt d)) (VM d),⟨⟨_,t⟩,M⟩,λb j=>?_,q⟩;have i:2#c<=b:=by
   rcases Vl.mp j with rfl|j
   .omega
   .rcases Vl.mp j with rfl|j
    .exact VB _
    .cases j
  exact m.fpOk i<|m.hok.fresh i
def numbered(n:Nat):ac->ac
 |[]=>[]
 |d::c=>.tup [.int n,d]::numbered (n+1) c
theorem numbered_len:∀(ds:ac) (n:Nat),(numbered n ds).length=ds.length
 |[],_=>rfl
 |d::ds,n=>by simp[numbered,numbered_len ds]
theorem numbered_get:∀(ds:ac) (n i:Nat),(numbered n ds)[i]?=(ds[i]?).map λd=>D.tup [.int (n+i:Nat),d]
 |[],_,_=>by simp[numbered]
 |d::ds,n,0=>by simp[numbered]
 |d::ds,n,i+1=>by simp only[numbered,VZ];rw[numbered_get ds (n+1) i,show n+1+i=n+(i+1) by omega]
def oo(f:bv):Ev->aw (ac):=λc=>(f c).bind λd=>match d with
 |.lst i=>.ok<|numbered 0 i
 |_=>.stuck
def DJ{K:Va}(d:aD Ha H)(i:H p=Wb)(r:Reps K Ha ds vs):∃c,bz H Ha (upd H p<|.tup vs) c/\Rep K c (.tup ds) (.ref p) :=
 ⟨upd Ha p<|.tup vs,aR d i,aH.mpr ⟨p,vs,rfl,nq.of aC,r.mono (aR (o:=.tup vs) d i).z⟩⟩
def iJ(U:Gl X "enumerate")(T:X.mg "enumerate"=Wb)(h:DE X E a f)(C:Nv a=VO:=by exact rfl):DI X E (.Tuple elts k tp) (.Call (.Name "enumerate" p) [a] [] pos) (oo f):=by
 refine⟨oy (Lp U T (dH h.o ig (fS C)) (fS C)) λσ H R z9=>?_⟩;obtain⟨Ha,B,N,O,q⟩:=z9;refine⟨Ha,B,N,O,?_⟩;unfold oo at q;cases I:f B with
 |stuck|exn x=>rwa[I]at q
 |ok d=>
  rw[I]at q;intro v H1 A G L;cases d with
  |lst Y=>
   obtain⟨l,n,rfl,t,c⟩:=aA.mp L;refine⟨l,rfl,⟨n,aD.sqL G.sub t⟩,q _ H1 A G ⟨λi J s m j r=>?_,λi J s x H2 d m j hd w=>?_,λi J s m j r=>?_⟩⟩
   .rw[numbered_len]at r
    exact⟨n,n[i]'(by rw[←c.length];exact r),aD.sqL (m.trans j) t,by simp⟩
   .obtain⟨p,y,Q,rfl,w,rfl⟩:=w
    rw[numbered_get]at hd;cases z:Y[i]? with
    |none=>rw[z]at hd;cases hd
    |some d'=>
     rw[z]at hd;cases hd;obtain⟨u,M,k2⟩:=c.get z;have:=w n<|aD.sqL (m.trans j) t;rw[M]at this;cases this;exact DJ j Q (Reps.cons (ax.mpr<|by simp)<|Reps.cons (k2.mono m) Reps.nil)
   .rw[numbered_len]at r
    exact⟨n,aD.sqL (m.trans j) t,by rw[←c.length];exact r⟩
  |_=>exact q.elim
end
noncomputable def Uv(K:Va) (a b:Vi):It :=
 ⟨λi H=>∃xs c x y,fm K H a xs/\fm K H b c/\xs[i]?=Wp x/\c[i]?=Wp y,λi H x d=>∃p y z,H p=Wb/\x=.ref p/\(∀xs,fm K H a xs->xs[i]?=Wp y)/\(∀xs,fm K H b xs->xs[i]?=Wp z)/\d=upd H p (.tup [y,z]),
  λi H=>∃xs c,fm K H a xs/\fm K H b c/\min xs.length c.length<=i⟩
def GU{P:V5}{w:Wx}{K:Va}{elts:List V4}{k:Nat}{pos:Pos}(z TI TO i1 i2 a b:Vi)(D:ZipApart z TI TO i1 i2 a b) :
  Dw P w K (.Tuple elts k pos) (Uv K a b) [z,TI,TO,i1,i2] z (λi h=>IsZip h z TI TO .none/\IsPair h TI (.ref i1) (.ref i2)/\(∃a b,IsPair h TO a b)/\h.IsListIter i1 a i/\h.IsListIter i2 b i) where
 mem:=by simp
 obj:=λi h st b hb=>by
  obtain⟨hz,hTI,⟨a',b',hTO⟩,⟨o1,e1,c1,d1⟩,⟨o2,e2,c2,d2⟩⟩:=st;simp only[Vl,Wu,ey]at hb;rcases hb with rfl|rfl|rfl|rfl|rfl
  .exact⟨_,hz,λv z=>by cases z⟩
  .exact⟨_,hTI,λv z=>by cases z⟩
  .exact⟨_,hTO,λv z=>by cases z⟩
  .exact⟨_,e1,λv z=>by rw[d1]at z;cases z⟩
  .exact⟨_,e2,λv z=>by rw[d2]at z;cases z⟩
 keep:=λi h h' st k=>by
  obtain⟨hz,hTI,⟨a',b',hTO⟩,h1,h2⟩:=st;exact⟨k z 0#3 _ hz,k TI 0#3 _ hTI,⟨a',b',k TO 0#3 _ hTO⟩,h1.at λo y=>k i1 0#3 o y,h2.at λo y=>k i2 0#3 o y⟩
 item:=by
  intro X hP hw hK hc i π s σ H E I hf st hg;subst hP hw hK;obtain⟨xs,ys,x,y,hqx,hqy,hx,hy⟩:=hg;obtain⟨its,rv,p,hz⟩:=I.list hqx;obtain⟨jts,rw_,p',hz'⟩:=I.list hqy;obtain⟨u,hu,ru⟩:=rv.get hx;obtain⟨u',hu',ru'⟩:=rw_.get hy;have W:=WalksT.zip2 (prog:=X.prog) (w:=X.w) (I.ok.hd hc) z TI TO i1 i2 a b D its.toArray jts.toArray;have hil:i<min its.toArray.size jts.toArray.size:=by
   have h1:=(Vn.mp hu).1;have h2:=(Vn.mp hu').1;simp only[Vx];omega
  have sub:∀b,b∉[z,TI,TO,i1,i2]->b∉[z,TO,i1,i2]:=λb hb hc=>hb (by simp only[Vl,Wu,ey]at hc ⊢;rcases hc with h|h|h|h<;>simp[h]);refine W.item i s _ _ hil ⟨st.1,st.2.1,st.2.2.1,st.2.2.2.1,st.2.2.2.2,p.isList,p'.isList⟩ λT vals h' tk hPt hT hTup hMid hk=>?_;refine⟨_,rfl,W.go elts k pos i T _ _ _ hMid λh'' st'' hk''=>?_⟩;obtain⟨v,v',hv,hv',rfl⟩:=hPt;have hyu:v=u:=by
   have:its[i]?=Wp v:=by simpa using hv
   rw[hu]at this;cases this;rfl
  have hyu':v'=u':=by
   have:jts[i]?=Wp v':=by simpa using hv'
   rw[hu']at this;cases this;rfl
  subst hyu hyu';obtain⟨o,ho,hr⟩:=hTup;have ho':=hk'' T o (W.apart i T _ hMid) ho;refine⟨.ref T,upd H T<|.tup [x,y],xD (s:=s) (h':=h'') (t':=tk) I (λb o hb e=>hk'' b o (sub b hb)<|hk b o (sub b hb) e) hf hT ⟨by show 2<=sizeLine;decide,[v,v'],.cons ru<|.cons ru' .nil,o,ho',hr⟩,rfl,⟨T,x,y,I.hok.fresh hT,rfl,λys hy'=>by rw[I.list_inj hy' hqx];exact hx,λys hy'=>by rw[I.list_inj hy' hqy];exact hy,rfl⟩,
   ⟨st''.1,st''.2.1,st''.2.2.1,st''.2.2.2.1,st''.2.2.2.2.1⟩,λb hb=>?_⟩
  have hb0:=(hf b hb).1;obtain⟨ob,hob⟩:∃o,s.heap.get? b=Wp o:=by
   obtain⟨hz,hTI,⟨a',b',hTO⟩,⟨o1,e1,c1,d1⟩,⟨o2,e2,c2,d2⟩⟩:=st;simp only[Vl,Wu,ey]at hb;rcases hb with rfl|rfl|rfl|rfl|rfl
   .exact⟨_,hz⟩
   .exact⟨_,hTI⟩
   .exact⟨_,hTO⟩
   .exact⟨_,e1⟩
   .exact⟨_,e2⟩
  rw[ay (VM<|Vk (Vw hob) hT)];exact hb0
 done:=by
  intro X hP hw hK hc i π s σ H E I hf st hg;subst hP hw hK;obtain⟨xs,ys,hqx,hqy,hx⟩:=hg;obtain⟨its,rv,p,hz⟩:=I.list hqx;obtain⟨jts,rw_,p',hz'⟩:=I.list hqy;have hl:=rv.length;have hl':=rw_.length;obtain⟨hz,hTI,⟨a',b',hTO⟩,h1,h2⟩:=st;refine wpAny_pyNext_zip_end (I.ok.hd hc) D hz hTI hTO h1 h2 p.isList p'.isList ?_ λh' hk=>⟨rfl,DH (t':=s.toks) I (λc o hb e=>hk c o (λx=>hb<|by simp[x]) (λx=>hb<|by simp[x]) (λx=>hb<|by simp[x]) (λx=>hb<|by simp[x]) e) hf⟩
  by_cases hle:xs.length<=ys.length
  .left;simp;omega
  .right;simp;omega
 self:=λ_ _ _ _ _ st h=>by
  obtain⟨hz,_⟩:=st;exact wpAny_pyIter_zip hz h
section
variable {X:Cx}{E:XK}{elts:List V4}{k:Nat}{tp:Pos}{e a b:V4}{f g:bv}
def TK(K:Va)(j:TA):TI:=λd H R=>j d H λi c=>∃a b,i=[.ref a,.ref b]/\(∃xs,fm K c a xs)/\(∃xs,fm K c b xs)/\R (Uv K a b) c
def OG(hg:Gl X "zip")(hm:X.mg "zip"=Wb)(ha:PA X [a,b] M)(hs:Vg [a,b] X.env=[(Vd,eval a X.env),(Vd,eval b X.env)]:=by rfl)(d:Vg [b] X.env=[(Vd,eval b X.env)]:=by rfl) :
  PI X (.Tuple elts k tp) (.Call (.Name "zip" p) [a,b] [] pos) (TK X.K M):=by
 intro L s J H R I h;refine Call_ (qO I hg hm PyProof.Rows.Boot.«zip» (XW (cM (ha pos L s J H _ I h) λus c ⟨vs,H1,m,O,T⟩=>?_) (by rw[hs,d]) (by rw[d];rfl)));obtain⟨l,C,e,⟨xs,hq⟩,⟨ys,v⟩,q⟩:=T;subst e;cases O with
 |cons r t=>
  cases t with
  |cons Q t=>
   cases t;cases r;cases Q;obtain⟨Y,rv,p,u⟩:=m.list hq;obtain⟨U,N,B,ab⟩:=m.list v;have w:l<2#c:=by obtain⟨o,n,e,_⟩:=p;exact Vw e
   have i:C < 2#c:=by obtain⟨o,n,e,_⟩:=B;exact Vw e
   refine call_zip_2 p.isList B.isList λh' u A z y x al hk=>?_;refine wpAny_pyIter_zip u ?_;refine⟨2#c+4,[2#c+4,2#c+2,2#c+3,2#c,2#c+1],_,_,H1,rfl,m.kept (t':=c.toks) hk,GU _ _ _ _ _ l C (zipApart_new w i),⟨u,A,⟨_,_,z⟩,y,x⟩,λb G=>?_,q⟩;have j:2#c<=b:=by
    simp only[Vl,Wu,ey]at G;rcases G with rfl|rfl|rfl|rfl|rfl<;>omega
   exact m.fpOk j<|m.hok.fresh j
def c8:ac->ac->ac
 |d::i,e::c=>.tup [d,e]::c8 i c
 |_,_=>[]
theorem nA:∀(ds c:ac),(c8 ds c).length=min ds.length c.length
 |[],_=>by simp[c8]
 |_::_,[]=>by simp[c8]
 |d::ds,e::c=>by simp[c8,nA ds c]
theorem uw:∀(ds c:ac) (i:Nat) (d:D),(c8 ds c)[i]?=Wp d->∃x y,ds[i]?=Wp x/\c[i]?=Wp y/\d=.tup [x,y]
 |[],_,_,_,h=>by simp[c8]at h
 |_::_,[],_,_,h=>by simp[c8]at h
 |d::ds,e::c,0,_,h=>by simp[c8]at h;exact⟨d,e,rfl,rfl,h.symm⟩
 |d::ds,e::c,i+1,_,h=>by
  simp only[c8,VZ]at h;obtain⟨x,y,m,l,j⟩:=uw ds c i _ h;exact⟨x,y,by simpa using m,by simpa using l,j⟩
def KZ(f g:bv):Ev->aw (ac):=λc=>(f c).bind λd=>(g c).bind λe=>match d,e with
 |.lst j,.lst i=>.ok<|c8 j i
 |_,_=>.stuck
def PJ(hg:Gl X "zip")(hm:X.mg "zip"=Wb)(h:DE X E a f)(h':DE X E b g)(hn:Nv a=VO:=by exact rfl)(A:Nv b=VO:=by exact rfl):DI X E (.Tuple elts k tp) (.Call (.Name "zip" p) [a,b] [] pos) (KZ f g):=by
 refine⟨oy (OG hg hm (dH h.o (dH h'.o ig (fS A)) (aM hn)) (by rw[aM hn,fS A]) (fS A)) λσ H R z9=>?_⟩;obtain⟨Ha,G,hs,hr,q⟩:=z9;refine⟨Ha,G,hs,hr,?_⟩;unfold KZ at q;cases e1:f G with
 |stuck|exn x=>rwa[e1]at q
 |ok d=>
  rw[e1]at q;intro v H1 al M r1;refine⟨al,G,M.sub,hr.mono M.z,?_⟩;replace q:match ((g G).bind λe=>match d,e with
   |.lst N,.lst es=>aw.ok<|c8 N es
   |_,_=>.stuck) with
    |.ok N=>∀J r c,bz H Ha r c->Sq X.K N J c->R J r
    |.exn x=>∀C ox r c,bz H Ha r c->yG X.K c x C ox->E C ox r
    |.stuck=>False:=q
  cases Y:g G with
  |stuck=>rwa[Y]at q|exn x=>rw[Y]at q;exact λC ox r c B=>q C ox r c<|M.trans B
  |ok d2=>
   rw[Y]at q;intro v2 H2 ab B r2;cases d with
   |lst N=>
    cases d2 with
    |lst es=>
     obtain⟨l,I,rfl,L,w⟩:=aA.mp<|r1.mono B.z;obtain⟨l',j,rfl,t,m⟩:=aA.mp r2;refine⟨l,l',rfl,⟨I,aD.sqL B.sub L⟩,⟨j,aD.sqL B.sub t⟩,q _ H2 ab (M.trans B) ⟨λi r c n s U=>?_,λi r c x H2 d n s hd T=>?_,λi r c n s U=>?_⟩⟩
     .rw[nA]at U
      have h1:=w.length;have h2:=m.length;exact⟨I,j,I[i]' 0#2,j[i]' 0#2,aD.sqL (n.trans s) L,aD.sqL (n.trans s) t,by simp,by simp⟩
     .obtain⟨p,y,z,hp,rfl,T,hz,rfl⟩:=T
      obtain⟨d1,d2,k1,k2,rfl⟩:=uw _ _ _ _ hd;obtain⟨u,m1,m2⟩:=w.get k1;obtain⟨u',Q,O⟩:=m.get k2;have:=T I<|aD.sqL (n.trans s) L;rw[m1]at this;cases this;have:=hz j<|aD.sqL (n.trans s) t;rw[Q]at this;cases this;exact DJ s hp<|Reps.cons (m2.mono n)<|Reps.cons (O.mono n) Reps.nil
     .rw[nA]at U
      have h1:=w.length;have h2:=m.length;exact⟨I,j,aD.sqL (n.trans s) L,aD.sqL (n.trans s) t,by omega⟩
    |_=>exact q.elim
   |_=>exact q.elim
end
def mY(f:Vq):cr->ac->Option D
 |k::a,d::b=>if f=k then Wp d else mY f a b
 |_,_=>Wb
theorem zE{K:Va}{H:Hp}{f:Vq}:∀{ks:cr}{ds:ac}{vs:am}{d:D},ks.length=vs.length->Reps K H ds vs->mY f ks ds=Wp d->∃v,(ks.zip vs).lookup f=Wp v/\Rep K H d v/\f∈ks
 |[],ds,vs,d,_,_,h=>by unfold mY at h;cases h
 |k::ks,[],vs,d,_,_,h=>by unfold mY at h;cases h
 |k::ks,x::ds,vs,d,e,r,h=>by
  obtain⟨v,l,rfl,b,a⟩:=az.mp r;unfold mY at h
  by_cases c:f=k
  .rw[ef c]at h
   cases h;exact⟨v,by rw[Wy,V7,beq_iff_eq.mpr c],b,by rw[c];exact Ve⟩
  .rw[eo c]at h
   obtain⟨u,j,i,g⟩:=zE (by simpa using e) a h;exact⟨u,by rw[Wy,V7,beq_eq_false_iff_ne.mpr c];exact j,i,U9 _ g⟩
def gr(f:Vq)(x:D):aw D:=match x with
 |.ob (.ins c a) b=>match mY f a b with
  |some d=>.ok d
  |none=>.stuck
 |_=>.stuck
section
variable {X:Cx}{E:XK}{e a b o:V4}{es:List V4}{fe fo:bv}{fa:Ev->aw (ac)}{pos:Pos}
def jP(G:DE X E e fe)(I:Xe e f X.env (eval e X.env)=eval e X.env:=by rfl):DE X E (.Attribute e f pos) (aL fe<|gr f):=by
 refine⟨bc (OP G.o I) λT H Q z9=>?_⟩;obtain⟨i,l,A,B,q⟩:=z9;refine⟨i,l,A,B,?_⟩;unfold aL at q;cases s:fe l with
 |stuck|exn x=>rwa[s]at q
 |ok d=>
  rw[s]at q;intro v O j r w;replace q:post X.K E H i (gr f d) Q:=q;unfold gr at q;cases d with
  |ob k t=>
   cases k with
   |ins c m=>
    replace q:post X.K E H i (match mY f m t with|some d=>aw.ok d|none=>.stuck) Q:=q;cases g:mY f m t with
    |none=>rw[g]at q;exact q.elim
    |some d=>
     rw[g]at q;obtain⟨p,U,rfl,⟨C,N,Y,n,M,L⟩,J⟩:=bj.mp w;obtain⟨u,z,k2,y⟩:=zE L J g;exact⟨p,C,N,_,u,rfl,r.sub _ _ M,n.cls,n.no f y,z,q u O j r k2⟩
   |_=>exact q.elim
  |_=>exact q.elim
def putAll:cr->am->List (Vq×V)->List (Vq×V)
 |f::fs,v::c,l=>putAll fs c<|ie f v l
 |_,_,l=>l
theorem AB:∀{l:List<|Vq×V},f∉l.map (·.1)->ie f v l=l++[(f,v)]
 |[],_=>rfl
 |(k,x)::l,h=>by
  simp only[Vf,Vl,not_or]at h;unfold ie;rw[eo (λz=>h.1 z.symm),AB h.2];rfl
theorem nz:∀{fs:cr}{vs:am}{l:List<|Vq×V},fs.Nodup->(∀f∈fs,f∉l.map (·.1))->fs.length=vs.length->putAll fs vs l=l++fs.zip vs
 |[],[],l,_,_,_=>by simp[putAll]
 |[],v::vs,l,_,_,h=>by simp at h
 |f::fs,[],l,_,_,h=>by simp at h
 |f::fs,v::vs,l,nd,c,h=>by
  rw[VR]at nd;unfold putAll;rw[AB (c f Ve),nz nd.2 (λg d=>?_) (by simpa using h),Wy,XX]
  .rfl
  .simp only[VX,Vf,Xg,VH,VL,not_or]
   exact⟨c g (U9 _ d),λz=>nd.1<|z▸d⟩
noncomputable def QN(K:Va) (fs:cr) (j:db):TS:=λD c H=>∃a C g l d,c[0]?=Wp (Wp<|V.ref a)/\H a=Wp (.ins C g l)/\Kq K C/\(∀f∈fs,dD K C f)/\l.length+fs.length<1000/\fs.length=d.length /\
 j.map (λi=>c[i]?)=d.map (λv=>Wp<|Wp v)/\D.nx c (upd H a<|.ins C g<|putAll fs d l)
structure EX (X:Cx) (sts:List Xi) (fs:cr) (is:db):Prop where
 o:z8 X sts (QN X.K fs is)
def tV{a:Vi}{o:HO}(h:H a=Wp o):upd H a o=H:=by
 funext b
 by_cases c:b=a
 .subst c;rw[aC,h]
 .rw[ay c]
def iO{a:Vi}{o u:HO}:upd (upd H a o) a u=upd H a u:=by
 funext b
 by_cases c:b=a
 .subst c;rw[aC,aC]
 .rw[ay c,ay c,ay c]
def PL:EX X [] [] []:=⟨iY y9 λD g H ⟨a,C,r,l,c,p,f,n,m,j,d,i,q⟩=>by
 cases c with
 |nil=>
  unfold putAll at q;rwa[tV f]at q
 |cons v c=>simp at d⟩
theorem um:∀{l:List<|Vq×V},(ie f v l).length<=l.length+1
 |[]=>by simp[ie]
 |(k,x)::l=>by
  unfold ie;split
  .simp
  .have:=um (f:=f) (v:=v) (l:=l)
   simp;omega
def mR{fs:cr}(O:X.N[i]?=Wp y)(p:X.N[0]?=Wp x)(J:yC X.env.scope y)(m:yC X.env.scope x)(h:EX X j fs I)
  (hd:1#y:=by decide)(n:3#y:=by decide)(hd0:1#x:=by decide)(c:3#x:=by decide)
  (L:WI (.Name y A) (Wp<|.Attribute (.Name x G) f B) pos.line X.env=pure Vd:=by rfl) :
  EX X (.Assign [.Attribute (.Name x G) f B] (.Name y A) pos::j) (f::fs) (i::I):=by
 refine⟨iY (lE (OF (fW p m hd0 c) (fW O J hd n) L) h.o) λD U H z9=>?_⟩;obtain⟨a,C,z,l,d,w,T,u,t,Q,s,r,q⟩:=z9;cases d with
 |nil=>simp at s
 |cons v d=>
  simp only[Vf,Y9]at r;simp only[Vp]at Q s;refine⟨v,r.1,.ref a,w,a,C,z,l,rfl,T,u,t f Ve,by omega,?_⟩;refine⟨a,C,z,_,d,w,aC,u,λg M=>t g<|U9 _ M,?_,by omega,r.2,?_⟩
  .have:=um (f:=f) (v:=v) (l:=l)
   omega
  .rw[iO];exact q
def yP(K:Va)(ks:cr):Sp:=λd H Q _=>∃x c C args,d=.ref x::args/\args.length=ks.length/\H x=Wp (.ins C c [])/\Kq K C/\(∀f∈ks,dD K C f)/\Q .non (upd H x<|.ins C c<|ks.zip args)
def Md{K:Va}{st:Xi}{ps:cr}(F:B1 K x qual st f y)(S:dy ps ps<|defScope st)(t:ks.Nodup)(l:ps.length=ks.length+1)(B:ks.length<500)
  (d:∀(g:U5) (A:Wh) (outer:List Wq) (s0:Vm) (H:Hp) (E:XK),EX (cP CX0 P w K r base ps qual (defScope st) f g A outer s0 H E).nox (defBody st) ks ((Ws ks.length).map (· + 1))):ft P w K r base CX0 1 f y ps (yP K ks):=by
 refine F.ok S (λp H Q E h=>?_) λg A outer s0 H p Q E z h=>?_
 .obtain⟨x,n,C,args,rfl,j,_⟩:=h
  simp[j,l]
 .obtain⟨x,n,C,args,rfl,j,u,v,s,q⟩:=h
  refine⟨_,(d g A outer s0 H E).o,x,C,n,[],args,?_,u,v,s,by simp;omega,j.symm,?_,?_⟩
  .unfold L2.start;simp
  .unfold L2.start
   apply Xt;intro i;simp only[Vh,Wk]
   by_cases m:i<ks.length
   .have c:i<args.length:=by omega
    simp[m,c,VA,VZ]
   .have c:¬i<args.length:=by omega
    simp[m,c]
  .rw[nz t 0#3 j.symm]
   exact q
def CU(c:Vq)(ks:cr)(ds:ac):aw D:=if ds.length=ks.length then .ok (.ob (.ins c ks) ds) else .stuck
def JM{k:Nat}{ps ks:cr}(M:Mk X.K C fn)(F:ft X.prog X.w X.K X.mg X.base CX0 k fn fd ps<|yP X.K ks)(g:cW (k+1) X.A)(T:Gl X x)(O:X.mg x=Wp (.ref C))(l:WC X.K Vz x=Wp (Wp<|.ref C))(Y:gw X.K fd ps [])(u:Qd X.K ks C)(L:gN CX0 X E)(ha:DA X E (e::es) fa)
  (t:1#x:=by decide)(U:Vg (e::es) X.env=(Vd,eval e X.env)::Vg es X.env:=by exact aM rfl)(j:(Wn pos<|Vg es X.env).any (·.1)=Vd:=by exact bM rfl) :
  DE X E (.Call (.Name x p) (e::es) [] pos) (ak fa<|CU x ks):=by
 refine⟨bc (Ls M F g T O Y .nil L ha.o t U j)<|ko (r:=λd G Q=>∀x c,G x=Wb->G c=Wb->c≠x->yP X.K ks (.ref x::(d++[])) (upd (upd G c (.own x)) x (.ins C c [])) (λv H2=>v=.non/\Q (.ref x) H2) E) λds d H Ha Q N g q=>?_⟩;intro y c J s m;unfold CU at q
 by_cases n:ds.length=ks.length
 .rw[ef n]at q
  have f:d.length=ks.length:=by rw[←g.length];exact n
  refine⟨y,c,C,d,by simp,f,aC,u.cls,u.no,rfl,?_⟩;rw[iO];have i:(upd H c<|.own y) y=Wb:=by rw[ay m.symm];exact J
  have B:=aR (o:=.own y) N s;have I:=aR (o:=.ins C c<|ks.zip d) B.sub i;refine q _ _ _ (B.trans I)<|bj.mpr ⟨y,d,rfl,⟨C,c,l,u,aC,f.symm⟩,g.mono (B.trans I).z⟩
 .rw[eo n]at q;exact q.elim
def gG:ac->Option (List Int)
 |[]=>Wp []
 |.int x::r=>(gG r).map (x::·)
 |_=>Wb
theorem A5{K:Va}{H:Hp}:∀{ds:ac}{c:List Int}{vs:am}{f:List U5},gG ds=Wp c->Reps K H ds vs->bh vs f->IntsAre f c
 |[],c,vs,f,h,r,q=>by
  cases h;rw[Reps.nil_iff.mp r]at q;cases q;exact .nil
 |d::ds,c,vs,f,h,r,q=>by
  obtain⟨v,n,rfl,l,j⟩:=az.mp r;cases q with
  |cons g i=>
   cases d with
   |int x=>
    unfold gG at h;cases e:gG ds with
    |none=>rw[e]at h;cases h
    |some m=>
     rw[e]at h;cases h;rw[ax.mp l]at g;obtain⟨t,rfl⟩:=g;exact .cons _ _<|A5 e j i
   |_=>cases h
def RK(a:Int):List Int->List Int
 |[]=>[a]
 |b::l=>if a<=b then a::b::l else b::RK a l
def Nl:List Int->List Int
 |[]=>[]
 |a::l=>RK a<|Nl l
def Uq(x:D):aw D:=match x with
 |.lst d=>match gG d with
  |some c=>if c.length<64 then .ok (.lst<|(Nl c).map D.int) else .stuck
  |none=>.stuck
 |_=>.stuck
def L7(x:D)(ds:ac):Option Nat:=ds.findIdx? λd=>cX d x
def kP(x y:D):aw D:=match x with
 |.lst c=>if bp 40 y=VO/\c.all (bp 40)=VO then match L7 y c with
   |some j=>.ok<|.int j
   |none=>.stuck
  else .stuck
 |_=>.stuck
def Ox(K:Va):V->am->Hp->VK->Prop:=λx f H Q=>∃c y d j,Rep K H (.lst c) x/\f=[y]/\Rep K H d y/\bp 40 d=VO/\c.all (bp 40)=VO/\L7 d c=Wp j/\Q (.int j) H
def II(hu:X.A.units+64<Xu):SO X "list.index" (Ox X.K):=by
 intro π s σ H x vs v us Q I rx rv h;obtain⟨i,y,d,j,hr,rfl,hd,s1,N,J,q⟩:=h;obtain⟨u,rfl,ru⟩:=rv.one;obtain⟨a,vs,r,ea,rfl,h1,M,U,h4,T⟩:=bg I hr rx;subst ea;obtain⟨c,an,⟨o,n,e,L,al,f⟩,hz⟩:=I.list h1;have ei:c=r:=by
  obtain⟨o',Y,_,n',d'⟩:=h4;rw[e]at Y;cases Y;rw[f]at d';injection d' with d1 _;simpa using ew YI d1
 subst ei;unfold L7 at J;rw[List.findIdx?_eq_some_iff_getElem]at J;obtain⟨ab,C,G⟩:=J;have at_:∀m (g:m<c.length),jt X.K H i d c[m]=cX (i[m]'(by rw[T];exact g)) d:=λm g=>by
  obtain⟨v',k1,k2⟩:=M.get (U7 (by rw[T];exact g:m<i.length));obtain⟨u',O,k4⟩:=U.get k1;rw[U7 g]at O;cases O;exact tH I N (Ww _) k2 k4
 have t:(j:Int)<2 ^ 63-1:=by
  have h7:=M.length;have:j<sizeLine:=by omega
  have:sizeLine<=2 ^ 60:=by decide
  omega
 obtain⟨oc,od,p,l⟩:=o;replace L:oc=.type "list":=L;replace f:p=.seq c.toArray n:=f;subst L f;refine call_meets F.slot_list_index ⟨_,e,rfl⟩ F.entry_list_index (F.args_list_index_2 _ _) (SeqAt.list_indexAt a c.toArray n od l u (jt X.K H i d) j (by simp;omega) t ?_ ?_) ⟨e,λw hw=>gH I hu s1 hd ru N (λ_ z=>z) M U w (by simpa using hw),.int j,H,I.tok _,⟨_,rfl⟩,q⟩
 .have:=at_ j 0#2
  simp only[saL];rw[this];exact C
 .intro m g B
  have:=at_ m (by simpa using g);simp only[saL];rw[this];have:=G m B;simpa using this
def jD(fo:bv)(fe:bv):bv:=λc=>(fo c).bind λx=>match x with
 |.lst d=>(fe c).bind λy=>kP (.lst d) y
 |_=>.stuck
def wb(T:X.A.units+64<Xu)(U:DE X E o fo)(Y:DE X E e fe)
  (i:Xe o "index" X.env (eval o X.env)=eval o X.env:=by rfl)
  (m:((Wn d<|Vg [e] X.env).all (λx=>!x.1)&&(YK d<|XA [] X.env).all (λx=>x.1.isSome)
  &&decide ([e].length+([]:List Yc).length+(if([]:List Yc).isEmpty then 0 else 1)<30))=VO:=by exact lQ rfl)
  (g:(apos.endLine==d.line)=VO:=by rfl) (t:Vg [e] X.env=(Vd,eval e X.env)::Vg [] X.env:=by exact aM rfl) (f:(Wn d<|Vg [] X.env).any (·.1)=Vd:=by exact bM rfl) :
  DE X E (.Call (.Attribute o "index" apos) [e] [] d) (jD fo fe):=by
 refine⟨bc (AI Yi PySem.F.slot_list_index PySem.F.type_list_index (II T) U.o (dH Y.o ig t) i m g t f) λσ H Q z9=>?_⟩;obtain⟨M,l,t,J,q⟩:=z9;refine⟨M,l,t,J,?_⟩;unfold jD at q;cases L:fo l with
 |stuck|exn x=>rwa[L]at q
 |ok x=>
  rw[L]at q;intro v H1 G w I;cases x with
  |lst s=>
   replace q:post X.K E H M ((fe l).bind λy=>kP (.lst s) y) Q:=q;replace q:=q.grow w;refine⟨?_,G,l,w.sub,J.mono w.z,?_⟩
   .obtain⟨p,N,rfl,h1,h2⟩:=aA.mp I
    exact .inl ⟨rfl,N,aD.sqL w.sub h1⟩
   .cases C:fe l with
    |stuck=>rwa[C]at q
    |exn x=>rwa[C]at q
    |ok y=>
     rw[C]at q;intro u H2 ab n O;replace q:=post.grow (r:=kP (.lst s) y) q n;unfold kP at q
     by_cases c:bp 40 y=VO/\s.all (bp 40)=VO
     .simp only[ef c]at q
      cases B:L7 y s with
      |none=>simp only[B]at q;exact q.elim
      |some j=>
       simp only[B]at q;exact⟨s,u,y,j,(I.mono n.z).mono n.sub,rfl,O.mono n.sub,c.1,c.2,B,bL n.sub q<|ri _⟩
     .simp only[eo c]at q;exact q.elim
  |_=>exact q.elim
end
structure Sg (K:Va) (x:Vq) (ks:cr) (C:Vi):Prop where
 ns:WC K Vz x=Wp (Wp (.ref C))
 recC:Qd K ks C
def noL_nil{K:Va}:∀f∈([]:cr),dD K C f:=λ_ h=>nomatch h
def noL_cons{K:Va}(h:WH K (.ref C) f=Wp Wb)(r:∀f∈ks,dD K C f):∀g∈f::ks,dD K C g:=λg a=>by
 rcases Vl.mp a with rfl|a
 .exact h
 .exact r g a
def K7{K:Va}(ns:WC K Vz x=Wp (Wp<|.ref C))(o:Zm K C Str.empty=VO)(hd:Xq K C=VO)(n:ZJ K C=VO)(m:WH K (.ref C) "__setattr__"=Wp (Wp<|.builtin "object.__setattr__"))
  (gc:WH K (.ref C) "__class__"=Wp (Wp<|.builtin "object.__class__"))(q:YR K (.builtin "object.__class__") "__get__"=Wp (Wp<|.builtin "getset_descriptor.__get__"))(b:Z8 K (.builtin "object.__class__")=Wp VO)(p:sah K C (.type "object")=Wp VO)
  (l:Xf K (.ref C) (.type "NoneType")=Wp Vd)(j:Xf K (.ref C) (.type "bool")=Wp Vd)(i:Xf K (.ref C) (.type "int")=Wp Vd)(g:Xf K (.ref C) (.type "str")=Wp Vd)(e:Xf K (.ref C) (.type "tuple")=Wp Vd)
  (d:Xf K (.ref C) (.type "list")=Wp Vd)(c:Xf K (.ref C) (.type "dict")=Wp Vd)(no:∀f∈ks,dD K C f):Sg K x ks C :=
 ⟨ns,⟨⟨o,hd,n,m⟩,no,gc,q,b,p,λT a=>by
  refine zu (lM T a) ?_;simp only[gM,Vl,Wu,ey]at a;rcases a with rfl|rfl|rfl|rfl|rfl|rfl|rfl
  .exact l
  .exact j
  .exact i
  .exact g
  .exact e
  .exact d
  .exact c⟩⟩
end DL
namespace Com
open PySem L2 DL
def ND(tg:Ev->D->aw Ev)(s:ci)(ρ:Ev)(ds:ac):aw Fl:=bT tg s ds ρ
def Nk(d:D):aw (ac):=match d with
 |.lst a=>.ok<|numbered 0 a
 |_=>.stuck
def Nj(d:D):aw (ac):=match d with
 |.lst a=>.ok a
 |_=>.stuck
def c6(n:Nat)(fr:db)(tg:Ev->D->aw Ev)(a b:bv)(ρ:Ev)(ds:ac):aw D:=if ds.length<=line then match cj (dB n fr ρ) tg a b ds with
  |.ok c=>.ok<|.lst c
  |_=>.stuck
 else .stuck
def Uo(a:bv)(ρ:Ev)(x:D):aw D:=match x with
 |.lst b=>(a ρ).bind<|kP<|.lst b
 |_=>.stuck
def EC(tg:Ev->D->aw Ev)(s:ci)(ρ:Ev)(d:D):aw Fl:=match d with
 |.int j=>if -4611686018427387904<=j/\j<4611686018427387904 then bT tg s (intsFrom 0 j.toNat) ρ else .stuck
 |_=>.stuck
section
variable {s t:ci}{f g h:bv}{src:Ev->aw (ac)}{fa:Ev->aw (ac)}{ρ r:Ev}{i j n:Nat}{d x y:D}{ds es xs:ac}{a b:Int}{tg:Ev->D->aw Ev}{tt fe:bv}{fr:db}
def zH:jW src tg s ρ=(src ρ).bind (ND tg s ρ):=rfl
def vM:ND tg s ρ ds=bT tg s ds ρ:=rfl
def tw:oo f ρ=(f ρ).bind Nk:=rfl
def oV:Nk (.lst ds)=.ok (numbered 0 ds):=rfl
def zF:lA f ρ=(f ρ).bind Nj:=rfl
def vh:Nj (.lst ds)=.ok ds:=rfl
def tE:cJ n fr src tg tt fe ρ=(src ρ).bind (c6 n fr tg tt fe ρ):=rfl
def zI(h:(ds.length==ks.length)=VO):CU c ks ds=.ok (.ob (.ins c ks) ds):=ef<|eq_of_beq h
def JA:jD f g ρ=(f ρ).bind (Uo g ρ):=rfl
def Dh:Uo g ρ (.lst ds)=(g ρ).bind (kP<|.lst ds):=rfl
def pS(h:(ds.length==c.length)=VO):dE c ρ (.tup ds)=.ok (dz ρ c ds):=by
 show(match (if ds.length=c.length then Wp ds else Wb) with|some ds=>aw.ok (dz ρ c ds)|none=>.stuck)=_;rw[ef (eq_of_beq h)]
def pT:xN f tg s ρ=(f<|fQ ρ).bind (EC tg s ρ):=rfl
def Bb{k:Nat}(h:k<=1000000):EC tg s ρ (.int (k:Int))=bT tg s (intsFrom 0 k) ρ:=by
 unfold EC;dsimp only;rw[ef ⟨by omega,by omega⟩,Wo]
def Dg:nj (.tup ds)=.ok (.lst ds):=rfl
def je:qW (.int 10) (.int 18)=.ok (.int 1000000000000000000):=rfl
def ki(c:ds.length<=1000000)(h:∀d∈ds,∃ρ1,tg (dB n fr ρ) d=.ok ρ1/\tt ρ1=.ok (.bl VO)/\fe ρ1=.ok (F d)):c6 n fr tg tt fe ρ ds=.ok (.lst<|ds.map F):=by
 unfold c6;rw[ef (show ds.length<=line from c),yo h]
theorem rW:∀{ds:ac},(∀d∈ds,∃ρ1,tg B d=.ok ρ1/\tt ρ1=.ok (.bl<|p d)/\(p d=VO->fe ρ1=.ok (F d)))->cj B tg tt fe ds=.ok ((ds.filter p).map F)
 |[],_=>rfl
 |d::ds,h=>by
  obtain⟨ρ1,o,m,l⟩:=h d Ve;have e:=rW (ds:=ds) λd hd=>h d<|U9 _ hd;unfold cj;rw[o,Ge,m,Ge];cases c:p d with
  |true=>
   show(fe ρ1).bind _=_;rw[l c,Ge,e,Ge,sab c];rfl
  |false=>
   show cj B tg tt fe ds=_;rw[e,sac (by rw[c];decide)]
def l9(c:ds.length<=1000000)(h:∀d∈ds,∃ρ1,tg (dB n fr ρ) d=.ok ρ1/\tt ρ1=.ok (.bl<|p d)/\(p d=VO->fe ρ1=.ok (F d))):c6 n fr tg tt fe ρ ds=.ok (.lst<|(ds.filter p).map F):=by
 unfold c6;rw[ef (show ds.length<=line from c),rW h]
end
def bnd(k:Nat):Nat:=2 ^ (201*k)
def EL{k:Nat}(h:k<=62):bnd k<wR:=by
 rw[mn];unfold bnd;exact Yy 0#1 0#2
def z9:wU<=2 ^ 200:=by decide
def BN(k:Nat):bnd (k+1)=bnd k*2 ^ 200+2 ^ 200*bnd k:=by
 unfold bnd;rw[show 201*(k+1)=201*k+201 by omega,Zb];generalize 2 ^ (201*k)=z;omega
def un(s x:iz):iz:=(s.1*x.2+x.1*s.2,s.2*x.2)
structure Kr (k:Nat) (s:iz):Prop where
 pos:0<s.2
 b1:s.1.natAbs<=bnd k
 b2:s.2.natAbs<=bnd k
def Kr.step{k:Nat}(h:Kr k s)(a:eF x):Kr (k+1) (un s x):=by
 have d:x.1.natAbs<=2 ^ 200:=Vr (XG a.pN) z9;have b:x.2.natAbs<=2 ^ 200:=Vr (XG a.qN) z9;have m1:=Yo h.b1 b;have m2:=Yo d h.b2;have c:=Yo h.b2 b;refine⟨Zd h.pos (by have:=a.q1;omega),?_,?_⟩
 .show(s.1*x.2+x.1*s.2).natAbs<=_
  rw[BN];refine Vr (Int.natAbs_add_le _ _) ?_;rw[XZ,XZ];exact Nat.add_le_add m1 m2
 .show(s.2*x.2).natAbs<=_
  rw[BN,XZ];exact Vr c<|Nat.le_add_right _ _
def Kr.start:Kr 0 (0,1):=⟨by decide,by decide,by decide⟩
def IS(e:0<s.2)(p:1<=x.2):kH ((kH s.1 s.2).1*x.2+x.1*(kH s.1 s.2).2) ((kH s.1 s.2).2*x.2)=kH (un s x).1 (un s x).2:=by
 have m:=mG (a:=s.1) e;have q:=zp (a:=s.1) (b:=s.2);generalize kH s.1 s.2=t at *;have f:0<t.2*x.2:=Zd (by have:=m.q1;omega) 0#2;have c:0<(un s x).2:=Zd e 0#2;have l:=mG (a:=t.1*x.2+x.1*t.2) f;have i:=zp (a:=t.1*x.2+x.1*t.2) (b:=t.2*x.2);have j:=mG (a:=(un s x).1) c;have g:=zp (a:=(un s x).1) (b:=(un s x).2);generalize kH (t.1*x.2+x.1*t.2) (t.2*x.2)=u at *;generalize kH (un s x).1 (un s x).2=v at *;refine IQ l j ?_;have d:v.1*(s.2*x.2)=(s.1*x.2+x.1*s.2)*v.2:=g;have r:0<t.2*x.2*(s.2*x.2):=Zd f c;have:u.1*v.2*(t.2*x.2*(s.2*x.2))=v.1*u.2*(t.2*x.2*(s.2*x.2)):=by
  have o:u.1*v.2*(t.2*x.2*(s.2*x.2))=(u.1*(t.2*x.2))*v.2*(s.2*x.2):=by grind
  have n:v.1*u.2*(t.2*x.2*(s.2*x.2))=(v.1*(s.2*x.2))*u.2*(t.2*x.2):=by grind
  rw[o,n,i,d]
  grind
 exact ZX 0#2 this
def Lm{k:Nat}(h:Kr k s)(p:k<=61)(c:eF x):m_plus [fr<|kH s.1 s.2,fr x]=.ok (fr<|kH (un s x).1 (un s x).2):=by
 have m:=mG (a:=s.1) h.pos;have j:(kH s.1 s.2).1.natAbs<=bnd k:=Vr zr h.b1;have f:(kH s.1 s.2).2.natAbs<=bnd k:=Vr zq h.b2;have d:=IS h.pos c.q1;have o:Kr k (kH s.1 s.2):=⟨by have:=m.q1;omega,j,f⟩
 have e:=o.step c;rw[←d];generalize kH s.1 s.2=t at *;have b:bnd k<Ad:=Vk (EL<|by omega) Ae;have i:bnd (k+1)<wR:=EL 0#2;have l:x.1.natAbs<Ad:=Vk c.pN kX;have g:x.2.natAbs<Ad:=Vk c.qN kX;refine Cp (n:=2) (ds:=[fr t,fr x]) ?_;show Dr [.sh<|fr t,.sh<|fr x]=_;unfold Dr;refine uc<|uf ?_;refine(qh (xs:=[.int<|t.1*x.2+x.1*t.2,.int<|t.2*x.2])<|qr ?_<|qr ?_ rfl).trans ?_
 .refine(fk (x:=.int<|t.1*x.2) (y:=.int<|x.1*t.2) ?_ ?_).trans rfl
  .exact(fk (x:=.int t.1) (y:=.int x.2) rfl rfl).trans<|uG<|nH (VN j b) g
  .exact(fk (x:=.int x.1) (y:=.int t.2) rfl rfl).trans<|uG<|nH l<|VN f b
 .exact(fk (x:=.int t.2) (y:=.int x.2) rfl rfl).trans<|uG<|nH (VN f b) g
 .exact uh e.pos (VN e.b1 i)<|VN e.b2 i
theorem Ar{L:Sl}:∀(xs:List iz) (k:Nat) (s:iz) (z:Sl),Kr k s->k+xs.length<=61->(∀x∈xs,eF x)->∃c,bT (bK 2) (ar (aJ 1<|ak (ae 1#6<|ae 2#6 av) m_plus) au) (xs.map fr) [L,.sh<|fr<|kH s.1 s.2,z] =
  .ok (.nx [L,.sh<|fr<|kH (xs.foldl un s).1 (xs.foldl un s).2,c])/\Kr (k+xs.length) (xs.foldl un s)
 |[],k,s,z,h,_,_=>⟨z,rfl,h⟩
 |x::xs,k,s,z,h,j,d=>by
  have b:=d x Ve;simp only[Vp]at j;obtain⟨c,e,a⟩:=Ar xs (k+1) (un s x) (.sh (fr x)) (h.step b) 0#2 λy i=>d y<|U9 _ i;refine⟨c,?_,by rw[Vp,show k+(xs.length+1)=k+1+xs.length by omega];exact a⟩;rw[Vf,dr (ρ1:=[L,.sh<|fr<|kH s.1 s.2,.sh<|fr x]) (ρ2:=[L,.sh<|fr<|kH (un s x).1 (un s x).2,.sh<|fr x]) rfl]
  .exact e
  .exact Hj (Cj<|(qh (xs:=[fr<|kH s.1 s.2,fr x]) rfl).trans<|Lm h 0#2 b)
def Pp(h:f ρ=.ok (.lst ds)):lD f tg s ρ=bT tg s ds ρ:=by unfold lD;rw[h];rfl
def Sv(xs:List iz):iz:=xs.foldl un (0,1)
def Fb(g:xs.length<=61)(c:∀x∈xs,eF x):m_sum_of [.lst<|xs.map fr]=.ok (fr<|kH (Sv xs).1 (Sv xs).2):=by
 obtain⟨f,e,a⟩:=Ar (L:=.sh<|.lst<|xs.map fr) xs 0 (0,1) .no Kr.start 0#2 c;refine Cp (n:=3) (ds:=[.lst<|xs.map fr]) ?_;show wA [.sh<|.lst<|xs.map fr,.no,.no]=_;unfold wA;rw[jJ (ρ':=[.sh<|.lst<|xs.map fr,.sh<|fr<|kH 0 1,.no]) rfl];refine(jJ<|(Pp (ds:=xs.map fr) rfl).trans e).trans ?_;exact uc<|uf rfl
end Com
local macro_rules|`(tactic|open_line with[$xs,*])=>do
  let ns:Array Lean.Term:=("rS nN o9 o7 pC nM o5 vo pe pZ lV Bq vK vJ vz pA vV pz vq pq pj lR vL va vy pw Bv vU vT vS vE iH jh lW vW p6 p0 Bm vC vB vD pB vI pR pQ u3 oS JB oZ vm oY oX oW zG nO pd pb Bl vA Bn Bj vk vj vi vN pV lX Br vR vQ vP vH vX vF Bp Bo pF pE qQ nG Vf Xg Vp W7 VU Xv WS Xd Wz VZ Ye Yf YF Nat.reduceSub Nat.reduceAdd YG XF Y0 YN vd vG dX du qP oU Bk vn Bi vc vb mO mM pP pO pM pL pK pJ pI decide_true decide_false Nat.reduceLeDiff Nat.reduceBEq Int.reduceBEq eu DL.dOne DL.mYes ff dR eB jg gX jf Bu Bt Bs Int.reduceLT Int.reduceLE Int.reduceSub Int.reduceAdd Int.reduceMul Int.reduceNeg pH lT vx vw vv vt vp ph pf Int.reduceToNat Y1 zH vM tw oV zF vh tE zI JA Dh pS pT Dg je".splitOn " ").toArray.map fun s=>Lean.mkIdent s.toName
  let ys:=ns++xs.getElems
  `(tactic|simp only[$[$ys:term],*])
local macro_rules|`(tactic|open_line with[no_df,$xs,*])=>do
  let ns:Array Lean.Term:=("rS nN o9 o7 pC nM o5 vo pe pZ lV Bq vK vJ vz pA vV pz vq pq pj lR vL va vy pw Bv vU vT vS vE iH jh lW vW p6 p0 Bm vC vB vD pB vI pR pQ u3 oS JB oZ vm oY oX oW zG nO pd pb Bl vA Bn Bj vk vj vi vN pV lX Br vR vQ vP vH vX vF Bp Bo pF pE qQ nG Vf Xg Vp W7 VU Xv WS Xd Wz VZ Ye Yf YF Nat.reduceSub Nat.reduceAdd YG XF Y0 YN vd vG dX du qP oU Bk vn Bi vc vb mO mM pP pO pM pL pK pJ pI decide_true decide_false Nat.reduceLeDiff Nat.reduceBEq Int.reduceBEq eu DL.dOne DL.mYes ff dR eB jg gX jf Bu Bt Bs Int.reduceLT Int.reduceLE Int.reduceSub Int.reduceAdd Int.reduceMul Int.reduceNeg pH lT vx vw vv vt vp ph pf Int.reduceToNat Y1 zH vM tw oV zF vh tE zI JA Dh pS pT Dg je".splitOn " ").toArray.map fun s=>Lean.mkIdent s.toName
  let ys:=ns++xs.getElems
  `(tactic|simp -implicitDefEqProofs only[$[$ys:term],*])
namespace Com
open PySem L2 DL
def uJ(c:0<=a)(d:0<b):0<=(kH a b).1:=ZN c 0#2
def LU(c:0<=a)(b:a<(wU:Int)):a.natAbs<wR:=Vk (show a.natAbs<wU by omega) M7
def Ez(P:Nat->Ev->Prop)(h:∀k,k<n->∀ρ,P k ρ->∃ρ2,body (ρ.set i<|.sh<|.int (k:Int))=.ok (.nx ρ2)/\P (k+1) ρ2)(f:P 0 ρ):∃ρ',bT (bK i) body (intsFrom 0 n) ρ=.ok (.nx ρ')/\P n ρ':=by
 have key:∀(m k:Nat) (ρ:Ev),k+m=n->P k ρ->∃ρ',bT (bK i) body ((intsFrom 0 n).drop k) ρ=.ok (.nx ρ')/\P n ρ':=by
  intro m
  induction m with
  |zero=>
   intro k ρ c a;have:k=n:=by omega
   subst this;rw[Jf];exact⟨ρ,rfl,a⟩
  |succ m b=>
   intro k ρ c a;obtain⟨ρ2,e,d⟩:=h k 0#2 ρ a;rw[FK 0#2,dr (tg:=bK i) rfl e];exact b (k+1) ρ2 0#2 d
 exact key n 0 ρ 0#2 f
def EA(P:Nat->Ev->Prop)(h:∀k d,ds[k]?=Wp d->∀ρ,P k ρ->∃ρ1 ρ2,tg ρ d=.ok ρ1/\body ρ1=.ok (.nx ρ2)/\P (k+1) ρ2)(j:P 0 ρ):∃ρ',bT tg body ds ρ=.ok (.nx ρ')/\P ds.length ρ':=by
 have key:∀(m k:Nat) (ρ:Ev),k+m=ds.length->P k ρ->∃ρ',bT tg body (ds.drop k) ρ=.ok (.nx ρ')/\P ds.length ρ':=by
  intro m
  induction m with
  |zero=>
   intro k ρ e b;have:k=ds.length:=by omega
   subst this;rw[ZH];exact⟨ρ,rfl,b⟩
  |succ m c=>
   intro k ρ e b;have a:k<ds.length:=by omega
   obtain⟨ρ1,ρ2,i,g,f⟩:=h k ds[k] (U7 a) ρ b;rw[WB a,dr i g];exact c (k+1) ρ2 0#2 f
 exact key ds.length 0 ρ 0#2 j
structure Drawn (sz vs:List Int):Prop where
 len:vs.length=sz.length
 bnd:∀(i:Nat) (v s:Int),vs[i]?=Wp v->sz[i]?=Wp s->0<=v/\v<s
def Drawn.at{sz vs:List Int}(W:Drawn sz vs)(i:Nat)(h:sz[i]?=Wp s):∃v,vs[i]?=Wp v/\(0<=v/\v<s)/\aE (.lst<|vs.map D.int) (.int (i:Int))=.ok (.int v):=by
 have a:i<vs.length:=by rw[W.len];exact(Vn.mp h).1
 refine⟨vs[i],U7 a,W.bnd i _ _ (U7 a) h,c5 ?_⟩;rw[Vh,U7 a];rfl
def Drawn.ix{sz vs:List Int}(W:Drawn sz vs)(k:Int)(i:Nat)(a:k=(i:Int))(h:sz[i]?=Wp s):∃v,vs[i]?=Wp v/\(0<=v/\v<s)/\aE (.lst<|vs.map D.int) (.int k)=.ok (.int v):=by
 subst a;exact W.at i h
def MX:("abcdefghijklmnopqrstuvwxyz" : Vq).cps.toList=(Ws 26).map (97 + ·):=by decide +kernel
def Dv:∀n,n<26->uU (97+n)=VO:=by decide +kernel
def Du(b:0<=v)(d:v<26):aE (.str "abcdefghijklmnopqrstuvwxyz") (.int v)=.ok (.str ⟨#[97+v.toNat]⟩):=by
 obtain⟨n,rfl⟩:=Wa b;have a:n<26:=by omega
 have e:atI ("abcdefghijklmnopqrstuvwxyz" : Vq).cps.toList ((n:Nat):Int)=Wp (97+n):=gp (by rw[MX];simp[a]);show(if("abcdefghijklmnopqrstuvwxyz" : Vq).length<=line then(match atI ("abcdefghijklmnopqrstuvwxyz" : Vq).cps.toList ((n:Nat):Int) with|some c=>aw.ok (D.str ⟨#[c]⟩)|none=>.stuck) else .stuck)=_;rw[ef 0#1,e];rfl
theorem Ep:∀cs:db,Str.join "" (cs.map λc=>(⟨#[c]⟩:Vq))=⟨cs.toArray⟩
 |[]=>rfl
 |[c]=>rfl
 |c::d::cs=>by
  show(⟨#[c]⟩:Vq)++""++Str.join "" ((d::cs).map λc=>(⟨#[c]⟩:Vq))=_;rw[Ep (d::cs)];apply Str.ext';show(#[c]++("" : Vq).cps)++(d::cs).toArray=_;have:("" : Vq).cps=#[]:=rfl;rw[this];simp
theorem DP:∀cs:db,jH (cs.map λc=>D.str ⟨#[c]⟩)=Wp (cs.map λc=>(⟨#[c]⟩:Vq))
 |[]=>rfl
 |c::cs=>by
  show(jH<|cs.map λc=>D.str ⟨#[c]⟩).map _=_;rw[DP cs];rfl
def CZ{cs:db}(h:cs.length<=1000):uR "" [.lst<|cs.map λc=>D.str ⟨#[c]⟩]=.ok (.str ⟨cs.toArray⟩):=by
 have SG:jy "" (cs.map λc=>(⟨#[c]⟩:Vq))=VO:=by
  unfold jy;have e:((cs.map λc=>(⟨#[c]⟩:Vq)).map (·.length)).sum=cs.length:=by
   clear h
   induction cs with
   |nil=>rfl
   |cons c cs b=>
    simp only[Vf,Yw,Vp,b];show 1+cs.length=_;omega
  rw[e,Vv];exact⟨by decide,dV (by rw[U8];omega)⟩
 show(match jH (cs.map λc=>D.str ⟨#[c]⟩) with|some a=>if jy "" a=VO then aw.ok (D.str<|ZV "" a) else .stuck|none=>.stuck)=_;rw[DP];show(if jy "" _=VO then aw.ok (D.str<|ZV "" _) else .stuck)=_;rw[ef SG];show aw.ok (D.str<|Builtin.Str.glued "" _)=_;rw[StrLaws.glued_eq_join,Ep]
def tY{cs:db}(a:b<=cs.length):Yh ⟨cs.toArray⟩ Wb (Wp (b:Int))=⟨(cs.take b).toArray⟩:=by
 have:=StrLaws.sliceText_to (x:=⟨cs.toArray⟩) (j:=(b:Int)) ⟨by omega,by simpa using a⟩;refine Eq.trans this ?_;simp
structure iM (zs:cr):Prop where
 nd:zs.Nodup
 nm:∀z∈zs,nameB z=VO
def BR(h:x.length+y.length<=1000):aV (.str x) (.str y)=.ok (.str<|x++y):=ef (Vr h<|by decide)
def yl(a b:db):(⟨a.toArray⟩:Vq)++⟨b.toArray⟩=⟨(a++b).toArray⟩:=by
 apply Str.ext';show a.toArray++b.toArray=_;simp
def PU(a:db):(⟨a.toArray⟩:Vq).length=a.length:=by show a.toArray.size=_;simp
def DQ{l h:Option Int}(a:z.length<=1000):Fd (.str z) l h=.ok (.str<|Yh z l h):=by
 show(if z.length<=line then _ else _)=_;rw[ef (Vr a<|by decide)]
structure kW where
 a:Vq
 b:Vq
 w:Vq
 l:iz
 o:Option iz
def cK:Option iz->D
 |none=>.non
 |some x=>fr x
def bo(t:kW):D:=.tup [.str t.a,.str t.b,.str t.w,fr t.l,cK t.o]
structure qw (zs:cr) (t:kW):Prop where
 a:t.a∈zs
 b:t.b∈zs
 ne:t.a≠t.b
 w:t.w="one"∨t.w="both"
 l:eF t.l
 l0:0<=t.l.1
 o:∀x,t.o=Wp x->eF x/\0<x.1
def Nf{d:Type}{vs:List d}{a b c:d}(g:vs[i]?=Wp a)(f:vs[i+1]?=Wp b)(e:vs[i+2]?=Wp c):(vs.drop i).take 3=[a,b,c]:=by
 apply Xt;intro j;rcases j with _|_|_|j
 .rw[Xh 0#1,WU];simpa using g
 .rw[Xh 0#1,WU];simpa using f
 .rw[Xh 0#1,WU];simpa using e
 .rw[W8 (by simp;omega)];simp
def BH{vs:List Int}{a b:Nat}(e:x=(a:Int))(d:y=(b:Int))(h:b<=vs.length)(c:a<=b):cE (vs.map D.int) (Wp x) (Wp y)=((vs.drop a).take<|b-a).map D.int:=by
 subst e d;rw[mS,HT.sIx_nat,HT.sIx_nat,Y8 h,Y8<|Vr c h]
def R6{vs:List Int}{i:Nat}(f:x=(i:Int))(e:y=((i+3:Nat):Int))(l:vs[i]?=Wp a)(j:vs[i+1]?=Wp b)(d:vs[i+2]?=Wp c):cE (vs.map D.int) (Wp x) (Wp y)=[.int a,.int b,.int c]:=by
 have g:i+3<=vs.length:=by have:=(Vn.mp d).1;omega
 rw[BH f e g 0#2,show i+3-i=3 by omega,Nf l j d];rfl
def Hh{zs:cr}{k:Int}(b:0<=k)(c:k<zs.length):∃z,zs[k.toNat]?=Wp z/\aE (.lst<|zs.map D.str) (.int k)=.ok (.str z):=by
 obtain⟨n,rfl⟩:=Wa b;have a:n<zs.length:=by omega
 refine⟨zs[n],by simp[a],c5 ?_⟩;rw[Vh,U7 a];rfl
def KJ{k:Int}(b:0<=k)(a:k<2):∃z:Vq,(z="one"∨z="both")/\aE (.lst [.str "one",.str "both"]) (.int k)=.ok (.str z):=by
 have:k=0∨k=1:=by omega
 rcases this with rfl|rfl
 .exact⟨_,.inl rfl,mO⟩
 .exact⟨_,.inr rfl,mM⟩
def yy{n d e:Int}(a:2<=n)(g:0<=d)(f:d<n)(c:0<=e)(b:e<n-1):(0<=(d+1+e).fmod n/\(d+1+e).fmod n<n)/\(d+1+e).fmod n≠d:=by
 refine⟨eV 0#2,?_⟩;rw[X0 _ 0#2]
 by_cases h:d+1+e<n
 .rw[Int.emod_eq_of_lt 0#2 h];omega
 .have:(d+1+e) % n=d+1+e-n:=by
   rw[←Int.sub_emod_right (d+1+e) n,Int.emod_eq_of_lt 0#2<|by omega]
  rw[this];omega
def AV{b:Type}{zs:List b}(nd:zs.Nodup){i j:Nat}{x y:b}(hi:zs[i]?=Wp x)(c:zs[j]?=Wp y)(a:i≠j):x≠y:=by
 intro e;subst e;obtain⟨l,f⟩:=Vn.mp hi;obtain⟨g,d⟩:=Vn.mp c;exact a<|(Yv nd).mp<|f.trans d.symm
def sr:ci :=
 (ar (bJ<|gm (ak (ae 0#6 av) m_is_ratio)<|ag (ag 0#6 0#0 aE) 0#0 Qs)
 au)
def m_is_length:ac->aw D:=bH 1 sr
def wC:ci :=
 (ar (bJ<|iU (ag 0#6 0#4 qX)<|gm (ak (ae 0#6 av) m_is_ratio)<|ag (ag 0#6 0#0 aE) 0#0 My)
 au)
def m_is_worth:ac->aw D:=bH 1 wC
noncomputable def jq:ci :=
 (ar (dG (iU (cD<|aL 0#6<|eY "tuple")<|ag (ak (ae 0#6 av)<|m1 eg) 5#0 iE)
 (ar (bJ<|dC<|.bl Vd)
 au)
 au)
 (ar (dG (iU (cD<|ak (ae (ag 0#6 0#0 aE) av) m_is_name)<|iU (cD<|ak (ae (ag 0#6 1#0 aE) av) m_is_name)<|ag (ag 0#6 0#0 aE) (ag 0#6 1#0 aE) gZ)
 (ar (bJ<|dC<|.bl Vd)
 au)
 au)
 (ar (dG (iU (cD<|aL (ag 0#6 2#0 aE)<|eY "str")<|ag (ag 0#6 2#0 aE) (dC<|.tup [(.str "one"),(.str "both")]) bG)
 (ar (bJ<|dC<|.bl Vd)
 au)
 au)
 (ar (bJ<|gm (ak (ae (ag 0#6 3#0 aE) av) m_is_length)<|ak (ae (ag 0#6 4#0 aE) av) m_is_worth)
 au))))
def m_is_tie:ac->aw D:=bH 1 jq
noncomputable def b_look_at_places:ci :=
 (ar (dG (iU (cD<|aL 0#6<|eY "list")<|cD<|jk Mx Mx 2#0 (ak (ae 0#6 av)<|m1 eg)<|dC<|.int 7)
 (ar gA
 au)
 au)
 (ar (jW (oo<|af 0) (dE [1,2])
 (ar (dG (iU (cD<|ak (ae 2#6 av) m_is_name)<|ag 2#6 (dZ 0#6 cR<|bS<|af 1) nY)
 (ar gA
 au)
 au)
 au))
 au))
def m_look_at_places:ac->aw D:=bH 3 b_look_at_places
noncomputable def b_look_at_ties:ci :=
 (ar (dG (iU (cD<|aL 0#6<|eY "list")<|ag (ak (ae 0#6 av)<|m1 eg) 14#0 My)
 (ar gA
 au)
 au)
 (ar (jW (oo<|af 0) (dE [2,3])
 (ar (dG (iU (cD<|ak (ae 3#6 av) m_is_tie)<|iU (ag (ag 3#6 0#0 aE) 1#6 bG)<|ag (ag 3#6 1#0 aE) 1#6 bG)
 (ar gA
 au)
 au)
 au))
 au))
def m_look_at_ties:ac->aw D:=bH 4 b_look_at_ties
def nW:ci :=
 (ar (bJ<|gm (ak (ae 0#6 av) m_is_name)<|ag 0#6 1#6 nY)
 au)
def m_is_place:ac->aw D:=bH 2 nW
noncomputable def b_look_at_web:ci :=
 (ar (dG (iU (cD<|aL 0#6<|eY "tuple")<|ag (ak (ae 0#6 av)<|m1 eg) 4#0 iE)
 (ar gA
 au)
 au)
 (ar (fL<|ak (ae (ag 0#6 0#0 aE) av) m_look_at_places)
 (ar (fL<|ak (ae (ag 0#6 1#0 aE)<|ae (ag 0#6 0#0 aE) av) m_look_at_ties)
 (ar (dG (cD<|ak (ae (ag 0#6 2#0 aE)<|ae (ag 0#6 0#0 aE) av) m_is_place)
 (ar gA
 au)
 au)
 (ar (dG (iU (cD<|ak (ae (ag 0#6 3#0 aE)<|ae (ag 0#6 0#0 aE) av) m_is_place)<|ag (ag 0#6 3#0 aE) (ag 0#6 2#0 aE) gZ)
 (ar gA
 au)
 au)
 au)))))
def m_look_at_web:ac->aw D:=bH 1 b_look_at_web
def cq:ci :=
 (ar (bJ<|gm (ak (ae 1#6 av) m_is_whole)<|jk Mx B4 0#0 1#6<|ak (ae (ag 0#6 1#0 aE) av)<|m1 eg)
 au)
def m_is_tie_number:ac->aw D:=bH 2 cq
structure jU where
 ps:cr
 ts:List kW
 fi:Vq
 la:Vq
def aI(w:jU):D:=.tup [.lst<|w.ps.map D.str,.lst<|w.ts.map bo,.str w.fi,.str w.la]
structure cI (w:jU):Prop where
 n2:2<=w.ps.length
 n7:w.ps.length<=7
 nm:iM w.ps
 t14:w.ts.length<=14
 ts:∀t∈w.ts,qw w.ps t
 fi:w.fi∈w.ps
 la:w.la∈w.ps
 ne:w.fi≠w.la
def cT(h:nameB z=VO):m_is_name [.str z]=.ok (.bl VO):=by
 have a:z.length<=8:=by
  unfold nameB at h;simp only[Vv,ez]at h;exact h.2.1
 rw[uS (show SG (.str z)=VO from dV<|Vr a<|by decide)];show aw.ok (D.bl<|nameB z)=_;rw[h]
def ny(h:Low x):m_is_ratio [fr x]=.ok (.bl VO):=by
 rw[zw];show aw.ok (D.bl<|uk<|.tup [.int x.1,.int x.2])=_;have b:=h.q1;have a:=h.g1;show aw.ok (D.bl (decide (1<=x.2)&&(VW x.1 x.2==1)))=_;rw[dV b,a];rfl
def lK(h:Low x)(b:0<=x.1):m_is_length [fr x]=.ok (.bl VO):=by
 have e:fr x=.tup [.int x.1,.int x.2]:=rfl;have a:=ny h;rw[e]at a ⊢;erw[m_is_length,sr,a,dV b,dV (show x.1≥0 from b)]
def B7(h:∀x,o=Wp x->Low x/\0<x.1):m_is_worth [cK o]=.ok (.bl VO):=by
 cases o with
 |none=>rfl
 |some x=>
  obtain⟨b,c⟩:=h x rfl;have e:cK (Wp x)=.tup [.int x.1,.int x.2]:=rfl;have a:=ny b;rw[show fr x=.tup [.int x.1,.int x.2] from rfl]at a;rw[e];erw[m_is_worth,wC,a,dV c]
def jB:gZ (.str x) (.str y)=.ok (.bl<|x==y):=by unfold gZ;rw[ef ⟨rfl,rfl⟩,cX]
def Ao(nm:iM zs)(h:qw zs t):m_is_tie [bo t]=.ok (.bl VO):=by
 obtain⟨a,b,w,l,o⟩:=t;obtain⟨m,j,c,hw,i,d,g⟩:=h;have u:=cT<|nm.nm a m;have s:=cT<|nm.nm b j;have r:=lK i.toLow d;have q:=B7 (o:=o) λx f=>⟨(g x f).1.toLow,(g x f).2⟩
 have p:(a==b)=Vd:=beq_eq_false_iff_ne.mpr c;have n:bG (.str w) (.tup [.str "one",.str "both"])=.ok (.bl Vd):=by
  rcases hw with rfl|rfl<;>rfl
 have e:bo ⟨a,b,w,l,o⟩=.tup [.str a,.str b,.str w,fr l,cK o]:=rfl;rw[e];erw[m_is_tie,jq,u,s,jB,p,n,r,q]
def ES{zs:cr}:(zs.map D.str).any (λd=>cX d<|.str z)=decide (z∈zs):=by
 induction zs with
 |nil=>rfl
 |cons y zs a=>
  rw[Vf,XO,a];show((y==z)||decide (z∈zs))=_
  by_cases h:y=z
  .subst h;simp
  .have:(y==z)=Vd:=beq_eq_false_iff_ne.mpr h
   rw[this,Z7];have:z∈y::zs↔z∈zs:=by simp[V6 h]
   exact decide_eq_decide.mpr this.symm
def mC{zs:cr}:(zs.map D.str).all (bp n)=VO:=V2.mpr λd hd=>by
 obtain⟨z,_,rfl⟩:=VD.mp hd;cases n<;>rfl
def kJ{zs:cr}:nY (.str z) (.lst<|zs.map D.str)=.ok (.bl (decide (z∈zs))):=by
 have e:FL (.str z) (.lst<|zs.map D.str)=Wp (decide (z∈zs)):=(ef ⟨rfl,mC⟩).trans<|ew Wp ES;unfold nY;rw[e]
def gE{zs:cr}:bG (.str z) (.lst<|zs.map D.str)=.ok (.bl (!(decide (z∈zs)))):=by
 have e:FL (.str z) (.lst<|zs.map D.str)=Wp (decide (z∈zs)):=(ef ⟨rfl,mC⟩).trans<|ew Wp ES;unfold bG;rw[e]
def iZ{zs:cr}(h:nameB z=VO)(a:z∈zs):m_is_place [.str z,.lst<|zs.map D.str]=.ok (.bl VO):=by
 erw[m_is_place,nW,cT h,kJ,dV a]
def kE{a:Type}{F:a->D}{xs:List a}{k:Nat}(h:(numbered 0<|xs.map F)[k]?=Wp d):∃x,xs[k]?=Wp x/\d=.tup [.int (k:Int),F x]:=by
 rw[numbered_get,Vh]at h;cases e:xs[k]? with
 |none=>rw[e]at h;cases h
 |some x=>
  rw[e]at h;cases h;exact⟨x,rfl,by simp⟩
def JQ{a:Type}{F:a->D}{xs:List a}{k:Nat}(h:k<=xs.length):cE (xs.map F) Wb (Wp (k:Int))=(xs.take k).map F:=by
 rw[mS,HT.sIx_none,HT.sIx_nat,Y8 h,List.drop_zero,YF]
def xQ(t:2<=zs.length)(s:zs.length<=7)(nm:iM zs):m_look_at_places [.lst<|zs.map D.str]=.ok .non:=by
 obtain⟨l,n,_⟩:=EA (ds:=numbered 0<|zs.map D.str) (tg:=dE [1,2]) (ρ:=[.sh<|.lst<|zs.map D.str,.no,.no])
  (body:=(ar (dG (iU (cD<|ak (ae 2#6 av) m_is_name)<|ag 2#6 (dZ 0#6 cR<|bS<|af 1) nY) (ar gA au) au) au))
  (λk e=>∃a b,e=[.sh<|.lst<|zs.map D.str,a,b]) (by
   rintro k d hd e ⟨a,b,rfl⟩;obtain⟨z,f,rfl⟩:=kE hd;refine⟨_,[.sh<|.lst<|zs.map D.str,.sh<|.int (k:Int),.sh<|.str z],pS rfl,?_,_,_,rfl⟩;have o:k<zs.length:=(Vn.mp f).1;have c:decide (z∈zs.take k)=Vd:=en λm=>by
    obtain⟨j,i⟩:=sav.mp m;have g:j<k:=by have:=(Vn.mp i).1;simp at this;omega
    rw[Xh g]at i;exact AV nm.nd i f 0#2 rfl
   erw[cT (nm.nm z<|VQ f),JQ<|XG o,kJ,c]) ⟨.no,.no,rfl⟩
 have q:decide ((2:Int)<=(zs.length:Int))=VO:=dV 0#2;have p:decide ((zs.length:Int)<=7)=VO:=dV 0#2;erw[m_look_at_places,b_look_at_places,U8,q,p,n]
def DK{ts:List kW}(n:ts.length<=14)(nm:iM zs)(j:∀t∈ts,qw zs t):m_look_at_ties [.lst<|ts.map bo,.lst<|zs.map D.str]=.ok .non:=by
 obtain⟨i,m,_⟩:=EA (ds:=numbered 0<|ts.map bo) (tg:=dE [2,3]) (ρ:=[.sh<|.lst<|ts.map bo,.sh<|.lst<|zs.map D.str,.no,.no])
  (body:=(ar (dG (iU (cD<|ak (ae 3#6 av) m_is_tie)<|iU (ag (ag 3#6 0#0 aE) 1#6 bG)<|ag (ag 3#6 1#0 aE) 1#6 bG) (ar gA au) au) au))
  (λk c=>∃a b,c=[.sh<|.lst<|ts.map bo,.sh<|.lst<|zs.map D.str,a,b]) (by
   rintro k d hd c ⟨a,b,rfl⟩;obtain⟨t,e,rfl⟩:=kE hd;refine⟨_,[.sh<|.lst<|ts.map bo,.sh<|.lst<|zs.map D.str,.sh<|.int (k:Int),.sh<|bo t],pS rfl,?_,_,_,rfl⟩;have f:=j t<|VQ e;have g:=Ao nm f;rw[show bo t=.tup [.str t.a,.str t.b,.str t.w,fr t.l,cK t.o] from rfl]at g ⊢;erw[g,gE,dV f.a,dV f.b]) ⟨.no,.no,rfl⟩
 have p:decide ((14:Int)<(ts.length:Int))=Vd:=en 0#2;erw[m_look_at_ties,b_look_at_ties,U8,p,en (show ¬(ts.length:Int) > 14 by omega),m]
def NY(h:cI w):m_look_at_web [aI w]=.ok .non:=by
 obtain⟨ps,c,b,a⟩:=w;have i:=xQ h.n2 h.n7 h.nm;have g:=DK h.t14 h.nm h.ts;have f:=iZ (h.nm.nm b h.fi) h.fi;have e:=iZ (h.nm.nm a h.la) h.la;have d:(a==b)=Vd:=beq_eq_false_iff_ne.mpr<|V6 h.ne;rw[show aI ⟨ps,c,b,a⟩=.tup [.lst<|ps.map D.str,.lst<|c.map bo,.str b,.str a] from rfl];erw[m_look_at_web,b_look_at_web,i,g,f,e,jB,d]
noncomputable def k7:ci :=
 (ar (aJ 1<|dC<|.int 1)
 (ar (lD 0#6 (bK 2)
 (ar (aJ 1<|ag (ag 1#6 (ak (ae 1#6<|ae (ag 2#6 1#0 aE) av) m_common_divisor) sN) (ag 2#6 1#0 aE) dm)
 au))
 (ar (bJ<|af 1)
 au)))
def m_shared_bottom:ac->aw D:=bH 3 k7
def wD:ci :=
 (ar (bJ<|ag (ag 0#6 0#0 aE) (ag 1#6 (ag 0#6 1#0 aE) sN) dm)
 au)
def m_as_whole:ac->aw D:=bH 2 wD
noncomputable def mf:ci :=
 (ar (aJ 1<|ak (ae (cJ 1 [] (lA<|af 0) (bK 0) (ag 0#6 0#4 jC)<|af 0) av) m_shared_bottom)
 (ar (bJ<|ak (ae (cJ 1 [1] (lA<|af 0) (bK 0) mYes<|Km (ag 0#6 0#4 qX) 0#4<|ak (ae 0#6<|ae 1#6 av) m_as_whole)<|ae 1#6 av) bI)
 au))
def m_on_one_scale:ac->aw D:=bH 2 mf
def cF(ks:db):D:=.lst<|ks.map λ(k:Nat)=>D.int (k:Int)
def N6{w:jU}{k:Nat}(h:w.ts[k]?=Wp t):aE (.lst<|w.ts.map bo) (.int (k:Int))=.ok (bo t):=c5 (by rw[Vh,h];rfl)
def k6(b:Int)(x:iz):Int:=b / (VW b x.2:Int)*x.2
def nZ(xs:List iz):Int:=xs.foldl k6 1
structure yH (k:Nat) (b:Int):Prop where
 pos:0<b
 bd:b.natAbs<=2 ^ (200*k)
def zb{k:Nat}(h:k<=60):2 ^ (200*k)<wR:=by rw[mn];exact Yy 0#1 0#2
def A9(h:b≠0):0<(VW a b:Int):=tj h
def yH.step{k:Nat}(h:yH k b)(f:eF x):yH (k+1) (k6 b x)/\b∣k6 b x/\x.2∣k6 b x:=by
 have m:=f.q1;have n:0<(VW b x.2:Int):=A9 0#2;have hd:(VW b x.2:Int)∣b:=ZI ..;have a:(VW b x.2:Int)∣x.2:=ZC ..;have j:0<b / (VW b x.2:Int):=Int.ediv_pos_of_pos_of_dvd h.pos 0#2 hd;refine⟨⟨Zd j 0#2,?_⟩,?_,⟨b / (VW b x.2:Int),by unfold k6;rw[Y7]⟩⟩
 .unfold k6
  rw[XZ,show 200*(k+1)=200*k+200 by omega,Zb];refine Yo (Vr (WM _ _) h.bd)<|Vr (XG f.qN) z9
 .obtain⟨c,i⟩:=hd
  obtain⟨d,e⟩:=a;refine⟨d,?_⟩;unfold k6;generalize (VW b x.2:Int)=g at *;have l:b / g=c:=by rw[i];exact YY c 0#2
  rw[l,e,i,←Int.mul_assoc,Y7 c g]
def JU{xs:List iz}(c:∀x∈xs,eF x):∀(b:Int) (k:Nat),yH k b->yH (k+xs.length) (xs.foldl k6 b)/\b∣xs.foldl k6 b/\∀x∈xs,x.2∣xs.foldl k6 b:=by
 induction xs with
 |nil=>intro b k h;exact⟨h,Int.dvd_refl b,λx c=>nomatch c⟩
 |cons x xs f=>
  intro b k h;obtain⟨j,i,g⟩:=h.step<|c x Ve;obtain⟨e,k2,d⟩:=f (λy a=>c y<|U9 _ a) _ _ j;refine⟨?_,Int.dvd_trans i k2,λy a=>?_⟩
  .rw[Vp,show k+(xs.length+1)=k+1+xs.length by omega];exact e
  .rcases Vl.mp a with rfl|a
   .exact Int.dvd_trans g k2
   .exact d y a
def JV{L:Sl}:∀(xs:List iz) (k:Nat) (b:Int) (z:Sl),yH k b->k+xs.length<=60->(∀x∈xs,eF x)->∃d,bT (bK 2) (ar (aJ 1<|ag (ag 1#6 (ak (ae 1#6<|ae (ag 2#6 1#0 aE) av) m_common_divisor) sN) (ag 2#6 1#0 aE) dm) au) (xs.map fr) [L,.sh<|.int b,z] =
  .ok (.nx [L,.sh<|.int<|xs.foldl k6 b,d]):=by
 intro xs
 induction xs with
 |nil=>intro k b z _ _ _;exact⟨z,rfl⟩
 |cons x xs j=>
  intro k b z h m f;have a:=f x Ve;have p:=a.q1;obtain⟨o,r,q⟩:=h.step a;simp only[Vp]at m;obtain⟨d,e⟩:=j (k+1) _ (.sh<|fr x) o 0#2<|λy l=>f y<|U9 _ l;refine⟨d,?_⟩;have n:0<(VW b x.2:Int):=A9 0#2;have hdiv:gY b (VW b x.2:Int)=VO:=vZ 0#2 (VN h.bd<|zb<|by omega);have c:(b / (VW b x.2:Int)).natAbs<wR:=VN (Vr (WM _ _) h.bd) (zb<|by omega);have hmul:eU (b / (VW b x.2:Int)) x.2=VO:=nH (Vk c Ae)<|Vk a.qN kX;rw[Vf,dr (ρ1:=[L,.sh<|.int b,.sh<|fr x]) (ρ2:=[L,.sh<|.int<|k6 b x,.sh<|fr x]) rfl ?_]
  .exact e
  .rw[show fr x=.tup [.int x.1,.int x.2] from rfl]
   erw[mT,vO hdiv,j8 n,jN hmul]
   rfl
def Gd(d:xs.length<=60)(b:∀x∈xs,eF x):m_shared_bottom [.lst<|xs.map fr]=.ok (.int<|nZ xs):=by
 obtain⟨c,a⟩:=JV (L:=.sh<|.lst<|xs.map fr) xs 0 1 .no ⟨by decide,by decide⟩ 0#2 b;erw[m_shared_bottom,k7,a]
 rfl
def wI(b:Int):Option iz->D
 |none=>.non
 |some x=>.int<|x.1*(b / x.2)
def iX(os:List<|Option iz):List iz:=os.filterMap id
def FA{os:List<|Option iz}:x∈iX os↔Wp x∈os:=by unfold iX;simp
def GL(a:eF x)(c:b.natAbs<wR):m_as_whole [fr x,.int b]=.ok (.int<|x.1*(b / x.2)):=by
 have d:=a.q1;have hdiv:gY b x.2=VO:=NH 0#2<|Vk a.qN Qf;have hmul:eU x.1 (b / x.2)=VO:=nH (Vk a.pN kX)<|Vk (VN (WM _ _) c) Ae;rw[show fr x=.tup [.int x.1,.int x.2] from rfl];erw[m_as_whole,wD,vO hdiv,j8 (show 0<x.2 by omega),jN hmul]
theorem kB:∀os:List<|Option iz,(os.map cK).filter (λd=>!(yb d))=(iX os).map fr
 |[]=>rfl
 |none::os=>by
  rw[Vf,sac 0#1,kB os];rfl
 |some x::os=>by
  have:yb (cK<|Wp x)=Vd:=rfl;rw[Vf,sab (by rw[this];rfl),kB os];rfl
def Hl{os:List<|Option iz}(f:os.length<=60)(c:∀x,Wp x∈os->eF x):m_on_one_scale [.lst<|os.map cK]=.ok (.tup [.lst<|os.map<|wI<|nZ<|iX os,.int<|nZ<|iX os]):=by
 have a:∀x∈iX os,eF x:=λx h=>c x<|FA.mp h;have b:(iX os).length<=60:=Vr (List.length_filterMap_le _ _) f;have i:=Gd b a;obtain⟨B,_,_⟩:=JU a 1 0 ⟨by decide,by decide⟩;have g:(nZ<|iX os).natAbs<wR:=VN B.bd (zb<|by omega);have c1:c6 1 [] (bK 0) (ag 0#6 0#4 jC) 0#6 [.sh<|.lst<|os.map cK,.no] (os.map cK)=.ok (.lst<|(iX os).map fr):=by
  rw[l9 (F:=id) (p:=λd=>!(yb d)) (by rw[U8];omega)]
  .rw[ZL,kB]
  .intro d hd
   exact⟨[.sh d],rfl,rfl,λ_=>rfl⟩
 have j:c6 1 [1] (bK 0) mYes (Km (ag 0#6 0#4 qX) 0#4<|ak (ae 0#6<|ae 1#6 av) m_as_whole) [.sh<|.lst<|os.map cK,.sh<|.int<|nZ<|iX os] (os.map cK)=.ok (.lst<|os.map<|wI<|nZ<|iX os):=by
  rw[ki (F:=λd=>match d with|.tup [.int p,.int q]=>.int (p*(nZ (iX os) / q))|_=>.non) (by rw[U8];omega)]
  .congr 2
   rw[Wk];apply saO;intro o _;cases o<;>rfl
  .intro d hd
   obtain⟨o,e,rfl⟩:=VD.mp hd;refine⟨[.sh<|cK o,.sh<|.int<|nZ<|iX os],rfl,rfl,?_⟩;cases o with
   |none=>rfl
   |some x=>
    have hw:=GL (c x e) g;rw[show fr x=.tup [.int x.1,.int x.2] from rfl]at hw;rw[show cK (Wp x)=.tup [.int x.1,.int x.2] from rfl];erw[hw]
 erw[m_on_one_scale,mf,c1,i,j]
theorem A4:∀ns:List Int,gG (ns.map D.int)=Wp ns
 |[]=>rfl
 |n::ns=>by show(gG<|ns.map D.int).map _=_;rw[A4 ns];rfl
def FI(w:jU)(k:Nat):Bool:=((w.ts[k]?).bind kW.o).isSome
def Np(i:Nat)(ρ:Ev)(d:D):aw Fl:=if lP d=VO then .ok (.nx<|ρ.set i<|.sh d) else .stuck
def Mh:DV i f ρ=(f<|fQ ρ).bind (Np i ρ):=rfl
def ll(b:c (fQ ρ)=.ok (.bl VO))(a:s ρ=.ok (.nx ρ2)):cu c s (n+1) ρ=cu c s n ρ2:=by
 conv=>lhs;unfold cu
 rw[b,a];rfl
def iN(a:c (fQ ρ)=.ok (.bl Vd)):cu c s (n+1) ρ=.ok (.nx ρ):=by
 conv=>lhs;unfold cu
 rw[a];rfl
end Com
namespace DL
open PySem PySem.Spec PyProof.Rows L2
section
variable {X:Cx}{E:XK}{He η:Hp}{e a b:V4}{es:List V4}{f g:bv}{fa:Ev->aw (ac)}{pos:Pos}
def PR(x y:D):aw D:=match x,y with
 |.int i,.int j=>.ok<|.int<|if j<i then j else i
 |_,_=>.stuck
def PY:k8 X E (λxs H Q=>∃i j,xs=[.int i,.int j]/\Q (.int<|if j<i then j else i) H) (m2 PR):=R8 λx y v u H l Q d r c q=>by
 cases x with
 |int i=>
  cases y with|int j=>exact⟨i,j,by rw[ax.mp r,ax.mp c],bL d q<|ri _⟩| _=>exact q.elim
 |_=>exact q.elim
def nS(x y:D):aw D:=match x,y with
 |.lst c,.lst es=>if c.length+es.length<=line then .ok (.lst<|c++es) else .stuck
 |_,_=>.stuck
def zL(ha:DE X E a f)(hb:DE X E b g):DF X E (.BinOp a .Add b pos) (ag f g nS):=by
 refine⟨?_⟩;refine bc (Ig Eh ha.o hb.o) λσ H Q z9=>?_;obtain⟨Ha,j,hs,J,q⟩:=z9;refine⟨Ha,j,hs,J,?_⟩
 unfold ag at q;cases M:f j with
 |stuck|exn x=>rwa[M]at q
 |ok x=>
  rw[M]at q;intro v H1 G d T;refine⟨G,j,d.sub,J.mono d.z,?_⟩;cases A:g j with
  |stuck=>simp only[aw.bind,A]at q|exn y=>simp only[aw.bind,A]at q;exact λC ox H' B g' ex=>q C ox H' B (d.trans g') ex
  |ok y=>
   simp only[aw.bind,A]at q;intro u N i c O;cases x with
   |lst ds=>
    cases y with
    |lst es=>
     by_cases h:ds.length+es.length<=line
     .simp only[nS,ef h]at q
      obtain⟨l,n,rfl,h1,L⟩:=aA.mp<|T.mono c.z;obtain⟨m,r,rfl,Y,k2⟩:=aA.mp O;refine⟨l,m,n,r,rfl,rfl,aD.sqL c.sub h1,aD.sqL c.sub Y,by rw[←L.length,←k2.length];exact dW h,λp t=>?_⟩;have I:aD N (upd N p<|.lst<|n++r):=λb o w=>by rw[ay (by intro z;subst z;rw[t]at w;cases w)];exact w
      refine q p (n++r) _ i ⟨(d.s.trans c.s).trans I,d.z.trans c.z,c.sub.trans I,(d.trans c).nw⟩ ((d.s.trans c.s).free t) ?_ aC<|L.app k2;cases U:i p with|none=>rfl|some o=>have:=c.sub _ _ U;rw[t]at this;cases this
     .simp only[nS,eo h]at q
    |_=>simp only[nS]at q
   |_=>simp only[nS]at q
end
end DL
namespace Cod
open PySem L2 DL Com
noncomputable def ql:ci :=
 (ar (mX 2<|ak av aZ)
 (ar (aJ 3<|ak (ae 0#6 av)<|m1 xu)
 (ar (aJ 4<|ag (ag (ag 0#6 2147483647#0 dO) 48271#0 dm) 2147483647#0 dO)
 (ar (xN (ak (ae 1#6 av)<|m1 eg) (bK 5)
 (ar (dG (ag (ak (ae 0#6 av)<|m1 xu) (ag 10#0 18#0 qW) Qs)
 (ar (bP 2<|ag 3#6 (ag 1#6 5#6 aE) dO)
 (ar (aJ 3<|ag 3#6 (ag 1#6 5#6 aE) sN)
 au))
 (ar (aJ 4<|ag (ag (ag (ag (ag 4#6 4#6 dm) (ag 69621#0 4#6 dm) aV) (ag 7919#0 5#6 dm) aV) 1000003#0 aV) 2147483647#0 dO)
 (ar (bP 2<|ag (ag (ag 4#6 39373#0 dm) 2147483629#0 dO) (ag 1#6 5#6 aE) dO)
 au)))
 au))
 (ar (bJ<|af 2)
 au)))))
def aW:ac->aw D:=bH 6 ql
def M6:wU<B9:=by rw[Kj];exact Vk (show wU<2 ^ 200 by decide) (WA 0#1<|by decide)
def zY:xu (.int c)=.ok (.int (c.natAbs:Int)):=by
 show aw.ok (D.int<|if c<0 then -c else c)=_
 congr 2
 split<;>omega
def draws_ok(c:Int)(sz:List Int)(Y:∀s∈sz,0<s/\s<=(wU:Int))(hn:sz.length<=900):∃vs,aW [.int c,.lst<|sz.map D.int]=.ok (.lst<|vs.map D.int)/\Drawn sz vs:=by
 have g:=eV (a:=c.fmod 2147483647*48271) (b:=2147483647) 0#1;have ab:=eV (a:=c) (b:=2147483647) 0#1;obtain⟨H,hl,vs,U,B,j,d,x,rfl,_⟩:=Ez (i:=5) (n:=sz.length)
  (ρ:=[.sh<|.int c,.sh<|.lst<|sz.map D.int,.ow<|.lst [],.sh<|.int (c.natAbs:Int),.sh<|.int<|(c.fmod 2147483647*48271).fmod 2147483647,.no])
  (body:=(ar (dG (ag (ak (ae 0#6 av)<|m1 xu) (ag 10#0 18#0 qW) Qs)
 (ar (bP 2<|ag 3#6 (ag 1#6 5#6 aE) dO)
 (ar (aJ 3<|ag 3#6 (ag 1#6 5#6 aE) sN)
 au))
 (ar (aJ 4<|ag (ag (ag (ag (ag 4#6 4#6 dm) (ag 69621#0 4#6 dm) aV) (ag 7919#0 5#6 dm) aV) 1000003#0 aV) 2147483647#0 dO)
 (ar (bP 2<|ag (ag (ag 4#6 39373#0 dm) 2147483629#0 dO) (ag 1#6 5#6 aE) dO)
 au)))
 au))
  (λk w=>∃vs:List Int,vs.length=k/\(∀(i:Nat) (v s:Int),vs[i]?=Wp v->sz[i]?=Wp s->0<=v/\v<s)/\∃(j d:Int) (x:Sl),w=[.sh<|.int c,.sh<|.lst<|sz.map D.int,.ow<|.lst<|vs.map D.int,.sh<|.int j,.sh<|.int d,x]/\0<=d/\d<2147483647) (by
   rintro k A w ⟨vs,rfl,B,j,d,x,rfl,T,y⟩;have G:=Y sz[vs.length]<|Ww A;have o:aE (.lst<|sz.map D.int) (.int (vs.length:Int))=.ok (.int sz[vs.length]):=c5 (by rw[Vh,U7 A];rfl);have l:(sz[vs.length]==0)=Vd:=beq_eq_false_iff_ne.mpr 0#2;have q:decide ((vs.map D.int).length<=999)=VO:=dV (by rw[U8];omega);have p:∀v:Int,0<=v->v<sz[vs.length]->∀(i:Nat) (u s:Int),(vs++[v])[i]?=Wp u->sz[i]?=Wp s->0<=u/\u<s:=λv J I i u s r E=>by
    by_cases hi:i<vs.length
    .rw[VA hi]at r;exact B i u s r E
    .have:i=vs.length:=by
      have:=(Vn.mp r).1;simp at this;omega
     subst this;rw[VF (VB _),ZA]at r;cases r;rw[U7 A]at E;cases E;exact⟨J,I⟩
   by_cases t:(1000000000000000000:Int)<=(c.natAbs:Int)
   .have f:=eV (a:=j) (b:=sz[vs.length]) G.1
    have hdiv:gY j sz[vs.length]=VO:=NH 0#2 (VN (show sz[vs.length].natAbs<=wU by omega) M6);refine⟨[.sh<|.int c,.sh<|.lst<|sz.map D.int,.ow<|.lst<|(vs++[j.fmod sz[vs.length]]).map D.int,.sh<|.int<|j.fdiv sz[vs.length],.sh<|.int d,.sh<|.int (vs.length:Int)],?_,vs++[j.fmod sz[vs.length]],by simp,p _ f.1 f.2,_,_,_,rfl,T,y⟩;erw[no_df,zY,je,dV t,dV (show(c.natAbs:Int)≥1000000000000000000 from t),o,l,du q,vO hdiv,VX]
   .have C:=eV (a:=d*d+69621*d+7919*(vs.length:Int)+1000003) (b:=2147483647) 0#1
    generalize z:(d*d+69621*d+7919*(vs.length:Int)+1000003).fmod 2147483647=m at C;have f:=eV (a:=(m*39373).fmod 2147483629) (b:=sz[vs.length]) G.1;have O:eU d d=VO:=jZ 0#2 0#2;have N:eU 69621 d=VO:=jZ 0#1 0#2;have M:eU 7919 (vs.length:Int)=VO:=jZ 0#1 0#2;have L:eU m 39373=VO:=jZ 0#2 0#1;refine⟨[.sh<|.int c,.sh<|.lst<|sz.map D.int,.ow<|.lst<|(vs++[((m*39373).fmod 2147483629).fmod sz[vs.length]]).map D.int,.sh<|.int j,.sh<|.int m,.sh<|.int (vs.length:Int)],?_,vs++[((m*39373).fmod 2147483629).fmod sz[vs.length]],by simp,p _ f.1 f.2,_,_,_,rfl,C.1,C.2⟩;erw[no_df,zY,je,en t,en (show ¬(c.natAbs:Int)≥1000000000000000000 from t),jN O,jN N,jN M,z,jN L,o,l,du q,VX]) ⟨[],rfl,λi v s e=>(by simp at e),_,_,_,rfl,g.1,g.2⟩
 refine⟨vs,?_,U,B⟩;have Q:eU (c.fmod 2147483647) 48271=VO:=jZ 0#2 0#1;erw[no_df,aW,ql,zY,jN Q,U8,pT,Bb (show sz.length<=1000000 by omega),hl]
noncomputable def wG:ci :=
 (ar (aJ 2<|ak (ae 0#6 av)<|m1 xu)
 (ar (aJ 3<|af 1)
 (ar (ib (tm 3) (ag 3#6 0#0 iE)
 (ar (Ho 2 3<|ae 3#6<|ae (ag 2#6 3#6 dO) av)
 au))
 (ar (bJ<|ak (ae (ag 0#6 2#6 sN)<|ae (ag 1#6 2#6 sN) av) bI)
 au))))
def gF:ac->aw D:=bH 4 wG
theorem AZ{A B:Sl}:∀(n:Nat) (a b:Int),0<=a->0<=b->b.natAbs<n->cu (ag 3#6 0#0 iE) (ar (Ho 2 3<|ae 3#6<|ae (ag 2#6 3#6 dO) av) au) n [A,B,.sh<|.int a,.sh<|.int b]=.ok (.nx [A,B,.sh<|.int (VW a b:Int),.sh<|.int 0])
 |0,a,b,_,_,h=>er h<|Nat.not_lt_zero _
 |n+1,a,b,j,i,h=>by
  by_cases e:b=0
  .subst e
   have c:(ag 3#6 0#0 iE) (fQ [A,B,.sh<|.int a,.sh<|.int 0])=.ok (.bl Vd):=by
    cases A<;>cases B<;>rfl
   rw[iN c];have:((VW a 0:Nat):Int)=a:=by rw[Int.gcd_zero_right];omega
   rw[this]
  .have c:(ag 3#6 0#0 iE) (fQ [A,B,.sh<|.int a,.sh<|.int b])=.ok (.bl VO):=by
    have:(b==0)=Vd:=beq_eq_false_iff_ne.mpr e;cases A<;>cases B<;>erw[this]
   have f:=eV (a:=a) (b:=b) 0#2;have d:(b==0)=Vd:=beq_eq_false_iff_ne.mpr e;rw[ll (ρ2:=[A,B,.sh<|.int b,.sh<|.int<|a.fmod b]) c ?_,AZ n b (a.fmod b) 0#2 f.1<|by omega]
   .rw[A8]
   .cases A<;>cases B<;>erw[d]
def low_ok(p:0<b)(m:a.natAbs<wR)(l:b.natAbs<wR):gF [.int a,.int b]=.ok (fr<|kH a b):=by
 have g:0<(VW a b:Int):=tj 0#2;have e:(VW (a.natAbs:Int) b:Int)=(VW a b:Int):=by
  congr 1
 have f:=AZ (A:=.sh<|.int a) (B:=.sh<|.int b) (b.natAbs+1) (a.natAbs:Int) b 0#2 0#2<|Xx _;rw[e]at f;have d:∀(c:bv) (s:ci),ib (tm 3) c s [.sh<|.int a,.sh<|.int b,.sh<|.int (a.natAbs:Int),.sh<|.int b]=cu c s (b.natAbs+1) [.sh<|.int a,.sh<|.int b,.sh<|.int (a.natAbs:Int),.sh<|.int b]:=λ_ _=>rfl;have r:(VW a b:Int)∣a:=ZI ..;have q:(VW a b:Int)∣b:=ZC ..;have j:gY a (VW a b:Int)=VO:=vZ 0#2 m;have i:gY b (VW a b:Int)=VO:=vZ 0#2 l;have o:a.fdiv (VW a b:Int)=a / (VW a b:Int):=j8 g;have n:b.fdiv (VW a b:Int)=b / (VW a b:Int):=j8 g;erw[gF,wG,zY,d,f,vO j,vO i,o,n]
 rfl
noncomputable def iu:ci :=
 (ar (aJ 1<|ag (ak (ae 0#0<|ae (ag (ag 0#6 1#0 aE) 7#0 dO)<|ae (ag (ag 0#6 1#0 aE) 60#0 dO)<|ae (ag 0#6 1#0 aE)<|ae (ag (ag 0#6 1#0 aE) 1000#0 dO) av) aZ) (ag 0#6 0#0 aE) aE)
 (ar (aJ 2<|ag (ak (ae 1#0<|ae 1#0<|ae (ag 1#0 (ag 0#6 2#0 aE) aV)<|ae 1#0<|ae (ag 1#0 (ag (ag 0#6 2#0 aE) 4#0 dO) aV) av) aZ) (ag 0#6 0#0 aE) aE)
 (ar (bJ<|ak (ae 1#6<|ae 2#6 av) gF)
 au)))
def aX:ac->aw D:=bH 3 iu
def rQ(hw:0<=w/\w<5)(m:0<=a/\a<1000000000000000000)(l:0<=b/\b<30):∃x:iz,aX [.lst [.int w,.int a,.int b]]=.ok (fr x)/\eF x/\0<=x.1:=by
 have n:(1000000000000000000000:Int)<(wU:Int):=by decide
 have o:=eV (a:=a) (b:=7) 0#1;have g:=eV (a:=a) (b:=60) 0#1;have d:=eV (a:=a) (b:=1000) 0#1;have r:=eV (a:=b) (b:=4) 0#1;obtain⟨p,q,j,i,f,e⟩:∃p q:Int,(0<=p/\p<1000000000000000000)/\(1<=q/\q<1000)/\aE (.lst [.int 0,.int<|a.fmod 7,.int<|a.fmod 60,.int a,.int<|a.fmod 1000]) (.int w)=.ok (.int p)/\aE (.lst [.int 1,.int 1,.int (1+b),.int 1,.int (1+b.fmod 4)]) (.int w)=.ok (.int q):=by
  have:w=0∨w=1∨w=2∨w=3∨w=4:=by omega
  rcases this with rfl|rfl|rfl|rfl|rfl
  .exact⟨0,1,by decide,by decide,rfl,rfl⟩
  .exact⟨a.fmod 7,1,by omega,by decide,rfl,rfl⟩
  .exact⟨a.fmod 60,1+b,by omega,by omega,rfl,rfl⟩
  .exact⟨a,1,by omega,by decide,rfl,rfl⟩
  .exact⟨a.fmod 1000,1+b.fmod 4,by omega,by omega,rfl,rfl⟩
 have c:=low_ok (a:=p) (b:=q) 0#2 (LU 0#2<|by omega) (LU 0#2<|by omega);refine⟨kH p q,?_,RG 0#2 0#2 0#2,uJ 0#2<|by omega⟩;erw[aX,iu,f,e,c]
noncomputable def qk:ci :=
 (ar (aJ 2<|dC<|.str "abcdefghijklmnopqrstuvwxyz")
 (ar (mX 3<|ak av aZ)
 (ar (xN 1#6 (bK 4)
 (ar (aJ 5<|dZ 0#6 (bS<|ag 10#0 4#6 dm)<|bS<|ag (ag 10#0 4#6 dm) 10#0 aV)
 (ar (aJ 6<|BG 0#""<|ae (cJ 1 [2,5] (rB<|ag 1#0 (ag 5#6 0#0 aE) aV) (bK 0) mYes<|ag 1#6 (ag 2#6 (ag 2#0 0#6 aV) aE) aE) av)
 (ar (dG (gm (ag 4#6 0#0 My)<|ag (ag 5#6 1#0 aE) 0#0 gZ)
 (ar (DV 6<|ag (dZ (ag 3#6 (ag 4#6 1#0 ke) aE) cR<|bS<|ag 5#6 0#0 aE) (ag 2#6 (ag 5#6 2#0 aE) aE) aV)
 au)
 au)
 (ar (aJ 7<|ag 5#6 9#0 aE)
 (ar (ib (λ_=>30) (ag 6#6 3#6 nY)
 (ar (aJ 7<|ag 7#6 1#0 aV)
 (ar (aJ 6<|ag (dZ 6#6 cR<|bS<|aL 1#0 k9) (ag 2#6 (ag 7#6 26#0 dO) aE) aV)
 au)))
 (ar (bP 3<|af 6)
 au)))))))
 (ar (bJ<|af 3)
 au))))
def dN:ac->aw D:=bH 8 qk
def S(cs:db):Vq:=⟨cs.toArray⟩
def NL(h:S a=S b):a=b:=by
 have:=ew (λs:Vq=>s.cps.toList) h;simpa[S] using this
def qz(a:db):(S a).length=a.length:=PU a
structure wO (cs:db):Prop where
 l1:1<=cs.length
 l8:cs.length<=8
 ab:∀x∈cs,uU x=VO
def wO.nameB(h:wO cs):Com.nameB (S cs)=VO:=by
 unfold Com.nameB;rw[qz];simp only[Vv,ez];exact⟨h.l1,h.l8,V2.mpr λx a=>h.ab x<|by simpa[S] using a⟩
def jb(css:List<|db):ac:=css.map λa=>D.str<|S a
def uT:nY (.str<|S cs) (.lst<|jb css)=.ok (.bl (decide (cs∈css))):=by
 have e:jb css=(css.map S).map D.str:=by unfold jb;rw[Wk];rfl
 rw[e,kJ]
 congr 2
 apply decide_eq_decide.mpr;constructor
 .intro h
  obtain⟨b,c,a⟩:=VD.mp h;rw[←NL a];exact c
 .exact λh=>VD.mpr ⟨cs,h,rfl⟩
def Mz(h:1<=cs.length)(a:cs.length<=1000):Fd (.str<|S cs) Wb (Wp (-1))=.ok (.str<|S cs.dropLast):=by
 rw[DQ (by rw[qz];exact a)]
 congr 2
 have b:Yh (S cs) Wb (Wp (-1))=Yh (S cs) Wb (Wp (-1+((S cs).length:Int))):=StrLaws.sliceText_neg_hi (S cs) Wb 0#1 (by rw[qz];omega);rw[b,qz,show(-1+(cs.length:Int))=((cs.length-1:Nat):Int) by omega,show S cs=⟨cs.toArray⟩ from rfl,tY<|by omega];rw[List.dropLast_eq_take];rfl
def jl(pre:db)(at_:Int)(i:Nat):db:=pre++[97+((at_+(i:Int)).fmod 26).toNat]
def MH(e:pre.length<=7)(d:∀x∈pre,uU x=VO):wO (jl pre at_ i):=by
 have f:=eV (a:=at_+(i:Int)) (b:=26) 0#1;refine⟨by unfold jl;simp,by unfold jl;simp;omega,λx c=>?_⟩;unfold jl at c;rw[VH]at c;rcases c with c|c
 .exact d x c
 .have:x=97+((at_+(i:Int)).fmod 26).toNat:=by simpa using c
  rw[this];exact Dv _ 0#2
theorem nodup_le{c:Type}[DecidableEq c]:∀{l m:List c},l.Nodup->(∀x∈l,x∈m)->l.length<=m.length
 |[],_,_,_=>Yj _
 |a::l,m,nd,h=>by
  rw[VR]at nd;have e:=h a Ve;have:=nodup_le (l:=l) (m:=m.erase a) nd.2 λx d=>by
   have b:x≠a:=λz=>nd.1<|z▸d;exact(List.mem_erase_of_ne b).mpr<|h x<|U9 _ d
  rw[List.length_erase_of_mem e]at this;have:=List.length_pos_of_mem e;simp only[Vp];omega
def F6{css:List<|db}(o:css.length<=6):∃j,j<=6/\jl pre at_ (1+j)∉css:=by
 refine Z2 λc=>?_;have b:∀j,j<=6->jl pre at_ (1+j)∈css:=λj a=>Z2 λf=>c ⟨j,a,f⟩;have nd:((Ws 7).map λj=>jl pre at_ (1+j)).Nodup:=by
  rw[W4,YT];refine Z6 ?_ List.pairwise_lt_range;intro k j i a g d;rw[Xy]at i a;have n:=List.append_inj_right d rfl;have l:97+((at_+((1+k:Nat):Int)).fmod 26).toNat=97+((at_+((1+j:Nat):Int)).fmod 26).toNat:=by simpa using n
  rw[X0 _ 0#1,X0 _<|by decide]at l;omega
 have:=nodup_le nd (m:=css) λx e=>by
  obtain⟨j,a,rfl⟩:=VD.mp e;rw[Xy]at a;exact b j 0#2
 simp at this;omega
def El(l:1<=cs.length)(m:cs.length<=8):(ar (aJ 7<|ag 7#6 1#0 aV)
 (ar (aJ 6<|ag (dZ 6#6 cR<|bS<|aL 1#0 k9) (ag 2#6 (ag 7#6 26#0 dO) aE) aV)
 au)) [.sh a,.sh b,.sh<|.str "abcdefghijklmnopqrstuvwxyz",.ow<|.lst<|jb css,.sh c,.sh e,.sh<|.str<|S cs,.sh<|.int at_]=.ok (.nx [.sh a,.sh b,.sh<|.str "abcdefghijklmnopqrstuvwxyz",.ow<|.lst<|jb css,.sh c,.sh e,.sh<|.str<|S<|cs.dropLast++[97+((at_+1).fmod 26).toNat],.sh<|.int<|at_+1]):=by
 have f:=eV (a:=at_+1) (b:=26) 0#1;have i:=Mz l 0#2;have j:=Du f.1 f.2;have d:aV (.str<|S cs.dropLast) (.str ⟨#[97+((at_+1).fmod 26).toNat]⟩)=.ok (.str<|S<|cs.dropLast++[97+((at_+1).fmod 26).toNat]):=by
  have g:(S cs.dropLast).length+(⟨#[97+((at_+1).fmod 26).toNat]⟩:Vq).length<=1000:=by
   rw[qz,saK];show cs.length-1+1<=1000;omega
  rw[BR g];exact ew (λz=>aw.ok<|D.str z)<|yl cs.dropLast [97+((at_+1).fmod 26).toNat]
 erw[i,j,d]
def ID{a b c e:D}{css:List<|db}{pre:db}{at_:Int}(t:pre.length<=7):∀(d i fuel:Nat),jl pre at_ (i+d)∉css->d<fuel->∃j,cu (ag 6#6 3#6 nY)
 (ar (aJ 7<|ag 7#6 1#0 aV)
 (ar (aJ 6<|ag (dZ 6#6 cR<|bS<|aL 1#0 k9) (ag 2#6 (ag 7#6 26#0 dO) aE) aV)
 au)) fuel [.sh a,.sh b,.sh<|.str "abcdefghijklmnopqrstuvwxyz",.ow<|.lst<|jb css,.sh c,.sh e,.sh<|.str<|S<|jl pre at_ i,.sh<|.int<|at_+(i:Int)]=.ok (.nx [.sh a,.sh b,.sh<|.str "abcdefghijklmnopqrstuvwxyz",.ow<|.lst<|jb css,.sh c,.sh e,.sh<|.str<|S<|jl pre at_ j,.sh<|.int<|at_+(j:Int)])/\jl pre at_ j∉css:=by
 intro d
 induction d with
 |zero=>
  intro i fuel g p;obtain⟨f,rfl⟩:∃f,fuel=f+1:=⟨fuel-1,by omega⟩
  have g:jl pre at_ i∉css:=g;refine⟨i,?_,g⟩;rw[iN];have:=uT (css:=css) (cs:=jl pre at_ i);rw[en g]at this;erw[this]
 |succ d o=>
  intro i fuel g p;obtain⟨f,rfl⟩:∃f,fuel=f+1:=⟨fuel-1,by omega⟩
  by_cases m:jl pre at_ i∈css
  .obtain⟨j,r,q⟩:=o (i+1) f (by rw[show i+1+d=i+(d+1) by omega];exact g) 0#2
   refine⟨j,?_,q⟩;have l:=El (a:=a) (b:=b) (c:=c) (e:=e) (css:=css) (cs:=jl pre at_ i) (at_:=at_+(i:Int)) (by unfold jl;simp) (by unfold jl;simp;omega);have s:(jl pre at_ i).dropLast++[97+((at_+(i:Int)+1).fmod 26).toNat]=jl pre at_ (i+1):=by
    unfold jl;rw[List.dropLast_concat,show at_+(i:Int)+1=at_+((i+1:Nat):Int) by omega]
   rw[s,show at_+(i:Int)+1=at_+((i+1:Nat):Int) by omega]at l;rw[ll ?_ l]
   .exact r
   .have:=uT (css:=css) (cs:=jl pre at_ i)
    rw[dV m]at this;erw[this]
  .refine⟨i,?_,m⟩
   rw[iN];have:=uT (css:=css) (cs:=jl pre at_ i);rw[en m]at this;erw[this]
def Ek(p:css.length<=6)(h:wO cs):∃d l,cu (ag 6#6 3#6 nY)
 (ar (aJ 7<|ag 7#6 1#0 aV)
 (ar (aJ 6<|ag (dZ 6#6 cR<|bS<|aL 1#0 k9) (ag 2#6 (ag 7#6 26#0 dO) aE) aV)
 au)) 30 [.sh a,.sh b,.sh<|.str "abcdefghijklmnopqrstuvwxyz",.ow<|.lst<|jb css,.sh c,.sh e,.sh<|.str<|S cs,.sh<|.int at_]=.ok (.nx [.sh a,.sh b,.sh<|.str "abcdefghijklmnopqrstuvwxyz",.ow<|.lst<|jb css,.sh c,.sh e,.sh<|.str<|S d,.sh<|.int l])/\wO d/\d∉css:=by
 by_cases i:cs∈css
 .have f:cs.dropLast.length<=7:=by rw[saK];have:=h.l8;omega
  obtain⟨j,s,o⟩:=F6 (pre:=cs.dropLast) (at_:=at_) (css:=css) p;obtain⟨m,r,q⟩:=ID (a:=a) (b:=b) (c:=c) (e:=e) f j 1 29 o 0#2;refine⟨jl cs.dropLast at_ m,at_+(m:Int),?_,MH f λx n=>h.ab x<|List.dropLast_subset _ n,q⟩;have g:=El (a:=a) (b:=b) (c:=c) (e:=e) (css:=css) (cs:=cs) (at_:=at_) h.l1 h.l8;rw[ll ?_ g]
  .exact r
  .have:=uT (css:=css) (cs:=cs)
   rw[dV i]at this;erw[this]
 .refine⟨cs,at_,?_,h,i⟩
  rw[iN];have:=uT (css:=css) (cs:=cs);rw[en i]at this;erw[this]
def Qr:List Int:=[8,3,26,26,26,26,26,26,26,26,8,3,26,26,26,26,26,26,26,26,8,3,26,26,26,26,26,26,26,26,8,3,26,26,26,26,26,26,26,26,8,3,26,26,26,26,26,26,26,26,8,3,26,26,26,26,26,26,26,26,8,3,26,26,26,26,26,26,26,26]
def Pz:∀k,k<7->∀j,j<10->Qr[10*k+j]?=Wp (if j=0 then 8 else if j=1 then 3 else 26):=by decide
structure M1 (es:List Int):Prop where
 len:es.length=10
 e0:∃v,es[0]?=Wp v/\0<=v/\v<8
 e1:∃v,es[1]?=Wp v/\0<=v/\v<3
 el:∀j,2<=j->j<10->∃v,es[j]?=Wp v/\0<=v/\v<26
def N7(W:Drawn Qr ds){k:Nat}(d:k<7):M1 ((ds.drop (10*k)).take 10):=by
 have f:ds.length=70:=W.len;have at_:∀j,j<10->∃v,((ds.drop (10*k)).take 10)[j]?=Wp v/\0<=v/\v<(if j=0 then 8 else if j=1 then 3 else 26:Int):=λj c=>by
  rw[Xh c,WU];obtain⟨v,e,a,_⟩:=W.at (10*k+j) (Pz k d j c);exact⟨v,e,a.1,a.2⟩
 refine⟨by rw[Wc,Wv];omega,?_,?_,λj a b=>?_⟩
 .have:=at_ 0 0#1;simpa using this
 .have:=at_ 1 0#1;simpa using this
 .obtain⟨v,h⟩:=at_ j b
  rw[eo 0#2,eo<|by omega]at h;exact⟨v,h⟩
def M1.ix{a:List Int}{j:Nat}(h:a[j]?=Wp v):aE (.lst<|a.map D.int) (.int (j:Int))=.ok (.int v):=c5 (by rw[Vh,h];rfl)
def tX(d:D):aw (ac):=match d with
 |.int j=>if -4611686018427387904<=j/\j<4611686018427387904 then .ok (intsFrom 0 j.toNat) else .stuck
 |_=>.stuck
def vg:rB f ρ=(f ρ).bind tX:=rfl
def Fc{k:Nat}(h:k<=1000000):tX (.int (k:Int))=.ok (intsFrom 0 k):=by
 unfold tX;dsimp only;rw[ef ⟨by omega,by omega⟩,Wo]
def first(a:List Int)(m:Nat):db:=(Ws m).map λj=>97+((a[2+j]?).getD 0).toNat
def Js(T:M1 g)(f:1<=m)(d:m<=8):wO (first g m):=by
 refine⟨by unfold first;simpa using f,by unfold first;simpa using d,λx a=>?_⟩;unfold first at a
 obtain⟨j,c,rfl⟩:=VD.mp a;rw[Xy]at c;obtain⟨v,e,b⟩:=T.el (2+j) 0#2 0#2;rw[e,Xw];exact Dv _ 0#2
def Dd(T:M1 f)(o:m<=8){a b n k:D}:c6 1 [2,5] (bK 0) mYes (ag 1#6 (ag 2#6 (ag 2#0 0#6 aV) aE) aE) [.sh a,.sh b,.sh<|.str "abcdefghijklmnopqrstuvwxyz",.ow n,.sh k,.sh<|.lst<|f.map D.int,x6,x7] (intsFrom 0 m)=.ok (.lst<|(first f m).map λc=>D.str ⟨#[c]⟩):=by
 have hlen:(DL.intsFrom 0 m).length=m:=by unfold DL.intsFrom;simp
 rw[ki (F:=λd=>match d with|.int j=>.str ⟨#[97+((f[2+j.toNat]?).getD 0).toNat]⟩|d=>d) (by rw[hlen];omega)]
 .congr 2
  unfold DL.intsFrom first
  rw[Wk,Wk];apply saO;intro j _;show D.str ⟨#[97+((f[2+(0+(j:Int)).toNat]?).getD 0).toNat]⟩=_;rw[show(0+(j:Int)).toNat=j by omega];rfl
 .intro d hd
  unfold DL.intsFrom at hd;obtain⟨j,l,rfl⟩:=VD.mp hd;rw[Xy]at l;obtain⟨v,e,i⟩:=T.el (2+j) 0#2 0#2;refine⟨[.sh<|.int (0+(j:Int)),.sh<|.str "abcdefghijklmnopqrstuvwxyz",.sh<|.lst<|f.map D.int],rfl,rfl,?_⟩;have g:aE (.lst<|f.map D.int) (.int (2+(0+(j:Int))))=.ok (.int v):=by
   rw[show(2+(0+(j:Int)))=((2+j:Nat):Int) by omega];exact M1.ix e
  erw[g,Du i.1 i.2]
  rw[show(0+(j:Int)).toNat=j by omega,e];rfl
def Cg(h:(z.length:Int)<=j):Yh z Wb (Wp j)=Yh z Wb (Wp (z.length:Int)):=by
 show Zw z Wb (Wp j)=Zw z Wb (Wp (z.length:Int));have e:YH Wb (Wp j) 1 z.length=YH Wb (Wp (z.length:Int)) 1 z.length:=by
  have a:¬j<0:=by omega
  have b:¬((z.length:Int)<0):=by omega
  have c:min j (z.length:Int)=(z.length:Int):=by omega
  have d:min (z.length:Int) (z.length:Int)=(z.length:Int):=by omega
  simp[YH,a,b,c,d]
 unfold Zw;rw[e]
def CM{c:Type}{l:List c}{x:c}(h:l.Nodup)(d:x∉l):(l++[x]).Nodup:=by
 rw[Xs];refine⟨h,by simp,λa f b e=>?_⟩;have:b=x:=by simpa using e
 subst this;intro z;subst z;exact d f
set_option maxHeartbeats 1000000 in
def IG(W:Drawn Qr ds){n:Nat}(hn:n<=7):∃css:List<|db,dN [.lst<|ds.map D.int,.int (n:Int)]=.ok (.lst<|jb css)/\css.length=n/\css.Nodup/\∀cs∈css,wO cs:=by
 have a4:ds.length=70:=W.len;obtain⟨a3,hl,css,v,G,y,x4,x5,M,L,rfl⟩:=Ez (i:=4) (n:=n)
  (ρ:=[.sh<|.lst<|ds.map D.int,.sh<|.int (n:Int),.sh<|.str "abcdefghijklmnopqrstuvwxyz",.ow<|.lst [],.no,.no,.no,.no])
  (body:=(ar (aJ 5<|dZ 0#6 (bS<|ag 10#0 4#6 dm)<|bS<|ag (ag 10#0 4#6 dm) 10#0 aV)
 (ar (aJ 6<|BG 0#""<|ae (cJ 1 [2,5] (rB<|ag 1#0 (ag 5#6 0#0 aE) aV) (bK 0) mYes<|ag 1#6 (ag 2#6 (ag 2#0 0#6 aV) aE) aE) av)
 (ar (dG (gm (ag 4#6 0#0 My)<|ag (ag 5#6 1#0 aE) 0#0 gZ)
 (ar (DV 6<|ag (dZ (ag 3#6 (ag 4#6 1#0 ke) aE) cR<|bS<|ag 5#6 0#0 aE) (ag 2#6 (ag 5#6 2#0 aE) aE) aV)
 au)
 au)
 (ar (aJ 7<|ag 5#6 9#0 aE)
 (ar (ib (λ_=>30) (ag 6#6 3#6 nY)
 (ar (aJ 7<|ag 7#6 1#0 aV)
 (ar (aJ 6<|ag (dZ 6#6 cR<|bS<|aL 1#0 k9) (ag 2#6 (ag 7#6 26#0 dO) aE) aV)
 au)))
 (ar (bP 3<|af 6)
 au)))))))
  (λk w=>∃css:List<|db,css.length=k/\css.Nodup/\(∀cs∈css,wO cs)/\∃x4 x5 M L,w=[.sh<|.lst<|ds.map D.int,.sh<|.int (n:Int),.sh<|.str "abcdefghijklmnopqrstuvwxyz",.ow<|.lst<|jb css,x4,x5,M,L]) (by
   rintro k hk w ⟨css,rfl,G,y,x4,x5,M,L,rfl⟩;have T:=N7 W (k:=css.length) 0#2;generalize as:(ds.drop (10*css.length)).take 10=t at T;have q:cE (ds.map D.int) (Wp (10*(css.length:Int))) (Wp (10*(css.length:Int)+10))=t.map D.int:=by
    rw[BH (a:=10*css.length) (b:=10*css.length+10) 0#2 0#2 0#2 0#2,show 10*css.length+10-10*css.length=10 by omega,as]
   obtain⟨e0,g0,b0,a7⟩:=T.e0;obtain⟨e1,g1,b1,a6⟩:=T.e1;obtain⟨B,g2,b2,a2⟩:=T.el 2 0#1 0#1;obtain⟨e9,g9,b9,a5⟩:=T.el 9 0#1 0#1;have i0:aE (.lst<|t.map D.int) (.int 0)=.ok (.int e0):=M1.ix (j:=0) g0;have i1:aE (.lst<|t.map D.int) (.int 1)=.ok (.int e1):=M1.ix (j:=1) g1;have i2:aE (.lst<|t.map D.int) (.int 2)=.ok (.int B):=M1.ix (j:=2) g2;have i9:aE (.lst<|t.map D.int) (.int 9)=.ok (.int e9):=M1.ix (j:=9) g9;obtain⟨m,rfl⟩:=Wa b0;have H:eU 10 (css.length:Int)=VO:=jZ 0#1 0#2;have l:tX (.int (1+(m:Int)))=.ok (DL.intsFrom 0 (1+m)):=by
    rw[show(1+(m:Int))=((1+m:Nat):Int) by omega];exact Fc 0#2
   have f:=CZ (cs:=first t (1+m)) (by unfold first;simp;omega);have hF:=Js T (m:=1+m) 0#2 0#2;have g:=λ(M L:Sl)=>Dd T (m:=1+m) 0#2 (a:=.lst<|ds.map D.int) (b:=.int (n:Int)) (n:=.lst<|jb css) (k:=.int (css.length:Int)) (x6:=M) (x7:=L);have C:∀(c:bv) (s:ci) (w:Ev),ib (λ_=>30) c s w=cu c s 30 w:=λ_ _ _=>rfl;have I:decide ((jb css).length<=999)=VO:=dV (by unfold jb;rw[U8];omega);have fin:∀cs,cs∉css->wO cs->(css++[cs]).Nodup/\∀c∈css++[cs],wO c:=λcs h1 h2=>⟨CM G h1,λc v=>by
    rw[VH]at v;rcases v with v|v
    .exact y c v
    .have:c=cs:=by simpa using v
     subst this;exact h2⟩
   have Q:∀cs,jb (css++[cs])=jb css++[.str<|S cs]:=λcs=>by unfold jb;rw[VX];rfl
   have hS:∀cs:db,(⟨cs.toArray⟩:Vq)=S cs:=λ_=>rfl;rw[hS]at f;cases r:(decide ((css.length:Int) > 0)&&(e1==0)) with
   |false=>
    obtain⟨d,J,hw,hN,Y⟩:=Ek (a:=.lst<|ds.map D.int) (b:=.int (n:Int)) (c:=.int (css.length:Int)) (e:=.lst<|t.map D.int) (css:=css) (cs:=first t (1+m)) (at_:=e9) 0#2 hF;refine⟨[.sh<|.lst<|ds.map D.int,.sh<|.int (n:Int),.sh<|.str "abcdefghijklmnopqrstuvwxyz",.ow<|.lst<|jb<|css++[d],.sh<|.int (css.length:Int),.sh<|.lst<|t.map D.int,.sh<|.str<|S d,.sh<|.int J],?_,css++[d],by simp,(fin d Y hN).1,(fin d Y hN).2,_,_,_,_,rfl⟩;rw[Q]
    by_cases p:(css.length:Int) > 0
    .have a1:(e1==0)=Vd:=by rw[dV p]at r;simpa using r
     erw[no_df,jN H,q,i0,vg,l,g,f,dV p,i1,a1,i9,C,hw,du I]
    .erw[no_df,jN H,q,i0,vg,l,g,f,en p,i9,C,hw,du I]
   |true=>
    rw[Vv,ez]at r;have p:=r.1;have o:css.length-1<css.length:=by omega
    have E:=y css[css.length-1]<|Ww o;have A:aE (.lst<|jb css) (.int<|(css.length:Int)-1)=.ok (.str<|S css[css.length-1]):=by
     rw[show((css.length:Int)-1)=((css.length-1:Nat):Int) by omega];exact c5 (by unfold jb;rw[Vh,U7 o];rfl)
    generalize css[css.length-1]=u at A E;have al:Fd (.str<|S u) Wb (Wp (m:Int))=.ok (.str<|S<|u.take m):=by
     rw[DQ (by rw[qz];have:=E.l8;omega)]
     by_cases an:m<=u.length
     .exact ew (λz=>aw.ok<|D.str z)<|tY an
     .rw[Cg (by rw[qz];omega),qz]
      refine ew (λz=>aw.ok<|D.str z)<|(tY<|VB _).trans ?_;rw[ZG,Yp<|by omega];rfl
    have U:aV (.str<|S<|u.take m) (.str ⟨#[97+B.toNat]⟩)=.ok (.str<|S<|u.take m++[97+B.toNat]):=by
     have ap:(S<|u.take m).length+(⟨#[97+B.toNat]⟩:Vq).length<=1000:=by
      rw[qz,Wc];show min m u.length+1<=1000;omega
     rw[BR ap];exact ew (λz=>aw.ok<|D.str z)<|yl (u.take m) [97+B.toNat]
    have O:∀(i:Nat) (w:Ev) (z:Vq),Np i w (.str z)=.ok (.nx<|w.set i<|.sh<|.str z):=λ_ _ _=>rfl;have a0:wO (u.take m++[97+B.toNat]):=by
     refine⟨by simp,by simp;omega,λx N=>?_⟩;rw[VH]at N;rcases N with N|N
     .exact E.ab x<|Zc N
     .have:x=97+B.toNat:=by simpa using N
      rw[this];exact Dv _ 0#2
    obtain⟨d,J,hw,hN,Y⟩:=Ek (a:=.lst<|ds.map D.int) (b:=.int (n:Int)) (c:=.int (css.length:Int)) (e:=.lst<|t.map D.int) (css:=css) (cs:=u.take m++[97+B.toNat]) (at_:=e9) 0#2 a0;refine⟨[.sh<|.lst<|ds.map D.int,.sh<|.int (n:Int),.sh<|.str "abcdefghijklmnopqrstuvwxyz",.ow<|.lst<|jb<|css++[d],.sh<|.int (css.length:Int),.sh<|.lst<|t.map D.int,.sh<|.str<|S d,.sh<|.int J],?_,css++[d],by simp,(fin d Y hN).1,(fin d Y hN).2,_,_,_,_,rfl⟩;rw[Q];erw[no_df,jN H,q,i0,vg,l,g,f,dV p,i1,r.2,ke,A,al,i2,Du b2 a2,U,Mh,O,i9,C,hw,du I]) ⟨[],rfl,List.nodup_nil,λc v=>(nomatch v),_,_,_,_,rfl⟩
 refine⟨css,?_,v,G,y⟩;erw[no_df,dN,qk,pT,Bb (show n<=1000000 by omega),hl]
noncomputable def fH:ci :=
 (ar (aJ 3<|ak (ae 0#6<|ae (ak (ae 420#0<|ae 60#0<|ae 2#0<|ae 5#0<|ae (ag 10#0 18#0 qW)<|ae 30#0<|ae 6#0<|ae 5#0<|ae (ag 10#0 18#0 qW)<|ae 30#0<|ae 3#0 av) aZ) av) aW)
 (ar (aJ 4<|ag (ag 3#6 0#0 aE) (ak (ae 2#6 av)<|m1 eg) dO)
 (ar (aJ 5<|ag (ag (ag 4#6 1#0 aV) (ag (ag 3#6 1#0 aE) (ag (ak (ae 2#6 av)<|m1 eg) 1#0 ke) dO) aV) (ak (ae 2#6 av)<|m1 eg) dO)
 (ar (dG (ag (ag 3#6 10#0 aE) 0#0 gZ)
 (ar (aJ 4<|ag 1#6 (ag (ak (ae 2#6 av)<|m1 eg) 1#0 ke) dO)
 (ar (aJ 5<|ag 4#6 1#0 aV)
 au))
 au)
 (ar (aJ 6<|dC<|.non)
 (ar (dG (ag (ag 3#6 6#0 aE) 0#0 My)
 (ar (aJ 6<|ak (ae (dZ 3#6 (bS<|dC<|.int 7)<|bS<|dC<|.int 10) av) aX)
 (ar (dG (ag (ag 6#6 0#0 aE) 0#0 gZ)
 (ar (aJ 6<|ak (ae 1#0<|ae 1#0 av) bI)
 au)
 au)
 au))
 au)
 (ar (bJ<|ak (ae (ag 2#6 4#6 aE)<|ae (ag 2#6 5#6 aE)<|ae (ag (ak (ae 0#"one"<|ae 0#"both" av) aZ) (ag 3#6 2#0 aE) aE)<|ae (ak (ae (dZ 3#6 (bS<|dC<|.int 3)<|bS<|dC<|.int 6) av) aX)<|ae 6#6 av) bI)
 au)))))))
def ck:ac->aw D:=bH 7 fH
def E2:eF (1,1)/\0<((1,1):iz).1:=⟨⟨⟨by decide,by decide⟩,by decide,by decide⟩,by decide⟩
set_option maxHeartbeats 1000000 in
def N5{k:Nat}(h2:2<=zs.length)(h8:zs.length<=8)(nd:zs.Nodup):∃t,ck [.int c,.int (k:Int),.lst<|zs.map D.str]=.ok (bo t)/\qw zs t:=by
 obtain⟨vs,hd,W⟩:=draws_ok c [420,60,2,5,1000000000000000000,30,6,5,1000000000000000000,30,3] 0#1 0#1;have s:aW [.int c,.lst [.int 420,.int 60,.int 2,.int 5,.int 1000000000000000000,.int 30,.int 6,.int 5,.int 1000000000000000000,.int 30,.int 3]]=.ok (.lst<|vs.map D.int):=hd;obtain⟨d0,g0,b0,N⟩:=W.ix 0 0 rfl rfl;obtain⟨d1,g1,b1,M⟩:=W.ix 1 1 rfl rfl;obtain⟨d2,g2,b2,L⟩:=W.ix 2 2 rfl rfl;obtain⟨d3,g3,b3,_⟩:=W.at 3 rfl;obtain⟨d4,g4,b4,_⟩:=W.at 4 rfl;obtain⟨d5,g5,b5,_⟩:=W.at 5 rfl;obtain⟨d6,g6,b6,J⟩:=W.ix 6 6 rfl rfl;obtain⟨d7,g7,b7,_⟩:=W.at 7 rfl;obtain⟨d8,g8,b8,_⟩:=W.at 8 rfl;obtain⟨d9,g9,b9,_⟩:=W.at 9 rfl;obtain⟨H,an,ap,l⟩:=W.ix 10 10 rfl rfl;have c3:=R6 (x:=3) (y:=6) (i:=3) rfl rfl g3 g4 g5;have c7:=R6 (x:=7) (y:=10) (i:=7) rfl rfl g7 g8 g9;obtain⟨x,O,fx,lx⟩:=rQ (w:=d3) (a:=d4) (b:=d5) b3 b4 b5;obtain⟨y,hy,fy,ly⟩:=rQ (w:=d7) (a:=d8) (b:=d9) b7 b8 b9;obtain⟨wd,hw,I⟩:=KJ b2.1 b2.2;have r:((zs.length:Int)==0)=Vd:=beq_eq_false_iff_ne.mpr 0#2;have m:((zs.length:Int)-1==0)=Vd:=beq_eq_false_iff_ne.mpr 0#2;obtain⟨p,q,hp,hq,al,E⟩:∃p q:Int,(0<=p/\p<(zs.length:Int))/\(0<=q/\q<(zs.length:Int))/\p≠q/\(((H==0)=VO/\p=(k:Int).fmod ((zs.length:Int)-1)/\q=p+1)∨((H==0)=Vd/\p=d0.fmod (zs.length:Int)/\q=(d0.fmod (zs.length:Int)+1+d1.fmod ((zs.length:Int)-1)).fmod (zs.length:Int))):=by
  cases g:(H==0) with
  |true=>
   have f:=eV (a:=(k:Int)) (b:=(zs.length:Int)-1) 0#2;exact⟨(k:Int).fmod<|(zs.length:Int)-1,(k:Int).fmod ((zs.length:Int)-1)+1,by omega,by omega,by omega,.inl ⟨rfl,rfl,rfl⟩⟩
  |false=>
   have f:=eV (a:=d0) (b:=(zs.length:Int)) 0#2;have f':=eV (a:=d1) (b:=(zs.length:Int)-1) 0#2;obtain⟨hr,ab⟩:=yy (n:=(zs.length:Int)) (d:=d0.fmod (zs.length:Int)) (e:=d1.fmod<|(zs.length:Int)-1) 0#2 f.1 f.2 f'.1 f'.2;exact⟨_,_,f,hr,V6 ab,.inr ⟨rfl,rfl,rfl⟩⟩
 obtain⟨Y,k1,z⟩:=Hh (zs:=zs) hp.1 hp.2;obtain⟨U,k2,u⟩:=Hh (zs:=zs) hq.1 hq.2;have Q:Y≠U:=AV nd k1 k2 0#2;have f1:aE (fr y) (.int 0)=.ok (.int y.1):=rfl;obtain⟨o,ho,C⟩:∃o:Option iz,(∀v,o=Wp v->eF v/\0<v.1)/\((¬d6 > 0/\o=Wb)∨(d6 > 0/\(y.1==0)=VO/\o=Wp (1,1))∨(d6 > 0/\(y.1==0)=Vd/\o=Wp y)):=by
  by_cases A:d6 > 0
  .cases j:(y.1==0) with
   |true=>exact⟨Wp (1,1),λv T=>by cases T;exact E2,.inr<|.inl ⟨A,rfl,rfl⟩⟩
   |false=>exact⟨Wp y,λv T=>by cases T;exact⟨fy,by have:y.1≠0:=beq_eq_false_iff_ne.mp j;omega⟩,.inr<|.inr ⟨A,rfl,rfl⟩⟩
  .exact⟨Wb,λv T=>(nomatch T),.inl ⟨A,rfl⟩⟩
 refine⟨⟨Y,U,wd,x,o⟩,?_,VQ k1,VQ k2,Q,hw,fx,lx,ho⟩;rw[show bo ⟨Y,U,wd,x,o⟩=.tup [.str Y,.str U,.str wd,fr x,cK o] from rfl];rcases E with⟨g,B,G⟩|⟨g,B,G⟩<;>rcases C with⟨A,e3⟩|⟨A,j,e3⟩|⟨A,j,e3⟩<;>subst e3
 .rw[G,B]at u;rw[B]at z
  erw[ck,fH,je,s,N,M,L,J,l,U8,r,m,ke,g,en A,z,u,I,c3,O]
  rfl
 .rw[G,B]at u;rw[B]at z
  erw[ck,fH,je,s,N,M,L,J,l,U8,r,m,ke,g,dV A,c7,hy,f1,j,z,u,I,c3,O]
  rfl
 .rw[G,B]at u;rw[B]at z
  erw[ck,fH,je,s,N,M,L,J,l,U8,r,m,ke,g,dV A,c7,hy,f1,j,z,u,I,c3,O]
  rfl
 .rw[G]at u;rw[B]at z
  erw[ck,fH,je,s,N,M,L,J,l,U8,r,m,ke,g,en A,z,u,I,c3,O]
  rfl
 .rw[G]at u;rw[B]at z
  erw[ck,fH,je,s,N,M,L,J,l,U8,r,m,ke,g,dV A,c7,hy,f1,j,z,u,I,c3,O]
  rfl
 .rw[G]at u;rw[B]at z
  erw[ck,fH,je,s,N,M,L,J,l,U8,r,m,ke,g,dV A,c7,hy,f1,j,z,u,I,c3,O]
  rfl
noncomputable def qm:ci :=
 (ar (aJ 1<|ak (ae (ag (ag 0#6 (ak (ae 0#0 av) aZ) aV) 0#0 aE)<|ae (ag (ag (ak (ae 6#0<|ae 420#0<|ae 60#0 av) aZ) (jK (ag (ak (ae 8#0<|ae 3#0 av) aZ) (jK (ak (ae 26#0 av) aZ)<|dC<|.int 8) nS)<|dC<|.int 7) aV) (ak (ae 18#0 av) aZ) aV) av) aW)
 (ar (aJ 2<|ak (ae 14#0<|ae (ag 1#6 73#0 aE) av)<|m2 PR)
 (ar (bJ<|ak (ae (dZ 0#6 (bS<|dC<|.int 1)<|bS<|ag 1#0 2#6 aV)<|ae (dZ 0#6 (bS<|ag 1#0 2#6 aV)<|bS<|dC<|.int 63) av) bI)
 au)))
def bf:ac->aw D:=bH 3 qm
def hd0(ns:List Int):Int:=(ns++[0]).headD 0
def Et(e:ns.length<=900)(h:ρ[0]?=Wp (.sh<|.lst<|ns.map D.int)):(ag (ag 0#6 (ak (ae 0#0 av) aZ) aV) 0#0 aE) ρ=.ok (.int<|hd0 ns):=by
 have a:aV (.lst<|ns.map D.int) (.lst [.int 0])=.ok (.lst<|(ns++[0]).map D.int):=by
  rw[dX (dV (by rw[U8];simp;omega)),VX];rfl
 have b:aE (.lst<|(ns++[0]).map D.int) (.int 0)=.ok (.int<|hd0 ns):=by
  refine c5 (k:=0) ?_;unfold hd0;cases ns<;>rfl
 have c:af 0 ρ=.ok (.lst<|ns.map D.int):=by
  show(match ρ[0]? with|some (.sh d)=>aw.ok d|_=>.stuck)=_;rw[h]
 rw[vU,vU,c];erw[a,b]
def QW:List Int:=[6,420,60]++Qr
def Uj:List Int:=QW++[18]
def Of:(ag (ak (ae 6#0<|ae 420#0<|ae 60#0 av) aZ) (jK (ag (ak (ae 8#0<|ae 3#0 av) aZ) (jK (ak (ae 26#0 av) aZ)<|dC<|.int 8) nS)<|dC<|.int 7) aV) ρ=.ok (.lst<|QW.map D.int):=rfl
def Og:(ag (ag (ak (ae 6#0<|ae 420#0<|ae 60#0 av) aZ) (jK (ag (ak (ae 8#0<|ae 3#0 av) aZ) (jK (ak (ae 26#0 av) aZ)<|dC<|.int 8) nS)<|dC<|.int 7) aV) (ak (ae 18#0 av) aZ) aV) ρ=.ok (.lst<|Uj.map D.int):=rfl
def MC{ns:List Int}:∃a:List Int,cE (ns.map D.int) lo hi=a.map D.int/\a.length<=ns.length:=by
 rw[mS];exact⟨_,rfl,Vr (List.length_take_le' ..) (by rw[Wv];omega)⟩
def JR{ns:List Int}(r:ns.length<=63):∃c1 e:List Int,bf [.lst<|ns.map D.int]=.ok (.tup [.lst<|c1.map D.int,.lst<|e.map D.int])/\c1.length<=14/\e.length<=63:=by
 obtain⟨q,hd,W⟩:=draws_ok (hd0 ns) Uj 0#1 0#1;obtain⟨d,g,b,i⟩:=W.ix 73 73 rfl rfl;have c:PR (.int 14) (.int d)=.ok (.int<|min 14 d):=by
  show aw.ok (D.int<|if d<14 then d else 14)=_
  congr 2
  split<;>omega
 obtain⟨e,j,n⟩:=MC (ns:=ns) (lo:=some (1+min 14 d)) (hi:=some 63);obtain⟨m,l⟩:=Wa (show 0<=min 14 d by omega);have a:∃c1:List Int,cE (ns.map D.int) (Wp 1) (Wp (1+min 14 d))=c1.map D.int/\c1.length<=14:=by
  rw[mS];refine⟨_,rfl,Vr (List.length_take_le ..) ?_⟩;rw[l,show(1+(m:Int))=((1+m:Nat):Int) by omega,HT.sIx_nat,show(1:Int)=((1:Nat):Int) from rfl,HT.sIx_nat];omega
 obtain⟨c1,a,f⟩:=a;refine⟨c1,e,?_,f,by omega⟩;have o:=Et (ns:=ns) 0#2 (ρ:=[.sh<|.lst<|ns.map D.int,.no,.no]) rfl;rw[bf,qm];rw[nO];show((ar _ _) [.sh<|.lst<|ns.map D.int,.no,.no]).bind Hr=_;rw[nN,nM,vS,iH,o,rS,jh,iH,Og];erw[hd,i,c,a,j]
noncomputable def wF:ci :=
 (ar (aJ 1<|ak (ae (ag (ag 0#6 (ak (ae 0#0 av) aZ) aV) 0#0 aE)<|ae (ag (ak (ae 6#0<|ae 420#0<|ae 60#0 av) aZ) (jK (ag (ak (ae 8#0<|ae 3#0 av) aZ) (jK (ak (ae 26#0 av) aZ)<|dC<|.int 8) nS)<|dC<|.int 7) aV) av) aW)
 (ar (aJ 2<|ak (ae (dZ 1#6 (bS<|dC<|.int 3) cR)<|ae (ag 2#0 (ag 1#6 0#0 aE) aV) av) dN)
 (ar (aJ 3<|ag (ag 1#6 1#0 aE) (ak (ae 2#6 av)<|m1 eg) dO)
 (ar (aJ 4<|ag (ag (ag 3#6 1#0 aV) (ag (ag 1#6 2#0 aE) (ag (ak (ae 2#6 av)<|m1 eg) 1#0 ke) dO) aV) (ak (ae 2#6 av)<|m1 eg) dO)
 (ar (aJ 5<|cJ 2 [3,4] (oo<|af 2) (dE [0,1]) (ag 0#6 (ak (ae 2#6<|ae 3#6 av) bI) bG)<|af 1)
 (ar (aJ 6<|ag (ag (ak (ae (ag 2#6 3#6 aE) av) aZ) 5#6 aV) (ak (ae (ag 2#6 4#6 aE) av) aZ) aV)
 (ar (aJ 7<|cJ 2 [6] (oo<|ag (ak (ae 0#6 av) bf) 0#0 aE) (dE [0,1]) mYes<|ak (ae 1#6<|ae 0#6<|ae 2#6 av) ck)
 (ar (bJ<|ak (ae 2#6<|ae 7#6<|ae (ag 2#6 3#6 aE)<|ae (ag 2#6 4#6 aE) av) bI)
 au))))))))
def di:ac->aw D:=bH 8 wF
def lI{zs:cr}:numbered 0 (zs.map D.str)=(Ws zs.length).map λ(k:Nat)=>D.tup [.int (k:Int),.str<|zs[k]?.getD ("" : Vq)]:=by
 apply Xt;intro i;rw[numbered_get,Vh,Vh]
 by_cases h:i<zs.length
 .rw[U7 h,Zg h]
  simp;rw[U7 h];rfl
 .rw[W8 0#2,W8 (by simp;omega)];rfl
def Fz{k f l:Nat}:bG (.int (k:Int)) (.tup [.int (f:Int),.int (l:Int)])=.ok (.bl (!(decide (k=f)||decide (k=l)))):=by
 have e:FL (.int (k:Int)) (.tup [.int (f:Int),.int (l:Int)])=Wp (decide (k=f)||decide (k=l)):=by
  have a:FL (.int (k:Int)) (.tup [.int (f:Int),.int (l:Int)])=Wp (((f:Int)==(k:Int))||(((l:Int)==(k:Int))||false)):=rfl;rw[a];refine ew Wp ?_;show(((f:Int)==(k:Int))||(((l:Int)==(k:Int))||false))=_;rw[Zk]
  congr 1
  .by_cases h:k=f
   .subst h;simp
   .rw[en h];exact beq_eq_false_iff_ne.mpr 0#2
  .by_cases h:k=l
   .subst h;simp
   .rw[en h];exact beq_eq_false_iff_ne.mpr 0#2
 unfold bG;rw[e]
def zX(zs:cr)(f l:Nat):cr:=((Ws zs.length).filter λk=>!(decide (k=f)||decide (k=l))).map λ(k:Nat)=>zs[k]?.getD ("" : Vq)
def Gq{f l:Nat}(h:zs.length<=8):c6 2 [3,4] (dE [0,1]) (ag 0#6 (ak (ae 2#6<|ae 3#6 av) bI) bG) 1#6 [a,b,.sh<|.lst<|zs.map D.str,.sh<|.int (f:Int),.sh<|.int (l:Int),x5,x6,x7] (numbered 0<|zs.map D.str)=.ok (.lst<|(zX zs f l).map D.str):=by
 rw[l9 (F:=λd=>match d with|.tup [_,z]=>z|d=>d) (p:=λd=>match d with|.tup [.int k,_]=>!(decide (k.toNat=f)||decide (k.toNat=l))|_=>Vd) (by rw[numbered_len,U8];omega)]
 .congr 2
  rw[lI];unfold zX;rw[List.filter_map,Wk,Wk];rfl
 .intro d hd
  rw[lI]at hd;obtain⟨k,_,rfl⟩:=VD.mp hd;refine⟨[.sh (.int (k:Int)),.sh (.str (zs[k]?.getD ("" : Vq))),.sh (.int (f:Int)),.sh (.int (l:Int))],rfl,?_,λ_=>rfl⟩;erw[Fz,Wo]
def sC(zs:cr)(f l:Nat):cr:=(zs[f]?.getD ("" : Vq))::(zX zs f l++[zs[l]?.getD ("" : Vq)])
def Qk(n f l:Nat):db:=f::((Ws n).filter (λk=>!(decide (k=f)||decide (k=l)))++[l])
def Am:sC zs f l=(Qk zs.length f l).map λ(k:Nat)=>zs[k]?.getD ("" : Vq):=by
 unfold sC Qk zX;rw[Vf,VX];rfl
def NX(c:f≠l):(Qk n f l).Nodup:=by
 unfold Qk;rw[VR,Xs];refine⟨λh=>?_,List.nodup_range.filter _,by simp,λa g b e=>?_⟩
 .rw[VH]at h
  rcases h with h|h
  .have:=(XI.mp h).2
   simp at this
  .exact c (by simpa using h)
 .have d:b=l:=by simpa using e
  subst d;intro z;subst z;have:=(XI.mp g).2;simp at this
def B8(c:f<n)(b:l<n):∀k∈Qk n f l,k<n:=λk a=>by
 unfold Qk at a;rw[Vl,VH]at a;rcases a with rfl|a|a
 .exact c
 .exact Xy.mp (XI.mp a).1
 .have:k=l:=by simpa using a
  subst this;exact b
def DD(nd:zs.Nodup)(g:f<zs.length)(e:l<zs.length)(c:f≠l):(sC zs f l).Nodup:=by
 rw[Am,W4,YT];refine Z6 ?_<|W4.mp<|NX c;intro a b j i d;have n:=B8 g e a j;have m:=B8 g e b i;rw[U7 n,U7 m,Xw,Xw];exact λz=>d<|(Yv nd).mp z
def tT(e:f<zs.length)(c:l<zs.length):∀z∈sC zs f l,z∈zs:=λz a=>by
 rw[Am]at a;obtain⟨k,d,rfl⟩:=VD.mp a;have b:=B8 e c k d;rw[U7 b,Xw];exact Ww b
def GO(nd:zs.Nodup)(c:f<zs.length)(b:l<zs.length)(a:f≠l):2<=(sC zs f l).length/\(sC zs f l).length<=zs.length:=by
 refine⟨by unfold sC;simp,nodup_le (DD nd c b a)<|tT c b⟩
def E6{cs:List Int}(m:2<=ws.length)(l:ws.length<=8)(nd:ws.Nodup)(n:cs.length<=14):∃ts:List kW,c6 2 [6] (dE [0,1]) mYes (ak (ae 1#6<|ae 0#6<|ae 2#6 av) ck) [x0,x1,x2,x3,x4,x5,.sh<|.lst<|ws.map D.str,x7] (numbered 0<|cs.map D.int)=.ok (.lst<|ts.map bo)/\ts.length=cs.length/\∀t∈ts,qw ws t:=by
 have key:∀(c:Int) (k:Nat),∃t,ck [.int c,.int (k:Int),.lst<|ws.map D.str]=.ok (bo t)/\qw ws t:=λc k=>N5 m l nd;obtain⟨g,f⟩:∃g:Int->Nat->kW,∀(c:Int) (k:Nat),ck [.int c,.int (k:Int),.lst<|ws.map D.str]=.ok (bo<|g c k)/\qw ws (g c k):=⟨λc k=>Classical.choose (key c k),λc k=>saw<|key c k⟩
 refine⟨(Ws cs.length).map λ(k:Nat)=>g (cs[k]?.getD 0) k,?_,by simp,λt j=>?_⟩
 .rw[ki (F:=λd=>match d with|.tup [.int k,.int c]=>bo (g c k.toNat)|d=>d) (by rw[numbered_len,U8];omega)]
  .congr 2
   apply Xt;intro i;rw[Vh,numbered_get,Vh,Vh,Vh]
   by_cases h:i<cs.length
   .rw[U7 h,Zg h]
    show Wp (bo<|g cs[i] (((0+i:Nat):Int)).toNat)=Wp (bo<|g (cs[i]?.getD 0) i);rw[U7 h,Xw,Wo,XF]
   .rw[W8 0#2,W8 (by simp;omega)];rfl
  .intro d hd
   obtain⟨i,b⟩:=sav.mp hd;rw[numbered_get,Vh]at b;cases e:cs[i]? with
   |none=>rw[e]at b;cases b
   |some c=>
    rw[e]at b;have a:D.tup [.int ((0+i:Nat):Int),.int c]=d:=V8 b;rw[XF]at a;subst a;refine⟨[.sh<|.int (i:Int),.sh<|.int c,.sh<|.lst<|ws.map D.str],rfl,rfl,?_⟩;have h:=(f c i).1;erw[h,Wo]
 .obtain⟨k,_,rfl⟩:=VD.mp j
  exact(f _ _).2
set_option maxHeartbeats 1000000 in
def web_cells{ns:List Int}(hn:ns.length<=63):∃w,∃c1 H:List Int,bf [.lst<|ns.map D.int]=.ok (.tup [.lst<|c1.map D.int,.lst<|H.map D.int])/\H.length<=63/\w.ts.length=c1.length/\di [.lst<|ns.map D.int]=.ok (aI w)/\cI w:=by
 obtain⟨x,hd,W⟩:=draws_ok (hd0 ns) QW 0#1 0#1;have y:x.length=73:=W.len;obtain⟨d0,g0,b0,i0⟩:=W.ix 0 0 rfl rfl;obtain⟨d1,g1,b1,i1⟩:=W.ix 1 1 rfl rfl;obtain⟨d2,g2,b2,i2⟩:=W.ix 2 2 rfl rfl;have W3:Drawn Qr (x.drop 3):=⟨by rw[Wv,y];rfl,λi v s e1 e2=>by
  rw[WU]at e1;refine W.bnd (3+i) v s e1 ?_;have:QW[3+i]?=Qr[i]?:=by
   unfold QW;rw[VF 0#3];simp
  rw[this];exact e2⟩
 obtain⟨m,rfl⟩:=Wa b0.1;obtain⟨p,L,Q,M,G⟩:=IG W3 (n:=2+m) 0#2;have A:dN [.lst<|(x.drop 3).map D.int,.int (2+(m:Int))]=.ok (.lst<|(p.map S).map D.str):=by
  have:jb p=(p.map S).map D.str:=by unfold jb;rw[Wk];rfl
  rw[←this];exact L
 have ab:(p.map S).length=2+m:=by rw[U8,Q]
 have nd:(p.map S).Nodup:=by
  rw[W4,YT];exact YX.imp (λh z=>h<|NL z)<|W4.mp M
 have nm:iM (p.map S):=⟨nd,λz hz=>by
  obtain⟨cs,hc,rfl⟩:=VD.mp hz;exact(G cs hc).nameB⟩
 generalize p.map S=c at *;have E:cE (x.map D.int) (Wp 3) Wb=(x.drop 3).map D.int:=by
  rw[mS,HT.sIx_none,show(3:Int)=((3:Nat):Int) from rfl,HT.sIx_nat,y];rw[Yp (by rw[Wv];omega)];rfl
 have O:((c.length:Int)==0)=Vd:=beq_eq_false_iff_ne.mpr 0#2;have N:((c.length:Int)-1==0)=Vd:=beq_eq_false_iff_ne.mpr 0#2;have f1:=eV (a:=d1) (b:=(c.length:Int)) 0#2;have f2:=eV (a:=d2) (b:=(c.length:Int)-1) 0#2;obtain⟨hr,an⟩:=yy (n:=(c.length:Int)) (d:=d1.fmod (c.length:Int)) (e:=d2.fmod<|(c.length:Int)-1) 0#2 f1.1 f1.2 f2.1 f2.2;obtain⟨f,hf⟩:=Wa f1.1;obtain⟨l,hl⟩:=Wa hr.1;have j:f<c.length:=by omega
 have g:l<c.length:=by omega
 have u:f≠l:=by omega
 have C:aE (.lst<|c.map D.str) (.int (f:Int))=.ok (.str c[f]):=c5 (by rw[Vh,U7 j];rfl);have B:aE (.lst<|c.map D.str) (.int (l:Int))=.ok (.str c[l]):=c5 (by rw[Vh,U7 g];rfl);obtain⟨c1,H,q,Y,U⟩:=JR hn;obtain⟨w2,w8⟩:=GO nd j g u;have al:(zX c f l).length+2=(sC c f l).length:=by unfold sC;simp
 have a1:aV (.lst [.str c[f]]) (.lst<|(zX c f l).map D.str)=.ok (.lst (.str c[f]::(zX c f l).map D.str)):=by
  rw[dX (dV (by rw[U8];simp;omega))];rfl
 have a2:aV (.lst (.str c[f]::(zX c f l).map D.str)) (.lst [.str c[l]])=.ok (.lst<|(sC c f l).map D.str):=by
  rw[dX (dV (by simp;omega))];unfold sC;rw[Vf,VX,U7 j,U7 g];rfl
 have hh:=Et (ns:=ns) 0#2 (ρ:=[.sh<|.lst<|ns.map D.int,.no,.no,.no,.no,.no,.no,.no]) rfl;obtain⟨ts,I,J,r⟩:=E6 (ws:=sC c f l) (cs:=c1) w2 0#2 (DD nd j g u) Y (x0:=.sh<|.lst<|ns.map D.int) (x1:=.sh<|.lst<|x.map D.int) (x2:=.sh<|.lst<|c.map D.str) (x3:=.sh<|.int (f:Int)) (x4:=.sh<|.int (l:Int)) (x5:=.sh<|.lst<|(zX c f l).map D.str) (x7:=.no);refine⟨⟨c,ts,c[f],c[l]⟩,c1,H,q,U,J,?_,⟨by show 2<=c.length;omega,by show c.length<=7;omega,nm,by show ts.length<=14;omega,λt ht=>?_,Ww j,Ww g,λz=>u<|(Yv nd).mp z⟩⟩
 .rw[di,wF,nO]
  show((ar _ _) [.sh<|.lst<|ns.map D.int,.no,.no,.no,.no,.no,.no,.no]).bind Hr=_;rw[nN,nM,vS,iH,hh,rS,jh,iH,Of];erw[no_df,hd,E,i0,A,i1,i2,U8,O,N,ke,hf]
  rw[hf]at hl;erw[no_df,hl,tE,tw,oV,Gq (show c.length<=8 by omega),C,B,a1,a2,q,I]
  rfl
 .have T:=r t ht
  exact⟨tT j g _ T.a,tT j g _ T.b,T.ne,T.w,T.l,T.l0,T.o⟩
end Cod
namespace DL
open PySem PySem.Spec PyProof.Rows L2
def PT.nox(h:PT X.nox e t):PT X e t:=λb s a H Q I hw=>
 Wj (h b s a H Q (I.wish _) hw) (λ_ _ ⟨d,c,q⟩=>⟨d,c.unwish,q⟩) λ_ _ z=>V0 z
section
variable {X:Cx}{c e:V4}{es:List V4}{fc:bv}{fa:Ev->aw (ac)}{ga gb:ci}{sa sb:Xi}{pos:Pos}
def lC(fc:bv)(ga gb:ci):ci:=λa=>match fc (fQ a) with
 |.ok (.bl b)=>if b=VO then ga a else gb a
 |_=>.stuck
def GZ(G:DT X.nox E0 c fc)(M:TB X sa ga)(L:TB X sb gb):TB X (.If c [sa] [sb] pos) (lC fc ga gb):=by
 refine⟨λt s r H w z y a D n I h q j=>?_⟩;have v:=PT.nox (X:=X.wish n) G.o;cases m:fc (fQ a) with
 |stuck=>
  have i:lC fc ga gb a=.stuck:=by unfold lC;rw[m]
  rw[i]at q;exact q.elim
 |exn x=>
  have i:lC fc ga gb a=.stuck:=by unfold lC;rw[m]
  rw[i]at q;exact q.elim
 |ok d=>
  cases d with
  |bl b=>
   have i:lC fc ga gb a=if b=VO then ga a else gb a:=by unfold lC;rw[m]
   rw[i]at q j;refine wpAny_If<|cM (v t s r H (λO p=>O=b/\aD H p) (I.wish n) ⟨frz w y H,fQ a,h.frz_le,h.looks,?_⟩) λd A ⟨p,C,N,B⟩=>?_
   .rw[m];exact λQ J g=>⟨rfl,g.s⟩
   .subst N
    cases d with
    |true=>
     rw[ef rfl]at q j;refine wpAny_execs_cons<|cM (M.o t A r p w z y a D n C.unwish (h.same B) q j) λf E l=>?_;cases f with|next=>exact wpAny_execs_nil l|brk|cont|ret u=>exact l
    |false=>
     rw[eo WL]at q j;refine wpAny_execs_cons<|cM (L.o t A r p w z y a D n C.unwish (h.same B) q j) λf E l=>?_;cases f with|next=>exact wpAny_execs_nil l|brk|cont|ret u=>exact l
  |_=>
   have i:lC fc ga gb a=.stuck:=by unfold lC;rw[m]
   rw[i]at q;exact q.elim
end
section
variable {X:Cx}{E:XK}{e a b o:V4}{es:List V4}{fe fo:bv}{fa:Ev->aw (ac)}{pos:Pos}
def zQ(x y:D):aw D:=match x with
 |.lst c=>if bp 40 y=VO/\c.all (bp 40)=VO then .ok (.int (c.countP λd=>cX d y:Nat)) else .stuck
 |_=>.stuck
theorem ym{d c:Type}{p:d->Bool}{q:c->Bool}:∀{l:List d}{m:List c},l.length=m.length->(∀(i:Nat) (h:i<l.length) (h':i<m.length),p l[i]=q m[i])->l.countP p=m.countP q
 |[],[],_,_=>rfl
 |a::l,b::m,f,h=>by
  rw[List.countP_cons,List.countP_cons,ym (l:=l) (m:=m) (by simpa using f)<|λi j g=>h (i+1) (by simpa using j)<|by simpa using g];have:=h 0 0#3 0#3;simp only[List.getElem_cons_zero]at this;rw[this]
def Oy(K:Va):V->am->Hp->VK->Prop:=λx f H Q=>∃c y d,Rep K H (.lst c) x/\f=[y]/\Rep K H d y/\bp 40 d=VO/\c.all (bp 40)=VO/\Q (.int (c.countP λx=>cX x d:Nat)) H
def IJ(hu:X.A.units+64<Xu):SO X "list.count" (Oy X.K):=by
 intro π s σ H x T v us Q I Y rv h;obtain⟨g,y,d,hr,rfl,hd,U,G,q⟩:=h;obtain⟨u,rfl,ru⟩:=rv.one;obtain⟨a,T,t,ea,rfl,h1,M,L,h4,C⟩:=bg I hr Y;subst ea;obtain⟨c,al,⟨o,n,e,B,ab,f⟩,hz⟩:=I.list h1;have ei:c=t:=by
  obtain⟨o',N,_,n',O⟩:=h4;rw[e]at N;cases N;rw[f]at O;injection O with d1 _;simpa using ew YI d1
 subst ei;have at_:∀m (l:m<c.length),jt X.K H g d c[m]=cX (g[m]'(by rw[C];exact l)) d:=λm l=>by
  obtain⟨v',k1,k2⟩:=M.get (U7 (by rw[C];exact l:m<g.length));obtain⟨u',J,k4⟩:=L.get k1;rw[U7 l]at J;cases J;exact tH I G (Ww _) k2 k4
 obtain⟨oc,od,r,p⟩:=o;replace B:oc=.type "list":=B;replace f:r=.seq c.toArray n:=f;subst B f;have j:c.toArray.toList.countP (jt X.K H g d)=g.countP λx=>cX x d:=by
  rw[List.toList_toArray];exact ym C.symm λi h h'=>at_ i h
 refine call_meets F.slot_list_count ⟨_,e,rfl⟩ F.entry_list_count (F.args_list_count_2 _ _) (SeqAt.list_countAt a c.toArray n od p u<|jt X.K H g d) ⟨e,λw hw=>gH I hu U hd ru G (λ_ z=>z) M L w (by simpa using hw),.int (c.toArray.toList.countP (jt X.K H g d):Nat),H,I.tok _,⟨_,rfl⟩,by rw[j];exact q⟩
def tI(fo:bv)(fe:bv):bv:=λc=>(fo c).bind λx=>match x with
 |.lst d=>(fe c).bind λy=>zQ (.lst d) y
 |_=>.stuck
def JN(N:X.A.units+64<Xu)(O:DE X E o fo)(T:DE X E e fe)
  (i:Xe o "count" X.env (eval o X.env)=eval o X.env:=by rfl)
  (l:((Wn d<|Vg [e] X.env).all (λx=>!x.1)&&(YK d<|XA [] X.env).all (λx=>x.1.isSome)
  &&decide ([e].length+([]:List Yc).length+(if([]:List Yc).isEmpty then 0 else 1)<30))=VO:=by exact lQ rfl)
  (g:(apos.endLine==d.line)=VO:=by rfl) (n:Vg [e] X.env=(Vd,eval e X.env)::Vg [] X.env:=by exact aM rfl) (f:(Wn d<|Vg [] X.env).any (·.1)=Vd:=by exact bM rfl) :
  DE X E (.Call (.Attribute o "count" apos) [e] [] d) (tI fo fe):=by
 refine⟨bc (AI Yi PySem.F.slot_list_count PySem.F.type_list_count (IJ N) O.o (dH T.o ig n) i l g n f) λσ H Q z9=>?_⟩;obtain⟨J,j,n,G,q⟩:=z9;refine⟨J,j,n,G,?_⟩;unfold tI at q;cases I:fo j with
 |stuck|exn x=>rwa[I]at q
 |ok x=>
  rw[I]at q;intro v H1 B s C;cases x with
  |lst t=>
   replace q:post X.K E H J ((fe j).bind λy=>zQ (.lst t) y) Q:=q;replace q:=q.grow s;refine⟨?_,B,j,s.sub,G.mono s.z,?_⟩
   .obtain⟨p,L,rfl,U,h2⟩:=aA.mp C
    exact .inl ⟨rfl,L,aD.sqL s.sub U⟩
   .cases w:fe j with
    |stuck=>rwa[w]at q
    |exn x=>rwa[w]at q
    |ok y=>
     rw[w]at q;intro u H2 Y m M;replace q:=post.grow (r:=zQ (.lst t) y) q m;unfold zQ at q
     by_cases c:bp 40 y=VO/\t.all (bp 40)=VO
     .simp only[ef c]at q
      exact⟨t,u,y,(C.mono m.z).mono m.sub,rfl,M.mono m.sub,c.1,c.2,bL m.sub q<|ri _⟩
     .simp only[eo c]at q;exact q.elim
  |_=>exact q.elim
end
section
variable {prog:V5}{w:Wx}{A:Wh}{E:U5->Vm->Prop}{h:Vu}{g:Array GenState}{d:Drawn}{t:Nat}{os:OsState}
variable {nm q:Vq}{C N:Vi}{bs bm bmB:List U5}{hdct:Bool}{sn:cr}{sub:List U5}{ab:Bool}{col:Option Bool}{dd:Option Vi}{k0 k1 k2 k3 k5:Option U5}{B newId initId:String}{mN:Vq->Option U5}{rest:List U5}{fI:Vi}{oI:Obj}
def Kx(F:ExcBaseFacts B newId initId bmB)(T:OwnTail h bmB bm)(j:h.get? C=Wp (excClassObj nm q C N bs bm hdct sn sub ab col dd k0 k1 k2 k3 k5 newId))(G:h.Ns N mN)(hi:mN "__init__"=Wp (.ref fI))(s:h.get? fI=Wp oI)(p:oI.cls=.type "function")(c:rest.length<=sizeLine)
  (z:∀h' e,Ze h h' e (.ref C) rest->VC (Vy prog w) A (call (.ref fI) (.ref e::rest)) (λr s'=>r=.none/\Q (.done<|.ret<|.ref e) s') E ⟨h',g,d,t,os⟩):VC (Vy prog w) A (Builtin.«type.__call__» ⟨.ref C::rest,[]⟩) Q E ⟨h,g,d,t,os⟩:=by
 repeat (first|with_reducible refine WY j ?_|with_reducible refine wpAny_madeBy_exc j ?_|wp_step)
 refine codeAny_call_builtin_code (YM _ F.quiet)<|wpAny_check_new_subT F T j<|codeAny_exc_new_subT F T j ?_ c;generalize m:({ cls:=.type "tuple",data:=.seq rest.toArray }:Obj)=n;generalize f:({ cls:=.ref C,data:=.fields #[.ref h.objs.size,.none,.none,.none,.bool Vd,.none] }:Obj)=l;have i:∀b o,h.get? b=Wp o->((h.push n).push l).get? b=Wp o:=λb o H=>Vc l<|Vc n H;have a:((h.push n).push l).get? (h.objs.size+1)=Wp l:=by subst f m;heap_get
 have v:l.cls=.ref C:=by subst f;rfl
 have u:(VG C::bm).contains (.ref C)=VO:=by simp
 show VC _ _ _ _ _ _;unfold isInstance
 repeat (first|(with_reducible refine WY a ?_;try rw[v])|(with_reducible refine wpAny_isSubtype_exc (i _ _ j) ?_;rw[u])|wp_step)
 show VC _ _ (XY (.ref C) _) _ _ _;refine wpAny_typeLookup_tail (i _ _ j) (G.keeps i) (T.keeps i) F.mroIs F.init.lookup ?_;rw[hi];refine WW<|Vb (show VC _ _ (bindSpecial _ _) _ _ _ from ?_);unfold bindSpecial;refine Vb<|wpAny_typeOf (T:="function") ⟨_,i _ _ s,p⟩ ?_;rw[ef 0#1];refine VE (Vb<|Wj (z _ (h.objs.size+1) ⟨i,X1<|saH _,h.objs.size,by rw[f];exact a,X1 (VB _),?_⟩) (λr s' y=>?_) λ_ _ x=>x)
 .subst m;exact Vc _<|Heap.get?_push_at rfl rfl
 .obtain⟨rfl,I⟩:=y
  wp_walk
  exact I
def KA(F:ExcBaseFacts B newId initId bmB)(T:OwnTail h bmB bm)(b:h.get? C=Wp (excClassObj nm q C N bs bm hdct sn sub ab col dd k0 k1 k2 k3 k5 newId))(j:h.Ns N mN)(hi:mN "__init__"=Wp (.ref fI))(f:h.get? fI=Wp oI)(c:oI.cls=.type "function")(a:rest.length<=sizeLine)
  (i:∀h' e,Ze h h' e (.ref C) rest->VC (Vy prog w) (A.under<|.builtin "type.__call__" ⟨.ref C::rest,[]⟩) (call (.ref fI) (.ref e::rest)) (λr s'=>r=.none/\Q (.ref e) s') E ⟨h',g,d,t,os⟩):VC (Vy prog w) A (call (.ref C) rest) Q E ⟨h,g,d,t,os⟩:=by
 have o:=tc_lookup;have n:=tc_bind<|.ref C;have m:(⟨h,g,d,t,os⟩:Vm).TypeIs (.ref C) "type":=⟨_,b,rfl⟩
 refine wpAny_call<|codeAny_of_tree (show VC _ _ (callAny (.ref C) _) _ _ _ from ?_)
 repeat (any_goals (first|assumption|with_reducible refine WY b ?_|wp_step))
 exact⟨rfl,codeAny_call_builtin_at (YM _<|by decide +kernel) entry_typeCall<|wpAny_check_type_call_sub b<|Kx F T b j hi f c a λh' e l=>i h' e l⟩
end
section
variable {M:Model}{A:Wh}{E:U5->Vm->Prop}{env:Wq}
variable {nm q:Vq}{C N:Vi}{bs bm:List U5}{hdct:Bool}{sn:cr}{sub:List U5}{ab:Bool}{col:Option Bool}{dd:Option Vi}{k0 k1 k2 k3 k5:Option U5}{newId:String}
def GG(a:bm.contains (.type "BaseException")=VO)(l:A.handled=Wb)
  (h:VC M A x (λv b=>∃e i t,v=.ref e/\b.heap.get? C=Wp (excClassObj nm q C N bs bm hdct sn sub ab col dd k0 k1 k2 k3 k5 newId)/\b.heap.get? e=Wp ⟨.ref C,i,.fields #[.ref t,.none,.none,.none,.bool Vd,.none],#[]⟩/\E (.ref e) b) E s):VC M A (raiseStmt env (Wp x) Wb) Q E s:=by
 have c:(VG C::bm).contains (.type "BaseException")=VO:=by rw[List.contains_cons,a,Bool.or_true]
 unfold raiseStmt;refine Vb<|Wj h (λv b ⟨e,i,t,j,f,m,n⟩=>?_) λ_ _ x=>x;subst j;obtain⟨p,g,d,o,os⟩:=b
 repeat (first|with_reducible refine WY m ?_|with_reducible refine WY f ?_|(with_reducible refine wpAny_isSubtype_exc f ?_;rw[c])|wp_step)
 exact wpAny_raiseNew_none l n
end
def lp:List U5->Bool
 |.ref _::r=>lp r
 |l=>l==[.type "ValueError",.type "Exception",.type "BaseException",.type "object"]
theorem xP(self:U5):∀{l:List U5},lp l=VO->refuseLoop self "__setattr__" l=pure ()
 |[],e=>by cases e
 |x::r,e=>by
  cases x with|ref c=>rw[refuseLoop_ref];exact xP self (l:=r) (by unfold lp at e;exact e)| _=>unfold lp at e;rw[beq_iff_eq.mp e];exact PySem.F.store_ValueError.passes self
theorem GQ:∀{l:List U5},lp l=VO->l.contains (.type "object")=VO
 |[],e=>by cases e
 |x::r,e=>by
  cases x with|ref c=>rw[List.contains_cons,GQ (l:=r) (by unfold lp at e;exact e),Bool.or_true]| _=>unfold lp at e;rw[beq_iff_eq.mp e];decide
structure Gx (K:Va) (C:Vi) (ks:cr):Prop where
 sa:WH K (.ref C) "__setattr__"=Wp (Wp (.builtin "object.__setattr__"))
 hd:Xq K C=VO
 mr:(W.clsIn K C).any (λcd=>lp cd.mro)=VO
 no:∀f∈ks,dD K C f
section
variable {prog:V5}{w:Wx}{A:Wh}{K:Va}{C x:Vi}{s:Vm}{R:Result->Vm->Prop}
def DB(X:K.In s.heap)(I:ZU s.heap x ox C r)(c:Gx K C ks)(o:name∈ks)
  (h:∀b,VC (Vy prog w) A.in1 (Builtin.ObjectAttr.storeInOwnDict (.ref x) (.ref C) (.str name g) name v b) (λfin s'=>match fin with|.done f=>R (.ok f) s'|.again l=>l.quiet=VO/\Xm (Vy prog w) A l R s') (λe s'=>R (.error e) s') s) :
  Xm (Vy prog w) A (.call (.builtin "object.__setattr__") ⟨[.ref x,.str name g,v],[]⟩) R s:=by
 have a:=PySem.F.store_object;obtain⟨i,j,d⟩:=ZT c.mr;have m:i.mro.isEmpty=Vd:=by cases q:i.mro with|nil=>rw[q]at d;cases d|cons _ _=>rfl
 have sub:Y5 (Vy prog w) s.heap (isInstance (.ref x)<|.type "object") VO:=I.type.andThen (W.looks_mroIn X (by unfold sah;rw[j,Option.bind_some,eo (by rw[m];decide),GQ d]));refine codeAny_call_builtin a.slot.plain a.entry (@W.check_slot (Vy prog w) _ _ s "object.__setattr__" "object" "__setattr__" (.ref x) [.str name g,v] [] _ a.kind a.split sub (a.args (.ref x) (.str name g) v) ?_);have n:Y5 (Vy prog w) s.heap (mroOf<|.ref C) i.mro:=(Zh X j).andThen .now;rw[W.osa_eq,refuse_eq];refine Vb<|Vb<|I.type.here<|Vb<|n.here ?_;rw[xP _ d];refine VE ?_;have p:Y5 (Vy prog w) s.heap (Builtin.ObjectAttr.storeTaker? Wb) Wb:=.now;have L2:Y5 (Vy prog w) s.heap (XY (.ref C) name) Wb:=W.looks_findIn X<|c.no name o;refine Vb<|I.type.here<|Vb<|L2.here<|Vb<|p.here ?_;exact h _
def Kz{fs:Array U5}(X:K.In s.heap)(g:s.heap.get? x=Wp ⟨.ref C,Wb,.fields fs,#[]⟩)(c:Gx K C ks)(t:name∈ks)
  (h:∀h',h'.get? x=Wp ⟨.ref C,Wp 2#s,.fields fs,#[]⟩->h'.Ns1 2#s (λy=>if y=name then Wp v else Wb)->(∀b o,b≠x->s.heap.get? b=Wp o->h'.get? b=Wp o)->Q () { s with heap:=h',toks:=s.toks+2 }) :
  VC (Vy prog w) A (setAttr (.ref x) name v) Q E s:=by
 have J:ZU s.heap x ⟨.ref C,Wb,.fields fs,#[]⟩ C Wb:=⟨g,rfl,rfl,trivial⟩
 refine say X J c.sa<|DB (s:={ s with toks:=s.toks+1 }) X J c t λb=>?_;obtain⟨I,z,p⟩:=ZT c.hd;refine Vb<|VE<|Vb<|Vb<|wpAny_loadPart g<|Vb<|sai (s:={ s with toks:=s.toks+1 }) (Zh X z) ?_;rw[p];have a:(s.heap.push W6).get? x=Wp ⟨.ref C,Wb,.fields fs,#[]⟩:=Vc _ g;have d:x≠2#s:=VM<|Vw g;have m:((s.heap.push W6).update x λo=>{ o with dict:=some 2#s }).get? 2#s=Wp W6:=(saP _ _ _ _ d.symm).trans<|Heap.get?_push_at rfl rfl;have l:((s.heap.push W6).update x λo=>{ o with dict:=some 2#s }).Ns 2#s (λ_=>Wb):=⟨_,#[],_,m,rfl,λe u=>er u 0#3,λ_=>rfl⟩
 have i:((s.heap.push W6).update x λo=>{ o with dict:=some 2#s }).get? x=Wp ⟨.ref C,Wp 2#s,.fields fs,#[]⟩:=W9 _ a rfl;refine Vb<|wpAny_alloc'<|Vb<|wpAny_update' a<|VE ?_;refine Vb<|VE<|Vb<|wpAny_nsSet1 (Heap.Ns1.of_empty l) λh' f r=>?_;obtain⟨oD,G,H,j,n,q⟩:=f.count<|Zx name v Xr.nil;refine Vb (wpAny_lookBehind j (by rw[n];exact pastItsLine_dict<|Vr q (by rw[Vp,W7,sizeLine_eq];omega))<|VE<|h h' ?_ f λb o B e=>?_)
 .exact(r.2 x d).trans i
 .exact(r.2 b<|VM<|Vw e).trans<|(saP _ _ _ _ B).trans<|Vc _ e
def Ky{fs:Array U5}(X:K.In s.heap)(n:s.heap.get? x=Wp ⟨.ref C,Wp d,.fields fs,#[]⟩)(o:s.heap.Ns1 d mA)(q:d≠x)(hw:Xr mA ns)(hsz:ns.length<=sizeLine)(c:Gx K C ks)(r:name∈ks)
  (h:∀h',h'.Ns1 d (λy=>if y=name then Wp v else mA y)->X4 d s.heap h'->Q () { s with heap:=h',toks:=s.toks+2 }):VC (Vy prog w) A (setAttr (.ref x) name v) Q E s:=by
 obtain⟨p,g,B⟩:=qM o;have J:ZU s.heap x ⟨.ref C,Wp d,.fields fs,#[]⟩ C (Wp p):=⟨n,rfl,rfl,g⟩
 refine say X J c.sa<|DB (s:={ s with toks:=s.toks+1 }) X J c r λb=>?_;obtain⟨G,t,l⟩:=ZT c.hd;refine Vb<|VE<|Vb<|Vb<|wpAny_loadPart n<|Vb<|sai (s:={ s with toks:=s.toks+1 }) (Zh X t) ?_;rw[l];refine VE (a:=some d)<|Vb<|VE<|Vb<|wpAny_nsSet1 (s:={ s with toks:=s.toks+1 }) o λh' e f=>?_;obtain⟨oD,u,z,i,j,m⟩:=e.count<|Zx name v hw;exact Vb (wpAny_lookBehind i (by rw[j];exact pastItsLine_dict<|Vr m (by rw[Vp];omega))<|VE<|h _ e f)
end
def n9(a C:Vi)(b:Option Vi)(h:Vu):Prop:=∃t,h.get? a=Wp ⟨.ref C,b,.fields #[.ref t,.none,.none,.none,.bool Vd,.none],#[]⟩
def BU(a:Vi)(fs:List<|Vq×V)(h:Vu):Prop:=∃b,h.Ns1 a b/\(∀f,wJ (fs.lookup f)<|b f)/\Xr b (fs.map (·.1))
def oR{a C:Vi}{d:Option Vi}:∀c b:Vu,n9 a C d c->(∀o,c.get? a=Wp o->b.get? a=Wp o)->n9 a C d b:=λ_ _ ⟨t,e⟩ k=>⟨t,k _ e⟩
def Aj{a:Vi}{fs:List<|Vq×V}:∀c b:Vu,BU a fs c->(∀o,c.get? a=Wp o->b.get? a=Wp o)->BU a fs b:=λ_ _ ⟨m,n,r⟩ k=>⟨m,n.at k,r⟩
def qC{fs:List<|Vq×V}{h:Vu}(x:BU a fs h):∃o,h.get? a=Wp o:=let ⟨_,⟨o,_,_,e,_⟩,_⟩:=x;⟨o,e⟩
def sS{fs:List<|Vq×V}{h:Vu}(c:bw y u)(r:∀f,wJ (fs.lookup f)<|mA f)(b:Xr mA (fs.map (·.1)))(n:h.Ns1 a<|λz=>if z=f then Wp u else mA z):BU a (ie f y fs) h:=by
 refine⟨_,n,λg=>?_,λg d=>?_⟩
 .rw[lJ]
  by_cases q:g=f
  .rw[ef q];simp only[ef q];exact c
  .rw[eo q];simp only[eo q];exact r g
 .by_cases q:g=f
  .rw[q];exact(j6 f y fs).1
  .exact(j6 f y fs).2 g (b g λz=>d (by simp only[eo q];exact z))
section
variable {X:Cx}{o value:V4}{f:Vq}{pos pos':Pos}{ta tv:TE}
noncomputable def UL(K:Va) (ta tv:TE) (f:Vq):TS:=λD c H=>tv c H λy g=>ta c g λx d=>∃a C b l e,x=.ref a/\d a=Wp (.ext<|n9 a C<|Wp b)/\d b=Wp (.ext<|BU b l)/\b≠a/\Gx K C e/\f∈e/\l.length<1000/\D.nx c (upd d b<|.ext<|BU b<|ie f y l)
def UM(K:Va)(ta tv:TE)(f:Vq):TS:=λD c H=>tv c H λy g=>ta c g λx d=>∃a C e,x=.ref a/\d a=Wp (.ext<|n9 a C Wb)/\Gx K C e/\f∈e/\∀b,d b=Wb->D.nx c (upd (upd d a<|.ext<|n9 a C<|Wp b) b<|.ext<|BU b [(f,y)])
def Rk(ha:PE X o ta)(T:PE X value tv)(U:WI value (Wp<|.Attribute o f pos') pos.line X.env=pure Vd):PS X (.Assign [.Attribute o f pos'] value pos) (UL X.K ta tv f):=by
 intro A s j H D I h;refine plainObj_wpAny_Assign_Attribute (cM (T A s j H _ I h) λu L ⟨y,H1,I1,m,q⟩=>cM (ha A L j H1 _ I1 q) λO B z9=>?_) U;obtain⟨x,G,i,M,a,C,d,l,ks,ex,ea,E,v,c,Y,hl,N⟩:=z9;subst ex;obtain rfl:O=VG a:=M;obtain⟨⟨t,Q⟩,_,_⟩:=(show bV X.prog X.w G B.heap a (.ext _) from i.hok a _ ea)
 obtain⟨⟨mA,n,r,g⟩,_,_⟩:=(show bV X.prog X.w G B.heap d (.ext _) from i.hok d _ E)
 refine Ky i.kIn Q n v g (by rw[U8,sizeLine_eq];omega) c Y λh' p J=>⟨j,_,i.write (o:=.ext<|BU d<|ie f y l) (x:=d) (e:=d) (by rw[E];exact WJ) (.inl rfl) (λb q hb z=>(J.2 b hb).trans z) (qC<|sS m r g p) ⟨sS m r g p,qC<|sS m r g p,Aj⟩,N⟩
def Rl(Y:PE X o ta)(Q:PE X value tv)(T:WI value (Wp<|.Attribute o f pos') pos.line X.env=pure Vd):PS X (.Assign [.Attribute o f pos'] value pos) (UM X.K ta tv f):=by
 intro r s l H D I h;refine plainObj_wpAny_Assign_Attribute (cM (Q r s l H _ I h) λu G ⟨y,H1,I1,J,q⟩=>cM (Y r G l H1 _ I1 q) λN d z9=>?_) T;obtain⟨x,j,g,L,a,C,ks,ex,E,c,U,M⟩:=z9;subst ex;obtain rfl:N=VG a:=L;obtain⟨⟨t,B⟩,_,_⟩:=(show bV X.prog X.w j d.heap a (.ext _) from g.hok a _ E)
 have fr:j 2#d=Wb:=g.hok.fresh<|VB _;have m:2#d≠a:=λz=>Xn _<|z▸Vw B;refine Kz g.kIn B c U λh' i O A=>⟨l,_,?_,M 2#d fr⟩
 have p:BU 2#d [(f,y)] h':=sS (fs:=[]) (mA:=λ_=>Wb) J (λ_=>WJ) (λ_ z=>er rfl z) O;have v:Qg (j a):=by rw[E];exact WJ
 have e:(upd j a<|.ext<|n9 a C<|Wp 2#d) 2#d=Wb:=by rw[ay m];exact fr
 exact g.un (Un.ext (Un.write v (.inl rfl) (λb q n z=>A b q n z) ⟨_,i⟩) e<|X1<|VB _)<|fJ.ext (g.hok.write (o':=.ext<|n9 a C<|Wp 2#d) v (.inl rfl) (λb q n z=>A b q n z) ⟨_,i⟩ ⟨⟨t,i⟩,⟨_,i⟩,oR⟩) e p (qC p) Aj
end
def QH(c:db):TA:=λb H Q=>∃a,c.map (λi=>b[i]?)=a.map (λv=>Wp<|Wp v)/\Q a H
structure PV (X:Cx) (es:List V4) (is:db):Prop where
 o:PA X es (QH is)
section
variable {X:Cx}
def Cu:PV X [] []:=⟨λpos c s b H Q I ⟨a,e,h⟩=>by
 cases a with
 |nil=>exact ig pos c s b H Q I h
 |cons v a=>simp at e⟩
def ot(j:X.N[i]?=Wp y)(g:yC X.env.scope y)(h:PV X l f)(hd:1#y:=by decide)(b:3#y:=by decide):PV X (.Name y p::l) (i::f) :=
 ⟨λpos d s c H Q I ⟨a,e,q⟩=>by
  cases a with
  |nil=>simp at e
  |cons v a=>
   simp only[Vf,Y9]at e;exact dH (fW j g hd b) h.o (aM rfl) pos d s c H Q I ⟨v,e.1,a,e.2,q⟩⟩
structure J6 (K:Va) (CE:Vi):Prop where
 rd:W.readsIn K CE (.type "type")=VO
 fc:W.findCls K (.ref CE) (.type "type") "__init__"=Wp (.val (.builtin "ValueError.__init__"))
 sp:YR K (.ref CE) "__getattribute__"=Wp (Wp (.builtin "type.__getattribute__"))
structure MY (K:Va) (C fn:Vi):Prop where
 ex:∃CE nm q N bs hdct sn sub ab col dd k0 k1 k2 k3 k5,K.lookup C=Wp (excClassObj nm q C N bs [.ref CE,.type "ValueError",.type "Exception",.type "BaseException",.type "object"] hdct sn sub ab col dd k0 k1 k2 k3 k5 "ValueError.__new__")/\W.nsOkIn K N=VO/\WC K N "__init__"=Wp (Wp (.ref fn)) /\
  Zt K CE [.type "ValueError",.type "Exception",.type "BaseException",.type "object"] "ValueError.__new__"=VO
def LN{K:Va}{h:Vu}(X:K.In h)(G:h.Ns N a)(e:WC K N n=Wp (Wp v)):a n=Wp v:=by
 obtain⟨o,m,p,b,hd,_,f⟩:=G;unfold WC at e;split at e
 .rename_i c d i l j q
  have:=X _ _ q;rw[b]at this;cases this;cases hd;split at e
  .rename_i r g
   rw[←f];unfold nsFind findBy;rw[←Array.find?_toList,g];simpa using e
  .split at e<;>cases e
 .cases e
structure T9 (h:Vu) (C fn:Vi):Prop where
 ex:∃bm N nm q bs hdct sn sub ab col dd k0 k1 k2 k3 k5 mN,h.get? C=Wp (excClassObj nm q C N bs bm hdct sn sub ab col dd k0 k1 k2 k3 k5 "ValueError.__new__")/\h.Ns N mN/\mN "__init__"=Wp (.ref fn)/\OwnTail h [.type "ValueError",.type "Exception",.type "BaseException",.type "object"] bm
def G2{K:Va}{CE:Vi}{h:Vu}(X:K.In h)(q:Zt K CE [.type "ValueError",.type "Exception",.type "BaseException",.type "object"] "ValueError.__new__"=VO):OwnTail h [.type "ValueError",.type "Exception",.type "BaseException",.type "object"] [.ref CE,.type "ValueError",.type "Exception",.type "BaseException",.type "object"]:=by
 unfold Zt at q;split at q
 .rename_i d e c b
  split at q
  .simp only[Vv,beq_iff_eq,Bool.not_eq_true']at q
   obtain⟨⟨⟨⟨_,_⟩,_⟩,hok⟩,a⟩:=q;exact .own (X _ _ b) (.of_isNs<|Zs X hok) (W.nsMap_none_of_in X hok a) .base
  .cases q
 .cases q
def yK{K:Va}{h:Vu}(X:K.In h)(q:MY K C fn):T9 h C fn:=by
 obtain⟨CE,nm,d,N,bs,a,c,sub,o,b,n,i,g,k2,f,e,j,hok,l,m⟩:=q.ex;exact⟨_,N,nm,d,bs,a,c,sub,o,b,n,i,g,k2,f,e,_,X _ _ j,.of_isNs<|Zs X hok,LN X (.of_isNs<|Zs X hok) l,G2 X m⟩
def UK(K:Va)(t:TA):TE:=λc H Q=>t c H λd b=>∃a C rest fn,d=.ref a::rest/\rest.length<=line/\b a=Wp (.ext<|n9 a C Wb)/\MY K C fn/\Q .non (upd b a<|.ext<|n9 a C Wb)
def Rp{CE:Vi}(b:J6 X.K CE)(hg:Gl X m)(hm:X.mg m=Wp (.ref CE))(ha:PA X (e::l) t)(p:1#m:=by decide)
  (he:Vg (e::l) X.env=(Vd,eval e X.env)::Vg l X.env:=by exact aM rfl)(n:(Wn c<|Vg l X.env).any (·.1)=Vd:=by exact bM rfl)
  (ht:eval (.Call (.Attribute (.Name m B) "__init__" apos) (e::l) [] c) X.env=(do
   let A ←eval (.Name m B) X.env
   standAt apos.atName
   let (f,first) ←Yk [A] (getMethod A "__init__" pl)
   callWith c f first (Wn c<|Vg (e::l) X.env) (YK c<|XA [] X.env)):=by rfl) :
  PE X (.Call (.Attribute (.Name m B) "__init__" apos) (e::l) [] c) (UK X.K t):=by
 intro O s M H Q I h;refine W.methodCall_KW (pl:=pl) (gP I hg hm (W.method_cls I.kIn b.sp<|W.cls_value I.kIn b.rd b.fc rfl ?_) p) ht;have I0:=I.tok<|s.toks+1;have J:=ha c O _ M H _ I0 h;rw[he]at J ⊢;refine sat (by show(Vd||(Wn c<|Vg l X.env).any (·.1))=Vd;rw[n];rfl)<|X2<|cM J λU z ⟨vs,y,v,r,a,C,rest,fn,ev,hl,L,hx,q⟩=>?_;subst ev;obtain⟨_,j,rfl,Y,r'⟩:∃u j,U=u::j/\bw (.ref a) u/\bh rest j:=by cases r with|cons r1 r2=>exact⟨_,_,rfl,r1,r2⟩
 obtain rfl:_=VG a:=Y;obtain⟨bm,N,nm,qn,bs,G,sn,sub,ab,an,dd,k0,k1,k2,k3,k5,mN,hC,hn,hi,T⟩:=(yK v.kIn hx).ex;obtain⟨⟨t0,i⟩,_,_⟩:=(show bV X.prog X.w y z.heap a (.ext _) from v.hok a _ L)
 have F:=WK;have hz:j.length<=sizeLine:=by rw[←r'.length];exact dW hl
 obtain⟨E,g,d,tk,os⟩:=z;refine wpAny_call (codeAny_call_builtin F.init.plain F.initEntry<|wpAny_check_init_subT F T hC i rfl ?_)
 wp_walk
 have mu:Qg (y a):=by rw[L];exact WJ
 have al:a≠E.objs.size:=VM<|Vw i;refine⟨.non,upd y a<|.ext<|n9 a C Wb,v.write (o:=.ext<|n9 a C Wb) (x:=a) (e:=a) mu (.inl rfl) (λb u hb e=>(W5 _ _<|V6 hb).trans<|Vc _ e) ⟨_,W9 _ (Vc _ i) rfl⟩ ⟨⟨E.objs.size,?_⟩,⟨_,W9 _ (Vc _ i) rfl⟩,oR⟩,rfl,q⟩;rw[W9 _ (Vc _ i) rfl];rfl
end
section
variable {X:Cx}
noncomputable def UB(K:Va) (fs:cr) (g:db):TS:=λD c H=>∃a C b l e d,c[0]?=Wp (Wp<|V.ref a)/\H a=Wp (.ext<|n9 a C<|Wp b)/\H b=Wp (.ext<|BU b l)/\b≠a/\Gx K C e/\(∀f∈fs,f∈e)/\l.length+fs.length<1000/\fs.length=d.length /\
 g.map (λi=>c[i]?)=d.map (λv=>Wp<|Wp v)/\D.nx c (upd H b<|.ext<|BU b<|putAll fs d l)
structure XR (X:Cx) (sts:List Xi) (fs:cr) (is:db):Prop where
 o:z8 X sts (UB X.K fs is)
def B6:XR X [] [] []:=⟨iY y9 λD e H ⟨a,C,r,l,f,b,p,o,d,n,m,j,i,c,g,q⟩=>by
 cases b with
 |nil=>unfold putAll at q;rwa[tV d]at q
 |cons v b=>simp at c⟩
def Kw{fs:cr}(O:X.N[i]?=Wp y)(m:X.N[0]?=Wp x)(J:yC X.env.scope y)(e:yC X.env.scope x)(h:XR X d fs I)
  (hd:1#y:=by decide)(j:3#y:=by decide)(hd0:1#x:=by decide)(b:3#x:=by decide)
  (L:WI (.Name y B) (Wp<|.Attribute (.Name x G) f E) pos.line X.env=pure Vd:=by rfl):XR X (.Assign [.Attribute (.Name x G) f E] (.Name y B) pos::d) (f::fs) (i::I):=by
 refine⟨iY (lE (Rk (fW m e hd0 b) (fW O J hd j) L) h.o) λD U H z9=>?_⟩;obtain⟨a,C,A,l,r,c,z,w,T,p,u,t,Q,s,n,q⟩:=z9;cases c with
 |nil=>simp at s
 |cons v c=>
  simp only[Vf,Y9]at n;simp only[Vp]at Q s;refine⟨v,n.1,.ref a,z,a,C,A,l,r,rfl,w,T,p,u,t f Ve,by omega,a,C,A,_,r,c,z,?_,aC,p,u,λg M=>t g<|U9 _ M,?_,by omega,n.2,?_⟩
  .rw[ay p.symm];exact w
  .have:=um (f:=f) (v:=v) (l:=l);omega
  .rw[iO];exact q
noncomputable def UC(K:Va) (ks:cr) (e:db):TS:=λD c H=>∃a C fn d,c[0]?=Wp (Wp<|V.ref a)/\H a=Wp (.ext<|n9 a C Wb)/\Gx K C ks/\MY K C fn/\ks.length=d.length/\ks.length<=60 /\
 e.map (λi=>c[i]?)=d.map (λv=>Wp<|Wp v)/\∀b,H b=Wb->D.nx c (upd (upd H a<|.ext<|n9 a C<|Wp b) b<|.ext<|BU b<|putAll ks d [])
structure XB (X:Cx) (sts:List Xi) (ks:cr) (is:db):Prop where
 o:z8 X sts (UC X.K ks is)
def GJ{fs:cr}{CE:Vi}(b:J6 X.K CE)(M:Gl X m)(hm:X.mg m=Wp (.ref CE))(J:PV X u (i::G))(hN:X.N[i]?=Wp y)(t:X.N[0]?=Wp x)(hv:yC X.env.scope y)(r:yC X.env.scope x)(h:XR X B fs G)
  (hd:1#y:=by decide)(Q:3#y:=by decide)(hd0:1#x:=by decide)(e:3#x:=by decide)(O:1#m:=by decide)
  (hs:WI (.Name y p3) (Wp<|.Attribute (.Name x p1) f p2) pos.line X.env=pure Vd:=by rfl)(I:WI (.Call (.Attribute (.Name m E) "__init__" apos) (.Name x d::u) [] c) Wb n.line X.env=pure Vd:=by rfl)(L:(Wn c<|Vg u X.env).any (·.1)=Vd:=by exact bM rfl)
  (ht:eval (.Call (.Attribute (.Name m E) "__init__" apos) (.Name x d::u) [] c) X.env=(do
   let ov ←eval (.Name m E) X.env
   standAt apos.atName
   let (f,first) ←Yk [ov] (getMethod ov "__init__" pl)
   callWith c f first (Wn c<|Vg (.Name x d::u) X.env) (YK c<|XA [] X.env)):=by rfl) :
  XB X (.Expr (.Call (.Attribute (.Name m E) "__init__" apos) (.Name x d::u) [] c) n::.Assign [.Attribute (.Name x p1) f p2] (.Name y p3) pos::B) (f::fs) (i::G):=by
 refine⟨iY (lE (za (Rp b M hm (ot (p:=d) t r J hd0 e).o O (aM rfl) L ht) I) (lE (Rl (fW t r hd0 e) (fW hN hv hd Q) hs) h.o)) λD Y H ⟨a,C,fn,j,T,A,h3,h4,h5,h6,w,q⟩=>?_⟩;refine⟨.ref a::j,(show Y[0]?::(i::G).map (λi=>Y[i]?)=Wp (Wp<|V.ref a)::j.map (λv=>Wp<|Wp v) by rw[T,w]),a,C,j,fn,rfl,?_,A,h4,?_⟩
 .have:j.length<=60:=by omega
  exact Vr this 0#1
 .cases j with
  |nil=>simp at h5
  |cons v j=>
   simp only[Vf,Y9]at w;simp only[Vp]at h5 h6;rw[tV A];refine⟨v,w.1,.ref a,T,a,C,f::fs,rfl,A,h3,Ve,λU l=>?_⟩;have s:U≠a:=λz=>by subst z;rw[A]at l;cases l
   refine⟨a,C,U,[(f,v)],f::fs,j,T,?_,aC,s,h3,λg M=>U9 _ M,?_,by omega,w.2,?_⟩
   .rw[ay s.symm,aC]
   .simp only[Vp,W7];omega
   .rw[iO]
    have:=q U l;unfold putAll at this;exact this
end
noncomputable def Au(K:Va) (ks:cr):Sp:=λc H Q _=>∃a C fn args,c=.ref a::args/\args.length=ks.length/\H a=Wp (.ext<|n9 a C Wb)/\Gx K C ks/\MY K C fn/\∀b,H b=Wb->Q .non (upd (upd H a<|.ext<|n9 a C<|Wp b) b<|.ext<|BU b<|putAll ks args [])
def Jq{K:Va}{st:Xi}{ps:cr}(F:B1 K x qual st f t)(S:dy ps ps<|defScope st)(e:ps.length=ks.length+1)(p:ks.length<=60)
  (c:∀(d:U5) (A:Wh) (outer:List Wq) (s0:Vm) (H:Hp) (E:XK),XB (cP CX0 P w K m base ps qual (defScope st) f d A outer s0 H E).nox (defBody st) ks ((Ws ks.length).map (· + 1))):ft P w K m base CX0 1 f t ps (Au K ks):=by
 refine F.ok S (λl H Q E h=>?_) λd A outer s0 H l Q E u h=>?_
 .obtain⟨a,C,fn,args,rfl,g,_⟩:=h
  simp[g,e]
 .obtain⟨a,C,fn,args,rfl,g,r,s,n,q⟩:=h
  refine⟨_,(c d A outer s0 H E).o,a,C,fn,args,?_,r,s,n,g.symm,p,?_,q⟩
  .unfold L2.start;simp
  .unfold L2.start
   apply Xt;intro i;simp only[Vh,Wk]
   by_cases j:i<ks.length
   .have b:i<args.length:=by omega
    simp[j,b,VA,VZ]
   .have b:¬i<args.length:=by omega
    simp[j,b]
section
variable {prog:V5}{w:Wx}{A:Wh}{E:U5->Vm->Prop}{s:Vm}{env:Wq}
variable {nm q:Vq}{C N:Vi}{bs bm bmB:List U5}{hdct:Bool}{sn:cr}{sub:List U5}{ab:Bool}{col:Option Bool}{dd:Option Vi}{k0 k1 k2 k3 k5:Option U5}{B newId initId:String}{mN:Vq->Option U5}{fI:Vi}{oI:Obj}
def Ai(F:ExcBaseFacts B newId initId bmB)(l:bm.contains (.type "BaseException")=VO)(M:A.handled=Wb)(c:(Wn j<|Vg args env).any (·.1)=Vd)(hi:mN "__init__"=Wp (.ref fI))
  (h:VC (Vy prog w) A (eval (.Name x H) env) (λf y=>f=.ref C/\VC (Vy prog w) A (evalArgs (.ref C) VO (Wn j<|Vg args env) []) (λa i=>a.kw=[]/\a.pos.length<=sizeLine/\i.heap.get? C=Wp (excClassObj nm q C N bs bm hdct sn sub ab col dd k0 k1 k2 k3 k5 newId)/\i.heap.Ns N mN/\OwnTail i.heap bmB bm/\i.heap.get? fI=Wp oI/\oI.cls=.type "function" /\
    ∀h' e,Ze i.heap h' e (.ref C) a.pos->VC (Vy prog w) (A.under<|.builtin "type.__call__" ⟨.ref C::a.pos,[]⟩) (call (.ref fI) (.ref e::a.pos)) (λr s'=>r=.none/\s'.heap.get? C=Wp (excClassObj nm q C N bs bm hdct sn sub ab col dd k0 k1 k2 k3 k5 newId)/\(∃p t,s'.heap.get? e=Wp ⟨.ref C,p,.fields #[.ref t,.none,.none,.none,.bool Vd,.none],#[]⟩)/\E (.ref e) s') E { i with heap:=h' }) E y) E s) :
  VC (Vy prog w) A (exec (.Raise (Wp<|.Call (.Name x H) args [] j) Wb pos) env) Q E s:=by
 rw[arm_exec_Raise];refine Vb<|wpAny_standAt<|GG (C:=C) (nm:=nm) (q:=q) (N:=N) (bs:=bs) (bm:=bm) (hdct:=hdct) (sn:=sn) (sub:=sub) (ab:=ab) (col:=col) (dd:=dd) (k0:=k0) (k1:=k1) (k2:=k2) (k3:=k3) (k5:=k5) (newId:=newId) l M<|Vb<|Wj (wpAny_Call_ofName (Wj h (λf y b=>?_) λ_ _ x=>x)) (λv sk Y=>Vb (wpAny_standAt (VE Y))) λ_ _ x=>x;obtain⟨rfl,b⟩:=b;unfold callWith;refine Vb<|WW<|Wj b (λ⟨apos,u⟩ i ⟨m,hlen,G,J,T,O,n,hU⟩=>Vb (wpAny_standAt ?_)) λ_ _ x=>x;obtain rfl:u=[]:=m;obtain⟨hp,g,d,tk,os⟩:=i;simp only[c];refine Vb<|wpAny_keeperOf_exc G<|Vb<|KA F T G J hi O n hlen λh' e L=>Wj (hU h' e L) (λr s' I=>?_) λ_ _ z=>z;obtain⟨rfl,o,⟨p,t,U⟩,hE⟩:=I;exact⟨rfl,Vb<|WW<|wpAny_point<|VE ⟨e,p,t,rfl,o,U,hE⟩⟩
end
structure qt (K:Va) (x:Vq) (C:Vi):Prop where
 i:kr K x C
 cls:WH K (.ref C) "__class__"=Wp (Wp (.builtin "object.__class__"))
 ga:WH K (.ref C) "__getattribute__"=Wp (Wp (.builtin "BaseException.__getattribute__"))
 gt:WH K (.ref C) "__getattr__"=Wp Wb
 t1:Xf K (.ref C) (.type "NoneType")=Wp Vd
 t2:Xf K (.ref C) (.type "bool")=Wp Vd
 t3:Xf K (.ref C) (.type "int")=Wp Vd
 t4:Xf K (.ref C) (.type "str")=Wp Vd
 t5:Xf K (.ref C) (.type "tuple")=Wp Vd
 t6:Xf K (.ref C) (.type "list")=Wp Vd
 t7:Xf K (.ref C) (.type "dict")=Wp Vd
 ve:Xf K (.ref C) (.type "ValueError")=Wp VO
 self:Xf K (.ref C) (.ref C)=Wp VO
def qt.xc{K:Va}(Z:qt K x C):XC K x C :=
 ⟨Z.i.ns,⟨Z.cls,Z.ga,Z.gt,Z.i.ob,Z.i.be⟩,λT a=>by
  refine zu (lM T a) ?_;simp only[gM,Vl,Wu,ey]at a;rcases a with rfl|rfl|rfl|rfl|rfl|rfl|rfl
  all_goals first|exact Z.t1|exact Z.t2|exact Z.t3|exact Z.t4|exact Z.t5|exact Z.t6|exact Z.t7⟩
def NS{K:Va}(z:MY K C fn)(b:WH K (.ref C) "__setattr__"=Wp (Wp<|.builtin "object.__setattr__"))(hd:Xq K C=VO)(no:∀f∈ks,dD K C f):Gx K C ks:=by
 obtain⟨CE,nm,g,N,bs,a,e,sub,o,d,n,m,l,k2,j,i,c,_⟩:=z.ex;refine⟨b,hd,?_,no⟩;unfold W.clsIn;rw[c];rfl
def kC(x:Vq)(n:Nat)(b:Ev->aw (ac)):ci:=λa=>(b (fQ a)).bind λc=>if c.length=n then .exn ⟨x,[]⟩ else .stuck
section
variable {P:V5}{w:Wx}{K:Va}{mg:Vq->Option U5}{base:Vu}{N:cr}{qual:Vq}{scope:Yt}{f:Vi}{cd:U5}{A:Wh}{outer:List Wq}{s0:Vm}{H0:Hp}{E:XK}{He η:Hp}
def A6{h:Vu}(ok:fJ P w (upd (upd H e j) g i) h)(n:H e=Wb)(hd:H g=Wb)(m:∀b,j≠.own b)(l:∀b,i≠.own b)(m1:∀b,j≠.tup b)(m2:∀b,i≠.tup b)(r:∀o,j≠.tbl o:=by intro _ z;cases z)(p:∀o,i≠.tbl o:=by intro _ z;cases z):fJ P w H h:=λa o q=>by
 have t:a≠e:=λz=>by subst z;rw[n]at q;cases q
 have s:a≠g:=λz=>by subst z;rw[hd]at q;cases q
 refine(ok a o (by rw[ay s,ay t];exact q)).stay (λb u _ z=>z) (λb z=>?_) (λb xs z=>?_) λb o z=>?_
 .by_cases c:b=g
  .subst c;rw[aC]at z;exact er (V8 z)<|l _
  .rw[ay c]at z
   by_cases d:b=e
   .subst d;rw[aC]at z;exact er (V8 z)<|m _
   .rwa[ay d]at z
 .by_cases c:b=g
  .subst c;rw[aC]at z;exact er (V8 z)<|m2 _
  .rw[ay c]at z
   by_cases d:b=e
   .subst d;rw[aC]at z;exact er (V8 z)<|m1 _
   .rwa[ay d]at z
 .by_cases c:b=g
  .subst c;rw[aC]at z;exact er (V8 z)<|p _
  .rw[ay c]at z
   by_cases d:b=e
   .subst d;rw[aC]at z;exact er (V8 z)<|r _
   .rwa[ay d]at z
def yD{fs:List Vi}{h a:Vu}(u:Un fs [] H b h a):Un fs [] H H h a:=⟨u.keep,u.slot,λ_ _ _ n _=>n,u.there,λ_ _ q=>q,λ_ _ _ q=>q,λ_ ps q=>⟨#[],by rw[q];simp⟩⟩
def qS{k:Nat}{ps ks:cr}(xc:XC K x C)(z:MY K C fn)(st:Gx K C ks)(b0:W.isFn K (.ref fn)=VO)(F:ft P w K mg base CX0 k fn fd ps<|Au K ks)(hb:gw K fd ps [])(b8:ks.length<=60)(hr:cW (k+1) (cP (fR P w) P w K mg base N qual scope f cd A outer s0 H0 E).A)(hm:mg x=Wp (.ref C))(hh:A.handled=Wb)
  (hg:Gl (cP (fR P w) P w K mg base N qual scope f cd A outer s0 H0 E) x)(ha:DA (cP (fR P w) P w K mg base N qual scope f cd A outer s0 H0 E) E (e::es) fa)
  (b2:1#x:=by decide)(he:Vg (e::es) (cP (fR P w) P w K mg base N qual scope f cd A outer s0 H0 E).env=(Vd,eval e (cP (fR P w) P w K mg base N qual scope f cd A outer s0 H0 E).env)::Vg es (cP (fR P w) P w K mg base N qual scope f cd A outer s0 H0 E).env:=by exact aM rfl)
  (be:(Wn B<|Vg es (cP (fR P w) P w K mg base N qual scope f cd A outer s0 H0 E).env).any (·.1)=Vd:=by exact bM rfl) :
  DS (cP (fR P w) P w K mg base N qual scope f cd A outer s0 H0 E) E He η (.Raise (Wp<|.Call (.Name x np) (e::es) [] B) Wb pos) (kC x ks.length fa):=by
 refine⟨?_⟩;intro π s σ H D I ⟨Ha,ρ,O,q⟩;obtain⟨bm,Nn,nm,qn,bs,U,sn,sub,ab,a9,dd,k0,k1,k2,k3,k5,mN,hC,hN,hi,T⟩:=(yK I.ok.mod.kin z).ex;obtain⟨oI,bq,bi⟩:∃oI,base.get? fn=Wp oI/\oI.cls=.type "function":=by
  have:=beq_iff_eq.mp b0;obtain⟨o,ho,hc⟩:=Yn.mp this;exact⟨o,I.ok.mod.kin _ _ ho,hc⟩
 refine Ai (C:=C) (nm:=nm) (q:=qn) (N:=Nn) (bs:=bs) (bm:=bm) (hdct:=U) (sn:=sn) (sub:=sub) (ab:=ab) (col:=a9) (dd:=dd) (k0:=k0) (k1:=k1) (k2:=k2) (k3:=k3) (k5:=k5)
  WK (mN:=mN) (oI:=oI) (T.hasType WK.hasBase) hh (by rw[he];show(Vd||(Wn B<|Vg es (cP (fR P w) P w K mg base N qual scope f cd A outer s0 H0 E).env).any (·.1))=Vd;rw[be];rfl) hi (gP I hg hm ⟨rfl,?_⟩ b2)
 have hq:ou K E H (frz He Ha H) (fa<|fQ ρ) (λY i=>Y.length=ks.length/\E (.ref C) Wb i):=by
  unfold kC at q;cases e1:fa (fQ ρ) with
  |stuck=>rwa[e1]at q|exn z=>rw[e1]at q;exact λC ox H' b6 g ex=>q C ox H' b6 (O.frz_grow.trans g) ex
  |ok ds=>
   rw[e1]at q;intro Y i b7 g rp;have q:bX K E He η Ha (if ds.length=ks.length then aw.exn ⟨x,[]⟩ else .stuck) D:=q
   by_cases hl:ds.length=ks.length
   .rw[ef hl]at q
    exact⟨by rw[←rp.length];exact hl,q (.ref C) Wb i b7 (O.frz_grow.trans g) ⟨⟨C,rfl,xc⟩,rfl⟩⟩
   .rw[eo hl]at q;exact q.elim
 have h1:=ha.o B π s σ H _ I ⟨frz He Ha H,fQ ρ,O.frz_le,O.looks,hq⟩;rw[he]at h1 ⊢;refine X2<|Wj h1 (λQ s2 h2=>?_) λ_ _ y=>y;obtain⟨Y,i,L,rv,hl,hE⟩:=h2;have hz:Q.length<=sizeLine:=by rw[←rv.length,hl,sizeLine_eq];omega
 refine⟨rfl,hz,L.bk _ _ hC,hN.keeps L.bk,T.keeps L.bk,L.bk _ _ bq,bi,λh' d hx=>?_⟩;have hn:i d=Wb:=by
  cases q:i d with|none=>rfl|some o=>obtain⟨u,hu⟩:=bV.there<|L.hok d o q;rw[hx.new]at hu;cases hu
 obtain⟨t,ht,_,_⟩:=hx.there;have bb:n9 d C Wb h':=⟨t,ht⟩
 have un1:Un (gW (cP (fR P w) P w K mg base N qual scope f cd A outer s0 H0 E).stack) [] i (upd i d<|.ext<|n9 d C Wb) s2.heap h':=Un.ext (Un.kept hx.keeps) hn hx.new;have I2:Inv (cP (fR P w) P w K mg base N qual scope f cd A outer s0 H0 E) π σ (upd i d<|.ext<|n9 d C Wb) { s2 with heap:=h' } :=
  L.call' (ch:=[]) rfl un1 (fJ.ext (L.hok.kept hx.keeps) hn bb ⟨_,ht⟩ oR) L.bare (λ_ z=>nomatch z)
 have as:bh (V.ref d::Y) (VG d::Q):=.cons rfl rv;have a5:Au K ks (V.ref d::Y) (upd i d<|.ext<|n9 d C Wb) (λv H2=>v=.non/\∃J,i J=Wb/\J≠d/\H2=upd (upd (upd i d<|.ext<|n9 d C Wb) d<|.ext<|n9 d C<|Wp J) J (.ext<|BU J<|putAll ks Y [])) E :=
  ⟨d,C,fn,Y,rfl,hl,aC,st,z,λJ j=>by
   have c:J≠d:=λc=>by rw[c,aC]at j;cases j
   rw[ay c]at j;exact⟨rfl,J,j,c,rfl⟩⟩
 have bt:(VG d::Q).length=ps.length:=by rw[←as.length];exact F.len _ _ _ _ a5
 have a8:=hb { s2 with heap:=h' } (VG d::Q) I2.kIn (by simpa using bt);rw[We]at a8;refine wpAny_call<|codeAny_mono (F.run _ _ { s2 with heap:=h' } _ ⟨VG d::Q,[]⟩ (VG d::Q) _ _ E (hr.make C Q []) (I2.env0.make C Q []) a8 as a5) λr M an=>?_;cases r with
 |error e=>exact V0 an
 |ok fl=>
  cases fl with
  |next|brk|cont=>exact V0 an
  |ret u=>
   obtain⟨v,H2,a2,G,ap,p,a1,rfl,J,j,a7,rfl⟩:=an;obtain rfl:u=WN:=a1;rw[iO]at p ap;have al:=yD<|un1.trans ap;have n:fJ P w i M.heap:=A6 p hn j (λ_ z=>by cases z) (λ_ z=>by cases z) (λ_ z=>by cases z) (λ_ z=>by cases z);obtain⟨⟨t3,a3⟩,_,_⟩:=(show bV P w _ M.heap d (.ext<|n9 d C<|Wp J) from p d _<|by rw[ay a7.symm,aC])
   have I3:=L.call' (ch:=[]) a2 al n G<|λ_ z=>nomatch z;refine⟨rfl,I3.bk _ _ hC,⟨_,t3,a3⟩,?_⟩;have bx:=zD (l:=envOfC qual scope 2#s0 f cd::outer);have a6:M.heap.FunFrames (Yg M.heap (d::gW (envOfC qual scope 2#s0 f cd::outer))) (envOfC qual scope 2#s0 f cd::outer):=ZF I3.stack λenv he a hf=>U9 _<|bx env he a hf;have a4:(Yg M.heap (d::gW (envOfC qual scope 2#s0 f cd::outer))).StaysIn M.heap:=λb o q=>YC _ q;have b1:(Yg M.heap (d::gW (envOfC qual scope 2#s0 f cd::outer))).get? d=Wb:=ZQ _<|.head _;refine nK (a0:=.ref t3) I3.ok.frames a6 rfl a3 a4 b1 rfl rfl rfl (λ_=>rfl) λh4 b4 ba b5=>?_;refine ED rfl L (s1:=M) (H1:=i) a2 G al n hn a4 a6 (λb hb m=>?_) b4 ba ⟨Wb,⟨_,b5,.inl rfl⟩,hE⟩;have b3:b≠d:=λc=>by
    subst c;rcases m with m|⟨o,m⟩
    .exact m hn
    .rw[hx.new]at m;cases m
   have bd:∃o,M.heap.get? b=Wp o:=by
    rcases m with m|⟨o,m⟩
    .cases q:i b with
     |none=>exact er q m
     |some o=>exact bV.there<|n b o q
    .exact al.there b o m 0#3
   obtain⟨o,q⟩:=bd;exact⟨o,Zi _ q<|Zq b3 hb⟩
end
def Nw(e:saf):Bool:=match e.key with
 |.str _ _=>VO
 |_=>Vd
def NU{K:Va}{C CE fn N:Vi}{nm q:Vq}{bs sub:List U5}{k0 k1 k2 k3 k5:Option U5}{st:Array<|Option U5}
  (d:K.lookup C=Wp (excClassObj nm q C N bs [.ref CE,.type "ValueError",.type "Exception",.type "BaseException",.type "object"] hdct sn sub ab col dd k0 k1 k2 k3 k5 "ValueError.__new__"))(c:K.lookup N=Wp ⟨i,dn,.dict f g,st⟩)(a:f.toList.all Nw=VO)(b:WC K N "__init__"=Wp (Wp<|.ref fn))
  (e:Zt K CE [.type "ValueError",.type "Exception",.type "BaseException",.type "object"] "ValueError.__new__"=VO):MY K C fn:=by
 refine⟨CE,nm,q,N,bs,hdct,sn,sub,ab,col,dd,k0,k1,k2,k3,k5,d,?_,b,e⟩;unfold W.nsOkIn;rw[c];rwa[Array.all_toList]at a
theorem Bd{b c:Type}{f g:b->Option c}:∀{l:List b},(∀x∈l,f x=g x)->l.filterMap f=l.filterMap g
 |[],_=>rfl
 |a::l,h=>by
  rw[Wd,Wd,h a Ve,Bd λx d=>h x<|U9 _ d]
def HZ(its:List U5):slicePick its.toArray Wb Wb (Wp (-1))=its.reverse.toArray:=by
 have f:(sliceBounds Wb Wb (Wp (-1)) its.toArray.size)=((its.length:Int)-1,-1,-1):=by
  unfold sliceBounds;simp
 unfold slicePick;rw[f]
 congr 1
 unfold sliceRange;simp only[show ¬((-1:Int) > 0) by decide,eH];have e:((if(its.length:Int)-1 > -1 then((its.length:Int)-1 - -1 - -1-1) / (- -1) else 0)).toNat=its.length:=by
  rw[show(- -1:Int)=1 from rfl,Int.ediv_one];split<;>omega
 rw[e];rw[YL];have b:∀k∈Ws its.length,((λx=>its.toArray[x]?)∘λ(k:Nat)=>((its.length:Int)-1 + -1*(k:Int)).toNat) k=its.reverse[k]?:=λk c=>by
  have c:=Xy.mp c;show its.toArray[((its.length:Int)-1 + -1*(k:Int)).toNat]?=_;rw[List.getElem?_reverse c,show((its.length:Int)-1 + -1*(k:Int)).toNat=its.length-1-k by omega];simp
 rw[Bd b];have g:(Ws its.length).filterMap (λk=>its.reverse[k]?)=its.reverse:=by
  have d:=Zf (as:=its);generalize its.reverse=r at d ⊢;rw[←d];clear d b e f
  induction r with
  |nil=>rfl
  |cons a r i=>
   rw[Vp,Y6,Wd];simp only[Wz,YL]
   congr 1
 exact g
def PQ(x:D):aw D:=match x with
 |.lst a=>.ok<|.lst a.reverse
 |_=>.stuck
theorem Reps.rev{K:Va}:∀{ds:ac}{vs:am},Reps K H ds vs->Reps K H ds.reverse vs.reverse
 |[],vs,h=>by rw[Reps.nil_iff.mp h];exact Reps.nil
 |d::ds,vs,h=>by
  obtain⟨v,r,rfl,b,a⟩:=az.mp h;rw[YS,YS];exact(Reps.rev a).app<|Reps.cons b Reps.nil
theorem bh.rev:∀{vs:am}{a:List U5},bh vs a->bh vs.reverse a.reverse
 |_,_,.nil=>.nil
 |_,_,.cons h t=>by rw[YS,YS];exact(bh.rev t).append<|.cons h .nil
section
variable {X:Cx}{E:XK}{e a st:V4}{f:bv}{te:TE}{pos p2:Pos}
def S5(K:Va)(te:TE):TE:=λc H Q=>te c H λx b=>∃a xs,x=.ref a/\fm K b a xs/\∀p,b p=Wb->Q (.ref p) (upd b p<|.lst xs.reverse)
def OL(M:PE X e te)(i:∀(g:List<|Vi×Obj) (s:Vm) (d:L2.St) (H:Hp) (Q:VK),Inv X g d H s->Q (.int (-1)) H->VC 4#X X.A (eval st X.env) (EP X g d Q) X.xe s):PE X (.Subscript e (.Slice Wb Wb (Wp st) p2) pos) (S5 X.K te):=by
 intro g s d H Q I h;refine Subscript_<|cM (M g s d H _ I h) λv y ⟨x,n,Y,z,a,xs,N,J,q⟩=>?_;subst N;cases z;refine wpAny_Slice<|wpAny_evalPart_none<|wpAny_evalPart_none ?_;show VC _ _ (eval st X.env) _ _ _;refine cM (i g y d n (λv H2=>v=.int (-1)/\H2=n) Y ⟨rfl,rfl⟩) λvs c ⟨u,H3,U,B,O,T⟩=>?_;subst O T;obtain⟨t,rfl⟩:=B;have j:Inv X g d H3 { c with heap:=c.heap.push { cls:=.type "slice",data:=.fields #[.none,.none,.int (-1) t] } }:=U.kept (t':=c.toks) λb ob q=>Vc _ q;obtain⟨G,r,m,l⟩:=j.list J;have L:VC 4#X X.A (getItem (.ref a)<|.ref 2#c) (EP X g d Q) X.xe { c with heap:=c.heap.push { cls:=.type "slice",data:=.fields #[.none,.none,.int (-1) t] } }:=by
  refine wpAny_getItem_list_slice m.isList (Heap.IsSliceOf.new ..) .none .none (.int (-1) t) 0#3 ?_ (by rw[Vx,←r.length];exact l);rw[HZ];refine⟨.ref _,_,j.laid (t':=c.toks) (o:=.lst xs.reverse) (λb ob q=>Vc _ q) (VB _) ?_,rfl,q _<|j.hok.fresh<|VB _⟩;exact⟨by rw[Zf];exact l,_,0,bh.rev r,V1 _ rfl⟩
 exact tail_any (ops:=[.ref a,.ref 2#c]) m.isList.typeIs slot_list_getitem.lookup L (by with_unfolding_all rfl)
def PN{k:Nat}(C:DE X E a f):DE X E (.Subscript a (.Slice Wb Wb (Wp<|.UnaryOp .USub (.Constant (.int 1) k y) w) p2) pos) (aL f PQ):=by
 refine⟨bc (OL C.o λr s c H Q I q=>Nu (pos:=w) GR (Ii (i:=1) (j:=k) (pos:=y)) r s c H Q I ⟨1,rfl,q⟩) λc H Q z9=>?_⟩;obtain⟨L,g,A,B,q⟩:=z9;refine⟨L,g,A,B,?_⟩;unfold aL at q;cases m:f g with
 |stuck|exn x=>rwa[m]at q
 |ok d=>
  rw[m]at q;intro v O M b u;cases d with
  |lst N=>
   obtain⟨p,t,rfl,J,G⟩:=aA.mp u;exact⟨p,t,rfl,aD.sqL b.sub J,λn l=>q _ _ _ (b.trans<|aR b.sub l)<|aA.mpr ⟨n,_,rfl,fm.of aC,(Reps.rev G).mono (aR b.sub l).z⟩⟩
  |_=>exact q.elim
end
def Mw(f:bv)(lo hi:Ev->aw (Option Int)):bv:=λa=>(f a).bind λx=>(lo a).bind λl=>(hi a).bind λh=>match x with
 |.lst b=>.ok<|.lst<|cE b l h
 |_=>.stuck
section
variable {X:Cx}{E:XK}{a:V4}{f:bv}{pos p2:Pos}
def JI{lo hi:Option V4}(ha:DE X E a f)(hl:DO X E lo M)(hh:DO X E hi N):DF X E (.Subscript a (.Slice lo hi Wb p2) pos) (Mw f M N):=by
 refine⟨bc (AH DR ha.o hl.o hh.o) λσ H Q z9=>?_⟩;obtain⟨Ha,d,Y,n,q⟩:=z9;refine⟨Ha,d,Y,n,?_⟩;unfold Mw at q;cases O:f d with
 |stuck|exn x=>rwa[O]at q
 |ok x=>
  rw[O]at q;intro v H1 I e U;refine⟨I,d,e.sub,n.mono e.z,?_⟩;simp only[aw.bind]at q;cases B:M d with
  |stuck=>rwa[B]at q|exn x=>rw[B]at q;exact λC ox J c w y=>q C ox J c (e.trans w) y
  |ok l=>
   rw[B]at q;intro H2 G j;refine⟨G,d,j.sub,(n.mono e.z).mono j.z,?_⟩;simp only[aw.bind]at q;cases A:N d with
   |stuck=>rwa[A]at q|exn x=>rw[A]at q;exact λC ox J c w y=>q C ox J c ((e.trans j).trans w) y
   |ok h=>
    rw[A]at q;intro H3 m i;simp only[aw.bind]at q;have g:=(e.trans j).trans i;cases x with
    |lst ds=>
     simp only at q;obtain⟨b,T,rfl,u,t⟩:=aA.mp<|(U.mono j.z).mono i.z;refine⟨b,T,rfl,aD.sqL i.sub u,λp r=>?_⟩;have L:m p=Wb:=i.sub.free r;refine q p _ _ m (g.trans ⟨λb o q=>by rw[ay (aN q r)];exact q,aD.refl _,λb o q=>?_,λa u t=>er t u⟩) (g.s.free r) L aC<|t.cut l h;rw[ay (by intro z;subst z;rw[L]at q;cases q)];exact i.sub _ _ q
    |_=>exact q.elim
end
def fu(x:Vq)(ks:cr)(c:Ev->aw (ac)):ci:=λb=>(c (fQ b)).bind λa=>if a.length=ks.length then .exn ⟨x,ks.zip a⟩ else .stuck
theorem Ag{K:Va}{H:Hp}:∀{ks:cr}{ds:ac}{vs:am}{n:Vq}{d:D},Reps K H ds vs->(ks.zip ds).lookup n=Wp d->∃v,(ks.zip vs).lookup n=Wp v/\Rep K H d v
 |[],ds,vs,n,d,r,h=>by rw[List.zip_nil_left]at h;cases h
 |k::ks,[],vs,n,d,r,h=>by rw[List.zip_nil_right]at h;cases h
 |k::ks,e::ds,vs,n,d,r,h=>by
  obtain⟨v,a,rfl,c,b⟩:=az.mp r;rw[Wy,V7]at h;rw[Wy];cases q:n==k with
  |true=>rw[q]at h;cases h;exact⟨v,by rw[V7,q],c⟩
  |false=>
   rw[q]at h;obtain⟨u,g,f⟩:=Ag b h;exact⟨u,by rw[V7,q];exact g,f⟩
def fJ.xd(ok:fJ P w H g){fs:List<|Vq×V}(d:H a=Wb)(p:BU a fs g):fJ P w (upd H a<|.xd fs) g:=λb u e=>by
 by_cases f:b=a
 .subst f;rw[aC]at e;cases e;obtain⟨m,n,r,_⟩:=p;exact⟨m,n,r⟩
 .rw[ay f]at e
  exact(ok b u e).stay (λc v _ q=>q) (λc q=>by rw[ay (aN q d)];exact q) (λc xs q=>by rw[ay (aN q d)];exact q) λc xs q=>by rw[ay (aN q d)];exact q
section
variable {P:V5}{w:Wx}{K:Va}{mg:Vq->Option U5}{base:Vu}{N:cr}{qual:Vq}{scope:Yt}{f:Vi}{cd:U5}{A:Wh}{outer:List Wq}{s0:Vm}{H0:Hp}{E:XK}{He η:Hp}
def gJ{k:Nat}{ps ks:cr}(xc:XC K x C)(z:MY K C fn)(st:Gx K C ks)(b5:W.isFn K (.ref fn)=VO)(F:ft P w K mg base CX0 k fn fd ps<|Au K ks)(hb:gw K fd ps [])(cc:ks.length<=60)(b2:ks.Nodup)(hr:cW (k+1) (cP (fR P w) P w K mg base N qual scope f cd A outer s0 H0 E).A)(hm:mg x=Wp (.ref C))(hh:A.handled=Wb)
  (hg:Gl (cP (fR P w) P w K mg base N qual scope f cd A outer s0 H0 E) x)(ha:DA (cP (fR P w) P w K mg base N qual scope f cd A outer s0 H0 E) E (e::es) fa)
  (b7:1#x:=by decide)(he:Vg (e::es) (cP (fR P w) P w K mg base N qual scope f cd A outer s0 H0 E).env=(Vd,eval e (cP (fR P w) P w K mg base N qual scope f cd A outer s0 H0 E).env)::Vg es (cP (fR P w) P w K mg base N qual scope f cd A outer s0 H0 E).env:=by exact aM rfl)
  (bx:(Wn M<|Vg es (cP (fR P w) P w K mg base N qual scope f cd A outer s0 H0 E).env).any (·.1)=Vd:=by exact bM rfl) :
  DS (cP (fR P w) P w K mg base N qual scope f cd A outer s0 H0 E) E He η (.Raise (Wp<|.Call (.Name x np) (e::es) [] M) Wb pos) (fu x ks fa):=by
 refine⟨?_⟩;intro π s σ H D I ⟨Ha,ρ,Y,q⟩;obtain⟨bm,Nn,nm,qn,bs,as,sn,sub,ab,bd,dd,k0,k1,k2,k3,k5,mN,hC,hN,hi,T⟩:=(yK I.ok.mod.kin z).ex;obtain⟨oI,b1,b0⟩:∃oI,base.get? fn=Wp oI/\oI.cls=.type "function":=by
  have:=beq_iff_eq.mp b5;obtain⟨o,ho,hc⟩:=Yn.mp this;exact⟨o,I.ok.mod.kin _ _ ho,hc⟩
 refine Ai (C:=C) (nm:=nm) (q:=qn) (N:=Nn) (bs:=bs) (bm:=bm) (hdct:=as) (sn:=sn) (sub:=sub) (ab:=ab) (col:=bd) (dd:=dd) (k0:=k0) (k1:=k1) (k2:=k2) (k3:=k3) (k5:=k5)
  WK (mN:=mN) (oI:=oI) (T.hasType WK.hasBase) hh (by rw[he];show(Vd||(Wn M<|Vg es (cP (fR P w) P w K mg base N qual scope f cd A outer s0 H0 E).env).any (·.1))=Vd;rw[bx];rfl) hi (gP I hg hm ⟨rfl,?_⟩ b7)
 have hq:ou K E H (frz He Ha H) (fa<|fQ ρ) (λB p=>B.length=ks.length/\∀j,p j=Wb->E (.ref C) (Wp j) (upd p j<|.xd<|ks.zip B)):=by
  unfold fu at q;cases e1:fa (fQ ρ) with
  |stuck=>rwa[e1]at q|exn z=>rw[e1]at q;exact λC ox H' cb g ex=>q C ox H' cb (Y.frz_grow.trans g) ex
  |ok ds=>
   rw[e1]at q;intro B p ce g rp;have q:bX K E He η Ha (if ds.length=ks.length then aw.exn ⟨x,ks.zip ds⟩ else .stuck) D:=q
   by_cases hl:ds.length=ks.length
   .rw[ef hl]at q
    refine⟨by rw[←rp.length];exact hl,λj m=>?_⟩;have ga:=aR (o:=.xd<|ks.zip B) g.sub m;refine q (.ref C) (Wp j) _ _ (Y.frz_grow.trans<|g.trans ga) ⟨⟨C,rfl,xc⟩,ks.zip B,aC,λn d hn=>?_⟩;obtain⟨v,k1,k2⟩:=Ag rp hn;exact⟨v,k1,k2.mono ga.z⟩
   .rw[eo hl]at q;exact q.elim
 have h1:=ha.o M π s σ H _ I ⟨frz He Ha H,fQ ρ,Y.frz_le,Y.looks,hq⟩;rw[he]at h1 ⊢;refine X2<|Wj h1 (λus s2 h2=>?_) λ_ _ y=>y;obtain⟨B,p,U,rv,hl,hE⟩:=h2;have hz:us.length<=sizeLine:=by rw[←rv.length,hl,sizeLine_eq];omega
 refine⟨rfl,hz,U.bk _ _ hC,hN.keeps U.bk,T.keeps U.bk,U.bk _ _ b1,b0,λh' i hx=>?_⟩;have hn:p i=Wb:=by
  cases q:p i with|none=>rfl|some o=>obtain⟨u,hu⟩:=bV.there<|U.hok i o q;rw[hx.new]at hu;cases hu
 obtain⟨t,ht,_,_⟩:=hx.there;have bq:n9 i C Wb h':=⟨t,ht⟩
 have un1:Un (gW (cP (fR P w) P w K mg base N qual scope f cd A outer s0 H0 E).stack) [] p (upd p i<|.ext<|n9 i C Wb) s2.heap h':=Un.ext (Un.kept hx.keeps) hn hx.new;have I2:Inv (cP (fR P w) P w K mg base N qual scope f cd A outer s0 H0 E) π σ (upd p i<|.ext<|n9 i C Wb) { s2 with heap:=h' } :=
  U.call' (ch:=[]) rfl un1 (fJ.ext (U.hok.kept hx.keeps) hn bq ⟨_,ht⟩ oR) U.bare (λ_ z=>nomatch z)
 have a4:bh (V.ref i::B) (VG i::us):=.cons rfl rv;have a9:Au K ks (V.ref i::B) (upd p i<|.ext<|n9 i C Wb) (λv H2=>v=.non/\∃j,p j=Wb/\j≠i/\H2=upd (upd (upd p i<|.ext<|n9 i C Wb) i<|.ext<|n9 i C<|Wp j) j (.ext<|BU j<|putAll ks B [])) E :=
  ⟨i,C,fn,B,rfl,hl,aC,st,z,λj m=>by
   have c:j≠i:=λc=>by rw[c,aC]at m;cases m
   rw[ay c]at m;exact⟨rfl,j,m,c,rfl⟩⟩
 have b3:(VG i::us).length=ps.length:=by rw[←a4.length];exact F.len _ _ _ _ a9
 have bb:=hb { s2 with heap:=h' } (VG i::us) I2.kIn (by simpa using b3);rw[We]at bb;refine wpAny_call<|codeAny_mono (F.run _ _ { s2 with heap:=h' } _ ⟨VG i::us,[]⟩ (VG i::us) _ _ E (hr.make C us []) (I2.env0.make C us []) bb a4 a9) λr Q a3=>?_;cases r with
 |error e=>exact V0 a3
 |ok fl=>
  cases fl with
  |next|brk|cont=>exact V0 a3
  |ret u=>
   obtain⟨v,H2,a6,O,a2,G,a5,rfl,j,m,J,rfl⟩:=a3;obtain rfl:u=WN:=a5;rw[iO]at G a2;have a1:=yD<|un1.trans a2;have ap:fJ P w p Q.heap:=A6 G hn m (λ_ z=>by cases z) (λ_ z=>by cases z) (λ_ z=>by cases z) (λ_ z=>by cases z);obtain⟨⟨t3,a7⟩,_,_⟩:=(show bV P w _ Q.heap i (.ext<|n9 i C<|Wp j) from G i _<|by rw[ay J.symm,aC])
   have I3:=U.call' (ch:=[]) a6 a1 ap O<|λ_ z=>nomatch z;refine⟨rfl,I3.bk _ _ hC,⟨_,t3,a7⟩,?_⟩;have b4:=zD (l:=envOfC qual scope 2#s0 f cd::outer);have ba:Q.heap.FunFrames (Yg Q.heap (i::gW (envOfC qual scope 2#s0 f cd::outer))) (envOfC qual scope 2#s0 f cd::outer):=ZF I3.stack λenv he a hf=>U9 _<|b4 env he a hf;have a8:(Yg Q.heap (i::gW (envOfC qual scope 2#s0 f cd::outer))).StaysIn Q.heap:=λb o q=>YC _ q;have b6:(Yg Q.heap (i::gW (envOfC qual scope 2#s0 f cd::outer))).get? i=Wb:=ZQ _<|.head _;obtain⟨pX,_,_⟩:=(show bV P w _ Q.heap j (.ext<|BU j<|putAll ks B []) from G j _ aC)
   rw[nz b2 (λ_ _ z=>by simp at z) hl.symm,WS]at pX;have an:=fJ.xd ap m pX;have al:s2.heap.get? j=Wb:=by
    cases qd:s2.heap.get? j with
    |none=>rfl
    |some o=>
     have:=a2.free j o (hx.keeps j o qd) (by rw[ay J];exact m) 0#3;rw[aC]at this;cases this
   have bi:=Un.ext (o:=.xd<|ks.zip B) a1 m al;refine nK (a0:=.ref t3) I3.ok.frames ba rfl a7 a8 b6 rfl rfl rfl (λ_=>rfl) λh4 b9 be ca=>?_;refine ED rfl U (s1:=Q) (H1:=upd p j<|.xd<|ks.zip B) a6 O bi an (by rw[ay J.symm];exact hn) a8 ba (λb hb L=>?_) b9 be ⟨Wp j,⟨Wp j,ca,.inr rfl⟩,hE j m⟩;have b8:b≠i:=λc=>by
    subst c;rcases L with L|⟨o,L⟩
    .exact L (by rw[ay J.symm];exact hn)
    .rw[hx.new]at L;cases L
   have bt:∃o,Q.heap.get? b=Wp o:=by
    rcases L with L|⟨o,L⟩
    .cases q:(upd p j<|.xd<|ks.zip B) b with
     |none=>exact er q L
     |some o=>exact bV.there<|an b o q
    .exact a1.there b o L 0#3
   obtain⟨o,q⟩:=bt;exact⟨o,Zi _ q<|Zq b8 hb⟩
end
end DL
namespace DL
open PySem PySem.Spec PySem.Calls PySem.W PyProof.Rows Builtin Builtin.ObjectAttr Builtin.Getset_descriptor
section
variable {prog:V5}{w:Wx}{A:Wh}{E:U5->Vm->Prop}{h:Vu}{g:Array GenState}{d:Drawn}{t:Nat}{os:OsState}{a C:Vi}{o:Obj}{od:Option Obj}{K:Frag}{name:Vq}{v:U5}
def GH(X:K.In h)(J:InstAt h a o C od)(b:findObj K C od name=Wp (.value v))(i:Q (.done<|.ret v) ⟨h,g,d,t,os⟩) :
  VC (Vy prog w) A (Builtin.«object.__getattribute__» ⟨[.ref a,.str name f],[]⟩) Q E ⟨h,g,d,t,os⟩:=by
 have e:=J.type (M:=Vy prog w);have c:=looks_find (M:=Vy prog w) X J b;unfold Builtin.«object.__getattribute__»
 repeat (any_goals (first|assumption|(with_reducible refine e.at ?_)|(with_reducible refine c.at ?_)|wp_step))
def KC(X:K.In h)(Z:qB K C)(J:InstAt h a o C od)(b:h.get? a=Wp o)(f:o.cls=.ref C)(e:findObj K C od name=Wp (.value v))(c:R (.ok<|.ret v) ⟨h,g,d,t,os⟩) :
  Xm (Vy prog w) A (.call (.builtin "BaseException.__getattribute__") ⟨[.ref a,.str name i],[]⟩) R ⟨h,g,d,t,os⟩ :=
 codeAny_call_builtin YV.ga.plain F.entry_bexc_ga (Ak X Z b f<|GH X J e c)
def QB(X:K.In h)(Z:qB K C)(J:InstAt h a o C od)(e:h.get? a=Wp o)(f:o.cls=.ref C)(m:findObj K C od name=Wp (.value v))(l:handedIn v=VO)(q:Q v ⟨h,g,d,t,os⟩) :
  VC (Vy prog w) A (getAttrBy (.ref a) (.str name p) b ex) Q E ⟨h,g,d,t,os⟩:=by
 have r:=YV.ga.bind<|.ref a;have c:(XN "BaseException.__getattribute__"==XN "object.__getattribute__")=Vd:=by decide +kernel
 have i:(onTheHeap (VG C)&&XN "BaseException.__getattribute__"==XN "object.__getattribute__")=Vd:=by rw[c];rfl
 have n:Looks (Vy prog w) h (XY (.ref C) "__getattribute__") (Wp<|.builtin "BaseException.__getattribute__"):=looks_findIn X Z.ga;have L2:Looks (Vy prog w) h (XY (.ref C) "__getattr__") Wb:=looks_findIn X Z.gt;have j:=handedOut_of l
 repeat (any_goals (first|assumption|(with_reducible refine WY e ?_;rw[f])|(with_reducible refine n.at ?_)|(with_reducible refine L2.at ?_)|wp_step))
 rw[eo (by cases ex<;>decide)]
 repeat (any_goals (first|assumption|wp_step))
 refine KC X Z J e f m ?_
 repeat (any_goals (first|assumption|wp_step))
def NV(X:K.In h)(Z:qB K C)(J:InstAt h a o C od)(b:h.get? a=Wp o)(f:o.cls=.ref C)(e:findObj K C od name=Wp (.value v))(c:handedIn v=VO)(i:Q v ⟨h,g,d,t+1,os⟩) :
  VC (Vy prog w) A (sag (.ref a) name ex) Q E ⟨h,g,d,t,os⟩:=by
 unfold sag
 repeat (any_goals (first|assumption|with_reducible apply QB X Z J b f e c|wp_step))
end
end DL
namespace DL
open PySem PySem.Spec PyProof.Rows L2
def Ki(K:Va)(tab:Vq->Option Bool)(f:Vq):Prop:=∀c C b,tab c=Wp b->XC K c C->Xq K C=VO/\dD K C f
def kh(tab:Vq->Option Bool)(f:Vq)(x:D):aw D:=match x with
 |.ob (.exf c a) b=>(match tab c,mY f a b with
  |some _,Wp d=>.ok d
  |_,_=>.stuck)
 |_=>.stuck
theorem Gz:∀{ks:cr}{vs:am}{f:Vq}{u:V},(ks.zip vs).lookup f=Wp u->∃i:Nat,ks[i]?=Wp f/\vs[i]?=Wp u
 |[],vs,f,u,h=>by rw[List.zip_nil_left]at h;cases h
 |k::ks,[],f,u,h=>by rw[List.zip_nil_right]at h;cases h
 |k::ks,v::vs,f,u,h=>by
  rw[Wy,V7]at h;cases q:f==k with
  |true=>rw[q]at h;cases h;exact⟨0,by rw[beq_iff_eq.mp q];rfl,rfl⟩
  |false=>
   rw[q]at h;obtain⟨i,b,a⟩:=Gz h;exact⟨i+1,b,a⟩
section
variable {X:Cx}{E:XK}{e:V4}{fe:bv}{pos:Pos}{f:Vq}{ta:TE}{tab:Vq->Option Bool}
def QO(K:Va)(ta:TE)(f:Vq):TE:=λd H Q=>ta d H λx b=>∃a C c fs v,x=.ref a/\Rd b a (.ext<|B5 a C<|Wp c)/\b c=Wp (.xd fs)/\qB K C/\Xq K C=VO/\dD K C f/\fs.lookup f=Wp v/\Q v b
def Lu(he:PE X e ta)(hb:Xe e f X.env (eval e X.env)=eval e X.env):PE X (.Attribute e f pos) (QO X.K ta f):=by
 intro M s L H Q I h;refine EO hb<|cM (he M s L H _ I h) λu c z9=>?_;obtain⟨x,G,i,N,a,C,B,fs,v,ex,ea,ed,Z,hd,n,l,q⟩:=z9;subst ex;obtain rfl:u=VG a:=N;obtain⟨⟨o,vs,A,b,p,m⟩,_,_⟩:=ea.ok i.hok;obtain⟨O,U,r⟩:=(show bV X.prog X.w G c.heap B (.xd fs) from i.hok B _ ed)
 obtain⟨u',T,y⟩:=iL (v:=v) (o:=O f) (by rw[←l];exact r f);obtain⟨z,j,Y⟩:=qM U;have J:ZU c.heap a o C (Wp z):=⟨A,b,by unfold W.notCls;rw[p],by rw[m];exact j⟩
 have I2:=i.tok<|c.toks+1;have K1:=i.kIn;obtain⟨hh,g,d,t,os⟩:=c;exact NV K1 Z J A b (W.findObj_own hd n rfl (by show saA f z=_;rw[Y,T])) (yd y) ⟨v,G,I2,y,q⟩
def EG(G:Ki X.K tab f)(L:DE X E e fe)(M:Xe e f X.env (eval e X.env)=eval e X.env:=by rfl):DE X E (.Attribute e f pos) (aL fe<|kh tab f):=by
 refine⟨bc (Lu L.o M) λσ H Q z9=>?_⟩;obtain⟨l,n,I,J,q⟩:=z9;refine⟨l,n,I,J,?_⟩;unfold aL at q;cases t:fe n with
 |stuck|exn x=>rwa[t]at q
 |ok d=>
  rw[t]at q;intro v H1 m g y;replace q:post X.K E H l (kh tab f d) Q:=q;unfold kh at q;cases d with
  |ob k w=>
   cases k with
   |exf c r=>
    replace q:post X.K E H l (match tab c,mY f r w with|some _,Wp d=>aw.ok d|_,_=>.stuck) Q:=q;cases a:tab c with
    |none=>rw[a]at q;exact q.elim
    |some b=>
     cases j:mY f r w with
     |none=>rw[a,j]at q;exact q.elim
     |some d=>
      rw[a,j]at q;obtain⟨p,vs,rfl,⟨C,dx,fs,s,Y,U,T,O⟩,N⟩:=bj.mp y;obtain⟨u,z,k2,k3⟩:=zE T N j;obtain⟨i,B,A⟩:=Gz z;obtain⟨m1,m2⟩:=G c C b a s;exact⟨p,C,dx,fs,u,rfl,aD.rd g.sub Y,g.sub _ _ U,s.ek,m1,m2,O i f u B A,q u H1 m g k2⟩
   |_=>exact q.elim
  |_=>exact q.elim
end
def TC{c:Type}{b:List c}(h:b.length=1):∃a,b=[a]:=List.length_eq_one_iff.mp h
def SE{d:Type}{c:List d}(h:c.length=2):∃a b,c=[a,b]:=by
 cases c with|nil=>cases h|cons a c=>obtain⟨b,rfl⟩:=TC<|YE h;exact⟨a,b,rfl⟩
def Tz{e:Type}{d:List e}(h:d.length=3):∃a b c,d=[a,b,c]:=by
 cases d with|nil=>cases h|cons a d=>obtain⟨b,c,rfl⟩:=SE<|YE h;exact⟨a,b,c,rfl⟩
def Um{f:Type}{e:List f}(h:e.length=4):∃a b c d,e=[a,b,c,d]:=by
 cases e with|nil=>cases h|cons a e=>obtain⟨b,c,d,rfl⟩:=Tz<|YE h;exact⟨a,b,c,d,rfl⟩
def UR{g:Type}{f:List g}(h:f.length=5):∃a b c d e,f=[a,b,c,d,e]:=by
 cases f with|nil=>cases h|cons a f=>obtain⟨b,c,d,e,rfl⟩:=Um<|YE h;exact⟨a,b,c,d,e,rfl⟩
def UQ{i:Type}{g:List i}(h:g.length=6):∃a b c d e f,g=[a,b,c,d,e,f]:=by
 cases g with|nil=>cases h|cons a g=>obtain⟨b,c,d,e,f,rfl⟩:=UR<|YE h;exact⟨a,b,c,d,e,f,rfl⟩
def UP{j:Type}{i:List j}(h:i.length=7):∃a b c d e f g,i=[a,b,c,d,e,f,g]:=by
 cases i with|nil=>cases h|cons a i=>obtain⟨b,c,d,e,f,g,rfl⟩:=UQ<|YE h;exact⟨a,b,c,d,e,f,g,rfl⟩
end DL
namespace Com
open PySem L2 DL
def RX(h:f≠g):j9 ⟨c,[(f,d),(g,e)]⟩=.ob (.exf c [f,g]) [d,e]:=by
 show(if([f,g]:cr).Nodup then D.ob (.exf c [f,g]) [d,e] else .exc c)=_;rw[ef (by simp[h])]
def kM{tab:Vq->Option Bool}(h:tab c=Wp b):iq tab (.ob (.exf c ks) ds)=.ok (.bl b):=by unfold iq;simp only[h]
def y8(x:Vq)(ks:cr)(ds:ac):aw Fl:=if ds.length=ks.length then .exn ⟨x,ks.zip ds⟩ else .stuck
def cy:fu x ks a ρ=(a<|fQ ρ).bind (y8 x ks):=rfl
def Df:y8 x [f,g] [d,e]=.exn ⟨x,[(f,d),(g,e)]⟩:=ef rfl
end Com
namespace DL
open PySem PySem.Spec PyProof.Rows L2
structure FT (K:Va) (mg:Vq->Option U5) (x:Vq) (st:Xi) (ps:cr) (a:Vi) (d:WD):Prop where
 F:B1 K x x st a d
 b:gw K d ps []
 g:mg x=Wp (.ref a)
noncomputable def QA(K:Va) (x:Vq) (st:Xi) (a:Vi):Prop:=WC K Vz x=Wp (Wp<|.ref a)/\Yx K (.ref a)=VO/\∃f kV g d b ct e i c,K.lookup a=Wp ⟨f,e,.func<|X6 x x (defArgs st) (defBody st) (defScope st) .none kV g d i b ct,c⟩/\ZR K b x=VO
def RT{K:Va}{h:Vu}{st:Xi}{ps:cr}(X:K.In h)(G:h.Ns Vz l)(q:QA K x st a)
  (m:∀(kV doc c:U5) (e:Option Vi) (b ct:U5) (f:List U5),f.length=ps.length->bindArgs (X6 x x (defArgs st) (defBody st) (defScope st) .none kV doc c e b ct) ⟨f,[]⟩=pure (ps.zip f)) :
  ∃d,FT K l x st ps a d/\∃kV doc c e b ct,d=X6 x x (defArgs st) (defBody st) (defScope st) .none kV doc c e b ct:=by
 obtain⟨n,g,r,kV,s,c,t,ct,p,e,o,j,i⟩:=q;exact⟨_,⟨uZ j i g,(uZ (st:=st) j i g).binds m,WZ X G n⟩,_,_,_,_,_,_,rfl⟩
section
variable {X:Cx}{E:XK}{e:V4}{es:List V4}{fa:Ev->aw (ac)}{f g h i j:bv}{pos:Pos}{CX:Ac}{k n:Nat}{fn:Vi}{fd:WD}{ps:cr}{m:ac->aw D}{x:Vq}{p:Pos}{st:Xi}
def T6(ρ:Ev)(ds:ac)(h:ae f av ρ=.ok ds):ds.length=1:=mV (λ_ h=>BS h) h
def T5(ρ:Ev)(ds:ac)(q:ae f (ae g av) ρ=.ok ds):ds.length=2:=mV (T6 ρ) q
def T4(ρ:Ev)(ds:ac)(q:ae f (ae g<|ae h av) ρ=.ok ds):ds.length=3:=mV (T5 ρ) q
def Ut(ρ:Ev)(ds:ac)(q:ae f (ae g<|ae h<|ae i av) ρ=.ok ds):ds.length=4:=mV (T4 ρ) q
end
def fz(b:Ev->aw (ac))(m:ac->aw D):ci:=λa=>match b a with
 |.ok c=>(m c).bind λ_=>.ok<|.nx a
 |_=>.stuck
section
variable {X:Cx}{e:V4}{es:List V4}{fa:Ev->aw (ac)}{pos:Pos}{k n:Nat}{fn:Vi}{fd:WD}{ps:cr}{m:ac->aw D}{x:Vq}{p:Pos}{st:Xi}
def KU(F:ft X.prog X.w X.K X.mg X.base (fR X.prog X.w) k fn fd ps<|spD X.K n m)(M:cW k X.A)(U:Gl X x)(N:X.mg x=Wp (.ref fn))
  (T:Yx X.K (.ref fn)=VO)(hb:gw X.K fd ps [])(ha:DA X.nox E0 (e::es) fa)(hn:(e::es).length=n:=by rfl)(O:∀ρ ds,fa ρ=.ok ds->ds.length=(e::es).length)
  (r:1#x:=by decide)(Y:Vg (e::es) X.env=(Vd,eval e X.env)::Vg es X.env:=by exact aM rfl)(l:(Wn a<|Vg es X.env).any (·.1)=Vd:=by exact bM rfl)
  (L:WI (.Call (.Name x p) (e::es) [] a) Wb pos.line X.env=pure Vd:=by rfl):TB X (.Expr (.Call (.Name x p) (e::es) [] a) pos) (fz fa m):=by
 refine⟨λπ s B H He η Ha ρ D XE I h q J=>?_⟩;refine wpAny_Expr_any (cM (MI (Q:=λv i=>D.nx B i) F M U N T hb ha.o I ?_ J r Y l) λv s1 ⟨y,i,I1,j,G⟩=>⟨B,i,I1,G⟩) I.quiet L;refine⟨Ha,ρ,h.g.sub,h.rd,?_⟩;unfold fz at q ⊢;cases f:fa ρ with
 |stuck=>rwa[f]at q|exn x=>rw[f]at q;exact q.elim
 |ok ds=>
  rw[f]at q;intro vs i u c j;refine⟨?_,u,ds,c.sub,j,?_⟩
  .have:=j.length
   have:=O ρ ds f;omega
  .show post _ _ _ _ (m ds) _
   cases t:m ds with
   |stuck=>simp only[t]at q;exact q
   |exn x=>exact λC ox E b g ex=>⟨x,b,by simp only[t];rfl,c.z.trans g.z,h.grow<|c.trans g,ex⟩
   |ok d=>
    simp only[t]at q;exact λv E b g rp=>q _ E b (c.z.trans g.z)<|h.grow<|c.trans g
end
def Af:cr->ac->Vq->Option D
 |k::a,d::b,x=>if k=x then Wp d else Af a b x
 |_,_,_=>Wb
def l6(x y:D):aw D:=match x,y with
 |.dic a b,.str k=>match Af a b k with
  |some d=>.ok d
  |none=>.stuck
 |_,_=>.stuck
def zP(x y:D):aw D:=match x,y with
 |.str k,.dic a b=>.ok<|.bl (Af a b k).isSome
 |_,_=>.stuck
def kQ(x y:D):aw D:=match x,y with
 |.str k,.dic a b=>.ok<|.bl (!(Af a b k).isSome)
 |_,_=>.stuck
theorem zU{K:Va}{H:Hp}{k:Vq}:∀{ks:cr}{ds:ac}{vs:am},ks.length=vs.length->Reps K H ds vs ->
  (∀d,Af ks ds k=Wp d->∃v,sD ((ks.map Wr).zip vs) (Wr k:iV)=Wp v/\Rep K H d v)/\(Af ks ds k=Wb->sD ((ks.map Wr).zip vs) (Wr k:iV)=Wb)
 |[],ds,vs,c,r=>by
  exact⟨λd e=>(nomatch e),λ_=>rfl⟩
 |x::ks,ds,vs,c,r=>by
  cases vs with
  |nil=>cases c
  |cons v vs=>
   cases ds with
   |nil=>have:=Reps.nil_iff.mp r;cases this
   |cons d ds=>
    obtain⟨o,n,m,l,j⟩:=az.mp r;cases m;obtain⟨i,g⟩:=zU (k:=k) (ks:=ks) (ds:=ds) (vs:=vs) (by simpa using c) j;rw[Vf,Wy]
    by_cases b:x=k
    .subst b
     refine⟨λf e=>?_,λe=>?_⟩
     .rw[Af,ef rfl]at e;cases e
      exact⟨v,og rfl,l⟩
     .rw[Af,ef rfl]at e;cases e
    .have a:¬(Wr x:iV)=Wr k:=λz=>b (saE z)
     refine⟨λf e=>?_,λe=>?_⟩
     .rw[Af,eo b]at e
      rw[lq a];exact i f e
     .rw[Af,eo b]at e
      rw[lq a];exact g e
section
variable {X:Cx}{E:XK}{a b:V4}{f g:bv}{pos:Pos}
abbrev Rg:R2:=λx y H Q=>∃p v,x=.ref p/\Ab H p y (Wp v)/\Q v H
abbrev Rb:R2:=λy x H Q=>∃p o,x=.ref p/\Ab H p y o/\Q (.bl o.isSome) H
abbrev D3:R2:=λy x H Q=>∃p o,x=.ref p/\Ab H p y o/\Q (.bl (!o.isSome)) H
def LL:BX X.K E Rg l6:=by
 intro x y v u H A Q i c l q;unfold l6 at q;cases x with
 |dic n w=>
  cases y with
  |str k=>
   rw[Rep]at c;obtain⟨p,m,z,rfl,t,rfl,r,s⟩:=c;rw[Rep.str_iff.mp l];cases e:Af n w k with
   |none=>simp only[e]at q;exact q.elim
   |some d=>
    simp only[e]at q;obtain⟨v,o,j⟩:=(zU r s).1 d e;exact⟨p,v,rfl,.inl ⟨_,.inr k,aD.rd i t,rfl,o.symm⟩,bL i q j⟩
  |_=>exact q.elim
 |_=>exact q.elim
def Es{k:Vq}{K:Va}(q:aD Ha H)(l:Rep K Ha (.str k) v)(c:Rep K Ha (.dic ks ds) u):∃p o,u=.ref p/\Ab H p v o/\o.isSome=(Af ks ds k).isSome:=by
 rw[Rep]at c;obtain⟨p,m,s,rfl,r,rfl,i,j⟩:=c;rw[Rep.str_iff.mp l];refine⟨p,_,rfl,.inl ⟨_,.inr k,aD.rd q r,rfl,rfl⟩,?_⟩;cases e:Af ks ds k with|none=>rw[(zU i j).2 e];rfl|some d=>obtain⟨v,n,_⟩:=(zU i j).1 d e;rw[n];rfl
def Iv:BX X.K E Rb zP:=by
 intro x y v u H r Q c e d q;unfold zP at q;cases x with
 |str k=>
  cases y with
  |dic m n=>
   obtain⟨p,o,l,j,i⟩:=Es c e d;exact⟨p,o,l,j,by rw[i];exact bL c q<|rb _⟩
  |_=>exact q.elim
 |_=>exact q.elim
def Fy:BX X.K E D3 kQ:=by
 intro x y v u H r Q c e d q;unfold kQ at q;cases x with
 |str k=>
  cases y with
  |dic m n=>
   obtain⟨p,o,l,j,i⟩:=Es c e d;exact⟨p,o,l,j,by rw[i];exact bL c q<|rb _⟩
  |_=>exact q.elim
 |_=>exact q.elim
def Ir(e:X.A.units+1<Xu):ia X (Wf .In) Rb:=by
 intro l s j H x y v u Q I d c h;obtain⟨p,o,rfl,g,q⟩:=h;cases c;exact TZ e I g d λm i=>⟨.bl o.isSome,H,i,rfl,q⟩
def Ft(e:X.A.units+1<Xu):ia X (Wf .NotIn) D3:=by
 intro l s j H x y v u Q I d c h;obtain⟨p,o,rfl,g,q⟩:=h;cases c;exact Mv e I g d λm i=>⟨.bl (!o.isSome),H,i,rfl,q⟩
def zN(c:X.A.units+1<Xu)(i:DE X E a f)(e:DE X E b g)(d:Qe b:=by intro _ _;rfl):DE X E (.Subscript a b pos) (ag f g l6) :=
 ⟨bc (Lw c i.o e.o d)<|jV LL⟩
end
section
variable {K:Va}{E:XK}{He η Ha H H1:Hp}{σ:L2.St}{ρ:Ev}
def eG.putOwnG(h:eG K He η Ha σ H ρ)(v:∀(j:Nat) (a:Vi),σ[j]?=Wp (Wp<|V.ref a)->a=p->∀d:D,ρ[j]?≠Wp (Sl.ow d))(J:He p=Wb)(x:Ha p=Wb)(I:M4 K Ha H p dn)(G:∀(i j:Nat) (ds:ac) (a:Vi) (P:Nat->Vi),ρ[i]?=Wp (.ox j ds)->σ[i]?=Wp (Wp<|.ref a)->Sk K He Ha H a j ds P->∀l,w4 j l=VO->p≠P l) :
  eG K He η Ha (σ.set i<|Wp<|.ref p) H (ρ.set i<|.ow dn):=by
 have key:∀(j:Nat) (s:Sl),(ρ.set i<|.ow dn)[j]?=Wp s->(j=i/\s=.ow dn/\i<σ.length)∨(j≠i/\ρ[j]?=Wp s):=λj s e=>by
  by_cases b:i=j
  .subst b
   rw[Xz]at e;cases q:ρ[i]? with
   |none=>rw[q]at e;cases e
   |some O=>
    rw[q]at e;cases e;refine .inl ⟨rfl,rfl,?_⟩;rw[←h.ln];exact(Vn.mp q).1
  .rw[Vo b]at e
   exact .inr ⟨λz=>b z.symm,e⟩
 have other:∀(k:Nat) (n:D),k≠i->ρ[k]?=Wp (.ow n)->Wp (Wp<|V.ref p)≠σ[k]?:=λk n r t z=>by
  obtain⟨a,o,_⟩:=h.ow k n t;rw[o]at z;cases z;exact v k p o rfl n t
 refine⟨h.g,λj y e=>?_,λj y e=>?_,λj k B n A L t=>?_,by simp[h.ln],h.ex.upd (λj s e=>?_) (aD.refl _) (λa M _ e=>e) λp N _ x v _=>⟨v,x⟩⟩
 rotate_left 3
 .rcases key j _ e with⟨rfl,c,f⟩|⟨b,c⟩
  .exact .inr (.inr<|.inr ⟨dn,p,c,by rw[VT f],G⟩)
  .exact .inl ⟨c,by rw[Vo (V6 b)]⟩
 .rcases key j _ e with⟨rfl,c,f⟩|⟨b,c⟩
  .cases c
  .obtain⟨C,o,w⟩:=h.rd j y c
   exact⟨C,by rw[Vo (V6 b)];exact o,w⟩
 .rcases key j _ e with⟨rfl,c,f⟩|⟨b,c⟩
  .cases c
   exact⟨p,by rw[VT f],J,x,I⟩
  .obtain⟨a,o,w⟩:=h.ow j y c
   exact⟨a,by rw[Vo (V6 b)];exact o,w⟩
 .rcases key j _ L with⟨rfl,_,f⟩|⟨b,u⟩
  .rcases key k _ t with⟨rfl,_,_⟩|⟨r,m⟩
   .exact er rfl A
   .rw[VT f,Vo<|V6 r]
    exact other k n r m
  .rcases key k _ t with⟨rfl,_,f⟩|⟨r,m⟩
   .rw[VT f,Vo<|V6 b]
    exact λz=>other j B b u z.symm
   .rw[Vo (V6 b),Vo<|V6 r]
    exact h.ap j k B n A u m
def eG.writeG(h:eG K He η Ha σ H ρ)(e:ρ[i]?=Wp (.ow d))(es:σ[i]?=Wp (Wp<|.ref p))(ho:M4 K Ha (upd H p o) p dn) :
  eG K He η Ha σ (upd H p o) (ρ.set i<|.ow dn):=by
 obtain⟨a,u,h2,h3,I⟩:=h.ow i d e;rw[u]at es;cases es;have Q:i<ρ.length:=(Vn.mp e).1;have key:∀(j:Nat) (s:Sl),(ρ.set i<|.ow dn)[j]?=Wp s->(j=i/\s=.ow dn)∨(j≠i/\ρ[j]?=Wp s):=λj s e=>by
  by_cases t:i=j
  .subst t
   rw[VT Q]at e;cases e;exact .inl ⟨rfl,rfl⟩
  .rw[Vo t]at e
   exact .inr ⟨λz=>t z.symm,e⟩
 refine⟨⟨λb o' n=>?_,h.g.z,λb o' n=>?_,h.g.nw⟩,λj C B=>?_,λj C B=>?_,λj k d1 d2 G e1 e2=>?_,by simp[h.ln],h.ex.upd (λj s B=>?_) (aD.refl _) (λb us _ n=>?_) λq us _ q0 hq hd=>?_⟩
 rotate_left 5
 .rcases key j _ B with⟨rfl,c⟩|⟨t,c⟩
  .exact .inr (.inr<|.inr ⟨dn,p,c,u,λi' j' m a' P' x1 x2 x3 l J=>by
    obtain⟨a2,P2,Y,y2,y3,_⟩:=h.ex.1 i' j' m x1;rw[x2]at Y;cases Y;have:P2 l=P' l:=by
     obtain⟨al,_,z1,_,y5,_⟩:=x3;obtain⟨ab,_,U,_,y4,_⟩:=y2;rw[z1]at U;cases U;obtain⟨_,_,_,_,_,z2,_⟩:=y5 l J;obtain⟨_,_,_,_,_,x,_⟩:=y4 l J;rw[z2]at x;injection x with x;injection x with x;exact x.symm
    rw[←this];intro zz;rw[zz]at u;exact y3 j d l J e u⟩)
  .exact .inl ⟨c,rfl⟩
 .rw[ay (by
   intro z;subst z;cases d with
   |lst m|dic L m=>obtain⟨f,r,_⟩:=I;rw[r]at n;cases n
   |ob M m=>
    cases M with|dint L=>obtain⟨f,r,_⟩:=I;rw[r]at n;cases n| _=>exact I.elim
   |_=>exact I)];exact n
 .have N:q≠p:=by
   intro z;subst z;exact hd i d e u
  exact⟨by rw[ay N];exact hq,q0⟩
 .rw[ay (by intro z;subst z;rw[h2]at n;cases n)];exact h.g.s _ _ n
 .rw[ay (by intro z;subst z;rw[h3]at n;cases n)];exact h.g.sub _ _ n
 .rcases key j _ B with⟨rfl,c⟩|⟨t,c⟩
  .cases c
  .exact h.rd j C c
 .rcases key j _ B with⟨rfl,c⟩|⟨t,c⟩
  .cases c
   exact⟨p,u,h2,h3,ho⟩
  .obtain⟨b,k1,k2,k3,y⟩:=h.ow j C c
   refine⟨b,k1,k2,k3,?_⟩;have T:b≠p:=by
    intro z;subst z;exact h.ap j i C d t c e (by rw[k1,u])
   cases C with
   |lst m=>
    obtain⟨f,r,A⟩:=y;exact⟨f,by rw[ay T];exact r,A⟩
   |dic L m=>
    obtain⟨f,r,O,A⟩:=y;exact⟨f,by rw[ay T];exact r,O,A⟩
   |ob M m=>
    cases M with
    |dint L=>
     obtain⟨f,r,O,A⟩:=y;exact⟨f,by rw[ay T];exact r,O,A⟩
    |_=>exact y.elim
   |_=>exact y.elim
 .rcases key j _ e1 with⟨rfl,w⟩|⟨t,w⟩
  .rcases key k _ e2 with⟨rfl,_⟩|⟨hk,v⟩
   .exact er rfl G
   .exact h.ap j k d d2 G e v
  .rcases key k _ e2 with⟨rfl,_⟩|⟨hk,v⟩
   .exact h.ap j k d1 d G w e
   .exact h.ap j k d1 d2 G w v
end
def HJ:cr->ac->Vq->D->ac
 |k::b,e::a,x,d=>(if k=x then d else e)::HJ b a x d
 |_,a,_,_=>a
def Fh(ks:cr)(ds:ac)(k:Vq)(d:D):D:=if k∈ks then .dic ks (HJ ks ds k d) else .dic (ks++[k])<|ds++[d]
theorem ER{k:Vq}:∀{ks:cr}{vs:am},ks.length=vs.length->(((ks.map Wr).zip vs).any λb=>decide (b.1=(Wr k:iV)))=decide (k∈ks)
 |[],_,_=>rfl
 |x::ks,[],h=>nomatch h
 |x::ks,v::vs,h=>by
  rw[Vf,Wy,XO,ER<|by simpa using h]
  by_cases a:x=k
  .subst a;simp
  .have:¬k=x:=λz=>a z.symm
   simp[a,this]
theorem D1{K:Va}{H:Hp}{k:Vq}{d:D}{v:V}(r:Rep K H d v):∀{ks:cr}{ds:ac}{vs:am},ks.length=vs.length->Reps K H ds vs ->
  ∃a,(((ks.map Wr).zip vs).map λc=>if c.1=(Wr k:iV) then(c.1,v) else c)=(ks.map Wr).zip a/\ks.length=a.length/\Reps K H (HJ ks ds k d) a
 |[],ds,vs,b,h=>⟨vs,rfl,b,by cases ds<;>exact h⟩
 |x::ks,ds,[],b,h=>nomatch b
 |x::ks,[],i::vs,b,h=>by have:=Reps.nil_iff.mp h;cases this
 |x::ks,e::ds,i::vs,b,h=>by
  obtain⟨s,q,p,o,n⟩:=az.mp h;cases p;obtain⟨a,m,l,j⟩:=D1 r (ks:=ks) (ds:=ds) (vs:=vs) (by simpa using b) n;rw[Vf,Wy,Vf,m]
  by_cases f:x=k
  .subst f
   refine⟨v::a,by rw[ef rfl];rfl,by simp[l],?_⟩;rw[HJ,ef rfl];exact Reps.cons r j
  .have g:¬(Wr x:iV)=Wr k:=λz=>f (saE z)
   refine⟨i::a,by rw[eo g];rfl,by simp[l],?_⟩;rw[HJ,eo f];exact Reps.cons o j
theorem Reps.snoc{K:Va}(r:Rep K H d v):∀{ds:ac}{vs:am},Reps K H ds vs->Reps K H (ds++[d]) (vs++[v])
 |[],vs,h=>by rw[Reps.nil_iff.mp h];exact Reps.cons r Reps.nil
 |e::ds,vs,h=>by
  obtain⟨f,c,rfl,b,a⟩:=az.mp h;exact Reps.cons b<|Reps.snoc r a
def Lf{K:Va}{k:Vq}(c:ks.length=vs.length)(h:Reps K Ha ds vs)(r:Rep K Ha d v):M4 K Ha (upd H p<|.dK<|jY ((ks.map Wr).zip vs) (Wr k) v) p (Fh ks ds k d):=by
 unfold Fh;rw[show ∀(a:List (iV×V)) (u:V),jY a (Wr k:iV) u=if(a.any λb=>decide (b.1=(Wr k:iV)))=VO then a.map (λb=>if b.1=(Wr k:iV) then(b.1,u) else b) else a++[((Wr k:iV),u)] from λ_ _=>rfl];rw[ER c]
 by_cases e:k∈ks
 .rw[ef e,ef<|dV e]
  obtain⟨f,j,i,g⟩:=D1 (k:=k) r c h;exact⟨f,by rw[aC,j],i,g⟩
 .rw[eo e,eo (by rw[en e];decide)]
  refine⟨vs++[v],by rw[aC,VX,List.zip_append (by rw[U8];exact c)];rfl,by simp[c],Reps.snoc r h⟩
noncomputable def UH(K:Va) (E:XK) (f:bv):TE:=λi H Q=>∃c e,aD c H/\fq K c i e/\match f e with
 |.ok (.dic g j)=>∀p d b a,bz H c b a->H p=Wb->a p=Wb->b p=Wp (.dK<|(g.map Wr).zip d)->g.length=d.length->Reps K a j d->Q (.ref p) b
 |.ok _=>False
 |.exn x=>∀C ox b a,bz H c b a->yG K a x C ox->E C ox b
 |.stuck=>False
structure Uy (X:Cx) (E:XK) (e:V4) (f:bv):Prop where
 o:PE X e (UH X.K E f)
def Ip(i:Nat)(ρ:Ev)(d:D):aw Fl:=match d with
 |.dic a b=>.ok<|.nx<|ρ.set i<|.ow<|.dic a b
 |_=>.stuck
def DY(i:Nat)(f:bv):ci:=λa=>(f a).bind<|Ip i a
section
variable {X:Cx}{E:XK}{He η:Hp}{e b:V4}{pos:Pos}{f k:bv}
def Mp(U:X.N.Nodup)(hi:X.N[i]?=Wp x)(J:Ka X.env.scope x)(T:Uy X E e f)(M:WI e (Wp<|.Name x pos') pos.line X.env=pure Vd:=by rfl)
  (Q:X.fn x=VO∨X.env.scope.names.lookup x=Wp .local := by first|exact .inl rfl|exact .inr rfl|assumption):DS X E He η (.Assign [.Name x pos'] e pos) (DY i f):=by
 refine⟨?_⟩;refine cA (uo U hi J T.o M Q) λD σ H z9=>?_;obtain⟨Ha,y,h,q⟩:=z9;refine⟨Ha,y,h.g.sub,h.rd,?_⟩
 unfold DY at q;cases v:f y with
 |stuck=>rwa[v]at q|exn x=>rw[v]at q;exact λC ox w c g ex=>q C ox w c (h.g.trans g) ex
 |ok d=>
  rw[v]at q;cases d with
  |dic u ds=>
   intro p B w c g r Y L O G;refine q _ w c g.z<|(h.grow g).putOwnG (dn:=.dic u ds) (λj a ej ea d ed=>?_) (h.g.s.free r) Y ⟨B,L,O,G⟩<|h.fresh_x g.s r;subst ea;obtain⟨a',A,_,_,n⟩:=h.ow j d ed;rw[ej]at A;cases A;cases d with
   |lst m|dic u m=>obtain⟨t,l,_⟩:=n;rw[r]at l;cases l
   |ob I m=>
    cases I with|dint u=>obtain⟨t,l,_⟩:=n;rw[r]at l;cases l| _=>exact n.elim
   |_=>exact n.elim
  |_=>exact q.elim
end
def JH(k d:D):aw D:=match k with
 |.str x=>.ok<|.dic [x] [d]
 |_=>.stuck
def EI(b a:bv):bv:=ag b a JH
def CC(ρ:Ev)(i:Nat)(k:cr->ac->aw Fl):aw Fl:=match ρ[i]? with
 |some (.ow (.dic a b))=>k a b
 |_=>.stuck
def rF(i:Nat)(ρ:Ev)(ks:cr)(ds:ac)(d j:D):aw Fl:=match j with
 |.str x=>if ks.length<line then .ok (.nx<|ρ.set i<|.ow<|Fh ks ds x d) else .stuck
 |_=>.stuck
section
variable {X:Cx}{E:XK}{He η:Hp}{e b:V4}{pos:Pos}{f k:bv}
def FY(hk:DE X E b k)(hv:DE X E e f):Uy X E (.Dict [Wp b] [e] pos) (EI k f):=by
 refine⟨?_⟩;refine bc (Lv (HX hk.o hv.o Li) rfl rfl 0#3 0#3) λσ H Q ⟨m,r,L,M,q⟩ p i=>?_;have O:m p=Wb:=L.free i;have w:aD m (upd H p<|.dK []):=λb o e=>by rw[ay (by intro z;subst z;rw[O]at e;cases e)];exact L _ _ e
 have back:∀{j c:Hp},bz (upd H p<|.dK []) m j c->bz H m j c:=λg=>⟨λb o e=>g.s _ _ (by rw[ay (aN e i)];exact e),g.z,g.sub,λa k1 k2=>by
   have:=g.nw a k1 k2
   by_cases N:a=p
   .subst N;exact i
   .rwa[ay N]at this⟩
 refine⟨m,r,w,M,?_⟩;unfold EI ag at q;cases I:k r with
 |stuck=>rwa[I]at q|exn z=>rw[I]at q;exact λC ox j c g A=>q C ox j c (back g) A
 |ok kd=>
  rw[I]at q;intro xk H1 J t U;refine⟨J,r,t.sub,M.mono t.z,?_⟩;cases B:f r with
  |stuck=>rwa[B]at q|exn z=>rw[B]at q;exact λC ox j c g A=>q C ox j c (back<|t.trans g) A
  |ok d=>
   rw[B]at q;intro v H2 l g2 T;cases kd with
   |str x=>
    have G:=t.trans g2;have y:H2 p=Wp (.dK []):=G.s _ _ aC;have n:l p=Wb:=by
     cases Y:l p with|none=>rfl|some o=>have:=G.nw p (by rw[Y];simp) O;rw[aC]at this;cases this
    rw[Rep.str_iff.mp U];refine⟨y,[(Wr x,v)],rfl,by simp,?_⟩;have q:∀p u j c,bz H m j c->H p=Wb->c p=Wb->j p=Wp (.dK<|([x].map Wr).zip u)->[x].length=u.length->Reps X.K c [d] u->Q (.ref p) j:=q;refine q p [v] _ l ⟨λb o e=>?_,G.z,λb o e=>?_,(back G).nw⟩ i n aC rfl (Reps.cons T Reps.nil)
    .rw[ay (aN e i)];exact(back G).s _ _ e
    .rw[ay (by intro z;subst z;rw[n]at e;cases e)];exact G.sub _ _ e
   |_=>exact q.elim
def Fp{K:Va}{k:cr->ac->aw Fl}(h:eG K He η Ha c H ρ)(q:bX K E He η Ha (CC ρ i k) o) :
  ∃ks ds p vs,ρ[i]?=Wp (.ow<|.dic ks ds)/\c[i]?=Wp (Wp<|.ref p)/\H p=Wp (.dK<|(ks.map Wr).zip vs)/\ks.length=vs.length/\Reps K Ha ds vs/\bX K E He η Ha (k ks ds) o:=by
 unfold CC at q;cases e:ρ[i]? with
 |none=>rw[e]at q;exact q.elim
 |some s=>
  rw[e]at q;cases s with
  |no|sh d|ox j ds|pt a=>exact q.elim
  |ow d=>
   cases d with
   |dic ks ds=>
    obtain⟨p,n,t,r,vs,m,l,g⟩:=h.ow i _ e;exact⟨ks,ds,p,vs,rfl,n,m,l,g,q⟩
   |_=>exact q.elim
def HS{K:Va}(h:eG K He η Ha c H ρ)(w:ρ[i]?=Wp (.ow<|.dic ks ds))(t:c[i]?=Wp (Wp<|.ref p))(s:H p=Wp (.dK<|(ks.map Wr).zip vs))(l:ks.length=vs.length)(r:Reps K Ha ds vs)
  (n:Rep K Ha d v)(o:Rep K Ha j u)(q:bX K E He η Ha (rF i ρ ks ds d j) y):∃a m,V.ref p=.ref a/\Gu H a u v m/\y.nx c m:=by
 unfold rF at q;cases j with
 |str x=>
  by_cases g:ks.length<line
  .simp only[ef g]at q
   rw[Rep.str_iff.mp o];refine⟨p,_,rfl,Gu.k (k:=.inr x) s ?_,?_⟩
   .rw[List.length_zip,U8,←l,Nat.min_self]
    have:line<=sizeLine:=dW<|VB _;omega
   .exact q c _ Ha (aD.refl _)<|h.writeG w t<|Lf l r n
  .simp only[eo g]at q;exact q.elim
 |_=>exact q.elim
end
section
variable {X:Cx}{E:XK}{He η:Hp}{e b o:V4}{pos apos cpos:Pos}{f k g:bv}
def un1(h:n+64<Xu):n+1<Xu:=VN 0#2 h
end
theorem Reps.erase{K:Va}:∀{ds:ac}{vs:am}(n:Nat),Reps K H ds vs->Reps K H (ds.eraseIdx n) (vs.eraseIdx n)
 |[],vs,n,h=>by rw[Reps.nil_iff.mp h];exact Reps.nil
 |d::ds,vs,n,h=>by
  obtain⟨v,c,rfl,b,a⟩:=az.mp h;cases n with|zero=>exact a|succ n=>exact Reps.cons b<|Reps.erase n a
section
variable {X:Cx}{E:XK}{a b:V4}{f g:bv}{pos:Pos}
def R5(x y:D):aw D:=match x,y with
 |.tup [],.tup c=>.ok<|.tup c
 |.tup d,.tup c=>if d.isEmpty=Vd/\d.length+c.length<=line then .ok (.tup<|d++c) else .stuck
 |_,_=>.stuck
end
structure Rw where
 x:Vq
 st:Xi
 N:cr
 n:Nat
abbrev Rw.ps(r:Rw):cr:=r.N.take r.n
instance {N P:cr}{sc:Yt}:Decidable (dy N P sc) :=
 decidable_of_iff (sc.kind=.function/\sc.isCoroutine=Vd/\sc.isGenerator=Vd/\N.Nodup/\N.take P.length=P/\(∀x∈P,sc.names.lookup x=Wp .local ∨ sc.names.lookup x=Wp .cell)/\∀y∈sc.names,y.2≠.free)
  ⟨λ⟨a,b,c,d,e,f,g⟩=>⟨a,b,c,d,e,f,g⟩,λ⟨a,b,c,d,e,f,g⟩=>⟨a,b,c,d,e,f,g⟩⟩
def SM(rows:List Rw):Prop:=∀r∈rows,dy r.N r.ps<|defScope r.st
instance {rows:List Rw}:Decidable (SM rows):=inferInstanceAs (Decidable (∀r∈rows,_))
def TG(rows:List Rw)(K:Va)(a:Vq->Option U5)(A:Nat->Vi)(Q:Nat->WD):Prop:=∀i r,rows[i]?=Wp r->FT K a r.x r.st r.ps (A i) (Q i)
def Qv(r:Rw):Prop:=∀(kV doc c:U5) (d:Option Vi) (b ct:U5) (a:List U5),a.length=r.ps.length->bindArgs (X6 r.x r.x (defArgs r.st) (defBody r.st) (defScope r.st) .none kV doc c d b ct) ⟨a,[]⟩=pure (r.ps.zip a)
def QAs(K:Va):List Rw->List Vi->Prop
 |[],_=>True
 |r::b,a::c=>QA K r.x r.st a/\QAs K b c
 |_::_,[]=>False
def QAs.cons{K:Va}{st:Xi}(q:QA K x st a)(t:QAs K rs as):QAs K (⟨x,st,N,n⟩::rs) (a::as):=⟨q,t⟩
theorem Nd{K:Va}{h:Vu}{c:Vq->Option U5}(X:K.In h)(G:h.Ns Vz c):∀{rows:List Rw}{as:List Vi},(∀r∈rows,Qv r)->QAs K rows as ->
  ∃Q:Nat->WD,∀i r,rows[i]?=Wp r->FT K c r.x r.st r.ps (as.getD i 0) (Q i)/\∃kV doc l p b ct,Q i=X6 r.x r.x (defArgs r.st) (defBody r.st) (defScope r.st) .none kV doc l p b ct
 |[],as,_,_=>⟨λ_=>default,λi r e=>by simp at e⟩
 |r::g,[],_,q=>q.elim
 |r::g,a::as,f,q=>by
  obtain⟨Q,h⟩:=Nd X G (λr m=>f r<|U9 _ m) q.2;obtain⟨d,o,n⟩:=RT X G q.1<|f r Ve;refine⟨λi=>match i with|0=>d|i+1=>Q i,λi j e=>?_⟩;cases i with|zero=>rw[Wz]at e;cases e;exact⟨o,n⟩|succ i=>rw[VZ]at e;exact h i j e
structure fP (P:V5) (w:Wx) (K:Va) (mg:Vq->Option U5) (base:Vu) (CX:Ac) (k:Nat) (fn:Vi) (fd:WD) (ps:cr) (sp:Sp) (x:Vq) (st:Xi):Prop where
 F:ft P w K mg base CX k fn fd ps sp
 t:FT K mg x st ps fn fd
section
variable {P:V5}{w:Wx}{K:Va}{mg:Vq->Option U5}{base:Vu}{rows:List Rw}{A:Nat->Vi}{Q:Nat->WD}{i k n:Nat}{r:Rw}{s:ci}{sM:Vi->Ev->ac->aw MFl}
variable (T:TG rows K mg A Q) (S:SM rows) (h:rows[i]?=Wp r)
include T S h
theorem oD(b:∀(a:U5) (c:Wh) (outer:List Wq) (s0:Vm) (H Ha:Hp) (E:XK),cW k (c.deeper<|envOfC r.x (defScope r.st) 2#s0 (A i) a) ->
   B2 (cP CX0 P w K mg base r.N r.x (defScope r.st) (A i) a c outer s0 H E).nox E H Ha (defBody r.st) s):fP P w K mg base CX0 (k+1) (A i) (Q i) r.ps (spD K r.ps.length<|bH r.N.length s) r.x r.st :=
 ⟨FR (T i r h).F (S r<|VQ h) b,T i r h⟩
theorem oE(b:∀(a:U5) (c:Wh) (outer:List Wq) (s0:Vm) (H Ha:Hp) (E:XK),cW k (c.deeper<|envOfC r.x (defScope r.st) 2#s0 (A i) a) ->
   B2 (cP (fR P w) P w K mg base r.N r.x (defScope r.st) (A i) a c outer s0 H E) E H Ha (defBody r.st) s):fP P w K mg base (fR P w) (k+1) (A i) (Q i) r.ps (spD K r.ps.length<|bH r.N.length s) r.x r.st :=
 ⟨Dc (T i r h).F (S r<|VQ h) b,T i r h⟩
end
section
variable {X:Cx}{E:XK}{e:V4}{es:List V4}{fa:Ev->aw (ac)}{pos:Pos}{CX:Ac}{k k0 n:Nat}{fn:Vi}{fd:WD}{ps:cr}{m:ac->aw D}{x:Vq}{p:Pos}{st:Xi}
def rC(B:fP X.prog X.w X.K X.mg X.base CX k0 fn fd ps (spD X.K n m) x st)(j:cW k X.A)(s:DA X E (e::es) fa)(d:k0<=k:=by decide)(i:gN CX X E:=by first|exact AJ|exact a|exact zd)(o:∀ρ ds,fa ρ=.ok ds->ds.length=(e::es).length:=by first|exact T6|exact T5|exact T4|exact Ut|exact u)(l:(e::es).length=n:=by rfl)
  (q:Gl X x:=by exact rfl)(f:1#x:=by decide)(r:Vg (e::es) X.env=(Vd,eval e X.env)::Vg es X.env:=by exact aM rfl)(c:(Wn pos<|Vg es X.env).any (·.1)=Vd:=by exact bM rfl) :
  DE X E (.Call (.Name x p) (e::es) [] pos) (ak fa m):=Mu (B.F.mono d) j q B.t.g B.t.F.kp B.t.b i s l o f r c
def rD(B:fP X.prog X.w X.K X.mg X.base (fR X.prog X.w) k0 fn fd ps (spD X.K n m) x st)(j:cW k X.A)(s:DA X.nox E0 (e::es) fa)(d:k0<=k:=by decide)(o:∀ρ ds,fa ρ=.ok ds->ds.length=(e::es).length:=by first|exact T6|exact T5|exact T4|exact Ut|exact u)(l:(e::es).length=n:=by rfl)
  (q:Gl X x:=by exact rfl)(f:1#x:=by decide)(r:Vg (e::es) X.env=(Vd,eval e X.env)::Vg es X.env:=by exact aM rfl)(c:(Wn a<|Vg es X.env).any (·.1)=Vd:=by exact bM rfl)
  (i:WI (.Call (.Name x p) (e::es) [] a) Wb pos.line X.env=pure Vd:=by rfl):TB X (.Expr (.Call (.Name x p) (e::es) [] a) pos) (fz fa m):=KU (B.F.mono d) j q B.t.g B.t.F.kp B.t.b s l o f r c i
end
def UY(d:r.ps.length=1:=by rfl)(f:∀(kV doc c:U5) (g:Option Vi) (a ct b:U5),bindArgs (X6 r.x r.x (defArgs r.st) (defBody r.st) (defScope r.st) .none kV doc c g a ct) ⟨[b],[]⟩=pure (r.ps.zip [b]):=by intros;rfl):Qv r:=λ_ _ _ _ _ _ i e=>by
 obtain⟨b,rfl⟩:=TC<|e.trans d;exact f ..
def UX(e:r.ps.length=2:=by rfl)(g:∀(kV doc d:U5) (i:Option Vi) (a ct b c:U5),bindArgs (X6 r.x r.x (defArgs r.st) (defBody r.st) (defScope r.st) .none kV doc d i a ct) ⟨[b,c],[]⟩=pure (r.ps.zip [b,c]):=by intros;rfl):Qv r:=λ_ _ _ _ _ _ j f=>by
 obtain⟨b,c,rfl⟩:=SE<|f.trans e;exact g ..
def UW(f:r.ps.length=3:=by rfl)(i:∀(kV doc e:U5) (j:Option Vi) (a ct b c d:U5),bindArgs (X6 r.x r.x (defArgs r.st) (defBody r.st) (defScope r.st) .none kV doc e j a ct) ⟨[b,c,d],[]⟩=pure (r.ps.zip [b,c,d]):=by intros;rfl):Qv r:=λ_ _ _ _ _ _ l g=>by
 obtain⟨b,c,d,rfl⟩:=Tz<|g.trans f;exact i ..
def UU(g:r.ps.length=4:=by rfl)(j:∀(kV doc f:U5) (l:Option Vi) (a ct b c d e:U5),bindArgs (X6 r.x r.x (defArgs r.st) (defBody r.st) (defScope r.st) .none kV doc f l a ct) ⟨[b,c,d,e],[]⟩=pure (r.ps.zip [b,c,d,e]):=by intros;rfl):Qv r:=λ_ _ _ _ _ _ m i=>by
 obtain⟨b,c,d,e,rfl⟩:=Um<|i.trans g;exact j ..
end DL
namespace DL
open PySem L2
section
variable {α β:Type}
def Rf(a b:aw α):Prop:=a=.stuck∨a=b
def dq{f g:α->aw β}(h:Rf a b)(k:∀x,Rf (f x)<|g x):Rf (a.bind f) (b.bind g):=by
 rcases h with rfl|rfl
 .exact .inl rfl
 .cases a with
  |ok x=>exact k x
  |exn x=>exact .inr rfl
  |stuck=>exact .inl rfl
structure mW (f g:Ev->aw α):Prop where
 o:∀ρ,Rf (f ρ) (g ρ)
end
structure NN (f g:ac->aw D):Prop where
 o:∀ds,Rf (f ds) (g ds)
def NN.ok(h:NN f g)(e:f ds=.ok d):g ds=.ok d:=by
 rcases h.o ds with q|q
 .rw[q]at e;cases e
 .rw[←q];exact e
def rfm_refl:NN f f:=⟨λ_=>.inr rfl⟩
def rf_refl{f:Ev->aw a}:mW f f:=⟨λ_=>.inr rfl⟩
section
variable {s s' t t':ci}{c c' f f':bv}{fa fa':Ev->aw (ac)}{m m':ac->aw D}
def rf_stuck:mW gA s:=⟨λ_=>.inl rfl⟩
def rf_seq(e:mW s s')(d:mW t t'):mW (ar s t) (ar s' t'):=⟨λb=>dq (e.o b) λr=>by
 cases r with
 |nx a=>exact d.o a
 |_=>exact .inr rfl⟩
def rf_if(d:mW c c')(g:mW s s')(e:mW t t'):mW (dG c s t) (dG c' s' t'):=⟨λa=>dq (d.o _) λr=>by
 cases r with
 |bl b=>cases b with
  |true=>exact g.o a
  |false=>exact e.o a
 |_=>exact .inr rfl⟩
theorem sV(h:mW s s'):∀(ds:ac) (ρ:Ev),Rf (bT tg s ds ρ) (bT tg s' ds ρ)
 |[],ρ=>.inr rfl
 |d::r,ρ=>by
  unfold bT;refine dq (.inr rfl) λb=>dq (h.o b) λx=>?_;cases x with|nx a|ct a=>exact sV h r a|bk a|rt d=>exact .inr rfl
def rf_for(b:mW f f')(h:mW s s'):mW (lD f tg s) (lD f' tg s'):=⟨λa=>dq (b.o a) λd=>by
 cases d with
 |lst e=>exact sV h e a
 |_=>exact .inr rfl⟩
def rf_forI(h:mW s s'):mW (jW a tg s) (jW a tg s'):=⟨λb=>dq (.inr rfl) λd=>sV h d b⟩
def rf_drop(h:mW f f'):mW (fL f) (fL f'):=⟨λa=>dq (h.o _) λ_=>.inr rfl⟩
def rf_ret(h:mW f f'):mW (bJ f) (bJ f'):=⟨λa=>dq (h.o _) λ_=>.inr rfl⟩
def rf_set(h:mW f f'):mW (aJ i f) (aJ i f'):=⟨λa=>dq (h.o _) λ_=>.inr rfl⟩
def rf_b1(h:mW f f'):mW (aL f a) (aL f' a):=⟨λb=>dq (h.o _) λ_=>.inr rfl⟩
def rf_not(h:mW f f'):mW (cD f) (cD f'):=rf_b1 h
def rf_b2(h:mW f f')(b:mW c c'):mW (ag f c a) (ag f' c' a):=⟨λd=>dq (h.o _) λ_=>dq (b.o _) λ_=>.inr rfl⟩
def rf_bA(h:mW fa fa')(a:NN m m'):mW (ak fa m) (ak fa' m'):=⟨λd=>dq (h.o _) λb=>a.o b⟩
def rf_cons(h:mW f f')(a:mW fa fa'):mW (ae f fa) (ae f' fa'):=⟨λb=>dq (h.o _) λ_=>dq (a.o _) λ_=>.inr rfl⟩
def Cr(h:mW s s'):NN (bH n s) (bH n s'):=⟨λa=>dq (h.o _) λr=>.inr rfl⟩
end
end DL
local macro_rules|`(tactic|open_line with[rf_go])=>`(tactic|repeat (first|with_reducible exact DL.rf_refl|with_reducible exact DL.rf_stuck|with_reducible assumption|with_reducible exact DL.rfm_refl|with_reducible refine DL.rf_seq ?_ ?_|with_reducible refine DL.rf_if ?_ ?_ ?_|with_reducible refine DL.rf_for ?_ ?_|with_reducible refine DL.rf_forI ?_|with_reducible refine DL.rf_drop ?_|with_reducible refine DL.rf_ret ?_|with_reducible refine DL.rf_set ?_|with_reducible refine DL.rf_not ?_|with_reducible refine DL.rf_bA ?_ ?_|with_reducible refine DL.rf_cons ?_ ?_|with_reducible refine DL.rf_b1 ?_|with_reducible refine DL.rf_b2 ?_ ?_))
namespace Wex
open PySem L2 DL Com
def tX(d:D):aw (ac):=match d with
 |.int j=>if -4611686018427387904<=j/\j<4611686018427387904 then .ok (DL.intsFrom 0 j.toNat) else .stuck
 |_=>.stuck
def plainD:D->Bool
 |.non=>VO
 |.bl _=>VO
 |.int _=>VO
 |.str _=>VO
 |.tup _=>VO
 |.lst _=>VO
 |_=>Vd
def takB(w:jU):Int->ac->Bool
 |_,[]=>VO
 |a,d::r=>match d with
  |.int n=>decide (0<=n)&&decide (n<(w.ts.length:Int))&&decide (a<n)&&FI w n.toNat&&takB w n r
  |_=>Vd
def CJ(hd:plainD d=VO)(hi:∀n,d≠.int n):m_is_tie_number [aI w,d]=.ok (.bl Vd):=by
 rw[show aI w=.tup [.lst<|w.ps.map D.str,.lst<|w.ts.map bo,.str w.fi,.str w.la] from rfl];cases d with
 |int n=>exact er rfl (hi n)
 |non=>erw[m_is_tie_number,cq,cH,Gw]
 |bl b=>erw[m_is_tie_number,cq,cH,Gw]
 |str b=>erw[m_is_tie_number,cq,cH,Gw]
 |tup b=>erw[m_is_tie_number,cq,cH,Gw]
 |lst b=>erw[m_is_tie_number,cq,cH,Gw]
 |_=>cases hd
def CK:m_is_tie_number [aI w,.int n]=.ok (.bl (decide (0<=n)&&decide (n<(w.ts.length:Int)))):=by
 rw[show aI w=.tup [.lst<|w.ps.map D.str,.lst<|w.ts.map bo,.str w.fi,.str w.la] from rfl];cases h:decide ((0:Int)<=n) with
 |false=>erw[m_is_tie_number,cq,cH,Gw,U8,h,WE]
 |true=>erw[m_is_tie_number,cq,cH,Gw,U8,h,Xp]
noncomputable abbrev takBody:ci:=(ar (dG (iU (cD<|ak (ae 0#6<|ae 3#6 av) m_is_tie_number)<|ag 3#6 2#6 Mx)
 (ar (ic "NoTaking"<|ae 0#"a taking is of rising numbers of ties" av)
 au)
 au)
 (ar (dG (ag (ag (ag (ag 0#6 1#0 aE) 3#6 aE) 4#0 aE) 0#4 qX)
 (ar (ic "NoTaking"<|ae 0#"a watched tie can't be taken" av)
 au)
 au)
 (ar (aJ 2<|af 3)
 au)))
theorem tak_loop:∀(ds:ac) (a:Int) (x:Sl),(∀d∈ds,plainD d=VO)->(takB w a ds=VO->∃ρ',bT (bK 3) takBody ds [.sh<|aI w,L,.sh<|.int a,x]=.ok (.nx ρ'))/\(takB w a ds=Vd->bT (bK 3) takBody ds [.sh<|aI w,L,.sh<|.int a,x]=.exn ⟨"NoTaking",[]⟩)
 |[],a,x,_=>⟨λ_=>⟨_,rfl⟩,λh=>by cases h⟩
 |d::ds,a,x,u=>by
  have s:=λn y=>tak_loop (w:=w) (L:=L) ds n y λd hd=>u d<|U9 _ hd;have hd:=u d Ve;have I:bK 3 [.sh<|aI w,L,.sh<|.int a,x] d=.ok [.sh<|aI w,L,.sh<|.int a,.sh d]:=rfl;have c:∀r:aw Fl,takBody [.sh (aI w),L,.sh (.int a),.sh d]=r->bT (bK 3) takBody (d::ds) [.sh (aI w),L,.sh (.int a),x]=r.bind λx=>match x with
   |.nx f=>bT (bK 3) takBody ds f
   |.ct f=>bT (bK 3) takBody ds f
   |.bk f=>.ok<|.nx f
   |.rt d=>.ok (.rt d):=λr B=>by rw[←B];(conv=>lhs;unfold bT;rw[I]);rfl
  by_cases m:∃n,d=.int n
  .obtain⟨n,rfl⟩:=m
   have g:=CK (w:=w) (n:=n);have H:takB w a (.int n::ds)=(decide (0<=n)&&decide (n<(w.ts.length:Int))&&decide (a<n)&&FI w n.toNat&&takB w n ds):=rfl;rw[H];cases p:(decide (0<=n)&&decide (n<(w.ts.length:Int))) with
   |false=>
    rw[p]at g;refine⟨λh=>(by cases h),λ_=>?_⟩;rw[c (.exn ⟨"NoTaking",[]⟩) (by erw[g,bu,gh,eK])];rfl
   |true=>
    rw[p]at g;cases A:decide (a<n) with
    |false=>
     have q:¬a<n:=of_decide_eq_false A;refine⟨λh=>(by cases h),λ_=>?_⟩;rw[c (.exn ⟨"NoTaking",[]⟩) (by erw[g,dV (show n<=a by omega),bu,gh,eK])];rfl
    |true=>
     have q:a<n:=et A;simp only[Vv,ez]at p;have j:n.toNat<w.ts.length:=by omega
     have t:w.ts[n.toNat]?=Wp w.ts[n.toNat]:=U7 j;have e:=N6 t;rw[show((n.toNat:Nat):Int)=n by omega]at e;have G:FI w n.toNat=(w.ts[n.toNat].o).isSome:=by unfold FI;rw[t];rfl
     rw[show bo w.ts[n.toNat]=.tup [.str w.ts[n.toNat].a,.str w.ts[n.toNat].b,.str w.ts[n.toNat].w,fr w.ts[n.toNat].l,cK w.ts[n.toNat].o] from rfl]at e;rw[G];rw[show aI w=.tup [.lst<|w.ps.map D.str,.lst<|w.ts.map bo,.str w.fi,.str w.la] from rfl]at g c s ⊢;cases i:w.ts[n.toNat].o with
     |none=>
      rw[i]at e;refine⟨λh=>(by cases h),λ_=>?_⟩;rw[c (.exn ⟨"NoTaking",[]⟩) (by erw[g,en (show ¬n<=a by omega),e,cK,bu,gh,eK])];rfl
     |some v=>
      rw[i]at e;have E:takBody [.sh<|.tup [.lst<|w.ps.map D.str,.lst<|w.ts.map bo,.str w.fi,.str w.la],L,.sh<|.int a,.sh<|.int n]=.ok (.nx [.sh<|.tup [.lst<|w.ps.map D.str,.lst<|w.ts.map bo,.str w.fi,.str w.la],L,.sh<|.int n,.sh<|.int n]):=by
       erw[g,en (show ¬n<=a by omega),e,cK,fr,RU]
      rw[c _ E];exact s n<|.sh<|.int n
  .have i:=CJ (w:=w) hd λn z=>m ⟨n,z⟩
   have C:takB w a (d::ds)=Vd:=by
    unfold takB;cases d with|int n=>exact er ⟨n,rfl⟩ m| _=>rfl
   refine⟨λh=>(by rw[C]at h;cases h),λ_=>?_⟩;rw[c (.exn ⟨"NoTaking",[]⟩) (by erw[i,bu,gh,eK])];rfl
theorem xE:∀{ds:ac}{a:Int},takB w a ds=VO->∃ns:db,ds=ns.map (λ(k:Nat)=>D.int (k:Int))/\ns.Pairwise (· < ·)/\(∀n∈ns,a<(n:Int)/\n<w.ts.length/\FI w n=VO)
 |[],a,_=>⟨[],rfl,.nil,λ_ h=>(nomatch h)⟩
 |d::ds,a,h=>by
  unfold takB at h;cases d with
  |int n=>
   simp only[Vv,ez]at h;obtain⟨⟨⟨⟨l,j⟩,i⟩,g⟩,f⟩:=h;obtain⟨ns,rfl,e,c⟩:=xE f;refine⟨n.toNat::ns,?_,List.pairwise_cons.mpr ⟨λk b=>?_,e⟩,λk b=>?_⟩
   .rw[Vf,show((n.toNat:Nat):Int)=n by omega]
   .have:=(c k b).1;omega
   .rcases Vl.mp b with rfl|b
    .exact⟨by omega,by omega,g⟩
    .have:=c k b;exact⟨by omega,this.2⟩
  |_=>cases h
def no_take(h:∀ns:db,ds=ns.map (λ(k:Nat)=>D.int (k:Int))->ns.Pairwise (· < ·)->(∀n∈ns,n<w.ts.length/\FI w n=VO)->False):takB w (-1) ds=Vd:=by
 cases e:takB w (-1) ds with|false=>rfl|true=>obtain⟨ns,d,c,b⟩:=xE e;exact(h ns d c λn a=>(b n a).2).elim
def Jg{ns:db}(h:d∈ns.map (λ(k:Nat)=>D.int (k:Int))):∃k∈ns,d=.int (k:Int):=by
 obtain⟨k,a,rfl⟩:=VD.mp h;exact⟨k,a,rfl⟩
def no_take_odd(hd:d∈ds)(h:∀n,d≠.int n):takB w (-1) ds=Vd:=no_take λa e _ _=>by
 subst e;obtain⟨k,_,e⟩:=Jg hd;exact h _ e
def no_take_int(hd:.int n∈ds)(h:n<0∨(w.ts.length:Int)<=n∨FI w n.toNat=Vd):takB w (-1) ds=Vd:=no_take λc e _ a=>by
 subst e;obtain⟨k,b,e⟩:=Jg hd;cases e;have:=a k b;rw[Wo,this.2]at h;rcases h with h|h|h
 .omega
 .omega
 .cases h
end Wex
namespace Nwb
open PySem L2 DL Com
noncomputable def b_look_at_places:ci :=
 (ar (dG (iU (cD<|aL 0#6<|eY "list")<|cD<|jk Mx Mx 2#0 (ak (ae 0#6 av)<|m1 eg)<|dC<|.int 7)
 (ar (fu "NoWeb" ["part","number"]<|ae 0#"places"<|ae 0#4 av)
 au)
 au)
 (ar (jW (oo<|af 0) (dE [1,2])
 (ar (dG (iU (cD<|ak (ae 2#6 av) m_is_name)<|ag 2#6 (dZ 0#6 cR<|bS<|af 1) nY)
 (ar (fu "NoWeb" ["part","number"]<|ae 0#"places"<|ae 1#6 av)
 au)
 au)
 au))
 au))
def m_look_at_places:ac->aw D:=bH 3 b_look_at_places
noncomputable def b_look_at_ties:ci :=
 (ar (dG (iU (cD<|aL 0#6<|eY "list")<|ag (ak (ae 0#6 av)<|m1 eg) 14#0 My)
 (ar (fu "NoWeb" ["part","number"]<|ae 0#"ties"<|ae 0#4 av)
 au)
 au)
 (ar (jW (oo<|af 0) (dE [2,3])
 (ar (dG (iU (cD<|ak (ae 3#6 av) m_is_tie)<|iU (ag (ag 3#6 0#0 aE) 1#6 bG)<|ag (ag 3#6 1#0 aE) 1#6 bG)
 (ar (fu "NoWeb" ["part","number"]<|ae 0#"ties"<|ae 2#6 av)
 au)
 au)
 au))
 au))
def m_look_at_ties:ac->aw D:=bH 4 b_look_at_ties
noncomputable def b_look_at_web:ci :=
 (ar (dG (iU (cD<|aL 0#6<|eY "tuple")<|ag (ak (ae 0#6 av)<|m1 eg) 4#0 iE)
 (ar (fu "NoWeb" ["part","number"]<|ae 0#"web"<|ae 0#4 av)
 au)
 au)
 (ar (fL<|ak (ae (ag 0#6 0#0 aE) av) m_look_at_places)
 (ar (fL<|ak (ae (ag 0#6 1#0 aE)<|ae (ag 0#6 0#0 aE) av) m_look_at_ties)
 (ar (dG (cD<|ak (ae (ag 0#6 2#0 aE)<|ae (ag 0#6 0#0 aE) av) m_is_place)
 (ar (fu "NoWeb" ["part","number"]<|ae 0#"first"<|ae 0#4 av)
 au)
 au)
 (ar (dG (iU (cD<|ak (ae (ag 0#6 3#0 aE)<|ae (ag 0#6 0#0 aE) av) m_is_place)<|ag (ag 0#6 3#0 aE) (ag 0#6 2#0 aE) gZ)
 (ar (fu "NoWeb" ["part","number"]<|ae 0#"last"<|ae 0#4 av)
 au)
 au)
 au)))))
def m_look_at_web:ac->aw D:=bH 1 b_look_at_web
def exW(p:Vq)(n:D):Kp:=⟨"NoWeb",[("part",.str p),("number",n)]⟩
def ev_raiseW:y8 "NoWeb" ["part","number"] [.str p,n]=.exn (exW p n):=Df
def xO:NN Com.m_look_at_places m_look_at_places:=Cr (by unfold Com.b_look_at_places b_look_at_places;erw[rf_go])
def DZ:NN Com.m_look_at_ties m_look_at_ties:=Cr (by unfold Com.b_look_at_ties b_look_at_ties;erw[rf_go])
def Ot:NN Com.m_look_at_web m_look_at_web:=by
 have b:=xO;have a:=DZ;exact Cr (by unfold Com.b_look_at_web b_look_at_web;erw[rf_go])
def webX(W:cI w):m_look_at_web [aI w]=.ok .non:=Ot.ok<|NY W
def placesX(b:2<=zs.length)(a:zs.length<=7)(nm:iM zs):m_look_at_places [.lst<|zs.map D.str]=.ok .non:=xO.ok<|xQ b a nm
def tiesX{ts:List kW}(a:ts.length<=14)(nm:iM zs)(b:∀t∈ts,qw zs t):m_look_at_ties [.lst<|ts.map bo,.lst<|zs.map D.str]=.ok .non:=DZ.ok<|DK a nm b
def numbered_at{k:Nat}(h:(DL.numbered 0 xs)[k]?=Wp d):∃x,xs[k]?=Wp x/\d=.tup [.int (k:Int),x]:=by
 have:=kE (F:=id) (xs:=xs) (k:=k) (d:=d) (by rw[ZL];exact h);exact this
def numbered_len(xs:ac):∀k,(DL.numbered k xs).length=xs.length:=by
 induction xs with|nil=>intro k;rfl|cons x xs a=>intro k;unfold DL.numbered;rw[Vp,a,Vp]
def cut_id{k:Nat}(h:k<=xs.length):cE xs Wb (Wp (k:Int))=xs.take k:=by
 have:=JQ (F:=id) (xs:=xs) h
 rwa [ZL,ZL]at this
def places_size(h:ds.length<2∨7<ds.length):m_look_at_places [.lst ds]=.exn (exW "places" .non):=by
 rcases h with h|h
 .have a:decide ((2:Int)<=(ds.length:Int))=Vd:=en 0#2
  erw[m_look_at_places,b_look_at_places,a,cy,ev_raiseW,bu]
 .have a:decide ((2:Int)<=(ds.length:Int))=VO:=dV 0#2
  have b:decide ((ds.length:Int)<=7)=Vd:=en 0#2;erw[m_look_at_places,b_look_at_places,a,b,cy,ev_raiseW,bu]
def places_kind(h:eY "list" d=.ok (.bl Vd)):m_look_at_places [d]=.exn (exW "places" .non):=by
 erw[m_look_at_places,b_look_at_places,h,cy,ev_raiseW,bu]
def ties_kind(h:eY "list" d=.ok (.bl Vd)):m_look_at_ties [d,p]=.exn (exW "ties" .non):=by
 erw[m_look_at_ties,b_look_at_ties,h,cy,ev_raiseW,bu]
def ties_size(h:14<ds.length):m_look_at_ties [.lst ds,p]=.exn (exW "ties" .non):=by
 erw[m_look_at_ties,b_look_at_ties,dV (show(ds.length:Int) > 14 by omega),cy,ev_raiseW,bu]
def TieOut(zs:cr)(d:D):Prop:=m_is_tie [d]=.ok (.bl Vd)∨(m_is_tie [d]=.ok (.bl VO)/\∃a b r,d=.tup (.str a::.str b::r)/\(a∉zs∨b∉zs))
def web_kind(h:eY "tuple" d=.ok (.bl Vd)):m_look_at_web [d]=.exn (exW "web" .non):=by
 erw[m_look_at_web,b_look_at_web,h,cy,ev_raiseW,bu]
def web_size(h:ds.length≠4):m_look_at_web [.tup ds]=.exn (exW "web" .non):=by
 have e:iE (.int (ds.length:Int)) (.int 4)=.ok (.bl VO):=by
  rw[nG];have:((ds.length:Int)==4)=Vd:=beq_eq_false_iff_ne.mpr 0#2;rw[this];rfl
 erw[m_look_at_web,b_look_at_web,e,cy,ev_raiseW,bu]
section
variable {p t f l:D}{x:Kp}
def web_places(h:m_look_at_places [p]=.exn x):m_look_at_web [.tup [p,t,f,l]]=.exn x:=by
 erw[m_look_at_web,b_look_at_web,h,bu]
def web_ties(h:m_look_at_places [p]=.ok .non)(a:m_look_at_ties [t,p]=.exn x):m_look_at_web [.tup [p,t,f,l]]=.exn x:=by
 erw[m_look_at_web,b_look_at_web,h,a,bu]
def web_first(h:m_look_at_places [p]=.ok .non)(b:m_look_at_ties [t,p]=.ok .non)(a:m_is_place [f,p]=.ok (.bl Vd)):m_look_at_web [.tup [p,t,f,l]]=.exn (exW "first" .non):=by
 erw[m_look_at_web,b_look_at_web,h,b,a,cy,ev_raiseW,bu]
def web_last(h:m_look_at_places [p]=.ok .non)(c:m_look_at_ties [t,p]=.ok .non)(b:m_is_place [f,p]=.ok (.bl VO))(a:m_is_place [l,p]=.ok (.bl Vd)):m_look_at_web [.tup [p,t,f,l]]=.exn (exW "last" .non):=by
 erw[m_look_at_web,b_look_at_web,h,c,b,a,cy,ev_raiseW,bu]
end
def web_same(h:m_look_at_places [p]=.ok .non)(b:m_look_at_ties [t,p]=.ok .non)(a:m_is_place [.str z,p]=.ok (.bl VO)):m_look_at_web [.tup [p,t,.str z,.str z]]=.exn (exW "last" .non):=by
 erw[m_look_at_web,b_look_at_web,h,b,a,jB,cy,ev_raiseW,bu]
def place_no(h:m_is_name [d]=.ok (.bl Vd)):m_is_place [d,p]=.ok (.bl Vd):=by
 erw[m_is_place,nW,h]
def ix_some(e:0<=r)(c:r<ds.length):∃d∈ds,aE (.lst ds) (.int r)=.ok d:=by
 have a:r.toNat<ds.length:=by omega
 have b:ds[r.toNat]?=Wp ds[r.toNat]:=U7 a;have:=c5 b;rw[show((r.toNat:Nat):Int)=r by omega]at this;exact⟨_,Ww a,this⟩
def P7:ac:=[.tup [.int (-1),.int 2],.tup [.bl VO,.int 1],.lst [.int 1,.int 1],.str "x",.bl VO,.int 5,.str "",.str "A",.str "abcdefghi",.lst [],.dic [] [],.tup [.str "a",.str "b"]]
def KI:∀o∈D.str "two"::P7,(eY "str" o=.ok (.bl Vd))∨(eY "str" o=.ok (.bl VO)/\bG o (.tup [.str "one",.str "both"])=.ok (.bl VO)):=by
 intro o a;simp only[P7,Vl,Wu,ey]at a;rcases a with rfl|rfl|rfl|rfl|rfl|rfl|rfl|rfl|rfl|rfl|rfl|rfl|rfl<;>first|exact .inl rfl|exact .inr ⟨rfl,rfl⟩
section
variable {n0 n1:Vq}{d e:D}
def tie_same(a:nameB n0=VO):m_is_tie [.tup [.str n0,.str n0,.str "one",.tup [.int 1,.int 1],.non]]=.ok (.bl Vd):=by
 have:=cT a;erw[m_is_tie,jq,this,jB]
def tie_word(i:nameB n0=VO)(g:nameB n1=VO)(f:n0≠n1)(hd:d∈D.str "two"::P7):m_is_tie [.tup [.str n0,.str n1,d,.tup [.int 1,.int 1],.non]]=.ok (.bl Vd):=by
 have c:=cT i;have b:=cT g;have a:(n0==n1)=Vd:=beq_eq_false_iff_ne.mpr f;rcases KI d hd with h|⟨h,j⟩
 .erw[m_is_tie,jq,c,b,jB,a,h]
 .erw[m_is_tie,jq,c,b,jB,a,h,j]
end
end Nwb
namespace DL
open PySem PySem.Spec PyProof.Rows L2 PySem.W
noncomputable abbrev XQ(K:Frag) (q:Vq) (C CE f:Vi) (s:Xi) (ks:cr):Prop :=
 ∃(o kV doc l c ct:U5) (m A:Option Vi) (i:Array<|Option U5) (nm j:Vq) (n:Vi) (bs d:List U5) (v B:Bool) (e:cr) (a:Option Bool) (y x:Option Vi) (u t k2 r p:Option U5) (z:U5) (b:Array saf) (w:Nat) (st:Array<|Option U5),
  K.lookup C=Wp (excClassObj nm j C n bs [.ref CE,.type "ValueError",.type "Exception",.type "BaseException",.type "object"] v e d B a y u t k2 r p "ValueError.__new__")/\K.lookup n=Wp ⟨z,x,.dict b w,st⟩/\b.toList.all Nw=VO/\nsIn K n "__init__"=Wp (Wp<|.ref f) /\
  isFn K (.ref f)=VO/\K.lookup f=Wp ⟨o,m,.func<|fnOf "__init__" q (defArgs s) (defBody s) (defScope s) .none kV doc l A c ct,i⟩/\codeIn K c q=VO/\keepIn K (.ref f)=VO /\
  findIn K (.ref C) "__setattr__"=Wp (Wp<|.builtin "object.__setattr__")/\hasDictIn K C=VO/\∀g∈ks,dD K C g
structure SJ (K:Frag) (q:Vq) (C f:Vi) (fd:WD) (s:Xi) (ps ks:cr):Prop where
 Fi:B1 K "__init__" q s f fd
 bi:gw K fd ps []
 xi:MY K C f
 xs:Gx K C ks
 xf:isFn K (.ref f)=VO
def SU{K:Frag}{C CE f:Vi}{ps ks:cr}(n:∀{m},B1 K "__init__" q s f m->gw K m ps [])(x:XQ K q C CE f s ks)
  (o:excIn K CE [.type "ValueError",.type "Exception",.type "BaseException",.type "object"] "ValueError.__new__"=VO):∃m,SJ K q C f m s ps ks:=by
 obtain⟨_,_,_,_,_,_,_,_,_,_,_,_,_,_,_,_,_,_,_,_,_,_,_,_,_,_,_,_,_,a,b,c,d,e,g,h,i,j,k,l⟩:=x;have F:=uZ g h i;have I:=NU a b c d o;exact⟨_,F,n F,I,NS I j k l,e⟩
def Sb(K:Frag)(r:Vi):List Vi->List Bool->Prop
 |[],_=>True
 |_,[]=>False
 |c::a,b::bs=>subIn K (.ref r) (.ref c)=Wp b/\Sb K r a bs
def sb_c{K:Frag}{bs:List Bool}(h:subIn K (.ref r) (.ref c)=Wp b)(h':Sb K r cs bs):Sb K r (c::cs) (b::bs):=⟨h,h'⟩
theorem Hm{K:Frag}{r c:Vi}:∀{cs:List Vi}{bs:List Bool},Sb K r cs bs->∀n:Nat,cs[n]?=Wp c->subIn K (.ref r) (.ref c)=Wp (bs.getD n Vd)
 |[],_,_,_,e=>by cases e
 |_::_,[],h,_,_=>h.elim
 |_::_,_::_,h,0,e=>by cases e;exact h.1
 |_::_,_::_,h,n+1,e=>Hm h.2 n e
structure T8 (K:Frag) (x:Vq) (r:Vi) (cs:List Vi) (bs:List Bool):Prop where
 xc:XC K x r
 self:subIn K (.ref r) (.ref r)=Wp VO
 ve:subIn K (.ref r) (.type "ValueError")=Wp VO
 sb:Sb K r cs bs
def Gy(K:Frag)(cs:List Vi)(l:List<|Vq×Vi×List Bool):Prop:=∀q∈l,T8 K q.1 q.2.1 cs q.2.2
def NT{K:Frag}:Gy K cs []:=λ_ h=>nomatch h
def Qz{K:Frag}{bs:List Bool}(z:T8 K x r cs bs)(h:Gy K cs l):Gy K cs ((x,r,bs)::l):=λq a=>by
 rcases Vl.mp a with rfl|a
 .exact z
 .exact h q a
def SS{K:Frag}{bs:List Bool}(z:qv K x r)(p:Sb K r cs bs)(h:Gy K cs l):Gy K cs ((x,r,bs)::l):=Qz ⟨z.xcls.xc,z.self,z.ve,p⟩ h
def SR{K:Frag}{bs:List Bool}(z:qt K x r)(p:Sb K r cs bs)(h:Gy K cs l):Gy K cs ((x,r,bs)::l):=Qz ⟨z.xc,z.self,z.ve,p⟩ h
def yT{K:Frag}(h:Gy K cs l)(g:List Bool->Bool){p:Vi->Bool->Prop}(c:∀{x r bs},T8 K x r cs bs->p r (g bs)):∀q∈l.map λq=>(q.1,g q.2.2),∃C,XC K q.1 C/\p C q.2:=λq b=>by
 obtain⟨y,a,rfl⟩:=VD.mp b;exact⟨_,(h y a).xc,c<|h y a⟩
def Pk{K:Frag}{cs:List Vi}{l:List<|Vq×Vi×List Bool}{x:Vq}{C:Vi}{a:List<|Vq×Bool}(h:Gy K cs l)(z:kr K x C)(n:Nat)(d:cs[n]?=Wp C)(c:a=l.map λq=>(q.1,q.2.2.getD n Vd)):∀x D,rP a x=VO->XC K x D->exmOne K (.ref D) (.ref C)=Wp VO :=
 Jk (c▸yT h (·.getD n Vd) (p:=λr b=>exmOne K (.ref r) (.ref C)=Wp b) λy=>z.exm<|Hm y.sb n d)
def qE{K:Frag}(h:Gy K cs l)(z:kr K x C)(n:Nat)(c:cs[n]?=Wp C)(a:t=iW (l.map λq=>(q.1,q.2.2.getD n Vd))):TabOk K t (.ref C) :=
 a▸iP (p:=λ_ r b=>kitOne K (.ref r) (.ref C)=Wp b) (yT h (·.getD n Vd) (p:=λr b=>kitOne K (.ref r) (.ref C)=Wp b) λy=>z.kit y.self<|Hm y.sb n c)
def N9{K:Frag}(h:Gy K cs l)(a:t=iW (l.map λq=>(q.1,VO))):TabOk K t (.type "ValueError") :=
 a▸iP (p:=λ_ r b=>kitOne K (.ref r) (.type "ValueError")=Wp b) (yT h (λ_=>VO) (p:=λr b=>kitOne K (.ref r) (.type "ValueError")=Wp b) λy=>zu CY y.ve)
end DL
namespace K11
open PySem L2 DL
noncomputable def jT:ci :=
 (ar (aJ 1<|ak (ae (ag 0#6 0#0 aE)<|ae (ag 0#6 1#0 aE) av) bI)
 (ar (dG (ag (ag 0#6 2#0 aE) 0#"one" gZ)
 (ar (bJ<|ak (ae 1#6 av) aZ)
 au)
 au)
 (ar (bJ<|ak (ae 1#6<|ae (ak (ae (ag 0#6 1#0 aE)<|ae (ag 0#6 0#0 aE) av) bI) av) aZ)
 au)))
def m_steps_along:ac->aw D:=bH 2 jT
end K11
namespace K51
open PySem L2 DL
abbrev m_is_length:ac->aw D:=Com.m_is_length
noncomputable def b_has_lengths:ci :=
 (ar (dG (iU (cD<|aL 1#6<|eY "list")<|ag (ak (ae 1#6 av)<|m1 eg) (ak (ae (ag 0#6 1#0 aE) av)<|m1 eg) iE)
 (ar (bJ<|dC<|.bl Vd)
 au)
 au)
 (ar (bJ<|ak (ae (cJ 1 [] (lA<|af 1) (bK 0) mYes<|ak (ae 0#6 av) m_is_length) av)<|m1 p8)
 au))
def m_has_lengths:ac->aw D:=bH 2 b_has_lengths
abbrev m_steps_along:ac->aw D:=K11.m_steps_along
noncomputable def b_steps_left:ci :=
 (ar (mX 2<|ak av aZ)
 (ar (jW (oo<|ag 0#6 1#0 aE) (dE [3,4])
 (ar (dG (ag 3#6 1#6 bG)
 (ar (lD (ak (ae 4#6 av) m_steps_along) (dE [5,6])
 (ar (bP 2<|ak (ae 3#6<|ae 5#6<|ae 6#6 av) bI)
 au))
 au)
 au)
 au))
 (ar (bJ<|af 2)
 au)))
def m_steps_left:ac->aw D:=bH 7 b_steps_left
end K51
namespace K17
open PySem L2 DL
abbrev m_steps_along:ac->aw D:=K11.m_steps_along
abbrev m_steps_left:ac->aw D:=K51.m_steps_left
end K17
namespace K11
open PySem L2 DL Com
def cO:gZ (.str x) (.str y)=.ok (.bl (decide (x=y))):=by
 have h:gZ (.str x) (.str y)=.ok (.bl<|x==y):=rfl;rw[h]
 by_cases e:x=y
 .rw[dV e,e,eu]
 .rw[en e,beq_eq_false_iff_ne.mpr e]
def ways(t:kW):List (Vq×Vq):=if t.w="one" then[(t.a,t.b)] else[(t.a,t.b),(t.b,t.a)]
def pr(p:Vq×Vq):D:=.tup [.str p.1,.str p.2]
def steps_ok:m_steps_along [bo t]=.ok (.lst<|(ways t).map pr):=by
 obtain⟨a,b,w,l,o⟩:=t;rw[show bo ⟨a,b,w,l,o⟩=.tup [.str a,.str b,.str w,fr l,cK o] from rfl];unfold ways
 by_cases h:w="one"
 .rw[ef h]
  erw[m_steps_along,jT,cO,dV h,pr]
 .rw[eo h]
  erw[m_steps_along,jT,cO,en h,pr]
def xI{ks:db}:(ks.map λ(k:Nat)=>D.int (k:Int)).all (bp m)=VO:=V2.mpr λd hd=>by
 obtain⟨z,_,rfl⟩:=VD.mp hd;cases m<;>rfl
theorem zW{n:Nat}:∀{ks:db},((ks.map λ(k:Nat)=>D.int (k:Int)).any λd=>cX d<|.int (n:Int))=decide (n∈ks)
 |[]=>rfl
 |k::ks=>by
  rw[Vf,XO,zW];have e:cX (.int (k:Int)) (.int (n:Int))=((k:Int)==(n:Int)):=by rw[cX]
  rw[e]
  by_cases h:n=k
  .subst h;simp
  .have a:((k:Int)==(n:Int))=Vd:=beq_eq_false_iff_ne.mpr 0#2
   rw[a,Z7];have:n∈k::ks↔n∈ks:=by simp[h]
   exact decide_eq_decide.mpr this.symm
def in_nums{ks:db}{n:Nat}:nY (.int (n:Int)) (.lst<|ks.map λ(k:Nat)=>D.int (k:Int))=.ok (.bl (decide (n∈ks))):=by
 have e:FL (.int (n:Int)) (.lst<|ks.map λ(k:Nat)=>D.int (k:Int))=Wp (decide (n∈ks)):=(ef ⟨rfl,xI⟩).trans<|ew Wp zW;unfold nY;rw[e]
def notIn_nums{ks:db}{n:Nat}:bG (.int (n:Int)) (.lst<|ks.map λ(k:Nat)=>D.int (k:Int))=.ok (.bl (!(decide (n∈ks)))):=by
 have e:FL (.int (n:Int)) (.lst<|ks.map λ(k:Nat)=>D.int (k:Int))=Wp (decide (n∈ks)):=(ef ⟨rfl,xI⟩).trans<|ew Wp zW;unfold bG;rw[e]
def bu{k:b->aw a}:(aw.exn x).bind k=.exn x:=rfl
end K11
namespace K51
open PySem L2 DL Com
theorem yn{c:Type}(g:c->D)(pk:c->Option D):∀(L:List c),(∀a∈L,∃ρ1,tg B (g a)=.ok ρ1/\((pk a=Wb/\f ρ1=.ok (.bl Vd))∨(∃d,pk a=Wp d/\f ρ1=.ok (.bl VO)/\i ρ1=.ok d)))->cj B tg f i (L.map g)=.ok (L.filterMap pk)
 |[],_=>rfl
 |a::L,h=>by
  obtain⟨ρ1,m,b⟩:=h a Ve;have j:=yn g pk L λd hd=>h d<|U9 _ hd;rw[Vf];unfold cj;rw[m,Ge];rcases b with⟨e,b⟩|⟨d,e,b,l⟩
  .rw[b,Ge]
   show cj B tg f i (L.map g)=_;rw[j,List.filterMap_cons_none e]
  .rw[b,Ge]
   show(i ρ1).bind _=_;rw[l,Ge,j,Ge,List.filterMap_cons_some e]
def comp_pick{b:Type}(g:b->D)(pk:b->Option D){L:List b}(f:L.length<=1000000)(h:∀a∈L,∃ρ1,tg (dB n c ρ) (g a)=.ok ρ1/\((pk a=Wb/\e ρ1=.ok (.bl Vd))∨(∃d,pk a=Wp d/\e ρ1=.ok (.bl VO)/\i ρ1=.ok d))):c6 n c tg e i ρ (L.map g)=.ok (.lst<|L.filterMap pk):=by
 unfold c6;rw[ef (show(L.map g).length<=line from by rw[U8];exact f),yn g pk L h]
end K51
namespace Pth
open PySem L2 DL Com K17
open K11 (ways pr cO)
structure NK where
 n:Nat
 a:Vq
 b:Vq
def stpD(s:NK):D:=.tup [.int (s.n:Int),.str s.a,.str s.b]
def jx(ks:db)(n:Nat)(t:kW):List NK:=if n∈ks then[] else(ways t).map λp=>⟨n,p.1,p.2⟩
def stepsFrom(ks:db):Nat->List kW->List NK
 |_,[]=>[]
 |n,t::a=>jx ks n t++stepsFrom ks (n+1) a
def stepsL(w:jU)(ks:db):List NK:=stepsFrom ks 0 w.ts
def DC(t:kW):(ways t).length<=2:=by unfold ways;split<;>simp
def stepsAt_le:(jx ks n t).length<=2:=by
 unfold jx;split
 .simp
 .rw[U8];exact DC t
theorem m9:∀(n:Nat) (ts:List kW),s∈stepsFrom ks n ts↔∃t,n<=s.n/\ts[s.n-n]?=Wp t/\s.n∉ks/\(s.a,s.b)∈ways t
 |n,[]=>by simp[stepsFrom]
 |n,t::ts=>by
  rw[stepsFrom,VH,m9 (n+1) ts];constructor
  .rintro(h|⟨u,j,c,e,d⟩)
   .unfold jx at h
    by_cases g:n∈ks
    .rw[ef g]at h;cases h
    .rw[eo g]at h
     obtain⟨p,i,rfl⟩:=VD.mp h;exact⟨t,VB _,by simp,g,i⟩
   .refine⟨u,by omega,?_,e,d⟩
    rw[show s.n-n=(s.n-(n+1))+1 by omega,VZ];exact c
  .rintro⟨u,j,c,e,d⟩
   by_cases f:s.n=n
   .left
    rw[f,ZA,Wz]at c;cases c;unfold jx;rw[eo (by rw[←f];exact e)];exact VD.mpr ⟨(s.a,s.b),d,by rw[←f]⟩
   .right
    refine⟨u,by omega,?_,e,d⟩;rwa[show s.n-n=(s.n-(n+1))+1 by omega,VZ]at c
def mem_steps:s∈stepsL w ks↔∃t,w.ts[s.n]?=Wp t/\s.n∉ks/\(s.a,s.b)∈ways t:=by
 unfold stepsL;rw[m9];simp
abbrev Up:ci:=(ar (bP 2<|ak (ae 3#6<|ae 5#6<|ae 6#6 av) bI)
 au)
abbrev Rx:ci:=(ar (dG (ag 3#6 1#6 bG)
 (ar (lD (ak (ae 4#6 av) m_steps_along) (dE [5,6])
 Up)
 au)
 au)
 au)
def Fg(w:jU)(ks:db)(ss:List NK)(x3 x4 x5 x6:Sl):Ev:=[.sh<|aI w,.sh<|cF ks,.ow<|.lst<|ss.map stpD,x3,x4,x5,x6]
theorem Er{n:Nat}:∀(ps:List<|Vq×Vq) (ss:List NK) (x5 x6:Sl),ss.length+ps.length<=900->∃b a,bT (dE [5,6]) Up (ps.map pr) (Fg w ks ss (.sh<|.int (n:Int)) (.sh x4) x5 x6)=.ok (.nx<|Fg w ks (ss++ps.map λp=>⟨n,p.1,p.2⟩) (.sh<|.int (n:Int)) (.sh x4) b a)
 |[],ss,x5,x6,_=>⟨x5,x6,by simp only[Xg,We];rfl⟩
 |p::ps,ss,x5,x6,h=>by
  rw[Vp]at h;obtain⟨b,a,e⟩:=Er (w:=w) (ks:=ks) (n:=n) (x4:=x4) ps (ss++[⟨n,p.1,p.2⟩]) (.sh<|.str p.1) (.sh<|.str p.2) (by rw[Vs,WG];omega);refine⟨b,a,?_⟩;have c:decide ((ss.map stpD).length<=999)=VO:=dV (by rw[U8];omega);rw[Vf,dr (ρ1:=Fg w ks ss (.sh<|.int (n:Int)) (.sh x4) (.sh<|.str p.1)<|.sh<|.str p.2) (ρ2:=Fg w ks (ss++[⟨n,p.1,p.2⟩]) (.sh<|.int (n:Int)) (.sh x4) (.sh<|.str p.1)<|.sh<|.str p.2) rfl]
  .rw[e,Vf,XX];rfl
  .unfold Fg
   have:(ss++[(⟨n,p.1,p.2⟩:NK)]).map stpD=ss.map stpD++[.tup [.int (n:Int),.str p.1,.str p.2]]:=by rw[VX];rfl
   simp only[this];erw[du c]
theorem AK(f:w.ts.length<=14):∀(ts:List kW) (n:Nat) (ss:List NK) (x3 x4 x5 x6:Sl),ss.length+2*ts.length<=100->∃y3 o c b,bT (dE [3,4]) Rx (numbered n<|ts.map bo) (Fg w ks ss x3 x4 x5 x6)=.ok (.nx<|Fg w ks (ss++stepsFrom ks n ts) y3 o c b)
 |[],n,ss,x3,x4,x5,x6,_=>⟨x3,x4,x5,x6,by rw[stepsFrom,We];rfl⟩
 |t::ts,n,ss,x3,x4,x5,x6,h=>by
  rw[Vp]at h;have a:=K11.notIn_nums (ks:=ks) (n:=n);have s:=DC t;have key:∃c b,Rx (Fg w ks ss (.sh<|.int (n:Int)) (.sh<|bo t) x5 x6)=.ok (.nx<|Fg w ks (ss++jx ks n t) (.sh<|.int (n:Int)) (.sh<|bo t) c b):=by
   unfold jx
   by_cases d:n∈ks
   .rw[ef d,We]
    rw[dV d]at a;refine⟨x5,x6,?_⟩;unfold Fg cF;erw[a]
   .rw[eo d]
    rw[en d]at a;obtain⟨c,b,e⟩:=Er (w:=w) (ks:=ks) (n:=n) (x4:=bo t) (ways t) ss x5 x6 0#2;refine⟨c,b,?_⟩;unfold Fg cF at e ⊢;erw[a,K11.steps_ok,e]
  obtain⟨c,b,r⟩:=key;have p:=stepsAt_le (ks:=ks) (n:=n) (t:=t);obtain⟨m,l,j,i,q⟩:=AK (ks:=ks) f ts (n+1) (ss++jx ks n t) (.sh<|.int (n:Int)) (.sh<|bo t) c b (by rw[Vs];omega);refine⟨m,l,j,i,?_⟩;rw[Vf,DL.numbered,dr (ρ1:=Fg w ks ss (.sh<|.int (n:Int)) (.sh<|bo t) x5 x6) rfl r,q,stepsFrom,XX]
def steps_ok(W:cI w):m_steps_left [aI w,cF ks]=.ok (.lst<|(stepsL w ks).map stpD):=by
 have a:=W.t14;obtain⟨g,f,d,c,e⟩:=AK (w:=w) (ks:=ks) a w.ts 0 [] .no .no .no .no (by simp;omega);rw[WS]at e;have b:aE (aI w) (.int 1)=.ok (.lst<|w.ts.map bo):=rfl;unfold Fg at e;simp only[Xg]at e;erw[K51.m_steps_left,K51.b_steps_left,b,e]
 rfl
open K11 (ways pr cO)
section
variable {ρ:Ev}{i:Nat}{f k:bv}{ks:cr}{ds:ac}{d:D}
def ed_own:DY i f ρ=(f ρ).bind (Ip i ρ):=rfl
def ed_own1:Ip i ρ (.dic ks ds)=.ok (.nx<|ρ.set i<|.ow<|.dic ks ds):=rfl
def ed_put3(h:decide (ks.length<=900)=VO):rF i ρ ks ds d (.str x)=.ok (.nx<|ρ.set i<|.ow<|Fh ks ds x d):=ef (VN (et h)<|by decide)
def ed_disp:EI a b ρ=ag a b JH ρ:=rfl
def ed_disp1:JH (.str x) d=.ok (.dic [x] [d]):=rfl
end
open K11 (ways pr cO)
def somes_some(xs:List iz):iX (xs.map Wp)=xs:=by
 unfold iX;rw[YL];simp
end Pth
namespace K16
open PySem L2 DL
abbrev m_look_at_web:ac->aw D:=Nwb.m_look_at_web
abbrev m_is_tie_number:ac->aw D:=Com.m_is_tie_number
noncomputable def eO:ci :=
 (ar (fL<|ak (ae 0#6 av) m_look_at_web)
 (ar (dG (cD<|aL 1#6<|eY "list")
 (ar (ic "NoTaking"<|ae 0#"a taking is a list" av)
 au)
 au)
 (ar (aJ 2<|aL 1#0 k9)
 (ar (lD 1#6 (bK 3)
 (ar (dG (iU (cD<|ak (ae 0#6<|ae 3#6 av) m_is_tie_number)<|ag 3#6 2#6 Mx)
 (ar (ic "NoTaking"<|ae 0#"a taking is of rising numbers of ties" av)
 au)
 au)
 (ar (dG (ag (ag (ag (ag 0#6 1#0 aE) 3#6 aE) 4#0 aE) 0#4 qX)
 (ar (ic "NoTaking"<|ae 0#"a watched tie can't be taken" av)
 au)
 au)
 (ar (aJ 2<|af 3)
 au))))
 au))))
def m_look_at_taking:ac->aw D:=bH 4 eO
end K16
namespace DL
open PySem PySem.Spec PyProof.Rows L2
def Tt:Int->List Int->Int
 |a,[]=>a
 |a,b::r=>Tt (if b > a then b else a) r
def CP:Int->List Int->Int
 |a,[]=>a
 |a,b::r=>CP (if b<a then b else a) r
theorem IL:∀(r:List Int) (a:Int),CP a r∈a::r/\∀x∈a::r,CP a r<=x
 |[],a=>⟨by unfold CP;exact Ve,λx c=>by unfold CP;rw[VL.mp c];exact YU _⟩
 |b::r,a=>by
  unfold CP;have d:=IL r<|if b<a then b else a;generalize g:CP (if b<a then b else a) r=m at d
  by_cases h:b<a
  .rw[ef h]at d
   refine⟨U9 _ d.1,λx c=>?_⟩;rcases Vl.mp c with rfl|c
   .have:=d.2 b Ve;omega
   .exact d.2 x c
  .rw[eo h]at d
   refine⟨?_,λx c=>?_⟩
   .rcases Vl.mp d.1 with e|e
    .rw[e];exact Ve
    .exact U9 _<|U9 _ e
   .have f:=d.2 a Ve
    rcases Vl.mp c with rfl|c
    .exact f
    .rcases Vl.mp c with rfl|c
     .omega
     .exact d.2 x<|U9 _ c
section
variable {X:Cx}{E:XK}
def Ur(x:D):aw D:=match x with
 |.lst b=>match gG b with
  |some (n::a)=>.ok<|.int<|Tt n a
  |_=>.stuck
 |.tup b=>match gG b with
  |some (n::a)=>.ok<|.int<|Tt n a
  |_=>.stuck
 |_=>.stuck
def EH(x:D):aw D:=match x with
 |.lst b=>match gG b with
  |some (n::a)=>.ok<|.int<|CP n a
  |_=>.stuck
 |_=>.stuck
def Nt(K:Va):am->Hp->VK->Prop:=λxs H Q=>∃p b n a,xs=[.ref p]/\Rep K H (.lst b) (.ref p)/\gG b=Wp (n::a)/\Q (.int<|CP n a) H
def MJ(e:n::ns=xs.toList.map (·.1))(a:(intItems xs)[argBest (λi j=>decide (numAt xs i<numAt xs j))<|xs.size-1]?=Wp v):∃t,v=.int (CP n ns) t:=by
 obtain⟨t,rfl⟩:=intItems_at a;have b:0<xs.size:=by
  have:=ew YA e;rw[Vp,U8,Xl (xs:=xs)]at this;omega
 obtain⟨l,f⟩:=argBest_lt (numAt xs)<|xs.size-1;obtain⟨m1,m2⟩:=IL ns n;have d:numAt xs (argBest (λi j=>decide (numAt xs i<numAt xs j))<|xs.size-1)∈n::ns:=by
  rw[e,numAt_eq];exact getD_mem (by rw[U8,Xl];omega)
 have g:numAt xs (argBest (λi j=>decide (numAt xs i<numAt xs j))<|xs.size-1)<=CP n ns:=by
  rw[e]at m1;obtain⟨j,c,m⟩:=mem_getD m1;rw[U8,Xl]at c;have:=f j 0#2;rw[numAt_eq (j:=j)]at this;omega
 have:=m2 _ d;exact⟨t,by congr 1;omega⟩
def F8(A:X.calm=VO):ku X (.builtin "min") (Nt X.K):=by
 intro L s J H xs N Q I r h;obtain⟨p,ds,n,f,rfl,x,z,q⟩:=h;obtain⟨u,rfl,m⟩:=r.one;obtain⟨a,M,c,Y,rfl,T,G,C,B,_⟩:=bg I x m;have i:=A5 z G C;obtain⟨xs,g⟩:=i.allInts.items;have d:s.heap.IsList a (intItems xs):=g▸B;have j:n::f=xs.toList.map (·.1):=by
  rw[←nums_intItems,←g];exact(show numsOf c.toArray.toList=n::f from i.numsOf).symm
 refine min_intList (I.ok.hd A) d (by have:=ew YA j;rw[Vp,U8,Xl (xs:=xs)]at this;omega) λv U l w y=>?_;obtain⟨t,rfl⟩:=MJ j w;exact⟨.int _,H,I.kept (t':=l)<|λb o e=>y b o e,⟨_,rfl⟩,q⟩
def ME:k8 X E (Nt X.K) (m1 EH):=wx λx v H i Q b r q=>by
 cases x with
 |lst c=>
  unfold EH at q;obtain⟨p,d,rfl,g,f⟩:=aA.mp r;cases e:gG c with
  |none=>simp only[e]at q;exact q.elim
  |some a=>
   cases a with
   |nil=>simp only[e]at q;exact q.elim
   |cons n a=>
    simp only[e]at q;exact⟨p,c,n,a,rfl,r.mono b,e,bL b q<|ri _⟩
 |_=>exact q.elim
end
def wQ(I:L2.Inv X c b H s)(i:s.heap.get? p.1=Wp p.2)(g:H p.1=Wb)(f:p.1≠X.env.locals)(e:p.1∉X.fs)(d:∀v,p.2.data≠.cell v):L2.Inv X (p::c) b H s :=
 ⟨I.ok,I.os,I.bare,I.base,I.loc,I.cell,I.free,I.freeC,λq a=>by
  rcases VH.mp a with a|a
  .exact I.pin q<|Wm _ a
  .rcases Vl.mp a with rfl|a
   .exact⟨i,g,f,e,d⟩
   .exact I.pin q<|VS _ a,I.hok,I.len⟩
def BZ(I:L2.Inv X (p::c) b H s):L2.Inv X c b H s :=
 ⟨I.ok,I.os,I.bare,I.base,I.loc,I.cell,I.free,I.freeC,λq a=>by
  rcases VH.mp a with a|a
  .exact I.pin q<|Wm _ a
  .exact I.pin q<|VS _<|U9 _ a,I.hok,I.len⟩
structure NO (X:Cx) (q:Vq) (F:kq) (c P:Vi) (clos:List (Vq×Vi)):Prop where
 cl:closureFor F.scope X.env=pure clos
 cd:X.env.code=.ref c
 hd:W.CodeHd X.base c P
 tb:(P,#[rawInt F.pos.line,rawInt F.pos.col,.str q 0])∈iC X.K
 qu:X.env.qual++"<lambda>"=q
 df:defaultsOf F.params X.env=([],[])
abbrev nJ(q:Vq)(F:kq)(a:List<|Vq×Vi)(c:U5)(d:Vi)(b:U5):Obj:=W.kla_obj "<lambda>" q F.params F.body F.scope a c d b
def T3{m d:Array U5}(h:#[a,b,c]++m=#[n,l,j]++d):a=n/\b=l/\c=j:=by
 have e:=ew YI h;simp only[saR,Xd,WS]at e;injection e with i e;injection e with g e;injection e with f _;exact⟨i,g,f⟩
section
variable {X:Cx}{π:List (Vi×Obj)}{σ:List (Option V)}{H:Hp}{s:Vm}{A:Wh}{q:Vq}{F:kq}{c P:Vi}{clos:List (Vq×Vi)}{Q:U5->Vm->Prop}{E:U5->Vm->Prop}
def IZ(I:L2.Inv X π σ H s)(M:NO X q F c P clos)
  (h:∀(f d:Vi) (i pm:U5) (t:Tok) (m:Array U5) (H':Hp) (s':Vm),L2.Inv X ((f,nJ q F clos pm d i)::π) σ H' s'->aD H H'->(∀b,H b=Wb->b≠d->H' b=Wb)->H' d=Wp (.tbl (#[.none,.str q t]++m))->2#s<=f->Q (.ref f) s') :
  VC 4#X A (eval (.Lambda F.params F.body F.scope F.pos) X.env) Q E s:=by
 obtain⟨more,C⟩:=I.tab P _ M.tb;have tok:L2.TabOk H s.heap P _:=I.hok P _ C;have hg:s.heap.Ns Vz X.mg:=by
  obtain⟨o,T,U,e,r⟩:=I.mod.glob;exact⟨o,T,U,I.bk _ _ e,r⟩
 have hC:=M.hd.keeps I.bk;have as:Vz≠P:=λz=>by
  obtain⟨o,T,U,e,r⟩:=I.mod.glob;have:=(I.bs _ _ e).2;rw[z,C]at this;cases this
 obtain⟨bm,ob,b1,b2,b3,b4,b5,b6⟩:=I.mod.bm;have a0:bm≠P:=λz=>by
  have:=(I.bs _ _ b3).2;rw[z,C]at this;cases this
 have a1:bm≠Vz:=λz=>by
  obtain⟨o,T,U,e,hd,_⟩:=I.mod.glob;rw[z,e]at b3;cases b3;rw[hd]at b6;cases b6
 have hB:s.heap.BuiltinsAt X.mg P:=⟨bm,ob,b1,b2,a1,a0,I.bk _ _ b3,b4,b5,b6⟩
 have nP:∀b,H b=Wb->b≠P:=λb n z=>by rw[z,C]at n;cases n
 refine W.kla_eval M.df ?_;rw[M.qu];rcases tok with⟨z,_⟩|⟨_,e|⟨l,c0,q',t0,t',mm,an,d,e1,e2,e3⟩⟩
 .exact er z<|om M.tb
 .-- for ab first time
  refine W.kla_makeFunction M.cl I.ok.glob hg M.cd hC e WJ rfl as hB λd i j tk hx y L J G=>?_;obtain⟨cb,oc,vs,t,ec,ap,hd,hv⟩:=J;obtain rfl:d=cb:=by injection ec
  have hn:H d=Wb:=I.hok.fresh y;have al:∀{b:Vi}{o:Obj},s.heap.get? b=Wp o->b≠d:=λ{b o} e=>VM<|Vk (Vw e) y;have p:∀{b:Vi}{o:Obj},b≠P->s.heap.get? b=Wp o->(j.push<|nJ q F clos ((X.mg "__name__").getD .none) d i).get? b=Wp o:=λ{b o} n e=>Vc _<|hx b o n e;have g:2#s<=j.objs.size:=Vr y<|XG L;have same:aD H (upd H d<|.tbl #[.none,.str q 0]):=λb o e=>by rw[ay (aN e hn)];exact e
  have I2:L2.Inv X π σ (upd H d<|.tbl #[.none,.str q 0]) { s with heap:=j.push<|nJ q F clos ((X.mg "__name__").getD .none) d i,gens:=s.gens,drawn:=s.drawn,toks:=tk }:=by
   refine I.step (ch:=[]) (λ_ z=>nomatch z) (λb o _ _ _ e n=>p (nP b n) e) (λb o _ _ _ e n=>⟨o.slots,p (nP b n) e⟩) (λb o _ e n=>by rw[ay (al e)];exact n) (λb o _ e=>?_) (λb xs e=>same _ _ e) (λb o u e=>same _ _ e) (λb ps e=>⟨#[],by rw[same _ _ e];simp⟩) (λm hm=>?_) (λb u B=>?_) I.bare
   .by_cases N:b=P
    .subst N;exact⟨_,Vc _ G⟩
    .exact⟨o,p N e⟩
   .obtain⟨o,T,U,ho,r⟩:=hm
    exact⟨o,T,U,p (nP _ I.free) ho,r⟩
   .by_cases N:b=d
    .subst N
     rw[aC]at B;cases B;exact Vj ⟨rfl,oc,vs,q,0,t,#[],rfl,Vc _ ap,hd,hv⟩
    .rw[ay N]at B
     by_cases O:b=P
     .subst O
      rw[C]at B;cases B;exact Ym ⟨om M.tb,.inr ⟨_,_,q,0,0,more,#[],d,rfl,Vc _ G,by rw[aC];rfl⟩⟩
     .refine(I.hok b u B).stay (λa o ha x=>p (λz=>?_) x) (λa x=>same _ _ x) (λa xs x=>same _ _ x) λa ps x=>same _ _ x
      rcases ha with rfl|ha
      .exact O z
      .rw[z,C]at ha;cases ha
  have hf:(upd H d<|.tbl #[.none,.str q 0]) j.objs.size=Wb:=by rw[ay (sal L)];exact I.hok.fresh g
  refine h j.objs.size d i _ 0 #[] _ _ (wQ I2 (V1 _ rfl) hf (λz=>?_) (I.nofs g)<|λv z=>by cases z) same (λb n nb=>by rw[ay nb];exact n) (by rw[aC];rfl) g;have:=I.lt;exact er (show X.env.locals<X.env.locals from Vk this<|z▸g)<|Xn _
 .-- a2 code Y in ab table
  obtain⟨f1,f2,f3⟩:=T3 e1;cases f1;cases f2;cases f3;refine W.kla_makeFunctionHit (cv:=.ref d) M.cl I.ok.glob hg M.cd hC e2 (by simp[TriplesOk,rawInt]) (by simp[codeAmong,rawInt]) hB λi j tk hk g=>?_;have p:∀{b:Vi}{o:Obj},s.heap.get? b=Wp o->(j.push<|nJ q F clos ((X.mg "__name__").getD .none) d i).get? b=Wp o:=λ{b o} e=>Vc _<|hk b o e;have I2:L2.Inv X π σ H { s with heap:=j.push<|nJ q F clos ((X.mg "__name__").getD .none) d i,toks:=tk }:=I.kept<|λb o e=>p e;have hf:H j.objs.size=Wb:=I.hok.fresh g;refine h j.objs.size d i _ t' an H _ (wQ I2 (V1 _ rfl) hf (λz=>?_) (I.nofs g)<|λv z=>by cases z) (aD.refl _) (λb n _=>n) e3 g;have:=I.lt;exact er (show X.env.locals<X.env.locals from Vk this<|z▸g)<|Xn _
end
def wX(h:Vu)(L:List Vi)(H:Hp):Hp:=λb=>if b∈L then(match h.get? b with|some o=>Wp (.frz o<|.own b)|none=>H b) else H b
def unT(L:List Vi)(J:Hp):Hp:=λb=>if b∈L then Wb else J b
section
variable {h:Vu}{L:List Vi}{H J:Hp}{b:Vi}
def oi(a:b∈L)(e:h.get? b=Wp o):wX h L H b=Wp (.frz o<|.own b):=by unfold wX;rw[ef a,e]
def gU(a:b∉L):wX h L H b=H b:=eo a
def lr(a:b∈L):unT L J b=Wb:=ef a
def bY(a:b∉L):unT L J b=J b:=eo a
def oh(e:unT L J b=Wp u):b∉L/\J b=Wp u:=by
 by_cases a:b∈L
 .rw[lr a]at e;cases e
 .rw[bY a]at e;exact⟨a,e⟩
end
structure xx (L:List Vi) (H:Hp) (h:Vu):Prop where
 n:∀b∈L,H b=Wb
 o:∀b∈L,∃o,h.get? b=Wp o
def xx.same{h:Vu}(f:xx L H h):aD H (wX h L H):=λb u e=>by
 rw[gU (λz=>by rw[f.n b z]at e;cases e)];exact e
section
variable {P:V5}{w:Wx}{K:Va}{mg:Vq->Option U5}{base:Vu}{A:Wh}{outer:List Wq}{s s':Vm}{H J:Hp}{L fs:List Vi}{h h':Vu}
def xx.hok(f:xx L H h)(k:fJ P w H h):fJ P w (wX h L H) h:=λb u e=>by
 have own:∀c x,H c=Wp x->wX h L H c=Wp x:=λc x e=>f.same c x e
 by_cases d:b∈L
 .obtain⟨o,a⟩:=f.o b d
  rw[oi d a]at e;cases e;exact⟨a,o,a⟩
 .rw[gU d]at e
  exact(k b u e).stay (λ_ _ _ q=>q) (λc q=>own _ _ q) (λc xs q=>own _ _ q) λc ps q=>own _ _ q
def xx.env0(f:xx L H s.heap)(e:sQ P w K mg base A outer s H)(g:∀b∈L,base.get? b=Wb)(c:∀b∈L,b∉gW outer):sQ P w K mg base A outer s (wX s.heap L H) :=
 ⟨e.frames,e.mod,λb o q=>⟨(e.bs b o q).1,by rw[gU (λz=>by rw[g b z]at q;cases q)];exact(e.bs b o q).2⟩,e.bsz,e.funs,λb q=>by rw[gU (λz=>c b z q)];exact e.frf b q,f.hok e.hok,e.bare,λi d a=>by
  obtain⟨m,q⟩:=e.tab i d a;exact⟨m,f.same _ _ q⟩⟩
def xx.back(f:xx L H h)(u:Un fs [] (wX h L H) J h h')(k:fJ P w J h'):Un fs [] H (unT L J) h h'/\fJ P w (unT L J) h'/\∀b∈L,∃o,h.get? b=Wp o/\h'.get? b=Wp o/\J b=Wp (.frz o<|.own b):=by
 have l:∀b∈L,∃o,h.get? b=Wp o/\h'.get? b=Wp o/\J b=Wp (.frz o<|.own b):=λb i=>by
  obtain⟨o,r⟩:=f.o b i;have q:=u.frzs b o _<|oi i r;exact⟨o,r,(k b _ q).1,q⟩
 have d:∀{b:Vi}{x:HO},H b=Wp x->b∉L:=λ{b x} e z=>by rw[f.n b z]at e;cases e
 refine⟨⟨λb o e n i g=>?_,λb o e n i g=>?_,λb o e n g=>?_,λb o e g=>u.there b o e g,λb xs e=>?_,λb o v e=>?_,λb ps e=>?_⟩,λb v e=>?_,l⟩
 .by_cases a:b∈L
  .obtain⟨t,j,p,_⟩:=l b a
   rw[e]at j;cases j;exact p
  .exact u.keep b o e (by rw[gU a];exact n) i g
 .by_cases a:b∈L
  .obtain⟨t,j,p,_⟩:=l b a
   rw[e]at j;cases j;exact⟨o.slots,p⟩
  .exact u.slot b o e (by rw[gU a];exact n) i g
 .by_cases a:b∈L
  .exact lr a
  .rw[bY a];exact u.free b o e (by rw[gU a];exact n) g
 .rw[bY (d e)];exact u.tups b xs<|f.same _ _ e
 .rw[bY (d e)];exact u.frzs b o v<|f.same _ _ e
 .rw[bY (d e)];exact u.tbls b ps<|f.same _ _ e
 .obtain⟨i,e⟩:=oh e
  have m:∀c x,J c=Wp x->(∀o b,x≠.frz o (.own b))->unT L J c=Wp x:=λc x e n=>by
   rw[bY (λz=>by obtain⟨o,_,_,q⟩:=l c z;rw[q]at e;cases e;exact n _ _ rfl)];exact e
  exact(k b v e).stay (λ_ _ _ q=>q) (λc q=>m _ _ q (λ_ _ z=>by cases z)) (λc xs q=>m _ _ q (λ_ _ z=>by cases z)) λc ps q=>m _ _ q (λ_ _ z=>by cases z)
end
mutual
def jr:D->Bool
 |.tup a=>noFns a
 |.lst a=>noFns a
 |.dic _ a=>noFns a
 |.ob (.fn _) _=>Vd
 |.ob _ a=>noFns a
 |_=>VO
def noFns:ac->Bool
 |[]=>VO
 |d::r=>jr d&&noFns r
end
def CN(h:noFns (d::r)=VO):jr d=VO/\noFns r=VO:=by
 rwa[noFns,Vv]at h
def M8(L:List Vi)(J:Hp):Prop:=∀b∈L,(∃o c,J b=Wp (.frz o<|.own c))∨(∃ps,J b=Wp (.tbl ps))∨J b=Wb
section
variable {K:Va}{L:List Vi}{J:Hp}
def M8.rd(h:M8 L J)(r:Rd J a u)(n:∀b,u≠.own b)(f:∀ps,u≠.tbl ps)(e:∀o b,u≠.frz o b):Rd (unT L J) a u:=by
 have d:a∉L:=λz=>by
  rcases h a z with⟨o,c,q⟩|⟨ps,q⟩|q<;>rcases r with r|⟨g,r⟩<;>rw[q]at r<;>cases r
  .exact e _ _ rfl
  .exact n _ rfl
  .exact f _ rfl
 unfold Rd;rw[bY d];exact r
def M8.at(h:M8 L J)(r:J a=Wp u)(n:∀o b,u≠.frz o (.own b))(e:∀ps,u≠.tbl ps):unT L J a=Wp u:=by
 have d:a∉L:=λz=>by
  rcases h a z with⟨o,c,q⟩|⟨ps,q⟩|q<;>rw[q]at r<;>cases r
  .exact n _ _ rfl
  .exact e _ rfl
 rw[bY d];exact r
mutual
theorem Rep.unT(h:M8 L J):∀{d:D}{v:V},jr d=VO->Rep K J d v->Rep K (unT L J) d v
 |.non,_,_,r=>by unfold Rep at r ⊢;exact r
 |.bl _,_,_,r=>by unfold Rep at r ⊢;exact r
 |.int _,_,_,r=>by unfold Rep at r ⊢;exact r
 |.str _,_,_,r=>by unfold Rep at r ⊢;exact r
 |.tup l,_,n,r=>by
  obtain⟨a,f,e,j,b⟩:=aH.mp r;rw[jr]at n;exact aH.mpr ⟨a,f,e,j.imp (λq=>h.rd q (λ_ z=>by cases z) (λ_ z=>by cases z)<|λ_ _ z=>by cases z) id,Reps.unT h n b⟩
 |.lst l,_,n,r=>by
  obtain⟨a,f,e,j,b⟩:=aA.mp r;rw[jr]at n;exact aA.mpr ⟨a,f,e,j.imp (λq=>h.rd q (λ_ z=>by cases z) (λ_ z=>by cases z)<|λ_ _ z=>by cases z) id,Reps.unT h n b⟩
 |.dic p l,_,n,r=>by
  rw[jr]at n;rw[Rep]at r ⊢;obtain⟨a,g,f,e,j,b,y,w⟩:=r;exact⟨a,g,f,e,h.rd j (λ_ z=>by cases z) (λ_ z=>by cases z) (λ_ _ z=>by cases z),b,y,Reps.unT h n w⟩
 |.exc x,_,_,r=>by
  obtain⟨a,C,A,e,j,b⟩:=eE.mp r;exact eE.mpr ⟨a,C,A,e,j,h.rd b (λ_ z=>by cases z) (λ_ z=>by cases z)<|λ_ _ z=>by cases z⟩
 |.ob (.ins c p) l,_,n,r=>by
  rw[jr]at n
  .obtain⟨a,f,e,⟨C,s,u,i,o,m⟩,b⟩:=bj.mp r
   exact bj.mpr ⟨a,f,e,⟨C,s,u,i,h.at o (λ_ _ z=>by cases z) (λ_ z=>by cases z),m⟩,Reps.unT h n b⟩
  .intro q z;cases z
 |.ob (.dint p) l,_,n,r=>by
  rw[jr]at n
  .obtain⟨a,f,e,⟨g,i,o,m⟩,b⟩:=bj.mp r
   exact bj.mpr ⟨a,f,e,⟨g,h.rd i (λ_ z=>by cases z) (λ_ z=>by cases z) (λ_ _ z=>by cases z),o,m⟩,Reps.unT h n b⟩
  .intro q z;cases z
 |.ob (.exf c p) l,_,n,r=>by
  rw[jr]at n
  .obtain⟨a,f,e,⟨C,s,fs,i,o,m,t⟩,b⟩:=bj.mp r
   exact bj.mpr ⟨a,f,e,⟨C,s,fs,i,h.rd o (λ_ z=>by cases z) (λ_ z=>by cases z) (λ_ _ z=>by cases z),h.at m (λ_ _ z=>by cases z) (λ_ z=>by cases z),t⟩,Reps.unT h n b⟩
  .intro q z;cases z
 |.ob .pl l,_,n,r=>by
  rw[jr]at n
  .obtain⟨a,f,e,i,b⟩:=bj.mp r
   exact bj.mpr ⟨a,f,e,h.at i (λ_ _ z=>by cases z) (λ_ z=>by cases z),Reps.unT h n b⟩
  .intro q z;cases z
 |.ob (.fn q) l,_,n,r=>by rw[jr]at n;cases n
theorem Reps.unT(h:M8 L J):∀{ds:ac}{vs:am},noFns ds=VO->Reps K J ds vs->Reps K (unT L J) ds vs
 |[],_,_,r=>by rw[Reps.nil_iff.mp r];exact Reps.nil
 |d::ds,_,n,r=>by
  obtain⟨b,a⟩:=CN n;obtain⟨v,f,rfl,e,c⟩:=az.mp r;exact Reps.cons (Rep.unT h b e)<|Reps.unT h a c
end
def Ej(x:Kp):Bool:=x.flds.all λp=>jr p.2
theorem uK:∀{l:List<|Vq×D},l.lookup n=Wp d->∃k,(k,d)∈l
 |[],e=>by cases e
 |(k,v)::r,e=>by
  rw[V7]at e;cases h:(n==k) with|true=>rw[h]at e;simp only[Xj]at e;subst e;exact⟨k,.head _⟩|false=>rw[h]at e;obtain⟨a,b⟩:=uK e;exact⟨a,.tail _ b⟩
def yG.unT(h:M8 L J)(n:Ej x=VO)(r:yG K J x C ox):yG K (unT L J) x C ox:=by
 obtain⟨c,b⟩:=r;refine⟨c,?_⟩;cases ox with
 |none=>exact b
 |some a=>
  obtain⟨fs,j,i⟩:=b;refine⟨fs,h.at j (λ_ _ z=>by cases z) (λ_ z=>by cases z),λm d hd=>?_⟩;obtain⟨v,g,f⟩:=i m d hd;obtain⟨k,e⟩:=uK hd;exact⟨v,g,Rep.unT h (V2.mp n _ e) f⟩
end
def zB(r:aw D):aw D:=match r with
 |.ok d=>if jr d=VO then .ok d else .stuck
 |.exn x=>if Ej x=VO then .exn x else .stuck
 |.stuck=>.stuck
abbrev LT:=Vq->ac->ac->aw D
noncomputable def nX(P:V5) (w:Wx) (K:Va) (g:Vq->Option U5) (base:Vu) (CX:Ac) (k:Nat) (q:Vq) (m:ac->ac->aw D):Prop :=
 ∀(A:Wh) (outer:List Wq) (s:Vm) (H b:Hp) (a e:ac) (f:Vi) (d:List U5) (c:am) (Q:VK) (E:XK),cW k A->sQ P w K g base A outer s H->aD b H->Rep K b (.ob (.fn q) a) (.ref f)->Reps K b e c->bh c d ->
  post K E H b (m a e) Q->Xm (Vy P w) A (.call (.ref f) ⟨d,[]⟩) (CR CX outer P w H s Q E) s
structure kY (P:V5) (w:Wx) (K:Va) (mg:Vq->Option U5) (base:Vu) (CX:Ac) (k:Nat) (lt:LT):Prop where
 run:∀q,nX P w K mg base CX k q (lt q)
section
variable {P:V5}{w:Wx}{K:Va}{mg:Vq->Option U5}{base:Vu}{CX:Ac}{k:Nat}{lt:LT}{q:Vq}{m:ac->ac->aw D}
def nX.mono(h:nX P w K mg base CX j q m)(l:j<=k):nX P w K mg base CX k q m:=λA outer s H g a e f c b Q E d=>h A outer s H g a e f c b Q E<|d.mono l
def kY.mono(h:kY P w K mg base CX j lt)(l:j<=k):kY P w K mg base CX k lt:=⟨λq=>(h.run q).mono l⟩
def Nz:LT:=λ_ _ _=>.stuck
def zm(q:Vq)(m:ac->ac->aw D)(lt:LT):LT:=λr=>if r=q then m else lt r
def IP:kY P w K mg base CX k Nz:=⟨λq A outer s H e a d f c b Q E _ _ _ _ _ _ h=>(show False from h).elim⟩
def FC(h:nX P w K mg base CX k q m)(a:kY P w K mg base CX k lt):kY P w K mg base CX k (zm q m lt):=⟨λr=>by
 by_cases e:r=q
 .subst e
  have z:zm r m lt r=m:=ef rfl;rw[z];exact h
 .have z:zm q m lt r=lt r:=eo e
  rw[z];exact a.run r⟩
end
section
variable {X:Cx}{CX:Ac}{k:Nat}{lt:LT}{π:List (Vi×Obj)}{σ:L2.St}{H Ha:Hp}{s:Vm}{Q:VK}{E:XK}{q:Vq}{caps ds:ac}{f:Vi}{us:List U5}{vs:am}
def K5(L:kY X.prog X.w X.K X.mg X.base CX k lt)(i:cW k X.A)(d:gN CX X E)(I:L2.Inv X π σ H s)(g:aD Ha H)(c:Rep X.K Ha (.ob (.fn q) caps)<|.ref f)(rd:Reps X.K Ha ds vs)(r:bh vs us)(h:post X.K E H Ha (lt q caps ds) Q) :
  VC 4#X X.A (call (.ref f) us) (EP X π σ Q) X.xe s:=by
 refine wpAny_call<|codeAny_mono (L.run q X.A X.stack s H Ha caps ds f us vs Q E i I.env0 g c rd r h) λr b a=>?_;cases r with
 |error e=>exact d π σ H s e b I a
 |ok j=>
  cases j with|ret u=>exact I.after a|next|brk|cont=>exact V0 a
def Bc(I:L2.Inv X π σ H s)(d:aD Ha H)(c:Rep X.K Ha (.ob (.fn q) caps)<|.ref f):W.FnAt f s.heap:=by
 obtain⟨a,vs,g,⟨F,b,o,t,m,j,i,n,l,e,_⟩,_⟩:=bj.mp c;cases g;exact⟨_,_,_,_,(I.hok f _<|d _ _ e).1⟩
end
def qY(lt:LT)(j:Nat)(c:Ev->aw (ac)):bv:=λb=>match b[j]? with
 |some (.sh (.ob (.fn q) a))=>(c b).bind λd=>lt q a d
 |_=>.stuck
section
variable {X:Cx}{E:XK}{e:V4}{es:List V4}{fa:Ev->aw (ac)}{pos:Pos}{j:Nat}{lt:LT}{k k0:Nat}{CX:Ac}{y:Vq}{p:Pos}
def BF(L:kY X.prog X.w X.K X.mg X.base CX k0 lt)(hr:cW k X.A)(hN:X.N[j]?=Wp y)(hv:yC X.env.scope y)(ha:DA X E (e::es) fa)(C:k0<=k:=by decide)(hx:gN CX X E:=by first|exact AJ|exact n|exact zd)
  (hd:1#y:=by decide)(G:3#y:=by decide)(he:Vg (e::es) X.env=(Vd,eval e X.env)::Vg es X.env:=by exact aM rfl)(B:(Wn pos<|Vg es X.env).any (·.1)=Vd:=by exact bM rfl) :
  DE X E (.Call (.Name y p) (e::es) [] pos) (qY lt j fa):=by
 refine⟨λπ s Y H Q I h=>?_⟩;obtain⟨Ha,l,hs,i,q⟩:=h;unfold qY at q;cases J:l[j]? with
 |none=>rw[J]at q;exact q.elim
 |some sl=>
  rw[J]at q;cases sl with
  |sh d=>
   cases d with
   |ob kd c=>
    cases kd with
    |fn m=>
     replace q:post X.K E H Ha ((fa l).bind λf=>lt m c f) Q:=q;obtain⟨v,e1,M⟩:=i j _ J;obtain⟨a,ab,rfl,_,_⟩:=bj.mp M;refine wpAny_Call_Name_kw<|cM (fW hN hv hd G π s Y H (λv U=>v=.ref a/\U=H) I ⟨.ref a,e1,rfl,rfl⟩) λu s1 ⟨v,U,I1,r,ev,eh⟩=>?_;subst ev eh;obtain rfl:u=VG a:=r;refine W.callWith_F (Bc I1 hs M) (cM (ha.o pos π s1 Y U (λt T=>∃b f,aD b T/\Rep X.K b (.ob (.fn m) c) (.ref a)/\Reps X.K b f t/\post X.K E T b (lt m c f) Q) I1 ⟨Ha,l,hs,i,?_⟩) λus s2 ⟨t,T,I2,r,b,f,z1,z2,z3,z4⟩=>⟨Bc I2 z1 z2,K5 (L.mono C) hr hx I2 z1 z2 z3 r z4⟩) he B;cases e3:fa l with
     |stuck|exn x=>rwa[e3]at q
     |ok f=>
      rw[e3]at q;intro t H' O g r1;exact⟨O,f,g.sub,M.mono g.z,r1,post.grow (r:=lt m c f) q g⟩
    |_=>exact q.elim
   |_=>exact q.elim
  |_=>exact q.elim
end
noncomputable def T2(P:V5) (w:Wx) (K:Va) (mg:Vq->Option U5) (base:Vu) (N:cr) (qual:Vq) (scope:Yt) (f c':Vi) (clos:List<|Vq×Vi) (A:Wh) (outer:List Wq) (s:Vm) (H:Hp):Cx where
 prog:=P
 w:=w
 K:=K
 mg:=mg
 base:=base
 A:=A.deeper (W.envX qual scope 2#s f (.ref c') clos)
 N:=N
 sf:=s
 Ha:=H
 env:=W.envX qual scope 2#s f (.ref c') clos
 outer:=outer
 stack:=W.envX qual scope 2#s f (.ref c') clos::outer
 ex:=[]
 calm:=true
 fn:=λ_=>Vd
 pn:=[]
 xe:=λ_ _=>False
structure Kc (N ps:cr) (sc:Yt):Prop where
 kind:sc.kind=.function
 co:sc.isCoroutine=Vd
 gen:sc.isGenerator=Vd
 nd:N.Nodup
 eq:N=ps++iD sc
 par:∀x∈ps,sc.names.lookup x=Wp .local
 fr:∀x∈iD sc,sc.names.lookup x=Wp .free
 has:∀y∈sc.names,y.2=.free->y.1∈iD sc
 nocell:∀y∈sc.names,y.2≠.cell
def Jb(n c:Nat)(b:bv)(a ds:ac):aw D:=if ds.length=n/\a.length=c/\noFns ds=VO/\noFns a=VO then(match b ((ds++a).map Sl.sh) with
 |.ok d=>.ok d
 |_=>.stuck) else .stuck
theorem gq.all{H:Hp}:∀{a:List<|Vq×Vi}{vs:am},gq H a vs->∀c∈a.map (·.2),∃o u,H c=Wp (.frz o<|.own c)/\o.data=.cell (Wp u)
 |[],_,_=>λc h=>by simp at h
 |(x,c)::r,_,⟨v,g,o,u,_,f,e,_,d⟩=>λb h=>by
  rw[Vf,Vl]at h;rcases h with h|h
  .rw[h];exact⟨o,u,f,e⟩
  .exact gq.all d b h
theorem gq.look{H:Hp}:∀{d:List<|Vq×Vi}{vs:am}{j:Nat}{x:Vq}{v:V},gq H d vs->(d.map (·.1)).Nodup->(d.map (·.1))[j]?=Wp x->vs[j]?=Wp v->∃c o u,d.lookup x=Wp c/\H c=Wp (.frz o<|.own c)/\o.data=.cell (Wp u)/\bw v u
 |[],_,_,_,_,_,_,h,_=>by simp at h
 |(y,c)::r,_,0,x,v,⟨m,p,o,u,e,l,i,g,f⟩,nd,a,b=>by
  simp at a;subst a;rw[e]at b;simp at b;subst b;exact⟨c,o,u,by rw[V7,eu],l,i,g⟩
 |(y,c)::r,_,j+1,x,v,⟨m,p,o,u,e,l,i,g,f⟩,nd,a,b=>by
  rw[Vf]at nd a;rw[VZ]at a;rw[e,VZ]at b;obtain⟨c1,t,n,s,q⟩:=gq.look f (VR.mp nd).2 a b;refine⟨c1,t,n,?_,q⟩;have w:(x==y)=Vd:=by
   rw[eR];rintro rfl;exact(VR.mp nd).1<|VQ a
  rw[V7,w];exact s
theorem ng:∀{a:List<|Vq×Vi},x∈a.map (·.1)->∃c,a.lookup x=Wp c
 |[],h=>by simp at h
 |(y,c)::r,h=>by
  rw[V7];cases e:(x==y) with
  |true=>exact⟨c,rfl⟩
  |false=>
   rw[Vf,Vl]at h;rcases h with h|h
   .rw[eR]at e;exact er h e
   .exact ng h
theorem yx:∀{a:List (Vq×Vi)},(a.map (·.2)).Nodup->a.Pairwise λx y=>x.2≠y.2
 |[],_=>.nil
 |(y,c)::r,h=>by
  rw[Vf]at h;obtain⟨f,d⟩:=VR.mp h;exact .cons (λp b e=>f<|e▸Xk b)<|yx d
theorem tO{y:Vq}{u:U5}:∀{ps:cr}{c:List U5}{i:Nat},ps.Nodup->ps[i]?=Wp y->c[i]?=Wp u->(ps.zip c).lookup y=Wp u
 |[],_,_,_,h,_=>by simp at h
 |_::_,[],_,_,_,h=>by simp at h
 |p::P,w::d,0,nd,a,b=>by
  simp at a b;subst a;subst b;rw[Wy,V7,eu]
 |p::P,w::d,i+1,nd,a,b=>by
  have e:(y==p)=Vd:=by
   rw[eR];rintro rfl;exact(VR.mp nd).1 (VQ<|by simpa using a)
  rw[Wy,V7,e];exact tO (i:=i) (VR.mp nd).2 (by simpa using a) (by simpa using b)
theorem GA:∀{ps:cr}{c:List U5},∀x∈(ps.zip c).map (·.1),x∈ps
 |_,_,x,h=>by
  obtain⟨⟨a,b⟩,d,rfl⟩:=VD.mp h;exact(YB d).1
theorem xy:∀{ps:cr}{a:List U5},ps.Nodup->((ps.zip a).map (·.1)).Nodup
 |[],_,_=>by simp
 |_::_,[],_=>by simp
 |p::P,w::b,h=>by
  rw[Wy,Vf];exact VR.mpr ⟨λz=>(VR.mp h).1<|GA _ z,xy (VR.mp h).2⟩
def Qh{ps:cr}{a:List U5}{i:Nat}(nd:ps.Nodup)(c:ps[i]?=Wp y)(b:a[i]?=Wp u):(ps.zip a).reverse.lookup y=Wp u:=by
 rw[lookup_reverse_of_nodup _ (xy nd)];exact tO nd c b
def qi(L:List Vi)(H J:Hp):Hp:=λb=>if b∈L then H b else J b
section
variable {L:List Vi}{H J:Hp}{b:Vi}
def me(a:b∈L):qi L H J b=H b:=ef a
def dU(a:b∉L):qi L H J b=J b:=eo a
def xM(s:aD (unT L H) J):aD H (qi L H J):=λb u e=>by
 by_cases a:b∈L
 .rw[me a];exact e
 .rw[dU a];exact s b u (by rw[bY a];exact e)
def FP(i:aD Ha H)(g:bz (unT L H) (unT L Ha) J j):bz H Ha (qi L H J) (qi L Ha j) :=
 ⟨xM g.s,xM g.z,λb u e=>by
  by_cases c:b∈L
  .rw[me c]at e ⊢;exact i b u e
  .rw[dU c]at e ⊢;exact g.sub b u e,λa d f=>by
  by_cases c:a∈L
  .rw[me c]at d;exact er f d
  .rw[dU c]at d
   have:=g.nw a d (by rw[bY c];exact f);rwa[bY c]at this⟩
end
section
variable {P:V5}{w:Wx}{L fs:List Vi}{H J:Hp}{h h':Vu}
def Dl(j:∀b∈L,∃o c,H b=Wp (.frz o<|.own c)/\h.get? b=Wp o)(r:∀b∈L,b∉fs)(u:Un fs [] (unT L H) J h h')(k:fJ P w J h'):Un fs [] H (qi L H J) h h'/\fJ P w (qi L H J) h':=by
 have g:∀{b:Vi}{x:HO},H b=Wp x->(∀o c,x≠.frz o (.own c))->b∉L:=λ{b x} e n z=>by
  obtain⟨o,c,q,_⟩:=j b z;rw[e]at q;cases q;exact n _ _ rfl
 have d:∀{b:Vi},H b=Wb->b∉L:=λ{b} e z=>by
  obtain⟨o,c,q,_⟩:=j b z;rw[e]at q;cases q
 have p:∀b∈L,J b=Wb:=λb a=>by
  obtain⟨o,c,_,q⟩:=j b a;exact u.free b o q (lr a) 0#3
 refine⟨⟨λb o e n a f=>u.keep b o e (by rw[bY (d n)];exact n) a f,λb o e n a f=>u.slot b o e (by rw[bY (d n)];exact n) a f,λb o e n f=>?_,λb o e f=>u.there b o e f,λb xs e=>?_,λb o v e=>?_,λb ps e=>?_⟩,λb v e=>?_⟩
 .rw[dU (d n)];exact u.free b o e (by rw[bY (d n)];exact n) f
 .have i:=g e (λ_ _ z=>by cases z)
  rw[dU i];exact u.tups b xs (by rw[bY i];exact e)
 .by_cases a:b∈L
  .rw[me a];exact e
  .rw[dU a];exact u.frzs b o v (by rw[bY a];exact e)
 .have i:=g e (λ_ _ z=>by cases z)
  rw[dU i];exact u.tbls b ps (by rw[bY i];exact e)
 .by_cases a:b∈L
  .rw[me a]at e
   obtain⟨o,c,q,m⟩:=j b a;rw[q]at e;cases e;have l:=u.keep b o m (lr a) (r b a) 0#3;exact⟨l,o,l⟩
  .rw[dU a]at e
   have own:∀c x,J c=Wp x->qi L H J c=Wp x:=λc x q=>by
    rw[dU (λz=>by rw[p c z]at q;cases q)];exact q
   exact(k b v e).stay (λ_ _ _ q=>q) (λc q=>own _ _ q) (λc xs q=>own _ _ q) λc ps q=>own _ _ q
def F5(d:∀b∈L,∃o c,H b=Wp (.frz o<|.own c)/\h.get? b=Wp o)(k:fJ P w H h):fJ P w (unT L H) h:=λb v e=>by
 obtain⟨f,e⟩:=oh e;have own:∀c x,H c=Wp x->(∀o b,x≠.frz o b)->unT L H c=Wp x:=λc x q n=>by
  rw[bY (λz=>by obtain⟨o,g,a,_⟩:=d c z;rw[a]at q;cases q;exact n _ _ rfl)];exact q
 exact(k b v e).stay (λ_ _ _ q=>q) (λc q=>own _ _ q (λ_ _ z=>by cases z)) (λc xs q=>own _ _ q (λ_ _ z=>by cases z)) λc ps q=>own _ _ q (λ_ _ z=>by cases z)
end
section
variable {P:V5}{w:Wx}{K:Va}{mg:Vq->Option U5}{base:Vu}{k:Nat}{q:Vq}{F:kq}{N ps:cr}{fb:bv}
def zt(hF:(xZ K).lookup q=Wp F)(S:Kc N ps F.scope)
  (a0:∀(O:Vi) (j:List<|Vq×Vi) (pm a1:U5) (Y:List U5),Y.length=ps.length->bindArgs (W.kla_fn "<lambda>" q F.params F.body F.scope j pm (.ref O) a1) ⟨Y,[]⟩=pure (ps.zip Y))
  (as:∀(f O:Vi) (j:List<|Vq×Vi) (A:Wh) (outer:List Wq) (s:Vm) (H:Hp),cW k (A.deeper<|W.envX q F.scope 2#s f (.ref O) j)->DE (T2 P w K mg base N q F.scope f O j A outer s H) E0 F.body fb) :
  nX P w K mg base CX0 (k+1) q (Jb ps.length (iD F.scope).length fb):=by
 intro A outer s H Ha n ds f Y vs Q E hr C hs rf rd r h;unfold Jb at h
 by_cases hl:ds.length=ps.length/\n.length=(iD F.scope).length/\noFns ds=VO/\noFns n=VO
 case neg=>rw[eo hl]at h;exact h.elim
 rw[ef hl]at h;obtain⟨bi,be,bd,bb⟩:=hl;obtain⟨a,T,ea,⟨F',j,O,t,mm,pm,a1,h0,⟨h1,bx⟩,h2,h3,h4⟩,h5⟩:=bj.mp rf;cases ea;rw[hF]at h0;cases h0;have ap:vs.length=ps.length:=by rw[←rd.length,bi]
 have a8:Y.length=ps.length:=by rw[←r.length,ap]
 have bq:T.length=(iD F.scope).length:=by rw[←h5.length,be]
 have a4:=(C.hok f _<|hs _ _ h2).1;have bt:s.heap.CodeRec (.ref O) q:=by
  rcases C.hok O _ (hs _ _ h3) with⟨_,oc,ws,qu,t1,t2,more,l,L,z3,z4⟩|⟨z,_⟩
  .have e:=ew YI l
   simp only[saR,Xd,WS]at e;injection e with _ e;injection e with e _;cases e;exact⟨O,oc,ws,t2,rfl,L,z3,z4⟩
  .exact(z (by rw[Z1 0#3];rfl)).elim
 have a7:s.heap.NoLimit:=C.mod.nolimit.keeps λb o e=>(C.bs b o e).1;have hc:∀b∈j.map (·.2),∃o c,H b=Wp (.frz o<|.own c)/\s.heap.get? b=Wp o:=λb G=>by
  obtain⟨o,u,l,_⟩:=h4.all b G;exact⟨o,b,hs _ _ l,(C.hok b _<|hs _ _ l).1⟩
 have bm:∀b∈j.map (·.2),b∉gW outer:=λb G z=>by
  obtain⟨o,c,q1,_⟩:=hc b G;rw[C.frf b z]at q1;cases q1
 have ba:(j.map (·.1)).Nodup:=by
  have:=S.nd;rw[S.eq]at this;rw[h1];exact(Xs.mp this).2.1
 refine W.kla_callFunE hr.depth a4 rfl S.co S.gen rfl bt ?_;rw[a0 O j pm a1 Y a8];refine VE<|wpAny_newFunctionEnv S.nocell (λy U=>S.par _ (YB U).1) (λM a9 a2=>⟨a7.fresh _ a2,?_⟩) S.kind;show Xm _ _ (.expr F.body<|W.envX q F.scope 2#s f (.ref O) j) _ _;have B:∀b o,s.heap.get? b=Wp o->M.get? b=Wp o:=λb o e=>a2.extBut b o (VM<|Vw e)<|Vc _ e;refine W.kla_codeExpr ?_;have a5:fJ P w (unT (j.map (·.2)) H) M:=(F5 hc C.hok).kept B;have al:∀{b:Vi},H b=Wb->unT (j.map (·.2)) H b=Wb:=λ{b} e=>by
  by_cases G:b∈j.map (·.2)
  .exact lr G
  .rw[bY G];exact e
 have a3:M.Ns 2#s (λx=>(ps.zip Y).reverse.lookup x):=a9;have I:L2.Inv (T2 P w K mg base N q F.scope f O j A outer s (unT (j.map (·.2)) H)) [] ((vs++T).map Wp) (unT (j.map (·.2)) H) { s with heap:=M,toks:=s.toks+(ps.zip Y).length }:=by
  have an:∀b:Vi,b∉(T2 P w K mg base N q F.scope f O j A outer s (unT (j.map (·.2)) H)).ex:=λb z=>er (show b∈([]:List Vi) from z) 0#3;refine⟨⟨C.mod,S.kind,rfl,rfl,VB _,λy z c h1 h2=>?_,λy U=>?_,λy c z _=>er (show Vd=VO from z) 0#1,λ_=>hr.hd,saN C.frames,.inr ⟨rfl,rfl⟩,λb z=>er z (an b),λb o e=>⟨(C.bs b o e).1,al (C.bs b o e).2⟩,C.bsz,λb _ _=>an b,λb z=>er z (an b),C.funs,λb z=>al (C.frf b z),λP' d hm=>?_⟩,
   rfl,C.bare,Un.kept B,⟨_,a3,λi y v l L z3=>?_⟩,λy c z=>?_,al (C.hok.fresh (VB _)),λy c z=>?_,λp hp=>er (show p∈([]:List<|Vi×Obj) from hp) 0#3,a5,?_⟩
  .exact name_of_addr (yx bx) (Wi h1)<|Wi h2
  .have U:F.scope.names.lookup y=Wp .cell∨F.scope.names.lookup y=Wp .free:=U
   rcases U with U|U
   .exact er rfl (S.nocell _<|Wi U)
   .refine ng ?_
    show y∈j.map (·.1);rw[h1];exact S.has _ (Wi U) rfl
  .obtain⟨m,e⟩:=C.tab P' d hm
   refine⟨m,?_⟩;show unT _ H P'=_;rw[bY (λz=>by obtain⟨o,c,l,_⟩:=hc _ z;rw[e]at l;cases l)];exact e
  .have l:N[i]?=Wp y:=l
   rw[S.eq]at l
   by_cases hi:i<ps.length
   .rw[VA hi]at l
    rw[VX,VA (by simp;omega),Vh]at L;have ha:vs[i]?=Wp v:=by
     cases e:vs[i]? with|none=>rw[e]at L;cases L|some a=>rw[e]at L;cases L;rfl
    obtain⟨u,hu,rv⟩:=r.get ha;have k:=S.par y<|VQ l;refine⟨u,rv,.inl ⟨k,?_⟩⟩;have a6:ps.Nodup:=by
     have:=S.nd;rw[S.eq]at this;exact(Xs.mp this).1
    exact Qh a6 l hu
   .rw[VF 0#2]at l
    rw[VX,VF (by simp;omega),U8,ap,Vh]at L;have ha:T[i-ps.length]?=Wp v:=by
     cases e:T[i-ps.length]? with|none=>rw[e]at L;cases L|some a=>rw[e]at L;cases L;rfl
    rw[←h1]at l;obtain⟨c,o,u,q1,q2,q3,q4⟩:=h4.look ba l ha;have k:=S.fr y (by rw[←h1];exact VQ l);exact⟨u,q4,.inr ⟨.inr k,c,q1,o,B _ _ (C.hok c _<|hs _ _ q2).1,q3⟩⟩
  .obtain⟨o,u,q1,q2⟩:=h4.all c (Xk<|Wi z)
   exact⟨_,o,B _ _ (C.hok c _<|hs _ _ q1).1,q2⟩
  .exact lr<|Xk<|Wi z
  .show((vs++T).map Wp).length=N.length
   rw[S.eq,U8,Vs,Vs,ap,bq]
 have ab:M8 (j.map (·.2)) Ha:=λb G=>by
  obtain⟨o,u,z,_⟩:=h4.all b G;exact .inl ⟨o,b,z⟩
 have hS:aD (unT (j.map (·.2)) Ha) (unT (j.map (·.2)) H):=λb u e=>by
  obtain⟨G,e⟩:=oh e;rw[bY G];exact hs b u e
 refine Wj ((as f O j A outer s (unT (j.map (·.2)) H) (hr.deeper _)).o [] _ _ _ (λv J=>(∀b∈j.map (·.2),J b=Wb)->Q v (qi (j.map (·.2)) H J)) I ⟨unT (j.map (·.2)) Ha,(ds++n).map Sl.sh,hS,λi d e=>?_,?_⟩) (λu s' ⟨v,J,I',rv,q'⟩=>?_) λe s' z=>(show False from z).elim
 .rw[Vh]at e
  have e1:(ds++n)[i]?=Wp d:=by
   cases z:(ds++n)[i]? with|none=>rw[z]at e;cases e|some x=>rw[z]at e;cases e;rfl
  obtain⟨v,l,L⟩:=((Reps.unT ab bd rd).app<|Reps.unT ab bb h5).get e1;exact⟨v,by rw[Vh,l];rfl,L⟩
 .cases e:fb ((ds++n).map Sl.sh) with
  |stuck=>rw[e]at h;exact h.elim
  |exn x=>rw[e]at h;exact h.elim
  |ok d=>
   rw[e]at h;intro v J Ja g rp hj;exact h v _ _ (FP hs g) (rp.mono λb u z=>by
    rw[dU (λG=>by have:=g.sub b u z;rw[hj b G]at this;cases this)];exact z)
 .have hj:∀b∈j.map (·.2),J b=Wb:=λb G=>by
   obtain⟨o,c,_,z⟩:=hc b G;exact I'.base.free b o z (lr G) (by intro z;exact nomatch z)
  obtain⟨u1,k1⟩:=Dl hc bm I'.base I'.hok;exact⟨v,_,I'.os,I'.bare,u1,k1,rv,q' hj⟩
end
def kT:db->Ev->Option (ac)
 |[],_=>Wp []
 |i::r,a=>match a[i]? with
  |some (.sh d)=>(kT r a).map (d::·)
  |_=>Wb
def C3(j:Nat)(d:D)(ds:ac):ac:=ds.take j++d::ds.drop j
def wc(c:Ev->aw (ac))(j:Nat)(q:Vq)(cs:db)(m:ac->aw D):bv:=λb=>(c b).bind λd=>match kT cs b with
 |some a=>zB<|m<|C3 j (.ob (.fn q) a) d
 |none=>.stuck
structure Nb (X:Cx) (F:kq) (clos:List (Vq×Vi)) (cs:db):Prop where
 nm:clos.map (·.1)=iD F.scope
 nd:(iD F.scope).Nodup
 lk:∀p∈clos,X.env.cells.lookup p.1=Wp p.2
 ix:cs.map (X.N[·]?)=clos.map λp=>Wp p.1
 nl:∀p∈clos,X.env.kindOf p.1≠Wp .local /\ yC X.env.scope p.1
 fn:∀p∈clos,X.fn p.1=VO
def Dn(ok:X.Ok)(C:Nb X F a cs):(a.map (·.2)).Nodup:=by
 have nd:(a.map (·.1)).Nodup:=by rw[C.nm];exact C.nd
 have lk:=C.lk;clear C
 induction a with
 |nil=>simp
 |cons p r f=>
  rw[Vf]at nd ⊢;obtain⟨d,c⟩:=VR.mp nd;refine VR.mpr ⟨λz=>?_,f c λq b=>lk q<|U9 _ b⟩;obtain⟨q,b,e⟩:=VD.mp z;have i:=lk p Ve;have g:=lk q<|U9 _ b;have j:=ok.inj p.1 q.1 p.2 i (by rw[g,e]);exact d (by rw[j];exact Xk b)
theorem wt{X:Cx}{G:List<|Vi×Obj}{t:L2.St}{H Ha:Hp}{s:Vm}{ρ:Ev}(I:L2.Inv X G t H s)(B:fq X.K Ha t ρ):∀{a:List<|Vq×Vi}{cs:db}{b:ac},(∀p∈a,X.env.cells.lookup p.1=Wp p.2)->(cs.map (X.N[·]?)=a.map λp=>Wp p.1) ->
  (∀p∈a,X.env.kindOf p.1≠Wp .local /\ yC X.env.scope p.1)->kT cs ρ=Wp b->∃vs,Reps X.K Ha b vs/\∀(J:Hp),(∀p∈a,∃o,s.heap.get? p.2=Wp o/\J p.2=Wp (.frz o<|.own p.2))->gq J a vs
 |[],[],_,_,_,_,e=>by cases e;exact⟨[],Reps.nil,λJ _=>rfl⟩
 |[],_::_,_,_,e,_,_=>by simp at e
 |_::_,[],_,_,e,_,_=>by simp at e
 |(x,c)::r,i::A,b,lk,j,y,f=>by
  rw[Vf,Vf]at j;injection j with j q;unfold kT at f;cases n:ρ[i]? with
  |none=>rw[n]at f;cases f
  |some L=>
   rw[n]at f;cases L with
   |sh d=>
    replace f:(kT A ρ).map (d::·)=Wp b:=f;cases l:kT A ρ with
    |none=>rw[l]at f;cases f
    |some cp=>
     rw[l]at f;cases f;obtain⟨vs,h1,Y⟩:=wt I B (λp g=>lk p<|U9 _ g) q (λp g=>y p<|U9 _ g) l;obtain⟨v,Q,O⟩:=B i d n;refine⟨v::vs,Reps.cons O h1,λJ C=>?_⟩;obtain⟨m,hm,U⟩:=I.loc;have w:=y (x,c) Ve;obtain⟨u,M,lo⟩:=U i x v j Q w.2;rcases lo with⟨lo,_⟩|⟨_,c',z,o,T,hd⟩
     .exact er lo w.1
     .have:=lk (x,c) Ve
      rw[this]at z;cases z;obtain⟨o2,E,g2⟩:=C (x,c) Ve;rw[T]at E;cases E;exact⟨v,vs,o,u,rfl,g2,hd,M,Y J λp g=>C p<|U9 _ g⟩
   |_=>cases f
section
variable {X:Cx}{E:XK}{e:V4}{es:List V4}{f:bv}{fa:Ev->aw (ac)}{q:Vq}{F:kq}{clos:List (Vq×Vi)}{j:Nat}
noncomputable def Uz(X:Cx) (q:Vq) (F:kq) (clos:List<|Vq×Vi) (j:Nat) (p:List<|Vi×Obj) (o:L2.St) (H Ha:Hp) (ds:ac) (r:List U5) (s':Vm):Prop :=
 ∃(f n:Vi) (d s:U5) (t:Tok) (m:Array U5) (g c:Hp) (a b:am) (l i:List U5),r=l++.ref f::i/\a.length=j/\bh a l/\bh b i/\Reps X.K c ds (a++b)/\bz H Ha g c /\
  L2.Inv X ((f,nJ q F clos s n d)::p) o g s'/\g n=Wp (.tbl (#[.none,.str q t]++m))/\X.sf.heap.objs.size<=f
structure AL (X:Cx) (E:XK) (es:List V4) (fa:Ev->aw (ac)) (j:Nat) (q:Vq) (F:kq) (clos:List (Vq×Vi)):Prop where
 o:∀(pos:Pos) (π:List (Vi×Obj)) (s:Vm) (σ:L2.St) (H Ha:Hp) (ρ:Ev),L2.Inv X π σ H s->aD Ha H->fq X.K Ha σ ρ->ou X.K E H Ha (fa ρ) (λ_ _=>True) ->
  VC 4#X X.A (spliced (Wn pos (Vg es X.env))) (λus s'=>∃ds,fa ρ=.ok ds/\Uz X q F clos j π σ H Ha ds us s') X.xe s
def Qb(M:NO X q F c P clos)(ha:DA X E es fa)(hs:Vg (.Lambda F.params F.body F.scope F.pos::es) X.env=(Vd,eval (.Lambda F.params F.body F.scope F.pos) X.env)::Vg es X.env:=by exact aM rfl):AL X E (.Lambda F.params F.body F.scope F.pos::es) fa 0 q F clos:=by
 refine⟨λpos π s Q H u v I z A h=>?_⟩;rw[hs];show VC _ _ (spliced ((Vd,eval (.Lambda F.params F.body F.scope F.pos) X.env)::Wn pos (Vg es X.env))) _ _ s;refine Calls.spliced_cons<|IZ I M λf c' G pm t m L U I' i _ w x=>?_;have B:bz H u L u:=⟨i,aD.refl _,z.trans i,λa h1 h2=>er h2 h1⟩
 refine cM (ha.o pos _ U Q L (λn J=>∃l b,fa v=.ok l/\bz L u J b/\Reps X.K b l n) I' ⟨u,v,B.sub,A,?_⟩) λT s2 ⟨n,J,I2,Y,l,b,p,N,q2⟩=>?_
 .cases p:fa v with
  |stuck=>rw[p]at h;exact h.elim
  |exn y=>rw[p]at h;exact λC ox O d g=>h C ox O d<|B.trans g
  |ok l=>exact λn O d g r=>⟨l,d,rfl,g,r⟩
 .exact⟨l,p,f,c',G,pm,t,m,J,b,[],n,[],T,rfl,rfl,.nil,Y,q2,B.trans N,I2,N.s _ _ w,Vr I.sz x⟩
end
def Aa(CX:Ac):Prop:=∀(outer:List Wq) (H:Hp) (s:Vm) (L:List Vi) (E:XK) (e:U5) (a:Vm),xx L H s.heap->CX outer (wX s.heap L H) s (λC ox J=>E C ox<|unT L J) e a->CX outer H s E e a
def Jo:Aa CX0:=λ_ _ _ _ _ _ _ _ h=>h.elim
theorem Az{K:Va}(h:Rep K H d v):∀{vs1:am}{ds:ac}{a:am},Reps K H ds (vs1++a)->Reps K H (C3 vs1.length d ds) (vs1++v::a)
 |[],_,_,r=>Reps.cons h r
 |_::vs1,[],_,r=>by have:=Reps.nil_iff.mp r;cases this
 |_::vs1,x::ds,_,r=>by
  obtain⟨i,j,e,c,b⟩:=az.mp r;rw[Xd]at e;injection e with g f;subst g f;exact Reps.cons c<|Az h (vs1:=vs1) b
section
variable {X:Cx}{E:XK}{CX:Ac}{k n:Nat}{fn:Vi}{fd:WD}{ps:cr}{m:ac->aw D}{q:Vq}{F:kq}{clos:List (Vq×Vi)}{cs:db}{j:Nat}{π:List (Vi×Obj)}{σ:L2.St}{H Ha Hb H₀₁:Hp}{s:Vm}{ρ:Ev}{ds caps:ac}{us:List U5}{Q:VK}
def K6(Fn:ft X.prog X.w X.K X.mg X.base CX k fn fd ps<|spD X.K n m)(hr:cW k X.A)(i:gw X.K fd ps [])(Y:gN CX X E)(hf:Aa CX)(hF:(xZ X.K).lookup q=Wp F)(C:Nb X F clos cs)(be:fq X.K Ha σ ρ)(bt:kT cs ρ=Wp caps)(hn:ds.length+1=n)
  (hA:Uz X q F clos j π σ H Ha ds us s)(h:post X.K E H Ha (zB<|m<|C3 j (.ob (.fn q) caps) ds) Q):X.K.In s.heap/\VC 4#X X.A (call (.ref fn) us) (EP X π σ Q) X.xe s:=by
 obtain⟨f,B,a7,pm,t,mm,H',l,N,M,u1,u2,rfl,hj,r1,r2,a4,g,I,al,bi⟩:=hA;refine⟨I.kIn,?_⟩;replace h:=h.grow g;have as:=I.pin (f,nJ q F clos pm B a7)<|VS _ Ve;obtain⟨p1,p2,p3,p4,p5⟩:=as;have U:∀b∈clos.map (·.2),∃x,X.env.cells.lookup x=Wp b/\X.fn x=VO:=λb i=>by
  obtain⟨p,hp,e⟩:=VD.mp i;exact⟨p.1,by rw[←e];exact C.lk p hp,C.fn p hp⟩
 have fr:xx (f::clos.map (·.2)) H' s.heap:=⟨λb i=>by
  rcases Vl.mp i with rfl|i
  .exact p2
  .obtain⟨x,Y,_⟩:=U b i
   exact I.freeC x b Y,λb i=>by
  rcases Vl.mp i with rfl|i
  .exact⟨_,p1⟩
  .obtain⟨x,Y,_⟩:=U b i
   obtain⟨v,o,ho,_⟩:=I.cell x b Y;exact⟨o,ho⟩⟩
 have b0:B∉f::clos.map (·.2):=λz=>by rw[fr.n B z]at al;cases al
 have a2:∀b∈f::clos.map (·.2),X.sf.heap.objs.size<=b:=λb i=>by
  rcases Vl.mp i with rfl|i
  .exact bi
  .obtain⟨x,Y,bm⟩:=U b i
   exact I.ok.cab x b bm Y
 have an:∀b∈f::clos.map (·.2),X.base.get? b=Wb:=λb i=>X1<|Vr I.ok.bsz<|a2 b i;have a3:∀b∈f::clos.map (·.2),b∉gW X.stack:=λb i z=>by
  rcases Vl.mp (I.stkSub b z) with e|z
  .rcases Vl.mp i with rfl|i
   .exact p3 e
   .obtain⟨x,Y,_⟩:=U b i
    exact I.cne x b Y e
  .obtain⟨_,o,ho,_⟩:=I.ok.funs.mem z
   exact er (Vk (Vw ho)<|a2 b i) (Xn _)
 let L:=f::clos.map (·.2)
 let G:=wX s.heap L H'
 let R:Hp:=λb=>if b∈L∨b=B then G b else l b
 have s2:aD H' G:=fr.same;have sR:aD R G:=λb u e=>by
  by_cases i:b∈L∨b=B
  .have e:(if b∈L∨b=B then G b else l b)=Wp u:=e
   rwa[ef i]at e
  .have e:(if b∈L∨b=B then G b else l b)=Wp u:=e
   rw[eo i]at e;exact s2 _ _<|g.sub _ _ e
 have ab:aD l R:=λb u e=>by
  show(if b∈L∨b=B then G b else l b)=Wp u
  by_cases i:b∈L∨b=B
  .rw[ef i];exact s2 _ _<|g.sub _ _ e
  .rw[eo i];exact e
 have RL:∀b,b∈L->R b=G b:=λb i=>ef<|.inl i;have Rc:R B=Wp (.tbl (#[.none,.str q t]++mm)):=by
  show(if B∈L∨B=B then G B else l B)=_;rw[ef (.inr rfl)];exact s2 _ _ al
 obtain⟨a8,k1,k2⟩:=wt I (be.mono g.z) C.lk C.ix C.nl bt;have rf:Rep X.K R (.ob (.fn q) caps) (.ref f):=bj.mpr ⟨f,a8,rfl,⟨F,clos,B,t,mm,pm,a7,hF,⟨C.nm,Dn I.ok C⟩,by rw[RL f Ve];exact oi Ve p1,Rc,k2 R λp hp=>by
  have hm:p.2∈L:=U9 _<|Xk hp;obtain⟨o,ho⟩:=fr.o _ hm;exact⟨o,ho,by rw[RL _ hm];exact oi hm ho⟩⟩,k1.mono ab⟩
 have ap:Reps X.K R (C3 j (.ob (.fn q) caps) ds) (N++.ref f::M):=by rw[←hj];exact Az rf<|a4.mono ab
 have rv:bh (N++V.ref f::M) (u1++VG f::u2):=r1.append<|.cons rfl r2;have a6:sQ X.prog X.w X.K X.mg X.base X.A X.stack s G:=fr.env0 I.env0 an a3;have hlen:(N++V.ref f::M).length=n:=by
  have:=a4.length;rw[Vs]at this;rw[Vs,Vp];omega
 have key:∀(J Ja:Hp),bz G R J Ja->∃L',M8 L' Ja/\bz H' l (unT L J) (unT L' Ja):=λJ Ja T=>by
  have a1:∀b∈L,∃o c,Ja b=Wp (.frz o<|.own c):=λb i=>by
   obtain⟨o,ho⟩:=fr.o b i;exact⟨o,b,T.z b _ (by rw[RL b i];exact oi i ho)⟩
  have bq:=T.z B _ Rc;refine⟨if l B=Wb then B::L else L,λb i=>?_,λb u e=>?_,λb u e=>?_,λb u e=>?_,λa h1 h2=>?_⟩
  .by_cases z:l B=Wb
   .rw[ef z]at i
    rcases Vl.mp i with rfl|i
    .exact .inr<|.inl ⟨_,bq⟩
    .exact .inl<|a1 b i
   .rw[eo z]at i;exact .inl<|a1 b i
  .have nb:b∉L:=λz=>by rw[fr.n b z]at e;cases e
   rw[bY nb];exact T.s b u<|s2 b u e
  .have nb:b∉L:=λz=>by have:=g.sub b u e;rw[fr.n b z]at this;cases this
   have bb:b∉(if l B=Wb then B::L else L):=λz=>by
    by_cases y:l B=Wb
    .rw[ef y]at z
     rcases Vl.mp z with rfl|z
     .rw[y]at e;cases e
     .exact nb z
    .rw[eo y]at z;exact nb z
   rw[bY bb];exact T.z b u<|ab b u e
  .obtain⟨nb,e⟩:=oh e
   have nL:b∉L:=λz=>nb (by
    by_cases y:l B=Wb
    .rw[ef y];exact U9 _ z
    .rw[eo y];exact z)
   rw[bY nL];exact T.sub b u e
  .have na:a∉(if l B=Wb then B::L else L):=λz=>h1 (lr z)
   rw[bY na]at h1;have nL:a∉L:=λz=>na (by
    by_cases y:l B=Wb
    .rw[ef y];exact U9 _ z
    .rw[eo y];exact z)
   have nc:a≠B:=λz=>na (by rw[←z,ef h2];exact Ve);have bx:R a=Wb:=by
    show(if a∈L∨a=B then G a else l a)=Wb;rw[eo (by rintro(z|z);exact nL z;exact nc z)];exact h2
   have:=T.nw a h1 bx;have e:G a=H' a:=gU nL;rwa[e]at this
 have O:post X.K (λC ox J=>E C ox<|unT L J) G R (m<|C3 j (.ob (.fn q) caps) ds) (λv J=>Q v<|unT L J):=by
  cases e:m (C3 j (.ob (.fn q) caps) ds) with
  |stuck=>rwa[e]at h
  |ok d=>
   rw[e]at h;replace h:post X.K E H' l (if jr d=VO then .ok d else .stuck) Q:=h
   by_cases hd:jr d=VO
   .rw[ef hd]at h
    intro v J Ja T rp;obtain⟨L',hl,g'⟩:=key J Ja T;exact h v _ _ g'<|Rep.unT hl hd rp
   .rw[eo hd]at h;exact h.elim
  |exn x=>
   rw[e]at h;replace h:post X.K E H' l (if Ej x=VO then .exn x else .stuck) Q:=h
   by_cases hd:Ej x=VO
   .rw[ef hd]at h
    intro C' ox J Ja T rp;obtain⟨L',hl,g'⟩:=key J Ja T;exact h C' ox _ _ g'<|yG.unT hl hd rp
   .rw[eo hd]at h;exact h.elim
 have bd:(u1++VG f::u2).length=ps.length:=by
  rw[←rv.length];exact Fn.len _ _ _ _ (show spD X.K n m (N++V.ref f::M) G (λv J=>Q v<|unT L J) (λC ox J=>E C ox<|unT L J) from⟨hlen,R,_,sR,ap,O⟩)
 have a5:=i s (u1++VG f::u2) I.kIn (by rw[We];exact bd);rw[We]at a5;refine wpAny_call<|codeAny_mono (Fn.run X.A X.stack s G ⟨u1++.ref f::u2,[]⟩ (u1++.ref f::u2) (N++.ref f::M) (λv J=>Q v (unT L J)) (λC ox J=>E C ox (unT L J)) hr a6 a5 rv ⟨hlen,R,_,sR,ap,O⟩) λr s' hq=>?_;cases r with
 |error e=>exact Y _ σ H' s e s' I<|hf _ _ _ L _ _ _ fr hq
 |ok fl=>
  cases fl with
  |ret u=>
   obtain⟨v,J,os,bare,un,hok,ba,qq⟩:=hq;obtain⟨a9,a0,_⟩:=fr.back un hok;obtain⟨v2,H3,I3,r3,q3⟩:=I.after (Q:=Q) (u:=u) (s':=s') ⟨v,unT L J,os,bare,a9,a0,ba,qq⟩;exact⟨v2,H3,BZ I3,r3,q3⟩
  |next|brk|cont=>exact V0 hq
end
structure wM (K:Va) (fd:WD) (q:Vq) (F:kq):Prop where
 ex:∃c P,fd.code=.ref c/\ZS K c P=VO/\(P,#[rawInt F.pos.line,rawInt F.pos.col,.str q 0])∈iC K
 lk:(xZ K).lookup q=Wp F
section
variable {X:Cx}{E:XK}{e:V4}{es:List V4}{fa:Ev->aw (ac)}{q:Vq}{F:kq}{clos:List (Vq×Vi)}{cs:db}{j:Nat}{fd:WD}
def MT(L:wM X.K fd q F)(d:fd.code=X.env.code)(n:DA X E es fa)(b:closureFor F.scope X.env=pure clos:=by exact rfl)(m:X.env.qual++"<lambda>"=q:=by exact rfl)(a:defaultsOf F.params X.env=([],[]):=by exact rfl)
  (l:Vg (.Lambda F.params F.body F.scope F.pos::es) X.env=(Vd,eval (.Lambda F.params F.body F.scope F.pos) X.env)::Vg es X.env:=by exact aM rfl):AL X E (.Lambda F.params F.body F.scope F.pos::es) fa 0 q F clos:=by
 obtain⟨c,P,t,r,p⟩:=L.ex;exact⟨λpos i s f H u g I=>(Qb ⟨b,by rw[←d];exact t,W.codeHd_of_K I.ok.mod.kin r,p,m,a⟩ n l).o pos i s f H u g I⟩
def JP{k k0 n:Nat}{ps:cr}{st:Xi}(B:fP X.prog X.w X.K X.mg X.base CX k0 fn ab ps (spD X.K n m) x st)(T:cW k X.A)(L:wM X.K fd q F)(C:Nb X F clos cs)(ha:AL X E (e::es) fa j q F clos)(U:∀ρ ds,fa ρ=.ok ds->ds.length+1=n)
  (r:k0<=k:=by decide)(N:gN CX X E:=by first|exact AJ|exact i|exact zd)(hf:Aa CX:=by first|exact Jo|exact c)
  (Y:Gl X x:=by exact rfl)(u:1#x:=by decide)(he:Vg (e::es) X.env=(Vd,eval e X.env)::Vg es X.env:=by exact aM rfl)(l:(Wn pos<|Vg es X.env).any (·.1)=Vd:=by exact bM rfl) :
  DE X E (.Call (.Name x p) (e::es) [] pos) (wc fa j q cs m):=by
 refine⟨λM s J H Q I h=>?_⟩;obtain⟨G,ρ,O,d,h⟩:=h;unfold wc at h;refine wpAny_Call_Name_kw<|gP I Y B.t.g ?_ u;refine Zu (h₀:=X.base) I.ok.mod.kin B.t.F.kp (cM (ha.o pos M s J H G ρ I O d ?_) λus s1 ⟨ds,f,hA⟩=>?_) he l
 .cases f:fa ρ with
  |stuck=>rw[f]at h;exact h.elim
  |exn y=>rwa[f]at h
  |ok ds=>exact λ_ _ _ _ _=>WJ
 .rw[f]at h
  replace h:post X.K E H G (match kT cs ρ with
   |some a=>zB<|m<|C3 j (.ob (.fn q) a) ds
   |none=>.stuck) Q:=h
  cases v:kT cs ρ with
  |none=>rw[v]at h;exact h.elim
  |some a=>
   rw[v]at h;exact K6 (B.F.mono r) T B.t.b N hf L.lk C d v (U ρ ds f) hA h
end
section
variable {P:V5}{w:Wx}{K:Va}{mg:Vq->Option U5}{base:Vu}{rows:List Rw}{A:Nat->Vi}{Q:Nat->WD}{i k n:Nat}{r:Rw}{s:ci}
variable (T:TG rows K mg A Q) (S:SM rows) (h:rows[i]?=Wp r)
include T S h
theorem UN(b:∀(a:U5),(Q i).code=a->∀(c:Wh) (outer:List Wq) (s0:Vm) (H Ha:Hp) (E:XK),cW k (c.deeper<|envOfC r.x (defScope r.st) 2#s0 (A i) a) ->
   B2 (cP (fR P w) P w K mg base r.N r.x (defScope r.st) (A i) a c outer s0 H E) E H Ha (defBody r.st) s):fP P w K mg base (fR P w) (k+1) (A i) (Q i) r.ps (spD K r.ps.length<|bH r.N.length s) r.x r.st :=
 ⟨rR (T i r h).F (S r<|VQ h) b,T i r h⟩
end
noncomputable def mD(i j:Nat) (ρ:Ev) (ds:ac) (d:D):aw Fl:=match d with
 |.int k=>match xt ds.length k with
  |some n=>match ds[n]? with
   |some x=>if ds.length<line then .ok (.nx<|(ρ.set j<|.ow<|.lst<|ds.eraseIdx n).set i<|.sh x) else .stuck
   |none=>.stuck
  |none=>.stuck
 |_=>.stuck
def mE(i j:Nat)(f:bv):ci:=λa=>xT a j λb=>(f a).bind<|mD i j a b
section
variable {X:Cx}{E:XK}{He η:Hp}{e:V4}{f:bv}{pos:Pos}
def Bz(hN:X.N.Nodup)(hi:X.N[i]?=Wp x)(hx:Ka X.env.scope x)(hj:X.N[j]?=Wp y)(hv:yC X.env.scope y)(he:DE X E e f)
  (hd:1#y:=by decide)(G:3#y:=by decide)
  (l:Xe (.Name y u) "pop" X.env (eval (.Name y u) X.env)=eval (.Name y u) X.env:=by rfl)
  (m:((Wn r<|Vg [e] X.env).all (λx=>!x.1)&&(YK r<|XA [] X.env).all (λx=>x.1.isSome)
  &&decide ([e].length+([]:List Yc).length+(if([]:List Yc).isEmpty then 0 else 1)<30))=VO:=by exact lQ rfl)
  (c:(Q.endLine==r.line)=VO:=by rfl) (t:Vg [e] X.env=(Vd,eval e X.env)::Vg [] X.env:=by exact aM rfl) (b:(Wn r<|Vg [] X.env).any (·.1)=Vd:=by exact bM rfl)
  (hs:WI (.Call (.Attribute (.Name y u) "pop" Q) [e] [] r) (Wp<|.Name x pos') pos.line X.env=pure Vd:=by rfl)
  (hf:X.fn x=VO∨X.env.scope.names.lookup x=Wp .local := by first|exact .inl rfl|exact .inr rfl|assumption) :
  DS X E He η (.Assign [.Name x pos'] (.Call (.Attribute (.Name y u) "pop" Q) [e] [] r) pos) (mE i j f):=by
 refine⟨?_⟩;refine cA (uo hN hi hx (AI Yi PySem.F.slot_list_pop PySem.F.type_list_pop IH (fW hj hv hd G) (dH he.o ig t) l m c t b) hs hf) λD σ H ⟨Ha,Y,h,q⟩=>?_;obtain⟨A,p,B,e1,U,e3,e4,T,L,q⟩:=oz h q;refine⟨.ref p,U,.inl ⟨rfl,B,fm.of T⟩,?_⟩;refine⟨Ha,Y,h.g.sub,h.rd,plain h q λd v H' O _ g rp a=>?_⟩;unfold mD at a;cases d with
 |int k=>
  simp only at a;cases J:xt A.length k with
  |none=>simp only[J]at a;exact a.elim
  |some n=>
   simp only[J]at a;cases I:A[n]? with
   |none=>simp only[I]at a;exact a.elim
   |some d=>
    simp only[I]at a
    by_cases C:A.length<line
    .rw[ef C]at a
     obtain⟨s1,s2,s3,s4⟩:=zv J;have hlen:=L.length;have ab:A.length<1000001:=Vk C 0#1;have M:H' p=Wp (.lst B):=g.s _ _ T;rw[ax.mp rp];obtain⟨w,y1,y2⟩:=L.get I;refine⟨p,B,k,n,w,rfl,rfl,M,by omega,by omega,by rw[←hlen];exact s1,y1,?_⟩;have h2:=(h.grow g).write e1 U<|(L.mono g.z).erase n;exact a _ _ O (aD.refl _)<|h2.put<|y2.mono g.z
    .rw[eo C]at a;exact a.elim
 |_=>exact a.elim
end
mutual
def lN:D->Bool
 |.tup a=>instFs a
 |.lst _=>Vd
 |.dic _ _=>Vd
 |.exc _=>Vd
 |.ob (.ins _ _) a=>instFs a
 |.ob _ _=>Vd
 |_=>VO
def instFs:ac->Bool
 |[]=>VO
 |d::a=>lN d&&instFs a
end
mutual
theorem Rep.inst_to{K:Va}{H H':Hp}(i:∀a vs,Rd H a (.tup vs)->Rd H' a (.tup vs))(j:∀a C g fs,H a=Wp (.ins C g fs)->H' a=Wp (.ins C g fs)):∀{d:D}{v:V},lN d=VO->Rep K H d v->Rep K H' d v
 |.non,_,_,h=>by unfold Rep at h ⊢;exact h
 |.bl _,_,_,h=>by unfold Rep at h ⊢;exact h
 |.int _,_,_,h=>by unfold Rep at h ⊢;exact h
 |.str _,_,_,h=>by unfold Rep at h ⊢;exact h
 |.tup b,_,f,h=>by
  rw[lN]at f;obtain⟨a,vs,m,e,l⟩:=aH.mp h;refine aH.mpr ⟨a,vs,m,?_,Reps.inst_to i j f l⟩;rcases e with e|e
  .exact .inl<|i _ _ e
  .exact .inr e
 |.lst b,_,f,h=>by rw[lN]at f;cases f
 |.dic n b,_,f,h=>by rw[lN]at f;cases f
 |.exc x,_,f,h=>by rw[lN]at f;cases f
 |.ob (.ins c n) b,_,f,h=>by
  rw[lN]at f;obtain⟨a,vs,m,⟨C,g,r,q,p,o⟩,l⟩:=bj.mp h;exact bj.mpr ⟨a,vs,m,⟨C,g,r,q,j _ _ _ _ p,o⟩,Reps.inst_to i j f l⟩
 |.ob (.dint _) b,_,f,h=>by rw[lN]at f<;>first|cases f|(intros;intro z;cases z)
 |.ob (.exf _ _) b,_,f,h=>by rw[lN]at f<;>first|cases f|(intros;intro z;cases z)
 |.ob .pl b,_,f,h=>by rw[lN]at f<;>first|cases f|(intros;intro z;cases z)
 |.ob (.fn _) b,_,f,h=>by rw[lN]at f<;>first|cases f|(intros;intro z;cases z)
theorem Reps.inst_to{K:Va}{H H':Hp}(b:∀a vs,Rd H a (.tup vs)->Rd H' a (.tup vs))(c:∀a C e fs,H a=Wp (.ins C e fs)->H' a=Wp (.ins C e fs)):∀{ds:ac}{vs:am},instFs ds=VO->Reps K H ds vs->Reps K H' ds vs
 |[],_,_,h=>by unfold Reps at h ⊢;exact h
 |d::ds,_,f,h=>by
  rw[instFs,Vv]at f;obtain⟨v,r,j,i,g⟩:=az.mp h;exact az.mpr ⟨v,r,j,Rep.inst_to b c f.1 i,Reps.inst_to b c f.2 g⟩
end
noncomputable def ju(Ha J:Hp) (p:Vi) (ws:am):Hp:=λa=>match Ha a with
 |some o=>Wp o
 |none=>if a=p then Wp (.lst ws) else match J a with
  |some (.tup b)=>Wp<|.tup b
  |some (.frz o (.tup b))=>Wp<|.frz o<|.tup b
  |some (.ins C c fs)=>Wp<|.ins C c fs
  |_=>Wb
section
variable {K:Va}{E:XK}{He η Ha H H1 J:Hp}{σ:L2.St}{ρ:Ev}{p:Vi}{ws:am}
def EV(h:aD Ha J)(n:a≠p)(e:ju Ha J p ws a=Wp o):J a=Wp o:=by
 unfold ju at e;cases q:Ha a with
 |some u=>rw[q]at e;cases e;exact h _ _ q
 |none=>
  rw[q]at e;simp only[eo n]at e;cases b:J a with
  |none=>rw[b]at e;cases e
  |some u=>
   rw[b]at e;cases u with
   |tup d|ins C g fs=>cases e;rfl
   |frz f c=>cases c<;>first|(cases e;rfl)|cases e
   |_=>cases e
def MW(h:aD Ha J)(b:J p=Wb∨∃l,J p=Wp (.lst l))(a:Vi)(vs:am)(e:Rd J a<|.tup vs):Rd (ju Ha J p ws) a (.tup vs):=by
 have n:a≠p:=λz=>by
  subst z;rcases b with b|⟨l,b⟩<;>rcases e with e|⟨o,e⟩<;>rw[b]at e<;>cases e
 rcases e with e|⟨o,e⟩
 .refine .inl ?_
  unfold ju;cases q:Ha a with|some u=>have:=h _ _ q;rw[e]at this;cases this;rfl|none=>simp only[eo n];rw[e]
 .refine .inr ⟨o,?_⟩
  unfold ju;cases q:Ha a with|some u=>have:=h _ _ q;rw[e]at this;cases this;rfl|none=>simp only[eo n];rw[e]
def J5(h:aD Ha J)(b:J p=Wb∨∃l,J p=Wp (.lst l))(a:Vi)(C c:Vi)(fs:List<|Vq×V)(e:J a=Wp (.ins C c fs)):ju Ha J p ws a=Wp (.ins C c fs):=by
 have n:a≠p:=λz=>by
  subst z;rcases b with b|⟨l,b⟩<;>rw[b]at e<;>cases e
 unfold ju;cases q:Ha a with|some u=>have:=h _ _ q;rw[e]at this;cases this;rfl|none=>simp only[eo n];rw[e]
def eG.behindJ(h:eG K He η Ha σ H ρ)(g:bz H (frz He Ha H) H1 J)(r:H p=Wb)(U:H1 p=Wp (.lst ws)):eG K He η (ju Ha J p ws) σ H1 ρ:=by
 have G:aD Ha J:=h.frz_sub.trans g.z;have z:aD Ha (ju Ha J p ws):=λb o e=>by unfold ju;rw[e]
 have B:He p=Wb:=h.g.s.free r;refine⟨⟨h.g.s.trans g.s,h.g.z.trans z,λb o e=>?_,λa h1 h2=>?_⟩,h.rd.mono z,λi d e=>?_,h.ap,h.ln,h.ex.upd (λj s e=>.inl ⟨e,rfl⟩) z (λa c _ e=>g.s _ _ e) λq L Y h0 m _=>⟨g.s _ _ m,by
  have:frz He Ha H q=Wp (.lst L):=by unfold frz;rw[Y];exact m
  have:=g.z _ _ this;have n:q≠p:=λz=>by rw[z,r]at m;cases m
  unfold ju;rw[h0];simp only[eo n];rw[this]⟩⟩
 .by_cases n:b=p
  .subst n
   unfold ju at e;cases q:Ha b with|some u=>rw[h.g.sub _ _ q]at r;cases r|none=>rw[q]at e;simp only[eP]at e;cases e;exact U
  .exact g.sub _ _<|EV G n e
 .by_cases n:a=p
  .rw[n];exact B
  .cases q:ju Ha J p ws a with
   |none=>exact er q h1
   |some o=>
    have hj:=EV G n q;exact(h.frz_grow.trans g).nw a (by rw[hj];simp) h2
 .obtain⟨a,T,k2,Q,l⟩:=h.ow i d e
  have non:∀u,H a=Wp u->(∀c,u≠.tup c)->(∀o v,u≠.frz o v)->(∀C I fs,u≠.ins C I fs)->ju Ha J p ws a=Wb:=λu A O N M=>by
   have n:a≠p:=λz=>by rw[z,r]at A;cases A
   have:frz He Ha H a=Wp u:=by unfold frz;rw[k2];exact A
   have:=g.z _ _ this;unfold ju;rw[Q];simp only[eo n];rw[this];cases u with|tup c=>exact er rfl (O _)|frz o v=>exact er rfl (N _ _)|ins C I fs=>exact er rfl (M _ _ _)| _=>rfl
  refine⟨a,T,k2,?_,?_⟩
  .cases d with
   |lst w=>obtain⟨c,f,_⟩:=l;exact non _ f (λ_ z=>nomatch z) (λ_ _ z=>nomatch z)<|λ_ _ _ z=>nomatch z
   |dic x w=>obtain⟨c,f,_⟩:=l;exact non _ f (λ_ z=>nomatch z) (λ_ _ z=>nomatch z)<|λ_ _ _ z=>nomatch z
   |ob y w=>
    cases y with|dint x=>obtain⟨c,f,_⟩:=l;exact non _ f (λ_ z=>nomatch z) (λ_ _ z=>nomatch z) (λ_ _ _ z=>nomatch z)| _=>exact l.elim
   |_=>exact l.elim
  .cases d with
   |lst w=>obtain⟨c,f,t⟩:=l;exact⟨c,g.s _ _ f,t.mono z⟩
   |dic x w=>obtain⟨c,f,m,t⟩:=l;exact⟨c,g.s _ _ f,m,t.mono z⟩
   |ob y w=>
    cases y with|dint x=>obtain⟨c,f,m,t⟩:=l;exact⟨c,g.s _ _ f,m,t.mono z⟩| _=>exact l.elim
   |_=>exact l.elim
end
def rE(k:bv)(i:Nat)(ρ:Ev)(ks:cr)(ds:ac)(d:D):aw Fl:=match d with
 |.lst a=>if instFs a=VO then(k ρ).bind (rF i ρ ks ds<|.lst a) else .stuck
 |_=>.stuck
def yS(i:Nat)(f k:bv):ci:=λa=>CC a i λb c=>(f<|fQ a).bind<|rE k i a b c
section
variable {X:Cx}{E:XK}{He η:Hp}{e b:V4}{pos:Pos}{f k:bv}
def JE(hu:X.A.units+1<Xu)(hN:X.N[i]?=Wp x)(hv:yC X.env.scope x)(he:DF X E e f)(hk:DE X E b k)
  (hd:1#x:=by decide)(O:3#x:=by decide)
  (hs:WI e (Wp<|.Subscript (.Name x p1) b p2) pos.line X.env=pure Vd:=by rfl):DS X E He η (.Assign [.Subscript (.Name x p1) b p2] e pos) (yS i f k):=by
 refine⟨?_⟩;refine cA (Lh hu (fW hN hv hd O) hk.o he.o hs) λD σ H z9=>?_;obtain⟨c,m,h,q⟩:=z9;refine⟨frz He c H,fQ m,h.frz_le,h.looks,?_⟩
 obtain⟨B,I,p,vs,e1,e2,e5,el,e6,q⟩:=Fp h q;cases T:f (fQ m) with
 |stuck=>rwa[T]at q|exn x=>rw[T]at q;exact λC ox H' U g ex=>q C ox H' U (h.frz_grow.trans g) ex
 |ok d=>
  rw[T]at q;replace q:bX X.K E He η c (rE k i m B I d) D:=q;unfold rE at q;cases d with
  |lst y=>
   simp only at q
   by_cases Q:instFs y=VO
   .rw[ef Q]at q
    intro a t H1 J g M h0 v rp;have Y:aD c J:=h.frz_sub.trans g.z;have w:J a=Wb∨∃l,J a=Wp (.lst l):=by
     cases z:J a with
     |none=>exact .inl rfl
     |some u=>
      have:=g.sub _ _ z;rw[v]at this;cases this;exact .inr ⟨_,rfl⟩
    have n:=h.behindJ g M v;have z:aD c (ju c J a t):=λb o e=>by unfold ju;rw[e]
    have L:ju c J a t a=Wp (.lst t):=by
     unfold ju;cases q0:c a with|some u=>rw[h.g.sub _ _ q0]at M;cases M|none=>simp
    have r1:Rep X.K (ju c J a t) (.lst y) (.ref a):=aA.mpr ⟨a,t,rfl,fm.of L,Reps.inst_to (MW Y w) (J5 Y w) Q rp⟩;refine⟨.ref p,e2,?_⟩;replace q:bX X.K E He η (ju c J a t) ((k m).bind<|rF i m B I<|.lst y) D:=bX.grow (r:=(k m).bind<|rF i m B I<|.lst y) q z;refine⟨ju c J a t,m,n.g.sub,n.rd,plain (k:=rF i m B I (.lst y)) n q λj u H2 ab _ G r2 q2=>?_⟩;exact HS (n.grow G) e1 e2 (G.s _ _<|g.s _ _ e5) el ((e6.mono z).mono G.z) (r1.mono G.z) r2 q2
   .rw[eo Q]at q;exact q.elim
  |_=>exact q.elim
end
def rX(sc:Yt)(env:Wq):List (Vq×Vi):=((sc.names.filter λp=>p.2==.free).map λp=>(p.1,(env.cells.lookup p.1).getD 0)).reverse
def q9{sc:Yt}:(rX sc env).map (·.1)=iD sc:=by
 unfold rX iD;rw[List.map_reverse,Wk];rfl
def F4{sc:Yt}(h:p∈rX sc env):p.1∈iD sc/\p.2=(env.cells.lookup p.1).getD 0:=by
 refine⟨by rw[←q9 (env:=env)];exact Xk h,?_⟩;unfold rX at h;rw[List.mem_reverse]at h;obtain⟨q,_,e⟩:=VD.mp h;rw[←e]
def C2(env:Wq)(x:Vq):Bool:=(env.cells.lookup x).isSome&&match env.kindOf x with
 |some .cell=>VO
 |_=>Vd
def MG(l:(iD F.scope).Nodup:=by decide +kernel)(j:∀x∈iD F.scope,C2 X.env x=VO:=by exact λx g=>V2.mp (by rfl:(iD _).all (C2 _)=VO) x g)(ix:cs.map (X.N[·]?)=(iD F.scope).map Wp:=by exact rfl)(i:∀x,X.fn x=VO:=by exact λ_=>rfl):Nb X F (rX F.scope X.env) cs:=by
 have b:∀p∈rX F.scope X.env,X.env.cells.lookup p.1=Wp p.2/\X.env.kindOf p.1=Wp .cell:=λp a=>by
  obtain⟨m,e⟩:=F4 a;have q:=j p.1 m;unfold C2 at q;rw[Vv]at q;obtain⟨f,d⟩:=q;constructor
  .cases z:X.env.cells.lookup p.1 with
   |none=>rw[z]at f;cases f
   |some c=>rw[e,z];rfl
  .split at d
   .assumption
   .cases d
 refine⟨q9,l,λp a=>(b p a).1,?_,λp a=>⟨?_,.inr (.inl ?_)⟩,λp _=>i p.1⟩
 .rw[ix,←q9 (env:=X.env),Wk];rfl
 .rw[(b p a).2];decide
 .exact(b p a).2
def RH(st:Xi):kq:=(O0<|.stmts<|defBody st).getD ⟨⟨[],[],.none,[],[],.none,[]⟩,.Constant .none 0 ⟨0,0,0,0⟩,⟨.function,[],Vd,Vd,[]⟩,⟨0,0,0,0⟩⟩
def Kb(K:Va)(a:Vi)(q:Vq)(F:kq):Prop:=∃f e b d c P,K.lookup a=Wp ⟨f,e,.func b,d⟩/\b.code=.ref c/\ZS K c P=VO/\(P,#[rawInt F.pos.line,rawInt F.pos.col,.str q 0])∈iC K/\(xZ K).lookup q=Wp F
def FE{K:Va}{st:Xi}(U:B1 K x qual st a p)(h:Kb K a q F):wM K p q F:=by
 obtain⟨v,u,o,s,c,P,b,n,m,l,j⟩:=h;obtain⟨g,f,kV,doc,t,w,r,ct,d,e,lk,i⟩:=U.ex;rw[lk]at b;cases b;exact⟨⟨c,P,n,m,l⟩,j⟩
section
variable {X:Cx}{E:XK}{es:List V4}{fa:Ev->aw (ac)}{q:Vq}{F:kq}{fd:WD}
def MU(L:wM X.K fd q F)(c:fd.code=X.env.code)(f:DA X E es fa)(b:closureFor F.scope X.env=pure (rX F.scope X.env):=by exact rfl)(e:X.env.qual++"<lambda>"=q:=by exact rfl)(a:defaultsOf F.params X.env=([],[]):=by exact rfl)
  (d:Vg (.Lambda F.params F.body F.scope F.pos::es) X.env=(Vd,eval (.Lambda F.params F.body F.scope F.pos) X.env)::Vg es X.env:=by exact aM rfl):AL X E (.Lambda F.params F.body F.scope F.pos::es) fa 0 q F (rX F.scope X.env):=MT L c f b e a d
def Qc(h:∀ρ ds,fa ρ=.ok ds->ds.length+1=n):∀ρ ds,ae f fa ρ=.ok ds->ds.length+1=n+1:=λρ ds e=>by
 unfold ae at e;cases b:f ρ with
 |stuck|exn x=>rw[b]at e;cases e
 |ok x=>
  rw[b]at e;replace e:((fa ρ).bind λxs=>aw.ok (x::xs))=.ok ds:=e;cases a:fa ρ with
  |stuck|exn x=>rw[a]at e;cases e
  |ok xs=>
   rw[a]at e;cases e;rw[Vp,h ρ xs a]
def U0:∀ρ ds,av ρ=.ok ds->ds.length+1=1:=λ_ _ h=>by rw[BS h]
end
end DL
namespace DL
def Hg:ac->Nat
 |.int x::r=>x.natAbs+Hg r
 |_=>0
def Jn:Ev->Nat:=λa=>match a with
 |.sh (.ob (.fn _) [_,_,.tup [.lst b,_]])::_=>Hg b+1
 |_=>0
end DL
namespace K37
open PySem L2 DL
def jd:List (Vq×Bool):=[("NoFlow",VO),("NoRooms",VO),("NoSide",VO),("NoTaking",VO),("NoWeb",VO),("Unbalanced",VO)]
def tab_1:Vq->Option Bool:=iW [("NoFlow",VO),("NoRooms",VO),("NoSide",VO),("NoTaking",VO),("NoWeb",VO),("Unbalanced",VO)]
def tab_2:Vq->Option Bool:=iW [("NoFlow",Vd),("NoRooms",Vd),("NoSide",Vd),("NoTaking",Vd),("NoWeb",Vd),("Unbalanced",VO)]
def tab_3:Vq->Option Bool:=iW [("NoFlow",Vd),("NoRooms",Vd),("NoSide",Vd),("NoTaking",VO),("NoWeb",Vd),("Unbalanced",Vd)]
def tab_4:Vq->Option Bool:=iW [("NoFlow",Vd),("NoRooms",VO),("NoSide",Vd),("NoTaking",Vd),("NoWeb",Vd),("Unbalanced",Vd)]
def tab_5:Vq->Option Bool:=iW [("NoFlow",Vd),("NoRooms",Vd),("NoSide",Vd),("NoTaking",Vd),("NoWeb",VO),("Unbalanced",Vd)]
def tab_6:Vq->Option Bool:=iW [("NoFlow",Vd),("NoRooms",Vd),("NoSide",VO),("NoTaking",Vd),("NoWeb",Vd),("Unbalanced",Vd)]
def tab_7:Vq->Option Bool:=iW [("NoFlow",VO),("NoRooms",Vd),("NoSide",Vd),("NoTaking",Vd),("NoWeb",Vd),("Unbalanced",Vd)]
def mK:Vq->Option Bool:=iW [("NoWeb",VO)]
def tq:Vq->Option Bool:=iW [("NoWeb",VO)]
abbrev aW:ac->aw D:=Cod.aW
abbrev dN:ac->aw D:=Cod.dN
abbrev bf:ac->aw D:=Cod.bf
abbrev gF:ac->aw D:=Cod.gF
abbrev aX:ac->aw D:=Cod.aX
abbrev ck:ac->aw D:=Cod.ck
abbrev di:ac->aw D:=Cod.di
noncomputable def iK:ci :=
 (ar (aJ 1<|ak (ae 420#0<|ae 60#0<|ae 2#0<|ae 5#0<|ae (ag 10#0 18#0 qW)<|ae 30#0<|ae 6#0<|ae 5#0<|ae (ag 10#0 18#0 qW)<|ae 30#0<|ae 3#0<|ae 5#0<|ae (ag 10#0 18#0 qW)<|ae 30#0 av) aZ)
 (ar (bJ<|cJ 1 [1] (lA<|ag (ak (ae 0#6 av) bf) 0#0 aE) (bK 0) mYes<|ak (ae (dZ (ak (ae 0#6<|ae 1#6 av) aW) (bS<|dC<|.int 11) cR) av) aX)
 au))
def dM:ac->aw D:=bH 2 iK
noncomputable def jF:ci :=
 (ar (aJ 2<|cJ 2 [] (oo<|ag 0#6 1#0 aE) (dE [0,1]) (ag (ag 1#6 4#0 aE) 0#4 qX)<|af 0)
 (ar (aJ 3<|cJ 2 [] (oo<|ag 0#6 1#0 aE) (dE [0,1]) (ag (ag 1#6 4#0 aE) 0#4 jC)<|af 0)
 (ar (aJ 4<|ak (ae 0#4<|ae (ak av bI)<|ae (ak (ae (dC<|.bl VO) av) aZ)<|ae (ak (ae (ak (ae (ag 0#6 1#0 aE) av)<|m1 eg) av) aZ)<|ae (ak (ae (aL 1#0 k9) av) aZ)<|ae (ak (ae 0#"0" av) aZ)<|ae (ak (ae 0#4 av) aZ) av) aZ)
 (ar (aJ 4<|ag 4#6 (ak (ae (ag (ag (dZ 2#6 cR<|bS<|dC<|.int 1) 3#6 aV) (ak (ae 99#0 av) aZ) aV)<|ae (ag (aL 3#6 PQ) (ak (ae 0#0<|ae 0#0 av) aZ) aV)<|ae (ag (jK (Mw 3#6 (bS<|aL 1#0 k9) cR)<|dC<|.int 2) (ak (ae (aL 1#0 k9) av) aZ) aV) av) aZ) aV)
 (ar (aJ 4<|ag 4#6 (ak (ae (ag (dZ 2#6 (bS<|aL 1#0 k9) cR) (ak (ae 14#0 av) aZ) aV)<|ae (dC<|.dic [] []) av) aZ) aV)
 (ar (bJ<|ag 4#6 1#6 aE)
 au))))))
def da:ac->aw D:=bH 5 jF
noncomputable def kn:ci :=
 (ar (aJ 2<|ag (ag 1#6 2#0 aE) (ag (ak (ae 0#6 av)<|m1 eg) 1#0 aV) dO)
 (ar (mX 3<|ak (ae 0#4<|ae (ak (ae 0#6 av)<|m1 l5)<|ae (ag 0#6 (ak (ae (ak (ae 0#0<|ae 1#0 av) bI) av) aZ) aV)<|ae (ag (ag (dZ 0#6 cR<|bS<|af 2) (ak (ae (ak (ae 1#0<|ae 2#0 av) bI) av) aZ) aV) (dZ 0#6 (bS<|af 2) cR) aV)<|ae (dC<|.dic [] []) av) aZ)
 (ar (aJ 4<|ag (ak (ae (ak (ae (aL 1#0 k9)<|ae 2#0 av) bI)<|ae (ak (ae 1#0<|ae 0#0 av) bI)<|ae 1#0<|ae 0#4<|ae (dC<|.bl VO)<|ae (ak (ae 2#0<|ae 2#0 av) bI)<|ae (ak (ae (dC<|.bl VO)<|ae 1#0 av) bI)<|ae (ak (ae 1#0<|ae (dC<|.bl VO) av) bI)<|ae (ak (ae 1#0<|ae 1#0<|ae 1#0 av) bI)<|ae (ak (ae 1#0<|ae 1#0 av) aZ) av) aZ) (ag 1#6 1#0 aE) aE)
 (ar (bP 3<|ag (ag (dZ 0#6 cR<|bS<|af 2) (ak (ae 4#6 av) aZ) aV) (dZ 0#6 (bS<|ag 2#6 1#0 aV) cR) aV)
 (ar (bJ<|ag 3#6 (ag 1#6 0#0 aE) aE)
 au)))))
def dA:ac->aw D:=bH 5 kn
noncomputable def mh:ci :=
 (ar (Om [2,3,4,5]<|af 0)
 (ar (mX 6<|ak (ae 0#4<|ae (ak av bI)<|ae (ak (ae 0#6 av)<|m1 nj)<|ae (ak (ae 2#6<|ae 3#6<|ae 4#6 av) bI)<|ae (ak (ae (ak (ae 2#6 av)<|m1 l5)<|ae 3#6<|ae 4#6<|ae 5#6 av) bI) av) aZ)
 (ar (bP 6<|ak (ae (dZ 2#6 cR<|bS<|dC<|.int 1)<|ae 3#6<|ae 4#6<|ae 5#6 av) bI)
 (ar (Co 6<|mX 6<|ag 6#6 (ak (ae (ak (ae (ag 2#6 (dZ 2#6 cR<|bS<|dC<|.int 1) aV)<|ae 3#6<|ae 4#6<|ae 5#6 av) bI)<|ae (ak (ae 2#6<|ae (ak (ae 3#6 av)<|m1 l5)<|ae 4#6<|ae 5#6 av) bI) av) aZ) nS)
 (ar (bP 6<|ak (ae 2#6<|ae (ag 3#6 (ak (ae (ak (ae 4#6<|ae 4#6<|ae 0#"one"<|ae (ak (ae 1#0<|ae 1#0 av) bI)<|ae 0#4 av) bI) av) aZ) aV)<|ae 4#6<|ae 5#6 av) bI)
 (ar (bP 6<|ak (ae 2#6<|ae 3#6<|ae 4#6<|ae 4#6 av) bI)
 (ar (bP 6<|ak (ae 2#6<|ae (ag 3#6 (ak (ae (ak (ae 4#6<|ae 5#6<|ae 0#"two"<|ae (ak (ae 1#0<|ae 1#0 av) bI)<|ae 0#4 av) bI) av) aZ) aV)<|ae 4#6<|ae 5#6 av) bI)
 (ar (bP 6<|ak (ae 2#6<|ae 3#6<|ae 0#"Ab"<|ae 5#6 av) bI)
 (ar (bP 6<|ak (ae 2#6<|ae (ag 3#6 (ak (ae (ak (ae 4#6<|ae 5#6<|ae 0#"both"<|ae (ak (ae (aL 1#0 k9)<|ae 1#0 av) bI)<|ae (ak (ae 1#0<|ae 1#0 av) bI) av) bI) av) aZ) aV)<|ae 4#6<|ae 5#6 av) bI)
 (ar (bP 6<|ak (ae 2#6<|ae 3#6<|ae 4#6<|ae 0#4 av) bI)
 (ar (bP 6<|ak (ae 2#6<|ae (ag 3#6 (ak (ae (ak (ae 4#6<|ae 5#6<|ae 0#"both"<|ae (ak (ae 1#0<|ae 1#0 av) bI)<|ae (ak (ae 0#0<|ae 1#0 av) bI) av) bI) av) aZ) aV)<|ae 4#6<|ae 5#6 av) bI)
 (ar (bP 6<|ak (ae 2#6<|ae 0#4<|ae 4#6<|ae 5#6 av) bI)
 (ar (bJ<|ag 6#6 1#6 aE)
 au)))))))))))))
def eA:ac->aw D:=bH 7 mh
noncomputable def iw:ci :=
 (ar (dG (ag 1#6 0#0 gZ)
 (ar (aJ 3<|jK (ak (ae (ak (ae 0#0<|ae 1#0 av) bI) av) aZ)<|ak (ae (ag 0#6 1#0 aE) av)<|m1 eg)
 (ar (bJ<|ag (ak (ae 0#4<|ae (ak (ae 3#6 av)<|m1 l5)<|ae (ag 3#6 (ak (ae (ak (ae 0#0<|ae 1#0 av) bI) av) aZ) aV)<|ae (ag (dZ 3#6 (bS<|dC<|.int 1) cR) (ak (ae (ak (ae 1#0<|ae 1#0 av) bI)<|ae (ak (ae 0#0<|ae 1#0 av) bI) av) aZ) aV)<|ae 7#0<|ae (dC<|.dic [] []) av) aZ) 2#6 aE)
 au))
 au)
 (ar (bJ<|ag (ak (ae 0#4<|ae (ak av bI)<|ae (ak av aZ)<|ae (ak (ae (ag 0#6 3#0 aE) av) aZ)<|ae (ag (ag 0#6 0#0 aE) (ak (ae (ag 0#6 2#0 aE) av) aZ) aV)<|ae (ak (ae (ag 0#6 2#0 aE)<|ae (ag 0#6 2#0 aE) av) aZ) av) aZ) 2#6 aE)
 au))
def cm:ac->aw D:=bH 4 iw
abbrev m_is_name:ac->aw D:=Com.m_is_name
abbrev m_look_at_places:ac->aw D:=Nwb.m_look_at_places
abbrev m_is_whole:ac->aw D:=Com.m_is_whole
abbrev m_common_divisor:ac->aw D:=Com.m_common_divisor
abbrev m_is_ratio:ac->aw D:=Com.m_is_ratio
abbrev m_is_length:ac->aw D:=Com.m_is_length
abbrev m_is_worth:ac->aw D:=Com.m_is_worth
abbrev m_is_tie:ac->aw D:=Com.m_is_tie
abbrev m_look_at_ties:ac->aw D:=Nwb.m_look_at_ties
abbrev m_is_place:ac->aw D:=Com.m_is_place
abbrev m_look_at_web:ac->aw D:=Nwb.m_look_at_web
abbrev m_has_lengths:ac->aw D:=K51.m_has_lengths
noncomputable def b_look_at_rooms:ci :=
 (ar (fL<|ak (ae 0#6 av) m_look_at_web)
 (ar (dG (cD<|ak (ae 0#6<|ae 1#6 av) m_has_lengths)
 (ar (ic "NoRooms"<|ae 0#"rooms are a list of fractions from 0 on, one for each tie" av)
 au)
 au)
 au))
def m_look_at_rooms:ac->aw D:=bH 2 b_look_at_rooms
abbrev m_is_tie_number:ac->aw D:=Com.m_is_tie_number
abbrev m_look_at_taking:ac->aw D:=K16.m_look_at_taking
abbrev m_is_less:ac->aw D:=Com.m_is_less
noncomputable def b_is_amount:ci :=
 (ar (dG (iU (cD<|ak (ae 2#6 av) m_is_ratio)<|gm (ag (ag 2#6 0#0 aE) 0#0 B4)<|ag (ag 0#6 2#0 aE) 0#"one" gZ)
 (ar (bJ<|dC<|.bl Vd)
 au)
 au)
 (ar (bJ<|cD<|ak (ae 1#6<|ae (ak (ae (ak (ae (ag 2#6 0#0 aE) av)<|m1 xu)<|ae (ag 2#6 1#0 aE) av) bI) av) m_is_less)
 au))
def m_is_amount:ac->aw D:=bH 3 b_is_amount
noncomputable def b_look_at_amounts:ci :=
 (ar (dG (iU (cD<|aL 3#6<|eY "list")<|ag (ak (ae 3#6 av)<|m1 eg) (ak (ae (ag 0#6 1#0 aE) av)<|m1 eg) iE)
 (ar (kC "NoFlow" 1<|ae 0#4 av)
 au)
 au)
 (ar (jW (oo<|af 3) (dE [4,5])
 (ar (aJ 6<|Km (ag 4#6 2#6 nY) (dC<|.tup [(.int 0),(.int 1)])<|ag 1#6 4#6 aE)
 (ar (dG (cD<|ak (ae (ag (ag 0#6 1#0 aE) 4#6 aE)<|ae 6#6<|ae 5#6 av) m_is_amount)
 (ar (kC "NoFlow" 1<|ae 4#6 av)
 au)
 au)
 au)))
 au))
def m_look_at_amounts:ac->aw D:=bH 7 b_look_at_amounts
abbrev m_shared_bottom:ac->aw D:=Com.m_shared_bottom
abbrev m_as_whole:ac->aw D:=Com.m_as_whole
abbrev m_on_one_scale:ac->aw D:=Com.m_on_one_scale
noncomputable def b_goes_from:ci :=
 (ar (aJ 3<|dC<|.int 0)
 (ar (jW (KZ (ag 0#6 1#0 aE)<|af 1) (dE [4,5])
 (ar (dG (ag (ag 4#6 0#0 aE) 2#6 gZ)
 (ar (aJ 3<|ag 3#6 5#6 aV)
 au)
 au)
 (ar (dG (ag (ag 4#6 1#0 aE) 2#6 gZ)
 (ar (aJ 3<|ag 3#6 5#6 ke)
 au)
 au)
 au)))
 (ar (bJ<|af 3)
 au)))
def m_goes_from:ac->aw D:=bH 6 b_goes_from
def b_is_balanced:ci :=
 (ar (aJ 3<|ak (ae 0#6<|ae 1#6<|ae 2#6 av) m_goes_from)
 (ar (bJ<|Km (ag 2#6 (ag 0#6 2#0 aE) gZ) (ag 3#6 0#0 Qs)<|ag 3#6 0#0 gZ)
 au))
def m_is_balanced:ac->aw D:=bH 4 b_is_balanced
noncomputable def b_look_at_balance:ci :=
 (ar (aJ 2<|ag (ak (ae 1#6 av) m_on_one_scale) 0#0 aE)
 (ar (lD (ag 0#6 0#0 aE) (bK 3)
 (ar (dG (gm (ag 3#6 (ag 0#6 3#0 aE) iE)<|cD<|ak (ae 0#6<|ae 2#6<|ae 3#6 av) m_is_balanced)
 (ar (kC "Unbalanced" 1<|ae 3#6 av)
 au)
 au)
 au))
 au))
def m_look_at_balance:ac->aw D:=bH 4 b_look_at_balance
noncomputable def b_look_at_flow:ci :=
 (ar (fL<|ak (ae 0#6<|ae 1#6 av) m_look_at_rooms)
 (ar (fL<|ak (ae 0#6<|ae 2#6 av) m_look_at_taking)
 (ar (fL<|ak (ae 0#6<|ae 1#6<|ae 2#6<|ae 3#6 av) m_look_at_amounts)
 (ar (fL<|ak (ae 0#6<|ae 3#6 av) m_look_at_balance)
 au))))
def m_look_at_flow:ac->aw D:=bH 4 b_look_at_flow
noncomputable def b_look_at_side:ci :=
 (ar (dG (iU (cD<|aL 1#6<|eY "list")<|cD<|ak (ae (cJ 1 [0] (lA<|af 1) (bK 0) mYes<|ak (ae 0#6<|ae (ag 1#6 0#0 aE) av) m_is_place) av)<|m1 p8)
 (ar (ic "NoSide"<|ae 0#"a side is a list of places" av)
 au)
 au)
 (ar (dG (ag 1#6 (cJ 1 [1] (lA<|ag 0#6 0#0 aE) (bK 0) (ag 0#6 1#6 nY)<|af 0) iE)
 (ar (ic "NoSide"<|ae 0#"a side's places stand in the web's order, each once" av)
 au)
 au)
 (ar (dG (iU (ag (ag 0#6 2#0 aE) 1#6 bG)<|ag (ag 0#6 3#0 aE) 1#6 nY)
 (ar (ic "NoSide"<|ae 0#"first is in a side, and last is not" av)
 au)
 au)
 au)))
def m_look_at_side:ac->aw D:=bH 2 b_look_at_side
abbrev m_ratio:ac->aw D:=Com.m_ratio
abbrev m_plus:ac->aw D:=Com.m_plus
abbrev m_sum_of:ac->aw D:=Com.m_sum_of
abbrev m_steps_along:ac->aw D:=K11.m_steps_along
abbrev m_steps_left:ac->aw D:=K51.m_steps_left
def b_numbers_out:ci :=
 (ar (bJ<|cJ 3 [2] (lA<|ak (ae 0#6<|ae 1#6 av) m_steps_left) (dE [0,1,2]) (gm (ag 1#6 3#6 nY)<|ag 2#6 3#6 bG)<|af 0)
 au)
def m_numbers_out:ac->aw D:=bH 3 b_numbers_out
noncomputable def b_room_of:ci :=
 (ar (fL<|ak (ae 0#6<|ae 1#6 av) m_look_at_rooms)
 (ar (fL<|ak (ae 0#6<|ae 2#6 av) m_look_at_taking)
 (ar (fL<|ak (ae 0#6<|ae 3#6 av) m_look_at_side)
 (ar (bJ<|ak (ae (cJ 1 [1] (lA<|ak (ae 0#6<|ae 2#6<|ae 3#6 av) m_numbers_out) (bK 0) mYes<|ag 1#6 0#6 aE) av) m_sum_of)
 au))))
def m_room_of:ac->aw D:=bH 4 b_room_of
noncomputable def b_fewest_turns:ci :=
 (ar (DY 2<|EI 1#6<|ak av aZ)
 (ar (mX 3<|ak (ae 1#6 av) aZ)
 (ar (ib (λ_=>1000) (ag 3#6 (ak av aZ) iE)
 (ar (mE 4 3<|dC<|.int 0)
 (ar (lD 0#6 (bK 5)
 (ar (dG (gm (ag (aL 5#6<|gr "here") 4#6 gZ)<|ag (aL 5#6<|gr "there") 2#6 kQ)
 (ar (yS 2 (ag (ag 2#6 4#6 l6) (ak (ae 5#6 av) aZ) nS)<|aL 5#6<|gr "there")
 (ar (bP 3<|aL 5#6<|gr "there")
 au))
 au)
 au))
 au)))
 (ar (bJ<|af 2)
 au))))
def m_fewest_turns:ac->aw D:=bH 6 b_fewest_turns
noncomputable def b_sent_along:ci :=
 (ar (mX 3<|ak (ae 0#6 av)<|m1 nj)
 (ar (lD 1#6 (bK 4)
 (ar (DX 3 (ag (ag 3#6 (aL 4#6<|gr "number") aE) (ag (aL 4#6<|gr "sign") 2#6 dm) aV)<|aL 4#6<|gr "number")
 au))
 (ar (bJ<|af 3)
 au)))
def m_sent_along:ac->aw D:=bH 5 b_sent_along
def b_least_room:ci :=
 (ar (bJ<|ak (ae (cJ 1 [] (lA<|af 0) (bK 0) (ag (aL 0#6<|gr "room") 0#4 jC)<|aL 0#6<|gr "room") av)<|m1 EH)
 au)
def m_least_room:ac->aw D:=bH 1 b_least_room
noncomputable def b_turns_left:ci :=
 (ar (mX 4<|ak av aZ)
 (ar (jW (oo<|ag 0#6 1#0 aE) (dE [5,6])
 (ar (dG (ag 5#6 2#6 bG)
 (ar (aJ 7<|Km (ag (ag 6#6 2#0 aE) 0#"one" gZ) (ag 3#6 5#6 aE)<|ag (ag 1#6 5#6 aE) (ag 3#6 5#6 aE) aV)
 (ar (bP 4<|ak (ae 5#6<|ae 1#0<|ae (ag 6#6 0#0 aE)<|ae (ag 6#6 1#0 aE)<|ae 0#0<|ae (ag (ag 1#6 5#6 aE) (ag 3#6 5#6 aE) ke) av)<|CU "Turn" ["number","sign","here","there","cost","room"])
 (ar (bP 4<|ak (ae 5#6<|ae (aL 1#0 k9)<|ae (ag 6#6 1#0 aE)<|ae (ag 6#6 0#0 aE)<|ae 0#0<|ae 7#6 av)<|CU "Turn" ["number","sign","here","there","cost","room"])
 au)))
 au)
 au))
 (ar (bJ<|cJ 1 [] (lA<|af 4) (bK 0) (ag (aL 0#6<|gr "room") 0#0 My)<|af 0)
 au)))
def m_turns_left:ac->aw D:=bH 8 b_turns_left
def bl_most_flow:bv :=
 (ak (ae 1#6<|ae (ag 3#6 0#0 aE)<|ae 2#6<|ae 0#6 av) m_turns_left)
def oH:ac->ac->aw D:=Jb 1 3 bl_most_flow
def lt_filled:LT:=(zm (xr "most_flow") oH Nz)
noncomputable def b_filled:ci :=
 (ar (aJ 4<|ak (ae (qY lt_filled 0<|ae 1#6 av)<|ae 2#6 av) m_fewest_turns)
 (ar (ib Jn (ag 3#6 4#6 zP)
 (ar (aJ 1<|ak (ae 1#6<|ae (ag 4#6 3#6 l6)<|ae (ak (ae (ag 4#6 3#6 l6) av) m_least_room) av) m_sent_along)
 (ar (aJ 4<|ak (ae (qY lt_filled 0<|ae 1#6 av)<|ae 2#6 av) m_fewest_turns)
 au)))
 (ar (bJ<|ak (ae 1#6<|ae 4#6 av) bI)
 au)))
def m_filled:ac->aw D:=bH 5 b_filled
noncomputable def b_most_flow:ci :=
 (ar (fL<|ak (ae 0#6<|ae 1#6 av) m_look_at_rooms)
 (ar (fL<|ak (ae 0#6<|ae 2#6 av) m_look_at_taking)
 (ar (aJ 3<|ak (ae 1#6 av) m_on_one_scale)
 (ar (aJ 4<|cJ 1 [] (lA<|af 1) (bK 0) mYes<|dC<|.int 0)
 (ar (aJ 5<|wc (ae 4#6<|ae (ag 0#6 2#0 aE)<|ae (ag 0#6 3#0 aE) av) 0 (xr "most_flow") [0,2,3] m_filled)
 (ar (aJ 6<|cJ 1 [5] (lA<|ag 0#6 0#0 aE) (bK 0) (ag 0#6 (ag 1#6 1#0 aE) zP)<|af 0)
 (ar (bJ<|ak (ae (cJ 1 [3] (lA<|ag 5#6 0#0 aE) (bK 0) mYes<|ak (ae 0#6<|ae (ag 1#6 1#0 aE) av) m_ratio)<|ae 6#6 av) bI)
 au)))))))
def m_most_flow:ac->aw D:=bH 7 b_most_flow
noncomputable def b_amount_of:ci :=
 (ar (fL<|ak (ae 0#6 av) m_look_at_web)
 (ar (aJ 2<|ak (ae 1#6 av) m_on_one_scale)
 (ar (bJ<|ak (ae (ak (ae 0#6<|ae (ag 2#6 0#0 aE)<|ae (ag 0#6 2#0 aE) av) m_goes_from)<|ae (ag 2#6 1#0 aE) av) m_ratio)
 au)))
def m_amount_of:ac->aw D:=bH 3 b_amount_of
noncomputable def qo:ci :=
 (ar (aJ 2<|dC<|.non)
 (ar (Cn (lC (ag 0#6 0#0 gZ)
 (fz (ae (ag 1#6 0#0 aE)<|ae (ag 1#6 1#0 aE)<|ae (ag 1#6 2#0 aE)<|ae (ag 1#6 3#0 aE) av) m_look_at_flow)
 (lC (ag 0#6 1#0 gZ)
 (fz (ae (ag 1#6 0#0 aE)<|ae (ag 1#6 1#0 aE)<|ae (ag 1#6 2#0 aE)<|ae (ag 1#6 3#0 aE) av) m_room_of)
 (lC (ag 0#6 2#0 gZ)
 (fz (ae (ag 1#6 0#0 aE)<|ae (ag 1#6 1#0 aE)<|ae (ag 1#6 2#0 aE) av) m_most_flow)
 (fz (ae (ag 1#6 0#0 aE)<|ae (ag 1#6 3#0 aE) av) m_amount_of)))) (rP jd) 3
 (ar (aJ 2<|af 3)
 au))
 (ar (bJ<|af 2)
 au)))
def cC:ac->aw D:=bH 4 qo
noncomputable def sv:ci :=
 (ar (dG (iU (cD<|aL 0#6<|iq tab_1)<|aL 0#6<|iq tab_2)
 (ar (bJ<|dC<|.non)
 au)
 au)
 (ar (aJ 1<|ak (ae (aL 0#6<|iq tab_5)<|ae (aL 0#6<|iq tab_4)<|ae (aL 0#6<|iq tab_3) av) aZ)
 (ar (aJ 1<|ag 1#6 (ak (ae (aL 0#6<|iq tab_7)<|ae (aL 0#6<|iq tab_6) av) aZ) aV)
 (ar (dG (ag (tI 1#6<|dC<|.bl VO) 1#0 iE)
 (ar (bJ<|dC<|.non)
 au)
 au)
 (ar (bJ<|jD 1#6<|dC<|.bl VO)
 au)))))
def cS:ac->aw D:=bH 2 sv
noncomputable def qj:ci :=
 (ar (aJ 2<|ag (ak (ae 0#4<|ae (ak (ae (ag 0#6 0#0 aE) av)<|m1 eg) av) aZ) (ak (ae (ag (ak (ae (ag 0#6 0#0 aE) av)<|m1 eg) 7#0 B4) av)<|m1 gL) aE)
 (ar (aJ 3<|ag (ak (ae 0#4<|ae (ak (ae (ag 0#6 1#0 aE) av)<|m1 eg) av) aZ) (ak (ae (ag (ak (ae (ag 0#6 1#0 aE) av)<|m1 eg) 14#0 B4) av)<|m1 gL) aE)
 (ar (aJ 4<|ag (ag (jK (ak (ae (ak (ae 0#"web"<|ae 0#4 av) bI) av) aZ)<|dC<|.int 4) (jK (ak (ae (ak (ae 0#"places"<|ae 0#4 av) bI) av) aZ)<|dC<|.int 2) aV) (ak (ae (ak (ae 0#"places"<|ae 2#6 av) bI)<|ae (ak (ae 0#"ties"<|ae 0#4 av) bI) av) aZ) aV)
 (ar (aJ 4<|ag 4#6 (ak (ae (ak (ae 0#"ties"<|ae 3#6 av) bI)<|ae (ak (ae 0#"last"<|ae 0#4 av) bI)<|ae (ak (ae 0#"ties"<|ae 3#6 av) bI)<|ae (ak (ae 0#"first"<|ae 0#4 av) bI) av) aZ) aV)
 (ar (aJ 4<|ag 4#6 (ak (ae (ak (ae 0#"ties"<|ae 3#6 av) bI)<|ae (ak (ae 0#"last"<|ae 0#4 av) bI)<|ae (ak (ae 0#"ties"<|ae 3#6 av) bI)<|ae (ak (ae 0#"ties"<|ae 0#4 av) bI) av) aZ) aV)
 (ar (bJ<|ag 4#6 1#6 aE)
 au))))))
def dJ:ac->aw D:=bH 5 qj
noncomputable def NJ:ci :=
 (ar (aJ 1<|ak (ae 0#6 av) di)
 (ar (aJ 2<|ak (ae 0#6 av) dM)
 (ar (lD (ag (ag (ak (ae 0#6 av) bf) 1#0 aE) (ak (ae 7#0 av) aZ) aV) (bK 3)
 (ar (aJ 4<|ak (ae 3#6<|ae (ak (ae 4#0<|ae 3#0<|ae 3#0<|ae 3#0<|ae 3#0<|ae 16#0<|ae 12#0<|ae 6#0<|ae 6#0<|ae 10#0<|ae 5040#0 av) aZ) av) aW)
 (ar (aJ 5<|ag 4#6 0#0 aE)
 (ar (mX 6<|ak (ae 1#6<|ae 2#6<|ae (ak av aZ)<|ae (ag (ak (ae (ak (ae (ag 1#6 2#0 aE) av) aZ)<|ae (jK (ak (ae (ak (ae 0#0<|ae 1#0 av) bI) av) aZ)<|ak (ae (ag 1#6 1#0 aE) av)<|m1 eg) av) aZ) (ak (ae (iU (ag 5#6 0#0 gZ)<|ag 5#6 3#0 gZ) av)<|m1 gL) aE) av) aZ)
 (ar (aJ 7<|cJ 1 [4,5] (rB<|dC<|.int 4) (bK 0) mYes<|gm (ag (ag 1#6 (ag 1#0 0#6 aV) aE) 0#0 gZ)<|gm (iU (ag 2#6 3#0 iE)<|ag 0#6 0#0 gZ)<|iU (ag 2#6 2#0 iE)<|ag 0#6 3#0 B4)
 (ar (mX 8<|ak (ae (ak (ae 1#6<|ae (ag 4#6 5#0 aE) av) eA)<|ae (ak (ae 2#6<|ae (dZ 4#6 (bS<|dC<|.int 8) cR) av) dA)<|ae (ak (ae 1#6<|ae (ag 4#6 6#0 aE) av) da) av) aZ)
 (ar (bP 8<|ak (ae 1#6<|ae 5#6<|ae (ag 4#6 7#0 aE) av) cm)
 (ar (xN 4#0 (bK 9)
 (ar (dG (ag 7#6 9#6 aE)
 (ar (Co 8<|K4 6 (ag 8#6 9#6 aE)<|af 9)
 au)
 au)
 au))
 (ar (Co 6<|aJ 10<|ak (ae 5#6<|ae 6#6 av) cC)
 (ar (dG (ag (dC<|.bl VO) 7#6 bG)
 (ar (dG (ag 10#6 0#4 jC)
 (ar (bJ<|dC<|.bl Vd)
 au)
 au)
 au)
 (ar (dG (ag (ak (ae 10#6 av) cS) (ag (jD 7#6<|dC<|.bl VO) (ak (ae (gm (ag (jD 7#6<|dC<|.bl VO) 3#0 gZ)<|ag 5#6 1#0 gZ) av)<|m1 gL) aV) iE)
 (ar (bJ<|dC<|.bl Vd)
 au)
 (ar (dG (gm (ag 7#6 0#0 aE)<|ag (ak (ae (aL 10#6<|kh tq "part")<|ae (aL 10#6<|kh mK "number") av) bI) (ak (ae 1#6<|ae (ag 4#6 5#0 aE) av) dJ) iE)
 (ar (bJ<|dC<|.bl Vd)
 au)
 au)
 au))
 au))
 au))))))))))
 (ar (bJ<|dC<|.bl VO)
 au))))
def m_law:ac->aw D:=bH 11 NJ
def top(i:Nat):Xi:=PySem.Challenge.pw_farthestcut_k37_what_goes_first.main.body.getD i<|.Pass ⟨0,0,0,0⟩
noncomputable def rows:List Rw:=[
 ⟨"_law_draws",top 77,["_law_cell","_law_tops","_law_found","_law_left","_law_mixed","_law_k"],2⟩,
 ⟨"_law_names",top 80,["_law_d","_law_many","_law_some","_law_names_here","_law_k","_law_e","_law_name","_law_at"],2⟩,
 ⟨"_law_cells",top 82,["_law_script","_law_d","_law_many"],1⟩,
 ⟨"_law_low",top 78,["_law_top","_law_bottom","_law_one","_law_other"],2⟩,
 ⟨"_law_fraction",top 79,["_law_d","_law_top","_law_bottom"],1⟩,
 ⟨"_law_tie",top 81,["_law_cell","_law_k","_law_walk","_law_d","_law_at","_law_other","_law_worth"],3⟩,
 ⟨"_law_web",top 83,["_law_script","_law_d","_law_places","_law_first","_law_last","_law_amid","_law_walk","_law_ties"],1⟩,
 ⟨"_law_rooms",top 84,["_law_script","_law_tops"],1⟩,
 ⟨"_law_bad_taking",top 88,["_law_web_here","_law_way","_law_watched","_law_free","_law_some"],2⟩,
 ⟨"_law_bad_rooms",top 87,["_law_rooms_here","_law_d","_law_at","_law_some","_law_odd"],2⟩,
 ⟨"_law_bad_web",top 85,["_law_web_here","_law_way","_law_places","_law_ties","_law_first","_law_last","_law_some"],2⟩,
 ⟨"_law_bad_last",top 89,["_law_web_here","_law_asked_here","_law_way","_law_nought"],3⟩,
 ⟨"is_name",top 16,["thing"],1⟩,
 ⟨"look_at_places",top 43,["places","number","place"],1⟩,
 ⟨"is_whole",top 14,["thing"],1⟩,
 ⟨"common_divisor",top 10,["one","other","larger","smaller","rest"],2⟩,
 ⟨"is_ratio",top 15,["thing"],1⟩,
 ⟨"is_length",top 38,["thing"],1⟩,
 ⟨"is_worth",top 39,["thing"],1⟩,
 ⟨"is_tie",top 37,["thing"],1⟩,
 ⟨"look_at_ties",top 44,["ties","places","number","tie"],2⟩,
 ⟨"is_place",top 45,["thing","places"],2⟩,
 ⟨"look_at_web",top 42,["thing"],1⟩,
 ⟨"has_lengths",top 41,["web","thing"],2⟩,
 ⟨"look_at_rooms",top 57,["web","thing"],2⟩,
 ⟨"is_tie_number",top 40,["web","thing"],2⟩,
 ⟨"look_at_taking",top 55,["web","thing","ahead","number"],2⟩,
 ⟨"is_less",top 21,["one","other"],2⟩,
 ⟨"is_amount",top 60,["tie","room","thing"],3⟩,
 ⟨"look_at_amounts",top 59,["web","rooms","taken","thing","number","amount","room"],4⟩,
 ⟨"shared_bottom",top 52,["some","bottom","one"],1⟩,
 ⟨"as_whole",top 53,["one","bottom"],2⟩,
 ⟨"on_one_scale",top 51,["some","bottom"],1⟩,
 ⟨"goes_from",top 63,["web","sizes","place","more","tie","size"],3⟩,
 ⟨"is_balanced",top 62,["web","sizes","place","more"],3⟩,
 ⟨"look_at_balance",top 61,["web","flow","sizes","place"],2⟩,
 ⟨"look_at_flow",top 58,["web","rooms","taking","thing"],4⟩,
 ⟨"look_at_side",top 66,["web","thing"],2⟩,
 ⟨"ratio",top 19,["top","bottom","divisor"],2⟩,
 ⟨"plus",top 20,["one","other"],2⟩,
 ⟨"sum_of",top 22,["some","total","one"],1⟩,
 ⟨"steps_along",top 47,["tie","there"],1⟩,
 ⟨"steps_left",top 48,["web","taken","steps","number","tie","here","there"],2⟩,
 ⟨"numbers_out",top 49,["web","taken","side"],3⟩,
 ⟨"room_of",top 65,["web","rooms","taking","side"],4⟩,
 ⟨"fewest_turns",top 70,["turns","first","found","waiting","here","turn"],2⟩,
 ⟨"sent_along",top 72,["amounts","turns","more","sent","turn"],3⟩,
 ⟨"least_room",top 71,["turns"],1⟩,
 ⟨"turns_left",top 75,["web","rooms","taken","amounts","turns","number","tie","back"],4⟩,
 ⟨"filled",top 69,["turns_with","amounts","first","last","found"],4⟩,
 ⟨"most_flow",top 74,["web","rooms","taking","scaled","nothing","found","side"],3⟩,
 ⟨"amount_of",top 64,["web","flow","scaled"],2⟩,
 ⟨"_law_asked",top 90,["_law_asked_here","_law_things","_law_caught","_law_e"],2⟩,
 ⟨"_law_kind",top 91,["_law_caught","_law_kinds"],1⟩,
 ⟨"_law_where",top 86,["_law_web_here","_law_way","_law_many","_law_more","_law_rows"],2⟩,
 ⟨"law",top 92,["_law_script","_law_web_here","_law_rooms_here","_law_cell","_law_d","_law_asked_here","_law_things","_law_bad","_law_others","_law_k","_law_caught"],1⟩]
def sc:SM rows:=by decide +kernel
theorem nd(i:Nat)(h:rows[i]?=Wp r:=by rfl):r.N.Nodup:=(sc r<|VQ h).nd
def bn:∀r∈rows,Qv r:=by
 unfold rows
 repeat refine List.forall_mem_cons.mpr ⟨by first|exact UY|exact UX|exact UW|exact UU|exact a,?_⟩
 exact λ_ h=>nomatch h
abbrev mB:Xi:=tf (top 68) 0
def Hk:dy ["self","number","sign","here","there","cost","room"] ["self","number","sign","here","there","cost","room"] (defScope mB):=⟨rfl,rfl,rfl,by decide +kernel,rfl,by decide +kernel,by decide +kernel⟩
abbrev qG:Xi:=tf (top 7) 0
def Cm:dy ["self","at"] ["self","at"] (defScope qG):=⟨rfl,rfl,rfl,by decide +kernel,rfl,by decide +kernel,by decide +kernel⟩
abbrev ub:Xi:=tf (top 6) 0
def Ff:dy ["self","part","number"] ["self","part","number"] (defScope ub):=⟨rfl,rfl,rfl,by decide +kernel,rfl,by decide +kernel,by decide +kernel⟩
abbrev jI:Xi:=tf (top 8) 0
def ud:dy ["self","place"] ["self","place"] (defScope jI):=⟨rfl,rfl,rfl,by decide +kernel,rfl,by decide +kernel,by decide +kernel⟩
abbrev iG:kq:=RH<|top 74
def zo:Kc ["amounts","web","taking","scaled"] ["amounts"] iG.scope:=⟨rfl,rfl,rfl,by decide +kernel,rfl,by decide +kernel,by decide +kernel,by decide +kernel,by decide +kernel⟩
set_option genInjectivity false in
set_option genSizeOfSpec false in
structure Adr where
 mI:Vi
 mH:WD
 oN:Vi
 oM:WD
 gR:Vi
 gQ:WD
 bR:Vi
 jz:Vi
 zx:WD
 bA:Vi
 cG:Vi
 cw:Vi
 c4:Vi
 cc:Vi
 cQ:Vi
 bq:Vi
 A:Nat->Vi
 Q:Nat->WD
set_option genInjectivity false in
set_option genSizeOfSpec false in
structure Txt (K:Va) (mg:Vq->Option U5) (t:Adr):Prop where
 g:TG rows K mg t.A t.Q
 lm_most_flow:wM K (t.Q 50) (xr "most_flow") iG
 n_ValueError:mg "ValueError"=Wb
 n_abs:mg "abs"=Wb
 n_all:mg "all"=Wb
 n_bool:mg "bool"=Wb
 n_enumerate:mg "enumerate"=Wb
 n_int:mg "int"=Wb
 n_isinstance:mg "isinstance"=Wb
 n_len:mg "len"=Wb
 n_list:mg "list"=Wb
 n_min:mg "min"=Wb
 n_range:mg "range"=Wb
 n_str:mg "str"=Wb
 n_tuple:mg "tuple"=Wb
 n_zip:mg "zip"=Wb
 Ey:mg "Turn"=Wp (.ref t.bR)
 Na:B1 K "__init__" "Turn.__init__" mB t.jz t.zx
 tK:gw K t.zx ["self","number","sign","here","there","cost","room"] []
 Em:Mk K t.bR t.jz
 sU:Sg K "Turn" ["number","sign","here","there","cost","room"] t.bR
 kL:mg "CutError"=Wp (.ref t.bA)
 C6:kr K "CutError" t.bA
 uY:mg "NoFlow"=Wp (.ref t.cG)
 Jj:kr K "NoFlow" t.cG
 ye:mg "NoRooms"=Wp (.ref t.cw)
 FN:kr K "NoRooms" t.cw
 oP:mg "NoSide"=Wp (.ref t.c4)
 Ji:kr K "NoSide" t.c4
 kK:mg "NoTaking"=Wp (.ref t.cc)
 C5:kr K "NoTaking" t.cc
 jA:mg "NoWeb"=Wp (.ref t.cQ)
 L8:kr K "NoWeb" t.cQ
 oO:mg "Unbalanced"=Wp (.ref t.bq)
 zy:kr K "Unbalanced" t.bq
 Al:qt K "NoFlow" t.cG
 E1:qv K "NoRooms" t.cw
 tR:qv K "NoSide" t.c4
 nr:qv K "NoTaking" t.cc
 iF:qt K "NoWeb" t.cQ
 yM:qt K "Unbalanced" t.bq
 fV:SJ K "NoFlow.__init__" t.cG t.mI t.mH qG ["self","at"] ["at"]
 bx:SJ K "NoWeb.__init__" t.cQ t.oN t.oM ub ["self","part","number"] ["part","number"]
 fU:SJ K "Unbalanced.__init__" t.bq t.gR t.gQ jI ["self","place"] ["place"]
 lj:J6 K t.bA
 rs:Gy K [t.bA,t.cG,t.cw,t.c4,t.cc,t.cQ,t.bq] [("NoFlow",t.cG,[VO,VO,Vd,Vd,Vd,Vd,Vd]),("NoRooms",t.cw,[VO,Vd,VO,Vd,Vd,Vd,Vd]),("NoSide",t.c4,[VO,Vd,Vd,VO,Vd,Vd,Vd]),("NoTaking",t.cc,[VO,Vd,Vd,Vd,VO,Vd,Vd]),("NoWeb",t.cQ,[VO,Vd,Vd,Vd,Vd,VO,Vd]),("Unbalanced",t.bq,[VO,Vd,Vd,Vd,Vd,Vd,VO])]
 ir:yF K mg "FEWEST_PLACES" (.int 2)
 jE:yF K mg "FIRST" (.int 2)
 nV:yF K mg "LAST" (.int 3)
 wy:yF K mg "LENGTH" (.int 3)
 rl:yF K mg "LETTERS" (.str "abcdefghijklmnopqrstuvwxyz")
 jo:yF K mg "LONGEST_NAME" (.int 8)
 jS:yF K mg "MOST_PLACES" (.int 7)
 md:yF K mg "MOST_TIES" (.int 14)
 qf:yF K mg "NOUGHT" (.tup [(.int 0),(.int 1)])
 nk:yF K mg "ONE" (.int 0)
 gT:yF K mg "OTHER" (.int 1)
 fj:yF K mg "PLACES" (.int 0)
 jm:yF K mg "TIES" (.int 1)
 nU:yF K mg "WORD" (.int 2)
 zT:yF K mg "WORDS" (.tup [(.str "one"),(.str "both")])
 tJ:yF K mg "WORTH" (.int 4)
section
variable {P:V5}{w:Wx}{K:Va}{mg:Vq->Option U5}{base:Vu}{t:Adr}
def sL(T:Txt K mg t):∀x C,rP jd x=VO->XC K x C->W.exmOne K (.ref C) (.ref t.bA)=Wp VO:=Pk T.rs T.C6 0 rfl rfl
def Hd(T:Txt K mg t):TabOk K tab_1 (.type "ValueError"):=N9 T.rs rfl
def Hc(T:Txt K mg t):TabOk K tab_2 (.ref t.bq):=qE T.rs T.zy 6 rfl rfl
def G9(T:Txt K mg t):TabOk K tab_3 (.ref t.cc):=qE T.rs T.C5 4 rfl rfl
def G8(T:Txt K mg t):TabOk K tab_4 (.ref t.cw):=qE T.rs T.FN 2 rfl rfl
def G7(T:Txt K mg t):TabOk K tab_5 (.ref t.cQ):=qE T.rs T.L8 5 rfl rfl
def G6(T:Txt K mg t):TabOk K tab_6 (.ref t.c4):=qE T.rs T.Ji 3 rfl rfl
def G5(T:Txt K mg t):TabOk K tab_7 (.ref t.cG):=qE T.rs T.Jj 1 rfl rfl
def zC(T:Txt K mg t):Ki K mK "number" :=
 iP (p:=λ_ C _=>Xq K C=VO/\dD K C "number") λq a=>by
  simp only[Vl,Wu,ey]at a;rcases a with rfl
  .exact⟨t.cQ,T.iF.xc,T.bx.xs.hd,T.bx.xs.no _<|by decide⟩
def C8(T:Txt K mg t):Ki K tq "part" :=
 iP (p:=λ_ C _=>Xq K C=VO/\dD K C "part") λq a=>by
  simp only[Vl,Wu,ey]at a;rcases a with rfl
  .exact⟨t.cQ,T.iF.xc,T.bx.xs.hd,T.bx.xs.no _<|by decide⟩
def yc(T:Txt K mg t):ft P w K mg base CX0 1 t.jz t.zx ["self","number","sign","here","there","cost","room"] (yP K ["number","sign","here","there","cost","room"]) :=
 Md T.Na Hk 0#1 rfl 0#1 λa A outer b H E=>(mR (i:=1) rfl rfl 0#5 0#5 (mR (i:=2) rfl rfl 0#5 0#5 (mR (i:=3) rfl rfl 0#5 0#5 (mR (i:=4) rfl rfl 0#5 0#5 (mR (i:=5) rfl rfl 0#5 0#5 (mR (i:=6) rfl rfl 0#5 0#5 PL))))))
def rO(T:Txt K mg t):ft P w K mg base CX0 1 t.mI t.mH ["self","at"] (Au K ["at"]) :=
 Jq T.fV.Fi Cm rfl 0#1 λa A outer b H E=>(GJ (i:=1) T.lj rfl T.kL (ot (i:=1) rfl 0#5 Cu) rfl rfl 0#5 0#5 B6)
def fE(T:Txt K mg t):ft P w K mg base CX0 1 t.oN t.oM ["self","part","number"] (Au K ["part","number"]) :=
 Jq T.bx.Fi Ff rfl 0#1 λa A outer b H E=>(GJ (i:=1) T.lj rfl T.kL (ot (i:=1) rfl 0#5 (ot (i:=2) rfl 0#5 Cu)) rfl rfl 0#5 0#5 (Kw (i:=2) rfl rfl 0#5 0#5 B6))
def sJ(T:Txt K mg t):ft P w K mg base CX0 1 t.gR t.gQ ["self","place"] (Au K ["place"]) :=
 Jq T.fU.Fi ud rfl 0#1 λa A outer b H E=>(GJ (i:=1) T.lj rfl T.kL (ot (i:=1) rfl 0#5 Cu) rfl rfl 0#5 0#5 B6)
def eZ(T:Txt K mg t):fP P w K mg base CX0 1 (t.A 0) (t.Q 0) ["_law_cell","_law_tops"] (spD K 2 aW) "_law_draws" (top 77) :=
 oD T.g sc (i:=0) rfl λ_ _ _ _ _ _ _ _=>(
 (ah (jj (i:=2) (nd 0) rfl 0#5 (fF aj))
 (ah (aG (i:=3) (nd 0) rfl 0#5 (aU kl rh rfl T.n_abs PyProof.Rows.Boot.«abs» (aa 0#7 aj)))
 (ah (aG (i:=4) (nd 0) rfl 0#5 (dj (fG (dj 0#7 ai) ai) ai))
 (ah (zK Wg rfl rfl T.n_range (aU bC cz rfl T.n_len PyProof.Rows.Boot.«len» (aa 1#7 aj)) (bZ (i:=5) (nd 0) rfl 0#5) dS
 (ah (bQ (aO Eg (c9 λ_ _ _ _=>rb _) (aU kl rh rfl T.n_abs PyProof.Rows.Boot.«abs» (aa 0#7 aj)) (qU ai ai) nm)
 (ah (bW (i:=2) rfl 0#5 (dj 3#7<|ao 1#7<|dv 5))
 (ah (aG (i:=3) (nd 0) rfl 0#5 (nR 3#7<|ao 1#7<|dv 5))
 aq))
 (ah (aG (i:=4) (nd 0) rfl 0#5 (dj (aT (aT (aT (fG 4#7<|dv 4)<|fG ai<|dv 4)<|fG ai<|dv 5) ai) ai))
 (ah (bW (i:=2) rfl 0#5 (dj (dj (fG 4#7 ai) ai)<|ao 1#7<|dv 5))
 aq)))
 aq))
 (ah (aP<|dv 2)
 aq))))))
def xp(T:Txt K mg t):fP P w K mg base CX0 1 (t.A 1) (t.Q 1) ["_law_d","_law_many"] (spD K 2 dN) "_law_names" (top 80) :=
 oD T.g sc (i:=1) rfl λ_ _ _ _ H _ _ a=>(
 (ah (aG (i:=2) (nd 1) rfl (Ym rfl) bE)
 (ah (jj (i:=3) (nd 1) rfl 0#5 (fF aj))
 (ah (zK Wg rfl rfl T.n_range 1#7 (bZ (i:=4) (nd 1) rfl 0#5) dS
 (ah (aG (i:=5) (nd 1) rfl (Ym rfl) (bO 0#7 (bU<|fG ai<|dv 4)<|bU<|aT (fG ai<|dv 4) ai))
 (ah (aG (i:=6) (nd 1) rfl 0#5 (Ms bE<|aa (ka<|kc ["_law_j","_law_some","_law_e"] 1 [2,5] rfl (yj rfl T.n_range (aT ai<|ao 5#7 ai)) (cY<|by decide) (λs H C d c=>⟨λe b=>(bZ (i:=0) (show Wl (["_law_j","_law_some","_law_e"]:cr) from by decide) rfl 0#5),gi,(ao 1#7<|ao 2#7<|aT ai<|dv 0)⟩) ⟨rfl,rfl⟩ rfl rfl rfl rfl) aj))
 (ah (bQ (DW.dt<|qR (aO AM (c9 λ_ _ _ _=>rb _) 4#7 ai nm)<|gI<|aO (cN a.units) dP (ao 5#7 ai) ai nm)
 (ah (Mn (i:=6) (nd 1) rfl 0#5 (aT (bO (ao 3#7<|qT 4#7 ai) dw<|bU<|ao 5#7 ai)<|ao 2#7<|ao 5#7 ai))
 aq)
 aq)
 (ah (aG (i:=7) (nd 1) rfl 0#5 (ao 5#7 ai))
 (ah (lZ _ Wg (aO (rH a.units) rJ 6#7 3#7 rfl)
 (ah (aG (i:=7) (nd 1) rfl 0#5 (aT 7#7 ai))
 (ah (aG (i:=6) (nd 1) rfl 0#5 (aT (bO 6#7 dw<|bU<|jO ai)<|ao 2#7<|dj 7#7 ai))
 aq)))
 (ah (bW (i:=3) rfl 0#5 6#7)
 aq)))))))
 (ah (aP<|dv 3)
 aq)))))
def jM(T:Txt K mg t):fP P w K mg base CX0 2 (t.A 2) (t.Q 2) ["_law_script"] (spD K 1 bf) "_law_cells" (top 82) :=
 oD T.g sc (i:=2) rfl λ_ _ _ _ _ _ _ a=>(
 (ah (aG (i:=1) (nd 2) rfl 0#5 (rC (eZ T) a<|aa (ao (aT 0#7<|aQ<|aa ai aj) ai)<|aa (aT (aT (aQ<|aa ai<|aa ai<|aa ai aj)<|kO (zL (aQ<|aa ai<|aa ai aj)<|kO (fF<|aa ai aj) ai) ai)<|aQ<|aa ai aj) aj))
 (ah (aG (i:=2) (nd 2) rfl 0#5 (aU (F9 rfl) PY rfl T.n_min PyProof.Rows.Boot.«min» (aa ai<|aa (ao 1#7 ai) aj)))
 (ah (aP<|aK<|aa (bO 0#7 (bU ai)<|bU<|aT ai<|dv 2)<|aa (bO 0#7 (bU<|aT ai<|dv 2)<|bU ai) aj)
 aq))))
def AS(T:Txt K mg t):fP P w K mg base CX0 1 (t.A 3) (t.Q 3) ["_law_top","_law_bottom"] (spD K 2 gF) "_law_low" (top 78) :=
 oD T.g sc (i:=3) rfl λ_ _ _ _ _ _ _ a=>(
 (ah (aG (i:=2) (nd 3) rfl 0#5 (aU kl rh rfl T.n_abs PyProof.Rows.Boot.«abs» (aa 0#7 aj)))
 (ah (aG (i:=3) (nd 3) rfl 0#5 1#7)
 (ah (lZ _ Wg (aO (fA a.units) ja 3#7 ai nm)
 (ah (PH (i:=2) (j:=3) rfl (nd 3) rfl rfl 0#1 rfl rfl (aa 3#7<|aa (dj 2#7<|dv 3) aj) rfl)
 aq))
 (ah (aP<|aK<|aa (nR 0#7<|dv 2)<|aa (nR 1#7<|dv 2) aj)
 aq)))))
def gD(T:Txt K mg t):fP P w K mg base CX0 2 (t.A 4) (t.Q 4) ["_law_d"] (spD K 1 aX) "_law_fraction" (top 79) :=
 oD T.g sc (i:=4) rfl λ_ _ _ _ _ _ _ a=>(
 (ah (aG (i:=1) (nd 4) rfl 0#5 (ao (aQ<|aa ai<|aa (dj (ao 0#7 ai) ai)<|aa (dj (ao 0#7 ai) ai)<|aa (ao 0#7 ai)<|aa (dj (ao 0#7 ai) ai) aj)<|ao 0#7 ai))
 (ah (aG (i:=2) (nd 4) rfl 0#5 (ao (aQ<|aa ai<|aa ai<|aa (aT ai<|ao 0#7 ai)<|aa ai<|aa (aT ai<|dj (ao 0#7 ai) ai) aj)<|ao 0#7 ai))
 (ah (aP<|rC (AS T) a<|aa 1#7<|aa 2#7 aj)
 aq))))
def AR(T:Txt K mg t):fP P w K mg base CX0 3 (t.A 5) (t.Q 5) ["_law_cell","_law_k","_law_walk"] (spD K 3 ck) "_law_tie" (top 81) :=
 oD T.g sc (i:=5) rfl λ_ _ _ _ _ _ _ a=>(
 (ah (aG (i:=3) (nd 5) rfl 0#5 (rC (eZ T) a<|aa 0#7<|aa (aQ<|aa ai<|aa ai<|aa ai<|aa ai<|aa (qU ai ai)<|aa ai<|aa ai<|aa ai<|aa (qU ai ai)<|aa ai<|aa ai aj) aj))
 (ah (aG (i:=4) (nd 5) rfl 0#5 (dj (ao 3#7 ai)<|aU bC cz rfl T.n_len PyProof.Rows.Boot.«len» (aa 2#7 aj)))
 (ah (aG (i:=5) (nd 5) rfl 0#5 (dj (aT (aT 4#7 ai)<|dj (ao 3#7 ai)<|qT (aU bC cz rfl T.n_len PyProof.Rows.Boot.«len» (aa 2#7 aj)) ai)<|aU bC cz rfl T.n_len PyProof.Rows.Boot.«len» (aa 2#7 aj)))
 (ah (bQ (aO (cN a.units) dP (ao 3#7 ai) ai nm)
 (ah (aG (i:=4) (nd 5) rfl 0#5 (dj 1#7<|qT (aU bC cz rfl T.n_len PyProof.Rows.Boot.«len» (aa 2#7 aj)) ai))
 (ah (aG (i:=5) (nd 5) rfl 0#5 (aT 4#7 ai))
 aq))
 aq)
 (ah (aG (i:=6) (nd 5) rfl 0#5 bF)
 (ah (bQ (aO AM (c9 λ_ _ _ _=>rb _) (ao 3#7 ai) ai nm)
 (ah (aG (i:=6) (nd 5) rfl 0#5 (rC (gD T) a<|aa (bO 3#7 (bU ai)<|bU ai) aj))
 (ah (bQ (aO (cN a.units) dP (ao 6#7 ai) ai nm)
 (ah (aG (i:=6) (nd 5) rfl 0#5 (aK<|aa ai<|aa ai aj))
 aq)
 aq)
 aq))
 aq)
 (ah (aP<|aK<|aa (ao 2#7<|dv 4)<|aa (ao 2#7<|dv 5)<|aa (ao (aQ<|aa bE<|aa bE aj)<|ao 3#7 ai)<|aa (rC (gD T) a<|aa (bO 3#7 (bU ai)<|bU ai) aj)<|aa 6#7 aj)
 aq))))))))
def AQ(T:Txt K mg t):fP P w K mg base CX0 4 (t.A 6) (t.Q 6) ["_law_script"] (spD K 1 di) "_law_web" (top 83) :=
 oD T.g sc (i:=6) rfl λ_ _ _ _ H _ _ a=>(
 (ah (aG (i:=1) (nd 6) rfl 0#5 (rC (eZ T) a<|aa (ao (aT 0#7<|aQ<|aa ai aj) ai)<|aa (aT (aQ<|aa ai<|aa ai<|aa ai aj)<|kO (zL (aQ<|aa ai<|aa ai aj)<|kO (fF<|aa ai aj) ai) ai) aj))
 (ah (aG (i:=2) (nd 6) rfl 0#5 (rC (xp T) a<|aa (bO 1#7 (bU ai) dw)<|aa (aT ai<|ao 1#7 ai) aj))
 (ah (aG (i:=3) (nd 6) rfl (Ym rfl) (dj (ao 1#7 ai)<|aU bC cz rfl T.n_len PyProof.Rows.Boot.«len» (aa 2#7 aj)))
 (ah (aG (i:=4) (nd 6) rfl (Ym rfl) (dj (aT (aT 3#7 ai)<|dj (ao 1#7 ai)<|qT (aU bC cz rfl T.n_len PyProof.Rows.Boot.«len» (aa 2#7 aj)) ai)<|aU bC cz rfl T.n_len PyProof.Rows.Boot.«len» (aa 2#7 aj)))
 (ah (kN (i:=5) (nd 6) rfl rfl fN (kc ["_law_k","_law_place","_law_first","_law_last"] 2 [3,4] rfl (iJ rfl T.n_enumerate 2#7) (lu<|by decide) (λs H C d c=>⟨λe b=>(ip rfl (br (i:=0) (show Wl (["_law_k","_law_place","_law_first","_law_last"]:cr) from by decide) rfl 0#5 (br (i:=1) (show Wl (["_law_k","_law_place","_law_first","_law_last"]:cr) from by decide) rfl 0#5 eN))),(iI<|aO (fY a.units) gf 0#7 (aK<|aa 2#7<|aa 3#7 aj) rfl),1#7⟩) ⟨rfl,rfl⟩ rfl rfl rfl rfl))
 (ah (aG (i:=6) (nd 6) rfl (Ym rfl) (aT (aT (aQ<|aa (ao 2#7<|dv 3) aj)<|dv 5)<|aQ<|aa (ao 2#7<|dv 4) aj))
 (ah (kN (i:=7) (nd 6) rfl rfl fN (kc ["_law_k","_law_cell","_law_walk"] 2 [6] rfl (iJ rfl T.n_enumerate (ao (rC (jM T) a<|aa 0#7 aj) ai)) (lu<|by decide) (λs H C d c=>⟨λe b=>(ip rfl (br (i:=0) (show Wl (["_law_k","_law_cell","_law_walk"]:cr) from by decide) rfl 0#5 (br (i:=1) (show Wl (["_law_k","_law_cell","_law_walk"]:cr) from by decide) rfl 0#5 eN))),gi,(rC (AR T) a<|aa 1#7<|aa 0#7<|aa 2#7 aj)⟩) ⟨rfl,rfl⟩ rfl rfl rfl rfl))
 (ah (aP<|aK<|aa 2#7<|aa 7#7<|aa (ao 2#7<|dv 3)<|aa (ao 2#7<|dv 4) aj)
 aq)))))))))
def xo(T:Txt K mg t):fP P w K mg base CX0 3 (t.A 7) (t.Q 7) ["_law_script"] (spD K 1 dM) "_law_rooms" (top 84) :=
 oD T.g sc (i:=7) rfl λ_ _ _ _ H _ _ a=>(
 (ah (aG (i:=1) (nd 7) rfl (Ym rfl) (aQ<|aa ai<|aa ai<|aa ai<|aa ai<|aa (qU ai ai)<|aa ai<|aa ai<|aa ai<|aa (qU ai ai)<|aa ai<|aa ai<|aa ai<|aa (qU ai ai)<|aa ai aj))
 (ah (aP<|ka<|kc ["_law_cell","_law_tops"] 1 [1] rfl (eM<|ao (rC (jM T) a<|aa 0#7 aj) ai) (cY<|by decide) (λs H C d c=>⟨λe b=>(bZ (i:=0) (show Wl (["_law_cell","_law_tops"]:cr) from by decide) rfl 0#5),gi,(rC (gD T) a<|aa (bO (rC (eZ T) a<|aa 0#7<|aa 1#7 aj) (bU ai) dw) aj)⟩) ⟨rfl,rfl⟩ rfl rfl rfl rfl)
 aq)))
def nD(T:Txt K mg t):fP P w K mg base CX0 1 (t.A 8) (t.Q 8) ["_law_web_here","_law_way"] (spD K 2 da) "_law_bad_taking" (top 88) :=
 oD T.g sc (i:=8) rfl λ_ _ _ _ H _ _ _=>(
 (ah (kN (i:=2) (nd 8) rfl rfl fN (kc ["_law_k","_law_tie_here"] 2 [] rfl (iJ rfl T.n_enumerate (ao 0#7 ai)) (lu<|by decide) (λs H C c b=>⟨λd a=>(ip rfl (br (i:=0) (show Wl (["_law_k","_law_tie_here"]:cr) from by decide) rfl 0#5 (br (i:=1) (show Wl (["_law_k","_law_tie_here"]:cr) from by decide) rfl 0#5 eN))),(iI<|aO zg zl (ao 1#7 ai) bF nm),0#7⟩) ⟨rfl,rfl⟩ rfl rfl rfl rfl))
 (ah (kN (i:=3) (nd 8) rfl rfl fN (kc ["_law_k","_law_tie_here"] 2 [] rfl (iJ rfl T.n_enumerate (ao 0#7 ai)) (lu<|by decide) (λs H C c b=>⟨λd a=>(ip rfl (br (i:=0) (show Wl (["_law_k","_law_tie_here"]:cr) from by decide) rfl 0#5 (br (i:=1) (show Wl (["_law_k","_law_tie_here"]:cr) from by decide) rfl 0#5 eN))),(iI<|aO sX sY (ao 1#7 ai) bF nm),0#7⟩) ⟨rfl,rfl⟩ rfl rfl rfl rfl))
 (ah (aG (i:=4) (nd 8) rfl 0#5 (aQ<|aa bF<|aa (aK aj)<|aa (aQ<|aa fg aj)<|aa (aQ<|aa (aU bC cz rfl T.n_len PyProof.Rows.Boot.«len» (aa (ao 0#7 ai) aj)) aj)<|aa (aQ<|aa (jO ai) aj)<|aa (aQ<|aa bE aj)<|aa (aQ<|aa bF aj) aj))
 (ah (aG (i:=4) (nd 8) rfl 0#5 (aT 4#7<|aQ<|aa (aT (aT (bO 2#7 dw<|bU ai)<|dv 3)<|aQ<|aa ai aj)<|aa (aT (PN<|dv 3)<|aQ<|aa ai<|aa ai aj)<|aa (aT (kO (JI 3#7 (bU<|jO ai) dw) ai)<|aQ<|aa (jO ai) aj) aj))
 (ah (aG (i:=4) (nd 8) rfl 0#5 (aT 4#7<|aQ<|aa (aT (bO 2#7 (bU<|jO ai) dw)<|aQ<|aa ai aj)<|aa zM aj))
 (ah (aP<|ao 4#7<|dv 1)
 aq)))))))
def oF(T:Txt K mg t):fP P w K mg base CX0 1 (t.A 9) (t.Q 9) ["_law_rooms_here","_law_d"] (spD K 2 dA) "_law_bad_rooms" (top 87) :=
 oD T.g sc (i:=9) rfl λ_ _ _ _ _ _ _ _=>(
 (ah (aG (i:=2) (nd 9) rfl 0#5 (dj (ao 1#7 ai)<|aT (aU bC cz rfl T.n_len PyProof.Rows.Boot.«len» (aa 0#7 aj)) ai))
 (ah (jj (i:=3) (nd 9) rfl 0#5 (fF<|aa bF<|aa (gk gS qc rfl T.n_tuple PyProof.Rows.Boot.«tuple» (aa 0#7 aj))<|aa (aT 0#7<|aQ<|aa (aK<|aa ai<|aa ai aj) aj)<|aa (aT (aT (bO 0#7 dw<|bU<|dv 2)<|aQ<|aa (aK<|aa ai<|aa ai aj) aj)<|bO 0#7 (bU<|dv 2) dw)<|aa zM aj))
 (ah (aG (i:=4) (nd 9) rfl 0#5 (ao (aQ<|aa (aK<|aa (jO ai)<|aa ai aj)<|aa (aK<|aa ai<|aa ai aj)<|aa ai<|aa bF<|aa fg<|aa (aK<|aa ai<|aa ai aj)<|aa (aK<|aa fg<|aa ai aj)<|aa (aK<|aa ai<|aa fg aj)<|aa (aK<|aa ai<|aa ai<|aa ai aj)<|aa (aQ<|aa ai<|aa ai aj) aj)<|ao 1#7 ai))
 (ah (bW (i:=3) rfl 0#5 (aT (aT (bO 0#7 dw<|bU<|dv 2)<|aQ<|aa 4#7 aj)<|bO 0#7 (bU<|aT 2#7 ai) dw))
 (ah (aP<|ao 3#7<|ao 1#7 ai)
 aq))))))
def sH(T:Txt K mg t):fP P w K mg base CX0 1 (t.A 10) (t.Q 10) ["_law_web_here","_law_way"] (spD K 2 eA) "_law_bad_web" (top 85) :=
 oD T.g sc (i:=10) rfl λ_ _ _ _ _ _ _ _=>(
 (ah (PB rfl 0#7 (br (i:=2) (nd 10) rfl 0#5 (br (i:=3) (nd 10) rfl 0#5 (br (i:=4) (nd 10) rfl 0#5 (br (i:=5) (nd 10) rfl 0#5 eN)))))
 (ah (jj (i:=6) (nd 10) rfl 0#5 (fF<|aa bF<|aa (aK aj)<|aa (gk qe MF rfl T.n_list PyProof.Rows.Boot.«list» (aa 0#7 aj))<|aa (aK<|aa 2#7<|aa 3#7<|aa 4#7 aj)<|aa (aK<|aa (gk gS qc rfl T.n_tuple PyProof.Rows.Boot.«tuple» (aa 2#7 aj))<|aa 3#7<|aa 4#7<|aa 5#7 aj) aj))
 (ah (bW (i:=6) rfl 0#5 (aK<|aa (bO 2#7 dw<|bU ai)<|aa 3#7<|aa 4#7<|aa 5#7 aj))
 (ah (Di 6<|jj (i:=6) (nd 10) rfl 0#5 (zL 6#7<|aQ<|aa (aK<|aa (aT 2#7<|bO 2#7 dw<|bU ai)<|aa 3#7<|aa 4#7<|aa 5#7 aj)<|aa (aK<|aa 2#7<|aa (gk gS qc rfl T.n_tuple PyProof.Rows.Boot.«tuple» (aa 3#7 aj))<|aa 4#7<|aa 5#7 aj) aj))
 (ah (bW (i:=6) rfl 0#5 (aK<|aa 2#7<|aa (aT 3#7<|aQ<|aa (aK<|aa 4#7<|aa 4#7<|aa bE<|aa (aK<|aa ai<|aa ai aj)<|aa bF aj) aj)<|aa 4#7<|aa 5#7 aj))
 (ah (bW (i:=6) rfl 0#5 (aK<|aa 2#7<|aa 3#7<|aa 4#7<|aa 4#7 aj))
 (ah (bW (i:=6) rfl 0#5 (aK<|aa 2#7<|aa (aT 3#7<|aQ<|aa (aK<|aa 4#7<|aa 5#7<|aa bE<|aa (aK<|aa ai<|aa ai aj)<|aa bF aj) aj)<|aa 4#7<|aa 5#7 aj))
 (ah (bW (i:=6) rfl 0#5 (aK<|aa 2#7<|aa 3#7<|aa bE<|aa 5#7 aj))
 (ah (bW (i:=6) rfl 0#5 (aK<|aa 2#7<|aa (aT 3#7<|aQ<|aa (aK<|aa 4#7<|aa 5#7<|aa bE<|aa (aK<|aa (jO ai)<|aa ai aj)<|aa (aK<|aa ai<|aa ai aj) aj) aj)<|aa 4#7<|aa 5#7 aj))
 (ah (bW (i:=6) rfl 0#5 (aK<|aa 2#7<|aa 3#7<|aa 4#7<|aa bF aj))
 (ah (bW (i:=6) rfl 0#5 (aK<|aa 2#7<|aa (aT 3#7<|aQ<|aa (aK<|aa 4#7<|aa 5#7<|aa bE<|aa (aK<|aa ai<|aa ai aj)<|aa (aK<|aa ai<|aa ai aj) aj) aj)<|aa 4#7<|aa 5#7 aj))
 (ah (bW (i:=6) rfl 0#5 (aK<|aa 2#7<|aa bF<|aa 4#7<|aa 5#7 aj))
 (ah (aP<|ao 6#7<|dv 1)
 aq))))))))))))))
def qL(T:Txt K mg t):fP P w K mg base CX0 1 (t.A 11) (t.Q 11) ["_law_web_here","_law_asked_here","_law_way"] (spD K 3 cm) "_law_bad_last" (top 89) :=
 oD T.g sc (i:=11) rfl λ_ _ _ _ _ _ _ a=>(
 (ah (bQ (aO (cN a.units) dP 1#7 ai nm)
 (ah (aG (i:=3) (nd 11) rfl 0#5 (kO (fF<|aa (aK<|aa ai<|aa ai aj) aj)<|aU bC cz rfl T.n_len PyProof.Rows.Boot.«len» (aa (ao 0#7 ai) aj)))
 (ah (aP<|ao (aQ<|aa bF<|aa (gk gS qc rfl T.n_tuple PyProof.Rows.Boot.«tuple» (aa 3#7 aj))<|aa (aT 3#7<|aQ<|aa (aK<|aa ai<|aa ai aj) aj)<|aa (aT (bO 3#7 (bU ai) dw)<|aQ<|aa (aK<|aa ai<|aa ai aj)<|aa (aK<|aa ai<|aa ai aj) aj)<|aa ai<|aa zM aj)<|dv 2)
 aq))
 aq)
 (ah (aP<|ao (aQ<|aa bF<|aa (aK aj)<|aa (aQ aj)<|aa (aQ<|aa (ao 0#7 ai) aj)<|aa (aT (ao 0#7 ai)<|aQ<|aa (ao 0#7 ai) aj)<|aa (aQ<|aa (ao 0#7 ai)<|aa (ao 0#7 ai) aj) aj)<|dv 2)
 aq)))
def kD(T:Txt K mg t):fP P w K mg base CX0 1 (t.A 12) (t.Q 12) ["thing"] (spD K 1 m_is_name) "is_name" (top 16) :=
 oD T.g sc (i:=12) rfl λ_ _ _ _ H _ _ a=>(
 (ah (bQ (DW.dt<|eX (cg<|cf<|cU uP rfl T.n_isinstance rfl T.n_str PyProof.Rows.Boot.«str» 0#7)<|bN<|cg<|By xU xU (iR λ_ _ _ _=>rb _) (iR λ_ _ _ _=>rb _) iS iS ai (aU bC cz rfl T.n_len PyProof.Rows.Boot.«len» (aa 0#7 aj))<|aS T.jo rfl)
 (ah (aP fg)
 aq)
 aq)
 (ah (aP<|aU (wu rfl) Dm rfl T.n_all PyProof.Rows.Boot.«all» (aa (ka<|kc ["sign"] 1 [] rfl (PK<|dv 0) (cY<|by decide) (λs H C d c=>⟨λe b=>(bZ (i:=0) (show Wl (["sign"]:cr) from by decide) rfl 0#5),gi,(dk (rH a.units) rJ 0#7 (aS T.rl rfl) rfl)⟩) ⟨rfl,rfl⟩ rfl rfl rfl rfl) aj))
 aq)))
def oA(T:Txt K mg t):fP P w K mg base (fR P w) 3 (t.A 13) (t.Q 13) ["places"] (spD K 1 m_look_at_places) "look_at_places" (top 43) :=
 oE T.g sc (i:=13) rfl λ_ _ _ _ _ _ _ a=>(
 (ah (bQ (DW.dt<|eX (cg<|cf<|cU fM rfl T.n_isinstance rfl T.n_list PyProof.Rows.Boot.«list» 0#7)<|bN<|cg<|By xU xU (iR λ_ _ _ _=>rb _) (iR λ_ _ _ _=>rb _) iS iS (aS T.ir rfl) (aU bC cz rfl T.n_len PyProof.Rows.Boot.«len» (aa 0#7 aj))<|aS T.jS rfl)
 (ah (gJ T.iF.xc T.bx.xi T.bx.xs T.bx.xf ((fE T).mono (by decide:1<=1)) T.bx.bi 0#1 0#1 a T.jA a.hd rfl (aa bE<|aa bF aj))
 aq)
 aq)
 (ah (mQ Yl rfl (iJ rfl T.n_enumerate 0#7) (ip rfl (br (i:=1) (nd 13) rfl 0#5 (br (i:=2) (nd 13) rfl 0#5 eN))) gz
 (ah (bQ (DW.dt<|eX (cg<|cf<|rC (kD T) a<|aa 2#7 aj)<|bN<|aO (rH a.units) rJ 2#7 (bO 0#7 dw<|bU<|dv 1) rfl)
 (ah (gJ T.iF.xc T.bx.xi T.bx.xs T.bx.xf ((fE T).mono (by decide:1<=1)) T.bx.bi 0#1 0#1 a T.jA a.hd rfl (aa bE<|aa 1#7 aj))
 aq)
 aq)
 aq))
 aq)))
def gV(T:Txt K mg t):fP P w K mg base CX0 1 (t.A 14) (t.Q 14) ["thing"] (spD K 1 m_is_whole) "is_whole" (top 14) :=
 oD T.g sc (i:=14) rfl λ_ _ _ _ _ _ _ _=>(
 (ah (aP<|jQ (cU CW rfl T.n_isinstance rfl T.n_int PyProof.Rows.Boot.«int» 0#7)<|gK<|JK<|cU A1 rfl T.n_isinstance rfl T.n_bool PyProof.Rows.Boot.«bool» 0#7)
 aq))
def f9(T:Txt K mg t):fP P w K mg base CX0 1 (t.A 15) (t.Q 15) ["one","other"] (spD K 2 m_common_divisor) "common_divisor" (top 10) :=
 oD T.g sc (i:=15) rfl λ_ _ _ _ _ _ _ a=>(
 (ah (aG (i:=2) (nd 15) rfl 0#5 (aU kl rh rfl T.n_abs PyProof.Rows.Boot.«abs» (aa 0#7 aj)))
 (ah (aG (i:=3) (nd 15) rfl 0#5 (aU kl rh rfl T.n_abs PyProof.Rows.Boot.«abs» (aa 1#7 aj)))
 (ah (lZ _ Wg (aO (fA a.units) ja 3#7 ai nm)
 (ah (aG (i:=4) (nd 15) rfl 0#5 (dj 2#7<|dv 3))
 (ah (aG (i:=2) (nd 15) rfl 0#5 3#7)
 (ah (aG (i:=3) (nd 15) rfl 0#5 4#7)
 aq))))
 (ah (aP<|dv 2)
 aq)))))
def lF(T:Txt K mg t):fP P w K mg base CX0 2 (t.A 16) (t.Q 16) ["thing"] (spD K 1 m_is_ratio) "is_ratio" (top 15) :=
 oD T.g sc (i:=16) rfl λ_ _ _ _ _ _ _ a=>(
 (ah (bQ (DW.dt<|eX (cg<|cf<|cU kI rfl T.n_isinstance rfl T.n_tuple PyProof.Rows.Boot.«tuple» 0#7)<|bN<|aO (fA a.units) ja (aU bC cz rfl T.n_len PyProof.Rows.Boot.«len» (aa 0#7 aj)) ai nm)
 (ah (aP fg)
 aq)
 aq)
 (ah (bQ (DW.dt<|eX (cg<|cf<|rC (gV T) a<|aa (ao 0#7 ai) aj)<|bN<|cg<|cf<|rC (gV T) a<|aa (ao 0#7 ai) aj)
 (ah (aP fg)
 aq)
 aq)
 (ah (aP<|jQ (dk Eg (c9 λ_ _ _ _=>rb _) (ao 0#7 ai) ai nm)<|gK<|dk (cN a.units) dP (rC (f9 T) a<|aa (ao 0#7 ai)<|aa (ao 0#7 ai) aj) ai nm)
 aq))))
def oB(T:Txt K mg t):fP P w K mg base CX0 3 (t.A 17) (t.Q 17) ["thing"] (spD K 1 m_is_length) "is_length" (top 38) :=
 oD T.g sc (i:=17) rfl λ_ _ _ _ _ _ _ a=>(
 (ah (aP<|jQ (rC (lF T) a<|aa 0#7 aj)<|gK<|dk Eg (c9 λ_ _ _ _=>rb _) (ao 0#7 ai) ai nm)
 aq))
def AN(T:Txt K mg t):fP P w K mg base CX0 3 (t.A 18) (t.Q 18) ["thing"] (spD K 1 m_is_worth) "is_worth" (top 39) :=
 oD T.g sc (i:=18) rfl λ_ _ _ _ _ _ _ a=>(
 (ah (aP<|EF (dk zg zl 0#7 bF nm)<|gK<|jQ (rC (lF T) a<|aa 0#7 aj)<|gK<|dk AM (c9 λ_ _ _ _=>rb _) (ao 0#7 ai) ai nm)
 aq))
def Fv(T:Txt K mg t):fP P w K mg base CX0 4 (t.A 19) (t.Q 19) ["thing"] (spD K 1 m_is_tie) "is_tie" (top 37) :=
 oD T.g sc (i:=19) rfl λ_ _ _ _ _ _ _ a=>(
 (ah (bQ (DW.dt<|eX (cg<|cf<|cU kI rfl T.n_isinstance rfl T.n_tuple PyProof.Rows.Boot.«tuple» 0#7)<|bN<|aO (fA a.units) ja (aU bC cz rfl T.n_len PyProof.Rows.Boot.«len» (aa 0#7 aj)) ai nm)
 (ah (aP fg)
 aq)
 aq)
 (ah (bQ (DW.dt<|eX (cg<|cf<|rC (kD T) a<|aa (ao 0#7<|aS T.nk rfl) aj)<|eX (cg<|cf<|rC (kD T) a<|aa (ao 0#7<|aS T.gT rfl) aj)<|bN<|aO (cN a.units) dP (ao 0#7<|aS T.nk rfl) (ao 0#7<|aS T.gT rfl) nm)
 (ah (aP fg)
 aq)
 aq)
 (ah (bQ (DW.dt<|eX (cg<|cf<|cU uP rfl T.n_isinstance rfl T.n_str PyProof.Rows.Boot.«str» (ao 0#7<|aS T.nU rfl))<|bN<|aO (fY a.units) gf (ao 0#7<|aS T.nU rfl) (aS T.zT rfl) rfl)
 (ah (aP fg)
 aq)
 aq)
 (ah (aP<|jQ (rC (oB T) a<|aa (ao 0#7<|aS T.wy rfl) aj)<|gK<|rC (AN T) a<|aa (ao 0#7<|aS T.tJ rfl) aj)
 aq)))))
def sE(T:Txt K mg t):fP P w K mg base (fR P w) 5 (t.A 20) (t.Q 20) ["ties","places"] (spD K 2 m_look_at_ties) "look_at_ties" (top 44) :=
 oE T.g sc (i:=20) rfl λ_ _ _ _ _ _ _ a=>(
 (ah (bQ (DW.dt<|eX (cg<|cf<|cU fM rfl T.n_isinstance rfl T.n_list PyProof.Rows.Boot.«list» 0#7)<|bN<|aO AM (c9 λ_ _ _ _=>rb _) (aU bC cz rfl T.n_len PyProof.Rows.Boot.«len» (aa 0#7 aj)) (aS T.md rfl) nm)
 (ah (gJ T.iF.xc T.bx.xi T.bx.xs T.bx.xf ((fE T).mono (by decide:1<=3)) T.bx.bi 0#1 0#1 a T.jA a.hd rfl (aa bE<|aa bF aj))
 aq)
 aq)
 (ah (mQ Yl rfl (iJ rfl T.n_enumerate 0#7) (ip rfl (br (i:=2) (nd 20) rfl 0#5 (br (i:=3) (nd 20) rfl 0#5 eN))) gz
 (ah (bQ (DW.dt<|eX (cg<|cf<|rC (Fv T) a<|aa 3#7 aj)<|eX (aO (fY a.units) gf (ao 3#7<|aS T.nk rfl) 1#7 rfl)<|bN<|aO (fY a.units) gf (ao 3#7<|aS T.gT rfl) 1#7 rfl)
 (ah (gJ T.iF.xc T.bx.xi T.bx.xs T.bx.xf ((fE T).mono (by decide:1<=3)) T.bx.bi 0#1 0#1 a T.jA a.hd rfl (aa bE<|aa 2#7 aj))
 aq)
 aq)
 aq))
 aq)))
def lH(T:Txt K mg t):fP P w K mg base CX0 2 (t.A 21) (t.Q 21) ["thing","places"] (spD K 2 m_is_place) "is_place" (top 45) :=
 oD T.g sc (i:=21) rfl λ_ _ _ _ _ _ _ a=>(
 (ah (aP<|jQ (rC (kD T) a<|aa 0#7 aj)<|gK<|dk (rH a.units) rJ 0#7 1#7 rfl)
 aq))
def i8(T:Txt K mg t):fP P w K mg base (fR P w) 6 (t.A 22) (t.Q 22) ["thing"] (spD K 1 m_look_at_web) "look_at_web" (top 42) :=
 oE T.g sc (i:=22) rfl λ_ _ _ _ _ _ _ a=>(
 (ah (bQ (DW.dt<|eX (cg<|cf<|cU kI rfl T.n_isinstance rfl T.n_tuple PyProof.Rows.Boot.«tuple» 0#7)<|bN<|aO (fA a.units) ja (aU bC cz rfl T.n_len PyProof.Rows.Boot.«len» (aa 0#7 aj)) ai nm)
 (ah (gJ T.iF.xc T.bx.xi T.bx.xs T.bx.xf ((fE T).mono (by decide:1<=4)) T.bx.bi 0#1 0#1 a T.jA a.hd rfl (aa bE<|aa bF aj))
 aq)
 aq)
 (ah (dY<|rC (oA T) a<|aa (ao 0#7<|aS T.fj rfl) aj)
 (ah (dY<|rC (sE T) a<|aa (ao 0#7<|aS T.jm rfl)<|aa (ao 0#7<|aS T.fj rfl) aj)
 (ah (bQ (cg<|cf<|rC (lH T) a<|aa (ao 0#7<|aS T.jE rfl)<|aa (ao 0#7<|aS T.fj rfl) aj)
 (ah (gJ T.iF.xc T.bx.xi T.bx.xs T.bx.xf ((fE T).mono (by decide:1<=4)) T.bx.bi 0#1 0#1 a T.jA a.hd rfl (aa bE<|aa bF aj))
 aq)
 aq)
 (ah (bQ (DW.dt<|eX (cg<|cf<|rC (lH T) a<|aa (ao 0#7<|aS T.nV rfl)<|aa (ao 0#7<|aS T.fj rfl) aj)<|bN<|aO (cN a.units) dP (ao 0#7<|aS T.nV rfl) (ao 0#7<|aS T.jE rfl) nm)
 (ah (gJ T.iF.xc T.bx.xi T.bx.xs T.bx.xf ((fE T).mono (by decide:1<=4)) T.bx.bi 0#1 0#1 a T.jA a.hd rfl (aa bE<|aa bF aj))
 aq)
 aq)
 aq))))))
def uC(T:Txt K mg t):fP P w K mg base CX0 4 (t.A 23) (t.Q 23) ["web","thing"] (spD K 2 m_has_lengths) "has_lengths" (top 41) :=
 oD T.g sc (i:=23) rfl λ_ _ _ _ H _ _ a=>(
 (ah (bQ (DW.dt<|eX (cg<|cf<|cU fM rfl T.n_isinstance rfl T.n_list PyProof.Rows.Boot.«list» 1#7)<|bN<|aO (fA a.units) ja (aU bC cz rfl T.n_len PyProof.Rows.Boot.«len» (aa 1#7 aj)) (aU bC cz rfl T.n_len PyProof.Rows.Boot.«len» (aa (ao 0#7<|aS T.jm rfl) aj)) nm)
 (ah (aP fg)
 aq)
 aq)
 (ah (aP<|aU (wu rfl) Dm rfl T.n_all PyProof.Rows.Boot.«all» (aa (ka<|kc ["one"] 1 [] rfl (eM<|dv 1) (cY<|by decide) (λs H C d c=>⟨λe b=>(bZ (i:=0) (show Wl (["one"]:cr) from by decide) rfl 0#5),gi,(rC (oB T) a<|aa 0#7 aj)⟩) ⟨rfl,rfl⟩ rfl rfl rfl rfl) aj))
 aq)))
def gC(T:Txt K mg t):fP P w K mg base (fR P w) 7 (t.A 24) (t.Q 24) ["web","thing"] (spD K 2 m_look_at_rooms) "look_at_rooms" (top 57) :=
 oE T.g sc (i:=24) rfl λ_ _ _ _ _ _ _ a=>(
 (ah (dY<|rC (i8 T) a<|aa 0#7 aj)
 (ah (bQ (cg<|cf<|rC (uC T) a<|aa 0#7<|aa 1#7 aj)
 (ah (ji T.E1.xcls T.ye a.hd rfl (aa bE aj))
 aq)
 aq)
 aq)))
def qK(T:Txt K mg t):fP P w K mg base CX0 2 (t.A 25) (t.Q 25) ["web","thing"] (spD K 2 m_is_tie_number) "is_tie_number" (top 40) :=
 oD T.g sc (i:=25) rfl λ_ _ _ _ _ _ _ a=>(
 (ah (aP<|jQ (rC (gV T) a<|aa 1#7 aj)<|gK<|JO xU ux (iR λ_ _ _ _=>rb _) (iR λ_ _ _ _=>rb _) iS iS ai 1#7<|aU bC cz rfl T.n_len PyProof.Rows.Boot.«len» (aa (ao 0#7<|aS T.jm rfl) aj))
 aq))
def fZ(T:Txt K mg t):fP P w K mg base (fR P w) 7 (t.A 26) (t.Q 26) ["web","thing"] (spD K 2 m_look_at_taking) "look_at_taking" (top 55) :=
 oE T.g sc (i:=26) rfl λ_ _ _ _ _ _ _ a=>(
 (ah (dY<|rC (i8 T) a<|aa 0#7 aj)
 (ah (bQ (cg<|cf<|cU fM rfl T.n_isinstance rfl T.n_list PyProof.Rows.Boot.«list» 1#7)
 (ah (ji T.nr.xcls T.kK a.hd rfl (aa bE aj))
 aq)
 aq)
 (ah (aG (i:=2) (nd 26) rfl 0#5 (jO ai))
 (ah (l4 Yl rfl 1#7 (bZ (i:=3) (nd 26) rfl 0#5) dS
 (ah (bQ (DW.dt<|eX (cg<|cf<|rC (qK T) a<|aa 0#7<|aa 3#7 aj)<|bN<|aO xU (c9 λ_ _ _ _=>rb _) 3#7 2#7 nm)
 (ah (ji T.nr.xcls T.kK a.hd rfl (aa bE aj))
 aq)
 aq)
 (ah (bQ (aO zg zl (ao (ao (ao 0#7<|aS T.jm rfl)<|dv 3)<|aS T.tJ rfl) bF nm)
 (ah (ji T.nr.xcls T.kK a.hd rfl (aa bE aj))
 aq)
 aq)
 (ah (aG (i:=2) (nd 26) rfl 0#5 3#7)
 aq))))
 aq)))))
def CG(T:Txt K mg t):fP P w K mg base CX0 1 (t.A 27) (t.Q 27) ["one","other"] (spD K 2 m_is_less) "is_less" (top 21) :=
 oD T.g sc (i:=27) rfl λ_ _ _ _ _ _ _ _=>(
 (ah (aP<|dk ux (c9 λ_ _ _ _=>rb _) (fG (ao 0#7 ai)<|ao 1#7 ai) (fG (ao 1#7 ai)<|ao 0#7 ai) nm)
 aq))
def zi(T:Txt K mg t):fP P w K mg base CX0 3 (t.A 28) (t.Q 28) ["tie","room","thing"] (spD K 3 m_is_amount) "is_amount" (top 60) :=
 oD T.g sc (i:=28) rfl λ_ _ _ _ _ _ _ a=>(
 (ah (bQ (DW.dt<|eX (cg<|cf<|rC (lF T) a<|aa 2#7 aj)<|bN<|DW.dt<|qR (aO ux (c9 λ_ _ _ _=>rb _) (ao 2#7 ai) ai nm)<|gI<|aO (cN a.units) dP (ao 0#7<|aS T.nU rfl) bE nm)
 (ah (aP fg)
 aq)
 aq)
 (ah (aP<|JK<|rC (CG T) a<|aa 1#7<|aa (aK<|aa (aU kl rh rfl T.n_abs PyProof.Rows.Boot.«abs» (aa (ao 2#7 ai) aj))<|aa (ao 2#7 ai) aj) aj)
 aq)))
def nC(T:Txt K mg t):fP P w K mg base (fR P w) 4 (t.A 29) (t.Q 29) ["web","rooms","taken","thing"] (spD K 4 m_look_at_amounts) "look_at_amounts" (top 59) :=
 oE T.g sc (i:=29) rfl λ_ _ _ _ _ _ _ a=>(
 (ah (bQ (DW.dt<|eX (cg<|cf<|cU fM rfl T.n_isinstance rfl T.n_list PyProof.Rows.Boot.«list» 3#7)<|bN<|aO (fA a.units) ja (aU bC cz rfl T.n_len PyProof.Rows.Boot.«len» (aa 3#7 aj)) (aU bC cz rfl T.n_len PyProof.Rows.Boot.«len» (aa (ao 0#7<|aS T.jm rfl) aj)) nm)
 (ah (qS T.Al.xc T.fV.xi T.fV.xs T.fV.xf ((rO T).mono (by decide:1<=2)) T.fV.bi 0#1 a T.uY a.hd rfl (aa bF aj))
 aq)
 aq)
 (ah (mQ Yl rfl (iJ rfl T.n_enumerate 3#7) (ip rfl (br (i:=4) (nd 29) rfl 0#5 (br (i:=5) (nd 29) rfl 0#5 eN))) gz
 (ah (aG (i:=6) (nd 29) rfl 0#5 (p7 (aO (rH a.units) rJ 4#7 2#7 rfl) (aS T.qf rfl)<|ao 1#7<|dv 4))
 (ah (bQ (cg<|cf<|rC (zi T) a<|aa (ao (ao 0#7<|aS T.jm rfl)<|dv 4)<|aa 6#7<|aa 5#7 aj)
 (ah (qS T.Al.xc T.fV.xi T.fV.xs T.fV.xf ((rO T).mono (by decide:1<=2)) T.fV.bi 0#1 a T.uY a.hd rfl (aa 4#7 aj))
 aq)
 aq)
 aq)))
 aq)))
def qJ(T:Txt K mg t):fP P w K mg base CX0 2 (t.A 30) (t.Q 30) ["some"] (spD K 1 m_shared_bottom) "shared_bottom" (top 52) :=
 oD T.g sc (i:=30) rfl λ_ _ _ _ _ _ _ a=>(
 (ah (aG (i:=1) (nd 30) rfl 0#5 ai)
 (ah (l4 Wg rfl 0#7 (bZ (i:=2) (nd 30) rfl 0#5) dS
 (ah (aG (i:=1) (nd 30) rfl 0#5 (fG (nR 1#7<|rC (f9 T) a<|aa 1#7<|aa (ao 2#7 ai) aj)<|ao 2#7 ai))
 aq))
 (ah (aP<|dv 1)
 aq))))
def AO(T:Txt K mg t):fP P w K mg base CX0 1 (t.A 31) (t.Q 31) ["one","bottom"] (spD K 2 m_as_whole) "as_whole" (top 53) :=
 oD T.g sc (i:=31) rfl λ_ _ _ _ _ _ _ _=>(
 (ah (aP<|fG (ao 0#7 ai)<|nR 1#7<|ao 0#7 ai)
 aq))
def ij(T:Txt K mg t):fP P w K mg base CX0 3 (t.A 32) (t.Q 32) ["some"] (spD K 1 m_on_one_scale) "on_one_scale" (top 51) :=
 oD T.g sc (i:=32) rfl λ_ _ _ _ H _ _ a=>(
 (ah (aG (i:=1) (nd 32) rfl (Ym rfl) (rC (qJ T) a<|aa (ka<|kc ["one"] 1 [] rfl (eM<|dv 0) (cY<|by decide) (λs H C d c=>⟨λe b=>(bZ (i:=0) (show Wl (["one"]:cr) from by decide) rfl 0#5),(iI<|aO sX sY 0#7 bF nm),0#7⟩) ⟨rfl,rfl⟩ rfl rfl rfl rfl) aj))
 (ah (aP<|aK<|aa (ka<|kc ["one","bottom"] 1 [1] rfl (eM<|dv 0) (cY<|by decide) (λs H C d c=>⟨λe b=>(bZ (i:=0) (show Wl (["one","bottom"]:cr) from by decide) rfl 0#5),gi,(p7 (aO zg zl 0#7 bF nm) bF<|rC (AO T) a<|aa 0#7<|aa 1#7 aj)⟩) ⟨rfl,rfl⟩ rfl rfl rfl rfl)<|aa 1#7 aj)
 aq)))
def oC(T:Txt K mg t):fP P w K mg base CX0 1 (t.A 33) (t.Q 33) ["web","sizes","place"] (spD K 3 m_goes_from) "goes_from" (top 63) :=
 oD T.g sc (i:=33) rfl λ_ _ _ _ _ _ _ a=>(
 (ah (aG (i:=3) (nd 33) rfl 0#5 ai)
 (ah (mQ Wg rfl (PJ rfl T.n_zip (ao 0#7<|aS T.jm rfl) 1#7) (ip rfl (br (i:=4) (nd 33) rfl 0#5 (br (i:=5) (nd 33) rfl 0#5 eN))) gz
 (ah (bQ (aO (cN a.units) dP (ao 4#7<|aS T.nk rfl) 2#7 nm)
 (ah (aG (i:=3) (nd 33) rfl 0#5 (aT 3#7<|dv 5))
 aq)
 aq)
 (ah (bQ (aO (cN a.units) dP (ao 4#7<|aS T.gT rfl) 2#7 nm)
 (ah (aG (i:=3) (nd 33) rfl 0#5 (qT 3#7<|dv 5))
 aq)
 aq)
 aq)))
 (ah (aP<|dv 3)
 aq))))
def uB(T:Txt K mg t):fP P w K mg base CX0 2 (t.A 34) (t.Q 34) ["web","sizes","place"] (spD K 3 m_is_balanced) "is_balanced" (top 62) :=
 oD T.g sc (i:=34) rfl λ_ _ _ _ _ _ _ a=>(
 (ah (aG (i:=3) (nd 34) rfl 0#5 (rC (oC T) a<|aa 0#7<|aa 1#7<|aa 2#7 aj))
 (ah (aP<|p7 (aO (cN a.units) dP 2#7 (ao 0#7<|aS T.jE rfl) nm) (dk Eg (c9 λ_ _ _ _=>rb _) 3#7 ai nm)<|dk (cN a.units) dP 3#7 ai nm)
 aq)))
def nB(T:Txt K mg t):fP P w K mg base (fR P w) 4 (t.A 35) (t.Q 35) ["web","flow"] (spD K 2 m_look_at_balance) "look_at_balance" (top 61) :=
 oE T.g sc (i:=35) rfl λ_ _ _ _ _ _ _ a=>(
 (ah (aG (i:=2) (nd 35) rfl 0#5 (ao (rC (ij T) a<|aa 1#7 aj) ai))
 (ah (l4 Yl rfl (ao 0#7<|aS T.fj rfl) (bZ (i:=3) (nd 35) rfl 0#5) dS
 (ah (bQ (DW.dt<|qR (aO (fA a.units) ja 3#7 (ao 0#7<|aS T.nV rfl) nm)<|gI<|cg<|cf<|rC (uB T) a<|aa 0#7<|aa 2#7<|aa 3#7 aj)
 (ah (qS T.yM.xc T.fU.xi T.fU.xs T.fU.xf ((sJ T).mono (by decide:1<=2)) T.fU.bi 0#1 a T.oO a.hd rfl (aa 3#7 aj))
 aq)
 aq)
 aq))
 aq)))
def sG(T:Txt K mg t):fP P w K mg base (fR P w) 8 (t.A 36) (t.Q 36) ["web","rooms","taking","thing"] (spD K 4 m_look_at_flow) "look_at_flow" (top 58) :=
 oE T.g sc (i:=36) rfl λ_ _ _ _ _ _ _ a=>(
 (ah (dY<|rC (gC T) a<|aa 0#7<|aa 1#7 aj)
 (ah (dY<|rC (fZ T) a<|aa 0#7<|aa 2#7 aj)
 (ah (dY<|rC (nC T) a<|aa 0#7<|aa 1#7<|aa 2#7<|aa 3#7 aj)
 (ah (dY<|rC (nB T) a<|aa 0#7<|aa 3#7 aj)
 aq)))))
def sF(T:Txt K mg t):fP P w K mg base (fR P w) 3 (t.A 37) (t.Q 37) ["web","thing"] (spD K 2 m_look_at_side) "look_at_side" (top 66) :=
 oE T.g sc (i:=37) rfl λ_ _ _ _ H _ _ a=>(
 (ah (bQ (DW.dt<|eX (cg<|cf<|cU fM rfl T.n_isinstance rfl T.n_list PyProof.Rows.Boot.«list» 1#7)<|bN<|cg<|cf<|aU (wu rfl) Dm rfl T.n_all PyProof.Rows.Boot.«all» (aa (ka<|kc ["one","web"] 1 [0] rfl (eM<|dv 1) (cY<|by decide) (λs H C d c=>⟨λe b=>(bZ (i:=0) (show Wl (["one","web"]:cr) from by decide) rfl 0#5),gi,(rC (lH T) a<|aa 0#7<|aa (ao 1#7<|aS T.fj rfl) aj)⟩) ⟨rfl,rfl⟩ rfl rfl rfl rfl) aj))
 (ah (ji T.tR.xcls T.oP a.hd rfl (aa bE aj))
 aq)
 aq)
 (ah (bQ (aO (fA a.units) ja 1#7 (ka<|kc ["place","thing"] 1 [1] rfl (eM<|ao 0#7<|aS T.fj rfl) (cY<|by decide) (λs H C d c=>⟨λe b=>(bZ (i:=0) (show Wl (["place","thing"]:cr) from by decide) rfl 0#5),(iI<|aO (rH a.units) rJ 0#7 1#7 rfl),0#7⟩) ⟨rfl,rfl⟩ rfl rfl rfl rfl) nm)
 (ah (ji T.tR.xcls T.oP a.hd rfl (aa bE aj))
 aq)
 aq)
 (ah (bQ (DW.dt<|eX (aO (fY a.units) gf (ao 0#7<|aS T.jE rfl) 1#7 rfl)<|bN<|aO (rH a.units) rJ (ao 0#7<|aS T.nV rfl) 1#7 rfl)
 (ah (ji T.tR.xcls T.oP a.hd rfl (aa bE aj))
 aq)
 aq)
 aq))))
def uz(T:Txt K mg t):fP P w K mg base CX0 2 (t.A 38) (t.Q 38) ["top","bottom"] (spD K 2 m_ratio) "ratio" (top 19) :=
 oD T.g sc (i:=38) rfl λ_ _ _ _ _ _ _ a=>(
 (ah (bQ (DW.dt<|eX (cg<|cf<|rC (gV T) a<|aa 0#7 aj)<|bN<|cg<|cf<|rC (gV T) a<|aa 1#7 aj)
 (ah BA
 aq)
 aq)
 (ah (bQ (aO (cN a.units) dP 1#7 ai nm)
 (ah BA
 aq)
 aq)
 (ah (aG (i:=2) (nd 38) rfl 0#5 (rC (f9 T) a<|aa 0#7<|aa 1#7 aj))
 (ah (bQ (aO ux (c9 λ_ _ _ _=>rb _) 1#7 ai nm)
 (ah (aG (i:=2) (nd 38) rfl 0#5 (jO<|dv 2))
 aq)
 aq)
 (ah (aP<|aK<|aa (nR 0#7<|dv 2)<|aa (nR 1#7<|dv 2) aj)
 aq))))))
def LJ(T:Txt K mg t):fP P w K mg base CX0 3 (t.A 39) (t.Q 39) ["one","other"] (spD K 2 m_plus) "plus" (top 20) :=
 oD T.g sc (i:=39) rfl λ_ _ _ _ _ _ _ a=>(
 (ah (aP<|rC (uz T) a<|aa (aT (fG (ao 0#7 ai)<|ao 1#7 ai)<|fG (ao 1#7 ai)<|ao 0#7 ai)<|aa (fG (ao 0#7 ai)<|ao 1#7 ai) aj)
 aq))
def Fu(T:Txt K mg t):fP P w K mg base CX0 4 (t.A 40) (t.Q 40) ["some"] (spD K 1 m_sum_of) "sum_of" (top 22) :=
 oD T.g sc (i:=40) rfl λ_ _ _ _ _ _ _ a=>(
 (ah (aG (i:=1) (nd 40) rfl 0#5 (aS T.qf rfl))
 (ah (l4 Wg rfl 0#7 (bZ (i:=2) (nd 40) rfl 0#5) dS
 (ah (aG (i:=1) (nd 40) rfl 0#5 (rC (LJ T) a<|aa 1#7<|aa 2#7 aj))
 aq))
 (ah (aP<|dv 1)
 aq))))
def uy(T:Txt K mg t):fP P w K mg base CX0 1 (t.A 41) (t.Q 41) ["tie"] (spD K 1 m_steps_along) "steps_along" (top 47) :=
 oD T.g sc (i:=41) rfl λ_ _ _ _ _ _ _ a=>(
 (ah (aG (i:=1) (nd 41) rfl 0#5 (aK<|aa (ao 0#7<|aS T.nk rfl)<|aa (ao 0#7<|aS T.gT rfl) aj))
 (ah (bQ (aO (cN a.units) dP (ao 0#7<|aS T.nU rfl) bE nm)
 (ah (aP<|aQ<|aa 1#7 aj)
 aq)
 aq)
 (ah (aP<|aQ<|aa 1#7<|aa (aK<|aa (ao 0#7<|aS T.gT rfl)<|aa (ao 0#7<|aS T.nk rfl) aj) aj)
 aq))))
def xg(T:Txt K mg t):fP P w K mg base CX0 2 (t.A 42) (t.Q 42) ["web","taken"] (spD K 2 m_steps_left) "steps_left" (top 48) :=
 oD T.g sc (i:=42) rfl λ_ _ _ _ _ _ _ a=>(
 (ah (jj (i:=2) (nd 42) rfl 0#5 (fF aj))
 (ah (mQ Wg rfl (iJ rfl T.n_enumerate (ao 0#7<|aS T.jm rfl)) (ip rfl (br (i:=3) (nd 42) rfl 0#5 (br (i:=4) (nd 42) rfl 0#5 eN))) gz
 (ah (bQ (aO (fY a.units) gf 3#7 1#7 rfl)
 (ah (l4 Wg rfl (rC (uy T) a<|aa 4#7 aj) (ip rfl (br (i:=5) (nd 42) rfl 0#5 (br (i:=6) (nd 42) rfl 0#5 eN))) gz
 (ah (bW (i:=2) rfl 0#5 (aK<|aa 3#7<|aa 5#7<|aa 6#7 aj))
 aq))
 aq)
 aq)
 aq))
 (ah (aP<|dv 2)
 aq))))
def uA(T:Txt K mg t):fP P w K mg base CX0 3 (t.A 43) (t.Q 43) ["web","taken","side"] (spD K 3 m_numbers_out) "numbers_out" (top 49) :=
 oD T.g sc (i:=43) rfl λ_ _ _ _ H _ _ a=>(
 (ah (aP<|ka<|kc ["number","here","there","side"] 3 [2] rfl (eM<|rC (xg T) a<|aa 0#7<|aa 1#7 aj) (lu<|by decide) (λs H C d c=>⟨λe b=>(ip rfl (br (i:=0) (show Wl (["number","here","there","side"]:cr) from by decide) rfl 0#5 (br (i:=1) (show Wl (["number","here","there","side"]:cr) from by decide) rfl 0#5 (br (i:=2) (show Wl (["number","here","there","side"]:cr) from by decide) rfl 0#5 eN)))),(iI<|DW.dt<|qR (aO (rH a.units) rJ 1#7 3#7 rfl)<|gI<|aO (fY a.units) gf 2#7 3#7 rfl),0#7⟩) ⟨rfl,rfl⟩ rfl rfl rfl rfl)
 aq))
def CF(T:Txt K mg t):fP P w K mg base (fR P w) 8 (t.A 44) (t.Q 44) ["web","rooms","taking","side"] (spD K 4 m_room_of) "room_of" (top 65) :=
 oE T.g sc (i:=44) rfl λ_ _ _ _ H _ _ a=>(
 (ah (dY<|rC (gC T) a<|aa 0#7<|aa 1#7 aj)
 (ah (dY<|rC (fZ T) a<|aa 0#7<|aa 2#7 aj)
 (ah (dY<|rC (sF T) a<|aa 0#7<|aa 3#7 aj)
 (ah (aP<|rC (Fu T) a<|aa (ka<|kc ["number","rooms"] 1 [1] rfl (eM<|rC (uA T) a<|aa 0#7<|aa 2#7<|aa 3#7 aj) (cY<|by decide) (λs H C d c=>⟨λe b=>(bZ (i:=0) (show Wl (["number","rooms"]:cr) from by decide) rfl 0#5),gi,(ao 1#7<|dv 0)⟩) ⟨rfl,rfl⟩ rfl rfl rfl rfl) aj)
 aq)))))
def kZ(T:Txt K mg t):fP P w K mg base CX0 1 (t.A 45) (t.Q 45) ["turns","first"] (spD K 2 m_fewest_turns) "fewest_turns" (top 70) :=
 oD T.g sc (i:=45) rfl λ_ _ _ _ _ _ _ a=>(
 (ah (Mp (i:=2) (nd 45) rfl 0#5 (FY 1#7<|aQ aj))
 (ah (jj (i:=3) (nd 45) rfl 0#5 (fF<|aa 1#7 aj))
 (ah (lZ _ Wg (aO (fA a.units) ja 3#7 (aQ aj) nm)
 (ah (Bz (i:=4) (j:=3) (nd 45) rfl 0#5 rfl 0#5 ai)
 (ah (l4 Wg rfl 0#7 (bZ (i:=5) (nd 45) rfl 0#5) dS
 (ah (bQ (DW.dt<|qR (aO (cN a.units) dP (jP<|dv 5) 4#7 nm)<|gI<|aO (Ft<|un1 a.units) Fy (jP<|dv 5) 2#7 rfl)
 (ah (JE (i:=2) (un1 a.units) rfl 0#5 (zL (zN (un1 a.units) 2#7<|dv 4)<|aQ<|aa 5#7 aj) (jP<|dv 5))
 (ah (bW (i:=3) rfl 0#5 (jP<|dv 5))
 aq))
 aq)
 aq))
 aq)))
 (ah (aP<|dv 2)
 aq)))))
def xh(T:Txt K mg t):fP P w K mg base CX0 1 (t.A 46) (t.Q 46) ["amounts","turns","more"] (spD K 3 m_sent_along) "sent_along" (top 72) :=
 oD T.g sc (i:=46) rfl λ_ _ _ _ _ _ _ _=>(
 (ah (jj (i:=3) (nd 46) rfl 0#5 (Mq rfl T.n_list (aa 0#7 aj)))
 (ah (l4 Wg rfl 1#7 (bZ (i:=4) (nd 46) rfl 0#5) dS
 (ah (Mo (i:=3) rfl 0#5 (aT (ao 3#7<|jP<|dv 4)<|fG (jP<|dv 4)<|dv 2) (jP<|dv 4))
 aq))
 (ah (aP<|dv 3)
 aq))))
def xj(T:Txt K mg t):fP P w K mg base CX0 1 (t.A 47) (t.Q 47) ["turns"] (spD K 1 m_least_room) "least_room" (top 71) :=
 oD T.g sc (i:=47) rfl λ_ _ _ _ H _ _ _=>(
 (ah (aP<|aU (F8 rfl) ME rfl T.n_min PyProof.Rows.Boot.«min» (aa (ka<|kc ["turn"] 1 [] rfl (eM<|dv 0) (cY<|by decide) (λs H C c b=>⟨λd a=>(bZ (i:=0) (show Wl (["turn"]:cr) from by decide) rfl 0#5),(iI<|aO sX sY (jP<|dv 0) bF nm),(jP<|dv 0)⟩) ⟨rfl,rfl⟩ rfl rfl rfl rfl) aj))
 aq))
def xa(T:Txt K mg t):fP P w K mg base CX0 3 (t.A 48) (t.Q 48) ["web","rooms","taken","amounts"] (spD K 4 m_turns_left) "turns_left" (top 75) :=
 oD T.g sc (i:=48) rfl λ_ _ _ _ H _ _ a=>(
 (ah (jj (i:=4) (nd 48) rfl 0#5 (fF aj))
 (ah (mQ Wg rfl (iJ rfl T.n_enumerate (ao 0#7<|aS T.jm rfl)) (ip rfl (br (i:=5) (nd 48) rfl 0#5 (br (i:=6) (nd 48) rfl 0#5 eN))) gz
 (ah (bQ (aO (fY a.units) gf 5#7 2#7 rfl)
 (ah (aG (i:=7) (nd 48) rfl 0#5 (p7 (aO (cN a.units) dP (ao 6#7<|aS T.nU rfl) bE nm) (ao 3#7<|dv 5)<|aT (ao 1#7<|dv 5)<|ao 3#7<|dv 5))
 (ah (bW (i:=4) rfl 0#5 (JM T.Em ((yc T).mono (by decide:1<=1)) a rfl T.Ey T.sU.ns T.tK T.sU.recC AJ (aa 5#7<|aa ai<|aa (ao 6#7<|aS T.nk rfl)<|aa (ao 6#7<|aS T.gT rfl)<|aa ai<|aa (qT (ao 1#7<|dv 5)<|ao 3#7<|dv 5) aj)))
 (ah (bW (i:=4) rfl 0#5 (JM T.Em ((yc T).mono (by decide:1<=1)) a rfl T.Ey T.sU.ns T.tK T.sU.recC AJ (aa 5#7<|aa (jO ai)<|aa (ao 6#7<|aS T.gT rfl)<|aa (ao 6#7<|aS T.nk rfl)<|aa ai<|aa 7#7 aj)))
 aq)))
 aq)
 aq))
 (ah (aP<|ka<|kc ["turn"] 1 [] rfl (eM<|dv 4) (cY<|by decide) (λs H C d c=>⟨λe b=>(bZ (i:=0) (show Wl (["turn"]:cr) from by decide) rfl 0#5),(iI<|aO AM (c9 λ_ _ _ _=>rb _) (jP<|dv 0) ai nm),0#7⟩) ⟨rfl,rfl⟩ rfl rfl rfl rfl)
 aq))))
def w6(T:Txt K mg t):nX P w K mg base CX0 4 (xr "most_flow") oH :=
 zt (k:=3) T.lm_most_flow.lk zo (λ_ _ _ _ d c=>by obtain⟨_,rfl⟩:=TC c;rfl) λf e a A outer s H b=>(
 (rC (xa T) b<|aa 1#7<|aa (ao 3#7 ai)<|aa 2#7<|aa 0#7 aj))
def uI(T:Txt K mg t):kY P w K mg base CX0 4 lt_filled:=(FC ((w6 T).mono<|by decide) IP)
def Fw(T:Txt K mg t):fP P w K mg base CX0 5 (t.A 49) (t.Q 49) ["turns_with","amounts","first","last"] (spD K 4 m_filled) "filled" (top 69) :=
 oD T.g sc (i:=49) rfl λ_ _ _ _ _ _ _ a=>(
 (ah (aG (i:=4) (nd 49) rfl 0#5 (rC (kZ T) a<|aa (BF (uI T) a rfl 0#5 (aa 1#7 aj))<|aa 2#7 aj))
 (ah (lZ _ Wg (aO (Ir<|un1 a.units) Iv 3#7 4#7 rfl)
 (ah (aG (i:=1) (nd 49) rfl 0#5 (rC (xh T) a<|aa 1#7<|aa (zN (un1 a.units) 4#7<|dv 3)<|aa (rC (xj T) a<|aa (zN (un1 a.units) 4#7<|dv 3) aj) aj))
 (ah (aG (i:=4) (nd 49) rfl 0#5 (rC (kZ T) a<|aa (BF (uI T) a rfl 0#5 (aa 1#7 aj))<|aa 2#7 aj))
 aq)))
 (ah (aP<|aK<|aa 1#7<|aa 4#7 aj)
 aq))))
def zh(T:Txt K mg t):fP P w K mg base (fR P w) 8 (t.A 50) (t.Q 50) ["web","rooms","taking"] (spD K 3 m_most_flow) "most_flow" (top 74) :=
 UN T.g sc (i:=50) rfl λ_ b _ _ _ H _ _ a=>(
 (ah (dY<|rC (gC T) a<|aa 0#7<|aa 1#7 aj)
 (ah (dY<|rC (fZ T) a<|aa 0#7<|aa 2#7 aj)
 (ah (aG (i:=3) (nd 50) rfl (Ym rfl) (rC (ij T) a<|aa 1#7 aj))
 (ah (kN (i:=4) (nd 50) rfl rfl fN (kc ["room"] 1 [] rfl (eM<|dv 1) (cY<|by decide) (λs H C e d=>⟨λf c=>(bZ (i:=0) (show Wl (["room"]:cr) from by decide) rfl 0#5),gi,ai⟩) ⟨rfl,rfl⟩ rfl rfl rfl rfl))
 (ah (aG (i:=5) (nd 50) rfl (Ym rfl) (JP (Fw T) a T.lm_most_flow MG (MU (F:=iG) T.lm_most_flow b<|aa 4#7<|aa (ao 0#7<|aS T.jE rfl)<|aa (ao 0#7<|aS T.nV rfl) aj)<|Qc<|Qc<|Qc U0))
 (ah (kN (i:=6) (nd 50) rfl rfl fN (kc ["place","found"] 1 [5] rfl (eM<|ao 0#7<|aS T.fj rfl) (cY<|by decide) (λs H C e d=>⟨λf c=>(bZ (i:=0) (show Wl (["place","found"]:cr) from by decide) rfl 0#5),(iI<|aO (Ir<|un1 a.units) Iv 0#7 (ao 1#7 ai) rfl),0#7⟩) ⟨rfl,rfl⟩ rfl rfl rfl rfl))
 (ah (aP<|aK<|aa (ka<|kc ["amount","scaled"] 1 [3] rfl (eM<|ao 5#7 ai) (cY<|by decide) (λs H C e d=>⟨λf c=>(bZ (i:=0) (show Wl (["amount","scaled"]:cr) from by decide) rfl 0#5),gi,(rC (uz T) a<|aa 0#7<|aa (ao 1#7 ai) aj)⟩) ⟨rfl,rfl⟩ rfl rfl rfl rfl)<|aa 6#7 aj)
 aq))))))))
def zj(T:Txt K mg t):fP P w K mg base (fR P w) 7 (t.A 51) (t.Q 51) ["web","flow"] (spD K 2 m_amount_of) "amount_of" (top 64) :=
 oE T.g sc (i:=51) rfl λ_ _ _ _ _ _ _ a=>(
 (ah (dY<|rC (i8 T) a<|aa 0#7 aj)
 (ah (aG (i:=2) (nd 51) rfl 0#5 (rC (ij T) a<|aa 1#7 aj))
 (ah (aP<|rC (uz T) a<|aa (rC (oC T) a<|aa 0#7<|aa (ao 2#7 ai)<|aa (ao 0#7<|aS T.jE rfl) aj)<|aa (ao 2#7 ai) aj)
 aq))))
def xq(T:Txt K mg t):fP P w K mg base CX0 9 (t.A 52) (t.Q 52) ["_law_asked_here","_law_things"] (spD K 2 cC) "_law_asked" (top 90) :=
 oD T.g sc (i:=52) rfl λ_ _ _ _ _ _ _ a=>(
 (ah (aG (i:=2) (nd 52) rfl 0#5 bF)
 (ah (PD ⟨rfl,rfl⟩ (GZ (aO (cN a.units) dP 0#7 ai nm) (rD (sG T) a<|aa (ao 1#7 ai)<|aa (ao 1#7 ai)<|aa (ao 1#7 ai)<|aa (ao 1#7 ai) aj)<|GZ (aO (cN a.units) dP 0#7 ai nm) (rD (CF T) a<|aa (ao 1#7 ai)<|aa (ao 1#7 ai)<|aa (ao 1#7 ai)<|aa (ao 1#7 ai) aj)<|GZ (aO (cN a.units) dP 0#7 ai nm) (rD (zh T) a<|aa (ao 1#7 ai)<|aa (ao 1#7 ai)<|aa (ao 1#7 ai) aj)<|rD (zj T) a<|aa (ao 1#7 ai)<|aa (ao 1#7 ai) aj) rfl T.kL (sL T) (nd 52) rfl rfl (λb=>(ah (aG (i:=2) (nd 52) rfl 0#5 3#7)
 aq)))
 (ah (aP<|dv 2)
 aq))))
def zk(T:Txt K mg t):fP P w K mg base CX0 1 (t.A 53) (t.Q 53) ["_law_caught"] (spD K 1 cS) "_law_kind" (top 91) :=
 oD T.g sc (i:=53) rfl λ_ _ _ _ _ _ _ a=>(
 (ah (bQ (DW.dt<|eX (cg<|cf<|FZ rfl T.n_ValueError PyProof.Rows.Boot.«ValueError» (Hd T) rfl T.n_isinstance 0#7)<|bN<|cf<|iT rfl T.oO (Hc T) rfl T.n_isinstance 0#7)
 (ah (aP bF)
 aq)
 aq)
 (ah (aG (i:=1) (nd 53) rfl 0#5 (aQ<|aa (iT rfl T.jA (G7 T) rfl T.n_isinstance 0#7)<|aa (iT rfl T.ye (G8 T) rfl T.n_isinstance 0#7)<|aa (iT rfl T.kK (G9 T) rfl T.n_isinstance 0#7) aj))
 (ah (aG (i:=1) (nd 53) rfl 0#5 (aT 1#7<|aQ<|aa (iT rfl T.uY (G5 T) rfl T.n_isinstance 0#7)<|aa (iT rfl T.oP (G6 T) rfl T.n_isinstance 0#7) aj))
 (ah (bQ (aO (fA a.units) ja (JN a.units 1#7 fg) ai nm)
 (ah (aP bF)
 aq)
 aq)
 (ah (aP<|wb a.units 1#7 fg)
 aq))))))
def xm(T:Txt K mg t):fP P w K mg base CX0 1 (t.A 54) (t.Q 54) ["_law_web_here","_law_way"] (spD K 2 dJ) "_law_where" (top 86) :=
 oD T.g sc (i:=54) rfl λ_ _ _ _ _ _ _ _=>(
 (ah (aG (i:=2) (nd 54) rfl 0#5 (ao (aQ<|aa bF<|aa (aU bC cz rfl T.n_len PyProof.Rows.Boot.«len» (aa (ao 0#7 ai) aj)) aj)<|gk mU zS rfl T.n_int PyProof.Rows.Boot.«int» (aa (dk ux (c9 λ_ _ _ _=>rb _) (aU bC cz rfl T.n_len PyProof.Rows.Boot.«len» (aa (ao 0#7 ai) aj)) ai nm) aj)))
 (ah (aG (i:=3) (nd 54) rfl 0#5 (ao (aQ<|aa bF<|aa (aU bC cz rfl T.n_len PyProof.Rows.Boot.«len» (aa (ao 0#7 ai) aj)) aj)<|gk mU zS rfl T.n_int PyProof.Rows.Boot.«int» (aa (dk ux (c9 λ_ _ _ _=>rb _) (aU bC cz rfl T.n_len PyProof.Rows.Boot.«len» (aa (ao 0#7 ai) aj)) ai nm) aj)))
 (ah (aG (i:=4) (nd 54) rfl 0#5 (aT (aT (kO (fF<|aa (aK<|aa bE<|aa bF aj) aj) ai)<|kO (fF<|aa (aK<|aa bE<|aa bF aj) aj) ai)<|aQ<|aa (aK<|aa bE<|aa 2#7 aj)<|aa (aK<|aa bE<|aa bF aj) aj))
 (ah (aG (i:=4) (nd 54) rfl 0#5 (aT 4#7<|aQ<|aa (aK<|aa bE<|aa 3#7 aj)<|aa (aK<|aa bE<|aa bF aj)<|aa (aK<|aa bE<|aa 3#7 aj)<|aa (aK<|aa bE<|aa bF aj) aj))
 (ah (aG (i:=4) (nd 54) rfl 0#5 (aT 4#7<|aQ<|aa (aK<|aa bE<|aa 3#7 aj)<|aa (aK<|aa bE<|aa bF aj)<|aa (aK<|aa bE<|aa 3#7 aj)<|aa (aK<|aa bE<|aa bF aj) aj))
 (ah (aP<|ao 4#7<|dv 1)
 aq)))))))
def ok_law(T:Txt K mg t):fP P w K mg base CX0 10 (t.A 55) (t.Q 55) ["_law_script"] (spD K 1 m_law) "law" (top 92) :=
 oD T.g sc (i:=55) rfl λ_ _ _ _ H _ _ a=>(
 (ah (aG (i:=1) (nd 55) rfl 0#5 (rC (AQ T) a<|aa 0#7 aj))
 (ah (aG (i:=2) (nd 55) rfl 0#5 (rC (xo T) a<|aa 0#7 aj))
 (ah (l4 Wg rfl (aT (ao (rC (jM T) a<|aa 0#7 aj) ai)<|aQ<|aa ai aj) (bZ (i:=3) (nd 55) rfl 0#5) dS
 (ah (aG (i:=4) (nd 55) rfl (Ym rfl) (rC (eZ T) a<|aa 3#7<|aa (aQ<|aa ai<|aa ai<|aa ai<|aa ai<|aa ai<|aa ai<|aa ai<|aa ai<|aa ai<|aa ai<|aa ai aj) aj))
 (ah (aG (i:=5) (nd 55) rfl (Ym rfl) (ao 4#7 ai))
 (ah (jj (i:=6) (nd 55) rfl 0#5 (fF<|aa 1#7<|aa 2#7<|aa (aQ aj)<|aa (ao (aQ<|aa (aQ<|aa (ao 1#7 ai) aj)<|aa (kO (fF<|aa (aK<|aa ai<|aa ai aj) aj)<|aU bC cz rfl T.n_len PyProof.Rows.Boot.«len» (aa (ao 1#7 ai) aj)) aj)<|gk mU zS rfl T.n_int PyProof.Rows.Boot.«int» (aa (EF (dk (cN a.units) dP 5#7 ai nm)<|gK<|dk (cN a.units) dP 5#7 ai nm) aj)) aj))
 (ah (kN (i:=7) (nd 55) rfl rfl fN (kc ["_law_k","_law_d","_law_asked_here"] 1 [4,5] rfl (yj rfl T.n_range ai) (cY<|by decide) (λs H C d c=>⟨λe b=>(bZ (i:=0) (show Wl (["_law_k","_law_d","_law_asked_here"]:cr) from by decide) rfl 0#5),gi,(jQ (dk (cN a.units) dP (ao 1#7<|aT ai<|dv 0) ai nm)<|jQ (EF (dk (fA a.units) ja 2#7 ai nm)<|gK<|dk (cN a.units) dP 0#7 ai nm)<|gK<|EF (dk (fA a.units) ja 2#7 ai nm)<|gK<|dk ux (c9 λ_ _ _ _=>rb _) 0#7 ai nm)⟩) ⟨rfl,rfl⟩ rfl rfl rfl rfl))
 (ah (jj (i:=8) (nd 55) rfl 0#5 (fF<|aa (rC (sH T) a<|aa 1#7<|aa (ao 4#7 ai) aj)<|aa (rC (oF T) a<|aa 2#7<|aa (bO 4#7 (bU ai) dw) aj)<|aa (rC (nD T) a<|aa 1#7<|aa (ao 4#7 ai) aj) aj))
 (ah (bW (i:=8) rfl 0#5 (rC (qL T) a<|aa 1#7<|aa 5#7<|aa (ao 4#7 ai) aj))
 (ah (zK Wg rfl rfl T.n_range ai (bZ (i:=9) (nd 55) rfl 0#5) dS
 (ah (bQ (cf<|ao 7#7<|dv 9)
 (ah (Di 8<|PF (i:=6) rfl 0#5 (ao 8#7<|dv 9) 9#7)
 aq)
 aq)
 aq))
 (ah (Di 6<|aG (i:=10) (nd 55) rfl 0#5 (rC (xq T) a<|aa 5#7<|aa 6#7 aj))
 (ah (bQ (aO (fY a.units) gf fg 7#7 rfl)
 (ah (bQ (aO sX sY 10#7 bF nm)
 (ah (aP fg)
 aq)
 aq)
 aq)
 (ah (bQ (aO (fA a.units) ja (rC (zk T) a<|aa 10#7 aj) (aT (wb a.units 7#7 fg)<|gk mU zS rfl T.n_int PyProof.Rows.Boot.«int» (aa (jQ (dk (cN a.units) dP (wb a.units 7#7 fg) ai nm)<|gK<|dk (cN a.units) dP 5#7 ai nm) aj)) nm)
 (ah (aP fg)
 aq)
 (ah (bQ (DW.dt<|qR (cf<|ao 7#7 ai)<|gI<|aO (fA a.units) ja (aK<|aa (EG (C8 T)<|dv 10)<|aa (EG (zC T)<|dv 10) aj) (rC (xm T) a<|aa 1#7<|aa (ao 4#7 ai) aj) nm)
 (ah (aP fg)
 aq)
 aq)
 aq))
 aq))
 aq))))))))))
 (ah (aP fg)
 aq)))))
end
def txt_mk{h:Vu}(X:K.In h)(G:h.Ns Vz mg)(qs:QAs K rows [a0,a1,a2,a3,a4,a5,a6,a7,a8,a9,dx,ds,dp,dn,dh,dg,df,dd,dc,c7,c2,cx,cv,cs,cp,co,cn,cl,ch,ce,cd,cb,ca,b9,b8,b7,b6,b5,b4,b3,b2,b1,b0,bx,bt,bm,bi,be,bd,bb,N,ba,as,ap,al,M])
  
  (D7:WC K Vz "Turn"=Wp (Wp<|.ref a)) (Lc:WH K (.ref a) "__init__"=Wp (Wp<|.ref jz)) (Lb:W.isFn K (.ref jz)=VO) (D6:K.lookup jz=Wp ⟨RB,Rz,.func<|X6 "__init__" "Turn.__init__" (defArgs mB) (defBody mB) (defScope mB) .none RJ R4 Rn Sa JS R7,QY⟩) (D5:ZR K JS "Turn.__init__"=VO) (D4:Yx K (.ref jz)=VO) (La:W.makesIn K a=VO) (K9:Yx K (.ref a)=VO) (HD:Zm K a Str.empty=VO) (HG:Xq K a=VO) (HC:ZJ K a=VO) (HB:WH K (.ref a) "__setattr__"=Wp (Wp<|.builtin "object.__setattr__")) (HI:WH K (.ref a) "__class__"=Wp (Wp<|.builtin "object.__class__")) (HH:YR K (.builtin "object.__class__") "__get__"=Wp (Wp<|.builtin "getset_descriptor.__get__")) (Hs:Z8 K (.builtin "object.__class__")=Wp VO) (HF:sah K a (.type "object")=Wp VO) (HA:Xf K (.ref a) (.type "NoneType")=Wp Vd) (Hz:Xf K (.ref a) (.type "bool")=Wp Vd) (Hy:Xf K (.ref a) (.type "int")=Wp Vd) (Hw:Xf K (.ref a) (.type "str")=Wp Vd) (Hv:Xf K (.ref a) (.type "tuple")=Wp Vd) (Hu:Xf K (.ref a) (.type "list")=Wp Vd) (Ht:Xf K (.ref a) (.type "dict")=Wp Vd) (ue:WH K (.ref a) "number"=Wp Wb) (yV:WH K (.ref a) "sign"=Wp Wb) (yX:WH K (.ref a) "here"=Wp Wb) (wZ:WH K (.ref a) "there"=Wp Wb) (yY:WH K (.ref a) "cost"=Wp Wb) (yW:WH K (.ref a) "room"=Wp Wb)
  (lx_most_flow:Kb K N (xr "most_flow") iG)
  (c:WC K Vz "ValueError"=Wp Wb)
  (C:WC K Vz "abs"=Wp Wb)
  (B:WC K Vz "all"=Wp Wb)
  (l:WC K Vz "bool"=Wp Wb)
  (d:WC K Vz "enumerate"=Wp Wb)
  (z:WC K Vz "int"=Wp Wb)
  (b:WC K Vz "isinstance"=Wp Wb)
  (y:WC K Vz "len"=Wp Wb)
  (j:WC K Vz "list"=Wp Wb)
  (x:WC K Vz "min"=Wp Wb)
  (g:WC K Vz "range"=Wp Wb)
  (w:WC K Vz "str"=Wp Wb)
  (f:WC K Vz "tuple"=Wp Wb)
  (v:WC K Vz "zip"=Wp Wb)
  (rN:kr K "CutError" e)
  (T:qt K "NoFlow" o)
  (Y:qv K "NoRooms" q)
  (U:qv K "NoSide" u)
  (jv:qv K "NoTaking" s)
  (O:qt K "NoWeb" m)
  (gO:qt K "Unbalanced" p)
  (EZ:XQ K "NoFlow.__init__" o e mI qG ["at"])
  (GF:XQ K "NoWeb.__init__" m e oN ub ["part","number"])
  (wW:XQ K "Unbalanced.__init__" p e gR jI ["place"])
  (kA:Zt K e [.type "ValueError",.type "Exception",.type "BaseException",.type "object"] "ValueError.__new__"=VO) (yJ:W.readsIn K e (.type "type")=VO) (yL:W.findCls K (.ref e) (.type "type") "__init__"=Wp (.val<|.builtin "ValueError.__init__")) (yI:YR K (.ref e) "__getattribute__"=Wp (Wp<|.builtin "type.__getattribute__"))
  (Io:Sb K o [e,o,q,u,s,m,p] [VO,VO,Vd,Vd,Vd,Vd,Vd])
  (Fo:Sb K q [e,o,q,u,s,m,p] [VO,Vd,VO,Vd,Vd,Vd,Vd])
  (Im:Sb K u [e,o,q,u,s,m,p] [VO,Vd,Vd,VO,Vd,Vd,Vd])
  (CB:Sb K s [e,o,q,u,s,m,p] [VO,Vd,Vd,Vd,VO,Vd,Vd])
  (Lz:Sb K m [e,o,q,u,s,m,p] [VO,Vd,Vd,Vd,Vd,VO,Vd])
  (ze:Sb K p [e,o,q,u,s,m,p] [VO,Vd,Vd,Vd,Vd,Vd,VO])
  (sA:WC K Vz "FEWEST_PLACES"=Wp (Wp<|.int 2 Gv))
  (Kv:WC K Vz "FIRST"=Wp (Wp<|.int 2 Sy))
  (NR:WC K Vz "LAST"=Wp (Wp<|.int 3 S0))
  (GD:WC K Vz "LENGTH"=Wp (Wp<|.int 3 QG))
  (EY:WC K Vz "LETTERS"=Wp (Wp<|.str "abcdefghijklmnopqrstuvwxyz" Ql))
  (tQ:WC K Vz "LONGEST_NAME"=Wp (Wp<|.int 8 Hf))
  (wV:WC K Vz "MOST_PLACES"=Wp (Wp<|.int 7 Kk))
  (Ah:WC K Vz "MOST_TIES"=Wp (Wp<|.int 14 Nh))
  (GC:WC K Vz "NOUGHT"=Wp (Wp<|.ref HQ)) (GK:K.lookup HQ=Wp Iw) (GP:∃L its n J vs,Iw=⟨.type "tuple",L,.seq its n,J⟩/\bh vs its.toList/\its.size<=sizeLine/\∀H,Reps K H [.int 0,.int 1] vs)
  (Qy:WC K Vz "ONE"=Wp (Wp<|.int 0 Ue))
  (Ku:WC K Vz "OTHER"=Wp (Wp<|.int 1 Sx))
  (GB:WC K Vz "PLACES"=Wp (Wp<|.int 0 QF))
  (NQ:WC K Vz "TIES"=Wp (Wp<|.int 1 SY))
  (NP:WC K Vz "WORD"=Wp (Wp<|.int 2 SX))
  (Kt:WC K Vz "WORDS"=Wp (Wp<|.ref Ld)) (KH:K.lookup Ld=Wp LM) (KN:∃L its n J vs,LM=⟨.type "tuple",L,.seq its n,J⟩/\bh vs its.toList/\its.size<=sizeLine/\∀H,Reps K H [.str "one",.str "both"] vs)
  (Ks:WC K Vz "WORTH"=Wp (Wp<|.int 4 Sw)) :
  ∃t:Adr,Txt K mg t/\t.A 55=M/\∃kV doc pm an ab ct,t.Q 55=X6 "law" "law" (defArgs<|top 92) (defBody<|top 92) (defScope<|top 92) .none kV doc pm an ab ct:=by
 obtain⟨mH,J8⟩:=SU (ps:=["self","at"]) (λF=>F.binds λ_ _ _ _ _ _ us E=>by obtain⟨_,_,rfl⟩:=SE E;rfl) EZ kA;obtain⟨oM,M3⟩:=SU (ps:=["self","part","number"]) (λF=>F.binds λ_ _ _ _ _ _ us E=>by obtain⟨_,_,_,rfl⟩:=Tz E;rfl) GF kA;obtain⟨gQ,zZ⟩:=SU (ps:=["self","place"]) (λF=>F.binds λ_ _ _ _ _ _ us E=>by obtain⟨_,_,rfl⟩:=SE E;rfl) wW kA;obtain⟨Q,hQ⟩:=Nd X G bn qs;have I:=(hQ 55 _ rfl).2;refine⟨⟨mI,mH,oN,oM,gR,gQ,a,jz,_,e,o,q,u,s,m,p,λi=>[a0,a1,a2,a3,a4,a5,a6,a7,a8,a9,dx,ds,dp,dn,dh,dg,df,dd,dc,c7,c2,cx,cv,cs,cp,co,cn,cl,ch,ce,cd,cb,ca,b9,b8,b7,b6,b5,b4,b3,b2,b1,b0,bx,bt,bm,bi,be,bd,bb,N,ba,as,ap,al,M].getD i 0,Q⟩,⟨λi r h=>(hQ i r h).1,FE (hQ 50 _ rfl).1.F lx_most_flow,WR X G c,WR X G C,WR X G B,WR X G l,WR X G d,WR X G z,WR X G b,WR X G y,WR X G j,WR X G x,WR X G g,WR X G w,WR X G f,WR X G v,WZ X G D7,uZ D6 D5 D4,?tK,⟨La,Lc,Lb,K9⟩,K7 D7 HD HG HC HB HI HH Hs HF HA Hz Hy Hw Hv Hu Ht<|noL_cons ue ( noL_cons yV ( noL_cons yX ( noL_cons wZ ( noL_cons yY ( noL_cons yW<|noL_nil))))),WZ X G rN.ns,rN,WZ X G T.i.ns,T.i,WZ X G Y.i.ns,Y.i,WZ X G U.i.ns,U.i,WZ X G jv.i.ns,jv.i,WZ X G O.i.ns,O.i,WZ X G gO.i.ns,gO.i,T,Y,U,jv,O,gO,J8,M3,zZ,⟨yJ,yL,yI⟩,(SR T Io<|SS Y Fo<|SS U Im<|SS jv CB<|SR O Lz<|SR gO ze NT),?ir,?jE,?nV,?wy,?rl,?jo,?jS,?md,?qf,?nk,?gT,?fj,?jm,?nU,?zT,?tJ⟩,rfl,I⟩
 case tK=>exact(uZ (st:=mB) D6 D5 D4).binds λ_ _ _ _ _ _ us E=>by obtain⟨_,_,_,_,_,_,_,rfl⟩:=UP E;rfl
 case ir=>exact eJ<|WZ X G sA
 case jE=>exact eJ<|WZ X G Kv
 case nV=>exact eJ<|WZ X G NR
 case wy=>exact eJ<|WZ X G GD
 case rl=>exact LZ<|WZ X G EY
 case jo=>exact eJ<|WZ X G tQ
 case jS=>exact eJ<|WZ X G wV
 case md=>exact eJ<|WZ X G Ah
 case qf=>
  obtain⟨L,its,n,J,vs,rfl,h1,h2,h3⟩:=GP;exact Eo (WZ X G GC) GK h1 h2 h3
 case nk=>exact eJ<|WZ X G Qy
 case gT=>exact eJ<|WZ X G Ku
 case fj=>exact eJ<|WZ X G GB
 case jm=>exact eJ<|WZ X G NQ
 case nU=>exact eJ<|WZ X G NP
 case zT=>
  obtain⟨L,its,n,J,vs,rfl,h1,h2,h3⟩:=KN;exact Eo (WZ X G Kt) KH h1 h2 h3
 case tJ=>exact eJ<|WZ X G Ks
def txt_wr{R:Adr->Prop}(h:∃t:Adr,Txt K b t/\t.A 55=a/\R t):∃t:Adr,Txt K b t/\b "law"=Wp (.ref<|t.A 55)/\R t:=h.elim λt ⟨T,_,r⟩=>⟨t,T,(T.g 55 _ rfl).g,r⟩
end K37
namespace Flo
open PySem L2 DL Com
open K11 (cO)
structure Tn where
 n:Int
 sg:Int
 a:Vq
 b:Vq
 c:Int
def iA(t:Tn):D:=.ob (.ins "Turn" ["number","sign","here","there","cost","room"]) [.int t.n,.int t.sg,.str t.a,.str t.b,.int 0,.int t.c]
def TU:gr "number" (iA t)=.ok (.int t.n):=rfl
def TR:gr "sign" (iA t)=.ok (.int t.sg):=rfl
def Pr:gr "here" (iA t)=.ok (.str t.a):=rfl
def Pq:gr "there" (iA t)=.ok (.str t.b):=rfl
def Me:gr "room" (iA t)=.ok (.int t.c):=rfl
abbrev wH:=Vq×List Tn
def pD(p:List Tn):D:=.lst<|p.map iA
def fB(F:List wH):D:=.dic (F.map (·.1))<|F.map λe=>pD e.2
def dQ(F:List wH)(k:Vq):Option (List Tn):=(F.find? λe=>decide (e.1=k)).map (·.2)
theorem tM{k:Vq}:∀{F:List wH},Af (F.map (·.1)) (F.map λe=>pD e.2) k=(dQ F k).map pD
 |[]=>rfl
 |e::F=>by
  rw[Vf,Vf,Af];unfold dQ
  by_cases h:e.1=k
  .rw[ef h,List.find?_cons_of_pos<|by exact dV h];rfl
  .rw[eo h,List.find?_cons_of_neg (by simpa using h),tM];rfl
def mJ{k:Vq}:dQ F k=Wb↔k∉F.map (·.1):=by
 unfold dQ;rw[Option.map_eq_none_iff,List.find?_eq_none];constructor
 .intro h z
  obtain⟨e,a,b⟩:=VD.mp z;exact h e a<|dV b
 .intro h e a z
  exact h<|VD.mpr ⟨e,a,et z⟩
def uX{k:Vq}(h:dQ F k=Wp p):(k,p)∈F:=by
 unfold dQ at h;rw[Yn]at h;obtain⟨e,a,b⟩:=h;have:=List.find?_some a;simp at this;rw[←this,←b];exact List.mem_of_find?_eq_some a
def Pm{k:Vq}:zP (.str k) (fB F)=.ok (.bl (dQ F k).isSome):=by
 show aw.ok (D.bl (Af _ _ k).isSome)=_;rw[tM];cases dQ F k<;>rfl
def RP{k:Vq}:kQ (.str k) (fB F)=.ok (.bl (!(dQ F k).isSome)):=by
 show aw.ok (D.bl (!(Af _ _ k).isSome))=_;rw[tM];cases dQ F k<;>rfl
def RQ{k:Vq}(h:dQ F k=Wp p):l6 (fB F) (.str k)=.ok (pD p):=by
 show(match Af _ _ k with|some d=>aw.ok d|none=>.stuck)=_;rw[tM,h];rfl
theorem Jh:∀(p:List Tn),instFs (p.map iA)=VO
 |[]=>rfl
 |t::p=>by rw[Vf,instFs,Jh];rfl
def HR{k:Vq}(h:dQ F k=Wb):Fh (F.map (·.1)) (F.map λe=>pD e.2) k (pD p)=fB (F++[(k,p)]):=by
 unfold Fh;rw[eo (mJ.mp h)];unfold fB;rw[VX,VX];rfl
def EM(h:Vq)(st:List wH×cr)(t:Tn):List wH×cr :=
 if t.a=h/\dQ st.1 t.b=Wb then(st.1++[(t.b,((dQ st.1 h).getD [])++[t])],st.2++[t.b]) else st
noncomputable abbrev iB:ci :=
 (ar (dG (gm (ag (aL 5#6<|gr "here") 4#6 gZ)<|ag (aL 5#6<|gr "there") 2#6 kQ)
 (ar (yS 2 (ag (ag 2#6 4#6 l6) (ak (ae 5#6 av) aZ) nS)<|aL 5#6<|gr "there")
 (ar (bP 3<|aL 5#6<|gr "there")
 au))
 au)
 au)
section
variable {s0 s1 s2 s3 s4 s5:Sl}{f k:bv}{ks:cr}{ds es:ac}{ρ:Ev}{i:Nat}
def Mj:yS 2 f k [s0,s1,.ow<|.dic ks ds,s3,s4,s5]=(f<|fQ [s0,s1,.ow<|.dic ks ds,s3,s4,s5]).bind (rE k 2 [s0,s1,.ow<|.dic ks ds,s3,s4,s5] ks ds):=rfl
def JC(h:instFs es=VO):rE k i ρ ks ds (.lst es)=(k ρ).bind (rF i ρ ks ds<|.lst es):=ef h
def Pu(h:decide (ds.length+es.length<=999)=VO):nS (.lst ds) (.lst es)=.ok (.lst<|ds++es):=ef (Vr (et h)<|by decide)
end
def Pj{h:Vq}(f:dQ F h=Wp p)(l:F.length<=900)(u:p.length<=900)(s:W.length<=900) :
  iB [.sh T,.sh Fi,.ow<|fB F,.ow<|.lst<|W.map D.str,.sh<|.str h,.sh<|iA t]=.ok (.nx [.sh T,.sh Fi,.ow<|fB (EM h (F,W) t).1,.ow<|.lst<|(EM h (F,W) t).2.map D.str,.sh<|.str h,.sh<|iA t]):=by
 unfold EM
 by_cases d:t.a=h
 .cases e:dQ F t.b with
  |some q=>
   have c:kQ (.str t.b) (fB F)=.ok (.bl Vd):=by rw[RP,e];rfl
   rw[eo (by rintro⟨_,z⟩;cases z)];unfold fB at c ⊢;erw[Pr,Pq,cO,c,dV d]
  |none=>
   have c:kQ (.str t.b) (fB F)=.ok (.bl VO):=by rw[RP,e];rfl
   have j:l6 (fB F) (.str h)=.ok (.lst<|p.map iA):=RQ f;have i:nS (.lst<|p.map iA) (.lst [iA t])=.ok (pD<|p++[t]):=by
    rw[Pu (dV (by simp;omega))];unfold pD;rw[VX];rfl
   have o:instFs ((p++[t]).map iA)=VO:=Jh _;have g:=HR (p:=p++[t]) e;have n:decide ((F.map (·.1)).length<=900)=VO:=dV (by rw[U8];exact l);have m:decide ((W.map D.str).length<=999)=VO:=dV (by rw[U8];omega);have r:(W++[t.b]).map D.str=W.map D.str++[.str t.b]:=by rw[VX];rfl
   rw[ef ⟨d,rfl⟩,f];unfold fB pD at c j i g;unfold fB pD;erw[Pr,Pq,cO,c,dV d,Mj,j,i,JC o,Pth.ed_put3 n,g,du m,r,Xw]
 .rw[eo (by rintro⟨z,_⟩;exact d z)]
  unfold fB;erw[Pr,Pq,cO,en d]
end Flo
namespace K54
open PySem L2 DL Com Pth
open K51 (comp_pick)
open K11 (ways)
def oQ{b:Type}(g:b->D)(P:List b->Ev->Prop){L:List b}(h:∀pre a post,L=pre++a::post->∀ρ,P pre ρ->∃ρ1 ρ2,tg ρ (g a)=.ok ρ1/\body ρ1=.ok (.nx ρ2)/\P (pre++[a]) ρ2)(n:P [] ρ):∃ρ',bT tg body (L.map g) ρ=.ok (.nx ρ')/\P L ρ':=by
 have key:∀(post pre:List b) (ρ:Ev),L=pre++post->P pre ρ->∃ρ',bT tg body (post.map g) ρ=.ok (.nx ρ')/\P L ρ':=by
  intro post
  induction post with
  |nil=>intro pre ρ e c;rw[We]at e;subst e;exact⟨ρ,rfl,c⟩
  |cons a post d=>
   intro pre ρ e c;obtain⟨ρ1,ρ2,m,l,j⟩:=h pre a post e ρ c;obtain⟨ρ',i,f⟩:=d (pre++[a]) ρ2 (by rw[e];simp) j;exact⟨ρ',by rw[Vf,dr m l,i],f⟩
 exact key L [] ρ rfl n
def lO{b:Type}(g:b->D)(P:List b->Ev->Prop){L:List b}(h:∀pre a post,L=pre++a::post->∀ρ,P pre ρ->∃ρ1 ρ2,tg ρ (.tup [.int (pre.length:Int),g a])=.ok ρ1/\body ρ1=.ok (.nx ρ2)/\P (pre++[a]) ρ2)(n:P [] ρ):∃ρ',bT tg body (numbered 0<|L.map g) ρ=.ok (.nx ρ')/\P L ρ':=by
 have key:∀(post pre:List b) (ρ:Ev),L=pre++post->P pre ρ->∃ρ',bT tg body (numbered pre.length<|post.map g) ρ=.ok (.nx ρ')/\P L ρ':=by
  intro post
  induction post with
  |nil=>intro pre ρ e c;rw[We]at e;subst e;exact⟨ρ,rfl,c⟩
  |cons a post f=>
   intro pre ρ e c;obtain⟨ρ1,ρ2,m,l,j⟩:=h pre a post e ρ c;obtain⟨ρ',d,i⟩:=f (pre++[a]) ρ2 (by rw[e];simp) j;rw[Vs,WG]at d;exact⟨ρ',by rw[Vf,DL.numbered,dr m l,d],i⟩
 exact key L [] ρ rfl n
end K54
namespace Flo
open PySem L2 DL Com
open K11 (cO)
open K54 (oQ)
def Lk:Vq->List Tn->Vq->Prop
 |a,[],k=>a=k
 |a,t::r,k=>t.a=a/\Lk t.b r k
theorem Lk.snoc:∀{p:List Tn}{a:Vq},Lk a p t.a->Lk a (p++[t]) t.b
 |[],a,h=>⟨h.symm,rfl⟩
 |s::p,a,⟨d,c⟩=>⟨d,Lk.snoc c⟩
structure Bf (ts:List Tn) (fi:Vq) (F:List wH):Prop where
 nd:(F.map (·.1)).Nodup
 rt:(fi,[])∈F
 pl:∀k∈F.map (·.1),k∈fi::ts.map (·.b)
 lk:∀e∈F,Lk fi e.2 e.1
 tk:∀e∈F,∀s∈e.2,s∈ts/\s.b≠fi/\s.b∈F.map (·.1)
 nb:∀e∈F,(e.2.map (·.b)).Nodup
 fa:∀e∈F,∀s∈e.2.tail,s.a≠fi
 nf:∀e∈F,e.1=fi->e.2=[]
 ln:∀e∈F,e.2.length<F.length
section
variable {ts:List Tn}{fi h:Vq}{F:List wH}{p:List Tn}{t:Tn}{W:cr}
def Bf.start:Bf ts fi [(fi,[])]:=by
 have key:∀e∈[((fi,[]):wH)],e=(fi,[]):=λe a=>VL.mp a;refine⟨by simp,by simp,by simp,λe a=>?_,λe a s b=>?_,λe a=>?_,λe a s b=>?_,λe a _=>?_,λe a=>?_⟩
 .rw[key e a];rfl
 .rw[key e a]at b;cases b
 .rw[key e a];exact .nil
 .rw[key e a]at b;cases b
 .rw[key e a]
 .rw[key e a];exact Nat.one_pos
def Bf.len(B:Bf ts fi F):F.length<=ts.length+1:=by
 have:=Cod.nodup_le B.nd B.pl;simpa using this
def Bf.step(B:Bf ts fi F)(x:dQ F h=Wp p)(w:t∈ts)(g:t.a=h)(l:dQ F t.b=Wb):Bf ts fi (F++[(t.b,p++[t])]):=by
 have f:=uX x;have m:=mJ.mp l;have n:(F++[(t.b,p++[t])]).map (·.1)=F.map (·.1)++[t.b]:=by rw[VX];rfl
 have o:fi∈F.map (·.1):=VD.mpr ⟨_,B.rt,rfl⟩;have i:t.b≠fi:=λz=>m<|z▸o;refine⟨?_,Wm _ B.rt,λk j=>?_,λe d=>?_,λe d s c=>?_,λe d=>?_,λe d s c=>?_,λe d z=>?_,λe d=>?_⟩
 .rw[n]
  exact Xs.mpr ⟨B.nd,by simp,λa g b l=>by rw[VL.mp l];rintro rfl;exact m g⟩
 .rw[n]at j
  rcases VH.mp j with z|z
  .exact B.pl k z
  .rw[VL.mp z];exact U9 _<|VD.mpr ⟨t,w,rfl⟩
 .rcases VH.mp d with z|z
  .exact B.lk e z
  .obtain rfl:=VL.mp z
   exact Lk.snoc (by have:=B.lk _ f;rw[g];exact this)
 .rw[n]
  rcases VH.mp d with z|z
  .obtain⟨v,u,r⟩:=B.tk e z s c
   exact⟨v,u,Wm _ r⟩
  .obtain rfl:=VL.mp z
   rcases VH.mp c with c|c
   .obtain⟨v,u,r⟩:=B.tk _ f s c
    exact⟨v,u,Wm _ r⟩
   .rw[VL.mp c]
    exact⟨w,i,VS _<|by simp⟩
 .rcases VH.mp d with z|z
  .exact B.nb e z
  .obtain rfl:=VL.mp z
   show((p++[t]).map (·.b)).Nodup;rw[VX];refine Xs.mpr ⟨B.nb _ f,by simp,λa g b l=>?_⟩;rw[show b=t.b by simpa using l];obtain⟨s,c,rfl⟩:=VD.mp g;intro z;exact m<|z▸(B.tk _ f s c).2.2
 .rcases VH.mp d with z|z
  .exact B.fa e z s c
  .obtain rfl:=VL.mp z
   have c:s∈(p++[t]).tail:=c;cases p with
   |nil=>cases c
   |cons q p=>
    have c:s∈p++[t]:=c;rcases VH.mp c with c|c
    .exact B.fa _ f s c
    .rw[VL.mp c,g]
     intro z;have:=B.nf _ f z;cases this
 .rcases VH.mp d with y|y
  .exact B.nf e y z
  .obtain rfl:=VL.mp y
   exact er z i
 .rw[Vs,WG]
  rcases VH.mp d with z|z
  .have:=B.ln e z;omega
  .obtain rfl:=VL.mp z
   have:p.length<F.length:=B.ln _ f;show(p++[t]).length<_;rw[Vs,WG];omega
def Bf.has(B:Bf ts fi F){k:Vq}(a:k∈F.map (·.1)):∃p,dQ F k=Wp p:=by
 cases z:dQ F k with|none=>exact er a (mJ.mp z)|some p=>exact⟨p,rfl⟩
structure Wt (ts:List Tn) (F:List wH) (W:cr):Prop where
 k:∀x∈W,x∈F.map (·.1)
 dn:∀x∈F.map (·.1),x∉W->∀t∈ts,t.a=x->t.b∈F.map (·.1)
def Ph(N:ts.length<=800){W0:cr}(J:Bf ts fi i)(E:h∈i.map (·.1))(Q:W0.length+1<=i.length) :
  ∃(F:List wH) (W:cr) (l:Sl),Bf ts fi F/\(∀x∈i.map (·.1),x∈F.map (·.1))/\W.length+i.length=W0.length+F.length/\(∀x∈W0,x∈W)/\(∀x∈F.map (·.1),x∈i.map (·.1)∨x∈W)/\(∀x∈W,x∈W0∨x∈F.map (·.1))/\(∀t∈ts,t.a=h->t.b∈F.map (·.1)) /\
   bT (bK 5) iB (ts.map iA) [.sh T,.sh Fi,.ow<|fB i,.ow<|.lst<|W0.map D.str,.sh<|.str h,x5]=.ok (.nx [.sh T,.sh Fi,.ow<|fB F,.ow<|.lst<|W.map D.str,.sh<|.str h,l]):=by
 obtain⟨A,e,F,W,l,j,m,w,r,q,o,n,rfl⟩:=oQ (tg:=bK 5) (body:=iB) iA (L:=ts) (λpre y=>∃(F:List wH) (W:cr) (l:Sl),Bf ts fi F/\(∀x∈i.map (·.1),x∈F.map (·.1))/\W.length+i.length=W0.length+F.length/\(∀x∈W0,x∈W)/\(∀x∈F.map (·.1),x∈i.map (·.1)∨x∈W)/\(∀x∈W,x∈W0∨x∈F.map (·.1))/\(∀t∈pre,t.a=h->t.b∈F.map (·.1)) /\
   y=[.sh T,.sh Fi,.ow<|fB F,.ow<|.lst<|W.map D.str,.sh<|.str h,l]) (λpre t post G y z9=>by
   obtain⟨F,W,l,j,m,w,r,q,o,n,H⟩:=z9;subst H;have B:t∈ts:=by rw[G];simp
   obtain⟨p,u⟩:=j.has<|m h E;have O:=j.len;have C:p.length<F.length:=j.ln _<|uX u;have I:=Pj (T:=T) (Fi:=Fi) (W:=W) (t:=t) u 0#2 0#2 0#2;refine⟨_,_,rfl,I,?_⟩;unfold EM
   by_cases c:t.a=h/\dQ F t.b=Wb
   .simp only[ef c,u,Xw]
    have v:(F++[(t.b,p++[t])]).map (·.1)=F.map (·.1)++[t.b]:=by rw[VX];rfl
    refine⟨_,_,_,j.step u B c.1 c.2,λx d=>?_,?_,λx d=>?_,λx d=>?_,λx d=>?_,λs g f=>?_,rfl⟩
    .rw[v];exact Wm _<|m x d
    .simp only[Vs,WG];omega
    .exact Wm _<|r x d
    .rw[v]at d
     rcases VH.mp d with d|d
     .exact(q x d).imp id λz=>Wm _ z
     .exact .inr<|VS _ d
    .rw[v]
     rcases VH.mp d with d|d
     .exact(o x d).imp id λz=>Wm _ z
     .exact .inr<|VS _ d
    .rw[v]
     rcases VH.mp g with g|g
     .exact Wm _<|n s g f
     .rw[VL.mp g];exact VS _ 0#3
   .simp only[eo c]
    refine⟨F,W,_,j,m,w,r,q,o,λs g f=>?_,rfl⟩;rcases VH.mp g with g|g
    .exact n s g f
    .rw[VL.mp g]at f ⊢
     by_cases z:t.b∈F.map (·.1)
     .exact z
     .exact er ⟨f,mJ.mpr z⟩ c) ⟨i,W0,x5,J,λ_ z=>z,rfl,λ_ z=>z,λ_ z=>.inl z,λ_ z=>.inl z,λ_ z=>(nomatch z),rfl⟩
 exact⟨F,W,l,j,m,w,r,q,o,n,e⟩
end
open K11 (cO)
def Dx(ts:List Tn)(F:List wH):Prop:=∀t∈ts,t.a∈F.map (·.1)->t.b∈F.map (·.1)
abbrev wT:bv:=ag 3#6 (ak av aZ) iE
abbrev wB:ci :=
 (ar (mE 4 3<|dC<|.int 0)
 (ar (lD 0#6 (bK 5)
 iB)
 au))
def Py(h:decide ((d::ds).length<=900)=VO):mE 4 3 0#0 [s0,s1,s2,.ow<|.lst (d::ds),s4,s5]=.ok (.nx [s0,s1,s2,.ow<|.lst ds,.sh d,s5]):=by
 have h:=et h;have a:(d::ds).length<line:=VN h 0#1;have b:xt (d::ds).length 0=Wp 0:=by
  unfold xt;simp
  try omega
 show mD 4 3 [s0,s1,s2,.ow<|.lst (d::ds),s4,s5] (d::ds) (.int 0)=_;unfold mD;simp only[b];simp only[Wz,ef a];rfl
def LP{h:Vq}{W:cr}:iE (.lst (D.str h::W.map D.str)) (.lst [])=.ok (.bl VO):=by
 have c:∀n,(W.map D.str).all (bp n)=VO:=λn=>V2.mpr λx a=>by
  obtain⟨y,_,rfl⟩:=VD.mp a;cases n<;>rfl
 unfold iE;have b:bp 40 (.lst (D.str h::W.map D.str))=VO:=by
  show((D.str h::W.map D.str).all<|bp 39)=VO;rw[X8,c];rfl
 rw[ef ⟨b,rfl⟩];rfl
section
variable {ts:List Tn}{fi h:Vq}{F:List wH}{p:List Tn}{t:Tn}{W:cr}
def NZ(H:ts.length<=800):∀(f:Nat) (F:List wH) (W:cr) (x4 x5:Sl),Bf ts fi F->Wt ts F W->W.length<=F.length->ts.length+1+W.length<F.length+f ->
  ∃(G:List wH) (g d:Sl),Bf ts fi G/\Dx ts G/\cu wT wB f [.sh<|.lst<|ts.map iA,.sh<|.str fi,.ow<|fB F,.ow<|.lst<|W.map D.str,x4,x5]=.ok (.nx [.sh<|.lst<|ts.map iA,.sh<|.str fi,.ow<|fB G,.ow<|.lst [],g,d]):=by
 intro f
 induction f with
 |zero=>intro F W x4 x5 B _ j m;have:=B.len;omega
 |succ f C=>
  intro F W x4 x5 B V j m;cases W with
  |nil=>
   refine⟨F,x4,x5,B,λt a b=>V.dn _ b 0#3 t a rfl,iN ?_⟩;have e:iE (.lst []) (.lst [])=.ok (.bl Vd):=rfl;unfold fB;erw[e]
  |cons h W=>
   have M:=B.len;obtain⟨G,U,d,u,l,L,s,r,q,o,e⟩:=Ph H (T:=.lst<|ts.map iA) (Fi:=.str fi) (x5:=x5) B (V.k h Ve) (W0:=W) (by rw[Vp]at j;omega);have I:Wt ts G U:=⟨λx i=>by
    rcases q x i with z|z
    .exact l x<|V.k x<|U9 _ z
    .exact z,λx i nx t a b=>by
    rcases r x i with z|z
    .by_cases c:x=h
     .exact o t a (by rw[b,c])
     .exact l _ (V.dn x z (λy=>by
       rcases Vl.mp y with y|y
       .exact c y
       .exact nx<|s x y) t a b)
    .exact er z nx⟩
   rw[Vp]at j m;obtain⟨J,g,n,A,w,v⟩:=C G U (.sh<|.str h) d u I 0#2 0#2;refine⟨J,g,n,A,w,?_⟩;rw[←v];have E:decide ((D.str h::W.map D.str).length<=900)=VO:=dV (by simp;omega);refine ll ?_ ?_
   .have e:iE (.lst (D.str h::W.map D.str)) (.lst [])=.ok (.bl VO):=LP
    unfold fB;erw[e]
   .rw[Vf]
    unfold fB at e ⊢;erw[Py E,e]
def yg(e:ts.length<=800):∃G,Bf ts fi G/\Dx ts G/\K37.m_fewest_turns [.lst<|ts.map iA,.str fi]=.ok (fB G):=by
 obtain⟨G,l,j,i,g,b⟩:=NZ (fi:=fi) e 1000 [(fi,[])] [fi] .no .no Bf.start ⟨λx a=>by simpa using a,λx a nx=>by simp at a nx;exact er a nx⟩ 0#3 (by simp;omega);refine⟨G,i,g,?_⟩;have f:fB [(fi,[])]=.dic [fi] [.lst []]:=rfl;rw[f]at b;have hw:∀(c:bv) (s:ci) (d:Ev),ib (λ_=>1000) c s d=cu c s 1000 d:=λ_ _ _=>rfl;unfold fB at b ⊢;simp only[Vf,Xg]at b;erw[K37.m_fewest_turns,K37.b_fewest_turns,Pth.ed_own,Pth.ed_disp,Pth.ed_disp1,Pth.ed_own1,hw,b]
end
end Flo
namespace K34
open PySem L2 DL
abbrev aW:ac->aw D:=Cod.aW
abbrev bf:ac->aw D:=Cod.bf
abbrev aX:ac->aw D:=Cod.aX
noncomputable def iK:ci :=
 (ar (aJ 1<|ak (ae 420#0<|ae 60#0<|ae 2#0<|ae 5#0<|ae (ag 10#0 18#0 qW)<|ae 30#0<|ae 6#0<|ae 5#0<|ae (ag 10#0 18#0 qW)<|ae 30#0<|ae 3#0<|ae 5#0<|ae (ag 10#0 18#0 qW)<|ae 30#0 av) aZ)<|ar (bJ<|cJ 1 [1] (lA<|ag (ak (ae 0#6 av) bf) 0#0 aE) (bK 0) mYes<|ak (ae (dZ (ak (ae 0#6<|ae 1#6 av) aW) (bS<|dC<|.int 11) cR) av) aX) au)
def dM:ac->aw D:=bH 2 iK
end K34
namespace K35
open PySem L2 DL Com
def cO:cX d (.str z)=VO↔d=.str z:=by
 cases d with
 |str x=>rw[cX];simp
 |_=>constructor<;>intro h<;>first|cases h|(unfold cX at h;cases h)
theorem DN:∀{a b:cr},eqDs (a.map D.str) (b.map D.str)=decide (a=b)
 |[],[]=>rfl
 |[],_::_=>by simp[eqDs]
 |_::_,[]=>by simp[eqDs]
 |x::a,y::b=>by
  rw[Vf,Vf,eqDs,DN,cX]
  by_cases c:x=y
  .subst c;simp
  .simp[c]
def ne_strl{a b:cr}:iE (.lst<|a.map D.str) (.lst<|b.map D.str)=.ok (.bl (!(decide (a=b)))):=by
 unfold iE;rw[ef ⟨mC (n:=39),mC (n:=39)⟩,zJ,DN]
end K35
namespace K36
open PySem L2 DL Com
def srcZK(g:bv)(ρ:Ev)(d:D):aw (ac):=(g ρ).bind λe=>match d,e with
 |.lst b,.lst a=>.ok<|c8 b a
 |_,_=>.stuck
def ev_srcZ:KZ f g ρ=(f ρ).bind (srcZK g ρ):=rfl
def ev_srcZ1(h:g ρ=.ok (.lst a)):srcZK g ρ (.lst ds)=.ok (c8 ds a):=by unfold srcZK;rw[h];rfl
end K36
namespace K34
open PySem L2 DL Com
def Ml:aW=Cod.aW:=rfl
def Mm:bf=Cod.bf:=rfl
def Se:Nat:=1000000000000000000
structure Sz (n:Nat) (x:iz):Prop where
 l:Low x
 p:x.1.natAbs<=n*Se*31 ^ n
 q:x.2.natAbs<=31 ^ n
def Sz.fin(h:Sz n x)(b:n<=24):eF x:=by
 have a:31 ^ n<=31 ^ 24:=WA 0#1 b;refine⟨h.l,?_,?_⟩
 .refine VN (Vr h.p<|Yo (saG Se b) a) ?_
  decide
 .exact VN (Vr h.q a) 0#1
def Mc(hw:0<=w/\w<5)(m:0<=a/\a<1000000000000000000)(l:0<=b/\b<30):∃x:iz,aX [.lst [.int w,.int a,.int b]]=.ok (fr x)/\Sz 1 x/\0<=x.1:=by
 have n:(1000000000000000000000:Int)<(wU:Int):=by decide
 have o:=eV (a:=a) (b:=7) 0#1;have g:=eV (a:=a) (b:=60) 0#1;have d:=eV (a:=a) (b:=1000) 0#1;have r:=eV (a:=b) (b:=4) 0#1;obtain⟨p,q,j,i,f,e⟩:∃p q:Int,(0<=p/\p<1000000000000000000)/\(1<=q/\q<31)/\aE (.lst [.int 0,.int<|a.fmod 7,.int<|a.fmod 60,.int a,.int<|a.fmod 1000]) (.int w)=.ok (.int p)/\aE (.lst [.int 1,.int 1,.int (1+b),.int 1,.int (1+b.fmod 4)]) (.int w)=.ok (.int q):=by
  have:w=0∨w=1∨w=2∨w=3∨w=4:=by omega
  rcases this with rfl|rfl|rfl|rfl|rfl
  .exact⟨0,1,by decide,by decide,rfl,rfl⟩
  .exact⟨a.fmod 7,1,by omega,by decide,rfl,rfl⟩
  .exact⟨a.fmod 60,1+b,by omega,by omega,rfl,rfl⟩
  .exact⟨a,1,by omega,by decide,rfl,rfl⟩
  .exact⟨a.fmod 1000,1+b.fmod 4,by omega,by omega,rfl,rfl⟩
 have c:=Cod.low_ok (a:=p) (b:=q) 0#2 (LU 0#2<|by omega) (LU 0#2<|by omega);refine⟨kH p q,?_,⟨mG 0#2,Vr zr ?_,Vr zq ?_⟩,uJ 0#2<|by omega⟩
 .erw[Cod.aX,Cod.iu,f,e,c]
 .have:p.natAbs<Se:=by unfold Se;omega
  unfold Se at *;omega
 .omega
def rooms_sz{ns:List Int}{c1 M:List Int}(G:Cod.bf [.lst<|ns.map D.int]=.ok (.tup [.lst<|c1.map D.int,.lst<|M.map D.int]))(H:c1.length<=14):∃xs:List iz,dM [.lst<|ns.map D.int]=.ok (.lst<|xs.map fr)/\xs.length=c1.length/\∀x∈xs,Sz 1 x/\0<=x.1:=by
 have key:∀c:Int,∃x:iz,(∀e:Ev,e[0]?=Wp (.sh<|.int c)->e[1]?=Wp (.sh<|.lst [.int 420,.int 60,.int 2,.int 5,.int 1000000000000000000,.int 30,.int 6,.int 5,.int 1000000000000000000,.int 30,.int 3,.int 5,.int 1000000000000000000,.int 30])->(ak (ae (dZ (ak (ae 0#6<|ae 1#6 av) aW) (bS<|dC<|.int 11) cR) av) aX) e=.ok (fr x))/\Sz 1 x/\0<=x.1:=λc=>by
  obtain⟨j,hd,V⟩:=Cod.draws_ok c [420,60,2,5,1000000000000000000,30,6,5,1000000000000000000,30,3,5,1000000000000000000,30] 0#1 0#1;have r:j.length=14:=V.len;obtain⟨n,y,B,_⟩:=V.ix 11 11 rfl rfl;obtain⟨m,u,A,_⟩:=V.ix 12 12 rfl rfl;obtain⟨l,t,z,_⟩:=V.ix 13 13 rfl rfl;obtain⟨x,q,L,E⟩:=Mc (w:=n) (a:=m) (b:=l) B A z;refine⟨x,λe J I=>?_,L,E⟩;have o:cE (j.map D.int) (Wp 11) Wb=[.int n,.int m,.int l]:=by
   rw[mS,HT.sIx_none,show(11:Int)=((11:Nat):Int) from rfl,HT.sIx_nat,r];have:=Nf (i:=11) y u t;show((j.drop 11).take 3).map D.int=_;rw[this];rfl
  have s:Cod.aW [.int c,.lst [.int 420,.int 60,.int 2,.int 5,.int 1000000000000000000,.int 30,.int 6,.int 5,.int 1000000000000000000,.int 30,.int 3,.int 5,.int 1000000000000000000,.int 30]]=.ok (.lst<|j.map D.int):=hd;generalize j.map D.int=Q at *;erw[J,I,Ml,s,o,q]
 obtain⟨g,C⟩:∃g:Int->iz,∀c,(∀e:Ev,e[0]?=Wp (.sh<|.int c)->e[1]?=Wp (.sh<|.lst [.int 420,.int 60,.int 2,.int 5,.int 1000000000000000000,.int 30,.int 6,.int 5,.int 1000000000000000000,.int 30,.int 3,.int 5,.int 1000000000000000000,.int 30])->(ak (ae (dZ (ak (ae 0#6<|ae 1#6 av) aW) (bS<|dC<|.int 11) cR) av) aX) e=.ok (fr<|g c))/\Sz 1 (g c)/\0<=(g c).1:=⟨λc=>Classical.choose (key c),λc=>saw<|key c⟩
 refine⟨c1.map g,?_,by simp,λx q=>?_⟩
 .have f:c6 1 [1] (bK 0) mYes (ak (ae (dZ (ak (ae 0#6<|ae 1#6 av) aW) (bS<|dC<|.int 11) cR) av) aX) [.sh<|.lst<|ns.map D.int,.sh<|.lst [.int 420,.int 60,.int 2,.int 5,.int 1000000000000000000,.int 30,.int 6,.int 5,.int 1000000000000000000,.int 30,.int 3,.int 5,.int 1000000000000000000,.int 30]] (c1.map D.int)=.ok (.lst<|(c1.map g).map fr):=by
   rw[ki (F:=λd=>match d with|.int v=>fr (g v)|d=>d) (by rw[U8];omega)]
   .rw[Wk,Wk];rfl
   .intro d hd
    obtain⟨c,_,rfl⟩:=VD.mp hd;exact⟨[.sh<|.int c,.sh<|.lst [.int 420,.int 60,.int 2,.int 5,.int 1000000000000000000,.int 30,.int 6,.int 5,.int 1000000000000000000,.int 30,.int 3,.int 5,.int 1000000000000000000,.int 30]],rfl,rfl,(C c).1 _ rfl rfl⟩
  have p:qW (.int 10) (.int 18)=.ok (.int 1000000000000000000):=rfl;erw[dM,iK,p,Mm,G,f]
 .obtain⟨c,_,rfl⟩:=VD.mp q
  exact(C c).2
def L5{n k:Nat}(h:k<n):xt n (k:Int)=Wp k:=by
 unfold xt;rw[ef 0#2,ef 0#2,Wo]
def put_nat{k:Nat}(h:k<ds.length)(ρ:Ev)(i:Nat):DL.putAt ρ i ds d (.int (k:Int))=.ok (.nx<|ρ.set i<|.ow<|.lst<|ds.set k d):=lS<|L5 h
def UZ(x:iz):aE (fr x) (.int 0)=.ok (.int x.1):=rfl
end K34
namespace Flo
open PySem L2 DL Com
open K11 (cO)
open K54 (oQ)
def iy(as:List Int)(k:Nat):Int:=(as[k]?).getD 0
def eS(m:Int)(as:List Int)(t:Tn):List Int:=as.set t.n.toNat<|iy as t.n.toNat+t.sg*m
abbrev sB:ci :=
 (ar (DX 3 (ag (ag 3#6 (aL 4#6<|gr "number") aE) (ag (aL 4#6<|gr "sign") 2#6 dm) aV)<|aL 4#6<|gr "number")
 au)
def M0(N:Nat)(t:Tn):Prop:=(∃k:Nat,t.n=(k:Int)/\k<N)/\(t.sg=1∨t.sg=-1)
section
variable {as:List Int}{m:Int}{t:Tn}{p:List Tn}{A P:D}{N:Nat}
def qH:(eS m as t).length=as.length:=by unfold eS;rw[List.length_set]
def C0{k:Nat}(h:k<as.length):aE (.lst<|as.map D.int) (.int (k:Int))=.ok (.int<|iy as k):=c5 (by
 unfold iy;rw[Vh,U7 h];rfl)
def Ol(d:M0 as.length t)(e:m.natAbs<Ad):sB [.sh A,.sh P,.sh<|.int m,.ow<|.lst<|as.map D.int,.sh<|iA t]=.ok (.nx [.sh A,.sh P,.sh<|.int m,.ow<|.lst<|(eS m as t).map D.int,.sh<|iA t]):=by
 obtain⟨⟨k,c,b⟩,l⟩:=d;have j:=C0 b;have i:dm (.int t.sg) (.int m)=.ok (.int<|t.sg*m):=ef (nH (by rcases l with z|z<;>rw[z]<;>exact Vk (show(1:Nat)<wU by decide) kX) e);have g:eS m as t=as.set k (iy as k+t.sg*m):=by unfold eS;rw[c];rfl
 have f:∀a:Ev,DL.putAt a 3 (as.map D.int) (.int<|iy as k+t.sg*m) (.int (k:Int))=.ok (.nx<|a.set 3<|.ow<|.lst<|(as.map D.int).set k<|.int<|iy as k+t.sg*m):=λa=>K34.put_nat (by rw[U8];exact b) a 3;have fn:=TU (t:=t);rw[c]at fn;rw[g,List.map_set];erw[fn,TR,j,i,Jz (show lP (.int<|iy as k+t.sg*m)=VO from rfl),f]
theorem Hn(b:m.natAbs<Ad):∀(p:List Tn) (as:List Int) (x4:Sl),(∀t∈p,M0 as.length t)->∃a,bT (bK 4) sB (p.map iA) [.sh A,.sh P,.sh<|.int m,.ow<|.lst<|as.map D.int,x4]=.ok (.nx [.sh A,.sh P,.sh<|.int m,.ow<|.lst<|(p.foldl (eS m) as).map D.int,a])
 |[],as,x4,_=>⟨x4,rfl⟩
 |t::p,as,x4,h=>by
  obtain⟨a,e⟩:=Hn b p (eS m as t) (.sh (iA t)) λs d=>by rw[qH];exact h s<|U9 _ d
  exact⟨a,by rw[Vf,dr (ρ1:=[.sh A,.sh P,.sh<|.int m,.ow<|.lst<|as.map D.int,.sh<|iA t]) rfl (Ol (h t Ve) b),e,XJ]⟩
def K3(a:m.natAbs<Ad)(b:as.length<=800)(h:∀t∈p,M0 as.length t):K37.m_sent_along [.lst<|as.map D.int,pD p,.int m]=.ok (.lst<|(p.foldl (eS m) as).map D.int):=by
 obtain⟨d,e⟩:=Hn (A:=.lst<|as.map D.int) (P:=pD p) a p as .no h;have c:m1 nj [.lst<|as.map D.int]=.ok (.lst<|as.map D.int):=by
  show nj (.lst<|as.map D.int)=_
  first|rfl|exact ef (by rw[U8];exact Vr b<|by decide)
 unfold pD at e ⊢;erw[K37.m_sent_along,K37.b_sent_along,c,e]
def fD:List Tn->Int
 |[]=>0
 |t::p=>p.foldl (λx s=>min x s.c) t.c
def FD:∀{p:List Tn}{t:Tn},t∈p->fD p<=t.c:=by
 have key:∀(p:List Tn) (x:Int),p.foldl (λx s=>min x s.c) x<=x/\∀t∈p,p.foldl (λx s=>min x s.c) x<=t.c:=by
  intro p
  induction p with
  |nil=>intro x;exact⟨YU _,λt h=>nomatch h⟩
  |cons s p e=>
   intro x;obtain⟨d,b⟩:=e<|min x s.c;rw[XJ];refine⟨by omega,λt a=>?_⟩;rcases Vl.mp a with rfl|a
   .omega
   .exact b t a
 intro p t a;cases p with
 |nil=>cases a
 |cons s p=>
  obtain⟨d,b⟩:=key p s.c;rcases Vl.mp a with rfl|a
  .exact d
  .exact b t a
def CV:∀{p:List Tn},p≠[]->∃t∈p,fD p=t.c:=by
 have key:∀(p:List Tn) (x:Int),p.foldl (λx s=>min x s.c) x=x∨∃t∈p,p.foldl (λx s=>min x s.c) x=t.c:=by
  intro p
  induction p with
  |nil=>intro x;exact .inl rfl
  |cons s p d=>
   intro x;rw[XJ];rcases d (min x s.c) with h|⟨t,b,a⟩
   .rw[h]
    by_cases c:x<=s.c
    .exact .inl 0#2
    .exact .inr ⟨s,Ve,by omega⟩
   .exact .inr ⟨t,U9 _ b,a⟩
 intro p e;cases p with
 |nil=>exact er rfl e
 |cons s p=>
  rcases key p s.c with h|⟨t,b,a⟩
  .exact⟨s,Ve,h⟩
  .exact⟨t,U9 _ b,a⟩
end
theorem AW:∀(p:List Tn) (x:Int),CP x (p.map (·.c))=p.foldl (λx s=>min x s.c) x
 |[],x=>rfl
 |t::p,x=>by
  rw[Vf,XJ,←AW p];show CP (if t.c<x then t.c else x) _=_
  congr 1
  show _=min x t.c;rw[Int.min_def];split<;>split<;>omega
def IV(b:p≠[])(i:p.length<=800):K37.m_least_room [pD p]=.ok (.int<|fD p):=by
 have f:∀A,c6 1 [] (bK 0) (ag (aL 0#6<|gr "room") 0#4 jC) (aL 0#6<|gr "room") A (p.map iA)=.ok (.lst ((p.map (·.c)).map D.int)):=λA=>by
  rw[K51.comp_pick iA (λt=>Wp<|.int t.c) 0#2]
  .rw[Wk,←XT];rfl
  .intro t g
   have e:jC (.int t.c) .non=.ok (.bl VO):=rfl;refine⟨[.sh<|iA t],rfl,.inr ⟨_,rfl,?_,?_⟩⟩
   .erw[Me,e]
   .erw[Me]
 have d:EH (.lst ((p.map (·.c)).map D.int))=.ok (.int<|fD p):=by
  cases p with
  |nil=>exact er rfl b
  |cons t p=>
   show(match gG (((t::p).map (·.c)).map D.int) with|some (n::a)=>aw.ok (D.int<|CP n a)|_=>.stuck)=_;rw[A4];show aw.ok (D.int (CP t.c (p.map (·.c))))=_;rw[AW];rfl
 unfold pD;erw[K37.m_least_room,K37.b_least_room,f,d]
open K11 (cO)
open K54 (lO)
def r8(zs as:List Int)(k:Nat)(t:kW):Int:=if t.w="one" then iy as k else iy zs k+iy as k
def m8(zs as:List Int)(k:Nat)(t:kW):List Tn:=[⟨(k:Int),1,t.a,t.b,iy zs k-iy as k⟩,⟨(k:Int),-1,t.b,t.a,r8 zs as k t⟩]
def m6(zs:List Int)(ks:db)(as:List Int):Nat->List kW->List Tn
 |_,[]=>[]
 |k,t::r=>(if k∈ks then[] else m8 zs as k t)++m6 zs ks as (k+1) r
theorem yB:∀{pre:List kW}{k:Nat},m6 zs ks as k (pre++[t])=m6 zs ks as k pre++(if k+pre.length∈ks then[] else m8 zs as (k+pre.length) t)
 |[],k=>by
  show(if k∈ks then[] else m8 zs as k t)++[]=[]++(if k+0∈ks then[] else m8 zs as (k+0) t);rw[We,WS,YG]
 |s::pre,k=>by
  rw[Xd,m6,yB,m6,Vp,XX,show k+1+pre.length=k+(pre.length+1) by omega]
theorem qp:∀{L:List kW}{k:Nat},(m6 zs ks as k L).length<=2*L.length
 |[],k=>by simp[m6]
 |t::L,k=>by
  rw[m6,Vs,Vp];have:=qp (zs:=zs) (ks:=ks) (as:=as) (L:=L) (k:=k+1);split
  .simp;omega
  .simp[m8];omega
theorem BQ:∀{L:List kW}{k:Nat},s∈m6 zs ks as k L↔∃i t,L[i]?=Wp t/\k+i∉ks/\s∈m8 zs as (k+i) t
 |[],k=>by simp[m6]
 |t::L,k=>by
  rw[m6,VH,BQ];constructor
  .rintro(h|⟨i,u,a,d,b⟩)
   .by_cases c:k∈ks
    .rw[ef c]at h;cases h
    .rw[eo c]at h;exact⟨0,t,rfl,c,h⟩
   .exact⟨i+1,u,a,by rw[show k+(i+1)=k+1+i by omega];exact d,by rw[show k+(i+1)=k+1+i by omega];exact b⟩
  .rintro⟨i,u,a,d,b⟩
   cases i with
   |zero=>
    simp at a;subst a;exact .inl (by rw[eo (by simpa using d)];exact b)
   |succ i=>exact .inr ⟨i,u,by simpa using a,by rw[show k+1+i=k+(i+1) by omega];exact d,by rw[show k+1+i=k+(i+1) by omega];exact b⟩
noncomputable abbrev tB:ci :=
 (ar (dG (ag 5#6 2#6 bG)
 (ar (aJ 7<|Km (ag (ag 6#6 2#0 aE) 0#"one" gZ) (ag 3#6 5#6 aE)<|ag (ag 1#6 5#6 aE) (ag 3#6 5#6 aE) aV)
 (ar (bP 4<|ak (ae 5#6<|ae 1#0<|ae (ag 6#6 0#0 aE)<|ae (ag 6#6 1#0 aE)<|ae 0#0<|ae (ag (ag 1#6 5#6 aE) (ag 3#6 5#6 aE) ke) av)<|CU "Turn" ["number","sign","here","there","cost","room"])
 (ar (bP 4<|ak (ae 5#6<|ae (aL 1#0 k9)<|ae (ag 6#6 1#0 aE)<|ae (ag 6#6 0#0 aE)<|ae 0#0<|ae 7#6 av)<|CU "Turn" ["number","sign","here","there","cost","room"])
 au)))
 au)
 au)
def Nc:iA ⟨n,d,a,b,c⟩=.ob (.ins "Turn" ["number","sign","here","there","cost","room"]) [.int n,.int d,.str a,.str b,.int 0,.int c]:=rfl
section
variable {zs as:List Int}{ks:db}{t:kW}{k:Nat}{W:D}{x7:Sl}{L:List Tn}
def Oa(s:k<zs.length)(u:k<as.length)(x:L.length<=900):∃r,tB [.sh W,.sh<|.lst<|zs.map D.int,.sh<|cF ks,.sh<|.lst<|as.map D.int,.ow<|.lst<|L.map iA,.sh<|.int (k:Int),.sh<|bo t,x7] =
  .ok (.nx [.sh W,.sh<|.lst<|zs.map D.int,.sh<|cF ks,.sh<|.lst<|as.map D.int,.ow<|.lst<|(L++(if k∈ks then[] else m8 zs as k t)).map iA,.sh<|.int (k:Int),.sh<|bo t,r]):=by
 have e:bG (.int (k:Int)) (cF ks)=.ok (.bl (!(decide (k∈ks)))):=K11.notIn_nums
 by_cases c:k∈ks
 .rw[dV c]at e
  refine⟨x7,?_⟩;rw[ef c,We];erw[e]
 .rw[en c]at e
  have o:=C0 s;have n:=C0 u;have l:aE (bo t) (.int 0)=.ok (.str t.a):=rfl;have j:aE (bo t) (.int 1)=.ok (.str t.b):=rfl;have i:aE (bo t) (.int 2)=.ok (.str t.w):=rfl;have m:ke (.int<|iy zs k) (.int<|iy as k)=.ok (.int<|iy zs k-iy as k):=rfl;have q:decide ((L.map iA).length<=999)=VO:=dV (by rw[U8];omega);have p:∀d:D,decide ((L.map iA++[d]).length<=999)=VO:=λd=>dV (by rw[Vs,U8,WG];omega);have v:(L++m8 zs as k t).map iA=(L.map iA++[iA ⟨(k:Int),1,t.a,t.b,iy zs k-iy as k⟩])++[iA ⟨(k:Int),-1,t.b,t.a,r8 zs as k t⟩]:=by
   rw[VX,XX];rfl
  rw[eo c,v];refine⟨.sh<|.int<|r8 zs as k t,?_⟩
  by_cases f:t.w="one"
  .have g:r8 zs as k t=iy as k:=ef f
   rw[g];erw[e,l,j,i,cO,dV f,o,n,m,du q,du<|p _,Nc]
  .have g:r8 zs as k t=iy zs k+iy as k:=eo f
   rw[g];erw[e,l,j,i,cO,en f,o,n,m,du q,du<|p _,Nc]
end
open K11 (cO)
open K54 (lO)
def cZ(w:jU)(zs:List Int)(ks:db)(as:List Int):List Tn:=(m6 zs ks as 0 w.ts).filter λt=>decide (0<t.c)
theorem uu:∀(L:List Tn),(L.filterMap λt=>if 0<t.c then Wp (iA t) else Wb)=(L.filter λt=>decide (0<t.c)).map iA
 |[]=>rfl
 |t::L=>by
  rw[Wd,Y3]
  by_cases h:0<t.c
  .simp only[ef h,dV h,eP,Vf,uu L]
  .simp only[eo h,en h,WV,eH,uu L]
section
variable {w:jU}{zs as:List Int}{ks:db}
def uN(W:cI w):(cZ w zs ks as).length<=28:=by
 have b:=XS (λt:Tn=>decide (0<t.c))<|m6 zs ks as 0 w.ts;have a:=qp (zs:=zs) (ks:=ks) (as:=as) (L:=w.ts) (k:=0);have:=W.t14;unfold cZ;omega
def IU(h:s∈cZ w zs ks as):∃k t,w.ts[k]?=Wp t/\k∉ks/\s∈m8 zs as k t/\0<s.c:=by
 unfold cZ at h;obtain⟨e,d⟩:=XI.mp h;obtain⟨i,t,f,b,a⟩:=BQ.mp e;rw[XF]at b a;exact⟨i,t,f,b,a,et d⟩
def GS(W:cI w)(s:zs.length=w.ts.length)(x:as.length=w.ts.length):K37.m_turns_left [aI w,.lst<|zs.map D.int,cF ks,.lst<|as.map D.int]=.ok (.lst<|(cZ w zs ks as).map iA):=by
 have j:=W.t14;obtain⟨g,e,d,b,a,rfl⟩:=lO (tg:=dE [5,6]) (body:=tB) bo (L:=w.ts) (λpre f=>∃d b a,f=[.sh<|aI w,.sh<|.lst<|zs.map D.int,.sh<|cF ks,.sh<|.lst<|as.map D.int,.ow<|.lst<|(m6 zs ks as 0 pre).map iA,d,b,a])
  (λpre t post o f z9=>by
   obtain⟨d,b,a,p⟩:=z9;subst p;have v:pre.length<w.ts.length:=by rw[o];simp
   have l:=qp (zs:=zs) (ks:=ks) (as:=as) (L:=pre) (k:=0);obtain⟨i,q⟩:=Oa (zs:=zs) (as:=as) (ks:=ks) (t:=t) (k:=pre.length) (W:=aI w) (x7:=a) (L:=m6 zs ks as 0 pre) 0#2 0#2 0#2;refine⟨_,_,rfl,q,.sh<|.int (pre.length:Int),.sh<|bo t,i,?_⟩;rw[yB,XF]) ⟨.no,.no,.no,rfl⟩
 have e:bT (dE [5,6]) tB (numbered 0<|w.ts.map bo) [.sh<|aI w,.sh<|.lst<|zs.map D.int,.sh<|cF ks,.sh<|.lst<|as.map D.int,.ow<|.lst [],.no,.no,.no]=_:=e;have m:aE (aI w) (.int 1)=.ok (.lst<|w.ts.map bo):=rfl;have n:∀A,c6 1 [] (bK 0) (ag (aL 0#6<|gr "room") 0#0 My) 0#6 A ((m6 zs ks as 0 w.ts).map iA)=.ok (.lst<|(cZ w zs ks as).map iA):=λA=>by
  have l:=qp (zs:=zs) (ks:=ks) (as:=as) (L:=w.ts) (k:=0);rw[K51.comp_pick iA (λt=>if 0<t.c then Wp (iA t) else Wb) 0#2]
  .rw[uu];rfl
  .intro t u
   have e:My (.int t.c) (.int 0)=.ok (.bl (decide (t.c > 0))):=rfl
   by_cases h:0<t.c
   .rw[dV h]at e
    refine⟨[.sh<|iA t],rfl,.inr ⟨iA t,ef h,?_,?_⟩⟩
    .erw[Me,e]
    .erw[]
   .rw[en h]at e
    refine⟨[.sh<|iA t],rfl,.inl ⟨eo h,?_⟩⟩;erw[Me,e]
 erw[K37.m_turns_left,K37.b_turns_left,m,e,n]
theorem eI{b:Type}{g:b->D}(h:∀a,jr (g a)=VO):∀(L:List b),noFns (L.map g)=VO
 |[]=>rfl
 |a::L=>by rw[Vf,noFns,h,eI h L];rfl
def IC(t:kW):jr (bo t)=VO:=by
 cases e:t.o with|none|some x=>unfold bo;rw[e];rfl
def IA:jr (aI w)=VO:=by
 have b:noFns (w.ps.map D.str)=VO:=eI (λ_=>rfl) _;have a:noFns (w.ts.map bo)=VO:=eI IC _;show(noFns (w.ps.map D.str)&&(noFns (w.ts.map bo)&&VO))=VO;rw[b,a];rfl
def zt(W:cI w)(g:zs.length=w.ts.length)(j:as.length=w.ts.length):K37.lt_filled (xr "most_flow") [aI w,cF ks,.tup [.lst<|zs.map D.int,.int B]] [.lst<|as.map D.int]=.ok (.lst<|(cZ w zs ks as).map iA):=by
 have h:=GS (ks:=ks) W g j;have l:aE (.tup [.lst<|zs.map D.int,.int B]) (.int 0)=.ok (.lst<|zs.map D.int):=rfl;have f:noFns (as.map D.int)=VO:=eI (λ_=>rfl) _;have e:noFns (zs.map D.int)=VO:=eI (λ_=>rfl) _;have c:noFns (ks.map λ(k:Nat)=>D.int (k:Int))=VO:=eI (λ_=>rfl) _;have b:noFns [.lst<|as.map D.int]=VO:=by show(noFns (as.map D.int)&&VO)=VO;rw[f];rfl
 have a:noFns [aI w,cF ks,.tup [.lst<|zs.map D.int,.int B]]=VO:=by
  show(jr (aI w)&&(noFns (ks.map λ(k:Nat)=>D.int (k:Int))&&((noFns (zs.map D.int)&&VO)&&VO)))=VO;rw[IA,e,c];rfl
 have i:K37.bl_most_flow [.sh<|.lst<|as.map D.int,.sh<|aI w,.sh<|cF ks,.sh<|.tup [.lst<|zs.map D.int,.int B]]=.ok (.lst<|(cZ w zs ks as).map iA):=by
  erw[K37.bl_most_flow,l,h]
 show Jb 1 3 K37.bl_most_flow _ _=_;unfold Jb;rw[ef ⟨rfl,rfl,b,a⟩];show(match K37.bl_most_flow [.sh<|.lst<|as.map D.int,.sh<|aI w,.sh<|cF ks,.sh<|.tup [.lst<|zs.map D.int,.int B]] with|.ok d=>aw.ok d|_=>.stuck)=_;rw[i]
end
def ek(fi:Vq)(t:kW):Int:=(if t.a=fi then 1 else 0)-(if t.b=fi then 1 else 0)
def jL(fi:Vq):List kW->List Int->Int
 |t::a,x::b=>x*ek fi t+jL fi a b
 |_,_=>0
theorem Ef{fi:Vq}{d:Int}:∀{ts:List kW}{as:List Int}{k:Nat}{t:kW},ts[k]?=Wp t->k<as.length->jL fi ts (as.set k<|iy as k+d)=jL fi ts as+d*ek fi t
 |[],_,_,_,h,_=>by simp at h
 |_::_,[],_,_,_,h=>by simp at h
 |u::ts,x::as,0,t,h,_=>by
  simp at h;subst h;show(x+d)*ek fi u+jL fi ts as=x*ek fi u+jL fi ts as+d*ek fi u;rw[Int.add_mul];omega
 |u::ts,x::as,k+1,t,h,b=>by
  have a:=Ef (fi:=fi) (d:=d) (ts:=ts) (as:=as) (k:=k) (t:=t) (by simpa using h) (by simpa using b);show x*ek fi u+jL fi ts (as.set k<|iy as k+d)=x*ek fi u+jL fi ts as+d*ek fi t;rw[a];omega
def Dz(t:kW)(z x:Int):Prop:=x<=z/\(if t.w="one" then 0<=x else -z<=x)
def Dz.abs(h:Dz t z x)(b:0<=z):x.natAbs<=z.natAbs:=by
 obtain⟨c,a⟩:=h;split at a<;>omega
def fK(w:jU)(zs as:List Int):Prop:=as.length=w.ts.length/\∀k t,w.ts[k]?=Wp t->Dz t (iy zs k) (iy as k)
def Px(h:t.a≠t.b):(ek fi t).natAbs<=1:=by
 unfold ek;split<;>split<;>first|omega|decide
def yO(zs:List Int):Nat:=(zs.map Int.natAbs).sum
theorem Iq{fi:Vq}:∀{ts:List kW}{zs as:List Int},(∀t∈ts,t.a≠t.b)->(∀k t,ts[k]?=Wp t->(iy as k).natAbs<=(iy zs k).natAbs)->zs.length=ts.length->jL fi ts as<=(yO zs:Int)
 |[],zs,as,_,_,_=>by
  have:jL fi [] as=0:=by cases as<;>rfl
  rw[this];omega
 |t::ts,zs,[],_,_,_=>by show(0:Int)<=_;omega
 |t::ts,[],x::as,_,_,h=>by simp at h
 |t::ts,z::zs,x::as,e,d,j=>by
  have l:=Iq (fi:=fi) (ts:=ts) (zs:=zs) (as:=as) (λu c=>e u<|U9 _ c) (λk u c=>d (k+1) u c) (by simpa using j);have f:x.natAbs<=z.natAbs:=d 0 t rfl;have i:=Px (fi:=fi)<|e t Ve;show x*ek fi t+jL fi ts as<=_;have g:yO (z::zs)=z.natAbs+yO zs:=by unfold yO;rw[Vf,Yw]
  rw[g];have m:(x*ek fi t).natAbs<=z.natAbs:=by
   rw[XZ];exact Vr (Yo f i) 0#2
  omega
theorem uD:∀{p:List Tn}{a k:Vq},Lk a p k->(a::p.map (·.b)).Nodup->(∀s∈p,∀u∈p,s.n=u.n->s.b=u.b∨(u.b=s.a/\s.b=u.a))->(p.map (·.n)).Nodup
 |[],_,_,_,_,_=>.nil
 |t::p,a,k,⟨l,j⟩,nd,d=>by
  rw[Vf]at nd ⊢;obtain⟨g,f⟩:=VR.mp nd;refine VR.mpr ⟨λz=>?_,uD j f λs c u i=>d s (U9 _ c) u<|U9 _ i⟩;obtain⟨s,c,e⟩:=VD.mp z;rcases d t Ve s (U9 _ c) e.symm with q|⟨q,_⟩
  .exact(VR.mp f).1<|q▸VD.mpr ⟨s,c,rfl⟩
  .exact g (U9 _<|VD.mpr ⟨s,c,by rw[q,l]⟩)
def MR{k j:Nat}(h:k<as.length):iy (as.set k v) j=if j=k then v else iy as j:=by
 unfold iy
 by_cases e:j=k
 .subst e;rw[VT h,ef rfl];rfl
 .rw[Vo (V6 e),eo e]
def Ay{k j:Nat}(e:s.n=(k:Int))(h:k<as.length):iy (eS m as s) j=if j=k then iy as k+s.sg*m else iy as j:=by
 unfold eS;rw[e,Wo];exact MR h
theorem xK{w:jU}{zs:List Int}{m:Int}:∀{p:List Tn}{as:List Int},(p.map (·.n)).Nodup->fK w zs as->(∀s∈p,∃(k:Nat) (t:kW),s.n=(k:Int)/\w.ts[k]?=Wp t/\Dz t (iy zs k) (iy as k+s.sg*m))->fK w zs (p.foldl (eS m) as)
 |[],as,_,h,_=>h
 |s::p,as,nd,h,d=>by
  rw[Vf]at nd;obtain⟨o,l⟩:=VR.mp nd;obtain⟨k,t,b,i,x⟩:=d s Ve;have f:k<as.length:=by rw[h.1];exact(Vn.mp i).1
  rw[XJ];refine xK l ⟨by rw[qH];exact h.1,λj u a=>?_⟩ λr e=>?_
  .rw[Ay b f]
   by_cases c:j=k
   .subst c
    rw[i]at a;cases a;rw[ef rfl];exact x
   .rw[eo c];exact h.2 j u a
  .obtain⟨j,u,g,v,q⟩:=d r (U9 _ e)
   refine⟨j,u,g,v,?_⟩;rw[Ay b f,eo<|λc=>o (by rw[b,←c,←g];exact VD.mpr ⟨r,e,rfl⟩)];exact q
def del(fi:Vq)(s:Tn):Int:=(if s.a=fi then 1 else 0)-(if s.b=fi then 1 else 0)
theorem xJ{fi:Vq}{ts:List kW}{m:Int}:∀{p:List Tn}{as:List Int},as.length=ts.length->(∀s∈p,∃(k:Nat) (t:kW),s.n=(k:Int)/\ts[k]?=Wp t/\s.sg*ek fi t=del fi s)->jL fi ts (p.foldl (eS m) as)=jL fi ts as+m*(p.map<|del fi).sum
 |[],as,_,_=>by simp
 |s::p,as,a,h=>by
  obtain⟨k,t,g,b,f⟩:=h s Ve;have d:k<as.length:=by rw[a];exact(Vn.mp b).1
  rw[XJ,xJ (by rw[qH];exact a)<|λr c=>h r<|U9 _ c,Vf,Yw];have e:eS m as s=as.set k (iy as k+s.sg*m):=by unfold eS;rw[g,Wo]
  rw[e,Ef b d,Int.mul_add,←f];have:s.sg*m*ek fi t=m*(s.sg*ek fi t):=by rw[Y7 s.sg m,Int.mul_assoc]
  omega
def Mr{k:Vq}(j:Lk fi p k)(i:p≠[])(d:∀s∈p,s.b≠fi)(g:∀s∈p.tail,s.a≠fi):(p.map<|del fi).sum=1:=by
 cases p with
 |nil=>exact er rfl i
 |cons t p=>
  have z:∀(q:List Tn),(∀s∈q,s.a≠fi/\s.b≠fi)->(q.map<|del fi).sum=0:=by
   intro q
   induction q with
   |nil=>intro _;rfl
   |cons s q e=>
    intro h;rw[Vf,Yw,e λu f=>h u<|U9 _ f];unfold del;rw[eo (h s Ve).1,eo (h s Ve).2];rfl
  rw[Vf,Yw,z p λs c=>⟨g s c,d s<|U9 _ c⟩];unfold del;rw[ef j.1,eo<|d t Ve];rfl
section
variable {w:jU}{zs as:List Int}{ks:db}
def mw(h:s∈cZ w zs ks as):∃(k:Nat) (t:kW),s.n=(k:Int)/\w.ts[k]?=Wp t/\k∉ks/\0<s.c/\((s.sg=1/\s.a=t.a/\s.b=t.b/\s.c=iy zs k-iy as k)∨(s.sg=-1/\s.a=t.b/\s.b=t.a/\s.c=r8 zs as k t)):=by
 obtain⟨k,t,g,f,d,e⟩:=IU h;unfold m8 at d;rcases Vl.mp d with rfl|d
 .exact⟨k,t,rfl,g,f,e,.inl ⟨rfl,rfl,rfl,rfl⟩⟩
 .obtain rfl:=VL.mp d
  exact⟨k,t,rfl,g,f,e,.inr ⟨rfl,rfl,rfl,rfl⟩⟩
def KO(m:s∈cZ w zs ks as)(l:u∈cZ w zs ks as)(e:s.n=u.n):s.b=u.b∨(u.b=s.a/\s.b=u.a):=by
 obtain⟨k,t,x,v,_,_,q⟩:=mw m;obtain⟨j,r,p,i,_,_,o⟩:=mw l;have:k=j:=by have:=x.symm.trans (e.trans p);omega
 subst this;rw[v]at i;cases i;rcases q with⟨_,g,d,_⟩|⟨_,g,d,_⟩<;>rcases o with⟨_,f,c,_⟩|⟨_,f,c,_⟩
 .exact .inl<|d.trans c.symm
 .exact .inr ⟨c.trans g.symm,d.trans f.symm⟩
 .exact .inr ⟨c.trans g.symm,d.trans f.symm⟩
 .exact .inl<|d.trans c.symm
def GW(h:s∈cZ w zs ks as):∃(k:Nat) (t:kW),s.n=(k:Int)/\w.ts[k]?=Wp t/\s.sg*ek fi t=del fi s:=by
 obtain⟨k,t,f,e,_,_,d⟩:=mw h;refine⟨k,t,f,e,?_⟩;unfold ek del;rcases d with⟨c,b,a,_⟩|⟨c,b,a,_⟩<;>rw[c,b,a]<;>split<;>split<;>rfl
def GV(A:fK w zs as)(h:s∈cZ w zs ks as)(i:0<=m)(j:m<=s.c):∃(k:Nat) (t:kW),s.n=(k:Int)/\w.ts[k]?=Wp t/\Dz t (iy zs k) (iy as k+s.sg*m):=by
 obtain⟨k,t,g,e,_,_,f⟩:=mw h;refine⟨k,t,g,e,?_⟩;obtain⟨l,d⟩:=A.2 k t e;unfold Dz;rcases f with⟨b,_,_,a⟩|⟨b,_,_,a⟩
 .rw[b,Int.one_mul]
  refine⟨by omega,?_⟩;split<;>rename_i c<;>(first|rw[ef c]at d|rw[eo c]at d)<;>omega
 .rw[b]
  unfold r8 at a;refine⟨by omega,?_⟩;split<;>rename_i c<;>(first|rw[ef c]at a|rw[eo c]at a)<;>omega
end
structure Qt (w:jU) (zs:List Int):Prop where
 l:zs.length=w.ts.length
 nn:∀k,0<=iy zs k
 bd:∀k,2*(iy zs k).natAbs<Ad
abbrev fT:bv:=ag 3#6 4#6 zP
noncomputable abbrev US:ci :=
 (ar (aJ 1<|ak (ae 1#6<|ae (ag 4#6 3#6 l6)<|ae (ak (ae (ag 4#6 3#6 l6) av) K37.m_least_room) av) K37.m_sent_along)
 (ar (aJ 4<|ak (ae (qY K37.lt_filled 0<|ae 1#6 av)<|ae 2#6 av) K37.m_fewest_turns)
 au))
def Bw{lt:LT}:qY lt 0 b (.sh (.ob (.fn q) a)::r)=(b (.sh (.ob (.fn q) a)::r)).bind (lt q a):=rfl
def A0(w:jU)(ks:db)(zs:List Int)(B:Int):D:=.ob (.fn<|xr "most_flow") [aI w,cF ks,.tup [.lst<|zs.map D.int,.int B]]
section
variable {w:jU}{zs as:List Int}{ks:db}{G:List wH}{p:List Tn}{la fi:Vq}{B:Int}
def HE(W:cI w)(Z:Qt w zs)(A:fK w zs as)(H:Bf (cZ w zs ks as) fi G)(v:dQ G la=Wp p)(l:fi≠la) :
  p≠[]/\p.length<=28/\0<fD p/\(fD p).natAbs<Ad/\(∀s∈p,M0 as.length s)/\fK w zs (p.foldl (eS<|fD p) as)/\jL fi w.ts (p.foldl (eS<|fD p) as)=jL fi w.ts as+fD p:=by
 have g:=uX v;have lk:Lk fi p la:=H.lk _ g;have f:p≠[]:=by
  rintro rfl;exact l lk
 have d:∀s∈p,s∈cZ w zs ks as:=λs a=>(H.tk _ g s a).1;have i:∀s∈p,s.b≠fi:=λs a=>(H.tk _ g s a).2.1;have y:p.length<G.length:=H.ln _ g;have U:=H.len;have E:=uN (zs:=zs) (as:=as) (ks:=ks) W;obtain⟨t,q,m⟩:=CV f;obtain⟨k,u,_,O,_,N,M⟩:=mw<|d t q;have Q:=(A.2 k u O).abs<|Z.nn k;have C:=Z.bd k;have x:=Z.nn k;have T:t.c.natAbs<=2*(iy zs k).natAbs:=by
  rcases M with⟨_,_,_,e⟩|⟨_,_,_,e⟩
  .omega
  .unfold r8 at e
   split at e<;>omega
 have nd:(p.map (·.n)).Nodup:=uD lk (VR.mpr ⟨λz=>by
  obtain⟨s,a,e⟩:=VD.mp z;exact i s a e,H.nb _ g⟩) λs a u o e=>KO (d s a) (d u o) e
 refine⟨f,by omega,by rw[m];exact N,by rw[m];omega,λs a=>?_,xK nd A λs a=>GV A (d s a) (by rw[m];omega)<|FD a,?_⟩
 .obtain⟨j,r,L,J,_,_,I⟩:=mw (d s a)
  exact⟨⟨j,L,by rw[A.1];exact(Vn.mp J).1⟩,I.imp (λz=>z.1) λz=>z.1⟩
 .rw[xJ A.1 λs a=>GW<|d s a,Mr lk f i<|H.fa _ g,Int.mul_one]
def Pt(W:cI w)(Z:Qt w zs)(d:fi≠la){Q:List Int->Prop}(M:∀(as:List Int) (G:List wH) (p:List Tn),fK w zs as->Bf (cZ w zs ks as) fi G->dQ G la=Wp p->Q as->Q (p.foldl (eS<|fD p) as)):∀(f:Nat) (as:List Int) (G:List wH),Q as->fK w zs as->Bf (cZ w zs ks as) fi G->Dx (cZ w zs ks as) G->(yO zs:Int)<jL fi w.ts as+f ->
  ∃a c,Q a/\fK w zs a/\Bf (cZ w zs ks a) fi c/\Dx (cZ w zs ks a) c/\dQ c la=Wb /\
   cu fT US f [.sh<|A0 w ks zs B,.sh<|.lst<|as.map D.int,.sh<|.str fi,.sh<|.str la,.sh<|fB G]=.ok (.nx [.sh<|A0 w ks zs B,.sh<|.lst<|a.map D.int,.sh<|.str fi,.sh<|.str la,.sh<|fB c]):=by
 have s:=W.t14;intro f
 induction f with
 |zero=>
  intro as G _ A _ _ h;have:=Iq (fi:=fi) (zs:=zs) (as:=as) (λt J=>(W.ts t J).ne) (λk t L=>(A.2 k t L).abs<|Z.nn k) Z.l;omega
 |succ f I=>
  intro as G i A H S h;cases b:dQ G la with
  |none=>
   refine⟨as,G,i,A,H,S,b,iN ?_⟩;have e:zP (.str la) (fB G)=.ok (.bl Vd):=by rw[Pm,b];rfl
   erw[e]
  |some p=>
   obtain⟨y,r2,r3,x,v,g,u⟩:=HE W Z A H b d;obtain⟨Y,E,C,z⟩:=yg (ts:=cZ w zs ks<|p.foldl (eS<|fD p) as) (fi:=fi) (by have:=uN (zs:=zs) (as:=p.foldl (eS<|fD p) as) (ks:=ks) W;omega);obtain⟨a,c,r,q,o,n,m,j⟩:=I _ Y (M as G p A H b i) g E C (by rw[u];omega);refine⟨a,c,r,q,o,n,m,?_⟩;rw[←j];refine ll ?_ ?_
   .have e:zP (.str la) (fB G)=.ok (.bl VO):=by rw[Pm,b];rfl
    erw[e]
   .have U:=RQ b
    have T:=IV y 0#2;have O:=K3 x (by rw[A.1];omega) v;have N:=zt (B:=B) (ks:=ks) W Z.l g.1;unfold A0;erw[U,T,O,Bw,N,z]
end
theorem DM:∀(zs:List Int),Hg (zs.map D.int)=yO zs
 |[]=>rfl
 |z::zs=>by
  rw[Vf,Hg,DM zs];unfold yO;rw[Vf,Yw]
def dF(n:Nat):List Int:=Vt n 0
def Gn{n k:Nat}:iy (dF n) k=0:=by
 unfold iy dF;rw[VY];split<;>rfl
theorem mF:∀(ts:List kW) (n:Nat),jL fi ts (dF n)=0
 |[],n=>by cases n<;>rfl
 |_::_,0=>rfl
 |t::ts,n+1=>by
  show 0*ek fi t+jL fi ts (dF n)=0;rw[mF ts n,sap,Int.zero_add]
section
variable {w:jU}{zs:List Int}{ks:db}{la fi:Vq}{B:Int}
def xB(Z:Qt w zs):fK w zs (dF w.ts.length):=⟨V3 ..,λk t _=>by
 rw[Gn];have:=Z.nn k;unfold Dz;split<;>omega⟩
def FU(W:cI w)(Z:Qt w zs)(d:fi≠la){Q:List Int->Prop}(u:∀(as:List Int) (G:List wH) (p:List Tn),fK w zs as->Bf (cZ w zs ks as) fi G->dQ G la=Wp p->Q as->Q (p.foldl (eS<|fD p) as))(t:Q<|dF w.ts.length):∃a b,Q a/\fK w zs a/\Bf (cZ w zs ks a) fi b/\Dx (cZ w zs ks a) b/\dQ b la=Wb /\
  K37.m_filled [A0 w ks zs B,.lst<|(dF w.ts.length).map D.int,.str fi,.str la]=.ok (.tup [.lst<|a.map D.int,fB b]):=by
 have v:=uN (zs:=zs) (as:=dF w.ts.length) (ks:=ks) W;obtain⟨G,q,o,n⟩:=yg (ts:=cZ w zs ks<|dF w.ts.length) (fi:=fi) 0#2;obtain⟨a,b,m,j,i,g,f,e⟩:=Pt (B:=B) (ks:=ks) W Z d u (yO zs+1) (dF w.ts.length) G t (xB Z) q o (by rw[mF];omega);refine⟨a,b,m,j,i,g,f,?_⟩;have x:=zt (B:=B) (ks:=ks) W Z.l (xB Z).1;have hw:∀(c:bv) (s:ci) (r:Ev),ib Jn c s (.sh (A0 w ks zs B)::r)=cu c s (yO zs+1) (.sh (A0 w ks zs B)::r):=λc s r=>by
  show cu c s (Hg (zs.map D.int)+1) _=_;rw[DM]
 unfold A0 at e hw ⊢;erw[K37.m_filled,K37.b_filled,Bw,x,n,hw,e]
end
def LO(G:List wH):jr (fB G)=VO:=by
 show noFns (G.map λe=>pD e.2)=VO;refine eI (λe=>?_) G;show noFns (e.2.map iA)=VO;exact eI (λ_=>rfl) _
def BM(W:cI w)(Z:Qt w zs){Q:List Int->Prop}(i:∀(as:List Int) (G:List wH) (p:List Tn),fK w zs as->Bf (cZ w zs ks as) w.fi G->dQ G w.la=Wp p->Q as->Q (p.foldl (eS<|fD p) as))(c:Q<|dF w.ts.length):∃a b,Q a/\fK w zs a/\Bf (cZ w zs ks a) w.fi b/\Dx (cZ w zs ks a) b/\dQ b w.la=Wb /\
  wc (ae 4#6<|ae (ag 0#6 2#0 aE)<|ae (ag 0#6 3#0 aE) av) 0 (xr "most_flow") [0,2,3] K37.m_filled [.sh<|aI w,.sh R,.sh<|cF ks,.sh<|.tup [.lst<|zs.map D.int,.int B],.sh<|.lst<|(dF w.ts.length).map D.int,x5,x6]=.ok (.tup [.lst<|a.map D.int,fB b]):=by
 obtain⟨a,b,q,o,n,m,l,j⟩:=FU (B:=B) (ks:=ks) W Z W.ne i c;refine⟨a,b,q,o,n,m,l,?_⟩;have f:aE (aI w) (.int 2)=.ok (.str w.fi):=rfl;have e:aE (aI w) (.int 3)=.ok (.str w.la):=rfl;have r:(ae 4#6<|ae (ag 0#6 2#0 aE)<|ae (ag 0#6 3#0 aE) av) [.sh<|aI w,.sh R,.sh<|cF ks,.sh<|.tup [.lst<|zs.map D.int,.int B],.sh<|.lst<|(dF w.ts.length).map D.int,x5,x6]=.ok [.lst<|(dF w.ts.length).map D.int,.str w.fi,.str w.la]:=by
  erw[f,e]
 have g:jr (.tup [.lst<|a.map D.int,fB b])=VO:=by
  have d:noFns (a.map D.int)=VO:=eI (λ_=>rfl) _;show(noFns (a.map D.int)&&(jr (fB b)&&VO))=VO;rw[d,LO];rfl
 unfold wc;rw[r];show zB (K37.m_filled [A0 w ks zs B,.lst<|(dF w.ts.length).map D.int,.str w.fi,.str w.la])=_;rw[j];exact ef g
structure sP (w:jU) (xs:List iz):Prop where
 l:xs.length=w.ts.length
 f:∀x∈xs,eF x/\0<=x.1
def zR(xs:List iz):List Int:=xs.map λx=>x.1*(nZ xs / x.2)
section
variable {w:jU}{xs:List iz}(W:cI w) (R:sP w xs)
include W R
theorem EN:0<nZ xs/\(nZ xs).natAbs<=2 ^ 2800/\∀x∈xs,x.2∣nZ xs:=by
 have h:=JU (xs:=xs) (λx a=>(R.f x a).1) 1 0 ⟨by decide,by decide⟩;obtain⟨⟨d,c⟩,_,b⟩:=h;refine⟨d,?_,λx a=>b _ a⟩;refine Vr c (WA 0#1 ?_);have:=W.t14;have:=R.l;omega
theorem Qw:Qt w (zR xs):=by
 have b:=EN W R;have at_:∀k,iy (zR xs) k=match xs[k]? with|some x=>x.1*(nZ xs / x.2)|none=>0:=λk=>by
  unfold iy zR;rw[Vh];cases xs[k]?<;>rfl
 refine⟨by unfold zR;rw[U8];exact R.l,λk=>?_,λk=>?_⟩
 .rw[at_]
  cases e:xs[k]? with
  |none=>exact YU _
  |some x=>
   obtain⟨a,c⟩:=R.f x<|VQ e;have:=a.q1;exact Int.mul_nonneg c (ZN (by have:=b.1;omega)<|by omega)
 .rw[at_]
  cases e:xs[k]? with
  |none=>show 2*(0:Int).natAbs<_;rw[rz];exact Za 0#1
  |some x=>
   obtain⟨a,c⟩:=R.f x<|VQ e;show 2*(x.1*(nZ xs / x.2)).natAbs<_;have g:x.1.natAbs<2 ^ 200:=Vk a.pN 0#1;have d:(nZ xs / x.2).natAbs<=2 ^ 2800:=Vr (WM _ _) b.2.1;rw[XZ];have j:x.1.natAbs*(nZ xs / x.2).natAbs<2 ^ 200*2 ^ 2800:=ZW g d (Za<|by decide);have i:2*(2 ^ 200*2 ^ 2800)<=Ad:=by
    rw[rz,←Zb,show(2:Nat)*2 ^ (200+2800)=2 ^ (1+(200+2800)) by rw[Zb 2 1]];exact WA 0#1 0#1
   omega
theorem yR:m_on_one_scale [.lst<|xs.map fr]=.ok (.tup [.lst<|(zR xs).map D.int,.int<|nZ xs]):=by
 have b:=W.t14;have a:=Hl (os:=xs.map Wp) (by rw[U8];have:=R.l;omega) (λx d=>by
  obtain⟨y,c,e⟩:=VD.mp d;cases e;exact(R.f x c).1)
 rw[Pth.somes_some]at a;rw[Wk,Wk]at a;have i:xs.map (cK∘Wp)=xs.map fr:=rfl;have g:xs.map (wI (nZ xs)∘Wp)=(zR xs).map D.int:=by unfold zR;rw[Wk];rfl
 rwa[i,g]at a
end
theorem wz:∀ds:ac,fw (ds.map λ_=>.bl VO)=Wp (ds.map λ_=>VO)
 |[]=>rfl
 |d::ds=>by rw[Vf,fw,wz ds];rfl
def J4{ds:ac}:p8 (.lst<|ds.map λ_=>.bl VO)=.ok (.bl VO):=by
 unfold p8;simp only[wz]
 congr 2
 rw[V2];intro b a;obtain⟨_,_,rfl⟩:=VD.mp a;rfl
def yz{a:Type}(L:List a):p8 (.lst<|L.map λ_=>D.bl VO)=.ok (.bl VO):=by
 have:=J4 (ds:=L.map λ_=>D.non);rwa[Wk]at this
section
variable {w:jU}{xs:List iz}(W:cI w) (R:sP w xs)
include W R
theorem Pl:K51.m_has_lengths [aI w,.lst<|xs.map fr]=.ok (.bl VO):=by
 have b:=W.t14;have d:=R.l;have g:aE (aI w) (.int 1)=.ok (.lst<|w.ts.map bo):=rfl;have i:∀A,c6 1 [] (bK 0) mYes (ak (ae 0#6 av) Com.m_is_length) A (xs.map fr)=.ok (.lst<|xs.map λ_=>D.bl VO):=λA=>by
  rw[K51.comp_pick fr (λ_=>Wp<|.bl VO) 0#2]
  .rw[←XT];rfl
  .intro x a
   have e:=lK (R.f x a).1.toLow (R.f x a).2;refine⟨[.sh<|fr x],rfl,.inr ⟨_,rfl,rfl,?_⟩⟩;erw[e]
 have j:p8 (.lst<|xs.map λ_=>D.bl VO)=.ok (.bl VO):=yz xs;have c:iE (.int ((xs.length:Nat):Int)) (.int ((w.ts.length:Nat):Int))=.ok (.bl Vd):=by
  rw[d];show aw.ok (D.bl (!(_==_)))=_;rw[eu];rfl
 erw[K51.m_has_lengths,K51.b_has_lengths,g,U8,c,i,j]
theorem yU:K37.m_look_at_rooms [aI w,.lst<|xs.map fr]=.ok .non:=by
 have b:=Nwb.webX W;have a:=Pl W R;erw[K37.m_look_at_rooms,K37.b_look_at_rooms,b,a]
end
def Nm(w:jU)(G:List wH):cr:=w.ps.filter λk=>(dQ G k).isSome
theorem qI:∀(L:cr),(L.filterMap λk=>if(dQ G k).isSome=VO then Wp (D.str k) else Wb)=(L.filter λk=>(dQ G k).isSome).map D.str
 |[]=>rfl
 |k::L=>by
  rw[Wd,Y3]
  by_cases h:(dQ G k).isSome=VO
  .simp only[ef h,Vf,qI L]
  .simp only[eo h,qI L]
theorem xA:∀(xs:List iz),(xs.filterMap λ_=>Wp<|D.int 0)=(dF xs.length).map D.int
 |[]=>rfl
 |x::xs=>by rw[Wd];simp only;rw[xA xs];rfl
section
variable {w:jU}{xs:List iz}{ks:db}(W:cI w) (R:sP w xs) (T:K37.m_look_at_taking [aI w,cF ks]=.ok .non)
include W R in
theorem Qx(k:Nat):(iy (zR xs) k).natAbs<2 ^ 200*2 ^ 2800:=by
 have c:=EN W R;unfold iy zR;rw[Vh];cases e:xs[k]? with
 |none=>show(0:Int).natAbs<_;exact Nat.mul_pos (Za<|by decide) (Za<|by decide)
 |some x=>
  have d:=(R.f x<|VQ e).1;show(x.1*(nZ xs / x.2)).natAbs<_;have b:x.1.natAbs<2 ^ 200:=Vk d.pN 0#1;have a:(nZ xs / x.2).natAbs<=2 ^ 2800:=Vr (WM _ _) c.2.1;rw[XZ];exact ZW b a (Za<|by decide)
include W R T
theorem LR{Q:List Int->Prop}(hQ:∀(as:List Int) (G:List wH) (p:List Tn),fK w (zR xs) as->Bf (cZ w (zR xs) ks as) w.fi G->dQ G w.la=Wp p->Q as->Q (p.foldl (eS<|fD p) as))(I:Q<|dF w.ts.length):∃i j,Q i/\fK w (zR xs) i/\Bf (cZ w (zR xs) ks i) w.fi j/\Dx (cZ w (zR xs) ks i) j/\dQ j w.la=Wb /\
  K37.m_most_flow [aI w,.lst<|xs.map fr,cF ks]=.ok (.tup [.lst<|(i.map λa=>kH a<|nZ xs).map fr,.lst<|(Nm w j).map D.str]):=by
 have z:=W.t14;have n7:=W.n7;have Y:=R.l;have Z:=Qw W R;have v:=EN W R;obtain⟨i,j,h0,m,h2,h3,h4,h5⟩:=BM (B:=nZ xs) (ks:=ks) (R:=.lst<|xs.map fr) (x5:=.no) (x6:=.no) W Z hQ I;refine⟨i,j,h0,m,h2,h3,h4,?_⟩;have H:=yU W R;have E:=T;have C:=yR W R;have L:aE (aI w) (.int 0)=.ok (.lst<|w.ps.map D.str):=rfl;have U:∀A,c6 1 [] (bK 0) mYes 0#0 A (xs.map fr)=.ok (.lst<|(dF w.ts.length).map D.int):=λA=>by
  rw[K51.comp_pick fr (λ_=>Wp<|.int 0) 0#2]
  .rw[←Y,xA]
  .intro x hx
   exact⟨[.sh<|fr x],rfl,.inr ⟨_,rfl,rfl,rfl⟩⟩
 have J:∀d e:D,aE (.tup [d,e]) (.int 0)=.ok d:=λ_ _=>rfl;have n:∀d e:D,aE (.tup [d,e]) (.int 1)=.ok e:=λ_ _=>rfl;have N:∀a b c d e x,c6 1 [5] (bK 0) (ag 0#6 (ag 1#6 1#0 aE) zP) 0#6 [a,b,c,d,e,.sh<|.tup [.lst<|i.map D.int,fB j],x] (w.ps.map D.str)=.ok (.lst<|(Nm w j).map D.str):=λa b c d e x=>by
  rw[K51.comp_pick D.str (λk=>if(dQ j k).isSome=VO then Wp (D.str k) else Wb) 0#2]
  .rw[qI];rfl
  .intro k s
   have q:=Pm (F:=j) (k:=k)
   by_cases h:(dQ j k).isSome=VO
   .rw[h]at q
    refine⟨[.sh<|.str k,.sh<|.tup [.lst<|i.map D.int,fB j]],rfl,.inr ⟨_,ef h,?_,rfl⟩⟩;erw[n,q]
   .rw[show(dQ j k).isSome=Vd by simpa using h]at q
    refine⟨[.sh<|.str k,.sh<|.tup [.lst<|i.map D.int,fB j]],rfl,.inl ⟨eo h,?_⟩⟩;erw[n,q]
 have O:∀a b c e f x,c6 1 [3] (bK 0) mYes (ak (ae 0#6<|ae (ag 1#6 1#0 aE) av) m_ratio) [a,b,c,.sh<|.tup [.lst<|(zR xs).map D.int,.int<|nZ xs],e,f,x] (i.map D.int)=.ok (.lst<|(i.map λa=>kH a<|nZ xs).map fr):=λa b c e f x=>by
  rw[K51.comp_pick D.int (λa=>Wp<|fr<|kH a<|nZ xs) (by have:=m.1;omega)]
  .rw[Wk,←XT];rfl
  .intro y M
   have q:m_ratio [.int y,.int<|nZ xs]=.ok (fr<|kH y<|nZ xs):=by
    obtain⟨k,s,ek⟩:=saJ.mp M;have r:iy i k=y:=by unfold iy;rw[U7 s,ek];rfl
    have o:k<w.ts.length:=by rw[←m.1];exact s
    have f:=(m.2 k _<|U7 o).abs<|Z.nn k;rw[r]at f;have g:=Qx W R k;have u:2 ^ 200*2 ^ 2800<=wR:=by rw[mn,←Zb];exact WA 0#1 0#1
    have t:2 ^ 2800<wR:=by rw[mn];exact Yy 0#1 0#1
    exact uh v.1 (VN f<|Vk g u)<|VN v.2.1 t
   refine⟨[.sh<|.int y,.sh<|.tup [.lst<|(zR xs).map D.int,.int<|nZ xs]],rfl,.inr ⟨_,rfl,rfl,?_⟩⟩;erw[n,q]
 erw[K37.m_most_flow,K37.b_most_flow,H,E,C,U,h5,J,N,L,O]
end
open K54 (lO)
open K11 (cO)
def ik:iz:=(0,1)
def oG:eF ik:=⟨⟨by decide,by decide⟩,by decide,by decide⟩
def ET(e:eF x)(j:0<=x.1):K37.m_is_amount [bo t,fr x,fr ik]=.ok (.bl VO):=by
 have g:=ny oG.toLow;have a:=C1 e oG;have f:flt x ik=Vd:=by
  unfold flt ik;simp;omega
 rw[f]at a;have a:K37.m_is_less [fr x,.tup [.int 0,.int 1]]=.ok (.bl Vd):=a;have d:aE (fr ik) (.int 0)=.ok (.int 0):=rfl;have c:aE (fr ik) (.int 1)=.ok (.int 1):=rfl;have lt:B4 (.int 0) (.int 0)=.ok (.bl Vd):=rfl;have i:xu (.int 0)=.ok (.int 0):=rfl;have b:bI [.int 0,.int 1]=.ok (fr ik):=rfl;erw[K37.m_is_amount,K37.b_is_amount,g,d,c,lt,i,b,a]
noncomputable abbrev aB:ci :=
 (ar (aJ 6<|Km (ag 4#6 2#6 nY) (dC<|.tup [(.int 0),(.int 1)])<|ag 1#6 4#6 aE)
 (ar (dG (cD<|ak (ae (ag (ag 0#6 1#0 aE) 4#6 aE)<|ae 6#6<|ae 5#6 av) K37.m_is_amount)
 (ar (kC "NoFlow" 1<|ae 4#6 av)
 au)
 au)
 au))
section
variable {w:jU}{xs:List iz}{ks:db}{A:D}{k:Nat}{x6:Sl}
def MS(R:sP w xs)(i:k<w.ts.length):∃m,aB [.sh<|aI w,.sh<|.lst<|xs.map fr,.sh<|cF ks,.sh A,.sh<|.int (k:Int),.sh<|fr ik,x6]=.ok (.nx [.sh<|aI w,.sh<|.lst<|xs.map fr,.sh<|cF ks,.sh A,.sh<|.int (k:Int),.sh<|fr ik,m]):=by
 have j:aE (aI w) (.int 1)=.ok (.lst<|w.ts.map bo):=rfl;have a:nY (.int (k:Int)) (cF ks)=.ok (.bl (decide (k∈ks))):=K11.in_nums;have e:aE (.lst<|w.ts.map bo) (.int (k:Int))=.ok (bo w.ts[k]):=c5 (by rw[Vh,U7 i];rfl);have b:k<xs.length:=by rw[R.l];exact i
 have o:aE (.lst<|xs.map fr) (.int (k:Int))=.ok (fr xs[k]):=c5 (by rw[Vh,U7 b];rfl)
 by_cases c:k∈ks
 .rw[dV c]at a
  have d:=ET (t:=w.ts[k]) (x:=ik) oG<|YU 0;have n:D.tup [.int 0,.int 1]=fr ik:=rfl;refine⟨.sh<|fr ik,?_⟩;erw[j,a,e,n,d]
 .rw[en c]at a
  have g:=R.f xs[k]<|Ww b;have d:=ET (t:=w.ts[k]) g.1 g.2;refine⟨.sh<|fr xs[k],?_⟩;erw[j,a,e,o,d]
def J0(W:cI w)(R:sP w xs):K37.m_look_at_amounts [aI w,.lst<|xs.map fr,cF ks,.lst<|(Vt w.ts.length ik).map fr]=.ok .non:=by
 have m:aE (aI w) (.int 1)=.ok (.lst<|w.ts.map bo):=rfl;obtain⟨g,e,c,b,x6,rfl⟩:=lO (tg:=dE [4,5]) (body:=aB) fr (L:=Vt w.ts.length ik) (λpre d=>∃c b x6,d=[.sh<|aI w,.sh<|.lst<|xs.map fr,.sh<|cF ks,.sh<|.lst<|(Vt w.ts.length ik).map fr,c,b,x6]) (λpre a post f d z9=>by
  obtain⟨c,b,x6,p⟩:=z9;subst p;have o:a=ik:=X7 (n:=w.ts.length) (by rw[f];simp);subst o;have l:pre.length<w.ts.length:=by
   have:=ew YA f;simp at this;omega
  obtain⟨i,q⟩:=MS (ks:=ks) (A:=.lst<|(Vt w.ts.length ik).map fr) (x6:=x6) R l;exact⟨_,_,rfl,q,.sh<|.int (pre.length:Int),.sh<|fr ik,i,rfl⟩) ⟨.no,.no,.no,rfl⟩
 have j:iE (.int ((w.ts.length:Nat):Int)) (.int ((w.ts.length:Nat):Int))=.ok (.bl Vd):=by
  show aw.ok (D.bl (!(_==_)))=_;rw[eu];rfl
 erw[K37.m_look_at_amounts,K37.b_look_at_amounts,m,U8,V3,j,e]
end
open K11 (cO)
noncomputable abbrev gB:ci :=
 (ar (dG (ag (ag 4#6 0#0 aE) 2#6 gZ)
 (ar (aJ 3<|ag 3#6 5#6 aV)
 au)
 au)
 (ar (dG (ag (ag 4#6 1#0 aE) 2#6 gZ)
 (ar (aJ 3<|ag 3#6 5#6 ke)
 au)
 au)
 au))
section
variable {A B:D}{p:Vq}{x:Int}{t:kW}
def Pn:gB [.sh A,.sh B,.sh<|.str p,.sh<|.int c,.sh<|bo t,.sh<|.int x]=.ok (.nx [.sh A,.sh B,.sh<|.str p,.sh<|.int<|c+x*ek p t,.sh<|bo t,.sh<|.int x]):=by
 have g:aE (bo t) (.int 0)=.ok (.str t.a):=rfl;have f:aE (bo t) (.int 1)=.ok (.str t.b):=rfl;have i:∀a b:Int,ke (.int a) (.int b)=.ok (.int<|a-b):=λ_ _=>rfl;unfold ek
 by_cases e:t.a=p<;>by_cases d:t.b=p
 .rw[ef e,ef d,show c+x*(1-1)=c+x-x by simp]
  erw[g,f,cO,dV e,dV d,i]
 .rw[ef e,eo d,show c+x*(1-0)=c+x by simp]
  erw[g,f,cO,dV e,en d,i]
 .rw[eo e,ef d,show c+x*(0-1)=c-x by simp;omega]
  erw[g,f,cO,en e,dV d,i]
 .rw[eo e,eo d,show c+x*(0-0)=c by simp]
  erw[g,f,cO,en e,en d,i]
theorem Jl:∀(ts:List kW) (as:List Int) (c:Int) (x4 x5:Sl),ts.length=as.length->∃b a,bT (dE [4,5]) gB (c8 (ts.map bo)<|as.map D.int) [.sh A,.sh B,.sh<|.str p,.sh<|.int c,x4,x5]=.ok (.nx [.sh A,.sh B,.sh<|.str p,.sh<|.int<|c+jL p ts as,b,a])
 |[],as,c,x4,x5,h=>by
  refine⟨x4,x5,?_⟩;have:jL p [] as=0:=by cases as<;>rfl
  rw[this,Int.add_zero];rfl
 |t::ts,[],_,_,_,h=>by simp at h
 |t::ts,x::as,c,x4,x5,h=>by
  obtain⟨b,a,e⟩:=Jl ts as (c+x*ek p t) (.sh<|bo t) (.sh<|.int x) (by simpa using h);refine⟨b,a,?_⟩;show bT (dE [4,5]) gB (.tup [bo t,.int x]::c8 (ts.map bo) (as.map D.int)) _=_;rw[dr (ρ1:=[.sh A,.sh B,.sh<|.str p,.sh<|.int c,.sh<|bo t,.sh<|.int x]) rfl Pn,e];show _=aw.ok (Fl.nx [.sh A,.sh B,.sh<|.str p,.sh<|.int<|c+(x*ek p t+jL p ts as),b,a]);rw[Int.add_assoc]
def Eu(h:as.length=w.ts.length):K37.m_goes_from [aI w,.lst<|as.map D.int,.str p]=.ok (.int<|jL p w.ts as):=by
 obtain⟨d,c,e⟩:=Jl (A:=aI w) (B:=.lst<|as.map D.int) (p:=p) w.ts as 0 .no .no h.symm;rw[Int.zero_add]at e;have b:aE (aI w) (.int 1)=.ok (.lst<|w.ts.map bo):=rfl;have a:K36.srcZK 1#6 [.sh<|aI w,.sh<|.lst<|as.map D.int,.sh<|.str p,.sh<|.int 0,.no,.no] (.lst<|w.ts.map bo)=.ok (c8 (w.ts.map bo)<|as.map D.int):=K36.ev_srcZ1 rfl;erw[K37.m_goes_from,K37.b_goes_from,b,K36.ev_srcZ,a,e]
end
section
variable {w:jU}{xs:List iz}{ks:db}{p:Vq}
def Gg:K37.m_is_balanced [aI w,.lst<|(dF w.ts.length).map D.int,.str p]=.ok (.bl VO):=by
 have e:=Eu (w:=w) (p:=p) (as:=dF w.ts.length)<|V3 ..;rw[mF]at e;have a:aE (aI w) (.int 2)=.ok (.str w.fi):=rfl;have g:Qs (.int 0) (.int 0)=.ok (.bl VO):=rfl;have q:gZ (.int 0) (.int 0)=.ok (.bl VO):=rfl
 by_cases c:p=w.fi
 .erw[K37.m_is_balanced,K37.b_is_balanced,e,a,cO,dV c,g]
 .erw[K37.m_is_balanced,K37.b_is_balanced,e,a,cO,en c,q]
end
open K54 (oQ)
abbrev fv(w:jU):List iz:=Vt w.ts.length ik
abbrev bB:ci :=
 (ar (dG (gm (ag 3#6 (ag 0#6 3#0 aE) iE)<|cD<|ak (ae 0#6<|ae 2#6<|ae 3#6 av) K37.m_is_balanced)
 (ar (kC "Unbalanced" 1<|ae 3#6 av)
 au)
 au)
 au)
def IE:iE (.str x) (.str y)=.ok (.bl (!(decide (x=y)))):=by
 have h:iE (.str x) (.str y)=.ok (.bl (!(x==y))):=rfl;rw[h]
 congr 3
section
variable {w:jU}{xs:List iz}{ks:db}
def nE:sP w (fv w):=⟨V3 ..,λx a=>by rw[X7 a];exact⟨oG,YU 0⟩⟩
def tP:zR (fv w)=dF w.ts.length:=by
 unfold zR fv dF;rw[List.map_replicate]
 congr 1
 exact sap _
def P9{k:Vq}:bB [.sh<|aI w,.sh A,.sh<|.lst<|(dF w.ts.length).map D.int,.sh<|.str k]=.ok (.nx [.sh<|aI w,.sh A,.sh<|.lst<|(dF w.ts.length).map D.int,.sh<|.str k]):=by
 have a:aE (aI w) (.int 3)=.ok (.str w.la):=rfl;have e:=Gg (w:=w) (p:=k)
 by_cases c:k=w.la
 .erw[a,IE,dV c,e]
 .erw[a,IE,en c,e]
def JX(W:cI w):K37.m_look_at_balance [aI w,.lst<|(fv w).map fr]=.ok .non:=by
 have c:=yR W<|nE (w:=w);rw[tP]at c;have i:aE (aI w) (.int 0)=.ok (.lst<|w.ps.map D.str):=rfl;have g:∀d e:D,aE (.tup [d,e]) (.int 0)=.ok d:=λ_ _=>rfl;obtain⟨f,e,a,rfl⟩:=oQ (tg:=bK 3) (body:=bB) D.str (L:=w.ps) (λ_ b=>∃a,b=[.sh<|aI w,.sh<|.lst<|(fv w).map fr,.sh<|.lst<|(dF w.ts.length).map D.int,a]) (λpre k post m b z9=>by
  obtain⟨a,j⟩:=z9;subst j;exact⟨_,_,rfl,P9 (w:=w) (A:=.lst<|(fv w).map fr) (k:=k),.sh<|.str k,rfl⟩) ⟨.no,rfl⟩
 erw[K37.m_look_at_balance,K37.b_look_at_balance,c,g,i,e]
def RW(W:cI w)(R:sP w xs)(T:K37.m_look_at_taking [aI w,cF ks]=.ok .non):K37.m_look_at_flow [aI w,.lst<|xs.map fr,cF ks,.lst<|(fv w).map fr]=.ok .non:=by
 have d:=yU W R;have c:=T;have b:=J0 (ks:=ks) W R;have a:=JX W;erw[K37.m_look_at_flow,K37.b_look_at_flow,d,c,b,a]
def Gp(W:cI w):K37.m_amount_of [aI w,.lst<|(fv w).map fr]=.ok (fr<|kH 0<|nZ<|fv w):=by
 have f:=yR W<|nE (w:=w);rw[tP]at f;have g:=EN W<|nE (w:=w);have m:=Nwb.webX W;have e:=Eu (w:=w) (p:=w.fi) (as:=dF w.ts.length)<|V3 ..;rw[mF]at e;have l:aE (aI w) (.int 2)=.ok (.str w.fi):=rfl;have j:∀d e:D,aE (.tup [d,e]) (.int 0)=.ok d:=λ_ _=>rfl;have i:∀d e:D,aE (.tup [d,e]) (.int 1)=.ok e:=λ_ _=>rfl;have c:2 ^ 2800<wR:=by rw[mn];exact Yy 0#1 0#1
 have r:=uh (a:=0) (b:=nZ<|fv w) g.1 (VN (Yj _) c)<|VN g.2.1 c;erw[K37.m_amount_of,K37.b_amount_of,m,f,j,i,l,e,r]
end
section
variable {w:jU}
theorem AF{z:Vq}:∀{L:cr},L.Nodup->z∈L->(L.filterMap λk=>if k=z then Wp (D.str k) else Wb)=[.str z]
 |[],_,h=>by cases h
 |k::L,nd,h=>by
  obtain⟨b,a⟩:=VR.mp nd;rw[Wd]
  by_cases c:k=z
  .subst c
   simp only[eP]
   congr 1
   rw[List.filterMap_eq_nil_iff];intro j d;exact eo (λe=>b (by rw[←e];exact d))
  .simp only[eo c]
   exact AF a (by rcases Vl.mp h with h|h;exact er h.symm c;exact h)
def C4:nY (.str x) (.lst [.str y])=.ok (.bl (decide (x=y))):=by
 have h:nY (.str x) (.lst [.str y])=.ok (.bl ((y==x)||false)):=rfl;rw[h,Zk]
 congr 2
 by_cases c:x=y
 .rw[dV c,c,eu]
 .rw[en c];exact beq_eq_false_iff_ne.mpr<|V6 c
def xV:bG (.str x) (.lst [.str y])=.ok (.bl (!(decide (x=y)))):=by
 have h:bG (.str x) (.lst [.str y])=.ok (.bl (!((y==x)||false))):=rfl;rw[h,Zk]
 congr 3
 by_cases c:x=y
 .rw[dV c,c,eu]
 .rw[en c];exact beq_eq_false_iff_ne.mpr<|V6 c
def Q0(W:cI w):K37.m_look_at_side [aI w,.lst [.str w.fi]]=.ok .non:=by
 have o:=W.n7;have f:aE (aI w) (.int 0)=.ok (.lst<|w.ps.map D.str):=rfl;have l:aE (aI w) (.int 2)=.ok (.str w.fi):=rfl;have j:aE (aI w) (.int 3)=.ok (.str w.la):=rfl;have pt:=iZ (W.nm.nm w.fi W.fi) W.fi;have c1:∀a,c6 1 [0] (bK 0) mYes (ak (ae 0#6<|ae (ag 1#6 0#0 aE) av) Com.m_is_place) [.sh<|aI w,a] [.str w.fi]=.ok (.lst [.bl VO]):=λa=>by
  rw[show[D.str w.fi]=[w.fi].map D.str from rfl,K51.comp_pick D.str (λ_=>Wp<|.bl VO) (by rw[WG];omega)]
  .rfl
  .intro k g
   obtain rfl:=VL.mp g;refine⟨[.sh<|.str w.fi,.sh<|aI w],rfl,.inr ⟨_,rfl,rfl,?_⟩⟩;erw[f,pt]
 have m:c6 1 [1] (bK 0) (ag 0#6 1#6 nY) 0#6 [.sh<|aI w,.sh<|.lst [.str w.fi]] (w.ps.map D.str)=.ok (.lst [.str w.fi]):=by
  rw[K51.comp_pick D.str (λk=>if k=w.fi then Wp (.str k) else Wb) 0#2]
  .rw[AF W.nm.nd W.fi]
  .intro k g
   have e:=C4 (x:=k) (y:=w.fi)
   by_cases c:k=w.fi
   .rw[dV c]at e
    refine⟨[.sh<|.str k,.sh<|.lst [.str w.fi]],rfl,.inr ⟨_,ef c,?_,rfl⟩⟩;erw[e]
   .rw[en c]at e
    refine⟨[.sh<|.str k,.sh<|.lst [.str w.fi]],rfl,.inl ⟨eo c,?_⟩⟩;erw[e]
 have n:p8 (.lst [.bl VO])=.ok (.bl VO):=rfl;have i:iE (.lst [.str w.fi]) (.lst [.str w.fi])=.ok (.bl Vd):=by
  have h:iE (.lst [.str w.fi]) (.lst [.str w.fi])=.ok (.bl (!((w.fi==w.fi)&&VO))):=rfl;rw[h,eu];rfl
 have d:=xV (x:=w.fi) (y:=w.fi);have b:=C4 (x:=w.la) (y:=w.fi);rw[dV rfl]at d;rw[en (V6 W.ne)]at b;erw[K37.m_look_at_side,K37.b_look_at_side,c1,n,f,m,i,l,d,j,b]
end
section
variable {w:jU}{xs:List iz}
def QX:∀s∈Pth.stepsL w ks,s.n<w.ts.length:=λs b=>by
 obtain⟨t,a,_⟩:=Pth.mem_steps.mp b;exact(Vn.mp a).1
theorem NC:∀(ts:List kW) (n:Nat),(Pth.stepsFrom ks n ts).length<=2*ts.length
 |[],n=>by simp[Pth.stepsFrom]
 |t::ts,n=>by
  rw[Pth.stepsFrom,Vs,Vp];have b:=NC (ks:=ks) ts<|n+1;have a:=Pth.stepsAt_le (ks:=ks) (n:=n) (t:=t);omega
def Tr(W:cI w):∃ns:db,(∀n∈ns,n<w.ts.length)/\ns.length<=28/\K37.m_numbers_out [aI w,cF [],.lst [.str w.fi]]=.ok (cF ns):=by
 have i:=Pth.steps_ok W (ks:=[]);have j:=W.t14;have hlen:(Pth.stepsL w []).length<=28:=by have:=NC (ks:=[]) w.ts 0;unfold Pth.stepsL;omega
 have o:c6 3 [2] (dE [0,1,2]) (gm (ag 1#6 3#6 nY)<|ag 2#6 3#6 bG) 0#6 [.sh<|aI w,.sh<|cF [],.sh<|.lst [.str w.fi]] ((Pth.stepsL w []).map Pth.stpD)=.ok (.lst<|(Pth.stepsL w []).filterMap λs=>if s.a=w.fi/\s.b≠w.fi then Wp (D.int (s.n:Int)) else Wb):=by
  rw[K51.comp_pick Pth.stpD (λs=>if s.a=w.fi/\s.b≠w.fi then Wp (D.int (s.n:Int)) else Wb) 0#2];intro s i;have d:=C4 (x:=s.a) (y:=w.fi);have e:=xV (x:=s.b) (y:=w.fi);refine⟨[.sh<|.int (s.n:Int),.sh<|.str s.a,.sh<|.str s.b,.sh<|.lst [.str w.fi]],rfl,?_⟩
  by_cases c1:s.a=w.fi
  .rw[dV c1]at d
   by_cases f:s.b=w.fi
   .rw[dV f]at e
    refine .inl ⟨eo<|λh=>h.2 f,?_⟩;erw[d,e]
   .rw[en f]at e
    refine .inr ⟨_,ef ⟨c1,f⟩,?_,rfl⟩;erw[d,e]
  .rw[en c1]at d
   refine .inl ⟨eo<|λh=>c1 h.1,?_⟩;erw[d]
 refine⟨((Pth.stepsL w []).filter λs=>decide (s.a=w.fi/\s.b≠w.fi)).map (·.n),λn m=>?_,?_,?_⟩
 .obtain⟨s,p,rfl⟩:=VD.mp m
  exact QX s (XI.mp p).1
 .rw[U8]
  exact Vr (XS _ _) hlen
 .erw[K37.m_numbers_out,K37.b_numbers_out,i,o]
  unfold cF
  congr 2
  generalize Pth.stepsL w []=L
  induction L with
  |nil=>rfl
  |cons s L g=>
   rw[Wd,Y3]
   by_cases c:s.a=w.fi/\s.b≠w.fi
   .simp only[ef c,dV c,eP,Vf,g]
   .simp only[eo c,en c,WV,eH,g]
end
def Q3(W:cI w)(R:sP w xs)(T:K37.m_look_at_taking [aI w,cF []]=.ok .non):∃y,K37.m_room_of [aI w,.lst<|xs.map fr,cF [],.lst [.str w.fi]]=.ok (fr y):=by
 have m:=yU W R;have j:=T;have i:=Q0 W;obtain⟨a,g,r,d⟩:=Tr W;have q:c6 1 [1] (bK 0) mYes (ag 1#6 0#6 aE) [.sh<|aI w,.sh<|.lst<|xs.map fr,.sh<|cF [],.sh<|.lst [.str w.fi]] (a.map λ(k:Nat)=>D.int (k:Int))=.ok (.lst<|(a.map λn=>(xs[n]?).getD ik).map fr):=by
  rw[K51.comp_pick (λ(k:Nat)=>D.int (k:Int)) (λn=>Wp<|fr<|(xs[n]?).getD ik) 0#2]
  .rw[Wk,←XT];rfl
  .intro n c
   have b:n<xs.length:=by rw[R.l];exact g n c
   have e:aE (.lst<|xs.map fr) (.int (n:Int))=.ok (fr<|(xs[n]?).getD ik):=c5 (by rw[Vh,U7 b];rfl);refine⟨[.sh<|.int (n:Int),.sh<|.lst<|xs.map fr],rfl,.inr ⟨_,rfl,rfl,?_⟩⟩;erw[e]
 have p:=Fb (xs:=a.map λn=>(xs[n]?).getD ik) (by rw[U8];omega) (λx o=>by
  obtain⟨n,c,rfl⟩:=VD.mp o;have b:n<xs.length:=by rw[R.l];exact g n c
  rw[U7 b];exact(R.f _<|Ww b).1)
 refine⟨kH (Sv<|a.map λn=>(xs[n]?).getD ik).1 (Sv<|a.map λn=>(xs[n]?).getD ik).2,?_⟩;have d:K37.m_numbers_out [aI w,cF [],.lst [.str w.fi]]=.ok (.lst<|a.map λ(k:Nat)=>D.int (k:Int)):=d;erw[K37.m_room_of,K37.b_room_of,m,j,i,d,q,p]
def drawn{ns:List Int}(i:ns.length<=63):∃(w:jU) (xs:List iz) (c1 a:List Int),Cod.di [.lst<|ns.map D.int]=.ok (aI w)/\cI w/\K37.dM [.lst<|ns.map D.int]=.ok (.lst<|xs.map fr)/\sP w xs/\Cod.bf [.lst<|ns.map D.int]=.ok (.tup [.lst<|c1.map D.int,.lst<|a.map D.int])/\a.length<=63:=by
 obtain⟨w,c1,a,e,l,d,j,W⟩:=Cod.web_cells i;obtain⟨xs,g,f,b⟩:=K34.rooms_sz e (by rw[←d];exact W.t14);exact⟨w,xs,c1,a,j,W,g,⟨by rw[f,d],λx c=>⟨(b x c).1.fin 0#1,(b x c).2⟩⟩,e,l⟩
end Flo
namespace Nwb
open PySem L2 DL Com
def UZ:R5 (.tup []) (.tup a)=.ok (.tup a):=rfl
def cut_dr{k:Nat}(h:k<=xs.length):cE xs (Wp (k:Int)) Wb=xs.drop k:=by
 unfold cE;rw[HT.sIx_nat,HT.sIx_none,Y8 h];exact Yp 0#3
def excW:j9 (exW p n)=.ob (.exf "NoWeb" ["part","number"]) [.str p,n]:=RX 0#1
def fld_part{tab:Vq->Option Bool}(h:tab "NoWeb"=Wp b):kh tab "part" (.ob (.exf "NoWeb" ["part","number"]) [x,y])=.ok x:=by
 unfold kh;simp only[h];rw[show mY "part" ["part","number"] [x,y]=Wp x by unfold mY;rw[ef rfl]]
def fld_number{tab:Vq->Option Bool}(h:tab "NoWeb"=Wp b):kh tab "number" (.ob (.exf "NoWeb" ["part","number"]) [x,y])=.ok y:=by
 unfold kh;simp only[h];rw[show mY "number" ["part","number"] [x,y]=Wp y by unfold mY;rw[eo 0#1];unfold mY;rw[ef rfl]]
def NumD(n:D):Prop:=n=.non∨∃k:Nat,n=.int (k:Int)
end Nwb
namespace K16
open PySem L2 DL Com Nwb
abbrev noTak:Kp:=⟨"NoTaking",[]⟩
def tak_all(W:cI w)(b:∀d∈ds,Wex.plainD d=VO)(h:Wex.takB w (-1) ds=Vd):m_look_at_taking [aI w,.lst ds]=.exn noTak:=by
 have a:=(Wex.tak_loop (w:=w) (L:=.sh<|.lst ds) ds (-1) .no b).2 h;have hw:=Nwb.webX W;unfold Wex.takBody at a;erw[m_look_at_taking,eO,hw,a,bu]
def tak_none(W:cI w)(h:eY "list" d=.ok (.bl Vd)):m_look_at_taking [aI w,d]=.exn noTak:=by
 have hw:=Nwb.webX W;erw[m_look_at_taking,eO,hw,h,bu,gh,eK]
def tak_yes(W:cI w):m_look_at_taking [aI w,.lst []]=.ok .non:=by
 have hw:=Nwb.webX W;have b:∀a,bT (bK 3) Wex.takBody [] a=.ok (.nx a):=λ_=>rfl;unfold Wex.takBody at b;erw[m_look_at_taking,eO,hw,b]
end K16
namespace Flo
open PySem L2 DL Com
def Ba(P:Nat->Ev->Prop)(h:∀k d,k<n->ds[k]?=Wp d->∀ρ,P k ρ->∃ρ1 ρ2,tg ρ d=.ok ρ1/\body ρ1=.ok (.nx ρ2)/\P (k+1) ρ2)(g:n<ds.length)(j:∀d,ds[n]?=Wp d->∀ρ,P n ρ->∃ρ1,tg ρ d=.ok ρ1/\body ρ1=.exn X)(p:P 0 ρ):bT tg body ds ρ=.exn X:=by
 have key:∀(m k:Nat) (ρ:Ev),k+m=n->P k ρ->bT tg body (ds.drop k) ρ=.exn X:=by
  intro m
  induction m with
  |zero=>
   intro k ρ l b;have c:k=n:=by omega
   subst c;obtain⟨ρ1,f,e⟩:=j _ (U7 g) ρ b;rw[WB g];unfold bT;rw[f,rS,e,bu]
  |succ m i=>
   intro k ρ l b;have a:k<ds.length:=by omega
   obtain⟨ρ1,ρ2,f,e,o⟩:=h k ds[k] 0#2 (U7 a) ρ b;rw[WB a,dr f e];exact i (k+1) ρ2 0#2 o
 exact key n 0 ρ 0#2 p
def Iu(a b w:D)(l:D)(o:D):D:=.tup [a,b,w,l,o]
noncomputable def P1(w:jU):ac :=
 let ps:=w.ps.map D.str
 let a:=w.ts.map bo
 let f:=D.str w.fi
 let l:=D.str w.la
 [.non,.tup [],.lst [.lst ps,.lst a,f,l],.tup [.lst ps,.lst a,f],.tup [.tup ps,.lst a,f,l],.tup [.lst<|ps.take 1,.lst a,f,l],.tup [.lst<|ps++ps.take 1,.lst a,f,l],.tup [.lst ps,.tup a,f,l],.tup [.lst ps,.lst<|a++[Iu f f (.str "one") (.tup [.int 1,.int 1]) .non],f,l],.tup [.lst ps,.lst a,f,f],.tup [.lst ps,.lst<|a++[Iu f l (.str "two") (.tup [.int 1,.int 1]) .non],f,l],.tup [.lst ps,.lst a,.str "Ab",l],.tup [.lst ps,.lst<|a++[Iu f l (.str "both") (.tup [.int (-1),.int 1])<|.tup [.int 1,.int 1]],f,l],.tup [.lst ps,.lst a,f,.non],.tup [.lst ps,.lst<|a++[Iu f l (.str "both") (.tup [.int 1,.int 1])<|.tup [.int 0,.int 1]],f,l],.tup [.lst ps,.non,f,l]]
section
variable {w:jU}(W:cI w)
include W
theorem MM(h:aE (.lst<|P1 w) i=.ok d):K37.eA [aI w,i]=.ok d:=by
 have g:=W.t14;have n:=W.n7;have hw:aI w=.tup [.lst<|w.ps.map D.str,.lst<|w.ts.map bo,.str w.fi,.str w.la]:=rfl;rw[hw];unfold P1 at h;have t:(w.ps.map D.str).length<=7:=by rw[U8];exact n
 have o:(w.ts.map bo).length<=14:=by rw[U8];exact g
 generalize w.ps.map D.str=ps at *;generalize w.ts.map bo=j at *;generalize D.str w.fi=f at *;generalize D.str w.la=l at *;dsimp only[Iu]at h;have m:∀x:ac,l5 (.lst x)=.ok (.tup x):=λ_=>rfl;have c1:cE ps Wb (Wp 1)=ps.take 1:=by
  cases ps with|nil=>rfl|cons d r=>exact Nwb.cut_id (k:=1) 0#3
 have ad:∀x y:ac,x.length<=40->y.length<=40->aV (.lst x) (.lst y)=.ok (.lst<|x++y):=λx y v u=>dX (dV<|by omega);have s:∀d,aV (.lst j) (.lst [d])=.ok (.lst<|j++[d]):=λd=>ad _ _ 0#2 0#3;have q:aV (.lst ps) (.lst<|ps.take 1)=.ok (.lst<|ps++ps.take 1):=ad _ _ 0#2 (by rw[Wc];omega);have p:∀a b c d e f x y:D,nS (.lst [a,b,c,d,e,f]) (.lst [x,y])=.ok (.lst [a,b,c,d,e,f,x,y]):=λ_ _ _ _ _ _ _ _=>rfl;open_line with[no_df,K37.eA,K37.mh,m,c1,s,q,p,h]
end
def KR(nm:iM zs){ts:List kW}(u:∀t∈ts,qw zs t)(z:ts.length<14)(hd:Nwb.TieOut zs d) :
  Nwb.m_look_at_ties [.lst<|ts.map bo++[d],.lst<|zs.map D.str]=.exn (Nwb.exW "ties"<|.int (ts.length:Int)):=by
 generalize e:ts.map bo++[d]=c;have hlen:c.length=ts.length+1:=by rw[←e,Vs,U8];rfl
 have v:bT (dE [2,3]) (ar (dG (iU (cD<|ak (ae 3#6 av) m_is_tie)<|iU (ag (ag 3#6 0#0 aE) 1#6 bG)<|ag (ag 3#6 1#0 aE) 1#6 bG) (ar (fu "NoWeb" ["part","number"]<|ae 0#"ties"<|ae 2#6 av) au) au) au) (DL.numbered 0 c) [.sh<|.lst c,.sh<|.lst<|zs.map D.str,.no,.no]=.exn (Nwb.exW "ties"<|.int (ts.length:Int)):=by
  refine Ba (n:=ts.length) (λ_ i=>∃a b,i=[.sh<|.lst c,.sh<|.lst<|zs.map D.str,a,b]) ?_ (by rw[Nwb.numbered_len,hlen];omega) ?_ ⟨.no,.no,rfl⟩
  .rintro k y m j i ⟨a,b,rfl⟩
   obtain⟨x,f,rfl⟩:=Nwb.numbered_at j;refine⟨[.sh<|.lst c,.sh<|.lst<|zs.map D.str,.sh<|.int (k:Int),.sh x],[.sh<|.lst c,.sh<|.lst<|zs.map D.str,.sh<|.int (k:Int),.sh x],pS rfl,?_,⟨_,_,rfl⟩⟩;rw[←e,VA (by rw[U8];exact m),Vh,U7 m]at f;obtain rfl:bo ts[k]=x:=by simpa using f
   have p:=u _<|Ww m;have s:=Ao nm p;generalize ts[k]=t at *;rw[show bo t=.tup [.str t.a,.str t.b,.str t.w,fr t.l,cK t.o] from rfl]at s ⊢;erw[s,gE,dV p.a,dV p.b]
  .rintro y j i ⟨a,b,rfl⟩
   obtain⟨x,f,rfl⟩:=Nwb.numbered_at j;refine⟨[.sh<|.lst c,.sh<|.lst<|zs.map D.str,.sh<|.int (ts.length:Int),.sh x],pS rfl,?_⟩;rw[←e,VF (by rw[U8];exact VB _),U8,ZA]at f;obtain rfl:d=x:=by simpa using f
   rcases hd with h|⟨h,A,B,r,rfl,g⟩
   .erw[h,cy,Nwb.ev_raiseW,bu]
   .rcases g with g|g
    .erw[h,gE,en g,cy,Nwb.ev_raiseW,bu]
    .by_cases q:A∈zs
     .erw[h,gE,en g,dV q,cy,Nwb.ev_raiseW,bu]
     .erw[h,gE,en q,cy,Nwb.ev_raiseW,bu]
 erw[Nwb.m_look_at_ties,Nwb.b_look_at_ties,en (show ¬(c.length:Int) > 14 by omega),v,bu]
def CL{zs:cr}(nd:zs.Nodup){k:Nat}(b:k<zs.length):zs[k]∉zs.take k:=by
 intro h;obtain⟨j,a,e⟩:=saJ.mp h;rw[Wc]at a;rw[List.getElem_take]at e;have:=(Yv nd).mp e;omega
def Fm(nm:iM zs)(u:2<=zs.length)(t:zs.length<7)(p:z∈zs) :
  Nwb.m_look_at_places [.lst<|zs.map D.str++[.str z]]=.exn (Nwb.exW "places"<|.int (zs.length:Int)):=by
 generalize g:zs.map D.str++[.str z]=c;have d:c=(zs++[z]).map D.str:=by rw[←g,VX];rfl
 have hlen:c.length=zs.length+1:=by rw[←g,Vs,U8];rfl
 have e:∀k,k<=zs.length->cE c Wb (Wp (k:Int))=(zs.take k).map D.str:=λk f=>by
  rw[Nwb.cut_id 0#2,d,←List.map_take,List.take_append_of_le_length f]
 have q:bT (dE [1,2]) (ar (dG (iU (cD<|ak (ae 2#6 av) m_is_name)<|ag 2#6 (dZ 0#6 cR<|bS<|af 1) nY) (ar (fu "NoWeb" ["part","number"]<|ae 0#"places"<|ae 1#6 av) au) au) au) (DL.numbered 0 c) [.sh<|.lst c,.no,.no]=.exn (Nwb.exW "places"<|.int (zs.length:Int)):=by
  refine Ba (n:=zs.length) (λ_ l=>∃a b,l=[.sh<|.lst c,a,b]) ?_ (by rw[Nwb.numbered_len,hlen];omega) ?_ ⟨.no,.no,rfl⟩
  .rintro k y f m l ⟨a,b,rfl⟩
   obtain⟨x,i,rfl⟩:=Nwb.numbered_at m;refine⟨[.sh<|.lst c,.sh<|.int (k:Int),.sh x],[.sh<|.lst c,.sh<|.int (k:Int),.sh x],pS rfl,?_,⟨_,_,rfl⟩⟩;rw[d,Vh,VA f,U7 f]at i;obtain rfl:D.str zs[k]=x:=by simpa using i
   have j:=e k<|XG f;have o:=cT<|nm.nm _<|Ww f;erw[o,j,kJ,en<|CL nm.nd f]
  .rintro y m l ⟨a,b,rfl⟩
   obtain⟨x,i,rfl⟩:=Nwb.numbered_at m;refine⟨[.sh<|.lst c,.sh<|.int (zs.length:Int),.sh x],pS rfl,?_⟩;rw[←g,VF (by rw[U8];exact VB _),U8,ZA]at i;obtain rfl:D.str z=x:=by simpa using i
   have j:=e zs.length<|VB _;rw[ZG]at j;have o:=cT<|nm.nm _ p;erw[o,j,kJ,dV p,cy,Nwb.ev_raiseW,bu]
 have s:decide ((2:Int)<=(c.length:Int))=VO:=dV 0#2;have r:decide ((c.length:Int)<=7)=VO:=dV 0#2;erw[Nwb.m_look_at_places,Nwb.b_look_at_places,s,r,q,bu]
def jc(n m:Nat):D:=if n<m then .int (n:Int) else .non
noncomputable def Ca(w:jU):ac :=
 let p:=jc w.ps.length 7
 let t:=jc w.ts.length 14
 let r:Vq->D->D:=λs d=>.tup [.str s,d]
 [r "web" .non,r "web" .non,r "web" .non,r "web" .non,r "places" .non,r "places" .non,r "places" p,r "ties" .non,r "ties" t,r "last" .non,r "ties" t,r "first" .non,r "ties" t,r "last" .non,r "ties" t,r "ties" .non]
section
variable {w:jU}(W:cI w)
include W
theorem En{n m:Nat}:∃b:Bool,B4 (.int (n:Int)) (.int (m:Int))=.ok (.bl b)/\gL (.bl b)=.ok (.int<|if b then 1 else 0)/\aE (.lst [.non,.int (n:Int)]) (.int<|if b then 1 else 0)=.ok (jc n m):=by
 by_cases h:n<m
 .refine⟨VO,?_,rfl,?_⟩
  .show aw.ok (D.bl (decide _))=_
   rw[dV 0#2]
  .unfold jc;rw[ef h];rfl
 .refine⟨Vd,?_,rfl,?_⟩
  .show aw.ok (D.bl (decide _))=_
   rw[en 0#2]
  .unfold jc;rw[eo h];rfl
theorem GN(h:aE (.lst<|Ca w) i=.ok d):K37.dJ [aI w,i]=.ok d:=by
 obtain⟨u,c,r,q⟩:=En W (n:=w.ps.length) (m:=7);obtain⟨t,b,p,o⟩:=En W (n:=w.ts.length) (m:=14);have hw:aI w=.tup [.lst<|w.ps.map D.str,.lst<|w.ts.map bo,.str w.fi,.str w.la]:=rfl;have c:B4 (.int (w.ps.length:Int)) (.int 7)=.ok (.bl u):=c;have b:B4 (.int (w.ts.length:Int)) (.int 14)=.ok (.bl t):=b;have v:∀d,qV (.lst [d]) (.int 4)=.ok (.lst [d,d,d,d]):=λ_=>rfl;have x:∀d,qV (.lst [d]) (.int 2)=.ok (.lst [d,d]):=λ_=>rfl;have z:∀(f g:bv) a e,f a=.ok (.lst e)->jK f g a=(g a).bind λy=>qV (.lst e) y:=λf g a e h=>by unfold jK;rw[h];rfl
 rw[hw];unfold Ca at h;have j:∀s:Vq,∀a,jK (ak (ae (ak (ae (dC<|.str s)<|ae 0#4 av) bI) av) aZ) 4#0 a=.ok (.lst [.tup [.str s,.non],.tup [.str s,.non],.tup [.str s,.non],.tup [.str s,.non]]):=λ_ _=>rfl;have l:∀s:Vq,∀a,jK (ak (ae (ak (ae (dC<|.str s)<|ae 0#4 av) bI) av) aZ) 2#0 a=.ok (.lst [.tup [.str s,.non],.tup [.str s,.non]]):=λ_ _=>rfl;generalize jc w.ps.length 7=P at *;generalize jc w.ts.length 14=T at *;dsimp only at h;erw[K37.dJ,K37.qj,U8,c,r,q,b,p,o,j,l,h]
end
def KS(g:nameB b=VO)(f:nameB a=VO)(e:b≠a):m_is_tie [.tup [.str b,.str a,.str "both",.tup [.int (-1),.int 1],.tup [.int 1,.int 1]]]=.ok (.bl Vd):=by
 have l:=cT g;have j:=cT f;have i:(b==a)=Vd:=beq_eq_false_iff_ne.mpr e;have c:bG (.str "both") (.tup [.str "one",.str "both"])=.ok (.bl Vd):=rfl;have d:m_is_length [.tup [.int (-1),.int 1]]=.ok (.bl Vd):=rfl;erw[m_is_tie,jq,l,j,jB,i,c,d]
def GY(i:nameB b=VO)(g:nameB a=VO)(f:b≠a):m_is_tie [.tup [.str b,.str a,.str "both",.tup [.int 1,.int 1],.tup [.int 0,.int 1]]]=.ok (.bl Vd):=by
 have m:=cT i;have l:=cT g;have j:(b==a)=Vd:=beq_eq_false_iff_ne.mpr f;have c:bG (.str "both") (.tup [.str "one",.str "both"])=.ok (.bl Vd):=rfl;have e:m_is_length [.tup [.int 1,.int 1]]=.ok (.bl VO):=rfl;have d:m_is_worth [.tup [.int 0,.int 1]]=.ok (.bl Vd):=rfl;erw[m_is_tie,jq,m,l,jB,j,c,e,d]
section
variable {w:jU}(W:cI w)
include W
theorem mz(hd:m_is_tie [d]=.ok (.bl Vd)):Nwb.m_look_at_ties [.lst<|w.ts.map bo++[d],.lst<|w.ps.map D.str]=.exn (Nwb.exW "ties"<|jc w.ts.length 14):=by
 by_cases h:w.ts.length<14
 .have e:jc w.ts.length 14=.int (w.ts.length:Int):=ef h
  rw[e];exact KR W.nm W.ts h<|.inl hd
 .have e:jc w.ts.length 14=.non:=eo h
  rw[e];exact Nwb.ties_size (by rw[Vs,U8,Vp,W7];omega)
theorem AE:Nwb.m_look_at_places [.lst<|w.ps.map D.str++(w.ps.map D.str).take 1]=.exn (Nwb.exW "places"<|jc w.ps.length 7):=by
 have a:=W.n2
 by_cases h:w.ps.length<7
 .have e:jc w.ps.length 7=.int (w.ps.length:Int):=ef h
  rw[e];have:∃z∈w.ps,(w.ps.map D.str).take 1=[.str z]:=by
   clear e h;generalize w.ps=L at *;cases L with|nil=>exact er a 0#1|cons z r=>exact⟨z,Ve,rfl⟩
  obtain⟨z,b,c⟩:=this;rw[c];exact Fm W.nm W.n2 h b
 .have e:jc w.ps.length 7=.non:=eo h
  rw[e];exact Nwb.places_size (.inr (by rw[Vs,Wc,U8];omega))
theorem Gh(hi:i<16):∃d p n,(P1 w)[i]?=Wp d/\(Ca w)[i]?=Wp (.tup [.str p,n])/\Nwb.m_look_at_web [d]=.exn (Nwb.exW p n)/\Nwb.NumD n:=by
 have c:=W.nm.nm _ W.fi;have f:=W.nm.nm _ W.la;have P:=Nwb.placesX W.n2 W.n7 W.nm;have T:=Nwb.tiesX W.t14 W.nm W.ts;have F:=iZ c W.fi;have g:m_is_name [.str "Ab"]=.ok (.bl Vd):=(uS (d:=.str "Ab")<|by decide +kernel).trans (ew (λb=>aw.ok<|D.bl b) (show Nx (.str "Ab")=Vd by decide +kernel));have e:m_is_name [.non]=.ok (.bl Vd):=rfl;have nd:∀n m,Nwb.NumD (jc n m):=λn m=>by unfold jc;split<;>first|exact .inr ⟨_,rfl⟩|exact .inl rfl
 have a:Nwb.NumD .non:=.inl rfl
 match i,hi with
 |0,_=>exact⟨_,_,_,rfl,rfl,Nwb.web_kind rfl,a⟩
 |1,_=>exact⟨_,_,_,rfl,rfl,Nwb.web_size (by show 0≠4;decide),a⟩
 |2,_=>exact⟨_,_,_,rfl,rfl,Nwb.web_kind rfl,a⟩
 |3,_=>exact⟨_,_,_,rfl,rfl,Nwb.web_size (by show 3≠4;decide),a⟩
 |4,_=>exact⟨_,_,_,rfl,rfl,Nwb.web_places<|Nwb.places_kind rfl,a⟩
 |5,_=>exact⟨_,_,_,rfl,rfl,Nwb.web_places (Nwb.places_size<|.inl (by rw[Wc];omega)),a⟩
 |6,_=>exact⟨_,_,_,rfl,rfl,Nwb.web_places<|AE W,nd _ _⟩
 |7,_=>exact⟨_,_,_,rfl,rfl,Nwb.web_ties P<|Nwb.ties_kind rfl,a⟩
 |8,_=>exact⟨_,_,_,rfl,rfl,Nwb.web_ties P<|mz W<|Nwb.tie_same c,nd _ _⟩
 |9,_=>exact⟨_,_,_,rfl,rfl,Nwb.web_same P T F,a⟩
 |10,_=>exact⟨_,_,_,rfl,rfl,Nwb.web_ties P<|mz W<|Nwb.tie_word c f W.ne Ve,nd _ _⟩
 |11,_=>exact⟨_,_,_,rfl,rfl,Nwb.web_first P T<|Nwb.place_no g,a⟩
 |12,_=>exact⟨_,_,_,rfl,rfl,Nwb.web_ties P<|mz W<|KS c f W.ne,nd _ _⟩
 |13,_=>exact⟨_,_,_,rfl,rfl,Nwb.web_last P T F<|Nwb.place_no e,a⟩
 |14,_=>exact⟨_,_,_,rfl,rfl,Nwb.web_ties P<|mz W<|GY c f W.ne,nd _ _⟩
 |15,_=>exact⟨_,_,_,rfl,rfl,Nwb.web_ties P<|Nwb.ties_kind rfl,a⟩
 |_+16,h=>exact er h 0#2
end
def SH:Kp:=⟨"NoRooms",[]⟩
def Qp:Kp:=⟨"NoFlow",[]⟩
def Qo:Kp:=⟨"NoSide",[]⟩
section
variable {w:jU}(W:cI w)
include W
theorem jX(h:K51.m_has_lengths [aI w,r]=.ok (.bl Vd)):K37.m_look_at_rooms [aI w,r]=.exn SH:=by
 have a:=Nwb.webX W;erw[K37.m_look_at_rooms,K37.b_look_at_rooms,a,h,bu,gh,eK]
 rfl
theorem uW(h:eY "list" r=.ok (.bl Vd)):K51.m_has_lengths [aI w,r]=.ok (.bl Vd):=by
 erw[K51.m_has_lengths,K51.b_has_lengths,h]
theorem IF{a b:Nat}(h:a≠b):iE (.int (a:Int)) (.int (b:Int))=.ok (.bl VO):=by
 show aw.ok (D.bl (!(_==_)))=_;rw[beq_eq_false_iff_ne.mpr (show((a:Nat):Int)≠((b:Nat):Int) by omega)];rfl
theorem zA(h:ds.length≠w.ts.length):K51.m_has_lengths [aI w,.lst ds]=.ok (.bl Vd):=by
 have c:aE (aI w) (.int 1)=.ok (.lst<|w.ts.map bo):=rfl;have b:=IF W h;have a:eY "list" (.lst ds)=.ok (.bl VO):=rfl;erw[K51.m_has_lengths,K51.b_has_lengths,c,U8,b,a]
theorem yp:∀ds:ac,fw (ds.map λd=>.bl<|f d)=Wp (ds.map f)
 |[]=>rfl
 |d::ds=>by rw[Vf,fw,yp ds];rfl
theorem L9(i:ds.length=w.ts.length)(f:D->Bool)(l:∀d∈ds,m_is_length [d]=.ok (.bl<|f d))(c:o∈ds)(n:f o=Vd):K51.m_has_lengths [aI w,.lst ds]=.ok (.bl Vd):=by
 have a:=W.t14;have j:aE (aI w) (.int 1)=.ok (.lst<|w.ts.map bo):=rfl;have b:eY "list" (.lst ds)=.ok (.bl VO):=rfl;have g:iE (.int ((ds.length:Nat):Int)) (.int ((w.ts.length:Nat):Int))=.ok (.bl Vd):=by
  rw[i];show aw.ok (D.bl (!(_==_)))=_;rw[eu];rfl
 have m:∀A,c6 1 [] (bK 0) mYes (ak (ae 0#6 av) Com.m_is_length) A ds=.ok (.lst<|ds.map λd=>.bl<|f d):=λA=>by
  rw[ki (F:=λd=>.bl<|f d) 0#2];intro d hd;have e:=l d hd;refine⟨[.sh d],rfl,rfl,?_⟩;erw[e]
 have p:p8 (.lst<|ds.map λd=>.bl<|f d)=.ok (.bl Vd):=by
  unfold p8;simp only[yp W]
  congr 2
  rw[List.all_eq_false];exact⟨f o,VD.mpr ⟨o,c,rfl⟩,by rw[n];decide⟩
 erw[K51.m_has_lengths,K51.b_has_lengths,j,U8,g,m,p,b]
end
def IT(d:D):Bool:=match m_is_length [d] with
 |.ok (.bl b)=>b
 |_=>Vd
def CH:ac:=[.tup [.int (-1),.int 2],.tup [.int 1,.int 0],.int 1,.non,.bl VO,.tup [.int 2,.int 2],.tup [.bl VO,.int 1],.tup [.int 1,.bl VO],.tup [.int 1,.int 1,.int 1],.lst [.int 1,.int 1]]
def Ei(h:o∈CH):m_is_length [o]=.ok (.bl Vd):=by
 simp only[CH,Vl,Wu,ey]at h;rcases h with rfl|rfl|rfl|rfl|rfl|rfl|rfl|rfl|rfl|rfl<;>rfl
def P6(rs:ac)(a:Nat)(o:D):ac :=
 [.non,.tup rs,.lst<|rs++[.tup [.int 0,.int 1]],.lst<|rs.take a++[.tup [.int 1,.int 2]]++rs.drop a,.dic [] [],.lst<|rs.take a++[o]++rs.drop (a+1)]
def MP(L:rs.length<=14){a b c i:Int}(z:aE (.lst ds) (.int 0)=.ok (.int i))(w:aE (.lst ds) (.int 1)=.ok (.int b))(v:aE (.lst ds) (.int 2)=.ok (.int c))(u:0<=b/\b<10)(t:0<=c) :
  ∃(a:Nat) (o:D),a<=rs.length/\o∈CH/\∀d,aE (.lst<|P6 rs a o) (.int i)=.ok d->K37.dA [.lst rs,.lst ds]=.ok d:=by
 obtain⟨o,l,f⟩:=Nwb.ix_some (ds:=CH) (r:=b) u.1 (by rw[show CH.length=10 from rfl];omega);have p:dO (.int c) (.int<|(rs.length:Int)+1)=.ok (.int ((c.toNat % (rs.length+1):Nat):Int)):=by
  have A:dO (.int c) (.int<|(rs.length:Int)+1)=.ok (.int<|c.fmod<|(rs.length:Int)+1):=qP (beq_eq_false_iff_ne.mpr<|by omega);rw[A]
  congr 2
  rw[X0 _ 0#2];obtain⟨n,rfl⟩:=Wa t;rw[Wo];exact(Int.natCast_emod n<|rs.length+1).symm
 have s:=Nat.mod_lt c.toNat (show 0<rs.length+1 by omega);generalize c.toNat % (rs.length+1)=a at *;have e:a<=rs.length:=by omega
 refine⟨a,o,e,l,λd h=>?_⟩;have c1:cE rs Wb (Wp (a:Int))=rs.take a:=Nwb.cut_id e;have B:cE rs (Wp (a:Int)) Wb=rs.drop a:=Nwb.cut_dr e;have c3:cE rs (Wp<|(a:Int)+1) Wb=rs.drop (a+1):=by
  by_cases q:a+1<=rs.length
  .exact Nwb.cut_dr (k:=a+1) q
  .have m:rs.drop (a+1)=[]:=san 0#2
   rw[m];unfold cE;have j:HT.sIx rs.length 0 (Wp<|(a:Int)+1)=rs.length:=by
    have:((a:Int)+1)=((a+1:Nat):Int):=rfl;rw[this];show(if((a+1:Nat):Int)<0 then(((a+1:Nat):Int)+(rs.length:Int)).toNat else min (((a+1:Nat):Int)).toNat rs.length)=_;rw[eo 0#2,Wo];omega
   rw[j,ZH,List.take_nil]
 have ad:∀x y:ac,x.length<=20->y.length<=20->aV (.lst x) (.lst y)=.ok (.lst<|x++y):=λx y J I=>dX (dV<|by omega);have H:aV (.lst rs) (.lst [.tup [.int 0,.int 1]])=.ok (.lst<|rs++[.tup [.int 0,.int 1]]):=ad _ _ 0#2 0#1;have G:∀d,aV (.lst<|rs.take a) (.lst [d])=.ok (.lst<|rs.take a++[d]):=λd=>ad _ _ (by rw[Wc];omega) 0#3;have E:∀d,aV (.lst<|rs.take a++[d]) (.lst<|rs.drop a)=.ok (.lst<|rs.take a++[d]++rs.drop a):=λd=>ad _ _ (by simp;omega) (by rw[Wv];omega);have C:∀d,aV (.lst<|rs.take a++[d]) (.lst<|rs.drop<|a+1)=.ok (.lst<|rs.take a++[d]++rs.drop (a+1)):=λd=>ad _ _ (by simp;omega) (by rw[Wv];omega);unfold CH at f;unfold P6 at h;have g:l5 (.lst rs)=.ok (.tup rs):=rfl;erw[K37.dA,K37.kn,v,p,c1,B,c3,H,G,E,C,w,f,z,g,h]
def Gk(W:cI w)(R:sP w xs)(j:a<=(xs.map fr).length)(c:o∈CH)(hi:i<6):∃d,(P6 (xs.map fr) a o)[i]?=Wp d/\K37.m_look_at_rooms [aI w,d]=.exn SH:=by
 have g:(xs.map fr).length=w.ts.length:=by rw[U8,R.l]
 match i,hi with
 |0,_=>exact⟨_,rfl,jX W<|uW W rfl⟩
 |1,_=>exact⟨_,rfl,jX W<|uW W rfl⟩
 |2,_=>exact⟨_,rfl,jX W<|zA W (by rw[Vs];simp;have:=R.l;omega)⟩
 |3,_=>exact⟨_,rfl,jX W<|zA W (by rw[Vs,Vs,Wc,Wv];simp at *;omega)⟩
 |4,_=>exact⟨_,rfl,jX W<|uW W rfl⟩
 |5,_=>
  refine⟨_,rfl,jX W ?_⟩
  by_cases q:a<(xs.map fr).length
  .refine L9 W (by rw[Vs,Vs,Wc,Wv];simp at *;omega) IT (λd hd=>?_) (o:=o) 0#3 (by unfold IT;rw[Ei c])
   have b:∀y∈xs.map fr,m_is_length [y]=.ok (.bl VO):=λy e=>by
    obtain⟨x,b,rfl⟩:=VD.mp e;exact lK (R.f x b).1.toLow (R.f x b).2
   rw[VH,VH,VL]at hd;rcases hd with(hd|rfl)|hd
   .unfold IT;rw[b d (Zc hd)]
   .unfold IT;rw[Ei c]
   .unfold IT;rw[b d (saI hd)]
  .exact zA W (by rw[Vs,Vs,Wc,Wv];simp at *;omega)
 |_+6,h=>exact er h 0#2
abbrev nI(k:Nat):D:=.int (k:Int)
def BJ{a:Type}{F:a->D}{xs:List a}{fr:db}(r:xs.length<=1000)(h:∀(k:Nat) (x:a),xs[k]?=Wp x->∃ρ1,dE [0,1] (dB m fr ρ) (.tup [.int (k:Int),F x])=.ok ρ1/\c ρ1=.ok (.bl<|q k)/\(q k=VO->o ρ1=.ok (G k))) :
  c6 m fr (dE [0,1]) c o ρ (DL.numbered 0<|xs.map F)=.ok (.lst<|((Ws xs.length).filter q).map G):=by
 have g:DL.numbered 0 (xs.map F)=(Ws xs.length).map λ(k:Nat)=>D.tup [.int (k:Int),(xs[k]?.map F).getD .non]:=by
  apply Xt;intro i;rw[DL.numbered_get,Vh,Vh]
  by_cases h:i<xs.length
  .rw[U7 h,Zg h]
   simp;rw[U7 h];rfl
  .rw[W8 0#2,W8 (by simp;omega)];rfl
 rw[g];rw[l9 (F:=λd=>match d with|.tup [.int v,_]=>G v.toNat|d=>d) (p:=λd=>match d with|.tup [.int v,_]=>q v.toNat|_=>Vd) (by simp;omega)]
 .rw[List.filter_map,Wk]
  rfl
 .intro d hd
  obtain⟨k,f,rfl⟩:=VD.mp hd;have b:=Xy.mp f;have e:xs[k]?=Wp xs[k]:=U7 b;obtain⟨ρ1,n,l,j⟩:=h k xs[k] e;rw[e];exact⟨ρ1,n,by simpa using l,λz=>by simpa using j (by simpa using z)⟩
def u0(w:jU):ac:=((Ws w.ts.length).filter λk=>FI w k).map nI
def nt(w:jU):ac:=((Ws w.ts.length).filter λk=>!FI w k).map nI
noncomputable def P4(n:Nat) (U G:ac):ac :=
 [.non,.tup [],.lst [.bl VO],.lst [.int (n:Int)],.lst [.int (-1)],.lst [.str "0"],.lst [.non],.lst<|cE U Wb (Wp 1)++G++[.int 99],.lst<|G.reverse++[.int 0,.int 0],.lst<|cE G (Wp (-1)) Wb++cE G (Wp (-1)) Wb++[.int (-1)],.lst<|cE U (Wp (-1)) Wb++[.int 14],.dic [] []]
section
variable {w:jU}(W:cI w)
include W
theorem MN(h:aE (.lst<|P4 w.ts.length (nt w)<|u0 w) i=.ok d):K37.da [aI w,i]=.ok d:=by
 have f:=W.t14;have q:∀a,c6 2 [] (dE [0,1]) (ag (ag 1#6 4#0 aE) 0#4 qX) 0#6 a (DL.numbered 0<|w.ts.map bo)=.ok (.lst<|nt w):=λa=>by
  refine BJ 0#2 λk t l=>?_;have r:FI w k=t.o.isSome:=by unfold FI;rw[l];rfl
  refine⟨[.sh (.int (k:Int)),.sh (bo t)],rfl,?_,λ_=>rfl⟩;rw[r];cases m:t.o with|none|some x=>show qX (cK t.o) .non=_;rw[m];rfl
 have p:∀a,c6 2 [] (dE [0,1]) (ag (ag 1#6 4#0 aE) 0#4 jC) 0#6 a (DL.numbered 0<|w.ts.map bo)=.ok (.lst<|u0 w):=λa=>by
  refine BJ 0#2 λk t l=>?_;have r:FI w k=t.o.isSome:=by unfold FI;rw[l];rfl
  refine⟨[.sh (.int (k:Int)),.sh (bo t)],rfl,?_,λ_=>rfl⟩;rw[r];cases m:t.o with|none|some x=>show jC (cK t.o) .non=_;rw[m];rfl
 have B:(nt w).length<=14:=by
  unfold nt;rw[U8];exact Vr (XS ..) (by rw[List.length_range];exact f)
 have C:(u0 w).length<=14:=by
  unfold u0;rw[U8];exact Vr (XS ..) (by rw[List.length_range];exact f)
 have hw:aI w=.tup [.lst<|w.ps.map D.str,.lst<|w.ts.map bo,.str w.fi,.str w.la]:=rfl;have j:(w.ts.map bo).length=w.ts.length:=U8 ..;rw[hw];generalize nt w=U at *;generalize u0 w=G at *;generalize w.ts.length=n at *;generalize w.ts.map bo=ts at *;generalize w.ps.map D.str=ps at *;have ad:∀x y:ac,x.length<=40->y.length<=40->aV (.lst x) (.lst y)=.ok (.lst<|x++y):=λx y O N=>dX (dV<|by omega);have g:∀a b,(cE U a b).length<=14:=λa b=>Vr EJ B;have u:∀a b,(cE G a b).length<=14:=λa b=>Vr EJ C;have M:∀a b,aV (.lst<|cE U a b) (.lst G)=.ok (.lst<|cE U a b++G):=λa b=>ad _ _ (by have:=g a b;omega) 0#2;have L:∀a b d,aV (.lst<|cE U a b++G) (.lst [d])=.ok (.lst<|cE U a b++G++[d]):=λa b d=>ad _ _ (by rw[Vs];have:=g a b;omega) 0#3;have J:∀d e,aV (.lst G.reverse) (.lst [d,e])=.ok (.lst<|G.reverse++[d,e]):=λd e=>ad _ _ (by rw[Zf];omega) 0#3;have I:∀a b d,aV (.lst<|cE G a b++cE G a b) (.lst [d])=.ok (.lst<|cE G a b++cE G a b++[d]):=λa b d=>ad _ _ (by rw[Vs];have:=u a b;omega) 0#3;have H:∀a b d,aV (.lst<|cE U a b) (.lst [d])=.ok (.lst<|cE U a b++[d]):=λa b d=>ad _ _ (by have:=g a b;omega) 0#3;have A:PQ (.lst G)=.ok (.lst G.reverse):=rfl;have v:∀a b c e,Mw 3#6 (bS<|aL 1#0 k9) cR [a,b,c,.sh<|.lst G,e]=.ok (.lst<|cE G (Wp (-1)) Wb):=λ_ _ _ _=>rfl;have z:∀s,Ou 2#0 s (.lst<|cE G (Wp (-1)) Wb)=.ok (.lst<|cE G (Wp (-1)) Wb++cE G (Wp (-1)) Wb):=λs=>by
  show qV (.lst<|cE G (Wp (-1)) Wb) (.int 2)=_;have:=u (Wp (-1)) Wb;have E:(14:Nat)*2<=line:=by decide
  show(if _ then _ else _)=_;rw[ef ⟨Vr (saG 2 this) E,by decide,by decide⟩];show aw.ok (D.lst<|(Vt 2<|cE G (Wp (-1)) Wb).flatten)=_;rw[VU,VU,Xv,WO,WO,List.flatten_nil,We]
 unfold P4 at h;erw[K37.da,K37.jF,q,p,M,L,J,I,H,A,z,v,j,h]
theorem HY{ks:db}:∀d∈ks.map nI,Wex.plainD d=VO:=λd hd=>by
 obtain⟨k,_,rfl⟩:=VD.mp hd;rfl
theorem Gi(hi:i<12):∃d,(P4 w.ts.length (nt w)<|u0 w)[i]?=Wp d/\K37.m_look_at_taking [aI w,d]=.exn K16.noTak:=by
 have m:=W.t14;have g:∀d∈nt w,Wex.plainD d=VO:=HY W;have c:∀d∈u0 w,Wex.plainD d=VO:=HY W;have one:∀d,Wex.plainD d=VO->∀x∈[d],Wex.plainD x=VO:=λd h x j=>by rw[VL]at j;subst j;exact h
 have app:∀{a b:ac},(∀d∈a,Wex.plainD d=VO)->(∀d∈b,Wex.plainD d=VO)->∀d∈a++b,Wex.plainD d=VO:=λf r d hd=>by
  rcases VH.mp hd with h|h
  .exact f d h
  .exact r d h
 have cut:∀{a:ac}{lo hi:Option Int},(∀d∈a,Wex.plainD d=VO)->∀d∈cE a lo hi,Wex.plainD d=VO:=λf d hd=>f d (MA hd)
 match i,hi with
 |0,_=>exact⟨_,rfl,K16.tak_none W rfl⟩
 |1,_=>exact⟨_,rfl,K16.tak_none W rfl⟩
 |2,_=>exact⟨_,rfl,K16.tak_all W (one _ rfl)<|Wex.no_take_odd (d:=.bl VO) 0#3<|λ_ e=>nomatch e⟩
 |3,_=>exact⟨_,rfl,K16.tak_all W (one _ rfl)<|Wex.no_take_int (n:=(w.ts.length:Int)) 0#3<|.inr<|.inl<|YU _⟩
 |4,_=>exact⟨_,rfl,K16.tak_all W (one _ rfl)<|Wex.no_take_int (n:=-1) 0#3<|.inl<|by decide⟩
 |5,_=>exact⟨_,rfl,K16.tak_all W (one _ rfl)<|Wex.no_take_odd (d:=.str "0") 0#3<|λ_ e=>nomatch e⟩
 |6,_=>exact⟨_,rfl,K16.tak_all W (one _ rfl)<|Wex.no_take_odd (d:=.non) 0#3<|λ_ e=>nomatch e⟩
 |7,_=>exact⟨_,rfl,K16.tak_all W (app (app (cut g) c)<|one _ rfl)<|Wex.no_take_int (n:=99) 0#3<|.inr<|.inl<|by omega⟩
 |8,_=>
  refine⟨_,rfl,K16.tak_all W (app (λd hd=>c d<|List.mem_reverse.mp hd)<|λd hd=>?_)<|Wex.no_take λo e p _=>?_⟩
  .simp only[Vl,Wu,ey]at hd
   rcases hd with rfl|rfl<;>rfl
  .have l:(o.map λ(k:Nat)=>D.int (k:Int)).Nodup:=by
    rw[W4,YT];exact p.imp λ{a b} h q=>by injection q with q;omega
   rw[←e,Xs]at l;exact er l.2.1 0#3
 |9,_=>exact⟨_,rfl,K16.tak_all W (app (app (cut c)<|cut c)<|one _ rfl)<|Wex.no_take_int (n:=-1) 0#3<|.inl<|by decide⟩
 |10,_=>exact⟨_,rfl,K16.tak_all W (app (cut g)<|one _ rfl)<|Wex.no_take_int (n:=14) 0#3<|.inr<|.inl<|by omega⟩
 |11,_=>exact⟨_,rfl,K16.tak_none W rfl⟩
 |_+12,h=>exact er h 0#2
end
def uF:D:=.tup [.int 0,.int 1]
def P8(n:Nat):ac:=let z:=Vt n uF
 [.non,.tup z,.lst<|z++[uF],.lst<|z.drop 1++[.tup [.int 1,.int 1],uF],.int 7,.dic [] []]
def P5(ps:ac)(f l:D):ac:=[.non,.tup [],.lst [],.lst [l],.lst<|ps++[f],.lst [f,f]]
def D2{n:Nat}(h:n<=14):qV (.lst [.tup [.int 0,.int 1]]) (.int (n:Int))=.ok (.lst<|Vt n uF):=by
 show(if _ then _ else _)=_;have a:(1:Nat)*14<=line:=by decide
 rw[ef ⟨by rw[Wo];exact Vr (Nat.mul_le_mul_left 1 h) a,by omega,by omega⟩,Wo]
 congr 2
 clear a
 induction n with|zero=>rfl|succ n b=>rw[VU,WO,b 0#2,VU];rfl
section
variable {w:jU}(W:cI w)
include W
theorem MQ(h:aE (.lst<|P8 w.ts.length) i=.ok d):K37.cm [aI w,.int 0,i]=.ok d:=by
 have a:=W.t14;have f:aE (aI w) (.int 1)=.ok (.lst<|w.ts.map bo):=rfl;have c:=D2 a;have ad:∀x y:ac,x.length<=40->y.length<=40->aV (.lst x) (.lst y)=.ok (.lst<|x++y):=λx y n m=>dX (dV<|by omega);unfold P8 at h;have o:(Vt w.ts.length uF).length<=14:=by rw[V3];exact a
 generalize Vt w.ts.length uF=z at *;dsimp only[uF]at h;have l:∀d,aV (.lst z) (.lst [d])=.ok (.lst<|z++[d]):=λd=>ad _ _ 0#2 0#3;have j:∀d e,aV (.lst<|z.drop 1) (.lst [d,e])=.ok (.lst<|z.drop 1++[d,e]):=λd e=>ad _ _ (by rw[Wv];omega) 0#3;have c1:cE z (Wp 1) Wb=z.drop 1:=by
  cases z with|nil=>rfl|cons d r=>exact Nwb.cut_dr (k:=1) 0#3
 have b:l5 (.lst z)=.ok (.tup z):=rfl;have g:gZ (.int 0) (.int 0)=.ok (.bl VO):=rfl;erw[K37.cm,K37.iw,f,U8,c,l,j,c1,b,g,h]
theorem MO(c:a≠0)(h:aE (.lst<|P5 (w.ps.map D.str) (.str w.fi)<|.str w.la) i=.ok d):K37.cm [aI w,.int a,i]=.ok d:=by
 have b:=W.n7;have m:(w.ps.map D.str).length<=7:=by rw[U8];exact b
 have hw:aI w=.tup [.lst<|w.ps.map D.str,.lst<|w.ts.map bo,.str w.fi,.str w.la]:=rfl;rw[hw];unfold P5 at h;have e:gZ (.int a) (.int 0)=.ok (.bl Vd):=by
  show aw.ok (D.bl<|cX (.int a)<|.int 0)=_;rw[show cX (.int a) (.int 0)=(a==0) by rw[cX]];rw[beq_eq_false_iff_ne.mpr c]
 generalize w.ps.map D.str=ps at *;generalize w.ts.map bo=j at *;generalize D.str w.fi=f at *;generalize D.str w.la=l at *;have g:∀d,aV (.lst ps) (.lst [d])=.ok (.lst<|ps++[d]):=λd=>dX (dV (by simp;omega));erw[K37.cm,K37.iw,e,g,h]
theorem tN(h:eY "list" d=.ok (.bl Vd)):K37.m_look_at_amounts [aI w,r,t,d]=.exn Qp:=by
 erw[K37.m_look_at_amounts,K37.b_look_at_amounts,h,bu]
 rfl
theorem J3(h:ds.length≠w.ts.length):K37.m_look_at_amounts [aI w,r,t,.lst ds]=.exn Qp:=by
 have c:aE (aI w) (.int 1)=.ok (.lst<|w.ts.map bo):=rfl;have b:=IF W h;have a:eY "list" (.lst ds)=.ok (.bl VO):=rfl;erw[K37.m_look_at_amounts,K37.b_look_at_amounts,c,U8,b,a]
 rfl
theorem Gm(hi:i<6):∃d,(P8 w.ts.length)[i]?=Wp d/\K37.m_look_at_amounts [aI w,r,t,d]=.exn Qp:=by
 match i,hi with
 |0,_=>exact⟨_,rfl,tN W rfl⟩
 |1,_=>exact⟨_,rfl,tN W rfl⟩
 |2,_=>exact⟨_,rfl,J3 W (by rw[Vs,V3];simp)⟩
 |3,_=>exact⟨_,rfl,J3 W (by rw[Vs,Wv,V3];simp;omega)⟩
 |4,_=>exact⟨_,rfl,tN W rfl⟩
 |5,_=>exact⟨_,rfl,tN W rfl⟩
 |_+6,h=>exact er h 0#2
theorem DU(h:eY "list" d=.ok (.bl Vd)):K37.m_look_at_side [aI w,d]=.exn Qo:=by
 erw[K37.m_look_at_side,K37.b_look_at_side,h,bu,gh,eK]
 rfl
theorem sT(h:∀s∈ss,s∈w.ps)(q:ss.length<=20)(b:ss≠w.ps.filter (λk=>decide (k∈ss))∨w.fi∉ss):K37.m_look_at_side [aI w,.lst<|ss.map D.str]=.exn Qo:=by
 have p:=W.n7;have e:aE (aI w) (.int 0)=.ok (.lst<|w.ps.map D.str):=rfl;have n:aE (aI w) (.int 2)=.ok (.str w.fi):=rfl;have i:eY "list" (.lst<|ss.map D.str)=.ok (.bl VO):=rfl;have c1:∀a,c6 1 [0] (bK 0) mYes (ak (ae 0#6<|ae (ag 1#6 0#0 aE) av) Com.m_is_place) [.sh<|aI w,a] (ss.map D.str)=.ok (.lst<|ss.map λ_=>.bl VO):=λa=>by
  rw[K51.comp_pick D.str (λ_=>Wp<|.bl VO) 0#2]
  .rw[←XT];rfl
  .intro k f
   have pt:=iZ (W.nm.nm k<|h k f)<|h k f;refine⟨[.sh<|.str k,.sh<|aI w],rfl,.inr ⟨_,rfl,rfl,?_⟩⟩;erw[e,pt]
 have l:c6 1 [1] (bK 0) (ag 0#6 1#6 nY) 0#6 [.sh<|aI w,.sh<|.lst<|ss.map D.str] (w.ps.map D.str)=.ok (.lst<|(w.ps.filter<|λk=>decide (k∈ss)).map D.str):=by
  rw[K51.comp_pick D.str (λk=>if k∈ss then Wp (.str k) else Wb) 0#2]
  .congr 2
   generalize w.ps=L
   induction L with
   |nil=>rfl
   |cons s L j=>
    rw[Wd,Y3]
    by_cases c:s∈ss
    .simp only[ef c,dV c,eP,Vf,j]
    .simp only[eo c,en c,WV,eH,j]
  .intro k f
   by_cases c:k∈ss
   .refine⟨[.sh<|.str k,.sh<|.lst<|ss.map D.str],rfl,.inr ⟨_,ef c,?_,rfl⟩⟩
    erw[kJ,dV c]
   .refine⟨[.sh<|.str k,.sh<|.lst<|ss.map D.str],rfl,.inl ⟨eo c,?_⟩⟩
    erw[kJ,en c]
 have m:p8 (.lst<|ss.map λ_=>.bl VO)=.ok (.bl VO):=yz ss;have d:iE (.lst<|ss.map D.str) (.lst<|(w.ps.filter<|λk=>decide (k∈ss)).map D.str)=.ok (.bl (!(decide (ss=w.ps.filter (λk=>decide (k∈ss)))))):=K35.ne_strl;have g:bG (.str w.fi) (.lst<|ss.map D.str)=.ok (.bl (!(decide (w.fi∈ss)))):=gE
 by_cases c:ss=w.ps.filter (λk=>decide (k∈ss))
 .rw[dV c]at d
  have o:w.fi∉ss:=by rcases b with b|b;exact er c b;exact b
  rw[en o]at g;erw[K37.m_look_at_side,K37.b_look_at_side,i,c1,m,e,l,d,n,g,gh,eK]
  rfl
 .rw[en c]at d
  erw[K37.m_look_at_side,K37.b_look_at_side,i,c1,m,e,l,d,gh,eK]
  rfl
theorem Gj(hi:i<6):∃d,(P5 (w.ps.map D.str) (.str w.fi)<|.str w.la)[i]?=Wp d/\K37.m_look_at_side [aI w,d]=.exn Qo:=by
 have b:=W.n7
 match i,hi with
 |0,_=>exact⟨_,rfl,DU W rfl⟩
 |1,_=>exact⟨_,rfl,DU W rfl⟩
 |2,_=>exact⟨_,rfl,sT W (ss:=[]) (λ_ h=>nomatch h) 0#3<|.inr<|λh=>nomatch h⟩
 |3,_=>exact⟨_,rfl,sT W (ss:=[w.la]) (λs h=>by rw[VL]at h;subst h;exact W.la) 0#3<|.inr<|λh=>W.ne<|VL.mp h⟩
 |4,_=>
  refine⟨_,rfl,?_⟩;have e:w.ps.map D.str++[D.str w.fi]=(w.ps++[w.fi]).map D.str:=by rw[VX];rfl
  rw[e];refine sT W (λs h=>?_) (by simp;omega)<|.inl λh=>?_
  .rcases VH.mp h with h|h
   .exact h
   .rw[VL]at h;subst h;exact W.fi
  .have:=ew YA h
   have c:=XS (λk=>decide (k∈w.ps++[w.fi])) w.ps;rw[Vs,WG]at this;omega
 |5,_=>
  refine⟨_,rfl,sT W (ss:=[w.fi,w.fi]) (λs h=>?_) 0#3<|.inl λh=>?_⟩
  .simp only[Vl,Wu,ey,or_self]at h;subst h;exact W.fi
  .have nd:=YX.filter (λk=>decide (k∈[w.fi,w.fi])) W.nm.nd
   rw[←h]at nd;exact er nd 0#3
 |_+6,h=>exact er h 0#2
end
def gu(a:Int)(b e d c:D):aw D:=if a=0 then K37.m_look_at_flow [b,e,d,c] else if a=1 then K37.m_room_of [b,e,d,c] else if a=2 then K37.m_most_flow [b,e,d] else K37.m_amount_of [b,c]
def mP(h:d (fQ ρ)=.ok (.bl b)):lC d c a ρ=if b=VO then c ρ else a ρ:=by unfold lC;rw[h]
def pY(h:b ρ=.ok ds)(a:m ds=.exn e):fz b m ρ=.exn e:=by
 unfold fz;rw[h];dsimp only;rw[a];rfl
def pW(h:b ρ=.ok ds)(a:m ds=.ok d):fz b m ρ=.ok (.nx ρ):=by
 unfold fz;rw[h];dsimp only;rw[a];rfl
def Qq:gZ (.int a) (.int b)=.ok (.bl (decide (a=b))):=by
 show aw.ok (D.bl<|cX (.int a)<|.int b)=_;rw[show cX (.int a) (.int b)=(a==b) by rw[cX]]
 congr 2
noncomputable def GX:ci:=(lC (ag 0#6 0#0 gZ)
 (fz (ae (ag 1#6 0#0 aE)<|ae (ag 1#6 1#0 aE)<|ae (ag 1#6 2#0 aE)<|ae (ag 1#6 3#0 aE) av) K37.m_look_at_flow)
 (lC (ag 0#6 1#0 gZ)
 (fz (ae (ag 1#6 0#0 aE)<|ae (ag 1#6 1#0 aE)<|ae (ag 1#6 2#0 aE)<|ae (ag 1#6 3#0 aE) av) K37.m_room_of)
 (lC (ag 0#6 2#0 gZ)
 (fz (ae (ag 1#6 0#0 aE)<|ae (ag 1#6 1#0 aE)<|ae (ag 1#6 2#0 aE) av) K37.m_most_flow)
 (fz (ae (ag 1#6 0#0 aE)<|ae (ag 1#6 3#0 aE) av) K37.m_amount_of))))
section
variable {a:Int}{t0 t1 t2 t3:D}
def N3(h:gu a t0 t1 t2 t3=.ok d):GX [.sh<|.int a,.sh<|.lst [t0,t1,t2,t3],s2,s3]=.ok (.nx [.sh<|.int a,.sh<|.lst [t0,t1,t2,t3],s2,s3]):=by
 unfold gu at h;unfold GX;rw[mP (b:=decide (a=0)) Qq]
 by_cases c0:a=0
 .rw[ef c0]at h;rw[ef (dV c0)];exact pW rfl h
 .rw[eo c0]at h;rw[eo (by simpa using c0),mP (b:=decide (a=1)) Qq]
  by_cases c1:a=1
  .rw[ef c1]at h;rw[ef (dV c1)];exact pW rfl h
  .rw[eo c1]at h;rw[eo (by simpa using c1),mP (b:=decide (a=2)) Qq]
   by_cases c:a=2
   .rw[ef c]at h;rw[ef (dV c)];exact pW rfl h
   .rw[eo c]at h;rw[eo (by simpa using c)];exact pW rfl h
def N4(h:gu a t0 t1 t2 t3=.exn x):GX [.sh<|.int a,.sh<|.lst [t0,t1,t2,t3],s2,s3]=.exn x:=by
 unfold gu at h;unfold GX;rw[mP (b:=decide (a=0)) Qq]
 by_cases c0:a=0
 .rw[ef c0]at h;rw[ef (dV c0)];exact pY rfl h
 .rw[eo c0]at h;rw[eo (by simpa using c0),mP (b:=decide (a=1)) Qq]
  by_cases c1:a=1
  .rw[ef c1]at h;rw[ef (dV c1)];exact pY rfl h
  .rw[eo c1]at h;rw[eo (by simpa using c1),mP (b:=decide (a=2)) Qq]
   by_cases c:a=2
   .rw[ef c]at h;rw[ef (dV c)];exact pY rfl h
   .rw[eo c]at h;rw[eo (by simpa using c)];exact pY rfl h
def BP:K37.qo=(ar (aJ 2<|dC<|.non)<|ar (Cn GX (rP K37.jd) 3<|ar (aJ 2<|af 3) au)<|ar (bJ<|af 2) au):=rfl
def JY(h:gu a t0 t1 t2 t3=.ok d):K37.cC [.int a,.lst [t0,t1,t2,t3]]=.ok .non:=by
 have e:=λc b=>N3 h (s2:=c) (s3:=b);unfold K37.cC;rw[BP];erw[Jy,e,Mg]
def mi(h:gu a t0 t1 t2 t3=.exn x)(d:rP K37.jd x.cls=VO):K37.cC [.int a,.lst [t0,t1,t2,t3]]=.ok (j9 x):=by
 have e:=λc b=>N4 h (s2:=c) (s3:=b);have t:∀c b,KQ (rP K37.jd) 3 (ar (aJ 2<|af 3) au) [.sh<|.int a,.sh<|.lst [t0,t1,t2,t3],c,b] (.exn x)=.ok (.nx [.sh<|.int a,.sh<|.lst [t0,t1,t2,t3],.sh<|j9 x,.no]):=λc b=>by
  show(if _ then _ else _)=_;rw[ef d];rfl
 unfold K37.cC;rw[BP];erw[Jy,e,t]
end
def O1:K37.cS [j9<|Nwb.exW p n]=.ok (.int 0):=by
 rw[Nwb.excW];have g:∀v:ac,iq K37.tab_1 (.ob (.exf "NoWeb" ["part","number"]) v)=.ok (.bl VO):=λ_=>kM rfl;have f:∀v:ac,iq K37.tab_2 (.ob (.exf "NoWeb" ["part","number"]) v)=.ok (.bl Vd):=λ_=>kM rfl;have e:∀v:ac,iq K37.tab_3 (.ob (.exf "NoWeb" ["part","number"]) v)=.ok (.bl Vd):=λ_=>kM rfl;have d:∀v:ac,iq K37.tab_4 (.ob (.exf "NoWeb" ["part","number"]) v)=.ok (.bl Vd):=λ_=>kM rfl;have c:∀v:ac,iq K37.tab_5 (.ob (.exf "NoWeb" ["part","number"]) v)=.ok (.bl VO):=λ_=>kM rfl;have b:∀v:ac,iq K37.tab_6 (.ob (.exf "NoWeb" ["part","number"]) v)=.ok (.bl Vd):=λ_=>kM rfl;have a:∀v:ac,iq K37.tab_7 (.ob (.exf "NoWeb" ["part","number"]) v)=.ok (.bl Vd):=λ_=>kM rfl;have j:∀x,tI 1#6 (dC<|.bl VO) [.sh x,.sh<|.lst [.bl VO,.bl Vd,.bl Vd,.bl Vd,.bl Vd]]=.ok (.int 1):=λ_=>rfl;have i:kP (.lst [.bl VO,.bl Vd,.bl Vd,.bl Vd,.bl Vd]) (.bl VO)=.ok (.int 0):=rfl;erw[K37.cS,K37.sv,g,f,e,d,c,b,a,j,i]
def O4:K37.cS [j9 SH]=.ok (.int 1):=rfl
def O2:K37.cS [j9 K16.noTak]=.ok (.int 2):=rfl
def O5:K37.cS [j9 Qp]=.ok (.int 3):=rfl
def O3:K37.cS [j9 Qo]=.ok (.int 4):=rfl
section
variable {w:jU}{xs:List iz}
def Cq(h:Nwb.m_look_at_web [d]=.exn x):K37.m_look_at_rooms [d,r]=.exn x:=by
 erw[K37.m_look_at_rooms,K37.b_look_at_rooms,h,bu]
def JT(h:Nwb.m_look_at_web [d]=.exn x):gu a d f e c=.exn x:=by
 have b:=λr=>Cq (r:=r) h;unfold gu;split
 .erw[K37.m_look_at_flow,K37.b_look_at_flow,b,bu]
 .split
  .erw[K37.m_room_of,K37.b_room_of,b,bu]
  .split
   .erw[K37.m_most_flow,K37.b_most_flow,b,bu]
   .erw[K37.m_amount_of,K37.b_amount_of,h,bu]
def Dp(c:a=0∨a=1∨a=2)(b:K37.m_look_at_rooms [W0,d]=.exn x):gu a W0 d f e=.exn x:=by
 unfold gu;rcases c with rfl|rfl|rfl
 .rw[ef rfl]
  erw[K37.m_look_at_flow,K37.b_look_at_flow,b,bu]
 .rw[eo 0#1,ef rfl]
  erw[K37.m_room_of,K37.b_room_of,b,bu]
 .rw[eo 0#1,eo 0#1,ef rfl]
  erw[K37.m_most_flow,K37.b_most_flow,b,bu]
def BL(g:a=0∨a=1∨a=2)(c:K37.m_look_at_rooms [W0,f]=.ok e)(b:K37.m_look_at_taking [W0,d]=.exn x):gu a W0 f d i=.exn x:=by
 unfold gu;rcases g with rfl|rfl|rfl
 .rw[ef rfl]
  erw[K37.m_look_at_flow,K37.b_look_at_flow,c,b,bu]
 .rw[eo 0#1,ef rfl]
  erw[K37.m_room_of,K37.b_room_of,c,b,bu]
 .rw[eo 0#1,eo 0#1,ef rfl]
  erw[K37.m_most_flow,K37.b_most_flow,c,b,bu]
def Gb(g:K37.m_look_at_rooms [W0,b]=.ok e)(c:K37.m_look_at_taking [W0,a]=.ok f)(i:K37.m_look_at_amounts [W0,b,a,d]=.exn x):gu 0 W0 b a d=.exn x:=by
 unfold gu;rw[ef rfl];erw[K37.m_look_at_flow,K37.b_look_at_flow,g,c,i,bu]
def F7(g:K37.m_look_at_rooms [W0,b]=.ok e)(c:K37.m_look_at_taking [W0,a]=.ok f)(i:K37.m_look_at_side [W0,d]=.exn x):gu 1 W0 b a d=.exn x:=by
 unfold gu;rw[eo 0#1,ef rfl];erw[K37.m_room_of,K37.b_room_of,g,c,i,bu]
def oK(w:jU)(a:Int):D:=if a=0∨a=3 then .lst (Vt w.ts.length uF) else .lst [.str w.fi]
def Ga(W:cI w)(R:sP w xs)(c:a=0∨a=1∨a=2∨a=3):∃d,gu a (aI w) (.lst<|xs.map fr) (.lst []) (oK w a)=.ok d:=by
 have T:K37.m_look_at_taking [aI w,cF []]=.ok .non:=K16.tak_yes W;have b:D.lst (Vt w.ts.length uF)=.lst ((fv w).map fr):=by
  unfold fv;rw[List.map_replicate];rfl
 unfold gu oK;rcases c with rfl|rfl|rfl|rfl
 .rw[ef rfl,ef<|.inl rfl,b];exact⟨_,RW W R T⟩
 .rw[eo 0#1,ef rfl,eo<|by decide]
  obtain⟨y,h⟩:=Q3 W R T;exact⟨_,h⟩
 .rw[eo 0#1,eo 0#1,ef rfl]
  obtain⟨_,_,_,_,_,_,_,h⟩:=LR W R T (Q:=λ_=>True) (λ_ _ _ _ _ _ _=>trivial) trivial;exact⟨_,h⟩
 .rw[eo 0#1,eo 0#1,eo 0#1,ef<|.inr rfl,b]
  exact⟨_,Gp W⟩
end
end Flo
namespace DL
open PySem PySem.Spec PyProof.Rows L2
def Ng(o:Obj):Option Vi:=match o.data with
 |.func a=>match a.code with
  |.ref c=>Wp c
  |_=>Wb
 |_=>Wb
def G4(K:Va):List (Option Vi×Vi×Array U5):=K.filterMap λp=>(yN K p.2).map λq=>(Ng p.2,q)
def E8{K:Va}(h:(P,d)∈iC K):∃c,(c,P,d)∈G4 K:=by
 obtain⟨p,a,e⟩:=Xc.mp h;exact⟨Ng p.2,Xc.mpr ⟨p,a,by rw[e];rfl⟩⟩
theorem oJ{P:Vi}{d:Array U5}:∀{l:List<|Vi×Array U5},(l.map (·.1)).Nodup->(P,d)∈l->l.lookup P=Wp d
 |[],_,h=>by cases h
 |(Q,e)::r,nd,h=>by
  rw[Vf]at nd;obtain⟨g,c⟩:=VR.mp nd;rw[V7];rcases Vl.mp h with a|a
  .cases a;rw[eu]
  .have b:(P==Q)=Vd:=by
    rw[eR];rintro rfl;exact g (Xk (f:=(·.1)) a)
   rw[b];exact oJ c a
def G3(K:Va)(ts:List Vi):Bool:=(G4 K).all λq=>(match q.1 with
 |some c=>ZS K c q.2.1
 |none=>Vd)&&(K.lookup q.2.1).isNone&&ts.contains q.2.1
def tabsStart_mk{K:Va}{h:Vu}(a:K.In h)(tabs:∀P∈ts,h.get? P=Wp (W.tabObj #[]))(e:G3 K ts=VO)(nd:decide ((iC K).map (·.1)).Nodup=VO):L2.TabsStart K h:=λP d f=>by
 obtain⟨c,j⟩:=E8 f;have q:=V2.mp e _ j;rw[Vv,Vv]at q;obtain⟨⟨b,i⟩,g⟩:=q;refine⟨?_,tabs P (by simpa using g),by simpa using i,oJ (et nd) f⟩;cases c with|none=>cases b|some c=>exact⟨c,W.codeHd_of_K a b⟩
noncomputable def Jc(K:Va) (a:Vi) (q:Vq) (l c:Int):Bool:=match K.lookup a with
 |some ⟨_,_,.func e,_⟩=>match e.code with
  |.ref c0=>(G4 K).any λr=>r.1==Wp c0&&ZS K c0 r.2.1&&(match r.2.2.toList with
   |[.int d 0,.int f 0,.str b 0]=>d==l&&f==c&&b==q
   |_=>Vd)
  |_=>Vd
 |_=>Vd
def lamAt_mk{K:Va}(e:Jc K a q F.pos.line F.pos.col=VO)(l:(xZ K).lookup q=Wp F):Kb K a q F:=by
 unfold Jc at e;split at e
 .rename_i o n w m u
  split at e
  .rename_i c0 v
   obtain⟨⟨B,P,d⟩,s,e⟩:=List.any_eq_true.mp e;rw[Vv,Vv]at e;obtain⟨⟨_,x⟩,c⟩:=e;obtain⟨p,t,b⟩:=Xc.mp s;have j:(P,d)∈iC K:=by
    refine Xc.mpr ⟨p,t,?_⟩;cases z:yN K p.2 with|none=>rw[z]at b;cases b|some r=>rw[z]at b;cases b;rfl
   split at c
   .rename_i A C y hd
    rw[Vv,Vv]at c;obtain⟨⟨i,g⟩,f⟩:=c;have i:=eq_of_beq i;have g:=eq_of_beq g;have f:=eq_of_beq f;rw[i,g,f]at hd;have hd:d=#[rawInt F.pos.line,rawInt F.pos.col,.str q 0]:=by
     cases d;exact ew Array.mk hd
    rw[hd]at j;exact⟨o,n,w,m,c0,P,u,v,x,j,l⟩
   .cases c
  .cases e
 .cases e
end DL
namespace K37
open PySem L2 DL Com Flo
noncomputable def LX:bv:=ag (ak (ae (ak (ae (ag 1#6 2#0 aE) av) aZ)<|ae (jK (ak (ae (ak (ae 0#0<|ae 1#0 av) bI) av) aZ)<|ak (ae (ag 1#6 1#0 aE) av)<|m1 eg) av) aZ) (ak (ae (iU (ag 5#6 0#0 gZ)<|ag 5#6 3#0 gZ) av)<|m1 gL) aE
def FX:bv:=gm (ag (ag 1#6 (ag 1#0 0#6 aV) aE) 0#0 gZ)<|gm (iU (ag 2#6 3#0 iE)<|ag 0#6 0#0 gZ)<|iU (ag 2#6 2#0 iE)<|ag 0#6 3#0 B4
def MB:ci:=(ar (dG (ag 7#6 9#6 aE) (ar (Co 8<|K4 6 (ag 8#6 9#6 aE)<|af 9) au) au) au)
noncomputable def TB:ci:=(ar (Co 6<|aJ 10<|ak (ae 5#6<|ae 6#6 av) cC)
 (ar (dG (ag (dC<|.bl VO) 7#6 bG)
 (ar (dG (ag 10#6 0#4 jC)
 (ar (bJ<|dC<|.bl Vd)
 au)
 au)
 au)
 (ar (dG (ag (ak (ae 10#6 av) cS) (ag (jD 7#6<|dC<|.bl VO) (ak (ae (gm (ag (jD 7#6<|dC<|.bl VO) 3#0 gZ)<|ag 5#6 1#0 gZ) av)<|m1 gL) aV) iE)
 (ar (bJ<|dC<|.bl Vd)
 au)
 (ar (dG (gm (ag 7#6 0#0 aE)<|ag (ak (ae (aL 10#6<|kh tq "part")<|ae (aL 10#6<|kh mK "number") av) bI) (ak (ae 1#6<|ae (ag 4#6 5#0 aE) av) dJ) iE)
 (ar (bJ<|dC<|.bl Vd)
 au)
 au)
 au))
 au))
 au))
noncomputable def IB:ci:=(ar (aJ 4<|ak (ae 3#6<|ae (ak (ae 4#0<|ae 3#0<|ae 3#0<|ae 3#0<|ae 3#0<|ae 16#0<|ae 12#0<|ae 6#0<|ae 6#0<|ae 10#0<|ae 5040#0 av) aZ) av) aW)
 (ar (aJ 5<|ag 4#6 0#0 aE)
 (ar (mX 6<|ak (ae 1#6<|ae 2#6<|ae (ak av aZ)<|ae LX av) aZ)
 (ar (aJ 7<|cJ 1 [4,5] (rB<|dC<|.int 4) (bK 0) mYes FX)
 (ar (mX 8<|ak (ae (ak (ae 1#6<|ae (ag 4#6 5#0 aE) av) eA)<|ae (ak (ae 2#6<|ae (dZ 4#6 (bS<|dC<|.int 8) cR) av) dA)<|ae (ak (ae 1#6<|ae (ag 4#6 6#0 aE) av) da) av) aZ)
 (ar (bP 8<|ak (ae 1#6<|ae 5#6<|ae (ag 4#6 7#0 aE) av) cm)
 (ar (xN 4#0 (bK 9) MB) TB)))))))
def OZ:NJ=(ar (aJ 1<|ak (ae 0#6 av) di)
 (ar (aJ 2<|ak (ae 0#6 av) dM)
 (ar (lD (ag (ag (ak (ae 0#6 av) bf) 1#0 aE) (ak (ae 7#0 av) aZ) aV) (bK 3) IB)
 (ar (bJ<|dC<|.bl VO)
 au)))):=rfl
def eC(b0 b1 b2 b3:Bool):D:=.lst [.bl b0,.bl b1,.bl b2,.bl b3]
def o8(y:Bool)(ds:ac):Sl:=if y then .ow (.lst ds) else .sh<|.lst ds
def pk(b:Bool)(x y:D):D:=if b then x else y
section
variable {s0 s1 s2 s3 s4 s5 s9 s10:Sl}{b0 b1 b2 b3:Bool}{x0 x1 x2 x3 y0 y1 y2 y3:D}
def Tx:MB [s0,s1,s2,s3,s4,s5,.ow<|.lst [x0,x1,x2,x3],.sh<|eC b0 b1 b2 b3,o8 y [y0,y1,y2,y3],.sh<|.int 0,s10]=.ok (.nx [s0,s1,s2,s3,s4,s5,.ow<|.lst [pk b0 y0 x0,x1,x2,x3],.sh<|eC b0 b1 b2 b3,o8 (y&&!b0) [y0,y1,y2,y3],.sh<|.int 0,s10]):=by
 cases y<;>cases b0<;>erw[MB,eC,pk,o8,Xp,WE,eP,WV,eH]
def Tw:MB [s0,s1,s2,s3,s4,s5,.ow<|.lst [x0,x1,x2,x3],.sh<|eC b0 b1 b2 b3,o8 y [y0,y1,y2,y3],.sh<|.int 1,s10]=.ok (.nx [s0,s1,s2,s3,s4,s5,.ow<|.lst [x0,pk b1 y1 x1,x2,x3],.sh<|eC b0 b1 b2 b3,o8 (y&&!b1) [y0,y1,y2,y3],.sh<|.int 1,s10]):=by
 cases y<;>cases b1<;>erw[MB,eC,pk,o8,Xp,WE,eP,WV,eH]
def Tv:MB [s0,s1,s2,s3,s4,s5,.ow<|.lst [x0,x1,x2,x3],.sh<|eC b0 b1 b2 b3,o8 y [y0,y1,y2,y3],.sh<|.int 2,s10]=.ok (.nx [s0,s1,s2,s3,s4,s5,.ow<|.lst [x0,x1,pk b2 y2 x2,x3],.sh<|eC b0 b1 b2 b3,o8 (y&&!b2) [y0,y1,y2,y3],.sh<|.int 2,s10]):=by
 cases y<;>cases b2<;>erw[MB,eC,pk,o8,Xp,WE,eP,WV,eH]
def Tu:MB [s0,s1,s2,s3,s4,s5,.ow<|.lst [x0,x1,x2,x3],.sh<|eC b0 b1 b2 b3,o8 y [y0,y1,y2,y3],.sh<|.int 3,s10]=.ok (.nx [s0,s1,s2,s3,s4,s5,.ow<|.lst [x0,x1,x2,pk b3 y3 x3],.sh<|eC b0 b1 b2 b3,o8 (y&&!b3) [y0,y1,y2,y3],.sh<|.int 3,s10]):=by
 cases y<;>cases b3<;>erw[MB,eC,pk,o8,Xp,WE,eP,WV,eH]
def OY:∃a,bT (bK 9) MB [.int 0,.int 1,.int 2,.int 3] [s0,s1,s2,s3,s4,s5,.ow<|.lst [x0,x1,x2,x3],.sh<|eC b0 b1 b2 b3,.ow<|.lst [y0,y1,y2,y3],s9,s10]=.ok (.nx [s0,s1,s2,s3,s4,s5,.ow<|.lst [pk b0 y0 x0,pk b1 y1 x1,pk b2 y2 x2,pk b3 y3 x3],.sh<|eC b0 b1 b2 b3,a,.sh<|.int 3,s10]):=by
 exact⟨_,by
  show bT (bK 9) MB _ [s0,s1,s2,s3,s4,s5,.ow<|.lst [x0,x1,x2,x3],.sh<|eC b0 b1 b2 b3,o8 VO [y0,y1,y2,y3],s9,s10]=_;rw[dr rfl Tx,dr rfl Tw,dr rfl Tv,dr rfl Tu];rfl⟩
end
section
variable {w:jU}{xs:List iz}{a v1 v2 v3 v4:Int}{ds:ac}
def c0(v1:Int):Bool:=v1==0
def c1(v2 a:Int):Bool:=(v2==0)&&!(a==3)
def c3(v4 a:Int):Bool:=(v4==0)&&(!(a==3)&&!(a==2))
def ML(o:aE (.lst ds) (.int 1)=.ok (.int v1))(n:aE (.lst ds) (.int 2)=.ok (.int v2))(m:aE (.lst ds) (.int 3)=.ok (.int v3))(l:aE (.lst ds) (.int 4)=.ok (.int v4)) :
  c6 1 [4,5] (bK 0) mYes FX [s0,s1,s2,s3,.sh<|.lst ds,.sh<|.int a,s6,s7,s8,s9,s10] [.int 0,.int 1,.int 2,.int 3]=.ok (eC (c0 v1) (c1 v2 a) (c1 v3 a)<|c3 v4 a):=by
 have j:B4 (.int 0) (.int 3)=.ok (.bl VO):=rfl;have i:B4 (.int 1) (.int 3)=.ok (.bl VO):=rfl;have g:B4 (.int 2) (.int 3)=.ok (.bl VO):=rfl;have f:B4 (.int 3) (.int 3)=.ok (.bl Vd):=rfl;refine(ki (F:=λd=>match d with|.int (.ofNat 0)=>.bl (c0 v1)|.int (.ofNat 1)=>.bl (c1 v2 a)|.int (.ofNat 2)=>.bl (c1 v3 a)|_=>.bl<|c3 v4 a) 0#1 ?_).trans rfl;intro d hd;simp only[Vl,Wu,ey]at hd;rcases hd with rfl|rfl|rfl|rfl
 .refine⟨[.sh<|.int 0,.sh<|.lst ds,.sh<|.int a],rfl,rfl,?_⟩
  show FX _=.ok (.bl<|c0 v1);unfold c0;cases e:(v1==0)<;>cases c:(a==3)<;>cases b:(a==2)<;>erw[FX,o,e,c,b,j]
 .refine⟨[.sh<|.int 1,.sh<|.lst ds,.sh<|.int a],rfl,rfl,?_⟩
  show FX _=.ok (.bl<|c1 v2 a);unfold c1;cases e:(v2==0)<;>cases c:(a==3)<;>cases b:(a==2)<;>erw[FX,n,e,c,b,i,Zl,Yr,WE]
 .refine⟨[.sh<|.int 2,.sh<|.lst ds,.sh<|.int a],rfl,rfl,?_⟩
  show FX _=.ok (.bl<|c1 v3 a);unfold c1;cases e:(v3==0)<;>cases c:(a==3)<;>cases b:(a==2)<;>erw[FX,m,e,c,b,g,Zl,Yr,WE]
 .refine⟨[.sh<|.int 3,.sh<|.lst ds,.sh<|.int a],rfl,rfl,?_⟩
  show FX _=.ok (.bl<|c3 v4 a);unfold c3;cases e:(v4==0)<;>cases c:(a==3)<;>cases b:(a==2)<;>erw[FX,l,e,c,b,f,Zl,Yr,WE]
def LW(W:cI w)(g:a=0∨a=1∨a=2∨a=3):LX [s0,.sh<|aI w,s2,s3,s4,.sh<|.int a,s6,s7,s8,s9,s10]=.ok (oK w a):=by
 have e:aE (aI w) (.int 1)=.ok (.lst<|w.ts.map bo):=rfl;have d:aE (aI w) (.int 2)=.ok (.str w.fi):=rfl;have f:=D2 W.t14;have b:gL (.bl VO)=.ok (.int 1):=rfl;have c:gL (.bl Vd)=.ok (.int 0):=rfl;rcases g with rfl|rfl|rfl|rfl
 .rw[show oK w 0=.lst (Vt w.ts.length uF) from rfl]
  erw[LX,e,d,U8,f,b,c]
 .rw[show oK w 1=.lst [.str w.fi] from rfl]
  erw[LX,e,d,U8,f,b,c]
 .rw[show oK w 2=.lst [.str w.fi] from rfl]
  erw[LX,e,d,U8,f,b,c]
 .rw[show oK w 3=.lst (Vt w.ts.length uF) from rfl]
  erw[LX,e,d,U8,f,b,c]
end
section
variable {s0 s2 s3 s8 s9 s10:Sl}{a:Int}{b0 b1 b2 b3:Bool}{u r:D}{ds ths:ac}
def E7(h:cC [.int a,.lst ths]=.ok .non):TB [s0,.sh u,s2,s3,.sh<|.lst ds,.sh<|.int a,.ow<|.lst ths,.sh<|eC Vd Vd Vd Vd,s8,s9,s10]=.ok (.nx [s0,.sh u,s2,s3,.sh<|.lst ds,.sh<|.int a,.sh<|.lst ths,.sh<|eC Vd Vd Vd Vd,s8,s9,.sh .non]):=by
 have e:bG (.bl VO) (eC Vd Vd Vd Vd)=.ok (.bl VO):=rfl;erw[TB,h,e]
def oj(h:cC [.int a,.lst ths]=.ok r)(d:bG (.bl VO) (eC Vd b1 b2 b3)=.ok (.bl Vd))(g:kP (eC Vd b1 b2 b3) (.bl VO)=.ok (.int j))(f:cS [r]=.ok (.int<|j+q))(m:(j==3&&a==1)=VO/\q=1∨(j==3&&a==1)=Vd/\q=0):TB [s0,.sh u,s2,s3,.sh<|.lst ds,.sh<|.int a,.ow<|.lst ths,.sh<|eC Vd b1 b2 b3,s8,s9,s10]=.ok (.nx [s0,.sh u,s2,s3,.sh<|.lst ds,.sh<|.int a,.sh<|.lst ths,.sh<|eC Vd b1 b2 b3,s8,s9,.sh r]):=by
 have c:aE (eC Vd b1 b2 b3) (.int 0)=.ok (.bl Vd):=rfl;have l:gL (.bl VO)=.ok (.int 1):=rfl;have i:gL (.bl Vd)=.ok (.int 0):=rfl;rcases m with⟨e,rfl⟩|⟨e,rfl⟩
 .rw[Vv]at e
  obtain⟨b,n⟩:=e;unfold eC at *;generalize [D.bl Vd,.bl b1,.bl b2,.bl b3]=o at *;erw[TB,h,d,f,g,c,b,n,l]
 .unfold eC at *
  generalize [D.bl Vd,.bl b1,.bl b2,.bl b3]=o at *;cases b:(j==3)
  .erw[TB,h,d,f,g,c,b,i]
  .rw[b,Xp]at e
   erw[TB,h,d,f,g,c,b,e,i]
def N8(h:cC [.int a,.lst ths]=.ok (j9<|Nwb.exW p n))(g:aE (.lst ds) (.int 5)=.ok (.int d))(hw:dJ [u,.int d]=.ok (.tup [.str p,n]))(q:Nwb.NumD n):TB [s0,.sh u,s2,s3,.sh<|.lst ds,.sh<|.int a,.ow<|.lst ths,.sh<|eC VO b1 b2 b3,s8,s9,s10]=.ok (.nx [s0,.sh u,s2,s3,.sh<|.lst ds,.sh<|.int a,.sh<|.lst ths,.sh<|eC VO b1 b2 b3,s8,s9,.sh<|j9<|Nwb.exW p n]):=by
 have j:aE (eC VO b1 b2 b3) (.int 0)=.ok (.bl VO):=rfl;have l:bG (.bl VO) (eC VO b1 b2 b3)=.ok (.bl Vd):=rfl;have o:kP (eC VO b1 b2 b3) (.bl VO)=.ok (.int 0):=rfl;have m:=O1 (p:=p) (n:=n);have e:gL (.bl Vd)=.ok (.int 0):=rfl;have t:kh tq "part" (j9<|Nwb.exW p n)=.ok (.str p):=by rw[Nwb.excW];exact Nwb.fld_part (b:=true) rfl
 have s:kh mK "number" (j9<|Nwb.exW p n)=.ok n:=by rw[Nwb.excW];exact Nwb.fld_number (b:=true) rfl
 have f:iE (.tup [.str p,n]) (.tup [.str p,n])=.ok (.bl Vd):=by
  have c:bp 40 (.tup [.str p,n])=VO:=by
   rcases q with rfl|⟨i,rfl⟩<;>rfl
  unfold iE;rw[ef ⟨c,c⟩,lY 40 _ c];rfl
 unfold eC at *;generalize [D.bl VO,.bl b1,.bl b2,.bl b3]=v at *;generalize j9 (Nwb.exW p n)=E at *;erw[TB,h,l,m,o,j,e,t,s,g,hw,f]
end
section
variable {w:jU}{xs:List iz}(W:cI w) (R:sP w xs)
include W R
theorem JZ(o:a=0∨a=1∨a=2∨a=3)(u:aE (.lst ds) (.int 5)=.ok (.int s)) 
  (v:Nwb.m_look_at_web [C]=.exn (Nwb.exW p n))(A:Nwb.NumD n)(hw:dJ [aI w,.int s]=.ok (.tup [.str p,n]))
  (z:m_look_at_rooms [aI w,G]=.exn SH)(x:m_look_at_taking [aI w,E]=.exn K16.noTak)
  (B:a=0->m_look_at_amounts [aI w,.lst<|xs.map fr,.lst [],r]=.exn Qp)(y:a=1->m_look_at_side [aI w,r]=.exn Qo) :
  ∃t c:Sl,TB [s0,.sh<|aI w,s2,s3,.sh<|.lst ds,.sh<|.int a,.ow<|.lst [pk (c0 v1) C<|aI w,pk (c1 v2 a) G<|.lst<|xs.map fr,pk (c1 v3 a) E<|.lst [],pk (c3 v4 a) r<|oK w a],.sh<|eC (c0 v1) (c1 v2 a) (c1 v3 a)<|c3 v4 a,s8,s9,s10]=.ok (.nx [s0,.sh<|aI w,s2,s3,.sh<|.lst ds,.sh<|.int a,t,.sh<|eC (c0 v1) (c1 v2 a) (c1 v3 a)<|c3 v4 a,s8,s9,c]):=by
 have m:m_look_at_taking [aI w,.lst []]=.ok .non:=K16.tak_yes W;have e:=yU W R;cases H:c0 v1
 .cases l:c1 v2 a
  .cases i:c1 v3 a
   .cases g:c3 v4 a
    .obtain⟨d,hd⟩:=Ga W R o
     exact⟨_,_,E7<|JY hd⟩
    .unfold c3 at g
     rw[Vv,Vv]at g;obtain⟨_,b,f⟩:=g;have b:a≠3:=by simpa using b
     have f:a≠2:=by simpa using f
     rcases o with rfl|rfl|rfl|rfl
     .exact⟨_,_,oj (j:=3) (q:=0) (mi (Gb e m<|B rfl) rfl) rfl rfl O5 (.inr ⟨rfl,rfl⟩)⟩
     .exact⟨_,_,oj (j:=3) (q:=1) (mi (F7 e m<|y rfl) rfl) rfl rfl O3 (.inl ⟨rfl,rfl⟩)⟩
     .exact er rfl f
     .exact er rfl b
   .have q:a=0∨a=1∨a=2:=by
     unfold c1 at i;rw[Vv]at i;have b:a≠3:=by simpa using i.2
     omega
    exact⟨_,_,oj (j:=2) (q:=0) (mi (BL q e x) rfl) rfl rfl O2 (.inr ⟨rfl,rfl⟩)⟩
  .have q:a=0∨a=1∨a=2:=by
    unfold c1 at l;rw[Vv]at l;have b:a≠3:=by simpa using l.2
    omega
   exact⟨_,_,oj (j:=1) (q:=0) (mi (Dp q z) rfl) rfl rfl O4 (.inr ⟨rfl,rfl⟩)⟩
 .exact⟨_,_,N8 (mi (JT v) rfl) u hw A⟩
theorem KP{S:D}:∃t4 t5 t6 t7 B t9 H:Sl,IB [.sh S,.sh<|aI w,.sh<|.lst<|xs.map fr,.sh<|.int c,s4,s5,s6,s7,s8,s9,s10]=.ok (.nx [.sh S,.sh<|aI w,.sh<|.lst<|xs.map fr,.sh<|.int c,t4,t5,t6,t7,B,t9,H]):=by
 obtain⟨g,hv,V⟩:=Cod.draws_ok c [4,3,3,3,3,16,12,6,6,10,5040] 0#1 0#1;have N:aW [.int c,.lst [.int 4,.int 3,.int 3,.int 3,.int 3,.int 16,.int 12,.int 6,.int 6,.int 10,.int 5040]]=.ok (.lst<|g.map D.int):=hv;have ab:g.length=11:=V.len;obtain⟨a,_,b0,i0⟩:=V.ix 0 0 rfl rfl;obtain⟨z,_,_,i1⟩:=V.ix 1 1 rfl rfl;obtain⟨y,_,_,i2⟩:=V.ix 2 2 rfl rfl;obtain⟨x,_,_,i3⟩:=V.ix 3 3 rfl rfl;obtain⟨v,_,_,i4⟩:=V.ix 4 4 rfl rfl;obtain⟨v5,_,b5,Y⟩:=V.ix 5 5 rfl rfl;obtain⟨v6,_,b6,i6⟩:=V.ix 6 6 rfl rfl;obtain⟨v7,_,b7,i7⟩:=V.ix 7 7 rfl rfl;obtain⟨v8,g8,b8,_⟩:=V.ix 8 8 rfl rfl;obtain⟨v9,g9,b9,_⟩:=V.ix 9 9 rfl rfl;obtain⟨C,Q,U,_⟩:=V.ix 10 10 rfl rfl;obtain⟨s,m,j0,j1,j2⟩:∃s,cE (g.map D.int) (Wp 8) Wb=s/\aE (.lst s) (.int 0)=.ok (.int v8)/\aE (.lst s) (.int 1)=.ok (.int v9)/\aE (.lst s) (.int 2)=.ok (.int C):=by
  have hc:cE (g.map D.int) (Wp 8) Wb=(g.map D.int).drop 8:=Nwb.cut_dr (k:=8) (by rw[U8];omega);refine⟨_,hc,?_,?_,?_⟩
  .exact c5 (k:=0) (by rw[WU,Vh,g8];rfl)
  .exact c5 (k:=1) (by rw[WU,Vh,g9];rfl)
  .exact c5 (k:=2) (by rw[WU,Vh,Q];rfl)
 have G:=W.t14;have ha:a=0∨a=1∨a=2∨a=3:=by omega
 obtain⟨n5,rfl⟩:=Wa b5.1;obtain⟨n6,rfl⟩:=Wa b6.1;obtain⟨J,rfl⟩:=Wa b7.1;obtain⟨n8,rfl⟩:=Wa b8.1;obtain⟨W1,p,n,w1,w2,hW,hN⟩:=Gh W (i:=n5) 0#2;have eW:=MM W<|c5 w1;have hw:=GN W<|c5 w2;obtain⟨A,o,hA,ho,T⟩:=MP (a:=0) (rs:=xs.map fr) (by rw[U8,R.l];exact G) j0 j1 j2 b9 U.1;obtain⟨R1,r1,hR⟩:=Gk W R hA ho (i:=n8) 0#2;replace T:=T _<|c5 r1;obtain⟨T1,t1,hT⟩:=Gi W (i:=n6) 0#2;have eT:=MN W<|c5 t1;obtain⟨b,eL,hF,hS⟩:∃b,cm [aI w,.int a,.int (J:Int)]=.ok b/\(a=0->m_look_at_amounts [aI w,.lst<|xs.map fr,.lst [],b]=.exn Qp)/\(a=1->m_look_at_side [aI w,b]=.exn Qo):=by
  by_cases q:a=0
  .subst q
   obtain⟨b,M,L⟩:=Gm W (r:=.lst<|xs.map fr) (t:=.lst []) (i:=J) 0#2;exact⟨b,MQ W (c5 M),λ_=>L,λh=>er h<|by decide⟩
  .obtain⟨b,M,L⟩:=Gj W (i:=J) 0#2
   exact⟨b,MO W q (c5 M),λh=>er h q,λ_=>L⟩
 generalize al:g.map D.int=ds at *;obtain⟨B,j⟩:=OY (s0:=.sh S) (s1:=.sh<|aI w) (s2:=.sh<|.lst<|xs.map fr) (s3:=.sh<|.int c) (s4:=.sh<|.lst ds) (s5:=.sh<|.int a) (s9:=s9) (s10:=s10) (b0:=c0 z) (b1:=c1 y a) (b2:=c1 x a) (b3:=c3 v a) (x0:=aI w) (x1:=.lst<|xs.map fr) (x2:=.lst []) (x3:=oK w a) (y0:=W1) (y1:=R1) (y2:=T1) (y3:=b);have hs:∀u,rB 4#0 u=.ok [.int 0,.int 1,.int 2,.int 3]:=λ_=>rfl;have cB:=λf I e d s6 s7 s8 s9 s10=>ML (a:=a) (s0:=f) (s1:=I) (s2:=e) (s3:=d) (s6:=s6) (s7:=s7) (s8:=s8) (s9:=s9) (s10:=s10) i1 i2 i3 i4;have cL:=λf e d s4 s6 s7 s8 s9 s10=>LW W ha (s0:=f) (s2:=e) (s3:=d) (s4:=s4) (s6:=s6) (s7:=s7) (s8:=s8) (s9:=s9) (s10:=s10);have rg:∀u,EC (bK 9) MB u (.int 4)=bT (bK 9) MB [.int 0,.int 1,.int 2,.int 3] u:=λ_=>rfl;obtain⟨u6,E,O⟩:=JZ W R (s0:=.sh S) (s2:=.sh<|.lst<|xs.map fr) (s3:=.sh<|.int c) (s8:=B) (s9:=.sh<|.int 3) (s10:=s10) (v1:=z) (v2:=y) (v3:=x) (v4:=v) ha Y hW hN hw hR hT hF hS;refine⟨.sh<|.lst ds,.sh<|.int a,u6,.sh<|eC (c0 z) (c1 y a) (c1 x a)<|c3 v a,B,.sh<|.int 3,E,?_⟩;erw[IB,N,i0,cL,hs,cB,Y,eW,m,T,i6,eT,i7,eL,rg,j,O]
end
def IW(ns:List Int)(u:ns.length<=63):m_law [.lst<|ns.map D.int]=.ok (.bl VO):=by
 obtain⟨w,xs,r,k2,hw,W,t,R,x,T⟩:=drawn u;have y:di=Cod.di:=rfl;have z:bf=Cod.bf:=rfl;have s:aE (.tup [.lst<|r.map D.int,.lst<|k2.map D.int]) (.int 1)=.ok (.lst<|k2.map D.int):=rfl;have b:aV (.lst<|k2.map D.int) (.lst [.int 7])=.ok (.lst<|(k2++[7]).map D.int):=by
  rw[dX (dV (by rw[U8];simp;omega)),VX];rfl
 obtain⟨o,v,m,l,j,i,g,f,e,a,rfl⟩:=EB (tg:=bK 3) (body:=IB) (ds:=(k2++[7]).map D.int) (λn=>∃m l j i g f e a,n=[.sh<|.lst<|ns.map D.int,.sh<|aI w,.sh<|.lst<|xs.map fr,m,l,j,i,g,f,e,a]) (by
  rintro d hd n ⟨m,l,j,i,g,f,e,a,rfl⟩;obtain⟨c,_,rfl⟩:=VD.mp hd;obtain⟨H,G,E,C,B,A,p,h⟩:=KP W R (S:=.lst<|ns.map D.int) (c:=c) (s4:=l) (s5:=j) (s6:=i) (s7:=g) (s8:=f) (s9:=e) (s10:=a);exact⟨_,_,rfl,h,_,_,_,_,_,_,_,_,rfl⟩) [.sh<|.lst<|ns.map D.int,.sh<|aI w,.sh<|.lst<|xs.map fr,.no,.no,.no,.no,.no,.no,.no,.no] ⟨_,_,_,_,_,_,_,_,rfl⟩
 unfold m_law;rw[OZ];erw[y,z,hw,t,x,s,b,v]
end K37
namespace K37
open PySem L2 DL
def sp_law(K:Va)(H:Hp)(a:Vi)(ns:List Int)(b:ns.length<=63)(c:fm K H a (ns.map V.int)):spD K 1 m_law [.ref a] H (λv _=>v=.bl VO) λ_ _ _=>False:=by
 refine⟨rfl,H,[.lst<|ns.map D.int],aD.refl _,Reps.cons (aA.mpr ⟨a,_,rfl,c,yE ns⟩) Reps.nil,?_⟩;rw[IW ns b];exact λv e d _ r=>aF.mp r
end K37
structure PySem.W.Fast:Prop where(tw7441744358778534847 tw2107992505689627565 tw1334032104803653966 tw13848349676712985676 tw4442571355216680792 tw6481115408541068521 tw12248078251766256618 tw3144009993770447027 tw5119366859820575792 tw1415338473984638628 tw13896669231930263494 tw3103804552228685627 tw2160628043841582825 tw12173936563872616934 tw16320616692220980793 tw12927599822337648828 tw12606279969748270227 tw3327172489540643139 tw1573980749840402681 tw3573999975395580013 tw15652355842627053485 tw5018579307391364507 tw10390561257309356011 tw13211253183670612144 tw6194492960248810899 tw2273877024393322672 tw10522366287127038092 tw10783037031200472487 tw5732236412092216384 tw13968334356621247076 tw8795610908477959176 tw7433129116977850163 tw8889942357861696038 tw6009526342948995793 tw17926161971109331988 tw11253251134808523189 tw7825723949602888033 tw1300606886577111539 tw3061923317596561147 tw11432259899302485549 tw15373773251238775184 tw591028884304074438 tw11559788309700835026 tw12585277654503901417 tw11404684205610860924 tw5896421577873219486 tw10700480742866418462 tw12485654414477869801 tw17260372497873439566 tw17617246360968992167 tw18270335745897359531 tw8142644787128928431 tw6868516196150266096 tw14155944742830806223 tw6063449738763119627 tw10541159000711022870 tw6347370340039127137 tw13480745941031965752 tw18130757394441596513 tw4885212033196438958 tw18240273713582055819 tw745577262948013186 tw9671699225703303001 tw12894754571895425254 tw7852098625343773863 tw3393110593276023920 tw762008411768981085 tw16991898684208493881 tw526714720007794001 tw12285448639834621500 tw7989401951307388238 tw13610540524671142098 tw5364006519565688586 tw13767342584779421913 tw16794605818437056504 tw106652799611748393 tw16819966002108562733 tw3365449757838131511 tw13685668214949507273 tw7327429987004126798 tw2411770374831179958 tw774566361658679404 tw8861103634378927699 tw15619454173070757354 tw5686898622819059118 tw12338063139700576237 tw13971414981339845542 tw10067356432732543298 tw4193774445884519095 tw15717046996066854673 tw17553235188021275678 tw11281150733961064915 tw13359260335902530448 tw13572103265771593878 tw7645256104621741373 tw8357192629994909775 tw10100573911896976119 tw16681779433829065347 tw3583864647962773815 tw15380258750719722048 tw4826850044399211353 tw10183846081820897077 tw14421318944812154496 tw7726315017515927681 tw15642549925004842475 tw6330783638072247777 tw7556698862439161519 tw8617719753396564254 tw3375530017615627628 tw11726412949109935419 tw6520770124748425538 tw11438091318483313187 tw6456666202977941261 tw343783859544216473 tw2849261560673272030 tw18314787405920800593 tw11356059088987193391 tw4008372241913280231 tw8767828886686934432 tw12780347559769503806 tw235076693849570902 tw9351628086181169968 tw8251054110553348087 tw886950765384481256 tw6841062515765467143 tw2454842722379698892 tw8559271136648183962 tw14678931129673233994 tw12140214177121555668 tw15603672434570294446 tw10428250583374549854 tw1600114975977824358 tw16171618171168815644 tw2677092649342431079 tw11852044705851419974 tw10499258152776204258 tw16496287550316825876 tw8994226280987609802 tw1286172959882484874 tw4725836066836893322 tw5908769651303609236 tw13476151937888471891 tw11374862853774232419 tw14415600215565464683 tw10526266900320748852 tw11079419441359465552 tw11001599332744426046 tw376768180664692009 tw9916144956880896896 tw6935940133327580205 tw15408168891334439114 tw18210086782252972809 tw999084131056181674:True)
open PySem PySem.W PyProof.Rows
set_option maxRecDepth 100000 in
set_option maxHeartbeats 0 in
theorem PySem.Challenge.cw_farthestcut_k37_what_goes_first_holds : PySem.Challenge.rw_farthestcut_k37_what_goes_first.Holds := by
 w_on;o_law;k_head;(case hw=>w_witness2)
 k_fill
 refine L2.walk_ofK (l:=PySem.Challenge.rw_farthestcut_k37_what_goes_first) (n:=63) (k:=10) (x:="_law_script") (CX:=L2.CX0) (sp:=fun K=>DL.spD K 1 K37.m_law) ?I rfl (by decide) rfl ⟨rfl,by decide,by decide,rfl⟩ (fun w h Y=>W.km_in_of Y) (fun w h Y=>DL.tabsStart_mk (W.km_in_of Y) (W.km_tabs_of Y) (by kernel_rfl) (by kernel_rfl)) ?F ?S ?C
 case S=>exact fun K H a ns hl _ hS=>K37.sp_law K H a ns hl hS
 case C=>exact fun _ _ _ _ h=>h
 case I=>rfl
 case F =>
  intro w mg fa h KX G hmg;have T:∃ t:K37.Adr,K37.Txt (L2.KOf KX) mg t/\mg "law"=some (.ref (t.A 55))/\∃ kV doc pm an cdv ct,t.Q 55=X6 "law" "law" (L2.defArgs (K37.top 92)) (L2.defBody (K37.top 92)) (L2.defScope (K37.top 92)) .none kV doc pm an cdv ct:=by
   dsimp only[L2.KOf];refine' K37.txt_wr (K37.txt_mk KX G ?QS ?_ ?_ ?_ ?_ ?_ ?_ ?_ ?_ ?_ ?_ ?_ ?_ ?_ ?_ ?_ ?_ ?_ ?_ ?_ ?_ ?_ ?_ ?_ ?_ ?_ ?_ ?_ ?_ ?_ ?lx_most_flow ?_ ?_ ?_ ?_ ?_ ?_ ?_ ?_ ?_ ?_ ?_ ?_ ?_ ?_ ⟨?_,?_,?_,?_⟩ ⟨⟨?_,?_,?_,?_⟩,?_,?_,?_,?_,?_,?_,?_,?_,?_,?_,?_,?_⟩ ⟨⟨?_,?_,?_,?_⟩,?_,?_,?_,?_,?_,?_,?_,?_,?_,?_,?_,?_,?_⟩ ⟨⟨?_,?_,?_,?_⟩,?_,?_,?_,?_,?_,?_,?_,?_,?_,?_,?_,?_,?_⟩ ⟨⟨?_,?_,?_,?_⟩,?_,?_,?_,?_,?_,?_,?_,?_,?_,?_,?_,?_,?_⟩ ⟨⟨?_,?_,?_,?_⟩,?_,?_,?_,?_,?_,?_,?_,?_,?_,?_,?_,?_⟩ ⟨⟨?_,?_,?_,?_⟩,?_,?_,?_,?_,?_,?_,?_,?_,?_,?_,?_,?_⟩ ⟨_,_,_,_,_,_,_,_,_,_,_,_,_,_,_,_,_,_,_,_,_,_,_,_,_,_,_,_,_,?_,?_,?_,?_,?_,?_,?_,?_,?_,?_,(DL.noL_cons ?_ DL.noL_nil)⟩ ⟨_,_,_,_,_,_,_,_,_,_,_,_,_,_,_,_,_,_,_,_,_,_,_,_,_,_,_,_,_,?_,?_,?_,?_,?_,?_,?_,?_,?_,?_,(DL.noL_cons ?_ (DL.noL_cons ?_ DL.noL_nil))⟩ ⟨_,_,_,_,_,_,_,_,_,_,_,_,_,_,_,_,_,_,_,_,_,_,_,_,_,_,_,_,_,?_,?_,?_,?_,?_,?_,?_,?_,?_,?_,(DL.noL_cons ?_ DL.noL_nil)⟩ ?_ ?_ ?_ ?_ (DL.sb_c ?_ (DL.sb_c ?_ (DL.sb_c ?_ (DL.sb_c ?_ (DL.sb_c ?_ (DL.sb_c ?_ (DL.sb_c ?_ trivial))))))) (DL.sb_c ?_ (DL.sb_c ?_ (DL.sb_c ?_ (DL.sb_c ?_ (DL.sb_c ?_ (DL.sb_c ?_ (DL.sb_c ?_ trivial))))))) (DL.sb_c ?_ (DL.sb_c ?_ (DL.sb_c ?_ (DL.sb_c ?_ (DL.sb_c ?_ (DL.sb_c ?_ (DL.sb_c ?_ trivial))))))) (DL.sb_c ?_ (DL.sb_c ?_ (DL.sb_c ?_ (DL.sb_c ?_ (DL.sb_c ?_ (DL.sb_c ?_ (DL.sb_c ?_ trivial))))))) (DL.sb_c ?_ (DL.sb_c ?_ (DL.sb_c ?_ (DL.sb_c ?_ (DL.sb_c ?_ (DL.sb_c ?_ (DL.sb_c ?_ trivial))))))) (DL.sb_c ?_ (DL.sb_c ?_ (DL.sb_c ?_ (DL.sb_c ?_ (DL.sb_c ?_ (DL.sb_c ?_ (DL.sb_c ?_ trivial))))))) ?_ ?_ ?_ ?_ ?_ ?_ ?_ ?_ ?_ ?_ ?_ ?_ ?_ ?_ ?_ ?_ ?_ ?_ ?_ ?_)
   case' QS=>iterate 56 refine DL.QAs.cons ⟨by k_is,by k_is,_,_,_,_,_,_,_,_,_,by k_is,by k_is⟩ ?_
   case QS=>trivial
   case lx_most_flow=>exact DL.lamAt_mk (by kernel_rfl) (by kernel_rfl)
   all_goals try first |k_is |k_exc |rfl
   exact⟨_,_,_,_,[.int 0,.int 1],rfl,.cons ⟨_,rfl⟩ (.cons ⟨_,rfl⟩ (.nil)),by decide,fun H=>DL.Reps.cons (DL.ri _) (DL.Reps.cons (DL.ri _) (DL.Reps.nil))⟩;exact⟨_,_,_,_,[.str "one",.str "both"],rfl,.cons ⟨_,rfl⟩ (.cons ⟨_,rfl⟩ (.nil)),by decide,fun H=>DL.Reps.cons (DL.Rep.str_iff.mpr rfl) (DL.Reps.cons (DL.Rep.str_iff.mpr rfl) (DL.Reps.nil))⟩
  obtain⟨t,T,e0,kV,doc,pm,an,cdv,ct,ed⟩:=T;have e1:=hmg.symm.trans e0;cases e1;refine⟨t.Q 55,fun s u=>?_,fun base kb nb=>(K37.ok_law T).F⟩;rw[ed];exact .of_eq rfl
