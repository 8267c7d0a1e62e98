import PyProof.Rows.All
import Wide.All
import OpenK.AllK
import Wide.FinOn
import PyProof.EqAt
import PyProof.EqKinds
import PyProof.NeKinds
import PyProof.TupleCall
import PyProof.StrWalks
import PyProof.EnumMake
import PyProof.WalksEnum
import PyProof.ZipIter
import PyProof.Rows.ZipGen
import PyProof.Rows.SortWalk
import KE.KSortedM
import PyProof.StrLawsIdx
import PyProof.StrLawsNeg
import PyProof.ExcInit
import PyProof.InstStoreFacts
import PyProof.AttrMissHeap
import PyProof.FactsAll.enumerate
import PyProof.FactsAll.dict_1
import KE.KDictOf
import KE.KItemsList
import PyProof.ReprRoads
import PyProof.FitsInt
import PySem.Challenge.RW_farthestcut_k16_no_webs_and_takings
open PySem renaming Value->Us,wpAny_bind->Uu,Addr->Uw,starEach->Uy,Shared->UE,model->UM,wpAny->UO,Heap->UR,Str->US,wpAny_pure->UU,mainGlobals->UX,compareOp->Vj,Expr->Vk,Program->Vq,PyData->Vr,wpAny_mono->Vs,Around->Vw,swapsWith->Vz,backTo->VA,wpAny_truthy_bool->VJ,World->VL,Env->VP,sysModules->VR,FuncData->VZ,Stmt->V0,wpAny_holding->V1,wpAny_loadPart_at->V2,NameKind->V3,mem_of_lookup->Wg,cLine->Wm,codeAny->WC,Within->WM,attributeBase->WU,holding->WY,typeLookup->W2,keywordEach->W5,Keyword->Xs,DictEntry->XG,ofString_length->XT,backToKw->XU,Scope->XX,ReadsAll->XY,intBits_le_iff->Zh,Reads->Zi
open PySem.W renaming Frag->Ut,nsIn->VH,mg_none_of->VM,mg_of->VQ,kia_one->VU,findIn->Wq,hasDictIn->WG,fnOf->WH,keepIn->WV,subIn->Xf,kitOne->XA,emptyDict->XW,hideAll->X3,Looks->X4,of_hideAll->Yi,isNs_of_in->Yj,excIn->Yk,codeIn->Yl,specialIn->Yu,kitx_dict->Yv,exmOne->YC,InstAt->YD,looks_clsIn->YK,hideAll_get->YL,methodObj->Zc,lookIn->Zd,kitx_list->Ze
open List renaming length_map->Uv,getElem?_set_ne->Uz,getElem?_eq_some_iff->UA,getElem?_eq_getElem->UB,mem_cons->UG,mem_cons_of_mem->UH,replicate->UK,getElem?_map->UL,mem_of_getElem?->UN,size_toArray->UP,getElem?_append_left->UQ,map_cons->UW,getElem?_append_right->UZ,mem_cons_self->U0,getElem?_set_self->U2,not_mem_nil->U3,length_cons->U6,getElem?_replicate->U7,all_eq_true->Vc,mem_map->Vg,mem_append->Vl,drop_eq_getElem_cons->Vm,length_take->Vn,append_nil->Vo,length_append->Vt,length_replicate->Vu,getElem?_cons_succ->Vv,replicate_succ->Vx,mem_append_right->VD,zip_cons_cons->VF,range->VG,lookup_cons->VW,length_eq_zero_iff->VX,getElem?_cons_zero->VY,filterMap_cons->V5,map_append->V7,map_nil->Wc,mem_of_mem_take->Wd,nil_append->We,length_nil->Wf,mem_singleton->Wk,drop_zero->Wl,getElem?_set_self'->Wr,cons_append->Ws,nodup_cons->Wy,any_cons->WB,flatten_cons->WD,Nodup->WI,mem_nil_iff->WO,drop_length->WQ,replicate_zero->WT,find?_cons->WZ,set_cons_zero->W3,set_cons_succ->W4,mem_range->Xa,map_map->Xb,all_cons->Xg,lookup->Xh,pairwise_cons->Xm,nodup_iff_pairwise_ne->Xn,reverse_cons->Xp,length->Xq,append_assoc->Xr,getElem_mem->XF,range_succ_eq_map->XO,mem_filter->XQ,mem_of_mem_drop->XZ,getElem?_range->X5,map_take->X8,Pairwise->X9,mem_filterMap->Yd,filterMap_map->Ye,nodup_append->Yo,take_length->Yr,length_drop->Ys,cons->Yt,of_mem_zip->YA,foldl->YG,getElem?_take_of_lt->YQ,eq_of_mem_replicate->YR,take_of_length_le->Y1,pairwise_lt_range->Y2,all_map->Y3,length_singleton->Y8,length_filter_le->Y9,mem_append_left->Zk,map_id->Zl,length_reverse->Zo
open PySem.Heap renaming get?_push_of_some->UC,lt_size->UT,get?_push_size->Vy,get?_update_other->V4,get?_update_self->V8,FlyingW->Wv,SameBut->Xd,get?_none_of_le->Xi,MadeExcOf->X0,NotedW->Zm,get?_update_ne->Zp
open Or renaming inl->UD,inr->YF
open Nat renaming le_refl->UJ,lt_of_lt_of_le->UY,le_trans->Va,ne_of_lt->Vf,zero_le->V6,lt_succ_self->Wi,lt_of_le_of_lt->Wu,lt_trans->WN,lt_irrefl->WW,sub_zero->W9,zero_add->XJ,le_of_lt->XM,add_zero->XN,not_lt_zero->Yz,min_self->Y0,pow_le_pow_right->Zj
open PySem.SeqAt renaming RcNeAt->U1,EqAt->U5,RcAt->Vb,ne_of_list_tuple->YX
open Bool renaming and_eq_true->U4,false_ne_true->VC,not_false->WJ,false_and->WK,true_and->Xx,not_true->Xy,and_self->Xz,and_false->X2,or_eq_true->YB,false_or->YS,and_eq_false_iff->Zb
open PySem.Value renaming ref->U8,none->VS,bool->VT,str->V9,int->Wa,builtin->WA,float->Zf
open Option.some renaming inj->U9,injEq->Wo
open Option renaming some->Ve,map_some->Wx,isSome_iff_exists->Xv,isSome_map->Yn,none->Yw,bind_eq_some_iff->YV,map_eq_some_iff->YY
open Ne renaming symm->Vh
open PySem.PassesOwn renaming never->Vi,leaving->W8
open Sum renaming inr->Vp,inl->XH
open Int renaming gcd->VB,eq_ofNat_of_zero_le->VE,fmod_eq_emod_of_nonneg->VN,toNat_natCast->WE,fmod_nonneg_of_pos->Xc,fmod_lt_of_pos->Yf,emod_eq_of_lt->Yp,natAbs_ediv_le_natAbs->YJ
open False renaming elim->VI
open True renaming intro->Wb
open PySem.NameKind renaming free->Wh
open PySem.F renaming excBase_ValueError->Wj,attr_ValueError->Xt,args_tuple_add_2->Xu,entry_tuple_add->XD,slot_tuple_add->XI,sub_list_dict->XS,slot_dict_ne->X1,type_list_append->YN,slot_list_append->YO,plainAttrs_list->YU,typeOf_object_class->Za,slot_list_ne_refl->Zq,slot_list_eq_refl->Zr
open PySem.PyData renaming shownAll->Wn,showable->Ww,shown->W6,depth->W7,depthAll->Yy
open PySem.Builtin.Str renaming occurrences->Wt
open PySem.Builtin renaming divisionGoesByPylong->Wz
open Array renaming getElem?_eq_some_iff->WL,length_toList->X6,append_assoc->Yh,mem_toList_iff->Zn
open PySem.Builtin.Slice renaming slicePlaces->WR,sliceAdjust->Xo,sliceApplied->YI
open PySem.Builtin.Dict renaming dictSlotArgs->WS
open PySem.Builtin.Tuple renaming tupleExact->WX
open ForInStep renaming yield->W0
open PyProof.Rows renaming slot_tuple_getitem->Xe,callWith_type1->Xl
open PySem.Calls renaming evalArgs_plain->Xj,Name_function_global->YH,callWith_builtin->Y6
open List.cons renaming injEq->Xk
open PySem.Builtin.List renaming listTooLong->Xw
open PySem.Paired renaming length->X7
open PySem.SeqAt.EqAt renaming of_refs->Ya,same->Yx
open PySem.Obj renaming mapSeq->Yb,data_mapFields->Yc,isFreed_of_fields->Y7
open PySem.Code renaming quiet_builtin->Yg,isFrame->Y5
open PySem.Txt renaming slice_le->Ym,join->YE,slice->YT
open PySem.Around renaming under->Yq
open PySem.SeqAt.RcAt renaming lists_lengths->YM
open PyProof.Rows.IsTup renaming new->YW
open Nat.succ renaming inj->YZ
open Iff renaming rfl->Y4
open Sum.inr renaming inj->Zg
open PySem.EntryCells renaming newEntry->Zs
set_option compiler.extract_closed false
set_option bootstrap.genMatcherCode false
set_option autoImplicit true
set_option Elab.async false
set_option linter.all false
set_option maxRecDepth 100000
set_option maxHeartbeats 4000000
noncomputable section
namespace L2
open PySem PySem.Spec PyProof.Rows
abbrev fY:=Sum Int US
def sY:fY->Us->Bool
 |.inl k,v=>Value.isInt k v
 |.inr x,v=>Value.isStrOf x v
def Sx(w:VL):fY->Int
 |.inl k=>hashInt k
 |.inr x=>hashStr w x
theorem cR:∀{k:fY}{v:Us},sY k v=true->(∃i t,k=XH i/\v=Wa i t)∨(∃x t,k=Vp x/\v=V9 x t)
 |.inl i,v,h=>by
  obtain⟨t,e⟩:=Value.isInt_shape (k:=i) (v:=v) h;exact .inl ⟨i,t,rfl,e⟩
 |.inr x,v,h=>by
  obtain⟨t,e⟩:=Value.isStrOf_shape (x:=x) (v:=v) h;exact .inr ⟨x,t,rfl,e⟩
def EO(i:Int)(t:Tok):sY (.inl i) (.int i t)=true:=by simp [sY,Value.isInt]
def EN(x:US)(t:Tok):sY (.inr x) (.str x t)=true:=by simp [sY,Value.isStrOf]
def Nw(a b:Int):decide ((XH a:fY)=XH b)=(a==b):=by
 by_cases e:a=b
 .subst e;simp
 .have h:¬(XH a:fY)=XH b:=λq=>e (XH.inj q)
  rw[decide_eq_false h];exact(beq_eq_false_iff_ne.mpr e).symm
def Nt(a b:US):decide ((Vp a:fY)=Vp b)=decide (a=b):=by
 by_cases e:a=b
 .subst e;simp
 .have h:¬(Vp a:fY)=Vp b:=λq=>e (Zg q)
  rw[decide_eq_false h,decide_eq_false e]
def Nv(a:Int)(b:US):decide ((XH a:fY)=Vp b)=false:=decide_eq_false (λq=>nomatch q)
def Nu(a:US)(b:Int):decide ((Vp a:fY)=XH b)=false:=decide_eq_false (λq=>nomatch q)
noncomputable def df(prog:Vq) (w:VL):PySem.KeyKind prog w fY where
 is:=sY
 hash:=Sx w
 inj:=λv a b ha hb=>by
  rcases cR ha with⟨i,t,rfl,rfl⟩|⟨x,t,rfl,rfl⟩
  .rcases cR hb with⟨j,u,rfl,e⟩|⟨y,u,rfl,e⟩
   .injection e with e1 _;rw[e1]
   .exact nomatch e
  .rcases cR hb with⟨j,u,rfl,e⟩|⟨y,u,rfl,e⟩
   .exact nomatch e
   .injection e with e1 _;rw[e1]
 byValue:=λk v h=>by
  rcases cR h with⟨i,t,rfl,rfl⟩|⟨x,t,rfl,rfl⟩<;>rfl
 pyHash:=λhv h=>by
  rcases cR hv with⟨i,t,rfl,rfl⟩|⟨x,t,rfl,rfl⟩
  .exact wpAny_pyHash_int h
  .exact wpAny_pyHash_str h
 eqBool:=λhu hv h=>by
  rcases cR hu with⟨i,t,rfl,rfl⟩|⟨x,t,rfl,rfl⟩
  .rcases cR hv with⟨j,u,rfl,rfl⟩|⟨y,u,rfl,rfl⟩
   .rw[Nw] at h;exact wpAny_eqBool_int h
   .rw[Nv] at h;exact U5.int_str i t y u _ _ _ _ h
  .rcases cR hv with⟨j,u,rfl,rfl⟩|⟨y,u,rfl,rfl⟩
   .rw[Nu] at h;exact U5.str_int x t j u _ _ _ _ h
   .rw[Nt] at h;exact wpAny_eqBool_str h
 «strs»:=λk x t v h=>by
  rcases cR h with⟨i,u,rfl,e⟩|⟨y,u,rfl,e⟩
  .exact nomatch e
  .injection e with e1 _
   subst e1;cases v<;>rfl
def zF(prog:Vq)(w:VL)(i:Int)(t:Tok):(df prog w).is (.inl i) (.int i t)=true:=EO i t
def zE(prog:Vq)(w:VL)(x:US)(t:Tok):(df prog w).is (.inr x) (.str x t)=true:=EN x t
inductive V where
 |non|bl (b:Bool)|int (i:Int)|str (x:US)|byt (b:Array UInt8)|flt (b:UInt64)|ref (a:Uw)|ty (n:String)
 deriving DecidableEq
noncomputable def bF:V->Us->Prop
 |.non,u=>u=VS
 |.bl b,u=>u=VT b
 |.int i,u=>∃t,u=Wa i t
 |.str x,u=>∃t,u=V9 x t
 |.byt b,u=>∃t,u=Value.bytes b t
 |.flt b,u=>∃t,u=Zf b t
 |.ref a,u=>u=U8 a
 |.ty n,u=>u=Value.type n
abbrev bE:List V->List Us->Prop:=Paired bF
def bE.length(r:bE xs us):xs.length=us.length:=X7 r
theorem bE.get:∀{xs:List V}{us:List Us}{i:Nat}{x:V},bE xs us->xs[i]?=some x->∃u,us[i]?=some u/\bF x u
 |_,_,_,_,.nil,e=>by simp at e
 |_,_,0,_,.cons r _,e=>by simp at e;subst e;exact⟨_,rfl,r⟩
 |_,_,i+1,x,.cons _ t,e=>by
  obtain⟨u,h1,h2⟩:=bE.get (i:=i) (x:=x) t (by simpa using e);exact⟨u,by simpa using h1,h2⟩
theorem bE.set(r:bF x u):∀{xs:List V}{us:List Us}(i:Nat),bE xs us->bE (xs.set i x) (us.set i u)
 |_,_,_,.nil=>.nil
 |_,_,0,.cons _ t=>.cons r t
 |_,_,i+1,.cons q t=>.cons q (bE.set r i t)
theorem bE.append:∀{xs ys:List V}{us ws:List Us},bE xs us->bE ys ws->bE (xs++ys) (us++ws)
 |_,_,_,_,.nil,s=>s
 |_,_,_,_,.cons r t,s=>.cons r (bE.append t s)
theorem bE.take:∀{xs:List V}{us:List Us}(n:Nat),bE xs us->bE (xs.take n) (us.take n)
 |_,_,0,_=>.nil
 |_,_,_+1,.nil=>.nil
 |_,_,n+1,.cons r t=>.cons r (bE.take n t)
theorem bE.drop:∀{xs:List V}{us:List Us}(n:Nat),bE xs us->bE (xs.drop n) (us.drop n)
 |_,_,0,r=>r
 |_,_,_+1,.nil=>.nil
 |_,_,n+1,.cons _ t=>bE.drop n t
noncomputable def vE:Option V->Option Us->Prop
 |some v,some u=>bF v u
 |none,none=>True
 |_,_=>False
noncomputable def KV{κ:Type}:List (κ×V)->List (κ×Us)->Prop:=Paired λ(p:κ×V) (q:κ×Us)=>p.1=q.1/\bF p.2 q.2
def kV:fY->V
 |.inl i=>.int i
 |.inr x=>.str x
inductive HO where
 |lst (xs:List V)
 |tup (xs:List V)
 |dK (kvs:List (fY×V))|dT (kvs:List (List fY×V))
 |set (S:Int->Bool) (n:Nat)
 |ins (C dx:Uw) (fs:List (US×V))
 |own (x:Uw)
 |xd (fs:List (US×V))
 |met (f x:Uw)
 |rng (lo hi:Int)
 |frz (o:Obj) (u:HO)
 |tbl (ps:Array Us)
 |ext (φ:UR->Prop)
abbrev Hp:=Uw->Option HO
def upd(H:Hp)(a:Uw)(o:HO):Hp:=λb=>if b=a then some o else H b
def aB:upd H a o a=some o:=by unfold upd;rw[if_pos rfl]
def aw(h:b≠a):upd H a o b=H b:=by unfold upd;rw[if_neg h]
def Qe{H:Hp}(h:H a=some o)(h':H b=some u)(d:o≠u):a≠b:=by
 intro e;subst e;rw[h] at h';exact d (U9 h')
def bb{H:Hp}(h:H a=some o)(h':H b=none):a≠b:=by
 intro e;subst e;rw[h] at h';cases h'
section
variable (P:Vq) (w:VL)
noncomputable def bT(H:Hp) (h:UR) (a:Uw):HO->Prop
 |.lst xs=>xs.length<=sizeLine/\∃(its:List Us) (n:Nat),bE xs its/\h.get? a=some { cls:=.type "list",data:=.seq its.toArray n }
 |.tup xs=>xs.length<=sizeLine/\∃its:List Us,bE xs its/\IsTup h a its.toArray
 |.dK kvs=>kvs.length<=sizeLine/\(a==VR)=false/\∃vs,KV kvs vs/\h.DictOf (df P w) a vs
 |.dT kvs=>kvs.length<=sizeLine/\(a==VR)=false/\∃xs:List (List fY×Uw×Us),
   Paired (λ(p:List fY×V) (q:List fY×Uw×Us)=>p.1=q.1/\H q.2.1=some (.tup (p.1.map kV))/\bF p.2 q.2.2) kvs xs /\
   ∃o es ep,h.get? a=some o/\o.ExactDict/\o.data=.dict es ep/\es.toList=xs.map (entryOfKey (tupleKind (df P w)))/\(xs.map (·.1)).Nodup
 |.set S n=>h.SetOf (intKind P w) a S n
 |.ins C dx fs=>H dx=some (.own a)/\fs.length<=1000/\dx≠a/\h.get? a=some (W.instObj C dx) /\
   ∃mA,h.Ns1 dx mA/\(∀f,vE (fs.lookup f) (mA f))/\WM mA (fs.map (·.1))
 |.own _=>∃o,h.get? a=some o
 |.xd fs=>∃mA,h.Ns1 a mA/\∀f,vE (fs.lookup f) (mA f)
 |.rng lo hi=>∃t u v,h.get? a=some { cls:=.type "range",data:=.fields #[.int lo t,.int hi u,.int 1 v] }
 |.frz o u=>h.get? a=some o/\bT H h a u
 |.tbl ps=>h.get? a=some { cls:=.none,data:=.fields ps }
 |.met f x=>h.get? a=some (Zc (.ref f) (.ref x))
 |.ext φ=>φ h/\(∃o,h.get? a=some o)/\∀h1 h2:UR,φ h1->(∀o,h1.get? a=some o->h2.get? a=some o)->φ h2
def gG(H:Hp)(h:UR):Prop:=∀a o,H a=some o->bT P w H h a o
end
section
variable {P:Vq}{w:VL}{H H':Hp}{h h':UR}{a:Uw}{o:HO}
def bT.lt(x:bT P w H h a o):a<h.objs.size:=by
 cases o with|lst xs=>obtain⟨_,_,_,_,e⟩:=x;exact UT e|tup xs=>obtain⟨_,_,_,p⟩:=x;exact p.lt|dK kvs|dT kvs=>obtain⟨_,_,_,_,o,_,_,e,_⟩:=x;exact UT e|set S n=>obtain⟨o,_,_,_,e,_⟩:=x;exact UT e|ins C dx fs=>obtain⟨_,_,_,e,_⟩:=x;exact UT e|own y=>obtain⟨_,e⟩:=x;exact UT e|xd fs=>obtain⟨_,⟨_,_,_,e,_⟩,_⟩:=x;exact UT e|rng lo hi=>obtain⟨_,_,_,e⟩:=x;exact UT e|frz ob u=>obtain⟨e,_⟩:=x;exact UT e|tbl ps|met f y=>exact UT (show h.get? a=some _ from x)|ext φ=>obtain⟨_,⟨_,e⟩,_⟩:=x;exact UT e
theorem lF{α β:Type}{F G:α->β->Prop}:∀{lb:List α}{lc:List β},Paired F lb lc->(∀a b,F a b->G a b)->Paired G lb lc
 |_,_,.nil,_=>.nil
 |_,_,.cons r t,f=>.cons (f _ _ r) (lF t f)
def bT.stay(x:bT P w H h a o)(k:∀b u,(b=a∨H b=some (.own a))->h.get? b=some u->h'.get? b=some u)
  (ho:∀b,H b=some (.own a)->H' b=some (.own a))(ht:∀b xs,H b=some (.tup xs)->H' b=some (.tup xs)):bT P w H' h' a o:=by
 induction o with
 |lst xs=>obtain⟨z,its,n,r,e⟩:=x;exact⟨z,its,n,r,k _ _ (.inl rfl) e⟩|tup xs=>obtain⟨z,its,r,ob,e,c⟩:=x;exact⟨z,its,r,ob,k _ _ (.inl rfl) e,c⟩|dK kvs=>obtain⟨z,y,vs,r,ob,es,ep,e,c⟩:=x;exact⟨z,y,vs,r,ob,es,ep,k _ _ (.inl rfl) e,c⟩
 |dT kvs =>
  obtain⟨z,y,xs,r,ob,es,ep,e,c⟩:=x;exact⟨z,y,xs,lF r λp q z=>⟨z.1,ht _ _ z.2.1,z.2.2⟩,ob,es,ep,k _ _ (.inl rfl) e,c⟩
 |set S n=>obtain⟨ob,es,ep,t,e,c⟩:=x;exact⟨ob,es,ep,t,k _ _ (.inl rfl) e,c⟩
 |ins C dx fs =>
  obtain⟨d,z,ne,e,mA,⟨od,es,ep,e2,c⟩,r⟩:=x;exact⟨ho _ d,z,ne,k _ _ (.inl rfl) e,mA,⟨od,es,ep,k _ _ (.inr d) e2,c⟩,r⟩
 |own y=>obtain⟨ob,e⟩:=x;exact⟨ob,k _ _ (.inl rfl) e⟩|xd fs=>obtain⟨mA,⟨od,es,ep,e,c⟩,r⟩:=x;exact⟨mA,⟨od,es,ep,k _ _ (.inl rfl) e,c⟩,r⟩|rng lo hi=>obtain⟨t,u,v,e⟩:=x;exact⟨t,u,v,k _ _ (.inl rfl) e⟩|frz ob u ih=>obtain⟨e,q⟩:=x;exact⟨k _ _ (.inl rfl) e,ih q⟩
 |tbl ps =>
  have e:h.get? a=some { cls:=.none,data:=.fields ps }:=x;show h'.get? a=some { cls:=.none,data:=.fields ps };exact k a _ (.inl rfl) e
 |met f y =>
  have e:h.get? a=some (Zc (.ref f) (.ref y)):=x;show h'.get? a=some (Zc (.ref f) (.ref y));exact k a _ (.inl rfl) e
 |ext φ=>obtain⟨p,⟨o,e⟩,st⟩:=x;exact⟨st _ _ p λo q=>k _ _ (.inl rfl) q,⟨o,k _ _ (.inl rfl) e⟩,st⟩
def gG.lt(x:gG P w H h)(e:H a=some o):a<h.objs.size:=(x a o e).lt
def gG.fresh(x:gG P w H h)(e:h.objs.size<=a):H a=none:=by
 cases q:H a with|none=>rfl|some u=>exact absurd (UY (x.lt q) e) (WW _)
def gG.kept(x:gG P w H h)(k:∀b u,h.get? b=some u->h'.get? b=some u):gG P w H h':=λa o e =>
 (x a o e).stay (λb u _ q=>k b u q) (λ_ q=>q) λ_ _ q=>q
def gG.laid(x:gG P w H h)(k:∀b u,h.get? b=some u->h'.get? b=some u)(hp:h.objs.size<=a)(new:bT P w (upd H a o) h' a o):gG P w (upd H a o) h':=λb u e=>by
 have hn:=x.fresh hp
 by_cases hb:b=a
 .subst hb;rw[aB] at e;cases e;exact new
 .rw[aw hb] at e
  exact(x b u e).stay (λc v _ q=>k c v q) (λc q=>by rw[aw (bb q hn)];exact q) λc xs q=>by rw[aw (bb q hn)];exact q
end
def Rd(H:Hp)(a:Uw)(u:HO):Prop:=H a=some u∨∃o,H a=some (.frz o u)
def Rd.ok{h:UR}(r:Rd H a u)(x:gG P w H h):bT P w H h a u:=by
 rcases r with r|⟨o,r⟩
 .exact x a u r
 .obtain⟨_,q⟩:=x a _ r
  exact q
noncomputable def Oo:Option HO->Prop
 |some (.lst _)=>True
 |some (.dK _)=>True
 |some (.dT _)=>True
 |some (.set _ _)=>True
 |some (.ins _ _ _)=>True
 |some (.ext _)=>True
 |_=>False
section
variable {P:Vq}{w:VL}{H:Hp}{h h':UR}{x e:Uw}{o':HO}
def gG.write(ok:gG P w H h)(mu:Oo (H x))(he:e=x∨H e=some (.own x))(k:∀b u,b≠e->h.get? b=some u->h'.get? b=some u)(heo:∃u,h'.get? e=some u)
  (new:bT P w (upd H x o') h' x o'):gG P w (upd H x o') h':=λb u q=>by
 have nown:∀c y,H c=some (.own y)->c≠x:=λc y r z=>by subst z;rw[r] at mu;exact mu
 have ntup:∀c xs,H c=some (.tup xs)->c≠x:=λc xs r z=>by subst z;rw[r] at mu;exact mu
 by_cases hb:b=x
 .subst hb;rw[aB] at q;cases q;exact new
 .rw[aw hb] at q
  by_cases hbe:b=e
  .have q':H b=some (.own x):=by
    rcases he with z|z
    .exact absurd (hbe.trans z) hb
    .rw[hbe];exact z
   rw[q] at q';cases q';obtain⟨v,hv⟩:=heo;exact⟨v,by rw[hbe];exact hv⟩
  .refine(ok b u q).stay (λc v hc r=>k c v ?_ r) (λc r=>by rw[aw (nown c b r)];exact r) λc xs r=>by rw[aw (ntup c xs r)];exact r
   rcases hc with rfl|hc
   .exact hbe
   .rintro rfl
    rcases he with z|z
    .exact nown c b hc z
    .rw[hc] at z;cases z;exact hb rfl
end
structure Un (fs ex:List Uw) (H H':Hp) (h h':UR):Prop where
 keep:∀b o,h.get? b=some o->H b=none->b∉fs->b∉ex->h'.get? b=some o
 slot:∀b o,h.get? b=some o->H b=none->b∈fs->b∉ex->∃sl,h'.get? b=some { o with slots:=sl }
 free:∀b o,h.get? b=some o->H b=none->b∉ex->H' b=none
 there:∀b o,h.get? b=some o->b∉ex->∃o',h'.get? b=some o'
 tups:∀b xs,H b=some (.tup xs)->H' b=some (.tup xs)
 frzs:∀b o u,H b=some (.frz o u)->H' b=some (.frz o u)
 tbls:∀b ps,H b=some (.tbl ps)->∃more,H' b=some (.tbl (ps++more))
section
variable {fs fs' ex ex':List Uw}{H H1 H2:Hp}{h h1 h2 h':UR}{a x e:Uw}{o:HO}
def Un.any(u:Un fs ex H H1 h h1)(q:h.get? b=some ob)(n:H b=none)(hx:b∉ex):∃sl,h1.get? b=some { ob with slots:=sl }:=by
 by_cases hb:b∈fs
 .exact u.slot b ob q n hb hx
 .exact⟨ob.slots,u.keep b ob q n hb hx⟩
def Un.trans(a:Un fs ex H H1 h h1)(b:Un fs ex H1 H2 h1 h2):Un fs ex H H2 h h2 where
 keep:=λc ob q n hc hx=>b.keep c ob (a.keep c ob q n hc hx) (a.free c ob q n hx) hc hx
 slot:=λc ob q n hc hx=>by
  obtain⟨sl,e1⟩:=a.slot c ob q n hc hx;obtain⟨sl',e2⟩:=b.slot c _ e1 (a.free c ob q n hx) hc hx;exact⟨sl',e2⟩
 free:=λc ob q n hx=>by
  obtain⟨o',e1⟩:=a.there c ob q hx;exact b.free c o' e1 (a.free c ob q n hx) hx
 there:=λc ob q hx=>by
  obtain⟨o',e1⟩:=a.there c ob q hx;exact b.there c o' e1 hx
 tups:=λc xs q=>b.tups c xs (a.tups c xs q)
 frzs:=λc ob xs q=>b.frzs c ob xs (a.frzs c ob xs q)
 tbls:=λc ps q=>by
  obtain⟨m1,e1⟩:=a.tbls c ps q;obtain⟨m2,e2⟩:=b.tbls c _ e1;exact⟨m1++m2,by rw[e2,Yh]⟩
def Un.kept(k:∀b u,h.get? b=some u->h'.get? b=some u):Un fs ex H H h h' :=
 ⟨λb ob q _ _ _=>k b ob q,λb ob q _ _ _=>⟨ob.slots,k b ob q⟩,λ_ _ _ n _=>n,λb ob q _=>⟨ob,k b ob q⟩,λ_ _ q=>q,λ_ _ _ q=>q,λ_ ps q=>⟨#[],by rw[q];simp⟩⟩
def Un.refl:Un fs ex H H h h:=Un.kept λ_ _ q=>q
def Un.laid(k:∀b u,h.get? b=some u->h'.get? b=some u)(hp:h.objs.size<=a)(hn:H a=none):Un fs ex H (upd H a o) h h' where
 keep:=λb u q _ _ _=>k b u q
 slot:=λb u q _ _ _=>⟨u.slots,k b u q⟩
 free:=λb u q n _=>by rw[aw (Vf (UY (UT q) hp))];exact n
 there:=λb u q _=>⟨u,k b u q⟩
 tups:=λb xs q=>by rw[aw (bb q hn)];exact q
 frzs:=λb u xs q=>by rw[aw (bb q hn)];exact q
 tbls:=λb ps q=>⟨#[],by rw[aw (bb q hn),q];simp⟩
def Un.write(mu:Oo (H x))(he:e=x∨H e=some (.own x))(k:∀b u,b≠e->h.get? b=some u->h'.get? b=some u)(heo:∃u,h'.get? e=some u):Un fs ex H (upd H x o) h h':=by
 have hx:∀b,H b=none->b≠x:=λb n z=>by subst z;rw[n] at mu;exact mu
 have hb:∀b,H b=none->b≠e:=λb n z=>by
  subst z;rcases he with r|r
  .exact hx b n r
  .rw[n] at r;cases r
 have hm:∀b u,H b=some u->¬Oo (some u)->b≠x:=λb u q nm z=>by subst z;rw[q] at mu;exact nm mu
 refine⟨λb u q n _ _=>k b u (hb b n) q,λb u q n _ _=>⟨u.slots,k b u (hb b n) q⟩,λb u q n _=>by rw[aw (hx b n)];exact n,λb u q _=>?_,
  λb xs q=>by rw[aw (hm b _ q λz=>z)];exact q,λb u xs q=>by rw[aw (hm b _ q λz=>z)];exact q,λb ps q=>⟨#[],by rw[aw (hm b _ q λz=>z),q];simp⟩⟩
 by_cases hbe:b=e
 .subst hbe;exact heo
 .exact⟨u,k b u hbe q⟩
end
def Ry(h:UR)(H:Hp):List Uw:=(VG h.objs.size).filter λa=>(H a).isSome
def xD(h:UR)(H:Hp):UR:=X3 h (Ry h H)
def EV(h:UR)(H:Hp):(xD h H).objs.size=h.objs.size:=W.hideAll_size _ _
def Hw{h:UR}(e:h.get? b=some o)(n:H b=none):(xD h H).get? b=some o :=
 YL _ e λhm=>by
  have q:(H b).isSome=true:=(XQ.mp hm).2;rw[n] at q;simp at q
def Kn{h:UR}(e:(xD h H).get? b=some o):h.get? b=some o/\H b=none:=by
 have e':h.get? b=some o:=Yi (Ry h H) e;refine⟨e',?_⟩;cases q:H b with
 |none=>rfl
 |some x =>
  have hm:b∈Ry h H:=XQ.mpr ⟨Xa.mpr (UT e'),by simp [q]⟩;have z:(xD h H).get? b=none:=W.hideAll_none (Ry h H) hm;rw[z] at e;cases e
structure Mod (K:Ut) (mg:US->Option Us) (base:UR):Prop where
 kin:K.In base
 glob:base.Ns UX mg
 blt:∃mb,base.Ns builtinsNs mb/\∀x:US,x≠"__name__"->mb x=bootBuiltins x
 nolimit:base.NoLimit
 sm:∃mm,base.Ns VR mm
structure Cx where
 prog:Vq
 w:VL
 K:Ut
 mg:US->Option Us
 base:UR
 A:Vw
 N:List US
 sf:UE
 Ha:Hp
 env:Env
 outer:List Env
 stack:List Env
 ex:List Uw
 fn:US->Bool
 calm:Bool
 pn:List (Uw×Obj)
 xe:Us->UE->Prop
def iN(l:List Env):List Uw:=l.filterMap (·.frame)
abbrev Cx.fs(X:Cx):List Uw:=iN X.outer
noncomputable def AH(sc:XX) (x:US):Prop:=sc.names.lookup x=some .local ∨ sc.names.lookup x=some .cell∨sc.names.lookup x=some .free
noncomputable def Fx(sc:XX) (x:US):Prop:=sc.names.lookup x=some .local ∨ sc.names.lookup x=some .cell
noncomputable def Rr(env:Env) (h:UR) (m:US->Option Us) (x:US) (u:Us):Prop :=
 (env.kindOf x=some .local /\ m x=some u)∨((env.kindOf x=some .cell∨env.kindOf x=some .free)/\∃c,env.cells.lookup x=some c/\h.IsCell c (some u))
structure Cx.Ok (X:Cx):Prop where
 mod:Mod X.K X.mg X.base
 kind:X.env.scope.kind=.function
 glob:X.env.globals=UX
 blt:X.env.builtins=builtinsNs
 above:X.sf.heap.objs.size<=X.env.locals
 inj:∀x y c,X.env.cells.lookup x=some c->X.env.cells.lookup y=some c->x=y
 has:∀x,(X.env.kindOf x=some .cell∨X.env.kindOf x=some .free)->∃c,X.env.cells.lookup x=some c
 cab:∀x c,X.fn x=true->X.env.cells.lookup x=some c->X.sf.heap.objs.size<=c
 hd:X.calm=true->X.A.handled=none
 frames:X.A.frames=some X.stack
 stk:X.stack=X.outer∨(X.stack=X.env::X.outer/\X.env.frame=some X.env.locals)
 exf:∀b∈X.ex,b≠X.env.locals/\∀x c,X.env.cells.lookup x=some c->c≠b
 bs:∀b o,X.base.get? b=some o->X.sf.heap.get? b=some o/\X.Ha b=none
 bsz:X.base.objs.size<=X.sf.heap.objs.size
 noex:∀b o,X.base.get? b=some o->b∉X.ex
 exfs:∀b∈X.ex,b∉X.fs
 funs:X.sf.heap.FunFrames X.base X.outer
 frf:∀b∈X.fs,X.Ha b=none
structure Inv (X:Cx) (π:List (Uw×Obj)) (σ:List (Option V)) (H:Hp) (s:UE):Prop where
 ok:X.Ok
 os:s.os=X.sf.os
 bare:AllBare s.gens
 base:Un X.fs X.ex X.Ha H X.sf.heap s.heap
 loc:∃m,s.heap.Ns X.env.locals m/\∀(i:Nat) (x:US) (v:V),X.N[i]?=some x->σ[i]?=some (some v)->AH X.env.scope x->∃u,bF v u/\Rr X.env s.heap m x u
 cell:∀x c,X.env.cells.lookup x=some c->∃v,s.heap.IsCell c v
 free:H X.env.locals=none
 freeC:∀x c,X.env.cells.lookup x=some c->H c=none
 pin:∀p∈X.pn++π,s.heap.get? p.1=some p.2/\H p.1=none/\p.1≠X.env.locals/\p.1∉X.fs/\∀v,p.2.data≠.cell v
 hok:gG X.prog X.w H s.heap
 len:σ.length=X.N.length
section
variable {X:Cx}{π:List (Uw×Obj)}{σ:List (Option V)}{H H':Hp}{s:UE}{h':UR}
def Cx.Ok.nofr(ok:X.Ok)(e:X.base.get? b=some o):b∉X.fs:=λhb=>by
 have:=(ok.funs.mem hb).1;rw[e] at this;cases this
def Inv.bs(I:Inv X π σ H s):∀b o,X.base.get? b=some o->s.heap.get? b=some o/\H b=none:=λb o e =>
 ⟨I.base.keep b o (I.ok.bs b o e).1 (I.ok.bs b o e).2 (I.ok.nofr e) (I.ok.noex b o e),I.base.free b o (I.ok.bs b o e).1 (I.ok.bs b o e).2 (I.ok.noex b o e)⟩
def Inv.bk(I:Inv X π σ H s):∀b o,X.base.get? b=some o->s.heap.get? b=some o:=λb o e=>(I.bs b o e).1
def Inv.mod(I:Inv X π σ H s):Mod X.K X.mg X.base:=I.ok.mod
def Inv.kIn(I:Inv X π σ H s):X.K.In s.heap:=I.ok.mod.kin.keeps I.bk
def Inv.lt(I:Inv X π σ H s):X.env.locals<s.heap.objs.size:=let ⟨_,hn,_⟩:=I.loc;hn.lt
def Inv.sz(I:Inv X π σ H s):X.sf.heap.objs.size<=s.heap.objs.size:=Va I.ok.above (XM I.lt)
def Inv.nofs(I:Inv X π σ H s)(h:s.heap.objs.size<=a):a∉X.fs:=λhb=>by
 obtain⟨_,o,ho,_⟩:=I.ok.funs.mem hb;exact absurd (UY (UT ho) (Va I.sz h)) (WW _)
def Inv.cne(I:Inv X π σ H s):∀x c,X.env.cells.lookup x=some c->c≠X.env.locals:=λx c e z=>by
 obtain⟨v,o,ho,hd⟩:=I.cell x c e;obtain⟨m,⟨o',es,ep,ho',hd',_⟩,_⟩:=I.loc;rw[z,ho'] at ho;cases ho;rw[hd'] at hd;cases hd
def Inv.funs(I:Inv X π σ H s):s.heap.FunFrames X.base X.outer:=by
 have all:∀(l:List Env),(∀b∈iN l,b∈X.fs)->X.sf.heap.FunFrames X.base l->s.heap.FunFrames X.base l:=by
  intro l
  induction l with
  |nil=>intro _ _;trivial
  |cons env r ih =>
   intro hs hl;obtain⟨hk,⟨L,o,hf,hn,ho,hd⟩,hr⟩:=hl;have hL:L∈X.fs:=hs L (by unfold iN;rw[V5,hf];exact U0);obtain⟨sl,e⟩:=I.base.slot L o ho (I.ok.frf L hL) hL λz=>I.ok.exfs L z hL;exact⟨hk,⟨L,_,hf,hn,e,hd⟩,ih (λb hb=>hs b (by unfold iN;rw[V5,hf];exact UH _ hb)) hr⟩
 exact all X.outer (λ_ hb=>hb) I.ok.funs
def Inv.stack(I:Inv X π σ H s):s.heap.FunFrames X.base X.stack:=by
 rcases I.ok.stk with e|⟨e,hf⟩
 .rw[e];exact I.funs
 .rw[e]
  obtain⟨m,hn,_⟩:=I.loc;refine .cons (by rw[I.ok.kind];decide) hf hn ?_ I.funs;exact Xi (Va I.ok.bsz I.ok.above)
def Inv.stkSub(I:Inv X π σ H s):∀b∈iN X.stack,b∈X.env.locals::X.fs:=λb hb=>by
 rcases I.ok.stk with e|⟨e,hf⟩
 .rw[e] at hb;exact UH _ hb
 .rw[e] at hb
  unfold iN at hb;rw[V5,hf] at hb;exact hb
def Inv.stkFree(I:Inv X π σ H s):∀b∈iN X.stack,H b=none:=λb hb=>by
 rcases UG.mp (I.stkSub b hb) with e|hb
 .rw[e];exact I.free
 .obtain⟨_,o,ho,_⟩:=I.ok.funs.mem hb
  exact I.base.free b o ho (I.ok.frf b hb) λz=>I.ok.exfs b z hb
def Inv.step{ch:List Uw}(I:Inv X π σ H s)
  (hch:∀b∈ch,(b∈X.ex∨X.sf.heap.objs.size<=b)/\b≠X.env.locals/\(∀x c,X.env.cells.lookup x=some c->c≠b)/\∀p∈X.pn++π,p.1≠b)
  (keep:∀b o,b≠X.env.locals->b∉X.fs->b∉ch->s.heap.get? b=some o->H b=none->h'.get? b=some o)
  (slot:∀b o,b≠X.env.locals->b∈X.fs->b∉ch->s.heap.get? b=some o->H b=none->∃sl,h'.get? b=some { o with slots:=sl })(free:∀b o,b∉ch->s.heap.get? b=some o->H b=none->H' b=none)
  (there:∀b o,b∉ch->s.heap.get? b=some o->∃o',h'.get? b=some o')
  (tups:∀b xs,H b=some (.tup xs)->H' b=some (.tup xs))(frzs:∀b o u,H b=some (.frz o u)->H' b=some (.frz o u))(tbls:∀b ps,H b=some (.tbl ps)->∃more,H' b=some (.tbl (ps++more)))
  (ns:∀m,s.heap.Ns X.env.locals m->h'.Ns X.env.locals m)(hok:gG X.prog X.w H' h')(hg:AllBare g') :
  Inv X π σ H' { s with heap:=h',gens:=g',drawn:=d',toks:=t' }:=by
 have neL:∀b o,X.sf.heap.get? b=some o->b≠X.env.locals:=λb o e=>Vf (UY (UT e) I.ok.above);have neC:∀b o,X.sf.heap.get? b=some o->b∉X.ex->b∉ch:=λb o e hx hb=>by
  rcases(hch b hb).1 with z|z
  .exact hx z
  .exact absurd (UY (UT e) z) (WW _)
 have cellK:∀x c,X.env.cells.lookup x=some c->∀v,s.heap.IsCell c v->h'.IsCell c v:=λx c e v z9=>by
  obtain⟨o,ho,hd⟩:=z9;have nch:c∉ch:=λz=>(hch c z).2.2.1 x c e rfl
  by_cases hc:c∈X.fs
  .obtain⟨sl,q⟩:=slot c o (I.cne x c e) hc nch ho (I.freeC x c e)
   exact⟨_,q,hd⟩
  .exact⟨o,keep c o (I.cne x c e) hc nch ho (I.freeC x c e),hd⟩
 refine⟨I.ok,I.os,hg,⟨λb o e n hb hx=>?_,λb o e n hb hx=>?_,λb o e n hx=>?_,λb o e hx=>?_,λb xs e=>tups b xs (I.base.tups b xs e),λb o xs e=>frzs b o xs (I.base.frzs b o xs e),λb ps e=>?_⟩,?_,λx c e=>?_,?_,λx c e=>?_,λp hp=>?_,hok,I.len⟩
 .exact keep b o (neL b o e) hb (neC b o e hx) (I.base.keep b o e n hb hx) (I.base.free b o e n hx)
 .obtain⟨sl,e1⟩:=I.base.slot b o e n hb hx
  obtain⟨sl',e2⟩:=slot b _ (neL b o e) hb (neC b o e hx) e1 (I.base.free b o e n hx);exact⟨sl',e2⟩
 .obtain⟨o',e1⟩:=I.base.there b o e hx
  exact free b o' (neC b o e hx) e1 (I.base.free b o e n hx)
 .obtain⟨o',e1⟩:=I.base.there b o e hx
  exact there b o' (neC b o e hx) e1
 .obtain⟨m1,e1⟩:=I.base.tbls b ps e
  obtain⟨m2,e2⟩:=tbls b _ e1;exact⟨m1++m2,by rw[e2,Yh]⟩
 .obtain⟨m,hn,hl⟩:=I.loc
  refine⟨m,ns m hn,λi x v e1 e2 e3=>?_⟩;obtain⟨u,r,l⟩:=hl i x v e1 e2 e3;refine⟨u,r,?_⟩;rcases l with l|⟨k,c,e,z⟩
  .exact .inl l
  .exact .inr ⟨k,c,e,cellK x c e _ z⟩
 .obtain⟨v,z⟩:=I.cell x c e
  exact⟨v,cellK x c e v z⟩
 .obtain⟨m,⟨o,_,_,ho,_⟩,_⟩:=I.loc
  exact free _ o (λz=>(hch _ z).2.1 rfl) ho I.free
 .obtain⟨v,o,ho,hd⟩:=I.cell x c e
  exact free c o (λz=>(hch c z).2.2.1 x c e rfl) ho (I.freeC x c e)
 .obtain⟨e,n,ne,nf,d⟩:=I.pin p hp
  have nch:p.1∉ch:=λz=>(hch p.1 z).2.2.2 p hp rfl;exact⟨keep p.1 p.2 ne nf nch e n,free p.1 p.2 nch e n,ne,nf,d⟩
def Inv.un(I:Inv X π σ H s)(u:Un X.fs [] H H' s.heap h')(hok:gG X.prog X.w H' h'):Inv X π σ H' { s with heap:=h',toks:=t' }:=by
 obtain⟨m,⟨o,es,ep,ho,r⟩,_⟩:=id I.loc;obtain⟨sl,hL⟩:=u.any ho I.free (by simp);exact I.step (g':=s.gens) (d':=s.drawn) (ch:=[]) (λ_ z=>nomatch z) (λb o _ hb _ e n=>u.keep b o e n hb (by simp)) (λb o _ hb _ e n=>u.slot b o e n hb (by simp)) (λb o _ e n=>u.free b o e n (by simp)) (λb o _ e=>u.there b o e (by simp)) u.tups u.frzs u.tbls (λm' hm=>by
  obtain⟨o',es',ep',ho',r'⟩:=hm;rw[ho] at ho';cases ho';exact⟨_,es',ep',hL,r'⟩) hok I.bare
def Inv.call(I:Inv X π σ H s)(u:Un (iN X.stack) ch H H' s.heap h')(hok:gG X.prog X.w H' h')(hg:AllBare g')
  (hch:∀b∈ch,(b∈X.ex∨X.sf.heap.objs.size<=b)/\b≠X.env.locals/\(∀x c,X.env.cells.lookup x=some c->c≠b)/\∀p∈X.pn++π,p.1≠b) :
  Inv X π σ H' { s with heap:=h',gens:=g',drawn:=d',toks:=t' }:=by
 obtain⟨m,⟨o,es,ep,ho,r⟩,_⟩:=id I.loc;obtain⟨sl,hL⟩:=u.any ho I.free λz=>(hch _ z).2.1 rfl;exact I.step (ch:=ch) hch (λb o hL hb hc e n=>u.keep b o e n (λz=>(UG.mp (I.stkSub b z)).elim hL hb) hc) (λb o _ _ hc e n=>u.any e n hc) (λb o hc e n=>u.free b o e n hc) (λb o hc e=>u.there b o e hc) u.tups u.frzs u.tbls (λm' hm=>by
  obtain⟨o',es',ep',ho',r'⟩:=hm;rw[ho] at ho';cases ho';exact⟨_,es',ep',hL,r'⟩) hok hg
def Inv.turned(I:Inv X π σ H s)(k:∀b o,b≠it->s.heap.get? b=some o->h'.get? b=some o)(hn:H it=none)(hL:it≠X.env.locals)
  (h1:it∈X.ex∨X.sf.heap.objs.size<=it)(h2:∀x c,X.env.cells.lookup x=some c->c≠it)(h3:∀p∈X.pn++π,p.1≠it):Inv X π σ H { s with heap:=h',toks:=t' }:=by
 have nit:∀b u,H b=some u->b≠it:=λb u e z=>by rw[z,hn] at e;cases e
 refine I.step (g':=s.gens) (d':=s.drawn) (ch:=[it]) (λb hb=>?_) (λb o _ _ hc e _=>k b o (λz=>hc (by simp [z])) e) (λb o _ _ hc e _=>⟨o.slots,k b o (λz=>hc (by simp [z])) e⟩) (λ_ _ _ _ n=>n)
  (λb o hc e=>⟨o,k b o (λz=>hc (by simp [z])) e⟩) (λ_ _ e=>e) (λ_ _ _ e=>e) (λb ps e=>⟨#[],by rw[e];simp⟩) (λm hm=>?_) (λb u e=>?_) I.bare
 .have e:b=it:=by simpa using hb
  subst e;exact⟨h1,hL,h2,h3⟩
 .obtain⟨o,es,ep,ho,r⟩:=hm
  exact⟨o,es,ep,k _ o (Vh hL) ho,r⟩
 .refine(I.hok b u e).stay (λc v hc q=>k c v ?_ q) (λ_ q=>q) λ_ _ q=>q
  rcases hc with z|z
  .rw[z];exact nit b u e
  .exact nit c _ z
def Inv.tok(I:Inv X π σ H s)(t:Nat):Inv X π σ H { s with toks:=t }:=I.un (h':=s.heap) (t':=t) Un.refl I.hok
def Inv.kept(I:Inv X π σ H s)(k:∀b u,s.heap.get? b=some u->h'.get? b=some u):Inv X π σ H { s with heap:=h',toks:=t' }:=I.un (Un.kept k) (I.hok.kept k)
def Inv.laid(I:Inv X π σ H s)(k:∀b u,s.heap.get? b=some u->h'.get? b=some u)(hp:s.heap.objs.size<=a)(new:bT X.prog X.w (upd H a o) h' a o) :
  Inv X π σ (upd H a o) { s with heap:=h',toks:=t' }:=I.un (Un.laid k hp (I.hok.fresh hp)) (I.hok.laid k hp new)
def Inv.write(I:Inv X π σ H s)(mu:Oo (H x))(he:e=x∨H e=some (.own x))(k:∀b u,b≠e->s.heap.get? b=some u->h'.get? b=some u)(heo:∃u,h'.get? e=some u)
  (new:bT X.prog X.w (upd H x o) h' x o):Inv X π σ (upd H x o) { s with heap:=h',toks:=t' }:=I.un (Un.write mu he k heo) (I.hok.write mu he k heo new)
def Inv.pins_of(I:Inv X π σ H s)(h:∀p∈pins',s.heap.get? p.1=some p.2/\H p.1=none/\p.1≠X.env.locals/\p.1∉X.fs/\∀v,p.2.data≠.cell v):Inv X pins' σ H s :=
 ⟨I.ok,I.os,I.bare,I.base,I.loc,I.cell,I.free,I.freeC,λp hp=>(Vl.mp hp).elim (λz=>I.pin p (Zk _ z)) (h p),I.hok,I.len⟩
def sP{N:List US}(hN:N.Nodup){i j:Nat}(a:N[i]?=some x)(b:N[j]?=some x):i=j:=by
 obtain⟨h1,e1⟩:=UA.mp a;obtain⟨h2,e2⟩:=UA.mp b;exact(List.getElem_inj hN).mp (e1.trans e2.symm)
def oU(I:Inv X π σ H s)(hN:X.N.Nodup)(hi:X.N[i]?=some x)(hx:Fx X.env.scope x)(r:bF v u)
  (h:∀s',Inv X π (σ.set i (some v)) H s'->(∃a,Xd a s.heap s'.heap/\(a=X.env.locals∨X.env.cells.lookup x=some a))->Q () s')(hf:X.fn x=true∨X.env.scope.names.lookup x=some .local := by first|exact .inl rfl|exact .inr rfl|assumption):UO M A (storeName X.env x u) Q E s:=by
 obtain⟨m,hn,hl⟩:=id I.loc;have hcls:(X.env.scope.kind==.class||(X.env.scope.kind==.module&&X.env.locals != X.env.globals))=false:=by rw[I.ok.kind];rfl
 have hiσ:i<σ.length:=by rw[I.len];exact(UA.mp hi).1
 have cne:=I.cne;have tracked:∀{a:Uw}{h':UR},(∃o,s.heap.get? a=some o/\H a=none)->Xd a s.heap h'->gG X.prog X.w H h':=λ{a h'} ha hs b ob e=>by
  obtain⟨_,_,hfree⟩:=ha;refine(I.hok b ob e).stay (λc w' hc q=>(hs.2 c ?_).trans q) (λ_ q=>q) λ_ _ q=>q;rintro rfl;rcases hc with rfl|hc
  .rw[hfree] at e;cases e
  .rw[hfree] at hc;cases hc
 rcases hx with hk|hk
 .refine wpAny_storeName_local hk hn (λh' hn' hs=>?_) hcls
  obtain⟨oL,_,_,hoL,_⟩:=id hn;refine h _ ⟨I.ok,I.os,I.bare,⟨λb o e n hb hx=>?_,λb o e n hb hx=>?_,I.base.free,λb o e hx=>?_,I.base.tups,I.base.frzs,I.base.tbls⟩,⟨_,hn',λj y v' e1 e2 e3=>?_⟩,λy c e=>?_,I.free,I.freeC,λp hp=>?_,tracked ⟨oL,hoL,I.free⟩ hs,by simpa using I.len⟩ ⟨_,hs,.inl rfl⟩
  .exact(hs.2 b (Vf (UY (UT e) I.ok.above))).trans (I.base.keep b o e n hb hx)
  .obtain⟨sl,e1⟩:=I.base.slot b o e n hb hx
   exact⟨sl,(hs.2 b (Vf (UY (UT e) I.ok.above))).trans e1⟩
  .obtain⟨o',e1⟩:=I.base.there b o e hx
   exact⟨o',(hs.2 b (Vf (UY (UT e) I.ok.above))).trans e1⟩
  .by_cases hj:j=i
   .subst hj
    rw[hi] at e1;cases e1;rw[U2 hiσ] at e2;cases e2;exact⟨u,r,.inl ⟨hk,by simp⟩⟩
   .rw[Uz (Vh hj)] at e2
    obtain⟨u',r',q⟩:=hl j y v' e1 e2 e3;refine⟨u',r',?_⟩;rcases q with⟨k,e⟩|⟨k,c,e,z⟩
    .refine .inl ⟨k,?_⟩
     have:y≠x:=λe=>hj (sP hN e1 (e▸hi));simp [this,e]
    .exact .inr ⟨k,c,e,z.sameBut hs (cne y c e)⟩
  .obtain⟨w',z⟩:=I.cell y c e
   exact⟨w',z.sameBut hs (cne y c e)⟩
  .obtain⟨e,n,ne,nf,d⟩:=I.pin p hp
   exact⟨(hs.2 p.1 ne).trans e,n,ne,nf,d⟩
 .have hfn:X.fn x=true:=by
   rcases hf with z|z
   .exact z
   .rw[z] at hk;cases hk
  obtain⟨c,hc⟩:=I.ok.has x (.inl hk);obtain⟨w',z⟩:=I.cell x c hc;refine wpAny_storeName_cell I.ok.kind hk hc z (λh' hc' hs=>?_);obtain⟨oc,hoc,hocd⟩:=id z;refine h { s with heap:=h' } ⟨I.ok,I.os,I.bare,⟨λb o e n hb hx=>?_,λb o e n hb hx=>?_,I.base.free,λb o e hx=>?_,I.base.tups,I.base.frzs,I.base.tbls⟩,⟨m,hn.sameBut hs (Vh (cne x c hc)),λj y v' e1 e2 e3=>?_⟩,λy c' e=>?_,I.free,I.freeC,λp hp=>?_,tracked ⟨oc,hoc,I.freeC x c hc⟩ hs,by simpa using I.len⟩ ⟨c,hs,.inr hc⟩
  .exact(hs.2 b (Vf (UY (UT e) (I.ok.cab x c hfn hc)))).trans (I.base.keep b o e n hb hx)
  .obtain⟨sl,e1⟩:=I.base.slot b o e n hb hx
   exact⟨sl,(hs.2 b (Vf (UY (UT e) (I.ok.cab x c hfn hc)))).trans e1⟩
  .obtain⟨o',e1⟩:=I.base.there b o e hx
   exact⟨o',(hs.2 b (Vf (UY (UT e) (I.ok.cab x c hfn hc)))).trans e1⟩
  .by_cases hj:j=i
   .subst hj
    rw[hi] at e1;cases e1;rw[U2 hiσ] at e2;cases e2;exact⟨u,r,.inr ⟨.inl hk,c,hc,hc'⟩⟩
   .rw[Uz (Vh hj)] at e2
    obtain⟨u',r',q⟩:=hl j y v' e1 e2 e3;refine⟨u',r',?_⟩;rcases q with q|⟨k,c',e,z'⟩
    .exact .inl q
    .refine .inr ⟨k,c',e,z'.sameBut hs ?_⟩
     rintro rfl;exact hj (sP hN e1 (I.ok.inj _ _ _ e hc▸hi))
  .by_cases hcc:c'=c
   .subst hcc;exact⟨_,hc'⟩
   .obtain⟨w2,z2⟩:=I.cell y c' e
    exact⟨w2,z2.sameBut hs hcc⟩
  .obtain⟨e,n,ne,nf,d⟩:=I.pin p hp
   refine⟨(hs.2 p.1 ?_).trans e,n,ne,nf,d⟩;intro q;rw[q,hoc] at e;have q':oc=p.2:=U9 e;exact d w' (by rw[←q'];exact hocd)
def kC(I:Inv X π σ H s)(hN:X.N.Nodup)(hi:X.N[i]?=some x)(hx:Fx X.env.scope x)(r:bF v u)
  (h:∀s',Inv X π (σ.set i (some v)) H s'->Q () s')(hf:X.fn x=true∨X.env.scope.names.lookup x=some .local := by first|exact .inl rfl|exact .inr rfl|assumption):UO M A (storeName X.env x u) Q E s :=
 oU I hN hi hx r (λs' I' _=>h s' I') hf
def Inv.call'(I:Inv X π σ H s)(ho:s'.os=s.os)(u:Un (iN X.stack) ch H H' s.heap s'.heap)(hok:gG X.prog X.w H' s'.heap)(hg:AllBare s'.gens)
  (hch:∀b∈ch,(b∈X.ex∨X.sf.heap.objs.size<=b)/\b≠X.env.locals/\(∀x c,X.env.cells.lookup x=some c->c≠b)/\∀p∈X.pn++π,p.1≠b):Inv X π σ H' s':=by
 obtain⟨h',g',d',t',o'⟩:=s';have e:o'=s.os:=ho;subst e;exact I.call (g':=g') (t':=t') (d':=d') u hok hg hch
end
abbrev XK:=Us->Option Uw->Hp->Prop
abbrev St:=List (Option V)
abbrev VK:=V->Hp->Prop
abbrev TE:=St->Hp->VK->Prop
abbrev TT:=St->Hp->(Bool->Hp->Prop)->Prop
abbrev TA:=St->Hp->(List V->Hp->Prop)->Prop
structure jK where
 nx:St->Hp->Prop
 rt:VK
 bk:St->Hp->Prop:=λ_ _=>False
 ct:St->Hp->Prop:=λ_ _=>False
abbrev TS:=jK->St->Hp->Prop
noncomputable def EP(X:Cx) (π:List (Uw×Obj)) (σ:St) (Q:VK) (u:Us) (s':UE):Prop:=∃v H',Inv X π σ H' s'/\bF v u/\Q v H'
noncomputable def TP(X:Cx) (π:List (Uw×Obj)) (σ:St) (Q:Bool->Hp->Prop) (b:Bool) (s':UE):Prop:=∃H',Inv X π σ H' s'/\Q b H'
noncomputable def AP(X:Cx) (π:List (Uw×Obj)) (σ:St) (Q:List V->Hp->Prop) (us:List Us) (s':UE):Prop:=∃vs H',Inv X π σ H' s'/\bE vs us/\Q vs H'
noncomputable def SP(X:Cx) (π:List (Uw×Obj)) (D:jK) (f:Flow) (s':UE):Prop :=
 match f with
 |.next=>∃σ' H',Inv X π σ' H' s'/\D.nx σ' H'
 |.brk=>∃σ' H',Inv X π σ' H' s'/\D.bk σ' H'
 |.cont=>∃σ' H',Inv X π σ' H' s'/\D.ct σ' H'
 |.ret u=>∃v σ' H',Inv X π σ' H' s'/\bF v u/\D.rt v H'
noncomputable def PE(X:Cx) (e:Vk) (t:TE):Prop :=
 ∀(π:List (Uw×Obj)) (s:UE) (σ:St) (H:Hp) (Q:VK),Inv X π σ H s->t σ H Q->UO (UM X.prog X.w) X.A (eval e X.env) (EP X π σ Q) X.xe s
noncomputable def PT(X:Cx) (e:Vk) (t:TT):Prop :=
 ∀(π:List (Uw×Obj)) (s:UE) (σ:St) (H:Hp) (Q:Bool->Hp->Prop),Inv X π σ H s->t σ H Q->UO (UM X.prog X.w) X.A (isTrue e X.env (eval e X.env)) (TP X π σ Q) X.xe s
noncomputable def PW(X:Cx) (e:Vk) (t:TT):Prop :=
 ∀(whole:Sem Us) (π:List (Uw×Obj)) (s:UE) (σ:St) (H:Hp) (Q:Bool->Hp->Prop),Inv X π σ H s->t σ H Q->UO (UM X.prog X.w) X.A (isTrue e X.env whole) (TP X π σ Q) X.xe s
def PW.pt(h:PW X e t):PT X e t:=h _
noncomputable def PA(X:Cx) (es:List Vk) (t:TA):Prop :=
 ∀(pos:Pos) (π:List (Uw×Obj)) (s:UE) (σ:St) (H:Hp) (Q:List V->Hp->Prop),Inv X π σ H s->t σ H Q->UO (UM X.prog X.w) X.A (spliced (VA pos (Uy es X.env))) (AP X π σ Q) X.xe s
noncomputable def PS(X:Cx) (st:V0) (t:TS):Prop :=
 ∀(π:List (Uw×Obj)) (s:UE) (σ:St) (H:Hp) (D:jK),Inv X π σ H s->t D σ H->UO (UM X.prog X.w) X.A (exec st X.env) (SP X π D) X.xe s
noncomputable def wK(X:Cx) (st:List V0) (t:TS):Prop :=
 ∀(π:List (Uw×Obj)) (s:UE) (σ:St) (H:Hp) (D:jK),Inv X π σ H s->t D σ H->UO (UM X.prog X.w) X.A (execs st X.env) (SP X π D) X.xe s
def cH{Q Q':α->UE->Prop}(h:UO M A t Q E s)(hQ:∀a s,Q a s->Q' a s):UO M A t Q' E s:=Vs h hQ λ_ _ x=>x
section
variable {X:Cx}
def Ur(ha:PE X a ta)(hb:PE X b tb){R:V->V->Hp->Prop}(I:Inv X π σ H s)(h:ta σ H λx H1=>tb σ H1 λy H2=>R x y H2)
  {f:Us->Us->Sem α}
  (hf:∀v u s2 x y H2,Inv X π σ H2 s2->bF x v->bF y u->R x y H2->UO (UM X.prog X.w) X.A (f v u) Q X.xe s2) :
  UO (UM X.prog X.w) X.A (eval a X.env) (λv sg=>UO (UM X.prog X.w) X.A (eval b X.env) (λu si=>UO (UM X.prog X.w) X.A (f v u) Q X.xe si) X.xe sg) X.xe s:=by
 refine cH (ha π s σ H _ I h) λv s1 ⟨x,H1,I1,r1,q1⟩=>?_;refine cH (hb π s1 σ H1 _ I1 q1) λu s2 ⟨y,H2,I2,r2,q2⟩=>?_;exact hf v u s2 x y H2 I2 r1 r2 q2
def RU(i:Nat):TE:=λσ H Q=>∃v,σ[i]?=some (some v)/\Q v H
def tC(v:V):TE:=λ_ H Q=>Q v H
def gH(hN:X.N[i]?=some x)(hv:AH X.env.scope x)(hd:(x==("__debug__" : US))=false:=by decide)(hcd:(x==("__classdict__" : US))=false:=by decide):PE X (.Name x pos) (RU i):=by
 intro π s σ H Q I h;obtain⟨v,e,h⟩:=h;obtain⟨m,hn,hl⟩:=I.loc;obtain⟨u,r,l⟩:=hl i x v hN e hv;have fin:EP X π σ Q u s:=⟨v,H,I,r,h⟩
 rcases l with⟨hk,hm⟩|⟨hk,c,hc,hcell⟩
 .exact wpAny_Name (wpAny_loadName_local I.ok.kind hk hn hm fin) hd
 .rcases hk with hk|hk
  .exact wpAny_Name (wpAny_loadName_cell I.ok.kind hk hc hcell fin) hd
  .exact wpAny_Name (wpAny_loadName_free I.ok.kind hk hc hcell fin hcd) hd
def GX{i j pos}:PE X (.Constant (.int i) j pos) (tC (.int i)):=λ_ _ _ H _ I h=>wpAny_Constant_int ⟨.int i,H,I.tok _,⟨_,rfl⟩,h⟩
def P1{b j pos}:PE X (.Constant (.bool b) j pos) (tC (.bl b)):=λ_ _ _ H _ I h=>Constant_bool ⟨.bl b,H,I,rfl,h⟩
def M6{j pos}:PE X (.Constant .none j pos) (tC .non):=λ_ _ _ H _ I h=>Constant_none ⟨.non,H,I,rfl,h⟩
def M1{x j pos}:PE X (.Constant (.str x) j pos) (tC (.str x)):=λ_ _ _ H _ I h=>Calls.Constant_str ⟨.str x,H,I.tok _,⟨_,rfl⟩,h⟩
def Gl(X:Cx)(x:US):Prop:=X.env.kindOf x=some .globalImplicit
def jU(I:Inv X π σ H s)(hg:Gl X x)(hm:X.mg x=some u)(h:Q u s)
  (hd:(x==("__debug__" : US))=false:=by decide):UO (UM X.prog X.w) X.A (eval (.Name x pos) X.env) Q E s :=
 YH I.ok.kind hg (Calls.loadGlobal_global (by rw[I.ok.glob];exact I.mod.glob.keeps I.bk) hm h) hd
def sU(I:Inv X π σ H s)(hg:Gl X x)(hm:X.mg x=none)(hv:bootBuiltins x=some u)(h:Q u s)
  (hn:x≠"__name__":=by decide)(hd:(x==("__debug__" : US))=false:=by decide):UO (UM X.prog X.w) X.A (eval (.Name x pos) X.env) Q E s:=by
 obtain⟨mb,h1,h2⟩:=I.mod.blt;exact YH I.ok.kind hg (Calls.loadGlobal_builtin (by rw[I.ok.glob];exact I.mod.glob.keeps I.bk) hm (by rw[I.ok.blt];exact h1.keeps I.bk) ((h2 x hn).trans hv) h) hd
def xh(hg:Gl X x)(hm:X.mg x=some u)(r:bF v u)(hd:(x==("__debug__" : US))=false:=by decide):PE X (.Name x pos) (tC v) :=
 λ_ _ _ H _ I h=>jU I hg hm ⟨v,H,I,r,h⟩ hd
def CB(hg:Gl X x)(hm:X.mg x=none)(hv:bootBuiltins x=some u)(r:bF v u)(hn:x≠"__name__":=by decide)(hd:(x==("__debug__" : US))=false:=by decide):PE X (.Name x pos) (tC v) :=
 λ_ _ _ H _ I h=>sU I hg hm hv ⟨v,H,I,r,h⟩ hn hd
variable {a b:Vk}{ta tb:TE}{pos:Pos}
noncomputable def PC(X:Cx) (op:CmpOp) (a b:Vk) (t:TE):Prop :=
 ∀(π:List (Uw×Obj)) (s:UE) (σ:St) (H:Hp) (Q:VK),Inv X π σ H s->t σ H Q ->
  UO (UM X.prog X.w) X.A (eval a X.env) (λv sg=>UO (UM X.prog X.w) X.A (eval b X.env) (λu si=>UO (UM X.prog X.w) X.A (Vj op v u) (EP X π σ Q) X.xe si) X.xe sg) X.xe s
def zA(b:Vk)(h:op≠.In)(h2:op≠.NotIn):behindInMarks op b=false:=by
 have e1:(op==CmpOp.In)=false:=by cases op<;>first|rfl|exact absurd rfl h
 have e2:(op==CmpOp.NotIn)=false:=by cases op<;>first|rfl|exact absurd rfl h2
 cases b<;>simp [behindInMarks,e1,e2]
def tB(t:TE):TT:=λσ H Q=>t σ H λx H1=>∃c,x=.bl c/\Q c H1
def Sr(h:PC X op a b t)(h1:behindInMarks op b=false:=by first|exact zA _ (by decide) (by decide)|rfl):PT X (.Compare a [op] [b] pos) (tB t):=by
 intro π s σ H Q I hw;refine wpAny_isTrue_Compare1 (cH (h π s σ H _ I hw) λv s1 h1=>cH h1 λu s2 h2=>cH h2 λc s3 z9=>?_) h1;obtain⟨x,H1,I1,r1,q1⟩:=z9;obtain⟨d,rfl,q⟩:=q1;cases r1;exact VJ ⟨H1,I1,q⟩
def GK(h:PE X e t)(he:∀whole,isTrue e X.env whole=(do let v ←whole;standAt e.pos;WY [v] (truthy v)):=by intro _;rfl):PT X e (tB t):=by
 intro π s σ H Q I hw;refine isTrue_plain (cH (h π s σ H _ I hw) λv s1 z9=>?_) (he _);obtain⟨x,H1,I1,r1,q1⟩:=z9;obtain⟨d,rfl,q⟩:=q1;cases r1;exact VJ ⟨H1,I1,q⟩
variable {tA tB':TT}{rest:List Vk}
noncomputable def Se(t u:TT):TT:=λσ H Q=>t σ H λc H1=>if c=true then u σ H1 Q else Q false H1
def TX(t u:TT):TT:=λσ H Q=>t σ H λc H1=>if c=true then Q true H1 else u σ H1 Q
def R5(t:TT):TT:=λσ H Q=>t σ H λc H1=>Q (!c) H1
def Ct(ha:PT X a tA):PW X (.BoolOp .And [a] pos) tA:=by
 intro wh π s σ H Q I h;refine isTrue_and (cH (ha π s σ H Q I h) λc s1 e=>?_);cases c with|true=>exact isTrue_and_nil e|false=>exact e
def MW(ha:PT X a tA):PW X (.BoolOp .Or [a] pos) tA:=by
 intro wh π s σ H Q I h;refine isTrue_or (cH (ha π s σ H Q I h) λc s1 e=>?_);cases c with|false=>exact isTrue_or_nil e|true=>exact e
def GG(ha:PT X a tA)(hb:PW X (.BoolOp .And (b::rest) pos) tB'):PW X (.BoolOp .And (a::b::rest) pos) (Se tA tB'):=by
 intro wh π s σ H Q I h;refine isTrue_and (cH (ha π s σ H _ I h) λc s1 z9=>?_);obtain⟨H1,I1,q1⟩:=z9;cases c with|true=>exact hb wh π s1 σ H1 Q I1 q1|false=>exact⟨H1,I1,q1⟩
def PM(ha:PT X a tA)(hb:PW X (.BoolOp .Or (b::rest) pos) tB'):PW X (.BoolOp .Or (a::b::rest) pos) (TX tA tB'):=by
 intro wh π s σ H Q I h;refine isTrue_or (cH (ha π s σ H _ I h) λc s1 z9=>?_);obtain⟨H1,I1,q1⟩:=z9;cases c with|true=>exact⟨H1,I1,q1⟩|false=>exact hb wh π s1 σ H1 Q I1 q1
def GL(ha:PT X a tA):PT X (.UnaryOp .Not a pos) (R5 tA):=by
 intro π s σ H Q I h;exact isTrue_not (ha π s σ H (λc H1=>Q (!c) H1) I h)
noncomputable def Pg(ta tb:TE):TE:=λσ H Q=>ta σ H λx H1=>∃c,x=.bl c/\if c=true then tb σ H1 Q else Q (.bl false) H1
noncomputable def R0(ta tb:TE):TE:=λσ H Q=>ta σ H λx H1=>∃c,x=.bl c/\if c=true then Q (.bl true) H1 else tb σ H1 Q
def O8(ta:TE):TE:=λσ H Q=>ta σ H λx H1=>∃c,x=.bl c/\Q (.bl (!c)) H1
def M4{op}(h:PE X a t):PE X (.BoolOp op [a] pos) t:=λπ s σ H Q I hw=>BoolOp_one (h π s σ H Q I hw)
def M7(ha:PE X a ta)(hb:PE X (.BoolOp .And (b::rest) pos) tb):PE X (.BoolOp .And (a::b::rest) pos) (Pg ta tb):=by
 intro π s σ H Q I h;refine BoolOp_and (cH (ha π s σ H _ I h) λv s1 ⟨x,H1,I1,r1,q1⟩=>?_);obtain⟨c,rfl,q1⟩:=q1;cases r1;refine VJ ?_;cases c with|true=>exact hb π s1 σ H1 Q I1 q1|false=>exact⟨.bl false,H1,I1,rfl,q1⟩
def P0(ha:PE X a ta)(hb:PE X (.BoolOp .Or (b::rest) pos) tb):PE X (.BoolOp .Or (a::b::rest) pos) (R0 ta tb):=by
 intro π s σ H Q I h;refine BoolOp_or (cH (ha π s σ H _ I h) λv s1 ⟨x,H1,I1,r1,q1⟩=>?_);obtain⟨c,rfl,q1⟩:=q1;cases r1;refine VJ ?_;cases c with|false=>exact hb π s1 σ H1 Q I1 q1|true=>exact⟨.bl true,H1,I1,rfl,q1⟩
def M5(ha:PE X a ta):PE X (.UnaryOp .Not a pos) (O8 ta):=by
 intro π s σ H Q I h;refine UnaryOp_ (cH (ha π s σ H _ I h) λv s1 z9=>?_);obtain⟨x,H1,I1,r1,q1⟩:=z9;obtain⟨c,rfl,q1⟩:=q1;cases r1;exact not_of (VJ ⟨.bl (!c),H1,I1,rfl,q1⟩)
noncomputable def TZ(t:TT) (ta tb:TE):TE:=λσ H Q=>t σ H λc H1=>if c=true then ta σ H1 Q else tb σ H1 Q
def GY(hc:PT X c tA)(ha:PE X a ta)(hb:PE X b tb):PE X (.IfExp c a b pos) (TZ tA ta tb):=by
 intro π s σ H Q I h;refine wpAny_IfExp (cH (hc π s σ H _ I h) λd s1 z9=>?_);obtain⟨H1,I1,q1⟩:=z9;cases d with|true=>exact ha π s1 σ H1 Q I1 q1|false=>exact hb π s1 σ H1 Q I1 q1
end
noncomputable def eX(K:Ut) (H:Hp) (a:Uw) (xs:List V):Prop :=
 Rd H a (.lst xs) ∨
  ∃(o:Obj) (its:Array Us) (n:Nat),K.lookup a=some o/\o.cls=.type "list"/\o.dict=none/\o.data=.seq its n/\its.size<=sizeLine/\bE xs its.toList
noncomputable def kn(K:Ut) (H:Hp) (a:Uw) (xs:List V):Prop :=
 Rd H a (.tup xs) ∨
  ∃(o:Obj) (its:Array Us) (n:Nat),K.lookup a=some o/\o.cls=.type "tuple"/\o.data=.seq its n/\its.size<=sizeLine/\bE xs its.toList
noncomputable def SS:Us->Option V
 |.none=>some .non
 |.bool b=>some (.bl b)
 |.int i _=>some (.int i)
 |.str x _=>some (.str x)
 |.bytes b _=>some (.byt b)
 |.float b _=>some (.flt b)
 |.ref a=>some (.ref a)
 |.type n=>some (.ty n)
 |_=>none
def bF.abs(r:bF x u):SS u=some x:=by
 cases x with|non|bl _=>cases r;rfl|int _|str _|byt _|flt _=>obtain⟨t,rfl⟩:=r;rfl|ref _|ty _=>cases r;rfl
def bF.inj(r:bF x u)(q:bF y u):x=y:=U9 (r.abs.symm.trans q.abs)
theorem bE.inj:∀{xs ys:List V}{us:List Us},bE xs us->bE ys us->xs=ys
 |_,_,_,.nil,.nil=>rfl
 |_,_,_,.cons r t,.cons r' t'=>by rw[r.inj r',bE.inj t t']
section
variable {X:Cx}{π:List (Uw×Obj)}{σ:St}{H:Hp}{s:UE}{a:Uw}{xs ys:List V}
def eX.of{K:Ut}(h:H a=some (.lst xs)):eX K H a xs:=.inl (.inl h)
def kn.of{K:Ut}(h:H a=some (.tup xs)):kn K H a xs:=.inl (.inl h)
def Inv.list(I:Inv X π σ H s)(h:eX X.K H a xs):∃its:List Us,bE xs its/\PlainL s.heap a its.toArray/\xs.length<=sizeLine:=by
 rcases h with h|⟨o,its,n,hk,hc,hd,hs,hz,r⟩
 .obtain⟨z,its,n,r,e⟩:=h.ok I.hok
  exact⟨its,r,⟨_,n,e,rfl,rfl,rfl⟩,z⟩
 .refine⟨its.toList,r,⟨o,n,I.kIn a o hk,hc,hd,by simpa using hs⟩,?_⟩
  have e:=r.length;simp only[X6] at e;omega
def Inv.tuple(I:Inv X π σ H s)(h:kn X.K H a xs):∃its:List Us,bE xs its/\IsTup s.heap a its.toArray/\xs.length<=sizeLine:=by
 rcases h with h|⟨o,its,n,hk,hc,hs,hz,r⟩
 .obtain⟨z,its,r,p⟩:=h.ok I.hok
  exact⟨its,r,p,z⟩
 .refine⟨its.toList,r,⟨o,I.kIn a o hk,hc,n,by simpa using hs⟩,?_⟩
  have e:=r.length;simp only[X6] at e;omega
def Inv.list_inj(I:Inv X π σ H s)(h:eX X.K H a xs)(h':eX X.K H a ys):xs=ys:=by
 obtain⟨its,r,⟨o,n,e,_,_,d⟩,_⟩:=I.list h;obtain⟨its',r',⟨o',n',e',_,_,d'⟩,_⟩:=I.list h';rw[e] at e';cases e';rw[d] at d';injection d' with d1 _;have:its=its':=by simpa using congrArg Array.toList d1
 subst this;exact r.inj r'
def Inv.tuple_inj(I:Inv X π σ H s)(h:kn X.K H a xs)(h':kn X.K H a ys):xs=ys:=by
 obtain⟨its,r,⟨o,e,_,n,d⟩,_⟩:=I.tuple h;obtain⟨its',r',⟨o',e',_,n',d'⟩,_⟩:=I.tuple h';rw[e] at e';cases e';rw[d] at d';injection d' with d1 _;have:its=its':=by simpa using congrArg Array.toList d1
 subst this;exact r.inj r'
end
abbrev Cx.wish(X:Cx)(E:Us->UE->Prop):Cx:={ X with xe:=E }
abbrev Cx.nox(X:Cx):Cx:=X.wish λ_ _=>False
def Cx.Ok.wish{X:Cx}(ok:X.Ok)(E:Us->UE->Prop):(X.wish E).Ok :=
 ⟨ok.mod,ok.kind,ok.glob,ok.blt,ok.above,ok.inj,ok.has,ok.cab,ok.hd,ok.frames,ok.stk,ok.exf,ok.bs,ok.bsz,ok.noex,ok.exfs,ok.funs,ok.frf⟩
def Cx.Ok.unwish{X:Cx}(ok:(X.wish E).Ok):X.Ok :=
 ⟨ok.mod,ok.kind,ok.glob,ok.blt,ok.above,ok.inj,ok.has,ok.cab,ok.hd,ok.frames,ok.stk,ok.exf,ok.bs,ok.bsz,ok.noex,ok.exfs,ok.funs,ok.frf⟩
section
variable {X:Cx}{π:List (Uw×Obj)}{σ:St}{H:Hp}{s:UE}{E:Us->UE->Prop}
def Inv.wish(I:Inv X π σ H s)(E:Us->UE->Prop):Inv (X.wish E) π σ H s:=⟨I.ok.wish E,I.os,I.bare,I.base,I.loc,I.cell,I.free,I.freeC,I.pin,I.hok,I.len⟩
def Inv.unwish(I:Inv (X.wish E) π σ H s):Inv X π σ H s:=⟨I.ok.unwish,I.os,I.bare,I.base,I.loc,I.cell,I.free,I.freeC,I.pin,I.hok,I.len⟩
def SP.unwish{D:jK}(h:SP (X.wish E) π D f s'):SP X π D f s':=by
 cases f with|next|brk|cont=>obtain⟨σ',H',I,q⟩:=h;exact⟨σ',H',I.unwish,q⟩|ret u=>obtain⟨v,σ',H',I,r,q⟩:=h;exact⟨v,σ',H',I.unwish,r,q⟩
def wK.nox{st:List V0}(h:wK X.nox st t):wK X st t:=λπ s σ H D I hw =>
 Vs (h π s σ H D (I.wish _) hw) (λ_ _ q=>q.unwish) λ_ _ z=>VI z
end
section
variable {X:Cx}{st:V0}{rest:List V0}{t u:TS}{e:Vk}{te:TE}{pos:Pos}
def O9:TS:=λD σ H=>D.nx σ H
def RW(t u:TS):TS:=λD σ H=>t { D with nx:=u D } σ H
def qP:wK X [] O9:=λ_ _ σ H _ I h=>wpAny_execs_nil ⟨σ,H,I,h⟩
def gA(h1:PS X st t)(h2:wK X rest u):wK X (st::rest) (RW t u):=by
 intro π s σ H D I h;refine wpAny_execs_cons (cH (h1 π s σ H { D with nx:=u D } I h) λf s1 q=>?_);cases f with
 |next =>
  obtain⟨σ',H',I',q⟩:=q;exact h2 π s1 σ' H' D I' q
 |ret v|brk|cont=>exact q
def Inv.quiet(I:Inv X π σ H s):interactive X.env=false:=by simp [interactive,I.ok.kind]
def Pb(te:TE):TS:=λD σ H=>te σ H λ_ H1=>D.nx σ H1
def qQ(he:PE X e te)(hs:Vz e none pos.line X.env=pure false:=by rfl):PS X (.Expr e pos) (Pb te):=by
 intro π s σ H D I h;exact wpAny_Expr_any (cH (he π s σ H _ I h) λv s1 ⟨x,H1,I1,r1,q1⟩=>⟨σ,H1,I1,q1⟩) I.quiet hs
def RY(te:TE):TS:=λD σ H=>te σ H D.rt
def xa(he:PE X e te):PS X (.Return (some e) pos) (RY te):=by
 intro π s σ H D I h;exact wpAny_Return_some (cH (he π s σ H _ I h) λv s1 ⟨x,H1,I1,r1,q1⟩=>⟨x,σ,H1,I1,r1,q1⟩)
noncomputable def R9(c:TT) (t u:TS):TS:=λD σ H=>c σ H λb H1=>if b=true then t D σ H1 else u D σ H1
def LN(hc:PT X c tc)(ha:wK X a t)(hb:wK X b u):PS X (.If c a b pos) (R9 tc t u):=by
 intro π s σ H D I h;refine wpAny_If (cH (hc π s σ H _ I h) λd s1 z9=>?_);obtain⟨H1,I1,q1⟩:=z9;cases d with|true=>exact ha π s1 σ H1 D I1 q1|false=>exact hb π s1 σ H1 D I1 q1
def Mz:TS:=λ_ _ _=>False
def GO:PS X st Mz:=λ_ _ _ _ _ _ h=>h.elim
end
abbrev TG:=V->St->Hp->(St->Hp->Prop)->Prop
abbrev OU:=List V->St->Hp->(St->Hp->Prop)->Prop
noncomputable def PG(X:Cx) (target:Vk) (t:TG):Prop :=
 ∀(π:List (Uw×Obj)) (s:UE) (σ:St) (H:Hp) (v:V) (u:Us) (Q:St->Hp->Prop),Inv X π σ H s->bF v u->t v σ H Q ->
  UO (UM X.prog X.w) X.A (assign target X.env u) (λ_ s'=>∃σ' H',Inv X π σ' H' s'/\Q σ' H') X.xe s
noncomputable def Fv(X:Cx) (ts:List Vk) (t:OU):Prop :=
 ∀(π:List (Uw×Obj)) (s:UE) (σ:St) (H:Hp) (vs:List V) (us:List Us) (Q:St->Hp->Prop),Inv X π σ H s->bE vs us->t vs σ H Q ->
  UO (UM X.prog X.w) X.A (assignInOrder ((assignEach ts X.env).map (·.2)) us) (λ_ s'=>∃σ' H',Inv X π σ' H' s'/\Q σ' H') X.xe s
abbrev Ri:=V->V->V->Hp->(Hp->Prop)->Prop
noncomputable def Rk(X:Cx) (t:Ri):Prop :=
 ∀(π:List (Uw×Obj)) (s:UE) (σ:St) (H:Hp) (o i v:V) (ov iv u:Us) (Q:Hp->Prop),Inv X π σ H s->bF o ov->bF i iv->bF v u->t o i v H Q ->
  UO (UM X.prog X.w) X.A (setItem ov iv u) (λ_ s'=>∃H',Inv X π σ H' s'/\Q H') X.xe s
section
variable {X:Cx}{pos:Pos}
def De(i:Nat):TG:=λv σ H Q=>Q (σ.set i (some v)) H
def Cz(hN:X.N.Nodup)(hi:X.N[i]?=some x)(hx:Fx X.env.scope x)(hf:X.fn x=true∨X.env.scope.names.lookup x=some .local := by first|exact .inl rfl|exact .inr rfl|assumption):PG X (.Name x pos) (De i):=by
 intro π s σ H v u Q I r h;exact wpAny_assign_Name (kC I hN hi hx r (λs' I'=>⟨_,H,I',h⟩) hf)
def SI:OU:=λvs σ H Q=>vs=[]/\Q σ H
noncomputable def QC(t:TG) (u:OU):OU:=λvs σ H Q=>∃v r,vs=v::r/\t v σ H λσ' H'=>u r σ' H' Q
def Kc:Fv X [] SI:=by
 intro π s σ H vs us Q I r h;obtain⟨e,h⟩:=h;subst e;cases r;exact assignInOrder_nil ⟨σ,H,I,h⟩
def GS(h1:PG X e t)(h2:Fv X es u)
  (hs:(assignEach (e::es) X.env).map (·.2)=assign e X.env::(assignEach es X.env).map (·.2):=by rfl):Fv X (e::es) (QC t u):=by
 intro π s σ H vs us Q I r h;obtain⟨v,vr,e1,h⟩:=h;subst e1;cases r with
 |cons r rr =>
  rw[hs];refine assignInOrder_cons (cH (h1 π s σ H _ _ _ I r h) λ_ s1 z9=>?_);obtain⟨σ1,H1,I1,q1⟩:=z9;exact h2 π s1 σ1 H1 _ _ Q I1 rr q1
noncomputable def SG(K:Ut) (n:Nat) (t:OU):TG:=λv σ H Q=>∃a xs,v=.ref a/\kn K H a xs/\xs.length=n/\t xs σ H Q
def M0{k:Nat}(hc:X.calm=true)(h:Fv X es t)
  (hn:(assignEach es X.env).length=n:=by rfl)(hst:(assignEach es X.env).findIdx? (·.1)=none:=by rfl):PG X (.Tuple es k pos) (SG X.K n t):=by
 intro π s σ H v u Q I r hw;obtain⟨a,xs,e1,hq,hl,hw⟩:=hw;subst e1;cases r;obtain⟨its,rv,ht,hz⟩:=I.tuple hq;refine assign_Tuple_tuple (I.ok.hd hc) ht (by simp [hn,←hl,rv.length]) hst λh' hx=>?_;have I1:Inv X π σ H { s with heap:=h' }:=I.kept (t':=s.toks) λb o e=>hx b o (Vf (UT e)) e;exact h π _ σ H xs _ Q I1 (by simpa using rv) hw
noncomputable def SH(to ti:TE) (t:Ri):TG:=λv σ H Q=>to σ H λo H1=>ti σ H1 λi H2=>t o i v H2 λH3=>Q σ H3
def GU(ho:PE X o to)(hi:PE X i ti)(hs:Rk X t)
  (ha:∀v,assign (.Subscript o i pos) X.env v=(do
   let ov ←WY [v] (eval o X.env)
   let iv ←WY [v,ov] (eval i X.env)
   standAt pos
   WY [v,ov,iv] (setItem ov iv v)
   release [v,ov,iv] []):=by intro _;rfl):PG X (.Subscript o i pos) (SH to ti t):=by
 intro π s σ H v u Q I r h;rw[ha];refine Uu (V1 (cH (ho π s σ H _ I h) λov s1 ⟨x,H1,I1,r1,q1⟩=>?_));refine Uu (V1 (cH (hi π s1 σ H1 _ I1 q1) λiv s2 ⟨y,H2,I2,r2,q2⟩=>?_));refine Uu (wpAny_standAt (Uu (V1 (cH (hs π s2 σ H2 x y v ov iv u _ I2 r1 r2 r q2) λ_ s3 z9=>?_))));obtain⟨H3,I3,q3⟩:=z9;exact wpAny_release ⟨σ,H3,I3,q3⟩
def JQ(te:TE)(g:TG):TS:=λD σ H=>te σ H λx H1=>g x σ H1 D.nx
def A5(he:PE X e te)(hg:PG X tg g)(hs:swapsWithSole [tg] e pos.line X.env=pure false:=by rfl)(hw:swappedStores [tg] e X.env=pure none:=by rfl)
  (h1:(assignEach [tg] X.env).map (·.2)=[assign tg X.env]:=by rfl):PS X (.Assign [tg] e pos) (JQ te g):=by
 intro π s σ H D I h;refine wpAny_Assign_stores (cH (he π s σ H _ I h) λv s1 z9=>?_) hs hw;obtain⟨x,H1,I1,r1,q1⟩:=z9;rw[h1];exact cH (hg π s1 σ H1 x v _ I1 r1 q1) λ_ s2 q=>q
def mv(hN:X.N.Nodup)(hi:X.N[i]?=some x)(hx:Fx X.env.scope x)(he:PE X e te)(hs:Vz e (some (.Name x pos')) pos.line X.env=pure false:=by rfl)(hf:X.fn x=true∨X.env.scope.names.lookup x=some .local := by first|exact .inl rfl|exact .inr rfl|assumption) :
  PS X (.Assign [.Name x pos'] e pos) (JQ te (De i)):=by
 intro π s σ H D I h;refine wpAny_Assign_Name (cH (he π s σ H _ I h) λv s1 z9=>?_) hs;obtain⟨y,H1,I1,r1,q1⟩:=z9;exact kC I1 hN hi hx r1 (λs2 I2=>⟨_,H1,I2,q1⟩) hf
noncomputable def RZ(i j:Nat) (ta:TA):TS:=λD σ H=>ta σ H λvs H1=>∃v w,vs=[v,w]/\D.nx ((σ.set i (some v)).set j (some w)) H1
def MY{px py pt:Pos}{kt k2 pt2}(hc:X.calm=true)(hN:X.N.Nodup)(hi:X.N[i]?=some x)(hj:X.N[j]?=some y)(hij:i≠j)
  (hx:X.env.scope.names.lookup x=some .local)(hy:X.env.scope.names.lookup y=some .local)(ha:PA X [a,b] ta)
  (hw:swappedStores [.Tuple [.Name x px,.Name y py] kt pt] (.Tuple [a,b] k2 pt2) X.env=pure (some [x,y]))
  (hs:swapsWithSole [.Tuple [.Name x px,.Name y py] kt pt] (.Tuple [a,b] k2 pt2) pos.line X.env=pure false:=by rfl) :
  PS X (.Assign [.Tuple [.Name x px,.Name y py] kt pt] (.Tuple [a,b] k2 pt2) pos) (RZ i j ta):=by
 intro π s σ H D I h;rw[exec_Assign_arm];refine Uu (wpAny_standAt ?_);rw[hs];refine Uu (UU ?_);rw[if_neg (by decide)];refine Uu (Tuple_ (cH (ha _ π s σ H _ I h) λus s1 z9=>?_));obtain⟨vs,H1,I1,r1,q1⟩:=z9;obtain⟨v,w,e1,q1⟩:=q1;subst e1;obtain⟨u1,u2,rfl,rv,rw'⟩:∃u1 u2,us=[u1,u2]/\bF v u1/\bF w u2:=by
  cases r1 with
  |cons p q =>
   cases q with
   |cons p' q' =>
    cases q';exact⟨_,_,rfl,p,p'⟩
 refine wpAny_newObj_type ?_ (by show 2<=sizeLine;decide);have I2:Inv X π σ H1 { s1 with heap:=s1.heap.push { cls:=.type "tuple",data:=.seq [u1,u2].toArray } }:=I1.kept (t':=s1.toks) λb o e=>UC _ e;rw[hw];refine Uu (UU ?_);show UO (UM X.prog X.w) X.A (do rule "assign.swapped-stores";let items ←unpackItems (.ref s1.heap.objs.size) 2 none;assignInOrder [λv=>bindName X.env y v,λv=>bindName X.env x v] items.reverse;pure Flow.next) _ _ _;refine Uu (wpAny_rule (Uu (unpackItems_tuple (items:=#[u1,u2]) (I.ok.hd hc) (YW s1.heap _) λh' hx'=>?_)));have I3:=I2.kept (h':=h') (t':=s1.toks) λb o e=>hx' b o (Vf (UT e)) e;show UO _ _ (assignInOrder [λv=>bindName X.env y v,λv=>bindName X.env x v] [u2,u1] >>= λ_=>pure Flow.next) _ _ _;refine Uu (assignInOrder_cons (wpAny_bindName (kC I3 hN hj (.inl hy) rw' (λs2 I4=>?_) (.inr hy))));refine assignInOrder_cons (wpAny_bindName (kC I4 hN hi (.inl hx) rv (λs3 I5=>assignInOrder_nil (UU ?_)) (.inr hx)));rw[List.set_comm _ _ (Vh hij)] at I5;exact⟨_,H1,I5,q1⟩
end
section
variable {X:Cx}{pos:Pos}
noncomputable def My(c:TT) (tb:TS):TS:=λD σ H=>∃W:Nat->St->Hp->Prop,(∃m,W m σ H)/\∀m σ H,W m σ H ->
 c σ H λb H1=>if b=true then ∃N:St->Hp->Prop,(∀σ' H',N σ' H'->∃m',m' < m/\W m' σ' H')/\tb { D with nx:=N,ct:=N,bk:=D.nx } σ H1 else D.nx σ H1
def zf(hp:PassesOwn (UM X.prog X.w) X.A X.env X.xe)(hc:PT X c tc)(hb:wK X body tb):PS X (.While c body [] pos) (My tc tb):=by
 intro π s σ H D I h;obtain⟨W,⟨m0,w0⟩,turn⟩:=h;refine wpAny_While (codeAny_whileLoop (λn s'=>∃σ' H',Inv X π σ' H' s'/\W n σ' H') ?_ m0 ⟨σ,H,I,w0⟩);rintro n s1 ⟨σ1,H1,I1,w1⟩;refine wpAny_passesOwn hp (cH (hc π s1 σ1 H1 _ I1 (turn n σ1 H1 w1)) λb s2 z9=>?_);obtain⟨H2,I2,q2⟩:=z9;cases b with
 |true =>
  obtain⟨N,hN,q2⟩:=q2;rw[if_pos rfl];refine wpAny_passesOwn hp (cH (hb π s2 σ1 H2 _ I2 q2) λf s3 q3=>?_);cases f with
  |next =>
   obtain⟨σ3,H3,I3,n3⟩:=q3;obtain⟨m',hm,w3⟩:=hN σ3 H3 n3;exact⟨m',hm,σ3,H3,I3,w3⟩
  |cont =>
   obtain⟨σ3,H3,I3,n3⟩:=q3;obtain⟨m',hm,w3⟩:=hN σ3 H3 n3;exact⟨m',hm,σ3,H3,I3,w3⟩
  |brk|ret v=>exact q3
 |false =>
  rw[if_neg VC];exact wpAny_execs_nil ⟨σ1,H2,I2,q2⟩
end
structure It where
 go:Nat->Hp->Prop
 yld:Nat->Hp->V->Hp->Prop
 stop:Nat->Hp->Prop
noncomputable def oG(X:Cx) (π:List (Uw×Obj)) (H:Hp) (b:Uw):Prop :=
 H b=none/\b≠X.env.locals/\b∉X.fs/\(b∈X.ex∨X.sf.heap.objs.size<=b)/\(∀x c,X.env.cells.lookup x=some c->c≠b)/\∀p∈X.pn++π,p.1≠b
def Inv.fpOk(I:Inv X π σ H s)(hb:s.heap.objs.size<=b)(hn:H' b=none):oG X π H' b:=by
 refine⟨hn,Nat.ne_of_gt (UY I.lt hb),I.nofs hb,.inr (Va I.sz hb),λx c e z=>?_,λp hp z=>?_⟩
 .obtain⟨v,q⟩:=I.cell x c e
  exact absurd (UY q.lt (by rw[z];exact hb)) (WW _)
 .exact absurd (UY (UT (I.pin p hp).1) (by rw[z];exact hb)) (WW _)
structure Fu (P:Vq) (w:VL) (K:Ut) (tg:Vk) (J:It) (fp:List Uw) (it:Uw) (tn:Nat->UR->Prop):Prop where
 mem:it∈fp
 obj:∀i h,tn i h->∀b∈fp,∃o,h.get? b=some o/\∀v,o.data≠.cell v
 keep:∀i h h',tn i h->(∀b∈fp,∀o,h.get? b=some o->h'.get? b=some o)->tn i h'
 item:∀(X:Cx),X.prog=P->X.w=w->X.K=K->X.calm=true->∀(i:Nat) (π:List (Uw×Obj)) (s:UE) (σ:St) (H:Hp) (E:Us->UE->Prop),Inv X π σ H s->(∀b∈fp,oG X π H b)->tn i s.heap->J.go i H ->
  UO (UM P w) X.A (pyNext (.ref it)) (λr s1=>∃u,r=some u /\
   UO (UM P w) X.A (letOwnedTupleGo tg (.ref it) u) (λ_ s2=>∃x H',Inv X π σ H' s2/\bF x u/\J.yld i H x H'/\tn (i+1) s2.heap/\∀b∈fp,H' b=none) E s1) E s
 done:∀(X:Cx),X.prog=P->X.w=w->X.K=K->X.calm=true->∀(i:Nat) (π:List (Uw×Obj)) (s:UE) (σ:St) (H:Hp) (E:Us->UE->Prop),Inv X π σ H s->(∀b∈fp,oG X π H b)->tn i s.heap->J.stop i H ->
  UO (UM P w) X.A (pyNext (.ref it)) (λr s1=>r=none/\Inv X π σ H s1) E s
 self:∀(A:Vw) (i:Nat) (s:UE) (Q:Us->UE->Prop) (E:Us->UE->Prop),tn i s.heap->Q (.ref it) s->UO (UM P w) A (pyIter (.ref it)) Q E s
abbrev TI:=St->Hp->(It->Hp->Prop)->Prop
noncomputable def S0(X:Cx) (π:List (Uw×Obj)) (σ:St) (tg:Vk) (R:It->Hp->Prop) (itv:Us) (s2:UE):Prop :=
 ∃(it:Uw) (fp:List Uw) (tn:Nat->UR->Prop) (J:It) (H':Hp),itv=.ref it/\Inv X π σ H' s2/\Fu X.prog X.w X.K tg J fp it tn/\tn 0 s2.heap/\(∀b∈fp,oG X π H' b)/\R J H'
noncomputable def PI(X:Cx) (tg iter:Vk) (wi:TI):Prop :=
 ∀(π:List (Uw×Obj)) (s:UE) (σ:St) (H:Hp) (R:It->Hp->Prop),Inv X π σ H s->wi σ H R ->
  UO (UM X.prog X.w) X.A (eval iter X.env) (λv s1=>UO (UM X.prog X.w) X.A (pyIter v) (S0 X π σ tg R) X.xe s1) X.xe s
def Dd(ho:s.heap.get? it=some o)(hc:o.cls=.type n)(hd:o.data=.fields vs)
  (hn:["enumerate","zip","dict_itemiterator","dict_reverseitemiterator","odict_iterator","itertools.zip_longest","itertools.pairwise"].contains n=false)(hQ:Q () s):UO M A (letOwnedTupleGo tg (.ref it) u) Q E s:=by
 unfold letOwnedTupleGo;cases tg<;>first
  |exact UU hQ
  |(cases u<;>first
    |exact UU hQ
    |(refine Uu (wpAny_load ho ?_);rw[hc,hd];show UO M A (if(["enumerate","zip","dict_itemiterator","dict_reverseitemiterator","odict_iterator","itertools.zip_longest","itertools.pairwise"].contains n&&vs[0]?==some (rawInt _))=true then _ else _) Q E s;rw[if_neg (by intro h;rw[hn,WK] at h;cases h)];exact UU hQ))
noncomputable def Ru(K:Ut) (a:Uw):It :=
 ⟨λi H=>∃xs x,eX K H a xs/\xs[i]?=some x,λi H x H'=>H'=H/\∀xs,eX K H a xs->xs[i]?=some x,λi H=>∃xs,eX K H a xs/\xs.length<=i⟩
noncomputable def Ot(lo:Int) (n:Nat):It:=⟨λi _=>i<n,λi H x H'=>H'=H/\x=.int (lo+i),λi _=>n<=i⟩
def El{P:Vq}{w:VL}{K:Ut}{tg:Vk}(a it:Uw):Fu P w K tg (Ru K a) [it] it (λi h=>h.IsListIter it a i) where
 mem:=by simp
 obj:=λi h st b hb=>by
  have e:b=it:=by simpa using hb
  subst e;obtain⟨o,e,c,d⟩:=st;exact⟨o,e,λv z=>by rw[d] at z;cases z⟩
 keep:=λi h h' st k=>st.at λo e=>k it (by simp) o e
 item:=by
  intro X hP hw hK hc i π s σ H E I hf st hg;subst hP hw hK;obtain⟨xs,x,hq,hx⟩:=hg;obtain⟨its,rv,p,hz⟩:=I.list hq;obtain⟨u,hu,ru⟩:=rv.get hx;obtain⟨f0,f1,f2,f3,f4,f5⟩:=hf it (by simp);refine wpAny_pyNext_list_item st p.isList (x:=u) (by simpa using hu) λh' st' sb=>?_;have I1:Inv X π σ H { s with heap:=h' }:=I.turned (t':=s.toks) (λb o hb e=>(sb.2 b hb).trans e) f0 f1 f3 f4 f5;obtain⟨o,e,c,d⟩:=id st';exact⟨u,rfl,Dd (s:={ s with heap:=h' }) e c d (by decide) ⟨x,H,I1,ru,⟨rfl,λys hy=>by rw[I.list_inj hy hq];exact hx⟩,st',λb hb=>(hf b hb).1⟩⟩
 done:=by
  intro X hP hw hK hc i π s σ H E I hf st hg;subst hP hw hK;obtain⟨xs,hq,hx⟩:=hg;obtain⟨its,rv,p,hz⟩:=I.list hq;obtain⟨f0,f1,f2,f3,f4,f5⟩:=hf it (by simp);have hl:=rv.length;exact wpAny_pyNext_list_end (I.ok.hd hc) st p.isList (by simp;omega) λh' eb=>⟨rfl,I.turned (t':=s.toks) (λb o hb e=>eb b o hb e) f0 f1 f3 f4 f5⟩
 self:=λ_ _ _ _ _ st h=>wpAny_pyIter_listiter st h
def AV{P:Vq}{w:VL}{K:Ut}{tg:Vk}(it:Uw)(lo:Int)(n:Nat):Fu P w K tg (Ot lo n) [it] it (λi h=>IsRangeIter h it (lo+(i:Nat)*1) ((n:Int)-(i:Nat)) 1) where
 mem:=by simp
 obj:=λi h st b hb=>by
  have e:b=it:=by simpa using hb
  subst e;exact⟨_,st,λv z=>by
   have z':Data.fields _=Data.cell v:=z;cases z'⟩
 keep:=λi h h' st k=>k it (by simp) _ st
 item:=by
  intro X hP hw hK hc i π s σ H E I hf st hg;subst hP hw hK;obtain⟨f0,f1,f2,f3,f4,f5⟩:=hf it (by simp);have W:=Walks.range (prog:=X.prog) (w:=X.w) (I.ok.hd hc) it lo 1 n;refine W.item i s _ _ hg st λv h' tk hv st' kk=>?_;obtain⟨t,rfl⟩:=hv;have I1:Inv X π σ H { s with heap:=h',toks:=tk }:=I.turned (λb o hb e=>kk b o (by simpa using hb) e) f0 f1 f3 f4 f5;refine⟨_,rfl,Dd (s:={ s with heap:=h',toks:=tk }) (n:="range_iterator") st' rfl rfl (by decide) ⟨.int (lo+i),H,I1,⟨t,?_⟩,⟨rfl,rfl⟩,st',λb hb=>(hf b hb).1⟩⟩;rw[Int.mul_one]
 done:=by
  intro X hP hw hK hc i π s σ H E I hf st hg;subst hP hw hK;obtain⟨f0,f1,f2,f3,f4,f5⟩:=hf it (by simp);exact wpAny_pyNext_range_end (I.ok.hd hc) st (by have:n<=i:=hg;omega) λh' eb=>⟨rfl,I.turned (t':=s.toks) (λb o hb e=>eb b o hb e) f0 f1 f3 f4 f5⟩
 self:=λ_ _ _ _ _ st h=>wpAny_pyIter_rangeiter st h
section
variable {X:Cx}{tg:Vk}
noncomputable def Qx(K:Ut) (tl:TE):TI:=λσ H R=>tl σ H λx H1=>∃a,x=.ref a/\(∃xs,eX K H1 a xs)/\R (Ru K a) H1
def Cy(hl:PE X l tl):PI X tg l (Qx X.K tl):=by
 intro π s σ H R I h;refine cH (hl π s σ H _ I h) λv s1 ⟨x,H1,I1,r1,q1⟩=>?_;obtain⟨a,e,⟨xs,hq⟩,q⟩:=q1;subst e;cases r1;obtain⟨its,rv,p,hz⟩:=I1.list hq;refine wpAny_pyIter_list p.isList ?_;refine⟨s1.heap.objs.size,[s1.heap.objs.size],_,_,H1,rfl,I1.kept (t':=s1.toks) λb o e=>UC _ e,El a _,⟨_,Vy _ rfl,rfl,rfl⟩,λb hb=>?_,q⟩;have e:b=s1.heap.objs.size:=by simpa using hb
 subst e;exact I1.fpOk (UJ _) (I1.hok.fresh (UJ _))
def Gz{lo hi:Int}(I:Inv X π σ H s)(h1:-(2 ^ 62)<=lo)(h2:lo<2 ^ 62)(h3:-(2 ^ 62)<=hi)(h4:hi<2 ^ 62)
  (q:R (Ot lo (hi-lo).toNat) H):UO (UM X.prog X.w) X.A (pyIter (.ref s.heap.objs.size)) (S0 X π σ tg R) E { s with heap:=s.heap.push { cls:=.type "range",data:=.fields #[.int lo t,.int hi u,.int 1 v] },toks:=tk }:=by
 refine wpAny_pyIter_range (IsRange.new ..) (small_one h1 h2 h3 h4) ?_;have I1:Inv X π σ H { s with heap:=s.heap.push { cls:=.type "range",data:=.fields #[.int lo t,.int hi u,.int 1 v] },toks:=tk }:=I.kept λb o e=>UC _ e;refine⟨(s.heap.push { cls:=.type "range",data:=.fields #[.int lo t,.int hi u,.int 1 v] }).objs.size,[(s.heap.push { cls:=.type "range",data:=.fields #[.int lo t,.int hi u,.int 1 v] }).objs.size],_,_,H,rfl,
  I1.kept (t':=tk) λb o e=>UC _ e,AV _ lo (hi-lo).toNat,?_,λb hb=>?_,q⟩
 .have e1:lo+((0:Nat):Int)*1=lo:=by simp
  have e2:(((hi-lo).toNat:Nat):Int)-((0:Nat):Int)=Builtin.Range.rangeSize lo hi 1:=by rw[rangeSize_one];split<;>omega
  show IsRangeIter _ _ (lo+((0:Nat):Int)*1) ((((hi-lo).toNat:Nat):Int)-((0:Nat):Int)) 1;rw[e1,e2];exact Vy _ rfl
 .have e:b=(s.heap.push { cls:=.type "range",data:=.fields #[.int lo t,.int hi u,.int 1 v] }).objs.size:=by simpa using hb
  subst e;exact I1.fpOk (UJ _) (I1.hok.fresh (UJ _))
noncomputable def Qw(ta:TA):TI:=λσ H R=>ta σ H λvs H1=>∃j:Int,vs=[.int j]/\-(2 ^ 62)<=j/\j<2 ^ 62/\R (Ot 0 j.toNat) H1
def oZ(hg:Gl X "range")(hm:X.mg "range"=none)(ha:PA X [a] ta)(hs:Uy [a] X.env=[(false,eval a X.env)]:=by rfl):PI X tg (.Call (.Name "range" p) [a] [] pos) (Qw ta):=by
 intro π s σ H R I h;refine Call_ (sU I hg hm boot_range (Xl (cH (ha pos π s σ H _ I h) λus s1 z9=>?_) hs rfl));obtain⟨vs,H1,I1,r1,q1⟩:=z9;obtain⟨j,e,q1,q2,q⟩:=q1;subst e;cases r1 with
 |cons r rr =>
  cases rr;obtain⟨t,rfl⟩:=r;exact call_range_1 (Gz I1 (by omega) (by omega) q1 q2 (by simpa using q))
noncomputable def Sb(wi:TI) (g:TG) (tb:TS):TS:=λD σ H=>wi σ H λJ H1=>∃W:Nat->Nat->St->Hp->Prop,(∃m,W 0 m σ H1)/\∀i m σ H,W i m σ H ->
 (J.stop i H/\D.nx σ H)∨(J.go i H/\∃N:St->Hp->Prop,(∀σ' H',N σ' H'->∃m',m' < m/\W (i+1) m' σ' H')/\∀x H',J.yld i H x H'->g x σ H' λσ2 H2=>tb { D with nx:=N,ct:=N,bk:=D.nx } σ2 H2)
noncomputable def sE(fp:List Uw) (h:UR):List (Uw×Obj):=fp.filterMap λb=>(h.get? b).map λo=>(b,o)
def jT{h:UR}(hb:b∈fp)(e:h.get? b=some o):(b,o)∈sE fp h:=Yd.mpr ⟨b,hb,by rw[e];rfl⟩
def EH{h:UR}(hp:p∈sE fp h):p.1∈fp/\h.get? p.1=some p.2:=by
 obtain⟨b,hb,e⟩:=Yd.mp hp;cases q:h.get? b with
 |none=>rw[q] at e;cases e
 |some o =>
  rw[q] at e;have e':(b,o)=p:=U9 e;subst e';exact⟨hb,q⟩
def Inv.pinned(I:Inv X π σ H s)(hf:∀b∈fp,oG X π H b)(ho:∀b∈fp,∃o,s.heap.get? b=some o/\∀v,o.data≠.cell v):Inv X (π++sE fp s.heap) σ H s :=
 I.pins_of λp hp=>(Vl.mp hp).elim (λz=>I.pin p (VD _ z)) λz=>by
  obtain⟨hb,e⟩:=EH z;obtain⟨f0,f1,f2,_⟩:=hf p.1 hb;obtain⟨o,e',d⟩:=ho p.1 hb;rw[e] at e';cases e';exact⟨e,f0,f1,f2,d⟩
def Inv.unpinned(I:Inv X (π++pl) σ H s):Inv X π σ H s:=I.pins_of λp hp=>I.pin p (VD _ (Zk _ hp))
def xf(hp:PassesOwn (UM X.prog X.w) X.A X.env X.xe)(hc:X.calm=true)(hi:PI X tg iter wi)(hg:PG X tg g)(hb:wK X body tb)
  (hs:∀x,foldedSetIterable iter X.env x=pure x:=by intro _;rfl):PS X (.For tg iter body [] pos) (Sb wi g tb):=by
 intro π s σ H D I h;refine wpAny_For (cH (hi π s σ H _ I h) λv s1 h1=>cH h1 λitv s2 h2=>?_) hs;obtain⟨it,fp,tn,J,H2,e,I2,T,st2,f2,W,⟨m0,w0⟩,turn⟩:=h2;subst e;have stat:∀{H':Hp},(∀b∈fp,H' b=none)->∀b∈fp,oG X π H' b:=λhn b hb=>⟨hn b hb,(f2 b hb).2⟩
 refine codeAny_forLoop_any (λn s'=>∃i σ' H',Inv X π σ' H' s'/\tn i s'.heap/\(∀b∈fp,H' b=none)/\W i n σ' H') ?_ m0 ⟨0,σ,H2,I2,st2,λb hb=>(f2 b hb).1,w0⟩;rintro n s3 ⟨i,σ3,H3,I3,st3,fr3,w3⟩;rcases turn i n σ3 H3 w3 with⟨stop,qn⟩|⟨go,N,hN,step⟩
 .refine wpAny_passesOwn hp (cH (T.done X rfl rfl rfl hc i π s3 σ3 H3 X.xe I3 (stat fr3) st3 stop) λr s4 ⟨hr,I4⟩=>?_)
  subst hr;exact wpAny_execs_nil ⟨σ3,H3,I4,qn⟩
 .refine wpAny_passesOwn hp (cH (T.item X rfl rfl rfl hc i π s3 σ3 H3 X.xe I3 (stat fr3) st3 go) λr s4 ⟨u,hr,h4⟩=>?_)
  subst hr;refine wpAny_passesOwn hp (cH h4 λ_ s5 ⟨x,H5,I5,r5,y5,st5,fr5⟩=>?_);have I5':=I5.pinned (stat fr5) (T.obj _ _ st5);refine wpAny_passesOwn hp (cH (hg _ s5 σ3 H5 x u _ I5' r5 (step x H5 y5)) λ_ s6 ⟨σ6,H6,I6,q6⟩=>?_);refine wpAny_passesOwn hp (cH (hb _ s6 σ6 H6 _ I6 q6) λf s7 q7=>?_);have again:∀{σ7:St}{H7:Hp},Inv X (π++sE fp s5.heap) σ7 H7 s7->N σ7 H7->∃m,m<n/\∃i σ' H',Inv X π σ' H' s7/\tn i s7.heap/\(∀b∈fp,H' b=none)/\W i m σ' H':=λ{σ7 H7} I7 n7=>by
   obtain⟨m',hm,w7⟩:=hN σ7 H7 n7;refine⟨m',hm,i+1,σ7,H7,I7.unpinned,T.keep _ _ _ st5 λb hb o e=>(I7.pin (b,o) (VD _ (VD _ (jT hb e)))).1,λb hb=>?_,w7⟩;obtain⟨o,e,d⟩:=T.obj _ _ st5 b hb;exact(I7.pin (b,o) (VD _ (VD _ (jT hb e)))).2.1
  cases f with|next|cont=>obtain⟨σ7,H7,I7,n7⟩:=q7;exact again I7 n7|brk=>obtain⟨σ7,H7,I7,q7⟩:=q7;exact⟨σ7,H7,I7.unpinned,q7⟩|ret v=>obtain⟨x7,σ7,H7,I7,r7,q7⟩:=q7;exact⟨x7,σ7,H7,I7.unpinned,r7,q7⟩
end
def HC{K:Ut}{g:TG}{tb:TS}{D:jK}(Pv:Nat->St->Hp->Prop)(h0:Pv 0 σ H)(hl:∀i σ H,i<=xs.length->Pv i σ H->eX K H a xs)
  (hs:∀i x σ H,xs[i]?=some x->Pv i σ H->g x σ H λσ2 H2=>tb { D with nx:=Pv (i+1),ct:=Pv (i+1),bk:=D.nx } σ2 H2)(hd:∀σ H,Pv xs.length σ H->D.nx σ H) :
  ∃W:Nat->Nat->St->Hp->Prop,(∃m,W 0 m σ H)/\∀i m σ H,W i m σ H ->
   ((Ru K a).stop i H/\D.nx σ H)∨((Ru K a).go i H/\∃N:St->Hp->Prop,(∀σ' H',N σ' H'->∃m',m' < m/\W (i+1) m' σ' H')/\∀x H',(Ru K a).yld i H x H'->g x σ H' λσ2 H2=>tb { D with nx:=N,ct:=N,bk:=D.nx } σ2 H2):=by
 refine⟨λi m σ H=>m=xs.length-i/\i<=xs.length/\Pv i σ H,⟨xs.length,by simp,V6 _,h0⟩,?_⟩;rintro i m σ H ⟨rfl,hi,p⟩;have q:=hl i σ H hi p
 by_cases hlt:i<xs.length
 .refine .inr ⟨⟨xs,xs[i],q,by simp [hlt]⟩,Pv (i+1),λσ' H' p'=>⟨xs.length-(i+1),by omega,rfl,hlt,p'⟩,λx H' y=>?_⟩
  obtain⟨e,y⟩:=y;subst e;exact hs i x σ _ (y xs q) p
 .have e:i=xs.length:=by omega
  subst e;exact .inl ⟨⟨xs,q,UJ _⟩,hd σ H p⟩
def E1{lo:Int}{g:TG}{tb:TS}{D:jK}(Pv:Nat->St->Hp->Prop)(h0:Pv 0 σ H)
  (hs:∀i σ H,i<n->Pv i σ H->g (.int (lo+i)) σ H λσ2 H2=>tb { D with nx:=Pv (i+1),ct:=Pv (i+1),bk:=D.nx } σ2 H2)(hd:∀σ H,Pv n σ H->D.nx σ H) :
  ∃W:Nat->Nat->St->Hp->Prop,(∃m,W 0 m σ H)/\∀i m σ H,W i m σ H ->
   ((Ot lo n).stop i H/\D.nx σ H)∨((Ot lo n).go i H/\∃N:St->Hp->Prop,(∀σ' H',N σ' H'->∃m',m' < m/\W (i+1) m' σ' H')/\∀x H',(Ot lo n).yld i H x H'->g x σ H' λσ2 H2=>tb { D with nx:=N,ct:=N,bk:=D.nx } σ2 H2):=by
 refine⟨λi m σ H=>m=n-i/\i<=n/\Pv i σ H,⟨n,by simp,V6 _,h0⟩,?_⟩;rintro i m σ H ⟨rfl,hi,p⟩
 by_cases hlt:i<n
 .refine .inr ⟨hlt,Pv (i+1),λσ' H' p'=>⟨n-(i+1),by omega,rfl,hlt,p'⟩,λx H' y=>?_⟩
  obtain⟨e,y⟩:=y;subst e y;exact hs i σ _ hlt p
 .have e:i=n:=by omega
  subst e;exact .inl ⟨UJ _,hd σ H p⟩
abbrev R2:=V->V->Hp->VK->Prop
noncomputable def eQ(X:Cx) (f:Us->Us->Sem Us) (r:R2):Prop :=
 ∀(π:List (Uw×Obj)) (s:UE) (σ:St) (H:Hp) (x y:V) (v u:Us) (Q:VK),Inv X π σ H s->bF x v->bF y u->r x y H Q ->
  UO (UM X.prog X.w) X.A (f v u) (EP X π σ Q) X.xe s
noncomputable def RH(X:Cx) (f:Us->Sem Us) (r:V->Hp->VK->Prop):Prop :=
 ∀(π:List (Uw×Obj)) (s:UE) (σ:St) (H:Hp) (x:V) (v:Us) (Q:VK),Inv X π σ H s->bF x v->r x H Q ->
  UO (UM X.prog X.w) X.A (f v) (EP X π σ Q) X.xe s
noncomputable def gO(X:Cx) (f:Us) (r:List V->Hp->VK->Prop):Prop :=
 ∀(π:List (Uw×Obj)) (s:UE) (σ:St) (H:Hp) (xs:List V) (us:List Us) (Q:VK),Inv X π σ H s->bE xs us->r xs H Q ->
  UO (UM X.prog X.w) X.A (call f us) (EP X π σ Q) X.xe s
noncomputable def SW(X:Cx) (r:V->Hp->(Bool->Hp->Prop)->Prop):Prop :=
 ∀(π:List (Uw×Obj)) (s:UE) (σ:St) (H:Hp) (x:V) (v:Us) (Q:Bool->Hp->Prop),Inv X π σ H s->bF x v->r x H Q ->
  UO (UM X.prog X.w) X.A (truthy v) (TP X π σ Q) X.xe s
noncomputable def Oy(r:R2) (ta tb:TE):TE:=λσ H Q=>ta σ H λx H1=>tb σ H1 λy H2=>r x y H2 Q
def TU(r:V->Hp->VK->Prop)(ta:TE):TE:=λσ H Q=>ta σ H λx H1=>r x H1 Q
noncomputable def rI(C:Int->Int->Prop) (g:Int->Int->V):R2:=λx y H Q=>∃i j,x=.int i/\y=.int j/\C i j/\Q (g i j) H
def Jg(g:Int->Int->V):R2:=λx y H Q=>∃i j,x=.int i/\y=.int j/\Q (g i j) H
def rU(g:Int->V):V->Hp->VK->Prop:=λx H Q=>∃i,x=.int i/\Q (g i) H
section
variable {X:Cx}{a b c:Vk}{ta tb tc:TE}{pos:Pos}
def Oa(ha:PE X a ta)(hb:PE X b tb){R:V->V->Hp->Prop}(I:Inv X π σ H s)
  (h:ta σ H λx H1=>tb σ H1 λy H2=>R x y H2){f:Us->Us->Sem Us}
  (hf:∀v u s2 x y H2,Inv X π σ H2 s2->bF x v->bF y u->R x y H2->UO (UM X.prog X.w) X.A (f v u) Q X.xe s2) :
  UO (UM X.prog X.w) X.A (eval a X.env) (λv sg=>UO (UM X.prog X.w) X.A (eval b X.env) (λu si=>UO (UM X.prog X.w) X.A (f v u) Q X.xe si) X.xe sg) X.xe s:=by
 refine cH (ha π s σ H _ I h) λv s1 ⟨x,H1,I1,r1,q1⟩=>?_;refine cH (hb π s1 σ H1 _ I1 q1) λu s2 ⟨y,H2,I2,r2,q2⟩=>?_;exact hf v u s2 x y H2 I2 r1 r2 q2
def GW(ho:eQ X (binaryOp op) r)(ha:PE X a ta)(hb:PE X b tb):PE X (.BinOp a op b pos) (Oy r ta tb):=by
 intro π s σ H Q I h;exact wpAny_BinOp (Oa ha hb I h λv u s2 x y H2 I2 rx ry q=>ho π s2 σ H2 x y v u Q I2 rx ry q)
def LO(ho:RH X (unaryOp op) r)(ha:PE X a ta):PE X (.UnaryOp op a pos) (TU r ta):=by
 intro π s σ H Q I h;exact UnaryOp_ (cH (ha π s σ H _ I h) λv s1 ⟨x,H1,I1,r1,q1⟩=>ho π s1 σ H1 x v Q I1 r1 q1)
def RD{g:Int->Int->Int}
  (rule:∀(i j:Int) (t u:Tok) (s:UE) (Q:Us->UE->Prop) (E:Us->UE->Prop),C i j->Q (.int (g i j) s.toks) { s with toks:=s.toks+1 }->UO (UM X.prog X.w) X.A (f (.int i t) (.int j u)) Q E s) :
  eQ X f (rI C λi j=>.int (g i j)):=by
 intro π s σ H x y v u Q I rx ry h;obtain⟨i,j,rfl,rfl,hc,q⟩:=h;obtain⟨t,rfl⟩:=rx;obtain⟨t',rfl⟩:=ry;exact rule i j t t' s _ _ hc ⟨.int (g i j),H,I.tok _,⟨_,rfl⟩,q⟩
def P6{g:Int->Int->Int}
  (rule:∀(i j:Int) (t u:Tok) (s:UE) (Q:Us->UE->Prop) (E:Us->UE->Prop),Q (.int (g i j) s.toks) { s with toks:=s.toks+1 }->UO (UM X.prog X.w) X.A (f (.int i t) (.int j u)) Q E s) :
  eQ X f (Jg λi j=>.int (g i j)):=by
 intro π s σ H x y v u Q I rx ry h;obtain⟨i,j,rfl,rfl,q⟩:=h;obtain⟨t,rfl⟩:=rx;obtain⟨t',rfl⟩:=ry;exact rule i j t t' s _ _ ⟨.int (g i j),H,I.tok _,⟨_,rfl⟩,q⟩
def Km{g:Int->Int->Bool}
  (rule:∀(i j:Int) (t u:Tok) (s:UE) (Q:Us->UE->Prop) (E:Us->UE->Prop),Q (.bool (g i j)) s->UO (UM X.prog X.w) X.A (f (.int i t) (.int j u)) Q E s) :
  eQ X f (Jg λi j=>.bl (g i j)):=by
 intro π s σ H x y v u Q I rx ry h;obtain⟨i,j,rfl,rfl,q⟩:=h;obtain⟨t,rfl⟩:=rx;obtain⟨t',rfl⟩:=ry;exact rule i j t t' s _ _ ⟨.bl (g i j),H,I,rfl,q⟩
def Tb(i j:Int):Prop:=0<=j/\j<=1000000/\i.natAbs<2 ^ 64
def Rx(i j:Int):Prop:=(-(2 ^ 64)<i/\i<2 ^ 64)∨(-(2 ^ 64)<j/\j<2 ^ 64)
def Rx.ok(h:Rx i j):IntMulOk i j:=by
 rcases h with⟨h1,h2⟩|⟨h1,h2⟩
 .exact .of_left (intBits_le_64 h1 h2)
 .exact .of_right (intBits_le_64 h1 h2)
def G3:eQ X (binaryOp .Add) (Jg λi j=>.int (i+j)):=P6 λ_ _ _ _ _ _ _ q=>add_int q
def Na:eQ X (binaryOp .Sub) (Jg λi j=>.int (i-j)):=P6 λ_ _ _ _ _ _ _ q=>sub_int q
def CG:eQ X (binaryOp .Mod) (rI (λ_ j=>j≠0) λi j=>.int (i.fmod j)):=RD λ_ _ _ _ _ _ _ hc q=>mod_int' hc q
def Nc:eQ X (binaryOp .Pow) (rI Tb λi j=>.int (i ^ j.toNat)):=RD λ_ _ _ _ _ _ _ hc q=>pow_int_small hc.1 hc.2.1 hc.2.2 q
def TN{g:Int->Int}
  (rule:∀(i:Int) (t:Tok) (s:UE) (Q:Us->UE->Prop) (E:Us->UE->Prop),Q (.int (g i) s.toks) { s with toks:=s.toks+1 }->UO (UM X.prog X.w) X.A (f (.int i t)) Q E s) :
  RH X f (rU λi=>.int (g i)):=by
 intro π s σ H x v Q I rx h;obtain⟨i,rfl,q⟩:=h;obtain⟨t,rfl⟩:=rx;exact rule i t s _ _ ⟨.int (g i),H,I.tok _,⟨_,rfl⟩,q⟩
def FY:RH X (unaryOp .USub) (rU λi=>.int (-i)):=TN λ_ _ _ _ _ q=>neg_int q
end
section
variable {X:Cx}{a b c:Vk}{ta tb tc:TE}{pos:Pos}
def BB{k k':Bool}(I:Inv X π σ H s)(q:Q (.bl k) H)(e:k=k'):EP X π σ Q (.bool k') s:=by
 subst e;exact⟨.bl k,H,I,rfl,q⟩
def zl:eQ X (Vj .Lt) (Jg λi j=>.bl (decide (i<j))):=Km λ_ _ _ _ _ _ _ q=>lt_int q
def vS:eQ X (Vj .LtE) (Jg λi j=>.bl (decide (i<=j))):=Km λ_ _ _ _ _ _ _ q=>le_int q
def zm:eQ X (Vj .Gt) (Jg λi j=>.bl (decide (j<i))):=Km λ_ _ _ _ _ _ _ q=>gt_int q
def G1:eQ X (Vj .GtE) (Jg λi j=>.bl (decide (j<=i))):=Km λ_ _ _ _ _ _ _ q=>ge_int q
def ED:eQ X (Vj .In) (λx y H Q=>∃i j,x=.str i/\y=.str j/\Q (.bl (!(Wt j i 0 j.length 1).isEmpty)) H):=by
 intro π s σ H x y v u Q I rx ry h;obtain⟨i,j,rfl,rfl,q⟩:=h;obtain⟨t,rfl⟩:=rx;obtain⟨t',rfl⟩:=ry;exact in_str (BB I q rfl)
def ik:eQ X (Vj .Is) (λx y H Q=>y=.non/\Q (.bl (decide (x=.non))) H):=by
 intro π s σ H x y v u Q I rx ry h;obtain⟨rfl,q⟩:=h;cases ry;refine is_none_gen (BB I q ?_);cases x<;>first
  |(cases rx;rfl)
  |(obtain⟨t,rfl⟩:=rx;rfl)
def lI:eQ X (Vj .IsNot) (λx y H Q=>y=.non/\Q (.bl (!decide (x=.non))) H):=by
 intro π s σ H x y v u Q I rx ry h;obtain⟨rfl,q⟩:=h;cases ry;refine isnot_none_gen (BB I q ?_);cases x<;>first
  |(cases rx;rfl)
  |(obtain⟨t,rfl⟩:=rx;rfl)
def eQ.or(h:eQ X f r)(h':eQ X f r'):eQ X f (λx y H Q=>r x y H Q∨r' x y H Q):=by
 intro π s σ H x y v u Q I rx ry q;rcases q with q|q
 .exact h π s σ H x y v u Q I rx ry q
 .exact h' π s σ H x y v u Q I rx ry q
def CA(ho:eQ X (Vj op) r)(ha:PE X a ta)(hb:PE X b tb)(hm:behindInMarks op b=false):PE X (.Compare a [op] [b] pos) (Oy r ta tb):=by
 intro π s σ H Q I h;exact wpAny_Compare1 (Oa ha hb I h λv u s2 x y H2 I2 rx ry q=>ho π s2 σ H2 x y v u Q I2 rx ry q) hm
def LF(t:TE):TT:=λσ H Q=>t σ H λx H'=>∃k,x=.bl k/\Q k H'
def Cu(ho:eQ X (Vj op) r)(ha:PE X a ta)(hb:PE X b tb)(hm:behindInMarks op b=false):PT X (.Compare a [op] [b] pos) (LF (Oy r ta tb)):=by
 intro π s σ H Q I h;refine wpAny_isTrue_Compare1 (cH (ha π s σ H _ I h) λv s1 ⟨x,H1,I1,r1,q1⟩=>cH (hb π s1 σ H1 _ I1 q1) λu s2 ⟨y,H2,I2,r2,q2⟩ =>
  cH (ho π s2 σ H2 x y v u _ I2 r1 r2 q2) λc s3 ⟨z,H3,I3,r3,k,e,q3⟩=>?_) hm
 subst e;cases r3;exact VJ ⟨H3,I3,q3⟩
noncomputable def AY(r r':R2) (ta tb tc:TE):TE:=λσ H Q=>ta σ H λx H1=>tb σ H1 λy H2=>r x y H2 λz H3=>∃k,z=.bl k /\
 (if k=true then tc σ H3 λw' H4=>r' y w' H4 Q else Q (.bl false) H3)
def GZ(ho:eQ X (Vj op) r)(ho':eQ X (Vj op') r')(ha:PE X a ta)(hb:PE X b tb)(hc:PE X c tc)
  (hm:lastMarks [op,op'] [b,c]=false:=by with_unfolding_all rfl):PE X (.Compare a [op,op'] [b,c] pos) (AY r r' ta tb tc):=by
 intro π s σ H Q I h;refine Compare_chain (cH (ha π s σ H _ I h) λv s1 ⟨x,H1,I1,r1,q1⟩=>chain_link (cH (hb π s1 σ H1 _ I1 q1) λu s2 ⟨y,H2,I2,r2,q2⟩ =>
  cH (ho π s2 σ H2 x y v u _ I2 r1 r2 q2) λd s3 ⟨z,H3,I3,r3,k,e,q3⟩=>?_)) hm
 subst e;cases r3;refine VJ ?_;cases k with|false=>exact ite_ff ⟨.bl false,H3,I3,rfl,q3⟩|true=>exact ite_tt (chain_last (cH (hc π s3 σ H3 _ I3 q3) λw' s4 ⟨z',H4,I4,r4,q4⟩=>ho' π s4 σ H4 y z' u w' Q I4 r2 r4 q4))
def GN(ho:eQ X (Vj op) r)(ho':eQ X (Vj op') r')(ha:PE X a ta)(hb:PE X b tb)(hc:PE X c tc)
  (hm:lastMarks [op,op'] [b,c]=false:=by with_unfolding_all rfl):PT X (.Compare a [op,op'] [b,c] pos) (LF (AY r r' ta tb tc)):=by
 intro π s σ H Q I h;refine isTrue_chain (cH (ha π s σ H _ I h) λv s1 ⟨x,H1,I1,r1,q1⟩=>test_link (cH (hb π s1 σ H1 _ I1 q1) λu s2 ⟨y,H2,I2,r2,q2⟩ =>
  cH (ho π s2 σ H2 x y v u _ I2 r1 r2 q2) λd s3 ⟨z,H3,I3,r3,k,e,q3⟩=>?_)) hm
 subst e;cases r3;refine VJ ?_;cases k with
 |false =>
  obtain⟨k',e',q'⟩:=q3;cases e';exact ite_ff ⟨H3,I3,q'⟩
 |true =>
  refine ite_tt (test_last (cH (hc π s3 σ H3 _ I3 q3) λw' s4 ⟨z',H4,I4,r4,q4⟩=>cH (ho' π s4 σ H4 y z' u w' _ I4 r2 r4 q4) λd' s5 z9=>?_));obtain⟨z2,H5,I5,r5,k2,e2,q5⟩:=z9;subst e2;cases r5;exact VJ ⟨H5,I5,q5⟩
noncomputable def SV(K:Ut) (x:V) (H:Hp) (k:Bool):Prop :=
 match x with
 |.non=>k=false
 |.bl b=>k=b
 |.int i=>k=(i != 0)
 |.str y=>y.length<=sizeLine/\k=((y.length:Int) != 0)
 |.byt y=>y.size<=sizeLine/\k=((y.size:Int) != 0)
 |.ref p=>(∃xs,eX K H p xs/\k=!xs.isEmpty)∨(∃xs,kn K H p xs/\k=!xs.isEmpty)∨∃kvs,H p=some (.dK kvs)/\k=!kvs.isEmpty
 |_=>False
def Bw{vs:List (κ×Us)}(r:KV kvs vs):(!vs.isEmpty)=!kvs.isEmpty:=by
 cases r<;>rfl
def tq(r:bE xs its):(!its.toArray.isEmpty)=!xs.isEmpty:=by
 cases r<;>simp
def pb:(sizeLine:Nat)<2 ^ 63:=by rw[sizeLine_eq];decide
def RO:SW X (λx H Q=>∃k,SV X.K x H k/\Q k H):=by
 intro π s σ H x v Q I rx h;obtain⟨k,e,q⟩:=h;have hl:=pb;have hs:sizeLine=16777216:=sizeLine_eq;cases x with
 |non =>
  cases rx;have e':k=false:=e;subst e';exact truthy_none ⟨H,I,q⟩
 |bl b =>
  cases rx;have e':k=b:=e;subst e';exact VJ ⟨H,I,q⟩
 |int i =>
  obtain⟨t,rfl⟩:=rx;have e':k=(i != 0):=e;subst e';exact PySem.P.truthy_int ⟨H,I,q⟩
 |str y =>
  obtain⟨t,rfl⟩:=rx;obtain⟨hy,e'⟩:y.length<=sizeLine/\k=((y.length:Int) != 0):=e;subst e';exact PySem.P.truthy_str (by omega) ⟨H,I.tok _,q⟩
 |byt y =>
  obtain⟨t,rfl⟩:=rx;obtain⟨hy,e'⟩:y.size<=sizeLine/\k=((y.size:Int) != 0):=e;subst e';exact W.truthy_bytes (by omega) ⟨H,I.tok _,q⟩
 |ref p =>
  cases rx;have e':(∃xs,eX X.K H p xs/\k=!xs.isEmpty)∨(∃xs,kn X.K H p xs/\k=!xs.isEmpty)∨∃kvs,H p=some (.dK kvs)/\k=!kvs.isEmpty:=e;rcases e' with⟨xs,hx,e'⟩|⟨xs,hx,e'⟩|⟨kvs,hx,e'⟩
  .subst e'
   obtain⟨its,r,pl,hz⟩:=I.list hx;have hlen:=r.length;exact wpAny_truthy_list pl.isList (by simp only[UP];omega) ⟨H,I.tok _,by rw[tq r];exact q⟩
  .subst e'
   obtain⟨its,r,pl,hz⟩:=I.tuple hx;have hlen:=r.length;exact truthy_tuple pl (by simp only[UP];omega) ⟨H,I.tok _,by rw[tq r];exact q⟩
  .subst e'
   obtain⟨hz,hS,vs,r,m⟩:kvs.length<=sizeLine/\(p==VR)=false/\∃vs,KV kvs vs/\s.heap.DictOf (df X.prog X.w) p vs:=I.hok p _ hx;have hlen:kvs.length=vs.length:=X7 r;exact wpAny_truthy_dict hS m (by omega) ⟨H,I.tok _,by rw[Bw r];exact q⟩
 |_=>exact(show False from e).elim
def sG:eQ X (binaryOp .Add) (λx y H Q=>∃i j,x=.str i/\y=.str j/\i.length+j.length<=sizeLine/\Q (.str (i++j)) H):=by
 intro π s σ H x y v u Q I rx ry h;obtain⟨i,j,rfl,rfl,hz,q⟩:=h;obtain⟨t,rfl⟩:=rx;obtain⟨t',rfl⟩:=ry;exact add_str (λt' tk=>⟨.str (i++j),H,I.tok _,⟨_,rfl⟩,q⟩) hz
def mR(r:bE [x] us):∃u,us=[u]/\bF x u:=by
 cases r with|cons r1 r2=>cases r2;exact⟨_,rfl,r1⟩
def LA(r:bE [x,y] us):∃u w',us=[u,w']/\bF x u/\bF y w':=by
 cases r with
 |cons r1 r2 =>
  cases r2 with|cons r3 r4=>cases r4;exact⟨_,_,rfl,r1,r3⟩
def u7:gO X (.builtin "abs") (λxs H Q=>∃i,xs=[.int i]/\Q (.int (if i<0 then -i else i)) H):=by
 intro π s σ H xs us Q I r h;obtain⟨i,rfl,q⟩:=h;obtain⟨u,rfl,t,rfl⟩:=mR r;exact call_abs_int λu tk=>⟨.int (if i<0 then -i else i),H,I.tok _,⟨_,rfl⟩,q⟩
def Fj(hc:X.calm=true):gO X (.builtin "max") (λxs H Q=>∃i j,xs=[.int i,.int j]/\Q (.int (if j > i then j else i)) H):=by
 intro π s σ H xs us Q I r h;obtain⟨i,j,rfl,q⟩:=h;obtain⟨u,w',rfl,⟨t,rfl⟩,⟨t',rfl⟩⟩:=LA r;refine max_two_ints (I.ok.hd hc) λh' tk k=>⟨_,H,I.kept k,?_,q⟩
 by_cases hj:j > i
 .rw[if_pos hj,if_pos hj];exact⟨_,rfl⟩
 .rw[if_neg hj,if_neg hj];exact⟨_,rfl⟩
def Fi(hc:X.calm=true):gO X (.builtin "min") (λxs H Q=>∃i j,xs=[.int i,.int j]/\Q (.int (if j<i then j else i)) H):=by
 intro π s σ H xs us Q I r h;obtain⟨i,j,rfl,q⟩:=h;obtain⟨u,w',rfl,⟨t,rfl⟩,⟨t',rfl⟩⟩:=LA r;refine min_two_ints (I.ok.hd hc) λh' tk k=>⟨_,H,I.kept k,?_,q⟩
 by_cases hj:j<i
 .rw[if_pos hj,if_pos hj];exact⟨_,rfl⟩
 .rw[if_neg hj,if_neg hj];exact⟨_,rfl⟩
def wy:gO X (.type "int") (λxs H Q=>(∃i,xs=[.int i]/\Q (.int i) H)∨∃k,xs=[.bl k]/\Q (.int (if k then 1 else 0)) H):=by
 intro π s σ H xs us Q I r h;rcases h with⟨i,rfl,q⟩|⟨k,rfl,q⟩
 .obtain⟨u,rfl,t,rfl⟩:=mR r
  exact call_int_int ⟨.int i,H,I,⟨_,rfl⟩,q⟩
 .obtain⟨u,rfl,r1⟩:=mR r
  cases r1;exact call_int_bool ⟨.int (if k then 1 else 0),H,I.tok _,⟨_,rfl⟩,q⟩
noncomputable def Oq(K:Ut) (x:V) (H:Hp) (n:Nat):Prop :=
 match x with
 |.str y=>y.length<=sizeLine/\n=y.length
 |.byt y=>y.size<=sizeLine/\n=y.size
 |.ref p=>(∃xs,eX K H p xs/\n=xs.length)∨∃xs,kn K H p xs/\n=xs.length
 |_=>False
def bR:gO X (.builtin "len") (λxs H Q=>∃x n,xs=[x]/\Oq X.K x H n/\Q (.int n) H):=by
 intro π s σ H xs us Q I r h;obtain⟨x,n,rfl,e,q⟩:=h;obtain⟨u,rfl,rx⟩:=mR r;have hl:=pb;have hs:sizeLine=16777216:=sizeLine_eq;cases x with
 |str y =>
  obtain⟨t,rfl⟩:=rx;obtain⟨hy,e'⟩:y.length<=sizeLine/\n=y.length:=e;subst e';exact len_str (by omega) ⟨.int _,H,I.tok _,⟨_,rfl⟩,q⟩
 |byt y =>
  obtain⟨t,rfl⟩:=rx;obtain⟨hy,e'⟩:y.size<=sizeLine/\n=y.size:=e;subst e';exact W.len_bytes (by omega) ⟨.int _,H,I.tok _,⟨_,rfl⟩,q⟩
 |ref p =>
  cases rx;have e':(∃xs,eX X.K H p xs/\n=xs.length)∨∃xs,kn X.K H p xs/\n=xs.length:=e;rcases e' with⟨xs,hx,e'⟩|⟨xs,hx,e'⟩
  .subst e'
   obtain⟨its,r',pl,hz⟩:=I.list hx;have hlen:=r'.length;exact Calls.call_len_list pl.isList (by simp only[UP];omega) ⟨.int xs.length,H,I.tok _,⟨_,by simp only[UP];rw[hlen]⟩,q⟩
  .subst e'
   obtain⟨its,r',pl,hz⟩:=I.tuple hx;have hlen:=r'.length;exact len_tuple pl (by simp only[UP];omega) ⟨.int xs.length,H,I.tok _,⟨_,by simp only[UP];rw[hlen]⟩,q⟩
 |_=>exact(show False from e).elim
end
structure Oj (h:UR) (x dx C:Uw) (mA:US->Option Us):Prop where
 obj:h.get? x=some (W.instObj C dx)
 ns:h.Ns1 dx mA
 ne:dx≠x
def o9{h:UR}{mA:US->Option Us}(n:h.Ns1 dx mA):∃od,h.get? dx=some od/\∀name,Zd name od=some (mA name):=by
 obtain⟨o,es,ep,ho,hd,hk,_,hm⟩:=n;refine⟨o,ho,λname=>?_⟩;have e:=hm name;unfold nsFind findBy at e;rw[←Array.find?_toList] at e;unfold Zd;rw[hd];dsimp only;split
 .rename_i y q
  rw[q] at e;exact congrArg some e
 .rename_i q
  rw[q] at e;have a:es.toList.any (·.refKey)=false:=by
   rw[List.any_eq_false];intro y hy;obtain⟨z,t,hkey⟩:=hk y (Zn.mp hy);simp [DictEntry.refKey,hkey]
  have a':¬es.toList.any (·.refKey)=true:=by rw[a];exact VC
  rw[if_neg a'];exact congrArg some e
def Oj.look{h:UR}{mA:US->Option Us}(I:Oj h x dx C mA):∃od,YD h x (W.instObj C dx) C (some od)/\∀name,Zd name od=some (mA name) :=
 let ⟨od,ho,hl⟩:=o9 I.ns
 ⟨od,⟨I.obj,rfl,rfl,ho⟩,hl⟩
noncomputable def ko(f:US) (v:V):List (US×V)->List (US×V)
 |[]=>[(f,v)]
 |(g,x)::r=>if g=f then(g,v)::r else(g,x)::ko f v r
theorem pR(f g:US)(v:V):∀fs:List (US×V),(ko f v fs).lookup g=if g=f then some v else fs.lookup g
 |[]=>by
  show Xh g [(f,v)]=_
  by_cases h:g=f
  .have hb:(g==f)=true:=beq_iff_eq.mpr h
   simp only[Xh,hb,if_pos h]
  .have hb:(g==f)=false:=beq_eq_false_iff_ne.mpr h
   simp only[Xh,hb,if_neg h]
 |(k,x)::r=>by
  have ih:=pR f g v r;rw[show ko f v ((k,x)::r)=(if k=f then(k,v)::r else(k,x)::ko f v r) from rfl]
  by_cases hk:k=f
  .rw[if_pos hk]
   by_cases h:g=k
   .have hb:(g==k)=true:=beq_iff_eq.mpr h
    simp only[Xh,hb,if_pos (h.trans hk)]
   .have hb:(g==k)=false:=beq_eq_false_iff_ne.mpr h
    simp only[Xh,hb,if_neg (λe:g=f=>h (e.trans hk.symm))]
  .rw[if_neg hk]
   by_cases h:g=k
   .have hb:(g==k)=true:=beq_iff_eq.mpr h
    simp only[Xh,hb,if_neg (λe:g=f=>hk (h.symm.trans e))]
   .have hb:(g==k)=false:=beq_eq_false_iff_ne.mpr h
    simp only[Xh,hb];exact ih
theorem pd(f:US)(v:V):∀fs:List (US×V),f∈(ko f v fs).map (·.1)/\∀g,g∈fs.map (·.1)->g∈(ko f v fs).map (·.1)
 |[]=>⟨by simp [ko],λg h=>by simp at h⟩
 |(k,x)::r=>by
  obtain⟨i1,i2⟩:=pd f v r;rw[show ko f v ((k,x)::r)=(if k=f then(k,v)::r else(k,x)::ko f v r) from rfl]
  by_cases hk:k=f
  .rw[if_pos hk]
   subst hk;exact⟨by simp,λg h=>by simpa using h⟩
  .rw[if_neg hk]
   refine⟨?_,λg h=>?_⟩
   .rw[UW]
    exact UH _ i1
   .rw[UW] at h ⊢
    rcases UG.mp h with e|e
    .exact UG.mpr (.inl e)
    .exact UH _ (i2 g e)
def kh(r:vE (some v) o):∃u,o=some u/\bF v u:=by
 cases o with|none=>exact(show False from r).elim|some u=>exact⟨u,rfl,r⟩
def EW(r:bF v u):W.handedIn u=true:=by
 cases v with|non=>cases (show u=VS from r);rfl|bl b=>cases (show u=VT b from r);rfl|int i=>obtain⟨t,e⟩:=(show ∃t,u=Wa i t from r);cases e;rfl|str x=>obtain⟨t,e⟩:=(show ∃t,u=V9 x t from r);cases e;rfl|byt b=>obtain⟨t,e⟩:=(show ∃t,u=Value.bytes b t from r);cases e;rfl|flt b=>obtain⟨t,e⟩:=(show ∃t,u=Zf b t from r);cases e;rfl|ref a=>cases (show u=U8 a from r);rfl|ty n=>cases (show u=Value.type n from r);rfl
section
variable {P:Vq}{w:VL}{H H':Hp}{h h':UR}{a C dx:Uw}{fs fs':List (US×V)}
def C8(hok:gG P w H h)(e:H a=some (.ins C dx fs)):∃mA,Oj h a dx C mA/\(∀f,vE (fs.lookup f) (mA f))/\WM mA (fs.map (·.1))/\fs.length<=1000/\H dx=some (.own a):=by
 obtain⟨d,z,ne,ob,mA,n,r,q⟩:=(show bT P w H h a (.ins C dx fs) from hok a _ e)
 exact⟨mA,⟨ob,n,ne⟩,r,q,z,d⟩
end
structure RK (K:Ut) (C:Uw):Prop where
 pg:W.plainGet K C Str.empty=true
 hd:WG K C=true
 po:W.plainOver K C=true
 sa:Wq K (.ref C) "__setattr__"=some (some (.builtin "object.__setattr__"))
def RK.get{K:Ut}(c:RK K C)(f:US):W.plainGet K C f=true:=c.pg
noncomputable def jl(K:Ut) (C:Uw) (f:US):Prop:=Wq K (.ref C) f=some none
section
variable {X:Cx}{π:List (Uw×Obj)}{σ:St}{H:Hp}{s:UE}{a C dx:Uw}{fs:List (US×V)}{f:US}{v:V}{A:Vw}{E:Us->UE->Prop}
def Ln(hb:WU e f env (eval e env)=eval e env)
  (h:UO (UM prog w) A (eval e env) (λo sg=>UO (UM prog w) A (getAttr o f true) Q E sg) E s):UO (UM prog w) A (eval (.Attribute e f pos) env) Q E s :=
 Attribute_any_ h (by rw[arm_eval_Attribute,hb])
end
section
variable {X:Cx}{π:List (Uw×Obj)}{σ:St}{H:Hp}{s:UE}{A:Vw}{E:Us->UE->Prop}{Q:Us->UE->Prop}{c:Us}{b:Bool}
inductive qI (K:Ut) (H:Hp):V->Us->Prop where
 |non:qI K H .non (.type "NoneType")
 |bl (x:Bool):qI K H (.bl x) (.type "bool")
 |int (i:Int):qI K H (.int i) (.type "int")
 |str (x:US):qI K H (.str x) (.type "str")
 |flt (x:UInt64):qI K H (.flt x) (.type "float")
 |lst {a:Uw}{xs:List V}(e:H a=some (.lst xs)):qI K H (.ref a) (.type "list")
 |frz {a:Uw}{o:Obj}{xs:List V}(e:H a=some (.frz o (.lst xs))):qI K H (.ref a) (.type "list")
 |tup {a:Uw}{xs:List V}(e:H a=some (.tup xs)):qI K H (.ref a) (.type "tuple")
 |dK {a:Uw}{kvs:List (fY×V)}(e:H a=some (.dK kvs)):qI K H (.ref a) (.type "dict")
 |dT {a:Uw}{kvs:List (List fY×V)}(e:H a=some (.dT kvs)):qI K H (.ref a) (.type "dict")
 |ins {a C dx:Uw}{fs:List (US×V)}(e:H a=some (.ins C dx fs)) (cl:RK K C) (ha:Wq K (.ref C) "__class__"=some (some (.builtin "object.__class__")))
   (hn:Yu K (.builtin "object.__class__") "__get__"=some (some (.builtin "getset_descriptor.__get__"))) (htk:W.takesIn K (.builtin "object.__class__")=some true)
   (hm:W.mroIn K C (.type "object")=some true):qI K H (.ref a) (.ref C)
def lK(I:Inv X π σ H s)(rx:bF x u)(ty:qI X.K H x t)(e:XA X.K t c=some b)(h:∀tk,Q (.bool b) { s with toks:=tk }) :
  UO (UM X.prog X.w) A (call (.builtin "isinstance") [u,c]) Q E s:=by
 cases ty with
 |non=>cases (show u=VS from rx);exact VU W.kitx_none I.kIn Wb e (λz=>nomatch z) h|bl y=>cases (show u=VT y from rx);exact VU W.kitx_bool I.kIn Wb e (λz=>nomatch z) h|int i=>obtain⟨t,q⟩:=(show ∃t,u=Wa i t from rx);cases q;exact VU W.kitx_int I.kIn Wb e (λz=>nomatch z) h|str y=>obtain⟨t,q⟩:=(show ∃t,u=V9 y t from rx);cases q;exact VU W.kitx_str I.kIn Wb e (λz=>nomatch z) h|flt y=>obtain⟨t,q⟩:=(show ∃t,u=Zf y t from rx);cases q;exact VU W.kitx_float I.kIn Wb e (λz=>nomatch z) h
 |@lst a xs ea =>
  cases (show u=U8 a from rx);obtain⟨_,_,n,_,h1⟩:=(show bT X.prog X.w H s.heap a (.lst xs) from I.hok a _ ea)
  exact VU Ze I.kIn ⟨_,h1,rfl⟩ e (λz=>nomatch z) h
 |@frz a ob xs ea =>
  cases (show u=U8 a from rx);obtain⟨_,_,_,n,_,h1⟩:=(show bT X.prog X.w H s.heap a (.frz ob (.lst xs)) from I.hok a _ ea)
  exact VU Ze I.kIn ⟨_,h1,rfl⟩ e (λz=>nomatch z) h
 |@tup a xs ea =>
  cases (show u=U8 a from rx);obtain⟨_,_,_,p⟩:=(show bT X.prog X.w H s.heap a (.tup xs) from I.hok a _ ea)
  obtain⟨o,h1,h2,_⟩:=p;exact VU W.kitx_tuple I.kIn ⟨o,h1,h2⟩ e (λz=>nomatch z) h
 |@dK a kvs ea =>
  cases (show u=U8 a from rx);obtain⟨_,_,vs,_,p⟩:=(show bT X.prog X.w H s.heap a (.dK kvs) from I.hok a _ ea)
  obtain⟨o,es,ep,h1,h2,_⟩:=p;exact VU Yv I.kIn ⟨o,h1,h2.1⟩ e (λz=>nomatch z) h
 |@dT a kvs ea =>
  cases (show u=U8 a from rx);obtain⟨_,_,xs,_,o,es,ep,h1,h2,_⟩:=(show bT X.prog X.w H s.heap a (.dT kvs) from I.hok a _ ea)
  exact VU Yv I.kIn ⟨o,h1,h2.1⟩ e (λz=>nomatch z) h
 |@ins a C dx fs ea cl ha hn htk hm =>
  cases (show u=U8 a from rx);obtain⟨mA,O,_⟩:=C8 I.hok ea;obtain⟨od,J,_⟩:=O.look;exact VU (W.kitx_own (cl.get _) cl.hd ha hn htk hm) I.kIn J e (λz=>nomatch z) h
end
structure cW (k:Nat) (A:Vw):Prop where
 hd:A.handled=none
 dp:A.depth+3*k+5<recursionLimit
 un:A.units+16*k+200<Wm
 gd:A.guards=some []
def cW.mono{j k:Nat}(r:cW k A)(h:j<=k):cW j A:=⟨r.hd,by have:=r.dp;omega,by have:=r.un;omega,r.gd⟩
def cW.deeper{k:Nat}(r:cW (k+1) A)(env:Env):cW k (A.deeper env) :=
 ⟨r.hd,by have:=r.dp;show A.depth+1+3*k+5<_;omega,by have:=r.un;show A.units+3+16*k+200<_;omega,r.gd⟩
def Bm{A:Vw}:(A.under (.builtin "type.__call__" ⟨.ref C::us,kw⟩)).depth=A.depth+1:=by
 first|rfl|simp [Yq,Code.weight,Code.isCreation,Code.isGuard,Code.isCaller,Code.frames,Y5,guardIds]
def Bl{A:Vw}:(A.under (.builtin "type.__call__" ⟨.ref C::us,kw⟩)).units=A.units+1:=by
 first|rfl|simp [Yq,Code.cUnits,Code.frames,Y5]
def cW.make{k:Nat}(r:cW (k+1) A)(C:Uw)(us:List Us)(kw:List (US×Us)):cW k (A.under (.builtin "type.__call__" ⟨.ref C::us,kw⟩)) :=
 ⟨r.hd,by have:=r.dp;rw[Bm];omega,by have:=r.un;rw[Bl];omega,by have:=r.gd;simp [Yq,Code.guards,Code.isGuard,guardIds,pushGuards,this]⟩
def cW.depth{k:Nat}(r:cW k A):A.depth<recursionLimit:=by have:=r.dp;omega
def cW.units{k:Nat}(r:cW k A):A.units+64<Wm:=by have:=r.un;omega
def R6:TA:=λ_ H Q=>Q [] H
noncomputable def Pe(ta:TE) (tr:TA):TA:=λσ H Q=>ta σ H λx H1=>tr σ H1 λxs H2=>Q (x::xs) H2
section
variable {X:Cx}{e:Vk}{es:List Vk}{te:TE}{t:TA}{pos:Pos}
def fV:PA X [] R6:=λ_ _ _ _ H Q I h=>Calls.spliced_nil ⟨[],H,I,.nil,h⟩
def c9(ha:PE X e te)(hr:PA X es t)(hs:Uy (e::es) X.env=(false,eval e X.env)::Uy es X.env:=by rfl):PA X (e::es) (Pe te t):=by
 intro pos π s σ H Q I h;rw[hs];show UO _ _ (spliced ((false,eval e X.env)::VA pos (Uy es X.env))) _ _ s;refine Calls.spliced_cons (cH (ha π s σ H _ I h) λu s1 ⟨x,H1,I1,r1,q1⟩=>?_);exact cH (hr pos π s1 σ H1 _ I1 q1) λus s2 ⟨xs,H2,I2,r2,q2⟩=>⟨x::xs,H2,I2,.cons r1 r2,q2⟩
noncomputable def RV(t:TA):TE:=λσ H Q=>t σ H λxs H1=>xs.length<=sizeLine/\∀p,H1 p=none->Q (.ref p) (upd H1 p (.tup xs))
noncomputable def R8(t:TA):TE:=λσ H Q=>t σ H λxs H1=>xs.length<=sizeLine/\∀p,H1 p=none->Q (.ref p) (upd H1 p (.lst xs))
def A9{x1}(h:PA X es t):PE X (.Tuple es x1 pos) (RV t):=by
 intro π s σ H Q I hq;refine wpAny_Tuple_spliced (cH (h pos π s σ H _ I hq) λus s1 ⟨xs,H1,I1,r,z,q⟩=>⟨by rw[←r.length];exact z,?_⟩);have hf:H1 s1.heap.objs.size=none:=I1.hok.fresh (UJ _);refine⟨.ref s1.heap.objs.size,upd H1 s1.heap.objs.size (.tup xs),I1.laid (t':=s1.toks) (λb u e=>UC _ e) (UJ _) ?_,rfl,q _ hf⟩;exact⟨z,us,r,⟨_,Vy _ rfl,rfl,_,rfl⟩⟩
def Ba(h:PA X es t):PE X (.List es pos) (R8 t):=by
 intro π s σ H Q I hq;refine wpAny_List_spliced (cH (h pos π s σ H _ I hq) λus s1 ⟨xs,H1,I1,r,z,q⟩=>⟨by rw[←r.length];exact z,?_⟩);have hf:H1 s1.heap.objs.size=none:=I1.hok.fresh (UJ _);refine⟨.ref s1.heap.objs.size,upd H1 s1.heap.objs.size (.lst xs),I1.laid (t':=s1.toks) (λb u e=>UC _ e) (UJ _) ?_,rfl,q _ hf⟩;exact⟨z,us,0,r,Vy _ rfl⟩
end
abbrev Sp:=List V->Hp->VK->XK->Prop
abbrev Cd:=List Env->Hp->UE->XK->Us->UE->Prop
structure AK (P:Vq) (w:VL) (K:Ut) (mg:US->Option Us) (base:UR) (A:Vw) (outer:List Env) (s:UE) (H:Hp):Prop where
 frames:A.frames=some outer
 mod:Mod K mg base
 bs:∀b o,base.get? b=some o->s.heap.get? b=some o/\H b=none
 bsz:base.objs.size<=s.heap.objs.size
 funs:s.heap.FunFrames base outer
 frf:∀b∈iN outer,H b=none
 hok:gG P w H s.heap
 bare:AllBare s.gens
noncomputable def CE(outer:List Env) (P:Vq) (w:VL) (H:Hp) (s:UE) (Q:VK) (u:Us) (s':UE):Prop :=
 ∃v H',s'.os=s.os/\AllBare s'.gens/\Un (iN outer) [] H H' s.heap s'.heap/\gG P w H' s'.heap/\bF v u/\Q v H'
noncomputable def CR(CX:Cd) (outer:List Env) (P:Vq) (w:VL) (H:Hp) (s:UE) (Q:VK) (E:XK) (r:Result) (s':UE):Prop :=
 match r with
 |.ok (.ret u)=>CE outer P w H s Q u s'
 |.ok _=>False
 |.error e=>CX outer H s E e s'
structure fZ (P:Vq) (w:VL) (K:Ut) (mg:US->Option Us) (base:UR) (CX:Cd) (k:Nat) (f:Uw) (fd:VZ) (ps:List US) (sp:Sp):Prop where
 len:∀vs H Q E,sp vs H Q E->vs.length=ps.length
 run:∀(A:Vw) (outer:List Env) (s:UE) (H:Hp) (args:Args) (us:List Us) (vs:List V) (Q:VK) (E:XK),cW k A->AK P w K mg base A outer s H->BindsTo s fd args (ps.zip us)->bE vs us->sp vs H Q E ->
  WC (UM P w) A (.call (.ref f) args) (CR CX outer P w H s Q E) s
def fZ.mono{K:Ut}{j k:Nat}{ps:List US}(F:fZ P w K mg base CX j f fd ps sp)(h:j<=k) :
  fZ P w K mg base CX k f fd ps sp:=⟨F.len,λA outer s H args us vs Q E hr=>F.run A outer s H args us vs Q E (hr.mono h)⟩
def AK.make{K:Ut}(e:AK P w K mg base A outer s H)(C:Uw)(us:List Us)(kw:List (US×Us)) :
  AK P w K mg base (A.under (.builtin "type.__call__" ⟨.ref C::us,kw⟩)) outer s H:=⟨by first|exact e.frames|(simpa [Yq,Code.envs,Y5,pushEnvs] using e.frames),e.mod,e.bs,e.bsz,e.funs,e.frf,e.hok,e.bare⟩
section
variable {X:Cx}{π:List (Uw×Obj)}{σ:St}{H:Hp}{s s':UE}
def Inv.env0(I:Inv X π σ H s):AK X.prog X.w X.K X.mg X.base X.A X.stack s H :=
 ⟨I.ok.frames,I.ok.mod,I.bs,Va I.ok.bsz I.sz,I.stack,I.stkFree,I.hok,I.bare⟩
def Inv.after(I:Inv X π σ H s)(h:CE X.stack X.prog X.w H s Q u s'):EP X π σ Q u s':=by
 obtain⟨v,H',os,bare,un,hok,r,q⟩:=h;obtain⟨hh,g,d,t,os'⟩:=s';obtain rfl:os'=s.os:=os;exact⟨v,H',I.call (h':=hh) (g':=g) (d':=d) (t':=t) (ch:=[]) un hok bare (λb z=>absurd z (by simp)),r,q⟩
end
noncomputable def Pf(sp:Sp) (dvs:List V) (E:XK) (t:TA):TE:=λσ H Q=>t σ H λvs H1=>sp (vs++dvs) H1 Q E
noncomputable def iL(K:Ut) (fd:VZ) (ps:List US) (ds:List Us):Prop :=
 ∀(s:UE) (us:List Us),K.In s.heap->(us++ds).length=ps.length->BindsTo s fd ⟨us,[]⟩ (ps.zip (us++ds))
def iL.all{K:Ut}{ps:List US}(h:∀us:List Us,us.length=ps.length->bindArgs fd ⟨us,[]⟩=pure (ps.zip us)):iL K fd ps []:=λs us _ hl=>by
 rw[Vo] at hl ⊢;exact .of_eq (h us hl)
noncomputable def gM(CX:Cd) (X:Cx) (E:XK):Prop:=∀(π:List (Uw×Obj)) (σ:St) (H:Hp) (s:UE) (e:Us) (s':UE),Inv X π σ H s->CX X.stack H s E e s'->X.xe e s'
section
variable {X:Cx}{CX:Cd}{k:Nat}{f C:Uw}{fd:VZ}{ps:List US}{sp:Sp}{dvs:List V}{ds:List Us}{E:XK}{x m:US}{p pos apos:Pos}{e o:Vk}{es:List Vk}{ta:TE}{t:TA}
def MN(F:fZ X.prog X.w X.K X.mg X.base CX k f fd ps sp)(hr:cW k X.A)(hb:iL X.K fd ps ds)(hd:bE dvs ds)(hx:gM CX X E)
  (I:Inv X π σ H s)(r:bE vs us)(h:sp (vs++dvs) H Q E):UO (UM X.prog X.w) X.A (call (.ref f) us) (EP X π σ Q) X.xe s:=by
 have r2:bE (vs++dvs) (us++ds):=r.append hd;have hl:(us++ds).length=ps.length:=by rw[←r2.length];exact F.len _ _ _ _ h
 refine wpAny_call (codeAny_mono (F.run X.A X.stack s H ⟨us,[]⟩ (us++ds) (vs++dvs) Q E hr I.env0 (hb s us I.kIn hl) r2 h) λr s' hq=>?_);cases r with
 |error e=>exact hx π σ H s e s' I hq
 |ok fl =>
  cases fl with|ret u=>exact I.after hq|next|brk|cont=>exact VI hq
def qR(F:fZ X.prog X.w X.K X.mg X.base CX k f fd ps sp)(hr:cW k X.A)(hg:Gl X x)(hm:X.mg x=some (.ref f))(hk:WV X.K (.ref f)=true)(hb:iL X.K fd ps ds)(hd:bE dvs ds)(hx:gM CX X E)
  (ha:PA X (e::es) t)(hdb:(x==("__debug__" : US))=false:=by decide)(he:Uy (e::es) X.env=(false,eval e X.env)::Uy es X.env:=by rfl)(hpl:(VA pos (Uy es X.env)).any (·.1)=false:=by rfl) :
  PE X (.Call (.Name x p) (e::es) [] pos) (Pf sp dvs E t):=by
 intro π s σ H Q I h;refine wpAny_Call_Name_kw (jU I hg hm ?_ hdb);refine W.callWith_K (h₀:=X.base) I.ok.mod.kin hk (cH (ha pos π s σ H _ I h) λus s1 z9=>?_) he hpl;obtain⟨vs,H1,I1,r,q⟩:=z9;refine⟨I1.kIn,?_⟩;exact MN F hr hb hd hx I1 r q
end
structure eY (N P:List US) (sc:XX):Prop where
 kind:sc.kind=.function
 co:sc.isCoroutine=false
 gen:sc.isGenerator=false
 nd:N.Nodup
 pre:N.take P.length=P
 par:∀x∈P,sc.names.lookup x=some .local ∨ sc.names.lookup x=some .cell
 nofree:∀y∈sc.names,y.2≠.free
theorem wA{kindOf:US->Option V3}:∀{binds:List (US×Us)}{m:US->Option Us},(∀v,(x,v)∉binds)->bindL kindOf binds m x=m x
 |[],_,_=>rfl
 |(n,v)::r,m,h=>by
  unfold bindL;rw[wA λw hw=>h w (UH _ hw)];split
  .have:x≠n:=by rintro rfl;exact h v U0
   simp [this]
  .rfl
theorem wC{kindOf:US->Option V3}:∀{binds:List (US×Us)}{m:US->Option Us},(∀v,(x,v)∉binds)->bindC kindOf binds m x=m x
 |[],_,_=>rfl
 |(n,v)::r,m,h=>by
  unfold bindC;rw[wC λw hw=>h w (UH _ hw)];split
  .rfl
  .have:x≠n:=by rintro rfl;exact h v U0
   simp [this]
theorem wB{kindOf:US->Option V3}{x:US}{v:Us}:∀{P:List US}{vs:List Us}{i:Nat}{m:US->Option Us},P.Nodup->P[i]?=some x->vs[i]?=some v->kindOf x=some .local ->
  bindL kindOf (P.zip vs) m x=some v
 |[],_,_,_,_,h,_,_=>by simp at h
 |_::_,[],_,_,_,_,h,_=>by simp at h
 |p::P,w::vs,0,m,nd,h1,h2,hk=>by
  simp at h1 h2;subst h1;subst h2;show bindL kindOf ((p,w)::P.zip vs) m p=_;unfold bindL;rw[wA λv hv=>(Wy.mp nd).1 (YA hv).1,if_pos hk];simp
 |p::P,w::vs,i+1,m,nd,h1,h2,hk=>by
  show bindL kindOf ((p,w)::P.zip vs) m x=_;unfold bindL;exact wB (i:=i) (Wy.mp nd).2 (by simpa using h1) (by simpa using h2) hk
theorem wD{kindOf:US->Option V3}{x:US}{v:Us}:∀{P:List US}{vs:List Us}{i:Nat}{m:US->Option Us},P.Nodup->P[i]?=some x->vs[i]?=some v->kindOf x≠some .local ->
  bindC kindOf (P.zip vs) m x=some v
 |[],_,_,_,_,h,_,_=>by simp at h
 |_::_,[],_,_,_,_,h,_=>by simp at h
 |p::P,w::vs,0,m,nd,h1,h2,hk=>by
  simp at h1 h2;subst h1;subst h2;show bindC kindOf ((p,w)::P.zip vs) m p=_;unfold bindC;rw[wC λv hv=>(Wy.mp nd).1 (YA hv).1,if_neg hk];simp
 |p::P,w::vs,i+1,m,nd,h1,h2,hk=>by
  show bindC kindOf ((p,w)::P.zip vs) m x=_;unfold bindC;exact wD (i:=i) (Wy.mp nd).2 (by simpa using h1) (by simpa using h2) hk
noncomputable def start(N:List US) (vs:List V):St:=vs.map some++UK (N.length-vs.length) none
noncomputable def dW(CX:Cd) (P:Vq) (w:VL) (K:Ut) (mg:US->Option Us) (base:UR) (N:List US) (qual:US) (scope:XX) (f:Uw) (cd:Us) (A:Vw) (outer:List Env) (s:UE) (H:Hp) (E:XK):Cx where
 prog:=P
 w:=w
 K:=K
 mg:=mg
 base:=base
 A:=A.deeper (envOfC qual scope s.heap.objs.size f cd)
 N:=N
 sf:=s
 Ha:=H
 env:=envOfC qual scope s.heap.objs.size f cd
 outer:=outer
 stack:=envOfC qual scope s.heap.objs.size f cd::outer
 ex:=[]
 calm:=true
 fn:=λ_=>true
 pn:=[]
 xe:=λe s'=>UO (UM P w) (A.deeper (envOfC qual scope s.heap.objs.size f cd)) (leaving (envOfC qual scope s.heap.objs.size f cd) e) (λ_ s''=>CX outer H s E e s'') (λe' s''=>CX outer H s E e' s'') s'
def AD{sc:XX}(h:sc.names.lookup x=some .cell):∃c,(cellsFrom n sc.names []).lookup x=some c:=by
 have q:=W.cellsFrom_some sc.names n [] (.inl h);exact Xv.mp q
def ET{K:Ut}{N ps:List US} 
  (S:eY N ps scope)(hd:A.handled=none)(e0:AK P w K mg base A outer s H)(hl:vs.length=ps.length)(r:bE vs us)
  (x:InCallC s s.heap.objs.size (bindL (envOfC qual scope s.heap.objs.size f cd).kindOf (ps.zip us) λ_=>none) (cellsFrom (s.heap.objs.size+1) scope.names []) (bindC (envOfC qual scope s.heap.objs.size f cd).kindOf (ps.zip us) λ_=>none) s1) :
  Inv (dW CX P w K mg base N qual scope f cd A outer s H E) [] (start N vs) H s1:=by
 have hpl:ps.length<=N.length:=by have:=congrArg Xq S.pre;rw[Vn] at this;omega
 obtain⟨h1,tk,rfl,hk⟩:=x.done;have noA:∀b:Uw,b∉(dW CX P w K mg base N qual scope f cd A outer s H E).ex:=λb z=>absurd (show b∈([]:List Uw) from z) (by simp);refine⟨⟨e0.mod,S.kind,rfl,rfl,UJ _,λy z c h1 h2=>?_,λy hy=>?_,λy c _ h=>?_,λ_=>hd,Around.frames_deeper e0.frames,.inr ⟨rfl,rfl⟩,λb z=>absurd z (noA b),e0.bs,e0.bsz,λb _ _=>noA b,λb z=>absurd z (noA b),e0.funs,e0.frf⟩,
  rfl,e0.bare,Un.kept hk,⟨_,x.toInCall.ns,λi y v h1 h2 h3=>?_⟩,λy c h=>⟨_,x.cell y c h⟩,e0.hok.fresh (UJ _),λy c h=>?_,λp hp=>absurd (show p∈([]:List (Uw×Obj)) from hp) (by simp),e0.hok.kept hk,?_⟩
 .exact name_of_addr x.apart (Wg h1) (Wg h2)
 .have hy:scope.names.lookup y=some .cell∨scope.names.lookup y=some .free:=hy
  rcases hy with hy|hy
  .exact AD hy
  .exact absurd rfl (S.nofree _ (Wg hy))
 .exact XM (x.above y c (Wg h))
 .have hi:i<vs.length:=by
   unfold start at h2
   by_cases hi:i<vs.length
   .exact hi
   .rw[UZ (by simpa using hi)] at h2
    rw[U7] at h2;split at h2<;>cases h2
  have ha:vs[i]?=some v:=by
   unfold start at h2;rw[UQ (by simpa using hi),UL] at h2;cases e:vs[i]? with|none=>rw[e] at h2;cases h2|some a=>rw[e] at h2;cases h2;rfl
  obtain⟨u,hu,rv⟩:=r.get ha;have hp:ps[i]?=some y:=by
   rw[←S.pre,YQ (by omega)];exact h1
  have ndP:ps.Nodup:=by rw[←S.pre];exact S.nd.sublist (List.take_sublist _ _)
  refine⟨u,rv,?_⟩;rcases S.par y (UN hp) with k|k
  .exact .inl ⟨k,wB ndP hp hu k⟩
  .obtain⟨c,e⟩:=AD (n:=s.heap.objs.size+1) k
   refine .inr ⟨.inl k,c,e,?_⟩;have q:=x.cell y c e;rw[wD ndP hp hu (by show scope.names.lookup y≠_;rw[k];decide)] at q;exact q
 .exact e0.hok.fresh (XM (x.above y c (Wg h)))
 .unfold start
  show _=N.length;rw[Vt,Uv,Vu];omega
def LX{K:Ut}{k:Nat}{dV kV doc pm cdv ct oc:Us}
  {N ps:List US}(lk:K.lookup f=some ⟨oc,od,.func (WH name qual params body scope dV kV doc pm an cdv ct),osl⟩) (hcd:Yl K cdv qual=true) (S:eY N ps scope)
  (len:∀vs H Q E,sp vs H Q E->vs.length=ps.length)
  (hbody:∀(A:Vw) (outer:List Env) (s:UE) (H:Hp) (vs:List V) (Q:VK) (E:XK),cW k (A.deeper (envOfC qual scope s.heap.objs.size f cdv))->sp vs H Q E ->
   ∃t,wK (dW CX P w K mg base N qual scope f cdv A outer s H E) body t/\t { nx:=λ_ H'=>Q .non H',rt:=Q } (start N vs) H) :
  fZ P w K mg base CX (k+1) f (WH name qual params body scope dV kV doc pm an cdv ct) ps sp:=by
 refine⟨len,λA outer s H args us vs Q E hr e0 hb r hsp=>?_⟩;have hl:=len _ _ _ _ hsp;have KX:K.In s.heap:=e0.mod.kin.keeps λb o e=>(e0.bs b o e).1;have lim:s.heap.NoLimit:=e0.mod.nolimit.keeps λb o e=>(e0.bs b o e).1;have hkind:∀y∈ps.zip us,scope.names.lookup y.1=some .local ∨ (scope.names.lookup y.1=some .cell/\((cellsFrom (s.heap.objs.size+1) scope.names []).lookup y.1).isSome=true):=λ⟨n,v⟩ hy=>by
  rcases S.par n (YA hy).1 with q|q
  .exact .inl q
  .exact .inr ⟨q,W.cellsFrom_some _ _ _ (.inl q)⟩
 refine codeAny_call_function hr.depth (KX _ _ lk) rfl S.co S.gen rfl (W.codeRec_of KX hcd) (hb _ _ _ _ ?_);refine wpAny_newFunctionEnv_cells S.kind hkind λenv he s1 x=>?_;subst he;refine⟨lim.keeps x.toInCall.keep,codeAny_func ?_⟩;obtain⟨t,ht,hq⟩:=hbody A outer s H vs Q E (hr.deeper _) hsp;have I:Inv (dW CX P w K mg base N qual scope f cdv A outer s H E) [] (start N vs) H s1:=ET S hr.hd e0 hl r x;refine Vs (ht [] s1 (start N vs) H _ I hq) (λfl s' hs=>?_) λe s' hs=>hs;have fin:∀{σ':St}{H':Hp}{v:V}{u:Us},Inv (dW CX P w K mg base N qual scope f cdv A outer s H E) [] σ' H' s'->bF v u->Q v H'->CE outer P w H s Q u s' :=
  λ{σ' H' v u} J rv q=>⟨v,H',J.os,J.bare,J.base,J.hok,rv,q⟩
 cases fl with
 |ret u =>
  obtain⟨v,σ',H',J,rv,q⟩:=hs;exact fin J rv q
 |next =>
  obtain⟨σ',H',J,q⟩:=hs;exact fin (v:=V.non) (u:=VS) J rfl q
 |brk =>
  obtain⟨_,_,_,q⟩:=hs;exact VI q
 |cont =>
  obtain⟨_,_,_,q⟩:=hs;exact VI q
section
variable {X:Cx}{x:US}{p pos:Pos}{e:Vk}{es:List Vk}{t:TA}{id T:String}{r:List V->Hp->VK->Prop}
def Ti(r:List V->Hp->VK->Prop)(t:TA):TE:=λσ H Q=>t σ H λvs H1=>r vs H1 Q
def mY(hc:gO X (.builtin id) r)(hg:Gl X x)(hm:X.mg x=none)(hv:bootBuiltins x=some (.builtin id))(ha:PA X (e::es) t)(hn:x≠"__name__":=by decide)(hdb:(x==("__debug__" : US))=false:=by decide)
  (he:Uy (e::es) X.env=(false,eval e X.env)::Uy es X.env:=by rfl)(hpl:(VA pos (Uy es X.env)).any (·.1)=false:=by rfl):PE X (.Call (.Name x p) (e::es) [] pos) (Ti r t):=by
 intro π s σ H Q I h;refine wpAny_Call_Name_kw (sU I hg hm hv ?_ hn hdb);exact PyProof.Rows.callWith_builtin1 (cH (ha pos π s σ H _ I h) λus s1 ⟨vs,H1,I1,r1,q1⟩=>hc π s1 σ H1 vs us Q I1 r1 q1) he hpl
def EA(hc:gO X (.type T) r)(hg:Gl X x)(hm:X.mg x=none)(hv:bootBuiltins x=some (.type T))(ha:PA X (e::es) t)(hn:x≠"__name__":=by decide)(hdb:(x==("__debug__" : US))=false:=by decide)
  (he:Uy (e::es) X.env=(false,eval e X.env)::Uy es X.env:=by rfl)(hpl:(VA pos (Uy es X.env)).any (·.1)=false:=by rfl):PE X (.Call (.Name x p) (e::es) [] pos) (Ti r t):=by
 intro π s σ H Q I h;refine wpAny_Call_Name_kw (sU I hg hm hv ?_ hn hdb);exact Xl (cH (ha pos π s σ H _ I h) λus s1 ⟨vs,H1,I1,r1,q1⟩=>hc π s1 σ H1 vs us Q I1 r1 q1) he hpl
end
end L2
namespace HT
open PySem PyProof.Rows
section
variable {prog:Vq}{w:VL}{A:Vw}{E:Us->UE->Prop}{s:UE}
def cat_tup(ht:IsTup s.heap t vs.toArray)(hb:IsTup s.heap b ws.toArray)(hv:vs≠[])
  (h1:ws=[]->Q (.ref t) s)(h2:ws≠[]->Q (.ref s.heap.objs.size) { s with heap:=s.heap.push { cls:=.type "tuple",data:=.seq (vs++ws).toArray } })
  (hsz:vs.length+ws.length<=sizeLine):UO (UM prog w) A (binaryOp .Add (.ref t) (.ref b)) Q E s:=by
 obtain⟨⟨cls,dd,data,sl⟩,ho,hc,n,hd⟩:=id ht;obtain⟨⟨cls2,dd2,data2,sl2⟩,ho2,hc2,n2,hd2⟩:=id hb;simp only at hc hd hc2 hd2;subst hc hd hc2 hd2;have e:vs.toArray++ws.toArray=(vs++ws).toArray:=by simp
 by_cases hw:ws=[]
 .exact concat_meets ⟨_,ho,rfl⟩ ⟨_,ho2,rfl⟩ noFill_tuple_add seq_tuple_add XI XD (Xu _ _)
   (tuple_addW1 t b vs.toArray ws.toArray n n2 dd dd2 sl sl2 (by simpa using hv) (by simp [hw])) ⟨ho,ho2,h1 hw⟩
 .refine concat_meets ⟨_,ho,rfl⟩ ⟨_,ho2,rfl⟩ noFill_tuple_add seq_tuple_add XI XD (Xu _ _)
   (tuple_addW2 t b vs.toArray ws.toArray n n2 dd dd2 sl sl2 (by simpa using hv) (by simpa using hw) (by rw[UP,UP];exact hsz)) ⟨ho,ho2,?_⟩
  rw[e];exact h2 hw
noncomputable def sIx(n d:Nat):Option Int->Nat
 |none=>d
 |some v=>if v<0 then(v+(n:Int)).toNat else min v.toNat n
def sIx_none(n d:Nat):sIx n d none=d:=rfl
def sIx_nat(n d k:Nat):sIx n d (some (k:Int))=min k n:=by
 show(if(k:Int)<0 then((k:Int)+(n:Int)).toNat else min (k:Int).toNat n)=min k n;rw[if_neg (by omega),WE]
def MM(n d:Nat)(hd:d<=n)(o:Option Int):sIx n d o<=n:=by
 cases o with
 |none=>exact hd
 |some v =>
  show(if v<0 then(v+(n:Int)).toNat else min v.toNat n)<=n
  by_cases hv:v<0
  .rw[if_pos hv];omega
  .rw[if_neg hv];exact Nat.min_le_right _ _
def DY(v:Int)(n d:Nat):(if v<0 then max (v+(n:Int)) 0 else min v (n:Int))=((sIx n d (some v):Nat):Int):=by
 show(if v<0 then max (v+(n:Int)) 0 else min v (n:Int))=(((if v<0 then(v+(n:Int)).toNat else min v.toNat n):Nat):Int)
 by_cases hv:v<0
 .simp only[if_pos hv];omega
 .simp only[if_neg hv];omega
def B6(lo hi:Option Int)(n:Nat):Xo lo hi 1 (n:Int)=(((sIx n 0 lo:Nat):Int),((sIx n n hi:Nat):Int)):=by
 have h1:¬((1:Int)<0):=by omega
 unfold Xo;simp only[h1,if_false];refine Prod.ext ?_ ?_
 .cases lo with
  |none=>rfl
  |some v=>exact DY v n 0
 .cases hi with
  |none=>rfl
  |some v=>exact DY v n n
def A8(i j:Nat):WR (i:Int) (j:Int) 1=j-i:=by
 unfold WR;have h1:(1:Int) > 0:=by omega
 simp only[h1,if_true,Int.ediv_one];split<;>omega
def rS(p:IsPart v o)(h:Q o s):UO (UM prog w) A (Builtin.Slice.slicePartIndex v) Q E s:=by
 cases p with|none=>exact slicePart_none h|int i t=>exact slicePart_int h
def oY{lo hi:Option Int}{Q:Int×Int×Nat->UE->Prop}(hs:s.heap.IsSliceOf sl vl vu .none)(pl:IsPart vl lo)(pu:IsPart vu hi)
  (h:Q (((sIx n 0 lo:Nat):Int),1,sIx n n hi-sIx n 0 lo) s):UO (UM prog w) A (YI (.ref sl) (pure (n:Int))) Q E s:=by
 obtain⟨os,hos,hcs,hds⟩:=id hs;unfold YI Builtin.Slice.sliceFields;refine Uu (Uu (wpAny_field hos hds (x:=vl) rfl (Uu (wpAny_field hos hds (x:=vu) rfl (Uu (wpAny_field hos hds (x:=.none) rfl (UU ?_)))))));refine Uu (slicePart_none ?_);show UO _ _ (if((1:Int)==0)=true then _ else _) _ _ s;rw[if_neg (by decide)];refine Uu (rS pl (Uu (rS pu (Uu (UU ?_)))));show UO _ _ (match Xo lo hi 1 (n:Int) with|(lo,hi)=>pure (lo,(1:Int),WR lo hi 1)) _ _ s;rw[B6 lo hi n];show UO _ _ (pure (((sIx n 0 lo:Nat):Int),(1:Int),WR ((sIx n 0 lo:Nat):Int) ((sIx n n hi:Nat):Int) 1)) _ _ s;rw[A8];exact UU h
def GR(xs:Array Us)(i k:Nat):((VG k).filterMap λ(m:Nat)=>xs[((i:Int)+(m:Int)*1).toNat]?).toArray=((xs.toList.drop i).take k).toArray:=by
 have e:(λ(m:Nat)=>xs[((i:Int)+(m:Int)*1).toNat]?)=λm=>xs[i+m]?:=by
  funext m;have:((i:Int)+(m:Int)*1).toNat=i+m:=by omega
  rw[this]
 rw[e];have:=pick_run xs i k;rw[Ye] at this;have e2:((λx=>xs[x]?)∘λx=>i+x)=λm=>xs[i+m]?:=rfl;rw[e2] at this;rw[this]
def getItem_tuple_cut{lo hi:Option Int}(ht:IsTup s.heap t items)(hs:s.heap.IsSliceOf sl vl vu .none)(pl:IsPart vl lo)(pu:IsPart vu hi)
  (hw:¬(sIx items.size 0 lo=0/\sIx items.size items.size hi=items.size))
  (h:Q (.ref s.heap.objs.size) { s with heap:=s.heap.push { cls:=.type "tuple",data:=.seq ((items.toList.drop (sIx items.size 0 lo)).take (sIx items.size items.size hi-sIx items.size 0 lo)).toArray } })
  (hsz:items.size<=sizeLine):UO (UM prog w) A (getItem (.ref t) (.ref sl)) Q E s:=by
 have htake:sizeOk (.seq ((items.toList.drop (sIx items.size 0 lo)).take (sIx items.size items.size hi-sIx items.size 0 lo)).toArray):=by
  show((items.toList.drop (sIx items.size 0 lo)).take (sIx items.size items.size hi-sIx items.size 0 lo)).toArray.size<=sizeLine;rw[UP,Vn,Ys,X6];omega
 have hj:sIx items.size items.size hi<=items.size:=MM _ _ (UJ _) hi;obtain⟨os,hos,hcs,hds⟩:=id hs;have hTs:s.TypeIs (.ref sl) "slice":=⟨os,hos,hcs⟩
 unfold getItem
 try with_reducible refine V1 ?_
 first|refine Uu (UU ?_)|skip
 refine Uu (wpAny_sequenceKey ht.typeIs (by decide) ?_);refine Uu (wpAny_callSpecial?_slot (name:=Str.ofString "__getitem__") ht.typeIs Xe
  (wpAny_call_entry Xe ht.typeIs entry_tuple_getitem ?_ (args_tuple_getitem _ _)))
 show UO _ _ (Builtin.Tuple.tupleItemsOf (.ref t) >>= _) _ _ s;refine Uu (tupleItemsOf_ ht ?_);refine Uu (wpAny_typeOf hTs ?_);rw[if_pos (by decide)];refine Uu (oY hs pl pu ?_);have hno:¬((((sIx items.size 0 lo:Nat):Int)==0&&(1:Int)==1&&(sIx items.size items.size hi-sIx items.size 0 lo)==items.size)=true):=by
  intro q;rw[U4,U4] at q;have q1:((sIx items.size 0 lo:Nat):Int)=0:=eq_of_beq q.1.1;have q2:sIx items.size items.size hi-sIx items.size 0 lo=items.size:=eq_of_beq q.2;exact hw ⟨by omega,by omega⟩
 show UO _ _ (if(((sIx items.size 0 lo:Nat):Int)==0&&(1:Int)==1&&(sIx items.size items.size hi-sIx items.size 0 lo)==items.size)=true then _ else _) _ _ s;rw[if_neg hno,GR]
 first
  |exact Uu (m:=WX _) (wpAny_newObj_type (UU ⟨_,rfl,UU h⟩) htake)
  |exact Uu (m:=WX _) (wpAny_newObj_type (Uu (UU (UU ⟨_,rfl,UU h⟩))) htake)
  |exact Uu (Uu (m:=WX _) (wpAny_newObj_type (UU (UU ⟨_,rfl,UU h⟩)) htake))
  |exact Uu (Uu (m:=WX _) (wpAny_newObj_type (UU ⟨_,rfl,UU h⟩) htake))
end
end HT
namespace L2
open PySem PySem.Spec PyProof.Rows
abbrev TO:=St->Hp->(Option Int->Hp->Prop)->Prop
noncomputable def PO(X:Cx) (e:Option Vk) (t:TO):Prop :=
 ∀(π:List (Uw×Obj)) (s:UE) (σ:St) (H:Hp) (Q:Option Int->Hp->Prop),Inv X π σ H s->t σ H Q ->
  UO (UM X.prog X.w) X.A (evalPart e X.env) (λu s'=>∃o H',Inv X π σ H' s'/\IsPart u o/\Q o H') X.xe s
def JP:TO:=λ_ H Q=>Q none H
def O7(t:TE):TO:=λσ H Q=>t σ H λx H1=>∃i,x=.int i/\Q (some i) H1
section
variable {X:Cx}{e:Vk}{te:TE}{lo hi:Option Vk}{tl th:TO}{pos p2:Pos}
def J7:PO X none JP:=by
 intro π s σ H Q I h;rw[evalPart_none];exact UU ⟨none,H,I,.none,h⟩
def J6(h:PE X e te):PO X (some e) (O7 te):=by
 intro π s σ H Q I hw;rw[evalPart_some];refine cH (h π s σ H _ I hw) λu s1 ⟨x,H1,I1,r1,q1⟩=>?_;obtain⟨i,rfl,q⟩:=q1;obtain⟨t,rfl⟩:=r1;exact⟨some i,H1,I1,.int i t,q⟩
noncomputable def Jk(X:Cx) (r:V->Option Int->Option Int->Hp->VK->Prop):Prop :=
 ∀(π:List (Uw×Obj)) (s:UE) (σ:St) (H:Hp) (x:V) (v vl vu:Us) (lo hi:Option Int) (sl:Uw) (Q:VK),Inv X π σ H s->bF x v->s.heap.IsSliceOf sl vl vu .none->IsPart vl lo->IsPart vu hi->r x lo hi H Q ->
  ∃T id,W2 (.type T) "__getitem__"=pure (some (.builtin id))/\s.TypeIs v T/\UO (UM X.prog X.w) X.A (getItem v (.ref sl)) (EP X π σ Q) X.xe s
def Jk.or(h:Jk X r)(h':Jk X r'):Jk X (λx lo hi H Q=>r x lo hi H Q∨r' x lo hi H Q):=by
 intro π s σ H x v vl vu lo hi sl Q I rx hs pl pu q;rcases q with q|q
 .exact h π s σ H x v vl vu lo hi sl Q I rx hs pl pu q
 .exact h' π s σ H x v vl vu lo hi sl Q I rx hs pl pu q
noncomputable def Te(r:V->Option Int->Option Int->Hp->VK->Prop) (te:TE) (tl th:TO):TE:=λσ H Q=>te σ H λx H1=>tl σ H1 λl H2=>th σ H2 λu H3=>r x l u H3 Q
def zi(hr:Jk X r)(he:PE X e te)(hl:PO X lo tl)(hu:PO X hi th):PE X (.Subscript e (.Slice lo hi none p2) pos) (Te r te tl th):=by
 intro π s σ H Q I h;refine Subscript_ (cH (he π s σ H _ I h) λv s1 ⟨x,H1,I1,r1,q1⟩=>?_);refine wpAny_Slice (cH (hl π s1 σ H1 _ I1 q1) λvl s2 ⟨l,H2,I2,pl,q2⟩=>cH (hu π s2 σ H2 _ I2 q2) λvu s3 ⟨u,H3,I3,pu,q3⟩=>?_);rw[evalPart_none];refine UU ?_;have I4:Inv X π σ H3 { s3 with heap:=s3.heap.push { cls:=.type "slice",data:=.fields #[vl,vu,.none] } }:=I3.kept (t':=s3.toks) λb ob q=>UC _ q;obtain⟨T,id,hT,ht,hg⟩:=hr π { s3 with heap:=s3.heap.push { cls:=.type "slice",data:=.fields #[vl,vu,.none] } } σ H3 x v vl vu l u s3.heap.objs.size Q I4 r1 (Heap.IsSliceOf.new ..) pl pu q3;show UO (UM X.prog X.w) X.A (subscriptTail e (.Slice lo hi none p2) v (.ref s3.heap.objs.size)) (EP X π σ Q) X.xe { s3 with heap:=s3.heap.push { cls:=.type "slice",data:=.fields #[vl,vu,.none] } };exact tail_any (ops:=[.ref s3.heap.objs.size,v]) ht hT hg (by with_unfolding_all rfl)
noncomputable def Ay(xs:List V) (lo hi:Option Int):List V:=(xs.drop (HT.sIx xs.length 0 lo)).take (HT.sIx xs.length xs.length hi-HT.sIx xs.length 0 lo)
def p7(xs:List V)(lo hi:Option Int):(Ay xs lo hi).length<=xs.length:=by
 unfold Ay;rw[Vn,Ys];omega
noncomputable def Sm(K:Ut):V->Option Int->Option Int->Hp->VK->Prop:=λx lo hi H Q=>∃a xs,x=.ref a/\kn K H a xs /\
 ¬(HT.sIx xs.length 0 lo=0/\HT.sIx xs.length xs.length hi=xs.length)/\∀p,H p=none->Q (.ref p) (upd H p (.tup (Ay xs lo hi)))
def MB:Jk X (Sm X.K):=by
 intro π s σ H x v vl vu lo hi sl Q I rx hs pl pu h;obtain⟨a,xs,rfl,hx,hw,q⟩:=h;cases rx;obtain⟨its,r,ht,hz⟩:=I.tuple hx;have hlen:its.toArray.size=xs.length:=by rw[UP];exact r.length.symm
 refine⟨"tuple",_,Xe.lookup,ht.typeIs,?_⟩;refine HT.getItem_tuple_cut ht hs pl pu (by rw[hlen];exact hw) ?_ (by rw[hlen];exact hz);rw[hlen];refine⟨.ref s.heap.objs.size,_,I.laid (t':=s.toks) (o:=.tup (Ay xs lo hi)) (λb ob q=>UC _ q) (UJ _) ?_,rfl,q _ (I.hok.fresh (UJ _))⟩;exact⟨Va (p7 xs lo hi) hz,_,(r.drop (HT.sIx xs.length 0 lo)).take (HT.sIx xs.length xs.length hi-HT.sIx xs.length 0 lo),YW _ _⟩
noncomputable def PF(K:Ut):R2:=λx y H Q=>∃a b xs ys,x=.ref a/\y=.ref b/\kn K H a xs/\kn K H b ys/\xs≠[]/\xs.length+ys.length<=sizeLine /\
 (ys=[]->Q (.ref a) H)/\(ys≠[]->∀p,H p=none->Q (.ref p) (upd H p (.tup (xs++ys))))
def bE.nil_iff(r:bE xs us):us=[]↔xs=[]:=by
 cases r with|nil|cons _ _=>simp
def xj:eQ X (binaryOp .Add) (PF X.K):=by
 intro π s σ H x y v u Q I rx ry h;obtain⟨a,b,xs,ys,rfl,rfl,ha,hb,hx,hz,q1,q2⟩:=h;cases rx;cases ry;obtain⟨its,r1,p1,_⟩:=I.tuple ha;obtain⟨its2,r2,p2,_⟩:=I.tuple hb;refine HT.cat_tup p1 p2 (λz=>hx (r1.nil_iff.mp z)) (λz=>⟨.ref a,H,I,rfl,q1 (r2.nil_iff.mp z)⟩) (λz=>?_) (by rw[←r1.length,←r2.length];exact hz);refine⟨.ref s.heap.objs.size,_,I.laid (t':=s.toks) (o:=.tup (xs++ys)) (λb ob q=>UC _ q) (UJ _) ?_,rfl,q2 (λw=>z (r2.nil_iff.mpr w)) _ (I.hok.fresh (UJ _))⟩;exact⟨by rw[Vt];exact hz,_,r1.append r2,YW _ _⟩
end
noncomputable def AM(n:Nat) (i:Int):Option Nat:=if 0<=i then(if i<n then some i.toNat else none) else if -(n:Int)<=i then some (i+n).toNat else none
def atI{α:Type}(xs:List α)(i:Int):Option α:=(AM xs.length i).bind λj=>xs[j]?
def C5(h:AM n i=some j):seqIndex? i n=some j/\j<n/\-(n:Int)<=i/\i<n:=by
 unfold AM at h
 by_cases h0:0<=i
 .rw[if_pos h0] at h
  by_cases h1:i<n
  .rw[if_pos h1] at h
   have e:i.toNat=j:=U9 h;exact⟨by rw[seqIndex_of h0 h1,e],by omega,by omega,h1⟩
  .rw[if_neg h1] at h;cases h
 .rw[if_neg h0] at h
  by_cases h1:-(n:Int)<=i
  .rw[if_pos h1] at h
   have e:(i+n).toNat=j:=U9 h;exact⟨by rw[seqIndex_neg (by omega) h1,e],by omega,h1,by omega⟩
  .rw[if_neg h1] at h;cases h
def yh{v:α}(h:atI xs i=some v):∃j,seqIndex? i xs.length=some j/\xs[j]?=some v/\j<xs.length/\-(xs.length:Int)<=i/\i<xs.length:=by
 unfold atI at h;cases e:AM xs.length i with
 |none=>rw[e] at h;cases h
 |some j =>
  rw[e] at h;obtain⟨h1,h2,h3,h4⟩:=C5 e;exact⟨j,h1,h,h2,h3,h4⟩
def gz{j:Nat}{v:α}(h:xs[j]?=some v):atI xs (j:Int)=some v:=by
 have hj:j<xs.length:=(UA.mp h).1;have e:AM xs.length (j:Int)=some j:=by
  unfold AM;rw[if_pos (by omega),if_pos (by omega)];simp
 unfold atI;rw[e];exact h
def oz(b:Vk):Prop:=∀o i,subscripted b false o i=operate [o,i] (getItem o i)
noncomputable def IV(X:Cx) (r:R2):Prop :=
 ∀(value slice:Vk) (π:List (Uw×Obj)) (s:UE) (σ:St) (H:Hp) (x y:V) (v u:Us) (Q:VK),Inv X π σ H s->bF x v->bF y u->r x y H Q ->
  subscripted slice false v u=operate [v,u] (getItem v u)->UO (UM X.prog X.w) X.A (subscriptTail value slice v u) (EP X π σ Q) X.xe s
noncomputable def TJ(X:Cx) (id:String) (r:V->List V->Hp->VK->Prop):Prop :=
 ∀(π:List (Uw×Obj)) (s:UE) (σ:St) (H:Hp) (x:V) (xs:List V) (v:Us) (us:List Us) (Q:VK),Inv X π σ H s->bF x v->bE xs us->r x xs H Q ->
  UO (UM X.prog X.w) X.A (call (.builtin id) (v::us)) (EP X π σ Q) X.xe s
section
variable {X:Cx}{a b:Vk}{ta tb:TE}{pos:Pos}
def IV.or(h:IV X r)(h':IV X r'):IV X (λx y H Q=>r x y H Q∨r' x y H Q):=by
 intro value slice π s σ H x y v u Q I rx ry q hs;rcases q with q|q
 .exact h value slice π s σ H x y v u Q I rx ry q hs
 .exact h' value slice π s σ H x y v u Q I rx ry q hs
def LP(hr:IV X r)(ha:PE X a ta)(hb:PE X b tb)(hs:oz b):PE X (.Subscript a b pos) (Oy r ta tb):=by
 intro π s σ H Q I h;exact Subscript_ (Oa ha hb I h λv u s2 x y H2 I2 rx ry q=>hr a b π s2 σ H2 x y v u Q I2 rx ry q (hs _ _))
noncomputable def Pz(K:Ut):R2:=λx y H Q=>∃p xs i v,x=.ref p/\y=.int i/\eX K H p xs/\atI xs i=some v/\Q v H
noncomputable def Px(K:Ut):R2:=λx y H Q=>∃p xs i v,x=.ref p/\y=.int i/\kn K H p xs/\atI xs i=some v/\Q v H
noncomputable def Py:R2:=λx y H Q=>∃z i c,x=.str z/\y=.int i/\z.length<=sizeLine/\atI z.cps.toList i=some c/\Q (.str ⟨#[c]⟩) H
def KH:IV X (Pz X.K):=by
 intro value slice π s σ H x y v u Q I rx ry h hs;obtain⟨p,xs,i,z,rfl,rfl,hq,he,q⟩:=h;cases rx;obtain⟨t,rfl⟩:=ry;obtain⟨its,r,pl,hz⟩:=I.list hq;obtain⟨j,h1,h2,h3,h4,h5⟩:=yh he;obtain⟨w,ew,rw'⟩:=r.get h2;have hl:=r.length;have hn:=pb;have fin:EP X π σ Q w s:=⟨z,H,I,rw',q⟩
 by_cases h0:0<=i
 .have hj:i.toNat=j:=by
   rw[seqIndex_of h0 h5] at h1;exact U9 h1
  exact item_listR pl.isList h0 (by omega) (by rw[hj];simpa using ew) fin hs
 .have hj:(i+(its.toArray.size:Int)).toNat=j:=by
   rw[seqIndex_neg (by omega) h4] at h1;rw[UP,←hl];exact U9 h1
  exact subscriptTail_builtinR (x:=w) pl.isList.typeIs slot_list_getitem.lookup
   (wpAny_getItem_list_neg (Q:=λr s'=>r=w/\EP X π σ Q r s') pl.isList (by omega) (by rw[UP]<;>omega) (by omega) (by rw[hj];simpa using ew) ⟨rfl,fin⟩) hs
def Ny:IV X (Px X.K):=by
 intro value slice π s σ H x y v u Q I rx ry h hs;obtain⟨p,xs,i,z,rfl,rfl,hq,he,q⟩:=h;cases rx;obtain⟨t,rfl⟩:=ry;obtain⟨its,r,pl,hz⟩:=I.tuple hq;obtain⟨j,h1,h2,h3,h4,h5⟩:=yh he;obtain⟨w,ew,rw'⟩:=r.get h2;have hl:=r.length;have hn:=pb;have fin:EP X π σ Q w s:=⟨z,H,I,rw',q⟩
 exact subscriptTail_builtinR (x:=w) pl.typeIs slot_tuple_getitem.lookup
  (getItem_tuple (j:=j) (Q:=λr s'=>r=w/\EP X π σ Q r s') pl (by omega) (by omega) (by rw[UP,←hl];exact h1) (by simpa using ew) ⟨rfl,fin⟩) hs
def Nz:IV X Py:=by
 intro value slice π s σ H x y v u Q I rx ry h hs;obtain⟨z,i,c,rfl,rfl,hz,he,q⟩:=h;obtain⟨t,rfl⟩:=rx;obtain⟨t',rfl⟩:=ry;obtain⟨j,h1,h2,h3,h4,h5⟩:=yh he;have hl:z.cps.toList.length=z.length:=by simp [Str.length]
 rw[hl] at h1 h4 h5;have hn:=pb;exact tail_any (typeIs_str s z t) slot_str_getitem.lookup (getItem_str (c:=c) (by
  have e1:decide (i < -(2 ^ 63:Int))=false:=decide_eq_false (by omega);have e2:decide (i≥2 ^ 63)=false:=decide_eq_false (by omega);rw[e1,e2,Bool.or_false]) (by rw[h1];simpa using h2) ⟨.str ⟨#[c]⟩,H,I.tok _,⟨_,rfl⟩,q⟩) hs
def Tn(K:Ut):R2:=λx y H Q=>Pz K x y H Q∨Px K x y H Q∨Py x y H Q
def Ho:IV X (Tn X.K):=KH.or (Ny.or Nz)
def Bk(its:List Us)(n j:Nat)(u:Us):Yb (·.setIfInBounds j u) { cls:=.type "list",data:=.seq its.toArray n }={ cls:=.type "list",data:=.seq (its.set j u).toArray n }:=by
 simp [Yb]
def Inv.lst(I:Inv X π σ H s)(h:H p=some (.lst xs)) :
  ∃(its:List Us) (n:Nat),bE xs its/\s.heap.get? p=some { cls:=.type "list",data:=.seq its.toArray n }/\xs.length<=sizeLine:=by
 obtain⟨z,its,n,r,e⟩:=I.hok p _ h;exact⟨its,n,r,e,z⟩
def Inv.lstUpd{its its':List Us}(I:Inv X π σ H s)(h:H p=some (.lst xs))
  (ho:s.heap.get? p=some { cls:=.type "list",data:=.seq its.toArray n })(hf:f { cls:=.type "list",data:=.seq its.toArray n }={ cls:=.type "list",data:=.seq its'.toArray n' })(r:bE ys its')(hz:ys.length<=sizeLine)(t:Nat) :
  Inv X π σ (upd H p (.lst ys)) { s with heap:=s.heap.update p f,toks:=t }:=by
 have e:(s.heap.update p f).get? p=some { cls:=.type "list",data:=.seq its'.toArray n' }:=by
  rw[V8 f ho (by rw[hf]<;>rfl),hf]
 refine I.write (x:=p) (e:=p) (by rw[h];trivial) (.inl rfl) (λb u hb q=>(V4 _ _ (Vh hb)).trans q) ⟨_,e⟩ ?_;exact⟨hz,its',n',r,e⟩
noncomputable def LL:V->V->V->Hp->(Hp->Prop)->Prop:=λo i v H Q=>∃p xs k j,o=.ref p/\i=.int k/\H p=some (.lst xs)/\AM xs.length k=some j/\Q (upd H p (.lst (xs.set j v)))
def yR:Rk X LL:=by
 intro π s σ H o i v ov iv u Q I ro ri rv h;obtain⟨p,xs,k,j,rfl,rfl,hp,hj,q⟩:=h;cases ro;obtain⟨t,rfl⟩:=ri;obtain⟨its,n,r,ho,hz⟩:=I.lst hp;obtain⟨h1,h2,h3,h4⟩:=C5 hj;have hl:=r.length;have hn:=pb;have I':Inv X π σ (upd H p (.lst (xs.set j v))) { s with heap:=s.heap.update p (Yb (·.setIfInBounds j u)) } :=
  I.lstUpd hp ho (Bk its n j u) (r.set rv j) (by rw[List.length_set];exact hz) s.toks
 by_cases h0:0<=k
 .have hk:k.toNat=j:=by
   rw[seqIndex_of h0 h4] at h1;exact U9 h1
  exact W.ki_setAt ho h0 (by omega) (by rw[UP,←hl];exact h4) (by rw[hk];exact⟨_,I',q⟩)
 .have hk:(k+(its.toArray.size:Int)).toNat=j:=by
   rw[seqIndex_neg (by omega) h3] at h1;rw[UP,←hl];exact U9 h1
  exact W.ki_setBack ho (by omega) (by rw[UP,←hl];exact h3) (by omega) (by rw[hk];exact⟨_,I',q⟩)
def wY(lo hi:Option Int)(n:Nat):(sliceBounds lo hi none n).1=((HT.sIx n 0 lo:Nat):Int)/\(sliceBounds lo hi none n).2.1=((HT.sIx n n hi:Nat):Int)/\(sliceBounds lo hi none n).2.2=1:=by
 refine⟨?_,?_,rfl⟩
 .cases lo with
  |none=>simp [sliceBounds,HT.sIx]
  |some i =>
   simp only[sliceBounds,HT.sIx,Option.getD_none,show(1:Int) > 0 by decide,if_true]
   by_cases h:i<0
   .simp only[h,if_true]<;>omega
   .simp only[h,if_false]<;>omega
 .cases hi with
  |none=>simp [sliceBounds,HT.sIx]
  |some i =>
   simp only[sliceBounds,HT.sIx,Option.getD_none,show(1:Int) > 0 by decide,if_true]
   by_cases h:i<0
   .simp only[h,if_true]<;>omega
   .simp only[h,if_false]<;>omega
def vt(its:List Us)(lo hi:Option Int):slicePick its.toArray lo hi none=((its.drop (HT.sIx its.length 0 lo)).take (HT.sIx its.length its.length hi-HT.sIx its.length 0 lo)).toArray:=by
 obtain⟨h1,h2,h3⟩:=wY lo hi its.toArray.size;unfold slicePick;rw[h1,h2,h3];simp only[sliceRange_one,pick_run,UP]<;>rfl
noncomputable def So(K:Ut):V->Option Int->Option Int->Hp->VK->Prop:=λx lo hi H Q=>∃a xs,x=.ref a/\eX K H a xs/\∀p,H p=none->Q (.ref p) (upd H p (.lst (Ay xs lo hi)))
def Cm:Jk X (So X.K):=by
 intro π s σ H x v vl vu lo hi sl Q I rx hs pl pu h;obtain⟨a,xs,rfl,hx,q⟩:=h;cases rx;obtain⟨its,r,ht,hz⟩:=I.list hx;have hlen:=r.length;refine⟨"list",_,slot_list_getitem.lookup,ht.isList.typeIs,?_⟩;refine wpAny_getItem_list_slice ht.isList hs pl pu .none (by simp) ?_ (by rw[UP]<;>omega);rw[vt,←hlen];refine⟨.ref s.heap.objs.size,_,I.laid (t':=s.toks) (o:=.lst (Ay xs lo hi)) (λb ob q=>UC _ q) (UJ _) ?_,rfl,q _ (I.hok.fresh (UJ _))⟩;exact⟨Va (p7 xs lo hi) hz,_,0,(r.drop (HT.sIx xs.length 0 lo)).take (HT.sIx xs.length xs.length hi-HT.sIx xs.length 0 lo),Vy _ rfl⟩
def xi:eQ X (Vj .NotIn) (λx y H Q=>∃i j,x=.str i/\y=.str j/\Q (.bl (!(!(Wt j i 0 j.length 1).isEmpty))) H):=by
 intro π s σ H x y v u Q I rx ry h;obtain⟨i,j,rfl,rfl,q⟩:=h;obtain⟨t,rfl⟩:=rx;obtain⟨t',rfl⟩:=ry;exact notIn_str ⟨.bl _,H,I,rfl,q⟩
def yd:gO X (.type "list") (λxs H Q=>∃p ys,xs=[.ref p]/\(eX X.K H p ys∨kn X.K H p ys)/\∀l,H l=none->Q (.ref l) (upd H l (.lst ys))):=by
 intro π s σ H xs us Q I r h;obtain⟨p,ys,rfl,hq,q⟩:=h;obtain⟨u,rfl,rx⟩:=mR r;cases rx;have fin:∀(its:List Us),bE ys its->ys.length<=sizeLine->∀(h':UR) (c':Nat),(∀b o',s.heap.get? b=some o'->h'.get? b=some o') ->
   h'.get? s.heap.objs.size=some { cls:=.type "list",dict:=none,data:=.seq its.toArray c',slots:=#[] }->EP X π σ Q (.ref s.heap.objs.size) { s with heap:=h' }:=λits r' hz h' c' kp e =>
  ⟨.ref s.heap.objs.size,_,I.laid (t':=s.toks) kp (UJ _) (show bT X.prog X.w _ h' _ (.lst ys) from⟨hz,its,c',r',e⟩),rfl,q _ (I.hok.fresh (UJ _))⟩
 rcases hq with hq|hq
 .obtain⟨its,r',pl,hz⟩:=I.list hq
  have hlen:=r'.length;obtain⟨o,ho,hc,n,hd⟩:=pl.isList;exact call_list_seq p (.inl rfl) ho hc hd (λh' c' kp e=>fin its r' hz h' c' kp e) (by simp only[UP]<;>omega)
 .obtain⟨its,r',pl,hz⟩:=I.tuple hq
  have hlen:=r'.length;obtain⟨o,ho,hc,n,hd⟩:=pl;exact call_list_seq p (.inr rfl) ho hc hd (λh' c' kp e=>fin its r' hz h' c' kp e) (by simp only[UP]<;>omega)
def jf:gO X (.type "tuple") (λxs H Q=>∃p ys,xs=[.ref p]/\((eX X.K H p ys/\∀l,H l=none->Q (.ref l) (upd H l (.tup ys)))∨(kn X.K H p ys/\Q (.ref p) H))):=by
 intro π s σ H xs us Q I r h;obtain⟨p,ys,rfl,h⟩:=h;obtain⟨u,rfl,rx⟩:=mR r;cases rx;rcases h with⟨hq,q⟩|⟨hq,q⟩
 .obtain⟨its,r',pl,hz⟩:=I.list hq
  have hlen:=r'.length;refine call_tuple_list pl.isList (λh' kp=>?_) (by simp only[UP]<;>omega);have I1:Inv X π σ H { s with heap:=h' }:=I.kept (t':=s.toks) kp;have I2:Inv X π σ (upd H h'.objs.size (.tup ys)) { s with heap:=h'.push { cls:=.type "tuple",data:=.seq its.toArray } } :=
   I1.laid (t':=s.toks) (λb o e=>UC _ e) (UJ _) (show bT X.prog X.w _ _ _ (.tup ys) from⟨hz,its,r',YW _ _⟩)
  exact⟨.ref h'.objs.size,_,I2,rfl,q _ (I1.hok.fresh (UJ _))⟩
 .obtain⟨its,r',pl,hz⟩:=I.tuple hq
  exact call_tuple_same pl ⟨.ref p,H,I,rfl,q⟩
noncomputable def Tc(K:Ut) (T:String) (x:V) (H:Hp):Prop:=match x with
 |.str _=>T="str"
 |.int _=>T="int"
 |.ref p=>(T="list"/\∃xs,eX K H p xs)∨(T="tuple"/\∃o,K.lookup p=some o/\o.cls=.type "tuple"/\o.dict=none) ∨
   (T="dict"/\((∃kvs,H p=some (.dK kvs))∨∃kvs,H p=some (.dT kvs)))∨(T="set"/\∃S n,H p=some (.set S n))
 |_=>False
def Mv(I:Inv X π σ H s)(r:bF x v)(ty:Tc X.K T x H) :
  s.TypeIs v T/\∀a,v=.ref a->∃ob,s.heap.get? a=some ob/\ob.dict=none:=by
 cases x with
 |str z =>
  obtain⟨t,rfl⟩:=r;cases (show T="str" from ty);exact⟨typeIs_str s z t,λ_ e=>nomatch e⟩
 |int i =>
  obtain⟨t,rfl⟩:=r;cases (show T="int" from ty);exact⟨typeIs_int s i t,λ_ e=>nomatch e⟩
 |ref p =>
  cases r;rcases ty with⟨rfl,xs,hq⟩|⟨rfl,o,hk,hc,hd⟩|⟨rfl,hk⟩|⟨rfl,S,n,hk⟩
  .obtain⟨its,_,pl,_⟩:=I.list hq
   refine⟨pl.isList.typeIs,λa e=>?_⟩;cases e;obtain⟨o,n,e,c,hd,_⟩:=pl;exact⟨o,e,hd⟩
  .refine⟨⟨o,I.kIn p o hk,hc⟩,λa e=>?_⟩
   cases e;exact⟨o,I.kIn _ o hk,hd⟩
  .have z:∃o,s.heap.get? p=some o/\o.ExactDict:=by
    rcases hk with⟨kvs,hk⟩|⟨kvs,hk⟩
    .obtain⟨_,_,_,_,o,_,_,e,ex,_⟩:=I.hok p _ hk
     exact⟨o,e,ex⟩
    .obtain⟨_,_,_,_,o,_,_,e,ex,_⟩:=I.hok p _ hk
     exact⟨o,e,ex⟩
   obtain⟨o,e,ex⟩:=z;refine⟨⟨o,e,ex.1⟩,λa e2=>?_⟩;cases e2;exact⟨o,e,ex.2.1⟩
  .obtain⟨o,_,_,_,e,ex,_⟩:=I.hok p _ hk
   refine⟨⟨o,e,ex.1⟩,λa e2=>?_⟩;cases e2;exact⟨o,e,ex.2.1⟩
 |_=>exact VI ty
noncomputable def T4(K:Ut) (T:String) (r:V->List V->Hp->VK->Prop) (to:TE) (t:TA):TE:=λσ H Q=>to σ H λx H1=>Tc K T x H1/\t σ H1 λxs H2=>r x xs H2 Q
variable {o e:Vk}{es:List Vk}{to:TE}{t:TA}{name:US}{apos cpos:Pos}{T id:String}{r:V->List V->Hp->VK->Prop}
def G0(pa:PlainAttrs T)(slot:Slot T name id)(hty:typeOf (.builtin id)=pure (.type "method_descriptor"))(hm:TJ X id r)(ho:PE X o to)(ha:PA X (e::es) t)
  (hbase:WU o name X.env (eval o X.env)=eval o X.env:=by rfl)
  (hfew:((VA cpos (Uy (e::es) X.env)).all (λx=>!x.1)&&(XU cpos (W5 [] X.env)).all (λx=>x.1.isSome)
  &&decide ((e::es).length+([]:List Xs).length+(if([]:List Xs).isEmpty then 0 else 1)<30))=true:=by rfl)
  (hline:(apos.endLine==cpos.line)=true:=by rfl) (hs:Uy (e::es) X.env=(false,eval e X.env)::Uy es X.env:=by rfl) (hplain:(VA cpos (Uy es X.env)).any (·.1)=false:=by rfl) :
  PE X (.Call (.Attribute o name apos) (e::es) [] cpos) (T4 X.K T r to t):=by
 intro π s σ H Q I h;refine wpAny_Call_method_late hbase hfew hline rfl (cH (ho π s σ H _ I h) λv s1 ⟨x,H1,I1,r1,ty,q1⟩=>?_);obtain⟨h1,h2⟩:=Mv I1 r1 ty;refine⟨T,id,pa,slot,hty,h1,h2,?_⟩;have hA:=ha cpos π s1 σ H1 _ I1 q1;rw[hs] at hA ⊢;refine Y6 (by show(false||(VA cpos (Uy es X.env)).any (·.1))=false;rw[hplain]<;>rfl) (Xj ?_);exact cH hA λus s2 ⟨vs,H2,I2,r2,q2⟩=>hm π s2 σ H2 x vs v us Q I2 r1 r2 q2
end
noncomputable def Uq(X:Cx) (id:String) (r:V->List V->Hp->VK->Prop):Prop :=
 ∀(π:List (Uw×Obj)) (s:UE) (σ:St) (H:Hp) (x:V) (xs:List V) (v:Us) (us:List Us) (Q:VK),Inv X π σ H s->bF x v->bE xs us->r x xs H Q ->
  UO (UM X.prog X.w) X.A (call (.builtin id) (v::us)) (EP X π σ Q) X.xe s
theorem bE.one:∀{x:V}{us:List Us},bE [x] us->∃u,us=[u]/\bF x u
 |_,_,.cons r .nil=>⟨_,rfl,r⟩
theorem bE.rep(h:bE xs us):∀k:Nat,bE (UK k xs).flatten (UK k us).flatten
 |0=>.nil
 |k+1=>by
  rw[Vx,Vx,WD,WD];exact bE.append h (bE.rep h k)
theorem v8(its:List Us):∀(k:Nat) (acc:List Us),
  YG (λx1 x2=>x1++x2) acc.toArray (UK k its.toArray)=(acc++(UK k its).flatten).toArray
 |0,acc=>by simp
 |k+1,acc=>by
  have e:acc.toArray++its.toArray=(acc++its).toArray:=by simp
  have e2:(acc++its)++(UK k its).flatten=acc++(UK (k+1) its).flatten:=by
   rw[Vx,WD,Xr]
  rw[←e2,←v8 its k (acc++its),←e,Vx,List.foldl_cons]
section
variable {X:Cx}{π:List (Uw×Obj)}{σ:St}{H:Hp}{s:UE}{l b:Uw}{xs ys zs:List V}
def Inv.lset{its its':List Us}(I:Inv X π σ H s)(hH:H l=some (.lst xs))
  (e:s.heap.get? l=some { cls:=.type "list",data:=.seq its.toArray n })(hf:f its.toArray=its'.toArray)(hv:bE ys its')(hz:ys.length<=sizeLine) :
  Inv X π σ (upd H l (.lst ys)) { s with heap:=s.heap.update l (Yb f),toks:=t' }:=by
 have q:=PySem.IsL.update e f;rw[hf] at q;refine I.write (x:=l) (e:=l) (by rw[hH];exact trivial) (.inl rfl) (λb' u hb hu=>(V4 s.heap (Yb f) (Vh hb)).trans hu) ⟨_,q⟩ ?_;exact⟨hz,its',_,hv,q⟩
def Inv.lnew(I:Inv X π σ H s)(hv:bE ys its)(hz:ys.length<=sizeLine) :
  Inv X π σ (upd H s.heap.objs.size (.lst ys)) { s with heap:=s.heap.push { cls:=.type "list",data:=.seq its.toArray },toks:=t' } :=
 I.laid (λ_ _ q=>UC _ q) (UJ _) ⟨hz,its,0,hv,Vy _ rfl⟩
def Inv.fresh(I:Inv X π σ H s):H s.heap.objs.size=none:=I.hok.fresh (UJ _)
def Inv.lstM(I:Inv X π σ H s)(hH:H l=some (.lst xs)):xs.length<=sizeLine/\∃(its:List Us) (n:Nat),bE xs its/\xs.length=its.length/\s.heap.get? l=some { cls:=.type "list",data:=.seq its.toArray n }:=by
 obtain⟨z,its,n,r,e⟩:=I.hok l _ hH;exact⟨z,its,n,r,r.length,e⟩
def Hc(h:n<=sizeLine):Xw n=false:=by
 unfold Xw;exact decide_eq_false (by omega)
end
section
variable {X:Cx}
noncomputable def J1:V->List V->Hp->VK->Prop:=λx vs H Q=>∃l xs y,x=.ref l/\vs=[y]/\H l=some (.lst xs)/\xs.length<sizeLine/\Q .non (upd H l (.lst (xs++[y])))
def o7:Uq X "list.append" J1:=by
 intro π s σ H x vs v us Q I rx rv h;obtain⟨l,xs,y,rfl,rfl,hH,hz,q⟩:=h;cases rx;obtain⟨u,rfl,ru⟩:=rv.one;obtain⟨z,its,n,r,hl,e⟩:=I.lstM hH;refine call_meets F.slot_list_append ⟨_,e,rfl⟩ F.entry_list_append (F.args_list_append_2 _ _) (PySem.list_append l its.toArray n u (by rw[UP];omega)) ⟨e,?_⟩;refine⟨.non,_,I.lset (its':=its++[u]) hH e (by simp) (r.append (.cons ru .nil)) ?_,rfl,q⟩;rw[Vt,Y8];omega
noncomputable def Sq:R2:=λx y H Q=>∃l k xs,x=.ref l/\y=.int k/\H l=some (.lst xs)/\-(2 ^ 63)<=k/\k<2 ^ 63/\xs.length*k.toNat<=sizeLine /\
 ∀p,H p=none->Q (.ref p) (upd H p (.lst (UK k.toNat xs).flatten))
def KD{α:Type}(xs:List α)(k:Nat):(UK k xs).flatten.length=k*xs.length:=by
 induction k with|zero=>simp|succ k ih=>rw[Vx,WD,Vt,ih,Nat.succ_mul,Nat.add_comm]
def Nb:eQ X (binaryOp .Mult) Sq:=by
 intro π s σ H x y v u Q I rx ry h;obtain⟨l,k,xs,rfl,rfl,hH,h1,h2,hz,q⟩:=h;cases rx;obtain⟨t,rfl⟩:=ry;obtain⟨z,its,n,r,hl,e⟩:=I.lstM hH;have hlen:its.toArray.size*k.toNat<=sizeLine:=by rw[UP,←hl];exact hz
 have hcap:¬its.toArray.size*k.toNat > (2 ^ 63-1) / 8:=by
  have:(sizeLine:Nat)<=(2 ^ 63-1) / 8:=by decide
  omega
 have hfit:¬(!Builtin.List.listFitsIndex k)=true:=by
  rw[fitsIndex_both h1 h2];exact VC
 have hlong:¬Xw (its.toArray.size*k.toNat)=true:=by
  rw[Hc hlen];exact VC
 have hnew:YG (λx1 x2=>x1++x2) #[] (UK (if its.toArray.isEmpty=true then 0 else k.toNat) its.toArray)=(UK k.toNat its).flatten.toArray:=by
  have f0:∀m:Nat,YG (λx1 x2=>x1++x2) #[] (UK m its.toArray)=(UK m its).flatten.toArray:=λm=>by
   have:=v8 its m [];rw[We] at this;exact this
  rw[f0];cases its with|nil=>simp|cons a r'=>rw[if_neg (by simp)]
 refine wpAny_binaryOp_repeat_ref (T:="list") (U:="int") (by decide) ⟨_,e,rfl⟩ (λs'=>typeIs_int s' k t) noFill_list_mul F.fills_int_mul F.slot_int_rmul repeat_list F.slot_int_index.lookup
  (call_meets F.slot_int_rmul (typeIs_int s k t) F.entry_int_rmul (F.args_int_rmul_2 _ _) (int___rmul___int_list k t l its.toArray n)
   ⟨e,rfl,⟨_,e,rfl⟩,call_meets F.slot_list_mul ⟨_,e,rfl⟩ F.entry_list_mul (F.args_list_mul_2 _ _) (AutoListH.list___mul___list_int_3 l its.toArray n k t hfit hcap hlong) ⟨e,?_⟩⟩)
 rw[hnew];exact⟨.ref _,_,I.lnew (t':=s.toks) (r.rep k.toNat) (by rw[KD,Nat.mul_comm];exact hz),rfl,q _ I.fresh⟩
end
end L2
namespace Att
open PySem PySem.W PySem.Calls PyProof.Rows
def qD{h:UR}:∀(ns:List Int) (vs:List Us),WellAll P h vs (ns.map WData.int)->IntsAre vs ns:=by
 intro ns
 induction ns with
 |nil =>
  intro vs w;rw[Wc] at w;cases w;exact .nil
 |cons n ns ih =>
  intro vs w;rw[UW] at w;cases w with
  |cons a b =>
   cases a;exact .cons _ _ (ih _ b)
def Er{l:OpenLaw}(hn:l.most=some n){h:UR} 
  (hpre:l.row.toRowW.claim.pre args=true)(hwl:WellAll P h vals args) :
  ∃a vs ns,vals=[U8 a]/\args=[WData.list (ns.map WData.int)]/\h.get? a=some { cls:=.type "list",data:=.seq vs.toArray }/\IntsAre vs ns/\ns.length<=n:=by
 have hsh:WShape.hasAll [] args [.list .int]=true:=(pre_splitW hpre).1;have hc:l.pre.holds [] { args:=args }=true:=(pre_splitW hpre).2;obtain⟨d,r,rfl,h1,h2⟩:=hasAllW_cons hsh;obtain rfl:=hasAllW_nil h2;obtain⟨xs,rfl,h3⟩:=hasW_list h1;obtain⟨ns,rfl⟩:=items_int h3;have hlen:ns.length<=n:=by
  unfold OpenLaw.pre at hc;have h4:(WTm.not (.lt (.lit (.int (n:Int))) (.len (.arg 0)))).holds [] { args:=[.list (ns.map .int)] }=true:=by
   have h4:=(holds_andW hc).1;rw[hn] at h4;exact h4
  have h5:=condW_of h4 (w_not (w_lt w_lit (w_len_list (w_arg rfl))));rw[Uv] at h5;refine Nat.le_of_not_lt λq=>?_;have q':(n:Int)<((ns.length:Nat):Int):=by omega
  first
   |(rw[decide_eq_true q'] at h5;exact absurd h5 (by decide))
   |(simp at h5;omega)
 cases hwl with
 |cons w1 w2 =>
  cases w2;cases w1 with|list ho hall=>exact⟨_,_,ns,rfl,rfl,ho,qD ns _ hall,hlen⟩
def Ez(l:OpenLaw)(args:List WData):l.row.toRowW.claim.post args (.bool true) args=true :=
 postW_of (r:=l.row.toRowW) (X:=(true==true))
  (show WShape.has [] (.bool true) .bool=true by first|rfl|decide|simp [WShape.has,WShape.arms,WShape.armsAll])
  (show(WTm.eq .res (.lit (.bool true))).value [] { args:=args,res:=some (.bool true),after:=args }=some (.bool (true==true)) from w_eq_bool (w_res rfl) w_lit) rfl
def attach_call{l:OpenLaw} 
  (hn:l.most=some n)(hdf:d.params.defaults=[])
  (call:∀(w:VL) (sf sg:UE) (mg mb:US->Option Us) (fa:Uw) (o:Obj) (pm cd doc:Us) (a:Uw) (vs:List Us) (ns:List Int),
   Ground q loose [] XP w sf mg mb sg.heap->YP w sg.heap ->
   sg.heap.get? fa=some o->o.data=.func (docDef d.name d.params d.body d.scope pm cd doc)->sg.heap.CodeRec cd d.name->mg d.name=some (.ref fa) ->
   sg.heap.get? a=some { cls:=.type "list",data:=.seq vs.toArray }->IntsAre vs ns->ns.length<=n->sg.gens=#[] ->
   WC (UM l.prog w) callerA (.call (.ref fa) ⟨[.ref a],[]⟩) (λr s'=>r=.ok (.ret (.bool true))/\OldK sg.heap s'.heap/\s'.os=sg.os/\AllBare s'.gens) sg) :
  WalkO q loose XP YP l.row.toRowW d [] (λf vs=>PySem.call f vs):=by
 intro w sf sg mg mb G Y fa o pm cd doc dV kV ho hd hcd hD hmg hg args vals as hpre hlay hrd hwl hlo;obtain rfl:dV=.none:=Dflts.none hD hdf;obtain rfl:kV=.none:=Dflts.noKw hD;obtain⟨a,vs,ns,rfl,rfl,hobj,hints,hlen⟩:=Er hn hpre hwl;refine enter_call (codeAny_mono (call w sf sg mg mb fa o pm cd doc a vs ns G Y ho (fd_plain hd) hcd hmg hobj hints hlen hg) λr s' hq=>?_);obtain⟨rfl,h2,h3,h4⟩:=hq;exact⟨.inl ⟨.bool true,.bool true,[],rfl,λ_=>rfl,.bool true,Ez l _,λ_=>⟨X9.nil,λ_ hm=>(nomatch hm)⟩⟩,h2,h3,h4⟩
end Att
namespace L2
open PySem PySem.Spec PyProof.Rows
theorem vI:∀{vs:List Us}{ns:List Int},IntsAre vs ns->bE (ns.map V.int) vs
 |_,_,.nil=>.nil
 |_,_,.cons n t h=>.cons ⟨t,rfl⟩ (vI h)
def Lv(H:Hp):Prop:=∀b,H b=none∨∃o xs,H b=some (.frz o (.lst xs))
def Hm{K:Ut}{k:Nat} 
  (KX:K.In sg.heap)(hns:sg.heap.Ns UX mg)(hb:sg.heap.Ns builtinsNs mb)(hbb:∀x:US,x≠"__name__"->mb x=bootBuiltins x)(hlim:sg.heap.NoLimit)(hsm:∃mm,sg.heap.Ns VR mm)(hg:sg.gens=#[])
  (ha:sg.heap.get? a=some { cls:=.type "list",data:=.seq vs.toArray })(hi:IntsAre vs ns)(hl:ns.length<=sizeLine)(hr:cW k callerA)
  (F:∀base:UR,K.In base->base.Ns UX mg->fZ P w K mg base CX k fa fd [x] sp)(hbind:∀(s:UE) (u:Us),BindsTo s fd ⟨[u],[]⟩ [(x,u)])
  (hsp:∀H:Hp,Lv H->eX K H a (ns.map V.int)->sp [.ref a] H (λv _=>v=.bl true) λ_ _ _=>False)
  (hCX:∀H e s',CX [] H sg (λ_ _ _=>False) e s'->False) :
  WC (UM P w) callerA (.call (.ref fa) ⟨[.ref a],[]⟩) (λr s'=>r=.ok (.ret (.bool true))/\OldK sg.heap s'.heap/\s'.os=sg.os/\AllBare s'.gens) sg:=by
 have rv:=vI hi;have lenV:=hi.length;have core:∀H:Hp,Lv H->eX K H a (ns.map V.int)->gG P w H sg.heap->(∀b,H b≠none->b=a)->(H a≠none->K.lookup a=none) ->
   WC (UM P w) callerA (.call (.ref fa) ⟨[.ref a],[]⟩) (λr s'=>r=.ok (.ret (.bool true))/\OldK sg.heap s'.heap/\s'.os=sg.os/\AllBare s'.gens) sg:=by
  intro H hO hS hok hA hK;have base_of:∀{b:Uw}{o:Obj},sg.heap.get? b=some o->H b=none->(xD sg.heap H).get? b=some o:=λe n=>Hw e n;have noA:∀{b:Uw}{o:Obj}{es:Array XG}{ep:Nat},sg.heap.get? b=some o->o.data=.dict es ep->H b=none:=λ{b o es ep} e d=>by
   cases q:H b with
   |none=>rfl
   |some u =>
    have e':b=a:=hA b (by rw[q];simp);subst e';rw[ha] at e;cases e;have d':Data.seq vs.toArray _=Data.dict es ep:=d;cases d'
  have nsK:∀{b:Uw}{m:US->Option Us},sg.heap.Ns b m->(xD sg.heap H).Ns b m:=λ{b m} ⟨o,es,ep,e,d,r⟩=>⟨o,es,ep,base_of e (noA e d),d,r⟩
  have hKb:K.In (xD sg.heap H):=λb o e=>base_of (KX b o e) (by
   cases q:H b with
   |none=>rfl
   |some u =>
    have e':b=a:=hA b (by rw[q];simp);subst e';rw[hK (by rw[q];simp)] at e;cases e)
  have hM:Mod K mg (xD sg.heap H):=⟨hKb,nsK hns,⟨mb,nsK hb,hbb⟩,let ⟨mc,h1,h2⟩:=hlim;⟨mc,nsK h1,h2⟩,let ⟨mm,h1⟩:=hsm;⟨mm,nsK h1⟩⟩
  have e0:AK P w K mg (xD sg.heap H) callerA [] sg H:=⟨rfl,hM,λb o e=>Kn e,Nat.le_of_eq (EV _ _),trivial,λb hb=>absurd (show b∈([]:List Uw) from hb) (by simp),hok,.of_eq hg⟩
  refine codeAny_mono ((F _ hKb (nsK hns)).run callerA [] sg H ⟨[.ref a],[]⟩ [.ref a] [.ref a] _ _ hr e0 (hbind sg (.ref a)) (.cons rfl .nil) (hsp H hO hS)) λr s' h=>?_;cases r with
  |error e=>exact(hCX H e s' h).elim
  |ok fl =>
   cases fl with
   |next|brk|cont=>exact VI h
   |ret u =>
    obtain⟨v,H',os,bare,un,hok',r',q⟩:=h;have q':v=.bl true:=q;subst q';obtain rfl:u=VT true:=r';refine⟨rfl,OldK.of_keep λb o e=>?_,os,bare⟩;cases q:H b with
    |none=>exact un.keep b o e q (by intro z;exact absurd (show b∈([]:List Uw) from z) (by simp)) (by simp)
    |some u =>
     rcases hO b with z|⟨ob,xs,z⟩
     .rw[q] at z;cases z
     .have z2:=un.frzs b ob _ z
      obtain⟨e1,_⟩:=hok b _ z;obtain⟨e2,_⟩:=hok' b _ z2;rw[e] at e1;cases e1;exact e2
 cases hk:K.lookup a with
 |some o =>
  have e:=KX a o hk;rw[ha] at e;cases e;refine core (λ_=>none) (λ_=>.inl rfl) (.inr ⟨_,vs.toArray,_,hk,rfl,rfl,rfl,by rw[UP,lenV];exact hl,by simpa using rv⟩) (λb u z=>by have z':(none:Option HO)=some u:=z;cases z') (λb z=>absurd rfl z) λz=>absurd rfl z
 |none =>
  refine core (λb=>if b=a then some (.frz { cls:=.type "list",data:=.seq vs.toArray } (.lst (ns.map V.int))) else none) (λb=>?_) (.inl (.inr ⟨{ cls:=.type "list",data:=.seq vs.toArray },if_pos rfl⟩)) (λb u z=>?_) (λb z=>?_) λ_=>hk
  .by_cases hb:b=a
   .exact .inr ⟨_,_,if_pos hb⟩
   .exact .inl (if_neg hb)
  .by_cases hb:b=a
   .have z':=(if_pos hb).symm.trans z
    cases z';subst hb;exact⟨ha,by rw[Uv];exact hl,vs,_,rv,ha⟩
   .have z':=(if_neg hb).symm.trans z
    cases z'
  .by_cases hb:b=a
   .exact hb
   .exact absurd (if_neg hb) z
abbrev KOf{K:Ut}{h:UR}(_:K.In h):Ut:=K
def JG{l:W.OpenLaw}{n k:Nat}{K:Params->Ut}{CX:VL->Cd}{sp:VL->Sp} 
  (hi:importsNone q=true)(hn:l.most=some n)(hn2:n<=sizeLine)(hdf:d.params.defaults=[])(hr:cW k callerA)
  (hY:∀(w:VL) (h:UR),YP w h->(K w.params).In h)
  (F:∀(w:VL) (mg:US->Option Us) (fa:Uw) (h:UR),(K w.params).In h->h.Ns UX mg->mg d.name=some (.ref fa) ->
   ∃fd:VZ,(∀(s:UE) (u:Us),BindsTo s fd ⟨[u],[]⟩ [(x,u)]) /\
    ∀base:UR,(K w.params).In base->base.Ns UX mg->fZ l.prog w (K w.params) mg base (CX w) k fa fd [x] (sp w))
  (hsp:∀(w:VL) (H:Hp) (a:Uw) (ns:List Int),ns.length<=n->Lv H->eX (K w.params) H a (ns.map V.int)->sp w [.ref a] H (λv _=>v=.bl true) λ_ _ _=>False)
  (hCX:∀(w:VL) (H:Hp) (s:UE) (e:Us) (s':UE),CX w [] H s (λ_ _ _=>False) e s'->False) :
  W.WalkO q loose XP YP l.row.toRowW d [] (λf vs=>PySem.call f vs):=by
 refine Att.attach_call hn hdf λw sf sg mg mb fa o pm cd doc a vs ns G Y ho hd hcd hmg hobj hints hlen hg=>?_;have KX:=hY w _ Y;obtain⟨fd,hb,hF⟩:=F w mg fa _ KX G.T.g hmg;exact Hm KX G.T.g G.T.b G.T.builtins G.T.nolimit (let ⟨mm,h1,_⟩:=(G.T.seer hi).mods;⟨mm,h1⟩) hg hobj hints (Va hlen hn2) hr hF hb (λH hO hS=>hsp w H a ns hlen hO hS) λH e s'=>hCX w H sg e s'
def walk_ofK{l:W.OpenLaw}{n k:Nat}{K:Params->Ut}{sp:Ut->Sp} 
  (hi:importsNone q=true)(hn:l.most=some n)(hn2:n<=sizeLine)(hdf:d.params.defaults=[])(hr:cW k callerA)
  (hY:∀(w:VL) (h:UR),YP w h->(K w.params).In h)
  (F:∀(w:VL) (mg:US->Option Us) (fa:Uw) (h:UR),(K w.params).In h->h.Ns UX mg->mg d.name=some (.ref fa) ->
   ∃fd:VZ,(∀(s:UE) (u:Us),BindsTo s fd ⟨[u],[]⟩ [(x,u)]) /\
    ∀base:UR,(K w.params).In base->base.Ns UX mg->fZ l.prog w (K w.params) mg base CX k fa fd [x] (sp (K w.params)))
  (hsp:∀(K:Ut) (H:Hp) (a:Uw) (ns:List Int),ns.length<=n->Lv H->eX K H a (ns.map V.int)->sp K [.ref a] H (λv _=>v=.bl true) λ_ _ _=>False)
  (hCX:∀(H:Hp) (s:UE) (e:Us) (s':UE),CX [] H s (λ_ _ _=>False) e s'->False) :
  W.WalkO q loose XP YP l.row.toRowW d [] (λf vs=>PySem.call f vs) :=
 JG (K:=K) (CX:=λ_=>CX) (sp:=λw=>sp (K w.params)) hi hn hn2 hdf hr hY F (λw H a ns h1 h2 h3=>hsp (K w.params) H a ns h1 h2 h3) λ_ H s e s'=>hCX H s e s'
noncomputable def Dc(s:V0) (j:Nat):V0:=match s with
 |.ClassDef _ _ _ body _ _ _ _ _ _ _=>body.getD j (.Pass ⟨0,0,0,0⟩)
 |_=>.Pass ⟨0,0,0,0⟩
noncomputable def defArgs(s:V0):Arguments:=match s with
 |.FunctionDef _ a _ _ _ _ _ _ _ _=>a
 |_=>{ posonlyargs:=[],args:=[],vararg:=none,kwonlyargs:=[],kw_defaults:=[],kwarg:=none,defaults:=[] }
noncomputable def defBody(s:V0):List V0:=match s with
 |.FunctionDef _ _ b _ _ _ _ _ _ _=>b
 |_=>[]
noncomputable def defScope(s:V0):XX:=match s with
 |.FunctionDef _ _ _ _ _ _ sc _ _ _=>sc
 |_=>{ kind:=.function,names:=[],isGenerator:=false,isCoroutine:=false }
abbrev CX0:Cd:=λ_ _ _ _ _ _=>False
abbrev E0:XK:=λ_ _ _=>False
def CD:gM CX0 X E0:=λ_ _ _ _ _ _ _ h=>h.elim
structure Fy (K:Ut) (x qual:US) (st:V0) (f:Uw) (fd:VZ):Prop where
 ex:∃(oc:Us) (od:Option Uw) (kV doc pm:Us) (an:Option Uw) (cdv ct:Us) (osl:Array (Option Us)),
  fd=WH x qual (defArgs st) (defBody st) (defScope st) .none kV doc pm an cdv ct/\K.lookup f=some ⟨oc,od,.func fd,osl⟩/\Yl K cdv qual=true
 kp:WV K (.ref f)=true
section
variable {P:Vq}{w:VL}{K:Ut}{mg:US->Option Us}{base:UR}
def Fy.ok{st:V0}{N ps:List US}{k:Nat}(F:Fy K x qual st f fd)(S:eY N ps (defScope st))(len:∀vs H Q E,sp vs H Q E->vs.length=ps.length)
  (hbody:∀(cdv:Us) (A:Vw) (outer:List Env) (s:UE) (H:Hp) (vs:List V) (Q:VK) (E:XK),cW k (A.deeper (envOfC qual (defScope st) s.heap.objs.size f cdv))->sp vs H Q E ->
   ∃t,wK (dW CX0 P w K mg base N qual (defScope st) f cdv A outer s H E).nox (defBody st) t/\t { nx:=λ_ H'=>Q .non H',rt:=Q } (start N vs) H):fZ P w K mg base CX0 (k+1) f fd ps sp:=by
 obtain⟨oc,od,kV,doc,pm,an,cdv,ct,osl,rfl,lk,hcd⟩:=F.ex;refine LX lk hcd S len λA outer s H vs Q E hr hsp=>?_;obtain⟨t,h,q⟩:=hbody cdv A outer s H vs Q E hr hsp;exact⟨t,h.nox,q⟩
def Fy.binds{st:V0}{ps:List US}(F:Fy K x qual st f fd)
  (h:∀(kV doc pm:Us) (an:Option Uw) (cdv ct:Us) (us:List Us),us.length=ps.length->bindArgs (WH x qual (defArgs st) (defBody st) (defScope st) .none kV doc pm an cdv ct) ⟨us,[]⟩=pure (ps.zip us)):iL K fd ps []:=by
 obtain⟨oc,od,kV,doc,pm,an,cdv,ct,osl,rfl,lk,hcd⟩:=F.ex;exact .all (h kV doc pm an cdv ct)
def pq{st:V0}{kV doc pm cdv ct:Us}(l:K.lookup f=some ⟨oc,od,.func (WH x qual (defArgs st) (defBody st) (defScope st) .none kV doc pm an cdv ct),osl⟩)
  (c:Yl K cdv qual=true)(k:WV K (.ref f)=true):Fy K x qual st f (WH x qual (defArgs st) (defBody st) (defScope st) .none kV doc pm an cdv ct):=⟨⟨oc,od,kV,doc,pm,an,cdv,ct,osl,rfl,l,c⟩,k⟩
end
def aG(H H':Hp):Prop:=∀b o,H b=some o->H' b=some o
def aG.refl(H:Hp):aG H H:=λ_ _ h=>h
def aG.trans(a:aG H H1)(b:aG H1 H2):aG H H2:=λc o h=>b c o (a c o h)
def aG.free(e:aG H H')(h:H' l=Yw):H l=Yw:=by
 cases q:H l with
 |none=>rfl
 |some o =>
  rw[e l o q] at h;cases h
end L2
namespace DL
open PySem PySem.Spec PySem.Calls PySem.W PyProof.Rows Builtin Builtin.ObjectAttr Builtin.Getset_descriptor
section
variable {prog:Vq}{w:VL}{A:Vw}{E:Us->UE->Prop}{h:UR}{g:Array GenState}{d:Drawn}{t:Nat}{os:OsState}{a C:Uw}{o:Obj}{K:Frag}
structure oH (K:Frag) (C:Uw):Prop where
 cls:findIn K (.ref C) "__class__"=some (some (.builtin "object.__class__"))
 ga:findIn K (.ref C) "__getattribute__"=some (some (.builtin "BaseException.__getattribute__"))
 gt:findIn K (.ref C) "__getattr__"=some none
 ob:mroIn K C (.type "object")=some true
 be:subIn K (.ref C) (.type "BaseException")=some true
def Ms(X:K.In h)(Z:oH K C)(hx:h.get? a=some o)(hc:o.cls=.ref C)(hq:R (.ok (.ret (.ref C))) ⟨h,g,d,t,os⟩) :
  WC (UM prog w) A (.call (.builtin "getset_descriptor.__get__") ⟨[.builtin "object.__class__",.ref a,tp],[]⟩) R ⟨h,g,d,t,os⟩:=by
 have L0:Looks (UM prog w) h (typeOf (.ref a)) (.ref C):=hc▸(Looks.ld hx).andThen .now;have L1:=looks_mroIn (M:=UM prog w) X Z.ob;refine codeAny_call_builtin KF.slot_gs.plain KF.entry_gs (KF.slot_gs.check _ _ _ _ _ _ _ _ KF.type_class (KF.args_gs _ _ _) ?_);unfold Builtin.«getset_descriptor.__get__» descrGet;rw[dga_obj];refine Uu (UU ?_);unfold descrGetter descrCheckInstance descrNameAndClass isInstance;simp only[KF.owner_class]
 repeat lk
 refine⟨Yg _ (by decide +kernel),codeAny_builtin KF.entry_class ?_⟩;unfold Builtin.«object.__class__» shownTypeOf
 repeat lk
 exact hq
def yz(X:K.In h)(Z:oH K C)(hx:h.get? a=some o)(hc:o.cls=.ref C)(hq:Q () ⟨h,g,d,t,os⟩):UO M A (checkBuiltinCall "BaseException.__getattribute__" ⟨[.ref a,nameV],[]⟩) Q E ⟨h,g,d,t,os⟩:=by
 have hk:builtinKind "BaseException.__getattribute__"=some .slot:=by decide +kernel
 have hsplit:splitId "BaseException.__getattribute__"=some ("BaseException","__getattribute__"):=by decide +kernel
 have ha:=F.args_bexc_ga (.ref a) nameV;have LS:Looks M h (isSubtype (.ref C) (.type "BaseException")) true:=looks_subIn X Z.be;simp only[checkBuiltinCall,hk,hsplit];refine Uu ?_
 .unfold isInstance
  repeat (first|(with_reducible refine V2 hx ?_;rw[hc])|(with_reducible refine LS.at ?_)|wp_step)
  exact hq
def FP(X:K.In h)(Z:oH K C)(hx:h.get? a=some o)(hc:o.cls=.ref C)(hq:Q (.done (.ret (.ref C))) ⟨h,g,d,t,os⟩) :
  UO (UM prog w) A (Builtin.«object.__getattribute__» ⟨[.ref a,.str "__class__" tk],[]⟩) Q E ⟨h,g,d,t,os⟩:=by
 have hT5:(⟨h,g,d,t,os⟩:UE).TypeIs (.builtin "object.__class__") "getset_descriptor":=Za;have f5:=Za;have f6:=F.slot_gs_get.lookup;have f7:=F.slot_gs_set.lookup;have LC:Looks (UM prog w) h (W2 (.ref C) "__class__") (some (.builtin "object.__class__")):=looks_findIn X Z.cls
 repeat (any_goals (first|assumption|(with_reducible refine V2 hx ?_;rw[hc])|(with_reducible refine LC.at ?_)|wp_step))
 refine Ms X Z hx hc ?_
 repeat (any_goals (first|assumption|wp_step))
def Jy(X:K.In h)(Z:oH K C)(hx:h.get? a=some o)(hc:o.cls=.ref C)(hq:R (.ok (.ret (.ref C))) ⟨h,g,d,t,os⟩) :
  WC (UM prog w) A (.call (.builtin "BaseException.__getattribute__") ⟨[.ref a,.str "__class__" tk],[]⟩) R ⟨h,g,d,t,os⟩ :=
 codeAny_call_builtin Xt.ga.plain F.entry_bexc_ga (yz X Z hx hc (FP X Z hx hc hq))
def O0(X:K.In h)(Z:oH K C)(hx:h.get? a=some o)(hc:o.cls=.ref C)(hq:Q (.ref C) ⟨h,g,d,t,os⟩) :
  UO (UM prog w) A (getAttrBy (.ref a) (.str "__class__" tk) false) Q E ⟨h,g,d,t,os⟩:=by
 have f3:=Xt.ga.bind (.ref a);have hx2:(WA "BaseException.__getattribute__"==WA "object.__getattribute__")=false:=by decide +kernel
 have hx1:(onTheHeap (U8 C)&&WA "BaseException.__getattribute__"==WA "object.__getattribute__")=false:=by rw[hx2];rfl
 have L1:Looks (UM prog w) h (W2 (.ref C) "__getattribute__") (some (.builtin "BaseException.__getattribute__")):=looks_findIn X Z.ga;have L2:Looks (UM prog w) h (W2 (.ref C) "__getattr__") none:=looks_findIn X Z.gt
 repeat (any_goals (first|assumption|(with_reducible refine V2 hx ?_;rw[hc])|(with_reducible refine L1.at ?_)|(with_reducible refine L2.at ?_)|wp_step))
 refine Jy X Z hx hc ?_
 repeat (any_goals (first|assumption|wp_step))
def Jz(X:K.In h)(Z:oH K C)(hx:h.get? a=some o)(hc:o.cls=.ref C)(hq:Q (some (.ref C)) ⟨h,g,d,t+1,os⟩):UO (UM prog w) A (getAttr? (.ref a) "__class__") Q E ⟨h,g,d,t,os⟩:=by
 unfold getAttr? getAttrBy?
 repeat (any_goals (first|assumption|with_reducible apply O0 X Z hx hc|wp_step))
end
noncomputable def yl(a C:Uw) (dc:Option Uw):UR->Prop:=λh=>∃o vs,h.get? a=some o/\o.cls=.ref C/\o.data=.fields vs/\o.dict=dc
def nc{K:Frag}{a C:Uw}{dc:Option Uw}(Z:oH K C)(hC:(clsIn K C).isSome=true):KitX K (.ref a) (.ref C) (yl a C dc) where
 ty:=λ_ _ _ ⟨o,_,h1,h2,_⟩=>h2▸(Looks.ld h1).andThen .now
 it:=λ_ _ X _=>by
  obtain⟨cd,hcD⟩:=Xv.mp hC;unfold clsIn at hcD;split at hcD
  .rename_i c' d' cd' sl' ho
   intro A' Q' E' s' k q;unfold isType loadHead;exact Uu (wpAny_loadPart (k _ _ (X _ _ ho)) (UU q))
  .cases hcD
 ne:=λh tp dd its n sl X htp=>by
  obtain⟨cd,hcD⟩:=Xv.mp hC;refine Bool.eq_false_iff.mpr λq=>?_;have e:C=tp:=U8.inj (beq_iff_eq.mp q);subst e;unfold clsIn at hcD;split at hcD
  .rename_i c' d' cd' sl' ho
   have z:=(X _ _ ho).symm.trans htp;cases z
  .cases hcD
 ca:=λ{_ _ _ _ _ s} X ⟨o,_,h1,h2,_⟩ k=>by
  obtain⟨h,g,d,t,os⟩:=s;exact Jz X Z h1 h2 k
def oH.isCls{K:Frag}(Z:oH K C):(clsIn K C).isSome=true:=by
 obtain⟨cd,a,b⟩:=YV.mp Z.ob;rw[a];rfl
def gL:List String:=["NoneType","bool","int","str","tuple","list","dict"]
structure XC (K:Frag) (x:US) (C:Uw):Prop where
 ns:nsIn K UX x=some (some (.ref C))
 ek:oH K C
 bt:∀T∈gL,kitOne K (.ref C) (.type T)=some false
end DL
namespace DL
open PySem PySem.Spec PyProof.Rows L2
def uO(o:Obj)(f:Array Us->Array Us):(o.mapFields f).dict=o.dict:=by unfold Obj.mapFields;split<;>rfl
def lY(h:UR)(e:Uw)(dc:Option Uw):Prop:=∃o,h.get? e=some o/\o.dict=dc
section
variable {M:Model}{A:Vw}{E:Us->UE->Prop}{s:UE}{base:UR}{env:VP}{outer l:List VP}{L e:Uw}{cls a0 fl:Us}{dc:Option Uw}{Q:Unit->UE->Prop}
def zV(hfr:A.frames=some (env::outer))(hl:s.heap.FunFrames base (env::outer))(hf:env.frame=some L)(he:s.heap.get? e=some oe)(kb:base.StaysIn s.heap)(hen:base.get? e=none)(hd:oe.data=.fields vs)(hz:1<vs.size)(h0:vs[0]?=some a0)
  (h:∀h',Zm base (env::outer) e oe.cls a0 (rawInt L) s.heap h'->lY h' e oe.dict->Q () { s with heap:=h' }) :
  UO M A (do
   let a ←frameOf env
   let pl ←entryPlaceOf L b0
   let b ←Zs head a .none (rawInt L) .none pl
   setField (.ref e) 1 b) Q E s:=by
 have nf:e∉(env::outer).filterMap (·.frame):=λhm=>by
  obtain⟨_,o,ho,q⟩:=hl.mem hm;rw[he] at ho;cases ho;exact q vs hd
 refine Uu (wpAny_frameOf_fun hfr hl hf λg ⟨_,same,slots⟩=>Uu (wpAny_entryPlaceOf λpl hpl=>?_));have ge:g.get? e=some oe:=(same e nf).trans he;have up:∀(N:Obj) (f:Obj->Obj) (b:Uw) (o:Obj),b≠e->g.get? b=some o->((g.push N).update e f).get? b=some o:=λN f b o hb q=>(V4 _ _ (Vh hb)).trans (UC _ q);have ne:∀b o,s.heap.get? b=some o->(∀vs,o.data≠.fields vs)->b≠e:=λb o q z c=>by subst c;rw[he] at q;cases q;exact z vs hd
 have kg:base.StaysIn g:=λb o q=>(same b λhm=>by rw[(hl.mem hm).1] at q;cases q).trans (kb b o q);unfold Zs newFields;refine Uu (wpAny_newObj_type ?_ (hpl.sizeOk5 _ _ _ _ _));have d3:=Yc hd (·.setIfInBounds 1 (U8 g.objs.size));have hTe:g.objs.size≠e:=Nat.ne_of_gt (UT ge);have at_e:∀N:Obj,((g.push N).update e (Obj.mapFields (·.setIfInBounds 1 (U8 g.objs.size)))).get? e=some (oe.mapFields (·.setIfInBounds 1 (U8 g.objs.size))):=λN=>V8 _ (UC _ ge) (Y7 d3);refine wpAny_setField (UC _ ge) hd hz (h _ ⟨λb o q=>up _ _ b o (λc=>by subst c;rw[hen] at q;cases q) (kg b o q),hl.of_keeps λb o q z=>?_,?_,λb o q z=>?_⟩ ⟨_,at_e _,uO _ _⟩)
 .obtain⟨sl,x⟩:=slots b o q
  exact⟨_,up _ _ b _ (ne b o q z) x,rfl⟩
 .refine⟨_,_,g.objs.size,_,_,at_e _,⟨Obj.cls_mapFields _ _,?_⟩,d3,?_,kg.fresh,hTe,(V4 _ _ (Vh hTe)).trans (Vy g rfl),rfl,?_⟩
  .rw[Array.getElem?_setIfInBounds_ne (by decide)];exact h0
  .simp [hz]
  .first|(simp;done)|(rcases hpl with rfl|⟨_,_,_,_,_,_,_,rfl⟩<;>simp)
 .obtain⟨sl,x⟩:=slots b o q
  exact⟨sl,up _ _ b _ (ne b o q z) x⟩
def HF(hfr:A.frames=some (env::outer))(hl:s.heap.FunFrames base (env::outer))(hf:env.frame=some L)(he:s.heap.get? e=some oe)(kb:base.StaysIn s.heap)(hen:base.get? e=none)(hd:oe.data=.fields vs)(h1:vs[1]?=some .none)(h0:vs[0]?=some a0)
  (h:∀h',Zm base (env::outer) e oe.cls a0 (rawInt L) s.heap h'->lY h' e oe.dict->Q () { s with heap:=h' }):UO M A (noteFrame (.ref e) env) Q E s:=by
 unfold noteFrame;simp only[hf];refine Uu (wpAny_field he hd h1 ?_);rw[if_neg (by decide)];exact zV hfr hl hf he kb hen hd (WL.mp h1).1 h0 h
def Dj(hfr:A.frames=some (env::outer))(hl:s.heap.FunFrames base (env::outer))(hf:env.frame=some L)(ht:s.heap.TracedW base e cls a0)(hc:lY s.heap e dc)(kb:base.StaysIn s.heap)(hen:base.get? e=none)
  (h:∀h',Zm base (env::outer) e cls a0 (rawInt L) s.heap h'->lY h' e dc->Q () { s with heap:=h' }):UO M A (noteFrame (.ref e) env) Q E s:=by
 obtain⟨oe,vs,T,oT,ts,he,⟨rfl,h0⟩,hd,h1,hnT,hTe,hT,dT,h3⟩:=ht;obtain⟨o',q,rfl⟩:=hc;rw[he] at q;cases q;have oth:∀(f:Obj->Obj) (b:Uw),b≠T->(s.heap.update T f).get? b=s.heap.get? b:=λf b hb=>V4 _ _ (Vh hb);have ne:∀b o,s.heap.get? b=some o->(∀vs,o.data≠.fields vs)->b≠T:=λb o q z c=>by subst c;rw[hT] at q;cases q;exact z ts dT
 unfold noteFrame;simp only[hf];refine Uu (wpAny_field he hd h1 ?_);rw[if_pos (by simp)];refine Uu (wpAny_field hT dT h3 ?_);rw[if_neg (by simp [rawInt])];refine Uu (wpAny_setField hT dT (WL.mp h3).1 ?_);refine zV hfr (hl.of_keeps λb o q z=>⟨o,(oth _ b (ne b o q z)).trans q,rfl⟩) hf ((oth _ e (Vh hTe)).trans he) (λb o q=>(oth _ b λc=>by subst c;rw[hnT] at q;cases q).trans (kb b o q)) hen hd (WL.mp h1).1 h0 λh' ⟨x1,x2,x3,x4⟩ x5=>h h' ⟨x1,x2,x3,λb o q z=>x4 b o ((oth _ b (ne b o q z)).trans q) z⟩ x5
def lN(kb:base.StaysIn s.heap)(hl:s.heap.FunFrames base l)(ht:s.heap.TracedAtW base e cls a0 fl)(hc:lY s.heap e dc)
  (h:∀h',base.StaysIn h'->h'.FunFrames base l->h'.TracedW base e cls a0->(∀b o,s.heap.get? b=some o->(∀vs,o.data≠.fields vs)->h'.get? b=some o)->lY h' e dc->Q () { s with heap:=h' }):UO M A (setFlight (.ref e) none) Q E s:=by
 obtain⟨oe,vs,T,oT,ts,he,hcl,hd,h1,hnT,hTe,hT,dT,h3⟩:=ht;have z3:3<ts.size:=(WL.mp h3).1;have oth:∀(f:Obj->Obj) (b:Uw),b≠T->(s.heap.update T f).get? b=s.heap.get? b:=λf b hb=>V4 _ _ (Vh hb);have ne:∀b o,s.heap.get? b=some o->(∀vs,o.data≠.fields vs)->b≠T:=λb o q z c=>by subst c;rw[hT] at q;cases q;exact z ts dT
 unfold setFlight;refine Uu (wpAny_field he hd h1 ?_);rw[if_pos (by simp)];obtain⟨o',q',rfl⟩:=hc;refine wpAny_setField hT dT z3 (h _ (λb o q=>(oth _ b λc=>by subst c;rw[hnT] at q;cases q).trans (kb b o q)) (hl.of_keeps λb o q z=>⟨o,(oth _ b (ne b o q z)).trans q,rfl⟩) ?_ (λb o q z=>(oth _ b (ne b o q z)).trans q) ⟨o',(oth _ e (Vh hTe)).trans q',rfl⟩);exact⟨oe,vs,T,_,_,(oth _ e (Vh hTe)).trans he,hcl,hd,h1,hnT,hTe,V8 _ hT (Y7 (Yc dT _)),Yc dT _,by simp [z3]⟩
noncomputable def Rl(h:UR) (e:Uw) (ox:Option Uw):Prop:=∃dc,lY h e dc/\(ox=none∨ox=dc)
def BD(hfr:A.frames=some (env::outer))(hl:s.heap.FunFrames base (env::outer))(hf:env.frame=some L)(he:s.heap.get? e=some oe)(kb:base.StaysIn s.heap)(hen:base.get? e=none)(hd:oe.data=.fields vs)(h1:vs[1]?=some .none)(h0:vs[0]?=some a0)
  (h:∀h',Wv base outer e oe.cls a0 h'->s.heap.UpToSlots h'->lY h' e oe.dict->Q () { s with heap:=h' }):UO M A (leaving env (.ref e)) Q E s:=by
 unfold leaving;refine Uu (HF hfr hl hf he kb hen hd h1 h0 λg ⟨k1,k2,k3,k4⟩ dg=>?_);refine lN (s:={ s with heap:=g }) k1 k2 k3 dg λh' m1 ⟨_,_,m2⟩ m3 m4 dh=>h h' ⟨m1,hen,m2,m3⟩ (λb o q z=>?_) dh;obtain⟨sl,x⟩:=k4 b o q z;exact⟨sl,m4 b _ x z⟩
def E3(hfr:A.frames=some (env::outer))(hf:env.frame=some L)(hfl:Wv base (env::outer) e cls a0 s.heap)(hc:lY s.heap e dc)
  (h:∀h',Wv base outer e cls a0 h'->s.heap.UpToSlots h'->lY h' e dc->Q () { s with heap:=h' }):UO M A (leaving env (.ref e)) Q E s:=by
 obtain⟨f1,f2,f3,f4⟩:=hfl;unfold leaving;refine Uu (Dj hfr f3 hf f4 hc f1 f2 λg ⟨k1,k2,k3,k4⟩ dg=>?_);refine lN (s:={ s with heap:=g }) k1 k2 k3 dg λh' m1 ⟨_,_,m2⟩ m3 m4 dh=>h h' ⟨m1,f2,m2,m3⟩ (λb o q z=>?_) dh;obtain⟨sl,x⟩:=k4 b o q z;exact⟨sl,m4 b _ x z⟩
def HG(hfr:A.frames=some (env::outer))(hf:env.frame=some L)(hfl:Wv base (env::outer) e cls a0 s.heap)(hc:lY s.heap e dc)
  (h:∀h',Heap.HeldW base (env::outer) e cls a0 L h'->s.heap.UpToSlots h'->lY h' e dc->Q () { s with heap:=h' }):UO M A (noteFrame (.ref e) env) Q E s:=by
 obtain⟨f1,f2,f3,f4⟩:=hfl;exact Dj hfr f3 hf f4 hc f1 f2 λg ⟨k1,k2,k3,k4⟩ dg=>h g ⟨k1,f2,k2,k3⟩ k4 dg
def HH(hh:Heap.HeldW base l e cls a0 L s.heap)(hc:lY s.heap e dc)(h:∀h',Wv base l e cls a0 h'->s.heap.UpToSlots h'->lY h' e dc->Q () { s with heap:=h' }):UO M A (setFlight (.ref e) none) Q E s:=by
 obtain⟨f1,f2,f3,f4⟩:=hh;exact lN f1 f3 f4 hc λh' k1 k2 k3 k4 k5=>h h' ⟨k1,f2,k2,k3⟩ (λb o q z=>⟨o.slots,k4 b o q z⟩) k5
def HI(hh:Wv base l e cls a0 s.heap)(hc:lY s.heap e dc)(h:∀h',Wv base l e cls a0 h'->s.heap.UpToSlots h'->lY h' e dc->Q () { s with heap:=h' }):UO M A (setFlight (.ref e) none) Q E s:=by
 obtain⟨f1,f2,f3,f4⟩:=hh;exact lN f1 f3 f4.at hc λh' k1 k2 k3 k4 k5=>h h' ⟨k1,f2,k2,k3⟩ (λb o q z=>⟨o.slots,k4 b o q z⟩) k5
end
def OI:Vk->Bool
 |.Starred _ _=>false
 |_=>true
def aV(h:OI e=true):Uy (e::es) env=(false,eval e env)::Uy es env:=by
 cases e<;>first|(rw[Uy];intros;contradiction)|rw[Uy]|(cases h)
def ie(h:OI e=true):Uy [e] env=[(false,eval e env)]:=by
 rw[aV h,Uy]
theorem bL:∀{es:List Vk},es.all OI=true->(VA pos (Uy es env)).any (·.1)=false
 |[],_=>by rw[Uy];rfl
 |e::es,h=>by
  rw[Xg,U4] at h;rw[aV h.1];have:=bL (env:=env) (pos:=pos) h.2;show(false||(VA pos (Uy es env)).any (·.1))=false;rw[this];rfl
def tL(h:OI e=true):((VA pos (Uy [e] env)).all (λx=>!x.1)&&(XU pos (W5 [] env)).all (λx=>x.1.isSome)
  &&decide ([e].length+([]:List Xs).length+(if([]:List Xs).isEmpty then 0 else 1)<30))=true:=by
 rw[ie h,W5];rfl
inductive Kd where
 |ins (c:US) (ks:List US)|dint (ks:List Int)|exf (c:US) (ks:List US)
inductive D where
 |non|bl (b:Bool)|int (i:Int)|str (x:US)|tup (xs:List D)|lst (xs:List D)|dic (ks:List US) (xs:List D)|exc (x:US)|ob (k:Kd) (xs:List D)
structure SY (K:Ut) (ks:List US) (C:Uw):Prop where
 cls:RK K C
 no:∀f∈ks,jl K C f
 gc:Wq K (.ref C) "__class__"=some (some (.builtin "object.__class__"))
 gn:Yu K (.builtin "object.__class__") "__get__"=some (some (.builtin "getset_descriptor.__get__"))
 tk:W.takesIn K (.builtin "object.__class__")=some true
 mo:W.mroIn K C (.type "object")=some true
 bt:∀T∈gL,XA K (.ref C) (.type T)=some false
noncomputable def IU(K:Ut) (H:Hp):Kd->Uw->List V->Prop
 |.ins c ks,a,vs=>∃C dx,VH K UX c=some (some (.ref C))/\SY K ks C/\H a=some (.ins C dx (ks.zip vs))/\ks.length=vs.length
 |.dint ks,a,vs=>∃kvs,Rd H a (.dK kvs)/\kvs=(ks.map XH).zip vs/\ks.length=vs.length
 |.exf c ks,a,vs=>∃C dx fs,XC K c C/\Rd H a (.ext (yl a C (some dx)))/\H dx=some (.xd fs)/\ks.length=vs.length/\∀(i:Nat) (f:US) (v:V),ks[i]?=some f->vs[i]?=some v->fs.lookup f=some v
structure Jn where
 cls:US
 flds:List (US×D)
inductive aj (α:Type) where
 |ok (a:α)|exn (x:Jn)|stuck
noncomputable def aj.bind{α β:Type}(r:aj α) (f:α->aj β):aj β:=match r with
 |.ok a=>f a
 |.exn x=>.exn x
 |.stuck=>.stuck
mutual
def Rep(K:Ut)(H:Hp):D->V->Prop
 |.non,v=>v=.non
 |.bl b,v=>v=.bl b
 |.int i,v=>v=.int i
 |.str x,v=>v=.str x
 |.tup ds,v=>∃a vs,v=.ref a/\kn K H a vs/\Reps K H ds vs
 |.lst ds,v=>∃a vs,v=.ref a/\eX K H a vs/\Reps K H ds vs
 |.dic ks ds,v=>∃a kvs vs,v=.ref a/\Rd H a (.dK kvs)/\kvs=(ks.map Vp).zip vs/\ks.length=vs.length/\Reps K H ds vs
 |.exc x,v=>∃a C dc,v=.ref a/\XC K x C/\Rd H a (.ext (yl a C dc))
 |.ob k ds,v=>∃a vs,v=.ref a/\IU K H k a vs/\Reps K H ds vs
def Reps(K:Ut)(H:Hp):List D->List V->Prop
 |[],vs=>vs=[]
 |d::ds,vs=>∃v r,vs=v::r/\Rep K H d v/\Reps K H ds r
end
def aG.rd(e:aG H H')(h:Rd H a o):Rd H' a o:=by
 rcases h with h|⟨o',h⟩
 .exact .inl (e _ _ h)
 .exact .inr ⟨o',e _ _ h⟩
def aG.sqT{K:Ut}(e:aG H H')(h:kn K H a xs):kn K H' a xs:=by
 rcases h with h|h
 .exact .inl (aG.rd e h)
 .exact .inr h
def aG.sqL{K:Ut}(e:aG H H')(h:eX K H a xs):eX K H' a xs:=by
 rcases h with h|h
 .exact .inl (aG.rd e h)
 .exact .inr h
theorem IU.mono{K:Ut}(e:aG H H'):∀{k:Kd}{a:Uw}{vs:List V},IU K H k a vs->IU K H' k a vs
 |.ins c ks,a,vs,⟨C,dx,h0,h1,h2,h3⟩=>⟨C,dx,h0,h1,e _ _ h2,h3⟩
 |.dint ks,a,vs,⟨kvs,h1,h2,h3⟩=>⟨kvs,aG.rd e h1,h2,h3⟩
 |.exf c ks,a,vs,⟨C,dx,fs,h1,h2,h3,h4⟩=>⟨C,dx,fs,h1,aG.rd e h2,e _ _ h3,h4⟩
mutual
theorem Rep.mono{K:Ut}{H H':Hp}(e:aG H H'):∀{d:D}{v:V},Rep K H d v->Rep K H' d v
 |.non,_,h=>by unfold Rep at h ⊢;exact h
 |.bl _,_,h=>by unfold Rep at h ⊢;exact h
 |.int _,_,h=>by unfold Rep at h ⊢;exact h
 |.str _,_,h=>by unfold Rep at h ⊢;exact h
 |.tup ds,_,h=>by
  unfold Rep at h ⊢;obtain⟨a,vs,e1,e2,e3⟩:=h;exact⟨a,vs,e1,aG.sqT e e2,Reps.mono e e3⟩
 |.lst ds,_,h=>by
  unfold Rep at h ⊢;obtain⟨a,vs,e1,e2,e3⟩:=h;exact⟨a,vs,e1,aG.sqL e e2,Reps.mono e e3⟩
 |.dic ks ds,_,h=>by
  unfold Rep at h ⊢;obtain⟨a,kvs,vs,e1,e2,e3,e4,e5⟩:=h;exact⟨a,kvs,vs,e1,aG.rd e e2,e3,e4,Reps.mono e e5⟩
 |.exc x,_,h=>by
  unfold Rep at h ⊢;obtain⟨a,C,dc,e1,e2,e3⟩:=h;exact⟨a,C,dc,e1,e2,aG.rd e e3⟩
 |.ob k ds,_,h=>by
  unfold Rep at h ⊢;obtain⟨a,vs,e1,e2,e3⟩:=h;exact⟨a,vs,e1,e2.mono e,Reps.mono e e3⟩
theorem Reps.mono{K:Ut}{H H':Hp}(e:aG H H'):∀{ds:List D}{vs:List V},Reps K H ds vs->Reps K H' ds vs
 |[],_,h=>by unfold Reps at h ⊢;exact h
 |d::ds,_,h=>by
  unfold Reps at h ⊢;obtain⟨v,r,e1,e2,e3⟩:=h;exact⟨v,r,e1,Rep.mono e e2,Reps.mono e e3⟩
end
section
variable {K:Ut}{H:Hp}{v:V}{vs:List V}{d:D}{ds:List D}
def aY:Rep K H .non v↔v=.non:=by unfold Rep;exact Y4
def aK{b}:Rep K H (.bl b) v↔v=.bl b:=by unfold Rep;exact Y4
def aC{i}:Rep K H (.int i) v↔v=.int i:=by unfold Rep;exact Y4
def Rep.str_iff{x}:Rep K H (.str x) v↔v=.str x:=by unfold Rep;exact Y4
def aN:Rep K H (.tup ds) v↔∃a vs,v=.ref a/\kn K H a vs/\Reps K H ds vs:=by rw[Rep]
def aI:Rep K H (.lst ds) v↔∃a vs,v=.ref a/\eX K H a vs/\Reps K H ds vs:=by rw[Rep]
def fw{x}:Rep K H (.exc x) v↔∃a C dc,v=.ref a/\XC K x C/\Rd H a (.ext (yl a C dc)):=by rw[Rep]
def fX{k}:Rep K H (.ob k ds) v↔∃a vs,v=.ref a/\IU K H k a vs/\Reps K H ds vs:=by rw[Rep]
def Rep.exf_exc(h:Rep K H (.ob (.exf c ks) ds) v):Rep K H (.exc c) v:=by
 obtain⟨a,vs,e,⟨C,dx,fs,h1,h2,_⟩,_⟩:=fX.mp h;exact fw.mpr ⟨a,C,some dx,e,h1,h2⟩
def Reps.nil_iff:Reps K H [] vs↔vs=[]:=by unfold Reps;exact Y4
def aJ:Reps K H (d::ds) vs↔∃v r,vs=v::r/\Rep K H d v/\Reps K H ds r:=by rw[Reps]
def Reps.nil:Reps K H [] []:=Reps.nil_iff.mpr rfl
def Reps.cons(h:Rep K H d v)(h':Reps K H ds vs):Reps K H (d::ds) (v::vs):=aJ.mpr ⟨_,_,rfl,h,h'⟩
end
theorem Reps.length{K:Ut}:∀{ds:List D}{vs:List V},Reps K H ds vs->ds.length=vs.length
 |[],_,h=>by rw[Reps.nil_iff.mp h];rfl
 |d::ds,_,h=>by
  obtain⟨v,r,rfl,_,h⟩:=aJ.mp h;simp [Reps.length h]
theorem Reps.get{K:Ut}{H:Hp}:∀{ds:List D}{vs:List V}{i:Nat}{d:D},Reps K H ds vs->ds[i]?=some d->∃v,vs[i]?=some v/\Rep K H d v
 |[],_,_,_,h,e=>by simp at e
 |x::ds,_,0,d,h,e=>by
  obtain⟨v,r,rfl,h1,_⟩:=aJ.mp h;simp at e;subst e;exact⟨v,rfl,h1⟩
 |x::ds,_,i+1,d,h,e=>by
  obtain⟨v,r,rfl,_,h2⟩:=aJ.mp h;obtain⟨u,e1,e2⟩:=Reps.get (i:=i) h2 (by simpa using e);exact⟨u,by simpa using e1,e2⟩
theorem Reps.app{K:Ut}{H:Hp}:∀{ds es:List D}{vs us:List V},Reps K H ds vs->Reps K H es us->Reps K H (ds++es) (vs++us)
 |[],_,_,_,h,h'=>by rw[Reps.nil_iff.mp h];exact h'
 |d::ds,_,_,_,h,h'=>by
  obtain⟨v,r,rfl,h1,h2⟩:=aJ.mp h;exact Reps.cons h1 (Reps.app h2 h')
theorem Reps.take{K:Ut}:∀{ds:List D}{vs:List V}(n:Nat),Reps K H ds vs->Reps K H (ds.take n) (vs.take n)
 |_,_,0,_=>by simp;exact Reps.nil
 |[],_,n+1,h=>by rw[Reps.nil_iff.mp h];exact Reps.nil
 |d::ds,_,n+1,h=>by
  obtain⟨v,r,rfl,h1,h2⟩:=aJ.mp h;exact Reps.cons h1 (Reps.take n h2)
theorem Reps.drop{K:Ut}:∀{ds:List D}{vs:List V}(n:Nat),Reps K H ds vs->Reps K H (ds.drop n) (vs.drop n)
 |_,_,0,h=>by simpa using h
 |[],_,n+1,h=>by rw[Reps.nil_iff.mp h];exact Reps.nil
 |d::ds,_,n+1,h=>by
  obtain⟨v,r,rfl,h1,h2⟩:=aJ.mp h;exact Reps.drop n h2
theorem Reps.set{K:Ut}(h:Rep K H d v):∀{ds:List D}{vs:List V}(n:Nat),Reps K H ds vs->Reps K H (ds.set n d) (vs.set n v)
 |[],_,n,h'=>by rw[Reps.nil_iff.mp h'];exact Reps.nil
 |x::ds,_,0,h'=>by
  obtain⟨v,r,rfl,h1,h2⟩:=aJ.mp h';exact Reps.cons h h2
 |x::ds,_,n+1,h'=>by
  obtain⟨v,r,rfl,h1,h2⟩:=aJ.mp h';exact Reps.cons h1 (Reps.set h n h2)
theorem wJ{K:Ut}:∀(ns:List Int),Reps K H (ns.map D.int) (ns.map V.int)
 |[]=>Reps.nil
 |n::r=>Reps.cons (aC.mpr rfl) (wJ r)
structure bB (H Ha H' Ha':Hp):Prop where
 s:aG H H'
 z:aG Ha Ha'
 sub:aG Ha' H'
 nw:∀a,Ha' a≠none->Ha a=none->H a=none
def bB.refl(h:aG Ha H):bB H Ha H Ha:=⟨aG.refl _,aG.refl _,h,λa h1 h2=>absurd h2 h1⟩
theorem bB.trans(a:bB H Ha H1 H01)(b:bB H1 H01 H2 H02):bB H Ha H2 H02 :=
 ⟨a.s.trans b.s,a.z.trans b.z,b.sub,λx h1 h2=>by
  cases q:H01 x with
  |none=>exact a.s.free (b.nw x h1 q)
  |some o=>exact a.nw x (by rw[q];simp) h2⟩
def aO(hs:aG Ha H)(hp:H p=none):bB H Ha (upd H p o) (upd Ha p o) :=
 ⟨same_new hp o,same_new (hs.free hp) o,λb u e=>by
  by_cases hb:b=p
  .subst hb;rw[aB] at e ⊢;exact e
  .rw[aw hb] at e ⊢;exact hs _ _ e,λa h1 h2=>by
  by_cases hb:a=p
  .subst hb;exact hp
  .rw[aw hb] at h1;exact absurd h2 h1⟩
where
 same_new {H:Hp}{p:Uw}(h:H p=none) (o:HO):aG H (upd H p o):=λb u q=>by rw[aw (bb q h)];exact q
inductive Sl where
 |no|sh (d:D)|ow (d:D)|ox (j:Nat) (ds:List D)|pt (a:Uw)
abbrev Ev:=List Sl
noncomputable def Reads(K:Ut) (Ha:Hp) (σ:L2.St) (ρ:Ev):Prop:=∀(i:Nat) (d:D),ρ[i]?=some (.sh d)->∃v,σ[i]?=some (some v)/\Rep K Ha d v
def Reads.mono{K:Ut}(e:aG H H')(r:Reads K H σ ρ):Reads K H' σ ρ:=λi d h =>
 let ⟨v,h1,h2⟩:=r i d h
 ⟨v,h1,h2.mono e⟩
noncomputable def AJ(K:Ut) (H:Hp) (x:Jn) (C:Us) (ox:Option Uw):Prop :=
 (∃c,C=.ref c/\XC K x.cls c)/\match ox with
  |none=>x.flds=[]
  |some a=>∃fs,H a=some (.xd fs)/\∀n d,x.flds.lookup n=some d->∃v,fs.lookup n=some v/\Rep K H d v
noncomputable def post(K:Ut) (E:XK) (H Ha:Hp) (r:aj D) (Q:VK):Prop:=match r with
 |.ok d=>∀v H' Ha',bB H Ha H' Ha'->Rep K Ha' d v->Q v H'
 |.exn x=>∀C ox H' Ha',bB H Ha H' Ha'->AJ K Ha' x C ox->E C ox H'
 |.stuck=>False
noncomputable def sA(K:Ut) (E:XK) (H Ha:Hp) (r:aj (List D)) (Q:List V->Hp->Prop):Prop:=match r with
 |.ok ds=>∀vs H' Ha',bB H Ha H' Ha'->Reps K Ha' ds vs->Q vs H'
 |.exn x=>∀C ox H' Ha',bB H Ha H' Ha'->AJ K Ha' x C ox->E C ox H'
 |.stuck=>False
noncomputable def sC(K:Ut) (E:XK) (H Ha:Hp) (r:aj D) (Q:Bool->Hp->Prop):Prop:=match r with
 |.ok (.bl b)=>∀H' Ha',bB H Ha H' Ha'->Q b H'
 |.ok _=>False
 |.exn x=>∀C ox H' Ha',bB H Ha H' Ha'->AJ K Ha' x C ox->E C ox H'
 |.stuck=>False
section
variable {K:Ut}{E:XK}{H Ha H1 H01:Hp}
def post.grow(h:post K E H Ha r Q)(g:bB H Ha H1 H01):post K E H1 H01 r Q:=by
 cases r with|ok d=>exact λv H' Ha' g'=>h v H' Ha' (g.trans g')|exn x=>exact λC ox H' Ha' g'=>h C ox H' Ha' (g.trans g')|stuck=>exact h
def sA.grow(h:sA K E H Ha r Q)(g:bB H Ha H1 H01):sA K E H1 H01 r Q:=by
 cases r with|ok d=>exact λv H' Ha' g'=>h v H' Ha' (g.trans g')|exn x=>exact λC ox H' Ha' g'=>h C ox H' Ha' (g.trans g')|stuck=>exact h
def sC.grow(h:sC K E H Ha r Q)(g:bB H Ha H1 H01):sC K E H1 H01 r Q:=by
 cases r with
 |ok d =>
  cases d with|bl b=>exact λH' Ha' g'=>h H' Ha' (g.trans g')| _=>exact h
 |exn x=>exact λC ox H' Ha' g'=>h C ox H' Ha' (g.trans g')
 |stuck=>exact h
end
noncomputable def tD(K:Ut) (E:XK) (f:Ev->aj D):TE:=λσ H Q=>∃Ha ρ,aG Ha H/\Reads K Ha σ ρ/\post K E H Ha (f ρ) Q
noncomputable def Th(K:Ut) (E:XK) (f:Ev->aj (List D)):TA:=λσ H Q=>∃Ha ρ,aG Ha H/\Reads K Ha σ ρ/\sA K E H Ha (f ρ) Q
noncomputable def Oz(K:Ut) (E:XK) (f:Ev->aj D):TT:=λσ H Q=>∃Ha ρ,aG Ha H/\Reads K Ha σ ρ/\sC K E H Ha (f ρ) Q
structure DE (X:Cx) (E:XK) (e:Vk) (f:Ev->aj D):Prop where
 o:PE X e (tD X.K E f)
structure DA (X:Cx) (E:XK) (es:List Vk) (f:Ev->aj (List D)):Prop where
 o:PA X es (Th X.K E f)
structure DT (X:Cx) (E:XK) (e:Vk) (f:Ev->aj D):Prop where
 o:PT X e (Oz X.K E f)
structure DW (X:Cx) (E:XK) (e:Vk) (f:Ev->aj D):Prop where
 o:PW X e (Oz X.K E f)
section
variable {X:Cx}{E:XK}{e a b:Vk}{es:List Vk}{f g:Ev->aj D}{fa:Ev->aj (List D)}{pos:Pos}
def aZ(h:PE X e t)(w:∀σ H Q,t' σ H Q->t σ H Q):PE X e t':=λπ s σ H Q I q=>h π s σ H Q I (w σ H Q q)
def qS(h:PA X es t)(w:∀σ H Q,t' σ H Q->t σ H Q):PA X es t':=λpos π s σ H Q I q=>h pos π s σ H Q I (w σ H Q q)
def gQ(h:PT X e t)(w:∀σ H Q,t' σ H Q->t σ H Q):PT X e t':=λπ s σ H Q I q=>h π s σ H Q I (w σ H Q q)
def w8(h:PW X e t)(w:∀σ H Q,t' σ H Q->t σ H Q):PW X e t':=λwh π s σ H Q I q=>h wh π s σ H Q I (w σ H Q q)
noncomputable def af(i:Nat):Ev->aj D:=λρ=>match ρ[i]? with
 |some (.sh d)=>.ok d
 |_=>.stuck
def dC(d:D):Ev->aj D:=λ_=>.ok d
def NP(hN:X.N[i]?=some x)(hv:AH X.env.scope x)(hd:(x==("__debug__" : US))=false:=by decide)(hcd:(x==("__classdict__" : US))=false:=by decide):DE X E (.Name x pos) (af i):=by
 refine⟨?_⟩;refine aZ (gH hN hv hd hcd) λσ H Q ⟨Ha,ρ,hs,hr,q⟩=>?_;unfold af at q;cases e:ρ[i]? with
 |none=>rw[e] at q;exact q.elim
 |some s =>
  rw[e] at q;cases s with
  |sh d =>
   obtain⟨v,e1,e2⟩:=hr i d e;exact⟨v,e1,q v H Ha (bB.refl hs) e2⟩
  |no|ow d|ox j ds|pt a=>exact q.elim
def ai{i j}:DE X E (.Constant (.int i) j pos) (dC (.int i)):=⟨aZ GX λσ H Q ⟨Ha,ρ,hs,hr,q⟩=>q _ H Ha (bB.refl hs) (aC.mpr rfl)⟩
def cz{i j}:DE X E (.Constant (.bool i) j pos) (dC (.bl i)):=⟨aZ P1 λσ H Q ⟨Ha,ρ,hs,hr,q⟩=>q _ H Ha (bB.refl hs) (aK.mpr rfl)⟩
def bK{j}:DE X E (.Constant .none j pos) (dC .non):=⟨aZ M6 λσ H Q ⟨Ha,ρ,hs,hr,q⟩=>q _ H Ha (bB.refl hs) (aY.mpr rfl)⟩
def cJ{x j}:DE X E (.Constant (.str x) j pos) (dC (.str x)):=⟨aZ M1 λσ H Q ⟨Ha,ρ,hs,hr,q⟩=>q _ H Ha (bB.refl hs) (Rep.str_iff.mpr rfl)⟩
def K7(hg:Gl X x)(hm:X.mg x=some u)(r:bF v u)(hr:∀H,Rep X.K H d v)(hd:(x==("__debug__" : US))=false:=by decide):DE X E (.Name x pos) (dC d) :=
 ⟨aZ (xh hg hm r hd) λσ H Q ⟨Ha,ρ,hs,hr',q⟩=>q _ H Ha (bB.refl hs) (hr Ha)⟩
noncomputable def ag(f g:Ev->aj D) (op:D->D->aj D):Ev->aj D:=λρ=>(f ρ).bind λx=>(g ρ).bind λy=>op x y
def bD(f:Ev->aj D)(op:D->aj D):Ev->aj D:=λρ=>(f ρ).bind op
noncomputable def qJ(K:Ut) (E:XK) (r:R2) (op:D->D->aj D):Prop:=∀(x y:D) (v u:V) (H Ha:Hp) (Q:VK),aG Ha H->Rep K Ha x v->Rep K Ha y u->post K E H Ha (op x y) Q->r v u H Q
def jn(ho:qJ X.K E r op)(σ:L2.St)(H:Hp)(Q:VK)(h:tD X.K E (ag f g op) σ H Q):Oy r (tD X.K E f) (tD X.K E g) σ H Q:=by
 obtain⟨Ha,ρ,hs,hr,q⟩:=h;refine⟨Ha,ρ,hs,hr,?_⟩;unfold ag at q;cases e1:f ρ with
 |stuck|exn x=>rw[e1] at q;exact q
 |ok x =>
  rw[e1] at q;intro v H1 H01 g1 r1;refine⟨H01,ρ,g1.sub,hr.mono g1.z,?_⟩;replace q:post X.K E H Ha ((g ρ).bind λy=>op x y) Q:=q;replace q:=q.grow g1;cases e2:g ρ with
  |stuck|exn x=>rw[e2] at q;exact q
  |ok y =>
   rw[e2] at q;intro u H2 H02 g2 r2;exact ho x y v u H2 H02 Q g2.sub (r1.mono g2.z) r2 (post.grow (r:=op x y) q g2)
def uQ(h:eQ X (binaryOp op) r)(ho:qJ X.K E r o)(ha:DE X E a f)(hb:DE X E b g):DE X E (.BinOp a op b pos) (ag f g o) :=
 ⟨aZ (GW h ha.o hb.o) (jn ho)⟩
def eC(h:eQ X (Vj op) r)(ho:qJ X.K E r o)(ha:DE X E a f)(hb:DE X E b g)(hm:behindInMarks op b=false):DE X E (.Compare a [op] [b] pos) (ag f g o) :=
 ⟨aZ (CA h ha.o hb.o hm) (jn ho)⟩
def QY(h:IV X r)(ho:qJ X.K E r o)(ha:DE X E a f)(hb:DE X E b g)(hs:oz b):DE X E (.Subscript a b pos) (ag f g o) :=
 ⟨aZ (LP h ha.o hb.o hs) (jn ho)⟩
noncomputable def Up(K:Ut) (E:XK) (r:V->Hp->VK->Prop) (op:D->aj D):Prop:=∀(x:D) (v:V) (H Ha:Hp) (Q:VK),aG Ha H->Rep K Ha x v->post K E H Ha (op x) Q->r v H Q
def QX(h:RH X (unaryOp op) r)(ho:Up X.K E r o)(ha:DE X E a f):DE X E (.UnaryOp op a pos) (bD f o):=by
 refine⟨?_⟩;refine aZ (LO h ha.o) λσ H Q z9=>?_;obtain⟨Ha,ρ,hs,hr,q⟩:=z9;refine⟨Ha,ρ,hs,hr,?_⟩
 unfold bD at q;cases e1:f ρ with
 |stuck|exn x=>rw[e1] at q;exact q
 |ok x =>
  rw[e1] at q;intro v H1 H01 g1 r1;exact ho x v H1 H01 Q g1.sub r1 (post.grow (r:=o x) q g1)
def az:Ev->aj (List D):=λ_=>.ok []
noncomputable def ae(f:Ev->aj D) (fa:Ev->aj (List D)):Ev->aj (List D):=λρ=>(f ρ).bind λx=>(fa ρ).bind λxs=>.ok (x::xs)
def ak:DA X E [] az:=⟨qS fV λσ H Q ⟨Ha,ρ,hs,hr,q⟩=>q [] H Ha (bB.refl hs) Reps.nil⟩
def aa(ha:DE X E e f)(hr:DA X E es fa)(hs:Uy (e::es) X.env=(false,eval e X.env)::Uy es X.env:=by exact aV rfl):DA X E (e::es) (ae f fa):=by
 refine⟨?_⟩;refine qS (c9 ha.o hr.o hs) λσ H Q z9=>?_;obtain⟨Ha,ρ,hs,hr,q⟩:=z9;refine⟨Ha,ρ,hs,hr,?_⟩
 unfold ae at q;cases e1:f ρ with
 |stuck|exn x=>rw[e1] at q;exact q
 |ok x =>
  rw[e1] at q;intro v H1 H01 g1 r1;refine⟨H01,ρ,g1.sub,hr.mono g1.z,?_⟩;replace q:sA X.K E H Ha ((fa ρ).bind λxs=>.ok (x::xs)) Q:=q;replace q:=q.grow g1;cases e2:fa ρ with
  |stuck|exn x=>rw[e2] at q;exact q
  |ok xs =>
   rw[e2] at q;intro us H2 H02 g2 r2;exact q (v::us) H2 H02 g2 (Reps.cons (r1.mono g2.z) r2)
def line:Nat:=1000000
def cG(h:n<=line):n<=sizeLine:=Va h (by decide)
def ao(fa:Ev->aj (List D))(m:List D->aj D):Ev->aj D:=λρ=>(fa ρ).bind m
def dO:List D->aj D:=λds=>if ds.length<=line then .ok (.tup ds) else .stuck
def bJ:List D->aj D:=λds=>if ds.length<=line then .ok (.lst ds) else .stuck
def lS{r:List V->Hp->VK->Prop}(ho:∀(ds:List D) (vs:List V) (H Ha:Hp) (Q:VK),aG Ha H->Reps X.K Ha ds vs->post X.K E H Ha (m ds) Q->r vs H Q)
  (σ:L2.St)(H:Hp)(Q:VK)(h:tD X.K E (ao fa m) σ H Q):Th X.K E fa σ H λvs H1=>r vs H1 Q:=by
 obtain⟨Ha,ρ,hs,hr,q⟩:=h;refine⟨Ha,ρ,hs,hr,?_⟩;unfold ao at q;cases e1:fa ρ with
 |stuck|exn x=>rw[e1] at q;exact q
 |ok x =>
  rw[e1] at q;intro v H1 H01 g1 r1;exact ho x v H1 H01 Q g1.sub r1 (post.grow (r:=m x) q g1)
def cp{x1}(h:DA X E es fa):DE X E (.Tuple es x1 pos) (ao fa dO):=by
 refine⟨?_⟩;refine aZ (A9 h.o) (lS (r:=λxs H1 Q=>xs.length<=sizeLine/\∀p,H1 p=none->Q (.ref p) (upd H1 p (.tup xs))) λds vs H Ha Q hs hr q=>?_);unfold dO at q
 by_cases hl:ds.length<=line
 .rw[if_pos hl] at q
  refine⟨by rw[←hr.length];exact cG hl,λp hp=>q _ _ _ (aO hs hp) (aN.mpr ⟨p,vs,rfl,kn.of aB,hr.mono (aO hs hp).z⟩)⟩
 .rw[if_neg hl] at q;exact q.elim
def bh(h:DA X E es fa):DE X E (.List es pos) (ao fa bJ):=by
 refine⟨?_⟩;refine aZ (Ba h.o) (lS (r:=λxs H1 Q=>xs.length<=sizeLine/\∀p,H1 p=none->Q (.ref p) (upd H1 p (.lst xs))) λds vs H Ha Q hs hr q=>?_);unfold bJ at q
 by_cases hl:ds.length<=line
 .rw[if_pos hl] at q
  refine⟨by rw[←hr.length];exact cG hl,λp hp=>q _ _ _ (aO hs hp) (aI.mpr ⟨p,vs,rfl,eX.of aB,hr.mono (aO hs hp).z⟩)⟩
 .rw[if_neg hl] at q;exact q.elim
noncomputable def spD(K:Ut) (n:Nat) (m:List D->aj D):Sp:=λvs H Q E=>vs.length=n/\∃Ha ds,aG Ha H/\Reps K Ha ds vs/\post K E H Ha (m ds) Q
def K8{k n:Nat}{ps:List US}(F:fZ X.prog X.w X.K X.mg X.base CX k fn fd ps (spD X.K n m))(hr:cW k X.A)(hg:Gl X x)(hm:X.mg x=some (.ref fn))
  (hk:WV X.K (.ref fn)=true)(hb:iL X.K fd ps [])(hx:gM CX X E)(ha:DA X E (e::es) fa)(hn:(e::es).length=n:=by rfl)(hl:∀ρ ds,fa ρ=.ok ds->ds.length=(e::es).length)
  (hdb:(x==("__debug__" : US))=false:=by decide)(he:Uy (e::es) X.env=(false,eval e X.env)::Uy es X.env:=by exact aV rfl)(hpl:(VA pos (Uy es X.env)).any (·.1)=false:=by exact bL rfl) :
  DE X E (.Call (.Name x p) (e::es) [] pos) (ao fa m):=by
 refine⟨?_⟩;refine aZ (qR F hr hg hm hk hb .nil hx ha.o hdb he hpl) λσ H Q h=>?_;obtain⟨Ha,ρ,hs,hr,q⟩:=h;refine⟨Ha,ρ,hs,hr,?_⟩;unfold ao at q;cases e1:fa ρ with
 |stuck|exn x=>rw[e1] at q;exact q
 |ok ds =>
  rw[e1] at q;intro v H1 H01 g1 r1;refine⟨?_,H01,ds,g1.sub,by simpa using r1,post.grow (r:=m ds) q g1⟩;have:=r1.length;have:=hl ρ ds e1;simp only[Vo];omega
def IS(h:az ρ=.ok ds):ds.length=0:=by cases h;rfl
def lT(hr:∀es,fa ρ=.ok es->es.length=n)(h:ae f fa ρ=.ok ds):ds.length=n+1:=by
 unfold ae at h;cases e1:f ρ with
 |stuck|exn x=>rw[e1] at h;cases h
 |ok x =>
  rw[e1] at h;replace h:((fa ρ).bind λxs=>aj.ok (x::xs))=.ok ds:=h;cases e2:fa ρ with
  |stuck|exn x=>rw[e2] at h;cases h
  |ok xs =>
   rw[e2] at h;cases h;simp [hr xs e2]
noncomputable def gF(X:Cx) (E:XK) (r:List V->Hp->VK->Prop) (m:List D->aj D):Prop:=∀(ds:List D) (vs:List V) (H Ha:Hp) (Q:VK),aG Ha H->Reps X.K Ha ds vs->post X.K E H Ha (m ds) Q->r vs H Q
def bj{id:String}(hc:gO X (.builtin id) r)(hd:gF X E r m)(hg:Gl X x)(hm:X.mg x=none)(hv:bootBuiltins x=some (.builtin id))(ha:DA X E (e::es) fa)(hn:x≠"__name__":=by decide)(hdb:(x==("__debug__" : US))=false:=by decide)
  (he:Uy (e::es) X.env=(false,eval e X.env)::Uy es X.env:=by exact aV rfl)(hpl:(VA pos (Uy es X.env)).any (·.1)=false:=by exact bL rfl):DE X E (.Call (.Name x p) (e::es) [] pos) (ao fa m) :=
 ⟨aZ (mY hc hg hm hv ha.o hn hdb he hpl) (lS hd)⟩
def Ig(h:PT X e (tB (tD X.K E f))):DT X E e f:=by
 refine⟨?_⟩;refine gQ h λσ H Q z9=>?_;obtain⟨Ha,ρ,hs,hr,q⟩:=z9;refine⟨Ha,ρ,hs,hr,?_⟩
 cases e1:f ρ with
 |stuck|exn x=>rw[e1] at q;exact q
 |ok d =>
  rw[e1] at q;intro v H1 H01 g1 r1;cases d with|bl b=>rw[aK.mp r1];exact⟨b,rfl,q H1 H01 g1⟩| _=>exact q.elim
def cm(h:DE X E e f)(he:∀whole,isTrue e X.env whole=(do let v ←whole;standAt e.pos;WY [v] (truthy v)):=by intro _;rfl):DT X E e f:=Ig (GK h.o he)
def aS(h:eQ X (Vj op) r)(ho:qJ X.K E r o)(ha:DE X E a f)(hb:DE X E b g)(hm:behindInMarks op b=false):DT X E (.Compare a [op] [b] pos) (ag f g o):=by
 refine⟨?_⟩;refine gQ (Cu h ha.o hb.o hm) λσ H Q h=>?_;have w:tD X.K E (ag f g o) σ H λx H'=>∃k,x=.bl k/\Q k H':=by
  obtain⟨Ha,ρ,hs,hr,q⟩:=h;refine⟨Ha,ρ,hs,hr,?_⟩;cases e1:ag f g o ρ with
  |stuck|exn x=>rw[e1] at q;exact q
  |ok d =>
   rw[e1] at q;intro v H1 H01 g1 r1;cases d with|bl b=>rw[aK.mp r1];exact⟨b,rfl,q H1 H01 g1⟩| _=>exact q.elim
 exact jn ho σ H _ w
noncomputable def cM(f:Ev->aj D):Ev->aj D:=bD f λx=>match x with
 |.bl b=>.ok (.bl (!b))
 |_=>.stuck
noncomputable def gX(f g:Ev->aj D):Ev->aj D:=λρ=>(f ρ).bind λx=>match x with
 |.bl true=>g ρ
 |.bl false=>.ok (.bl false)
 |_=>.stuck
noncomputable def iZ(f g:Ev->aj D):Ev->aj D:=λρ=>(f ρ).bind λx=>match x with
 |.bl true=>.ok (.bl true)
 |.bl false=>g ρ
 |_=>.stuck
def cy(ha:DT X E a f):DT X E (.UnaryOp .Not a pos) (cM f):=by
 refine⟨?_⟩;refine gQ (GL ha.o) λσ H Q z9=>?_;obtain⟨Ha,ρ,hs,hr,q⟩:=z9;refine⟨Ha,ρ,hs,hr,?_⟩
 unfold cM bD at q;cases e1:f ρ with
 |stuck|exn x=>rw[e1] at q;exact q
 |ok d =>
  rw[e1] at q;cases d with|bl b=>exact q| _=>exact q.elim
def Ip(ha:DE X E a f):DE X E (.UnaryOp .Not a pos) (cM f):=by
 refine⟨?_⟩;refine aZ (M5 ha.o) λσ H Q z9=>?_;obtain⟨Ha,ρ,hs,hr,q⟩:=z9;refine⟨Ha,ρ,hs,hr,?_⟩
 unfold cM bD at q;cases e1:f ρ with
 |stuck|exn x=>rw[e1] at q;exact q
 |ok d =>
  rw[e1] at q;intro v H1 H01 g1 r1;cases d with|bl b=>rw[aK.mp r1];exact⟨b,rfl,q (.bl !b) H1 H01 g1 (aK.mpr rfl)⟩| _=>exact q.elim
variable {rest:List Vk}
def iC(ha:DT X E a f):DW X E (.BoolOp .And [a] pos) f:=⟨Ct ha.o⟩
def bQ(ha:DT X E a f):DW X E (.BoolOp .Or [a] pos) f:=⟨MW ha.o⟩
def pA(ha:DT X E a f)(hb:DW X E (.BoolOp .And (b::rest) pos) g):DW X E (.BoolOp .And (a::b::rest) pos) (gX f g):=by
 refine⟨?_⟩;refine w8 (GG ha.o hb.o) λσ H Q z9=>?_;obtain⟨Ha,ρ,hs,hr,q⟩:=z9;refine⟨Ha,ρ,hs,hr,?_⟩
 unfold gX at q;cases e1:f ρ with
 |stuck|exn x=>rw[e1] at q;exact q
 |ok d =>
  rw[e1] at q;cases d with
  |bl b =>
   cases b with|true=>exact λH1 H01 g1=>⟨H01,ρ,g1.sub,hr.mono g1.z,sC.grow (r:=g ρ) q g1⟩|false=>exact λH1 H01 g1=>q H1 H01 g1
  |_=>exact q.elim
def eB(ha:DT X E a f)(hb:DW X E (.BoolOp .Or (b::rest) pos) g):DW X E (.BoolOp .Or (a::b::rest) pos) (iZ f g):=by
 refine⟨?_⟩;refine w8 (PM ha.o hb.o) λσ H Q z9=>?_;obtain⟨Ha,ρ,hs,hr,q⟩:=z9;refine⟨Ha,ρ,hs,hr,?_⟩
 unfold iZ at q;cases e1:f ρ with
 |stuck|exn x=>rw[e1] at q;exact q
 |ok d =>
  rw[e1] at q;cases d with
  |bl b =>
   cases b with|false=>exact λH1 H01 g1=>⟨H01,ρ,g1.sub,hr.mono g1.z,sC.grow (r:=g ρ) q g1⟩|true=>exact λH1 H01 g1=>q H1 H01 g1
  |_=>exact q.elim
def DW.dt(h:DW X E e f):DT X E e f:=⟨PW.pt h.o⟩
def iE{op}(h:DE X E a f):DE X E (.BoolOp op [a] pos) f:=⟨M4 h.o⟩
def jZ(ha:DE X E a f)(hb:DE X E (.BoolOp .And (b::rest) pos) g):DE X E (.BoolOp .And (a::b::rest) pos) (gX f g):=by
 refine⟨?_⟩;refine aZ (M7 ha.o hb.o) λσ H Q z9=>?_;obtain⟨Ha,ρ,hs,hr,q⟩:=z9;refine⟨Ha,ρ,hs,hr,?_⟩
 unfold gX at q;cases e1:f ρ with
 |stuck|exn x=>rw[e1] at q;exact q
 |ok d =>
  rw[e1] at q;intro v H1 H01 g1 r1;cases d with
  |bl b =>
   rw[aK.mp r1];cases b with|true=>exact⟨true,rfl,H01,ρ,g1.sub,hr.mono g1.z,post.grow (r:=g ρ) q g1⟩|false=>exact⟨false,rfl,q (.bl false) H1 H01 g1 (aK.mpr rfl)⟩
  |_=>exact q.elim
def Mg(ha:DE X E a f)(hb:DE X E (.BoolOp .Or (b::rest) pos) g):DE X E (.BoolOp .Or (a::b::rest) pos) (iZ f g):=by
 refine⟨?_⟩;refine aZ (P0 ha.o hb.o) λσ H Q z9=>?_;obtain⟨Ha,ρ,hs,hr,q⟩:=z9;refine⟨Ha,ρ,hs,hr,?_⟩
 unfold iZ at q;cases e1:f ρ with
 |stuck|exn x=>rw[e1] at q;exact q
 |ok d =>
  rw[e1] at q;intro v H1 H01 g1 r1;cases d with
  |bl b =>
   rw[aK.mp r1];cases b with|false=>exact⟨false,rfl,H01,ρ,g1.sub,hr.mono g1.z,post.grow (r:=g ρ) q g1⟩|true=>exact⟨true,rfl,q (.bl true) H1 H01 g1 (aK.mpr rfl)⟩
  |_=>exact q.elim
noncomputable def RF(c f g:Ev->aj D):Ev->aj D:=λρ=>(c ρ).bind λx=>match x with
 |.bl true=>f ρ
 |.bl false=>g ρ
 |_=>.stuck
def Aw(hc:DT X E c fc)(ha:DE X E a f)(hb:DE X E b g):DE X E (.IfExp c a b pos) (RF fc f g):=by
 refine⟨?_⟩;refine aZ (GY hc.o ha.o hb.o) λσ H Q z9=>?_;obtain⟨Ha,ρ,hs,hr,q⟩:=z9;refine⟨Ha,ρ,hs,hr,?_⟩
 unfold RF at q;cases e1:fc ρ with
 |stuck|exn x=>rw[e1] at q;exact q
 |ok d =>
  rw[e1] at q;cases d with
  |bl b =>
   cases b with|true=>exact λH1 H01 g1=>⟨H01,ρ,g1.sub,hr.mono g1.z,post.grow (r:=f ρ) q g1⟩|false=>exact λH1 H01 g1=>⟨H01,ρ,g1.sub,hr.mono g1.z,post.grow (r:=g ρ) q g1⟩
  |_=>exact q.elim
end
noncomputable def Lu(K:Ut) (Ha H:Hp) (a:Uw) (d:D):Prop:=match d with
 |.lst ds=>∃vs,H a=some (.lst vs)/\Reps K Ha ds vs
 |.dic ks ds=>∃vs,H a=some (.dK ((ks.map Vp).zip vs))/\ks.length=vs.length/\Reps K Ha ds vs
 |_=>False
noncomputable def Rm(K:Ut) (He Ha H:Hp) (a:Uw) (j:Nat) (ds:List D) (p:Uw):Prop:=∃vs es us,He a=none/\H a=some (.tup vs)/\He p=none/\Ha p=none/\ds[j]?=some (.lst es)/\vs[j]?=some (.ref p)/\H p=some (.lst us)/\Reps K Ha es us/\ds.length=vs.length/\∀k d v,k≠j->ds[k]?=some d->vs[k]?=some v->Rep K Ha d v
noncomputable def OX(K:Ut) (He Ha:Hp) (σ:L2.St) (H:Hp) (ρ:Ev):Prop:=(∀(i j:Nat) (ds:List D),ρ[i]?=some (.ox j ds)->∃a p,σ[i]?=some (some (.ref a))/\Rm K He Ha H a j ds p/\(∀(k:Nat) (d:D),ρ[k]?=some (.ow d)->σ[k]?≠some (some (.ref p)))/\∀(k j':Nat) (ds':List D),ρ[k]?=some (.ox j' ds')->k=i)/\∀(i:Nat) (a:Uw),ρ[i]?=some (.pt a)->σ[i]?=some (some (.ref a))
def OX.upd{K:Ut}(h:OX K He Ha σ H ρ)
  (hk:∀(j:Nat) (s:Sl),ρ'[j]?=some s->(ρ[j]?=some s/\σ'[j]?=σ[j]?)∨(∃d,s=.sh d)∨s=.no∨∃d q,s=.ow d/\σ'[j]?=some (some (.ref q))/\∀(i j:Nat) (ds:List D) (a p:Uw),ρ[i]?=some (.ox j ds)->σ[i]?=some (some (.ref a))->Rm K He Ha H a j ds p->q≠p)
  (hz:aG Ha Ha')(ht:∀a vs,He a=none->H a=some (.tup vs)->H' a=some (.tup vs))
  (hl:∀p us,He p=none->Ha p=none->H p=some (.lst us)->(∀(k:Nat) (d:D),ρ[k]?=some (.ow d)->σ[k]?≠some (some (.ref p)))->H' p=some (.lst us)/\Ha' p=none):OX K He Ha' σ' H' ρ':=by
 refine⟨λi j ds e=>?_,λi a e=>?_⟩
 rotate_left
 .rcases hk i _ e with h1|⟨d,h1⟩|h1|⟨d,q,h1,_⟩
  .rw[h1.2];exact h.2 i a h1.1
  .cases h1
  .cases h1
  .cases h1
 have old:ρ[i]?=some (.ox j ds)/\σ'[i]?=σ[i]?:=by
  rcases hk i _ e with h1|⟨d,h1⟩|h1|⟨d,q,h1,_⟩
  .exact h1
  .cases h1
  .cases h1
  .cases h1
 obtain⟨a,p,h1,h2,h3,h4⟩:=h.1 i j ds old.1;have h2':=h2;obtain⟨vs,es,us,r1,r2,r3,r4,r5,r6,r7,r8,r9,r10⟩:=h2;obtain⟨l1,l2⟩:=hl p us r3 r4 r7 h3;refine⟨a,p,old.2.trans h1,⟨vs,es,us,r1,ht a vs r1 r2,r3,l2,r5,r6,l1,r8.mono hz,r9,λk d v hk e1 e2=>(r10 k d v hk e1 e2).mono hz⟩,λk d ek z=>?_,λk j' ds' ek=>?_⟩
 .rcases hk k _ ek with h1'|⟨d',h1'⟩|h1'|⟨d',q,h1',h2'',h3'⟩
  .exact h3 k d h1'.1 (by rw[←h1'.2];exact z)
  .cases h1'
  .cases h1'
  .rw[h2''] at z
   cases z;exact h3' i j ds a p old.1 h1 h2' rfl
 .rcases hk k _ ek with h1'|⟨d',h1'⟩|h1'|⟨d',q,h1',_⟩
  .exact h4 k j' ds' h1'.1
  .cases h1'
  .cases h1'
  .cases h1'
def OX.none{K:Ut}(h:∀(i j:Nat) (ds:List D),ρ[i]?≠some (.ox j ds))(h':∀(i:Nat) (a:Uw),ρ[i]?=some (.pt a)->σ[i]?=some (some (.ref a))):OX K He Ha σ H ρ:=⟨λi j ds e=>absurd e (h i j ds),h'⟩
theorem Cp{K:Ut}{H:Hp}:∀{ds:List D}{vs:List V},ds.length=vs.length->(∀(k:Nat) (d:D) (v:V),ds[k]?=some d->vs[k]?=some v->Rep K H d v)->Reps K H ds vs
 |[],[],_,_=>Reps.nil
 |d::ds,v::vs,hl,h=>Reps.cons (h 0 d v rfl rfl) (Cp (by simpa using hl) λk d' v' e1 e2=>h (k+1) d' v' e1 e2)
structure dD (K:Ut) (He η Ha:Hp) (σ:L2.St) (H:Hp) (ρ:Ev):Prop where
 g:bB He η H Ha
 rd:Reads K Ha σ ρ
 ow:∀(i:Nat) (d:D),ρ[i]?=some (.ow d)->∃a,σ[i]?=some (some (.ref a))/\He a=none/\Ha a=none/\Lu K Ha H a d
 ap:∀(i j:Nat) (d d':D),i≠j->ρ[i]?=some (.ow d)->ρ[j]?=some (.ow d')->σ[i]?≠σ[j]?
 ln:ρ.length=σ.length
 ex:OX K He Ha σ H ρ
inductive Fl where
 |nx (ρ:Ev)|rt (d:D)|bk (ρ:Ev)|ct (ρ:Ev)
noncomputable def b5(K:Ut) (E:XK) (He η Ha:Hp) (r:aj Fl) (D:jK):Prop:=match r with
 |.ok (.nx ρ)=>∀σ H Ha',aG Ha Ha'->dD K He η Ha' σ H ρ->D.nx σ H
 |.ok (.rt d)=>∀v H Ha',bB He η H Ha'->Rep K Ha' d v->D.rt v H
 |.ok (.bk ρ)=>∀σ H Ha',aG Ha Ha'->dD K He η Ha' σ H ρ->D.bk σ H
 |.ok (.ct ρ)=>∀σ H Ha',aG Ha Ha'->dD K He η Ha' σ H ρ->D.ct σ H
 |.exn x=>∀C ox H Ha',bB He η H Ha'->AJ K Ha' x C ox->E C ox H
 |.stuck=>False
def b5.grow{K:Ut}{D:jK}(h:b5 K E He η Ha r D)(s:aG Ha Hb):b5 K E He η Hb r D:=by
 cases r with
 |ok f =>
  cases f with|nx ρ=>exact λσ H Ha' s'=>h σ H Ha' (s.trans s')|rt d=>exact h|bk ρ=>exact λσ H Ha' s'=>h σ H Ha' (s.trans s')|ct ρ=>exact λσ H Ha' s'=>h σ H Ha' (s.trans s')
 |exn x=>exact h
 |stuck=>exact h
noncomputable def tS(K:Ut) (E:XK) (He η:Hp) (g:Ev->aj Fl):TS:=λD σ H=>∃Ha ρ,dD K He η Ha σ H ρ/\b5 K E He η Ha (g ρ) D
structure DS (X:Cx) (E:XK) (He η:Hp) (st:V0) (g:Ev->aj Fl):Prop where
 o:PS X st (tS X.K E He η g)
structure AQ (X:Cx) (E:XK) (He η:Hp) (st:List V0) (g:Ev->aj Fl):Prop where
 o:wK X st (tS X.K E He η g)
noncomputable def fz(ρ:Ev):Ev:=ρ.map λs=>match s with
 |.ow d=>.sh d
 |.ox _ ds=>.sh (.tup ds)
 |x=>x
def frz(He Ha H:Hp):Hp:=λa=>match He a with
 |none=>H a
 |some _=>Ha a
section
variable {K:Ut}{E:XK}{He η Ha H H1:Hp}{σ:L2.St}{ρ:Ev}
def dD.same(h:dD K He η Ha σ H ρ)(s:aG H H1):dD K He η Ha σ H1 ρ :=
 ⟨⟨h.g.s.trans s,h.g.z,h.g.sub.trans s,h.g.nw⟩,h.rd,λi d e=>by
  obtain⟨a,h1,h2,h3,h4⟩:=h.ow i d e;refine⟨a,h1,h2,h3,?_⟩;cases d with
  |lst ds=>obtain⟨vs,h5,h6⟩:=h4;exact⟨vs,s _ _ h5,h6⟩|dic ks ds=>obtain⟨vs,h5,hl,h6⟩:=h4;exact⟨vs,s _ _ h5,hl,h6⟩
  |_=>exact h4,h.ap,h.ln,h.ex.upd (λj s' e=>.inl ⟨e,rfl⟩) (aG.refl _) (λa vs _ e=>s _ _ e) λp us _ h0 hp _=>⟨s _ _ hp,h0⟩⟩
def dD.grow(h:dD K He η Ha σ H ρ)(s:bB H Ha H1 H01):dD K He η H01 σ H1 ρ :=
 ⟨h.g.trans s,h.rd.mono s.z,λi d e=>by
  obtain⟨a,h1,h2,h3,h4⟩:=h.ow i d e;have ha:H01 a=none:=by
   cases q:H01 a with
   |none=>rfl
   |some o =>
    have:=s.nw a (by rw[q];simp) h3;cases d with|lst ds|dic ks ds=>obtain⟨vs,h5,_⟩:=h4;rw[h5] at this;cases this| _=>exact h4.elim
  refine⟨a,h1,h2,ha,?_⟩;cases d with
  |lst ds=>obtain⟨vs,h5,h6⟩:=h4;exact⟨vs,s.s _ _ h5,h6.mono s.z⟩|dic ks ds=>obtain⟨vs,h5,hl,h6⟩:=h4;exact⟨vs,s.s _ _ h5,hl,h6.mono s.z⟩
  |_=>exact h4,h.ap,h.ln,h.ex.upd (λj s' e=>.inl ⟨e,rfl⟩) s.z (λa vs _ e=>s.s _ _ e) λp us _ h0 hp _=>⟨s.s _ _ hp,by
   cases q:H01 p with
   |none=>rfl
   |some o=>have:=s.nw p (by rw[q];simp) h0;rw[hp] at this;cases this⟩⟩
def dD.frz_sub(h:dD K He η Ha σ H ρ):aG Ha (frz He Ha H):=λb o e=>by
 unfold frz;cases q:He b with|none=>exact h.g.sub _ _ e|some _=>exact e
def dD.frz_le(h:dD K He η Ha σ H ρ):aG (frz He Ha H) H:=λb o e=>by
 unfold frz at e;cases q:He b with|none=>rw[q] at e;exact e|some _=>rw[q] at e;exact h.g.sub _ _ e
theorem dD.frz_grow(h:dD K He η Ha σ H ρ):bB He η H (frz He Ha H) :=
 ⟨h.g.s,h.g.z.trans h.frz_sub,h.frz_le,λa h1 h2=>by
  cases q:He a with
  |none=>rfl
  |some o =>
   unfold frz at h1;rw[q] at h1;have:=h.g.nw a h1 h2;rw[q] at this;cases this⟩
def dD.looks(h:dD K He η Ha σ H ρ):Reads K (frz He Ha H) σ (fz ρ):=λi d e=>by
 unfold fz at e;rw[UL] at e;cases q:ρ[i]? with
 |none=>rw[q] at e;cases e
 |some s =>
  rw[q] at e;cases s with
  |no|pt a=>cases e
  |sh d' =>
   cases e;obtain⟨v,h1,h2⟩:=h.rd i d q;exact⟨v,h1,h2.mono h.frz_sub⟩
  |ow d' =>
   cases e;obtain⟨a,h1,h2,h3,h4⟩:=h.ow i d q;refine⟨_,h1,?_⟩;cases d with
   |lst ds =>
    obtain⟨vs,h5,h6⟩:=h4;exact aI.mpr ⟨a,vs,rfl,eX.of (by unfold frz;rw[h2];exact h5),h6.mono h.frz_sub⟩
   |dic ks ds =>
    obtain⟨vs,h5,hl,h6⟩:=h4;rw[Rep];exact⟨a,_,vs,rfl,.inl (by unfold frz;rw[h2];exact h5),rfl,hl,h6.mono h.frz_sub⟩
   |_=>exact h4.elim
  |ox j ds =>
   cases e;obtain⟨a,p,h1,⟨vs,es,us,r1,r2,r3,r4,r5,r6,r7,r8,r9,r10⟩,_⟩:=h.ex.1 i j ds q;refine⟨_,h1,aN.mpr ⟨a,vs,rfl,kn.of (by unfold frz;rw[r1];exact r2),Cp r9 λk d v e1 e2=>?_⟩⟩
   by_cases hk:k=j
   .subst hk
    rw[r5] at e1;cases e1;rw[r6] at e2;cases e2;exact aI.mpr ⟨p,us,rfl,eX.of (by unfold frz;rw[r3];exact r7),r8.mono h.frz_sub⟩
   .exact(r10 k d v hk e1 e2).mono h.frz_sub
def dD.put(h:dD K He η Ha σ H ρ)(r:Rep K Ha d v):dD K He η Ha (σ.set i (some v)) H (ρ.set i (.sh d)):=by
 have key:∀(j:Nat) (s:Sl),(ρ.set i (.sh d))[j]?=some s->(j=i/\s=.sh d/\i<σ.length)∨(j≠i/\ρ[j]?=some s):=λj s e=>by
  by_cases hj:i=j
  .subst hj
   rw[Wr] at e;cases q:ρ[i]? with
   |none=>rw[q] at e;cases e
   |some s' =>
    rw[q] at e;cases e;refine .inl ⟨rfl,rfl,?_⟩;rw[←h.ln];exact(UA.mp q).1
  .rw[Uz hj] at e
   exact .inr ⟨λz=>hj z.symm,e⟩
 refine⟨h.g,λj d' e=>?_,λj d' e=>?_,λj k d1 d2 hn e1 e2=>?_,by simp [h.ln],h.ex.upd (λj s e=>?_) (aG.refl _) (λa vs _ e=>e) λp us _ h0 hp _=>⟨hp,h0⟩⟩
 rotate_left 3
 .rcases key j _ e with⟨rfl,e',hl⟩|⟨hj,e'⟩
  .exact .inr (.inl ⟨d,e'⟩)
  .exact .inl ⟨e',by rw[Uz (Vh hj)]⟩
 .rcases key j _ e with⟨rfl,e',hl⟩|⟨hj,e'⟩
  .cases e'
   exact⟨v,by rw[U2 hl],r⟩
  .obtain⟨v',h1,h2⟩:=h.rd j d' e'
   exact⟨v',by rw[Uz (Vh hj)];exact h1,h2⟩
 .rcases key j _ e with⟨rfl,e',hl⟩|⟨hj,e'⟩
  .cases e'
  .obtain⟨a,h1,h2⟩:=h.ow j d' e'
   exact⟨a,by rw[Uz (Vh hj)];exact h1,h2⟩
 .rcases key j _ e1 with⟨_,e',_⟩|⟨hj,e1'⟩
  .cases e'
  rcases key k _ e2 with⟨_,e',_⟩|⟨hk,e2'⟩
  .cases e'
  rw[Uz (Vh hj),Uz (Vh hk)];exact h.ap j k d1 d2 hn e1' e2'
def dD.putOwn(h:dD K He η Ha σ H ρ)(hp:∀(j:Nat) (a:Uw),σ[j]?=some (some (V.ref a))->a=p->∀d:D,ρ[j]?≠some (Sl.ow d))(he:He p=none)(h0:Ha p=none)(hv:H p=some (.lst vs))(r:Reps K Ha ds vs)(hx:∀(i j:Nat) (ds:List D) (a q:Uw),ρ[i]?=some (.ox j ds)->σ[i]?=some (some (.ref a))->Rm K He Ha H a j ds q->p≠q) :
  dD K He η Ha (σ.set i (some (.ref p))) H (ρ.set i (.ow (.lst ds))):=by
 have key:∀(j:Nat) (s:Sl),(ρ.set i (.ow (.lst ds)))[j]?=some s->(j=i/\s=.ow (.lst ds)/\i<σ.length)∨(j≠i/\ρ[j]?=some s):=λj s e=>by
  by_cases hj:i=j
  .subst hj
   rw[Wr] at e;cases q:ρ[i]? with
   |none=>rw[q] at e;cases e
   |some s' =>
    rw[q] at e;cases e;refine .inl ⟨rfl,rfl,?_⟩;rw[←h.ln];exact(UA.mp q).1
  .rw[Uz hj] at e
   exact .inr ⟨λz=>hj z.symm,e⟩
 have other:∀(k:Nat) (d2:D),k≠i->ρ[k]?=some (.ow d2)->some (some (V.ref p))≠σ[k]?:=λk d2 hk e2 z=>by
  obtain⟨a,h1,_⟩:=h.ow k d2 e2;rw[h1] at z;cases z;exact hp k p h1 rfl d2 e2
 refine⟨h.g,λj d' e=>?_,λj d' e=>?_,λj k d1 d2 hn e1 e2=>?_,by simp [h.ln],h.ex.upd (λj s e=>?_) (aG.refl _) (λa vs _ e=>e) λp us _ h0 hp _=>⟨hp,h0⟩⟩
 rotate_left 3
 .rcases key j _ e with⟨rfl,e',hl⟩|⟨hj,e'⟩
  .exact .inr (.inr (.inr ⟨.lst ds,p,e',by rw[U2 hl],hx⟩))
  .exact .inl ⟨e',by rw[Uz (Vh hj)]⟩
 .rcases key j _ e with⟨rfl,e',hl⟩|⟨hj,e'⟩
  .cases e'
  .obtain⟨v',h1,h2⟩:=h.rd j d' e'
   exact⟨v',by rw[Uz (Vh hj)];exact h1,h2⟩
 .rcases key j _ e with⟨rfl,e',hl⟩|⟨hj,e'⟩
  .cases e'
   exact⟨p,by rw[U2 hl],he,h0,vs,hv,r⟩
  .obtain⟨a,h1,h2⟩:=h.ow j d' e'
   exact⟨a,by rw[Uz (Vh hj)];exact h1,h2⟩
 .rcases key j _ e1 with⟨rfl,_,hl⟩|⟨hj,e1'⟩
  .rcases key k _ e2 with⟨rfl,_,_⟩|⟨hk,e2'⟩
   .exact absurd rfl hn
   .rw[U2 hl,Uz (Vh hk)]
    exact other k d2 hk e2'
  .rcases key k _ e2 with⟨rfl,_,hl⟩|⟨hk,e2'⟩
   .rw[U2 hl,Uz (Vh hj)]
    exact λz=>other j d1 hj e1' z.symm
   .rw[Uz (Vh hj),Uz (Vh hk)]
    exact h.ap j k d1 d2 hn e1' e2'
def dD.fresh_x{H01:Hp}{p:Uw}(h:dD K He η Ha σ H ρ)(s:aG H H1)(hp:H p=none):∀(i j:Nat) (ds:List D) (a q:Uw),ρ[i]?=some (.ox j ds)->σ[i]?=some (some (.ref a))->Rm K He H01 H1 a j ds q->p≠q:=λi j ds a q x1 x2 x3=>by
 obtain⟨a2,p2,y1,⟨vs2,_,us2,_,z3,_,_,_,z4,z5,_⟩,_⟩:=h.ex.1 i j ds x1;rw[x2] at y1;cases y1;obtain⟨vs1,_,_,_,z1,_,_,_,z2,_⟩:=x3;have:=s _ _ z3;rw[z1] at this;cases this;rw[z2] at z4;cases z4;intro z;subst z;rw[hp] at z5;cases z5
def dD.write(h:dD K He η Ha σ H ρ)(e:ρ[i]?=some (.ow d))(es:σ[i]?=some (some (.ref p)))(r:Reps K Ha ds vs) :
  dD K He η Ha σ (upd H p (.lst vs)) (ρ.set i (.ow (.lst ds))):=by
 obtain⟨a,h1,h2,h3,h4⟩:=h.ow i d e;rw[h1] at es;cases es;have hil:i<ρ.length:=(UA.mp e).1;have key:∀(j:Nat) (s:Sl),(ρ.set i (.ow (.lst ds)))[j]?=some s->(j=i/\s=.ow (.lst ds))∨(j≠i/\ρ[j]?=some s):=λj s e=>by
  by_cases hj:i=j
  .subst hj
   rw[U2 hil] at e;cases e;exact .inl ⟨rfl,rfl⟩
  .rw[Uz hj] at e
   exact .inr ⟨λz=>hj z.symm,e⟩
 refine⟨⟨λb o eb=>?_,h.g.z,λb o eb=>?_,h.g.nw⟩,λj d' e'=>?_,λj d' e'=>?_,λj k d1 d2 hn e1 e2=>?_,by simp [h.ln],h.ex.upd (λj s e'=>?_) (aG.refl _) (λb us _ eb=>?_) λq us _ q0 hq hd=>?_⟩
 rotate_left 5
 .rcases key j _ e' with⟨rfl,e''⟩|⟨hj,e''⟩
  .exact .inr (.inr (.inr ⟨.lst ds,p,e'',h1,λi' j' ds' a' p' x1 x2 x3=>by
    obtain⟨a2,p2,y1,y2,y3,_⟩:=h.ex.1 i' j' ds' x1;rw[x2] at y1;cases y1;have:p2=p':=by
     obtain⟨vs1,_,_,_,z1,_,_,_,z2,_⟩:=x3;obtain⟨vs2,_,_,_,z3,_,_,_,z4,_⟩:=y2;rw[z1] at z3;cases z3;rw[z2] at z4;cases z4;rfl
    subst this;intro zz;subst zz;exact y3 j d e h1⟩))
  .exact .inl ⟨e'',rfl⟩
 .rw[aw (by
   intro z;subst z;cases d with
   |lst ds'|dic ks ds'=>obtain⟨vs',h5,_⟩:=h4;rw[h5] at eb;cases eb
   |_=>exact h4)];exact eb
 .have hq':q≠p:=by
   intro z;subst z;exact hd i d e h1
  exact⟨by rw[aw hq'];exact hq,q0⟩
 .rw[aw (by intro z;subst z;rw[h2] at eb;cases eb)];exact h.g.s _ _ eb
 .rw[aw (by intro z;subst z;rw[h3] at eb;cases eb)];exact h.g.sub _ _ eb
 .rcases key j _ e' with⟨rfl,e''⟩|⟨hj,e''⟩
  .cases e''
  .exact h.rd j d' e''
 .rcases key j _ e' with⟨rfl,e''⟩|⟨hj,e''⟩
  .cases e''
   exact⟨p,h1,h2,h3,vs,aB,r⟩
  .obtain⟨b,k1,k2,k3,k4⟩:=h.ow j d' e''
   refine⟨b,k1,k2,k3,?_⟩;have hb:b≠p:=by
    intro z;subst z;exact h.ap j i d' d hj e'' e (by rw[k1,h1])
   cases d' with
   |lst ds' =>
    obtain⟨vs',h5,h6⟩:=k4;exact⟨vs',by rw[aw hb];exact h5,h6⟩
   |dic ks ds' =>
    obtain⟨vs',h5,hl,h6⟩:=k4;exact⟨vs',by rw[aw hb];exact h5,hl,h6⟩
   |_=>exact k4.elim
 .rcases key j _ e1 with⟨rfl,e1'⟩|⟨hj,e1'⟩
  .rcases key k _ e2 with⟨rfl,_⟩|⟨hk,e2'⟩
   .exact absurd rfl hn
   .exact h.ap j k d d2 hn e e2'
  .rcases key k _ e2 with⟨rfl,_⟩|⟨hk,e2'⟩
   .exact h.ap j k d1 d hn e1' e
   .exact h.ap j k d1 d2 hn e1' e2'
end
mutual
def nq:D->Bool
 |.lst _=>false
 |.dic _ _=>false
 |.exc _=>false
 |.ob _ _=>false
 |.tup ds=>flats ds
 |_=>true
def flats:List D->Bool
 |[]=>true
 |d::ds=>nq d&&flats ds
end
mutual
theorem Rep.flat_to{K:Ut}{H H':Hp}(e:∀a vs,Rd H a (.tup vs)->Rd H' a (.tup vs)):∀{d:D}{v:V},nq d=true->Rep K H d v->Rep K H' d v
 |.non,_,_,h=>by unfold Rep at h ⊢;exact h
 |.bl _,_,_,h=>by unfold Rep at h ⊢;exact h
 |.int _,_,_,h=>by unfold Rep at h ⊢;exact h
 |.str _,_,_,h=>by unfold Rep at h ⊢;exact h
 |.tup ds,_,f,h=>by
  unfold nq at f;obtain⟨a,vs,e1,e2,e3⟩:=aN.mp h;refine aN.mpr ⟨a,vs,e1,?_,Reps.flat_to e f e3⟩;rcases e2 with e2|e2
  .exact .inl (e _ _ e2)
  .exact .inr e2
 |.lst ds,_,f,h=>by unfold nq at f;cases f
 |.dic ks ds,_,f,h=>by unfold nq at f;cases f
 |.exc x,_,f,h=>by unfold nq at f;cases f
 |.ob k ds,_,f,h=>by unfold nq at f;cases f
theorem Reps.flat_to{K:Ut}{H H':Hp}(e:∀a vs,Rd H a (.tup vs)->Rd H' a (.tup vs)):∀{ds:List D}{vs:List V},flats ds=true->Reps K H ds vs->Reps K H' ds vs
 |[],_,_,h=>by unfold Reps at h ⊢;exact h
 |d::ds,_,f,h=>by
  unfold flats at f;rw[U4] at f;obtain⟨v,r,e1,e2,e3⟩:=aJ.mp h;exact aJ.mpr ⟨v,r,e1,Rep.flat_to e f.1 e2,Reps.flat_to e f.2 e3⟩
end
noncomputable def iO(Ha J:Hp):Hp:=λa=>match Ha a with
 |some o=>some o
 |none=>match J a with
  |some (.tup vs)=>some (.tup vs)
  |some (.frz o (.tup vs))=>some (.frz o (.tup vs))
  |_=>none
section
variable {K:Ut}{E:XK}{He η Ha H H1 J:Hp}{σ:L2.St}{ρ:Ev}
def Lp(h:aG Ha J):∀a o,iO Ha J a=some o->J a=some o:=λa o e=>by
 unfold iO at e;cases q:Ha a with
 |some u=>rw[q] at e;cases e;exact h _ _ q
 |none =>
  rw[q] at e;cases q2:J a with
  |none=>rw[q2] at e;cases e
  |some u =>
   rw[q2] at e;cases u with
   |tup vs=>cases e;rfl
   |frz o u' =>
    cases u' with|tup vs=>cases e;rfl| _=>cases e
   |_=>cases e
def D4(h:aG Ha J)(a:Uw)(vs:List V)(e:Rd J a (.tup vs)):Rd (iO Ha J) a (.tup vs):=by
 rcases e with e|⟨o,e⟩
 .refine .inl ?_
  unfold iO;cases q:Ha a with|some u=>have:=h _ _ q;rw[e] at this;cases this;rfl|none=>rw[e]
 .refine .inr ⟨o,?_⟩
  unfold iO;cases q:Ha a with|some u=>have:=h _ _ q;rw[e] at this;cases this;rfl|none=>rw[e]
def dD.behind(h:dD K He η Ha σ H ρ)(g:bB H (frz He Ha H) H1 J):dD K He η (iO Ha J) σ H1 ρ:=by
 have hJ:aG Ha J:=h.frz_sub.trans g.z;have le:=Lp (Ha:=Ha) (J:=J) hJ;have z:aG Ha (iO Ha J):=λb o e=>by unfold iO;rw[e]
 refine⟨⟨h.g.s.trans g.s,h.g.z.trans z,λb o e=>g.sub _ _ (le b o e),λa h1 h2=>?_⟩,h.rd.mono z,λi d e=>?_,h.ap,h.ln,h.ex.upd (λj s e=>.inl ⟨e,rfl⟩) z (λa vs _ e=>g.s _ _ e) λp us hp h0 hl _=>⟨g.s _ _ hl,by
  have:frz He Ha H p=some (.lst us):=by unfold frz;rw[hp];exact hl
  have:=g.z _ _ this;unfold iO;rw[h0,this]⟩⟩
 .cases q:iO Ha J a with
  |none=>exact absurd q h1
  |some o =>
   have hj:=le a o q;exact(h.frz_grow.trans g).nw a (by rw[hj];simp) h2
 .obtain⟨a,k1,k2,k3,k4⟩:=h.ow i d e
  refine⟨a,k1,k2,?_,?_⟩
  .cases d with
   |lst ds =>
    obtain⟨vs,h5,_⟩:=k4;have:frz He Ha H a=some (.lst vs):=by unfold frz;rw[k2];exact h5
    have:=g.z _ _ this;unfold iO;rw[k3,this]
   |dic ks ds =>
    obtain⟨vs,h5,_⟩:=k4;have:frz He Ha H a=some (.dK ((ks.map Vp).zip vs)):=by unfold frz;rw[k2];exact h5
    have:=g.z _ _ this;unfold iO;rw[k3,this]
   |_=>exact k4.elim
  .cases d with
   |lst ds=>obtain⟨vs,h5,h6⟩:=k4;exact⟨vs,g.s _ _ h5,h6.mono z⟩
   |dic ks ds=>obtain⟨vs,h5,hl,h6⟩:=k4;exact⟨vs,g.s _ _ h5,hl,h6.mono z⟩
   |_=>exact k4.elim
end
section
variable {X:Cx}{E:XK}{He η:Hp}{st:V0}{rest:List V0}{e a b:Vk}{es:List Vk}{f g:Ev->aj D}{fa:Ev->aj (List D)}{s t:Ev->aj Fl}{pos:Pos}
def bN{t t':TS}(h:PS X st t)(w:∀D σ H,t' D σ H->t D σ H):PS X st t':=λπ s σ H D I q=>h π s σ H D I (w D σ H q)
def eT{t t':TS}(h:wK X rest t)(w:∀D σ H,t' D σ H->t D σ H):wK X rest t':=λπ s σ H D I q=>h π s σ H D I (w D σ H q)
def av:Ev->aj Fl:=λρ=>.ok (.nx ρ)
noncomputable def aA(s t:Ev->aj Fl):Ev->aj Fl:=λρ=>(s ρ).bind λr=>match r with
 |.nx ρ'=>t ρ'
 |r=>.ok r
def ar:AQ X E He η [] av:=⟨eT qP λD σ H ⟨Ha,ρ,h,q⟩=>q σ H Ha (aG.refl _) h⟩
def ah(h1:DS X E He η st s)(h2:AQ X E He η rest t):AQ X E He η (st::rest) (aA s t):=by
 refine⟨?_⟩;refine eT (gA h1.o h2.o) λD σ H z9=>?_;obtain⟨Ha,ρ,h,q⟩:=z9;refine⟨Ha,ρ,h,?_⟩
 unfold aA at q;cases e1:s ρ with
 |stuck|exn x=>rw[e1] at q;exact q
 |ok r =>
  rw[e1] at q;cases r with|nx ρ'=>exact λσ' H' Ha' s' h'=>⟨Ha',ρ',h',b5.grow (r:=t ρ') q s'⟩|rt d|bk ρ'|ct ρ'=>exact q
def fU:Ev->aj Fl:=λ_=>.stuck
def As:DS X E He η st fU:=⟨bN GO λD σ H ⟨Ha,ρ,h,q⟩=>q⟩
def plain{K:Ut}{k:D->aj Fl}(h:dD K He η Ha σ H ρ) 
  (q:b5 K E He η Ha (r.bind k) D')(hk:∀d v H' Ha',r=.ok d->bB H Ha H' Ha'->Rep K Ha' d v->b5 K E He η Ha' (k d) D'->Q v H'):post K E H Ha r Q:=by
 cases r with|stuck=>exact q|exn x=>exact λC ox H' Ha' g ex=>q C ox H' Ha' (h.g.trans g) ex|ok d=>exact λv H' Ha' g rp=>hk d v H' Ha' rfl g rp (b5.grow (r:=k d) q g.z)
def look{K:Ut}{k:D->aj Fl}(h:dD K He η Ha σ H ρ) 
  (q:b5 K E He η Ha (r.bind k) D')(hk:∀d v H' J,r=.ok d->bB H (frz He Ha H) H' J->Rep K J d v->b5 K E He η Ha (k d) D'->Q v H'):post K E H (frz He Ha H) r Q:=by
 cases r with|stuck=>exact q|exn x=>exact λC ox H' Ha' g ex=>q C ox H' Ha' (h.frz_grow.trans g) ex|ok d=>exact λv H' J g rp=>hk d v H' J rfl g rp q
def LR{K:Ut}{k:Bool->aj Fl}(h:dD K He η Ha σ H ρ) 
  (q:b5 K E He η Ha (r.bind λx=>match x with|.bl b=>k b|_=>.stuck) D')(hk:∀b H',aG H H'->b5 K E He η Ha (k b) D'->Q b H'):sC K E H (frz He Ha H) r Q:=by
 cases r with
 |stuck=>exact q|exn x=>exact λC ox H' Ha' g ex=>q C ox H' Ha' (h.frz_grow.trans g) ex
 |ok d =>
  cases d with|bl b=>exact λH' J g=>hk b H' g.s q| _=>exact q.elim
noncomputable def bS(i:Nat) (f:Ev->aj D):Ev->aj Fl:=λρ=>(f ρ).bind λd=>.ok (.nx (ρ.set i (.sh d)))
noncomputable def rW(i:Nat) (f:Ev->aj D):Ev->aj Fl:=λρ=>(f (fz ρ)).bind λd=>if nq d=true then .ok (.nx (ρ.set i (.sh d))) else .stuck
def b8(f:Ev->aj D):Ev->aj Fl:=λρ=>(f (fz ρ)).bind λd=>.ok (.rt d)
def ig(f:Ev->aj D):Ev->aj Fl:=λρ=>(f (fz ρ)).bind λ_=>.ok (.nx ρ)
noncomputable def e7(c:Ev->aj D) (s t:Ev->aj Fl):Ev->aj Fl:=λρ=>(c (fz ρ)).bind λx=>match x with
 |.bl b=>if b=true then s ρ else t ρ
 |_=>.stuck
def bo(hN:X.N.Nodup)(hi:X.N[i]?=some x)(hx:Fx X.env.scope x)(he:DE X E e f)(hs:Vz e (some (.Name x pos')) pos.line X.env=pure false:=by rfl)
  (hf:X.fn x=true∨X.env.scope.names.lookup x=some .local := by first|exact .inl rfl|exact .inr rfl|assumption):DS X E He η (.Assign [.Name x pos'] e pos) (bS i f):=by
 refine⟨?_⟩;refine bN (mv hN hi hx he.o hs hf) λD σ H z9=>?_;obtain⟨Ha,ρ,h,q⟩:=z9;refine⟨Ha,ρ,h.g.sub,h.rd,?_⟩
 refine plain h q λd v H' Ha' _ g rp q'=>?_;exact q' _ H' Ha' (aG.refl _) ((h.grow g).put rp)
def DK(hN:X.N.Nodup)(hi:X.N[i]?=some x)(hx:Fx X.env.scope x)(he:DE X E e f)(hs:Vz e (some (.Name x pos')) pos.line X.env=pure false:=by rfl)
  (hf:X.fn x=true∨X.env.scope.names.lookup x=some .local := by first|exact .inl rfl|exact .inr rfl|assumption):DS X E He η (.Assign [.Name x pos'] e pos) (rW i f):=by
 refine⟨?_⟩;refine bN (mv hN hi hx he.o hs hf) λD σ H z9=>?_;obtain⟨Ha,ρ,h,q⟩:=z9;refine⟨frz He Ha H,fz ρ,h.frz_le,h.looks,?_⟩
 refine look h q λd v H' J _ g rp q'=>?_
 by_cases fl:nq d=true
 .rw[if_pos fl] at q'
  have hJ:aG Ha J:=h.frz_sub.trans g.z;refine q' _ H' (iO Ha J) (λb o e=>by unfold iO;rw[e]) ((h.behind g).put (rp.flat_to (D4 hJ) fl))
 .rw[if_neg fl] at q';exact q'.elim
def bc(he:DE X E e f):DS X E He η (.Return (some e) pos) (b8 f):=by
 refine⟨?_⟩;refine bN (xa he.o) λD σ H z9=>?_;obtain⟨Ha,ρ,h,q⟩:=z9;refine⟨frz He Ha H,fz ρ,h.frz_le,h.looks,?_⟩
 exact look h q λd v H' J _ g rp q'=>q' v H' J (h.frz_grow.trans g) rp
def gT(he:DE X E e f)(hs:Vz e none pos.line X.env=pure false:=by rfl):DS X E He η (.Expr e pos) (ig f):=by
 refine⟨?_⟩;refine bN (qQ he.o hs) λD σ H z9=>?_;obtain⟨Ha,ρ,h,q⟩:=z9;refine⟨frz He Ha H,fz ρ,h.frz_le,h.looks,?_⟩
 exact look h q λd v H' J _ g rp q'=>q' σ H' Ha (aG.refl _) (h.same g.s)
def b6(hc:DT X E c fc)(ha:AQ X E He η sa s)(hb:AQ X E He η sb t):DS X E He η (.If c sa sb pos) (e7 fc s t):=by
 refine⟨?_⟩;refine bN (LN hc.o ha.o hb.o) λD σ H z9=>?_;obtain⟨Ha,ρ,h,q⟩:=z9;refine⟨frz He Ha H,fz ρ,h.frz_le,h.looks,?_⟩
 refine LR (k:=λb=>if b=true then s ρ else t ρ) h q λb H' hs q'=>?_;cases b with|true=>rw[if_pos rfl] at q' ⊢;exact⟨Ha,ρ,h.same hs,q'⟩|false=>rw[if_neg VC] at q' ⊢;exact⟨Ha,ρ,h.same hs,q'⟩
noncomputable def tF(K:Ut) (E:XK) (f:Ev->aj D):TE:=λσ H Q=>∃Ha ρ,aG Ha H/\Reads K Ha σ ρ/\match f ρ with
 |.ok (.lst ds)=>∀p vs H' Ha',bB H Ha H' Ha'->H p=none->Ha' p=none->H' p=some (.lst vs)->Reps K Ha' ds vs->Q (.ref p) H'
 |.ok _=>False
 |.exn x=>∀C ox H' Ha',bB H Ha H' Ha'->AJ K Ha' x C ox->E C ox H'
 |.stuck=>False
structure DF (X:Cx) (E:XK) (e:Vk) (f:Ev->aj D):Prop where
 o:PE X e (tF X.K E f)
noncomputable def jO(i:Nat) (f:Ev->aj D):Ev->aj Fl:=λρ=>(f ρ).bind λd=>match d with
 |.lst ds=>.ok (.nx (ρ.set i (.ow (.lst ds))))
 |_=>.stuck
def iD(hN:X.N.Nodup)(hi:X.N[i]?=some x)(hx:Fx X.env.scope x)(he:DF X E e f)(hs:Vz e (some (.Name x pos')) pos.line X.env=pure false:=by rfl)
  (hf:X.fn x=true∨X.env.scope.names.lookup x=some .local := by first|exact .inl rfl|exact .inr rfl|assumption):DS X E He η (.Assign [.Name x pos'] e pos) (jO i f):=by
 refine⟨?_⟩;refine bN (mv hN hi hx he.o hs hf) λD σ H z9=>?_;obtain⟨Ha,ρ,h,q⟩:=z9;refine⟨Ha,ρ,h.g.sub,h.rd,?_⟩
 unfold jO at q;cases e1:f ρ with
 |stuck=>rw[e1] at q;exact q|exn x=>rw[e1] at q;exact λC ox H' Ha' g ex=>q C ox H' Ha' (h.g.trans g) ex
 |ok d =>
  rw[e1] at q;cases d with
  |lst ds =>
   intro p vs H' Ha' g hp h0 hv rp;refine q _ H' Ha' g.z ((h.grow g).putOwn (λj a ej ea d ed=>?_) (h.g.s.free hp) h0 hv rp (h.fresh_x g.s hp));subst ea;obtain⟨a',k1,_,_,k4⟩:=h.ow j d ed;rw[ej] at k1;cases k1;cases d with|lst ds'|dic ks ds'=>obtain⟨vs',h5,_⟩:=k4;rw[hp] at h5;cases h5| _=>exact k4.elim
  |_=>exact q.elim
def jb(h:DA X E es fa):DF X E (.List es pos) (ao fa bJ):=by
 refine⟨?_⟩;refine aZ (Ba h.o) λσ H Q h=>?_;obtain⟨Ha,ρ,hs,hr,q⟩:=h;refine⟨Ha,ρ,hs,hr,?_⟩;unfold ao at q;cases e1:fa ρ with
 |stuck|exn x=>rw[e1] at q;exact q
 |ok ds =>
  rw[e1] at q;intro vs H1 H01 g1 r1;replace q:match bJ ds with
   |.ok (.lst ds)=>∀p vs H' Ha',bB H Ha H' Ha'->H p=none->Ha' p=none->H' p=some (.lst vs)->Reps X.K Ha' ds vs->Q (.ref p) H'
   |.ok _=>False
   |.exn x=>∀C ox H' Ha',bB H Ha H' Ha'->AJ X.K Ha' x C ox->E C ox H'
   |.stuck=>False:=q
  unfold bJ at q
  by_cases hl:ds.length<=line
  .rw[if_pos hl] at q
   refine⟨by rw[←r1.length];exact cG hl,λp hp=>?_⟩;have h0:H01 p=none:=g1.sub.free hp;refine q p vs _ H01 (g1.trans ⟨λb o q=>by rw[aw (bb q hp)];exact q,aG.refl _,λb o q=>?_,λa h1 h2=>absurd h2 h1⟩) (g1.s.free hp) h0 aB r1;rw[aw (by intro z;subst z;rw[h0] at q;cases q)];exact g1.sub _ _ q
  .rw[if_neg hl] at q;exact q.elim
noncomputable def CF(ρ:Ev) (i:Nat) (k:List D->aj Fl):aj Fl:=match ρ[i]? with
 |some (.ow (.lst ds))=>k ds
 |_=>.stuck
noncomputable def c8(i:Nat) (f:Ev->aj D):Ev->aj Fl:=λρ=>CF ρ i λds=>(f ρ).bind λd=>if ds.length<line then .ok (.nx (ρ.set i (.ow (.lst (ds++[d]))))) else .stuck
def zk{K:Ut}{k:List D->aj Fl}(h:dD K He η Ha σ H ρ)(q:b5 K E He η Ha (CF ρ i k) D') :
  ∃ds p vs,ρ[i]?=some (.ow (.lst ds))/\σ[i]?=some (some (.ref p))/\He p=none/\Ha p=none/\H p=some (.lst vs)/\Reps K Ha ds vs/\b5 K E He η Ha (k ds) D':=by
 unfold CF at q;cases e:ρ[i]? with
 |none=>rw[e] at q;exact q.elim
 |some s =>
  rw[e] at q;cases s with
  |no|sh d|ox j ds|pt a=>exact q.elim
  |ow d =>
   cases d with
   |lst ds =>
    obtain⟨p,h1,h2,h3,vs,h4,h5⟩:=h.ow i _ e;exact⟨ds,p,vs,rfl,h1,h2,h3,h4,h5,q⟩
   |_=>exact q.elim
def fu(hN:X.N[i]?=some x)(hv:AH X.env.scope x)(he:DE X E e f)
  (hd:(x==("__debug__" : US))=false:=by decide)(hcd:(x==("__classdict__" : US))=false:=by decide)
  (hbase:WU (.Name x p1) "append" X.env (eval (.Name x p1) X.env)=eval (.Name x p1) X.env:=by rfl)
  (hfew:((VA p3 (Uy [e] X.env)).all (λx=>!x.1)&&(XU p3 (W5 [] X.env)).all (λx=>x.1.isSome)
  &&decide ([e].length+([]:List Xs).length+(if([]:List Xs).isEmpty then 0 else 1)<30))=true:=by exact tL rfl)
  (hline:(p2.endLine==p3.line)=true:=by rfl) (hs:Uy [e] X.env=(false,eval e X.env)::Uy [] X.env:=by exact aV rfl) (hplain:(VA p3 (Uy [] X.env)).any (·.1)=false:=by exact bL rfl)
  (hw:Vz (.Call (.Attribute (.Name x p1) "append" p2) [e] [] p3) none pos.line X.env=pure false:=by rfl) :
  DS X E He η (.Expr (.Call (.Attribute (.Name x p1) "append" p2) [e] [] p3) pos) (c8 i f):=by
 refine⟨?_⟩;refine bN (qQ (G0 YU YO YN o7 (gH hN hv hd hcd) (c9 he.o fV hs) hbase hfew hline hs hplain) hw) λD σ H ⟨Ha,ρ,h,q⟩=>?_;obtain⟨ds,p,vs,e1,e2,e3,e4,e5,e6,q⟩:=zk h q;refine⟨.ref p,e2,.inl ⟨rfl,vs,eX.of e5⟩,?_⟩;refine⟨Ha,ρ,h.g.sub,h.rd,plain h q λd v H' Ha' _ g rp q'=>?_⟩
 by_cases hl:ds.length<line
 .rw[if_pos hl] at q'
  have e5':H' p=some (.lst vs):=g.s _ _ e5;refine⟨p,vs,v,rfl,rfl,e5',by rw[←e6.length];exact UY hl (by decide),?_⟩;exact q' σ _ Ha' (aG.refl _) ((h.grow g).write e1 e2 ((e6.mono g.z).app (Reps.cons rp Reps.nil)))
 .rw[if_neg hl] at q';exact q'.elim
noncomputable def putAt(ρ:Ev) (i:Nat) (ds:List D) (d:D) (j:D):aj Fl:=match j with
 |.int j=>match AM ds.length j with
  |some n=>.ok (.nx (ρ.set i (.ow (.lst (ds.set n d)))))
  |none=>.stuck
 |_=>.stuck
noncomputable def Gq(i:Nat) (f k:Ev->aj D):Ev->aj Fl:=λρ=>CF ρ i λds=>(f ρ).bind λd=>(k ρ).bind λj=>putAt ρ i ds d j
def GJ{K:Ut}(h:dD K He η Ha σ H ρ)(e1:ρ[i]?=some (.ow (.lst ds)))(e2:σ[i]?=some (some (.ref p)))(e5:H p=some (.lst vs))(e6:Reps K Ha ds vs)
  (rp:Rep K Ha d v)(rj:Rep K Ha j u)(q:b5 K E He η Ha (putAt ρ i ds d j) D'):LL (.ref p) u v H λH'=>D'.nx σ H':=by
 unfold putAt at q;cases j with
 |int n =>
  cases en:AM ds.length n with
  |none=>simp only[en] at q;exact q.elim
  |some m =>
   simp only[en] at q;refine⟨p,vs,n,m,rfl,aC.mp rj,e5,by rw[←e6.length];exact en,?_⟩;exact q σ _ Ha (aG.refl _) (h.write e1 e2 (e6.set rp m))
 |_=>exact q.elim
section
variable {i:Nat}{x:US}{p1 p2:Pos}{k:Ev->aj D}
def NJ(hN:X.N[i]?=some x)(hv:AH X.env.scope x)(he:DE X E e f)(hk:DE X E b k)
  (hd:(x==("__debug__" : US))=false:=by decide)(hcd:(x==("__classdict__" : US))=false:=by decide)
  (ha:∀v,assign (.Subscript (.Name x p1) b p2) X.env v=(do
   let ov ←WY [v] (eval (.Name x p1) X.env)
   let iv ←WY [v,ov] (eval b X.env)
   standAt p2
   WY [v,ov,iv] (setItem ov iv v)
   release [v,ov,iv] []):=by intro _;rfl)
  (hs:swapsWithSole [.Subscript (.Name x p1) b p2] e pos.line X.env=pure false:=by rfl) (hw:swappedStores [.Subscript (.Name x p1) b p2] e X.env=pure none:=by rfl)
  (h1:(assignEach [.Subscript (.Name x p1) b p2] X.env).map (·.2)=[assign (.Subscript (.Name x p1) b p2) X.env]:=by rfl) :
  DS X E He η (.Assign [.Subscript (.Name x p1) b p2] e pos) (Gq i f k):=by
 refine⟨?_⟩;refine bN (A5 he.o (GU (gH hN hv hd hcd) hk.o yR ha) hs hw h1) λD σ H z9=>?_;obtain⟨Ha,ρ,h,q⟩:=z9;refine⟨Ha,ρ,h.g.sub,h.rd,?_⟩
 obtain⟨ds,p,vs,e1,e2,e3,e4,e5,e6,q⟩:=zk h q;refine plain (k:=λd=>(k ρ).bind λj=>putAt ρ i ds d j) h q λd v H1 H01 _ g1 r1 q1=>⟨.ref p,e2,?_⟩
 have h1':=h.grow g1;refine⟨H01,ρ,h1'.g.sub,h1'.rd,plain (k:=λj=>putAt ρ i ds d j) h1' q1 λj u H2 H02 _ g2 r2 q2=>?_⟩;exact GJ (h1'.grow g2) e1 e2 (g2.s _ _ (g1.s _ _ e5)) ((e6.mono g1.z).mono g2.z) (r1.mono g2.z) r2 q2
end
noncomputable def cB(tg:Ev->D->aj Ev) (body:Ev->aj Fl):List D->Ev->aj Fl
 |[],ρ=>.ok (.nx ρ)
 |d::r,ρ=>(tg ρ d).bind λρ1=>(body ρ1).bind λx=>match x with
  |.nx ρ2=>cB tg body r ρ2
  |.ct ρ2=>cB tg body r ρ2
  |.bk ρ2=>.ok (.nx ρ2)
  |.rt d=>.ok (.rt d)
noncomputable def tG(K:Ut) (He η:Hp) (tg:Ev->D->aj Ev):TG:=λv σ H Q=>∃Ha ρ d,dD K He η Ha σ H ρ/\Rep K Ha d v/\match tg ρ d with
  |.ok ρ'=>∀σ' H' Ha',aG Ha Ha'->dD K He η Ha' σ' H' ρ'->Q σ' H'
  |_=>False
structure DG (X:Cx) (E:XK) (He η:Hp) (target:Vk) (tg:Ev->D->aj Ev):Prop where
 o:PG X target (tG X.K He η tg)
def b3(i:Nat):Ev->D->aj Ev:=λρ d=>.ok (ρ.set i (.sh d))
def xg{t t':TG}(h:PG X tgt t)(w:∀v σ H Q,t' v σ H Q->t v σ H Q):PG X tgt t':=λπ s σ H v u Q I r q=>h π s σ H v u Q I r (w v σ H Q q)
def b4(hN:X.N.Nodup)(hi:X.N[i]?=some x)(hx:Fx X.env.scope x)(hf:X.fn x=true∨X.env.scope.names.lookup x=some .local := by first|exact .inl rfl|exact .inr rfl|assumption):DG X E He η (.Name x pos) (b3 i) :=
 ⟨xg (Cz hN hi hx hf) λv σ H Q ⟨Ha,ρ,d,h,rp,q⟩=>q _ H Ha (aG.refl _) (h.put rp)⟩
noncomputable def gN(K:Ut) (E:XK) (He η Hb:Hp) (tg:Ev->D->aj Ev) (s:Ev->aj Fl) (ds:List D) (D':jK) (i:Nat) (σ:L2.St) (H:Hp):Prop :=
 ∃Ha ρ,aG Hb Ha/\dD K He η Ha σ H ρ/\b5 K E He η Ha (cB tg s (ds.drop i) ρ) D'
def gN.step{K:Ut}(h:gN K E He η Hb tg s ds D' i σ H)(hd:ds[i]?=some d)(rv:Rep K Hb d v)
  (he:∀ρ,tg ρ d=.stuck∨∃ρ',tg ρ d=.ok ρ') :
  tG K He η tg v σ H λσ2 H2=>tS K E He η s { D' with nx:=gN K E He η Hb tg s ds D' (i+1),ct:=gN K E He η Hb tg s ds D' (i+1),bk:=D'.nx } σ2 H2:=by
 obtain⟨Ha,ρ,z,h,q⟩:=h;have hi:i<ds.length:=(UA.mp hd).1;have hdr:ds.drop i=d::ds.drop (i+1):=by
  rw[Vm hi];rw[UB hi] at hd;cases hd;rfl
 rw[hdr] at q;refine⟨Ha,ρ,d,h,rv.mono z,?_⟩;unfold cB at q;rcases he ρ with e1|⟨ρ1,e1⟩
 .rw[e1] at q;exact q.elim
 .rw[e1] at q ⊢
  intro σ' H' Ha' z' h';refine⟨Ha',ρ1,h',?_⟩;replace q:=b5.grow (r:=(s ρ1).bind λx=>match x with
   |.nx ρ2=>cB tg s (ds.drop (i+1)) ρ2
   |.ct ρ2=>cB tg s (ds.drop (i+1)) ρ2
   |.bk ρ2=>.ok (.nx ρ2)
   |.rt d=>.ok (.rt d)) q z'
  cases e2:s ρ1 with
  |stuck|exn x=>rw[e2] at q;exact q
  |ok r =>
   rw[e2] at q;cases r with|nx ρ2=>exact λσ3 H3 H03 z3 h3=>⟨H03,ρ2,(z.trans z').trans z3,h3,b5.grow (r:=cB tg s (ds.drop (i+1)) ρ2) q z3⟩|ct ρ2=>exact λσ3 H3 H03 z3 h3=>⟨H03,ρ2,(z.trans z').trans z3,h3,b5.grow (r:=cB tg s (ds.drop (i+1)) ρ2) q z3⟩|bk ρ2|rt d=>exact q
def gN.done{K:Ut}(h:gN K E He η Hb tg s ds D' ds.length σ H):D'.nx σ H:=by
 obtain⟨Ha,ρ,z,h,q⟩:=h;rw[WQ] at q;unfold cB at q;exact q σ H Ha (aG.refl _) h
def wI(tg:Ev->D->aj Ev):Prop:=∀ρ d,tg ρ d=.stuck∨∃ρ',tg ρ d=.ok ρ'
def cw:wI (b3 i):=λρ d=>.inr ⟨_,rfl⟩
noncomputable def qr(f:Ev->aj D) (tg:Ev->D->aj Ev) (s:Ev->aj Fl):Ev->aj Fl:=λρ=>(f ρ).bind λd=>match d with
 |.lst ds=>cB tg s ds ρ
 |_=>.stuck
def k9(hp:PassesOwn (UM X.prog X.w) X.A X.env X.xe)(hc:X.calm=true)(hi:DE X E iter f)(hg:DG X E He η tgt tg)(ht:wI tg)(hb:AQ X E He η body s)
  (hs:∀x,foldedSetIterable iter X.env x=pure x:=by intro _;rfl):DS X E He η (.For tgt iter body [] pos) (qr f tg s):=by
 refine⟨?_⟩;refine bN (xf hp hc (Cy hi.o) hg.o hb.o hs) λD' σ H z9=>?_;obtain⟨Ha,ρ,h,q⟩:=z9;refine⟨Ha,ρ,h.g.sub,h.rd,?_⟩
 refine plain h q λd v H1 H01 _ g rp q1=>?_;cases d with
 |lst ds =>
  obtain⟨a,vs,rfl,hv,hr⟩:=aI.mp rp;refine⟨a,rfl,⟨vs,aG.sqL g.sub hv⟩,?_⟩;refine HC (K:=X.K) (a:=a) (g:=tG X.K He η tg) (tb:=tS X.K E He η s) (D:=D') (xs:=vs) (gN X.K E He η H01 tg s ds D') ⟨H01,ρ,aG.refl _,h.grow g,q1⟩ ?_ ?_ ?_
  .rintro i σ' H' _ ⟨Ha',ρ',z,h',_⟩
   exact aG.sqL (z.trans h'.g.sub) hv
  .intro i x σ' H' hx hI
   have hil:i<ds.length:=by rw[hr.length];exact(UA.mp hx).1
   obtain⟨u,e1,e2⟩:=hr.get (UB hil);rw[hx] at e1;cases e1;exact hI.step (UB hil) e2 λρ=>ht ρ _
  .intro σ' H' hI
   rw[←hr.length] at hI;exact hI.done
 |_=>exact q1.elim
noncomputable def intsFrom(lo:Int) (n:Nat):List D:=(VG n).map λ(k:Nat)=>D.int (lo+(k:Int))
noncomputable def vO(f:Ev->aj D) (tg:Ev->D->aj Ev) (s:Ev->aj Fl):Ev->aj Fl:=λρ=>(f (fz ρ)).bind λd=>match d with
 |.int j=>if -4611686018427387904<=j/\j<4611686018427387904 then cB tg s (intsFrom 0 j.toNat) ρ else .stuck
 |_=>.stuck
def xW(hp:PassesOwn (UM X.prog X.w) X.A X.env X.xe)(hc:X.calm=true)(hgl:Gl X "range")(hm:X.mg "range"=none)(hi:DE X E iter f)(hg:DG X E He η tgt tg)(ht:wI tg)(hb:AQ X E He η body s)
  (hst:Uy [iter] X.env=[(false,eval iter X.env)]:=by exact ie rfl)(hs:∀x,foldedSetIterable (.Call (.Name "range" p) [iter] [] pos2) X.env x=pure x:=by intro _;rfl):DS X E He η (.For tgt (.Call (.Name "range" p) [iter] [] pos2) body [] pos) (vO f tg s):=by
 refine⟨?_⟩;refine bN (xf hp hc (oZ hgl hm (c9 hi.o fV hst) hst) hg.o hb.o hs) λD' σ H ⟨Ha,ρ,h,q⟩=>?_;refine⟨frz He Ha H,fz ρ,h.frz_le,h.looks,look h q λd v H1 J _ g rp q1=>?_⟩;cases d with
 |int j =>
  rw[aC.mp rp];replace q1:b5 X.K E He η Ha (if -4611686018427387904<=j/\j<4611686018427387904 then cB tg s (intsFrom 0 j.toNat) ρ else .stuck) D':=q1
  by_cases hj:-4611686018427387904<=j/\j<4611686018427387904
  .rw[if_pos hj] at q1
   refine⟨j,rfl,by omega,by omega,?_⟩;have hlen:(intsFrom 0 j.toNat).length=j.toNat:=by unfold intsFrom;simp
   refine E1 (lo:=0) (n:=j.toNat) (g:=tG X.K He η tg) (tb:=tS X.K E He η s) (D:=D') (gN X.K E He η Ha tg s (intsFrom 0 j.toNat) D') ⟨Ha,ρ,aG.refl _,h.same g.s,q1⟩ ?_ ?_
   .intro i σ' H' hlt hI
    refine hI.step (d:=.int (0+i)) ?_ (aC.mpr rfl) λρ=>ht ρ _;unfold intsFrom;simp [hlt]
   .intro σ' H' hI
    exact gN.done (ds:=intsFrom 0 j.toNat) (by rw[hlen];exact hI)
  .rw[if_neg hj] at q1;exact q1.elim
 |_=>exact q1.elim
noncomputable def dk(c:Ev->aj D) (s:Ev->aj Fl):Nat->Ev->aj Fl
 |0,_=>.stuck
 |n+1,ρ=>(c (fz ρ)).bind λx=>match x with
  |.bl b=>if b=true then(s ρ).bind λx=>match x with
    |.nx ρ2=>dk c s n ρ2
    |.ct ρ2=>dk c s n ρ2
    |.bk ρ2=>.ok (.nx ρ2)
    |.rt d=>.ok (.rt d)
   else .ok (.nx ρ)
  |_=>.stuck
noncomputable def kG(fuel:Ev->Nat) (c:Ev->aj D) (s:Ev->aj Fl):Ev->aj Fl:=λρ=>dk c s (fuel ρ) ρ
def uM(fuel:Ev->Nat)(hp:PassesOwn (UM X.prog X.w) X.A X.env X.xe)(hc:DT X E c fc)(hb:AQ X E He η body s):DS X E He η (.While c body [] pos) (kG fuel fc s):=by
 refine⟨?_⟩;refine bN (zf hp hc.o hb.o) λD' σ H ⟨Ha,ρ,h,q⟩=>?_;refine⟨λm σ H=>∃Ha ρ,dD X.K He η Ha σ H ρ/\b5 X.K E He η Ha (dk fc s m ρ) D',⟨fuel ρ,Ha,ρ,h,q⟩,?_⟩;rintro m σ1 H1 ⟨H01,ρ1,h1,q1⟩;cases m with
 |zero=>exact q1.elim
 |succ m =>
  refine⟨frz He H01 H1,fz ρ1,h1.frz_le,h1.looks,?_⟩;unfold dk at q1;refine LR (k:=λb=>if b=true then(s ρ1).bind λx=>match x with
    |.nx ρ2=>dk fc s m ρ2
    |.ct ρ2=>dk fc s m ρ2
    |.bk ρ2=>.ok (.nx ρ2)
    |.rt d=>.ok (.rt d)
   else .ok (.nx ρ1)) h1 q1 λb H2 hs q2=>?_
  cases b with
  |false =>
   rw[if_neg VC] at q2 ⊢;exact q2 σ1 H2 H01 (aG.refl _) (h1.same hs)
  |true =>
   rw[if_pos rfl] at q2 ⊢;refine⟨λσ' H'=>∃m',m' < m+1/\∃Ha ρ,dD X.K He η Ha σ' H' ρ/\b5 X.K E He η Ha (dk fc s m' ρ) D',λσ' H' z=>z,H01,ρ1,h1.same hs,?_⟩;cases e2:s ρ1 with
   |stuck|exn x=>rw[e2] at q2;exact q2
   |ok r =>
    rw[e2] at q2;cases r with|nx ρ2=>exact λσ3 H3 H03 z3 h3=>⟨m,Wi _,H03,ρ2,h3,b5.grow (r:=dk fc s m ρ2) q2 z3⟩|ct ρ2=>exact λσ3 H3 H03 z3 h3=>⟨m,Wi _,H03,ρ2,h3,b5.grow (r:=dk fc s m ρ2) q2 z3⟩|bk ρ2|rt d=>exact q2
end
noncomputable def cj(n:Nat) (s:Ev->aj Fl) (ds:List D):aj D:=(s (ds.map Sl.sh++UK (n-ds.length) .no)).bind λr=>match r with
 |.nx _=>.ok .non
 |.rt d=>.ok d
 |_=>.stuck
def kD{K:Ut}(h:Reps K Ha ds vs):Reads K Ha (start N vs) (ds.map Sl.sh++UK (N.length-ds.length) .no):=by
 intro i d e;have hl:=h.length
 by_cases hi:i<ds.length
 .rw[UQ (by simpa using hi),UL] at e
  cases q:ds[i]? with
  |none=>rw[q] at e;cases e
  |some d' =>
   rw[q] at e;cases e;obtain⟨v,h1,h2⟩:=h.get q;refine⟨v,?_,h2⟩;unfold L2.start;rw[UQ (by simp;omega),UL,h1];rfl
 .rw[UZ (by simpa using hi),U7] at e
  split at e<;>cases e
def oV{ds:List D}(i j:Nat)(es:List D):(ds.map Sl.sh++UK n Sl.no)[i]?≠some (.ox j es):=λe=>by
 have:=UN e;rw[Vl] at this;rcases this with h|h
 .obtain⟨_,_,h⟩:=Vg.mp h;cases h
 .have:=YR h;cases this
def mi{ds:List D}{σ:L2.St}(i:Nat)(a:Uw)(e:(ds.map Sl.sh++UK n Sl.no)[i]?=some (.pt a)):σ[i]?=some (some (.ref a)):=by
 have:=UN e;rw[Vl] at this;rcases this with h|h
 .obtain⟨_,_,h⟩:=Vg.mp h;cases h
 .have:=YR h;cases this
def E2{K:Ut}{st:V0}{N ps:List US}{k:Nat}(F:Fy K x qual st f fd)(S:eY N ps (defScope st))
  (hbody:∀(cdv:Us) (A:Vw) (outer:List VP) (s0:UE) (H Ha:Hp) (E:XK),cW k (A.deeper (envOfC qual (defScope st) s0.heap.objs.size f cdv)) ->
   AQ (dW CX0 P w K mg base N qual (defScope st) f cdv A outer s0 H E).nox E H Ha (defBody st) s):fZ P w K mg base CX0 (k+1) f fd ps (spD K ps.length (cj N.length s)):=by
 have hpl:ps.length<=N.length:=by have:=congrArg Xq S.pre;rw[Vn] at this;omega
 refine F.ok S (λvs H Q E h=>h.1) λcdv A outer s0 H vs Q E hr h=>?_;obtain⟨hn,Ha,ds,hs,hv,q⟩:=h;refine⟨_,(hbody cdv A outer s0 H Ha E hr).o,Ha,ds.map Sl.sh++UK (N.length-ds.length) .no,?_,?_⟩
 .refine⟨bB.refl hs,kD hv,λi d e=>?_,λi j d d' hij e=>?_,?_,OX.none oV mi⟩
  .by_cases hi:i<ds.length
   .rw[UQ (by simpa using hi),UL] at e
    cases q:ds[i]? with|none|some d'=>rw[q] at e;cases e
   .rw[UZ (by simpa using hi),U7] at e
    split at e<;>cases e
  .by_cases hi:i<ds.length
   .rw[UQ (by simpa using hi),UL] at e
    cases q:ds[i]? with|none|some d'=>rw[q] at e;cases e
   .rw[UZ (by simpa using hi),U7] at e
    split at e<;>cases e
  .unfold L2.start
   have:=hv.length;simp only[Vt,Uv,Vu];omega
 .unfold cj at q
  cases e1:s (ds.map Sl.sh++UK (N.length-ds.length) .no) with
  |stuck|exn x=>rw[e1] at q;exact q
  |ok r =>
   rw[e1] at q;cases r with|nx ρ'=>exact λσ' H' Ha' _ h'=>q .non H' Ha' h'.g (aY.mpr rfl)|rt d=>exact λv H' Ha' g rp=>q v H' Ha' g rp|bk ρ'|ct ρ'=>exact q.elim
mutual
def dJ:D->D->Bool
 |.non,.non=>true
 |.bl a,.bl b=>a==b
 |.bl a,.int b=>(if a then 1 else 0)==b
 |.int a,.bl b=>a==(if b then 1 else 0)
 |.int a,.int b=>a==b
 |.str a,.str b=>a==b
 |.tup xs,.tup ys=>eqDs xs ys
 |.lst xs,.lst ys=>eqDs xs ys
 |_,_=>false
def eqDs:List D->List D->Bool
 |[],[]=>true
 |x::xs,y::ys=>dJ x y&&eqDs xs ys
 |_,_=>false
end
noncomputable def br:Nat->D->Bool
 |_,.non=>true
 |_,.bl _=>true
 |_,.int _=>true
 |_,.str _=>true
 |n+1,.tup ds=>ds.all (br n)
 |n+1,.lst ds=>ds.all (br n)
 |_,_=>false
def wb(h:∀d∈ds,dJ d d=true):eqDs ds ds=true:=by
 induction ds with
 |nil=>simp [eqDs]
 |cons d r ih =>
  unfold eqDs;rw[h d U0,ih λx hx=>h x (UH _ hx)];rfl
theorem k8:∀(n:Nat) (d:D),br n d=true->dJ d d=true
 |_,.non,_=>by simp [dJ]
 |_,.bl b,_=>by simp [dJ]
 |_,.int b,_=>by simp [dJ]
 |_,.str b,_=>by simp [dJ]
 |n+1,.tup ds,h=>by
  unfold br at h;unfold dJ;exact wb λd hd=>k8 n d (Vc.mp h d hd)
 |n+1,.lst ds,h=>by
  unfold br at h;unfold dJ;exact wb λd hd=>k8 n d (Vc.mp h d hd)
 |0,.tup ds,h=>by unfold br at h;cases h
 |0,.lst ds,h=>by unfold br at h;cases h
 |0,.dic ks ds,h=>by unfold br at h;cases h
 |n+1,.dic ks ds,h=>by unfold br at h;cases h
 |0,.exc x,h=>by unfold br at h;cases h
 |0,.ob k x,h=>by unfold br at h;cases h
 |n+1,.ob k x,h=>by unfold br at h;cases h
 |n+1,.exc x,h=>by unfold br at h;cases h
def KW:dJ (.tup xs) (.tup ys)=eqDs xs ys:=by rw[dJ]
def xN:dJ (.lst xs) (.lst ys)=eqDs xs ys:=by rw[dJ]
theorem mJ:∀(xs ys:List D),xs.length=ys.length->eqDs xs ys=(VG xs.length).all λj=>dJ (xs.getD j .non) (ys.getD j .non)
 |[],[],_=>by simp [eqDs]
 |x::xs,y::ys,h=>by
  have ih:=mJ xs ys (by simpa using h);unfold eqDs;rw[ih,U6,XO,Xg,Y3];rfl
 |[],_::_,h=>by simp at h
 |_::_,[],h=>by simp at h
theorem uJ:∀(xs ys:List D),xs.length≠ys.length->eqDs xs ys=false
 |[],[],h=>absurd rfl h
 |x::xs,y::ys,h=>by
  unfold eqDs;rw[uJ xs ys (by simpa using h),X2]
 |[],_::_,h=>by simp [eqDs]
 |_::_,[],h=>by simp [eqDs]
section
variable {X:Cx}{π:List (Uw×Obj)}{σ:L2.St}{H:Hp}{s:UE}
def bA(I:Inv X π σ H s)(r:Rep X.K H (.tup ds) v)(rv:bF v u):∃a vs its,v=.ref a/\u=.ref a/\kn X.K H a vs/\Reps X.K H ds vs/\bE vs its/\IsTup s.heap a its.toArray/\ds.length=its.length:=by
 obtain⟨a,vs,rfl,h1,h2⟩:=aN.mp r;obtain rfl:u=U8 a:=rv;obtain⟨its,h3,h4,_⟩:=I.tuple h1;exact⟨a,vs,its,rfl,rfl,h1,h2,h3,h4,h2.length.trans h3.length⟩
def bu(I:Inv X π σ H s)(r:Rep X.K H (.lst ds) v)(rv:bF v u):∃a vs its,v=.ref a/\u=.ref a/\eX X.K H a vs/\Reps X.K H ds vs/\bE vs its/\s.heap.IsList a its.toArray/\ds.length=its.length:=by
 obtain⟨a,vs,rfl,h1,h2⟩:=aI.mp r;obtain rfl:u=U8 a:=rv;obtain⟨its,h3,h4,_⟩:=I.list h1;exact⟨a,vs,its,rfl,rfl,h1,h2,h3,h4.isList,h2.length.trans h3.length⟩
theorem rZ{n:Nat}(ih:∀(d d':D) (v:V),br n d=true->br n d'=true->Rep X.K H d v->Rep X.K H d' v->d=d'):∀(ds ds':List D) (vs:List V),ds.all (br n)=true->ds'.all (br n)=true->Reps X.K H ds vs->Reps X.K H ds' vs->ds=ds'
 |[],ds',vs,_,_,h,h'=>by
  rw[Reps.nil_iff.mp h] at h';cases ds' with|nil=>rfl|cons d r=>obtain⟨_,_,e,_⟩:=aJ.mp h';cases e
 |d::ds,ds',vs,a,a',h,h'=>by
  obtain⟨v,r,rfl,h1,h2⟩:=aJ.mp h;cases ds' with
  |nil=>cases Reps.nil_iff.mp h'
  |cons d' ds' =>
   obtain⟨v',r',e,h1',h2'⟩:=aJ.mp h';cases e;rw[Xg,U4] at a a';rw[ih d d' v a.1 a'.1 h1 h1',rZ ih ds ds' r a.2 a'.2 h2 h2']
def Rep.inj(I:Inv X π σ H s):∀(n:Nat) (d d':D) (v:V),br n d=true->br n d'=true->Rep X.K H d v->Rep X.K H d' v->d=d':=by
 have atom:∀(n:Nat) (d d':D) (v:V),(∀ds,d≠.tup ds)->(∀ds,d≠.lst ds)->br n d=true->br n d'=true->Rep X.K H d v->Rep X.K H d' v->d=d':=by
  intro n d d' v n1 n2 s1 s2 h h';have nd:∀m ks ds,br m (.dic ks ds)=true->False:=λm ks ds h=>by cases m<;>(unfold br at h;cases h)
  have nx:∀m x,br m (.exc x)=true->False:=λm x h=>by cases m<;>(unfold br at h;cases h)
  have nb:∀m k x,br m (.ob k x)=true->False:=λm k x h=>by cases m<;>(unfold br at h;cases h)
  cases d with
  |tup ds=>exact absurd rfl (n1 ds)|lst ds=>exact absurd rfl (n2 ds)|dic ks ds=>exact(nd _ _ _ s1).elim|exc x=>exact(nx _ _ s1).elim|ob k x=>exact(nb _ _ _ s1).elim
  |non =>
   rw[aY.mp h] at h';cases d' with|non=>rfl|bl b=>cases aK.mp h'|int b=>cases aC.mp h'|str b=>cases Rep.str_iff.mp h'|tup ds=>obtain⟨_,_,e,_⟩:=aN.mp h';cases e|lst ds=>obtain⟨_,_,e,_⟩:=aI.mp h';cases e|dic ks ds=>exact(nd _ _ _ s2).elim|exc x=>exact(nx _ _ s2).elim|ob k x=>exact(nb _ _ _ s2).elim
  |bl x =>
   rw[aK.mp h] at h';cases d' with|non=>cases aY.mp h'|bl b=>cases aK.mp h';rfl|int b=>cases aC.mp h'|str b=>cases Rep.str_iff.mp h'|tup ds=>obtain⟨_,_,e,_⟩:=aN.mp h';cases e|lst ds=>obtain⟨_,_,e,_⟩:=aI.mp h';cases e|dic ks ds=>exact(nd _ _ _ s2).elim|exc x=>exact(nx _ _ s2).elim|ob k x=>exact(nb _ _ _ s2).elim
  |int x =>
   rw[aC.mp h] at h';cases d' with|non=>cases aY.mp h'|bl b=>cases aK.mp h'|int b=>cases aC.mp h';rfl|str b=>cases Rep.str_iff.mp h'|tup ds=>obtain⟨_,_,e,_⟩:=aN.mp h';cases e|lst ds=>obtain⟨_,_,e,_⟩:=aI.mp h';cases e|dic ks ds=>exact(nd _ _ _ s2).elim|exc x=>exact(nx _ _ s2).elim|ob k x=>exact(nb _ _ _ s2).elim
  |str x =>
   rw[Rep.str_iff.mp h] at h';cases d' with|non=>cases aY.mp h'|bl b=>cases aK.mp h'|int b=>cases aC.mp h'|str b=>cases Rep.str_iff.mp h';rfl|tup ds=>obtain⟨_,_,e,_⟩:=aN.mp h';cases e|lst ds=>obtain⟨_,_,e,_⟩:=aI.mp h';cases e|dic ks ds=>exact(nd _ _ _ s2).elim|exc x=>exact(nx _ _ s2).elim|ob k x=>exact(nb _ _ _ s2).elim
 intro n
 induction n with
 |zero =>
  intro d d' v s1 s2 h h';exact atom 0 d d' v (λds e=>by subst e;unfold br at s1;cases s1) (λds e=>by subst e;unfold br at s1;cases s1) s1 s2 h h'
 |succ n ih =>
  intro d d' v s1 s2 h h'
  by_cases t1:∃ds,d=.tup ds
  .obtain⟨ds,rfl⟩:=t1
   by_cases t2:∃ds',d'=.tup ds'
   .obtain⟨ds',rfl⟩:=t2
    obtain⟨a,vs,rfl,h1,h2⟩:=aN.mp h;obtain⟨a',vs',e,h1',h2'⟩:=aN.mp h';cases e;rw[I.tuple_inj h1' h1] at h2';unfold br at s1 s2;rw[rZ ih ds ds' vs s1 s2 h2 h2']
   .by_cases t3:∃ds',d'=.lst ds'
    .obtain⟨ds',rfl⟩:=t3
     obtain⟨a0,_,ev,_,_⟩:=aN.mp h;subst ev;obtain⟨a,vs,its,ea,_,h1,h2,h3,h4,_⟩:=bA I h rfl;cases ea;obtain⟨a',vs',its',e,_,h1',h2',h3',h4',_⟩:=bu I h' rfl;cases e;exact absurd rfl (YX h4' h4)
    .exact(atom (n+1) d' _ v (λds e=>t2 ⟨ds,e⟩) (λds e=>t3 ⟨ds,e⟩) s2 s1 h' h).symm
  .by_cases t1':∃ds,d=.lst ds
   .obtain⟨ds,rfl⟩:=t1'
    by_cases t2:∃ds',d'=.lst ds'
    .obtain⟨ds',rfl⟩:=t2
     obtain⟨a,vs,rfl,h1,h2⟩:=aI.mp h;obtain⟨a',vs',e,h1',h2'⟩:=aI.mp h';cases e;rw[I.list_inj h1' h1] at h2';unfold br at s1 s2;rw[rZ ih ds ds' vs s1 s2 h2 h2']
    .by_cases t3:∃ds',d'=.tup ds'
     .obtain⟨ds',rfl⟩:=t3
      obtain⟨a0,_,ev,_,_⟩:=aI.mp h;subst ev;obtain⟨a,vs,its,ea,_,h1,h2,h3,h4,_⟩:=bu I h rfl;cases ea;obtain⟨a',vs',its',e,_,h1',h2',h3',h4',_⟩:=bA I h' rfl;cases e;exact absurd rfl (YX h4 h4')
     .exact(atom (n+1) d' _ v (λds e=>t3 ⟨ds,e⟩) (λds e=>t2 ⟨ds,e⟩) s2 s1 h' h).symm
   .exact atom (n+1) d d' v (λds e=>t1 ⟨ds,e⟩) (λds e=>t1' ⟨ds,e⟩) s1 s2 h h'
def zN{A:Vw} 
  (ih:∀(x y:D) (v u:V) (a b:Us),br n x=true->br n y=true->Rep X.K H x v->Rep X.K H y u->bF v a->bF u b->U5 A.in1 s a b (dJ x y))
  (sx:xs.all (br n)=true)(sy:ys.all (br n)=true)(rx:Reps X.K H xs vs)(ry:Reps X.K H ys us)(qx:bE vs is)(qy:bE us js) :
  ∀j (h1:j<is.toArray.size) (h2:j<js.toArray.size),U5 A.in1 s is.toArray[j] js.toArray[j] (dJ (xs.getD j .non) (ys.getD j .non)):=by
 intro j h1 h2;have lx:=rx.length;have ly:=ry.length;have kx:=qx.length;have ky:=qy.length;have h1':j<is.length:=by simpa using h1
 have h2':j<js.length:=by simpa using h2
 have hx:j<xs.length:=by omega
 have hy:j<ys.length:=by omega
 obtain⟨v,e1,r1⟩:=rx.get (UB hx);obtain⟨u,e2,r2⟩:=ry.get (UB hy);obtain⟨a,e3,r3⟩:=qx.get e1;obtain⟨b,e4,r4⟩:=qy.get e2;have ea:is.toArray[j]=a:=by
  rw[UB h1'] at e3;simpa using U9 e3
 have eb:js.toArray[j]=b:=by
  rw[UB h2'] at e4;simpa using U9 e4
 rw[ea,eb];have gx:xs.getD j .non=xs[j]:=by simp [List.getD,UB hx]
 have gy:ys.getD j .non=ys[j]:=by simp [List.getD,UB hy]
 rw[gx,gy];exact ih _ _ v u a b (Vc.mp sx _ (XF hx)) (Vc.mp sy _ (XF hy)) r1 r2 r3 r4
def yX(I:Inv X π σ H s)(hu:A.units<Wm)(rx:Rep X.K H x v)(ry:Rep X.K H y u)(qx:bF v a)(qy:bF u b)
  (n1:∀ds ds',¬(x=.lst ds/\y=.lst ds'))(n2:∀ds ds',¬(x=.tup ds/\y=.tup ds'))(d1:∀ks ds,x≠.dic ks ds)(d2:∀ks ds,y≠.dic ks ds)(x1:∀c,x≠.exc c)(x2:∀c,y≠.exc c)(o1:∀k c,x≠.ob k c)(o2:∀k c,y≠.ob k c) :
  Vb A s a b (dJ x y)/\U5 A s a b (dJ x y)/\U1 A s a b (!(dJ x y)):=by
 cases x with
 |non =>
  cases y with
  |non =>
   obtain rfl:=aY.mp rx;obtain rfl:a=VS:=qx;obtain rfl:=aY.mp ry;obtain rfl:b=VS:=qy;unfold dJ;exact⟨Vb.none_none ,Yx _,U1.none_none ⟩
  |bl y =>
   obtain rfl:=aY.mp rx;obtain rfl:a=VS:=qx;obtain rfl:=aK.mp ry;obtain rfl:b=VT _:=qy;unfold dJ;exact⟨Vb.none_bool _,U5.none_bool _,U1.none_bool _⟩
  |int y =>
   obtain rfl:=aY.mp rx;obtain rfl:a=VS:=qx;obtain rfl:=aC.mp ry;obtain⟨ty,rfl⟩:∃t,b=Wa _ t:=qy;unfold dJ;exact⟨Vb.none_int _ _,U5.none_int _ _,U1.none_int _ _⟩
  |str y =>
   obtain rfl:=aY.mp rx;obtain rfl:a=VS:=qx;obtain rfl:=Rep.str_iff.mp ry;obtain⟨ty,rfl⟩:∃t,b=V9 _ t:=qy;unfold dJ;exact⟨Vb.none_str _ _,U5.none_str _ _,U1.none_str _ _⟩
  |lst y =>
   obtain rfl:=aY.mp rx;obtain rfl:a=VS:=qx;obtain⟨ly,_,_,rfl,rfl,_,_,_,hy,_⟩:=bu I ry qy;unfold dJ;exact⟨Vb.none_list  hy hu,U5.none_list  hy hu,U1.none_list  hy hu⟩
  |tup y =>
   obtain rfl:=aY.mp rx;obtain rfl:a=VS:=qx;obtain⟨ly,_,_,rfl,rfl,_,_,_,hy,_⟩:=bA I ry qy;unfold dJ;exact⟨Vb.none_tuple  hy hu,U5.none_tuple  hy hu,U1.none_tuple  hy hu⟩
  |dic ks ds=>exact absurd rfl (d2 ks ds)|exc c=>exact absurd rfl (x2 c)|ob k c=>exact absurd rfl (o2 k c)
 |bl x =>
  cases y with
  |non =>
   obtain rfl:=aK.mp rx;obtain rfl:a=VT _:=qx;obtain rfl:=aY.mp ry;obtain rfl:b=VS:=qy;unfold dJ;exact⟨Vb.bool_none _,U5.bool_none _,U1.bool_none _⟩
  |bl y =>
   obtain rfl:=aK.mp rx;obtain rfl:a=VT _:=qx;obtain rfl:=aK.mp ry;obtain rfl:b=VT _:=qy;unfold dJ;exact⟨Vb.bool_bool _ _,U5.bool_bool _ _,U1.bool_bool _ _⟩
  |int y =>
   obtain rfl:=aK.mp rx;obtain rfl:a=VT _:=qx;obtain rfl:=aC.mp ry;obtain⟨ty,rfl⟩:∃t,b=Wa _ t:=qy;unfold dJ;exact⟨Vb.bool_int _ _ _,U5.bool_int _ _ _,U1.bool_int _ _ _⟩
  |str y =>
   obtain rfl:=aK.mp rx;obtain rfl:a=VT _:=qx;obtain rfl:=Rep.str_iff.mp ry;obtain⟨ty,rfl⟩:∃t,b=V9 _ t:=qy;unfold dJ;exact⟨Vb.bool_str _ _ _,U5.bool_str _ _ _,U1.bool_str _ _ _⟩
  |lst y =>
   obtain rfl:=aK.mp rx;obtain rfl:a=VT _:=qx;obtain⟨ly,_,_,rfl,rfl,_,_,_,hy,_⟩:=bu I ry qy;unfold dJ;exact⟨Vb.bool_list _ hy hu,U5.bool_list _ hy hu,U1.bool_list _ hy hu⟩
  |tup y =>
   obtain rfl:=aK.mp rx;obtain rfl:a=VT _:=qx;obtain⟨ly,_,_,rfl,rfl,_,_,_,hy,_⟩:=bA I ry qy;unfold dJ;exact⟨Vb.bool_tuple _ hy hu,U5.bool_tuple _ hy hu,U1.bool_tuple _ hy hu⟩
  |dic ks ds=>exact absurd rfl (d2 ks ds)|exc c=>exact absurd rfl (x2 c)|ob k c=>exact absurd rfl (o2 k c)
 |int x =>
  cases y with
  |non =>
   obtain rfl:=aC.mp rx;obtain⟨tx,rfl⟩:∃t,a=Wa _ t:=qx;obtain rfl:=aY.mp ry;obtain rfl:b=VS:=qy;unfold dJ;exact⟨Vb.int_none _ _,U5.int_none _ _,U1.int_none _ _⟩
  |bl y =>
   obtain rfl:=aC.mp rx;obtain⟨tx,rfl⟩:∃t,a=Wa _ t:=qx;obtain rfl:=aK.mp ry;obtain rfl:b=VT _:=qy;unfold dJ;exact⟨Vb.int_bool _ _ _,U5.int_bool _ _ _,U1.int_bool _ _ _⟩
  |int y =>
   obtain rfl:=aC.mp rx;obtain⟨tx,rfl⟩:∃t,a=Wa _ t:=qx;obtain rfl:=aC.mp ry;obtain⟨ty,rfl⟩:∃t,b=Wa _ t:=qy;unfold dJ;exact⟨Vb.int_int _ _ _ _,U5.int_int _ _ _ _,U1.int_int _ _ _ _⟩
  |str y =>
   obtain rfl:=aC.mp rx;obtain⟨tx,rfl⟩:∃t,a=Wa _ t:=qx;obtain rfl:=Rep.str_iff.mp ry;obtain⟨ty,rfl⟩:∃t,b=V9 _ t:=qy;unfold dJ;exact⟨Vb.int_str _ _ _ _,U5.int_str _ _ _ _,U1.int_str _ _ _ _⟩
  |lst y =>
   obtain rfl:=aC.mp rx;obtain⟨tx,rfl⟩:∃t,a=Wa _ t:=qx;obtain⟨ly,_,_,rfl,rfl,_,_,_,hy,_⟩:=bu I ry qy;unfold dJ;exact⟨Vb.int_list _ _ hy hu,U5.int_list _ _ hy hu,U1.int_list _ _ hy hu⟩
  |tup y =>
   obtain rfl:=aC.mp rx;obtain⟨tx,rfl⟩:∃t,a=Wa _ t:=qx;obtain⟨ly,_,_,rfl,rfl,_,_,_,hy,_⟩:=bA I ry qy;unfold dJ;exact⟨Vb.int_tuple _ _ hy hu,U5.int_tuple _ _ hy hu,U1.int_tuple _ _ hy hu⟩
  |dic ks ds=>exact absurd rfl (d2 ks ds)|exc c=>exact absurd rfl (x2 c)|ob k c=>exact absurd rfl (o2 k c)
 |str x =>
  cases y with
  |non =>
   obtain rfl:=Rep.str_iff.mp rx;obtain⟨tx,rfl⟩:∃t,a=V9 _ t:=qx;obtain rfl:=aY.mp ry;obtain rfl:b=VS:=qy;unfold dJ;exact⟨Vb.str_none _ _,U5.str_none _ _,U1.str_none _ _⟩
  |bl y =>
   obtain rfl:=Rep.str_iff.mp rx;obtain⟨tx,rfl⟩:∃t,a=V9 _ t:=qx;obtain rfl:=aK.mp ry;obtain rfl:b=VT _:=qy;unfold dJ;exact⟨Vb.str_bool _ _ _,U5.str_bool _ _ _,U1.str_bool _ _ _⟩
  |int y =>
   obtain rfl:=Rep.str_iff.mp rx;obtain⟨tx,rfl⟩:∃t,a=V9 _ t:=qx;obtain rfl:=aC.mp ry;obtain⟨ty,rfl⟩:∃t,b=Wa _ t:=qy;unfold dJ;exact⟨Vb.str_int _ _ _ _,U5.str_int _ _ _ _,U1.str_int _ _ _ _⟩
  |str y =>
   obtain rfl:=Rep.str_iff.mp rx;obtain⟨tx,rfl⟩:∃t,a=V9 _ t:=qx;obtain rfl:=Rep.str_iff.mp ry;obtain⟨ty,rfl⟩:∃t,b=V9 _ t:=qy;unfold dJ;exact⟨Vb.str_str _ _ _ _,U5.str_str _ _ _ _,U1.str_str _ _ _ _⟩
  |lst y =>
   obtain rfl:=Rep.str_iff.mp rx;obtain⟨tx,rfl⟩:∃t,a=V9 _ t:=qx;obtain⟨ly,_,_,rfl,rfl,_,_,_,hy,_⟩:=bu I ry qy;unfold dJ;exact⟨Vb.str_list _ _ hy hu,U5.str_list _ _ hy hu,U1.str_list _ _ hy hu⟩
  |tup y =>
   obtain rfl:=Rep.str_iff.mp rx;obtain⟨tx,rfl⟩:∃t,a=V9 _ t:=qx;obtain⟨ly,_,_,rfl,rfl,_,_,_,hy,_⟩:=bA I ry qy;unfold dJ;exact⟨Vb.str_tuple _ _ hy hu,U5.str_tuple _ _ hy hu,U1.str_tuple _ _ hy hu⟩
  |dic ks ds=>exact absurd rfl (d2 ks ds)|exc c=>exact absurd rfl (x2 c)|ob k c=>exact absurd rfl (o2 k c)
 |lst x =>
  cases y with
  |non =>
   obtain⟨lx,_,_,rfl,rfl,_,_,_,hx,_⟩:=bu I rx qx;obtain rfl:=aY.mp ry;obtain rfl:b=VS:=qy;unfold dJ;exact⟨Vb.list_none  hx hu,U5.list_none  hx hu,U1.list_none  hx hu⟩
  |bl y =>
   obtain⟨lx,_,_,rfl,rfl,_,_,_,hx,_⟩:=bu I rx qx;obtain rfl:=aK.mp ry;obtain rfl:b=VT _:=qy;unfold dJ;exact⟨Vb.list_bool _ hx hu,U5.list_bool _ hx hu,U1.list_bool _ hx hu⟩
  |int y =>
   obtain⟨lx,_,_,rfl,rfl,_,_,_,hx,_⟩:=bu I rx qx;obtain rfl:=aC.mp ry;obtain⟨ty,rfl⟩:∃t,b=Wa _ t:=qy;unfold dJ;exact⟨Vb.list_int _ _ hx hu,U5.list_int _ _ hx hu,U1.list_int _ _ hx hu⟩
  |str y =>
   obtain⟨lx,_,_,rfl,rfl,_,_,_,hx,_⟩:=bu I rx qx;obtain rfl:=Rep.str_iff.mp ry;obtain⟨ty,rfl⟩:∃t,b=V9 _ t:=qy;unfold dJ;exact⟨Vb.list_str _ _ hx hu,U5.list_str _ _ hx hu,U1.list_str _ _ hx hu⟩
  |lst y =>
   exact absurd ⟨rfl,rfl⟩ (n1 x y)
  |tup y =>
   obtain⟨lx,_,_,rfl,rfl,_,_,_,hx,_⟩:=bu I rx qx;obtain⟨ly,_,_,rfl,rfl,_,_,_,hy,_⟩:=bA I ry qy;unfold dJ;exact⟨Vb.list_tuple  hx hy hu,U5.list_tuple  hx hy hu,U1.list_tuple  hx hy hu⟩
  |dic ks ds=>exact absurd rfl (d2 ks ds)|exc c=>exact absurd rfl (x2 c)|ob k c=>exact absurd rfl (o2 k c)
 |tup x =>
  cases y with
  |non =>
   obtain⟨lx,_,_,rfl,rfl,_,_,_,hx,_⟩:=bA I rx qx;obtain rfl:=aY.mp ry;obtain rfl:b=VS:=qy;unfold dJ;exact⟨Vb.tuple_none  hx hu,U5.tuple_none  hx hu,U1.tuple_none  hx hu⟩
  |bl y =>
   obtain⟨lx,_,_,rfl,rfl,_,_,_,hx,_⟩:=bA I rx qx;obtain rfl:=aK.mp ry;obtain rfl:b=VT _:=qy;unfold dJ;exact⟨Vb.tuple_bool _ hx hu,U5.tuple_bool _ hx hu,U1.tuple_bool _ hx hu⟩
  |int y =>
   obtain⟨lx,_,_,rfl,rfl,_,_,_,hx,_⟩:=bA I rx qx;obtain rfl:=aC.mp ry;obtain⟨ty,rfl⟩:∃t,b=Wa _ t:=qy;unfold dJ;exact⟨Vb.tuple_int _ _ hx hu,U5.tuple_int _ _ hx hu,U1.tuple_int _ _ hx hu⟩
  |str y =>
   obtain⟨lx,_,_,rfl,rfl,_,_,_,hx,_⟩:=bA I rx qx;obtain rfl:=Rep.str_iff.mp ry;obtain⟨ty,rfl⟩:∃t,b=V9 _ t:=qy;unfold dJ;exact⟨Vb.tuple_str _ _ hx hu,U5.tuple_str _ _ hx hu,U1.tuple_str _ _ hx hu⟩
  |lst y =>
   obtain⟨lx,_,_,rfl,rfl,_,_,_,hx,_⟩:=bA I rx qx;obtain⟨ly,_,_,rfl,rfl,_,_,_,hy,_⟩:=bu I ry qy;unfold dJ;exact⟨Vb.tuple_list  hx hy hu,U5.tuple_list  hx hy hu,U1.tuple_list  hx hy hu⟩
  |tup y =>
   exact absurd ⟨rfl,rfl⟩ (n2 x y)
  |dic ks ds=>exact absurd rfl (d2 ks ds)|exc c=>exact absurd rfl (x2 c)|ob k c=>exact absurd rfl (o2 k c)
 |dic ks ds=>exact absurd rfl (d1 ks ds)
 |exc c=>exact absurd rfl (x1 c)
 |ob k c=>exact absurd rfl (o1 k c)
def MR(I:Inv X π σ H s):∀(n:Nat) (A:Vw),A.units+n<Wm->∀(x y:D) (v u:V) (a b:Us),br n x=true->br n y=true->Rep X.K H x v->Rep X.K H y u->bF v a->bF u b ->
  Vb A s a b (dJ x y)/\U5 A s a b (dJ x y)/\U1 A s a b (!(dJ x y)):=by
 have nd:∀m ks ds,br m (.dic ks ds)=true->False:=λm ks ds h=>by cases m<;>(unfold br at h;cases h)
 have nx:∀m x,br m (.exc x)=true->False:=λm x h=>by cases m<;>(unfold br at h;cases h)
 have nb:∀m k x,br m (.ob k x)=true->False:=λm k x h=>by cases m<;>(unfold br at h;cases h)
 intro n
 induction n with
 |zero =>
  intro A hu x y v u a b sx sy rx ry qa qb;refine yX I (by omega) rx ry qa qb (λds ds' z=>?_) (λds ds' z=>?_) (λks ds z=>?_) (λks ds z=>?_) (λc z=>nx _ _ (z▸sx)) (λc z=>nx _ _ (z▸sy)) (λk c z=>nb _ _ _ (z▸sx)) (λk c z=>nb _ _ _ (z▸sy))
  .rw[z.1] at sx;unfold br at sx;cases sx
  .rw[z.1] at sx;unfold br at sx;cases sx
  .rw[z] at sx;exact nd _ _ _ sx
  .rw[z] at sy;exact nd _ _ _ sy
 |succ n ih =>
  intro A hu x y v u a b sx sy rx ry qa qb;have ih':∀(x y:D) (v u:V) (a b:Us),br n x=true->br n y=true->Rep X.K H x v->Rep X.K H y u->bF v a->bF u b->U5 A.in1 s a b (dJ x y) :=
   λx y v u a b s1 s2 r1 r2 q1 q2=>(ih A.in1 (by show A.units+1+n<Wm;omega) x y v u a b s1 s2 r1 r2 q1 q2).2.1
  by_cases t1:∃ds ds',x=.tup ds/\y=.tup ds'
  .obtain⟨xs,ys,rfl,rfl⟩:=t1
   obtain⟨l,vs,is,rfl,rfl,h1,h2,h3,h4,h5⟩:=bA I rx qa;obtain⟨m,us,js,rfl,rfl,k1,k2,k3,k4,k5⟩:=bA I ry qb;have hsx:=sx;have hsy:=sy;unfold br at sx sy;have each:=zN (A:=A) ih' sx sy h2 k2 h3 k3;have eall:dJ (.tup xs) (.tup ys)=((VG (min is.toArray.size js.toArray.size)).all (λj=>dJ (xs.getD j .non) (ys.getD j .non))&&is.toArray.size==js.toArray.size):=by
    rw[KW];simp only[UP,←h5,←k5]
    by_cases hl:xs.length=ys.length
    .rw[mJ xs ys hl,←hl,Y0,beq_self_eq_true,Bool.and_true]
    .rw[uJ xs ys hl,beq_eq_false_iff_ne.mpr hl,X2]
   refine⟨?_,?_,?_⟩
   .rw[eall];exact Vb.tuples h4 k4 (by omega) each
   .by_cases hlm:l=m
    .subst hlm
     rw[Rep.inj I (n+1) _ _ _ hsx hsy rx ry,k8 (n+1) _ hsy];exact Yx _
    .refine Ya hlm ?_
     rw[eall];exact Vb.tuples h4 k4 (by omega) each
   .rw[eall];exact U1.tuples h4 k4 (by omega) each
  .by_cases t2:∃ds ds',x=.lst ds/\y=.lst ds'
   .obtain⟨xs,ys,rfl,rfl⟩:=t2
    obtain⟨l,vs,is,rfl,rfl,h1,h2,h3,h4,h5⟩:=bu I rx qa;obtain⟨m,us,js,rfl,rfl,k1,k2,k3,k4,k5⟩:=bu I ry qb;have hsx:=sx;have hsy:=sy;unfold br at sx sy;have each:=zN (A:=A) ih' sx sy h2 k2 h3 k3
    by_cases hl:xs.length=ys.length
    .have hsz:is.toArray.size=js.toArray.size:=by simp only[UP];omega
     have eall:dJ (.lst xs) (.lst ys)=(VG is.toArray.size).all (λj=>dJ (xs.getD j .non) (ys.getD j .non)):=by
      rw[xN];simp only[UP,←h5];exact mJ xs ys hl
     refine⟨?_,?_,?_⟩
     .rw[eall];exact Vb.lists h4 k4 hsz (by omega) each
     .by_cases hlm:l=m
      .subst hlm
       rw[Rep.inj I (n+1) _ _ _ hsx hsy rx ry,k8 (n+1) _ hsy];exact Yx _
      .refine Ya hlm ?_
       rw[eall];exact Vb.lists h4 k4 hsz (by omega) each
     .rw[eall];exact U1.lists h4 k4 hsz (by omega) each
    .have hsz:(is.toArray.size != js.toArray.size)=true:=by simp only[UP,bne_iff_ne,ne_eq];omega
     have eall:dJ (.lst xs) (.lst ys)=false:=by rw[xN];exact uJ xs ys hl
     rw[eall];refine⟨YM h4 k4 hsz (by omega),?_,U1.lists_lengths h4 k4 hsz (by omega)⟩;refine Ya (λe=>?_) (YM h4 k4 hsz (by omega));subst e;have:=Rep.inj I (n+1) _ _ _ hsx hsy rx ry;cases this;exact hl rfl
   .exact yX I (by omega) rx ry qa qb (λds ds' z=>t2 ⟨ds,ds',z⟩) (λds ds' z=>t1 ⟨ds,ds',z⟩) (λks ds z=>by rw[z] at sx;exact nd _ _ _ sx) (λks ds z=>by rw[z] at sy;exact nd _ _ _ sy) (λc z=>nx _ _ (z▸sx)) (λc z=>nx _ _ (z▸sy)) (λk c z=>nb _ _ _ (z▸sx)) (λk c z=>nb _ _ _ (z▸sy))
end
section
variable {X:Cx}{E:XK}
noncomputable def gw(x y:D):aj D:=if br 40 x=true/\br 40 y=true then .ok (.bl (dJ x y)) else .stuck
noncomputable def jc(x y:D):aj D:=if br 40 x=true/\br 40 y=true then .ok (.bl (!(dJ x y))) else .stuck
noncomputable def MV(K:Ut):R2:=λv u H Q=>∃x y,Rep K H x v/\Rep K H y u/\br 40 x=true/\br 40 y=true/\Q (.bl (dJ x y)) H
noncomputable def MT(K:Ut):R2:=λv u H Q=>∃x y,Rep K H x v/\Rep K H y u/\br 40 x=true/\br 40 y=true/\Q (.bl (!(dJ x y))) H
def bZ(hu:X.A.units+64<Wm):eQ X (Vj .Eq) (MV X.K):=by
 intro π s σ H x y v u Q I rx ry h;obtain⟨d,d',h1,h2,s1,s2,q⟩:=h;exact(MR I 40 X.A (by omega) d d' x y v u s1 s2 h1 h2 rx ry).1 _ _ _ _ ⟨.bl _,H,I,rfl,q⟩
def fB(hu:X.A.units+64<Wm):eQ X (Vj .NotEq) (MT X.K):=by
 intro π s σ H x y v u Q I rx ry h;obtain⟨d,d',h1,h2,s1,s2,q⟩:=h;exact(MR I 40 X.A (by omega) d d' x y v u s1 s2 h1 h2 rx ry).2.2 _ _ _ _ ⟨.bl _,H,I,rfl,q⟩
def cN:qJ X.K E (MV X.K) gw:=by
 intro x y v u H Ha Q hs r1 r2 q;unfold gw at q
 by_cases c:br 40 x=true/\br 40 y=true
 .rw[if_pos c] at q
  exact⟨x,y,r1.mono hs,r2.mono hs,c.1,c.2,q _ H Ha (bB.refl hs) (aK.mpr rfl)⟩
 .rw[if_neg c] at q;exact q.elim
def iQ:qJ X.K E (MT X.K) jc:=by
 intro x y v u H Ha Q hs r1 r2 q;unfold jc at q
 by_cases c:br 40 x=true/\br 40 y=true
 .rw[if_pos c] at q
  exact⟨x,y,r1.mono hs,r2.mono hs,c.1,c.2,q _ H Ha (bB.refl hs) (aK.mpr rfl)⟩
 .rw[if_neg c] at q;exact q.elim
open Classical in
noncomputable def lW(K:Ut) (H:Hp) (ds:List D) (x:D) (u:Us):Bool :=
 if h:∃d,d∈ds/\∃v,Rep K H d v/\bF v u then dJ h.choose x else false
def Dn(I:Inv X π σ H s)(sd:ds.all (br 40)=true)(hd:d∈ds)(r:Rep X.K H d v)(q:bF v u):lW X.K H ds x u=dJ d x:=by
 have h:∃d,d∈ds/\∃v,Rep X.K H d v/\bF v u:=⟨d,hd,v,r,q⟩
 unfold lW;rw[dif_pos h];obtain⟨h1,v',h2,h3⟩:=h.choose_spec;have e:v'=v:=h3.inj q;subst e;rw[Rep.inj I 40 _ _ _ (Vc.mp sd _ h1) (Vc.mp sd _ hd) h2 r]
noncomputable def A4(K:Ut) (neg:Bool):R2:=λv u H Q=>∃x ds,Rep K H x v/\(Rep K H (.lst ds) u∨Rep K H (.tup ds) u)/\br 40 x=true/\ds.all (br 40)=true/\Q (.bl (if neg then !(ds.any λd=>dJ d x) else ds.any λd=>dJ d x)) H
theorem lE{π:List (Uw×Obj)}{σ:L2.St}{H:Hp}{s:UE}(I:Inv X π σ H s){x:D}{es:List D}(se:es.all (br 40)=true):∀{ds:List D}{vs:List V}{us:List Us},(∀d∈ds,d∈es)->Reps X.K H ds vs->bE vs us->us.any (lW X.K H es x)=ds.any λd=>dJ d x
 |[],_,_,_,h,q=>by
  rw[Reps.nil_iff.mp h] at q;cases q;rfl
 |d::ds,_,_,hm,h,q=>by
  obtain⟨v,r,rfl,h1,h2⟩:=aJ.mp h;cases q with
  |cons q1 q2 =>
   rw[WB,WB,Dn I se (hm d U0) h1 q1,lE I se (λx hx=>hm x (UH _ hx)) h2 q2]
theorem jC{π:List (Uw×Obj)}{σ:L2.St}{H:Hp}{s:UE}(I:Inv X π σ H s)(hu:X.A.units+64<Wm){x:D}{v:V}{u:Us}(sx:br 40 x=true)(rx:Rep X.K H x v)(qx:bF v u){es:List D}(se:es.all (br 40)=true):∀{ds:List D}{vs:List V}{us:List Us},(∀d∈ds,d∈es)->Reps X.K H ds vs->bE vs us->∀y∈us,U5 X.A.in1 s y u (lW X.K H es x y)
 |[],_,_,_,h,q=>λy hy=>by
  rw[Reps.nil_iff.mp h] at q;cases q;cases hy
 |d::ds,_,_,hm,h,q=>λy hy=>by
  obtain⟨w,r,rfl,h1,h2⟩:=aJ.mp h;cases q with
  |cons q1 q2 =>
   rcases UG.mp hy with rfl|hy
   .rw[Dn I se (hm d U0) h1 q1]
    exact(MR I 40 X.A.in1 (by show X.A.units+1+40<Wm;omega) d x w v _ u (Vc.mp se _ (hm d U0)) sx h1 rx q1 qx).2.1
   .exact jC I hu sx rx qx se (λx hx=>hm x (UH _ hx)) h2 q2 y hy
def Ng(hu:X.A.units+64<Wm):eQ X (Vj .In) (A4 X.K false):=by
 intro π s σ H x y v u Q I rx ry h;obtain⟨d,ds,h1,h2,s1,s2,q⟩:=h;rcases h2 with h2|h2
 .obtain⟨a,vs,its,rfl,rfl,k1,k2,k3,k4,k5⟩:=bu I h2 ry
  refine SeqAt.in_listAt (lW X.K H ds d) k4 (λw hw=>jC I hu s1 h1 rx s2 (λ_ z=>z) k2 k3 w (by simpa using hw)) ⟨.bl _,H,I,rfl,?_⟩;rw[show its.toArray.any (lW X.K H ds d)=its.any (lW X.K H ds d) by simp,lE I s2 (λ_ z=>z) k2 k3];exact q
 .obtain⟨a,vs,its,rfl,rfl,k1,k2,k3,k4,k5⟩:=bA I h2 ry
  refine SeqAt.in_tupleAt (lW X.K H ds d) k4 (λw hw=>jC I hu s1 h1 rx s2 (λ_ z=>z) k2 k3 w (by simpa using hw)) ⟨.bl _,H,I,rfl,?_⟩;rw[show its.toArray.any (lW X.K H ds d)=its.any (lW X.K H ds d) by simp,lE I s2 (λ_ z=>z) k2 k3];exact q
def EC(hu:X.A.units+64<Wm):eQ X (Vj .NotIn) (A4 X.K true):=by
 intro π s σ H x y v u Q I rx ry h;obtain⟨d,ds,h1,h2,s1,s2,q⟩:=h;rcases h2 with h2|h2
 .obtain⟨a,vs,its,rfl,rfl,k1,k2,k3,k4,k5⟩:=bu I h2 ry
  refine SeqAt.notIn_listAt (lW X.K H ds d) k4 (λw hw=>jC I hu s1 h1 rx s2 (λ_ z=>z) k2 k3 w (by simpa using hw)) ⟨.bl _,H,I,rfl,?_⟩;rw[show its.toArray.any (lW X.K H ds d)=its.any (lW X.K H ds d) by simp,lE I s2 (λ_ z=>z) k2 k3];exact q
 .obtain⟨a,vs,its,rfl,rfl,k1,k2,k3,k4,k5⟩:=bA I h2 ry
  refine SeqAt.notIn_tupleAt (lW X.K H ds d) k4 (λw hw=>jC I hu s1 h1 rx s2 (λ_ z=>z) k2 k3 w (by simpa using hw)) ⟨.bl _,H,I,rfl,?_⟩;rw[show its.toArray.any (lW X.K H ds d)=its.any (lW X.K H ds d) by simp,lE I s2 (λ_ z=>z) k2 k3];exact q
def P7(i j:US):Bool:=!(Wt j i 0 j.length 1).isEmpty
noncomputable def Ji(x y:D):Option Bool:=match y with
 |.lst ds=>if br 40 x=true/\ds.all (br 40)=true then some (ds.any λd=>dJ d x) else none
 |.tup ds=>if br 40 x=true/\ds.all (br 40)=true then some (ds.any λd=>dJ d x) else none
 |.str j=>match x with
  |.str i=>some (P7 i j)
  |_=>none
 |_=>none
def Fe(x y:D):aj D:=match Ji x y with
 |some b=>.ok (.bl b)
 |none=>.stuck
def cD(x y:D):aj D:=match Ji x y with
 |some b=>.ok (.bl (!b))
 |none=>.stuck
noncomputable def GB(neg:Bool):R2:=λx y H Q=>∃i j,x=.str i/\y=.str j/\Q (.bl (if neg then !(P7 i j) else P7 i j)) H
def CH(hu:X.A.units+64<Wm):eQ X (Vj .In) (λv u H Q=>A4 X.K false v u H Q∨GB false v u H Q):=eQ.or (Ng hu) (by
 intro π s σ H x y v u Q I rx ry h;obtain⟨i,j,rfl,rfl,q⟩:=h;exact ED π s σ H _ _ v u Q I rx ry ⟨i,j,rfl,rfl,q⟩)
def ij(hu:X.A.units+64<Wm):eQ X (Vj .NotIn) (λv u H Q=>A4 X.K true v u H Q∨GB true v u H Q):=eQ.or (EC hu) (by
 intro π s σ H x y v u Q I rx ry h;obtain⟨i,j,rfl,rfl,q⟩:=h;exact xi π s σ H _ _ v u Q I rx ry ⟨i,j,rfl,rfl,q⟩)
def zy(hs:aG Ha H)(r1:Rep X.K Ha x v)(r2:Rep X.K Ha y u)
  (q:post X.K E H Ha (match Ji x y with|some b=>.ok (.bl (if neg then !b else b))|none=>.stuck) Q):A4 X.K neg v u H Q∨GB neg v u H Q:=by
 cases y with
 |lst ds =>
  simp only[Ji] at q
  by_cases c:br 40 x=true/\ds.all (br 40)=true
  .rw[if_pos c] at q
   exact .inl ⟨x,ds,r1.mono hs,.inl (r2.mono hs),c.1,c.2,q _ H Ha (bB.refl hs) (aK.mpr rfl)⟩
  .rw[if_neg c] at q;exact q.elim
 |tup ds =>
  simp only[Ji] at q
  by_cases c:br 40 x=true/\ds.all (br 40)=true
  .rw[if_pos c] at q
   exact .inl ⟨x,ds,r1.mono hs,.inr (r2.mono hs),c.1,c.2,q _ H Ha (bB.refl hs) (aK.mpr rfl)⟩
  .rw[if_neg c] at q;exact q.elim
 |str j =>
  cases x with|str i=>exact .inr ⟨i,j,Rep.str_iff.mp r1,Rep.str_iff.mp r2,q _ H Ha (bB.refl hs) (aK.mpr rfl)⟩| _=>exact q.elim
 |_=>exact q.elim
def CK:qJ X.K E (λv u H Q=>A4 X.K false v u H Q∨GB false v u H Q) Fe:=λx y v u H Ha Q hs r1 r2 q=>zy (neg:=false) (E:=E) hs r1 r2 (by
 unfold Fe at q;cases e:Ji x y with
 |none=>rw[e] at q;exact q
 |some b=>rw[e] at q;exact q)
def ip:qJ X.K E (λv u H Q=>A4 X.K true v u H Q∨GB true v u H Q) cD:=λx y v u H Ha Q hs r1 r2 q=>zy (neg:=true) (E:=E) hs r1 r2 (by
 unfold cD at q;cases e:Ji x y with
 |none=>rw[e] at q;exact q
 |some b=>rw[e] at q;exact q)
end
@[irreducible] def B9:Nat:=2 ^ 9000
@[irreducible] def Ly:Nat:=2 ^ 13500
@[irreducible] def Mn:Nat:=2 ^ 60000
theorem Jd:B9=2 ^ 9000:=by unfold B9;rfl
def Je:Ly=2 ^ 13500:=by unfold Ly;rfl
def yk:Mn=2 ^ 60000:=by unfold Mn;rfl
def sT{n k:Nat}(h:n<2 ^ k)(hk:0<k):n.log2<k:=by
 by_cases h0:n=0
 .rw[h0]
  have:Nat.log2 0=0:=by decide
  omega
 .exact(Nat.log2_lt h0).mpr h
def Qa(h:y.natAbs<B9):Wz x y=false:=by
 rw[Jd] at h;exact PyProof.noPylong_of_log2 (sT h (by omega))
def Nk(h:x.natAbs<Ly):Wz x y=false:=by
 rw[Je] at h;have hx:x.natAbs.log2<13500:=sT h (by omega);show(decide ((if y==0 then 0 else y.natAbs.log2 / 30+1) > 300)&&decide ((if x==0 then 0 else x.natAbs.log2 / 30+1) > (if y==0 then 0 else y.natAbs.log2 / 30+1)+150))=false;have k:(if x==0 then 0 else x.natAbs.log2 / 30+1)<=450:=by
  by_cases hx0:(x==0)=true
  .rw[if_pos hx0];omega
  .rw[if_neg hx0];omega
 by_cases c:(if y==0 then 0 else y.natAbs.log2 / 30+1) > 300
 .rw[Zb];right;exact decide_eq_false (by omega)
 .rw[Zb];left;exact decide_eq_false c
noncomputable def iX(i j:Int):Bool:=decide (j≠0)&&(decide (j.natAbs<B9)||decide (i.natAbs<Ly))
def fF(i j:Int):Bool:=decide (i.natAbs<Mn)&&decide (j.natAbs<Mn)
def iX.ok(h:iX i j=true):j≠0/\Wz i j=false:=by
 unfold iX at h;rw[U4,YB] at h;refine⟨of_decide_eq_true h.1,?_⟩;rcases h.2 with h|h
 .exact Qa (of_decide_eq_true h)
 .exact Nk (of_decide_eq_true h)
def fF.ok(h:fF i j=true):IntMulOk i j:=by
 unfold fF at h;rw[U4] at h;have h1:=of_decide_eq_true h.1;have h2:=of_decide_eq_true h.2;rw[yk] at h1 h2;exact PyProof.Rows.mulOk_of_bits (m:=60000) (n:=60000) (Zh.mpr h1) (Zh.mpr h2) (by decide)
section
variable {X:Cx}{E:XK}{e a b c:Vk}{es:List Vk}{f g k:Ev->aj D}{fa:Ev->aj (List D)}{pos:Pos}
def bg{K:Ut}(hs:aG Ha H)(q:post K E H Ha (.ok d) Q)(r:Rep K Ha d v):Q v H:=q v H Ha (bB.refl hs) r
noncomputable def zO(c:Int->Int->Bool) (g:Int->Int->D) (x y:D):aj D:=match x,y with
 |.int i,.int j=>if c i j=true then .ok (g i j) else .stuck
 |_,_=>.stuck
def xt{c:Int->Int->Bool}{g:Int->Int->D}(hc:∀i j,c i j=true->C i j)(hg:∀K H i j,Rep K H (g i j) (gv i j)):qJ X.K E (rI C gv) (zO c g):=by
 intro x y v u H Ha Q hs r1 r2 q;unfold zO at q;cases x with
 |int i =>
  cases y with
  |int j =>
   by_cases h:c i j=true
   .simp only[if_pos h] at q
    exact⟨i,j,aC.mp r1,aC.mp r2,hc i j h,bg hs q (hg _ _ i j)⟩
   .simp only[if_neg h] at q;exact q.elim
  |_=>exact q.elim
 |_=>exact q.elim
def d7{g:Int->Int->D}(hg:∀K H i j,Rep K H (g i j) (gv i j)):qJ X.K E (Jg gv) (zO (λ_ _=>true) g):=by
 intro x y v u H Ha Q hs r1 r2 q;unfold zO at q;cases x with
 |int i =>
  cases y with|int j=>simp only[if_pos] at q;exact⟨i,j,aC.mp r1,aC.mp r2,bg hs q (hg _ _ i j)⟩| _=>exact q.elim
 |_=>exact q.elim
def ri{K:Ut}(n:Int):Rep K H (.int n) (.int n):=aC.mpr rfl
def rb{K:Ut}(n:Bool):Rep K H (.bl n) (.bl n):=aK.mpr rfl
abbrev uS:=zO (λ_ _=>true) λi j=>.int (i-j)
abbrev qF:=zO iX λi j=>.int (i.fdiv j)
abbrev dZ:=zO (λ_ j=>decide (j≠0)) λi j=>.int (i.fmod j)
noncomputable abbrev vA:=zO (λi j=>decide (0<=j)&&decide (j<=1000000)&&decide (i.natAbs<18446744073709551616)) λi j=>.int (i ^ j.toNat)
abbrev Q2:=zO (λ_ _=>true) λi j=>.bl (decide (i<j))
abbrev Lc:=zO (λ_ _=>true) λi j=>.bl (decide (i<=j))
abbrev Ld:=zO (λ_ _=>true) λi j=>.bl (decide (j<i))
abbrev SN:=zO (λ_ _=>true) λi j=>.bl (decide (j<=i))
def Kj:eQ X (binaryOp .Mult) (rI IntMulOk λi j=>.int (i*j)):=RD λ_ _ _ _ _ _ _ hc q=>mul_int q hc
def Kk:eQ X (binaryOp .FloorDiv) (rI (λi j=>j≠0/\Wz i j=false) λi j=>.int (i.fdiv j)):=RD λ_ _ _ _ _ _ _ hc q=>floordiv_int hc.1 q (.inl hc.2)
def xZ(ha:DE X E a f)(hb:DE X E b g):DE X E (.BinOp a .Sub b pos) (ag f g uS):=uQ Na (d7 λ_ _ _ _=>ri _) ha hb
def ll(ha:DE X E a f)(hb:DE X E b g):DE X E (.BinOp a .FloorDiv b pos) (ag f g qF):=uQ Kk (xt (λ_ _ h=>iX.ok h) λ_ _ _ _=>ri _) ha hb
def gJ(ha:DE X E a f)(hb:DE X E b g):DE X E (.BinOp a .Mod b pos) (ag f g dZ):=uQ CG (xt (λ_ _ h=>of_decide_eq_true h) λ_ _ _ _=>ri _) ha hb
def BN(ha:DE X E a f)(hb:DE X E b g):DE X E (.BinOp a .Pow b pos) (ag f g vA):=uQ Nc (xt (λi j h=>by
 rw[U4,U4] at h;exact⟨of_decide_eq_true h.1.1,of_decide_eq_true h.1.2,of_decide_eq_true h.2⟩) λ_ _ _ _=>ri _) ha hb
def nm(h1:op≠.In:=by decide)(h2:op≠.NotIn:=by decide):behindInMarks op b=false:=zA _ h1 h2
def oo(x:D):aj D:=match x with
 |.int i=>.ok (.int (-i))
 |_=>.stuck
def jY(ha:DE X E a f):DE X E (.UnaryOp .USub a pos) (bD f oo):=QX FY (by
 intro x v H Ha Q hs r q;cases x with
 |int i=>exact⟨i,aC.mp r,bg hs q (ri _)⟩
 |_=>exact q.elim) ha
def CI:eQ X (binaryOp .Add) (λx y H Q=>∃l b xs zs,x=.ref l/\y=.ref b/\eX X.K H l xs/\eX X.K H b zs/\xs.length+zs.length<=sizeLine/\∀p,H p=none->Q (.ref p) (upd H p (.lst (xs++zs)))):=by
 intro π s σ H x y v u Q I rx ry h;obtain⟨l,b,xs,zs,rfl,rfl,hH,hB,hz,q⟩:=h;cases rx;cases ry;obtain⟨its,r,pl,z⟩:=I.list hH;obtain⟨its2,r2,pl2,z2⟩:=I.list hB;obtain⟨⟨cls,dd,data,sl⟩,ho,hc,n,hd⟩:=pl.isList;obtain⟨⟨cls2,dd2,data2,sl2⟩,ho2,hc2,n2,hd2⟩:=pl2.isList;simp only at hc hd hc2 hd2;subst hc hd hc2 hd2;have e:its.toArray++its2.toArray=(its++its2).toArray:=by simp
 have l1:=r.length;have l2:=r2.length;refine concat_meets ⟨_,ho,rfl⟩ ⟨_,ho2,rfl⟩ noFill_list_add seq_list_add PySem.F.slot_list_add PySem.F.entry_list_add (PySem.F.args_list_add_2 _ _) (list_addW l b its.toArray its2.toArray n n2 dd dd2 sl sl2 (by simp only[UP];omega)) ⟨ho,ho2,?_⟩;rw[e];exact⟨.ref _,_,I.lnew (t':=s.toks) (r.append r2) (by rw[Vt];omega),rfl,q _ I.fresh⟩
noncomputable def b9(x y:D):aj D:=match x,y with
 |.int i,.int j=>.ok (.int (i+j))
 |.str i,.str j=>if i.length+j.length<=line then .ok (.str (i++j)) else .stuck
 |.lst ds,.lst es=>if ds.length+es.length<=line then .ok (.lst (ds++es)) else .stuck
 |.tup ds,.tup es=>if ds.isEmpty=false/\ds.length+es.length<=line then .ok (.tup (ds++es)) else .stuck
 |_,_=>.stuck
def cU(ha:DE X E a f)(hb:DE X E b g):DE X E (.BinOp a .Add b pos) (ag f g b9):=uQ (eQ.or G3 (eQ.or sG (eQ.or CI xj))) (by
 intro x y v u H Ha Q hs r1 r2 q;unfold b9 at q;cases x with
 |int i =>
  cases y with|int j=>exact .inl ⟨i,j,aC.mp r1,aC.mp r2,bg hs q (ri _)⟩| _=>exact q.elim
 |str i =>
  cases y with
  |str j =>
   by_cases h:i.length+j.length<=line
   .simp only[if_pos h] at q
    exact .inr (.inl ⟨i,j,Rep.str_iff.mp r1,Rep.str_iff.mp r2,cG h,bg hs q (Rep.str_iff.mpr rfl)⟩)
   .simp only[if_neg h] at q;exact q.elim
  |_=>exact q.elim
 |lst ds =>
  cases y with
  |lst es =>
   by_cases h:ds.length+es.length<=line
   .simp only[if_pos h] at q
    obtain⟨l,vs,rfl,h1,h2⟩:=aI.mp r1;obtain⟨m,us,rfl,k1,k2⟩:=aI.mp r2;refine .inr (.inr (.inl ⟨l,m,vs,us,rfl,rfl,aG.sqL hs h1,aG.sqL hs k1,by rw[←h2.length,←k2.length];exact cG h,λp hp=>?_⟩));exact q _ _ _ (aO hs hp) (aI.mpr ⟨p,_,rfl,eX.of aB,(h2.app k2).mono (aO hs hp).z⟩)
   .simp only[if_neg h] at q;exact q.elim
  |_=>exact q.elim
 |tup ds =>
  cases y with
  |tup es =>
   by_cases h:ds.isEmpty=false/\ds.length+es.length<=line
   .simp only[if_pos h] at q
    obtain⟨l,vs,rfl,h1,h2⟩:=aN.mp r1;obtain⟨m,us,rfl,k1,k2⟩:=aN.mp r2;refine .inr (.inr (.inr ⟨l,m,vs,us,rfl,rfl,aG.sqT hs h1,aG.sqT hs k1,λz=>?_,by rw[←h2.length,←k2.length];exact cG h.2,λz=>?_,λz p hp=>?_⟩))
    .have:=h2.length
     rw[z] at this;have e:ds=[]:=VX.mp this;rw[e] at h;exact absurd h.1 (by decide)
    .have:=k2.length
     rw[z] at this;have e:es=[]:=VX.mp this;rw[e,Vo] at q;exact bg hs q r1
    .exact q _ _ _ (aO hs hp) (aN.mpr ⟨p,_,rfl,kn.of aB,(h2.app k2).mono (aO hs hp).z⟩)
   .simp only[if_neg h] at q;exact q.elim
  |_=>exact q.elim
 |_=>exact q.elim) ha hb
noncomputable def aW(x y:D):aj D:=match y with
 |.int i=>match x with
  |.lst ds=>match atI ds i with
   |some d=>.ok d
   |none=>.stuck
  |.tup ds=>match atI ds i with
   |some d=>.ok d
   |none=>.stuck
  |.str z=>if z.length<=line then match atI z.cps.toList i with
   |some c=>.ok (.str ⟨#[c]⟩)
   |none=>.stuck else .stuck
  |_=>.stuck
 |_=>.stuck
def Reps.atI{K:Ut}(h:Reps K H ds vs)(e:atI ds i=some d):∃v,L2.atI vs i=some v/\Rep K H d v:=by
 unfold L2.atI at e ⊢;rw[←h.length];cases q:AM ds.length i with
 |none=>rw[q] at e;cases e
 |some j =>
  rw[q] at e;exact h.get e
def LQ:qJ X.K E (Tn X.K) aW:=by
 intro x y v u H Ha Q hs r1 r2 q;unfold aW at q;cases y with
 |int i =>
  cases x with
  |lst ds =>
   obtain⟨l,vs,rfl,h1,h2⟩:=aI.mp r1;cases e:atI ds i with
   |none=>simp only[e] at q;exact q.elim
   |some d =>
    simp only[e] at q;obtain⟨w,e1,e2⟩:=h2.atI e;exact .inl ⟨l,vs,i,w,rfl,aC.mp r2,aG.sqL hs h1,e1,bg hs q e2⟩
  |tup ds =>
   obtain⟨l,vs,rfl,h1,h2⟩:=aN.mp r1;cases e:atI ds i with
   |none=>simp only[e] at q;exact q.elim
   |some d =>
    simp only[e] at q;obtain⟨w,e1,e2⟩:=h2.atI e;exact .inr (.inl ⟨l,vs,i,w,rfl,aC.mp r2,aG.sqT hs h1,e1,bg hs q e2⟩)
  |str z =>
   by_cases hz:z.length<=line
   .simp only[if_pos hz] at q
    cases e:atI z.cps.toList i with
    |none=>simp only[e] at q;exact q.elim
    |some c =>
     simp only[e] at q;exact .inr (.inr ⟨z,i,c,Rep.str_iff.mp r1,aC.mp r2,cG hz,e,bg hs q (Rep.str_iff.mpr rfl)⟩)
   .simp only[if_neg hz] at q;exact q.elim
  |_=>exact q.elim
 |_=>exact q.elim
def au(ha:DE X E a f)(hb:DE X E b g)(hs:oz b:=by intro _ _;rfl):DE X E (.Subscript a b pos) (ag f g aW):=QY Ho LQ ha hb hs
def de:Ev->aj (Option Int):=λ_=>.ok none
noncomputable def cX(f:Ev->aj D):Ev->aj (Option Int):=λρ=>(f ρ).bind λx=>match x with
 |.int i=>.ok (some i)
 |_=>.stuck
noncomputable def Sd(K:Ut) (E:XK) (f:Ev->aj (Option Int)):TO:=λσ H Q=>∃Ha ρ,aG Ha H/\Reads K Ha σ ρ/\match f ρ with
 |.ok o=>∀H' Ha',bB H Ha H' Ha'->Q o H'
 |.exn x=>∀C ox H' Ha',bB H Ha H' Ha'->AJ K Ha' x C ox->E C ox H'
 |.stuck=>False
structure DO (X:Cx) (E:XK) (e:Option Vk) (f:Ev->aj (Option Int)):Prop where
 o:PO X e (Sd X.K E f)
def Cv(h:PO X eo t)(w:∀σ H Q,t' σ H Q->t σ H Q):PO X eo t':=λπ s σ H Q I q=>h π s σ H Q I (w σ H Q q)
def dQ:DO X E none de:=⟨Cv J7 λσ H Q ⟨Ha,ρ,hs,hr,q⟩=>q H Ha (bB.refl hs)⟩
def dP(ha:DE X E a f):DO X E (some a) (cX f):=by
 refine⟨?_⟩;refine Cv (J6 ha.o) λσ H Q z9=>?_;obtain⟨Ha,ρ,hs,hr,q⟩:=z9;refine⟨Ha,ρ,hs,hr,?_⟩
 unfold cX at q;cases e1:f ρ with
 |stuck|exn x=>rw[e1] at q;exact q
 |ok d =>
  rw[e1] at q;intro v H1 H01 g1 r1;cases d with|int i=>exact⟨i,aC.mp r1,q H1 H01 g1⟩| _=>exact q.elim
noncomputable def eP(xs:List D) (lo hi:Option Int):List D:=(xs.drop (HT.sIx xs.length 0 lo)).take (HT.sIx xs.length xs.length hi-HT.sIx xs.length 0 lo)
def Reps.cut{K:Ut}(h:Reps K H ds vs)(lo hi:Option Int):Reps K H (eP ds lo hi) (Ay vs lo hi):=by
 unfold eP Ay;rw[←h.length];exact(h.drop _).take _
def yQ{lo hi:Ev->aj (Option Int)}{m:D->Option Int->Option Int->aj D}
  (ho:∀x v l h H Ha Q,aG Ha H->Rep X.K Ha x v->post X.K E H Ha (m x l h) Q->r v l h H Q)(σ:L2.St)(H:Hp)(Q:VK)
  (h:tD X.K E (λρ=>(f ρ).bind λx=>(lo ρ).bind λl=>(hi ρ).bind λh=>m x l h) σ H Q):Te r (tD X.K E f) (Sd X.K E lo) (Sd X.K E hi) σ H Q:=by
 obtain⟨Ha,ρ,hs,hr,q⟩:=h;refine⟨Ha,ρ,hs,hr,?_⟩;replace q:post X.K E H Ha ((f ρ).bind λx=>(lo ρ).bind λl=>(hi ρ).bind λh=>m x l h) Q:=q;cases e1:f ρ with
 |stuck|exn x=>rw[e1] at q;exact q
 |ok x =>
  rw[e1] at q;intro v H1 H01 g1 r1;refine⟨H01,ρ,g1.sub,hr.mono g1.z,?_⟩;replace q:post X.K E H Ha ((lo ρ).bind λl=>(hi ρ).bind λh=>m x l h) Q:=q;replace q:=q.grow g1;cases e2:lo ρ with
  |stuck|exn x=>rw[e2] at q;exact q
  |ok l =>
   rw[e2] at q;intro H2 H02 g2;refine⟨H02,ρ,g2.sub,(hr.mono g1.z).mono g2.z,?_⟩;replace q:post X.K E H1 H01 ((hi ρ).bind λh=>m x l h) Q:=q;replace q:=q.grow g2;cases e3:hi ρ with
   |stuck|exn x=>rw[e3] at q;exact q
   |ok h =>
    rw[e3] at q;intro H3 H03 g3;exact ho x v l h H3 H03 Q g3.sub ((r1.mono g2.z).mono g3.z) (post.grow (r:=m x l h) q g3)
def m1(m:D->aj D)(ds:List D):aj D:=match ds with
 |[x]=>m x
 |_=>.stuck
noncomputable def m2(m:D->D->aj D) (ds:List D):aj D:=match ds with
 |[x,y]=>m x y
 |_=>.stuck
def qf(h:∀x v H Ha Q,aG Ha H->Rep X.K Ha x v->post X.K E H Ha (m x) Q->r [v] H Q):gF X E r (m1 m):=by
 intro ds vs H Ha Q hs hr q;unfold m1 at q
 match ds,hr,q with
 |[x],hr,q =>
  obtain⟨v,r',rfl,h1,h2⟩:=aJ.mp hr;rw[Reps.nil_iff.mp h2];exact h x v H Ha Q hs h1 q
 |[],_,q=>exact q.elim
 |_::_::_,_,q=>exact q.elim
def Mi(h:∀x y v u H Ha Q,aG Ha H->Rep X.K Ha x v->Rep X.K Ha y u->post X.K E H Ha (m x y) Q->r [v,u] H Q):gF X E r (m2 m):=by
 intro ds vs H Ha Q hs hr q;unfold m2 at q
 match ds,hr,q with
 |[x,y],hr,q =>
  obtain⟨v,r',rfl,h1,h2⟩:=aJ.mp hr;obtain⟨u,r'',rfl,h3,h4⟩:=aJ.mp h2;rw[Reps.nil_iff.mp h4];exact h x y v u H Ha Q hs h1 h3 q
 |[],_,q=>exact q.elim
 |[_],_,q=>exact q.elim
 |_::_::_::_,_,q=>exact q.elim
noncomputable def Ff(x:D):aj D:=match x with
 |.int i=>.ok (.int (if i<0 then -i else i))
 |_=>.stuck
noncomputable def NT(x y:D):aj D:=match x,y with
 |.int i,.int j=>.ok (.int (if j > i then j else i))
 |_,_=>.stuck
noncomputable def dw(x:D):aj D:=match x with
 |.lst ds=>.ok (.int ds.length)
 |.tup ds=>.ok (.int ds.length)
 |.str z=>if z.length<=line then .ok (.int z.length) else .stuck
 |_=>.stuck
noncomputable def je(x:D):aj D:=match x with
 |.int i=>.ok (.int i)
 |.bl b=>.ok (.int (if b then 1 else 0))
 |_=>.stuck
noncomputable def Iv(x:D):aj D:=match x with
 |.lst ds=>.ok (.lst ds)
 |.tup ds=>.ok (.lst ds)
 |_=>.stuck
def BU:gF X E (λxs H Q=>∃i,xs=[.int i]/\Q (.int (if i<0 then -i else i)) H) (m1 Ff):=qf λx v H Ha Q hs r q=>by
 cases x with|int i=>exact⟨i,by rw[aC.mp r],bg hs q (ri _)⟩| _=>exact q.elim
def NZ:gF X E (λxs H Q=>∃i j,xs=[.int i,.int j]/\Q (.int (if j > i then j else i)) H) (m2 NT):=Mi λx y v u H Ha Q hs r r' q=>by
 cases x with
 |int i =>
  cases y with|int j=>exact⟨i,j,by rw[aC.mp r,aC.mp r'],bg hs q (ri _)⟩| _=>exact q.elim
 |_=>exact q.elim
def cY:gF X E (λxs H Q=>∃x n,xs=[x]/\Oq X.K x H n/\Q (.int n) H) (m1 dw):=qf λx v H Ha Q hs r q=>by
 cases x with
 |lst ds =>
  obtain⟨p,vs,rfl,h1,h2⟩:=aI.mp r;refine⟨_,vs.length,rfl,.inl ⟨vs,aG.sqL hs h1,rfl⟩,?_⟩;rw[←h2.length];exact bg hs q (ri _)
 |tup ds =>
  obtain⟨p,vs,rfl,h1,h2⟩:=aN.mp r;refine⟨_,vs.length,rfl,.inr ⟨vs,aG.sqT hs h1,rfl⟩,?_⟩;rw[←h2.length];exact bg hs q (ri _)
 |str z =>
  unfold dw at q
  by_cases hz:z.length<=line
  .simp only[if_pos hz] at q
   rw[Rep.str_iff.mp r];exact⟨_,z.length,rfl,⟨cG hz,rfl⟩,bg hs q (ri _)⟩
  .simp only[if_neg hz] at q;exact q.elim
 |_=>exact q.elim
def IE:gF X E (λxs H Q=>(∃i,xs=[.int i]/\Q (.int i) H)∨∃k,xs=[.bl k]/\Q (.int (if k then 1 else 0)) H) (m1 je):=qf λx v H Ha Q hs r q=>by
 cases x with|int i=>exact .inl ⟨i,by rw[aC.mp r],bg hs q (ri _)⟩|bl i=>exact .inr ⟨i,by rw[aK.mp r],bg hs q (ri _)⟩| _=>exact q.elim
def Li:gF X E (λxs H Q=>∃p ys,xs=[.ref p]/\(eX X.K H p ys∨kn X.K H p ys)/\∀l,H l=none->Q (.ref l) (upd H l (.lst ys))) (m1 Iv):=qf λx v H Ha Q hs r q=>by
 cases x with
 |lst ds =>
  obtain⟨p,vs,rfl,h1,h2⟩:=aI.mp r;exact⟨p,vs,rfl,.inl (aG.sqL hs h1),λn hn=>q _ _ _ (aO hs hn) (aI.mpr ⟨n,_,rfl,eX.of aB,h2.mono (aO hs hn).z⟩)⟩
 |tup ds =>
  obtain⟨p,vs,rfl,h1,h2⟩:=aN.mp r;exact⟨p,vs,rfl,.inr (aG.sqT hs h1),λn hn=>q _ _ _ (aO hs hn) (aI.mpr ⟨n,_,rfl,eX.of aB,h2.mono (aO hs hn).z⟩)⟩
 |_=>exact q.elim
def jE(hc:gO X (.type T) r)(hd:gF X E r m)(hg:Gl X x)(hm:X.mg x=none)(hv:bootBuiltins x=some (.type T))(ha:DA X E (e::es) fa)(hn:x≠"__name__":=by decide)(hdb:(x==("__debug__" : US))=false:=by decide)
  (he:Uy (e::es) X.env=(false,eval e X.env)::Uy es X.env:=by exact aV rfl)(hpl:(VA pos (Uy es X.env)).any (·.1)=false:=by exact bL rfl):DE X E (.Call (.Name x p) (e::es) [] pos) (ao fa m) :=
 ⟨aZ (EA hc hg hm hv ha.o hn hdb he hpl) (lS hd)⟩
def Hs:D->Bool
 |.non=>true
 |_=>false
def gW(x y:D):aj D:=match y with
 |.non=>.ok (.bl (Hs x))
 |_=>.stuck
def fR(x y:D):aj D:=match y with
 |.non=>.ok (.bl (!(Hs x)))
 |_=>.stuck
def Rep.is_non{K:Ut}(r:Rep K H x v):decide (v=.non)=Hs x:=by
 cases x with|non=>rw[aY.mp r];rfl|bl b=>rw[aK.mp r];rfl|int b=>rw[aC.mp r];rfl|str b=>rw[Rep.str_iff.mp r];rfl|tup ds=>obtain⟨_,_,e,_⟩:=aN.mp r;rw[e];rfl|lst ds=>obtain⟨_,_,e,_⟩:=aI.mp r;rw[e];rfl|dic ks ds=>rw[Rep] at r;obtain⟨_,_,_,e,_⟩:=r;rw[e];rfl|exc x=>obtain⟨_,_,_,e,_⟩:=fw.mp r;rw[e];rfl|ob k x=>obtain⟨_,_,e,_⟩:=fX.mp r;rw[e];rfl
def iq:qJ X.K E (λx y H Q=>y=.non/\Q (.bl (decide (x=.non))) H) gW:=by
 intro x y v u H Ha Q hs r1 r2 q;unfold gW at q;cases y with|non=>exact⟨aY.mp r2,by rw[r1.is_non];exact bg hs q (rb _)⟩| _=>exact q.elim
def lJ:qJ X.K E (λx y H Q=>y=.non/\Q (.bl (!decide (x=.non))) H) fR:=by
 intro x y v u H Ha Q hs r1 r2 q;unfold fR at q;cases y with
 |non =>
  refine⟨aY.mp r2,?_⟩;rw[r1.is_non];exact bg hs q (rb _)
 |_=>exact q.elim
noncomputable def AL:D->String
 |.non=>"NoneType"
 |.bl _=>"bool"
 |.int _=>"int"
 |.str _=>"str"
 |.tup _=>"tuple"
 |.lst _=>"list"
 |.dic _ _=>"dict"
 |.exc _=>"<exc>"
 |.ob (.ins _ _) _=>"<exc>"
 |.ob (.dint _) _=>"dict"
 |.ob (.exf _ _) _=>"<exc>"
def fP(T:String)(x:D):aj D:=.ok (.bl (AL x==T||(AL x=="bool"&&T=="int")))
noncomputable def qm(K:Ut) (T:String):Prop:=∀S,S∈["NoneType","bool","int","str","tuple","list","dict"]->XA K (.type S) (.type T)=some (S==T||(S=="bool"&&T=="int"))
def Hq(I:Inv X π σ H s)(r:Rep X.K H x v)(q:bF v u)(hk:qm X.K T)(hT:T∈gL)(h:∀tk,Q (.bool (AL x==T||(AL x=="bool"&&T=="int"))) { s with toks:=tk }) :
  UO (UM X.prog X.w) A (call (.builtin "isinstance") [u,.type T]) Q X.xe s:=by
 cases x with
 |non=>rw[aY.mp r] at q;exact lK I q .non (hk _ (by simp)) h|bl b=>rw[aK.mp r] at q;exact lK I q (.bl b) (hk _ (by simp)) h|int b=>rw[aC.mp r] at q;exact lK I q (.int b) (hk _ (by simp)) h|str b=>rw[Rep.str_iff.mp r] at q;exact lK I q (.str b) (hk _ (by simp)) h
 |tup ds =>
  obtain⟨a,vs,its,rfl,rfl,h1,h2,h3,h4,_⟩:=bA I r q;obtain⟨o,k1,k2,_⟩:=h4;exact VU W.kitx_tuple I.kIn ⟨o,k1,k2⟩ (hk _ (by simp)) (λz=>nomatch z) h
 |lst ds =>
  obtain⟨a,vs,its,rfl,rfl,h1,h2,h3,h4,_⟩:=bu I r q;obtain⟨o,k1,k2,_⟩:=h4;exact VU Ze I.kIn ⟨o,k1,k2⟩ (hk _ (by simp)) (λz=>nomatch z) h
 |dic ks ds =>
  rw[Rep] at r;obtain⟨a,kvs,vs,rfl,h1,h2,_⟩:=r;cases (show u=U8 a from q);obtain⟨_,_,vs',_,p⟩:=h1.ok I.hok;obtain⟨o,es,ep,k1,k2,_⟩:=p;exact VU Yv I.kIn ⟨o,k1,k2.1⟩ (hk _ (by simp)) (λz=>nomatch z) h
 |exc x =>
  obtain⟨a,C,dc,rfl,hc,h1⟩:=fw.mp r;cases (show u=U8 a from q);obtain⟨p,_,_⟩:=h1.ok I.hok;have e:(AL (.exc x)==T||(AL (.exc x)=="bool"&&T=="int"))=false:=by
   have:∀T∈gL,(AL (.exc x)==T||(AL (.exc x)=="bool"&&T=="int"))=false:=by show ∀T∈gL,("<exc>"==T||("<exc>"=="bool"&&T=="int"))=false;decide
   exact this T hT
  rw[e] at h;exact VU (nc hc.ek hc.ek.isCls) I.kIn p (hc.bt T hT) (λz=>nomatch z) h
 |ob k xs =>
  obtain⟨a,vs,rfl,h1,_⟩:=fX.mp r;cases (show u=U8 a from q);cases k with
  |exf c ks =>
   obtain⟨C,dx,fs,hc,h2,_⟩:=h1;obtain⟨p,_,_⟩:=h2.ok I.hok;have e:(AL (.ob (.exf c ks) xs)==T||(AL (.ob (.exf c ks) xs)=="bool"&&T=="int"))=false:=by
    have:∀T∈gL,("<exc>"==T||("<exc>"=="bool"&&T=="int"))=false:=by decide
    exact this T hT
   rw[e] at h;exact VU (nc hc.ek hc.ek.isCls) I.kIn p (hc.bt T hT) (λz=>nomatch z) h
  |ins c ks =>
   obtain⟨C,dx,_,hc,h2,_⟩:=h1;obtain⟨mA,O,_⟩:=C8 I.hok h2;obtain⟨od,O',_⟩:=O.look;have e:(AL (.ob (.ins c ks) xs)==T||(AL (.ob (.ins c ks) xs)=="bool"&&T=="int"))=false:=by
    have:∀T∈gL,(AL (.ob (.ins c ks) xs)==T||(AL (.ob (.ins c ks) xs)=="bool"&&T=="int"))=false:=by show ∀T∈gL,("<exc>"==T||("<exc>"=="bool"&&T=="int"))=false;decide
    exact this T hT
   rw[e] at h;exact VU (W.kitx_own (hc.cls.get _) hc.cls.hd hc.gc hc.gn hc.tk hc.mo) I.kIn O' (hc.bt T hT) (λz=>nomatch z) h
  |dint ks =>
   obtain⟨kvs,h2,_⟩:=h1;obtain⟨_,_,vs',_,p⟩:=h2.ok I.hok;obtain⟨o,es,ep,k1,k2,_⟩:=p;exact VU Yv I.kIn ⟨o,k1,k2.1⟩ (hk _ (by simp)) (λz=>nomatch z) h
def c7(hk:qm X.K T)(hgi:Gl X "isinstance")(hmi:X.mg "isinstance"=none)(hg:Gl X x)(hm:X.mg x=none)(hv:bootBuiltins x=some (.type T))(ha:DE X E a f)
  (hn:x≠"__name__":=by decide)(hdb:(x==("__debug__" : US))=false:=by decide)(hT:T∈gL:=by decide)
  (he:Uy [a,.Name x p2] X.env=(false,eval a X.env)::Uy [.Name x p2] X.env:=by exact aV rfl)(he2:Uy [.Name x p2] X.env=(false,eval (.Name x p2) X.env)::Uy [] X.env:=by exact aV rfl)(hpl:(VA pos (Uy [.Name x p2] X.env)).any (·.1)=false:=by exact bL rfl) :
  DE X E (.Call (.Name "isinstance" p1) [a,.Name x p2] [] pos) (bD f (fP T)):=by
 refine⟨?_⟩;refine aZ (mY (r:=λvs H Q=>∃d v,vs=[v,.ty T]/\Rep X.K H d v/\Q (.bl (AL d==T||(AL d=="bool"&&T=="int"))) H) ?_ hgi hmi PyProof.Rows.Boot.«isinstance» (c9 ha.o (c9 (CB (v:=.ty T) hg hm hv rfl hn hdb) fV he2) he) (by decide) (by decide) he hpl) λσ H Q ⟨Ha,ρ,hs,hr,q⟩=>⟨Ha,ρ,hs,hr,?_⟩
 .intro π s σ H xs us Q I r h
  obtain⟨d,v,rfl,h1,q⟩:=h;cases r with
  |cons r1 r2 =>
   cases r2 with
   |cons r3 r4 =>
    cases r4;rename_i u1 u2;obtain rfl:u2=Value.type T:=r3;exact Hq I h1 r1 hk hT λtk=>⟨.bl _,H,I.tok _,rfl,q⟩
 .unfold bD at q
  cases e1:f ρ with
  |stuck|exn x=>rw[e1] at q;exact q
  |ok d =>
   rw[e1] at q;intro v H1 H01 g1 r1;exact⟨d,v,rfl,r1.mono g1.sub,q _ H1 H01 g1 (rb _)⟩
end
theorem we{prog:Vq}{w:VL}{A:Vw}{E:Us->UE->Prop}{it t:Uw}{items:Array Us}(hne:t≠it):∀(n i:Nat) (s:UE) (Q:List Us->UE->Prop),s.heap.IsListIter it t i->s.heap.IsList t items->i+n<=items.size ->
  (∀h',h'.IsListIter it t (i+n)->Xd it s.heap h'->Q ((items.toList.drop i).take n) { s with heap:=h' })->UO (UM prog w) A (draw (.ref it) n) Q E s
 |0,i,s,Q,hit,_,_,hQ=>by
  show UO _ _ (pure []) Q E s;exact UU (by simpa using hQ s.heap hit (Xd.refl ..))
 |n+1,i,s,Q,hit,ht,hle,hQ=>by
  have hlt:i<items.size:=by omega
  show UO _ _ (pyNext (.ref it) >>= _) Q E s;refine Uu (wpAny_pyNext_list_item hit ht (x:=items[i]) (by simp [hlt]) λhV hit₁ hs₁=>?_);have ht₁:hV.IsList t items:=by
   obtain⟨o,k1,k2⟩:=ht;exact⟨o,(hs₁.2 t hne).trans k1,k2⟩
  refine Uu (V1 (we hne n (i+1) _ _ hit₁ ht₁ (by omega) λhZ hit₂ hs₂=>UU ?_));have hd:items.toList.drop i=items[i]::items.toList.drop (i+1):=by simp [Vm,hlt]
  have:=hQ hZ (by rw[show i+(n+1)=i+1+n by omega];exact hit₂) (hs₁.trans hs₂);rw[hd,List.take_succ_cons] at this;exact this
def oO(hh:A.handled=none)(ht:s.heap.IsList t items)
  (hQ:∀h',Heap.ExtBut s.heap.objs.size s.heap h'->Q items.toList { s with heap:=h' }):UO (UM prog w) A (unpackItems (.ref t) items.size none) Q E s:=by
 have hlt:t≠s.heap.objs.size:=by obtain⟨o,ho,_⟩:=ht;exact Vf (UT ho)
 unfold unpackItems;refine Uu ?_
 .unfold notIterableAtAll
  refine Uu (wpAny_specialOf ht.typeIs slot_list_iter.lookup ?_);refine UU ?_;simp only[Bool.false_eq_true,if_false];refine Uu (V1 (wpAny_pyIter_list ht ?_));have ht0:(s.heap.push { cls:=.type "list_iterator",data:=.fields #[.ref t,.int 0 0] }).IsList t items:=by
   obtain⟨o,k1,k2⟩:=ht;exact⟨o,UC _ k1,k2⟩
  refine Uu (V1 (we hlt items.size 0 _ _ ⟨_,Vy _ rfl,rfl,rfl⟩ ht0 (by omega) λhV hit₁ hs₁=>?_));have hall:List.take items.size (List.drop 0 items.toList)=items.toList:=by
   rw[Wl];exact Y1 (by simp)
  rw[hall];rw[if_neg (by simp)];have ht₁:hV.IsList t items:=by
   obtain⟨o,k1,k2⟩:=ht0;exact⟨o,(hs₁.2 t hlt).trans k1,k2⟩
  refine Uu (V1 (wpAny_pyNext_list_end hh hit₁ ht₁ (by simp) λhZ he₂=>?_));simp only[Option.isSome_none,Bool.false_eq_true,if_false];refine UU (hQ hZ λb o hb e=>he₂ b o hb (hs₁.extBut b o hb (UC _ e)))
noncomputable def A1(σ:L2.St):List Nat->List V->L2.St
 |i::is,v::vs=>A1 (σ.set i (some v)) is vs
 |_,_=>σ
noncomputable def eZ(ρ:Ev):List Nat->List D->Ev
 |i::is,d::ds=>eZ (ρ.set i (.sh d)) is ds
 |_,_=>ρ
theorem dD.putAll{K:Ut}{He η Ha H:Hp}:∀{is:List Nat}{ds:List D}{vs:List V}{σ:L2.St}{ρ:Ev},dD K He η Ha σ H ρ->Reps K Ha ds vs->dD K He η Ha (A1 σ is vs) H (eZ ρ is ds)
 |[],_,_,_,_,h,_=>by unfold A1 eZ;exact h
 |_::_,[],_,_,_,h,r=>by rw[Reps.nil_iff.mp r];unfold A1 eZ;exact h
 |i::is,d::ds,_,_,_,h,r=>by
  obtain⟨v,vs,rfl,h1,h2⟩:=aJ.mp r;unfold A1 eZ;exact dD.putAll (h.put h1) h2
section
variable {X:Cx}{E:XK}{He η:Hp}{e a b:Vk}{es:List Vk}{f g:Ev->aj D}{fa:Ev->aj (List D)}{pos:Pos}{is:List Nat}
def Ox(is:List Nat):OU:=λvs σ H Q=>vs.length=is.length/\Q (A1 σ is vs) H
def zh(h:Fv X es t)(w:∀vs σ H Q,t' vs σ H Q->t vs σ H Q):Fv X es t':=λπ s σ H vs us Q I r q=>h π s σ H vs us Q I r (w vs σ H Q q)
def gU:Fv X [] (Ox []):=zh Kc λvs σ H Q z9=>by
 obtain⟨h,q⟩:=z9;have e:vs=[]:=VX.mp h;subst e;exact⟨rfl,q⟩
def bW(hN:X.N.Nodup)(hi:X.N[i]?=some x)(hx:Fx X.env.scope x)(h:Fv X es (Ox is))(hf:X.fn x=true∨X.env.scope.names.lookup x=some .local := by first|exact .inl rfl|exact .inr rfl|assumption)
  (hs:(assignEach (.Name x p::es) X.env).map (·.2)=assign (.Name x p) X.env::(assignEach es X.env).map (·.2):=by rfl):Fv X (.Name x p::es) (Ox (i::is)) :=
 zh (GS (Cz hN hi hx hf) h hs) λvs σ H Q z9=>by
  obtain⟨h,q⟩:=z9;cases vs with|nil=>simp at h|cons v vs=>exact⟨v,vs,rfl,by simpa using h,q⟩
def Ke{k:Nat}(hc:X.calm=true)(h:Fv X es t)
  (hn:(assignEach es X.env).length=n:=by rfl)(hst:(assignEach es X.env).findIdx? (·.1)=none:=by rfl):PG X (.Tuple es k pos) (λv σ H Q=>∃a xs,v=.ref a/\eX X.K H a xs/\xs.length=n/\t xs σ H Q):=by
 intro π s σ H v u Q I r hw;obtain⟨a,xs,e1,hq,hl,hw⟩:=hw;subst e1;cases r;obtain⟨its,rv,ht,hz⟩:=I.list hq;rw[assign_Tuple];refine Uu (wpAny_standAt ?_);unfold unpack;rw[hn,hst];have hsz:n=its.toArray.size:=by rw[UP,←rv.length,hl]
 rw[hsz];refine Uu (V1 (oO (I.ok.hd hc) ht.isList λh' hx=>?_));have I1:Inv X π σ H { s with heap:=h' }:=I.kept (t':=s.toks) λb o e=>hx b o (Vf (UT e)) e;exact h π _ σ H xs _ Q I1 (by simpa using rv) hw
def PX(h:PG X tgt t)(h':PG X tgt t'):PG X tgt (λv σ H Q=>t v σ H Q∨t' v σ H Q):=λπ s σ H v u Q I r q=>q.elim (h π s σ H v u Q I r) (h' π s σ H v u Q I r)
def GV{k:Nat}(hc:X.calm=true)(h:Fv X es (Ox is))(hn:(assignEach es X.env).length=is.length:=by rfl)(hst:(assignEach es X.env).findIdx? (·.1)=none:=by rfl) :
  PG X (.Tuple es k pos) (λv σ H Q=>∃a xs,v=.ref a/\(kn X.K H a xs∨eX X.K H a xs)/\xs.length=is.length/\Q (A1 σ is xs) H) :=
 xg (PX (M0 hc h hn hst) (Ke hc h hn hst)) λv σ H Q ⟨a,xs,e,hq,hl,q⟩=>hq.elim (λz=>.inl ⟨a,xs,e,z,hl,hl,q⟩) λz=>.inr ⟨a,xs,e,z,hl,hl,q⟩
noncomputable def gi(n:Nat) (d:D):Option (List D):=match d with
 |.tup ds=>if ds.length=n then some ds else none
 |.lst ds=>if ds.length=n then some ds else none
 |_=>none
def pK{K:Ut}(h:gi n d=some ds)(r:Rep K H d v):∃a vs,v=.ref a/\(kn K H a vs∨eX K H a vs)/\vs.length=n/\Reps K H ds vs:=by
 unfold gi at h;cases d with
 |tup es =>
  by_cases c:es.length=n
  .simp only[if_pos c] at h;cases h
   obtain⟨a,vs,rfl,h1,h2⟩:=aN.mp r;exact⟨a,vs,rfl,.inl h1,by rw[←h2.length];exact c,h2⟩
  .simp only[if_neg c] at h;cases h
 |lst es =>
  by_cases c:es.length=n
  .simp only[if_pos c] at h;cases h
   obtain⟨a,vs,rfl,h1,h2⟩:=aI.mp r;exact⟨a,vs,rfl,.inr h1,by rw[←h2.length];exact c,h2⟩
  .simp only[if_neg c] at h;cases h
 |_=>cases h
def yS{K:Ut}{a:Uw}(hs:aG H H')(h:kn K H a vs∨eX K H a vs):kn K H' a vs∨eX K H' a vs:=h.elim (λz=>.inl (aG.sqT hs z)) λz=>.inr (aG.sqL hs z)
noncomputable def ML(is:List Nat) (f:Ev->aj D):Ev->aj Fl:=λρ=>(f ρ).bind λd=>match gi is.length d with
 |some ds=>.ok (.nx (eZ ρ is ds))
 |none=>.stuck
def NH{k:Nat}(hc:X.calm=true)(he:DE X E e f)(h:Fv X es (Ox is))(hs:swapsWithSole [.Tuple es k tp] e pos.line X.env=pure false:=by rfl)(hw:swappedStores [.Tuple es k tp] e X.env=pure none:=by rfl)
  (h1:(assignEach [.Tuple es k tp] X.env).map (·.2)=[assign (.Tuple es k tp) X.env]:=by rfl)(hn:(assignEach es X.env).length=is.length:=by rfl)(hst:(assignEach es X.env).findIdx? (·.1)=none:=by rfl) :
  DS X E He η (.Assign [.Tuple es k tp] e pos) (ML is f):=by
 refine⟨?_⟩;refine bN (A5 he.o (GV hc h hn hst) hs hw h1) λD σ H z9=>?_;obtain⟨Ha,ρ,h,q⟩:=z9;refine⟨Ha,ρ,h.g.sub,h.rd,?_⟩
 refine plain (k:=λd=>match gi is.length d with
  |some ds=>.ok (.nx (eZ ρ is ds))
  |none=>.stuck) h q λd v H' Ha' _ g rp q'=>?_
 cases e1:gi is.length d with
 |none=>rw[e1] at q';exact q'.elim
 |some ds =>
  rw[e1] at q';obtain⟨a,vs,rfl,k1,k2,k3⟩:=pK e1 rp;exact⟨a,vs,rfl,yS g.sub k1,k2,q' _ H' Ha' (aG.refl _) ((h.grow g).putAll k3)⟩
noncomputable def i9(is:List Nat):Ev->D->aj Ev:=λρ d=>match gi is.length d with
 |some ds=>.ok (eZ ρ is ds)
 |none=>.stuck
def fg:wI (i9 is):=λρ d=>by
 unfold i9;cases gi is.length d with|none=>exact .inl rfl|some ds=>exact .inr ⟨_,rfl⟩
def lj{k:Nat}(hc:X.calm=true)(h:Fv X es (Ox is))(hn:(assignEach es X.env).length=is.length:=by rfl)(hst:(assignEach es X.env).findIdx? (·.1)=none:=by rfl):DG X E He η (.Tuple es k pos) (i9 is) :=
 ⟨xg (GV hc h hn hst) λv σ H Q z9=>by
  obtain⟨Ha,ρ,d,h,rp,q⟩:=z9;unfold i9 at q;cases e1:gi is.length d with
  |none=>rw[e1] at q;exact q.elim
  |some ds =>
   rw[e1] at q;obtain⟨a,vs,rfl,k1,k2,k3⟩:=pK e1 rp;exact⟨a,vs,rfl,yS h.g.sub k1,k2,q _ H Ha (aG.refl _) (h.putAll k3)⟩⟩
noncomputable def vv(i j:Nat) (fa:Ev->aj (List D)):Ev->aj Fl:=λρ=>(fa ρ).bind λds=>match ds with
 |[x,y]=>.ok (.nx ((ρ.set i (.sh x)).set j (.sh y)))
 |_=>.stuck
def NK{px py pt pt2:Pos}{kt k2}(hc:X.calm=true)(hN:X.N.Nodup)(hi:X.N[i]?=some x)(hj:X.N[j]?=some y)(hij:i≠j)
  (hx:X.env.scope.names.lookup x=some .local)(hy:X.env.scope.names.lookup y=some .local)(ha:DA X E [a,b] fa)
  (hw:swappedStores [.Tuple [.Name x px,.Name y py] kt pt] (.Tuple [a,b] k2 pt2) X.env=pure (some [x,y]))
  (hs:swapsWithSole [.Tuple [.Name x px,.Name y py] kt pt] (.Tuple [a,b] k2 pt2) pos.line X.env=pure false:=by rfl) :
  DS X E He η (.Assign [.Tuple [.Name x px,.Name y py] kt pt] (.Tuple [a,b] k2 pt2) pos) (vv i j fa):=by
 refine⟨?_⟩;refine bN (MY hc hN hi hj hij hx hy ha.o hw hs) λD σ H z9=>?_;obtain⟨Ha,ρ,h,q⟩:=z9;refine⟨Ha,ρ,h.g.sub,h.rd,?_⟩
 unfold vv at q;cases e1:fa ρ with
 |stuck=>rw[e1] at q;exact q|exn x=>rw[e1] at q;exact λC ox H' Ha' g ex=>q C ox H' Ha' (h.g.trans g) ex
 |ok ds =>
  rw[e1] at q;intro vs H1 H01 g1 r1
  match ds,r1,q with
  |[x,y],r1,q =>
   obtain⟨v,r',rfl,h1,h2⟩:=aJ.mp r1;obtain⟨u,r'',rfl,h3,h4⟩:=aJ.mp h2;rw[Reps.nil_iff.mp h4];exact⟨v,u,rfl,q _ H1 H01 g1.z (((h.grow g1).put h1).put h3)⟩
  |[],_,q=>exact q.elim
  |[_],_,q=>exact q.elim
  |_::_::_::_,_,q=>exact q.elim
end
def Bt{K:Ut}:qm K "int":=by
 intro S hS;simp only[UG,WO,or_false] at hS;rcases hS with rfl|rfl|rfl|rfl|rfl|rfl|rfl<;>first|rfl|decide +kernel
def zK{K:Ut}:qm K "bool":=by
 intro S hS;simp only[UG,WO,or_false] at hS;rcases hS with rfl|rfl|rfl|rfl|rfl|rfl|rfl<;>first|rfl|decide +kernel
def sW{K:Ut}:qm K "str":=by
 intro S hS;simp only[UG,WO,or_false] at hS;rcases hS with rfl|rfl|rfl|rfl|rfl|rfl|rfl<;>first|rfl|decide +kernel
def jV{K:Ut}:qm K "tuple":=by
 intro S hS;simp only[UG,WO,or_false] at hS;rcases hS with rfl|rfl|rfl|rfl|rfl|rfl|rfl<;>first|rfl|decide +kernel
def iU{K:Ut}:qm K "list":=by
 intro S hS;simp only[UG,WO,or_false] at hS;rcases hS with rfl|rfl|rfl|rfl|rfl|rfl|rfl<;>first|rfl|decide +kernel
def zJ{K:Ut}:qm K "dict":=by
 intro S hS;simp only[UG,WO,or_false] at hS;rcases hS with rfl|rfl|rfl|rfl|rfl|rfl|rfl<;>first|rfl|decide +kernel
section
variable {X:Cx}{E:XK}{He η:Hp}{e a b c:Vk}{f g h:Ev->aj D}{pos:Pos}
def dv(i:Nat)(hN:X.N[i]?=some x:=by rfl)(hv:AH X.env.scope x:=by first|exact UD rfl|exact YF (UD rfl)|exact YF (YF rfl))(hd:(x==("__debug__" : US))=false:=by decide)
  (hcd:(x==("__classdict__" : US))=false:=by decide):DE X E (.Name x pos) (af i):=NP hN hv hd hcd
noncomputable def wM(K:Ut) (mg:US->Option Us) (x:US) (d:D):Prop:=∃v u,mg x=some u/\bF v u/\∀H,Rep K H d v
def bf(k:wM X.K X.mg x d)(hg:Gl X x)(hd:(x==("__debug__" : US))=false:=by decide):DE X E (.Name x pos) (dC d):=by
 obtain⟨v,u,h1,h2,h3⟩:=k;exact K7 hg h1 h2 h3 hd
def eL{K:Ut}(h:mg x=some (.int i t)):wM K mg x (.int i):=⟨.int i,_,h,⟨t,rfl⟩,λ_=>ri _⟩
def KG{K:Ut}(h:mg x=some (.str i t)):wM K mg x (.str i):=⟨.str i,_,h,⟨t,rfl⟩,λ_=>Rep.str_iff.mpr rfl⟩
def C2{K:Ut}{a:Uw}(h:mg x=some (.ref a))(l:K.lookup a=some ⟨.type "tuple",od,.seq its n,sl⟩)
  (hv:bE vs its.toList)(hz:its.size<=sizeLine)(hd:∀H,Reps K H ds vs):wM K mg x (.tup ds):=⟨.ref a,_,h,rfl,λH=>aN.mpr ⟨a,vs,rfl,.inr ⟨_,its,n,l,rfl,rfl,hz,hv⟩,hd H⟩⟩
noncomputable def iG(op op':D->D->aj D) (f g h:Ev->aj D):Ev->aj D:=λρ=>(f ρ).bind λx=>(g ρ).bind λy=>(op x y).bind λz=>match z with
 |.bl true=>(h ρ).bind λw=>op' y w
 |.bl false=>.ok (.bl false)
 |_=>.stuck
noncomputable def vm(r:R2) (o:D->D->aj D):Prop:=∀(K:Ut) (x y:D) (v u:V) (H Ha:Hp) (Q:VK) (d:D),aG Ha H->Rep K Ha x v->Rep K Ha y u->o x y=.ok d->(∀w,Rep K Ha d w->Q w H)->r v u H Q
def g9{g:Int->Int->D}(hg:∀K H i j,Rep K H (g i j) (gv i j)):vm (Jg gv) (zO (λ_ _=>true) g):=by
 intro K x y v u H Ha Q d hs r1 r2 e q;unfold zO at e;cases x with
 |int i =>
  cases y with|int j=>simp only[if_pos] at e;cases e;exact⟨i,j,aC.mp r1,aC.mp r2,q _ (hg _ _ i j)⟩| _=>cases e
 |_=>cases e
def vn(o:D->D->aj D):Prop:=∀x y,∀z,o x y≠.exn z
def qe(p:vm r o)(p':vm r' o')(n:vn o)(n':vn o')(σ:L2.St)(H:Hp)(Q:VK)(q:tD X.K E (iG o o' f g h) σ H Q) :
  AY r r' (tD X.K E f) (tD X.K E g) (tD X.K E h) σ H Q:=by
 obtain⟨Ha,ρ,hs,hr,q⟩:=q;refine⟨Ha,ρ,hs,hr,?_⟩;unfold iG at q;cases e1:f ρ with
 |stuck|exn x=>rw[e1] at q;exact q
 |ok x =>
  rw[e1] at q;intro v H1 H01 g1 r1;refine⟨H01,ρ,g1.sub,hr.mono g1.z,?_⟩;replace q:=post.grow (r:=(g ρ).bind λy=>(o x y).bind λz=>match z with
   |.bl true=>(h ρ).bind λw=>o' y w
   |.bl false=>.ok (.bl false)
   |_=>.stuck) q g1
  cases e2:g ρ with
  |stuck|exn x=>rw[e2] at q;exact q
  |ok y =>
   rw[e2] at q;intro u H2 H02 g2 r2;replace q:=post.grow (r:=(o x y).bind λz=>match z with
    |.bl true=>(h ρ).bind λw=>o' y w
    |.bl false=>.ok (.bl false)
    |_=>.stuck) q g2
   cases e3:o x y with
   |stuck=>rw[e3] at q;exact q.elim|exn z=>exact absurd e3 (n x y z)
   |ok z =>
    rw[e3] at q;refine p X.K x y v u H2 H02 _ z g2.sub (r1.mono g2.z) r2 e3 λw rw'=>?_;cases z with
    |bl b =>
     rw[aK.mp rw'];refine⟨b,rfl,?_⟩;cases b with
     |false=>rw[if_neg VC];exact q _ H2 H02 (bB.refl g2.sub) (rb _)
     |true =>
      rw[if_pos rfl];refine⟨H02,ρ,g2.sub,(hr.mono g1.z).mono g2.z,?_⟩;replace q:post X.K E H2 H02 ((h ρ).bind λw=>o' y w) Q:=q;cases e4:h ρ with
      |stuck|exn x=>rw[e4] at q;exact q
      |ok w2 =>
       rw[e4] at q;intro v3 H3 H03 g3 r3;replace q:=post.grow (r:=o' y w2) q g3;cases e5:o' y w2 with
       |stuck=>rw[e5] at q;exact q.elim|exn z=>exact absurd e5 (n' y w2 z)
       |ok d =>
        rw[e5] at q;exact p' X.K y w2 u v3 H3 H03 Q d g3.sub (r2.mono g3.z) r3 e5 λw3 r5=>q w3 H3 H03 (bB.refl g3.sub) r5
    |_=>exact q.elim
def Ir(ho:eQ X (Vj op) r)(ho':eQ X (Vj op') r')(p:vm r o)(p':vm r' o')(n:vn o)(n':vn o')(ha:DE X E a f)(hb:DE X E b g)(hc:DE X E c h)
  (hm:lastMarks [op,op'] [b,c]=false:=by with_unfolding_all rfl):DE X E (.Compare a [op,op'] [b,c] pos) (iG o o' f g h):=⟨aZ (GZ ho ho' ha.o hb.o hc.o hm) (qe p p' n n')⟩
def Ar(ho:eQ X (Vj op) r)(ho':eQ X (Vj op') r')(p:vm r o)(p':vm r' o')(n:vn o)(n':vn o')(ha:DE X E a f)(hb:DE X E b g)(hc:DE X E c h)
  (hm:lastMarks [op,op'] [b,c]=false:=by with_unfolding_all rfl):DT X E (.Compare a [op,op'] [b,c] pos) (iG o o' f g h):=by
 refine⟨?_⟩;refine gQ (GN ho ho' ha.o hb.o hc.o hm) λσ H Q q=>?_;have w:tD X.K E (iG o o' f g h) σ H λx H'=>∃k,x=.bl k/\Q k H':=by
  obtain⟨Ha,ρ,hs,hr,q⟩:=q;refine⟨Ha,ρ,hs,hr,?_⟩;cases e1:iG o o' f g h ρ with
  |stuck|exn x=>rw[e1] at q;exact q
  |ok d =>
   rw[e1] at q;intro v H1 H01 g1 r1;cases d with|bl b=>rw[aK.mp r1];exact⟨b,rfl,q H1 H01 g1⟩| _=>exact q.elim
 exact qe p p' n n' σ H _ w
def ia{c:Int->Int->Bool}{g:Int->Int->D}:vn (zO c g):=by
 intro x y z;unfold zO;cases x<;>cases y<;>simp<;>split<;>simp
end
noncomputable def lM(i:Nat):Ev->Nat:=λρ=>match ρ[i]? with
 |some (.sh (.int j))=>j.natAbs+1
 |_=>0
section
variable {X:Cx}{E:XK}{a b:Vk}{f g:Ev->aj D}{pos:Pos}
noncomputable def dy(x y:D):aj D:=match x,y with
 |.int i,.int j=>if fF i j=true then .ok (.int (i*j)) else .stuck
 |_,_=>.stuck
def fK(ha:DE X E a f)(hb:DE X E b g):DE X E (.BinOp a .Mult b pos) (ag f g dy):=uQ Kj (by
 intro x y v u H Ha Q hs r1 r2 q;unfold dy at q;cases x with
 |int i =>
  cases y with
  |int j =>
   by_cases h:fF i j=true
   .simp only[if_pos h] at q
    exact⟨i,j,aC.mp r1,aC.mp r2,fF.ok h,bg hs q (ri _)⟩
   .simp only[if_neg h] at q;exact q.elim
  |_=>exact q.elim
 |_=>exact q.elim) ha hb
end
noncomputable def NA(K:Ut) (tg:Ev->D->aj Ev):TG:=λv σ H Q=>∃He η,tG K He η tg v σ H Q
theorem Reps.rep{K:Ut}(h:Reps K H ds vs):∀k:Nat,Reps K H (UK k ds).flatten (UK k vs).flatten
 |0=>by simp;exact Reps.nil
 |k+1=>by
  rw[Vx,Vx,WD,WD];exact h.app (Reps.rep h k)
section
variable {X:Cx}{E:XK}{a b:Vk}{f g:Ev->aj D}{pos:Pos}
noncomputable def Ax(x y:D):aj D:=match x,y with
 |.lst ds,.int k=>if ds.length*k.toNat<=line/\-9223372036854775808<=k/\k<9223372036854775808 then .ok (.lst (UK k.toNat ds).flatten) else .stuck
 |_,_=>.stuck
noncomputable def JZ(f g:Ev->aj D):Ev->aj D:=λρ=>(f ρ).bind λx=>match x with
 |.lst ds=>(g ρ).bind λy=>Ax (.lst ds) y
 |_=>.stuck
def NR(ha:DF X E a f)(hb:DE X E b g):DE X E (.BinOp a .Mult b pos) (JZ f g):=by
 refine⟨?_⟩;refine aZ (GW Nb ha.o hb.o) λσ H Q z9=>?_;obtain⟨Ha,ρ,hs,hr,q⟩:=z9;refine⟨Ha,ρ,hs,hr,?_⟩
 unfold JZ at q;cases e1:f ρ with
 |stuck|exn x=>rw[e1] at q;exact q
 |ok x =>
  rw[e1] at q;cases x with
  |lst ds =>
   replace q:post X.K E H Ha ((g ρ).bind λy=>Ax (.lst ds) y) Q:=q;intro p vs H1 H01 g1 hp h0 hv rp;refine⟨H01,ρ,g1.sub,hr.mono g1.z,?_⟩;replace q:=q.grow g1;cases e2:g ρ with
   |stuck|exn x=>rw[e2] at q;exact q
   |ok y =>
    rw[e2] at q;intro u H2 H02 g2 r2;replace q:=post.grow (r:=Ax (.lst ds) y) q g2;cases y with
    |int k =>
     unfold Ax at q
     by_cases c:ds.length*k.toNat<=line/\-9223372036854775808<=k/\k<9223372036854775808
     .simp only[if_pos c] at q
      refine⟨p,k,vs,rfl,aC.mp r2,g2.s _ _ hv,by omega,by omega,by rw[←rp.length];exact cG c.1,λn hn=>?_⟩;exact q _ _ _ (aO g2.sub hn) (aI.mpr ⟨n,_,rfl,eX.of aB,((rp.mono g2.z).rep _).mono (aO g2.sub hn).z⟩)
     .simp only[if_neg c] at q;exact q.elim
    |_=>exact q.elim
  |_=>exact q.elim
noncomputable def mK(x:D):aj D:=match x with
 |.lst ds=>.ok (.tup ds)
 |.tup ds=>.ok (.tup ds)
 |_=>.stuck
def u5:gF X E (λxs H Q=>∃p ys,xs=[.ref p]/\((eX X.K H p ys/\∀l,H l=none->Q (.ref l) (upd H l (.tup ys)))∨(kn X.K H p ys/\Q (.ref p) H))) (m1 mK):=qf λx v H Ha Q hs r q=>by
 cases x with
 |lst ds =>
  obtain⟨p,vs,rfl,h1,h2⟩:=aI.mp r;exact⟨p,vs,rfl,.inl ⟨aG.sqL hs h1,λn hn=>q _ _ _ (aO hs hn) (aN.mpr ⟨n,_,rfl,kn.of aB,h2.mono (aO hs hn).z⟩)⟩⟩
 |tup ds =>
  obtain⟨p,vs,e,h1,h2⟩:=aN.mp r;subst e;exact⟨p,vs,rfl,.inr ⟨aG.sqT hs h1,bg hs q r⟩⟩
 |_=>exact q.elim
end
noncomputable def i8:List D->Option (List US)
 |[]=>some []
 |.str x::r=>(i8 r).map (x::·)
 |_=>none
theorem yP{K:Ut}{H:Hp}:∀{ds:List D}{ys:List US}{vs:List V}{us:List Us},i8 ds=some ys->Reps K H ds vs->bE vs us->StrsAre us ys
 |[],ys,vs,us,h,r,q=>by
  cases h;rw[Reps.nil_iff.mp r] at q;cases q;exact .nil
 |d::ds,ys,vs,us,h,r,q=>by
  obtain⟨v,r',rfl,h1,h2⟩:=aJ.mp r;cases q with
  |cons q1 q2 =>
   cases d with
   |str x =>
    unfold i8 at h;cases e:i8 ds with
    |none=>rw[e] at h;cases h
    |some zs =>
     rw[e] at h;cases h;rw[Rep.str_iff.mp h1] at q1;obtain⟨t,rfl⟩:=q1;exact .cons _ _ (yP e h2 q2)
   |_=>cases h
section
variable {X:Cx}{E:XK}{o e:Vk}{fo:Ev->aj D}{fa:Ev->aj (List D)}
noncomputable def iV(z:US) (ys:List US):Bool:=decide (z.length<=16)&&decide ((ys.map (·.length)).sum+ys.length<=1048576)
noncomputable def Pw(K:Ut):V->List V->Hp->VK->Prop:=λx xs H Q=>∃z p ds ys,x=.str z/\xs=[.ref p]/\Rep K H (.lst ds) (.ref p)/\i8 ds=some ys/\iV z ys=true/\Q (.str (YE z ys)) H
def Kv:TJ X "str.join" (Pw X.K):=by
 intro π s σ H x xs v us Q I rx rs h;obtain⟨z,p,ds,ys,rfl,rfl,hr,hy,hf,q⟩:=h;obtain⟨t,rfl⟩:=rx;obtain⟨u,rfl,ru⟩:=rs.one;obtain⟨a,vs,its,ea,rfl,h1,h2,h3,h4,_⟩:=bu I hr ru;unfold iV at hf;rw[U4] at hf;exact join_listW h4 (by simpa using yP hy h2 h3) (of_decide_eq_true hf.1) (of_decide_eq_true hf.2) λt' k=>⟨.str (YE z ys),H,I.tok _,⟨_,rfl⟩,q⟩
noncomputable def ng(z:US) (xs:List D):aj D:=match xs with
 |[.lst ds]=>match i8 ds with
  |some ys=>if iV z ys=true then .ok (.str (YE z ys)) else .stuck
  |none=>.stuck
 |_=>.stuck
noncomputable def wj(fo:Ev->aj D) (fa:Ev->aj (List D)):Ev->aj D:=λρ=>(fo ρ).bind λx=>match x with
 |.str z=>(fa ρ).bind λxs=>ng z xs
 |_=>.stuck
def K5(ho:DE X E o fo)(ha:DA X E [e] fa)
  (hbase:WU o "join" X.env (eval o X.env)=eval o X.env:=by rfl)
  (hfew:((VA cpos (Uy [e] X.env)).all (λx=>!x.1)&&(XU cpos (W5 [] X.env)).all (λx=>x.1.isSome)
  &&decide ([e].length+([]:List Xs).length+(if([]:List Xs).isEmpty then 0 else 1)<30))=true:=by exact tL rfl)
  (hline:(apos.endLine==cpos.line)=true:=by rfl) (hs:Uy [e] X.env=(false,eval e X.env)::Uy [] X.env:=by exact aV rfl) (hplain:(VA cpos (Uy [] X.env)).any (·.1)=false:=by exact bL rfl) :
  DE X E (.Call (.Attribute o "join" apos) [e] [] cpos) (wj fo fa):=by
 refine⟨?_⟩;refine aZ (G0 PySem.F.plainAttrs_str PySem.F.slot_str_join PySem.F.type_str_join Kv ho.o ha.o hbase hfew hline hs hplain) λσ H Q z9=>?_;obtain⟨Ha,ρ,hs,hr,q⟩:=z9;refine⟨Ha,ρ,hs,hr,?_⟩
 unfold wj at q;cases e1:fo ρ with
 |stuck|exn x=>rw[e1] at q;exact q
 |ok x =>
  rw[e1] at q;intro v H1 H01 g1 r1;cases x with
  |str z =>
   rw[Rep.str_iff.mp r1];refine⟨rfl,H01,ρ,g1.sub,hr.mono g1.z,?_⟩;replace q:=post.grow (r:=(fa ρ).bind λxs=>ng z xs) q g1;cases e2:fa ρ with
   |stuck|exn x=>rw[e2] at q;exact q
   |ok xs =>
    rw[e2] at q;intro us H2 H02 g2 r2;replace q:=post.grow (r:=ng z xs) q g2;unfold ng at q
    match xs,r2,q with
    |[.lst ds],r2,q =>
     obtain⟨w,r',rfl,k1,k2⟩:=aJ.mp r2;rw[Reps.nil_iff.mp k2];obtain⟨p,vs,rfl,k3,k4⟩:=aI.mp k1;cases e3:i8 ds with
     |none=>simp only[e3] at q;exact q.elim
     |some ys =>
      simp only[e3] at q
      by_cases c:iV z ys=true
      .rw[if_pos c] at q
       exact⟨z,p,ds,ys,rfl,rfl,k1.mono g2.sub,e3,c,bg g2.sub q (Rep.str_iff.mpr rfl)⟩
      .rw[if_neg c] at q;exact q.elim
    |[],_,q=>exact q.elim
    |d1::_::_,_,q=>cases d1<;>exact VI q
    |[.non],_,q=>exact q.elim
    |[.bl _],_,q=>exact q.elim
    |[.int _],_,q=>exact q.elim
    |[.str _],_,q=>exact q.elim
    |[.tup _],_,q=>exact q.elim
    |[.dic _ _],_,q=>exact q.elim
    |[.exc _],_,q=>exact q.elim
    |[.ob _ _],_,q=>exact q.elim
  |_=>exact q.elim
end
section
variable {X:Cx}{E:XK}{a:Vk}{f:Ev->aj D}{pos:Pos}
noncomputable def Sn:V->Option Int->Option Int->Hp->VK->Prop:=λx lo hi H Q=>∃z,x=.str z/\z.length<=sizeLine/\Q (.str (YT z lo hi)) H
def MC:Jk X Sn:=by
 intro π s σ H x v vl vu lo hi sl Q I rx hs pl pu h;obtain⟨z,rfl,hz,q⟩:=h;obtain⟨t,rfl⟩:=rx;have fin:∀t' k,EP X π σ Q (.str (YT z lo hi) t') { s with toks:=k }:=λt' k=>⟨.str (YT z lo hi),H,I.tok _,⟨_,rfl⟩,q⟩
 refine⟨"str",_,PySem.F.slot_str_getitem.lookup,typeIs_str s z t,?_⟩;cases pl with
 |none =>
  cases pu with|none=>exact wpAny_getItem_str_slice (l:=none) (u:=none) (st:=none) hs rfl (post_val_or_str ⟨Va (Ym z _ _) hz,fin⟩)|int j uj=>exact wpAny_getItem_str_slice (l:=none) (u:=some (j,uj)) (st:=none) hs rfl (post_val_or_str ⟨Va (Ym z _ _) hz,fin⟩)
 |int i ui =>
  cases pu with|none=>exact wpAny_getItem_str_slice (l:=some (i,ui)) (u:=none) (st:=none) hs rfl (post_val_or_str ⟨Va (Ym z _ _) hz,fin⟩)|int j uj=>exact wpAny_getItem_str_slice (l:=some (i,ui)) (u:=some (j,uj)) (st:=none) hs rfl (post_val_or_str ⟨Va (Ym z _ _) hz,fin⟩)
noncomputable def rT(x:D) (l h:Option Int):aj D:=match x with
 |.lst ds=>.ok (.lst (eP ds l h))
 |.str z=>if z.length<=line then .ok (.str (YT z l h)) else .stuck
 |.tup ds=>if HT.sIx ds.length 0 l=0/\HT.sIx ds.length ds.length h=ds.length then .stuck else .ok (.tup (eP ds l h))
 |_=>.stuck
noncomputable def lp(f:Ev->aj D) (lo hi:Ev->aj (Option Int)):Ev->aj D:=λρ=>(f ρ).bind λx=>(lo ρ).bind λl=>(hi ρ).bind λh=>rT x l h
def c6{lo hi:Option Vk}(ha:DE X E a f)(hl:DO X E lo fl)(hh:DO X E hi fh):DE X E (.Subscript a (.Slice lo hi none p2) pos) (lp f fl fh) :=
 ⟨aZ (zi (Jk.or Cm (Jk.or MC MB)) ha.o hl.o hh.o) (yQ (m:=rT) λx v l h H Ha Q hs r q=>by
  cases x with
  |lst ds =>
   obtain⟨p,vs,rfl,h1,h2⟩:=aI.mp r;exact .inl ⟨p,vs,rfl,aG.sqL hs h1,λn hn=>q _ _ _ (aO hs hn) (aI.mpr ⟨n,_,rfl,eX.of aB,(h2.cut l h).mono (aO hs hn).z⟩)⟩
  |str z =>
   unfold rT at q
   by_cases c:z.length<=line
   .simp only[if_pos c] at q
    exact .inr (.inl ⟨z,Rep.str_iff.mp r,cG c,bg hs q (Rep.str_iff.mpr rfl)⟩)
   .simp only[if_neg c] at q;exact q.elim
  |tup ds =>
   unfold rT at q
   by_cases c:HT.sIx ds.length 0 l=0/\HT.sIx ds.length ds.length h=ds.length
   .simp only[if_pos c] at q;exact q.elim
   .simp only[if_neg c] at q
    obtain⟨p,vs,rfl,h1,h2⟩:=aN.mp r;exact .inr (.inr ⟨p,vs,rfl,aG.sqT hs h1,by rw[←h2.length];exact c,λn hn=>q _ _ _ (aO hs hn) (aN.mpr ⟨n,_,rfl,kn.of aB,(h2.cut l h).mono (aO hs hn).z⟩)⟩)
  |_=>exact q.elim)⟩
end
noncomputable def S9(z:US):It:=⟨λi _=>i<z.cps.size,λi H x H'=>H'=H/\∃c,z.cps[i]?=some c/\x=.str ⟨#[c]⟩,λi _=>z.cps.size<=i⟩
def AW{P:Vq}{w:VL}{K:Ut}{tg:Vk}(z:US)(t:Tok)(it:Uw):Fu P w K tg (S9 z) [it] it (λi h=>h.IsStrIter it "str_ascii_iterator" z t i) where
 mem:=by simp
 obj:=λi h st b hb=>by
  have e:b=it:=by simpa using hb
  subst e;obtain⟨o,e,c,d⟩:=st;exact⟨o,e,λv z=>by rw[d] at z;cases z⟩
 keep:=λi h h' st k=>let ⟨o,ho,r⟩:=st;⟨o,k it (by simp) o ho,r⟩
 item:=by
  intro X hP hw hK hc i π s σ H E I hf st hg;subst hP hw hK;have hg':i<z.cps.size:=hg;obtain⟨f0,f1,f2,f3,f4,f5⟩:=hf it (by simp);refine wpAny_pyNext_ascii_item st (c:=z.cps[i]) (by simp [hg']) λh' st' sb=>?_;have I1:Inv X π σ H { s with heap:=h',toks:=s.toks+1 }:=I.turned (t':=s.toks+1) (λb o hb e=>(sb.2 b hb).trans e) f0 f1 f3 f4 f5;obtain⟨o,e,c,d⟩:=id st';exact⟨_,rfl,Dd (s:={ s with heap:=h',toks:=s.toks+1 }) e c d (by decide) ⟨.str ⟨#[z.cps[i]]⟩,H,I1,⟨_,rfl⟩,⟨rfl,_,by simp [hg'],rfl⟩,st',λb hb=>(hf b hb).1⟩⟩
 done:=by
  intro X hP hw hK hc i π s σ H E I hf st hg;subst hP hw hK;have hg':z.cps.size<=i:=hg;obtain⟨f0,f1,f2,f3,f4,f5⟩:=hf it (by simp);exact wpAny_pyNext_ascii_end (I.ok.hd hc) st (by simp [hg']) λh' eb=>⟨rfl,I.turned (t':=s.toks) (λb o hb e=>eb b o hb e) f0 f1 f3 f4 f5⟩
 self:=λ_ _ _ _ _ st h=>wpAny_pyIter_striter_ascii st h
def Ek{P:Vq}{w:VL}{K:Ut}{tg:Vk}(z:US)(t:Tok)(it:Uw):Fu P w K tg (S9 z) [it] it (λi h=>h.IsStrIter it "str_iterator" z t i) where
 mem:=by simp
 obj:=λi h st b hb=>by
  have e:b=it:=by simpa using hb
  subst e;obtain⟨o,e,c,d⟩:=st;exact⟨o,e,λv z=>by rw[d] at z;cases z⟩
 keep:=λi h h' st k=>let ⟨o,ho,r⟩:=st;⟨o,k it (by simp) o ho,r⟩
 item:=by
  intro X hP hw hK hc i π s σ H E I hf st hg;subst hP hw hK;have hg':i<z.cps.size:=hg;obtain⟨f0,f1,f2,f3,f4,f5⟩:=hf it (by simp);refine wpAny_pyNext_wide_item st (c:=z.cps[i]) (by simp [hg']) λh' st' sb=>?_;have I1:Inv X π σ H { s with heap:=h',toks:=s.toks+1 }:=I.turned (t':=s.toks+1) (λb o hb e=>(sb.2 b hb).trans e) f0 f1 f3 f4 f5;obtain⟨o,e,c,d⟩:=id st';exact⟨_,rfl,Dd (s:={ s with heap:=h',toks:=s.toks+1 }) e c d (by decide) ⟨.str ⟨#[z.cps[i]]⟩,H,I1,⟨_,rfl⟩,⟨rfl,_,by simp [hg'],rfl⟩,st',λb hb=>(hf b hb).1⟩⟩
 done:=by
  intro X hP hw hK hc i π s σ H E I hf st hg;subst hP hw hK;have hg':z.cps.size<=i:=hg;obtain⟨f0,f1,f2,f3,f4,f5⟩:=hf it (by simp);exact wpAny_pyNext_wide_end (I.ok.hd hc) st (by simp [hg']) λh' eb=>⟨rfl,I.turned (t':=s.toks) (λb o hb e=>eb b o hb e) f0 f1 f3 f4 f5⟩
 self:=λ_ _ _ _ _ st h=>wpAny_pyIter_striter_wide st h
def Sz(tl:TE):TI:=λσ H R=>tl σ H λx H1=>∃z,x=.str z/\R (S9 z) H1
def MZ(hl:PE X l tl):PI X tg l (Sz tl):=by
 intro π s σ H R I h;refine cH (hl π s σ H _ I h) λv s1 ⟨x,H1,I1,r1,q1⟩=>?_;obtain⟨z,rfl,q⟩:=q1;obtain⟨t,rfl⟩:=r1;have fpo:∀b∈[s1.heap.objs.size],oG X π H1 b:=λb hb=>by
  have e:b=s1.heap.objs.size:=by simpa using hb
  subst e;exact I1.fpOk (UJ _) (I1.hok.fresh (UJ _))
 cases ha:z.cps.all (· < 128) with|false=>exact wpAny_pyIter_wide ha ⟨s1.heap.objs.size,[s1.heap.objs.size],_,_,H1,rfl,I1.kept (t':=s1.toks) λb o e=>UC _ e,Ek z t _,⟨_,Vy _ rfl,rfl,rfl⟩,fpo,q⟩|true=>exact wpAny_pyIter_ascii ha ⟨s1.heap.objs.size,[s1.heap.objs.size],_,_,H1,rfl,I1.kept (t':=s1.toks) λb o e=>UC _ e,AW z t _,⟨_,Vy _ rfl,rfl,rfl⟩,fpo,q⟩
def kF(z:US):List D:=z.cps.toList.map λc=>.str ⟨#[c]⟩
def ml(z:US):(kF z).length=z.cps.size:=by unfold kF;simp
section
variable {X:Cx}{E:XK}
noncomputable def PJ(K:Ut):List V->Hp->VK->Prop:=λxs H Q=>∃(p:Uw) (bs:List Bool),xs=[.ref p]/\eX K H p (bs.map V.bl)/\Q (.bl (bs.all id)) H
theorem wG:∀bs:List Bool,(VG bs.length).all (λi=>bs.getD i false)=bs.all id
 |[]=>rfl
 |b::r=>by
  rw[U6,XO,Xg,Y3,Xg,←wG r];rfl
def AE(hc:X.calm=true):gO X (.builtin "all") (PJ X.K):=by
 intro π s σ H xs us Q I r h;obtain⟨p,bs,rfl,hq,q⟩:=h;obtain⟨u,rfl,rx⟩:=mR r;cases rx;obtain⟨its,rv,pl,hz⟩:=I.list hq;have hlen:=rv.length;rw[Uv] at hlen;have hne:p≠s.heap.objs.size:=Vf pl.lt;refine call_all_walk (wpAny_pyIter_list pl.isList ?_);have pl2:(s.heap.push { cls:=.type "list_iterator",data:=.fields #[.ref p,.int 0 0] }).IsList p its.toArray:=by
  obtain⟨o,k1,k2⟩:=pl.isList;exact⟨o,UC _ k1,k2⟩
 refine⟨s.heap.objs.size,_,_,_,_,_,λi=>bs.getD i false,rfl,Walks.list (A:=X.A.in1) (I.ok.hd hc) s.heap.objs.size p hne its.toArray,⟨⟨_,Vy _ rfl,rfl,rfl⟩,pl2⟩,?_,λh' tk hk=>?_⟩
 .intro i v s' Q' E' hv hQ
  have hv':its[i]?=some v:=by simpa using hv
  have hi:i<its.length:=(UA.mp hv').1;obtain⟨w,e1,e2⟩:=rv.get (show(bs.map V.bl)[i]?=some (V.bl (bs.getD i false)) by
   rw[UL,UB (by omega)];simp [List.getD,UB (show i<bs.length by omega)])
  rw[hv'] at e1;cases e1;obtain rfl:v=VT _:=e2;exact VJ hQ
 .have hall:(VG its.toArray.size).all (λi=>bs.getD i false)=bs.all id:=by
   rw[UP,←hlen];exact wG bs
  rw[hall];exact⟨.bl _,H,I.kept (t':=tk) (λb o e=>hk b o (by simp only[Wk];exact Vf (UT e)) (UC _ e)),rfl,q⟩
noncomputable def i6:List D->Option (List Bool)
 |[]=>some []
 |.bl b::r=>(i6 r).map (b::·)
 |_=>none
theorem wz{K:Ut}{H:Hp}:∀{ds:List D}{bs:List Bool}{vs:List V},i6 ds=some bs->Reps K H ds vs->vs=bs.map V.bl
 |[],bs,vs,h,r=>by cases h;exact Reps.nil_iff.mp r
 |d::ds,bs,vs,h,r=>by
  obtain⟨v,r',rfl,h1,h2⟩:=aJ.mp r;cases d with
  |bl x =>
   unfold i6 at h;cases e:i6 ds with
   |none=>rw[e] at h;cases h
   |some zs =>
    rw[e] at h;cases h;rw[aK.mp h1,wz e h2];rfl
  |_=>cases h
noncomputable def IA(x:D):aj D:=match x with
 |.lst ds=>match i6 ds with
  |some bs=>.ok (.bl (bs.all id))
  |none=>.stuck
 |_=>.stuck
def IF:gF X E (PJ X.K) (m1 IA):=qf λx v H Ha Q hs r q=>by
 cases x with
 |lst ds =>
  unfold IA at q;obtain⟨p,vs,rfl,h1,h2⟩:=aI.mp r;cases e:i6 ds with
  |none=>simp only[e] at q;exact q.elim
  |some bs =>
   simp only[e] at q;exact⟨p,bs,rfl,by rw[←wz e h2];exact aG.sqL hs h1,bg hs q (rb _)⟩
 |_=>exact q.elim
end
end DL
namespace L2
open PySem PySem.Spec PyProof.Rows
section
variable {κ:Type}[DecidableEq κ]
noncomputable def qp(kvs:List (κ×V)) (k:κ):Option V:=(kvs.find? λkv=>decide (kv.1=k)).map (·.2)
noncomputable def ju(kvs:List (κ×V)) (k:κ) (v:V):List (κ×V) :=
 if(kvs.any λkv=>decide (kv.1=k))=true then kvs.map (λkv=>if kv.1=k then(kv.1,v) else kv) else kvs++[(k,v)]
def mS{p:κ×V}{r:List (κ×V)}{k:κ}(e:p.1=k):qp (p::r) k=some p.2:=by simp [qp,WZ,e]
def kA{p:κ×V}{r:List (κ×V)}{k:κ}(e:¬p.1=k):qp (p::r) k=qp r k:=by simp [qp,WZ,e]
theorem yE(k:κ):∀kvs:List (κ×V),(kvs.any λkv=>decide (kv.1=k))=(qp kvs k).isSome
 |[]=>rfl
 |p::r=>by
  rw[WB]
  by_cases e:p.1=k
  .simp only[mS e,decide_eq_true e,Bool.true_or,Option.isSome_some]
  .rw[kA e,decide_eq_false e,YS];exact yE k r
def kR(kvs:List (κ×V))(k:κ)(v:V):(ju kvs k v).length<=kvs.length+1:=by
 unfold ju;split
 .rw[Uv];omega
 .rw[Vt,U6,Wf];omega
def vE.isSome_eq(r:vE o u):o.isSome=u.isSome:=by
 cases o with
 |none=>cases u with
  |none=>rfl
  |some _=>exact(show False from r).elim
 |some _=>cases u with
  |none=>exact(show False from r).elim
  |some _=>rfl
def KV.val{kvs:List (κ×V)}{vs:List (κ×Us)}(r:KV kvs vs)(k:κ):vE (qp kvs k) (valueAt vs k):=by
 unfold KV at r
 induction r with
 |nil=>exact Wb
 |@cons p q ps qs h t ih =>
  obtain⟨h1,h2⟩:=h
  by_cases e:p.1=k
  .have e':q.1=k:=h1.symm.trans e
   have b:valueAt (q::qs) k=some q.2:=by simp [valueAt,WZ,e']
   rw[mS e,b];exact h2
  .have e':¬q.1=k:=λz=>e (h1.trans z)
   have b:valueAt (q::qs) k=valueAt qs k:=by simp [valueAt,WZ,e']
   rw[kA e,b];exact ih
def KV.any{kvs:List (κ×V)}{vs:List (κ×Us)}(r:KV kvs vs)(k:κ):(kvs.any λkv=>decide (kv.1=k))=vs.any λkv=>decide (kv.1=k):=by
 unfold KV at r
 induction r with|nil=>rfl|cons h t ih=>rw[WB,WB,ih,h.1]
def KV.repl{kvs:List (κ×V)}{vs:List (κ×Us)}(r:KV kvs vs)(k:κ){y:V}{u:Us}(ry:bF y u) :
  KV (kvs.map λkv=>if kv.1=k then(kv.1,y) else kv) (vs.map λkv=>if kv.1=k then(kv.1,u) else kv):=by
 unfold KV at r ⊢
 induction r with
 |nil=>exact .nil
 |@cons p q ps qs h t ih =>
  rw[UW,UW];refine .cons ?_ ih;obtain⟨h1,h2⟩:=h
  by_cases e:p.1=k
  .rw[if_pos e,if_pos (h1.symm.trans e)];exact⟨h1,ry⟩
  .rw[if_neg e,if_neg (λz=>e (h1.trans z))];exact⟨h1,h2⟩
def KV.put{kvs:List (κ×V)}{vs:List (κ×Us)}(r:KV kvs vs)(k:κ){y:V}{u:Us}(ry:bF y u):KV (ju kvs k y) (stored vs k u):=by
 unfold ju stored;rw[r.any k]
 by_cases e:(vs.any λkv=>decide (kv.1=k))=true
 .rw[if_pos e,if_pos e];exact r.repl k ry
 .rw[if_neg e,if_neg e];exact Paired.snoc r ⟨rfl,ry⟩
def KV.length{kvs:List (κ×V)}{vs:List (κ×Us)}(r:KV kvs vs):kvs.length=vs.length:=X7 r
end
def vZ{k:fY}(r:bF (kV k) u):(df P w).is k u=true:=by
 cases k with|inl i=>obtain⟨t,e⟩:=(show ∃t,u=Wa i t from r);subst e;exact zF P w i t|inr x=>obtain⟨t,e⟩:=(show ∃t,u=V9 x t from r);subst e;exact zE P w x t
theorem v5:∀{ks:List fY}{us:List Us},bE (ks.map kV) us->ItemsAre (df P w) ks us
 |[],_,r=>by rw[Wc] at r;cases r;exact .nil
 |k::ks,_,r=>by
  rw[UW] at r;cases r with|cons h t=>exact .cons (vZ h) (v5 t)
noncomputable abbrev KT(H:Hp):List (List fY×V)->List (List fY×Uw×Us)->Prop:=Paired λp q=>p.1=q.1/\H q.2.1=some (.tup (p.1.map kV))/\bF p.2 q.2.2
def KT.val(r:KT H kvs xs)(k:List fY):vE (qp kvs k) ((atKey xs k).map (·.2)):=by
 induction r with
 |nil=>exact Wb
 |@cons p q ps qs h t ih =>
  obtain⟨h1,_,h2⟩:=h
  by_cases e:p.1=k
  .have e':q.1=k:=h1.symm.trans e
   have b:atKey (q::qs) k=some q.2:=by simp [atKey,WZ,e']
   rw[mS e,b];exact h2
  .have e':¬q.1=k:=λz=>e (h1.trans z)
   have b:atKey (q::qs) k=atKey qs k:=by simp [atKey,WZ,e']
   rw[kA e,b];exact ih
def KT.repl(r:KT H kvs xs)(k:List fY)(ry:bF y u) :
  KT H (kvs.map λkv=>if kv.1=k then(kv.1,y) else kv) (xs.map (putAt k u)):=by
 induction r with
 |nil=>exact .nil
 |@cons p q ps qs h t ih =>
  rw[UW,UW];refine .cons ?_ ih;obtain⟨h1,h2,h3⟩:=h;unfold putAt
  by_cases e:p.1=k
  .rw[if_pos e,if_pos (h1.symm.trans e)];exact⟨h1,h2,ry⟩
  .rw[if_neg e,if_neg (λz=>e (h1.trans z))];exact⟨h1,h2,h3⟩
def KT.put(r:KT H kvs xs)(k:List fY)(hb:H b=some (.tup (k.map kV)))(ry:bF y u) :
  KT H (ju kvs k y) (storedH xs k b u):=by
 have e:(kvs.any λkv=>decide (kv.1=k))=(atKey xs k).isSome:=by
  rw[yE,(r.val k).isSome_eq,Yn]
 unfold ju storedH;rw[e]
 by_cases q:(atKey xs k).isSome=true
 .rw[if_pos q,if_pos q];exact r.repl k ry
 .rw[if_neg q,if_neg q];exact Paired.snoc r ⟨rfl,hb,ry⟩
def KT.keeps(r:KT H kvs xs)(ht:∀b ys,H b=some (.tup ys)->H' b=some (.tup ys)):KT H' kvs xs :=
 lF r λ_ _ z=>⟨z.1,ht _ _ z.2.1,z.2.2⟩
section
variable {P:Vq}{w:VL}{H:Hp}{h:UR}{a:Uw}
def LK(ok:gG P w H h)(e:Rd H a u):bT P w H h a u:=e.ok ok
def wg(ok:gG P w H h)(e:Rd H a (.dK kvs)):kvs.length<=sizeLine/\(a==VR)=false/\∃vs,KV kvs vs/\h.DictOf (df P w) a vs :=
 show bT P w H h a (.dK kvs) from LK ok e
def Me(ok:gG P w H h)(e:H a=some (.dK kvs)):kvs.length<=sizeLine/\(a==VR)=false/\∃vs,KV kvs vs/\h.DictOf (df P w) a vs:=wg ok (.inl e)
def sX(ok:gG P w H h)(e:H a=some (.tup (ks.map kV))):(tupleKind (df P w)).is h ks a:=by
 obtain⟨_,its,r,o,h1,h2,n,h3⟩:=(show bT P w H h a (.tup (ks.map kV)) from ok a _ e)
 exact⟨o,its.toArray,n,h1,h2,h3,by simpa using v5 r⟩
def Aq(ok:gG P w H h)(e:Rd H a (.dT kvs)):kvs.length<=sizeLine/\(a==VR)=false /\
  ∃xs,KT H kvs xs/\h.DictOfH (tupleKind (df P w)) a xs:=by
 obtain⟨z,y,xs,r,o,es,ep,h1,h2,h3,h4,h5⟩:=(show bT P w H h a (.dT kvs) from LK ok e)
 refine⟨z,y,xs,r,o,es,ep,h1,h2,h3,h4,λx hx=>?_,h5⟩;have all:∀{l:List (List fY×V)}{m:List (List fY×Uw×Us)},KT H l m->∀x∈m,(tupleKind (df P w)).is h x.1 x.2.1:=by
  intro l m q
  induction q with
  |nil=>intro x hx;exact nomatch hx
  |@cons p q ps qs hq t ih =>
   intro x hx;rcases UG.mp hx with e|hx
   .subst e
    exact sX ok (by rw[←hq.1];exact hq.2.1)
   .exact ih x hx
 exact all r x hx
def QQ(ok:gG P w H h)(e:H a=some (.dT kvs)):kvs.length<=sizeLine/\(a==VR)=false /\
  ∃xs,KT H kvs xs/\h.DictOfH (tupleKind (df P w)) a xs:=Aq ok (.inl e)
end
noncomputable def yj(H:Hp) (a:Uw) (y:V) (r:Option V):Prop :=
 (∃kvs k,Rd H a (.dK kvs)/\y=kV k/\r=qp kvs k)∨∃kvs k b,Rd H a (.dT kvs)/\y=.ref b/\H b=some (.tup (k.map kV))/\r=qp kvs k
noncomputable def Fz(H:Hp) (a:Uw) (y v:V) (H':Hp):Prop :=
 (∃kvs k,H a=some (.dK kvs)/\y=kV k/\kvs.length<sizeLine/\H'=upd H a (.dK (ju kvs k v))) ∨
 ∃kvs k b,H a=some (.dT kvs)/\y=.ref b/\H b=some (.tup (k.map kV))/\kvs.length<sizeLine/\H'=upd H a (.dT (ju kvs k v))
theorem Fz.k{k:fY}(e:H a=some (.dK kvs))(hl:kvs.length<sizeLine):Fz H a (kV k) v (upd H a (.dK (ju kvs k v))):=.inl ⟨kvs,k,e,rfl,hl,rfl⟩
section
variable {X:Cx}{π:List (Uw×Obj)}{σ:St}{H:Hp}{s:UE}{a:Uw}{y v:V}{u r:Us}{o:Option V}{A:Vw}{E:Us->UE->Prop}
def Inv.big(I:Inv X π σ H s):VR<s.heap.objs.size:=by
 have h:UX<s.heap.objs.size:=(I.mod.glob.keeps I.bk).lt;exact WN (by decide) h
def Fd(hu:A.units+1<Wm)(I:Inv X π σ H s)(g:yj H a y (some v))(ry:bF y u)(h:∀w' s',Inv X π σ H s'->bF v w'->Q w' s') :
  UO (UM X.prog X.w) A (getItem (.ref a) u) Q E s:=by
 rcases g with⟨kvs,k,e,ey,l⟩|⟨kvs,k,b,e,ey,eb,l⟩
 .subst ey
  obtain⟨z,hd,vs,rel,dd⟩:=wg I.hok e;obtain⟨w',hw,rw'⟩:=kh (v:=v) (o:=valueAt vs k) (by rw[l];exact rel.val k);exact wpAny_getItem_of (vZ ry) dd.mapOf hw (h w' _ (I.tok _) rw')
 .subst ey
  cases (show u=U8 b from ry);obtain⟨z,hd,xs,rel,dd⟩:=Aq I.hok e;obtain⟨w',hw,rw'⟩:=kh (v:=v) (o:=(atKey xs k).map (·.2)) (by rw[l];exact rel.val k);obtain⟨p,hp,hp2⟩:=YY.mp hw;refine wpAny_getItem_heap (tupleKind_room_in1 hu) (sX I.hok eb) dd hp ?_;rw[hp2];exact h w' _ (I.tok _) rw'
def SK(hu:A.units+1<Wm)(I:Inv X π σ H s)(g:yj H a y o)(ry:bF y u)(h:∀s',Inv X π σ H s'->Q (.bool o.isSome) s') :
  UO (UM X.prog X.w) A (Vj .In u (.ref a)) Q E s:=by
 rcases g with⟨kvs,k,e,ey,l⟩|⟨kvs,k,b,e,ey,eb,l⟩
 .subst ey
  obtain⟨z,hd,vs,rel,dd⟩:=wg I.hok e;refine wpAny_in_of (vZ ry) hd dd.mapOf ?_;rw[←(rel.val k).isSome_eq,←l];exact h _ (I.tok _)
 .subst ey
  cases (show u=U8 b from ry);obtain⟨z,hd,xs,rel,dd⟩:=Aq I.hok e;refine wpAny_in_heap (tupleKind_room_in1 hu) (sX I.hok eb) hd dd ?_;have q:=(rel.val k).isSome_eq;rw[Yn] at q;rw[←q,←l];exact h _ (I.tok _)
def K9(hu:A.units+1<Wm)(I:Inv X π σ H s)(g:yj H a y o)(ry:bF y u)(h:∀s',Inv X π σ H s'->Q (.bool (!o.isSome)) s') :
  UO (UM X.prog X.w) A (Vj .NotIn u (.ref a)) Q E s:=by
 rcases g with⟨kvs,k,e,ey,l⟩|⟨kvs,k,b,e,ey,eb,l⟩
 .subst ey
  obtain⟨z,hd,vs,rel,dd⟩:=wg I.hok e;refine wpAny_notIn_of (vZ ry) hd dd.mapOf ?_;rw[←(rel.val k).isSome_eq,←l];exact h _ (I.tok _)
 .subst ey
  cases (show u=U8 b from ry);obtain⟨z,hd,xs,rel,dd⟩:=Aq I.hok e;refine wpAny_notIn_heap (tupleKind_room_in1 hu) (sX I.hok eb) hd dd ?_;have q:=(rel.val k).isSome_eq;rw[Yn] at q;rw[←q,←l];exact h _ (I.tok _)
def yb(I:Inv X π σ H s)(mu:Oo (H a))(hs:Xd a s.heap h')(he:∃q,h'.get? a=some q)(new:bT X.prog X.w (upd H a ob) h' a ob) :
  Inv X π σ (upd H a ob) { s with heap:=h',toks:=t' } :=
 I.write (x:=a) (e:=a) mu (.inl rfl) (λb q hb z=>(hs.2 b hb).trans z) he new
def Il(z:kvs.length<=sizeLine)(hd:(a==VR)=false)(rel:KV kvs vs)(dd:h'.DictOf (df P w) a vs) :
  bT P w H' h' a (.dK kvs):=⟨z,hd,vs,rel,dd⟩
def Fc(hu:A.units+1<Wm)(I:Inv X π σ H s)(g:Fz H a y v H')(ry:bF y u)(rv:bF v r)(h:∀s',Inv X π σ H' s'->Q () s') :
  UO (UM X.prog X.w) A (setItem (.ref a) u r) Q E s:=by
 rcases g with⟨kvs,k,e,ey,l,eH⟩|⟨kvs,k,b,e,ey,eb,l,eH⟩
 .subst ey eH
  obtain⟨z,hd,vs,rel,dd⟩:=Me I.hok e;have hz:vs.length<=sizeLine:=by rw[←rel.length];exact z
  have hl:(ju kvs k v).length<=sizeLine:=by have:=kR kvs k v;omega
  refine wpAny_setItem_pairs (hsz:=hz) (vZ ry) dd λh' dd' hs=>h _ ?_;have he:∃q,h'.get? a=some q:=let ⟨q,_,_,hq,_⟩:=dd';⟨q,hq⟩;exact yb I (by rw[e];exact Wb) hs he (Il hl hd (rel.put k rv) dd')
 .subst ey eH
  cases (show u=U8 b from ry);obtain⟨z,hd,xs,rel,dd⟩:=QQ I.hok e;have hz:xs.length<=sizeLine:=by rw[←X7 rel];exact z
  have hl:(ju kvs k v).length<=sizeLine:=by have:=kR kvs k v;omega
  refine wpAny_setItem_heap (hsz:=hz) (tupleKind_room_in1 hu) (sX I.hok eb) dd λh' dd' hs=>h _ ?_;obtain⟨q,es,ep,hq,h2,h3,h4,_,h5⟩:=dd';refine yb I (by rw[e];exact Wb) hs ⟨q,hq⟩ ⟨hl,hd,_,(rel.put k eb rv).keeps λc ys ec=>?_,q,es,ep,hq,h2,h3,h4,h5⟩;rw[aw (Qe ec e (λz=>nomatch z))];exact ec
end
section
variable {X:Cx}{π:List (Uw×Obj)}{σ:St}{H:Hp}{s:UE}{a:Uw}{kvs:List (fY×V)}{k:fY}{u:Us}{A:Vw}{E:Us->UE->Prop}
def Q1(I:Inv X π σ H s)(e:Rd H a (.dK kvs))(h:∀t s',Inv X π σ H s'->Q (.int kvs.length t) s'):UO (UM X.prog X.w) A (call (.builtin "len") [.ref a]) Q E s:=by
 obtain⟨z,hd,vs,rel,dd⟩:=wg I.hok e;refine call_len_dict hd dd (by rw[←rel.length];rw[sizeLine_eq] at z;omega) ?_;rw[←rel.length];exact h _ _ (I.tok _)
end
noncomputable def Om(i:Vk):Prop:=∀ov iv,subscripted i false ov iv=operate [ov,iv] (getItem ov iv)
def JS{T id:String} 
  (hl:W2 (.type T) "__getitem__"=pure (some (.builtin id)))(hs:Om slice)
  (h:UO (UM prog w) A (eval value env) (λo sg=>UO (UM prog w) A (eval slice env) (λi si=>si.TypeIs o T/\UO (UM prog w) A (getItem o i) Q E si) E sg) E s) :
  UO (UM prog w) A (eval (.Subscript value slice pos) env) Q E s:=by
 refine Subscript_ (Vs h (λo sg hV=>Vs hV (λi si hZ=>?_) λ_ _ x=>x) λ_ _ x=>x);obtain⟨hT,hZ⟩:=hZ;unfold subscriptTail;refine Uu ?_;rw[getitemInPython_of_ne hT.not_modules];refine Uu (wpAny_specialOf hT hl ?_);have fin:UO (UM prog w) A (subscripted slice false o i) (λr sj=>UO (UM prog w) A (letTemporaryGo value o r >>= λ_=>pure r) Q E sj) E si:=by
  rw[hs o i];exact wpAny_operating (Vs hZ (λr sj h₃=>Uu (wpAny_letTemporaryGo (UU h₃))) λ_ _ x=>x)
 first
  |exact UU (Uu fin)
  |exact Uu (UU (Uu fin))
  |exact Uu fin
def Av(I:Inv X π σ H s)(g:yj H a y o):s.TypeIs (.ref a) "dict":=by
 rcases g with⟨kvs,k,e,_,_⟩|⟨kvs,k,b,e,_,_,_⟩
 .obtain⟨_,_,vs,_,dd⟩:=wg I.hok e
  exact dd.typeIs
 .obtain⟨_,_,xs,_,dd⟩:=Aq I.hok e
  exact dd.typeIs
noncomputable def Pd(td ty:TE):TE:=λσ H Q=>td σ H λx H1=>ty σ H1 λy H2=>∃a v,x=.ref a/\yj H2 a y (some v)/\Q v H2
noncomputable def Pr(td ty tv:TE):TS:=λD σ H=>tv σ H λv H1=>td σ H1 λx H2=>ty σ H2 λy H3=>∃a H4,x=.ref a/\Fz H3 a y v H4/\D.nx σ H4
section
variable {X:Cx}{o i e value:Vk}{pos pos' tpos:Pos}{td ty tv:TE}
def Kh(hu:X.A.units+1<Wm)(ho:PE X o td)(hi:PE X i ty)(hs:Om i):PE X (.Subscript o i pos) (Pd td ty):=by
 intro π s σ H Q I h;refine JS PySem.F.slot_dict_getitem.lookup hs (cH (ho π s σ H _ I h) λu s1 ⟨x,H1,I1,rx,q1⟩=>cH (hi π s1 σ H1 _ I1 q1) λiv s2 z9=>?_);obtain⟨y,H2,I2,ry,a,v,ex,g,q2⟩:=z9;subst ex;obtain rfl:u=U8 a:=rx;exact⟨Av I2 g,Fd hu I2 g ry λw' s3 I3 rw'=>⟨v,H2,I3,rw',q2⟩⟩
def J4(hu:X.A.units+1<Wm)(ho:PE X o td)(hi:PE X i ty)(hv:PE X value tv)(hs:Vz value (some (.Subscript o i pos')) pos.line X.env=pure false) :
  PS X (.Assign [.Subscript o i pos'] value pos) (Pr td ty tv):=by
 intro π s σ H D I h;refine wpAny_Assign_Subscript (cH (hv π s σ H _ I h) λr s1 ⟨v,H1,I1,rv,q1⟩=>cH (ho π s1 σ H1 _ I1 q1) λu s2 ⟨x,H2,I2,rx,q2⟩=>cH (hi π s2 σ H2 _ I2 q2) λiv s3 z9=>?_) hs;obtain⟨y,H3,I3,ry,a,H4,ex,g,q3⟩:=z9;subst ex;obtain rfl:u=U8 a:=rx;exact Fc hu I3 g ry rv λs4 I4=>⟨σ,H4,I4,q3⟩
end
def Au(h:UR)(hb:VR<h.objs.size):bT P w H (h.push { cls:=.type "dict",data:=.dict #[] }) h.objs.size (.dK []) :=
 ⟨V6 _,beq_eq_false_iff_ne.mpr (Vh (Vf hb)),[],.nil,Heap.DictOf.new h⟩
def MA:TE:=λ_ H Q=>∀p,H p=none->Q (.ref p) (upd H p (.dK []))
section
variable {X:Cx}{pos:Pos}
def zj:PE X (.Dict [] [] pos) MA:=λπ s σ H Q I h =>
 wpAny_Dict_empty ⟨.ref s.heap.objs.size,_,I.laid (a:=s.heap.objs.size) (o:=.dK []) (t':=s.toks) (λ_ _ q=>UC _ q) (UJ _) (Au s.heap I.big),rfl,h _ (I.hok.fresh (UJ _))⟩
end
noncomputable def AX:List (TE×TE)->St->Hp->(List (V×V)->Hp->Prop)->Prop
 |[],_,H,Q=>Q [] H
 |(tk,tv)::r,σ,H,Q=>tk σ H λx H1=>tv σ H1 λy H2=>AX r σ H2 λps H3=>Q ((x,y)::ps) H3
noncomputable abbrev VV:List (V×V)->List (Us×Us)->Prop:=Paired λp q=>bF p.1 q.1/\bF p.2 q.2
noncomputable def RI(X:Cx) (pos:Pos) (keys:List (Option Vk)) (values:List Vk) (trs:List (TE×TE)):Prop :=
 ∀(π:List (Uw×Obj)) (s:UE) (σ:St) (H:Hp) (Q:List (V×V)->Hp->Prop),Inv X π σ H s->AX trs σ H Q ->
  UO (UM X.prog X.w) X.A (evalPairs (pairTrees keys values X.env pos)) (λvs s'=>∃ps H',Inv X π σ H' s'/\VV ps vs/\Q ps H') X.xe s
def J5:RI X pos [] [] []:=λπ s σ H Q I h=>pairTrees_nil_walk ⟨[],H,I,.nil,h⟩
def GP{k v:Vk}(hk:PE X k tk)(hv:PE X v tv)(hr:RI X pos ks vs trs) :
  RI X pos (some k::ks) (v::vs) ((tk,tv)::trs):=λπ s σ H Q I h =>
 pairTrees_cons_walk (cH (hk π s σ H _ I h) λu s1 ⟨x,H1,I1,rx,q1⟩=>cH (hv π s1 σ H1 _ I1 q1) λw2 s2 ⟨y,H2,I2,ry,q2⟩ =>
  cH (hr π s2 σ H2 _ I2 q2) λws s3 ⟨ps,H3,I3,rel,q3⟩=>⟨(x,y)::ps,H3,I3,.cons ⟨rx,ry⟩ rel,q3⟩)
noncomputable def sR(kvs more:List (fY×V)):List (fY×V):=more.foldl (λacc kv=>ju acc kv.1 kv.2) kvs
def KV.merge:∀{more:List (fY×V)}{rs:List (fY×Us)}{kvs:List (fY×V)}{vs:List (fY×Us)},KV more rs->KV kvs vs->KV (sR kvs more) (merged vs rs):=by
 intro more rs kvs vs r;unfold KV at r
 induction r generalizing kvs vs with
 |nil=>intro q;exact q
 |@cons p q ps qs h t ih =>
  intro r0;have e:KV (ju kvs p.1 p.2) (stored vs q.1 q.2):=by
   have:=r0.put p.1 h.2;rw[←h.1];exact this
  exact ih e
theorem l7:∀(more kvs:List (fY×V)),(sR kvs more).length<=kvs.length+more.length
 |[],kvs=>by show kvs.length<=kvs.length+0;omega
 |p::r,kvs=>by
  have h1:=l7 r (ju kvs p.1 p.2);have h2:=kR kvs p.1 p.2;show(sR (ju kvs p.1 p.2) r).length<=_;rw[U6];omega
theorem u6:∀{kvs:List (fY×V)}{ws:List (Us×Us)},VV (kvs.map λkv=>(kV kv.1,kv.2)) ws->∃rs,Carries (df P w) ws rs/\KV kvs rs
 |[],_,r=>by rw[Wc] at r;cases r;exact⟨[],Wb,.nil⟩
 |p::kvs,_,r=>by
  rw[UW] at r;cases r with
  |@cons a b as bs h t =>
   obtain⟨rs,c,q⟩:=u6 (P:=P) (w:=w) t;obtain⟨b1,b2⟩:=b;exact⟨(p.1,b2)::rs,⟨vZ h.1,rfl,c⟩,.cons ⟨rfl,h.2⟩ q⟩
noncomputable def Pc(trs:List (TE×TE)):TE:=λσ H Q=>∀p,H p=none->AX trs σ (upd H p (.dK [])) λps H2=>H2 p=some (.dK [])/\∃kvs:List (fY×V),ps=kvs.map (λkv=>(kV kv.1,kv.2))/\kvs.length<=15/\Q (.ref p) (upd H2 p (.dK (sR [] kvs)))
def Kg(h:RI X pos keys values trs)(hall:keys.all (·.isSome)=true)(hl:keys.length=values.length)(h0:keys≠[])
  (h15:keys.length<=15):PE X (.Dict keys values pos) (Pc trs):=by
 intro π s σ H Q I q;have hn:=I.hok.fresh (UJ s.heap.objs.size);have I1:=I.laid (a:=s.heap.objs.size) (o:=.dK []) (h':=s.heap.push { cls:=.type "dict",data:=.dict #[] }) (t':=s.toks) (λ_ _ q=>UC _ q) (UJ _) (Au s.heap I.big);refine wpAny_Dict_walk (knd:=df X.prog X.w) hall hl h0 h15 (cH (h π _ σ _ _ I1 (q _ hn)) λws s2 ⟨ps,H2,I2,rel,e,kvs,ep,lk,q2⟩=>?_);subst ep;obtain⟨rs,c,rk⟩:=u6 (P:=X.prog) (w:=X.w) rel;obtain⟨z,hd,vs0,r0,dd⟩:=Me I2.hok e;cases r0;refine⟨rs,c,dd,λh' dd' hs=>⟨.ref s.heap.objs.size,_,?_,rfl,q2⟩⟩;have hz:(sR [] kvs).length<=sizeLine:=by
  have h1:=l7 kvs [];rw[Wf] at h1;rw[sizeLine_eq];omega
 have he:∃q,h'.get? s.heap.objs.size=some q:=let ⟨q,_,_,hq,_⟩:=dd';⟨q,hq⟩;exact yb I2 (by rw[e];exact Wb) hs he (Il hz hd (rk.merge .nil) dd')
end L2
namespace DL
open PySem PySem.Spec PyProof.Rows L2
def AI{K:Ut}:Rep K H (.dic ks ds) v↔∃a kvs vs,v=.ref a/\Rd H a (.dK kvs)/\kvs=(ks.map Vp).zip vs/\ks.length=vs.length/\Reps K H ds vs:=by rw[Rep]
section
variable {X:Cx}{E:XK}{e:Vk}{f:Ev->aj D}{pos p1:Pos}
def DV:DE X E (.Dict [] [] pos) (dC (.dic [] [])):=by
 refine⟨?_⟩;refine aZ zj λσ H Q ⟨Ha,ρ,hs,hr,q⟩ p hp=>?_;exact q _ _ _ (aO hs hp) (AI.mpr ⟨p,[],[],rfl,.inl aB,rfl,rfl,Reps.nil⟩)
def dOne(x:US)(d:D):aj D:=.ok (.dic [x] [d])
end
noncomputable def iH(cells:List (US×Uw)):List (US×V3)->List (US×Uw)->List (US×Uw)
 |[],acc=>acc
 |(n,k)::r,acc=>if(k==Wh)=true then iH cells r ((n,(cells.lookup n).getD 0)::acc) else iH cells r acc
def ma(h:∀x∈scope.names,x.2=.free->∃c,env.cells.lookup x.1=some c):closureFor scope env=pure (iH env.cells scope.names []):=by
 simp only[closureFor];have key:∀(names:List (US×V3)) (acc:List (US×Uw)),(∀x∈names,x.2=.free->∃c,env.cells.lookup x.1=some c) ->
   (forIn names acc λ(x:US×V3) (z:List (US×Uw)) =>
      if(x.snd==Wh)=true then do
       let y ←cellOf env x.fst
       pure (W0 ((x.fst,y)::z))
      else(pure (W0 z):Sem _))=pure (iH env.cells names acc):=by
  intro names
  induction names with
  |nil=>intro acc _;rfl
  |cons x r ih =>
   intro acc hh;obtain⟨n,k⟩:=x;rw[List.forIn_cons]
   by_cases hk:(k==Wh)=true
   .obtain⟨c,hc⟩:=hh (n,k) U0 (by simpa using hk)
    have hcell:cellOf env n=pure c:=by unfold cellOf;rw[show env.cells.lookup n=some c from hc]
    simp only[hk,if_true];rw[hcell];have:=ih ((n,c)::acc) (λy hy=>hh y (UH _ hy));rw[show iH env.cells ((n,k)::r) acc=iH env.cells r ((n,c)::acc) by
     show(if(k==Wh)=true then _ else _)=_;rw[if_pos hk,show env.cells.lookup n=some c from hc];rfl]
    rw[←this];rfl
   .have:=ih acc (λy hy=>hh y (UH _ hy))
    rw[if_neg hk];rw[show iH env.cells ((n,k)::r) acc=iH env.cells r acc by
     show(if(k==Wh)=true then _ else _)=_;rw[if_neg hk]]
    rw[←this];rfl
 rw[key _ _ h];rfl
theorem uZ{cells:List (US×Uw)}:∀{names:List (US×V3)}{acc:List (US×Uw)}{x:US}{c:Uw},(∀y∈names,y.2=.free->∃c,cells.lookup y.1=some c) ->
  (iH cells names acc).lookup x=some c->acc.lookup x=some c∨cells.lookup x=some c
 |[],acc,x,c,_,h=>.inl h
 |(n,k)::r,acc,x,c,hh,h=>by
  unfold iH at h
  by_cases hk:(k==Wh)=true
  .rw[if_pos hk] at h
   obtain⟨d,hd⟩:=hh (n,k) U0 (by simpa using hk);rcases uZ (λy hy=>hh y (UH _ hy)) h with h|h
   .rw[VW] at h
    cases e:x==n with
    |true =>
     rw[e] at h;rw[show cells.lookup n=some d from hd] at h;cases h;rw[eq_of_beq e];exact .inr hd
    |false=>rw[e] at h;exact .inl h
   .exact .inr h
  .rw[if_neg hk] at h
   exact uZ (λy hy=>hh y (UH _ hy)) h
theorem pS{α:Type}:∀{l:List (US×α)},(∃v,(x,v)∈l)->∃v,l.lookup x=some v
 |[],⟨v,h⟩=>by cases h
 |(n,w)::r,⟨v,h⟩=>by
  rw[VW];cases e:x==n with
  |true=>exact⟨w,rfl⟩
  |false =>
   rcases UG.mp h with h|h
   .cases h;simp at e
   .exact pS ⟨v,h⟩
theorem u4:∀{names:List (US×V3)}{acc:List (US×Uw)},(x,c)∈acc->(x,c)∈iH cells names acc
 |[],acc,h=>h
 |(n,k)::r,acc,h=>by
  unfold iH
  by_cases hk:(k==Wh)=true
  .rw[if_pos hk];exact u4 (UH _ h)
  .rw[if_neg hk];exact u4 h
def u3:∀{names:List (US×V3)}{acc:List (US×Uw)},(x,Wh)∈names->∃c,(iH cells names acc).lookup x=some c:=by
 intro names
 induction names with
 |nil=>intro acc h;cases h
 |cons y r ih =>
  intro acc h;obtain⟨n,k⟩:=y;unfold iH;rcases UG.mp h with h|h
  .cases h
   rw[if_pos (by rfl)];exact pS ⟨_,u4 U0⟩
  .by_cases hk:(k==Wh)=true
   .rw[if_pos hk];exact ih h
   .rw[if_neg hk];exact ih h
noncomputable def dz(X:Cx) (N:List US) (scope:XX) (s:UE) (H:Hp) (C:Uw) (fp:List Uw) (pn:List (Uw×Obj)):Cx :=
 { X with N:=N,sf:=s,Ha:=H,env:=compEnvC scope (iH X.env.cells scope.names []) C X.env,outer:=X.stack,stack:=X.stack,ex:=fp,fn:=λ_=>false,pn:=pn,xe:=λ_ _=>False }
noncomputable def km(n:Nat) (fr:List Nat) (σ:L2.St):L2.St:=UK n none++fr.map λ(i:Nat)=>(σ[i]?).getD none
noncomputable def Cc(X:Cx) (N:List US) (n:Nat) (fr:List Nat) (scope:XX):Prop :=
 N.length=n+fr.length/\((N.drop n).zip fr).all (λp=>X.N[p.2]?==some p.1&&X.env.scope.names.lookup p.1==some .cell&&scope.names.lookup p.1==some .free&&(relabel scope X.env).names.lookup p.1==some .cell)=true
theorem Cc.at{fr:List Nat}(h:Cc X N n fr scope){k:Nat}(hx:N[k]?=some x)(hv:(km n fr σ)[k]?=some (some v)) :
  ∃i:Nat,X.N[i]?=some x/\σ[i]?=some (some v)/\X.env.scope.names.lookup x=some .cell/\scope.names.lookup x=some .free/\(relabel scope X.env).names.lookup x=some .cell:=by
 unfold km at hv
 by_cases hk:k<n
 .rw[UQ (by simpa using hk),U7,if_pos hk] at hv
  cases hv
 .rw[UZ (by simpa using hk),Vu,UL] at hv
  cases hi:fr[k-n]? with
  |none=>rw[hi] at hv;cases hv
  |some i =>
   rw[hi] at hv;have hz:((N.drop n).zip fr)[k-n]?=some (x,i):=by
    rw[List.getElem?_zip_eq_some];exact⟨by rw[List.getElem?_drop,show n+(k-n)=k by omega];exact hx,hi⟩
   have:=Vc.mp h.2 _ (UN hz);simp only[U4,beq_iff_eq] at this;refine⟨i,this.1.1.1,?_,this.1.1.2,this.1.2,this.2⟩;simp only[Wx,Wo] at hv;cases hs:σ[i]? with|none=>rw[hs] at hv;cases hv|some u=>rw[hs] at hv;exact congrArg some hv
noncomputable def OV(X:Cx) (ifs:List Vk) (t:TT):Prop :=
 ∀(π:List (Uw×Obj)) (s:UE) (σ:L2.St) (H:Hp) (Q:Bool->Hp->Prop),Inv X π σ H s->t σ H Q ->
  UO (UM X.prog X.w) X.A (forIn ifs true λc r=>if r=true then do let ok ←isTrue c X.env (eval c X.env);pure (W0 ok) else pure (W0 r)) (TP X π σ Q) X.xe s
def Ga:TT:=λ_ H Q=>Q true H
def Cw:OV X [] Ga:=λ_ _ _ H _ I h=>wpAny_tests_nil ⟨H,I,h⟩
def Ka(h:PT X c t):OV X [c] t:=λπ s σ H Q I q=>wpAny_tests_one (h π s σ H Q I q)
theorem uW(I:Nat->UE->Prop)
  (turn:∀n s,I n s->UO (UM prog w) A (pyNext it) (λr sg=>match r with
   |none=>R (.ok .next) sg
   |some v=>UO (UM prog w) A (letOwnedTupleGo target it v) (λ_ sg'=>UO (UM prog w) A (assign target env v) (λ_ si =>
     UO (UM prog w) A (forIn ifs true λc r=>if r=true then do let ok ←isTrue c env (eval c env);pure (W0 ok) else pure (W0 r)) (λok sj =>
      if ok=true then UO (UM prog w) A (eval elt env) (λx sk =>
       UO (UM prog w) A (call (.builtin "list.append") [acc,x]) (λ_ so=>∃m,m<n/\I m so) (λ_ _=>False) sk) (λ_ _=>False) sj
      else ∃m,m<n/\I m sj) (λ_ _=>False) si) (λ_ _=>False) sg') (λ_ _=>False) sg) (λ_ _=>False) s)
  (n:Nat) (h:I n s) :
  WC (UM prog w) A (.compLoop (.ListComp elt [⟨target,iter,ifs,0⟩] scope pos) 0 it acc env) R s:=by
 refine codeAny_loop rfl I (λn s hI=>?_) n h;show UO _ A ((compTurn (.ListComp elt [⟨target,iter,ifs,0⟩] scope pos) 0 it acc env).onRaise (λx=>do noteFrame x env;theTreesLotGoes x)) _ _ s;refine wpAny_noted ?_;rw[compTurn_list];refine Uu (wpAny_standAt (Uu (Vs (turn n s hI) (λr sg hV=>?_) λ_ _ h'=>h'.elim)));cases r with
 |none=>exact UU hV
 |some v =>
  refine Uu (Vs hV (λ_ sg' hV'=>?_) λ_ _ h'=>h'.elim);refine Uu (Vs hV' (λ_ si hZ=>Uu (Vs hZ (λok sj h₃=>?_) λ_ _ h'=>h'.elim)) λ_ _ h'=>h'.elim);cases ok with
  |false=>exact UU ⟨rfl,h₃⟩
  |true =>
   exact Uu (Uu (Vs h₃ (λx sk h₄=>Uu (Vs h₄ (λ_ so h₅=>UU (UU ⟨rfl,h₅⟩)) λ_ _ h'=>h'.elim)) λ_ _ h'=>h'.elim))
noncomputable def rR(n:Nat) (fr:List Nat) (g:TG) (tt:TT) (te:TE) (J:It) (σ:L2.St) (H1:Hp) (Q:VK):Prop:=∀D,H1 D=none->∃W:Nat->Nat->List V->L2.St->Hp->Prop,(∃m,W 0 m [] (km n fr σ) (upd H1 D (.lst []))) /\
 ∀i m ys σ' H',W i m ys σ' H'->H' D=some (.lst ys)/\((J.stop i H'/\Q (.ref D) H')∨(J.go i H'/\ys.length<sizeLine/\∀x H2,J.yld i H' x H2->g x σ' H2 λσ3 H3=>tt σ3 H3 λb H4 =>
  if b=true then te σ3 H4 λy H5=>H5 D=some (.lst ys)/\∃m',m' < m/\W (i+1) m' (ys++[y]) σ3 (upd H5 D (.lst (ys++[y])))
  else ∃m',m' < m/\W (i+1) m' ys σ3 H4))
def wm{fr:List Nat}(hc:X.calm=true)(hfr:Cc X N n fr scope)
  (hcell:∀x∈scope.names,x.2≠.cell)(hfree:∀x∈scope.names,x.2=.free->X.env.scope.names.lookup x.1=some .cell)(hkind:scope.kind=.function)
  (blk:∀s H C fp pn,PG (dz X N scope s H C fp pn) tg g/\OV (dz X N scope s H C fp pn) ifs tt/\PE (dz X N scope s H C fp pn) elt te)
  {RR:Us->Uw->Result->UE->Prop}
  (h2:S0 X π σ tg (λJ H1=>rR n fr g tt te J σ H1 Q) itv s2)
  (fin:∀(Da C:Uw) (s6:UE) (H5:Hp) (m:US->Option Us),Inv X π σ H5 s6->s6.heap.Ns C m->oG X π H5 C->Q (.ref Da) H5->RR (.ref Da) C (.ok .next) s6) :
  UO (UM X.prog X.w) X.A (newList []) (λacc sj=>UO (UM X.prog X.w) X.A (newFunctionEnv scope X.env.globals (iH X.env.cells scope.names []) [] X.env.qual none .none (some X.env)) (λcenv sk =>
   WC (UM X.prog X.w) X.A (.compStart (.ListComp elt [⟨tg,iter,ifs,0⟩] scope pos) 0 itv acc { cenv with scope:=relabel scope X.env }) (RR acc cenv.locals) sk) X.xe sj) X.xe s2:=by
 obtain⟨it,fp,tn,J,H2,e,I2,T,st2,f2,q⟩:=h2;subst e;have hD:H2 s2.heap.objs.size=none:=I2.fresh;refine wpAny_newObj_type ?_;have I3:Inv X π σ (upd H2 s2.heap.objs.size (.lst [])) { s2 with heap:=s2.heap.push { cls:=.type "list",data:=.seq ([]:List Us).toArray } }:=I2.lnew (t':=s2.toks) (its:=[]) .nil (V6 _);obtain⟨W,⟨m0,w0⟩,turn⟩:=q s2.heap.objs.size hD;generalize hs3:({ s2 with heap:=s2.heap.push { cls:=.type "list",data:=.seq ([]:List Us).toArray } }:UE)=s3 at I3 ⊢;have hs3h:s3.heap=s2.heap.push { cls:=.type "list",data:=.seq ([]:List Us).toArray }:=by rw[←hs3]
 have hDs:s2.heap.objs.size<s3.heap.objs.size:=by rw[hs3h,Heap.size_push];exact Wi _
 have fpl:∀b∈fp,b<s2.heap.objs.size:=λb hb=>by
  obtain⟨o,ho,_⟩:=T.obj _ _ st2 b hb;exact UT ho
 have kept3:∀b o,s2.heap.get? b=some o->s3.heap.get? b=some o:=λb o e=>by rw[hs3h];exact UC _ e
 have st3:tn 0 s3.heap:=T.keep _ _ _ st2 λb _ o e=>kept3 b o e;generalize hDa:s2.heap.objs.size=Da at *;generalize hH3:upd H2 Da (.lst [])=H3 at *;have fr3:∀b∈fp,H3 b=none:=λb hb=>by rw[←hH3,aw (Vf (fpl b hb))];exact(f2 b hb).1
 have cls:∀x c,(iH X.env.cells scope.names []).lookup x=some c->X.env.cells.lookup x=some c:=λx c e=>by
  rcases uZ (λy hy hf=>I3.ok.has y.1 (.inl (hfree y hy hf))) e with e|e
  .cases e
  .exact e
 refine wpAny_newFunctionEnv hcell (by intro y hy;simp at hy) (λh4 ns4 sb4=>?_) hkind;have k4:∀b o,s3.heap.get? b=some o->h4.get? b=some o:=λb o e=>(sb4.2 b (Vf (UT e))).trans (UC _ e);generalize hC:s3.heap.objs.size=C at *;have hCn:H3 C=none:=I3.hok.fresh (by rw[hC];exact UJ _);have ltC:∀b o,s3.heap.get? b=some o->b≠C:=λb o e=>by rw[←hC];exact Vf (UT e)
 have cellC:∀x c,X.env.cells.lookup x=some c->c≠C:=λx c e=>by
  obtain⟨v,o,ho,_⟩:=I3.cell x c e;exact ltC c o ho
 have fpC:∀b∈fp,b≠C:=λb hb=>by
  have:=fpl b hb;exact Vf (WN this hDs)
 show WC (UM X.prog X.w) X.A (.compStart (.ListComp elt [⟨tg,iter,ifs,0⟩] scope pos) 0 (.ref it) (.ref Da) (compEnvC scope (iH X.env.cells scope.names []) C X.env)) _ _;generalize hs4:({ s3 with heap:=h4,toks:=s3.toks+([]:List (US×Us)).length }:UE)=s4;have hs4h:s4.heap=h4:=by rw[←hs4]
 have ok:(dz X N scope s3 H3 C fp (X.pn++π)).Ok:=by
  refine⟨I3.ok.mod,hkind,I3.ok.glob,I3.ok.blt,Nat.le_of_eq hC,λx y c e1 e2=>I3.ok.inj x y c (cls x c e1) (cls y c e2),λx e=>?_,λx c e=>?_,λ_=>I3.ok.hd hc,I3.ok.frames,.inl rfl,λb hb=>⟨fpC b hb,λx c e=>(f2 b hb).2.2.2.2.1 x c (cls x c e)⟩,I3.bs,Va I3.ok.bsz I3.sz,λb o e hb=>?_,λb hb z=>?_,I3.stack,I3.stkFree⟩
  .have mm:∀k:V3,(relabel scope X.env).names.lookup x=some k->(k=.cell∨k=.free)->(x,Wh)∈scope.names:=λk hk hk2=>by
    have hm:=Wg hk;obtain⟨⟨n',k'⟩,hm1,hm2⟩:=Vg.mp hm;dsimp only at hm2;split at hm2
    .rename_i hcnd
     cases hm2;simp only[U4,beq_iff_eq] at hcnd;rw[hcnd.1.1] at hm1;exact hm1
    .cases hm2
     rcases hk2 with rfl|rfl
     .exact absurd rfl (hcell _ hm1)
     .exact hm1
   rcases e with e|e
   .exact u3 (mm _ e (.inl rfl))
   .exact u3 (mm _ e (.inr rfl))
  .cases e
  .rcases(f2 b hb).2.2.2.1 with z|z
   .exact I3.ok.noex b o e z
   .exact absurd (UY (UT e) (Va I3.ok.bsz z)) (WW _)
  .rcases UG.mp (I3.stkSub b z) with z|z
   .exact(f2 b hb).2.1 z
   .exact(f2 b hb).2.2.1 z
 have I4:Inv (dz X N scope s3 H3 C fp (X.pn++π)) [] (km n fr σ) H3 s4:=by
  refine⟨ok,by rw[←hs4];rfl,by rw[←hs4];exact I3.bare,by rw[hs4h];exact Un.kept k4,⟨_,by rw[hs4h];exact ns4,λi x v h1 h2 h3=>?_⟩,λx c e=>?_,hCn,λx c e=>I3.freeC x c (cls x c e),λp hp=>?_,by rw[hs4h];exact I3.hok.kept k4,?_⟩
  .obtain⟨j,j1,j2,j3,j4,j5⟩:=hfr.at h1 h2
   obtain⟨m,hn,hl⟩:=I3.loc;obtain⟨u,ru,l⟩:=hl j x v j1 j2 (.inr (.inl j3));refine⟨u,ru,.inr ⟨.inl j5,?_⟩⟩;rcases l with⟨z,_⟩|⟨_,c,z1,z2⟩
   .rw[show X.env.kindOf x=X.env.scope.names.lookup x from rfl,j3] at z;cases z
   .obtain⟨c',hc'⟩:=u3 (cells:=X.env.cells) (names:=scope.names) (acc:=[]) (Wg j4)
    have:=cls x c' hc';rw[z1] at this;cases this;obtain⟨oc,q1,q2⟩:=z2;exact⟨c,hc',oc,by rw[hs4h];exact k4 _ _ q1,q2⟩
  .obtain⟨v,oc,q1,q2⟩:=I3.cell x c (cls x c e)
   exact⟨v,oc,by rw[hs4h];exact k4 _ _ q1,q2⟩
  .rw[Vo] at hp
   obtain⟨p1,p2,p3,p4,p5⟩:=I3.pin p hp;refine⟨by rw[hs4h];exact k4 _ _ p1,p2,ltC _ _ p1,λz=>?_,p5⟩;rcases UG.mp (I3.stkSub _ z) with z|z
   .exact p3 z
   .exact p4 z
  .show(km n fr σ).length=N.length
   unfold km;rw[Vt,Vu,Uv,hfr.1]
 have st4:tn 0 s4.heap:=by rw[hs4h];exact T.keep _ _ _ st3 λb _ o e=>k4 b o e
 have stat:∀{H':Hp},(∀b∈fp,H' b=none)->∀b∈fp,oG (dz X N scope s3 H3 C fp (X.pn++π)) [] H' b:=λhn b hb=>by
  refine⟨hn b hb,fpC b hb,λz=>?_,.inl hb,λx c e=>(f2 b hb).2.2.2.2.1 x c (cls x c e),λp hp=>?_⟩
  .rcases UG.mp (I3.stkSub b z) with z|z
   .exact(f2 b hb).2.1 z
   .exact(f2 b hb).2.2.1 z
  .rw[Vo] at hp
   exact(f2 b hb).2.2.2.2.2 p hp
 have loop:WC (UM X.prog X.w) X.A (.compLoop (.ListComp elt [⟨tg,iter,ifs,0⟩] scope pos) 0 (.ref it) (.ref Da) (compEnvC scope (iH X.env.cells scope.names []) C X.env)) (RR (.ref Da) C) s4:=by
  refine uW (λn s'=>∃i ys σ' H',Inv (dz X N scope s3 H3 C fp (X.pn++π)) [] σ' H' s'/\tn i s'.heap/\(∀b∈fp,H' b=none)/\W i n ys σ' H') ?_ m0 ⟨0,[],_,H3,I4,st4,fr3,w0⟩;rintro k s5 ⟨i,ys,σ5,H5,I5,st5,fr5,w5⟩;obtain⟨hDl,ways⟩:=turn i k ys σ5 H5 w5;rcases ways with⟨stop,fin'⟩|⟨go,hz,step⟩
  .refine cH (T.done (dz X N scope s3 H3 C fp (X.pn++π)) rfl rfl rfl hc i [] s5 σ5 H5 (λ_ _=>False) I5 (stat fr5) st5 stop) λr s6 ⟨hr,I6⟩=>?_
   subst hr;obtain⟨mm,nsm,_⟩:=I6.loc;have free6:H5 C=none:=I6.free;have hok:gG X.prog X.w H5 s6.heap:=I6.hok;have un:Un (iN X.stack) fp H3 H5 s3.heap s6.heap:=I6.base;have IX:Inv X π σ H5 s6:=I3.call' (s':=s6) (ch:=fp) I6.os un hok I6.bare (λb hb=>⟨(f2 b hb).2.2.2.1,(f2 b hb).2.1,(f2 b hb).2.2.2.2.1,(f2 b hb).2.2.2.2.2⟩);have fC:oG X π H5 C:=I3.fpOk (b:=C) (H':=H5) (by rw[hC];exact UJ _) free6;exact fin Da C s6 H5 mm IX nsm fC fin'
  .refine cH (T.item (dz X N scope s3 H3 C fp (X.pn++π)) rfl rfl rfl hc i [] s5 σ5 H5 (λ_ _=>False) I5 (stat fr5) st5 go) λr s6 ⟨u,hr,h6⟩=>?_
   subst hr;refine cH h6 λ_ s7 ⟨x,H7,I7,r7,y7,st7,fr7⟩=>?_;have I7':=I7.pinned (stat fr7) (T.obj _ _ st7);refine cH ((blk s3 H3 C fp (X.pn++π)).1 _ s7 σ5 H7 x u _ I7' r7 (step x H7 y7)) λ_ s8 ⟨σ8,H8,I8,q8⟩=>?_;refine cH ((blk s3 H3 C fp (X.pn++π)).2.1 _ s8 σ8 H8 _ I8 q8) λb s8b ⟨H8b,I8b,q8b⟩=>?_;have back:∀{σ':L2.St}{H':Hp}{s':UE},L2.Inv (dz X N scope s3 H3 C fp (X.pn++π)) (([]:List (Uw×Obj))++sE fp s7.heap) σ' H' s'->tn (i+1) s'.heap/\∀b∈fp,H' b=none:=λ{σ' H' s'} I'=>by
    refine⟨T.keep _ _ _ st7 λb hb o e=>(I'.pin (b,o) (VD _ (VD _ (jT hb e)))).1,λb hb=>?_⟩;obtain⟨o,e,d⟩:=T.obj _ _ st7 b hb;exact(I'.pin (b,o) (VD _ (VD _ (jT hb e)))).2.1
   cases b with
   |false =>
    rw[if_neg VC] at q8b ⊢;obtain⟨m',hm,w9⟩:=q8b;exact⟨m',hm,i+1,ys,σ8,_,I8b.unpinned,(back I8b).1,(back I8b).2,w9⟩
   |true =>
    rw[if_pos rfl] at q8b ⊢;refine cH ((blk s3 H3 C fp (X.pn++π)).2.2 _ s8b σ8 H8b _ I8b q8b) λy s9 ⟨yv,H9,I9,r9,hD9,m',hm,w9⟩=>?_;refine cH (o7 (X:=dz X N scope s3 H3 C fp (X.pn++π)) _ s9 σ8 H9 (.ref Da) [yv] (.ref Da) [y] (λv H'=>H'=upd H9 Da (.lst (ys++[yv]))) I9 rfl (.cons r9 .nil) ⟨Da,ys,yv,rfl,rfl,hD9,hz,rfl⟩) λ_ s10 ⟨v10,H10,I10,_,e10⟩=>?_;subst e10;exact⟨m',hm,i+1,ys++[yv],σ8,_,I10.unpinned,(back I10).1,(back I10).2,w9⟩
 exact codeAny_compStart_list loop (T.self _ 0 _ _ _ st4 loop)
structure Ou (K:Ut) (ds:List D) (J:It) (Ha:Hp):Prop where
 go:∀(i:Nat) (H' Ha':Hp),aG Ha Ha'->aG Ha' H'->i<ds.length->J.go i H'
 yld:∀(i:Nat) (H' Ha':Hp) (x:V) (H2:Hp) (d:D),aG Ha Ha'->aG Ha' H'->ds[i]?=some d->J.yld i H' x H2->∃H₀2,bB H' Ha' H2 H₀2/\Rep K H₀2 d x
 stop:∀(i:Nat) (H' Ha':Hp),aG Ha Ha'->aG Ha' H'->ds.length<=i->J.stop i H'
noncomputable def T3(K:Ut) (E:XK) (src:Ev->aj (List D)):TI:=λσ H R=>∃Ha ρ,aG Ha H/\Reads K Ha σ ρ/\match src ρ with
 |.ok ds=>∀J H' Ha',bB H Ha H' Ha'->Ou K ds J Ha'->R J H'
 |.exn x=>∀C ox H' Ha',bB H Ha H' Ha'->AJ K Ha' x C ox->E C ox H'
 |.stuck=>False
structure DI (X:Cx) (E:XK) (tg iter:Vk) (src:Ev->aj (List D)):Prop where
 o:PI X tg iter (T3 X.K E src)
def lH(h:PI X tg iter t)(w:∀σ H R,t' σ H R->t σ H R):PI X tg iter t':=λπ s σ H R I q=>h π s σ H R I (w σ H R q)
noncomputable def kE(f:Ev->aj D):Ev->aj (List D):=λρ=>(f ρ).bind λd=>match d with
 |.lst ds=>.ok ds
 |_=>.stuck
noncomputable def JT(f:Ev->aj D):Ev->aj (List D):=λρ=>(f ρ).bind λd=>match d with
 |.str z=>.ok (kF z)
 |_=>.stuck
noncomputable def eS(f:Ev->aj D):Ev->aj (List D):=λρ=>(f ρ).bind λd=>match d with
 |.int j=>if -4611686018427387904<=j/\j<4611686018427387904 then .ok (intsFrom 0 j.toNat) else .stuck
 |_=>.stuck
section
variable {X:Cx}{E:XK}{tg e a b:Vk}{f g:Ev->aj D}
def iY(h:DE X E e f):DI X E tg e (kE f):=by
 refine⟨lH (Cy h.o) λσ H R z9=>?_⟩;obtain⟨Ha,ρ,hs,hr,q⟩:=z9;refine⟨Ha,ρ,hs,hr,?_⟩;unfold kE at q;cases e1:f ρ with
 |stuck|exn x=>rw[e1] at q;exact q
 |ok d =>
  rw[e1] at q;intro v H1 H01 g1 r1;cases d with
  |lst ds =>
   obtain⟨p,vs,rfl,hv,hrv⟩:=aI.mp r1;refine⟨p,rfl,⟨vs,aG.sqL g1.sub hv⟩,q _ H1 H01 g1 ⟨λi H' Ha' s1 s2 hi=>?_,λi H' Ha' x H2 d s1 s2 hd hy=>?_,λi H' Ha' s1 s2 hi=>?_⟩⟩
   .exact⟨vs,vs[i]'(by rw[←hrv.length];exact hi),aG.sqL (s1.trans s2) hv,by simp⟩
   .obtain⟨rfl,hy⟩:=hy
    obtain⟨u,k1,k2⟩:=hrv.get hd;have:=hy vs (aG.sqL (s1.trans s2) hv);rw[k1] at this;cases this;exact⟨Ha',bB.refl s2,k2.mono s1⟩
   .exact⟨vs,aG.sqL (s1.trans s2) hv,by rw[←hrv.length];exact hi⟩
  |_=>exact q.elim
def NO(h:DE X E e f):DI X E tg e (JT f):=by
 refine⟨lH (MZ h.o) λσ H R z9=>?_⟩;obtain⟨Ha,ρ,hs,hr,q⟩:=z9;refine⟨Ha,ρ,hs,hr,?_⟩;unfold JT at q;cases e1:f ρ with
 |stuck|exn x=>rw[e1] at q;exact q
 |ok d =>
  rw[e1] at q;intro v H1 H01 g1 r1;cases d with
  |str z =>
   refine⟨z,Rep.str_iff.mp r1,q _ H1 H01 g1 ⟨λi H' Ha' s1 s2 hi=>?_,λi H' Ha' x H2 d s1 s2 hd hy=>?_,λi H' Ha' s1 s2 hi=>?_⟩⟩
   .rw[ml] at hi;exact hi
   .obtain⟨rfl,c,hc,rfl⟩:=hy
    have:d=.str ⟨#[c]⟩:=by
     unfold kF at hd;rw[UL] at hd;have h2:z.cps.toList[i]?=some c:=by simpa using hc
     rw[h2] at hd;cases hd;rfl
    subst this;exact⟨Ha',bB.refl s2,Rep.str_iff.mpr rfl⟩
   .rw[ml] at hi;exact hi
  |_=>exact q.elim
def v7{K:Ut}{lo:Int}:Ou K (intsFrom lo n) (Ot lo n) H:=by
 have hl:(intsFrom lo n).length=n:=by unfold intsFrom;simp
 refine⟨λi H' Ha' _ _ hi=>?_,λi H' Ha' x H2 d s1 s2 hd hy=>?_,λi H' Ha' _ _ hi=>?_⟩
 .rw[hl] at hi;exact hi
 .obtain⟨rfl,rfl⟩:=hy
  have:d=.int (lo+i):=by
   unfold intsFrom at hd;rw[UL] at hd;cases e:(VG n)[i]? with
   |none=>rw[e] at hd;cases hd
   |some k =>
    rw[e] at hd;have hk:k=i:=by
     obtain⟨h1,h2⟩:=UA.mp e;simpa using h2.symm
    subst hk;cases hd;rfl
  subst this;exact⟨Ha',bB.refl s2,aC.mpr rfl⟩
 .rw[hl] at hi;exact hi
def fv(hg:Gl X "range")(hm:X.mg "range"=none)(h:DE X E a f)(hn:OI a=true:=by exact rfl):DI X E tg (.Call (.Name "range" p) [a] [] pos) (eS f):=by
 refine⟨lH (oZ hg hm (c9 h.o fV (ie hn)) (ie hn)) λσ H R z9=>?_⟩;obtain⟨Ha,ρ,hs,hr,q⟩:=z9;refine⟨Ha,ρ,hs,hr,?_⟩;unfold eS at q;cases e1:f ρ with
 |stuck|exn x=>rw[e1] at q;exact q
 |ok d =>
  rw[e1] at q;intro v H1 H01 g1 r1;cases d with
  |int j =>
   replace q:match (if -4611686018427387904<=j/\j<4611686018427387904 then aj.ok (intsFrom 0 j.toNat) else .stuck) with
    |.ok ds=>∀J H' Ha',bB H Ha H' Ha'->Ou X.K ds J Ha'->R J H'
    |.exn x=>∀C ox H' Ha',bB H Ha H' Ha'->AJ X.K Ha' x C ox->E C ox H'
    |.stuck=>False:=q
   by_cases hj:-4611686018427387904<=j/\j<4611686018427387904
   .rw[if_pos hj] at q
    rw[aC.mp r1];exact⟨j,rfl,hj.1,hj.2,q _ H1 H01 g1 v7⟩
   .rw[if_neg hj] at q;exact q.elim
  |_=>exact q.elim
end
noncomputable def kI(src:Ev->aj (List D)) (tg:Ev->D->aj Ev) (s:Ev->aj Fl):Ev->aj Fl:=λρ=>(src ρ).bind λds=>cB tg s ds ρ
section
variable {X:Cx}{E:XK}{He η:Hp}{st:V0}{s:Ev->aj Fl}{pos:Pos}
def gN.step2{K:Ut}(z:aG Hb Ha)(h:dD K He η Ha σ H ρ)(q:b5 K E He η Ha (cB tg s (ds.drop i) ρ) D')(hd:ds[i]?=some d)(rv:Rep K Ha d v)
  (he:∀ρ,tg ρ d=.stuck∨∃ρ',tg ρ d=.ok ρ') :
  tG K He η tg v σ H λσ2 H2=>tS K E He η s { D' with nx:=gN K E He η Hb tg s ds D' (i+1),ct:=gN K E He η Hb tg s ds D' (i+1),bk:=D'.nx } σ2 H2:=by
 have hi:i<ds.length:=(UA.mp hd).1;have hdr:ds.drop i=d::ds.drop (i+1):=by
  rw[Vm hi];rw[UB hi] at hd;cases hd;rfl
 rw[hdr] at q;refine⟨Ha,ρ,d,h,rv,?_⟩;unfold cB at q;rcases he ρ with e1|⟨ρ1,e1⟩
 .rw[e1] at q;exact q.elim
 .rw[e1] at q ⊢
  intro σ' H' Ha' z' h';refine⟨Ha',ρ1,h',?_⟩;replace q:=b5.grow (r:=(s ρ1).bind λx=>match x with
   |.nx ρ2=>cB tg s (ds.drop (i+1)) ρ2
   |.ct ρ2=>cB tg s (ds.drop (i+1)) ρ2
   |.bk ρ2=>.ok (.nx ρ2)
   |.rt d=>.ok (.rt d)) q z'
  cases e2:s ρ1 with
  |stuck|exn x=>rw[e2] at q;exact q
  |ok r =>
   rw[e2] at q;cases r with|nx ρ2=>exact λσ3 H3 H03 z3 h3=>⟨H03,ρ2,(z.trans z').trans z3,h3,b5.grow (r:=cB tg s (ds.drop (i+1)) ρ2) q z3⟩|ct ρ2=>exact λσ3 H3 H03 z3 h3=>⟨H03,ρ2,(z.trans z').trans z3,h3,b5.grow (r:=cB tg s (ds.drop (i+1)) ρ2) q z3⟩|bk ρ2|rt d=>exact q
def rf(hp:PassesOwn (UM X.prog X.w) X.A X.env X.xe)(hc:X.calm=true)(hi:DI X E tgt iter src)(hg:DG X E He η tgt tg)(ht:wI tg)(hb:AQ X E He η body s)
  (hs:∀x,foldedSetIterable iter X.env x=pure x:=by intro _;rfl):DS X E He η (.For tgt iter body [] pos) (kI src tg s):=by
 refine⟨bN (xf hp hc hi.o hg.o hb.o hs) λD' σ H z9=>?_⟩;obtain⟨Ha,ρ,h,q⟩:=z9;refine⟨Ha,ρ,h.g.sub,h.rd,?_⟩;unfold kI at q;cases e1:src ρ with
 |stuck=>rw[e1] at q;exact q|exn x=>rw[e1] at q;exact λC ox H' Ha' g r=>q C ox H' Ha' (h.g.trans g) r
 |ok ds =>
  rw[e1] at q;intro J H1 H01 g it;have q1:b5 X.K E He η H01 (cB tg s ds ρ) D':=b5.grow (r:=cB tg s ds ρ) q g.z;refine⟨λi m σ' H'=>m+i=ds.length/\gN X.K E He η H01 tg s ds D' i σ' H',⟨ds.length,rfl,H01,ρ,aG.refl _,h.grow g,q1⟩,?_⟩;rintro i m σ' H' ⟨hm,Ha',ρ',z,h',hq⟩
  by_cases hlt:i<ds.length
  .refine .inr ⟨it.go i H' Ha' z h'.g.sub hlt,λσ2 H2=>gN X.K E He η H01 tg s ds D' (i+1) σ2 H2,λσ2 H2 hl=>⟨m-1,by omega,by omega,hl⟩,λx H2 hy=>?_⟩
   obtain⟨H₀2,g2,rp⟩:=it.yld i H' Ha' x H2 ds[i] z h'.g.sub (UB hlt) hy;exact gN.step2 (z.trans g2.z) (h'.grow g2) (b5.grow (r:=cB tg s (ds.drop i) ρ') hq g2.z) (UB hlt) rp λρ=>ht ρ _
  .have e:i=ds.length:=by omega
   refine .inl ⟨it.stop i H' Ha' z h'.g.sub (by omega),?_⟩;subst e;exact gN.done ⟨Ha',ρ',z,h',hq⟩
end
def oC(f:Ev->aj D):Prop:=∀ρ d,f ρ=.ok d->∃ds,d=.lst ds
def yN{K:Ut}(hf:oC f)(h:tD K E f σ H Q):tF K E f σ H Q:=by
 obtain⟨Ha,ρ,hs,hr,q⟩:=h;refine⟨Ha,ρ,hs,hr,?_⟩;cases e1:f ρ with
 |stuck|exn x=>rw[e1] at q;exact q
 |ok d =>
  obtain⟨ds,rfl⟩:=hf ρ d e1;rw[e1] at q;intro p vs H' Ha' g hp h0 hv rp;have n0:Ha p=none:=hs.free hp;refine q (.ref p) H' (upd Ha' p (.lst vs)) ⟨g.s,λb o e=>?_,λb o e=>?_,λb k1 k2=>?_⟩ (aI.mpr ⟨p,vs,rfl,eX.of aB,rp.mono λb o e=>?_⟩)
  .rw[aw (by intro z;subst z;rw[n0] at e;cases e)];exact g.z _ _ e
  .by_cases hb:b=p
   .subst hb;rw[aB] at e;cases e;exact hv
   .rw[aw hb] at e;exact g.sub _ _ e
  .by_cases hb:b=p
   .subst hb;exact hp
   .rw[aw hb] at k1;exact g.nw b k1 k2
  .rw[aw (by intro z;subst z;rw[h0] at e;cases e)];exact e
def Io(hf:oC f)(h:DF X E e f):DE X E e f:=⟨aZ h.o λσ H Q q=>yN hf q⟩
noncomputable def dM(n:Nat) (fr:List Nat) (ρ:Ev):Ev:=UK n .no++fr.map λ(i:Nat)=>match ρ[i]? with
 |some (.sh d)=>.sh d
 |_=>.no
noncomputable def cu(b:Ev) (tg:Ev->D->aj Ev) (tt fe:Ev->aj D):List D->aj (List D)
 |[]=>.ok []
 |d::r=>(tg b d).bind λρ1=>(tt ρ1).bind λt=>match t with
  |.bl true=>(fe ρ1).bind λx=>(cu b tg tt fe r).bind λxs=>.ok (x::xs)
  |.bl false=>cu b tg tt fe r
  |_=>.stuck
noncomputable def eO(n:Nat) (fr:List Nat) (src:Ev->aj (List D)) (tg:Ev->D->aj Ev) (tt fe:Ev->aj D):Ev->aj D:=λρ=>(src ρ).bind λds =>
 if ds.length<=line then match cu (dM n fr ρ) tg tt fe ds with
  |.ok es=>.ok (.lst es)
  |_=>.stuck
 else .stuck
def pD{fr:List Nat}:oC (eO n fr src tg tt fe):=λρ d h=>by
 unfold eO at h;cases e1:src ρ with
 |stuck|exn x=>rw[e1] at h;cases h
 |ok ds =>
  rw[e1] at h;replace h:(if ds.length<=line then match cu (dM n fr ρ) tg tt fe ds with
   |.ok es=>aj.ok (D.lst es)
   |_=>.stuck else .stuck)=.ok d:=h
  split at h
  .split at h
   .cases h;exact⟨_,rfl⟩
   .cases h
  .cases h
def j7(h:cu b tg tt fe (d::r)=.ok es) :
  ∃ρ1 t,tg b d=.ok ρ1/\tt ρ1=.ok (.bl t)/\((t=true/\∃x xs,fe ρ1=.ok x/\cu b tg tt fe r=.ok xs/\es=x::xs)∨(t=false/\cu b tg tt fe r=.ok es)):=by
 unfold cu at h;cases e1:tg b d with
 |stuck|exn z=>rw[e1] at h;cases h
 |ok ρ1 =>
  rw[e1] at h;replace h:((tt ρ1).bind λt=>match t with
   |.bl true=>(fe ρ1).bind λx=>(cu b tg tt fe r).bind λxs=>aj.ok (x::xs)
   |.bl false=>cu b tg tt fe r
   |_=>.stuck)=.ok es:=h
  cases e2:tt ρ1 with
  |stuck|exn z=>rw[e2] at h;cases h
  |ok t =>
   rw[e2] at h;cases t with
   |bl t =>
    cases t with
    |true =>
     replace h:((fe ρ1).bind λx=>(cu b tg tt fe r).bind λxs=>aj.ok (x::xs))=.ok es:=h;cases e3:fe ρ1 with
     |stuck|exn z=>rw[e3] at h;cases h
     |ok x =>
      rw[e3] at h;replace h:((cu b tg tt fe r).bind λxs=>aj.ok (x::xs))=.ok es:=h;cases e4:cu b tg tt fe r with|stuck|exn z=>rw[e4] at h;cases h|ok xs=>rw[e4] at h;cases h;exact⟨ρ1,true,rfl,e2,.inl ⟨rfl,x,xs,e3,rfl,rfl⟩⟩
    |false=>exact⟨ρ1,false,rfl,e2,.inr ⟨rfl,h⟩⟩
   |_=>cases h
def jG(h1:tg b d=.ok ρ1)(h2:tt ρ1=.ok (.bl true))(h3:fe ρ1=.ok x):cu b tg tt fe (d::r)=(cu b tg tt fe r).bind λxs=>.ok (x::xs):=by
 rw[cu,h1];simp only[aj.bind,h2,h3]
def uX(h1:tg b d=.ok ρ1)(h2:tt ρ1=.ok (.bl false)):cu b tg tt fe (d::r)=cu b tg tt fe r:=by
 rw[cu,h1];simp only[aj.bind,h2]
theorem pE:∀{r q es:List D},cu b tg tt fe (r++q)=.ok es->∃e1 e2,cu b tg tt fe r=.ok e1/\cu b tg tt fe q=.ok e2/\es=e1++e2
 |[],q,es,h=>⟨[],es,rfl,h,rfl⟩
 |d::r,q,es,h=>by
  obtain⟨ρ1,t,h1,h2,h3⟩:=j7 h;rcases h3 with⟨rfl,x,xs,h3,h4,rfl⟩|⟨rfl,h4⟩
  .obtain⟨e1,e2,k1,k2,rfl⟩:=pE h4
   refine⟨x::e1,e2,?_,k2,rfl⟩;rw[jG h1 h2 h3,k1];rfl
  .obtain⟨e1,e2,k1,k2,rfl⟩:=pE h4
   refine⟨e1,e2,?_,k2,rfl⟩;rw[uX h1 h2];exact k1
theorem j6{b:Ev}{tg:Ev->D->aj Ev}{tt fe:Ev->aj D}:∀{r q e1 e2:List D},cu b tg tt fe r=.ok e1->cu b tg tt fe q=.ok e2->cu b tg tt fe (r++q)=.ok (e1++e2)
 |[],q,e1,e2,h,h'=>by cases h;exact h'
 |d::r,q,e1,e2,h,h'=>by
  obtain⟨ρ1,t,h1,h2,h3⟩:=j7 h;show cu b tg tt fe (d::(r++q))=_;rcases h3 with⟨rfl,x,xs,h3,h4,rfl⟩|⟨rfl,h4⟩
  .rw[jG h1 h2 h3,j6 h4 h'];rfl
  .rw[uX h1 h2];exact j6 h4 h'
theorem uY:∀{r es:List D},cu b tg tt fe r=.ok es->es.length<=r.length
 |[],es,h=>by cases h;exact UJ _
 |d::r,es,h=>by
  obtain⟨ρ1,t,h1,h2,h3⟩:=j7 h;rcases h3 with⟨rfl,x,xs,h3,h4,rfl⟩|⟨rfl,h4⟩
  .exact Nat.succ_le_succ (uY h4)
  .exact Nat.le_succ_of_le (uY h4)
noncomputable def B8(n:Nat) (tg:Ev->D->aj Ev):Prop:=∀ρ d ρ',tg ρ d=.ok ρ'->ρ'.length=ρ.length/\∀(k:Nat),n<=k->ρ'[k]?=ρ[k]?
def eR(h:i<n):B8 n (b3 i):=λρ d ρ' e=>by
 cases e;exact⟨by simp,λk hk=>by rw[Uz (by omega)]⟩
def BX{K:Ut}{fr:List Nat}(h:Reads K Ha σ ρ):Reads K Ha (km n fr σ) (dM n fr ρ):=λi d e=>by
 unfold dM at e;unfold km
 by_cases hi:i<n
 .rw[UQ (by simpa using hi),U7,if_pos hi] at e
  cases e
 .rw[UZ (by simpa using hi),Vu,UL] at e ⊢
  cases hf:fr[i-n]? with
  |none=>rw[hf] at e;cases e
  |some j =>
   rw[hf] at e;simp only[Wx,Wo] at e ⊢;cases hj:ρ[j]? with
   |none=>rw[hj] at e;cases e
   |some s =>
    rw[hj] at e;cases s with
    |sh d' =>
     cases e;obtain⟨v,h1,h2⟩:=h j d hj;exact⟨v,by rw[h1];rfl,h2⟩
    |_=>cases e
def Ll{fr:List Nat}{k:Nat}(h:k<n):(dM n fr ρ)[k]?=some .no:=by
 unfold dM;rw[UQ (by simpa using h),U7,if_pos h]
def IL{fr:List Nat}(i j:Nat)(es:List D):(dM n fr ρ)[i]?≠some (.ox j es):=λe=>by
 unfold dM at e
 by_cases hj:i<n
 .rw[UQ (by simpa using hj),U7,if_pos hj] at e;cases e
 .rw[UZ (by simpa using hj),UL] at e
  cases hf:fr[i-(UK n Sl.no).length]? with
  |none=>rw[hf] at e;cases e
  |some z =>
   rw[hf] at e;simp only[Wx,Wo] at e;split at e<;>cases e
def Fo{fr:List Nat}{σ:L2.St}(i:Nat)(a:Uw)(e:(dM n fr ρ)[i]?=some (.pt a)):σ[i]?=some (some (.ref a)):=by
 unfold dM at e
 by_cases hj:i<n
 .rw[UQ (by simpa using hj),U7,if_pos hj] at e;cases e
 .rw[UZ (by simpa using hj),UL] at e
  cases hf:fr[i-(UK n Sl.no).length]? with
  |none=>rw[hf] at e;cases e
  |some z =>
   rw[hf] at e;simp only[Wx,Wo] at e;split at e<;>cases e
def AF{fr:List Nat}:(dM n fr ρ).length=n+fr.length:=by unfold dM;simp
def BQ{K:Ut}{fr:List Nat}(hsame:aG Ha H)(g1:bB H Ha H1 H01)(it:Ou K ds J H01)(hl:ds.length<=line)
  (e2:cu (dM n fr ρ) tg tt fe ds=.ok es)(hr:Reads K H01 σ ρ)(hok:B8 n tg)
  (q:∀p vs H' Ha',bB H Ha H' Ha'->H p=none->Ha' p=none->H' p=some (.lst vs)->Reps K Ha' es vs->Q (.ref p) H') :
  rR n fr (NA K tg) (Oz K E tt) (tD K E fe) J σ H1 Q:=by
 intro Da hDa;have h0D:H01 Da=none:=g1.sub.free hDa;refine⟨λi m ys σ' H'=>m=ds.length-i/\i<=ds.length/\σ'.length=n+fr.length/\∃Ha',bB H1 H01 H' Ha'/\Ha' Da=none/\H' Da=some (.lst ys)/\Reads K Ha' σ' (dM n fr ρ)/\∃es1,cu (dM n fr ρ) tg tt fe (ds.take i)=.ok es1/\Reps K Ha' es1 ys,
  ⟨ds.length,by simp,V6 _,by unfold km;simp,H01,?_,h0D,aB,BX hr,[],rfl,Reps.nil⟩,?_⟩
 .refine⟨λb o e=>by rw[aw (bb e hDa)];exact e,aG.refl _,λb o e=>?_,λb k1 k2=>absurd k2 k1⟩
  rw[aw (by intro z;subst z;rw[h0D] at e;cases e)];exact g1.sub _ _ e
 .rintro i m ys σ' H' ⟨rfl,hile,hsl,Ha',gg,hD0,hDl,hrd,es1,hes1,hys⟩
  refine⟨hDl,?_⟩
  by_cases hlt:i<ds.length
  .refine .inr ⟨it.go i H' Ha' gg.z gg.sub hlt,?_,?_⟩
   .rw[←hys.length]
    have:=uY hes1;rw[Vn] at this;have h2:line<sizeLine:=by decide
    omega
   .intro x H2 hy
    obtain⟨H₀2,g2,rp⟩:=it.yld i H' Ha' x H2 ds[i] gg.z gg.sub (UB hlt) hy;have hsplit:ds=ds.take i++(ds[i]::ds.drop (i+1)):=by rw[←Vm hlt,List.take_append_drop]
    rw[hsplit] at e2;obtain⟨a1,a2,k1,k2,k3⟩:=pE e2;rw[hes1] at k1;cases k1;obtain⟨ρ1,t,t1,t2,t3⟩:=j7 k2;have hn2:H₀2 Da=none:=by
     cases qq:H₀2 Da with|none=>rfl|some o=>have:=g2.nw Da (by rw[qq];simp) hD0;rw[hDl] at this;cases this
    have hD2:H2 Da=some (.lst ys):=g2.s _ _ hDl;refine⟨H2,H₀2,H₀2,dM n fr ρ,ds[i],⟨bB.refl g2.sub,hrd.mono g2.z,λj d' e=>?_,λj k d1 d2 _ e=>?_,by rw[AF,hsl],OX.none IL Fo⟩,rp,?_⟩
    .unfold dM at e
     by_cases hj:j<n
     .rw[UQ (by simpa using hj),U7,if_pos hj] at e;cases e
     .rw[UZ (by simpa using hj),UL] at e
      cases hf:fr[j-(UK n Sl.no).length]? with
      |none=>rw[hf] at e;cases e
      |some z =>
       rw[hf] at e;simp only[Wx,Wo] at e;split at e<;>cases e
    .unfold dM at e
     by_cases hj:j<n
     .rw[UQ (by simpa using hj),U7,if_pos hj] at e;cases e
     .rw[UZ (by simpa using hj),UL] at e
      cases hf:fr[j-(UK n Sl.no).length]? with
      |none=>rw[hf] at e;cases e
      |some z =>
       rw[hf] at e;simp only[Wx,Wo] at e;split at e<;>cases e
    .rw[t1]
     intro σ3 H3 H03 z3 s3;have hrl:=hok _ _ _ t1;have hσ3:σ3.length=n+fr.length:=by rw[←s3.ln,hrl.1,AF]
     have back:∀{Hx:Hp},aG H03 Hx->Reads K Hx σ3 (dM n fr ρ):=λ{Hx} sx k d e=>by
      by_cases hk:k<n
      .rw[Ll hk] at e;cases e
      .rw[←hrl.2 k (by omega)] at e
       obtain⟨v,h1,h2⟩:=s3.rd k d e;exact⟨v,h1,h2.mono sx⟩
     have n3:H03 Da=none:=by
      cases qq:H03 Da with|none=>rfl|some o=>have:=s3.g.nw Da (by rw[qq];simp) hn2;rw[hD2] at this;cases this
     have hD3:H3 Da=some (.lst ys):=s3.g.s _ _ hD2;refine⟨H03,ρ1,s3.g.sub,s3.rd,?_⟩;rw[t2];intro H4 H04 g4;have hD4:H4 Da=some (.lst ys):=g4.s _ _ hD3;have n4:H04 Da=none:=by
      cases qq:H04 Da with|none=>rfl|some o=>have:=g4.nw Da (by rw[qq];simp) n3;rw[hD3] at this;cases this
     have htake:ds.take (i+1)=ds.take i++[ds[i]]:=by rw[List.take_add_one,UB hlt];rfl
     have g04:=(gg.trans g2).trans (s3.g.trans g4);rcases t3 with⟨rfl,y,xs,t3,t4,_⟩|⟨rfl,t4⟩
     .rw[if_pos rfl]
      refine⟨H04,ρ1,g4.sub,s3.rd.mono g4.z,?_⟩;rw[t3];intro yv H5 H05 g5 ry;have hD5:H5 Da=some (.lst ys):=g5.s _ _ hD4;have n5:H05 Da=none:=by
       cases qq:H05 Da with|none=>rfl|some o=>have:=g5.nw Da (by rw[qq];simp) n4;rw[hD4] at this;cases this
      have gall:=g04.trans g5;refine⟨hD5,ds.length-(i+1),by omega,rfl,hlt,hσ3,H05,⟨λb o e=>?_,gall.z,λb o e=>?_,gall.nw⟩,n5,aB,back (g4.z.trans g5.z),es1++[y],?_,?_⟩
      .rw[aw (bb e hDa)];exact gall.s _ _ e
      .rw[aw (by intro z;subst z;rw[n5] at e;cases e)];exact gall.sub _ _ e
      .rw[htake]
       refine j6 hes1 ?_;rw[jG t1 t2 t3];rfl
      .exact(hys.mono ((g2.z.trans s3.g.z).trans (g4.z.trans g5.z))).app (Reps.cons ry Reps.nil)
     .rw[if_neg VC]
      refine⟨ds.length-(i+1),by omega,rfl,hlt,hσ3,H04,g04,n4,hD4,back g4.z,es1,?_,hys.mono ((g2.z.trans s3.g.z).trans g4.z)⟩;rw[htake];rw[show es1=es1++[] by simp];refine j6 hes1 ?_;rw[uX t1 t2];rfl
  .have hi2:i=ds.length:=by omega
   refine .inl ⟨it.stop i H' Ha' gg.z gg.sub (by omega),?_⟩;rw[hi2,Yr] at hes1;rw[e2] at hes1;cases hes1;exact q Da ys H' Ha' (g1.trans gg) (g1.s.free hDa) hD0 hDl hys
structure RJ (X:Cx) (E:XK) (ifs:List Vk) (f:Ev->aj D):Prop where
 o:OV X ifs (Oz X.K E f)
def mYes:Ev->aj D:=λ_=>.ok (.bl true)
def lQ:RJ X E [] mYes:=⟨λπ s σ H Q I ⟨Ha,ρ,hs,hr,q⟩=>Cw π s σ H Q I (q H Ha (bB.refl hs))⟩
def xY(h:DT X E c f):RJ X E [c] f:=⟨Ka h.o⟩
structure Rv (X:Cx) (E:XK) (e:Vk) (f:Ev->aj D):Prop where
 ev:PE X e (tF X.K E f)
 st:∀{i:Nat}{x:US}{pos' spos:Pos},X.N.Nodup->X.N[i]?=some x->X.env.scope.names.lookup x=some .local -> Vz e (some (.Name x pos')) spos.line X.env=pure true->PS X (.Assign [.Name x pos'] e spos) (JQ (tF X.K E f) (De i))
def Ui(N:List US)(n:Nat)(fr:List Nat)(hc:X.calm=true)(hi:DI X E tgt iter src)(hok:B8 n tg)
  (blk:∀s H C fp pn,(∀He η,DG (dz X N scope s H C fp pn) E He η tgt tg)/\RJ (dz X N scope s H C fp pn) E ifs tt/\DE (dz X N scope s H C fp pn) E elt fe)
  (hfr:Cc X N n fr scope)(hcell:∀x∈scope.names,x.2≠.cell)(hfree:∀x∈scope.names,x.2=.free->X.env.scope.names.lookup x.1=some .cell)(hkind:scope.kind=.function)(hnames:∀x∈scope.names,x.2=.local -> scope.names.lookup x.1=some .local)
  (hs:∀x,foldedSetIterable iter X.env x=pure x:=by intro _;rfl):Rv X E (.ListComp elt [⟨tgt,iter,ifs,0⟩] scope pos) (eO n fr src tg tt fe):=by
 have blk':∀s H C fp pn,PG (dz X N scope s H C fp pn) tgt (NA X.K tg)/\OV (dz X N scope s H C fp pn) ifs (Oz X.K E tt)/\PE (dz X N scope s H C fp pn) elt (tD X.K E fe):=λs H C fp pn =>
  ⟨λπ s' σ' H' v u Q' I r ⟨He,η,q'⟩=>((blk s H C fp pn).1 He η).o π s' σ' H' v u Q' I r q',(blk s H C fp pn).2.1.o,(blk s H C fp pn).2.2.o⟩
 have first:∀{π:List (Uw×Obj)}{s:UE}{σ:L2.St}{H:Hp}{Q:VK}{RR:Us->Uw->Result->UE->Prop},L2.Inv X π σ H s->tF X.K E (eO n fr src tg tt fe) σ H Q ->
   (∀(Da C:Uw) (s6:UE) (H5:Hp) (m:US->Option Us),L2.Inv X π σ H5 s6->s6.heap.Ns C m->oG X π H5 C->Q (.ref Da) H5->RR (.ref Da) C (.ok .next) s6) ->
   UO (UM X.prog X.w) X.A (eval iter X.env) (λx sg=>UO (UM X.prog X.w) X.A (pyIter x) (λit si=>UO (UM X.prog X.w) X.A (newList []) (λacc sj =>
    UO (UM X.prog X.w) X.A (newFunctionEnv scope X.env.globals (iH X.env.cells scope.names []) [] X.env.qual none .none (some X.env)) (λcenv sk =>
     WC (UM X.prog X.w) X.A (.compStart (.ListComp elt [⟨tgt,iter,ifs,0⟩] scope pos) 0 it acc { cenv with scope:=relabel scope X.env }) (RR acc cenv.locals) sk) X.xe sj) X.xe si) X.xe sg) X.xe s:=by
  intro π s σ H Q RR I ⟨Ha,ρ,hsame,hr,q⟩ fin;refine cH (hi.o π s σ H (λJ H1=>rR n fr (NA X.K tg) (Oz X.K E tt) (tD X.K E fe) J σ H1 Q) I ⟨Ha,ρ,hsame,hr,?_⟩) λv s1 h1=>cH h1 λitv s2 h2=>wm (N:=N) hc hfr hcell hfree hkind blk' h2 fin;unfold eO at q;cases e1:src ρ with
  |stuck|exn x=>rw[e1] at q;exact q
  |ok ds =>
   rw[e1] at q;intro J H1 H01 g1 it;replace q:match (if ds.length<=line then match cu (dM n fr ρ) tg tt fe ds with
     |.ok es=>aj.ok (D.lst es)
     |_=>.stuck else .stuck) with
    |.ok (.lst ds)=>∀p vs H' Ha',bB H Ha H' Ha'->H p=none->Ha' p=none->H' p=some (.lst vs)->Reps X.K Ha' ds vs->Q (.ref p) H'
    |.ok _=>False
    |.exn x=>∀C ox H' Ha',bB H Ha H' Ha'->AJ X.K Ha' x C ox->E C ox H'
    |.stuck=>False:=q
   by_cases hl:ds.length<=line
   .rw[if_pos hl] at q
    cases e2:cu (dM n fr ρ) tg tt fe ds with
    |stuck|exn x=>rw[e2] at q;exact q.elim
    |ok es =>
     rw[e2] at q;exact BQ hsame g1 it hl e2 (hr.mono g1.z) hok q
   .rw[if_neg hl] at q;exact q.elim
 have hcl:∀{π:List (Uw×Obj)}{s:UE}{σ:L2.St}{H:Hp},L2.Inv X π σ H s->closureFor scope X.env=pure (iH X.env.cells scope.names []):=λ{π s σ H} I=>ma λy hy hf=>I.ok.has y.1 (.inl (hfree y hy hf));refine⟨λπ s σ H Q I h=>?_,λ{i x pos' spos} hN hi' hx hsw π s σ H D' I h=>?_⟩
 .rw[eval_ListComp]
  refine wpAny_comprehension_free (use:=none) rfl hs (hcl I) hkind hnames (first (RR:=λacc C=>compPost (UM X.prog X.w) X.A X.xe none (EP X π σ Q) acc C) I h λDa C s6 H5 m I6 ns fC q=>?_);refine⟨m,ns,λh' sb=>⟨.ref Da,H5,?_,rfl,q⟩⟩;exact I6.turned (t':=s6.toks) (it:=C) (λb o hb e=>(sb.2 b hb).trans e) fC.1 fC.2.1 fC.2.2.2.1 fC.2.2.2.2.1 fC.2.2.2.2.2
 .rw[exec_Assign_Name_used _ _ _ _ hsw]
  refine Uu (wpAny_standAt (Uu ?_));show UO _ X.A (do let _ ←comprehension (.ListComp elt [⟨tgt,iter,ifs,0⟩] scope pos) scope X.env _ (newList []) false (eval iter X.env) (some (assign (.Name x pos') X.env))) _ _ s;refine Uu (Vs (wpAny_comprehension_free (use:=some (assign (.Name x pos') X.env)) (Q:=λ_ s'=>SP X π D' .next s') rfl hs (hcl I) hkind hnames
   (first (RR:=λacc C=>compPost (UM X.prog X.w) X.A X.xe (some (assign (.Name x pos') X.env)) (λ_ s'=>SP X π D' .next s') acc C) I h λDa C s6 H5 m I6 ns fC q=>?_)) (λ_ s' hq=>UU (UU hq)) λ_ _ e=>e)
  show UO _ X.A (assign (.Name x pos') X.env (.ref Da)) _ _ _;refine wpAny_assign_Name (oU (v:=.ref Da) I6 hN hi' (.inl hx) rfl (λs' I' z9=>?_) (.inr hx));obtain⟨a,sb,ha⟩:=z9;have hCa:C≠a:=by
   rcases ha with rfl|ha
   .exact fC.2.1
   .exact λz=>fC.2.2.2.2.1 x a ha z.symm
  refine⟨m,ns.sameBut sb hCa,λh' sb'=>⟨_,H5,?_,q⟩⟩;exact I'.turned (t':=s'.toks) (it:=C) (λb o hb e=>(sb'.2 b hb).trans e) fC.1 fC.2.1 fC.2.2.2.1 fC.2.2.2.2.1 fC.2.2.2.2.2
def QW(h:Rv X E e f):DF X E e f:=⟨h.ev⟩
def uR{fr:List Nat}(h:Rv X E e (eO n fr src tg tt fe)):DE X E e (eO n fr src tg tt fe):=Io pD (QW h)
section
variable {X:Cx}{E:XK}{He η:Hp}{e:Vk}{f:Ev->aj D}{s:Ev->aj Fl}{pos:Pos}{st:V0}
noncomputable def unown(i:Nat) (ρ:Ev):Ev:=match ρ[i]? with
 |some (.ow d)=>ρ.set i (.sh d)
 |_=>ρ
def Ew(i:Nat)(s:Ev->aj Fl):Ev->aj Fl:=λρ=>s (unown i ρ)
def dD.unown{K:Ut}(h:dD K He η Ha σ H ρ)(i:Nat):∃Ha',aG Ha Ha'/\dD K He η Ha' σ H (DL.unown i ρ):=by
 unfold DL.unown;cases e:ρ[i]? with
 |none=>exact⟨Ha,aG.refl _,h⟩
 |some s =>
  cases s with
  |no|sh d|ox j ds|pt a=>exact⟨Ha,aG.refl _,h⟩
  |ow d =>
   obtain⟨a,k1,k2,k3,k4⟩:=h.ow i d e;obtain⟨o,h5,hrep⟩:∃o,H a=some o/\∀Hb,aG Ha Hb->Hb a=some o->Rep K Hb d (.ref a):=by
    cases d with
    |lst ds=>obtain⟨vs,h5,h6⟩:=k4;exact⟨_,h5,λHb z e=>aI.mpr ⟨a,vs,rfl,eX.of e,h6.mono z⟩⟩
    |dic ks ds=>obtain⟨vs,h5,hl,h6⟩:=k4;exact⟨_,h5,λHb z e=>by rw[Rep];exact⟨a,_,vs,rfl,.inl e,rfl,hl,h6.mono z⟩⟩
    |_=>exact k4.elim
   have z:aG Ha (upd Ha a o):=λb o' q=>by rw[aw (by intro z;subst z;rw[k3] at q;cases q)];exact q
   have h':dD K He η (upd Ha a o) σ H (ρ.set i .no):=by
    have nset:∀(j:Nat) (s:Sl),(ρ.set i .no)[j]?=some s->s≠.no->j≠i/\ρ[j]?=some s:=λj s q hs=>by
     by_cases hj:i=j
     .subst hj
      rw[Wr] at q;rw[e] at q;cases q;exact absurd rfl hs
     .rw[Uz hj] at q;exact⟨λz=>hj z.symm,q⟩
    refine⟨⟨h.g.s,h.g.z.trans z,λb o' q=>?_,λb q1 q2=>?_⟩,λj d' q=>?_,λj d' q=>?_,λj k d1 d2 hn q1 q2=>?_,by simp [h.ln],h.ex.upd (λj s q=>?_) z (λb us _ eb=>eb) λq us _ q0 hq hd=>?_⟩
    rotate_left 5
    .by_cases hs:s=.no
     .exact .inr (.inr (.inl hs))
     .exact .inl ⟨(nset j s q hs).2,rfl⟩
    .have hq':q≠a:=by
      intro zz;subst zz;exact hd i _ e k1
     exact⟨hq,by rw[aw hq'];exact q0⟩
    .by_cases hb:b=a
     .subst hb;rw[aB] at q;cases q;exact h5
     .rw[aw hb] at q;exact h.g.sub _ _ q
    .by_cases hb:b=a
     .subst hb;exact k2
     .rw[aw hb] at q1;exact h.g.nw b q1 q2
    .obtain⟨hj,q⟩:=nset j _ q (λz=>nomatch z)
     obtain⟨v,q1,q2⟩:=h.rd j d' q;exact⟨v,q1,q2.mono z⟩
    .obtain⟨hj,q⟩:=nset j _ q (λz=>nomatch z)
     obtain⟨b,q1,q2,q3,q4⟩:=h.ow j d' q;have hb:b≠a:=by
      intro zz;subst zz;exact h.ap j i d' d hj q e (by rw[q1,k1])
     refine⟨b,q1,q2,by rw[aw hb];exact q3,?_⟩;cases d' with|lst ds'=>obtain⟨vs',h7,h8⟩:=q4;exact⟨vs',h7,h8.mono z⟩|dic ks' ds'=>obtain⟨vs',h7,hl,h8⟩:=q4;exact⟨vs',h7,hl,h8.mono z⟩| _=>exact q4.elim
    .obtain⟨_,q1⟩:=nset j _ q1 (λz=>nomatch z)
     obtain⟨_,q2⟩:=nset k _ q2 (λz=>nomatch z);exact h.ap j k d1 d2 hn q1 q2
   refine⟨_,z,?_⟩;have hp:=h'.put (i:=i) (d:=d) (v:=.ref a) (hrep _ z aB);rw[List.set_set] at hp;have hσ:σ.set i (some (V.ref a))=σ:=by
    apply List.ext_getElem?;intro k
    by_cases hk:i=k
    .subst hk
     obtain⟨hil,_⟩:=UA.mp k1;rw[U2 hil,k1]
    .rw[Uz hk]
   rw[hσ] at hp;exact hp
def Ih(i:Nat)(h:DS X E He η st s):DS X E He η st (Ew i s):=⟨bN h.o λD' σ H z9=>by
 obtain⟨Ha,ρ,hr,q⟩:=z9;obtain⟨Ha',z,hr'⟩:=hr.unown i;exact⟨Ha',DL.unown i ρ,hr',b5.grow (r:=s (DL.unown i ρ)) q z⟩⟩
end
def ya(N:List US)(n:Nat)(fr:List Nat)(hc:X.calm=true)(hi:DI X E tgt iter src)(hok:B8 n tg)
  (blk:∀s H C fp pn,(∀He η,DG (dz X N scope s H C fp pn) E He η tgt tg)/\RJ (dz X N scope s H C fp pn) E ifs tt/\DE (dz X N scope s H C fp pn) E elt fe)
  (hfr:Cc X N n fr scope)(hcell:(scope.names.all λx=>!(x.2==.cell))=true)(hfree:(scope.names.all λx=>!(x.2==.free)||(X.env.scope.names.lookup x.1==some .cell))=true)(hkind:scope.kind=.function)
  (hnames:(scope.names.all λx=>!(x.2==.local)||(scope.names.lookup x.1==some .local))=true)
  (hs:∀x,foldedSetIterable iter X.env x=pure x:=by intro _;rfl):Rv X E (.ListComp elt [⟨tgt,iter,ifs,0⟩] scope pos) (eO n fr src tg tt fe):=by
 refine Ui N n fr hc hi hok blk hfr (λx hx z=>?_) (λx hx z=>?_) hkind (λx hx z=>?_) hs
 .have:=Vc.mp hcell x hx
  rw[z] at this;simp at this
 .have:=Vc.mp hfree x hx
  rw[z] at this;simpa using this
 .have:=Vc.mp hnames x hx
  rw[z] at this;simpa using this
def DN(hN:X.N.Nodup)(hi:X.N[i]?=some x)(hx:X.env.scope.names.lookup x=some .local)(hl:oC f)(he:Rv X E e f)(hs:Vz e (some (.Name x pos')) pos.line X.env=pure true:=by rfl):DS X E He η (.Assign [.Name x pos'] e pos) (bS i f):=by
 refine⟨bN (he.st hN hi hx hs) λD σ H ⟨Ha,ρ,h,q⟩=>?_⟩;refine yN hl ⟨Ha,ρ,h.g.sub,h.rd,?_⟩;refine plain h q λd v H' Ha' _ g rp q'=>?_;exact q' _ H' Ha' (aG.refl _) ((h.grow g).put rp)
end DL
namespace Com
open PySem L2 DL
noncomputable def fN:Ev->aj Fl :=
 (aA (kG (lM 1) (ag (af 1) (dC (.int 0)) jc)
 (aA (vv 0 1 (ae (af 1) (ae (ag (af 0) (af 1) dZ) az)))
 av))
 (aA (b8 (ao (ae (af 0) az) (m1 Ff)))
 av))
def kQ:List D->aj D:=cj 2 fN
noncomputable def vD:Ev->aj Fl :=
 (aA (bS 2 (ao (ae (af 0) (ae (af 1) az)) kQ))
 (aA (b8 (ao (ae (ag (af 0) (af 2) qF) (ae (ag (af 1) (af 2) qF) az)) dO))
 av))
def Jh:List D->aj D:=cj 3 vD
noncomputable def B3:Ev->aj Fl :=
 (aA (b8 (gX (bD (af 0) (fP "int")) (cM (bD (af 0) (fP "bool")))))
 av)
def m_is_whole:List D->aj D:=cj 1 B3
noncomputable def eN:Ev->aj Fl :=
 (aA (bS 2 (ao (ae (af 0) az) (m1 Ff)))
 (aA (bS 3 (ao (ae (af 1) az) (m1 Ff)))
 (aA (kG (lM 3) (ag (af 3) (dC (.int 0)) jc)
 (aA (bS 4 (ag (af 2) (af 3) dZ))
 (aA (bS 2 (af 3))
 (aA (bS 3 (af 4))
 av))))
 (aA (b8 (af 2))
 av))))
def m_common_divisor:List D->aj D:=cj 5 eN
noncomputable def Lm:Ev->aj Fl :=
 (aA (e7 (iZ (cM (ao (ae (af 0) az) m_is_whole)) (cM (ao (ae (af 1) az) m_is_whole)))
 (aA fU
 av)
 av)
 (aA (e7 (ag (af 1) (dC (.int 0)) gw)
 (aA fU
 av)
 av)
 (aA (bS 2 (ao (ae (af 0) (ae (af 1) az)) m_common_divisor))
 (aA (e7 (ag (af 1) (dC (.int 0)) Q2)
 (aA (bS 2 (bD (af 2) oo))
 av)
 av)
 (aA (b8 (ao (ae (ag (af 0) (af 2) qF) (ae (ag (af 1) (af 2) qF) az)) dO))
 av)))))
def m_ratio:List D->aj D:=cj 3 Lm
noncomputable def Ob:Ev->aj Fl :=
 (aA (b8 (ao (ae (ag (ag (ag (af 0) (dC (.int 0)) aW) (ag (af 1) (dC (.int 1)) aW) dy) (ag (ag (af 1) (dC (.int 0)) aW) (ag (af 0) (dC (.int 1)) aW) dy) b9) (ae (ag (ag (af 0) (dC (.int 1)) aW) (ag (af 1) (dC (.int 1)) aW) dy) az)) m_ratio))
 av)
def m_plus:List D->aj D:=cj 2 Ob
noncomputable def Fq:Ev->aj Fl :=
 (aA (b8 (ag (ag (ag (af 0) (dC (.int 0)) aW) (ag (af 1) (dC (.int 1)) aW) dy) (ag (ag (af 1) (dC (.int 0)) aW) (ag (af 0) (dC (.int 1)) aW) dy) Q2))
 av)
def m_is_less:List D->aj D:=cj 2 Fq
noncomputable def IM:Ev->aj Fl :=
 (aA (bS 1 (dC (.tup [(.int 0),(.int 1)])))
 (aA (qr (af 0) (b3 2)
 (aA (bS 1 (ao (ae (af 1) (ae (af 2) az)) m_plus))
 av))
 (aA (b8 (af 1))
 av)))
def m_sum_of:List D->aj D:=cj 3 IM
def N9{f:α->aj β}:(aj.ok a).bind f=f a:=rfl
def rV(h:s ρ=.ok (.nx ρ')):aA s t ρ=t ρ':=by unfold aA;rw[h];rfl
def Gi(h:s ρ=.ok (.rt d)):aA s t ρ=.ok (.rt d):=by unfold aA;rw[h];rfl
def Gj(h:s ρ=.ok (.nx ρ')):aA s av ρ=.ok (.nx ρ'):=by unfold aA;rw[h];rfl
def MH(h:f ρ=.ok d):bS i f ρ=.ok (.nx (ρ.set i (.sh d))):=by unfold bS;rw[h];rfl
def Gw(h:f (fz ρ)=.ok d):b8 f ρ=.ok (.rt d):=by unfold b8;rw[h];rfl
def kP:jc (.int i) (.int j)=.ok (.bl (!(i==j))):=by unfold jc;rw[if_pos ⟨rfl,rfl⟩,dJ]
def uI:gw (.int i) (.int j)=.ok (.bl (i==j)):=by unfold gw;rw[if_pos ⟨rfl,rfl⟩,dJ]
def AG(h:f ρ=.ok x)(h':fa ρ=.ok xs):ae f fa ρ=.ok (x::xs):=by unfold ae;rw[h,N9,h'];rfl
def Bj(h:b≠0):dZ (.int a) (.int b)=.ok (.int (a.fmod b)):=by
 show(if decide (b≠0)=true then aj.ok (D.int (a.fmod b)) else .stuck)=_;rw[if_pos (decide_eq_true h)]
def tI(a b:Int):VB b (a.fmod b)=VB a b:=by
 rw[Int.fmod_def,Int.gcd_sub_mul_left_right,Int.gcd_comm]
def Dh{a b:Int}(h:b≠0):(a.fmod b).natAbs<b.natAbs:=by
 rcases Int.lt_or_gt_of_ne h with hb|hb
 .have h1:=Yf (-a) (show 0 < -b by omega)
  have h2:=Xc (-a) (show 0 < -b by omega);rw[Int.neg_fmod_neg] at h1 h2;omega
 .have h1:=Yf a hb
  have h2:=Xc a hb;omega
theorem oj:∀(n:Nat) (a b:Int),b.natAbs<n->∃g:Int,g.natAbs=VB a b /\
  dk (ag (af 1) (dC (.int 0)) jc) (aA (vv 0 1 (ae (af 1) (ae (ag (af 0) (af 1) dZ) az))) av) n [.sh (.int a),.sh (.int b)]=.ok (.nx [.sh (.int g),.sh (.int 0)])
 |0,a,b,h=>absurd h (Yz _)
 |n+1,a,b,h=>by
  unfold dk;have c:(ag (af 1) (dC (.int 0)) jc) (fz [.sh (.int a),.sh (.int b)])=.ok (.bl (!(b==0))):=kP;rw[c]
  by_cases hb:b=0
  .subst hb
   exact⟨a,by simp,rfl⟩
  .have e:(!(b==0))=true:=by simp [hb]
   obtain⟨g,h1,h2⟩:=oj n b (a.fmod b) (by have:=Dh (a:=a) hb;omega);refine⟨g,by rw[h1,tI],?_⟩;rw[←h2];rw[e];have st:(aA (vv 0 1 (ae (af 1) (ae (ag (af 0) (af 1) dZ) az))) av) [.sh (.int a),.sh (.int b)]=.ok (.nx [.sh (.int b),.sh (.int (a.fmod b))]):=by
    refine Gj ?_;unfold vv;have:(ae (af 1) (ae (ag (af 0) (af 1) dZ) az)) [.sh (.int a),.sh (.int b)]=.ok [.int b,.int (a.fmod b)]:=by
     exact AG rfl (AG (Bj hb) rfl)
    rw[this];rfl
   show(aj.bind _ _)=_;rw[st];rfl
def NN(a b:Int):kQ [.int a,.int b]=.ok (.int (VB a b)):=by
 obtain⟨g,h1,h2⟩:=oj (b.natAbs+1) a b (Wi _);have w:kG (lM 1) (ag (af 1) (dC (.int 0)) jc) (aA (vv 0 1 (ae (af 1) (ae (ag (af 0) (af 1) dZ) az))) av) [.sh (.int a),.sh (.int b)]=.ok (.nx [.sh (.int g),.sh (.int 0)]):=h2;have r:fN [.sh (.int a),.sh (.int b)]=.ok (.rt (.int (if g<0 then -g else g))):=by
  unfold fN;rw[rV w];exact Gi (Gw rfl)
 show(fN [.sh (.int a),.sh (.int b)]).bind _=_;rw[r];show aj.ok (D.int (if g<0 then -g else g))=_
 congr 2
 rw[←h1];split<;>omega
theorem p9:∀(n:Nat) (x y:D) (a b:Int) (r:Sl),0<=a->0<=b->b.natAbs<n->∃r',
  dk (ag (af 3) (dC (.int 0)) jc) (aA (bS 4 (ag (af 2) (af 3) dZ)) (aA (bS 2 (af 3)) (aA (bS 3 (af 4)) av))) n [.sh x,.sh y,.sh (.int a),.sh (.int b),r]=.ok (.nx [.sh x,.sh y,.sh (.int (VB a b)),.sh (.int 0),r'])
 |0,_,_,a,b,_,_,_,h=>absurd h (Yz _)
 |n+1,x,y,a,b,r,ha,hb0,h=>by
  unfold dk;have c:∀r,(ag (af 3) (dC (.int 0)) jc) (fz [.sh x,.sh y,.sh (.int a),.sh (.int b),r])=.ok (.bl (!(b==0))):=λr=>kP;rw[c]
  by_cases hb:b=0
  .subst hb
   refine⟨r,?_⟩;have e:((VB a 0:Nat):Int)=a:=by simp;omega
   rw[e];rfl
  .have e:(!(b==0))=true:=by simp [hb]
   have hp:0<b:=by omega
   obtain⟨r',h2⟩:=p9 n x y b (a.fmod b) (.sh (.int (a.fmod b))) hb0 (Xc a hp) (by have:=Dh (a:=a) hb;omega);refine⟨r',?_⟩;rw[tI] at h2;rw[←h2,e];have st:(aA (bS 4 (ag (af 2) (af 3) dZ)) (aA (bS 2 (af 3)) (aA (bS 3 (af 4)) av))) [.sh x,.sh y,.sh (.int a),.sh (.int b),r]=.ok (.nx [.sh x,.sh y,.sh (.int b),.sh (.int (a.fmod b)),.sh (.int (a.fmod b))]):=by
    have m:(ag (af 2) (af 3) dZ) [.sh x,.sh y,.sh (.int a),.sh (.int b),r]=.ok (.int (a.fmod b)):=by
     exact Bj hb
    rw[rV (MH m)];rfl
   show(aj.bind _ _)=_;rw[st];rfl
def wq(a b:Int):m_common_divisor [.int a,.int b]=.ok (.int (VB a b)):=by
 have e:∀i:Int,(if i<0 then -i else i)=(i.natAbs:Int):=λi=>by split<;>omega
 obtain⟨r',h⟩:=p9 ((b.natAbs:Int).natAbs+1) (.int a) (.int b) a.natAbs b.natAbs .no (Int.natCast_nonneg _) (Int.natCast_nonneg _) (Wi _);have hg:VB (a.natAbs:Int) (b.natAbs:Int)=VB a b:=by simp [VB]
 rw[hg] at h;have r:eN [.sh (.int a),.sh (.int b),.no,.no,.no]=.ok (.rt (.int (VB a b))):=by
  unfold eN;rw[rV (ρ':=[.sh (.int a),.sh (.int b),.sh (.int (a.natAbs:Int)),.no,.no]) (by rw[←e a];rfl)];rw[rV (ρ':=[.sh (.int a),.sh (.int b),.sh (.int (a.natAbs:Int)),.sh (.int (b.natAbs:Int)),.no]) (by rw[←e b];rfl)];have w:kG (lM 3) (ag (af 3) (dC (.int 0)) jc) (aA (bS 4 (ag (af 2) (af 3) dZ)) (aA (bS 2 (af 3)) (aA (bS 3 (af 4)) av))) [.sh (.int a),.sh (.int b),.sh (.int (a.natAbs:Int)),.sh (.int (b.natAbs:Int)),.no]=.ok (.nx [.sh (.int a),.sh (.int b),.sh (.int (VB a b)),.sh (.int 0),r']):=h;rw[rV w];exact Gi (Gw rfl)
 show(eN [.sh (.int a),.sh (.int b),.no,.no,.no]).bind _=_;rw[r];rfl
def A6:(2:Nat) ^ 64<=Mn:=by rw[yk];exact Zj (by decide) (by decide)
def Qi{i:Int}(h:i.natAbs<18446744073709551616):i.natAbs<Mn:=UY h A6
def ir(h:i.natAbs<18446744073709551616)(h':j.natAbs<18446744073709551616):fF i j=true:=by
 unfold fF;rw[U4];exact⟨decide_eq_true (Qi h),decide_eq_true (Qi h')⟩
def Nq(h:i.natAbs<Mn)(h':j.natAbs<Mn):fF i j=true:=by
 unfold fF;rw[U4];exact⟨decide_eq_true h,decide_eq_true h'⟩
def Mf(h0:j≠0)(h:j.natAbs<B9):iX i j=true:=by
 unfold iX;rw[U4,YB];exact⟨decide_eq_true h0,.inl (decide_eq_true h)⟩
def Im(h0:j≠0)(h:i.natAbs<Ly):iX i j=true:=by
 unfold iX;rw[U4,YB];exact⟨decide_eq_true h0,.inr (decide_eq_true h)⟩
def pf{k:Nat}(h:ds[k]?=some d):aW (.lst ds) (.int (k:Int))=.ok d:=by
 unfold aW;simp only[gz h]
def fQ{a b:Int}(hb:0<b):0<=a.fmod b/\a.fmod b<b:=⟨Xc a hb,Yf a hb⟩
def EU{n k:Nat}(h:k<n):(DL.intsFrom 0 n).drop k=.int (k:Int)::(DL.intsFrom 0 n).drop (k+1):=by
 have hl:(DL.intsFrom 0 n).length=n:=by unfold DL.intsFrom;simp
 rw[Vm (by rw[hl];exact h)]
 congr 1
 unfold DL.intsFrom;simp
def Ht:(DL.intsFrom 0 n).drop n=[]:=by
 have hl:(DL.intsFrom 0 n).length=n:=by unfold DL.intsFrom;simp
 exact List.drop_eq_nil_of_le (by omega)
def xG(h1:tg ρ d=.ok ρ1)(h2:s ρ1=.ok (.nx ρ2)):cB tg s (d::r) ρ=cB tg s r ρ2:=by
 rw[cB,h1,N9,h2,N9]
def FC:D->Bool
 |.int _=>true
 |_=>false
def cC(d:D):m_is_whole [d]=.ok (.bl (FC d)):=by cases d<;>first|rfl|(rename_i k _;cases k<;>rfl)
def zU{a g:Int}(hg:0<g):a.fdiv g=a / g:=Int.fdiv_eq_ediv_of_nonneg a (by omega)
def xE(h:b≠0):0<(VB a b:Int):=by
 have:=Int.gcd_pos_of_ne_zero_right a h;omega
def KQ(p q:Int):D:=.tup [.int p,.int q]
end Com
open Com
namespace Com
open PySem L2 DL
abbrev IY:=Int×Int
def fr(x:IY):D:=KQ x.1 x.2
def Fw:Nat:=1000000000000000000000000000000000000000000000000000000000000
def Lw:Fw<=Ly:=by rw[Je];exact Va (show Fw<=2 ^ 200 by decide) (Zj (by decide) (by decide))
structure Low (x:IY):Prop where
 q1:1<=x.2
 g1:VB x.1 x.2=1
structure wO (x:IY):Prop extends Low x where
 pN:x.1.natAbs<Fw
 qN:x.2.natAbs<Fw
def KC(a b:Int):IY:=(a / VB a b,b / VB a b)
def CW(hb:0<b):Low (KC a b):=by
 have hg:=xE (a:=a) (b:=b) (by omega);refine⟨?_,Int.gcd_ediv_gcd_ediv_gcd (by omega)⟩;have:=Int.ediv_gcd_ne_zero_if_ne_zero_right a (show b≠0 by omega);have h2:0<=b / (VB a b:Int):=Int.ediv_nonneg (by omega) (by omega);show 1<=b / (VB a b:Int);omega
def CZ:(KC a b).1.natAbs<=a.natAbs:=YJ _ _
def CY:(KC a b).2.natAbs<=b.natAbs:=YJ _ _
def Qk(hb:0<b)(h1:a.natAbs<Fw)(h2:b.natAbs<Fw):wO (KC a b):=⟨CW hb,Wu CZ h1,Wu CY h2⟩
def aL{α:Type}{a b:α}(h:a=b):a=b:=h
def MJ(t:Ev->aj Fl)(r:Fl):aj Fl:=match r with
 |.nx ρ'=>t ρ'
 |r=>.ok r
def Pq(i:Nat)(ρ:Ev)(d:D):aj Fl:=.ok (.nx (ρ.set i (.sh d)))
def Pt(d:D):aj Fl:=.ok (.rt d)
def Mc(ρ:Ev)(_:D):aj Fl:=.ok (.nx ρ)
noncomputable def Sy(s t:Ev->aj Fl) (ρ:Ev) (x:D):aj Fl:=match x with
 |.bl b=>if b=true then s ρ else t ρ
 |_=>.stuck
noncomputable def P4(i:Nat) (ρ:Ev) (d:D):aj Fl:=match d with
 |.lst ds=>.ok (.nx (ρ.set i (.ow (.lst ds))))
 |_=>.stuck
noncomputable def M8(s:Option Sl) (k:List D->aj Fl):aj Fl:=match s with
 |some (.ow (.lst ds))=>k ds
 |_=>.stuck
noncomputable def Q8(i:Nat) (ρ:Ev) (ds:List D) (d:D):aj Fl:=if ds.length<line then .ok (.nx (ρ.set i (.ow (.lst (ds++[d]))))) else .stuck
noncomputable def ju(i:Nat) (ρ:Ev) (k:Ev->aj D) (ds:List D) (d:D):aj Fl:=(k ρ).bind (DL.putAt ρ i ds d)
noncomputable def Mu(is:List Nat) (ρ:Ev) (d:D):aj Fl:=match gi is.length d with
 |some ds=>.ok (.nx (eZ ρ is ds))
 |none=>.stuck
noncomputable def P2(i j:Nat) (ρ:Ev) (ds:List D):aj Fl:=match ds with
 |[x,y]=>.ok (.nx ((ρ.set i (.sh x)).set j (.sh y)))
 |_=>.stuck
def k2(g:Ev->aj D)(op:D->D->aj D)(ρ:Ev)(x:D):aj D:=(g ρ).bind (op x)
def BP(x:D)(xs:List D):aj (List D):=.ok (x::xs)
def Mh(fa:Ev->aj (List D))(ρ:Ev)(x:D):aj (List D):=(fa ρ).bind (BP x)
noncomputable def Oc(g:Ev->aj D) (ρ:Ev) (x:D):aj D:=match x with
 |.bl true=>g ρ
 |.bl false=>.ok (.bl false)
 |_=>.stuck
noncomputable def Ss(g:Ev->aj D) (ρ:Ev) (x:D):aj D:=match x with
 |.bl true=>.ok (.bl true)
 |.bl false=>g ρ
 |_=>.stuck
def P8(x:D):aj D:=match x with
 |.bl b=>.ok (.bl (!b))
 |_=>.stuck
def O2(s:Option Sl):aj D:=match s with
 |some (.sh d)=>.ok d
 |_=>.stuck
def Ep(s:Sl):Sl:=match s with
 |.ow d=>.sh d
 |.ox _ ds=>.sh (.tup ds)
 |x=>x
def MO(r:Fl):aj D:=match r with
 |.nx _=>.ok .non
 |.rt d=>.ok d
 |_=>.stuck
def To(x:D):aj (Option Int):=match x with
 |.int i=>.ok (some i)
 |_=>.stuck
def mj(x:D)(l:Option Int)(h:Option Int):aj D:=rT x l h
noncomputable def Sf(hi:Ev->aj (Option Int)) (ρ:Ev) (x:D) (l:Option Int):aj D:=(hi ρ).bind (mj x l)
def Pp(lo hi:Ev->aj (Option Int))(ρ:Ev)(x:D):aj D:=(lo ρ).bind (Sf hi ρ x)
noncomputable def QE(tg:Ev->D->aj Ev) (s:Ev->aj Fl) (ρ:Ev) (d:D):aj Fl:=match d with
 |.lst ds=>cB tg s ds ρ
 |_=>.stuck
noncomputable def Lh(op':D->D->aj D) (h:Ev->aj D) (ρ:Ev) (y z:D):aj D:=match z with
 |.bl true=>(h ρ).bind (op' y)
 |.bl false=>.ok (.bl false)
 |_=>.stuck
noncomputable def NW(op op':D->D->aj D) (h:Ev->aj D) (ρ:Ev) (x y:D):aj D:=(op x y).bind (Lh op' h ρ y)
noncomputable def Tz(op op':D->D->aj D) (g h:Ev->aj D) (ρ:Ev) (x:D):aj D:=(g ρ).bind (NW op op' h ρ x)
section
variable {s t:Ev->aj Fl}{f g h:Ev->aj D}{fa:Ev->aj (List D)}{ρ r:Ev}{i j:Nat}{d x y:D}{ds xs:List D}{op op':D->D->aj D}{a b:Int}
def iw{a:α}{k:α->aj β}:(aj.ok a).bind k=k a:=aL rfl
def tZ:aA s t ρ=(s ρ).bind (MJ t):=aL rfl
def nE:MJ t (.nx ρ)=t ρ:=aL rfl
def nD:MJ t (.rt d)=.ok (.rt d):=aL rfl
def nO:av ρ=.ok (.nx ρ):=aL rfl
def tY:bS i f ρ=(f ρ).bind (Pq i ρ):=aL rfl
def nC:Pq i ρ d=.ok (.nx (ρ.set i (.sh d))):=aL rfl
def ua:b8 f ρ=(f (fz ρ)).bind Pt:=aL rfl
def nH:Pt d=.ok (.rt d):=aL rfl
def n6:ig f ρ=(f (fz ρ)).bind (Mc ρ):=aL rfl
def kX:Mc ρ d=.ok (.nx ρ):=aL rfl
def Ac:e7 f s t ρ=(f (fz ρ)).bind (Sy s t ρ):=aL rfl
def uy:Sy s t ρ (.bl true)=s ρ:=aL rfl
def ux:Sy s t ρ (.bl false)=t ρ:=aL rfl
def uf:jO i f ρ=(f ρ).bind (P4 i ρ):=aL rfl
def nM:P4 i ρ (.lst ds)=.ok (.nx (ρ.set i (.ow (.lst ds)))):=aL rfl
def uF:c8 i f ρ=M8 ρ[i]? λds=>(f ρ).bind (Q8 i ρ ds):=aL rfl
def nL{k:List D->aj Fl}:M8 (some (.ow (.lst ds))) k=k ds:=aL rfl
def gq(h:decide (ds.length<=999)=true):Q8 i ρ ds d=.ok (.nx (ρ.set i (.ow (.lst (ds++[d]))))):=if_pos (Wu (of_decide_eq_true h) (by decide))
def ud:Gq i f g ρ=M8 ρ[i]? λds=>(f ρ).bind (ju i ρ g ds):=aL rfl
def nJ:ju i ρ g ds d=(g ρ).bind (DL.putAt ρ i ds d):=aL rfl
def uz:Ew i s ρ=s (unown i ρ):=aL rfl
def tP:ML is f ρ=(f ρ).bind (Mu is ρ):=aL rfl
def ue:vv i j fa ρ=(fa ρ).bind (P2 i j ρ):=aL rfl
def nK:P2 i j ρ [x,y]=.ok (.nx ((ρ.set i (.sh x)).set j (.sh y))):=aL rfl
def Aj:bD f o ρ=(f ρ).bind o:=aL rfl
def Ai:ag f g op ρ=(f ρ).bind (k2 g op ρ):=aL rfl
def uE:k2 g op ρ x=(g ρ).bind (op x):=aL rfl
def Ah:ao fa m ρ=(fa ρ).bind m:=aL rfl
def uo:az ρ=.ok []:=aL rfl
def n8:ae f fa ρ=(f ρ).bind (Mh fa ρ):=aL rfl
def kZ:Mh fa ρ x=(fa ρ).bind (BP x):=aL rfl
def kY:BP x xs=.ok (x::xs):=aL rfl
def uG:gX f g ρ=(f ρ).bind (Oc g ρ):=aL rfl
def oa:Oc g ρ (.bl true)=g ρ:=aL rfl
def n9:Oc g ρ (.bl false)=.ok (.bl false):=aL rfl
def z8:iZ f g ρ=(f ρ).bind (Ss g ρ):=aL rfl
def uk:Ss g ρ (.bl true)=.ok (.bl true):=aL rfl
def uh:Ss g ρ (.bl false)=g ρ:=aL rfl
def um:cM f ρ=(f ρ).bind P8:=aL rfl
def nN:P8 (.bl c)=.ok (.bl (!c)):=aL rfl
def tO:af i ρ=O2 ρ[i]?:=aL rfl
def nr:O2 (some (.sh d))=.ok d:=aL rfl
def HJ:dC d ρ=.ok d:=aL rfl
def nB:fz []=[]:=aL rfl
def tX:fz (c::r)=Ep c::fz r:=aL rfl
def nA:Ep (.ow d)=.sh d:=aL rfl
def qY:Ep (.ox j ds)=.sh (.tup ds):=aL rfl
def nz:Ep (.sh d)=.sh d:=aL rfl
def ny:Ep .no=.no:=aL rfl
def t9:cj n s ds=(s (ds.map Sl.sh++UK (n-ds.length) .no)).bind MO:=aL rfl
def nG:MO (.rt d)=.ok d:=aL rfl
def nF:MO (.nx ρ)=.ok .non:=aL rfl
def z7:cX f ρ=(f ρ).bind To:=aL rfl
def ug:To (.int a)=.ok (some a):=aL rfl
def z9:de ρ=.ok none:=aL rfl
def zY:lp f lo hi ρ=(f ρ).bind (Pp lo hi ρ):=aL rfl
def tW:Pp lo hi ρ x=(lo ρ).bind (Sf hi ρ x):=aL rfl
def tV:Sf hi ρ x l=(hi ρ).bind (mj x l):=aL rfl
def tU:mj (.lst ds) l l'=.ok (.lst (eP ds l l')):=aL rfl
def uA:qr f tg s ρ=(f ρ).bind (QE tg s ρ):=aL rfl
def nZ:QE tg s ρ (.lst ds)=cB tg s ds ρ:=aL rfl
def k7:iG op op' f g h ρ=(f ρ).bind (Tz op op' g h ρ):=aL rfl
def Ad:Tz op op' g h ρ x=(g ρ).bind (NW op op' h ρ x):=aL rfl
def uD:NW op op' h ρ x y=(op x y).bind (Lh op' h ρ y):=aL rfl
def uC:Lh op' h ρ y (.bl true)=(h ρ).bind (op' y):=aL rfl
def uB:Lh op' h ρ y (.bl false)=.ok (.bl false):=aL rfl
def uw:zO (λ_ _=>true) o (.int a) (.int b)=.ok (o a b):=aL rfl
def uH:b9 (.int a) (.int b)=.ok (.int (a+b)):=aL rfl
def gr(h:decide (ds.length+es.length<=1000)=true):b9 (.lst ds) (.lst es)=.ok (.lst (ds++es)):=if_pos (Va (of_decide_eq_true h) (by decide))
def uq:oo (.int a)=.ok (.int (-a)):=aL rfl
def Ab:m1 m [x]=m x:=aL rfl
def Aa:m2 m [x,y]=m x y:=aL rfl
def eM:dw (.lst ds)=.ok (.int ds.length):=aL rfl
def nP:dw (.tup ds)=.ok (.int ds.length):=aL rfl
def tT(h:decide (ds.length<=1000)=true):dO ds=.ok (.tup ds):=if_pos (Va (of_decide_eq_true h) (by decide))
def uu(h:decide (ds.length<=1000)=true):bJ ds=.ok (.lst ds):=if_pos (Va (of_decide_eq_true h) (by decide))
def eU:fP "str" (.str z)=.ok (.bl true):=aL rfl
def dU:fP "tuple" (.tup ds)=.ok (.bl true):=aL rfl
def er:fP "list" (.non)=.ok (.bl false):=aL rfl
def ez:fP "list" (.lst ds)=.ok (.bl true):=aL rfl
def iA:gW (.non) .non=.ok (.bl true):=aL rfl
def gD:fR (.non) .non=.ok (.bl false):=aL rfl
def iz:gW (.str z) .non=.ok (.bl false):=aL rfl
def iy:gW (.tup ds) .non=.ok (.bl false):=aL rfl
def gC:fR (.tup ds) .non=.ok (.bl true):=aL rfl
def ix(h:fF a b=true):dy (.int a) (.int b)=.ok (.int (a*b)):=if_pos h
def ur(h:(b==0)=false):dZ (.int a) (.int b)=.ok (.int (a.fmod b)):=Bj (λz=>by rw[z] at h;cases h)
def xJ(h:iX a b=true):qF (.int a) (.int b)=.ok (.int (a.fdiv b)):=if_pos h
def nt(h:(ds.length==is.length)=true):Mu is ρ (.tup ds)=.ok (.nx (eZ ρ is ds)):=by
 unfold Mu gi;simp only[if_pos (eq_of_beq h)]
def zZ:eZ ρ (i::is) (d::ds)=eZ (ρ.set i (.sh d)) is ds:=aL rfl
def t8:eZ ρ [] ds=ρ:=aL rfl
noncomputable def RN(i:Nat) (ρ:Ev) (s:Option Sl):Ev:=match s with
 |some (.ow d)=>ρ.set i (.sh d)
 |_=>ρ
def zX:unown i ρ=RN i ρ ρ[i]?:=aL rfl
def tR:RN i ρ (some (.ow d))=ρ.set i (.sh d):=aL rfl
def tQ:RN i ρ (some (.sh d))=ρ:=aL rfl
def z6{j:Int}(h:AM ds.length j=some n):DL.putAt ρ i ds d (.int j)=.ok (.nx (ρ.set i (.ow (.lst (ds.set n d))))):=by
 unfold DL.putAt;simp only[h]
def lP:aW (.lst (x0::xs)) (.int 0)=.ok x0:=by
 unfold aW;simp only[show atI (x0::xs) 0=some x0 from gz (j:=0) rfl]
def nV:aW (.tup (x0::xs)) (.int 0)=.ok x0:=by
 unfold aW;simp only[show atI (x0::xs) 0=some x0 from gz (j:=0) rfl]
def lO:aW (.lst (x0::x1::xs)) (.int 1)=.ok x1:=by
 unfold aW;simp only[show atI (x0::x1::xs) 1=some x1 from gz (j:=1) rfl]
def nU:aW (.tup (x0::x1::xs)) (.int 1)=.ok x1:=by
 unfold aW;simp only[show atI (x0::x1::xs) 1=some x1 from gz (j:=1) rfl]
def nW:aW (.lst (x0::x1::x2::xs)) (.int 2)=.ok x2:=by
 unfold aW;simp only[show atI (x0::x1::x2::xs) 2=some x2 from gz (j:=2) rfl]
def nT:aW (.tup (x0::x1::x2::xs)) (.int 2)=.ok x2:=by
 unfold aW;simp only[show atI (x0::x1::x2::xs) 2=some x2 from gz (j:=2) rfl]
def nS:aW (.tup (x0::x1::x2::x3::xs)) (.int 3)=.ok x3:=by
 unfold aW;simp only[show atI (x0::x1::x2::x3::xs) 3=some x3 from gz (j:=3) rfl]
def nR:aW (.tup (x0::x1::x2::x3::x4::xs)) (.int 4)=.ok x4:=by
 unfold aW;simp only[show atI (x0::x1::x2::x3::x4::xs) 4=some x4 from gz (j:=4) rfl]
def Ag:((2:Nat):Int)=2:=aL rfl
def Af:((4:Nat):Int)=4:=aL rfl
def Ae:((5:Nat):Int)=5:=aL rfl
end
noncomputable def LU(fa:Ev->aj (List D)) (ρ:Ev) (x:D):aj D:=match x with
 |.str z=>(fa ρ).bind (ng z)
 |_=>.stuck
def nQ:wj f fa ρ=(f ρ).bind (LU fa ρ):=aL rfl
def kW:LU fa ρ (.str z)=(fa ρ).bind (ng z):=aL rfl
noncomputable def Pu(g:Ev->aj D) (ρ:Ev) (x:D):aj D:=match x with
 |.lst ds=>(g ρ).bind (Ax (.lst ds))
 |_=>.stuck
def ub:JZ f g ρ=(f ρ).bind (Pu g ρ):=aL rfl
def nI:Pu g ρ (.lst ds)=(g ρ).bind (Ax (.lst ds)):=aL rfl
end Com
local macro_rules|`(tactic|open_line with[$xs,*])=>`(tactic|simp only[iw,tZ,nE,nD,nO,tY,nC,ua,nH,n6,kX,Ac,uy,ux,uf,nM,uF,nL,ud,nJ,uz,tP,ue,nK,Aj,Ai,uE,Ah,uo,n8,kZ,kY,uG,oa,n9,z8,uk,uh,um,nN,tO,nr,HJ,nB,tX,nA,nz,ny,t9,nG,nF,z7,ug,z9,zY,tW,tV,tU,uA,nZ,k7,Ad,uD,uC,uB,uw,uH,uq,Ab,Aa,eM,nP,uI,kP,UW,Wc,U6,Wf,Vx,WT,We,Ws,VY,Vv,W3,W4,W9,Nat.reduceSub,Nat.reduceAdd,XN,XJ,Xy,WJ,tT,uu,gr,gq,ur,nt,zZ,t8,zX,tR,tQ,lP,lO,nW,nV,nU,nT,nS,nR,decide_true,decide_false,Nat.reduceLeDiff,Nat.reduceBEq,Int.reduceBEq,beq_self_eq_true,DL.dOne,DL.mYes,eU,dU,er,ez,iA,gD,iz,iy,gC,Ag,Af,Ae,Int.reduceLT,Int.reduceLE,Int.reduceSub,Int.reduceAdd,Int.reduceMul,Int.reduceNeg,nQ,kW,ub,nI,Int.reduceToNat,Xz,$[$xs:term],*])
namespace Com
open PySem L2 DL
noncomputable def jJ:Ev->aj Fl :=
 (aA (e7 (iZ (cM (bD (af 0) (fP "str"))) (cM (iG Lc Lc (dC (.int 1)) (ao (ae (af 0) az) (m1 dw)) (dC (.int 8)))))
 (aA (b8 (dC (.bl false)))
 av)
 av)
 (aA (b8 (ao (ae (eO 1 [] (JT (af 0)) (b3 0) mYes (ag (af 0) (dC (.str "abcdefghijklmnopqrstuvwxyz")) Fe)) az) (m1 IA)))
 av))
def m_is_name:List D->aj D:=cj 1 jJ
noncomputable def eE:Ev->aj Fl :=
 (aA (e7 (iZ (cM (bD (af 0) (fP "tuple"))) (ag (ao (ae (af 0) az) (m1 dw)) (dC (.int 2)) jc))
 (aA (b8 (dC (.bl false)))
 av)
 av)
 (aA (e7 (iZ (cM (ao (ae (ag (af 0) (dC (.int 0)) aW) az) m_is_whole)) (cM (ao (ae (ag (af 0) (dC (.int 1)) aW) az) m_is_whole)))
 (aA (b8 (dC (.bl false)))
 av)
 av)
 (aA (b8 (gX (ag (ag (af 0) (dC (.int 1)) aW) (dC (.int 1)) SN) (ag (ao (ae (ag (af 0) (dC (.int 0)) aW) (ae (ag (af 0) (dC (.int 1)) aW) az)) m_common_divisor) (dC (.int 1)) gw)))
 av)))
def m_is_ratio:List D->aj D:=cj 1 eE
def Oh:US:="abcdefghijklmnopqrstuvwxyz"
def pZ(c:Nat):Bool:=P7 ⟨#[c]⟩ Oh
noncomputable def nameB(z:US):Bool:=decide (1<=z.length)&&(decide (z.length<=8)&&z.cps.toList.all pZ)
def zD:D->Bool
 |.str z=>nameB z
 |_=>false
def KR:D->Bool
 |.str z=>decide (z.length<=line)
 |_=>true
theorem wu:∀{ds:List D},(∀d∈ds,∃ρ1,tg b d=.ok ρ1/\tt ρ1=.ok (.bl true)/\fe ρ1=.ok (F d))->cu b tg tt fe ds=.ok (ds.map F)
 |[],_=>rfl
 |d::r,h=>by
  obtain⟨ρ1,h1,h2,h3⟩:=h d U0;rw[jG h1 h2 h3,wu (λe he=>h e (UH _ he))];rfl
theorem qg{α:Type}(F:α->Bool):∀(cs:List α),i6 (cs.map λc=>D.bl (F c))=some (cs.map F)
 |[]=>rfl
 |c::r=>by
  show(i6 (r.map λc=>D.bl (F c))).map (F c::·)=_;rw[qg F r];rfl
def Bi(hz:z.length<=line):eO 1 [] (JT (af 0)) (b3 0) mYes (ag (af 0) (dC (.str "abcdefghijklmnopqrstuvwxyz")) Fe) [.sh (.str z)]=.ok (.lst (z.cps.toList.map λc=>.bl (pZ c))):=by
 have hl:(kF z).length<=line:=by rw[ml];exact hz
 unfold eO;show(if(kF z).length<=line then _ else _)=_;rw[if_pos hl];have:cu (dM 1 [] [.sh (.str z)]) (b3 0) mYes (ag (af 0) (dC (.str "abcdefghijklmnopqrstuvwxyz")) Fe) (kF z)=.ok (z.cps.toList.map λc=>D.bl (pZ c)):=by
  unfold kF
  induction z.cps.toList with
  |nil=>rfl
  |cons c r ih =>
   rw[UW,jG (x:=.bl (pZ c)) rfl rfl rfl,ih];rfl
 rw[this]
def mD(h:KR d=true):m_is_name [d]=.ok (.bl (zD d)):=by
 cases d with
 |str z =>
  have hz:z.length<=line:=of_decide_eq_true h;have hlen:dw (.str z)=.ok (.int z.length):=if_pos hz;show cj 1 jJ _=.ok (.bl (nameB z));unfold nameB
  by_cases h1:1<=z.length
  .by_cases h8:z.length<=8
   .have e1:decide ((1:Int)<=(z.length:Int))=true:=decide_eq_true (by omega)
    have e2:decide ((z.length:Int)<=8)=true:=decide_eq_true (by omega);open_line with[jJ,hlen,e1,e2,Bi hz,IA,qg,decide_eq_true h1,decide_eq_true h8,Xx]
    simp [Y3,Function.comp_def]
   .have e1:decide ((1:Int)<=(z.length:Int))=true:=decide_eq_true (by omega)
    have e2:decide ((z.length:Int)<=8)=false:=decide_eq_false (by omega);open_line with[jJ,hlen,e1,e2,decide_eq_true h1,decide_eq_false h8,WK,X2]
  .have e1:decide ((1:Int)<=(z.length:Int))=false:=decide_eq_false (by omega)
   open_line with[jJ,hlen,e1,decide_eq_false h1,WK]
 |ob k _=>cases k<;>rfl
 |_=>rfl
noncomputable def su:D->Bool
 |.tup [.int p,.int q]=>decide (1<=q)&&(VB p q==1)
 |_=>false
def ND{g:Nat}:((g:Int)==1)=(g==1):=by
 cases h:(g==1) with
 |true=>rw[eq_of_beq h];rfl
 |false =>
  have:g≠1:=λz=>by rw[z] at h;cases h
  exact beq_eq_false_iff_ne.mpr (by omega)
def Mw{xs:List D}:(∃x y,xs=[x,y])∨xs.length≠2:=by
 match xs with
 |[]=>exact .inr (by decide)
 |[x]=>exact .inr (by simp)
 |[x,y]=>exact .inl ⟨x,y,rfl⟩
 |x::y::z::r=>exact .inr (by simp)
theorem Gy:∀{xs:List D},xs.length≠2->su (.tup xs)=false
 |[],_=>rfl
 |[x],_=>by cases x<;>rfl
 |[x,y],h=>absurd rfl h
 |x::y::z::r,_=>by cases x<;>cases y<;>rfl
def A3:su (.tup [x,y])=(FC x&&(FC y&&su (.tup [x,y]))):=by
 cases x<;>cases y<;>rfl
def xy(d:D):m_is_ratio [d]=.ok (.bl (su d)):=by
 cases d with
 |tup xs =>
  rcases Mw (xs:=xs) with⟨x,y,rfl⟩|h
  .rw[A3]
   show cj 1 eE _=_;cases hx:FC x with
   |false=>open_line with[eE,cC,hx,WK]
   |true =>
    cases hy:FC y with
    |false=>open_line with[eE,cC,hx,hy,WK,Xx]
    |true =>
     cases x<;>first|(cases hx;done)|skip
     cases y<;>first|(cases hy;done)|skip
     rename_i p q;show _=aj.ok (D.bl (decide (1<=q)&&(VB p q==1)))
     by_cases hq:1<=q
     .open_line with[eE,cC,hx,hy,wq,Xx,decide_eq_true hq,ND]
     .open_line with[eE,cC,hx,hy,wq,Xx,decide_eq_false hq,WK]
  .have e2:((xs.length:Int)==2)=false:=beq_eq_false_iff_ne.mpr (by omega)
   rw[Gy h];show cj 1 eE _=_;open_line with[eE,e2]
 |ob k _=>cases k<;>rfl
 |_=>rfl
def Le{α:Type}{F:α->D}{xs:List α}:eP (xs.map F) lo hi=((xs.drop (HT.sIx xs.length 0 lo)).take (HT.sIx xs.length xs.length hi-HT.sIx xs.length 0 lo)).map F:=by
 unfold eP;rw[Uv,←List.map_drop,←X8]
def Lf:(eP xs lo hi).length<=xs.length:=by
 unfold eP;rw[Vn,Ys];omega
end Com
namespace DL
open PySem PySem.Spec PyProof.Rows L2
def bT.there{h:UR}(x:bT P w H h a o):∃u,h.get? a=some u:=by
 cases o with|lst xs=>obtain⟨_,_,_,_,e⟩:=x;exact⟨_,e⟩|tup xs=>obtain⟨_,_,_,ob,e,_⟩:=x;exact⟨_,e⟩|dK kvs|dT kvs=>obtain⟨_,_,_,_,o,_,_,e,_⟩:=x;exact⟨_,e⟩|set S n=>obtain⟨o,_,_,_,e,_⟩:=x;exact⟨_,e⟩|ins C dx fs=>obtain⟨_,_,_,e,_⟩:=x;exact⟨_,e⟩|own y=>obtain⟨_,e⟩:=x;exact⟨_,e⟩|xd fs=>obtain⟨_,⟨_,_,_,e,_⟩,_⟩:=x;exact⟨_,e⟩|rng lo hi=>obtain⟨_,_,_,e⟩:=x;exact⟨_,e⟩|frz ob u=>obtain⟨e,_⟩:=x;exact⟨_,e⟩|tbl ps|met f y=>exact⟨_,show h.get? a=some _ from x⟩|ext φ=>obtain⟨_,⟨_,e⟩,_⟩:=x;exact⟨_,e⟩
noncomputable def gb(P:Vq) (w:VL):Cd:=λouter H s E e s'=>∃(ea C:Uw) (a0:Us) (B:UR) (H':Hp),e=.ref ea/\s'.os=s.os/\AllBare s'.gens/\Un (iN outer) [] H H' s.heap s'.heap/\gG P w H' s'.heap/\H' ea=none /\
 Wv B outer ea (.ref C) a0 s'.heap/\(∀b,b∉iN outer->(H' b≠none∨∃o,s.heap.get? b=some o)->∃o,B.get? b=some o)/\∃ox,Rl s'.heap ea ox/\E (.ref C) ox H'
def Df{l:List VP}:∀env∈l,∀a,env.frame=some a->a∈iN l:=λenv he a hf=>Yd.mpr ⟨env,he,hf⟩
section
variable {P:Vq}{w:VL}{K:Ut}{mg:US->Option Us}{base:UR}{N:List US}{qual:US}{scope:XX}{f:Uw}{cd:Us}{A:Vw}{outer:List VP}{s0:UE}{H0:Hp}{E:XK}
 {π:List (Uw×Obj)}{σ:L2.St}{H:Hp}{s:UE}
def g6{B h h':UR}(k:B.StaysIn h)(k':B.StaysIn h')(hb:∃u,B.get? b=some u)(e:h.get? b=some o):h'.get? b=some o:=by
 obtain⟨u,q⟩:=hb;have:=k b u q;rw[e] at this;cases this;exact k' b o q
def HE(hX:X=dW (gb P w) P w K mg base N qual scope f cd A outer s0 H0 E)(I:Inv X π σ H s){s1:UE}(os:s1.os=s.os)(bare:AllBare s1.gens)
  (un:Un (iN X.stack) [] H H1 s.heap s1.heap)(hok:gG P w H1 s1.heap)(hne:H1 ea=none)(hst:B.StaysIn s1.heap)(hfr:s1.heap.FunFrames B X.stack)
  (hB:∀b,b∉iN X.stack->(H1 b≠none∨∃o,s.heap.get? b=some o)->∃o,B.get? b=some o)(fl:Wv B outer ea (.ref C) a0 h')(up:s1.heap.UpToSlots h')(hE:∃ox,Rl h' ea ox/\E (.ref C) ox H1) :
  gb P w outer H0 s0 E (.ref ea) { s1 with heap:=h' }:=by
 subst hX;have hL:(envOfC qual scope s0.heap.objs.size f cd).frame=some (envOfC qual scope s0.heap.objs.size f cd).locals:=rfl;have hstk:∀b,b∈iN (envOfC qual scope s0.heap.objs.size f cd::outer)->b=(envOfC qual scope s0.heap.objs.size f cd).locals∨b∈iN outer:=λb hb=>by
  unfold iN at hb;rw[V5,hL] at hb;exact UG.mp hb
 have hsub:∀b,b∈iN outer->b∈iN (envOfC qual scope s0.heap.objs.size f cd::outer):=λb hb=>by
  unfold iN;rw[V5,hL];exact UH _ hb
 have old:∀b o,s0.heap.get? b=some o->b≠(envOfC qual scope s0.heap.objs.size f cd).locals:=λb o e=>Vf (UY (UT e) I.ok.above);have nofr:∀b o,s0.heap.get? b=some o->b∉iN outer->b∉iN (envOfC qual scope s0.heap.objs.size f cd::outer):=λb o e hb hm=>(hstk b hm).elim (old b o e) hb;have thr:∀b o,s0.heap.get? b=some o->∃o',s.heap.get? b=some o':=λb o e=>I.base.there b o e (by intro z;exact nomatch z);have fst:∀b,b∈iN outer->∀o,s1.heap.get? b=some o->∃sl,h'.get? b=some { o with slots:=sl }:=λb hb o e=>by
  obtain⟨_,o',ho',hd⟩:=hfr.mem (hsub b hb);rw[e] at ho';cases ho';exact up b o e hd
 have free1:∀b∈iN (envOfC qual scope s0.heap.objs.size f cd::outer),H1 b=none:=λb hb=>by
  obtain⟨_,o,ho,_⟩:=I.stack.mem hb;exact un.free b o ho (I.stkFree b hb) (by simp)
 have B0:∀b o,s0.heap.get? b=some o->b∉iN outer->∃u,B.get? b=some u:=λb o e hb=>hB b (nofr b o e hb) (.inr (thr b o e));refine⟨ea,C,a0,B,H1,rfl,os.trans I.os,bare,⟨λb o e n hb hx=>?_,λb o e n hb hx=>?_,λb o e n hx=>?_,λb o e hx=>?_,λb xs e=>un.tups b xs (I.base.tups b xs e),λb o u e=>un.frzs b o u (I.base.frzs b o u e),λb ps e=>?_⟩,λa o e=>?_,hne,fl,λb hb h=>?_,hE⟩
 .have e1:=I.base.keep b o e n hb (by intro z;exact nomatch z)
  have n1:=I.base.free b o e n (by intro z;exact nomatch z);have e2:=un.keep b o e1 n1 (nofr b o e hb) (by simp);exact g6 hst fl.1 (B0 b o e hb) e2
 .obtain⟨sl,e1⟩:=I.base.slot b o e n hb (by intro z;exact nomatch z)
  have n1:=I.base.free b o e n (by intro z;exact nomatch z);obtain⟨sl2,e2⟩:=un.any e1 n1 (by simp);obtain⟨sl3,e3⟩:=fst b hb _ e2;exact⟨sl3,e3⟩
 .obtain⟨o',e1⟩:=thr b o e
  exact un.free b o' e1 (I.base.free b o e n (by intro z;exact nomatch z)) (by simp)
 .obtain⟨o',e1⟩:=thr b o e
  obtain⟨o2,e2⟩:=un.there b o' e1 (by simp)
  by_cases hb:b∈iN outer
  .obtain⟨sl,e3⟩:=fst b hb _ e2
   exact⟨_,e3⟩
  .exact⟨_,g6 hst fl.1 (B0 b o e hb) e2⟩
 .obtain⟨m1,e1⟩:=I.base.tbls b ps e
  obtain⟨m2,e2⟩:=un.tbls b _ e1;exact⟨m1++m2,by rw[e2,Yh]⟩
 .refine(hok a o e).stay (λb u hb q=>?_) (λ_ q=>q) λ_ _ q=>q
  have hn:H1 b≠none:=by
   rcases hb with rfl|hb
   .rw[e];simp
   .rw[hb];simp
  exact g6 hst fl.1 (hB b (λhm=>hn (free1 b hm)) (.inl hn)) q
 .by_cases hm:b∈iN (envOfC qual scope s0.heap.objs.size f cd::outer)
  .rcases hstk b hm with z|z
   .rcases h with h|⟨o,h⟩
    .exact absurd (free1 b hm) h
    .exact absurd z (old b o h)
   .exact absurd z hb
  .exact hB b hm (h.elim .inl λ⟨o,h⟩=>.inr (thr b o h))
def w6(I:Inv (dW (gb P w) P w K mg base N qual scope f cd A outer s0 H0 E) π σ H s)(hx:X0 s.heap h1 e (.ref C) vs)(hE:E (.ref C) none H) :
  (dW (gb P w) P w K mg base N qual scope f cd A outer s0 H0 E).xe (.ref e) { s with heap:=h1 }:=by
 have hin:=Df (l:=envOfC qual scope s0.heap.objs.size f cd::outer);have hl:s.heap.FunFrames (X3 s.heap (iN (envOfC qual scope s0.heap.objs.size f cd::outer))) (envOfC qual scope s0.heap.objs.size f cd::outer):=W.funFrames_hide I.stack hin;have hn:H e=none:=by
  cases q:H e with|none=>rfl|some o=>obtain⟨u,hu⟩:=bT.there (I.hok e o q);rw[hx.new] at hu;cases hu
 refine wpAny_leaves_madeW (h:=s.heap) (base:=X3 s.heap (iN (envOfC qual scope s0.heap.objs.size f cd::outer))) (cls:=.ref C) (args:=vs) I.ok.frames rfl (λb o q=>Yi _ q) hl hx λh' t fl tup _ up=>?_;refine HE rfl I (s1:={ s with heap:=h1 }) (H1:=H) rfl I.bare (Un.kept hx.keeps) (I.hok.kept hx.keeps) hn (λb o q=>hx.keeps b o (Yi _ q)) (hl.of_keeps λb o hb _=>⟨o,hx.keeps b o hb,rfl⟩) (λb hb h=>?_) fl up ⟨none,(let ⟨ob,e1,_⟩:=fl.there;⟨_,⟨ob,e1,rfl⟩,.inl rfl⟩),hE⟩;have:∃o,s.heap.get? b=some o:=by
  rcases h with h|h
  .cases q:H b with
   |none=>exact absurd q h
   |some o=>exact bT.there (I.hok b o q)
  .exact h
 obtain⟨o,q⟩:=this;exact⟨o,YL _ q hb⟩
def CC:gM (gb P w) (dW (gb P w) P w K mg base N qual scope f cd A outer s0 H0 E) E:=by
 intro π σ H s e s' I h;obtain⟨ea,C,a0,B,H',rfl,os,bare,un,hok,hne,fl,hB,ox,⟨dc,hdc,hox⟩,hE⟩:=h;refine E3 I.ok.frames rfl fl hdc λh' fl' up hd'=>?_;exact HE rfl I os bare un hok hne fl.1 fl.2.2.1 hB fl' up ⟨ox,⟨dc,hd',hox⟩,hE⟩
end
def BA{K:Ut}{st:V0}{N ps:List US}{k:Nat}(F:Fy K x qual st f fd)(S:eY N ps (defScope st))
  (hbody:∀(cdv:Us) (A:Vw) (outer:List VP) (s0:UE) (H Ha:Hp) (E:XK),cW k (A.deeper (envOfC qual (defScope st) s0.heap.objs.size f cdv)) ->
   AQ (dW (gb P w) P w K mg base N qual (defScope st) f cdv A outer s0 H E) E H Ha (defBody st) s):fZ P w K mg base (gb P w) (k+1) f fd ps (spD K ps.length (cj N.length s)):=by
 have hpl:ps.length<=N.length:=by have:=congrArg Xq S.pre;rw[Vn] at this;omega
 obtain⟨oc,od,kV,doc,pm,an,cdv,ct,osl,rfl,lk,hcd⟩:=F.ex;refine LX lk hcd S (λvs H Q E h=>h.1) λA outer s0 H vs Q E hr h=>?_;obtain⟨hn,Ha,ds,hs,hv,q⟩:=h;refine⟨_,(hbody cdv A outer s0 H Ha E hr).o,Ha,ds.map Sl.sh++UK (N.length-ds.length) .no,?_,?_⟩
 .refine⟨bB.refl hs,kD hv,λi d e=>?_,λi j d d' hij e=>?_,?_,OX.none oV mi⟩
  .by_cases hi:i<ds.length
   .rw[UQ (by simpa using hi),UL] at e
    cases q:ds[i]? with|none|some d'=>rw[q] at e;cases e
   .rw[UZ (by simpa using hi),U7] at e
    split at e<;>cases e
  .by_cases hi:i<ds.length
   .rw[UQ (by simpa using hi),UL] at e
    cases q:ds[i]? with|none|some d'=>rw[q] at e;cases e
   .rw[UZ (by simpa using hi),U7] at e
    split at e<;>cases e
  .unfold L2.start
   have:=hv.length;simp only[Vt,Uv,Vu];omega
 .unfold cj at q
  cases e1:s (ds.map Sl.sh++UK (N.length-ds.length) .no) with
  |stuck|exn x=>rw[e1] at q;exact q
  |ok r =>
   rw[e1] at q;cases r with|nx ρ'=>exact λσ' H' Ha' _ h'=>q .non H' Ha' h'.g (aY.mpr rfl)|rt d=>exact λv H' Ha' g rp=>q v H' Ha' g rp|bk ρ'|ct ρ'=>exact q.elim
structure Ls (K:Ut) (x:US) (C:Uw):Prop where
 xc:XC K x C
 ex:Yk K C [.type "ValueError",.type "Exception",.type "BaseException",.type "object"] "ValueError.__new__"=true
def Ls.obj{K:Ut}(c:Ls K x C){h:UR}(X:K.In h):∃bm N nm q bs hdct sn sub ab col dd k0 k1 k2 k3 k5 mN,h.get? C=some (excClassObj nm q C N bs bm hdct sn sub ab col dd k0 k1 k2 k3 k5 "ValueError.__new__")/\h.Ns N mN/\mN "__init__"=none /\
  OwnTail h [.type "ValueError",.type "Exception",.type "BaseException",.type "object"] bm:=by
 have q:=c.ex;unfold Yk at q;split at q
 .rename_i dd cd sl ho
  split at q
  .rename_i C' bm k0 k1 k2 k3 n k5 hm hs
   simp only[U4,beq_iff_eq,Bool.not_eq_true'] at q;obtain⟨⟨⟨⟨⟨rfl,rfl⟩,hdel⟩,ht⟩,hok⟩,hni⟩:=q;obtain⟨nm,bs,mro,ns,qn,hd,sn,sub,ab,col,del⟩:=cd;dsimp only at hm hdel hok hni;subst hm hdel;have hsl:sl=#[k0,k1,k2,k3,some (.builtin "ValueError.__new__"),k5]:=by
    obtain⟨l⟩:=sl;simp only at hs;rw[hs]
   subst hsl;exact⟨bm,ns,nm,qn,bs,hd,sn,sub,ab,col,dd,k0,k1,k2,k3,k5,_,X _ _ ho,.of_isNs (Yj X hok),W.nsMap_none_of_in X hok hni,W.tail_of_in X ht⟩
  .cases q
 .cases q
noncomputable def kH(x:US) (fa:Ev->aj (List D)):Ev->aj Fl:=λρ=>(fa (fz ρ)).bind λds=>if ds.length<=line then .exn ⟨x,[]⟩ else .stuck
section
variable {P:Vq}{w:VL}{K:Ut}{mg:US->Option Us}{base:UR}{N:List US}{qual:US}{scope:XX}{f:Uw}{cd:Us}{A:Vw}{outer:List VP}{s0:UE}{H0:Hp}{E:XK}{He η:Hp}
def uN(c:Ls K x C)(hm:mg x=some (.ref C))(hh:A.handled=none)
  (hg:Gl (dW (gb P w) P w K mg base N qual scope f cd A outer s0 H0 E) x)(ha:DA (dW (gb P w) P w K mg base N qual scope f cd A outer s0 H0 E) E (e::es) fa)
  (hdb:(x==("__debug__" : US))=false:=by decide)(he:Uy (e::es) (dW (gb P w) P w K mg base N qual scope f cd A outer s0 H0 E).env=(false,eval e (dW (gb P w) P w K mg base N qual scope f cd A outer s0 H0 E).env)::Uy es (dW (gb P w) P w K mg base N qual scope f cd A outer s0 H0 E).env:=by exact aV rfl)
  (hpl:(VA cpos (Uy es (dW (gb P w) P w K mg base N qual scope f cd A outer s0 H0 E).env)).any (·.1)=false:=by exact bL rfl) :
  DS (dW (gb P w) P w K mg base N qual scope f cd A outer s0 H0 E) E He η (.Raise (some (.Call (.Name x np) (e::es) [] cpos)) none pos) (kH x fa):=by
 refine⟨?_⟩;intro π s σ H D I ⟨Ha,ρ,hr,q⟩;obtain⟨bm,Nn,nm,qn,bs,hdct,sn,sub,ab,col,dd,k0,k1,k2,k3,k5,mN,hC,hN,hni,T⟩:=c.obj I.ok.mod.kin;refine wpAny_Raise_call_subT (C:=C) (nm:=nm) (q:=qn) (N:=Nn) (bs:=bs) (bm:=bm) (hdct:=hdct) (sn:=sn) (sub:=sub) (ab:=ab) (col:=col) (dd:=dd) (k0:=k0) (k1:=k1) (k2:=k2) (k3:=k3) (k5:=k5)
  Wj (mN:=mN) (T.hasType Wj.hasBase) hh (by rw[he];show(false||(VA cpos (Uy es (dW (gb P w) P w K mg base N qual scope f cd A outer s0 H0 E).env)).any (·.1))=false;rw[hpl];rfl) hni (jU I hg hm ⟨rfl,?_⟩ hdb)
 have hq:sA K E H (frz He Ha H) (fa (fz ρ)) (λvs H1=>vs.length<=sizeLine/\E (.ref C) none H1):=by
  unfold kH at q;cases e1:fa (fz ρ) with
  |stuck=>rw[e1] at q;exact q|exn z=>rw[e1] at q;exact λC ox H' Ha' g ex=>q C ox H' Ha' (hr.frz_grow.trans g) ex
  |ok ds =>
   rw[e1] at q;intro vs H1 H01 g rp;have q:b5 K E He η Ha (if ds.length<=line then aj.exn ⟨x,[]⟩ else .stuck) D:=q
   by_cases hl:ds.length<=line
   .rw[if_pos hl] at q
    exact⟨by rw[←rp.length];exact cG hl,q (.ref C) none H1 H01 (hr.frz_grow.trans g) ⟨⟨C,rfl,c.xc⟩,rfl⟩⟩
   .rw[if_neg hl] at q;exact q.elim
 have h1:=ha.o cpos π s σ H _ I ⟨frz He Ha H,fz ρ,hr.frz_le,hr.looks,hq⟩;rw[he] at h1 ⊢;refine Xj (Vs h1 (λvs s2 h2=>?_) λ_ _ y=>y);obtain⟨vs',H1,I1,rv,hl,hE⟩:=h2;exact⟨rfl,by rw[←rv.length];exact hl,I1.bk _ _ hC,hN.keeps I1.bk,T.keeps I1.bk,λh' ee hx=>w6 I1 hx hE⟩
end
section
variable {P:Vq}{w:VL}{st:List VP}{H H':Hp}{h g g' B:UR}
def Un.fly(un:Un (iN st) [] H H' h g)(k:B.StaysIn g)(hfr:g.FunFrames B st)(hB:∀b,b∉iN st->(H' b≠none∨∃o,h.get? b=some o)->∃o,B.get? b=some o)(k':B.StaysIn g')(up:g.UpToSlots g'):Un (iN st) [] H H' h g':=by
 have fst:∀b,b∈iN st->∀o,g.get? b=some o->∃sl,g'.get? b=some { o with slots:=sl }:=λb hb o e=>by
  obtain⟨_,o',ho',hd⟩:=hfr.mem hb;rw[e] at ho';cases ho';exact up b o e hd
 refine⟨λb o e n hb hx=>?_,λb o e n hb hx=>?_,un.free,λb o e hx=>?_,un.tups,un.frzs,un.tbls⟩
 .exact g6 k k' (hB b hb (.inr ⟨o,e⟩)) (un.keep b o e n hb hx)
 .obtain⟨sl,e1⟩:=un.slot b o e n hb hx
  obtain⟨sl2,e2⟩:=fst b hb _ e1;exact⟨sl2,e2⟩
 .obtain⟨o',e1⟩:=un.there b o e hx
  by_cases hb:b∈iN st
  .obtain⟨sl,e2⟩:=fst b hb _ e1
   exact⟨_,e2⟩
  .exact⟨_,g6 k k' (hB b hb (.inr ⟨o,e⟩)) e1⟩
def gG.fly(ok:gG P w H' g)(hf:∀b∈iN st,H' b=none)(k:B.StaysIn g)(hB:∀b,b∉iN st->(H' b≠none∨∃o,h.get? b=some o)->∃o,B.get? b=some o)(k':B.StaysIn g'):gG P w H' g':=λa o e=>by
 refine(ok a o e).stay (λb u hb q=>?_) (λ_ q=>q) λ_ _ q=>q;have hn:H' b≠none:=by
  rcases hb with rfl|hb
  .rw[e];simp
  .rw[hb];simp
 exact g6 k k' (hB b (λhm=>hn (hf b hm)) (.inl hn)) q
def gG.ext(ok:gG P w H g)(hn:H a=none)(p:φ g)(ht:∃o,g.get? a=some o)(hm:∀h1 h2:UR,φ h1->(∀o,h1.get? a=some o->h2.get? a=some o)->φ h2):gG P w (upd H a (.ext φ)) g:=λb u e=>by
 by_cases hb:b=a
 .subst hb;rw[aB] at e;cases e;exact⟨p,ht,hm⟩
 .rw[aw hb] at e
  exact(ok b u e).stay (λc v _ q=>q) (λc q=>by rw[aw (bb q hn)];exact q) λc xs q=>by rw[aw (bb q hn)];exact q
def Un.ext{fs:List Uw}(un:Un fs [] H H' h g)(hn:H' a=none)(ha:h.get? a=none):Un fs [] H (upd H' a o) h g :=
 ⟨un.keep,un.slot,λb ob e n hx=>by rw[aw (λz=>by subst z;rw[ha] at e;cases e)];exact un.free b ob e n hx,un.there,λb xs q=>by rw[aw (bb (un.tups b xs q) hn)];exact un.tups b xs q,
  λb ob u q=>by rw[aw (bb (un.frzs b ob u q) hn)];exact un.frzs b ob u q,λb ps q=>by
   obtain⟨m,e⟩:=un.tbls b ps q;exact⟨m,by rw[aw (bb e hn)];exact e⟩⟩
def E4{a C:Uw}{dc:Option Uw}:∀h1 h2:UR,yl a C dc h1->(∀o,h1.get? a=some o->h2.get? a=some o)->yl a C dc h2:=λh1 h2 ⟨o,vs,e,c,d⟩ k=>⟨o,vs,k o e,c,d⟩
end
noncomputable def hand(X:Cx) (e:Uw):Cx:={ X with A:=X.A.mark (some (.ref e)),calm:=false,xe:=λ_ _=>False }
section
variable {X:Cx}{π:List (Uw×Obj)}{σ:L2.St}{H:Hp}{s:UE}{e:Uw}
def KN(ok:X.Ok):(hand X e).Ok :=
 ⟨ok.mod,ok.kind,ok.glob,ok.blt,ok.above,ok.inj,ok.has,ok.cab,λz=>Bool.noConfusion z,ok.frames,ok.stk,ok.exf,ok.bs,ok.bsz,ok.noex,ok.exfs,ok.funs,ok.frf⟩
def Inv.hand(I:Inv X π σ H s):Inv (DL.hand X e) π σ H s:=⟨KN I.ok,I.os,I.bare,I.base,I.loc,I.cell,I.free,I.freeC,I.pin,I.hok,I.len⟩
def Cb(ok:X.Ok)(I:Inv (DL.hand X e) π σ H s):Inv X π σ H s:=⟨ok,I.os,I.bare,I.base,I.loc,I.cell,I.free,I.freeC,I.pin,I.hok,I.len⟩
def IW(I:Inv X π σ H s)(hN:X.N.Nodup)(hi:X.N[i]?=some x)
  (hm:∀(j:Nat) (y:US) (v:V),X.N[j]?=some y->σ[j]?=some (some v)->AH X.env.scope y->∃u,bF v u/\Rr X.env s.heap m y u)(hn:h'.Ns X.env.locals (λy=>if y=x then v else m y))(hs:Xd X.env.locals s.heap h') :
  Inv X π (σ.set i none) H { s with heap:=h',toks:=t' }:=by
 have cne:=I.cne;obtain⟨m0,⟨oL,_,_,hoL,_⟩,_⟩:=id I.loc;have tracked:gG X.prog X.w H h':=λb ob e=>by
  refine(I.hok b ob e).stay (λc w' hc q=>(hs.2 c ?_).trans q) (λ_ q=>q) λ_ _ q=>q;rintro rfl;have hfree:=I.free;rcases hc with rfl|hc
  .rw[hfree] at e;cases e
  .rw[hfree] at hc;cases hc
 refine⟨I.ok,I.os,I.bare,⟨λb o e n hb hx=>?_,λb o e n hb hx=>?_,I.base.free,λb o e hx=>?_,I.base.tups,I.base.frzs,I.base.tbls⟩,⟨_,hn,λj y v' e1 e2 e3=>?_⟩,λy c e=>?_,I.free,I.freeC,λp hp=>?_,tracked,by simpa using I.len⟩
 .exact(hs.2 b (Vf (UY (UT e) I.ok.above))).trans (I.base.keep b o e n hb hx)
 .obtain⟨sl,e1⟩:=I.base.slot b o e n hb hx
  exact⟨sl,(hs.2 b (Vf (UY (UT e) I.ok.above))).trans e1⟩
 .obtain⟨o',e1⟩:=I.base.there b o e hx
  exact⟨o',(hs.2 b (Vf (UY (UT e) I.ok.above))).trans e1⟩
 .by_cases hj:j=i
  .subst hj
   have hiσ:j<σ.length:=by rw[I.len];exact(UA.mp hi).1
   rw[U2 hiσ] at e2;cases e2
  .rw[Uz (Vh hj)] at e2
   obtain⟨u',r',q⟩:=hm j y v' e1 e2 e3;refine⟨u',r',?_⟩;rcases q with⟨k,e⟩|⟨k,c,e,z⟩
   .refine .inl ⟨k,?_⟩
    have:y≠x:=λe=>hj (sP hN e1 (e▸hi));simp [this,e]
   .exact .inr ⟨k,c,e,z.sameBut hs (cne y c e)⟩
 .obtain⟨w',z⟩:=I.cell y c e
  exact⟨w',z.sameBut hs (cne y c e)⟩
 .obtain⟨e,n,ne,nf,d⟩:=I.pin p hp
  exact⟨(hs.2 p.1 ne).trans e,n,ne,nf,d⟩
def IG{D:jK}(hstk:X.stack=X.env::X.outer/\X.env.frame=some X.env.locals)(I:Inv X π σ H1 s1)
  (h:gb X.prog X.w X.stack H1 s1 Ex ev s')(hg:Gl X c)(hm:X.mg c=some cv)(hx:∀C ox H',Ex (.ref C) ox H'->YC X.K (.ref C) cv=some true)
  (hN:X.N.Nodup)(hi:X.N[ni]?=some n)(hlo:X.env.scope.names.lookup n=some .local)
  (hs:∀ea C dc ox H' s2,Ex (.ref C) ox H'->(ox=none∨ox=dc)->H' ea=none->Inv (DL.hand X ea) π (σ.set ni (some (.ref ea))) (upd H' ea (.ext (yl ea C dc))) s2 ->
   UO (UM X.prog X.w) (X.A.mark (some (.ref ea))) (execs (ba::suite) X.env) (SP (DL.hand X ea) π { nx:=λσ' H=>D.nx (σ'.set ni none) H,rt:=D.rt,bk:=λσ' H=>D.bk (σ'.set ni none) H,ct:=λσ' H=>D.ct (σ'.set ni none) H }) (λ_ _=>False) s2)
  (hdb:(c==("__debug__" : US))=false:=by decide) :
  UO (UM X.prog X.w) X.A (noteFrame ev X.env) (λ_ si=>UO (UM X.prog X.w) X.A (setFlight ev none) (λ_ sj =>
   UO (UM X.prog X.w) X.A (handleBy ev X.env (.ExceptHandler (some (.Name c np)) (some n) (ba::suite) hpos::rest)) (SP X π D) X.xe sj) X.xe si) X.xe s':=by
 obtain⟨ea,C,a0,B,H',rfl,os,bare,un,hok,hne,fl,hB,ox,⟨dc,hdc,hox⟩,hE⟩:=h;have hA:X.A.frames=some (X.env::X.outer):=by rw[←hstk.1];exact I.ok.frames
 have fl0:=fl;rw[hstk.1] at fl;have hf1:∀b∈iN X.stack,H' b=none:=λb hb=>by
  obtain⟨_,o,ho,_⟩:=I.stack.mem hb;exact un.free b o ho (I.stkFree b hb) (by simp)
 have hnew:s1.heap.get? ea=none:=by
  cases q:s1.heap.get? ea with
  |none=>rfl
  |some o =>
   by_cases hb:ea∈iN X.stack
   .obtain⟨_,o',ho',hd⟩:=fl0.2.2.1.mem hb
    obtain⟨oe,vs,he,_,hd',_⟩:=fl0.first
    rw[ho'] at he;cases he;exact absurd hd' (hd vs)
   .obtain⟨u,hu⟩:=hB ea hb (.inr ⟨o,q⟩)
    rw[fl.2.1] at hu;cases hu
 have inv:∀g,B.StaysIn g->s'.heap.UpToSlots g->Inv X π σ H' { s' with heap:=g }:=λg k up =>
  I.call' (ch:=[]) os (Un.fly un fl0.1 fl0.2.2.1 hB k up) (gG.fly hok hf1 fl0.1 hB k) bare (λ_ z=>nomatch z)
 have invx:∀g,B.StaysIn g->s'.heap.UpToSlots g->yl ea C dc g->Inv X π σ (upd H' ea (.ext (yl ea C dc))) { s' with heap:=g }:=λg k up p =>
  I.call' (ch:=[]) os (Un.ext (Un.fly un fl0.1 fl0.2.2.1 hB k up) hne hnew) (gG.ext (gG.fly hok hf1 fl0.1 hB k) hne p (let ⟨o,_,e,_⟩:=p;⟨o,e⟩) E4) bare (λ_ z=>nomatch z)
 refine HG hA hstk.2 fl hdc λh4 held4 up4 dc4=>?_;refine HH held4 dc4 λh5 fl5 up5 dc5=>?_;have I5:Inv (DL.hand X ea) π σ H' { s' with heap:=h5 }:=Inv.hand (inv h5 fl5.1 (up4.trans up5));refine wpAny_handleBy_cons (codeAny_handlers_test ?_) (by intro q;cases q);refine jU I5 hg hm ?_ hdb;obtain⟨ob,hob,hoc⟩:=fl5.there;have LT:X4 (UM X.prog X.w) h5 (typeOf (.ref ea)) (.ref C):=hoc▸(X4.ld hob).andThen .now;refine(W.exm_one I5.kIn LT (hx C ox H' hE)).here ?_;refine codeAny_handlers_suite_as ?_;refine HI fl5 dc5 λh6 fl6 up6 dc6=>?_;obtain⟨oe,vs,he,hc,hd,_⟩:=fl6.first
 have I6:Inv (DL.hand X ea) π σ (upd H' ea (.ext (yl ea C dc))) { s' with heap:=h6 }:=Inv.hand (invx h6 fl6.1 ((up4.trans up5).trans up6) ⟨oe,vs,he,hc,hd,(by obtain⟨o6,e6,d6⟩:=dc6;rw[he] at e6;cases e6;exact d6)⟩);refine kC (X:=DL.hand X ea) (v:=.ref ea) I6 hN hi (.inl hlo) rfl (λs7 I7=>?_) (.inr hlo);refine Vs (hs ea C dc ox H' s7 hE hox hne I7) (λf s8 h8=>?_) λ_ _ z=>z.elim;have hcls:(X.env.scope.kind==.class||(X.env.scope.kind==.module&&X.env.locals != X.env.globals))=false:=by rw[I.ok.kind];rfl
 have fin:∀{σ':L2.St}{H2:Hp}{Q:Unit->UE->Prop},Inv (DL.hand X ea) π σ' H2 s8->(∀s9,Inv X π (σ'.set ni none) H2 s9->Q () s9) ->
   UO (UM X.prog X.w) X.A (do bindName X.env n .none;unbindBehindTheSuite X.env n hpos) Q X.xe s8:=λ{σ' H2 Q} J q=>by
  have J':=Cb I.ok J;obtain⟨m,hn,hl⟩:=id J'.loc;exact wpAny_nameGoes_keeps hlo hn hcls λh' v hn' hs'=>q _ (IW J' hN hi hl hn' hs')
 cases f with|next=>obtain⟨σ',H2,J,q⟩:=h8;exact fin J λs9 J9=>⟨_,H2,J9,q⟩|brk=>obtain⟨σ',H2,J,q⟩:=h8;exact fin J λs9 J9=>⟨_,H2,J9,q⟩|cont=>obtain⟨σ',H2,J,q⟩:=h8;exact fin J λs9 J9=>⟨_,H2,J9,q⟩|ret u=>obtain⟨v,σ',H2,J,r,q⟩:=h8;exact fin J λs9 J9=>⟨v,_,H2,J9,r,q⟩
end
def PA.nox(h:PA X.nox es t):PA X es t:=λpos π s σ H Q I hw =>
 Vs (h pos π s σ H Q (I.wish _) hw) (λ_ _ ⟨v,H',I',r,q⟩=>⟨v,H',I'.unwish,r,q⟩) λ_ _ z=>VI z
section
variable {X:Cx}{π:List (Uw×Obj)}{σ:L2.St}{H:Hp}{s:UE}{CX:Cd}{k:Nat}{f:Uw}{fd:VZ}{ps:List US}{sp:Sp}{Ex:XK}{x:US}{p pos:Pos}{e:Vk}{es:List Vk}{t:TA}
def D0(F:fZ X.prog X.w X.K X.mg X.base CX k f fd ps sp)(hr:cW k X.A)(hg:Gl X x)(hm:X.mg x=some (.ref f))(hk:WV X.K (.ref f)=true)(hb:iL X.K fd ps [])(ha:PA X.nox (e::es) t)
  (I:Inv X π σ H s)(h:t σ H λvs H1=>sp vs H1 Q Ex)(hx:∀H1 s1 e s',Inv X π σ H1 s1->CX X.stack H1 s1 Ex e s'->XE e s')
  (hdb:(x==("__debug__" : US))=false:=by decide)(he:Uy (e::es) X.env=(false,eval e X.env)::Uy es X.env:=by exact aV rfl)(hpl:(VA pos (Uy es X.env)).any (·.1)=false:=by exact bL rfl) :
  UO (UM X.prog X.w) X.A (eval (.Call (.Name x p) (e::es) [] pos) X.env) (EP X π σ Q) XE s:=by
 refine wpAny_Call_Name_kw (jU I hg hm ?_ hdb);have ha':PA (X.wish XE) (e::es) t:=PA.nox (X:=X.wish XE) ha;refine W.callWith_K (h₀:=X.base) I.ok.mod.kin hk (cH (ha' pos π s σ H _ (I.wish XE) h) λus s1 z9=>?_) he hpl;obtain⟨vs,H1,I1,r,q⟩:=z9;refine⟨I1.unwish.kIn,?_⟩;have I1:=I1.unwish;have hl:us.length=ps.length:=by rw[←r.length];exact F.len _ _ _ _ q
 have hb1:=hb s1 us I1.kIn (by simpa using hl);rw[Vo] at hb1;refine wpAny_call (codeAny_mono (F.run X.A X.stack s1 H1 ⟨us,[]⟩ us vs Q Ex hr I1.env0 hb1 r q) λr s' hq=>?_);cases r with
 |error e=>exact hx H1 s1 e s' I1 hq
 |ok fl =>
  cases fl with|ret u=>exact I1.after hq|next|brk|cont=>exact VI hq
end
noncomputable def F2(K:Ut) (He η Ha:Hp) (r:aj Fl) (D:jK):Prop:=match r with
 |.exn _=>True
 |r=>b5 K E0 He η Ha r D
noncomputable def RP(K:Ut) (He η Ha:Hp) (σ:L2.St) (ρ:Ev) (r:aj Fl):XK:=λC ox H'=>∃x Ha',r=.exn x/\aG Ha Ha'/\dD K He η Ha' σ H' ρ/\AJ K Ha' x C ox
structure TB (X:Cx) (st:V0) (g:Ev->aj Fl):Prop where
 o:∀(π:List (Uw×Obj)) (s:UE) (σ:L2.St) (H He η Ha:Hp) (ρ:Ev) (D:jK) (XE:Us->UE->Prop),Inv X π σ H s->dD X.K He η Ha σ H ρ->F2 X.K He η Ha (g ρ) D ->
  (∀H1 s1 e s',Inv X π σ H1 s1->gb X.prog X.w X.stack H1 s1 (RP X.K He η Ha σ ρ (g ρ)) e s'->XE e s')->UO (UM X.prog X.w) X.A (exec st X.env) (SP X π D) XE s
section
variable {X:Cx}{E:XK}{e:Vk}{es:List Vk}{fa:Ev->aj (List D)}{pos:Pos}
def dD.drop{K:Ut}(h:dD K He η Ha σ H ρ):dD K He η Ha (σ.set i none) H (ρ.set i .no):=by
 have key:∀(j:Nat) (s:Sl),(ρ.set i .no)[j]?=some s->s≠.no->j≠i/\ρ[j]?=some s:=λj s e hs=>by
  by_cases hj:i=j
  .subst hj
   rw[Wr] at e;cases q:ρ[i]? with|none=>rw[q] at e;cases e|some s'=>rw[q] at e;cases e;exact absurd rfl hs
  .rw[Uz hj] at e
   exact⟨λz=>hj z.symm,e⟩
 refine⟨h.g,λj d' e=>?_,λj d' e=>?_,λj k d1 d2 hn e1 e2=>?_,by simp [h.ln],h.ex.upd (λj s e=>?_) (aG.refl _) (λa vs _ e=>e) λp us _ h0 hp _=>⟨hp,h0⟩⟩
 rotate_left 3
 .by_cases hs:s=.no
  .exact .inr (.inr (.inl hs))
  .obtain⟨hj,e'⟩:=key j s e hs
   exact .inl ⟨e',by rw[Uz (Vh hj)]⟩
 .obtain⟨hj,e'⟩:=key j _ e (by simp)
  obtain⟨v',h1,h2⟩:=h.rd j d' e';exact⟨v',by rw[Uz (Vh hj)];exact h1,h2⟩
 .obtain⟨hj,e'⟩:=key j _ e (by simp)
  obtain⟨a,h1,h2⟩:=h.ow j d' e';exact⟨a,by rw[Uz (Vh hj)];exact h1,h2⟩
 .obtain⟨hj,e1'⟩:=key j _ e1 (by simp)
  obtain⟨hk,e2'⟩:=key k _ e2 (by simp);rw[Uz (Vh hj),Uz (Vh hk)];exact h.ap j k d1 d2 hn e1' e2'
noncomputable def vx(ni:Nat) (r:Fl):aj Fl:=match r with
 |.nx ρ=>.ok (.nx (ρ.set ni .no))
 |.rt d=>.ok (.rt d)
 |.bk ρ=>.ok (.bk (ρ.set ni .no))
 |.ct ρ=>.ok (.ct (ρ.set ni .no))
noncomputable def lV(x:Jn):D:=match x.flds with
 |[]=>.exc x.cls
 |f::fs=>if((f::fs).map (·.1)).Nodup then .ob (.exf x.cls ((f::fs).map (·.1))) ((f::fs).map (·.2)) else .exc x.cls
theorem vX{β:Type}:∀{l:List (US×β)}{f:US}{d:β},(l.map (·.1)).Nodup->(f,d)∈l->l.lookup f=some d
 |(g,e)::l,f,d,nd,h=>by
  rw[UW,Wy] at nd;rcases UG.mp h with h|h
  .cases h;rw[VW,beq_self_eq_true]
  .have:f≠g:=λz=>nd.1 (z▸Vg.mpr ⟨(f,d),h,rfl⟩)
   rw[VW,beq_eq_false_iff_ne.mpr this];exact vX nd.2 h
theorem zS{K:Ut}{fs:List (US×V)}:∀(l:List (US×D)),(∀n d,(n,d)∈l->∃v,fs.lookup n=some v/\Rep K H d v)->∃vs,Reps K H (l.map (·.2)) vs/\l.length=vs.length/\∀(i:Nat) (f:US) (v:V),(l.map (·.1))[i]?=some f->vs[i]?=some v->fs.lookup f=some v
 |[],_=>⟨[],Reps.nil_iff.mpr rfl,rfl,λi f v e=>by simp at e⟩
 |(n,d)::l,h=>by
  obtain⟨v,h1,h2⟩:=h n d U0;obtain⟨vs,h3,h4,h5⟩:=zS l λn d hm=>h n d (UH _ hm);refine⟨v::vs,aJ.mpr ⟨v,vs,rfl,h2,h3⟩,by simp [h4],λi f w e1 e2=>?_⟩;cases i with|zero=>simp at e1 e2;rw[←e1,←e2];exact h1|succ i=>exact h5 i f w (by simpa using e1) (by simpa using e2)
def zW{K:Ut}(xc:XC K x.cls C)(ex:AJ K H x (.ref C) ox)(hox:ox=none∨ox=dc)(hne:H ea=none):Rep K (upd H ea (.ext (yl ea C dc))) (lV x) (.ref ea):=by
 have plain:Rep K (upd H ea (.ext (yl ea C dc))) (.exc x.cls) (.ref ea):=fw.mpr ⟨ea,C,dc,rfl,xc,.inl aB⟩;have sm:aG H (upd H ea (.ext (yl ea C dc))):=λb o q=>by rw[aw (bb q hne)];exact q
 obtain⟨cls,flds⟩:=x;unfold lV;cases flds with
 |nil=>exact plain
 |cons f fs =>
  show Rep _ _ (if((f::fs).map (·.1)).Nodup then D.ob (.exf cls ((f::fs).map (·.1))) ((f::fs).map (·.2)) else .exc cls) _
  by_cases nd:((f::fs).map (·.1)).Nodup
  .rw[if_pos nd]
   obtain⟨_,hm⟩:=ex;cases ox with
   |none=>cases hm
   |some a =>
    obtain⟨gs,h1,h2⟩:=hm;have hdc:dc=some a:=by
     rcases hox with z|z
     .cases z
     .exact z.symm
    obtain⟨vs,k1,k2,k3⟩:=zS (K:=K) (H:=H) (fs:=gs) (f::fs) λn d hmm=>h2 n d (vX nd hmm);exact fX.mpr ⟨ea,vs,rfl,⟨C,a,gs,xc,hdc▸.inl aB,sm _ _ h1,by rw[Uv];exact k2,k3⟩,k1.mono sm⟩
  .rw[if_neg nd];exact plain
noncomputable def Eu(g:Ev->aj Fl) (hit:US->Bool) (ni:Nat) (sh:Ev->aj Fl):Ev->aj Fl:=λρ=>match g ρ with
 |.exn x=>if hit x.cls=true then(sh (ρ.set ni (.sh (lV x)))).bind (vx ni) else .stuck
 |r=>r
def NI{st ba:V0}(hstk:X.stack=X.env::X.outer/\X.env.frame=some X.env.locals)(hb:TB X st g)
  (hg:Gl X c)(hm:X.mg c=some cv)(hhit:∀x C,hit x=true->XC X.K x C->YC X.K (.ref C) cv=some true)(hN:X.N.Nodup)(hi:X.N[ni]?=some n)(hlo:X.env.scope.names.lookup n=some .local)
  (hh:∀ea,AQ (DL.hand X ea) E He η (ba::suite) sh)(hdb:(c==("__debug__" : US))=false:=by decide) :
  DS X E He η (.Try [st] [.ExceptHandler (some (.Name c np)) (some n) (ba::suite) hpos] [] [] pos) (Eu g hit ni sh):=by
 refine⟨?_⟩;intro π s σ H D I ⟨Ha,ρ,h,q⟩;have hq:F2 X.K He η Ha (g ρ) D:=by
  unfold Eu at q;cases e1:g ρ with
  |exn x=>trivial|stuck=>rw[e1] at q;exact q
  |ok r=>rw[e1] at q;cases r<;>exact q
 refine wpAny_Try_except (wpAny_execs_cons (cH (hb.o π s σ H He η Ha ρ D _ I h hq λH1 s1 e s' I1 hc=>?_) λf s1 hf=>?_))
 .have hit1:∀x,g ρ=.exn x->hit x.cls=true:=λx e1=>by
   unfold Eu at q;rw[e1] at q
   by_cases z:hit x.cls=true
   .exact z
   .simp only[if_neg z] at q;exact q.elim
  refine IG hstk I1 hc hg hm (λC ox H' ⟨x,Ha',e1,_,_,⟨⟨c',ec,xc⟩,_⟩⟩=>?_) hN hi hlo (λea C dc ox H' s2 ⟨x,Ha',e1,sm,srx,⟨⟨c',ec,xc⟩,hm2⟩⟩ hox hne I2=>?_) hdb
  .cases ec;exact hhit _ _ (hit1 x e1) xc
  .cases ec
   refine(hh ea).o π s2 _ _ _ I2 ⟨upd Ha' ea (.ext (yl ea C dc)),ρ.set ni (.sh (lV x)),(srx.grow (aO srx.g.sub hne)).put (zW xc ⟨⟨C,rfl,xc⟩,hm2⟩ hox (srx.g.sub.free hne)),?_⟩;have sm2:aG Ha (upd Ha' ea (.ext (yl ea C dc))):=sm.trans (aO srx.g.sub hne).z;unfold Eu at q;rw[e1] at q;simp only[if_pos (hit1 x e1)] at q;cases e2:sh (ρ.set ni (.sh (lV x))) with
   |stuck|exn z=>rw[e2] at q;exact q
   |ok r =>
    rw[e2] at q;cases r with|nx ρ'=>exact λσ' H2 H02 s2 h2=>q _ H2 H02 (sm2.trans s2) (dD.drop h2)|rt d=>exact q|bk ρ'=>exact λσ' H2 H02 s2 h2=>q _ H2 H02 (sm2.trans s2) (dD.drop h2)|ct ρ'=>exact λσ' H2 H02 s2 h2=>q _ H2 H02 (sm2.trans s2) (dD.drop h2)
 .cases f with
  |next=>exact wpAny_execs_nil (wpAny_execs_nil hf)
  |brk=>exact hf
  |cont=>exact hf
  |ret u=>exact hf
end
structure Ml (k:Nat) (A:Vw):Prop where
 dp:A.depth+3*k+5<recursionLimit
 un:A.units+16*k+200<Wm
def cW.h{k:Nat}(r:cW k A):Ml k A:=⟨r.dp,r.un⟩
structure TM (P:Vq) (w:VL) (K:Ut) (mg:US->Option Us) (base:UR) (k:Nat) (f:Uw) (fd:VZ) (ps:List US) (sp:Sp):Prop where
 len:∀vs H Q E,sp vs H Q E->vs.length=ps.length
 run:∀(A:Vw) (outer:List VP) (s:UE) (H:Hp) (args:Args) (us:List Us) (vs:List V) (Q:VK) (E:XK),Ml k A->AK P w K mg base A outer s H->BindsTo s fd args (ps.zip us)->bE vs us->sp vs H Q E ->
  WC (UM P w) A (.call (.ref f) args) (CR CX0 outer P w H s Q E) s
def TM.ok{K:Ut}{k:Nat}{ps:List US}(F:TM P w K mg base k f fd ps sp):fZ P w K mg base CX0 k f fd ps sp :=
 ⟨F.len,λA outer s H args us vs Q E hr=>F.run A outer s H args us vs Q E (cW.h hr)⟩
noncomputable def eD(tab:US->Option Bool) (x:D):aj D:=match x with
 |.exc c=>(match tab c with
  |some b=>.ok (.bl b)
  |none=>.stuck)
 |.ob (.exf c _) _=>(match tab c with
  |some b=>.ok (.bl b)
  |none=>.stuck)
 |_=>.stuck
noncomputable def qk(K:Ut) (tab:US->Option Bool) (cv:Us):Prop:=∀c C b,tab c=some b->XC K c C->XA K (.ref C) cv=some b
noncomputable def Ca(K:Ut) (tab:US->Option Bool) (cs:List Uw):Prop:=∀c C b,tab c=some b->XC K c C->W.kitAny K (.ref C) (cs.map U8)=some b
section
variable {X:Cx}{E:XK}{e a:Vk}{es:List Vk}{f:Ev->aj D}{pos:Pos}{tab:US->Option Bool}
def KL(hrel:∀u,bF cV u->u=cv)(ht:qk X.K tab cv):gO X (.builtin "isinstance") (λvs H Q=>∃c v b,vs=[v,cV]/\Rep X.K H (.exc c) v/\tab c=some b/\Q (.bl b) H):=by
 intro π s σ H xs us Q I r h;obtain⟨c,v,b,rfl,h1,h2,q⟩:=h;cases r with
 |cons r1 r2 =>
  cases r2 with
  |cons r3 r4 =>
   cases r4;rename_i u1 u2;obtain rfl:=hrel _ r3;obtain⟨ad,C,dc,rfl,hc,hr⟩:=fw.mp h1;cases (show u1=U8 ad from r1);obtain⟨p,_,_⟩:=hr.ok I.hok;exact VU (nc hc.ek hc.ek.isCls) I.kIn p (ht c C b h2 hc) (λz=>nomatch z) λtk=>⟨.bl b,H,I.tok _,rfl,q⟩
def Hr(h:tD X.K E (bD f (eD tab)) σ H Q):tD X.K E f σ H λv H1=>∃c v' b,[v,cV]=[v',cV]/\Rep X.K H1 (.exc c) v'/\tab c=some b/\Q (.bl b) H1:=by
 obtain⟨Ha,ρ,hs,hr,q⟩:=h;refine⟨Ha,ρ,hs,hr,?_⟩;unfold bD at q;cases e1:f ρ with
 |stuck|exn x=>rw[e1] at q;exact q
 |ok d =>
  rw[e1] at q;intro v H1 H01 g1 r1;have q:post X.K E H Ha (eD tab d) Q:=q;cases d with
  |exc c =>
   unfold eD at q;cases e2:tab c with|none=>simp only[e2] at q;exact q.elim|some b=>simp only[e2] at q;exact⟨c,v,b,rfl,r1.mono g1.sub,e2,q _ H1 H01 g1 (rb _)⟩
  |ob k ds =>
   cases k with
   |exf c ks =>
    replace r1:=r1.exf_exc;unfold eD at q;cases e2:tab c with|none=>simp only[e2] at q;exact q.elim|some b=>simp only[e2] at q;exact⟨c,v,b,rfl,r1.mono g1.sub,e2,q _ H1 H01 g1 (rb _)⟩
   |_=>exact q.elim
  |_=>exact q.elim
def Iq(hrel:∀u,bF cV u->u=cv)(ht:qk X.K tab cv)(hc:PE X (.Name x p2) (tC cV))(hgi:Gl X "isinstance")(hmi:X.mg "isinstance"=none)(ha:DE X E a f)
  (he:Uy [a,.Name x p2] X.env=(false,eval a X.env)::Uy [.Name x p2] X.env:=by exact aV rfl)(he2:Uy [.Name x p2] X.env=(false,eval (.Name x p2) X.env)::Uy [] X.env:=by exact aV rfl)(hpl:(VA pos (Uy [.Name x p2] X.env)).any (·.1)=false:=by exact bL rfl) :
  DE X E (.Call (.Name "isinstance" p1) [a,.Name x p2] [] pos) (bD f (eD tab)):=by
 refine⟨?_⟩;exact aZ (mY (KL hrel ht) hgi hmi PyProof.Rows.Boot.«isinstance» (c9 ha.o (c9 hc fV he2) he) (by decide) (by decide) he hpl) λσ H Q h=>Hr h
def pC(hg:Gl X x)(hm:X.mg x=some (.ref C))(ht:qk X.K tab (.ref C))(hgi:Gl X "isinstance")(hmi:X.mg "isinstance"=none)(ha:DE X E a f)(hdb:(x==("__debug__" : US))=false:=by decide)
  (he:Uy [a,.Name x p2] X.env=(false,eval a X.env)::Uy [.Name x p2] X.env:=by exact aV rfl):DE X E (.Call (.Name "isinstance" p1) [a,.Name x p2] [] pos) (bD f (eD tab)) :=
 Iq (cV:=.ref C) (λu h=>h) ht (xh hg hm rfl hdb) hgi hmi ha he
def Fb(hg:Gl X x)(hm:X.mg x=none)(hv:bootBuiltins x=some (.type T))(ht:qk X.K tab (.type T))(hgi:Gl X "isinstance")(hmi:X.mg "isinstance"=none)(ha:DE X E a f)(hn:x≠"__name__":=by decide)(hdb:(x==("__debug__" : US))=false:=by decide)
  (he:Uy [a,.Name x p2] X.env=(false,eval a X.env)::Uy [.Name x p2] X.env:=by exact aV rfl):DE X E (.Call (.Name "isinstance" p1) [a,.Name x p2] [] pos) (bD f (eD tab)) :=
 Iq (cV:=.ty T) (λu h=>h) ht (CB hg hm hv rfl hn hdb) hgi hmi ha he
structure CN (X:Cx) (es:List Vk) (cs:List Uw):Prop where
 o:PA X es (λσ H Q=>Q (cs.map V.ref) H)
def NV:CN X [] []:=⟨fV⟩
def lR(hg:Gl X x)(hm:X.mg x=some (.ref C))(h:CN X es cs)(hdb:(x==("__debug__" : US))=false:=by decide):CN X (.Name x p::es) (C::cs) :=
 ⟨c9 (xh (v:=.ref C) hg hm rfl hdb) h.o (aV rfl)⟩
theorem vH:∀{cs:List Uw}{us:List Us},bE (cs.map V.ref) us->us=cs.map U8
 |[],_,.nil=>rfl
 |c::cs,_,.cons r t=>by rw[vH t];obtain rfl:_=U8 c:=r;rfl
def KJ(ht:Ca X.K tab cs):gO X (.builtin "isinstance") (λvs H Q=>∃c v b p,vs=[v,.ref p]/\H p=some (.tup (cs.map V.ref))/\Rep X.K H (.exc c) v/\tab c=some b/\Q (.bl b) H):=by
 intro π s σ H xs us Q I r h;obtain⟨c,v,b,p,rfl,hp,h1,h2,q⟩:=h;cases r with
 |cons r1 r2 =>
  cases r2 with
  |cons r3 r4 =>
   cases r4;rename_i u1 u2;obtain rfl:u2=U8 p:=r3;obtain⟨ad,C,dc,rfl,hc,hr⟩:=fw.mp h1;cases (show u1=U8 ad from r1);obtain⟨pe,_,_⟩:=hr.ok I.hok;obtain⟨_,its,rv,ob,k1,k2,n,k3⟩:=I.hok p _ hp;obtain rfl:=vH rv;obtain⟨oc,od,odt,osl⟩:=ob;cases k2;cases k3;exact W.kia_tup (nc hc.ek hc.ek.isCls) I.kIn pe k1 (ht c C b h2 hc) (λz=>nomatch z) λtk=>⟨.bl b,H,I.tok _,rfl,q⟩
def K6{k2}(ht:Ca X.K tab cs)(hc:CN X es cs)(hl:cs.length<=30)(hgi:Gl X "isinstance")(hmi:X.mg "isinstance"=none)(ha:DE X E a f)
  (he:Uy [a,.Tuple es k2 p2] X.env=(false,eval a X.env)::Uy [.Tuple es k2 p2] X.env:=by exact aV rfl)(he2:Uy [.Tuple es k2 p2] X.env=(false,eval (.Tuple es k2 p2) X.env)::Uy [] X.env:=by exact aV rfl)(hpl:(VA pos (Uy [.Tuple es k2 p2] X.env)).any (·.1)=false:=by exact bL rfl) :
  DE X E (.Call (.Name "isinstance" p1) [a,.Tuple es k2 p2] [] pos) (bD f (eD tab)):=by
 refine⟨?_⟩;refine aZ (mY (KJ ht) hgi hmi PyProof.Rows.Boot.«isinstance» (c9 ha.o (c9 (A9 hc.o) fV he2) he) (by decide) (by decide) he hpl) λσ H Q z9=>?_;obtain⟨Ha,ρ,hs,hr,q⟩:=z9;refine⟨Ha,ρ,hs,hr,?_⟩
 unfold bD at q;cases e1:f ρ with
 |stuck|exn x=>rw[e1] at q;exact q
 |ok d =>
  rw[e1] at q;intro v H1 H01 g1 r1;have q:post X.K E H Ha (eD tab d) Q:=q;cases d with
  |exc c =>
   unfold eD at q;cases e2:tab c with
   |none=>simp only[e2] at q;exact q.elim
   |some b =>
    simp only[e2] at q;refine⟨?_,λp hp=>?_⟩
    .rw[Uv];exact Va hl (by decide)
    .have ga:=aO (o:=.tup (cs.map V.ref)) g1.sub hp
     exact⟨c,v,b,p,rfl,aB,(r1.mono g1.sub).mono ga.s,e2,q _ _ _ (g1.trans ga) (rb _)⟩
  |ob k ds =>
   cases k with
   |exf c ks =>
    replace r1:=r1.exf_exc;unfold eD at q;cases e2:tab c with
    |none=>simp only[e2] at q;exact q.elim
    |some b =>
     simp only[e2] at q;refine⟨?_,λp hp=>?_⟩
     .rw[Uv];exact Va hl (by decide)
     .have ga:=aO (o:=.tup (cs.map V.ref)) g1.sub hp
      exact⟨c,v,b,p,rfl,aB,(r1.mono g1.sub).mono ga.s,e2,q _ _ _ (g1.trans ga) (rb _)⟩
   |_=>exact q.elim
  |_=>exact q.elim
end
end DL
namespace DL
open PySem PySem.Spec PyProof.Rows L2 PySem.W
structure f9 (K:Frag) (x:US) (C:Uw):Prop where
 ns:nsIn K UX x=some (some (.ref C))
 ty:typeIn K (.ref C)=some (.type "type")
 ob:mroIn K C (.type "object")=some true
 be:subIn K (.ref C) (.type "BaseException")=some true
def f9.isCls{K:Frag}(Z:f9 K x C):(clsIn K C).isSome=true:=by
 obtain⟨cd,a,b⟩:=YV.mp Z.ob;rw[a];rfl
def f9.kitCls{K:Frag}(Z:f9 K x C):W.kitCls K t (.ref C)=subIn K t (.ref C):=by
 show(if((clsIn K C).isSome&&typeIn K (.ref C)==some (.type "type"))=true then subIn K t (.ref C) else none)=_;rw[Z.isCls,Z.ty];rfl
def f9.exm{K:Frag}(Z:f9 K x C)(h:subIn K t (.ref C)=some b):exmOne K t (.ref C)=some b:=by
 unfold exmOne;rw[Z.be,if_pos (by decide),Z.kitCls,h]
def f9.kit{K:Frag}(Z:f9 K x C)(hR:subIn K (.ref R) (.ref R)=some true)(h:subIn K (.ref R) (.ref C)=some b):kitOne K (.ref R) (.ref C)=some b:=by
 unfold kitOne
 by_cases e:(U8 R==U8 C)=true
 .rw[if_pos e]
  cases (U8.inj (beq_iff_eq.mp e));rw[←hR,h]
 .rw[if_neg e,Z.kitCls,h]
def sV{K:Frag}(hm:kitMeta T=true)(h:subIn K (.ref C) (.type T)=some b):kitOne K (.ref C) (.type T)=some b:=by
 unfold kitOne;rw[if_neg (by intro z;cases beq_iff_eq.mp z)];show(if kitMeta T=true then subIn K (.ref C) (.type T) else none)=_;rw[if_pos hm,h]
def mC{K:Frag}:kitAny K t []=some false:=rfl
def cq{K:Frag}(h:kitOne K t c=some false)(h':kitAny K t r=some b):kitAny K t (c::r)=some b:=by unfold kitAny;rw[h];exact h'
def pT:∀T∈gL,kitMeta T=true:=by decide +kernel
def mz:kitMeta "ValueError"=true:=by decide +kernel
structure D7 (K:Frag) (x:US) (C:Uw):Prop where
 i:f9 K x C
 cls:findIn K (.ref C) "__class__"=some (some (.builtin "object.__class__"))
 ga:findIn K (.ref C) "__getattribute__"=some (some (.builtin "BaseException.__getattribute__"))
 gt:findIn K (.ref C) "__getattr__"=some none
 t1:subIn K (.ref C) (.type "NoneType")=some false
 t2:subIn K (.ref C) (.type "bool")=some false
 t3:subIn K (.ref C) (.type "int")=some false
 t4:subIn K (.ref C) (.type "str")=some false
 t5:subIn K (.ref C) (.type "tuple")=some false
 t6:subIn K (.ref C) (.type "list")=some false
 t7:subIn K (.ref C) (.type "dict")=some false
 ve:subIn K (.ref C) (.type "ValueError")=some true
 self:subIn K (.ref C) (.ref C)=some true
 ex:excIn K C [.type "ValueError",.type "Exception",.type "BaseException",.type "object"] "ValueError.__new__"=true
def D7.xcls{K:Frag}{x:US}{C:Uw}(Z:D7 K x C):Ls K x C where
 xc:=⟨Z.i.ns,⟨Z.cls,Z.ga,Z.gt,Z.i.ob,Z.i.be⟩,λT hT=>by
  refine sV (pT T hT) ?_;simp only[gL,UG,U3,or_false] at hT;rcases hT with rfl|rfl|rfl|rfl|rfl|rfl|rfl
  .exact Z.t1
  .exact Z.t2
  .exact Z.t3
  .exact Z.t4
  .exact Z.t5
  .exact Z.t6
  .exact Z.t7⟩
 ex:=Z.ex
def XC.inj{K:Frag}(a:XC K x C)(b:XC K x C'):C=C':=by
 have:=a.ns.symm.trans b.ns;simpa using this
noncomputable def kB:List (US×Bool)->US->Option Bool
 |[],_=>none
 |(x,b)::r,c=>if x=c then some b else kB r c
theorem eF{K:Frag}{p:US->Uw->Bool->Prop}:∀{l:List (US×Bool)},(∀q∈l,∃C,XC K q.1 C/\p q.1 C q.2)->∀c C b,kB l c=some b->XC K c C->p c C b
 |[],_,c,C,b,h,_=>by cases h
 |(x,v)::r,H,c,C,b,h,xc=>by
  unfold kB at h
  by_cases e:x=c
  .subst e
   rw[if_pos rfl] at h;cases h;obtain⟨C',xc',q⟩:=H _ U0;obtain rfl:=XC.inj xc xc';exact q
  .rw[if_neg e] at h
   exact eF (λq hq=>H q (UH _ hq)) c C b h xc
def l9(l:List (US×Bool))(c:US):Bool:=kB l c==some true
def zP{K:Frag}{l:List (US×Bool)}{cv:Us}(H:∀q∈l,∃C,XC K q.1 C/\exmOne K (.ref C) cv=some q.2):∀x C,l9 l x=true->XC K x C->exmOne K (.ref C) cv=some true:=λx C h xc =>
 eF (p:=λ_ C b=>exmOne K (.ref C) cv=some b) H x C true (by unfold l9 at h;exact beq_iff_eq.mp h) xc
end DL
namespace Com
open PySem L2 DL
section
variable {α β:Type}
def bC{f:α->aj β}:(aj.exn x:aj α).bind f=.exn x:=aL rfl
end
noncomputable def Mx(hit:US->Bool) (ni:Nat) (sh:Ev->aj Fl) (ρ:Ev) (r:aj Fl):aj Fl:=match r with
 |.exn x=>if hit x.cls=true then(sh (ρ.set ni (.sh (lV x)))).bind (vx ni) else .stuck
 |r=>r
def NC:Eu g hit ni sh ρ=Mx hit ni sh ρ (g ρ):=aL rfl
def xH:vx ni (.nx ρ)=.ok (.nx (ρ.set ni .no)):=aL rfl
def GA(x:US)(ds:List D):aj Fl:=if ds.length<=line then .exn ⟨x,[]⟩ else .stuck
def kU:kH x fa ρ=(fa (fz ρ)).bind (GA x):=aL rfl
def jB:GA x [d]=.exn ⟨x,[]⟩:=if_pos (show 1<=line by decide)
def uv(h:tab c=some b):eD tab (.exc c)=.ok (.bl b):=by unfold eD;simp only[h]
end Com
namespace DL
open PySem PySem.Spec PyProof.Rows L2
section
variable {X:Cx}{π:List (Uw×Obj)}{σ:L2.St}{H:Hp}{s:UE}{h':UR}
def Ej{fp:List Uw}(I:Inv X π σ H s)(k:∀b o,b∉fp->s.heap.get? b=some o->h'.get? b=some o)(hf:∀b∈fp,oG X π H b)(hT:s.heap.objs.size<=T)
  (new:bT X.prog X.w (upd H T (.tup xs)) h' T (.tup xs)):Inv X π σ (upd H T (.tup xs)) { s with heap:=h',toks:=t' }:=by
 have hn:H T=none:=I.hok.fresh hT;have nit:∀b u,H b=some u->b∉fp:=λb u e z=>by rw[(hf b z).1] at e;cases e
 refine I.step (g':=s.gens) (d':=s.drawn) (ch:=fp) (λb hb=>?_) (λb o _ _ hc e _=>k b o hc e) (λb o _ _ hc e _=>⟨o.slots,k b o hc e⟩) (λb o _ e n=>?_)
  (λb o hc e=>⟨o,k b o hc e⟩) (λb xs e=>by rw[aw (bb e hn)];exact e) (λb o u e=>by rw[aw (bb e hn)];exact e) (λb ps e=>⟨#[],by rw[aw (bb e hn),e];simp⟩) (λm hm=>?_) (λb u e=>?_) I.bare
 .obtain⟨_,f1,_,f3,f4,f5⟩:=hf b hb
  exact⟨f3,f1,f4,f5⟩
 .rw[aw (Vf (UY (UT e) hT))];exact n
 .obtain⟨o,es,ep,ho,r⟩:=hm
  exact⟨o,es,ep,k _ o (λz=>(hf _ z).2.1 rfl) ho,r⟩
 .by_cases hb:b=T
  .subst hb;rw[aB] at e;cases e;exact new
  .rw[aw hb] at e
   refine(I.hok b u e).stay (λc v hc q=>k c v ?_ q) (λc q=>by rw[aw (bb q hn)];exact q) λc xs q=>by rw[aw (bb q hn)];exact q
   rcases hc with z|z
   .rw[z];exact nit b u e
   .exact nit c _ z
def JI{fp:List Uw}(I:Inv X π σ H s)(k:∀b o,b∉fp->s.heap.get? b=some o->h'.get? b=some o)(hf:∀b∈fp,oG X π H b):Inv X π σ H { s with heap:=h',toks:=t' }:=by
 have nit:∀b u,H b=some u->b∉fp:=λb u e z=>by rw[(hf b z).1] at e;cases e
 refine I.step (g':=s.gens) (d':=s.drawn) (ch:=fp) (λb hb=>?_) (λb o _ _ hc e _=>k b o hc e) (λb o _ _ hc e _=>⟨o.slots,k b o hc e⟩) (λb o _ e n=>n)
  (λb o hc e=>⟨o,k b o hc e⟩) (λb xs e=>e) (λb o u e=>e) (λb ps e=>⟨#[],by rw[e];simp⟩) (λm hm=>?_) (λb u e=>?_) I.bare
 .obtain⟨_,f1,_,f3,f4,f5⟩:=hf b hb
  exact⟨f3,f1,f4,f5⟩
 .obtain⟨o,es,ep,ho,r⟩:=hm
  exact⟨o,es,ep,k _ o (λz=>(hf _ z).2.1 rfl) ho,r⟩
 .refine(I.hok b u e).stay (λc v hc q=>k c v ?_ q) (λ_ q=>q) λ_ _ q=>q
  rcases hc with z|z
  .rw[z];exact nit b u e
  .exact nit c _ z
end
noncomputable def TL(K:Ut) (a:Uw):It :=
 ⟨λi H=>∃xs x,eX K H a xs/\xs[i]?=some x,λi H x H'=>∃p y,H p=none/\x=.ref p/\(∀xs,eX K H a xs->xs[i]?=some y)/\H'=upd H p (.tup [.int i,y]),λi H=>∃xs,eX K H a xs/\xs.length<=i⟩
def Em{P:Vq}{w:VL}{K:Ut}{elts:List Vk}{k:Nat}{pos:Pos}(a it e:Uw)(hne:e≠it)(hae:a≠e)(hai:a≠it) :
  Fu P w K (.Tuple elts k pos) (TL K a) [e,it] e (λi h=>(∃old,IsEnum h e it i old)/\h.IsListIter it a i) where
 mem:=by simp
 obj:=λi h st b hb=>by
  obtain⟨⟨old,he⟩,o,h1,h2,h3⟩:=st;rcases UG.mp hb with rfl|hb
  .exact⟨_,he,λv z=>by cases z⟩
  .rcases UG.mp hb with rfl|hb
   .exact⟨o,h1,λv z=>by rw[h3] at z;cases z⟩
   .cases hb
 keep:=λi h h' st k=>by
  obtain⟨⟨old,he⟩,hi⟩:=st;exact⟨⟨old,k e (by simp) _ he⟩,hi.at λo y=>k it (by simp) o y⟩
 item:=by
  intro X hP hw hK hc i π s σ H E I hf st hg;subst hP hw hK;obtain⟨xs,x,hq,hx⟩:=hg;obtain⟨its,rv,p,hz⟩:=I.list hq;obtain⟨u,hu,ru⟩:=rv.get hx;have W:=WalksT.enumerate (prog:=X.prog) (w:=X.w) (I.ok.hd hc) e it a hne hae hai its.toArray;have hil:i<its.toArray.size:=by simpa using (UA.mp hu).1
  refine W.item i s _ _ hil ⟨st.1,st.2,p.isList⟩ λT vals h' tk hPt hT hTup hMid hk=>?_;refine⟨_,rfl,W.go elts k pos i T _ _ _ hMid λh'' st'' hk''=>?_⟩;obtain⟨t,y,hy,rfl⟩:=hPt;have hyu:y=u:=by
   have:its[i]?=some y:=by simpa using hy
   rw[hu] at this;cases this;rfl
  subst hyu;obtain⟨o,ho,hr⟩:=hTup;have ho':=hk'' T o (W.apart i T _ hMid) ho;refine⟨.ref T,upd H T (.tup [.int i,x]),Ej (s:=s) (h':=h'') (t':=tk) I (λb o hb e=>hk'' b o hb (hk b o hb e)) hf hT ⟨by show 2<=sizeLine;decide,[.int i t,y],.cons ⟨t,rfl⟩ (.cons ru .nil),o,ho',hr⟩,rfl,⟨T,x,I.hok.fresh hT,rfl,λys hy=>by rw[I.list_inj hy hq];exact hx,rfl⟩,⟨st''.1,st''.2.1⟩,λb hb=>?_⟩;have hb0:=(hf b hb).1;obtain⟨ob,hob,_⟩:∃o,s.heap.get? b=some o/\∀v,o.data≠.cell v:=by
   obtain⟨⟨old,he⟩,o,h1,h2,h3⟩:=st;rcases UG.mp hb with rfl|hb
   .exact⟨_,he,λv z=>by cases z⟩
   .rcases UG.mp hb with rfl|hb
    .exact⟨o,h1,λv z=>by rw[h3] at z;cases z⟩
    .cases hb
  rw[aw (Vf (UY (UT hob) hT))];exact hb0
 done:=by
  intro X hP hw hK hc i π s σ H E I hf st hg;subst hP hw hK;obtain⟨xs,hq,hx⟩:=hg;obtain⟨its,rv,p,hz⟩:=I.list hq;have hl:=rv.length;obtain⟨⟨old,he⟩,hi⟩:=st;exact wpAny_pyNext_enum_end (I.ok.hd hc) he hi p.isList (by simp;omega) λh' hx=>⟨rfl,JI (t':=s.toks) I (λb o hb e=>hx b o (λz=>hb (by simp [z])) e) hf⟩
 self:=λ_ _ _ _ _ st h=>by
  obtain⟨⟨old,he⟩,_⟩:=st;exact wpAny_pyIter_enum he h
section
variable {X:Cx}{E:XK}{elts:List Vk}{k:Nat}{tp:Pos}{e a b:Vk}{f g:Ev->aj D}
noncomputable def Qy(K:Ut) (ta:TA):TI:=λσ H R=>ta σ H λvs H1=>∃a,vs=[.ref a]/\(∃xs,eX K H1 a xs)/\R (TL K a) H1
def Kb(hg:Gl X "enumerate")(hm:X.mg "enumerate"=none)(ha:PA X [a] ta)(hs:Uy [a] X.env=[(false,eval a X.env)]:=by rfl):PI X (.Tuple elts k tp) (.Call (.Name "enumerate" p) [a] [] pos) (Qy X.K ta):=by
 intro π s σ H R I h;refine Call_ (sU I hg hm PyProof.Rows.Boot.«enumerate» (Xl (cH (ha pos π s σ H _ I h) λus s1 z9=>?_) hs rfl));obtain⟨vs,H1,I1,r1,q1⟩:=z9;obtain⟨l,e,⟨xs,hq⟩,q⟩:=q1;subst e;cases r1 with
 |cons r rr =>
  cases rr;cases r;obtain⟨its,rv,p,hz⟩:=I1.list hq;have hlt:l<s1.heap.objs.size:=by obtain⟨o,n,e,_⟩:=p;exact UT e
  refine call_enumerate_list p.isList λh' he hi hsz hk=>?_;refine wpAny_pyIter_enum he ?_;refine⟨s1.heap.objs.size+1,[s1.heap.objs.size+1,s1.heap.objs.size],_,_,H1,rfl,I1.kept (t':=s1.toks) hk,Em l s1.heap.objs.size (s1.heap.objs.size+1) (Nat.succ_ne_self _) (Vf (Nat.lt_succ_of_lt hlt)) (Vf hlt),⟨⟨_,he⟩,hi⟩,λb hb=>?_,q⟩;have hb':s1.heap.objs.size<=b:=by
   rcases UG.mp hb with rfl|hb
   .omega
   .rcases UG.mp hb with rfl|hb
    .exact UJ _
    .cases hb
  exact I1.fpOk hb' (I1.hok.fresh hb')
noncomputable def numbered(n:Nat):List D->List D
 |[]=>[]
 |d::ds=>.tup [.int n,d]::numbered (n+1) ds
theorem eJ:∀(ds:List D) (n:Nat),(numbered n ds).length=ds.length
 |[],_=>rfl
 |d::ds,n=>by simp [numbered,eJ ds]
theorem jS:∀(ds:List D) (n i:Nat),(numbered n ds)[i]?=(ds[i]?).map λd=>D.tup [.int (n+i:Nat),d]
 |[],_,_=>by simp [numbered]
 |d::ds,n,0=>by simp [numbered]
 |d::ds,n,i+1=>by simp only[numbered,Vv];rw[jS ds (n+1) i,show n+1+i=n+(i+1) by omega]
noncomputable def vq(f:Ev->aj D):Ev->aj (List D):=λρ=>(f ρ).bind λd=>match d with
 |.lst ds=>.ok (numbered 0 ds)
 |_=>.stuck
def JK{K:Ut}(hs:aG Ha H)(hp:H p=none)(r:Reps K Ha ds vs):∃H₀2,bB H Ha (upd H p (.tup vs)) H₀2/\Rep K H₀2 (.tup ds) (.ref p) :=
 ⟨upd Ha p (.tup vs),aO hs hp,aN.mpr ⟨p,vs,rfl,kn.of aB,r.mono (aO (o:=.tup vs) hs hp).z⟩⟩
def rh(hg:Gl X "enumerate")(hm:X.mg "enumerate"=none)(h:DE X E a f)(hn:OI a=true:=by exact rfl):DI X E (.Tuple elts k tp) (.Call (.Name "enumerate" p) [a] [] pos) (vq f):=by
 refine⟨lH (Kb hg hm (c9 h.o fV (ie hn)) (ie hn)) λσ H R z9=>?_⟩;obtain⟨Ha,ρ,hs,hr,q⟩:=z9;refine⟨Ha,ρ,hs,hr,?_⟩;unfold vq at q;cases e1:f ρ with
 |stuck|exn x=>rw[e1] at q;exact q
 |ok d =>
  rw[e1] at q;intro v H1 H01 g1 r1;cases d with
  |lst ds =>
   obtain⟨l,vs,rfl,hv,hrv⟩:=aI.mp r1;refine⟨l,rfl,⟨vs,aG.sqL g1.sub hv⟩,q _ H1 H01 g1 ⟨λi H' Ha' s1 s2 hi=>?_,λi H' Ha' x H2 d s1 s2 hd hy=>?_,λi H' Ha' s1 s2 hi=>?_⟩⟩
   .rw[eJ] at hi
    exact⟨vs,vs[i]'(by rw[←hrv.length];exact hi),aG.sqL (s1.trans s2) hv,by simp⟩
   .obtain⟨p,y,hp,rfl,hy,rfl⟩:=hy
    rw[jS] at hd;cases ei:ds[i]? with
    |none=>rw[ei] at hd;cases hd
    |some d' =>
     rw[ei] at hd;cases hd;obtain⟨u,k1,k2⟩:=hrv.get ei;have:=hy vs (aG.sqL (s1.trans s2) hv);rw[k1] at this;cases this;exact JK s2 hp (Reps.cons (aC.mpr (by simp)) (Reps.cons (k2.mono s1) Reps.nil))
   .rw[eJ] at hi
    exact⟨vs,aG.sqL (s1.trans s2) hv,by rw[←hrv.length];exact hi⟩
  |_=>exact q.elim
end
noncomputable def pv(f:US):List US->List D->Option D
 |k::ks,d::ds=>if f=k then some d else pv f ks ds
 |_,_=>none
theorem Di{K:Ut}{H:Hp}{f:US}:∀{ks:List US}{ds:List D}{vs:List V}{d:D},ks.length=vs.length->Reps K H ds vs->pv f ks ds=some d->∃v,(ks.zip vs).lookup f=some v/\Rep K H d v/\f∈ks
 |[],ds,vs,d,_,_,h=>by unfold pv at h;cases h
 |k::ks,[],vs,d,_,_,h=>by unfold pv at h;cases h
 |k::ks,x::ds,vs,d,hl,r,h=>by
  obtain⟨v,r',rfl,r1,r2⟩:=aJ.mp r;unfold pv at h
  by_cases c:f=k
  .rw[if_pos c] at h
   cases h;exact⟨v,by rw[VF,VW,beq_iff_eq.mpr c],r1,by rw[c];exact U0⟩
  .rw[if_neg c] at h
   obtain⟨u,h1,h2,h3⟩:=Di (by simpa using hl) r2 h;exact⟨u,by rw[VF,VW,beq_eq_false_iff_ne.mpr c];exact h1,h2,UH _ h3⟩
section
variable {X:Cx}{E:XK}{e a b o:Vk}{es:List Vk}{fe fo:Ev->aj D}{fa:Ev->aj (List D)}{pos:Pos}
noncomputable def putAll:List US->List V->List (US×V)->List (US×V)
 |f::fs,v::vs,l=>putAll fs vs (ko f v l)
 |_,_,l=>l
theorem zc:∀{l:List (US×V)},f∉l.map (·.1)->ko f v l=l++[(f,v)]
 |[],_=>rfl
 |(k,x)::l,h=>by
  simp only[UW,UG,not_or] at h;unfold ko;rw[if_neg (λz=>h.1 z.symm),zc h.2];rfl
theorem sv:∀{fs:List US}{vs:List V}{l:List (US×V)},fs.Nodup->(∀f∈fs,f∉l.map (·.1))->fs.length=vs.length->putAll fs vs l=l++fs.zip vs
 |[],[],l,_,_,_=>by simp [putAll]
 |[],v::vs,l,_,_,h=>by simp at h
 |f::fs,[],l,_,_,h=>by simp at h
 |f::fs,v::vs,l,nd,hn,h=>by
  rw[Wy] at nd;unfold putAll;rw[zc (hn f U0),sv nd.2 (λg hg=>?_) (by simpa using h),VF,Xr]
  .rfl
  .simp only[V7,UW,Wc,Vl,Wk,not_or]
   exact⟨hn g (UH _ hg),λz=>nd.1 (z▸hg)⟩
def yF{a:Uw}{o:HO}(h:H a=some o):upd H a o=H:=by
 funext b
 by_cases hb:b=a
 .subst hb;rw[aB,h]
 .rw[aw hb]
def oN{a:Uw}{o u:HO}:upd (upd H a o) a u=upd H a u:=by
 funext b
 by_cases hb:b=a
 .subst hb;rw[aB,aB]
 .rw[aw hb,aw hb,aw hb]
theorem zd:∀{l:List (US×V)},(ko f v l).length<=l.length+1
 |[]=>by simp [ko]
 |(k,x)::l=>by
  unfold ko;split
  .simp
  .have:=zd (f:=f) (v:=v) (l:=l)
   simp;omega
end
def CO{K:Ut}:∀f∈([]:List US),jl K C f:=λ_ h=>nomatch h
def sQ{K:Ut}(h:Wq K (.ref C) f=some none)(r:∀f∈ks,jl K C f):∀g∈f::ks,jl K C g:=λg hg=>by
 rcases UG.mp hg with rfl|hg
 .exact h
 .exact r g hg
end DL
namespace Com
open PySem L2 DL
noncomputable def LV(tg:Ev->D->aj Ev) (s:Ev->aj Fl) (ρ:Ev) (ds:List D):aj Fl:=cB tg s ds ρ
noncomputable def LH(d:D):aj (List D):=match d with
 |.lst ds=>.ok (numbered 0 ds)
 |_=>.stuck
def LG(d:D):aj (List D):=match d with
 |.lst ds=>.ok ds
 |_=>.stuck
noncomputable def oq(n:Nat) (fr:List Nat) (tg:Ev->D->aj Ev) (tt fe:Ev->aj D) (ρ:Ev) (ds:List D):aj D:=if ds.length<=line then match cu (dM n fr ρ) tg tt fe ds with
  |.ok es=>.ok (.lst es)
  |_=>.stuck
 else .stuck
noncomputable def HD(tg:Ev->D->aj Ev) (s:Ev->aj Fl) (ρ:Ev) (d:D):aj Fl:=match d with
 |.int j=>if -4611686018427387904<=j/\j<4611686018427387904 then cB tg s (intsFrom 0 j.toNat) ρ else .stuck
 |_=>.stuck
section
variable {s t:Ev->aj Fl}{f g h:Ev->aj D}{src:Ev->aj (List D)}{fa:Ev->aj (List D)}{ρ r:Ev}{i j n:Nat}{d x y:D}{ds es xs:List D}{a b:Int}{tg:Ev->D->aj Ev}{tt fe:Ev->aj D}{fr:List Nat}
def qZ:kI src tg s ρ=(src ρ).bind (LV tg s ρ):=aL rfl
def nY:LV tg s ρ ds=cB tg s ds ρ:=aL rfl
def qX:vq f ρ=(f ρ).bind LH:=aL rfl
def nv:LH (.lst ds)=.ok (numbered 0 ds):=aL rfl
def qW:kE f ρ=(f ρ).bind LG:=aL rfl
def nu:LG (.lst ds)=.ok ds:=aL rfl
def iW:eO n fr src tg tt fe ρ=(src ρ).bind (oq n fr tg tt fe ρ):=aL rfl
def nX(h:(ds.length==is.length)=true):i9 is ρ (.tup ds)=.ok (eZ ρ is ds):=by
 show(match (if ds.length=is.length then some ds else none) with|some ds=>aj.ok (eZ ρ is ds)|none=>.stuck)=_;rw[if_pos (eq_of_beq h)]
def jX:vO f tg s ρ=(f (fz ρ)).bind (HD tg s ρ):=aL rfl
def nk{k:Nat}(h:k<=1000000):HD tg s ρ (.int (k:Int))=cB tg s (intsFrom 0 k) ρ:=by
 unfold HD;dsimp only;rw[if_pos ⟨by omega,by omega⟩,WE]
def fb{l h:Option Int}(c:(HT.sIx ds.length 0 l==0&&HT.sIx ds.length ds.length h==ds.length)=false):mj (.tup ds) l h=.ok (.tup (eP ds l h)):=by
 show(if _ then _ else _)=_;rw[if_neg (λz=>by rw[z.1,z.2] at c;simp at c)]
def og(h:decide (ds.length+es.length<=1000)=true):b9 (.tup (x::ds)) (.tup es)=.ok (.tup (x::ds++es)):=by
 refine if_pos ⟨rfl,?_⟩;have:=of_decide_eq_true h;show ds.length+1+es.length<=line;have:(1001:Nat)<=line:=by decide
 omega
def Dl:NT (.int a) (.int b)=.ok (.int (if b > a then b else a)):=aL rfl
def Dm:je (.bl true)=.ok (.int 1):=aL rfl
def xI:je (.bl false)=.ok (.int 0):=aL rfl
def pz:vA (.int 10) (.int 18)=.ok (.int 1000000000000000000):=aL rfl
def ID(hl:ds.length<=1000000)(h:∀d∈ds,∃ρ1,tg (dM n fr ρ) d=.ok ρ1/\tt ρ1=.ok (.bl true)/\fe ρ1=.ok (F d)):oq n fr tg tt fe ρ ds=.ok (.lst (ds.map F)):=by
 unfold oq;rw[if_pos (show ds.length<=line from hl),wu h]
theorem qc:∀{ds:List D},(∀d∈ds,∃ρ1,tg B d=.ok ρ1/\tt ρ1=.ok (.bl (p d))/\(p d=true->fe ρ1=.ok (F d)))->cu B tg tt fe ds=.ok ((ds.filter p).map F)
 |[],_=>rfl
 |d::ds,h=>by
  obtain⟨ρ1,h1,h2,h3⟩:=h d U0;have ih:=qc (ds:=ds) λd hd=>h d (UH _ hd);unfold cu;rw[h1,N9,h2,N9];cases hp:p d with
  |true =>
   show(fe ρ1).bind _=_;rw[h3 hp,N9,ih,N9,List.filter_cons_of_pos hp];rfl
  |false =>
   show cu B tg tt fe ds=_;rw[ih,List.filter_cons_of_neg (by rw[hp];decide)]
def AA(hl:ds.length<=1000000)(h:∀d∈ds,∃ρ1,tg (dM n fr ρ) d=.ok ρ1/\tt ρ1=.ok (.bl (p d))/\(p d=true->fe ρ1=.ok (F d))):oq n fr tg tt fe ρ ds=.ok (.lst ((ds.filter p).map F)):=by
 unfold oq;rw[if_pos (show ds.length<=line from hl),qc h]
end
end Com
local macro_rules|`(tactic|open_line with[$xs,*])=>`(tactic|simp only[iw,tZ,nE,nD,nO,tY,nC,ua,nH,n6,kX,Ac,uy,ux,uf,nM,uF,nL,ud,nJ,uz,tP,ue,nK,Aj,Ai,uE,Ah,uo,n8,kZ,kY,uG,oa,n9,z8,uk,uh,um,nN,tO,nr,HJ,nB,tX,nA,nz,ny,qY,t9,nG,nF,z7,ug,z9,zY,tW,tV,tU,uA,nZ,k7,Ad,uD,uC,uB,uw,uH,uq,Ab,Aa,eM,nP,uI,kP,UW,Wc,U6,Wf,Vx,WT,We,Ws,VY,Vv,W3,W4,W9,Nat.reduceSub,Nat.reduceAdd,XN,XJ,Xy,WJ,tT,uu,gr,gq,ur,nt,zZ,t8,zX,tR,tQ,lP,lO,nW,nV,nU,nT,nS,nR,decide_true,decide_false,Nat.reduceLeDiff,Nat.reduceBEq,Int.reduceBEq,beq_self_eq_true,DL.dOne,DL.mYes,eU,dU,er,ez,iA,gD,iz,iy,gC,Ag,Af,Ae,Int.reduceLT,Int.reduceLE,Int.reduceSub,Int.reduceAdd,Int.reduceMul,Int.reduceNeg,nQ,kW,ub,nI,Int.reduceToNat,Xz,qZ,nY,qX,nv,qW,nu,iW,nX,jX,fb,og,Dl,Dm,xI,pz,$[$xs:term],*])
local macro_rules|`(tactic|open_line with[$xs,*] seeing $h)=>`(tactic|simp only[iw,tZ,nE,nD,nO,tY,nC,ua,nH,n6,kX,Ac,uy,ux,uf,nM,uF,nL,ud,nJ,uz,tP,ue,nK,Aj,Ai,uE,Ah,uo,n8,kZ,kY,uG,oa,n9,z8,uk,uh,um,nN,tO,nr,HJ,nB,tX,nA,nz,ny,qY,t9,nG,nF,z7,ug,z9,zY,tW,tV,tU,uA,nZ,k7,Ad,uD,uC,uB,uw,uH,uq,Ab,Aa,eM,nP,uI,kP,UW,Wc,U6,Wf,Vx,WT,We,Ws,VY,Vv,W3,W4,W9,Nat.reduceSub,Nat.reduceAdd,XN,XJ,Xy,WJ,tT,uu,gr,gq,ur,nt,zZ,t8,zX,tR,tQ,lP,lO,nW,nV,nU,nT,nS,nR,decide_true,decide_false,Nat.reduceLeDiff,Nat.reduceBEq,Int.reduceBEq,beq_self_eq_true,DL.dOne,DL.mYes,eU,dU,er,ez,iA,gD,iz,iy,gC,Ag,Af,Ae,Int.reduceLT,Int.reduceLE,Int.reduceSub,Int.reduceAdd,Int.reduceMul,Int.reduceNeg,nQ,kW,ub,nI,Int.reduceToNat,Xz,qZ,nY,qX,nv,qW,nu,iW,nX,jX,fb,og,Dl,Dm,xI,pz,$[$xs:term],*] at $(⟨h⟩):ident)
namespace Com
open PySem L2 DL
def sS(ha:0<=a)(hb:0<b):0<=(KC a b).1:=Int.ediv_nonneg ha (by omega)
def KA(ha:0<a)(hb:0<b):0<(KC a b).1:=by
 have hg:0<(VB a b:Int):=xE (by omega);have hd:(VB a b:Int)∣a:=Int.gcd_dvd_left ..;exact Int.ediv_pos_of_pos_of_dvd ha (by omega) hd
def OL(h0:0<=a)(h1:a<(Fw:Int)):wO (a,1):=⟨⟨by show(1:Int)<=1;decide,by show VB a 1=1;exact Int.gcd_one_right ..⟩,by show a.natAbs<Fw;omega,by show(1:Int).natAbs<Fw;decide⟩
def Qj(h0:0<=a)(h1:a<(Fw:Int)):a.natAbs<Ly:=UY (show a.natAbs<Fw by omega) Lw
def xF(P:Nat->Ev->Prop)(h:∀k,k<n->∀ρ,P k ρ->∃ρ2,body (ρ.set i (.sh (.int (k:Int))))=.ok (.nx ρ2)/\P (k+1) ρ2)(h0:P 0 ρ):∃ρ',cB (b3 i) body (intsFrom 0 n) ρ=.ok (.nx ρ')/\P n ρ':=by
 have key:∀(m k:Nat) (ρ:Ev),k+m=n->P k ρ->∃ρ',cB (b3 i) body ((intsFrom 0 n).drop k) ρ=.ok (.nx ρ')/\P n ρ':=by
  intro m
  induction m with
  |zero =>
   intro k ρ hk hp;have:k=n:=by omega
   subst this;rw[Ht];exact⟨ρ,rfl,hp⟩
  |succ m ih =>
   intro k ρ hk hp;obtain⟨ρ2,h1,h2⟩:=h k (by omega) ρ hp;rw[EU (by omega),xG (tg:=b3 i) rfl h1];exact ih (k+1) ρ2 (by omega) h2
 exact key n 0 ρ (by omega) h0
def Dg(P:Nat->Ev->Prop)(h:∀k d,ds[k]?=some d->∀ρ,P k ρ->∃ρ1 ρ2,tg ρ d=.ok ρ1/\body ρ1=.ok (.nx ρ2)/\P (k+1) ρ2)(h0:P 0 ρ):∃ρ',cB tg body ds ρ=.ok (.nx ρ')/\P ds.length ρ':=by
 have key:∀(m k:Nat) (ρ:Ev),k+m=ds.length->P k ρ->∃ρ',cB tg body (ds.drop k) ρ=.ok (.nx ρ')/\P ds.length ρ':=by
  intro m
  induction m with
  |zero =>
   intro k ρ hk hp;have:k=ds.length:=by omega
   subst this;rw[WQ];exact⟨ρ,rfl,hp⟩
  |succ m ih =>
   intro k ρ hk hp;have hlt:k<ds.length:=by omega
   obtain⟨ρ1,ρ2,h1,h2,h3⟩:=h k ds[k] (UB hlt) ρ hp;rw[Vm hlt,xG h1 h2];exact ih (k+1) ρ2 (by omega) h3
 exact key ds.length 0 ρ (by omega) h0
def yi:("abcdefghijklmnopqrstuvwxyz" : US).cps.toList=(VG 26).map (97 + ·):=by decide +kernel
def Og:∀n,n<26->pZ (97+n)=true:=by decide +kernel
def Of(h0:0<=v)(h1:v<26):aW (.str "abcdefghijklmnopqrstuvwxyz") (.int v)=.ok (.str ⟨#[97+v.toNat]⟩):=by
 obtain⟨n,rfl⟩:=VE h0;have hn:n<26:=by omega
 have e:atI ("abcdefghijklmnopqrstuvwxyz" : US).cps.toList ((n:Nat):Int)=some (97+n):=gz (by rw[yi];simp [hn]);show(if("abcdefghijklmnopqrstuvwxyz" : US).length<=line then(match atI ("abcdefghijklmnopqrstuvwxyz" : US).cps.toList ((n:Nat):Int) with|some c=>aj.ok (D.str ⟨#[c]⟩)|none=>.stuck) else .stuck)=_;rw[if_pos (by decide),e];rfl
theorem C4:∀cs:List Nat,Str.join "" (cs.map λc=>(⟨#[c]⟩:US))=⟨cs.toArray⟩
 |[]=>rfl
 |[c]=>rfl
 |c::d::cs=>by
  show(⟨#[c]⟩:US)++""++Str.join "" ((d::cs).map λc=>(⟨#[c]⟩:US))=_;rw[C4 (d::cs)];apply Str.ext';show(#[c]++("" : US).cps)++(d::cs).toArray=_;have:("" : US).cps=#[]:=rfl;rw[this];simp
theorem Cj:∀cs:List Nat,i8 (cs.map λc=>D.str ⟨#[c]⟩)=some (cs.map λc=>(⟨#[c]⟩:US))
 |[]=>rfl
 |c::cs=>by
  show(i8 (cs.map λc=>D.str ⟨#[c]⟩)).map _=_;rw[Cj cs];rfl
def Bv{cs:List Nat}(h:cs.length<=1000):ng "" [.lst (cs.map λc=>D.str ⟨#[c]⟩)]=.ok (.str ⟨cs.toArray⟩):=by
 have KR:iV "" (cs.map λc=>(⟨#[c]⟩:US))=true:=by
  unfold iV;have e:((cs.map λc=>(⟨#[c]⟩:US)).map (·.length)).sum=cs.length:=by
   clear h
   induction cs with
   |nil=>rfl
   |cons c cs ih =>
    simp only[UW,List.sum_cons,U6,ih];show 1+cs.length=_;omega
  rw[e,U4];exact⟨by decide,decide_eq_true (by rw[Uv];omega)⟩
 show(match i8 (cs.map λc=>D.str ⟨#[c]⟩) with|some ys=>if iV "" ys=true then aj.ok (D.str (YE "" ys)) else .stuck|none=>.stuck)=_;rw[Cj];show(if iV "" _=true then aj.ok (D.str (YE "" _)) else .stuck)=_;rw[if_pos KR];show aj.ok (D.str (Builtin.Str.glued "" _))=_;rw[StrLaws.glued_eq_join,C4]
structure fO (zs:List US):Prop where
 nd:zs.Nodup
 nm:∀z∈zs,nameB z=true
def NU(a:List Nat):(⟨a.toArray⟩:US).length=a.length:=by show a.toArray.size=_;simp
structure Jj where
 a:US
 b:US
 w:US
 l:IY
 o:Option IY
def dN:Option IY->D
 |none=>.non
 |some x=>fr x
def bq(t:Jj):D:=.tup [.str t.a,.str t.b,.str t.w,fr t.l,dN t.o]
structure qj (zs:List US) (t:Jj):Prop where
 a:t.a∈zs
 b:t.b∈zs
 ne:t.a≠t.b
 w:t.w="one"∨t.w="both"
 l:wO t.l
 l0:0<=t.l.1
 o:∀x,t.o=some x->wO x/\0<x.1
def jM{zs:List US}{k:Int}(h0:0<=k)(h1:k<zs.length):∃z,zs[k.toNat]?=some z/\aW (.lst (zs.map D.str)) (.int k)=.ok (.str z):=by
 obtain⟨n,rfl⟩:=VE h0;have hn:n<zs.length:=by omega
 refine⟨zs[n],by simp [hn],pf ?_⟩;rw[UL,UB hn];rfl
def JC{k:Int}(h0:0<=k)(h1:k<2):∃z:US,(z="one"∨z="both")/\aW (.lst [.str "one",.str "both"]) (.int k)=.ok (.str z):=by
 have:k=0∨k=1:=by omega
 rcases this with rfl|rfl
 .exact⟨_,.inl rfl,lP⟩
 .exact⟨_,.inr rfl,lO⟩
def wF{n d e:Int}(h2:2<=n)(d0:0<=d)(d1:d<n)(e0:0<=e)(e1:e<n-1):(0<=(d+1+e).fmod n/\(d+1+e).fmod n<n)/\(d+1+e).fmod n≠d:=by
 refine⟨fQ (by omega),?_⟩;rw[VN _ (by omega)]
 by_cases h:d+1+e<n
 .rw[Yp (by omega) h];omega
 .have:(d+1+e) % n=d+1+e-n:=by
   rw[←Int.sub_emod_right (d+1+e) n,Yp (by omega) (by omega)]
  rw[this];omega
def kN{α:Type}{zs:List α}(nd:zs.Nodup){i j:Nat}{x y:α}(hi:zs[i]?=some x)(hj:zs[j]?=some y)(hij:i≠j):x≠y:=by
 intro e;subst e;obtain⟨h1,e1⟩:=UA.mp hi;obtain⟨h2,e2⟩:=UA.mp hj;exact hij ((List.getElem_inj nd).mp (e1.trans e2.symm))
noncomputable def qi:Ev->aj Fl :=
 (aA (b8 (gX (ao (ae (af 0) az) m_is_ratio) (ag (ag (af 0) (dC (.int 0)) aW) (dC (.int 0)) SN)))
 av)
def m_is_length:List D->aj D:=cj 1 qi
noncomputable def vh:Ev->aj Fl :=
 (aA (b8 (iZ (ag (af 0) (dC (.non)) gW) (gX (ao (ae (af 0) az) m_is_ratio) (ag (ag (af 0) (dC (.int 0)) aW) (dC (.int 0)) Ld))))
 av)
def m_is_worth:List D->aj D:=cj 1 vh
noncomputable def iJ:Ev->aj Fl :=
 (aA (e7 (iZ (cM (bD (af 0) (fP "tuple"))) (ag (ao (ae (af 0) az) (m1 dw)) (dC (.int 5)) jc))
 (aA (b8 (dC (.bl false)))
 av)
 av)
 (aA (e7 (iZ (cM (ao (ae (ag (af 0) (dC (.int 0)) aW) az) m_is_name)) (iZ (cM (ao (ae (ag (af 0) (dC (.int 1)) aW) az) m_is_name)) (ag (ag (af 0) (dC (.int 0)) aW) (ag (af 0) (dC (.int 1)) aW) gw)))
 (aA (b8 (dC (.bl false)))
 av)
 av)
 (aA (e7 (iZ (cM (bD (ag (af 0) (dC (.int 2)) aW) (fP "str"))) (ag (ag (af 0) (dC (.int 2)) aW) (dC (.tup [(.str "one"),(.str "both")])) cD))
 (aA (b8 (dC (.bl false)))
 av)
 av)
 (aA (b8 (gX (ao (ae (ag (af 0) (dC (.int 3)) aW) az) m_is_length) (ao (ae (ag (af 0) (dC (.int 4)) aW) az) m_is_worth)))
 av))))
def m_is_tie:List D->aj D:=cj 1 iJ
noncomputable def b_look_at_places:Ev->aj Fl :=
 (aA (e7 (iZ (cM (bD (af 0) (fP "list"))) (cM (iG Lc Lc (dC (.int 2)) (ao (ae (af 0) az) (m1 dw)) (dC (.int 7)))))
 (aA fU
 av)
 av)
 (aA (kI (vq (af 0)) (i9 [1,2])
 (aA (e7 (iZ (cM (ao (ae (af 2) az) m_is_name)) (ag (af 2) (lp (af 0) de (cX (af 1))) Fe))
 (aA fU
 av)
 av)
 av))
 av))
def m_look_at_places:List D->aj D:=cj 3 b_look_at_places
noncomputable def b_look_at_ties:Ev->aj Fl :=
 (aA (e7 (iZ (cM (bD (af 0) (fP "list"))) (ag (ao (ae (af 0) az) (m1 dw)) (dC (.int 14)) Ld))
 (aA fU
 av)
 av)
 (aA (kI (vq (af 0)) (i9 [2,3])
 (aA (e7 (iZ (cM (ao (ae (af 3) az) m_is_tie)) (iZ (ag (ag (af 3) (dC (.int 0)) aW) (af 1) cD) (ag (ag (af 3) (dC (.int 1)) aW) (af 1) cD)))
 (aA fU
 av)
 av)
 av))
 av))
def m_look_at_ties:List D->aj D:=cj 4 b_look_at_ties
noncomputable def mM:Ev->aj Fl :=
 (aA (b8 (gX (ao (ae (af 0) az) m_is_name) (ag (af 0) (af 1) Fe)))
 av)
def m_is_place:List D->aj D:=cj 2 mM
noncomputable def b_look_at_web:Ev->aj Fl :=
 (aA (e7 (iZ (cM (bD (af 0) (fP "tuple"))) (ag (ao (ae (af 0) az) (m1 dw)) (dC (.int 4)) jc))
 (aA fU
 av)
 av)
 (aA (ig (ao (ae (ag (af 0) (dC (.int 0)) aW) az) m_look_at_places))
 (aA (ig (ao (ae (ag (af 0) (dC (.int 1)) aW) (ae (ag (af 0) (dC (.int 0)) aW) az)) m_look_at_ties))
 (aA (e7 (cM (ao (ae (ag (af 0) (dC (.int 2)) aW) (ae (ag (af 0) (dC (.int 0)) aW) az)) m_is_place))
 (aA fU
 av)
 av)
 (aA (e7 (iZ (cM (ao (ae (ag (af 0) (dC (.int 3)) aW) (ae (ag (af 0) (dC (.int 0)) aW) az)) m_is_place)) (ag (ag (af 0) (dC (.int 3)) aW) (ag (af 0) (dC (.int 2)) aW) gw))
 (aA fU
 av)
 av)
 av)))))
def m_look_at_web:List D->aj D:=cj 1 b_look_at_web
noncomputable def ck:Ev->aj Fl :=
 (aA (b8 (gX (ao (ae (af 1) az) m_is_whole) (iG Lc Q2 (dC (.int 0)) (af 1) (ao (ae (ag (af 0) (dC (.int 1)) aW) az) (m1 dw)))))
 av)
def m_is_tie_number:List D->aj D:=cj 2 ck
structure AO where
 ps:List US
 ts:List Jj
 fi:US
 la:US
def bp(w:AO):D:=.tup [.lst (w.ps.map D.str),.lst (w.ts.map bq),.str w.fi,.str w.la]
structure dX (w:AO):Prop where
 n2:2<=w.ps.length
 n7:w.ps.length<=7
 nm:fO w.ps
 t14:w.ts.length<=14
 ts:∀t∈w.ts,qj w.ps t
 fi:w.fi∈w.ps
 la:w.la∈w.ps
 ne:w.fi≠w.la
def dG(h:nameB z=true):m_is_name [.str z]=.ok (.bl true):=by
 have hl:z.length<=8:=by
  unfold nameB at h;simp only[U4,decide_eq_true_eq] at h;exact h.2.1
 rw[mD (show KR (.str z)=true from decide_eq_true (Va hl (by decide)))];show aj.ok (D.bl (nameB z))=_;rw[h]
def sr(h:Low x):m_is_ratio [fr x]=.ok (.bl true):=by
 rw[xy];show aj.ok (D.bl (su (.tup [.int x.1,.int x.2])))=_;have h1:=h.q1;have h2:=h.g1;show aj.ok (D.bl (decide (1<=x.2)&&(VB x.1 x.2==1)))=_;rw[decide_eq_true h1,h2];rfl
def zI(h:Low x)(h0:0<=x.1):m_is_length [fr x]=.ok (.bl true):=by
 have e:fr x=.tup [.int x.1,.int x.2]:=rfl;have h1:=sr h;rw[e] at h1 ⊢;open_line with[m_is_length,qi,h1,decide_eq_true h0,decide_eq_true (show x.1≥0 from h0)]
def AR(h:∀x,o=some x->Low x/\0<x.1):m_is_worth [dN o]=.ok (.bl true):=by
 cases o with
 |none=>rfl
 |some x =>
  obtain⟨hx,h0⟩:=h x rfl;have e:dN (some x)=.tup [.int x.1,.int x.2]:=rfl;have h1:=sr hx;rw[show fr x=.tup [.int x.1,.int x.2] from rfl] at h1;rw[e];open_line with[m_is_worth,vh,h1,decide_eq_true h0]
def gu:gw (.str x) (.str y)=.ok (.bl (x==y)):=by unfold gw;rw[if_pos ⟨rfl,rfl⟩,dJ]
def rQ(nm:fO zs)(h:qj zs t):m_is_tie [bq t]=.ok (.bl true):=by
 obtain⟨a,b,w,l,o⟩:=t;obtain⟨ha,hb,hne,hw,hl,hl0,ho⟩:=h;have h1:=dG (nm.nm a ha);have h2:=dG (nm.nm b hb);have h3:=zI hl.toLow hl0;have h4:=AR (o:=o) λx hx=>⟨(ho x hx).1.toLow,(ho x hx).2⟩
 have h5:(a==b)=false:=beq_eq_false_iff_ne.mpr hne;have h6:cD (.str w) (.tup [.str "one",.str "both"])=.ok (.bl false):=by
  rcases hw with rfl|rfl<;>rfl
 have e:bq ⟨a,b,w,l,o⟩=.tup [.str a,.str b,.str w,fr l,dN o]:=rfl;rw[e];open_line with[m_is_tie,iJ,h1,h2,gu,h5,h6,h3,h4]
def D2{zs:List US}:(zs.map D.str).any (λd=>dJ d (.str z))=decide (z∈zs):=by
 induction zs with
 |nil=>rfl
 |cons y zs ih =>
  rw[UW,WB,ih];show((y==z)||decide (z∈zs))=_
  by_cases h:y=z
  .subst h;simp
  .have:(y==z)=false:=beq_eq_false_iff_ne.mpr h
   rw[this,YS];have:z∈y::zs↔z∈zs:=by simp [Vh h]
   exact decide_eq_decide.mpr this.symm
def vM{zs:List US}:(zs.map D.str).all (br n)=true:=Vc.mpr λd hd=>by
 obtain⟨z,_,rfl⟩:=Vg.mp hd;cases n<;>rfl
def qU{zs:List US}:Fe (.str z) (.lst (zs.map D.str))=.ok (.bl (decide (z∈zs))):=by
 have e:Ji (.str z) (.lst (zs.map D.str))=some (decide (z∈zs)):=(if_pos ⟨rfl,vM⟩).trans (congrArg some D2);unfold Fe;rw[e]
def ef{zs:List US}:cD (.str z) (.lst (zs.map D.str))=.ok (.bl (!(decide (z∈zs)))):=by
 have e:Ji (.str z) (.lst (zs.map D.str))=some (decide (z∈zs)):=(if_pos ⟨rfl,vM⟩).trans (congrArg some D2);unfold cD;rw[e]
def jP{zs:List US}(h:nameB z=true)(hz:z∈zs):m_is_place [.str z,.lst (zs.map D.str)]=.ok (.bl true):=by
 open_line with[m_is_place,mM,dG h,qU,decide_eq_true hz]
def jR{α:Type}{F:α->D}{xs:List α}{k:Nat}(h:(numbered 0 (xs.map F))[k]?=some d):∃x,xs[k]?=some x/\d=.tup [.int (k:Int),F x]:=by
 rw[jS,UL] at h;cases e:xs[k]? with
 |none=>rw[e] at h;cases h
 |some x =>
  rw[e] at h;cases h;exact⟨x,rfl,by simp⟩
def BO{α:Type}{F:α->D}{xs:List α}{k:Nat}(h:k<=xs.length):eP (xs.map F) none (some (k:Int))=(xs.take k).map F:=by
 rw[Le,HT.sIx_none,HT.sIx_nat,Nat.min_eq_left h,Wl,W9]
def vR(h2:2<=zs.length)(h7:zs.length<=7)(nm:fO zs):m_look_at_places [.lst (zs.map D.str)]=.ok .non:=by
 obtain⟨ρ',hl,_⟩:=Dg (ds:=numbered 0 (zs.map D.str)) (tg:=i9 [1,2]) (ρ:=[.sh (.lst (zs.map D.str)),.no,.no])
  (body:=(aA (e7 (iZ (cM (ao (ae (af 2) az) m_is_name)) (ag (af 2) (lp (af 0) de (cX (af 1))) Fe)) (aA fU av) av) av))
  (λk ρ=>∃a b,ρ=[.sh (.lst (zs.map D.str)),a,b]) (by
   rintro k d hd ρ ⟨a,b,rfl⟩;obtain⟨z,hz,rfl⟩:=jR hd;refine⟨_,[.sh (.lst (zs.map D.str)),.sh (.int (k:Int)),.sh (.str z)],nX rfl,?_,_,_,rfl⟩;have hk:k<zs.length:=(UA.mp hz).1;have hnot:decide (z∈zs.take k)=false:=decide_eq_false λhm=>by
    obtain⟨j,hj⟩:=List.mem_iff_getElem?.mp hm;have hjk:j<k:=by have:=(UA.mp hj).1;simp at this;omega
    rw[YQ hjk] at hj;exact kN nm.nd hj hz (by omega) rfl
   open_line with[dG (nm.nm z (UN hz)),BO (XM hk),qU,hnot]) ⟨.no,.no,rfl⟩
 have e1:decide ((2:Int)<=(zs.length:Int))=true:=decide_eq_true (by omega);have e2:decide ((zs.length:Int)<=7)=true:=decide_eq_true (by omega);open_line with[m_look_at_places,b_look_at_places,Uv,e1,e2,hl]
def Ci{ts:List Jj}(h14:ts.length<=14)(nm:fO zs)(ht:∀t∈ts,qj zs t):m_look_at_ties [.lst (ts.map bq),.lst (zs.map D.str)]=.ok .non:=by
 obtain⟨ρ',hl,_⟩:=Dg (ds:=numbered 0 (ts.map bq)) (tg:=i9 [2,3]) (ρ:=[.sh (.lst (ts.map bq)),.sh (.lst (zs.map D.str)),.no,.no])
  (body:=(aA (e7 (iZ (cM (ao (ae (af 3) az) m_is_tie)) (iZ (ag (ag (af 3) (dC (.int 0)) aW) (af 1) cD) (ag (ag (af 3) (dC (.int 1)) aW) (af 1) cD))) (aA fU av) av) av))
  (λk ρ=>∃a b,ρ=[.sh (.lst (ts.map bq)),.sh (.lst (zs.map D.str)),a,b]) (by
   rintro k d hd ρ ⟨a,b,rfl⟩;obtain⟨t,ht',rfl⟩:=jR hd;refine⟨_,[.sh (.lst (ts.map bq)),.sh (.lst (zs.map D.str)),.sh (.int (k:Int)),.sh (bq t)],nX rfl,?_,_,_,rfl⟩;have hT:=ht t (UN ht');have h1:=rQ nm hT;rw[show bq t=.tup [.str t.a,.str t.b,.str t.w,fr t.l,dN t.o] from rfl] at h1 ⊢;open_line with[h1,ef,decide_eq_true hT.a,decide_eq_true hT.b]) ⟨.no,.no,rfl⟩
 have e1:decide ((14:Int)<(ts.length:Int))=false:=decide_eq_false (by omega);open_line with[m_look_at_ties,b_look_at_ties,Uv,e1,decide_eq_false (show ¬(ts.length:Int) > 14 by omega),hl]
def web_ok(h:dX w):m_look_at_web [bp w]=.ok .non:=by
 obtain⟨ps,ts,fi,la⟩:=w;have h1:=vR h.n2 h.n7 h.nm;have h2:=Ci h.t14 h.nm h.ts;have h3:=jP (h.nm.nm fi h.fi) h.fi;have h4:=jP (h.nm.nm la h.la) h.la;have h5:(la==fi)=false:=beq_eq_false_iff_ne.mpr (Vh h.ne);rw[show bp ⟨ps,ts,fi,la⟩=.tup [.lst (ps.map D.str),.lst (ts.map bq),.str fi,.str la] from rfl];open_line with[m_look_at_web,b_look_at_web,h1,h2,h3,h4,gu,h5]
noncomputable def qG:Ev->aj Fl :=
 (aA (bS 1 (dC (.int 1)))
 (aA (qr (af 0) (b3 2)
 (aA (bS 1 (ag (ag (af 1) (ao (ae (af 1) (ae (ag (af 2) (dC (.int 1)) aW) az)) m_common_divisor) qF) (ag (af 2) (dC (.int 1)) aW) dy))
 av))
 (aA (b8 (af 1))
 av)))
def m_shared_bottom:List D->aj D:=cj 3 qG
noncomputable def B5:Ev->aj Fl :=
 (aA (b8 (ag (ag (af 0) (dC (.int 0)) aW) (ag (af 1) (ag (af 0) (dC (.int 1)) aW) qF) dy))
 av)
def m_as_whole:List D->aj D:=cj 2 B5
noncomputable def vd:Ev->aj Fl :=
 (aA (bS 1 (ao (ae (eO 1 [] (kE (af 0)) (b3 0) (ag (af 0) (dC (.non)) fR) (af 0)) az) m_shared_bottom))
 (aA (b8 (ao (ae (eO 1 [1] (kE (af 0)) (b3 0) mYes (RF (ag (af 0) (dC (.non)) gW) (dC (.non)) (ao (ae (af 0) (ae (af 1) az)) m_as_whole))) (ae (af 1) az)) dO))
 av))
def m_on_one_scale:List D->aj D:=cj 2 vd
def dF(ks:List Nat):D:=.lst (ks.map λ(k:Nat)=>D.int (k:Int))
structure Mk (w:AO) (ks:List Nat):Prop where
 up:ks.Pairwise (· < ·)
 wo:∀k∈ks,∃t x,w.ts[k]?=some t/\t.o=some x
def wX{w:AO}{k:Nat}(h:w.ts[k]?=some t):aW (.lst (w.ts.map bq)) (.int (k:Int))=.ok (bq t):=pf (by rw[UL,h];rfl)
def KI:aW (.lst (xs++[x])) (.int (-1))=.ok x:=by
 have e:atI (xs++[x]) (-1)=some x:=by
  unfold atI AM;rw[if_neg (by decide)];have h:(-((xs++[x]).length:Int))<=-1:=by simp;omega
  rw[if_pos h];have e:(-1+((xs++[x]).length:Int)).toNat=xs.length:=by simp;omega
  rw[e];simp
 show(match atI (xs++[x]) (-1) with|some d=>aj.ok d|none=>.stuck)=_;rw[e]
def ES(w:AO)(k:Nat):Bool:=((w.ts[k]?).bind Jj.o).isSome
def FU(h1:c (fz ρ)=.ok (.bl true))(h2:s ρ=.ok (.nx ρ2)):dk c s (n+1) ρ=dk c s n ρ2:=by
 conv=>lhs;unfold dk
 rw[h1,h2];rfl
def Ee(h1:c (fz ρ)=.ok (.bl false)):dk c s (n+1) ρ=.ok (.nx ρ):=by
 conv=>lhs;unfold dk
 rw[h1];rfl
end Com
namespace DL
open PySem PySem.Spec PyProof.Rows L2
noncomputable def PU(K:Ut) (E:XK) (He η Ha:Hp) (r:aj Fl) (D:jK):Prop:=match r with
 |.ok (.rt (.lst es))=>∀p us H Ha',bB He η H Ha'->He p=none->Ha' p=none->H p=some (.lst us)->Reps K Ha' es us->D.rt (.ref p) H
 |.exn x=>∀C ox H Ha',bB He η H Ha'->AJ K Ha' x C ox->E C ox H
 |_=>False
noncomputable def TV(K:Ut) (E:XK) (He η:Hp) (g:Ev->aj Fl):TS:=λD σ H=>∃Ha ρ,dD K He η Ha σ H ρ/\PU K E He η Ha (g ρ) D
structure Jc (X:Cx) (E:XK) (He η:Hp) (st:List V0) (g:Ev->aj Fl):Prop where
 o:wK X st (TV X.K E He η g)
section
variable {X:Cx}{E:XK}{He η:Hp}{st:V0}{rest:List V0}{e:Vk}{es:List Vk}{f:Ev->aj D}{fa:Ev->aj (List D)}{s t:Ev->aj Fl}{pos:Pos}
def MK(t:Ev->aj Fl)(r:Fl):aj Fl:=match r with
 |.nx ρ=>t ρ
 |_=>.stuck
def vN(s t:Ev->aj Fl):Ev->aj Fl:=λρ=>(s ρ).bind (MK t)
def wc(h1:DS X E He η st s)(h2:Jc X E He η rest t):Jc X E He η (st::rest) (vN s t):=by
 refine⟨?_⟩;refine eT (gA h1.o h2.o) λD σ H z9=>?_;obtain⟨Ha,ρ,h,q⟩:=z9;refine⟨Ha,ρ,h,?_⟩
 unfold vN at q;cases e1:s ρ with
 |stuck|exn x=>rw[e1] at q;exact q
 |ok r =>
  rw[e1] at q;cases r with|nx ρ'=>exact λσ' H' Ha' s' h'=>⟨Ha',ρ',h',q⟩|rt d|bk ρ'|ct ρ'=>exact q.elim
end
def M9(r:Fl):aj D:=match r with
 |.rt (.lst es)=>.ok (.lst es)
 |_=>.stuck
noncomputable def Ey(n:Nat) (s:Ev->aj Fl) (ds:List D):aj D:=(s (ds.map Sl.sh++UK (n-ds.length) .no)).bind M9
noncomputable def PR(K:Ut) (E:XK) (H Ha:Hp) (r:aj D) (Q:VK):Prop:=match r with
 |.ok (.lst es)=>∀p us H' Ha',bB H Ha H' Ha'->H p=none->Ha' p=none->H' p=some (.lst us)->Reps K Ha' es us->Q (.ref p) H'
 |.exn x=>∀C ox H' Ha',bB H Ha H' Ha'->AJ K Ha' x C ox->E C ox H'
 |_=>False
noncomputable def Pm(K:Ut) (n:Nat) (m:List D->aj D):Sp:=λvs H Q E=>vs.length=n/\∃Ha ds,aG Ha H/\Reps K Ha ds vs/\PR K E H Ha (m ds) Q
def Bz{K:Ut}{st:V0}{N ps:List US}{k:Nat}(F:Fy K x qual st f fd)(S:eY N ps (defScope st))
  (hbody:∀(cdv:Us) (A:Vw) (outer:List VP) (s0:UE) (H Ha:Hp) (E:XK),cW k (A.deeper (envOfC qual (defScope st) s0.heap.objs.size f cdv)) ->
   Jc (dW CX0 P w K mg base N qual (defScope st) f cdv A outer s0 H E).nox E H Ha (defBody st) s):fZ P w K mg base CX0 (k+1) f fd ps (Pm K ps.length (Ey N.length s)):=by
 have hpl:ps.length<=N.length:=by have:=congrArg Xq S.pre;rw[Vn] at this;omega
 refine F.ok S (λvs H Q E h=>h.1) λcdv A outer s0 H vs Q E hr h=>?_;obtain⟨hn,Ha,ds,hs,hv,q⟩:=h;refine⟨_,(hbody cdv A outer s0 H Ha E hr).o,Ha,ds.map Sl.sh++UK (N.length-ds.length) .no,?_,?_⟩
 .refine⟨bB.refl hs,kD hv,λi d e=>?_,λi j d d' hij e=>?_,?_,OX.none oV mi⟩
  .by_cases hi:i<ds.length
   .rw[UQ (by simpa using hi),UL] at e
    cases q:ds[i]? with|none|some d'=>rw[q] at e;cases e
   .rw[UZ (by simpa using hi),U7] at e
    split at e<;>cases e
  .by_cases hi:i<ds.length
   .rw[UQ (by simpa using hi),UL] at e
    cases q:ds[i]? with|none|some d'=>rw[q] at e;cases e
   .rw[UZ (by simpa using hi),U7] at e
    split at e<;>cases e
  .unfold L2.start
   have:=hv.length;simp only[Vt,Uv,Vu];omega
 .unfold Ey at q
  cases e1:s (ds.map Sl.sh++UK (N.length-ds.length) .no) with
  |stuck|exn x=>rw[e1] at q;exact q
  |ok r =>
   rw[e1] at q;cases r with
   |rt d =>
    cases d with|lst es=>exact λp us H' Ha' g hp h0 hv' rr=>q p us H' Ha' g hp h0 hv' rr| _=>exact q.elim
   |_=>exact q.elim
section
variable {X:Cx}{E:XK}{He η:Hp}{e:Vk}{es:List Vk}{f:Ev->aj D}{fa:Ev->aj (List D)}{pos:Pos}
def K4{k n:Nat}{ps:List US}(F:fZ X.prog X.w X.K X.mg X.base CX k fn fd ps (Pm X.K n m))(hr:cW k X.A)(hg:Gl X x)(hm:X.mg x=some (.ref fn))
  (hk:WV X.K (.ref fn)=true)(hb:iL X.K fd ps [])(hx:gM CX X E)(ha:DA X E (e::es) fa)(hn:(e::es).length=n:=by rfl)(hl:∀ρ ds,fa ρ=.ok ds->ds.length=(e::es).length)
  (hdb:(x==("__debug__" : US))=false:=by decide)(he:Uy (e::es) X.env=(false,eval e X.env)::Uy es X.env:=by exact aV rfl)(hpl:(VA pos (Uy es X.env)).any (·.1)=false:=by exact bL rfl) :
  DF X E (.Call (.Name x p) (e::es) [] pos) (ao fa m):=by
 refine⟨?_⟩;refine aZ (qR F hr hg hm hk hb .nil hx ha.o hdb he hpl) λσ H Q h=>?_;obtain⟨Ha,ρ,hs,hr,q⟩:=h;refine⟨Ha,ρ,hs,hr,?_⟩;unfold ao at q;cases e1:fa ρ with
 |stuck|exn x=>rw[e1] at q;exact q
 |ok ds =>
  rw[e1] at q;intro v H1 H01 g1 r1;refine⟨?_,H01,ds,g1.sub,by simpa using r1,?_⟩
  .have:=r1.length
   have:=hl ρ ds e1;simp only[Vo];omega
  .replace q:match m ds with
    |.ok (.lst ds)=>∀p vs H' Ha',bB H Ha H' Ha'->H p=none->Ha' p=none->H' p=some (.lst vs)->Reps X.K Ha' ds vs->Q (.ref p) H'
    |.ok _=>False
    |.exn x=>∀C ox H' Ha',bB H Ha H' Ha'->AJ X.K Ha' x C ox->E C ox H'
    |.stuck=>False:=q
   cases e2:m ds with
   |stuck=>rw[e2] at q;exact q|exn x=>rw[e2] at q;exact λC ox H' Ha' g ex=>q C ox H' Ha' (g1.trans g) ex
   |ok d =>
    rw[e2] at q;cases d with|lst es=>exact λp us H' Ha' g hp h0 hv rr=>q p us H' Ha' (g1.trans g) (g1.s.free hp) h0 hv rr| _=>exact q.elim
end
section
variable {X:Cx}{E:XK}{He η:Hp}{e a b:Vk}{es:List Vk}{f g:Ev->aj D}{fa:Ev->aj (List D)}{pos:Pos}
noncomputable def Lb(x y:D):aj D:=match x,y with
 |.int i,.int j=>.ok (.int (if j<i then j else i))
 |_,_=>.stuck
def NY:gF X E (λxs H Q=>∃i j,xs=[.int i,.int j]/\Q (.int (if j<i then j else i)) H) (m2 Lb):=Mi λx y v u H Ha Q hs r r' q=>by
 cases x with
 |int i =>
  cases y with|int j=>exact⟨i,j,by rw[aC.mp r,aC.mp r'],bg hs q (ri _)⟩| _=>exact q.elim
 |_=>exact q.elim
end
end DL
namespace Cod
open PySem L2 DL Com
def Od:Ff (.int c)=.ok (.int (c.natAbs:Int)):=by
 show aj.ok (D.int (if c<0 then -c else c))=_
 congr 2
 split<;>omega
noncomputable def vi:Ev->aj Fl :=
 (aA (bS 2 (ao (ae (af 0) az) (m1 Ff)))
 (aA (bS 3 (af 1))
 (aA (kG (lM 3) (ag (af 3) (dC (.int 0)) jc)
 (aA (vv 2 3 (ae (af 3) (ae (ag (af 2) (af 3) dZ) az)))
 av))
 (aA (b8 (ao (ae (ag (af 0) (af 2) qF) (ae (ag (af 1) (af 2) qF) az)) dO))
 av))))
def eg:List D->aj D:=cj 4 vi
theorem zH{A B:Sl}:∀(n:Nat) (a b:Int),0<=a->0<=b->b.natAbs<n->dk (ag (af 3) (dC (.int 0)) jc) (aA (vv 2 3 (ae (af 3) (ae (ag (af 2) (af 3) dZ) az))) av) n [A,B,.sh (.int a),.sh (.int b)]=.ok (.nx [A,B,.sh (.int (VB a b:Int)),.sh (.int 0)])
 |0,a,b,_,_,h=>absurd h (Yz _)
 |n+1,a,b,ha,hb,h=>by
  by_cases h0:b=0
  .subst h0
   have hc:(ag (af 3) (dC (.int 0)) jc) (fz [A,B,.sh (.int a),.sh (.int 0)])=.ok (.bl false):=by
    cases A<;>cases B<;>rfl
   rw[Ee hc];have:((VB a 0:Nat):Int)=a:=by rw[Int.gcd_zero_right];omega
   rw[this]
  .have hc:(ag (af 3) (dC (.int 0)) jc) (fz [A,B,.sh (.int a),.sh (.int b)])=.ok (.bl true):=by
    have:(b==0)=false:=beq_eq_false_iff_ne.mpr h0;cases A<;>cases B<;>open_line with[this]
   have f:=fQ (a:=a) (b:=b) (by omega);have hb0:(b==0)=false:=beq_eq_false_iff_ne.mpr h0;rw[FU (ρ2:=[A,B,.sh (.int b),.sh (.int (a.fmod b))]) hc ?_,zH n b (a.fmod b) (by omega) f.1 (by omega)]
   .rw[tI]
   .cases A<;>cases B<;>open_line with[hb0]
def low_ok(hb:0<b)(h1:a.natAbs<Ly)(h2:b.natAbs<Ly):eg [.int a,.int b]=.ok (fr (KC a b)):=by
 have hg:0<(VB a b:Int):=xE (by omega);have hgn:(VB (a.natAbs:Int) b:Int)=(VB a b:Int):=by
  congr 1
 have hl:=zH (A:=.sh (.int a)) (B:=.sh (.int b)) (b.natAbs+1) (a.natAbs:Int) b (by omega) (by omega) (Wi _);rw[hgn] at hl;have hwh:∀(c:Ev->aj D) (s:Ev->aj Fl),kG (lM 3) c s [.sh (.int a),.sh (.int b),.sh (.int (a.natAbs:Int)),.sh (.int b)]=dk c s (b.natAbs+1) [.sh (.int a),.sh (.int b),.sh (.int (a.natAbs:Int)),.sh (.int b)]:=λ_ _=>rfl;have d1:(VB a b:Int)∣a:=Int.gcd_dvd_left ..;have d2:(VB a b:Int)∣b:=Int.gcd_dvd_right ..;have q1:iX a (VB a b:Int)=true:=Im (by omega) h1;have q2:iX b (VB a b:Int)=true:=Im (by omega) h2;have e1:a.fdiv (VB a b:Int)=a / (VB a b:Int):=zU hg;have e2:b.fdiv (VB a b:Int)=b / (VB a b:Int):=zU hg;open_line with[eg,vi,Od,hwh,hl,xJ q1,xJ q2,e1,e2]
 rfl
def S(cs:List Nat):US:=⟨cs.toArray⟩
def S_inj(h:S a=S b):a=b:=by
 have:=congrArg (λs:US=>s.cps.toList) h;simpa [S] using this
def Rj(a:List Nat):(S a).length=a.length:=NU a
structure IsNm (cs:List Nat):Prop where
 l1:1<=cs.length
 l8:cs.length<=8
 ab:∀x∈cs,pZ x=true
def IsNm.nameB(h:IsNm cs):Com.nameB (S cs)=true:=by
 unfold Com.nameB;rw[Rj];simp only[U4,decide_eq_true_eq];exact⟨h.l1,h.l8,Vc.mpr λx hx=>h.ab x (by simpa [S] using hx)⟩
def nmsD(css:List (List Nat)):List D:=css.map λcs=>D.str (S cs)
theorem nodup_le{α:Type}[DecidableEq α]:∀{l m:List α},l.Nodup->(∀x∈l,x∈m)->l.length<=m.length
 |[],_,_,_=>V6 _
 |a::l,m,nd,h=>by
  rw[Wy] at nd;have ha:=h a U0;have:=nodup_le (l:=l) (m:=m.erase a) nd.2 λx hx=>by
   have hne:x≠a:=λz=>nd.1 (z▸hx);exact(List.mem_erase_of_ne hne).mpr (h x (UH _ hx))
  rw[List.length_erase_of_mem ha] at this;have:=List.length_pos_of_mem ha;simp only[U6];omega
noncomputable def oW(d:D):aj (List D):=match d with
 |.int j=>if -4611686018427387904<=j/\j<4611686018427387904 then .ok (intsFrom 0 j.toNat) else .stuck
 |_=>.stuck
def ev_srcR1:eS f ρ=(f ρ).bind oW:=aL rfl
def srcR1_nat{k:Nat}(h:k<=1000000):oW (.int (k:Int))=.ok (intsFrom 0 k):=by
 unfold oW;dsimp only;rw[if_pos ⟨by omega,by omega⟩,WE]
noncomputable def first(es:List Int) (m:Nat):List Nat:=(VG m).map λj=>97+((es[2+j]?).getD 0).toNat
def nodup_snoc{α:Type}{l:List α}{x:α}(h:l.Nodup)(hx:x∉l):(l++[x]).Nodup:=by
 rw[Yo];refine⟨h,by simp,λa ha b hb=>?_⟩;have:b=x:=by simpa using hb
 subst this;intro z;subst z;exact hx ha
end Cod
namespace DL
open PySem PySem.Spec PyProof.Rows L2
def PT.nox(h:PT X.nox e t):PT X e t:=λπ s σ H Q I hw =>
 Vs (h π s σ H Q (I.wish _) hw) (λ_ _ ⟨H',I',q⟩=>⟨H',I'.unwish,q⟩) λ_ _ z=>VI z
section
variable {prog:Vq}{w:VL}{A:Vw}{E:Us->UE->Prop}{h:UR}{g:Array GenState}{d:Drawn}{t:Nat}{os:OsState}
variable {nm q:US}{C N:Uw}{bs bm bmB:List Us}{hdct:Bool}{sn:List US}{sub:List Us}{ab:Bool}{col:Option Bool}{dd:Option Uw}{k0 k1 k2 k3 k5:Option Us}{B newId initId:String}{mN:US->Option Us}{rest:List Us}{fI:Uw}{oI:Obj}
def Jt(F:ExcBaseFacts B newId initId bmB)(T:OwnTail h bmB bm)(hC:h.get? C=some (excClassObj nm q C N bs bm hdct sn sub ab col dd k0 k1 k2 k3 k5 newId))(hn:h.Ns N mN)(hi:mN "__init__"=some (.ref fI))(hfI:h.get? fI=some oI)(hfc:oI.cls=.type "function")(hrest:rest.length<=sizeLine)
  (hq:∀h' e,X0 h h' e (.ref C) rest->UO (UM prog w) A (call (.ref fI) (.ref e::rest)) (λr s'=>r=.none/\Q (.done (.ret (.ref e))) s') E ⟨h',g,d,t,os⟩):UO (UM prog w) A (Builtin.«type.__call__» ⟨.ref C::rest,[]⟩) Q E ⟨h,g,d,t,os⟩:=by
 repeat (first|with_reducible refine V2 hC ?_|with_reducible refine wpAny_madeBy_exc hC ?_|wp_step)
 refine codeAny_call_builtin_code (Yg _ F.quiet) (wpAny_check_new_subT F T hC (codeAny_exc_new_subT F T hC ?_ hrest));generalize hT0:({ cls:=.type "tuple",data:=.seq rest.toArray }:Obj)=o0;generalize hX0:({ cls:=.ref C,data:=.fields #[.ref h.objs.size,.none,.none,.none,.bool false,.none] }:Obj)=o1;have kp:∀b o,h.get? b=some o->((h.push o0).push o1).get? b=some o:=λb o hb=>UC o1 (UC o0 hb);have hget:((h.push o0).push o1).get? (h.objs.size+1)=some o1:=by subst hX0 hT0;heap_get
 have hc1:o1.cls=.ref C:=by subst hX0;rfl
 have hcC:(U8 C::bm).contains (.ref C)=true:=by simp
 show UO _ _ _ _ _ _;unfold isInstance
 repeat (first|(with_reducible refine V2 hget ?_;try rw[hc1])|(with_reducible refine wpAny_isSubtype_exc (kp _ _ hC) ?_;rw[hcC])|wp_step)
 show UO _ _ (W2 (.ref C) _) _ _ _;refine wpAny_typeLookup_tail (kp _ _ hC) (hn.keeps kp) (T.keeps kp) F.mroIs F.init.lookup ?_;rw[hi];refine V1 (Uu (show UO _ _ (bindSpecial _ _) _ _ _ from ?_));unfold bindSpecial;refine Uu (wpAny_typeOf (T:="function") ⟨_,kp _ _ hfI,hfc⟩ ?_);rw[if_pos (by decide)];refine UU (Uu (Vs (hq _ (h.objs.size+1) ⟨kp,Xi (Nat.le_succ _),h.objs.size,by rw[hX0];exact hget,Xi (UJ _),?_⟩) (λr s' hr=>?_) λ_ _ x=>x))
 .subst hT0;exact UC _ (Heap.get?_push_at rfl rfl)
 .obtain⟨rfl,hQ⟩:=hr
  wp_walk
  exact hQ
def Jw(F:ExcBaseFacts B newId initId bmB)(T:OwnTail h bmB bm)(hC:h.get? C=some (excClassObj nm q C N bs bm hdct sn sub ab col dd k0 k1 k2 k3 k5 newId))(hn:h.Ns N mN)(hi:mN "__init__"=some (.ref fI))(hfI:h.get? fI=some oI)(hfc:oI.cls=.type "function")(hrest:rest.length<=sizeLine)
  (hq:∀h' e,X0 h h' e (.ref C) rest->UO (UM prog w) (A.under (.builtin "type.__call__" ⟨.ref C::rest,[]⟩)) (call (.ref fI) (.ref e::rest)) (λr s'=>r=.none/\Q (.ref e) s') E ⟨h',g,d,t,os⟩):UO (UM prog w) A (call (.ref C) rest) Q E ⟨h,g,d,t,os⟩:=by
 have f1:=tc_lookup;have f2:=tc_bind (.ref C);have hT:(⟨h,g,d,t,os⟩:UE).TypeIs (.ref C) "type":=⟨_,hC,rfl⟩
 refine wpAny_call (codeAny_of_tree (show UO _ _ (callAny (.ref C) _) _ _ _ from ?_))
 repeat (any_goals (first|assumption|with_reducible refine V2 hC ?_|wp_step))
 exact⟨rfl,codeAny_call_builtin_at (Yg _ (by decide +kernel)) entry_typeCall (wpAny_check_type_call_sub hC (Jt F T hC hn hi hfI hfc hrest λh' e hm=>hq h' e hm))⟩
end
section
variable {M:Model}{A:Vw}{E:Us->UE->Prop}{env:VP}
variable {nm q:US}{C N:Uw}{bs bm:List Us}{hdct:Bool}{sn:List US}{sub:List Us}{ab:Bool}{col:Option Bool}{dd:Option Uw}{k0 k1 k2 k3 k5:Option Us}{newId:String}
def FL(hbase:bm.contains (.type "BaseException")=true)(hh:A.handled=none)
  (h:UO M A x (λv sg=>∃e dc t,v=.ref e/\sg.heap.get? C=some (excClassObj nm q C N bs bm hdct sn sub ab col dd k0 k1 k2 k3 k5 newId)/\sg.heap.get? e=some ⟨.ref C,dc,.fields #[.ref t,.none,.none,.none,.bool false,.none],#[]⟩/\E (.ref e) sg) E s):UO M A (raiseStmt env (some x) none) Q E s:=by
 have hcB:(U8 C::bm).contains (.type "BaseException")=true:=by rw[List.contains_cons,hbase,Bool.or_true]
 unfold raiseStmt;refine Uu (Vs h (λv sg ⟨e,dc,t,hv,hC,he,hE⟩=>?_) λ_ _ x=>x);subst hv;obtain⟨hp,g,d,tk,os⟩:=sg
 repeat (first|with_reducible refine V2 he ?_|with_reducible refine V2 hC ?_|(with_reducible refine wpAny_isSubtype_exc hC ?_;rw[hcB])|wp_step)
 exact wpAny_raiseNew_none hh hE
end
noncomputable def kz:List Us->Bool
 |.ref _::r=>kz r
 |l=>l==[.type "ValueError",.type "Exception",.type "BaseException",.type "object"]
theorem vQ(self:Us):∀{l:List Us},kz l=true->refuseLoop self "__setattr__" l=pure ()
 |[],e=>by cases e
 |x::r,e=>by
  cases x with|ref c=>rw[refuseLoop_ref];exact vQ self (l:=r) (by unfold kz at e;exact e)| _=>unfold kz at e;rw[beq_iff_eq.mp e];exact PySem.F.store_ValueError.passes self
theorem FX:∀{l:List Us},kz l=true->l.contains (.type "object")=true
 |[],e=>by cases e
 |x::r,e=>by
  cases x with|ref c=>rw[List.contains_cons,FX (l:=r) (by unfold kz at e;exact e),Bool.or_true]| _=>unfold kz at e;rw[beq_iff_eq.mp e];decide
structure FD (K:Ut) (C:Uw) (ks:List US):Prop where
 sa:Wq K (.ref C) "__setattr__"=some (some (.builtin "object.__setattr__"))
 hd:WG K C=true
 mr:(W.clsIn K C).any (λcd=>kz cd.mro)=true
 no:∀f∈ks,jl K C f
section
variable {prog:Vq}{w:VL}{A:Vw}{K:Ut}{C x:Uw}{s:UE}{R:Result->UE->Prop}
def Cg(X:K.In s.heap)(I:YD s.heap x ox C od)(c:FD K C ks)(hf:name∈ks)
  (h:∀b,UO (UM prog w) A.in1 (Builtin.ObjectAttr.storeInOwnDict (.ref x) (.ref C) (.str name tk) name v b) (λfin s'=>match fin with|.done f=>R (.ok f) s'|.again c'=>c'.quiet=true/\WC (UM prog w) A c' R s') (λe s'=>R (.error e) s') s) :
  WC (UM prog w) A (.call (.builtin "object.__setattr__") ⟨[.ref x,.str name tk,v],[]⟩) R s:=by
 have SF:=PySem.F.store_object;obtain⟨cd,hc,ho⟩:=W.any_some c.mr;have ne:cd.mro.isEmpty=false:=by cases q:cd.mro with|nil=>rw[q] at ho;cases ho|cons _ _=>rfl
 have sub:X4 (UM prog w) s.heap (isInstance (.ref x) (.type "object")) true:=I.type.andThen (W.looks_mroIn X (by unfold W.mroIn;rw[hc,Option.bind_some,if_neg (by rw[ne];decide),FX ho]));refine codeAny_call_builtin SF.slot.plain SF.entry (@W.check_slot (UM prog w) _ _ s "object.__setattr__" "object" "__setattr__" (.ref x) [.str name tk,v] [] _ SF.kind SF.split sub (SF.args (.ref x) (.str name tk) v) ?_);have hm:X4 (UM prog w) s.heap (mroOf (.ref C)) cd.mro:=(YK X hc).andThen .now;rw[W.osa_eq,refuse_eq];refine Uu (Uu (I.type.here (Uu (hm.here ?_))));rw[vQ _ ho];refine UU ?_;have L3:X4 (UM prog w) s.heap (Builtin.ObjectAttr.storeTaker? none) none:=.now;have L2:X4 (UM prog w) s.heap (W2 (.ref C) name) none:=W.looks_findIn X (c.no name hf);refine Uu (I.type.here (Uu (L2.here (Uu (L3.here ?_)))));exact h _
def Jv{fs:Array Us}(X:K.In s.heap)(hx:s.heap.get? x=some ⟨.ref C,none,.fields fs,#[]⟩)(c:FD K C ks)(hf:name∈ks)
  (h:∀h',h'.get? x=some ⟨.ref C,some s.heap.objs.size,.fields fs,#[]⟩->h'.Ns1 s.heap.objs.size (λy=>if y=name then some v else none)->(∀b o,b≠x->s.heap.get? b=some o->h'.get? b=some o)->Q () { s with heap:=h',toks:=s.toks+2 }) :
  UO (UM prog w) A (setAttr (.ref x) name v) Q E s:=by
 have J:YD s.heap x ⟨.ref C,none,.fields fs,#[]⟩ C none:=⟨hx,rfl,rfl,trivial⟩
 refine W.set_plain X J c.sa (Cg (s:={ s with toks:=s.toks+1 }) X J c hf λb=>?_);obtain⟨cd,hc,hd'⟩:=W.any_some c.hd;refine Uu (UU (Uu (Uu (wpAny_loadPart hx (Uu (X4.here (s:={ s with toks:=s.toks+1 }) (YK X hc) ?_))))));rw[hd'];have hx₁:(s.heap.push XW).get? x=some ⟨.ref C,none,.fields fs,#[]⟩:=UC _ hx;have hxs:x≠s.heap.objs.size:=Vf (UT hx);have hgd:((s.heap.push XW).update x λo=>{ o with dict:=some s.heap.objs.size }).get? s.heap.objs.size=some XW:=(Zp _ _ _ _ hxs.symm).trans (Heap.get?_push_at rfl rfl);have hnd:((s.heap.push XW).update x λo=>{ o with dict:=some s.heap.objs.size }).Ns s.heap.objs.size (λ_=>none):=⟨_,#[],_,hgd,rfl,λe he=>absurd he (by simp),λ_=>rfl⟩
 have hx2:((s.heap.push XW).update x λo=>{ o with dict:=some s.heap.objs.size }).get? x=some ⟨.ref C,some s.heap.objs.size,.fields fs,#[]⟩:=V8 _ hx₁ rfl;refine Uu (wpAny_alloc' (Uu (wpAny_update' hx₁ (UU ?_))));refine Uu (UU (Uu (wpAny_nsSet1 (Heap.Ns1.of_empty hnd) λh' hn' hs=>?_)));obtain⟨oD,esD,epD,hoD,hdD,hcD⟩:=hn'.count (WM.cons name v WM.nil);refine Uu (wpAny_lookBehind hoD (by rw[hdD];exact pastItsLine_dict (Va hcD (by rw[U6,Wf,sizeLine_eq];omega))) (UU (h h' ?_ hn' λb o hb e=>?_)))
 .exact(hs.2 x hxs).trans hx2
 .exact(hs.2 b (Vf (UT e))).trans ((Zp _ _ _ _ hb).trans (UC _ e))
def Ju{fs:Array Us}{mA:US->Option Us}(X:K.In s.heap)(hx:s.heap.get? x=some ⟨.ref C,some dx,.fields fs,#[]⟩)(hn:s.heap.Ns1 dx mA)(hne:dx≠x)(hw:WM mA ns)(hsz:ns.length<=sizeLine)(c:FD K C ks)(hf:name∈ks)
  (h:∀h',h'.Ns1 dx (λy=>if y=name then some v else mA y)->Xd dx s.heap h'->Q () { s with heap:=h',toks:=s.toks+2 }):UO (UM prog w) A (setAttr (.ref x) name v) Q E s:=by
 obtain⟨od,hod,hl⟩:=o9 hn;have J:YD s.heap x ⟨.ref C,some dx,.fields fs,#[]⟩ C (some od):=⟨hx,rfl,rfl,hod⟩
 refine W.set_plain X J c.sa (Cg (s:={ s with toks:=s.toks+1 }) X J c hf λb=>?_);obtain⟨cd,hc,hd'⟩:=W.any_some c.hd;refine Uu (UU (Uu (Uu (wpAny_loadPart hx (Uu (X4.here (s:={ s with toks:=s.toks+1 }) (YK X hc) ?_))))));rw[hd'];refine UU (a:=some dx) (Uu (UU (Uu (wpAny_nsSet1 (s:={ s with toks:=s.toks+1 }) hn λh' hn2 hs2=>?_))));obtain⟨oD,esD,epD,hoD,hdD,hcD⟩:=hn2.count (WM.cons name v hw);exact Uu (wpAny_lookBehind hoD (by rw[hdD];exact pastItsLine_dict (Va hcD (by rw[U6];omega))) (UU (h _ hn2 hs2)))
end
noncomputable def vo(a C:Uw) (dc:Option Uw) (h:UR):Prop:=∃t,h.get? a=some ⟨.ref C,dc,.fields #[.ref t,.none,.none,.none,.bool false,.none],#[]⟩
noncomputable def AN(a:Uw) (fs:List (US×V)) (h:UR):Prop:=∃mA,h.Ns1 a mA/\(∀f,vE (fs.lookup f) (mA f))/\WM mA (fs.map (·.1))
def tN{a C:Uw}{dc:Option Uw}:∀h1 h2:UR,vo a C dc h1->(∀o,h1.get? a=some o->h2.get? a=some o)->vo a C dc h2:=λ_ _ ⟨t,e⟩ k=>⟨t,k _ e⟩
def yy{a:Uw}{fs:List (US×V)}:∀h1 h2:UR,AN a fs h1->(∀o,h1.get? a=some o->h2.get? a=some o)->AN a fs h2:=λ_ _ ⟨m,n,r⟩ k=>⟨m,n.at k,r⟩
def oK{fs:List (US×V)}{h:UR}(x:AN a fs h):∃o,h.get? a=some o:=let ⟨_,⟨o,_,_,e,_⟩,_⟩:=x;⟨o,e⟩
def qK{fs:List (US×V)}{h:UR}{mA:US->Option Us}(ry:bF y u)(r:∀f,vE (fs.lookup f) (mA f))(wi:WM mA (fs.map (·.1)))(n:h.Ns1 a (λz=>if z=f then some u else mA z)):AN a (ko f y fs) h:=by
 refine⟨_,n,λg=>?_,λg hg=>?_⟩
 .rw[pR]
  by_cases q:g=f
  .rw[if_pos q];simp only[if_pos q];exact ry
  .rw[if_neg q];simp only[if_neg q];exact r g
 .by_cases q:g=f
  .rw[q];exact(pd f y fs).1
  .exact(pd f y fs).2 g (wi g λz=>hg (by simp only[if_neg q];exact z))
section
variable {X:Cx}{o value:Vk}{f:US}{pos pos':Pos}{ta tv:TE}
noncomputable def Ua(K:Ut) (ta tv:TE) (f:US):TS:=λD σ H=>tv σ H λy H1=>ta σ H1 λx H2=>∃a C dx l ks,x=.ref a/\H2 a=some (.ext (vo a C (some dx)))/\H2 dx=some (.ext (AN dx l))/\dx≠a/\FD K C ks/\f∈ks/\l.length<1000/\D.nx σ (upd H2 dx (.ext (AN dx (ko f y l))))
noncomputable def Ub(K:Ut) (ta tv:TE) (f:US):TS:=λD σ H=>tv σ H λy H1=>ta σ H1 λx H2=>∃a C ks,x=.ref a/\H2 a=some (.ext (vo a C none))/\FD K C ks/\f∈ks/\∀dx,H2 dx=none->D.nx σ (upd (upd H2 a (.ext (vo a C (some dx)))) dx (.ext (AN dx [(f,y)])))
def PN(ha:PE X o ta)(hv:PE X value tv)(hs:Vz value (some (.Attribute o f pos')) pos.line X.env=pure false):PS X (.Assign [.Attribute o f pos'] value pos) (Ua X.K ta tv f):=by
 intro π s σ H D I h;refine plainObj_wpAny_Assign_Attribute (cH (hv π s σ H _ I h) λu s1 ⟨y,H1,I1,ry,q⟩=>cH (ha π s1 σ H1 _ I1 q) λov s2 z9=>?_) hs;obtain⟨x,H2,I2,rx,a,C,dx,l,ks,ex,ea,ed,hne,c,hf,hl,q2⟩:=z9;subst ex;obtain rfl:ov=U8 a:=rx;obtain⟨⟨t,hx⟩,_,_⟩:=(show bT X.prog X.w H2 s2.heap a (.ext _) from I2.hok a _ ea)
 obtain⟨⟨mA,n,r,wi⟩,_,_⟩:=(show bT X.prog X.w H2 s2.heap dx (.ext _) from I2.hok dx _ ed)
 refine Ju I2.kIn hx n hne wi (by rw[Uv,sizeLine_eq];omega) c hf λh' n' sb=>⟨σ,_,I2.write (o:=.ext (AN dx (ko f y l))) (x:=dx) (e:=dx) (by rw[ed];exact Wb) (.inl rfl) (λb q hb z=>(sb.2 b hb).trans z) (oK (qK ry r wi n')) ⟨qK ry r wi n',oK (qK ry r wi n'),yy⟩,q2⟩
def PQ(ha:PE X o ta)(hv:PE X value tv)(hs:Vz value (some (.Attribute o f pos')) pos.line X.env=pure false):PS X (.Assign [.Attribute o f pos'] value pos) (Ub X.K ta tv f):=by
 intro π s σ H D I h;refine plainObj_wpAny_Assign_Attribute (cH (hv π s σ H _ I h) λu s1 ⟨y,H1,I1,ry,q⟩=>cH (ha π s1 σ H1 _ I1 q) λov s2 z9=>?_) hs;obtain⟨x,H2,I2,rx,a,C,ks,ex,ea,c,hf,q2⟩:=z9;subst ex;obtain rfl:ov=U8 a:=rx;obtain⟨⟨t,hx⟩,_,_⟩:=(show bT X.prog X.w H2 s2.heap a (.ext _) from I2.hok a _ ea)
 have fr:H2 s2.heap.objs.size=none:=I2.hok.fresh (UJ _);have hne:s2.heap.objs.size≠a:=λz=>WW _ (z▸UT hx);refine Jv I2.kIn hx c hf λh' e' n' k'=>⟨σ,_,?_,q2 s2.heap.objs.size fr⟩
 have p:AN s2.heap.objs.size [(f,y)] h':=qK (fs:=[]) (mA:=λ_=>none) ry (λ_=>Wb) (λ_ z=>absurd rfl z) n';have mu:Oo (H2 a):=by rw[ea];exact Wb
 have fr':(upd H2 a (.ext (vo a C (some s2.heap.objs.size)))) s2.heap.objs.size=none:=by rw[aw hne];exact fr
 exact I2.un (Un.ext (Un.write mu (.inl rfl) (λb q hb z=>k' b q hb z) ⟨_,e'⟩) fr' (Xi (UJ _))) (gG.ext (I2.hok.write (o':=.ext (vo a C (some s2.heap.objs.size))) mu (.inl rfl) (λb q hb z=>k' b q hb z) ⟨_,e'⟩ ⟨⟨t,e'⟩,⟨_,e'⟩,tN⟩) fr' p (oK p) yy)
end
noncomputable def O6(is:List Nat):TA:=λσ H Q=>∃vs,is.map (λi=>σ[i]?)=vs.map (λv=>some (some v))/\Q vs H
structure PV (X:Cx) (es:List Vk) (is:List Nat):Prop where
 o:PA X es (O6 is)
section
variable {X:Cx}
def GH:PV X [] []:=⟨λpos π s σ H Q I ⟨vs,e,h⟩=>by
 cases vs with
 |nil=>exact fV pos π s σ H Q I h
 |cons v vs=>simp at e⟩
def qO(hN:X.N[i]?=some y)(hv:AH X.env.scope y)(h:PV X es is)(hd:(y==("__debug__" : US))=false:=by decide)(hcd:(y==("__classdict__" : US))=false:=by decide):PV X (.Name y p::es) (i::is) :=
 ⟨λpos π s σ H Q I ⟨vs,e,q⟩=>by
  cases vs with
  |nil=>simp at e
  |cons v vs =>
   simp only[UW,Xk] at e;exact c9 (gH hN hv hd hcd) h.o (aV rfl) pos π s σ H Q I ⟨v,e.1,vs,e.2,q⟩⟩
structure IT (K:Ut) (CE:Uw):Prop where
 rd:W.readsIn K CE (.type "type")=true
 fc:W.findCls K (.ref CE) (.type "type") "__init__"=some (.val (.builtin "ValueError.__init__"))
 sp:Yu K (.ref CE) "__getattribute__"=some (some (.builtin "type.__getattribute__"))
structure Lr (K:Ut) (C fn:Uw):Prop where
 ex:∃CE nm q N bs hdct sn sub ab col dd k0 k1 k2 k3 k5,K.lookup C=some (excClassObj nm q C N bs [.ref CE,.type "ValueError",.type "Exception",.type "BaseException",.type "object"] hdct sn sub ab col dd k0 k1 k2 k3 k5 "ValueError.__new__")/\W.nsOkIn K N=true/\VH K N "__init__"=some (some (.ref fn)) /\
  Yk K CE [.type "ValueError",.type "Exception",.type "BaseException",.type "object"] "ValueError.__new__"=true
def Ks{K:Ut}{h:UR}(X:K.In h)(G:h.Ns N mg)(e:VH K N n=some (some v)):mg n=some v:=by
 obtain⟨o,es,ep,ho,hd,_,hf⟩:=G;unfold VH at e;split at e
 .rename_i c d es' n' sl q
  have:=X _ _ q;rw[ho] at this;cases this;cases hd;split at e
  .rename_i en he
   rw[←hf];unfold nsFind findBy;rw[←Array.find?_toList,he];simpa using e
  .split at e<;>cases e
 .cases e
structure SU (h:UR) (C fn:Uw):Prop where
 ex:∃bm N nm q bs hdct sn sub ab col dd k0 k1 k2 k3 k5 mN,h.get? C=some (excClassObj nm q C N bs bm hdct sn sub ab col dd k0 k1 k2 k3 k5 "ValueError.__new__")/\h.Ns N mN/\mN "__init__"=some (.ref fn)/\OwnTail h [.type "ValueError",.type "Exception",.type "BaseException",.type "object"] bm
def F3{K:Ut}{CE:Uw}{h:UR}(X:K.In h)(q:Yk K CE [.type "ValueError",.type "Exception",.type "BaseException",.type "object"] "ValueError.__new__"=true):OwnTail h [.type "ValueError",.type "Exception",.type "BaseException",.type "object"] [.ref CE,.type "ValueError",.type "Exception",.type "BaseException",.type "object"]:=by
 unfold Yk at q;split at q
 .rename_i dd cd sl ho
  split at q
  .simp only[U4,beq_iff_eq,Bool.not_eq_true'] at q
   obtain⟨⟨⟨⟨_,_⟩,_⟩,hok⟩,hni⟩:=q;exact .own (X _ _ ho) (.of_isNs (Yj X hok)) (W.nsMap_none_of_in X hok hni) .base
  .cases q
 .cases q
def Cf{K:Ut}{h:UR}(X:K.In h)(q:Lr K C fn):SU h C fn:=by
 obtain⟨CE,nm,qn,N,bs,hdct,sn,sub,ab,col,dd,k0,k1,k2,k3,k5,ho,hok,hi,he⟩:=q.ex;exact⟨_,N,nm,qn,bs,hdct,sn,sub,ab,col,dd,k0,k1,k2,k3,k5,_,X _ _ ho,.of_isNs (Yj X hok),Ks X (.of_isNs (Yj X hok)) hi,F3 X he⟩
noncomputable def T9(K:Ut) (t:TA):TE:=λσ H Q=>t σ H λvs H1=>∃a C rest fn,vs=.ref a::rest/\rest.length<=line/\H1 a=some (.ext (vo a C none))/\Lr K C fn/\Q .non (upd H1 a (.ext (vo a C none)))
def PZ{CE:Uw}(b:IT X.K CE)(hg:Gl X ce)(hm:X.mg ce=some (.ref CE))(ha:PA X (e::es) t)(hdb:(ce==("__debug__" : US))=false:=by decide)
  (he:Uy (e::es) X.env=(false,eval e X.env)::Uy es X.env:=by exact aV rfl)(hpl:(VA cpos (Uy es X.env)).any (·.1)=false:=by exact bL rfl)
  (ht:eval (.Call (.Attribute (.Name ce np) "__init__" apos) (e::es) [] cpos) X.env=(do
   let ov ←eval (.Name ce np) X.env
   standAt apos.atName
   let (f,first) ←WY [ov] (getMethod ov "__init__" pl)
   callWith cpos f first (VA cpos (Uy (e::es) X.env)) (XU cpos (W5 [] X.env))):=by rfl) :
  PE X (.Call (.Attribute (.Name ce np) "__init__" apos) (e::es) [] cpos) (T9 X.K t):=by
 intro π s σ H Q I h;refine W.methodCall_KW (pl:=pl) (jU I hg hm (W.method_cls I.kIn b.sp (W.cls_value I.kIn b.rd b.fc rfl ?_)) hdb) ht;have I0:=I.tok (s.toks+1);have hA:=ha cpos π _ σ H _ I0 h;rw[he] at hA ⊢;refine Y6 (by show(false||(VA cpos (Uy es X.env)).any (·.1))=false;rw[hpl];rfl) (Xj (cH hA λus s1 ⟨vs,H1,I1,r,a,C,rest,fn,ev,hl,ea,hx,q⟩=>?_));subst ev;obtain⟨_,us',rfl,ra,r'⟩:∃u us',us=u::us'/\bF (.ref a) u/\bE rest us':=by cases r with|cons r1 r2=>exact⟨_,_,rfl,r1,r2⟩
 obtain rfl:_=U8 a:=ra;obtain⟨bm,N,nm,qn,bs,hdct,sn,sub,ab,col,dd,k0,k1,k2,k3,k5,mN,hC,hn,hi,T⟩:=(Cf I1.kIn hx).ex;obtain⟨⟨t0,hae⟩,_,_⟩:=(show bT X.prog X.w H1 s1.heap a (.ext _) from I1.hok a _ ea)
 have F:=Wj;have hz:us'.length<=sizeLine:=by rw[←r'.length];exact cG hl
 obtain⟨hp,g,d,tk,os⟩:=s1;refine wpAny_call (codeAny_call_builtin F.init.plain F.initEntry (wpAny_check_init_subT F T hC hae rfl ?_))
 wp_walk
 have mu:Oo (H1 a):=by rw[ea];exact Wb
 have hne:a≠hp.objs.size:=Vf (UT hae);refine⟨.non,upd H1 a (.ext (vo a C none)),I1.write (o:=.ext (vo a C none)) (x:=a) (e:=a) mu (.inl rfl) (λb u hb e=>(V4 _ _ (Vh hb)).trans (UC _ e)) ⟨_,V8 _ (UC _ hae) rfl⟩ ⟨⟨hp.objs.size,?_⟩,⟨_,V8 _ (UC _ hae) rfl⟩,tN⟩,rfl,q⟩;rw[V8 _ (UC _ hae) rfl];rfl
end
section
variable {X:Cx}
noncomputable def TQ(K:Ut) (fs:List US) (is:List Nat):TS:=λD σ H=>∃a C dx l ks vs,σ[0]?=some (some (V.ref a))/\H a=some (.ext (vo a C (some dx)))/\H dx=some (.ext (AN dx l))/\dx≠a/\FD K C ks/\(∀f∈fs,f∈ks)/\l.length+fs.length<1000/\fs.length=vs.length /\
 is.map (λi=>σ[i]?)=vs.map (λv=>some (some v))/\D.nx σ (upd H dx (.ext (AN dx (putAll fs vs l))))
structure XR (X:Cx) (sts:List V0) (fs:List US) (is:List Nat):Prop where
 o:wK X sts (TQ X.K fs is)
def FK:XR X [] [] []:=⟨eT qP λD σ H ⟨a,C,dx,l,ks,vs,h1,h2,h3,h4,h5,h6,h7,h8,h9,q⟩=>by
 cases vs with
 |nil=>unfold putAll at q;rw[yF h3] at q;exact q
 |cons v vs=>simp at h8⟩
def Js{fs:List US}(hN:X.N[i]?=some y)(hN0:X.N[0]?=some x)(hv:AH X.env.scope y)(hv0:AH X.env.scope x)(h:XR X sts fs is)
  (hd:(y==("__debug__" : US))=false:=by decide)(hcd:(y==("__classdict__" : US))=false:=by decide)(hd0:(x==("__debug__" : US))=false:=by decide)(hcd0:(x==("__classdict__" : US))=false:=by decide)
  (hs:Vz (.Name y p3) (some (.Attribute (.Name x p1) f p2)) pos.line X.env=pure false:=by rfl):XR X (.Assign [.Attribute (.Name x p1) f p2] (.Name y p3) pos::sts) (f::fs) (i::is):=by
 refine⟨eT (gA (PN (gH hN0 hv0 hd0 hcd0) (gH hN hv hd hcd) hs) h.o) λD σ H z9=>?_⟩;obtain⟨a,C,dx,l,ks,vs,h1,h2,h3,h4,h5,h6,h7,h8,h9,q⟩:=z9;cases vs with
 |nil=>simp at h8
 |cons v vs =>
  simp only[UW,Xk] at h9;simp only[U6] at h7 h8;refine⟨v,h9.1,.ref a,h1,a,C,dx,l,ks,rfl,h2,h3,h4,h5,h6 f U0,by omega,a,C,dx,_,ks,vs,h1,?_,aB,h4,h5,λg hg=>h6 g (UH _ hg),?_,by omega,h9.2,?_⟩
  .rw[aw h4.symm];exact h2
  .have:=zd (f:=f) (v:=v) (l:=l);omega
  .rw[oN];exact q
noncomputable def TR(K:Ut) (ks:List US) (is:List Nat):TS:=λD σ H=>∃a C fn vs,σ[0]?=some (some (V.ref a))/\H a=some (.ext (vo a C none))/\FD K C ks/\Lr K C fn/\ks.length=vs.length/\ks.length<=60 /\
 is.map (λi=>σ[i]?)=vs.map (λv=>some (some v))/\∀dx,H dx=none->D.nx σ (upd (upd H a (.ext (vo a C (some dx)))) dx (.ext (AN dx (putAll ks vs []))))
structure XB (X:Cx) (sts:List V0) (ks:List US) (is:List Nat):Prop where
 o:wK X sts (TR X.K ks is)
def Lz{fs:List US}{CE:Uw}(b:IT X.K CE)(hg:Gl X ce)(hm:X.mg ce=some (.ref CE))(hpv:PV X es (i::is))(hN:X.N[i]?=some y)(hN0:X.N[0]?=some x)(hv:AH X.env.scope y)(hv0:AH X.env.scope x)(h:XR X sts fs is)
  (hd:(y==("__debug__" : US))=false:=by decide)(hcd:(y==("__classdict__" : US))=false:=by decide)(hd0:(x==("__debug__" : US))=false:=by decide)(hcd0:(x==("__classdict__" : US))=false:=by decide)(hdb:(ce==("__debug__" : US))=false:=by decide)
  (hs:Vz (.Name y p3) (some (.Attribute (.Name x p1) f p2)) pos.line X.env=pure false:=by rfl)(hs0:Vz (.Call (.Attribute (.Name ce np) "__init__" apos) (.Name x sp0::es) [] cpos) none spos.line X.env=pure false:=by rfl)(hpl:(VA cpos (Uy es X.env)).any (·.1)=false:=by exact bL rfl)
  (ht:eval (.Call (.Attribute (.Name ce np) "__init__" apos) (.Name x sp0::es) [] cpos) X.env=(do
   let ov ←eval (.Name ce np) X.env
   standAt apos.atName
   let (f,first) ←WY [ov] (getMethod ov "__init__" pl)
   callWith cpos f first (VA cpos (Uy (.Name x sp0::es) X.env)) (XU cpos (W5 [] X.env))):=by rfl) :
  XB X (.Expr (.Call (.Attribute (.Name ce np) "__init__" apos) (.Name x sp0::es) [] cpos) spos::.Assign [.Attribute (.Name x p1) f p2] (.Name y p3) pos::sts) (f::fs) (i::is):=by
 refine⟨eT (gA (qQ (PZ b hg hm (qO (p:=sp0) hN0 hv0 hpv hd0 hcd0).o hdb (aV rfl) hpl ht) hs0) (gA (PQ (gH hN0 hv0 hd0 hcd0) (gH hN hv hd hcd) hs) h.o)) λD σ H ⟨a,C,fn,vs,h1,h2,h3,h4,h5,h6,h7,q⟩=>?_⟩;refine⟨.ref a::vs,(show σ[0]?::(i::is).map (λi=>σ[i]?)=some (some (V.ref a))::vs.map (λv=>some (some v)) by rw[h1,h7]),a,C,vs,fn,rfl,?_,h2,h4,?_⟩
 .have:vs.length<=60:=by omega
  exact Va this (by decide)
 .cases vs with
  |nil=>simp at h5
  |cons v vs =>
   simp only[UW,Xk] at h7;simp only[U6] at h5 h6;rw[yF h2];refine⟨v,h7.1,.ref a,h1,a,C,f::fs,rfl,h2,h3,U0,λdx hdx=>?_⟩;have hne:dx≠a:=λz=>by subst z;rw[h2] at hdx;cases hdx
   refine⟨a,C,dx,[(f,v)],f::fs,vs,h1,?_,aB,hne,h3,λg hg=>UH _ hg,?_,by omega,h7.2,?_⟩
   .rw[aw hne.symm,aB]
   .simp only[U6,Wf];omega
   .rw[oN]
    have:=q dx hdx;unfold putAll at this;exact this
end
noncomputable def Gd(K:Ut) (ks:List US):Sp:=λvs H Q _=>∃a C fn args,vs=.ref a::args/\args.length=ks.length/\H a=some (.ext (vo a C none))/\FD K C ks/\Lr K C fn/\∀dx,H dx=none->Q .non (upd (upd H a (.ext (vo a C (some dx)))) dx (.ext (AN dx (putAll ks args []))))
def LW{K:Ut}{st:V0}{ps:List US}(F:Fy K x qual st f fd)(S:eY ps ps (defScope st))(hps:ps.length=ks.length+1)(hf:ks.length<=60)
  (hbody:∀(cdv:Us) (A:Vw) (outer:List VP) (s0:UE) (H:Hp) (E:XK),XB (dW CX0 P w K mg base ps qual (defScope st) f cdv A outer s0 H E).nox (defBody st) ks ((VG ks.length).map (· + 1))):fZ P w K mg base CX0 1 f fd ps (Gd K ks):=by
 refine F.ok S (λvs H Q E h=>?_) λcdv A outer s0 H vs Q E hr h=>?_
 .obtain⟨a,C,fn,args,rfl,hl,_⟩:=h
  simp [hl,hps]
 .obtain⟨a,C,fn,args,rfl,hl,hH,hC,hn,q⟩:=h
  refine⟨_,(hbody cdv A outer s0 H E).o,a,C,fn,args,?_,hH,hC,hn,hl.symm,hf,?_,q⟩
  .unfold L2.start;simp
  .unfold L2.start
   apply List.ext_getElem?;intro i;simp only[UL,Xb]
   by_cases hi:i<ks.length
   .have hia:i<args.length:=by omega
    simp [hi,hia,UQ,Vv]
   .have hia:¬i<args.length:=by omega
    simp [hi,hia]
section
variable {prog:Vq}{w:VL}{A:Vw}{E:Us->UE->Prop}{s:UE}{env:VP}
variable {nm q:US}{C N:Uw}{bs bm bmB:List Us}{hdct:Bool}{sn:List US}{sub:List Us}{ab:Bool}{col:Option Bool}{dd:Option Uw}{k0 k1 k2 k3 k5:Option Us}{B newId initId:String}{mN:US->Option Us}{fI:Uw}{oI:Obj}
def FN(F:ExcBaseFacts B newId initId bmB)(hbase:bm.contains (.type "BaseException")=true)(hh:A.handled=none)(hplain:(VA cpos (Uy args env)).any (·.1)=false)(hi:mN "__init__"=some (.ref fI))
  (h:UO (UM prog w) A (eval (.Name x np) env) (λf sg=>f=.ref C/\UO (UM prog w) A (evalArgs (.ref C) true (VA cpos (Uy args env)) []) (λa si=>a.kw=[]/\a.pos.length<=sizeLine/\si.heap.get? C=some (excClassObj nm q C N bs bm hdct sn sub ab col dd k0 k1 k2 k3 k5 newId)/\si.heap.Ns N mN/\OwnTail si.heap bmB bm/\si.heap.get? fI=some oI/\oI.cls=.type "function" /\
    ∀h' e,X0 si.heap h' e (.ref C) a.pos->UO (UM prog w) (A.under (.builtin "type.__call__" ⟨.ref C::a.pos,[]⟩)) (call (.ref fI) (.ref e::a.pos)) (λr s'=>r=.none/\s'.heap.get? C=some (excClassObj nm q C N bs bm hdct sn sub ab col dd k0 k1 k2 k3 k5 newId)/\(∃dc t,s'.heap.get? e=some ⟨.ref C,dc,.fields #[.ref t,.none,.none,.none,.bool false,.none],#[]⟩)/\E (.ref e) s') E { si with heap:=h' }) E sg) E s) :
  UO (UM prog w) A (exec (.Raise (some (.Call (.Name x np) args [] cpos)) none pos) env) Q E s:=by
 rw[arm_exec_Raise];refine Uu (wpAny_standAt (FL (C:=C) (nm:=nm) (q:=q) (N:=N) (bs:=bs) (bm:=bm) (hdct:=hdct) (sn:=sn) (sub:=sub) (ab:=ab) (col:=col) (dd:=dd) (k0:=k0) (k1:=k1) (k2:=k2) (k3:=k3) (k5:=k5) (newId:=newId) hbase hh (Uu (Vs (wpAny_Call_ofName (Vs h (λf sg hV=>?_) λ_ _ x=>x)) (λv sj h₃=>Uu (wpAny_standAt (UU h₃))) λ_ _ x=>x))));obtain⟨rfl,hV⟩:=hV;unfold callWith;refine Uu (V1 (Vs hV (λ⟨apos,akw⟩ si ⟨hkw,hlen,hC,hn,T,hf,hfc,hZ⟩=>Uu (wpAny_standAt ?_)) λ_ _ x=>x));obtain rfl:akw=[]:=hkw;obtain⟨hp,g,d,tk,os⟩:=si;simp only[hplain];refine Uu (wpAny_keeperOf_exc hC (Uu (Jw F T hC hn hi hf hfc hlen λh' e hm=>Vs (hZ h' e hm) (λr s' hr=>?_) λ_ _ z=>z)));obtain⟨rfl,hC',⟨dc,t,he⟩,hE⟩:=hr;exact⟨rfl,Uu (V1 (wpAny_point (UU ⟨e,dc,t,rfl,hC',he,hE⟩)))⟩
end
structure wH (K:Ut) (x:US) (C:Uw):Prop where
 i:f9 K x C
 cls:Wq K (.ref C) "__class__"=some (some (.builtin "object.__class__"))
 ga:Wq K (.ref C) "__getattribute__"=some (some (.builtin "BaseException.__getattribute__"))
 gt:Wq K (.ref C) "__getattr__"=some none
 t1:Xf K (.ref C) (.type "NoneType")=some false
 t2:Xf K (.ref C) (.type "bool")=some false
 t3:Xf K (.ref C) (.type "int")=some false
 t4:Xf K (.ref C) (.type "str")=some false
 t5:Xf K (.ref C) (.type "tuple")=some false
 t6:Xf K (.ref C) (.type "list")=some false
 t7:Xf K (.ref C) (.type "dict")=some false
 ve:Xf K (.ref C) (.type "ValueError")=some true
 self:Xf K (.ref C) (.ref C)=some true
def wH.xc{K:Ut}(Z:wH K x C):XC K x C :=
 ⟨Z.i.ns,⟨Z.cls,Z.ga,Z.gt,Z.i.ob,Z.i.be⟩,λT hT=>by
  refine sV (pT T hT) ?_;simp only[gL,UG,U3,or_false] at hT;rcases hT with rfl|rfl|rfl|rfl|rfl|rfl|rfl
  all_goals first|exact Z.t1|exact Z.t2|exact Z.t3|exact Z.t4|exact Z.t5|exact Z.t6|exact Z.t7⟩
def FJ{K:Ut}(z:Lr K C fn)(sa:Wq K (.ref C) "__setattr__"=some (some (.builtin "object.__setattr__")))(hd:WG K C=true)(no:∀f∈ks,jl K C f):FD K C ks:=by
 obtain⟨CE,nm,qn,N,bs,hdct,sn,sub,ab,col,dd,k0,k1,k2,k3,k5,ho,_⟩:=z.ex;refine⟨sa,hd,?_,no⟩;unfold W.clsIn;rw[ho];rfl
section
variable {P:Vq}{w:VL}{K:Ut}{mg:US->Option Us}{base:UR}{N:List US}{qual:US}{scope:XX}{f:Uw}{cd:Us}{A:Vw}{outer:List VP}{s0:UE}{H0:Hp}{E:XK}{He η:Hp}
def Hv{h:UR}(ok:gG P w (upd (upd H e o1) dx o2) h)(he:H e=none)(hd:H dx=none)(n1:∀b,o1≠.own b)(n2:∀b,o2≠.own b)(m1:∀b,o1≠.tup b)(m2:∀b,o2≠.tup b):gG P w H h:=λa o q=>by
 have a1:a≠e:=λz=>by subst z;rw[he] at q;cases q
 have a2:a≠dx:=λz=>by subst z;rw[hd] at q;cases q
 refine(ok a o (by rw[aw a2,aw a1];exact q)).stay (λb u _ z=>z) (λb z=>?_) λb xs z=>?_
 .by_cases b2:b=dx
  .subst b2;rw[aB] at z;exact absurd (U9 z) (n2 _)
  .rw[aw b2] at z
   by_cases b1:b=e
   .subst b1;rw[aB] at z;exact absurd (U9 z) (n1 _)
   .rw[aw b1] at z;exact z
 .by_cases b2:b=dx
  .subst b2;rw[aB] at z;exact absurd (U9 z) (m2 _)
  .rw[aw b2] at z
   by_cases b1:b=e
   .subst b1;rw[aB] at z;exact absurd (U9 z) (m1 _)
   .rw[aw b1] at z;exact z
def Ft{fs:List Uw}{h h2:UR}(u:Un fs [] H H2 h h2):Un fs [] H H h h2:=⟨u.keep,u.slot,λ_ _ _ n _=>n,u.there,λ_ _ q=>q,λ_ _ _ q=>q,λ_ ps q=>⟨#[],by rw[q];simp⟩⟩
end
def G9(e:XG):Bool:=match e.key with
 |.str _ _=>true
 |_=>false
def wV{K:Ut}{C CE fn N:Uw}{nm q:US}{bs sub:List Us}{k0 k1 k2 k3 k5:Option Us}{st:Array (Option Us)}
  (xl:K.lookup C=some (excClassObj nm q C N bs [.ref CE,.type "ValueError",.type "Exception",.type "BaseException",.type "object"] hdct sn sub ab col dd k0 k1 k2 k3 k5 "ValueError.__new__"))(xn:K.lookup N=some ⟨cn,dn,.dict es ep,st⟩)(xk:es.toList.all G9=true)(xv:VH K N "__init__"=some (some (.ref fn)))
  (xb:Yk K CE [.type "ValueError",.type "Exception",.type "BaseException",.type "object"] "ValueError.__new__"=true):Lr K C fn:=by
 refine⟨CE,nm,q,N,bs,hdct,sn,sub,ab,col,dd,k0,k1,k2,k3,k5,xl,?_,xv,xb⟩;unfold W.nsOkIn;rw[xn];rw[Array.all_toList] at xk;exact xk
theorem zR{α β:Type}{f g:α->Option β}:∀{l:List α},(∀x∈l,f x=g x)->l.filterMap f=l.filterMap g
 |[],_=>rfl
 |a::l,h=>by
  rw[V5,V5,h a U0,zR λx hx=>h x (UH _ hx)]
def GQ(its:List Us):slicePick its.toArray none none (some (-1))=its.reverse.toArray:=by
 have h1:(sliceBounds none none (some (-1)) its.toArray.size)=((its.length:Int)-1,-1,-1):=by
  unfold sliceBounds;simp
 unfold slicePick;rw[h1]
 congr 1
 unfold sliceRange;simp only[show ¬((-1:Int) > 0) by decide,if_false];have hc:((if(its.length:Int)-1 > -1 then((its.length:Int)-1 - -1 - -1-1) / (- -1) else 0)).toNat=its.length:=by
  rw[show(- -1:Int)=1 from rfl,Int.ediv_one];split<;>omega
 rw[hc];rw[Ye];have hall:∀k∈VG its.length,((λx=>its.toArray[x]?)∘λ(k:Nat)=>((its.length:Int)-1 + -1*(k:Int)).toNat) k=its.reverse[k]?:=λk hk=>by
  have hk:=Xa.mp hk;show its.toArray[((its.length:Int)-1 + -1*(k:Int)).toNat]?=_;rw[List.getElem?_reverse hk,show((its.length:Int)-1 + -1*(k:Int)).toNat=its.length-1-k by omega];simp
 rw[zR hall];have hr:(VG its.length).filterMap (λk=>its.reverse[k]?)=its.reverse:=by
  have hh:=Zo (as:=its);generalize its.reverse=r at hh ⊢;rw[←hh];clear hh hall hc h1
  induction r with
  |nil=>rfl
  |cons a r ih =>
   rw[U6,XO,V5];simp only[VY,Ye]
   congr 1
 exact hr
def NS(x:D):aj D:=match x with
 |.lst ds=>.ok (.lst ds.reverse)
 |_=>.stuck
theorem Reps.rev{K:Ut}:∀{ds:List D}{vs:List V},Reps K H ds vs->Reps K H ds.reverse vs.reverse
 |[],vs,h=>by rw[Reps.nil_iff.mp h];exact Reps.nil
 |d::ds,vs,h=>by
  obtain⟨v,r,rfl,h1,h2⟩:=aJ.mp h;rw[Xp,Xp];exact(Reps.rev h2).app (Reps.cons h1 Reps.nil)
theorem bE.rev:∀{vs:List V}{us:List Us},bE vs us->bE vs.reverse us.reverse
 |_,_,.nil=>.nil
 |_,_,.cons h t=>by rw[Xp,Xp];exact(bE.rev t).append (.cons h .nil)
section
variable {X:Cx}{E:XK}{e a st:Vk}{f:Ev->aj D}{te:TE}{pos p2:Pos}
noncomputable def RX(K:Ut) (te:TE):TE:=λσ H Q=>te σ H λx H1=>∃a xs,x=.ref a/\eX K H1 a xs/\∀p,H1 p=none->Q (.ref p) (upd H1 p (.lst xs.reverse))
def M3(he:PE X e te)(hst:∀(π:List (Uw×Obj)) (s:UE) (σ:L2.St) (H:Hp) (Q:VK),Inv X π σ H s->Q (.int (-1)) H->UO (UM X.prog X.w) X.A (eval st X.env) (EP X π σ Q) X.xe s):PE X (.Subscript e (.Slice none none (some st) p2) pos) (RX X.K te):=by
 intro π s σ H Q I h;refine Subscript_ (cH (he π s σ H _ I h) λv s1 ⟨x,H1,I1,r1,a,xs,ex,hx,q⟩=>?_);subst ex;cases r1;refine wpAny_Slice (wpAny_evalPart_none (wpAny_evalPart_none ?_));show UO _ _ (eval st X.env) _ _ _;refine cH (hst π s1 σ H1 (λv H2=>v=.int (-1)/\H2=H1) I1 ⟨rfl,rfl⟩) λvs s3 ⟨u,H3,I3,pu,eu,eh⟩=>?_;subst eu eh;obtain⟨t,rfl⟩:=pu;have I4:Inv X π σ H3 { s3 with heap:=s3.heap.push { cls:=.type "slice",data:=.fields #[.none,.none,.int (-1) t] } }:=I3.kept (t':=s3.toks) λb ob q=>UC _ q;obtain⟨its,r,ht,hz⟩:=I4.list hx;have hg:UO (UM X.prog X.w) X.A (getItem (.ref a) (.ref s3.heap.objs.size)) (EP X π σ Q) X.xe { s3 with heap:=s3.heap.push { cls:=.type "slice",data:=.fields #[.none,.none,.int (-1) t] } }:=by
  refine wpAny_getItem_list_slice ht.isList (Heap.IsSliceOf.new ..) .none .none (.int (-1) t) (by simp) ?_ (by rw[UP,←r.length];exact hz);rw[GQ];refine⟨.ref _,_,I4.laid (t':=s3.toks) (o:=.lst xs.reverse) (λb ob q=>UC _ q) (UJ _) ?_,rfl,q _ (I4.hok.fresh (UJ _))⟩;exact⟨by rw[Zo];exact hz,_,0,bE.rev r,Vy _ rfl⟩
 exact tail_any (ops:=[.ref a,.ref s3.heap.objs.size]) ht.isList.typeIs slot_list_getitem.lookup hg (by with_unfolding_all rfl)
def NQ{k:Nat}(ha:DE X E a f):DE X E (.Subscript a (.Slice none none (some (.UnaryOp .USub (.Constant (.int 1) k p3) p4)) p2) pos) (bD f NS):=by
 refine⟨aZ (M3 ha.o λπ s σ H Q I q=>LO (pos:=p4) FY (GX (i:=1) (j:=k) (pos:=p3)) π s σ H Q I ⟨1,rfl,q⟩) λσ H Q z9=>?_⟩;obtain⟨Ha,ρ,hs,hr,q⟩:=z9;refine⟨Ha,ρ,hs,hr,?_⟩;unfold bD at q;cases e1:f ρ with
 |stuck|exn x=>rw[e1] at q;exact q
 |ok d =>
  rw[e1] at q;intro v H1 H01 g1 r1;cases d with
  |lst ds =>
   obtain⟨p,vs,rfl,h1,h2⟩:=aI.mp r1;exact⟨p,vs,rfl,aG.sqL g1.sub h1,λn hn=>q _ _ _ (g1.trans (aO g1.sub hn)) (aI.mpr ⟨n,_,rfl,eX.of aB,(Reps.rev h2).mono (aO g1.sub hn).z⟩)⟩
  |_=>exact q.elim
end
noncomputable def lX(f:Ev->aj D) (lo hi:Ev->aj (Option Int)):Ev->aj D:=λρ=>(f ρ).bind λx=>(lo ρ).bind λl=>(hi ρ).bind λh=>match x with
 |.lst ds=>.ok (.lst (eP ds l h))
 |_=>.stuck
section
variable {X:Cx}{E:XK}{a:Vk}{f:Ev->aj D}{pos p2:Pos}
def uP{lo hi:Option Vk}(ha:DE X E a f)(hl:DO X E lo fl)(hh:DO X E hi fh):DF X E (.Subscript a (.Slice lo hi none p2) pos) (lX f fl fh):=by
 refine⟨aZ (zi Cm ha.o hl.o hh.o) λσ H Q z9=>?_⟩;obtain⟨Ha,ρ,hs,hr,q⟩:=z9;refine⟨Ha,ρ,hs,hr,?_⟩;unfold lX at q;cases e1:f ρ with
 |stuck|exn x=>rw[e1] at q;exact q
 |ok x =>
  rw[e1] at q;intro v H1 H01 g1 r1;refine⟨H01,ρ,g1.sub,hr.mono g1.z,?_⟩;simp only[aj.bind] at q;cases e2:fl ρ with
  |stuck=>rw[e2] at q;exact q|exn x=>rw[e2] at q;exact λC ox H' Ha' g' ex=>q C ox H' Ha' (g1.trans g') ex
  |ok l =>
   rw[e2] at q;intro H2 H02 g2;refine⟨H02,ρ,g2.sub,(hr.mono g1.z).mono g2.z,?_⟩;simp only[aj.bind] at q;cases e3:fh ρ with
   |stuck=>rw[e3] at q;exact q|exn x=>rw[e3] at q;exact λC ox H' Ha' g' ex=>q C ox H' Ha' ((g1.trans g2).trans g') ex
   |ok h =>
    rw[e3] at q;intro H3 H03 g3;simp only[aj.bind] at q;have g:=(g1.trans g2).trans g3;cases x with
    |lst ds =>
     simp only at q;obtain⟨b,vs,rfl,h1,h2⟩:=aI.mp ((r1.mono g2.z).mono g3.z);refine⟨b,vs,rfl,aG.sqL g3.sub h1,λp hp=>?_⟩;have h0:H03 p=none:=g3.sub.free hp;refine q p _ _ H03 (g.trans ⟨λb o q=>by rw[aw (bb q hp)];exact q,aG.refl _,λb o q=>?_,λa h1 h2=>absurd h2 h1⟩) (g.s.free hp) h0 aB (h2.cut l h);rw[aw (by intro z;subst z;rw[h0] at q;cases q)];exact g3.sub _ _ q
    |_=>exact q.elim
end
noncomputable def La(x y:D):aj D:=match x,y with
 |.dic [] [],.dic [] []=>.ok (.bl false)
 |x,y=>jc x y
noncomputable def J0(K:Ut):R2:=λv u H Q=>MT K v u H Q∨∃a b,v=.ref a/\u=.ref b/\Rd H a (.dK [])/\Rd H b (.dK [])/\Q (.bl false) H
def Nf(hu:X.A.units+64<Wm):eQ X (Vj .NotEq) (J0 X.K):=eQ.or (fB hu) (by
 intro π s σ H x y v u Q I rx ry h;obtain⟨a,b,rfl,rfl,ha,hb,q⟩:=h;cases rx;cases ry;obtain⟨_,n1,vs,k1,d1⟩:=(show bT X.prog X.w H s.heap a (.dK []) from ha.ok I.hok)
 obtain⟨_,n2,us,k2,d2⟩:=(show bT X.prog X.w H s.heap b (.dK []) from hb.ok I.hok)
 obtain rfl:vs=[]:=by cases k1;rfl
 obtain rfl:us=[]:=by cases k2;rfl
 exact W.keq_ne n1 n2 d1 d2 (by omega) (λ_=>.nil) ⟨.bl false,H,I,rfl,q⟩)
def Nj{X:Cx}:qJ X.K E (J0 X.K) La:=by
 intro x y v u H Ha Q hs r1 r2 q;have old:post X.K E H Ha (jc x y) Q->J0 X.K v u H Q:=λq=>.inl (iQ x y v u H Ha Q hs r1 r2 q);unfold La at q;split at q
 .have e1:∃a,v=.ref a/\Rd Ha a (.dK []):=by
   rw[Rep] at r1;obtain⟨a,kvs,vs,h1,h2,h3,h4,h5⟩:=r1;have:kvs=[]:=by rw[h3];rfl
   subst this;exact⟨a,h1,h2⟩
  have e2:∃a,u=.ref a/\Rd Ha a (.dK []):=by
   rw[Rep] at r2;obtain⟨a,kvs,vs,h1,h2,h3,h4,h5⟩:=r2;have:kvs=[]:=by rw[h3];rfl
   subst this;exact⟨a,h1,h2⟩
  obtain⟨a,ea,ha⟩:=e1;obtain⟨b,eb,hb⟩:=e2;exact .inr ⟨a,b,ea,eb,aG.rd hs ha,aG.rd hs hb,bg hs q (aK.mpr rfl)⟩
 .exact old q
noncomputable def dA(x:US) (ks:List US) (fa:Ev->aj (List D)):Ev->aj Fl:=λρ=>(fa (fz ρ)).bind λds=>if ds.length=ks.length then .exn ⟨x,ks.zip ds⟩ else .stuck
theorem ym{K:Ut}{H:Hp}:∀{ks:List US}{ds:List D}{vs:List V}{n:US}{d:D},Reps K H ds vs->(ks.zip ds).lookup n=some d->∃v,(ks.zip vs).lookup n=some v/\Rep K H d v
 |[],ds,vs,n,d,r,h=>by rw[List.zip_nil_left] at h;cases h
 |k::ks,[],vs,n,d,r,h=>by rw[List.zip_nil_right] at h;cases h
 |k::ks,e::ds,vs,n,d,r,h=>by
  obtain⟨v,vs',rfl,r1,r2⟩:=aJ.mp r;rw[VF,VW] at h;rw[VF];cases q:n==k with
  |true=>rw[q] at h;cases h;exact⟨v,by rw[VW,q],r1⟩
  |false =>
   rw[q] at h;obtain⟨u,h1,h2⟩:=ym r2 h;exact⟨u,by rw[VW,q];exact h1,h2⟩
def gG.xd(ok:gG P w H g){fs:List (US×V)}(hn:H a=none)(p:AN a fs g):gG P w (upd H a (.xd fs)) g:=λb u e=>by
 by_cases hb:b=a
 .subst hb;rw[aB] at e;cases e;obtain⟨m,n,r,_⟩:=p;exact⟨m,n,r⟩
 .rw[aw hb] at e
  exact(ok b u e).stay (λc v _ q=>q) (λc q=>by rw[aw (bb q hn)];exact q) λc xs q=>by rw[aw (bb q hn)];exact q
section
variable {P:Vq}{w:VL}{K:Ut}{mg:US->Option Us}{base:UR}{N:List US}{qual:US}{scope:XX}{f:Uw}{cd:Us}{A:Vw}{outer:List VP}{s0:UE}{H0:Hp}{E:XK}{He η:Hp}
def dY{k:Nat}{ps ks:List US}(xc:XC K x C)(z:Lr K C fn)(st:FD K C ks)(hfn:W.isFn K (.ref fn)=true)(F:fZ P w K mg base CX0 k fn fd ps (Gd K ks))(hb:iL K fd ps [])(hks:ks.length<=60)(hnd:ks.Nodup)(hr:cW (k+1) (dW (gb P w) P w K mg base N qual scope f cd A outer s0 H0 E).A)(hm:mg x=some (.ref C))(hh:A.handled=none)
  (hg:Gl (dW (gb P w) P w K mg base N qual scope f cd A outer s0 H0 E) x)(ha:DA (dW (gb P w) P w K mg base N qual scope f cd A outer s0 H0 E) E (e::es) fa)
  (hdb:(x==("__debug__" : US))=false:=by decide)(he:Uy (e::es) (dW (gb P w) P w K mg base N qual scope f cd A outer s0 H0 E).env=(false,eval e (dW (gb P w) P w K mg base N qual scope f cd A outer s0 H0 E).env)::Uy es (dW (gb P w) P w K mg base N qual scope f cd A outer s0 H0 E).env:=by exact aV rfl)
  (hpl:(VA cpos (Uy es (dW (gb P w) P w K mg base N qual scope f cd A outer s0 H0 E).env)).any (·.1)=false:=by exact bL rfl) :
  DS (dW (gb P w) P w K mg base N qual scope f cd A outer s0 H0 E) E He η (.Raise (some (.Call (.Name x np) (e::es) [] cpos)) none pos) (dA x ks fa):=by
 refine⟨?_⟩;intro π s σ H D I ⟨Ha,ρ,hr',q⟩;obtain⟨bm,Nn,nm,qn,bs,hdct,sn,sub,ab,col,dd,k0,k1,k2,k3,k5,mN,hC,hN,hi,T⟩:=(Cf I.ok.mod.kin z).ex;obtain⟨oI,hoI,hoc⟩:∃oI,base.get? fn=some oI/\oI.cls=.type "function":=by
  have:=beq_iff_eq.mp hfn;obtain⟨o,ho,hc⟩:=YY.mp this;exact⟨o,I.ok.mod.kin _ _ ho,hc⟩
 refine FN (C:=C) (nm:=nm) (q:=qn) (N:=Nn) (bs:=bs) (bm:=bm) (hdct:=hdct) (sn:=sn) (sub:=sub) (ab:=ab) (col:=col) (dd:=dd) (k0:=k0) (k1:=k1) (k2:=k2) (k3:=k3) (k5:=k5)
  Wj (mN:=mN) (oI:=oI) (T.hasType Wj.hasBase) hh (by rw[he];show(false||(VA cpos (Uy es (dW (gb P w) P w K mg base N qual scope f cd A outer s0 H0 E).env)).any (·.1))=false;rw[hpl];rfl) hi (jU I hg hm ⟨rfl,?_⟩ hdb)
 have hq:sA K E H (frz He Ha H) (fa (fz ρ)) (λvs H1=>vs.length=ks.length/\∀dx,H1 dx=none->E (.ref C) (some dx) (upd H1 dx (.xd (ks.zip vs)))):=by
  unfold dA at q;cases e1:fa (fz ρ) with
  |stuck=>rw[e1] at q;exact q|exn z=>rw[e1] at q;exact λC ox H' Ha' g ex=>q C ox H' Ha' (hr'.frz_grow.trans g) ex
  |ok ds =>
   rw[e1] at q;intro vs H1 H01 g rp;have q:b5 K E He η Ha (if ds.length=ks.length then aj.exn ⟨x,ks.zip ds⟩ else .stuck) D:=q
   by_cases hl:ds.length=ks.length
   .rw[if_pos hl] at q
    refine⟨by rw[←rp.length];exact hl,λdx hdx=>?_⟩;have ga:=aO (o:=.xd (ks.zip vs)) g.sub hdx;refine q (.ref C) (some dx) _ _ (hr'.frz_grow.trans (g.trans ga)) ⟨⟨C,rfl,xc⟩,ks.zip vs,aB,λn d hn=>?_⟩;obtain⟨v,k1,k2⟩:=ym rp hn;exact⟨v,k1,k2.mono ga.z⟩
   .rw[if_neg hl] at q;exact q.elim
 have h1:=ha.o cpos π s σ H _ I ⟨frz He Ha H,fz ρ,hr'.frz_le,hr'.looks,hq⟩;rw[he] at h1 ⊢;refine Xj (Vs h1 (λus s2 h2=>?_) λ_ _ y=>y);obtain⟨vs,H1,I1,rv,hl,hE⟩:=h2;have hz:us.length<=sizeLine:=by rw[←rv.length,hl,sizeLine_eq];omega
 refine⟨rfl,hz,I1.bk _ _ hC,hN.keeps I1.bk,T.keeps I1.bk,I1.bk _ _ hoI,hoc,λh' ee hx=>?_⟩;have hn:H1 ee=none:=by
  cases q:H1 ee with|none=>rfl|some o=>obtain⟨u,hu⟩:=bT.there (I1.hok ee o q);rw[hx.new] at hu;cases hu
 obtain⟨t,ht,_,_⟩:=hx.there;have hxn:vo ee C none h':=⟨t,ht⟩
 have un1:Un (iN (dW (gb P w) P w K mg base N qual scope f cd A outer s0 H0 E).stack) [] H1 (upd H1 ee (.ext (vo ee C none))) s2.heap h':=Un.ext (Un.kept hx.keeps) hn hx.new;have I2:Inv (dW (gb P w) P w K mg base N qual scope f cd A outer s0 H0 E) π σ (upd H1 ee (.ext (vo ee C none))) { s2 with heap:=h' } :=
  I1.call' (ch:=[]) rfl un1 (gG.ext (I1.hok.kept hx.keeps) hn hxn ⟨_,ht⟩ tN) I1.bare (λ_ z=>nomatch z)
 have rv2:bE (V.ref ee::vs) (U8 ee::us):=.cons rfl rv;have hsp:Gd K ks (V.ref ee::vs) (upd H1 ee (.ext (vo ee C none))) (λv H2=>v=.non/\∃dx,H1 dx=none/\dx≠ee/\H2=upd (upd (upd H1 ee (.ext (vo ee C none))) ee (.ext (vo ee C (some dx)))) dx (.ext (AN dx (putAll ks vs [])))) E :=
  ⟨ee,C,fn,vs,rfl,hl,aB,st,z,λdx hdx=>by
   have c:dx≠ee:=λc=>by rw[c,aB] at hdx;cases hdx
   rw[aw c] at hdx;exact⟨rfl,dx,hdx,c,rfl⟩⟩
 have hl2:(U8 ee::us).length=ps.length:=by rw[←rv2.length];exact F.len _ _ _ _ hsp
 have hbb:=hb { s2 with heap:=h' } (U8 ee::us) I2.kIn (by simpa using hl2);rw[Vo] at hbb;refine wpAny_call (codeAny_mono (F.run _ _ { s2 with heap:=h' } _ ⟨U8 ee::us,[]⟩ (U8 ee::us) _ _ E (hr.make C us []) (I2.env0.make C us []) hbb rv2 hsp) λr s3 hq3=>?_);cases r with
 |error e=>exact VI hq3
 |ok fl =>
  cases fl with
  |next|brk|cont=>exact VI hq3
  |ret u =>
   obtain⟨v,H2,os3,bare3,un3,hok3,rel3,rfl,dx,hdx,hdne,rfl⟩:=hq3;obtain rfl:u=VS:=rel3;rw[oN] at hok3 un3;have un4:=Ft (un1.trans un3);have hok4:gG P w H1 s3.heap:=Hv hok3 hn hdx (λ_ z=>by cases z) (λ_ z=>by cases z) (λ_ z=>by cases z) (λ_ z=>by cases z);obtain⟨⟨t3,ht3⟩,_,_⟩:=(show bT P w _ s3.heap ee (.ext (vo ee C (some dx))) from hok3 ee _ (by rw[aw hdne.symm,aB]))
   have I3:=I1.call' (ch:=[]) os3 un4 hok4 bare3 (λ_ z=>nomatch z);refine⟨rfl,I3.bk _ _ hC,⟨_,t3,ht3⟩,?_⟩;have hin:=Df (l:=envOfC qual scope s0.heap.objs.size f cd::outer);have hfr:s3.heap.FunFrames (X3 s3.heap (ee::iN (envOfC qual scope s0.heap.objs.size f cd::outer))) (envOfC qual scope s0.heap.objs.size f cd::outer):=W.funFrames_hide I3.stack λenv he a hf=>UH _ (hin env he a hf);have hst:(X3 s3.heap (ee::iN (envOfC qual scope s0.heap.objs.size f cd::outer))).StaysIn s3.heap:=λb o q=>Yi _ q;have hen:(X3 s3.heap (ee::iN (envOfC qual scope s0.heap.objs.size f cd::outer))).get? ee=none:=W.hideAll_none _ (.head _);obtain⟨pX,_,_⟩:=(show bT P w _ s3.heap dx (.ext (AN dx (putAll ks vs []))) from hok3 dx _ aB)
   rw[sv hnd (λ_ _ z=>by simp at z) hl.symm,We] at pX;have hok5:=gG.xd hok4 hdx pX;have dfresh:s2.heap.get? dx=none:=by
    cases qd:s2.heap.get? dx with
    |none=>rfl
    |some o =>
     have:=un3.free dx o (hx.keeps dx o qd) (by rw[aw hdne];exact hdx) (by simp);rw[aB] at this;cases this
   have un5:=Un.ext (o:=.xd (ks.zip vs)) un4 hdx dfresh;refine BD (a0:=.ref t3) I3.ok.frames hfr rfl ht3 hst hen rfl rfl rfl λh4 fl4 up4 dc4=>?_;refine HE rfl I1 (s1:=s3) (H1:=upd H1 dx (.xd (ks.zip vs))) os3 bare3 un5 hok5 (by rw[aw hdne.symm];exact hn) hst hfr (λb hb hy=>?_) fl4 up4 ⟨some dx,⟨some dx,dc4,.inr rfl⟩,hE dx hdx⟩;have hbe:b≠ee:=λc=>by
    subst c;rcases hy with hy|⟨o,hy⟩
    .exact hy (by rw[aw hdne.symm];exact hn)
    .rw[hx.new] at hy;cases hy
   have hth:∃o,s3.heap.get? b=some o:=by
    rcases hy with hy|⟨o,hy⟩
    .cases q:(upd H1 dx (.xd (ks.zip vs))) b with
     |none=>exact absurd q hy
     |some o=>exact bT.there (hok5 b o q)
    .exact un4.there b o hy (by simp)
   obtain⟨o,q⟩:=hth;exact⟨o,YL _ q (List.not_mem_cons_of_ne_of_not_mem hbe hb)⟩
end
end DL
namespace DL
open PySem PySem.Spec PySem.Calls PySem.W PyProof.Rows Builtin Builtin.ObjectAttr Builtin.Getset_descriptor
section
variable {prog:Vq}{w:VL}{A:Vw}{E:Us->UE->Prop}{h:UR}{g:Array GenState}{d:Drawn}{t:Nat}{os:OsState}{a C:Uw}{o:Obj}{od:Option Obj}{K:Frag}{name:US}{v:Us}
def FO(X:K.In h)(J:InstAt h a o C od)(hf:findObj K C od name=some (.value v))(hq:Q (.done (.ret v)) ⟨h,g,d,t,os⟩) :
  UO (UM prog w) A (Builtin.«object.__getattribute__» ⟨[.ref a,.str name tk],[]⟩) Q E ⟨h,g,d,t,os⟩:=by
 have L0:=J.type (M:=UM prog w);have L1:=looks_find (M:=UM prog w) X J hf;unfold Builtin.«object.__getattribute__»
 repeat (any_goals (first|assumption|(with_reducible refine L0.at ?_)|(with_reducible refine L1.at ?_)|wp_step))
def Jx(X:K.In h)(Z:oH K C)(J:InstAt h a o C od)(hx:h.get? a=some o)(hc:o.cls=.ref C)(hf:findObj K C od name=some (.value v))(hq:R (.ok (.ret v)) ⟨h,g,d,t,os⟩) :
  WC (UM prog w) A (.call (.builtin "BaseException.__getattribute__") ⟨[.ref a,.str name tk],[]⟩) R ⟨h,g,d,t,os⟩ :=
 codeAny_call_builtin Xt.ga.plain F.entry_bexc_ga (yz X Z hx hc (FO X J hf hq))
def OZ(X:K.In h)(Z:oH K C)(J:InstAt h a o C od)(hx:h.get? a=some o)(hc:o.cls=.ref C)(hf:findObj K C od name=some (.value v))(hh:handedIn v=true)(hq:Q v ⟨h,g,d,t,os⟩) :
  UO (UM prog w) A (getAttrBy (.ref a) (.str name tk) b ex) Q E ⟨h,g,d,t,os⟩:=by
 have f3:=Xt.ga.bind (.ref a);have hx2:(WA "BaseException.__getattribute__"==WA "object.__getattribute__")=false:=by decide +kernel
 have hx1:(onTheHeap (U8 C)&&WA "BaseException.__getattribute__"==WA "object.__getattribute__")=false:=by rw[hx2];rfl
 have L1:Looks (UM prog w) h (W2 (.ref C) "__getattribute__") (some (.builtin "BaseException.__getattribute__")):=looks_findIn X Z.ga;have L2:Looks (UM prog w) h (W2 (.ref C) "__getattr__") none:=looks_findIn X Z.gt;have hho:=handedOut_of hh
 repeat (any_goals (first|assumption|(with_reducible refine V2 hx ?_;rw[hc])|(with_reducible refine L1.at ?_)|(with_reducible refine L2.at ?_)|wp_step))
 rw[if_neg (by cases ex<;>decide)]
 repeat (any_goals (first|assumption|wp_step))
 refine Jx X Z J hx hc hf ?_
 repeat (any_goals (first|assumption|wp_step))
def Mr(X:K.In h)(Z:oH K C)(J:InstAt h a o C od)(hx:h.get? a=some o)(hc:o.cls=.ref C)(hf:findObj K C od name=some (.value v))(hh:handedIn v=true)(hq:Q v ⟨h,g,d,t+1,os⟩) :
  UO (UM prog w) A (getAttr (.ref a) name ex) Q E ⟨h,g,d,t,os⟩:=by
 unfold getAttr
 repeat (any_goals (first|assumption|with_reducible apply OZ X Z J hx hc hf hh|wp_step))
end
end DL
namespace DL
open PySem PySem.Spec PyProof.Rows L2
noncomputable def IZ(K:Ut) (tab:US->Option Bool) (f:US):Prop:=∀c C b,tab c=some b->XC K c C->WG K C=true/\jl K C f
noncomputable def iF(tab:US->Option Bool) (f:US) (x:D):aj D:=match x with
 |.ob (.exf c ks) ds=>(match tab c,pv f ks ds with
  |some _,some d=>.ok d
  |_,_=>.stuck)
 |_=>.stuck
theorem FF:∀{ks:List US}{vs:List V}{f:US}{u:V},(ks.zip vs).lookup f=some u->∃i:Nat,ks[i]?=some f/\vs[i]?=some u
 |[],vs,f,u,h=>by rw[List.zip_nil_left] at h;cases h
 |k::ks,[],f,u,h=>by rw[List.zip_nil_right] at h;cases h
 |k::ks,v::vs,f,u,h=>by
  rw[VF,VW] at h;cases q:f==k with
  |true=>rw[q] at h;cases h;exact⟨0,by rw[beq_iff_eq.mp q];rfl,rfl⟩
  |false =>
   rw[q] at h;obtain⟨i,h1,h2⟩:=FF h;exact⟨i+1,h1,h2⟩
section
variable {X:Cx}{E:XK}{e:Vk}{fe:Ev->aj D}{pos:Pos}{f:US}{ta:TE}{tab:US->Option Bool}
noncomputable def Pa(K:Ut) (ta:TE) (f:US):TE:=λσ H Q=>ta σ H λx H1=>∃a C dx fs v,x=.ref a/\Rd H1 a (.ext (yl a C (some dx)))/\H1 dx=some (.xd fs)/\oH K C/\WG K C=true/\jl K C f/\fs.lookup f=some v/\Q v H1
def Kf(he:PE X e ta)(hb:WU e f X.env (eval e X.env)=eval e X.env):PE X (.Attribute e f pos) (Pa X.K ta f):=by
 intro π s σ H Q I h;refine Ln hb (cH (he π s σ H _ I h) λu s1 z9=>?_);obtain⟨x,H1,I1,rx,a,C,dx,fs,v,ex,ea,ed,Z,hd,n,l,q⟩:=z9;subst ex;obtain rfl:u=U8 a:=rx;obtain⟨⟨o,vs,ho,hcl,hda,hdi⟩,_,_⟩:=ea.ok I1.hok;obtain⟨mA,hn,r⟩:=(show bT X.prog X.w H1 s1.heap dx (.xd fs) from I1.hok dx _ ed)
 obtain⟨u',hu,ru⟩:=kh (v:=v) (o:=mA f) (by rw[←l];exact r f);obtain⟨od,hod,hl⟩:=o9 hn;have J:YD s1.heap a o C (some od):=⟨ho,hcl,by unfold W.notCls;rw[hda],by rw[hdi];exact hod⟩
 have I2:=I1.tok (s1.toks+1);have K1:=I1.kIn;obtain⟨hh,g,d,t,os⟩:=s1;exact Mr K1 Z J ho hcl (W.findObj_own hd n rfl (by show Zd f od=_;rw[hl,hu])) (EW ru) ⟨v,H1,I2,ru,q⟩
def rm(ht:IZ X.K tab f)(he:DE X E e fe)(hb:WU e f X.env (eval e X.env)=eval e X.env:=by rfl):DE X E (.Attribute e f pos) (bD fe (iF tab f)):=by
 refine⟨aZ (Kf he.o hb) λσ H Q z9=>?_⟩;obtain⟨Ha,ρ,hs,hr,q⟩:=z9;refine⟨Ha,ρ,hs,hr,?_⟩;unfold bD at q;cases e1:fe ρ with
 |stuck|exn x=>rw[e1] at q;exact q
 |ok d =>
  rw[e1] at q;intro v H1 H01 g1 r1;replace q:post X.K E H Ha (iF tab f d) Q:=q;unfold iF at q;cases d with
  |ob k ds =>
   cases k with
   |exf c ks =>
    replace q:post X.K E H Ha (match tab c,pv f ks ds with|some _,some d=>aj.ok d|_,_=>.stuck) Q:=q;cases e2:tab c with
    |none=>rw[e2] at q;exact q.elim
    |some b =>
     cases e3:pv f ks ds with
     |none=>rw[e2,e3] at q;exact q.elim
     |some d =>
      rw[e2,e3] at q;obtain⟨p,vs,rfl,⟨C,dx,fs,h1,h2,h3,h4,h5⟩,h6⟩:=fX.mp r1;obtain⟨u,k1,k2,k3⟩:=Di h4 h6 e3;obtain⟨i,i1,i2⟩:=FF k1;obtain⟨m1,m2⟩:=ht c C b e2 h1;exact⟨p,C,dx,fs,u,rfl,aG.rd g1.sub h2,g1.sub _ _ h3,h1.ek,m1,m2,h5 i f u i1 i2,q u H1 H01 g1 k2⟩
   |_=>exact q.elim
  |_=>exact q.elim
end
def Tw{α:Type}{us:List α}(h:us.length=1):∃a,us=[a]:=List.length_eq_one_iff.mp h
def Sw{α:Type}{us:List α}(h:us.length=2):∃a b,us=[a,b]:=by
 cases us with|nil=>cases h|cons a us=>obtain⟨b,rfl⟩:=Tw (YZ h);exact⟨a,b,rfl⟩
def Sv{α:Type}{us:List α}(h:us.length=3):∃a b c,us=[a,b,c]:=by
 cases us with|nil=>cases h|cons a us=>obtain⟨b,c,rfl⟩:=Sw (YZ h);exact⟨a,b,c,rfl⟩
def Uh{α:Type}{us:List α}(h:us.length=4):∃a b c d,us=[a,b,c,d]:=by
 cases us with|nil=>cases h|cons a us=>obtain⟨b,c,d,rfl⟩:=Sv (YZ h);exact⟨a,b,c,d,rfl⟩
end DL
namespace Com
open PySem L2 DL
def QH:lV ⟨c,[(f,d)]⟩=.ob (.exf c [f]) [d]:=by
 show(if([f]:List US).Nodup then D.ob (.exf c [f]) [d] else .exc c)=_;rw[if_pos (by simp)]
def QG(h:f≠g):lV ⟨c,[(f,d),(g,e)]⟩=.ob (.exf c [f,g]) [d,e]:=by
 show(if([f,g]:List US).Nodup then D.ob (.exf c [f,g]) [d,e] else .exc c)=_;rw[if_pos (by simp [h])]
def KS(h:hit x.cls=true):Mx hit ni sh ρ (.exn x)=(sh (ρ.set ni (.sh (lV x)))).bind (vx ni):=if_pos h
def gp(h:tab c=some b):eD tab (.ob (.exf c ks) ds)=.ok (.bl b):=by unfold eD;simp only[h]
noncomputable def qM(x:US) (ks:List US) (ds:List D):aj Fl:=if ds.length=ks.length then .exn ⟨x,ks.zip ds⟩ else .stuck
def bY:dA x ks fa ρ=(fa (fz ρ)).bind (qM x ks):=aL rfl
def uc:qM x [f] [d]=.exn ⟨x,[(f,d)]⟩:=if_pos rfl
def BE:qM x [f,g] [d,e]=.exn ⟨x,[(f,d),(g,e)]⟩:=if_pos rfl
end Com
namespace DL
open PySem PySem.Spec PyProof.Rows L2
def E5(a:Uw)(H:Hp):Hp:=λb=>if b=a then none else H b
def gI(h:b≠a):E5 a H b=H b:=if_neg h
def eA:E5 a H a=none:=if_pos rfl
structure gZ (K:Ut) (He η Ha:Hp) (σ:L2.St) (H:Hp) (ρ:Ev) (a:Uw) (st:List D) (vs:List V):Prop where
 ha:He a=none
 h0:η a=none
 hl:H a=some (.lst vs)
 r:Reps K Ha st vs
 s:dD K (upd He a (.lst vs)) η Ha σ H ρ
def OX.he{K:Ut}(hn:∀b,He b=Yw->He' b=Yw)(h:OX K He Ha σ H ρ):OX K He' Ha σ H ρ:=⟨λi j ds e=>by
 obtain⟨a,p,h1,⟨vs,es,us,r1,r2,r3,r⟩,h2⟩:=h.1 i j ds e;exact⟨a,p,h1,⟨vs,es,us,hn _ r1,r2,hn _ r3,r⟩,h2⟩,h.2⟩
section
variable {K:Ut}{He η Ha H:Hp}{σ:L2.St}{ρ:Ev}{a:Uw}{st st':List D}{vs us:List V}
def gZ.n0(h:gZ K He η Ha σ H ρ a st vs):Ha a=none:=by
 cases q:Ha a with
 |none=>rfl
 |some o =>
  have:=h.s.g.nw a (by rw[q];simp) h.h0;rw[aB] at this;cases this
def gZ.back(h:gZ K He η Ha σ H ρ a st vs)(z:aG Ha Ha')(s':dD K (upd He a (.lst vs)) η Ha' σ' H' ρ'):gZ K He η Ha' σ' H' ρ' a st vs :=
 ⟨h.ha,h.h0,s'.g.s _ _ aB,h.r.mono z,s'⟩
def gZ.change(h:gZ K He η Ha σ H ρ a st vs)(g:bB (E5 a H) Ha H' Ha')(n:Ha' a=none)(hl:H' a=some (.lst us))(r:Reps K Ha' st' us):gZ K He η Ha' σ H' ρ a st' us:=by
 have hne:∀b,upd He a (.lst us) b=none->b≠a/\He b=none:=λb e=>by
  by_cases c:b=a
  .subst c;rw[aB] at e;cases e
  .rw[aw c] at e;exact⟨c,e⟩
 have hnn:∀b,upd He a (.lst vs) b=none->upd He a (.lst us) b=none:=λb e=>by
  by_cases c:b=a
  .subst c;rw[aB] at e;cases e
  .rw[aw c] at e ⊢;exact e
 have gone:∀b o,b≠a->H b=some o->H' b=some o:=λb o c e=>g.s _ _ (by rw[gI c];exact e);have n':∀b,Ha b=none->(∃o,H b=some o/\b≠a)->Ha' b=none:=λb e ⟨o,e1,c⟩=>by
  cases q:Ha' b with
  |none=>rfl
  |some u =>
   have:=g.nw b (by rw[q];simp) e;rw[gI c,e1] at this;cases this
 refine⟨h.ha,h.h0,hl,r,⟨⟨λb o e=>?_,h.s.g.z.trans g.z,g.sub,λb h1 h2=>?_⟩,h.s.rd.mono g.z,λi d e=>?_,h.s.ap,h.s.ln,(h.s.ex.he hnn).upd (λj s e=>.inl ⟨e,rfl⟩) g.z (λb ws hb e=>gone b _ (hne b hb).1 e) λp ws hp q0 hq _=>⟨gone p _ (hne p hp).1 hq,n' p q0 ⟨_,hq,(hne p hp).1⟩⟩⟩⟩
 .by_cases c:b=a
  .subst c;rw[aB] at e;cases e;exact hl
  .rw[aw c] at e
   exact gone b o c (h.s.g.s _ _ (by rw[aw c];exact e))
 .by_cases c:b=a
  .subst c;exact absurd n h1
  .rw[aw c]
   cases q:Ha b with
   |some u =>
    have:=h.s.g.nw b (by rw[q];simp) h2;rw[aw c] at this;exact this
   |none =>
    have:=g.nw b h1 q;rw[gI c] at this;cases q2:He b with|none=>rfl|some u=>rw[h.s.g.s b u (by rw[aw c];exact q2)] at this;cases this
 .obtain⟨b,k1,k2,k3,k4⟩:=h.s.ow i d e
  cases d with
  |lst ds =>
   obtain⟨ws,k5,k6⟩:=k4;have c:b≠a:=(hne b (hnn b k2)).1;exact⟨b,k1,hnn b k2,n' b k3 ⟨_,k5,c⟩,ws,gone b _ c k5,k6.mono g.z⟩
  |dic ks ds =>
   obtain⟨ws,k5,kl,k6⟩:=k4;have c:b≠a:=(hne b (hnn b k2)).1;exact⟨b,k1,hnn b k2,n' b k3 ⟨_,k5,c⟩,ws,gone b _ c k5,kl,k6.mono g.z⟩
  |_=>exact k4.elim
end
noncomputable def tM(K:Ut) (He η:Hp) (a:Uw) (f:Ev->List D->aj (D×List D)):TE:=λσ H Q=>∃Ha ρ st vs,gZ K He η Ha σ H ρ a st vs/\match f ρ st with
 |.ok (d,st')=>∀v H' Ha' us,aG Ha Ha'->gZ K He η Ha' σ H' ρ a st' us->Rep K Ha' d v->Q v H'
 |.exn _=>False
 |.stuck=>False
noncomputable def Tg(K:Ut) (He η:Hp) (a:Uw) (f:Ev->List D->aj (List D×List D)):TA:=λσ H Q=>∃Ha ρ st vs,gZ K He η Ha σ H ρ a st vs/\match f ρ st with
 |.ok (ds,st')=>∀xs H' Ha' us,aG Ha Ha'->gZ K He η Ha' σ H' ρ a st' us->Reps K Ha' ds xs->Q xs H'
 |.exn _=>False
 |.stuck=>False
noncomputable def Tf(K:Ut) (He η:Hp) (a:Uw) (f:Ev->List D->aj (D×List D)):TT:=λσ H Q=>∃Ha ρ st vs,gZ K He η Ha σ H ρ a st vs/\match f ρ st with
 |.ok (.bl b,st')=>∀H' Ha' us,aG Ha Ha'->gZ K He η Ha' σ H' ρ a st' us->Q b H'
 |.ok _=>False
 |.exn _=>False
 |.stuck=>False
structure DM (X:Cx) (He η:Hp) (a:Uw) (e:Vk) (f:Ev->List D->aj (D×List D)):Prop where
 o:PE X e (tM X.K He η a f)
structure Lx (X:Cx) (He η:Hp) (a:Uw) (es:List Vk) (f:Ev->List D->aj (List D×List D)):Prop where
 o:PA X es (Tg X.K He η a f)
structure FE (X:Cx) (He η:Hp) (a:Uw) (e:Vk) (f:Ev->List D->aj (D×List D)):Prop where
 o:PT X e (Tf X.K He η a f)
noncomputable def mP(f:Ev->aj D):Ev->List D->aj (D×List D):=λρ st=>(f ρ).bind λd=>.ok (d,st)
noncomputable def wa(st:List D) (d:D):aj (D×List D):=if nq d=true then .ok (d,st) else .stuck
noncomputable def kS(s:Option Sl) (a:Uw):Bool:=match s with
 |some (.pt b)=>b==a
 |_=>false
def vw(i:Nat)(ρ:Ev)(st:List D):Ev:=(fz ρ).set i (.sh (.lst st))
noncomputable def mV(i:Nat) (a:Uw) (f:Ev->aj D):Ev->List D->aj (D×List D):=λρ st=>if kS ρ[i]? a=true then(f (vw i ρ st)).bind (wa st) else .stuck
section
variable {X:Cx}{E:XK}{He η:Hp}{a:Uw}{e b:Vk}{es:List Vk}{pos:Pos}{f:Ev->aj D}{fm gm:Ev->List D->aj (D×List D)}{fa:Ev->List D->aj (List D×List D)}
def aE(he:DE X E e f):DM X He η a e (mP f):=⟨aZ he.o λσ H Q ⟨Ha,ρ,st,vs,h,q⟩=>⟨Ha,ρ,h.s.g.sub,h.s.rd,by
 unfold mP at q;cases e1:f ρ with
 |stuck=>rw[e1] at q;exact q|exn x=>rw[e1] at q;exact q.elim
 |ok d =>
  rw[e1] at q;exact λv H' Ha' g rp=>q v H' Ha' vs g.z (h.back g.z (h.s.grow g)) rp⟩⟩
def gZ.view{K:Ut}{st:List D}(h:gZ K He η Ha σ H ρ a st vs)(hp:kS ρ[i]? a=true):aG (upd (frz (upd He a (.lst vs)) Ha H) a (.lst vs)) H/\aG (frz (upd He a (.lst vs)) Ha H) (upd (frz (upd He a (.lst vs)) Ha H) a (.lst vs))/\Reads K (upd (frz (upd He a (.lst vs)) Ha H) a (.lst vs)) σ (vw i ρ st):=by
 have hz:frz (upd He a (.lst vs)) Ha H a=none:=by unfold frz;rw[aB];exact h.n0
 have z:aG (frz (upd He a (.lst vs)) Ha H) (upd (frz (upd He a (.lst vs)) Ha H) a (.lst vs)):=λb o e=>by rw[aw (by intro z;subst z;rw[hz] at e;cases e)];exact e
 refine⟨λb o e=>?_,z,λj d e=>?_⟩
 .by_cases c:b=a
  .subst c;rw[aB] at e;cases e;exact h.hl
  .rw[aw c] at e;exact h.s.frz_le _ _ e
 .unfold vw at e
  by_cases c:i=j
  .subst c
   unfold kS at hp;cases q:ρ[i]? with
   |none=>rw[q] at hp;cases hp
   |some s =>
    rw[q] at hp;cases s with
    |pt b =>
     have hb:b=a:=eq_of_beq hp;subst hb;have hil:i<(fz ρ).length:=by unfold fz;rw[Uv];exact(UA.mp q).1
     rw[U2 hil] at e;cases e;exact⟨_,h.s.ex.2 i b q,aI.mpr ⟨b,vs,rfl,eX.of aB,(h.r.mono h.s.frz_sub).mono z⟩⟩
    |_=>cases hp
  .rw[Uz c] at e
   obtain⟨v,h1,h2⟩:=h.s.looks j d e;exact⟨v,h1,h2.mono z⟩
def gZ.behind{K:Ut}{st:List D}(h:gZ K He η Ha σ H ρ a st vs)(g:bB H (upd (frz (upd He a (.lst vs)) Ha H) a (.lst vs)) H' J):aG Ha J/\aG Ha (iO Ha J)/\gZ K He η (iO Ha J) σ H' ρ a st vs:=by
 have hz:frz (upd He a (.lst vs)) Ha H a=none:=by unfold frz;rw[aB];exact h.n0
 have z0:aG (frz (upd He a (.lst vs)) Ha H) (upd (frz (upd He a (.lst vs)) Ha H) a (.lst vs)):=λb o e=>by rw[aw (by intro z;subst z;rw[hz] at e;cases e)];exact e
 have hJ:aG Ha J:=h.s.frz_sub.trans (z0.trans g.z);have z:aG Ha (iO Ha J):=λb o e=>by unfold iO;rw[e]
 refine⟨hJ,z,h.back z ?_⟩;have ja:J a=some (.lst vs):=g.z _ _ aB;have g':bB H (frz (upd He a (.lst vs)) Ha H) H' (E5 a J):=⟨g.s,λb o e=>by
   have c:b≠a:=by intro c;subst c;rw[hz] at e;cases e
   rw[gI c];exact g.z _ _ (z0 _ _ e),λb o e=>by
   by_cases c:b=a
   .subst c;rw[eA] at e;cases e
   .rw[gI c] at e;exact g.sub _ _ e,λb h1 h2=>by
   by_cases c:b=a
   .subst c;exact absurd eA h1
   .rw[gI c] at h1;exact g.nw b h1 (by rw[aw c];exact h2)⟩
 have hs:=h.s.behind g';have e:iO Ha (E5 a J)=iO Ha J:=by
  funext b;unfold iO
  by_cases c:b=a
  .subst c;rw[h.n0,eA,ja]
  .rw[gI c]
 rw[e] at hs;exact hs
def oi(he:DE X E e f):DM X He η a e (mV i a f):=⟨aZ he.o λσ H Q z9=>by
 obtain⟨Ha,ρ,st,vs,h,q⟩:=z9;unfold mV at q
 by_cases hp:kS ρ[i]? a=true
 .rw[if_pos hp] at q
  obtain⟨v1,v2,v3⟩:=h.view hp;refine⟨_,vw i ρ st,v1,v3,?_⟩;cases e1:f (vw i ρ st) with
  |stuck=>rw[e1] at q;exact q|exn x=>rw[e1] at q;exact q.elim
  |ok d =>
   rw[e1] at q;intro v H' J g rp;obtain⟨hJ,z,hm⟩:=h.behind g;replace q:match wa st d with
    |.ok (d,st')=>∀v H' Ha' us,aG Ha Ha'->gZ X.K He η Ha' σ H' ρ a st' us->Rep X.K Ha' d v->Q v H'
    |.exn _=>False
    |.stuck=>False:=q
   unfold wa at q
   by_cases fl:nq d=true
   .rw[if_pos fl] at q
    exact q v H' (iO Ha J) vs z hm (rp.flat_to (D4 hJ) fl)
   .rw[if_neg fl] at q;exact q.elim
 .rw[if_neg hp] at q;exact q.elim⟩
noncomputable def mB(f g:Ev->List D->aj (D×List D)) (op:D->D->aj D):Ev->List D->aj (D×List D):=λρ st=>(f ρ st).bind λp=>(g ρ p.2).bind λq=>(op p.1 q.1).bind λd=>.ok (d,q.2)
def jL(ho:qJ X.K E r op)(σ:L2.St)(H:Hp)(Q:VK)(h:tM X.K He η a (mB fm gm op) σ H Q):Oy r (tM X.K He η a fm) (tM X.K He η a gm) σ H Q:=by
 obtain⟨Ha,ρ,st,vs,h,q⟩:=h;refine⟨Ha,ρ,st,vs,h,?_⟩;unfold mB at q;cases e1:fm ρ st with
 |stuck|exn x=>rw[e1] at q;exact q
 |ok p =>
  obtain⟨x,s1⟩:=p;rw[e1] at q;intro v H1 H01 us z1 h1 r1;refine⟨H01,ρ,s1,us,h1,?_⟩;simp only[aj.bind] at q;cases e2:gm ρ s1 with
  |stuck|exn x=>rw[e2] at q;exact q
  |ok p2 =>
   obtain⟨y,s2⟩:=p2;rw[e2] at q;intro u H2 H02 us2 z2 h2 r2;refine ho x y v u H2 H02 Q h2.s.g.sub (r1.mono z2) r2 ?_;simp only at q;cases e3:op x y with
   |stuck=>rw[e3] at q;exact q|exn x=>rw[e3] at q;exact q.elim
   |ok d =>
    rw[e3] at q;exact λv' H' Ha' g rp=>q v' H' Ha' us2 ((z1.trans z2).trans g.z) (h2.back g.z (h2.s.grow g)) rp
def Md(h:eQ X (binaryOp op) r)(ho:qJ X.K E r o)(ha:DM X He η a l fm)(hb:DM X He η a b gm):DM X He η a (.BinOp l op b pos) (mB fm gm o):=⟨aZ (GW h ha.o hb.o) (jL ho)⟩
def NM(h:eQ X (Vj op) r)(ho:qJ X.K E r o)(ha:DM X He η a l fm)(hb:DM X He η a b gm)(hm:behindInMarks op b=false):DM X He η a (.Compare l [op] [b] pos) (mB fm gm o):=⟨aZ (CA h ha.o hb.o hm) (jL ho)⟩
def QU(h:IV X r)(ho:qJ X.K E r o)(ha:DM X He η a l fm)(hb:DM X He η a b gm)(hs:oz b:=by intro _ _;rfl):DM X He η a (.Subscript l b pos) (mB fm gm o):=⟨aZ (LP h ha.o hb.o hs) (jL ho)⟩
def bV:Ev->List D->aj (List D×List D):=λ_ st=>.ok ([],st)
noncomputable def aR(f:Ev->List D->aj (D×List D)) (fa:Ev->List D->aj (List D×List D)):Ev->List D->aj (List D×List D):=λρ st=>(f ρ st).bind λp=>(fa ρ p.2).bind λq=>.ok (p.1::q.1,q.2)
def aU:Lx X He η a [] bV:=⟨qS fV λσ H Q ⟨Ha,ρ,st,vs,h,q⟩=>q [] H Ha vs (aG.refl _) h Reps.nil⟩
def aH(ha:DM X He η a e fm)(hr:Lx X He η a es fa)(hs:Uy (e::es) X.env=(false,eval e X.env)::Uy es X.env:=by exact aV rfl):Lx X He η a (e::es) (aR fm fa):=⟨qS (c9 ha.o hr.o hs) λσ H Q ⟨Ha,ρ,st,vs,h,q⟩=>⟨Ha,ρ,st,vs,h,by
 unfold aR at q;cases e1:fm ρ st with
 |stuck|exn x=>rw[e1] at q;exact q
 |ok p =>
  obtain⟨x,s1⟩:=p;rw[e1] at q;intro v H1 H01 us z1 h1 r1;refine⟨H01,ρ,s1,us,h1,?_⟩;simp only[aj.bind] at q;cases e2:fa ρ s1 with
  |stuck|exn x=>rw[e2] at q;exact q
  |ok p2 =>
   obtain⟨ys,s2⟩:=p2;rw[e2] at q;exact λxs H2 H02 us2 z2 h2 r2=>q _ H2 H02 us2 (z1.trans z2) h2 (Reps.cons (r1.mono z2) r2)⟩⟩
noncomputable def mA(fa:Ev->List D->aj (List D×List D)) (m:List D->aj D):Ev->List D->aj (D×List D):=λρ st=>(fa ρ st).bind λp=>(m p.1).bind λd=>.ok (d,p.2)
def vj(hd:gF X E r m)(σ:L2.St)(H:Hp)(Q:VK)(h:tM X.K He η a (mA fa m) σ H Q):Tg X.K He η a fa σ H λvs H1=>r vs H1 Q:=by
 obtain⟨Ha,ρ,st,vs,h,q⟩:=h;refine⟨Ha,ρ,st,vs,h,?_⟩;unfold mA at q;cases e1:fa ρ st with
 |stuck|exn x=>rw[e1] at q;exact q
 |ok p =>
  obtain⟨ds,s1⟩:=p;rw[e1] at q;intro xs H1 H01 us z1 h1 r1;refine hd ds xs H1 H01 Q h1.s.g.sub r1 ?_;simp only[aj.bind] at q;cases e2:m ds with
  |stuck=>rw[e2] at q;exact q|exn x=>rw[e2] at q;exact q.elim
  |ok d =>
   rw[e2] at q;exact λv' H' Ha' g rp=>q v' H' Ha' us (z1.trans g.z) (h1.back g.z (h1.s.grow g)) rp
end
inductive cZ where
 |nx (ρ:Ev) (st:List D)|rt (d:D) (st:List D)|bk (ρ:Ev) (st:List D)|ct (ρ:Ev) (st:List D)
structure Rq (K:Ut) (He η Ha H:Hp) (a:Uw) (st:List D):Prop where
 g:bB He η H Ha
 n:Ha a=none
 l:∃us,H a=some (.lst us)/\Reps K Ha st us
noncomputable def dR(K:Ut) (He η:Hp) (a:Uw) (Ha:Hp) (r:aj cZ) (D:jK):Prop:=match r with
 |.ok (.nx ρ st)=>∀σ H Ha' vs,aG Ha Ha'->gZ K He η Ha' σ H ρ a st vs->D.nx σ H
 |.ok (.rt d st)=>∀v H Ha',aG Ha Ha'->Rq K He η Ha' H a st->Rep K Ha' d v->D.rt v H
 |.ok (.bk ρ st)=>∀σ H Ha' vs,aG Ha Ha'->gZ K He η Ha' σ H ρ a st vs->D.bk σ H
 |.ok (.ct ρ st)=>∀σ H Ha' vs,aG Ha Ha'->gZ K He η Ha' σ H ρ a st vs->D.ct σ H
 |.exn _=>False
 |.stuck=>False
def dR.grow{K:Ut}{D:jK}(h:dR K He η a Ha r D)(s:aG Ha Hb):dR K He η a Hb r D:=by
 cases r with
 |ok f =>
  cases f with|nx ρ st=>exact λσ H Ha' vs s'=>h σ H Ha' vs (s.trans s')|rt d st=>exact λv H Ha' s'=>h v H Ha' (s.trans s')|bk ρ st=>exact λσ H Ha' vs s'=>h σ H Ha' vs (s.trans s')|ct ρ st=>exact λσ H Ha' vs s'=>h σ H Ha' vs (s.trans s')
 |exn x=>exact h
 |stuck=>exact h
noncomputable def RC(K:Ut) (He η:Hp) (a:Uw) (g:Ev->List D->aj cZ):TS:=λD σ H=>∃Ha ρ st vs,gZ K He η Ha σ H ρ a st vs/\dR K He η a Ha (g ρ st) D
structure SM (X:Cx) (He η:Hp) (a:Uw) (st:V0) (g:Ev->List D->aj cZ):Prop where
 o:PS X st (RC X.K He η a g)
structure Jm (X:Cx) (He η:Hp) (a:Uw) (st:List V0) (g:Ev->List D->aj cZ):Prop where
 o:wK X st (RC X.K He η a g)
section
variable {X:Cx}{E:XK}{He η:Hp}{a:Uw}{st:V0}{rest:List V0}{e b:Vk}{es:List Vk}{pos:Pos}{f:Ev->aj D}{fm gm:Ev->List D->aj (D×List D)}{s t:Ev->List D->aj cZ}
def aT:Ev->List D->aj cZ:=λρ st=>.ok (.nx ρ st)
noncomputable def CU(t:Ev->List D->aj cZ) (r:cZ):aj cZ:=match r with
 |.nx ρ st=>t ρ st
 |r=>.ok r
noncomputable def aP(s t:Ev->List D->aj cZ):Ev->List D->aj cZ:=λρ st=>(s ρ st).bind (CU t)
def aQ:Jm X He η a [] aT:=⟨eT qP λD σ H ⟨Ha,ρ,st,vs,h,q⟩=>q σ H Ha vs (aG.refl _) h⟩
def aq(h1:SM X He η a st s)(h2:Jm X He η a rest t):Jm X He η a (st::rest) (aP s t):=by
 refine⟨?_⟩;refine eT (gA h1.o h2.o) λD σ H z9=>?_;obtain⟨Ha,ρ,st,vs,h,q⟩:=z9;refine⟨Ha,ρ,st,vs,h,?_⟩
 unfold aP at q;cases e1:s ρ st with
 |stuck|exn x=>rw[e1] at q;exact q
 |ok r =>
  rw[e1] at q;cases r with|nx ρ' st'=>exact λσ' H' Ha' vs' s' h'=>⟨Ha',ρ',st',vs',h',dR.grow (r:=t ρ' st') q s'⟩|rt d st'|bk ρ' st'|ct ρ' st'=>exact q
noncomputable def Bo(st:List D) (r:Fl):aj cZ:=match r with
 |.nx ρ=>.ok (.nx ρ st)
 |.bk ρ=>.ok (.bk ρ st)
 |.ct ρ=>.ok (.ct ρ st)
 |.rt _=>.stuck
def cb(g:Ev->aj Fl):Ev->List D->aj cZ:=λρ st=>(g ρ).bind (Bo st)
def bI(h:∀vs,DS X E (upd He a (.lst vs)) η st g):SM X He η a st (cb g):=by
 refine⟨?_⟩;rintro π sh σ H D I ⟨Ha,ρ,st,vs,hm,q⟩;refine(h vs).o π sh σ H D I ⟨Ha,ρ,hm.s,?_⟩;unfold cb at q;cases e1:g ρ with
 |stuck=>rw[e1] at q;exact q|exn x=>rw[e1] at q;exact q.elim
 |ok r =>
  rw[e1] at q;cases r with|nx ρ'=>exact λσ' H' Ha' z h'=>q σ' H' Ha' vs z (hm.back z h')|bk ρ'=>exact λσ' H' Ha' z h'=>q σ' H' Ha' vs z (hm.back z h')|ct ρ'=>exact λσ' H' Ha' z h'=>q σ' H' Ha' vs z (hm.back z h')|rt d=>exact q.elim
def Hh(i:Nat)(ρ:Ev)(p:D×List D):aj cZ:=.ok (.nx (ρ.set i (.sh p.1)) p.2)
noncomputable def dH(i:Nat) (f:Ev->List D->aj (D×List D)):Ev->List D->aj cZ:=λρ st=>(f ρ st).bind (Hh i ρ)
def b7(hN:X.N.Nodup)(hi:X.N[i]?=some x)(hx:Fx X.env.scope x)(he:DM X He η a e fm)(hs:Vz e (some (.Name x pos')) pos.line X.env=pure false:=by rfl)
  (hf:X.fn x=true∨X.env.scope.names.lookup x=some .local := by first|exact .inl rfl|exact .inr rfl|assumption):SM X He η a (.Assign [.Name x pos'] e pos) (dH i fm):=by
 refine⟨?_⟩;refine bN (mv hN hi hx he.o hs hf) λD σ H z9=>?_;obtain⟨Ha,ρ,st,vs,h,q⟩:=z9;refine⟨Ha,ρ,st,vs,h,?_⟩
 unfold dH at q;cases e1:fm ρ st with
 |stuck|exn x=>rw[e1] at q;exact q
 |ok p =>
  obtain⟨d,st'⟩:=p;rw[e1] at q;exact λv H' Ha' us z h' rp=>q _ H' Ha' us z (h'.back (aG.refl _) (h'.s.put rp))
def Hi(p:D×List D):aj cZ:=.ok (.rt p.1 p.2)
noncomputable def xx(f:Ev->List D->aj (D×List D)):Ev->List D->aj cZ:=λρ st=>(f ρ st).bind Hi
def gZ.out{K:Ut}{st:List D}(h:gZ K He η Ha σ H ρ a st vs)(z:aG Ha J)(hs:aG J H)(hw:∀b,J b≠none->Ha b=none->upd He a (.lst vs) b=none)(n:J a=none):Rq K He η J H a st :=
 ⟨⟨λb o e=>h.s.g.s _ _ (by rw[aw (by intro c;subst c;rw[h.ha] at e;cases e)];exact e),h.s.g.z.trans z,hs,λb h1 h2=>by
  have key:upd He a (.lst vs) b=none:=by
   cases q:Ha b with|none=>exact hw b h1 q|some o=>exact h.s.g.nw b (by rw[q];simp) h2
  by_cases c:b=a
  .subst c;exact h.ha
  .rw[aw c] at key;exact key⟩,n,vs,h.hl,h.r.mono z⟩
def oX(he:DM X He η a e fm):SM X He η a (.Return (some e) pos) (xx fm):=by
 refine⟨?_⟩;refine bN (xa he.o) λD σ H z9=>?_;obtain⟨Ha,ρ,st,vs,h,q⟩:=z9;refine⟨Ha,ρ,st,vs,h,?_⟩
 unfold xx at q;cases e1:fm ρ st with
 |stuck|exn x=>rw[e1] at q;exact q
 |ok p =>
  obtain⟨d,st'⟩:=p;rw[e1] at q;exact λv H' Ha' us z h' rp=>q v H' Ha' z (h'.out (aG.refl _) h'.s.g.sub (λb h1 h2=>absurd h2 h1) h'.n0) rp
noncomputable def di(f:Ev->aj D):Ev->List D->aj cZ:=λρ st=>(f (fz ρ)).bind λd=>.ok (.rt d st)
def cF(he:DE X E e f):SM X He η a (.Return (some e) pos) (di f):=by
 refine⟨?_⟩;refine bN (xa he.o) λD σ H z9=>?_;obtain⟨Ha,ρ,st,vs,h,q⟩:=z9;refine⟨frz (upd He a (.lst vs)) Ha H,fz ρ,h.s.frz_le,h.s.looks,?_⟩
 unfold di at q;cases e1:f (fz ρ) with
 |stuck=>rw[e1] at q;exact q|exn x=>rw[e1] at q;exact q.elim
 |ok d =>
  rw[e1] at q;intro v H' J g rp;have hz:frz (upd He a (.lst vs)) Ha H a=none:=by unfold frz;rw[aB];exact h.n0
  have z:aG Ha J:=h.s.frz_sub.trans g.z;have n:J a=none:=by
   cases qq:J a with|none=>rfl|some o=>have:=g.nw a (by rw[qq];simp) hz;rw[h.hl] at this;cases this
  have hg:=h.s.frz_grow.trans g;refine q v H' J z ⟨⟨λb o e=>hg.s _ _ (by rw[aw (by intro c;subst c;rw[h.ha] at e;cases e)];exact e),hg.z,hg.sub,λb h1 h2=>?_⟩,n,vs,g.s _ _ h.hl,h.r.mono z⟩ rp;have key:=hg.nw b h1 h2
  by_cases c:b=a
  .subst c;exact h.ha
  .rw[aw c] at key;exact key
noncomputable def Kw(s t:Ev->List D->aj cZ) (ρ:Ev) (p:D×List D):aj cZ:=match p.1 with
 |.bl b=>if b=true then s ρ p.2 else t ρ p.2
 |_=>.stuck
noncomputable def my(c:Ev->List D->aj (D×List D)) (s t:Ev->List D->aj cZ):Ev->List D->aj cZ:=λρ st=>(c ρ st).bind (Kw s t ρ)
def fj(hc:FE X He η a c fm)(ha:Jm X He η a sa s)(hb:Jm X He η a sb t):SM X He η a (.If c sa sb pos) (my fm s t):=by
 refine⟨?_⟩;refine bN (LN hc.o ha.o hb.o) λD σ H z9=>?_;obtain⟨Ha,ρ,st,vs,h,q⟩:=z9;refine⟨Ha,ρ,st,vs,h,?_⟩
 unfold my at q;cases e1:fm ρ st with
 |stuck|exn x=>rw[e1] at q;exact q
 |ok p =>
  obtain⟨d,st'⟩:=p;rw[e1] at q;cases d with
  |bl b =>
   intro H' Ha' us z h';replace q:dR X.K He η a Ha (if b=true then s ρ st' else t ρ st') D:=q;cases b with|true=>rw[if_pos rfl] at q ⊢;exact⟨Ha',ρ,st',us,h',q.grow z⟩|false=>rw[if_neg VC] at q ⊢;exact⟨Ha',ρ,st',us,h',q.grow z⟩
  |_=>exact q.elim
end
section
variable {X:Cx}{E:XK}{He η:Hp}{a:Uw}{st:V0}{e l b:Vk}{rest es:List Vk}{pos:Pos}{f:Ev->aj D}{fm gm:Ev->List D->aj (D×List D)}{s t:Ev->List D->aj cZ}
def E8(h:PT X e (tB (tM X.K He η a fm))):FE X He η a e fm:=by
 refine⟨?_⟩;refine gQ h λσ H Q z9=>?_;obtain⟨Ha,ρ,st,vs,h,q⟩:=z9;refine⟨Ha,ρ,st,vs,h,?_⟩
 cases e1:fm ρ st with
 |stuck|exn x=>rw[e1] at q;exact q
 |ok p =>
  obtain⟨d,st'⟩:=p;rw[e1] at q;intro v H1 H01 us z h1 r1;cases d with|bl b=>rw[aK.mp r1];exact⟨b,rfl,q H1 H01 us z h1⟩| _=>exact q.elim
def KZ(h:DM X He η a e fm)(he:∀whole,isTrue e X.env whole=(do let v ←whole;standAt e.pos;WY [v] (truthy v)):=by intro _;rfl):FE X He η a e fm:=E8 (GK h.o he)
def oh(h:eQ X (Vj op) r)(ho:qJ X.K E r o)(ha:DM X He η a l fm)(hb:DM X He η a b gm)(hm:behindInMarks op b=false):FE X He η a (.Compare l [op] [b] pos) (mB fm gm o):=by
 refine⟨?_⟩;refine gQ (Cu h ha.o hb.o hm) λσ H Q h=>?_;have w:tM X.K He η a (mB fm gm o) σ H λx H'=>∃k,x=.bl k/\Q k H':=by
  obtain⟨Ha,ρ,st,vs,h,q⟩:=h;refine⟨Ha,ρ,st,vs,h,?_⟩;cases e1:mB fm gm o ρ st with
  |stuck|exn x=>rw[e1] at q;exact q
  |ok p =>
   obtain⟨d,st'⟩:=p;rw[e1] at q;intro v H1 H01 us z h1 r1;cases d with|bl b=>rw[aK.mp r1];exact⟨b,rfl,q H1 H01 us z h1⟩| _=>exact q.elim
 exact jL ho σ H _ w
noncomputable def mT(f:Ev->aj D):Ev->List D->aj (D×List D):=λρ st=>(f (fz ρ)).bind λd=>.ok (d,st)
def cK(h:DT X E e f):FE X He η a e (mT f):=⟨gQ h.o λσ H Q ⟨Ha,ρ,st,vs,h,q⟩=>⟨frz (upd He a (.lst vs)) Ha H,fz ρ,h.s.frz_le,h.s.looks,by
 unfold mT at q;cases e1:f (fz ρ) with
 |stuck=>rw[e1] at q;exact q|exn x=>rw[e1] at q;exact q.elim
 |ok d =>
  rw[e1] at q;cases d with
  |bl b=>exact λH' J g=>q H' Ha vs (aG.refl _) (h.back (aG.refl _) (h.s.same g.s))
  |_=>exact q.elim⟩⟩
noncomputable def RE(i:Nat) (a:Uw) (f:Ev->aj D):Ev->List D->aj (D×List D):=λρ st=>if kS ρ[i]? a=true then(f (vw i ρ st)).bind λd=>.ok (d,st) else .stuck
def Ii(h:DT X E e f):FE X He η a e (RE i a f):=⟨gQ h.o λσ H Q z9=>by
 obtain⟨Ha,ρ,st,vs,h,q⟩:=z9;unfold RE at q
 by_cases hp:kS ρ[i]? a=true
 .rw[if_pos hp] at q
  obtain⟨v1,v2,v3⟩:=h.view hp;refine⟨_,vw i ρ st,v1,v3,?_⟩;cases e1:f (vw i ρ st) with
  |stuck=>rw[e1] at q;exact q|exn x=>rw[e1] at q;exact q.elim
  |ok d =>
   rw[e1] at q;cases d with|bl b=>exact λH' J g=>q H' Ha vs (aG.refl _) (h.back (aG.refl _) (h.s.same g.s))| _=>exact q.elim
 .rw[if_neg hp] at q;exact q.elim⟩
structure Ov (X:Cx) (He η:Hp) (a:Uw) (e:Vk) (f:Ev->List D->aj (D×List D)):Prop where
 o:PW X e (Tf X.K He η a f)
noncomputable def CV(g:Ev->List D->aj (D×List D)) (ρ:Ev) (p:D×List D):aj (D×List D):=match p.1 with
 |.bl b=>if b=true then g ρ p.2 else .ok (.bl false,p.2)
 |_=>.stuck
noncomputable def EL(f g:Ev->List D->aj (D×List D)):Ev->List D->aj (D×List D):=λρ st=>(f ρ st).bind (CV g ρ)
def DR(ha:FE X He η a l fm):Ov X He η a (.BoolOp .And [l] pos) fm:=⟨Ct ha.o⟩
def DU(ha:FE X He η a l fm)(hb:Ov X He η a (.BoolOp .And (b::rest) pos) gm):Ov X He η a (.BoolOp .And (l::b::rest) pos) (EL fm gm):=by
 refine⟨?_⟩;refine w8 (GG ha.o hb.o) λσ H Q z9=>?_;obtain⟨Ha,ρ,st,vs,h,q⟩:=z9;refine⟨Ha,ρ,st,vs,h,?_⟩
 unfold EL at q;cases e1:fm ρ st with
 |stuck|exn x=>rw[e1] at q;exact q
 |ok p =>
  obtain⟨d,st'⟩:=p;rw[e1] at q;cases d with
  |bl c =>
   intro H1 H01 us z h1;cases c with
   |true =>
    rw[if_pos rfl];refine⟨H01,ρ,st',us,h1,?_⟩;replace q:match gm ρ st' with
     |.ok (.bl b,st')=>∀H' Ha' us,aG Ha Ha'->gZ X.K He η Ha' σ H' ρ a st' us->Q b H'
     |.ok _=>False
     |.exn _=>False
     |.stuck=>False:=q
    cases e2:gm ρ st' with
    |stuck|exn x=>rw[e2] at q;exact q
    |ok p2 =>
     obtain⟨d2,s2⟩:=p2;rw[e2] at q;cases d2 with|bl c2=>exact λH2 H02 us2 z2 h2=>q H2 H02 us2 (z.trans z2) h2| _=>exact q.elim
   |false=>rw[if_neg VC];exact q H1 H01 us z h1
  |_=>exact q.elim
noncomputable def forM(tg:Ev->D->aj Ev) (body:Ev->List D->aj cZ):List D->Ev->List D->aj cZ
 |[],ρ,st=>.ok (.nx ρ st)
 |d::r,ρ,st=>(tg ρ d).bind λρ1=>(body ρ1 st).bind λx=>match x with
  |.nx ρ2 s2=>forM tg body r ρ2 s2
  |.ct ρ2 s2=>forM tg body r ρ2 s2
  |.bk ρ2 s2=>.ok (.nx ρ2 s2)
  |.rt d s=>.ok (.rt d s)
noncomputable def Sa(K:Ut) (He η:Hp) (a:Uw) (tg:Ev->D->aj Ev):TG:=λv σ H Q=>∃Ha ρ st vs d,gZ K He η Ha σ H ρ a st vs/\Rep K Ha d v/\match tg ρ d with
  |.ok ρ'=>∀σ' H' Ha',aG Ha Ha'->gZ K He η Ha' σ' H' ρ' a st vs->Q σ' H'
  |_=>False
def PY(hg:∀vs,DG X E (upd He a (.lst vs)) η tgt tg):PG X tgt (Sa X.K He η a tg):=by
 rintro π sh σ H v u Q I r ⟨Ha,ρ,st,vs,d,h,rp,q⟩;refine(hg vs).o π sh σ H v u Q I r ⟨Ha,ρ,d,h.s,rp,?_⟩;cases e1:tg ρ d with
 |stuck|exn x=>rw[e1] at q;exact q
 |ok ρ' =>
  rw[e1] at q;exact λσ' H' Ha' z h'=>q σ' H' Ha' z (h.back z h')
noncomputable def oA(K:Ut) (He η:Hp) (a:Uw) (Hb:Hp) (tg:Ev->D->aj Ev) (s:Ev->List D->aj cZ) (ds:List D) (D':jK) (i:Nat) (σ:L2.St) (H:Hp):Prop :=
 ∃Ha ρ st vs,aG Hb Ha/\gZ K He η Ha σ H ρ a st vs/\dR K He η a Ha (forM tg s (ds.drop i) ρ st) D'
def oA.done{K:Ut}(h:oA K He η a Hb tg s ds D' ds.length σ H):D'.nx σ H:=by
 obtain⟨Ha,ρ,st,vs,z,h,q⟩:=h;rw[WQ] at q;unfold forM at q;exact q σ H Ha vs (aG.refl _) h
noncomputable def dE(c:Ev->List D->aj (D×List D)) (s:Ev->List D->aj cZ):Nat->Ev->List D->aj cZ
 |0,_,_=>.stuck
 |n+1,ρ,st=>(c ρ st).bind λp=>match p.1 with
  |.bl b=>if b=true then(s ρ p.2).bind λx=>match x with
    |.nx ρ2 s2=>dE c s n ρ2 s2
    |.ct ρ2 s2=>dE c s n ρ2 s2
    |.bk ρ2 s2=>.ok (.nx ρ2 s2)
    |.rt d s2=>.ok (.rt d s2)
   else .ok (.nx ρ p.2)
  |_=>.stuck
noncomputable def Bn(fuel:Ev->Nat) (c:Ev->List D->aj (D×List D)) (s:Ev->List D->aj cZ):Ev->List D->aj cZ:=λρ st=>dE c s (fuel ρ) ρ st
def Ge(fuel:Ev->Nat)(hp:PassesOwn (UM X.prog X.w) X.A X.env X.xe)(hc:FE X He η a c fm)(hb:Jm X He η a body s):SM X He η a (.While c body [] pos) (Bn fuel fm s):=by
 refine⟨?_⟩;refine bN (zf hp hc.o hb.o) λD' σ H ⟨Ha,ρ,st,vs,h,q⟩=>?_;refine⟨λm σ H=>∃Ha ρ st vs,gZ X.K He η Ha σ H ρ a st vs/\dR X.K He η a Ha (dE fm s m ρ st) D',⟨fuel ρ,Ha,ρ,st,vs,h,q⟩,?_⟩;rintro m σ1 H1 ⟨H01,ρ1,st1,vs1,h1,q1⟩;cases m with
 |zero=>exact q1.elim
 |succ m =>
  refine⟨H01,ρ1,st1,vs1,h1,?_⟩;unfold dE at q1;cases e1:fm ρ1 st1 with
  |stuck|exn x=>rw[e1] at q1;exact q1
  |ok p =>
   obtain⟨d,s1⟩:=p;rw[e1] at q1;cases d with
   |bl b =>
    intro H2 H02 us2 z2 h2;replace q1:dR X.K He η a H01 (if b=true then(s ρ1 s1).bind λx=>match x with
      |.nx ρ2 s2=>dE fm s m ρ2 s2
      |.ct ρ2 s2=>dE fm s m ρ2 s2
      |.bk ρ2 s2=>.ok (.nx ρ2 s2)
      |.rt d s2=>.ok (.rt d s2)
     else .ok (.nx ρ1 s1)) D':=q1
    cases b with
    |false =>
     rw[if_neg VC] at q1 ⊢;exact q1 σ1 H2 H02 us2 z2 h2
    |true =>
     rw[if_pos rfl] at q1 ⊢;refine⟨λσ' H'=>∃m',m' < m+1/\∃Ha ρ st vs,gZ X.K He η Ha σ' H' ρ a st vs/\dR X.K He η a Ha (dE fm s m' ρ st) D',λσ' H' z=>z,H02,ρ1,s1,us2,h2,?_⟩;replace q1:=dR.grow q1 z2;cases e2:s ρ1 s1 with
     |stuck|exn x=>rw[e2] at q1;exact q1
     |ok r =>
      rw[e2] at q1;cases r with|nx ρ2 s2=>exact λσ3 H3 H03 vs3 z3 h3=>⟨m,Wi _,H03,ρ2,s2,vs3,h3,dR.grow (r:=dE fm s m ρ2 s2) q1 z3⟩|ct ρ2 s2=>exact λσ3 H3 H03 vs3 z3 h3=>⟨m,Wi _,H03,ρ2,s2,vs3,h3,dR.grow (r:=dE fm s m ρ2 s2) q1 z3⟩|bk ρ2 s2|rt d s2=>exact q1
   |_=>exact q1.elim
end
section
variable {X:Cx}{E:XK}{He η:Hp}{a:Uw}{st:V0}{e l b:Vk}{rest es:List Vk}{pos:Pos}{f:Ev->aj D}{fm gm:Ev->List D->aj (D×List D)}{fa:Ev->List D->aj (List D×List D)}{s t:Ev->List D->aj cZ}
noncomputable def vW(i:Nat) (ρ:Ev) (ds:List D) (p:D×List D):aj cZ:=if ds.length<line then .ok (.nx (ρ.set i (.ow (.lst (ds++[p.1])))) p.2) else .stuck
noncomputable def Ki(s:Option Sl) (k:List D->aj cZ):aj cZ:=match s with
 |some (.ow (.lst ds))=>k ds
 |_=>.stuck
noncomputable def Bp(i:Nat) (f:Ev->List D->aj (D×List D)):Ev->List D->aj cZ:=λρ st=>Ki ρ[i]? λds=>(f ρ st).bind (vW i ρ ds)
def vL(hN:X.N[i]?=some x)(hv:AH X.env.scope x)(he:DM X He η a e fm)
  (hd:(x==("__debug__" : US))=false:=by decide)(hcd:(x==("__classdict__" : US))=false:=by decide)
  (hbase:WU (.Name x p1) "append" X.env (eval (.Name x p1) X.env)=eval (.Name x p1) X.env:=by rfl)
  (hfew:((VA p3 (Uy [e] X.env)).all (λx=>!x.1)&&(XU p3 (W5 [] X.env)).all (λx=>x.1.isSome)
  &&decide ([e].length+([]:List Xs).length+(if([]:List Xs).isEmpty then 0 else 1)<30))=true:=by exact tL rfl)
  (hline:(p2.endLine==p3.line)=true:=by rfl) (hs:Uy [e] X.env=(false,eval e X.env)::Uy [] X.env:=by exact aV rfl) (hplain:(VA p3 (Uy [] X.env)).any (·.1)=false:=by exact bL rfl)
  (hw:Vz (.Call (.Attribute (.Name x p1) "append" p2) [e] [] p3) none pos.line X.env=pure false:=by rfl) :
  SM X He η a (.Expr (.Call (.Attribute (.Name x p1) "append" p2) [e] [] p3) pos) (Bp i fm):=by
 refine⟨?_⟩;refine bN (qQ (G0 YU YO YN o7 (gH hN hv hd hcd) (c9 he.o fV hs) hbase hfew hline hs hplain) hw) λD σ H ⟨Ha,ρ,st,vs,h,q⟩=>?_;unfold Bp Ki at q;cases e0:ρ[i]? with
 |none=>rw[e0] at q;exact q.elim
 |some sl =>
  rw[e0] at q;cases sl with
  |ow d =>
   cases d with
   |lst ds =>
    obtain⟨p,k1,k2,k3,ws,k4,k5⟩:=h.s.ow i _ e0;refine⟨.ref p,k1,.inl ⟨rfl,ws,eX.of k4⟩,?_⟩;refine⟨Ha,ρ,st,vs,h,?_⟩;replace q:dR X.K He η a Ha ((fm ρ st).bind (vW i ρ ds)) D:=q;cases e1:fm ρ st with
    |stuck|exn x=>rw[e1] at q;exact q
    |ok pr =>
     obtain⟨d,st'⟩:=pr;rw[e1] at q;intro v H' Ha' us z h' rp;obtain⟨p',k1',k2',k3',ws',k4',k5'⟩:=h'.s.ow i _ e0;rw[k1] at k1';cases k1';replace q:dR X.K He η a Ha (vW i ρ ds (d,st')) D:=q;unfold vW at q
     by_cases hl:ds.length<line
     .rw[if_pos hl] at q
      refine⟨p,ws',v,rfl,rfl,k4',by rw[←k5'.length];exact UY hl (by decide),?_⟩;have hpa:p≠a:=by intro c;subst c;rw[aB] at k2';cases k2'
      exact q σ _ Ha' us z ⟨h'.ha,h'.h0,by rw[aw (Vh hpa)];exact h'.hl,h'.r,h'.s.write e0 k1 (k5'.app (Reps.cons rp Reps.nil))⟩
     .rw[if_neg hl] at q;exact q.elim
   |_=>exact q.elim
  |_=>exact q.elim
noncomputable def mX(ρ:Ev) (d:D) (p:D×List D):aj cZ:=match p.1 with
 |.int j=>match AM p.2.length j with
  |some n=>.ok (.nx ρ (p.2.set n d))
  |none=>.stuck
 |_=>.stuck
noncomputable def zG(i:Nat) (a:Uw) (f k:Ev->List D->aj (D×List D)):Ev->List D->aj cZ:=λρ st=>if kS ρ[i]? a=true then(f ρ st).bind λp=>(k ρ p.2).bind (mX ρ p.1) else .stuck
def C6{s:Option Sl}(h:kS s a=true):s=some (.pt a):=by
 unfold kS at h;split at h
 .rw[eq_of_beq h]
 .cases h
def A0(hN:X.N[i]?=some x)(hv:AH X.env.scope x)(he:DM X He η a e fm)(hk:DM X He η a b gm)
  (hd:(x==("__debug__" : US))=false:=by decide)(hcd:(x==("__classdict__" : US))=false:=by decide)
  (ha:∀v,assign (.Subscript (.Name x p1) b p2) X.env v=(do
   let ov ←WY [v] (eval (.Name x p1) X.env)
   let iv ←WY [v,ov] (eval b X.env)
   standAt p2
   WY [v,ov,iv] (setItem ov iv v)
   release [v,ov,iv] []):=by intro _;rfl)
  (hs:swapsWithSole [.Subscript (.Name x p1) b p2] e pos.line X.env=pure false:=by rfl) (hw:swappedStores [.Subscript (.Name x p1) b p2] e X.env=pure none:=by rfl)
  (h1:(assignEach [.Subscript (.Name x p1) b p2] X.env).map (·.2)=[assign (.Subscript (.Name x p1) b p2) X.env]:=by rfl) :
  SM X He η a (.Assign [.Subscript (.Name x p1) b p2] e pos) (zG i a fm gm):=by
 refine⟨?_⟩;refine bN (A5 he.o (GU (gH hN hv hd hcd) hk.o yR ha) hs hw h1) λD σ H z9=>?_;obtain⟨Ha,ρ,st,vs,h,q⟩:=z9;refine⟨Ha,ρ,st,vs,h,?_⟩
 unfold zG at q
 by_cases hp:kS ρ[i]? a=true
 .rw[if_pos hp] at q
  have hσ:=h.s.ex.2 i a (C6 hp);cases e1:fm ρ st with
  |stuck|exn x=>rw[e1] at q;exact q
  |ok pr =>
   obtain⟨d,s1⟩:=pr;rw[e1] at q;intro v H1 H01 us1 z1 h1' r1;refine⟨.ref a,hσ,H01,ρ,s1,us1,h1',?_⟩;replace q:dR X.K He η a Ha ((gm ρ s1).bind (mX ρ d)) D:=q;cases e2:gm ρ s1 with
   |stuck|exn x=>rw[e2] at q;exact q
   |ok pr2 =>
    obtain⟨j,s2⟩:=pr2;rw[e2] at q;intro u H2 H02 us2 z2 h2 r2;replace q:dR X.K He η a Ha (mX ρ d (j,s2)) D:=q;unfold mX at q;cases j with
    |int n =>
     cases en:AM s2.length n with
     |none=>simp only[en] at q;exact q.elim
     |some m =>
      simp only[en] at q;refine⟨a,us2,n,m,rfl,aC.mp r2,h2.hl,by rw[←h2.r.length];exact en,?_⟩;refine q σ _ H02 (us2.set m v) (z1.trans z2) (h2.change (H':=upd H2 a (.lst (us2.set m v))) ⟨λb o e=>?_,aG.refl _,λb o e=>?_,λb k1 k2=>absurd k2 k1⟩ h2.n0 aB (h2.r.set (r1.mono z2) m))
      .have c:b≠a:=by intro c;subst c;rw[eA] at e;cases e
       rw[aw c];rw[gI c] at e;exact e
      .have c:b≠a:=by intro c;subst c;rw[h2.n0] at e;cases e
       rw[aw c];exact h2.s.g.sub _ _ e
    |_=>exact q.elim
 .rw[if_neg hp] at q;exact q.elim
variable {CX:Cd}{k n:Nat}{fn:Uw}{fd:VZ}{ps:List US}{x:US}{p:Pos}
def K2(F:fZ X.prog X.w X.K X.mg X.base CX k fn fd ps (spD X.K n m))(hr:cW k X.A)(hg:Gl X x)(hm:X.mg x=some (.ref fn))
  (hk:WV X.K (.ref fn)=true)(hb:iL X.K fd ps [])(hx:gM CX X E)(ha:Lx X He η a (e::es) fa)(hn:(e::es).length=n:=by rfl)(hl:∀ρ st ds,fa ρ st=.ok ds->ds.1.length=(e::es).length)
  (hdb:(x==("__debug__" : US))=false:=by decide)(he:Uy (e::es) X.env=(false,eval e X.env)::Uy es X.env:=by exact aV rfl)(hpl:(VA pos (Uy es X.env)).any (·.1)=false:=by exact bL rfl) :
  DM X He η a (.Call (.Name x p) (e::es) [] pos) (mA fa m):=by
 refine⟨?_⟩;refine aZ (qR F hr hg hm hk hb .nil hx ha.o hdb he hpl) λσ H Q z9=>?_;obtain⟨Ha,ρ,st,vs,h,q⟩:=z9;refine⟨Ha,ρ,st,vs,h,?_⟩
 unfold mA at q;cases e1:fa ρ st with
 |stuck|exn x=>rw[e1] at q;exact q
 |ok pr =>
  obtain⟨ds,s1⟩:=pr;rw[e1] at q;intro xs H1 H01 us z1 h1 r1;refine⟨?_,H01,ds,h1.s.g.sub,by simpa using r1,?_⟩
  .have:=r1.length
   have:=hl ρ st _ e1;simp only[Vo] at *;omega
  .simp only[aj.bind] at q
   cases e2:m ds with
   |stuck=>rw[e2] at q;exact q|exn x=>rw[e2] at q;exact q.elim
   |ok d =>
    rw[e2] at q;exact λv' H' Ha' g rp=>q v' H' Ha' us (z1.trans g.z) (h1.back g.z (h1.s.grow g)) rp
noncomputable def AZ(K:Ut) (n:Nat) (m:Uw->List D->List D->aj (D×List D)):Sp:=λvs H Q E=>vs.length=n+1/\∃Ha ds a st us0 vs0,vs=.ref a::vs0/\aG Ha H/\Reps K Ha ds vs0/\Ha a=none/\H a=some (.lst us0)/\Reps K Ha st us0/\match m a st ds with
 |.ok (d,st')=>∀v H' Ha' us,bB (E5 a H) Ha H' Ha'->Ha' a=none->H' a=some (.lst us)->Reps K Ha' st' us->Rep K Ha' d v->Q v H'
 |.exn _=>False
 |.stuck=>False
noncomputable def BV(a:Uw) (m:Uw->List D->List D->aj (D×List D)) (p:List D×List D):aj (D×List D):=m a p.2 p.1
noncomputable def bx(i:Nat) (a:Uw) (fa:Ev->List D->aj (List D×List D)) (m:Uw->List D->List D->aj (D×List D)):Ev->List D->aj (D×List D):=λρ st=>if kS ρ[i]? a=true then(fa ρ st).bind (BV a m) else .stuck
def Ik(F:fZ X.prog X.w X.K X.mg X.base CX k fn fd ps (AZ X.K n m))(hr:cW k X.A)(hg:Gl X x)(hm:X.mg x=some (.ref fn))
  (hk:WV X.K (.ref fn)=true)(hb:iL X.K fd ps [])(hx:gM CX X E)(hN:X.N[i]?=some y)(hv:AH X.env.scope y)(ha:Lx X He η a es fa)(hl:∀ρ st ds,fa ρ st=.ok ds->ds.1.length=n)
  (hd:(y==("__debug__" : US))=false:=by decide)(hcd:(y==("__classdict__" : US))=false:=by decide)(hdb:(x==("__debug__" : US))=false:=by decide)(he:Uy (.Name y p1::es) X.env=(false,eval (.Name y p1) X.env)::Uy es X.env:=by exact aV rfl)(hpl:(VA pos (Uy es X.env)).any (·.1)=false:=by exact bL rfl) :
  DM X He η a (.Call (.Name x p) (.Name y p1::es) [] pos) (bx i a fa m):=by
 refine⟨?_⟩;refine aZ (qR F hr hg hm hk hb .nil hx (c9 (gH hN hv hd hcd) ha.o he) hdb he hpl) λσ H Q ⟨Ha,ρ,st,vs,h,q⟩=>?_;unfold bx at q
 by_cases hp:kS ρ[i]? a=true
 .rw[if_pos hp] at q
  have hσ:=h.s.ex.2 i a (C6 hp);refine⟨.ref a,hσ,Ha,ρ,st,vs,h,?_⟩;cases e1:fa ρ st with
  |stuck|exn x=>rw[e1] at q;exact q
  |ok pr =>
   obtain⟨ds,s1⟩:=pr;rw[e1] at q;intro xs H1 H01 us z1 h1 r1;refine⟨?_,H01,ds,a,s1,us,xs,by simp,h1.s.g.sub,r1,h1.n0,h1.hl,h1.r,?_⟩
   .have:=r1.length
    have:=hl ρ st _ e1;simp only[Vo,U6] at *;omega
   .replace q:match m a s1 ds with
     |.ok (d,st')=>∀v H' Ha' us,aG Ha Ha'->gZ X.K He η Ha' σ H' ρ a st' us->Rep X.K Ha' d v->Q v H'
     |.exn _=>False
     |.stuck=>False:=q
    cases e2:m a s1 ds with
    |stuck|exn x=>rw[e2] at q;exact q
    |ok pr2 =>
     obtain⟨d,s2⟩:=pr2;rw[e2] at q;exact λv H' Ha' us' g n' hl' r' rp=>q v H' Ha' us' (z1.trans g.z) (h1.change g n' hl' r') rp
 .rw[if_neg hp] at q;exact q.elim
end
noncomputable def yU(r:cZ):aj (D×List D):=match r with
 |.nx _ st=>.ok (.non,st)
 |.rt d st=>.ok (d,st)
 |_=>.stuck
noncomputable def mq(n:Nat) (s:Uw->Ev->List D->aj cZ) (a:Uw) (st ds:List D):aj (D×List D):=(s a (.pt a::ds.map Sl.sh++UK (n-(ds.length+1)) .no) st).bind yU
def By{K:Ut}{st:V0}{N ps:List US}{k n:Nat}(F:Fy K x qual st f fd)(S:eY N ps (defScope st))(hn:ps.length=n+1)
  (hbody:∀(cdv:Us) (A:Vw) (outer:List VP) (s0:UE) (H He Ha:Hp) (a:Uw) (E:XK),cW k (A.deeper (envOfC qual (defScope st) s0.heap.objs.size f cdv)) ->
   Jm (dW CX0 P w K mg base N qual (defScope st) f cdv A outer s0 H E).nox He Ha a (defBody st) (s a)):fZ P w K mg base CX0 (k+1) f fd ps (AZ K n (mq N.length s)):=by
 have hpl:ps.length<=N.length:=by have:=congrArg Xq S.pre;rw[Vn] at this;omega
 refine F.ok S (λvs H Q E h=>h.1.trans hn.symm) λcdv A outer s0 H vs Q E hr h=>?_;obtain⟨hlen,Ha,ds,a,sl,us0,vs0,rfl,hs,hv,h0,hl,hst,q⟩:=h;have lv:=hv.length;have hσ:start N (.ref a::vs0)=some (.ref a)::(vs0.map some++UK (N.length-(vs0.length+1)) none):=by
  unfold L2.start;simp
 have hρ0:∀(i:Nat) (z:Sl),(Sl.pt a::ds.map Sl.sh++UK (N.length-(ds.length+1)) Sl.no)[i]?=some z->z=.no∨(i=0/\z=.pt a)∨∃j d,i=j+1/\ds[j]?=some d/\z=.sh d:=λi z e=>by
  cases i with
  |zero=>simp at e;exact .inr (.inl ⟨rfl,e.symm⟩)
  |succ j =>
   rw[Ws,Vv] at e
   by_cases hj:j<ds.length
   .rw[UQ (by simpa using hj),UL,UB hj] at e
    cases e;exact .inr (.inr ⟨j,ds[j],rfl,UB hj,rfl⟩)
   .rw[UZ (by simpa using hj),U7] at e
    split at e
    .cases e;exact .inl rfl
    .cases e
 refine⟨_,(hbody cdv A outer s0 H (E5 a H) Ha a E hr).o,Ha,.pt a::ds.map Sl.sh++UK (N.length-(ds.length+1)) .no,sl,us0,⟨eA,h0,hl,hst,?_⟩,?_⟩
 .refine⟨⟨λb o e=>?_,aG.refl _,hs,λb h1 h2=>absurd h2 h1⟩,λi d e=>?_,λi d e=>?_,λi j d d' hij e=>?_,?_,⟨λi j es e=>?_,λi b e=>?_⟩⟩
  .by_cases c:b=a
   .subst c;rw[aB] at e;cases e;exact hl
   .rw[aw c,gI c] at e;exact e
  .rcases hρ0 i _ e with h|⟨_,h⟩|⟨j,d',rfl,hd,h⟩
   .cases h
   .cases h
   .cases h
    obtain⟨v,h1,h2⟩:=hv.get hd;refine⟨v,?_,h2⟩;rw[hσ,Vv,UQ (by rw[Uv];exact(UA.mp h1).1),UL,h1];rfl
  .rcases hρ0 i _ e with h|⟨_,h⟩|⟨j,d',rfl,hd,h⟩<;>cases h
  .rcases hρ0 i _ e with h|⟨_,h⟩|⟨j,d',rfl,hd,h⟩<;>cases h
  .rw[hσ]
   simp only[U6,Vt,Uv,Vu];omega
  .rcases hρ0 i _ e with h|⟨_,h⟩|⟨j,d',rfl,hd,h⟩<;>cases h
  .rcases hρ0 i _ e with h|⟨rfl,h⟩|⟨j,d',rfl,hd,h⟩
   .cases h
   .cases h;rw[hσ];rfl
   .cases h
 .unfold mq at q
  cases e1:s a (.pt a::ds.map Sl.sh++UK (N.length-(ds.length+1)) .no) sl with
  |stuck|exn x=>rw[e1] at q;exact q
  |ok r =>
   rw[e1] at q;cases r with
   |nx ρ' st'=>exact λσ' H' Ha' us z h'=>q .non H' Ha' us ⟨λb o e=>h'.s.g.s _ _ (by rw[aw (by intro c;subst c;rw[eA] at e;cases e)];exact e),h'.s.g.z,h'.s.g.sub,λb h1 h2=>by
      have:=h'.s.g.nw b h1 h2
      by_cases c:b=a
      .subst c;exact eA
      .rw[aw c] at this;exact this⟩ h'.n0 h'.hl h'.r (aY.mpr rfl)
   |rt d st'=>exact λv H' Ha' z o rp=>let ⟨us,l1,l2⟩:=o.l;q v H' Ha' us o.g o.n l1 l2 rp
   |bk ρ' st'|ct ρ' st'=>exact q.elim
section
variable {K:Ut}{He η Ha H:Hp}{σ:L2.St}{ρ:Ev}
def dD.enter(h:dD K He η Ha σ H ρ)(hi:i<ρ.length)(he:He p=none)(h0:Ha p=none)(hl:H p=some (.lst vs))(r:Reps K Ha ds vs)
  (ho:∀(j:Nat) (d:D) (q:Uw),ρ[j]?=some (.ow d)->σ[j]?=some (some (.ref q))->q≠p)(hx:∀(j k:Nat) (es:List D),ρ[j]?≠some (.ox k es)):gZ K He η Ha (σ.set i (some (.ref p))) H (ρ.set i (.pt p)) p ds vs:=by
 have key:∀(j:Nat) (s:Sl),(ρ.set i (.pt p))[j]?=some s->(j=i/\s=.pt p)∨(j≠i/\ρ[j]?=some s):=λj s e=>by
  by_cases hj:i=j
  .subst hj;rw[U2 hi] at e;cases e;exact .inl ⟨rfl,rfl⟩
  .rw[Uz hj] at e;exact .inr ⟨λz=>hj z.symm,e⟩
 have h0e:η p=none:=h.g.z.free h0;refine⟨he,h0e,hl,r,⟨⟨λb o e=>?_,h.g.z,h.g.sub,λb h1 h2=>?_⟩,λj d e=>?_,λj d e=>?_,λj k d d' hn e1 e2=>?_,by simp [h.ln],⟨λj k es e=>?_,λj b e=>?_⟩⟩⟩
 .by_cases c:b=p
  .subst c;rw[aB] at e;cases e;exact hl
  .rw[aw c] at e;exact h.g.s _ _ e
 .have c:b≠p:=by intro c;subst c;exact h1 h0
  rw[aw c];exact h.g.nw b h1 h2
 .rcases key j _ e with⟨_,e'⟩|⟨hj,e'⟩
  .cases e'
  .obtain⟨v,h1,h2⟩:=h.rd j d e'
   exact⟨v,by rw[Uz (Vh hj)];exact h1,h2⟩
 .rcases key j _ e with⟨_,e'⟩|⟨hj,e'⟩
  .cases e'
  .obtain⟨q,h1,h2,h3,h4⟩:=h.ow j d e'
   exact⟨q,by rw[Uz (Vh hj)];exact h1,by rw[aw (ho j d q e' h1)];exact h2,h3,h4⟩
 .rcases key j _ e1 with⟨_,e'⟩|⟨hj,e1'⟩
  .cases e'
  rcases key k _ e2 with⟨_,e'⟩|⟨hk,e2'⟩
  .cases e'
  rw[Uz (Vh hj),Uz (Vh hk)];exact h.ap j k d d' hn e1' e2'
 .rcases key j _ e with⟨_,e'⟩|⟨hj,e'⟩
  .cases e'
  .exact absurd e' (hx j k es)
 .rcases key j _ e with⟨rfl,e'⟩|⟨hj,e'⟩
  .cases e'
   rw[U2 (by rw[←h.ln];exact hi)]
  .rw[Uz (Vh hj)];exact h.ex.2 j b e'
def yc(i:Nat)(ρ:Ev):Ev:=ρ.take i++UK (ρ.length-i) .no
def IC:(yc i ρ).length=ρ.length:=by
 unfold yc;rw[Vt,Vn,Vu];omega
def Lg{j:Nat}(e:(yc i ρ)[j]?=some s):s=.no∨ρ[j]?=some s:=by
 unfold yc at e
 by_cases hj:j<(ρ.take i).length
 .rw[UQ hj] at e
  rw[List.getElem?_take] at e;split at e
  .exact .inr e
  .cases e
 .rw[UZ (by omega),U7] at e
  split at e
  .cases e;exact .inl rfl
  .cases e
def gZ.leave{st:List D}(h:gZ K He η Ha σ H ρ a st vs)(i:Nat):dD K He η Ha σ H (yc i ρ):=by
 have hn:∀b,upd He a (.lst vs) b=none->He b=none:=λb e=>by
  by_cases c:b=a
  .subst c;exact h.ha
  .rw[aw c] at e;exact e
 have key:∀(j:Nat) (s:Sl),(yc i ρ)[j]?=some s->s=.no∨ρ[j]?=some s:=λj s e=>Lg e;refine⟨⟨λb o e=>h.s.g.s _ _ (by rw[aw (by intro c;subst c;rw[h.ha] at e;cases e)];exact e),h.s.g.z,h.s.g.sub,λb h1 h2=>hn b (h.s.g.nw b h1 h2)⟩,λj d e=>?_,λj d e=>?_,λj k d d' hij e1 e2=>?_,by rw[IC];exact h.s.ln,(h.s.ex.he hn).upd (λj s e=>?_) (aG.refl _) (λ_ _ _ e=>e) λp us _ q0 hq _=>⟨hq,q0⟩⟩
 .rcases key j _ e with h'|h'
  .cases h'
  .exact h.s.rd j d h'
 .rcases key j _ e with h'|h'
  .cases h'
  .obtain⟨q,h1,h2,h3⟩:=h.s.ow j d h'
   exact⟨q,h1,hn q h2,h3⟩
 .rcases key j _ e1 with h'|h'
  .cases h'
  rcases key k _ e2 with h''|h''
  .cases h''
  exact h.s.ap j k d d' hij h' h''
 .rcases key j _ e with h'|h'
  .exact .inr (.inr (.inl h'))
  .exact .inl ⟨h',rfl⟩
end
open Classical in
noncomputable def Bq(F:Uw->aj Fl):aj Fl:=if h:∃r,∀a,F a=r then h.choose else .stuck
def Ky(h:∀a,F a=r):Bq F=r:=by
 have hx:∃r,∀a,F a=r:=⟨r,h⟩
 unfold Bq;rw[dif_pos hx];exact(hx.choose_spec 0).symm.trans (h 0)
def Kx(h:Bq F≠.stuck)(a:Uw):F a=Bq F:=by
 unfold Bq at h ⊢
 by_cases hx:∃r,∀a,F a=r
 .rw[dif_pos hx];exact hx.choose_spec a
 .rw[dif_neg hx] at h;exact absurd rfl h
noncomputable def Dk(i:Nat) (r:aj cZ):aj Fl:=match r with
 |.ok (.nx ρ _)=>.ok (.nx (yc i ρ))
 |.ok (.rt d _)=>.ok (.rt d)
 |.ok (.bk ρ _)=>.ok (.bk (yc i ρ))
 |.ok (.ct ρ _)=>.ok (.ct (yc i ρ))
 |_=>.stuck
def P9(ρ:Ev):Bool:=ρ.all λs=>match s with
 |.ox _ _=>false
 |_=>true
noncomputable def xO(i:Nat) (s:Uw->Ev->List D->aj cZ) (ρ:Ev) (d:D):aj Fl:=match d with
 |.lst ds=>if P9 ρ=true/\i<ρ.length then Bq λa=>Dk i (s a (ρ.set i (.pt a)) ds) else .stuck
 |_=>.stuck
noncomputable def mn(i:Nat) (f:Ev->aj D) (s:Uw->Ev->List D->aj cZ):Ev->aj Fl:=λρ=>(f ρ).bind (xO i s ρ)
section
variable {X:Cx}{E:XK}{He η:Hp}{st:V0}{rest:List V0}{e:Vk}{es:List Vk}{pos:Pos}{f:Ev->aj D}{s:Uw->Ev->List D->aj cZ}
def E6(hN:X.N.Nodup)(hi:X.N[i]?=some x)(hx:Fx X.env.scope x)(he:DF X E e f)(hr:∀a,Jm X He η a rest (s a))(hs:Vz e (some (.Name x pos')) pos.line X.env=pure false:=by rfl)
  (hf:X.fn x=true∨X.env.scope.names.lookup x=some .local := by first|exact .inl rfl|exact .inr rfl|assumption):AQ X E He η (.Assign [.Name x pos'] e pos::rest) (mn i f s):=by
 refine⟨?_⟩;have h2:wK X rest λG σ H=>∃p,RC X.K He η p (s p) G σ H:=λπ sh σ H G I ⟨p,h⟩=>(hr p).o π sh σ H G I h;refine eT (gA (mv hN hi hx he.o hs hf) h2) λG σ H z9=>?_;obtain⟨Ha,ρ,h,q⟩:=z9;refine⟨Ha,ρ,h.g.sub,h.rd,?_⟩
 unfold mn at q;cases e1:f ρ with
 |stuck=>rw[e1] at q;exact q|exn x=>rw[e1] at q;exact λC ox H' Ha' g ex=>q C ox H' Ha' (h.g.trans g) ex
 |ok d =>
  rw[e1] at q;replace q:b5 X.K E He η Ha (xO i s ρ d) G:=q;unfold xO at q;cases d with
  |lst ds =>
   simp only at q
   by_cases hc:P9 ρ=true/\i<ρ.length
   .rw[if_pos hc] at q
    intro p vs H' Ha' g hp h0 hv rp;have hg:=h.grow g;have hnx:∀(j k:Nat) (es:List D),ρ[j]?≠some (.ox k es):=λj k es e=>by
     have:=Vc.mp hc.1 _ (UN e);cases this
    have hm:=hg.enter (i:=i) (p:=p) (ds:=ds) (vs:=vs) hc.2 (h.g.s.free hp) h0 hv rp (λj d q' ej es'=>by
     obtain⟨q2,k1,_,_,k4⟩:=h.ow j d ej;rw[es'] at k1;cases k1;cases d with
     |lst ds'|dic ks' ds'=>obtain⟨ws,k5,_⟩:=k4;intro c;subst c;rw[hp] at k5;cases k5
     |_=>exact k4.elim) hnx
    have hns:Bq (λa=>Dk i (s a (ρ.set i (.pt a)) ds))≠.stuck:=λz=>by rw[z] at q;exact q
    have hF:=Kx hns p;rw[←hF] at q;refine⟨p,Ha',_,ds,vs,hm,?_⟩;replace q:=b5.grow q g.z;unfold Dk at q;cases e2:s p (ρ.set i (.pt p)) ds with
    |stuck=>rw[e2] at q;exact q|exn x=>rw[e2] at q;exact q.elim
    |ok r =>
     rw[e2] at q;cases r with|nx ρ' st'=>exact λσ' H2 H02 us z h'=>q σ' H2 H02 z (h'.leave i)|rt d st'=>exact λv H2 H02 z o rp=>q v H2 H02 o.g rp|bk ρ' st'=>exact λσ' H2 H02 us z h'=>q σ' H2 H02 z (h'.leave i)|ct ρ' st'=>exact λσ' H2 H02 us z h'=>q σ' H2 H02 z (h'.leave i)
   .rw[if_neg hc] at q;exact q.elim
  |_=>exact q.elim
end
noncomputable def TY(K:Ut) (He η:Hp) (a:Uw) (src:Ev->List D->aj (List D×List D)):TI:=λσ H R=>∃Ha ρ st vs,gZ K He η Ha σ H ρ a st vs/\match src ρ st with
 |.ok (ds,st')=>∀J H' Ha' us,aG Ha Ha'->gZ K He η Ha' σ H' ρ a st' us->Ou K ds J Ha'->R J H'
 |.exn _=>False
 |.stuck=>False
structure MI (X:Cx) (He η:Hp) (a:Uw) (tg iter:Vk) (src:Ev->List D->aj (List D×List D)):Prop where
 o:PI X tg iter (TY X.K He η a src)
noncomputable def m8(src:Ev->aj (List D)):Ev->List D->aj (List D×List D):=λρ st=>(src ρ).bind λds=>.ok (ds,st)
noncomputable def xw(p:D×List D):aj (List D×List D):=match p.1 with
 |.int j=>if -4611686018427387904<=j/\j<4611686018427387904 then .ok (intsFrom 0 j.toNat,p.2) else .stuck
 |_=>.stuck
noncomputable def CT(f:Ev->List D->aj (D×List D)):Ev->List D->aj (List D×List D):=λρ st=>(f ρ st).bind xw
section
variable {X:Cx}{E:XK}{He η:Hp}{a:Uw}{st:V0}{e l b tgt iter:Vk}{rest es:List Vk}{pos:Pos}{f:Ev->aj D}{fm gm:Ev->List D->aj (D×List D)}{fa:Ev->List D->aj (List D×List D)}{s t:Ev->List D->aj cZ}
def iR(h:DI X E tgt iter src):MI X He η a tgt iter (m8 src):=⟨lH h.o λσ H R ⟨Ha,ρ,st,vs,h,q⟩=>⟨Ha,ρ,h.s.g.sub,h.s.rd,by
 unfold m8 at q;cases e1:src ρ with
 |stuck=>rw[e1] at q;exact q|exn x=>rw[e1] at q;exact q.elim
 |ok ds =>
  rw[e1] at q;exact λJ H' Ha' g it=>q J H' Ha' vs g.z (h.back g.z (h.s.grow g)) it⟩⟩
def EJ(hgl:Gl X "range")(hm:X.mg "range"=none)(hi:DM X He η a iter fm)(hst:Uy [iter] X.env=[(false,eval iter X.env)]:=by exact ie rfl):MI X He η a tgt (.Call (.Name "range" p) [iter] [] pos2) (CT fm):=by
 refine⟨lH (oZ hgl hm (c9 hi.o fV hst) hst) λσ H R z9=>?_⟩;obtain⟨Ha,ρ,st,vs,h,q⟩:=z9;refine⟨Ha,ρ,st,vs,h,?_⟩;unfold CT at q;cases e1:fm ρ st with
 |stuck|exn x=>rw[e1] at q;exact q
 |ok pr =>
  obtain⟨d,s1⟩:=pr;rw[e1] at q;intro v H1 H01 us z h1 r1;cases d with
  |int j =>
   rw[aC.mp r1];replace q:match (if -4611686018427387904<=j/\j<4611686018427387904 then aj.ok (intsFrom 0 j.toNat,s1) else .stuck) with
    |.ok (ds,st')=>∀J H' Ha' us,aG Ha Ha'->gZ X.K He η Ha' σ H' ρ a st' us->Ou X.K ds J Ha'->R J H'
    |.exn _=>False
    |.stuck=>False:=q
   by_cases hj:-4611686018427387904<=j/\j<4611686018427387904
   .rw[if_pos hj] at q
    exact⟨j,rfl,hj.1,hj.2,q _ H1 H01 us z h1 v7⟩
   .rw[if_neg hj] at q;exact q.elim
  |_=>exact q.elim
def oA.step2{K:Ut}{st:List D}(z:aG Hb Ha)(h:gZ K He η Ha σ H ρ a st vs)(q:dR K He η a Ha (forM tg s (ds.drop i) ρ st) D')(hd:ds[i]?=some d)(rv:Rep K Ha d v)
  (he:∀ρ,tg ρ d=.stuck∨∃ρ',tg ρ d=.ok ρ') :
  Sa K He η a tg v σ H λσ2 H2=>RC K He η a s { D' with nx:=oA K He η a Hb tg s ds D' (i+1),ct:=oA K He η a Hb tg s ds D' (i+1),bk:=D'.nx } σ2 H2:=by
 have hi:i<ds.length:=(UA.mp hd).1;have hdr:ds.drop i=d::ds.drop (i+1):=by
  rw[Vm hi];rw[UB hi] at hd;cases hd;rfl
 rw[hdr] at q;refine⟨Ha,ρ,st,vs,d,h,rv,?_⟩;unfold forM at q;rcases he ρ with e1|⟨ρ1,e1⟩
 .rw[e1] at q;exact q.elim
 .rw[e1] at q ⊢
  intro σ' H' Ha' z' h';refine⟨Ha',ρ1,st,vs,h',?_⟩;replace q:=dR.grow (r:=(s ρ1 st).bind λx=>match x with
   |.nx ρ2 s2=>forM tg s (ds.drop (i+1)) ρ2 s2
   |.ct ρ2 s2=>forM tg s (ds.drop (i+1)) ρ2 s2
   |.bk ρ2 s2=>.ok (.nx ρ2 s2)
   |.rt d s=>.ok (.rt d s)) q z'
  cases e2:s ρ1 st with
  |stuck|exn x=>rw[e2] at q;exact q
  |ok r =>
   rw[e2] at q;cases r with|nx ρ2 s2=>exact λσ3 H3 H03 vs3 z3 h3=>⟨H03,ρ2,s2,vs3,(z.trans z').trans z3,h3,dR.grow (r:=forM tg s (ds.drop (i+1)) ρ2 s2) q z3⟩|ct ρ2 s2=>exact λσ3 H3 H03 vs3 z3 h3=>⟨H03,ρ2,s2,vs3,(z.trans z').trans z3,h3,dR.grow (r:=forM tg s (ds.drop (i+1)) ρ2 s2) q z3⟩|bk ρ2 s2|rt d s2=>exact q
noncomputable def iT(src:Ev->List D->aj (List D×List D)) (tg:Ev->D->aj Ev) (s:Ev->List D->aj cZ):Ev->List D->aj cZ:=λρ st=>(src ρ st).bind λp=>forM tg s p.1 ρ p.2
def iP(hp:PassesOwn (UM X.prog X.w) X.A X.env X.xe)(hc:X.calm=true)(hi:MI X He η a tgt iter src)(hg:∀vs,DG X E (upd He a (.lst vs)) η tgt tg)(ht:wI tg)(hb:Jm X He η a body s)
  (hs:∀x,foldedSetIterable iter X.env x=pure x:=by intro _;rfl):SM X He η a (.For tgt iter body [] pos) (iT src tg s):=by
 refine⟨bN (xf hp hc hi.o (PY hg) hb.o hs) λD' σ H z9=>?_⟩;obtain⟨Ha,ρ,st,vs,h,q⟩:=z9;refine⟨Ha,ρ,st,vs,h,?_⟩;unfold iT at q;cases e1:src ρ st with
 |stuck|exn x=>rw[e1] at q;exact q
 |ok pr =>
  obtain⟨ds,s1⟩:=pr;rw[e1] at q;intro J H1 H01 us z h1 it;have q1:dR X.K He η a H01 (forM tg s ds ρ s1) D':=dR.grow (r:=forM tg s ds ρ s1) q z;refine⟨λi m σ' H'=>m+i=ds.length/\oA X.K He η a H01 tg s ds D' i σ' H',⟨ds.length,rfl,H01,ρ,s1,us,aG.refl _,h1,q1⟩,?_⟩;rintro i m σ' H' ⟨hm,Ha',ρ',st',vs',z',h',hq⟩
  by_cases hlt:i<ds.length
  .refine .inr ⟨it.go i H' Ha' z' h'.s.g.sub hlt,λσ2 H2=>oA X.K He η a H01 tg s ds D' (i+1) σ2 H2,λσ2 H2 hl=>⟨m-1,by omega,by omega,hl⟩,λx H2 hy=>?_⟩
   obtain⟨H₀2,g2,rp⟩:=it.yld i H' Ha' x H2 ds[i] z' h'.s.g.sub (UB hlt) hy;exact oA.step2 (z'.trans g2.z) (h'.back g2.z (h'.s.grow g2)) (dR.grow (r:=forM tg s (ds.drop i) ρ' st') hq g2.z) (UB hlt) rp λρ=>ht ρ _
  .have e:i=ds.length:=by omega
   refine .inl ⟨it.stop i H' Ha' z' h'.s.g.sub (by omega),?_⟩;subst e;exact oA.done ⟨Ha',ρ',st',vs',z',h',hq⟩
def NX:gF X E (λxs H1 Q=>xs.length<=sizeLine/\∀p,H1 p=none->Q (.ref p) (upd H1 p (.tup xs))) dO:=λds vs H Ha Q hs hr q=>by
 unfold dO at q
 by_cases hl:ds.length<=line
 .rw[if_pos hl] at q
  refine⟨by rw[←hr.length];exact cG hl,λp hp=>q _ _ _ (aO hs hp) (aN.mpr ⟨p,vs,rfl,kn.of aB,hr.mono (aO hs hp).z⟩)⟩
 .rw[if_neg hl] at q;exact q.elim
def N0:gF X E (λxs H1 Q=>xs.length<=sizeLine/\∀p,H1 p=none->Q (.ref p) (upd H1 p (.lst xs))) bJ:=λds vs H Ha Q hs hr q=>by
 unfold bJ at q
 by_cases hl:ds.length<=line
 .rw[if_pos hl] at q
  refine⟨by rw[←hr.length];exact cG hl,λp hp=>q _ _ _ (aO hs hp) (aI.mpr ⟨p,vs,rfl,eX.of aB,hr.mono (aO hs hp).z⟩)⟩
 .rw[if_neg hl] at q;exact q.elim
def xX{x1}(h:Lx X He η a es fa):DM X He η a (.Tuple es x1 pos) (mA fa dO):=⟨aZ (A9 h.o) (vj (E:=λ_ _ _=>True) NX)⟩
def NL(h:Lx X He η a es fa):DM X He η a (.List es pos) (mA fa bJ):=⟨aZ (Ba h.o) (vj (E:=λ_ _ _=>True) N0)⟩
end
noncomputable def MF(s:Option Sl):Sl:=match s with
 |some (.sh d)=>.sh d
 |some (.pt b)=>.pt b
 |_=>.no
noncomputable def fS(n:Nat) (fr:List Nat) (ρ:Ev):Ev:=UK n .no++fr.map λ(i:Nat)=>MF ρ[i]?
noncomputable def jF(b:Ev) (tg:Ev->D->aj Ev) (fm:Ev->List D->aj (D×List D)):List D->List D->aj (List D×List D)
 |[],st=>.ok ([],st)
 |d::r,st=>(tg b d).bind λρ1=>(fm ρ1 st).bind λp=>(jF b tg fm r p.2).bind λq=>.ok (p.1::q.1,q.2)
noncomputable def uV(b:Ev) (tg:Ev->D->aj Ev) (fm:Ev->List D->aj (D×List D)) (p:List D×List D):aj (D×List D):=if p.1.length<=line then(jF b tg fm p.1 p.2).bind λq=>.ok (.lst q.1,q.2) else .stuck
noncomputable def p8(n:Nat) (fr:List Nat) (src:Ev->List D->aj (List D×List D)) (tg:Ev->D->aj Ev) (fm:Ev->List D->aj (D×List D)):Ev->List D->aj (D×List D):=λρ st=>(src ρ st).bind (uV (fS n fr ρ) tg fm)
def Fp{fr:List Nat}:(fS n fr ρ).length=n+fr.length:=by unfold fS;simp
def vb{fr:List Nat}{k:Nat}(h:k<n):(fS n fr ρ)[k]?=some .no:=by
 unfold fS;rw[UQ (by simpa using h),U7,if_pos h]
def vc{fr:List Nat}{k:Nat}(h:¬k<n)(e:(fS n fr ρ)[k]?=some s):∃j,fr[k-n]?=some j/\s=MF ρ[j]?:=by
 unfold fS at e;rw[UZ (by simpa using h),Vu,UL] at e;cases hf:fr[k-n]? with|none=>rw[hf] at e;cases e|some j=>rw[hf] at e;cases e;exact⟨j,rfl,rfl⟩
def MD(h:Sl.sh d=MF s):s=some (.sh d):=by
 unfold MF at h;split at h<;>cases h
 rfl
def ME(h:Sl.pt b=MF s):s=some (.pt b):=by
 unfold MF at h;split at h<;>cases h
 rfl
def IJ{fr:List Nat}{k j:Nat}(h:¬k<n)(hf:fr[k-n]?=some j)(hs:σ[j]?=some (some v)):(km n fr σ)[k]?=some (some v):=by
 unfold km;rw[UZ (by simpa using h),Vu,UL,hf];simp [hs]
def wL{K:Ut}{st:List D}(ha:He a=none)(h0:η a=none)(hl:H a=some (.lst vs))(r:Reps K Ha st vs)(g:bB (upd He a (.lst vs)) η H Ha)(rd:Reads K Ha σ ρ)
  (no:∀(j:Nat) (s:Sl),ρ[j]?=some s->s=.no∨(∃d,s=.sh d)∨∃b,s=.pt b/\σ[j]?=some (some (.ref b)))(ln:ρ.length=σ.length):gZ K He η Ha σ H ρ a st vs:=by
 refine⟨ha,h0,hl,r,⟨g,rd,λi d e=>?_,λi j d d' _ e=>?_,ln,OX.none (λi j ds e=>?_) λi b e=>?_⟩⟩
 .rcases no i _ e with h|⟨_,h⟩|⟨_,h,_⟩<;>cases h
 .rcases no i _ e with h|⟨_,h⟩|⟨_,h,_⟩<;>cases h
 .rcases no i _ e with h|⟨_,h⟩|⟨_,h,_⟩<;>cases h
 .rcases no i _ e with h|⟨_,h⟩|⟨_,h,h'⟩
  .cases h
  .cases h
  .cases h;exact h'
noncomputable def HA(K:Ut) (a:Uw) (tg:Ev->D->aj Ev):TG:=λv σ H Q=>∃He η,Sa K He η a tg v σ H Q
noncomputable def Gb(K:Ut) (a:Uw) (fm:Ev->List D->aj (D×List D)):TE:=λσ H Q=>∃He η,tM K He η a fm σ H Q
def BS{r st es stF:List D}(h:jF b tg fm (d::r) st=.ok (es,stF)):∃ρ1 y s1 rest,tg b d=.ok ρ1/\fm ρ1 st=.ok (y,s1)/\jF b tg fm r s1=.ok (rest,stF)/\es=y::rest:=by
 unfold jF at h;cases e1:tg b d with
 |stuck|exn x=>rw[e1] at h;cases h
 |ok ρ1 =>
  rw[e1] at h;simp only[aj.bind] at h;cases e2:fm ρ1 st with
  |stuck|exn x=>rw[e2] at h;cases h
  |ok p =>
   obtain⟨y,s1⟩:=p;rw[e2] at h;simp only at h;cases e3:jF b tg fm r s1 with
   |stuck|exn x=>rw[e3] at h;cases h
   |ok q =>
    obtain⟨rest,sF⟩:=q;rw[e3] at h;cases h;exact⟨ρ1,y,s1,rest,rfl,e2,e3,rfl⟩
def Az{K:Ut}{fr:List Nat}(h1:gZ K He η H01 σ H1 ρ a st0 us0)(it:Ou K ds J H01)(hl:ds.length<=line)
  (e2:jF (fS n fr ρ) tg fm ds st0=.ok (es,stF))(hok:B8 n tg)
  (q:∀p xs H' Ha' us',bB (E5 a H1) H01 H' Ha'->Ha' a=none->H' a=some (.lst us')->Reps K Ha' stF us'->H1 p=none->Ha' p=none->H' p=some (.lst xs)->Reps K Ha' es xs->Q (.ref p) H') :
  rR n fr (HA K a tg) Ga (Gb K a fm) J σ H1 Q:=by
 intro Da hDa;have h0D:H01 Da=none:=h1.s.g.sub.free hDa;have aD:a≠Da:=λz=>by have:=h1.hl;rw[z,hDa] at this;cases this
 have nob:∀{σ':L2.St}(_:∀(k:Nat),¬k<n->∀b,(fS n fr ρ)[k]?=some (.pt b)->σ'[k]?=some (some (.ref b))) (j:Nat) (s:Sl),(fS n fr ρ)[j]?=some s->s=.no∨(∃d,s=.sh d)∨∃b,s=.pt b/\σ'[j]?=some (some (.ref b)):=λ{σ'} hp j s e=>by
  by_cases hj:j<n
  .rw[vb hj] at e;cases e;exact .inl rfl
  .obtain⟨i,_,hs⟩:=vc hj e
   cases s with
   |no=>exact .inl rfl|sh d=>exact .inr (.inl ⟨d,rfl⟩)|pt b=>exact .inr (.inr ⟨b,rfl,hp j hj b e⟩)
   |_=>unfold MF at hs;split at hs<;>cases hs
 refine⟨λi m ys σ' H'=>m=ds.length-i/\i<=ds.length/\∃Ha' st' us' es1 rest,gZ K (upd (E5 a H1) Da (.lst ys)) H01 Ha' σ' H' (fS n fr ρ) a st' us'/\Reps K Ha' es1 ys/\es1.length=i/\jF (fS n fr ρ) tg fm (ds.drop i) st'=.ok (rest,stF)/\es=es1++rest,
  ⟨ds.length,by simp,V6 _,H01,st0,us0,[],es,?_,Reps.nil,rfl,by rw[Wl];exact e2,rfl⟩,?_⟩
 .refine wL (by rw[aw aD];exact eA) h1.n0 (by rw[aw aD];exact h1.hl) h1.r ⟨λb o e=>?_,aG.refl _,λb o e=>?_,λb k1 k2=>absurd k2 k1⟩ (λk d e=>?_) (nob λk hk b e=>?_) (by unfold km;rw[Fp];simp)
  .by_cases c:b=a
   .subst c;rw[aB] at e;cases e;rw[aw aD];exact h1.hl
   .rw[aw c] at e
    by_cases c2:b=Da
    .subst c2;rw[aB] at e ⊢;exact e
    .rw[aw c2] at e ⊢;rw[gI c] at e;exact e
  .rw[aw (by intro z;subst z;rw[h0D] at e;cases e)];exact h1.s.g.sub _ _ e
  .by_cases hk:k<n
   .rw[vb hk] at e;cases e
   .obtain⟨j,hf,hs⟩:=vc hk e
    obtain⟨v,k1,k2⟩:=h1.s.rd j d (MD hs);exact⟨v,IJ hk hf k1,k2⟩
  .obtain⟨j,hf,hs⟩:=vc hk e
   exact IJ hk hf (h1.s.ex.2 j b (ME hs))
 .rintro i m ys σ' H' ⟨rfl,hile,Ha',st',us',es1,rest,h',hys,hle,hco,hes⟩
  have hDl:H' Da=some (.lst ys):=h'.s.g.s _ _ (by rw[aw (Vh aD),aB]);refine⟨hDl,?_⟩
  by_cases hlt:i<ds.length
  .refine .inr ⟨it.go i H' Ha' h'.s.g.z h'.s.g.sub hlt,?_,?_⟩
   .rw[←hys.length,hle]
    have h2:line<sizeLine:=by decide
    omega
   .intro x H2 hy
    obtain⟨H₀2,g2,rp⟩:=it.yld i H' Ha' x H2 ds[i] h'.s.g.z h'.s.g.sub (UB hlt) hy;have hm2:=h'.back g2.z (h'.s.grow g2);rw[Vm hlt] at hco;obtain⟨ρ1,y,s1,rest',t1,t2,t3,t4⟩:=BS hco;refine⟨_,_,H₀2,fS n fr ρ,st',us',ds[i],hm2,rp,?_⟩;rw[t1];intro σ3 H3 H03 z3 h3;unfold Ga;dsimp only;rw[if_pos rfl];refine⟨_,_,H03,ρ1,st',us',h3,?_⟩;rw[t2];intro yv H5 H05 us5 z5 h5 ry;have hD5:H5 Da=some (.lst ys):=h5.s.g.s _ _ (by rw[aw (Vh aD),aB]);have n5:H05 Da=none:=by
     cases qq:H05 Da with|none=>rfl|some o=>have:=h5.s.g.nw Da (by rw[qq];simp) h0D;rw[aw (Vh aD),aB] at this;cases this
    have hrl:=hok _ _ _ t1;refine⟨hD5,ds.length-(i+1),by omega,rfl,hlt,H05,s1,us5,es1++[y],rest',?_,(hys.mono ((g2.z.trans z3).trans z5)).app (Reps.cons ry Reps.nil),by simp [hle],t3,by rw[hes,t4];simp⟩;refine wL (by rw[aw aD];exact eA) h1.n0 (by rw[aw aD];exact h5.hl) h5.r ⟨λb o e=>?_,h5.s.g.z,λb o e=>?_,λb k1 k2=>?_⟩ (λk d e=>?_) (nob λk hk b e=>?_) (by rw[←h5.s.ln,hrl.1])
    .by_cases c:b=a
     .subst c;rw[aB] at e;cases e;rw[aw aD];exact h5.hl
     .rw[aw c] at e
      by_cases c2:b=Da
      .subst c2;rw[aB] at e ⊢;exact e
      .rw[aw c2] at e ⊢
       exact h5.s.g.s _ _ (by rw[aw c,aw c2];exact e)
    .rw[aw (by intro z;subst z;rw[n5] at e;cases e)];exact h5.s.g.sub _ _ e
    .have:=h5.s.g.nw b k1 k2
     by_cases c:b=a
     .subst c;rw[aB] at this;cases this
     .rw[aw c] at this ⊢
      by_cases c2:b=Da
      .subst c2;rw[aB] at this;cases this
      .rw[aw c2] at this ⊢;exact this
    .by_cases hk:k<n
     .rw[vb hk] at e;cases e
     .rw[←hrl.2 k (by omega)] at e
      exact h5.s.rd k d e
    .rw[←hrl.2 k (by omega)] at e
     exact h5.s.ex.2 k b e
  .have hi2:i=ds.length:=by omega
   refine .inl ⟨it.stop i H' Ha' h'.s.g.z h'.s.g.sub (by omega),?_⟩;rw[hi2,WQ] at hco;cases hco;rw[Vo] at hes;subst hes;refine q Da ys H' Ha' us' ⟨λb o e=>?_,h'.s.g.z,h'.s.g.sub,λb k1 k2=>?_⟩ h'.n0 h'.hl h'.r hDa ?_ hDl hys
   .have c:b≠a:=by intro c;subst c;rw[eA] at e;cases e
    have c2:b≠Da:=by intro c2;subst c2;rw[gI c,hDa] at e;cases e
    exact h'.s.g.s _ _ (by rw[aw c,aw c2];exact e)
   .have:=h'.s.g.nw b k1 k2
    by_cases c:b=a
    .subst c;exact eA
    .rw[aw c] at this
     by_cases c2:b=Da
     .subst c2;rw[aB] at this;cases this
     .rw[aw c2] at this;exact this
   .cases qq:Ha' Da with
    |none=>rfl
    |some o=>have:=h'.s.g.nw Da (by rw[qq];simp) h0D;rw[aw (Vh aD),aB] at this;cases this
noncomputable def R7(K:Ut) (He η:Hp) (a:Uw) (f:Ev->List D->aj (D×List D)):TE:=λσ H Q=>∃Ha ρ st vs,gZ K He η Ha σ H ρ a st vs/\match f ρ st with
 |.ok (.lst ds,st')=>∀p xs H1 H01 st1 us1 H' Ha' us,aG Ha H01->gZ K He η H01 σ H1 ρ a st1 us1->bB (E5 a H1) H01 H' Ha'->Ha' a=none->H' a=some (.lst us)->Reps K Ha' st' us->H1 p=none->Ha' p=none->H' p=some (.lst xs)->Reps K Ha' ds xs->Q (.ref p) H'
 |.ok _=>False
 |.exn _=>False
 |.stuck=>False
structure S8 (X:Cx) (He η:Hp) (a:Uw) (e:Vk) (f:Ev->List D->aj (D×List D)):Prop where
 ev:PE X e (R7 X.K He η a f)
 st:∀{i:Nat}{x:US}{pos' spos:Pos},X.N.Nodup->X.N[i]?=some x->X.env.scope.names.lookup x=some .local -> Vz e (some (.Name x pos')) spos.line X.env=pure true->PS X (.Assign [.Name x pos'] e spos) (JQ (R7 X.K He η a f) (De i))
def Ue(N:List US)(n:Nat)(fr:List Nat)(hc:X.calm=true)(hi:MI X He η a tgt iter src)(hok:B8 n tg)
  (blk:∀s H C fp pn,(∀He η,DG (dz X N scope s H C fp pn) E He η tgt tg)/\∀He η,DM (dz X N scope s H C fp pn) He η a elt fm)
  (hfr:Cc X N n fr scope)(hcell:∀x∈scope.names,x.2≠.cell)(hfree:∀x∈scope.names,x.2=.free->X.env.scope.names.lookup x.1=some .cell)(hkind:scope.kind=.function)(hnames:∀x∈scope.names,x.2=.local -> scope.names.lookup x.1=some .local)
  (hs:∀x,foldedSetIterable iter X.env x=pure x:=by intro _;rfl):S8 X He η a (.ListComp elt [⟨tgt,iter,[],0⟩] scope pos) (p8 n fr src tg fm):=by
 have blk':∀s H C fp pn,PG (dz X N scope s H C fp pn) tgt (HA X.K a tg)/\OV (dz X N scope s H C fp pn) [] Ga/\PE (dz X N scope s H C fp pn) elt (Gb X.K a fm):=λs H C fp pn =>
  ⟨λπ s' σ' H' v u Q' I r ⟨He,η,q'⟩=>(PY (X:=dz X N scope s H C fp pn) λvs=>(blk s H C fp pn).1 _ _) π s' σ' H' v u Q' I r q',Cw,λπ s' σ' H' Q' I ⟨He,η,q'⟩=>((blk s H C fp pn).2 He η).o π s' σ' H' Q' I q'⟩
 have first:∀{π:List (Uw×Obj)}{s:UE}{σ:L2.St}{H:Hp}{Q:VK}{RR:Us->Uw->Result->UE->Prop},L2.Inv X π σ H s->R7 X.K He η a (p8 n fr src tg fm) σ H Q ->
   (∀(Da C:Uw) (s6:UE) (H5:Hp) (m:US->Option Us),L2.Inv X π σ H5 s6->s6.heap.Ns C m->oG X π H5 C->Q (.ref Da) H5->RR (.ref Da) C (.ok .next) s6) ->
   UO (UM X.prog X.w) X.A (eval iter X.env) (λx sg=>UO (UM X.prog X.w) X.A (pyIter x) (λit si=>UO (UM X.prog X.w) X.A (newList []) (λacc sj =>
    UO (UM X.prog X.w) X.A (newFunctionEnv scope X.env.globals (iH X.env.cells scope.names []) [] X.env.qual none .none (some X.env)) (λcenv sk =>
     WC (UM X.prog X.w) X.A (.compStart (.ListComp elt [⟨tgt,iter,[],0⟩] scope pos) 0 it acc { cenv with scope:=relabel scope X.env }) (RR acc cenv.locals) sk) X.xe sj) X.xe si) X.xe sg) X.xe s:=by
  intro π s σ H Q RR I ⟨Ha,ρ,st,vs,h,q⟩ fin;refine cH (hi.o π s σ H (λJ H1=>rR n fr (HA X.K a tg) Ga (Gb X.K a fm) J σ H1 Q) I ⟨Ha,ρ,st,vs,h,?_⟩) λv s1 h1=>cH h1 λitv s2 h2=>wm (N:=N) hc hfr hcell hfree hkind blk' h2 fin;unfold p8 at q;cases e1:src ρ st with
  |stuck|exn x=>rw[e1] at q;exact q
  |ok pr =>
   obtain⟨ds,st1⟩:=pr;rw[e1] at q;intro J H1 H01 us z h1 it;replace q:match (if ds.length<=line then(jF (fS n fr ρ) tg fm ds st1).bind λq=>aj.ok (D.lst q.1,q.2) else .stuck) with
    |.ok (.lst ds,st')=>∀p xs H1 H01 st1 us1 H' Ha' us,aG Ha H01->gZ X.K He η H01 σ H1 ρ a st1 us1->bB (E5 a H1) H01 H' Ha'->Ha' a=none->H' a=some (.lst us)->Reps X.K Ha' st' us->H1 p=none->Ha' p=none->H' p=some (.lst xs)->Reps X.K Ha' ds xs->Q (.ref p) H'
    |.ok _=>False
    |.exn _=>False
    |.stuck=>False:=q
   by_cases hl:ds.length<=line
   .rw[if_pos hl] at q
    cases e2:jF (fS n fr ρ) tg fm ds st1 with
    |stuck|exn x=>rw[e2] at q;exact q.elim
    |ok pr2 =>
     obtain⟨es,stF⟩:=pr2;rw[e2] at q;exact Az h1 it hl e2 hok λp xs H' Ha' us' g n' hl' r' hp h0 hv rp=>q p xs H1 H01 st1 us H' Ha' us' z h1 g n' hl' r' hp h0 hv rp
   .rw[if_neg hl] at q;exact q.elim
 have hcl:∀{π:List (Uw×Obj)}{s:UE}{σ:L2.St}{H:Hp},L2.Inv X π σ H s->closureFor scope X.env=pure (iH X.env.cells scope.names []):=λ{π s σ H} I=>ma λy hy hf=>I.ok.has y.1 (.inl (hfree y hy hf));refine⟨λπ s σ H Q I h=>?_,λ{i x pos' spos} hN hi' hx hsw π s σ H D' I h=>?_⟩
 .rw[eval_ListComp]
  refine wpAny_comprehension_free (use:=none) rfl hs (hcl I) hkind hnames (first (RR:=λacc C=>compPost (UM X.prog X.w) X.A X.xe none (EP X π σ Q) acc C) I h λDa C s6 H5 m I6 ns fC q=>?_);refine⟨m,ns,λh' sb=>⟨.ref Da,H5,?_,rfl,q⟩⟩;exact I6.turned (t':=s6.toks) (it:=C) (λb o hb e=>(sb.2 b hb).trans e) fC.1 fC.2.1 fC.2.2.2.1 fC.2.2.2.2.1 fC.2.2.2.2.2
 .rw[exec_Assign_Name_used _ _ _ _ hsw]
  refine Uu (wpAny_standAt (Uu ?_));show UO _ X.A (do let _ ←comprehension (.ListComp elt [⟨tgt,iter,[],0⟩] scope pos) scope X.env _ (newList []) false (eval iter X.env) (some (assign (.Name x pos') X.env))) _ _ s;refine Uu (Vs (wpAny_comprehension_free (use:=some (assign (.Name x pos') X.env)) (Q:=λ_ s'=>SP X π D' .next s') rfl hs (hcl I) hkind hnames
   (first (RR:=λacc C=>compPost (UM X.prog X.w) X.A X.xe (some (assign (.Name x pos') X.env)) (λ_ s'=>SP X π D' .next s') acc C) I h λDa C s6 H5 m I6 ns fC q=>?_)) (λ_ s' hq=>UU (UU hq)) λ_ _ e=>e)
  show UO _ X.A (assign (.Name x pos') X.env (.ref Da)) _ _ _;refine wpAny_assign_Name (oU (v:=.ref Da) I6 hN hi' (.inl hx) rfl (λs' I' z9=>?_) (.inr hx));obtain⟨a,sb,ha⟩:=z9;have hCa:C≠a:=by
   rcases ha with rfl|ha
   .exact fC.2.1
   .exact λz=>fC.2.2.2.2.1 x a ha z.symm
  refine⟨m,ns.sameBut sb hCa,λh' sb'=>⟨_,H5,?_,q⟩⟩;exact I'.turned (t':=s'.toks) (it:=C) (λb o hb e=>(sb'.2 b hb).trans e) fC.1 fC.2.1 fC.2.2.2.1 fC.2.2.2.2.1 fC.2.2.2.2.2
def BR{fr:List Nat}:∀ρ st d s',p8 n fr src tg fm ρ st=.ok (d,s')->∃ds,d=.lst ds:=λρ st d s' h=>by
 unfold p8 at h;cases e1:src ρ st with
 |stuck|exn x=>rw[e1] at h;cases h
 |ok pr =>
  rw[e1] at h;simp only[aj.bind,uV] at h
  by_cases hl:pr.1.length<=line
  .rw[if_pos hl] at h
   cases e2:jF (fS n fr ρ) tg fm pr.1 pr.2 with|stuck|exn x=>rw[e2] at h;cases h|ok q=>rw[e2] at h;cases h;exact⟨_,rfl⟩
  .rw[if_neg hl] at h;cases h
def gZ.addL{K:Ut}(h1:gZ K He η H01 σ H1 ρ a st1 us1)(g:bB (E5 a H1) H01 H' Ha')(n:Ha' a=none)(hl:H' a=some (.lst us))(r:Reps K Ha' st' us)(hp:H1 p=none)(h0:Ha' p=none)(hv:H' p=some (.lst xs))(rp:Reps K Ha' ds xs) :
  aG H01 (upd Ha' p (.lst xs))/\gZ K He η (upd Ha' p (.lst xs)) σ H' ρ a st' us/\Rep K (upd Ha' p (.lst xs)) (.lst ds) (.ref p):=by
 have pa:a≠p:=λz=>by have:=h1.hl;rw[z,hp] at this;cases this
 have z:aG Ha' (upd Ha' p (.lst xs)):=λb o e=>by rw[aw (by intro z;subst z;rw[h0] at e;cases e)];exact e
 have g':bB (E5 a H1) H01 H' (upd Ha' p (.lst xs)):=⟨g.s,g.z.trans z,λb o e=>by
  by_cases c:b=p
  .subst c;rw[aB] at e;cases e;exact hv
  .rw[aw c] at e;exact g.sub _ _ e,λb k1 k2=>by
  by_cases c:b=p
  .subst c;rw[gI (Vh pa)];exact hp
  .rw[aw c] at k1;exact g.nw b k1 k2⟩
 exact⟨g'.z,h1.change g' (by rw[aw pa];exact n) hl (r.mono z),aI.mpr ⟨p,xs,rfl,eX.of aB,rp.mono z⟩⟩
section
variable {X:Cx}{E:XK}{He η:Hp}{a:Uw}{e:Vk}{pos:Pos}{fm:Ev->List D->aj (D×List D)}
def JX(hN:X.N.Nodup)(hi:X.N[i]?=some x)(hx:X.env.scope.names.lookup x=some .local)(h:S8 X He η a e fm)(ho:∀ρ st d s',fm ρ st=.ok (d,s')->∃ds,d=.lst ds)(hs:Vz e (some (.Name x pos')) pos.line X.env=pure true:=by rfl):SM X He η a (.Assign [.Name x pos'] e pos) (dH i fm):=by
 refine⟨bN (h.st hN hi hx hs) λD' σ H z9=>?_⟩;obtain⟨Ha,ρ,st,vs,h,q⟩:=z9;refine⟨Ha,ρ,st,vs,h,?_⟩;unfold dH at q;cases e1:fm ρ st with
 |stuck|exn x=>rw[e1] at q;exact q
 |ok pr =>
  obtain⟨d,s1⟩:=pr;obtain⟨ds,rfl⟩:=ho _ _ _ _ e1;rw[e1] at q;intro p xs H1 H01 st1 us1 H' Ha' us z h1 g n hl r hp h0 hv rp;obtain⟨k1,k2,k3⟩:=h1.addL g n hl r hp h0 hv rp;exact q _ H' _ us (z.trans k1) (k2.back (aG.refl _) (k2.s.put k3))
end
mutual
def fT:D->Option Vr
 |.non=>some .none
 |.bl b=>some (.bool b)
 |.int i=>some (.int i)
 |.str x=>some (.str x)
 |.tup ds=>(toPys ds).map PyData.tuple
 |.lst ds=>(toPys ds).map PyData.list
 |.dic ks ds=>(toPys ds).map λps=>.dict ((ks.map PyData.str).zip ps)
 |.exc _=>none
 |.ob k ds=>match k with
  |.dint ks=>(toPys ds).map λps=>.dict ((ks.map PyData.int).zip ps)
  |_=>none
def toPys:List D->Option (List Vr)
 |[]=>some []
 |d::ds=>match fT d,toPys ds with
  |some x,some xs=>some (x::xs)
  |_,_=>none
end
section
variable {X:Cx}{E:XK}{π:List (Uw×Obj)}{σ:L2.St}{H:Hp}{s:UE}
def Kz(I:L2.Inv X π σ H s)(h:eX X.K H a vs):a≠VR:=by
 intro z;subst z;obtain⟨mm,o,es,ep,e,hd,_⟩:=I.ok.mod.sm;have:=(I.bs _ _ e).2;rcases h with h|⟨o',_,_,h1,h2,_,h3,_⟩
 .rcases h with h|⟨_,h⟩<;>(rw[this] at h;cases h)
 .have e':=I.ok.mod.kin _ _ h1
  rw[e] at e';cases e';rw[hd] at h3;cases h3
theorem oP:∀{ds:List D}{ps:List Vr},toPys ds=some ps->ps.length=ds.length
 |[],ps,e=>by rw[toPys] at e;cases e;rfl
 |d::ds,ps,e=>by
  rw[toPys] at e;cases e1:fT d with
  |none=>rw[e1] at e;cases e
  |some p =>
   cases e2:toPys ds with|none=>rw[e1,e2] at e;cases e|some qs=>rw[e1,e2] at e;cases e;simp [oP e2]
def Cs:fY->Vr
 |.inl i=>.int i
 |.inr x=>.str x
theorem C1:∀{ks:List fY}{vs:List V}{us:List (fY×Us)},KV (ks.zip vs) us->ks.length=vs.length->bE vs (us.map (·.2))/\us.map (·.1)=ks
 |[],[],_,.nil,_=>⟨.nil,rfl⟩
 |k::ks,v::vs,_,.cons ⟨a,b⟩ t,h=>by
  obtain⟨h1,h2⟩:=C1 (ks:=ks) (vs:=vs) t (by simpa using h);exact⟨.cons b h1,by rw[UW,h2,←a]⟩
theorem pL{h:UR}:∀{es:List XG}{us:List (fY×Us)},Pairs (df prog w) es us->XY h (es.map (·.key)) ((us.map (·.1)).map Cs) []/\es.map (·.val)=us.map (·.2)
 |_,_,.nil=>⟨.nil,rfl⟩
 |_,_,.cons (e:=e) (kv:=kv) a b t=>by
  obtain⟨h1,h2⟩:=pL t;refine⟨?_,by rw[UW,UW,h2,b]⟩;have hk:Zi h e.key (Cs kv.1) []:=by
   rcases cR (show sY kv.1 e.key=true from a) with⟨i,t,e1,e2⟩|⟨x,t,e1,e2⟩
   .rw[e1,e2];exact .int i t
   .rw[e1,e2];exact .str x t
  exact XY.cons hk h1
theorem Ce{α β:Type}:∀{xs:List α}{ys:List β},xs.length=ys.length->(xs.zip ys).map (·.1)=xs/\(xs.zip ys).map (·.2)=ys
 |[],[],_=>⟨rfl,rfl⟩
 |x::xs,y::ys,h=>by
  obtain⟨h1,h2⟩:=Ce (xs:=xs) (ys:=ys) (by simpa using h);exact⟨by rw[VF,UW,h1],by rw[VF,UW,h2]⟩
def sq(I:L2.Inv X π σ H s){ks:List fY}{ps:List Vr}{bs:List Uw}(h2:Rd H a (.dK (ks.zip vs)))(h4:ks.length=vs.length)(hl:ps.length=ks.length)
  (hr:∀us,bE vs us->∃bs,XY s.heap us ps bs/\VR∉bs):∃as,Zi s.heap (.ref a) (.dict ((ks.map Cs).zip ps)) as/\VR∉as:=by
 obtain⟨_,n1,us,k1,d1⟩:=(show bT X.prog X.w H s.heap a (.dK (ks.zip vs)) from h2.ok I.hok)
 obtain⟨o,es,ep,e1,e2,e3,_,e5,_⟩:=d1;obtain⟨hv,hk⟩:=C1 k1 h4;obtain⟨bs,r1,m1⟩:=hr _ hv;obtain⟨p1,p2⟩:=pL (h:=s.heap) e5;obtain⟨z1,z2⟩:=Ce (xs:=ks.map Cs) (ys:=ps) (by rw[Uv,hl]);refine⟨_,.dict e1 e2.1 e3 (as:=[]) (bs:=bs) (by rw[z1,←hk];exact p1) (by rw[z2,p2];exact r1),?_⟩;simp only[Vo,Ws,We,UG,not_or];exact⟨λz=>by rw[←z] at n1;simp at n1,m1⟩
mutual
theorem yW(I:L2.Inv X π σ H s):∀(d:D) (v:V) (u:Us) (p:Vr),Rep X.K H d v->bF v u->fT d=some p->∃as,Zi s.heap u p as/\VR∉as
 |.non,v,u,p,r,rv,e=>by
  rw[fT] at e;cases e;rw[aY.mp r] at rv;cases rv;exact⟨_,.none,by simp⟩
 |.bl b,v,u,p,r,rv,e=>by
  rw[fT] at e;cases e;rw[aK.mp r] at rv;cases rv;exact⟨_,.bool b,by simp⟩
 |.int i,v,u,p,r,rv,e=>by
  rw[fT] at e;cases e;rw[aC.mp r] at rv;obtain⟨t,rfl⟩:=rv;exact⟨_,.int i t,by simp⟩
 |.str x,v,u,p,r,rv,e=>by
  rw[fT] at e;cases e;rw[Rep.str_iff.mp r] at rv;obtain⟨t,rfl⟩:=rv;exact⟨_,.str x t,by simp⟩
 |.tup ds,v,u,p,r,rv,e=>by
  rw[fT] at e;cases e1:toPys ds with
  |none=>rw[e1] at e;cases e
  |some ps =>
   rw[e1] at e;cases e;obtain⟨a,vs,its,rfl,rfl,h1,h2,h3,⟨o,k1,k2,n,k3⟩,_⟩:=bA I r rv;obtain⟨as,h4,h5⟩:=reads_ofs I ds vs its ps h2 h3 e1;exact⟨_,.tuple k1 k2 k3 (by simpa using h4),h5⟩
 |.lst ds,v,u,p,r,rv,e=>by
  rw[fT] at e;cases e1:toPys ds with
  |none=>rw[e1] at e;cases e
  |some ps =>
   rw[e1] at e;cases e;obtain⟨a,vs,its,rfl,rfl,h1,h2,h3,⟨o,k1,k2,n,k3⟩,_⟩:=bu I r rv;obtain⟨as,h4,h5⟩:=reads_ofs I ds vs its ps h2 h3 e1;exact⟨_,.list k1 k2 k3 (by simpa using h4),by rw[UG,not_or];exact⟨Vh (Kz I h1),h5⟩⟩
 |.dic ks ds,v,u,p,r,rv,e=>by
  rw[fT] at e;cases e1:toPys ds with
  |none=>rw[e1] at e;cases e
  |some ps =>
   rw[e1] at e;cases e;rw[Rep] at r;obtain⟨a,kvs,vs,rfl,h2,h3,h4,h5⟩:=r;subst h3;obtain rfl:u=U8 a:=rv;have hl:=h5.length;have:=sq I (bs:=[]) (ps:=ps) h2 (by rw[Uv];exact h4) (by rw[Uv,oP e1,hl,h4]) λus hv=>reads_ofs I ds vs us ps h5 hv e1;rw[Xb] at this;exact this
 |.exc _,v,u,p,r,rv,e=>by rw[fT] at e;cases e
 |.ob k ds,v,u,p,r,rv,e=>by
  cases k with
  |dint ks =>
   rw[fT] at e;cases e1:toPys ds with
   |none=>rw[e1] at e;cases e
   |some ps =>
    rw[e1] at e;cases e;obtain⟨a,vs,rfl,⟨kvs,h2,h3,h4⟩,h5⟩:=fX.mp r;subst h3;obtain rfl:u=U8 a:=rv;have hl:=h5.length;have:=sq I (bs:=[]) (ps:=ps) h2 (by rw[Uv];exact h4) (by rw[Uv,oP e1,hl,h4]) λus hv=>reads_ofs I ds vs us ps h5 hv e1;rw[Xb] at this;exact this
  |_=>simp [fT] at e
theorem reads_ofs(I:L2.Inv X π σ H s):∀(ds:List D) (vs:List V) (us:List Us) (ps:List Vr),Reps X.K H ds vs->bE vs us->toPys ds=some ps->∃as,XY s.heap us ps as/\VR∉as
 |[],vs,us,ps,r,rv,e=>by
  rw[toPys] at e;cases e;rw[Reps.nil_iff.mp r] at rv;cases rv;exact⟨_,.nil,by simp⟩
 |d::ds,vs,us,ps,r,rv,e=>by
  obtain⟨v,vr,rfl,h1,h2⟩:=aJ.mp r;cases rv with
  |cons ra rb =>
   rw[toPys] at e;cases e1:fT d with
   |none=>rw[e1] at e;cases e
   |some p =>
    cases e2:toPys ds with
    |none=>rw[e1,e2] at e;cases e
    |some qs =>
     rw[e1,e2] at e;cases e;obtain⟨as,k1,m1⟩:=yW I d v _ p h1 ra e1;obtain⟨bs,k2,m2⟩:=reads_ofs I ds vr _ qs h2 rb e2;exact⟨_,.cons k1 k2,by rw[Vl,not_or];exact⟨m1,m2⟩⟩
end
def Gk(d:D):Bool:=match d with
 |.tup _=>true
 |.lst _=>true
 |_=>false
noncomputable def pI(p:Vr):Bool:=p.showable&&decide (p.depth<=100)&&decide (p.shown.length<=sizeLine)
noncomputable def uT(d:D):aj D:=match fT d with
 |some p=>if Gk d=true/\pI p=true then .ok (.str p.shown) else .stuck
 |none=>.stuck
def wx{k:Nat}(hr:cW k X.A):gO X (.builtin "repr") (λxs H Q=>∃v d p,xs=[v]/\Rep X.K H d v/\fT d=some p/\Gk d=true/\pI p=true/\Q (.str p.shown) H):=by
 intro π s σ H xs us Q I r h;obtain⟨v,d,p,rfl,rd,e,hq,hw,q⟩:=h;obtain⟨u,rfl,rx⟩:=mR r;obtain⟨as,hR,hm⟩:=yW I d v u p rd rx e;have hu:∃a,u=.ref a:=by
  cases d with|tup ds=>obtain⟨a,_,_,_,h,_⟩:=bA I rd rx;exact⟨a,h⟩|lst ds=>obtain⟨a,_,_,_,h,_⟩:=bu I rd rx;exact⟨a,h⟩| _=>cases hq
 obtain⟨a,rfl⟩:=hu;unfold pI at hw;simp only[U4,decide_eq_true_eq] at hw;obtain⟨⟨w1,w3⟩,w4⟩:=hw;refine repr_of_reads' hR w1 (λ_=>hm) hr.gd (by have:=hr.un;omega) (λb o e=>e) (λh' u' tk hk=>⟨.str p.shown,H,I.kept hk,⟨u',rfl⟩,q⟩) w4
def DZ:gF X E (λxs H Q=>∃v d p,xs=[v]/\Rep X.K H d v/\fT d=some p/\Gk d=true/\pI p=true/\Q (.str p.shown) H) (m1 uT):=qf λx v H Ha Q hs r q=>by
 unfold uT at q;cases e:fT x with
 |none=>rw[e] at q;exact q.elim
 |some p =>
  rw[e] at q;replace q:post X.K E H Ha (if Gk x=true/\pI p=true then .ok (.str p.shown) else .stuck) Q:=q
  by_cases hc:Gk x=true/\pI p=true
  .rw[if_pos hc] at q
   exact⟨v,x,p,rfl,r.mono hs,e,hc.1,hc.2,bg hs q (Rep.str_iff.mpr rfl)⟩
  .rw[if_neg hc] at q;exact q.elim
end
structure FT (K:Ut) (mg:US->Option Us) (x:US) (st:V0) (ps:List US) (a:Uw) (d:VZ):Prop where
 F:Fy K x x st a d
 b:iL K d ps []
 g:mg x=some (.ref a)
noncomputable def QA(K:Ut) (x:US) (st:V0) (a:Uw):Prop:=VH K UX x=some (some (.ref a))/\WV K (.ref a)=true/\∃oc kV dc pm cd ct od an sl,K.lookup a=some ⟨oc,od,.func (WH x x (defArgs st) (defBody st) (defScope st) .none kV dc pm an cd ct),sl⟩/\Yl K cd x=true
def QD{K:Ut}{h:UR}{st:V0}{ps:List US}(X:K.In h)(G:h.Ns UX mg)(q:QA K x st a)
  (hb:∀(kV doc pm:Us) (an:Option Uw) (cdv ct:Us) (us:List Us),us.length=ps.length->bindArgs (WH x x (defArgs st) (defBody st) (defScope st) .none kV doc pm an cdv ct) ⟨us,[]⟩=pure (ps.zip us)) :
  ∃d,FT K mg x st ps a d/\∃kV doc pm an cdv ct,d=WH x x (defArgs st) (defBody st) (defScope st) .none kV doc pm an cdv ct:=by
 obtain⟨e1,e4,oc,kV,dc,pm,cd,ct,od,an,sl,e2,e3⟩:=q;exact⟨_,⟨pq e2 e3 e4,(pq (st:=st) e2 e3 e4).binds hb,VQ X G e1⟩,_,_,_,_,_,_,rfl⟩
section
variable {X:Cx}{E:XK}{e:Vk}{es:List Vk}{fa:Ev->aj (List D)}{f g h i j:Ev->aj D}{pos:Pos}{CX:Cd}{k n:Nat}{fn:Uw}{fd:VZ}{ps:List US}{m:List D->aj D}{x:US}{p:Pos}{st:V0}
def Rc(ρ:Ev)(ds:List D)(h:ae f az ρ=.ok ds):ds.length=1:=lT (λ_ h=>IS h) h
def Ra(ρ:Ev)(ds:List D)(q:ae f (ae g az) ρ=.ok ds):ds.length=2:=lT (Rc ρ) q
def Q9(ρ:Ev)(ds:List D)(q:ae f (ae g (ae h az)) ρ=.ok ds):ds.length=3:=lT (Ra ρ) q
def RG(ρ:Ev)(ds:List D)(q:ae f (ae g (ae h (ae i az))) ρ=.ok ds):ds.length=4:=lT (Q9 ρ) q
end
section
variable {X:Cx}{E:XK}{He η:Hp}{a:Uw}{e:Vk}{es:List Vk}{pos:Pos}{f g:Ev->aj D}{fm gm hm im jm:Ev->List D->aj (D×List D)}{fa:Ev->List D->aj (List D×List D)}{s:Ev->List D->aj cZ}{st:V0}
def yT(f:Ev->aj D):Ev->aj Fl:=λρ=>(f ρ).bind λd=>.ok (.rt d)
def E7(h:DF X E e f):Jc X E He η [.Return (some e) pos] (yT f):=by
 refine⟨eT (gA (xa h.o) qP) λD' σ H z9=>?_⟩;obtain⟨Ha,ρ,h,q⟩:=z9;refine⟨Ha,ρ,h.g.sub,h.rd,?_⟩;unfold yT at q;cases e1:f ρ with
 |stuck=>rw[e1] at q;exact q|exn x=>rw[e1] at q;exact λC ox H' Ha' g r=>q C ox H' Ha' (h.g.trans g) r
 |ok d =>
  rw[e1] at q;cases d with|lst ds=>exact λp vs H' Ha' g hp h0 hv rp=>q p vs H' Ha' (h.g.trans g) (h.g.s.free hp) h0 hv rp| _=>exact q.elim
def Ov.dt(h:Ov X He η a e fm):FE X He η a e fm:=⟨PW.pt h.o⟩
noncomputable def EK(i:Nat) (s:Ev->List D->aj cZ):Ev->List D->aj cZ:=λρ st=>s (unown i ρ) st
def Gf(i:Nat)(h:SM X He η a st s):SM X He η a st (EK i s):=⟨bN h.o λD' σ H z9=>by
 obtain⟨Ha,ρ,sl,vs,hr,q⟩:=z9;obtain⟨Ha',z,hr'⟩:=hr.s.unown i;exact⟨Ha',DL.unown i ρ,sl,vs,hr.back z hr',dR.grow (r:=s (DL.unown i ρ) sl) q z⟩⟩
def o8(hr:∀ρ st ds,fa ρ st=.ok ds->ds.1.length=n)(ρ:Ev)(st:List D)(ds:List D×List D)(h:aR fm fa ρ st=.ok ds):ds.1.length=n+1:=by
 unfold aR at h;cases e1:fm ρ st with
 |stuck|exn x=>rw[e1] at h;cases h
 |ok p =>
  rw[e1] at h;simp only[aj.bind] at h;cases e2:fa ρ p.2 with|stuck|exn x=>rw[e2] at h;cases h|ok q=>rw[e2] at h;cases h;simp [hr _ _ _ e2]
def TF(ρ:Ev)(st:List D)(ds:List D×List D)(h:bV ρ st=.ok ds):ds.1.length=0:=by cases h;rfl
def SR(ρ:Ev)(st:List D)(ds:List D×List D)(h:aR fm bV ρ st=.ok ds):ds.1.length=1:=o8 TF ρ st ds h
def SQ(ρ:Ev)(st:List D)(ds:List D×List D)(h:aR fm (aR gm bV) ρ st=.ok ds):ds.1.length=2:=o8 SR ρ st ds h
def TC(ρ:Ev)(st:List D)(ds:List D×List D)(h:aR fm (aR gm (aR hm bV)) ρ st=.ok ds):ds.1.length=3:=o8 SQ ρ st ds h
variable {CX:Cd}{k n:Nat}{fn:Uw}{fd:VZ}{ps:List US}{x:US}{p:Pos}{ft:V0}
def lh(ha:DM X He η a l fm)(hb:DM X He η a b gm):DM X He η a (.BinOp l .Add b pos) (mB fm gm b9):=Md (E:=E0) (eQ.or G3 (eQ.or sG (eQ.or CI xj))) (by
 intro x y v u H Ha Q hs r1 r2 q;unfold b9 at q;cases x with
 |int i =>
  cases y with|int j=>exact .inl ⟨i,j,aC.mp r1,aC.mp r2,bg hs q (ri _)⟩| _=>exact q.elim
 |str i =>
  cases y with
  |str j =>
   by_cases h:i.length+j.length<=line
   .simp only[if_pos h] at q
    exact .inr (.inl ⟨i,j,Rep.str_iff.mp r1,Rep.str_iff.mp r2,cG h,bg hs q (Rep.str_iff.mpr rfl)⟩)
   .simp only[if_neg h] at q;exact q.elim
  |_=>exact q.elim
 |lst ds =>
  cases y with
  |lst es =>
   by_cases h:ds.length+es.length<=line
   .simp only[if_pos h] at q
    obtain⟨l,vs,rfl,h1,h2⟩:=aI.mp r1;obtain⟨m,us,rfl,k1,k2⟩:=aI.mp r2;refine .inr (.inr (.inl ⟨l,m,vs,us,rfl,rfl,aG.sqL hs h1,aG.sqL hs k1,by rw[←h2.length,←k2.length];exact cG h,λp hp=>?_⟩));exact q _ _ _ (aO hs hp) (aI.mpr ⟨p,_,rfl,eX.of aB,(h2.app k2).mono (aO hs hp).z⟩)
   .simp only[if_neg h] at q;exact q.elim
  |_=>exact q.elim
 |tup ds =>
  cases y with
  |tup es =>
   by_cases h:ds.isEmpty=false/\ds.length+es.length<=line
   .simp only[if_pos h] at q
    obtain⟨l,vs,rfl,h1,h2⟩:=aN.mp r1;obtain⟨m,us,rfl,k1,k2⟩:=aN.mp r2;refine .inr (.inr (.inr ⟨l,m,vs,us,rfl,rfl,aG.sqT hs h1,aG.sqT hs k1,λz=>?_,by rw[←h2.length,←k2.length];exact cG h.2,λz=>?_,λz p hp=>?_⟩))
    .have:=h2.length
     rw[z] at this;have e:ds=[]:=VX.mp this;rw[e] at h;exact absurd h.1 (by decide)
    .have:=k2.length
     rw[z] at this;have e:es=[]:=VX.mp this;rw[e,Vo] at q;exact bg hs q r1
    .exact q _ _ _ (aO hs hp) (aN.mpr ⟨p,_,rfl,kn.of aB,(h2.app k2).mono (aO hs hp).z⟩)
   .simp only[if_neg h] at q;exact q.elim
  |_=>exact q.elim
 |_=>exact q.elim) ha hb
def Ij(ha:DM X He η a l fm)(hb:DM X He η a b gm):DM X He η a (.BinOp l .Mod b pos) (mB fm gm dZ):=Md (E:=E0) CG (xt (λ_ _ h=>of_decide_eq_true h) λ_ _ _ _=>ri _) ha hb
def eW(ha:DM X He η a l fm)(hb:DM X He η a b gm)(hs:oz b:=by intro _ _;rfl):DM X He η a (.Subscript l b pos) (mB fm gm aW):=QU (E:=E0) Ho LQ ha hb hs
def Su(N:List US)(n:Nat)(fr:List Nat)(hc:X.calm=true)(hi:MI X He η a tgt iter src)(hok:B8 n tg)
  (blk:∀s H C fp pn,(∀He η,DG (dz X N scope s H C fp pn) E He η tgt tg)/\∀He η,DM (dz X N scope s H C fp pn) He η a elt fm)
  (hfr:Cc X N n fr scope)(hcell:(scope.names.all λx=>!(x.2==.cell))=true)(hfree:(scope.names.all λx=>!(x.2==.free)||(X.env.scope.names.lookup x.1==some .cell))=true)(hkind:scope.kind=.function)
  (hnames:(scope.names.all λx=>!(x.2==.local)||(scope.names.lookup x.1==some .local))=true)
  (hs:∀x,foldedSetIterable iter X.env x=pure x:=by intro _;rfl):S8 X He η a (.ListComp elt [⟨tgt,iter,[],0⟩] scope pos) (p8 n fr src tg fm):=by
 refine Ue (E:=E) N n fr hc hi hok blk hfr (λx hx z=>?_) (λx hx z=>?_) hkind (λx hx z=>?_) hs
 .have:=Vc.mp hcell x hx
  rw[z] at this;simp at this
 .have:=Vc.mp hfree x hx
  rw[z] at this;simpa using this
 .have:=Vc.mp hnames x hx
  rw[z] at this;simpa using this
end
section
variable {X:Cx}{E:XK}{He η:Hp}{a:Uw}{st:V0}{e l b:Vk}{rest es:List Vk}{pos:Pos}{f:Ev->aj D}{fm gm:Ev->List D->aj (D×List D)}
noncomputable def Ug(g:Ev->List D->aj (D×List D)) (ρ:Ev) (p:D×List D):aj (D×List D):=match p.1 with
 |.bl b=>if b=true then .ok (.bl true,p.2) else g ρ p.2
 |_=>.stuck
noncomputable def Hj(p:D×List D):aj (D×List D):=match p.1 with
 |.bl b=>.ok (.bl (!b),p.2)
 |_=>.stuck
noncomputable def Hk(f:Ev->List D->aj (D×List D)):Ev->List D->aj (D×List D):=λρ st=>(f ρ st).bind Hj
def K0(ha:FE X He η a l fm):FE X He η a (.UnaryOp .Not l pos) (Hk fm):=by
 refine⟨?_⟩;refine gQ (GL ha.o) λσ H Q z9=>?_;obtain⟨Ha,ρ,st,vs,h,q⟩:=z9;refine⟨Ha,ρ,st,vs,h,?_⟩
 unfold Hk at q;cases e1:fm ρ st with
 |stuck|exn x=>rw[e1] at q;exact q
 |ok p =>
  obtain⟨d,st'⟩:=p;rw[e1] at q;cases d with|bl c=>exact λH1 H01 us z h1=>q H1 H01 us z h1| _=>exact q.elim
end
noncomputable def rX(fa:Ev->aj (List D)) (m:List D->aj D):Ev->aj Fl:=λρ=>match fa ρ with
 |.ok ds=>(m ds).bind λ_=>.ok (.nx ρ)
 |_=>.stuck
section
variable {X:Cx}{e:Vk}{es:List Vk}{fa:Ev->aj (List D)}{pos:Pos}{k n:Nat}{fn:Uw}{fd:VZ}{ps:List US}{m:List D->aj D}{x:US}{p:Pos}{st:V0}
def JN(F:fZ X.prog X.w X.K X.mg X.base (gb X.prog X.w) k fn fd ps (spD X.K n m))(hr:cW k X.A)(hg:Gl X x)(hm:X.mg x=some (.ref fn))
  (hk:WV X.K (.ref fn)=true)(hb:iL X.K fd ps [])(ha:DA X.nox E0 (e::es) fa)(hn:(e::es).length=n:=by rfl)(hl:∀ρ ds,fa ρ=.ok ds->ds.length=(e::es).length)
  (hdb:(x==("__debug__" : US))=false:=by decide)(he:Uy (e::es) X.env=(false,eval e X.env)::Uy es X.env:=by exact aV rfl)(hpl:(VA cpos (Uy es X.env)).any (·.1)=false:=by exact bL rfl)
  (hs:Vz (.Call (.Name x p) (e::es) [] cpos) none pos.line X.env=pure false:=by rfl):TB X (.Expr (.Call (.Name x p) (e::es) [] cpos) pos) (rX fa m):=by
 refine⟨λπ s σ H He η Ha ρ D XE I h q hx=>?_⟩;refine wpAny_Expr_any (cH (D0 (Q:=λv H1=>D.nx σ H1) F hr hg hm hk hb ha.o I ?_ hx hdb he hpl) λv s1 ⟨y,H1,I1,r1,q1⟩=>⟨σ,H1,I1,q1⟩) I.quiet hs;refine⟨Ha,ρ,h.g.sub,h.rd,?_⟩;unfold rX at q ⊢;cases e1:fa ρ with
 |stuck=>rw[e1] at q;exact q|exn x=>rw[e1] at q;exact q.elim
 |ok ds =>
  rw[e1] at q;intro vs H1 H01 g1 r1;refine⟨?_,H01,ds,g1.sub,r1,?_⟩
  .have:=r1.length
   have:=hl ρ ds e1;omega
  .show post _ _ _ _ (m ds) _
   cases e2:m ds with
   |stuck=>simp only[e2] at q;exact q
   |exn x=>exact λC ox H' Ha' g ex=>⟨x,Ha',by simp only[e2];rfl,g1.z.trans g.z,h.grow (g1.trans g),ex⟩
   |ok d =>
    simp only[e2] at q;exact λv H' Ha' g rp=>q _ H' Ha' (g1.z.trans g.z) (h.grow (g1.trans g))
end
def Iw(x:D):aj D:=match x with
 |.dic ks _=>.ok (.int ks.length)
 |x=>dw x
section
variable {X:Cx}{E:XK}
noncomputable abbrev LM(K:Ut):List V->Hp->VK->Prop:=λxs H Q=>(∃x n,xs=[x]/\Oq K x H n/\Q (.int n) H)∨∃a kvs,xs=[V.ref a]/\Rd H a (.dK kvs)/\Q (.int kvs.length) H
def Fm:gO X (.builtin "len") (LM X.K):=by
 intro π s σ H xs us Q I r h;rcases h with h|⟨a,kvs,rfl,hd,q⟩
 .exact bR π s σ H xs us Q I r h
 .obtain⟨u,rfl,rx⟩:=mR r
  cases rx;exact Q1 I hd λt s' I'=>⟨.int kvs.length,H,I',⟨t,rfl⟩,q⟩
def Lj:gF X E (LM X.K) (m1 Iw):=qf λx v H Ha Q hs r q=>by
 cases x with
 |dic ks ds =>
  rw[Rep] at r;obtain⟨a,kvs,vs,rfl,h1,rfl,h3,h4⟩:=r;refine .inr ⟨a,(ks.map Vp).zip vs,rfl,aG.rd hs h1,?_⟩;rw[List.length_zip,Uv,←h3,Y0];exact bg hs q (ri _)
 |lst ds =>
  obtain⟨p,vs,rfl,h1,h2⟩:=aI.mp r;refine .inl ⟨_,vs.length,rfl,.inl ⟨vs,aG.sqL hs h1,rfl⟩,?_⟩;rw[←h2.length];exact bg hs q (ri _)
 |tup ds =>
  obtain⟨p,vs,rfl,h1,h2⟩:=aN.mp r;refine .inl ⟨_,vs.length,rfl,.inr ⟨vs,aG.sqT hs h1,rfl⟩,?_⟩;rw[←h2.length];exact bg hs q (ri _)
 |str z =>
  unfold Iw dw at q
  by_cases hz:z.length<=line
  .simp only[if_pos hz] at q
   rw[Rep.str_iff.mp r];exact .inl ⟨_,z.length,rfl,⟨cG hz,rfl⟩,bg hs q (ri _)⟩
  .simp only[if_neg hz] at q;exact q.elim
 |_=>exact q.elim
end
noncomputable def Fs:List US->List D->US->Option D
 |k::ks,d::ds,x=>if k=x then some d else Fs ks ds x
 |_,_,_=>none
noncomputable def kj(x y:D):aj D:=match x,y with
 |.dic ks ds,.str k=>match Fs ks ds k with
  |some d=>.ok d
  |none=>.stuck
 |_,_=>.stuck
noncomputable def Iz(x y:D):aj D:=match x,y with
 |.str k,.dic ks ds=>.ok (.bl (Fs ks ds k).isSome)
 |_,_=>.stuck
noncomputable def rq(x y:D):aj D:=match x,y with
 |.str k,.dic ks ds=>.ok (.bl (!(Fs ks ds k).isSome))
 |_,_=>.stuck
theorem yg{K:Ut}{H:Hp}{k:US}:∀{ks:List US}{ds:List D}{vs:List V},ks.length=vs.length->Reps K H ds vs ->
  (∀d,Fs ks ds k=some d->∃v,qp ((ks.map Vp).zip vs) (Vp k:fY)=some v/\Rep K H d v)/\(Fs ks ds k=none->qp ((ks.map Vp).zip vs) (Vp k:fY)=none)
 |[],ds,vs,hl,r=>by
  exact⟨λd e=>(nomatch e),λ_=>rfl⟩
 |x::ks,ds,vs,hl,r=>by
  cases vs with
  |nil=>cases hl
  |cons v vs =>
   cases ds with
   |nil=>have:=Reps.nil_iff.mp r;cases this
   |cons d ds =>
    obtain⟨v',vr,e0,h1,h2⟩:=aJ.mp r;cases e0;obtain⟨i1,i2⟩:=yg (k:=k) (ks:=ks) (ds:=ds) (vs:=vs) (by simpa using hl) h2;rw[UW,VF]
    by_cases hx:x=k
    .subst hx
     refine⟨λd' e=>?_,λe=>?_⟩
     .rw[Fs,if_pos rfl] at e;cases e
      exact⟨v,mS rfl,h1⟩
     .rw[Fs,if_pos rfl] at e;cases e
    .have hne:¬(Vp x:fY)=Vp k:=λz=>hx (Zg z)
     refine⟨λd' e=>?_,λe=>?_⟩
     .rw[Fs,if_neg hx] at e
      rw[kA hne];exact i1 d' e
     .rw[Fs,if_neg hx] at e
      rw[kA hne];exact i2 e
section
variable {X:Cx}{E:XK}{a b:Vk}{f g:Ev->aj D}{pos:Pos}
abbrev PD:R2:=λx y H Q=>∃p v,x=.ref p/\yj H p y (some v)/\Q v H
abbrev PB:R2:=λy x H Q=>∃p o,x=.ref p/\yj H p y o/\Q (.bl o.isSome) H
abbrev Cr:R2:=λy x H Q=>∃p o,x=.ref p/\yj H p y o/\Q (.bl (!o.isSome)) H
def Kq:qJ X.K E PD kj:=by
 intro x y v u H Ha Q hs r1 r2 q;unfold kj at q;cases x with
 |dic ks ds =>
  cases y with
  |str k =>
   rw[Rep] at r1;obtain⟨p,kvs,vs,rfl,h1,rfl,hl,h4⟩:=r1;rw[Rep.str_iff.mp r2];cases e:Fs ks ds k with
   |none=>simp only[e] at q;exact q.elim
   |some d =>
    simp only[e] at q;obtain⟨v,hv,rv⟩:=(yg hl h4).1 d e;exact⟨p,v,rfl,.inl ⟨_,.inr k,aG.rd hs h1,rfl,hv.symm⟩,bg hs q rv⟩
  |_=>exact q.elim
 |_=>exact q.elim
def C9{k:US}{K:Ut}(hs:aG Ha H)(r1:Rep K Ha (.str k) v)(r2:Rep K Ha (.dic ks ds) u):∃p o,u=.ref p/\yj H p v o/\o.isSome=(Fs ks ds k).isSome:=by
 rw[Rep] at r2;obtain⟨p,kvs,vs,rfl,h1,rfl,hl,h4⟩:=r2;rw[Rep.str_iff.mp r1];refine⟨p,_,rfl,.inl ⟨_,.inr k,aG.rd hs h1,rfl,rfl⟩,?_⟩;cases e:Fs ks ds k with|none=>rw[(yg hl h4).2 e];rfl|some d=>obtain⟨v,hv,_⟩:=(yg hl h4).1 d e;rw[hv];rfl
def Be:qJ X.K E PB Iz:=by
 intro x y v u H Ha Q hs r1 r2 q;unfold Iz at q;cases x with
 |str k =>
  cases y with
  |dic ks ds =>
   obtain⟨p,o,e1,e2,e3⟩:=C9 hs r1 r2;exact⟨p,o,e1,e2,by rw[e3];exact bg hs q (rb _)⟩
  |_=>exact q.elim
 |_=>exact q.elim
def vU:qJ X.K E Cr rq:=by
 intro x y v u H Ha Q hs r1 r2 q;unfold rq at q;cases x with
 |str k =>
  cases y with
  |dic ks ds =>
   obtain⟨p,o,e1,e2,e3⟩:=C9 hs r1 r2;exact⟨p,o,e1,e2,by rw[e3];exact bg hs q (rb _)⟩
  |_=>exact q.elim
 |_=>exact q.elim
def Bc(hu:X.A.units+1<Wm):eQ X (Vj .In) PB:=by
 intro π s σ H x y v u Q I rx ry h;obtain⟨p,o,rfl,g,q⟩:=h;cases ry;exact SK hu I g rx λs' I'=>⟨.bl o.isSome,H,I',rfl,q⟩
def vT(hu:X.A.units+1<Wm):eQ X (Vj .NotIn) Cr:=by
 intro π s σ H x y v u Q I rx ry h;obtain⟨p,o,rfl,g,q⟩:=h;cases ry;exact K9 hu I g rx λs' I'=>⟨.bl (!o.isSome),H,I',rfl,q⟩
def gV(hu:X.A.units+1<Wm)(ha:DE X E a f)(hb:DE X E b g)(hs:Om b:=by intro _ _;rfl):DE X E (.Subscript a b pos) (ag f g kj) :=
 ⟨aZ (Kh hu ha.o hb.o hs) (jn Kq)⟩
end
section
variable {K:Ut}{E:XK}{He η Ha H H1:Hp}{σ:L2.St}{ρ:Ev}
def dD.putOwnG(h:dD K He η Ha σ H ρ)(hp:∀(j:Nat) (a:Uw),σ[j]?=some (some (V.ref a))->a=p->∀d:D,ρ[j]?≠some (Sl.ow d))(he:He p=none)(h0:Ha p=none)(ho:Lu K Ha H p dn)(hx:∀(i j:Nat) (ds:List D) (a q:Uw),ρ[i]?=some (.ox j ds)->σ[i]?=some (some (.ref a))->Rm K He Ha H a j ds q->p≠q) :
  dD K He η Ha (σ.set i (some (.ref p))) H (ρ.set i (.ow dn)):=by
 have key:∀(j:Nat) (s:Sl),(ρ.set i (.ow dn))[j]?=some s->(j=i/\s=.ow dn/\i<σ.length)∨(j≠i/\ρ[j]?=some s):=λj s e=>by
  by_cases hj:i=j
  .subst hj
   rw[Wr] at e;cases q:ρ[i]? with
   |none=>rw[q] at e;cases e
   |some s' =>
    rw[q] at e;cases e;refine .inl ⟨rfl,rfl,?_⟩;rw[←h.ln];exact(UA.mp q).1
  .rw[Uz hj] at e
   exact .inr ⟨λz=>hj z.symm,e⟩
 have other:∀(k:Nat) (d2:D),k≠i->ρ[k]?=some (.ow d2)->some (some (V.ref p))≠σ[k]?:=λk d2 hk e2 z=>by
  obtain⟨a,h1,_⟩:=h.ow k d2 e2;rw[h1] at z;cases z;exact hp k p h1 rfl d2 e2
 refine⟨h.g,λj d' e=>?_,λj d' e=>?_,λj k d1 d2 hn e1 e2=>?_,by simp [h.ln],h.ex.upd (λj s e=>?_) (aG.refl _) (λa vs _ e=>e) λp us _ h0 hp _=>⟨hp,h0⟩⟩
 rotate_left 3
 .rcases key j _ e with⟨rfl,e',hl⟩|⟨hj,e'⟩
  .exact .inr (.inr (.inr ⟨dn,p,e',by rw[U2 hl],hx⟩))
  .exact .inl ⟨e',by rw[Uz (Vh hj)]⟩
 .rcases key j _ e with⟨rfl,e',hl⟩|⟨hj,e'⟩
  .cases e'
  .obtain⟨v',h1,h2⟩:=h.rd j d' e'
   exact⟨v',by rw[Uz (Vh hj)];exact h1,h2⟩
 .rcases key j _ e with⟨rfl,e',hl⟩|⟨hj,e'⟩
  .cases e'
   exact⟨p,by rw[U2 hl],he,h0,ho⟩
  .obtain⟨a,h1,h2⟩:=h.ow j d' e'
   exact⟨a,by rw[Uz (Vh hj)];exact h1,h2⟩
 .rcases key j _ e1 with⟨rfl,_,hl⟩|⟨hj,e1'⟩
  .rcases key k _ e2 with⟨rfl,_,_⟩|⟨hk,e2'⟩
   .exact absurd rfl hn
   .rw[U2 hl,Uz (Vh hk)]
    exact other k d2 hk e2'
  .rcases key k _ e2 with⟨rfl,_,hl⟩|⟨hk,e2'⟩
   .rw[U2 hl,Uz (Vh hj)]
    exact λz=>other j d1 hj e1' z.symm
   .rw[Uz (Vh hj),Uz (Vh hk)]
    exact h.ap j k d1 d2 hn e1' e2'
def dD.writeG(h:dD K He η Ha σ H ρ)(e:ρ[i]?=some (.ow d))(es:σ[i]?=some (some (.ref p)))(ho:Lu K Ha (upd H p o) p dn) :
  dD K He η Ha σ (upd H p o) (ρ.set i (.ow dn)):=by
 obtain⟨a,h1,h2,h3,h4⟩:=h.ow i d e;rw[h1] at es;cases es;have hil:i<ρ.length:=(UA.mp e).1;have key:∀(j:Nat) (s:Sl),(ρ.set i (.ow dn))[j]?=some s->(j=i/\s=.ow dn)∨(j≠i/\ρ[j]?=some s):=λj s e=>by
  by_cases hj:i=j
  .subst hj
   rw[U2 hil] at e;cases e;exact .inl ⟨rfl,rfl⟩
  .rw[Uz hj] at e
   exact .inr ⟨λz=>hj z.symm,e⟩
 refine⟨⟨λb o' eb=>?_,h.g.z,λb o' eb=>?_,h.g.nw⟩,λj d' e'=>?_,λj d' e'=>?_,λj k d1 d2 hn e1 e2=>?_,by simp [h.ln],h.ex.upd (λj s e'=>?_) (aG.refl _) (λb us _ eb=>?_) λq us _ q0 hq hd=>?_⟩
 rotate_left 5
 .rcases key j _ e' with⟨rfl,e''⟩|⟨hj,e''⟩
  .exact .inr (.inr (.inr ⟨dn,p,e'',h1,λi' j' ds' a' p' x1 x2 x3=>by
    obtain⟨a2,p2,y1,y2,y3,_⟩:=h.ex.1 i' j' ds' x1;rw[x2] at y1;cases y1;have:p2=p':=by
     obtain⟨vs1,_,_,_,z1,_,_,_,z2,_⟩:=x3;obtain⟨vs2,_,_,_,z3,_,_,_,z4,_⟩:=y2;rw[z1] at z3;cases z3;rw[z2] at z4;cases z4;rfl
    subst this;intro zz;subst zz;exact y3 j d e h1⟩))
  .exact .inl ⟨e'',rfl⟩
 .rw[aw (by
   intro z;subst z;cases d with
   |lst ds'|dic ks ds'=>obtain⟨vs',h5,_⟩:=h4;rw[h5] at eb;cases eb
   |_=>exact h4)];exact eb
 .have hq':q≠p:=by
   intro z;subst z;exact hd i d e h1
  exact⟨by rw[aw hq'];exact hq,q0⟩
 .rw[aw (by intro z;subst z;rw[h2] at eb;cases eb)];exact h.g.s _ _ eb
 .rw[aw (by intro z;subst z;rw[h3] at eb;cases eb)];exact h.g.sub _ _ eb
 .rcases key j _ e' with⟨rfl,e''⟩|⟨hj,e''⟩
  .cases e''
  .exact h.rd j d' e''
 .rcases key j _ e' with⟨rfl,e''⟩|⟨hj,e''⟩
  .cases e''
   exact⟨p,h1,h2,h3,ho⟩
  .obtain⟨b,k1,k2,k3,k4⟩:=h.ow j d' e''
   refine⟨b,k1,k2,k3,?_⟩;have hb:b≠p:=by
    intro z;subst z;exact h.ap j i d' d hj e'' e (by rw[k1,h1])
   cases d' with
   |lst ds' =>
    obtain⟨vs',h5,h6⟩:=k4;exact⟨vs',by rw[aw hb];exact h5,h6⟩
   |dic ks ds' =>
    obtain⟨vs',h5,hl,h6⟩:=k4;exact⟨vs',by rw[aw hb];exact h5,hl,h6⟩
   |_=>exact k4.elim
 .rcases key j _ e1 with⟨rfl,e1'⟩|⟨hj,e1'⟩
  .rcases key k _ e2 with⟨rfl,_⟩|⟨hk,e2'⟩
   .exact absurd rfl hn
   .exact h.ap j k d d2 hn e e2'
  .rcases key k _ e2 with⟨rfl,_⟩|⟨hk,e2'⟩
   .exact h.ap j k d1 d hn e1' e
   .exact h.ap j k d1 d2 hn e1' e2'
end
noncomputable def Gx:List US->List D->US->D->List D
 |k::ks,e::ds,x,d=>(if k=x then d else e)::Gx ks ds x d
 |_,ds,_,_=>ds
noncomputable def MX(ks:List US) (ds:List D) (k:US) (d:D):D:=if k∈ks then .dic ks (Gx ks ds k d) else .dic (ks++[k]) (ds++[d])
theorem D1{k:US}:∀{ks:List US}{vs:List V},ks.length=vs.length->(((ks.map Vp).zip vs).any λkv=>decide (kv.1=(Vp k:fY)))=decide (k∈ks)
 |[],_,_=>rfl
 |x::ks,[],h=>nomatch h
 |x::ks,v::vs,h=>by
  rw[UW,VF,WB,D1 (by simpa using h)]
  by_cases hx:x=k
  .subst hx;simp
  .have:¬k=x:=λz=>hx z.symm
   simp [hx,this]
theorem Cq{K:Ut}{H:Hp}{k:US}{d:D}{v:V}(r:Rep K H d v):∀{ks:List US}{ds:List D}{vs:List V},ks.length=vs.length->Reps K H ds vs ->
  ∃vs',(((ks.map Vp).zip vs).map λkv=>if kv.1=(Vp k:fY) then(kv.1,v) else kv)=(ks.map Vp).zip vs'/\ks.length=vs'.length/\Reps K H (Gx ks ds k d) vs'
 |[],ds,vs,hl,h=>⟨vs,rfl,hl,by cases ds<;>exact h⟩
 |x::ks,ds,[],hl,h=>nomatch hl
 |x::ks,[],v'::vs,hl,h=>by have:=Reps.nil_iff.mp h;cases this
 |x::ks,e::ds,v'::vs,hl,h=>by
  obtain⟨v2,vr,e0,h1,h2⟩:=aJ.mp h;cases e0;obtain⟨vs',i1,i2,i3⟩:=Cq r (ks:=ks) (ds:=ds) (vs:=vs) (by simpa using hl) h2;rw[UW,VF,UW,i1]
  by_cases hx:x=k
  .subst hx
   refine⟨v::vs',by rw[if_pos rfl];rfl,by simp [i2],?_⟩;rw[Gx,if_pos rfl];exact Reps.cons r i3
  .have hne:¬(Vp x:fY)=Vp k:=λz=>hx (Zg z)
   refine⟨v'::vs',by rw[if_neg hne];rfl,by simp [i2],?_⟩;rw[Gx,if_neg hx];exact Reps.cons h1 i3
theorem Reps.snoc{K:Ut}(r:Rep K H d v):∀{ds:List D}{vs:List V},Reps K H ds vs->Reps K H (ds++[d]) (vs++[v])
 |[],vs,h=>by rw[Reps.nil_iff.mp h];exact Reps.cons r Reps.nil
 |e::ds,vs,h=>by
  obtain⟨v2,vr,rfl,h1,h2⟩:=aJ.mp h;exact Reps.cons h1 (Reps.snoc r h2)
def J3{K:Ut}{k:US}(hl:ks.length=vs.length)(h:Reps K Ha ds vs)(r:Rep K Ha d v):Lu K Ha (upd H p (.dK (ju ((ks.map Vp).zip vs) (Vp k) v))) p (MX ks ds k d):=by
 unfold MX;rw[show ∀(kvs:List (fY×V)) (u:V),ju kvs (Vp k:fY) u=if(kvs.any λkv=>decide (kv.1=(Vp k:fY)))=true then kvs.map (λkv=>if kv.1=(Vp k:fY) then(kv.1,u) else kv) else kvs++[((Vp k:fY),u)] from λ_ _=>rfl];rw[D1 hl]
 by_cases hk:k∈ks
 .rw[if_pos hk,if_pos (decide_eq_true hk)]
  obtain⟨vs',i1,i2,i3⟩:=Cq (k:=k) r hl h;exact⟨vs',by rw[aB,i1],i2,i3⟩
 .rw[if_neg hk,if_neg (by rw[decide_eq_false hk];decide)]
  refine⟨vs++[v],by rw[aB,V7,List.zip_append (by rw[Uv];exact hl)];rfl,by simp [hl],Reps.snoc r h⟩
noncomputable def T2(K:Ut) (E:XK) (f:Ev->aj D):TE:=λσ H Q=>∃Ha ρ,aG Ha H/\Reads K Ha σ ρ/\match f ρ with
 |.ok (.dic ks ds)=>∀p vs H' Ha',bB H Ha H' Ha'->H p=none->Ha' p=none->H' p=some (.dK ((ks.map Vp).zip vs))->ks.length=vs.length->Reps K Ha' ds vs->Q (.ref p) H'
 |.ok _=>False
 |.exn x=>∀C ox H' Ha',bB H Ha H' Ha'->AJ K Ha' x C ox->E C ox H'
 |.stuck=>False
structure Ta (X:Cx) (E:XK) (e:Vk) (f:Ev->aj D):Prop where
 o:PE X e (T2 X.K E f)
noncomputable def P5(i:Nat) (ρ:Ev) (d:D):aj Fl:=match d with
 |.dic ks ds=>.ok (.nx (ρ.set i (.ow (.dic ks ds))))
 |_=>.stuck
def Cn(i:Nat)(f:Ev->aj D):Ev->aj Fl:=λρ=>(f ρ).bind (P5 i ρ)
section
variable {X:Cx}{E:XK}{He η:Hp}{e b:Vk}{pos:Pos}{f k:Ev->aj D}
def DQ(hN:X.N.Nodup)(hi:X.N[i]?=some x)(hx:Fx X.env.scope x)(he:Ta X E e f)(hs:Vz e (some (.Name x pos')) pos.line X.env=pure false:=by rfl)
  (hf:X.fn x=true∨X.env.scope.names.lookup x=some .local := by first|exact .inl rfl|exact .inr rfl|assumption):DS X E He η (.Assign [.Name x pos'] e pos) (Cn i f):=by
 refine⟨?_⟩;refine bN (mv hN hi hx he.o hs hf) λD σ H z9=>?_;obtain⟨Ha,ρ,h,q⟩:=z9;refine⟨Ha,ρ,h.g.sub,h.rd,?_⟩
 unfold Cn at q;cases e1:f ρ with
 |stuck=>rw[e1] at q;exact q|exn x=>rw[e1] at q;exact λC ox H' Ha' g ex=>q C ox H' Ha' (h.g.trans g) ex
 |ok d =>
  rw[e1] at q;cases d with
  |dic ks ds =>
   intro p vs H' Ha' g hp h0 hv hl rp;refine q _ H' Ha' g.z ((h.grow g).putOwnG (dn:=.dic ks ds) (λj a ej ea d ed=>?_) (h.g.s.free hp) h0 ⟨vs,hv,hl,rp⟩ (h.fresh_x g.s hp));subst ea;obtain⟨a',k1,_,_,k4⟩:=h.ow j d ed;rw[ej] at k1;cases k1;cases d with|lst ds'|dic ks ds'=>obtain⟨vs',h5,_⟩:=k4;rw[hp] at h5;cases h5| _=>exact k4.elim
  |_=>exact q.elim
def K3:Ta X E (.Dict [] [] pos) (dC (.dic [] [])):=by
 refine⟨aZ zj λσ H Q ⟨Ha,ρ,hs,hr,q⟩=>λp hp=>?_⟩;have q:∀p vs H' Ha',bB H Ha H' Ha'->H p=none->Ha' p=none->H' p=some (.dK ((([]:List US).map Vp).zip vs))->([]:List US).length=vs.length->Reps X.K Ha' [] vs->Q (.ref p) H':=q;have h0:Ha p=none:=hs.free hp;refine q p [] _ Ha ⟨λb o q=>by rw[aw (bb q hp)];exact q,aG.refl _,λb o q=>?_,λa h1 h2=>absurd h2 h1⟩ hp h0 aB rfl Reps.nil;rw[aw (by intro z;subst z;rw[h0] at q;cases q)];exact hs _ _ q
end
def QV(k d:D):aj D:=match k with
 |.str x=>.ok (.dic [x] [d])
 |_=>.stuck
def Iy(kf vf:Ev->aj D):Ev->aj D:=ag kf vf QV
noncomputable def Bb(ρ:Ev) (i:Nat) (k:List US->List D->aj Fl):aj Fl:=match ρ[i]? with
 |some (.ow (.dic ks ds))=>k ks ds
 |_=>.stuck
noncomputable def ze(i:Nat) (ρ:Ev) (ks:List US) (ds:List D) (d j:D):aj Fl:=match j with
 |.str x=>if ks.length<line then .ok (.nx (ρ.set i (.ow (MX ks ds x d)))) else .stuck
 |_=>.stuck
noncomputable def Gp(i:Nat) (f k:Ev->aj D):Ev->aj Fl:=λρ=>Bb ρ i λks ds=>(f ρ).bind λd=>(k ρ).bind (ze i ρ ks ds d)
section
variable {X:Cx}{E:XK}{He η:Hp}{e b:Vk}{pos:Pos}{f k:Ev->aj D}
def E9(hk:DE X E b k)(hv:DE X E e f):Ta X E (.Dict [some b] [e] pos) (Iy k f):=by
 refine⟨?_⟩;refine aZ (Kg (GP hk.o hv.o J5) rfl rfl (by simp) (by simp)) λσ H Q ⟨Ha,ρ,hs,hr,q⟩ p hpn=>?_;have h0:Ha p=none:=hs.free hpn;have hs2:aG Ha (upd H p (.dK [])):=λb o e=>by rw[aw (by intro z;subst z;rw[h0] at e;cases e)];exact hs _ _ e
 have back:∀{H' Ha':Hp},bB (upd H p (.dK [])) Ha H' Ha'->bB H Ha H' Ha':=λg=>⟨λb o e=>g.s _ _ (by rw[aw (bb e hpn)];exact e),g.z,g.sub,λa k1 k2=>by
   have:=g.nw a k1 k2
   by_cases ha:a=p
   .subst ha;exact hpn
   .rw[aw ha] at this;exact this⟩
 refine⟨Ha,ρ,hs2,hr,?_⟩;unfold Iy ag at q;cases e1:k ρ with
 |stuck=>rw[e1] at q;exact q|exn z=>rw[e1] at q;exact λC ox H' Ha' g ex=>q C ox H' Ha' (back g) ex
 |ok kd =>
  rw[e1] at q;intro xk H1 H01 g1 r1;refine⟨H01,ρ,g1.sub,hr.mono g1.z,?_⟩;cases e2:f ρ with
  |stuck=>rw[e2] at q;exact q|exn z=>rw[e2] at q;exact λC ox H' Ha' g ex=>q C ox H' Ha' (back (g1.trans g)) ex
  |ok d =>
   rw[e2] at q;intro v H2 H02 g2 r2;cases kd with
   |str x =>
    have G:=g1.trans g2;have hp2:H2 p=some (.dK []):=G.s _ _ aB;have n02:H02 p=none:=by
     cases qq:H02 p with|none=>rfl|some o=>have:=G.nw p (by rw[qq];simp) h0;rw[aB] at this;cases this
    rw[Rep.str_iff.mp r1];refine⟨hp2,[(Vp x,v)],rfl,by simp,?_⟩;have q:∀p vs H' Ha',bB H Ha H' Ha'->H p=none->Ha' p=none->H' p=some (.dK (([x].map Vp).zip vs))->[x].length=vs.length->Reps X.K Ha' [d] vs->Q (.ref p) H':=q;refine q p [v] _ H02 ⟨λb o e=>?_,G.z,λb o e=>?_,(back G).nw⟩ hpn n02 aB rfl (Reps.cons r2 Reps.nil)
    .rw[aw (bb e hpn)];exact(back G).s _ _ e
    .rw[aw (by intro z;subst z;rw[n02] at e;cases e)];exact G.sub _ _ e
   |_=>exact q.elim
def EB{K:Ut}{k:List US->List D->aj Fl}(h:dD K He η Ha σ H ρ)(q:b5 K E He η Ha (Bb ρ i k) D') :
  ∃ks ds p vs,ρ[i]?=some (.ow (.dic ks ds))/\σ[i]?=some (some (.ref p))/\H p=some (.dK ((ks.map Vp).zip vs))/\ks.length=vs.length/\Reps K Ha ds vs/\b5 K E He η Ha (k ks ds) D':=by
 unfold Bb at q;cases e:ρ[i]? with
 |none=>rw[e] at q;exact q.elim
 |some s =>
  rw[e] at q;cases s with
  |no|sh d|ox j ds|pt a=>exact q.elim
  |ow d =>
   cases d with
   |dic ks ds =>
    obtain⟨p,h1,h2,h3,vs,h4,h5,h6⟩:=h.ow i _ e;exact⟨ks,ds,p,vs,rfl,h1,h4,h5,h6,q⟩
   |_=>exact q.elim
def GI{K:Ut}(h:dD K He η Ha σ H ρ)(e1:ρ[i]?=some (.ow (.dic ks ds)))(e2:σ[i]?=some (some (.ref p)))(e5:H p=some (.dK ((ks.map Vp).zip vs)))(el:ks.length=vs.length)(e6:Reps K Ha ds vs)
  (rp:Rep K Ha d v)(rj:Rep K Ha j u)(q:b5 K E He η Ha (ze i ρ ks ds d j) D'):∃a H4,V.ref p=.ref a/\Fz H a u v H4/\D'.nx σ H4:=by
 unfold ze at q;cases j with
 |str x =>
  by_cases hl:ks.length<line
  .simp only[if_pos hl] at q
   rw[Rep.str_iff.mp rj];refine⟨p,_,rfl,Fz.k (k:=.inr x) e5 ?_,?_⟩
   .rw[List.length_zip,Uv,←el,Y0]
    have:line<=sizeLine:=cG (UJ _);omega
   .exact q σ _ Ha (aG.refl _) (h.writeG e1 e2 (J3 el e6 rp))
  .simp only[if_neg hl] at q;exact q.elim
 |_=>exact q.elim
def DP(hu:X.A.units+1<Wm)(hN:X.N[i]?=some x)(hv:AH X.env.scope x)(he:DE X E e f)(hk:DE X E b k)
  (hd:(x==("__debug__" : US))=false:=by decide)(hcd:(x==("__classdict__" : US))=false:=by decide)
  (hs:Vz e (some (.Subscript (.Name x p1) b p2)) pos.line X.env=pure false:=by rfl):DS X E He η (.Assign [.Subscript (.Name x p1) b p2] e pos) (Gp i f k):=by
 refine⟨?_⟩;refine bN (J4 hu (gH hN hv hd hcd) hk.o he.o hs) λD σ H z9=>?_;obtain⟨Ha,ρ,h,q⟩:=z9;refine⟨Ha,ρ,h.g.sub,h.rd,?_⟩
 obtain⟨ks,ds,p,vs,e1,e2,e5,el,e6,q⟩:=EB h q;refine plain (k:=λd=>(k ρ).bind (ze i ρ ks ds d)) h q λd v H1 H01 _ g1 r1 q1=>⟨.ref p,e2,?_⟩
 have h1':=h.grow g1;refine⟨H01,ρ,h1'.g.sub,h1'.rd,plain (k:=ze i ρ ks ds d) h1' q1 λj u H2 H02 _ g2 r2 q2=>?_⟩;exact GI (h1'.grow g2) e1 e2 (g2.s _ _ (g1.s _ _ e5)) el ((e6.mono g1.z).mono g2.z) (r1.mono g2.z) r2 q2
end
mutual
def nd:D->Bool
 |.lst ds=>nds ds
 |.tup ds=>nds ds
 |.dic _ _=>false
 |.exc _=>false
 |.ob _ _=>false
 |_=>true
def nds:List D->Bool
 |[]=>true
 |d::ds=>nd d&&nds ds
end
mutual
theorem Rep.nd_to{K:Ut}{H H':Hp}(et:∀a vs,Rd H a (.tup vs)->Rd H' a (.tup vs))(el:∀a vs,Rd H a (.lst vs)->Rd H' a (.lst vs)):∀{d:D}{v:V},nd d=true->Rep K H d v->Rep K H' d v
 |.non,_,_,h=>by unfold Rep at h ⊢;exact h
 |.bl _,_,_,h=>by unfold Rep at h ⊢;exact h
 |.int _,_,_,h=>by unfold Rep at h ⊢;exact h
 |.str _,_,_,h=>by unfold Rep at h ⊢;exact h
 |.tup ds,_,f,h=>by
  unfold nd at f;obtain⟨a,vs,e1,e2,e3⟩:=aN.mp h;refine aN.mpr ⟨a,vs,e1,?_,Reps.nd_to et el f e3⟩;rcases e2 with e2|e2
  .exact .inl (et _ _ e2)
  .exact .inr e2
 |.lst ds,_,f,h=>by
  unfold nd at f;obtain⟨a,vs,e1,e2,e3⟩:=aI.mp h;refine aI.mpr ⟨a,vs,e1,?_,Reps.nd_to et el f e3⟩;rcases e2 with e2|e2
  .exact .inl (el _ _ e2)
  .exact .inr e2
 |.dic ks ds,_,f,h=>by unfold nd at f;cases f
 |.exc x,_,f,h=>by unfold nd at f;cases f
 |.ob k ds,_,f,h=>by unfold nd at f;cases f
theorem Reps.nd_to{K:Ut}{H H':Hp}(et:∀a vs,Rd H a (.tup vs)->Rd H' a (.tup vs))(el:∀a vs,Rd H a (.lst vs)->Rd H' a (.lst vs)):∀{ds:List D}{vs:List V},nds ds=true->Reps K H ds vs->Reps K H' ds vs
 |[],_,_,h=>by unfold Reps at h ⊢;exact h
 |d::ds,_,f,h=>by
  unfold nds at f;rw[U4] at f;obtain⟨v,r,e1,e2,e3⟩:=aJ.mp h;exact aJ.mpr ⟨v,r,e1,Rep.nd_to et el f.1 e2,Reps.nd_to et el f.2 e3⟩
end
noncomputable def qH(Ha J:Hp):Hp:=λa=>match Ha a with
 |some o=>some o
 |none=>match J a with
  |some (.dK _)=>none
  |o=>o
noncomputable def G4(ρ:Ev):Bool:=ρ.all λs=>match s with
 |.ow (.lst _)=>false
 |.ox _ _=>false
 |.pt _=>false
 |_=>true
section
variable {K:Ut}{E:XK}{He η Ha H H1 J:Hp}{σ:L2.St}{ρ:Ev}
def Lq(h:aG Ha J):∀a o,qH Ha J a=some o->J a=some o:=λa o e=>by
 unfold qH at e;cases q:Ha a with
 |some u=>rw[q] at e;cases e;exact h _ _ q
 |none =>
  rw[q] at e;cases q2:J a with
  |none=>rw[q2] at e;cases e
  |some u=>rw[q2] at e;cases u<;>first|(cases e;rfl)|cases e
def D6(h:aG Ha J)(e:J a=some o)(hn:∀kvs,o≠.dK kvs):qH Ha J a=some o:=by
 unfold qH;cases q:Ha a with
 |some u=>have:=h _ _ q;rw[e] at this;cases this;rfl
 |none=>rw[e];cases o<;>first|rfl|exact absurd rfl (hn _)
def D5(h:aG Ha J)(hu:∀kvs,u≠.dK kvs)(a:Uw)(e:Rd J a u):Rd (qH Ha J) a u:=by
 rcases e with e|⟨o,e⟩
 .exact .inl (D6 h e hu)
 .exact .inr ⟨o,D6 h e λ_ z=>nomatch z⟩
def dD.behindS(h:dD K He η Ha σ H ρ)(ho:G4 ρ=true)(g:bB H (frz He Ha H) H1 J):dD K He η (qH Ha J) σ H1 ρ:=by
 have hJ:aG Ha J:=h.frz_sub.trans g.z;have le:=Lq (Ha:=Ha) (J:=J) hJ;have z:aG Ha (qH Ha J):=λb o e=>by unfold qH;rw[e]
 have ok:∀(i:Nat) (s:Sl),ρ[i]?=some s->(match s with|.ow (.lst _)=>false|.ox _ _|.pt _=>false|_=>true)=true:=λi s e=>Vc.mp ho s (UN e);refine⟨⟨h.g.s.trans g.s,h.g.z.trans z,λb o e=>g.sub _ _ (le b o e),λa h1 h2=>?_⟩,h.rd.mono z,λi d e=>?_,h.ap,h.ln,OX.none (λi j ds e=>by have:=ok i _ e;cases this) (λi a e=>by have:=ok i _ e;cases this)⟩
 .cases q:qH Ha J a with
  |none=>exact absurd q h1
  |some o =>
   have hj:=le a o q;exact(h.frz_grow.trans g).nw a (by rw[hj];simp) h2
 .obtain⟨a,k1,k2,k3,k4⟩:=h.ow i d e
  cases d with
  |lst ds=>have:=ok i _ e;cases this
  |dic ks ds =>
   obtain⟨vs,h5,hl,h6⟩:=k4;refine⟨a,k1,k2,?_,vs,g.s _ _ h5,hl,h6.mono z⟩;have:frz He Ha H a=some (.dK ((ks.map Vp).zip vs)):=by unfold frz;rw[k2];exact h5
   have:=g.z _ _ this;unfold qH;rw[k3,this]
  |_=>exact k4.elim
end
noncomputable def LI(i:Nat) (ρ:Ev) (d:D):aj Fl:=if nd d=true/\G4 ρ=true then .ok (.nx (ρ.set i (.sh d))) else .stuck
def Gn(i:Nat)(f:Ev->aj D):Ev->aj Fl:=λρ=>(f (fz ρ)).bind (LI i ρ)
section
variable {X:Cx}{E:XK}{He η:Hp}{e b o:Vk}{pos apos cpos:Pos}{f k g:Ev->aj D}
def DJ(hN:X.N.Nodup)(hi:X.N[i]?=some x)(hx:Fx X.env.scope x)(he:DE X E e f)(hs:Vz e (some (.Name x pos')) pos.line X.env=pure false:=by rfl)
  (hf:X.fn x=true∨X.env.scope.names.lookup x=some .local := by first|exact .inl rfl|exact .inr rfl|assumption):DS X E He η (.Assign [.Name x pos'] e pos) (Gn i f):=by
 refine⟨?_⟩;refine bN (mv hN hi hx he.o hs hf) λD σ H z9=>?_;obtain⟨Ha,ρ,h,q⟩:=z9;refine⟨frz He Ha H,fz ρ,h.frz_le,h.looks,?_⟩
 refine look h q λd v H' J _ g rp q'=>?_;unfold LI at q'
 by_cases fl:nd d=true/\G4 ρ=true
 .rw[if_pos fl] at q'
  have hJ:aG Ha J:=h.frz_sub.trans g.z;refine q' _ H' (qH Ha J) (λb o e=>by unfold qH;rw[e]) ((h.behindS fl.2 g).put (rp.nd_to (λa vs e=>D5 hJ (λ_ z=>by cases z) a e) (λa vs e=>D5 hJ (λ_ z=>by cases z) a e) fl.1))
 .rw[if_neg fl] at q';exact q'.elim
def un1(h:n+64<Wm):n+1<Wm:=Wu (by omega) h
end
noncomputable def pW(K:Ut) (He η Ha:Hp) (σ:L2.St) (ρ:Ev) (r:aj D) (D':jK):Prop:=match r with
 |.ok _=>∀H' Ha',aG Ha Ha'->dD K He η Ha' σ H' ρ->D'.nx σ H'
 |.exn _=>True
 |.stuck=>False
noncomputable def Ql(K:Ut) (He η Ha:Hp) (σ:L2.St) (ρ:Ev) (r:aj D):XK:=λC ox H'=>∃x Ha',r=.exn x/\aG Ha Ha'/\dD K He η Ha' σ H' ρ/\AJ K Ha' x C ox
structure T1 (X:Cx) (st:V0) (g:Ev->aj D):Prop where
 o:∀(π:List (Uw×Obj)) (s:UE) (σ:L2.St) (H He η Ha:Hp) (ρ:Ev) (D':jK) (XE:Us->UE->Prop),Inv X π σ H s->dD X.K He η Ha σ H ρ->pW X.K He η Ha σ ρ (g ρ) D' ->
  (∀H1 s1 e s',Inv X π σ H1 s1->gb X.prog X.w X.stack H1 s1 (Ql X.K He η Ha σ ρ (g ρ)) e s'->XE e s')->UO (UM X.prog X.w) X.A (exec st X.env) (SP X π D') XE s
structure TK (X:Cx) (sts:List V0) (g:Ev->aj D):Prop where
 o:∀(π:List (Uw×Obj)) (s:UE) (σ:L2.St) (H He η Ha:Hp) (ρ:Ev) (D':jK) (XE:Us->UE->Prop),Inv X π σ H s->dD X.K He η Ha σ H ρ->pW X.K He η Ha σ ρ (g ρ) D' ->
  (∀H1 s1 e s',Inv X π σ H1 s1->gb X.prog X.w X.stack H1 s1 (Ql X.K He η Ha σ ρ (g ρ)) e s'->XE e s')->UO (UM X.prog X.w) X.A (execs sts X.env) (SP X π D') XE s
def Bu:Ev->aj D:=λ_=>.ok .non
def zM(g:Ev->aj D)(ρ:Ev)(_:D):aj D:=g ρ
def qB(f g:Ev->aj D):Ev->aj D:=λρ=>(f ρ).bind (zM g ρ)
noncomputable def ER(g:Ev->aj D) (ρ:Ev) (r:aj D):aj D:=match r with
 |.ok (.bl b)=>if b=true then g ρ else .ok .non
 |_=>.stuck
def Nx(fc g:Ev->aj D):Ev->aj D:=λρ=>ER g ρ (fc (fz ρ))
noncomputable def tm(m:List D->aj D) (r:aj (List D)):aj D:=match r with
 |.ok ds=>m ds
 |_=>.stuck
def pY(fa:Ev->aj (List D))(m:List D->aj D):Ev->aj D:=λρ=>tm m (fa ρ)
def gb.imp(h:∀C ox H',E C ox H'->E' C ox H')(c:gb P w outer H s E e s'):gb P w outer H s E' e s':=by
 obtain⟨a,C,a0,B,H',h1,h2,h3,h4,h5,h6,h7,h8,h9,h10,hE⟩:=c;exact⟨a,C,a0,B,H',h1,h2,h3,h4,h5,h6,h7,h8,h9,h10,h _ _ _ hE⟩
section
variable {X:Cx}{E:XK}{c e:Vk}{es:List Vk}{fc f g:Ev->aj D}{fa:Ev->aj (List D)}{st:V0}{sts:List V0}{pos:Pos}
def oQ:TK X [] Bu:=⟨λπ s σ H He η Ha ρ D' XE I h q hx=>wpAny_execs_nil ⟨σ,H,I,q H Ha (aG.refl _) h⟩⟩
def gf(h1:T1 X st f)(h2:TK X sts g):TK X (st::sts) (qB f g):=⟨λπ s σ H He η Ha ρ D' XE I h q hx=>by
 have q:pW X.K He η Ha σ ρ ((f ρ).bind (zM g ρ)) D':=q;have hx:∀H1 s1 e s',Inv X π σ H1 s1->gb X.prog X.w X.stack H1 s1 (Ql X.K He η Ha σ ρ ((f ρ).bind (zM g ρ))) e s'->XE e s':=hx;cases e1:f ρ with
 |stuck=>rw[e1] at q;exact q.elim
 |exn x =>
  rw[e1] at hx;refine wpAny_execs_cons (cH (h1.o π s σ H He η Ha ρ ⟨λ_ _=>False,λ_ _=>False,λ_ _=>False,λ_ _=>False⟩ XE I h (by rw[e1];trivial) λH1 s1 e s' I1 hc=>hx H1 s1 e s' I1 (by rw[e1] at hc;exact hc)) λfl s1 hf=>?_);cases fl with|next|brk|cont=>obtain⟨_,_,_,k⟩:=hf;exact k.elim|ret u=>obtain⟨_,_,_,_,_,k⟩:=hf;exact k.elim
 |ok d =>
  rw[e1] at q hx;refine wpAny_execs_cons (cH (h1.o π s σ H He η Ha ρ ⟨λσ' H'=>σ'=σ/\∃Ha',aG Ha Ha'/\dD X.K He η Ha' σ H' ρ,λ_ _=>False,λ_ _=>False,λ_ _=>False⟩ XE I h (by rw[e1];exact λH' Ha' z h'=>⟨rfl,Ha',z,h'⟩) λH1 s1 e s' I1 hc=>?_) λfl s1 hf=>?_)
  .refine hx H1 s1 e s' I1 (gb.imp (λC ox H' ⟨x,Ha',e2,k⟩=>?_) hc)
   rw[e1] at e2;cases e2
  .cases fl with
   |next =>
    obtain⟨σ',H',I',rfl,Ha',z,h'⟩:=hf;refine h2.o π s1 σ' H' He η Ha' ρ D' XE I' h' ?_ λH1 s2 e s' I1 hc=>hx H1 s2 e s' I1 (gb.imp (λC ox H2 ⟨x,H02,e2,z2,k⟩=>⟨x,H02,e2,z.trans z2,k⟩) hc);have q:pW X.K He η Ha σ' ρ (g ρ) D':=q;cases e2:g ρ with|stuck=>rw[e2] at q;exact q|exn x=>trivial|ok d2=>rw[e2] at q;exact λH2 H02 z2 h2=>q H2 H02 (z.trans z2) h2
   |brk=>obtain⟨_,_,_,k⟩:=hf;exact k.elim
   |cont=>obtain⟨_,_,_,k⟩:=hf;exact k.elim
   |ret u=>obtain⟨_,_,_,_,_,k⟩:=hf;exact k.elim⟩
def yO(hc:DT X.nox E0 c fc)(ha:TK X sts g):T1 X (.If c sts [] pos) (Nx fc g):=⟨λπ s σ H He η Ha ρ D' XE I h q hx=>by
 have hc':=PT.nox (X:=X.wish XE) hc.o;have q:pW X.K He η Ha σ ρ (ER g ρ (fc (fz ρ))) D':=q;have hx:∀H1 s1 e s',Inv X π σ H1 s1->gb X.prog X.w X.stack H1 s1 (Ql X.K He η Ha σ ρ (ER g ρ (fc (fz ρ)))) e s'->XE e s':=hx;cases e1:fc (fz ρ) with
 |stuck|exn x=>rw[e1] at q;exact q.elim
 |ok d =>
  rw[e1] at q hx;cases d with
  |bl b =>
   refine wpAny_If (cH (hc' π s σ H (λb' H1=>b'=b/\aG H H1) (I.wish XE) ⟨frz He Ha H,fz ρ,h.frz_le,h.looks,?_⟩) λd s1 ⟨H1,I1,eb,hs⟩=>?_)
   .rw[e1];exact λH' J g=>⟨rfl,g.s⟩
   .subst eb
    cases d with|true=>exact ha.o π s1 σ H1 He η Ha ρ D' XE I1.unwish (h.same hs) q hx|false=>exact wpAny_execs_nil ⟨σ,H1,I1.unwish,q H1 Ha (aG.refl _) (h.same hs)⟩
  |_=>exact q.elim⟩
def JR{k n:Nat}{ps:List US}(F:fZ X.prog X.w X.K X.mg X.base (gb X.prog X.w) k fn fd ps (spD X.K n m))(hr:cW k X.A)(t:FT X.K X.mg x st ps fn fd)(ha:DA X.nox E0 (e::es) fa)(hl:∀ρ ds,fa ρ=.ok ds->ds.length=(e::es).length)(hn:(e::es).length=n:=by rfl)
  (hg:Gl X x:=by exact rfl)(hdb:(x==("__debug__" : US))=false:=by decide)(he:Uy (e::es) X.env=(false,eval e X.env)::Uy es X.env:=by exact aV rfl)(hpl:(VA cpos (Uy es X.env)).any (·.1)=false:=by exact bL rfl)
  (hs:Vz (.Call (.Name x p) (e::es) [] cpos) none pos.line X.env=pure false:=by rfl):T1 X (.Expr (.Call (.Name x p) (e::es) [] cpos) pos) (pY fa m):=⟨λπ s σ H He η Ha ρ D' XE I h q hx=>by
 have q:pW X.K He η Ha σ ρ (tm m (fa ρ)) D':=q;have hx:∀H1 s1 e s',Inv X π σ H1 s1->gb X.prog X.w X.stack H1 s1 (Ql X.K He η Ha σ ρ (tm m (fa ρ))) e s'->XE e s':=hx;refine wpAny_Expr_any (cH (D0 (Q:=λv H1=>D'.nx σ H1) F hr hg t.g t.F.kp t.b ha.o I ?_ hx hdb he hpl) λv s1 ⟨y,H1,I1,r1,q1⟩=>⟨σ,H1,I1,q1⟩) I.quiet hs;refine⟨Ha,ρ,h.g.sub,h.rd,?_⟩;cases e1:fa ρ with
 |stuck=>rw[e1] at q;exact q|exn x=>rw[e1] at q;exact q.elim
 |ok ds =>
  rw[e1] at q;intro vs H1 H01 g1 r1;refine⟨?_,H01,ds,g1.sub,r1,?_⟩
  .have:=r1.length
   have:=hl ρ ds e1;omega
  .show post _ _ _ _ (m ds) _
   have q:pW X.K He η Ha σ ρ (m ds) D':=q;cases e2:m ds with
   |stuck=>rw[e2] at q;exact q|exn x=>exact λC ox H' Ha' g ex=>⟨x,Ha',e2,g1.z.trans g.z,h.grow (g1.trans g),ex⟩
   |ok d =>
    rw[e2] at q;exact λv H' Ha' g rp=>q H' Ha' (g1.z.trans g.z) (h.grow (g1.trans g))⟩
noncomputable def mU(hit:US->Bool) (ni:Nat) (sh:Ev->aj Fl) (ρ:Ev) (r:aj D):aj Fl:=match r with
 |.exn x=>if hit x.cls=true then(sh (ρ.set ni (.sh (lV x)))).bind (vx ni) else .stuck
 |.ok _=>.ok (.nx ρ)
 |.stuck=>.stuck
noncomputable def Gm(g:Ev->aj D) (hit:US->Bool) (ni:Nat) (sh:Ev->aj Fl):Ev->aj Fl:=λρ=>mU hit ni sh ρ (g ρ)
def KY{c n:US}(hstk:X.stack=X.env::X.outer/\X.env.frame=some X.env.locals)(hb:TK X sts g)
  (hg:Gl X c)(hm:X.mg c=some cv)(hhit:∀x C,hit x=true->XC X.K x C->YC X.K (.ref C) cv=some true)(hN:X.N.Nodup)(hi:X.N[ni]?=some n)(hlo:X.env.scope.names.lookup n=some .local)
  (hh:∀ea,AQ (DL.hand X ea) E He η (ba::suite) sh)(hdb:(c==("__debug__" : US))=false:=by decide) :
  DS X E He η (.Try sts [.ExceptHandler (some (.Name c np)) (some n) (ba::suite) hpos] [] [] pos) (Gm g hit ni sh):=by
 refine⟨?_⟩;intro π s σ H D I ⟨Ha,ρ,h,q⟩;have q:b5 X.K E He η Ha (mU hit ni sh ρ (g ρ)) D:=q;have hq:pW X.K He η Ha σ ρ (g ρ) D:=by
  cases e1:g ρ with|exn x=>trivial|stuck=>rw[e1] at q;exact q|ok r=>rw[e1] at q;exact λH' Ha' z h'=>q σ H' Ha' z h'
 refine wpAny_Try_except (cH (hb.o π s σ H He η Ha ρ D _ I h hq λH1 s1 e s' I1 hc=>?_) λf s1 hf=>?_)
 .have hit1:∀x,g ρ=.exn x->hit x.cls=true:=λx e1=>by
   rw[e1] at q;unfold mU at q
   by_cases z:hit x.cls=true
   .exact z
   .simp only[if_neg z] at q;exact q.elim
  refine IG hstk I1 hc hg hm (λC ox H' ⟨x,Ha',e1,_,_,⟨⟨c',ec,xc⟩,_⟩⟩=>?_) hN hi hlo (λea C dc ox H' s2 ⟨x,Ha',e1,sm,srx,⟨⟨c',ec,xc⟩,hm2⟩⟩ hox hne I2=>?_) hdb
  .cases ec;exact hhit _ _ (hit1 x e1) xc
  .cases ec
   refine(hh ea).o π s2 _ _ _ I2 ⟨upd Ha' ea (.ext (yl ea C dc)),ρ.set ni (.sh (lV x)),(srx.grow (aO srx.g.sub hne)).put (zW xc ⟨⟨C,rfl,xc⟩,hm2⟩ hox (srx.g.sub.free hne)),?_⟩;have sm2:aG Ha (upd Ha' ea (.ext (yl ea C dc))):=sm.trans (aO srx.g.sub hne).z;rw[e1] at q;unfold mU at q;simp only[if_pos (hit1 x e1)] at q;cases e2:sh (ρ.set ni (.sh (lV x))) with
   |stuck|exn z=>rw[e2] at q;exact q
   |ok r =>
    rw[e2] at q;cases r with|nx ρ'=>exact λσ' H2 H02 s2 h2=>q _ H2 H02 (sm2.trans s2) (dD.drop h2)|rt d=>exact q|bk ρ'=>exact λσ' H2 H02 s2 h2=>q _ H2 H02 (sm2.trans s2) (dD.drop h2)|ct ρ'=>exact λσ' H2 H02 s2 h2=>q _ H2 H02 (sm2.trans s2) (dD.drop h2)
 .cases f with
  |next=>exact wpAny_execs_nil hf
  |brk=>exact hf
  |cont=>exact hf
  |ret u=>exact hf
end
end DL
namespace DL
open PySem.SeqAt
open PySem PySem.Spec PyProof.Rows L2
def kq(l b:Uw)(items:Array Us)(n:Nat)(dd dd2:Option Uw)(es:Array XG)(ne:Nat)(sl sl2:Array (Option Us)) :
  Meets (Builtin.«list.__ne__» ⟨[.ref l,.ref b],[]⟩) (λ_ R s=>s.heap.get? l=some { cls:=.type "list",dict:=dd,data:=.seq items n,slots:=sl }/\s.heap.get? b=some { cls:=.type "dict",dict:=dd2,data:=.dict es ne,slots:=sl2 }/\R (.ok (.ret .notImplemented)) s) :=
 .of_wp λprog w A R s h=>by obtain⟨hp,g,d,tk,os⟩:=s;obtain⟨hl,hb,h⟩:=h;have f1:=F.sub_dict_list;wp_walk using wpAny_loadPart' hl,wpAny_loadPart' hb;exact⟨_,rfl,h⟩
def kT(b:Int)(u:Tok)(l:Uw)(es:Array XG)(ne:Nat)(dd:Option Uw)(sl:Array (Option Us)) :
  Meets (Builtin.«int.__ne__» ⟨[.int b u,.ref l],[]⟩) (λ_ R s=>s.heap.get? l=some { cls:=.type "dict",dict:=dd,data:=.dict es ne,slots:=sl }/\R (.ok (.ret .notImplemented)) s) :=
 .of_wp λprog w A R s h=>by obtain⟨hp,g,d,tk,os⟩:=s;obtain⟨hl,h⟩:=h;wp_walk using wpAny_loadPart' hl,wpAny_load hl;exact⟨_,rfl,h⟩
section
variable {A:Vw}{s:UE}{prog:Vq}{w:VL}{Ex:Us->UE->Prop}
def jD(da:s.TypeIs (.ref a) "dict")(hy:s.TypeIs y T)(hsub:isSubtype (.type T) (.type "dict")=pure false)(hs:Slot "dict" f "dict.__ne__")(h:Q .notImplemented s) :
  UO (UM prog w) A (call (.builtin "dict.__ne__") [.ref a,y]) Q Ex s:=by
 refine wpAny_call_entry hs da PySem.F.entry_dict_ne ?_ (PySem.F.args_dict_ne_2 _ _);show UO _ _ (WS "__ne__" ⟨[.ref a,y],[]⟩ >>= _) _ _ s;refine Uu ?_;unfold WS;refine Uu (wpAny_notOrdered_dict da ?_);show UO _ _ (pure (U8 a,y)) _ _ s;refine UU ?_;refine Uu (wpAny_isInstance (T:=T) hy hsub ?_);simp only[WJ,if_true];refine Uu (wpAny_rule ?_);exact UU ⟨_,rfl,h⟩
end
section
variable {A:Vw}{s:UE}{prog:Vq}{w:VL}{Ex:Us->UE->Prop}{K:Type}[DecidableEq K] {knd:KeyKind prog w K}{kvs:List (K×Us)}
def xu{a l:Uw}{items:Array Us}{Q:Us->UE->Prop}(hd:s.heap.DictOf knd a kvs)(hl:s.heap.IsList l items)(hu:A.units<Wm)(h:Q (.bool true) s) :
  UO (UM prog w) A (Vj .NotEq (.ref a) (.ref l)) Q Ex s:=by
 have ta:=hd.typeIs;obtain⟨⟨c1,d1,t1,s1⟩,es,ep,ho,⟨hc,hx⟩,hdt,_,_,_⟩:=id hd;obtain⟨⟨cls,dd,data,sl⟩,ho2,hc2,n,hd2⟩:=id hl;simp only at hc hdt hc2 hd2;subst hc hdt hc2 hd2;have hne:a≠l:=by intro e;subst e;rw[ho] at ho2;have:=congrArg (λo=>o.map (·.cls)) ho2;simp at this
 exact rc_ne_decline_or (k:=false) ta ⟨_,ho2,rfl⟩ (by decide) XS X1 Zq
  (λ_ hq=>jD (T:="list") (y:=.ref l) ta ⟨_,ho2,rfl⟩ XS X1 hq)
  (λ_ hq=>call_meets Zq ⟨_,ho2,rfl⟩ F.entry_list_ne (F.args_list_ne_2 _ _) (kq l a items n dd d1 es ep sl s1) ⟨ho2,ho,hq⟩)
  (λ_ hq=>wpAny_isSame_ref_other hne ho ho2 (by simp) hq) (.inr hu) h
def zB{a:Uw}{b:Int}{u:Tok}{Q:Us->UE->Prop}(hd:s.heap.DictOf knd a kvs)(hu:A.units<Wm)(h:Q (.bool true) s) :
  UO (UM prog w) A (Vj .NotEq (.ref a) (.int b u)) Q Ex s:=by
 have ta:=hd.typeIs;obtain⟨⟨c1,d1,t1,s1⟩,es,ep,ho,⟨hc,hx⟩,hdt,_,_,_⟩:=id hd;simp only at hc hdt;subst hc hdt;exact rc_ne_decline_or (k:=false) ta (typeIs_int s b u) (by decide) F.sub_int_dict X1 F.slot_int_ne_refl
  (λ_ hq=>jD ta (typeIs_int s b u) F.sub_int_dict X1 hq)
  (λ_ hq=>call_meets F.slot_int_ne_refl (typeIs_int s b u) F.entry_int_ne (F.args_int_ne_2 _ _) (kT b u a es ep d1 s1) ⟨ho,hq⟩)
  (λ_ hq=>wpAny_of_eq (rfl:isSame (.ref a) (.int b u)=pure false) hq) (.inr hu) h
end
noncomputable def Iu(x y:D):aj D:=match x,y with
 |.dic _ _,.lst _=>.ok (.bl true)
 |.dic _ _,.int _=>.ok (.bl true)
 |x,y=>La x y
noncomputable def MS(K:Ut):R2:=λv u H Q=>J0 K v u H Q∨∃a kvs,v=.ref a/\Rd H a (.dK kvs)/\((∃b xs,u=.ref b/\eX K H b xs)∨∃i,u=.int i)/\Q (.bl true) H
def Nd(hu:X.A.units+64<Wm):eQ X (Vj .NotEq) (MS X.K):=eQ.or (Nf hu) (by
 intro π s σ H x y v u Q I rx ry h;obtain⟨a,kvs,rfl,ha,hb,q⟩:=h;cases rx;obtain⟨_,n1,vs,k1,d1⟩:=(show bT X.prog X.w H s.heap a (.dK kvs) from ha.ok I.hok)
 rcases hb with⟨b,xs,rfl,hq⟩|⟨i,rfl⟩
 .cases ry
  obtain⟨its,rv,pl,hz⟩:=I.list hq;exact xu d1 pl.isList (by omega) ⟨.bl true,H,I,rfl,q⟩
 .obtain⟨t,rfl⟩:=ry
  exact zB d1 (by omega) ⟨.bl true,H,I,rfl,q⟩)
def Ni{X:Cx}:qJ X.K E (MS X.K) Iu:=by
 intro x y v u H Ha Q hs r1 r2 q;have old:post X.K E H Ha (La x y) Q->MS X.K v u H Q:=λq=>.inl (Nj x y v u H Ha Q hs r1 r2 q);unfold Iu at q;split at q
 .rw[Rep] at r1
  obtain⟨a,kvs,vs,h1,h2,h3,h4,h5⟩:=r1;obtain⟨b,xs,h6,h7,h8⟩:=aI.mp r2;exact .inr ⟨a,kvs,h1,aG.rd hs h2,.inl ⟨b,xs,h6,aG.sqL hs h7⟩,bg hs q (aK.mpr rfl)⟩
 .rw[Rep] at r1
  obtain⟨a,kvs,vs,h1,h2,h3,h4,h5⟩:=r1;exact .inr ⟨a,kvs,h1,aG.rd hs h2,.inr ⟨_,aC.mp r2⟩,bg hs q (aK.mpr rfl)⟩
 .exact old q
end DL
namespace DL
open PySem PySem.Spec PyProof.Rows L2
def Lk{ws:List Us}(ht:IsTup s.heap t ([]:List Us).toArray)(hb:IsTup s.heap b ws.toArray)
  (h1:Q (.ref b) s):UO (UM prog w) A (binaryOp .Add (.ref t) (.ref b)) Q E s:=by
 obtain⟨⟨cls,dd,data,sl⟩,ho,hc,n,hd⟩:=id ht;obtain⟨⟨cls2,dd2,data2,sl2⟩,ho2,hc2,n2,hd2⟩:=id hb;simp only at hc hd hc2 hd2;subst hc hd hc2 hd2;exact concat_meets ⟨_,ho,rfl⟩ ⟨_,ho2,rfl⟩ noFill_tuple_add seq_tuple_add XI XD (Xu _ _)
   (tuple_addW0 t b _ ws.toArray n n2 dd dd2 sl sl2 (by simp)) ⟨ho,ho2,h1⟩
noncomputable def PH(K:Ut):R2:=λv u H Q=>∃a b ys,v=.ref a/\u=.ref b/\kn K H a []/\kn K H b ys/\Q (.ref b) H
section
variable {X:Cx}{E:XK}{a b:Vk}{f g:Ev->aj D}{pos:Pos}
def Kl:eQ X (binaryOp .Add) (PH X.K):=by
 intro π s σ H x y v u Q I rx ry h;obtain⟨a,b,ys,rfl,rfl,ha,hb,q⟩:=h;cases rx;cases ry;obtain⟨its,r1,p1,_⟩:=I.tuple ha;obtain⟨its2,r2,p2,_⟩:=I.tuple hb;obtain rfl:its=[]:=r1.nil_iff.mpr rfl;exact Lk p1 p2 ⟨.ref b,H,I,rfl,q⟩
noncomputable def wk(x y:D):aj D:=match x,y with
 |.tup [],.tup es=>.ok (.tup es)
 |.tup ds,.tup es=>if ds.isEmpty=false/\ds.length+es.length<=line then .ok (.tup (ds++es)) else .stuck
 |_,_=>.stuck
def DX(ha:DE X E a f)(hb:DE X E b g):DE X E (.BinOp a .Add b pos) (ag f g wk):=uQ (eQ.or Kl xj) (by
 intro x y v u H Ha Q hs r1 r2 q;unfold wk at q;cases x with
 |tup ds =>
  cases y with
  |tup es =>
   cases ds with
   |nil =>
    obtain⟨l,vs,rfl,h1,h2⟩:=aN.mp r1;obtain⟨m,us,rfl,k1,k2⟩:=aN.mp r2;obtain rfl:vs=[]:=Reps.nil_iff.mp h2;exact .inl ⟨l,m,us,rfl,rfl,aG.sqT hs h1,aG.sqT hs k1,bg hs q r2⟩
   |cons d ds =>
    simp only at q
    by_cases h:(d::ds).isEmpty=false/\(d::ds).length+es.length<=line
    .simp only[if_pos h] at q
     obtain⟨l,vs,rfl,h1,h2⟩:=aN.mp r1;obtain⟨m,us,rfl,k1,k2⟩:=aN.mp r2;refine .inr ⟨l,m,vs,us,rfl,rfl,aG.sqT hs h1,aG.sqT hs k1,λz=>?_,by rw[←h2.length,←k2.length];exact cG h.2,λz=>?_,λz p hp=>?_⟩
     .have:=h2.length
      rw[z] at this;cases this
     .have:=k2.length
      rw[z] at this;have e:es=[]:=VX.mp this;rw[e,Vo] at q;exact bg hs q r1
     .exact q _ _ _ (aO hs hp) (aN.mpr ⟨p,_,rfl,kn.of aB,(h2.app k2).mono (aO hs hp).z⟩)
    .simp only[if_neg h] at q;exact q.elim
  |_=>cases ds<;>exact q.elim
 |_=>exact q.elim) ha hb
end
end DL
namespace DL
open PySem.SeqAt
open PySem PySem.Spec PyProof.Rows L2
def kr(l b:Uw)(items:Array Us)(n:Nat)(dd dd2:Option Uw)(es:Array XG)(ne:Nat)(sl sl2:Array (Option Us)) :
  Meets (Builtin.«list.__eq__» ⟨[.ref l,.ref b],[]⟩) (λ_ R s=>s.heap.get? l=some { cls:=.type "list",dict:=dd,data:=.seq items n,slots:=sl }/\s.heap.get? b=some { cls:=.type "dict",dict:=dd2,data:=.dict es ne,slots:=sl2 }/\R (.ok (.ret .notImplemented)) s) :=
 .of_wp λprog w A R s h=>by obtain⟨hp,g,d,tk,os⟩:=s;obtain⟨hl,hb,h⟩:=h;have f1:=F.sub_dict_list;wp_walk using wpAny_loadPart' hl,wpAny_loadPart' hb;exact⟨_,rfl,h⟩
section
variable {A:Vw}{s:UE}{prog:Vq}{w:VL}{Ex:Us->UE->Prop}{K:Type}[DecidableEq K] {knd:KeyKind prog w K}{kvs:List (K×Us)}
def pB(da:s.TypeIs (.ref a) "dict")(hy:s.TypeIs y T)(hsub:isSubtype (.type T) (.type "dict")=pure false)(hs:Slot "dict" f "dict.__eq__")(h:Q .notImplemented s) :
  UO (UM prog w) A (call (.builtin "dict.__eq__") [.ref a,y]) Q Ex s:=by
 refine wpAny_call_entry hs da PySem.F.entry_dict_eq ?_ (PySem.F.args_dict_eq_2 _ _);show UO _ _ (WS "__eq__" ⟨[.ref a,y],[]⟩ >>= _) _ _ s;refine Uu ?_;unfold WS;refine Uu (wpAny_notOrdered_dict da ?_);show UO _ _ (pure (U8 a,y)) _ _ s;refine UU ?_;refine Uu (wpAny_isInstance (T:=T) hy hsub ?_);simp only[WJ,if_true];refine Uu (wpAny_rule ?_);exact UU ⟨_,rfl,h⟩
def xM{a l:Uw}{items:Array Us}{Q:Us->UE->Prop}(hd:s.heap.DictOf knd a kvs)(hl:s.heap.IsList l items)(hu:A.units<Wm)(h:Q (.bool false) s) :
  UO (UM prog w) A (Vj .Eq (.ref a) (.ref l)) Q Ex s:=by
 have ta:=hd.typeIs;obtain⟨⟨c1,d1,t1,s1⟩,es,ep,ho,⟨hc,hx⟩,hdt,_,_,_⟩:=id hd;obtain⟨⟨cls,dd,data,sl⟩,ho2,hc2,n,hd2⟩:=id hl;simp only at hc hdt hc2 hd2;subst hc hdt hc2 hd2;have hne:a≠l:=by intro e;subst e;rw[ho] at ho2;have:=congrArg (λo=>o.map (·.cls)) ho2;simp at this
 exact rc_eq_decline_or (k:=false) ta ⟨_,ho2,rfl⟩ (by decide) XS F.slot_dict_eq Zr
  (λ_ hq=>pB (T:="list") (y:=.ref l) ta ⟨_,ho2,rfl⟩ XS F.slot_dict_eq hq)
  (λ_ hq=>call_meets Zr ⟨_,ho2,rfl⟩ F.entry_list_eq (F.args_list_eq_2 _ _) (kr l a items n dd d1 es ep sl s1) ⟨ho2,ho,hq⟩)
  (λ_ hq=>wpAny_isSame_ref_other hne ho ho2 (by simp) hq) (.inr hu) h
end
noncomputable def mL(x y:D):aj D:=match x,y with
 |.dic _ _,.lst _=>.ok (.bl false)
 |x,y=>gw x y
noncomputable def MU(K:Ut):R2:=λv u H Q=>MV K v u H Q∨∃a kvs,v=.ref a/\Rd H a (.dK kvs)/\(∃b xs,u=.ref b/\eX K H b xs)/\Q (.bl false) H
def G2(hu:X.A.units+64<Wm):eQ X (Vj .Eq) (MU X.K):=eQ.or (bZ hu) (by
 intro π s σ H x y v u Q I rx ry h;obtain⟨a,kvs,rfl,ha,hb,q⟩:=h;cases rx;obtain⟨_,n1,vs,k1,d1⟩:=(show bT X.prog X.w H s.heap a (.dK kvs) from ha.ok I.hok)
 obtain⟨b,xs,rfl,hq⟩:=hb;cases ry;obtain⟨its,rv,pl,hz⟩:=I.list hq;exact xM d1 pl.isList (by omega) ⟨.bl false,H,I,rfl,q⟩)
def G7{X:Cx}:qJ X.K E (MU X.K) mL:=by
 intro x y v u H Ha Q hs r1 r2 q;have old:post X.K E H Ha (gw x y) Q->MU X.K v u H Q:=λq=>.inl (cN x y v u H Ha Q hs r1 r2 q);unfold mL at q;split at q
 .rw[Rep] at r1
  obtain⟨a,kvs,vs,h1,h2,h3,h4,h5⟩:=r1;obtain⟨b,xs,h6,h7,h8⟩:=aI.mp r2;exact .inr ⟨a,kvs,h1,aG.rd hs h2,⟨b,xs,h6,aG.sqL hs h7⟩,bg hs q (aK.mpr rfl)⟩
 .exact old q
end DL
namespace DL
open PySem PySem.Spec PyProof.Rows L2
structure Rw where
 x:US
 st:V0
 N:List US
 n:Nat
abbrev Rw.ps(r:Rw):List US:=r.N.take r.n
instance {N P:List US}{sc:XX}:Decidable (eY N P sc) :=
 decidable_of_iff (sc.kind=.function/\sc.isCoroutine=false/\sc.isGenerator=false/\N.Nodup/\N.take P.length=P/\(∀x∈P,sc.names.lookup x=some .local ∨ sc.names.lookup x=some .cell)/\∀y∈sc.names,y.2≠.free)
  ⟨λ⟨a,b,c,d,e,f,g⟩=>⟨a,b,c,d,e,f,g⟩,λ⟨a,b,c,d,e,f,g⟩=>⟨a,b,c,d,e,f,g⟩⟩
def SX(rows:List Rw):Prop:=∀r∈rows,eY r.N r.ps (defScope r.st)
instance {rows:List Rw}:Decidable (SX rows):=inferInstanceAs (Decidable (∀r∈rows,_))
noncomputable def TG(rows:List Rw) (K:Ut) (mg:US->Option Us) (A:Nat->Uw) (Q:Nat->VZ):Prop:=∀i r,rows[i]?=some r->FT K mg r.x r.st r.ps (A i) (Q i)
noncomputable def OW(r:Rw):Prop:=∀(kV doc pm:Us) (an:Option Uw) (cdv ct:Us) (us:List Us),us.length=r.ps.length->bindArgs (WH r.x r.x (defArgs r.st) (defBody r.st) (defScope r.st) .none kV doc pm an cdv ct) ⟨us,[]⟩=pure (r.ps.zip us)
noncomputable def QAs(K:Ut):List Rw->List Uw->Prop
 |[],_=>True
 |r::rs,a::as=>QA K r.x r.st a/\QAs K rs as
 |_::_,[]=>False
def QAs.cons{K:Ut}{st:V0}(q:QA K x st a)(t:QAs K rs as):QAs K (⟨x,st,N,n⟩::rs) (a::as):=⟨q,t⟩
theorem LB{K:Ut}{h:UR}{mg:US->Option Us}(X:K.In h)(G:h.Ns UX mg):∀{rows:List Rw}{as:List Uw},(∀r∈rows,OW r)->QAs K rows as ->
  ∃Q:Nat->VZ,∀i r,rows[i]?=some r->FT K mg r.x r.st r.ps (as.getD i 0) (Q i)/\∃kV doc pm an cdv ct,Q i=WH r.x r.x (defArgs r.st) (defBody r.st) (defScope r.st) .none kV doc pm an cdv ct
 |[],as,_,_=>⟨λ_=>default,λi r e=>by simp at e⟩
 |r::rs,[],_,q=>q.elim
 |r::rs,a::as,hb,q=>by
  obtain⟨Q,h⟩:=LB X G (λr hr=>hb r (UH _ hr)) q.2;obtain⟨d,h1,h2⟩:=QD X G q.1 (hb r U0);refine⟨λi=>match i with|0=>d|i+1=>Q i,λi r' e=>?_⟩;cases i with|zero=>rw[VY] at e;cases e;exact⟨h1,h2⟩|succ i=>rw[Vv] at e;exact h i r' e
structure ff (P:Vq) (w:VL) (K:Ut) (mg:US->Option Us) (base:UR) (CX:Cd) (k:Nat) (fn:Uw) (fd:VZ) (ps:List US) (sp:Sp) (x:US) (st:V0):Prop where
 F:fZ P w K mg base CX k fn fd ps sp
 t:FT K mg x st ps fn fd
section
variable {P:Vq}{w:VL}{K:Ut}{mg:US->Option Us}{base:UR}{rows:List Rw}{A:Nat->Uw}{Q:Nat->VZ}{i k n:Nat}{r:Rw}{s:Ev->aj Fl}{sM:Uw->Ev->List D->aj cZ}
variable (T:TG rows K mg A Q) (S:SX rows) (h:rows[i]?=some r)
include T S h
theorem oD(b:∀(cdv:Us) (A':Vw) (outer:List VP) (s0:UE) (H Ha:Hp) (E:XK),cW k (A'.deeper (envOfC r.x (defScope r.st) s0.heap.objs.size (A i) cdv)) ->
   AQ (dW CX0 P w K mg base r.N r.x (defScope r.st) (A i) cdv A' outer s0 H E).nox E H Ha (defBody r.st) s):ff P w K mg base CX0 (k+1) (A i) (Q i) r.ps (spD K r.ps.length (cj r.N.length s)) r.x r.st :=
 ⟨E2 (T i r h).F (S r (UN h)) b,T i r h⟩
theorem oE(b:∀(cdv:Us) (A':Vw) (outer:List VP) (s0:UE) (H Ha:Hp) (E:XK),cW k (A'.deeper (envOfC r.x (defScope r.st) s0.heap.objs.size (A i) cdv)) ->
   AQ (dW (gb P w) P w K mg base r.N r.x (defScope r.st) (A i) cdv A' outer s0 H E) E H Ha (defBody r.st) s):ff P w K mg base (gb P w) (k+1) (A i) (Q i) r.ps (spD K r.ps.length (cj r.N.length s)) r.x r.st :=
 ⟨BA (T i r h).F (S r (UN h)) b,T i r h⟩
theorem oF(b:∀(cdv:Us) (A':Vw) (outer:List VP) (s0:UE) (H Ha:Hp) (E:XK),cW k (A'.deeper (envOfC r.x (defScope r.st) s0.heap.objs.size (A i) cdv)) ->
   Jc (dW CX0 P w K mg base r.N r.x (defScope r.st) (A i) cdv A' outer s0 H E).nox E H Ha (defBody r.st) s):ff P w K mg base CX0 (k+1) (A i) (Q i) r.ps (Pm K r.ps.length (Ey r.N.length s)) r.x r.st :=
 ⟨Bz (T i r h).F (S r (UN h)) b,T i r h⟩
theorem oM(hn:r.ps.length=n+1)(b:∀(cdv:Us) (A':Vw) (outer:List VP) (s0:UE) (H He Ha:Hp) (a:Uw) (E:XK),cW k (A'.deeper (envOfC r.x (defScope r.st) s0.heap.objs.size (A i) cdv)) ->
   Jm (dW CX0 P w K mg base r.N r.x (defScope r.st) (A i) cdv A' outer s0 H E).nox He Ha a (defBody r.st) (sM a)):ff P w K mg base CX0 (k+1) (A i) (Q i) r.ps (AZ K n (mq r.N.length sM)) r.x r.st :=
 ⟨By (T i r h).F (S r (UN h)) hn b,T i r h⟩
end
section
variable {X:Cx}{E:XK}{e:Vk}{es:List Vk}{fa:Ev->aj (List D)}{pos:Pos}{CX:Cd}{k k0 n:Nat}{fn:Uw}{fd:VZ}{ps:List US}{m:List D->aj D}{x:US}{p:Pos}{st:V0}
def rC(B:ff X.prog X.w X.K X.mg X.base CX k0 fn fd ps (spD X.K n m) x st)(hr:cW k X.A)(ha:DA X E (e::es) fa)(hle:k0<=k:=by decide)(hx:gM CX X E:=by first|exact CD|exact pass0E|exact CC)(hl:∀ρ ds,fa ρ=.ok ds->ds.length=(e::es).length:=by first|exact Rc|exact Ra|exact Q9|exact RG|exact al5)(hn:(e::es).length=n:=by rfl)
  (hg:Gl X x:=by exact rfl)(hdb:(x==("__debug__" : US))=false:=by decide)(he:Uy (e::es) X.env=(false,eval e X.env)::Uy es X.env:=by exact aV rfl)(hpl:(VA pos (Uy es X.env)).any (·.1)=false:=by exact bL rfl) :
  DE X E (.Call (.Name x p) (e::es) [] pos) (ao fa m):=K8 (B.F.mono hle) hr hg B.t.g B.t.F.kp B.t.b hx ha hn hl hdb he hpl
def rF(B:ff X.prog X.w X.K X.mg X.base CX k0 fn fd ps (Pm X.K n m) x st)(hr:cW k X.A)(ha:DA X E (e::es) fa)(hle:k0<=k:=by decide)(hx:gM CX X E:=by first|exact CD|exact pass0E|exact CC)(hl:∀ρ ds,fa ρ=.ok ds->ds.length=(e::es).length:=by first|exact Rc|exact Ra|exact Q9|exact RG|exact al5)(hn:(e::es).length=n:=by rfl)
  (hg:Gl X x:=by exact rfl)(hdb:(x==("__debug__" : US))=false:=by decide)(he:Uy (e::es) X.env=(false,eval e X.env)::Uy es X.env:=by exact aV rfl)(hpl:(VA pos (Uy es X.env)).any (·.1)=false:=by exact bL rfl) :
  DF X E (.Call (.Name x p) (e::es) [] pos) (ao fa m):=K4 (B.F.mono hle) hr hg B.t.g B.t.F.kp B.t.b hx ha hn hl hdb he hpl
def rD(B:ff X.prog X.w X.K X.mg X.base (gb X.prog X.w) k0 fn fd ps (spD X.K n m) x st)(hr:cW k X.A)(ha:DA X.nox E0 (e::es) fa)(hle:k0<=k:=by decide)(hl:∀ρ ds,fa ρ=.ok ds->ds.length=(e::es).length:=by first|exact Rc|exact Ra|exact Q9|exact RG|exact al5)(hn:(e::es).length=n:=by rfl)
  (hg:Gl X x:=by exact rfl)(hdb:(x==("__debug__" : US))=false:=by decide)(he:Uy (e::es) X.env=(false,eval e X.env)::Uy es X.env:=by exact aV rfl)(hpl:(VA cpos (Uy es X.env)).any (·.1)=false:=by exact bL rfl)
  (hs:Vz (.Call (.Name x p) (e::es) [] cpos) none pos.line X.env=pure false:=by rfl):TB X (.Expr (.Call (.Name x p) (e::es) [] cpos) pos) (rX fa m):=JN (B.F.mono hle) hr hg B.t.g B.t.F.kp B.t.b ha hn hl hdb he hpl hs
def rK(B:ff X.prog X.w X.K X.mg X.base (gb X.prog X.w) k0 fn fd ps (spD X.K n m) x st)(hr:cW k X.A)(ha:DA X.nox E0 (e::es) fa)(hle:k0<=k:=by decide)(hl:∀ρ ds,fa ρ=.ok ds->ds.length=(e::es).length:=by first|exact Rc|exact Ra|exact Q9|exact RG|exact al5)(hn:(e::es).length=n:=by rfl)
  (hg:Gl X x:=by exact rfl)(hdb:(x==("__debug__" : US))=false:=by decide)(he:Uy (e::es) X.env=(false,eval e X.env)::Uy es X.env:=by exact aV rfl)(hpl:(VA cpos (Uy es X.env)).any (·.1)=false:=by exact bL rfl)
  (hs:Vz (.Call (.Name x p) (e::es) [] cpos) none pos.line X.env=pure false:=by rfl):T1 X (.Expr (.Call (.Name x p) (e::es) [] cpos) pos) (pY fa m):=JR (B.F.mono hle) hr B.t ha hl hn hg hdb he hpl hs
end
section
variable {X:Cx}{He η:Hp}{a:Uw}{E:XK}{e:Vk}{es:List Vk}{fa:Ev->List D->aj (List D×List D)}{pos:Pos}{CX:Cd}{k k0 n:Nat}{fn:Uw}{fd:VZ}{ps:List US}{x:US}{p:Pos}{ft:V0}
def Uc(B:ff X.prog X.w X.K X.mg X.base CX k0 fn fd ps (spD X.K n m) x ft)(hr:cW k X.A)(ha:Lx X He η a (e::es) fa)(hle:k0<=k:=by decide)(hx:gM CX X E0:=by exact CD)(hl:∀ρ st ds,fa ρ st=.ok ds->ds.1.length=(e::es).length:=by first|exact SR|exact SQ|exact TC|exact am4|exact am5)(hn:(e::es).length=n:=by rfl)
  (hg:Gl X x:=by exact rfl)(hdb:(x==("__debug__" : US))=false:=by decide)(he:Uy (e::es) X.env=(false,eval e X.env)::Uy es X.env:=by exact aV rfl)(hpl:(VA pos (Uy es X.env)).any (·.1)=false:=by exact bL rfl) :
  DM X He η a (.Call (.Name x p) (e::es) [] pos) (mA fa m):=K2 (E:=E0) (B.F.mono hle) hr hg B.t.g B.t.F.kp B.t.b hx ha hn hl hdb he hpl
def rM(i:Nat)(B:ff X.prog X.w X.K X.mg X.base CX k0 fn fd ps (AZ X.K n m) x ft)(hr:cW k X.A)(ha:Lx X He η a es fa)(hle:k0<=k:=by decide)(hx:gM CX X E0:=by exact CD)(hl:∀ρ st ds,fa ρ st=.ok ds->ds.1.length=n:=by first|exact TF|exact SR|exact SQ|exact TC|exact am4|exact am5)
  (hN:X.N[i]?=some y:=by rfl)(hv:AH X.env.scope y:=by first|exact UD rfl|exact YF (UD rfl)|exact YF (YF rfl))(hg:Gl X x:=by exact rfl)
  (hd:(y==("__debug__" : US))=false:=by decide)(hcd:(y==("__classdict__" : US))=false:=by decide)(hdb:(x==("__debug__" : US))=false:=by decide)(he:Uy (.Name y p1::es) X.env=(false,eval (.Name y p1) X.env)::Uy es X.env:=by exact aV rfl)(hpl:(VA pos (Uy es X.env)).any (·.1)=false:=by exact bL rfl) :
  DM X He η a (.Call (.Name x p) (.Name y p1::es) [] pos) (bx i a fa m):=Ik (E:=E0) (B.F.mono hle) hr hg B.t.g B.t.F.kp B.t.b hx hN hv ha hl hd hcd hdb he hpl
end
def Um(hn:r.ps.length=1:=by rfl)(hb:∀(kV doc pm:Us) (an:Option Uw) (cdv ct b:Us),bindArgs (WH r.x r.x (defArgs r.st) (defBody r.st) (defScope r.st) .none kV doc pm an cdv ct) ⟨[b],[]⟩=pure (r.ps.zip [b]):=by intros;rfl):OW r:=λ_ _ _ _ _ _ us hl=>by
 obtain⟨b,rfl⟩:=Tw (hl.trans hn);exact hb ..
def Ul(hn:r.ps.length=2:=by rfl)(hb:∀(kV doc pm:Us) (an:Option Uw) (cdv ct b c:Us),bindArgs (WH r.x r.x (defArgs r.st) (defBody r.st) (defScope r.st) .none kV doc pm an cdv ct) ⟨[b,c],[]⟩=pure (r.ps.zip [b,c]):=by intros;rfl):OW r:=λ_ _ _ _ _ _ us hl=>by
 obtain⟨b,c,rfl⟩:=Sw (hl.trans hn);exact hb ..
def Uk(hn:r.ps.length=3:=by rfl)(hb:∀(kV doc pm:Us) (an:Option Uw) (cdv ct b c d:Us),bindArgs (WH r.x r.x (defArgs r.st) (defBody r.st) (defScope r.st) .none kV doc pm an cdv ct) ⟨[b,c,d],[]⟩=pure (r.ps.zip [b,c,d]):=by intros;rfl):OW r:=λ_ _ _ _ _ _ us hl=>by
 obtain⟨b,c,d,rfl⟩:=Sv (hl.trans hn);exact hb ..
def Uj(hn:r.ps.length=4:=by rfl)(hb:∀(kV doc pm:Us) (an:Option Uw) (cdv ct b c d e:Us),bindArgs (WH r.x r.x (defArgs r.st) (defBody r.st) (defScope r.st) .none kV doc pm an cdv ct) ⟨[b,c,d,e],[]⟩=pure (r.ps.zip [b,c,d,e]):=by intros;rfl):OW r:=λ_ _ _ _ _ _ us hl=>by
 obtain⟨b,c,d,e,rfl⟩:=Uh (hl.trans hn);exact hb ..
end DL
namespace Com
open PySem L2 DL
def Nr(st:List D)(d:D):aj (D×List D):=.ok (d,st)
def Tr(st:List D)(d:D):aj cZ:=.ok (.rt d st)
def zo{α:Type}(b:Bool)(x:aj α):aj α:=if b=true then x else .stuck
noncomputable def Tu(g:Ev->List D->aj (D×List D)) (op:D->D->aj D) (ρ:Ev) (p:D×List D):aj (D×List D):=(g ρ p.2).bind λq=>(op p.1 q.1).bind λd=>.ok (d,q.2)
noncomputable def Qh(op:D->D->aj D) (x:D) (q:D×List D):aj (D×List D):=(op x q.1).bind (Nr q.2)
noncomputable def Tt(fa:Ev->List D->aj (List D×List D)) (ρ:Ev) (p:D×List D):aj (List D×List D):=(fa ρ p.2).bind λq=>.ok (p.1::q.1,q.2)
def Qg(x:D)(q:List D×List D):aj (List D×List D):=.ok (x::q.1,q.2)
noncomputable def Tv(m:List D->aj D) (p:List D×List D):aj (D×List D):=(m p.1).bind λd=>.ok (d,p.2)
def Tq(st ds:List D):aj (List D×List D):=.ok (ds,st)
noncomputable def Ts(tg:Ev->D->aj Ev) (s:Ev->List D->aj cZ) (ρ:Ev) (p:List D×List D):aj cZ:=forM tg s p.1 ρ p.2
noncomputable def NB(tg:Ev->D->aj Ev) (s:Ev->List D->aj cZ) (r:List D) (x:cZ):aj cZ:=match x with
 |.nx ρ2 s2=>DL.forM tg s r ρ2 s2
 |.ct ρ2 s2=>DL.forM tg s r ρ2 s2
 |.bk ρ2 s2=>.ok (.nx ρ2 s2)
 |.rt d s=>.ok (.rt d s)
noncomputable def Tx(tg:Ev->D->aj Ev) (s:Ev->List D->aj cZ) (r st:List D) (ρ:Ev):aj cZ:=(s ρ st).bind (NB tg s r)
noncomputable def Tp(k:Ev->List D->aj (D×List D)) (ρ:Ev) (p:D×List D):aj cZ:=(k ρ p.2).bind (mX ρ p.1)
section
variable {s t:Ev->List D->aj cZ}{S:Ev->aj Fl}{f g h:Ev->List D->aj (D×List D)}{F:Ev->aj D}{fa:Ev->List D->aj (List D×List D)}{src:Ev->aj (List D)}{srm:Ev->List D->aj (List D×List D)}{tg:Ev->D->aj Ev}{ρ r:Ev}{i j n:Nat}{d x y:D}{st ds xs:List D}{op:D->D->aj D}{a:Uw}
def BG:aP s t ρ st=(s ρ st).bind (CU t):=aL rfl
def xQ:CU t (.nx ρ st)=t ρ st:=aL rfl
def Dr:CU t (.rt d st)=.ok (.rt d st):=aL rfl
def xR:aT ρ st=.ok (.nx ρ st):=aL rfl
def Dw:cb S ρ st=(S ρ).bind (Bo st):=aL rfl
def Am:Bo st (.nx ρ)=.ok (.nx ρ st):=aL rfl
def HP:dH i f ρ st=(f ρ st).bind (Hh i ρ):=aL rfl
def Dq:Hh i ρ (d,st)=.ok (.nx (ρ.set i (.sh d)) st):=aL rfl
def HR:xx f ρ st=(f ρ st).bind Hi:=aL rfl
def Du:Hi (d,st)=.ok (.rt d st):=aL rfl
def Dt:di F ρ st=(F (fz ρ)).bind (Tr st):=aL rfl
def Al:Tr st d=.ok (.rt d st):=aL rfl
def L4:my f s t ρ st=(f ρ st).bind (Kw s t ρ):=aL rfl
def HW:Kw s t ρ (.bl true,st)=s ρ st:=aL rfl
def HV:Kw s t ρ (.bl false,st)=t ρ st:=aL rfl
def QM:mP F ρ st=(F ρ).bind (Nr st):=aL rfl
def L8:Nr st d=.ok (d,st):=aL rfl
def L5{k:Int}:wa st (.int k)=.ok (.int k,st):=aL rfl
def L6:wa st (.bl b)=.ok (.bl b,st):=aL rfl
def QK:mV i a F ρ st=zo (kS ρ[i]? a) ((F (vw i ρ st)).bind (wa st)):=aL rfl
def QL:mT F ρ st=(F (fz ρ)).bind (Nr st):=aL rfl
def L7:RE i a F ρ st=zo (kS ρ[i]? a) ((F (vw i ρ st)).bind (Nr st)):=aL rfl
def LZ:kS (some (.pt a)) a=true:=beq_self_eq_true a
def Dy{z:aj α}:zo true z=z:=if_pos rfl
def LY:vw i ρ st=(fz ρ).set i (.sh (.lst st)):=aL rfl
def HN:Ep (.pt a)=.pt a:=aL rfl
def QN:mB f g op ρ st=(f ρ st).bind (Tu g op ρ):=aL rfl
def Ma:Tu g op ρ (x,st)=(g ρ st).bind (Qh op x):=aL rfl
def L9:Qh op x (y,st)=(op x y).bind (Nr st):=aL rfl
def HU:bV ρ st=.ok ([],st):=aL rfl
def Dz:aR f fa ρ st=(f ρ st).bind (Tt fa ρ):=aL rfl
def Ao:Tt fa ρ (x,st)=(fa ρ st).bind (Qg x):=aL rfl
def An:Qg x (xs,st)=.ok (x::xs,st):=aL rfl
def QO:mA fa m ρ st=(fa ρ st).bind (Tv m):=aL rfl
def Mb:Tv m (ds,st)=(m ds).bind (Nr st):=aL rfl
def DC:bx i a fa m ρ st=zo (kS ρ[i]? a) ((fa ρ st).bind (BV a m)):=aL rfl
def Ap:BV a m (ds,st)=m a st ds:=aL rfl
def HS:zG i a f h ρ st=zo (kS ρ[i]? a) ((f ρ st).bind (Tp h ρ)):=aL rfl
def Dv:Tp h ρ (d,st)=(h ρ st).bind (mX ρ d):=aL rfl
def Ib:Bp i f ρ st=Ki ρ[i]? λds=>(f ρ st).bind (vW i ρ ds):=aL rfl
def Dx{k:List D->aj cZ}:Ki (some (.ow (.lst ds))) k=k ds:=aL rfl
def q9(e:decide (ds.length<=999)=true):vW i ρ ds (d,st)=.ok (.nx (ρ.set i (.ow (.lst (ds++[d])))) st):=if_pos (Wu (of_decide_eq_true e) (by decide))
def HX:EK i s ρ st=s (unown i ρ) st:=aL rfl
def Ic:EL f g ρ st=(f ρ st).bind (CV g ρ):=aL rfl
def DH:CV g ρ (.bl true,st)=g ρ st:=aL rfl
def DD:CV g ρ (.bl false,st)=.ok (.bl false,st):=aL rfl
def BF:m8 src ρ st=(src ρ).bind (Tq st):=aL rfl
def xP:Tq st ds=.ok (ds,st):=aL rfl
def Dp:CT f ρ st=(f ρ st).bind xw:=aL rfl
def uK{k:Int}(e:-4611686018427387904<=k/\k<4611686018427387904):xw (.int k,st)=.ok (intsFrom 0 k.toNat,st):=if_pos e
def BH:iT srm tg s ρ st=(srm ρ st).bind (Ts tg s ρ):=aL rfl
def xS:Ts tg s ρ (ds,st)=forM tg s ds ρ st:=aL rfl
def DB{fr:List Nat}:p8 n fr srm tg f ρ st=(srm ρ st).bind (uV (fS n fr ρ) tg f):=aL rfl
def NF:DL.forM tg s [] ρ st=.ok (.nx ρ st):=aL rfl
def Ia:DL.forM tg s (d::ds) ρ st=(tg ρ d).bind (Tx tg s ds st):=aL rfl
def HZ:Tx tg s ds st ρ=(s ρ st).bind (NB tg s ds):=aL rfl
def HY:NB tg s ds (.nx ρ st)=DL.forM tg s ds ρ st:=aL rfl
def HQ:mq n b a st ds=(b a (.pt a::ds.map Sl.sh++UK (n-(ds.length+1)) .no) st).bind yU:=aL rfl
def Ds:yU (.rt d st)=.ok (d,st):=aL rfl
end
def iu{tg:Ev->D->aj Ev}{body:Ev->List D->aj cZ}(I:Nat->Ev->List D->Prop)(ds:List D)(step:∀(j:Nat) (d:D) (ρ:Ev) (st:List D),ds[j]?=some d->I j ρ st->∃ρ1 ρ2 st2,tg ρ d=.ok ρ1/\(body ρ1 st=.ok (.nx ρ2 st2)∨body ρ1 st=.ok (.ct ρ2 st2))/\I (j+1) ρ2 st2) :
  ∀(j:Nat) (ρ:Ev) (st:List D),j<=ds.length->I j ρ st->∃ρ2 st2,forM tg body (ds.drop j) ρ st=.ok (.nx ρ2 st2)/\I ds.length ρ2 st2:=by
 intro j ρ st hj h;generalize hk:ds.length-j=k
 induction k generalizing j ρ st with
 |zero =>
  have:j=ds.length:=by omega
  subst this;exact⟨ρ,st,by rw[WQ];rfl,h⟩
 |succ k ih =>
  have hlt:j<ds.length:=by omega
  obtain⟨ρ1,ρ2,st2,h1,h2,h3⟩:=step j ds[j] ρ st (UB hlt) h;obtain⟨ρ3,st3,h4,h5⟩:=ih (j+1) ρ2 st2 (by omega) h3 (by omega);refine⟨ρ3,st3,?_,h5⟩;rw[Vm hlt];unfold DL.forM;rw[h1];rcases h2 with h2|h2
  .simp only[aj.bind,h2];exact h4
  .simp only[aj.bind,h2];exact h4
theorem wt{b:Ev}{tg:Ev->D->aj Ev}{fm:Ev->List D->aj (D×List D)}(I:List D->Prop)(P:D->Prop):∀(ds st:List D),I st->(∀d st,d∈ds->I st->∃ρ1 y st2,tg b d=.ok ρ1/\fm ρ1 st=.ok (y,st2)/\P y/\I st2)->∃es st2,jF b tg fm ds st=.ok (es,st2)/\es.length=ds.length/\(∀e∈es,P e)/\I st2
 |[],st,h,_=>⟨[],st,rfl,rfl,λe he=>by simp at he,h⟩
 |d::ds,st,h,step=>by
  obtain⟨ρ1,y,st1,h1,h2,h3,h4⟩:=step d st (by simp) h;obtain⟨es,st2,k1,k2,k3,k4⟩:=wt I P ds st1 h4 λd' st' hd=>step d' st' (UH _ hd);refine⟨y::es,st2,?_,by simp [k2],λe he=>?_,k4⟩
  .unfold jF
   rw[h1];simp only[aj.bind,h2,k1]
  .rcases UG.mp he with rfl|he
   .exact h3
   .exact k3 e he
end Com
namespace Bor
open PySem L2 DL
abbrev eg:List D->aj D:=Cod.eg
noncomputable def ke:Ev->aj Fl :=
 (vN (bS 2 (dC (.int 0)))
 (vN (e7 (ag (af 1) (ao (ae (af 0) az) (m1 dw)) Q2)
 (aA (bS 2 (ag (af 0) (af 1) aW))
 av)
 av)
 (yT (ao (ae (af 2) (ae (ag (ag (ag (ag (af 2) (dC (.int 2147483587)) dZ) (ag (ag (dC (.int 104729)) (af 1) dy) (af 1) dy) b9) (dC (.int 7)) b9) (dC (.int 2147483587)) dZ) (ae (ag (af 2) (ag (dC (.int 10)) (dC (.int 18)) vA) SN) az))) bJ))))
def cA:List D->aj D:=Ey 3 ke
noncomputable def lA:Uw->Ev->List D->aj cZ:=λa =>
 (aP (my (RE 0 a (ag (af 0) (dC (.int 2)) aW))
 (aP (dH 2 (mV 0 a (ag (ag (af 0) (dC (.int 0)) aW) (af 1) dZ)))
 (aP (zG 0 a (mV 0 a (ag (ag (af 0) (dC (.int 0)) aW) (af 1) qF)) (mP (dC (.int 0))))
 (aP (zG 0 a (mV 0 a (ag (ag (af 0) (dC (.int 0)) aW) (dC (.int 0)) Ld)) (mP (dC (.int 2))))
 (aP (di (af 2))
 aT))))
 aT)
 (aP (cb (bS 3 (dC (.int 0))))
 (aP (iT (m8 (eS (ag (dC (.int 1)) (ag (dC (.int 2)) (ao (ae (ag (af 1) (ag (dC (.int 10)) (dC (.int 6)) vA) Ld) az) (m1 je)) dy) b9))) (b3 4)
 (aP (zG 0 a (mV 0 a (ag (ag (ag (ag (af 0) (dC (.int 1)) aW) (dC (.int 39373)) dy) (dC (.int 17)) b9) (dC (.int 2147483647)) dZ)) (mP (dC (.int 1))))
 (aP (dH 3 (mV 0 a (ag (ag (af 3) (dC (.int 2147483587)) dy) (ag (ag (ag (af 0) (dC (.int 1)) aW) (ag (af 0) (dC (.int 1)) aW) dy) (dC (.int 2147483587)) dZ) b9)))
 aT)))
 (aP (di (ag (ag (af 3) (dC (.int 64)) qF) (af 1) dZ))
 aT))))
def aF:Uw->List D->List D->aj (D×List D):=mq 5 lA
noncomputable def oy:Uw->Ev->List D->aj cZ:=λa =>
 (aP (dH 2 (p8 1 [0] (m8 (eS (dC (.int 8)))) (b3 0) (bx 1 a (aR (mP (dC (.int 26))) bV) aF)))
 (aP (dH 3 (mB (mP (dC (.int 1))) (bx 0 a (aR (mP (dC (.int 8))) bV) aF) b9))
 (aP (dH 4 (bx 0 a (aR (mP (af 3)) bV) aF))
 (aP (dH 5 (bx 0 a (aR (mP (dC (.int 26))) bV) aF))
 (aP (dH 6 (mB (mP (ao (ae (dC (.int 1)) (ae (dC (.int 3)) (ae (dC (.int 5)) (ae (dC (.int 7)) (ae (dC (.int 9)) (ae (dC (.int 11)) az)))))) bJ)) (bx 0 a (aR (mP (dC (.int 6))) bV) aF) aW))
 (aP (dH 7 (mB (bx 0 a (aR (mP (dC (.int 3))) bV) aF) (mP (dC (.int 0))) gw))
 (aP (cb (jO 8 (ao az bJ)))
 (aP (cb (vO (af 1) (b3 9)
 (aA (jO 10 (lX (af 2) de (cX (af 3))))
 (aA (Gq 10 (ag (ag (af 5) (ag (af 6) (af 9) dy) b9) (dC (.int 26)) dZ) (af 4))
 (aA (e7 (af 7)
 (aA (jO 10 (lX (af 2) de (cX (ag (dC (.int 1)) (ag (ag (af 5) (af 9) b9) (dC (.int 8)) dZ) b9))))
 av)
 av)
 (aA (Ew 10 (c8 8 (wj (dC (.str "")) (ae (eO 1 [] (kE (af 10)) (b3 0) mYes (ag (dC (.str "abcdefghijklmnopqrstuvwxyz")) (af 0) aW)) az))))
 av))))))
 (aP (di (af 8))
 aT)))))))))
def eK:Uw->List D->List D->aj (D×List D):=mq 11 oy
noncomputable def mf:Uw->Ev->List D->aj cZ:=λa =>
 (aP (dH 2 (bx 0 a (aR (mP (dC (.int 6))) bV) aF))
 (aP (dH 3 (mB (mP (af 1)) (bx 0 a (aR (mP (ag (ao (ae (dC (.int 3)) (ae (dC (.int 6)) (ae (dC (.int 20)) (ae (dC (.int 12)) (ae (dC (.int 90)) (ae (ag (dC (.int 10)) (dC (.int 12)) vA) az)))))) bJ) (af 2) aW)) bV) aF) b9))
 (aP (cb (bS 4 (ag (ao (ae (dC (.int 1)) (ae (dC (.int 1)) (ae (dC (.int 1)) (ae (dC (.int 4)) (ae (dC (.int 12)) (ae (dC (.int 12)) az)))))) bJ) (af 2) aW)))
 (aP (cb (bS 5 (ao (ae (dC (.int 1)) (ae (dC (.int 2)) (ae (dC (.int 3)) (ae (dC (.int 4)) (ae (dC (.int 5)) (ae (dC (.int 6)) (ae (dC (.int 10)) (ae (dC (.int 12)) (ae (dC (.int 15)) (ae (dC (.int 20)) (ae (dC (.int 30)) (ae (dC (.int 60)) az)))))))))))) bJ)))
 (aP (xx (mA (aR (mP (af 3)) (aR (mB (mP (af 5)) (bx 0 a (aR (mP (af 4)) bV) aF) aW) bV)) eg))
 aT)))))
def du:Uw->List D->List D->aj (D×List D):=mq 6 mf
noncomputable def iK:Uw->Ev->List D->aj cZ:=λa =>
 (aP (cb (bS 3 (ao (ae (af 1) az) (m1 dw))))
 (aP (dH 4 (bx 0 a (aR (mP (af 3)) bV) aF))
 (aP (dH 5 (mB (mB (mP (ag (af 4) (dC (.int 1)) b9)) (bx 0 a (aR (mP (ag (af 3) (dC (.int 1)) uS)) bV) aF) b9) (mP (af 3)) dZ))
 (aP (my (mB (bx 0 a (aR (mP (dC (.int 2))) bV) aF) (mP (dC (.int 0))) gw)
 (aP (cb (bS 4 (ag (af 2) (af 3) dZ)))
 (aP (cb (bS 5 (ag (ag (af 2) (dC (.int 1)) b9) (af 3) dZ)))
 aT))
 aT)
 (aP (dH 6 (mB (mP (ao (ae (dC (.str "one")) (ae (dC (.str "both")) az)) bJ)) (bx 0 a (aR (mP (dC (.int 2))) bV) aF) aW))
 (aP (dH 7 (bx 0 a (aR (mP (dC (.int 0))) bV) du))
 (aP (dH 8 (bx 0 a (aR (mP (dC (.int 1))) bV) du))
 (aP (my (mB (bx 0 a (aR (mP (dC (.int 4))) bV) aF) (mP (dC (.int 0))) gw)
 (aP (cb (bS 8 (dC (.non))))
 aT)
 aT)
 (aP (di (ao (ae (ag (af 1) (af 4) aW) (ae (ag (af 1) (af 5) aW) (ae (af 6) (ae (af 7) (ae (af 8) az))))) dO))
 aT)))))))))
def dq:Uw->List D->List D->aj (D×List D):=mq 9 iK
noncomputable def mO:Uw->Ev->List D->aj cZ:=λa =>
 (aP (dH 3 (bx 0 a (aR (mB (mP (dC (.int 2))) (bx 0 a (aR (mP (ag (af 1) (dC (.int 1)) uS)) bV) aF) b9) bV) eK))
 (aP (cb (bS 4 (ao (ae (af 3) az) (m1 dw))))
 (aP (cb (jO 5 (ao az bJ)))
 (aP (iT (CT (bx 0 a (aR (mP (ag (af 2) (dC (.int 1)) b9)) bV) aF)) (b3 6)
 (aP (Bp 5 (bx 0 a (aR (mP (af 3)) (aR (mP (af 6)) bV)) dq))
 aT))
 (aP (cb (bS 7 (dC (.int 0))))
 (aP (cb (bS 8 (ag (af 4) (dC (.int 1)) uS)))
 (aP (my (mB (bx 0 a (aR (mP (dC (.int 2))) bV) aF) (mP (dC (.int 0))) gw)
 (aP (dH 7 (bx 0 a (aR (mP (af 4)) bV) aF))
 (aP (dH 8 (mB (mB (mP (ag (af 7) (dC (.int 1)) b9)) (bx 0 a (aR (mP (ag (af 4) (dC (.int 1)) uS)) bV) aF) b9) (mP (af 4)) dZ))
 aT))
 aT)
 (aP (di (ao (ae (af 3) (ae (af 5) (ae (ag (af 3) (af 7) aW) (ae (ag (af 3) (af 8) aW) az)))) dO))
 aT))))))))
def dm:Uw->List D->List D->aj (D×List D):=mq 9 mO
noncomputable def me:Uw->Ev->List D->aj cZ:=λa =>
 (aP (cb (jO 3 (ao az bJ)))
 (aP (iT (m8 (eS (ao (ae (ag (af 1) (dC (.int 1)) aW) az) (m1 dw)))) (b3 4)
 (aP (my (EL (mB (bx 0 a (aR (mP (af 2)) bV) aF) (mP (dC (.int 0))) gw) (mT (ag (ag (ag (ag (af 1) (dC (.int 1)) aW) (af 4) aW) (dC (.int 4)) aW) (dC (.non)) fR)))
 (aP (cb (c8 3 (af 4)))
 aT)
 aT)
 aT))
 (aP (di (af 3))
 aT)))
def dr:Uw->List D->List D->aj (D×List D):=mq 5 me
end Bor
namespace DL
open PySem L2
section
variable {α β:Type}
def Rf(a b:aj α):Prop:=a=.stuck∨a=b
def dB{f g:α->aj β}(h:Rf a b)(k:∀x,Rf (f x) (g x)):Rf (a.bind f) (b.bind g):=by
 rcases h with rfl|rfl
 .exact .inl rfl
 .cases a with
  |ok x=>exact k x
  |exn x=>exact .inr rfl
  |stuck=>exact .inl rfl
structure lU (f g:Ev->aj α):Prop where
 o:∀ρ,Rf (f ρ) (g ρ)
end
structure Mm (f g:List D->aj D):Prop where
 o:∀ds,Rf (f ds) (g ds)
def Mm.ok(h:Mm f g)(e:f ds=.ok d):g ds=.ok d:=by
 rcases h.o ds with q|q
 .rw[q] at e;cases e
 .rw[←q];exact e
def rfm_refl:Mm f f:=⟨λ_=>.inr rfl⟩
def rf_refl{f:Ev->aj α}:lU f f:=⟨λ_=>.inr rfl⟩
section
variable {s s' t t':Ev->aj Fl}{c c' f f':Ev->aj D}{fa fa':Ev->aj (List D)}{m m':List D->aj D}
def rf_stuck:lU fU s:=⟨λ_=>.inl rfl⟩
def rf_seq(h1:lU s s')(h2:lU t t'):lU (aA s t) (aA s' t'):=⟨λρ=>dB (h1.o ρ) λr=>by
 cases r with
 |nx ρ'=>exact h2.o ρ'
 |_=>exact .inr rfl⟩
def rf_if(hc:lU c c')(h1:lU s s')(h2:lU t t'):lU (e7 c s t) (e7 c' s' t'):=⟨λρ=>dB (hc.o _) λr=>by
 cases r with
 |bl b=>cases b with
  |true=>exact h1.o ρ
  |false=>exact h2.o ρ
 |_=>exact .inr rfl⟩
theorem qL(h:lU s s'):∀(ds:List D) (ρ:Ev),Rf (cB tg s ds ρ) (cB tg s' ds ρ)
 |[],ρ=>.inr rfl
 |d::r,ρ=>by
  unfold cB;refine dB (.inr rfl) λρ1=>dB (h.o ρ1) λx=>?_;cases x with|nx ρ2|ct ρ2=>exact qL h r ρ2|bk ρ2|rt d=>exact .inr rfl
def rf_for(hf:lU f f')(h:lU s s'):lU (qr f tg s) (qr f' tg s'):=⟨λρ=>dB (hf.o ρ) λd=>by
 cases d with
 |lst ds=>exact qL h ds ρ
 |_=>exact .inr rfl⟩
def rf_forI(h:lU s s'):lU (kI src tg s) (kI src tg s'):=⟨λρ=>dB (.inr rfl) λds=>qL h ds ρ⟩
def rf_drop(h:lU f f'):lU (ig f) (ig f'):=⟨λρ=>dB (h.o _) λ_=>.inr rfl⟩
def rf_ret(h:lU f f'):lU (b8 f) (b8 f'):=⟨λρ=>dB (h.o _) λ_=>.inr rfl⟩
def rf_set(h:lU f f'):lU (bS i f) (bS i f'):=⟨λρ=>dB (h.o _) λ_=>.inr rfl⟩
def rf_b1(h:lU f f'):lU (bD f op) (bD f' op):=⟨λρ=>dB (h.o _) λ_=>.inr rfl⟩
def rf_not(h:lU f f'):lU (cM f) (cM f'):=rf_b1 h
def rf_b2(h:lU f f')(h2:lU c c'):lU (ag f c op) (ag f' c' op):=⟨λρ=>dB (h.o _) λ_=>dB (h2.o _) λ_=>.inr rfl⟩
def rf_bA(h:lU fa fa')(hm:Mm m m'):lU (ao fa m) (ao fa' m'):=⟨λρ=>dB (h.o _) λds=>hm.o ds⟩
def rf_cons(h:lU f f')(h2:lU fa fa'):lU (ae f fa) (ae f' fa'):=⟨λρ=>dB (h.o _) λ_=>dB (h2.o _) λ_=>.inr rfl⟩
def A2(h:lU s s'):Mm (cj n s) (cj n s'):=⟨λds=>dB (h.o _) λr=>.inr rfl⟩
end
end DL
local macro_rules|`(tactic|open_line with[rf_go])=>`(tactic|repeat (first|with_reducible exact DL.rf_refl|with_reducible exact DL.rf_stuck|with_reducible assumption|with_reducible exact DL.rfm_refl|with_reducible refine DL.rf_seq ?_ ?_|with_reducible refine DL.rf_if ?_ ?_ ?_|with_reducible refine DL.rf_for ?_ ?_|with_reducible refine DL.rf_forI ?_|with_reducible refine DL.rf_drop ?_|with_reducible refine DL.rf_ret ?_|with_reducible refine DL.rf_set ?_|with_reducible refine DL.rf_not ?_|with_reducible refine DL.rf_bA ?_ ?_|with_reducible refine DL.rf_cons ?_ ?_|with_reducible refine DL.rf_b1 ?_|with_reducible refine DL.rf_b2 ?_ ?_))
namespace Wex
open PySem L2 DL Com
theorem CM:∀{a b:List Nat},eqDs (a.map λ(k:Nat)=>D.int (k:Int)) (b.map λ(k:Nat)=>D.int (k:Int))=true↔a=b
 |[],[]=>by simp [eqDs]
 |[],_::_=>by simp [eqDs]
 |_::_,[]=>by simp [eqDs]
 |x::a,y::b=>by
  rw[UW,UW,eqDs,U4,CM];rw[dJ];simp;intro _;omega
def jt:br (n+1) (dF t)=true:=by
 show(t.map λ(k:Nat)=>D.int (k:Int)).all (br n)=true;exact Vc.mpr λd hd=>by
  obtain⟨z,_,rfl⟩:=Vg.mp hd;cases n<;>rfl
def nums_self:gw (dF t) (dF t)=.ok (.bl true):=by
 unfold gw;rw[if_pos ⟨jt,jt⟩];unfold dF;rw[xN,CM.mpr rfl]
noncomputable def oW(d:D):aj (List D):=match d with
 |.int j=>if -4611686018427387904<=j/\j<4611686018427387904 then .ok (DL.intsFrom 0 j.toNat) else .stuck
 |_=>.stuck
def ev_srcR1:eS f ρ=(f ρ).bind oW:=aL rfl
def srcR1_nat{k:Nat}(h:k<=1000000):oW (.int (k:Int))=.ok (DL.intsFrom 0 k):=by
 show(if -4611686018427387904<=(k:Int)/\(k:Int)<4611686018427387904 then aj.ok (DL.intsFrom 0 (k:Int).toNat) else .stuck)=_;rw[if_pos (by omega),WE]
def comp_rng{m n:Nat}{fr:List Nat}{G:Nat->D}(hn:n<=1000000)(h:∀k,k<n->∃ρ1,b3 0 (dM m fr ρ) (.int (k:Int))=.ok ρ1/\tt ρ1=.ok (.bl (q k))/\(q k=true->fe ρ1=.ok (G k))) :
  oq m fr (b3 0) tt fe ρ (DL.intsFrom 0 n)=.ok (.lst (((VG n).filter q).map G)):=by
 have hi:DL.intsFrom 0 n=(VG n).map λ(k:Nat)=>D.int (k:Int):=by
  unfold DL.intsFrom;exact List.map_congr_left λk _=>by rw[Int.zero_add]
 rw[hi];rw[AA (F:=λd=>match d with|.int v=>G v.toNat|d=>d) (p:=λd=>match d with|.int v=>q v.toNat|_=>false) (by simpa using hn)]
 .rw[List.filter_map,Xb]
  rfl
 .intro d hd
  obtain⟨k,hk,rfl⟩:=Vg.mp hd;obtain⟨ρ1,h1,h2,h3⟩:=h k (Xa.mp hk);exact⟨ρ1,h1,by simpa using h2,λz=>by simpa using h3 (by simpa using z)⟩
def isW_at{k:Nat}(h:k<w.ts.length):∃t,w.ts[k]?=some t/\ES w k=t.o.isSome/\aW (.lst (w.ts.map bq)) (.int (k:Int))=.ok (.tup [.str t.a,.str t.b,.str t.w,fr t.l,dN t.o]):=by
 have ht:w.ts[k]?=some w.ts[k]:=UB h;exact⟨_,ht,by unfold ES;rw[ht];rfl,wX ht⟩
noncomputable def plainD:D->Bool
 |.non=>true
 |.bl _=>true
 |.int _=>true
 |.str _=>true
 |.tup _=>true
 |.lst _=>true
 |_=>false
noncomputable def takB(w:AO):Int->List D->Bool
 |_,[]=>true
 |a,d::r=>match d with
  |.int n=>decide (0<=n)&&decide (n<(w.ts.length:Int))&&decide (a<n)&&ES w n.toNat&&takB w n r
  |_=>false
def Bf(hd:plainD d=true)(hi:∀n,d≠.int n):m_is_tie_number [bp w,d]=.ok (.bl false):=by
 rw[show bp w=.tup [.lst (w.ps.map D.str),.lst (w.ts.map bq),.str w.fi,.str w.la] from rfl];cases d with
 |int n=>exact absurd rfl (hi n)
 |non=>open_line with[m_is_tie_number,ck,cC,FC]
 |bl b=>open_line with[m_is_tie_number,ck,cC,FC]
 |str b=>open_line with[m_is_tie_number,ck,cC,FC]
 |tup b=>open_line with[m_is_tie_number,ck,cC,FC]
 |lst b=>open_line with[m_is_tie_number,ck,cC,FC]
 |_=>cases hd
def number_int:m_is_tie_number [bp w,.int n]=.ok (.bl (decide (0<=n)&&decide (n<(w.ts.length:Int)))):=by
 rw[show bp w=.tup [.lst (w.ps.map D.str),.lst (w.ts.map bq),.str w.fi,.str w.la] from rfl];cases h:decide ((0:Int)<=n) with
 |false=>open_line with[m_is_tie_number,ck,cC,FC,Uv,h,WK]
 |true=>open_line with[m_is_tie_number,ck,cC,FC,Uv,h,Xx]
noncomputable abbrev takBody:Ev->aj Fl:=(aA (e7 (iZ (cM (ao (ae (af 0) (ae (af 3) az)) m_is_tie_number)) (ag (af 3) (af 2) Lc))
 (aA (kH "NoTaking" (ae (dC (.str "a taking is of rising numbers of ties")) az))
 av)
 av)
 (aA (e7 (ag (ag (ag (ag (af 0) (dC (.int 1)) aW) (af 3) aW) (dC (.int 4)) aW) (dC (.non)) gW)
 (aA (kH "NoTaking" (ae (dC (.str "a watched tie can't be taken")) az))
 av)
 av)
 (aA (bS 2 (af 3))
 av)))
theorem tak_loop:∀(ds:List D) (a:Int) (x:Sl),(∀d∈ds,plainD d=true)->(takB w a ds=true->∃ρ',cB (b3 3) takBody ds [.sh (bp w),L,.sh (.int a),x]=.ok (.nx ρ'))/\(takB w a ds=false->cB (b3 3) takBody ds [.sh (bp w),L,.sh (.int a),x]=.exn ⟨"NoTaking",[]⟩)
 |[],a,x,_=>⟨λ_=>⟨_,rfl⟩,λh=>by cases h⟩
 |d::ds,a,x,hp=>by
  have ih:=λn y=>tak_loop (w:=w) (L:=L) ds n y λd hd=>hp d (UH _ hd);have hd:=hp d U0;have e0:b3 3 [.sh (bp w),L,.sh (.int a),x] d=.ok [.sh (bp w),L,.sh (.int a),.sh d]:=rfl;have red:∀r:aj Fl,takBody [.sh (bp w),L,.sh (.int a),.sh d]=r->cB (b3 3) takBody (d::ds) [.sh (bp w),L,.sh (.int a),x]=r.bind λx=>match x with
   |.nx ρ2=>cB (b3 3) takBody ds ρ2
   |.ct ρ2=>cB (b3 3) takBody ds ρ2
   |.bk ρ2=>.ok (.nx ρ2)
   |.rt d=>.ok (.rt d):=λr hr=>by rw[←hr];(conv=>lhs;unfold cB;rw[e0]);rfl
  by_cases hi:∃n,d=.int n
  .obtain⟨n,rfl⟩:=hi
   have hn:=number_int (w:=w) (n:=n);have hT:takB w a (.int n::ds)=(decide (0<=n)&&decide (n<(w.ts.length:Int))&&decide (a<n)&&ES w n.toNat&&takB w n ds):=rfl;rw[hT];cases hc:(decide (0<=n)&&decide (n<(w.ts.length:Int))) with
   |false =>
    rw[hc] at hn;refine⟨λh=>(by cases h),λ_=>?_⟩;rw[red (.exn ⟨"NoTaking",[]⟩) (by open_line with[hn,bC,kU,jB])];rfl
   |true =>
    rw[hc] at hn;cases ha:decide (a<n) with
    |false =>
     have ha':¬a<n:=of_decide_eq_false ha;refine⟨λh=>(by cases h),λ_=>?_⟩;rw[red (.exn ⟨"NoTaking",[]⟩) (by open_line with[hn,decide_eq_true (show n<=a by omega),bC,kU,jB])];rfl
    |true =>
     have ha':a<n:=of_decide_eq_true ha;simp only[U4,decide_eq_true_eq] at hc;have hlt:n.toNat<w.ts.length:=by omega
     have ht:w.ts[n.toNat]?=some w.ts[n.toNat]:=UB hlt;have hix:=wX ht;rw[show((n.toNat:Nat):Int)=n by omega] at hix;have hW:ES w n.toNat=(w.ts[n.toNat].o).isSome:=by unfold ES;rw[ht];rfl
     rw[show bq w.ts[n.toNat]=.tup [.str w.ts[n.toNat].a,.str w.ts[n.toNat].b,.str w.ts[n.toNat].w,fr w.ts[n.toNat].l,dN w.ts[n.toNat].o] from rfl] at hix;rw[hW];rw[show bp w=.tup [.lst (w.ps.map D.str),.lst (w.ts.map bq),.str w.fi,.str w.la] from rfl] at hn red ih ⊢;cases ho:w.ts[n.toNat].o with
     |none =>
      rw[ho] at hix;refine⟨λh=>(by cases h),λ_=>?_⟩;rw[red (.exn ⟨"NoTaking",[]⟩) (by open_line with[hn,decide_eq_false (show ¬n<=a by omega),hix,dN,bC,kU,jB])];rfl
     |some v =>
      rw[ho] at hix;have hb:takBody [.sh (.tup [.lst (w.ps.map D.str),.lst (w.ts.map bq),.str w.fi,.str w.la]),L,.sh (.int a),.sh (.int n)]=.ok (.nx [.sh (.tup [.lst (w.ps.map D.str),.lst (w.ts.map bq),.str w.fi,.str w.la]),L,.sh (.int n),.sh (.int n)]):=by
       open_line with[hn,decide_eq_false (show ¬n<=a by omega),hix,dN,fr,KQ]
      rw[red _ hb];exact ih n (.sh (.int n))
  .have ho:=Bf (w:=w) hd λn z=>hi ⟨n,z⟩
   have hf:takB w a (d::ds)=false:=by
    unfold takB;cases d with|int n=>exact absurd ⟨n,rfl⟩ hi| _=>rfl
   refine⟨λh=>(by rw[hf] at h;cases h),λ_=>?_⟩;rw[red (.exn ⟨"NoTaking",[]⟩) (by open_line with[ho,bC,kU,jB])];rfl
theorem vK:∀{ds:List D}{a:Int},takB w a ds=true->∃ns:List Nat,ds=ns.map (λ(k:Nat)=>D.int (k:Int))/\ns.Pairwise (· < ·)/\(∀n∈ns,a<(n:Int)/\n<w.ts.length/\ES w n=true)
 |[],a,_=>⟨[],rfl,.nil,λ_ h=>(nomatch h)⟩
 |d::ds,a,h=>by
  unfold takB at h;cases d with
  |int n =>
   simp only[U4,decide_eq_true_eq] at h;obtain⟨⟨⟨⟨h0,h1⟩,h2⟩,h3⟩,h4⟩:=h;obtain⟨ns,rfl,hp,hn⟩:=vK h4;refine⟨n.toNat::ns,?_,Xm.mpr ⟨λk hk=>?_,hp⟩,λk hk=>?_⟩
   .rw[UW,show((n.toNat:Nat):Int)=n by omega]
   .have:=(hn k hk).1;omega
   .rcases UG.mp hk with rfl|hk
    .exact⟨by omega,by omega,h3⟩
    .have:=hn k hk;exact⟨by omega,this.2⟩
  |_=>cases h
def no_take(h:∀ns:List Nat,ds=ns.map (λ(k:Nat)=>D.int (k:Int))->ns.Pairwise (· < ·)->(∀n∈ns,n<w.ts.length/\ES w n=true)->False):takB w (-1) ds=false:=by
 cases e:takB w (-1) ds with|false=>rfl|true=>obtain⟨ns,h1,h2,h3⟩:=vK e;exact(h ns h1 h2 λn hn=>(h3 n hn).2).elim
def Hu{ns:List Nat}(h:d∈ns.map (λ(k:Nat)=>D.int (k:Int))):∃k∈ns,d=.int (k:Int):=by
 obtain⟨k,hk,rfl⟩:=Vg.mp h;exact⟨k,hk,rfl⟩
def no_take_odd(hd:d∈ds)(h:∀n,d≠.int n):takB w (-1) ds=false:=no_take λns e _ _=>by
 subst e;obtain⟨k,_,e⟩:=Hu hd;exact h _ e
def no_take_int(hd:.int n∈ds)(h:n<0∨(w.ts.length:Int)<=n∨ES w n.toNat=false):takB w (-1) ds=false:=no_take λns e _ hn=>by
 subst e;obtain⟨k,hk,e⟩:=Hu hd;cases e;have:=hn k hk;rw[WE,this.2] at h;rcases h with h|h|h
 .omega
 .omega
 .cases h
end Wex
local macro_rules|`(tactic|open_line with[$xs,*])=>`(tactic|simp only[iw,tZ,nE,nD,nO,tY,nC,ua,nH,n6,kX,Ac,uy,ux,uf,nM,uF,nL,ud,nJ,uz,tP,ue,nK,Aj,Ai,uE,Ah,uo,n8,kZ,kY,uG,oa,n9,z8,uk,uh,um,nN,tO,nr,HJ,nB,tX,nA,nz,ny,qY,t9,nG,nF,z7,ug,z9,zY,tW,tV,tU,uA,nZ,k7,Ad,uD,uC,uB,uw,uH,uq,Ab,Aa,eM,nP,uI,kP,UW,Wc,U6,Wf,Vx,WT,We,Ws,VY,Vv,W3,W4,W9,Nat.reduceSub,Nat.reduceAdd,XN,XJ,Xy,WJ,tT,uu,gr,gq,ur,nt,zZ,t8,zX,tR,tQ,lP,lO,nW,nV,nU,nT,nS,nR,decide_true,decide_false,Nat.reduceLeDiff,Nat.reduceBEq,Int.reduceBEq,beq_self_eq_true,DL.dOne,DL.mYes,eU,dU,er,ez,iA,gD,iz,iy,gC,Ag,Af,Ae,Int.reduceLT,Int.reduceLE,Int.reduceSub,Int.reduceAdd,Int.reduceMul,Int.reduceNeg,nQ,kW,ub,nI,Int.reduceToNat,Xz,qZ,nY,qX,nv,qW,nu,iW,nX,jX,fb,og,Dl,Dm,xI,pz,BG,xQ,Dr,xR,Dw,Am,HP,Dq,HR,Du,Dt,Al,L4,HW,HV,QM,L8,L5,L6,QK,QL,L7,LZ,Dy,LY,HN,QN,Ma,L9,HU,Dz,Ao,An,QO,Mb,DC,Ap,HS,Dv,Ib,Dx,q9,HX,Ic,DH,DD,BF,xP,Dp,uK,BH,xS,DB,HQ,Ds,$[$xs:term],*])
local macro_rules|`(tactic|open_line with[$xs,*] seeing $h)=>`(tactic|simp only[iw,tZ,nE,nD,nO,tY,nC,ua,nH,n6,kX,Ac,uy,ux,uf,nM,uF,nL,ud,nJ,uz,tP,ue,nK,Aj,Ai,uE,Ah,uo,n8,kZ,kY,uG,oa,n9,z8,uk,uh,um,nN,tO,nr,HJ,nB,tX,nA,nz,ny,qY,t9,nG,nF,z7,ug,z9,zY,tW,tV,tU,uA,nZ,k7,Ad,uD,uC,uB,uw,uH,uq,Ab,Aa,eM,nP,uI,kP,UW,Wc,U6,Wf,Vx,WT,We,Ws,VY,Vv,W3,W4,W9,Nat.reduceSub,Nat.reduceAdd,XN,XJ,Xy,WJ,tT,uu,gr,gq,ur,nt,zZ,t8,zX,tR,tQ,lP,lO,nW,nV,nU,nT,nS,nR,decide_true,decide_false,Nat.reduceLeDiff,Nat.reduceBEq,Int.reduceBEq,beq_self_eq_true,DL.dOne,DL.mYes,eU,dU,er,ez,iA,gD,iz,iy,gC,Ag,Af,Ae,Int.reduceLT,Int.reduceLE,Int.reduceSub,Int.reduceAdd,Int.reduceMul,Int.reduceNeg,nQ,kW,ub,nI,Int.reduceToNat,Xz,qZ,nY,qX,nv,qW,nu,iW,nX,jX,fb,og,Dl,Dm,xI,pz,BG,xQ,Dr,xR,Dw,Am,HP,Dq,HR,Du,Dt,Al,L4,HW,HV,QM,L8,L5,L6,QK,QL,L7,LZ,Dy,LY,HN,QN,Ma,L9,HU,Dz,Ao,An,QO,Mb,DC,Ap,HS,Dv,Ib,Dx,q9,HX,Ic,DH,DD,BF,xP,Dp,uK,BH,xS,DB,HQ,Ds,$[$xs:term],*] at $(⟨h⟩):ident)
namespace Bor
open PySem L2 DL Com
noncomputable def St(st:List D):Prop:=∃(c s:Int) (b:Bool),st=[.int c,.int s,.bl b]/\0<=s/\s<2147483647
def p6:vA (.int 10) (.int 6)=.ok (.int 1000000):=aL rfl
def next(s:Int):Int:=(s*39373+17).fmod 2147483647
def CP(s:Int):0<=next s/\next s<2147483647:=fQ (by decide)
def Qf(m s:Int):Int:=m*2147483587+(s*s).fmod 2147483587
def JJ{k:Int}(h0:0<=s)(h1:s<2147483647)(hm:0<=m/\m<1000000000000000000000000000) :
  (aP (zG 0 a (mV 0 a (ag (ag (ag (ag (af 0) (dC (.int 1)) aW) (dC (.int 39373)) dy) (dC (.int 17)) b9) (dC (.int 2147483647)) dZ)) (mP (dC (.int 1))))
 (aP (dH 3 (mV 0 a (ag (ag (af 3) (dC (.int 2147483587)) dy) (ag (ag (ag (af 0) (dC (.int 1)) aW) (ag (af 0) (dC (.int 1)) aW) dy) (dC (.int 2147483587)) dZ) b9)))
 aT)) [.pt a,.sh (.int n),.no,.sh (.int m),.sh (.int k)] [.int c,.int s,.bl b]=.ok (.nx [.pt a,.sh (.int n),.no,.sh (.int (Qf m (next s))),.sh (.int k)] [.int c,.int (next s),.bl b]):=by
 have o1:fF s 39373=true:=ir (by omega) (by decide);have g:=CP s;have o2:fF (next s) (next s)=true:=ir (by omega) (by omega);have o3:fF m 2147483587=true:=Nq (WN (show m.natAbs<1000000000000000000000000000 by omega) (by rw[yk];decide +kernel)) (WN (show(2147483587:Int).natAbs<2147483588 by decide) (by rw[yk];decide +kernel));have e:(s*39373+17).fmod 2147483647=next s:=rfl;have hp:∀(ρ:Ev) (d:D),mX ρ d (.int 1,[.int c,.int s,.bl b])=.ok (.nx ρ [.int c,d,.bl b]):=λ_ _=>rfl;open_line with[ix o1,e,ix o2,ix o3,hp,Qf]
def bz(a:Uw)(n0:0<n)(n1:n<=1000000000000000000)(h:St st):∃(d:Int) (st':List D),aF a st [.int n]=.ok (.int d,st')/\0<=d/\d<n/\St st':=by
 obtain⟨c,s,b,rfl,s0,s1⟩:=h;have hn0:(n==0)=false:=beq_eq_false_iff_ne.mpr (by omega);have hd:iX c n=true:=Mf (by omega) (Wu (show n.natAbs<=1000000000000000000 by omega) (by rw[Jd];decide +kernel));cases b with
 |true =>
  have f:=fQ (a:=c) (b:=n) n0;have p0:∀(ρ:Ev) (d:D),mX ρ d (.int 0,[.int c,.int s,.bl true])=.ok (.nx ρ [d,.int s,.bl true]):=λ_ _=>rfl;have p2:∀(ρ:Ev) (d:D),mX ρ d (.int 2,[.int (c.fdiv n),.int s,.bl true])=.ok (.nx ρ [.int (c.fdiv n),.int s,d]):=λ_ _=>rfl;refine⟨c.fmod n,[.int (c.fdiv n),.int s,.bl (decide (c.fdiv n > 0))],?_,f.1,f.2,_,_,_,rfl,s0,s1⟩;open_line with[aF,lA,hn0,xJ hd,p0,p2]
 |false =>
  have key:∃t:Nat,t<=3/\∀x2 x3 x4:Sl,(eS (ag (dC (.int 1)) (ag (dC (.int 2)) (ao (ae (ag (af 1) (ag (dC (.int 10)) (dC (.int 6)) vA) Ld) az) (m1 je)) dy) b9)) [.pt a,.sh (.int n),x2,x3,x4]=.ok (intsFrom 0 t):=by
   by_cases hb:n > 1000000
   .refine⟨3,by decide,λx2 x3 x4=>?_⟩
    have o:fF 2 1=true:=ir (by decide) (by decide);have:(ag (dC (.int 1)) (ag (dC (.int 2)) (ao (ae (ag (af 1) (ag (dC (.int 10)) (dC (.int 6)) vA) Ld) az) (m1 je)) dy) b9) [.pt a,.sh (.int n),x2,x3,x4]=.ok (.int 3):=by
     open_line with[p6,decide_eq_true hb,ix o]
    unfold eS;rw[this];rfl
   .refine⟨1,by decide,λx2 x3 x4=>?_⟩
    have o:fF 2 0=true:=ir (by decide) (by decide);have:(ag (dC (.int 1)) (ag (dC (.int 2)) (ao (ae (ag (af 1) (ag (dC (.int 10)) (dC (.int 6)) vA) Ld) az) (m1 je)) dy) b9) [.pt a,.sh (.int n),x2,x3,x4]=.ok (.int 1):=by
     open_line with[p6,decide_eq_false hb,ix o]
    unfold eS;rw[this];rfl
  obtain⟨t,ht,hsrc⟩:=key;have hlen:(intsFrom 0 t).length=t:=by unfold DL.intsFrom;simp
  obtain⟨ρ2,st2,hl,m,s',x4,rfl,rfl,k0,k1,m0,_⟩:=iu (tg:=b3 4) (body:=(aP (zG 0 a (mV 0 a (ag (ag (ag (ag (af 0) (dC (.int 1)) aW) (dC (.int 39373)) dy) (dC (.int 17)) b9) (dC (.int 2147483647)) dZ)) (mP (dC (.int 1))))
 (aP (dH 3 (mV 0 a (ag (ag (af 3) (dC (.int 2147483587)) dy) (ag (ag (ag (af 0) (dC (.int 1)) aW) (ag (af 0) (dC (.int 1)) aW) dy) (dC (.int 2147483587)) dZ) b9)))
 aT)))
   (λj ρ st=>∃(m s:Int) (x4:Sl),ρ=[.pt a,.sh (.int n),.no,.sh (.int m),x4]/\st=[.int c,.int s,.bl false]/\0<=s/\s<2147483647/\0<=m/\m<(2147483587:Int) ^ j)
   (intsFrom 0 t) (by
    rintro j d ρ st hj ⟨m,s,x4,rfl,rfl,s0,s1,m0,m1⟩;have hjt:j<t:=by have:=(UA.mp hj).1;omega
    have hd:d=.int (j:Int):=by
     unfold DL.intsFrom at hj;rw[UL,X5 hjt] at hj;simp at hj;exact hj.symm
    subst hd;have hm:m<1000000000000000000000000000:=by
     have hj3:j=0∨j=1∨j=2:=by omega
     rcases hj3 with rfl|rfl|rfl<;>omega
    have g:=CP s;have r:=fQ (a:=next s*next s) (b:=2147483587) (by decide);refine⟨_,_,_,rfl,.inl (JJ (k:=(j:Int)) s0 s1 ⟨m0,hm⟩),Qf m (next s),next s,_,rfl,rfl,g.1,g.2,?_,?_⟩
    .unfold Qf
     have:0<=m*2147483587:=Int.mul_nonneg m0 (by decide);omega
    .unfold Qf
     rw[Int.pow_succ];omega) 0 [.pt a,.sh (.int n),.no,.sh (.int 0),.no] [.int c,.int s,.bl false] (V6 _) ⟨0,s,_,rfl,rfl,s0,s1,by decide,by decide⟩
  rw[Wl] at hl;have f:=fQ (a:=m.fdiv 64) (b:=n) n0;have hd64:iX m 64=true:=Mf (by decide) (by rw[Jd];decide +kernel);refine⟨(m.fdiv 64).fmod n,[.int c,.int s',.bl false],?_,f.1,f.2,c,s',false,rfl,k0,k1⟩;open_line with[aF,lA,hsrc,hl,xJ hd64,hn0]
def IK(ns:List Int)(k:Nat)(hk:k<=1000)(hl:ns.length<=63):∃st,cA [.lst (ns.map D.int),.int k]=.ok (.lst st)/\St st:=by
 have hlen:dw (.lst (ns.map D.int))=.ok (.int ns.length):=by
  rw[eM,Uv]
 have o1:fF 104729 (k:Int)=true:=ir (by decide) (by omega);have o2:fF (104729*(k:Int)) (k:Int)=true:=ir (by omega) (by omega)
 by_cases h:k<ns.length
 .have hix:aW (.lst (ns.map D.int)) (.int (k:Int))=.ok (.int ns[k]):=pf (by rw[UL,UB h];rfl)
  have f:=fQ (a:=(ns[k].fmod 2147483587+104729*(k:Int)*(k:Int)+7)) (b:=2147483587) (by decide);refine⟨[.int ns[k],.int ((ns[k].fmod 2147483587+104729*(k:Int)*(k:Int)+7).fmod 2147483587),.bl (decide (ns[k]≥1000000000000000000))],?_,_,_,_,rfl,f.1,by omega⟩;unfold cA Ey ke;open_line with[hlen,hix,pz,ix o1,ix o2,decide_eq_true (show(k:Int)<(ns.length:Int) by omega),vN,MK,yT,M9]
 .have f:=fQ (a:=((0:Int).fmod 2147483587+104729*(k:Int)*(k:Int)+7)) (b:=2147483587) (by decide)
  refine⟨[.int 0,.int (((0:Int).fmod 2147483587+104729*(k:Int)*(k:Int)+7).fmod 2147483587),.bl false],?_,_,_,_,rfl,f.1,by omega⟩;unfold cA Ey ke;open_line with[hlen,pz,ix o1,ix o2,decide_eq_false (show ¬(k:Int)<(ns.length:Int) by omega),vN,MK,yT,M9]
def Ud:vA (.int 10) (.int 12)=.ok (.int 1000000000000):=aL rfl
structure RL (x:IY):Prop where
 lo:Low x
 p0:0<=x.1
 p1:x.1<=1000000000000
 q1:x.2<=60
def Lo(h0:0<=c)(h1:c<=1000000000000)(hq:0<q)(hq2:q<=60):RL (KC c q):=by
 have a1:=CZ (a:=c) (b:=q);have a2:=CY (a:=c) (b:=q);have hl:=CW (a:=c) hq;have:=hl.q1;exact⟨hl,sS h0 hq,by omega,by omega⟩
def vk(a:Uw)(hl:l=0∨l=1)(h:St st):∃(x:IY) (st':List D),du a st [.int l]=.ok (fr x,st')/\wO x/\0<=x.1/\(l=1->0<x.1)/\RL x/\St st':=by
 have hN:(1000000000000000000000:Int)<(Fw:Int):=by decide
 obtain⟨w,st1,t1,w0,w1,S1⟩:=bz a (n:=6) (by decide) (by decide) h;obtain⟨t,m,ht,hm,i1,i2⟩:∃t m:Int,(0<t/\t<=1000000000000)/\(0<m/\m<=12)/\aW (.lst [.int 3,.int 6,.int 20,.int 12,.int 90,.int 1000000000000]) (.int w)=.ok (.int t)/\aW (.lst [.int 1,.int 1,.int 1,.int 4,.int 12,.int 12]) (.int w)=.ok (.int m):=by
  have:w=0∨w=1∨w=2∨w=3∨w=4∨w=5:=by omega
  rcases this with rfl|rfl|rfl|rfl|rfl|rfl
  .exact⟨3,1,by decide,by decide,rfl,rfl⟩
  .exact⟨6,1,by decide,by decide,rfl,rfl⟩
  .exact⟨20,1,by decide,by decide,rfl,rfl⟩
  .exact⟨12,4,by decide,by decide,rfl,rfl⟩
  .exact⟨90,12,by decide,by decide,rfl,rfl⟩
  .exact⟨1000000000000,12,by decide,by decide,rfl,rfl⟩
 obtain⟨u,st2,t2,u0,u1,S2⟩:=bz a (n:=t) ht.1 (by omega) S1;obtain⟨v,st3,t3,v0,v1,S3⟩:=bz a (n:=m) hm.1 (by omega) S2;obtain⟨q,hq,i3⟩:∃q:Int,(0<q/\q<=60)/\aW (.lst [.int 1,.int 2,.int 3,.int 4,.int 5,.int 6,.int 10,.int 12,.int 15,.int 20,.int 30,.int 60]) (.int v)=.ok (.int q):=by
  have:v=0∨v=1∨v=2∨v=3∨v=4∨v=5∨v=6∨v=7∨v=8∨v=9∨v=10∨v=11:=by omega
  rcases this with rfl|rfl|rfl|rfl|rfl|rfl|rfl|rfl|rfl|rfl|rfl|rfl
  .exact⟨1,by decide,rfl⟩
  .exact⟨2,by decide,rfl⟩
  .exact⟨3,by decide,rfl⟩
  .exact⟨4,by decide,rfl⟩
  .exact⟨5,by decide,rfl⟩
  .exact⟨6,by decide,rfl⟩
  .exact⟨10,by decide,rfl⟩
  .exact⟨12,by decide,rfl⟩
  .exact⟨15,by decide,rfl⟩
  .exact⟨20,by decide,rfl⟩
  .exact⟨30,by decide,rfl⟩
  .exact⟨60,by decide,rfl⟩
 have hlo:=Cod.low_ok (a:=l+u) (b:=q) (by omega) (Qj (by omega) (by omega)) (Qj (by omega) (by omega));refine⟨KC (l+u) q,st3,?_,Qk (by omega) (by omega) (by omega),sS (by omega) (by omega),λe=>KA (by omega) (by omega),Lo (by omega) (by omega) (by omega) (by omega),S3⟩;open_line with[du,mf,t1,t2,t3,i1,i2,i3,Ud,hlo]
def Bh{k n:Int}(hn:2<=n):k.fmod n≠(k+1).fmod n:=by
 rw[VN _ (by omega),VN _ (by omega)];intro e;have:=Int.emod_eq_emod_iff_emod_sub_eq_zero.mp e.symm;rw[show k+1-k=1 by omega,Yp (by decide) (by omega)] at this;cases this
def B7(t:Jj):Prop:=RL t.l/\∀x,t.o=some x->RL x
def JL(a:Uw){k:Nat}(h2:2<=zs.length)(h8:zs.length<=8)(nd:zs.Nodup)(h:St st):∃(t:Jj) (st':List D),dq a st [.lst (zs.map D.str),.int k]=.ok (bq t,st')/\qj zs t/\B7 t/\St st':=by
 have hlen:dw (.lst (zs.map D.str))=.ok (.int zs.length):=by rw[eM,Uv]
 have hn0:((zs.length:Int)==0)=false:=beq_eq_false_iff_ne.mpr (by omega);obtain⟨d,st1,t1,d0,d1,S1⟩:=bz a (n:=(zs.length:Int)) (by omega) (by omega) h;obtain⟨e,st2,t2,e0,e1,S2⟩:=bz a (n:=(zs.length:Int)-1) (by omega) (by omega) S1;obtain⟨f,st3,t3,f0,f1,S3⟩:=bz a (n:=2) (by decide) (by decide) S2;obtain⟨g,st4,t4,g0,g1,S4⟩:=bz a (n:=2) (by decide) (by decide) S3;obtain⟨x,st5,t5,fx,lx,_,ax,S5⟩:=vk a (l:=0) (.inl rfl) S4;obtain⟨y,st6,t6,fy,_,ly,ay,S6⟩:=vk a (l:=1) (.inr rfl) S5;obtain⟨v,st7,t7,v0,v1,S7⟩:=bz a (n:=4) (by decide) (by decide) S6;obtain⟨wd,hw,jw⟩:=JC g0 g1;obtain⟨p,q,hp,hq,hpq,hplace⟩:∃p q:Int,(0<=p/\p<(zs.length:Int))/\(0<=q/\q<(zs.length:Int))/\p≠q/\(((f==0)=true/\p=(k:Int).fmod (zs.length:Int)/\q=((k:Int)+1).fmod (zs.length:Int))∨((f==0)=false/\p=d/\q=(d+1+e).fmod (zs.length:Int))):=by
  cases h10:(f==0) with
  |true=>exact⟨_,_,fQ (by omega),fQ (by omega),Bh (by omega),.inl ⟨rfl,rfl,rfl⟩⟩
  |false =>
   obtain⟨hr,hne⟩:=wF (n:=(zs.length:Int)) (d:=d) (e:=e) (by omega) d0 d1 e0 e1;exact⟨_,_,⟨d0,d1⟩,hr,Vh hne,.inr ⟨rfl,rfl,rfl⟩⟩
 obtain⟨z1,k1,j1⟩:=jM (zs:=zs) hp.1 hp.2;obtain⟨z2,k2,j2⟩:=jM (zs:=zs) hq.1 hq.2;have hz12:z1≠z2:=kN nd k1 k2 (by omega);cases h4:(v==0) with
 |true =>
  refine⟨⟨z1,z2,wd,x,none⟩,st7,?_,⟨UN k1,UN k2,hz12,hw,fx,lx,λ_ hv=>nomatch hv⟩,⟨ax,λ_ hv=>nomatch hv⟩,S7⟩;rw[show bq ⟨z1,z2,wd,x,none⟩=.tup [.str z1,.str z2,.str wd,fr x,.non] from rfl];rcases hplace with⟨h10,e1,e2⟩|⟨h10,e1,e2⟩
  .rw[e2] at j2;rw[e1] at j1
   open_line with[dq,iK,hlen,t1,t2,t3,t4,t5,t6,t7,uS,hn0,h10,h4,jw,j1,j2]
  .rw[e2] at j2;rw[e1] at j1
   open_line with[dq,iK,hlen,t1,t2,t3,t4,t5,t6,t7,uS,hn0,h10,h4,jw,j1,j2]
 |false =>
  refine⟨⟨z1,z2,wd,x,some y⟩,st7,?_,⟨UN k1,UN k2,hz12,hw,fx,lx,λ_ hv=>by cases hv;exact⟨fy,ly rfl⟩⟩,⟨ax,λ_ hv=>by cases hv;exact ay⟩,S7⟩;rw[show bq ⟨z1,z2,wd,x,some y⟩=.tup [.str z1,.str z2,.str wd,fr x,fr y] from rfl];rcases hplace with⟨h10,e1,e2⟩|⟨h10,e1,e2⟩
  .rw[e2] at j2;rw[e1] at j1
   open_line with[dq,iK,hlen,t1,t2,t3,t4,t5,t6,t7,uS,hn0,h10,h4,jw,j1,j2]
  .rw[e2] at j2;rw[e1] at j1
   open_line with[dq,iK,hlen,t1,t2,t3,t4,t5,t6,t7,uS,hn0,h10,h4,jw,j1,j2]
theorem C7:∀{es:List D}{P:Int->Prop},(∀e∈es,∃l,e=D.int l/\P l)->∃ls:List Int,es=ls.map D.int/\∀l∈ls,P l
 |[],P,_=>⟨[],rfl,λl h=>by simp at h⟩
 |e::es,P,h=>by
  obtain⟨l,rfl,hl⟩:=h e (by simp);obtain⟨ls,rfl,hs⟩:=C7 (es:=es) (P:=P) λe he=>h e (UH _ he);exact⟨l::ls,rfl,λx hx=>by
   rcases UG.mp hx with rfl|hx
   .exact hl
   .exact hs x hx⟩
def Br(a:Uw)(h:St st):∃(ls:List Int) (st':List D),uV [.no,.pt a] (b3 0) (bx 1 a (aR (mP (dC (.int 26))) bV) aF) (DL.intsFrom 0 8,st)=.ok (.lst (ls.map D.int),st')/\ls.length=8/\(∀l∈ls,0<=l/\l<26)/\St st':=by
 obtain⟨es,st',h1,h2,h3,h4⟩:=wt (b:=[.no,.pt a]) (tg:=b3 0) (fm:=bx 1 a (aR (mP (dC (.int 26))) bV) aF) St (λe=>∃l,e=D.int l/\0<=l/\l<26) (DL.intsFrom 0 8) st h (by
  intro d st _ h;obtain⟨x,st',t1,x0,x1,S1⟩:=bz a (n:=26) (by decide) (by decide) h;refine⟨_,.int x,st',rfl,?_,⟨x,rfl,x0,x1⟩,S1⟩;open_line with[t1])
 obtain⟨ls,rfl,hls⟩:=C7 h3;refine⟨ls,st',?_,by simpa [DL.intsFrom] using h2,hls,h4⟩;unfold uV;rw[if_pos (show(DL.intsFrom 0 8).length<=line by decide),h1];rfl
def AB(l:Int):Nat:=97+l.toNat
def Gg{ls:List Int}(hf:f ρ=.ok (.lst (ls.map D.int)))(hg:g ρ=.ok (.int (m:Int)))(hm:m<=ls.length)(hl:ls.length<=1000):lX f de (cX g) ρ=.ok (.lst ((ls.take m).map D.int)):=by
 unfold lX;rw[hf];simp only[aj.bind,de,cX,hg];exact congrArg (λz=>aj.ok (D.lst z)) (BO hm)
def JV{ls:List Int}(hl:ls.length<=100)(hb:∀l∈ls,0<=l/\l<26):oq 1 [] (b3 0) mYes (ag (dC (.str "abcdefghijklmnopqrstuvwxyz")) (af 0) aW) ρ (ls.map D.int)=.ok (.lst ((ls.map AB).map λc=>D.str ⟨#[c]⟩)):=by
 rw[ID (F:=λd=>match d with|.int l=>.str ⟨#[AB l]⟩|d=>d) (by rw[Uv];omega)]
 .congr 2
  rw[Xb,Xb];rfl
 .intro d hd
  obtain⟨l,hl',rfl⟩:=Vg.mp hd;obtain⟨b0,b1⟩:=hb l hl';refine⟨[.sh (.int l)],rfl,rfl,?_⟩;open_line with[Of b0 b1]
  rfl
def JU{ls:List Int}(hl:ls.length<=100):ng "" [.lst ((ls.map AB).map λc=>D.str ⟨#[c]⟩)]=.ok (.str (Cod.S (ls.map AB))):=Bv (cs:=ls.map AB) (by rw[Uv];omega)
noncomputable def qA(ls:List Int) (lg at_:Nat) (tu sp:Int) (ne:Bool) (k:Nat):List Int:=if ne=true then ls.take (1+((tu+(k:Int)).fmod 8).toNat) else(ls.take lg).set at_ ((tu+sp*(k:Int)).fmod 26)
noncomputable def nm(ls:List Int) (lg at_:Nat) (tu sp:Int) (ne:Bool) (k:Nat):List Nat:=(qA ls lg at_ tu sp ne k).map AB
section
variable {ls:List Int}{lg at_:Nat}{tu sp:Int}{ne:Bool}(h8:ls.length=8) (hb:∀l∈ls,0<=l/\l<26) (g1:1<=lg) (g8:lg<=8) (ha:at_<lg)
include hb in
theorem C0{k:Nat}:∀l∈qA ls lg at_ tu sp ne k,0<=l/\l<26:=by
 intro l hl;unfold qA at hl;cases ne with
 |true=>rw[if_pos rfl] at hl;exact hb l (Wd hl)
 |false =>
  rw[if_neg (by decide)] at hl;rcases List.mem_or_eq_of_mem_set hl with hl|rfl
  .exact hb l (Wd hl)
  .exact fQ (by decide)
include h8 g8 in
theorem m9{k:Nat}:(qA ls lg at_ tu sp ne k).length=if ne=true then 1+((tu+(k:Int)).fmod 8).toNat else lg:=by
 unfold qA;have:=fQ (a:=tu+(k:Int)) (b:=8) (by decide);cases ne with|true=>rw[if_pos rfl,if_pos rfl,Vn,h8];omega|false=>rw[if_neg (by decide),if_neg (by decide),List.length_set,Vn,h8];omega
include h8 hb g1 g8 in
theorem Qb{k:Nat}:Cod.IsNm (nm ls lg at_ tu sp ne k):=by
 have hl:=m9 (tu:=tu) (sp:=sp) (ne:=ne) (at_:=at_) h8 g8 (k:=k);have:=fQ (a:=tu+(k:Int)) (b:=8) (by decide);refine⟨?_,?_,λx hx=>?_⟩
 .unfold nm;rw[Uv,hl];split<;>omega
 .unfold nm;rw[Uv,hl];split<;>omega
 .unfold nm at hx
  obtain⟨l,hl,rfl⟩:=Vg.mp hx;have:=C0 hb l hl;exact Og _ (by omega)
include h8 g8 ha in
theorem Hf{i j:Nat}(hij:i<j)(hj:j<7)(hs:sp=1∨sp=3∨sp=5∨sp=7∨sp=9∨sp=11):nm ls lg at_ tu sp ne i≠nm ls lg at_ tu sp ne j:=by
 intro e;cases ne with
 |true =>
  have hl:=congrArg Xq e;unfold nm at hl;rw[Uv,Uv,m9 h8 g8,m9 h8 g8,if_pos rfl,if_pos rfl] at hl;have f1:=fQ (a:=tu+(i:Int)) (b:=8) (by decide);have f2:=fQ (a:=tu+(j:Int)) (b:=8) (by decide);have he:(tu+(i:Int)).fmod 8=(tu+(j:Int)).fmod 8:=by omega
  rw[VN _ (by decide),VN _ (by decide)] at he;omega
 |false =>
  have h1:(nm ls lg at_ tu sp false i)[at_]?=(nm ls lg at_ tu sp false j)[at_]?:=by rw[e]
  unfold nm qA at h1;rw[if_neg (by decide),if_neg (by decide),UL,UL,U2 (by rw[Vn,h8];omega),U2 (by rw[Vn,h8];omega)] at h1;simp only[Wx,Wo,AB] at h1;have f1:=fQ (a:=tu+sp*(i:Int)) (b:=26) (by decide);have f2:=fQ (a:=tu+sp*(j:Int)) (b:=26) (by decide);have he:(tu+sp*(i:Int)).fmod 26=(tu+sp*(j:Int)).fmod 26:=by omega
  rw[VN _ (by decide),VN _ (by decide)] at he;rcases hs with rfl|rfl|rfl|rfl|rfl|rfl<;>omega
include h8 g8 ha in
theorem EI(hs:sp=1∨sp=3∨sp=5∨sp=7∨sp=9∨sp=11):∀n:Nat,n<=7->((VG n).map (nm ls lg at_ tu sp ne)).Nodup:=by
 intro n hn;rw[Xn,List.pairwise_map];have:(VG n).Pairwise (· < ·):=Y2;refine X9.imp_of_mem (λ{i j} hi hj hij=>?_) this;rw[Xa] at hj;exact Hf h8 g8 ha hij (by omega) hs
end
noncomputable def kO(ls:List Int) (lg at_:Nat) (tu sp:Int) (ne:Bool) (k:Nat):List (List Nat):=(VG k).map (nm ls lg at_ tu sp ne)
def Bg{k:Nat}:Cod.nmsD (kO ls lg at_ tu sp ne (k+1))=Cod.nmsD (kO ls lg at_ tu sp ne k)++[.str (Cod.S (nm ls lg at_ tu sp ne k))]:=by
 unfold kO Cod.nmsD;rw[List.range_succ,V7,V7];rfl
def Hd{lg at_ n:Nat}(h8:ls.length=8)(hb:∀l∈ls,0<=l/\l<26)(g1:1<=lg)(g8:lg<=8)(ha:at_<lg)(t0:0<=tu/\tu<26)(s0:0<=sp/\sp<=11)(hn:n<=7) :
  ∃x9 x10,cB (b3 9) (aA (jO 10 (lX (af 2) de (cX (af 3))))
 (aA (Gq 10 (ag (ag (af 5) (ag (af 6) (af 9) dy) b9) (dC (.int 26)) dZ) (af 4))
 (aA (e7 (af 7)
 (aA (jO 10 (lX (af 2) de (cX (ag (dC (.int 1)) (ag (ag (af 5) (af 9) b9) (dC (.int 8)) dZ) b9))))
 av)
 av)
 (aA (Ew 10 (c8 8 (wj (dC (.str "")) (ae (eO 1 [] (kE (af 10)) (b3 0) mYes (ag (dC (.str "abcdefghijklmnopqrstuvwxyz")) (af 0) aW)) az))))
 av)))) (DL.intsFrom 0 n) [.pt a,.sh (.int (n:Int)),.sh (.lst (ls.map D.int)),.sh (.int (lg:Int)),.sh (.int (at_:Int)),.sh (.int tu),.sh (.int sp),.sh (.bl ne),.ow (.lst []),.no,.no] =
   .ok (.nx [.pt a,.sh (.int (n:Int)),.sh (.lst (ls.map D.int)),.sh (.int (lg:Int)),.sh (.int (at_:Int)),.sh (.int tu),.sh (.int sp),.sh (.bl ne),.ow (.lst (Cod.nmsD (kO ls lg at_ tu sp ne n))),x9,x10]):=by
 obtain⟨ρ',hl,x9,x10,rfl⟩:=xF (i:=9) (n:=n)
  (ρ:=[.pt a,.sh (.int (n:Int)),.sh (.lst (ls.map D.int)),.sh (.int (lg:Int)),.sh (.int (at_:Int)),.sh (.int tu),.sh (.int sp),.sh (.bl ne),.ow (.lst []),.no,.no])
  (body:=(aA (jO 10 (lX (af 2) de (cX (af 3))))
 (aA (Gq 10 (ag (ag (af 5) (ag (af 6) (af 9) dy) b9) (dC (.int 26)) dZ) (af 4))
 (aA (e7 (af 7)
 (aA (jO 10 (lX (af 2) de (cX (ag (dC (.int 1)) (ag (ag (af 5) (af 9) b9) (dC (.int 8)) dZ) b9))))
 av)
 av)
 (aA (Ew 10 (c8 8 (wj (dC (.str "")) (ae (eO 1 [] (kE (af 10)) (b3 0) mYes (ag (dC (.str "abcdefghijklmnopqrstuvwxyz")) (af 0) aW)) az))))
 av)))))
  (λk ρ=>∃x9 x10,ρ=[.pt a,.sh (.int (n:Int)),.sh (.lst (ls.map D.int)),.sh (.int (lg:Int)),.sh (.int (at_:Int)),.sh (.int tu),.sh (.int sp),.sh (.bl ne),.ow (.lst (Cod.nmsD (kO ls lg at_ tu sp ne k))),x9,x10]) (by
   rintro k hk ρ ⟨x9,x10,rfl⟩;have hlen:=m9 (tu:=tu) (sp:=sp) (ne:=ne) (at_:=at_) h8 g8 (k:=k);have f8:=fQ (a:=tu+(k:Int)) (b:=8) (by decide);have om:fF sp (k:Int)=true:=ir (by omega) (by omega);have hap:decide ((Cod.nmsD (kO ls lg at_ tu sp ne k)).length<=999)=true:=decide_eq_true (by unfold Cod.nmsD kO;simp;omega);have hs1:∀x8 x10,lX (af 2) de (cX (af 3)) [.pt a,.sh (.int (n:Int)),.sh (.lst (ls.map D.int)),.sh (.int (lg:Int)),.sh (.int (at_:Int)),.sh (.int tu),.sh (.int sp),.sh (.bl ne),x8,.sh (.int (k:Int)),x10]=.ok (.lst ((ls.take lg).map D.int)):=λ_ _=>Gg rfl rfl (by omega) (by omega);have hix:AM ((ls.take lg).map D.int).length (at_:Int)=some at_:=by
    rw[Uv,Vn,h8];unfold AM;rw[if_pos (by omega),if_pos (by omega)];simp
   have hset:((ls.take lg).map D.int).set at_ (.int ((tu+sp*(k:Int)).fmod 26))=((ls.take lg).set at_ ((tu+sp*(k:Int)).fmod 26)).map D.int:=(List.map_set ..).symm;have hll:(qA ls lg at_ tu sp ne k).length<=100:=by rw[hlen];split<;>omega
   have hc:=λρ=>JV (ρ:=ρ) hll (C0 hb);have hj:ng "" [.lst (((qA ls lg at_ tu sp ne k).map AB).map λc=>D.str ⟨#[c]⟩)]=.ok (.str (Cod.S (nm ls lg at_ tu sp ne k))):=JU hll;refine⟨[.pt a,.sh (.int (n:Int)),.sh (.lst (ls.map D.int)),.sh (.int (lg:Int)),.sh (.int (at_:Int)),.sh (.int tu),.sh (.int sp),.sh (.bl ne),.ow (.lst (Cod.nmsD (kO ls lg at_ tu sp ne (k+1)))),.sh (.int (k:Int)),.sh (.lst ((qA ls lg at_ tu sp ne k).map D.int))],?_,_,_,rfl⟩;rw[Bg];cases ne with
   |true =>
    have e1:qA ls lg at_ tu sp true k=ls.take (1+((tu+(k:Int)).fmod 8).toNat):=if_pos rfl;have hs2:∀x8 x10,lX (af 2) de (cX (ag (dC (.int 1)) (ag (ag (af 5) (af 9) b9) (dC (.int 8)) dZ) b9)) [.pt a,.sh (.int (n:Int)),.sh (.lst (ls.map D.int)),.sh (.int (lg:Int)),.sh (.int (at_:Int)),.sh (.int tu),.sh (.int sp),.sh (.bl true),x8,.sh (.int (k:Int)),x10]=.ok (.lst ((qA ls lg at_ tu sp true k).map D.int)):=λx8 x10=>by
     rw[e1];refine Gg rfl ?_ (by omega) (by omega);open_line with[]
     congr 2
     omega
    open_line with[hs1,ix om,z6 hix,hset,hs2,hc,hj,gq hap]
   |false =>
    have e1:(ls.take lg).set at_ ((tu+sp*(k:Int)).fmod 26)=qA ls lg at_ tu sp false k:=(if_neg (by decide)).symm;rw[e1] at hset;open_line with[hs1,ix om,z6 hix,hset,hc,hj,gq hap]) ⟨_,_,rfl⟩
 exact⟨x9,x10,hl⟩
def Hg(a:Uw){n:Nat}(hn:n<=7)(h:St st):∃(css:List (List Nat)) (st':List D),eK a st [.int (n:Int)]=.ok (.lst (Cod.nmsD css),st')/\css.length=n/\css.Nodup/\(∀cs∈css,Cod.IsNm cs)/\St st':=by
 obtain⟨ls,st1,t1,h8,hb,S1⟩:=Br a h;obtain⟨d,st2,t2,d0,d1,S2⟩:=bz a (n:=8) (by decide) (by decide) S1;obtain⟨at_,st3,t3,a0,a1,S3⟩:=bz a (n:=1+d) (by omega) (by omega) S2;obtain⟨tu,st4,t4,u0,u1,S4⟩:=bz a (n:=26) (by decide) (by decide) S3;obtain⟨e,st5,t5,e0,e1,S5⟩:=bz a (n:=6) (by decide) (by decide) S4;obtain⟨f,st6,t6,f0,f1,S6⟩:=bz a (n:=3) (by decide) (by decide) S5;obtain⟨sp,hs,i1⟩:∃sp:Int,(sp=1∨sp=3∨sp=5∨sp=7∨sp=9∨sp=11)/\aW (.lst [.int 1,.int 3,.int 5,.int 7,.int 9,.int 11]) (.int e)=.ok (.int sp):=by
  have:e=0∨e=1∨e=2∨e=3∨e=4∨e=5:=by omega
  rcases this with rfl|rfl|rfl|rfl|rfl|rfl
  .exact⟨1,by decide,rfl⟩
  .exact⟨3,by decide,rfl⟩
  .exact⟨5,by decide,rfl⟩
  .exact⟨7,by decide,rfl⟩
  .exact⟨9,by decide,rfl⟩
  .exact⟨11,by decide,rfl⟩
 obtain⟨lg,hlg⟩:=VE (show 0<=1+d by omega);obtain⟨at',rfl⟩:=VE a0;rw[hlg] at t3;obtain⟨x9,x10,hl⟩:=Hd (a:=a) (ls:=ls) (lg:=lg) (at_:=at') (n:=n) (tu:=tu) (sp:=sp) (ne:=(f==0)) h8 hb (by omega) (by omega) (by omega) ⟨u0,u1⟩ (by omega) hn;refine⟨kO ls lg at' tu sp (f==0) n,st6,?_,by unfold kO;simp,EI h8 (by omega) (by omega) hs n hn,λcs hc=>?_,S6⟩
 .have hsrc:∀ρ,eS (dC (.int 8)) ρ=.ok (DL.intsFrom 0 8):=λ_=>rfl
  have hbm:∀x1 x2 x3 x4 x5 x6 x7 x8 x9 x10,fS 1 [0] [.pt a,x1,x2,x3,x4,x5,x6,x7,x8,x9,x10]=[.no,.pt a]:=λ_ _ _ _ _ _ _ _ _ _=>rfl;open_line with[eK,oy,hsrc,hbm,t1,t2,hlg,t3,t4,t5,i1,t6,jX,nk (show n<=1000000 by omega),hl]
 .unfold kO at hc
  obtain⟨k,_,rfl⟩:=Vg.mp hc;exact Qb h8 hb (by omega) (by omega)
def JF(a:Uw){p q:Nat}(hp:2<=p/\p<=7)(hq:q<=14)(h:St st):∃(w:AO) (st':List D),dm a st [.int (p:Int),.int (q:Int)]=.ok (bp w,st')/\dX w/\(∀t∈w.ts,B7 t)/\St st':=by
 obtain⟨m,st1,t1,m0,m1,S1⟩:=bz a (n:=(p:Int)-1) (by omega) (by omega) h;obtain⟨m,rfl⟩:=VE m0;obtain⟨css,st2,t2,hcl,hnd,hall,S2⟩:=Hg a (n:=2+m) (by omega) S1;have hnm:Cod.nmsD css=(css.map Cod.S).map D.str:=by unfold Cod.nmsD;rw[Xb];rfl
 have hzl:(css.map Cod.S).length=2+m:=by rw[Uv,hcl]
 have nd:(css.map Cod.S).Nodup:=by
  rw[Xn,List.pairwise_map];exact X9.imp (λh z=>h (Cod.S_inj z)) (Xn.mp hnd)
 have nm:fO (css.map Cod.S):=⟨nd,λz hz=>by
  obtain⟨cs,hc,rfl⟩:=Vg.mp hz;exact(hall cs hc).nameB⟩
 rw[hnm] at t2;generalize css.map Cod.S=zs at *;have hlen:dw (.lst (zs.map D.str))=.ok (.int zs.length):=by rw[eM,Uv]
 have hn0:((zs.length:Int)==0)=false:=beq_eq_false_iff_ne.mpr (by omega);obtain⟨c,st3,t3,c0,c1,S3⟩:=bz a (n:=(q:Int)+1) (by omega) (by omega) S2;obtain⟨c,rfl⟩:=VE c0;have hlenI:(DL.intsFrom 0 c).length=c:=by unfold DL.intsFrom;simp
 obtain⟨ρ2,st4,hl,ts,x6,rfl,htl,hts,S4⟩:=iu (tg:=b3 6) (body:=(aP (Bp 5 (bx 0 a (aR (mP (af 3)) (aR (mP (af 6)) bV)) dq))
 aT))
  (λj ρ st=>∃(ts:List Jj) (x6:Sl),ρ=[.pt a,.sh (.int (p:Int)),.sh (.int (q:Int)),.sh (.lst (zs.map D.str)),.sh (.int (zs.length:Int)),.ow (.lst (ts.map bq)),x6,.no,.no]/\ts.length=j/\(∀t∈ts,qj zs t/\B7 t)/\St st) (DL.intsFrom 0 c) (by
   rintro j d ρ st hj ⟨ts,x6,rfl,rfl,hts,S⟩;have hjt:ts.length<c:=by have:=(UA.mp hj).1;omega
   have hd:d=.int (ts.length:Int):=by
    unfold DL.intsFrom at hj;rw[UL,X5 hjt] at hj;simp at hj;exact hj.symm
   subst hd;obtain⟨t,st',tt,tk,ta,S'⟩:=JL a (zs:=zs) (k:=ts.length) (by omega) (by omega) nd S;have hap:decide ((ts.map bq).length<=999)=true:=decide_eq_true (by rw[Uv];omega);refine⟨_,[.pt a,.sh (.int (p:Int)),.sh (.int (q:Int)),.sh (.lst (zs.map D.str)),.sh (.int (zs.length:Int)),.ow (.lst ((ts++[t]).map bq)),.sh (.int (ts.length:Int)),.no,.no],st',rfl,.inl ?_,ts++[t],_,rfl,by simp,λu hu=>?_,S'⟩
   .open_line with[tt,q9 hap,V7]
   .rw[Vl] at hu
    rcases hu with hu|hu
    .exact hts u hu
    .have:u=t:=by simpa using hu
     subst this;exact⟨tk,ta⟩) 0 [.pt a,.sh (.int (p:Int)),.sh (.int (q:Int)),.sh (.lst (zs.map D.str)),.sh (.int (zs.length:Int)),.ow (.lst []),.no,.no,.no] st3 (V6 _) ⟨[],_,rfl,rfl,λt ht=>by simp at ht,S3⟩
 rw[Wl] at hl;rw[hlenI] at htl;have hsr:xw (.int (c:Int),st3)=.ok (DL.intsFrom 0 c,st3):=uK (by omega);have h2m:(2:Int)+(m:Int)=((2+m:Nat):Int):=by omega
 rw[←h2m] at t2;obtain⟨g,st5,t5,g0,g1,S5⟩:=bz a (n:=2) (by decide) (by decide) S4;cases hg:(g==0) with
 |true =>
  obtain⟨d,st6,t6,d0,d1,S6⟩:=bz a (n:=(zs.length:Int)) (by omega) (by omega) S5;obtain⟨e,st7,t7,e0,e1,S7⟩:=bz a (n:=(zs.length:Int)-1) (by omega) (by omega) S6;obtain⟨hr,hne⟩:=wF (n:=(zs.length:Int)) (d:=d) (e:=e) (by omega) d0 d1 e0 e1;obtain⟨z1,k1,j1⟩:=jM (zs:=zs) d0 d1;obtain⟨z2,k2,j2⟩:=jM (zs:=zs) hr.1 hr.2;have hz12:z1≠z2:=kN nd k1 k2 (by omega);refine⟨⟨zs,ts,z1,z2⟩,st7,?_,⟨by show 2<=zs.length;omega,by show zs.length<=7;omega,nm,by show ts.length<=14;omega,λt ht=>(hts t ht).1,UN k1,UN k2,hz12⟩,λt ht=>(hts t ht).2,S7⟩;open_line with[dm,mO,uS,t1,t2,hlen,t3,hsr,hl,t5,hg,t6,t7,hn0,j1,j2,bp]
 |false =>
  obtain⟨z1,k1,j1⟩:=jM (zs:=zs) (k:=0) (by decide) (by omega);obtain⟨z2,k2,j2⟩:=jM (zs:=zs) (k:=(zs.length:Int)-1) (by omega) (by omega);have hz12:z1≠z2:=kN nd k1 k2 (by omega);refine⟨⟨zs,ts,z1,z2⟩,st5,?_,⟨by show 2<=zs.length;omega,by show zs.length<=7;omega,nm,by show ts.length<=14;omega,λt ht=>(hts t ht).1,UN k1,UN k2,hz12⟩,λt ht=>(hts t ht).2,S5⟩;open_line with[dm,mO,uS,t1,t2,hlen,t3,hsr,hl,t5,hg,j1,j2,bp]
def web_ok(a:Uw){p q:Nat}(hp:2<=p/\p<=7)(hq:q<=14)(h:St st):∃(w:AO) (st':List D),dm a st [.int (p:Int),.int (q:Int)]=.ok (bp w,st')/\dX w/\St st':=by
 obtain⟨w,st',h1,h2,_,h3⟩:=JF a hp hq h;exact⟨w,st',h1,h2,h3⟩
def taking_ok(a:Uw)(W:dX w)(hr:0<r/\r<=1000)(h:St st):∃(ks:List Nat) (st':List D),dr a st [bp w,.int r]=.ok (dF ks,st')/\Mk w ks/\St st':=by
 obtain⟨ps,ts,fi,la⟩:=w;have t14:ts.length<=14:=W.t14;have i1:aW (bp ⟨ps,ts,fi,la⟩) (.int 1)=.ok (.lst (ts.map bq)):=rfl;have hlen:dw (.lst (ts.map bq))=.ok (.int ts.length):=by rw[eM,Uv]
 have hlenI:(DL.intsFrom 0 ts.length).length=ts.length:=by unfold DL.intsFrom;simp
 have hsrc:∀x3 x4,eS (ao (ae (ag (af 1) (dC (.int 1)) aW) az) (m1 dw)) [.pt a,.sh (bp ⟨ps,ts,fi,la⟩),.sh (.int r),x3,x4]=.ok (DL.intsFrom 0 ts.length):=λx3 x4=>by
  rw[Cod.ev_srcR1];open_line with[i1,hlen]
  exact Cod.srcR1_nat (by omega)
 obtain⟨ρ2,st4,hl,ks,x4,rfl,hlt,hup,hwo,S4⟩:=iu (tg:=b3 4) (body:=(aP (my (EL (mB (bx 0 a (aR (mP (af 2)) bV) aF) (mP (dC (.int 0))) gw) (mT (ag (ag (ag (ag (af 1) (dC (.int 1)) aW) (af 4) aW) (dC (.int 4)) aW) (dC (.non)) fR)))
 (aP (cb (c8 3 (af 4)))
 aT)
 aT)
 aT))
  (λj ρ st=>∃(ks:List Nat) (x4:Sl),ρ=[.pt a,.sh (bp ⟨ps,ts,fi,la⟩),.sh (.int r),.ow (.lst (ks.map λ(k:Nat)=>D.int (k:Int))),x4]/\(∀k∈ks,k<j)/\ks.Pairwise (· < ·)/\(∀k∈ks,∃t x,ts[k]?=some t/\t.o=some x)/\ks.length<=j/\St st) (DL.intsFrom 0 ts.length) (by
   rintro j d ρ st hj ⟨ks,x4,rfl,hlt,hup,hwo,hkl,S⟩;have hjt:j<ts.length:=by have:=(UA.mp hj).1;omega
   have hd:d=.int (j:Int):=by
    unfold DL.intsFrom at hj;rw[UL,X5 hjt] at hj;simp at hj;exact hj.symm
   subst hd;obtain⟨v,st',t1,v0,v1,S'⟩:=bz a (n:=r) hr.1 (by omega) S;have hix:aW (.lst (ts.map bq)) (.int (j:Int))=.ok (bq ts[j]):=pf (by rw[UL,UB hjt];rfl);have i4:aW (bq ts[j]) (.int 4)=.ok (dN ts[j].o):=rfl;have hap:decide ((ks.map λ(k:Nat)=>D.int (k:Int)).length<=999)=true:=decide_eq_true (by rw[Uv];omega);cases hv:(v==0) with
   |false =>
    refine⟨_,[.pt a,.sh (bp ⟨ps,ts,fi,la⟩),.sh (.int r),.ow (.lst (ks.map λ(k:Nat)=>D.int (k:Int))),.sh (.int (j:Int))],st',rfl,.inl ?_,ks,_,rfl,λk hk=>by have:=hlt k hk;omega,hup,hwo,by omega,S'⟩;open_line with[t1,hv]
   |true =>
    cases ho:ts[j].o with
    |none =>
     rw[ho] at i4;have i5:fR (dN none) .non=.ok (.bl false):=rfl;refine⟨_,[.pt a,.sh (bp ⟨ps,ts,fi,la⟩),.sh (.int r),.ow (.lst (ks.map λ(k:Nat)=>D.int (k:Int))),.sh (.int (j:Int))],st',rfl,.inl ?_,ks,_,rfl,λk hk=>by have:=hlt k hk;omega,hup,hwo,by omega,S'⟩;open_line with[t1,hv,i1,hix,i4,i5]
    |some x =>
     rw[ho] at i4;have i5:fR (dN (some x)) .non=.ok (.bl true):=rfl;refine⟨_,[.pt a,.sh (bp ⟨ps,ts,fi,la⟩),.sh (.int r),.ow (.lst ((ks++[j]).map λ(k:Nat)=>D.int (k:Int))),.sh (.int (j:Int))],st',rfl,.inl ?_,ks++[j],_,rfl,λk hk=>?_,?_,λk hk=>?_,by simp;omega,S'⟩
     .open_line with[t1,hv,i1,hix,i4,i5,gq hap,V7]
     .rw[Vl] at hk
      rcases hk with hk|hk
      .have:=hlt k hk;omega
      .have:k=j:=by simpa using hk
       omega
     .rw[List.pairwise_append]
      refine⟨hup,by simp,λx hx y hy=>?_⟩;have:y=j:=by simpa using hy
      have:=hlt x hx;omega
     .rw[Vl] at hk
      rcases hk with hk|hk
      .exact hwo k hk
      .have:k=j:=by simpa using hk
       subst this;exact⟨ts[k],x,UB hjt,ho⟩) 0 [.pt a,.sh (bp ⟨ps,ts,fi,la⟩),.sh (.int r),.ow (.lst []),.no] st (V6 _) ⟨[],_,rfl,λk hk=>by simp at hk,by simp,λk hk=>by simp at hk,by simp,h⟩
 rw[Wl] at hl;refine⟨ks,st4,?_,⟨hup,hwo⟩,S4.2⟩;open_line with[dr,me,hsrc,hl]
 rfl
end Bor
namespace DL
open PySem PySem.Spec PyProof.Rows L2
noncomputable def Rp(d:D) (n k:Nat):Prop:=∃p,fT d=some p/\p.showable=true/\p.depth<=k/\p.shown.length<=n
noncomputable def cL(ds:List D) (n k:Nat):Prop:=∃ps,toPys ds=some ps/\ps.length=ds.length/\PyData.showableAll ps=true/\Yy ps<=k/\((Wn ps).map (λx=>x.length)).sum<=n
theorem jN:∀(ps:List Vr),(Wn ps).length=ps.length
 |[]=>by rw[Wn];rfl
 |p::ps=>by rw[Wn,U6,jN ps,U6]
def Rp.up{n k n' k':Nat}(h:Rp d n k)(hn:n<=n')(hk:k<=k'):Rp d n' k':=by
 obtain⟨p,h1,h2,h3,h4⟩:=h;exact⟨p,h1,h2,Va h3 hk,Va h4 hn⟩
def cL.nil{k:Nat}:cL [] 0 k:=⟨[],rfl,rfl,rfl,by rw[Yy];omega,by rw[Wn];exact UJ _⟩
def cL.cons{a n k:Nat}(h:Rp d a k)(t:cL ds n k):cL (d::ds) (a+n) k:=by
 obtain⟨p,h1,h2,h3,h4⟩:=h;obtain⟨ps,t1,t2,t3,t4,t5⟩:=t;refine⟨p::ps,by rw[toPys,h1,t1],by rw[U6,t2,U6],by rw[PyData.showableAll,h2,t3];rfl,?_,?_⟩
 .rw[Yy];omega
 .rw[Wn,UW,List.sum_cons];omega
def cL.all{a k:Nat}:∀{ds:List D},(∀d∈ds,Rp d a k)->cL ds (a*ds.length) k:=by
 intro ds
 induction ds with
 |nil=>intro _;exact cL.nil
 |cons d ds ih =>
  intro h;have:=cL.cons (h d (U0 ..)) (ih λx hx=>h x (UH _ hx));rw[U6,Nat.mul_add,Nat.mul_one,Nat.add_comm];exact this
def Rp.lst{n k:Nat}(h:cL ds n k):Rp (.lst ds) (n+2*ds.length+3) (k+1):=by
 obtain⟨ps,t1,t2,t3,t4,t5⟩:=h;refine⟨.list ps,by rw[fT,t1];rfl,by rw[Ww];exact t3,by rw[W7];omega,?_⟩;rw[W6];have:=listText_len_le (Wn ps);rw[jN] at this;omega
def Rp.tup{n k:Nat}(h:cL ds n k):Rp (.tup ds) (n+2*ds.length+3) (k+1):=by
 obtain⟨ps,t1,t2,t3,t4,t5⟩:=h;refine⟨.tuple ps,by rw[fT,t1];rfl,by rw[Ww];exact t3,by rw[W7];omega,?_⟩;rw[W6];have:=tupleText_len_le (Wn ps);rw[jN] at this;omega
def Rp.non:Rp .non 4 0:=⟨.none,by rw[fT],by rw[Ww],by rw[W7];omega,by rw[W6,XT];decide⟩
def Rp.bl:Rp (.bl b) 5 0:=⟨.bool b,by rw[fT],by rw[Ww],by rw[W7]<;>simp,by rw[W6];cases b<;>simp [XT]<;>decide⟩
def Rp.int(h:i.natAbs<2 ^ 200):Rp (.int i) 201 0:=by
 refine⟨.int i,by rw[fT],?_,by rw[W7]<;>simp,?_⟩
 .rw[Ww]
  refine decide_eq_true ?_
  by_cases h0:i.natAbs=0
  .rw[h0];decide
  .exact WN ((Nat.log2_lt h0).mpr h) (by decide)
 .rw[W6,XT]
  cases i with
  |ofNat m =>
   have:=nat_repr_length_le (n:=m) (k:=200) (by decide) h;show(Nat.repr m).length<=201;omega
  |negSucc m =>
   have:=nat_repr_length_le (n:=m+1) (k:=200) (by decide) h;show("-"++Nat.repr (m+1)).length<=201;rw[String.length_append];have h1 : "-".length=1:=rfl;omega
def Rp.str(hl:z.length<=n)(h:∀c∈z.cps.toList,c<16 ^ 8):Rp (.str z) (10*n+2) 0:=by
 refine⟨.str z,by rw[fT],by rw[Ww],by rw[W7]<;>simp,?_⟩;rw[W6];have:=StrLaws.reprText_len z h;omega
def Rp.emp{k:Nat}:Rp (.dic [] []) 100 1:=by
 refine⟨.dict [],by rw[fT];rfl,by rw[Ww,PyData.showableKv],by rw[W7,PyData.depthKv];omega,?_⟩;rw[W6,PyData.shownKv];exact(show(dictText []).length<=100 by decide +kernel)
def Rp.repr{n k:Nat}(h:Rp (.lst ds) n k)(hn:n<=sizeLine)(hk:k<=100):∃z,uT (.lst ds)=.ok (.str z):=by
 obtain⟨p,h1,h2,h3,h4⟩:=h;refine⟨p.shown,?_⟩;unfold uT;rw[h1];show(if _ then _ else _)=_;have hs:pI p=true:=by
  unfold pI;rw[h2,decide_eq_true (Va h3 hk),decide_eq_true (Va h4 hn)];rfl
 rw[if_pos ⟨rfl,hs⟩]
end DL
namespace Bor
open PySem L2 DL Com
theorem v9{α β γ:Type}:∀(l:List α) (b:β×γ),YG (λb _=>(b.1,b.2)) b l=b
 |[],_=>rfl
 |_::l,b=>v9 l b
def yi:∀c∈Oh.cps.toList,c<16 ^ 8:=by decide +kernel
def Oe(h:pZ c=true):c<16 ^ 8:=by
 refine Nat.lt_of_not_le λhc=>?_;have hs:∀i,Builtin.Str.subAt Oh ⟨#[c]⟩ i=false:=by
  intro i;unfold Builtin.Str.subAt;rw[beq_eq_false_iff_ne];intro e;have:c∈(Oh.cps.extract i (i+(⟨#[c]⟩:US).length)):=by rw[e];simp
  have h2:c∈Oh.cps:=by
   obtain⟨j,hj,e⟩:=Array.mem_iff_getElem.mp this;rw[Array.getElem_extract] at e;rw[←e];exact Array.getElem_mem _
  have:=yi c (Zn.mpr h2);omega
 have:Wt Oh ⟨#[c]⟩ 0 Oh.length 1=[]:=by
  unfold Wt;simp [hs,v9]
 unfold pZ P7 at h;rw[this] at h;cases h
def fA(h:nameB z=true):Rp (.str z) 82 0:=by
 unfold nameB at h;simp only[U4,decide_eq_true_eq,Vc] at h;refine Rp.str (n:=8) h.2.1 λc hc=>?_;exact Oe (h.2.2 c hc)
def Gu(h:wO x):Rp (fr x) 409 1:=by
 have hN:Fw<=2 ^ 200:=by decide
 have h1:=h.pN;have h2:=h.qN;exact(Rp.tup (cL.cons (Rp.int (UY h1 hN)) (cL.cons (Rp.int (UY h2 hN)) cL.nil))).up (by simp) (UJ _)
def wZ(h:qj zs t)(hz:∀z∈zs,nameB z=true):Rp (bq t) 1100 2:=by
 have ha:=(fA (hz _ h.a)).up (k':=1) (UJ _) (by decide);have hb:=(fA (hz _ h.b)).up (k':=1) (UJ _) (by decide);have hw:Rp (.str t.w) 82 1:=by
  rcases h.w with e|e<;>rw[e]
  .exact(Rp.str (n:=8) (by decide) (by decide)).up (by decide) (by decide)
  .exact(Rp.str (n:=8) (by decide) (by decide)).up (by decide) (by decide)
 have hl:=Gu h.l;have ho:Rp (dN t.o) 409 1:=by
  cases e:t.o with|none=>exact Rp.non.up (by decide) (by decide)|some x=>exact Gu (h.o x e).1
 exact(Rp.tup (cL.cons ha (cL.cons hb (cL.cons hw (cL.cons hl (cL.cons ho cL.nil)))))).up (by simp) (UJ _)
def yV{ds:List US}(hl:ds.length<=n)(h:∀z∈ds,nameB z=true):Rp (.lst (ds.map D.str)) (84*n+3) 1:=by
 have:=Rp.lst (cL.all (a:=82) (k:=0) (ds:=ds.map D.str) λd hd=>by
  obtain⟨z,hz,rfl⟩:=Vg.mp hd;exact fA (h z hz))
 rw[Uv] at this;exact this.up (by omega) (UJ _)
def MP(W:dX w):Rp (bp w) 20000 4:=by
 have h1:=(yV W.n7 W.nm.nm).up (k':=3) (UJ _) (by decide);have h2:Rp (.lst (w.ts.map bq)) 15700 3:=by
  have:=Rp.lst (cL.all (a:=1100) (k:=2) (ds:=w.ts.map bq) λd hd=>by
   obtain⟨t,ht,rfl⟩:=Vg.mp hd;exact wZ (W.ts t ht) W.nm.nm)
  rw[Uv] at this;have t14:=W.t14;exact this.up (by omega) (UJ _)
 have h3:=(fA (W.nm.nm _ W.fi)).up (k':=3) (UJ _) (by decide);have h4:=(fA (W.nm.nm _ W.la)).up (k':=3) (UJ _) (by decide);exact(Rp.tup (cL.cons h1 (cL.cons h2 (cL.cons h3 (cL.cons h4 cL.nil))))).up (by simp) (UJ _)
end Bor
namespace Nwb
open PySem L2 DL Com
noncomputable def b_look_at_places:Ev->aj Fl :=
 (aA (e7 (iZ (cM (bD (af 0) (fP "list"))) (cM (iG Lc Lc (dC (.int 2)) (ao (ae (af 0) az) (m1 dw)) (dC (.int 7)))))
 (aA (dA "NoWeb" ["part","number"] (ae (dC (.str "places")) (ae (dC (.non)) az)))
 av)
 av)
 (aA (kI (vq (af 0)) (i9 [1,2])
 (aA (e7 (iZ (cM (ao (ae (af 2) az) m_is_name)) (ag (af 2) (lp (af 0) de (cX (af 1))) Fe))
 (aA (dA "NoWeb" ["part","number"] (ae (dC (.str "places")) (ae (af 1) az)))
 av)
 av)
 av))
 av))
def m_look_at_places:List D->aj D:=cj 3 b_look_at_places
noncomputable def b_look_at_ties:Ev->aj Fl :=
 (aA (e7 (iZ (cM (bD (af 0) (fP "list"))) (ag (ao (ae (af 0) az) (m1 dw)) (dC (.int 14)) Ld))
 (aA (dA "NoWeb" ["part","number"] (ae (dC (.str "ties")) (ae (dC (.non)) az)))
 av)
 av)
 (aA (kI (vq (af 0)) (i9 [2,3])
 (aA (e7 (iZ (cM (ao (ae (af 3) az) m_is_tie)) (iZ (ag (ag (af 3) (dC (.int 0)) aW) (af 1) cD) (ag (ag (af 3) (dC (.int 1)) aW) (af 1) cD)))
 (aA (dA "NoWeb" ["part","number"] (ae (dC (.str "ties")) (ae (af 2) az)))
 av)
 av)
 av))
 av))
def m_look_at_ties:List D->aj D:=cj 4 b_look_at_ties
noncomputable def b_look_at_web:Ev->aj Fl :=
 (aA (e7 (iZ (cM (bD (af 0) (fP "tuple"))) (ag (ao (ae (af 0) az) (m1 dw)) (dC (.int 4)) jc))
 (aA (dA "NoWeb" ["part","number"] (ae (dC (.str "web")) (ae (dC (.non)) az)))
 av)
 av)
 (aA (ig (ao (ae (ag (af 0) (dC (.int 0)) aW) az) m_look_at_places))
 (aA (ig (ao (ae (ag (af 0) (dC (.int 1)) aW) (ae (ag (af 0) (dC (.int 0)) aW) az)) m_look_at_ties))
 (aA (e7 (cM (ao (ae (ag (af 0) (dC (.int 2)) aW) (ae (ag (af 0) (dC (.int 0)) aW) az)) m_is_place))
 (aA (dA "NoWeb" ["part","number"] (ae (dC (.str "first")) (ae (dC (.non)) az)))
 av)
 av)
 (aA (e7 (iZ (cM (ao (ae (ag (af 0) (dC (.int 3)) aW) (ae (ag (af 0) (dC (.int 0)) aW) az)) m_is_place)) (ag (ag (af 0) (dC (.int 3)) aW) (ag (af 0) (dC (.int 2)) aW) gw))
 (aA (dA "NoWeb" ["part","number"] (ae (dC (.str "last")) (ae (dC (.non)) az)))
 av)
 av)
 av)))))
def m_look_at_web:List D->aj D:=cj 1 b_look_at_web
def pw(p:US)(n:D):Jn:=⟨"NoWeb",[("part",.str p),("number",n)]⟩
def cg:qM "NoWeb" ["part","number"] [.str p,n]=.exn (pw p n):=BE
def vP:Mm Com.m_look_at_places m_look_at_places:=A2 (by unfold Com.b_look_at_places b_look_at_places;open_line with[rf_go])
def Co:Mm Com.m_look_at_ties m_look_at_ties:=A2 (by unfold Com.b_look_at_ties b_look_at_ties;open_line with[rf_go])
def MQ:Mm Com.m_look_at_web m_look_at_web:=by
 have h1:=vP;have h2:=Co;exact A2 (by unfold Com.b_look_at_web b_look_at_web;open_line with[rf_go])
def webX(W:dX w):m_look_at_web [bp w]=.ok .non:=MQ.ok (web_ok W)
def J8(h2:2<=zs.length)(h7:zs.length<=7)(nm:fO zs):m_look_at_places [.lst (zs.map D.str)]=.ok .non:=vP.ok (vR h2 h7 nm)
def O3{ts:List Jj}(h14:ts.length<=14)(nm:fO zs)(ht:∀t∈ts,qj zs t):m_look_at_ties [.lst (ts.map bq),.lst (zs.map D.str)]=.ok .non:=Co.ok (Ci h14 nm ht)
def HB(P:Nat->Ev->Prop)(X:Nat->Jn)(h:∀k d,ds[k]?=some d->∀ρ,P k ρ->∃ρ1,tg ρ d=.ok ρ1/\((∃ρ2,body ρ1=.ok (.nx ρ2)/\P (k+1) ρ2)∨body ρ1=.exn (X k)))(h0:P 0 ρ) :
  (∃ρ',cB tg body ds ρ=.ok (.nx ρ')/\P ds.length ρ')∨∃k,k<ds.length/\cB tg body ds ρ=.exn (X k):=by
 have key:∀(m k:Nat) (ρ:Ev),k+m=ds.length->P k ρ->(∃ρ',cB tg body (ds.drop k) ρ=.ok (.nx ρ')/\P ds.length ρ')∨∃k',k' < ds.length/\cB tg body (ds.drop k) ρ=.exn (X k'):=by
  intro m
  induction m with
  |zero =>
   intro k ρ hk hp;have:k=ds.length:=by omega
   subst this;rw[WQ];exact .inl ⟨ρ,rfl,hp⟩
  |succ m ih =>
   intro k ρ hk hp;have hlt:k<ds.length:=by omega
   obtain⟨ρ1,h1,h2⟩:=h k ds[k] (UB hlt) ρ hp;rcases h2 with⟨ρ2,h2,h3⟩|h2
   .rw[Vm hlt,xG h1 h2]
    exact ih (k+1) ρ2 (by omega) h3
   .refine .inr ⟨k,hlt,?_⟩
    rw[Vm hlt];unfold cB;rw[h1,iw,h2,bC]
 exact key ds.length 0 ρ (by omega) h0
def pQ{k:Nat}(h:(DL.numbered 0 xs)[k]?=some d):∃x,xs[k]?=some x/\d=.tup [.int (k:Int),x]:=by
 have:=jR (F:=id) (xs:=xs) (k:=k) (d:=d) (by rw[Zl];exact h);exact this
def eJ(xs:List D):∀k,(DL.numbered k xs).length=xs.length:=by
 induction xs with|nil=>intro k;rfl|cons x xs ih=>intro k;unfold DL.numbered;rw[U6,ih,U6]
def uU{k:Nat}(h:k<=xs.length):eP xs none (some (k:Int))=xs.take k:=by
 have:=BO (F:=id) (xs:=xs) h
 rwa [Zl,Zl] at this
def Ku(h:KR d=true):(∃z,d=.str z/\nameB z=true/\m_is_name [d]=.ok (.bl true))∨(zD d=false/\m_is_name [d]=.ok (.bl false)):=by
 have e:=mD h;cases hn:zD d with
 |false=>rw[hn] at e;exact .inr ⟨rfl,e⟩
 |true =>
  rw[hn] at e;cases d with|str z=>exact .inl ⟨z,rfl,hn,e⟩| _=>cases hn
def sD{ds:List D}(hf:∀d∈ds,KR d=true)(h2:2<=ds.length)(h7:ds.length<=7) :
  (∃zs,ds=zs.map D.str/\fO zs)∨∃k,k<ds.length/\m_look_at_places [.lst ds]=.exn (pw "places" (.int (k:Int))):=by
 have hl:=HB (ds:=DL.numbered 0 ds) (tg:=i9 [1,2]) (ρ:=[.sh (.lst ds),.no,.no])
  (body:=(aA (e7 (iZ (cM (ao (ae (af 2) az) m_is_name)) (ag (af 2) (lp (af 0) de (cX (af 1))) Fe))
 (aA (dA "NoWeb" ["part","number"] (ae (dC (.str "places")) (ae (af 1) az)))
 av)
 av)
 av))
  (λk ρ=>(∃a b,ρ=[.sh (.lst ds),a,b])/\∃zs,ds.take k=zs.map D.str/\fO zs) (λk=>pw "places" (.int (k:Int))) (by
   rintro k d hd ρ ⟨⟨a,b,rfl⟩,zs,hz,nm⟩;obtain⟨x,hx,rfl⟩:=pQ hd;have hk:k<ds.length:=(UA.mp hx).1;refine⟨[.sh (.lst ds),.sh (.int (k:Int)),.sh x],nX rfl,?_⟩;have hcut:eP ds none (some (k:Int))=zs.map D.str:=by rw[uU (XM hk),hz]
   rcases Ku (hf x (UN hx)) with⟨z,rfl,hnb,hn⟩|⟨_,hn⟩
   .by_cases hm:z∈zs
    .right
     open_line with[hn,hcut,qU,decide_eq_true hm,bY,cg,bC]
    .left
     refine⟨[.sh (.lst ds),.sh (.int (k:Int)),.sh (.str z)],?_,⟨_,_,rfl⟩,zs++[z],?_,?_,?_⟩
     .open_line with[hn,hcut,qU,decide_eq_false hm]
     .rw[List.take_succ,hx,hz,V7];rfl
     .rw[Yo]
      exact⟨nm.nd,by simp,λa ha b hb=>by rw[Wk] at hb;subst hb;exact λe=>hm (e▸ha)⟩
     .intro y hy
      rw[Vl,Wk] at hy;rcases hy with hy|rfl
      .exact nm.nm y hy
      .exact hnb
   .right
    open_line with[hn,bY,cg,bC]) ⟨⟨.no,.no,rfl⟩,[],by rw[List.take_zero];rfl,⟨.nil,λ_ h=>nomatch h⟩⟩
 rw[eJ] at hl;have e1:decide ((2:Int)<=(ds.length:Int))=true:=decide_eq_true (by omega);have e2:decide ((ds.length:Int)<=7)=true:=decide_eq_true (by omega);rcases hl with⟨ρ',_,_,zs,hz,nm⟩|⟨k,hk,hl⟩
 .rw[Yr] at hz
  exact .inl ⟨zs,hz,nm⟩
 .refine .inr ⟨k,hk,?_⟩
  open_line with[m_look_at_places,b_look_at_places,e1,e2,hl,bC]
def kJ(h:ds.length<2∨7<ds.length):m_look_at_places [.lst ds]=.exn (pw "places" .non):=by
 rcases h with h|h
 .have e1:decide ((2:Int)<=(ds.length:Int))=false:=decide_eq_false (by omega)
  open_line with[m_look_at_places,b_look_at_places,e1,bY,cg,bC]
 .have e1:decide ((2:Int)<=(ds.length:Int))=true:=decide_eq_true (by omega)
  have e2:decide ((ds.length:Int)<=7)=false:=decide_eq_false (by omega);open_line with[m_look_at_places,b_look_at_places,e1,e2,bY,cg,bC]
def pJ(h:fP "list" d=.ok (.bl false)):m_look_at_places [d]=.exn (pw "places" .non):=by
 open_line with[m_look_at_places,b_look_at_places,h,bY,cg,bC]
def vJ(h:fP "list" d=.ok (.bl false)):m_look_at_ties [d,p]=.exn (pw "ties" .non):=by
 open_line with[m_look_at_ties,b_look_at_ties,h,bY,cg,bC]
def En(h:14<ds.length):m_look_at_ties [.lst ds,p]=.exn (pw "ties" .non):=by
 open_line with[m_look_at_ties,b_look_at_ties,decide_eq_true (show(ds.length:Int) > 14 by omega),bY,cg,bC]
def D8(zs:List US)(d:D):Prop:=∃t,d=bq t/\qj zs t
noncomputable def Oi(zs:List US) (d:D):Prop:=m_is_tie [d]=.ok (.bl false)∨(m_is_tie [d]=.ok (.bl true)/\∃a b r,d=.tup (.str a::.str b::r)/\(a∉zs∨b∉zs))
def F1{ds:List D}(nm:fO zs)(h14:ds.length<=14)(hd:∀d∈ds,D8 zs d∨Oi zs d) :
  (∀d∈ds,D8 zs d)∨∃k,k<ds.length/\m_look_at_ties [.lst ds,.lst (zs.map D.str)]=.exn (pw "ties" (.int (k:Int))):=by
 have hl:=HB (ds:=DL.numbered 0 ds) (tg:=i9 [2,3]) (ρ:=[.sh (.lst ds),.sh (.lst (zs.map D.str)),.no,.no])
  (body:=(aA (e7 (iZ (cM (ao (ae (af 3) az) m_is_tie)) (iZ (ag (ag (af 3) (dC (.int 0)) aW) (af 1) cD) (ag (ag (af 3) (dC (.int 1)) aW) (af 1) cD)))
 (aA (dA "NoWeb" ["part","number"] (ae (dC (.str "ties")) (ae (af 2) az)))
 av)
 av)
 av))
  (λk ρ=>(∃a b,ρ=[.sh (.lst ds),.sh (.lst (zs.map D.str)),a,b])/\∀d∈ds.take k,D8 zs d) (λk=>pw "ties" (.int (k:Int))) (by
   rintro k d hd' ρ ⟨⟨a,b,rfl⟩,hz⟩;obtain⟨x,hx,rfl⟩:=pQ hd';have hk:k<ds.length:=(UA.mp hx).1;refine⟨[.sh (.lst ds),.sh (.lst (zs.map D.str)),.sh (.int (k:Int)),.sh x],nX rfl,?_⟩;rcases hd x (UN hx) with⟨t,rfl,hT⟩|h|⟨h,a',b',r,rfl,hn⟩
   .left
    refine⟨[.sh (.lst ds),.sh (.lst (zs.map D.str)),.sh (.int (k:Int)),.sh (bq t)],?_,⟨_,_,rfl⟩,?_⟩
    .have h1:=rQ nm hT
     rw[show bq t=.tup [.str t.a,.str t.b,.str t.w,fr t.l,dN t.o] from rfl] at h1 ⊢;open_line with[h1,ef,decide_eq_true hT.a,decide_eq_true hT.b]
    .intro y hy
     rw[List.take_succ,hx,Vl] at hy;rcases hy with hy|hy
     .exact hz y hy
     .have:y=bq t:=by simpa using hy
      subst this;exact⟨t,rfl,hT⟩
   .right
    open_line with[h,bY,cg,bC]
   .right
    rcases hn with hn|hn
    .open_line with[h,ef,decide_eq_false hn,bY,cg,bC]
    .by_cases ha:a'∈zs
     .open_line with[h,ef,decide_eq_false hn,decide_eq_true ha,bY,cg,bC]
     .open_line with[h,ef,decide_eq_false ha,bY,cg,bC]) ⟨⟨.no,.no,rfl⟩,by rw[List.take_zero];exact λ_ h=>nomatch h⟩
 rw[eJ] at hl;rcases hl with⟨ρ',_,_,hz⟩|⟨k,hk,hl⟩
 .rw[Yr] at hz
  exact .inl hz
 .refine .inr ⟨k,hk,?_⟩
  open_line with[m_look_at_ties,b_look_at_ties,decide_eq_false (show ¬(ds.length:Int) > 14 by omega),hl,bC]
def yD(h:fP "tuple" d=.ok (.bl false)):m_look_at_web [d]=.exn (pw "web" .non):=by
 open_line with[m_look_at_web,b_look_at_web,h,bY,cg,bC]
def rN(h:ds.length≠4):m_look_at_web [.tup ds]=.exn (pw "web" .non):=by
 have e:jc (.int (ds.length:Int)) (.int 4)=.ok (.bl true):=by
  rw[kP];have:((ds.length:Int)==4)=false:=beq_eq_false_iff_ne.mpr (by omega);rw[this];rfl
 open_line with[m_look_at_web,b_look_at_web,e,bY,cg,bC]
section
variable {p t f l:D}{x:Jn}
def AS(h:m_look_at_places [p]=.exn x):m_look_at_web [.tup [p,t,f,l]]=.exn x:=by
 open_line with[m_look_at_web,b_look_at_web,h,bC]
def mQ(h:m_look_at_places [p]=.ok .non)(h2:m_look_at_ties [t,p]=.exn x):m_look_at_web [.tup [p,t,f,l]]=.exn x:=by
 open_line with[m_look_at_web,b_look_at_web,h,h2,bC]
def Eh(h:m_look_at_places [p]=.ok .non)(h2:m_look_at_ties [t,p]=.ok .non)(h3:m_is_place [f,p]=.ok (.bl false)):m_look_at_web [.tup [p,t,f,l]]=.exn (pw "first" .non):=by
 open_line with[m_look_at_web,b_look_at_web,h,h2,h3,bY,cg,bC]
def FV(h:m_look_at_places [p]=.ok .non)(h2:m_look_at_ties [t,p]=.ok .non)(h3:m_is_place [f,p]=.ok (.bl true))(h4:m_is_place [l,p]=.ok (.bl false)):m_look_at_web [.tup [p,t,f,l]]=.exn (pw "last" .non):=by
 open_line with[m_look_at_web,b_look_at_web,h,h2,h3,h4,bY,cg,bC]
end
def yC(h:m_look_at_places [p]=.ok .non)(h2:m_look_at_ties [t,p]=.ok .non)(h3:m_is_place [.str z,p]=.ok (.bl true)):m_look_at_web [.tup [p,t,.str z,.str z]]=.exn (pw "last" .non):=by
 open_line with[m_look_at_web,b_look_at_web,h,h2,h3,gu,bY,cg,bC]
def zg(h:m_is_name [d]=.ok (.bl false)):m_is_place [d,p]=.ok (.bl false):=by
 open_line with[m_is_place,mM,h]
end Nwb
namespace Nwb
open PySem L2 DL Com Bor
abbrev aF:Uw->List D->List D->aj (D×List D):=Bor.aF
noncomputable def Fn:Uw->Ev->List D->aj cZ:=λa =>
 (aP (my (EL (mT (ag (af 4) (dC (.int 1)) Ld)) (mB (bx 0 a (aR (mP (dC (.int 2))) bV) aF) (mP (dC (.int 0))) gw))
 (aP (dH 5 (mB (mP (ao (ae (af 2) (ae (ao (ae (bD (dC (.int 1)) oo) (ae (dC (.int 2)) az)) dO) (ae (ao (ae (dC (.bl true)) (ae (dC (.int 1)) az)) dO) (ae (ao (ae (dC (.int 1)) (ae (dC (.int 1)) az)) bJ) az)))) bJ)) (bx 0 a (aR (mP (dC (.int 4))) bV) aF) aW))
 aT)
 aT)
 (aP (cb (e7 (ag (af 5) (dC (.non)) gW)
 (aA (bS 5 (dC (.str "x")))
 av)
 av))
 (aP (di (ag (ag (lp (af 3) de (cX (af 4))) (ao (ae (af 5) az) dO) wk) (lp (af 3) (cX (ag (af 4) (dC (.int 1)) b9)) de) wk))
 aT)))
noncomputable def lD:Uw->Ev->List D->aj cZ:=λa =>
 (aP (cb (bS 3 (ao (ae (ag (af 1) (dC (.int 0)) aW) (ae (ag (af 1) (dC (.int 1)) aW) (ae (dC (.str "one")) (ae (ao (ae (dC (.int 1)) (ae (dC (.int 1)) az)) dO) (ae (dC (.non)) az))))) dO)))
 (aP (dH 4 (bx 0 a (aR (mP (dC (.int 5))) bV) aF))
 (aP (cb (bS 5 (ag (ao (ae (ag (af 1) (dC (.int 1)) aW) (ae (ag (af 1) (dC (.int 0)) aW) (ae (dC (.str "two")) (ae (ao (ae (dC (.int 2)) (ae (dC (.int 2)) az)) dO) (ae (ao (ae (dC (.int 0)) (ae (dC (.int 1)) az)) dO) az))))) bJ) (af 4) aW)))
 (Fn a))))
def cT:Uw->List D->List D->aj (D×List D):=mq 6 lD
noncomputable def N3:Uw->Ev->List D->aj cZ:=λa =>
 (aP (dH 8 (bx 0 a (aR (mP (ag (ao (ae (af 3) az) (m1 dw)) (dC (.int 1)) b9)) bV) aF))
 (aP (xx (mA (aR (mP (af 2)) (aR (mB (mB (mP (lp (af 3) de (cX (af 8)))) (mA (aR (bx 0 a (aR (mP (af 2)) (aR (mP (af 6)) bV)) cT) bV) bJ) b9) (mP (lp (af 3) (cX (af 8)) de)) b9) (aR (mP (af 4)) (aR (mP (af 5)) bV)))) dO))
 aT))
noncomputable def N4:Uw->Ev->List D->aj cZ:=λa =>
 (aP (my (mT (ag (af 7) (dC (.int 6)) gw))
 (aP (xx (mA (aR (mP (af 2)) (aR (mP (af 3)) (aR (mP (af 4)) (aR (mB (mP (ao (ae (af 6) (ae (af 4) az)) bJ)) (bx 0 a (aR (mP (dC (.int 2))) bV) aF) aW) bV)))) dO))
 aT)
 aT)
 (N3 a))
noncomputable def N5:Uw->Ev->List D->aj cZ:=λa =>
 (aP (my (mT (ag (af 7) (dC (.int 5)) gw))
 (aP (xx (mA (aR (mP (af 2)) (aR (mP (af 3)) (aR (mB (mP (ao (ae (af 6) (ae (af 5) az)) bJ)) (bx 0 a (aR (mP (dC (.int 2))) bV) aF) aW) (aR (mP (af 5)) bV)))) dO))
 aT)
 aT)
 (N4 a))
noncomputable def IH:Uw->Ev->List D->aj cZ:=λa =>
 (aP (my (mT (ag (af 7) (dC (.int 4)) gw))
 (aP (di (ao (ae (af 2) (ae (ag (ao (ae (ao (ae (af 3) az) (m1 mK)) (ae (af 6) az)) bJ) (ao (ae (ag (af 6) (ao az bJ) Iu) az) (m1 je)) aW) (ae (af 4) (ae (af 5) az)))) dO))
 aT)
 aT)
 (N5 a))
noncomputable def N6:Uw->Ev->List D->aj cZ:=λa =>
 (aP (my (mT (ag (af 7) (dC (.int 3)) gw))
 (aP (xx (mA (aR (mB (mP (ao (ae (ao (ae (af 2) az) (m1 mK)) (ae (lp (af 2) de (cX (dC (.int 1)))) (ae (af 6) az))) bJ)) (bx 0 a (aR (mP (dC (.int 3))) bV) aF) aW) (aR (mP (af 3)) (aR (mP (af 4)) (aR (mP (af 5)) bV)))) dO))
 aT)
 aT)
 (IH a))
noncomputable def N7:Uw->Ev->List D->aj cZ:=λa =>
 (aP (my (mT (ag (af 7) (dC (.int 2)) gw))
 (aP (di (ao (ae (ag (af 2) (ao (ae (ag (af 2) (af 8) aW) az) bJ) b9) (ae (af 3) (ae (af 4) (ae (af 5) az)))) dO))
 aT)
 aT)
 (N6 a))
noncomputable def N8:Uw->Ev->List D->aj cZ:=λa =>
 (aP (my (mT (ag (af 7) (dC (.int 1)) gw))
 (aP (di (ao (ae (ag (ag (lp (af 2) de (cX (af 8))) (ao (ae (af 6) az) bJ) b9) (lp (af 2) (cX (ag (af 8) (dC (.int 1)) b9)) de) b9) (ae (af 3) (ae (af 4) (ae (af 5) az)))) dO))
 aT)
 aT)
 (N7 a))
noncomputable def II:Uw->Ev->List D->aj cZ:=λa =>
 (aP (my (mT (ag (af 7) (dC (.int 0)) gw))
 (aP (xx (mB (mP (ao (ae (af 6) (ae (ao (ae (af 1) az) (m1 Iv)) (ae (lp (af 1) de (cX (dC (.int 3)))) (ae (ag (af 1) (ao (ae (af 5) az) dO) b9) az)))) bJ)) (bx 0 a (aR (mP (dC (.int 4))) bV) aF) aW))
 aT)
 aT)
 (N8 a))
noncomputable def lC:Uw->Ev->List D->aj cZ:=λa =>
 (aP (cb (ML [2,3,4,5] (af 1)))
 (aP (dH 6 (mB (mP (ao (ae (dC (.non)) (ae (dC (.bl true)) (ae (dC (.int 5)) (ae (dC (.str "")) (ae (dC (.str "A")) (ae (dC (.str "abcdefghi")) (ae (ao az bJ) (ae (dC (.dic [] [])) (ae (ao (ae (dC (.str "a")) (ae (dC (.str "b")) az)) dO) az))))))))) bJ)) (bx 0 a (aR (mP (dC (.int 9))) bV) aF) aW))
 (aP (dH 7 (bx 0 a (aR (mP (dC (.int 8))) bV) aF))
 (aP (dH 8 (bx 0 a (aR (mP (ao (ae (af 2) az) (m1 dw))) bV) aF))
 (II a)))))
def cS:Uw->List D->List D->aj (D×List D):=mq 9 lC
noncomputable def jy:List D:=[.non,.bl true,.int 5,.str "",.str "A",.str "abcdefghi",.lst [],.dic [] [],.tup [.str "a",.str "b"]]
def m7:∀o∈jy,KR o=true/\zD o=false:=by
 intro o ho;simp only[jy,UG,U3,or_false] at ho;rcases ho with rfl|rfl|rfl|rfl|rfl|rfl|rfl|rfl|rfl<;>exact⟨by decide +kernel,by decide +kernel⟩
def G5(h:o∈jy):m_is_name [o]=.ok (.bl false):=by
 have:=mD (m7 o h).1
 rwa [(m7 o h).2] at this
def xq:∀o∈jy,Rp o 200 1:=by
 intro o ho;simp only[jy,UG,U3,or_false] at ho;have hs:∀z:US,z.length<=9->(∀c∈z.cps.toList,c<16 ^ 8)->Rp (.str z) 200 0:=λz h1 h2=>(Rp.str (n:=9) h1 h2).up (by decide) (UJ _);rcases ho with rfl|rfl|rfl|rfl|rfl|rfl|rfl|rfl|rfl
 .exact Rp.non.up (by decide) (by decide)
 .exact Rp.bl.up (by decide) (by decide)
 .exact⟨.int 5,by rw[fT],by decide +kernel,by decide +kernel,by decide +kernel⟩
 .exact(hs _ (by decide +kernel) (by decide +kernel)).up (by decide) (by decide)
 .exact(hs _ (by decide +kernel) (by decide +kernel)).up (by decide) (by decide)
 .exact(hs _ (by decide +kernel) (by decide +kernel)).up (by decide) (by decide)
 .exact(Rp.lst (k:=0) cL.nil).up (by decide) (by decide)
 .exact(Rp.emp (k:=0)).up (by decide) (by decide)
 .exact(Rp.tup (k:=0) (cL.cons ((Rp.str (n:=1) (by decide +kernel) (by decide +kernel)).up (n':=82) (k':=0) (by decide) (by decide)) (cL.cons ((Rp.str (n:=1) (by decide +kernel) (by decide +kernel)).up (n':=82) (k':=0) (by decide) (by decide)) cL.nil))).up (by decide) (by decide)
def gR(h0:0<=r)(h1:r<ds.length):∃d∈ds,aW (.lst ds) (.int r)=.ok d:=by
 have hlt:r.toNat<ds.length:=by omega
 have he:ds[r.toNat]?=some ds[r.toNat]:=UB hlt;have:=pf he;rw[show((r.toNat:Nat):Int)=r by omega] at this;exact⟨_,XF hlt,this⟩
noncomputable def jI:List D:=[.tup [.int (-1),.int 2],.tup [.bl true,.int 1],.lst [.int 1,.int 1],.str "x",.bl true,.int 5,.str "",.str "A",.str "abcdefghi",.lst [],.dic [] [],.tup [.str "a",.str "b"]]
def JB:∀o∈D.str "two"::jI,(fP "str" o=.ok (.bl false))∨(fP "str" o=.ok (.bl true)/\cD o (.tup [.str "one",.str "both"])=.ok (.bl true)):=by
 intro o ho;simp only[jI,UG,U3,or_false] at ho;rcases ho with rfl|rfl|rfl|rfl|rfl|rfl|rfl|rfl|rfl|rfl|rfl|rfl|rfl<;>first|exact .inl rfl|exact .inr ⟨rfl,rfl⟩
def EM:∀o∈D.tup [.int 2,.int 2]::jI,m_is_length [o]=.ok (.bl false):=by
 intro o ho;simp only[jI,UG,U3,or_false] at ho;rcases ho with rfl|rfl|rfl|rfl|rfl|rfl|rfl|rfl|rfl|rfl|rfl|rfl|rfl<;>rfl
def FR:∀o∈D.tup [.int 0,.int 1]::jI,m_is_worth [o]=.ok (.bl false):=by
 intro o ho;simp only[jI,UG,U3,or_false] at ho;rcases ho with rfl|rfl|rfl|rfl|rfl|rfl|rfl|rfl|rfl|rfl|rfl|rfl|rfl<;>rfl
def kc:∀o∈D.tup [.int 0,.int 1]::D.tup [.int 2,.int 2]::D.str "two"::jI,Rp o 500 1:=by
 intro o ho;simp only[jI,UG,U3,or_false] at ho;have hi:∀i:Int,i.natAbs<1000->Rp (.int i) 201 0:=λi h=>Rp.int (WN h (by decide));have h2:∀i j:Int,i.natAbs<1000->j.natAbs<1000->Rp (.tup [.int i,.int j]) 500 1:=λi j h1 h2=>(Rp.tup (cL.cons (hi i h1) (cL.cons (hi j h2) cL.nil))).up (by simp) (UJ _);have h3:∀i j:Int,i.natAbs<1000->j.natAbs<1000->Rp (.lst [.int i,.int j]) 500 1:=λi j h1 h2=>(Rp.lst (cL.cons (hi i h1) (cL.cons (hi j h2) cL.nil))).up (by simp) (UJ _);have ho2:∀o∈jy,Rp o 500 1:=λo h=>(xq o h).up (by decide) (by decide);rcases ho with rfl|rfl|rfl|rfl|rfl|rfl|rfl|rfl|rfl|rfl|rfl|rfl|rfl|rfl|rfl
 .exact h2 _ _ (by decide) (by decide)
 .exact h2 _ _ (by decide) (by decide)
 .exact(Rp.str (n:=3) (by decide +kernel) (by decide +kernel)).up (by decide) (by decide)
 .exact h2 _ _ (by decide) (by decide)
 .exact(Rp.tup (cL.cons (Rp.bl (b:=true)) (cL.cons (hi 1 (by decide)) cL.nil))).up (by simp) (UJ _)
 .exact h3 _ _ (by decide) (by decide)
 .exact(Rp.str (n:=1) (by decide +kernel) (by decide +kernel)).up (by decide) (by decide)
 all_goals exact ho2 _ (by simp [jy])
section
variable {n0 n1:US}{d e:D}
def yG(h0:nameB n0=true):m_is_tie [.tup [.str n0,.str n0,.str "one",.tup [.int 1,.int 1],.non]]=.ok (.bl false):=by
 have:=dG h0;open_line with[m_is_tie,iJ,this,gu]
def rP(h0:nameB n0=true)(h1:nameB n1=true)(hn:n0≠n1)(hd:d∈D.str "two"::jI):m_is_tie [.tup [.str n0,.str n1,d,.tup [.int 1,.int 1],.non]]=.ok (.bl false):=by
 have e0:=dG h0;have e1:=dG h1;have e2:(n0==n1)=false:=beq_eq_false_iff_ne.mpr hn;rcases JB d hd with h|⟨h,h'⟩
 .open_line with[m_is_tie,iJ,e0,e1,gu,e2,h]
 .open_line with[m_is_tie,iJ,e0,e1,gu,e2,h,h']
def yA:cD (.str "one") (.tup [.str "one",.str "both"])=.ok (.bl false):=rfl
def mh(h0:nameB n0=true)(h1:nameB n1=true)(hn:n0≠n1)(hd:d∈D.tup [.int 2,.int 2]::jI):m_is_tie [.tup [.str n0,.str n1,.str "one",d,.non]]=.ok (.bl false):=by
 have e0:=dG h0;have e1:=dG h1;have e2:(n0==n1)=false:=beq_eq_false_iff_ne.mpr hn;open_line with[m_is_tie,iJ,e0,e1,gu,e2,yA,EM d hd]
def Bs:m_is_length [.tup [.int 1,.int 1]]=.ok (.bl true):=rfl
def oR(h0:nameB n0=true)(h1:nameB n1=true)(hn:n0≠n1)(hd:d∈D.tup [.int 0,.int 1]::jI):m_is_tie [.tup [.str n0,.str n1,.str "one",.tup [.int 1,.int 1],d]]=.ok (.bl false):=by
 have e0:=dG h0;have e1:=dG h1;have e2:(n0==n1)=false:=beq_eq_false_iff_ne.mpr hn;open_line with[m_is_tie,iJ,e0,e1,gu,e2,yA,Bs,FR d hd]
end
end Nwb
namespace K11
open PySem L2 DL
abbrev aF:Uw->List D->List D->aj (D×List D):=Bor.aF
noncomputable def fM:Ev->aj Fl :=
 (aA (e7 (ag (ag (af 0) (dC (.int 0)) aW) (af 1) gw)
 (aA (b8 (ag (af 0) (dC (.int 1)) aW))
 av)
 av)
 (aA (e7 (gX (ag (ag (af 0) (dC (.int 1)) aW) (af 1) gw) (ag (ag (af 0) (dC (.int 2)) aW) (dC (.str "both")) gw))
 (aA (b8 (ag (af 0) (dC (.int 0)) aW))
 av)
 av)
 (aA (b8 (dC (.non)))
 av)))
def bU:List D->aj D:=cj 2 fM
noncomputable def jk:Uw->Ev->List D->aj cZ:=λa =>
 (aP (cb (bS 3 (ag (af 1) (dC (.int 2)) aW)))
 (aP (cb (jO 4 (ao (ae (af 3) az) bJ)))
 (aP (cb (jO 5 (ao az bJ)))
 (aP (Bn (λ_=>8) (mT (ag (af 3) (ag (af 1) (dC (.int 3)) aW) jc))
 (aP (cb (jO 6 (ao az bJ)))
 (aP (cb (vO (ao (ae (ag (af 1) (dC (.int 1)) aW) az) (m1 dw)) (b3 7)
 (aA (bS 8 (ao (ae (ag (ag (af 1) (dC (.int 1)) aW) (af 7) aW) (ae (af 3) az)) bU))
 (aA (e7 (gX (ag (af 8) (dC (.non)) fR) (gX (ag (af 8) (af 4) cD) (ag (af 7) (af 2) cD)))
 (aA (c8 6 (af 7))
 av)
 av)
 av))))
 (aP (EK 6 (my (mT (ag (af 6) (ao az bJ) gw))
 (aP (di (af 5))
 aT)
 aT))
 (aP (EK 6 (Bp 5 (mB (mP (af 6)) (bx 0 a (aR (mP (ao (ae (af 6) az) (m1 dw))) bV) aF) aW)))
 (aP (cb (rW 3 (ao (ae (ag (ag (af 1) (dC (.int 1)) aW) (ag (af 5) (bD (dC (.int 1)) oo) aW) aW) (ae (af 3) az)) bU)))
 (aP (cb (c8 4 (af 3)))
 aT)))))))
 (aP (di (af 5))
 aT)))))
def cP:Uw->List D->List D->aj (D×List D):=mq 9 jk
abbrev m_is_tie_number:List D->aj D:=Com.m_is_tie_number
noncomputable def vB:Ev->aj Fl :=
 (aA (bS 1 (ao (ae (ag (af 0) (dC (.int 0)) aW) (ae (ag (af 0) (dC (.int 1)) aW) az)) dO))
 (aA (e7 (ag (ag (af 0) (dC (.int 2)) aW) (dC (.str "one")) gw)
 (aA (b8 (ao (ae (af 1) az) bJ))
 av)
 av)
 (aA (b8 (ao (ae (af 1) (ae (ao (ae (ag (af 0) (dC (.int 1)) aW) (ae (ag (af 0) (dC (.int 0)) aW) az)) dO) az)) bJ))
 av)))
def m_steps_along:List D->aj D:=cj 2 vB
noncomputable def b_place_behind:Ev->aj Fl :=
 (aA (e7 (iZ (ag (ag (af 2) (bD (dC (.int 1)) oo) aW) (ag (af 0) (dC (.int 3)) aW) gw) (iZ (cM (ao (ae (af 0) (ae (af 3) az)) m_is_tie_number)) (ag (af 3) (af 1) Fe)))
 (aA (b8 (dC (.non)))
 av)
 av)
 (aA (qr (ao (ae (ag (ag (af 0) (dC (.int 1)) aW) (af 3) aW) az) m_steps_along) (i9 [4,5])
 (aA (e7 (gX (ag (af 4) (ag (af 2) (bD (dC (.int 1)) oo) aW) gw) (ag (af 5) (af 2) cD))
 (aA (b8 (af 5))
 av)
 av)
 av))
 (aA (b8 (dC (.non)))
 av)))
def m_place_behind:List D->aj D:=cj 6 b_place_behind
noncomputable def b_walk_way:Ev->aj Fl :=
 (aA (e7 (cM (bD (af 2) (fP "list")))
 (aA (dA "NoWay" ["at"] (ae (dC (.non)) az))
 av)
 av)
 (aA (jO 3 (ao (ae (ag (af 0) (dC (.int 2)) aW) az) bJ))
 (aA (kI (vq (af 2)) (i9 [4,5])
 (aA (rW 6 (ao (ae (af 0) (ae (af 1) (ae (af 3) (ae (af 5) az)))) m_place_behind))
 (aA (e7 (ag (af 6) (dC (.non)) gW)
 (aA (dA "NoWay" ["at"] (ae (af 4) az))
 av)
 av)
 (aA (c8 3 (af 6))
 av))))
 (aA (Ew 3 (e7 (ag (ag (af 3) (bD (dC (.int 1)) oo) aW) (ag (af 0) (dC (.int 3)) aW) jc)
 (aA (dA "NoWay" ["at"] (ae (ao (ae (af 2) az) (m1 dw)) az))
 av)
 av))
 (aA (b8 (af 3))
 av)))))
def m_walk_way:List D->aj D:=cj 7 b_walk_way
end K11
namespace K51
open PySem L2 DL
abbrev m_is_length:List D->aj D:=Com.m_is_length
abbrev m_is_less:List D->aj D:=Com.m_is_less
abbrev m_plus:List D->aj D:=Com.m_plus
noncomputable def B4:Ev->aj Fl :=
 (aA (b8 (iZ (ag (af 0) (dC (.non)) gW) (ao (ae (af 0) az) m_is_length)))
 av)
def m_is_price:List D->aj D:=cj 1 B4
noncomputable def IP:Ev->aj Fl :=
 (aA (e7 (ag (af 0) (dC (.non)) gW)
 (aA (b8 (dC (.bl true)))
 av)
 av)
 (aA (b8 (gX (ag (af 2) (dC (.non)) fR) (cM (ao (ae (ao (ae (af 0) (ae (af 1) az)) m_plus) (ae (af 2) az)) m_is_less))))
 av))
def m_is_let:List D->aj D:=cj 3 IP
abbrev m_steps_along:List D->aj D:=K11.m_steps_along
noncomputable def yf:Ev->aj Fl :=
 (aA (jO 2 (ao az bJ))
 (aA (kI (vq (ag (af 0) (dC (.int 1)) aW)) (i9 [3,4])
 (aA (e7 (ag (af 3) (af 1) cD)
 (aA (qr (ao (ae (af 4) az) m_steps_along) (i9 [5,6])
 (aA (c8 2 (ao (ae (af 3) (ae (af 5) (ae (af 6) az))) dO))
 av))
 av)
 av)
 av))
 (aA (b8 (af 2))
 av)))
def m_steps_left:List D->aj D:=cj 7 yf
end K51
namespace K17
open PySem L2 DL
abbrev m_on_one_scale:List D->aj D:=Com.m_on_one_scale
noncomputable def pG:Ev->aj Fl :=
 (aA (b8 (ao (ae (eO 1 [] (kE (ag (af 0) (dC (.int 1)) aW)) (b3 0) mYes (ag (af 0) (dC (.int 3)) aW)) az) m_on_one_scale))
 av)
def m_scaled_lengths:List D->aj D:=cj 1 pG
abbrev m_steps_left:List D->aj D:=K51.m_steps_left
noncomputable def vg:Ev->aj Fl :=
 (aA (bS 3 (dC (.non)))
 (aA (qr (af 0) (i9 [4,5,6])
 (aA (e7 (gX (ag (af 5) (af 2) Iz) (ag (af 6) (af 2) rq))
 (aA (bS 7 (ag (ag (ag (af 2) (af 5) kj) (dC (.int 0)) aW) (ag (af 1) (af 4) aW) b9))
 (aA (e7 (iZ (ag (af 3) (dC (.non)) gW) (ag (af 7) (ag (af 3) (dC (.int 1)) aW) Q2))
 (aA (bS 3 (ao (ae (af 6) (ae (af 7) (ae (ag (ag (ag (af 2) (af 5) kj) (dC (.int 1)) aW) (ao (ae (af 4) az) bJ) b9) az))) dO))
 av)
 av)
 av))
 av)
 av))
 (aA (b8 (af 3))
 av)))
def m_nearest_step:List D->aj D:=cj 8 vg
noncomputable def vC:Ev->aj Fl :=
 (aA (bS 3 (ao (ae (af 0) (ae (af 1) az)) m_steps_left))
 (aA (Cn 4 (Iy (ag (af 0) (dC (.int 2)) aW) (ao (ae (dC (.int 0)) (ae (ao az bJ) az)) dO)))
 (aA (Gn 5 (ao (ae (af 3) (ae (af 2) (ae (af 4) az))) m_nearest_step))
 (aA (kG (λ_=>8) (ag (af 5) (dC (.non)) fR)
 (aA (Gp 4 (ao (ae (ag (af 5) (dC (.int 1)) aW) (ae (ag (af 5) (dC (.int 2)) aW) az)) dO) (ag (af 5) (dC (.int 0)) aW))
 (aA (Gn 5 (ao (ae (af 3) (ae (af 2) (ae (af 4) az))) m_nearest_step))
 av)))
 (aA (b8 (af 4))
 av)))))
def m_all_reached:List D->aj D:=cj 6 vC
abbrev m_ratio:List D->aj D:=Com.m_ratio
noncomputable def B2:Ev->aj Fl :=
 (aA (bS 2 (ao (ae (af 0) az) m_scaled_lengths))
 (aA (bS 3 (ao (ae (af 0) (ae (af 1) (ae (ag (af 2) (dC (.int 0)) aW) az))) m_all_reached))
 (aA (Cn 4 (dC (.dic [] [])))
 (aA (qr (ag (af 0) (dC (.int 0)) aW) (b3 5)
 (aA (Gp 4 (RF (ag (af 5) (af 3) Iz) (ao (ae (ag (ag (af 3) (af 5) kj) (dC (.int 0)) aW) (ae (ag (af 2) (dC (.int 1)) aW) az)) m_ratio) (dC (.non))) (af 5))
 av))
 (aA (e7 (ag (ag (af 0) (dC (.int 3)) aW) (af 3) rq)
 (aA (b8 (ao (ae (dC (.non)) (ae (dC (.non)) (ae (af 4) az))) dO))
 av)
 av)
 (aA (b8 (ao (ae (ag (ag (af 3) (ag (af 0) (dC (.int 3)) aW) kj) (dC (.int 1)) aW) (ae (ag (af 4) (ag (af 0) (dC (.int 3)) aW) kj) (ae (af 4) az))) dO))
 av))))))
def m_shortest:List D->aj D:=cj 6 B2
abbrev m_is_price:List D->aj D:=K51.m_is_price
noncomputable def ji:Ev->aj Fl :=
 (aA (e7 (iZ (cM (bD (af 1) (fP "dict"))) (ag (ao (ae (af 1) az) (m1 Iw)) (ao (ae (af 0) az) (m1 dw)) jc))
 (aA (b8 (dC (.bl false)))
 av)
 av)
 (aA (b8 (ao (ae (eO 1 [1] (kE (af 0)) (b3 0) mYes (gX (ag (af 0) (af 1) Iz) (ao (ae (ag (af 1) (af 0) kj) az) m_is_price))) az) (m1 IA)))
 av))
def m_prices_just_the_places:List D->aj D:=cj 2 ji
end K17
namespace K11
open PySem L2 DL Com
noncomputable def there(t:Jj) (z:US):Option US:=if t.a=z then some t.b else if t.b=z/\t.w="both" then some t.a else none
def oS:Option US->D
 |some z=>.str z
 |none=>.non
def xK:gw (.str x) (.str y)=.ok (.bl (decide (x=y))):=by
 have h:gw (.str x) (.str y)=.ok (.bl (x==y)):=rfl;rw[h]
 by_cases e:x=y
 .rw[decide_eq_true e,e,beq_self_eq_true]
 .rw[decide_eq_false e,beq_eq_false_iff_ne.mpr e]
def yH:bU [bq t,.str z]=.ok (oS (there t z)):=by
 obtain⟨a,b,w,l,o⟩:=t;rw[show bq ⟨a,b,w,l,o⟩=.tup [.str a,.str b,.str w,fr l,dN o] from rfl];unfold there
 by_cases h1:a=z
 .rw[if_pos h1]
  open_line with[bU,fM,xK,decide_eq_true h1,oS]
 .rw[if_neg h1]
  by_cases h2:b=z
  .by_cases h3:w="both"
   .rw[if_pos ⟨h2,h3⟩]
    open_line with[bU,fM,xK,decide_eq_false h1,decide_eq_true h2,decide_eq_true h3,oS]
   .rw[if_neg (λh=>h3 h.2)]
    open_line with[bU,fM,xK,decide_eq_false h1,decide_eq_true h2,decide_eq_false h3,oS]
  .rw[if_neg (λh=>h2 h.1)]
   open_line with[bU,fM,xK,decide_eq_false h1,decide_eq_false h2,oS]
def jt{ks:List Nat}:(ks.map λ(k:Nat)=>D.int (k:Int)).all (br m)=true:=Vc.mpr λd hd=>by
 obtain⟨z,_,rfl⟩:=Vg.mp hd;cases m<;>rfl
theorem D3{n:Nat}:∀{ks:List Nat},((ks.map λ(k:Nat)=>D.int (k:Int)).any λd=>dJ d (.int (n:Int)))=decide (n∈ks)
 |[]=>rfl
 |k::ks=>by
  rw[UW,WB,D3];have e:dJ (.int (k:Int)) (.int (n:Int))=((k:Int)==(n:Int)):=by rw[dJ]
  rw[e]
  by_cases h:n=k
  .subst h;simp
  .have h1:((k:Int)==(n:Int))=false:=beq_eq_false_iff_ne.mpr (by omega)
   rw[h1,YS];have:n∈k::ks↔n∈ks:=by simp [h]
   exact decide_eq_decide.mpr this.symm
def sO{ks:List Nat}{n:Nat}:cD (.int (n:Int)) (.lst (ks.map λ(k:Nat)=>D.int (k:Int)))=.ok (.bl (!(decide (n∈ks)))):=by
 have e:Ji (.int (n:Int)) (.lst (ks.map λ(k:Nat)=>D.int (k:Int)))=some (decide (n∈ks)):=(if_pos ⟨rfl,jt⟩).trans (congrArg some D3);unfold cD;rw[e]
def Nm:jc (.str x) (.str y)=.ok (.bl (!(decide (x=y)))):=by
 have h:jc (.str x) (.str y)=.ok (.bl (!(x==y))):=rfl;rw[h]
 by_cases e:x=y
 .rw[decide_eq_true e,e,beq_self_eq_true]
 .rw[decide_eq_false e,beq_eq_false_iff_ne.mpr e]
noncomputable def Tj(i:Nat) (ρ:Ev) (d:D):aj Fl:=if nq d=true then .ok (.nx (ρ.set i (.sh d))) else .stuck
def NG:rW i f ρ=(f (fz ρ)).bind (Tj i ρ):=aL rfl
def QP:Tj i ρ (.str y)=.ok (.nx (ρ.set i (.sh (.str y)))):=aL rfl
def noWay(d:D):Jn:=⟨"NoWay",[("at",d)]⟩
end K11
namespace K11
open PySem L2 DL Com Bor
def cut_mem:∀d∈eP ws lo hi,d∈ws:=λd hd=>by
 unfold eP at hd;exact XZ (Wd hd)
abbrev nums(ks:List Nat):List D:=ks.map λ(k:Nat)=>D.int (k:Int)
noncomputable def TH(w:AO) (ks:List Nat) (seen:List US) (here:US) (k:Nat):Prop:=∃t y,w.ts[k]?=some t/\there t here=some y/\y∉seen
noncomputable abbrev LJ:Ev->aj Fl:=(aA (bS 8 (ao (ae (ag (ag (af 1) (dC (.int 1)) aW) (af 7) aW) (ae (af 3) az)) bU))
 (aA (e7 (gX (ag (af 8) (dC (.non)) fR) (gX (ag (af 8) (af 4) cD) (ag (af 7) (af 2) cD)))
 (aA (c8 6 (af 7))
 av)
 av)
 av))
noncomputable def qC(a:Uw) (w:AO) (ks:List Nat) (here:US) (seen:List US) (way:List Nat) (x6 x7 x8:Sl):Ev:=[.pt a,.sh (bp w),.sh (.lst (nums ks)),.sh (.str here),.ow (.lst (seen.map D.str)),.ow (.lst (nums way)),x6,x7,x8]
def Eo(W:dX w):∃(sm:List Nat) (y7 y8:Sl),cB (b3 7) LJ (DL.intsFrom 0 w.ts.length) (qC a w ks here seen way (.ow (.lst [])) x7 x8)=.ok (.nx (qC a w ks here seen way (.ow (.lst (nums sm))) y7 y8))/\(∀k∈sm,TH w ks seen here k)/\sm.length<=w.ts.length:=by
 have t14:=W.t14;have i1:aW (bp w) (.int 1)=.ok (.lst (w.ts.map bq)):=rfl;obtain⟨ρ',hl,sm,y7,y8,rfl,h1,h2⟩:=xF (i:=7) (n:=w.ts.length) (ρ:=qC a w ks here seen way (.ow (.lst [])) x7 x8) (body:=LJ)
  (λj ρ=>∃(sm:List Nat) (y7 y8:Sl),ρ=qC a w ks here seen way (.ow (.lst (nums sm))) y7 y8/\(∀k∈sm,TH w ks seen here k)/\sm.length<=j) (by
   rintro j hj ρ ⟨sm,y7,y8,rfl,h1,h2⟩;have ht:w.ts[j]?=some w.ts[j]:=UB hj;have hti:=wX ht;have hap:decide ((nums sm).length<=999)=true:=decide_eq_true (by rw[Uv];omega);have e2:=yH (t:=w.ts[j]) (z:=here);have hnn:fR .non .non=.ok (.bl false):=rfl;have hns:∀y:US,fR (.str y) .non=.ok (.bl true):=λ_=>rfl;unfold qC;cases e:there w.ts[j] here with
   |none =>
    rw[e] at e2;simp only[oS] at e2;refine⟨qC a w ks here seen way (.ow (.lst (nums sm))) (.sh (.int (j:Int))) (.sh .non),?_,sm,_,_,rfl,h1,by omega⟩;unfold qC;open_line with[i1,hti,e2,hnn]
   |some y =>
    rw[e] at e2;simp only[oS] at e2
    by_cases h3:y∈seen
    .refine⟨qC a w ks here seen way (.ow (.lst (nums sm))) (.sh (.int (j:Int))) (.sh (.str y)),?_,sm,_,_,rfl,h1,by omega⟩
     unfold qC;open_line with[i1,hti,e2,hns,ef,decide_eq_true h3]
    .by_cases h4:j∈ks
     .refine⟨qC a w ks here seen way (.ow (.lst (nums sm))) (.sh (.int (j:Int))) (.sh (.str y)),?_,sm,_,_,rfl,h1,by omega⟩
      unfold qC;open_line with[i1,hti,e2,hns,ef,decide_eq_false h3,sO,decide_eq_true h4]
     .refine⟨qC a w ks here seen way (.ow (.lst (nums (sm++[j])))) (.sh (.int (j:Int))) (.sh (.str y)),?_,sm++[j],_,_,rfl,λk hk=>?_,by simp;omega⟩
      .unfold qC
       rw[show nums (sm++[j])=nums sm++[.int (j:Int)] by simp [nums]];open_line with[i1,hti,e2,hns,ef,decide_eq_false h3,sO,decide_eq_false h4,gq hap]
      .rcases Vl.mp hk with hk|hk
       .exact h1 k hk
       .have:k=j:=by simpa using hk
        subst this;exact⟨_,y,ht,e,h3⟩) ⟨[],x7,x8,rfl,λk hk=>by simp at hk,by simp⟩
 exact⟨sm,y7,y8,hl,h1,h2⟩
noncomputable abbrev C3(a:Uw):Ev->List D->aj cZ:=(aP (cb (jO 6 (ao az bJ)))
 (aP (cb (vO (ao (ae (ag (af 1) (dC (.int 1)) aW) az) (m1 dw)) (b3 7)
 (aA (bS 8 (ao (ae (ag (ag (af 1) (dC (.int 1)) aW) (af 7) aW) (ae (af 3) az)) bU))
 (aA (e7 (gX (ag (af 8) (dC (.non)) fR) (gX (ag (af 8) (af 4) cD) (ag (af 7) (af 2) cD)))
 (aA (c8 6 (af 7))
 av)
 av)
 av))))
 (aP (EK 6 (my (mT (ag (af 6) (ao az bJ) gw))
 (aP (di (af 5))
 aT)
 aT))
 (aP (EK 6 (Bp 5 (mB (mP (af 6)) (bx 0 a (aR (mP (ao (ae (af 6) az) (m1 dw))) bV) aF) aW)))
 (aP (cb (rW 3 (ao (ae (ag (ag (af 1) (dC (.int 1)) aW) (ag (af 5) (bD (dC (.int 1)) oo) aW) aW) (ae (af 3) az)) bU)))
 (aP (cb (c8 4 (af 3)))
 aT))))))
def Np(h:br 39 x=true)(hs:xs.all (br 39)=true):gw (.lst (x::xs)) (.lst [])=.ok (.bl false):=by
 unfold gw;rw[if_pos ⟨by rw[br,Xg,h,hs];rfl,rfl⟩];simp [dJ,eqDs]
def FZ(a:Uw)(W:dX w)(S:St st)(hl:pre.length<=20)(hy:way.length<=20) :
  C3 a (qC a w ks here (pre++[here]) way x6 x7 x8) st=.ok (.rt (.lst (nums way)) st)∨∃(k:Nat) (y:US) (y6 y7 y8:Sl) (st':List D),C3 a (qC a w ks here (pre++[here]) way x6 x7 x8) st=.ok (.nx (qC a w ks y (pre++[here]++[y]) (way++[k]) y6 y7 y8) st')/\k<w.ts.length/\y∉pre++[here]/\y∈w.ps/\St st':=by
 have t14:=W.t14;have i1:aW (bp w) (.int 1)=.ok (.lst (w.ts.map bq)):=rfl;have hlen:dw (.lst (w.ts.map bq))=.ok (.int w.ts.length):=by rw[eM,Uv]
 obtain⟨sm,y7,y8,h1,h2,h3⟩:=Eo (a:=a) W (ks:=ks) (here:=here) (seen:=pre++[here]) (way:=way) (x7:=x7) (x8:=x8);unfold qC at h1;cases sm with
 |nil =>
  left;have en:gw (.lst []) (.lst [])=.ok (.bl true):=rfl;have e0:nums ([]:List Nat)=[]:=rfl;rw[e0] at h1;unfold qC;open_line with[i1,hlen,jX,nk (show w.ts.length<=1000000 by omega),h1,en]
 |cons c cs =>
  right;obtain⟨v,st1,t1,v0,v1,S1⟩:=bz a (n:=((c::cs).length:Int)) (by rw[U6];omega) (by omega) S;obtain⟨v,rfl⟩:=VE v0;have hv:v<(c::cs).length:=by omega
  have hix:aW (.lst (nums (c::cs))) (.int (v:Int))=.ok (.int ((c::cs)[v]:Int)):=pf (by rw[UL,UB hv];rfl);obtain⟨t,y,k1,k2,k3⟩:=h2 (c::cs)[v] (XF hv);generalize (c::cs)[v]=k at *;have hk:k<w.ts.length:=(UA.mp k1).1;have hti:=wX k1;have e2:=yH (t:=t) (z:=here);rw[k2] at e2;simp only[oS] at e2;have tk:=W.ts t (UN k1);have hps:y∈w.ps:=by
   unfold there at k2;split at k2
   .cases k2;exact tk.b
   .split at k2
    .cases k2;exact tk.a
    .cases k2
  have hsl:dw (.lst (nums (c::cs)))=.ok (.int ((c::cs).length:Int)):=by rw[eM,Uv]
  have en:gw (.lst (nums (c::cs))) (.lst [])=.ok (.bl false):=Np rfl jt;have hap:decide ((nums way).length<=999)=true:=decide_eq_true (by rw[Uv];omega);have hap2:decide (((pre++[here]).map D.str).length<=999)=true:=decide_eq_true (by simp;omega);have hlast:aW (.lst (nums way++[.int (k:Int)])) (.int (-1))=.ok (.int (k:Int)):=KI;generalize nums (c::cs)=SM at *;generalize (c::cs).length=N at *;refine⟨k,y,.sh (.lst SM),y7,y8,st1,?_,hk,k3,hps,S1⟩;unfold qC;have e5:nums (way++[k])=nums way++[.int (k:Int)]:=by simp [nums]
  have e6:(pre++[here]++[y]).map D.str=(pre++[here]).map D.str++[.str y]:=by rw[V7];rfl
  rw[e5,e6];open_line with[i1,hlen,jX,nk (show w.ts.length<=1000000 by omega),h1,en,hsl,t1,hix,q9 hap,hlast,hti,e2,NG,QP,gq hap2]
noncomputable abbrev Hn:Ev->List D->aj (D×List D):=mT (ag (af 3) (ag (af 1) (dC (.int 3)) aW) jc)
def JM:Hn (qC a w ks here seen way x6 x7 x8) st=.ok (.bl (!(decide (here=w.la))),st):=by
 have i3:aW (bp w) (.int 3)=.ok (.str w.la):=rfl;unfold qC;cases x6<;>cases x7<;>cases x8<;>open_line with[i3,Nm]
section
variable {c:Ev->List D->aj (D×List D)}{s:Ev->List D->aj cZ}{f:Nat}{ρ ρ2:Ev}{st st1 st2:List D}{d:D}
def JD(h:c ρ st=.ok (.bl false,st1)):dE c s (f+1) ρ st=.ok (.nx ρ st1):=by
 unfold dE;rw[h];rfl
def JE(h:c ρ st=.ok (.bl true,st1))(e:s ρ st1=.ok (.nx ρ2 st2)):dE c s (f+1) ρ st=dE c s f ρ2 st2:=by
 rw[dE,h];show((s ρ st1).bind _)=_;rw[e];rfl
def Mt(h:c ρ st=.ok (.bl true,st1))(e:s ρ st1=.ok (.rt d st2)):dE c s (f+1) ρ st=.ok (.rt d st2):=by
 rw[dE,h];show((s ρ st1).bind _)=_;rw[e];rfl
end
def AU(a:Uw){w:AO}(W:dX w){ks:List Nat}:∀(f:Nat) (pre:List US) (here:US) (way:List Nat) (x6 x7 x8:Sl) (st:List D),pre.length+f=8->(pre++[here]).Nodup->(∀z∈pre++[here],z∈w.ps)->way.length=pre.length->(∀k∈way,k<w.ts.length)->St st ->
  ∃(way':List Nat) (st':List D),(dE Hn (C3 a) f (qC a w ks here (pre++[here]) way x6 x7 x8) st=.ok (.rt (.lst (nums way')) st')∨∃(here':US) (seen':List US) (y6 y7 y8:Sl),dE Hn (C3 a) f (qC a w ks here (pre++[here]) way x6 x7 x8) st=.ok (.nx (qC a w ks here' seen' way' y6 y7 y8) st'))/\way'.length<=7/\(∀k∈way',k<w.ts.length)/\St st':=by
 intro f
 induction f with
 |zero =>
  intro pre here way x6 x7 x8 st hf nd hp _ _ _;have:=Cod.nodup_le nd hp;have n7:=W.n7;simp at this;omega
 |succ f ih =>
  intro pre here way x6 x7 x8 st hf nd hp hw hk S;have hle:=Cod.nodup_le nd hp;have n7:=W.n7;rw[Vt,Y8] at hle;have ht:=JM (a:=a) (w:=w) (ks:=ks) (here:=here) (seen:=pre++[here]) (way:=way) (x6:=x6) (x7:=x7) (x8:=x8) (st:=st)
  by_cases hc:here=w.la
  .rw[decide_eq_true hc] at ht
   exact⟨way,st,.inr ⟨here,pre++[here],x6,x7,x8,JD ht⟩,by omega,hk,S⟩
  .rw[decide_eq_false hc] at ht
   rcases FZ a W (ks:=ks) (here:=here) (pre:=pre) (way:=way) (x6:=x6) (x7:=x7) (x8:=x8) S (by omega) (by omega) with e|⟨k,y,y6,y7,y8,st',e,k1,k2,k3,S'⟩
   .exact⟨way,st,.inl (Mt ht e),by omega,hk,S⟩
   .obtain⟨way',st2,h1,h2,h3,h4⟩:=ih (pre++[here]) y (way++[k]) y6 y7 y8 st' (by simp;omega) (Cod.nodup_snoc nd k2) (λz hz=>by
     rcases Vl.mp hz with hz|hz
     .exact hp z hz
     .have:z=y:=by simpa using hz
      rw[this];exact k3) (by simp;omega) (λj hj=>by
     rcases Vl.mp hj with hj|hj
     .exact hk j hj
     .have:j=k:=by simpa using hj
      rw[this];exact k1) S'
    rw[←JE (f:=f) ht e] at h1;exact⟨way',st2,h1,h2,h3,h4⟩
def walked_ok(a:Uw)(W:dX w)(S:St st):∃(way:List Nat) (st':List D),cP a st [bp w,dF ks]=.ok (.lst (nums way),st')/\way.length<=7/\(∀k∈way,k<w.ts.length)/\St st':=by
 have i2:aW (bp w) (.int 2)=.ok (.str w.fi):=rfl;obtain⟨way,st',h1,h2,h3,h4⟩:=AU a W (ks:=ks) 8 [] w.fi [] .no .no .no st rfl (by simp) (λz hz=>by
  have:z=w.fi:=by simpa using hz
  rw[this];exact W.fi) rfl (λk hk=>by simp at hk) S
 refine⟨way,st',?_,h2,h3,h4⟩;have hwh:∀(c:Ev->List D->aj (D×List D)) (s:Ev->List D->aj cZ) (ρ:Ev) (st:List D),Bn (λ_=>8) c s ρ st=dE c s 8 ρ st:=λ_ _ _ _=>rfl;unfold qC at h1;simp only[We,UW,Wc] at h1;rcases h1 with h1|⟨here',seen',y6,y7,y8,h1⟩
 .open_line with[cP,jk,dF,i2,hwh,h1]
 .open_line with[cP,jk,dF,i2,hwh,h1]
end K11
namespace K12
open PySem L2 DL Com Bor K11
section
variable {s t:Ev->aj Fl}{ρ:Ev}{ds:List D}{n i:Nat}{f:Ev->aj D}{fa:Ev->aj (List D)}{m:List D->aj D}{d:D}
noncomputable def BM(m:List D->aj D) (ρ:Ev) (r:aj (List D)):aj Fl:=match r with
 |.ok ds=>(m ds).bind λ_=>.ok (.nx ρ)
 |_=>.stuck
def ef_dropC:rX fa m ρ=BM m ρ (fa ρ):=aL rfl
def ef_dropC1(h:m ds=.exn x):BM m ρ (.ok ds)=.exn x:=by unfold BM;simp only[h];rfl
end
end K12
namespace K51
open PySem L2 DL Com Bor
def i0(u:IY):aW (fr u) (.int 0)=.ok (.int u.1):=rfl
def i1(u:IY):aW (fr u) (.int 1)=.ok (.int u.2):=rfl
end K51
namespace K16
open PySem L2 DL
def fW:List (US×Bool):=[("NoTaking",true),("NoWay",true),("NoWeb",true)]
def qT:List (US×Bool):=[("NoTaking",false),("NoWay",false),("NoWeb",true)]
def yM:US->Option Bool:=kB [("NoTaking",true),("NoWay",true),("NoWeb",true)]
def yL:US->Option Bool:=kB [("NoTaking",false),("NoWay",true),("NoWeb",false)]
def yK:US->Option Bool:=kB [("NoTaking",true),("NoWay",false),("NoWeb",false)]
def yJ:US->Option Bool:=kB [("NoTaking",false),("NoWay",false),("NoWeb",true)]
def yI:US->Option Bool:=kB [("NoTaking",false),("NoWay",false),("NoWeb",false)]
def jA:US->Option Bool:=kB [("NoWeb",true)]
def nh:US->Option Bool:=kB [("NoWeb",true)]
abbrev cA:List D->aj D:=Bor.cA
abbrev aF:Uw->List D->List D->aj (D×List D):=Bor.aF
abbrev eK:Uw->List D->List D->aj (D×List D):=Bor.eK
abbrev eg:List D->aj D:=Cod.eg
abbrev du:Uw->List D->List D->aj (D×List D):=Bor.du
abbrev dq:Uw->List D->List D->aj (D×List D):=Bor.dq
abbrev dm:Uw->List D->List D->aj (D×List D):=Bor.dm
abbrev dr:Uw->List D->List D->aj (D×List D):=Bor.dr
abbrev bU:List D->aj D:=K11.bU
abbrev cP:Uw->List D->List D->aj (D×List D):=K11.cP
abbrev cT:Uw->List D->List D->aj (D×List D):=Nwb.cT
abbrev cS:Uw->List D->List D->aj (D×List D):=Nwb.cS
noncomputable def dj:Uw->Ev->List D->aj cZ:=λa =>
 (aP (cb (bS 2 (eO 1 [1] (eS (ao (ae (ag (af 1) (dC (.int 1)) aW) az) (m1 dw))) (b3 0) (ag (ag (ag (ag (af 1) (dC (.int 1)) aW) (af 0) aW) (dC (.int 4)) aW) (dC (.non)) fR) (af 0))))
 (aP (cb (bS 3 (eO 1 [1] (eS (ao (ae (ag (af 1) (dC (.int 1)) aW) az) (m1 dw))) (b3 0) (ag (ag (ag (ag (af 1) (dC (.int 1)) aW) (af 0) aW) (dC (.int 4)) aW) (dC (.non)) gW) (af 0))))
 (aP (cb (bS 4 (ao (ae (dC (.non)) (ae (dC (.int 5)) (ae (dC (.dic [] [])) (ae (ao (ae (af 2) az) (m1 mK)) (ae (ao (ae (dC (.bl true)) az) bJ) (ae (ao (ae (ao (ae (ag (af 1) (dC (.int 1)) aW) az) (m1 dw)) az) bJ) (ae (ao (ae (bD (dC (.int 1)) oo) az) bJ) (ae (ao (ae (dC (.str "0")) az) bJ) (ae (ao (ae (dC (.non)) az) bJ) (ae (ao (ae (ao (ae (dC (.int 0)) az) dO) az) bJ) az)))))))))) bJ)))
 (aP (cb (bS 4 (ag (af 4) (ao (ae (lp (af 3) de (cX (dC (.int 1)))) (ae (lp (af 3) (cX (bD (dC (.int 1)) oo)) de) (ae (bD (lp (af 2) de (cX (dC (.int 2)))) NS) (ae (JZ (lX (af 2) de (cX (dC (.int 1)))) (dC (.int 2))) az)))) bJ) b9)))
 (aP (dH 5 (mB (mP (af 4)) (bx 0 a (aR (mP (dC (.int 14))) bV) aF) aW))
 (aP (my (mT (iZ (ag (af 5) (ao az bJ) mL) (gX (ag (ao (ae (af 2) az) (m1 dw)) (dC (.int 1)) gw) (ag (af 5) (af 2) mL))))
 (aP (di (ao (ae (dC (.int 99)) az) bJ))
 aT)
 aT)
 (aP (di (af 5))
 aT)))))))
def cf:Uw->List D->List D->aj (D×List D):=mq 6 dj
abbrev m_is_name:List D->aj D:=Com.m_is_name
abbrev m_look_at_places:List D->aj D:=Nwb.m_look_at_places
abbrev m_is_whole:List D->aj D:=Com.m_is_whole
abbrev m_common_divisor:List D->aj D:=Com.m_common_divisor
abbrev m_is_ratio:List D->aj D:=Com.m_is_ratio
abbrev m_is_length:List D->aj D:=Com.m_is_length
abbrev m_is_worth:List D->aj D:=Com.m_is_worth
abbrev m_is_tie:List D->aj D:=Com.m_is_tie
abbrev m_look_at_ties:List D->aj D:=Nwb.m_look_at_ties
abbrev m_is_place:List D->aj D:=Com.m_is_place
abbrev m_look_at_web:List D->aj D:=Nwb.m_look_at_web
noncomputable def i7:Ev->aj Fl :=
 (aA (bS 1 (dC (.non)))
 (aA (Eu (rX (ae (af 0) az) m_look_at_web) (l9 qT) 2
 (aA (bS 1 (ao (ae (bD (af 2) (iF nh "part")) (ae (bD (af 2) (iF jA "number")) az)) dO))
 av))
 (aA (b8 (af 1))
 av)))
def d8:List D->aj D:=cj 3 i7
abbrev m_is_tie_number:List D->aj D:=Com.m_is_tie_number
abbrev m_steps_along:List D->aj D:=K11.m_steps_along
abbrev m_place_behind:List D->aj D:=K11.m_place_behind
abbrev m_walk_way:List D->aj D:=K11.m_walk_way
noncomputable def lu:Ev->aj Fl :=
 (aA (ig (ao (ae (af 0) az) m_look_at_web))
 (aA (b8 (ao (ae (af 0) (ae (ao az bJ) (ae (af 1) az))) m_walk_way))
 av))
def fk:List D->aj D:=cj 2 lu
noncomputable def dI:Ev->aj Fl :=
 (aA (ig (ao (ae (af 0) az) m_look_at_web))
 (aA (e7 (cM (bD (af 1) (fP "list")))
 (aA (kH "NoTaking" (ae (dC (.str "a taking is a list")) az))
 av)
 av)
 (aA (bS 2 (bD (dC (.int 1)) oo))
 (aA (qr (af 1) (b3 3)
 (aA (e7 (iZ (cM (ao (ae (af 0) (ae (af 3) az)) m_is_tie_number)) (ag (af 3) (af 2) Lc))
 (aA (kH "NoTaking" (ae (dC (.str "a taking is of rising numbers of ties")) az))
 av)
 av)
 (aA (e7 (ag (ag (ag (ag (af 0) (dC (.int 1)) aW) (af 3) aW) (dC (.int 4)) aW) (dC (.non)) gW)
 (aA (kH "NoTaking" (ae (dC (.str "a watched tie can't be taken")) az))
 av)
 av)
 (aA (bS 2 (af 3))
 av))))
 av))))
def aX:List D->aj D:=cj 4 dI
noncomputable def jj:Ev->aj Fl :=
 (aA (ig (ao (ae (af 0) (ae (af 1) az)) aX))
 (aA (ig (ao (ae (af 0) (ae (af 1) (ae (af 2) az))) m_walk_way))
 av))
def cO:List D->aj D:=cj 3 jj
abbrev m_ratio:List D->aj D:=Com.m_ratio
abbrev m_plus:List D->aj D:=Com.m_plus
abbrev m_sum_of:List D->aj D:=Com.m_sum_of
noncomputable def lz:Ev->aj Fl :=
 (aA (ig (ao (ae (af 0) (ae (ao az bJ) (ae (af 1) az))) cO))
 (aA (b8 (ao (ae (eO 1 [0] (kE (af 1)) (b3 0) mYes (ag (ag (ag (af 1) (dC (.int 1)) aW) (af 0) aW) (dC (.int 3)) aW)) az) m_sum_of))
 av))
def fq:List D->aj D:=cj 2 lz
abbrev m_shared_bottom:List D->aj D:=Com.m_shared_bottom
abbrev m_as_whole:List D->aj D:=Com.m_as_whole
abbrev m_on_one_scale:List D->aj D:=Com.m_on_one_scale
abbrev m_scaled_lengths:List D->aj D:=K17.m_scaled_lengths
abbrev m_steps_left:List D->aj D:=K51.m_steps_left
abbrev m_nearest_step:List D->aj D:=K17.m_nearest_step
abbrev m_all_reached:List D->aj D:=K17.m_all_reached
abbrev m_shortest:List D->aj D:=K17.m_shortest
noncomputable def qh:Ev->aj Fl :=
 (aA (ig (ao (ae (af 0) (ae (af 1) az)) aX))
 (aA (b8 (ao (ae (af 0) (ae (af 1) az)) m_shortest))
 av))
def iS:List D->aj D:=cj 2 qh
abbrev m_is_price:List D->aj D:=K51.m_is_price
abbrev m_prices_just_the_places:List D->aj D:=K17.m_prices_just_the_places
abbrev m_is_less:List D->aj D:=Com.m_is_less
abbrev m_is_let:List D->aj D:=K51.m_is_let
noncomputable def md:Ev->aj Fl :=
 (aA (ig (ao (ae (af 0) (ae (af 1) az)) aX))
 (aA (e7 (iZ (cM (ao (ae (ag (af 0) (dC (.int 0)) aW) (ae (af 2) az)) m_prices_just_the_places)) (ag (ag (af 2) (ag (af 0) (dC (.int 2)) aW) kj) (dC (.tup [(.int 0),(.int 1)])) jc))
 (aA (b8 (dC (.bl false)))
 av)
 av)
 (aA (qr (ao (ae (af 0) (ae (af 1) az)) m_steps_left) (i9 [3,4,5])
 (aA (e7 (cM (ao (ae (ag (af 2) (af 4) kj) (ae (ag (ag (ag (af 0) (dC (.int 1)) aW) (af 3) aW) (dC (.int 3)) aW) (ae (ag (af 2) (af 5) kj) az))) m_is_let))
 (aA (b8 (dC (.bl false)))
 av)
 av)
 av))
 (aA (b8 (dC (.bl true)))
 av))))
def gk:List D->aj D:=cj 6 md
noncomputable def gY:Ev->aj Fl :=
 (aA (bS 4 (dC (.non)))
 (aA (Gm (qB (Nx (ag (af 0) (dC (.int 0)) gw) (qB (pY (ae (af 1) (ae (af 2) (ae (af 3) az))) cO) Bu)) (qB (Nx (ag (af 0) (dC (.int 1)) gw) (qB (pY (ae (af 1) (ae (af 2) (ae (af 3) az))) gk) Bu)) (qB (Nx (ag (af 0) (dC (.int 2)) gw) (qB (pY (ae (af 1) (ae (af 2) az)) iS) Bu)) (qB (Nx (ag (af 0) (dC (.int 3)) gw) (qB (pY (ae (af 1) (ae (af 3) az)) fq) Bu)) (qB (Nx (ag (af 0) (dC (.int 4)) gw) (qB (pY (ae (af 1) (ae (af 3) az)) fk) Bu)) Bu))))) (l9 fW) 5
 (aA (bS 4 (af 5))
 av))
 (aA (e7 (iZ (ag (af 4) (dC (.non)) gW) (cM (bD (af 4) (eD yM))))
 (aA (b8 (ao (ae (ag (af 4) (dC (.non)) gW) az) bJ))
 av)
 av)
 (aA (jO 6 (ao (ae (bD (af 4) (eD yJ)) (ae (bD (af 4) (eD yK)) (ae (bD (af 4) (eD yL)) az))) bJ))
 (aA (c8 6 (bD (af 4) (eD yI)))
 (aA (e7 (ag (af 6) (dC (.int 0)) aW)
 (aA (c8 6 (ao (ae (bD (af 4) (iF nh "part")) (ae (bD (af 4) (iF jA "number")) az)) dO))
 av)
 av)
 (aA (b8 (af 6))
 av)))))))
def bM:List D->aj D:=cj 7 gY
noncomputable def ou:Uw->Ev->List D->aj cZ:=λa =>
 (aP (dH 4 (bx 0 a (aR (mP (af 1)) bV) cS))
 (aP (dH 5 (bx 0 a (aR (mP (af 1)) bV) cf))
 (aP (dH 6 (mB (mP (ao (ae (af 3) (ae (dC (.non)) (ae (ao (ae (dC (.int 99)) az) bJ) (ae (dC (.int 5)) az)))) bJ)) (bx 0 a (aR (mP (dC (.int 4))) bV) aF) aW))
 (aP (cb (bS 7 (ao (ae (ao (ae (af 4) (ae (af 5) (ae (af 1) (ae (af 6) az)))) bJ) az) (m1 uT))))
 (aP (cb (bS 8 (ao (ae (dC (.bl true)) (ae (dC (.bl false)) (ae (dC (.bl false)) (ae (dC (.bl false)) (ae (ao (ae (af 4) az) d8) az))))) bJ)))
 (aP (iT (m8 (eS (dC (.int 5)))) (b3 9)
 (aP (iT (m8 (kE (ao (ae (af 2) (ae (af 5) az)) bJ))) (b3 10)
 (aP (my (mT (ag (ao (ae (af 9) (ae (af 4) (ae (af 10) (ae (af 6) az)))) bM) (af 8) jc))
 (aP (di (dC (.bl false)))
 aT)
 aT)
 aT))
 aT))
 (aP (iT (m8 (eS (dC (.int 3)))) (b3 9)
 (aP (my (mT (ag (ao (ae (af 9) (ae (af 1) (ae (af 5) (ae (af 6) az)))) bM) (ao (ae (dC (.bl false)) (ae (dC (.bl true)) (ae (dC (.bl false)) (ae (dC (.bl false)) az)))) bJ) jc))
 (aP (di (dC (.bl false)))
 aT)
 aT)
 aT))
 (aP (iT (m8 (kE (ao (ae (dC (.int 0)) (ae (dC (.int 3)) (ae (dC (.int 4)) az))) bJ))) (b3 9)
 (aP (my (mT (ag (ao (ae (af 9) (ae (af 1) (ae (ao az bJ) (ae (ao (ae (dC (.int 99)) az) bJ) az)))) bM) (ao (ae (dC (.bl false)) (ae (dC (.bl false)) (ae (dC (.bl true)) (ae (dC (.bl false)) az)))) bJ) jc))
 (aP (di (dC (.bl false)))
 aT)
 aT)
 (aP (my (mT (ag (ao (ae (af 9) (ae (af 1) (ae (ao az bJ) (ae (dC (.non)) az)))) bM) (ao (ae (dC (.bl false)) (ae (dC (.bl false)) (ae (dC (.bl true)) (ae (dC (.bl false)) az)))) bJ) jc))
 (aP (di (dC (.bl false)))
 aT)
 aT)
 aT)))
 (aP (di (ag (ao (ae (ao (ae (af 4) (ae (af 5) (ae (af 1) (ae (af 6) az)))) bJ) az) (m1 uT)) (af 7) gw))
 aT)))))))))
def fG:Uw->List D->List D->aj (D×List D):=mq 11 ou
noncomputable def Mj:Ev->aj Fl :=
 (aA (vO (ao (ae (dC (.int 1)) (ae (ao (ae (ao (ae (af 0) az) (m1 dw)) (ae (dC (.int 12)) az)) (m2 Lb)) az)) (m2 NT)) (b3 1)
 (mn 2 (ao (ae (af 0) (ae (af 1) az)) cA) λa=>(aP (dH 3 (bx 2 a (aR (mP (dC (.int 7))) (aR (mP (dC (.int 14))) bV)) dm))
 (aP (dH 4 (bx 2 a (aR (mP (af 3)) (aR (mB (mP (dC (.int 2))) (bx 2 a (aR (mP (dC (.int 6))) bV) aF) b9) bV)) dr))
 (aP (dH 5 (bx 2 a (aR (mP (af 3)) (aR (mP (af 4)) bV)) cP))
 (aP (iT (m8 (eS (dC (.int 4)))) (b3 6)
 (aP (my (Hk (bx 2 a (aR (mP (af 3)) (aR (mP (af 4)) (aR (mP (af 5)) bV))) fG))
 (aP (di (dC (.bl false)))
 aT)
 aT)
 aT))
 aT))))))
 (aA (b8 (dC (.bl true)))
 av))
noncomputable def m_law:List D->aj D:=cj 7 Mj
noncomputable def top(i:Nat):V0:=PySem.Challenge.pw_farthestcut_k16_no_webs_and_takings.main.body.getD i (.Pass ⟨0,0,0,0⟩)
noncomputable def rows:List Rw:=[
 ⟨"_law_begun",top 74,["_law_script","_law_k","_law_cell"],2⟩,
 ⟨"_law_take",top 75,["_law_state","_law_many","_law_digit","_law_made","_law_turn"],2⟩,
 ⟨"_law_names",top 78,["_law_state","_law_many","_law_letters","_law_long","_law_at","_law_turn","_law_step","_law_nested","_law_found","_law_k","_law_one"],2⟩,
 ⟨"_law_low",top 76,["_law_top","_law_bottom","_law_one","_law_other"],2⟩,
 ⟨"_law_amount",top 77,["_law_state","_law_least","_law_way","_law_top","_law_many","_law_bottoms"],2⟩,
 ⟨"_law_tie",top 79,["_law_state","_law_names_here","_law_k","_law_many","_law_one","_law_other","_law_word","_law_length","_law_worth"],3⟩,
 ⟨"_law_web",top 80,["_law_state","_law_most","_law_more","_law_names_here","_law_many","_law_ties","_law_k","_law_first","_law_last"],3⟩,
 ⟨"_law_taking",top 81,["_law_state","_law_web_here","_law_rare","_law_found","_law_k"],3⟩,
 ⟨"_law_there",top 82,["_law_tie_here","_law_here"],2⟩,
 ⟨"_law_walked",top 83,["_law_state","_law_web_here","_law_gone","_law_here","_law_seen","_law_way","_law_some","_law_k","_law_there_here"],3⟩,
 ⟨"_law_bad_tie",top 84,["_law_state","_law_names_here","_law_odd","_law_one","_law_place","_law_bad"],3⟩,
 ⟨"_law_bad_web",top 85,["_law_state","_law_web_here","_law_names_here","_law_ties","_law_first","_law_last","_law_odd","_law_way","_law_at"],2⟩,
 ⟨"_law_bad_taking",top 86,["_law_state","_law_web_here","_law_good","_law_watched","_law_some","_law_found"],2⟩,
 ⟨"is_name",top 18,["thing"],1⟩,
 ⟨"look_at_places",top 44,["places","number","place"],1⟩,
 ⟨"is_whole",top 16,["thing"],1⟩,
 ⟨"common_divisor",top 1,["one","other","larger","smaller","rest"],2⟩,
 ⟨"is_ratio",top 17,["thing"],1⟩,
 ⟨"is_length",top 40,["thing"],1⟩,
 ⟨"is_worth",top 41,["thing"],1⟩,
 ⟨"is_tie",top 39,["thing"],1⟩,
 ⟨"look_at_ties",top 45,["ties","places","number","tie"],2⟩,
 ⟨"is_place",top 46,["thing","places"],2⟩,
 ⟨"look_at_web",top 43,["thing"],1⟩,
 ⟨"_law_web_fields",top 87,["_law_bad","_law_found","e"],1⟩,
 ⟨"is_tie_number",top 42,["web","thing"],2⟩,
 ⟨"steps_along",top 48,["tie","there"],1⟩,
 ⟨"place_behind",top 51,["web","taken","places","number","here","there"],4⟩,
 ⟨"walk_way",top 50,["web","taken","thing","places","at","number","there"],3⟩,
 ⟨"places_of",top 72,["web","way"],2⟩,
 ⟨"look_at_taking",top 62,["web","thing","ahead","number"],2⟩,
 ⟨"look_at_way",top 70,["web","taking","thing"],3⟩,
 ⟨"ratio",top 21,["top","bottom","divisor"],2⟩,
 ⟨"plus",top 22,["one","other"],2⟩,
 ⟨"sum_of",top 24,["some","total","one"],1⟩,
 ⟨"length_of",top 71,["web","way"],2⟩,
 ⟨"shared_bottom",top 54,["some","bottom","one"],1⟩,
 ⟨"as_whole",top 55,["one","bottom"],2⟩,
 ⟨"on_one_scale",top 53,["some","bottom"],1⟩,
 ⟨"scaled_lengths",top 58,["web"],1⟩,
 ⟨"steps_left",top 49,["web","taken","steps","number","tie","here","there"],2⟩,
 ⟨"nearest_step",top 60,["steps","sizes","found","nearest","number","here","there","size"],3⟩,
 ⟨"all_reached",top 59,["web","taken","sizes","steps","found","nearest"],3⟩,
 ⟨"shortest",top 57,["web","taken","scaled","found","prices","place"],2⟩,
 ⟨"least_way",top 68,["web","taking"],2⟩,
 ⟨"is_price",top 66,["thing"],1⟩,
 ⟨"prices_just_the_places",top 65,["places","thing"],2⟩,
 ⟨"is_less",top 23,["one","other"],2⟩,
 ⟨"is_let",top 67,["here","length","there"],3⟩,
 ⟨"lets_prices",top 64,["web","taking","thing","number","here","there"],3⟩,
 ⟨"_law_which",top 88,["_law_asked","_law_web_here","_law_gone","_law_way","_law_caught","e","_law_kinds"],4⟩,
 ⟨"_law_right",top 89,["_law_state","_law_web_here","_law_gone","_law_way","_law_bad","_law_none","_law_odd","_law_kept","_law_due","_law_asked","_law_taking_here"],4⟩,
 ⟨"law",top 90,["_law_script","_law_k","_law_state","_law_web_here","_law_gone","_law_way","_law_turn"],1⟩]
def sc:SX rows:=by decide +kernel
theorem nd(i:Nat)(h:rows[i]?=some r:=by rfl):r.N.Nodup:=(sc r (UN h)).nd
def bn:∀r∈rows,OW r:=by
 unfold rows
 repeat refine List.forall_mem_cons.mpr ⟨by first|exact Um|exact Ul|exact Uk|exact Uj|exact bd5,?_⟩
 exact λ_ h=>nomatch h
abbrev jr:V0:=Dc (top 11) 0
def Et:eY ["self","at"] ["self","at"] (defScope jr):=⟨rfl,rfl,rfl,by decide +kernel,rfl,by decide +kernel,by decide +kernel⟩
abbrev jq:V0:=Dc (top 10) 0
def Es:eY ["self","part","number"] ["self","part","number"] (defScope jq):=⟨rfl,rfl,rfl,by decide +kernel,rfl,by decide +kernel,by decide +kernel⟩
noncomputable def Jl(K:Ut) (r:Uw):List (Uw×Bool)->Prop
 |[]=>True
 |x::l=>Xf K (.ref r) (.ref x.1)=some x.2/\Jl K r l
def sbc(h:Xf K (.ref r) (.ref c)=some b)(h':Jl K r l):Jl K r ((c,b)::l):=⟨h,h'⟩
theorem lG{K:Ut}{r c:Uw}{b:Bool}:∀{l:List (Uw×Bool)},Jl K r l->∀n:Nat,l[n]?=some (c,b)->Xf K (.ref r) (.ref c)=some b
 |_::_,h,0,e=>by cases e;exact h.1
 |_::_,h,n+1,e=>lG h.2 n e
set_option genInjectivity false in
set_option genSizeOfSpec false in
structure Adr where
 fJ:Uw
 tE:VZ
 fH:Uw
 tw:VZ
 bO:Uw
 c5:Uw
 dS:Uw
 cI:Uw
 c4:Uw
 bw:Uw
 eV:Uw
 bP:Uw
 bG:Uw
 c3:Uw
 A:Nat->Uw
 Q:Nat->VZ
set_option genInjectivity false in
set_option genSizeOfSpec false in
structure Txt (K:Ut) (mg:US->Option Us) (t:Adr):Prop where
 g:TG rows K mg t.A t.Q
 n_ValueError:mg "ValueError"=none
 n_abs:mg "abs"=none
 n_all:mg "all"=none
 n_bool:mg "bool"=none
 n_dict:mg "dict"=none
 n_enumerate:mg "enumerate"=none
 n_int:mg "int"=none
 n_isinstance:mg "isinstance"=none
 n_len:mg "len"=none
 n_list:mg "list"=none
 n_max:mg "max"=none
 n_min:mg "min"=none
 n_range:mg "range"=none
 n_repr:mg "repr"=none
 n_str:mg "str"=none
 n_tuple:mg "tuple"=none
 mI:mg "CutError"=some (.ref t.bO)
 mH:f9 K "CutError" t.bO
 EZ:mg "NoCases"=some (.ref t.c5)
 pk:f9 K "NoCases" t.c5
 Hz:mg "NoName"=some (.ref t.dS)
 tH:f9 K "NoName" t.dS
 Bx:mg "NoNumber"=some (.ref t.cI)
 mG:f9 K "NoNumber" t.cI
 EY:mg "NoPurse"=some (.ref t.c4)
 pj:f9 K "NoPurse" t.c4
 jW:mg "NoTaking"=some (.ref t.bw)
 mF:f9 K "NoTaking" t.bw
 KP:mg "NoTie"=some (.ref t.eV)
 xB:f9 K "NoTie" t.eV
 qV:mg "NoWay"=some (.ref t.bP)
 xA:f9 K "NoWay" t.bP
 gS:mg "NoWeb"=some (.ref t.bG)
 lL:f9 K "NoWeb" t.bG
 EX:mg "TooMany"=some (.ref t.c3)
 ph:f9 K "TooMany" t.c3
 bH:D7 K "NoTaking" t.bw
 cE:wH K "NoWay" t.bP
 bX:wH K "NoWeb" t.bG
 Jb:Fy K "__init__" "NoWay.__init__" jr t.fJ t.tE
 lr:iL K t.tE ["self","at"] []
 rJ:Lr K t.bP t.fJ
 rG:FD K t.bP ["at"]
 rL:W.isFn K (.ref t.fJ)=true
 Ja:Fy K "__init__" "NoWeb.__init__" jq t.fH t.tw
 fL:iL K t.tw ["self","part","number"] []
 ib:Lr K t.bG t.fH
 d9:FD K t.bG ["part","number"]
 ic:W.isFn K (.ref t.fH)=true
 pH:IT K t.bO
 cx:Jl K t.bw [(t.bO,true),(t.c5,false),(t.dS,false),(t.cI,false),(t.c4,false),(t.bw,true),(t.eV,false),(t.bP,false),(t.bG,false),(t.c3,false)]
 eI:Jl K t.bP [(t.bO,true),(t.c5,false),(t.dS,false),(t.cI,false),(t.c4,false),(t.bw,false),(t.eV,false),(t.bP,true),(t.bG,false),(t.c3,false)]
 eG:Jl K t.bG [(t.bO,true),(t.c5,false),(t.dS,false),(t.cI,false),(t.c4,false),(t.bw,false),(t.eV,false),(t.bP,false),(t.bG,true),(t.c3,false)]
 gK:wM K mg "FEWEST_PLACES" (.int 2)
 ka:wM K mg "FIRST" (.int 2)
 j9:wM K mg "LAST" (.int 3)
 jH:wM K mg "LENGTH" (.int 3)
 pF:wM K mg "LETTERS" (.str "abcdefghijklmnopqrstuvwxyz")
 iI:wM K mg "LONGEST_NAME" (.int 8)
 jh:wM K mg "MOST_PLACES" (.int 7)
 lq:wM K mg "MOST_TIES" (.int 14)
 ot:wM K mg "NOUGHT" (.tup [(.int 0),(.int 1)])
 va:wM K mg "ONE" (.int 0)
 j8:wM K mg "OTHER" (.int 1)
 gE:wM K mg "PLACES" (.int 0)
 jg:wM K mg "TIES" (.int 1)
 u9:wM K mg "WORD" (.int 2)
 ye:wM K mg "WORDS" (.tup [(.str "one"),(.str "both")])
 rz:wM K mg "WORTH" (.int 4)
section
variable {P:Vq}{w:VL}{K:Ut}{mg:US->Option Us}{base:UR}{t:Adr}
def qE(T:Txt K mg t):∀x C,l9 fW x=true->XC K x C->YC K (.ref C) (.ref t.bO)=some true :=
 zP λq hq=>by
  unfold fW at hq;simp only[UG,U3,or_false] at hq;rcases hq with rfl|rfl|rfl
  .exact⟨t.bw,T.bH.xcls.xc,T.mH.exm (lG T.cx 0 rfl)⟩
  .exact⟨t.bP,T.cE.xc,T.mH.exm (lG T.eI 0 rfl)⟩
  .exact⟨t.bG,T.bX.xc,T.mH.exm (lG T.eG 0 rfl)⟩
def xC(T:Txt K mg t):∀x C,l9 qT x=true->XC K x C->YC K (.ref C) (.ref t.bG)=some true :=
 zP λq hq=>by
  unfold qT at hq;simp only[UG,U3,or_false] at hq;rcases hq with rfl|rfl|rfl
  .exact⟨t.bw,T.bH.xcls.xc,T.lL.exm (lG T.cx 8 rfl)⟩
  .exact⟨t.bP,T.cE.xc,T.lL.exm (lG T.eI 8 rfl)⟩
  .exact⟨t.bG,T.bX.xc,T.lL.exm (lG T.eG 8 rfl)⟩
def F8(T:Txt K mg t):qk K yM (.type "ValueError") :=
 eF (p:=λ_ C b=>XA K (.ref C) (.type "ValueError")=some b) λq hq=>by
  simp only[UG,U3,or_false] at hq;rcases hq with rfl|rfl|rfl
  .exact⟨t.bw,T.bH.xcls.xc,sV mz T.bH.ve⟩
  .exact⟨t.bP,T.cE.xc,sV mz T.cE.ve⟩
  .exact⟨t.bG,T.bX.xc,sV mz T.bX.ve⟩
def F7(T:Txt K mg t):qk K yL (.ref t.bP) :=
 eF (p:=λ_ C b=>XA K (.ref C) (.ref t.bP)=some b) λq hq=>by
  simp only[UG,U3,or_false] at hq;rcases hq with rfl|rfl|rfl
  .exact⟨t.bw,T.bH.xcls.xc,T.xA.kit T.bH.self (lG T.cx 7 rfl)⟩
  .exact⟨t.bP,T.cE.xc,T.xA.kit T.cE.self (lG T.eI 7 rfl)⟩
  .exact⟨t.bG,T.bX.xc,T.xA.kit T.bX.self (lG T.eG 7 rfl)⟩
def F6(T:Txt K mg t):qk K yK (.ref t.bw) :=
 eF (p:=λ_ C b=>XA K (.ref C) (.ref t.bw)=some b) λq hq=>by
  simp only[UG,U3,or_false] at hq;rcases hq with rfl|rfl|rfl
  .exact⟨t.bw,T.bH.xcls.xc,T.mF.kit T.bH.self (lG T.cx 5 rfl)⟩
  .exact⟨t.bP,T.cE.xc,T.mF.kit T.cE.self (lG T.eI 5 rfl)⟩
  .exact⟨t.bG,T.bX.xc,T.mF.kit T.bX.self (lG T.eG 5 rfl)⟩
def F5(T:Txt K mg t):qk K yJ (.ref t.bG) :=
 eF (p:=λ_ C b=>XA K (.ref C) (.ref t.bG)=some b) λq hq=>by
  simp only[UG,U3,or_false] at hq;rcases hq with rfl|rfl|rfl
  .exact⟨t.bw,T.bH.xcls.xc,T.lL.kit T.bH.self (lG T.cx 8 rfl)⟩
  .exact⟨t.bP,T.cE.xc,T.lL.kit T.cE.self (lG T.eI 8 rfl)⟩
  .exact⟨t.bG,T.bX.xc,T.lL.kit T.bX.self (lG T.eG 8 rfl)⟩
def F4(T:Txt K mg t):Ca K yI [t.cI,t.c4,t.eV,t.c5,t.c3,t.dS] :=
 eF (p:=λ_ C b=>W.kitAny K (.ref C) ([t.cI,t.c4,t.eV,t.c5,t.c3,t.dS].map U8)=some b) λq hq=>by
  simp only[UG,U3,or_false] at hq;rcases hq with rfl|rfl|rfl
  .exact⟨t.bw,T.bH.xcls.xc,(cq (T.mG.kit T.bH.self (lG T.cx 3 rfl)) (cq (T.pj.kit T.bH.self (lG T.cx 4 rfl)) (cq (T.xB.kit T.bH.self (lG T.cx 6 rfl)) (cq (T.pk.kit T.bH.self (lG T.cx 1 rfl)) (cq (T.ph.kit T.bH.self (lG T.cx 9 rfl)) (cq (T.tH.kit T.bH.self (lG T.cx 2 rfl)) mC))))))⟩
  .exact⟨t.bP,T.cE.xc,(cq (T.mG.kit T.cE.self (lG T.eI 3 rfl)) (cq (T.pj.kit T.cE.self (lG T.eI 4 rfl)) (cq (T.xB.kit T.cE.self (lG T.eI 6 rfl)) (cq (T.pk.kit T.cE.self (lG T.eI 1 rfl)) (cq (T.ph.kit T.cE.self (lG T.eI 9 rfl)) (cq (T.tH.kit T.cE.self (lG T.eI 2 rfl)) mC))))))⟩
  .exact⟨t.bG,T.bX.xc,(cq (T.mG.kit T.bX.self (lG T.eG 3 rfl)) (cq (T.pj.kit T.bX.self (lG T.eG 4 rfl)) (cq (T.xB.kit T.bX.self (lG T.eG 6 rfl)) (cq (T.pk.kit T.bX.self (lG T.eG 1 rfl)) (cq (T.ph.kit T.bX.self (lG T.eG 9 rfl)) (cq (T.tH.kit T.bX.self (lG T.eG 2 rfl)) mC))))))⟩
def nj(T:Txt K mg t):IZ K jA "number" :=
 eF (p:=λ_ C _=>WG K C=true/\jl K C "number") λq hq=>by
  simp only[UG,U3,or_false] at hq;rcases hq with rfl
  .exact⟨t.bG,T.bX.xc,T.d9.hd,T.d9.no _ (by decide)⟩
def tJ(T:Txt K mg t):IZ K nh "part" :=
 eF (p:=λ_ C _=>WG K C=true/\jl K C "part") λq hq=>by
  simp only[UG,U3,or_false] at hq;rcases hq with rfl
  .exact⟨t.bG,T.bX.xc,T.d9.hd,T.d9.no _ (by decide)⟩
def mE(T:Txt K mg t):fZ P w K mg base CX0 1 t.fJ t.tE ["self","at"] (Gd K ["at"]) :=
 LW T.Jb Et rfl (by decide) λcdv A outer s0 H E=>(Lz (i:=1) T.pH rfl T.mI (qO (i:=1) rfl (UD rfl) GH) rfl rfl (UD rfl) (UD rfl) FK)
def e9(T:Txt K mg t):fZ P w K mg base CX0 1 t.fH t.tw ["self","part","number"] (Gd K ["part","number"]) :=
 LW T.Ja Es rfl (by decide) λcdv A outer s0 H E=>(Lz (i:=1) T.pH rfl T.mI (qO (i:=1) rfl (UD rfl) (qO (i:=2) rfl (UD rfl) GH)) rfl rfl (UD rfl) (UD rfl) (Js (i:=2) rfl rfl (UD rfl) (UD rfl) FK))
def sN(T:Txt K mg t):ff P w K mg base CX0 1 (t.A 0) (t.Q 0) ["_law_script","_law_k"] (Pm K 2 cA) "_law_begun" (top 74) :=
 oF T.g sc (i:=0) rfl λ_ _ _ _ _ _ _ _=>(
 (wc (bo (i:=2) (nd 0) rfl (UD rfl) ai)
 (wc (b6 (aS zl (d7 λ_ _ _ _=>rb _) (dv 1) (bj bR cY rfl T.n_len PyProof.Rows.Boot.«len» (aa (dv 0) ak)) nm)
 (ah (bo (i:=2) (nd 0) rfl (UD rfl) (au (dv 0) (dv 1)))
 ar)
 ar)
 (E7 (jb (aa (dv 2) (aa (gJ (cU (cU (gJ (dv 2) ai) (fK (fK ai (dv 1)) (dv 1))) ai) ai) (aa (eC G1 (d7 λ_ _ _ _=>rb _) (dv 2) (BN ai ai) nm) ak))))))))
def aM(T:Txt K mg t):ff P w K mg base CX0 1 (t.A 1) (t.Q 1) ["_law_state","_law_many"] (AZ K 1 aF) "_law_take" (top 75) :=
 oM T.g sc (i:=1) rfl rfl λ_ _ _ _ _ _ _ _ _ _=>(
 (aq (fj (Ii (i:=0) (E:=E0) (cm (au (dv 0) ai)))
 (aq (b7 (i:=2) (nd 1) rfl (UD rfl) (oi (i:=0) (E:=E0) (gJ (au (dv 0) ai) (dv 1))))
 (aq (A0 (i:=0) rfl (UD rfl) (oi (i:=0) (E:=E0) (ll (au (dv 0) ai) (dv 1))) (aE (E:=E0) ai))
 (aq (A0 (i:=0) rfl (UD rfl) (oi (i:=0) (E:=E0) (eC zm (d7 λ_ _ _ _=>rb _) (au (dv 0) ai) ai nm)) (aE (E:=E0) ai))
 (aq (cF (E:=E0) (dv 2))
 aQ))))
 aQ)
 (aq (bI (E:=E0) λvs=>(bo (i:=3) (nd 1) rfl (UD rfl) ai))
 (aq (iP (E:=E0) Vi rfl (iR (E:=E0) (fv rfl T.n_range (cU ai (fK ai (jE wy IE rfl T.n_int PyProof.Rows.Boot.«int» (aa (eC zm (d7 λ_ _ _ _=>rb _) (dv 1) (BN ai ai) nm) ak)))))) (λvs=>(b4 (i:=4) (nd 1) rfl (UD rfl))) cw
 (aq (A0 (i:=0) rfl (UD rfl) (oi (i:=0) (E:=E0) (gJ (cU (fK (au (dv 0) ai) ai) ai) ai)) (aE (E:=E0) ai))
 (aq (b7 (i:=3) (nd 1) rfl (UD rfl) (oi (i:=0) (E:=E0) (cU (fK (dv 3) ai) (gJ (fK (au (dv 0) ai) (au (dv 0) ai)) ai))))
 aQ)))
 (aq (cF (E:=E0) (gJ (ll (dv 3) ai) (dv 1)))
 aQ)))))
def vz(T:Txt K mg t):ff P w K mg base CX0 2 (t.A 2) (t.Q 2) ["_law_state","_law_many"] (AZ K 1 eK) "_law_names" (top 78) :=
 oM T.g sc (i:=2) rfl rfl λ_ _ _ _ H He _ _ _ hr=>(
 (aq (JX (i:=2) (nd 2) rfl rfl (Su (E:=E0) ["_law_k","_law_state"] 1 [0] rfl (iR (E:=E0) (fv rfl T.n_range ai)) (eR (by decide)) (λs H C fp pn=>⟨λHe η=>(b4 (i:=0) (show WI (["_law_k","_law_state"]:List US) from by decide) rfl (UD rfl)),λHe η=>(rM 1 (aM T) hr (aH (aE (E:=E0) ai) aU))⟩) ⟨rfl,rfl⟩ rfl rfl rfl rfl) BR)
 (aq (b7 (i:=3) (nd 2) rfl (UD rfl) (lh (aE (E:=E0) ai) (rM 0 (aM T) hr (aH (aE (E:=E0) ai) aU))))
 (aq (b7 (i:=4) (nd 2) rfl (UD rfl) (rM 0 (aM T) hr (aH (aE (E:=E0) (dv 3)) aU)))
 (aq (b7 (i:=5) (nd 2) rfl (UD rfl) (rM 0 (aM T) hr (aH (aE (E:=E0) ai) aU)))
 (aq (b7 (i:=6) (nd 2) rfl (UD rfl) (eW (aE (E:=E0) (bh (aa ai (aa ai (aa ai (aa ai (aa ai (aa ai ak)))))))) (rM 0 (aM T) hr (aH (aE (E:=E0) ai) aU))))
 (aq (b7 (i:=7) (nd 2) rfl (UD rfl) (NM (E:=E0) (bZ hr.units) cN (rM 0 (aM T) hr (aH (aE (E:=E0) ai) aU)) (aE (E:=E0) ai) nm))
 (aq (bI (E:=E0) λvs=>(iD (i:=8) (nd 2) rfl (UD rfl) (jb ak)))
 (aq (bI (E:=E0) λvs=>(xW Vi rfl rfl T.n_range (dv 1) (b4 (i:=9) (nd 2) rfl (UD rfl)) cw
 (ah (iD (i:=10) (nd 2) rfl (UD rfl) (uP (dv 2) dQ (dP (dv 3))))
 (ah (NJ (i:=10) rfl (UD rfl) (gJ (cU (dv 5) (fK (dv 6) (dv 9))) ai) (dv 4))
 (ah (b6 (cm (dv 7))
 (ah (iD (i:=10) (nd 2) rfl (UD rfl) (uP (dv 2) dQ (dP (cU ai (gJ (cU (dv 5) (dv 9)) ai)))))
 ar)
 ar)
 (ah (Ih 10 (fu (i:=8) rfl (UD rfl) (K5 cJ (aa (uR (ya ["_law_letter"] 1 [] rfl (iY (dv 10)) (eR (by decide)) (λs H C fp pn=>⟨λHe η=>(b4 (i:=0) (show WI (["_law_letter"]:List US) from by decide) rfl (UD rfl)),lQ,(au cJ (dv 0))⟩) ⟨rfl,rfl⟩ rfl rfl rfl rfl)) ak))))
 ar))))))
 (aq (cF (E:=E0) (dv 8))
 aQ))))))))))
def zx(T:Txt K mg t):ff P w K mg base CX0 1 (t.A 3) (t.Q 3) ["_law_top","_law_bottom"] (spD K 2 eg) "_law_low" (top 76) :=
 oD T.g sc (i:=3) rfl λ_ _ _ _ _ _ _ hr=>(
 (ah (bo (i:=2) (nd 3) rfl (UD rfl) (bj u7 BU rfl T.n_abs PyProof.Rows.Boot.«abs» (aa (dv 0) ak)))
 (ah (bo (i:=3) (nd 3) rfl (UD rfl) (dv 1))
 (ah (uM _ Vi (aS (fB hr.units) iQ (dv 3) ai nm)
 (ah (NK (i:=2) (j:=3) rfl (nd 3) rfl rfl (by decide) rfl rfl (aa (dv 3) (aa (gJ (dv 2) (dv 3)) ak)) rfl)
 ar))
 (ah (bc (cp (aa (ll (dv 0) (dv 2)) (aa (ll (dv 1) (dv 2)) ak))))
 ar)))))
def kM(T:Txt K mg t):ff P w K mg base CX0 2 (t.A 4) (t.Q 4) ["_law_state","_law_least"] (AZ K 1 du) "_law_amount" (top 77) :=
 oM T.g sc (i:=4) rfl rfl λ_ _ _ _ _ _ _ _ _ hr=>(
 (aq (b7 (i:=2) (nd 4) rfl (UD rfl) (rM 0 (aM T) hr (aH (aE (E:=E0) ai) aU)))
 (aq (b7 (i:=3) (nd 4) rfl (UD rfl) (lh (aE (E:=E0) (dv 1)) (rM 0 (aM T) hr (aH (aE (E:=E0) (au (bh (aa ai (aa ai (aa ai (aa ai (aa ai (aa (BN ai ai) ak))))))) (dv 2))) aU))))
 (aq (bI (E:=E0) λvs=>(bo (i:=4) (nd 4) rfl (UD rfl) (au (bh (aa ai (aa ai (aa ai (aa ai (aa ai (aa ai ak))))))) (dv 2))))
 (aq (bI (E:=E0) λvs=>(bo (i:=5) (nd 4) rfl (UD rfl) (bh (aa ai (aa ai (aa ai (aa ai (aa ai (aa ai (aa ai (aa ai (aa ai (aa ai (aa ai (aa ai ak)))))))))))))))
 (aq (oX (Uc (zx T) hr (aH (aE (E:=E0) (dv 3)) (aH (eW (aE (E:=E0) (dv 5)) (rM 0 (aM T) hr (aH (aE (E:=E0) (dv 4)) aU))) aU))))
 aQ))))))
def zw(T:Txt K mg t):ff P w K mg base CX0 3 (t.A 5) (t.Q 5) ["_law_state","_law_names_here","_law_k"] (AZ K 2 dq) "_law_tie" (top 79) :=
 oM T.g sc (i:=5) rfl rfl λ_ _ _ _ _ _ _ _ _ hr=>(
 (aq (bI (E:=E0) λvs=>(bo (i:=3) (nd 5) rfl (UD rfl) (bj bR cY rfl T.n_len PyProof.Rows.Boot.«len» (aa (dv 1) ak))))
 (aq (b7 (i:=4) (nd 5) rfl (UD rfl) (rM 0 (aM T) hr (aH (aE (E:=E0) (dv 3)) aU)))
 (aq (b7 (i:=5) (nd 5) rfl (UD rfl) (Ij (lh (aE (E:=E0) (cU (dv 4) ai)) (rM 0 (aM T) hr (aH (aE (E:=E0) (xZ (dv 3) ai)) aU))) (aE (E:=E0) (dv 3))))
 (aq (fj (oh (E:=E0) (bZ hr.units) cN (rM 0 (aM T) hr (aH (aE (E:=E0) ai) aU)) (aE (E:=E0) ai) nm)
 (aq (bI (E:=E0) λvs=>(bo (i:=4) (nd 5) rfl (UD rfl) (gJ (dv 2) (dv 3))))
 (aq (bI (E:=E0) λvs=>(bo (i:=5) (nd 5) rfl (UD rfl) (gJ (cU (dv 2) ai) (dv 3))))
 aQ))
 aQ)
 (aq (b7 (i:=6) (nd 5) rfl (UD rfl) (eW (aE (E:=E0) (bh (aa cJ (aa cJ ak)))) (rM 0 (aM T) hr (aH (aE (E:=E0) ai) aU))))
 (aq (b7 (i:=7) (nd 5) rfl (UD rfl) (rM 0 (kM T) hr (aH (aE (E:=E0) ai) aU)))
 (aq (b7 (i:=8) (nd 5) rfl (UD rfl) (rM 0 (kM T) hr (aH (aE (E:=E0) ai) aU)))
 (aq (fj (oh (E:=E0) (bZ hr.units) cN (rM 0 (aM T) hr (aH (aE (E:=E0) ai) aU)) (aE (E:=E0) ai) nm)
 (aq (bI (E:=E0) λvs=>(bo (i:=8) (nd 5) rfl (UD rfl) bK))
 aQ)
 aQ)
 (aq (cF (E:=E0) (cp (aa (au (dv 1) (dv 4)) (aa (au (dv 1) (dv 5)) (aa (dv 6) (aa (dv 7) (aa (dv 8) ak)))))))
 aQ))))))))))
def zv(T:Txt K mg t):ff P w K mg base CX0 4 (t.A 6) (t.Q 6) ["_law_state","_law_most","_law_more"] (AZ K 2 dm) "_law_web" (top 80) :=
 oM T.g sc (i:=6) rfl rfl λ_ _ _ _ _ _ _ _ _ hr=>(
 (aq (b7 (i:=3) (nd 6) rfl (UD rfl) (rM 0 (vz T) hr (aH (lh (aE (E:=E0) ai) (rM 0 (aM T) hr (aH (aE (E:=E0) (xZ (dv 1) ai)) aU))) aU)))
 (aq (bI (E:=E0) λvs=>(bo (i:=4) (nd 6) rfl (UD rfl) (bj bR cY rfl T.n_len PyProof.Rows.Boot.«len» (aa (dv 3) ak))))
 (aq (bI (E:=E0) λvs=>(iD (i:=5) (nd 6) rfl (UD rfl) (jb ak)))
 (aq (iP (E:=E0) Vi rfl (EJ rfl T.n_range (rM 0 (aM T) hr (aH (aE (E:=E0) (cU (dv 2) ai)) aU))) (λvs=>(b4 (i:=6) (nd 6) rfl (UD rfl))) cw
 (aq (vL (i:=5) rfl (UD rfl) (rM 0 (zw T) hr (aH (aE (E:=E0) (dv 3)) (aH (aE (E:=E0) (dv 6)) aU))))
 aQ))
 (aq (bI (E:=E0) λvs=>(bo (i:=7) (nd 6) rfl (UD rfl) ai))
 (aq (bI (E:=E0) λvs=>(bo (i:=8) (nd 6) rfl (UD rfl) (xZ (dv 4) ai)))
 (aq (fj (oh (E:=E0) (bZ hr.units) cN (rM 0 (aM T) hr (aH (aE (E:=E0) ai) aU)) (aE (E:=E0) ai) nm)
 (aq (b7 (i:=7) (nd 6) rfl (UD rfl) (rM 0 (aM T) hr (aH (aE (E:=E0) (dv 4)) aU)))
 (aq (b7 (i:=8) (nd 6) rfl (UD rfl) (Ij (lh (aE (E:=E0) (cU (dv 7) ai)) (rM 0 (aM T) hr (aH (aE (E:=E0) (xZ (dv 4) ai)) aU))) (aE (E:=E0) (dv 4))))
 aQ))
 aQ)
 (aq (cF (E:=E0) (cp (aa (dv 3) (aa (dv 5) (aa (au (dv 3) (dv 7)) (aa (au (dv 3) (dv 8)) ak))))))
 aQ)))))))))
def sL(T:Txt K mg t):ff P w K mg base CX0 2 (t.A 7) (t.Q 7) ["_law_state","_law_web_here","_law_rare"] (AZ K 2 dr) "_law_taking" (top 81) :=
 oM T.g sc (i:=7) rfl rfl λ_ _ _ _ _ _ _ _ _ hr=>(
 (aq (bI (E:=E0) λvs=>(iD (i:=3) (nd 7) rfl (UD rfl) (jb ak)))
 (aq (iP (E:=E0) Vi rfl (iR (E:=E0) (fv rfl T.n_range (bj bR cY rfl T.n_len PyProof.Rows.Boot.«len» (aa (au (dv 1) ai) ak)))) (λvs=>(b4 (i:=4) (nd 7) rfl (UD rfl))) cw
 (aq (fj (Ov.dt (DU (oh (E:=E0) (bZ hr.units) cN (rM 0 (aM T) hr (aH (aE (E:=E0) (dv 2)) aU)) (aE (E:=E0) ai) nm) (DR (cK (E:=E0) (aS lI lJ (au (au (au (dv 1) ai) (dv 4)) ai) bK nm)))))
 (aq (bI (E:=E0) λvs=>(fu (i:=3) rfl (UD rfl) (dv 4)))
 aQ)
 aQ)
 aQ))
 (aq (cF (E:=E0) (dv 3))
 aQ))))
def l6(T:Txt K mg t):ff P w K mg base CX0 1 (t.A 8) (t.Q 8) ["_law_tie_here","_law_here"] (spD K 2 bU) "_law_there" (top 82) :=
 oD T.g sc (i:=8) rfl λ_ _ _ _ _ _ _ hr=>(
 (ah (b6 (aS (bZ hr.units) cN (au (dv 0) ai) (dv 1) nm)
 (ah (bc (au (dv 0) ai))
 ar)
 ar)
 (ah (b6 (DW.dt (pA (aS (bZ hr.units) cN (au (dv 0) ai) (dv 1) nm) (iC (aS (bZ hr.units) cN (au (dv 0) ai) cJ nm))))
 (ah (bc (au (dv 0) ai))
 ar)
 ar)
 (ah (bc bK)
 ar))))
def sJ(T:Txt K mg t):ff P w K mg base CX0 2 (t.A 9) (t.Q 9) ["_law_state","_law_web_here","_law_gone"] (AZ K 2 cP) "_law_walked" (top 83) :=
 oM T.g sc (i:=9) rfl rfl λ_ _ _ _ _ _ _ _ _ hr=>(
 (aq (bI (E:=E0) λvs=>(bo (i:=3) (nd 9) rfl (UD rfl) (au (dv 1) ai)))
 (aq (bI (E:=E0) λvs=>(iD (i:=4) (nd 9) rfl (UD rfl) (jb (aa (dv 3) ak))))
 (aq (bI (E:=E0) λvs=>(iD (i:=5) (nd 9) rfl (UD rfl) (jb ak)))
 (aq (Ge _ Vi (cK (E:=E0) (aS (fB hr.units) iQ (dv 3) (au (dv 1) ai) nm))
 (aq (bI (E:=E0) λvs=>(iD (i:=6) (nd 9) rfl (UD rfl) (jb ak)))
 (aq (bI (E:=E0) λvs=>(xW Vi rfl rfl T.n_range (bj bR cY rfl T.n_len PyProof.Rows.Boot.«len» (aa (au (dv 1) ai) ak)) (b4 (i:=7) (nd 9) rfl (UD rfl)) cw
 (ah (bo (i:=8) (nd 9) rfl (UD rfl) (rC (l6 T) hr (aa (au (au (dv 1) ai) (dv 7)) (aa (dv 3) ak))))
 (ah (b6 (DW.dt (pA (aS lI lJ (dv 8) bK nm) (pA (aS (ij hr.units) ip (dv 8) (dv 4) rfl) (iC (aS (ij hr.units) ip (dv 7) (dv 2) rfl)))))
 (ah (fu (i:=6) rfl (UD rfl) (dv 7))
 ar)
 ar)
 ar))))
 (aq (Gf 6 (fj (cK (E:=E0) (aS (bZ hr.units) cN (dv 6) (bh ak) nm))
 (aq (cF (E:=E0) (dv 5))
 aQ)
 aQ))
 (aq (Gf 6 (vL (i:=5) rfl (UD rfl) (eW (aE (E:=E0) (dv 6)) (rM 0 (aM T) hr (aH (aE (E:=E0) (bj bR cY rfl T.n_len PyProof.Rows.Boot.«len» (aa (dv 6) ak))) aU)))))
 (aq (bI (E:=E0) λvs=>(DK (i:=3) (nd 9) rfl (UD rfl) (rC (l6 T) hr (aa (au (au (dv 1) ai) (au (dv 5) (jY ai))) (aa (dv 3) ak)))))
 (aq (bI (E:=E0) λvs=>(fu (i:=4) rfl (UD rfl) (dv 3)))
 aQ)))))))
 (aq (cF (E:=E0) (dv 5))
 aQ))))))
def qz(T:Txt K mg t):ff P w K mg base CX0 2 (t.A 10) (t.Q 10) ["_law_state","_law_names_here","_law_odd"] (AZ K 2 cT) "_law_bad_tie" (top 84) :=
 oM T.g sc (i:=10) rfl rfl λ_ _ _ _ _ _ _ _ _ hr=>(
 (aq (bI (E:=E0) λvs=>(bo (i:=3) (nd 10) rfl (UD rfl) (cp (aa (au (dv 1) ai) (aa (au (dv 1) ai) (aa cJ (aa (cp (aa ai (aa ai ak))) (aa bK ak))))))))
 (aq (b7 (i:=4) (nd 10) rfl (UD rfl) (rM 0 (aM T) hr (aH (aE (E:=E0) ai) aU)))
 (aq (bI (E:=E0) λvs=>(bo (i:=5) (nd 10) rfl (UD rfl) (au (bh (aa (au (dv 1) ai) (aa (au (dv 1) ai) (aa cJ (aa (cp (aa ai (aa ai ak))) (aa (cp (aa ai (aa ai ak))) ak)))))) (dv 4))))
 (aq (fj (Ov.dt (DU (cK (E:=E0) (aS zm (d7 λ_ _ _ _=>rb _) (dv 4) ai nm)) (DR (oh (E:=E0) (bZ hr.units) cN (rM 0 (aM T) hr (aH (aE (E:=E0) ai) aU)) (aE (E:=E0) ai) nm))))
 (aq (b7 (i:=5) (nd 10) rfl (UD rfl) (eW (aE (E:=E0) (bh (aa (dv 2) (aa (cp (aa (jY ai) (aa ai ak))) (aa (cp (aa cz (aa ai ak))) (aa (bh (aa ai (aa ai ak))) ak)))))) (rM 0 (aM T) hr (aH (aE (E:=E0) ai) aU))))
 aQ)
 aQ)
 (aq (bI (E:=E0) λvs=>(b6 (aS ik iq (dv 5) bK nm)
 (ah (bo (i:=5) (nd 10) rfl (UD rfl) cJ)
 ar)
 ar))
 (aq (cF (E:=E0) (DX (DX (c6 (dv 3) dQ (dP (dv 4))) (cp (aa (dv 5) ak))) (c6 (dv 3) (dP (cU (dv 4) ai)) dQ)))
 aQ)))))))
def qw(T:Txt K mg t):ff P w K mg base CX0 3 (t.A 11) (t.Q 11) ["_law_state","_law_web_here"] (AZ K 1 cS) "_law_bad_web" (top 85) :=
 oM T.g sc (i:=11) rfl rfl λ_ _ _ _ _ _ _ _ _ hr=>(
 (aq (bI (E:=E0) λvs=>(NH rfl (dv 1) (bW (i:=2) (nd 11) rfl (UD rfl) (bW (i:=3) (nd 11) rfl (UD rfl) (bW (i:=4) (nd 11) rfl (UD rfl) (bW (i:=5) (nd 11) rfl (UD rfl) gU))))))
 (aq (b7 (i:=6) (nd 11) rfl (UD rfl) (eW (aE (E:=E0) (bh (aa bK (aa cz (aa ai (aa cJ (aa cJ (aa cJ (aa (bh ak) (aa DV (aa (cp (aa cJ (aa cJ ak))) ak))))))))))) (rM 0 (aM T) hr (aH (aE (E:=E0) ai) aU))))
 (aq (b7 (i:=7) (nd 11) rfl (UD rfl) (rM 0 (aM T) hr (aH (aE (E:=E0) ai) aU)))
 (aq (b7 (i:=8) (nd 11) rfl (UD rfl) (rM 0 (aM T) hr (aH (aE (E:=E0) (bj bR cY rfl T.n_len PyProof.Rows.Boot.«len» (aa (dv 2) ak))) aU)))
 (aq (fj (cK (E:=E0) (aS (bZ hr.units) cN (dv 7) ai nm))
 (aq (oX (eW (aE (E:=E0) (bh (aa (dv 6) (aa (jE yd Li rfl T.n_list PyProof.Rows.Boot.«list» (aa (dv 1) ak)) (aa (c6 (dv 1) dQ (dP ai)) (aa (cU (dv 1) (cp (aa (dv 5) ak))) ak)))))) (rM 0 (aM T) hr (aH (aE (E:=E0) ai) aU))))
 aQ)
 aQ)
 (aq (fj (cK (E:=E0) (aS (bZ hr.units) cN (dv 7) ai nm))
 (aq (cF (E:=E0) (cp (aa (cU (cU (c6 (dv 2) dQ (dP (dv 8))) (bh (aa (dv 6) ak))) (c6 (dv 2) (dP (cU (dv 8) ai)) dQ)) (aa (dv 3) (aa (dv 4) (aa (dv 5) ak))))))
 aQ)
 aQ)
 (aq (fj (cK (E:=E0) (aS (bZ hr.units) cN (dv 7) ai nm))
 (aq (cF (E:=E0) (cp (aa (cU (dv 2) (bh (aa (au (dv 2) (dv 8)) ak))) (aa (dv 3) (aa (dv 4) (aa (dv 5) ak))))))
 aQ)
 aQ)
 (aq (fj (cK (E:=E0) (aS (bZ hr.units) cN (dv 7) ai nm))
 (aq (oX (xX (aH (eW (aE (E:=E0) (bh (aa (jE jf u5 rfl T.n_tuple PyProof.Rows.Boot.«tuple» (aa (dv 2) ak)) (aa (c6 (dv 2) dQ (dP ai)) (aa (dv 6) ak))))) (rM 0 (aM T) hr (aH (aE (E:=E0) ai) aU))) (aH (aE (E:=E0) (dv 3)) (aH (aE (E:=E0) (dv 4)) (aH (aE (E:=E0) (dv 5)) aU))))))
 aQ)
 aQ)
 (aq (fj (cK (E:=E0) (aS (bZ hr.units) cN (dv 7) ai nm))
 (aq (cF (E:=E0) (cp (aa (dv 2) (aa (au (bh (aa (jE jf u5 rfl T.n_tuple PyProof.Rows.Boot.«tuple» (aa (dv 3) ak)) (aa (dv 6) ak))) (jE wy IE rfl T.n_int PyProof.Rows.Boot.«int» (aa (eC (Nd hr.units) Ni (dv 6) (bh ak) nm) ak))) (aa (dv 4) (aa (dv 5) ak))))))
 aQ)
 aQ)
 (aq (fj (cK (E:=E0) (aS (bZ hr.units) cN (dv 7) ai nm))
 (aq (oX (xX (aH (aE (E:=E0) (dv 2)) (aH (aE (E:=E0) (dv 3)) (aH (eW (aE (E:=E0) (bh (aa (dv 6) (aa (dv 5) ak)))) (rM 0 (aM T) hr (aH (aE (E:=E0) ai) aU))) (aH (aE (E:=E0) (dv 5)) aU))))))
 aQ)
 aQ)
 (aq (fj (cK (E:=E0) (aS (bZ hr.units) cN (dv 7) ai nm))
 (aq (oX (xX (aH (aE (E:=E0) (dv 2)) (aH (aE (E:=E0) (dv 3)) (aH (aE (E:=E0) (dv 4)) (aH (eW (aE (E:=E0) (bh (aa (dv 6) (aa (dv 4) ak)))) (rM 0 (aM T) hr (aH (aE (E:=E0) ai) aU))) aU))))))
 aQ)
 aQ)
 (aq (b7 (i:=8) (nd 11) rfl (UD rfl) (rM 0 (aM T) hr (aH (aE (E:=E0) (cU (bj bR cY rfl T.n_len PyProof.Rows.Boot.«len» (aa (dv 3) ak)) ai)) aU)))
 (aq (oX (xX (aH (aE (E:=E0) (dv 2)) (aH (lh (lh (aE (E:=E0) (c6 (dv 3) dQ (dP (dv 8)))) (NL (aH (rM 0 (qz T) hr (aH (aE (E:=E0) (dv 2)) (aH (aE (E:=E0) (dv 6)) aU))) aU))) (aE (E:=E0) (c6 (dv 3) (dP (dv 8)) dQ))) (aH (aE (E:=E0) (dv 4)) (aH (aE (E:=E0) (dv 5)) aU))))))
 aQ))))))))))))))
def mx(T:Txt K mg t):ff P w K mg base CX0 2 (t.A 12) (t.Q 12) ["_law_state","_law_web_here"] (AZ K 1 cf) "_law_bad_taking" (top 86) :=
 oM T.g sc (i:=12) rfl rfl λ_ _ _ _ H He _ _ _ hr=>(
 (aq (bI (E:=E0) λvs=>(DN (i:=2) (nd 12) rfl rfl pD (ya ["_law_k","_law_web_here"] 1 [1] rfl (fv rfl T.n_range (bj bR cY rfl T.n_len PyProof.Rows.Boot.«len» (aa (au (dv 1) ai) ak))) (eR (by decide)) (λs H C fp pn=>⟨λHe η=>(b4 (i:=0) (show WI (["_law_k","_law_web_here"]:List US) from by decide) rfl (UD rfl)),(xY (aS lI lJ (au (au (au (dv 1) ai) (dv 0)) ai) bK nm)),(dv 0)⟩) ⟨rfl,rfl⟩ rfl rfl rfl rfl)))
 (aq (bI (E:=E0) λvs=>(DN (i:=3) (nd 12) rfl rfl pD (ya ["_law_k","_law_web_here"] 1 [1] rfl (fv rfl T.n_range (bj bR cY rfl T.n_len PyProof.Rows.Boot.«len» (aa (au (dv 1) ai) ak))) (eR (by decide)) (λs H C fp pn=>⟨λHe η=>(b4 (i:=0) (show WI (["_law_k","_law_web_here"]:List US) from by decide) rfl (UD rfl)),(xY (aS ik iq (au (au (au (dv 1) ai) (dv 0)) ai) bK nm)),(dv 0)⟩) ⟨rfl,rfl⟩ rfl rfl rfl rfl)))
 (aq (bI (E:=E0) λvs=>(bo (i:=4) (nd 12) rfl (UD rfl) (bh (aa bK (aa ai (aa DV (aa (jE jf u5 rfl T.n_tuple PyProof.Rows.Boot.«tuple» (aa (dv 2) ak)) (aa (bh (aa cz ak)) (aa (bh (aa (bj bR cY rfl T.n_len PyProof.Rows.Boot.«len» (aa (au (dv 1) ai) ak)) ak)) (aa (bh (aa (jY ai) ak)) (aa (bh (aa cJ ak)) (aa (bh (aa bK ak)) (aa (bh (aa (cp (aa ai ak)) ak)) ak)))))))))))))
 (aq (bI (E:=E0) λvs=>(bo (i:=4) (nd 12) rfl (UD rfl) (cU (dv 4) (bh (aa (c6 (dv 3) dQ (dP ai)) (aa (c6 (dv 3) (dP (jY ai)) dQ) (aa (NQ (c6 (dv 2) dQ (dP ai))) (aa (NR (uP (dv 2) dQ (dP ai)) ai) ak))))))))
 (aq (b7 (i:=5) (nd 12) rfl (UD rfl) (eW (aE (E:=E0) (dv 4)) (rM 0 (aM T) hr (aH (aE (E:=E0) ai) aU))))
 (aq (fj (cK (E:=E0) (DW.dt (eB (aS (G2 hr.units) G7 (dv 5) (bh ak) nm) (bQ (DW.dt (pA (aS (bZ hr.units) cN (bj bR cY rfl T.n_len PyProof.Rows.Boot.«len» (aa (dv 2) ak)) ai nm) (iC (aS (G2 hr.units) G7 (dv 5) (dv 2) nm))))))))
 (aq (cF (E:=E0) (bh (aa ai ak)))
 aQ)
 aQ)
 (aq (cF (E:=E0) (dv 5))
 aQ))))))))
def jQ(T:Txt K mg t):ff P w K mg base CX0 1 (t.A 13) (t.Q 13) ["thing"] (spD K 1 m_is_name) "is_name" (top 18) :=
 oD T.g sc (i:=13) rfl λ_ _ _ _ H _ _ hr=>(
 (ah (b6 (DW.dt (eB (cy (cm (c7 sW rfl T.n_isinstance rfl T.n_str PyProof.Rows.Boot.«str» (dv 0)))) (bQ (cy (Ar vS vS (g9 λ_ _ _ _=>rb _) (g9 λ_ _ _ _=>rb _) ia ia ai (bj bR cY rfl T.n_len PyProof.Rows.Boot.«len» (aa (dv 0) ak)) (bf T.iI rfl))))))
 (ah (bc cz)
 ar)
 ar)
 (ah (bc (bj (AE rfl) IF rfl T.n_all PyProof.Rows.Boot.«all» (aa (uR (ya ["sign"] 1 [] rfl (NO (dv 0)) (eR (by decide)) (λs H C fp pn=>⟨λHe η=>(b4 (i:=0) (show WI (["sign"]:List US) from by decide) rfl (UD rfl)),lQ,(eC (CH hr.units) CK (dv 0) (bf T.pF rfl) rfl)⟩) ⟨rfl,rfl⟩ rfl rfl rfl rfl)) ak)))
 ar)))
def m5(T:Txt K mg t):ff P w K mg base (gb P w) 3 (t.A 14) (t.Q 14) ["places"] (spD K 1 m_look_at_places) "look_at_places" (top 44) :=
 oE T.g sc (i:=14) rfl λ_ _ _ _ _ _ _ hr=>(
 (ah (b6 (DW.dt (eB (cy (cm (c7 iU rfl T.n_isinstance rfl T.n_list PyProof.Rows.Boot.«list» (dv 0)))) (bQ (cy (Ar vS vS (g9 λ_ _ _ _=>rb _) (g9 λ_ _ _ _=>rb _) ia ia (bf T.gK rfl) (bj bR cY rfl T.n_len PyProof.Rows.Boot.«len» (aa (dv 0) ak)) (bf T.jh rfl))))))
 (ah (dY T.bX.xc T.ib T.d9 T.ic ((e9 T).mono (by decide:1<=1)) T.fL (by decide) (by decide) hr T.gS hr.hd rfl (aa cJ (aa bK ak)))
 ar)
 ar)
 (ah (rf W8 rfl (rh rfl T.n_enumerate (dv 0)) (lj rfl (bW (i:=1) (nd 14) rfl (UD rfl) (bW (i:=2) (nd 14) rfl (UD rfl) gU))) fg
 (ah (b6 (DW.dt (eB (cy (cm (rC (jQ T) hr (aa (dv 2) ak)))) (bQ (aS (CH hr.units) CK (dv 2) (c6 (dv 0) dQ (dP (dv 1))) rfl))))
 (ah (dY T.bX.xc T.ib T.d9 T.ic ((e9 T).mono (by decide:1<=1)) T.fL (by decide) (by decide) hr T.gS hr.hd rfl (aa cJ (aa (dv 1) ak)))
 ar)
 ar)
 ar))
 ar)))
def gB(T:Txt K mg t):ff P w K mg base CX0 1 (t.A 15) (t.Q 15) ["thing"] (spD K 1 m_is_whole) "is_whole" (top 16) :=
 oD T.g sc (i:=15) rfl λ_ _ _ _ _ _ _ _=>(
 (ah (bc (jZ (c7 Bt rfl T.n_isinstance rfl T.n_int PyProof.Rows.Boot.«int» (dv 0)) (iE (Ip (c7 zK rfl T.n_isinstance rfl T.n_bool PyProof.Rows.Boot.«bool» (dv 0))))))
 ar))
def fE(T:Txt K mg t):ff P w K mg base CX0 1 (t.A 16) (t.Q 16) ["one","other"] (spD K 2 m_common_divisor) "common_divisor" (top 1) :=
 oD T.g sc (i:=16) rfl λ_ _ _ _ _ _ _ hr=>(
 (ah (bo (i:=2) (nd 16) rfl (UD rfl) (bj u7 BU rfl T.n_abs PyProof.Rows.Boot.«abs» (aa (dv 0) ak)))
 (ah (bo (i:=3) (nd 16) rfl (UD rfl) (bj u7 BU rfl T.n_abs PyProof.Rows.Boot.«abs» (aa (dv 1) ak)))
 (ah (uM _ Vi (aS (fB hr.units) iQ (dv 3) ai nm)
 (ah (bo (i:=4) (nd 16) rfl (UD rfl) (gJ (dv 2) (dv 3)))
 (ah (bo (i:=2) (nd 16) rfl (UD rfl) (dv 3))
 (ah (bo (i:=3) (nd 16) rfl (UD rfl) (dv 4))
 ar))))
 (ah (bc (dv 2))
 ar)))))
def pO(T:Txt K mg t):ff P w K mg base CX0 2 (t.A 17) (t.Q 17) ["thing"] (spD K 1 m_is_ratio) "is_ratio" (top 17) :=
 oD T.g sc (i:=17) rfl λ_ _ _ _ _ _ _ hr=>(
 (ah (b6 (DW.dt (eB (cy (cm (c7 jV rfl T.n_isinstance rfl T.n_tuple PyProof.Rows.Boot.«tuple» (dv 0)))) (bQ (aS (fB hr.units) iQ (bj bR cY rfl T.n_len PyProof.Rows.Boot.«len» (aa (dv 0) ak)) ai nm))))
 (ah (bc cz)
 ar)
 ar)
 (ah (b6 (DW.dt (eB (cy (cm (rC (gB T) hr (aa (au (dv 0) ai) ak)))) (bQ (cy (cm (rC (gB T) hr (aa (au (dv 0) ai) ak)))))))
 (ah (bc cz)
 ar)
 ar)
 (ah (bc (jZ (eC G1 (d7 λ_ _ _ _=>rb _) (au (dv 0) ai) ai nm) (iE (eC (bZ hr.units) cN (rC (fE T) hr (aa (au (dv 0) ai) (aa (au (dv 0) ai) ak))) ai nm))))
 ar))))
def m6(T:Txt K mg t):ff P w K mg base CX0 3 (t.A 18) (t.Q 18) ["thing"] (spD K 1 m_is_length) "is_length" (top 40) :=
 oD T.g sc (i:=18) rfl λ_ _ _ _ _ _ _ hr=>(
 (ah (bc (jZ (rC (pO T) hr (aa (dv 0) ak)) (iE (eC G1 (d7 λ_ _ _ _=>rb _) (au (dv 0) ai) ai nm))))
 ar))
def zr(T:Txt K mg t):ff P w K mg base CX0 3 (t.A 19) (t.Q 19) ["thing"] (spD K 1 m_is_worth) "is_worth" (top 41) :=
 oD T.g sc (i:=19) rfl λ_ _ _ _ _ _ _ hr=>(
 (ah (bc (Mg (eC ik iq (dv 0) bK nm) (iE (jZ (rC (pO T) hr (aa (dv 0) ak)) (iE (eC zm (d7 λ_ _ _ _=>rb _) (au (dv 0) ai) ai nm))))))
 ar))
def EF(T:Txt K mg t):ff P w K mg base CX0 4 (t.A 20) (t.Q 20) ["thing"] (spD K 1 m_is_tie) "is_tie" (top 39) :=
 oD T.g sc (i:=20) rfl λ_ _ _ _ _ _ _ hr=>(
 (ah (b6 (DW.dt (eB (cy (cm (c7 jV rfl T.n_isinstance rfl T.n_tuple PyProof.Rows.Boot.«tuple» (dv 0)))) (bQ (aS (fB hr.units) iQ (bj bR cY rfl T.n_len PyProof.Rows.Boot.«len» (aa (dv 0) ak)) ai nm))))
 (ah (bc cz)
 ar)
 ar)
 (ah (b6 (DW.dt (eB (cy (cm (rC (jQ T) hr (aa (au (dv 0) (bf T.va rfl)) ak)))) (eB (cy (cm (rC (jQ T) hr (aa (au (dv 0) (bf T.j8 rfl)) ak)))) (bQ (aS (bZ hr.units) cN (au (dv 0) (bf T.va rfl)) (au (dv 0) (bf T.j8 rfl)) nm)))))
 (ah (bc cz)
 ar)
 ar)
 (ah (b6 (DW.dt (eB (cy (cm (c7 sW rfl T.n_isinstance rfl T.n_str PyProof.Rows.Boot.«str» (au (dv 0) (bf T.u9 rfl))))) (bQ (aS (ij hr.units) ip (au (dv 0) (bf T.u9 rfl)) (bf T.ye rfl) rfl))))
 (ah (bc cz)
 ar)
 ar)
 (ah (bc (jZ (rC (m6 T) hr (aa (au (dv 0) (bf T.jH rfl)) ak)) (iE (rC (zr T) hr (aa (au (dv 0) (bf T.rz rfl)) ak)))))
 ar)))))
def qv(T:Txt K mg t):ff P w K mg base (gb P w) 5 (t.A 21) (t.Q 21) ["ties","places"] (spD K 2 m_look_at_ties) "look_at_ties" (top 45) :=
 oE T.g sc (i:=21) rfl λ_ _ _ _ _ _ _ hr=>(
 (ah (b6 (DW.dt (eB (cy (cm (c7 iU rfl T.n_isinstance rfl T.n_list PyProof.Rows.Boot.«list» (dv 0)))) (bQ (aS zm (d7 λ_ _ _ _=>rb _) (bj bR cY rfl T.n_len PyProof.Rows.Boot.«len» (aa (dv 0) ak)) (bf T.lq rfl) nm))))
 (ah (dY T.bX.xc T.ib T.d9 T.ic ((e9 T).mono (by decide:1<=3)) T.fL (by decide) (by decide) hr T.gS hr.hd rfl (aa cJ (aa bK ak)))
 ar)
 ar)
 (ah (rf W8 rfl (rh rfl T.n_enumerate (dv 0)) (lj rfl (bW (i:=2) (nd 21) rfl (UD rfl) (bW (i:=3) (nd 21) rfl (UD rfl) gU))) fg
 (ah (b6 (DW.dt (eB (cy (cm (rC (EF T) hr (aa (dv 3) ak)))) (eB (aS (ij hr.units) ip (au (dv 3) (bf T.va rfl)) (dv 1) rfl) (bQ (aS (ij hr.units) ip (au (dv 3) (bf T.j8 rfl)) (dv 1) rfl)))))
 (ah (dY T.bX.xc T.ib T.d9 T.ic ((e9 T).mono (by decide:1<=3)) T.fL (by decide) (by decide) hr T.gS hr.hd rfl (aa cJ (aa (dv 2) ak)))
 ar)
 ar)
 ar))
 ar)))
def pP(T:Txt K mg t):ff P w K mg base CX0 2 (t.A 22) (t.Q 22) ["thing","places"] (spD K 2 m_is_place) "is_place" (top 46) :=
 oD T.g sc (i:=22) rfl λ_ _ _ _ _ _ _ hr=>(
 (ah (bc (jZ (rC (jQ T) hr (aa (dv 0) ak)) (iE (eC (CH hr.units) CK (dv 0) (dv 1) rfl))))
 ar))
def il(T:Txt K mg t):ff P w K mg base (gb P w) 6 (t.A 23) (t.Q 23) ["thing"] (spD K 1 m_look_at_web) "look_at_web" (top 43) :=
 oE T.g sc (i:=23) rfl λ_ _ _ _ _ _ _ hr=>(
 (ah (b6 (DW.dt (eB (cy (cm (c7 jV rfl T.n_isinstance rfl T.n_tuple PyProof.Rows.Boot.«tuple» (dv 0)))) (bQ (aS (fB hr.units) iQ (bj bR cY rfl T.n_len PyProof.Rows.Boot.«len» (aa (dv 0) ak)) ai nm))))
 (ah (dY T.bX.xc T.ib T.d9 T.ic ((e9 T).mono (by decide:1<=4)) T.fL (by decide) (by decide) hr T.gS hr.hd rfl (aa cJ (aa bK ak)))
 ar)
 ar)
 (ah (gT (rC (m5 T) hr (aa (au (dv 0) (bf T.gE rfl)) ak)))
 (ah (gT (rC (qv T) hr (aa (au (dv 0) (bf T.jg rfl)) (aa (au (dv 0) (bf T.gE rfl)) ak))))
 (ah (b6 (cy (cm (rC (pP T) hr (aa (au (dv 0) (bf T.ka rfl)) (aa (au (dv 0) (bf T.gE rfl)) ak)))))
 (ah (dY T.bX.xc T.ib T.d9 T.ic ((e9 T).mono (by decide:1<=4)) T.fL (by decide) (by decide) hr T.gS hr.hd rfl (aa cJ (aa bK ak)))
 ar)
 ar)
 (ah (b6 (DW.dt (eB (cy (cm (rC (pP T) hr (aa (au (dv 0) (bf T.j9 rfl)) (aa (au (dv 0) (bf T.gE rfl)) ak))))) (bQ (aS (bZ hr.units) cN (au (dv 0) (bf T.j9 rfl)) (au (dv 0) (bf T.ka rfl)) nm))))
 (ah (dY T.bX.xc T.ib T.d9 T.ic ((e9 T).mono (by decide:1<=4)) T.fL (by decide) (by decide) hr T.gS hr.hd rfl (aa cJ (aa bK ak)))
 ar)
 ar)
 ar))))))
def mw(T:Txt K mg t):ff P w K mg base CX0 7 (t.A 24) (t.Q 24) ["_law_bad"] (spD K 1 d8) "_law_web_fields" (top 87) :=
 oD T.g sc (i:=24) rfl λ_ _ _ _ _ _ _ hr=>(
 (ah (bo (i:=1) (nd 24) rfl (UD rfl) bK)
 (ah (NI ⟨rfl,rfl⟩ (rD (il T) hr (aa (dv 0) ak)) rfl T.gS (xC T) (nd 24) rfl rfl (λea=>(ah (bo (i:=1) (nd 24) rfl (UD rfl) (cp (aa (rm (tJ T) (dv 2)) (aa (rm (nj T) (dv 2)) ak))))
 ar)))
 (ah (bc (dv 1))
 ar))))
def jv(T:Txt K mg t):ff P w K mg base CX0 2 (t.A 25) (t.Q 25) ["web","thing"] (spD K 2 m_is_tie_number) "is_tie_number" (top 42) :=
 oD T.g sc (i:=25) rfl λ_ _ _ _ _ _ _ hr=>(
 (ah (bc (jZ (rC (gB T) hr (aa (dv 1) ak)) (iE (Ir vS zl (g9 λ_ _ _ _=>rb _) (g9 λ_ _ _ _=>rb _) ia ia ai (dv 1) (bj bR cY rfl T.n_len PyProof.Rows.Boot.«len» (aa (au (dv 0) (bf T.jg rfl)) ak))))))
 ar))
def kK(T:Txt K mg t):ff P w K mg base CX0 1 (t.A 26) (t.Q 26) ["tie"] (spD K 1 m_steps_along) "steps_along" (top 48) :=
 oD T.g sc (i:=26) rfl λ_ _ _ _ _ _ _ hr=>(
 (ah (bo (i:=1) (nd 26) rfl (UD rfl) (cp (aa (au (dv 0) (bf T.va rfl)) (aa (au (dv 0) (bf T.j8 rfl)) ak))))
 (ah (b6 (aS (bZ hr.units) cN (au (dv 0) (bf T.u9 rfl)) cJ nm)
 (ah (bc (bh (aa (dv 1) ak)))
 ar)
 ar)
 (ah (bc (bh (aa (dv 1) (aa (cp (aa (au (dv 0) (bf T.j8 rfl)) (aa (au (dv 0) (bf T.va rfl)) ak))) ak))))
 ar))))
def qt(T:Txt K mg t):ff P w K mg base CX0 3 (t.A 27) (t.Q 27) ["web","taken","places","number"] (spD K 4 m_place_behind) "place_behind" (top 51) :=
 oD T.g sc (i:=27) rfl λ_ _ _ _ _ _ _ hr=>(
 (ah (b6 (DW.dt (eB (aS (bZ hr.units) cN (au (dv 2) (jY ai)) (au (dv 0) (bf T.j9 rfl)) nm) (eB (cy (cm (rC (jv T) hr (aa (dv 0) (aa (dv 3) ak))))) (bQ (aS (CH hr.units) CK (dv 3) (dv 1) rfl)))))
 (ah (bc bK)
 ar)
 ar)
 (ah (k9 Vi rfl (rC (kK T) hr (aa (au (au (dv 0) (bf T.jg rfl)) (dv 3)) ak)) (lj rfl (bW (i:=4) (nd 27) rfl (UD rfl) (bW (i:=5) (nd 27) rfl (UD rfl) gU))) fg
 (ah (b6 (DW.dt (pA (aS (bZ hr.units) cN (dv 4) (au (dv 2) (jY ai)) nm) (iC (aS (ij hr.units) ip (dv 5) (dv 2) rfl))))
 (ah (bc (dv 5))
 ar)
 ar)
 ar))
 (ah (bc bK)
 ar))))
def pM(T:Txt K mg t):ff P w K mg base (gb P w) 4 (t.A 28) (t.Q 28) ["web","taken","thing"] (spD K 3 m_walk_way) "walk_way" (top 50) :=
 oE T.g sc (i:=28) rfl λ_ _ _ _ _ _ _ hr=>(
 (ah (b6 (cy (cm (c7 iU rfl T.n_isinstance rfl T.n_list PyProof.Rows.Boot.«list» (dv 2))))
 (ah (dY T.cE.xc T.rJ T.rG T.rL ((mE T).mono (by decide:1<=2)) T.lr (by decide) (by decide) hr T.qV hr.hd rfl (aa bK ak))
 ar)
 ar)
 (ah (iD (i:=3) (nd 28) rfl (UD rfl) (jb (aa (au (dv 0) (bf T.ka rfl)) ak)))
 (ah (rf W8 rfl (rh rfl T.n_enumerate (dv 2)) (lj rfl (bW (i:=4) (nd 28) rfl (UD rfl) (bW (i:=5) (nd 28) rfl (UD rfl) gU))) fg
 (ah (DK (i:=6) (nd 28) rfl (UD rfl) (rC (qt T) hr (aa (dv 0) (aa (dv 1) (aa (dv 3) (aa (dv 5) ak))))))
 (ah (b6 (aS ik iq (dv 6) bK nm)
 (ah (dY T.cE.xc T.rJ T.rG T.rL ((mE T).mono (by decide:1<=2)) T.lr (by decide) (by decide) hr T.qV hr.hd rfl (aa (dv 4) ak))
 ar)
 ar)
 (ah (fu (i:=3) rfl (UD rfl) (dv 6))
 ar))))
 (ah (Ih 3 (b6 (aS (fB hr.units) iQ (au (dv 3) (jY ai)) (au (dv 0) (bf T.j9 rfl)) nm)
 (ah (dY T.cE.xc T.rJ T.rG T.rL ((mE T).mono (by decide:1<=2)) T.lr (by decide) (by decide) hr T.qV hr.hd rfl (aa (bj bR cY rfl T.n_len PyProof.Rows.Boot.«len» (aa (dv 2) ak)) ak))
 ar)
 ar))
 (ah (bc (dv 3))
 ar))))))
def xm(T:Txt K mg t):ff P w K mg base (gb P w) 7 (t.A 29) (t.Q 29) ["web","way"] (spD K 2 fk) "places_of" (top 72) :=
 oE T.g sc (i:=29) rfl λ_ _ _ _ _ _ _ hr=>(
 (ah (gT (rC (il T) hr (aa (dv 0) ak)))
 (ah (bc (rC (pM T) hr (aa (dv 0) (aa (bh ak) (aa (dv 1) ak)))))
 ar)))
def fD(T:Txt K mg t):ff P w K mg base (gb P w) 7 (t.A 30) (t.Q 30) ["web","thing"] (spD K 2 aX) "look_at_taking" (top 62) :=
 oE T.g sc (i:=30) rfl λ_ _ _ _ _ _ _ hr=>(
 (ah (gT (rC (il T) hr (aa (dv 0) ak)))
 (ah (b6 (cy (cm (c7 iU rfl T.n_isinstance rfl T.n_list PyProof.Rows.Boot.«list» (dv 1))))
 (ah (uN T.bH.xcls T.jW hr.hd rfl (aa cJ ak))
 ar)
 ar)
 (ah (bo (i:=2) (nd 30) rfl (UD rfl) (jY ai))
 (ah (k9 W8 rfl (dv 1) (b4 (i:=3) (nd 30) rfl (UD rfl)) cw
 (ah (b6 (DW.dt (eB (cy (cm (rC (jv T) hr (aa (dv 0) (aa (dv 3) ak))))) (bQ (aS vS (d7 λ_ _ _ _=>rb _) (dv 3) (dv 2) nm))))
 (ah (uN T.bH.xcls T.jW hr.hd rfl (aa cJ ak))
 ar)
 ar)
 (ah (b6 (aS ik iq (au (au (au (dv 0) (bf T.jg rfl)) (dv 3)) (bf T.rz rfl)) bK nm)
 (ah (uN T.bH.xcls T.jW hr.hd rfl (aa cJ ak))
 ar)
 ar)
 (ah (bo (i:=2) (nd 30) rfl (UD rfl) (dv 3))
 ar))))
 ar)))))
def kL(T:Txt K mg t):ff P w K mg base (gb P w) 8 (t.A 31) (t.Q 31) ["web","taking","thing"] (spD K 3 cO) "look_at_way" (top 70) :=
 oE T.g sc (i:=31) rfl λ_ _ _ _ _ _ _ hr=>(
 (ah (gT (rC (fD T) hr (aa (dv 0) (aa (dv 1) ak))))
 (ah (gT (rC (pM T) hr (aa (dv 0) (aa (dv 1) (aa (dv 2) ak)))))
 ar)))
def zq(T:Txt K mg t):ff P w K mg base CX0 2 (t.A 32) (t.Q 32) ["top","bottom"] (spD K 2 m_ratio) "ratio" (top 21) :=
 oD T.g sc (i:=32) rfl λ_ _ _ _ _ _ _ hr=>(
 (ah (b6 (DW.dt (eB (cy (cm (rC (gB T) hr (aa (dv 0) ak)))) (bQ (cy (cm (rC (gB T) hr (aa (dv 1) ak)))))))
 (ah As
 ar)
 ar)
 (ah (b6 (aS (bZ hr.units) cN (dv 1) ai nm)
 (ah As
 ar)
 ar)
 (ah (bo (i:=2) (nd 32) rfl (UD rfl) (rC (fE T) hr (aa (dv 0) (aa (dv 1) ak))))
 (ah (b6 (aS zl (d7 λ_ _ _ _=>rb _) (dv 1) ai nm)
 (ah (bo (i:=2) (nd 32) rfl (UD rfl) (jY (dv 2)))
 ar)
 ar)
 (ah (bc (cp (aa (ll (dv 0) (dv 2)) (aa (ll (dv 1) (dv 2)) ak))))
 ar))))))
def CJ(T:Txt K mg t):ff P w K mg base CX0 3 (t.A 33) (t.Q 33) ["one","other"] (spD K 2 m_plus) "plus" (top 22) :=
 oD T.g sc (i:=33) rfl λ_ _ _ _ _ _ _ hr=>(
 (ah (bc (rC (zq T) hr (aa (cU (fK (au (dv 0) ai) (au (dv 1) ai)) (fK (au (dv 1) ai) (au (dv 0) ai))) (aa (fK (au (dv 0) ai) (au (dv 1) ai)) ak))))
 ar))
def EE(T:Txt K mg t):ff P w K mg base CX0 4 (t.A 34) (t.Q 34) ["some"] (spD K 1 m_sum_of) "sum_of" (top 24) :=
 oD T.g sc (i:=34) rfl λ_ _ _ _ _ _ _ hr=>(
 (ah (bo (i:=1) (nd 34) rfl (UD rfl) (bf T.ot rfl))
 (ah (k9 Vi rfl (dv 0) (b4 (i:=2) (nd 34) rfl (UD rfl)) cw
 (ah (bo (i:=1) (nd 34) rfl (UD rfl) (rC (CJ T) hr (aa (dv 1) (aa (dv 2) ak))))
 ar))
 (ah (bc (dv 1))
 ar))))
def xo(T:Txt K mg t):ff P w K mg base (gb P w) 9 (t.A 35) (t.Q 35) ["web","way"] (spD K 2 fq) "length_of" (top 71) :=
 oE T.g sc (i:=35) rfl λ_ _ _ _ H _ _ hr=>(
 (ah (gT (rC (kL T) hr (aa (dv 0) (aa (bh ak) (aa (dv 1) ak)))))
 (ah (bc (rC (EE T) hr (aa (uR (ya ["number","web"] 1 [0] rfl (iY (dv 1)) (eR (by decide)) (λs H C fp pn=>⟨λHe η=>(b4 (i:=0) (show WI (["number","web"]:List US) from by decide) rfl (UD rfl)),lQ,(au (au (au (dv 1) (bf T.jg rfl)) (dv 0)) (bf T.jH rfl))⟩) ⟨rfl,rfl⟩ rfl rfl rfl rfl)) ak)))
 ar)))
def o4(T:Txt K mg t):ff P w K mg base CX0 2 (t.A 36) (t.Q 36) ["some"] (spD K 1 m_shared_bottom) "shared_bottom" (top 54) :=
 oD T.g sc (i:=36) rfl λ_ _ _ _ _ _ _ hr=>(
 (ah (bo (i:=1) (nd 36) rfl (UD rfl) ai)
 (ah (k9 Vi rfl (dv 0) (b4 (i:=2) (nd 36) rfl (UD rfl)) cw
 (ah (bo (i:=1) (nd 36) rfl (UD rfl) (fK (ll (dv 1) (rC (fE T) hr (aa (dv 1) (aa (au (dv 2) ai) ak)))) (au (dv 2) ai)))
 ar))
 (ah (bc (dv 1))
 ar))))
def zu(T:Txt K mg t):ff P w K mg base CX0 1 (t.A 37) (t.Q 37) ["one","bottom"] (spD K 2 m_as_whole) "as_whole" (top 55) :=
 oD T.g sc (i:=37) rfl λ_ _ _ _ _ _ _ _=>(
 (ah (bc (fK (au (dv 0) ai) (ll (dv 1) (au (dv 0) ai))))
 ar))
def qu(T:Txt K mg t):ff P w K mg base CX0 3 (t.A 38) (t.Q 38) ["some"] (spD K 1 m_on_one_scale) "on_one_scale" (top 53) :=
 oD T.g sc (i:=38) rfl λ_ _ _ _ H _ _ hr=>(
 (ah (bo (i:=1) (nd 38) rfl (YF rfl) (rC (o4 T) hr (aa (uR (ya ["one"] 1 [] rfl (iY (dv 0)) (eR (by decide)) (λs H C fp pn=>⟨λHe η=>(b4 (i:=0) (show WI (["one"]:List US) from by decide) rfl (UD rfl)),(xY (aS lI lJ (dv 0) bK nm)),(dv 0)⟩) ⟨rfl,rfl⟩ rfl rfl rfl rfl)) ak)))
 (ah (bc (cp (aa (uR (ya ["one","bottom"] 1 [1] rfl (iY (dv 0)) (eR (by decide)) (λs H C fp pn=>⟨λHe η=>(b4 (i:=0) (show WI (["one","bottom"]:List US) from by decide) rfl (UD rfl)),lQ,(Aw (aS ik iq (dv 0) bK nm) bK (rC (zu T) hr (aa (dv 0) (aa (dv 1) ak))))⟩) ⟨rfl,rfl⟩ rfl rfl rfl rfl)) (aa (dv 1) ak))))
 ar)))
def mZ(T:Txt K mg t):ff P w K mg base CX0 4 (t.A 39) (t.Q 39) ["web"] (spD K 1 m_scaled_lengths) "scaled_lengths" (top 58) :=
 oD T.g sc (i:=39) rfl λ_ _ _ _ H _ _ hr=>(
 (ah (bc (rC (qu T) hr (aa (uR (ya ["tie"] 1 [] rfl (iY (au (dv 0) (bf T.jg rfl))) (eR (by decide)) (λs H C fp pn=>⟨λHe η=>(b4 (i:=0) (show WI (["tie"]:List US) from by decide) rfl (UD rfl)),lQ,(au (dv 0) (bf T.jH rfl))⟩) ⟨rfl,rfl⟩ rfl rfl rfl rfl)) ak)))
 ar))
def lZ(T:Txt K mg t):ff P w K mg base CX0 2 (t.A 40) (t.Q 40) ["web","taken"] (spD K 2 m_steps_left) "steps_left" (top 49) :=
 oD T.g sc (i:=40) rfl λ_ _ _ _ _ _ _ hr=>(
 (ah (iD (i:=2) (nd 40) rfl (UD rfl) (jb ak))
 (ah (rf Vi rfl (rh rfl T.n_enumerate (au (dv 0) (bf T.jg rfl))) (lj rfl (bW (i:=3) (nd 40) rfl (UD rfl) (bW (i:=4) (nd 40) rfl (UD rfl) gU))) fg
 (ah (b6 (aS (ij hr.units) ip (dv 3) (dv 1) rfl)
 (ah (k9 Vi rfl (rC (kK T) hr (aa (dv 4) ak)) (lj rfl (bW (i:=5) (nd 40) rfl (UD rfl) (bW (i:=6) (nd 40) rfl (UD rfl) gU))) fg
 (ah (fu (i:=2) rfl (UD rfl) (cp (aa (dv 3) (aa (dv 5) (aa (dv 6) ak)))))
 ar))
 ar)
 ar)
 ar))
 (ah (bc (dv 2))
 ar))))
def ki(T:Txt K mg t):ff P w K mg base CX0 1 (t.A 41) (t.Q 41) ["steps","sizes","found"] (spD K 3 m_nearest_step) "nearest_step" (top 60) :=
 oD T.g sc (i:=41) rfl λ_ _ _ _ _ _ _ hr=>(
 (ah (bo (i:=3) (nd 41) rfl (UD rfl) bK)
 (ah (k9 Vi rfl (dv 0) (lj rfl (bW (i:=4) (nd 41) rfl (UD rfl) (bW (i:=5) (nd 41) rfl (UD rfl) (bW (i:=6) (nd 41) rfl (UD rfl) gU)))) fg
 (ah (b6 (DW.dt (pA (aS (Bc (un1 hr.units)) Be (dv 5) (dv 2) rfl) (iC (aS (vT (un1 hr.units)) vU (dv 6) (dv 2) rfl))))
 (ah (bo (i:=7) (nd 41) rfl (UD rfl) (cU (au (gV (un1 hr.units) (dv 2) (dv 5)) ai) (au (dv 1) (dv 4))))
 (ah (b6 (DW.dt (eB (aS ik iq (dv 3) bK nm) (bQ (aS zl (d7 λ_ _ _ _=>rb _) (dv 7) (au (dv 3) ai) nm))))
 (ah (bo (i:=3) (nd 41) rfl (UD rfl) (cp (aa (dv 6) (aa (dv 7) (aa (cU (au (gV (un1 hr.units) (dv 2) (dv 5)) ai) (bh (aa (dv 4) ak))) ak)))))
 ar)
 ar)
 ar))
 ar)
 ar))
 (ah (bc (dv 3))
 ar))))
def sI(T:Txt K mg t):ff P w K mg base CX0 3 (t.A 42) (t.Q 42) ["web","taken","sizes"] (spD K 3 m_all_reached) "all_reached" (top 59) :=
 oD T.g sc (i:=42) rfl λ_ _ _ _ _ _ _ hr=>(
 (ah (bo (i:=3) (nd 42) rfl (UD rfl) (rC (lZ T) hr (aa (dv 0) (aa (dv 1) ak))))
 (ah (DQ (i:=4) (nd 42) rfl (UD rfl) (E9 (au (dv 0) (bf T.ka rfl)) (cp (aa ai (aa (bh ak) ak)))))
 (ah (DJ (i:=5) (nd 42) rfl (UD rfl) (rC (ki T) hr (aa (dv 3) (aa (dv 2) (aa (dv 4) ak)))))
 (ah (uM _ Vi (aS lI lJ (dv 5) bK nm)
 (ah (DP (i:=4) (un1 hr.units) rfl (UD rfl) (cp (aa (au (dv 5) ai) (aa (au (dv 5) ai) ak))) (au (dv 5) ai))
 (ah (DJ (i:=5) (nd 42) rfl (UD rfl) (rC (ki T) hr (aa (dv 3) (aa (dv 2) (aa (dv 4) ak)))))
 ar)))
 (ah (bc (dv 4))
 ar))))))
def zp(T:Txt K mg t):ff P w K mg base CX0 5 (t.A 43) (t.Q 43) ["web","taken"] (spD K 2 m_shortest) "shortest" (top 57) :=
 oD T.g sc (i:=43) rfl λ_ _ _ _ _ _ _ hr=>(
 (ah (bo (i:=2) (nd 43) rfl (UD rfl) (rC (mZ T) hr (aa (dv 0) ak)))
 (ah (bo (i:=3) (nd 43) rfl (UD rfl) (rC (sI T) hr (aa (dv 0) (aa (dv 1) (aa (au (dv 2) ai) ak)))))
 (ah (DQ (i:=4) (nd 43) rfl (UD rfl) K3)
 (ah (k9 Vi rfl (au (dv 0) (bf T.gE rfl)) (b4 (i:=5) (nd 43) rfl (UD rfl)) cw
 (ah (DP (i:=4) (un1 hr.units) rfl (UD rfl) (Aw (aS (Bc (un1 hr.units)) Be (dv 5) (dv 3) rfl) (rC (zq T) hr (aa (au (gV (un1 hr.units) (dv 3) (dv 5)) ai) (aa (au (dv 2) ai) ak))) bK) (dv 5))
 ar))
 (ah (b6 (aS (vT (un1 hr.units)) vU (au (dv 0) (bf T.j9 rfl)) (dv 3) rfl)
 (ah (bc (cp (aa bK (aa bK (aa (dv 4) ak)))))
 ar)
 ar)
 (ah (bc (cp (aa (au (gV (un1 hr.units) (dv 3) (au (dv 0) (bf T.j9 rfl))) ai) (aa (gV (un1 hr.units) (dv 4) (au (dv 0) (bf T.j9 rfl))) (aa (dv 4) ak)))))
 ar)))))))
def xp(T:Txt K mg t):ff P w K mg base (gb P w) 8 (t.A 44) (t.Q 44) ["web","taking"] (spD K 2 iS) "least_way" (top 68) :=
 oE T.g sc (i:=44) rfl λ_ _ _ _ _ _ _ hr=>(
 (ah (gT (rC (fD T) hr (aa (dv 0) (aa (dv 1) ak))))
 (ah (bc (rC (zp T) hr (aa (dv 0) (aa (dv 1) ak))))
 ar)))
def zt(T:Txt K mg t):ff P w K mg base CX0 4 (t.A 45) (t.Q 45) ["thing"] (spD K 1 m_is_price) "is_price" (top 66) :=
 oD T.g sc (i:=45) rfl λ_ _ _ _ _ _ _ hr=>(
 (ah (bc (Mg (eC ik iq (dv 0) bK nm) (iE (rC (m6 T) hr (aa (dv 0) ak)))))
 ar))
def iM(T:Txt K mg t):ff P w K mg base CX0 5 (t.A 46) (t.Q 46) ["places","thing"] (spD K 2 m_prices_just_the_places) "prices_just_the_places" (top 65) :=
 oD T.g sc (i:=46) rfl λ_ _ _ _ H _ _ hr=>(
 (ah (b6 (DW.dt (eB (cy (cm (c7 zJ rfl T.n_isinstance rfl T.n_dict PyProof.Rows.Boot.«dict» (dv 1)))) (bQ (aS (fB hr.units) iQ (bj Fm Lj rfl T.n_len PyProof.Rows.Boot.«len» (aa (dv 1) ak)) (bj bR cY rfl T.n_len PyProof.Rows.Boot.«len» (aa (dv 0) ak)) nm))))
 (ah (bc cz)
 ar)
 ar)
 (ah (bc (bj (AE rfl) IF rfl T.n_all PyProof.Rows.Boot.«all» (aa (uR (ya ["place","thing"] 1 [1] rfl (iY (dv 0)) (eR (by decide)) (λs H C fp pn=>⟨λHe η=>(b4 (i:=0) (show WI (["place","thing"]:List US) from by decide) rfl (UD rfl)),lQ,(jZ (eC (Bc (un1 hr.units)) Be (dv 0) (dv 1) rfl) (iE (rC (zt T) hr (aa (gV (un1 hr.units) (dv 1) (dv 0)) ak))))⟩) ⟨rfl,rfl⟩ rfl rfl rfl rfl)) ak)))
 ar)))
def Bd(T:Txt K mg t):ff P w K mg base CX0 1 (t.A 47) (t.Q 47) ["one","other"] (spD K 2 m_is_less) "is_less" (top 23) :=
 oD T.g sc (i:=47) rfl λ_ _ _ _ _ _ _ _=>(
 (ah (bc (eC zl (d7 λ_ _ _ _=>rb _) (fK (au (dv 0) ai) (au (dv 1) ai)) (fK (au (dv 1) ai) (au (dv 0) ai)) nm))
 ar))
def EG(T:Txt K mg t):ff P w K mg base CX0 4 (t.A 48) (t.Q 48) ["here","length","there"] (spD K 3 m_is_let) "is_let" (top 67) :=
 oD T.g sc (i:=48) rfl λ_ _ _ _ _ _ _ hr=>(
 (ah (b6 (aS ik iq (dv 0) bK nm)
 (ah (bc cz)
 ar)
 ar)
 (ah (bc (jZ (eC lI lJ (dv 2) bK nm) (iE (Ip (rC (Bd T) hr (aa (rC (CJ T) hr (aa (dv 0) (aa (dv 1) ak))) (aa (dv 2) ak)))))))
 ar)))
def sH(T:Txt K mg t):ff P w K mg base (gb P w) 8 (t.A 49) (t.Q 49) ["web","taking","thing"] (spD K 3 gk) "lets_prices" (top 64) :=
 oE T.g sc (i:=49) rfl λ_ _ _ _ _ _ _ hr=>(
 (ah (gT (rC (fD T) hr (aa (dv 0) (aa (dv 1) ak))))
 (ah (b6 (DW.dt (eB (cy (cm (rC (iM T) hr (aa (au (dv 0) (bf T.gE rfl)) (aa (dv 2) ak))))) (bQ (aS (fB hr.units) iQ (gV (un1 hr.units) (dv 2) (au (dv 0) (bf T.ka rfl))) (bf T.ot rfl) nm))))
 (ah (bc cz)
 ar)
 ar)
 (ah (k9 W8 rfl (rC (lZ T) hr (aa (dv 0) (aa (dv 1) ak))) (lj rfl (bW (i:=3) (nd 49) rfl (UD rfl) (bW (i:=4) (nd 49) rfl (UD rfl) (bW (i:=5) (nd 49) rfl (UD rfl) gU)))) fg
 (ah (b6 (cy (cm (rC (EG T) hr (aa (gV (un1 hr.units) (dv 2) (dv 4)) (aa (au (au (au (dv 0) (bf T.jg rfl)) (dv 3)) (bf T.jH rfl)) (aa (gV (un1 hr.units) (dv 2) (dv 5)) ak))))))
 (ah (bc cz)
 ar)
 ar)
 ar))
 (ah (bc cz)
 ar)))))
def gj(T:Txt K mg t):ff P w K mg base CX0 10 (t.A 50) (t.Q 50) ["_law_asked","_law_web_here","_law_gone","_law_way"] (spD K 4 bM) "_law_which" (top 88) :=
 oD T.g sc (i:=50) rfl λ_ _ _ _ _ _ _ hr=>(
 (ah (bo (i:=4) (nd 50) rfl (UD rfl) bK)
 (ah (KY ⟨rfl,rfl⟩ (gf (yO (aS (bZ hr.units) cN (dv 0) ai nm) (gf (rK (kL T) hr (aa (dv 1) (aa (dv 2) (aa (dv 3) ak)))) oQ)) (gf (yO (aS (bZ hr.units) cN (dv 0) ai nm) (gf (rK (sH T) hr (aa (dv 1) (aa (dv 2) (aa (dv 3) ak)))) oQ)) (gf (yO (aS (bZ hr.units) cN (dv 0) ai nm) (gf (rK (xp T) hr (aa (dv 1) (aa (dv 2) ak))) oQ)) (gf (yO (aS (bZ hr.units) cN (dv 0) ai nm) (gf (rK (xo T) hr (aa (dv 1) (aa (dv 3) ak))) oQ)) (gf (yO (aS (bZ hr.units) cN (dv 0) ai nm) (gf (rK (xm T) hr (aa (dv 1) (aa (dv 3) ak))) oQ)) oQ))))) rfl T.mI (qE T) (nd 50) rfl rfl (λea=>(ah (bo (i:=4) (nd 50) rfl (UD rfl) (dv 5))
 ar)))
 (ah (b6 (DW.dt (eB (aS ik iq (dv 4) bK nm) (bQ (cy (cm (Fb rfl T.n_ValueError PyProof.Rows.Boot.«ValueError» (F8 T) rfl T.n_isinstance (dv 4)))))))
 (ah (bc (bh (aa (eC ik iq (dv 4) bK nm) ak)))
 ar)
 ar)
 (ah (iD (i:=6) (nd 50) rfl (UD rfl) (jb (aa (pC rfl T.gS (F5 T) rfl T.n_isinstance (dv 4)) (aa (pC rfl T.jW (F6 T) rfl T.n_isinstance (dv 4)) (aa (pC rfl T.qV (F7 T) rfl T.n_isinstance (dv 4)) ak)))))
 (ah (fu (i:=6) rfl (UD rfl) (K6 (F4 T) (lR rfl T.Bx (lR rfl T.EY (lR rfl T.KP (lR rfl T.EZ (lR rfl T.EX (lR rfl T.Hz NV)))))) (by simp) rfl T.n_isinstance (dv 4)))
 (ah (b6 (cm (au (dv 6) ai))
 (ah (fu (i:=6) rfl (UD rfl) (cp (aa (rm (tJ T) (dv 4)) (aa (rm (nj T) (dv 4)) ak))))
 ar)
 ar)
 (ah (bc (dv 6))
 ar))))))))
def vy(T:Txt K mg t):ff P w K mg base CX0 11 (t.A 51) (t.Q 51) ["_law_state","_law_web_here","_law_gone","_law_way"] (AZ K 3 fG) "_law_right" (top 89) :=
 oM T.g sc (i:=51) rfl rfl λ_ _ _ _ _ _ _ _ _ hr=>(
 (aq (b7 (i:=4) (nd 51) rfl (UD rfl) (rM 0 (qw T) hr (aH (aE (E:=E0) (dv 1)) aU)))
 (aq (b7 (i:=5) (nd 51) rfl (UD rfl) (rM 0 (mx T) hr (aH (aE (E:=E0) (dv 1)) aU)))
 (aq (b7 (i:=6) (nd 51) rfl (UD rfl) (eW (aE (E:=E0) (bh (aa (dv 3) (aa bK (aa (bh (aa ai ak)) (aa ai ak)))))) (rM 0 (aM T) hr (aH (aE (E:=E0) ai) aU))))
 (aq (bI (E:=E0) λvs=>(bo (i:=7) (nd 51) rfl (UD rfl) (bj (wx hr) DZ rfl T.n_repr PyProof.Rows.Boot.«repr» (aa (bh (aa (dv 4) (aa (dv 5) (aa (dv 1) (aa (dv 6) ak))))) ak))))
 (aq (bI (E:=E0) λvs=>(bo (i:=8) (nd 51) rfl (UD rfl) (bh (aa cz (aa cz (aa cz (aa cz (aa (rC (mw T) hr (aa (dv 4) ak)) ak))))))))
 (aq (iP (E:=E0) Vi rfl (iR (E:=E0) (fv rfl T.n_range ai)) (λvs=>(b4 (i:=9) (nd 51) rfl (UD rfl))) cw
 (aq (iP (E:=E0) Vi rfl (iR (E:=E0) (iY (bh (aa (dv 2) (aa (dv 5) ak))))) (λvs=>(b4 (i:=10) (nd 51) rfl (UD rfl))) cw
 (aq (fj (cK (E:=E0) (aS (fB hr.units) iQ (rC (gj T) hr (aa (dv 9) (aa (dv 4) (aa (dv 10) (aa (dv 6) ak))))) (dv 8) nm))
 (aq (cF (E:=E0) cz)
 aQ)
 aQ)
 aQ))
 aQ))
 (aq (iP (E:=E0) Vi rfl (iR (E:=E0) (fv rfl T.n_range ai)) (λvs=>(b4 (i:=9) (nd 51) rfl (UD rfl))) cw
 (aq (fj (cK (E:=E0) (aS (fB hr.units) iQ (rC (gj T) hr (aa (dv 9) (aa (dv 1) (aa (dv 5) (aa (dv 6) ak))))) (bh (aa cz (aa cz (aa cz (aa cz ak))))) nm))
 (aq (cF (E:=E0) cz)
 aQ)
 aQ)
 aQ))
 (aq (iP (E:=E0) Vi rfl (iR (E:=E0) (iY (bh (aa ai (aa ai (aa ai ak)))))) (λvs=>(b4 (i:=9) (nd 51) rfl (UD rfl))) cw
 (aq (fj (cK (E:=E0) (aS (fB hr.units) iQ (rC (gj T) hr (aa (dv 9) (aa (dv 1) (aa (bh ak) (aa (bh (aa ai ak)) ak))))) (bh (aa cz (aa cz (aa cz (aa cz ak))))) nm))
 (aq (cF (E:=E0) cz)
 aQ)
 aQ)
 (aq (fj (cK (E:=E0) (aS (fB hr.units) iQ (rC (gj T) hr (aa (dv 9) (aa (dv 1) (aa (bh ak) (aa bK ak))))) (bh (aa cz (aa cz (aa cz (aa cz ak))))) nm))
 (aq (cF (E:=E0) cz)
 aQ)
 aQ)
 aQ)))
 (aq (cF (E:=E0) (eC (bZ hr.units) cN (bj (wx hr) DZ rfl T.n_repr PyProof.Rows.Boot.«repr» (aa (bh (aa (dv 4) (aa (dv 5) (aa (dv 1) (aa (dv 6) ak))))) ak)) (dv 7) nm))
 aQ))))))))))
def ok_law(T:Txt K mg t):ff P w K mg base CX0 12 (t.A 52) (t.Q 52) ["_law_script"] (spD K 1 m_law) "law" (top 90) :=
 oD T.g sc (i:=52) rfl λ_ _ _ _ _ _ _ hr=>(
 (ah (xW Vi rfl rfl T.n_range (bj (Fj rfl) NZ rfl T.n_max PyProof.Rows.Boot.«max» (aa ai (aa (bj (Fi rfl) NY rfl T.n_min PyProof.Rows.Boot.«min» (aa (bj bR cY rfl T.n_len PyProof.Rows.Boot.«len» (aa (dv 0) ak)) (aa ai ak))) ak))) (b4 (i:=1) (nd 52) rfl (UD rfl)) cw
 (E6 (i:=2) (nd 52) rfl (UD rfl) (rF (sN T) hr (aa (dv 0) (aa (dv 1) ak))) λa=>(aq (b7 (i:=3) (nd 52) rfl (UD rfl) (rM 2 (zv T) hr (aH (aE (E:=E0) ai) (aH (aE (E:=E0) ai) aU))))
 (aq (b7 (i:=4) (nd 52) rfl (UD rfl) (rM 2 (sL T) hr (aH (aE (E:=E0) (dv 3)) (aH (lh (aE (E:=E0) ai) (rM 2 (aM T) hr (aH (aE (E:=E0) ai) aU))) aU))))
 (aq (b7 (i:=5) (nd 52) rfl (UD rfl) (rM 2 (sJ T) hr (aH (aE (E:=E0) (dv 3)) (aH (aE (E:=E0) (dv 4)) aU))))
 (aq (iP (E:=E0) Vi rfl (iR (E:=E0) (fv rfl T.n_range ai)) (λvs=>(b4 (i:=6) (nd 52) rfl (UD rfl))) cw
 (aq (fj (K0 (KZ (rM 2 (vy T) hr (aH (aE (E:=E0) (dv 3)) (aH (aE (E:=E0) (dv 4)) (aH (aE (E:=E0) (dv 5)) aU))))))
 (aq (cF (E:=E0) cz)
 aQ)
 aQ)
 aQ))
 aQ))))))
 (ah (bc cz)
 ar)))
end
def txt_mk{h:UR}(X:K.In h)(G:h.Ns UX mg)(qs:QAs K rows [a0,a1,a2,a3,a4,a5,a6,a7,a8,a9,a10,a11,a12,a13,a14,a15,a16,a17,a18,a19,a20,a21,a22,a23,a24,a25,a26,a27,a28,a29,a30,a31,a32,a33,a34,a35,a36,a37,a38,a39,a40,a41,a42,a43,a44,a45,a46,a47,a48,a49,a50,a51,a52])
  (z_ValueError:VH K UX "ValueError"=some none)
  (z_abs:VH K UX "abs"=some none)
  (z_all:VH K UX "all"=some none)
  (z_bool:VH K UX "bool"=some none)
  (z_dict:VH K UX "dict"=some none)
  (z_enumerate:VH K UX "enumerate"=some none)
  (z_int:VH K UX "int"=some none)
  (z_isinstance:VH K UX "isinstance"=some none)
  (z_len:VH K UX "len"=some none)
  (z_list:VH K UX "list"=some none)
  (z_max:VH K UX "max"=some none)
  (z_min:VH K UX "min"=some none)
  (z_range:VH K UX "range"=some none)
  (z_repr:VH K UX "repr"=some none)
  (z_str:VH K UX "str"=some none)
  (z_tuple:VH K UX "tuple"=some none)
  (pV:f9 K "CutError" bO)
  (tj:f9 K "NoCases" c5)
  (vY:f9 K "NoName" dS)
  (pU:f9 K "NoNumber" cI)
  (tf:f9 K "NoPurse" c4)
  (ku:D7 K "NoTaking" bw)
  (zL:f9 K "NoTie" eV)
  (rE:wH K "NoWay" bP)
  (rB:wH K "NoWeb" bG)
  (sZ:f9 K "TooMany" c3)
  
  
  (yu:K.lookup bP=some (excClassObj Qd PL bP CS Q6 [.ref bO,.type "ValueError",.type "Exception",.type "BaseException",.type "object"] QB Po Pj Rh OR Q0 Qv Qt Qr Qp Qn "ValueError.__new__")) (yr:K.lookup CS=some ⟨Q4,QT,.dict HL QJ,Pl⟩) (yx:HL.toList.all G9=true) (yp:VH K CS "__init__"=some (some (.ref fJ)))
  (GD:W.isFn K (.ref fJ)=true) (zb:K.lookup fJ=some ⟨OH,OF,.func (WH "__init__" "NoWay.__init__" (defArgs jr) (defBody jr) (defScope jr) .none OK ON OD OT Fh OP),OB⟩) (y4:Yl K Fh "NoWay.__init__"=true) (yZ:WV K (.ref fJ)=true)
  (Eb:Wq K (.ref bP) "__setattr__"=some (some (.builtin "object.__setattr__"))) (Ed:WG K bP=true) (wU:Wq K (.ref bP) "at"=some none)
  
  
  (yt:K.lookup bG=some (excClassObj Qc PK bG CQ Q5 [.ref bO,.type "ValueError",.type "Exception",.type "BaseException",.type "object"] Qz Pn Ph Rg OQ QZ Qu Qs Qq Qo Qm "ValueError.__new__")) (yq:K.lookup CQ=some ⟨Q3,QR,.dict HK QI,Pk⟩) (yw:HK.toList.all G9=true) (yo:VH K CQ "__init__"=some (some (.ref fH)))
  (GC:W.isFn K (.ref fH)=true) (za:K.lookup fH=some ⟨OG,OE,.func (WH "__init__" "NoWeb.__init__" (defArgs jq) (defBody jq) (defScope jq) .none OJ OM OC OS Fg OO),OA⟩) (y0:Yl K Fg "NoWeb.__init__"=true) (yY:WV K (.ref fH)=true)
  (Ea:Wq K (.ref bG) "__setattr__"=some (some (.builtin "object.__setattr__"))) (Ec:WG K bG=true) (rH:Wq K (.ref bG) "part"=some none) (oJ:Wq K (.ref bG) "number"=some none)
  (gP:Yk K bO [.type "ValueError",.type "Exception",.type "BaseException",.type "object"] "ValueError.__new__"=true) (wR:W.readsIn K bO (.type "type")=true) (wW:W.findCls K (.ref bO) (.type "type") "__init__"=some (.val (.builtin "ValueError.__init__"))) (wQ:Yu K (.ref bO) "__getattribute__"=some (some (.builtin "type.__getattribute__")))
  (cx:Jl K bw [(bO,true),(c5,false),(dS,false),(cI,false),(c4,false),(bw,true),(eV,false),(bP,false),(bG,false),(c3,false)])
  (eI:Jl K bP [(bO,true),(c5,false),(dS,false),(cI,false),(c4,false),(bw,false),(eV,false),(bP,true),(bG,false),(c3,false)])
  (eG:Jl K bG [(bO,true),(c5,false),(dS,false),(cI,false),(c4,false),(bw,false),(eV,false),(bP,false),(bG,true),(c3,false)])
  (qo:VH K UX "FEWEST_PLACES"=some (some (.int 2 FA)))
  (Jr:VH K UX "FIRST"=some (some (.int 2 RB)))
  (Mq:VH K UX "LAST"=some (some (.int 3 RT)))
  (FI:VH K UX "LENGTH"=some (some (.int 3 O5)))
  (D9:VH K UX "LETTERS"=some (some (.str "abcdefghijklmnopqrstuvwxyz" Ow)))
  (rA:VH K UX "LONGEST_NAME"=some (some (.int 8 F9)))
  (vp:VH K UX "MOST_PLACES"=some (some (.int 7 Jf)))
  (yn:VH K UX "MOST_TIES"=some (some (.int 14 LD)))
  (FH:VH K UX "NOUGHT"=some (some (.ref GF))) (FQ:K.lookup GF=some G8) (FW:∃od its n sl vs,G8=⟨.type "tuple",od,.seq its n,sl⟩/\bE vs its.toList/\its.size<=sizeLine/\∀H,Reps K H [.int 0,.int 1] vs)
  (OY:VH K UX "ONE"=some (some (.int 0 Td)))
  (Jq:VH K UX "OTHER"=some (some (.int 1 RA)))
  (FG:VH K UX "PLACES"=some (some (.int 0 O4)))
  (Mp:VH K UX "TIES"=some (some (.int 1 RS)))
  (Mo:VH K UX "WORD"=some (some (.int 2 RQ)))
  (Jp:VH K UX "WORDS"=some (some (.ref J2))) (JA:K.lookup J2=some Kr) (JH:∃od its n sl vs,Kr=⟨.type "tuple",od,.seq its n,sl⟩/\bE vs its.toList/\its.size<=sizeLine/\∀H,Reps K H [.str "one",.str "both"] vs)
  (Jo:VH K UX "WORTH"=some (some (.int 4 Rz))) :
  ∃t:Adr,Txt K mg t/\t.A 52=a52/\∃kV doc pm an cdv ct,t.Q 52=WH "law" "law" (defArgs (top 90)) (defBody (top 90)) (defScope (top 90)) .none kV doc pm an cdv ct:=by
 obtain⟨Q,hQ⟩:=LB X G bn qs;have D_law:=(hQ 52 _ rfl).2;refine⟨⟨fJ,_,fH,_,bO,c5,dS,cI,c4,bw,eV,bP,bG,c3,λi=>[a0,a1,a2,a3,a4,a5,a6,a7,a8,a9,a10,a11,a12,a13,a14,a15,a16,a17,a18,a19,a20,a21,a22,a23,a24,a25,a26,a27,a28,a29,a30,a31,a32,a33,a34,a35,a36,a37,a38,a39,a40,a41,a42,a43,a44,a45,a46,a47,a48,a49,a50,a51,a52].getD i 0,Q⟩,⟨λi r h=>(hQ i r h).1,VM X G z_ValueError,VM X G z_abs,VM X G z_all,VM X G z_bool,VM X G z_dict,VM X G z_enumerate,VM X G z_int,VM X G z_isinstance,VM X G z_len,VM X G z_list,VM X G z_max,VM X G z_min,VM X G z_range,VM X G z_repr,VM X G z_str,VM X G z_tuple,VQ X G pV.ns,pV,VQ X G tj.ns,tj,VQ X G vY.ns,vY,VQ X G pU.ns,pU,VQ X G tf.ns,tf,VQ X G ku.i.ns,ku.i,VQ X G zL.ns,zL,VQ X G rE.i.ns,rE.i,VQ X G rB.i.ns,rB.i,VQ X G sZ.ns,sZ,ku,rE,rB,pq zb y4 yZ,?lr,wV yu yr yx yp gP,FJ (wV yu yr yx yp gP) Eb Ed (sQ wU (CO)),GD,pq za y0 yY,?fL,wV yt yq yw yo gP,FJ (wV yt yq yw yo gP) Ea Ec (sQ rH ( sQ oJ (CO))),GC,⟨wR,wW,wQ⟩,cx,eI,eG,?gK,?ka,?j9,?jH,?pF,?iI,?jh,?lq,?ot,?va,?j8,?gE,?jg,?u9,?ye,?rz⟩,rfl,D_law⟩
 case lr=>exact(pq (st:=jr) zb y4 yZ).binds λ_ _ _ _ _ _ us hl=>by obtain⟨_,_,rfl⟩:=Sw hl;rfl
 case fL=>exact(pq (st:=jq) za y0 yY).binds λ_ _ _ _ _ _ us hl=>by obtain⟨_,_,_,rfl⟩:=Sv hl;rfl
 case gK=>exact eL (VQ X G qo)
 case ka=>exact eL (VQ X G Jr)
 case j9=>exact eL (VQ X G Mq)
 case jH=>exact eL (VQ X G FI)
 case pF=>exact KG (VQ X G D9)
 case iI=>exact eL (VQ X G rA)
 case jh=>exact eL (VQ X G vp)
 case lq=>exact eL (VQ X G yn)
 case ot =>
  obtain⟨od,its,n,sl,vs,rfl,h1,h2,h3⟩:=FW;exact C2 (VQ X G FH) FQ h1 h2 h3
 case va=>exact eL (VQ X G OY)
 case j8=>exact eL (VQ X G Jq)
 case gE=>exact eL (VQ X G FG)
 case jg=>exact eL (VQ X G Mp)
 case u9=>exact eL (VQ X G Mo)
 case ye =>
  obtain⟨od,its,n,sl,vs,rfl,h1,h2,h3⟩:=JH;exact C2 (VQ X G Jp) JA h1 h2 h3
 case rz=>exact eL (VQ X G Jo)
def txt_wr{R:Adr->Prop}(h:∃t:Adr,Txt K mg t/\t.A 52=a/\R t):∃t:Adr,Txt K mg t/\mg "law"=some (.ref (t.A 52))/\R t:=h.elim λt ⟨T,_,r⟩=>⟨t,T,(T.g 52 _ rfl).g,r⟩
end K16
namespace Nwb
open PySem L2 DL Com Bor
def T6:mj (.tup [a,b,c,d,e]) none (some 0)=.ok (.tup []):=(fb (by rfl)).trans rfl
def T5:mj (.tup [a,b,c,d,e]) none (some 1)=.ok (.tup [a]):=(fb (by rfl)).trans rfl
def sl2:mj (.tup [a,b,c,d,e]) none (some 2)=.ok (.tup [a,b]):=(fb (by rfl)).trans rfl
def sl3:mj (.tup [a,b,c,d,e]) none (some 3)=.ok (.tup [a,b,c]):=(fb (by rfl)).trans rfl
def Sg:mj (.tup [a,b,c,d,e]) none (some 4)=.ok (.tup [a,b,c,d]):=(fb (by rfl)).trans rfl
def T8:mj (.tup [a,b,c,d,e]) (some 1) none=.ok (.tup [b,c,d,e]):=(fb (by rfl)).trans rfl
def T7:mj (.tup [a,b,c,d,e]) (some 2) none=.ok (.tup [c,d,e]):=(fb (by rfl)).trans rfl
def Sj:mj (.tup [a,b,c,d,e]) (some 3) none=.ok (.tup [d,e]):=(fb (by rfl)).trans rfl
def Si:mj (.tup [a,b,c,d,e]) (some 4) none=.ok (.tup [e]):=(fb (by rfl)).trans rfl
def Sh:mj (.tup [a,b,c,d,e]) (some 5) none=.ok (.tup []):=(fb (by rfl)).trans rfl
def Uo:wk (.tup []) (.tup es)=.ok (.tup es):=rfl
def IQ(h:decide ((d::ds).length+es.length<=1000)=true):wk (.tup (d::ds)) (.tup es)=.ok (.tup (d::ds++es)):=if_pos ⟨rfl,Va (of_decide_eq_true h) (by decide)⟩
def BZ(a:Uw)(h2:2<=zs.length)(nm:fO zs)(ho:o∈jy)(S:St st) :
  ∃d st',cT a st [.lst (zs.map D.str),o]=.ok (d,st')/\m_is_tie [d]=.ok (.bl false)/\Rp d 3000 2/\St st':=by
 obtain⟨n0,k0,j0⟩:=jM (zs:=zs) (k:=0) (by decide) (by omega);obtain⟨n1,k1,j1⟩:=jM (zs:=zs) (k:=1) (by decide) (by omega);have hn:n0≠n1:=kN nm.nd k0 k1 (by decide);have b0:=nm.nm n0 (UN k0);have b1:=nm.nm n1 (UN k1);have r0:=(fA b0).up (n':=500) (k':=1) (by decide) (by decide);have r1:=(fA b1).up (n':=500) (k':=1) (by decide) (by decide);have rwd:Rp (.str "one") 500 1:=(Rp.str (n:=3) (by decide +kernel) (by decide +kernel)).up (by decide) (by decide);have rl:Rp (.tup [.int 1,.int 1]) 500 1:=(Rp.tup (k:=0) (cL.cons (Rp.int (by decide)) (cL.cons (Rp.int (by decide)) cL.nil))).up (by simp) (UJ _);have rn:Rp .non 500 1:=Rp.non.up (by decide) (by decide);have five':∀{d0 d1 d2 d3 d4:D},Rp d0 500 1->Rp d1 500 1->Rp d2 500 1->Rp d3 500 1->Rp d4 500 1->Rp (.tup [d0,d1,d2,d3,d4]) 3000 2:=λh0 h1 h2 h3 h4=>(Rp.tup (cL.cons h0 (cL.cons h1 (cL.cons h2 (cL.cons h3 (cL.cons h4 cL.nil)))))).up (by simp) (UJ _);obtain⟨p,st1,t1,p0,p1,S1⟩:=bz a (n:=5) (by decide) (by decide) S;have hp:p=0∨p=1∨p=2∨p=3∨p=4:=by omega
 obtain⟨x5,k5,j5⟩:=gR (ds:=[.str n1,.str n0,.str "two",.tup [.int 2,.int 2],.tup [.int 0,.int 1]]) p0 (by simpa using p1);have pre:cT a st [.lst (zs.map D.str),o]=(Fn a [.pt a,.sh (.lst (zs.map D.str)),.sh o,.sh (.tup [.str n0,.str n1,.str "one",.tup [.int 1,.int 1],.non]),.sh (.int p),.sh x5] st1).bind yU:=by
  open_line with[cT,lD,j0,j1,t1,j5]
 rw[pre];clear pre;rcases hp with rfl|rfl|hp
 .obtain rfl:D.str n1=x5:=aj.ok.inj j5
  refine⟨.tup [.str n1,.str n1,.str "one",.tup [.int 1,.int 1],.non],st1,?_,yG b1,five' r1 r1 rwd (rl.up (by decide) (by decide)) (rn.up (by decide) (by decide)),S1⟩;open_line with[Fn,decide_eq_false (show ¬(0:Int) > 1 by decide),T6,T8,Uo,IQ,Int.reduceAdd]
 .obtain rfl:D.str n0=x5:=aj.ok.inj j5
  refine⟨.tup [.str n0,.str n0,.str "one",.tup [.int 1,.int 1],.non],st1,?_,yG b0,five' r0 r0 rwd (rl.up (by decide) (by decide)) (rn.up (by decide) (by decide)),S1⟩;open_line with[Fn,decide_eq_false (show ¬(1:Int) > 1 by decide),T5,T7,IQ,Int.reduceAdd]
 .have hg:decide (p > 1)=true:=decide_eq_true (by omega)
  have hq:∀base:D,base=.str "two"∨base=.tup [.int 2,.int 2]∨base=.tup [.int 0,.int 1]->∃v st2,aF a st1 [.int 2]=.ok (.int v,st2)/\((v==0)=false/\St st2/\gW base .non=.ok (.bl false)∨((v==0)=true/\∃k st3 x,aF a st2 [.int 4]=.ok (.int k,st3)/\St st3/\aW (.lst [o,.tup [.int (-1),.int 2],.tup [.bl true,.int 1],.lst [.int 1,.int 1]]) (.int k)=.ok x/\(x=.non∨x∈jI/\gW x .non=.ok (.bl false)))):=by
   intro base hb;obtain⟨v,st2,t2,v0,v1,S2⟩:=bz a (n:=2) (by decide) (by decide) S1;refine⟨v,st2,t2,?_⟩;cases hv:(v==0) with
   |false=>exact .inl ⟨rfl,S2,by rcases hb with rfl|rfl|rfl<;>rfl⟩
   |true =>
    obtain⟨k,st3,t3,q0,q1,S3⟩:=bz a (n:=4) (by decide) (by decide) S2;obtain⟨x,hx,jx⟩:=gR (ds:=[o,.tup [.int (-1),.int 2],.tup [.bl true,.int 1],.lst [.int 1,.int 1]]) q0 (by simpa using q1);refine .inr ⟨rfl,k,st3,x,t3,S3,jx,?_⟩;simp only[UG,U3,or_false] at hx;simp only[jy,UG,U3,or_false] at ho;rcases hx with rfl|rfl|rfl|rfl
    .rcases ho with rfl|rfl|rfl|rfl|rfl|rfl|rfl|rfl|rfl
     .exact .inl rfl
     all_goals exact .inr ⟨by simp [jI],rfl⟩
    all_goals exact .inr ⟨by simp [jI],rfl⟩
  have neg1:∀k:Int,-k=-k:=λ_=>rfl;rcases hp with rfl|rfl|rfl
  .obtain rfl:D.str "two"=x5:=aj.ok.inj j5
   obtain⟨v,st2,t2,h⟩:=hq (.str "two") (.inl rfl);rcases h with⟨hv,S2,hN⟩|⟨hv,k,st3,x,t3,S3,jx,rfl|⟨hb,hN⟩⟩
   .refine⟨.tup [.str n0,.str n1,.str "two",.tup [.int 1,.int 1],.non],st2,?_,rP b0 b1 hn (by simp),five' r0 r1 (kc _ (by simp)) rl rn,S2⟩
    open_line with[Fn,hg,t2,hv,hN,sl2,Sj,IQ,Int.reduceAdd]
   .refine⟨.tup [.str n0,.str n1,.str "x",.tup [.int 1,.int 1],.non],st3,?_,rP b0 b1 hn (by simp [jI]),five' r0 r1 (kc _ (by simp [jI])) rl rn,S3⟩
    open_line with[Fn,hg,t2,hv,t3,jx,sl2,Sj,IQ,Int.reduceAdd]
   .refine⟨.tup [.str n0,.str n1,x,.tup [.int 1,.int 1],.non],st3,?_,rP b0 b1 hn (UH _ hb),five' r0 r1 (kc _ (by simp [hb])) rl rn,S3⟩
    open_line with[Fn,hg,t2,hv,t3,jx,hN,sl2,Sj,IQ,Int.reduceAdd]
  .obtain rfl:D.tup [.int 2,.int 2]=x5:=aj.ok.inj j5
   obtain⟨v,st2,t2,h⟩:=hq (.tup [.int 2,.int 2]) (.inr (.inl rfl));rcases h with⟨hv,S2,hN⟩|⟨hv,k,st3,x,t3,S3,jx,rfl|⟨hb,hN⟩⟩
   .refine⟨.tup [.str n0,.str n1,.str "one",.tup [.int 2,.int 2],.non],st2,?_,mh b0 b1 hn (by simp),five' r0 r1 rwd (kc _ (by simp)) rn,S2⟩
    open_line with[Fn,hg,t2,hv,hN,sl3,Si,IQ,Int.reduceAdd]
   .refine⟨.tup [.str n0,.str n1,.str "one",.str "x",.non],st3,?_,mh b0 b1 hn (by simp [jI]),five' r0 r1 rwd (kc _ (by simp [jI])) rn,S3⟩
    open_line with[Fn,hg,t2,hv,t3,jx,sl3,Si,IQ,Int.reduceAdd]
   .refine⟨.tup [.str n0,.str n1,.str "one",x,.non],st3,?_,mh b0 b1 hn (UH _ hb),five' r0 r1 rwd (kc _ (by simp [hb])) rn,S3⟩
    open_line with[Fn,hg,t2,hv,t3,jx,hN,sl3,Si,IQ,Int.reduceAdd]
  .obtain rfl:D.tup [.int 0,.int 1]=x5:=aj.ok.inj j5
   obtain⟨v,st2,t2,h⟩:=hq (.tup [.int 0,.int 1]) (.inr (.inr rfl));rcases h with⟨hv,S2,hN⟩|⟨hv,k,st3,x,t3,S3,jx,rfl|⟨hb,hN⟩⟩
   .refine⟨.tup [.str n0,.str n1,.str "one",.tup [.int 1,.int 1],.tup [.int 0,.int 1]],st2,?_,oR b0 b1 hn (by simp),five' r0 r1 rwd rl (kc _ (by simp)),S2⟩
    open_line with[Fn,hg,t2,hv,hN,Sg,Sh,IQ,Int.reduceAdd,Vo]
   .refine⟨.tup [.str n0,.str n1,.str "one",.tup [.int 1,.int 1],.str "x"],st3,?_,oR b0 b1 hn (by simp [jI]),five' r0 r1 rwd rl (kc _ (by simp [jI])),S3⟩
    open_line with[Fn,hg,t2,hv,t3,jx,Sg,Sh,IQ,Int.reduceAdd,Vo]
   .refine⟨.tup [.str n0,.str n1,.str "one",.tup [.int 1,.int 1],x],st3,?_,oR b0 b1 hn (UH _ hb),five' r0 r1 rwd rl (kc _ (by simp [hb])),S3⟩
    open_line with[Fn,hg,t2,hv,t3,jx,hN,Sg,Sh,IQ,Int.reduceAdd,Vo]
def IB{k:Nat}(h:k<=xs.length):eP xs (some (k:Int)) none=xs.drop k:=by
 unfold eP;rw[HT.sIx_nat,HT.sIx_none,Nat.min_eq_left h];exact Y1 (by simp)
def Ko:∀o∈jy,m_look_at_web [o]=.exn (pw "web" .non):=by
 intro o ho;simp only[jy,UG,U3,or_false] at ho;rcases ho with rfl|rfl|rfl|rfl|rfl|rfl|rfl|rfl|rfl
 all_goals first|exact yD rfl|exact rN (by decide)
def G6:∀o∈jy,o=.lst []∨fP "list" o=.ok (.bl false):=by
 intro o ho;simp only[jy,UG,U3,or_false] at ho;rcases ho with rfl|rfl|rfl|rfl|rfl|rfl|rfl|rfl|rfl
 all_goals first|exact .inl rfl|exact .inr rfl
def Nh:∀o∈jy,(o=.lst []/\Iu o (.lst [])=.ok (.bl false))∨(fP "list" o=.ok (.bl false)/\Iu o (.lst [])=.ok (.bl true)):=by
 intro o ho;simp only[jy,UG,U3,or_false] at ho;rcases ho with rfl|rfl|rfl|rfl|rfl|rfl|rfl|rfl|rfl
 all_goals first|exact .inl ⟨rfl,rfl⟩|exact .inr ⟨rfl,rfl⟩
def zC(h:nameB z=true):KR (.str z)=true:=by
 unfold nameB at h;simp only[U4,decide_eq_true_eq] at h;exact decide_eq_true (Va h.2.1 (by decide))
def Kp(h:o∈jy):KR o=true:=(m7 o h).1
def xr(h:o∈jy)(e:o=.str z)(hz:nameB z=true):False:=by
 have:=(m7 o h).2;rw[e] at this;have h2:zD (.str z)=nameB z:=rfl;rw[h2,hz] at this;cases this
structure Ol (d:D):Prop where
 ex:∃p n,m_look_at_web [d]=.exn (pw p n)/\(n=.non∨∃k:Nat,n=.int (k:Int))
 rp:Rp d 200000 6
def o5(W:dX w)(h:∃n,m_look_at_places [P]=.exn (pw "places" n)/\(n=.non∨∃k:Nat,n=.int (k:Int))):∃p n,m_look_at_web [.tup [P,t,f,l]]=.exn (pw p n)/\(n=.non∨∃k:Nat,n=.int (k:Int)):=by
 obtain⟨n,h1,h2⟩:=h;exact⟨_,n,AS h1,h2⟩
def Gs(W:dX w):Rp (.lst (w.ps.map D.str)) 20000 5/\Rp (.lst (w.ts.map bq)) 20000 5/\Rp (.str w.fi) 20000 5/\Rp (.str w.la) 20000 5:=by
 refine⟨(yV W.n7 W.nm.nm).up (by decide) (by decide),?_,(fA (W.nm.nm _ W.fi)).up (by decide) (by decide),(fA (W.nm.nm _ W.la)).up (by decide) (by decide)⟩;have:=Rp.lst (cL.all (a:=1100) (k:=2) (ds:=w.ts.map bq) λd hd=>by
  obtain⟨t,ht,rfl⟩:=Vg.mp hd;exact wZ (W.ts t ht) W.nm.nm)
 rw[Uv] at this;have t14:=W.t14;exact this.up (by omega) (by decide)
def JY(h1:Rp p 20000 5)(h2:Rp t 20000 5)(h3:Rp f 20000 5)(h4:Rp l 20000 5):Rp (.tup [p,t,f,l]) 200000 6 :=
 (Rp.tup (cL.cons h1 (cL.cons h2 (cL.cons h3 (cL.cons h4 cL.nil))))).up (by simp) (UJ _)
def Gr(hl:ds.length<=8)(h:∀d∈ds,(∃z,d=.str z/\nameB z=true)∨d∈jy):Rp (.lst ds) 20000 5:=by
 have:=Rp.lst (cL.all (a:=200) (k:=1) (ds:=ds) λd hd=>by
  rcases h d hd with⟨z,rfl,hz⟩|ho
  .exact(fA hz).up (by decide) (by decide)
  .exact xq d ho)
 exact this.up (by omega) (by decide)
def cQ(h:(v==i)=false):aP (my (mT (ag (af 7) (dC (.int i)) gw)) s aT) t [e0,e1,e2,e3,e4,e5,e6,.sh (.int v),e8] st=t [e0,e1,e2,e3,e4,e5,e6,.sh (.int v),e8] st:=by
 open_line with[h]
def BY(a:Uw)(W:dX w)(S:St st) :
  ∃d st',cS a st [bp w]=.ok (d,st')/\Ol d/\St st':=by
 rw[show bp w=.tup [.lst (w.ps.map D.str),.lst (w.ts.map bq),.str w.fi,.str w.la] from rfl];have n2:=W.n2;have n7:=W.n7;have t14:=W.t14;obtain⟨R1,R2,R3,R4⟩:=Gs W;have pOk:=J8 W.n2 W.n7 W.nm;have tOk:=O3 W.t14 W.nm W.ts;have fOk:=jP (W.nm.nm w.fi W.fi) W.fi;have lOk:=jP (W.nm.nm w.la W.la) W.la;obtain⟨r,st1,t1,r0,r1,S1⟩:=bz a (n:=9) (by decide) (by decide) S;obtain⟨o,ho,jo⟩:=gR (ds:=[.non,.bl true,.int 5,.str "",.str "A",.str "abcdefghi",.lst [],.dic [] [],.tup [.str "a",.str "b"]]) r0 (by simpa using r1);have ho:o∈jy:=ho;have Ro:Rp o 20000 5:=(xq o ho).up (by decide) (by decide);obtain⟨v,st2,t2,v0,v1,S2⟩:=bz a (n:=8) (by decide) (by decide) S1;obtain⟨at_,st3,t3,a0,a1,S3⟩:=bz a (n:=(w.ps.length:Int)) (by omega) (by omega) S2;obtain⟨k,rfl⟩:=VE a0;have hk:k<w.ps.length:=by omega
 have hv:v=0∨v=1∨v=2∨v=3∨v=4∨v=5∨v=6∨v=7:=by omega
 have pre:cS a st [.tup [.lst (w.ps.map D.str),.lst (w.ts.map bq),.str w.fi,.str w.la]]=(II a [.pt a,.sh (.tup [.lst (w.ps.map D.str),.lst (w.ts.map bq),.str w.fi,.str w.la]),.sh (.lst (w.ps.map D.str)),.sh (.lst (w.ts.map bq)),.sh (.str w.fi),.sh (.str w.la),.sh o,.sh (.int v),.sh (.int (k:Int))] st3).bind yU:=by
  open_line with[cS,lC,Uv,t1,jo,t2,t3]
 rw[pre];clear pre;have hlP:(w.ps.map D.str).length=w.ps.length:=Uv ..;have hlT:(w.ts.map bq).length=w.ts.length:=Uv ..;rcases hv with rfl|rfl|rfl|rfl|rfl|rfl|rfl|rfl
 .obtain⟨q,st4,t4,q0,q1,S4⟩:=bz a (n:=4) (by decide) (by decide) S3
  obtain⟨d,hd,jd⟩:=gR (ds:=[o,.lst [.lst (w.ps.map D.str),.lst (w.ts.map bq),.str w.fi,.str w.la],.tup [.lst (w.ps.map D.str),.lst (w.ts.map bq),.str w.fi],.tup [.lst (w.ps.map D.str),.lst (w.ts.map bq),.str w.fi,.str w.la,.str w.la]]) q0 (by simpa using q1);refine⟨d,st4,?_,?_,S4⟩
  .have e1:Iv (.tup [.lst (w.ps.map D.str),.lst (w.ts.map bq),.str w.fi,.str w.la])=.ok (.lst [.lst (w.ps.map D.str),.lst (w.ts.map bq),.str w.fi,.str w.la]):=rfl
   have e2:mj (.tup [.lst (w.ps.map D.str),.lst (w.ts.map bq),.str w.fi,.str w.la]) none (some 3)=.ok (.tup [.lst (w.ps.map D.str),.lst (w.ts.map bq),.str w.fi]):=(fb (by rfl)).trans rfl;have e3:b9 (.tup [.lst (w.ps.map D.str),.lst (w.ts.map bq),.str w.fi,.str w.la]) (.tup [.str w.la])=.ok (.tup [.lst (w.ps.map D.str),.lst (w.ts.map bq),.str w.fi,.str w.la,.str w.la]):=(og (by rfl)).trans rfl;open_line with[II,Uv,t4,e1,e2,e3,jd]
  .simp only[UG,U3,or_false] at hd
   rcases hd with rfl|rfl|rfl|rfl
   .exact⟨⟨_,_,Ko d ho,.inl rfl⟩,(xq d ho).up (by decide) (by decide)⟩
   .exact⟨⟨_,_,yD rfl,.inl rfl⟩,(Rp.lst (cL.cons R1 (cL.cons R2 (cL.cons R3 (cL.cons R4 cL.nil))))).up (by simp) (UJ _)⟩
   .exact⟨⟨_,_,rN (by simp),.inl rfl⟩,(Rp.tup (cL.cons R1 (cL.cons R2 (cL.cons R3 cL.nil)))).up (by simp) (UJ _)⟩
   .exact⟨⟨_,_,rN (by simp),.inl rfl⟩,(Rp.tup (cL.cons R1 (cL.cons R2 (cL.cons R3 (cL.cons R4 (cL.cons R4 cL.nil)))))).up (by simp) (UJ _)⟩
 .have c1:eP (w.ps.map D.str) none (some (k:Int))=(w.ps.map D.str).take k:=uU (by omega)
  have c2:eP (w.ps.map D.str) (some ((k:Int)+1)) none=(w.ps.map D.str).drop (k+1):=IB (k:=k+1) (by omega);have hlk:((w.ps.map D.str).take k).length=k:=by rw[Vn];omega
  have e1:b9 (.lst ((w.ps.map D.str).take k)) (.lst [o])=.ok (.lst ((w.ps.map D.str).take k++[o])):=gr (decide_eq_true (by rw[hlk];simp;omega));have e2:b9 (.lst ((w.ps.map D.str).take k++[o])) (.lst ((w.ps.map D.str).drop (k+1)))=.ok (.lst ((w.ps.map D.str).take k++[o]++(w.ps.map D.str).drop (k+1))):=gr (decide_eq_true (by simp;omega));have hmem:∀d∈(w.ps.map D.str).take k++[o]++(w.ps.map D.str).drop (k+1),(∃z,d=.str z/\nameB z=true)∨d∈jy:=by
   intro d hd;rw[Vl,Vl] at hd;rcases hd with(hd|hd)|hd
   .obtain⟨z,hz,rfl⟩:=Vg.mp (Wd hd)
    exact .inl ⟨z,rfl,W.nm.nm z hz⟩
   .rw[Wk] at hd;subst hd;exact .inr ho
   .obtain⟨z,hz,rfl⟩:=Vg.mp (XZ hd)
    exact .inl ⟨z,rfl,W.nm.nm z hz⟩
  have hlen:((w.ps.map D.str).take k++[o]++(w.ps.map D.str).drop (k+1)).length=w.ps.length:=by simp;omega
  refine⟨.tup [.lst ((w.ps.map D.str).take k++[o]++(w.ps.map D.str).drop (k+1)),.lst (w.ts.map bq),.str w.fi,.str w.la],st3,?_,⟨?_,JY (Gr (by omega) hmem) R2 R3 R4⟩,S3⟩
  .rw[show II a _ _=N8 a _ _ from cQ rfl]
   open_line with[N8,Uv,c1,c2,e1,e2,Xr]
  .refine o5 W ?_
   rcases sD (ds:=(w.ps.map D.str).take k++[o]++(w.ps.map D.str).drop (k+1)) (λd hd=>by
    rcases hmem d hd with⟨z,rfl,hz⟩|h
    .exact zC hz
    .exact Kp h) (by omega) (by omega) with⟨zs,e,nm⟩|⟨j,_,h⟩
   .exfalso
    have:o∈zs.map D.str:=by rw[←e];simp
    obtain⟨z,hz,e'⟩:=Vg.mp this;exact xr ho e'.symm (nm.nm z hz)
   .exact⟨_,h,.inr ⟨j,rfl⟩⟩
 .obtain⟨z,hz,jz⟩:=jM (zs:=w.ps) (k:=(k:Int)) (by omega) (by omega)
  have hz:w.ps[k]?=some z:=by simpa using hz
  have e1:b9 (.lst (w.ps.map D.str)) (.lst [.str z])=.ok (.lst ((w.ps++[z]).map D.str)):=(gr (decide_eq_true (by simp;omega))).trans (by rw[V7];rfl);have hlen:((w.ps++[z]).map D.str).length=w.ps.length+1:=by simp
  have hmem:∀d∈(w.ps++[z]).map D.str,∃y,d=.str y/\nameB y=true:=by
   intro d hd;obtain⟨y,hy,rfl⟩:=Vg.mp hd;rw[Vl,Wk] at hy;rcases hy with hy|rfl
   .exact⟨y,rfl,W.nm.nm y hy⟩
   .exact⟨y,rfl,W.nm.nm y (UN hz)⟩
  refine⟨.tup [.lst ((w.ps++[z]).map D.str),.lst (w.ts.map bq),.str w.fi,.str w.la],st3,?_,⟨?_,JY (Gr (by omega) λd hd=>.inl (hmem d hd)) R2 R3 R4⟩,S3⟩
  .rw[show II a _ _=N7 a _ _ from(cQ rfl).trans (cQ rfl)]
   open_line with[N7,Uv,jz,e1]
  .refine o5 W ?_
   by_cases h7:w.ps.length+1<=7
   .rcases sD (ds:=(w.ps++[z]).map D.str) (λd hd=>by
     obtain⟨y,rfl,hy⟩:=hmem d hd;exact zC hy) (by omega) (by omega) with⟨zs,e,nm⟩|⟨j,_,h⟩
    .exfalso
     have e2:zs=w.ps++[z]:=by
      exact(List.map_inj_right (λa b h=>D.str.inj h)).mp e.symm
     have:=nm.nd;rw[e2,Yo] at this;exact this.2.2 z (UN hz) z (by simp) rfl
    .exact⟨_,h,.inr ⟨j,rfl⟩⟩
   .exact⟨_,kJ (.inr (by omega)),.inl rfl⟩
 .obtain⟨q,st4,t4,q0,q1,S4⟩:=bz a (n:=3) (by decide) (by decide) S3
  have c1:eP (w.ps.map D.str) none (some 1)=(w.ps.map D.str).take 1:=uU (k:=1) (by omega);obtain⟨d,hd,jd⟩:=gR (ds:=[.tup (w.ps.map D.str),.lst ((w.ps.map D.str).take 1),o]) q0 (by simpa using q1);have e1:mK (.lst (w.ps.map D.str))=.ok (.tup (w.ps.map D.str)):=rfl;have Rd:Rp d 20000 5/\∃n,m_look_at_places [d]=.exn (pw "places" n)/\(n=.non∨∃k:Nat,n=.int (k:Int)):=by
   simp only[UG,U3,or_false] at hd;rcases hd with rfl|rfl|rfl
   .refine⟨?_,_,pJ rfl,.inl rfl⟩
    have:=Rp.tup (cL.all (a:=82) (k:=0) (ds:=w.ps.map D.str) λd hd=>by
     obtain⟨z,hz,rfl⟩:=Vg.mp hd;exact fA (W.nm.nm z hz))
    rw[Uv] at this;exact this.up (by omega) (by decide)
   .refine⟨Gr (by simp;omega) λd hd=>?_,_,kJ (.inl (by simp;omega)),.inl rfl⟩
    obtain⟨z,hz,rfl⟩:=Vg.mp (Wd hd);exact .inl ⟨z,rfl,W.nm.nm z hz⟩
   .refine⟨Ro,?_⟩
    rcases G6 d ho with rfl|h
    .exact⟨_,kJ (.inl (by decide)),.inl rfl⟩
    .exact⟨_,pJ h,.inl rfl⟩
  refine⟨.tup [d,.lst (w.ts.map bq),.str w.fi,.str w.la],st4,?_,⟨o5 W Rd.2,JY Rd.1 R2 R3 R4⟩,S4⟩;rw[show II a _ _=N6 a _ _ from(cQ rfl).trans ((cQ rfl).trans (cQ rfl))];open_line with[N6,Uv,c1,e1,t4,jd]
 .have e1:mK (.lst (w.ts.map bq))=.ok (.tup (w.ts.map bq)):=rfl
  have Rt:Rp (.tup (w.ts.map bq)) 20000 5:=by
   have:=Rp.tup (cL.all (a:=1100) (k:=2) (ds:=w.ts.map bq) λd hd=>by
    obtain⟨t,ht,rfl⟩:=Vg.mp hd;exact wZ (W.ts t ht) W.nm.nm)
   rw[Uv] at this;exact this.up (by omega) (by decide)
  have i0:je (.bl false)=.ok (.int 0):=rfl;have i1:je (.bl true)=.ok (.int 1):=rfl;rcases Nh o ho with⟨eo,hn⟩|⟨hl,hn⟩
  .refine⟨.tup [.lst (w.ps.map D.str),.tup (w.ts.map bq),.str w.fi,.str w.la],st3,?_,⟨⟨_,_,mQ pOk (vJ rfl),.inl rfl⟩,JY R1 Rt R3 R4⟩,S3⟩
   rw[show II a _ _=IH a _ _ from(cQ rfl).trans ((cQ rfl).trans ((cQ rfl).trans (cQ rfl)))];open_line with[IH,Uv,e1,hn,i0,i1]
  .refine⟨.tup [.lst (w.ps.map D.str),o,.str w.fi,.str w.la],st3,?_,⟨⟨_,_,mQ pOk (vJ hl),.inl rfl⟩,JY R1 Ro R3 R4⟩,S3⟩
   rw[show II a _ _=IH a _ _ from(cQ rfl).trans ((cQ rfl).trans ((cQ rfl).trans (cQ rfl)))];open_line with[IH,Uv,e1,hn,i0,i1]
 .obtain⟨q,st4,t4,q0,q1,S4⟩:=bz a (n:=2) (by decide) (by decide) S3
  obtain⟨d,hd,jd⟩:=gR (ds:=[o,.str w.la]) q0 (by simpa using q1);refine⟨.tup [.lst (w.ps.map D.str),.lst (w.ts.map bq),d,.str w.la],st4,?_,?_,S4⟩
  .rw[show II a _ _=N5 a _ _ from(cQ rfl).trans ((cQ rfl).trans ((cQ rfl).trans ((cQ rfl).trans (cQ rfl))))]
   open_line with[N5,Uv,t4,jd]
  .simp only[UG,U3,or_false] at hd
   rcases hd with rfl|rfl
   .exact⟨⟨_,_,Eh pOk tOk (zg (G5 ho)),.inl rfl⟩,JY R1 R2 Ro R4⟩
   .exact⟨⟨_,_,yC pOk tOk lOk,.inl rfl⟩,JY R1 R2 R4 R4⟩
 .obtain⟨q,st4,t4,q0,q1,S4⟩:=bz a (n:=2) (by decide) (by decide) S3
  obtain⟨d,hd,jd⟩:=gR (ds:=[o,.str w.fi]) q0 (by simpa using q1);refine⟨.tup [.lst (w.ps.map D.str),.lst (w.ts.map bq),.str w.fi,d],st4,?_,?_,S4⟩
  .rw[show II a _ _=N4 a _ _ from(cQ rfl).trans ((cQ rfl).trans ((cQ rfl).trans ((cQ rfl).trans ((cQ rfl).trans (cQ rfl)))))]
   open_line with[N4,Uv,t4,jd]
  .simp only[UG,U3,or_false] at hd
   rcases hd with rfl|rfl
   .exact⟨⟨_,_,FV pOk tOk fOk (zg (G5 ho)),.inl rfl⟩,JY R1 R2 R3 Ro⟩
   .exact⟨⟨_,_,yC pOk tOk fOk,.inl rfl⟩,JY R1 R2 R3 R3⟩
 .obtain⟨q,st4,t4,q0,q1,S4⟩:=bz a (n:=(w.ts.length:Int)+1) (by omega) (by omega) S3
  obtain⟨j,rfl⟩:=VE q0;have hj:j<=w.ts.length:=by omega
  obtain⟨b,st5,t5,hb,Rb,S5⟩:=BZ a W.n2 W.nm ho S4;have c1:eP (w.ts.map bq) none (some (j:Int))=(w.ts.map bq).take j:=uU (by omega);have c2:eP (w.ts.map bq) (some (j:Int)) none=(w.ts.map bq).drop j:=IB (by omega);have e1:b9 (.lst ((w.ts.map bq).take j)) (.lst [b])=.ok (.lst ((w.ts.map bq).take j++[b])):=gr (decide_eq_true (by simp;omega));have e2:b9 (.lst ((w.ts.map bq).take j++[b])) (.lst ((w.ts.map bq).drop j))=.ok (.lst ((w.ts.map bq).take j++[b]++(w.ts.map bq).drop j)):=gr (decide_eq_true (by simp;omega));have hlen:((w.ts.map bq).take j++[b]++(w.ts.map bq).drop j).length=w.ts.length+1:=by simp;omega
  have hmem:∀d∈(w.ts.map bq).take j++[b]++(w.ts.map bq).drop j,D8 w.ps d∨d=b:=by
   intro d hd;rw[Vl,Vl] at hd;rcases hd with(hd|hd)|hd
   .obtain⟨t,ht,rfl⟩:=Vg.mp (Wd hd)
    exact .inl ⟨t,rfl,W.ts t ht⟩
   .rw[Wk] at hd;exact .inr hd
   .obtain⟨t,ht,rfl⟩:=Vg.mp (XZ hd)
    exact .inl ⟨t,rfl,W.ts t ht⟩
  have Rt:Rp (.lst ((w.ts.map bq).take j++[b]++(w.ts.map bq).drop j)) 50000 5:=by
   have:=Rp.lst (cL.all (a:=3000) (k:=2) (ds:=(w.ts.map bq).take j++[b]++(w.ts.map bq).drop j) λd hd=>by
    rcases hmem d hd with⟨t,rfl,ht⟩|rfl
    .exact(wZ ht W.nm.nm).up (by decide) (by decide)
    .exact Rb)
   rw[hlen] at this;exact this.up (by omega) (by decide)
  refine⟨.tup [.lst (w.ps.map D.str),.lst ((w.ts.map bq).take j++[b]++(w.ts.map bq).drop j),.str w.fi,.str w.la],st5,?_,⟨?_,(Rp.tup (cL.cons R1 (cL.cons Rt (cL.cons R3 (cL.cons R4 cL.nil))))).up (by simp) (UJ _)⟩,S5⟩
  .rw[show II a _ _=N3 a _ _ from(cQ rfl).trans ((cQ rfl).trans ((cQ rfl).trans ((cQ rfl).trans ((cQ rfl).trans ((cQ rfl).trans (cQ rfl))))))]
   open_line with[N3,Uv,t4,t5,c1,c2,e1,e2,Xr]
  .by_cases h14:w.ts.length+1<=14
   .rcases F1 (ds:=(w.ts.map bq).take j++[b]++(w.ts.map bq).drop j) W.nm (by omega) (λd hd=>by
     rcases hmem d hd with h|rfl
     .exact .inl h
     .exact .inr (.inl hb)) with h|⟨i,_,h⟩
    .exfalso
     obtain⟨t,e,ht⟩:=h b (by simp);rw[e,rQ W.nm ht] at hb;cases hb
    .exact⟨_,_,mQ pOk h,.inr ⟨i,rfl⟩⟩
   .exact⟨_,_,mQ pOk (En (by omega)),.inl rfl⟩
section
variable {f g:Ev->aj D}{ρ:Ev}{d:D}{m:List D->aj D}{fa:Ev->aj (List D)}{ds:List D}{hit:US->Bool}{ni:Nat}{sh:Ev->aj Fl}{x:Jn}{st:List D}
def BJ:qB f g ρ=(f ρ).bind (zM g ρ):=aL rfl
def xU:zM g ρ d=g ρ:=aL rfl
def Ie:Nx f g ρ=ER g ρ (f (fz ρ)):=aL rfl
def BL:ER g ρ (.ok (.bl true))=g ρ:=aL rfl
def BK:ER g ρ (.ok (.bl false))=.ok .non:=aL rfl
def xV:pY fa m ρ=tm m (fa ρ):=aL rfl
def uL:tm m (.ok ds)=m ds:=aL rfl
def BI:Gm g hit ni sh ρ=mU hit ni sh ρ (g ρ):=aL rfl
def xT(h:hit x.cls=true):mU hit ni sh ρ (.exn x)=(sh (ρ.set ni (.sh (lV x)))).bind (vx ni):=if_pos h
end
def QF:lV (pw p n)=.ob (.exf "NoWeb" ["part","number"]) [.str p,n]:=QG (by decide)
def SJ:lV ⟨c,[]⟩=.exc c:=rfl
def zT(h:tab "NoWeb"=some b):iF tab "part" (.ob (.exf "NoWeb" ["part","number"]) [x,y])=.ok x:=by
 unfold iF;simp only[h];rw[show pv "part" ["part","number"] [x,y]=some x by unfold pv;rw[if_pos rfl]]
def tK(h:tab "NoWeb"=some b):iF tab "number" (.ob (.exf "NoWeb" ["part","number"]) [x,y])=.ok y:=by
 unfold iF;simp only[h];rw[show pv "number" ["part","number"] [x,y]=some y by unfold pv;rw[if_neg (by decide)];unfold pv;rw[if_pos rfl]]
def Rn(n:D):Prop:=n=.non∨∃k:Nat,n=.int (k:Int)
def Gh(h:Rn n)(k:Nat):br k n=true:=by
 rcases h with rfl|⟨j,rfl⟩<;>cases k<;>rfl
end Nwb
namespace K12
open PySem L2 DL Com Bor K11
section
variable {f g:Ev->List D->aj (D×List D)}{ρ:Ev}{st:List D}
def em_not:Hk f ρ st=(f ρ st).bind Hj:=aL rfl
def em_not1:Hj (.bl b,st)=.ok (.bl (!b),st):=aL rfl
end
end K12
namespace K16
open PySem L2 DL Com Bor Nwb
abbrev vV:Jn:=⟨"NoTaking",[]⟩
def gh(W:dX w)(hp:∀d∈ds,Wex.plainD d=true)(h:Wex.takB w (-1) ds=false):aX [bp w,.lst ds]=.exn vV:=by
 have hl:=(Wex.tak_loop (w:=w) (L:=.sh (.lst ds)) ds (-1) .no hp).2 h;have hw:=Nwb.webX W;unfold Wex.takBody at hl;open_line with[aX,dI,hw,hl,bC]
def mW(W:dX w)(h:fP "list" d=.ok (.bl false)):aX [bp w,d]=.exn vV:=by
 have hw:=Nwb.webX W;open_line with[aX,dI,hw,h,bC,kU,jB]
def JO(W:dX w):aX [bp w,.lst []]=.ok .non:=by
 have hw:=Nwb.webX W;have hl:∀ρ,cB (b3 3) Wex.takBody [] ρ=.ok (.nx ρ):=λ_=>rfl;unfold Wex.takBody at hl;open_line with[aX,dI,hw,hl]
def KU(hx:br 40 x=true)(hy:br 40 y=true):∃b,gw x y=.ok (.bl b):=⟨_,by unfold gw;rw[if_pos ⟨hx,hy⟩]⟩
def Ak(hx:br 40 x=true∨x=.dic [] [])(hy:br 40 (.lst ys)=true):∃b,mL x (.lst ys)=.ok (.bl b):=by
 rcases hx with hx|rfl
 .cases x with
  |dic a b=>cases hx
  |_=>exact KU hx hy
 .exact⟨false,rfl⟩
def G(w:AO):List Nat:=(VG w.ts.length).filter λk=>ES w k
def U(w:AO):List Nat:=(VG w.ts.length).filter λk=>!(ES w k)
def HM:mL (dF ks) (dF ks)=.ok (.bl true):=Wex.nums_self
structure ql (w:AO) (d:D):Prop where
 ex:aX [bp w,d]=.exn vV
 rp:Rp d 20000 3
def Nl(W:dX w):ql w (.lst [.int 99]):=by
 have:=W.t14;refine⟨gh W (by simp [Wex.plainD]) (Wex.no_take_int (n:=99) (by simp) (.inr (.inl (by omega)))),?_⟩;exact(Rp.lst (k:=0) (cL.cons (Rp.int (by decide)) cL.nil)).up (by simp) (by decide)
def A7{ks:List Nat}:∀d∈ks.map (λ(k:Nat)=>D.int (k:Int)),Wex.plainD d=true:=λd hd=>by
 obtain⟨k,_,rfl⟩:=Vg.mp hd;rfl
def rY(h:ks.length<=14)(hk:∀k∈ks,k<20):Rp (dF ks) 20000 3/\Rp (.tup (ks.map λ(k:Nat)=>D.int (k:Int))) 20000 3:=by
 have r:=cL.all (a:=201) (k:=0) (ds:=ks.map λ(k:Nat)=>D.int (k:Int)) λd hd=>by
  obtain⟨k,h1,rfl⟩:=Vg.mp hd;exact Rp.int (WN (show((k:Int)).natAbs<20 by have:=hk k h1;omega) (by decide))
 rw[Uv] at r;exact⟨(Rp.lst r).up (by rw[Uv];omega) (by decide),(Rp.tup r).up (by rw[Uv];omega) (by decide)⟩
def Hy{k:Nat}(h:k∈G w):k<w.ts.length/\ES w k=true:=by
 unfold G at h;rw[XQ,Xa] at h;exact h
def vG{k:Nat}(h:k∈U w):k<w.ts.length/\ES w k=false:=by
 unfold U at h;rw[XQ,Xa] at h;exact⟨h.1,by simpa using h.2⟩
def KO:(G w).Pairwise (· < ·):=X9.filter _ Y2
def zQ:(G w).length<=w.ts.length:=Va (Y9 ..) (by simp)
def Ei:(U w).length<=w.ts.length:=Va (Y9 ..) (by simp)
def cc(ks:List Nat):List D:=ks.map λ(k:Nat)=>D.int (k:Int)
noncomputable def Ck(w:AO):List D:=[.non,.int 5,.dic [] [],.tup (cc (G w)),.lst [.bl true],.lst [.int (w.ts.length:Int)],.lst [.int (-1)],.lst [.str "0"],.lst [.non],.lst [.tup [.int 0]],.lst (cc ((U w).take 1)),.lst (eP (cc (U w)) (some (-1)) none),.lst (cc ((G w).take 2).reverse),.lst (cc ((G w).take 1++(G w).take 1))]
def g7:(cc ks).all (br n)=true:=Vc.mpr λd hd=>by
 obtain⟨k,_,rfl⟩:=Vg.mp hd;cases n<;>rfl
def rO(W:dX w)(hd:∀d∈ds,d∈cc (U w))(hl:ds.length<=14)(hne:ds≠[]):ql w (.lst ds):=by
 have hp:∀d∈ds,Wex.plainD d=true:=λd h=>A7 d (hd d h);refine⟨gh W hp ?_,?_⟩
 .cases ds with
  |nil=>exact absurd rfl hne
  |cons d r =>
   obtain⟨k,hk,rfl⟩:=Vg.mp (hd d U0);exact Wex.no_take_int (n:=(k:Int)) U0 (.inr (.inr (by rw[WE];exact(vG hk).2)))
 .have r:=cL.all (a:=201) (k:=0) (ds:=ds) λd h=>by
   obtain⟨k,h1,rfl⟩:=Vg.mp (hd d h);have:=(vG h1).1;have:=W.t14;exact Rp.int (WN (show((k:Int)).natAbs<20 by omega) (by decide))
  exact(Rp.lst r).up (by omega) (by decide)
def JW(W:dX w):∀x∈Ck w,(∃b1,mL x (.lst [])=.ok (.bl b1)/\∃b2,mL x (.lst (cc (G w)))=.ok (.bl b2)/\(b1=false->((G w).length=1->b2=false)->ql w x)):=by
 have t14:=W.t14;intro x hx;have hy1:br 40 (.lst [])=true:=rfl;have hy2:br 40 (.lst (cc (G w)))=true:=g7;have mk:∀{x:D},(br 40 x=true∨x=.dic [] [])->(∀b1 b2,mL x (.lst [])=.ok (.bl b1)->mL x (.lst (cc (G w)))=.ok (.bl b2)->b1=false->((G w).length=1->b2=false)->ql w x)->(∃b1,mL x (.lst [])=.ok (.bl b1)/\∃b2,mL x (.lst (cc (G w)))=.ok (.bl b2)/\(b1=false->((G w).length=1->b2=false)->ql w x)):=by
  intro x hs h;obtain⟨b1,e1⟩:=Ak hs hy1;obtain⟨b2,e2⟩:=Ak hs hy2;exact⟨b1,e1,b2,e2,h b1 b2 e1 e2⟩
 simp only[Ck,UG,U3,or_false] at hx;have gl:=zQ (w:=w);have rg:∀k∈G w,k<20:=λk hk=>by have:=(Hy hk).1;omega
 have empty:∀{b:Bool},mL (.lst []) (.lst [])=.ok (.bl b)->b=false->False:=by
  intro b h e;subst e;cases h
 rcases hx with rfl|rfl|rfl|rfl|rfl|rfl|rfl|rfl|rfl|rfl|rfl|rfl|rfl|rfl
 .exact mk (.inl rfl) λ_ _ _ _ _ _=>⟨mW W rfl,Rp.non.up (by decide) (by decide)⟩
 .exact mk (.inl rfl) λ_ _ _ _ _ _=>⟨mW W rfl,(Rp.int (by decide)).up (by decide) (by decide)⟩
 .exact mk (.inr rfl) λ_ _ _ _ _ _=>⟨mW W rfl,(Rp.emp (k:=0)).up (by decide) (by decide)⟩
 .exact mk (.inl g7) λ_ _ _ _ _ _=>⟨mW W rfl,(rY (by omega) rg).2⟩
 .exact mk (.inl rfl) λ_ _ _ _ _ _=>⟨gh W (by simp [Wex.plainD]) (Wex.no_take_odd (d:=.bl true) (by simp) (λ_ e=>nomatch e)),(Rp.lst (k:=0) (cL.cons Rp.bl cL.nil)).up (by simp) (by decide)⟩
 .exact mk (.inl rfl) λ_ _ _ _ _ _=>⟨gh W (by simp [Wex.plainD]) (Wex.no_take_int (n:=(w.ts.length:Int)) (by simp) (.inr (.inl (Int.le_refl _)))),(rY (ks:=[w.ts.length]) (by simp) (by simp;omega)).1⟩
 .exact mk (.inl rfl) λ_ _ _ _ _ _=>⟨gh W (by simp [Wex.plainD]) (Wex.no_take_int (n:=-1) (by simp) (.inl (by decide))),(Rp.lst (k:=0) (cL.cons (Rp.int (by decide)) cL.nil)).up (by simp) (by decide)⟩
 .exact mk (.inl rfl) λ_ _ _ _ _ _=>⟨gh W (by simp [Wex.plainD]) (Wex.no_take_odd (d:=.str "0") (by simp) (λ_ e=>nomatch e)),(Rp.lst (k:=0) (cL.cons (Rp.str (n:=1) (by decide +kernel) (by decide +kernel)) cL.nil)).up (by simp) (by decide)⟩
 .exact mk (.inl rfl) λ_ _ _ _ _ _=>⟨gh W (by simp [Wex.plainD]) (Wex.no_take_odd (d:=.non) (by simp) (λ_ e=>nomatch e)),(Rp.lst (k:=0) (cL.cons Rp.non cL.nil)).up (by simp) (by decide)⟩
 .exact mk (.inl rfl) λ_ _ _ _ _ _=>⟨gh W (by simp [Wex.plainD]) (Wex.no_take_odd (d:=.tup [.int 0]) (by simp) (λ_ e=>nomatch e)),(Rp.lst (k:=1) (cL.cons (Rp.tup (k:=0) (cL.cons (Rp.int (by decide)) cL.nil)) cL.nil)).up (by simp) (by decide)⟩
 .refine mk (.inl g7) λb1 _ e1 _ h1 _=>rO W (λd hd=>?_) (by unfold cc;simp;omega) λe=>?_
  .unfold cc at hd ⊢;rw[X8] at hd;exact Wd hd
  .rw[e] at e1;exact empty e1 h1
 .have hm:∀d∈eP (cc (U w)) (some (-1)) none,d∈cc (U w):=λd hd=>K11.cut_mem d hd
  refine mk (.inl ?_) λb1 _ e1 _ h1 _=>rO W hm ?_ λe=>?_
  .show(eP (cc (U w)) (some (-1)) none).all (br 39)=true
   exact Vc.mpr λd hd=>Vc.mp (g7 (ks:=U w)) d (hm d hd)
  .have h1:=Lf (xs:=cc (U w)) (lo:=some (-1)) (hi:=none)
   have h2:(cc (U w)).length=(U w).length:=by unfold cc;simp
   have h3:=Ei (w:=w);omega
  .rw[e] at e1;exact empty e1 h1
 .refine mk (.inl g7) λb1 b2 e1 e2 h1 h2=>?_
  have hup:=KO (w:=w);have hg:∀k∈G w,k<20:=rg
  match hG:G w with
  |[]=>rw[hG] at e1;exact(empty e1 h1).elim
  |[k] =>
   rw[hG] at e2 h2;have:=h2 rfl;subst this;have e3:mL (.lst (cc [k])) (.lst (cc [k]))=.ok (.bl true):=HM (ks:=[k]);have e2:mL (.lst (cc [k])) (.lst (cc [k]))=.ok (.bl false):=e2;rw[e3] at e2;cases e2
  |k::j::r =>
   rw[hG] at hup hg;have hkj:k<j:=(Xm.mp hup).1 j (by simp);show ql w (.lst [.int (j:Int),.int (k:Int)]);refine⟨gh W (by simp [Wex.plainD]) (Wex.no_take λns e hp _=>?_),(rY (ks:=[j,k]) (by simp) (by intro z hz;simp at hz;rcases hz with rfl|rfl;exact hg z (by simp);exact hg z (by simp))).1⟩
   match ns,e with
   |[a,b],e =>
    simp only[UW,Wc,Xk,D.int.injEq,and_true] at e;have:=(Xm.mp hp).1 b (by simp);omega
   |[],e=>cases e
   |[a],e=>simp at e
   |a::b::c::r,e=>simp at e
 .refine mk (.inl g7) λb1 b2 e1 e2 h1 h2=>?_
  have hg:∀k∈G w,k<20:=rg
  match hG:G w with
  |[]=>rw[hG] at e1;exact(empty e1 h1).elim
  |k::r =>
   rw[hG] at hg;show ql w (.lst [.int (k:Int),.int (k:Int)]);refine⟨gh W (by simp [Wex.plainD]) (Wex.no_take λns e hp _=>?_),(rY (ks:=[k,k]) (by simp) (by intro z hz;simp at hz;subst hz;exact hg z (by simp))).1⟩
   match ns,e with
   |[a,b],e =>
    simp only[UW,Wc,Xk,D.int.injEq,and_true] at e;have:=(Xm.mp hp).1 b (by simp);omega
   |[],e=>cases e
   |[a],e=>simp at e
   |a::b::c::r,e=>simp at e
def MG{l h:Option Int}(e1:f ρ=.ok (.lst ds))(e2:lo ρ=.ok l)(e3:hi ρ=.ok h):lX f lo hi ρ=.ok (.lst (eP ds l h)):=by
 unfold lX;simp only[aj.bind,e1,e2,e3]
def Sk(hl:ds.length<=20):Ax (.lst ds) (.int 2)=.ok (.lst (ds++ds)):=by
 have h:(UK (Int.toNat 2) ds).flatten=ds++ds:=by simp [UK]
 rw[←h];exact if_pos ⟨Va (Nat.mul_le_mul_right 2 hl) (by decide),by decide,by decide⟩
def B1(a:Uw)(W:dX w)(S:St st):∃d st',cf a st [bp w]=.ok (d,st')/\ql w d/\St st':=by
 have t14:=W.t14;have gl:=zQ (w:=w);have i1:aW (bp w) (.int 1)=.ok (.lst (w.ts.map bq)):=rfl;have hlen:dw (.lst (w.ts.map bq))=.ok (.int w.ts.length):=by rw[eM,Uv]
 have hsrc:=Wex.srcR1_nat (k:=w.ts.length) (by omega);have c1:oq 1 [1] (b3 0) (ag (ag (ag (ag (af 1) (dC (.int 1)) aW) (af 0) aW) (dC (.int 4)) aW) (dC (.non)) fR) (af 0) [.pt a,.sh (bp w),.no,.no,.no,.no] (DL.intsFrom 0 w.ts.length)=.ok (.lst (cc (G w))) :=
  Wex.comp_rng (by omega) λk hk=>by
   obtain⟨t,_,hW,hix⟩:=Wex.isW_at hk;refine⟨[.sh (.int (k:Int)),.sh (bp w)],rfl,?_,λ_=>rfl⟩;rw[show bp w=.tup [.lst (w.ps.map D.str),.lst (w.ts.map bq),.str w.fi,.str w.la] from rfl,hW];cases ho:t.o with
   |none=>rw[ho] at hix;open_line with[hix,dN];rfl
   |some v=>rw[ho] at hix;open_line with[hix,dN,fr,KQ];rfl
 have c2:∀d2:D,oq 1 [1] (b3 0) (ag (ag (ag (ag (af 1) (dC (.int 1)) aW) (af 0) aW) (dC (.int 4)) aW) (dC (.non)) gW) (af 0) [.pt a,.sh (bp w),.sh d2,.no,.no,.no] (DL.intsFrom 0 w.ts.length)=.ok (.lst (cc (U w))):=λd2 =>
  Wex.comp_rng (by omega) λk hk=>by
   obtain⟨t,_,hW,hix⟩:=Wex.isW_at hk;refine⟨[.sh (.int (k:Int)),.sh (bp w)],rfl,?_,λ_=>rfl⟩;rw[show bp w=.tup [.lst (w.ps.map D.str),.lst (w.ts.map bq),.str w.fi,.str w.la] from rfl,hW];cases ho:t.o with
   |none=>rw[ho] at hix;open_line with[hix,dN];rfl
   |some v=>rw[ho] at hix;open_line with[hix,dN,fr,KQ];rfl
 obtain⟨r,st1,t1,r0,r1,S1⟩:=bz a (n:=14) (by decide) (by decide) S;obtain⟨x,hx,jx⟩:=gR (ds:=Ck w) r0 (by show r<14;exact r1);obtain⟨b1,e1,b2,e2,hb⟩:=JW W x hx;have hneg:oo (.int 1)=.ok (.int (-1)):=rfl;have e3:mK (.lst (cc (G w)))=.ok (.tup (cc (G w))):=rfl;have hU:(cc (U w)).length=(U w).length:=by unfold cc;simp
 have hG:(cc (G w)).length=(G w).length:=by unfold cc;simp
 have s1:eP (cc (U w)) none (some 1)=cc ((U w).take 1):=by
  by_cases h:1<=(U w).length
  .have:=uU (xs:=cc (U w)) (k:=1) (by omega);rw[show(some (1:Int))=some ((1:Nat):Int) from rfl,this];unfold cc;rw[X8]
  .have:U w=[]:=VX.mp (by omega)
   rw[this];rfl
 have sx:∀k:Nat,eP (cc (G w)) none (some (k:Int))=cc ((G w).take k):=by
  intro k;unfold eP;rw[HT.sIx_none,HT.sIx_nat,Wl,W9,hG];unfold cc;rw[←X8,show List.take (min k (G w).length) (G w)=List.take k (G w) from List.take_eq_take_iff.mpr (by omega)]
 have s2:eP (cc (G w)) none (some 2)=cc ((G w).take 2):=sx 2;have s3:eP (cc (G w)) none (some 1)=cc ((G w).take 1):=sx 1;have e4:NS (.lst (cc ((G w).take 2)))=.ok (.lst (cc ((G w).take 2).reverse)):=by
  show aj.ok (D.lst _)=_;unfold cc;rw[List.map_reverse]
 have e5:lX (af 2) de (cX (dC (.int 1))) [.pt a,.sh (bp w),.sh (.lst (cc (G w))),.sh (.lst (cc (U w))),.sh (.lst [.non,.int 5,.dic [] [],.tup (cc (G w)),.lst [.bl true],.lst [.int (w.ts.length:Int)],.lst [.int (-1)],.lst [.str "0"],.lst [.non],.lst [.tup [.int 0]]]),.no]=.ok (.lst (cc ((G w).take 1))):=by
  rw[←s3];exact MG rfl rfl rfl
 have e5':Ax (.lst (cc ((G w).take 1))) (.int 2)=.ok (.lst (cc ((G w).take 1++(G w).take 1))):=by
  have hl:(cc ((G w).take 1)).length<=20:=by unfold cc;simp;omega
  refine(Sk hl).trans ?_;unfold cc;rw[V7]
 have e6:b9 (.lst [.non,.int 5,.dic [] [],.tup (cc (G w)),.lst [.bl true],.lst [.int (w.ts.length:Int)],.lst [.int (-1)],.lst [.str "0"],.lst [.non],.lst [.tup [.int 0]]]) (.lst [.lst (cc ((U w).take 1)),.lst (eP (cc (U w)) (some (-1)) none),.lst (cc ((G w).take 2).reverse),.lst (cc ((G w).take 1++(G w).take 1))])=.ok (.lst (Ck w)):=rfl;have hlg:dw (.lst (cc (G w)))=.ok (.int (G w).length):=by rw[eM,hG]
 cases hb1:b1 with
 |true =>
  rw[hb1] at e1;refine⟨.lst [.int 99],st1,?_,Nl W,S1⟩;open_line with[cf,dj,iW,Wex.ev_srcR1,i1,hlen,hsrc,c1,c2,e3,hneg,s1,s2,e4,e5,e5',e6,t1,jx,e1]
 |false =>
  rw[hb1] at e1;cases hg:((((G w).length:Nat):Int)==1) with
  |false =>
   refine⟨x,st1,?_,hb hb1 (λh=>by rw[h] at hg;cases hg),S1⟩;open_line with[cf,dj,iW,Wex.ev_srcR1,i1,hlen,hsrc,c1,c2,e3,hneg,s1,s2,e4,e5,e5',e6,t1,jx,e1,hlg,hg]
  |true =>
   cases hb2:b2 with
   |true =>
    rw[hb2] at e2;refine⟨.lst [.int 99],st1,?_,Nl W,S1⟩;open_line with[cf,dj,iW,Wex.ev_srcR1,i1,hlen,hsrc,c1,c2,e3,hneg,s1,s2,e4,e5,e5',e6,t1,jx,e1,hlg,hg,e2]
   |false =>
    rw[hb2] at e2;refine⟨x,st1,?_,hb hb1 (λ_=>hb2),S1⟩;open_line with[cf,dj,iW,Wex.ev_srcR1,i1,hlen,hsrc,c1,c2,e3,hneg,s1,s2,e4,e5,e5',e6,t1,jx,e1,hlg,hg,e2]
section
variable {d t o:D}{x:Jn}
def BW(h:aX [d,t]=.exn x):cO [d,t,o]=.exn x/\gk [d,t,o]=.exn x/\iS [d,t]=.exn x:=by
 refine⟨?_,?_,?_⟩
 .open_line with[cO,jj,h,bC]
 .open_line with[gk,md,h,bC]
 .open_line with[iS,qh,h,bC]
def N1(h:m_look_at_web [d]=.exn x):aX [d,t]=.exn x/\fq [d,o]=.exn x/\fk [d,o]=.exn x:=by
 have h1:∀t,aX [d,t]=.exn x:=λt=>by open_line with[aX,dI,h,bC]
 have h2:=(BW (o:=o) (h1 (.lst []))).1;refine⟨h1 t,?_,?_⟩
 .open_line with[fq,lz,h2,bC]
 .open_line with[fk,lu,h,bC]
def N2(W:dX w)(h:m_walk_way [bp w,.lst [],o]=.exn x):cO [bp w,.lst [],o]=.exn x/\fq [bp w,o]=.exn x/\fk [bp w,o]=.exn x:=by
 have h1:=JO W;have hw:=Nwb.webX W;have h2:cO [bp w,.lst [],o]=.exn x:=by open_line with[cO,jj,h1,h,bC]
 refine⟨h2,?_,?_⟩
 .open_line with[fq,lz,h2,bC]
 .open_line with[fk,lu,hw,h,bC]
end
def SD:mU (l9 fW) ni sh ρ (.exn (pw p n))=(sh (ρ.set ni (.sh (.ob (.exf "NoWeb" ["part","number"]) [.str p,n])))).bind (vx ni):=by
 rw[xT (x:=pw p n) rfl,QF]
def SE:mU (l9 fW) ni sh ρ (.exn vV)=(sh (ρ.set ni (.sh (.exc "NoTaking")))).bind (vx ni):=by
 rw[xT (x:=vV) rfl,SJ]
def SA:mU (l9 fW) ni sh ρ (.exn (K11.noWay v))=(sh (ρ.set ni (.sh (.ob (.exf "NoWay" ["at"]) [v])))).bind (vx ni):=by
 rw[xT (x:=K11.noWay v) rfl,show lV (K11.noWay v)=.ob (.exf "NoWay" ["at"]) [v] from QH]
def Eg(h:m_look_at_web [d]=.exn (pw p q)){k:Int}(hk:k=0∨k=1∨k=2∨k=3∨k=4):bM [.int k,d,t,o]=.ok (.lst [.bl true,.bl false,.bl false,.bl false,.tup [.str p,q]]):=by
 obtain⟨h0,h3,h4⟩:=N1 (t:=t) (o:=o) h;obtain⟨h0,h1,h2⟩:=BW (o:=o) h0;have x1:∀e:D,eD yM (.ob (.exf "NoWeb" ["part","number"]) [.str p,e])=.ok (.bl true):=λ_=>gp rfl;have x2:∀e:D,eD yL (.ob (.exf "NoWeb" ["part","number"]) [.str p,e])=.ok (.bl false):=λ_=>gp rfl;have x3:∀e:D,eD yK (.ob (.exf "NoWeb" ["part","number"]) [.str p,e])=.ok (.bl false):=λ_=>gp rfl;have x4:∀e:D,eD yJ (.ob (.exf "NoWeb" ["part","number"]) [.str p,e])=.ok (.bl true):=λ_=>gp rfl;have x5:∀e:D,eD yI (.ob (.exf "NoWeb" ["part","number"]) [.str p,e])=.ok (.bl false):=λ_=>gp rfl;have f1:∀e:D,iF nh "part" (.ob (.exf "NoWeb" ["part","number"]) [.str p,e])=.ok (.str p):=λ_=>zT (b:=true) rfl;have f2:∀e:D,iF jA "number" (.ob (.exf "NoWeb" ["part","number"]) [.str p,e])=.ok e:=λ_=>tK (b:=true) rfl;have hN:∀e:D,gW (.ob (.exf "NoWeb" ["part","number"]) [.str p,e]) .non=.ok (.bl false):=λ_=>rfl;rcases hk with rfl|rfl|rfl|rfl|rfl <;>
  open_line with[bM,gY,BJ,xU,Ie,BL,BK,xV,uL,BI,h0,h1,h2,h3,h4,bC,SD,xH,hN,x1,x2,x3,x4,x5,f1,f2]
def Ef(h:aX [bp w,t]=.exn vV){k:Int}(hk:k=0∨k=1∨k=2):bM [.int k,bp w,t,o]=.ok (.lst [.bl false,.bl true,.bl false,.bl false]):=by
 obtain⟨h0,h1,h2⟩:=BW (o:=o) h;have x1:eD yM (.exc "NoTaking")=.ok (.bl true):=uv rfl;have x2:eD yL (.exc "NoTaking")=.ok (.bl false):=uv rfl;have x3:eD yK (.exc "NoTaking")=.ok (.bl true):=uv rfl;have x4:eD yJ (.exc "NoTaking")=.ok (.bl false):=uv rfl;have x5:eD yI (.exc "NoTaking")=.ok (.bl false):=uv rfl;have hN:gW (.exc "NoTaking") .non=.ok (.bl false):=rfl;rcases hk with rfl|rfl|rfl <;>
  open_line with[bM,gY,BJ,xU,Ie,BL,BK,xV,uL,BI,h0,h1,h2,bC,SE,xH,hN,x1,x2,x3,x4,x5]
def vF(W:dX w)(h:m_walk_way [bp w,.lst [],o]=.exn (K11.noWay v)){k:Int}(hk:k=0∨k=3∨k=4):bM [.int k,bp w,.lst [],o]=.ok (.lst [.bl false,.bl false,.bl true,.bl false]):=by
 obtain⟨h0,h3,h4⟩:=N2 W h;have x1:eD yM (.ob (.exf "NoWay" ["at"]) [v])=.ok (.bl true):=gp rfl;have x2:eD yL (.ob (.exf "NoWay" ["at"]) [v])=.ok (.bl true):=gp rfl;have x3:eD yK (.ob (.exf "NoWay" ["at"]) [v])=.ok (.bl false):=gp rfl;have x4:eD yJ (.ob (.exf "NoWay" ["at"]) [v])=.ok (.bl false):=gp rfl;have x5:eD yI (.ob (.exf "NoWay" ["at"]) [v])=.ok (.bl false):=gp rfl;have hN:gW (.ob (.exf "NoWay" ["at"]) [v]) .non=.ok (.bl false):=rfl;rcases hk with rfl|rfl|rfl <;>
  open_line with[bM,gY,BJ,xU,Ie,BL,BK,xV,uL,BI,h0,h3,h4,bC,SA,xH,hN,x1,x2,x3,x4,x5]
def BC(h:m_look_at_web [d]=.exn (pw p q)):d8 [d]=.ok (.tup [.str p,q]):=by
 have f1:∀e:D,iF nh "part" (.ob (.exf "NoWeb" ["part","number"]) [.str p,e])=.ok (.str p):=λ_=>zT (b:=true) rfl;have f2:∀e:D,iF jA "number" (.ob (.exf "NoWeb" ["part","number"]) [.str p,e])=.ok e:=λ_=>tK (b:=true) rfl;have ht:∀(ni:Nat) (sh:Ev->aj Fl) (ρ:Ev),Mx (l9 qT) ni sh ρ (.exn (pw p q))=(sh (ρ.set ni (.sh (.ob (.exf "NoWeb" ["part","number"]) [.str p,q])))).bind (vx ni):=λ_ _ _=>by
  rw[KS (x:=pw p q) rfl,QF]
 open_line with[d8,i7,NC,K12.ef_dropC,K12.ef_dropC1 h,ht,xH,f1,f2]
def Q7(W:dX w):K11.m_place_behind [bp w,.lst [],.lst [.str w.fi],.int 99]=.ok .non:=by
 have t14:=W.t14;have i3:aW (bp w) (.int 3)=.ok (.str w.la):=rfl;have hneg:oo (.int 1)=.ok (.int (-1)):=rfl;have hlast:aW (.lst [.str w.fi]) (.int (-1))=.ok (.str w.fi):=rfl;have hne:(w.fi==w.la)=false:=beq_eq_false_iff_ne.mpr W.ne;have hno:m_is_tie_number [bp w,.int 99]=.ok (.bl false):=by
  refine Wex.number_int.trans ?_;rw[decide_eq_false (show ¬(99:Int)<(w.ts.length:Int) by omega),X2]
 open_line with[K11.m_place_behind,K11.b_place_behind,i3,hneg,hlast,gu,hne,hno]
def O1(W:dX w):m_walk_way [bp w,.lst [],.lst [.int 99]]=.exn (K11.noWay (.int 0)):=by
 have i2:aW (bp w) (.int 2)=.ok (.str w.fi):=rfl;have hb:=Q7 W;have hs:vq (af 2) [.sh (bp w),.sh (.lst []),.sh (.lst [.int 99]),.ow (.lst [.str w.fi]),.no,.no,.no]=.ok [.tup [.int 0,.int 99]]:=rfl;have hg:i9 [4,5] [.sh (bp w),.sh (.lst []),.sh (.lst [.int 99]),.ow (.lst [.str w.fi]),.no,.no,.no] (.tup [.int 0,.int 99])=.ok [.sh (bp w),.sh (.lst []),.sh (.lst [.int 99]),.ow (.lst [.str w.fi]),.sh (.int 0),.sh (.int 99),.no]:=nX rfl;have hbd:(aA (rW 6 (ao (ae (af 0) (ae (af 1) (ae (af 3) (ae (af 5) az)))) K11.m_place_behind))
 (aA (e7 (ag (af 6) (dC (.non)) gW)
 (aA (dA "NoWay" ["at"] (ae (af 4) az))
 av)
 av)
 (aA (c8 3 (af 6))
 av))) [.sh (bp w),.sh (.lst []),.sh (.lst [.int 99]),.ow (.lst [.str w.fi]),.sh (.int 0),.sh (.int 99),.no]=.exn (K11.noWay (.int 0)):=by
  have e1:∀(f:Ev->aj D) (ρ:Ev),rW 6 f ρ=(f (fz ρ)).bind λd=>if nq d=true then .ok (.nx (ρ.set 6 (.sh d))) else .stuck:=λ_ _=>aL rfl
  have e2:nq .non=true:=rfl;open_line with[e1,hb,e2,if_true,bY,uc,bC,K11.noWay]
 have hl:∀X:Ev->aj Fl,X [.sh (bp w),.sh (.lst []),.sh (.lst [.int 99]),.ow (.lst [.str w.fi]),.sh (.int 0),.sh (.int 99),.no]=.exn (K11.noWay (.int 0))->cB (i9 [4,5]) X [.tup [.int 0,.int 99]] [.sh (bp w),.sh (.lst []),.sh (.lst [.int 99]),.ow (.lst [.str w.fi]),.no,.no,.no]=.exn (K11.noWay (.int 0)):=by
  intro X h;unfold cB;rw[hg,iw,h,bC]
 have hf:=hl _ hbd;have hn:DL.numbered 0 [D.int 99]=[.tup [.int 0,.int 99]]:=rfl;open_line with[K11.m_walk_way,K11.b_walk_way,i2,hn,hf,bC]
def RM:m_walk_way [bp w,.lst [],.non]=.exn (K11.noWay .non):=by
 open_line with[K11.m_walk_way,K11.b_walk_way,bY,uc,bC,K11.noWay]
noncomputable abbrev iB:Ev->List D->aj cZ :=
 (aP (my (mT (ag (ao (ae (af 9) (ae (af 4) (ae (af 10) (ae (af 6) az)))) bM) (af 8) jc))
 (aP (di (dC (.bl false)))
 aT)
 aT)
 aT)
noncomputable abbrev oB:Ev->List D->aj cZ :=
 (aP (iT (m8 (kE (ao (ae (af 2) (ae (af 5) az)) bJ))) (b3 10)
 iB)
 aT)
noncomputable abbrev tB:Ev->List D->aj cZ :=
 (aP (my (mT (ag (ao (ae (af 9) (ae (af 1) (ae (af 5) (ae (af 6) az)))) bM) (ao (ae (dC (.bl false)) (ae (dC (.bl true)) (ae (dC (.bl false)) (ae (dC (.bl false)) az)))) bJ) jc))
 (aP (di (dC (.bl false)))
 aT)
 aT)
 aT)
noncomputable abbrev yB:Ev->List D->aj cZ :=
 (aP (my (mT (ag (ao (ae (af 9) (ae (af 1) (ae (ao az bJ) (ae (ao (ae (dC (.int 99)) az) bJ) az)))) bM) (ao (ae (dC (.bl false)) (ae (dC (.bl false)) (ae (dC (.bl true)) (ae (dC (.bl false)) az)))) bJ) jc))
 (aP (di (dC (.bl false)))
 aT)
 aT)
 (aP (my (mT (ag (ao (ae (af 9) (ae (af 1) (ae (ao az bJ) (ae (dC (.non)) az)))) bM) (ao (ae (dC (.bl false)) (ae (dC (.bl false)) (ae (dC (.bl true)) (ae (dC (.bl false)) az)))) bJ) jc))
 (aP (di (dC (.bl false)))
 aT)
 aT)
 aT))
def Kt(h:br 40 x=true):jc x x=.ok (.bl false):=by
 unfold jc;rw[if_pos ⟨h,h⟩,k8 40 _ h];rfl
section
variable {a:Uw}{w:AO}{d t n o:D}{p:US}{q:D}{z:US}{y:Sl}{st:List D}
def SO(h:m_look_at_web [d]=.exn (pw p q))(hq:Rn q){k:Int}(hk:k=0∨k=1∨k=2∨k=3∨k=4) :
  oB [.pt a,.sh (bp w),.sh t,x3,.sh d,.sh n,.sh o,.sh (.str z),.sh (.lst [.bl true,.bl false,.bl false,.bl false,.tup [.str p,q]]),.sh (.int k),y] st=.ok (.nx [.pt a,.sh (bp w),.sh t,x3,.sh d,.sh n,.sh o,.sh (.str z),.sh (.lst [.bl true,.bl false,.bl false,.bl false,.tup [.str p,q]]),.sh (.int k),.sh n] st):=by
 have h3:jc (.lst [.bl true,.bl false,.bl false,.bl false,.tup [.str p,q]]) (.lst [.bl true,.bl false,.bl false,.bl false,.tup [.str p,q]])=.ok (.bl false):=Kt (by
  show(true&&(true&&(true&&(true&&((true&&(br 38 q&&true))&&true)))))=true;rw[Gh hq];rfl)
 have one:∀x:D,iB [.pt a,.sh (bp w),.sh t,x3,.sh d,.sh n,.sh o,.sh (.str z),.sh (.lst [.bl true,.bl false,.bl false,.bl false,.tup [.str p,q]]),.sh (.int k),.sh x] st=.ok (.nx [.pt a,.sh (bp w),.sh t,x3,.sh d,.sh n,.sh o,.sh (.str z),.sh (.lst [.bl true,.bl false,.bl false,.bl false,.tup [.str p,q]]),.sh (.int k),.sh x] st):=by
  intro x;have h1:=Eg (t:=x) (o:=o) h hk;open_line with[h1,h3]
 have g1:∀(v:D) (y:Sl),b3 10 [.pt a,.sh (bp w),.sh t,x3,.sh d,.sh n,.sh o,.sh (.str z),.sh (.lst [.bl true,.bl false,.bl false,.bl false,.tup [.str p,q]]),.sh (.int k),y] v=.ok [.pt a,.sh (bp w),.sh t,x3,.sh d,.sh n,.sh o,.sh (.str z),.sh (.lst [.bl true,.bl false,.bl false,.bl false,.tup [.str p,q]]),.sh (.int k),.sh v]:=λ_ _=>rfl;have l1:DL.forM (b3 10) iB [t,n] [.pt a,.sh (bp w),.sh t,x3,.sh d,.sh n,.sh o,.sh (.str z),.sh (.lst [.bl true,.bl false,.bl false,.bl false,.tup [.str p,q]]),.sh (.int k),y] st=.ok (.nx [.pt a,.sh (bp w),.sh t,x3,.sh d,.sh n,.sh o,.sh (.str z),.sh (.lst [.bl true,.bl false,.bl false,.bl false,.tup [.str p,q]]),.sh (.int k),.sh n] st):=by
  rw[Ia,g1,iw,HZ,one,iw,HY,Ia,g1,iw,HZ,one,iw,HY,NF]
 have hs:kE (ao (ae (af 2) (ae (af 5) az)) bJ) [.pt a,.sh (bp w),.sh t,x3,.sh d,.sh n,.sh o,.sh (.str z),.sh (.lst [.bl true,.bl false,.bl false,.bl false,.tup [.str p,q]]),.sh (.int k),y]=.ok [t,n]:=rfl;rw[show oB=(aP (iT (m8 (kE (ao (ae (af 2) (ae (af 5) az)) bJ))) (b3 10) iB) aT) from rfl];rw[BG,BH,BF,hs,iw,xP,iw,xS,l1,iw,xQ,xR]
end
def Gv(a:Uw)(W:dX w)(T:Mk w ks)(hwy:way.length<=7)(hwk:∀k∈way,k<w.ts.length)(S:St st):∃st',fG a st [bp w,dF ks,.lst (K11.nums way)]=.ok (.bl true,st')/\St st':=by
 have t14:=W.t14;obtain⟨d,st1,t1,⟨⟨p,q,hx,hq⟩,hrp⟩,S1⟩:=BY a W S;obtain⟨n,st2,t2,⟨hn,hnr⟩,S2⟩:=B1 a W S1;obtain⟨r,st3,t3,r0,r1,S3⟩:=bz a (n:=4) (by decide) (by decide) S2;obtain⟨o,ho,jo⟩:=gR (ds:=[.lst (K11.nums way),.non,.lst [.int 99],.int 5]) r0 (by simpa using r1);have hor:Rp o 20000 3:=by
  simp only[UG,U3,or_false] at ho;rcases ho with rfl|rfl|rfl|rfl
  .exact(rY (ks:=way) (by omega) λk hk=>by have:=hwk k hk;omega).1
  .exact Rp.non.up (by decide) (by decide)
  .exact(Nl W).rp
  .exact(Rp.int (by decide)).up (by decide) (by decide)
 obtain⟨z,hz⟩:∃z,uT (.lst [d,n,bp w,o])=.ok (.str z):=Rp.repr ((Rp.lst (cL.cons hrp (cL.cons (hnr.up (n':=200000) (k':=6) (by decide) (by decide)) (cL.cons ((MP W).up (n':=200000) (by decide) (by decide)) (cL.cons (hor.up (n':=200000) (k':=6) (by decide) (by decide)) cL.nil))))).up (n':=900000) (by simp) (UJ _)) (by decide) (by decide);have hf:=BC hx;have hs5:∀ρ,eS (dC (.int 5)) ρ=.ok (intsFrom 0 5):=λ_=>rfl;have hs3:∀ρ,eS (dC (.int 3)) ρ=.ok (intsFrom 0 3):=λ_=>rfl;have hs034:∀ρ:Ev,kE (ao (ae (dC (.int 0)) (ae (dC (.int 3)) (ae (dC (.int 4)) az))) bJ) ρ=.ok [.int 0,.int 3,.int 4]:=λ_=>rfl;obtain⟨ρ3,st4,l3,⟨y9,y10,rfl⟩,S4⟩:=iu (tg:=b3 9) (body:=oB) (λ_ ρ st=>(∃y9 y10,ρ=[.pt a,.sh (bp w),.sh (dF ks),.sh (.lst (K11.nums way)),.sh d,.sh n,.sh o,.sh (.str z),.sh (.lst [.bl true,.bl false,.bl false,.bl false,.tup [.str p,q]]),y9,y10])/\St st) (intsFrom 0 5) (by
  rintro j v ρ st hv ⟨⟨y9,y10,rfl⟩,S⟩;obtain⟨k,rfl,hk⟩:∃k:Int,v=.int k/\(k=0∨k=1∨k=2∨k=3∨k=4):=by
   have h3:j<5:=(UA.mp hv).1;have:j=0∨j=1∨j=2∨j=3∨j=4:=by omega
   rcases this with rfl|rfl|rfl|rfl|rfl
   .exact⟨0,(U9 hv).symm,by decide⟩
   .exact⟨1,(U9 hv).symm,by decide⟩
   .exact⟨2,(U9 hv).symm,by decide⟩
   .exact⟨3,(U9 hv).symm,by decide⟩
   .exact⟨4,(U9 hv).symm,by decide⟩
  exact⟨_,_,st,rfl,.inl (SO hx hq hk),⟨_,_,rfl⟩,S⟩) 0 [.pt a,.sh (bp w),.sh (dF ks),.sh (.lst (K11.nums way)),.sh d,.sh n,.sh o,.sh (.str z),.sh (.lst [.bl true,.bl false,.bl false,.bl false,.tup [.str p,q]]),.no,.no] st3 (V6 _) ⟨⟨_,_,rfl⟩,S3⟩
 obtain⟨ρ4,st5,l4,⟨y9',rfl⟩,S5⟩:=iu (tg:=b3 9) (body:=tB) (λ_ ρ st=>(∃y9,ρ=[.pt a,.sh (bp w),.sh (dF ks),.sh (.lst (K11.nums way)),.sh d,.sh n,.sh o,.sh (.str z),.sh (.lst [.bl true,.bl false,.bl false,.bl false,.tup [.str p,q]]),y9,y10])/\St st) (intsFrom 0 3) (by
  rintro j v ρ st hv ⟨⟨y9,rfl⟩,S⟩;obtain⟨k,rfl,hk⟩:∃k:Int,v=.int k/\(k=0∨k=1∨k=2):=by
   have h3:j<3:=(UA.mp hv).1;have:j=0∨j=1∨j=2:=by omega
   rcases this with rfl|rfl|rfl
   .exact⟨0,(U9 hv).symm,by decide⟩
   .exact⟨1,(U9 hv).symm,by decide⟩
   .exact⟨2,(U9 hv).symm,by decide⟩
  have h1:=Ef (o:=o) hn hk;have h2:jc (.lst [.bl false,.bl true,.bl false,.bl false]) (.lst [.bl false,.bl true,.bl false,.bl false])=.ok (.bl false):=rfl;have e:tB [.pt a,.sh (bp w),.sh (dF ks),.sh (.lst (K11.nums way)),.sh d,.sh n,.sh o,.sh (.str z),.sh (.lst [.bl true,.bl false,.bl false,.bl false,.tup [.str p,q]]),.sh (.int k),y10] st=.ok (.nx [.pt a,.sh (bp w),.sh (dF ks),.sh (.lst (K11.nums way)),.sh d,.sh n,.sh o,.sh (.str z),.sh (.lst [.bl true,.bl false,.bl false,.bl false,.tup [.str p,q]]),.sh (.int k),y10] st):=by
   open_line with[h1,h2]
  exact⟨_,_,st,rfl,.inl e,⟨_,rfl⟩,S⟩) 0 [.pt a,.sh (bp w),.sh (dF ks),.sh (.lst (K11.nums way)),.sh d,.sh n,.sh o,.sh (.str z),.sh (.lst [.bl true,.bl false,.bl false,.bl false,.tup [.str p,q]]),y9,y10] st4 (V6 _) ⟨⟨_,rfl⟩,S4⟩
 have w99:=O1 W;have wN:=RM (w:=w);obtain⟨ρ5,st6,l5,⟨y9'',rfl⟩,S6⟩:=iu (tg:=b3 9) (body:=yB) (λ_ ρ st=>(∃y9,ρ=[.pt a,.sh (bp w),.sh (dF ks),.sh (.lst (K11.nums way)),.sh d,.sh n,.sh o,.sh (.str z),.sh (.lst [.bl true,.bl false,.bl false,.bl false,.tup [.str p,q]]),y9,y10])/\St st) [.int 0,.int 3,.int 4] (by
  rintro j v ρ st hv ⟨⟨y9,rfl⟩,S⟩;obtain⟨k,rfl,hk⟩:∃k:Int,v=.int k/\(k=0∨k=3∨k=4):=by
   have h3:j<3:=(UA.mp hv).1;have:j=0∨j=1∨j=2:=by omega
   rcases this with rfl|rfl|rfl
   .exact⟨0,(U9 hv).symm,by decide⟩
   .exact⟨3,(U9 hv).symm,by decide⟩
   .exact⟨4,(U9 hv).symm,by decide⟩
  have h1:=vF W w99 hk;have h3:=vF W wN hk;have h2:jc (.lst [.bl false,.bl false,.bl true,.bl false]) (.lst [.bl false,.bl false,.bl true,.bl false])=.ok (.bl false):=rfl;have e:yB [.pt a,.sh (bp w),.sh (dF ks),.sh (.lst (K11.nums way)),.sh d,.sh n,.sh o,.sh (.str z),.sh (.lst [.bl true,.bl false,.bl false,.bl false,.tup [.str p,q]]),.sh (.int k),y10] st=.ok (.nx [.pt a,.sh (bp w),.sh (dF ks),.sh (.lst (K11.nums way)),.sh d,.sh n,.sh o,.sh (.str z),.sh (.lst [.bl true,.bl false,.bl false,.bl false,.tup [.str p,q]]),.sh (.int k),y10] st):=by
   open_line with[h1,h2,h3]
  exact⟨_,_,st,rfl,.inl e,⟨_,rfl⟩,S⟩) 0 [.pt a,.sh (bp w),.sh (dF ks),.sh (.lst (K11.nums way)),.sh d,.sh n,.sh o,.sh (.str z),.sh (.lst [.bl true,.bl false,.bl false,.bl false,.tup [.str p,q]]),y9',y10] st5 (V6 _) ⟨⟨_,rfl⟩,S5⟩
 rw[Wl] at l3 l4 l5;refine⟨st6,?_,S6⟩;have hez:gw (.str z) (.str z)=.ok (.bl true):=by rw[gu,beq_self_eq_true]
 open_line with[fG,ou,t1,t2,t3,jo,hz,hf,hs5,l3,hs3,l4,hs034,l5,hez]
noncomputable abbrev lB:Uw->Ev->List D->aj cZ:=λa =>
 (aP (my (Hk (bx 2 a (aR (mP (af 3)) (aR (mP (af 4)) (aR (mP (af 5)) bV))) fG))
 (aP (di (dC (.bl false)))
 aT)
 aT)
 aT)
noncomputable abbrev CL(a:Uw):Ev->List D->aj cZ :=
 (aP (dH 3 (bx 2 a (aR (mP (dC (.int 7))) (aR (mP (dC (.int 14))) bV)) dm))
 (aP (dH 4 (bx 2 a (aR (mP (af 3)) (aR (mB (mP (dC (.int 2))) (bx 2 a (aR (mP (dC (.int 6))) bV) aF) b9) bV)) dr))
 (aP (dH 5 (bx 2 a (aR (mP (af 3)) (aR (mP (af 4)) bV)) cP))
 (aP (iT (m8 (eS (dC (.int 4)))) (b3 6)
 (lB a))
 aT))))
def F0(a:Uw)(S:St st):∃d3 d4 d5 y6 st',CL a [.sh d0,.sh d1,.pt a,.no,.no,.no,.no] st=.ok (.nx [.sh d0,.sh d1,.pt a,.sh d3,.sh d4,.sh d5,y6] st'):=by
 obtain⟨w,st1,t1,W,S1⟩:=Bor.web_ok a (p:=7) (q:=14) ⟨by decide,by decide⟩ (by decide) S;obtain⟨r,st2,t2,r0,r1,S2⟩:=bz a (n:=6) (by decide) (by decide) S1;obtain⟨ks,st3,t3,T,S3⟩:=Bor.taking_ok a W (r:=2+r) ⟨by omega,by omega⟩ S2;obtain⟨way,st4,t4,hl,hk,S4⟩:=K11.walked_ok a W (ks:=ks) S3;obtain⟨ρ2,st5,hf,⟨y6,rfl⟩,_⟩:=iu (tg:=b3 6) (body:=lB a) (λ_ ρ st=>(∃y6,ρ=[.sh d0,.sh d1,.pt a,.sh (bp w),.sh (dF ks),.sh (.lst (K11.nums way)),y6])/\St st) (intsFrom 0 4) (by
  rintro j d ρ st hd ⟨⟨y6,rfl⟩,S⟩;obtain⟨st',e,S'⟩:=Gv a W T hl hk S;have h:lB a [.sh d0,.sh d1,.pt a,.sh (bp w),.sh (dF ks),.sh (.lst (K11.nums way)),.sh d] st=.ok (.nx [.sh d0,.sh d1,.pt a,.sh (bp w),.sh (dF ks),.sh (.lst (K11.nums way)),.sh d] st'):=by
   open_line with[e,K12.em_not,K12.em_not1]
  exact⟨_,_,st',rfl,.inl h,⟨_,rfl⟩,S'⟩) 0 [.sh d0,.sh d1,.pt a,.sh (bp w),.sh (dF ks),.sh (.lst (K11.nums way)),.no] st4 (V6 _) ⟨⟨_,rfl⟩,S4⟩
 rw[Wl] at hf;have hs:∀ρ,eS (dC (.int 4)) ρ=.ok (intsFrom 0 4):=λ_=>rfl;refine⟨bp w,dF ks,.lst (K11.nums way),y6,st5,?_⟩;have t1:dm a st [.int 7,.int 14]=.ok (bp w,st1):=t1;open_line with[t1,t2,t3,t4,hs,hf]
def Hl(ns:List Int)(hn:ns.length<=63):m_law [.lst (ns.map D.int)]=.ok (.bl true):=by
 obtain⟨q,m,hm,h1,hq⟩:∃(q:Int) (m:Nat),m<=12/\Lb (.int ns.length) (.int 12)=.ok (.int q)/\(if q > 1 then q else 1)=(m:Int):=by
  have h1:Lb (.int ns.length) (.int 12)=.ok (.int (if(12:Int)<ns.length then 12 else ns.length)):=rfl;refine⟨_,(if(if(12:Int)<ns.length then 12 else(ns.length:Int)) > 1 then(if(12:Int)<ns.length then 12 else(ns.length:Int)) else 1).toNat,?_,h1,?_⟩
  .split<;>split<;>omega
  .split<;>split<;>omega
 have hstep:∀k,k<m->∀ρ:Ev,(∃s,ρ=[.sh (.lst (ns.map D.int)),s,.no,.no,.no,.no,.no]) ->
   ∃ρ2,(mn 2 (ao (ae (af 0) (ae (af 1) az)) cA) λa=>CL a) (ρ.set 1 (.sh (.int (k:Int))))=.ok (.nx ρ2)/\∃s,ρ2=[.sh (.lst (ns.map D.int)),s,.no,.no,.no,.no,.no]:=by
  rintro k hk ρ ⟨s,rfl⟩;obtain⟨st,hb,S⟩:=IK ns k (by omega) hn;refine⟨[.sh (.lst (ns.map D.int)),.sh (.int (k:Int)),.no,.no,.no,.no,.no],?_,_,rfl⟩;have h1:(ao (ae (af 0) (ae (af 1) az)) cA) [.sh (.lst (ns.map D.int)),.sh (.int (k:Int)),.no,.no,.no,.no,.no]=.ok (.lst st):=by
   open_line with[hb]
  show mn 2 _ _ [.sh (.lst (ns.map D.int)),.sh (.int (k:Int)),.no,.no,.no,.no,.no]=_;unfold mn;rw[h1,iw];unfold xO;show(if _ then _ else _)=_;rw[if_pos ⟨rfl,(by show 2<7;decide)⟩];refine Ky λa=>?_;obtain⟨d3,d4,d5,y6,st',e⟩:=F0 a (d0:=.lst (ns.map D.int)) (d1:=.int (k:Int)) S;show Dk 2 (CL a [.sh (.lst (ns.map D.int)),.sh (.int (k:Int)),.pt a,.no,.no,.no,.no] st)=_;rw[e];rfl
 obtain⟨ρ',hf,s,rfl⟩:=xF (i:=1) (body:=(mn 2 (ao (ae (af 0) (ae (af 1) az)) cA) λa=>CL a)) (λ_ ρ=>∃s,ρ=[.sh (.lst (ns.map D.int)),s,.no,.no,.no,.no,.no]) (n:=m) hstep (ρ:=[.sh (.lst (ns.map D.int)),.no,.no,.no,.no,.no,.no]) ⟨.no,rfl⟩;have hfr:=λs:Ev->aj Fl=>nk (tg:=b3 1) (s:=s) (ρ:=[.sh (.lst (ns.map D.int)),.no,.no,.no,.no,.no,.no]) (k:=m) (by omega);unfold m_law Mj;open_line with[Uv,h1,hq,hfr,hf]
end K16
namespace K16
open PySem L2 DL
def sp_law(K:Ut)(H:Hp)(a:Uw)(ns:List Int)(hl:ns.length<=63)(hS:eX K H a (ns.map V.int)):spD K 1 m_law [.ref a] H (λv _=>v=.bl true) λ_ _ _=>False:=by
 refine⟨rfl,H,[.lst (ns.map D.int)],aG.refl _,Reps.cons (aI.mpr ⟨a,_,rfl,hS,wJ ns⟩) Reps.nil,?_⟩;rw[Hl ns hl];exact λv H' Ha' _ r=>aK.mp r
end K16
structure PySem.W.Fast:Prop where(tw11513179267121021377 tw15878307800841523238 tw155393393598087659 tw7741291923645673731 tw13533168302454441188 tw2761205078780901021 tw18039305859731233465 tw600837111679375216 tw1329805602318442066 tw16415713836527005326 tw1792297903097035580 tw3235593626106136743 tw7347430507357184989 tw2805091119093322311 tw6682219760953022611 tw4167781554212681859 tw1655415175540563978 tw14479929447502457636 tw16873855392953639113 tw13846129733168182820 tw2598095769244826515 tw1670552028393215367 tw13577809164766457991 tw11183145344282904563 tw9083232561278664288 tw5091217019961870846 tw1766851486966511697 tw7621272881042661709 tw6225861529981727957 tw3373223267942829487 tw18033553266448203916 tw12973830711340285378 tw3670900574418197781 tw4688659716394947516 tw12968157089213887778 tw8323484874014768221 tw8214595932640533509 tw8544366033810629790 tw18234641313938896561 tw15681204632530150735 tw11468133939027704709 tw1906028044584206022 tw17522262884073424238 tw9919340618051070105 tw6106126731304076836 tw17882644930290413080 tw10605757679351030253 tw17973318370313658116 tw10671176443869046329 tw8022325042673015092 tw1925871187442428519 tw17316249974033200420 tw1807888415353147001 tw7477772116288628495 tw16054711447039719698 tw3673831712002612999 tw3972823579895418995 tw7463357641634300461 tw15237592099407056743 tw17683628475437565230 tw36617818701129828 tw9845803737350106188 tw15370025697961388661 tw1876364067721399412 tw13061595665248931778 tw14405711490166366608 tw11696068653225279695 tw12031624609625248247 tw8014452441349590171 tw2694135710415021074 tw3105987697639505365 tw11102104540327582875 tw11946899328541231767 tw7712931194281420335 tw6837079432126327781 tw11058251885875337 tw16639932392526225465 tw3207578523941147655 tw649650316529621056 tw16736307156796711155 tw8180158808425020618 tw3895105228180721127 tw13974720414875992174 tw9990385449054052384 tw6159412298879302148 tw8486167464953179003 tw7959860420783944660 tw7486208026963031181 tw15794071512110224344 tw10552538417603801973 tw4534615010729845685 tw265322298502211744 tw9823341404231801011 tw13685136933451639430 tw6836667795270615975 tw12731337807395509291 tw5339450045243819576 tw3222730975403308262 tw9537865109380860635 tw13305338697388139207 tw776340228573714350 tw8373635018972561462 tw12436106941212474373 tw16033732837004724357 tw16500737962128238790 tw12354154038616268993 tw5299086575261921561 tw3405169455566411594 tw5800837949969734684 tw9169922538176878742 tw4066996180741978356 tw9926611241008532516 tw10274307236702732866 tw9549400943571564604 tw6081619960294744850 tw9754127617863075460 tw8839147490918691653 tw8762854496201925785 tw14369275531571195605 tw10604001878861717287 tw4217530585545828805 tw958376459792552103 tw3533941835891108839 tw14766501780936358239 tw7843720493810107292 tw17197350644751781202 tw14592331104481167698 tw7355970445502075440 tw16185611579267918237 tw5945577437249232410 tw3691480900328745893 tw16898115198769590976 tw3451820811436926425 tw15069029976982349821 tw11914128561002502352 tw15870193215597943392 tw11147462453362028600 tw7596240738108851653 tw10149144359989313366 tw6924228244926118345 tw16040632970071636570 tw4107955404377123592 tw11931444489804899744 tw7868830383433136709 tw12536937269965131922 tw3989528624932190169 tw2635608463434402651 tw15543261485935180327 tw13327678609009090031 tw16153559223639786311 tw2132339290103938755 tw7887495020485485374 tw17097744165934219353 tw10728047127409098637 tw9497312147466859723 tw1857106462854377670 tw17736716152440220950 tw14295755481362206690 tw6244968863579021949 tw14079187731262403638 tw12245743290961954588 tw13765990495308403044 tw4798540206560868439 tw15119105535161596450 tw747021471073972547 tw2567773466251080485 tw8085751213467281413 tw10267561763392449476 tw14220654036768618576 tw1082342354252861719 tw14971341901545229781 tw18095016956914728283 tw1484666660262746684 tw1056453016827019682 tw15253007445392721130 tw10133145579034576336 tw4546345820144914267 tw8456429375341575480 tw9306358722437453473 tw11059454869153727261 tw18430387654143491161 tw5000820408140564675 tw1379689448024671273 tw7121239830934555501 tw9440639889653979615 tw18354982139066170919 tw14768468438308429518 tw240342964844310826 tw5512269494011286026 tw9389088730740638038 tw3427203529274707738 tw15704656628908607555 tw8449357318723206808 tw13564459633454592030 tw17608107482706045243 tw14104418727590523333 tw9692773677263009474 tw10132948939191547011 tw17442777988419812035 tw4451942686766504404 tw6906413792219116370 tw10635634540320596635 tw1414793478130194393 tw17018578074164596674 tw1436790575114269092 tw3732399044294926519 tw10833953341977043082 tw12632292309019342001 tw6546918947981171893 tw14249778806391065350 tw13191245993056545540 tw10857378516236373541 tw155049078137507515 tw12457610451796191474 tw10958164654333161955 tw3120667889674645588 tw7459524431655090397 tw13236992769908109872 tw12761348598918000853 tw4282586410010997860 tw5371301797212390990 tw6107638457238251017 tw726730266530210726 tw4288096826996538039 tw3972935824714815852 tw5178673529214031368 tw10136130817655287368 tw14089951160747375908 tw12145479502517278383 tw2928306729867175648 tw10650098767232070939 tw3852377222182858035 tw8012150813961858243 tw12634979279304339741 tw4791036200000123358 tw8219464150961027686 tw5506430350428457502 tw6127637554368348597 tw12807474179581803737 tw11658631617655256076 tw12176196278784356981 tw14730130123765114911 tw1920725161355092798 tw7765065742477494089 tw4898514582715457047 tw2830761079220604215 tw3817802446781720556 tw12128721673355243810 tw2310306400385727453 tw15434597422009830501 tw15910028835089513624 tw12133558327801230021 tw9587302436595364858 tw11185807630064012292 tw3165146070664436688 tw17117199591189116654 tw14487237174509150242 tw11325710904475433630 tw11798904904986488009 tw6691696338498982693 tw8430292041355680854 tw10003248777102941131 tw12962951978526339665 tw15294505971163269674 tw14722280918616965183 tw17071781327955579060 tw3936097303709522476 tw6831046340384015306 tw1209009774705470099 tw1873735510000651353 tw13150195694909044106 tw10195599750040945780 tw9355471941087920909 tw12959052050265483725 tw14949322895093001132 tw12414870191328578668 tw5439226988180004771 tw13160278546986778958 tw6046093436212568056 tw11964739019259502283 tw13052528342779631284 tw11246641819340966692 tw744202365982159009 tw12721794645762712782 tw4955695709871694053 tw13333319995313697116 tw1343433020475922461 tw6049915859345970652 tw13681782899526242232:True)
open PySem PySem.W PyProof.Rows
set_option maxRecDepth 100000 in
set_option maxHeartbeats 0 in
theorem PySem.Challenge.cw_farthestcut_k16_no_webs_and_takings_holds : PySem.Challenge.rw_farthestcut_k16_no_webs_and_takings.Holds := by
 w_on;o_law;k_head;(case hw=>w_witness2)
 k_fill
 refine L2.walk_ofK (l:=PySem.Challenge.rw_farthestcut_k16_no_webs_and_takings) (n:=63) (k:=12) (x:="_law_script") (CX:=L2.CX0) (sp:=fun K=>DL.spD K 1 K16.m_law) ?I rfl (by decide) rfl ⟨rfl,by decide,by decide,rfl⟩ (fun w h Y=>W.kIn_of Y) ?F ?S ?C
 case S=>exact fun K H a ns hl _ hS=>K16.sp_law K H a ns hl hS
 case C=>exact fun _ _ _ _ h=>h
 case I=>rfl
 case F =>
  intro w mg fa h KX G hmg;have T:∃ t:K16.Adr,K16.Txt (L2.KOf KX) mg t/\mg "law"=some (.ref (t.A 52))/\∃ kV doc pm an cdv ct,t.Q 52=WH "law" "law" (L2.defArgs (K16.top 90)) (L2.defBody (K16.top 90)) (L2.defScope (K16.top 90)) .none kV doc pm an cdv ct:=by
   dsimp only[L2.KOf];refine' K16.txt_wr (K16.txt_mk KX G ?QS ?_ ?_ ?_ ?_ ?_ ?_ ?_ ?_ ?_ ?_ ?_ ?_ ?_ ?_ ?_ ?_ ⟨?_,?_,?_,?_⟩ ⟨?_,?_,?_,?_⟩ ⟨?_,?_,?_,?_⟩ ⟨?_,?_,?_,?_⟩ ⟨?_,?_,?_,?_⟩ ⟨⟨?_,?_,?_,?_⟩,?_,?_,?_,?_,?_,?_,?_,?_,?_,?_,?_,?_,?_⟩ ⟨?_,?_,?_,?_⟩ ⟨⟨?_,?_,?_,?_⟩,?_,?_,?_,?_,?_,?_,?_,?_,?_,?_,?_,?_⟩ ⟨⟨?_,?_,?_,?_⟩,?_,?_,?_,?_,?_,?_,?_,?_,?_,?_,?_,?_⟩ ⟨?_,?_,?_,?_⟩ ?_ ?_ ?_ ?_ ?_ ?_ ?_ ?_ ?_ ?_ ?_ ?_ ?_ ?_ ?_ ?_ ?_ ?_ ?_ ?_ ?_ ?_ ?_ ?_ ?_ ?_ ?_ (K16.sbc ?_ (K16.sbc ?_ (K16.sbc ?_ (K16.sbc ?_ (K16.sbc ?_ (K16.sbc ?_ (K16.sbc ?_ (K16.sbc ?_ (K16.sbc ?_ (K16.sbc ?_ trivial)))))))))) (K16.sbc ?_ (K16.sbc ?_ (K16.sbc ?_ (K16.sbc ?_ (K16.sbc ?_ (K16.sbc ?_ (K16.sbc ?_ (K16.sbc ?_ (K16.sbc ?_ (K16.sbc ?_ trivial)))))))))) (K16.sbc ?_ (K16.sbc ?_ (K16.sbc ?_ (K16.sbc ?_ (K16.sbc ?_ (K16.sbc ?_ (K16.sbc ?_ (K16.sbc ?_ (K16.sbc ?_ (K16.sbc ?_ trivial)))))))))) ?_ ?_ ?_ ?_ ?_ ?_ ?_ ?_ ?_ ?_ ?_ ?_ ?_ ?_ ?_ ?_ ?_ ?_ ?_ ?_)
   case' QS=>iterate 53 refine DL.QAs.cons ⟨by k_is,by k_is,_,_,_,_,_,_,_,_,_,by k_is,by k_is⟩ ?_
   case QS=>trivial
   all_goals try first |k_is |k_exc |rfl
   exact⟨_,_,_,_,[.int 0,.int 1],rfl,.cons ⟨_,rfl⟩ (.cons ⟨_,rfl⟩ (.nil)),by decide,fun H=>DL.Reps.cons (DL.ri _) (DL.Reps.cons (DL.ri _) (DL.Reps.nil))⟩;exact⟨_,_,_,_,[.str "one",.str "both"],rfl,.cons ⟨_,rfl⟩ (.cons ⟨_,rfl⟩ (.nil)),by decide,fun H=>DL.Reps.cons (DL.Rep.str_iff.mpr rfl) (DL.Reps.cons (DL.Rep.str_iff.mpr rfl) (DL.Reps.nil))⟩
  obtain⟨t,T,e0,kV,doc,pm,an,cdv,ct,ed⟩:=T;have e1:=hmg.symm.trans e0;cases e1;refine⟨t.Q 52,fun s u=>?_,fun base kb nb=>(K16.ok_law T).F⟩;rw[ed];exact .of_eq rfl
