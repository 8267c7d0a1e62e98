import PyProof.Rows.All
import Wide.All
import OpenK.AllK
import Wide.FinOn
import PyProof.EqAt
import PyProof.EqKinds
import PyProof.NeKinds
import PyProof.TupleCall
import PyProof.StrWalks
import PyProof.EnumMake
import PyProof.WalksEnum
import PyProof.ZipIter
import PyProof.Rows.ZipGen
import PyProof.Rows.SortWalk
import KE.KSortedM
import PyProof.StrLawsIdx
import PyProof.StrLawsNeg
import PyProof.ExcInit
import PyProof.InstStoreFacts
import PyProof.AttrMissHeap
import PyProof.FactsAll.enumerate
import PyProof.FactsAll.dict_1
import KE.KDictOf
import KE.KItemsList
import PyProof.ReprRoads
import KE.LcSums
import PyProof.AttrMissSeq
import PyProof.FitsInt
import PySem.Challenge.RW_farthestcut_k53_mixes_looked_at
open PySem renaming Value->Up,wpAny_bind->Uv,starEach->Uw,Addr->Uy,Shared->UD,Heap->UO,Str->UP,wpAny->UR,mainGlobals->US,model->UT,wpAny_pure->UY,PyData->Vc,Expr->Vl,Around->Vn,Program->Vt,compareOp->Vw,backTo->Vy,wpAny_mono->VD,swapsWith->VG,World->VH,wpAny_holding->VP,FuncData->VS,Env->VW,wpAny_truthy_bool->VZ,wpAny_loadPart_at->V0,NameKind->V3,Stmt->V6,mem_of_lookup->We,attributeBase->Wf,sysModules->Wy,codeAny->Wz,ofString_length->WI,holding->WK,keywordEach->WM,typeLookup->WY,Keyword->Xh,Within->Xs,backToKw->XO,cLine->XX,ReadsAll->X1,Scope->X8,DictEntry->Zd,pyNext->Zf,Result->Zj,intBits_le_iff->ZG,Reads->ZH
open PySem.W renaming Frag->Ur,nsIn->VC,mg_none_of->VE,kia_one->VV,mg_of->V1,findIn->WB,fnOf->WH,keepIn->WN,hasDictIn->W0,subIn->Xf,Looks->XS,emptyDict->XZ,kitOne->Yi,exmOne->Yj,codeIn->Yk,specialIn->Yx,kitx_dict->Yy,hideAll->Y4,isNs_of_in->Zg,excIn->Zh,methodObj->Zy,lookIn->Zz,kitx_list->ZA,InstAt->ZC
open List renaming length_map->Us,getElem?_eq_getElem->Ut,getElem?_eq_some_iff->Ux,getElem?_set_ne->UE,map_cons->UG,mem_cons_of_mem->UH,mem_cons->UI,replicate->UJ,getElem?_map->UK,mem_singleton->UL,size_toArray->UM,getElem?_append_left->UQ,mem_cons_self->UU,getElem?_append_right->UW,mem_of_getElem?->UX,length_cons->UZ,length_append->U0,mem_map->U4,getElem?_replicate->U5,mem_append->U6,map_append->U9,all_eq_true->Va,append_nil->Vd,getElem?_set_self->Vg,mem_append_right->Vi,drop_eq_getElem_cons->Vk,not_mem_nil->Vq,sum_cons->Vs,range->Vv,length_replicate->Vx,replicate_succ->Vz,length_take->VA,Nodup->VB,filterMap_eq_map'->VF,getElem?_cons_succ->VI,zip_cons_cons->VJ,mem_append_left->VL,map_map->VQ,drop_zero->VR,lookup_cons->VX,getElem_mem->VY,filterMap_cons->V5,mem_of_mem_take->Wc,nodup_cons->Wd,nil_append->Wl,map_nil->Wn,flatten_cons->Wo,append_assoc->Wq,length_eq_zero_iff->Ws,getElem?_cons_zero->Wt,drop_length->Wu,Pairwise->WG,mem_of_mem_drop->WO,all_cons->WV,getElem?_set_self'->W3,take_of_length_le->W7,nodup_append->W8,mem_range->W9,mem_nil_iff->Xd,cons_append->Xe,pairwise_append->Xk,lookup->Xl,length->Xm,length_nil->Xp,map_congr_left->Xq,nodup_iff_pairwise_ne->Xy,mem_filterMap->Xz,reverse_cons->XD,pairwise_map->XF,any_cons->XJ,eraseIdx_cons_succ->XQ,range_succ_eq_map->XT,length_singleton->XY,replicate_zero->X5,length_pos_iff->X6,set_cons_zero->Yc,set_cons_succ->Yd,prefix_append->Ye,filterMap_map->Yf,all_map->Yp,eraseIdxIfInBounds_toArray->Yu,length_drop->Yv,of_mem_zip->YD,mem_filter->YE,getD_eq_getElem?_getD->YJ,foldl->YK,map_drop->YW,getElem?_take_of_lt->YX,filterMap_cons_some->YY,filterMap_cons_none->YZ,eq_of_mem_replicate->Y0,pairwise_singleton->Y8,getLast?_singleton->Y9,Perm->Za,drop_of_length_le->Zo,dropLast_eq_take->Zv,getLast?_append->ZM,length_reverse->ZP,getElem?_range->ZQ,drop_succ_cons->ZR
open PySem.Heap renaming get?_push_of_some->Uz,lt_size->UN,get?_push_size->Vr,get?_update_other->V4,get?_update_self->V9,FlyingW->WA,get?_none_of_le->Xn,SameBut->XU,MadeExcOf->YL,NotedW->ZN,get?_update_ne->ZT
open Nat renaming lt_of_lt_of_le->UA,le_refl->UC,ne_of_lt->U2,le_trans->U8,lt_of_le_of_lt->Wj,pow_le_pow_right->Wm,zero_le->Wx,lt_irrefl->WE,lt_succ_self->WT,lt_trans->W6,gcd->Xg,mul_le_mul_right->Xj,zero_add->Xt,le_of_lt->Xu,pow_add->X3,succ_mul->Ym,sub_zero->Yo,not_lt_zero->YC,pow_succ->Zl,add_zero->Zm,add_comm->Zn,succ->ZI,repr->ZJ,mul_add->ZK,log2_lt->ZL
open Or renaming inl->UB,inr->YI
open PySem.SeqAt renaming RcNeAt->U1,EqAt->U3,RcAt->Vb,ne_of_list_tuple->Zi
open Bool renaming and_eq_true->U7,false_ne_true->VO,false_and->Ww,and_eq_false_iff->WJ,true_and->Xi,or_eq_true->YF,not_false->YO,and_false->YQ,not_true->Y2,and_self->Y3
open PySem.Value renaming ref->Ve,none->VT,bool->VU,str->Wa,int->Wb,builtin->Wr,float->ZD
open Int renaming eq_ofNat_of_zero_le->Vf,gcd->Vm,fmod_eq_emod_of_nonneg->VM,mul_pos->W4,fmod_nonneg_of_pos->Xa,toNat_natCast->XG,fmod_lt_of_pos->Yg,emod_eq_of_lt->Ys,gcd_dvd_left->Yw,dvd_gcd_mul_iff_dvd_mul->YG,natAbs_ediv_le_natAbs->YR,mul_ediv_cancel_left->Y1,natCast_dvd_natCast->Zc,gcd_comm->Zp,ediv_mul_cancel->ZS
open Ne renaming symm->Vj
open PySem.PassesOwn renaming never->Vo
open Option renaming some->Vp,map_some->WC,isSome_iff_exists->XI,none->Yz,bind_eq_some_iff->Y7
open Option.some renaming inj->Vu,injEq->V2
open False renaming elim->VN
open Rat renaming intCast_mul->V7,div_def->X0,intCast_add->YB
open PySem.PyData renaming shownAll->V8,shownKv->Wi,showable->Wk,shown->WR,depth->WS,depthAll->Xo,showableAll->Xw,int->Xx,depthKv->X2
open PySem.NameKind renaming free->Wg
open PySem.Builtin.Str renaming occurrences->Wv
open PySem.Builtin renaming divisionGoesByPylong->WD
open PyProof.Rows renaming callWith_type1->WL,slot_tuple_getitem->Xb
open Array renaming getElem?_eq_some_iff->WQ,length_toList->X7,append_assoc->Yh,getElem?_toList->Zx,mem_toList_iff->ZO
open PySem.Builtin.Slice renaming slicePlaces->WU,sliceAdjust->XA,sliceApplied->YN
open PySem.Builtin.Tuple renaming tupleExact->WW
open ForInStep renaming yield->WX
open PySem.Code renaming quiet_builtin->WZ,isFrame->Zr
open PySem.F renaming plainAttrs_list->W2,excBase_ValueError->Xv,attr_ValueError->XH,slot_list_getattribute->XM,type_list_append->YT,slot_list_append->YU,args_tuple_add_2->YV,entry_tuple_add->Y6,slot_tuple_add->Zk,type_list_pop->Zs,slot_list_pop->Zt,typeOf_object_class->Zw
open Sum renaming inr->W5,inl->Xr
open True renaming intro->Xc
open PySem.Builtin.List renaming listTooLong->XN
open PySem.Calls renaming callWith_builtin->XW,evalArgs_plain->X4,Name_function_global->YM
open PySem.SeqAt.EqAt renaming of_refs->X9,same->YA
open PySem.Obj renaming mapSeq->Ya,data_mapFields->Yb,isFreed_of_fields->Zu
open PySem.Txt renaming slice_le->Yl,join->YH,slice->Y5
open Nat.succ renaming inj->Yn
open List.Pairwise renaming nil->Yq,imp->Yr
open PySem.Around renaming under->Yt
open PySem.SeqAt.RcAt renaming lists_lengths->YS
open PyProof.Rows.IsTup renaming new->Zb
open PySem.Builtin.Dict renaming updateFrom->Ze
open Iff renaming rfl->Zq
open Sum.inr renaming inj->ZE
open String renaming length_append->ZF
open PySem.EntryCells renaming newEntry->ZU
set_option compiler.extract_closed false
set_option bootstrap.genMatcherCode false
set_option autoImplicit true
set_option Elab.async false
set_option linter.all false
set_option maxRecDepth 100000
set_option maxHeartbeats 4000000
noncomputable section
abbrev bi:=List UP
abbrev bv:=List Nat
namespace L2
open PySem PySem.Spec PyProof.Rows
abbrev Key:=Sum Int UP
def rh:Key->Up->Bool
 |.inl k,v=>Value.isInt k v
 |.inr x,v=>Value.isStrOf x v
def Sy(w:VH):Key->Int
 |.inl k=>hashInt k
 |.inr x=>hashStr w x
theorem c5:∀{k:Key}{v:Up},rh k v=true->(∃i t,k=Xr i/\v=Wb i t)∨(∃x t,k=W5 x/\v=Wa x t)
 |.inl i,v,h=>by
  obtain⟨t,e⟩:=Value.isInt_shape (k:=i) (v:=v) h;exact .inl ⟨i,t,rfl,e⟩
 |.inr x,v,h=>by
  obtain⟨t,e⟩:=Value.isStrOf_shape (x:=x) (v:=v) h;exact .inr ⟨x,t,rfl,e⟩
def CZ(i:Int)(t:Tok):rh (.inl i) (.int i t)=true:=by simp[rh,Value.isInt]
def CY(x:UP)(t:Tok):rh (.inr x) (.str x t)=true:=by simp[rh,Value.isStrOf]
def Mm(a b:Int):decide ((Xr a:Key)=Xr b)=(a==b):=by
 by_cases e:a=b
 .subst e;simp
 .have h:¬(Xr a:Key)=Xr b:=λq=>e (Xr.inj q)
  rw[decide_eq_false h];exact(beq_eq_false_iff_ne.mpr e).symm
def Mj(a b:UP):decide ((W5 a:Key)=W5 b)=decide (a=b):=by
 by_cases e:a=b
 .subst e;simp
 .have h:¬(W5 a:Key)=W5 b:=λq=>e (ZE q)
  rw[decide_eq_false h,decide_eq_false e]
def Ml(a:Int)(b:UP):decide ((Xr a:Key)=W5 b)=false:=decide_eq_false (λq=>nomatch q)
def Mk(a:UP)(b:Int):decide ((W5 a:Key)=Xr b)=false:=decide_eq_false (λq=>nomatch q)
noncomputable def mixKind(prog:Vt) (w:VH):PySem.KeyKind prog w Key where
 is:=rh
 hash:=Sy w
 inj:=λv a b ha hb=>by
  rcases c5 ha with⟨i,t,rfl,rfl⟩|⟨x,t,rfl,rfl⟩
  .rcases c5 hb with⟨j,u,rfl,e⟩|⟨y,u,rfl,e⟩
   .injection e with e1 _;rw[e1]
   .exact nomatch e
  .rcases c5 hb with⟨j,u,rfl,e⟩|⟨y,u,rfl,e⟩
   .exact nomatch e
   .injection e with e1 _;rw[e1]
 byValue:=λk v h=>by
  rcases c5 h with⟨i,t,rfl,rfl⟩|⟨x,t,rfl,rfl⟩<;>rfl
 pyHash:=λhv h=>by
  rcases c5 hv with⟨i,t,rfl,rfl⟩|⟨x,t,rfl,rfl⟩
  .exact wpAny_pyHash_int h
  .exact wpAny_pyHash_str h
 eqBool:=λhu hv h=>by
  rcases c5 hu with⟨i,t,rfl,rfl⟩|⟨x,t,rfl,rfl⟩
  .rcases c5 hv with⟨j,u,rfl,rfl⟩|⟨y,u,rfl,rfl⟩
   .rw[Mm]at h;exact wpAny_eqBool_int h
   .rw[Ml]at h;exact U3.int_str i t y u _ _ _ _ h
  .rcases c5 hv with⟨j,u,rfl,rfl⟩|⟨y,u,rfl,rfl⟩
   .rw[Mk]at h;exact U3.str_int x t j u _ _ _ _ h
   .rw[Mj]at h;exact wpAny_eqBool_str h
 «strs»:=λk x t v h=>by
  rcases c5 h with⟨i,u,rfl,e⟩|⟨y,u,rfl,e⟩
  .exact nomatch e
  .injection e with e1 _
   subst e1;cases v<;>rfl
def yh(prog:Vt)(w:VH)(i:Int)(t:Tok):(mixKind prog w).is (.inl i) (.int i t)=true:=CZ i t
def yg(prog:Vt)(w:VH)(x:UP)(t:Tok):(mixKind prog w).is (.inr x) (.str x t)=true:=CY x t
inductive V where
 |non|bl (b:Bool)|int (i:Int)|str (x:UP)|byt (b:Array UInt8)|flt (b:UInt64)|ref (a:Uy)|ty (n:String)
 deriving DecidableEq
abbrev al:=List V
noncomputable def b3:V->Up->Prop
 |.non,u=>u=VT
 |.bl b,u=>u=VU b
 |.int i,u=>∃t,u=Wb i t
 |.str x,u=>∃t,u=Wa x t
 |.byt b,u=>∃t,u=Value.bytes b t
 |.flt b,u=>∃t,u=ZD b t
 |.ref a,u=>u=Ve a
 |.ty n,u=>u=Value.type n
abbrev bz:al->List Up->Prop:=Paired b3
def bz.length(r:bz xs us):xs.length=us.length:=Paired.length r
theorem bz.get:∀{xs:al}{us:List Up}{i:Nat}{x:V},bz xs us->xs[i]?=some x->∃u,us[i]?=some u/\b3 x u
 |_,_,_,_,.nil,e=>by simp at e
 |_,_,0,_,.cons r _,e=>by simp at e;subst e;exact⟨_,rfl,r⟩
 |_,_,i+1,x,.cons _ t,e=>by
  obtain⟨u,h1,h2⟩:=bz.get (i:=i) (x:=x) t (by simpa using e);exact⟨u,by simpa using h1,h2⟩
theorem bz.set(r:b3 x u):∀{xs:al}{us:List Up}(i:Nat),bz xs us->bz (xs.set i x) (us.set i u)
 |_,_,_,.nil=>.nil
 |_,_,0,.cons _ t=>.cons r t
 |_,_,i+1,.cons q t=>.cons q (bz.set r i t)
theorem bz.append:∀{xs ys:al}{us ws:List Up},bz xs us->bz ys ws->bz (xs++ys) (us++ws)
 |_,_,_,_,.nil,s=>s
 |_,_,_,_,.cons r t,s=>.cons r (bz.append t s)
theorem bz.take:∀{xs:al}{us:List Up}(n:Nat),bz xs us->bz (xs.take n) (us.take n)
 |_,_,0,_=>.nil
 |_,_,_+1,.nil=>.nil
 |_,_,n+1,.cons r t=>.cons r (bz.take n t)
theorem bz.drop:∀{xs:al}{us:List Up}(n:Nat),bz xs us->bz (xs.drop n) (us.drop n)
 |_,_,0,r=>r
 |_,_,_+1,.nil=>.nil
 |_,_,n+1,.cons _ t=>bz.drop n t
def DC:Option V->Option Up->Prop
 |some v,some u=>b3 v u
 |none,none=>True
 |_,_=>False
def KV{κ:Type}:List (κ×V)->List (κ×Up)->Prop:=Paired λ(p:κ×V) (q:κ×Up)=>p.1=q.1/\b3 p.2 q.2
def kV:Key->V
 |.inl i=>.int i
 |.inr x=>.str x
inductive HO where
 |lst (xs:al)
 |tup (xs:al)
 |dK (kvs:List (Key×V))|dT (kvs:List (List Key×V))
 |set (S:Int->Bool) (n:Nat)
 |ins (C dx:Uy) (fs:List (UP×V))
 |own (x:Uy)
 |xd (fs:List (UP×V))
 |met (f x:Uy)
 |rng (lo hi:Int)
 |frz (o:Obj) (u:HO)
 |tbl (ps:Array Up)
 |ext (φ:UO->Prop)
abbrev Hp:=Uy->Option HO
def upd(H:Hp)(a:Uy)(o:HO):Hp:=λb=>if b=a then some o else H b
def aE:upd H a o a=some o:=by unfold upd;rw[if_pos rfl]
def aA(h:b≠a):upd H a o b=H b:=by unfold upd;rw[if_neg h]
def bo{H:Hp}(h:H a=some o)(h':H b=none):a≠b:=by
 intro e;subst e;rw[h]at h';cases h'
section
variable (P:Vt) (w:VH)
noncomputable def c7(H:Hp) (h:UO) (a:Uy):HO->Prop
 |.lst xs=>xs.length<=sizeLine/\∃(its:List Up) (n:Nat),bz xs its/\h.get? a=some { cls:=.type "list",data:=.seq its.toArray n }
 |.tup xs=>xs.length<=sizeLine/\∃its:List Up,bz xs its/\IsTup h a its.toArray
 |.dK kvs=>kvs.length<=sizeLine/\(a==Wy)=false/\∃vs,KV kvs vs/\h.DictOf (mixKind P w) a vs
 |.dT kvs=>kvs.length<=sizeLine/\(a==Wy)=false/\∃xs:List (List Key×Uy×Up),
   Paired (λ(p:List Key×V) (q:List Key×Uy×Up)=>p.1=q.1/\H q.2.1=some (.tup (p.1.map kV))/\b3 p.2 q.2.2) kvs xs /\
   ∃o es ep,h.get? a=some o/\o.ExactDict/\o.data=.dict es ep/\es.toList=xs.map (entryOfKey (tupleKind (mixKind P w)))/\(xs.map (·.1)).Nodup
 |.set S n=>h.SetOf (intKind P w) a S n
 |.ins C dx fs=>H dx=some (.own a)/\fs.length<=1000/\dx≠a/\h.get? a=some (W.instObj C dx) /\
   ∃mA,h.Ns1 dx mA/\(∀f,DC (fs.lookup f) (mA f))/\Xs mA (fs.map (·.1))
 |.own _=>∃o,h.get? a=some o
 |.xd fs=>∃mA,h.Ns1 a mA/\∀f,DC (fs.lookup f) (mA f)
 |.rng lo hi=>∃t u v,h.get? a=some { cls:=.type "range",data:=.fields #[.int lo t,.int hi u,.int 1 v] }
 |.frz o u=>h.get? a=some o/\c7 H h a u
 |.tbl ps=>h.get? a=some { cls:=.none,data:=.fields ps }
 |.met f x=>h.get? a=some (Zy (.ref f) (.ref x))
 |.ext φ=>φ h/\(∃o,h.get? a=some o)/\∀h1 h2:UO,φ h1->(∀o,h1.get? a=some o->h2.get? a=some o)->φ h2
def ig(H:Hp)(h:UO):Prop:=∀a o,H a=some o->c7 P w H h a o
end
section
variable {P:Vt}{w:VH}{H H':Hp}{h h':UO}{a:Uy}{o:HO}
def c7.lt(x:c7 P w H h a o):a<h.objs.size:=by
 cases o with|lst xs=>obtain⟨_,_,_,_,e⟩:=x;exact UN e|tup xs=>obtain⟨_,_,_,p⟩:=x;exact p.lt|dK kvs|dT kvs=>obtain⟨_,_,_,_,o,_,_,e,_⟩:=x;exact UN e|set S n=>obtain⟨o,_,_,_,e,_⟩:=x;exact UN e|ins C dx fs=>obtain⟨_,_,_,e,_⟩:=x;exact UN e|own y=>obtain⟨_,e⟩:=x;exact UN e|xd fs=>obtain⟨_,⟨_,_,_,e,_⟩,_⟩:=x;exact UN e|rng lo hi=>obtain⟨_,_,_,e⟩:=x;exact UN e|frz ob u=>obtain⟨e,_⟩:=x;exact UN e|tbl ps|met f y=>exact UN (show h.get? a=some _ from x)|ext φ=>obtain⟨_,⟨_,e⟩,_⟩:=x;exact UN e
theorem pq{α β:Type}{F G:α->β->Prop}:∀{lc:List α}{lf:List β},Paired F lc lf->(∀a b,F a b->G a b)->Paired G lc lf
 |_,_,.nil,_=>.nil
 |_,_,.cons r t,f=>.cons (f _ _ r) (pq t f)
def c7.stay(x:c7 P w H h a o)(k:∀b u,(b=a∨H b=some (.own a))->h.get? b=some u->h'.get? b=some u)
  (ho:∀b,H b=some (.own a)->H' b=some (.own a))(ht:∀b xs,H b=some (.tup xs)->H' b=some (.tup xs)):c7 P w H' h' a o:=by
 induction o with
 |lst xs=>obtain⟨z,its,n,r,e⟩:=x;exact⟨z,its,n,r,k _ _ (.inl rfl) e⟩|tup xs=>obtain⟨z,its,r,ob,e,c⟩:=x;exact⟨z,its,r,ob,k _ _ (.inl rfl) e,c⟩|dK kvs=>obtain⟨z,y,vs,r,ob,es,ep,e,c⟩:=x;exact⟨z,y,vs,r,ob,es,ep,k _ _ (.inl rfl) e,c⟩
 |dT kvs=>
  obtain⟨z,y,xs,r,ob,es,ep,e,c⟩:=x;exact⟨z,y,xs,pq r λp q z=>⟨z.1,ht _ _ z.2.1,z.2.2⟩,ob,es,ep,k _ _ (.inl rfl) e,c⟩
 |set S n=>obtain⟨ob,es,ep,t,e,c⟩:=x;exact⟨ob,es,ep,t,k _ _ (.inl rfl) e,c⟩
 |ins C dx fs=>
  obtain⟨d,z,ne,e,mA,⟨od,es,ep,e2,c⟩,r⟩:=x;exact⟨ho _ d,z,ne,k _ _ (.inl rfl) e,mA,⟨od,es,ep,k _ _ (.inr d) e2,c⟩,r⟩
 |own y=>obtain⟨ob,e⟩:=x;exact⟨ob,k _ _ (.inl rfl) e⟩|xd fs=>obtain⟨mA,⟨od,es,ep,e,c⟩,r⟩:=x;exact⟨mA,⟨od,es,ep,k _ _ (.inl rfl) e,c⟩,r⟩|rng lo hi=>obtain⟨t,u,v,e⟩:=x;exact⟨t,u,v,k _ _ (.inl rfl) e⟩|frz ob u ih=>obtain⟨e,q⟩:=x;exact⟨k _ _ (.inl rfl) e,ih q⟩
 |tbl ps=>
  have e:h.get? a=some { cls:=.none,data:=.fields ps }:=x;show h'.get? a=some { cls:=.none,data:=.fields ps };exact k a _ (.inl rfl) e
 |met f y=>
  have e:h.get? a=some (Zy (.ref f) (.ref y)):=x;show h'.get? a=some (Zy (.ref f) (.ref y));exact k a _ (.inl rfl) e
 |ext φ=>obtain⟨p,⟨o,e⟩,st⟩:=x;exact⟨st _ _ p λo q=>k _ _ (.inl rfl) q,⟨o,k _ _ (.inl rfl) e⟩,st⟩
def ig.lt(x:ig P w H h)(e:H a=some o):a<h.objs.size:=(x a o e).lt
def ig.fresh(x:ig P w H h)(e:h.objs.size<=a):H a=none:=by
 cases q:H a with|none=>rfl|some u=>exact absurd (UA (x.lt q) e) (WE _)
def ig.kept(x:ig P w H h)(k:∀b u,h.get? b=some u->h'.get? b=some u):ig P w H h':=λa o e=>
 (x a o e).stay (λb u _ q=>k b u q) (λ_ q=>q) λ_ _ q=>q
def ig.laid(x:ig P w H h)(k:∀b u,h.get? b=some u->h'.get? b=some u)(hp:h.objs.size<=a)(new:c7 P w (upd H a o) h' a o):ig P w (upd H a o) h':=λb u e=>by
 have hn:=x.fresh hp
 by_cases hb:b=a
 .subst hb;rw[aE]at e;cases e;exact new
 .rw[aA hb]at e
  exact(x b u e).stay (λc v _ q=>k c v q) (λc q=>by rw[aA (bo q hn)];exact q) λc xs q=>by rw[aA (bo q hn)];exact q
end
def Rd(H:Hp)(a:Uy)(u:HO):Prop:=H a=some u∨∃o,H a=some (.frz o u)
def Rd.ok{h:UO}(r:Rd H a u)(x:ig P w H h):c7 P w H h a u:=by
 rcases r with r|⟨o,r⟩
 .exact x a u r
 .obtain⟨_,q⟩:=x a _ r
  exact q
def OC:Option HO->Prop
 |some (.lst _)=>True
 |some (.dK _)=>True
 |some (.dT _)=>True
 |some (.set _ _)=>True
 |some (.ins _ _ _)=>True
 |some (.ext _)=>True
 |_=>False
section
variable {P:Vt}{w:VH}{H:Hp}{h h':UO}{x e:Uy}{o':HO}
def ig.write(ok:ig P w H h)(mu:OC (H x))(he:e=x∨H e=some (.own x))(k:∀b u,b≠e->h.get? b=some u->h'.get? b=some u)(heo:∃u,h'.get? e=some u)
  (new:c7 P w (upd H x o') h' x o'):ig P w (upd H x o') h':=λb u q=>by
 have nown:∀c y,H c=some (.own y)->c≠x:=λc y r z=>by subst z;rw[r]at mu;exact mu
 have ntup:∀c xs,H c=some (.tup xs)->c≠x:=λc xs r z=>by subst z;rw[r]at mu;exact mu
 by_cases hb:b=x
 .subst hb;rw[aE]at q;cases q;exact new
 .rw[aA hb]at q
  by_cases hbe:b=e
  .have q':H b=some (.own x):=by
    rcases he with z|z
    .exact absurd (hbe.trans z) hb
    .rw[hbe];exact z
   rw[q]at q';cases q';obtain⟨v,hv⟩:=heo;exact⟨v,by rw[hbe];exact hv⟩
  .refine(ok b u q).stay (λc v hc r=>k c v ?_ r) (λc r=>by rw[aA (nown c b r)];exact r) λc xs r=>by rw[aA (ntup c xs r)];exact r
   rcases hc with rfl|hc
   .exact hbe
   .rintro rfl
    rcases he with z|z
    .exact nown c b hc z
    .rw[hc]at z;cases z;exact hb rfl
end
structure Un (fs ex:List Uy) (H H':Hp) (h h':UO):Prop where
 keep:∀b o,h.get? b=some o->H b=none->b∉fs->b∉ex->h'.get? b=some o
 slot:∀b o,h.get? b=some o->H b=none->b∈fs->b∉ex->∃sl,h'.get? b=some { o with slots:=sl }
 free:∀b o,h.get? b=some o->H b=none->b∉ex->H' b=none
 there:∀b o,h.get? b=some o->b∉ex->∃o',h'.get? b=some o'
 tups:∀b xs,H b=some (.tup xs)->H' b=some (.tup xs)
 frzs:∀b o u,H b=some (.frz o u)->H' b=some (.frz o u)
 tbls:∀b ps,H b=some (.tbl ps)->∃more,H' b=some (.tbl (ps++more))
section
variable {fs fs' ex ex':List Uy}{H H1 H2:Hp}{h h1 h2 h':UO}{a x e:Uy}{o:HO}
def Un.any(u:Un fs ex H H1 h h1)(q:h.get? b=some ob)(n:H b=none)(hx:b∉ex):∃sl,h1.get? b=some { ob with slots:=sl }:=by
 by_cases hb:b∈fs
 .exact u.slot b ob q n hb hx
 .exact⟨ob.slots,u.keep b ob q n hb hx⟩
def Un.trans(a:Un fs ex H H1 h h1)(b:Un fs ex H1 H2 h1 h2):Un fs ex H H2 h h2 where
 keep:=λc ob q n hc hx=>b.keep c ob (a.keep c ob q n hc hx) (a.free c ob q n hx) hc hx
 slot:=λc ob q n hc hx=>by
  obtain⟨sl,e1⟩:=a.slot c ob q n hc hx;obtain⟨sl',e2⟩:=b.slot c _ e1 (a.free c ob q n hx) hc hx;exact⟨sl',e2⟩
 free:=λc ob q n hx=>by
  obtain⟨o',e1⟩:=a.there c ob q hx;exact b.free c o' e1 (a.free c ob q n hx) hx
 there:=λc ob q hx=>by
  obtain⟨o',e1⟩:=a.there c ob q hx;exact b.there c o' e1 hx
 tups:=λc xs q=>b.tups c xs (a.tups c xs q)
 frzs:=λc ob xs q=>b.frzs c ob xs (a.frzs c ob xs q)
 tbls:=λc ps q=>by
  obtain⟨m1,e1⟩:=a.tbls c ps q;obtain⟨m2,e2⟩:=b.tbls c _ e1;exact⟨m1++m2,by rw[e2,Yh]⟩
def Un.kept(k:∀b u,h.get? b=some u->h'.get? b=some u):Un fs ex H H h h' :=
 ⟨λb ob q _ _ _=>k b ob q,λb ob q _ _ _=>⟨ob.slots,k b ob q⟩,λ_ _ _ n _=>n,λb ob q _=>⟨ob,k b ob q⟩,λ_ _ q=>q,λ_ _ _ q=>q,λ_ ps q=>⟨#[],by rw[q];simp⟩⟩
def Un.refl:Un fs ex H H h h:=Un.kept λ_ _ q=>q
def Un.laid(k:∀b u,h.get? b=some u->h'.get? b=some u)(hp:h.objs.size<=a)(hn:H a=none):Un fs ex H (upd H a o) h h' where
 keep:=λb u q _ _ _=>k b u q
 slot:=λb u q _ _ _=>⟨u.slots,k b u q⟩
 free:=λb u q n _=>by rw[aA (U2 (UA (UN q) hp))];exact n
 there:=λb u q _=>⟨u,k b u q⟩
 tups:=λb xs q=>by rw[aA (bo q hn)];exact q
 frzs:=λb u xs q=>by rw[aA (bo q hn)];exact q
 tbls:=λb ps q=>⟨#[],by rw[aA (bo q hn),q];simp⟩
def Un.write(mu:OC (H x))(he:e=x∨H e=some (.own x))(k:∀b u,b≠e->h.get? b=some u->h'.get? b=some u)(heo:∃u,h'.get? e=some u):Un fs ex H (upd H x o) h h':=by
 have hx:∀b,H b=none->b≠x:=λb n z=>by subst z;rw[n]at mu;exact mu
 have hb:∀b,H b=none->b≠e:=λb n z=>by
  subst z;rcases he with r|r
  .exact hx b n r
  .rw[n]at r;cases r
 have hm:∀b u,H b=some u->¬OC (some u)->b≠x:=λb u q nm z=>by subst z;rw[q]at mu;exact nm mu
 refine⟨λb u q n _ _=>k b u (hb b n) q,λb u q n _ _=>⟨u.slots,k b u (hb b n) q⟩,λb u q n _=>by rw[aA (hx b n)];exact n,λb u q _=>?_,
  λb xs q=>by rw[aA (hm b _ q λz=>z)];exact q,λb u xs q=>by rw[aA (hm b _ q λz=>z)];exact q,λb ps q=>⟨#[],by rw[aA (hm b _ q λz=>z),q];simp⟩⟩
 by_cases hbe:b=e
 .subst hbe;exact heo
 .exact⟨u,k b u hbe q⟩
end
def RG(h:UO)(H:Hp):List Uy:=(Vv h.objs.size).filter λa=>(H a).isSome
def wm(h:UO)(H:Hp):UO:=Y4 h (RG h H)
def C5(h:UO)(H:Hp):(wm h H).objs.size=h.objs.size:=W.hideAll_size _ _
def FG{h:UO}(e:h.get? b=some o)(n:H b=none):(wm h H).get? b=some o :=
 W.hideAll_get _ e λhm=>by
  have q:(H b).isSome=true:=(YE.mp hm).2;rw[n]at q;simp at q
def Ie{h:UO}(e:(wm h H).get? b=some o):h.get? b=some o/\H b=none:=by
 have e':h.get? b=some o:=W.of_hideAll (RG h H) e;refine⟨e',?_⟩;cases q:H b with
 |none=>rfl
 |some x=>
  have hm:b∈RG h H:=YE.mpr ⟨W9.mpr (UN e'),by simp[q]⟩;have z:(wm h H).get? b=none:=W.hideAll_none (RG h H) hm;rw[z]at e;cases e
structure Mod (K:Ur) (mg:UP->Option Up) (base:UO):Prop where
 kin:K.In base
 glob:base.Ns US mg
 blt:∃mb,base.Ns builtinsNs mb/\∀x:UP,x≠"__name__"->mb x=bootBuiltins x
 nolimit:base.NoLimit
 sm:∃mm,base.Ns Wy mm
structure Cx where
 prog:Vt
 w:VH
 K:Ur
 mg:UP->Option Up
 base:UO
 A:Vn
 N:bi
 sf:UD
 Ha:Hp
 env:Env
 outer:List Env
 stack:List Env
 ex:List Uy
 fn:UP->Bool
 calm:Bool
 pn:List (Uy×Obj)
 xe:Up->UD->Prop
def iY(l:List Env):List Uy:=l.filterMap (·.frame)
abbrev Cx.fs(X:Cx):List Uy:=iY X.outer
def zj(sc:X8)(x:UP):Prop:=sc.names.lookup x=some .local ∨ sc.names.lookup x=some .cell∨sc.names.lookup x=some .free
def Cm(sc:X8)(x:UP):Prop:=sc.names.lookup x=some .local ∨ sc.names.lookup x=some .cell
def Ry(env:Env)(h:UO)(m:UP->Option Up)(x:UP)(u:Up):Prop :=
 (env.kindOf x=some .local /\ m x=some u)∨((env.kindOf x=some .cell∨env.kindOf x=some .free)/\∃c,env.cells.lookup x=some c/\h.IsCell c (some u))
structure Cx.Ok (X:Cx):Prop where
 mod:Mod X.K X.mg X.base
 kind:X.env.scope.kind=.function
 glob:X.env.globals=US
 blt:X.env.builtins=builtinsNs
 above:X.sf.heap.objs.size<=X.env.locals
 inj:∀x y c,X.env.cells.lookup x=some c->X.env.cells.lookup y=some c->x=y
 has:∀x,(X.env.kindOf x=some .cell∨X.env.kindOf x=some .free)->∃c,X.env.cells.lookup x=some c
 cab:∀x c,X.fn x=true->X.env.cells.lookup x=some c->X.sf.heap.objs.size<=c
 hd:X.calm=true->X.A.handled=none
 frames:X.A.frames=some X.stack
 stk:X.stack=X.outer∨(X.stack=X.env::X.outer/\X.env.frame=some X.env.locals)
 exf:∀b∈X.ex,b≠X.env.locals/\∀x c,X.env.cells.lookup x=some c->c≠b
 bs:∀b o,X.base.get? b=some o->X.sf.heap.get? b=some o/\X.Ha b=none
 bsz:X.base.objs.size<=X.sf.heap.objs.size
 noex:∀b o,X.base.get? b=some o->b∉X.ex
 exfs:∀b∈X.ex,b∉X.fs
 funs:X.sf.heap.FunFrames X.base X.outer
 frf:∀b∈X.fs,X.Ha b=none
structure Inv (X:Cx) (π:List (Uy×Obj)) (σ:List (Option V)) (H:Hp) (s:UD):Prop where
 ok:X.Ok
 os:s.os=X.sf.os
 bare:AllBare s.gens
 base:Un X.fs X.ex X.Ha H X.sf.heap s.heap
 loc:∃m,s.heap.Ns X.env.locals m/\∀(i:Nat) (x:UP) (v:V),X.N[i]?=some x->σ[i]?=some (some v)->zj X.env.scope x->∃u,b3 v u/\Ry X.env s.heap m x u
 cell:∀x c,X.env.cells.lookup x=some c->∃v,s.heap.IsCell c v
 free:H X.env.locals=none
 freeC:∀x c,X.env.cells.lookup x=some c->H c=none
 pin:∀p∈X.pn++π,s.heap.get? p.1=some p.2/\H p.1=none/\p.1≠X.env.locals/\p.1∉X.fs/\∀v,p.2.data≠.cell v
 hok:ig X.prog X.w H s.heap
 len:σ.length=X.N.length
section
variable {X:Cx}{π:List (Uy×Obj)}{σ:List (Option V)}{H H':Hp}{s:UD}{h':UO}
def Cx.Ok.nofr(ok:X.Ok)(e:X.base.get? b=some o):b∉X.fs:=λhb=>by
 have:=(ok.funs.mem hb).1;rw[e]at this;cases this
def Inv.bs(I:Inv X π σ H s):∀b o,X.base.get? b=some o->s.heap.get? b=some o/\H b=none:=λb o e=>
 ⟨I.base.keep b o (I.ok.bs b o e).1 (I.ok.bs b o e).2 (I.ok.nofr e) (I.ok.noex b o e),I.base.free b o (I.ok.bs b o e).1 (I.ok.bs b o e).2 (I.ok.noex b o e)⟩
def Inv.bk(I:Inv X π σ H s):∀b o,X.base.get? b=some o->s.heap.get? b=some o:=λb o e=>(I.bs b o e).1
def Inv.mod(I:Inv X π σ H s):Mod X.K X.mg X.base:=I.ok.mod
def Inv.kIn(I:Inv X π σ H s):X.K.In s.heap:=I.ok.mod.kin.keeps I.bk
def Inv.lt(I:Inv X π σ H s):X.env.locals<s.heap.objs.size:=let ⟨_,hn,_⟩:=I.loc;hn.lt
def Inv.sz(I:Inv X π σ H s):X.sf.heap.objs.size<=s.heap.objs.size:=U8 I.ok.above (Xu I.lt)
def Inv.nofs(I:Inv X π σ H s)(h:s.heap.objs.size<=a):a∉X.fs:=λhb=>by
 obtain⟨_,o,ho,_⟩:=I.ok.funs.mem hb;exact absurd (UA (UN ho) (U8 I.sz h)) (WE _)
def Inv.cne(I:Inv X π σ H s):∀x c,X.env.cells.lookup x=some c->c≠X.env.locals:=λx c e z=>by
 obtain⟨v,o,ho,hd⟩:=I.cell x c e;obtain⟨m,⟨o',es,ep,ho',hd',_⟩,_⟩:=I.loc;rw[z,ho']at ho;cases ho;rw[hd']at hd;cases hd
def Inv.funs(I:Inv X π σ H s):s.heap.FunFrames X.base X.outer:=by
 have all:∀(l:List Env),(∀b∈iY l,b∈X.fs)->X.sf.heap.FunFrames X.base l->s.heap.FunFrames X.base l:=by
  intro l
  induction l with
  |nil=>intro _ _;trivial
  |cons env r ih=>
   intro hs hl;obtain⟨hk,⟨L,o,hf,hn,ho,hd⟩,hr⟩:=hl;have hL:L∈X.fs:=hs L (by unfold iY;rw[V5,hf];exact UU);obtain⟨sl,e⟩:=I.base.slot L o ho (I.ok.frf L hL) hL λz=>I.ok.exfs L z hL;exact⟨hk,⟨L,_,hf,hn,e,hd⟩,ih (λb hb=>hs b (by unfold iY;rw[V5,hf];exact UH _ hb)) hr⟩
 exact all X.outer (λ_ hb=>hb) I.ok.funs
def Inv.stack(I:Inv X π σ H s):s.heap.FunFrames X.base X.stack:=by
 rcases I.ok.stk with e|⟨e,hf⟩
 .rw[e];exact I.funs
 .rw[e]
  obtain⟨m,hn,_⟩:=I.loc;refine .cons (by rw[I.ok.kind];decide) hf hn ?_ I.funs;exact Xn (U8 I.ok.bsz I.ok.above)
def Inv.stkSub(I:Inv X π σ H s):∀b∈iY X.stack,b∈X.env.locals::X.fs:=λb hb=>by
 rcases I.ok.stk with e|⟨e,hf⟩
 .rw[e]at hb;exact UH _ hb
 .rw[e]at hb
  unfold iY at hb;rw[V5,hf]at hb;exact hb
def Inv.stkFree(I:Inv X π σ H s):∀b∈iY X.stack,H b=none:=λb hb=>by
 rcases UI.mp (I.stkSub b hb) with e|hb
 .rw[e];exact I.free
 .obtain⟨_,o,ho,_⟩:=I.ok.funs.mem hb
  exact I.base.free b o ho (I.ok.frf b hb) λz=>I.ok.exfs b z hb
def Inv.step{ch:List Uy}(I:Inv X π σ H s)
  (hch:∀b∈ch,(b∈X.ex∨X.sf.heap.objs.size<=b)/\b≠X.env.locals/\(∀x c,X.env.cells.lookup x=some c->c≠b)/\∀p∈X.pn++π,p.1≠b)
  (keep:∀b o,b≠X.env.locals->b∉X.fs->b∉ch->s.heap.get? b=some o->H b=none->h'.get? b=some o)
  (slot:∀b o,b≠X.env.locals->b∈X.fs->b∉ch->s.heap.get? b=some o->H b=none->∃sl,h'.get? b=some { o with slots:=sl })(free:∀b o,b∉ch->s.heap.get? b=some o->H b=none->H' b=none)
  (there:∀b o,b∉ch->s.heap.get? b=some o->∃o',h'.get? b=some o')
  (tups:∀b xs,H b=some (.tup xs)->H' b=some (.tup xs))(frzs:∀b o u,H b=some (.frz o u)->H' b=some (.frz o u))(tbls:∀b ps,H b=some (.tbl ps)->∃more,H' b=some (.tbl (ps++more)))
  (ns:∀m,s.heap.Ns X.env.locals m->h'.Ns X.env.locals m)(hok:ig X.prog X.w H' h')(hg:AllBare g') :
  Inv X π σ H' { s with heap:=h',gens:=g',drawn:=d',toks:=t' }:=by
 have neL:∀b o,X.sf.heap.get? b=some o->b≠X.env.locals:=λb o e=>U2 (UA (UN e) I.ok.above);have neC:∀b o,X.sf.heap.get? b=some o->b∉X.ex->b∉ch:=λb o e hx hb=>by
  rcases(hch b hb).1 with z|z
  .exact hx z
  .exact absurd (UA (UN e) z) (WE _)
 have cellK:∀x c,X.env.cells.lookup x=some c->∀v,s.heap.IsCell c v->h'.IsCell c v:=λx c e v z9=>by
  obtain⟨o,ho,hd⟩:=z9;have nch:c∉ch:=λz=>(hch c z).2.2.1 x c e rfl
  by_cases hc:c∈X.fs
  .obtain⟨sl,q⟩:=slot c o (I.cne x c e) hc nch ho (I.freeC x c e)
   exact⟨_,q,hd⟩
  .exact⟨o,keep c o (I.cne x c e) hc nch ho (I.freeC x c e),hd⟩
 refine⟨I.ok,I.os,hg,⟨λb o e n hb hx=>?_,λb o e n hb hx=>?_,λb o e n hx=>?_,λb o e hx=>?_,λb xs e=>tups b xs (I.base.tups b xs e),λb o xs e=>frzs b o xs (I.base.frzs b o xs e),λb ps e=>?_⟩,?_,λx c e=>?_,?_,λx c e=>?_,λp hp=>?_,hok,I.len⟩
 .exact keep b o (neL b o e) hb (neC b o e hx) (I.base.keep b o e n hb hx) (I.base.free b o e n hx)
 .obtain⟨sl,e1⟩:=I.base.slot b o e n hb hx
  obtain⟨sl',e2⟩:=slot b _ (neL b o e) hb (neC b o e hx) e1 (I.base.free b o e n hx);exact⟨sl',e2⟩
 .obtain⟨o',e1⟩:=I.base.there b o e hx
  exact free b o' (neC b o e hx) e1 (I.base.free b o e n hx)
 .obtain⟨o',e1⟩:=I.base.there b o e hx
  exact there b o' (neC b o e hx) e1
 .obtain⟨m1,e1⟩:=I.base.tbls b ps e
  obtain⟨m2,e2⟩:=tbls b _ e1;exact⟨m1++m2,by rw[e2,Yh]⟩
 .obtain⟨m,hn,hl⟩:=I.loc
  refine⟨m,ns m hn,λi x v e1 e2 e3=>?_⟩;obtain⟨u,r,l⟩:=hl i x v e1 e2 e3;refine⟨u,r,?_⟩;rcases l with l|⟨k,c,e,z⟩
  .exact .inl l
  .exact .inr ⟨k,c,e,cellK x c e _ z⟩
 .obtain⟨v,z⟩:=I.cell x c e
  exact⟨v,cellK x c e v z⟩
 .obtain⟨m,⟨o,_,_,ho,_⟩,_⟩:=I.loc
  exact free _ o (λz=>(hch _ z).2.1 rfl) ho I.free
 .obtain⟨v,o,ho,hd⟩:=I.cell x c e
  exact free c o (λz=>(hch c z).2.2.1 x c e rfl) ho (I.freeC x c e)
 .obtain⟨e,n,ne,nf,d⟩:=I.pin p hp
  have nch:p.1∉ch:=λz=>(hch p.1 z).2.2.2 p hp rfl;exact⟨keep p.1 p.2 ne nf nch e n,free p.1 p.2 nch e n,ne,nf,d⟩
def Inv.un(I:Inv X π σ H s)(u:Un X.fs [] H H' s.heap h')(hok:ig X.prog X.w H' h'):Inv X π σ H' { s with heap:=h',toks:=t' }:=by
 obtain⟨m,⟨o,es,ep,ho,r⟩,_⟩:=id I.loc;obtain⟨sl,hL⟩:=u.any ho I.free (by simp);exact I.step (g':=s.gens) (d':=s.drawn) (ch:=[]) (λ_ z=>nomatch z) (λb o _ hb _ e n=>u.keep b o e n hb (by simp)) (λb o _ hb _ e n=>u.slot b o e n hb (by simp)) (λb o _ e n=>u.free b o e n (by simp)) (λb o _ e=>u.there b o e (by simp)) u.tups u.frzs u.tbls (λm' hm=>by
  obtain⟨o',es',ep',ho',r'⟩:=hm;rw[ho]at ho';cases ho';exact⟨_,es',ep',hL,r'⟩) hok I.bare
def Inv.call(I:Inv X π σ H s)(u:Un (iY X.stack) ch H H' s.heap h')(hok:ig X.prog X.w H' h')(hg:AllBare g')
  (hch:∀b∈ch,(b∈X.ex∨X.sf.heap.objs.size<=b)/\b≠X.env.locals/\(∀x c,X.env.cells.lookup x=some c->c≠b)/\∀p∈X.pn++π,p.1≠b) :
  Inv X π σ H' { s with heap:=h',gens:=g',drawn:=d',toks:=t' }:=by
 obtain⟨m,⟨o,es,ep,ho,r⟩,_⟩:=id I.loc;obtain⟨sl,hL⟩:=u.any ho I.free λz=>(hch _ z).2.1 rfl;exact I.step (ch:=ch) hch (λb o hL hb hc e n=>u.keep b o e n (λz=>(UI.mp (I.stkSub b z)).elim hL hb) hc) (λb o _ _ hc e n=>u.any e n hc) (λb o hc e n=>u.free b o e n hc) (λb o hc e=>u.there b o e hc) u.tups u.frzs u.tbls (λm' hm=>by
  obtain⟨o',es',ep',ho',r'⟩:=hm;rw[ho]at ho';cases ho';exact⟨_,es',ep',hL,r'⟩) hok hg
def Inv.turned(I:Inv X π σ H s)(k:∀b o,b≠it->s.heap.get? b=some o->h'.get? b=some o)(hn:H it=none)(hL:it≠X.env.locals)
  (h1:it∈X.ex∨X.sf.heap.objs.size<=it)(h2:∀x c,X.env.cells.lookup x=some c->c≠it)(h3:∀p∈X.pn++π,p.1≠it):Inv X π σ H { s with heap:=h',toks:=t' }:=by
 have nit:∀b u,H b=some u->b≠it:=λb u e z=>by rw[z,hn]at e;cases e
 refine I.step (g':=s.gens) (d':=s.drawn) (ch:=[it]) (λb hb=>?_) (λb o _ _ hc e _=>k b o (λz=>hc (by simp[z])) e) (λb o _ _ hc e _=>⟨o.slots,k b o (λz=>hc (by simp[z])) e⟩) (λ_ _ _ _ n=>n)
  (λb o hc e=>⟨o,k b o (λz=>hc (by simp[z])) e⟩) (λ_ _ e=>e) (λ_ _ _ e=>e) (λb ps e=>⟨#[],by rw[e];simp⟩) (λm hm=>?_) (λb u e=>?_) I.bare
 .have e:b=it:=by simpa using hb
  subst e;exact⟨h1,hL,h2,h3⟩
 .obtain⟨o,es,ep,ho,r⟩:=hm
  exact⟨o,es,ep,k _ o (Vj hL) ho,r⟩
 .refine(I.hok b u e).stay (λc v hc q=>k c v ?_ q) (λ_ q=>q) λ_ _ q=>q
  rcases hc with z|z
  .rw[z];exact nit b u e
  .exact nit c _ z
def Inv.tok(I:Inv X π σ H s)(t:Nat):Inv X π σ H { s with toks:=t }:=I.un (h':=s.heap) (t':=t) Un.refl I.hok
def Inv.kept(I:Inv X π σ H s)(k:∀b u,s.heap.get? b=some u->h'.get? b=some u):Inv X π σ H { s with heap:=h',toks:=t' }:=I.un (Un.kept k) (I.hok.kept k)
def Inv.laid(I:Inv X π σ H s)(k:∀b u,s.heap.get? b=some u->h'.get? b=some u)(hp:s.heap.objs.size<=a)(new:c7 X.prog X.w (upd H a o) h' a o) :
  Inv X π σ (upd H a o) { s with heap:=h',toks:=t' }:=I.un (Un.laid k hp (I.hok.fresh hp)) (I.hok.laid k hp new)
def Inv.write(I:Inv X π σ H s)(mu:OC (H x))(he:e=x∨H e=some (.own x))(k:∀b u,b≠e->s.heap.get? b=some u->h'.get? b=some u)(heo:∃u,h'.get? e=some u)
  (new:c7 X.prog X.w (upd H x o) h' x o):Inv X π σ (upd H x o) { s with heap:=h',toks:=t' }:=I.un (Un.write mu he k heo) (I.hok.write mu he k heo new)
def Inv.pins_of(I:Inv X π σ H s)(h:∀p∈pins',s.heap.get? p.1=some p.2/\H p.1=none/\p.1≠X.env.locals/\p.1∉X.fs/\∀v,p.2.data≠.cell v):Inv X pins' σ H s :=
 ⟨I.ok,I.os,I.bare,I.base,I.loc,I.cell,I.free,I.freeC,λp hp=>(U6.mp hp).elim (λz=>I.pin p (VL _ z)) (h p),I.hok,I.len⟩
def qV{N:bi}(hN:N.Nodup){i j:Nat}(a:N[i]?=some x)(b:N[j]?=some x):i=j:=by
 obtain⟨h1,e1⟩:=Ux.mp a;obtain⟨h2,e2⟩:=Ux.mp b;exact(List.getElem_inj hN).mp (e1.trans e2.symm)
def nK{A:Vn}(I:Inv X π σ H s)(hN:X.N.Nodup)(hi:X.N[i]?=some x)(hx:Cm X.env.scope x)(r:b3 v u)
  (h:∀s',Inv X π (σ.set i (some v)) H s'->(∃a,XU a s.heap s'.heap/\(a=X.env.locals∨X.env.cells.lookup x=some a))->Q () s')(hf:X.fn x=true∨X.env.scope.names.lookup x=some .local := by first|exact .inl rfl|exact .inr rfl|assumption):UR M A (storeName X.env x u) Q E s:=by
 obtain⟨m,hn,hl⟩:=id I.loc;have hcls:(X.env.scope.kind==.class||(X.env.scope.kind==.module&&X.env.locals != X.env.globals))=false:=by rw[I.ok.kind];rfl
 have hiσ:i<σ.length:=by rw[I.len];exact(Ux.mp hi).1
 have cne:=I.cne;have tracked:∀{a:Uy}{h':UO},(∃o,s.heap.get? a=some o/\H a=none)->XU a s.heap h'->ig X.prog X.w H h':=λ{a h'} ha hs b ob e=>by
  obtain⟨_,_,hfree⟩:=ha;refine(I.hok b ob e).stay (λc w' hc q=>(hs.2 c ?_).trans q) (λ_ q=>q) λ_ _ q=>q;rintro rfl;rcases hc with rfl|hc
  .rw[hfree]at e;cases e
  .rw[hfree]at hc;cases hc
 rcases hx with hk|hk
 .refine wpAny_storeName_local hk hn (λh' hn' hs=>?_) hcls
  obtain⟨oL,_,_,hoL,_⟩:=id hn;refine h _ ⟨I.ok,I.os,I.bare,⟨λb o e n hb hx=>?_,λb o e n hb hx=>?_,I.base.free,λb o e hx=>?_,I.base.tups,I.base.frzs,I.base.tbls⟩,⟨_,hn',λj y v' e1 e2 e3=>?_⟩,λy c e=>?_,I.free,I.freeC,λp hp=>?_,tracked ⟨oL,hoL,I.free⟩ hs,by simpa using I.len⟩ ⟨_,hs,.inl rfl⟩
  .exact(hs.2 b (U2 (UA (UN e) I.ok.above))).trans (I.base.keep b o e n hb hx)
  .obtain⟨sl,e1⟩:=I.base.slot b o e n hb hx
   exact⟨sl,(hs.2 b (U2 (UA (UN e) I.ok.above))).trans e1⟩
  .obtain⟨o',e1⟩:=I.base.there b o e hx
   exact⟨o',(hs.2 b (U2 (UA (UN e) I.ok.above))).trans e1⟩
  .by_cases hj:j=i
   .subst hj
    rw[hi]at e1;cases e1;rw[Vg hiσ]at e2;cases e2;exact⟨u,r,.inl ⟨hk,by simp⟩⟩
   .rw[UE (Vj hj)]at e2
    obtain⟨u',r',q⟩:=hl j y v' e1 e2 e3;refine⟨u',r',?_⟩;rcases q with⟨k,e⟩|⟨k,c,e,z⟩
    .refine .inl ⟨k,?_⟩
     have:y≠x:=λe=>hj (qV hN e1 (e▸hi));simp[this,e]
    .exact .inr ⟨k,c,e,z.sameBut hs (cne y c e)⟩
  .obtain⟨w',z⟩:=I.cell y c e
   exact⟨w',z.sameBut hs (cne y c e)⟩
  .obtain⟨e,n,ne,nf,d⟩:=I.pin p hp
   exact⟨(hs.2 p.1 ne).trans e,n,ne,nf,d⟩
 .have hfn:X.fn x=true:=by
   rcases hf with z|z
   .exact z
   .rw[z]at hk;cases hk
  obtain⟨c,hc⟩:=I.ok.has x (.inl hk);obtain⟨w',z⟩:=I.cell x c hc;refine wpAny_storeName_cell I.ok.kind hk hc z (λh' hc' hs=>?_);obtain⟨oc,hoc,hocd⟩:=id z;refine h { s with heap:=h' } ⟨I.ok,I.os,I.bare,⟨λb o e n hb hx=>?_,λb o e n hb hx=>?_,I.base.free,λb o e hx=>?_,I.base.tups,I.base.frzs,I.base.tbls⟩,⟨m,hn.sameBut hs (Vj (cne x c hc)),λj y v' e1 e2 e3=>?_⟩,λy c' e=>?_,I.free,I.freeC,λp hp=>?_,tracked ⟨oc,hoc,I.freeC x c hc⟩ hs,by simpa using I.len⟩ ⟨c,hs,.inr hc⟩
  .exact(hs.2 b (U2 (UA (UN e) (I.ok.cab x c hfn hc)))).trans (I.base.keep b o e n hb hx)
  .obtain⟨sl,e1⟩:=I.base.slot b o e n hb hx
   exact⟨sl,(hs.2 b (U2 (UA (UN e) (I.ok.cab x c hfn hc)))).trans e1⟩
  .obtain⟨o',e1⟩:=I.base.there b o e hx
   exact⟨o',(hs.2 b (U2 (UA (UN e) (I.ok.cab x c hfn hc)))).trans e1⟩
  .by_cases hj:j=i
   .subst hj
    rw[hi]at e1;cases e1;rw[Vg hiσ]at e2;cases e2;exact⟨u,r,.inr ⟨.inl hk,c,hc,hc'⟩⟩
   .rw[UE (Vj hj)]at e2
    obtain⟨u',r',q⟩:=hl j y v' e1 e2 e3;refine⟨u',r',?_⟩;rcases q with q|⟨k,c',e,z'⟩
    .exact .inl q
    .refine .inr ⟨k,c',e,z'.sameBut hs ?_⟩
     rintro rfl;exact hj (qV hN e1 (I.ok.inj _ _ _ e hc▸hi))
  .by_cases hcc:c'=c
   .subst hcc;exact⟨_,hc'⟩
   .obtain⟨w2,z2⟩:=I.cell y c' e
    exact⟨w2,z2.sameBut hs hcc⟩
  .obtain⟨e,n,ne,nf,d⟩:=I.pin p hp
   refine⟨(hs.2 p.1 ?_).trans e,n,ne,nf,d⟩;intro q;rw[q,hoc]at e;have q':oc=p.2:=Vu e;exact d w' (by rw[←q'];exact hocd)
def jr{A:Vn}(I:Inv X π σ H s)(hN:X.N.Nodup)(hi:X.N[i]?=some x)(hx:Cm X.env.scope x)(r:b3 v u)
  (h:∀s',Inv X π (σ.set i (some v)) H s'->Q () s')(hf:X.fn x=true∨X.env.scope.names.lookup x=some .local := by first|exact .inl rfl|exact .inr rfl|assumption):UR M A (storeName X.env x u) Q E s :=
 nK I hN hi hx r (λs' I' _=>h s' I') hf
def Inv.call'(I:Inv X π σ H s)(ho:s'.os=s.os)(u:Un (iY X.stack) ch H H' s.heap s'.heap)(hok:ig X.prog X.w H' s'.heap)(hg:AllBare s'.gens)
  (hch:∀b∈ch,(b∈X.ex∨X.sf.heap.objs.size<=b)/\b≠X.env.locals/\(∀x c,X.env.cells.lookup x=some c->c≠b)/\∀p∈X.pn++π,p.1≠b):Inv X π σ H' s':=by
 obtain⟨h',g',d',t',o'⟩:=s';have e:o'=s.os:=ho;subst e;exact I.call (g':=g') (t':=t') (d':=d') u hok hg hch
end
abbrev XK:=Up->Option Uy->Hp->Prop
abbrev St:=List (Option V)
abbrev VK:=V->Hp->Prop
abbrev TE:=St->Hp->VK->Prop
abbrev TT:=St->Hp->(Bool->Hp->Prop)->Prop
abbrev TA:=St->Hp->(al->Hp->Prop)->Prop
structure kE where
 nx:St->Hp->Prop
 rt:VK
 bk:St->Hp->Prop:=λ_ _=>False
 ct:St->Hp->Prop:=λ_ _=>False
abbrev TS:=kE->St->Hp->Prop
def EP(X:Cx)(π:List (Uy×Obj))(σ:St)(Q:VK)(u:Up)(s':UD):Prop:=∃v H',Inv X π σ H' s'/\b3 v u/\Q v H'
def TP(X:Cx)(π:List (Uy×Obj))(σ:St)(Q:Bool->Hp->Prop)(b:Bool)(s':UD):Prop:=∃H',Inv X π σ H' s'/\Q b H'
def AP(X:Cx)(π:List (Uy×Obj))(σ:St)(Q:al->Hp->Prop)(us:List Up)(s':UD):Prop:=∃vs H',Inv X π σ H' s'/\bz vs us/\Q vs H'
noncomputable def SP(X:Cx) (π:List (Uy×Obj)) (D:kE) (f:Flow) (s':UD):Prop :=
 match f with
 |.next=>∃σ' H',Inv X π σ' H' s'/\D.nx σ' H'
 |.brk=>∃σ' H',Inv X π σ' H' s'/\D.bk σ' H'
 |.cont=>∃σ' H',Inv X π σ' H' s'/\D.ct σ' H'
 |.ret u=>∃v σ' H',Inv X π σ' H' s'/\b3 v u/\D.rt v H'
def PE(X:Cx)(e:Vl)(t:TE):Prop :=
 ∀(π:List (Uy×Obj)) (s:UD) (σ:St) (H:Hp) (Q:VK),Inv X π σ H s->t σ H Q->UR (UT X.prog X.w) X.A (eval e X.env) (EP X π σ Q) X.xe s
def PT(X:Cx)(e:Vl)(t:TT):Prop :=
 ∀(π:List (Uy×Obj)) (s:UD) (σ:St) (H:Hp) (Q:Bool->Hp->Prop),Inv X π σ H s->t σ H Q->UR (UT X.prog X.w) X.A (isTrue e X.env (eval e X.env)) (TP X π σ Q) X.xe s
def PW(X:Cx)(e:Vl)(t:TT):Prop :=
 ∀(whole:Sem Up) (π:List (Uy×Obj)) (s:UD) (σ:St) (H:Hp) (Q:Bool->Hp->Prop),Inv X π σ H s->t σ H Q->UR (UT X.prog X.w) X.A (isTrue e X.env whole) (TP X π σ Q) X.xe s
def PW.pt(h:PW X e t):PT X e t:=h _
def PA(X:Cx)(es:List Vl)(t:TA):Prop :=
 ∀(pos:Pos) (π:List (Uy×Obj)) (s:UD) (σ:St) (H:Hp) (Q:al->Hp->Prop),Inv X π σ H s->t σ H Q->UR (UT X.prog X.w) X.A (spliced (Vy pos (Uw es X.env))) (AP X π σ Q) X.xe s
def PS(X:Cx)(st:V6)(t:TS):Prop :=
 ∀(π:List (Uy×Obj)) (s:UD) (σ:St) (H:Hp) (D:kE),Inv X π σ H s->t D σ H->UR (UT X.prog X.w) X.A (exec st X.env) (SP X π D) X.xe s
def vm(X:Cx)(st:List V6)(t:TS):Prop :=
 ∀(π:List (Uy×Obj)) (s:UD) (σ:St) (H:Hp) (D:kE),Inv X π σ H s->t D σ H->UR (UT X.prog X.w) X.A (execs st X.env) (SP X π D) X.xe s
def dz{Q Q':α->UD->Prop}{A:Vn}(h:UR M A t Q E s)(hQ:∀a s,Q a s->Q' a s):UR M A t Q' E s:=VD h hQ λ_ _ x=>x
section
variable {X:Cx}
def R5(i:Nat):TE:=λσ H Q=>∃v,σ[i]?=some (some v)/\Q v H
def tC(v:V):TE:=λ_ H Q=>Q v H
def iy(hN:X.N[i]?=some x)(hv:zj X.env.scope x)(hd:(x==("__debug__" : UP))=false:=by decide)(hcd:(x==("__classdict__" : UP))=false:=by decide):PE X (.Name x pos) (R5 i):=by
 intro π s σ H Q I h;obtain⟨v,e,h⟩:=h;obtain⟨m,hn,hl⟩:=I.loc;obtain⟨u,r,l⟩:=hl i x v hN e hv;have fin:EP X π σ Q u s:=⟨v,H,I,r,h⟩
 rcases l with⟨hk,hm⟩|⟨hk,c,hc,hcell⟩
 .exact wpAny_Name (wpAny_loadName_local I.ok.kind hk hn hm fin) hd
 .rcases hk with hk|hk
  .exact wpAny_Name (wpAny_loadName_cell I.ok.kind hk hc hcell fin) hd
  .exact wpAny_Name (wpAny_loadName_free I.ok.kind hk hc hcell fin hcd) hd
def EY{i j pos}:PE X (.Constant (.int i) j pos) (tC (.int i)):=λ_ _ _ H _ I h=>wpAny_Constant_int ⟨.int i,H,I.tok _,⟨_,rfl⟩,h⟩
def Pw{b j pos}:PE X (.Constant (.bool b) j pos) (tC (.bl b)):=λ_ _ _ H _ I h=>Constant_bool ⟨.bl b,H,I,rfl,h⟩
def LX{j pos}:PE X (.Constant .none j pos) (tC .non):=λ_ _ _ H _ I h=>Constant_none ⟨.non,H,I,rfl,h⟩
def LR{x j pos}:PE X (.Constant (.str x) j pos) (tC (.str x)):=λ_ _ _ H _ I h=>Calls.Constant_str ⟨.str x,H,I.tok _,⟨_,rfl⟩,h⟩
def Gl(X:Cx)(x:UP):Prop:=X.env.kindOf x=some .globalImplicit
def j9(I:Inv X π σ H s)(hg:Gl X x)(hm:X.mg x=some u)(h:Q u s)
  (hd:(x==("__debug__" : UP))=false:=by decide):UR (UT X.prog X.w) X.A (eval (.Name x pos) X.env) Q E s :=
 YM I.ok.kind hg (Calls.loadGlobal_global (by rw[I.ok.glob];exact I.mod.glob.keeps I.bk) hm h) hd
def nW(I:Inv X π σ H s)(hg:Gl X x)(hm:X.mg x=none)(hv:bootBuiltins x=some u)(h:Q u s)
  (hn:x≠"__name__":=by decide)(hd:(x==("__debug__" : UP))=false:=by decide):UR (UT X.prog X.w) X.A (eval (.Name x pos) X.env) Q E s:=by
 obtain⟨mb,h1,h2⟩:=I.mod.blt;exact YM I.ok.kind hg (Calls.loadGlobal_builtin (by rw[I.ok.glob];exact I.mod.glob.keeps I.bk) hm (by rw[I.ok.blt];exact h1.keeps I.bk) ((h2 x hn).trans hv) h) hd
def vP(hg:Gl X x)(hm:X.mg x=some u)(r:b3 v u)(hd:(x==("__debug__" : UP))=false:=by decide):PE X (.Name x pos) (tC v) :=
 λ_ _ _ H _ I h=>j9 I hg hm ⟨v,H,I,r,h⟩ hd
def Bm(hg:Gl X x)(hm:X.mg x=none)(hv:bootBuiltins x=some u)(r:b3 v u)(hn:x≠"__name__":=by decide)(hd:(x==("__debug__" : UP))=false:=by decide):PE X (.Name x pos) (tC v) :=
 λ_ _ _ H _ I h=>nW I hg hm hv ⟨v,H,I,r,h⟩ hn hd
variable {a b:Vl}{ta tb:TE}{pos:Pos}
noncomputable def PC(X:Cx) (op:CmpOp) (a b:Vl) (t:TE):Prop :=
 ∀(π:List (Uy×Obj)) (s:UD) (σ:St) (H:Hp) (Q:VK),Inv X π σ H s->t σ H Q ->
  UR (UT X.prog X.w) X.A (eval a X.env) (λv sg=>UR (UT X.prog X.w) X.A (eval b X.env) (λu si=>UR (UT X.prog X.w) X.A (Vw op v u) (EP X π σ Q) X.xe si) X.xe sg) X.xe s
def Fc(b:Vl)(h:op≠.In)(h2:op≠.NotIn):behindInMarks op b=false:=by
 have e1:(op==CmpOp.In)=false:=by cases op<;>first|rfl|exact absurd rfl h
 have e2:(op==CmpOp.NotIn)=false:=by cases op<;>first|rfl|exact absurd rfl h2
 cases b<;>simp[behindInMarks,e1,e2]
def tB(t:TE):TT:=λσ H Q=>t σ H λx H1=>∃c,x=.bl c/\Q c H1
def EK(h:PE X e t)(he:∀whole,isTrue e X.env whole=(do let v ←whole;standAt e.pos;WK [v] (truthy v)):=by intro _;rfl):PT X e (tB t):=by
 intro π s σ H Q I hw;refine isTrue_plain (dz (h π s σ H _ I hw) λv s1 z9=>?_) (he _);obtain⟨x,H1,I1,r1,q1⟩:=z9;obtain⟨d,rfl,q⟩:=q1;cases r1;exact VZ ⟨H1,I1,q⟩
variable {tA tB':TT}{rest:List Vl}
def Sn(t u:TT):TT:=λσ H Q=>t σ H λc H1=>if c=true then u σ H1 Q else Q false H1
def TY(t u:TT):TT:=λσ H Q=>t σ H λc H1=>if c=true then Q true H1 else u σ H1 Q
def Sd(t:TT):TT:=λσ H Q=>t σ H λc H1=>Q (!c) H1
def HP(ha:PT X a tA):PW X (.BoolOp .And [a] pos) tA:=by
 intro wh π s σ H Q I h;refine isTrue_and (dz (ha π s σ H Q I h) λc s1 e=>?_);cases c with|true=>exact isTrue_and_nil e|false=>exact e
def LL(ha:PT X a tA):PW X (.BoolOp .Or [a] pos) tA:=by
 intro wh π s σ H Q I h;refine isTrue_or (dz (ha π s σ H Q I h) λc s1 e=>?_);cases c with|false=>exact isTrue_or_nil e|true=>exact e
def LM(ha:PT X a tA)(hb:PW X (.BoolOp .And (b::rest) pos) tB'):PW X (.BoolOp .And (a::b::rest) pos) (Sn tA tB'):=by
 intro wh π s σ H Q I h;refine isTrue_and (dz (ha π s σ H _ I h) λc s1 z9=>?_);obtain⟨H1,I1,q1⟩:=z9;cases c with|true=>exact hb wh π s1 σ H1 Q I1 q1|false=>exact⟨H1,I1,q1⟩
def Pj(ha:PT X a tA)(hb:PW X (.BoolOp .Or (b::rest) pos) tB'):PW X (.BoolOp .Or (a::b::rest) pos) (TY tA tB'):=by
 intro wh π s σ H Q I h;refine isTrue_or (dz (ha π s σ H _ I h) λc s1 z9=>?_);obtain⟨H1,I1,q1⟩:=z9;cases c with|true=>exact⟨H1,I1,q1⟩|false=>exact hb wh π s1 σ H1 Q I1 q1
def EL(ha:PT X a tA):PT X (.UnaryOp .Not a pos) (Sd tA):=by
 intro π s σ H Q I h;exact isTrue_not (ha π s σ H (λc H1=>Q (!c) H1) I h)
def OW(ta tb:TE):TE:=λσ H Q=>ta σ H λx H1=>∃c,x=.bl c/\if c=true then tb σ H1 Q else Q (.bl false) H1
def Sb(ta tb:TE):TE:=λσ H Q=>ta σ H λx H1=>∃c,x=.bl c/\if c=true then Q (.bl true) H1 else tb σ H1 Q
def OP(ta:TE):TE:=λσ H Q=>ta σ H λx H1=>∃c,x=.bl c/\Q (.bl (!c)) H1
def LV{op}(h:PE X a t):PE X (.BoolOp op [a] pos) t:=λπ s σ H Q I hw=>BoolOp_one (h π s σ H Q I hw)
def LZ(ha:PE X a ta)(hb:PE X (.BoolOp .And (b::rest) pos) tb):PE X (.BoolOp .And (a::b::rest) pos) (OW ta tb):=by
 intro π s σ H Q I h;refine BoolOp_and (dz (ha π s σ H _ I h) λv s1 ⟨x,H1,I1,r1,q1⟩=>?_);obtain⟨c,rfl,q1⟩:=q1;cases r1;refine VZ ?_;cases c with|true=>exact hb π s1 σ H1 Q I1 q1|false=>exact⟨.bl false,H1,I1,rfl,q1⟩
def Pu(ha:PE X a ta)(hb:PE X (.BoolOp .Or (b::rest) pos) tb):PE X (.BoolOp .Or (a::b::rest) pos) (Sb ta tb):=by
 intro π s σ H Q I h;refine BoolOp_or (dz (ha π s σ H _ I h) λv s1 ⟨x,H1,I1,r1,q1⟩=>?_);obtain⟨c,rfl,q1⟩:=q1;cases r1;refine VZ ?_;cases c with|false=>exact hb π s1 σ H1 Q I1 q1|true=>exact⟨.bl true,H1,I1,rfl,q1⟩
def LW(ha:PE X a ta):PE X (.UnaryOp .Not a pos) (OP ta):=by
 intro π s σ H Q I h;refine UnaryOp_ (dz (ha π s σ H _ I h) λv s1 z9=>?_);obtain⟨x,H1,I1,r1,q1⟩:=z9;obtain⟨c,rfl,q1⟩:=q1;cases r1;exact not_of (VZ ⟨.bl (!c),H1,I1,rfl,q1⟩)
def T3(t:TT)(ta tb:TE):TE:=λσ H Q=>t σ H λc H1=>if c=true then ta σ H1 Q else tb σ H1 Q
def EZ(hc:PT X c tA)(ha:PE X a ta)(hb:PE X b tb):PE X (.IfExp c a b pos) (T3 tA ta tb):=by
 intro π s σ H Q I h;refine wpAny_IfExp (dz (hc π s σ H _ I h) λd s1 z9=>?_);obtain⟨H1,I1,q1⟩:=z9;cases d with|true=>exact ha π s1 σ H1 Q I1 q1|false=>exact hb π s1 σ H1 Q I1 q1
end
def fM(K:Ur)(H:Hp)(a:Uy)(xs:al):Prop :=
 Rd H a (.lst xs) ∨
  ∃(o:Obj) (its:Array Up) (n:Nat),K.lookup a=some o/\o.cls=.type "list"/\o.dict=none/\o.data=.seq its n/\its.size<=sizeLine/\bz xs its.toList
def kC(K:Ur)(H:Hp)(a:Uy)(xs:al):Prop :=
 Rd H a (.tup xs) ∨
  ∃(o:Obj) (its:Array Up) (n:Nat),K.lookup a=some o/\o.cls=.type "tuple"/\o.data=.seq its n/\its.size<=sizeLine/\bz xs its.toList
def SV:Up->Option V
 |.none=>some .non
 |.bool b=>some (.bl b)
 |.int i _=>some (.int i)
 |.str x _=>some (.str x)
 |.bytes b _=>some (.byt b)
 |.float b _=>some (.flt b)
 |.ref a=>some (.ref a)
 |.type n=>some (.ty n)
 |_=>none
def b3.abs(r:b3 x u):SV u=some x:=by
 cases x with|non|bl _=>cases r;rfl|int _|str _|byt _|flt _=>obtain⟨t,rfl⟩:=r;rfl|ref _|ty _=>cases r;rfl
def b3.inj(r:b3 x u)(q:b3 y u):x=y:=Vu (r.abs.symm.trans q.abs)
theorem bz.inj:∀{xs ys:al}{us:List Up},bz xs us->bz ys us->xs=ys
 |_,_,_,.nil,.nil=>rfl
 |_,_,_,.cons r t,.cons r' t'=>by rw[r.inj r',bz.inj t t']
section
variable {X:Cx}{π:List (Uy×Obj)}{σ:St}{H:Hp}{s:UD}{a:Uy}{xs ys:al}
def fM.of{K:Ur}(h:H a=some (.lst xs)):fM K H a xs:=.inl (.inl h)
def kC.of{K:Ur}(h:H a=some (.tup xs)):kC K H a xs:=.inl (.inl h)
def Inv.list(I:Inv X π σ H s)(h:fM X.K H a xs):∃its:List Up,bz xs its/\PlainL s.heap a its.toArray/\xs.length<=sizeLine:=by
 rcases h with h|⟨o,its,n,hk,hc,hd,hs,hz,r⟩
 .obtain⟨z,its,n,r,e⟩:=h.ok I.hok
  exact⟨its,r,⟨_,n,e,rfl,rfl,rfl⟩,z⟩
 .refine⟨its.toList,r,⟨o,n,I.kIn a o hk,hc,hd,by simpa using hs⟩,?_⟩
  have e:=r.length;simp only[X7]at e;omega
def Inv.tuple(I:Inv X π σ H s)(h:kC X.K H a xs):∃its:List Up,bz xs its/\IsTup s.heap a its.toArray/\xs.length<=sizeLine:=by
 rcases h with h|⟨o,its,n,hk,hc,hs,hz,r⟩
 .obtain⟨z,its,r,p⟩:=h.ok I.hok
  exact⟨its,r,p,z⟩
 .refine⟨its.toList,r,⟨o,I.kIn a o hk,hc,n,by simpa using hs⟩,?_⟩
  have e:=r.length;simp only[X7]at e;omega
def Inv.list_inj(I:Inv X π σ H s)(h:fM X.K H a xs)(h':fM X.K H a ys):xs=ys:=by
 obtain⟨its,r,⟨o,n,e,_,_,d⟩,_⟩:=I.list h;obtain⟨its',r',⟨o',n',e',_,_,d'⟩,_⟩:=I.list h';rw[e]at e';cases e';rw[d]at d';injection d' with d1 _;have:its=its':=by simpa using congrArg Array.toList d1
 subst this;exact r.inj r'
def Inv.tuple_inj(I:Inv X π σ H s)(h:kC X.K H a xs)(h':kC X.K H a ys):xs=ys:=by
 obtain⟨its,r,⟨o,e,_,n,d⟩,_⟩:=I.tuple h;obtain⟨its',r',⟨o',e',_,n',d'⟩,_⟩:=I.tuple h';rw[e]at e';cases e';rw[d]at d';injection d' with d1 _;have:its=its':=by simpa using congrArg Array.toList d1
 subst this;exact r.inj r'
end
abbrev Cx.wish(X:Cx)(E:Up->UD->Prop):Cx:={ X with xe:=E }
abbrev Cx.nox(X:Cx):Cx:=X.wish λ_ _=>False
def Cx.Ok.wish{X:Cx}(ok:X.Ok)(E:Up->UD->Prop):(X.wish E).Ok :=
 ⟨ok.mod,ok.kind,ok.glob,ok.blt,ok.above,ok.inj,ok.has,ok.cab,ok.hd,ok.frames,ok.stk,ok.exf,ok.bs,ok.bsz,ok.noex,ok.exfs,ok.funs,ok.frf⟩
def Cx.Ok.unwish{X:Cx}(ok:(X.wish E).Ok):X.Ok :=
 ⟨ok.mod,ok.kind,ok.glob,ok.blt,ok.above,ok.inj,ok.has,ok.cab,ok.hd,ok.frames,ok.stk,ok.exf,ok.bs,ok.bsz,ok.noex,ok.exfs,ok.funs,ok.frf⟩
section
variable {X:Cx}{π:List (Uy×Obj)}{σ:St}{H:Hp}{s:UD}{E:Up->UD->Prop}
def Inv.wish(I:Inv X π σ H s)(E:Up->UD->Prop):Inv (X.wish E) π σ H s:=⟨I.ok.wish E,I.os,I.bare,I.base,I.loc,I.cell,I.free,I.freeC,I.pin,I.hok,I.len⟩
def Inv.unwish(I:Inv (X.wish E) π σ H s):Inv X π σ H s:=⟨I.ok.unwish,I.os,I.bare,I.base,I.loc,I.cell,I.free,I.freeC,I.pin,I.hok,I.len⟩
def SP.unwish{D:kE}(h:SP (X.wish E) π D f s'):SP X π D f s':=by
 cases f with|next|brk|cont=>obtain⟨σ',H',I,q⟩:=h;exact⟨σ',H',I.unwish,q⟩|ret u=>obtain⟨v,σ',H',I,r,q⟩:=h;exact⟨v,σ',H',I.unwish,r,q⟩
def vm.nox{st:List V6}(h:vm X.nox st t):vm X st t:=λπ s σ H D I hw=>
 VD (h π s σ H D (I.wish _) hw) (λ_ _ q=>q.unwish) λ_ _ z=>VN z
end
section
variable {X:Cx}{st:V6}{rest:List V6}{t u:TS}{e:Vl}{te:TE}{pos:Pos}
def OQ:TS:=λD σ H=>D.nx σ H
def R7(t u:TS):TS:=λD σ H=>t { D with nx:=u D } σ H
def pV:vm X [] OQ:=λ_ _ σ H _ I h=>wpAny_execs_nil ⟨σ,H,I,h⟩
def ix(h1:PS X st t)(h2:vm X rest u):vm X (st::rest) (R7 t u):=by
 intro π s σ H D I h;refine wpAny_execs_cons (dz (h1 π s σ H { D with nx:=u D } I h) λf s1 q=>?_);cases f with
 |next=>
  obtain⟨σ',H',I',q⟩:=q;exact h2 π s1 σ' H' D I' q
 |ret v|brk|cont=>exact q
def Inv.quiet(I:Inv X π σ H s):interactive X.env=false:=by simp[interactive,I.ok.kind]
def OS(te:TE):TS:=λD σ H=>te σ H λ_ H1=>D.nx σ H1
def pW(he:PE X e te)(hs:VG e none pos.line X.env=pure false:=by rfl):PS X (.Expr e pos) (OS te):=by
 intro π s σ H D I h;exact wpAny_Expr_any (dz (he π s σ H _ I h) λv s1 ⟨x,H1,I1,r1,q1⟩=>⟨σ,H1,I1,q1⟩) I.quiet hs
def R9(te:TE):TS:=λD σ H=>te σ H D.rt
def vK(he:PE X e te):PS X (.Return (some e) pos) (R9 te):=by
 intro π s σ H D I h;exact wpAny_Return_some (dz (he π s σ H _ I h) λv s1 ⟨x,H1,I1,r1,q1⟩=>⟨x,σ,H1,I1,r1,q1⟩)
def Sh(c:TT)(t u:TS):TS:=λD σ H=>c σ H λb H1=>if b=true then t D σ H1 else u D σ H1
def KH(hc:PT X c tc)(ha:vm X a t)(hb:vm X b u):PS X (.If c a b pos) (Sh tc t u):=by
 intro π s σ H D I h;refine wpAny_If (dz (hc π s σ H _ I h) λd s1 z9=>?_);obtain⟨H1,I1,q1⟩:=z9;cases d with|true=>exact ha π s1 σ H1 D I1 q1|false=>exact hb π s1 σ H1 D I1 q1
def Lo:TS:=λ_ _ _=>False
def EO:PS X st Lo:=λ_ _ _ _ _ _ h=>h.elim
end
abbrev TG:=V->St->Hp->(St->Hp->Prop)->Prop
abbrev OA:=al->St->Hp->(St->Hp->Prop)->Prop
noncomputable def PG(X:Cx) (target:Vl) (t:TG):Prop :=
 ∀(π:List (Uy×Obj)) (s:UD) (σ:St) (H:Hp) (v:V) (u:Up) (Q:St->Hp->Prop),Inv X π σ H s->b3 v u->t v σ H Q ->
  UR (UT X.prog X.w) X.A (assign target X.env u) (λ_ s'=>∃σ' H',Inv X π σ' H' s'/\Q σ' H') X.xe s
noncomputable def Ck(X:Cx) (ts:List Vl) (t:OA):Prop :=
 ∀(π:List (Uy×Obj)) (s:UD) (σ:St) (H:Hp) (vs:al) (us:List Up) (Q:St->Hp->Prop),Inv X π σ H s->bz vs us->t vs σ H Q ->
  UR (UT X.prog X.w) X.A (assignInOrder ((assignEach ts X.env).map (·.2)) us) (λ_ s'=>∃σ' H',Inv X π σ' H' s'/\Q σ' H') X.xe s
abbrev Rq:=V->V->V->Hp->(Hp->Prop)->Prop
noncomputable def Ru(X:Cx) (t:Rq):Prop :=
 ∀(π:List (Uy×Obj)) (s:UD) (σ:St) (H:Hp) (o i v:V) (ov iv u:Up) (Q:Hp->Prop),Inv X π σ H s->b3 o ov->b3 i iv->b3 v u->t o i v H Q ->
  UR (UT X.prog X.w) X.A (setItem ov iv u) (λ_ s'=>∃H',Inv X π σ H' s'/\Q H') X.xe s
section
variable {X:Cx}{pos:Pos}
def BP(i:Nat):TG:=λv σ H Q=>Q (σ.set i (some v)) H
def Bj(hN:X.N.Nodup)(hi:X.N[i]?=some x)(hx:Cm X.env.scope x)(hf:X.fn x=true∨X.env.scope.names.lookup x=some .local := by first|exact .inl rfl|exact .inr rfl|assumption):PG X (.Name x pos) (BP i):=by
 intro π s σ H v u Q I r h;exact wpAny_assign_Name (jr I hN hi hx r (λs' I'=>⟨_,H,I',h⟩) hf)
def SI:OA:=λvs σ H Q=>vs=[]/\Q σ H
def Qk(t:TG)(u:OA):OA:=λvs σ H Q=>∃v r,vs=v::r/\t v σ H λσ' H'=>u r σ' H' Q
def HW:Ck X [] SI:=by
 intro π s σ H vs us Q I r h;obtain⟨e,h⟩:=h;subst e;cases r;exact assignInOrder_nil ⟨σ,H,I,h⟩
def EU(h1:PG X e t)(h2:Ck X es u)
  (hs:(assignEach (e::es) X.env).map (·.2)=assign e X.env::(assignEach es X.env).map (·.2):=by rfl):Ck X (e::es) (Qk t u):=by
 intro π s σ H vs us Q I r h;obtain⟨v,vr,e1,h⟩:=h;subst e1;cases r with
 |cons r rr=>
  rw[hs];refine assignInOrder_cons (dz (h1 π s σ H _ _ _ I r h) λ_ s1 z9=>?_);obtain⟨σ1,H1,I1,q1⟩:=z9;exact h2 π s1 σ1 H1 _ _ Q I1 rr q1
def SG(K:Ur)(n:Nat)(t:OA):TG:=λv σ H Q=>∃a xs,v=.ref a/\kC K H a xs/\xs.length=n/\t xs σ H Q
def LQ(hc:X.calm=true)(h:Ck X es t)
  (hn:(assignEach es X.env).length=n:=by rfl)(hst:(assignEach es X.env).findIdx? (·.1)=none:=by rfl):PG X (.Tuple es k pos) (SG X.K n t):=by
 intro π s σ H v u Q I r hw;obtain⟨a,xs,e1,hq,hl,hw⟩:=hw;subst e1;cases r;obtain⟨its,rv,ht,hz⟩:=I.tuple hq;refine assign_Tuple_tuple (I.ok.hd hc) ht (by simp[hn,←hl,rv.length]) hst λh' hx=>?_;have I1:Inv X π σ H { s with heap:=h' }:=I.kept (t':=s.toks) λb o e=>hx b o (U2 (UN e)) e;exact h π _ σ H xs _ Q I1 (by simpa using rv) hw
def SH(to ti:TE)(t:Rq):TG:=λv σ H Q=>to σ H λo H1=>ti σ H1 λi H2=>t o i v H2 λH3=>Q σ H3
def EV(ho:PE X o to)(hi:PE X i ti)(hs:Ru X t)
  (ha:∀v,assign (.Subscript o i pos) X.env v=(do
   let ov ←WK [v] (eval o X.env)
   let iv ←WK [v,ov] (eval i X.env)
   standAt pos
   WK [v,ov,iv] (setItem ov iv v)
   release [v,ov,iv] []):=by intro _;rfl):PG X (.Subscript o i pos) (SH to ti t):=by
 intro π s σ H v u Q I r h;rw[ha];refine Uv (VP (dz (ho π s σ H _ I h) λov s1 ⟨x,H1,I1,r1,q1⟩=>?_));refine Uv (VP (dz (hi π s1 σ H1 _ I1 q1) λiv s2 ⟨y,H2,I2,r2,q2⟩=>?_));refine Uv (wpAny_standAt (Uv (VP (dz (hs π s2 σ H2 x y v ov iv u _ I2 r1 r2 r q2) λ_ s3 z9=>?_))));obtain⟨H3,I3,q3⟩:=z9;exact wpAny_release ⟨σ,H3,I3,q3⟩
def HB(te:TE)(g:TG):TS:=λD σ H=>te σ H λx H1=>g x σ H1 D.nx
def vM(he:PE X e te)(hg:PG X tg g)(hs:swapsWithSole [tg] e pos.line X.env=pure false:=by rfl)(hw:swappedStores [tg] e X.env=pure none:=by rfl)
  (h1:(assignEach [tg] X.env).map (·.2)=[assign tg X.env]:=by rfl):PS X (.Assign [tg] e pos) (HB te g):=by
 intro π s σ H D I h;refine wpAny_Assign_stores (dz (he π s σ H _ I h) λv s1 z9=>?_) hs hw;obtain⟨x,H1,I1,r1,q1⟩:=z9;rw[h1];exact dz (hg π s1 σ H1 x v _ I1 r1 q1) λ_ s2 q=>q
def nP(hN:X.N.Nodup)(hi:X.N[i]?=some x)(hx:Cm X.env.scope x)(he:PE X e te)(hs:VG e (some (.Name x pos')) pos.line X.env=pure false:=by rfl)(hf:X.fn x=true∨X.env.scope.names.lookup x=some .local := by first|exact .inl rfl|exact .inr rfl|assumption) :
  PS X (.Assign [.Name x pos'] e pos) (HB te (BP i)):=by
 intro π s σ H D I h;refine wpAny_Assign_Name (dz (he π s σ H _ I h) λv s1 z9=>?_) hs;obtain⟨y,H1,I1,r1,q1⟩:=z9;exact jr I1 hN hi hx r1 (λs2 I2=>⟨_,H1,I2,q1⟩) hf
def Sa(i j:Nat)(ta:TA):TS:=λD σ H=>ta σ H λvs H1=>∃v w,vs=[v,w]/\D.nx ((σ.set i (some v)).set j (some w)) H1
def LN{px py pt:Pos}{kt k2 pt2}(hc:X.calm=true)(hN:X.N.Nodup)(hi:X.N[i]?=some x)(hj:X.N[j]?=some y)(hij:i≠j)
  (hx:X.env.scope.names.lookup x=some .local)(hy:X.env.scope.names.lookup y=some .local)(ha:PA X [a,b] ta)
  (hw:swappedStores [.Tuple [.Name x px,.Name y py] kt pt] (.Tuple [a,b] k2 pt2) X.env=pure (some [x,y]))
  (hs:swapsWithSole [.Tuple [.Name x px,.Name y py] kt pt] (.Tuple [a,b] k2 pt2) pos.line X.env=pure false:=by rfl) :
  PS X (.Assign [.Tuple [.Name x px,.Name y py] kt pt] (.Tuple [a,b] k2 pt2) pos) (Sa i j ta):=by
 intro π s σ H D I h;rw[exec_Assign_arm];refine Uv (wpAny_standAt ?_);rw[hs];refine Uv (UY ?_);rw[if_neg (by decide)];refine Uv (Tuple_ (dz (ha _ π s σ H _ I h) λus s1 z9=>?_));obtain⟨vs,H1,I1,r1,q1⟩:=z9;obtain⟨v,w,e1,q1⟩:=q1;subst e1;obtain⟨u1,u2,rfl,rv,rw'⟩:∃u1 u2,us=[u1,u2]/\b3 v u1/\b3 w u2:=by
  cases r1 with
  |cons p q=>
   cases q with
   |cons p' q'=>
    cases q';exact⟨_,_,rfl,p,p'⟩
 refine wpAny_newObj_type ?_ (by show 2<=sizeLine;decide);have I2:Inv X π σ H1 { s1 with heap:=s1.heap.push { cls:=.type "tuple",data:=.seq [u1,u2].toArray } }:=I1.kept (t':=s1.toks) λb o e=>Uz _ e;rw[hw];refine Uv (UY ?_);show UR (UT X.prog X.w) X.A (do rule "assign.swapped-stores";let items ←unpackItems (.ref s1.heap.objs.size) 2 none;assignInOrder [λv=>bindName X.env y v,λv=>bindName X.env x v] items.reverse;pure Flow.next) _ _ _;refine Uv (wpAny_rule (Uv (unpackItems_tuple (items:=#[u1,u2]) (I.ok.hd hc) (Zb s1.heap _) λh' hx'=>?_)));have I3:=I2.kept (h':=h') (t':=s1.toks) λb o e=>hx' b o (U2 (UN e)) e;show UR _ _ (assignInOrder [λv=>bindName X.env y v,λv=>bindName X.env x v] [u2,u1] >>= λ_=>pure Flow.next) _ _ _;refine Uv (assignInOrder_cons (wpAny_bindName (jr I3 hN hj (.inl hy) rw' (λs2 I4=>?_) (.inr hy))));refine assignInOrder_cons (wpAny_bindName (jr I4 hN hi (.inl hx) rv (λs3 I5=>assignInOrder_nil (UY ?_)) (.inr hx)));rw[List.set_comm _ _ (Vj hij)]at I5;exact⟨_,H1,I5,q1⟩
end
section
variable {X:Cx}{pos:Pos}
def Lm(c:TT)(tb:TS):TS:=λD σ H=>∃W:Nat->St->Hp->Prop,(∃m,W m σ H)/\∀m σ H,W m σ H ->
 c σ H λb H1=>if b=true then ∃N:St->Hp->Prop,(∀σ' H',N σ' H'->∃m',m' < m/\W m' σ' H')/\tb { D with nx:=N,ct:=N,bk:=D.nx } σ H1 else D.nx σ H1
def EN(hp:PassesOwn (UT X.prog X.w) X.A X.env X.xe)(hc:PT X c tc)(hb:vm X body tb):PS X (.While c body [] pos) (Lm tc tb):=by
 intro π s σ H D I h;obtain⟨W,⟨m0,w0⟩,turn⟩:=h;refine wpAny_While (codeAny_whileLoop (λn s'=>∃σ' H',Inv X π σ' H' s'/\W n σ' H') ?_ m0 ⟨σ,H,I,w0⟩);rintro n s1 ⟨σ1,H1,I1,w1⟩;refine wpAny_passesOwn hp (dz (hc π s1 σ1 H1 _ I1 (turn n σ1 H1 w1)) λb s2 z9=>?_);obtain⟨H2,I2,q2⟩:=z9;cases b with
 |true=>
  obtain⟨N,hN,q2⟩:=q2;rw[if_pos rfl];refine wpAny_passesOwn hp (dz (hb π s2 σ1 H2 _ I2 q2) λf s3 q3=>?_);cases f with
  |next=>
   obtain⟨σ3,H3,I3,n3⟩:=q3;obtain⟨m',hm,w3⟩:=hN σ3 H3 n3;exact⟨m',hm,σ3,H3,I3,w3⟩
  |cont=>
   obtain⟨σ3,H3,I3,n3⟩:=q3;obtain⟨m',hm,w3⟩:=hN σ3 H3 n3;exact⟨m',hm,σ3,H3,I3,w3⟩
  |brk|ret v=>exact q3
 |false=>
  rw[if_neg VO];exact wpAny_execs_nil ⟨σ1,H2,I2,q2⟩
end
structure It where
 go:Nat->Hp->Prop
 yld:Nat->Hp->V->Hp->Prop
 stop:Nat->Hp->Prop
def nE(X:Cx)(π:List (Uy×Obj))(H:Hp)(b:Uy):Prop :=
 H b=none/\b≠X.env.locals/\b∉X.fs/\(b∈X.ex∨X.sf.heap.objs.size<=b)/\(∀x c,X.env.cells.lookup x=some c->c≠b)/\∀p∈X.pn++π,p.1≠b
def Inv.fpOk(I:Inv X π σ H s)(hb:s.heap.objs.size<=b)(hn:H' b=none):nE X π H' b:=by
 refine⟨hn,Nat.ne_of_gt (UA I.lt hb),I.nofs hb,.inr (U8 I.sz hb),λx c e z=>?_,λp hp z=>?_⟩
 .obtain⟨v,q⟩:=I.cell x c e
  exact absurd (UA q.lt (by rw[z];exact hb)) (WE _)
 .exact absurd (UA (UN (I.pin p hp).1) (by rw[z];exact hb)) (WE _)
structure AK (P:Vt) (w:VH) (K:Ur) (tg:Vl) (J:It) (fp:List Uy) (it:Uy) (tn:Nat->UO->Prop):Prop where
 mem:it∈fp
 obj:∀i h,tn i h->∀b∈fp,∃o,h.get? b=some o/\∀v,o.data≠.cell v
 keep:∀i h h',tn i h->(∀b∈fp,∀o,h.get? b=some o->h'.get? b=some o)->tn i h'
 item:∀(X:Cx),X.prog=P->X.w=w->X.K=K->X.calm=true->∀(i:Nat) (π:List (Uy×Obj)) (s:UD) (σ:St) (H:Hp) (E:Up->UD->Prop),Inv X π σ H s->(∀b∈fp,nE X π H b)->tn i s.heap->J.go i H ->
  UR (UT P w) X.A (Zf (.ref it)) (λr s1=>∃u,r=some u /\
   UR (UT P w) X.A (letOwnedTupleGo tg (.ref it) u) (λ_ s2=>∃x H',Inv X π σ H' s2/\b3 x u/\J.yld i H x H'/\tn (i+1) s2.heap/\∀b∈fp,H' b=none) E s1) E s
 done:∀(X:Cx),X.prog=P->X.w=w->X.K=K->X.calm=true->∀(i:Nat) (π:List (Uy×Obj)) (s:UD) (σ:St) (H:Hp) (E:Up->UD->Prop),Inv X π σ H s->(∀b∈fp,nE X π H b)->tn i s.heap->J.stop i H ->
  UR (UT P w) X.A (Zf (.ref it)) (λr s1=>r=none/\Inv X π σ H s1) E s
 self:∀(A:Vn) (i:Nat) (s:UD) (Q:Up->UD->Prop) (E:Up->UD->Prop),tn i s.heap->Q (.ref it) s->UR (UT P w) A (pyIter (.ref it)) Q E s
abbrev TI:=St->Hp->(It->Hp->Prop)->Prop
noncomputable def S8(X:Cx) (π:List (Uy×Obj)) (σ:St) (tg:Vl) (R:It->Hp->Prop) (itv:Up) (s2:UD):Prop :=
 ∃(it:Uy) (fp:List Uy) (tn:Nat->UO->Prop) (J:It) (H':Hp),itv=.ref it/\Inv X π σ H' s2/\AK X.prog X.w X.K tg J fp it tn/\tn 0 s2.heap/\(∀b∈fp,nE X π H' b)/\R J H'
noncomputable def PI(X:Cx) (tg iter:Vl) (wi:TI):Prop :=
 ∀(π:List (Uy×Obj)) (s:UD) (σ:St) (H:Hp) (R:It->Hp->Prop),Inv X π σ H s->wi σ H R ->
  UR (UT X.prog X.w) X.A (eval iter X.env) (λv s1=>UR (UT X.prog X.w) X.A (pyIter v) (S8 X π σ tg R) X.xe s1) X.xe s
def yA{A:Vn}(ho:s.heap.get? it=some o)(hc:o.cls=.type n)(hd:o.data=.fields vs)
  (hn:["enumerate","zip","dict_itemiterator","dict_reverseitemiterator","odict_iterator","itertools.zip_longest","itertools.pairwise"].contains n=false)(hQ:Q () s):UR M A (letOwnedTupleGo tg (.ref it) u) Q E s:=by
 unfold letOwnedTupleGo;cases tg<;>first
  |exact UY hQ
  |(cases u<;>first
    |exact UY hQ
    |(refine Uv (wpAny_load ho ?_);rw[hc,hd];show UR M A (if(["enumerate","zip","dict_itemiterator","dict_reverseitemiterator","odict_iterator","itertools.zip_longest","itertools.pairwise"].contains n&&vs[0]?==some (rawInt _))=true then _ else _) Q E s;rw[if_neg (by intro h;rw[hn,Ww]at h;cases h)];exact UY hQ))
def RA(K:Ur)(a:Uy):It :=
 ⟨λi H=>∃xs x,fM K H a xs/\xs[i]?=some x,λi H x H'=>H'=H/\∀xs,fM K H a xs->xs[i]?=some x,λi H=>∃xs,fM K H a xs/\xs.length<=i⟩
def TL(K:Ur)(a:Uy):It :=
 ⟨λi H=>∃xs x,kC K H a xs/\xs[i]?=some x,λi H x H'=>H'=H/\∀xs,kC K H a xs->xs[i]?=some x,λi H=>∃xs,kC K H a xs/\xs.length<=i⟩
def N6(lo:Int)(n:Nat):It:=⟨λi _=>i<n,λi H x H'=>H'=H/\x=.int (lo+i),λi _=>n<=i⟩
def Cw{P:Vt}{w:VH}{K:Ur}{tg:Vl}(a it:Uy):AK P w K tg (RA K a) [it] it (λi h=>h.IsListIter it a i) where
 mem:=by simp
 obj:=λi h st b hb=>by
  have e:b=it:=by simpa using hb
  subst e;obtain⟨o,e,c,d⟩:=st;exact⟨o,e,λv z=>by rw[d]at z;cases z⟩
 keep:=λi h h' st k=>st.at λo e=>k it (by simp) o e
 item:=by
  intro X hP hw hK hc i π s σ H E I hf st hg;subst hP hw hK;obtain⟨xs,x,hq,hx⟩:=hg;obtain⟨its,rv,p,hz⟩:=I.list hq;obtain⟨u,hu,ru⟩:=rv.get hx;obtain⟨f0,f1,f2,f3,f4,f5⟩:=hf it (by simp);refine wpAny_pyNext_list_item st p.isList (x:=u) (by simpa using hu) λh' st' sb=>?_;have I1:Inv X π σ H { s with heap:=h' }:=I.turned (t':=s.toks) (λb o hb e=>(sb.2 b hb).trans e) f0 f1 f3 f4 f5;obtain⟨o,e,c,d⟩:=id st';exact⟨u,rfl,yA (s:={ s with heap:=h' }) e c d (by decide) ⟨x,H,I1,ru,⟨rfl,λys hy=>by rw[I.list_inj hy hq];exact hx⟩,st',λb hb=>(hf b hb).1⟩⟩
 done:=by
  intro X hP hw hK hc i π s σ H E I hf st hg;subst hP hw hK;obtain⟨xs,hq,hx⟩:=hg;obtain⟨its,rv,p,hz⟩:=I.list hq;obtain⟨f0,f1,f2,f3,f4,f5⟩:=hf it (by simp);have hl:=rv.length;exact wpAny_pyNext_list_end (I.ok.hd hc) st p.isList (by simp;omega) λh' eb=>⟨rfl,I.turned (t':=s.toks) (λb o hb e=>eb b o hb e) f0 f1 f3 f4 f5⟩
 self:=λ_ _ _ _ _ st h=>wpAny_pyIter_listiter st h
def zo{P:Vt}{w:VH}{K:Ur}{tg:Vl}(a it:Uy):AK P w K tg (TL K a) [it] it (λi h=>h.IsTupleIter it a i) where
 mem:=by simp
 obj:=λi h st b hb=>by
  have e:b=it:=by simpa using hb
  subst e;obtain⟨o,e,c,d⟩:=st;exact⟨o,e,λv z=>by rw[d]at z;cases z⟩
 keep:=λi h h' st k=>st.at λo e=>k it (by simp) o e
 item:=by
  intro X hP hw hK hc i π s σ H E I hf st hg;subst hP hw hK;obtain⟨xs,x,hq,hx⟩:=hg;obtain⟨its,rv,p,hz⟩:=I.tuple hq;obtain⟨u,hu,ru⟩:=rv.get hx;obtain⟨f0,f1,f2,f3,f4,f5⟩:=hf it (by simp);refine wpAny_pyNext_tuple_item st (show s.heap.IsTuple a its.toArray from p) (x:=u) (by simpa using hu) λh' st' sb=>?_;have I1:Inv X π σ H { s with heap:=h' }:=I.turned (t':=s.toks) (λb o hb e=>(sb.2 b hb).trans e) f0 f1 f3 f4 f5;obtain⟨o,e,c,d⟩:=id st';exact⟨u,rfl,yA (s:={ s with heap:=h' }) e c d (by decide) ⟨x,H,I1,ru,⟨rfl,λys hy=>by rw[I.tuple_inj hy hq];exact hx⟩,st',λb hb=>(hf b hb).1⟩⟩
 done:=by
  intro X hP hw hK hc i π s σ H E I hf st hg;subst hP hw hK;obtain⟨xs,hq,hx⟩:=hg;obtain⟨its,rv,p,hz⟩:=I.tuple hq;obtain⟨f0,f1,f2,f3,f4,f5⟩:=hf it (by simp);have hl:=rv.length;exact wpAny_pyNext_tuple_end (I.ok.hd hc) st (show s.heap.IsTuple a its.toArray from p) (by simp;omega) λh' eb=>⟨rfl,I.turned (t':=s.toks) (λb o hb e=>eb b o hb e) f0 f1 f3 f4 f5⟩
 self:=λ_ _ _ _ _ st h=>wpAny_pyIter_tupleiter st h
def zp{P:Vt}{w:VH}{K:Ur}{tg:Vl}(it:Uy)(lo:Int)(n:Nat):AK P w K tg (N6 lo n) [it] it (λi h=>IsRangeIter h it (lo+(i:Nat)*1) ((n:Int)-(i:Nat)) 1) where
 mem:=by simp
 obj:=λi h st b hb=>by
  have e:b=it:=by simpa using hb
  subst e;exact⟨_,st,λv z=>by
   have z':Data.fields _=Data.cell v:=z;cases z'⟩
 keep:=λi h h' st k=>k it (by simp) _ st
 item:=by
  intro X hP hw hK hc i π s σ H E I hf st hg;subst hP hw hK;obtain⟨f0,f1,f2,f3,f4,f5⟩:=hf it (by simp);have W:=Walks.range (prog:=X.prog) (w:=X.w) (I.ok.hd hc) it lo 1 n;refine W.item i s _ _ hg st λv h' tk hv st' kk=>?_;obtain⟨t,rfl⟩:=hv;have I1:Inv X π σ H { s with heap:=h',toks:=tk }:=I.turned (λb o hb e=>kk b o (by simpa using hb) e) f0 f1 f3 f4 f5;refine⟨_,rfl,yA (s:={ s with heap:=h',toks:=tk }) (n:="range_iterator") st' rfl rfl (by decide) ⟨.int (lo+i),H,I1,⟨t,?_⟩,⟨rfl,rfl⟩,st',λb hb=>(hf b hb).1⟩⟩;rw[Int.mul_one]
 done:=by
  intro X hP hw hK hc i π s σ H E I hf st hg;subst hP hw hK;obtain⟨f0,f1,f2,f3,f4,f5⟩:=hf it (by simp);exact wpAny_pyNext_range_end (I.ok.hd hc) st (by have:n<=i:=hg;omega) λh' eb=>⟨rfl,I.turned (t':=s.toks) (λb o hb e=>eb b o hb e) f0 f1 f3 f4 f5⟩
 self:=λ_ _ _ _ _ st h=>wpAny_pyIter_rangeiter st h
section
variable {X:Cx}{tg:Vl}
def Qf(K:Ur)(tl:TE):TI:=λσ H R=>tl σ H λx H1=>∃a,x=.ref a/\(∃xs,fM K H1 a xs)/\R (RA K a) H1
def SA(K:Ur)(tl:TE):TI:=λσ H R=>tl σ H λx H1=>∃a,x=.ref a/\(∃xs,kC K H1 a xs)/\R (TL K a) H1
def Bi(hl:PE X l tl):PI X tg l (Qf X.K tl):=by
 intro π s σ H R I h;refine dz (hl π s σ H _ I h) λv s1 ⟨x,H1,I1,r1,q1⟩=>?_;obtain⟨a,e,⟨xs,hq⟩,q⟩:=q1;subst e;cases r1;obtain⟨its,rv,p,hz⟩:=I1.list hq;refine wpAny_pyIter_list p.isList ?_;refine⟨s1.heap.objs.size,[s1.heap.objs.size],_,_,H1,rfl,I1.kept (t':=s1.toks) λb o e=>Uz _ e,Cw a _,⟨_,Vr _ rfl,rfl,rfl⟩,λb hb=>?_,q⟩;have e:b=s1.heap.objs.size:=by simpa using hb
 subst e;exact I1.fpOk (UC _) (I1.hok.fresh (UC _))
def LO(hl:PE X l tl):PI X tg l (SA X.K tl):=by
 intro π s σ H R I h;refine dz (hl π s σ H _ I h) λv s1 ⟨x,H1,I1,r1,q1⟩=>?_;obtain⟨a,e,⟨xs,hq⟩,q⟩:=q1;subst e;cases r1;obtain⟨its,rv,p,hz⟩:=I1.tuple hq;refine wpAny_pyIter_tuple (show s1.heap.IsTuple a its.toArray from p) ?_;refine⟨s1.heap.objs.size,[s1.heap.objs.size],_,_,H1,rfl,I1.kept (t':=s1.toks) λb o e=>Uz _ e,zo a _,⟨_,Vr _ rfl,rfl,rfl⟩,λb hb=>?_,q⟩;have e:b=s1.heap.objs.size:=by simpa using hb
 subst e;exact I1.fpOk (UC _) (I1.hok.fresh (UC _))
def EC{lo hi:Int}(I:Inv X π σ H s)(h1:-(2 ^ 62)<=lo)(h2:lo<2 ^ 62)(h3:-(2 ^ 62)<=hi)(h4:hi<2 ^ 62)
  (q:R (N6 lo (hi-lo).toNat) H):UR (UT X.prog X.w) X.A (pyIter (.ref s.heap.objs.size)) (S8 X π σ tg R) E { s with heap:=s.heap.push { cls:=.type "range",data:=.fields #[.int lo t,.int hi u,.int 1 v] },toks:=tk }:=by
 refine wpAny_pyIter_range (IsRange.new ..) (small_one h1 h2 h3 h4) ?_;have I1:Inv X π σ H { s with heap:=s.heap.push { cls:=.type "range",data:=.fields #[.int lo t,.int hi u,.int 1 v] },toks:=tk }:=I.kept λb o e=>Uz _ e;refine⟨(s.heap.push { cls:=.type "range",data:=.fields #[.int lo t,.int hi u,.int 1 v] }).objs.size,[(s.heap.push { cls:=.type "range",data:=.fields #[.int lo t,.int hi u,.int 1 v] }).objs.size],_,_,H,rfl,
  I1.kept (t':=tk) λb o e=>Uz _ e,zp _ lo (hi-lo).toNat,?_,λb hb=>?_,q⟩
 .have e1:lo+((0:Nat):Int)*1=lo:=by simp
  have e2:(((hi-lo).toNat:Nat):Int)-((0:Nat):Int)=Builtin.Range.rangeSize lo hi 1:=by rw[rangeSize_one];split<;>omega
  show IsRangeIter _ _ (lo+((0:Nat):Int)*1) ((((hi-lo).toNat:Nat):Int)-((0:Nat):Int)) 1;rw[e1,e2];exact Vr _ rfl
 .have e:b=(s.heap.push { cls:=.type "range",data:=.fields #[.int lo t,.int hi u,.int 1 v] }).objs.size:=by simpa using hb
  subst e;exact I1.fpOk (UC _) (I1.hok.fresh (UC _))
def Qe(ta:TA):TI:=λσ H R=>ta σ H λvs H1=>∃j:Int,vs=[.int j]/\-(2 ^ 62)<=j/\j<2 ^ 62/\R (N6 0 j.toNat) H1
def nQ(hg:Gl X "range")(hm:X.mg "range"=none)(ha:PA X [a] ta)(hs:Uw [a] X.env=[(false,eval a X.env)]:=by rfl):PI X tg (.Call (.Name "range" p) [a] [] pos) (Qe ta):=by
 intro π s σ H R I h;refine Call_ (nW I hg hm boot_range (WL (dz (ha pos π s σ H _ I h) λus s1 z9=>?_) hs rfl));obtain⟨vs,H1,I1,r1,q1⟩:=z9;obtain⟨j,e,q1,q2,q⟩:=q1;subst e;cases r1 with
 |cons r rr=>
  cases rr;obtain⟨t,rfl⟩:=r;exact call_range_1 (EC I1 (by omega) (by omega) q1 q2 (by simpa using q))
noncomputable def Sj(wi:TI) (g:TG) (tb:TS):TS:=λD σ H=>wi σ H λJ H1=>∃W:Nat->Nat->St->Hp->Prop,(∃m,W 0 m σ H1)/\∀i m σ H,W i m σ H ->
 (J.stop i H/\D.nx σ H)∨(J.go i H/\∃N:St->Hp->Prop,(∀σ' H',N σ' H'->∃m',m' < m/\W (i+1) m' σ' H')/\∀x H',J.yld i H x H'->g x σ H' λσ2 H2=>tb { D with nx:=N,ct:=N,bk:=D.nx } σ2 H2)
def qH(fp:List Uy)(h:UO):List (Uy×Obj):=fp.filterMap λb=>(h.get? b).map λo=>(b,o)
def j7{h:UO}(hb:b∈fp)(e:h.get? b=some o):(b,o)∈qH fp h:=Xz.mpr ⟨b,hb,by rw[e];rfl⟩
def CP{h:UO}(hp:p∈qH fp h):p.1∈fp/\h.get? p.1=some p.2:=by
 obtain⟨b,hb,e⟩:=Xz.mp hp;cases q:h.get? b with
 |none=>rw[q]at e;cases e
 |some o=>
  rw[q]at e;have e':(b,o)=p:=Vu e;subst e';exact⟨hb,q⟩
def Inv.pinned(I:Inv X π σ H s)(hf:∀b∈fp,nE X π H b)(ho:∀b∈fp,∃o,s.heap.get? b=some o/\∀v,o.data≠.cell v):Inv X (π++qH fp s.heap) σ H s :=
 I.pins_of λp hp=>(U6.mp hp).elim (λz=>I.pin p (Vi _ z)) λz=>by
  obtain⟨hb,e⟩:=CP z;obtain⟨f0,f1,f2,_⟩:=hf p.1 hb;obtain⟨o,e',d⟩:=ho p.1 hb;rw[e]at e';cases e';exact⟨e,f0,f1,f2,d⟩
def Inv.unpinned{π pl:List (Uy×Obj)}(I:Inv X (π++pl) σ H s):Inv X π σ H s:=I.pins_of λp hp=>I.pin p (Vi _ (VL _ hp))
def vL(hp:PassesOwn (UT X.prog X.w) X.A X.env X.xe)(hc:X.calm=true)(hi:PI X tg iter wi)(hg:PG X tg g)(hb:vm X body tb)
  (hs:∀x,foldedSetIterable iter X.env x=pure x:=by intro _;rfl):PS X (.For tg iter body [] pos) (Sj wi g tb):=by
 intro π s σ H D I h;refine wpAny_For (dz (hi π s σ H _ I h) λv s1 h1=>dz h1 λitv s2 h2=>?_) hs;obtain⟨it,fp,tn,J,H2,e,I2,T,st2,f2,W,⟨m0,w0⟩,turn⟩:=h2;subst e;have stat:∀{H':Hp},(∀b∈fp,H' b=none)->∀b∈fp,nE X π H' b:=λhn b hb=>⟨hn b hb,(f2 b hb).2⟩
 refine codeAny_forLoop_any (λn s'=>∃i σ' H',Inv X π σ' H' s'/\tn i s'.heap/\(∀b∈fp,H' b=none)/\W i n σ' H') ?_ m0 ⟨0,σ,H2,I2,st2,λb hb=>(f2 b hb).1,w0⟩;rintro n s3 ⟨i,σ3,H3,I3,st3,fr3,w3⟩;rcases turn i n σ3 H3 w3 with⟨stop,qn⟩|⟨go,N,hN,step⟩
 .refine wpAny_passesOwn hp (dz (T.done X rfl rfl rfl hc i π s3 σ3 H3 X.xe I3 (stat fr3) st3 stop) λr s4 ⟨hr,I4⟩=>?_)
  subst hr;exact wpAny_execs_nil ⟨σ3,H3,I4,qn⟩
 .refine wpAny_passesOwn hp (dz (T.item X rfl rfl rfl hc i π s3 σ3 H3 X.xe I3 (stat fr3) st3 go) λr s4 ⟨u,hr,h4⟩=>?_)
  subst hr;refine wpAny_passesOwn hp (dz h4 λ_ s5 ⟨x,H5,I5,r5,y5,st5,fr5⟩=>?_);have I5':=I5.pinned (stat fr5) (T.obj _ _ st5);refine wpAny_passesOwn hp (dz (hg _ s5 σ3 H5 x u _ I5' r5 (step x H5 y5)) λ_ s6 ⟨σ6,H6,I6,q6⟩=>?_);refine wpAny_passesOwn hp (dz (hb _ s6 σ6 H6 _ I6 q6) λf s7 q7=>?_);have again:∀{σ7:St}{H7:Hp},Inv X (π++qH fp s5.heap) σ7 H7 s7->N σ7 H7->∃m,m<n/\∃i σ' H',Inv X π σ' H' s7/\tn i s7.heap/\(∀b∈fp,H' b=none)/\W i m σ' H':=λ{σ7 H7} I7 n7=>by
   obtain⟨m',hm,w7⟩:=hN σ7 H7 n7;refine⟨m',hm,i+1,σ7,H7,I7.unpinned,T.keep _ _ _ st5 λb hb o e=>(I7.pin (b,o) (Vi _ (Vi _ (j7 hb e)))).1,λb hb=>?_,w7⟩;obtain⟨o,e,d⟩:=T.obj _ _ st5 b hb;exact(I7.pin (b,o) (Vi _ (Vi _ (j7 hb e)))).2.1
  cases f with|next|cont=>obtain⟨σ7,H7,I7,n7⟩:=q7;exact again I7 n7|brk=>obtain⟨σ7,H7,I7,q7⟩:=q7;exact⟨σ7,H7,I7.unpinned,q7⟩|ret v=>obtain⟨x7,σ7,H7,I7,r7,q7⟩:=q7;exact⟨x7,σ7,H7,I7.unpinned,r7,q7⟩
end
def FJ{K:Ur}{g:TG}{tb:TS}{D:kE}(Pv:Nat->St->Hp->Prop)(h0:Pv 0 σ H)(hl:∀i σ H,i<=xs.length->Pv i σ H->fM K H a xs)
  (hs:∀i x σ H,xs[i]?=some x->Pv i σ H->g x σ H λσ2 H2=>tb { D with nx:=Pv (i+1),ct:=Pv (i+1),bk:=D.nx } σ2 H2)(hd:∀σ H,Pv xs.length σ H->D.nx σ H) :
  ∃W:Nat->Nat->St->Hp->Prop,(∃m,W 0 m σ H)/\∀i m σ H,W i m σ H ->
   ((RA K a).stop i H/\D.nx σ H)∨((RA K a).go i H/\∃N:St->Hp->Prop,(∀σ' H',N σ' H'->∃m',m' < m/\W (i+1) m' σ' H')/\∀x H',(RA K a).yld i H x H'->g x σ H' λσ2 H2=>tb { D with nx:=N,ct:=N,bk:=D.nx } σ2 H2):=by
 refine⟨λi m σ H=>m=xs.length-i/\i<=xs.length/\Pv i σ H,⟨xs.length,by simp,Wx _,h0⟩,?_⟩;rintro i m σ H ⟨rfl,hi,p⟩;have q:=hl i σ H hi p
 by_cases hlt:i<xs.length
 .refine .inr ⟨⟨xs,xs[i],q,by simp[hlt]⟩,Pv (i+1),λσ' H' p'=>⟨xs.length-(i+1),by omega,rfl,hlt,p'⟩,λx H' y=>?_⟩
  obtain⟨e,y⟩:=y;subst e;exact hs i x σ _ (y xs q) p
 .have e:i=xs.length:=by omega
  subst e;exact .inl ⟨⟨xs,q,UC _⟩,hd σ H p⟩
def C8{lo:Int}{g:TG}{tb:TS}{D:kE}(Pv:Nat->St->Hp->Prop)(h0:Pv 0 σ H)
  (hs:∀i σ H,i<n->Pv i σ H->g (.int (lo+i)) σ H λσ2 H2=>tb { D with nx:=Pv (i+1),ct:=Pv (i+1),bk:=D.nx } σ2 H2)(hd:∀σ H,Pv n σ H->D.nx σ H) :
  ∃W:Nat->Nat->St->Hp->Prop,(∃m,W 0 m σ H)/\∀i m σ H,W i m σ H ->
   ((N6 lo n).stop i H/\D.nx σ H)∨((N6 lo n).go i H/\∃N:St->Hp->Prop,(∀σ' H',N σ' H'->∃m',m' < m/\W (i+1) m' σ' H')/\∀x H',(N6 lo n).yld i H x H'->g x σ H' λσ2 H2=>tb { D with nx:=N,ct:=N,bk:=D.nx } σ2 H2):=by
 refine⟨λi m σ H=>m=n-i/\i<=n/\Pv i σ H,⟨n,by simp,Wx _,h0⟩,?_⟩;rintro i m σ H ⟨rfl,hi,p⟩
 by_cases hlt:i<n
 .refine .inr ⟨hlt,Pv (i+1),λσ' H' p'=>⟨n-(i+1),by omega,rfl,hlt,p'⟩,λx H' y=>?_⟩
  obtain⟨e,y⟩:=y;subst e y;exact hs i σ _ hlt p
 .have e:i=n:=by omega
  subst e;exact .inl ⟨UC _,hd σ H p⟩
abbrev R2:=V->V->Hp->VK->Prop
def gr(X:Cx)(f:Up->Up->Sem Up)(r:R2):Prop :=
 ∀(π:List (Uy×Obj)) (s:UD) (σ:St) (H:Hp) (x y:V) (v u:Up) (Q:VK),Inv X π σ H s->b3 x v->b3 y u->r x y H Q ->
  UR (UT X.prog X.w) X.A (f v u) (EP X π σ Q) X.xe s
def RS(X:Cx)(f:Up->Sem Up)(r:V->Hp->VK->Prop):Prop :=
 ∀(π:List (Uy×Obj)) (s:UD) (σ:St) (H:Hp) (x:V) (v:Up) (Q:VK),Inv X π σ H s->b3 x v->r x H Q ->
  UR (UT X.prog X.w) X.A (f v) (EP X π σ Q) X.xe s
def gN(X:Cx)(f:Up)(r:al->Hp->VK->Prop):Prop :=
 ∀(π:List (Uy×Obj)) (s:UD) (σ:St) (H:Hp) (xs:al) (us:List Up) (Q:VK),Inv X π σ H s->bz xs us->r xs H Q ->
  UR (UT X.prog X.w) X.A (call f us) (EP X π σ Q) X.xe s
def Um(X:Cx)(r:V->Hp->(Bool->Hp->Prop)->Prop):Prop :=
 ∀(π:List (Uy×Obj)) (s:UD) (σ:St) (H:Hp) (x:V) (v:Up) (Q:Bool->Hp->Prop),Inv X π σ H s->b3 x v->r x H Q ->
  UR (UT X.prog X.w) X.A (truthy v) (TP X π σ Q) X.xe s
def Ob(r:R2)(ta tb:TE):TE:=λσ H Q=>ta σ H λx H1=>tb σ H1 λy H2=>r x y H2 Q
def TV(r:V->Hp->VK->Prop)(ta:TE):TE:=λσ H Q=>ta σ H λx H1=>r x H1 Q
def rI(C:Int->Int->Prop)(g:Int->Int->V):R2:=λx y H Q=>∃i j,x=.int i/\y=.int j/\C i j/\Q (g i j) H
def GU(g:Int->Int->V):R2:=λx y H Q=>∃i j,x=.int i/\y=.int j/\Q (g i j) H
def rU(g:Int->V):V->Hp->VK->Prop:=λx H Q=>∃i,x=.int i/\Q (g i) H
section
variable {X:Cx}{a b c:Vl}{ta tb tc:TE}{pos:Pos}
def NV(ha:PE X a ta)(hb:PE X b tb){R:V->V->Hp->Prop}(I:Inv X π σ H s)
  (h:ta σ H λx H1=>tb σ H1 λy H2=>R x y H2){f:Up->Up->Sem Up}
  (hf:∀v u s2 x y H2,Inv X π σ H2 s2->b3 x v->b3 y u->R x y H2->UR (UT X.prog X.w) X.A (f v u) Q X.xe s2) :
  UR (UT X.prog X.w) X.A (eval a X.env) (λv sg=>UR (UT X.prog X.w) X.A (eval b X.env) (λu si=>UR (UT X.prog X.w) X.A (f v u) Q X.xe si) X.xe sg) X.xe s:=by
 refine dz (ha π s σ H _ I h) λv s1 ⟨x,H1,I1,r1,q1⟩=>?_;refine dz (hb π s1 σ H1 _ I1 q1) λu s2 ⟨y,H2,I2,r2,q2⟩=>?_;exact hf v u s2 x y H2 I2 r1 r2 q2
def EX(ho:gr X (binaryOp op) r)(ha:PE X a ta)(hb:PE X b tb):PE X (.BinOp a op b pos) (Ob r ta tb):=by
 intro π s σ H Q I h;exact wpAny_BinOp (NV ha hb I h λv u s2 x y H2 I2 rx ry q=>ho π s2 σ H2 x y v u Q I2 rx ry q)
def KI(ho:RS X (unaryOp op) r)(ha:PE X a ta):PE X (.UnaryOp op a pos) (TV r ta):=by
 intro π s σ H Q I h;exact UnaryOp_ (dz (ha π s σ H _ I h) λv s1 ⟨x,H1,I1,r1,q1⟩=>ho π s1 σ H1 x v Q I1 r1 q1)
def RL{g:Int->Int->Int}
  (rule:∀(i j:Int) (t u:Tok) (s:UD) (Q:Up->UD->Prop) (E:Up->UD->Prop),C i j->Q (.int (g i j) s.toks) { s with toks:=s.toks+1 }->UR (UT X.prog X.w) X.A (f (.int i t) (.int j u)) Q E s) :
  gr X f (rI C λi j=>.int (g i j)):=by
 intro π s σ H x y v u Q I rx ry h;obtain⟨i,j,rfl,rfl,hc,q⟩:=h;obtain⟨t,rfl⟩:=rx;obtain⟨t',rfl⟩:=ry;exact rule i j t t' s _ _ hc ⟨.int (g i j),H,I.tok _,⟨_,rfl⟩,q⟩
def Pz{g:Int->Int->Int}
  (rule:∀(i j:Int) (t u:Tok) (s:UD) (Q:Up->UD->Prop) (E:Up->UD->Prop),Q (.int (g i j) s.toks) { s with toks:=s.toks+1 }->UR (UT X.prog X.w) X.A (f (.int i t) (.int j u)) Q E s) :
  gr X f (GU λi j=>.int (g i j)):=by
 intro π s σ H x y v u Q I rx ry h;obtain⟨i,j,rfl,rfl,q⟩:=h;obtain⟨t,rfl⟩:=rx;obtain⟨t',rfl⟩:=ry;exact rule i j t t' s _ _ ⟨.int (g i j),H,I.tok _,⟨_,rfl⟩,q⟩
def Ib{g:Int->Int->Bool}
  (rule:∀(i j:Int) (t u:Tok) (s:UD) (Q:Up->UD->Prop) (E:Up->UD->Prop),Q (.bool (g i j)) s->UR (UT X.prog X.w) X.A (f (.int i t) (.int j u)) Q E s) :
  gr X f (GU λi j=>.bl (g i j)):=by
 intro π s σ H x y v u Q I rx ry h;obtain⟨i,j,rfl,rfl,q⟩:=h;obtain⟨t,rfl⟩:=rx;obtain⟨t',rfl⟩:=ry;exact rule i j t t' s _ _ ⟨.bl (g i j),H,I,rfl,q⟩
def Te(i j:Int):Prop:=0<=j/\j<=1000000/\i.natAbs<2 ^ 64
def RE(i j:Int):Prop:=(-(2 ^ 64)<i/\i<2 ^ 64)∨(-(2 ^ 64)<j/\j<2 ^ 64)
def RE.ok(h:RE i j):IntMulOk i j:=by
 rcases h with⟨h1,h2⟩|⟨h1,h2⟩
 .exact .of_left (intBits_le_64 h1 h2)
 .exact .of_right (intBits_le_64 h1 h2)
def E4:gr X (binaryOp .Add) (GU λi j=>.int (i+j)):=Pz λ_ _ _ _ _ _ _ q=>add_int q
def L6:gr X (binaryOp .Sub) (GU λi j=>.int (i-j)):=Pz λ_ _ _ _ _ _ _ q=>sub_int q
def Br:gr X (binaryOp .Mod) (rI (λ_ j=>j≠0) λi j=>.int (i.fmod j)):=RL λ_ _ _ _ _ _ _ hc q=>mod_int' hc q
def L8:gr X (binaryOp .Pow) (rI Te λi j=>.int (i ^ j.toNat)):=RL λ_ _ _ _ _ _ _ hc q=>pow_int_small hc.1 hc.2.1 hc.2.2 q
def TQ{g:Int->Int}
  (rule:∀(i:Int) (t:Tok) (s:UD) (Q:Up->UD->Prop) (E:Up->UD->Prop),Q (.int (g i) s.toks) { s with toks:=s.toks+1 }->UR (UT X.prog X.w) X.A (f (.int i t)) Q E s) :
  RS X f (rU λi=>.int (g i)):=by
 intro π s σ H x v Q I rx h;obtain⟨i,rfl,q⟩:=h;obtain⟨t,rfl⟩:=rx;exact rule i t s _ _ ⟨.int (g i),H,I.tok _,⟨_,rfl⟩,q⟩
def D6:RS X (unaryOp .USub) (rU λi=>.int (-i)):=TQ λ_ _ _ _ _ q=>neg_int q
end
section
variable {X:Cx}{a b c:Vl}{ta tb tc:TE}{pos:Pos}
def Ak(I:Inv X π σ H s)(q:Q (.bl k) H)(e:k=k'):EP X π σ Q (.bool k') s:=by
 subst e;exact⟨.bl k,H,I,rfl,q⟩
def qI:gr X (Vw .Lt) (GU λi j=>.bl (decide (i<j))):=Ib λ_ _ _ _ _ _ _ q=>lt_int q
def qJ:gr X (Vw .LtE) (GU λi j=>.bl (decide (i<=j))):=Ib λ_ _ _ _ _ _ _ q=>le_int q
def uC:gr X (Vw .Gt) (GU λi j=>.bl (decide (j<i))):=Ib λ_ _ _ _ _ _ _ q=>gt_int q
def Bs:gr X (Vw .GtE) (GU λi j=>.bl (decide (j<=i))):=Ib λ_ _ _ _ _ _ _ q=>ge_int q
def CL:gr X (Vw .In) (λx y H Q=>∃i j,x=.str i/\y=.str j/\Q (.bl (!(Wv j i 0 j.length 1).isEmpty)) H):=by
 intro π s σ H x y v u Q I rx ry h;obtain⟨i,j,rfl,rfl,q⟩:=h;obtain⟨t,rfl⟩:=rx;obtain⟨t',rfl⟩:=ry;exact in_str (Ak I q rfl)
def qK:gr X (Vw .Is) (λx y H Q=>y=.non/\Q (.bl (decide (x=.non))) H):=by
 intro π s σ H x y v u Q I rx ry h;obtain⟨rfl,q⟩:=h;cases ry;refine is_none_gen (Ak I q ?_);cases x<;>first
  |(cases rx;rfl)
  |(obtain⟨t,rfl⟩:=rx;rfl)
def Bq:gr X (Vw .IsNot) (λx y H Q=>y=.non/\Q (.bl (!decide (x=.non))) H):=by
 intro π s σ H x y v u Q I rx ry h;obtain⟨rfl,q⟩:=h;cases ry;refine isnot_none_gen (Ak I q ?_);cases x<;>first
  |(cases rx;rfl)
  |(obtain⟨t,rfl⟩:=rx;rfl)
def gr.or(h:gr X f r)(h':gr X f r'):gr X f (λx y H Q=>r x y H Q∨r' x y H Q):=by
 intro π s σ H x y v u Q I rx ry q;rcases q with q|q
 .exact h π s σ H x y v u Q I rx ry q
 .exact h' π s σ H x y v u Q I rx ry q
def Bk(ho:gr X (Vw op) r)(ha:PE X a ta)(hb:PE X b tb)(hm:behindInMarks op b=false):PE X (.Compare a [op] [b] pos) (Ob r ta tb):=by
 intro π s σ H Q I h;exact wpAny_Compare1 (NV ha hb I h λv u s2 x y H2 I2 rx ry q=>ho π s2 σ H2 x y v u Q I2 rx ry q) hm
def Kz(t:TE):TT:=λσ H Q=>t σ H λx H'=>∃k,x=.bl k/\Q k H'
def Bf(ho:gr X (Vw op) r)(ha:PE X a ta)(hb:PE X b tb)(hm:behindInMarks op b=false):PT X (.Compare a [op] [b] pos) (Kz (Ob r ta tb)):=by
 intro π s σ H Q I h;refine wpAny_isTrue_Compare1 (dz (ha π s σ H _ I h) λv s1 ⟨x,H1,I1,r1,q1⟩=>dz (hb π s1 σ H1 _ I1 q1) λu s2 ⟨y,H2,I2,r2,q2⟩ =>
  dz (ho π s2 σ H2 x y v u _ I2 r1 r2 q2) λc s3 ⟨z,H3,I3,r3,k,e,q3⟩=>?_) hm
 subst e;cases r3;exact VZ ⟨H3,I3,q3⟩
def zt(r r':R2)(ta tb tc:TE):TE:=λσ H Q=>ta σ H λx H1=>tb σ H1 λy H2=>r x y H2 λz H3=>∃k,z=.bl k /\
 (if k=true then tc σ H3 λw' H4=>r' y w' H4 Q else Q (.bl false) H3)
def E1(ho:gr X (Vw op) r)(ho':gr X (Vw op') r')(ha:PE X a ta)(hb:PE X b tb)(hc:PE X c tc)
  (hm:lastMarks [op,op'] [b,c]=false:=by with_unfolding_all rfl):PE X (.Compare a [op,op'] [b,c] pos) (zt r r' ta tb tc):=by
 intro π s σ H Q I h;refine Compare_chain (dz (ha π s σ H _ I h) λv s1 ⟨x,H1,I1,r1,q1⟩=>chain_link (dz (hb π s1 σ H1 _ I1 q1) λu s2 ⟨y,H2,I2,r2,q2⟩ =>
  dz (ho π s2 σ H2 x y v u _ I2 r1 r2 q2) λd s3 ⟨z,H3,I3,r3,k,e,q3⟩=>?_)) hm
 subst e;cases r3;refine VZ ?_;cases k with|false=>exact ite_ff ⟨.bl false,H3,I3,rfl,q3⟩|true=>exact ite_tt (chain_last (dz (hc π s3 σ H3 _ I3 q3) λw' s4 ⟨z',H4,I4,r4,q4⟩=>ho' π s4 σ H4 y z' u w' Q I4 r2 r4 q4))
def EM(ho:gr X (Vw op) r)(ho':gr X (Vw op') r')(ha:PE X a ta)(hb:PE X b tb)(hc:PE X c tc)
  (hm:lastMarks [op,op'] [b,c]=false:=by with_unfolding_all rfl):PT X (.Compare a [op,op'] [b,c] pos) (Kz (zt r r' ta tb tc)):=by
 intro π s σ H Q I h;refine isTrue_chain (dz (ha π s σ H _ I h) λv s1 ⟨x,H1,I1,r1,q1⟩=>test_link (dz (hb π s1 σ H1 _ I1 q1) λu s2 ⟨y,H2,I2,r2,q2⟩ =>
  dz (ho π s2 σ H2 x y v u _ I2 r1 r2 q2) λd s3 ⟨z,H3,I3,r3,k,e,q3⟩=>?_)) hm
 subst e;cases r3;refine VZ ?_;cases k with
 |false=>
  obtain⟨k',e',q'⟩:=q3;cases e';exact ite_ff ⟨H3,I3,q'⟩
 |true=>
  refine ite_tt (test_last (dz (hc π s3 σ H3 _ I3 q3) λw' s4 ⟨z',H4,I4,r4,q4⟩=>dz (ho' π s4 σ H4 y z' u w' _ I4 r2 r4 q4) λd' s5 z9=>?_));obtain⟨z2,H5,I5,r5,k2,e2,q5⟩:=z9;subst e2;cases r5;exact VZ ⟨H5,I5,q5⟩
noncomputable def Ul(K:Ur) (x:V) (H:Hp) (k:Bool):Prop :=
 match x with
 |.non=>k=false
 |.bl b=>k=b
 |.int i=>k=(i != 0)
 |.str y=>y.length<=sizeLine/\k=((y.length:Int) != 0)
 |.byt y=>y.size<=sizeLine/\k=((y.size:Int) != 0)
 |.ref p=>(∃xs,fM K H p xs/\k=!xs.isEmpty)∨(∃xs,kC K H p xs/\k=!xs.isEmpty)∨∃kvs,H p=some (.dK kvs)/\k=!kvs.isEmpty
 |_=>False
def Mq{vs:List (κ×Up)}(r:KV kvs vs):(!vs.isEmpty)=!kvs.isEmpty:=by
 cases r<;>rfl
def Mp(r:bz xs its):(!its.toArray.isEmpty)=!xs.isEmpty:=by
 cases r<;>simp
def q9:(sizeLine:Nat)<2 ^ 63:=by rw[sizeLine_eq];decide
def qL:gr X (binaryOp .Add) (λx y H Q=>∃i j,x=.str i/\y=.str j/\i.length+j.length<=sizeLine/\Q (.str (i++j)) H):=by
 intro π s σ H x y v u Q I rx ry h;obtain⟨i,j,rfl,rfl,hz,q⟩:=h;obtain⟨t,rfl⟩:=rx;obtain⟨t',rfl⟩:=ry;exact add_str (λt' tk=>⟨.str (i++j),H,I.tok _,⟨_,rfl⟩,q⟩) hz
def oz(r:bz [x] us):∃u,us=[u]/\b3 x u:=by
 cases r with|cons r1 r2=>cases r2;exact⟨_,rfl,r1⟩
def Kw(r:bz [x,y] us):∃u w',us=[u,w']/\b3 x u/\b3 y w':=by
 cases r with
 |cons r1 r2=>
  cases r2 with|cons r3 r4=>cases r4;exact⟨_,_,rfl,r1,r3⟩
def sJ:gN X (.builtin "abs") (λxs H Q=>∃i,xs=[.int i]/\Q (.int (if i<0 then -i else i)) H):=by
 intro π s σ H xs us Q I r h;obtain⟨i,rfl,q⟩:=h;obtain⟨u,rfl,t,rfl⟩:=oz r;exact call_abs_int λu tk=>⟨.int (if i<0 then -i else i),H,I.tok _,⟨_,rfl⟩,q⟩
def Ds(hc:X.calm=true):gN X (.builtin "max") (λxs H Q=>∃i j,xs=[.int i,.int j]/\Q (.int (if j > i then j else i)) H):=by
 intro π s σ H xs us Q I r h;obtain⟨i,j,rfl,q⟩:=h;obtain⟨u,w',rfl,⟨t,rfl⟩,⟨t',rfl⟩⟩:=Kw r;refine max_two_ints (I.ok.hd hc) λh' tk k=>⟨_,H,I.kept k,?_,q⟩
 by_cases hj:j > i
 .rw[if_pos hj,if_pos hj];exact⟨_,rfl⟩
 .rw[if_neg hj,if_neg hj];exact⟨_,rfl⟩
def u4(hc:X.calm=true):gN X (.builtin "min") (λxs H Q=>∃i j,xs=[.int i,.int j]/\Q (.int (if j<i then j else i)) H):=by
 intro π s σ H xs us Q I r h;obtain⟨i,j,rfl,q⟩:=h;obtain⟨u,w',rfl,⟨t,rfl⟩,⟨t',rfl⟩⟩:=Kw r;refine min_two_ints (I.ok.hd hc) λh' tk k=>⟨_,H,I.kept k,?_,q⟩
 by_cases hj:j<i
 .rw[if_pos hj,if_pos hj];exact⟨_,rfl⟩
 .rw[if_neg hj,if_neg hj];exact⟨_,rfl⟩
def u5:gN X (.type "int") (λxs H Q=>(∃i,xs=[.int i]/\Q (.int i) H)∨∃k,xs=[.bl k]/\Q (.int (if k then 1 else 0)) H):=by
 intro π s σ H xs us Q I r h;rcases h with⟨i,rfl,q⟩|⟨k,rfl,q⟩
 .obtain⟨u,rfl,t,rfl⟩:=oz r
  exact call_int_int ⟨.int i,H,I,⟨_,rfl⟩,q⟩
 .obtain⟨u,rfl,r1⟩:=oz r
  cases r1;exact call_int_bool ⟨.int (if k then 1 else 0),H,I.tok _,⟨_,rfl⟩,q⟩
def Rz(K:Ur)(x:V)(H:Hp)(n:Nat):Prop :=
 match x with
 |.str y=>y.length<=sizeLine/\n=y.length
 |.byt y=>y.size<=sizeLine/\n=y.size
 |.ref p=>(∃xs,fM K H p xs/\n=xs.length)∨∃xs,kC K H p xs/\n=xs.length
 |_=>False
def bG:gN X (.builtin "len") (λxs H Q=>∃x n,xs=[x]/\Rz X.K x H n/\Q (.int n) H):=by
 intro π s σ H xs us Q I r h;obtain⟨x,n,rfl,e,q⟩:=h;obtain⟨u,rfl,rx⟩:=oz r;have hl:=q9;have hs:sizeLine=16777216:=sizeLine_eq;cases x with
 |str y=>
  obtain⟨t,rfl⟩:=rx;obtain⟨hy,e'⟩:y.length<=sizeLine/\n=y.length:=e;subst e';exact len_str (by omega) ⟨.int _,H,I.tok _,⟨_,rfl⟩,q⟩
 |byt y=>
  obtain⟨t,rfl⟩:=rx;obtain⟨hy,e'⟩:y.size<=sizeLine/\n=y.size:=e;subst e';exact W.len_bytes (by omega) ⟨.int _,H,I.tok _,⟨_,rfl⟩,q⟩
 |ref p=>
  cases rx;have e':(∃xs,fM X.K H p xs/\n=xs.length)∨∃xs,kC X.K H p xs/\n=xs.length:=e;rcases e' with⟨xs,hx,e'⟩|⟨xs,hx,e'⟩
  .subst e'
   obtain⟨its,r',pl,hz⟩:=I.list hx;have hlen:=r'.length;exact Calls.call_len_list pl.isList (by simp only[UM];omega) ⟨.int xs.length,H,I.tok _,⟨_,by simp only[UM];rw[hlen]⟩,q⟩
  .subst e'
   obtain⟨its,r',pl,hz⟩:=I.tuple hx;have hlen:=r'.length;exact len_tuple pl (by simp only[UM];omega) ⟨.int xs.length,H,I.tok _,⟨_,by simp only[UM];rw[hlen]⟩,q⟩
 |_=>exact(show False from e).elim
end
structure N5 (h:UO) (x dx C:Uy) (mA:UP->Option Up):Prop where
 obj:h.get? x=some (W.instObj C dx)
 ns:h.Ns1 dx mA
 ne:dx≠x
def uI{h:UO}{mA:UP->Option Up}(n:h.Ns1 dx mA):∃od,h.get? dx=some od/\∀name,Zz name od=some (mA name):=by
 obtain⟨o,es,ep,ho,hd,hk,_,hm⟩:=n;refine⟨o,ho,λname=>?_⟩;have e:=hm name;unfold nsFind findBy at e;rw[←Array.find?_toList]at e;unfold Zz;rw[hd];dsimp only;split
 .rename_i y q
  rw[q]at e;exact congrArg some e
 .rename_i q
  rw[q]at e;have a:es.toList.any (·.refKey)=false:=by
   rw[List.any_eq_false];intro y hy;obtain⟨z,t,hkey⟩:=hk y (ZO.mp hy);simp[DictEntry.refKey,hkey]
  have a':¬es.toList.any (·.refKey)=true:=by rw[a];exact VO
  rw[if_neg a'];exact congrArg some e
def N5.look{h:UO}{mA:UP->Option Up}(I:N5 h x dx C mA):∃od,ZC h x (W.instObj C dx) C (some od)/\∀name,Zz name od=some (mA name) :=
 let ⟨od,ho,hl⟩:=uI I.ns
 ⟨od,⟨I.obj,rfl,rfl,ho⟩,hl⟩
def nO(f:UP)(v:V):List (UP×V)->List (UP×V)
 |[]=>[(f,v)]
 |(g,x)::r=>if g=f then(g,v)::r else(g,x)::nO f v r
theorem oP(f g:UP)(v:V):∀fs:List (UP×V),(nO f v fs).lookup g=if g=f then some v else fs.lookup g
 |[]=>by
  show Xl g [(f,v)]=_
  by_cases h:g=f
  .have hb:(g==f)=true:=beq_iff_eq.mpr h
   simp only[Xl,hb,if_pos h]
  .have hb:(g==f)=false:=beq_eq_false_iff_ne.mpr h
   simp only[Xl,hb,if_neg h]
 |(k,x)::r=>by
  have ih:=oP f g v r;rw[show nO f v ((k,x)::r)=(if k=f then(k,v)::r else(k,x)::nO f v r) from rfl]
  by_cases hk:k=f
  .rw[if_pos hk]
   by_cases h:g=k
   .have hb:(g==k)=true:=beq_iff_eq.mpr h
    simp only[Xl,hb,if_pos (h.trans hk)]
   .have hb:(g==k)=false:=beq_eq_false_iff_ne.mpr h
    simp only[Xl,hb,if_neg (λe:g=f=>h (e.trans hk.symm))]
  .rw[if_neg hk]
   by_cases h:g=k
   .have hb:(g==k)=true:=beq_iff_eq.mpr h
    simp only[Xl,hb,if_neg (λe:g=f=>hk (h.symm.trans e))]
   .have hb:(g==k)=false:=beq_eq_false_iff_ne.mpr h
    simp only[Xl,hb];exact ih
theorem nX(f:UP)(v:V):∀fs:List (UP×V),f∈(nO f v fs).map (·.1)/\∀g,g∈fs.map (·.1)->g∈(nO f v fs).map (·.1)
 |[]=>⟨by simp[nO],λg h=>by simp at h⟩
 |(k,x)::r=>by
  obtain⟨i1,i2⟩:=nX f v r;rw[show nO f v ((k,x)::r)=(if k=f then(k,v)::r else(k,x)::nO f v r) from rfl]
  by_cases hk:k=f
  .rw[if_pos hk]
   subst hk;exact⟨by simp,λg h=>by simpa using h⟩
  .rw[if_neg hk]
   refine⟨?_,λg h=>?_⟩
   .rw[UG]
    exact UH _ i1
   .rw[UG]at h ⊢
    rcases UI.mp h with e|e
    .exact UI.mpr (.inl e)
    .exact UH _ (i2 g e)
def wW(r:DC (some v) o):∃u,o=some u/\b3 v u:=by
 cases o with|none=>exact(show False from r).elim|some u=>exact⟨u,rfl,r⟩
def C6(r:b3 v u):W.handedIn u=true:=by
 cases v with|non=>cases (show u=VT from r);rfl|bl b=>cases (show u=VU b from r);rfl|int i=>obtain⟨t,e⟩:=(show ∃t,u=Wb i t from r);cases e;rfl|str x=>obtain⟨t,e⟩:=(show ∃t,u=Wa x t from r);cases e;rfl|byt b=>obtain⟨t,e⟩:=(show ∃t,u=Value.bytes b t from r);cases e;rfl|flt b=>obtain⟨t,e⟩:=(show ∃t,u=ZD b t from r);cases e;rfl|ref a=>cases (show u=Ve a from r);rfl|ty n=>cases (show u=Value.type n from r);rfl
section
variable {P:Vt}{w:VH}{H H':Hp}{h h':UO}{a C dx:Uy}{fs fs':List (UP×V)}
def BL(hok:ig P w H h)(e:H a=some (.ins C dx fs)):∃mA,N5 h a dx C mA/\(∀f,DC (fs.lookup f) (mA f))/\Xs mA (fs.map (·.1))/\fs.length<=1000/\H dx=some (.own a):=by
 obtain⟨d,z,ne,ob,mA,n,r,q⟩:=(show c7 P w H h a (.ins C dx fs) from hok a _ e)
 exact⟨mA,⟨ob,n,ne⟩,r,q,z,d⟩
end
structure RX (K:Ur) (C:Uy):Prop where
 pg:W.plainGet K C Str.empty=true
 hd:W0 K C=true
 po:W.plainOver K C=true
 sa:WB K (.ref C) "__setattr__"=some (some (.builtin "object.__setattr__"))
def RX.get{K:Ur}(c:RX K C)(f:UP):W.plainGet K C f=true:=c.pg
def ko(K:Ur)(C:Uy)(f:UP):Prop:=WB K (.ref C) f=some none
section
variable {X:Cx}{π:List (Uy×Obj)}{σ:St}{H:Hp}{s:UD}{a C dx:Uy}{fs:List (UP×V)}{f:UP}{v:V}{A:Vn}{E:Up->UD->Prop}
def Km(hb:Wf e f env (eval e env)=eval e env)
  (h:UR (UT prog w) A (eval e env) (λo sg=>UR (UT prog w) A (getAttr o f true) Q E sg) E s):UR (UT prog w) A (eval (.Attribute e f pos) env) Q E s :=
 Attribute_any_ h (by rw[arm_eval_Attribute,hb])
end
section
variable {X:Cx}{π:List (Uy×Obj)}{σ:St}{H:Hp}{s:UD}{A:Vn}{E:Up->UD->Prop}{Q:Up->UD->Prop}{c:Up}{b:Bool}
inductive pP (K:Ur) (H:Hp):V->Up->Prop where
 |non:pP K H .non (.type "NoneType")
 |bl (x:Bool):pP K H (.bl x) (.type "bool")
 |int (i:Int):pP K H (.int i) (.type "int")
 |str (x:UP):pP K H (.str x) (.type "str")
 |flt (x:UInt64):pP K H (.flt x) (.type "float")
 |lst {a:Uy}{xs:al}(e:H a=some (.lst xs)):pP K H (.ref a) (.type "list")
 |frz {a:Uy}{o:Obj}{xs:al}(e:H a=some (.frz o (.lst xs))):pP K H (.ref a) (.type "list")
 |tup {a:Uy}{xs:al}(e:H a=some (.tup xs)):pP K H (.ref a) (.type "tuple")
 |dK {a:Uy}{kvs:List (Key×V)}(e:H a=some (.dK kvs)):pP K H (.ref a) (.type "dict")
 |dT {a:Uy}{kvs:List (List Key×V)}(e:H a=some (.dT kvs)):pP K H (.ref a) (.type "dict")
 |ins {a C dx:Uy}{fs:List (UP×V)}(e:H a=some (.ins C dx fs)) (cl:RX K C) (ha:WB K (.ref C) "__class__"=some (some (.builtin "object.__class__")))
   (hn:Yx K (.builtin "object.__class__") "__get__"=some (some (.builtin "getset_descriptor.__get__"))) (htk:W.takesIn K (.builtin "object.__class__")=some true)
   (hm:W.mroIn K C (.type "object")=some true):pP K H (.ref a) (.ref C)
def lr(I:Inv X π σ H s)(rx:b3 x u)(ty:pP X.K H x t)(e:Yi X.K t c=some b)(h:∀tk,Q (.bool b) { s with toks:=tk }) :
  UR (UT X.prog X.w) A (call (.builtin "isinstance") [u,c]) Q E s:=by
 cases ty with
 |non=>cases (show u=VT from rx);exact VV W.kitx_none I.kIn Xc e (λz=>nomatch z) h|bl y=>cases (show u=VU y from rx);exact VV W.kitx_bool I.kIn Xc e (λz=>nomatch z) h|int i=>obtain⟨t,q⟩:=(show ∃t,u=Wb i t from rx);cases q;exact VV W.kitx_int I.kIn Xc e (λz=>nomatch z) h|str y=>obtain⟨t,q⟩:=(show ∃t,u=Wa y t from rx);cases q;exact VV W.kitx_str I.kIn Xc e (λz=>nomatch z) h|flt y=>obtain⟨t,q⟩:=(show ∃t,u=ZD y t from rx);cases q;exact VV W.kitx_float I.kIn Xc e (λz=>nomatch z) h
 |@lst a xs ea=>
  cases (show u=Ve a from rx);obtain⟨_,_,n,_,h1⟩:=(show c7 X.prog X.w H s.heap a (.lst xs) from I.hok a _ ea)
  exact VV ZA I.kIn ⟨_,h1,rfl⟩ e (λz=>nomatch z) h
 |@frz a ob xs ea=>
  cases (show u=Ve a from rx);obtain⟨_,_,_,n,_,h1⟩:=(show c7 X.prog X.w H s.heap a (.frz ob (.lst xs)) from I.hok a _ ea)
  exact VV ZA I.kIn ⟨_,h1,rfl⟩ e (λz=>nomatch z) h
 |@tup a xs ea=>
  cases (show u=Ve a from rx);obtain⟨_,_,_,p⟩:=(show c7 X.prog X.w H s.heap a (.tup xs) from I.hok a _ ea)
  obtain⟨o,h1,h2,_⟩:=p;exact VV W.kitx_tuple I.kIn ⟨o,h1,h2⟩ e (λz=>nomatch z) h
 |@dK a kvs ea=>
  cases (show u=Ve a from rx);obtain⟨_,_,vs,_,p⟩:=(show c7 X.prog X.w H s.heap a (.dK kvs) from I.hok a _ ea)
  obtain⟨o,es,ep,h1,h2,_⟩:=p;exact VV Yy I.kIn ⟨o,h1,h2.1⟩ e (λz=>nomatch z) h
 |@dT a kvs ea=>
  cases (show u=Ve a from rx);obtain⟨_,_,xs,_,o,es,ep,h1,h2,_⟩:=(show c7 X.prog X.w H s.heap a (.dT kvs) from I.hok a _ ea)
  exact VV Yy I.kIn ⟨o,h1,h2.1⟩ e (λz=>nomatch z) h
 |@ins a C dx fs ea cl ha hn htk hm=>
  cases (show u=Ve a from rx);obtain⟨mA,O,_⟩:=BL I.hok ea;obtain⟨od,J,_⟩:=O.look;exact VV (W.kitx_own (cl.get _) cl.hd ha hn htk hm) I.kIn J e (λz=>nomatch z) h
end
structure di (k:Nat) (A:Vn):Prop where
 hd:A.handled=none
 dp:A.depth+3*k+5<recursionLimit
 un:A.units+16*k+200<XX
 gd:A.guards=some []
def di.mono{A:Vn}(r:di k A)(h:j<=k):di j A:=⟨r.hd,by have:=r.dp;omega,by have:=r.un;omega,r.gd⟩
def di.deeper{A:Vn}(r:di (k+1) A)(env:Env):di k (A.deeper env) :=
 ⟨r.hd,by have:=r.dp;show A.depth+1+3*k+5<_;omega,by have:=r.un;show A.units+3+16*k+200<_;omega,r.gd⟩
def zW{A:Vn}:(A.under (.builtin "type.__call__" ⟨.ref C::us,kw⟩)).depth=A.depth+1:=by
 first|rfl|simp[Yt,Code.weight,Code.isCreation,Code.isGuard,Code.isCaller,Code.frames,Zr,guardIds]
def zV{A:Vn}:(A.under (.builtin "type.__call__" ⟨.ref C::us,kw⟩)).units=A.units+1:=by
 first|rfl|simp[Yt,Code.cUnits,Code.frames,Zr]
def di.make{A:Vn}(r:di (k+1) A)(C:Uy)(us:List Up)(kw:List (UP×Up)):di k (A.under (.builtin "type.__call__" ⟨.ref C::us,kw⟩)) :=
 ⟨r.hd,by have:=r.dp;rw[zW];omega,by have:=r.un;rw[zV];omega,by have:=r.gd;simp[Yt,Code.guards,Code.isGuard,guardIds,pushGuards,this]⟩
def di.depth{A:Vn}(r:di k A):A.depth<recursionLimit:=by have:=r.dp;omega
def di.units{A:Vn}(r:di k A):A.units+64<XX:=by have:=r.un;omega
def Se:TA:=λ_ H Q=>Q [] H
def OU(ta:TE)(tr:TA):TA:=λσ H Q=>ta σ H λx H1=>tr σ H1 λxs H2=>Q (x::xs) H2
section
variable {X:Cx}{e:Vl}{es:List Vl}{te:TE}{t:TA}{pos:Pos}
def fU:PA X [] Se:=λ_ _ _ _ H Q I h=>Calls.spliced_nil ⟨[],H,I,.nil,h⟩
def dj(ha:PE X e te)(hr:PA X es t)(hs:Uw (e::es) X.env=(false,eval e X.env)::Uw es X.env:=by rfl):PA X (e::es) (OU te t):=by
 intro pos π s σ H Q I h;rw[hs];show UR _ _ (spliced ((false,eval e X.env)::Vy pos (Uw es X.env))) _ _ s;refine Calls.spliced_cons (dz (ha π s σ H _ I h) λu s1 ⟨x,H1,I1,r1,q1⟩=>?_);exact dz (hr pos π s1 σ H1 _ I1 q1) λus s2 ⟨xs,H2,I2,r2,q2⟩=>⟨x::xs,H2,I2,.cons r1 r2,q2⟩
def R6(t:TA):TE:=λσ H Q=>t σ H λxs H1=>xs.length<=sizeLine/\∀p,H1 p=none->Q (.ref p) (upd H1 p (.tup xs))
def Sg(t:TA):TE:=λσ H Q=>t σ H λxs H1=>xs.length<=sizeLine/\∀p,H1 p=none->Q (.ref p) (upd H1 p (.lst xs))
def EW{x1}(h:PA X es t):PE X (.Tuple es x1 pos) (R6 t):=by
 intro π s σ H Q I hq;refine wpAny_Tuple_spliced (dz (h pos π s σ H _ I hq) λus s1 ⟨xs,H1,I1,r,z,q⟩=>⟨by rw[←r.length];exact z,?_⟩);have hf:H1 s1.heap.objs.size=none:=I1.hok.fresh (UC _);refine⟨.ref s1.heap.objs.size,upd H1 s1.heap.objs.size (.tup xs),I1.laid (t':=s1.toks) (λb u e=>Uz _ e) (UC _) ?_,rfl,q _ hf⟩;exact⟨z,us,r,⟨_,Vr _ rfl,rfl,_,rfl⟩⟩
def zI(h:PA X es t):PE X (.List es pos) (Sg t):=by
 intro π s σ H Q I hq;refine wpAny_List_spliced (dz (h pos π s σ H _ I hq) λus s1 ⟨xs,H1,I1,r,z,q⟩=>⟨by rw[←r.length];exact z,?_⟩);have hf:H1 s1.heap.objs.size=none:=I1.hok.fresh (UC _);refine⟨.ref s1.heap.objs.size,upd H1 s1.heap.objs.size (.lst xs),I1.laid (t':=s1.toks) (λb u e=>Uz _ e) (UC _) ?_,rfl,q _ hf⟩;exact⟨z,us,0,r,Vr _ rfl⟩
end
abbrev Sp:=al->Hp->VK->XK->Prop
abbrev zl:=List Env->Hp->UD->XK->Up->UD->Prop
structure zd (P:Vt) (w:VH) (K:Ur) (mg:UP->Option Up) (base:UO) (A:Vn) (outer:List Env) (s:UD) (H:Hp):Prop where
 frames:A.frames=some outer
 mod:Mod K mg base
 bs:∀b o,base.get? b=some o->s.heap.get? b=some o/\H b=none
 bsz:base.objs.size<=s.heap.objs.size
 funs:s.heap.FunFrames base outer
 frf:∀b∈iY outer,H b=none
 hok:ig P w H s.heap
 bare:AllBare s.gens
def CE(outer:List Env)(P:Vt)(w:VH)(H:Hp)(s:UD)(Q:VK)(u:Up)(s':UD):Prop :=
 ∃v H',s'.os=s.os/\AllBare s'.gens/\Un (iY outer) [] H H' s.heap s'.heap/\ig P w H' s'.heap/\b3 v u/\Q v H'
def CR(CX:zl)(outer:List Env)(P:Vt)(w:VH)(H:Hp)(s:UD)(Q:VK)(E:XK)(r:Zj)(s':UD):Prop :=
 match r with
 |.ok (.ret u)=>CE outer P w H s Q u s'
 |.ok _=>False
 |.error e=>CX outer H s E e s'
structure FnOk (P:Vt) (w:VH) (K:Ur) (mg:UP->Option Up) (base:UO) (CX:zl) (k:Nat) (f:Uy) (fd:VS) (ps:bi) (sp:Sp):Prop where
 len:∀vs H Q E,sp vs H Q E->vs.length=ps.length
 run:∀(A:Vn) (outer:List Env) (s:UD) (H:Hp) (args:Args) (us:List Up) (vs:al) (Q:VK) (E:XK),di k A->zd P w K mg base A outer s H->BindsTo s fd args (ps.zip us)->bz vs us->sp vs H Q E ->
  Wz (UT P w) A (.call (.ref f) args) (CR CX outer P w H s Q E) s
def FnOk.mono{K:Ur}{ps:bi}(F:FnOk P w K mg base CX j f fd ps sp)(h:j<=k) :
  FnOk P w K mg base CX k f fd ps sp:=⟨F.len,λA outer s H args us vs Q E hr=>F.run A outer s H args us vs Q E (hr.mono h)⟩
def zd.make{K:Ur}{A:Vn}(e:zd P w K mg base A outer s H)(C:Uy)(us:List Up)(kw:List (UP×Up)) :
  zd P w K mg base (A.under (.builtin "type.__call__" ⟨.ref C::us,kw⟩)) outer s H:=⟨by first|exact e.frames|(simpa[Yt,Code.envs,Zr,pushEnvs] using e.frames),e.mod,e.bs,e.bsz,e.funs,e.frf,e.hok,e.bare⟩
section
variable {X:Cx}{π:List (Uy×Obj)}{σ:St}{H:Hp}{s s':UD}
def Inv.env0(I:Inv X π σ H s):zd X.prog X.w X.K X.mg X.base X.A X.stack s H :=
 ⟨I.ok.frames,I.ok.mod,I.bs,U8 I.ok.bsz I.sz,I.stack,I.stkFree,I.hok,I.bare⟩
def Inv.after(I:Inv X π σ H s)(h:CE X.stack X.prog X.w H s Q u s'):EP X π σ Q u s':=by
 obtain⟨v,H',os,bare,un,hok,r,q⟩:=h;obtain⟨hh,g,d,t,os'⟩:=s';obtain rfl:os'=s.os:=os;exact⟨v,H',I.call (h':=hh) (g':=g) (d':=d) (t':=t) (ch:=[]) un hok bare (λb z=>absurd z (by simp)),r,q⟩
end
def OV(sp:Sp)(dvs:al)(E:XK)(t:TA):TE:=λσ H Q=>t σ H λvs H1=>sp (vs++dvs) H1 Q E
def ia(K:Ur)(fd:VS)(ps:bi)(ds:List Up):Prop :=
 ∀(s:UD) (us:List Up),K.In s.heap->(us++ds).length=ps.length->BindsTo s fd ⟨us,[]⟩ (ps.zip (us++ds))
def ia.all{K:Ur}{ps:bi}(h:∀us:List Up,us.length=ps.length->bindArgs fd ⟨us,[]⟩=pure (ps.zip us)):ia K fd ps []:=λs us _ hl=>by
 rw[Vd]at hl ⊢;exact .of_eq (h us hl)
def gW(CX:zl)(X:Cx)(E:XK):Prop:=∀(π:List (Uy×Obj)) (σ:St) (H:Hp) (s:UD) (e:Up) (s':UD),Inv X π σ H s->CX X.stack H s E e s'->X.xe e s'
section
variable {X:Cx}{CX:zl}{k:Nat}{f C:Uy}{fd:VS}{ps:bi}{sp:Sp}{dvs:al}{ds:List Up}{E:XK}{x m:UP}{p pos apos:Pos}{e o:Vl}{es:List Vl}{ta:TE}{t:TA}
def LB(F:FnOk X.prog X.w X.K X.mg X.base CX k f fd ps sp)(hr:di k X.A)(hb:ia X.K fd ps ds)(hd:bz dvs ds)(hx:gW CX X E)
  (I:Inv X π σ H s)(r:bz vs us)(h:sp (vs++dvs) H Q E):UR (UT X.prog X.w) X.A (call (.ref f) us) (EP X π σ Q) X.xe s:=by
 have r2:bz (vs++dvs) (us++ds):=r.append hd;have hl:(us++ds).length=ps.length:=by rw[←r2.length];exact F.len _ _ _ _ h
 refine wpAny_call (codeAny_mono (F.run X.A X.stack s H ⟨us,[]⟩ (us++ds) (vs++dvs) Q E hr I.env0 (hb s us I.kIn hl) r2 h) λr s' hq=>?_);cases r with
 |error e=>exact hx π σ H s e s' I hq
 |ok fl=>
  cases fl with|ret u=>exact I.after hq|next|brk|cont=>exact VN hq
def pY(F:FnOk X.prog X.w X.K X.mg X.base CX k f fd ps sp)(hr:di k X.A)(hg:Gl X x)(hm:X.mg x=some (.ref f))(hk:WN X.K (.ref f)=true)(hb:ia X.K fd ps ds)(hd:bz dvs ds)(hx:gW CX X E)
  (ha:PA X (e::es) t)(hdb:(x==("__debug__" : UP))=false:=by decide)(he:Uw (e::es) X.env=(false,eval e X.env)::Uw es X.env:=by rfl)(hpl:(Vy pos (Uw es X.env)).any (·.1)=false:=by rfl) :
  PE X (.Call (.Name x p) (e::es) [] pos) (OV sp dvs E t):=by
 intro π s σ H Q I h;refine wpAny_Call_Name_kw (j9 I hg hm ?_ hdb);refine W.callWith_K (h₀:=X.base) I.ok.mod.kin hk (dz (ha pos π s σ H _ I h) λus s1 z9=>?_) he hpl;obtain⟨vs,H1,I1,r,q⟩:=z9;refine⟨I1.kIn,?_⟩;exact LB F hr hb hd hx I1 r q
end
structure fv (N P:bi) (sc:X8):Prop where
 kind:sc.kind=.function
 co:sc.isCoroutine=false
 gen:sc.isGenerator=false
 nd:N.Nodup
 pre:N.take P.length=P
 par:∀x∈P,sc.names.lookup x=some .local ∨ sc.names.lookup x=some .cell
 nofree:∀y∈sc.names,y.2≠.free
theorem u7{kindOf:UP->Option V3}:∀{binds:List (UP×Up)}{m:UP->Option Up},(∀v,(x,v)∉binds)->bindL kindOf binds m x=m x
 |[],_,_=>rfl
 |(n,v)::r,m,h=>by
  unfold bindL;rw[u7 λw hw=>h w (UH _ hw)];split
  .have:x≠n:=by rintro rfl;exact h v UU
   simp[this]
  .rfl
theorem va{kindOf:UP->Option V3}:∀{binds:List (UP×Up)}{m:UP->Option Up},(∀v,(x,v)∉binds)->bindC kindOf binds m x=m x
 |[],_,_=>rfl
 |(n,v)::r,m,h=>by
  unfold bindC;rw[va λw hw=>h w (UH _ hw)];split
  .rfl
  .have:x≠n:=by rintro rfl;exact h v UU
   simp[this]
theorem u9{kindOf:UP->Option V3}{x:UP}{v:Up}:∀{P:bi}{vs:List Up}{i:Nat}{m:UP->Option Up},P.Nodup->P[i]?=some x->vs[i]?=some v->kindOf x=some .local ->
  bindL kindOf (P.zip vs) m x=some v
 |[],_,_,_,_,h,_,_=>by simp at h
 |_::_,[],_,_,_,_,h,_=>by simp at h
 |p::P,w::vs,0,m,nd,h1,h2,hk=>by
  simp at h1 h2;subst h1;subst h2;show bindL kindOf ((p,w)::P.zip vs) m p=_;unfold bindL;rw[u7 λv hv=>(Wd.mp nd).1 (YD hv).1,if_pos hk];simp
 |p::P,w::vs,i+1,m,nd,h1,h2,hk=>by
  show bindL kindOf ((p,w)::P.zip vs) m x=_;unfold bindL;exact u9 (i:=i) (Wd.mp nd).2 (by simpa using h1) (by simpa using h2) hk
theorem vb{kindOf:UP->Option V3}{x:UP}{v:Up}:∀{P:bi}{vs:List Up}{i:Nat}{m:UP->Option Up},P.Nodup->P[i]?=some x->vs[i]?=some v->kindOf x≠some .local ->
  bindC kindOf (P.zip vs) m x=some v
 |[],_,_,_,_,h,_,_=>by simp at h
 |_::_,[],_,_,_,_,h,_=>by simp at h
 |p::P,w::vs,0,m,nd,h1,h2,hk=>by
  simp at h1 h2;subst h1;subst h2;show bindC kindOf ((p,w)::P.zip vs) m p=_;unfold bindC;rw[va λv hv=>(Wd.mp nd).1 (YD hv).1,if_neg hk];simp
 |p::P,w::vs,i+1,m,nd,h1,h2,hk=>by
  show bindC kindOf ((p,w)::P.zip vs) m x=_;unfold bindC;exact vb (i:=i) (Wd.mp nd).2 (by simpa using h1) (by simpa using h2) hk
def start(N:bi)(vs:al):St:=vs.map some++UJ (N.length-vs.length) none
noncomputable def gk(CX:zl) (P:Vt) (w:VH) (K:Ur) (mg:UP->Option Up) (base:UO) (N:bi) (qual:UP) (scope:X8) (f:Uy) (cd:Up) (A:Vn) (outer:List Env) (s:UD) (H:Hp) (E:XK):Cx where
 prog:=P
 w:=w
 K:=K
 mg:=mg
 base:=base
 A:=A.deeper (envOfC qual scope s.heap.objs.size f cd)
 N:=N
 sf:=s
 Ha:=H
 env:=envOfC qual scope s.heap.objs.size f cd
 outer:=outer
 stack:=envOfC qual scope s.heap.objs.size f cd::outer
 ex:=[]
 calm:=true
 fn:=λ_=>true
 pn:=[]
 xe:=λe s'=>UR (UT P w) (A.deeper (envOfC qual scope s.heap.objs.size f cd)) (leaving (envOfC qual scope s.heap.objs.size f cd) e) (λ_ s''=>CX outer H s E e s'') (λe' s''=>CX outer H s E e' s'') s'
def yW{sc:X8}(h:sc.names.lookup x=some .cell):∃c,(cellsFrom n sc.names []).lookup x=some c:=by
 have q:=W.cellsFrom_some sc.names n [] (.inl h);exact XI.mp q
def C3{K:Ur}{N ps:bi}{A:Vn} 
  (S:fv N ps scope)(hd:A.handled=none)(e0:zd P w K mg base A outer s H)(hl:vs.length=ps.length)(r:bz vs us)
  (x:InCallC s s.heap.objs.size (bindL (envOfC qual scope s.heap.objs.size f cd).kindOf (ps.zip us) λ_=>none) (cellsFrom (s.heap.objs.size+1) scope.names []) (bindC (envOfC qual scope s.heap.objs.size f cd).kindOf (ps.zip us) λ_=>none) s1) :
  Inv (gk CX P w K mg base N qual scope f cd A outer s H E) [] (start N vs) H s1:=by
 have hpl:ps.length<=N.length:=by have:=congrArg Xm S.pre;rw[VA]at this;omega
 obtain⟨h1,tk,rfl,hk⟩:=x.done;have noA:∀b:Uy,b∉(gk CX P w K mg base N qual scope f cd A outer s H E).ex:=λb z=>absurd (show b∈([]:List Uy) from z) (by simp);refine⟨⟨e0.mod,S.kind,rfl,rfl,UC _,λy z c h1 h2=>?_,λy hy=>?_,λy c _ h=>?_,λ_=>hd,Around.frames_deeper e0.frames,.inr ⟨rfl,rfl⟩,λb z=>absurd z (noA b),e0.bs,e0.bsz,λb _ _=>noA b,λb z=>absurd z (noA b),e0.funs,e0.frf⟩,
  rfl,e0.bare,Un.kept hk,⟨_,x.toInCall.ns,λi y v h1 h2 h3=>?_⟩,λy c h=>⟨_,x.cell y c h⟩,e0.hok.fresh (UC _),λy c h=>?_,λp hp=>absurd (show p∈([]:List (Uy×Obj)) from hp) (by simp),e0.hok.kept hk,?_⟩
 .exact name_of_addr x.apart (We h1) (We h2)
 .have hy:scope.names.lookup y=some .cell∨scope.names.lookup y=some .free:=hy
  rcases hy with hy|hy
  .exact yW hy
  .exact absurd rfl (S.nofree _ (We hy))
 .exact Xu (x.above y c (We h))
 .have hi:i<vs.length:=by
   unfold start at h2
   by_cases hi:i<vs.length
   .exact hi
   .rw[UW (by simpa using hi)]at h2
    rw[U5]at h2;split at h2<;>cases h2
  have ha:vs[i]?=some v:=by
   unfold start at h2;rw[UQ (by simpa using hi),UK]at h2;cases e:vs[i]? with|none=>rw[e]at h2;cases h2|some a=>rw[e]at h2;cases h2;rfl
  obtain⟨u,hu,rv⟩:=r.get ha;have hp:ps[i]?=some y:=by
   rw[←S.pre,YX (by omega)];exact h1
  have ndP:ps.Nodup:=by rw[←S.pre];exact S.nd.sublist (List.take_sublist _ _)
  refine⟨u,rv,?_⟩;rcases S.par y (UX hp) with k|k
  .exact .inl ⟨k,u9 ndP hp hu k⟩
  .obtain⟨c,e⟩:=yW (n:=s.heap.objs.size+1) k
   refine .inr ⟨.inl k,c,e,?_⟩;have q:=x.cell y c e;rw[vb ndP hp hu (by show scope.names.lookup y≠_;rw[k];decide)]at q;exact q
 .exact e0.hok.fresh (Xu (x.above y c (We h)))
 .unfold start
  show _=N.length;rw[U0,Us,Vx];omega
def KS{K:Ur}{dV kV doc pm cdv ct oc:Up}
  {N ps:bi}(lk:K.lookup f=some ⟨oc,od,.func (WH name qual params body scope dV kV doc pm an cdv ct),osl⟩) (hcd:Yk K cdv qual=true) (S:fv N ps scope)
  (len:∀vs H Q E,sp vs H Q E->vs.length=ps.length)
  (hbody:∀(A:Vn) (outer:List Env) (s:UD) (H:Hp) (vs:al) (Q:VK) (E:XK),di k (A.deeper (envOfC qual scope s.heap.objs.size f cdv))->sp vs H Q E ->
   ∃t,vm (gk CX P w K mg base N qual scope f cdv A outer s H E) body t/\t { nx:=λ_ H'=>Q .non H',rt:=Q } (start N vs) H) :
  FnOk P w K mg base CX (k+1) f (WH name qual params body scope dV kV doc pm an cdv ct) ps sp:=by
 refine⟨len,λA outer s H args us vs Q E hr e0 hb r hsp=>?_⟩;have hl:=len _ _ _ _ hsp;have KX:K.In s.heap:=e0.mod.kin.keeps λb o e=>(e0.bs b o e).1;have lim:s.heap.NoLimit:=e0.mod.nolimit.keeps λb o e=>(e0.bs b o e).1;have hkind:∀y∈ps.zip us,scope.names.lookup y.1=some .local ∨ (scope.names.lookup y.1=some .cell/\((cellsFrom (s.heap.objs.size+1) scope.names []).lookup y.1).isSome=true):=λ⟨n,v⟩ hy=>by
  rcases S.par n (YD hy).1 with q|q
  .exact .inl q
  .exact .inr ⟨q,W.cellsFrom_some _ _ _ (.inl q)⟩
 refine codeAny_call_function hr.depth (KX _ _ lk) rfl S.co S.gen rfl (W.codeRec_of KX hcd) (hb _ _ _ _ ?_);refine wpAny_newFunctionEnv_cells S.kind hkind λenv he s1 x=>?_;subst he;refine⟨lim.keeps x.toInCall.keep,codeAny_func ?_⟩;obtain⟨t,ht,hq⟩:=hbody A outer s H vs Q E (hr.deeper _) hsp;have I:Inv (gk CX P w K mg base N qual scope f cdv A outer s H E) [] (start N vs) H s1:=C3 S hr.hd e0 hl r x;refine VD (ht [] s1 (start N vs) H _ I hq) (λfl s' hs=>?_) λe s' hs=>hs;have fin:∀{σ':St}{H':Hp}{v:V}{u:Up},Inv (gk CX P w K mg base N qual scope f cdv A outer s H E) [] σ' H' s'->b3 v u->Q v H'->CE outer P w H s Q u s' :=
  λ{σ' H' v u} J rv q=>⟨v,H',J.os,J.bare,J.base,J.hok,rv,q⟩
 cases fl with
 |ret u=>
  obtain⟨v,σ',H',J,rv,q⟩:=hs;exact fin J rv q
 |next=>
  obtain⟨σ',H',J,q⟩:=hs;exact fin (v:=V.non) (u:=VT) J rfl q
 |brk=>
  obtain⟨_,_,_,q⟩:=hs;exact VN q
 |cont=>
  obtain⟨_,_,_,q⟩:=hs;exact VN q
section
variable {X:Cx}{x:UP}{p pos:Pos}{e:Vl}{es:List Vl}{t:TA}{id T:String}{r:al->Hp->VK->Prop}
def Tn(r:al->Hp->VK->Prop)(t:TA):TE:=λσ H Q=>t σ H λvs H1=>r vs H1 Q
def kO(hc:gN X (.builtin id) r)(hg:Gl X x)(hm:X.mg x=none)(hv:bootBuiltins x=some (.builtin id))(ha:PA X (e::es) t)(hn:x≠"__name__":=by decide)(hdb:(x==("__debug__" : UP))=false:=by decide)
  (he:Uw (e::es) X.env=(false,eval e X.env)::Uw es X.env:=by rfl)(hpl:(Vy pos (Uw es X.env)).any (·.1)=false:=by rfl):PE X (.Call (.Name x p) (e::es) [] pos) (Tn r t):=by
 intro π s σ H Q I h;refine wpAny_Call_Name_kw (nW I hg hm hv ?_ hn hdb);exact PyProof.Rows.callWith_builtin1 (dz (ha pos π s σ H _ I h) λus s1 ⟨vs,H1,I1,r1,q1⟩=>hc π s1 σ H1 vs us Q I1 r1 q1) he hpl
def uz(hc:gN X (.type T) r)(hg:Gl X x)(hm:X.mg x=none)(hv:bootBuiltins x=some (.type T))(ha:PA X (e::es) t)(hn:x≠"__name__":=by decide)(hdb:(x==("__debug__" : UP))=false:=by decide)
  (he:Uw (e::es) X.env=(false,eval e X.env)::Uw es X.env:=by rfl)(hpl:(Vy pos (Uw es X.env)).any (·.1)=false:=by rfl):PE X (.Call (.Name x p) (e::es) [] pos) (Tn r t):=by
 intro π s σ H Q I h;refine wpAny_Call_Name_kw (nW I hg hm hv ?_ hn hdb);exact WL (dz (ha pos π s σ H _ I h) λus s1 ⟨vs,H1,I1,r1,q1⟩=>hc π s1 σ H1 vs us Q I1 r1 q1) he hpl
end
end L2
namespace HT
open PySem PyProof.Rows
section
variable {prog:Vt}{w:VH}{A:Vn}{E:Up->UD->Prop}{s:UD}
def cat_tup(ht:IsTup s.heap t vs.toArray)(hb:IsTup s.heap b ws.toArray)(hv:vs≠[])
  (h1:ws=[]->Q (.ref t) s)(h2:ws≠[]->Q (.ref s.heap.objs.size) { s with heap:=s.heap.push { cls:=.type "tuple",data:=.seq (vs++ws).toArray } })
  (hsz:vs.length+ws.length<=sizeLine):UR (UT prog w) A (binaryOp .Add (.ref t) (.ref b)) Q E s:=by
 obtain⟨⟨cls,dd,data,sl⟩,ho,hc,n,hd⟩:=id ht;obtain⟨⟨cls2,dd2,data2,sl2⟩,ho2,hc2,n2,hd2⟩:=id hb;simp only at hc hd hc2 hd2;subst hc hd hc2 hd2;have e:vs.toArray++ws.toArray=(vs++ws).toArray:=by simp
 by_cases hw:ws=[]
 .exact concat_meets ⟨_,ho,rfl⟩ ⟨_,ho2,rfl⟩ noFill_tuple_add seq_tuple_add Zk Y6 (YV _ _)
   (tuple_addW1 t b vs.toArray ws.toArray n n2 dd dd2 sl sl2 (by simpa using hv) (by simp[hw])) ⟨ho,ho2,h1 hw⟩
 .refine concat_meets ⟨_,ho,rfl⟩ ⟨_,ho2,rfl⟩ noFill_tuple_add seq_tuple_add Zk Y6 (YV _ _)
   (tuple_addW2 t b vs.toArray ws.toArray n n2 dd dd2 sl sl2 (by simpa using hv) (by simpa using hw) (by rw[UM,UM];exact hsz)) ⟨ho,ho2,?_⟩
  rw[e];exact h2 hw
def sIx(n d:Nat):Option Int->Nat
 |none=>d
 |some v=>if v<0 then(v+(n:Int)).toNat else min v.toNat n
def sIx_none(n d:Nat):sIx n d none=d:=rfl
def sIx_nat(n d k:Nat):sIx n d (some (k:Int))=min k n:=by
 show(if(k:Int)<0 then((k:Int)+(n:Int)).toNat else min (k:Int).toNat n)=min k n;rw[if_neg (by omega),XG]
def Lz(n d:Nat)(hd:d<=n)(o:Option Int):sIx n d o<=n:=by
 cases o with
 |none=>exact hd
 |some v=>
  show(if v<0 then(v+(n:Int)).toNat else min v.toNat n)<=n
  by_cases hv:v<0
  .rw[if_pos hv];omega
  .rw[if_neg hv];exact Nat.min_le_right _ _
def B8(v:Int)(n d:Nat):(if v<0 then max (v+(n:Int)) 0 else min v (n:Int))=((sIx n d (some v):Nat):Int):=by
 show(if v<0 then max (v+(n:Int)) 0 else min v (n:Int))=(((if v<0 then(v+(n:Int)).toNat else min v.toNat n):Nat):Int)
 by_cases hv:v<0
 .simp only[if_pos hv];omega
 .simp only[if_neg hv];omega
def AI(lo hi:Option Int)(n:Nat):XA lo hi 1 (n:Int)=(((sIx n 0 lo:Nat):Int),((sIx n n hi:Nat):Int)):=by
 have h1:¬((1:Int)<0):=by omega
 unfold XA;simp only[h1,if_false];refine Prod.ext ?_ ?_
 .cases lo with
  |none=>rfl
  |some v=>exact B8 v n 0
 .cases hi with
  |none=>rfl
  |some v=>exact B8 v n n
def zG(i j:Nat):WU (i:Int) (j:Int) 1=j-i:=by
 unfold WU;have h1:(1:Int) > 0:=by omega
 simp only[h1,if_true,Int.ediv_one];split<;>omega
def qt(p:IsPart v o)(h:Q o s):UR (UT prog w) A (Builtin.Slice.slicePartIndex v) Q E s:=by
 cases p with|none=>exact slicePart_none h|int i t=>exact slicePart_int h
def nM{lo hi:Option Int}{Q:Int×Int×Nat->UD->Prop}(hs:s.heap.IsSliceOf sl vl vu .none)(pl:IsPart vl lo)(pu:IsPart vu hi)
  (h:Q (((sIx n 0 lo:Nat):Int),1,sIx n n hi-sIx n 0 lo) s):UR (UT prog w) A (YN (.ref sl) (pure (n:Int))) Q E s:=by
 obtain⟨os,hos,hcs,hds⟩:=id hs;unfold YN Builtin.Slice.sliceFields;refine Uv (Uv (wpAny_field hos hds (x:=vl) rfl (Uv (wpAny_field hos hds (x:=vu) rfl (Uv (wpAny_field hos hds (x:=.none) rfl (UY ?_)))))));refine Uv (slicePart_none ?_);show UR _ _ (if((1:Int)==0)=true then _ else _) _ _ s;rw[if_neg (by decide)];refine Uv (qt pl (Uv (qt pu (Uv (UY ?_)))));show UR _ _ (match XA lo hi 1 (n:Int) with|(lo,hi)=>pure (lo,(1:Int),WU lo hi 1)) _ _ s;rw[AI lo hi n];show UR _ _ (pure (((sIx n 0 lo:Nat):Int),(1:Int),WU ((sIx n 0 lo:Nat):Int) ((sIx n n hi:Nat):Int) 1)) _ _ s;rw[zG];exact UY h
def ET(xs:Array Up)(i k:Nat):((Vv k).filterMap λ(m:Nat)=>xs[((i:Int)+(m:Int)*1).toNat]?).toArray=((xs.toList.drop i).take k).toArray:=by
 have e:(λ(m:Nat)=>xs[((i:Int)+(m:Int)*1).toNat]?)=λm=>xs[i+m]?:=by
  funext m;have:((i:Int)+(m:Int)*1).toNat=i+m:=by omega
  rw[this]
 rw[e];have:=pick_run xs i k;rw[Yf]at this;have e2:((λx=>xs[x]?)∘λx=>i+x)=λm=>xs[i+m]?:=rfl;rw[e2]at this;rw[this]
def getItem_tuple_cut{lo hi:Option Int}(ht:IsTup s.heap t items)(hs:s.heap.IsSliceOf sl vl vu .none)(pl:IsPart vl lo)(pu:IsPart vu hi)
  (hw:¬(sIx items.size 0 lo=0/\sIx items.size items.size hi=items.size))
  (h:Q (.ref s.heap.objs.size) { s with heap:=s.heap.push { cls:=.type "tuple",data:=.seq ((items.toList.drop (sIx items.size 0 lo)).take (sIx items.size items.size hi-sIx items.size 0 lo)).toArray } })
  (hsz:items.size<=sizeLine):UR (UT prog w) A (getItem (.ref t) (.ref sl)) Q E s:=by
 have htake:sizeOk (.seq ((items.toList.drop (sIx items.size 0 lo)).take (sIx items.size items.size hi-sIx items.size 0 lo)).toArray):=by
  show((items.toList.drop (sIx items.size 0 lo)).take (sIx items.size items.size hi-sIx items.size 0 lo)).toArray.size<=sizeLine;rw[UM,VA,Yv,X7];omega
 have hj:sIx items.size items.size hi<=items.size:=Lz _ _ (UC _) hi;obtain⟨os,hos,hcs,hds⟩:=id hs;have hTs:s.TypeIs (.ref sl) "slice":=⟨os,hos,hcs⟩
 unfold getItem
 try with_reducible refine VP ?_
 first|refine Uv (UY ?_)|skip
 refine Uv (wpAny_sequenceKey ht.typeIs (by decide) ?_);refine Uv (wpAny_callSpecial?_slot (name:=Str.ofString "__getitem__") ht.typeIs Xb
  (wpAny_call_entry Xb ht.typeIs entry_tuple_getitem ?_ (args_tuple_getitem _ _)))
 show UR _ _ (Builtin.Tuple.tupleItemsOf (.ref t) >>= _) _ _ s;refine Uv (tupleItemsOf_ ht ?_);refine Uv (wpAny_typeOf hTs ?_);rw[if_pos (by decide)];refine Uv (nM hs pl pu ?_);have hno:¬((((sIx items.size 0 lo:Nat):Int)==0&&(1:Int)==1&&(sIx items.size items.size hi-sIx items.size 0 lo)==items.size)=true):=by
  intro q;rw[U7,U7]at q;have q1:((sIx items.size 0 lo:Nat):Int)=0:=eq_of_beq q.1.1;have q2:sIx items.size items.size hi-sIx items.size 0 lo=items.size:=eq_of_beq q.2;exact hw ⟨by omega,by omega⟩
 show UR _ _ (if(((sIx items.size 0 lo:Nat):Int)==0&&(1:Int)==1&&(sIx items.size items.size hi-sIx items.size 0 lo)==items.size)=true then _ else _) _ _ s;rw[if_neg hno,ET]
 first
  |exact Uv (m:=WW _) (wpAny_newObj_type (UY ⟨_,rfl,UY h⟩) htake)
  |exact Uv (m:=WW _) (wpAny_newObj_type (Uv (UY (UY ⟨_,rfl,UY h⟩))) htake)
  |exact Uv (Uv (m:=WW _) (wpAny_newObj_type (UY (UY ⟨_,rfl,UY h⟩)) htake))
  |exact Uv (Uv (m:=WW _) (wpAny_newObj_type (UY ⟨_,rfl,UY h⟩) htake))
end
end HT
namespace L2
open PySem PySem.Spec PyProof.Rows
abbrev TO:=St->Hp->(Option Int->Hp->Prop)->Prop
def PO(X:Cx)(e:Option Vl)(t:TO):Prop :=
 ∀(π:List (Uy×Obj)) (s:UD) (σ:St) (H:Hp) (Q:Option Int->Hp->Prop),Inv X π σ H s->t σ H Q ->
  UR (UT X.prog X.w) X.A (evalPart e X.env) (λu s'=>∃o H',Inv X π σ H' s'/\IsPart u o/\Q o H') X.xe s
def HA:TO:=λ_ H Q=>Q none H
def OO(t:TE):TO:=λσ H Q=>t σ H λx H1=>∃i,x=.int i/\Q (some i) H1
section
variable {X:Cx}{e:Vl}{te:TE}{lo hi:Option Vl}{tl th:TO}{pos p2:Pos}
def HS:PO X none HA:=by
 intro π s σ H Q I h;rw[evalPart_none];exact UY ⟨none,H,I,.none,h⟩
def HR(h:PE X e te):PO X (some e) (OO te):=by
 intro π s σ H Q I hw;rw[evalPart_some];refine dz (h π s σ H _ I hw) λu s1 ⟨x,H1,I1,r1,q1⟩=>?_;obtain⟨i,rfl,q⟩:=q1;obtain⟨t,rfl⟩:=r1;exact⟨some i,H1,I1,.int i t,q⟩
noncomputable def GX(X:Cx) (r:V->Option Int->Option Int->Hp->VK->Prop):Prop :=
 ∀(π:List (Uy×Obj)) (s:UD) (σ:St) (H:Hp) (x:V) (v vl vu:Up) (lo hi:Option Int) (sl:Uy) (Q:VK),Inv X π σ H s->b3 x v->s.heap.IsSliceOf sl vl vu .none->IsPart vl lo->IsPart vu hi->r x lo hi H Q ->
  ∃T id,WY (.type T) "__getitem__"=pure (some (.builtin id))/\s.TypeIs v T/\UR (UT X.prog X.w) X.A (getItem v (.ref sl)) (EP X π σ Q) X.xe s
def GX.or(h:GX X r)(h':GX X r'):GX X (λx lo hi H Q=>r x lo hi H Q∨r' x lo hi H Q):=by
 intro π s σ H x v vl vu lo hi sl Q I rx hs pl pu q;rcases q with q|q
 .exact h π s σ H x v vl vu lo hi sl Q I rx hs pl pu q
 .exact h' π s σ H x v vl vu lo hi sl Q I rx hs pl pu q
def Th(r:V->Option Int->Option Int->Hp->VK->Prop)(te:TE)(tl th:TO):TE:=λσ H Q=>te σ H λx H1=>tl σ H1 λl H2=>th σ H2 λu H3=>r x l u H3 Q
def xW(hr:GX X r)(he:PE X e te)(hl:PO X lo tl)(hu:PO X hi th):PE X (.Subscript e (.Slice lo hi none p2) pos) (Th r te tl th):=by
 intro π s σ H Q I h;refine Subscript_ (dz (he π s σ H _ I h) λv s1 ⟨x,H1,I1,r1,q1⟩=>?_);refine wpAny_Slice (dz (hl π s1 σ H1 _ I1 q1) λvl s2 ⟨l,H2,I2,pl,q2⟩=>dz (hu π s2 σ H2 _ I2 q2) λvu s3 ⟨u,H3,I3,pu,q3⟩=>?_);rw[evalPart_none];refine UY ?_;have I4:Inv X π σ H3 { s3 with heap:=s3.heap.push { cls:=.type "slice",data:=.fields #[vl,vu,.none] } }:=I3.kept (t':=s3.toks) λb ob q=>Uz _ q;obtain⟨T,id,hT,ht,hg⟩:=hr π { s3 with heap:=s3.heap.push { cls:=.type "slice",data:=.fields #[vl,vu,.none] } } σ H3 x v vl vu l u s3.heap.objs.size Q I4 r1 (Heap.IsSliceOf.new ..) pl pu q3;show UR (UT X.prog X.w) X.A (subscriptTail e (.Slice lo hi none p2) v (.ref s3.heap.objs.size)) (EP X π σ Q) X.xe { s3 with heap:=s3.heap.push { cls:=.type "slice",data:=.fields #[vl,vu,.none] } };exact tail_any (ops:=[.ref s3.heap.objs.size,v]) ht hT hg (by with_unfolding_all rfl)
def yR(xs:al)(lo hi:Option Int):al:=(xs.drop (HT.sIx xs.length 0 lo)).take (HT.sIx xs.length xs.length hi-HT.sIx xs.length 0 lo)
def o4(xs:al)(lo hi:Option Int):(yR xs lo hi).length<=xs.length:=by
 unfold yR;rw[VA,Yv];omega
def Sr(K:Ur):V->Option Int->Option Int->Hp->VK->Prop:=λx lo hi H Q=>∃a xs,x=.ref a/\kC K H a xs /\
 ¬(HT.sIx xs.length 0 lo=0/\HT.sIx xs.length xs.length hi=xs.length)/\∀p,H p=none->Q (.ref p) (upd H p (.tup (yR xs lo hi)))
def Lp:GX X (Sr X.K):=by
 intro π s σ H x v vl vu lo hi sl Q I rx hs pl pu h;obtain⟨a,xs,rfl,hx,hw,q⟩:=h;cases rx;obtain⟨its,r,ht,hz⟩:=I.tuple hx;have hlen:its.toArray.size=xs.length:=by rw[UM];exact r.length.symm
 refine⟨"tuple",_,Xb.lookup,ht.typeIs,?_⟩;refine HT.getItem_tuple_cut ht hs pl pu (by rw[hlen];exact hw) ?_ (by rw[hlen];exact hz);rw[hlen];refine⟨.ref s.heap.objs.size,_,I.laid (t':=s.toks) (o:=.tup (yR xs lo hi)) (λb ob q=>Uz _ q) (UC _) ?_,rfl,q _ (I.hok.fresh (UC _))⟩;exact⟨U8 (o4 xs lo hi) hz,_,(r.drop (HT.sIx xs.length 0 lo)).take (HT.sIx xs.length xs.length hi-HT.sIx xs.length 0 lo),Zb _ _⟩
def Pe(K:Ur):R2:=λx y H Q=>∃a b xs ys,x=.ref a/\y=.ref b/\kC K H a xs/\kC K H b ys/\xs≠[]/\xs.length+ys.length<=sizeLine /\
 (ys=[]->Q (.ref a) H)/\(ys≠[]->∀p,H p=none->Q (.ref p) (upd H p (.tup (xs++ys))))
def bz.nil_iff(r:bz xs us):us=[]↔xs=[]:=by
 cases r with|nil|cons _ _=>simp
def Bt:gr X (binaryOp .Add) (Pe X.K):=by
 intro π s σ H x y v u Q I rx ry h;obtain⟨a,b,xs,ys,rfl,rfl,ha,hb,hx,hz,q1,q2⟩:=h;cases rx;cases ry;obtain⟨its,r1,p1,_⟩:=I.tuple ha;obtain⟨its2,r2,p2,_⟩:=I.tuple hb;refine HT.cat_tup p1 p2 (λz=>hx (r1.nil_iff.mp z)) (λz=>⟨.ref a,H,I,rfl,q1 (r2.nil_iff.mp z)⟩) (λz=>?_) (by rw[←r1.length,←r2.length];exact hz);refine⟨.ref s.heap.objs.size,_,I.laid (t':=s.toks) (o:=.tup (xs++ys)) (λb ob q=>Uz _ q) (UC _) ?_,rfl,q2 (λw=>z (r2.nil_iff.mpr w)) _ (I.hok.fresh (UC _))⟩;exact⟨by rw[U0];exact hz,_,r1.append r2,Zb _ _⟩
end
def uK(n:Nat)(i:Int):Option Nat:=if 0<=i then(if i<n then some i.toNat else none) else if -(n:Int)<=i then some (i+n).toNat else none
def atI{α:Type}(xs:List α)(i:Int):Option α:=(uK xs.length i).bind λj=>xs[j]?
def wb(h:uK n i=some j):seqIndex? i n=some j/\j<n/\-(n:Int)<=i/\i<n:=by
 unfold uK at h
 by_cases h0:0<=i
 .rw[if_pos h0]at h
  by_cases h1:i<n
  .rw[if_pos h1]at h
   have e:i.toNat=j:=Vu h;exact⟨by rw[seqIndex_of h0 h1,e],by omega,by omega,h1⟩
  .rw[if_neg h1]at h;cases h
 .rw[if_neg h0]at h
  by_cases h1:-(n:Int)<=i
  .rw[if_pos h1]at h
   have e:(i+n).toNat=j:=Vu h;exact⟨by rw[seqIndex_neg (by omega) h1,e],by omega,h1,by omega⟩
  .rw[if_neg h1]at h;cases h
def wQ{v:α}(h:atI xs i=some v):∃j,seqIndex? i xs.length=some j/\xs[j]?=some v/\j<xs.length/\-(xs.length:Int)<=i/\i<xs.length:=by
 unfold atI at h;cases e:uK xs.length i with
 |none=>rw[e]at h;cases h
 |some j=>
  rw[e]at h;obtain⟨h1,h2,h3,h4⟩:=wb e;exact⟨j,h1,h,h2,h3,h4⟩
def gE{j:Nat}{v:α}(h:xs[j]?=some v):atI xs (j:Int)=some v:=by
 have hj:j<xs.length:=(Ux.mp h).1;have e:uK xs.length (j:Int)=some j:=by
  unfold uK;rw[if_pos (by omega),if_pos (by omega)];simp
 unfold atI;rw[e];exact h
def nA(b:Vl):Prop:=∀o i,subscripted b false o i=operate [o,i] (getItem o i)
noncomputable def GJ(X:Cx) (r:R2):Prop :=
 ∀(value slice:Vl) (π:List (Uy×Obj)) (s:UD) (σ:St) (H:Hp) (x y:V) (v u:Up) (Q:VK),Inv X π σ H s->b3 x v->b3 y u->r x y H Q ->
  subscripted slice false v u=operate [v,u] (getItem v u)->UR (UT X.prog X.w) X.A (subscriptTail value slice v u) (EP X π σ Q) X.xe s
noncomputable def Ta(X:Cx) (id:String) (r:V->al->Hp->VK->Prop):Prop :=
 ∀(π:List (Uy×Obj)) (s:UD) (σ:St) (H:Hp) (x:V) (xs:al) (v:Up) (us:List Up) (Q:VK),Inv X π σ H s->b3 x v->bz xs us->r x xs H Q ->
  UR (UT X.prog X.w) X.A (call (.builtin id) (v::us)) (EP X π σ Q) X.xe s
section
variable {X:Cx}{a b:Vl}{ta tb:TE}{pos:Pos}
def GJ.or(h:GJ X r)(h':GJ X r'):GJ X (λx y H Q=>r x y H Q∨r' x y H Q):=by
 intro value slice π s σ H x y v u Q I rx ry q hs;rcases q with q|q
 .exact h value slice π s σ H x y v u Q I rx ry q hs
 .exact h' value slice π s σ H x y v u Q I rx ry q hs
def KJ(hr:GJ X r)(ha:PE X a ta)(hb:PE X b tb)(hs:nA b):PE X (.Subscript a b pos) (Ob r ta tb):=by
 intro π s σ H Q I h;exact Subscript_ (NV ha hb I h λv u s2 x y H2 I2 rx ry q=>hr a b π s2 σ H2 x y v u Q I2 rx ry q (hs _ _))
def Pc(K:Ur):R2:=λx y H Q=>∃p xs i v,x=.ref p/\y=.int i/\fM K H p xs/\atI xs i=some v/\Q v H
def Pa(K:Ur):R2:=λx y H Q=>∃p xs i v,x=.ref p/\y=.int i/\kC K H p xs/\atI xs i=some v/\Q v H
def Pb:R2:=λx y H Q=>∃z i c,x=.str z/\y=.int i/\z.length<=sizeLine/\atI z.cps.toList i=some c/\Q (.str ⟨#[c]⟩) H
def IC:GJ X (Pc X.K):=by
 intro value slice π s σ H x y v u Q I rx ry h hs;obtain⟨p,xs,i,z,rfl,rfl,hq,he,q⟩:=h;cases rx;obtain⟨t,rfl⟩:=ry;obtain⟨its,r,pl,hz⟩:=I.list hq;obtain⟨j,h1,h2,h3,h4,h5⟩:=wQ he;obtain⟨w,ew,rw'⟩:=r.get h2;have hl:=r.length;have hn:=q9;have fin:EP X π σ Q w s:=⟨z,H,I,rw',q⟩
 by_cases h0:0<=i
 .have hj:i.toNat=j:=by
   rw[seqIndex_of h0 h5]at h1;exact Vu h1
  exact item_listR pl.isList h0 (by omega) (by rw[hj];simpa using ew) fin hs
 .have hj:(i+(its.toArray.size:Int)).toNat=j:=by
   rw[seqIndex_neg (by omega) h4]at h1;rw[UM,←hl];exact Vu h1
  exact subscriptTail_builtinR (x:=w) pl.isList.typeIs slot_list_getitem.lookup
   (wpAny_getItem_list_neg (Q:=λr s'=>r=w/\EP X π σ Q r s') pl.isList (by omega) (by rw[UM]<;>omega) (by omega) (by rw[hj];simpa using ew) ⟨rfl,fin⟩) hs
def Mn:GJ X (Pa X.K):=by
 intro value slice π s σ H x y v u Q I rx ry h hs;obtain⟨p,xs,i,z,rfl,rfl,hq,he,q⟩:=h;cases rx;obtain⟨t,rfl⟩:=ry;obtain⟨its,r,pl,hz⟩:=I.tuple hq;obtain⟨j,h1,h2,h3,h4,h5⟩:=wQ he;obtain⟨w,ew,rw'⟩:=r.get h2;have hl:=r.length;have hn:=q9;have fin:EP X π σ Q w s:=⟨z,H,I,rw',q⟩
 exact subscriptTail_builtinR (x:=w) pl.typeIs slot_tuple_getitem.lookup
  (getItem_tuple (j:=j) (Q:=λr s'=>r=w/\EP X π σ Q r s') pl (by omega) (by omega) (by rw[UM,←hl];exact h1) (by simpa using ew) ⟨rfl,fin⟩) hs
def Mo:GJ X Pb:=by
 intro value slice π s σ H x y v u Q I rx ry h hs;obtain⟨z,i,c,rfl,rfl,hz,he,q⟩:=h;obtain⟨t,rfl⟩:=rx;obtain⟨t',rfl⟩:=ry;obtain⟨j,h1,h2,h3,h4,h5⟩:=wQ he;have hl:z.cps.toList.length=z.length:=by simp[Str.length]
 rw[hl]at h1 h4 h5;have hn:=q9;exact tail_any (typeIs_str s z t) slot_str_getitem.lookup (getItem_str (c:=c) (by
  have e1:decide (i < -(2 ^ 63:Int))=false:=decide_eq_false (by omega);have e2:decide (i≥2 ^ 63)=false:=decide_eq_false (by omega);rw[e1,e2,Bool.or_false]) (by rw[h1];simpa using h2) ⟨.str ⟨#[c]⟩,H,I.tok _,⟨_,rfl⟩,q⟩) hs
def Tp(K:Ur):R2:=λx y H Q=>Pc K x y H Q∨Pa K x y H Q∨Pb x y H Q
def FA:GJ X (Tp X.K):=IC.or (Mn.or Mo)
def zU(its:List Up)(n j:Nat)(u:Up):Ya (·.setIfInBounds j u) { cls:=.type "list",data:=.seq its.toArray n }={ cls:=.type "list",data:=.seq (its.set j u).toArray n }:=by
 simp[Ya]
def Inv.lst(I:Inv X π σ H s)(h:H p=some (.lst xs)) :
  ∃(its:List Up) (n:Nat),bz xs its/\s.heap.get? p=some { cls:=.type "list",data:=.seq its.toArray n }/\xs.length<=sizeLine:=by
 obtain⟨z,its,n,r,e⟩:=I.hok p _ h;exact⟨its,n,r,e,z⟩
def Inv.lstUpd{its its':List Up}(I:Inv X π σ H s)(h:H p=some (.lst xs))
  (ho:s.heap.get? p=some { cls:=.type "list",data:=.seq its.toArray n })(hf:f { cls:=.type "list",data:=.seq its.toArray n }={ cls:=.type "list",data:=.seq its'.toArray n' })(r:bz ys its')(hz:ys.length<=sizeLine)(t:Nat) :
  Inv X π σ (upd H p (.lst ys)) { s with heap:=s.heap.update p f,toks:=t }:=by
 have e:(s.heap.update p f).get? p=some { cls:=.type "list",data:=.seq its'.toArray n' }:=by
  rw[V9 f ho (by rw[hf]<;>rfl),hf]
 refine I.write (x:=p) (e:=p) (by rw[h];trivial) (.inl rfl) (λb u hb q=>(V4 _ _ (Vj hb)).trans q) ⟨_,e⟩ ?_;exact⟨hz,its',n',r,e⟩
def KG:V->V->V->Hp->(Hp->Prop)->Prop:=λo i v H Q=>∃p xs k j,o=.ref p/\i=.int k/\H p=some (.lst xs)/\uK xs.length k=some j/\Q (upd H p (.lst (xs.set j v)))
def xF:Ru X KG:=by
 intro π s σ H o i v ov iv u Q I ro ri rv h;obtain⟨p,xs,k,j,rfl,rfl,hp,hj,q⟩:=h;cases ro;obtain⟨t,rfl⟩:=ri;obtain⟨its,n,r,ho,hz⟩:=I.lst hp;obtain⟨h1,h2,h3,h4⟩:=wb hj;have hl:=r.length;have hn:=q9;have I':Inv X π σ (upd H p (.lst (xs.set j v))) { s with heap:=s.heap.update p (Ya (·.setIfInBounds j u)) } :=
  I.lstUpd hp ho (zU its n j u) (r.set rv j) (by rw[List.length_set];exact hz) s.toks
 by_cases h0:0<=k
 .have hk:k.toNat=j:=by
   rw[seqIndex_of h0 h4]at h1;exact Vu h1
  exact W.ki_setAt ho h0 (by omega) (by rw[UM,←hl];exact h4) (by rw[hk];exact⟨_,I',q⟩)
 .have hk:(k+(its.toArray.size:Int)).toNat=j:=by
   rw[seqIndex_neg (by omega) h3]at h1;rw[UM,←hl];exact Vu h1
  exact W.ki_setBack ho (by omega) (by rw[UM,←hl];exact h3) (by omega) (by rw[hk];exact⟨_,I',q⟩)
def vC(lo hi:Option Int)(n:Nat):(sliceBounds lo hi none n).1=((HT.sIx n 0 lo:Nat):Int)/\(sliceBounds lo hi none n).2.1=((HT.sIx n n hi:Nat):Int)/\(sliceBounds lo hi none n).2.2=1:=by
 refine⟨?_,?_,rfl⟩
 .cases lo with
  |none=>simp[sliceBounds,HT.sIx]
  |some i=>
   simp only[sliceBounds,HT.sIx,Option.getD_none,show(1:Int) > 0 by decide,if_true]
   by_cases h:i<0
   .simp only[h,if_true]<;>omega
   .simp only[h,if_false]<;>omega
 .cases hi with
  |none=>simp[sliceBounds,HT.sIx]
  |some i=>
   simp only[sliceBounds,HT.sIx,Option.getD_none,show(1:Int) > 0 by decide,if_true]
   by_cases h:i<0
   .simp only[h,if_true]<;>omega
   .simp only[h,if_false]<;>omega
def tN(its:List Up)(lo hi:Option Int):slicePick its.toArray lo hi none=((its.drop (HT.sIx its.length 0 lo)).take (HT.sIx its.length its.length hi-HT.sIx its.length 0 lo)).toArray:=by
 obtain⟨h1,h2,h3⟩:=vC lo hi its.toArray.size;unfold slicePick;rw[h1,h2,h3];simp only[sliceRange_one,pick_run,UM]<;>rfl
def Su(K:Ur):V->Option Int->Option Int->Hp->VK->Prop:=λx lo hi H Q=>∃a xs,x=.ref a/\fM K H a xs/\∀p,H p=none->Q (.ref p) (upd H p (.lst (yR xs lo hi)))
def A6:GX X (Su X.K):=by
 intro π s σ H x v vl vu lo hi sl Q I rx hs pl pu h;obtain⟨a,xs,rfl,hx,q⟩:=h;cases rx;obtain⟨its,r,ht,hz⟩:=I.list hx;have hlen:=r.length;refine⟨"list",_,slot_list_getitem.lookup,ht.isList.typeIs,?_⟩;refine wpAny_getItem_list_slice ht.isList hs pl pu .none (by simp) ?_ (by rw[UM]<;>omega);rw[tN,←hlen];refine⟨.ref s.heap.objs.size,_,I.laid (t':=s.toks) (o:=.lst (yR xs lo hi)) (λb ob q=>Uz _ q) (UC _) ?_,rfl,q _ (I.hok.fresh (UC _))⟩;exact⟨U8 (o4 xs lo hi) hz,_,0,(r.drop (HT.sIx xs.length 0 lo)).take (HT.sIx xs.length xs.length hi-HT.sIx xs.length 0 lo),Vr _ rfl⟩
def vR:gr X (Vw .NotIn) (λx y H Q=>∃i j,x=.str i/\y=.str j/\Q (.bl (!(!(Wv j i 0 j.length 1).isEmpty))) H):=by
 intro π s σ H x y v u Q I rx ry h;obtain⟨i,j,rfl,rfl,q⟩:=h;obtain⟨t,rfl⟩:=rx;obtain⟨t',rfl⟩:=ry;exact notIn_str ⟨.bl _,H,I,rfl,q⟩
def wL:gN X (.type "list") (λxs H Q=>∃p ys,xs=[.ref p]/\(fM X.K H p ys∨kC X.K H p ys)/\∀l,H l=none->Q (.ref l) (upd H l (.lst ys))):=by
 intro π s σ H xs us Q I r h;obtain⟨p,ys,rfl,hq,q⟩:=h;obtain⟨u,rfl,rx⟩:=oz r;cases rx;have fin:∀(its:List Up),bz ys its->ys.length<=sizeLine->∀(h':UO) (c':Nat),(∀b o',s.heap.get? b=some o'->h'.get? b=some o') ->
   h'.get? s.heap.objs.size=some { cls:=.type "list",dict:=none,data:=.seq its.toArray c',slots:=#[] }->EP X π σ Q (.ref s.heap.objs.size) { s with heap:=h' }:=λits r' hz h' c' kp e=>
  ⟨.ref s.heap.objs.size,_,I.laid (t':=s.toks) kp (UC _) (show c7 X.prog X.w _ h' _ (.lst ys) from⟨hz,its,c',r',e⟩),rfl,q _ (I.hok.fresh (UC _))⟩
 rcases hq with hq|hq
 .obtain⟨its,r',pl,hz⟩:=I.list hq
  have hlen:=r'.length;obtain⟨o,ho,hc,n,hd⟩:=pl.isList;exact call_list_seq p (.inl rfl) ho hc hd (λh' c' kp e=>fin its r' hz h' c' kp e) (by simp only[UM]<;>omega)
 .obtain⟨its,r',pl,hz⟩:=I.tuple hq
  have hlen:=r'.length;obtain⟨o,ho,hc,n,hd⟩:=pl;exact call_list_seq p (.inr rfl) ho hc hd (λh' c' kp e=>fin its r' hz h' c' kp e) (by simp only[UM]<;>omega)
def lX:gN X (.type "tuple") (λxs H Q=>∃p ys,xs=[.ref p]/\((fM X.K H p ys/\∀l,H l=none->Q (.ref l) (upd H l (.tup ys)))∨(kC X.K H p ys/\Q (.ref p) H))):=by
 intro π s σ H xs us Q I r h;obtain⟨p,ys,rfl,h⟩:=h;obtain⟨u,rfl,rx⟩:=oz r;cases rx;rcases h with⟨hq,q⟩|⟨hq,q⟩
 .obtain⟨its,r',pl,hz⟩:=I.list hq
  have hlen:=r'.length;refine call_tuple_list pl.isList (λh' kp=>?_) (by simp only[UM]<;>omega);have I1:Inv X π σ H { s with heap:=h' }:=I.kept (t':=s.toks) kp;have I2:Inv X π σ (upd H h'.objs.size (.tup ys)) { s with heap:=h'.push { cls:=.type "tuple",data:=.seq its.toArray } } :=
   I1.laid (t':=s.toks) (λb o e=>Uz _ e) (UC _) (show c7 X.prog X.w _ _ _ (.tup ys) from⟨hz,its,r',Zb _ _⟩)
  exact⟨.ref h'.objs.size,_,I2,rfl,q _ (I1.hok.fresh (UC _))⟩
 .obtain⟨its,r',pl,hz⟩:=I.tuple hq
  exact call_tuple_same pl ⟨.ref p,H,I,rfl,q⟩
noncomputable def RY(K:Ur) (T:String) (x:V) (H:Hp):Prop:=match x with
 |.str _=>T="str"
 |.int _=>T="int"
 |.ref p=>(T="list"/\∃xs,fM K H p xs)∨(T="tuple"/\∃o,K.lookup p=some o/\o.cls=.type "tuple"/\o.dict=none) ∨
   (T="dict"/\((∃kvs,H p=some (.dK kvs))∨∃kvs,H p=some (.dT kvs)))∨(T="set"/\∃S n,H p=some (.set S n))
 |_=>False
def D7(I:Inv X π σ H s)(r:b3 x v)(ty:RY X.K T x H) :
  s.TypeIs v T/\∀a,v=.ref a->∃ob,s.heap.get? a=some ob/\ob.dict=none:=by
 cases x with
 |str z=>
  obtain⟨t,rfl⟩:=r;cases (show T="str" from ty);exact⟨typeIs_str s z t,λ_ e=>nomatch e⟩
 |int i=>
  obtain⟨t,rfl⟩:=r;cases (show T="int" from ty);exact⟨typeIs_int s i t,λ_ e=>nomatch e⟩
 |ref p=>
  cases r;rcases ty with⟨rfl,xs,hq⟩|⟨rfl,o,hk,hc,hd⟩|⟨rfl,hk⟩|⟨rfl,S,n,hk⟩
  .obtain⟨its,_,pl,_⟩:=I.list hq
   refine⟨pl.isList.typeIs,λa e=>?_⟩;cases e;obtain⟨o,n,e,c,hd,_⟩:=pl;exact⟨o,e,hd⟩
  .refine⟨⟨o,I.kIn p o hk,hc⟩,λa e=>?_⟩
   cases e;exact⟨o,I.kIn _ o hk,hd⟩
  .have z:∃o,s.heap.get? p=some o/\o.ExactDict:=by
    rcases hk with⟨kvs,hk⟩|⟨kvs,hk⟩
    .obtain⟨_,_,_,_,o,_,_,e,ex,_⟩:=I.hok p _ hk
     exact⟨o,e,ex⟩
    .obtain⟨_,_,_,_,o,_,_,e,ex,_⟩:=I.hok p _ hk
     exact⟨o,e,ex⟩
   obtain⟨o,e,ex⟩:=z;refine⟨⟨o,e,ex.1⟩,λa e2=>?_⟩;cases e2;exact⟨o,e,ex.2.1⟩
  .obtain⟨o,_,_,_,e,ex,_⟩:=I.hok p _ hk
   refine⟨⟨o,e,ex.1⟩,λa e2=>?_⟩;cases e2;exact⟨o,e,ex.2.1⟩
 |_=>exact VN ty
def Sm(K:Ur)(T:String)(r:V->al->Hp->VK->Prop)(to:TE):TE:=λσ H Q=>to σ H λx H1=>RY K T x H1/\r x [] H1 Q
def T5(K:Ur)(T:String)(r:V->al->Hp->VK->Prop)(to:TE)(t:TA):TE:=λσ H Q=>to σ H λx H1=>RY K T x H1/\t σ H1 λxs H2=>r x xs H2 Q
variable {o e:Vl}{es:List Vl}{to:TE}{t:TA}{name:UP}{apos cpos:Pos}{T id:String}{r:V->al->Hp->VK->Prop}
def LY(pa:PlainAttrs T)(slot:Slot T name id)(hty:typeOf (.builtin id)=pure (.type "method_descriptor"))(hm:Ta X id r)(ho:PE X o to)
  (hbase:Wf o name X.env (eval o X.env)=eval o X.env:=by rfl)(hline:(apos.endLine==cpos.line)=true:=by rfl):PE X (.Call (.Attribute o name apos) [] [] cpos) (Sm X.K T r to):=by
 intro π s σ H Q I h;refine wpAny_Call_method0_late hbase hline (dz (ho π s σ H _ I h) λv s1 z9=>?_);obtain⟨x,H1,I1,r1,ty,q1⟩:=z9;obtain⟨h1,h2⟩:=D7 I1 r1 ty;exact⟨T,id,pa,slot,hty,h1,h2,XW rfl (PySem.evalArgs_none (hm π s1 σ H1 x [] v [] Q I1 r1 .nil q1))⟩
def Bl(pa:PlainAttrs T)(slot:Slot T name id)(hty:typeOf (.builtin id)=pure (.type "method_descriptor"))(hm:Ta X id r)(ho:PE X o to)(ha:PA X (e::es) t)
  (hbase:Wf o name X.env (eval o X.env)=eval o X.env:=by rfl)
  (hfew:((Vy cpos (Uw (e::es) X.env)).all (λx=>!x.1)&&(XO cpos (WM [] X.env)).all (λx=>x.1.isSome)
  &&decide ((e::es).length+([]:List Xh).length+(if([]:List Xh).isEmpty then 0 else 1)<30))=true:=by rfl)
  (hline:(apos.endLine==cpos.line)=true:=by rfl) (hs:Uw (e::es) X.env=(false,eval e X.env)::Uw es X.env:=by rfl) (hplain:(Vy cpos (Uw es X.env)).any (·.1)=false:=by rfl) :
  PE X (.Call (.Attribute o name apos) (e::es) [] cpos) (T5 X.K T r to t):=by
 intro π s σ H Q I h;refine wpAny_Call_method_late hbase hfew hline rfl (dz (ho π s σ H _ I h) λv s1 ⟨x,H1,I1,r1,ty,q1⟩=>?_);obtain⟨h1,h2⟩:=D7 I1 r1 ty;refine⟨T,id,pa,slot,hty,h1,h2,?_⟩;have hA:=ha cpos π s1 σ H1 _ I1 q1;rw[hs]at hA ⊢;refine XW (by show(false||(Vy cpos (Uw es X.env)).any (·.1))=false;rw[hplain]<;>rfl) (X4 ?_);exact dz hA λus s2 ⟨vs,H2,I2,r2,q2⟩=>hm π s2 σ H2 x vs v us Q I2 r1 r2 q2
end
noncomputable def Tb(X:Cx) (id:String) (r:V->al->Hp->VK->Prop):Prop :=
 ∀(π:List (Uy×Obj)) (s:UD) (σ:St) (H:Hp) (x:V) (xs:al) (v:Up) (us:List Up) (Q:VK),Inv X π σ H s->b3 x v->bz xs us->r x xs H Q ->
  UR (UT X.prog X.w) X.A (call (.builtin id) (v::us)) (EP X π σ Q) X.xe s
theorem bz.one:∀{x:V}{us:List Up},bz [x] us->∃u,us=[u]/\b3 x u
 |_,_,.cons r .nil=>⟨_,rfl,r⟩
theorem bz.zero:∀{us:List Up},bz [] us->us=[]
 |_,.nil=>rfl
def bz.dropLast(h:bz xs us):bz xs.dropLast us.dropLast:=by
 induction h with
 |nil=>exact .nil
 |cons r t ih=>
  cases t with|nil=>exact .nil|cons q t'=>exact .cons r ih
theorem bz.eraseIdx:∀{xs:al}{us:List Up}(i:Nat),bz xs us->bz (xs.eraseIdx i) (us.eraseIdx i)
 |_,_,_,.nil=>.nil
 |_,_,0,.cons _ t=>t
 |_,_,i+1,.cons r t=>.cons r (bz.eraseIdx i t)
theorem bz.rep(h:bz xs us):∀k:Nat,bz (UJ k xs).flatten (UJ k us).flatten
 |0=>.nil
 |k+1=>by
  rw[Vz,Vz,Wo,Wo];exact bz.append h (bz.rep h k)
def As{α:Type}(l:List α):l.eraseIdx (l.length-1)=l.dropLast:=by
 induction l with
 |nil=>rfl
 |cons a r ih=>
  cases r with
  |nil=>rfl
  |cons b r=>
   have e:(a::b::r).length-1=((b::r).length-1)+1:=by
    have h1:(a::b::r).length=r.length+2:=rfl;have h2:(b::r).length=r.length+1:=rfl;omega
   rw[e,XQ,ih]
   all_goals rfl
theorem uJ{α:Type}:∀(l:List α) (i:Nat),(l.eraseIdx i).length<=l.length
 |[],_=>UC _
 |_::_,0=>Nat.le_succ _
 |_::r,i+1=>Nat.succ_le_succ (uJ r i)
theorem uO(its:List Up):∀(k:Nat) (acc:List Up),
  YK (λx1 x2=>x1++x2) acc.toArray (UJ k its.toArray)=(acc++(UJ k its).flatten).toArray
 |0,acc=>by simp
 |k+1,acc=>by
  have e:acc.toArray++its.toArray=(acc++its).toArray:=by simp
  have e2:(acc++its)++(UJ k its).flatten=acc++(UJ (k+1) its).flatten:=by
   rw[Vz,Wo,Wq]
  rw[←e2,←uO its k (acc++its),←e,Vz,List.foldl_cons]
section
variable {X:Cx}{π:List (Uy×Obj)}{σ:St}{H:Hp}{s:UD}{l b:Uy}{xs ys zs:al}
def Inv.lset{its its':List Up}(I:Inv X π σ H s)(hH:H l=some (.lst xs))
  (e:s.heap.get? l=some { cls:=.type "list",data:=.seq its.toArray n })(hf:f its.toArray=its'.toArray)(hv:bz ys its')(hz:ys.length<=sizeLine) :
  Inv X π σ (upd H l (.lst ys)) { s with heap:=s.heap.update l (Ya f),toks:=t' }:=by
 have q:=PySem.IsL.update e f;rw[hf]at q;refine I.write (x:=l) (e:=l) (by rw[hH];exact trivial) (.inl rfl) (λb' u hb hu=>(V4 s.heap (Ya f) (Vj hb)).trans hu) ⟨_,q⟩ ?_;exact⟨hz,its',_,hv,q⟩
def Inv.lnew(I:Inv X π σ H s)(hv:bz ys its)(hz:ys.length<=sizeLine) :
  Inv X π σ (upd H s.heap.objs.size (.lst ys)) { s with heap:=s.heap.push { cls:=.type "list",data:=.seq its.toArray },toks:=t' } :=
 I.laid (λ_ _ q=>Uz _ q) (UC _) ⟨hz,its,0,hv,Vr _ rfl⟩
def Inv.fresh(I:Inv X π σ H s):H s.heap.objs.size=none:=I.hok.fresh (UC _)
def Inv.lstM(I:Inv X π σ H s)(hH:H l=some (.lst xs)):xs.length<=sizeLine/\∃(its:List Up) (n:Nat),bz xs its/\xs.length=its.length/\s.heap.get? l=some { cls:=.type "list",data:=.seq its.toArray n }:=by
 obtain⟨z,its,n,r,e⟩:=I.hok l _ hH;exact⟨z,its,n,r,r.length,e⟩
def Fb(h:n<=sizeLine):XN n=false:=by
 unfold XN;exact decide_eq_false (by omega)
end
section
variable {X:Cx}
def HL:V->al->Hp->VK->Prop:=λx vs H Q=>∃l xs y,x=.ref l/\vs=[y]/\H l=some (.lst xs)/\xs.length<sizeLine/\Q .non (upd H l (.lst (xs++[y])))
def nU:Tb X "list.append" HL:=by
 intro π s σ H x vs v us Q I rx rv h;obtain⟨l,xs,y,rfl,rfl,hH,hz,q⟩:=h;cases rx;obtain⟨u,rfl,ru⟩:=rv.one;obtain⟨z,its,n,r,hl,e⟩:=I.lstM hH;refine call_meets F.slot_list_append ⟨_,e,rfl⟩ F.entry_list_append (F.args_list_append_2 _ _) (PySem.list_append l its.toArray n u (by rw[UM];omega)) ⟨e,?_⟩;refine⟨.non,_,I.lset (its':=its++[u]) hH e (by simp) (r.append (.cons ru .nil)) ?_,rfl,q⟩;rw[U0,XY];omega
def Sw:V->al->Hp->VK->Prop:=λx vs H Q=>∃l xs y,x=.ref l/\vs=[]/\H l=some (.lst xs)/\xs[xs.length-1]?=some y/\Q y (upd H l (.lst xs.dropLast))
def Md:Tb X "list.pop" Sw:=by
 intro π s σ H x vs v us Q I rx rv h;obtain⟨l,xs,y,rfl,rfl,hH,hy,q⟩:=h;cases rx;have hus:=rv.zero;subst hus;obtain⟨z,its,n,r,hl,e⟩:=I.lstM hH;obtain⟨u,hu,ru⟩:=r.get hy;have hy':its.toArray[its.toArray.size-1]?=some u:=by
  show its.toArray[its.length-1]?=some u;rw[←Zx,←hl];exact hu
 refine call_meets F.slot_list_pop ⟨_,e,rfl⟩ F.entry_list_pop (F.args_list_pop_1 _) (MeetsSeq.list_pop_last l its.toArray n u hy' (by rw[UM];omega)) ⟨e,?_⟩;refine⟨y,_,I.lset (its':=its.dropLast) hH e ?_ r.dropLast ?_,ru,q⟩
 .show its.toArray.eraseIdxIfInBounds (its.toArray.size-1)=its.dropLast.toArray
  rw[UM,Yu,As]
 .rw[List.length_dropLast]
  omega
def LK:V->al->Hp->VK->Prop:=λx vs H Q=>∃l xs i k y,x=.ref l/\vs=[.int i]/\H l=some (.lst xs)/\-(2 ^ 63)<=i/\i<2 ^ 63/\seqIndex? i xs.length=some k/\xs[k]?=some y/\Q y (upd H l (.lst (xs.eraseIdx k)))
def Fj:Tb X "list.pop" LK:=by
 intro π s σ H x vs v us Q I rx rv h;obtain⟨l,xs,i,k,y,rfl,rfl,hH,h1,h2,hk,hy,q⟩:=h;cases rx;obtain⟨u,rfl,ru⟩:=rv.one;obtain⟨t,rfl⟩:=ru;obtain⟨z,its,n,r,hl,e⟩:=I.lstM hH;obtain⟨w,hw,rw'⟩:=r.get hy;refine call_meets F.slot_list_pop ⟨_,e,rfl⟩ F.entry_list_pop (F.args_list_pop_2 _ _)
  (MeetsSeq.list_pop_at l its.toArray n i t k w (fitsIndex_both h1 h2) (by rw[UM,←hl];exact hk) (by rw[←Zx];exact hw) (by rw[UM];omega)) ⟨e,?_⟩
 refine⟨y,_,I.lset (its':=its.eraseIdx k) hH e ?_ (r.eraseIdx k) ?_,rw',q⟩
 .show its.toArray.eraseIdxIfInBounds k=(its.eraseIdx k).toArray
  rw[Yu]
 .have:=uJ xs k
  omega
def Sv:R2:=λx y H Q=>∃l k xs,x=.ref l/\y=.int k/\H l=some (.lst xs)/\-(2 ^ 63)<=k/\k<2 ^ 63/\xs.length*k.toNat<=sizeLine /\
 ∀p,H p=none->Q (.ref p) (upd H p (.lst (UJ k.toNat xs).flatten))
def Iz{α:Type}(xs:List α)(k:Nat):(UJ k xs).flatten.length=k*xs.length:=by
 induction k with|zero=>simp|succ k ih=>rw[Vz,Wo,U0,ih,Ym,Zn]
def L7:gr X (binaryOp .Mult) Sv:=by
 intro π s σ H x y v u Q I rx ry h;obtain⟨l,k,xs,rfl,rfl,hH,h1,h2,hz,q⟩:=h;cases rx;obtain⟨t,rfl⟩:=ry;obtain⟨z,its,n,r,hl,e⟩:=I.lstM hH;have hlen:its.toArray.size*k.toNat<=sizeLine:=by rw[UM,←hl];exact hz
 have hcap:¬its.toArray.size*k.toNat > (2 ^ 63-1) / 8:=by
  have:(sizeLine:Nat)<=(2 ^ 63-1) / 8:=by decide
  omega
 have hfit:¬(!Builtin.List.listFitsIndex k)=true:=by
  rw[fitsIndex_both h1 h2];exact VO
 have hlong:¬XN (its.toArray.size*k.toNat)=true:=by
  rw[Fb hlen];exact VO
 have hnew:YK (λx1 x2=>x1++x2) #[] (UJ (if its.toArray.isEmpty=true then 0 else k.toNat) its.toArray)=(UJ k.toNat its).flatten.toArray:=by
  have f0:∀m:Nat,YK (λx1 x2=>x1++x2) #[] (UJ m its.toArray)=(UJ m its).flatten.toArray:=λm=>by
   have:=uO its m [];rw[Wl]at this;exact this
  rw[f0];cases its with|nil=>simp|cons a r'=>rw[if_neg (by simp)]
 refine wpAny_binaryOp_repeat_ref (T:="list") (U:="int") (by decide) ⟨_,e,rfl⟩ (λs'=>typeIs_int s' k t) noFill_list_mul F.fills_int_mul F.slot_int_rmul repeat_list F.slot_int_index.lookup
  (call_meets F.slot_int_rmul (typeIs_int s k t) F.entry_int_rmul (F.args_int_rmul_2 _ _) (int___rmul___int_list k t l its.toArray n)
   ⟨e,rfl,⟨_,e,rfl⟩,call_meets F.slot_list_mul ⟨_,e,rfl⟩ F.entry_list_mul (F.args_list_mul_2 _ _) (AutoListH.list___mul___list_int_3 l its.toArray n k t hfit hcap hlong) ⟨e,?_⟩⟩)
 rw[hnew];exact⟨.ref _,_,I.lnew (t':=s.toks) (r.rep k.toNat) (by rw[Iz,Nat.mul_comm];exact hz),rfl,q _ I.fresh⟩
end
end L2
namespace Att
open PySem PySem.W PySem.Calls PyProof.Rows
def pG{h:UO}:∀(ns:List Int) (vs:List Up),WellAll P h vs (ns.map WData.int)->IntsAre vs ns:=by
 intro ns
 induction ns with
 |nil=>
  intro vs w;rw[Wn]at w;cases w;exact .nil
 |cons n ns ih=>
  intro vs w;rw[UG]at w;cases w with
  |cons a b=>
   cases a;exact .cons _ _ (ih _ b)
def CC{l:OpenLaw}(hn:l.most=some n){h:UO} 
  (hpre:l.row.toRowW.claim.pre args=true)(hwl:WellAll P h vals args) :
  ∃a vs ns,vals=[Ve a]/\args=[WData.list (ns.map WData.int)]/\h.get? a=some { cls:=.type "list",data:=.seq vs.toArray }/\IntsAre vs ns/\ns.length<=n:=by
 have hsh:WShape.hasAll [] args [.list .int]=true:=(pre_splitW hpre).1;have hc:l.pre.holds [] { args:=args }=true:=(pre_splitW hpre).2;obtain⟨d,r,rfl,h1,h2⟩:=hasAllW_cons hsh;obtain rfl:=hasAllW_nil h2;obtain⟨xs,rfl,h3⟩:=hasW_list h1;obtain⟨ns,rfl⟩:=items_int h3;have hlen:ns.length<=n:=by
  unfold OpenLaw.pre at hc;have h4:(WTm.not (.lt (.lit (.int (n:Int))) (.len (.arg 0)))).holds [] { args:=[.list (ns.map .int)] }=true:=by
   have h4:=(holds_andW hc).1;rw[hn]at h4;exact h4
  have h5:=condW_of h4 (w_not (w_lt w_lit (w_len_list (w_arg rfl))));rw[Us]at h5;refine Nat.le_of_not_lt λq=>?_;have q':(n:Int)<((ns.length:Nat):Int):=by omega
  first
   |(rw[decide_eq_true q']at h5;exact absurd h5 (by decide))
   |(simp at h5;omega)
 cases hwl with
 |cons w1 w2=>
  cases w2;cases w1 with|list ho hall=>exact⟨_,_,ns,rfl,rfl,ho,pG ns _ hall,hlen⟩
def CI(l:OpenLaw)(args:List WData):l.row.toRowW.claim.post args (.bool true) args=true :=
 postW_of (r:=l.row.toRowW) (X:=(true==true))
  (show WShape.has [] (.bool true) .bool=true by first|rfl|decide|simp[WShape.has,WShape.arms,WShape.armsAll])
  (show(WTm.eq .res (.lit (.bool true))).value [] { args:=args,res:=some (.bool true),after:=args }=some (.bool (true==true)) from w_eq_bool (w_res rfl) w_lit) rfl
def attach_call{l:OpenLaw}{q:Vt} 
  (hn:l.most=some n)(hdf:d.params.defaults=[])
  (call:∀(w:VH) (sf sg:UD) (mg mb:UP->Option Up) (fa:Uy) (o:Obj) (pm cd doc:Up) (a:Uy) (vs:List Up) (ns:List Int),
   Ground q loose [] XP w sf mg mb sg.heap->YP w sg.heap ->
   sg.heap.get? fa=some o->o.data=.func (docDef d.name d.params d.body d.scope pm cd doc)->sg.heap.CodeRec cd d.name->mg d.name=some (.ref fa) ->
   sg.heap.get? a=some { cls:=.type "list",data:=.seq vs.toArray }->IntsAre vs ns->ns.length<=n->sg.gens=#[] ->
   Wz (UT l.prog w) callerA (.call (.ref fa) ⟨[.ref a],[]⟩) (λr s'=>r=.ok (.ret (.bool true))/\OldK sg.heap s'.heap/\s'.os=sg.os/\AllBare s'.gens) sg) :
  WalkO q loose XP YP l.row.toRowW d [] (λf vs=>PySem.call f vs):=by
 intro w sf sg mg mb G Y fa o pm cd doc dV kV ho hd hcd hD hmg hg args vals as hpre hlay hrd hwl hlo;obtain rfl:dV=.none:=Dflts.none hD hdf;obtain rfl:kV=.none:=Dflts.noKw hD;obtain⟨a,vs,ns,rfl,rfl,hobj,hints,hlen⟩:=CC hn hpre hwl;refine enter_call (codeAny_mono (call w sf sg mg mb fa o pm cd doc a vs ns G Y ho (fd_plain hd) hcd hmg hobj hints hlen hg) λr s' hq=>?_);obtain⟨rfl,h2,h3,h4⟩:=hq;exact⟨.inl ⟨.bool true,.bool true,[],rfl,λ_=>rfl,.bool true,CI l _,λ_=>⟨Yq,λ_ hm=>(nomatch hm)⟩⟩,h2,h3,h4⟩
end Att
namespace L2
open PySem PySem.Spec PyProof.Rows
theorem uo:∀{vs:List Up}{ns:List Int},IntsAre vs ns->bz (ns.map V.int) vs
 |_,_,.nil=>.nil
 |_,_,.cons n t h=>.cons ⟨t,rfl⟩ (uo h)
def Kr(H:Hp):Prop:=∀b,H b=none∨∃o xs,H b=some (.frz o (.lst xs))
def Fx{K:Ur} 
  (KX:K.In sg.heap)(hns:sg.heap.Ns US mg)(hb:sg.heap.Ns builtinsNs mb)(hbb:∀x:UP,x≠"__name__"->mb x=bootBuiltins x)(hlim:sg.heap.NoLimit)(hsm:∃mm,sg.heap.Ns Wy mm)(hg:sg.gens=#[])
  (ha:sg.heap.get? a=some { cls:=.type "list",data:=.seq vs.toArray })(hi:IntsAre vs ns)(hl:ns.length<=sizeLine)(hr:di k callerA)
  (F:∀base:UO,K.In base->base.Ns US mg->FnOk P w K mg base CX k fa fd [x] sp)(hbind:∀(s:UD) (u:Up),BindsTo s fd ⟨[u],[]⟩ [(x,u)])
  (hsp:∀H:Hp,Kr H->fM K H a (ns.map V.int)->sp [.ref a] H (λv _=>v=.bl true) λ_ _ _=>False)
  (hCX:∀H e s',CX [] H sg (λ_ _ _=>False) e s'->False) :
  Wz (UT P w) callerA (.call (.ref fa) ⟨[.ref a],[]⟩) (λr s'=>r=.ok (.ret (.bool true))/\OldK sg.heap s'.heap/\s'.os=sg.os/\AllBare s'.gens) sg:=by
 have rv:=uo hi;have lenV:=hi.length;have core:∀H:Hp,Kr H->fM K H a (ns.map V.int)->ig P w H sg.heap->(∀b,H b≠none->b=a)->(H a≠none->K.lookup a=none) ->
   Wz (UT P w) callerA (.call (.ref fa) ⟨[.ref a],[]⟩) (λr s'=>r=.ok (.ret (.bool true))/\OldK sg.heap s'.heap/\s'.os=sg.os/\AllBare s'.gens) sg:=by
  intro H hO hS hok hA hK;have base_of:∀{b:Uy}{o:Obj},sg.heap.get? b=some o->H b=none->(wm sg.heap H).get? b=some o:=λe n=>FG e n;have noA:∀{b:Uy}{o:Obj}{es:Array Zd}{ep:Nat},sg.heap.get? b=some o->o.data=.dict es ep->H b=none:=λ{b o es ep} e d=>by
   cases q:H b with
   |none=>rfl
   |some u=>
    have e':b=a:=hA b (by rw[q];simp);subst e';rw[ha]at e;cases e;have d':Data.seq vs.toArray _=Data.dict es ep:=d;cases d'
  have nsK:∀{b:Uy}{m:UP->Option Up},sg.heap.Ns b m->(wm sg.heap H).Ns b m:=λ{b m} ⟨o,es,ep,e,d,r⟩=>⟨o,es,ep,base_of e (noA e d),d,r⟩
  have hKb:K.In (wm sg.heap H):=λb o e=>base_of (KX b o e) (by
   cases q:H b with
   |none=>rfl
   |some u=>
    have e':b=a:=hA b (by rw[q];simp);subst e';rw[hK (by rw[q];simp)]at e;cases e)
  have hM:Mod K mg (wm sg.heap H):=⟨hKb,nsK hns,⟨mb,nsK hb,hbb⟩,let ⟨mc,h1,h2⟩:=hlim;⟨mc,nsK h1,h2⟩,let ⟨mm,h1⟩:=hsm;⟨mm,nsK h1⟩⟩
  have e0:zd P w K mg (wm sg.heap H) callerA [] sg H:=⟨rfl,hM,λb o e=>Ie e,Nat.le_of_eq (C5 _ _),trivial,λb hb=>absurd (show b∈([]:List Uy) from hb) (by simp),hok,.of_eq hg⟩
  refine codeAny_mono ((F _ hKb (nsK hns)).run callerA [] sg H ⟨[.ref a],[]⟩ [.ref a] [.ref a] _ _ hr e0 (hbind sg (.ref a)) (.cons rfl .nil) (hsp H hO hS)) λr s' h=>?_;cases r with
  |error e=>exact(hCX H e s' h).elim
  |ok fl=>
   cases fl with
   |next|brk|cont=>exact VN h
   |ret u=>
    obtain⟨v,H',os,bare,un,hok',r',q⟩:=h;have q':v=.bl true:=q;subst q';obtain rfl:u=VU true:=r';refine⟨rfl,OldK.of_keep λb o e=>?_,os,bare⟩;cases q:H b with
    |none=>exact un.keep b o e q (by intro z;exact absurd (show b∈([]:List Uy) from z) (by simp)) (by simp)
    |some u=>
     rcases hO b with z|⟨ob,xs,z⟩
     .rw[q]at z;cases z
     .have z2:=un.frzs b ob _ z
      obtain⟨e1,_⟩:=hok b _ z;obtain⟨e2,_⟩:=hok' b _ z2;rw[e]at e1;cases e1;exact e2
 cases hk:K.lookup a with
 |some o=>
  have e:=KX a o hk;rw[ha]at e;cases e;refine core (λ_=>none) (λ_=>.inl rfl) (.inr ⟨_,vs.toArray,_,hk,rfl,rfl,rfl,by rw[UM,lenV];exact hl,by simpa using rv⟩) (λb u z=>by have z':(none:Option HO)=some u:=z;cases z') (λb z=>absurd rfl z) λz=>absurd rfl z
 |none=>
  refine core (λb=>if b=a then some (.frz { cls:=.type "list",data:=.seq vs.toArray } (.lst (ns.map V.int))) else none) (λb=>?_) (.inl (.inr ⟨{ cls:=.type "list",data:=.seq vs.toArray },if_pos rfl⟩)) (λb u z=>?_) (λb z=>?_) λ_=>hk
  .by_cases hb:b=a
   .exact .inr ⟨_,_,if_pos hb⟩
   .exact .inl (if_neg hb)
  .by_cases hb:b=a
   .have z':=(if_pos hb).symm.trans z
    cases z';subst hb;exact⟨ha,by rw[Us];exact hl,vs,_,rv,ha⟩
   .have z':=(if_neg hb).symm.trans z
    cases z'
  .by_cases hb:b=a
   .exact hb
   .exact absurd (if_neg hb) z
abbrev KOf{K:Ur}{h:UO}(_:K.In h):Ur:=K
def Hl{l:W.OpenLaw}{q:Vt}{K:Params->Ur}{CX:VH->zl}{sp:VH->Sp} 
  (hi:importsNone q=true)(hn:l.most=some n)(hn2:n<=sizeLine)(hdf:d.params.defaults=[])(hr:di k callerA)
  (hY:∀(w:VH) (h:UO),YP w h->(K w.params).In h)
  (F:∀(w:VH) (mg:UP->Option Up) (fa:Uy) (h:UO),(K w.params).In h->h.Ns US mg->mg d.name=some (.ref fa) ->
   ∃fd:VS,(∀(s:UD) (u:Up),BindsTo s fd ⟨[u],[]⟩ [(x,u)]) /\
    ∀base:UO,(K w.params).In base->base.Ns US mg->FnOk l.prog w (K w.params) mg base (CX w) k fa fd [x] (sp w))
  (hsp:∀(w:VH) (H:Hp) (a:Uy) (ns:List Int),ns.length<=n->Kr H->fM (K w.params) H a (ns.map V.int)->sp w [.ref a] H (λv _=>v=.bl true) λ_ _ _=>False)
  (hCX:∀(w:VH) (H:Hp) (s:UD) (e:Up) (s':UD),CX w [] H s (λ_ _ _=>False) e s'->False) :
  W.WalkO q loose XP YP l.row.toRowW d [] (λf vs=>PySem.call f vs):=by
 refine Att.attach_call hn hdf λw sf sg mg mb fa o pm cd doc a vs ns G Y ho hd hcd hmg hobj hints hlen hg=>?_;have KX:=hY w _ Y;obtain⟨fd,hb,hF⟩:=F w mg fa _ KX G.T.g hmg;exact Fx KX G.T.g G.T.b G.T.builtins G.T.nolimit (let ⟨mm,h1,_⟩:=(G.T.seer hi).mods;⟨mm,h1⟩) hg hobj hints (U8 hlen hn2) hr hF hb (λH hO hS=>hsp w H a ns hlen hO hS) λH e s'=>hCX w H sg e s'
def walk_ofK{l:W.OpenLaw}{q:Vt}{K:Params->Ur}{sp:Ur->Sp} 
  (hi:importsNone q=true)(hn:l.most=some n)(hn2:n<=sizeLine)(hdf:d.params.defaults=[])(hr:di k callerA)
  (hY:∀(w:VH) (h:UO),YP w h->(K w.params).In h)
  (F:∀(w:VH) (mg:UP->Option Up) (fa:Uy) (h:UO),(K w.params).In h->h.Ns US mg->mg d.name=some (.ref fa) ->
   ∃fd:VS,(∀(s:UD) (u:Up),BindsTo s fd ⟨[u],[]⟩ [(x,u)]) /\
    ∀base:UO,(K w.params).In base->base.Ns US mg->FnOk l.prog w (K w.params) mg base CX k fa fd [x] (sp (K w.params)))
  (hsp:∀(K:Ur) (H:Hp) (a:Uy) (ns:List Int),ns.length<=n->Kr H->fM K H a (ns.map V.int)->sp K [.ref a] H (λv _=>v=.bl true) λ_ _ _=>False)
  (hCX:∀(H:Hp) (s:UD) (e:Up) (s':UD),CX [] H s (λ_ _ _=>False) e s'->False) :
  W.WalkO q loose XP YP l.row.toRowW d [] (λf vs=>PySem.call f vs) :=
 Hl (K:=K) (CX:=λ_=>CX) (sp:=λw=>sp (K w.params)) hi hn hn2 hdf hr hY F (λw H a ns h1 h2 h3=>hsp (K w.params) H a ns h1 h2 h3) λ_ H s e s'=>hCX H s e s'
def BM(s:V6)(j:Nat):V6:=match s with
 |.ClassDef _ _ _ body _ _ _ _ _ _ _=>body.getD j (.Pass ⟨0,0,0,0⟩)
 |_=>.Pass ⟨0,0,0,0⟩
def defArgs(s:V6):Arguments:=match s with
 |.FunctionDef _ a _ _ _ _ _ _ _ _=>a
 |_=>{ posonlyargs:=[],args:=[],vararg:=none,kwonlyargs:=[],kw_defaults:=[],kwarg:=none,defaults:=[] }
def defBody(s:V6):List V6:=match s with
 |.FunctionDef _ _ b _ _ _ _ _ _ _=>b
 |_=>[]
def defScope(s:V6):X8:=match s with
 |.FunctionDef _ _ _ _ _ _ sc _ _ _=>sc
 |_=>{ kind:=.function,names:=[],isGenerator:=false,isCoroutine:=false }
abbrev CX0:zl:=λ_ _ _ _ _ _=>False
abbrev E0:XK:=λ_ _ _=>False
def Bo:gW CX0 X E0:=λ_ _ _ _ _ _ _ h=>h.elim
structure DD (K:Ur) (x qual:UP) (st:V6) (f:Uy) (fd:VS):Prop where
 ex:∃(oc:Up) (od:Option Uy) (kV doc pm:Up) (an:Option Uy) (cdv ct:Up) (osl:Array (Option Up)),
  fd=WH x qual (defArgs st) (defBody st) (defScope st) .none kV doc pm an cdv ct/\K.lookup f=some ⟨oc,od,.func fd,osl⟩/\Yk K cdv qual=true
 kp:WN K (.ref f)=true
section
variable {P:Vt}{w:VH}{K:Ur}{mg:UP->Option Up}{base:UO}
def DD.ok{st:V6}{N ps:bi}(F:DD K x qual st f fd)(S:fv N ps (defScope st))(len:∀vs H Q E,sp vs H Q E->vs.length=ps.length)
  (hbody:∀(cdv:Up) (A:Vn) (outer:List Env) (s:UD) (H:Hp) (vs:al) (Q:VK) (E:XK),di k (A.deeper (envOfC qual (defScope st) s.heap.objs.size f cdv))->sp vs H Q E ->
   ∃t,vm (gk CX0 P w K mg base N qual (defScope st) f cdv A outer s H E).nox (defBody st) t/\t { nx:=λ_ H'=>Q .non H',rt:=Q } (start N vs) H):FnOk P w K mg base CX0 (k+1) f fd ps sp:=by
 obtain⟨oc,od,kV,doc,pm,an,cdv,ct,osl,rfl,lk,hcd⟩:=F.ex;refine KS lk hcd S len λA outer s H vs Q E hr hsp=>?_;obtain⟨t,h,q⟩:=hbody cdv A outer s H vs Q E hr hsp;exact⟨t,h.nox,q⟩
def DD.binds{st:V6}{ps:bi}(F:DD K x qual st f fd)
  (h:∀(kV doc pm:Up) (an:Option Uy) (cdv ct:Up) (us:List Up),us.length=ps.length->bindArgs (WH x qual (defArgs st) (defBody st) (defScope st) .none kV doc pm an cdv ct) ⟨us,[]⟩=pure (ps.zip us)):ia K fd ps []:=by
 obtain⟨oc,od,kV,doc,pm,an,cdv,ct,osl,rfl,lk,hcd⟩:=F.ex;exact .all (h kV doc pm an cdv ct)
def nZ{st:V6}{kV doc pm cdv ct:Up}(l:K.lookup f=some ⟨oc,od,.func (WH x qual (defArgs st) (defBody st) (defScope st) .none kV doc pm an cdv ct),osl⟩)
  (c:Yk K cdv qual=true)(k:WN K (.ref f)=true):DD K x qual st f (WH x qual (defArgs st) (defBody st) (defScope st) .none kV doc pm an cdv ct):=⟨⟨oc,od,kV,doc,pm,an,cdv,ct,osl,rfl,l,c⟩,k⟩
end
def aG(H H':Hp):Prop:=∀b o,H b=some o->H' b=some o
def aG.refl(H:Hp):aG H H:=λ_ _ h=>h
def aG.trans(a:aG H H1)(b:aG H1 H2):aG H H2:=λc o h=>b c o (a c o h)
def aG.free(e:aG H H')(h:H' l=Yz):H l=Yz:=by
 cases q:H l with
 |none=>rfl
 |some o=>
  rw[e l o q]at h;cases h
end L2
namespace DL
open PySem PySem.Spec PySem.Calls PySem.W PyProof.Rows Builtin Builtin.ObjectAttr Builtin.Getset_descriptor
section
variable {prog:Vt}{w:VH}{A:Vn}{E:Up->UD->Prop}{h:UO}{g:Array GenState}{d:Drawn}{t:Nat}{os:OsState}{a C:Uy}{o:Obj}{K:Frag}
structure nF (K:Frag) (C:Uy):Prop where
 cls:findIn K (.ref C) "__class__"=some (some (.builtin "object.__class__"))
 ga:findIn K (.ref C) "__getattribute__"=some (some (.builtin "BaseException.__getattribute__"))
 gt:findIn K (.ref C) "__getattr__"=some none
 ob:mroIn K C (.type "object")=some true
 be:subIn K (.ref C) (.type "BaseException")=some true
def Lf(X:K.In h)(Z:nF K C)(hx:h.get? a=some o)(hc:o.cls=.ref C)(hq:R (.ok (.ret (.ref C))) ⟨h,g,d,t,os⟩) :
  Wz (UT prog w) A (.call (.builtin "getset_descriptor.__get__") ⟨[.builtin "object.__class__",.ref a,tp],[]⟩) R ⟨h,g,d,t,os⟩:=by
 have L0:Looks (UT prog w) h (typeOf (.ref a)) (.ref C):=hc▸(Looks.ld hx).andThen .now;have L1:=looks_mroIn (M:=UT prog w) X Z.ob;refine codeAny_call_builtin KF.slot_gs.plain KF.entry_gs (KF.slot_gs.check _ _ _ _ _ _ _ _ KF.type_class (KF.args_gs _ _ _) ?_);unfold Builtin.«getset_descriptor.__get__» descrGet;rw[dga_obj];refine Uv (UY ?_);unfold descrGetter descrCheckInstance descrNameAndClass isInstance;simp only[KF.owner_class]
 repeat lk
 refine⟨WZ _ (by decide +kernel),codeAny_builtin KF.entry_class ?_⟩;unfold Builtin.«object.__class__» shownTypeOf
 repeat lk
 exact hq
def xp(X:K.In h)(Z:nF K C)(hx:h.get? a=some o)(hc:o.cls=.ref C)(hq:Q () ⟨h,g,d,t,os⟩):UR M A (checkBuiltinCall "BaseException.__getattribute__" ⟨[.ref a,nameV],[]⟩) Q E ⟨h,g,d,t,os⟩:=by
 have hk:builtinKind "BaseException.__getattribute__"=some .slot:=by decide +kernel
 have hsplit:splitId "BaseException.__getattribute__"=some ("BaseException","__getattribute__"):=by decide +kernel
 have ha:=F.args_bexc_ga (.ref a) nameV;have LS:Looks M h (isSubtype (.ref C) (.type "BaseException")) true:=looks_subIn X Z.be;simp only[checkBuiltinCall,hk,hsplit];refine Uv ?_
 .unfold isInstance
  repeat (first|(with_reducible refine V0 hx ?_;rw[hc])|(with_reducible refine LS.at ?_)|wp_step)
  exact hq
def D1(X:K.In h)(Z:nF K C)(hx:h.get? a=some o)(hc:o.cls=.ref C)(hq:Q (.done (.ret (.ref C))) ⟨h,g,d,t,os⟩) :
  UR (UT prog w) A (Builtin.«object.__getattribute__» ⟨[.ref a,.str "__class__" tk],[]⟩) Q E ⟨h,g,d,t,os⟩:=by
 have hT5:(⟨h,g,d,t,os⟩:UD).TypeIs (.builtin "object.__class__") "getset_descriptor":=Zw;have f5:=Zw;have f6:=F.slot_gs_get.lookup;have f7:=F.slot_gs_set.lookup;have LC:Looks (UT prog w) h (WY (.ref C) "__class__") (some (.builtin "object.__class__")):=looks_findIn X Z.cls
 repeat (any_goals (first|assumption|(with_reducible refine V0 hx ?_;rw[hc])|(with_reducible refine LC.at ?_)|wp_step))
 refine Lf X Z hx hc ?_
 repeat (any_goals (first|assumption|wp_step))
def Hd(X:K.In h)(Z:nF K C)(hx:h.get? a=some o)(hc:o.cls=.ref C)(hq:R (.ok (.ret (.ref C))) ⟨h,g,d,t,os⟩) :
  Wz (UT prog w) A (.call (.builtin "BaseException.__getattribute__") ⟨[.ref a,.str "__class__" tk],[]⟩) R ⟨h,g,d,t,os⟩ :=
 codeAny_call_builtin XH.ga.plain F.entry_bexc_ga (xp X Z hx hc (D1 X Z hx hc hq))
def OF(X:K.In h)(Z:nF K C)(hx:h.get? a=some o)(hc:o.cls=.ref C)(hq:Q (.ref C) ⟨h,g,d,t,os⟩) :
  UR (UT prog w) A (getAttrBy (.ref a) (.str "__class__" tk) false) Q E ⟨h,g,d,t,os⟩:=by
 have f3:=XH.ga.bind (.ref a);have hx2:(Wr "BaseException.__getattribute__"==Wr "object.__getattribute__")=false:=by decide +kernel
 have hx1:(onTheHeap (Ve C)&&Wr "BaseException.__getattribute__"==Wr "object.__getattribute__")=false:=by rw[hx2];rfl
 have L1:Looks (UT prog w) h (WY (.ref C) "__getattribute__") (some (.builtin "BaseException.__getattribute__")):=looks_findIn X Z.ga;have L2:Looks (UT prog w) h (WY (.ref C) "__getattr__") none:=looks_findIn X Z.gt
 repeat (any_goals (first|assumption|(with_reducible refine V0 hx ?_;rw[hc])|(with_reducible refine L1.at ?_)|(with_reducible refine L2.at ?_)|wp_step))
 refine Hd X Z hx hc ?_
 repeat (any_goals (first|assumption|wp_step))
def Hf(X:K.In h)(Z:nF K C)(hx:h.get? a=some o)(hc:o.cls=.ref C)(hq:Q (some (.ref C)) ⟨h,g,d,t+1,os⟩):UR (UT prog w) A (getAttr? (.ref a) "__class__") Q E ⟨h,g,d,t,os⟩:=by
 unfold getAttr? getAttrBy?
 repeat (any_goals (first|assumption|with_reducible apply OF X Z hx hc|wp_step))
end
def tK(a C:Uy)(dc:Option Uy):UO->Prop:=λh=>∃o vs,h.get? a=some o/\o.cls=.ref C/\o.data=.fields vs/\o.dict=dc
def mO{K:Frag}{a C:Uy}{dc:Option Uy}(Z:nF K C)(hC:(clsIn K C).isSome=true):KitX K (.ref a) (.ref C) (tK a C dc) where
 ty:=λ_ _ _ ⟨o,_,h1,h2,_⟩=>h2▸(Looks.ld h1).andThen .now
 it:=λ_ _ X _=>by
  obtain⟨cd,hcD⟩:=XI.mp hC;unfold clsIn at hcD;split at hcD
  .rename_i c' d' cd' sl' ho
   intro A' Q' E' s' k q;unfold isType loadHead;exact Uv (wpAny_loadPart (k _ _ (X _ _ ho)) (UY q))
  .cases hcD
 ne:=λh tp dd its n sl X htp=>by
  obtain⟨cd,hcD⟩:=XI.mp hC;refine Bool.eq_false_iff.mpr λq=>?_;have e:C=tp:=Ve.inj (beq_iff_eq.mp q);subst e;unfold clsIn at hcD;split at hcD
  .rename_i c' d' cd' sl' ho
   have z:=(X _ _ ho).symm.trans htp;cases z
  .cases hcD
 ca:=λ{_ _ _ _ _ s} X ⟨o,_,h1,h2,_⟩ k=>by
  obtain⟨h,g,d,t,os⟩:=s;exact Hf X Z h1 h2 k
def nF.isCls{K:Frag}(Z:nF K C):(clsIn K C).isSome=true:=by
 obtain⟨cd,a,b⟩:=Y7.mp Z.ob;rw[a];rfl
def iR:List String:=["NoneType","bool","int","str","tuple","list","dict"]
structure XC (K:Frag) (x:UP) (C:Uy):Prop where
 ns:nsIn K US x=some (some (.ref C))
 ek:nF K C
 bt:∀T∈iR,kitOne K (.ref C) (.type T)=some false
end DL
namespace DL
open PySem PySem.Spec PyProof.Rows L2
def rX(o:Obj)(f:Array Up->Array Up):(o.mapFields f).dict=o.dict:=by unfold Obj.mapFields;split<;>rfl
def lR(h:UO)(e:Uy)(dc:Option Uy):Prop:=∃o,h.get? e=some o/\o.dict=dc
section
variable {M:Model}{A:Vn}{E:Up->UD->Prop}{s:UD}{base:UO}{env:VW}{outer l:List VW}{L e:Uy}{cls a0 fl:Up}{dc:Option Uy}{Q:Unit->UD->Prop}
def yI(hfr:A.frames=some (env::outer))(hl:s.heap.FunFrames base (env::outer))(hf:env.frame=some L)(he:s.heap.get? e=some oe)(kb:base.StaysIn s.heap)(hen:base.get? e=none)(hd:oe.data=.fields vs)(hz:1<vs.size)(h0:vs[0]?=some a0)
  (h:∀h',ZN base (env::outer) e oe.cls a0 (rawInt L) s.heap h'->lR h' e oe.dict->Q () { s with heap:=h' }) :
  UR M A (do
   let a ←frameOf env
   let pl ←entryPlaceOf L b0
   let b ←ZU head a .none (rawInt L) .none pl
   setField (.ref e) 1 b) Q E s:=by
 have nf:e∉(env::outer).filterMap (·.frame):=λhm=>by
  obtain⟨_,o,ho,q⟩:=hl.mem hm;rw[he]at ho;cases ho;exact q vs hd
 refine Uv (wpAny_frameOf_fun hfr hl hf λg ⟨_,same,slots⟩=>Uv (wpAny_entryPlaceOf λpl hpl=>?_));have ge:g.get? e=some oe:=(same e nf).trans he;have up:∀(N:Obj) (f:Obj->Obj) (b:Uy) (o:Obj),b≠e->g.get? b=some o->((g.push N).update e f).get? b=some o:=λN f b o hb q=>(V4 _ _ (Vj hb)).trans (Uz _ q);have ne:∀b o,s.heap.get? b=some o->(∀vs,o.data≠.fields vs)->b≠e:=λb o q z c=>by subst c;rw[he]at q;cases q;exact z vs hd
 have kg:base.StaysIn g:=λb o q=>(same b λhm=>by rw[(hl.mem hm).1]at q;cases q).trans (kb b o q);unfold ZU newFields;refine Uv (wpAny_newObj_type ?_ (hpl.sizeOk5 _ _ _ _ _));have d3:=Yb hd (·.setIfInBounds 1 (Ve g.objs.size));have hTe:g.objs.size≠e:=Nat.ne_of_gt (UN ge);have at_e:∀N:Obj,((g.push N).update e (Obj.mapFields (·.setIfInBounds 1 (Ve g.objs.size)))).get? e=some (oe.mapFields (·.setIfInBounds 1 (Ve g.objs.size))):=λN=>V9 _ (Uz _ ge) (Zu d3);refine wpAny_setField (Uz _ ge) hd hz (h _ ⟨λb o q=>up _ _ b o (λc=>by subst c;rw[hen]at q;cases q) (kg b o q),hl.of_keeps λb o q z=>?_,?_,λb o q z=>?_⟩ ⟨_,at_e _,rX _ _⟩)
 .obtain⟨sl,x⟩:=slots b o q
  exact⟨_,up _ _ b _ (ne b o q z) x,rfl⟩
 .refine⟨_,_,g.objs.size,_,_,at_e _,⟨Obj.cls_mapFields _ _,?_⟩,d3,?_,kg.fresh,hTe,(V4 _ _ (Vj hTe)).trans (Vr g rfl),rfl,?_⟩
  .rw[Array.getElem?_setIfInBounds_ne (by decide)];exact h0
  .simp[hz]
  .first|(simp;done)|(rcases hpl with rfl|⟨_,_,_,_,_,_,_,rfl⟩<;>simp)
 .obtain⟨sl,x⟩:=slots b o q
  exact⟨sl,up _ _ b _ (ne b o q z) x⟩
def FK(hfr:A.frames=some (env::outer))(hl:s.heap.FunFrames base (env::outer))(hf:env.frame=some L)(he:s.heap.get? e=some oe)(kb:base.StaysIn s.heap)(hen:base.get? e=none)(hd:oe.data=.fields vs)(h1:vs[1]?=some .none)(h0:vs[0]?=some a0)
  (h:∀h',ZN base (env::outer) e oe.cls a0 (rawInt L) s.heap h'->lR h' e oe.dict->Q () { s with heap:=h' }):UR M A (noteFrame (.ref e) env) Q E s:=by
 unfold noteFrame;simp only[hf];refine Uv (wpAny_field he hd h1 ?_);rw[if_neg (by decide)];exact yI hfr hl hf he kb hen hd (WQ.mp h1).1 h0 h
def BV(hfr:A.frames=some (env::outer))(hl:s.heap.FunFrames base (env::outer))(hf:env.frame=some L)(ht:s.heap.TracedW base e cls a0)(hc:lR s.heap e dc)(kb:base.StaysIn s.heap)(hen:base.get? e=none)
  (h:∀h',ZN base (env::outer) e cls a0 (rawInt L) s.heap h'->lR h' e dc->Q () { s with heap:=h' }):UR M A (noteFrame (.ref e) env) Q E s:=by
 obtain⟨oe,vs,T,oT,ts,he,⟨rfl,h0⟩,hd,h1,hnT,hTe,hT,dT,h3⟩:=ht;obtain⟨o',q,rfl⟩:=hc;rw[he]at q;cases q;have oth:∀(f:Obj->Obj) (b:Uy),b≠T->(s.heap.update T f).get? b=s.heap.get? b:=λf b hb=>V4 _ _ (Vj hb);have ne:∀b o,s.heap.get? b=some o->(∀vs,o.data≠.fields vs)->b≠T:=λb o q z c=>by subst c;rw[hT]at q;cases q;exact z ts dT
 unfold noteFrame;simp only[hf];refine Uv (wpAny_field he hd h1 ?_);rw[if_pos (by simp)];refine Uv (wpAny_field hT dT h3 ?_);rw[if_neg (by simp[rawInt])];refine Uv (wpAny_setField hT dT (WQ.mp h3).1 ?_);refine yI hfr (hl.of_keeps λb o q z=>⟨o,(oth _ b (ne b o q z)).trans q,rfl⟩) hf ((oth _ e (Vj hTe)).trans he) (λb o q=>(oth _ b λc=>by subst c;rw[hnT]at q;cases q).trans (kb b o q)) hen hd (WQ.mp h1).1 h0 λh' ⟨x1,x2,x3,x4⟩ x5=>h h' ⟨x1,x2,x3,λb o q z=>x4 b o ((oth _ b (ne b o q z)).trans q) z⟩ x5
def lA(kb:base.StaysIn s.heap)(hl:s.heap.FunFrames base l)(ht:s.heap.TracedAtW base e cls a0 fl)(hc:lR s.heap e dc)
  (h:∀h',base.StaysIn h'->h'.FunFrames base l->h'.TracedW base e cls a0->(∀b o,s.heap.get? b=some o->(∀vs,o.data≠.fields vs)->h'.get? b=some o)->lR h' e dc->Q () { s with heap:=h' }):UR M A (setFlight (.ref e) none) Q E s:=by
 obtain⟨oe,vs,T,oT,ts,he,hcl,hd,h1,hnT,hTe,hT,dT,h3⟩:=ht;have z3:3<ts.size:=(WQ.mp h3).1;have oth:∀(f:Obj->Obj) (b:Uy),b≠T->(s.heap.update T f).get? b=s.heap.get? b:=λf b hb=>V4 _ _ (Vj hb);have ne:∀b o,s.heap.get? b=some o->(∀vs,o.data≠.fields vs)->b≠T:=λb o q z c=>by subst c;rw[hT]at q;cases q;exact z ts dT
 unfold setFlight;refine Uv (wpAny_field he hd h1 ?_);rw[if_pos (by simp)];obtain⟨o',q',rfl⟩:=hc;refine wpAny_setField hT dT z3 (h _ (λb o q=>(oth _ b λc=>by subst c;rw[hnT]at q;cases q).trans (kb b o q)) (hl.of_keeps λb o q z=>⟨o,(oth _ b (ne b o q z)).trans q,rfl⟩) ?_ (λb o q z=>(oth _ b (ne b o q z)).trans q) ⟨o',(oth _ e (Vj hTe)).trans q',rfl⟩);exact⟨oe,vs,T,_,_,(oth _ e (Vj hTe)).trans he,hcl,hd,h1,hnT,hTe,V9 _ hT (Zu (Yb dT _)),Yb dT _,by simp[z3]⟩
def Rv(h:UO)(e:Uy)(ox:Option Uy):Prop:=∃dc,lR h e dc/\(ox=none∨ox=dc)
def Al(hfr:A.frames=some (env::outer))(hl:s.heap.FunFrames base (env::outer))(hf:env.frame=some L)(he:s.heap.get? e=some oe)(kb:base.StaysIn s.heap)(hen:base.get? e=none)(hd:oe.data=.fields vs)(h1:vs[1]?=some .none)(h0:vs[0]?=some a0)
  (h:∀h',WA base outer e oe.cls a0 h'->s.heap.UpToSlots h'->lR h' e oe.dict->Q () { s with heap:=h' }):UR M A (leaving env (.ref e)) Q E s:=by
 unfold leaving;refine Uv (FK hfr hl hf he kb hen hd h1 h0 λg ⟨k1,k2,k3,k4⟩ dg=>?_);refine lA (s:={ s with heap:=g }) k1 k2 k3 dg λh' m1 ⟨_,_,m2⟩ m3 m4 dh=>h h' ⟨m1,hen,m2,m3⟩ (λb o q z=>?_) dh;obtain⟨sl,x⟩:=k4 b o q z;exact⟨sl,m4 b _ x z⟩
def Dc(hfr:A.frames=some (env::outer))(hf:env.frame=some L)(hfl:WA base (env::outer) e cls a0 s.heap)(hc:lR s.heap e dc)
  (h:∀h',WA base outer e cls a0 h'->s.heap.UpToSlots h'->lR h' e dc->Q () { s with heap:=h' }):UR M A (leaving env (.ref e)) Q E s:=by
 obtain⟨f1,f2,f3,f4⟩:=hfl;unfold leaving;refine Uv (BV hfr f3 hf f4 hc f1 f2 λg ⟨k1,k2,k3,k4⟩ dg=>?_);refine lA (s:={ s with heap:=g }) k1 k2 k3 dg λh' m1 ⟨_,_,m2⟩ m3 m4 dh=>h h' ⟨m1,f2,m2,m3⟩ (λb o q z=>?_) dh;obtain⟨sl,x⟩:=k4 b o q z;exact⟨sl,m4 b _ x z⟩
def yG(hfr:A.frames=some (env::outer))(hf:env.frame=some L)(hfl:WA base (env::outer) e cls a0 s.heap)(hc:lR s.heap e dc)
  (h:∀h',Heap.HeldW base (env::outer) e cls a0 L h'->s.heap.UpToSlots h'->lR h' e dc->Q () { s with heap:=h' }):UR M A (noteFrame (.ref e) env) Q E s:=by
 obtain⟨f1,f2,f3,f4⟩:=hfl;exact BV hfr f3 hf f4 hc f1 f2 λg ⟨k1,k2,k3,k4⟩ dg=>h g ⟨k1,f2,k2,k3⟩ k4 dg
def yH(hh:Heap.HeldW base l e cls a0 L s.heap)(hc:lR s.heap e dc)(h:∀h',WA base l e cls a0 h'->s.heap.UpToSlots h'->lR h' e dc->Q () { s with heap:=h' }):UR M A (setFlight (.ref e) none) Q E s:=by
 obtain⟨f1,f2,f3,f4⟩:=hh;exact lA f1 f3 f4 hc λh' k1 k2 k3 k4 k5=>h h' ⟨k1,f2,k2,k3⟩ (λb o q z=>⟨o.slots,k4 b o q z⟩) k5
def yJ(hh:WA base l e cls a0 s.heap)(hc:lR s.heap e dc)(h:∀h',WA base l e cls a0 h'->s.heap.UpToSlots h'->lR h' e dc->Q () { s with heap:=h' }):UR M A (setFlight (.ref e) none) Q E s:=by
 obtain⟨f1,f2,f3,f4⟩:=hh;exact lA f1 f3 f4.at hc λh' k1 k2 k3 k4 k5=>h h' ⟨k1,f2,k2,k3⟩ (λb o q z=>⟨o.slots,k4 b o q z⟩) k5
end
def KN:Vl->Bool
 |.Starred _ _=>false
 |_=>true
def aT(h:KN e=true):Uw (e::es) env=(false,eval e env)::Uw es env:=by
 cases e<;>first|(rw[Uw];intros;contradiction)|rw[Uw]|(cases h)
def fO(h:KN e=true):Uw [e] env=[(false,eval e env)]:=by
 rw[aT h,Uw]
theorem bK:∀{es:List Vl},es.all KN=true->(Vy pos (Uw es env)).any (·.1)=false
 |[],_=>by rw[Uw];rfl
 |e::es,h=>by
  rw[WV,U7]at h;rw[aT h.1];have:=bK (env:=env) (pos:=pos) h.2;show(false||(Vy pos (Uw es env)).any (·.1))=false;rw[this];rfl
def mX(h:KN e=true):((Vy pos (Uw [e] env)).all (λx=>!x.1)&&(XO pos (WM [] env)).all (λx=>x.1.isSome)
  &&decide ([e].length+([]:List Xh).length+(if([]:List Xh).isEmpty then 0 else 1)<30))=true:=by
 rw[fO h,WM];rfl
inductive Kd where
 |ins (c:UP) (ks:bi)|dint (ks:List Int)|exf (c:UP) (ks:bi)
inductive D where
 |non|bl (b:Bool)|int (i:Int)|str (x:UP)|tup (xs:List D)|lst (xs:List D)|dic (ks:bi) (xs:List D)|exc (x:UP)|ob (k:Kd) (xs:List D)
abbrev ac:=List D
structure SY (K:Ur) (ks:bi) (C:Uy):Prop where
 cls:RX K C
 no:∀f∈ks,ko K C f
 gc:WB K (.ref C) "__class__"=some (some (.builtin "object.__class__"))
 gn:Yx K (.builtin "object.__class__") "__get__"=some (some (.builtin "getset_descriptor.__get__"))
 tk:W.takesIn K (.builtin "object.__class__")=some true
 mo:W.mroIn K C (.type "object")=some true
 bt:∀T∈iR,Yi K (.ref C) (.type T)=some false
noncomputable def GI(K:Ur) (H:Hp):Kd->Uy->al->Prop
 |.ins c ks,a,vs=>∃C dx,VC K US c=some (some (.ref C))/\SY K ks C/\H a=some (.ins C dx (ks.zip vs))/\ks.length=vs.length
 |.dint ks,a,vs=>∃kvs,Rd H a (.dK kvs)/\kvs=(ks.map Xr).zip vs/\ks.length=vs.length
 |.exf c ks,a,vs=>∃C dx fs,XC K c C/\Rd H a (.ext (tK a C (some dx)))/\H dx=some (.xd fs)/\ks.length=vs.length/\∀(i:Nat) (f:UP) (v:V),ks[i]?=some f->vs[i]?=some v->fs.lookup f=some v
structure RB where
 cls:UP
 flds:List (UP×D)
inductive ar (α:Type) where
 |ok (a:α)|exn (x:RB)|stuck
def ar.bind{α β:Type}(r:ar α)(f:α->ar β):ar β:=match r with
 |.ok a=>f a
 |.exn x=>.exn x
 |.stuck=>.stuck
mutual
def Rep(K:Ur)(H:Hp):D->V->Prop
 |.non,v=>v=.non
 |.bl b,v=>v=.bl b
 |.int i,v=>v=.int i
 |.str x,v=>v=.str x
 |.tup ds,v=>∃a vs,v=.ref a/\kC K H a vs/\Reps K H ds vs
 |.lst ds,v=>∃a vs,v=.ref a/\fM K H a vs/\Reps K H ds vs
 |.dic ks ds,v=>∃a kvs vs,v=.ref a/\Rd H a (.dK kvs)/\kvs=(ks.map W5).zip vs/\ks.length=vs.length/\Reps K H ds vs
 |.exc x,v=>∃a C dc,v=.ref a/\XC K x C/\Rd H a (.ext (tK a C dc))
 |.ob k ds,v=>∃a vs,v=.ref a/\GI K H k a vs/\Reps K H ds vs
def Reps(K:Ur)(H:Hp):ac->al->Prop
 |[],vs=>vs=[]
 |d::ds,vs=>∃v r,vs=v::r/\Rep K H d v/\Reps K H ds r
end
def aG.rd(e:aG H H')(h:Rd H a o):Rd H' a o:=by
 rcases h with h|⟨o',h⟩
 .exact .inl (e _ _ h)
 .exact .inr ⟨o',e _ _ h⟩
def aG.sqT{K:Ur}(e:aG H H')(h:kC K H a xs):kC K H' a xs:=by
 rcases h with h|h
 .exact .inl (aG.rd e h)
 .exact .inr h
def aG.sqL{K:Ur}(e:aG H H')(h:fM K H a xs):fM K H' a xs:=by
 rcases h with h|h
 .exact .inl (aG.rd e h)
 .exact .inr h
theorem GI.mono{K:Ur}(e:aG H H'):∀{k:Kd}{a:Uy}{vs:al},GI K H k a vs->GI K H' k a vs
 |.ins c ks,a,vs,⟨C,dx,h0,h1,h2,h3⟩=>⟨C,dx,h0,h1,e _ _ h2,h3⟩
 |.dint ks,a,vs,⟨kvs,h1,h2,h3⟩=>⟨kvs,aG.rd e h1,h2,h3⟩
 |.exf c ks,a,vs,⟨C,dx,fs,h1,h2,h3,h4⟩=>⟨C,dx,fs,h1,aG.rd e h2,e _ _ h3,h4⟩
mutual
theorem Rep.mono{K:Ur}{H H':Hp}(e:aG H H'):∀{d:D}{v:V},Rep K H d v->Rep K H' d v
 |.non,_,h=>by unfold Rep at h ⊢;exact h
 |.bl _,_,h=>by unfold Rep at h ⊢;exact h
 |.int _,_,h=>by unfold Rep at h ⊢;exact h
 |.str _,_,h=>by unfold Rep at h ⊢;exact h
 |.tup ds,_,h=>by
  unfold Rep at h ⊢;obtain⟨a,vs,e1,e2,e3⟩:=h;exact⟨a,vs,e1,aG.sqT e e2,Reps.mono e e3⟩
 |.lst ds,_,h=>by
  unfold Rep at h ⊢;obtain⟨a,vs,e1,e2,e3⟩:=h;exact⟨a,vs,e1,aG.sqL e e2,Reps.mono e e3⟩
 |.dic ks ds,_,h=>by
  unfold Rep at h ⊢;obtain⟨a,kvs,vs,e1,e2,e3,e4,e5⟩:=h;exact⟨a,kvs,vs,e1,aG.rd e e2,e3,e4,Reps.mono e e5⟩
 |.exc x,_,h=>by
  unfold Rep at h ⊢;obtain⟨a,C,dc,e1,e2,e3⟩:=h;exact⟨a,C,dc,e1,e2,aG.rd e e3⟩
 |.ob k ds,_,h=>by
  unfold Rep at h ⊢;obtain⟨a,vs,e1,e2,e3⟩:=h;exact⟨a,vs,e1,e2.mono e,Reps.mono e e3⟩
theorem Reps.mono{K:Ur}{H H':Hp}(e:aG H H'):∀{ds:ac}{vs:al},Reps K H ds vs->Reps K H' ds vs
 |[],_,h=>by unfold Reps at h ⊢;exact h
 |d::ds,_,h=>by
  unfold Reps at h ⊢;obtain⟨v,r,e1,e2,e3⟩:=h;exact⟨v,r,e1,Rep.mono e e2,Reps.mono e e3⟩
end
section
variable {K:Ur}{H:Hp}{v:V}{vs:al}{d:D}{ds:ac}
def aZ:Rep K H .non v↔v=.non:=by unfold Rep;exact Zq
def aL{b}:Rep K H (.bl b) v↔v=.bl b:=by unfold Rep;exact Zq
def aB{i}:Rep K H (.int i) v↔v=.int i:=by unfold Rep;exact Zq
def Rep.str_iff{x}:Rep K H (.str x) v↔v=.str x:=by unfold Rep;exact Zq
def aQ:Rep K H (.tup ds) v↔∃a vs,v=.ref a/\kC K H a vs/\Reps K H ds vs:=by rw[Rep]
def aJ:Rep K H (.lst ds) v↔∃a vs,v=.ref a/\fM K H a vs/\Reps K H ds vs:=by rw[Rep]
def fL{x}:Rep K H (.exc x) v↔∃a C dc,v=.ref a/\XC K x C/\Rd H a (.ext (tK a C dc)):=by rw[Rep]
def fD{k}:Rep K H (.ob k ds) v↔∃a vs,v=.ref a/\GI K H k a vs/\Reps K H ds vs:=by rw[Rep]
def Rep.exf_exc(h:Rep K H (.ob (.exf c ks) ds) v):Rep K H (.exc c) v:=by
 obtain⟨a,vs,e,⟨C,dx,fs,h1,h2,_⟩,_⟩:=fD.mp h;exact fL.mpr ⟨a,C,some dx,e,h1,h2⟩
def Reps.nil_iff:Reps K H [] vs↔vs=[]:=by unfold Reps;exact Zq
def aH:Reps K H (d::ds) vs↔∃v r,vs=v::r/\Rep K H d v/\Reps K H ds r:=by rw[Reps]
def Reps.nil:Reps K H [] []:=Reps.nil_iff.mpr rfl
def Reps.cons(h:Rep K H d v)(h':Reps K H ds vs):Reps K H (d::ds) (v::vs):=aH.mpr ⟨_,_,rfl,h,h'⟩
end
theorem Reps.length{K:Ur}:∀{ds:ac}{vs:al},Reps K H ds vs->ds.length=vs.length
 |[],_,h=>by rw[Reps.nil_iff.mp h];rfl
 |d::ds,_,h=>by
  obtain⟨v,r,rfl,_,h⟩:=aH.mp h;simp[Reps.length h]
theorem Reps.get{K:Ur}{H:Hp}:∀{ds:ac}{vs:al}{i:Nat}{d:D},Reps K H ds vs->ds[i]?=some d->∃v,vs[i]?=some v/\Rep K H d v
 |[],_,_,_,h,e=>by simp at e
 |x::ds,_,0,d,h,e=>by
  obtain⟨v,r,rfl,h1,_⟩:=aH.mp h;simp at e;subst e;exact⟨v,rfl,h1⟩
 |x::ds,_,i+1,d,h,e=>by
  obtain⟨v,r,rfl,_,h2⟩:=aH.mp h;obtain⟨u,e1,e2⟩:=Reps.get (i:=i) h2 (by simpa using e);exact⟨u,by simpa using e1,e2⟩
theorem Reps.app{K:Ur}{H:Hp}:∀{ds es:ac}{vs us:al},Reps K H ds vs->Reps K H es us->Reps K H (ds++es) (vs++us)
 |[],_,_,_,h,h'=>by rw[Reps.nil_iff.mp h];exact h'
 |d::ds,_,_,_,h,h'=>by
  obtain⟨v,r,rfl,h1,h2⟩:=aH.mp h;exact Reps.cons h1 (Reps.app h2 h')
theorem Reps.take{K:Ur}:∀{ds:ac}{vs:al}(n:Nat),Reps K H ds vs->Reps K H (ds.take n) (vs.take n)
 |_,_,0,_=>by simp;exact Reps.nil
 |[],_,n+1,h=>by rw[Reps.nil_iff.mp h];exact Reps.nil
 |d::ds,_,n+1,h=>by
  obtain⟨v,r,rfl,h1,h2⟩:=aH.mp h;exact Reps.cons h1 (Reps.take n h2)
theorem Reps.drop{K:Ur}:∀{ds:ac}{vs:al}(n:Nat),Reps K H ds vs->Reps K H (ds.drop n) (vs.drop n)
 |_,_,0,h=>by simpa using h
 |[],_,n+1,h=>by rw[Reps.nil_iff.mp h];exact Reps.nil
 |d::ds,_,n+1,h=>by
  obtain⟨v,r,rfl,h1,h2⟩:=aH.mp h;exact Reps.drop n h2
theorem Reps.set{K:Ur}(h:Rep K H d v):∀{ds:ac}{vs:al}(n:Nat),Reps K H ds vs->Reps K H (ds.set n d) (vs.set n v)
 |[],_,n,h'=>by rw[Reps.nil_iff.mp h'];exact Reps.nil
 |x::ds,_,0,h'=>by
  obtain⟨v,r,rfl,h1,h2⟩:=aH.mp h';exact Reps.cons h h2
 |x::ds,_,n+1,h'=>by
  obtain⟨v,r,rfl,h1,h2⟩:=aH.mp h';exact Reps.cons h1 (Reps.set h n h2)
theorem vk{K:Ur}:∀(ns:List Int),Reps K H (ns.map D.int) (ns.map V.int)
 |[]=>Reps.nil
 |n::r=>Reps.cons (aB.mpr rfl) (vk r)
structure bI (H Ha H' Ha':Hp):Prop where
 s:aG H H'
 z:aG Ha Ha'
 sub:aG Ha' H'
 nw:∀a,Ha' a≠none->Ha a=none->H a=none
def bI.refl(h:aG Ha H):bI H Ha H Ha:=⟨aG.refl _,aG.refl _,h,λa h1 h2=>absurd h2 h1⟩
theorem bI.trans(a:bI H Ha H1 H01)(b:bI H1 H01 H2 H02):bI H Ha H2 H02 :=
 ⟨a.s.trans b.s,a.z.trans b.z,b.sub,λx h1 h2=>by
  cases q:H01 x with
  |none=>exact a.s.free (b.nw x h1 q)
  |some o=>exact a.nw x (by rw[q];simp) h2⟩
def aR(hs:aG Ha H)(hp:H p=none):bI H Ha (upd H p o) (upd Ha p o) :=
 ⟨same_new hp o,same_new (hs.free hp) o,λb u e=>by
  by_cases hb:b=p
  .subst hb;rw[aE]at e ⊢;exact e
  .rw[aA hb]at e ⊢;exact hs _ _ e,λa h1 h2=>by
  by_cases hb:a=p
  .subst hb;exact hp
  .rw[aA hb]at h1;exact absurd h2 h1⟩
where
 same_new {H:Hp}{p:Uy}(h:H p=none) (o:HO):aG H (upd H p o):=λb u q=>by rw[aA (bo q h)];exact q
inductive Sl where
 |no|sh (d:D)|ow (d:D)|ox (j:Nat) (ds:ac)|pt (a:Uy)
abbrev Ev:=List Sl
abbrev am:=Ev->ar D
def Reads(K:Ur)(Ha:Hp)(σ:L2.St)(ρ:Ev):Prop:=∀(i:Nat) (d:D),ρ[i]?=some (.sh d)->∃v,σ[i]?=some (some v)/\Rep K Ha d v
def Reads.mono{K:Ur}(e:aG H H')(r:Reads K H σ ρ):Reads K H' σ ρ:=λi d h=>
 let ⟨v,h1,h2⟩:=r i d h
 ⟨v,h1,h2.mono e⟩
def zc(K:Ur)(H:Hp)(x:RB)(C:Up)(ox:Option Uy):Prop :=
 (∃c,C=.ref c/\XC K x.cls c)/\match ox with
  |none=>x.flds=[]
  |some a=>∃fs,H a=some (.xd fs)/\∀n d,x.flds.lookup n=some d->∃v,fs.lookup n=some v/\Rep K H d v
def post(K:Ur)(E:XK)(H Ha:Hp)(r:ar D)(Q:VK):Prop:=match r with
 |.ok d=>∀v H' Ha',bI H Ha H' Ha'->Rep K Ha' d v->Q v H'
 |.exn x=>∀C ox H' Ha',bI H Ha H' Ha'->zc K Ha' x C ox->E C ox H'
 |.stuck=>False
def ux(K:Ur)(E:XK)(H Ha:Hp)(r:ar (ac))(Q:al->Hp->Prop):Prop:=match r with
 |.ok ds=>∀vs H' Ha',bI H Ha H' Ha'->Reps K Ha' ds vs->Q vs H'
 |.exn x=>∀C ox H' Ha',bI H Ha H' Ha'->zc K Ha' x C ox->E C ox H'
 |.stuck=>False
def qF(K:Ur)(E:XK)(H Ha:Hp)(r:ar D)(Q:Bool->Hp->Prop):Prop:=match r with
 |.ok (.bl b)=>∀H' Ha',bI H Ha H' Ha'->Q b H'
 |.ok _=>False
 |.exn x=>∀C ox H' Ha',bI H Ha H' Ha'->zc K Ha' x C ox->E C ox H'
 |.stuck=>False
section
variable {K:Ur}{E:XK}{H Ha H1 H01:Hp}
def post.grow(h:post K E H Ha r Q)(g:bI H Ha H1 H01):post K E H1 H01 r Q:=by
 cases r with|ok d=>exact λv H' Ha' g'=>h v H' Ha' (g.trans g')|exn x=>exact λC ox H' Ha' g'=>h C ox H' Ha' (g.trans g')|stuck=>exact h
def ux.grow(h:ux K E H Ha r Q)(g:bI H Ha H1 H01):ux K E H1 H01 r Q:=by
 cases r with|ok d=>exact λv H' Ha' g'=>h v H' Ha' (g.trans g')|exn x=>exact λC ox H' Ha' g'=>h C ox H' Ha' (g.trans g')|stuck=>exact h
def qF.grow(h:qF K E H Ha r Q)(g:bI H Ha H1 H01):qF K E H1 H01 r Q:=by
 cases r with
 |ok d=>
  cases d with|bl b=>exact λH' Ha' g'=>h H' Ha' (g.trans g')| _=>exact h
 |exn x=>exact λC ox H' Ha' g'=>h C ox H' Ha' (g.trans g')
 |stuck=>exact h
end
def tD(K:Ur)(E:XK)(f:am):TE:=λσ H Q=>∃Ha ρ,aG Ha H/\Reads K Ha σ ρ/\post K E H Ha (f ρ) Q
def Tj(K:Ur)(E:XK)(f:Ev->ar (ac)):TA:=λσ H Q=>∃Ha ρ,aG Ha H/\Reads K Ha σ ρ/\ux K E H Ha (f ρ) Q
def Oc(K:Ur)(E:XK)(f:am):TT:=λσ H Q=>∃Ha ρ,aG Ha H/\Reads K Ha σ ρ/\qF K E H Ha (f ρ) Q
structure DE (X:Cx) (E:XK) (e:Vl) (f:am):Prop where
 o:PE X e (tD X.K E f)
structure DA (X:Cx) (E:XK) (es:List Vl) (f:Ev->ar (ac)):Prop where
 o:PA X es (Tj X.K E f)
structure DT (X:Cx) (E:XK) (e:Vl) (f:am):Prop where
 o:PT X e (Oc X.K E f)
structure DW (X:Cx) (E:XK) (e:Vl) (f:am):Prop where
 o:PW X e (Oc X.K E f)
section
variable {X:Cx}{E:XK}{e a b:Vl}{es:List Vl}{f g:am}{fa:Ev->ar (ac)}{pos:Pos}
def bc(h:PE X e t)(w:∀σ H Q,t' σ H Q->t σ H Q):PE X e t':=λπ s σ H Q I q=>h π s σ H Q I (w σ H Q q)
def pZ(h:PA X es t)(w:∀σ H Q,t' σ H Q->t σ H Q):PA X es t':=λpos π s σ H Q I q=>h pos π s σ H Q I (w σ H Q q)
def ic(h:PT X e t)(w:∀σ H Q,t' σ H Q->t σ H Q):PT X e t':=λπ s σ H Q I q=>h π s σ H Q I (w σ H Q q)
def Be(h:PW X e t)(w:∀σ H Q,t' σ H Q->t σ H Q):PW X e t':=λwh π s σ H Q I q=>h wh π s σ H Q I (w σ H Q q)
def af(i:Nat):am:=λρ=>match ρ[i]? with
 |some (.sh d)=>.ok d
 |_=>.stuck
def dC(d:D):am:=λ_=>.ok d
def NH(hN:X.N[i]?=some x)(hv:zj X.env.scope x)(hd:(x==("__debug__" : UP))=false:=by decide)(hcd:(x==("__classdict__" : UP))=false:=by decide):DE X E (.Name x pos) (af i):=by
 refine⟨?_⟩;refine bc (iy hN hv hd hcd) λσ H Q ⟨Ha,ρ,hs,hr,q⟩=>?_;unfold af at q;cases e:ρ[i]? with
 |none=>rw[e]at q;exact q.elim
 |some s=>
  rw[e]at q;cases s with
  |sh d=>
   obtain⟨v,e1,e2⟩:=hr i d e;exact⟨v,e1,q v H Ha (bI.refl hs) e2⟩
  |no|ow d|ox j ds|pt a=>exact q.elim
def aj{i j}:DE X E (.Constant (.int i) j pos) (dC (.int i)):=⟨bc EY λσ H Q ⟨Ha,ρ,hs,hr,q⟩=>q _ H Ha (bI.refl hs) (aB.mpr rfl)⟩
def fZ{i j}:DE X E (.Constant (.bool i) j pos) (dC (.bl i)):=⟨bc Pw λσ H Q ⟨Ha,ρ,hs,hr,q⟩=>q _ H Ha (bI.refl hs) (aL.mpr rfl)⟩
def cP{j}:DE X E (.Constant .none j pos) (dC .non):=⟨bc LX λσ H Q ⟨Ha,ρ,hs,hr,q⟩=>q _ H Ha (bI.refl hs) (aZ.mpr rfl)⟩
def dG{x j}:DE X E (.Constant (.str x) j pos) (dC (.str x)):=⟨bc LR λσ H Q ⟨Ha,ρ,hs,hr,q⟩=>q _ H Ha (bI.refl hs) (Rep.str_iff.mpr rfl)⟩
def Ka(hg:Gl X x)(hm:X.mg x=some u)(r:b3 v u)(hr:∀H,Rep X.K H d v)(hd:(x==("__debug__" : UP))=false:=by decide):DE X E (.Name x pos) (dC d) :=
 ⟨bc (vP hg hm r hd) λσ H Q ⟨Ha,ρ,hs,hr',q⟩=>q _ H Ha (bI.refl hs) (hr Ha)⟩
def ag(f g:am)(op:D->D->ar D):am:=λρ=>(f ρ).bind λx=>(g ρ).bind λy=>op x y
def aY(f:am)(op:D->ar D):am:=λρ=>(f ρ).bind op
def wX(K:Ur)(E:XK)(r:R2)(op:D->D->ar D):Prop:=∀(x y:D) (v u:V) (H Ha:Hp) (Q:VK),aG Ha H->Rep K Ha x v->Rep K Ha y u->post K E H Ha (op x y) Q->r v u H Q
def ll(ho:wX X.K E r op)(σ:L2.St)(H:Hp)(Q:VK)(h:tD X.K E (ag f g op) σ H Q):Ob r (tD X.K E f) (tD X.K E g) σ H Q:=by
 obtain⟨Ha,ρ,hs,hr,q⟩:=h;refine⟨Ha,ρ,hs,hr,?_⟩;unfold ag at q;cases e1:f ρ with
 |stuck|exn x=>rw[e1]at q;exact q
 |ok x=>
  rw[e1]at q;intro v H1 H01 g1 r1;refine⟨H01,ρ,g1.sub,hr.mono g1.z,?_⟩;replace q:post X.K E H Ha ((g ρ).bind λy=>op x y) Q:=q;replace q:=q.grow g1;cases e2:g ρ with
  |stuck|exn x=>rw[e2]at q;exact q
  |ok y=>
   rw[e2]at q;intro u H2 H02 g2 r2;exact ho x y v u H2 H02 Q g2.sub (r1.mono g2.z) r2 (post.grow (r:=op x y) q g2)
def uU(h:gr X (binaryOp op) r)(ho:wX X.K E r o)(ha:DE X E a f)(hb:DE X E b g):DE X E (.BinOp a op b pos) (ag f g o) :=
 ⟨bc (EX h ha.o hb.o) (ll ho)⟩
def eC(h:gr X (Vw op) r)(ho:wX X.K E r o)(ha:DE X E a f)(hb:DE X E b g)(hm:behindInMarks op b=false):DE X E (.Compare a [op] [b] pos) (ag f g o) :=
 ⟨bc (Bk h ha.o hb.o hm) (ll ho)⟩
def Q5(h:GJ X r)(ho:wX X.K E r o)(ha:DE X E a f)(hb:DE X E b g)(hs:nA b):DE X E (.Subscript a b pos) (ag f g o) :=
 ⟨bc (KJ h ha.o hb.o hs) (ll ho)⟩
def Uk(K:Ur)(E:XK)(r:V->Hp->VK->Prop)(op:D->ar D):Prop:=∀(x:D) (v:V) (H Ha:Hp) (Q:VK),aG Ha H->Rep K Ha x v->post K E H Ha (op x) Q->r v H Q
def Q3(h:RS X (unaryOp op) r)(ho:Uk X.K E r o)(ha:DE X E a f):DE X E (.UnaryOp op a pos) (aY f o):=by
 refine⟨?_⟩;refine bc (KI h ha.o) λσ H Q z9=>?_;obtain⟨Ha,ρ,hs,hr,q⟩:=z9;refine⟨Ha,ρ,hs,hr,?_⟩
 unfold aY at q;cases e1:f ρ with
 |stuck|exn x=>rw[e1]at q;exact q
 |ok x=>
  rw[e1]at q;intro v H1 H01 g1 r1;exact ho x v H1 H01 Q g1.sub r1 (post.grow (r:=o x) q g1)
def az:Ev->ar (ac):=λ_=>.ok []
def ae(f:am)(fa:Ev->ar (ac)):Ev->ar (ac):=λρ=>(f ρ).bind λx=>(fa ρ).bind λxs=>.ok (x::xs)
def aq:DA X E [] az:=⟨pZ fU λσ H Q ⟨Ha,ρ,hs,hr,q⟩=>q [] H Ha (bI.refl hs) Reps.nil⟩
def aa(ha:DE X E e f)(hr:DA X E es fa)(hs:Uw (e::es) X.env=(false,eval e X.env)::Uw es X.env:=by exact aT rfl):DA X E (e::es) (ae f fa):=by
 refine⟨?_⟩;refine pZ (dj ha.o hr.o hs) λσ H Q z9=>?_;obtain⟨Ha,ρ,hs,hr,q⟩:=z9;refine⟨Ha,ρ,hs,hr,?_⟩
 unfold ae at q;cases e1:f ρ with
 |stuck|exn x=>rw[e1]at q;exact q
 |ok x=>
  rw[e1]at q;intro v H1 H01 g1 r1;refine⟨H01,ρ,g1.sub,hr.mono g1.z,?_⟩;replace q:ux X.K E H Ha ((fa ρ).bind λxs=>.ok (x::xs)) Q:=q;replace q:=q.grow g1;cases e2:fa ρ with
  |stuck|exn x=>rw[e2]at q;exact q
  |ok xs=>
   rw[e2]at q;intro us H2 H02 g2 r2;exact q (v::us) H2 H02 g2 (Reps.cons (r1.mono g2.z) r2)
def line:Nat:=1000000
def eg(h:n<=line):n<=sizeLine:=U8 h (by decide)
def ao(fa:Ev->ar (ac))(m:ac->ar D):am:=λρ=>(fa ρ).bind m
def cT:ac->ar D:=λds=>if ds.length<=line then .ok (.tup ds) else .stuck
def b5:ac->ar D:=λds=>if ds.length<=line then .ok (.lst ds) else .stuck
def lH{r:al->Hp->VK->Prop}(ho:∀(ds:ac) (vs:al) (H Ha:Hp) (Q:VK),aG Ha H->Reps X.K Ha ds vs->post X.K E H Ha (m ds) Q->r vs H Q)
  (σ:L2.St)(H:Hp)(Q:VK)(h:tD X.K E (ao fa m) σ H Q):Tj X.K E fa σ H λvs H1=>r vs H1 Q:=by
 obtain⟨Ha,ρ,hs,hr,q⟩:=h;refine⟨Ha,ρ,hs,hr,?_⟩;unfold ao at q;cases e1:fa ρ with
 |stuck|exn x=>rw[e1]at q;exact q
 |ok x=>
  rw[e1]at q;intro v H1 H01 g1 r1;exact ho x v H1 H01 Q g1.sub r1 (post.grow (r:=m x) q g1)
def bV{x1}(h:DA X E es fa):DE X E (.Tuple es x1 pos) (ao fa cT):=by
 refine⟨?_⟩;refine bc (EW h.o) (lH (r:=λxs H1 Q=>xs.length<=sizeLine/\∀p,H1 p=none->Q (.ref p) (upd H1 p (.tup xs))) λds vs H Ha Q hs hr q=>?_);unfold cT at q
 by_cases hl:ds.length<=line
 .rw[if_pos hl]at q
  refine⟨by rw[←hr.length];exact eg hl,λp hp=>q _ _ _ (aR hs hp) (aQ.mpr ⟨p,vs,rfl,kC.of aE,hr.mono (aR hs hp).z⟩)⟩
 .rw[if_neg hl]at q;exact q.elim
def cg(h:DA X E es fa):DE X E (.List es pos) (ao fa b5):=by
 refine⟨?_⟩;refine bc (zI h.o) (lH (r:=λxs H1 Q=>xs.length<=sizeLine/\∀p,H1 p=none->Q (.ref p) (upd H1 p (.lst xs))) λds vs H Ha Q hs hr q=>?_);unfold b5 at q
 by_cases hl:ds.length<=line
 .rw[if_pos hl]at q
  refine⟨by rw[←hr.length];exact eg hl,λp hp=>q _ _ _ (aR hs hp) (aJ.mpr ⟨p,vs,rfl,fM.of aE,hr.mono (aR hs hp).z⟩)⟩
 .rw[if_neg hl]at q;exact q.elim
def spD(K:Ur)(n:Nat)(m:ac->ar D):Sp:=λvs H Q E=>vs.length=n/\∃Ha ds,aG Ha H/\Reps K Ha ds vs/\post K E H Ha (m ds) Q
def Kb{ps:bi}(F:FnOk X.prog X.w X.K X.mg X.base CX k fn fd ps (spD X.K n m))(hr:di k X.A)(hg:Gl X x)(hm:X.mg x=some (.ref fn))
  (hk:WN X.K (.ref fn)=true)(hb:ia X.K fd ps [])(hx:gW CX X E)(ha:DA X E (e::es) fa)(hn:(e::es).length=n:=by rfl)(hl:∀ρ ds,fa ρ=.ok ds->ds.length=(e::es).length)
  (hdb:(x==("__debug__" : UP))=false:=by decide)(he:Uw (e::es) X.env=(false,eval e X.env)::Uw es X.env:=by exact aT rfl)(hpl:(Vy pos (Uw es X.env)).any (·.1)=false:=by exact bK rfl) :
  DE X E (.Call (.Name x p) (e::es) [] pos) (ao fa m):=by
 refine⟨?_⟩;refine bc (pY F hr hg hm hk hb .nil hx ha.o hdb he hpl) λσ H Q h=>?_;obtain⟨Ha,ρ,hs,hr,q⟩:=h;refine⟨Ha,ρ,hs,hr,?_⟩;unfold ao at q;cases e1:fa ρ with
 |stuck|exn x=>rw[e1]at q;exact q
 |ok ds=>
  rw[e1]at q;intro v H1 H01 g1 r1;refine⟨?_,H01,ds,g1.sub,by simpa using r1,post.grow (r:=m ds) q g1⟩;have:=r1.length;have:=hl ρ ds e1;simp only[Vd];omega
def GD(h:az ρ=.ok ds):ds.length=0:=by cases h;rfl
def jP(hr:∀es,fa ρ=.ok es->es.length=n)(h:ae f fa ρ=.ok ds):ds.length=n+1:=by
 unfold ae at h;cases e1:f ρ with
 |stuck|exn x=>rw[e1]at h;cases h
 |ok x=>
  rw[e1]at h;replace h:((fa ρ).bind λxs=>ar.ok (x::xs))=.ok ds:=h;cases e2:fa ρ with
  |stuck|exn x=>rw[e2]at h;cases h
  |ok xs=>
   rw[e2]at h;cases h;simp[hr xs e2]
def g9(X:Cx)(E:XK)(r:al->Hp->VK->Prop)(m:ac->ar D):Prop:=∀(ds:ac) (vs:al) (H Ha:Hp) (Q:VK),aG Ha H->Reps X.K Ha ds vs->post X.K E H Ha (m ds) Q->r vs H Q
def aX{id:String}(hc:gN X (.builtin id) r)(hd:g9 X E r m)(hg:Gl X x)(hm:X.mg x=none)(hv:bootBuiltins x=some (.builtin id))(ha:DA X E (e::es) fa)(hn:x≠"__name__":=by decide)(hdb:(x==("__debug__" : UP))=false:=by decide)
  (he:Uw (e::es) X.env=(false,eval e X.env)::Uw es X.env:=by exact aT rfl)(hpl:(Vy pos (Uw es X.env)).any (·.1)=false:=by exact bK rfl):DE X E (.Call (.Name x p) (e::es) [] pos) (ao fa m) :=
 ⟨bc (kO hc hg hm hv ha.o hn hdb he hpl) (lH hd)⟩
def Gd(h:PT X e (tB (tD X.K E f))):DT X E e f:=by
 refine⟨?_⟩;refine ic h λσ H Q z9=>?_;obtain⟨Ha,ρ,hs,hr,q⟩:=z9;refine⟨Ha,ρ,hs,hr,?_⟩
 cases e1:f ρ with
 |stuck|exn x=>rw[e1]at q;exact q
 |ok d=>
  rw[e1]at q;intro v H1 H01 g1 r1;cases d with|bl b=>rw[aL.mp r1];exact⟨b,rfl,q H1 H01 g1⟩| _=>exact q.elim
def bA(h:DE X E e f)(he:∀whole,isTrue e X.env whole=(do let v ←whole;standAt e.pos;WK [v] (truthy v)):=by intro _;rfl):DT X E e f:=Gd (EK h.o he)
def aW(h:gr X (Vw op) r)(ho:wX X.K E r o)(ha:DE X E a f)(hb:DE X E b g)(hm:behindInMarks op b=false):DT X E (.Compare a [op] [b] pos) (ag f g o):=by
 refine⟨?_⟩;refine ic (Bf h ha.o hb.o hm) λσ H Q h=>?_;have w:tD X.K E (ag f g o) σ H λx H'=>∃k,x=.bl k/\Q k H':=by
  obtain⟨Ha,ρ,hs,hr,q⟩:=h;refine⟨Ha,ρ,hs,hr,?_⟩;cases e1:ag f g o ρ with
  |stuck|exn x=>rw[e1]at q;exact q
  |ok d=>
   rw[e1]at q;intro v H1 H01 g1 r1;cases d with|bl b=>rw[aL.mp r1];exact⟨b,rfl,q H1 H01 g1⟩| _=>exact q.elim
 exact ll ho σ H _ w
def cp(f:am):am:=aY f λx=>match x with
 |.bl b=>.ok (.bl (!b))
 |_=>.stuck
def f9(f g:am):am:=λρ=>(f ρ).bind λx=>match x with
 |.bl true=>g ρ
 |.bl false=>.ok (.bl false)
 |_=>.stuck
def gq(f g:am):am:=λρ=>(f ρ).bind λx=>match x with
 |.bl true=>.ok (.bl true)
 |.bl false=>g ρ
 |_=>.stuck
def bP(ha:DT X E a f):DT X E (.UnaryOp .Not a pos) (cp f):=by
 refine⟨?_⟩;refine ic (EL ha.o) λσ H Q z9=>?_;obtain⟨Ha,ρ,hs,hr,q⟩:=z9;refine⟨Ha,ρ,hs,hr,?_⟩
 unfold cp aY at q;cases e1:f ρ with
 |stuck|exn x=>rw[e1]at q;exact q
 |ok d=>
  rw[e1]at q;cases d with|bl b=>exact q| _=>exact q.elim
def NK(ha:DE X E a f):DE X E (.UnaryOp .Not a pos) (cp f):=by
 refine⟨?_⟩;refine bc (LW ha.o) λσ H Q z9=>?_;obtain⟨Ha,ρ,hs,hr,q⟩:=z9;refine⟨Ha,ρ,hs,hr,?_⟩
 unfold cp aY at q;cases e1:f ρ with
 |stuck|exn x=>rw[e1]at q;exact q
 |ok d=>
  rw[e1]at q;intro v H1 H01 g1 r1;cases d with|bl b=>rw[aL.mp r1];exact⟨b,rfl,q (.bl !b) H1 H01 g1 (aL.mpr rfl)⟩| _=>exact q.elim
variable {rest:List Vl}
def ke(ha:DT X E a f):DW X E (.BoolOp .And [a] pos) f:=⟨HP ha.o⟩
def bj(ha:DT X E a f):DW X E (.BoolOp .Or [a] pos) f:=⟨LL ha.o⟩
def n8(ha:DT X E a f)(hb:DW X E (.BoolOp .And (b::rest) pos) g):DW X E (.BoolOp .And (a::b::rest) pos) (f9 f g):=by
 refine⟨?_⟩;refine Be (LM ha.o hb.o) λσ H Q z9=>?_;obtain⟨Ha,ρ,hs,hr,q⟩:=z9;refine⟨Ha,ρ,hs,hr,?_⟩
 unfold f9 at q;cases e1:f ρ with
 |stuck|exn x=>rw[e1]at q;exact q
 |ok d=>
  rw[e1]at q;cases d with
  |bl b=>
   cases b with|true=>exact λH1 H01 g1=>⟨H01,ρ,g1.sub,hr.mono g1.z,qF.grow (r:=g ρ) q g1⟩|false=>exact λH1 H01 g1=>q H1 H01 g1
  |_=>exact q.elim
def c6(ha:DT X E a f)(hb:DW X E (.BoolOp .Or (b::rest) pos) g):DW X E (.BoolOp .Or (a::b::rest) pos) (gq f g):=by
 refine⟨?_⟩;refine Be (Pj ha.o hb.o) λσ H Q z9=>?_;obtain⟨Ha,ρ,hs,hr,q⟩:=z9;refine⟨Ha,ρ,hs,hr,?_⟩
 unfold gq at q;cases e1:f ρ with
 |stuck|exn x=>rw[e1]at q;exact q
 |ok d=>
  rw[e1]at q;cases d with
  |bl b=>
   cases b with|false=>exact λH1 H01 g1=>⟨H01,ρ,g1.sub,hr.mono g1.z,qF.grow (r:=g ρ) q g1⟩|true=>exact λH1 H01 g1=>q H1 H01 g1
  |_=>exact q.elim
def DW.dt(h:DW X E e f):DT X E e f:=⟨PW.pt h.o⟩
def iM{op}(h:DE X E a f):DE X E (.BoolOp op [a] pos) f:=⟨LV h.o⟩
def gT(ha:DE X E a f)(hb:DE X E (.BoolOp .And (b::rest) pos) g):DE X E (.BoolOp .And (a::b::rest) pos) (f9 f g):=by
 refine⟨?_⟩;refine bc (LZ ha.o hb.o) λσ H Q z9=>?_;obtain⟨Ha,ρ,hs,hr,q⟩:=z9;refine⟨Ha,ρ,hs,hr,?_⟩
 unfold f9 at q;cases e1:f ρ with
 |stuck|exn x=>rw[e1]at q;exact q
 |ok d=>
  rw[e1]at q;intro v H1 H01 g1 r1;cases d with
  |bl b=>
   rw[aL.mp r1];cases b with|true=>exact⟨true,rfl,H01,ρ,g1.sub,hr.mono g1.z,post.grow (r:=g ρ) q g1⟩|false=>exact⟨false,rfl,q (.bl false) H1 H01 g1 (aL.mpr rfl)⟩
  |_=>exact q.elim
def Q4(ha:DE X E a f)(hb:DE X E (.BoolOp .Or (b::rest) pos) g):DE X E (.BoolOp .Or (a::b::rest) pos) (gq f g):=by
 refine⟨?_⟩;refine bc (Pu ha.o hb.o) λσ H Q z9=>?_;obtain⟨Ha,ρ,hs,hr,q⟩:=z9;refine⟨Ha,ρ,hs,hr,?_⟩
 unfold gq at q;cases e1:f ρ with
 |stuck|exn x=>rw[e1]at q;exact q
 |ok d=>
  rw[e1]at q;intro v H1 H01 g1 r1;cases d with
  |bl b=>
   rw[aL.mp r1];cases b with|false=>exact⟨false,rfl,H01,ρ,g1.sub,hr.mono g1.z,post.grow (r:=g ρ) q g1⟩|true=>exact⟨true,rfl,q (.bl true) H1 H01 g1 (aL.mpr rfl)⟩
  |_=>exact q.elim
def Q8(c f g:am):am:=λρ=>(c ρ).bind λx=>match x with
 |.bl true=>f ρ
 |.bl false=>g ρ
 |_=>.stuck
def Gm(hc:DT X E c fc)(ha:DE X E a f)(hb:DE X E b g):DE X E (.IfExp c a b pos) (Q8 fc f g):=by
 refine⟨?_⟩;refine bc (EZ hc.o ha.o hb.o) λσ H Q z9=>?_;obtain⟨Ha,ρ,hs,hr,q⟩:=z9;refine⟨Ha,ρ,hs,hr,?_⟩
 unfold Q8 at q;cases e1:fc ρ with
 |stuck|exn x=>rw[e1]at q;exact q
 |ok d=>
  rw[e1]at q;cases d with
  |bl b=>
   cases b with|true=>exact λH1 H01 g1=>⟨H01,ρ,g1.sub,hr.mono g1.z,post.grow (r:=f ρ) q g1⟩|false=>exact λH1 H01 g1=>⟨H01,ρ,g1.sub,hr.mono g1.z,post.grow (r:=g ρ) q g1⟩
  |_=>exact q.elim
end
def S9(K:Ur)(Ha H:Hp)(a:Uy)(d:D):Prop:=match d with
 |.lst ds=>∃vs,H a=some (.lst vs)/\Reps K Ha ds vs
 |.dic ks ds=>∃vs,H a=some (.dK ((ks.map W5).zip vs))/\ks.length=vs.length/\Reps K Ha ds vs
 |_=>False
def vN(j k:Nat):Bool:=if j=99 then decide (k<=1) else k==j
noncomputable def RU(K:Ur) (He Ha H:Hp) (a:Uy) (j:Nat) (ds:ac) (P:Nat->Uy):Prop:=∃vs,He a=none/\H a=some (.tup vs)/\ds.length=vs.length /\
 (∀k,vN j k=true->∃es us,He (P k)=none/\Ha (P k)=none/\ds[k]?=some (.lst es)/\vs[k]?=some (.ref (P k))/\H (P k)=some (.lst us)/\Reps K Ha es us) /\
 (∀k l,vN j k=true->vN j l=true->P k=P l->k=l)/\∀k d v,vN j k=false->ds[k]?=some d->vs[k]?=some v->Rep K Ha d v
noncomputable def OX(K:Ur) (He Ha:Hp) (σ:L2.St) (H:Hp) (ρ:Ev):Prop:=(∀(i j:Nat) (ds:ac),ρ[i]?=some (.ox j ds)->∃a P,σ[i]?=some (some (.ref a))/\RU K He Ha H a j ds P/\(∀(k:Nat) (d:D) (l:Nat),vN j l=true->ρ[k]?=some (.ow d)->σ[k]?≠some (some (.ref (P l))))/\∀(k j':Nat) (ds':ac),ρ[k]?=some (.ox j' ds')->k=i)/\∀(i:Nat) (a:Uy),ρ[i]?=some (.pt a)->σ[i]?=some (some (.ref a))
def OX.upd{K:Ur}(h:OX K He Ha σ H ρ)
  (hk:∀(j:Nat) (s:Sl),ρ'[j]?=some s->(ρ[j]?=some s/\σ'[j]?=σ[j]?)∨(∃d,s=.sh d)∨s=.no∨∃d q,s=.ow d/\σ'[j]?=some (some (.ref q))/\∀(i j:Nat) (ds:ac) (a:Uy) (P:Nat->Uy),ρ[i]?=some (.ox j ds)->σ[i]?=some (some (.ref a))->RU K He Ha H a j ds P->∀l,vN j l=true->q≠P l)
  (hz:aG Ha Ha')(ht:∀a vs,He a=none->H a=some (.tup vs)->H' a=some (.tup vs))
  (hl:∀p us,He p=none->Ha p=none->H p=some (.lst us)->(∀(k:Nat) (d:D),ρ[k]?=some (.ow d)->σ[k]?≠some (some (.ref p)))->H' p=some (.lst us)/\Ha' p=none):OX K He Ha' σ' H' ρ':=by
 refine⟨λi j ds e=>?_,λi a e=>?_⟩
 rotate_left
 .rcases hk i _ e with h1|⟨d,h1⟩|h1|⟨d,q,h1,_⟩
  .rw[h1.2];exact h.2 i a h1.1
  .cases h1
  .cases h1
  .cases h1
 have old:ρ[i]?=some (.ox j ds)/\σ'[i]?=σ[i]?:=by
  rcases hk i _ e with h1|⟨d,h1⟩|h1|⟨d,q,h1,_⟩
  .exact h1
  .cases h1
  .cases h1
  .cases h1
 obtain⟨a,P,h1,h2,h3,h4⟩:=h.1 i j ds old.1;have h2':=h2;obtain⟨vs,r1,r2,r3,r4,r5,r6⟩:=h2;refine⟨a,P,old.2.trans h1,⟨vs,r1,ht a vs r1 r2,r3,λk ok=>?_,r5,λk d v hk e1 e2=>(r6 k d v hk e1 e2).mono hz⟩,λk d l ok ek z=>?_,λk j' ds' ek=>?_⟩
 .obtain⟨es,us,q1,q2,q3,q4,q5,q6⟩:=r4 k ok
  obtain⟨l1,l2⟩:=hl (P k) us q1 q2 q5 λm d em=>h3 m d k ok em;exact⟨es,us,q1,l2,q3,q4,l1,q6.mono hz⟩
 .rcases hk k _ ek with h1'|⟨d',h1'⟩|h1'|⟨d',q,h1',h2'',h3'⟩
  .exact h3 k d l ok h1'.1 (by rw[←h1'.2];exact z)
  .cases h1'
  .cases h1'
  .rw[h2'']at z
   cases z;exact h3' i j ds a P old.1 h1 h2' l ok rfl
 .rcases hk k _ ek with h1'|⟨d',h1'⟩|h1'|⟨d',q,h1',_⟩
  .exact h4 k j' ds' h1'.1
  .cases h1'
  .cases h1'
  .cases h1'
def OX.none{K:Ur}(h:∀(i j:Nat) (ds:ac),ρ[i]?≠some (.ox j ds))(h':∀(i:Nat) (a:Uy),ρ[i]?=some (.pt a)->σ[i]?=some (some (.ref a))):OX K He Ha σ H ρ:=⟨λi j ds e=>absurd e (h i j ds),h'⟩
theorem Ba{K:Ur}{H:Hp}:∀{ds:ac}{vs:al},ds.length=vs.length->(∀(k:Nat) (d:D) (v:V),ds[k]?=some d->vs[k]?=some v->Rep K H d v)->Reps K H ds vs
 |[],[],_,_=>Reps.nil
 |d::ds,v::vs,hl,h=>Reps.cons (h 0 d v rfl rfl) (Ba (by simpa using hl) λk d' v' e1 e2=>h (k+1) d' v' e1 e2)
structure fj (K:Ur) (He η Ha:Hp) (σ:L2.St) (H:Hp) (ρ:Ev):Prop where
 g:bI He η H Ha
 rd:Reads K Ha σ ρ
 ow:∀(i:Nat) (d:D),ρ[i]?=some (.ow d)->∃a,σ[i]?=some (some (.ref a))/\He a=none/\Ha a=none/\S9 K Ha H a d
 ap:∀(i j:Nat) (d d':D),i≠j->ρ[i]?=some (.ow d)->ρ[j]?=some (.ow d')->σ[i]?≠σ[j]?
 ln:ρ.length=σ.length
 ex:OX K He Ha σ H ρ
inductive Fl where
 |nx (ρ:Ev)|rt (d:D)|bk (ρ:Ev)|ct (ρ:Ev)
abbrev bd:=Ev->ar Fl
noncomputable def cG(K:Ur) (E:XK) (He η Ha:Hp) (r:ar Fl) (D:kE):Prop:=match r with
 |.ok (.nx ρ)=>∀σ H Ha',aG Ha Ha'->fj K He η Ha' σ H ρ->D.nx σ H
 |.ok (.rt d)=>∀v H Ha',bI He η H Ha'->Rep K Ha' d v->D.rt v H
 |.ok (.bk ρ)=>∀σ H Ha',aG Ha Ha'->fj K He η Ha' σ H ρ->D.bk σ H
 |.ok (.ct ρ)=>∀σ H Ha',aG Ha Ha'->fj K He η Ha' σ H ρ->D.ct σ H
 |.exn x=>∀C ox H Ha',bI He η H Ha'->zc K Ha' x C ox->E C ox H
 |.stuck=>False
def cG.grow{K:Ur}{D:kE}(h:cG K E He η Ha r D)(s:aG Ha Hb):cG K E He η Hb r D:=by
 cases r with
 |ok f=>
  cases f with|nx ρ=>exact λσ H Ha' s'=>h σ H Ha' (s.trans s')|rt d=>exact h|bk ρ=>exact λσ H Ha' s'=>h σ H Ha' (s.trans s')|ct ρ=>exact λσ H Ha' s'=>h σ H Ha' (s.trans s')
 |exn x=>exact h
 |stuck=>exact h
def tS(K:Ur)(E:XK)(He η:Hp)(g:bd):TS:=λD σ H=>∃Ha ρ,fj K He η Ha σ H ρ/\cG K E He η Ha (g ρ) D
structure DS (X:Cx) (E:XK) (He η:Hp) (st:V6) (g:bd):Prop where
 o:PS X st (tS X.K E He η g)
structure zk (X:Cx) (E:XK) (He η:Hp) (st:List V6) (g:bd):Prop where
 o:vm X st (tS X.K E He η g)
def shr(ρ:Ev):Ev:=ρ.map λs=>match s with
 |.ow d=>.sh d
 |.ox _ ds=>.sh (.tup ds)
 |x=>x
def frz(He Ha H:Hp):Hp:=λa=>match He a with
 |none=>H a
 |some _=>Ha a
section
variable {K:Ur}{E:XK}{He η Ha H H1:Hp}{σ:L2.St}{ρ:Ev}
def fj.same(h:fj K He η Ha σ H ρ)(s:aG H H1):fj K He η Ha σ H1 ρ :=
 ⟨⟨h.g.s.trans s,h.g.z,h.g.sub.trans s,h.g.nw⟩,h.rd,λi d e=>by
  obtain⟨a,h1,h2,h3,h4⟩:=h.ow i d e;refine⟨a,h1,h2,h3,?_⟩;cases d with
  |lst ds=>obtain⟨vs,h5,h6⟩:=h4;exact⟨vs,s _ _ h5,h6⟩|dic ks ds=>obtain⟨vs,h5,hl,h6⟩:=h4;exact⟨vs,s _ _ h5,hl,h6⟩
  |_=>exact h4,h.ap,h.ln,h.ex.upd (λj s' e=>.inl ⟨e,rfl⟩) (aG.refl _) (λa vs _ e=>s _ _ e) λp us _ h0 hp _=>⟨s _ _ hp,h0⟩⟩
def fj.grow(h:fj K He η Ha σ H ρ)(s:bI H Ha H1 H01):fj K He η H01 σ H1 ρ :=
 ⟨h.g.trans s,h.rd.mono s.z,λi d e=>by
  obtain⟨a,h1,h2,h3,h4⟩:=h.ow i d e;have ha:H01 a=none:=by
   cases q:H01 a with
   |none=>rfl
   |some o=>
    have:=s.nw a (by rw[q];simp) h3;cases d with|lst ds|dic ks ds=>obtain⟨vs,h5,_⟩:=h4;rw[h5]at this;cases this| _=>exact h4.elim
  refine⟨a,h1,h2,ha,?_⟩;cases d with
  |lst ds=>obtain⟨vs,h5,h6⟩:=h4;exact⟨vs,s.s _ _ h5,h6.mono s.z⟩|dic ks ds=>obtain⟨vs,h5,hl,h6⟩:=h4;exact⟨vs,s.s _ _ h5,hl,h6.mono s.z⟩
  |_=>exact h4,h.ap,h.ln,h.ex.upd (λj s' e=>.inl ⟨e,rfl⟩) s.z (λa vs _ e=>s.s _ _ e) λp us _ h0 hp _=>⟨s.s _ _ hp,by
   cases q:H01 p with
   |none=>rfl
   |some o=>have:=s.nw p (by rw[q];simp) h0;rw[hp]at this;cases this⟩⟩
def fj.frz_sub(h:fj K He η Ha σ H ρ):aG Ha (frz He Ha H):=λb o e=>by
 unfold frz;cases q:He b with|none=>exact h.g.sub _ _ e|some _=>exact e
def fj.frz_le(h:fj K He η Ha σ H ρ):aG (frz He Ha H) H:=λb o e=>by
 unfold frz at e;cases q:He b with|none=>rw[q]at e;exact e|some _=>rw[q]at e;exact h.g.sub _ _ e
theorem fj.frz_grow(h:fj K He η Ha σ H ρ):bI He η H (frz He Ha H) :=
 ⟨h.g.s,h.g.z.trans h.frz_sub,h.frz_le,λa h1 h2=>by
  cases q:He a with
  |none=>rfl
  |some o=>
   unfold frz at h1;rw[q]at h1;have:=h.g.nw a h1 h2;rw[q]at this;cases this⟩
def fj.looks(h:fj K He η Ha σ H ρ):Reads K (frz He Ha H) σ (shr ρ):=λi d e=>by
 unfold shr at e;rw[UK]at e;cases q:ρ[i]? with
 |none=>rw[q]at e;cases e
 |some s=>
  rw[q]at e;cases s with
  |no|pt a=>cases e
  |sh d'=>
   cases e;obtain⟨v,h1,h2⟩:=h.rd i d q;exact⟨v,h1,h2.mono h.frz_sub⟩
  |ow d'=>
   cases e;obtain⟨a,h1,h2,h3,h4⟩:=h.ow i d q;refine⟨_,h1,?_⟩;cases d with
   |lst ds=>
    obtain⟨vs,h5,h6⟩:=h4;exact aJ.mpr ⟨a,vs,rfl,fM.of (by unfold frz;rw[h2];exact h5),h6.mono h.frz_sub⟩
   |dic ks ds=>
    obtain⟨vs,h5,hl,h6⟩:=h4;rw[Rep];exact⟨a,_,vs,rfl,.inl (by unfold frz;rw[h2];exact h5),rfl,hl,h6.mono h.frz_sub⟩
   |_=>exact h4.elim
  |ox j ds=>
   cases e;obtain⟨a,P,h1,⟨vs,r1,r2,r3,r4,r5,r6⟩,_⟩:=h.ex.1 i j ds q;refine⟨_,h1,aQ.mpr ⟨a,vs,rfl,kC.of (by unfold frz;rw[r1];exact r2),Ba r3 λk d v e1 e2=>?_⟩⟩;cases hk:vN j k with
   |true=>
    obtain⟨es,us,q1,q2,q3,q4,q5,q6⟩:=r4 k hk;rw[q3]at e1;cases e1;rw[q4]at e2;cases e2;exact aJ.mpr ⟨P k,us,rfl,fM.of (by unfold frz;rw[q1];exact q5),q6.mono h.frz_sub⟩
   |false=>exact(r6 k d v hk e1 e2).mono h.frz_sub
def fj.put(h:fj K He η Ha σ H ρ)(r:Rep K Ha d v):fj K He η Ha (σ.set i (some v)) H (ρ.set i (.sh d)):=by
 have key:∀(j:Nat) (s:Sl),(ρ.set i (.sh d))[j]?=some s->(j=i/\s=.sh d/\i<σ.length)∨(j≠i/\ρ[j]?=some s):=λj s e=>by
  by_cases hj:i=j
  .subst hj
   rw[W3]at e;cases q:ρ[i]? with
   |none=>rw[q]at e;cases e
   |some s'=>
    rw[q]at e;cases e;refine .inl ⟨rfl,rfl,?_⟩;rw[←h.ln];exact(Ux.mp q).1
  .rw[UE hj]at e
   exact .inr ⟨λz=>hj z.symm,e⟩
 refine⟨h.g,λj d' e=>?_,λj d' e=>?_,λj k d1 d2 hn e1 e2=>?_,by simp[h.ln],h.ex.upd (λj s e=>?_) (aG.refl _) (λa vs _ e=>e) λp us _ h0 hp _=>⟨hp,h0⟩⟩
 rotate_left 3
 .rcases key j _ e with⟨rfl,e',hl⟩|⟨hj,e'⟩
  .exact .inr (.inl ⟨d,e'⟩)
  .exact .inl ⟨e',by rw[UE (Vj hj)]⟩
 .rcases key j _ e with⟨rfl,e',hl⟩|⟨hj,e'⟩
  .cases e'
   exact⟨v,by rw[Vg hl],r⟩
  .obtain⟨v',h1,h2⟩:=h.rd j d' e'
   exact⟨v',by rw[UE (Vj hj)];exact h1,h2⟩
 .rcases key j _ e with⟨rfl,e',hl⟩|⟨hj,e'⟩
  .cases e'
  .obtain⟨a,h1,h2⟩:=h.ow j d' e'
   exact⟨a,by rw[UE (Vj hj)];exact h1,h2⟩
 .rcases key j _ e1 with⟨_,e',_⟩|⟨hj,e1'⟩
  .cases e'
  rcases key k _ e2 with⟨_,e',_⟩|⟨hk,e2'⟩
  .cases e'
  rw[UE (Vj hj),UE (Vj hk)];exact h.ap j k d1 d2 hn e1' e2'
def fj.putOwn(h:fj K He η Ha σ H ρ)(hp:∀(j:Nat) (a:Uy),σ[j]?=some (some (V.ref a))->a=p->∀d:D,ρ[j]?≠some (Sl.ow d))(he:He p=none)(h0:Ha p=none)(hv:H p=some (.lst vs))(r:Reps K Ha ds vs)(hx:∀(i j:Nat) (ds:ac) (a:Uy) (P:Nat->Uy),ρ[i]?=some (.ox j ds)->σ[i]?=some (some (.ref a))->RU K He Ha H a j ds P->∀l,vN j l=true->p≠P l) :
  fj K He η Ha (σ.set i (some (.ref p))) H (ρ.set i (.ow (.lst ds))):=by
 have key:∀(j:Nat) (s:Sl),(ρ.set i (.ow (.lst ds)))[j]?=some s->(j=i/\s=.ow (.lst ds)/\i<σ.length)∨(j≠i/\ρ[j]?=some s):=λj s e=>by
  by_cases hj:i=j
  .subst hj
   rw[W3]at e;cases q:ρ[i]? with
   |none=>rw[q]at e;cases e
   |some s'=>
    rw[q]at e;cases e;refine .inl ⟨rfl,rfl,?_⟩;rw[←h.ln];exact(Ux.mp q).1
  .rw[UE hj]at e
   exact .inr ⟨λz=>hj z.symm,e⟩
 have other:∀(k:Nat) (d2:D),k≠i->ρ[k]?=some (.ow d2)->some (some (V.ref p))≠σ[k]?:=λk d2 hk e2 z=>by
  obtain⟨a,h1,_⟩:=h.ow k d2 e2;rw[h1]at z;cases z;exact hp k p h1 rfl d2 e2
 refine⟨h.g,λj d' e=>?_,λj d' e=>?_,λj k d1 d2 hn e1 e2=>?_,by simp[h.ln],h.ex.upd (λj s e=>?_) (aG.refl _) (λa vs _ e=>e) λp us _ h0 hp _=>⟨hp,h0⟩⟩
 rotate_left 3
 .rcases key j _ e with⟨rfl,e',hl⟩|⟨hj,e'⟩
  .exact .inr (.inr (.inr ⟨.lst ds,p,e',by rw[Vg hl],hx⟩))
  .exact .inl ⟨e',by rw[UE (Vj hj)]⟩
 .rcases key j _ e with⟨rfl,e',hl⟩|⟨hj,e'⟩
  .cases e'
  .obtain⟨v',h1,h2⟩:=h.rd j d' e'
   exact⟨v',by rw[UE (Vj hj)];exact h1,h2⟩
 .rcases key j _ e with⟨rfl,e',hl⟩|⟨hj,e'⟩
  .cases e'
   exact⟨p,by rw[Vg hl],he,h0,vs,hv,r⟩
  .obtain⟨a,h1,h2⟩:=h.ow j d' e'
   exact⟨a,by rw[UE (Vj hj)];exact h1,h2⟩
 .rcases key j _ e1 with⟨rfl,_,hl⟩|⟨hj,e1'⟩
  .rcases key k _ e2 with⟨rfl,_,_⟩|⟨hk,e2'⟩
   .exact absurd rfl hn
   .rw[Vg hl,UE (Vj hk)]
    exact other k d2 hk e2'
  .rcases key k _ e2 with⟨rfl,_,hl⟩|⟨hk,e2'⟩
   .rw[Vg hl,UE (Vj hj)]
    exact λz=>other j d1 hj e1' z.symm
   .rw[UE (Vj hj),UE (Vj hk)]
    exact h.ap j k d1 d2 hn e1' e2'
def fj.fresh_x{H01:Hp}{p:Uy}(h:fj K He η Ha σ H ρ)(s:aG H H1)(hp:H p=none):∀(i j:Nat) (ds:ac) (a:Uy) (P:Nat->Uy),ρ[i]?=some (.ox j ds)->σ[i]?=some (some (.ref a))->RU K He H01 H1 a j ds P->∀l,vN j l=true->p≠P l:=λi j ds a P x1 x2 x3 l ol=>by
 obtain⟨a2,P2,y1,⟨vs2,_,z3,_,y4,_⟩,_⟩:=h.ex.1 i j ds x1;rw[x2]at y1;cases y1;obtain⟨vs1,_,z1,_,y5,_⟩:=x3;have:=s _ _ z3;rw[z1]at this;cases this;obtain⟨_,us2,_,_,_,z4,z5,_⟩:=y4 l ol;obtain⟨_,_,_,_,_,z2,_⟩:=y5 l ol;rw[z2]at z4;injection z4 with z4;injection z4 with z4;intro z;rw[←z4,←z,hp]at z5;cases z5
def fj.write(h:fj K He η Ha σ H ρ)(e:ρ[i]?=some (.ow d))(es:σ[i]?=some (some (.ref p)))(r:Reps K Ha ds vs) :
  fj K He η Ha σ (upd H p (.lst vs)) (ρ.set i (.ow (.lst ds))):=by
 obtain⟨a,h1,h2,h3,h4⟩:=h.ow i d e;rw[h1]at es;cases es;have hil:i<ρ.length:=(Ux.mp e).1;have key:∀(j:Nat) (s:Sl),(ρ.set i (.ow (.lst ds)))[j]?=some s->(j=i/\s=.ow (.lst ds))∨(j≠i/\ρ[j]?=some s):=λj s e=>by
  by_cases hj:i=j
  .subst hj
   rw[Vg hil]at e;cases e;exact .inl ⟨rfl,rfl⟩
  .rw[UE hj]at e
   exact .inr ⟨λz=>hj z.symm,e⟩
 refine⟨⟨λb o eb=>?_,h.g.z,λb o eb=>?_,h.g.nw⟩,λj d' e'=>?_,λj d' e'=>?_,λj k d1 d2 hn e1 e2=>?_,by simp[h.ln],h.ex.upd (λj s e'=>?_) (aG.refl _) (λb us _ eb=>?_) λq us _ q0 hq hd=>?_⟩
 rotate_left 5
 .rcases key j _ e' with⟨rfl,e''⟩|⟨hj,e''⟩
  .exact .inr (.inr (.inr ⟨.lst ds,p,e'',h1,λi' j' ds' a' P' x1 x2 x3 l ol=>by
    obtain⟨a2,P2,y1,y2,y3,_⟩:=h.ex.1 i' j' ds' x1;rw[x2]at y1;cases y1;have:P2 l=P' l:=by
     obtain⟨vs1,_,z1,_,y5,_⟩:=x3;obtain⟨vs2,_,z3,_,y4,_⟩:=y2;rw[z1]at z3;cases z3;obtain⟨_,_,_,_,_,z2,_⟩:=y5 l ol;obtain⟨_,_,_,_,_,z4,_⟩:=y4 l ol;rw[z2]at z4;injection z4 with z4;injection z4 with z4;exact z4.symm
    rw[←this];intro zz;rw[zz]at h1;exact y3 j d l ol e h1⟩))
  .exact .inl ⟨e'',rfl⟩
 .rw[aA (by
   intro z;subst z;cases d with
   |lst ds'|dic ks ds'=>obtain⟨vs',h5,_⟩:=h4;rw[h5]at eb;cases eb
   |_=>exact h4)];exact eb
 .have hq':q≠p:=by
   intro z;subst z;exact hd i d e h1
  exact⟨by rw[aA hq'];exact hq,q0⟩
 .rw[aA (by intro z;subst z;rw[h2]at eb;cases eb)];exact h.g.s _ _ eb
 .rw[aA (by intro z;subst z;rw[h3]at eb;cases eb)];exact h.g.sub _ _ eb
 .rcases key j _ e' with⟨rfl,e''⟩|⟨hj,e''⟩
  .cases e''
  .exact h.rd j d' e''
 .rcases key j _ e' with⟨rfl,e''⟩|⟨hj,e''⟩
  .cases e''
   exact⟨p,h1,h2,h3,vs,aE,r⟩
  .obtain⟨b,k1,k2,k3,k4⟩:=h.ow j d' e''
   refine⟨b,k1,k2,k3,?_⟩;have hb:b≠p:=by
    intro z;subst z;exact h.ap j i d' d hj e'' e (by rw[k1,h1])
   cases d' with
   |lst ds'=>
    obtain⟨vs',h5,h6⟩:=k4;exact⟨vs',by rw[aA hb];exact h5,h6⟩
   |dic ks ds'=>
    obtain⟨vs',h5,hl,h6⟩:=k4;exact⟨vs',by rw[aA hb];exact h5,hl,h6⟩
   |_=>exact k4.elim
 .rcases key j _ e1 with⟨rfl,e1'⟩|⟨hj,e1'⟩
  .rcases key k _ e2 with⟨rfl,_⟩|⟨hk,e2'⟩
   .exact absurd rfl hn
   .exact h.ap j k d d2 hn e e2'
  .rcases key k _ e2 with⟨rfl,_⟩|⟨hk,e2'⟩
   .exact h.ap j k d1 d hn e1' e
   .exact h.ap j k d1 d2 hn e1' e2'
end
mutual
def n6:D->Bool
 |.lst _=>false
 |.dic _ _=>false
 |.exc _=>false
 |.ob _ _=>false
 |.tup ds=>flats ds
 |_=>true
def flats:ac->Bool
 |[]=>true
 |d::ds=>n6 d&&flats ds
end
mutual
theorem Rep.flat_to{K:Ur}{H H':Hp}(e:∀a vs,Rd H a (.tup vs)->Rd H' a (.tup vs)):∀{d:D}{v:V},n6 d=true->Rep K H d v->Rep K H' d v
 |.non,_,_,h=>by unfold Rep at h ⊢;exact h
 |.bl _,_,_,h=>by unfold Rep at h ⊢;exact h
 |.int _,_,_,h=>by unfold Rep at h ⊢;exact h
 |.str _,_,_,h=>by unfold Rep at h ⊢;exact h
 |.tup ds,_,f,h=>by
  unfold n6 at f;obtain⟨a,vs,e1,e2,e3⟩:=aQ.mp h;refine aQ.mpr ⟨a,vs,e1,?_,Reps.flat_to e f e3⟩;rcases e2 with e2|e2
  .exact .inl (e _ _ e2)
  .exact .inr e2
 |.lst ds,_,f,h=>by unfold n6 at f;cases f
 |.dic ks ds,_,f,h=>by unfold n6 at f;cases f
 |.exc x,_,f,h=>by unfold n6 at f;cases f
 |.ob k ds,_,f,h=>by unfold n6 at f;cases f
theorem Reps.flat_to{K:Ur}{H H':Hp}(e:∀a vs,Rd H a (.tup vs)->Rd H' a (.tup vs)):∀{ds:ac}{vs:al},flats ds=true->Reps K H ds vs->Reps K H' ds vs
 |[],_,_,h=>by unfold Reps at h ⊢;exact h
 |d::ds,_,f,h=>by
  unfold flats at f;rw[U7]at f;obtain⟨v,r,e1,e2,e3⟩:=aH.mp h;exact aH.mpr ⟨v,r,e1,Rep.flat_to e f.1 e2,Reps.flat_to e f.2 e3⟩
end
def gV(Ha J:Hp):Hp:=λa=>match Ha a with
 |some o=>some o
 |none=>match J a with
  |some (.tup vs)=>some (.tup vs)
  |some (.frz o (.tup vs))=>some (.frz o (.tup vs))
  |_=>none
section
variable {K:Ur}{E:XK}{He η Ha H H1 J:Hp}{σ:L2.St}{ρ:Ev}
def Ko(h:aG Ha J):∀a o,gV Ha J a=some o->J a=some o:=λa o e=>by
 unfold gV at e;cases q:Ha a with
 |some u=>rw[q]at e;cases e;exact h _ _ q
 |none=>
  rw[q]at e;cases q2:J a with
  |none=>rw[q2]at e;cases e
  |some u=>
   rw[q2]at e;cases u with
   |tup vs=>cases e;rfl
   |frz o u'=>
    cases u' with|tup vs=>cases e;rfl| _=>cases e
   |_=>cases e
def wU(h:aG Ha J)(a:Uy)(vs:al)(e:Rd J a (.tup vs)):Rd (gV Ha J) a (.tup vs):=by
 rcases e with e|⟨o,e⟩
 .refine .inl ?_
  unfold gV;cases q:Ha a with|some u=>have:=h _ _ q;rw[e]at this;cases this;rfl|none=>rw[e]
 .refine .inr ⟨o,?_⟩
  unfold gV;cases q:Ha a with|some u=>have:=h _ _ q;rw[e]at this;cases this;rfl|none=>rw[e]
def fj.behind(h:fj K He η Ha σ H ρ)(g:bI H (frz He Ha H) H1 J):fj K He η (gV Ha J) σ H1 ρ:=by
 have hJ:aG Ha J:=h.frz_sub.trans g.z;have le:=Ko (Ha:=Ha) (J:=J) hJ;have z:aG Ha (gV Ha J):=λb o e=>by unfold gV;rw[e]
 refine⟨⟨h.g.s.trans g.s,h.g.z.trans z,λb o e=>g.sub _ _ (le b o e),λa h1 h2=>?_⟩,h.rd.mono z,λi d e=>?_,h.ap,h.ln,h.ex.upd (λj s e=>.inl ⟨e,rfl⟩) z (λa vs _ e=>g.s _ _ e) λp us hp h0 hl _=>⟨g.s _ _ hl,by
  have:frz He Ha H p=some (.lst us):=by unfold frz;rw[hp];exact hl
  have:=g.z _ _ this;unfold gV;rw[h0,this]⟩⟩
 .cases q:gV Ha J a with
  |none=>exact absurd q h1
  |some o=>
   have hj:=le a o q;exact(h.frz_grow.trans g).nw a (by rw[hj];simp) h2
 .obtain⟨a,k1,k2,k3,k4⟩:=h.ow i d e
  refine⟨a,k1,k2,?_,?_⟩
  .cases d with
   |lst ds=>
    obtain⟨vs,h5,_⟩:=k4;have:frz He Ha H a=some (.lst vs):=by unfold frz;rw[k2];exact h5
    have:=g.z _ _ this;unfold gV;rw[k3,this]
   |dic ks ds=>
    obtain⟨vs,h5,_⟩:=k4;have:frz He Ha H a=some (.dK ((ks.map W5).zip vs)):=by unfold frz;rw[k2];exact h5
    have:=g.z _ _ this;unfold gV;rw[k3,this]
   |_=>exact k4.elim
  .cases d with
   |lst ds=>obtain⟨vs,h5,h6⟩:=k4;exact⟨vs,g.s _ _ h5,h6.mono z⟩
   |dic ks ds=>obtain⟨vs,h5,hl,h6⟩:=k4;exact⟨vs,g.s _ _ h5,hl,h6.mono z⟩
   |_=>exact k4.elim
end
section
variable {X:Cx}{E:XK}{He η:Hp}{st:V6}{rest:List V6}{e a b:Vl}{es:List Vl}{f g:am}{fa:Ev->ar (ac)}{s t:bd}{pos:Pos}
def b4{t t':TS}(h:PS X st t)(w:∀D σ H,t' D σ H->t D σ H):PS X st t':=λπ s σ H D I q=>h π s σ H D I (w D σ H q)
def fT{t t':TS}(h:vm X rest t)(w:∀D σ H,t' D σ H->t D σ H):vm X rest t':=λπ s σ H D I q=>h π s σ H D I (w D σ H q)
def au:bd:=λρ=>.ok (.nx ρ)
def aw(s t:bd):bd:=λρ=>(s ρ).bind λr=>match r with
 |.nx ρ'=>t ρ'
 |r=>.ok r
def ak:zk X E He η [] au:=⟨fT pV λD σ H ⟨Ha,ρ,h,q⟩=>q σ H Ha (aG.refl _) h⟩
def ai(h1:DS X E He η st s)(h2:zk X E He η rest t):zk X E He η (st::rest) (aw s t):=by
 refine⟨?_⟩;refine fT (ix h1.o h2.o) λD σ H z9=>?_;obtain⟨Ha,ρ,h,q⟩:=z9;refine⟨Ha,ρ,h,?_⟩
 unfold aw at q;cases e1:s ρ with
 |stuck|exn x=>rw[e1]at q;exact q
 |ok r=>
  rw[e1]at q;cases r with|nx ρ'=>exact λσ' H' Ha' s' h'=>⟨Ha',ρ',h',cG.grow (r:=t ρ') q s'⟩|rt d|bk ρ'|ct ρ'=>exact q
def dB:bd:=λ_=>.stuck
def da:DS X E He η st dB:=⟨b4 EO λD σ H ⟨Ha,ρ,h,q⟩=>q⟩
def plain{K:Ur}(h:fj K He η Ha σ H ρ) 
  (q:cG K E He η Ha (r.bind k) D')(hk:∀d v H' Ha',r=.ok d->bI H Ha H' Ha'->Rep K Ha' d v->cG K E He η Ha' (k d) D'->Q v H'):post K E H Ha r Q:=by
 cases r with|stuck=>exact q|exn x=>exact λC ox H' Ha' g ex=>q C ox H' Ha' (h.g.trans g) ex|ok d=>exact λv H' Ha' g rp=>hk d v H' Ha' rfl g rp (cG.grow (r:=k d) q g.z)
def look{K:Ur}(h:fj K He η Ha σ H ρ) 
  (q:cG K E He η Ha (r.bind k) D')(hk:∀d v H' J,r=.ok d->bI H (frz He Ha H) H' J->Rep K J d v->cG K E He η Ha (k d) D'->Q v H'):post K E H (frz He Ha H) r Q:=by
 cases r with|stuck=>exact q|exn x=>exact λC ox H' Ha' g ex=>q C ox H' Ha' (h.frz_grow.trans g) ex|ok d=>exact λv H' J g rp=>hk d v H' J rfl g rp q
def KO{K:Ur}{k:Bool->ar Fl}(h:fj K He η Ha σ H ρ) 
  (q:cG K E He η Ha (r.bind λx=>match x with|.bl b=>k b|_=>.stuck) D')(hk:∀b H',aG H H'->cG K E He η Ha (k b) D'->Q b H'):qF K E H (frz He Ha H) r Q:=by
 cases r with
 |stuck=>exact q|exn x=>exact λC ox H' Ha' g ex=>q C ox H' Ha' (h.frz_grow.trans g) ex
 |ok d=>
  cases d with|bl b=>exact λH' J g=>hk b H' g.s q| _=>exact q.elim
def bT(i:Nat)(f:am):bd:=λρ=>(f ρ).bind λd=>.ok (.nx (ρ.set i (.sh d)))
def A8(i:Nat)(f:am):bd:=λρ=>(f (shr ρ)).bind λd=>if n6 d=true then .ok (.nx (ρ.set i (.sh d))) else .stuck
def bE(f:am):bd:=λρ=>(f (shr ρ)).bind λd=>.ok (.rt d)
def fS(f:am):bd:=λρ=>(f (shr ρ)).bind λ_=>.ok (.nx ρ)
def dM(c:am)(s t:bd):bd:=λρ=>(c (shr ρ)).bind λx=>match x with
 |.bl b=>if b=true then s ρ else t ρ
 |_=>.stuck
def bB(hN:X.N.Nodup)(hi:X.N[i]?=some x)(hx:Cm X.env.scope x)(he:DE X E e f)(hs:VG e (some (.Name x pos')) pos.line X.env=pure false:=by rfl)
  (hf:X.fn x=true∨X.env.scope.names.lookup x=some .local := by first|exact .inl rfl|exact .inr rfl|assumption):DS X E He η (.Assign [.Name x pos'] e pos) (bT i f):=by
 refine⟨?_⟩;refine b4 (nP hN hi hx he.o hs hf) λD σ H z9=>?_;obtain⟨Ha,ρ,h,q⟩:=z9;refine⟨Ha,ρ,h.g.sub,h.rd,?_⟩
 refine plain h q λd v H' Ha' _ g rp q'=>?_;exact q' _ H' Ha' (aG.refl _) ((h.grow g).put rp)
def JY(hN:X.N.Nodup)(hi:X.N[i]?=some x)(hx:Cm X.env.scope x)(he:DE X E e f)(hs:VG e (some (.Name x pos')) pos.line X.env=pure false:=by rfl)
  (hf:X.fn x=true∨X.env.scope.names.lookup x=some .local := by first|exact .inl rfl|exact .inr rfl|assumption):DS X E He η (.Assign [.Name x pos'] e pos) (A8 i f):=by
 refine⟨?_⟩;refine b4 (nP hN hi hx he.o hs hf) λD σ H z9=>?_;obtain⟨Ha,ρ,h,q⟩:=z9;refine⟨frz He Ha H,shr ρ,h.frz_le,h.looks,?_⟩
 refine look h q λd v H' J _ g rp q'=>?_
 by_cases fl:n6 d=true
 .rw[if_pos fl]at q'
  have hJ:aG Ha J:=h.frz_sub.trans g.z;refine q' _ H' (gV Ha J) (λb o e=>by unfold gV;rw[e]) ((h.behind g).put (rp.flat_to (wU hJ) fl))
 .rw[if_neg fl]at q';exact q'.elim
def aS(he:DE X E e f):DS X E He η (.Return (some e) pos) (bE f):=by
 refine⟨?_⟩;refine b4 (vK he.o) λD σ H z9=>?_;obtain⟨Ha,ρ,h,q⟩:=z9;refine⟨frz He Ha H,shr ρ,h.frz_le,h.looks,?_⟩
 exact look h q λd v H' J _ g rp q'=>q' v H' J (h.frz_grow.trans g) rp
def er(he:DE X E e f)(hs:VG e none pos.line X.env=pure false:=by rfl):DS X E He η (.Expr e pos) (fS f):=by
 refine⟨?_⟩;refine b4 (pW he.o hs) λD σ H z9=>?_;obtain⟨Ha,ρ,h,q⟩:=z9;refine⟨frz He Ha H,shr ρ,h.frz_le,h.looks,?_⟩
 exact look h q λd v H' J _ g rp q'=>q' σ H' Ha (aG.refl _) (h.same g.s)
def bJ(hc:DT X E c fc)(ha:zk X E He η sa s)(hb:zk X E He η sb t):DS X E He η (.If c sa sb pos) (dM fc s t):=by
 refine⟨?_⟩;refine b4 (KH hc.o ha.o hb.o) λD σ H z9=>?_;obtain⟨Ha,ρ,h,q⟩:=z9;refine⟨frz He Ha H,shr ρ,h.frz_le,h.looks,?_⟩
 refine KO (k:=λb=>if b=true then s ρ else t ρ) h q λb H' hs q'=>?_;cases b with|true=>rw[if_pos rfl]at q' ⊢;exact⟨Ha,ρ,h.same hs,q'⟩|false=>rw[if_neg VO]at q' ⊢;exact⟨Ha,ρ,h.same hs,q'⟩
noncomputable def tF(K:Ur) (E:XK) (f:am):TE:=λσ H Q=>∃Ha ρ,aG Ha H/\Reads K Ha σ ρ/\match f ρ with
 |.ok (.lst ds)=>∀p vs H' Ha',bI H Ha H' Ha'->H p=none->Ha' p=none->H' p=some (.lst vs)->Reps K Ha' ds vs->Q (.ref p) H'
 |.ok _=>False
 |.exn x=>∀C ox H' Ha',bI H Ha H' Ha'->zc K Ha' x C ox->E C ox H'
 |.stuck=>False
structure DF (X:Cx) (E:XK) (e:Vl) (f:am):Prop where
 o:PE X e (tF X.K E f)
def jV(i:Nat)(f:am):bd:=λρ=>(f ρ).bind λd=>match d with
 |.lst ds=>.ok (.nx (ρ.set i (.ow (.lst ds))))
 |_=>.stuck
def gR(hN:X.N.Nodup)(hi:X.N[i]?=some x)(hx:Cm X.env.scope x)(he:DF X E e f)(hs:VG e (some (.Name x pos')) pos.line X.env=pure false:=by rfl)
  (hf:X.fn x=true∨X.env.scope.names.lookup x=some .local := by first|exact .inl rfl|exact .inr rfl|assumption):DS X E He η (.Assign [.Name x pos'] e pos) (jV i f):=by
 refine⟨?_⟩;refine b4 (nP hN hi hx he.o hs hf) λD σ H z9=>?_;obtain⟨Ha,ρ,h,q⟩:=z9;refine⟨Ha,ρ,h.g.sub,h.rd,?_⟩
 unfold jV at q;cases e1:f ρ with
 |stuck=>rw[e1]at q;exact q|exn x=>rw[e1]at q;exact λC ox H' Ha' g ex=>q C ox H' Ha' (h.g.trans g) ex
 |ok d=>
  rw[e1]at q;cases d with
  |lst ds=>
   intro p vs H' Ha' g hp h0 hv rp;refine q _ H' Ha' g.z ((h.grow g).putOwn (λj a ej ea d ed=>?_) (h.g.s.free hp) h0 hv rp (h.fresh_x g.s hp));subst ea;obtain⟨a',k1,_,_,k4⟩:=h.ow j d ed;rw[ej]at k1;cases k1;cases d with|lst ds'|dic ks ds'=>obtain⟨vs',h5,_⟩:=k4;rw[hp]at h5;cases h5| _=>exact k4.elim
  |_=>exact q.elim
def iL(h:DA X E es fa):DF X E (.List es pos) (ao fa b5):=by
 refine⟨?_⟩;refine bc (zI h.o) λσ H Q h=>?_;obtain⟨Ha,ρ,hs,hr,q⟩:=h;refine⟨Ha,ρ,hs,hr,?_⟩;unfold ao at q;cases e1:fa ρ with
 |stuck|exn x=>rw[e1]at q;exact q
 |ok ds=>
  rw[e1]at q;intro vs H1 H01 g1 r1;replace q:match b5 ds with
   |.ok (.lst ds)=>∀p vs H' Ha',bI H Ha H' Ha'->H p=none->Ha' p=none->H' p=some (.lst vs)->Reps X.K Ha' ds vs->Q (.ref p) H'
   |.ok _=>False
   |.exn x=>∀C ox H' Ha',bI H Ha H' Ha'->zc X.K Ha' x C ox->E C ox H'
   |.stuck=>False:=q
  unfold b5 at q
  by_cases hl:ds.length<=line
  .rw[if_pos hl]at q
   refine⟨by rw[←r1.length];exact eg hl,λp hp=>?_⟩;have h0:H01 p=none:=g1.sub.free hp;refine q p vs _ H01 (g1.trans ⟨λb o q=>by rw[aA (bo q hp)];exact q,aG.refl _,λb o q=>?_,λa h1 h2=>absurd h2 h1⟩) (g1.s.free hp) h0 aE r1;rw[aA (by intro z;subst z;rw[h0]at q;cases q)];exact g1.sub _ _ q
  .rw[if_neg hl]at q;exact q.elim
def Bp(ρ:Ev)(i:Nat)(k:ac->ar Fl):ar Fl:=match ρ[i]? with
 |some (.ow (.lst ds))=>k ds
 |_=>.stuck
def du(i:Nat)(f:am):bd:=λρ=>Bp ρ i λds=>(f ρ).bind λd=>if ds.length<line then .ok (.nx (ρ.set i (.ow (.lst (ds++[d]))))) else .stuck
def xY{K:Ur}(h:fj K He η Ha σ H ρ)(q:cG K E He η Ha (Bp ρ i k) D') :
  ∃ds p vs,ρ[i]?=some (.ow (.lst ds))/\σ[i]?=some (some (.ref p))/\He p=none/\Ha p=none/\H p=some (.lst vs)/\Reps K Ha ds vs/\cG K E He η Ha (k ds) D':=by
 unfold Bp at q;cases e:ρ[i]? with
 |none=>rw[e]at q;exact q.elim
 |some s=>
  rw[e]at q;cases s with
  |no|sh d|ox j ds|pt a=>exact q.elim
  |ow d=>
   cases d with
   |lst ds=>
    obtain⟨p,h1,h2,h3,vs,h4,h5⟩:=h.ow i _ e;exact⟨ds,p,vs,rfl,h1,h2,h3,h4,h5,q⟩
   |_=>exact q.elim
def gz(hN:X.N[i]?=some x)(hv:zj X.env.scope x)(he:DE X E e f)
  (hd:(x==("__debug__" : UP))=false:=by decide)(hcd:(x==("__classdict__" : UP))=false:=by decide)
  (hbase:Wf (.Name x p1) "append" X.env (eval (.Name x p1) X.env)=eval (.Name x p1) X.env:=by rfl)
  (hfew:((Vy p3 (Uw [e] X.env)).all (λx=>!x.1)&&(XO p3 (WM [] X.env)).all (λx=>x.1.isSome)
  &&decide ([e].length+([]:List Xh).length+(if([]:List Xh).isEmpty then 0 else 1)<30))=true:=by exact mX rfl)
  (hline:(p2.endLine==p3.line)=true:=by rfl) (hs:Uw [e] X.env=(false,eval e X.env)::Uw [] X.env:=by exact aT rfl) (hplain:(Vy p3 (Uw [] X.env)).any (·.1)=false:=by exact bK rfl)
  (hw:VG (.Call (.Attribute (.Name x p1) "append" p2) [e] [] p3) none pos.line X.env=pure false:=by rfl) :
  DS X E He η (.Expr (.Call (.Attribute (.Name x p1) "append" p2) [e] [] p3) pos) (du i f):=by
 refine⟨?_⟩;refine b4 (pW (Bl W2 YU YT nU (iy hN hv hd hcd) (dj he.o fU hs) hbase hfew hline hs hplain) hw) λD σ H ⟨Ha,ρ,h,q⟩=>?_;obtain⟨ds,p,vs,e1,e2,e3,e4,e5,e6,q⟩:=xY h q;refine⟨.ref p,e2,.inl ⟨rfl,vs,fM.of e5⟩,?_⟩;refine⟨Ha,ρ,h.g.sub,h.rd,plain h q λd v H' Ha' _ g rp q'=>?_⟩
 by_cases hl:ds.length<line
 .rw[if_pos hl]at q'
  have e5':H' p=some (.lst vs):=g.s _ _ e5;refine⟨p,vs,v,rfl,rfl,e5',by rw[←e6.length];exact UA hl (by decide),?_⟩;exact q' σ _ Ha' (aG.refl _) ((h.grow g).write e1 e2 ((e6.mono g.z).app (Reps.cons rp Reps.nil)))
 .rw[if_neg hl]at q';exact q'.elim
def putAt(ρ:Ev)(i:Nat)(ds:ac)(d:D)(j:D):ar Fl:=match j with
 |.int j=>match uK ds.length j with
  |some n=>.ok (.nx (ρ.set i (.ow (.lst (ds.set n d)))))
  |none=>.stuck
 |_=>.stuck
def Es(i:Nat)(f k:am):bd:=λρ=>Bp ρ i λds=>(f ρ).bind λd=>(k ρ).bind λj=>putAt ρ i ds d j
def EJ{K:Ur}(h:fj K He η Ha σ H ρ)(e1:ρ[i]?=some (.ow (.lst ds)))(e2:σ[i]?=some (some (.ref p)))(e5:H p=some (.lst vs))(e6:Reps K Ha ds vs)
  (rp:Rep K Ha d v)(rj:Rep K Ha j u)(q:cG K E He η Ha (putAt ρ i ds d j) D'):KG (.ref p) u v H λH'=>D'.nx σ H':=by
 unfold putAt at q;cases j with
 |int n=>
  cases en:uK ds.length n with
  |none=>simp only[en]at q;exact q.elim
  |some m=>
   simp only[en]at q;refine⟨p,vs,n,m,rfl,aB.mp rj,e5,by rw[←e6.length];exact en,?_⟩;exact q σ _ Ha (aG.refl _) (h.write e1 e2 (e6.set rp m))
 |_=>exact q.elim
section
variable {i:Nat}{x:UP}{p1 p2:Pos}{k:am}
def Ny(hN:X.N[i]?=some x)(hv:zj X.env.scope x)(he:DE X E e f)(hk:DE X E b k)
  (hd:(x==("__debug__" : UP))=false:=by decide)(hcd:(x==("__classdict__" : UP))=false:=by decide)
  (ha:∀v,assign (.Subscript (.Name x p1) b p2) X.env v=(do
   let ov ←WK [v] (eval (.Name x p1) X.env)
   let iv ←WK [v,ov] (eval b X.env)
   standAt p2
   WK [v,ov,iv] (setItem ov iv v)
   release [v,ov,iv] []):=by intro _;rfl)
  (hs:swapsWithSole [.Subscript (.Name x p1) b p2] e pos.line X.env=pure false:=by rfl) (hw:swappedStores [.Subscript (.Name x p1) b p2] e X.env=pure none:=by rfl)
  (h1:(assignEach [.Subscript (.Name x p1) b p2] X.env).map (·.2)=[assign (.Subscript (.Name x p1) b p2) X.env]:=by rfl) :
  DS X E He η (.Assign [.Subscript (.Name x p1) b p2] e pos) (Es i f k):=by
 refine⟨?_⟩;refine b4 (vM he.o (EV (iy hN hv hd hcd) hk.o xF ha) hs hw h1) λD σ H z9=>?_;obtain⟨Ha,ρ,h,q⟩:=z9;refine⟨Ha,ρ,h.g.sub,h.rd,?_⟩
 obtain⟨ds,p,vs,e1,e2,e3,e4,e5,e6,q⟩:=xY h q;refine plain (k:=λd=>(k ρ).bind λj=>putAt ρ i ds d j) h q λd v H1 H01 _ g1 r1 q1=>⟨.ref p,e2,?_⟩
 have h1':=h.grow g1;refine⟨H01,ρ,h1'.g.sub,h1'.rd,plain (k:=λj=>putAt ρ i ds d j) h1' q1 λj u H2 H02 _ g2 r2 q2=>?_⟩;exact EJ (h1'.grow g2) e1 e2 (g2.s _ _ (g1.s _ _ e5)) ((e6.mono g1.z).mono g2.z) (r1.mono g2.z) r2 q2
end
noncomputable def b7(tg:Ev->D->ar Ev) (body:bd):ac->bd
 |[],ρ=>.ok (.nx ρ)
 |d::r,ρ=>(tg ρ d).bind λρ1=>(body ρ1).bind λx=>match x with
  |.nx ρ2=>b7 tg body r ρ2
  |.ct ρ2=>b7 tg body r ρ2
  |.bk ρ2=>.ok (.nx ρ2)
  |.rt d=>.ok (.rt d)
def tG(K:Ur)(He η:Hp)(tg:Ev->D->ar Ev):TG:=λv σ H Q=>∃Ha ρ d,fj K He η Ha σ H ρ/\Rep K Ha d v/\match tg ρ d with
  |.ok ρ'=>∀σ' H' Ha',aG Ha Ha'->fj K He η Ha' σ' H' ρ'->Q σ' H'
  |_=>False
structure DG (X:Cx) (E:XK) (He η:Hp) (target:Vl) (tg:Ev->D->ar Ev):Prop where
 o:PG X target (tG X.K He η tg)
def bU(i:Nat):Ev->D->ar Ev:=λρ d=>.ok (ρ.set i (.sh d))
def vO{t t':TG}(h:PG X tgt t)(w:∀v σ H Q,t' v σ H Q->t v σ H Q):PG X tgt t':=λπ s σ H v u Q I r q=>h π s σ H v u Q I r (w v σ H Q q)
def cC(hN:X.N.Nodup)(hi:X.N[i]?=some x)(hx:Cm X.env.scope x)(hf:X.fn x=true∨X.env.scope.names.lookup x=some .local := by first|exact .inl rfl|exact .inr rfl|assumption):DG X E He η (.Name x pos) (bU i) :=
 ⟨vO (Bj hN hi hx hf) λv σ H Q ⟨Ha,ρ,d,h,rp,q⟩=>q _ H Ha (aG.refl _) (h.put rp)⟩
def g6(K:Ur)(E:XK)(He η Hb:Hp)(tg:Ev->D->ar Ev)(s:bd)(ds:ac)(D':kE)(i:Nat)(σ:L2.St)(H:Hp):Prop :=
 ∃Ha ρ,aG Hb Ha/\fj K He η Ha σ H ρ/\cG K E He η Ha (b7 tg s (ds.drop i) ρ) D'
def g6.step{K:Ur}(h:g6 K E He η Hb tg s ds D' i σ H)(hd:ds[i]?=some d)(rv:Rep K Hb d v)
  (he:∀ρ,tg ρ d=.stuck∨∃ρ',tg ρ d=.ok ρ') :
  tG K He η tg v σ H λσ2 H2=>tS K E He η s { D' with nx:=g6 K E He η Hb tg s ds D' (i+1),ct:=g6 K E He η Hb tg s ds D' (i+1),bk:=D'.nx } σ2 H2:=by
 obtain⟨Ha,ρ,z,h,q⟩:=h;have hi:i<ds.length:=(Ux.mp hd).1;have hdr:ds.drop i=d::ds.drop (i+1):=by
  rw[Vk hi];rw[Ut hi]at hd;cases hd;rfl
 rw[hdr]at q;refine⟨Ha,ρ,d,h,rv.mono z,?_⟩;unfold b7 at q;rcases he ρ with e1|⟨ρ1,e1⟩
 .rw[e1]at q;exact q.elim
 .rw[e1]at q ⊢
  intro σ' H' Ha' z' h';refine⟨Ha',ρ1,h',?_⟩;replace q:=cG.grow (r:=(s ρ1).bind λx=>match x with
   |.nx ρ2=>b7 tg s (ds.drop (i+1)) ρ2
   |.ct ρ2=>b7 tg s (ds.drop (i+1)) ρ2
   |.bk ρ2=>.ok (.nx ρ2)
   |.rt d=>.ok (.rt d)) q z'
  cases e2:s ρ1 with
  |stuck|exn x=>rw[e2]at q;exact q
  |ok r=>
   rw[e2]at q;cases r with|nx ρ2=>exact λσ3 H3 H03 z3 h3=>⟨H03,ρ2,(z.trans z').trans z3,h3,cG.grow (r:=b7 tg s (ds.drop (i+1)) ρ2) q z3⟩|ct ρ2=>exact λσ3 H3 H03 z3 h3=>⟨H03,ρ2,(z.trans z').trans z3,h3,cG.grow (r:=b7 tg s (ds.drop (i+1)) ρ2) q z3⟩|bk ρ2|rt d=>exact q
def g6.done{K:Ur}(h:g6 K E He η Hb tg s ds D' ds.length σ H):D'.nx σ H:=by
 obtain⟨Ha,ρ,z,h,q⟩:=h;rw[Wu]at q;unfold b7 at q;exact q σ H Ha (aG.refl _) h
def vi(tg:Ev->D->ar Ev):Prop:=∀ρ d,tg ρ d=.stuck∨∃ρ',tg ρ d=.ok ρ'
def dk:vi (bU i):=λρ d=>.inr ⟨_,rfl⟩
def vG(f:am)(tg:Ev->D->ar Ev)(s:bd):bd:=λρ=>(f ρ).bind λd=>match d with
 |.lst ds=>b7 tg s ds ρ
 |_=>.stuck
def Aw(hp:PassesOwn (UT X.prog X.w) X.A X.env X.xe)(hc:X.calm=true)(hi:DE X E iter f)(hg:DG X E He η tgt tg)(ht:vi tg)(hb:zk X E He η body s)
  (hs:∀x,foldedSetIterable iter X.env x=pure x:=by intro _;rfl):DS X E He η (.For tgt iter body [] pos) (vG f tg s):=by
 refine⟨?_⟩;refine b4 (vL hp hc (Bi hi.o) hg.o hb.o hs) λD' σ H z9=>?_;obtain⟨Ha,ρ,h,q⟩:=z9;refine⟨Ha,ρ,h.g.sub,h.rd,?_⟩
 refine plain h q λd v H1 H01 _ g rp q1=>?_;cases d with
 |lst ds=>
  obtain⟨a,vs,rfl,hv,hr⟩:=aJ.mp rp;refine⟨a,rfl,⟨vs,aG.sqL g.sub hv⟩,?_⟩;refine FJ (K:=X.K) (a:=a) (g:=tG X.K He η tg) (tb:=tS X.K E He η s) (D:=D') (xs:=vs) (g6 X.K E He η H01 tg s ds D') ⟨H01,ρ,aG.refl _,h.grow g,q1⟩ ?_ ?_ ?_
  .rintro i σ' H' _ ⟨Ha',ρ',z,h',_⟩
   exact aG.sqL (z.trans h'.g.sub) hv
  .intro i x σ' H' hx hI
   have hil:i<ds.length:=by rw[hr.length];exact(Ux.mp hx).1
   obtain⟨u,e1,e2⟩:=hr.get (Ut hil);rw[hx]at e1;cases e1;exact hI.step (Ut hil) e2 λρ=>ht ρ _
  .intro σ' H' hI
   rw[←hr.length]at hI;exact hI.done
 |_=>exact q1.elim
def intsFrom(lo:Int)(n:Nat):ac:=(Vv n).map λ(k:Nat)=>D.int (lo+(k:Int))
def oB(f:am)(tg:Ev->D->ar Ev)(s:bd):bd:=λρ=>(f (shr ρ)).bind λd=>match d with
 |.int j=>if -4611686018427387904<=j/\j<4611686018427387904 then b7 tg s (intsFrom 0 j.toNat) ρ else .stuck
 |_=>.stuck
def m7(hp:PassesOwn (UT X.prog X.w) X.A X.env X.xe)(hc:X.calm=true)(hgl:Gl X "range")(hm:X.mg "range"=none)(hi:DE X E iter f)(hg:DG X E He η tgt tg)(ht:vi tg)(hb:zk X E He η body s)
  (hst:Uw [iter] X.env=[(false,eval iter X.env)]:=by exact fO rfl)(hs:∀x,foldedSetIterable (.Call (.Name "range" p) [iter] [] pos2) X.env x=pure x:=by intro _;rfl):DS X E He η (.For tgt (.Call (.Name "range" p) [iter] [] pos2) body [] pos) (oB f tg s):=by
 refine⟨?_⟩;refine b4 (vL hp hc (nQ hgl hm (dj hi.o fU hst) hst) hg.o hb.o hs) λD' σ H ⟨Ha,ρ,h,q⟩=>?_;refine⟨frz He Ha H,shr ρ,h.frz_le,h.looks,look h q λd v H1 J _ g rp q1=>?_⟩;cases d with
 |int j=>
  rw[aB.mp rp];replace q1:cG X.K E He η Ha (if -4611686018427387904<=j/\j<4611686018427387904 then b7 tg s (intsFrom 0 j.toNat) ρ else .stuck) D':=q1
  by_cases hj:-4611686018427387904<=j/\j<4611686018427387904
  .rw[if_pos hj]at q1
   refine⟨j,rfl,by omega,by omega,?_⟩;have hlen:(intsFrom 0 j.toNat).length=j.toNat:=by unfold intsFrom;simp
   refine C8 (lo:=0) (n:=j.toNat) (g:=tG X.K He η tg) (tb:=tS X.K E He η s) (D:=D') (g6 X.K E He η Ha tg s (intsFrom 0 j.toNat) D') ⟨Ha,ρ,aG.refl _,h.same g.s,q1⟩ ?_ ?_
   .intro i σ' H' hlt hI
    refine hI.step (d:=.int (0+i)) ?_ (aB.mpr rfl) λρ=>ht ρ _;unfold intsFrom;simp[hlt]
   .intro σ' H' hI
    exact g6.done (ds:=intsFrom 0 j.toNat) (by rw[hlen];exact hI)
  .rw[if_neg hj]at q1;exact q1.elim
 |_=>exact q1.elim
noncomputable def cS(c:am) (s:bd):Nat->bd
 |0,_=>.stuck
 |n+1,ρ=>(c (shr ρ)).bind λx=>match x with
  |.bl b=>if b=true then(s ρ).bind λx=>match x with
    |.nx ρ2=>cS c s n ρ2
    |.ct ρ2=>cS c s n ρ2
    |.bk ρ2=>.ok (.nx ρ2)
    |.rt d=>.ok (.rt d)
   else .ok (.nx ρ)
  |_=>.stuck
def jT(fuel:Ev->Nat)(c:am)(s:bd):bd:=λρ=>cS c s (fuel ρ) ρ
def rW(fuel:Ev->Nat)(hp:PassesOwn (UT X.prog X.w) X.A X.env X.xe)(hc:DT X E c fc)(hb:zk X E He η body s):DS X E He η (.While c body [] pos) (jT fuel fc s):=by
 refine⟨?_⟩;refine b4 (EN hp hc.o hb.o) λD' σ H ⟨Ha,ρ,h,q⟩=>?_;refine⟨λm σ H=>∃Ha ρ,fj X.K He η Ha σ H ρ/\cG X.K E He η Ha (cS fc s m ρ) D',⟨fuel ρ,Ha,ρ,h,q⟩,?_⟩;rintro m σ1 H1 ⟨H01,ρ1,h1,q1⟩;cases m with
 |zero=>exact q1.elim
 |succ m=>
  refine⟨frz He H01 H1,shr ρ1,h1.frz_le,h1.looks,?_⟩;unfold cS at q1;refine KO (k:=λb=>if b=true then(s ρ1).bind λx=>match x with
    |.nx ρ2=>cS fc s m ρ2
    |.ct ρ2=>cS fc s m ρ2
    |.bk ρ2=>.ok (.nx ρ2)
    |.rt d=>.ok (.rt d)
   else .ok (.nx ρ1)) h1 q1 λb H2 hs q2=>?_
  cases b with
  |false=>
   rw[if_neg VO]at q2 ⊢;exact q2 σ1 H2 H01 (aG.refl _) (h1.same hs)
  |true=>
   rw[if_pos rfl]at q2 ⊢;refine⟨λσ' H'=>∃m',m' < m+1/\∃Ha ρ,fj X.K He η Ha σ' H' ρ/\cG X.K E He η Ha (cS fc s m' ρ) D',λσ' H' z=>z,H01,ρ1,h1.same hs,?_⟩;cases e2:s ρ1 with
   |stuck|exn x=>rw[e2]at q2;exact q2
   |ok r=>
    rw[e2]at q2;cases r with|nx ρ2=>exact λσ3 H3 H03 z3 h3=>⟨m,WT _,H03,ρ2,h3,cG.grow (r:=cS fc s m ρ2) q2 z3⟩|ct ρ2=>exact λσ3 H3 H03 z3 h3=>⟨m,WT _,H03,ρ2,h3,cG.grow (r:=cS fc s m ρ2) q2 z3⟩|bk ρ2|rt d=>exact q2
end
def ck(n:Nat)(s:bd)(ds:ac):ar D:=(s (ds.map Sl.sh++UJ (n-ds.length) .no)).bind λr=>match r with
 |.nx _=>.ok .non
 |.rt d=>.ok d
 |_=>.stuck
def kJ{K:Ur}(h:Reps K Ha ds vs):Reads K Ha (start N vs) (ds.map Sl.sh++UJ (N.length-ds.length) .no):=by
 intro i d e;have hl:=h.length
 by_cases hi:i<ds.length
 .rw[UQ (by simpa using hi),UK]at e
  cases q:ds[i]? with
  |none=>rw[q]at e;cases e
  |some d'=>
   rw[q]at e;cases e;obtain⟨v,h1,h2⟩:=h.get q;refine⟨v,?_,h2⟩;unfold L2.start;rw[UQ (by simp;omega),UK,h1];rfl
 .rw[UW (by simpa using hi),U5]at e
  split at e<;>cases e
def nL{ds:ac}(i j:Nat)(es:ac):(ds.map Sl.sh++UJ n Sl.no)[i]?≠some (.ox j es):=λe=>by
 have:=UX e;rw[U6]at this;rcases this with h|h
 .obtain⟨_,_,h⟩:=U4.mp h;cases h
 .have:=Y0 h;cases this
def l4{ds:ac}{σ:L2.St}(i:Nat)(a:Uy)(e:(ds.map Sl.sh++UJ n Sl.no)[i]?=some (.pt a)):σ[i]?=some (some (.ref a)):=by
 have:=UX e;rw[U6]at this;rcases this with h|h
 .obtain⟨_,_,h⟩:=U4.mp h;cases h
 .have:=Y0 h;cases this
def C9{K:Ur}{st:V6}{N ps:bi}(F:DD K x qual st f fd)(S:fv N ps (defScope st))
  (hbody:∀(cdv:Up) (A:Vn) (outer:List VW) (s0:UD) (H Ha:Hp) (E:XK),di k (A.deeper (envOfC qual (defScope st) s0.heap.objs.size f cdv)) ->
   zk (gk CX0 P w K mg base N qual (defScope st) f cdv A outer s0 H E).nox E H Ha (defBody st) s):FnOk P w K mg base CX0 (k+1) f fd ps (spD K ps.length (ck N.length s)):=by
 have hpl:ps.length<=N.length:=by have:=congrArg Xm S.pre;rw[VA]at this;omega
 refine F.ok S (λvs H Q E h=>h.1) λcdv A outer s0 H vs Q E hr h=>?_;obtain⟨hn,Ha,ds,hs,hv,q⟩:=h;refine⟨_,(hbody cdv A outer s0 H Ha E hr).o,Ha,ds.map Sl.sh++UJ (N.length-ds.length) .no,?_,?_⟩
 .refine⟨bI.refl hs,kJ hv,λi d e=>?_,λi j d d' hij e=>?_,?_,OX.none nL l4⟩
  .by_cases hi:i<ds.length
   .rw[UQ (by simpa using hi),UK]at e
    cases q:ds[i]? with|none|some d'=>rw[q]at e;cases e
   .rw[UW (by simpa using hi),U5]at e
    split at e<;>cases e
  .by_cases hi:i<ds.length
   .rw[UQ (by simpa using hi),UK]at e
    cases q:ds[i]? with|none|some d'=>rw[q]at e;cases e
   .rw[UW (by simpa using hi),U5]at e
    split at e<;>cases e
  .unfold L2.start
   have:=hv.length;simp only[U0,Us,Vx];omega
 .unfold ck at q
  cases e1:s (ds.map Sl.sh++UJ (N.length-ds.length) .no) with
  |stuck|exn x=>rw[e1]at q;exact q
  |ok r=>
   rw[e1]at q;cases r with|nx ρ'=>exact λσ' H' Ha' _ h'=>q .non H' Ha' h'.g (aZ.mpr rfl)|rt d=>exact λv H' Ha' g rp=>q v H' Ha' g rp|bk ρ'|ct ρ'=>exact q.elim
mutual
def c8:D->D->Bool
 |.non,.non=>true
 |.bl a,.bl b=>a==b
 |.bl a,.int b=>(if a then 1 else 0)==b
 |.int a,.bl b=>a==(if b then 1 else 0)
 |.int a,.int b=>a==b
 |.str a,.str b=>a==b
 |.tup xs,.tup ys=>eqDs xs ys
 |.lst xs,.lst ys=>eqDs xs ys
 |_,_=>false
def eqDs:ac->ac->Bool
 |[],[]=>true
 |x::xs,y::ys=>c8 x y&&eqDs xs ys
 |_,_=>false
end
def bC:Nat->D->Bool
 |_,.non=>true
 |_,.bl _=>true
 |_,.int _=>true
 |_,.str _=>true
 |n+1,.tup ds=>ds.all (bC n)
 |n+1,.lst ds=>ds.all (bC n)
 |_,_=>false
def uR(h:∀d∈ds,c8 d d=true):eqDs ds ds=true:=by
 induction ds with
 |nil=>simp[eqDs]
 |cons d r ih=>
  unfold eqDs;rw[h d UU,ih λx hx=>h x (UH _ hx)];rfl
theorem m5:∀(n:Nat) (d:D),bC n d=true->c8 d d=true
 |_,.non,_=>by simp[c8]
 |_,.bl b,_=>by simp[c8]
 |_,.int b,_=>by simp[c8]
 |_,.str b,_=>by simp[c8]
 |n+1,.tup ds,h=>by
  unfold bC at h;unfold c8;exact uR λd hd=>m5 n d (Va.mp h d hd)
 |n+1,.lst ds,h=>by
  unfold bC at h;unfold c8;exact uR λd hd=>m5 n d (Va.mp h d hd)
 |0,.tup ds,h=>by unfold bC at h;cases h
 |0,.lst ds,h=>by unfold bC at h;cases h
 |0,.dic ks ds,h=>by unfold bC at h;cases h
 |n+1,.dic ks ds,h=>by unfold bC at h;cases h
 |0,.exc x,h=>by unfold bC at h;cases h
 |0,.ob k x,h=>by unfold bC at h;cases h
 |n+1,.ob k x,h=>by unfold bC at h;cases h
 |n+1,.exc x,h=>by unfold bC at h;cases h
def JF:c8 (.tup xs) (.tup ys)=eqDs xs ys:=by rw[c8]
def wA:c8 (.lst xs) (.lst ys)=eqDs xs ys:=by rw[c8]
theorem mh:∀(xs ys:ac),xs.length=ys.length->eqDs xs ys=(Vv xs.length).all λj=>c8 (xs.getD j .non) (ys.getD j .non)
 |[],[],_=>by simp[eqDs]
 |x::xs,y::ys,h=>by
  have ih:=mh xs ys (by simpa using h);unfold eqDs;rw[ih,UZ,XT,WV,Yp];rfl
 |[],_::_,h=>by simp at h
 |_::_,[],h=>by simp at h
theorem rV:∀(xs ys:ac),xs.length≠ys.length->eqDs xs ys=false
 |[],[],h=>absurd rfl h
 |x::xs,y::ys,h=>by
  unfold eqDs;rw[rV xs ys (by simpa using h),YQ]
 |[],_::_,h=>by simp[eqDs]
 |_::_,[],h=>by simp[eqDs]
section
variable {X:Cx}{π:List (Uy×Obj)}{σ:L2.St}{H:Hp}{s:UD}
def bH(I:Inv X π σ H s)(r:Rep X.K H (.tup ds) v)(rv:b3 v u):∃a vs its,v=.ref a/\u=.ref a/\kC X.K H a vs/\Reps X.K H ds vs/\bz vs its/\IsTup s.heap a its.toArray/\ds.length=its.length:=by
 obtain⟨a,vs,rfl,h1,h2⟩:=aQ.mp r;obtain rfl:u=Ve a:=rv;obtain⟨its,h3,h4,_⟩:=I.tuple h1;exact⟨a,vs,its,rfl,rfl,h1,h2,h3,h4,h2.length.trans h3.length⟩
def br(I:Inv X π σ H s)(r:Rep X.K H (.lst ds) v)(rv:b3 v u):∃a vs its,v=.ref a/\u=.ref a/\fM X.K H a vs/\Reps X.K H ds vs/\bz vs its/\s.heap.IsList a its.toArray/\ds.length=its.length:=by
 obtain⟨a,vs,rfl,h1,h2⟩:=aJ.mp r;obtain rfl:u=Ve a:=rv;obtain⟨its,h3,h4,_⟩:=I.list h1;exact⟨a,vs,its,rfl,rfl,h1,h2,h3,h4.isList,h2.length.trans h3.length⟩
theorem qA{n:Nat}(ih:∀(d d':D) (v:V),bC n d=true->bC n d'=true->Rep X.K H d v->Rep X.K H d' v->d=d'):∀(ds ds':ac) (vs:al),ds.all (bC n)=true->ds'.all (bC n)=true->Reps X.K H ds vs->Reps X.K H ds' vs->ds=ds'
 |[],ds',vs,_,_,h,h'=>by
  rw[Reps.nil_iff.mp h]at h';cases ds' with|nil=>rfl|cons d r=>obtain⟨_,_,e,_⟩:=aH.mp h';cases e
 |d::ds,ds',vs,a,a',h,h'=>by
  obtain⟨v,r,rfl,h1,h2⟩:=aH.mp h;cases ds' with
  |nil=>cases Reps.nil_iff.mp h'
  |cons d' ds'=>
   obtain⟨v',r',e,h1',h2'⟩:=aH.mp h';cases e;rw[WV,U7]at a a';rw[ih d d' v a.1 a'.1 h1 h1',qA ih ds ds' r a.2 a'.2 h2 h2']
def Rep.inj(I:Inv X π σ H s):∀(n:Nat) (d d':D) (v:V),bC n d=true->bC n d'=true->Rep X.K H d v->Rep X.K H d' v->d=d':=by
 have atom:∀(n:Nat) (d d':D) (v:V),(∀ds,d≠.tup ds)->(∀ds,d≠.lst ds)->bC n d=true->bC n d'=true->Rep X.K H d v->Rep X.K H d' v->d=d':=by
  intro n d d' v n1 n2 s1 s2 h h';have nd:∀m ks ds,bC m (.dic ks ds)=true->False:=λm ks ds h=>by cases m<;>(unfold bC at h;cases h)
  have nx:∀m x,bC m (.exc x)=true->False:=λm x h=>by cases m<;>(unfold bC at h;cases h)
  have nb:∀m k x,bC m (.ob k x)=true->False:=λm k x h=>by cases m<;>(unfold bC at h;cases h)
  cases d with
  |tup ds=>exact absurd rfl (n1 ds)|lst ds=>exact absurd rfl (n2 ds)|dic ks ds=>exact(nd _ _ _ s1).elim|exc x=>exact(nx _ _ s1).elim|ob k x=>exact(nb _ _ _ s1).elim
  |non=>
   rw[aZ.mp h]at h';cases d' with|non=>rfl|bl b=>cases aL.mp h'|int b=>cases aB.mp h'|str b=>cases Rep.str_iff.mp h'|tup ds=>obtain⟨_,_,e,_⟩:=aQ.mp h';cases e|lst ds=>obtain⟨_,_,e,_⟩:=aJ.mp h';cases e|dic ks ds=>exact(nd _ _ _ s2).elim|exc x=>exact(nx _ _ s2).elim|ob k x=>exact(nb _ _ _ s2).elim
  |bl x=>
   rw[aL.mp h]at h';cases d' with|non=>cases aZ.mp h'|bl b=>cases aL.mp h';rfl|int b=>cases aB.mp h'|str b=>cases Rep.str_iff.mp h'|tup ds=>obtain⟨_,_,e,_⟩:=aQ.mp h';cases e|lst ds=>obtain⟨_,_,e,_⟩:=aJ.mp h';cases e|dic ks ds=>exact(nd _ _ _ s2).elim|exc x=>exact(nx _ _ s2).elim|ob k x=>exact(nb _ _ _ s2).elim
  |int x=>
   rw[aB.mp h]at h';cases d' with|non=>cases aZ.mp h'|bl b=>cases aL.mp h'|int b=>cases aB.mp h';rfl|str b=>cases Rep.str_iff.mp h'|tup ds=>obtain⟨_,_,e,_⟩:=aQ.mp h';cases e|lst ds=>obtain⟨_,_,e,_⟩:=aJ.mp h';cases e|dic ks ds=>exact(nd _ _ _ s2).elim|exc x=>exact(nx _ _ s2).elim|ob k x=>exact(nb _ _ _ s2).elim
  |str x=>
   rw[Rep.str_iff.mp h]at h';cases d' with|non=>cases aZ.mp h'|bl b=>cases aL.mp h'|int b=>cases aB.mp h'|str b=>cases Rep.str_iff.mp h';rfl|tup ds=>obtain⟨_,_,e,_⟩:=aQ.mp h';cases e|lst ds=>obtain⟨_,_,e,_⟩:=aJ.mp h';cases e|dic ks ds=>exact(nd _ _ _ s2).elim|exc x=>exact(nx _ _ s2).elim|ob k x=>exact(nb _ _ _ s2).elim
 intro n
 induction n with
 |zero=>
  intro d d' v s1 s2 h h';exact atom 0 d d' v (λds e=>by subst e;unfold bC at s1;cases s1) (λds e=>by subst e;unfold bC at s1;cases s1) s1 s2 h h'
 |succ n ih=>
  intro d d' v s1 s2 h h'
  by_cases t1:∃ds,d=.tup ds
  .obtain⟨ds,rfl⟩:=t1
   by_cases t2:∃ds',d'=.tup ds'
   .obtain⟨ds',rfl⟩:=t2
    obtain⟨a,vs,rfl,h1,h2⟩:=aQ.mp h;obtain⟨a',vs',e,h1',h2'⟩:=aQ.mp h';cases e;rw[I.tuple_inj h1' h1]at h2';unfold bC at s1 s2;rw[qA ih ds ds' vs s1 s2 h2 h2']
   .by_cases t3:∃ds',d'=.lst ds'
    .obtain⟨ds',rfl⟩:=t3
     obtain⟨a0,_,ev,_,_⟩:=aQ.mp h;subst ev;obtain⟨a,vs,its,ea,_,h1,h2,h3,h4,_⟩:=bH I h rfl;cases ea;obtain⟨a',vs',its',e,_,h1',h2',h3',h4',_⟩:=br I h' rfl;cases e;exact absurd rfl (Zi h4' h4)
    .exact(atom (n+1) d' _ v (λds e=>t2 ⟨ds,e⟩) (λds e=>t3 ⟨ds,e⟩) s2 s1 h' h).symm
  .by_cases t1':∃ds,d=.lst ds
   .obtain⟨ds,rfl⟩:=t1'
    by_cases t2:∃ds',d'=.lst ds'
    .obtain⟨ds',rfl⟩:=t2
     obtain⟨a,vs,rfl,h1,h2⟩:=aJ.mp h;obtain⟨a',vs',e,h1',h2'⟩:=aJ.mp h';cases e;rw[I.list_inj h1' h1]at h2';unfold bC at s1 s2;rw[qA ih ds ds' vs s1 s2 h2 h2']
    .by_cases t3:∃ds',d'=.tup ds'
     .obtain⟨ds',rfl⟩:=t3
      obtain⟨a0,_,ev,_,_⟩:=aJ.mp h;subst ev;obtain⟨a,vs,its,ea,_,h1,h2,h3,h4,_⟩:=br I h rfl;cases ea;obtain⟨a',vs',its',e,_,h1',h2',h3',h4',_⟩:=bH I h' rfl;cases e;exact absurd rfl (Zi h4 h4')
     .exact(atom (n+1) d' _ v (λds e=>t3 ⟨ds,e⟩) (λds e=>t2 ⟨ds,e⟩) s2 s1 h' h).symm
   .exact atom (n+1) d d' v (λds e=>t1 ⟨ds,e⟩) (λds e=>t1' ⟨ds,e⟩) s1 s2 h h'
def yr{A:Vn} 
  (ih:∀(x y:D) (v u:V) (a b:Up),bC n x=true->bC n y=true->Rep X.K H x v->Rep X.K H y u->b3 v a->b3 u b->U3 A.in1 s a b (c8 x y))
  (sx:xs.all (bC n)=true)(sy:ys.all (bC n)=true)(rx:Reps X.K H xs vs)(ry:Reps X.K H ys us)(qx:bz vs is)(qy:bz us js) :
  ∀j (h1:j<is.toArray.size) (h2:j<js.toArray.size),U3 A.in1 s is.toArray[j] js.toArray[j] (c8 (xs.getD j .non) (ys.getD j .non)):=by
 intro j h1 h2;have lx:=rx.length;have ly:=ry.length;have kx:=qx.length;have ky:=qy.length;have h1':j<is.length:=by simpa using h1
 have h2':j<js.length:=by simpa using h2
 have hx:j<xs.length:=by omega
 have hy:j<ys.length:=by omega
 obtain⟨v,e1,r1⟩:=rx.get (Ut hx);obtain⟨u,e2,r2⟩:=ry.get (Ut hy);obtain⟨a,e3,r3⟩:=qx.get e1;obtain⟨b,e4,r4⟩:=qy.get e2;have ea:is.toArray[j]=a:=by
  rw[Ut h1']at e3;simpa using Vu e3
 have eb:js.toArray[j]=b:=by
  rw[Ut h2']at e4;simpa using Vu e4
 rw[ea,eb];have gx:xs.getD j .non=xs[j]:=by simp[List.getD,Ut hx]
 have gy:ys.getD j .non=ys[j]:=by simp[List.getD,Ut hy]
 rw[gx,gy];exact ih _ _ v u a b (Va.mp sx _ (VY hx)) (Va.mp sy _ (VY hy)) r1 r2 r3 r4
def xK(I:Inv X π σ H s){A:Vn}(hu:A.units<XX)(rx:Rep X.K H x v)(ry:Rep X.K H y u)(qx:b3 v a)(qy:b3 u b)
  (n1:∀ds ds',¬(x=.lst ds/\y=.lst ds'))(n2:∀ds ds',¬(x=.tup ds/\y=.tup ds'))(d1:∀ks ds,x≠.dic ks ds)(d2:∀ks ds,y≠.dic ks ds)(x1:∀c,x≠.exc c)(x2:∀c,y≠.exc c)(o1:∀k c,x≠.ob k c)(o2:∀k c,y≠.ob k c) :
  Vb A s a b (c8 x y)/\U3 A s a b (c8 x y)/\U1 A s a b (!(c8 x y)):=by
 cases x with
 |non=>
  cases y with
  |non=>
   obtain rfl:=aZ.mp rx;obtain rfl:a=VT:=qx;obtain rfl:=aZ.mp ry;obtain rfl:b=VT:=qy;unfold c8;exact⟨Vb.none_none ,YA _,U1.none_none ⟩
  |bl y=>
   obtain rfl:=aZ.mp rx;obtain rfl:a=VT:=qx;obtain rfl:=aL.mp ry;obtain rfl:b=VU _:=qy;unfold c8;exact⟨Vb.none_bool _,U3.none_bool _,U1.none_bool _⟩
  |int y=>
   obtain rfl:=aZ.mp rx;obtain rfl:a=VT:=qx;obtain rfl:=aB.mp ry;obtain⟨ty,rfl⟩:∃t,b=Wb _ t:=qy;unfold c8;exact⟨Vb.none_int _ _,U3.none_int _ _,U1.none_int _ _⟩
  |str y=>
   obtain rfl:=aZ.mp rx;obtain rfl:a=VT:=qx;obtain rfl:=Rep.str_iff.mp ry;obtain⟨ty,rfl⟩:∃t,b=Wa _ t:=qy;unfold c8;exact⟨Vb.none_str _ _,U3.none_str _ _,U1.none_str _ _⟩
  |lst y=>
   obtain rfl:=aZ.mp rx;obtain rfl:a=VT:=qx;obtain⟨ly,_,_,rfl,rfl,_,_,_,hy,_⟩:=br I ry qy;unfold c8;exact⟨Vb.none_list  hy hu,U3.none_list  hy hu,U1.none_list  hy hu⟩
  |tup y=>
   obtain rfl:=aZ.mp rx;obtain rfl:a=VT:=qx;obtain⟨ly,_,_,rfl,rfl,_,_,_,hy,_⟩:=bH I ry qy;unfold c8;exact⟨Vb.none_tuple  hy hu,U3.none_tuple  hy hu,U1.none_tuple  hy hu⟩
  |dic ks ds=>exact absurd rfl (d2 ks ds)|exc c=>exact absurd rfl (x2 c)|ob k c=>exact absurd rfl (o2 k c)
 |bl x=>
  cases y with
  |non=>
   obtain rfl:=aL.mp rx;obtain rfl:a=VU _:=qx;obtain rfl:=aZ.mp ry;obtain rfl:b=VT:=qy;unfold c8;exact⟨Vb.bool_none _,U3.bool_none _,U1.bool_none _⟩
  |bl y=>
   obtain rfl:=aL.mp rx;obtain rfl:a=VU _:=qx;obtain rfl:=aL.mp ry;obtain rfl:b=VU _:=qy;unfold c8;exact⟨Vb.bool_bool _ _,U3.bool_bool _ _,U1.bool_bool _ _⟩
  |int y=>
   obtain rfl:=aL.mp rx;obtain rfl:a=VU _:=qx;obtain rfl:=aB.mp ry;obtain⟨ty,rfl⟩:∃t,b=Wb _ t:=qy;unfold c8;exact⟨Vb.bool_int _ _ _,U3.bool_int _ _ _,U1.bool_int _ _ _⟩
  |str y=>
   obtain rfl:=aL.mp rx;obtain rfl:a=VU _:=qx;obtain rfl:=Rep.str_iff.mp ry;obtain⟨ty,rfl⟩:∃t,b=Wa _ t:=qy;unfold c8;exact⟨Vb.bool_str _ _ _,U3.bool_str _ _ _,U1.bool_str _ _ _⟩
  |lst y=>
   obtain rfl:=aL.mp rx;obtain rfl:a=VU _:=qx;obtain⟨ly,_,_,rfl,rfl,_,_,_,hy,_⟩:=br I ry qy;unfold c8;exact⟨Vb.bool_list _ hy hu,U3.bool_list _ hy hu,U1.bool_list _ hy hu⟩
  |tup y=>
   obtain rfl:=aL.mp rx;obtain rfl:a=VU _:=qx;obtain⟨ly,_,_,rfl,rfl,_,_,_,hy,_⟩:=bH I ry qy;unfold c8;exact⟨Vb.bool_tuple _ hy hu,U3.bool_tuple _ hy hu,U1.bool_tuple _ hy hu⟩
  |dic ks ds=>exact absurd rfl (d2 ks ds)|exc c=>exact absurd rfl (x2 c)|ob k c=>exact absurd rfl (o2 k c)
 |int x=>
  cases y with
  |non=>
   obtain rfl:=aB.mp rx;obtain⟨tx,rfl⟩:∃t,a=Wb _ t:=qx;obtain rfl:=aZ.mp ry;obtain rfl:b=VT:=qy;unfold c8;exact⟨Vb.int_none _ _,U3.int_none _ _,U1.int_none _ _⟩
  |bl y=>
   obtain rfl:=aB.mp rx;obtain⟨tx,rfl⟩:∃t,a=Wb _ t:=qx;obtain rfl:=aL.mp ry;obtain rfl:b=VU _:=qy;unfold c8;exact⟨Vb.int_bool _ _ _,U3.int_bool _ _ _,U1.int_bool _ _ _⟩
  |int y=>
   obtain rfl:=aB.mp rx;obtain⟨tx,rfl⟩:∃t,a=Wb _ t:=qx;obtain rfl:=aB.mp ry;obtain⟨ty,rfl⟩:∃t,b=Wb _ t:=qy;unfold c8;exact⟨Vb.int_int _ _ _ _,U3.int_int _ _ _ _,U1.int_int _ _ _ _⟩
  |str y=>
   obtain rfl:=aB.mp rx;obtain⟨tx,rfl⟩:∃t,a=Wb _ t:=qx;obtain rfl:=Rep.str_iff.mp ry;obtain⟨ty,rfl⟩:∃t,b=Wa _ t:=qy;unfold c8;exact⟨Vb.int_str _ _ _ _,U3.int_str _ _ _ _,U1.int_str _ _ _ _⟩
  |lst y=>
   obtain rfl:=aB.mp rx;obtain⟨tx,rfl⟩:∃t,a=Wb _ t:=qx;obtain⟨ly,_,_,rfl,rfl,_,_,_,hy,_⟩:=br I ry qy;unfold c8;exact⟨Vb.int_list _ _ hy hu,U3.int_list _ _ hy hu,U1.int_list _ _ hy hu⟩
  |tup y=>
   obtain rfl:=aB.mp rx;obtain⟨tx,rfl⟩:∃t,a=Wb _ t:=qx;obtain⟨ly,_,_,rfl,rfl,_,_,_,hy,_⟩:=bH I ry qy;unfold c8;exact⟨Vb.int_tuple _ _ hy hu,U3.int_tuple _ _ hy hu,U1.int_tuple _ _ hy hu⟩
  |dic ks ds=>exact absurd rfl (d2 ks ds)|exc c=>exact absurd rfl (x2 c)|ob k c=>exact absurd rfl (o2 k c)
 |str x=>
  cases y with
  |non=>
   obtain rfl:=Rep.str_iff.mp rx;obtain⟨tx,rfl⟩:∃t,a=Wa _ t:=qx;obtain rfl:=aZ.mp ry;obtain rfl:b=VT:=qy;unfold c8;exact⟨Vb.str_none _ _,U3.str_none _ _,U1.str_none _ _⟩
  |bl y=>
   obtain rfl:=Rep.str_iff.mp rx;obtain⟨tx,rfl⟩:∃t,a=Wa _ t:=qx;obtain rfl:=aL.mp ry;obtain rfl:b=VU _:=qy;unfold c8;exact⟨Vb.str_bool _ _ _,U3.str_bool _ _ _,U1.str_bool _ _ _⟩
  |int y=>
   obtain rfl:=Rep.str_iff.mp rx;obtain⟨tx,rfl⟩:∃t,a=Wa _ t:=qx;obtain rfl:=aB.mp ry;obtain⟨ty,rfl⟩:∃t,b=Wb _ t:=qy;unfold c8;exact⟨Vb.str_int _ _ _ _,U3.str_int _ _ _ _,U1.str_int _ _ _ _⟩
  |str y=>
   obtain rfl:=Rep.str_iff.mp rx;obtain⟨tx,rfl⟩:∃t,a=Wa _ t:=qx;obtain rfl:=Rep.str_iff.mp ry;obtain⟨ty,rfl⟩:∃t,b=Wa _ t:=qy;unfold c8;exact⟨Vb.str_str _ _ _ _,U3.str_str _ _ _ _,U1.str_str _ _ _ _⟩
  |lst y=>
   obtain rfl:=Rep.str_iff.mp rx;obtain⟨tx,rfl⟩:∃t,a=Wa _ t:=qx;obtain⟨ly,_,_,rfl,rfl,_,_,_,hy,_⟩:=br I ry qy;unfold c8;exact⟨Vb.str_list _ _ hy hu,U3.str_list _ _ hy hu,U1.str_list _ _ hy hu⟩
  |tup y=>
   obtain rfl:=Rep.str_iff.mp rx;obtain⟨tx,rfl⟩:∃t,a=Wa _ t:=qx;obtain⟨ly,_,_,rfl,rfl,_,_,_,hy,_⟩:=bH I ry qy;unfold c8;exact⟨Vb.str_tuple _ _ hy hu,U3.str_tuple _ _ hy hu,U1.str_tuple _ _ hy hu⟩
  |dic ks ds=>exact absurd rfl (d2 ks ds)|exc c=>exact absurd rfl (x2 c)|ob k c=>exact absurd rfl (o2 k c)
 |lst x=>
  cases y with
  |non=>
   obtain⟨lx,_,_,rfl,rfl,_,_,_,hx,_⟩:=br I rx qx;obtain rfl:=aZ.mp ry;obtain rfl:b=VT:=qy;unfold c8;exact⟨Vb.list_none  hx hu,U3.list_none  hx hu,U1.list_none  hx hu⟩
  |bl y=>
   obtain⟨lx,_,_,rfl,rfl,_,_,_,hx,_⟩:=br I rx qx;obtain rfl:=aL.mp ry;obtain rfl:b=VU _:=qy;unfold c8;exact⟨Vb.list_bool _ hx hu,U3.list_bool _ hx hu,U1.list_bool _ hx hu⟩
  |int y=>
   obtain⟨lx,_,_,rfl,rfl,_,_,_,hx,_⟩:=br I rx qx;obtain rfl:=aB.mp ry;obtain⟨ty,rfl⟩:∃t,b=Wb _ t:=qy;unfold c8;exact⟨Vb.list_int _ _ hx hu,U3.list_int _ _ hx hu,U1.list_int _ _ hx hu⟩
  |str y=>
   obtain⟨lx,_,_,rfl,rfl,_,_,_,hx,_⟩:=br I rx qx;obtain rfl:=Rep.str_iff.mp ry;obtain⟨ty,rfl⟩:∃t,b=Wa _ t:=qy;unfold c8;exact⟨Vb.list_str _ _ hx hu,U3.list_str _ _ hx hu,U1.list_str _ _ hx hu⟩
  |lst y=>
   exact absurd ⟨rfl,rfl⟩ (n1 x y)
  |tup y=>
   obtain⟨lx,_,_,rfl,rfl,_,_,_,hx,_⟩:=br I rx qx;obtain⟨ly,_,_,rfl,rfl,_,_,_,hy,_⟩:=bH I ry qy;unfold c8;exact⟨Vb.list_tuple  hx hy hu,U3.list_tuple  hx hy hu,U1.list_tuple  hx hy hu⟩
  |dic ks ds=>exact absurd rfl (d2 ks ds)|exc c=>exact absurd rfl (x2 c)|ob k c=>exact absurd rfl (o2 k c)
 |tup x=>
  cases y with
  |non=>
   obtain⟨lx,_,_,rfl,rfl,_,_,_,hx,_⟩:=bH I rx qx;obtain rfl:=aZ.mp ry;obtain rfl:b=VT:=qy;unfold c8;exact⟨Vb.tuple_none  hx hu,U3.tuple_none  hx hu,U1.tuple_none  hx hu⟩
  |bl y=>
   obtain⟨lx,_,_,rfl,rfl,_,_,_,hx,_⟩:=bH I rx qx;obtain rfl:=aL.mp ry;obtain rfl:b=VU _:=qy;unfold c8;exact⟨Vb.tuple_bool _ hx hu,U3.tuple_bool _ hx hu,U1.tuple_bool _ hx hu⟩
  |int y=>
   obtain⟨lx,_,_,rfl,rfl,_,_,_,hx,_⟩:=bH I rx qx;obtain rfl:=aB.mp ry;obtain⟨ty,rfl⟩:∃t,b=Wb _ t:=qy;unfold c8;exact⟨Vb.tuple_int _ _ hx hu,U3.tuple_int _ _ hx hu,U1.tuple_int _ _ hx hu⟩
  |str y=>
   obtain⟨lx,_,_,rfl,rfl,_,_,_,hx,_⟩:=bH I rx qx;obtain rfl:=Rep.str_iff.mp ry;obtain⟨ty,rfl⟩:∃t,b=Wa _ t:=qy;unfold c8;exact⟨Vb.tuple_str _ _ hx hu,U3.tuple_str _ _ hx hu,U1.tuple_str _ _ hx hu⟩
  |lst y=>
   obtain⟨lx,_,_,rfl,rfl,_,_,_,hx,_⟩:=bH I rx qx;obtain⟨ly,_,_,rfl,rfl,_,_,_,hy,_⟩:=br I ry qy;unfold c8;exact⟨Vb.tuple_list  hx hy hu,U3.tuple_list  hx hy hu,U1.tuple_list  hx hy hu⟩
  |tup y=>
   exact absurd ⟨rfl,rfl⟩ (n2 x y)
  |dic ks ds=>exact absurd rfl (d2 ks ds)|exc c=>exact absurd rfl (x2 c)|ob k c=>exact absurd rfl (o2 k c)
 |dic ks ds=>exact absurd rfl (d1 ks ds)
 |exc c=>exact absurd rfl (x1 c)
 |ob k c=>exact absurd rfl (o1 k c)
def LJ(I:Inv X π σ H s):∀(n:Nat) (A:Vn),A.units+n<XX->∀(x y:D) (v u:V) (a b:Up),bC n x=true->bC n y=true->Rep X.K H x v->Rep X.K H y u->b3 v a->b3 u b ->
  Vb A s a b (c8 x y)/\U3 A s a b (c8 x y)/\U1 A s a b (!(c8 x y)):=by
 have nd:∀m ks ds,bC m (.dic ks ds)=true->False:=λm ks ds h=>by cases m<;>(unfold bC at h;cases h)
 have nx:∀m x,bC m (.exc x)=true->False:=λm x h=>by cases m<;>(unfold bC at h;cases h)
 have nb:∀m k x,bC m (.ob k x)=true->False:=λm k x h=>by cases m<;>(unfold bC at h;cases h)
 intro n
 induction n with
 |zero=>
  intro A hu x y v u a b sx sy rx ry qa qb;refine xK I (by omega) rx ry qa qb (λds ds' z=>?_) (λds ds' z=>?_) (λks ds z=>?_) (λks ds z=>?_) (λc z=>nx _ _ (z▸sx)) (λc z=>nx _ _ (z▸sy)) (λk c z=>nb _ _ _ (z▸sx)) (λk c z=>nb _ _ _ (z▸sy))
  .rw[z.1]at sx;unfold bC at sx;cases sx
  .rw[z.1]at sx;unfold bC at sx;cases sx
  .rw[z]at sx;exact nd _ _ _ sx
  .rw[z]at sy;exact nd _ _ _ sy
 |succ n ih=>
  intro A hu x y v u a b sx sy rx ry qa qb;have ih':∀(x y:D) (v u:V) (a b:Up),bC n x=true->bC n y=true->Rep X.K H x v->Rep X.K H y u->b3 v a->b3 u b->U3 A.in1 s a b (c8 x y) :=
   λx y v u a b s1 s2 r1 r2 q1 q2=>(ih A.in1 (by show A.units+1+n<XX;omega) x y v u a b s1 s2 r1 r2 q1 q2).2.1
  by_cases t1:∃ds ds',x=.tup ds/\y=.tup ds'
  .obtain⟨xs,ys,rfl,rfl⟩:=t1
   obtain⟨l,vs,is,rfl,rfl,h1,h2,h3,h4,h5⟩:=bH I rx qa;obtain⟨m,us,js,rfl,rfl,k1,k2,k3,k4,k5⟩:=bH I ry qb;have hsx:=sx;have hsy:=sy;unfold bC at sx sy;have each:=yr (A:=A) ih' sx sy h2 k2 h3 k3;have eall:c8 (.tup xs) (.tup ys)=((Vv (min is.toArray.size js.toArray.size)).all (λj=>c8 (xs.getD j .non) (ys.getD j .non))&&is.toArray.size==js.toArray.size):=by
    rw[JF];simp only[UM,←h5,←k5]
    by_cases hl:xs.length=ys.length
    .rw[mh xs ys hl,←hl,Nat.min_self,beq_self_eq_true,Bool.and_true]
    .rw[rV xs ys hl,beq_eq_false_iff_ne.mpr hl,YQ]
   refine⟨?_,?_,?_⟩
   .rw[eall];exact Vb.tuples h4 k4 (by omega) each
   .by_cases hlm:l=m
    .subst hlm
     rw[Rep.inj I (n+1) _ _ _ hsx hsy rx ry,m5 (n+1) _ hsy];exact YA _
    .refine X9 hlm ?_
     rw[eall];exact Vb.tuples h4 k4 (by omega) each
   .rw[eall];exact U1.tuples h4 k4 (by omega) each
  .by_cases t2:∃ds ds',x=.lst ds/\y=.lst ds'
   .obtain⟨xs,ys,rfl,rfl⟩:=t2
    obtain⟨l,vs,is,rfl,rfl,h1,h2,h3,h4,h5⟩:=br I rx qa;obtain⟨m,us,js,rfl,rfl,k1,k2,k3,k4,k5⟩:=br I ry qb;have hsx:=sx;have hsy:=sy;unfold bC at sx sy;have each:=yr (A:=A) ih' sx sy h2 k2 h3 k3
    by_cases hl:xs.length=ys.length
    .have hsz:is.toArray.size=js.toArray.size:=by simp only[UM];omega
     have eall:c8 (.lst xs) (.lst ys)=(Vv is.toArray.size).all (λj=>c8 (xs.getD j .non) (ys.getD j .non)):=by
      rw[wA];simp only[UM,←h5];exact mh xs ys hl
     refine⟨?_,?_,?_⟩
     .rw[eall];exact Vb.lists h4 k4 hsz (by omega) each
     .by_cases hlm:l=m
      .subst hlm
       rw[Rep.inj I (n+1) _ _ _ hsx hsy rx ry,m5 (n+1) _ hsy];exact YA _
      .refine X9 hlm ?_
       rw[eall];exact Vb.lists h4 k4 hsz (by omega) each
     .rw[eall];exact U1.lists h4 k4 hsz (by omega) each
    .have hsz:(is.toArray.size != js.toArray.size)=true:=by simp only[UM,bne_iff_ne,ne_eq];omega
     have eall:c8 (.lst xs) (.lst ys)=false:=by rw[wA];exact rV xs ys hl
     rw[eall];refine⟨YS h4 k4 hsz (by omega),?_,U1.lists_lengths h4 k4 hsz (by omega)⟩;refine X9 (λe=>?_) (YS h4 k4 hsz (by omega));subst e;have:=Rep.inj I (n+1) _ _ _ hsx hsy rx ry;cases this;exact hl rfl
   .exact xK I (by omega) rx ry qa qb (λds ds' z=>t2 ⟨ds,ds',z⟩) (λds ds' z=>t1 ⟨ds,ds',z⟩) (λks ds z=>by rw[z]at sx;exact nd _ _ _ sx) (λks ds z=>by rw[z]at sy;exact nd _ _ _ sy) (λc z=>nx _ _ (z▸sx)) (λc z=>nx _ _ (z▸sy)) (λk c z=>nb _ _ _ (z▸sx)) (λk c z=>nb _ _ _ (z▸sy))
end
section
variable {X:Cx}{E:XK}
def gO(x y:D):ar D:=if bC 40 x=true/\bC 40 y=true then .ok (.bl (c8 x y)) else .stuck
def gi(x y:D):ar D:=if bC 40 x=true/\bC 40 y=true then .ok (.bl (!(c8 x y))) else .stuck
def Pd(K:Ur):R2:=λv u H Q=>∃x y,Rep K H x v/\Rep K H y u/\bC 40 x=true/\bC 40 y=true/\Q (.bl (c8 x y)) H
def O8(K:Ur):R2:=λv u H Q=>∃x y,Rep K H x v/\Rep K H y u/\bC 40 x=true/\bC 40 y=true/\Q (.bl (!(c8 x y))) H
def cO(hu:X.A.units+64<XX):gr X (Vw .Eq) (Pd X.K):=by
 intro π s σ H x y v u Q I rx ry h;obtain⟨d,d',h1,h2,s1,s2,q⟩:=h;exact(LJ I 40 X.A (by omega) d d' x y v u s1 s2 h1 h2 rx ry).1 _ _ _ _ ⟨.bl _,H,I,rfl,q⟩
def eM(hu:X.A.units+64<XX):gr X (Vw .NotEq) (O8 X.K):=by
 intro π s σ H x y v u Q I rx ry h;obtain⟨d,d',h1,h2,s1,s2,q⟩:=h;exact(LJ I 40 X.A (by omega) d d' x y v u s1 s2 h1 h2 rx ry).2.2 _ _ _ _ ⟨.bl _,H,I,rfl,q⟩
def dW:wX X.K E (Pd X.K) gO:=by
 intro x y v u H Ha Q hs r1 r2 q;unfold gO at q
 by_cases c:bC 40 x=true/\bC 40 y=true
 .rw[if_pos c]at q
  exact⟨x,y,r1.mono hs,r2.mono hs,c.1,c.2,q _ H Ha (bI.refl hs) (aL.mpr rfl)⟩
 .rw[if_neg c]at q;exact q.elim
def gK:wX X.K E (O8 X.K) gi:=by
 intro x y v u H Ha Q hs r1 r2 q;unfold gi at q
 by_cases c:bC 40 x=true/\bC 40 y=true
 .rw[if_pos c]at q
  exact⟨x,y,r1.mono hs,r2.mono hs,c.1,c.2,q _ H Ha (bI.refl hs) (aL.mpr rfl)⟩
 .rw[if_neg c]at q;exact q.elim
open Classical in
noncomputable def lN(K:Ur) (H:Hp) (ds:ac) (x:D) (u:Up):Bool :=
 if h:∃d,d∈ds/\∃v,Rep K H d v/\b3 v u then c8 h.choose x else false
def B3(I:Inv X π σ H s)(sd:ds.all (bC 40)=true)(hd:d∈ds)(r:Rep X.K H d v)(q:b3 v u):lN X.K H ds x u=c8 d x:=by
 have h:∃d,d∈ds/\∃v,Rep X.K H d v/\b3 v u:=⟨d,hd,v,r,q⟩
 unfold lN;rw[dif_pos h];obtain⟨h1,v',h2,h3⟩:=h.choose_spec;have e:v'=v:=h3.inj q;subst e;rw[Rep.inj I 40 _ _ _ (Va.mp sd _ h1) (Va.mp sd _ hd) h2 r]
def zD(K:Ur)(neg:Bool):R2:=λv u H Q=>∃x ds,Rep K H x v/\(Rep K H (.lst ds) u∨Rep K H (.tup ds) u)/\bC 40 x=true/\ds.all (bC 40)=true/\Q (.bl (if neg then !(ds.any λd=>c8 d x) else ds.any λd=>c8 d x)) H
theorem lh{π:List (Uy×Obj)}{σ:L2.St}{H:Hp}{s:UD}(I:Inv X π σ H s){x:D}{es:ac}(se:es.all (bC 40)=true):∀{ds:ac}{vs:al}{us:List Up},(∀d∈ds,d∈es)->Reps X.K H ds vs->bz vs us->us.any (lN X.K H es x)=ds.any λd=>c8 d x
 |[],_,_,_,h,q=>by
  rw[Reps.nil_iff.mp h]at q;cases q;rfl
 |d::ds,_,_,hm,h,q=>by
  obtain⟨v,r,rfl,h1,h2⟩:=aH.mp h;cases q with
  |cons q1 q2=>
   rw[XJ,XJ,B3 I se (hm d UU) h1 q1,lh I se (λx hx=>hm x (UH _ hx)) h2 q2]
theorem jD{π:List (Uy×Obj)}{σ:L2.St}{H:Hp}{s:UD}(I:Inv X π σ H s)(hu:X.A.units+64<XX){x:D}{v:V}{u:Up}(sx:bC 40 x=true)(rx:Rep X.K H x v)(qx:b3 v u){es:ac}(se:es.all (bC 40)=true):∀{ds:ac}{vs:al}{us:List Up},(∀d∈ds,d∈es)->Reps X.K H ds vs->bz vs us->∀y∈us,U3 X.A.in1 s y u (lN X.K H es x y)
 |[],_,_,_,h,q=>λy hy=>by
  rw[Reps.nil_iff.mp h]at q;cases q;cases hy
 |d::ds,_,_,hm,h,q=>λy hy=>by
  obtain⟨w,r,rfl,h1,h2⟩:=aH.mp h;cases q with
  |cons q1 q2=>
   rcases UI.mp hy with rfl|hy
   .rw[B3 I se (hm d UU) h1 q1]
    exact(LJ I 40 X.A.in1 (by show X.A.units+1+40<XX;omega) d x w v _ u (Va.mp se _ (hm d UU)) sx h1 rx q1 qx).2.1
   .exact jD I hu sx rx qx se (λx hx=>hm x (UH _ hx)) h2 q2 y hy
def L9(hu:X.A.units+64<XX):gr X (Vw .In) (zD X.K false):=by
 intro π s σ H x y v u Q I rx ry h;obtain⟨d,ds,h1,h2,s1,s2,q⟩:=h;rcases h2 with h2|h2
 .obtain⟨a,vs,its,rfl,rfl,k1,k2,k3,k4,k5⟩:=br I h2 ry
  refine SeqAt.in_listAt (lN X.K H ds d) k4 (λw hw=>jD I hu s1 h1 rx s2 (λ_ z=>z) k2 k3 w (by simpa using hw)) ⟨.bl _,H,I,rfl,?_⟩;rw[show its.toArray.any (lN X.K H ds d)=its.any (lN X.K H ds d) by simp,lh I s2 (λ_ z=>z) k2 k3];exact q
 .obtain⟨a,vs,its,rfl,rfl,k1,k2,k3,k4,k5⟩:=bH I h2 ry
  refine SeqAt.in_tupleAt (lN X.K H ds d) k4 (λw hw=>jD I hu s1 h1 rx s2 (λ_ z=>z) k2 k3 w (by simpa using hw)) ⟨.bl _,H,I,rfl,?_⟩;rw[show its.toArray.any (lN X.K H ds d)=its.any (lN X.K H ds d) by simp,lh I s2 (λ_ z=>z) k2 k3];exact q
def CK(hu:X.A.units+64<XX):gr X (Vw .NotIn) (zD X.K true):=by
 intro π s σ H x y v u Q I rx ry h;obtain⟨d,ds,h1,h2,s1,s2,q⟩:=h;rcases h2 with h2|h2
 .obtain⟨a,vs,its,rfl,rfl,k1,k2,k3,k4,k5⟩:=br I h2 ry
  refine SeqAt.notIn_listAt (lN X.K H ds d) k4 (λw hw=>jD I hu s1 h1 rx s2 (λ_ z=>z) k2 k3 w (by simpa using hw)) ⟨.bl _,H,I,rfl,?_⟩;rw[show its.toArray.any (lN X.K H ds d)=its.any (lN X.K H ds d) by simp,lh I s2 (λ_ z=>z) k2 k3];exact q
 .obtain⟨a,vs,its,rfl,rfl,k1,k2,k3,k4,k5⟩:=bH I h2 ry
  refine SeqAt.notIn_tupleAt (lN X.K H ds d) k4 (λw hw=>jD I hu s1 h1 rx s2 (λ_ z=>z) k2 k3 w (by simpa using hw)) ⟨.bl _,H,I,rfl,?_⟩;rw[show its.toArray.any (lN X.K H ds d)=its.any (lN X.K H ds d) by simp,lh I s2 (λ_ z=>z) k2 k3];exact q
def PB(i j:UP):Bool:=!(Wv j i 0 j.length 1).isEmpty
noncomputable def DK(x y:D):Option Bool:=match y with
 |.lst ds=>if bC 40 x=true/\ds.all (bC 40)=true then some (ds.any λd=>c8 d x) else none
 |.tup ds=>if bC 40 x=true/\ds.all (bC 40)=true then some (ds.any λd=>c8 d x) else none
 |.str j=>match x with
  |.str i=>some (PB i j)
  |_=>none
 |_=>none
def oY(x y:D):ar D:=match DK x y with
 |some b=>.ok (.bl b)
 |none=>.stuck
def dS(x y:D):ar D:=match DK x y with
 |some b=>.ok (.bl (!b))
 |none=>.stuck
def ED(neg:Bool):R2:=λx y H Q=>∃i j,x=.str i/\y=.str j/\Q (.bl (if neg then !(PB i j) else PB i j)) H
def oG(hu:X.A.units+64<XX):gr X (Vw .In) (λv u H Q=>zD X.K false v u H Q∨ED false v u H Q):=gr.or (L9 hu) (by
 intro π s σ H x y v u Q I rx ry h;obtain⟨i,j,rfl,rfl,q⟩:=h;exact CL π s σ H _ _ v u Q I rx ry ⟨i,j,rfl,rfl,q⟩)
def iz(hu:X.A.units+64<XX):gr X (Vw .NotIn) (λv u H Q=>zD X.K true v u H Q∨ED true v u H Q):=gr.or (CK hu) (by
 intro π s σ H x y v u Q I rx ry h;obtain⟨i,j,rfl,rfl,q⟩:=h;exact vR π s σ H _ _ v u Q I rx ry ⟨i,j,rfl,rfl,q⟩)
def yd(hs:aG Ha H)(r1:Rep X.K Ha x v)(r2:Rep X.K Ha y u)
  (q:post X.K E H Ha (match DK x y with|some b=>.ok (.bl (if neg then !b else b))|none=>.stuck) Q):zD X.K neg v u H Q∨ED neg v u H Q:=by
 cases y with
 |lst ds=>
  simp only[DK]at q
  by_cases c:bC 40 x=true/\ds.all (bC 40)=true
  .rw[if_pos c]at q
   exact .inl ⟨x,ds,r1.mono hs,.inl (r2.mono hs),c.1,c.2,q _ H Ha (bI.refl hs) (aL.mpr rfl)⟩
  .rw[if_neg c]at q;exact q.elim
 |tup ds=>
  simp only[DK]at q
  by_cases c:bC 40 x=true/\ds.all (bC 40)=true
  .rw[if_pos c]at q
   exact .inl ⟨x,ds,r1.mono hs,.inr (r2.mono hs),c.1,c.2,q _ H Ha (bI.refl hs) (aL.mpr rfl)⟩
  .rw[if_neg c]at q;exact q.elim
 |str j=>
  cases x with|str i=>exact .inr ⟨i,j,Rep.str_iff.mp r1,Rep.str_iff.mp r2,q _ H Ha (bI.refl hs) (aL.mpr rfl)⟩| _=>exact q.elim
 |_=>exact q.elim
def oN:wX X.K E (λv u H Q=>zD X.K false v u H Q∨ED false v u H Q) oY:=λx y v u H Ha Q hs r1 r2 q=>yd (neg:=false) (E:=E) hs r1 r2 (by
 unfold oY at q;cases e:DK x y with
 |none=>rw[e]at q;exact q
 |some b=>rw[e]at q;exact q)
def iC:wX X.K E (λv u H Q=>zD X.K true v u H Q∨ED true v u H Q) dS:=λx y v u H Ha Q hs r1 r2 q=>yd (neg:=true) (E:=E) hs r1 r2 (by
 unfold dS at q;cases e:DK x y with
 |none=>rw[e]at q;exact q
 |some b=>rw[e]at q;exact q)
end
@[irreducible] def B9:Nat:=2 ^ 9000
@[irreducible] def vo:Nat:=2 ^ 13500
@[irreducible] def AR:Nat:=2 ^ 60000
theorem GR:B9=2 ^ 9000:=by unfold B9;rfl
def tH:vo=2 ^ 13500:=by unfold vo;rfl
def tE:AR=2 ^ 60000:=by unfold AR;rfl
def qZ(h:n<2 ^ k)(hk:0<k):n.log2<k:=by
 by_cases h0:n=0
 .rw[h0]
  have:Nat.log2 0=0:=by decide
  omega
 .exact(ZL h0).mpr h
def PH(h:y.natAbs<B9):WD x y=false:=by
 rw[GR]at h;exact PyProof.noPylong_of_log2 (qZ h (by omega))
def Mc(h:x.natAbs<vo):WD x y=false:=by
 rw[tH]at h;have hx:x.natAbs.log2<13500:=qZ h (by omega);show(decide ((if y==0 then 0 else y.natAbs.log2 / 30+1) > 300)&&decide ((if x==0 then 0 else x.natAbs.log2 / 30+1) > (if y==0 then 0 else y.natAbs.log2 / 30+1)+150))=false;have k:(if x==0 then 0 else x.natAbs.log2 / 30+1)<=450:=by
  by_cases hx0:(x==0)=true
  .rw[if_pos hx0];omega
  .rw[if_neg hx0];omega
 by_cases c:(if y==0 then 0 else y.natAbs.log2 / 30+1) > 300
 .rw[WJ];right;exact decide_eq_false (by omega)
 .rw[WJ];left;exact decide_eq_false c
def gZ(i j:Int):Bool:=decide (j≠0)&&(decide (j.natAbs<B9)||decide (i.natAbs<vo))
def fW(i j:Int):Bool:=decide (i.natAbs<AR)&&decide (j.natAbs<AR)
def gZ.ok(h:gZ i j=true):j≠0/\WD i j=false:=by
 unfold gZ at h;rw[U7,YF]at h;refine⟨of_decide_eq_true h.1,?_⟩;rcases h.2 with h|h
 .exact PH (of_decide_eq_true h)
 .exact Mc (of_decide_eq_true h)
def fW.ok(h:fW i j=true):IntMulOk i j:=by
 unfold fW at h;rw[U7]at h;have h1:=of_decide_eq_true h.1;have h2:=of_decide_eq_true h.2;rw[tE]at h1 h2;exact PyProof.Rows.mulOk_of_bits (m:=60000) (n:=60000) (ZG.mpr h1) (ZG.mpr h2) (by decide)
section
variable {X:Cx}{E:XK}{e a b c:Vl}{es:List Vl}{f g k:am}{fa:Ev->ar (ac)}{pos:Pos}
def bW{K:Ur}(hs:aG Ha H)(q:post K E H Ha (.ok d) Q)(r:Rep K Ha d v):Q v H:=q v H Ha (bI.refl hs) r
def yw(c:Int->Int->Bool)(g:Int->Int->D)(x y:D):ar D:=match x,y with
 |.int i,.int j=>if c i j=true then .ok (g i j) else .stuck
 |_,_=>.stuck
def vY{c:Int->Int->Bool}{g:Int->Int->D}(hc:∀i j,c i j=true->C i j)(hg:∀K H i j,Rep K H (g i j) (gv i j)):wX X.K E (rI C gv) (yw c g):=by
 intro x y v u H Ha Q hs r1 r2 q;unfold yw at q;cases x with
 |int i=>
  cases y with
  |int j=>
   by_cases h:c i j=true
   .simp only[if_pos h]at q
    exact⟨i,j,aB.mp r1,aB.mp r2,hc i j h,bW hs q (hg _ _ i j)⟩
   .simp only[if_neg h]at q;exact q.elim
  |_=>exact q.elim
 |_=>exact q.elim
def dw{g:Int->Int->D}(hg:∀K H i j,Rep K H (g i j) (gv i j)):wX X.K E (GU gv) (yw (λ_ _=>true) g):=by
 intro x y v u H Ha Q hs r1 r2 q;unfold yw at q;cases x with
 |int i=>
  cases y with|int j=>simp only[if_pos]at q;exact⟨i,j,aB.mp r1,aB.mp r2,bW hs q (hg _ _ i j)⟩| _=>exact q.elim
 |_=>exact q.elim
def ri{K:Ur}(n:Int):Rep K H (.int n) (.int n):=aB.mpr rfl
def rb{K:Ur}(n:Bool):Rep K H (.bl n) (.bl n):=aL.mpr rfl
abbrev uc:=yw (λ_ _=>true) λi j=>.int (i-j)
abbrev sr:=yw gZ λi j=>.int (i.fdiv j)
abbrev eD:=yw (λ_ j=>decide (j≠0)) λi j=>.int (i.fmod j)
abbrev oa:=yw (λi j=>decide (0<=j)&&decide (j<=1000000)&&decide (i.natAbs<18446744073709551616)) λi j=>.int (i ^ j.toNat)
abbrev Kc:=yw (λ_ _=>true) λi j=>.bl (decide (i<j))
abbrev K2:=yw (λ_ _=>true) λi j=>.bl (decide (i<=j))
abbrev Dm:=yw (λ_ _=>true) λi j=>.bl (decide (j<i))
abbrev RP:=yw (λ_ _=>true) λi j=>.bl (decide (j<=i))
def HZ:gr X (binaryOp .Mult) (rI IntMulOk λi j=>.int (i*j)):=RL λ_ _ _ _ _ _ _ hc q=>mul_int q hc
def Ia:gr X (binaryOp .FloorDiv) (rI (λi j=>j≠0/\WD i j=false) λi j=>.int (i.fdiv j)):=RL λ_ _ _ _ _ _ _ hc q=>floordiv_int hc.1 q (.inl hc.2)
def rY(ha:DE X E a f)(hb:DE X E b g):DE X E (.BinOp a .Sub b pos) (ag f g uc):=uU L6 (dw λ_ _ _ _=>ri _) ha hb
def n9(ha:DE X E a f)(hb:DE X E b g):DE X E (.BinOp a .FloorDiv b pos) (ag f g sr):=uU Ia (vY (λ_ _ h=>gZ.ok h) λ_ _ _ _=>ri _) ha hb
def gS(ha:DE X E a f)(hb:DE X E b g):DE X E (.BinOp a .Mod b pos) (ag f g eD):=uU Br (vY (λ_ _ h=>of_decide_eq_true h) λ_ _ _ _=>ri _) ha hb
def wI(ha:DE X E a f)(hb:DE X E b g):DE X E (.BinOp a .Pow b pos) (ag f g oa):=uU L8 (vY (λi j h=>by
 rw[U7,U7]at h;exact⟨of_decide_eq_true h.1.1,of_decide_eq_true h.1.2,of_decide_eq_true h.2⟩) λ_ _ _ _=>ri _) ha hb
def nm(h1:op≠.In:=by decide)(h2:op≠.NotIn:=by decide):behindInMarks op b=false:=Fc _ h1 h2
def og(x:D):ar D:=match x with
 |.int i=>.ok (.int (-i))
 |_=>.stuck
def kU(ha:DE X E a f):DE X E (.UnaryOp .USub a pos) (aY f og):=Q3 D6 (by
 intro x v H Ha Q hs r q;cases x with
 |int i=>exact⟨i,aB.mp r,bW hs q (ri _)⟩
 |_=>exact q.elim) ha
def Bu:gr X (binaryOp .Add) (λx y H Q=>∃l b xs zs,x=.ref l/\y=.ref b/\fM X.K H l xs/\fM X.K H b zs/\xs.length+zs.length<=sizeLine/\∀p,H p=none->Q (.ref p) (upd H p (.lst (xs++zs)))):=by
 intro π s σ H x y v u Q I rx ry h;obtain⟨l,b,xs,zs,rfl,rfl,hH,hB,hz,q⟩:=h;cases rx;cases ry;obtain⟨its,r,pl,z⟩:=I.list hH;obtain⟨its2,r2,pl2,z2⟩:=I.list hB;obtain⟨⟨cls,dd,data,sl⟩,ho,hc,n,hd⟩:=pl.isList;obtain⟨⟨cls2,dd2,data2,sl2⟩,ho2,hc2,n2,hd2⟩:=pl2.isList;simp only at hc hd hc2 hd2;subst hc hd hc2 hd2;have e:its.toArray++its2.toArray=(its++its2).toArray:=by simp
 have l1:=r.length;have l2:=r2.length;refine concat_meets ⟨_,ho,rfl⟩ ⟨_,ho2,rfl⟩ noFill_list_add seq_list_add PySem.F.slot_list_add PySem.F.entry_list_add (PySem.F.args_list_add_2 _ _) (list_addW l b its.toArray its2.toArray n n2 dd dd2 sl sl2 (by simp only[UM];omega)) ⟨ho,ho2,?_⟩;rw[e];exact⟨.ref _,_,I.lnew (t':=s.toks) (r.append r2) (by rw[U0];omega),rfl,q _ I.fresh⟩
noncomputable def bX(x y:D):ar D:=match x,y with
 |.int i,.int j=>.ok (.int (i+j))
 |.str i,.str j=>if i.length+j.length<=line then .ok (.str (i++j)) else .stuck
 |.lst ds,.lst es=>if ds.length+es.length<=line then .ok (.lst (ds++es)) else .stuck
 |.tup ds,.tup es=>if ds.isEmpty=false/\ds.length+es.length<=line then .ok (.tup (ds++es)) else .stuck
 |_,_=>.stuck
def cE(ha:DE X E a f)(hb:DE X E b g):DE X E (.BinOp a .Add b pos) (ag f g bX):=uU (gr.or E4 (gr.or qL (gr.or Bu Bt))) (by
 intro x y v u H Ha Q hs r1 r2 q;unfold bX at q;cases x with
 |int i=>
  cases y with|int j=>exact .inl ⟨i,j,aB.mp r1,aB.mp r2,bW hs q (ri _)⟩| _=>exact q.elim
 |str i=>
  cases y with
  |str j=>
   by_cases h:i.length+j.length<=line
   .simp only[if_pos h]at q
    exact .inr (.inl ⟨i,j,Rep.str_iff.mp r1,Rep.str_iff.mp r2,eg h,bW hs q (Rep.str_iff.mpr rfl)⟩)
   .simp only[if_neg h]at q;exact q.elim
  |_=>exact q.elim
 |lst ds=>
  cases y with
  |lst es=>
   by_cases h:ds.length+es.length<=line
   .simp only[if_pos h]at q
    obtain⟨l,vs,rfl,h1,h2⟩:=aJ.mp r1;obtain⟨m,us,rfl,k1,k2⟩:=aJ.mp r2;refine .inr (.inr (.inl ⟨l,m,vs,us,rfl,rfl,aG.sqL hs h1,aG.sqL hs k1,by rw[←h2.length,←k2.length];exact eg h,λp hp=>?_⟩));exact q _ _ _ (aR hs hp) (aJ.mpr ⟨p,_,rfl,fM.of aE,(h2.app k2).mono (aR hs hp).z⟩)
   .simp only[if_neg h]at q;exact q.elim
  |_=>exact q.elim
 |tup ds=>
  cases y with
  |tup es=>
   by_cases h:ds.isEmpty=false/\ds.length+es.length<=line
   .simp only[if_pos h]at q
    obtain⟨l,vs,rfl,h1,h2⟩:=aQ.mp r1;obtain⟨m,us,rfl,k1,k2⟩:=aQ.mp r2;refine .inr (.inr (.inr ⟨l,m,vs,us,rfl,rfl,aG.sqT hs h1,aG.sqT hs k1,λz=>?_,by rw[←h2.length,←k2.length];exact eg h.2,λz=>?_,λz p hp=>?_⟩))
    .have:=h2.length
     rw[z]at this;have e:ds=[]:=Ws.mp this;rw[e]at h;exact absurd h.1 (by decide)
    .have:=k2.length
     rw[z]at this;have e:es=[]:=Ws.mp this;rw[e,Vd]at q;exact bW hs q r1
    .exact q _ _ _ (aR hs hp) (aQ.mpr ⟨p,_,rfl,kC.of aE,(h2.app k2).mono (aR hs hp).z⟩)
   .simp only[if_neg h]at q;exact q.elim
  |_=>exact q.elim
 |_=>exact q.elim) ha hb
noncomputable def aO(x y:D):ar D:=match y with
 |.int i=>match x with
  |.lst ds=>match atI ds i with
   |some d=>.ok d
   |none=>.stuck
  |.tup ds=>match atI ds i with
   |some d=>.ok d
   |none=>.stuck
  |.str z=>if z.length<=line then match atI z.cps.toList i with
   |some c=>.ok (.str ⟨#[c]⟩)
   |none=>.stuck else .stuck
  |_=>.stuck
 |_=>.stuck
def Reps.atI{K:Ur}(h:Reps K H ds vs)(e:atI ds i=some d):∃v,L2.atI vs i=some v/\Rep K H d v:=by
 unfold L2.atI at e ⊢;rw[←h.length];cases q:uK ds.length i with
 |none=>rw[q]at e;cases e
 |some j=>
  rw[q]at e;exact h.get e
def KL:wX X.K E (Tp X.K) aO:=by
 intro x y v u H Ha Q hs r1 r2 q;unfold aO at q;cases y with
 |int i=>
  cases x with
  |lst ds=>
   obtain⟨l,vs,rfl,h1,h2⟩:=aJ.mp r1;cases e:atI ds i with
   |none=>simp only[e]at q;exact q.elim
   |some d=>
    simp only[e]at q;obtain⟨w,e1,e2⟩:=h2.atI e;exact .inl ⟨l,vs,i,w,rfl,aB.mp r2,aG.sqL hs h1,e1,bW hs q e2⟩
  |tup ds=>
   obtain⟨l,vs,rfl,h1,h2⟩:=aQ.mp r1;cases e:atI ds i with
   |none=>simp only[e]at q;exact q.elim
   |some d=>
    simp only[e]at q;obtain⟨w,e1,e2⟩:=h2.atI e;exact .inr (.inl ⟨l,vs,i,w,rfl,aB.mp r2,aG.sqT hs h1,e1,bW hs q e2⟩)
  |str z=>
   by_cases hz:z.length<=line
   .simp only[if_pos hz]at q
    cases e:atI z.cps.toList i with
    |none=>simp only[e]at q;exact q.elim
    |some c=>
     simp only[e]at q;exact .inr (.inr ⟨z,i,c,Rep.str_iff.mp r1,aB.mp r2,eg hz,e,bW hs q (Rep.str_iff.mpr rfl)⟩)
   .simp only[if_neg hz]at q;exact q.elim
  |_=>exact q.elim
 |_=>exact q.elim
def av(ha:DE X E a f)(hb:DE X E b g)(hs:nA b:=by intro _ _;rfl):DE X E (.Subscript a b pos) (ag f g aO):=Q5 FA KL ha hb hs
def dX:Ev->ar (Option Int):=λ_=>.ok none
def dP(f:am):Ev->ar (Option Int):=λρ=>(f ρ).bind λx=>match x with
 |.int i=>.ok (some i)
 |_=>.stuck
def Sk(K:Ur)(E:XK)(f:Ev->ar (Option Int)):TO:=λσ H Q=>∃Ha ρ,aG Ha H/\Reads K Ha σ ρ/\match f ρ with
 |.ok o=>∀H' Ha',bI H Ha H' Ha'->Q o H'
 |.exn x=>∀C ox H' Ha',bI H Ha H' Ha'->zc K Ha' x C ox->E C ox H'
 |.stuck=>False
structure DO (X:Cx) (E:XK) (e:Option Vl) (f:Ev->ar (Option Int)):Prop where
 o:PO X e (Sk X.K E f)
def Bg(h:PO X eo t)(w:∀σ H Q,t' σ H Q->t σ H Q):PO X eo t':=λπ s σ H Q I q=>h π s σ H Q I (w σ H Q q)
def eJ:DO X E none dX:=⟨Bg HS λσ H Q ⟨Ha,ρ,hs,hr,q⟩=>q H Ha (bI.refl hs)⟩
def eI(ha:DE X E a f):DO X E (some a) (dP f):=by
 refine⟨?_⟩;refine Bg (HR ha.o) λσ H Q z9=>?_;obtain⟨Ha,ρ,hs,hr,q⟩:=z9;refine⟨Ha,ρ,hs,hr,?_⟩
 unfold dP at q;cases e1:f ρ with
 |stuck|exn x=>rw[e1]at q;exact q
 |ok d=>
  rw[e1]at q;intro v H1 H01 g1 r1;cases d with|int i=>exact⟨i,aB.mp r1,q H1 H01 g1⟩| _=>exact q.elim
def iZ(xs:ac)(lo hi:Option Int):ac:=(xs.drop (HT.sIx xs.length 0 lo)).take (HT.sIx xs.length xs.length hi-HT.sIx xs.length 0 lo)
def Reps.cut{K:Ur}(h:Reps K H ds vs)(lo hi:Option Int):Reps K H (iZ ds lo hi) (yR vs lo hi):=by
 unfold iZ yR;rw[←h.length];exact(h.drop _).take _
def xD{lo hi:Ev->ar (Option Int)}{m:D->Option Int->Option Int->ar D}
  (ho:∀x v l h H Ha Q,aG Ha H->Rep X.K Ha x v->post X.K E H Ha (m x l h) Q->r v l h H Q)(σ:L2.St)(H:Hp)(Q:VK)
  (h:tD X.K E (λρ=>(f ρ).bind λx=>(lo ρ).bind λl=>(hi ρ).bind λh=>m x l h) σ H Q):Th r (tD X.K E f) (Sk X.K E lo) (Sk X.K E hi) σ H Q:=by
 obtain⟨Ha,ρ,hs,hr,q⟩:=h;refine⟨Ha,ρ,hs,hr,?_⟩;replace q:post X.K E H Ha ((f ρ).bind λx=>(lo ρ).bind λl=>(hi ρ).bind λh=>m x l h) Q:=q;cases e1:f ρ with
 |stuck|exn x=>rw[e1]at q;exact q
 |ok x=>
  rw[e1]at q;intro v H1 H01 g1 r1;refine⟨H01,ρ,g1.sub,hr.mono g1.z,?_⟩;replace q:post X.K E H Ha ((lo ρ).bind λl=>(hi ρ).bind λh=>m x l h) Q:=q;replace q:=q.grow g1;cases e2:lo ρ with
  |stuck|exn x=>rw[e2]at q;exact q
  |ok l=>
   rw[e2]at q;intro H2 H02 g2;refine⟨H02,ρ,g2.sub,(hr.mono g1.z).mono g2.z,?_⟩;replace q:post X.K E H1 H01 ((hi ρ).bind λh=>m x l h) Q:=q;replace q:=q.grow g2;cases e3:hi ρ with
   |stuck|exn x=>rw[e3]at q;exact q
   |ok h=>
    rw[e3]at q;intro H3 H03 g3;exact ho x v l h H3 H03 Q g3.sub ((r1.mono g2.z).mono g3.z) (post.grow (r:=m x l h) q g3)
def m1(m:D->ar D)(ds:ac):ar D:=match ds with
 |[x]=>m x
 |_=>.stuck
def m2(m:D->D->ar D)(ds:ac):ar D:=match ds with
 |[x,y]=>m x y
 |_=>.stuck
def sL(h:∀x v H Ha Q,aG Ha H->Rep X.K Ha x v->post X.K E H Ha (m x) Q->r [v] H Q):g9 X E r (m1 m):=by
 intro ds vs H Ha Q hs hr q;unfold m1 at q
 match ds,hr,q with
 |[x],hr,q=>
  obtain⟨v,r',rfl,h1,h2⟩:=aH.mp hr;rw[Reps.nil_iff.mp h2];exact h x v H Ha Q hs h1 q
 |[],_,q=>exact q.elim
 |_::_::_,_,q=>exact q.elim
def K4(h:∀x y v u H Ha Q,aG Ha H->Rep X.K Ha x v->Rep X.K Ha y u->post X.K E H Ha (m x y) Q->r [v,u] H Q):g9 X E r (m2 m):=by
 intro ds vs H Ha Q hs hr q;unfold m2 at q
 match ds,hr,q with
 |[x,y],hr,q=>
  obtain⟨v,r',rfl,h1,h2⟩:=aH.mp hr;obtain⟨u,r'',rfl,h3,h4⟩:=aH.mp h2;rw[Reps.nil_iff.mp h4];exact h x y v u H Ha Q hs h1 h3 q
 |[],_,q=>exact q.elim
 |[_],_,q=>exact q.elim
 |_::_::_::_,_,q=>exact q.elim
def Dn(x:D):ar D:=match x with
 |.int i=>.ok (.int (if i<0 then -i else i))
 |_=>.stuck
def NM(x y:D):ar D:=match x,y with
 |.int i,.int j=>.ok (.int (if j > i then j else i))
 |_,_=>.stuck
def cB(x:D):ar D:=match x with
 |.lst ds=>.ok (.int ds.length)
 |.tup ds=>.ok (.int ds.length)
 |.str z=>if z.length<=line then .ok (.int z.length) else .stuck
 |_=>.stuck
def iN(x:D):ar D:=match x with
 |.int i=>.ok (.int i)
 |.bl b=>.ok (.int (if b then 1 else 0))
 |_=>.stuck
def sq(x:D):ar D:=match x with
 |.lst ds=>.ok (.lst ds)
 |.tup ds=>.ok (.lst ds)
 |_=>.stuck
def AE:g9 X E (λxs H Q=>∃i,xs=[.int i]/\Q (.int (if i<0 then -i else i)) H) (m1 Dn):=sL λx v H Ha Q hs r q=>by
 cases x with|int i=>exact⟨i,by rw[aB.mp r],bW hs q (ri _)⟩| _=>exact q.elim
def NS:g9 X E (λxs H Q=>∃i j,xs=[.int i,.int j]/\Q (.int (if j > i then j else i)) H) (m2 NM):=K4 λx y v u H Ha Q hs r r' q=>by
 cases x with
 |int i=>
  cases y with|int j=>exact⟨i,j,by rw[aB.mp r,aB.mp r'],bW hs q (ri _)⟩| _=>exact q.elim
 |_=>exact q.elim
def cD:g9 X E (λxs H Q=>∃x n,xs=[x]/\Rz X.K x H n/\Q (.int n) H) (m1 cB):=sL λx v H Ha Q hs r q=>by
 cases x with
 |lst ds=>
  obtain⟨p,vs,rfl,h1,h2⟩:=aJ.mp r;refine⟨_,vs.length,rfl,.inl ⟨vs,aG.sqL hs h1,rfl⟩,?_⟩;rw[←h2.length];exact bW hs q (ri _)
 |tup ds=>
  obtain⟨p,vs,rfl,h1,h2⟩:=aQ.mp r;refine⟨_,vs.length,rfl,.inr ⟨vs,aG.sqT hs h1,rfl⟩,?_⟩;rw[←h2.length];exact bW hs q (ri _)
 |str z=>
  unfold cB at q
  by_cases hz:z.length<=line
  .simp only[if_pos hz]at q
   rw[Rep.str_iff.mp r];exact⟨_,z.length,rfl,⟨eg hz,rfl⟩,bW hs q (ri _)⟩
  .simp only[if_neg hz]at q;exact q.elim
 |_=>exact q.elim
def Gu:g9 X E (λxs H Q=>(∃i,xs=[.int i]/\Q (.int i) H)∨∃k,xs=[.bl k]/\Q (.int (if k then 1 else 0)) H) (m1 iN):=sL λx v H Ha Q hs r q=>by
 cases x with|int i=>exact .inl ⟨i,by rw[aB.mp r],bW hs q (ri _)⟩|bl i=>exact .inr ⟨i,by rw[aL.mp r],bW hs q (ri _)⟩| _=>exact q.elim
def ng(hc:gN X (.type T) r)(hd:g9 X E r m)(hg:Gl X x)(hm:X.mg x=none)(hv:bootBuiltins x=some (.type T))(ha:DA X E (e::es) fa)(hn:x≠"__name__":=by decide)(hdb:(x==("__debug__" : UP))=false:=by decide)
  (he:Uw (e::es) X.env=(false,eval e X.env)::Uw es X.env:=by exact aT rfl)(hpl:(Vy pos (Uw es X.env)).any (·.1)=false:=by exact bK rfl):DE X E (.Call (.Name x p) (e::es) [] pos) (ao fa m) :=
 ⟨bc (uz hc hg hm hv ha.o hn hdb he hpl) (lH hd)⟩
def J5(hg:Gl X "list")(hm:X.mg "list"=none)(ha:DA X E [x] fa)(he:Uw [x] X.env=(false,eval x X.env)::Uw [] X.env:=by exact aT rfl)(hpl:(Vy pos (Uw [] X.env)).any (·.1)=false:=by exact bK rfl) :
  DF X E (.Call (.Name "list" p) [x] [] pos) (ao fa (m1 sq)):=by
 refine⟨?_⟩;refine bc (uz wL hg hm PyProof.Rows.Boot.«list» ha.o (by decide) (by decide) he hpl) λσ H Q h=>?_;obtain⟨Ha,ρ,hs,hr,q⟩:=h;refine⟨Ha,ρ,hs,hr,?_⟩;unfold ao at q;cases e1:fa ρ with
 |stuck|exn x=>rw[e1]at q;exact q
 |ok ds=>
  rw[e1]at q;intro vs H1 H01 g1 r1;have fin:∀(es:ac) (us:al) (p:Uy),m1 sq ds=.ok (.lst es)->H1 p=none->Reps X.K H01 es us->Q (.ref p) (upd H1 p (.lst us)):=λes us p hm hp hu=>by
   have h0:H01 p=none:=g1.sub.free hp;have q':∀p vs H' Ha',bI H Ha H' Ha'->H p=none->Ha' p=none->H' p=some (.lst vs)->Reps X.K Ha' es vs->Q (.ref p) H':=by
    have q2:match m1 sq ds with
     |.ok (.lst ds)=>∀p vs H' Ha',bI H Ha H' Ha'->H p=none->Ha' p=none->H' p=some (.lst vs)->Reps X.K Ha' ds vs->Q (.ref p) H'
     |.ok _=>False
     |.exn x=>∀C ox H' Ha',bI H Ha H' Ha'->zc X.K Ha' x C ox->E C ox H'
     |.stuck=>False:=q
    rw[hm]at q2;exact q2
   refine q' p us _ H01 (g1.trans ⟨λb o q=>by rw[aA (bo q hp)];exact q,aG.refl _,λb o q=>?_,λa h1 h2=>absurd h2 h1⟩) (g1.s.free hp) h0 aE hu;rw[aA (by intro z;subst z;rw[h0]at q;cases q)];exact g1.sub _ _ q
  have q2:match m1 sq ds with
     |.ok (.lst ds)=>∀p vs H' Ha',bI H Ha H' Ha'->H p=none->Ha' p=none->H' p=some (.lst vs)->Reps X.K Ha' ds vs->Q (.ref p) H'
     |.ok _=>False
     |.exn x=>∀C ox H' Ha',bI H Ha H' Ha'->zc X.K Ha' x C ox->E C ox H'
     |.stuck=>False:=q
  match ds,r1,q2,fin with
  |[],_,q2,_=>exact q2.elim
  |_::_::_,_,q2,_=>exact q2.elim
  |[x],r1,q2,fin=>
   obtain⟨v,r',rfl,h1,h2⟩:=aH.mp r1;rw[Reps.nil_iff.mp h2];cases x with
   |lst ds=>
    obtain⟨p,vs,rfl,k1,k2⟩:=aJ.mp h1;exact⟨p,vs,rfl,.inl (aG.sqL g1.sub k1),λn hn=>fin ds vs n rfl hn k2⟩
   |tup ds=>
    obtain⟨p,vs,rfl,k1,k2⟩:=aQ.mp h1;exact⟨p,vs,rfl,.inr (aG.sqT g1.sub k1),λn hn=>fin ds vs n rfl hn k2⟩
   |_=>exact q2.elim
def FE:D->Bool
 |.non=>true
 |_=>false
def nk(x y:D):ar D:=match y with
 |.non=>.ok (.bl (FE x))
 |_=>.stuck
def nj(x y:D):ar D:=match y with
 |.non=>.ok (.bl (!(FE x)))
 |_=>.stuck
def Rep.is_non{K:Ur}(r:Rep K H x v):decide (v=.non)=FE x:=by
 cases x with|non=>rw[aZ.mp r];rfl|bl b=>rw[aL.mp r];rfl|int b=>rw[aB.mp r];rfl|str b=>rw[Rep.str_iff.mp r];rfl|tup ds=>obtain⟨_,_,e,_⟩:=aQ.mp r;rw[e];rfl|lst ds=>obtain⟨_,_,e,_⟩:=aJ.mp r;rw[e];rfl|dic ks ds=>rw[Rep]at r;obtain⟨_,_,_,e,_⟩:=r;rw[e];rfl|exc x=>obtain⟨_,_,_,e,_⟩:=fL.mp r;rw[e];rfl|ob k x=>obtain⟨_,_,e,_⟩:=fD.mp r;rw[e];rfl
def qU:wX X.K E (λx y H Q=>y=.non/\Q (.bl (decide (x=.non))) H) nk:=by
 intro x y v u H Ha Q hs r1 r2 q;unfold nk at q;cases y with|non=>exact⟨aZ.mp r2,by rw[r1.is_non];exact bW hs q (rb _)⟩| _=>exact q.elim
def Bv:wX X.K E (λx y H Q=>y=.non/\Q (.bl (!decide (x=.non))) H) nj:=by
 intro x y v u H Ha Q hs r1 r2 q;unfold nj at q;cases y with
 |non=>
  refine⟨aZ.mp r2,?_⟩;rw[r1.is_non];exact bW hs q (rb _)
 |_=>exact q.elim
def zf:D->String
 |.non=>"NoneType"
 |.bl _=>"bool"
 |.int _=>"int"
 |.str _=>"str"
 |.tup _=>"tuple"
 |.lst _=>"list"
 |.dic _ _=>"dict"
 |.exc _=>"<exc>"
 |.ob (.ins _ _) _=>"<exc>"
 |.ob (.dint _) _=>"dict"
 |.ob (.exf _ _) _=>"<exc>"
def b9(T:String)(x:D):ar D:=.ok (.bl (zf x==T||(zf x=="bool"&&T=="int")))
def tw(K:Ur)(T:String):Prop:=∀S,S∈["NoneType","bool","int","str","tuple","list","dict"]->Yi K (.type S) (.type T)=some (S==T||(S=="bool"&&T=="int"))
def FC{A:Vn}(I:Inv X π σ H s)(r:Rep X.K H x v)(q:b3 v u)(hk:tw X.K T)(hT:T∈iR)(h:∀tk,Q (.bool (zf x==T||(zf x=="bool"&&T=="int"))) { s with toks:=tk }) :
  UR (UT X.prog X.w) A (call (.builtin "isinstance") [u,.type T]) Q X.xe s:=by
 cases x with
 |non=>rw[aZ.mp r]at q;exact lr I q .non (hk _ (by simp)) h|bl b=>rw[aL.mp r]at q;exact lr I q (.bl b) (hk _ (by simp)) h|int b=>rw[aB.mp r]at q;exact lr I q (.int b) (hk _ (by simp)) h|str b=>rw[Rep.str_iff.mp r]at q;exact lr I q (.str b) (hk _ (by simp)) h
 |tup ds=>
  obtain⟨a,vs,its,rfl,rfl,h1,h2,h3,h4,_⟩:=bH I r q;obtain⟨o,k1,k2,_⟩:=h4;exact VV W.kitx_tuple I.kIn ⟨o,k1,k2⟩ (hk _ (by simp)) (λz=>nomatch z) h
 |lst ds=>
  obtain⟨a,vs,its,rfl,rfl,h1,h2,h3,h4,_⟩:=br I r q;obtain⟨o,k1,k2,_⟩:=h4;exact VV ZA I.kIn ⟨o,k1,k2⟩ (hk _ (by simp)) (λz=>nomatch z) h
 |dic ks ds=>
  rw[Rep]at r;obtain⟨a,kvs,vs,rfl,h1,h2,_⟩:=r;cases (show u=Ve a from q);obtain⟨_,_,vs',_,p⟩:=h1.ok I.hok;obtain⟨o,es,ep,k1,k2,_⟩:=p;exact VV Yy I.kIn ⟨o,k1,k2.1⟩ (hk _ (by simp)) (λz=>nomatch z) h
 |exc x=>
  obtain⟨a,C,dc,rfl,hc,h1⟩:=fL.mp r;cases (show u=Ve a from q);obtain⟨p,_,_⟩:=h1.ok I.hok;have e:(zf (.exc x)==T||(zf (.exc x)=="bool"&&T=="int"))=false:=by
   have:∀T∈iR,(zf (.exc x)==T||(zf (.exc x)=="bool"&&T=="int"))=false:=by show ∀T∈iR,("<exc>"==T||("<exc>"=="bool"&&T=="int"))=false;decide
   exact this T hT
  rw[e]at h;exact VV (mO hc.ek hc.ek.isCls) I.kIn p (hc.bt T hT) (λz=>nomatch z) h
 |ob k xs=>
  obtain⟨a,vs,rfl,h1,_⟩:=fD.mp r;cases (show u=Ve a from q);cases k with
  |exf c ks=>
   obtain⟨C,dx,fs,hc,h2,_⟩:=h1;obtain⟨p,_,_⟩:=h2.ok I.hok;have e:(zf (.ob (.exf c ks) xs)==T||(zf (.ob (.exf c ks) xs)=="bool"&&T=="int"))=false:=by
    have:∀T∈iR,("<exc>"==T||("<exc>"=="bool"&&T=="int"))=false:=by decide
    exact this T hT
   rw[e]at h;exact VV (mO hc.ek hc.ek.isCls) I.kIn p (hc.bt T hT) (λz=>nomatch z) h
  |ins c ks=>
   obtain⟨C,dx,_,hc,h2,_⟩:=h1;obtain⟨mA,O,_⟩:=BL I.hok h2;obtain⟨od,O',_⟩:=O.look;have e:(zf (.ob (.ins c ks) xs)==T||(zf (.ob (.ins c ks) xs)=="bool"&&T=="int"))=false:=by
    have:∀T∈iR,(zf (.ob (.ins c ks) xs)==T||(zf (.ob (.ins c ks) xs)=="bool"&&T=="int"))=false:=by show ∀T∈iR,("<exc>"==T||("<exc>"=="bool"&&T=="int"))=false;decide
    exact this T hT
   rw[e]at h;exact VV (W.kitx_own (hc.cls.get _) hc.cls.hd hc.gc hc.gn hc.tk hc.mo) I.kIn O' (hc.bt T hT) (λz=>nomatch z) h
  |dint ks=>
   obtain⟨kvs,h2,_⟩:=h1;obtain⟨_,_,vs',_,p⟩:=h2.ok I.hok;obtain⟨o,es,ep,k1,k2,_⟩:=p;exact VV Yy I.kIn ⟨o,k1,k2.1⟩ (hk _ (by simp)) (λz=>nomatch z) h
def bQ(hk:tw X.K T)(hgi:Gl X "isinstance")(hmi:X.mg "isinstance"=none)(hg:Gl X x)(hm:X.mg x=none)(hv:bootBuiltins x=some (.type T))(ha:DE X E a f)
  (hn:x≠"__name__":=by decide)(hdb:(x==("__debug__" : UP))=false:=by decide)(hT:T∈iR:=by decide)
  (he:Uw [a,.Name x p2] X.env=(false,eval a X.env)::Uw [.Name x p2] X.env:=by exact aT rfl)(he2:Uw [.Name x p2] X.env=(false,eval (.Name x p2) X.env)::Uw [] X.env:=by exact aT rfl)(hpl:(Vy pos (Uw [.Name x p2] X.env)).any (·.1)=false:=by exact bK rfl) :
  DE X E (.Call (.Name "isinstance" p1) [a,.Name x p2] [] pos) (aY f (b9 T)):=by
 refine⟨?_⟩;refine bc (kO (r:=λvs H Q=>∃d v,vs=[v,.ty T]/\Rep X.K H d v/\Q (.bl (zf d==T||(zf d=="bool"&&T=="int"))) H) ?_ hgi hmi PyProof.Rows.Boot.«isinstance» (dj ha.o (dj (Bm (v:=.ty T) hg hm hv rfl hn hdb) fU he2) he) (by decide) (by decide) he hpl) λσ H Q ⟨Ha,ρ,hs,hr,q⟩=>⟨Ha,ρ,hs,hr,?_⟩
 .intro π s σ H xs us Q I r h
  obtain⟨d,v,rfl,h1,q⟩:=h;cases r with
  |cons r1 r2=>
   cases r2 with
   |cons r3 r4=>
    cases r4;rename_i u1 u2;obtain rfl:u2=Value.type T:=r3;exact FC I h1 r1 hk hT λtk=>⟨.bl _,H,I.tok _,rfl,q⟩
 .unfold aY at q
  cases e1:f ρ with
  |stuck|exn x=>rw[e1]at q;exact q
  |ok d=>
   rw[e1]at q;intro v H1 H01 g1 r1;exact⟨d,v,rfl,r1.mono g1.sub,q _ H1 H01 g1 (rb _)⟩
end
theorem uT{prog:Vt}{w:VH}{A:Vn}{E:Up->UD->Prop}{it t:Uy}{items:Array Up}(hne:t≠it):∀(n i:Nat) (s:UD) (Q:List Up->UD->Prop),s.heap.IsListIter it t i->s.heap.IsList t items->i+n<=items.size ->
  (∀h',h'.IsListIter it t (i+n)->XU it s.heap h'->Q ((items.toList.drop i).take n) { s with heap:=h' })->UR (UT prog w) A (draw (.ref it) n) Q E s
 |0,i,s,Q,hit,_,_,hQ=>by
  show UR _ _ (pure []) Q E s;exact UY (by simpa using hQ s.heap hit (XU.refl ..))
 |n+1,i,s,Q,hit,ht,hle,hQ=>by
  have hlt:i<items.size:=by omega
  show UR _ _ (Zf (.ref it) >>= _) Q E s;refine Uv (wpAny_pyNext_list_item hit ht (x:=items[i]) (by simp[hlt]) λhU hit₁ hs₁=>?_);have ht₁:hU.IsList t items:=by
   obtain⟨o,k1,k2⟩:=ht;exact⟨o,(hs₁.2 t hne).trans k1,k2⟩
  refine Uv (VP (uT hne n (i+1) _ _ hit₁ ht₁ (by omega) λhV hit₂ hs₂=>UY ?_));have hd:items.toList.drop i=items[i]::items.toList.drop (i+1):=by simp[Vk,hlt]
  have:=hQ hV (by rw[show i+(n+1)=i+1+n by omega];exact hit₂) (hs₁.trans hs₂);rw[hd,List.take_succ_cons]at this;exact this
def nH{A:Vn}(hh:A.handled=none)(ht:s.heap.IsList t items)
  (hQ:∀h',Heap.ExtBut s.heap.objs.size s.heap h'->Q items.toList { s with heap:=h' }):UR (UT prog w) A (unpackItems (.ref t) items.size none) Q E s:=by
 have hlt:t≠s.heap.objs.size:=by obtain⟨o,ho,_⟩:=ht;exact U2 (UN ho)
 unfold unpackItems;refine Uv ?_
 .unfold notIterableAtAll
  refine Uv (wpAny_specialOf ht.typeIs slot_list_iter.lookup ?_);refine UY ?_;simp only[Bool.false_eq_true,if_false];refine Uv (VP (wpAny_pyIter_list ht ?_));have ht0:(s.heap.push { cls:=.type "list_iterator",data:=.fields #[.ref t,.int 0 0] }).IsList t items:=by
   obtain⟨o,k1,k2⟩:=ht;exact⟨o,Uz _ k1,k2⟩
  refine Uv (VP (uT hlt items.size 0 _ _ ⟨_,Vr _ rfl,rfl,rfl⟩ ht0 (by omega) λhU hit₁ hs₁=>?_));have hall:List.take items.size (List.drop 0 items.toList)=items.toList:=by
   rw[VR];exact W7 (by simp)
  rw[hall];rw[if_neg (by simp)];have ht₁:hU.IsList t items:=by
   obtain⟨o,k1,k2⟩:=ht0;exact⟨o,(hs₁.2 t hlt).trans k1,k2⟩
  refine Uv (VP (wpAny_pyNext_list_end hh hit₁ ht₁ (by simp) λhV he₂=>?_));simp only[Option.isSome_none,Bool.false_eq_true,if_false];refine UY (hQ hV λb o hb e=>he₂ b o hb (hs₁.extBut b o hb (Uz _ e)))
def zA(σ:L2.St):bv->al->L2.St
 |i::is,v::vs=>zA (σ.set i (some v)) is vs
 |_,_=>σ
def dA(ρ:Ev):bv->ac->Ev
 |i::is,d::ds=>dA (ρ.set i (.sh d)) is ds
 |_,_=>ρ
theorem fj.putAll{K:Ur}{He η Ha H:Hp}:∀{is:bv}{ds:ac}{vs:al}{σ:L2.St}{ρ:Ev},fj K He η Ha σ H ρ->Reps K Ha ds vs->fj K He η Ha (zA σ is vs) H (dA ρ is ds)
 |[],_,_,_,_,h,_=>by unfold zA dA;exact h
 |_::_,[],_,_,_,h,r=>by rw[Reps.nil_iff.mp r];unfold zA dA;exact h
 |i::is,d::ds,_,_,_,h,r=>by
  obtain⟨v,vs,rfl,h1,h2⟩:=aH.mp r;unfold zA dA;exact fj.putAll (h.put h1) h2
section
variable {X:Cx}{E:XK}{He η:Hp}{e a b:Vl}{es:List Vl}{f g:am}{fa:Ev->ar (ac)}{pos:Pos}{is:bv}
def Ln(is:bv):OA:=λvs σ H Q=>vs.length=is.length/\Q (zA σ is vs) H
def xV(h:Ck X es t)(w:∀vs σ H Q,t' vs σ H Q->t vs σ H Q):Ck X es t':=λπ s σ H vs us Q I r q=>h π s σ H vs us Q I r (w vs σ H Q q)
def eY:Ck X [] (Ln []):=xV HW λvs σ H Q z9=>by
 obtain⟨h,q⟩:=z9;have e:vs=[]:=Ws.mp h;subst e;exact⟨rfl,q⟩
def bR(hN:X.N.Nodup)(hi:X.N[i]?=some x)(hx:Cm X.env.scope x)(h:Ck X es (Ln is))(hf:X.fn x=true∨X.env.scope.names.lookup x=some .local := by first|exact .inl rfl|exact .inr rfl|assumption)
  (hs:(assignEach (.Name x p::es) X.env).map (·.2)=assign (.Name x p) X.env::(assignEach es X.env).map (·.2):=by rfl):Ck X (.Name x p::es) (Ln (i::is)) :=
 xV (EU (Bj hN hi hx hf) h hs) λvs σ H Q z9=>by
  obtain⟨h,q⟩:=z9;cases vs with|nil=>simp at h|cons v vs=>exact⟨v,vs,rfl,by simpa using h,q⟩
def HX(hc:X.calm=true)(h:Ck X es t)
  (hn:(assignEach es X.env).length=n:=by rfl)(hst:(assignEach es X.env).findIdx? (·.1)=none:=by rfl):PG X (.Tuple es k pos) (λv σ H Q=>∃a xs,v=.ref a/\fM X.K H a xs/\xs.length=n/\t xs σ H Q):=by
 intro π s σ H v u Q I r hw;obtain⟨a,xs,e1,hq,hl,hw⟩:=hw;subst e1;cases r;obtain⟨its,rv,ht,hz⟩:=I.list hq;rw[assign_Tuple];refine Uv (wpAny_standAt ?_);unfold unpack;rw[hn,hst];have hsz:n=its.toArray.size:=by rw[UM,←rv.length,hl]
 rw[hsz];refine Uv (VP (nH (I.ok.hd hc) ht.isList λh' hx=>?_));have I1:Inv X π σ H { s with heap:=h' }:=I.kept (t':=s.toks) λb o e=>hx b o (U2 (UN e)) e;exact h π _ σ H xs _ Q I1 (by simpa using rv) hw
def Pp(h:PG X tgt t)(h':PG X tgt t'):PG X tgt (λv σ H Q=>t v σ H Q∨t' v σ H Q):=λπ s σ H v u Q I r q=>q.elim (h π s σ H v u Q I r) (h' π s σ H v u Q I r)
def zH(hc:X.calm=true)(h:Ck X es (Ln is))(hn:(assignEach es X.env).length=is.length:=by rfl)(hst:(assignEach es X.env).findIdx? (·.1)=none:=by rfl) :
  PG X (.Tuple es k pos) (λv σ H Q=>∃a xs,v=.ref a/\(kC X.K H a xs∨fM X.K H a xs)/\xs.length=is.length/\Q (zA σ is xs) H) :=
 vO (Pp (LQ hc h hn hst) (HX hc h hn hst)) λv σ H Q ⟨a,xs,e,hq,hl,q⟩=>hq.elim (λz=>.inl ⟨a,xs,e,z,hl,hl,q⟩) λz=>.inr ⟨a,xs,e,z,hl,hl,q⟩
def eT(n:Nat)(d:D):Option (ac):=match d with
 |.tup ds=>if ds.length=n then some ds else none
 |.lst ds=>if ds.length=n then some ds else none
 |_=>none
def kP{K:Ur}(h:eT n d=some ds)(r:Rep K H d v):∃a vs,v=.ref a/\(kC K H a vs∨fM K H a vs)/\vs.length=n/\Reps K H ds vs:=by
 unfold eT at h;cases d with
 |tup es=>
  by_cases c:es.length=n
  .simp only[if_pos c]at h;cases h
   obtain⟨a,vs,rfl,h1,h2⟩:=aQ.mp r;exact⟨a,vs,rfl,.inl h1,by rw[←h2.length];exact c,h2⟩
  .simp only[if_neg c]at h;cases h
 |lst es=>
  by_cases c:es.length=n
  .simp only[if_pos c]at h;cases h
   obtain⟨a,vs,rfl,h1,h2⟩:=aJ.mp r;exact⟨a,vs,rfl,.inr h1,by rw[←h2.length];exact c,h2⟩
  .simp only[if_neg c]at h;cases h
 |_=>cases h
def qw{K:Ur}{a:Uy}(hs:aG H H')(h:kC K H a vs∨fM K H a vs):kC K H' a vs∨fM K H' a vs:=h.elim (λz=>.inl (aG.sqT hs z)) λz=>.inr (aG.sqL hs z)
def Ly(is:bv)(f:am):bd:=λρ=>(f ρ).bind λd=>match eT is.length d with
 |some ds=>.ok (.nx (dA ρ is ds))
 |none=>.stuck
def Nw(hc:X.calm=true)(he:DE X E e f)(h:Ck X es (Ln is))(hs:swapsWithSole [.Tuple es k tp] e pos.line X.env=pure false:=by rfl)(hw:swappedStores [.Tuple es k tp] e X.env=pure none:=by rfl)
  (h1:(assignEach [.Tuple es k tp] X.env).map (·.2)=[assign (.Tuple es k tp) X.env]:=by rfl)(hn:(assignEach es X.env).length=is.length:=by rfl)(hst:(assignEach es X.env).findIdx? (·.1)=none:=by rfl) :
  DS X E He η (.Assign [.Tuple es k tp] e pos) (Ly is f):=by
 refine⟨?_⟩;refine b4 (vM he.o (zH hc h hn hst) hs hw h1) λD σ H z9=>?_;obtain⟨Ha,ρ,h,q⟩:=z9;refine⟨Ha,ρ,h.g.sub,h.rd,?_⟩
 refine plain (k:=λd=>match eT is.length d with
  |some ds=>.ok (.nx (dA ρ is ds))
  |none=>.stuck) h q λd v H' Ha' _ g rp q'=>?_
 cases e1:eT is.length d with
 |none=>rw[e1]at q';exact q'.elim
 |some ds=>
  rw[e1]at q';obtain⟨a,vs,rfl,k1,k2,k3⟩:=kP e1 rp;exact⟨a,vs,rfl,qw g.sub k1,k2,q' _ H' Ha' (aG.refl _) ((h.grow g).putAll k3)⟩
def el(is:bv):Ev->D->ar Ev:=λρ d=>match eT is.length d with
 |some ds=>.ok (dA ρ is ds)
 |none=>.stuck
def ij:vi (el is):=λρ d=>by
 unfold el;cases eT is.length d with|none=>exact .inl rfl|some ds=>exact .inr ⟨_,rfl⟩
def iK(hc:X.calm=true)(h:Ck X es (Ln is))(hn:(assignEach es X.env).length=is.length:=by rfl)(hst:(assignEach es X.env).findIdx? (·.1)=none:=by rfl):DG X E He η (.Tuple es k pos) (el is) :=
 ⟨vO (zH hc h hn hst) λv σ H Q z9=>by
  obtain⟨Ha,ρ,d,h,rp,q⟩:=z9;unfold el at q;cases e1:eT is.length d with
  |none=>rw[e1]at q;exact q.elim
  |some ds=>
   rw[e1]at q;obtain⟨a,vs,rfl,k1,k2,k3⟩:=kP e1 rp;exact⟨a,vs,rfl,qw h.g.sub k1,k2,q _ H Ha (aG.refl _) (h.putAll k3)⟩⟩
def tO(i j:Nat)(fa:Ev->ar (ac)):bd:=λρ=>(fa ρ).bind λds=>match ds with
 |[x,y]=>.ok (.nx ((ρ.set i (.sh x)).set j (.sh y)))
 |_=>.stuck
def Nz{px py pt pt2:Pos}{kt k2}(hc:X.calm=true)(hN:X.N.Nodup)(hi:X.N[i]?=some x)(hj:X.N[j]?=some y)(hij:i≠j)
  (hx:X.env.scope.names.lookup x=some .local)(hy:X.env.scope.names.lookup y=some .local)(ha:DA X E [a,b] fa)
  (hw:swappedStores [.Tuple [.Name x px,.Name y py] kt pt] (.Tuple [a,b] k2 pt2) X.env=pure (some [x,y]))
  (hs:swapsWithSole [.Tuple [.Name x px,.Name y py] kt pt] (.Tuple [a,b] k2 pt2) pos.line X.env=pure false:=by rfl) :
  DS X E He η (.Assign [.Tuple [.Name x px,.Name y py] kt pt] (.Tuple [a,b] k2 pt2) pos) (tO i j fa):=by
 refine⟨?_⟩;refine b4 (LN hc hN hi hj hij hx hy ha.o hw hs) λD σ H z9=>?_;obtain⟨Ha,ρ,h,q⟩:=z9;refine⟨Ha,ρ,h.g.sub,h.rd,?_⟩
 unfold tO at q;cases e1:fa ρ with
 |stuck=>rw[e1]at q;exact q|exn x=>rw[e1]at q;exact λC ox H' Ha' g ex=>q C ox H' Ha' (h.g.trans g) ex
 |ok ds=>
  rw[e1]at q;intro vs H1 H01 g1 r1
  match ds,r1,q with
  |[x,y],r1,q=>
   obtain⟨v,r',rfl,h1,h2⟩:=aH.mp r1;obtain⟨u,r'',rfl,h3,h4⟩:=aH.mp h2;rw[Reps.nil_iff.mp h4];exact⟨v,u,rfl,q _ H1 H01 g1.z (((h.grow g1).put h1).put h3)⟩
  |[],_,q=>exact q.elim
  |[_],_,q=>exact q.elim
  |_::_::_::_,_,q=>exact q.elim
end
def l7{K:Ur}:tw K "int":=by
 intro S hS;simp only[UI,Xd,or_false]at hS;rcases hS with rfl|rfl|rfl|rfl|rfl|rfl|rfl<;>first|rfl|decide +kernel
def i6{K:Ur}:tw K "bool":=by
 intro S hS;simp only[UI,Xd,or_false]at hS;rcases hS with rfl|rfl|rfl|rfl|rfl|rfl|rfl<;>first|rfl|decide +kernel
def rf{K:Ur}:tw K "str":=by
 intro S hS;simp only[UI,Xd,or_false]at hS;rcases hS with rfl|rfl|rfl|rfl|rfl|rfl|rfl<;>first|rfl|decide +kernel
def eW{K:Ur}:tw K "tuple":=by
 intro S hS;simp only[UI,Xd,or_false]at hS;rcases hS with rfl|rfl|rfl|rfl|rfl|rfl|rfl<;>first|rfl|decide +kernel
def dY{K:Ur}:tw K "list":=by
 intro S hS;simp only[UI,Xd,or_false]at hS;rcases hS with rfl|rfl|rfl|rfl|rfl|rfl|rfl<;>first|rfl|decide +kernel
section
variable {X:Cx}{E:XK}{He η:Hp}{e a b c:Vl}{f g h:am}{pos:Pos}
def dv(i:Nat)(hN:X.N[i]?=some x:=by rfl)(hv:zj X.env.scope x:=by first|exact UB rfl|exact YI (UB rfl)|exact YI (YI rfl))(hd:(x==("__debug__" : UP))=false:=by decide)
  (hcd:(x==("__classdict__" : UP))=false:=by decide):DE X E (.Name x pos) (af i):=NH hN hv hd hcd
def ue(K:Ur)(mg:UP->Option Up)(x:UP)(d:D):Prop:=∃v u,mg x=some u/\b3 v u/\∀H,Rep K H d v
def bu(k:ue X.K X.mg x d)(hg:Gl X x)(hd:(x==("__debug__" : UP))=false:=by decide):DE X E (.Name x pos) (dC d):=by
 obtain⟨v,u,h1,h2,h3⟩:=k;exact Ka hg h1 h2 h3 hd
def eV{K:Ur}(h:mg x=some (.int i t)):ue K mg x (.int i):=⟨.int i,_,h,⟨t,rfl⟩,λ_=>ri _⟩
def IA{K:Ur}(h:mg x=some (.str i t)):ue K mg x (.str i):=⟨.str i,_,h,⟨t,rfl⟩,λ_=>Rep.str_iff.mpr rfl⟩
def v8{K:Ur}{a:Uy}(h:mg x=some (.ref a))(l:K.lookup a=some ⟨.type "tuple",od,.seq its n,sl⟩)
  (hv:bz vs its.toList)(hz:its.size<=sizeLine)(hd:∀H,Reps K H ds vs):ue K mg x (.tup ds):=⟨.ref a,_,h,rfl,λH=>aQ.mpr ⟨a,vs,rfl,.inr ⟨_,its,n,l,rfl,rfl,hz,hv⟩,hd H⟩⟩
def iO(op op':D->D->ar D)(f g h:am):am:=λρ=>(f ρ).bind λx=>(g ρ).bind λy=>(op x y).bind λz=>match z with
 |.bl true=>(h ρ).bind λw=>op' y w
 |.bl false=>.ok (.bl false)
 |_=>.stuck
def tm(r:R2)(o:D->D->ar D):Prop:=∀(K:Ur) (x y:D) (v u:V) (H Ha:Hp) (Q:VK) (d:D),aG Ha H->Rep K Ha x v->Rep K Ha y u->o x y=.ok d->(∀w,Rep K Ha d w->Q w H)->r v u H Q
def fE{g:Int->Int->D}(hg:∀K H i j,Rep K H (g i j) (gv i j)):tm (GU gv) (yw (λ_ _=>true) g):=by
 intro K x y v u H Ha Q d hs r1 r2 e q;unfold yw at e;cases x with
 |int i=>
  cases y with|int j=>simp only[if_pos]at e;cases e;exact⟨i,j,aB.mp r1,aB.mp r2,q _ (hg _ _ i j)⟩| _=>cases e
 |_=>cases e
def tq(o:D->D->ar D):Prop:=∀x y,∀z,o x y≠.exn z
def o7(p:tm r o)(p':tm r' o')(n:tq o)(n':tq o')(σ:L2.St)(H:Hp)(Q:VK)(q:tD X.K E (iO o o' f g h) σ H Q) :
  zt r r' (tD X.K E f) (tD X.K E g) (tD X.K E h) σ H Q:=by
 obtain⟨Ha,ρ,hs,hr,q⟩:=q;refine⟨Ha,ρ,hs,hr,?_⟩;unfold iO at q;cases e1:f ρ with
 |stuck|exn x=>rw[e1]at q;exact q
 |ok x=>
  rw[e1]at q;intro v H1 H01 g1 r1;refine⟨H01,ρ,g1.sub,hr.mono g1.z,?_⟩;replace q:=post.grow (r:=(g ρ).bind λy=>(o x y).bind λz=>match z with
   |.bl true=>(h ρ).bind λw=>o' y w
   |.bl false=>.ok (.bl false)
   |_=>.stuck) q g1
  cases e2:g ρ with
  |stuck|exn x=>rw[e2]at q;exact q
  |ok y=>
   rw[e2]at q;intro u H2 H02 g2 r2;replace q:=post.grow (r:=(o x y).bind λz=>match z with
    |.bl true=>(h ρ).bind λw=>o' y w
    |.bl false=>.ok (.bl false)
    |_=>.stuck) q g2
   cases e3:o x y with
   |stuck=>rw[e3]at q;exact q.elim|exn z=>exact absurd e3 (n x y z)
   |ok z=>
    rw[e3]at q;refine p X.K x y v u H2 H02 _ z g2.sub (r1.mono g2.z) r2 e3 λw rw'=>?_;cases z with
    |bl b=>
     rw[aL.mp rw'];refine⟨b,rfl,?_⟩;cases b with
     |false=>rw[if_neg VO];exact q _ H2 H02 (bI.refl g2.sub) (rb _)
     |true=>
      rw[if_pos rfl];refine⟨H02,ρ,g2.sub,(hr.mono g1.z).mono g2.z,?_⟩;replace q:post X.K E H2 H02 ((h ρ).bind λw=>o' y w) Q:=q;cases e4:h ρ with
      |stuck|exn x=>rw[e4]at q;exact q
      |ok w2=>
       rw[e4]at q;intro v3 H3 H03 g3 r3;replace q:=post.grow (r:=o' y w2) q g3;cases e5:o' y w2 with
       |stuck=>rw[e5]at q;exact q.elim|exn z=>exact absurd e5 (n' y w2 z)
       |ok d=>
        rw[e5]at q;exact p' X.K y w2 u v3 H3 H03 Q d g3.sub (r2.mono g3.z) r3 e5 λw3 r5=>q w3 H3 H03 (bI.refl g3.sub) r5
    |_=>exact q.elim
def yP(ho:gr X (Vw op) r)(ho':gr X (Vw op') r')(p:tm r o)(p':tm r' o')(n:tq o)(n':tq o')(ha:DE X E a f)(hb:DE X E b g)(hc:DE X E c h)
  (hm:lastMarks [op,op'] [b,c]=false:=by with_unfolding_all rfl):DE X E (.Compare a [op,op'] [b,c] pos) (iO o o' f g h):=⟨bc (E1 ho ho' ha.o hb.o hc.o hm) (o7 p p' n n')⟩
def yN(ho:gr X (Vw op) r)(ho':gr X (Vw op') r')(p:tm r o)(p':tm r' o')(n:tq o)(n':tq o')(ha:DE X E a f)(hb:DE X E b g)(hc:DE X E c h)
  (hm:lastMarks [op,op'] [b,c]=false:=by with_unfolding_all rfl):DT X E (.Compare a [op,op'] [b,c] pos) (iO o o' f g h):=by
 refine⟨?_⟩;refine ic (EM ho ho' ha.o hb.o hc.o hm) λσ H Q q=>?_;have w:tD X.K E (iO o o' f g h) σ H λx H'=>∃k,x=.bl k/\Q k H':=by
  obtain⟨Ha,ρ,hs,hr,q⟩:=q;refine⟨Ha,ρ,hs,hr,?_⟩;cases e1:iO o o' f g h ρ with
  |stuck|exn x=>rw[e1]at q;exact q
  |ok d=>
   rw[e1]at q;intro v H1 H01 g1 r1;cases d with|bl b=>rw[aL.mp r1];exact⟨b,rfl,q H1 H01 g1⟩| _=>exact q.elim
 exact o7 p p' n n' σ H _ w
def fG{c:Int->Int->Bool}{g:Int->Int->D}:tq (yw c g):=by
 intro x y z;unfold yw;cases x<;>cases y<;>simp<;>split<;>simp
end
def lu(i:Nat):Ev->Nat:=λρ=>match ρ[i]? with
 |some (.sh (.int j))=>j.natAbs+1
 |_=>0
section
variable {X:Cx}{E:XK}{a b:Vl}{f g:am}{pos:Pos}
def cx(x y:D):ar D:=match x,y with
 |.int i,.int j=>if fW i j=true then .ok (.int (i*j)) else .stuck
 |_,_=>.stuck
def dH(ha:DE X E a f)(hb:DE X E b g):DE X E (.BinOp a .Mult b pos) (ag f g cx):=uU HZ (by
 intro x y v u H Ha Q hs r1 r2 q;unfold cx at q;cases x with
 |int i=>
  cases y with
  |int j=>
   by_cases h:fW i j=true
   .simp only[if_pos h]at q
    exact⟨i,j,aB.mp r1,aB.mp r2,fW.ok h,bW hs q (ri _)⟩
   .simp only[if_neg h]at q;exact q.elim
  |_=>exact q.elim
 |_=>exact q.elim) ha hb
end
def Mv(K:Ur)(tg:Ev->D->ar Ev):TG:=λv σ H Q=>∃He η,tG K He η tg v σ H Q
theorem Reps.rep{K:Ur}(h:Reps K H ds vs):∀k:Nat,Reps K H (UJ k ds).flatten (UJ k vs).flatten
 |0=>by simp;exact Reps.nil
 |k+1=>by
  rw[Vz,Vz,Wo,Wo];exact h.app (Reps.rep h k)
section
variable {X:Cx}{E:XK}{a b:Vl}{f g:am}{pos:Pos}
def yQ(x y:D):ar D:=match x,y with
 |.lst ds,.int k=>if ds.length*k.toNat<=line/\-9223372036854775808<=k/\k<9223372036854775808 then .ok (.lst (UJ k.toNat ds).flatten) else .stuck
 |_,_=>.stuck
def HK(f g:am):am:=λρ=>(f ρ).bind λx=>match x with
 |.lst ds=>(g ρ).bind λy=>yQ (.lst ds) y
 |_=>.stuck
def NJ(ha:DF X E a f)(hb:DE X E b g):DE X E (.BinOp a .Mult b pos) (HK f g):=by
 refine⟨?_⟩;refine bc (EX L7 ha.o hb.o) λσ H Q z9=>?_;obtain⟨Ha,ρ,hs,hr,q⟩:=z9;refine⟨Ha,ρ,hs,hr,?_⟩
 unfold HK at q;cases e1:f ρ with
 |stuck|exn x=>rw[e1]at q;exact q
 |ok x=>
  rw[e1]at q;cases x with
  |lst ds=>
   replace q:post X.K E H Ha ((g ρ).bind λy=>yQ (.lst ds) y) Q:=q;intro p vs H1 H01 g1 hp h0 hv rp;refine⟨H01,ρ,g1.sub,hr.mono g1.z,?_⟩;replace q:=q.grow g1;cases e2:g ρ with
   |stuck|exn x=>rw[e2]at q;exact q
   |ok y=>
    rw[e2]at q;intro u H2 H02 g2 r2;replace q:=post.grow (r:=yQ (.lst ds) y) q g2;cases y with
    |int k=>
     unfold yQ at q
     by_cases c:ds.length*k.toNat<=line/\-9223372036854775808<=k/\k<9223372036854775808
     .simp only[if_pos c]at q
      refine⟨p,k,vs,rfl,aB.mp r2,g2.s _ _ hv,by omega,by omega,by rw[←rp.length];exact eg c.1,λn hn=>?_⟩;exact q _ _ _ (aR g2.sub hn) (aJ.mpr ⟨n,_,rfl,fM.of aE,((rp.mono g2.z).rep _).mono (aR g2.sub hn).z⟩)
     .simp only[if_neg c]at q;exact q.elim
    |_=>exact q.elim
  |_=>exact q.elim
def rZ(x:D):ar D:=match x with
 |.lst ds=>.ok (.tup ds)
 |.tup ds=>.ok (.tup ds)
 |_=>.stuck
def yX:g9 X E (λxs H Q=>∃p ys,xs=[.ref p]/\((fM X.K H p ys/\∀l,H l=none->Q (.ref l) (upd H l (.tup ys)))∨(kC X.K H p ys/\Q (.ref p) H))) (m1 rZ):=sL λx v H Ha Q hs r q=>by
 cases x with
 |lst ds=>
  obtain⟨p,vs,rfl,h1,h2⟩:=aJ.mp r;exact⟨p,vs,rfl,.inl ⟨aG.sqL hs h1,λn hn=>q _ _ _ (aR hs hn) (aQ.mpr ⟨n,_,rfl,kC.of aE,h2.mono (aR hs hn).z⟩)⟩⟩
 |tup ds=>
  obtain⟨p,vs,e,h1,h2⟩:=aQ.mp r;subst e;exact⟨p,vs,rfl,.inr ⟨aG.sqT hs h1,bW hs q r⟩⟩
 |_=>exact q.elim
end
def jd:ac->Option (bi)
 |[]=>some []
 |.str x::r=>(jd r).map (x::·)
 |_=>none
theorem xy{K:Ur}{H:Hp}:∀{ds:ac}{ys:bi}{vs:al}{us:List Up},jd ds=some ys->Reps K H ds vs->bz vs us->StrsAre us ys
 |[],ys,vs,us,h,r,q=>by
  cases h;rw[Reps.nil_iff.mp r]at q;cases q;exact .nil
 |d::ds,ys,vs,us,h,r,q=>by
  obtain⟨v,r',rfl,h1,h2⟩:=aH.mp r;cases q with
  |cons q1 q2=>
   cases d with
   |str x=>
    unfold jd at h;cases e:jd ds with
    |none=>rw[e]at h;cases h
    |some zs=>
     rw[e]at h;cases h;rw[Rep.str_iff.mp h1]at q1;obtain⟨t,rfl⟩:=q1;exact .cons _ _ (xy e h2 q2)
   |_=>cases h
section
variable {X:Cx}{E:XK}{o e:Vl}{fo:am}{fa:Ev->ar (ac)}
def i7(z:UP)(ys:bi):Bool:=decide (z.length<=16)&&decide ((ys.map (·.length)).sum+ys.length<=1048576)
def O9(K:Ur):V->al->Hp->VK->Prop:=λx xs H Q=>∃z p ds ys,x=.str z/\xs=[.ref p]/\Rep K H (.lst ds) (.ref p)/\jd ds=some ys/\i7 z ys=true/\Q (.str (YH z ys)) H
def Im:Ta X "str.join" (O9 X.K):=by
 intro π s σ H x xs v us Q I rx rs h;obtain⟨z,p,ds,ys,rfl,rfl,hr,hy,hf,q⟩:=h;obtain⟨t,rfl⟩:=rx;obtain⟨u,rfl,ru⟩:=rs.one;obtain⟨a,vs,its,ea,rfl,h1,h2,h3,h4,_⟩:=br I hr ru;unfold i7 at hf;rw[U7]at hf;exact join_listW h4 (by simpa using xy hy h2 h3) (of_decide_eq_true hf.1) (of_decide_eq_true hf.2) λt' k=>⟨.str (YH z ys),H,I.tok _,⟨_,rfl⟩,q⟩
def mQ(z:UP)(xs:ac):ar D:=match xs with
 |[.lst ds]=>match jd ds with
  |some ys=>if i7 z ys=true then .ok (.str (YH z ys)) else .stuck
  |none=>.stuck
 |_=>.stuck
def uV(fo:am)(fa:Ev->ar (ac)):am:=λρ=>(fo ρ).bind λx=>match x with
 |.str z=>(fa ρ).bind λxs=>mQ z xs
 |_=>.stuck
def J7(ho:DE X E o fo)(ha:DA X E [e] fa)
  (hbase:Wf o "join" X.env (eval o X.env)=eval o X.env:=by rfl)
  (hfew:((Vy cpos (Uw [e] X.env)).all (λx=>!x.1)&&(XO cpos (WM [] X.env)).all (λx=>x.1.isSome)
  &&decide ([e].length+([]:List Xh).length+(if([]:List Xh).isEmpty then 0 else 1)<30))=true:=by exact mX rfl)
  (hline:(apos.endLine==cpos.line)=true:=by rfl) (hs:Uw [e] X.env=(false,eval e X.env)::Uw [] X.env:=by exact aT rfl) (hplain:(Vy cpos (Uw [] X.env)).any (·.1)=false:=by exact bK rfl) :
  DE X E (.Call (.Attribute o "join" apos) [e] [] cpos) (uV fo fa):=by
 refine⟨?_⟩;refine bc (Bl PySem.F.plainAttrs_str PySem.F.slot_str_join PySem.F.type_str_join Im ho.o ha.o hbase hfew hline hs hplain) λσ H Q z9=>?_;obtain⟨Ha,ρ,hs,hr,q⟩:=z9;refine⟨Ha,ρ,hs,hr,?_⟩
 unfold uV at q;cases e1:fo ρ with
 |stuck|exn x=>rw[e1]at q;exact q
 |ok x=>
  rw[e1]at q;intro v H1 H01 g1 r1;cases x with
  |str z=>
   rw[Rep.str_iff.mp r1];refine⟨rfl,H01,ρ,g1.sub,hr.mono g1.z,?_⟩;replace q:=post.grow (r:=(fa ρ).bind λxs=>mQ z xs) q g1;cases e2:fa ρ with
   |stuck|exn x=>rw[e2]at q;exact q
   |ok xs=>
    rw[e2]at q;intro us H2 H02 g2 r2;replace q:=post.grow (r:=mQ z xs) q g2;unfold mQ at q
    match xs,r2,q with
    |[.lst ds],r2,q=>
     obtain⟨w,r',rfl,k1,k2⟩:=aH.mp r2;rw[Reps.nil_iff.mp k2];obtain⟨p,vs,rfl,k3,k4⟩:=aJ.mp k1;cases e3:jd ds with
     |none=>simp only[e3]at q;exact q.elim
     |some ys=>
      simp only[e3]at q
      by_cases c:i7 z ys=true
      .rw[if_pos c]at q
       exact⟨z,p,ds,ys,rfl,rfl,k1.mono g2.sub,e3,c,bW g2.sub q (Rep.str_iff.mpr rfl)⟩
      .rw[if_neg c]at q;exact q.elim
    |[],_,q=>exact q.elim
    |d1::_::_,_,q=>cases d1<;>exact VN q
    |[.non],_,q=>exact q.elim
    |[.bl _],_,q=>exact q.elim
    |[.int _],_,q=>exact q.elim
    |[.str _],_,q=>exact q.elim
    |[.tup _],_,q=>exact q.elim
    |[.dic _ _],_,q=>exact q.elim
    |[.exc _],_,q=>exact q.elim
    |[.ob _ _],_,q=>exact q.elim
  |_=>exact q.elim
end
section
variable {X:Cx}{E:XK}{a:Vl}{f:am}{pos:Pos}
def Ss:V->Option Int->Option Int->Hp->VK->Prop:=λx lo hi H Q=>∃z,x=.str z/\z.length<=sizeLine/\Q (.str (Y5 z lo hi)) H
def Lq:GX X Ss:=by
 intro π s σ H x v vl vu lo hi sl Q I rx hs pl pu h;obtain⟨z,rfl,hz,q⟩:=h;obtain⟨t,rfl⟩:=rx;have fin:∀t' k,EP X π σ Q (.str (Y5 z lo hi) t') { s with toks:=k }:=λt' k=>⟨.str (Y5 z lo hi),H,I.tok _,⟨_,rfl⟩,q⟩
 refine⟨"str",_,PySem.F.slot_str_getitem.lookup,typeIs_str s z t,?_⟩;cases pl with
 |none=>
  cases pu with|none=>exact wpAny_getItem_str_slice (l:=none) (u:=none) (st:=none) hs rfl (post_val_or_str ⟨U8 (Yl z _ _) hz,fin⟩)|int j uj=>exact wpAny_getItem_str_slice (l:=none) (u:=some (j,uj)) (st:=none) hs rfl (post_val_or_str ⟨U8 (Yl z _ _) hz,fin⟩)
 |int i ui=>
  cases pu with|none=>exact wpAny_getItem_str_slice (l:=some (i,ui)) (u:=none) (st:=none) hs rfl (post_val_or_str ⟨U8 (Yl z _ _) hz,fin⟩)|int j uj=>exact wpAny_getItem_str_slice (l:=some (i,ui)) (u:=some (j,uj)) (st:=none) hs rfl (post_val_or_str ⟨U8 (Yl z _ _) hz,fin⟩)
noncomputable def qu(x:D) (l h:Option Int):ar D:=match x with
 |.lst ds=>.ok (.lst (iZ ds l h))
 |.str z=>if z.length<=line then .ok (.str (Y5 z l h)) else .stuck
 |.tup ds=>if HT.sIx ds.length 0 l=0/\HT.sIx ds.length ds.length h=ds.length then .stuck else .ok (.tup (iZ ds l h))
 |_=>.stuck
def lO(f:am)(lo hi:Ev->ar (Option Int)):am:=λρ=>(f ρ).bind λx=>(lo ρ).bind λl=>(hi ρ).bind λh=>qu x l h
def dq{lo hi:Option Vl}(ha:DE X E a f)(hl:DO X E lo fl)(hh:DO X E hi fh):DE X E (.Subscript a (.Slice lo hi none p2) pos) (lO f fl fh) :=
 ⟨bc (xW (GX.or A6 (GX.or Lq Lp)) ha.o hl.o hh.o) (xD (m:=qu) λx v l h H Ha Q hs r q=>by
  cases x with
  |lst ds=>
   obtain⟨p,vs,rfl,h1,h2⟩:=aJ.mp r;exact .inl ⟨p,vs,rfl,aG.sqL hs h1,λn hn=>q _ _ _ (aR hs hn) (aJ.mpr ⟨n,_,rfl,fM.of aE,(h2.cut l h).mono (aR hs hn).z⟩)⟩
  |str z=>
   unfold qu at q
   by_cases c:z.length<=line
   .simp only[if_pos c]at q
    exact .inr (.inl ⟨z,Rep.str_iff.mp r,eg c,bW hs q (Rep.str_iff.mpr rfl)⟩)
   .simp only[if_neg c]at q;exact q.elim
  |tup ds=>
   unfold qu at q
   by_cases c:HT.sIx ds.length 0 l=0/\HT.sIx ds.length ds.length h=ds.length
   .simp only[if_pos c]at q;exact q.elim
   .simp only[if_neg c]at q
    obtain⟨p,vs,rfl,h1,h2⟩:=aQ.mp r;exact .inr (.inr ⟨p,vs,rfl,aG.sqT hs h1,by rw[←h2.length];exact c,λn hn=>q _ _ _ (aR hs hn) (aQ.mpr ⟨n,_,rfl,kC.of aE,(h2.cut l h).mono (aR hs hn).z⟩)⟩)
  |_=>exact q.elim)⟩
end
def Tc(z:UP):It:=⟨λi _=>i<z.cps.size,λi H x H'=>H'=H/\∃c,z.cps[i]?=some c/\x=.str ⟨#[c]⟩,λi _=>z.cps.size<=i⟩
def zq{P:Vt}{w:VH}{K:Ur}{tg:Vl}(z:UP)(t:Tok)(it:Uy):AK P w K tg (Tc z) [it] it (λi h=>h.IsStrIter it "str_ascii_iterator" z t i) where
 mem:=by simp
 obj:=λi h st b hb=>by
  have e:b=it:=by simpa using hb
  subst e;obtain⟨o,e,c,d⟩:=st;exact⟨o,e,λv z=>by rw[d]at z;cases z⟩
 keep:=λi h h' st k=>let ⟨o,ho,r⟩:=st;⟨o,k it (by simp) o ho,r⟩
 item:=by
  intro X hP hw hK hc i π s σ H E I hf st hg;subst hP hw hK;have hg':i<z.cps.size:=hg;obtain⟨f0,f1,f2,f3,f4,f5⟩:=hf it (by simp);refine wpAny_pyNext_ascii_item st (c:=z.cps[i]) (by simp[hg']) λh' st' sb=>?_;have I1:Inv X π σ H { s with heap:=h',toks:=s.toks+1 }:=I.turned (t':=s.toks+1) (λb o hb e=>(sb.2 b hb).trans e) f0 f1 f3 f4 f5;obtain⟨o,e,c,d⟩:=id st';exact⟨_,rfl,yA (s:={ s with heap:=h',toks:=s.toks+1 }) e c d (by decide) ⟨.str ⟨#[z.cps[i]]⟩,H,I1,⟨_,rfl⟩,⟨rfl,_,by simp[hg'],rfl⟩,st',λb hb=>(hf b hb).1⟩⟩
 done:=by
  intro X hP hw hK hc i π s σ H E I hf st hg;subst hP hw hK;have hg':z.cps.size<=i:=hg;obtain⟨f0,f1,f2,f3,f4,f5⟩:=hf it (by simp);exact wpAny_pyNext_ascii_end (I.ok.hd hc) st (by simp[hg']) λh' eb=>⟨rfl,I.turned (t':=s.toks) (λb o hb e=>eb b o hb e) f0 f1 f3 f4 f5⟩
 self:=λ_ _ _ _ _ st h=>wpAny_pyIter_striter_ascii st h
def Cv{P:Vt}{w:VH}{K:Ur}{tg:Vl}(z:UP)(t:Tok)(it:Uy):AK P w K tg (Tc z) [it] it (λi h=>h.IsStrIter it "str_iterator" z t i) where
 mem:=by simp
 obj:=λi h st b hb=>by
  have e:b=it:=by simpa using hb
  subst e;obtain⟨o,e,c,d⟩:=st;exact⟨o,e,λv z=>by rw[d]at z;cases z⟩
 keep:=λi h h' st k=>let ⟨o,ho,r⟩:=st;⟨o,k it (by simp) o ho,r⟩
 item:=by
  intro X hP hw hK hc i π s σ H E I hf st hg;subst hP hw hK;have hg':i<z.cps.size:=hg;obtain⟨f0,f1,f2,f3,f4,f5⟩:=hf it (by simp);refine wpAny_pyNext_wide_item st (c:=z.cps[i]) (by simp[hg']) λh' st' sb=>?_;have I1:Inv X π σ H { s with heap:=h',toks:=s.toks+1 }:=I.turned (t':=s.toks+1) (λb o hb e=>(sb.2 b hb).trans e) f0 f1 f3 f4 f5;obtain⟨o,e,c,d⟩:=id st';exact⟨_,rfl,yA (s:={ s with heap:=h',toks:=s.toks+1 }) e c d (by decide) ⟨.str ⟨#[z.cps[i]]⟩,H,I1,⟨_,rfl⟩,⟨rfl,_,by simp[hg'],rfl⟩,st',λb hb=>(hf b hb).1⟩⟩
 done:=by
  intro X hP hw hK hc i π s σ H E I hf st hg;subst hP hw hK;have hg':z.cps.size<=i:=hg;obtain⟨f0,f1,f2,f3,f4,f5⟩:=hf it (by simp);exact wpAny_pyNext_wide_end (I.ok.hd hc) st (by simp[hg']) λh' eb=>⟨rfl,I.turned (t':=s.toks) (λb o hb e=>eb b o hb e) f0 f1 f3 f4 f5⟩
 self:=λ_ _ _ _ _ st h=>wpAny_pyIter_striter_wide st h
def SD(tl:TE):TI:=λσ H R=>tl σ H λx H1=>∃z,x=.str z/\R (Tc z) H1
def LP(hl:PE X l tl):PI X tg l (SD tl):=by
 intro π s σ H R I h;refine dz (hl π s σ H _ I h) λv s1 ⟨x,H1,I1,r1,q1⟩=>?_;obtain⟨z,rfl,q⟩:=q1;obtain⟨t,rfl⟩:=r1;have fpo:∀b∈[s1.heap.objs.size],nE X π H1 b:=λb hb=>by
  have e:b=s1.heap.objs.size:=by simpa using hb
  subst e;exact I1.fpOk (UC _) (I1.hok.fresh (UC _))
 cases ha:z.cps.all (· < 128) with|false=>exact wpAny_pyIter_wide ha ⟨s1.heap.objs.size,[s1.heap.objs.size],_,_,H1,rfl,I1.kept (t':=s1.toks) λb o e=>Uz _ e,Cv z t _,⟨_,Vr _ rfl,rfl,rfl⟩,fpo,q⟩|true=>exact wpAny_pyIter_ascii ha ⟨s1.heap.objs.size,[s1.heap.objs.size],_,_,H1,rfl,I1.kept (t':=s1.toks) λb o e=>Uz _ e,zq z t _,⟨_,Vr _ rfl,rfl,rfl⟩,fpo,q⟩
def kL(z:UP):ac:=z.cps.toList.map λc=>.str ⟨#[c]⟩
def l5(z:UP):(kL z).length=z.cps.size:=by unfold kL;simp
section
variable {X:Cx}{E:XK}
def Pf(K:Ur):al->Hp->VK->Prop:=λxs H Q=>∃(p:Uy) (bs:List Bool),xs=[.ref p]/\fM K H p (bs.map V.bl)/\Q (.bl (bs.all id)) H
theorem vg:∀bs:List Bool,(Vv bs.length).all (λi=>bs.getD i false)=bs.all id
 |[]=>rfl
 |b::r=>by
  rw[UZ,XT,WV,Yp,WV,←vg r];rfl
def yZ(hc:X.calm=true):gN X (.builtin "all") (Pf X.K):=by
 intro π s σ H xs us Q I r h;obtain⟨p,bs,rfl,hq,q⟩:=h;obtain⟨u,rfl,rx⟩:=oz r;cases rx;obtain⟨its,rv,pl,hz⟩:=I.list hq;have hlen:=rv.length;rw[Us]at hlen;have hne:p≠s.heap.objs.size:=U2 pl.lt;refine call_all_walk (wpAny_pyIter_list pl.isList ?_);have pl2:(s.heap.push { cls:=.type "list_iterator",data:=.fields #[.ref p,.int 0 0] }).IsList p its.toArray:=by
  obtain⟨o,k1,k2⟩:=pl.isList;exact⟨o,Uz _ k1,k2⟩
 refine⟨s.heap.objs.size,_,_,_,_,_,λi=>bs.getD i false,rfl,Walks.list (A:=X.A.in1) (I.ok.hd hc) s.heap.objs.size p hne its.toArray,⟨⟨_,Vr _ rfl,rfl,rfl⟩,pl2⟩,?_,λh' tk hk=>?_⟩
 .intro i v s' Q' E' hv hQ
  have hv':its[i]?=some v:=by simpa using hv
  have hi:i<its.length:=(Ux.mp hv').1;obtain⟨w,e1,e2⟩:=rv.get (show(bs.map V.bl)[i]?=some (V.bl (bs.getD i false)) by
   rw[UK,Ut (by omega)];simp[List.getD,Ut (show i<bs.length by omega)])
  rw[hv']at e1;cases e1;obtain rfl:v=VU _:=e2;exact VZ hQ
 .have hall:(Vv its.toArray.size).all (λi=>bs.getD i false)=bs.all id:=by
   rw[UM,←hlen];exact vg bs
  rw[hall];exact⟨.bl _,H,I.kept (t':=tk) (λb o e=>hk b o (by simp only[UL];exact U2 (UN e)) (Uz _ e)),rfl,q⟩
def gb:ac->Option (List Bool)
 |[]=>some []
 |.bl b::r=>(gb r).map (b::·)
 |_=>none
theorem u6{K:Ur}{H:Hp}:∀{ds:ac}{bs:List Bool}{vs:al},gb ds=some bs->Reps K H ds vs->vs=bs.map V.bl
 |[],bs,vs,h,r=>by cases h;exact Reps.nil_iff.mp r
 |d::ds,bs,vs,h,r=>by
  obtain⟨v,r',rfl,h1,h2⟩:=aH.mp r;cases d with
  |bl x=>
   unfold gb at h;cases e:gb ds with
   |none=>rw[e]at h;cases h
   |some zs=>
    rw[e]at h;cases h;rw[aL.mp h1,u6 e h2];rfl
  |_=>cases h
def Ay(x:D):ar D:=match x with
 |.lst ds=>match gb ds with
  |some bs=>.ok (.bl (bs.all id))
  |none=>.stuck
 |_=>.stuck
def Gv:g9 X E (Pf X.K) (m1 Ay):=sL λx v H Ha Q hs r q=>by
 cases x with
 |lst ds=>
  unfold Ay at q;obtain⟨p,vs,rfl,h1,h2⟩:=aJ.mp r;cases e:gb ds with
  |none=>simp only[e]at q;exact q.elim
  |some bs=>
   simp only[e]at q;exact⟨p,bs,rfl,by rw[←u6 e h2];exact aG.sqL hs h1,bW hs q (rb _)⟩
 |_=>exact q.elim
end
end DL
namespace L2
open PySem PySem.Spec PyProof.Rows
section
variable {κ:Type}[DecidableEq κ]
def KV.keys{kvs:List (κ×V)}{vs:List (κ×Up)}(r:KV kvs vs):kvs.map (·.1)=vs.map (·.1):=by
 unfold KV at r
 induction r with|nil=>rfl|cons h t ih=>rw[UG,UG,ih,h.1]
def KV.length{kvs:List (κ×V)}{vs:List (κ×Up)}(r:KV kvs vs):kvs.length=vs.length:=Paired.length r
end
def P1(r:b3 (kV k) u):(mixKind P w).is k u=true:=by
 cases k with|inl i=>obtain⟨t,e⟩:=(show ∃t,u=Wb i t from r);subst e;exact yh P w i t|inr x=>obtain⟨t,e⟩:=(show ∃t,u=Wa x t from r);subst e;exact yg P w x t
section
variable {X:Cx}{π:List (Uy×Obj)}{σ:St}{H:Hp}{s:UD}{a:Uy}{y v:V}{u r:Up}{o:Option V}{A:Vn}{E:Up->UD->Prop}
def Inv.big(I:Inv X π σ H s):Wy<s.heap.objs.size:=by
 have h:US<s.heap.objs.size:=(I.mod.glob.keeps I.bk).lt;exact W6 (by decide) h
def NB(z:kvs.length<=sizeLine)(hd:(a==Wy)=false)(rel:KV kvs vs)(dd:h'.DictOf (mixKind P w) a vs) :
  c7 P w H' h' a (.dK kvs):=⟨z,hd,vs,rel,dd⟩
end
end L2
namespace DL
open PySem PySem.Spec PyProof.Rows L2
section
variable {X:Cx}{E:XK}{e:Vl}{f:am}{pos p1:Pos}
def dOne(x:UP)(d:D):ar D:=.ok (.dic [x] [d])
end
def iP(cells:List (UP×Uy)):List (UP×V3)->List (UP×Uy)->List (UP×Uy)
 |[],acc=>acc
 |(n,k)::r,acc=>if(k==Wg)=true then iP cells r ((n,(cells.lookup n).getD 0)::acc) else iP cells r acc
def lW(h:∀x∈scope.names,x.2=.free->∃c,env.cells.lookup x.1=some c):closureFor scope env=pure (iP env.cells scope.names []):=by
 simp only[closureFor];have key:∀(names:List (UP×V3)) (acc:List (UP×Uy)),(∀x∈names,x.2=.free->∃c,env.cells.lookup x.1=some c) ->
   (forIn names acc λ(x:UP×V3) (z:List (UP×Uy))=>
      if(x.snd==Wg)=true then do
       let y ←cellOf env x.fst
       pure (WX ((x.fst,y)::z))
      else(pure (WX z):Sem _))=pure (iP env.cells names acc):=by
  intro names
  induction names with
  |nil=>intro acc _;rfl
  |cons x r ih=>
   intro acc hh;obtain⟨n,k⟩:=x;rw[List.forIn_cons]
   by_cases hk:(k==Wg)=true
   .obtain⟨c,hc⟩:=hh (n,k) UU (by simpa using hk)
    have hcell:cellOf env n=pure c:=by unfold cellOf;rw[show env.cells.lookup n=some c from hc]
    simp only[hk,if_true];rw[hcell];have:=ih ((n,c)::acc) (λy hy=>hh y (UH _ hy));rw[show iP env.cells ((n,k)::r) acc=iP env.cells r ((n,c)::acc) by
     show(if(k==Wg)=true then _ else _)=_;rw[if_pos hk,show env.cells.lookup n=some c from hc];rfl]
    rw[←this];rfl
   .have:=ih acc (λy hy=>hh y (UH _ hy))
    rw[if_neg hk];rw[show iP env.cells ((n,k)::r) acc=iP env.cells r acc by
     show(if(k==Wg)=true then _ else _)=_;rw[if_neg hk]]
    rw[←this];rfl
 rw[key _ _ h];rfl
theorem sG{cells:List (UP×Uy)}:∀{names:List (UP×V3)}{acc:List (UP×Uy)}{x:UP}{c:Uy},(∀y∈names,y.2=.free->∃c,cells.lookup y.1=some c) ->
  (iP cells names acc).lookup x=some c->acc.lookup x=some c∨cells.lookup x=some c
 |[],acc,x,c,_,h=>.inl h
 |(n,k)::r,acc,x,c,hh,h=>by
  unfold iP at h
  by_cases hk:(k==Wg)=true
  .rw[if_pos hk]at h
   obtain⟨d,hd⟩:=hh (n,k) UU (by simpa using hk);rcases sG (λy hy=>hh y (UH _ hy)) h with h|h
   .rw[VX]at h
    cases e:x==n with
    |true=>
     rw[e]at h;rw[show cells.lookup n=some d from hd]at h;cases h;rw[eq_of_beq e];exact .inr hd
    |false=>rw[e]at h;exact .inl h
   .exact .inr h
  .rw[if_neg hk]at h
   exact sG (λy hy=>hh y (UH _ hy)) h
theorem oQ{α:Type}:∀{l:List (UP×α)},(∃v,(x,v)∈l)->∃v,l.lookup x=some v
 |[],⟨v,h⟩=>by cases h
 |(n,w)::r,⟨v,h⟩=>by
  rw[VX];cases e:x==n with
  |true=>exact⟨w,rfl⟩
  |false=>
   rcases UI.mp h with h|h
   .cases h;simp at e
   .exact oQ ⟨v,h⟩
theorem sI:∀{names:List (UP×V3)}{acc:List (UP×Uy)},(x,c)∈acc->(x,c)∈iP cells names acc
 |[],acc,h=>h
 |(n,k)::r,acc,h=>by
  unfold iP
  by_cases hk:(k==Wg)=true
  .rw[if_pos hk];exact sI (UH _ h)
  .rw[if_neg hk];exact sI h
def sH:∀{names:List (UP×V3)}{acc:List (UP×Uy)},(x,Wg)∈names->∃c,(iP cells names acc).lookup x=some c:=by
 intro names
 induction names with
 |nil=>intro acc h;cases h
 |cons y r ih=>
  intro acc h;obtain⟨n,k⟩:=y;unfold iP;rcases UI.mp h with h|h
  .cases h
   rw[if_pos (by rfl)];exact oQ ⟨_,sI UU⟩
  .by_cases hk:(k==Wg)=true
   .rw[if_pos hk];exact ih h
   .rw[if_neg hk];exact ih h
noncomputable def dJ(X:Cx) (N:bi) (scope:X8) (s:UD) (H:Hp) (C:Uy) (fp:List Uy) (pn:List (Uy×Obj)):Cx :=
 { X with N:=N,sf:=s,Ha:=H,env:=compEnvC scope (iP X.env.cells scope.names []) C X.env,outer:=X.stack,stack:=X.stack,ex:=fp,fn:=λ_=>false,pn:=pn,xe:=λ_ _=>False }
def kr(n:Nat)(fr:bv)(σ:L2.St):L2.St:=UJ n none++fr.map λ(i:Nat)=>(σ[i]?).getD none
noncomputable def AO(X:Cx) (N:bi) (n:Nat) (fr:bv) (scope:X8):Prop :=
 N.length=n+fr.length/\((N.drop n).zip fr).all (λp=>X.N[p.2]?==some p.1&&X.env.scope.names.lookup p.1==some .cell&&scope.names.lookup p.1==some .free&&(relabel scope X.env).names.lookup p.1==some .cell)=true
theorem AO.at{fr:bv}(h:AO X N n fr scope){k:Nat}(hx:N[k]?=some x)(hv:(kr n fr σ)[k]?=some (some v)) :
  ∃i:Nat,X.N[i]?=some x/\σ[i]?=some (some v)/\X.env.scope.names.lookup x=some .cell/\scope.names.lookup x=some .free/\(relabel scope X.env).names.lookup x=some .cell:=by
 unfold kr at hv
 by_cases hk:k<n
 .rw[UQ (by simpa using hk),U5,if_pos hk]at hv
  cases hv
 .rw[UW (by simpa using hk),Vx,UK]at hv
  cases hi:fr[k-n]? with
  |none=>rw[hi]at hv;cases hv
  |some i=>
   rw[hi]at hv;have hz:((N.drop n).zip fr)[k-n]?=some (x,i):=by
    rw[List.getElem?_zip_eq_some];exact⟨by rw[List.getElem?_drop,show n+(k-n)=k by omega];exact hx,hi⟩
   have:=Va.mp h.2 _ (UX hz);simp only[U7,beq_iff_eq]at this;refine⟨i,this.1.1.1,?_,this.1.1.2,this.1.2,this.2⟩;simp only[WC,V2]at hv;cases hs:σ[i]? with|none=>rw[hs]at hv;cases hv|some u=>rw[hs]at hv;exact congrArg some hv
noncomputable def OB(X:Cx) (ifs:List Vl) (t:TT):Prop :=
 ∀(π:List (Uy×Obj)) (s:UD) (σ:L2.St) (H:Hp) (Q:Bool->Hp->Prop),Inv X π σ H s->t σ H Q ->
  UR (UT X.prog X.w) X.A (forIn ifs true λc r=>if r=true then do let ok ←isTrue c X.env (eval c X.env);pure (WX ok) else pure (WX r)) (TP X π σ Q) X.xe s
def Ej:TT:=λ_ H Q=>Q true H
def Bh:OB X [] Ej:=λ_ _ _ H _ I h=>wpAny_tests_nil ⟨H,I,h⟩
def HU(h:PT X c t):OB X [c] t:=λπ s σ H Q I q=>wpAny_tests_one (h π s σ H Q I q)
theorem sC{A:Vn}(I:Nat->UD->Prop)
  (turn:∀n s,I n s->UR (UT prog w) A (Zf it) (λr sg=>match r with
   |none=>R (.ok .next) sg
   |some v=>UR (UT prog w) A (letOwnedTupleGo target it v) (λ_ sg'=>UR (UT prog w) A (assign target env v) (λ_ si=>
     UR (UT prog w) A (forIn ifs true λc r=>if r=true then do let ok ←isTrue c env (eval c env);pure (WX ok) else pure (WX r)) (λok sj=>
      if ok=true then UR (UT prog w) A (eval elt env) (λx sk=>
       UR (UT prog w) A (call (.builtin "list.append") [acc,x]) (λ_ so=>∃m,m<n/\I m so) (λ_ _=>False) sk) (λ_ _=>False) sj
      else ∃m,m<n/\I m sj) (λ_ _=>False) si) (λ_ _=>False) sg') (λ_ _=>False) sg) (λ_ _=>False) s)
  (n:Nat) (h:I n s) :
  Wz (UT prog w) A (.compLoop (.ListComp elt [⟨target,iter,ifs,0⟩] scope pos) 0 it acc env) R s:=by
 refine codeAny_loop rfl I (λn s hI=>?_) n h;show UR _ A ((compTurn (.ListComp elt [⟨target,iter,ifs,0⟩] scope pos) 0 it acc env).onRaise (λx=>do noteFrame x env;theTreesLotGoes x)) _ _ s;refine wpAny_noted ?_;rw[compTurn_list];refine Uv (wpAny_standAt (Uv (VD (turn n s hI) (λr sg hU=>?_) λ_ _ h'=>h'.elim)));cases r with
 |none=>exact UY hU
 |some v=>
  refine Uv (VD hU (λ_ sg' hU'=>?_) λ_ _ h'=>h'.elim);refine Uv (VD hU' (λ_ si hV=>Uv (VD hV (λok sj hZ=>?_) λ_ _ h'=>h'.elim)) λ_ _ h'=>h'.elim);cases ok with
  |false=>exact UY ⟨rfl,hZ⟩
  |true=>
   exact Uv (Uv (VD hZ (λx sk h₄=>Uv (VD h₄ (λ_ so h₅=>UY (UY ⟨rfl,h₅⟩)) λ_ _ h'=>h'.elim)) λ_ _ h'=>h'.elim))
noncomputable def qp(n:Nat) (fr:bv) (g:TG) (tt:TT) (te:TE) (J:It) (σ:L2.St) (H1:Hp) (Q:VK):Prop:=∀D,H1 D=none->∃W:Nat->Nat->al->L2.St->Hp->Prop,(∃m,W 0 m [] (kr n fr σ) (upd H1 D (.lst []))) /\
 ∀i m ys σ' H',W i m ys σ' H'->H' D=some (.lst ys)/\((J.stop i H'/\Q (.ref D) H')∨(J.go i H'/\ys.length<sizeLine/\∀x H2,J.yld i H' x H2->g x σ' H2 λσ3 H3=>tt σ3 H3 λb H4=>
  if b=true then te σ3 H4 λy H5=>H5 D=some (.lst ys)/\∃m',m' < m/\W (i+1) m' (ys++[y]) σ3 (upd H5 D (.lst (ys++[y])))
  else ∃m',m' < m/\W (i+1) m' ys σ3 H4))
def uX{fr:bv}(hc:X.calm=true)(hfr:AO X N n fr scope)
  (hcell:∀x∈scope.names,x.2≠.cell)(hfree:∀x∈scope.names,x.2=.free->X.env.scope.names.lookup x.1=some .cell)(hkind:scope.kind=.function)
  (blk:∀s H C fp pn,PG (dJ X N scope s H C fp pn) tg g/\OB (dJ X N scope s H C fp pn) ifs tt/\PE (dJ X N scope s H C fp pn) elt te)
  {RR:Up->Uy->Zj->UD->Prop}
  (h2:S8 X π σ tg (λJ H1=>qp n fr g tt te J σ H1 Q) itv s2)
  (fin:∀(Da C:Uy) (s6:UD) (H5:Hp) (m:UP->Option Up),Inv X π σ H5 s6->s6.heap.Ns C m->nE X π H5 C->Q (.ref Da) H5->RR (.ref Da) C (.ok .next) s6) :
  UR (UT X.prog X.w) X.A (newList []) (λacc sj=>UR (UT X.prog X.w) X.A (newFunctionEnv scope X.env.globals (iP X.env.cells scope.names []) [] X.env.qual none .none (some X.env)) (λcenv sk=>
   Wz (UT X.prog X.w) X.A (.compStart (.ListComp elt [⟨tg,iter,ifs,0⟩] scope pos) 0 itv acc { cenv with scope:=relabel scope X.env }) (RR acc cenv.locals) sk) X.xe sj) X.xe s2:=by
 obtain⟨it,fp,tn,J,H2,e,I2,T,st2,f2,q⟩:=h2;subst e;have hD:H2 s2.heap.objs.size=none:=I2.fresh;refine wpAny_newObj_type ?_;have I3:Inv X π σ (upd H2 s2.heap.objs.size (.lst [])) { s2 with heap:=s2.heap.push { cls:=.type "list",data:=.seq ([]:List Up).toArray } }:=I2.lnew (t':=s2.toks) (its:=[]) .nil (Wx _);obtain⟨W,⟨m0,w0⟩,turn⟩:=q s2.heap.objs.size hD;generalize hs3:({ s2 with heap:=s2.heap.push { cls:=.type "list",data:=.seq ([]:List Up).toArray } }:UD)=s3 at I3 ⊢;have hs3h:s3.heap=s2.heap.push { cls:=.type "list",data:=.seq ([]:List Up).toArray }:=by rw[←hs3]
 have hDs:s2.heap.objs.size<s3.heap.objs.size:=by rw[hs3h,Heap.size_push];exact WT _
 have fpl:∀b∈fp,b<s2.heap.objs.size:=λb hb=>by
  obtain⟨o,ho,_⟩:=T.obj _ _ st2 b hb;exact UN ho
 have kept3:∀b o,s2.heap.get? b=some o->s3.heap.get? b=some o:=λb o e=>by rw[hs3h];exact Uz _ e
 have st3:tn 0 s3.heap:=T.keep _ _ _ st2 λb _ o e=>kept3 b o e;generalize hDa:s2.heap.objs.size=Da at *;generalize hH3:upd H2 Da (.lst [])=H3 at *;have fr3:∀b∈fp,H3 b=none:=λb hb=>by rw[←hH3,aA (U2 (fpl b hb))];exact(f2 b hb).1
 have cls:∀x c,(iP X.env.cells scope.names []).lookup x=some c->X.env.cells.lookup x=some c:=λx c e=>by
  rcases sG (λy hy hf=>I3.ok.has y.1 (.inl (hfree y hy hf))) e with e|e
  .cases e
  .exact e
 refine wpAny_newFunctionEnv hcell (by intro y hy;simp at hy) (λh4 ns4 sb4=>?_) hkind;have k4:∀b o,s3.heap.get? b=some o->h4.get? b=some o:=λb o e=>(sb4.2 b (U2 (UN e))).trans (Uz _ e);generalize hC:s3.heap.objs.size=C at *;have hCn:H3 C=none:=I3.hok.fresh (by rw[hC];exact UC _);have ltC:∀b o,s3.heap.get? b=some o->b≠C:=λb o e=>by rw[←hC];exact U2 (UN e)
 have cellC:∀x c,X.env.cells.lookup x=some c->c≠C:=λx c e=>by
  obtain⟨v,o,ho,_⟩:=I3.cell x c e;exact ltC c o ho
 have fpC:∀b∈fp,b≠C:=λb hb=>by
  have:=fpl b hb;exact U2 (W6 this hDs)
 show Wz (UT X.prog X.w) X.A (.compStart (.ListComp elt [⟨tg,iter,ifs,0⟩] scope pos) 0 (.ref it) (.ref Da) (compEnvC scope (iP X.env.cells scope.names []) C X.env)) _ _;generalize hs4:({ s3 with heap:=h4,toks:=s3.toks+([]:List (UP×Up)).length }:UD)=s4;have hs4h:s4.heap=h4:=by rw[←hs4]
 have ok:(dJ X N scope s3 H3 C fp (X.pn++π)).Ok:=by
  refine⟨I3.ok.mod,hkind,I3.ok.glob,I3.ok.blt,Nat.le_of_eq hC,λx y c e1 e2=>I3.ok.inj x y c (cls x c e1) (cls y c e2),λx e=>?_,λx c e=>?_,λ_=>I3.ok.hd hc,I3.ok.frames,.inl rfl,λb hb=>⟨fpC b hb,λx c e=>(f2 b hb).2.2.2.2.1 x c (cls x c e)⟩,I3.bs,U8 I3.ok.bsz I3.sz,λb o e hb=>?_,λb hb z=>?_,I3.stack,I3.stkFree⟩
  .have mm:∀k:V3,(relabel scope X.env).names.lookup x=some k->(k=.cell∨k=.free)->(x,Wg)∈scope.names:=λk hk hk2=>by
    have hm:=We hk;obtain⟨⟨n',k'⟩,hm1,hm2⟩:=U4.mp hm;dsimp only at hm2;split at hm2
    .rename_i hcnd
     cases hm2;simp only[U7,beq_iff_eq]at hcnd;rw[hcnd.1.1]at hm1;exact hm1
    .cases hm2
     rcases hk2 with rfl|rfl
     .exact absurd rfl (hcell _ hm1)
     .exact hm1
   rcases e with e|e
   .exact sH (mm _ e (.inl rfl))
   .exact sH (mm _ e (.inr rfl))
  .cases e
  .rcases(f2 b hb).2.2.2.1 with z|z
   .exact I3.ok.noex b o e z
   .exact absurd (UA (UN e) (U8 I3.ok.bsz z)) (WE _)
  .rcases UI.mp (I3.stkSub b z) with z|z
   .exact(f2 b hb).2.1 z
   .exact(f2 b hb).2.2.1 z
 have I4:Inv (dJ X N scope s3 H3 C fp (X.pn++π)) [] (kr n fr σ) H3 s4:=by
  refine⟨ok,by rw[←hs4];rfl,by rw[←hs4];exact I3.bare,by rw[hs4h];exact Un.kept k4,⟨_,by rw[hs4h];exact ns4,λi x v h1 h2 h3=>?_⟩,λx c e=>?_,hCn,λx c e=>I3.freeC x c (cls x c e),λp hp=>?_,by rw[hs4h];exact I3.hok.kept k4,?_⟩
  .obtain⟨j,j1,j2,j3,j4,j5⟩:=hfr.at h1 h2
   obtain⟨m,hn,hl⟩:=I3.loc;obtain⟨u,ru,l⟩:=hl j x v j1 j2 (.inr (.inl j3));refine⟨u,ru,.inr ⟨.inl j5,?_⟩⟩;rcases l with⟨z,_⟩|⟨_,c,z1,z2⟩
   .rw[show X.env.kindOf x=X.env.scope.names.lookup x from rfl,j3]at z;cases z
   .obtain⟨c',hc'⟩:=sH (cells:=X.env.cells) (names:=scope.names) (acc:=[]) (We j4)
    have:=cls x c' hc';rw[z1]at this;cases this;obtain⟨oc,q1,q2⟩:=z2;exact⟨c,hc',oc,by rw[hs4h];exact k4 _ _ q1,q2⟩
  .obtain⟨v,oc,q1,q2⟩:=I3.cell x c (cls x c e)
   exact⟨v,oc,by rw[hs4h];exact k4 _ _ q1,q2⟩
  .rw[Vd]at hp
   obtain⟨p1,p2,p3,p4,p5⟩:=I3.pin p hp;refine⟨by rw[hs4h];exact k4 _ _ p1,p2,ltC _ _ p1,λz=>?_,p5⟩;rcases UI.mp (I3.stkSub _ z) with z|z
   .exact p3 z
   .exact p4 z
  .show(kr n fr σ).length=N.length
   unfold kr;rw[U0,Vx,Us,hfr.1]
 have st4:tn 0 s4.heap:=by rw[hs4h];exact T.keep _ _ _ st3 λb _ o e=>k4 b o e
 have stat:∀{H':Hp},(∀b∈fp,H' b=none)->∀b∈fp,nE (dJ X N scope s3 H3 C fp (X.pn++π)) [] H' b:=λhn b hb=>by
  refine⟨hn b hb,fpC b hb,λz=>?_,.inl hb,λx c e=>(f2 b hb).2.2.2.2.1 x c (cls x c e),λp hp=>?_⟩
  .rcases UI.mp (I3.stkSub b z) with z|z
   .exact(f2 b hb).2.1 z
   .exact(f2 b hb).2.2.1 z
  .rw[Vd]at hp
   exact(f2 b hb).2.2.2.2.2 p hp
 have loop:Wz (UT X.prog X.w) X.A (.compLoop (.ListComp elt [⟨tg,iter,ifs,0⟩] scope pos) 0 (.ref it) (.ref Da) (compEnvC scope (iP X.env.cells scope.names []) C X.env)) (RR (.ref Da) C) s4:=by
  refine sC (λn s'=>∃i ys σ' H',Inv (dJ X N scope s3 H3 C fp (X.pn++π)) [] σ' H' s'/\tn i s'.heap/\(∀b∈fp,H' b=none)/\W i n ys σ' H') ?_ m0 ⟨0,[],_,H3,I4,st4,fr3,w0⟩;rintro k s5 ⟨i,ys,σ5,H5,I5,st5,fr5,w5⟩;obtain⟨hDl,ways⟩:=turn i k ys σ5 H5 w5;rcases ways with⟨stop,fin'⟩|⟨go,hz,step⟩
  .refine dz (T.done (dJ X N scope s3 H3 C fp (X.pn++π)) rfl rfl rfl hc i [] s5 σ5 H5 (λ_ _=>False) I5 (stat fr5) st5 stop) λr s6 ⟨hr,I6⟩=>?_
   subst hr;obtain⟨mm,nsm,_⟩:=I6.loc;have free6:H5 C=none:=I6.free;have hok:ig X.prog X.w H5 s6.heap:=I6.hok;have un:Un (iY X.stack) fp H3 H5 s3.heap s6.heap:=I6.base;have IX:Inv X π σ H5 s6:=I3.call' (s':=s6) (ch:=fp) I6.os un hok I6.bare (λb hb=>⟨(f2 b hb).2.2.2.1,(f2 b hb).2.1,(f2 b hb).2.2.2.2.1,(f2 b hb).2.2.2.2.2⟩);have fC:nE X π H5 C:=I3.fpOk (b:=C) (H':=H5) (by rw[hC];exact UC _) free6;exact fin Da C s6 H5 mm IX nsm fC fin'
  .refine dz (T.item (dJ X N scope s3 H3 C fp (X.pn++π)) rfl rfl rfl hc i [] s5 σ5 H5 (λ_ _=>False) I5 (stat fr5) st5 go) λr s6 ⟨u,hr,h6⟩=>?_
   subst hr;refine dz h6 λ_ s7 ⟨x,H7,I7,r7,y7,st7,fr7⟩=>?_;have I7':=I7.pinned (stat fr7) (T.obj _ _ st7);refine dz ((blk s3 H3 C fp (X.pn++π)).1 _ s7 σ5 H7 x u _ I7' r7 (step x H7 y7)) λ_ s8 ⟨σ8,H8,I8,q8⟩=>?_;refine dz ((blk s3 H3 C fp (X.pn++π)).2.1 _ s8 σ8 H8 _ I8 q8) λb s8b ⟨H8b,I8b,q8b⟩=>?_;have back:∀{σ':L2.St}{H':Hp}{s':UD},L2.Inv (dJ X N scope s3 H3 C fp (X.pn++π)) (([]:List (Uy×Obj))++qH fp s7.heap) σ' H' s'->tn (i+1) s'.heap/\∀b∈fp,H' b=none:=λ{σ' H' s'} I'=>by
    refine⟨T.keep _ _ _ st7 λb hb o e=>(I'.pin (b,o) (Vi _ (Vi _ (j7 hb e)))).1,λb hb=>?_⟩;obtain⟨o,e,d⟩:=T.obj _ _ st7 b hb;exact(I'.pin (b,o) (Vi _ (Vi _ (j7 hb e)))).2.1
   cases b with
   |false=>
    rw[if_neg VO]at q8b ⊢;obtain⟨m',hm,w9⟩:=q8b;exact⟨m',hm,i+1,ys,σ8,_,I8b.unpinned,(back I8b).1,(back I8b).2,w9⟩
   |true=>
    rw[if_pos rfl]at q8b ⊢;refine dz ((blk s3 H3 C fp (X.pn++π)).2.2 _ s8b σ8 H8b _ I8b q8b) λy s9 ⟨yv,H9,I9,r9,hD9,m',hm,w9⟩=>?_;refine dz (nU (X:=dJ X N scope s3 H3 C fp (X.pn++π)) _ s9 σ8 H9 (.ref Da) [yv] (.ref Da) [y] (λv H'=>H'=upd H9 Da (.lst (ys++[yv]))) I9 rfl (.cons r9 .nil) ⟨Da,ys,yv,rfl,rfl,hD9,hz,rfl⟩) λ_ s10 ⟨v10,H10,I10,_,e10⟩=>?_;subst e10;exact⟨m',hm,i+1,ys++[yv],σ8,_,I10.unpinned,(back I10).1,(back I10).2,w9⟩
 exact codeAny_compStart_list loop (T.self _ 0 _ _ _ st4 loop)
structure N7 (K:Ur) (ds:ac) (J:It) (Ha:Hp):Prop where
 go:∀(i:Nat) (H' Ha':Hp),aG Ha Ha'->aG Ha' H'->i<ds.length->J.go i H'
 yld:∀(i:Nat) (H' Ha':Hp) (x:V) (H2:Hp) (d:D),aG Ha Ha'->aG Ha' H'->ds[i]?=some d->J.yld i H' x H2->∃H₀2,bI H' Ha' H2 H₀2/\Rep K H₀2 d x
 stop:∀(i:Nat) (H' Ha':Hp),aG Ha Ha'->aG Ha' H'->ds.length<=i->J.stop i H'
noncomputable def T4(K:Ur) (E:XK) (src:Ev->ar (ac)):TI:=λσ H R=>∃Ha ρ,aG Ha H/\Reads K Ha σ ρ/\match src ρ with
 |.ok ds=>∀J H' Ha',bI H Ha H' Ha'->N7 K ds J Ha'->R J H'
 |.exn x=>∀C ox H' Ha',bI H Ha H' Ha'->zc K Ha' x C ox->E C ox H'
 |.stuck=>False
structure DI (X:Cx) (E:XK) (tg iter:Vl) (src:Ev->ar (ac)):Prop where
 o:PI X tg iter (T4 X.K E src)
def jW(h:PI X tg iter t)(w:∀σ H R,t' σ H R->t σ H R):PI X tg iter t':=λπ s σ H R I q=>h π s σ H R I (w σ H R q)
def kD(f:am):Ev->ar (ac):=λρ=>(f ρ).bind λd=>match d with
 |.lst ds=>.ok ds
 |_=>.stuck
def CA(f:am):Ev->ar (ac):=λρ=>(f ρ).bind λd=>match d with
 |.tup ds=>.ok ds
 |_=>.stuck
def HC(f:am):Ev->ar (ac):=λρ=>(f ρ).bind λd=>match d with
 |.str z=>.ok (kL z)
 |_=>.stuck
def jt(f:am):Ev->ar (ac):=λρ=>(f ρ).bind λd=>match d with
 |.int j=>if -4611686018427387904<=j/\j<4611686018427387904 then .ok (intsFrom 0 j.toNat) else .stuck
 |_=>.stuck
section
variable {X:Cx}{E:XK}{tg e a b:Vl}{f g:am}
def fq(h:DE X E e f):DI X E tg e (kD f):=by
 refine⟨jW (Bi h.o) λσ H R z9=>?_⟩;obtain⟨Ha,ρ,hs,hr,q⟩:=z9;refine⟨Ha,ρ,hs,hr,?_⟩;unfold kD at q;cases e1:f ρ with
 |stuck|exn x=>rw[e1]at q;exact q
 |ok d=>
  rw[e1]at q;intro v H1 H01 g1 r1;cases d with
  |lst ds=>
   obtain⟨p,vs,rfl,hv,hrv⟩:=aJ.mp r1;refine⟨p,rfl,⟨vs,aG.sqL g1.sub hv⟩,q _ H1 H01 g1 ⟨λi H' Ha' s1 s2 hi=>?_,λi H' Ha' x H2 d s1 s2 hd hy=>?_,λi H' Ha' s1 s2 hi=>?_⟩⟩
   .exact⟨vs,vs[i]'(by rw[←hrv.length];exact hi),aG.sqL (s1.trans s2) hv,by simp⟩
   .obtain⟨rfl,hy⟩:=hy
    obtain⟨u,k1,k2⟩:=hrv.get hd;have:=hy vs (aG.sqL (s1.trans s2) hv);rw[k1]at this;cases this;exact⟨Ha',bI.refl s2,k2.mono s1⟩
   .exact⟨vs,aG.sqL (s1.trans s2) hv,by rw[←hrv.length];exact hi⟩
  |_=>exact q.elim
def NF(h:DE X E e f):DI X E tg e (CA f):=by
 refine⟨jW (LO h.o) λσ H R z9=>?_⟩;obtain⟨Ha,ρ,hs,hr,q⟩:=z9;refine⟨Ha,ρ,hs,hr,?_⟩;unfold CA at q;cases e1:f ρ with
 |stuck|exn x=>rw[e1]at q;exact q
 |ok d=>
  rw[e1]at q;intro v H1 H01 g1 r1;cases d with
  |tup ds=>
   obtain⟨p,vs,rfl,hv,hrv⟩:=aQ.mp r1;refine⟨p,rfl,⟨vs,aG.sqT g1.sub hv⟩,q _ H1 H01 g1 ⟨λi H' Ha' s1 s2 hi=>?_,λi H' Ha' x H2 d s1 s2 hd hy=>?_,λi H' Ha' s1 s2 hi=>?_⟩⟩
   .exact⟨vs,vs[i]'(by rw[←hrv.length];exact hi),aG.sqT (s1.trans s2) hv,by simp⟩
   .obtain⟨rfl,hy⟩:=hy
    obtain⟨u,k1,k2⟩:=hrv.get hd;have:=hy vs (aG.sqT (s1.trans s2) hv);rw[k1]at this;cases this;exact⟨Ha',bI.refl s2,k2.mono s1⟩
   .exact⟨vs,aG.sqT (s1.trans s2) hv,by rw[←hrv.length];exact hi⟩
  |_=>exact q.elim
def NG(h:DE X E e f):DI X E tg e (HC f):=by
 refine⟨jW (LP h.o) λσ H R z9=>?_⟩;obtain⟨Ha,ρ,hs,hr,q⟩:=z9;refine⟨Ha,ρ,hs,hr,?_⟩;unfold HC at q;cases e1:f ρ with
 |stuck|exn x=>rw[e1]at q;exact q
 |ok d=>
  rw[e1]at q;intro v H1 H01 g1 r1;cases d with
  |str z=>
   refine⟨z,Rep.str_iff.mp r1,q _ H1 H01 g1 ⟨λi H' Ha' s1 s2 hi=>?_,λi H' Ha' x H2 d s1 s2 hd hy=>?_,λi H' Ha' s1 s2 hi=>?_⟩⟩
   .rw[l5]at hi;exact hi
   .obtain⟨rfl,c,hc,rfl⟩:=hy
    have:d=.str ⟨#[c]⟩:=by
     unfold kL at hd;rw[UK]at hd;have h2:z.cps.toList[i]?=some c:=by simpa using hc
     rw[h2]at hd;cases hd;rfl
    subst this;exact⟨Ha',bI.refl s2,Rep.str_iff.mpr rfl⟩
   .rw[l5]at hi;exact hi
  |_=>exact q.elim
def uL{K:Ur}{lo:Int}:N7 K (intsFrom lo n) (N6 lo n) H:=by
 have hl:(intsFrom lo n).length=n:=by unfold intsFrom;simp
 refine⟨λi H' Ha' _ _ hi=>?_,λi H' Ha' x H2 d s1 s2 hd hy=>?_,λi H' Ha' _ _ hi=>?_⟩
 .rw[hl]at hi;exact hi
 .obtain⟨rfl,rfl⟩:=hy
  have:d=.int (lo+i):=by
   unfold intsFrom at hd;rw[UK]at hd;cases e:(Vv n)[i]? with
   |none=>rw[e]at hd;cases hd
   |some k=>
    rw[e]at hd;have hk:k=i:=by
     obtain⟨h1,h2⟩:=Ux.mp e;simpa using h2.symm
    subst hk;cases hd;rfl
  subst this;exact⟨Ha',bI.refl s2,aB.mpr rfl⟩
 .rw[hl]at hi;exact hi
def jF(hg:Gl X "range")(hm:X.mg "range"=none)(h:DE X E a f)(hn:KN a=true:=by exact rfl):DI X E tg (.Call (.Name "range" p) [a] [] pos) (jt f):=by
 refine⟨jW (nQ hg hm (dj h.o fU (fO hn)) (fO hn)) λσ H R z9=>?_⟩;obtain⟨Ha,ρ,hs,hr,q⟩:=z9;refine⟨Ha,ρ,hs,hr,?_⟩;unfold jt at q;cases e1:f ρ with
 |stuck|exn x=>rw[e1]at q;exact q
 |ok d=>
  rw[e1]at q;intro v H1 H01 g1 r1;cases d with
  |int j=>
   replace q:match (if -4611686018427387904<=j/\j<4611686018427387904 then ar.ok (intsFrom 0 j.toNat) else .stuck) with
    |.ok ds=>∀J H' Ha',bI H Ha H' Ha'->N7 X.K ds J Ha'->R J H'
    |.exn x=>∀C ox H' Ha',bI H Ha H' Ha'->zc X.K Ha' x C ox->E C ox H'
    |.stuck=>False:=q
   by_cases hj:-4611686018427387904<=j/\j<4611686018427387904
   .rw[if_pos hj]at q
    rw[aB.mp r1];exact⟨j,rfl,hj.1,hj.2,q _ H1 H01 g1 uL⟩
   .rw[if_neg hj]at q;exact q.elim
  |_=>exact q.elim
end
def kM(src:Ev->ar (ac))(tg:Ev->D->ar Ev)(s:bd):bd:=λρ=>(src ρ).bind λds=>b7 tg s ds ρ
section
variable {X:Cx}{E:XK}{He η:Hp}{st:V6}{s:bd}{pos:Pos}
def g6.step2{K:Ur}(z:aG Hb Ha)(h:fj K He η Ha σ H ρ)(q:cG K E He η Ha (b7 tg s (ds.drop i) ρ) D')(hd:ds[i]?=some d)(rv:Rep K Ha d v)
  (he:∀ρ,tg ρ d=.stuck∨∃ρ',tg ρ d=.ok ρ') :
  tG K He η tg v σ H λσ2 H2=>tS K E He η s { D' with nx:=g6 K E He η Hb tg s ds D' (i+1),ct:=g6 K E He η Hb tg s ds D' (i+1),bk:=D'.nx } σ2 H2:=by
 have hi:i<ds.length:=(Ux.mp hd).1;have hdr:ds.drop i=d::ds.drop (i+1):=by
  rw[Vk hi];rw[Ut hi]at hd;cases hd;rfl
 rw[hdr]at q;refine⟨Ha,ρ,d,h,rv,?_⟩;unfold b7 at q;rcases he ρ with e1|⟨ρ1,e1⟩
 .rw[e1]at q;exact q.elim
 .rw[e1]at q ⊢
  intro σ' H' Ha' z' h';refine⟨Ha',ρ1,h',?_⟩;replace q:=cG.grow (r:=(s ρ1).bind λx=>match x with
   |.nx ρ2=>b7 tg s (ds.drop (i+1)) ρ2
   |.ct ρ2=>b7 tg s (ds.drop (i+1)) ρ2
   |.bk ρ2=>.ok (.nx ρ2)
   |.rt d=>.ok (.rt d)) q z'
  cases e2:s ρ1 with
  |stuck|exn x=>rw[e2]at q;exact q
  |ok r=>
   rw[e2]at q;cases r with|nx ρ2=>exact λσ3 H3 H03 z3 h3=>⟨H03,ρ2,(z.trans z').trans z3,h3,cG.grow (r:=b7 tg s (ds.drop (i+1)) ρ2) q z3⟩|ct ρ2=>exact λσ3 H3 H03 z3 h3=>⟨H03,ρ2,(z.trans z').trans z3,h3,cG.grow (r:=b7 tg s (ds.drop (i+1)) ρ2) q z3⟩|bk ρ2|rt d=>exact q
def lE(hp:PassesOwn (UT X.prog X.w) X.A X.env X.xe)(hc:X.calm=true)(hi:DI X E tgt iter src)(hg:DG X E He η tgt tg)(ht:vi tg)(hb:zk X E He η body s)
  (hs:∀x,foldedSetIterable iter X.env x=pure x:=by intro _;rfl):DS X E He η (.For tgt iter body [] pos) (kM src tg s):=by
 refine⟨b4 (vL hp hc hi.o hg.o hb.o hs) λD' σ H z9=>?_⟩;obtain⟨Ha,ρ,h,q⟩:=z9;refine⟨Ha,ρ,h.g.sub,h.rd,?_⟩;unfold kM at q;cases e1:src ρ with
 |stuck=>rw[e1]at q;exact q|exn x=>rw[e1]at q;exact λC ox H' Ha' g r=>q C ox H' Ha' (h.g.trans g) r
 |ok ds=>
  rw[e1]at q;intro J H1 H01 g it;have q1:cG X.K E He η H01 (b7 tg s ds ρ) D':=cG.grow (r:=b7 tg s ds ρ) q g.z;refine⟨λi m σ' H'=>m+i=ds.length/\g6 X.K E He η H01 tg s ds D' i σ' H',⟨ds.length,rfl,H01,ρ,aG.refl _,h.grow g,q1⟩,?_⟩;rintro i m σ' H' ⟨hm,Ha',ρ',z,h',hq⟩
  by_cases hlt:i<ds.length
  .refine .inr ⟨it.go i H' Ha' z h'.g.sub hlt,λσ2 H2=>g6 X.K E He η H01 tg s ds D' (i+1) σ2 H2,λσ2 H2 hl=>⟨m-1,by omega,by omega,hl⟩,λx H2 hy=>?_⟩
   obtain⟨H₀2,g2,rp⟩:=it.yld i H' Ha' x H2 ds[i] z h'.g.sub (Ut hlt) hy;exact g6.step2 (z.trans g2.z) (h'.grow g2) (cG.grow (r:=b7 tg s (ds.drop i) ρ') hq g2.z) (Ut hlt) rp λρ=>ht ρ _
  .have e:i=ds.length:=by omega
   refine .inl ⟨it.stop i H' Ha' z h'.g.sub (by omega),?_⟩;subst e;exact g6.done ⟨Ha',ρ',z,h',hq⟩
end
def nD(f:am):Prop:=∀ρ d,f ρ=.ok d->∃ds,d=.lst ds
def xw{K:Ur}(hf:nD f)(h:tD K E f σ H Q):tF K E f σ H Q:=by
 obtain⟨Ha,ρ,hs,hr,q⟩:=h;refine⟨Ha,ρ,hs,hr,?_⟩;cases e1:f ρ with
 |stuck|exn x=>rw[e1]at q;exact q
 |ok d=>
  obtain⟨ds,rfl⟩:=hf ρ d e1;rw[e1]at q;intro p vs H' Ha' g hp h0 hv rp;have n0:Ha p=none:=hs.free hp;refine q (.ref p) H' (upd Ha' p (.lst vs)) ⟨g.s,λb o e=>?_,λb o e=>?_,λb k1 k2=>?_⟩ (aJ.mpr ⟨p,vs,rfl,fM.of aE,rp.mono λb o e=>?_⟩)
  .rw[aA (by intro z;subst z;rw[n0]at e;cases e)];exact g.z _ _ e
  .by_cases hb:b=p
   .subst hb;rw[aE]at e;cases e;exact hv
   .rw[aA hb]at e;exact g.sub _ _ e
  .by_cases hb:b=p
   .subst hb;exact hp
   .rw[aA hb]at k1;exact g.nw b k1 k2
  .rw[aA (by intro z;subst z;rw[h0]at e;cases e)];exact e
def Gj(hf:nD f)(h:DF X E e f):DE X E e f:=⟨bc h.o λσ H Q q=>xw hf q⟩
def de(n:Nat)(fr:bv)(ρ:Ev):Ev:=UJ n .no++fr.map λ(i:Nat)=>match ρ[i]? with
 |some (.sh d)=>.sh d
 |_=>.no
noncomputable def cI(b:Ev) (tg:Ev->D->ar Ev) (tt fe:am):ac->ar (ac)
 |[]=>.ok []
 |d::r=>(tg b d).bind λρ1=>(tt ρ1).bind λt=>match t with
  |.bl true=>(fe ρ1).bind λx=>(cI b tg tt fe r).bind λxs=>.ok (x::xs)
  |.bl false=>cI b tg tt fe r
  |_=>.stuck
def dy(n:Nat)(fr:bv)(src:Ev->ar (ac))(tg:Ev->D->ar Ev)(tt fe:am):am:=λρ=>(src ρ).bind λds=>
 if ds.length<=line then match cI (de n fr ρ) tg tt fe ds with
  |.ok es=>.ok (.lst es)
  |_=>.stuck
 else .stuck
def uW{fr:bv}:nD (dy n fr src tg tt fe):=λρ d h=>by
 unfold dy at h;cases e1:src ρ with
 |stuck|exn x=>rw[e1]at h;cases h
 |ok ds=>
  rw[e1]at h;replace h:(if ds.length<=line then match cI (de n fr ρ) tg tt fe ds with
   |.ok es=>ar.ok (D.lst es)
   |_=>.stuck else .stuck)=.ok d:=h
  split at h
  .split at h
   .cases h;exact⟨_,rfl⟩
   .cases h
  .cases h
def kh(h:cI b tg tt fe (d::r)=.ok es) :
  ∃ρ1 t,tg b d=.ok ρ1/\tt ρ1=.ok (.bl t)/\((t=true/\∃x xs,fe ρ1=.ok x/\cI b tg tt fe r=.ok xs/\es=x::xs)∨(t=false/\cI b tg tt fe r=.ok es)):=by
 unfold cI at h;cases e1:tg b d with
 |stuck|exn z=>rw[e1]at h;cases h
 |ok ρ1=>
  rw[e1]at h;replace h:((tt ρ1).bind λt=>match t with
   |.bl true=>(fe ρ1).bind λx=>(cI b tg tt fe r).bind λxs=>ar.ok (x::xs)
   |.bl false=>cI b tg tt fe r
   |_=>.stuck)=.ok es:=h
  cases e2:tt ρ1 with
  |stuck|exn z=>rw[e2]at h;cases h
  |ok t=>
   rw[e2]at h;cases t with
   |bl t=>
    cases t with
    |true=>
     replace h:((fe ρ1).bind λx=>(cI b tg tt fe r).bind λxs=>ar.ok (x::xs))=.ok es:=h;cases e3:fe ρ1 with
     |stuck|exn z=>rw[e3]at h;cases h
     |ok x=>
      rw[e3]at h;replace h:((cI b tg tt fe r).bind λxs=>ar.ok (x::xs))=.ok es:=h;cases e4:cI b tg tt fe r with|stuck|exn z=>rw[e4]at h;cases h|ok xs=>rw[e4]at h;cases h;exact⟨ρ1,true,rfl,e2,.inl ⟨rfl,x,xs,e3,rfl,rfl⟩⟩
    |false=>exact⟨ρ1,false,rfl,e2,.inr ⟨rfl,h⟩⟩
   |_=>cases h
def jI(h1:tg b d=.ok ρ1)(h2:tt ρ1=.ok (.bl true))(h3:fe ρ1=.ok x):cI b tg tt fe (d::r)=(cI b tg tt fe r).bind λxs=>.ok (x::xs):=by
 rw[cI,h1];simp only[ar.bind,h2,h3]
def sD(h1:tg b d=.ok ρ1)(h2:tt ρ1=.ok (.bl false)):cI b tg tt fe (d::r)=cI b tg tt fe r:=by
 rw[cI,h1];simp only[ar.bind,h2]
theorem oj:∀{r q es:ac},cI b tg tt fe (r++q)=.ok es->∃e1 e2,cI b tg tt fe r=.ok e1/\cI b tg tt fe q=.ok e2/\es=e1++e2
 |[],q,es,h=>⟨[],es,rfl,h,rfl⟩
 |d::r,q,es,h=>by
  obtain⟨ρ1,t,h1,h2,h3⟩:=kh h;rcases h3 with⟨rfl,x,xs,h3,h4,rfl⟩|⟨rfl,h4⟩
  .obtain⟨e1,e2,k1,k2,rfl⟩:=oj h4
   refine⟨x::e1,e2,?_,k2,rfl⟩;rw[jI h1 h2 h3,k1];rfl
  .obtain⟨e1,e2,k1,k2,rfl⟩:=oj h4
   refine⟨e1,e2,?_,k2,rfl⟩;rw[sD h1 h2];exact k1
theorem kf{b:Ev}{tg:Ev->D->ar Ev}{tt fe:am}:∀{r q e1 e2:ac},cI b tg tt fe r=.ok e1->cI b tg tt fe q=.ok e2->cI b tg tt fe (r++q)=.ok (e1++e2)
 |[],q,e1,e2,h,h'=>by cases h;exact h'
 |d::r,q,e1,e2,h,h'=>by
  obtain⟨ρ1,t,h1,h2,h3⟩:=kh h;show cI b tg tt fe (d::(r++q))=_;rcases h3 with⟨rfl,x,xs,h3,h4,rfl⟩|⟨rfl,h4⟩
  .rw[jI h1 h2 h3,kf h4 h'];rfl
  .rw[sD h1 h2];exact kf h4 h'
theorem sE:∀{r es:ac},cI b tg tt fe r=.ok es->es.length<=r.length
 |[],es,h=>by cases h;exact UC _
 |d::r,es,h=>by
  obtain⟨ρ1,t,h1,h2,h3⟩:=kh h;rcases h3 with⟨rfl,x,xs,h3,h4,rfl⟩|⟨rfl,h4⟩
  .exact Nat.succ_le_succ (sE h4)
  .exact Nat.le_succ_of_le (sE h4)
def za(n:Nat)(tg:Ev->D->ar Ev):Prop:=∀ρ d ρ',tg ρ d=.ok ρ'->ρ'.length=ρ.length/\∀(k:Nat),n<=k->ρ'[k]?=ρ[k]?
def eK(h:i<n):za n (bU i):=λρ d ρ' e=>by
 cases e;exact⟨by simp,λk hk=>by rw[UE (by omega)]⟩
theorem mq:∀{is:bv}{ds:ac}{ρ:Ev},(is.all λi=>decide (i<n))=true->(dA ρ is ds).length=ρ.length/\∀(k:Nat),n<=k->(dA ρ is ds)[k]?=ρ[k]?
 |[],ds,ρ,_=>by unfold dA;exact⟨rfl,λ_ _=>rfl⟩
 |i::is,[],ρ,_=>by unfold dA;exact⟨rfl,λ_ _=>rfl⟩
 |i::is,d::ds,ρ,h=>by
  rw[WV,U7,decide_eq_true_eq]at h;unfold dA;obtain⟨h1,h2⟩:=mq (ds:=ds) (ρ:=ρ.set i (.sh d)) h.2;exact⟨by rw[h1];simp,λk hk=>by rw[h2 k hk,UE (by omega)]⟩
def kI(h:(is.all λi=>decide (i<n))=true):za n (el is):=λρ d ρ' e=>by
 unfold el at e;cases hp:eT is.length d with|none=>rw[hp]at e;cases e|some ds=>rw[hp]at e;cases e;exact mq h
def AG{K:Ur}{fr:bv}(h:Reads K Ha σ ρ):Reads K Ha (kr n fr σ) (de n fr ρ):=λi d e=>by
 unfold de at e;unfold kr
 by_cases hi:i<n
 .rw[UQ (by simpa using hi),U5,if_pos hi]at e
  cases e
 .rw[UW (by simpa using hi),Vx,UK]at e ⊢
  cases hf:fr[i-n]? with
  |none=>rw[hf]at e;cases e
  |some j=>
   rw[hf]at e;simp only[WC,V2]at e ⊢;cases hj:ρ[j]? with
   |none=>rw[hj]at e;cases e
   |some s=>
    rw[hj]at e;cases s with
    |sh d'=>
     cases e;obtain⟨v,h1,h2⟩:=h j d hj;exact⟨v,by rw[h1];rfl,h2⟩
    |_=>cases e
def Kk{fr:bv}(h:k<n):(de n fr ρ)[k]?=some .no:=by
 unfold de;rw[UQ (by simpa using h),U5,if_pos h]
def Gy{fr:bv}(i j:Nat)(es:ac):(de n fr ρ)[i]?≠some (.ox j es):=λe=>by
 unfold de at e
 by_cases hj:i<n
 .rw[UQ (by simpa using hj),U5,if_pos hj]at e;cases e
 .rw[UW (by simpa using hj),UK]at e
  cases hf:fr[i-(UJ n Sl.no).length]? with
  |none=>rw[hf]at e;cases e
  |some z=>
   rw[hf]at e;simp only[WC,V2]at e;split at e<;>cases e
def Dw{fr:bv}{σ:L2.St}(i:Nat)(a:Uy)(e:(de n fr ρ)[i]?=some (.pt a)):σ[i]?=some (some (.ref a)):=by
 unfold de at e
 by_cases hj:i<n
 .rw[UQ (by simpa using hj),U5,if_pos hj]at e;cases e
 .rw[UW (by simpa using hj),UK]at e
  cases hf:fr[i-(UJ n Sl.no).length]? with
  |none=>rw[hf]at e;cases e
  |some z=>
   rw[hf]at e;simp only[WC,V2]at e;split at e<;>cases e
def y8{fr:bv}:(de n fr ρ).length=n+fr.length:=by unfold de;simp
def AB{K:Ur}{fr:bv}(hsame:aG Ha H)(g1:bI H Ha H1 H01)(it:N7 K ds J H01)(hl:ds.length<=line)
  (e2:cI (de n fr ρ) tg tt fe ds=.ok es)(hr:Reads K H01 σ ρ)(hok:za n tg)
  (q:∀p vs H' Ha',bI H Ha H' Ha'->H p=none->Ha' p=none->H' p=some (.lst vs)->Reps K Ha' es vs->Q (.ref p) H') :
  qp n fr (Mv K tg) (Oc K E tt) (tD K E fe) J σ H1 Q:=by
 intro Da hDa;have h0D:H01 Da=none:=g1.sub.free hDa;refine⟨λi m ys σ' H'=>m=ds.length-i/\i<=ds.length/\σ'.length=n+fr.length/\∃Ha',bI H1 H01 H' Ha'/\Ha' Da=none/\H' Da=some (.lst ys)/\Reads K Ha' σ' (de n fr ρ)/\∃es1,cI (de n fr ρ) tg tt fe (ds.take i)=.ok es1/\Reps K Ha' es1 ys,
  ⟨ds.length,by simp,Wx _,by unfold kr;simp,H01,?_,h0D,aE,AG hr,[],rfl,Reps.nil⟩,?_⟩
 .refine⟨λb o e=>by rw[aA (bo e hDa)];exact e,aG.refl _,λb o e=>?_,λb k1 k2=>absurd k2 k1⟩
  rw[aA (by intro z;subst z;rw[h0D]at e;cases e)];exact g1.sub _ _ e
 .rintro i m ys σ' H' ⟨rfl,hile,hsl,Ha',gg,hD0,hDl,hrd,es1,hes1,hys⟩
  refine⟨hDl,?_⟩
  by_cases hlt:i<ds.length
  .refine .inr ⟨it.go i H' Ha' gg.z gg.sub hlt,?_,?_⟩
   .rw[←hys.length]
    have:=sE hes1;rw[VA]at this;have h2:line<sizeLine:=by decide
    omega
   .intro x H2 hy
    obtain⟨H₀2,g2,rp⟩:=it.yld i H' Ha' x H2 ds[i] gg.z gg.sub (Ut hlt) hy;have hsplit:ds=ds.take i++(ds[i]::ds.drop (i+1)):=by rw[←Vk hlt,List.take_append_drop]
    rw[hsplit]at e2;obtain⟨a1,a2,k1,k2,k3⟩:=oj e2;rw[hes1]at k1;cases k1;obtain⟨ρ1,t,t1,t2,t3⟩:=kh k2;have hn2:H₀2 Da=none:=by
     cases qq:H₀2 Da with|none=>rfl|some o=>have:=g2.nw Da (by rw[qq];simp) hD0;rw[hDl]at this;cases this
    have hD2:H2 Da=some (.lst ys):=g2.s _ _ hDl;refine⟨H2,H₀2,H₀2,de n fr ρ,ds[i],⟨bI.refl g2.sub,hrd.mono g2.z,λj d' e=>?_,λj k d1 d2 _ e=>?_,by rw[y8,hsl],OX.none Gy Dw⟩,rp,?_⟩
    .unfold de at e
     by_cases hj:j<n
     .rw[UQ (by simpa using hj),U5,if_pos hj]at e;cases e
     .rw[UW (by simpa using hj),UK]at e
      cases hf:fr[j-(UJ n Sl.no).length]? with
      |none=>rw[hf]at e;cases e
      |some z=>
       rw[hf]at e;simp only[WC,V2]at e;split at e<;>cases e
    .unfold de at e
     by_cases hj:j<n
     .rw[UQ (by simpa using hj),U5,if_pos hj]at e;cases e
     .rw[UW (by simpa using hj),UK]at e
      cases hf:fr[j-(UJ n Sl.no).length]? with
      |none=>rw[hf]at e;cases e
      |some z=>
       rw[hf]at e;simp only[WC,V2]at e;split at e<;>cases e
    .rw[t1]
     intro σ3 H3 H03 z3 s3;have hrl:=hok _ _ _ t1;have hσ3:σ3.length=n+fr.length:=by rw[←s3.ln,hrl.1,y8]
     have back:∀{Hx:Hp},aG H03 Hx->Reads K Hx σ3 (de n fr ρ):=λ{Hx} sx k d e=>by
      by_cases hk:k<n
      .rw[Kk hk]at e;cases e
      .rw[←hrl.2 k (by omega)]at e
       obtain⟨v,h1,h2⟩:=s3.rd k d e;exact⟨v,h1,h2.mono sx⟩
     have n3:H03 Da=none:=by
      cases qq:H03 Da with|none=>rfl|some o=>have:=s3.g.nw Da (by rw[qq];simp) hn2;rw[hD2]at this;cases this
     have hD3:H3 Da=some (.lst ys):=s3.g.s _ _ hD2;refine⟨H03,ρ1,s3.g.sub,s3.rd,?_⟩;rw[t2];intro H4 H04 g4;have hD4:H4 Da=some (.lst ys):=g4.s _ _ hD3;have n4:H04 Da=none:=by
      cases qq:H04 Da with|none=>rfl|some o=>have:=g4.nw Da (by rw[qq];simp) n3;rw[hD3]at this;cases this
     have htake:ds.take (i+1)=ds.take i++[ds[i]]:=by rw[List.take_add_one,Ut hlt];rfl
     have g04:=(gg.trans g2).trans (s3.g.trans g4);rcases t3 with⟨rfl,y,xs,t3,t4,_⟩|⟨rfl,t4⟩
     .rw[if_pos rfl]
      refine⟨H04,ρ1,g4.sub,s3.rd.mono g4.z,?_⟩;rw[t3];intro yv H5 H05 g5 ry;have hD5:H5 Da=some (.lst ys):=g5.s _ _ hD4;have n5:H05 Da=none:=by
       cases qq:H05 Da with|none=>rfl|some o=>have:=g5.nw Da (by rw[qq];simp) n4;rw[hD4]at this;cases this
      have gall:=g04.trans g5;refine⟨hD5,ds.length-(i+1),by omega,rfl,hlt,hσ3,H05,⟨λb o e=>?_,gall.z,λb o e=>?_,gall.nw⟩,n5,aE,back (g4.z.trans g5.z),es1++[y],?_,?_⟩
      .rw[aA (bo e hDa)];exact gall.s _ _ e
      .rw[aA (by intro z;subst z;rw[n5]at e;cases e)];exact gall.sub _ _ e
      .rw[htake]
       refine kf hes1 ?_;rw[jI t1 t2 t3];rfl
      .exact(hys.mono ((g2.z.trans s3.g.z).trans (g4.z.trans g5.z))).app (Reps.cons ry Reps.nil)
     .rw[if_neg VO]
      refine⟨ds.length-(i+1),by omega,rfl,hlt,hσ3,H04,g04,n4,hD4,back g4.z,es1,?_,hys.mono ((g2.z.trans s3.g.z).trans g4.z)⟩;rw[htake];rw[show es1=es1++[] by simp];refine kf hes1 ?_;rw[sD t1 t2];rfl
  .have hi2:i=ds.length:=by omega
   refine .inl ⟨it.stop i H' Ha' gg.z gg.sub (by omega),?_⟩;rw[hi2,List.take_length]at hes1;rw[e2]at hes1;cases hes1;exact q Da ys H' Ha' (g1.trans gg) (g1.s.free hDa) hD0 hDl hys
structure RW (X:Cx) (E:XK) (ifs:List Vl) (f:am):Prop where
 o:OB X ifs (Oc X.K E f)
def mYes:am:=λ_=>.ok (.bl true)
def eX:RW X E [] mYes:=⟨λπ s σ H Q I ⟨Ha,ρ,hs,hr,q⟩=>Bh π s σ H Q I (q H Ha (bI.refl hs))⟩
def J4(h:DT X E c f):RW X E [c] f:=⟨HU h.o⟩
structure RD (X:Cx) (E:XK) (e:Vl) (f:am):Prop where
 ev:PE X e (tF X.K E f)
 st:∀{i:Nat}{x:UP}{pos' spos:Pos},X.N.Nodup->X.N[i]?=some x->X.env.scope.names.lookup x=some .local -> VG e (some (.Name x pos')) spos.line X.env=pure true->PS X (.Assign [.Name x pos'] e spos) (HB (tF X.K E f) (BP i))
def Ud(N:bi)(n:Nat)(fr:bv)(hc:X.calm=true)(hi:DI X E tgt iter src)(hok:za n tg)
  (blk:∀s H C fp pn,(∀He η,DG (dJ X N scope s H C fp pn) E He η tgt tg)/\RW (dJ X N scope s H C fp pn) E ifs tt/\DE (dJ X N scope s H C fp pn) E elt fe)
  (hfr:AO X N n fr scope)(hcell:∀x∈scope.names,x.2≠.cell)(hfree:∀x∈scope.names,x.2=.free->X.env.scope.names.lookup x.1=some .cell)(hkind:scope.kind=.function)(hnames:∀x∈scope.names,x.2=.local -> scope.names.lookup x.1=some .local)
  (hs:∀x,foldedSetIterable iter X.env x=pure x:=by intro _;rfl):RD X E (.ListComp elt [⟨tgt,iter,ifs,0⟩] scope pos) (dy n fr src tg tt fe):=by
 have blk':∀s H C fp pn,PG (dJ X N scope s H C fp pn) tgt (Mv X.K tg)/\OB (dJ X N scope s H C fp pn) ifs (Oc X.K E tt)/\PE (dJ X N scope s H C fp pn) elt (tD X.K E fe):=λs H C fp pn=>
  ⟨λπ s' σ' H' v u Q' I r ⟨He,η,q'⟩=>((blk s H C fp pn).1 He η).o π s' σ' H' v u Q' I r q',(blk s H C fp pn).2.1.o,(blk s H C fp pn).2.2.o⟩
 have first:∀{π:List (Uy×Obj)}{s:UD}{σ:L2.St}{H:Hp}{Q:VK}{RR:Up->Uy->Zj->UD->Prop},L2.Inv X π σ H s->tF X.K E (dy n fr src tg tt fe) σ H Q ->
   (∀(Da C:Uy) (s6:UD) (H5:Hp) (m:UP->Option Up),L2.Inv X π σ H5 s6->s6.heap.Ns C m->nE X π H5 C->Q (.ref Da) H5->RR (.ref Da) C (.ok .next) s6) ->
   UR (UT X.prog X.w) X.A (eval iter X.env) (λx sg=>UR (UT X.prog X.w) X.A (pyIter x) (λit si=>UR (UT X.prog X.w) X.A (newList []) (λacc sj=>
    UR (UT X.prog X.w) X.A (newFunctionEnv scope X.env.globals (iP X.env.cells scope.names []) [] X.env.qual none .none (some X.env)) (λcenv sk=>
     Wz (UT X.prog X.w) X.A (.compStart (.ListComp elt [⟨tgt,iter,ifs,0⟩] scope pos) 0 it acc { cenv with scope:=relabel scope X.env }) (RR acc cenv.locals) sk) X.xe sj) X.xe si) X.xe sg) X.xe s:=by
  intro π s σ H Q RR I ⟨Ha,ρ,hsame,hr,q⟩ fin;refine dz (hi.o π s σ H (λJ H1=>qp n fr (Mv X.K tg) (Oc X.K E tt) (tD X.K E fe) J σ H1 Q) I ⟨Ha,ρ,hsame,hr,?_⟩) λv s1 h1=>dz h1 λitv s2 h2=>uX (N:=N) hc hfr hcell hfree hkind blk' h2 fin;unfold dy at q;cases e1:src ρ with
  |stuck|exn x=>rw[e1]at q;exact q
  |ok ds=>
   rw[e1]at q;intro J H1 H01 g1 it;replace q:match (if ds.length<=line then match cI (de n fr ρ) tg tt fe ds with
     |.ok es=>ar.ok (D.lst es)
     |_=>.stuck else .stuck) with
    |.ok (.lst ds)=>∀p vs H' Ha',bI H Ha H' Ha'->H p=none->Ha' p=none->H' p=some (.lst vs)->Reps X.K Ha' ds vs->Q (.ref p) H'
    |.ok _=>False
    |.exn x=>∀C ox H' Ha',bI H Ha H' Ha'->zc X.K Ha' x C ox->E C ox H'
    |.stuck=>False:=q
   by_cases hl:ds.length<=line
   .rw[if_pos hl]at q
    cases e2:cI (de n fr ρ) tg tt fe ds with
    |stuck|exn x=>rw[e2]at q;exact q.elim
    |ok es=>
     rw[e2]at q;exact AB hsame g1 it hl e2 (hr.mono g1.z) hok q
   .rw[if_neg hl]at q;exact q.elim
 have hcl:∀{π:List (Uy×Obj)}{s:UD}{σ:L2.St}{H:Hp},L2.Inv X π σ H s->closureFor scope X.env=pure (iP X.env.cells scope.names []):=λ{π s σ H} I=>lW λy hy hf=>I.ok.has y.1 (.inl (hfree y hy hf));refine⟨λπ s σ H Q I h=>?_,λ{i x pos' spos} hN hi' hx hsw π s σ H D' I h=>?_⟩
 .rw[eval_ListComp]
  refine wpAny_comprehension_free (use:=none) rfl hs (hcl I) hkind hnames (first (RR:=λacc C=>compPost (UT X.prog X.w) X.A X.xe none (EP X π σ Q) acc C) I h λDa C s6 H5 m I6 ns fC q=>?_);refine⟨m,ns,λh' sb=>⟨.ref Da,H5,?_,rfl,q⟩⟩;exact I6.turned (t':=s6.toks) (it:=C) (λb o hb e=>(sb.2 b hb).trans e) fC.1 fC.2.1 fC.2.2.2.1 fC.2.2.2.2.1 fC.2.2.2.2.2
 .rw[exec_Assign_Name_used _ _ _ _ hsw]
  refine Uv (wpAny_standAt (Uv ?_));show UR _ X.A (do let _ ←comprehension (.ListComp elt [⟨tgt,iter,ifs,0⟩] scope pos) scope X.env _ (newList []) false (eval iter X.env) (some (assign (.Name x pos') X.env))) _ _ s;refine Uv (VD (wpAny_comprehension_free (use:=some (assign (.Name x pos') X.env)) (Q:=λ_ s'=>SP X π D' .next s') rfl hs (hcl I) hkind hnames
   (first (RR:=λacc C=>compPost (UT X.prog X.w) X.A X.xe (some (assign (.Name x pos') X.env)) (λ_ s'=>SP X π D' .next s') acc C) I h λDa C s6 H5 m I6 ns fC q=>?_)) (λ_ s' hq=>UY (UY hq)) λ_ _ e=>e)
  show UR _ X.A (assign (.Name x pos') X.env (.ref Da)) _ _ _;refine wpAny_assign_Name (nK (v:=.ref Da) I6 hN hi' (.inl hx) rfl (λs' I' z9=>?_) (.inr hx));obtain⟨a,sb,ha⟩:=z9;have hCa:C≠a:=by
   rcases ha with rfl|ha
   .exact fC.2.1
   .exact λz=>fC.2.2.2.2.1 x a ha z.symm
  refine⟨m,ns.sameBut sb hCa,λh' sb'=>⟨_,H5,?_,q⟩⟩;exact I'.turned (t':=s'.toks) (it:=C) (λb o hb e=>(sb'.2 b hb).trans e) fC.1 fC.2.1 fC.2.2.2.1 fC.2.2.2.2.1 fC.2.2.2.2.2
def Q2(h:RD X E e f):DF X E e f:=⟨h.ev⟩
def jG{fr:bv}(h:RD X E e (dy n fr src tg tt fe)):DE X E e (dy n fr src tg tt fe):=Gj uW (Q2 h)
section
variable {X:Cx}{E:XK}{He η:Hp}{e:Vl}{f:am}{s:bd}{pos:Pos}{st:V6}
def unown(i:Nat)(ρ:Ev):Ev:=match ρ[i]? with
 |some (.ow d)=>ρ.set i (.sh d)
 |_=>ρ
def zB(i:Nat)(s:bd):bd:=λρ=>s (unown i ρ)
def fj.unown{K:Ur}(h:fj K He η Ha σ H ρ)(i:Nat):∃Ha',aG Ha Ha'/\fj K He η Ha' σ H (DL.unown i ρ):=by
 unfold DL.unown;cases e:ρ[i]? with
 |none=>exact⟨Ha,aG.refl _,h⟩
 |some s=>
  cases s with
  |no|sh d|ox j ds|pt a=>exact⟨Ha,aG.refl _,h⟩
  |ow d=>
   obtain⟨a,k1,k2,k3,k4⟩:=h.ow i d e;obtain⟨o,h5,hrep⟩:∃o,H a=some o/\∀Hb,aG Ha Hb->Hb a=some o->Rep K Hb d (.ref a):=by
    cases d with
    |lst ds=>obtain⟨vs,h5,h6⟩:=k4;exact⟨_,h5,λHb z e=>aJ.mpr ⟨a,vs,rfl,fM.of e,h6.mono z⟩⟩
    |dic ks ds=>obtain⟨vs,h5,hl,h6⟩:=k4;exact⟨_,h5,λHb z e=>by rw[Rep];exact⟨a,_,vs,rfl,.inl e,rfl,hl,h6.mono z⟩⟩
    |_=>exact k4.elim
   have z:aG Ha (upd Ha a o):=λb o' q=>by rw[aA (by intro z;subst z;rw[k3]at q;cases q)];exact q
   have h':fj K He η (upd Ha a o) σ H (ρ.set i .no):=by
    have nset:∀(j:Nat) (s:Sl),(ρ.set i .no)[j]?=some s->s≠.no->j≠i/\ρ[j]?=some s:=λj s q hs=>by
     by_cases hj:i=j
     .subst hj
      rw[W3]at q;rw[e]at q;cases q;exact absurd rfl hs
     .rw[UE hj]at q;exact⟨λz=>hj z.symm,q⟩
    refine⟨⟨h.g.s,h.g.z.trans z,λb o' q=>?_,λb q1 q2=>?_⟩,λj d' q=>?_,λj d' q=>?_,λj k d1 d2 hn q1 q2=>?_,by simp[h.ln],h.ex.upd (λj s q=>?_) z (λb us _ eb=>eb) λq us _ q0 hq hd=>?_⟩
    rotate_left 5
    .by_cases hs:s=.no
     .exact .inr (.inr (.inl hs))
     .exact .inl ⟨(nset j s q hs).2,rfl⟩
    .have hq':q≠a:=by
      intro zz;subst zz;exact hd i _ e k1
     exact⟨hq,by rw[aA hq'];exact q0⟩
    .by_cases hb:b=a
     .subst hb;rw[aE]at q;cases q;exact h5
     .rw[aA hb]at q;exact h.g.sub _ _ q
    .by_cases hb:b=a
     .subst hb;exact k2
     .rw[aA hb]at q1;exact h.g.nw b q1 q2
    .obtain⟨hj,q⟩:=nset j _ q (λz=>nomatch z)
     obtain⟨v,q1,q2⟩:=h.rd j d' q;exact⟨v,q1,q2.mono z⟩
    .obtain⟨hj,q⟩:=nset j _ q (λz=>nomatch z)
     obtain⟨b,q1,q2,q3,q4⟩:=h.ow j d' q;have hb:b≠a:=by
      intro zz;subst zz;exact h.ap j i d' d hj q e (by rw[q1,k1])
     refine⟨b,q1,q2,by rw[aA hb];exact q3,?_⟩;cases d' with|lst ds'=>obtain⟨vs',h7,h8⟩:=q4;exact⟨vs',h7,h8.mono z⟩|dic ks' ds'=>obtain⟨vs',h7,hl,h8⟩:=q4;exact⟨vs',h7,hl,h8.mono z⟩| _=>exact q4.elim
    .obtain⟨_,q1⟩:=nset j _ q1 (λz=>nomatch z)
     obtain⟨_,q2⟩:=nset k _ q2 (λz=>nomatch z);exact h.ap j k d1 d2 hn q1 q2
   refine⟨_,z,?_⟩;have hp:=h'.put (i:=i) (d:=d) (v:=.ref a) (hrep _ z aE);rw[List.set_set]at hp;have hσ:σ.set i (some (V.ref a))=σ:=by
    apply List.ext_getElem?;intro k
    by_cases hk:i=k
    .subst hk
     obtain⟨hil,_⟩:=Ux.mp k1;rw[Vg hil,k1]
    .rw[UE hk]
   rw[hσ]at hp;exact hp
def Av(i:Nat)(h:DS X E He η st s):DS X E He η st (zB i s):=⟨b4 h.o λD' σ H z9=>by
 obtain⟨Ha,ρ,hr,q⟩:=z9;obtain⟨Ha',z,hr'⟩:=hr.unown i;exact⟨Ha',DL.unown i ρ,hr',cG.grow (r:=s (DL.unown i ρ)) q z⟩⟩
end
def nh(N:bi)(n:Nat)(fr:bv)(hc:X.calm=true)(hi:DI X E tgt iter src)(hok:za n tg)
  (blk:∀s H C fp pn,(∀He η,DG (dJ X N scope s H C fp pn) E He η tgt tg)/\RW (dJ X N scope s H C fp pn) E ifs tt/\DE (dJ X N scope s H C fp pn) E elt fe)
  (hfr:AO X N n fr scope)(hcell:(scope.names.all λx=>!(x.2==.cell))=true)(hfree:(scope.names.all λx=>!(x.2==.free)||(X.env.scope.names.lookup x.1==some .cell))=true)(hkind:scope.kind=.function)
  (hnames:(scope.names.all λx=>!(x.2==.local)||(scope.names.lookup x.1==some .local))=true)
  (hs:∀x,foldedSetIterable iter X.env x=pure x:=by intro _;rfl):RD X E (.ListComp elt [⟨tgt,iter,ifs,0⟩] scope pos) (dy n fr src tg tt fe):=by
 refine Ud N n fr hc hi hok blk hfr (λx hx z=>?_) (λx hx z=>?_) hkind (λx hx z=>?_) hs
 .have:=Va.mp hcell x hx
  rw[z]at this;simp at this
 .have:=Va.mp hfree x hx
  rw[z]at this;simpa using this
 .have:=Va.mp hnames x hx
  rw[z]at this;simpa using this
def JZ(hN:X.N.Nodup)(hi:X.N[i]?=some x)(hx:X.env.scope.names.lookup x=some .local)(hl:nD f)(he:RD X E e f)(hs:VG e (some (.Name x pos')) pos.line X.env=pure true:=by rfl):DS X E He η (.Assign [.Name x pos'] e pos) (bT i f):=by
 refine⟨b4 (he.st hN hi hx hs) λD σ H ⟨Ha,ρ,h,q⟩=>?_⟩;refine xw hl ⟨Ha,ρ,h.g.sub,h.rd,?_⟩;refine plain h q λd v H' Ha' _ g rp q'=>?_;exact q' _ H' Ha' (aG.refl _) ((h.grow g).put rp)
end DL
namespace Com
open PySem L2 DL
def gh:bd :=
 (aw (jT (lu 1) (ag (af 1) (dC (.int 0)) gi)
 (aw (tO 0 1 (ae (af 1) (ae (ag (af 0) (af 1) eD) az)))
 au))
 (aw (bE (ao (ae (af 0) az) (m1 Dn)))
 au))
def iG:ac->ar D:=ck 2 gh
def ud:bd :=
 (aw (bT 2 (ao (ae (af 0) (ae (af 1) az)) iG))
 (aw (bE (ao (ae (ag (af 0) (af 2) sr) (ae (ag (af 1) (af 2) sr) az)) cT))
 au))
def GV:ac->ar D:=ck 3 ud
def wO:bd :=
 (aw (bE (f9 (aY (af 0) (b9 "int")) (cp (aY (af 0) (b9 "bool")))))
 au)
def mJ:ac->ar D:=ck 1 wO
noncomputable def fu:bd :=
 (aw (dM (gq (cp (aY (af 0) (b9 "tuple"))) (ag (ao (ae (af 0) az) (m1 cB)) (dC (.int 2)) gi))
 (aw (bE (dC (.bl false)))
 au)
 au)
 (aw (dM (gq (cp (ao (ae (ag (af 0) (dC (.int 0)) aO) az) mJ)) (gq (cp (ao (ae (ag (af 0) (dC (.int 1)) aO) az) mJ)) (ag (ag (af 0) (dC (.int 1)) aO) (dC (.int 1)) Kc)))
 (aw (bE (dC (.bl false)))
 au)
 au)
 (aw (bE (ag (ao (ae (ag (af 0) (dC (.int 0)) aO) (ae (ag (af 0) (dC (.int 1)) aO) az)) iG) (dC (.int 1)) gO))
 au)))
def gP:ac->ar D:=ck 1 fu
def AH:bd :=
 (aw (bE (f9 (aY (af 0) (b9 "int")) (cp (aY (af 0) (b9 "bool")))))
 au)
def m_is_whole:ac->ar D:=ck 1 AH
noncomputable def eZ:bd :=
 (aw (bT 2 (ao (ae (af 0) az) (m1 Dn)))
 (aw (bT 3 (ao (ae (af 1) az) (m1 Dn)))
 (aw (jT (lu 3) (ag (af 3) (dC (.int 0)) gi)
 (aw (bT 4 (ag (af 2) (af 3) eD))
 (aw (bT 2 (af 3))
 (aw (bT 3 (af 4))
 au))))
 (aw (bE (af 2))
 au))))
def m_common_divisor:ac->ar D:=ck 5 eZ
noncomputable def qf:bd :=
 (aw (dM (gq (cp (ao (ae (af 0) az) m_is_whole)) (cp (ao (ae (af 1) az) m_is_whole)))
 (aw dB
 au)
 au)
 (aw (dM (ag (af 1) (dC (.int 0)) gO)
 (aw dB
 au)
 au)
 (aw (bT 2 (ao (ae (af 0) (ae (af 1) az)) m_common_divisor))
 (aw (dM (ag (af 1) (dC (.int 0)) Kc)
 (aw (bT 2 (aY (af 2) og))
 au)
 au)
 (aw (bE (ao (ae (ag (af 0) (af 2) sr) (ae (ag (af 1) (af 2) sr) az)) cT))
 au)))))
def m_ratio:ac->ar D:=ck 3 qf
noncomputable def GB:bd :=
 (aw (bE (ao (ae (ag (ag (ag (af 0) (dC (.int 0)) aO) (ag (af 1) (dC (.int 1)) aO) cx) (ag (ag (af 1) (dC (.int 0)) aO) (ag (af 0) (dC (.int 1)) aO) cx) bX) (ae (ag (ag (af 0) (dC (.int 1)) aO) (ag (af 1) (dC (.int 1)) aO) cx) az)) m_ratio))
 au)
def m_plus:ac->ar D:=ck 2 GB
def vd:bd :=
 (aw (bE (ag (ag (ag (af 0) (dC (.int 0)) aO) (ag (af 1) (dC (.int 1)) aO) cx) (ag (ag (af 1) (dC (.int 0)) aO) (ag (af 0) (dC (.int 1)) aO) cx) Kc))
 au)
def m_is_less:ac->ar D:=ck 2 vd
def sT:bd :=
 (aw (bT 1 (dC (.tup [(.int 0),(.int 1)])))
 (aw (vG (af 0) (bU 2)
 (aw (bT 1 (ao (ae (af 1) (ae (af 2) az)) m_plus))
 au))
 (aw (bE (af 1))
 au)))
def m_sum_of:ac->ar D:=ck 3 sT
def Ki{f:α->ar β}:(ar.ok a).bind f=f a:=rfl
def iu(h:s ρ=.ok (.nx ρ')):aw s t ρ=t ρ':=by unfold aw;rw[h];rfl
def vF(h:s ρ=.ok (.rt d)):aw s t ρ=.ok (.rt d):=by unfold aw;rw[h];rfl
def xG(h:s ρ=.ok (.nx ρ')):aw s au ρ=.ok (.nx ρ'):=by unfold aw;rw[h];rfl
def zy(h:f ρ=.ok d):bT i f ρ=.ok (.nx (ρ.set i (.sh d))):=by unfold bT;rw[h];rfl
def vI(h:f (shr ρ)=.ok d):bE f ρ=.ok (.rt d):=by unfold bE;rw[h];rfl
def Ms(h:c (shr ρ)=.ok (.bl false)):dM c s t ρ=t ρ:=by unfold dM;rw[h];rfl
def qX:gi (.int i) (.int j)=.ok (.bl (!(i==j))):=by unfold gi;rw[if_pos ⟨rfl,rfl⟩,c8]
def Au:gO (.int i) (.int j)=.ok (.bl (i==j)):=by unfold gO;rw[if_pos ⟨rfl,rfl⟩,c8]
def LA(h:s (ds.map Sl.sh++UJ (n-ds.length) .no)=.ok (.rt d)):ck n s ds=.ok d:=by unfold ck;rw[h];rfl
def nz(h:f ρ=.ok x)(h':fa ρ=.ok xs):ae f fa ρ=.ok (x::xs):=by unfold ae;rw[h,Ki,h'];rfl
def sQ(h:f ρ=.ok x)(h':g ρ=.ok y):ag f g op ρ=op x y:=by unfold ag;rw[h,Ki,h'];rfl
def sP(h:fa ρ=.ok xs):ao fa m ρ=m xs:=by unfold ao;rw[h];rfl
def zT(h:b≠0):eD (.int a) (.int b)=.ok (.int (a.fmod b)):=by
 show(if decide (b≠0)=true then ar.ok (D.int (a.fmod b)) else .stuck)=_;rw[if_pos (decide_eq_true h)]
def Gi(h:gZ a b=true):sr (.int a) (.int b)=.ok (.int (a.fdiv b)):=by
 show(if gZ a b=true then ar.ok (D.int (a.fdiv b)) else .stuck)=_;rw[if_pos h]
def rB(a b:Int):Vm b (a.fmod b)=Vm a b:=by
 rw[Int.fmod_def,Int.gcd_sub_mul_left_right,Zp]
def BS{a b:Int}(h:b≠0):(a.fmod b).natAbs<b.natAbs:=by
 rcases Int.lt_or_gt_of_ne h with hb|hb
 .have h1:=Yg (-a) (show 0 < -b by omega)
  have h2:=Xa (-a) (show 0 < -b by omega);rw[Int.neg_fmod_neg]at h1 h2;omega
 .have h1:=Yg a hb
  have h2:=Xa a hb;omega
theorem m9:∀(n:Nat) (a b:Int),b.natAbs<n->∃g:Int,g.natAbs=Vm a b /\
  cS (ag (af 1) (dC (.int 0)) gi) (aw (tO 0 1 (ae (af 1) (ae (ag (af 0) (af 1) eD) az))) au) n [.sh (.int a),.sh (.int b)]=.ok (.nx [.sh (.int g),.sh (.int 0)])
 |0,a,b,h=>absurd h (YC _)
 |n+1,a,b,h=>by
  unfold cS;have c:(ag (af 1) (dC (.int 0)) gi) (shr [.sh (.int a),.sh (.int b)])=.ok (.bl (!(b==0))):=qX;rw[c]
  by_cases hb:b=0
  .subst hb
   exact⟨a,by simp,rfl⟩
  .have e:(!(b==0))=true:=by simp[hb]
   obtain⟨g,h1,h2⟩:=m9 n b (a.fmod b) (by have:=BS (a:=a) hb;omega);refine⟨g,by rw[h1,rB],?_⟩;rw[←h2];rw[e];have st:(aw (tO 0 1 (ae (af 1) (ae (ag (af 0) (af 1) eD) az))) au) [.sh (.int a),.sh (.int b)]=.ok (.nx [.sh (.int b),.sh (.int (a.fmod b))]):=by
    refine xG ?_;unfold tO;have:(ae (af 1) (ae (ag (af 0) (af 1) eD) az)) [.sh (.int a),.sh (.int b)]=.ok [.int b,.int (a.fmod b)]:=by
     exact nz rfl (nz (zT hb) rfl)
    rw[this];rfl
   show(ar.bind _ _)=_;rw[st];rfl
def NC(a b:Int):iG [.int a,.int b]=.ok (.int (Vm a b)):=by
 obtain⟨g,h1,h2⟩:=m9 (b.natAbs+1) a b (WT _);have w:jT (lu 1) (ag (af 1) (dC (.int 0)) gi) (aw (tO 0 1 (ae (af 1) (ae (ag (af 0) (af 1) eD) az))) au) [.sh (.int a),.sh (.int b)]=.ok (.nx [.sh (.int g),.sh (.int 0)]):=h2;have r:gh [.sh (.int a),.sh (.int b)]=.ok (.rt (.int (if g<0 then -g else g))):=by
  unfold gh;rw[iu w];exact vF (vI rfl)
 show(gh [.sh (.int a),.sh (.int b)]).bind _=_;rw[r];show ar.ok (D.int (if g<0 then -g else g))=_
 congr 2
 rw[←h1];split<;>omega
theorem o5:∀(n:Nat) (x y:D) (a b:Int) (r:Sl),0<=a->0<=b->b.natAbs<n->∃r',
  cS (ag (af 3) (dC (.int 0)) gi) (aw (bT 4 (ag (af 2) (af 3) eD)) (aw (bT 2 (af 3)) (aw (bT 3 (af 4)) au))) n [.sh x,.sh y,.sh (.int a),.sh (.int b),r]=.ok (.nx [.sh x,.sh y,.sh (.int (Vm a b)),.sh (.int 0),r'])
 |0,_,_,a,b,_,_,_,h=>absurd h (YC _)
 |n+1,x,y,a,b,r,ha,hb0,h=>by
  unfold cS;have c:∀r,(ag (af 3) (dC (.int 0)) gi) (shr [.sh x,.sh y,.sh (.int a),.sh (.int b),r])=.ok (.bl (!(b==0))):=λr=>qX;rw[c]
  by_cases hb:b=0
  .subst hb
   refine⟨r,?_⟩;have e:((Vm a 0:Nat):Int)=a:=by simp;omega
   rw[e];rfl
  .have e:(!(b==0))=true:=by simp[hb]
   have hp:0<b:=by omega
   obtain⟨r',h2⟩:=o5 n x y b (a.fmod b) (.sh (.int (a.fmod b))) hb0 (Xa a hp) (by have:=BS (a:=a) hb;omega);refine⟨r',?_⟩;rw[rB]at h2;rw[←h2,e];have st:(aw (bT 4 (ag (af 2) (af 3) eD)) (aw (bT 2 (af 3)) (aw (bT 3 (af 4)) au))) [.sh x,.sh y,.sh (.int a),.sh (.int b),r]=.ok (.nx [.sh x,.sh y,.sh (.int b),.sh (.int (a.fmod b)),.sh (.int (a.fmod b))]):=by
    have m:(ag (af 2) (af 3) eD) [.sh x,.sh y,.sh (.int a),.sh (.int b),r]=.ok (.int (a.fmod b)):=by
     exact zT hb
    rw[iu (zy m)];rfl
   show(ar.bind _ _)=_;rw[st];rfl
def oh(a b:Int):m_common_divisor [.int a,.int b]=.ok (.int (Vm a b)):=by
 have e:∀i:Int,(if i<0 then -i else i)=(i.natAbs:Int):=λi=>by split<;>omega
 obtain⟨r',h⟩:=o5 ((b.natAbs:Int).natAbs+1) (.int a) (.int b) a.natAbs b.natAbs .no (Int.natCast_nonneg _) (Int.natCast_nonneg _) (WT _);have hg:Vm (a.natAbs:Int) (b.natAbs:Int)=Vm a b:=by simp[Vm]
 rw[hg]at h;have r:eZ [.sh (.int a),.sh (.int b),.no,.no,.no]=.ok (.rt (.int (Vm a b))):=by
  unfold eZ;rw[iu (ρ':=[.sh (.int a),.sh (.int b),.sh (.int (a.natAbs:Int)),.no,.no]) (by rw[←e a];rfl)];rw[iu (ρ':=[.sh (.int a),.sh (.int b),.sh (.int (a.natAbs:Int)),.sh (.int (b.natAbs:Int)),.no]) (by rw[←e b];rfl)];have w:jT (lu 3) (ag (af 3) (dC (.int 0)) gi) (aw (bT 4 (ag (af 2) (af 3) eD)) (aw (bT 2 (af 3)) (aw (bT 3 (af 4)) au))) [.sh (.int a),.sh (.int b),.sh (.int (a.natAbs:Int)),.sh (.int (b.natAbs:Int)),.no]=.ok (.nx [.sh (.int a),.sh (.int b),.sh (.int (Vm a b)),.sh (.int 0),r']):=h;rw[iu w];exact vF (vI rfl)
 show(eZ [.sh (.int a),.sh (.int b),.no,.no,.no]).bind _=_;rw[r];rfl
def zF:(2:Nat) ^ 64<=AR:=by rw[tE];exact Wm (by decide) (by decide)
def PX{i:Int}(h:i.natAbs<18446744073709551616):i.natAbs<AR:=UA h zF
def iF(h:i.natAbs<18446744073709551616)(h':j.natAbs<18446744073709551616):fW i j=true:=by
 unfold fW;rw[U7];exact⟨decide_eq_true (PX h),decide_eq_true (PX h')⟩
def dQ(h:i.natAbs<AR)(h':j.natAbs<AR):fW i j=true:=by
 unfold fW;rw[U7];exact⟨decide_eq_true h,decide_eq_true h'⟩
def K0(h0:j≠0)(h:j.natAbs<B9):gZ i j=true:=by
 unfold gZ;rw[U7,YF];exact⟨decide_eq_true h0,.inl (decide_eq_true h)⟩
def wH(h0:j≠0)(h:i.natAbs<vo):gZ i j=true:=by
 unfold gZ;rw[U7,YF];exact⟨decide_eq_true h0,.inr (decide_eq_true h)⟩
def jh{k:Nat}(h:ds[k]?=some d):aO (.lst ds) (.int (k:Int))=.ok d:=by
 unfold aO;simp only[gE h]
def gp{a b:Int}(hb:0<b):0<=a.fmod b/\a.fmod b<b:=⟨Xa a hb,Yg a hb⟩
def nY(h:k<n):(DL.intsFrom 0 n).drop k=.int (k:Int)::(DL.intsFrom 0 n).drop (k+1):=by
 have hl:(DL.intsFrom 0 n).length=n:=by unfold DL.intsFrom;simp
 rw[Vk (by rw[hl];exact h)]
 congr 1
 unfold DL.intsFrom;simp
def rn:(DL.intsFrom 0 n).drop n=[]:=by
 have hl:(DL.intsFrom 0 n).length=n:=by unfold DL.intsFrom;simp
 exact List.drop_eq_nil_of_le (by omega)
def lz(h1:tg ρ d=.ok ρ1)(h2:s ρ1=.ok (.nx ρ2)):b7 tg s (d::r) ρ=b7 tg s r ρ2:=by
 rw[b7,h1,Ki,h2,Ki]
def BK:D->Bool
 |.int _=>true
 |_=>false
def cy(d:D):m_is_whole [d]=.ok (.bl (BK d)):=by cases d<;>first|rfl|(rename_i k _;cases k<;>rfl)
def mY{a g:Int}(hg:0<g):a.fdiv g=a / g:=Int.fdiv_eq_ediv_of_nonneg a (by omega)
def qc(h:b≠0):0<(Vm a b:Int):=by
 have:=Int.gcd_pos_of_ne_zero_right a h;omega
def EB(hb:0<b)(h1:a.natAbs<vo)(h2:b.natAbs<vo):m_ratio [.int a,.int b]=.ok (.tup [.int (a / Vm a b),.int (b / Vm a b)]):=by
 have hg:=qc (a:=a) (b:=b) (by omega);have r:qf [.sh (.int a),.sh (.int b),.no]=.ok (.rt (.tup [.int (a / Vm a b),.int (b / Vm a b)])):=by
  unfold qf;rw[iu (ρ':=[.sh (.int a),.sh (.int b),.no]) (Ms (t:=au) rfl)];rw[iu (ρ':=[.sh (.int a),.sh (.int b),.no]) (Ms (t:=au) ((sQ (x:=.int b) (y:=.int 0) rfl rfl).trans (Au.trans (by rw[beq_eq_false_iff_ne.mpr (by omega)]))))];rw[iu (ρ':=[.sh (.int a),.sh (.int b),.sh (.int (Vm a b))]) (zy ((sP (xs:=[.int a,.int b]) rfl).trans (oh a b)))];rw[iu (ρ':=[.sh (.int a),.sh (.int b),.sh (.int (Vm a b))]) (Ms (t:=au) (by
   show ar.ok (D.bl (decide (b<0)))=_;rw[decide_eq_false (by omega)]))]
  refine vF (vI ?_);refine(sP (xs:=[.int (a / Vm a b),.int (b / Vm a b)]) (nz ?_ (nz ?_ rfl))).trans rfl
  .rw[←mY hg]
   exact(sQ (x:=.int a) (y:=.int (Vm a b)) rfl rfl).trans (Gi (wH (by omega) h1))
  .rw[←mY hg]
   exact(sQ (x:=.int b) (y:=.int (Vm a b)) rfl rfl).trans (Gi (wH (by omega) h2))
 show(qf [.sh (.int a),.sh (.int b),.no]).bind _=_;rw[r];rfl
def Mw(p q:Int):D:=.tup [.int p,.int q]
end Com
open Com
namespace Com
open PySem L2 DL
abbrev g7:=Int×Int
def fr(x:g7):D:=Mw x.1 x.2
def GY:Nat:=1000000000000000000000000000000000000000000000000000000000000
def Ks:GY<=vo:=by rw[tH];exact U8 (show GY<=2 ^ 200 by decide) (Wm (by decide) (by decide))
def lJ:vo<=AR:=by rw[tH,tE];exact Wm (by decide) (by decide)
structure Low (x:g7):Prop where
 q1:1<=x.2
 g1:Vm x.1 x.2=1
structure zb (x:g7):Prop extends Low x where
 pN:x.1.natAbs<GY
 qN:x.2.natAbs<GY
def lT(a b:Int):g7:=(a / Vm a b,b / Vm a b)
def j8(hb:0<b):Low (lT a b):=by
 have hg:=qc (a:=a) (b:=b) (by omega);refine⟨?_,Int.gcd_ediv_gcd_ediv_gcd (by omega)⟩;have:=Int.ediv_gcd_ne_zero_if_ne_zero_right a (show b≠0 by omega);have h2:0<=b / (Vm a b:Int):=Int.ediv_nonneg (by omega) (by omega);show 1<=b / (Vm a b:Int);omega
def BC:(lT a b).1*b=a*(lT a b).2:=by
 unfold lT;obtain⟨x,hx⟩:=Yw a b;obtain⟨y,hy⟩:=Int.gcd_dvd_right a b
 by_cases hg:(Vm a b:Int)=0
 .simp only[hg,Int.ediv_zero,Int.zero_mul,Int.mul_zero]
 .generalize hG:(Vm a b:Int)=G at *
  have e1:a / G=x:=by rw[hx];exact Y1 x hg
  have e2:b / G=y:=by rw[hy];exact Y1 y hg
  show a / G*b=a*(b / G);rw[e1,e2]
  calc x*b=x*(G*y):=by rw[←hy]
   _=G*x*y:=by grind
   _=a*y:=by rw[←hx]
def v5:(lT a b).1.natAbs<=a.natAbs:=YR _ _
def vZ:(lT a b).2.natAbs<=b.natAbs:=YR _ _
def Fs(hx:Low x)(hy:Low y)(h:x.1*y.2=y.1*x.2):x=y:=by
 have d1:x.2∣y.2:=by
  have:x.2∣x.1*y.2:=⟨y.1,by rw[h];exact Int.mul_comm _ _⟩
  rw[←YG,Zp,hx.g1]at this;simpa using this
 have d2:y.2∣x.2:=by
  have:y.2∣y.1*x.2:=⟨x.1,by rw[←h];exact Int.mul_comm _ _⟩
  rw[←YG,Zp,hy.g1]at this;simpa using this
 have e:x.2=y.2:=Int.dvd_antisymm (by have:=hx.q1;omega) (by have:=hy.q1;omega) d1 d2;have e1:x.1=y.1:=by
  rw[e]at h;exact Int.eq_of_mul_eq_mul_right (by have:=hy.q1;omega) h
 exact Prod.ext e1 e
def qC(hb:0<b)(h1:a.natAbs<vo)(h2:b.natAbs<vo):m_ratio [.int a,.int b]=.ok (fr (lT a b)):=EB hb h1 h2
def PZ(hb:0<b)(h1:a.natAbs<GY)(h2:b.natAbs<GY):zb (lT a b):=⟨j8 hb,Wj v5 h1,Wj vZ h2⟩
def HG(x:g7):bC (n+1) (fr x)=true:=by
 cases n<;>rfl
def eq_fr:c8 (fr x) (fr y)=(x.1==y.1&&x.2==y.2):=by
 unfold fr Mw;simp[c8,eqDs]
def rS:c8 (fr x) (fr x)=true:=by rw[eq_fr];simp
def flt(x y:g7):Bool:=decide (x.1*y.2<y.1*x.2)
def aI{α:Type}{a b:α}(h:a=b):a=b:=h
def Lw(t:bd)(r:Fl):ar Fl:=match r with
 |.nx ρ'=>t ρ'
 |r=>.ok r
def HI(i:Nat)(ρ:Ev)(d:D):ar Fl:=.ok (.nx (ρ.set i (.sh d)))
def O6(d:D):ar Fl:=.ok (.rt d)
def KY(ρ:Ev)(_:D):ar Fl:=.ok (.nx ρ)
def Sz(s t:bd)(ρ:Ev)(x:D):ar Fl:=match x with
 |.bl b=>if b=true then s ρ else t ρ
 |_=>.stuck
def Py(i:Nat)(ρ:Ev)(d:D):ar Fl:=match d with
 |.lst ds=>.ok (.nx (ρ.set i (.ow (.lst ds))))
 |_=>.stuck
def L4(s:Option Sl)(k:ac->ar Fl):ar Fl:=match s with
 |some (.ow (.lst ds))=>k ds
 |_=>.stuck
def NW(i:Nat)(ρ:Ev)(ds:ac)(d:D):ar Fl:=if ds.length<line then .ok (.nx (ρ.set i (.ow (.lst (ds++[d]))))) else .stuck
def Pk(i:Nat)(ρ:Ev)(k:am)(ds:ac)(d:D):ar Fl:=(k ρ).bind (DL.putAt ρ i ds d)
def OJ(is:bv)(ρ:Ev)(d:D):ar Fl:=match eT is.length d with
 |some ds=>.ok (.nx (dA ρ is ds))
 |none=>.stuck
def Px(i j:Nat)(ρ:Ev)(ds:ac):ar Fl:=match ds with
 |[x,y]=>.ok (.nx ((ρ.set i (.sh x)).set j (.sh y)))
 |_=>.stuck
def k2(g:am)(op:D->D->ar D)(ρ:Ev)(x:D):ar D:=(g ρ).bind (op x)
def AA(x:D)(xs:ac):ar (ac):=.ok (x::xs)
def K3(fa:Ev->ar (ac))(ρ:Ev)(x:D):ar (ac):=(fa ρ).bind (AA x)
def NX(g:am)(ρ:Ev)(x:D):ar D:=match x with
 |.bl true=>g ρ
 |.bl false=>.ok (.bl false)
 |_=>.stuck
def Sx(g:am)(ρ:Ev)(x:D):ar D:=match x with
 |.bl true=>.ok (.bl true)
 |.bl false=>g ρ
 |_=>.stuck
def PD(x:D):ar D:=match x with
 |.bl b=>.ok (.bl (!b))
 |_=>.stuck
def Mr(f g:am)(ρ:Ev)(x:D):ar D:=match x with
 |.bl true=>f ρ
 |.bl false=>g ρ
 |_=>.stuck
def OG(s:Option Sl):ar D:=match s with
 |some (.sh d)=>.ok d
 |_=>.stuck
def vD(s:Sl):Sl:=match s with
 |.ow d=>.sh d
 |.ox _ ds=>.sh (.tup ds)
 |x=>x
def LD(r:Fl):ar D:=match r with
 |.nx _=>.ok .non
 |.rt d=>.ok d
 |_=>.stuck
def Tq(x:D):ar (Option Int):=match x with
 |.int i=>.ok (some i)
 |_=>.stuck
def Eo(x:D)(l:Option Int)(h:Option Int):ar D:=qu x l h
def So(hi:Ev->ar (Option Int))(ρ:Ev)(x:D)(l:Option Int):ar D:=(hi ρ).bind (Eo x l)
def O5(lo hi:Ev->ar (Option Int))(ρ:Ev)(x:D):ar D:=(lo ρ).bind (So hi ρ x)
def Qn(tg:Ev->D->ar Ev)(s:bd)(ρ:Ev)(d:D):ar Fl:=match d with
 |.lst ds=>b7 tg s ds ρ
 |_=>.stuck
def Kg(op':D->D->ar D)(h:am)(ρ:Ev)(y z:D):ar D:=match z with
 |.bl true=>(h ρ).bind (op' y)
 |.bl false=>.ok (.bl false)
 |_=>.stuck
def NQ(op op':D->D->ar D)(h:am)(ρ:Ev)(x y:D):ar D:=(op x y).bind (Kg op' h ρ y)
def TH(op op':D->D->ar D)(g h:am)(ρ:Ev)(x:D):ar D:=(g ρ).bind (NQ op op' h ρ x)
section
variable {s t:bd}{f g h:am}{fa:Ev->ar (ac)}{ρ r:Ev}{i j:Nat}{d x y:D}{ds xs:ac}{op op':D->D->ar D}{a b:Int}
def KW{a:α}{k:α->ar β}:(ar.ok a).bind k=k a:=aI rfl
def An:aw s t ρ=(s ρ).bind (Lw t):=aI rfl
def Jc:Lw t (.nx ρ)=t ρ:=aI rfl
def Jb:Lw t (.rt d)=.ok (.rt d):=aI rfl
def Jn:au ρ=.ok (.nx ρ):=aI rfl
def MJ:bT i f ρ=(f ρ).bind (HI i ρ):=aI rfl
def Ja:HI i ρ d=.ok (.nx (ρ.set i (.sh d))):=aI rfl
def MM:bE f ρ=(f (shr ρ)).bind O6:=aI rfl
def Jf:O6 d=.ok (.rt d):=aI rfl
def JA:fS f ρ=(f (shr ρ)).bind (KY ρ):=aI rfl
def FY:KY ρ d=.ok (.nx ρ):=aI rfl
def Qz:dM f s t ρ=(f (shr ρ)).bind (Sz s t ρ):=aI rfl
def M4:Sz s t ρ (.bl true)=s ρ:=aI rfl
def M3:Sz s t ρ (.bl false)=t ρ:=aI rfl
def MQ:jV i f ρ=(f ρ).bind (Py i ρ):=aI rfl
def Jl:Py i ρ (.lst ds)=.ok (.nx (ρ.set i (.ow (.lst ds)))):=aI rfl
def Nb:du i f ρ=L4 ρ[i]? λds=>(f ρ).bind (NW i ρ ds):=aI rfl
def Jk:L4 (some (.ow (.lst ds))) k=k ds:=aI rfl
def i9(h:decide (ds.length<=999)=true):NW i ρ ds d=.ok (.nx (ρ.set i (.ow (.lst (ds++[d]))))):=if_pos (Wj (of_decide_eq_true h) (by decide))
def MO:Es i f g ρ=L4 ρ[i]? λds=>(f ρ).bind (Pk i ρ g ds):=aI rfl
def Ji:Pk i ρ g ds d=(g ρ).bind (DL.putAt ρ i ds d):=aI rfl
def M5:zB i s ρ=s (unown i ρ):=aI rfl
def MB:Ly is f ρ=(f ρ).bind (OJ is ρ):=aI rfl
def MP:tO i j fa ρ=(fa ρ).bind (Px i j ρ):=aI rfl
def Jj:Px i j ρ [x,y]=.ok (.nx ((ρ.set i (.sh x)).set j (.sh y))):=aI rfl
def QI:aY f o ρ=(f ρ).bind o:=aI rfl
def QH:ag f g op ρ=(f ρ).bind (k2 g op ρ):=aI rfl
def Na:k2 g op ρ x=(g ρ).bind (op x):=aI rfl
def QG:ao fa m ρ=(fa ρ).bind m:=aI rfl
def MV:az ρ=.ok []:=aI rfl
def JB:ae f fa ρ=(f ρ).bind (K3 fa ρ):=aI rfl
def F0:K3 fa ρ x=(fa ρ).bind (AA x):=aI rfl
def FZ:AA x xs=.ok (x::xs):=aI rfl
def Nc:f9 f g ρ=(f ρ).bind (NX g ρ):=aI rfl
def JE:NX g ρ (.bl true)=g ρ:=aI rfl
def JD:NX g ρ (.bl false)=.ok (.bl false):=aI rfl
def Qt:gq f g ρ=(f ρ).bind (Sx g ρ):=aI rfl
def MT:Sx g ρ (.bl true)=.ok (.bl true):=aI rfl
def MS:Sx g ρ (.bl false)=g ρ:=aI rfl
def MU:cp f ρ=(f ρ).bind PD:=aI rfl
def Jm:PD (.bl c)=.ok (.bl (!c)):=aI rfl
def M1:Q8 h f g ρ=(h ρ).bind (Mr f g ρ):=aI rfl
def Jx:Mr f g ρ (.bl true)=f ρ:=aI rfl
def Jw:Mr f g ρ (.bl false)=g ρ:=aI rfl
def MA:af i ρ=OG ρ[i]?:=aI rfl
def IL:OG (some (.sh d))=.ok d:=aI rfl
def SJ:dC d ρ=.ok d:=aI rfl
def IZ:shr []=[]:=aI rfl
def MH:shr (c::r)=vD c::shr r:=aI rfl
def IY:vD (.ow d)=.sh d:=aI rfl
def IU:vD (.ox j ds)=.sh (.tup ds):=aI rfl
def IW:vD (.sh d)=.sh d:=aI rfl
def IV:vD .no=.no:=aI rfl
def ML:ck n s ds=(s (ds.map Sl.sh++UJ (n-ds.length) .no)).bind LD:=aI rfl
def Je:LD (.rt d)=.ok d:=aI rfl
def Jd:LD (.nx ρ)=.ok .non:=aI rfl
def Qs:dP f ρ=(f ρ).bind Tq:=aI rfl
def MR:Tq (.int a)=.ok (some a):=aI rfl
def Qu:dX ρ=.ok none:=aI rfl
def Qq:lO f lo hi ρ=(f ρ).bind (O5 lo hi ρ):=aI rfl
def MG:O5 lo hi ρ x=(lo ρ).bind (So hi ρ x):=aI rfl
def MF:So hi ρ x l=(hi ρ).bind (Eo x l):=aI rfl
def ME:Eo (.lst ds) l l'=.ok (.lst (iZ ds l l')):=aI rfl
def M6:vG f tg s ρ=(f ρ).bind (Qn tg s ρ):=aI rfl
def Jz:Qn tg s ρ (.lst ds)=b7 tg s ds ρ:=aI rfl
def F1:iO op op' f g h ρ=(f ρ).bind (TH op op' g h ρ):=aI rfl
def QB:TH op op' g h ρ x=(g ρ).bind (NQ op op' h ρ x):=aI rfl
def M9:NQ op op' h ρ x y=(op x y).bind (Kg op' h ρ y):=aI rfl
def M8:Kg op' h ρ y (.bl true)=(h ρ).bind (op' y):=aI rfl
def M7:Kg op' h ρ y (.bl false)=.ok (.bl false):=aI rfl
def MZ:yw (λ_ _=>true) o (.int a) (.int b)=.ok (o a b):=aI rfl
def Nd:bX (.int a) (.int b)=.ok (.int (a+b)):=aI rfl
def kd(h:decide (ds.length+es.length<=1000)=true):bX (.lst ds) (.lst es)=.ok (.lst (ds++es)):=if_pos (U8 (of_decide_eq_true h) (by decide))
def MW:og (.int a)=.ok (.int (-a)):=aI rfl
def Qx:m1 m [x]=m x:=aI rfl
def Qw:m2 m [x,y]=m x y:=aI rfl
def eH:cB (.lst ds)=.ok (.int ds.length):=aI rfl
def Jo:cB (.tup ds)=.ok (.int ds.length):=aI rfl
def MD(h:decide (ds.length<=1000)=true):cT ds=.ok (.tup ds):=if_pos (U8 (of_decide_eq_true h) (by decide))
def MY(h:decide (ds.length<=1000)=true):b5 ds=.ok (.lst ds):=if_pos (U8 (of_decide_eq_true h) (by decide))
def rQ:b9 "bool" (.non)=.ok (.bl false):=aI rfl
def ub:b9 "bool" (.bl c)=.ok (.bl true):=aI rfl
def rR:b9 "bool" (.int a)=.ok (.bl false):=aI rfl
def tY:b9 "int" (.non)=.ok (.bl false):=aI rfl
def wy:b9 "int" (.bl c)=.ok (.bl true):=aI rfl
def t8:b9 "int" (.int a)=.ok (.bl true):=aI rfl
def tX:b9 "int" (.str z)=.ok (.bl false):=aI rfl
def tW:b9 "int" (.tup ds)=.ok (.bl false):=aI rfl
def tZ:b9 "int" (.lst ds)=.ok (.bl false):=aI rfl
def ua:b9 "int" (.dic ks ds)=.ok (.bl false):=aI rfl
def tU:b9 "str" (.str z)=.ok (.bl true):=aI rfl
def pJ:b9 "tuple" (.non)=.ok (.bl false):=aI rfl
def pI:b9 "tuple" (.tup ds)=.ok (.bl true):=aI rfl
def pK:b9 "tuple" (.lst ds)=.ok (.bl false):=aI rfl
def rK:b9 "list" (.non)=.ok (.bl false):=aI rfl
def tV:b9 "list" (.bl c)=.ok (.bl false):=aI rfl
def rO:b9 "list" (.int a)=.ok (.bl false):=aI rfl
def rJ:b9 "list" (.str z)=.ok (.bl false):=aI rfl
def rH:b9 "list" (.tup ds)=.ok (.bl false):=aI rfl
def rL:b9 "list" (.lst ds)=.ok (.bl true):=aI rfl
def rP:b9 "list" (.dic ks ds)=.ok (.bl false):=aI rfl
def Ar:nk (.non) .non=.ok (.bl true):=aI rfl
def yM:nj (.non) .non=.ok (.bl false):=aI rfl
def Aq:nk (.str z) .non=.ok (.bl false):=aI rfl
def yL:nj (.str z) .non=.ok (.bl true):=aI rfl
def Ap:nk (.tup ds) .non=.ok (.bl false):=aI rfl
def cA(h:fW a b=true):cx (.int a) (.int b)=.ok (.int (a*b)):=if_pos h
def MX(h:(b==0)=false):eD (.int a) (.int b)=.ok (.int (a.fmod b)):=zT (λz=>by rw[z]at h;cases h)
def wz(h:gZ a b=true):sr (.int a) (.int b)=.ok (.int (a.fdiv b)):=if_pos h
def Qr:dA ρ (i::is) (d::ds)=dA (ρ.set i (.sh d)) is ds:=aI rfl
def MK:dA ρ [] ds=ρ:=aI rfl
def Tf(i:Nat)(ρ:Ev)(s:Option Sl):Ev:=match s with
 |some (.ow d)=>ρ.set i (.sh d)
 |_=>ρ
def Qp:unown i ρ=Tf i ρ ρ[i]?:=aI rfl
def MC:Tf i ρ (some (.ow d))=ρ.set i (.sh d):=aI rfl
def yK{j:Int}(h:uK ds.length j=some n):DL.putAt ρ i ds d (.int j)=.ok (.nx (ρ.set i (.ow (.lst (ds.set n d))))):=by
 unfold DL.putAt;simp only[h]
def BZ:aO (.lst (x0::xs)) (.int 0)=.ok x0:=by
 unfold aO;simp only[show atI (x0::xs) 0=some x0 from gE (j:=0) rfl]
def Ju:aO (.tup (x0::xs)) (.int 0)=.ok x0:=by
 unfold aO;simp only[show atI (x0::xs) 0=some x0 from gE (j:=0) rfl]
def BY:aO (.lst (x0::x1::xs)) (.int 1)=.ok x1:=by
 unfold aO;simp only[show atI (x0::x1::xs) 1=some x1 from gE (j:=1) rfl]
def Jt:aO (.tup (x0::x1::xs)) (.int 1)=.ok x1:=by
 unfold aO;simp only[show atI (x0::x1::xs) 1=some x1 from gE (j:=1) rfl]
def Jv:aO (.lst (x0::x1::x2::xs)) (.int 2)=.ok x2:=by
 unfold aO;simp only[show atI (x0::x1::x2::xs) 2=some x2 from gE (j:=2) rfl]
def Js:aO (.tup (x0::x1::x2::xs)) (.int 2)=.ok x2:=by
 unfold aO;simp only[show atI (x0::x1::x2::xs) 2=some x2 from gE (j:=2) rfl]
def Jr:aO (.tup (x0::x1::x2::x3::xs)) (.int 3)=.ok x3:=by
 unfold aO;simp only[show atI (x0::x1::x2::x3::xs) 3=some x3 from gE (j:=3) rfl]
def Jq:aO (.tup (x0::x1::x2::x3::x4::xs)) (.int 4)=.ok x4:=by
 unfold aO;simp only[show atI (x0::x1::x2::x3::x4::xs) 4=some x4 from gE (j:=4) rfl]
def QF:((0:Nat):Int)=0:=aI rfl
def QE:((2:Nat):Int)=2:=aI rfl
def QD:((4:Nat):Int)=4:=aI rfl
def QC:((5:Nat):Int)=5:=aI rfl
end
def KP(fa:Ev->ar (ac))(ρ:Ev)(x:D):ar D:=match x with
 |.str z=>(fa ρ).bind (mQ z)
 |_=>.stuck
def Jp:uV f fa ρ=(f ρ).bind (KP fa ρ):=aI rfl
def FU:KP fa ρ (.str z)=(fa ρ).bind (mQ z):=aI rfl
def O7(g:am)(ρ:Ev)(x:D):ar D:=match x with
 |.lst ds=>(g ρ).bind (yQ (.lst ds))
 |_=>.stuck
def MN:HK f g ρ=(f ρ).bind (O7 g ρ):=aI rfl
def Jh:O7 g ρ (.lst ds)=(g ρ).bind (yQ (.lst ds)):=aI rfl
theorem yE{α:Type}{x:α}:∀{n:Nat},(UJ n [x]).flatten=UJ n x
 |0=>rfl
 |n+1=>by rw[Vz,Wo,yE,Vz];rfl
def Jg(h:(decide (0<=k)&&decide (k<=1000))=true):yQ (.lst [x]) (.int k)=.ok (.lst (UJ k.toNat x)):=by
 simp only[U7,decide_eq_true_eq]at h;unfold yQ;have:([x]:ac).length*k.toNat<=line/\-9223372036854775808<=k/\k<9223372036854775808:=⟨by
  have h2:k.toNat<=1000:=by omega
  show 1*k.toNat<=line;have:(1000:Nat)<=line:=by decide
  omega,by omega,by omega⟩
 simp only[if_pos this,yE]
end Com
def bx{a b:Prop}(x:a)(y:b):a/\b:=⟨x,y⟩
def N8:=(bx (bx (bx (bx (bx (bx (bx @KW @An) (bx @Jc @Jb)) (bx (bx @Jn @MJ) (bx @Ja @MM))) (bx (bx (bx @Jf @JA) (bx @FY @Qz)) (bx (bx @M4 @M3) (bx @MQ @Jl)))) (bx (bx (bx (bx @Nb @Jk) (bx @MO @Ji)) (bx (bx @M5 @MB) (bx @MP @Jj))) (bx (bx (bx @QI @QH) (bx @Na @QG)) (bx (bx @MV @JB) (bx @F0 @FZ))))) (bx (bx (bx (bx (bx @Nc @JE) (bx @JD @Qt)) (bx (bx @MT @MS) (bx @MU @Jm))) (bx (bx (bx @M1 @Jx) (bx @Jw @MA)) (bx (bx @IL @SJ) (bx @IZ @MH)))) (bx (bx (bx (bx @IY @IW) (bx @IV @ML)) (bx (bx @Je @Jd) (bx @Qs @MR))) (bx (bx (bx @Qu @Qq) (bx @MG @MF)) (bx (bx @ME @M6) (bx @Jz @F1)))))) (bx (bx (bx (bx (bx (bx @QB @M9) (bx @M8 @M7)) (bx (bx @MZ @Nd) (bx @MW @Qx))) (bx (bx (bx @Qw @eH) (bx @Jo @Au)) (bx (bx @qX @MD) (bx @MY @kd)))) (bx (bx (bx (bx @i9 @MX) (bx @Qr @MK)) (bx (bx @Qp @MC) (bx @BZ @BY))) (bx (bx (bx @Jv @Ju) (bx @Jt @Js)) (bx (bx @Jr @Jq) (bx @rQ @ub))))) (bx (bx (bx (bx (bx @rR @tY) (bx @wy @t8)) (bx (bx @tX @tW) (bx @tZ @ua))) (bx (bx (bx @tU @pJ) (bx @pI @pK)) (bx (bx @rK @tV) (bx @rO @rJ)))) (bx (bx (bx (bx @rH @rL) (bx @rP @Ar)) (bx (bx @yM @Aq) (bx @yL @Ap))) (bx (bx (bx @QF @QE) (bx @QD @QC)) (bx (bx @Jp @FU) (bx @MN (bx @Jh @Jg))))))))
local macro_rules|`(tactic|open_line with[$xs,*])=>`(tactic|simp only[N8,UG,Wn,UZ,Xp,Vz,X5,Wl,Xe,Wt,VI,Yc,Yd,Yo,Nat.reduceSub,Nat.reduceAdd,Zm,Xt,Y2,YO,decide_true,decide_false,Nat.reduceLeDiff,Nat.reduceBEq,Int.reduceBEq,beq_self_eq_true,DL.dOne,DL.mYes,Int.reduceLT,Int.reduceLE,Int.reduceSub,Int.reduceAdd,Int.reduceMul,Int.reduceNeg,Int.reduceToNat,Y3,$[$xs:term],*])
namespace Com
open PySem L2 DL
noncomputable def jN:bd :=
 (aw (dM (gq (cp (aY (af 0) (b9 "str"))) (cp (iO K2 K2 (dC (.int 1)) (ao (ae (af 0) az) (m1 cB)) (dC (.int 8)))))
 (aw (bE (dC (.bl false)))
 au)
 au)
 (aw (bE (ao (ae (dy 1 [] (HC (af 0)) (bU 0) mYes (ag (af 0) (dC (.str "abcdefghijklmnopqrstuvwxyz")) oY)) az) (m1 Ay)))
 au))
def m_is_name:ac->ar D:=ck 1 jN
noncomputable def eP:bd :=
 (aw (dM (gq (cp (aY (af 0) (b9 "tuple"))) (ag (ao (ae (af 0) az) (m1 cB)) (dC (.int 2)) gi))
 (aw (bE (dC (.bl false)))
 au)
 au)
 (aw (dM (gq (cp (ao (ae (ag (af 0) (dC (.int 0)) aO) az) m_is_whole)) (cp (ao (ae (ag (af 0) (dC (.int 1)) aO) az) m_is_whole)))
 (aw (bE (dC (.bl false)))
 au)
 au)
 (aw (bE (f9 (ag (ag (af 0) (dC (.int 1)) aO) (dC (.int 1)) RP) (ag (ao (ae (ag (af 0) (dC (.int 0)) aO) (ae (ag (af 0) (dC (.int 1)) aO) az)) m_common_divisor) (dC (.int 1)) gO)))
 au)))
def m_is_ratio:ac->ar D:=ck 1 eP
def N4:UP:="abcdefghijklmnopqrstuvwxyz"
def oX(c:Nat):Bool:=PB ⟨#[c]⟩ N4
def nameB(z:UP):Bool:=decide (1<=z.length)&&(decide (z.length<=8)&&z.cps.toList.all oX)
def PM:D->Bool
 |.str z=>nameB z
 |_=>false
def RO:D->Bool
 |.str z=>decide (z.length<=line)
 |_=>true
theorem uZ:∀{ds:ac},(∀d∈ds,∃ρ1,tg b d=.ok ρ1/\tt ρ1=.ok (.bl true)/\fe ρ1=.ok (F d))->cI b tg tt fe ds=.ok (ds.map F)
 |[],_=>rfl
 |d::r,h=>by
  obtain⟨ρ1,h1,h2,h3⟩:=h d UU;rw[jI h1 h2 h3,uZ (λe he=>h e (UH _ he))];rfl
theorem o8{α:Type}(F:α->Bool):∀(cs:List α),gb (cs.map λc=>D.bl (F c))=some (cs.map F)
 |[]=>rfl
 |c::r=>by
  show(gb (r.map λc=>D.bl (F c))).map (F c::·)=_;rw[o8 F r];rfl
def zQ(hz:z.length<=line):dy 1 [] (HC (af 0)) (bU 0) mYes (ag (af 0) (dC (.str "abcdefghijklmnopqrstuvwxyz")) oY) [.sh (.str z)]=.ok (.lst (z.cps.toList.map λc=>.bl (oX c))):=by
 have hl:(kL z).length<=line:=by rw[l5];exact hz
 unfold dy;show(if(kL z).length<=line then _ else _)=_;rw[if_pos hl];have:cI (de 1 [] [.sh (.str z)]) (bU 0) mYes (ag (af 0) (dC (.str "abcdefghijklmnopqrstuvwxyz")) oY) (kL z)=.ok (z.cps.toList.map λc=>D.bl (oX c)):=by
  unfold kL
  induction z.cps.toList with
  |nil=>rfl
  |cons c r ih=>
   rw[UG,jI (x:=.bl (oX c)) rfl rfl rfl,ih];rfl
 rw[this]
def Ac(h:RO d=true):m_is_name [d]=.ok (.bl (PM d)):=by
 cases d with
 |str z=>
  have hz:z.length<=line:=of_decide_eq_true h;have hlen:cB (.str z)=.ok (.int z.length):=if_pos hz;show ck 1 jN _=.ok (.bl (nameB z));unfold nameB
  by_cases h1:1<=z.length
  .by_cases h8:z.length<=8
   .have e1:decide ((1:Int)<=(z.length:Int))=true:=decide_eq_true (by omega)
    have e2:decide ((z.length:Int)<=8)=true:=decide_eq_true (by omega);open_line with[jN,hlen,e1,e2,zQ hz,Ay,o8,decide_eq_true h1,decide_eq_true h8,Xi]
    simp[Yp,Function.comp_def]
   .have e1:decide ((1:Int)<=(z.length:Int))=true:=decide_eq_true (by omega)
    have e2:decide ((z.length:Int)<=8)=false:=decide_eq_false (by omega);open_line with[jN,hlen,e1,e2,decide_eq_true h1,decide_eq_false h8,Ww,YQ]
  .have e1:decide ((1:Int)<=(z.length:Int))=false:=decide_eq_false (by omega)
   open_line with[jN,hlen,e1,decide_eq_false h1,Ww]
 |ob k _=>cases k<;>rfl
 |_=>rfl
def qD:D->Bool
 |.tup [.int p,.int q]=>decide (1<=q)&&(Vm p q==1)
 |_=>false
def Ng{g:Nat}:((g:Int)==1)=(g==1):=by
 cases h:(g==1) with
 |true=>rw[eq_of_beq h];rfl
 |false=>
  have:g≠1:=λz=>by rw[z]at h;cases h
  exact beq_eq_false_iff_ne.mpr (by omega)
def Lj{xs:ac}:(∃x y,xs=[x,y])∨xs.length≠2:=by
 match xs with
 |[]=>exact .inr (by decide)
 |[x]=>exact .inr (by simp)
 |[x,y]=>exact .inl ⟨x,y,rfl⟩
 |x::y::z::r=>exact .inr (by simp)
theorem Ez:∀{xs:ac},xs.length≠2->qD (.tup xs)=false
 |[],_=>rfl
 |[x],_=>by cases x<;>rfl
 |[x,y],h=>absurd rfl h
 |x::y::z::r,_=>by cases x<;>cases y<;>rfl
def zC:qD (.tup [x,y])=(BK x&&(BK y&&qD (.tup [x,y]))):=by
 cases x<;>cases y<;>rfl
def wg(d:D):m_is_ratio [d]=.ok (.bl (qD d)):=by
 cases d with
 |tup xs=>
  rcases Lj (xs:=xs) with⟨x,y,rfl⟩|h
  .rw[zC]
   show ck 1 eP _=_;cases hx:BK x with
   |false=>open_line with[eP,cy,hx,Ww]
   |true=>
    cases hy:BK y with
    |false=>open_line with[eP,cy,hx,hy,Ww,Xi]
    |true=>
     cases x<;>first|(cases hx;done)|skip
     cases y<;>first|(cases hy;done)|skip
     rename_i p q;show _=ar.ok (D.bl (decide (1<=q)&&(Vm p q==1)))
     by_cases hq:1<=q
     .open_line with[eP,cy,hx,hy,oh,Xi,decide_eq_true hq,Ng]
     .open_line with[eP,cy,hx,hy,oh,Xi,decide_eq_false hq,Ww]
  .have e2:((xs.length:Int)==2)=false:=beq_eq_false_iff_ne.mpr (by omega)
   rw[Ez h];show ck 1 eP _=_;open_line with[eP,e2]
 |ob k _=>cases k<;>rfl
 |_=>rfl
def Ke{α:Type}{F:α->D}{xs:List α}:iZ (xs.map F) lo hi=((xs.drop (HT.sIx xs.length 0 lo)).take (HT.sIx xs.length xs.length hi-HT.sIx xs.length 0 lo)).map F:=by
 unfold iZ;rw[Us,←YW,←List.map_take]
end Com
namespace DL
open PySem PySem.Spec PyProof.Rows L2
def c7.there{h:UO}(x:c7 P w H h a o):∃u,h.get? a=some u:=by
 cases o with|lst xs=>obtain⟨_,_,_,_,e⟩:=x;exact⟨_,e⟩|tup xs=>obtain⟨_,_,_,ob,e,_⟩:=x;exact⟨_,e⟩|dK kvs|dT kvs=>obtain⟨_,_,_,_,o,_,_,e,_⟩:=x;exact⟨_,e⟩|set S n=>obtain⟨o,_,_,_,e,_⟩:=x;exact⟨_,e⟩|ins C dx fs=>obtain⟨_,_,_,e,_⟩:=x;exact⟨_,e⟩|own y=>obtain⟨_,e⟩:=x;exact⟨_,e⟩|xd fs=>obtain⟨_,⟨_,_,_,e,_⟩,_⟩:=x;exact⟨_,e⟩|rng lo hi=>obtain⟨_,_,_,e⟩:=x;exact⟨_,e⟩|frz ob u=>obtain⟨e,_⟩:=x;exact⟨_,e⟩|tbl ps|met f y=>exact⟨_,show h.get? a=some _ from x⟩|ext φ=>obtain⟨_,⟨_,e⟩,_⟩:=x;exact⟨_,e⟩
noncomputable def lI(P:Vt) (w:VH):zl:=λouter H s E e s'=>∃(ea C:Uy) (a0:Up) (B:UO) (H':Hp),e=.ref ea/\s'.os=s.os/\AllBare s'.gens/\Un (iY outer) [] H H' s.heap s'.heap/\ig P w H' s'.heap/\H' ea=none /\
 WA B outer ea (.ref C) a0 s'.heap/\(∀b,b∉iY outer->(H' b≠none∨∃o,s.heap.get? b=some o)->∃o,B.get? b=some o)/\∃ox,Rv s'.heap ea ox/\E (.ref C) ox H'
def IK{l:List VW}:∀env∈l,∀a,env.frame=some a->a∈iY l:=λenv he a hf=>Xz.mpr ⟨env,he,hf⟩
section
variable {P:Vt}{w:VH}{K:Ur}{mg:UP->Option Up}{base:UO}{N:bi}{qual:UP}{scope:X8}{f:Uy}{cd:Up}{A:Vn}{outer:List VW}{s0:UD}{H0:Hp}{E:XK}
 {π:List (Uy×Obj)}{σ:L2.St}{H:Hp}{s:UD}
def il{B h h':UO}(k:B.StaysIn h)(k':B.StaysIn h')(hb:∃u,B.get? b=some u)(e:h.get? b=some o):h'.get? b=some o:=by
 obtain⟨u,q⟩:=hb;have:=k b u q;rw[e]at this;cases this;exact k' b o q
def KU(hX:X=gk (lI P w) P w K mg base N qual scope f cd A outer s0 H0 E)(I:Inv X π σ H s){s1:UD}(os:s1.os=s.os)(bare:AllBare s1.gens)
  (un:Un (iY X.stack) [] H H1 s.heap s1.heap)(hok:ig P w H1 s1.heap)(hne:H1 ea=none)(hst:B.StaysIn s1.heap)(hfr:s1.heap.FunFrames B X.stack)
  (hB:∀b,b∉iY X.stack->(H1 b≠none∨∃o,s.heap.get? b=some o)->∃o,B.get? b=some o)(fl:WA B outer ea (.ref C) a0 h')(up:s1.heap.UpToSlots h')(hE:∃ox,Rv h' ea ox/\E (.ref C) ox H1) :
  lI P w outer H0 s0 E (.ref ea) { s1 with heap:=h' }:=by
 subst hX;have hL:(envOfC qual scope s0.heap.objs.size f cd).frame=some (envOfC qual scope s0.heap.objs.size f cd).locals:=rfl;have hstk:∀b,b∈iY (envOfC qual scope s0.heap.objs.size f cd::outer)->b=(envOfC qual scope s0.heap.objs.size f cd).locals∨b∈iY outer:=λb hb=>by
  unfold iY at hb;rw[V5,hL]at hb;exact UI.mp hb
 have hsub:∀b,b∈iY outer->b∈iY (envOfC qual scope s0.heap.objs.size f cd::outer):=λb hb=>by
  unfold iY;rw[V5,hL];exact UH _ hb
 have old:∀b o,s0.heap.get? b=some o->b≠(envOfC qual scope s0.heap.objs.size f cd).locals:=λb o e=>U2 (UA (UN e) I.ok.above);have nofr:∀b o,s0.heap.get? b=some o->b∉iY outer->b∉iY (envOfC qual scope s0.heap.objs.size f cd::outer):=λb o e hb hm=>(hstk b hm).elim (old b o e) hb;have thr:∀b o,s0.heap.get? b=some o->∃o',s.heap.get? b=some o':=λb o e=>I.base.there b o e (by intro z;exact nomatch z);have fst:∀b,b∈iY outer->∀o,s1.heap.get? b=some o->∃sl,h'.get? b=some { o with slots:=sl }:=λb hb o e=>by
  obtain⟨_,o',ho',hd⟩:=hfr.mem (hsub b hb);rw[e]at ho';cases ho';exact up b o e hd
 have free1:∀b∈iY (envOfC qual scope s0.heap.objs.size f cd::outer),H1 b=none:=λb hb=>by
  obtain⟨_,o,ho,_⟩:=I.stack.mem hb;exact un.free b o ho (I.stkFree b hb) (by simp)
 have B0:∀b o,s0.heap.get? b=some o->b∉iY outer->∃u,B.get? b=some u:=λb o e hb=>hB b (nofr b o e hb) (.inr (thr b o e));refine⟨ea,C,a0,B,H1,rfl,os.trans I.os,bare,⟨λb o e n hb hx=>?_,λb o e n hb hx=>?_,λb o e n hx=>?_,λb o e hx=>?_,λb xs e=>un.tups b xs (I.base.tups b xs e),λb o u e=>un.frzs b o u (I.base.frzs b o u e),λb ps e=>?_⟩,λa o e=>?_,hne,fl,λb hb h=>?_,hE⟩
 .have e1:=I.base.keep b o e n hb (by intro z;exact nomatch z)
  have n1:=I.base.free b o e n (by intro z;exact nomatch z);have e2:=un.keep b o e1 n1 (nofr b o e hb) (by simp);exact il hst fl.1 (B0 b o e hb) e2
 .obtain⟨sl,e1⟩:=I.base.slot b o e n hb (by intro z;exact nomatch z)
  have n1:=I.base.free b o e n (by intro z;exact nomatch z);obtain⟨sl2,e2⟩:=un.any e1 n1 (by simp);obtain⟨sl3,e3⟩:=fst b hb _ e2;exact⟨sl3,e3⟩
 .obtain⟨o',e1⟩:=thr b o e
  exact un.free b o' e1 (I.base.free b o e n (by intro z;exact nomatch z)) (by simp)
 .obtain⟨o',e1⟩:=thr b o e
  obtain⟨o2,e2⟩:=un.there b o' e1 (by simp)
  by_cases hb:b∈iY outer
  .obtain⟨sl,e3⟩:=fst b hb _ e2
   exact⟨_,e3⟩
  .exact⟨_,il hst fl.1 (B0 b o e hb) e2⟩
 .obtain⟨m1,e1⟩:=I.base.tbls b ps e
  obtain⟨m2,e2⟩:=un.tbls b _ e1;exact⟨m1++m2,by rw[e2,Yh]⟩
 .refine(hok a o e).stay (λb u hb q=>?_) (λ_ q=>q) λ_ _ q=>q
  have hn:H1 b≠none:=by
   rcases hb with rfl|hb
   .rw[e];simp
   .rw[hb];simp
  exact il hst fl.1 (hB b (λhm=>hn (free1 b hm)) (.inl hn)) q
 .by_cases hm:b∈iY (envOfC qual scope s0.heap.objs.size f cd::outer)
  .rcases hstk b hm with z|z
   .rcases h with h|⟨o,h⟩
    .exact absurd (free1 b hm) h
    .exact absurd z (old b o h)
   .exact absurd z hb
  .exact hB b hm (h.elim .inl λ⟨o,h⟩=>.inr (thr b o h))
def Bn:gW (lI P w) (gk (lI P w) P w K mg base N qual scope f cd A outer s0 H0 E) E:=by
 intro π σ H s e s' I h;obtain⟨ea,C,a0,B,H',rfl,os,bare,un,hok,hne,fl,hB,ox,⟨dc,hdc,hox⟩,hE⟩:=h;refine Dc I.ok.frames rfl fl hdc λh' fl' up hd'=>?_;exact KU rfl I os bare un hok hne fl.1 fl.2.2.1 hB fl' up ⟨ox,⟨dc,hd',hox⟩,hE⟩
end
def Aj{K:Ur}{st:V6}{N ps:bi}(F:DD K x qual st f fd)(S:fv N ps (defScope st))
  (hbody:∀(cdv:Up) (A:Vn) (outer:List VW) (s0:UD) (H Ha:Hp) (E:XK),di k (A.deeper (envOfC qual (defScope st) s0.heap.objs.size f cdv)) ->
   zk (gk (lI P w) P w K mg base N qual (defScope st) f cdv A outer s0 H E) E H Ha (defBody st) s):FnOk P w K mg base (lI P w) (k+1) f fd ps (spD K ps.length (ck N.length s)):=by
 have hpl:ps.length<=N.length:=by have:=congrArg Xm S.pre;rw[VA]at this;omega
 obtain⟨oc,od,kV,doc,pm,an,cdv,ct,osl,rfl,lk,hcd⟩:=F.ex;refine KS lk hcd S (λvs H Q E h=>h.1) λA outer s0 H vs Q E hr h=>?_;obtain⟨hn,Ha,ds,hs,hv,q⟩:=h;refine⟨_,(hbody cdv A outer s0 H Ha E hr).o,Ha,ds.map Sl.sh++UJ (N.length-ds.length) .no,?_,?_⟩
 .refine⟨bI.refl hs,kJ hv,λi d e=>?_,λi j d d' hij e=>?_,?_,OX.none nL l4⟩
  .by_cases hi:i<ds.length
   .rw[UQ (by simpa using hi),UK]at e
    cases q:ds[i]? with|none|some d'=>rw[q]at e;cases e
   .rw[UW (by simpa using hi),U5]at e
    split at e<;>cases e
  .by_cases hi:i<ds.length
   .rw[UQ (by simpa using hi),UK]at e
    cases q:ds[i]? with|none|some d'=>rw[q]at e;cases e
   .rw[UW (by simpa using hi),U5]at e
    split at e<;>cases e
  .unfold L2.start
   have:=hv.length;simp only[U0,Us,Vx];omega
 .unfold ck at q
  cases e1:s (ds.map Sl.sh++UJ (N.length-ds.length) .no) with
  |stuck|exn x=>rw[e1]at q;exact q
  |ok r=>
   rw[e1]at q;cases r with|nx ρ'=>exact λσ' H' Ha' _ h'=>q .non H' Ha' h'.g (aZ.mpr rfl)|rt d=>exact λv H' Ha' g rp=>q v H' Ha' g rp|bk ρ'|ct ρ'=>exact q.elim
def noX(m:ac->ar D)(ds:ac):ar D:=match m ds with
 |.exn _=>.stuck
 |r=>r
def Mb(h:m ds=.ok d):noX m ds=.ok d:=by unfold noX;rw[h]
def A5{K:Ur}(h:spD K n (noX m) vs H Q E):spD K n m vs H Q E':=by
 obtain⟨hn,Ha,ds,hs,hv,q⟩:=h;refine⟨hn,Ha,ds,hs,hv,?_⟩;unfold noX at q;cases e:m ds with|stuck=>rw[e]at q;exact q|exn x=>rw[e]at q;exact q.elim|ok d=>rw[e]at q;exact q
theorem FnOk.noX{K:Ur}{ps:bi}(F:FnOk P w K mg base (lI P w) k f fd ps (spD K n m)) :
  FnOk P w K mg base CX0 k f fd ps (spD K n (DL.noX m)) :=
 ⟨λvs H Q E h=>F.len vs H Q E0 (A5 h),λA outer s H args us vs Q E hr he hb hv h=>codeAny_mono (F.run A outer s H args us vs Q E0 hr he hb hv (A5 h)) λr s' q=>by
  cases r with
  |ok fl=>cases fl<;>exact q
  |error e=>obtain⟨_,_,_,_,_,_,_,_,_,_,_,_,_,_,_,hE⟩:=q;exact hE.elim⟩
section
variable {P:Vt}{w:VH}{st:List VW}{H H':Hp}{h g g' B:UO}
def Un.fly(un:Un (iY st) [] H H' h g)(k:B.StaysIn g)(hfr:g.FunFrames B st)(hB:∀b,b∉iY st->(H' b≠none∨∃o,h.get? b=some o)->∃o,B.get? b=some o)(k':B.StaysIn g')(up:g.UpToSlots g'):Un (iY st) [] H H' h g':=by
 have fst:∀b,b∈iY st->∀o,g.get? b=some o->∃sl,g'.get? b=some { o with slots:=sl }:=λb hb o e=>by
  obtain⟨_,o',ho',hd⟩:=hfr.mem hb;rw[e]at ho';cases ho';exact up b o e hd
 refine⟨λb o e n hb hx=>?_,λb o e n hb hx=>?_,un.free,λb o e hx=>?_,un.tups,un.frzs,un.tbls⟩
 .exact il k k' (hB b hb (.inr ⟨o,e⟩)) (un.keep b o e n hb hx)
 .obtain⟨sl,e1⟩:=un.slot b o e n hb hx
  obtain⟨sl2,e2⟩:=fst b hb _ e1;exact⟨sl2,e2⟩
 .obtain⟨o',e1⟩:=un.there b o e hx
  by_cases hb:b∈iY st
  .obtain⟨sl,e2⟩:=fst b hb _ e1
   exact⟨_,e2⟩
  .exact⟨_,il k k' (hB b hb (.inr ⟨o,e⟩)) e1⟩
def ig.fly(ok:ig P w H' g)(hf:∀b∈iY st,H' b=none)(k:B.StaysIn g)(hB:∀b,b∉iY st->(H' b≠none∨∃o,h.get? b=some o)->∃o,B.get? b=some o)(k':B.StaysIn g'):ig P w H' g':=λa o e=>by
 refine(ok a o e).stay (λb u hb q=>?_) (λ_ q=>q) λ_ _ q=>q;have hn:H' b≠none:=by
  rcases hb with rfl|hb
  .rw[e];simp
  .rw[hb];simp
 exact il k k' (hB b (λhm=>hn (hf b hm)) (.inl hn)) q
def ig.ext(ok:ig P w H g)(hn:H a=none)(p:φ g)(ht:∃o,g.get? a=some o)(hm:∀h1 h2:UO,φ h1->(∀o,h1.get? a=some o->h2.get? a=some o)->φ h2):ig P w (upd H a (.ext φ)) g:=λb u e=>by
 by_cases hb:b=a
 .subst hb;rw[aE]at e;cases e;exact⟨p,ht,hm⟩
 .rw[aA hb]at e
  exact(ok b u e).stay (λc v _ q=>q) (λc q=>by rw[aA (bo q hn)];exact q) λc xs q=>by rw[aA (bo q hn)];exact q
def Un.ext{fs:List Uy}(un:Un fs [] H H' h g)(hn:H' a=none)(ha:h.get? a=none):Un fs [] H (upd H' a o) h g :=
 ⟨un.keep,un.slot,λb ob e n hx=>by rw[aA (λz=>by subst z;rw[ha]at e;cases e)];exact un.free b ob e n hx,un.there,λb xs q=>by rw[aA (bo (un.tups b xs q) hn)];exact un.tups b xs q,
  λb ob u q=>by rw[aA (bo (un.frzs b ob u q) hn)];exact un.frzs b ob u q,λb ps q=>by
   obtain⟨m,e⟩:=un.tbls b ps q;exact⟨m,by rw[aA (bo e hn)];exact e⟩⟩
def uQ{a C:Uy}{dc:Option Uy}:∀h1 h2:UO,tK a C dc h1->(∀o,h1.get? a=some o->h2.get? a=some o)->tK a C dc h2:=λh1 h2 ⟨o,vs,e,c,d⟩ k=>⟨o,vs,k o e,c,d⟩
end
def hand(X:Cx)(e:Uy):Cx:={ X with A:=X.A.mark (some (.ref e)),calm:=false,xe:=λ_ _=>False }
section
variable {X:Cx}{π:List (Uy×Obj)}{σ:L2.St}{H:Hp}{s:UD}{e:Uy}
def IH(ok:X.Ok):(hand X e).Ok :=
 ⟨ok.mod,ok.kind,ok.glob,ok.blt,ok.above,ok.inj,ok.has,ok.cab,λz=>Bool.noConfusion z,ok.frames,ok.stk,ok.exf,ok.bs,ok.bsz,ok.noex,ok.exfs,ok.funs,ok.frf⟩
def Inv.hand(I:Inv X π σ H s):Inv (DL.hand X e) π σ H s:=⟨IH I.ok,I.os,I.bare,I.base,I.loc,I.cell,I.free,I.freeC,I.pin,I.hok,I.len⟩
def iW(ok:X.Ok)(I:Inv (DL.hand X e) π σ H s):Inv X π σ H s:=⟨ok,I.os,I.bare,I.base,I.loc,I.cell,I.free,I.freeC,I.pin,I.hok,I.len⟩
def GK(I:Inv X π σ H s)(hN:X.N.Nodup)(hi:X.N[i]?=some x)
  (hm:∀(j:Nat) (y:UP) (v:V),X.N[j]?=some y->σ[j]?=some (some v)->zj X.env.scope y->∃u,b3 v u/\Ry X.env s.heap m y u)(hn:h'.Ns X.env.locals (λy=>if y=x then v else m y))(hs:XU X.env.locals s.heap h') :
  Inv X π (σ.set i none) H { s with heap:=h',toks:=t' }:=by
 have cne:=I.cne;obtain⟨m0,⟨oL,_,_,hoL,_⟩,_⟩:=id I.loc;have tracked:ig X.prog X.w H h':=λb ob e=>by
  refine(I.hok b ob e).stay (λc w' hc q=>(hs.2 c ?_).trans q) (λ_ q=>q) λ_ _ q=>q;rintro rfl;have hfree:=I.free;rcases hc with rfl|hc
  .rw[hfree]at e;cases e
  .rw[hfree]at hc;cases hc
 refine⟨I.ok,I.os,I.bare,⟨λb o e n hb hx=>?_,λb o e n hb hx=>?_,I.base.free,λb o e hx=>?_,I.base.tups,I.base.frzs,I.base.tbls⟩,⟨_,hn,λj y v' e1 e2 e3=>?_⟩,λy c e=>?_,I.free,I.freeC,λp hp=>?_,tracked,by simpa using I.len⟩
 .exact(hs.2 b (U2 (UA (UN e) I.ok.above))).trans (I.base.keep b o e n hb hx)
 .obtain⟨sl,e1⟩:=I.base.slot b o e n hb hx
  exact⟨sl,(hs.2 b (U2 (UA (UN e) I.ok.above))).trans e1⟩
 .obtain⟨o',e1⟩:=I.base.there b o e hx
  exact⟨o',(hs.2 b (U2 (UA (UN e) I.ok.above))).trans e1⟩
 .by_cases hj:j=i
  .subst hj
   have hiσ:j<σ.length:=by rw[I.len];exact(Ux.mp hi).1
   rw[Vg hiσ]at e2;cases e2
  .rw[UE (Vj hj)]at e2
   obtain⟨u',r',q⟩:=hm j y v' e1 e2 e3;refine⟨u',r',?_⟩;rcases q with⟨k,e⟩|⟨k,c,e,z⟩
   .refine .inl ⟨k,?_⟩
    have:y≠x:=λe=>hj (qV hN e1 (e▸hi));simp[this,e]
   .exact .inr ⟨k,c,e,z.sameBut hs (cne y c e)⟩
 .obtain⟨w',z⟩:=I.cell y c e
  exact⟨w',z.sameBut hs (cne y c e)⟩
 .obtain⟨e,n,ne,nf,d⟩:=I.pin p hp
  exact⟨(hs.2 p.1 ne).trans e,n,ne,nf,d⟩
def NU{D:kE}(hstk:X.stack=X.env::X.outer/\X.env.frame=some X.env.locals)(I:Inv X π σ H1 s1)
  (h:lI X.prog X.w X.stack H1 s1 Ex ev s')(hg:Gl X c)(hm:X.mg c=some cv)(hx:∀C ox H',Ex (.ref C) ox H'->Yj X.K (.ref C) cv=some true)
  (hN:X.N.Nodup)(hi:X.N[ni]?=some n)(hlo:X.env.scope.names.lookup n=some .local)
  (hs:∀ea C dc ox H' s2,Ex (.ref C) ox H'->(ox=none∨ox=dc)->H' ea=none->Inv (DL.hand X ea) π (σ.set ni (some (.ref ea))) (upd H' ea (.ext (tK ea C dc))) s2 ->
   UR (UT X.prog X.w) (X.A.mark (some (.ref ea))) (execs (ba::suite) X.env) (SP (DL.hand X ea) π { nx:=λσ' H=>D.nx (σ'.set ni none) H,rt:=D.rt,bk:=λσ' H=>D.bk (σ'.set ni none) H,ct:=λσ' H=>D.ct (σ'.set ni none) H }) (λ_ _=>False) s2)
  (hdb:(c==("__debug__" : UP))=false:=by decide) :
  UR (UT X.prog X.w) X.A (noteFrame ev X.env) (λ_ si=>UR (UT X.prog X.w) X.A (setFlight ev none) (λ_ sj=>
   UR (UT X.prog X.w) X.A (handleBy ev X.env (.ExceptHandler (some (.Name c np)) (some n) (ba::suite) hpos::rest)) (SP X π D) X.xe sj) X.xe si) X.xe s':=by
 obtain⟨ea,C,a0,B,H',rfl,os,bare,un,hok,hne,fl,hB,ox,⟨dc,hdc,hox⟩,hE⟩:=h;have hA:X.A.frames=some (X.env::X.outer):=by rw[←hstk.1];exact I.ok.frames
 have fl0:=fl;rw[hstk.1]at fl;have hf1:∀b∈iY X.stack,H' b=none:=λb hb=>by
  obtain⟨_,o,ho,_⟩:=I.stack.mem hb;exact un.free b o ho (I.stkFree b hb) (by simp)
 have hnew:s1.heap.get? ea=none:=by
  cases q:s1.heap.get? ea with
  |none=>rfl
  |some o=>
   by_cases hb:ea∈iY X.stack
   .obtain⟨_,o',ho',hd⟩:=fl0.2.2.1.mem hb
    obtain⟨oe,vs,he,_,hd',_⟩:=fl0.first
    rw[ho']at he;cases he;exact absurd hd' (hd vs)
   .obtain⟨u,hu⟩:=hB ea hb (.inr ⟨o,q⟩)
    rw[fl.2.1]at hu;cases hu
 have inv:∀g,B.StaysIn g->s'.heap.UpToSlots g->Inv X π σ H' { s' with heap:=g }:=λg k up=>
  I.call' (ch:=[]) os (Un.fly un fl0.1 fl0.2.2.1 hB k up) (ig.fly hok hf1 fl0.1 hB k) bare (λ_ z=>nomatch z)
 have invx:∀g,B.StaysIn g->s'.heap.UpToSlots g->tK ea C dc g->Inv X π σ (upd H' ea (.ext (tK ea C dc))) { s' with heap:=g }:=λg k up p=>
  I.call' (ch:=[]) os (Un.ext (Un.fly un fl0.1 fl0.2.2.1 hB k up) hne hnew) (ig.ext (ig.fly hok hf1 fl0.1 hB k) hne p (let ⟨o,_,e,_⟩:=p;⟨o,e⟩) uQ) bare (λ_ z=>nomatch z)
 refine yG hA hstk.2 fl hdc λh4 held4 up4 dc4=>?_;refine yH held4 dc4 λh5 fl5 up5 dc5=>?_;have I5:Inv (DL.hand X ea) π σ H' { s' with heap:=h5 }:=Inv.hand (inv h5 fl5.1 (up4.trans up5));refine wpAny_handleBy_cons (codeAny_handlers_test ?_) (by intro q;cases q);refine j9 I5 hg hm ?_ hdb;obtain⟨ob,hob,hoc⟩:=fl5.there;have LT:XS (UT X.prog X.w) h5 (typeOf (.ref ea)) (.ref C):=hoc▸(XS.ld hob).andThen .now;refine(W.exm_one I5.kIn LT (hx C ox H' hE)).here ?_;refine codeAny_handlers_suite_as ?_;refine yJ fl5 dc5 λh6 fl6 up6 dc6=>?_;obtain⟨oe,vs,he,hc,hd,_⟩:=fl6.first
 have I6:Inv (DL.hand X ea) π σ (upd H' ea (.ext (tK ea C dc))) { s' with heap:=h6 }:=Inv.hand (invx h6 fl6.1 ((up4.trans up5).trans up6) ⟨oe,vs,he,hc,hd,(by obtain⟨o6,e6,d6⟩:=dc6;rw[he]at e6;cases e6;exact d6)⟩);refine jr (X:=DL.hand X ea) (v:=.ref ea) I6 hN hi (.inl hlo) rfl (λs7 I7=>?_) (.inr hlo);refine VD (hs ea C dc ox H' s7 hE hox hne I7) (λf s8 h8=>?_) λ_ _ z=>z.elim;have hcls:(X.env.scope.kind==.class||(X.env.scope.kind==.module&&X.env.locals != X.env.globals))=false:=by rw[I.ok.kind];rfl
 have fin:∀{σ':L2.St}{H2:Hp}{Q:Unit->UD->Prop},Inv (DL.hand X ea) π σ' H2 s8->(∀s9,Inv X π (σ'.set ni none) H2 s9->Q () s9) ->
   UR (UT X.prog X.w) X.A (do bindName X.env n .none;unbindBehindTheSuite X.env n hpos) Q X.xe s8:=λ{σ' H2 Q} J q=>by
  have J':=iW I.ok J;obtain⟨m,hn,hl⟩:=id J'.loc;exact wpAny_nameGoes_keeps hlo hn hcls λh' v hn' hs'=>q _ (GK J' hN hi hl hn' hs')
 cases f with|next=>obtain⟨σ',H2,J,q⟩:=h8;exact fin J λs9 J9=>⟨_,H2,J9,q⟩|brk=>obtain⟨σ',H2,J,q⟩:=h8;exact fin J λs9 J9=>⟨_,H2,J9,q⟩|cont=>obtain⟨σ',H2,J,q⟩:=h8;exact fin J λs9 J9=>⟨_,H2,J9,q⟩|ret u=>obtain⟨v,σ',H2,J,r,q⟩:=h8;exact fin J λs9 J9=>⟨v,_,H2,J9,r,q⟩
end
def PA.nox(h:PA X.nox es t):PA X es t:=λpos π s σ H Q I hw=>
 VD (h pos π s σ H Q (I.wish _) hw) (λ_ _ ⟨v,H',I',r,q⟩=>⟨v,H',I'.unwish,r,q⟩) λ_ _ z=>VN z
section
variable {X:Cx}{π:List (Uy×Obj)}{σ:L2.St}{H:Hp}{s:UD}{CX:zl}{k:Nat}{f:Uy}{fd:VS}{ps:bi}{sp:Sp}{Ex:XK}{x:UP}{p pos:Pos}{e:Vl}{es:List Vl}{t:TA}
def Cb(F:FnOk X.prog X.w X.K X.mg X.base CX k f fd ps sp)(hr:di k X.A)(hg:Gl X x)(hm:X.mg x=some (.ref f))(hk:WN X.K (.ref f)=true)(hb:ia X.K fd ps [])(ha:PA X.nox (e::es) t)
  (I:Inv X π σ H s)(h:t σ H λvs H1=>sp vs H1 Q Ex)(hx:∀H1 s1 e s',Inv X π σ H1 s1->CX X.stack H1 s1 Ex e s'->XE e s')
  (hdb:(x==("__debug__" : UP))=false:=by decide)(he:Uw (e::es) X.env=(false,eval e X.env)::Uw es X.env:=by exact aT rfl)(hpl:(Vy pos (Uw es X.env)).any (·.1)=false:=by exact bK rfl) :
  UR (UT X.prog X.w) X.A (eval (.Call (.Name x p) (e::es) [] pos) X.env) (EP X π σ Q) XE s:=by
 refine wpAny_Call_Name_kw (j9 I hg hm ?_ hdb);have ha':PA (X.wish XE) (e::es) t:=PA.nox (X:=X.wish XE) ha;refine W.callWith_K (h₀:=X.base) I.ok.mod.kin hk (dz (ha' pos π s σ H _ (I.wish XE) h) λus s1 z9=>?_) he hpl;obtain⟨vs,H1,I1,r,q⟩:=z9;refine⟨I1.unwish.kIn,?_⟩;have I1:=I1.unwish;have hl:us.length=ps.length:=by rw[←r.length];exact F.len _ _ _ _ q
 have hb1:=hb s1 us I1.kIn (by simpa using hl);rw[Vd]at hb1;refine wpAny_call (codeAny_mono (F.run X.A X.stack s1 H1 ⟨us,[]⟩ us vs Q Ex hr I1.env0 hb1 r q) λr s' hq=>?_);cases r with
 |error e=>exact hx H1 s1 e s' I1 hq
 |ok fl=>
  cases fl with|ret u=>exact I1.after hq|next|brk|cont=>exact VN hq
end
def zr(K:Ur)(He η Ha:Hp)(r:ar Fl)(D:kE):Prop:=match r with
 |.exn _=>True
 |r=>cG K E0 He η Ha r D
def RZ(K:Ur)(He η Ha:Hp)(σ:L2.St)(ρ:Ev)(r:ar Fl):XK:=λC ox H'=>∃x Ha',r=.exn x/\aG Ha Ha'/\fj K He η Ha' σ H' ρ/\zc K Ha' x C ox
structure TB (X:Cx) (st:V6) (g:bd):Prop where
 o:∀(π:List (Uy×Obj)) (s:UD) (σ:L2.St) (H He η Ha:Hp) (ρ:Ev) (D:kE) (XE:Up->UD->Prop),Inv X π σ H s->fj X.K He η Ha σ H ρ->zr X.K He η Ha (g ρ) D ->
  (∀H1 s1 e s',Inv X π σ H1 s1->lI X.prog X.w X.stack H1 s1 (RZ X.K He η Ha σ ρ (g ρ)) e s'->XE e s')->UR (UT X.prog X.w) X.A (exec st X.env) (SP X π D) XE s
def xH(i:Nat)(fa:Ev->ar (ac))(m:ac->ar D):bd:=λρ=>match fa ρ with
 |.ok ds=>(m ds).bind λd=>.ok (.nx (ρ.set i (.sh d)))
 |_=>.stuck
section
variable {X:Cx}{E:XK}{e:Vl}{es:List Vl}{fa:Ev->ar (ac)}{pos:Pos}
def Ll{ps:bi}(hN:X.N.Nodup)(hi:X.N[i]?=some y)(hy:Cm X.env.scope y)
  (F:FnOk X.prog X.w X.K X.mg X.base (lI X.prog X.w) k fn fd ps (spD X.K n m))(hr:di k X.A)(hg:Gl X x)(hm:X.mg x=some (.ref fn))
  (hk:WN X.K (.ref fn)=true)(hb:ia X.K fd ps [])(ha:DA X.nox E0 (e::es) fa)(hn:(e::es).length=n:=by rfl)(hl:∀ρ ds,fa ρ=.ok ds->ds.length=(e::es).length)
  (hdb:(x==("__debug__" : UP))=false:=by decide)(he:Uw (e::es) X.env=(false,eval e X.env)::Uw es X.env:=by exact aT rfl)(hpl:(Vy cpos (Uw es X.env)).any (·.1)=false:=by exact bK rfl)
  (hs:VG (.Call (.Name x p) (e::es) [] cpos) (some (.Name y pos')) pos.line X.env=pure false:=by rfl)
  (hf:X.fn y=true∨X.env.scope.names.lookup y=some .local := by first|exact .inl rfl|exact .inr rfl|assumption):TB X (.Assign [.Name y pos'] (.Call (.Name x p) (e::es) [] cpos) pos) (xH i fa m):=by
 refine⟨λπ s σ H He η Ha ρ D XE I h q hx=>?_⟩;refine wpAny_Assign_Name (dz (Cb (Q:=λv H1=>D.nx (σ.set i (some v)) H1) F hr hg hm hk hb ha.o I ?_ hx hdb he hpl) λv s1 ⟨y,H1,I1,r1,q1⟩=>?_) hs
 .refine⟨Ha,ρ,h.g.sub,h.rd,?_⟩
  unfold xH at q ⊢;cases e1:fa ρ with
  |stuck=>rw[e1]at q;exact q|exn x=>rw[e1]at q;exact q.elim
  |ok ds=>
   rw[e1]at q;intro vs H1 H01 g1 r1;refine⟨?_,H01,ds,g1.sub,r1,?_⟩
   .have:=r1.length
    have:=hl ρ ds e1;omega
   .show post _ _ _ _ (m ds) _
    cases e2:m ds with
    |stuck=>simp only[e2]at q;exact q
    |exn x=>exact λC ox H' Ha' g ex=>⟨x,Ha',by simp only[e2];rfl,g1.z.trans g.z,h.grow (g1.trans g),ex⟩
    |ok d=>
     simp only[e2]at q;exact λv H' Ha' g rp=>q _ H' Ha' (g1.z.trans g.z) ((h.grow (g1.trans g)).put rp)
 .exact jr I1 hN hi hy r1 (λs2 I2=>⟨_,H1,I2,q1⟩) hf
def fj.drop{K:Ur}(h:fj K He η Ha σ H ρ):fj K He η Ha (σ.set i none) H (ρ.set i .no):=by
 have key:∀(j:Nat) (s:Sl),(ρ.set i .no)[j]?=some s->s≠.no->j≠i/\ρ[j]?=some s:=λj s e hs=>by
  by_cases hj:i=j
  .subst hj
   rw[W3]at e;cases q:ρ[i]? with|none=>rw[q]at e;cases e|some s'=>rw[q]at e;cases e;exact absurd rfl hs
  .rw[UE hj]at e
   exact⟨λz=>hj z.symm,e⟩
 refine⟨h.g,λj d' e=>?_,λj d' e=>?_,λj k d1 d2 hn e1 e2=>?_,by simp[h.ln],h.ex.upd (λj s e=>?_) (aG.refl _) (λa vs _ e=>e) λp us _ h0 hp _=>⟨hp,h0⟩⟩
 rotate_left 3
 .by_cases hs:s=.no
  .exact .inr (.inr (.inl hs))
  .obtain⟨hj,e'⟩:=key j s e hs
   exact .inl ⟨e',by rw[UE (Vj hj)]⟩
 .obtain⟨hj,e'⟩:=key j _ e (by simp)
  obtain⟨v',h1,h2⟩:=h.rd j d' e';exact⟨v',by rw[UE (Vj hj)];exact h1,h2⟩
 .obtain⟨hj,e'⟩:=key j _ e (by simp)
  obtain⟨a,h1,h2⟩:=h.ow j d' e';exact⟨a,by rw[UE (Vj hj)];exact h1,h2⟩
 .obtain⟨hj,e1'⟩:=key j _ e1 (by simp)
  obtain⟨hk,e2'⟩:=key k _ e2 (by simp);rw[UE (Vj hj),UE (Vj hk)];exact h.ap j k d1 d2 hn e1' e2'
def E3(ni:Nat)(r:Fl):ar Fl:=match r with
 |.nx ρ=>.ok (.nx (ρ.set ni .no))
 |.rt d=>.ok (.rt d)
 |.bk ρ=>.ok (.bk (ρ.set ni .no))
 |.ct ρ=>.ok (.ct (ρ.set ni .no))
def wu(x:RB):D:=match x.flds with
 |[]=>.exc x.cls
 |f::fs=>if((f::fs).map (·.1)).Nodup then .ob (.exf x.cls ((f::fs).map (·.1))) ((f::fs).map (·.2)) else .exc x.cls
theorem uH{β:Type}:∀{l:List (UP×β)}{f:UP}{d:β},(l.map (·.1)).Nodup->(f,d)∈l->l.lookup f=some d
 |(g,e)::l,f,d,nd,h=>by
  rw[UG,Wd]at nd;rcases UI.mp h with h|h
  .cases h;rw[VX,beq_self_eq_true]
  .have:f≠g:=λz=>nd.1 (z▸U4.mpr ⟨(f,d),h,rfl⟩)
   rw[VX,beq_eq_false_iff_ne.mpr this];exact uH nd.2 h
theorem yD{K:Ur}{fs:List (UP×V)}:∀(l:List (UP×D)),(∀n d,(n,d)∈l->∃v,fs.lookup n=some v/\Rep K H d v)->∃vs,Reps K H (l.map (·.2)) vs/\l.length=vs.length/\∀(i:Nat) (f:UP) (v:V),(l.map (·.1))[i]?=some f->vs[i]?=some v->fs.lookup f=some v
 |[],_=>⟨[],Reps.nil_iff.mpr rfl,rfl,λi f v e=>by simp at e⟩
 |(n,d)::l,h=>by
  obtain⟨v,h1,h2⟩:=h n d UU;obtain⟨vs,h3,h4,h5⟩:=yD l λn d hm=>h n d (UH _ hm);refine⟨v::vs,aH.mpr ⟨v,vs,rfl,h2,h3⟩,by simp[h4],λi f w e1 e2=>?_⟩;cases i with|zero=>simp at e1 e2;rw[←e1,←e2];exact h1|succ i=>exact h5 i f w (by simpa using e1) (by simpa using e2)
def FN{K:Ur}(xc:XC K x.cls C)(ex:zc K H x (.ref C) ox)(hox:ox=none∨ox=dc)(hne:H ea=none):Rep K (upd H ea (.ext (tK ea C dc))) (wu x) (.ref ea):=by
 have plain:Rep K (upd H ea (.ext (tK ea C dc))) (.exc x.cls) (.ref ea):=fL.mpr ⟨ea,C,dc,rfl,xc,.inl aE⟩;have sm:aG H (upd H ea (.ext (tK ea C dc))):=λb o q=>by rw[aA (bo q hne)];exact q
 obtain⟨cls,flds⟩:=x;unfold wu;cases flds with
 |nil=>exact plain
 |cons f fs=>
  show Rep _ _ (if((f::fs).map (·.1)).Nodup then D.ob (.exf cls ((f::fs).map (·.1))) ((f::fs).map (·.2)) else .exc cls) _
  by_cases nd:((f::fs).map (·.1)).Nodup
  .rw[if_pos nd]
   obtain⟨_,hm⟩:=ex;cases ox with
   |none=>cases hm
   |some a=>
    obtain⟨gs,h1,h2⟩:=hm;have hdc:dc=some a:=by
     rcases hox with z|z
     .cases z
     .exact z.symm
    obtain⟨vs,k1,k2,k3⟩:=yD (K:=K) (H:=H) (fs:=gs) (f::fs) λn d hmm=>h2 n d (uH nd hmm);exact fD.mpr ⟨ea,vs,rfl,⟨C,a,gs,xc,hdc▸.inl aE,sm _ _ h1,by rw[Us];exact k2,k3⟩,k1.mono sm⟩
  .rw[if_neg nd];exact plain
def CG(g:bd)(hit:UP->Bool)(ni:Nat)(sh:bd):bd:=λρ=>match g ρ with
 |.exn x=>if hit x.cls=true then(sh (ρ.set ni (.sh (wu x)))).bind (E3 ni) else .stuck
 |r=>r
def Nx{st ba:V6}{g sh:bd}(hstk:X.stack=X.env::X.outer/\X.env.frame=some X.env.locals)(hb:TB X st g)
  (hg:Gl X c)(hm:X.mg c=some cv)(hhit:∀x C,hit x=true->XC X.K x C->Yj X.K (.ref C) cv=some true)(hN:X.N.Nodup)(hi:X.N[ni]?=some n)(hlo:X.env.scope.names.lookup n=some .local)
  (hh:∀ea,zk (DL.hand X ea) E He η (ba::suite) sh)(hdb:(c==("__debug__" : UP))=false:=by decide) :
  DS X E He η (.Try [st] [.ExceptHandler (some (.Name c np)) (some n) (ba::suite) hpos] [] [] pos) (CG g hit ni sh):=by
 refine⟨?_⟩;intro π s σ H D I ⟨Ha,ρ,h,q⟩;have hq:zr X.K He η Ha (g ρ) D:=by
  unfold CG at q;cases e1:g ρ with
  |exn x=>trivial|stuck=>rw[e1]at q;exact q
  |ok r=>rw[e1]at q;cases r<;>exact q
 refine wpAny_Try_except (wpAny_execs_cons (dz (hb.o π s σ H He η Ha ρ D _ I h hq λH1 s1 e s' I1 hc=>?_) λf s1 hf=>?_))
 .have hit1:∀x,g ρ=.exn x->hit x.cls=true:=λx e1=>by
   unfold CG at q;rw[e1]at q
   by_cases z:hit x.cls=true
   .exact z
   .simp only[if_neg z]at q;exact q.elim
  refine NU hstk I1 hc hg hm (λC ox H' ⟨x,Ha',e1,_,_,⟨⟨c',ec,xc⟩,_⟩⟩=>?_) hN hi hlo (λea C dc ox H' s2 ⟨x,Ha',e1,sm,srx,⟨⟨c',ec,xc⟩,hm2⟩⟩ hox hne I2=>?_) hdb
  .cases ec;exact hhit _ _ (hit1 x e1) xc
  .cases ec
   refine(hh ea).o π s2 _ _ _ I2 ⟨upd Ha' ea (.ext (tK ea C dc)),ρ.set ni (.sh (wu x)),(srx.grow (aR srx.g.sub hne)).put (FN xc ⟨⟨C,rfl,xc⟩,hm2⟩ hox (srx.g.sub.free hne)),?_⟩;have sm2:aG Ha (upd Ha' ea (.ext (tK ea C dc))):=sm.trans (aR srx.g.sub hne).z;unfold CG at q;rw[e1]at q;simp only[if_pos (hit1 x e1)]at q;cases e2:sh (ρ.set ni (.sh (wu x))) with
   |stuck|exn z=>rw[e2]at q;exact q
   |ok r=>
    rw[e2]at q;cases r with|nx ρ'=>exact λσ' H2 H02 s2 h2=>q _ H2 H02 (sm2.trans s2) (fj.drop h2)|rt d=>exact q|bk ρ'=>exact λσ' H2 H02 s2 h2=>q _ H2 H02 (sm2.trans s2) (fj.drop h2)|ct ρ'=>exact λσ' H2 H02 s2 h2=>q _ H2 H02 (sm2.trans s2) (fj.drop h2)
 .cases f with
  |next=>exact wpAny_execs_nil (wpAny_execs_nil hf)
  |brk=>exact hf
  |cont=>exact hf
  |ret u=>exact hf
end
structure K7 (k:Nat) (A:Vn):Prop where
 dp:A.depth+3*k+5<recursionLimit
 un:A.units+16*k+200<XX
def di.h{A:Vn}(r:di k A):K7 k A:=⟨r.dp,r.un⟩
structure TN (P:Vt) (w:VH) (K:Ur) (mg:UP->Option Up) (base:UO) (k:Nat) (f:Uy) (fd:VS) (ps:bi) (sp:Sp):Prop where
 len:∀vs H Q E,sp vs H Q E->vs.length=ps.length
 run:∀(A:Vn) (outer:List VW) (s:UD) (H:Hp) (args:Args) (us:List Up) (vs:al) (Q:VK) (E:XK),K7 k A->zd P w K mg base A outer s H->BindsTo s fd args (ps.zip us)->bz vs us->sp vs H Q E ->
  Wz (UT P w) A (.call (.ref f) args) (CR CX0 outer P w H s Q E) s
def TN.ok{K:Ur}{ps:bi}(F:TN P w K mg base k f fd ps sp):FnOk P w K mg base CX0 k f fd ps sp :=
 ⟨F.len,λA outer s H args us vs Q E hr=>F.run A outer s H args us vs Q E (di.h hr)⟩
def lP(tab:UP->Option Bool)(x:D):ar D:=match x with
 |.exc c=>(match tab c with
  |some b=>.ok (.bl b)
  |none=>.stuck)
 |.ob (.exf c _) _=>(match tab c with
  |some b=>.ok (.bl b)
  |none=>.stuck)
 |_=>.stuck
def vj(K:Ur)(tab:UP->Option Bool)(cv:Up):Prop:=∀c C b,tab c=some b->XC K c C->Yi K (.ref C) cv=some b
def AL(K:Ur)(tab:UP->Option Bool)(cs:List Uy):Prop:=∀c C b,tab c=some b->XC K c C->W.kitAny K (.ref C) (cs.map Ve)=some b
section
variable {X:Cx}{E:XK}{e a:Vl}{es:List Vl}{f:am}{pos:Pos}{tab:UP->Option Bool}
def IG(hrel:∀u,b3 cV u->u=cv)(ht:vj X.K tab cv):gN X (.builtin "isinstance") (λvs H Q=>∃c v b,vs=[v,cV]/\Rep X.K H (.exc c) v/\tab c=some b/\Q (.bl b) H):=by
 intro π s σ H xs us Q I r h;obtain⟨c,v,b,rfl,h1,h2,q⟩:=h;cases r with
 |cons r1 r2=>
  cases r2 with
  |cons r3 r4=>
   cases r4;rename_i u1 u2;obtain rfl:=hrel _ r3;obtain⟨ad,C,dc,rfl,hc,hr⟩:=fL.mp h1;cases (show u1=Ve ad from r1);obtain⟨p,_,_⟩:=hr.ok I.hok;exact VV (mO hc.ek hc.ek.isCls) I.kIn p (ht c C b h2 hc) (λz=>nomatch z) λtk=>⟨.bl b,H,I.tok _,rfl,q⟩
def FD(h:tD X.K E (aY f (lP tab)) σ H Q):tD X.K E f σ H λv H1=>∃c v' b,[v,cV]=[v',cV]/\Rep X.K H1 (.exc c) v'/\tab c=some b/\Q (.bl b) H1:=by
 obtain⟨Ha,ρ,hs,hr,q⟩:=h;refine⟨Ha,ρ,hs,hr,?_⟩;unfold aY at q;cases e1:f ρ with
 |stuck|exn x=>rw[e1]at q;exact q
 |ok d=>
  rw[e1]at q;intro v H1 H01 g1 r1;have q:post X.K E H Ha (lP tab d) Q:=q;cases d with
  |exc c=>
   unfold lP at q;cases e2:tab c with|none=>simp only[e2]at q;exact q.elim|some b=>simp only[e2]at q;exact⟨c,v,b,rfl,r1.mono g1.sub,e2,q _ H1 H01 g1 (rb _)⟩
  |ob k ds=>
   cases k with
   |exf c ks=>
    replace r1:=r1.exf_exc;unfold lP at q;cases e2:tab c with|none=>simp only[e2]at q;exact q.elim|some b=>simp only[e2]at q;exact⟨c,v,b,rfl,r1.mono g1.sub,e2,q _ H1 H01 g1 (rb _)⟩
   |_=>exact q.elim
  |_=>exact q.elim
def Gk(hrel:∀u,b3 cV u->u=cv)(ht:vj X.K tab cv)(hc:PE X (.Name x p2) (tC cV))(hgi:Gl X "isinstance")(hmi:X.mg "isinstance"=none)(ha:DE X E a f)
  (he:Uw [a,.Name x p2] X.env=(false,eval a X.env)::Uw [.Name x p2] X.env:=by exact aT rfl)(he2:Uw [.Name x p2] X.env=(false,eval (.Name x p2) X.env)::Uw [] X.env:=by exact aT rfl)(hpl:(Vy pos (Uw [.Name x p2] X.env)).any (·.1)=false:=by exact bK rfl) :
  DE X E (.Call (.Name "isinstance" p1) [a,.Name x p2] [] pos) (aY f (lP tab)):=by
 refine⟨?_⟩;exact bc (kO (IG hrel ht) hgi hmi PyProof.Rows.Boot.«isinstance» (dj ha.o (dj hc fU he2) he) (by decide) (by decide) he hpl) λσ H Q h=>FD h
def Dk(hg:Gl X x)(hm:X.mg x=some (.ref C))(ht:vj X.K tab (.ref C))(hgi:Gl X "isinstance")(hmi:X.mg "isinstance"=none)(ha:DE X E a f)(hdb:(x==("__debug__" : UP))=false:=by decide)
  (he:Uw [a,.Name x p2] X.env=(false,eval a X.env)::Uw [.Name x p2] X.env:=by exact aT rfl):DE X E (.Call (.Name "isinstance" p1) [a,.Name x p2] [] pos) (aY f (lP tab)) :=
 Gk (cV:=.ref C) (λu h=>h) ht (vP hg hm rfl hdb) hgi hmi ha he
def Dl(hg:Gl X x)(hm:X.mg x=none)(hv:bootBuiltins x=some (.type T))(ht:vj X.K tab (.type T))(hgi:Gl X "isinstance")(hmi:X.mg "isinstance"=none)(ha:DE X E a f)(hn:x≠"__name__":=by decide)(hdb:(x==("__debug__" : UP))=false:=by decide)
  (he:Uw [a,.Name x p2] X.env=(false,eval a X.env)::Uw [.Name x p2] X.env:=by exact aT rfl):DE X E (.Call (.Name "isinstance" p1) [a,.Name x p2] [] pos) (aY f (lP tab)) :=
 Gk (cV:=.ty T) (λu h=>h) ht (Bm hg hm hv rfl hn hdb) hgi hmi ha he
structure CN (X:Cx) (es:List Vl) (cs:List Uy):Prop where
 o:PA X es (λσ H Q=>Q (cs.map V.ref) H)
def NO:CN X [] []:=⟨fU⟩
def nr(hg:Gl X x)(hm:X.mg x=some (.ref C))(h:CN X es cs)(hdb:(x==("__debug__" : UP))=false:=by decide):CN X (.Name x p::es) (C::cs) :=
 ⟨dj (vP (v:=.ref C) hg hm rfl hdb) h.o (aT rfl)⟩
theorem um:∀{cs:List Uy}{us:List Up},bz (cs.map V.ref) us->us=cs.map Ve
 |[],_,.nil=>rfl
 |c::cs,_,.cons r t=>by rw[um t];obtain rfl:_=Ve c:=r;rfl
def IF(ht:AL X.K tab cs):gN X (.builtin "isinstance") (λvs H Q=>∃c v b p,vs=[v,.ref p]/\H p=some (.tup (cs.map V.ref))/\Rep X.K H (.exc c) v/\tab c=some b/\Q (.bl b) H):=by
 intro π s σ H xs us Q I r h;obtain⟨c,v,b,p,rfl,hp,h1,h2,q⟩:=h;cases r with
 |cons r1 r2=>
  cases r2 with
  |cons r3 r4=>
   cases r4;rename_i u1 u2;obtain rfl:u2=Ve p:=r3;obtain⟨ad,C,dc,rfl,hc,hr⟩:=fL.mp h1;cases (show u1=Ve ad from r1);obtain⟨pe,_,_⟩:=hr.ok I.hok;obtain⟨_,its,rv,ob,k1,k2,n,k3⟩:=I.hok p _ hp;obtain rfl:=um rv;obtain⟨oc,od,odt,osl⟩:=ob;cases k2;cases k3;exact W.kia_tup (mO hc.ek hc.ek.isCls) I.kIn pe k1 (ht c C b h2 hc) (λz=>nomatch z) λtk=>⟨.bl b,H,I.tok _,rfl,q⟩
def J8{k2}(ht:AL X.K tab cs)(hc:CN X es cs)(hl:cs.length<=30)(hgi:Gl X "isinstance")(hmi:X.mg "isinstance"=none)(ha:DE X E a f)
  (he:Uw [a,.Tuple es k2 p2] X.env=(false,eval a X.env)::Uw [.Tuple es k2 p2] X.env:=by exact aT rfl)(he2:Uw [.Tuple es k2 p2] X.env=(false,eval (.Tuple es k2 p2) X.env)::Uw [] X.env:=by exact aT rfl)(hpl:(Vy pos (Uw [.Tuple es k2 p2] X.env)).any (·.1)=false:=by exact bK rfl) :
  DE X E (.Call (.Name "isinstance" p1) [a,.Tuple es k2 p2] [] pos) (aY f (lP tab)):=by
 refine⟨?_⟩;refine bc (kO (IF ht) hgi hmi PyProof.Rows.Boot.«isinstance» (dj ha.o (dj (EW hc.o) fU he2) he) (by decide) (by decide) he hpl) λσ H Q z9=>?_;obtain⟨Ha,ρ,hs,hr,q⟩:=z9;refine⟨Ha,ρ,hs,hr,?_⟩
 unfold aY at q;cases e1:f ρ with
 |stuck|exn x=>rw[e1]at q;exact q
 |ok d=>
  rw[e1]at q;intro v H1 H01 g1 r1;have q:post X.K E H Ha (lP tab d) Q:=q;cases d with
  |exc c=>
   unfold lP at q;cases e2:tab c with
   |none=>simp only[e2]at q;exact q.elim
   |some b=>
    simp only[e2]at q;refine⟨?_,λp hp=>?_⟩
    .rw[Us];exact U8 hl (by decide)
    .have ga:=aR (o:=.tup (cs.map V.ref)) g1.sub hp
     exact⟨c,v,b,p,rfl,aE,(r1.mono g1.sub).mono ga.s,e2,q _ _ _ (g1.trans ga) (rb _)⟩
  |ob k ds=>
   cases k with
   |exf c ks=>
    replace r1:=r1.exf_exc;unfold lP at q;cases e2:tab c with
    |none=>simp only[e2]at q;exact q.elim
    |some b=>
     simp only[e2]at q;refine⟨?_,λp hp=>?_⟩
     .rw[Us];exact U8 hl (by decide)
     .have ga:=aR (o:=.tup (cs.map V.ref)) g1.sub hp
      exact⟨c,v,b,p,rfl,aE,(r1.mono g1.sub).mono ga.s,e2,q _ _ _ (g1.trans ga) (rb _)⟩
   |_=>exact q.elim
  |_=>exact q.elim
end
end DL
namespace DL
open PySem PySem.Spec PyProof.Rows L2 PySem.W
structure jo (K:Frag) (x:UP) (C:Uy):Prop where
 ns:nsIn K US x=some (some (.ref C))
 ty:typeIn K (.ref C)=some (.type "type")
 ob:mroIn K C (.type "object")=some true
 be:subIn K (.ref C) (.type "BaseException")=some true
def jo.isCls{K:Frag}(Z:jo K x C):(clsIn K C).isSome=true:=by
 obtain⟨cd,a,b⟩:=Y7.mp Z.ob;rw[a];rfl
def jo.kitCls{K:Frag}(Z:jo K x C):W.kitCls K t (.ref C)=subIn K t (.ref C):=by
 show(if((clsIn K C).isSome&&typeIn K (.ref C)==some (.type "type"))=true then subIn K t (.ref C) else none)=_;rw[Z.isCls,Z.ty];rfl
def jo.exm{K:Frag}(Z:jo K x C)(h:subIn K t (.ref C)=some b):exmOne K t (.ref C)=some b:=by
 unfold exmOne;rw[Z.be,if_pos (by decide),Z.kitCls,h]
def jo.kit{K:Frag}(Z:jo K x C)(hR:subIn K (.ref R) (.ref R)=some true)(h:subIn K (.ref R) (.ref C)=some b):kitOne K (.ref R) (.ref C)=some b:=by
 unfold kitOne
 by_cases e:(Ve R==Ve C)=true
 .rw[if_pos e]
  cases (Ve.inj (beq_iff_eq.mp e));rw[←hR,h]
 .rw[if_neg e,Z.kitCls,h]
def z9{K:Frag}(hm:kitMeta T=true)(h:subIn K (.ref C) (.type T)=some b):kitOne K (.ref C) (.type T)=some b:=by
 unfold kitOne;rw[if_neg (by intro z;cases beq_iff_eq.mp z)];show(if kitMeta T=true then subIn K (.ref C) (.type T) else none)=_;rw[if_pos hm,h]
def Aa{K:Frag}:kitAny K t []=some false:=rfl
def jC{K:Frag}(h:kitOne K t c=some false)(h':kitAny K t r=some b):kitAny K t (c::r)=some b:=by unfold kitAny;rw[h];exact h'
def Fy{K:Frag}(h:kitOne K t c=some true):kitAny K t (c::r)=some true:=by unfold kitAny;rw[h]
def yo:∀T∈iR,kitMeta T=true:=by decide +kernel
def rg:kitMeta "ValueError"=true:=by decide +kernel
def XC.inj{K:Frag}(a:XC K x C)(b:XC K x C'):C=C':=by
 have:=a.ns.symm.trans b.ns;simpa using this
def mn:List (UP×Bool)->UP->Option Bool
 |[],_=>none
 |(x,b)::r,c=>if x=c then some b else mn r c
theorem ik{K:Frag}{p:UP->Uy->Bool->Prop}:∀{l:List (UP×Bool)},(∀q∈l,∃C,XC K q.1 C/\p q.1 C q.2)->∀c C b,mn l c=some b->XC K c C->p c C b
 |[],_,c,C,b,h,_=>by cases h
 |(x,v)::r,H,c,C,b,h,xc=>by
  unfold mn at h
  by_cases e:x=c
  .subst e
   rw[if_pos rfl]at h;cases h;obtain⟨C',xc',q⟩:=H _ UU;obtain rfl:=XC.inj xc xc';exact q
  .rw[if_neg e]at h
   exact ik (λq hq=>H q (UH _ hq)) c C b h xc
def i8(l:List (UP×Bool))(c:UP):Bool:=mn l c==some true
def yy{K:Frag}{l:List (UP×Bool)}{cv:Up}(H:∀q∈l,∃C,XC K q.1 C/\exmOne K (.ref C) cv=some q.2):∀x C,i8 l x=true->XC K x C->exmOne K (.ref C) cv=some true:=λx C h xc=>
 ik (p:=λ_ C b=>exmOne K (.ref C) cv=some b) H x C true (by unfold i8 at h;exact beq_iff_eq.mp h) xc
end DL
namespace Com
open PySem L2 DL
section
variable {α β:Type}
def ev_exn{f:α->ar β}:(ar.exn x:ar α).bind f=.exn x:=aI rfl
end
def Ht(hit:UP->Bool)(ni:Nat)(sh:bd)(ρ:Ev)(r:ar Fl):ar Fl:=match r with
 |.exn x=>if hit x.cls=true then(sh (ρ.set ni (.sh (wu x)))).bind (E3 ni) else .stuck
 |r=>r
def Am{sh:bd}:CG g hit ni sh ρ=Ht hit ni sh ρ (g ρ):=aI rfl
def IP{sh:bd}:Ht hit ni sh ρ (.ok r)=.ok r:=aI rfl
def FR:E3 ni (.nx ρ)=.ok (.nx (ρ.set ni .no)):=aI rfl
def KC(i:Nat)(m:ac->ar D)(ρ:Ev)(r:ar (ac)):ar Fl:=match r with
 |.ok ds=>(m ds).bind (HI i ρ)
 |_=>.stuck
def wx:xH i fa m ρ=KC i m ρ (fa ρ):=aI rfl
def rG:KC i m ρ (.ok ds)=(m ds).bind (HI i ρ):=aI rfl
end Com
namespace DL
open PySem PySem.Spec PyProof.Rows L2
section
variable {X:Cx}{π:List (Uy×Obj)}{σ:L2.St}{H:Hp}{s:UD}{h':UO}
def Cu{fp:List Uy}(I:Inv X π σ H s)(k:∀b o,b∉fp->s.heap.get? b=some o->h'.get? b=some o)(hf:∀b∈fp,nE X π H b)(hT:s.heap.objs.size<=T)
  (new:c7 X.prog X.w (upd H T (.tup xs)) h' T (.tup xs)):Inv X π σ (upd H T (.tup xs)) { s with heap:=h',toks:=t' }:=by
 have hn:H T=none:=I.hok.fresh hT;have nit:∀b u,H b=some u->b∉fp:=λb u e z=>by rw[(hf b z).1]at e;cases e
 refine I.step (g':=s.gens) (d':=s.drawn) (ch:=fp) (λb hb=>?_) (λb o _ _ hc e _=>k b o hc e) (λb o _ _ hc e _=>⟨o.slots,k b o hc e⟩) (λb o _ e n=>?_)
  (λb o hc e=>⟨o,k b o hc e⟩) (λb xs e=>by rw[aA (bo e hn)];exact e) (λb o u e=>by rw[aA (bo e hn)];exact e) (λb ps e=>⟨#[],by rw[aA (bo e hn),e];simp⟩) (λm hm=>?_) (λb u e=>?_) I.bare
 .obtain⟨_,f1,_,f3,f4,f5⟩:=hf b hb
  exact⟨f3,f1,f4,f5⟩
 .rw[aA (U2 (UA (UN e) hT))];exact n
 .obtain⟨o,es,ep,ho,r⟩:=hm
  exact⟨o,es,ep,k _ o (λz=>(hf _ z).2.1 rfl) ho,r⟩
 .by_cases hb:b=T
  .subst hb;rw[aE]at e;cases e;exact new
  .rw[aA hb]at e
   refine(I.hok b u e).stay (λc v hc q=>k c v ?_ q) (λc q=>by rw[aA (bo q hn)];exact q) λc xs q=>by rw[aA (bo q hn)];exact q
   rcases hc with z|z
   .rw[z];exact nit b u e
   .exact nit c _ z
def Hq{fp:List Uy}(I:Inv X π σ H s)(k:∀b o,b∉fp->s.heap.get? b=some o->h'.get? b=some o)(hf:∀b∈fp,nE X π H b):Inv X π σ H { s with heap:=h',toks:=t' }:=by
 have nit:∀b u,H b=some u->b∉fp:=λb u e z=>by rw[(hf b z).1]at e;cases e
 refine I.step (g':=s.gens) (d':=s.drawn) (ch:=fp) (λb hb=>?_) (λb o _ _ hc e _=>k b o hc e) (λb o _ _ hc e _=>⟨o.slots,k b o hc e⟩) (λb o _ e n=>n)
  (λb o hc e=>⟨o,k b o hc e⟩) (λb xs e=>e) (λb o u e=>e) (λb ps e=>⟨#[],by rw[e];simp⟩) (λm hm=>?_) (λb u e=>?_) I.bare
 .obtain⟨_,f1,_,f3,f4,f5⟩:=hf b hb
  exact⟨f3,f1,f4,f5⟩
 .obtain⟨o,es,ep,ho,r⟩:=hm
  exact⟨o,es,ep,k _ o (λz=>(hf _ z).2.1 rfl) ho,r⟩
 .refine(I.hok b u e).stay (λc v hc q=>k c v ?_ q) (λ_ q=>q) λ_ _ q=>q
  rcases hc with z|z
  .rw[z];exact nit b u e
  .exact nit c _ z
end
def TM(K:Ur)(a:Uy):It :=
 ⟨λi H=>∃xs x,fM K H a xs/\xs[i]?=some x,λi H x H'=>∃p y,H p=none/\x=.ref p/\(∀xs,fM K H a xs->xs[i]?=some y)/\H'=upd H p (.tup [.int i,y]),λi H=>∃xs,fM K H a xs/\xs.length<=i⟩
def Cy{P:Vt}{w:VH}{K:Ur}{elts:List Vl}{k:Nat}{pos:Pos}(a it e:Uy)(hne:e≠it)(hae:a≠e)(hai:a≠it) :
  AK P w K (.Tuple elts k pos) (TM K a) [e,it] e (λi h=>(∃old,IsEnum h e it i old)/\h.IsListIter it a i) where
 mem:=by simp
 obj:=λi h st b hb=>by
  obtain⟨⟨old,he⟩,o,h1,h2,h3⟩:=st;rcases UI.mp hb with rfl|hb
  .exact⟨_,he,λv z=>by cases z⟩
  .rcases UI.mp hb with rfl|hb
   .exact⟨o,h1,λv z=>by rw[h3]at z;cases z⟩
   .cases hb
 keep:=λi h h' st k=>by
  obtain⟨⟨old,he⟩,hi⟩:=st;exact⟨⟨old,k e (by simp) _ he⟩,hi.at λo y=>k it (by simp) o y⟩
 item:=by
  intro X hP hw hK hc i π s σ H E I hf st hg;subst hP hw hK;obtain⟨xs,x,hq,hx⟩:=hg;obtain⟨its,rv,p,hz⟩:=I.list hq;obtain⟨u,hu,ru⟩:=rv.get hx;have W:=WalksT.enumerate (prog:=X.prog) (w:=X.w) (I.ok.hd hc) e it a hne hae hai its.toArray;have hil:i<its.toArray.size:=by simpa using (Ux.mp hu).1
  refine W.item i s _ _ hil ⟨st.1,st.2,p.isList⟩ λT vals h' tk hPt hT hTup hMid hk=>?_;refine⟨_,rfl,W.go elts k pos i T _ _ _ hMid λh'' st'' hk''=>?_⟩;obtain⟨t,y,hy,rfl⟩:=hPt;have hyu:y=u:=by
   have:its[i]?=some y:=by simpa using hy
   rw[hu]at this;cases this;rfl
  subst hyu;obtain⟨o,ho,hr⟩:=hTup;have ho':=hk'' T o (W.apart i T _ hMid) ho;refine⟨.ref T,upd H T (.tup [.int i,x]),Cu (s:=s) (h':=h'') (t':=tk) I (λb o hb e=>hk'' b o hb (hk b o hb e)) hf hT ⟨by show 2<=sizeLine;decide,[.int i t,y],.cons ⟨t,rfl⟩ (.cons ru .nil),o,ho',hr⟩,rfl,⟨T,x,I.hok.fresh hT,rfl,λys hy=>by rw[I.list_inj hy hq];exact hx,rfl⟩,⟨st''.1,st''.2.1⟩,λb hb=>?_⟩;have hb0:=(hf b hb).1;obtain⟨ob,hob,_⟩:∃o,s.heap.get? b=some o/\∀v,o.data≠.cell v:=by
   obtain⟨⟨old,he⟩,o,h1,h2,h3⟩:=st;rcases UI.mp hb with rfl|hb
   .exact⟨_,he,λv z=>by cases z⟩
   .rcases UI.mp hb with rfl|hb
    .exact⟨o,h1,λv z=>by rw[h3]at z;cases z⟩
    .cases hb
  rw[aA (U2 (UA (UN hob) hT))];exact hb0
 done:=by
  intro X hP hw hK hc i π s σ H E I hf st hg;subst hP hw hK;obtain⟨xs,hq,hx⟩:=hg;obtain⟨its,rv,p,hz⟩:=I.list hq;have hl:=rv.length;obtain⟨⟨old,he⟩,hi⟩:=st;exact wpAny_pyNext_enum_end (I.ok.hd hc) he hi p.isList (by simp;omega) λh' hx=>⟨rfl,Hq (t':=s.toks) I (λb o hb e=>hx b o (λz=>hb (by simp[z])) e) hf⟩
 self:=λ_ _ _ _ _ st h=>by
  obtain⟨⟨old,he⟩,_⟩:=st;exact wpAny_pyIter_enum he h
section
variable {X:Cx}{E:XK}{elts:List Vl}{k:Nat}{tp:Pos}{e a b:Vl}{f g:am}
def Qg(K:Ur)(ta:TA):TI:=λσ H R=>ta σ H λvs H1=>∃a,vs=[.ref a]/\(∃xs,fM K H1 a xs)/\R (TM K a) H1
def HV(hg:Gl X "enumerate")(hm:X.mg "enumerate"=none)(ha:PA X [a] ta)(hs:Uw [a] X.env=[(false,eval a X.env)]:=by rfl):PI X (.Tuple elts k tp) (.Call (.Name "enumerate" p) [a] [] pos) (Qg X.K ta):=by
 intro π s σ H R I h;refine Call_ (nW I hg hm PyProof.Rows.Boot.«enumerate» (WL (dz (ha pos π s σ H _ I h) λus s1 z9=>?_) hs rfl));obtain⟨vs,H1,I1,r1,q1⟩:=z9;obtain⟨l,e,⟨xs,hq⟩,q⟩:=q1;subst e;cases r1 with
 |cons r rr=>
  cases rr;cases r;obtain⟨its,rv,p,hz⟩:=I1.list hq;have hlt:l<s1.heap.objs.size:=by obtain⟨o,n,e,_⟩:=p;exact UN e
  refine call_enumerate_list p.isList λh' he hi hsz hk=>?_;refine wpAny_pyIter_enum he ?_;refine⟨s1.heap.objs.size+1,[s1.heap.objs.size+1,s1.heap.objs.size],_,_,H1,rfl,I1.kept (t':=s1.toks) hk,Cy l s1.heap.objs.size (s1.heap.objs.size+1) (Nat.succ_ne_self _) (U2 (Nat.lt_succ_of_lt hlt)) (U2 hlt),⟨⟨_,he⟩,hi⟩,λb hb=>?_,q⟩;have hb':s1.heap.objs.size<=b:=by
   rcases UI.mp hb with rfl|hb
   .omega
   .rcases UI.mp hb with rfl|hb
    .exact UC _
    .cases hb
  exact I1.fpOk hb' (I1.hok.fresh hb')
def numbered(n:Nat):ac->ac
 |[]=>[]
 |d::ds=>.tup [.int n,d]::numbered (n+1) ds
theorem fV:∀(ds:ac) (n:Nat),(numbered n ds).length=ds.length
 |[],_=>rfl
 |d::ds,n=>by simp[numbered,fV ds]
theorem jZ:∀(ds:ac) (n i:Nat),(numbered n ds)[i]?=(ds[i]?).map λd=>D.tup [.int (n+i:Nat),d]
 |[],_,_=>by simp[numbered]
 |d::ds,n,0=>by simp[numbered]
 |d::ds,n,i+1=>by simp only[numbered,VI];rw[jZ ds (n+1) i,show n+1+i=n+(i+1) by omega]
def xB(f:am):Ev->ar (ac):=λρ=>(f ρ).bind λd=>match d with
 |.lst ds=>.ok (numbered 0 ds)
 |_=>.stuck
def Hs{K:Ur}(hs:aG Ha H)(hp:H p=none)(r:Reps K Ha ds vs):∃H₀2,bI H Ha (upd H p (.tup vs)) H₀2/\Rep K H₀2 (.tup ds) (.ref p) :=
 ⟨upd Ha p (.tup vs),aR hs hp,aQ.mpr ⟨p,vs,rfl,kC.of aE,r.mono (aR (o:=.tup vs) hs hp).z⟩⟩
def nc(hg:Gl X "enumerate")(hm:X.mg "enumerate"=none)(h:DE X E a f)(hn:KN a=true:=by exact rfl):DI X E (.Tuple elts k tp) (.Call (.Name "enumerate" p) [a] [] pos) (xB f):=by
 refine⟨jW (HV hg hm (dj h.o fU (fO hn)) (fO hn)) λσ H R z9=>?_⟩;obtain⟨Ha,ρ,hs,hr,q⟩:=z9;refine⟨Ha,ρ,hs,hr,?_⟩;unfold xB at q;cases e1:f ρ with
 |stuck|exn x=>rw[e1]at q;exact q
 |ok d=>
  rw[e1]at q;intro v H1 H01 g1 r1;cases d with
  |lst ds=>
   obtain⟨l,vs,rfl,hv,hrv⟩:=aJ.mp r1;refine⟨l,rfl,⟨vs,aG.sqL g1.sub hv⟩,q _ H1 H01 g1 ⟨λi H' Ha' s1 s2 hi=>?_,λi H' Ha' x H2 d s1 s2 hd hy=>?_,λi H' Ha' s1 s2 hi=>?_⟩⟩
   .rw[fV]at hi
    exact⟨vs,vs[i]'(by rw[←hrv.length];exact hi),aG.sqL (s1.trans s2) hv,by simp⟩
   .obtain⟨p,y,hp,rfl,hy,rfl⟩:=hy
    rw[jZ]at hd;cases ei:ds[i]? with
    |none=>rw[ei]at hd;cases hd
    |some d'=>
     rw[ei]at hd;cases hd;obtain⟨u,k1,k2⟩:=hrv.get ei;have:=hy vs (aG.sqL (s1.trans s2) hv);rw[k1]at this;cases this;exact Hs s2 hp (Reps.cons (aB.mpr (by simp)) (Reps.cons (k2.mono s1) Reps.nil))
   .rw[fV]at hi
    exact⟨vs,aG.sqL (s1.trans s2) hv,by rw[←hrv.length];exact hi⟩
  |_=>exact q.elim
end
def tT(f:UP):bi->ac->Option D
 |k::ks,d::ds=>if f=k then some d else tT f ks ds
 |_,_=>none
theorem BU{K:Ur}{H:Hp}{f:UP}:∀{ks:bi}{ds:ac}{vs:al}{d:D},ks.length=vs.length->Reps K H ds vs->tT f ks ds=some d->∃v,(ks.zip vs).lookup f=some v/\Rep K H d v/\f∈ks
 |[],ds,vs,d,_,_,h=>by unfold tT at h;cases h
 |k::ks,[],vs,d,_,_,h=>by unfold tT at h;cases h
 |k::ks,x::ds,vs,d,hl,r,h=>by
  obtain⟨v,r',rfl,r1,r2⟩:=aH.mp r;unfold tT at h
  by_cases c:f=k
  .rw[if_pos c]at h
   cases h;exact⟨v,by rw[VJ,VX,beq_iff_eq.mpr c],r1,by rw[c];exact UU⟩
  .rw[if_neg c]at h
   obtain⟨u,h1,h2,h3⟩:=BU (by simpa using hl) r2 h;exact⟨u,by rw[VJ,VX,beq_eq_false_iff_ne.mpr c];exact h1,h2,UH _ h3⟩
section
variable {X:Cx}{E:XK}{e a b o:Vl}{es:List Vl}{fe fo:am}{fa:Ev->ar (ac)}{pos:Pos}
def putAll:bi->al->List (UP×V)->List (UP×V)
 |f::fs,v::vs,l=>putAll fs vs (nO f v l)
 |_,_,l=>l
theorem xT:∀{l:List (UP×V)},f∉l.map (·.1)->nO f v l=l++[(f,v)]
 |[],_=>rfl
 |(k,x)::l,h=>by
  simp only[UG,UI,not_or]at h;unfold nO;rw[if_neg (λz=>h.1 z.symm),xT h.2];rfl
theorem qE:∀{fs:bi}{vs:al}{l:List (UP×V)},fs.Nodup->(∀f∈fs,f∉l.map (·.1))->fs.length=vs.length->putAll fs vs l=l++fs.zip vs
 |[],[],l,_,_,_=>by simp[putAll]
 |[],v::vs,l,_,_,h=>by simp at h
 |f::fs,[],l,_,_,h=>by simp at h
 |f::fs,v::vs,l,nd,hn,h=>by
  rw[Wd]at nd;unfold putAll;rw[xT (hn f UU),qE nd.2 (λg hg=>?_) (by simpa using h),VJ,Wq]
  .rfl
  .simp only[U9,UG,Wn,U6,UL,not_or]
   exact⟨hn g (UH _ hg),λz=>nd.1 (z▸hg)⟩
def xt{a:Uy}{o:HO}(h:H a=some o):upd H a o=H:=by
 funext b
 by_cases hb:b=a
 .subst hb;rw[aE,h]
 .rw[aA hb]
def uq{a:Uy}{o u:HO}:upd (upd H a o) a u=upd H a u:=by
 funext b
 by_cases hb:b=a
 .subst hb;rw[aE,aE]
 .rw[aA hb,aA hb,aA hb]
def ji:ac->Option (List Int)
 |[]=>some []
 |.int x::r=>(ji r).map (x::·)
 |_=>none
theorem yx{K:Ur}{H:Hp}:∀{ds:ac}{ys:List Int}{vs:al}{us:List Up},ji ds=some ys->Reps K H ds vs->bz vs us->IntsAre us ys
 |[],ys,vs,us,h,r,q=>by
  cases h;rw[Reps.nil_iff.mp r]at q;cases q;exact .nil
 |d::ds,ys,vs,us,h,r,q=>by
  obtain⟨v,r',rfl,h1,h2⟩:=aH.mp r;cases q with
  |cons q1 q2=>
   cases d with
   |int x=>
    unfold ji at h;cases e:ji ds with
    |none=>rw[e]at h;cases h
    |some zs=>
     rw[e]at h;cases h;rw[aB.mp h1]at q1;obtain⟨t,rfl⟩:=q1;exact .cons _ _ (yx e h2 q2)
   |_=>cases h
end
def Bx{K:Ur}:∀f∈([]:bi),ko K C f:=λ_ h=>nomatch h
def yf{K:Ur}(h:WB K (.ref C) f=some none)(r:∀f∈ks,ko K C f):∀g∈f::ks,ko K C g:=λg hg=>by
 rcases UI.mp hg with rfl|hg
 .exact h
 .exact r g hg
end DL
namespace Com
open PySem L2 DL
def KQ(tg:Ev->D->ar Ev)(s:bd)(ρ:Ev)(ds:ac):ar Fl:=b7 tg s ds ρ
def A4(d:D):ar (ac):=match d with
 |.lst ds=>.ok (numbered 0 ds)
 |_=>.stuck
def ju(d:D):ar (ac):=match d with
 |.lst ds=>.ok ds
 |_=>.stuck
def KA(d:D):ar (ac):=match d with
 |.tup ds=>.ok ds
 |_=>.stuck
def ff(n:Nat)(fr:bv)(tg:Ev->D->ar Ev)(tt fe:am)(ρ:Ev)(ds:ac):ar D:=if ds.length<=line then match cI (de n fr ρ) tg tt fe ds with
  |.ok es=>.ok (.lst es)
  |_=>.stuck
 else .stuck
def BR(tg:Ev->D->ar Ev)(s:bd)(ρ:Ev)(d:D):ar Fl:=match d with
 |.int j=>if -4611686018427387904<=j/\j<4611686018427387904 then b7 tg s (intsFrom 0 j.toNat) ρ else .stuck
 |_=>.stuck
section
variable {s t:bd}{f g h:am}{src:Ev->ar (ac)}{fa:Ev->ar (ac)}{ρ r:Ev}{i j n:Nat}{d x y:D}{ds es xs:ac}{a b:Int}{tg:Ev->D->ar Ev}{tt fe:am}{fr:bv}
def Jy:kM src tg s ρ=(src ρ).bind (KQ tg s ρ):=aI rfl
def FW:KQ tg s ρ ds=b7 tg s ds ρ:=aI rfl
def IT:xB f ρ=(f ρ).bind A4:=aI rfl
def FQ:A4 (.lst ds)=.ok (numbered 0 ds):=aI rfl
def IS:kD f ρ=(f ρ).bind ju:=aI rfl
def FP:ju (.lst ds)=.ok ds:=aI rfl
def IQ:CA f ρ=(f ρ).bind KA:=aI rfl
def FO:KA (.tup ds)=.ok ds:=aI rfl
def JC:dy n fr src tg tt fe ρ=(src ρ).bind (ff n fr tg tt fe ρ):=aI rfl
def FV(h:(ds.length==is.length)=true):el is ρ (.tup ds)=.ok (dA ρ is ds):=by
 show(match (if ds.length=is.length then some ds else none) with|some ds=>ar.ok (dA ρ is ds)|none=>.stuck)=_;rw[if_pos (eq_of_beq h)]
def mZ:oB f tg s ρ=(f (shr ρ)).bind (BR tg s ρ):=aI rfl
def iI{k:Nat}(h:k<=1000000):BR tg s ρ (.int (k:Int))=b7 tg s (intsFrom 0 k) ρ:=by
 unfold BR;dsimp only;rw[if_pos ⟨by omega,by omega⟩,XG]
def Qv:NM (.int a) (.int b)=.ok (.int (if b > a then b else a)):=aI rfl
def Qy:iN (.bl true)=.ok (.int 1):=aI rfl
def M0:iN (.bl false)=.ok (.int 0):=aI rfl
def Ao:oa (.int 10) (.int 18)=.ok (.int 1000000000000000000):=aI rfl
def yU(hl:ds.length<=1000000)(h:∀d∈ds,∃ρ1,tg (de n fr ρ) d=.ok ρ1/\tt ρ1=.ok (.bl true)/\fe ρ1=.ok (F d)):ff n fr tg tt fe ρ ds=.ok (.lst (ds.map F)):=by
 unfold ff;rw[if_pos (show ds.length<=line from hl),uZ h]
end
def un(s x:g7):g7:=(s.1*x.2+x.1*s.2,s.2*x.2)
def My(h:f ρ=.ok (.lst ds)):vG f tg s ρ=b7 tg s ds ρ:=by unfold vG;rw[h];rfl
def tot(xs:List g7):g7:=xs.foldl un (0,1)
end Com
def RC:=(bx (bx (bx (bx @IU @Jy) (bx @FW @IT)) (bx (bx @FQ @IS) (bx @FP @IQ))) (bx (bx (bx @FO @JC) (bx @FV @mZ)) (bx (bx @Qv @Qy) (bx @M0 @Ao))))
local macro_rules|`(tactic|open_line with[$xs,*])=>`(tactic|simp only[N8,RC,UG,Wn,UZ,Xp,Vz,X5,Wl,Xe,Wt,VI,Yc,Yd,Yo,Nat.reduceSub,Nat.reduceAdd,Zm,Xt,Y2,YO,decide_true,decide_false,Nat.reduceLeDiff,Nat.reduceBEq,Int.reduceBEq,beq_self_eq_true,DL.dOne,DL.mYes,Int.reduceLT,Int.reduceLE,Int.reduceSub,Int.reduceAdd,Int.reduceMul,Int.reduceNeg,Int.reduceToNat,Y3,$[$xs:term],*])
namespace Com
open PySem L2 DL
def qY(ha:0<=a)(hb:0<b):0<=(lT a b).1:=Int.ediv_nonneg ha (by omega)
def BD(ha:0<a)(hb:0<b):0<(lT a b).1:=by
 have hg:0<(Vm a b:Int):=qc (by omega);have hd:(Vm a b:Int)∣a:=Yw ..;exact Int.ediv_pos_of_pos_of_dvd ha (by omega) hd
def PY(h0:0<=a)(h1:a<(GY:Int)):a.natAbs<vo:=UA (show a.natAbs<GY by omega) Ks
def wq(P:Nat->Ev->Prop)(h:∀k,k<n->∀ρ,P k ρ->∃ρ2,body (ρ.set i (.sh (.int (k:Int))))=.ok (.nx ρ2)/\P (k+1) ρ2)(h0:P 0 ρ):∃ρ',b7 (bU i) body (intsFrom 0 n) ρ=.ok (.nx ρ')/\P n ρ':=by
 have key:∀(m k:Nat) (ρ:Ev),k+m=n->P k ρ->∃ρ',b7 (bU i) body ((intsFrom 0 n).drop k) ρ=.ok (.nx ρ')/\P n ρ':=by
  intro m
  induction m with
  |zero=>
   intro k ρ hk hp;have:k=n:=by omega
   subst this;rw[rn];exact⟨ρ,rfl,hp⟩
  |succ m ih=>
   intro k ρ hk hp;obtain⟨ρ2,h1,h2⟩:=h k (by omega) ρ hp;rw[nY (by omega),lz (tg:=bU i) rfl h1];exact ih (k+1) ρ2 (by omega) h2
 exact key n 0 ρ (by omega) h0
def wt(P:Nat->Ev->Prop)(h:∀k d,ds[k]?=some d->∀ρ,P k ρ->∃ρ1 ρ2,tg ρ d=.ok ρ1/\body ρ1=.ok (.nx ρ2)/\P (k+1) ρ2)(h0:P 0 ρ):∃ρ',b7 tg body ds ρ=.ok (.nx ρ')/\P ds.length ρ':=by
 have key:∀(m k:Nat) (ρ:Ev),k+m=ds.length->P k ρ->∃ρ',b7 tg body (ds.drop k) ρ=.ok (.nx ρ')/\P ds.length ρ':=by
  intro m
  induction m with
  |zero=>
   intro k ρ hk hp;have:k=ds.length:=by omega
   subst this;rw[Wu];exact⟨ρ,rfl,hp⟩
  |succ m ih=>
   intro k ρ hk hp;have hlt:k<ds.length:=by omega
   obtain⟨ρ1,ρ2,h1,h2,h3⟩:=h k ds[k] (Ut hlt) ρ hp;rw[Vk hlt,lz h1 h2];exact ih (k+1) ρ2 (by omega) h3
 exact key ds.length 0 ρ (by omega) h0
def wV:("abcdefghijklmnopqrstuvwxyz" : UP).cps.toList=(Vv 26).map (97 + ·):=by decide +kernel
def N3:∀n,n<26->oX (97+n)=true:=by decide +kernel
def N2(h0:0<=v)(h1:v<26):aO (.str "abcdefghijklmnopqrstuvwxyz") (.int v)=.ok (.str ⟨#[97+v.toNat]⟩):=by
 obtain⟨n,rfl⟩:=Vf h0;have hn:n<26:=by omega
 have e:atI ("abcdefghijklmnopqrstuvwxyz" : UP).cps.toList ((n:Nat):Int)=some (97+n):=gE (by rw[wV];simp[hn]);show(if("abcdefghijklmnopqrstuvwxyz" : UP).length<=line then(match atI ("abcdefghijklmnopqrstuvwxyz" : UP).cps.toList ((n:Nat):Int) with|some c=>ar.ok (D.str ⟨#[c]⟩)|none=>.stuck) else .stuck)=_;rw[if_pos (by decide),e];rfl
theorem BI:∀cs:bv,Str.join "" (cs.map λc=>(⟨#[c]⟩:UP))=⟨cs.toArray⟩
 |[]=>rfl
 |[c]=>rfl
 |c::d::cs=>by
  show(⟨#[c]⟩:UP)++""++Str.join "" ((d::cs).map λc=>(⟨#[c]⟩:UP))=_;rw[BI (d::cs)];apply Str.ext';show(#[c]++("" : UP).cps)++(d::cs).toArray=_;have:("" : UP).cps=#[]:=rfl;rw[this];simp
theorem A0:∀cs:bv,jd (cs.map λc=>D.str ⟨#[c]⟩)=some (cs.map λc=>(⟨#[c]⟩:UP))
 |[]=>rfl
 |c::cs=>by
  show(jd (cs.map λc=>D.str ⟨#[c]⟩)).map _=_;rw[A0 cs];rfl
def Ab{cs:bv}(h:cs.length<=1000):mQ "" [.lst (cs.map λc=>D.str ⟨#[c]⟩)]=.ok (.str ⟨cs.toArray⟩):=by
 have RO:i7 "" (cs.map λc=>(⟨#[c]⟩:UP))=true:=by
  unfold i7;have e:((cs.map λc=>(⟨#[c]⟩:UP)).map (·.length)).sum=cs.length:=by
   clear h
   induction cs with
   |nil=>rfl
   |cons c cs ih=>
    simp only[UG,Vs,UZ,ih];show 1+cs.length=_;omega
  rw[e,U7];exact⟨by decide,decide_eq_true (by rw[Us];omega)⟩
 show(match jd (cs.map λc=>D.str ⟨#[c]⟩) with|some ys=>if i7 "" ys=true then ar.ok (D.str (YH "" ys)) else .stuck|none=>.stuck)=_;rw[A0];show(if i7 "" _=true then ar.ok (D.str (YH "" _)) else .stuck)=_;rw[if_pos RO];show ar.ok (D.str (Builtin.Str.glued "" _))=_;rw[StrLaws.glued_eq_join,BI]
structure nB (zs:bi):Prop where
 nd:zs.Nodup
 nm:∀z∈zs,nameB z=true
def NN(a:bv):(⟨a.toArray⟩:UP).length=a.length:=by show a.toArray.size=_;simp
structure wY where
 a:UP
 b:UP
 w:UP
 l:g7
 o:Option g7
def fN:Option g7->D
 |none=>.non
 |some x=>fr x
def cz(t:wY):D:=.tup [.str t.a,.str t.b,.str t.w,fr t.l,fN t.o]
structure pj (zs:bi) (t:wY):Prop where
 a:t.a∈zs
 b:t.b∈zs
 ne:t.a≠t.b
 w:t.w="one"∨t.w="both"
 l:zb t.l
 l0:0<=t.l.1
 o:∀x,t.o=some x->zb x/\0<x.1
def vB{zs:bi}{k:Int}(h0:0<=k)(h1:k<zs.length):∃z,zs[k.toNat]?=some z/\aO (.lst (zs.map D.str)) (.int k)=.ok (.str z):=by
 obtain⟨n,rfl⟩:=Vf h0;have hn:n<zs.length:=by omega
 refine⟨zs[n],by simp[hn],jh ?_⟩;rw[UK,Ut hn];rfl
def Hi(h0:0<=k)(h1:k<2):∃z:UP,(z="one"∨z="both")/\aO (.lst [.str "one",.str "both"]) (.int k)=.ok (.str z):=by
 have:k=0∨k=1:=by omega
 rcases this with rfl|rfl
 .exact⟨_,.inl rfl,BZ⟩
 .exact⟨_,.inr rfl,BY⟩
def vf{n d e:Int}(h2:2<=n)(d0:0<=d)(d1:d<n)(e0:0<=e)(e1:e<n-1):(0<=(d+1+e).fmod n/\(d+1+e).fmod n<n)/\(d+1+e).fmod n≠d:=by
 refine⟨gp (by omega),?_⟩;rw[VM _ (by omega)]
 by_cases h:d+1+e<n
 .rw[Ys (by omega) h];omega
 .have:(d+1+e) % n=d+1+e-n:=by
   rw[←Int.sub_emod_right (d+1+e) n,Ys (by omega) (by omega)]
  rw[this];omega
def qW{α:Type}{zs:List α}(nd:zs.Nodup){i j:Nat}{x y:α}(hi:zs[i]?=some x)(hj:zs[j]?=some y)(hij:i≠j):x≠y:=by
 intro e;subst e;obtain⟨h1,e1⟩:=Ux.mp hi;obtain⟨h2,e2⟩:=Ux.mp hj;exact hij ((List.getElem_inj nd).mp (e1.trans e2.symm))
def pd:bd :=
 (aw (bE (f9 (ao (ae (af 0) az) m_is_ratio) (ag (ag (af 0) (dC (.int 0)) aO) (dC (.int 0)) RP)))
 au)
def m_is_length:ac->ar D:=ck 1 pd
def sU:bd :=
 (aw (bE (gq (ag (af 0) (dC (.non)) nk) (f9 (ao (ae (af 0) az) m_is_ratio) (ag (ag (af 0) (dC (.int 0)) aO) (dC (.int 0)) Dm))))
 au)
def m_is_worth:ac->ar D:=ck 1 sU
noncomputable def y9:bd :=
 (aw (dM (gq (cp (aY (af 0) (b9 "tuple"))) (ag (ao (ae (af 0) az) (m1 cB)) (dC (.int 5)) gi))
 (aw (bE (dC (.bl false)))
 au)
 au)
 (aw (dM (gq (cp (ao (ae (ag (af 0) (dC (.int 0)) aO) az) m_is_name)) (gq (cp (ao (ae (ag (af 0) (dC (.int 1)) aO) az) m_is_name)) (ag (ag (af 0) (dC (.int 0)) aO) (ag (af 0) (dC (.int 1)) aO) gO)))
 (aw (bE (dC (.bl false)))
 au)
 au)
 (aw (dM (gq (cp (aY (ag (af 0) (dC (.int 2)) aO) (b9 "str"))) (ag (ag (af 0) (dC (.int 2)) aO) (dC (.tup [(.str "one"),(.str "both")])) dS))
 (aw (bE (dC (.bl false)))
 au)
 au)
 (aw (bE (f9 (ao (ae (ag (af 0) (dC (.int 3)) aO) az) m_is_length) (ao (ae (ag (af 0) (dC (.int 4)) aO) az) m_is_worth)))
 au))))
def m_is_tie:ac->ar D:=ck 1 y9
noncomputable def jL:bd :=
 (aw (dM (gq (cp (aY (af 0) (b9 "list"))) (cp (iO K2 K2 (dC (.int 2)) (ao (ae (af 0) az) (m1 cB)) (dC (.int 7)))))
 (aw dB
 au)
 au)
 (aw (kM (xB (af 0)) (el [1,2])
 (aw (dM (gq (cp (ao (ae (af 2) az) m_is_name)) (ag (af 2) (lO (af 0) dX (dP (af 1))) oY))
 (aw dB
 au)
 au)
 au))
 au))
def m_look_at_places:ac->ar D:=ck 3 jL
noncomputable def k7:bd :=
 (aw (dM (gq (cp (aY (af 0) (b9 "list"))) (ag (ao (ae (af 0) az) (m1 cB)) (dC (.int 14)) Dm))
 (aw dB
 au)
 au)
 (aw (kM (xB (af 0)) (el [2,3])
 (aw (dM (gq (cp (ao (ae (af 3) az) m_is_tie)) (gq (ag (ag (af 3) (dC (.int 0)) aO) (af 1) dS) (ag (ag (af 3) (dC (.int 1)) aO) (af 1) dS)))
 (aw dB
 au)
 au)
 au))
 au))
def m_look_at_ties:ac->ar D:=ck 4 k7
def sV:bd :=
 (aw (bE (f9 (ao (ae (af 0) az) m_is_name) (ag (af 0) (af 1) oY)))
 au)
def m_is_place:ac->ar D:=ck 2 sV
noncomputable def lY:bd :=
 (aw (dM (gq (cp (aY (af 0) (b9 "tuple"))) (ag (ao (ae (af 0) az) (m1 cB)) (dC (.int 4)) gi))
 (aw dB
 au)
 au)
 (aw (fS (ao (ae (ag (af 0) (dC (.int 0)) aO) az) m_look_at_places))
 (aw (fS (ao (ae (ag (af 0) (dC (.int 1)) aO) (ae (ag (af 0) (dC (.int 0)) aO) az)) m_look_at_ties))
 (aw (dM (cp (ao (ae (ag (af 0) (dC (.int 2)) aO) (ae (ag (af 0) (dC (.int 0)) aO) az)) m_is_place))
 (aw dB
 au)
 au)
 (aw (dM (gq (cp (ao (ae (ag (af 0) (dC (.int 3)) aO) (ae (ag (af 0) (dC (.int 0)) aO) az)) m_is_place)) (ag (ag (af 0) (dC (.int 3)) aO) (ag (af 0) (dC (.int 2)) aO) gO))
 (aw dB
 au)
 au)
 au)))))
def m_look_at_web:ac->ar D:=ck 1 lY
def bZ:bd :=
 (aw (bE (f9 (ao (ae (af 1) az) m_is_whole) (iO K2 Kc (dC (.int 0)) (af 1) (ao (ae (ag (af 0) (dC (.int 1)) aO) az) (m1 cB)))))
 au)
def m_is_tie_number:ac->ar D:=ck 2 bZ
noncomputable def jK:bd :=
 (aw (fS (ao (ae (af 0) az) m_look_at_web))
 (aw (dM (cp (aY (af 1) (b9 "list")))
 (aw dB
 au)
 au)
 (aw (bT 2 (aY (dC (.int 1)) og))
 (aw (vG (af 1) (bU 3)
 (aw (dM (gq (cp (ao (ae (af 0) (ae (af 3) az)) m_is_tie_number)) (ag (af 3) (af 2) K2))
 (aw dB
 au)
 au)
 (aw (dM (ag (ag (ag (ag (af 0) (dC (.int 1)) aO) (af 3) aO) (dC (.int 4)) aO) (dC (.non)) nk)
 (aw dB
 au)
 au)
 (aw (bT 2 (af 3))
 au))))
 au))))
def m_look_at_taking:ac->ar D:=ck 4 jK
def kz:bd :=
 (aw (dM (gq (cp (ao (ae (af 0) az) m_is_ratio)) (ag (ag (af 0) (dC (.int 0)) aO) (dC (.int 0)) Kc))
 (aw dB
 au)
 au)
 au)
def m_look_at_purse:ac->ar D:=ck 1 kz
structure iT where
 ps:bi
 ts:List wY
 fi:UP
 la:UP
def aP(w:iT):D:=.tup [.lst (w.ps.map D.str),.lst (w.ts.map cz),.str w.fi,.str w.la]
structure cc (w:iT):Prop where
 n2:2<=w.ps.length
 n7:w.ps.length<=7
 nm:nB w.ps
 t14:w.ts.length<=14
 ts:∀t∈w.ts,pj w.ps t
 fi:w.fi∈w.ps
 la:w.la∈w.ps
 ne:w.fi≠w.la
def lp(h:nameB z=true):m_is_name [.str z]=.ok (.bl true):=by
 have hl:z.length<=8:=by
  unfold nameB at h;simp only[U7,decide_eq_true_eq]at h;exact h.2.1
 rw[Ac (show RO (.str z)=true from decide_eq_true (U8 hl (by decide)))];show ar.ok (D.bl (nameB z))=_;rw[h]
def iw(h:Low x):m_is_ratio [fr x]=.ok (.bl true):=by
 rw[wg];show ar.ok (D.bl (qD (.tup [.int x.1,.int x.2])))=_;have h1:=h.q1;have h2:=h.g1;show ar.ok (D.bl (decide (1<=x.2)&&(Vm x.1 x.2==1)))=_;rw[decide_eq_true h1,h2];rfl
def oR(h:Low x)(h0:0<=x.1):m_is_length [fr x]=.ok (.bl true):=by
 have e:fr x=.tup [.int x.1,.int x.2]:=rfl;have h1:=iw h;rw[e]at h1 ⊢;open_line with[m_is_length,pd,h1,decide_eq_true h0,decide_eq_true (show x.1≥0 from h0)]
def zm(h:∀x,o=some x->Low x/\0<x.1):m_is_worth [fN o]=.ok (.bl true):=by
 cases o with
 |none=>rfl
 |some x=>
  obtain⟨hx,h0⟩:=h x rfl;have e:fN (some x)=.tup [.int x.1,.int x.2]:=rfl;have h1:=iw hx;rw[show fr x=.tup [.int x.1,.int x.2] from rfl]at h1;rw[e];open_line with[m_is_worth,sU,h1,decide_eq_true h0]
def B2:gO (.str x) (.str y)=.ok (.bl (x==y)):=by unfold gO;rw[if_pos ⟨rfl,rfl⟩,c8]
def Ea(nm:nB zs)(h:pj zs t):m_is_tie [cz t]=.ok (.bl true):=by
 obtain⟨a,b,w,l,o⟩:=t;obtain⟨ha,hb,hne,hw,hl,hl0,ho⟩:=h;have h1:=lp (nm.nm a ha);have h2:=lp (nm.nm b hb);have h3:=oR hl.toLow hl0;have h4:=zm (o:=o) λx hx=>⟨(ho x hx).1.toLow,(ho x hx).2⟩
 have h5:(a==b)=false:=beq_eq_false_iff_ne.mpr hne;have h6:dS (.str w) (.tup [.str "one",.str "both"])=.ok (.bl false):=by
  rcases hw with rfl|rfl<;>rfl
 have e:cz ⟨a,b,w,l,o⟩=.tup [.str a,.str b,.str w,fr l,fN o]:=rfl;rw[e];open_line with[m_is_tie,y9,h1,h2,B2,h5,h6,h3,h4]
def Cg{zs:bi}:(zs.map D.str).any (λd=>c8 d (.str z))=decide (z∈zs):=by
 induction zs with
 |nil=>rfl
 |cons y zs ih=>
  rw[UG,XJ,ih];show((y==z)||decide (z∈zs))=_
  by_cases h:y=z
  .subst h;simp
  .have:(y==z)=false:=beq_eq_false_iff_ne.mpr h
   rw[this,Bool.false_or];have:z∈y::zs↔z∈zs:=by simp[Vj h]
   exact decide_eq_decide.mpr this.symm
def nN{zs:bi}:(zs.map D.str).all (bC n)=true:=Va.mpr λd hd=>by
 obtain⟨z,_,rfl⟩:=U4.mp hd;cases n<;>rfl
def p8{zs:bi}:oY (.str z) (.lst (zs.map D.str))=.ok (.bl (decide (z∈zs))):=by
 have e:DK (.str z) (.lst (zs.map D.str))=some (decide (z∈zs)):=(if_pos ⟨rfl,nN⟩).trans (congrArg some Cg);unfold oY;rw[e]
def gw{zs:bi}:dS (.str z) (.lst (zs.map D.str))=.ok (.bl (!(decide (z∈zs)))):=by
 have e:DK (.str z) (.lst (zs.map D.str))=some (decide (z∈zs)):=(if_pos ⟨rfl,nN⟩).trans (congrArg some Cg);unfold dS;rw[e]
def qG{zs:bi}(h:nameB z=true)(hz:z∈zs):m_is_place [.str z,.lst (zs.map D.str)]=.ok (.bl true):=by
 open_line with[m_is_place,sV,lp h,p8,decide_eq_true hz]
def mI{α:Type}{F:α->D}{xs:List α}{k:Nat}(h:(numbered 0 (xs.map F))[k]?=some d):∃x,xs[k]?=some x/\d=.tup [.int (k:Int),F x]:=by
 rw[jZ,UK]at h;cases e:xs[k]? with
 |none=>rw[e]at h;cases h
 |some x=>
  rw[e]at h;cases h;exact⟨x,rfl,by simp⟩
def Az{α:Type}{F:α->D}{xs:List α}(h:k<=xs.length):iZ (xs.map F) none (some (k:Int))=(xs.take k).map F:=by
 rw[Ke,HT.sIx_none,HT.sIx_nat,Nat.min_eq_left h,VR,Yo]
def CJ(h2:2<=zs.length)(h7:zs.length<=7)(nm:nB zs):m_look_at_places [.lst (zs.map D.str)]=.ok .non:=by
 obtain⟨ρ',hl,_⟩:=wt (ds:=numbered 0 (zs.map D.str)) (tg:=el [1,2]) (ρ:=[.sh (.lst (zs.map D.str)),.no,.no])
  (body:=(aw (dM (gq (cp (ao (ae (af 2) az) m_is_name)) (ag (af 2) (lO (af 0) dX (dP (af 1))) oY)) (aw dB au) au) au))
  (λk ρ=>∃a b,ρ=[.sh (.lst (zs.map D.str)),a,b]) (by
   rintro k d hd ρ ⟨a,b,rfl⟩;obtain⟨z,hz,rfl⟩:=mI hd;refine⟨_,[.sh (.lst (zs.map D.str)),.sh (.int (k:Int)),.sh (.str z)],FV rfl,?_,_,_,rfl⟩;have hk:k<zs.length:=(Ux.mp hz).1;have hnot:decide (z∈zs.take k)=false:=decide_eq_false λhm=>by
    obtain⟨j,hj⟩:=List.mem_iff_getElem?.mp hm;have hjk:j<k:=by have:=(Ux.mp hj).1;simp at this;omega
    rw[YX hjk]at hj;exact qW nm.nd hj hz (by omega) rfl
   open_line with[lp (nm.nm z (UX hz)),Az (Xu hk),p8,hnot]) ⟨.no,.no,rfl⟩
 have e1:decide ((2:Int)<=(zs.length:Int))=true:=decide_eq_true (by omega);have e2:decide ((zs.length:Int)<=7)=true:=decide_eq_true (by omega);open_line with[m_look_at_places,jL,Us,e1,e2,hl]
def Hv{ts:List wY}(h14:ts.length<=14)(nm:nB zs)(ht:∀t∈ts,pj zs t):m_look_at_ties [.lst (ts.map cz),.lst (zs.map D.str)]=.ok .non:=by
 obtain⟨ρ',hl,_⟩:=wt (ds:=numbered 0 (ts.map cz)) (tg:=el [2,3]) (ρ:=[.sh (.lst (ts.map cz)),.sh (.lst (zs.map D.str)),.no,.no])
  (body:=(aw (dM (gq (cp (ao (ae (af 3) az) m_is_tie)) (gq (ag (ag (af 3) (dC (.int 0)) aO) (af 1) dS) (ag (ag (af 3) (dC (.int 1)) aO) (af 1) dS))) (aw dB au) au) au))
  (λk ρ=>∃a b,ρ=[.sh (.lst (ts.map cz)),.sh (.lst (zs.map D.str)),a,b]) (by
   rintro k d hd ρ ⟨a,b,rfl⟩;obtain⟨t,ht',rfl⟩:=mI hd;refine⟨_,[.sh (.lst (ts.map cz)),.sh (.lst (zs.map D.str)),.sh (.int (k:Int)),.sh (cz t)],FV rfl,?_,_,_,rfl⟩;have hT:=ht t (UX ht');have h1:=Ea nm hT;rw[show cz t=.tup [.str t.a,.str t.b,.str t.w,fr t.l,fN t.o] from rfl]at h1 ⊢;open_line with[h1,gw,decide_eq_true hT.a,decide_eq_true hT.b]) ⟨.no,.no,rfl⟩
 have e1:decide ((14:Int)<(ts.length:Int))=false:=decide_eq_false (by omega);open_line with[m_look_at_ties,k7,Us,e1,decide_eq_false (show ¬(ts.length:Int) > 14 by omega),hl]
def vz(h:cc w):m_look_at_web [aP w]=.ok .non:=by
 obtain⟨ps,ts,fi,la⟩:=w;have h1:=CJ h.n2 h.n7 h.nm;have h2:=Hv h.t14 h.nm h.ts;have h3:=qG (h.nm.nm fi h.fi) h.fi;have h4:=qG (h.nm.nm la h.la) h.la;have h5:(la==fi)=false:=beq_eq_false_iff_ne.mpr (Vj h.ne);rw[show aP ⟨ps,ts,fi,la⟩=.tup [.lst (ps.map D.str),.lst (ts.map cz),.str fi,.str la] from rfl];open_line with[m_look_at_web,lY,h1,h2,h3,h4,B2,h5]
def xU(h:Low x)(h0:0<=x.1):m_look_at_purse [fr x]=.ok .non:=by
 have h1:=iw h;rw[show fr x=.tup [.int x.1,.int x.2] from rfl]at h1 ⊢;open_line with[m_look_at_purse,kz,h1,decide_eq_false (show ¬x.1<0 by omega)]
def eE(ks:bv):D:=.lst (ks.map λ(k:Nat)=>D.int (k:Int))
structure Cj (w:iT) (ks:bv):Prop where
 up:ks.Pairwise (· < ·)
 wo:∀k∈ks,∃t x,w.ts[k]?=some t/\t.o=some x
def Cj.lt(T:Cj w ks):∀k∈ks,k<w.ts.length:=λk hk=>by
 obtain⟨t,x,h1,h2⟩:=T.wo k hk;exact(Ux.mp h1).1
def qo{w:iT}{k:Nat}(h:w.ts[k]?=some t):aO (.lst (w.ts.map cz)) (.int (k:Int))=.ok (cz t):=jh (by rw[UK,h];rfl)
def ye{k:Nat}(h:k<w.ts.length):m_is_tie_number [aP w,.int (k:Int)]=.ok (.bl true):=by
 rw[show aP w=.tup [.lst (w.ps.map D.str),.lst (w.ts.map cz),.str w.fi,.str w.la] from rfl];open_line with[m_is_tie_number,bZ,cy,BK,Us,decide_eq_true (show(0:Int)<=(k:Int) by omega),decide_eq_true (show(k:Int)<(w.ts.length:Int) by omega)]
def Cz(W:cc w)(T:Cj w ks):m_look_at_taking [aP w,eE ks]=.ok .non:=by
 obtain⟨ρ',hl,_⟩:=wt (ds:=ks.map λ(k:Nat)=>D.int (k:Int)) (tg:=bU 3) (ρ:=[.sh (aP w),.sh (eE ks),.sh (.int (-1)),.no])
  (body:=(aw (dM (gq (cp (ao (ae (af 0) (ae (af 3) az)) m_is_tie_number)) (ag (af 3) (af 2) K2))
   (aw dB au) au)
   (aw (dM (ag (ag (ag (ag (af 0) (dC (.int 1)) aO) (af 3) aO) (dC (.int 4)) aO) (dC (.non)) nk)
   (aw dB au) au)
   (aw (bT 2 (af 3)) au))))
  (λj ρ=>∃(ah:Int) (x:Sl),ρ=[.sh (aP w),.sh (eE ks),.sh (.int ah),x]/\∀v∈ks.drop j,ah<(v:Int)) (by
   rintro j d hd ρ ⟨ah,x,rfl,hah⟩;rw[UK]at hd;cases e:ks[j]? with
   |none=>rw[e]at hd;cases hd
   |some k=>
    rw[e]at hd;cases hd;have hj:j<ks.length:=(Ux.mp e).1;have hkm:=UX e;obtain⟨t,y,h1,h2⟩:=T.wo k hkm;have hdr:ks.drop j=k::ks.drop (j+1):=by
     rw[Vk hj]
     congr 1
     rw[Ut hj]at e;exact Vu e
    have hk:ah<(k:Int):=hah k (by rw[hdr];exact UU);refine⟨_,[.sh (aP w),.sh (eE ks),.sh (.int (k:Int)),.sh (.int (k:Int))],rfl,?_,_,_,rfl,λv hv=>?_⟩
    .have hn:=ye (T.lt k hkm)
     have hix:=qo h1;rw[show aP w=.tup [.lst (w.ps.map D.str),.lst (w.ts.map cz),.str w.fi,.str w.la] from rfl]at hn ⊢;rw[show cz t=.tup [.str t.a,.str t.b,.str t.w,fr t.l,fN t.o] from rfl,h2]at hix;open_line with[hn,decide_eq_false (show ¬(k:Int)<=ah by omega),hix,fN,fr,Mw]
    .have hp:(k::ks.drop (j+1)).Pairwise (· < ·):=by rw[←hdr];exact T.up.sublist (List.drop_sublist _ _)
     have:=(List.pairwise_cons.mp hp).1 v hv;omega) ⟨-1,.no,rfl,λv _=>by omega⟩
 have hw:=vz W;unfold eE at hl ⊢;open_line with[m_look_at_taking,jK,hw,hl]
def yt(h1:x.1.natAbs<AR)(h2:x.2.natAbs<AR)(h3:y.1.natAbs<AR)(h4:y.2.natAbs<AR):m_is_less [fr x,fr y]=.ok (.bl (flt x y)):=by
 rw[show fr x=.tup [.int x.1,.int x.2] from rfl,show fr y=.tup [.int y.1,.int y.2] from rfl];open_line with[m_is_less,vd,cA (dQ h1 h4),cA (dQ h3 h2)]
 rfl
def ID:aO (.lst (xs++[x])) (.int (-1))=.ok x:=by
 have e:atI (xs++[x]) (-1)=some x:=by
  unfold atI uK;rw[if_neg (by decide)];have h:(-((xs++[x]).length:Int))<=-1:=by simp;omega
  rw[if_pos h];have e:(-1+((xs++[x]).length:Int)).toNat=xs.length:=by simp;omega
  rw[e];simp
 show(match atI (xs++[x]) (-1) with|some d=>ar.ok d|none=>.stuck)=_;rw[e]
def xq(h1:c (shr ρ)=.ok (.bl true))(h2:s ρ=.ok (.nx ρ2)):cS c s (n+1) ρ=cS c s n ρ2:=by
 conv=>lhs;unfold cS
 rw[h1,h2];rfl
def ug(h1:c (shr ρ)=.ok (.bl false)):cS c s (n+1) ρ=.ok (.nx ρ):=by
 conv=>lhs;unfold cS
 rw[h1];rfl
end Com
namespace DL
open PySem PySem.Spec PyProof.Rows L2
noncomputable def Po(K:Ur) (E:XK) (He η Ha:Hp) (r:ar Fl) (D:kE):Prop:=match r with
 |.ok (.rt (.lst es))=>∀p us H Ha',bI He η H Ha'->He p=none->Ha' p=none->H p=some (.lst us)->Reps K Ha' es us->D.rt (.ref p) H
 |.exn x=>∀C ox H Ha',bI He η H Ha'->zc K Ha' x C ox->E C ox H
 |_=>False
def TX(K:Ur)(E:XK)(He η:Hp)(g:bd):TS:=λD σ H=>∃Ha ρ,fj K He η Ha σ H ρ/\Po K E He η Ha (g ρ) D
structure GQ (X:Cx) (E:XK) (He η:Hp) (st:List V6) (g:bd):Prop where
 o:vm X st (TX X.K E He η g)
section
variable {X:Cx}{E:XK}{He η:Hp}{st:V6}{rest:List V6}{e:Vl}{es:List Vl}{f:am}{fa:Ev->ar (ac)}{s t:bd}{pos:Pos}
def Lx(t:bd)(r:Fl):ar Fl:=match r with
 |.nx ρ=>t ρ
 |_=>.stuck
def uu(s t:bd):bd:=λρ=>(s ρ).bind (Lx t)
def uS(h1:DS X E He η st s)(h2:GQ X E He η rest t):GQ X E He η (st::rest) (uu s t):=by
 refine⟨?_⟩;refine fT (ix h1.o h2.o) λD σ H z9=>?_;obtain⟨Ha,ρ,h,q⟩:=z9;refine⟨Ha,ρ,h,?_⟩
 unfold uu at q;cases e1:s ρ with
 |stuck|exn x=>rw[e1]at q;exact q
 |ok r=>
  rw[e1]at q;cases r with|nx ρ'=>exact λσ' H' Ha' s' h'=>⟨Ha',ρ',h',q⟩|rt d|bk ρ'|ct ρ'=>exact q.elim
end
def L5(r:Fl):ar D:=match r with
 |.rt (.lst es)=>.ok (.lst es)
 |_=>.stuck
def CH(n:Nat)(s:bd)(ds:ac):ar D:=(s (ds.map Sl.sh++UJ (n-ds.length) .no)).bind L5
noncomputable def Pn(K:Ur) (E:XK) (H Ha:Hp) (r:ar D) (Q:VK):Prop:=match r with
 |.ok (.lst es)=>∀p us H' Ha',bI H Ha H' Ha'->H p=none->Ha' p=none->H' p=some (.lst us)->Reps K Ha' es us->Q (.ref p) H'
 |.exn x=>∀C ox H' Ha',bI H Ha H' Ha'->zc K Ha' x C ox->E C ox H'
 |_=>False
def O2(K:Ur)(n:Nat)(m:ac->ar D):Sp:=λvs H Q E=>vs.length=n/\∃Ha ds,aG Ha H/\Reps K Ha ds vs/\Pn K E H Ha (m ds) Q
def Ai{K:Ur}{st:V6}{N ps:bi}(F:DD K x qual st f fd)(S:fv N ps (defScope st))
  (hbody:∀(cdv:Up) (A:Vn) (outer:List VW) (s0:UD) (H Ha:Hp) (E:XK),di k (A.deeper (envOfC qual (defScope st) s0.heap.objs.size f cdv)) ->
   GQ (gk CX0 P w K mg base N qual (defScope st) f cdv A outer s0 H E).nox E H Ha (defBody st) s):FnOk P w K mg base CX0 (k+1) f fd ps (O2 K ps.length (CH N.length s)):=by
 have hpl:ps.length<=N.length:=by have:=congrArg Xm S.pre;rw[VA]at this;omega
 refine F.ok S (λvs H Q E h=>h.1) λcdv A outer s0 H vs Q E hr h=>?_;obtain⟨hn,Ha,ds,hs,hv,q⟩:=h;refine⟨_,(hbody cdv A outer s0 H Ha E hr).o,Ha,ds.map Sl.sh++UJ (N.length-ds.length) .no,?_,?_⟩
 .refine⟨bI.refl hs,kJ hv,λi d e=>?_,λi j d d' hij e=>?_,?_,OX.none nL l4⟩
  .by_cases hi:i<ds.length
   .rw[UQ (by simpa using hi),UK]at e
    cases q:ds[i]? with|none|some d'=>rw[q]at e;cases e
   .rw[UW (by simpa using hi),U5]at e
    split at e<;>cases e
  .by_cases hi:i<ds.length
   .rw[UQ (by simpa using hi),UK]at e
    cases q:ds[i]? with|none|some d'=>rw[q]at e;cases e
   .rw[UW (by simpa using hi),U5]at e
    split at e<;>cases e
  .unfold L2.start
   have:=hv.length;simp only[U0,Us,Vx];omega
 .unfold CH at q
  cases e1:s (ds.map Sl.sh++UJ (N.length-ds.length) .no) with
  |stuck|exn x=>rw[e1]at q;exact q
  |ok r=>
   rw[e1]at q;cases r with
   |rt d=>
    cases d with|lst es=>exact λp us H' Ha' g hp h0 hv' rr=>q p us H' Ha' g hp h0 hv' rr| _=>exact q.elim
   |_=>exact q.elim
section
variable {X:Cx}{E:XK}{He η:Hp}{e:Vl}{es:List Vl}{f:am}{fa:Ev->ar (ac)}{pos:Pos}
def J6{ps:bi}(F:FnOk X.prog X.w X.K X.mg X.base CX k fn fd ps (O2 X.K n m))(hr:di k X.A)(hg:Gl X x)(hm:X.mg x=some (.ref fn))
  (hk:WN X.K (.ref fn)=true)(hb:ia X.K fd ps [])(hx:gW CX X E)(ha:DA X E (e::es) fa)(hn:(e::es).length=n:=by rfl)(hl:∀ρ ds,fa ρ=.ok ds->ds.length=(e::es).length)
  (hdb:(x==("__debug__" : UP))=false:=by decide)(he:Uw (e::es) X.env=(false,eval e X.env)::Uw es X.env:=by exact aT rfl)(hpl:(Vy pos (Uw es X.env)).any (·.1)=false:=by exact bK rfl) :
  DF X E (.Call (.Name x p) (e::es) [] pos) (ao fa m):=by
 refine⟨?_⟩;refine bc (pY F hr hg hm hk hb .nil hx ha.o hdb he hpl) λσ H Q h=>?_;obtain⟨Ha,ρ,hs,hr,q⟩:=h;refine⟨Ha,ρ,hs,hr,?_⟩;unfold ao at q;cases e1:fa ρ with
 |stuck|exn x=>rw[e1]at q;exact q
 |ok ds=>
  rw[e1]at q;intro v H1 H01 g1 r1;refine⟨?_,H01,ds,g1.sub,by simpa using r1,?_⟩
  .have:=r1.length
   have:=hl ρ ds e1;simp only[Vd];omega
  .replace q:match m ds with
    |.ok (.lst ds)=>∀p vs H' Ha',bI H Ha H' Ha'->H p=none->Ha' p=none->H' p=some (.lst vs)->Reps X.K Ha' ds vs->Q (.ref p) H'
    |.ok _=>False
    |.exn x=>∀C ox H' Ha',bI H Ha H' Ha'->zc X.K Ha' x C ox->E C ox H'
    |.stuck=>False:=q
   cases e2:m ds with
   |stuck=>rw[e2]at q;exact q|exn x=>rw[e2]at q;exact λC ox H' Ha' g ex=>q C ox H' Ha' (g1.trans g) ex
   |ok d=>
    rw[e2]at q;cases d with|lst es=>exact λp us H' Ha' g hp h0 hv rr=>q p us H' Ha' (g1.trans g) (g1.s.free hp) h0 hv rr| _=>exact q.elim
end
section
variable {X:Cx}{E:XK}{He η:Hp}{e a b:Vl}{es:List Vl}{f g:am}{fa:Ev->ar (ac)}{pos:Pos}
def Ax(x y:D):ar D:=match x,y with
 |.int i,.int j=>.ok (.int (if j<i then j else i))
 |_,_=>.stuck
def Gs:g9 X E (λxs H Q=>∃i j,xs=[.int i,.int j]/\Q (.int (if j<i then j else i)) H) (m2 Ax):=K4 λx y v u H Ha Q hs r r' q=>by
 cases x with
 |int i=>
  cases y with|int j=>exact⟨i,j,by rw[aB.mp r,aB.mp r'],bW hs q (ri _)⟩| _=>exact q.elim
 |_=>exact q.elim
end
end DL
namespace Cod
open PySem L2 DL Com
def N0:Dn (.int c)=.ok (.int (c.natAbs:Int)):=by
 show ar.ok (D.int (if c<0 then -c else c))=_
 congr 2
 split<;>omega
noncomputable def sZ:bd :=
 (aw (bT 2 (ao (ae (af 0) az) (m1 Dn)))
 (aw (bT 3 (af 1))
 (aw (jT (lu 3) (ag (af 3) (dC (.int 0)) gi)
 (aw (tO 2 3 (ae (af 3) (ae (ag (af 2) (af 3) eD) az)))
 au))
 (aw (bE (ao (ae (ag (af 0) (af 2) sr) (ae (ag (af 1) (af 2) sr) az)) cT))
 au))))
def bg:ac->ar D:=ck 4 sZ
theorem ym{A B:Sl}:∀(n:Nat) (a b:Int),0<=a->0<=b->b.natAbs<n->cS (ag (af 3) (dC (.int 0)) gi) (aw (tO 2 3 (ae (af 3) (ae (ag (af 2) (af 3) eD) az))) au) n [A,B,.sh (.int a),.sh (.int b)]=.ok (.nx [A,B,.sh (.int (Vm a b:Int)),.sh (.int 0)])
 |0,a,b,_,_,h=>absurd h (YC _)
 |n+1,a,b,ha,hb,h=>by
  by_cases h0:b=0
  .subst h0
   have hc:(ag (af 3) (dC (.int 0)) gi) (shr [A,B,.sh (.int a),.sh (.int 0)])=.ok (.bl false):=by
    cases A<;>cases B<;>rfl
   rw[ug hc];have:((Vm a 0:Nat):Int)=a:=by rw[Int.gcd_zero_right];omega
   rw[this]
  .have hc:(ag (af 3) (dC (.int 0)) gi) (shr [A,B,.sh (.int a),.sh (.int b)])=.ok (.bl true):=by
    have:(b==0)=false:=beq_eq_false_iff_ne.mpr h0;cases A<;>cases B<;>open_line with[this]
   have f:=gp (a:=a) (b:=b) (by omega);have hb0:(b==0)=false:=beq_eq_false_iff_ne.mpr h0;rw[xq (ρ2:=[A,B,.sh (.int b),.sh (.int (a.fmod b))]) hc ?_,ym n b (a.fmod b) (by omega) f.1 (by omega)]
   .rw[rB]
   .cases A<;>cases B<;>open_line with[hb0]
def low_ok(hb:0<b)(h1:a.natAbs<vo)(h2:b.natAbs<vo):bg [.int a,.int b]=.ok (fr (lT a b)):=by
 have hg:0<(Vm a b:Int):=qc (by omega);have hgn:(Vm (a.natAbs:Int) b:Int)=(Vm a b:Int):=by
  congr 1
 have hl:=ym (A:=.sh (.int a)) (B:=.sh (.int b)) (b.natAbs+1) (a.natAbs:Int) b (by omega) (by omega) (WT _);rw[hgn]at hl;have hwh:∀(c:am) (s:bd),jT (lu 3) c s [.sh (.int a),.sh (.int b),.sh (.int (a.natAbs:Int)),.sh (.int b)]=cS c s (b.natAbs+1) [.sh (.int a),.sh (.int b),.sh (.int (a.natAbs:Int)),.sh (.int b)]:=λ_ _=>rfl;have d1:(Vm a b:Int)∣a:=Yw ..;have d2:(Vm a b:Int)∣b:=Int.gcd_dvd_right ..;have q1:gZ a (Vm a b:Int)=true:=wH (by omega) h1;have q2:gZ b (Vm a b:Int)=true:=wH (by omega) h2;have e1:a.fdiv (Vm a b:Int)=a / (Vm a b:Int):=mY hg;have e2:b.fdiv (Vm a b:Int)=b / (Vm a b:Int):=mY hg;open_line with[bg,sZ,N0,hwh,hl,wz q1,wz q2,e1,e2]
 rfl
def S(cs:bv):UP:=⟨cs.toArray⟩
def S_inj(h:S a=S b):a=b:=by
 have:=congrArg (λs:UP=>s.cps.toList) h;simpa[S] using this
def Rr(a:bv):(S a).length=a.length:=NN a
structure IsNm (cs:bv):Prop where
 l1:1<=cs.length
 l8:cs.length<=8
 ab:∀x∈cs,oX x=true
def IsNm.nameB(h:IsNm cs):Com.nameB (S cs)=true:=by
 unfold Com.nameB;rw[Rr];simp only[U7,decide_eq_true_eq];exact⟨h.l1,h.l8,Va.mpr λx hx=>h.ab x (by simpa[S] using hx)⟩
def nmsD(css:List (bv)):ac:=css.map λcs=>D.str (S cs)
def srcR1K(d:D):ar (ac):=match d with
 |.int j=>if -4611686018427387904<=j/\j<4611686018427387904 then .ok (intsFrom 0 j.toNat) else .stuck
 |_=>.stuck
def ev_srcR1:jt f ρ=(f ρ).bind srcR1K:=aI rfl
def srcR1_nat{k:Nat}(h:k<=1000000):srcR1K (.int (k:Int))=.ok (intsFrom 0 k):=by
 unfold srcR1K;dsimp only;rw[if_pos ⟨by omega,by omega⟩,XG]
def first(es:List Int)(m:Nat):bv:=(Vv m).map λj=>97+((es[2+j]?).getD 0).toNat
end Cod
namespace DL
open PySem PySem.Spec PyProof.Rows L2
section
variable {prog:Vt}{w:VH}{A:Vn}{E:Up->UD->Prop}{h:UO}{g:Array GenState}{d:Drawn}{t:Nat}{os:OsState}
variable {nm q:UP}{C N:Uy}{bs bm bmB:List Up}{hdct:Bool}{sn:bi}{sub:List Up}{ab:Bool}{col:Option Bool}{dd:Option Uy}{k0 k1 k2 k3 k5:Option Up}{B newId initId:String}{mN:UP->Option Up}{rest:List Up}{fI:Uy}{oI:Obj}
def G5(F:ExcBaseFacts B newId initId bmB)(T:OwnTail h bmB bm)(hC:h.get? C=some (excClassObj nm q C N bs bm hdct sn sub ab col dd k0 k1 k2 k3 k5 newId))(hn:h.Ns N mN)(hi:mN "__init__"=some (.ref fI))(hfI:h.get? fI=some oI)(hfc:oI.cls=.type "function")(hrest:rest.length<=sizeLine)
  (hq:∀h' e,YL h h' e (.ref C) rest->UR (UT prog w) A (call (.ref fI) (.ref e::rest)) (λr s'=>r=.none/\Q (.done (.ret (.ref e))) s') E ⟨h',g,d,t,os⟩):UR (UT prog w) A (Builtin.«type.__call__» ⟨.ref C::rest,[]⟩) Q E ⟨h,g,d,t,os⟩:=by
 repeat (first|with_reducible refine V0 hC ?_|with_reducible refine wpAny_madeBy_exc hC ?_|wp_step)
 refine codeAny_call_builtin_code (WZ _ F.quiet) (wpAny_check_new_subT F T hC (codeAny_exc_new_subT F T hC ?_ hrest));generalize hT0:({ cls:=.type "tuple",data:=.seq rest.toArray }:Obj)=o0;generalize hX0:({ cls:=.ref C,data:=.fields #[.ref h.objs.size,.none,.none,.none,.bool false,.none] }:Obj)=o1;have kp:∀b o,h.get? b=some o->((h.push o0).push o1).get? b=some o:=λb o hb=>Uz o1 (Uz o0 hb);have hget:((h.push o0).push o1).get? (h.objs.size+1)=some o1:=by subst hX0 hT0;heap_get
 have hc1:o1.cls=.ref C:=by subst hX0;rfl
 have hcC:(Ve C::bm).contains (.ref C)=true:=by simp
 show UR _ _ _ _ _ _;unfold isInstance
 repeat (first|(with_reducible refine V0 hget ?_;try rw[hc1])|(with_reducible refine wpAny_isSubtype_exc (kp _ _ hC) ?_;rw[hcC])|wp_step)
 show UR _ _ (WY (.ref C) _) _ _ _;refine wpAny_typeLookup_tail (kp _ _ hC) (hn.keeps kp) (T.keeps kp) F.mroIs F.init.lookup ?_;rw[hi];refine VP (Uv (show UR _ _ (bindSpecial _ _) _ _ _ from ?_));unfold bindSpecial;refine Uv (wpAny_typeOf (T:="function") ⟨_,kp _ _ hfI,hfc⟩ ?_);rw[if_pos (by decide)];refine UY (Uv (VD (hq _ (h.objs.size+1) ⟨kp,Xn (Nat.le_succ _),h.objs.size,by rw[hX0];exact hget,Xn (UC _),?_⟩) (λr s' hr=>?_) λ_ _ x=>x))
 .subst hT0;exact Uz _ (Heap.get?_push_at rfl rfl)
 .obtain⟨rfl,hQ⟩:=hr
  wp_walk
  exact hQ
def G8(F:ExcBaseFacts B newId initId bmB)(T:OwnTail h bmB bm)(hC:h.get? C=some (excClassObj nm q C N bs bm hdct sn sub ab col dd k0 k1 k2 k3 k5 newId))(hn:h.Ns N mN)(hi:mN "__init__"=some (.ref fI))(hfI:h.get? fI=some oI)(hfc:oI.cls=.type "function")(hrest:rest.length<=sizeLine)
  (hq:∀h' e,YL h h' e (.ref C) rest->UR (UT prog w) (A.under (.builtin "type.__call__" ⟨.ref C::rest,[]⟩)) (call (.ref fI) (.ref e::rest)) (λr s'=>r=.none/\Q (.ref e) s') E ⟨h',g,d,t,os⟩):UR (UT prog w) A (call (.ref C) rest) Q E ⟨h,g,d,t,os⟩:=by
 have f1:=tc_lookup;have f2:=tc_bind (.ref C);have hT:(⟨h,g,d,t,os⟩:UD).TypeIs (.ref C) "type":=⟨_,hC,rfl⟩
 refine wpAny_call (codeAny_of_tree (show UR _ _ (callAny (.ref C) _) _ _ _ from ?_))
 repeat (any_goals (first|assumption|with_reducible refine V0 hC ?_|wp_step))
 exact⟨rfl,codeAny_call_builtin_at (WZ _ (by decide +kernel)) entry_typeCall (wpAny_check_type_call_sub hC (G5 F T hC hn hi hfI hfc hrest λh' e hm=>hq h' e hm))⟩
end
section
variable {M:Model}{A:Vn}{E:Up->UD->Prop}{env:VW}
variable {nm q:UP}{C N:Uy}{bs bm:List Up}{hdct:Bool}{sn:bi}{sub:List Up}{ab:Bool}{col:Option Bool}{dd:Option Uy}{k0 k1 k2 k3 k5:Option Up}{newId:String}
def DX(hbase:bm.contains (.type "BaseException")=true)(hh:A.handled=none)
  (h:UR M A x (λv sg=>∃e dc t,v=.ref e/\sg.heap.get? C=some (excClassObj nm q C N bs bm hdct sn sub ab col dd k0 k1 k2 k3 k5 newId)/\sg.heap.get? e=some ⟨.ref C,dc,.fields #[.ref t,.none,.none,.none,.bool false,.none],#[]⟩/\E (.ref e) sg) E s):UR M A (raiseStmt env (some x) none) Q E s:=by
 have hcB:(Ve C::bm).contains (.type "BaseException")=true:=by rw[List.contains_cons,hbase,Bool.or_true]
 unfold raiseStmt;refine Uv (VD h (λv sg ⟨e,dc,t,hv,hC,he,hE⟩=>?_) λ_ _ x=>x);subst hv;obtain⟨hp,g,d,tk,os⟩:=sg
 repeat (first|with_reducible refine V0 he ?_|with_reducible refine V0 hC ?_|(with_reducible refine wpAny_isSubtype_exc hC ?_;rw[hcB])|wp_step)
 exact wpAny_raiseNew_none hh hE
end
def kH:List Up->Bool
 |.ref _::r=>kH r
 |l=>l==[.type "ValueError",.type "Exception",.type "BaseException",.type "object"]
theorem uv(self:Up):∀{l:List Up},kH l=true->refuseLoop self "__setattr__" l=pure ()
 |[],e=>by cases e
 |x::r,e=>by
  cases x with|ref c=>rw[refuseLoop_ref];exact uv self (l:=r) (by unfold kH at e;exact e)| _=>unfold kH at e;rw[beq_iff_eq.mp e];exact PySem.F.store_ValueError.passes self
theorem D4:∀{l:List Up},kH l=true->l.contains (.type "object")=true
 |[],e=>by cases e
 |x::r,e=>by
  cases x with|ref c=>rw[List.contains_cons,D4 (l:=r) (by unfold kH at e;exact e),Bool.or_true]| _=>unfold kH at e;rw[beq_iff_eq.mp e];decide
structure GW (K:Ur) (C:Uy) (ks:bi):Prop where
 sa:WB K (.ref C) "__setattr__"=some (some (.builtin "object.__setattr__"))
 hd:W0 K C=true
 mr:(W.clsIn K C).any (λcd=>kH cd.mro)=true
 no:∀f∈ks,ko K C f
section
variable {prog:Vt}{w:VH}{A:Vn}{K:Ur}{C x:Uy}{s:UD}{R:Zj->UD->Prop}
def G7(X:K.In s.heap)(I:ZC s.heap x ox C od)(c:GW K C ks)(hf:name∈ks)
  (h:∀b,UR (UT prog w) A.in1 (Builtin.ObjectAttr.storeInOwnDict (.ref x) (.ref C) (.str name tk) name v b) (λfin s'=>match fin with|.done f=>R (.ok f) s'|.again c'=>c'.quiet=true/\Wz (UT prog w) A c' R s') (λe s'=>R (.error e) s') s) :
  Wz (UT prog w) A (.call (.builtin "object.__setattr__") ⟨[.ref x,.str name tk,v],[]⟩) R s:=by
 have SF:=PySem.F.store_object;obtain⟨cd,hc,ho⟩:=W.any_some c.mr;have ne:cd.mro.isEmpty=false:=by cases q:cd.mro with|nil=>rw[q]at ho;cases ho|cons _ _=>rfl
 have sub:XS (UT prog w) s.heap (isInstance (.ref x) (.type "object")) true:=I.type.andThen (W.looks_mroIn X (by unfold W.mroIn;rw[hc,Option.bind_some,if_neg (by rw[ne];decide),D4 ho]));refine codeAny_call_builtin SF.slot.plain SF.entry (@W.check_slot (UT prog w) _ _ s "object.__setattr__" "object" "__setattr__" (.ref x) [.str name tk,v] [] _ SF.kind SF.split sub (SF.args (.ref x) (.str name tk) v) ?_);have hm:XS (UT prog w) s.heap (mroOf (.ref C)) cd.mro:=(W.looks_clsIn X hc).andThen .now;rw[W.osa_eq,refuse_eq];refine Uv (Uv (I.type.here (Uv (hm.here ?_))));rw[uv _ ho];refine UY ?_;have L3:XS (UT prog w) s.heap (Builtin.ObjectAttr.storeTaker? none) none:=.now;have L2:XS (UT prog w) s.heap (WY (.ref C) name) none:=W.looks_findIn X (c.no name hf);refine Uv (I.type.here (Uv (L2.here (Uv (L3.here ?_)))));exact h _
def G6{fs:Array Up}(X:K.In s.heap)(hx:s.heap.get? x=some ⟨.ref C,none,.fields fs,#[]⟩)(c:GW K C ks)(hf:name∈ks)
  (h:∀h',h'.get? x=some ⟨.ref C,some s.heap.objs.size,.fields fs,#[]⟩->h'.Ns1 s.heap.objs.size (λy=>if y=name then some v else none)->(∀b o,b≠x->s.heap.get? b=some o->h'.get? b=some o)->Q () { s with heap:=h',toks:=s.toks+2 }) :
  UR (UT prog w) A (setAttr (.ref x) name v) Q E s:=by
 have J:ZC s.heap x ⟨.ref C,none,.fields fs,#[]⟩ C none:=⟨hx,rfl,rfl,trivial⟩
 refine W.set_plain X J c.sa (G7 (s:={ s with toks:=s.toks+1 }) X J c hf λb=>?_);obtain⟨cd,hc,hd'⟩:=W.any_some c.hd;refine Uv (UY (Uv (Uv (wpAny_loadPart hx (Uv (XS.here (s:={ s with toks:=s.toks+1 }) (W.looks_clsIn X hc) ?_))))));rw[hd'];have hx₁:(s.heap.push XZ).get? x=some ⟨.ref C,none,.fields fs,#[]⟩:=Uz _ hx;have hxs:x≠s.heap.objs.size:=U2 (UN hx);have hgd:((s.heap.push XZ).update x λo=>{ o with dict:=some s.heap.objs.size }).get? s.heap.objs.size=some XZ:=(ZT _ _ _ _ hxs.symm).trans (Heap.get?_push_at rfl rfl);have hnd:((s.heap.push XZ).update x λo=>{ o with dict:=some s.heap.objs.size }).Ns s.heap.objs.size (λ_=>none):=⟨_,#[],_,hgd,rfl,λe he=>absurd he (by simp),λ_=>rfl⟩
 have hx2:((s.heap.push XZ).update x λo=>{ o with dict:=some s.heap.objs.size }).get? x=some ⟨.ref C,some s.heap.objs.size,.fields fs,#[]⟩:=V9 _ hx₁ rfl;refine Uv (wpAny_alloc' (Uv (wpAny_update' hx₁ (UY ?_))));refine Uv (UY (Uv (wpAny_nsSet1 (Heap.Ns1.of_empty hnd) λh' hn' hs=>?_)));obtain⟨oD,esD,epD,hoD,hdD,hcD⟩:=hn'.count (Xs.cons name v Xs.nil);refine Uv (wpAny_lookBehind hoD (by rw[hdD];exact pastItsLine_dict (U8 hcD (by rw[UZ,Xp,sizeLine_eq];omega))) (UY (h h' ?_ hn' λb o hb e=>?_)))
 .exact(hs.2 x hxs).trans hx2
 .exact(hs.2 b (U2 (UN e))).trans ((ZT _ _ _ _ hb).trans (Uz _ e))
end
def tJ(a C:Uy)(dc:Option Uy)(h:UO):Prop:=∃t,h.get? a=some ⟨.ref C,dc,.fields #[.ref t,.none,.none,.none,.bool false,.none],#[]⟩
def Dz(a:Uy)(fs:List (UP×V))(h:UO):Prop:=∃mA,h.Ns1 a mA/\(∀f,DC (fs.lookup f) (mA f))/\Xs mA (fs.map (·.1))
def rE{a C:Uy}{dc:Option Uy}:∀h1 h2:UO,tJ a C dc h1->(∀o,h1.get? a=some o->h2.get? a=some o)->tJ a C dc h2:=λ_ _ ⟨t,e⟩ k=>⟨t,k _ e⟩
def D0{a:Uy}{fs:List (UP×V)}:∀h1 h2:UO,Dz a fs h1->(∀o,h1.get? a=some o->h2.get? a=some o)->Dz a fs h2:=λ_ _ ⟨m,n,r⟩ k=>⟨m,n.at k,r⟩
def Cs{fs:List (UP×V)}{h:UO}(x:Dz a fs h):∃o,h.get? a=some o:=let ⟨_,⟨o,_,_,e,_⟩,_⟩:=x;⟨o,e⟩
def Hc{fs:List (UP×V)}{h:UO}{mA:UP->Option Up}(ry:b3 y u)(r:∀f,DC (fs.lookup f) (mA f))(wi:Xs mA (fs.map (·.1)))(n:h.Ns1 a (λz=>if z=f then some u else mA z)):Dz a (nO f y fs) h:=by
 refine⟨_,n,λg=>?_,λg hg=>?_⟩
 .rw[oP]
  by_cases q:g=f
  .rw[if_pos q];simp only[if_pos q];exact ry
  .rw[if_neg q];simp only[if_neg q];exact r g
 .by_cases q:g=f
  .rw[q];exact(nX f y fs).1
  .exact(nX f y fs).2 g (wi g λz=>hg (by simp only[if_neg q];exact z))
section
variable {X:Cx}{o value:Vl}{f:UP}{pos pos':Pos}{ta tv:TE}
def T7(K:Ur)(ta tv:TE)(f:UP):TS:=λD σ H=>tv σ H λy H1=>ta σ H1 λx H2=>∃a C ks,x=.ref a/\H2 a=some (.ext (tJ a C none))/\GW K C ks/\f∈ks/\∀dx,H2 dx=none->D.nx σ (upd (upd H2 a (.ext (tJ a C (some dx)))) dx (.ext (Dz dx [(f,y)])))
def Pm(ha:PE X o ta)(hv:PE X value tv)(hs:VG value (some (.Attribute o f pos')) pos.line X.env=pure false):PS X (.Assign [.Attribute o f pos'] value pos) (T7 X.K ta tv f):=by
 intro π s σ H D I h;refine plainObj_wpAny_Assign_Attribute (dz (hv π s σ H _ I h) λu s1 ⟨y,H1,I1,ry,q⟩=>dz (ha π s1 σ H1 _ I1 q) λov s2 z9=>?_) hs;obtain⟨x,H2,I2,rx,a,C,ks,ex,ea,c,hf,q2⟩:=z9;subst ex;obtain rfl:ov=Ve a:=rx;obtain⟨⟨t,hx⟩,_,_⟩:=(show c7 X.prog X.w H2 s2.heap a (.ext _) from I2.hok a _ ea)
 have fr:H2 s2.heap.objs.size=none:=I2.hok.fresh (UC _);have hne:s2.heap.objs.size≠a:=λz=>WE _ (z▸UN hx);refine G6 I2.kIn hx c hf λh' e' n' k'=>⟨σ,_,?_,q2 s2.heap.objs.size fr⟩
 have p:Dz s2.heap.objs.size [(f,y)] h':=Hc (fs:=[]) (mA:=λ_=>none) ry (λ_=>Xc) (λ_ z=>absurd rfl z) n';have mu:OC (H2 a):=by rw[ea];exact Xc
 have fr':(upd H2 a (.ext (tJ a C (some s2.heap.objs.size)))) s2.heap.objs.size=none:=by rw[aA hne];exact fr
 exact I2.un (Un.ext (Un.write mu (.inl rfl) (λb q hb z=>k' b q hb z) ⟨_,e'⟩) fr' (Xn (UC _))) (ig.ext (I2.hok.write (o':=.ext (tJ a C (some s2.heap.objs.size))) mu (.inl rfl) (λb q hb z=>k' b q hb z) ⟨_,e'⟩ ⟨⟨t,e'⟩,⟨_,e'⟩,rE⟩) fr' p (Cs p) D0)
end
def ON(is:bv):TA:=λσ H Q=>∃vs,is.map (λi=>σ[i]?)=vs.map (λv=>some (some v))/\Q vs H
structure PV (X:Cx) (es:List Vl) (is:bv):Prop where
 o:PA X es (ON is)
section
variable {X:Cx}
def EI:PV X [] []:=⟨λpos π s σ H Q I ⟨vs,e,h⟩=>by
 cases vs with
 |nil=>exact fU pos π s σ H Q I h
 |cons v vs=>simp at e⟩
def vJ(hN:X.N[i]?=some y)(hv:zj X.env.scope y)(h:PV X es is)(hd:(y==("__debug__" : UP))=false:=by decide)(hcd:(y==("__classdict__" : UP))=false:=by decide):PV X (.Name y p::es) (i::is) :=
 ⟨λpos π s σ H Q I ⟨vs,e,q⟩=>by
  cases vs with
  |nil=>simp at e
  |cons v vs=>
   simp only[UG,List.cons.injEq]at e;exact dj (iy hN hv hd hcd) h.o (aT rfl) pos π s σ H Q I ⟨v,e.1,vs,e.2,q⟩⟩
structure GF (K:Ur) (CE:Uy):Prop where
 rd:W.readsIn K CE (.type "type")=true
 fc:W.findCls K (.ref CE) (.type "type") "__init__"=some (.val (.builtin "ValueError.__init__"))
 sp:Yx K (.ref CE) "__getattribute__"=some (some (.builtin "type.__getattribute__"))
structure Kp (K:Ur) (C fn:Uy):Prop where
 ex:∃CE nm q N bs hdct sn sub ab col dd k0 k1 k2 k3 k5,K.lookup C=some (excClassObj nm q C N bs [.ref CE,.type "ValueError",.type "Exception",.type "BaseException",.type "object"] hdct sn sub ab col dd k0 k1 k2 k3 k5 "ValueError.__new__")/\W.nsOkIn K N=true/\VC K N "__init__"=some (some (.ref fn)) /\
  Zh K CE [.type "ValueError",.type "Exception",.type "BaseException",.type "object"] "ValueError.__new__"=true
def Ij{K:Ur}{h:UO}(X:K.In h)(G:h.Ns N mg)(e:VC K N n=some (some v)):mg n=some v:=by
 obtain⟨o,es,ep,ho,hd,_,hf⟩:=G;unfold VC at e;split at e
 .rename_i c d es' n' sl q
  have:=X _ _ q;rw[ho]at this;cases this;cases hd;split at e
  .rename_i en he
   rw[←hf];unfold nsFind findBy;rw[←Array.find?_toList,he];simpa using e
  .split at e<;>cases e
 .cases e
structure SW (h:UO) (C fn:Uy):Prop where
 ex:∃bm N nm q bs hdct sn sub ab col dd k0 k1 k2 k3 k5 mN,h.get? C=some (excClassObj nm q C N bs bm hdct sn sub ab col dd k0 k1 k2 k3 k5 "ValueError.__new__")/\h.Ns N mN/\mN "__init__"=some (.ref fn)/\OwnTail h [.type "ValueError",.type "Exception",.type "BaseException",.type "object"] bm
def Eb{K:Ur}{CE:Uy}{h:UO}(X:K.In h)(q:Zh K CE [.type "ValueError",.type "Exception",.type "BaseException",.type "object"] "ValueError.__new__"=true):OwnTail h [.type "ValueError",.type "Exception",.type "BaseException",.type "object"] [.ref CE,.type "ValueError",.type "Exception",.type "BaseException",.type "object"]:=by
 unfold Zh at q;split at q
 .rename_i dd cd sl ho
  split at q
  .simp only[U7,beq_iff_eq,Bool.not_eq_true']at q
   obtain⟨⟨⟨⟨_,_⟩,_⟩,hok⟩,hni⟩:=q;exact .own (X _ _ ho) (.of_isNs (Zg X hok)) (W.nsMap_none_of_in X hok hni) .base
  .cases q
 .cases q
def AU{K:Ur}{h:UO}(X:K.In h)(q:Kp K C fn):SW h C fn:=by
 obtain⟨CE,nm,qn,N,bs,hdct,sn,sub,ab,col,dd,k0,k1,k2,k3,k5,ho,hok,hi,he⟩:=q.ex;exact⟨_,N,nm,qn,bs,hdct,sn,sub,ab,col,dd,k0,k1,k2,k3,k5,_,X _ _ ho,.of_isNs (Zg X hok),Ij X (.of_isNs (Zg X hok)) hi,Eb X he⟩
def T6(K:Ur)(t:TA):TE:=λσ H Q=>t σ H λvs H1=>∃a C rest fn,vs=.ref a::rest/\rest.length<=line/\H1 a=some (.ext (tJ a C none))/\Kp K C fn/\Q .non (upd H1 a (.ext (tJ a C none)))
def Pt{CE:Uy}{pl:Sem Bool}(b:GF X.K CE)(hg:Gl X ce)(hm:X.mg ce=some (.ref CE))(ha:PA X (e::es) t)(hdb:(ce==("__debug__" : UP))=false:=by decide)
  (he:Uw (e::es) X.env=(false,eval e X.env)::Uw es X.env:=by exact aT rfl)(hpl:(Vy cpos (Uw es X.env)).any (·.1)=false:=by exact bK rfl)
  (ht:eval (.Call (.Attribute (.Name ce np) "__init__" apos) (e::es) [] cpos) X.env=(do
   let ov ←eval (.Name ce np) X.env
   standAt apos.atName
   let (f,first) ←WK [ov] (getMethod ov "__init__" pl)
   callWith cpos f first (Vy cpos (Uw (e::es) X.env)) (XO cpos (WM [] X.env))):=by rfl) :
  PE X (.Call (.Attribute (.Name ce np) "__init__" apos) (e::es) [] cpos) (T6 X.K t):=by
 intro π s σ H Q I h;refine W.methodCall_KW (pl:=pl) (j9 I hg hm (W.method_cls I.kIn b.sp (W.cls_value I.kIn b.rd b.fc rfl ?_)) hdb) ht;have I0:=I.tok (s.toks+1);have hA:=ha cpos π _ σ H _ I0 h;rw[he]at hA ⊢;refine XW (by show(false||(Vy cpos (Uw es X.env)).any (·.1))=false;rw[hpl];rfl) (X4 (dz hA λus s1 ⟨vs,H1,I1,r,a,C,rest,fn,ev,hl,ea,hx,q⟩=>?_));subst ev;obtain⟨_,us',rfl,ra,r'⟩:∃u us',us=u::us'/\b3 (.ref a) u/\bz rest us':=by cases r with|cons r1 r2=>exact⟨_,_,rfl,r1,r2⟩
 obtain rfl:_=Ve a:=ra;obtain⟨bm,N,nm,qn,bs,hdct,sn,sub,ab,col,dd,k0,k1,k2,k3,k5,mN,hC,hn,hi,T⟩:=(AU I1.kIn hx).ex;obtain⟨⟨t0,hae⟩,_,_⟩:=(show c7 X.prog X.w H1 s1.heap a (.ext _) from I1.hok a _ ea)
 have F:=Xv;have hz:us'.length<=sizeLine:=by rw[←r'.length];exact eg hl
 obtain⟨hp,g,d,tk,os⟩:=s1;refine wpAny_call (codeAny_call_builtin F.init.plain F.initEntry (wpAny_check_init_subT F T hC hae rfl ?_))
 wp_walk
 have mu:OC (H1 a):=by rw[ea];exact Xc
 have hne:a≠hp.objs.size:=U2 (UN hae);refine⟨.non,upd H1 a (.ext (tJ a C none)),I1.write (o:=.ext (tJ a C none)) (x:=a) (e:=a) mu (.inl rfl) (λb u hb e=>(V4 _ _ (Vj hb)).trans (Uz _ e)) ⟨_,V9 _ (Uz _ hae) rfl⟩ ⟨⟨hp.objs.size,?_⟩,⟨_,V9 _ (Uz _ hae) rfl⟩,rE⟩,rfl,q⟩;rw[V9 _ (Uz _ hae) rfl];rfl
end
section
variable {X:Cx}
noncomputable def TR(K:Ur) (fs:bi) (is:bv):TS:=λD σ H=>∃a C dx l ks vs,σ[0]?=some (some (V.ref a))/\H a=some (.ext (tJ a C (some dx)))/\H dx=some (.ext (Dz dx l))/\dx≠a/\GW K C ks/\(∀f∈fs,f∈ks)/\l.length+fs.length<1000/\fs.length=vs.length /\
 is.map (λi=>σ[i]?)=vs.map (λv=>some (some v))/\D.nx σ (upd H dx (.ext (Dz dx (putAll fs vs l))))
structure XR (X:Cx) (sts:List V6) (fs:bi) (is:bv):Prop where
 o:vm X sts (TR X.K fs is)
def DV:XR X [] [] []:=⟨fT pV λD σ H ⟨a,C,dx,l,ks,vs,h1,h2,h3,h4,h5,h6,h7,h8,h9,q⟩=>by
 cases vs with
 |nil=>unfold putAll at q;rw[xt h3]at q;exact q
 |cons v vs=>simp at h8⟩
noncomputable def TU(K:Ur) (ks:bi) (is:bv):TS:=λD σ H=>∃a C fn vs,σ[0]?=some (some (V.ref a))/\H a=some (.ext (tJ a C none))/\GW K C ks/\Kp K C fn/\ks.length=vs.length/\ks.length<=60 /\
 is.map (λi=>σ[i]?)=vs.map (λv=>some (some v))/\∀dx,H dx=none->D.nx σ (upd (upd H a (.ext (tJ a C (some dx)))) dx (.ext (Dz dx (putAll ks vs []))))
structure XB (X:Cx) (sts:List V6) (ks:bi) (is:bv):Prop where
 o:vm X sts (TU X.K ks is)
def Kv{fs:bi}{CE:Uy}{pl:Sem Bool}(b:GF X.K CE)(hg:Gl X ce)(hm:X.mg ce=some (.ref CE))(hpv:PV X es (i::is))(hN:X.N[i]?=some y)(hN0:X.N[0]?=some x)(hv:zj X.env.scope y)(hv0:zj X.env.scope x)(h:XR X sts fs is)
  (hd:(y==("__debug__" : UP))=false:=by decide)(hcd:(y==("__classdict__" : UP))=false:=by decide)(hd0:(x==("__debug__" : UP))=false:=by decide)(hcd0:(x==("__classdict__" : UP))=false:=by decide)(hdb:(ce==("__debug__" : UP))=false:=by decide)
  (hs:VG (.Name y p3) (some (.Attribute (.Name x p1) f p2)) pos.line X.env=pure false:=by rfl)(hs0:VG (.Call (.Attribute (.Name ce np) "__init__" apos) (.Name x sp0::es) [] cpos) none spos.line X.env=pure false:=by rfl)(hpl:(Vy cpos (Uw es X.env)).any (·.1)=false:=by exact bK rfl)
  (ht:eval (.Call (.Attribute (.Name ce np) "__init__" apos) (.Name x sp0::es) [] cpos) X.env=(do
   let ov ←eval (.Name ce np) X.env
   standAt apos.atName
   let (f,first) ←WK [ov] (getMethod ov "__init__" pl)
   callWith cpos f first (Vy cpos (Uw (.Name x sp0::es) X.env)) (XO cpos (WM [] X.env))):=by rfl) :
  XB X (.Expr (.Call (.Attribute (.Name ce np) "__init__" apos) (.Name x sp0::es) [] cpos) spos::.Assign [.Attribute (.Name x p1) f p2] (.Name y p3) pos::sts) (f::fs) (i::is):=by
 refine⟨fT (ix (pW (Pt b hg hm (vJ (p:=sp0) hN0 hv0 hpv hd0 hcd0).o hdb (aT rfl) hpl ht) hs0) (ix (Pm (iy hN0 hv0 hd0 hcd0) (iy hN hv hd hcd) hs) h.o)) λD σ H ⟨a,C,fn,vs,h1,h2,h3,h4,h5,h6,h7,q⟩=>?_⟩;refine⟨.ref a::vs,(show σ[0]?::(i::is).map (λi=>σ[i]?)=some (some (V.ref a))::vs.map (λv=>some (some v)) by rw[h1,h7]),a,C,vs,fn,rfl,?_,h2,h4,?_⟩
 .have:vs.length<=60:=by omega
  exact U8 this (by decide)
 .cases vs with
  |nil=>simp at h5
  |cons v vs=>
   simp only[UG,List.cons.injEq]at h7;simp only[UZ]at h5 h6;rw[xt h2];refine⟨v,h7.1,.ref a,h1,a,C,f::fs,rfl,h2,h3,UU,λdx hdx=>?_⟩;have hne:dx≠a:=λz=>by subst z;rw[h2]at hdx;cases hdx
   refine⟨a,C,dx,[(f,v)],f::fs,vs,h1,?_,aE,hne,h3,λg hg=>UH _ hg,?_,by omega,h7.2,?_⟩
   .rw[aA hne.symm,aE]
   .simp only[UZ,Xp];omega
   .rw[uq]
    have:=q dx hdx;unfold putAll at this;exact this
end
noncomputable def Em(K:Ur) (ks:bi):Sp:=λvs H Q _=>∃a C fn args,vs=.ref a::args/\args.length=ks.length/\H a=some (.ext (tJ a C none))/\GW K C ks/\Kp K C fn/\∀dx,H dx=none->Q .non (upd (upd H a (.ext (tJ a C (some dx)))) dx (.ext (Dz dx (putAll ks args []))))
def KR{K:Ur}{st:V6}{ps:bi}(F:DD K x qual st f fd)(S:fv ps ps (defScope st))(hps:ps.length=ks.length+1)(hf:ks.length<=60)
  (hbody:∀(cdv:Up) (A:Vn) (outer:List VW) (s0:UD) (H:Hp) (E:XK),XB (gk CX0 P w K mg base ps qual (defScope st) f cdv A outer s0 H E).nox (defBody st) ks ((Vv ks.length).map (· + 1))):FnOk P w K mg base CX0 1 f fd ps (Em K ks):=by
 refine F.ok S (λvs H Q E h=>?_) λcdv A outer s0 H vs Q E hr h=>?_
 .obtain⟨a,C,fn,args,rfl,hl,_⟩:=h
  simp[hl,hps]
 .obtain⟨a,C,fn,args,rfl,hl,hH,hC,hn,q⟩:=h
  refine⟨_,(hbody cdv A outer s0 H E).o,a,C,fn,args,?_,hH,hC,hn,hl.symm,hf,?_,q⟩
  .unfold L2.start;simp
  .unfold L2.start
   apply List.ext_getElem?;intro i;simp only[UK,VQ]
   by_cases hi:i<ks.length
   .have hia:i<args.length:=by omega
    simp[hi,hia,UQ,VI]
   .have hia:¬i<args.length:=by omega
    simp[hi,hia]
section
variable {prog:Vt}{w:VH}{A:Vn}{E:Up->UD->Prop}{s:UD}{env:VW}
variable {nm q:UP}{C N:Uy}{bs bm bmB:List Up}{hdct:Bool}{sn:bi}{sub:List Up}{ab:Bool}{col:Option Bool}{dd:Option Uy}{k0 k1 k2 k3 k5:Option Up}{B newId initId:String}{mN:UP->Option Up}{fI:Uy}{oI:Obj}
def DY(F:ExcBaseFacts B newId initId bmB)(hbase:bm.contains (.type "BaseException")=true)(hh:A.handled=none)(hplain:(Vy cpos (Uw args env)).any (·.1)=false)(hi:mN "__init__"=some (.ref fI))
  (h:UR (UT prog w) A (eval (.Name x np) env) (λf sg=>f=.ref C/\UR (UT prog w) A (evalArgs (.ref C) true (Vy cpos (Uw args env)) []) (λa si=>a.kw=[]/\a.pos.length<=sizeLine/\si.heap.get? C=some (excClassObj nm q C N bs bm hdct sn sub ab col dd k0 k1 k2 k3 k5 newId)/\si.heap.Ns N mN/\OwnTail si.heap bmB bm/\si.heap.get? fI=some oI/\oI.cls=.type "function" /\
    ∀h' e,YL si.heap h' e (.ref C) a.pos->UR (UT prog w) (A.under (.builtin "type.__call__" ⟨.ref C::a.pos,[]⟩)) (call (.ref fI) (.ref e::a.pos)) (λr s'=>r=.none/\s'.heap.get? C=some (excClassObj nm q C N bs bm hdct sn sub ab col dd k0 k1 k2 k3 k5 newId)/\(∃dc t,s'.heap.get? e=some ⟨.ref C,dc,.fields #[.ref t,.none,.none,.none,.bool false,.none],#[]⟩)/\E (.ref e) s') E { si with heap:=h' }) E sg) E s) :
  UR (UT prog w) A (exec (.Raise (some (.Call (.Name x np) args [] cpos)) none pos) env) Q E s:=by
 rw[arm_exec_Raise];refine Uv (wpAny_standAt (DX (C:=C) (nm:=nm) (q:=q) (N:=N) (bs:=bs) (bm:=bm) (hdct:=hdct) (sn:=sn) (sub:=sub) (ab:=ab) (col:=col) (dd:=dd) (k0:=k0) (k1:=k1) (k2:=k2) (k3:=k3) (k5:=k5) (newId:=newId) hbase hh (Uv (VD (wpAny_Call_ofName (VD h (λf sg hU=>?_) λ_ _ x=>x)) (λv sj hZ=>Uv (wpAny_standAt (UY hZ))) λ_ _ x=>x))));obtain⟨rfl,hU⟩:=hU;unfold callWith;refine Uv (VP (VD hU (λ⟨apos,akw⟩ si ⟨hkw,hlen,hC,hn,T,hf,hfc,hV⟩=>Uv (wpAny_standAt ?_)) λ_ _ x=>x));obtain rfl:akw=[]:=hkw;obtain⟨hp,g,d,tk,os⟩:=si;simp only[hplain];refine Uv (wpAny_keeperOf_exc hC (Uv (G8 F T hC hn hi hf hfc hlen λh' e hm=>VD (hV h' e hm) (λr s' hr=>?_) λ_ _ z=>z)));obtain⟨rfl,hC',⟨dc,t,he⟩,hE⟩:=hr;exact⟨rfl,Uv (VP (wpAny_point (UY ⟨e,dc,t,rfl,hC',he,hE⟩)))⟩
end
structure vh (K:Ur) (x:UP) (C:Uy):Prop where
 i:jo K x C
 cls:WB K (.ref C) "__class__"=some (some (.builtin "object.__class__"))
 ga:WB K (.ref C) "__getattribute__"=some (some (.builtin "BaseException.__getattribute__"))
 gt:WB K (.ref C) "__getattr__"=some none
 t1:Xf K (.ref C) (.type "NoneType")=some false
 t2:Xf K (.ref C) (.type "bool")=some false
 t3:Xf K (.ref C) (.type "int")=some false
 t4:Xf K (.ref C) (.type "str")=some false
 t5:Xf K (.ref C) (.type "tuple")=some false
 t6:Xf K (.ref C) (.type "list")=some false
 t7:Xf K (.ref C) (.type "dict")=some false
 ve:Xf K (.ref C) (.type "ValueError")=some true
 self:Xf K (.ref C) (.ref C)=some true
def vh.xc{K:Ur}(Z:vh K x C):XC K x C :=
 ⟨Z.i.ns,⟨Z.cls,Z.ga,Z.gt,Z.i.ob,Z.i.be⟩,λT hT=>by
  refine z9 (yo T hT) ?_;simp only[iR,UI,Vq,or_false]at hT;rcases hT with rfl|rfl|rfl|rfl|rfl|rfl|rfl
  all_goals first|exact Z.t1|exact Z.t2|exact Z.t3|exact Z.t4|exact Z.t5|exact Z.t6|exact Z.t7⟩
def DU{K:Ur}(z:Kp K C fn)(sa:WB K (.ref C) "__setattr__"=some (some (.builtin "object.__setattr__")))(hd:W0 K C=true)(no:∀f∈ks,ko K C f):GW K C ks:=by
 obtain⟨CE,nm,qn,N,bs,hdct,sn,sub,ab,col,dd,k0,k1,k2,k3,k5,ho,_⟩:=z.ex;refine⟨sa,hd,?_,no⟩;unfold W.clsIn;rw[ho];rfl
section
variable {P:Vt}{w:VH}{K:Ur}{mg:UP->Option Up}{base:UO}{N:bi}{qual:UP}{scope:X8}{f:Uy}{cd:Up}{A:Vn}{outer:List VW}{s0:UD}{H0:Hp}{E:XK}{He η:Hp}
def FF{h:UO}(ok:ig P w (upd (upd H e o1) dx o2) h)(he:H e=none)(hd:H dx=none)(n1:∀b,o1≠.own b)(n2:∀b,o2≠.own b)(m1:∀b,o1≠.tup b)(m2:∀b,o2≠.tup b):ig P w H h:=λa o q=>by
 have a1:a≠e:=λz=>by subst z;rw[he]at q;cases q
 have a2:a≠dx:=λz=>by subst z;rw[hd]at q;cases q
 refine(ok a o (by rw[aA a2,aA a1];exact q)).stay (λb u _ z=>z) (λb z=>?_) λb xs z=>?_
 .by_cases b2:b=dx
  .subst b2;rw[aE]at z;exact absurd (Vu z) (n2 _)
  .rw[aA b2]at z
   by_cases b1:b=e
   .subst b1;rw[aE]at z;exact absurd (Vu z) (n1 _)
   .rw[aA b1]at z;exact z
 .by_cases b2:b=dx
  .subst b2;rw[aE]at z;exact absurd (Vu z) (m2 _)
  .rw[aA b2]at z
   by_cases b1:b=e
   .subst b1;rw[aE]at z;exact absurd (Vu z) (m1 _)
   .rw[aA b1]at z;exact z
def DB{fs:List Uy}{h h2:UO}(u:Un fs [] H H2 h h2):Un fs [] H H h h2:=⟨u.keep,u.slot,λ_ _ _ n _=>n,u.there,λ_ _ q=>q,λ_ _ _ q=>q,λ_ ps q=>⟨#[],by rw[q];simp⟩⟩
end
def E9(e:Zd):Bool:=match e.key with
 |.str _ _=>true
 |_=>false
def vx{K:Ur}{C CE fn N:Uy}{nm q:UP}{bs sub:List Up}{k0 k1 k2 k3 k5:Option Up}{st:Array (Option Up)}
  (xl:K.lookup C=some (excClassObj nm q C N bs [.ref CE,.type "ValueError",.type "Exception",.type "BaseException",.type "object"] hdct sn sub ab col dd k0 k1 k2 k3 k5 "ValueError.__new__"))(xn:K.lookup N=some ⟨cn,dn,.dict es ep,st⟩)(xk:es.toList.all E9=true)(xv:VC K N "__init__"=some (some (.ref fn)))
  (xb:Zh K CE [.type "ValueError",.type "Exception",.type "BaseException",.type "object"] "ValueError.__new__"=true):Kp K C fn:=by
 refine⟨CE,nm,q,N,bs,hdct,sn,sub,ab,col,dd,k0,k1,k2,k3,k5,xl,?_,xv,xb⟩;unfold W.nsOkIn;rw[xn];rw[Array.all_toList]at xk;exact xk
theorem yC{α β:Type}{f g:α->Option β}:∀{l:List α},(∀x∈l,f x=g x)->l.filterMap f=l.filterMap g
 |[],_=>rfl
 |a::l,h=>by
  rw[V5,V5,h a UU,yC λx hx=>h x (UH _ hx)]
def ES(its:List Up):slicePick its.toArray none none (some (-1))=its.reverse.toArray:=by
 have h1:(sliceBounds none none (some (-1)) its.toArray.size)=((its.length:Int)-1,-1,-1):=by
  unfold sliceBounds;simp
 unfold slicePick;rw[h1]
 congr 1
 unfold sliceRange;simp only[show ¬((-1:Int) > 0) by decide,if_false];have hc:((if(its.length:Int)-1 > -1 then((its.length:Int)-1 - -1 - -1-1) / (- -1) else 0)).toNat=its.length:=by
  rw[show(- -1:Int)=1 from rfl,Int.ediv_one];split<;>omega
 rw[hc];rw[Yf];have hall:∀k∈Vv its.length,((λx=>its.toArray[x]?)∘λ(k:Nat)=>((its.length:Int)-1 + -1*(k:Int)).toNat) k=its.reverse[k]?:=λk hk=>by
  have hk:=W9.mp hk;show its.toArray[((its.length:Int)-1 + -1*(k:Int)).toNat]?=_;rw[List.getElem?_reverse hk,show((its.length:Int)-1 + -1*(k:Int)).toNat=its.length-1-k by omega];simp
 rw[yC hall];have hr:(Vv its.length).filterMap (λk=>its.reverse[k]?)=its.reverse:=by
  have hh:=ZP (as:=its);generalize its.reverse=r at hh ⊢;rw[←hh];clear hh hall hc h1
  induction r with
  |nil=>rfl
  |cons a r ih=>
   rw[UZ,XT,V5];simp only[Wt,Yf]
   congr 1
 exact hr
def NL(x:D):ar D:=match x with
 |.lst ds=>.ok (.lst ds.reverse)
 |_=>.stuck
theorem Reps.rev{K:Ur}:∀{ds:ac}{vs:al},Reps K H ds vs->Reps K H ds.reverse vs.reverse
 |[],vs,h=>by rw[Reps.nil_iff.mp h];exact Reps.nil
 |d::ds,vs,h=>by
  obtain⟨v,r,rfl,h1,h2⟩:=aH.mp h;rw[XD,XD];exact(Reps.rev h2).app (Reps.cons h1 Reps.nil)
theorem bz.rev:∀{vs:al}{us:List Up},bz vs us->bz vs.reverse us.reverse
 |_,_,.nil=>.nil
 |_,_,.cons h t=>by rw[XD,XD];exact(bz.rev t).append (.cons h .nil)
section
variable {X:Cx}{E:XK}{e a st:Vl}{f:am}{te:TE}{pos p2:Pos}
def R8(K:Ur)(te:TE):TE:=λσ H Q=>te σ H λx H1=>∃a xs,x=.ref a/\fM K H1 a xs/\∀p,H1 p=none->Q (.ref p) (upd H1 p (.lst xs.reverse))
def LU(he:PE X e te)(hst:∀(π:List (Uy×Obj)) (s:UD) (σ:L2.St) (H:Hp) (Q:VK),Inv X π σ H s->Q (.int (-1)) H->UR (UT X.prog X.w) X.A (eval st X.env) (EP X π σ Q) X.xe s):PE X (.Subscript e (.Slice none none (some st) p2) pos) (R8 X.K te):=by
 intro π s σ H Q I h;refine Subscript_ (dz (he π s σ H _ I h) λv s1 ⟨x,H1,I1,r1,a,xs,ex,hx,q⟩=>?_);subst ex;cases r1;refine wpAny_Slice (wpAny_evalPart_none (wpAny_evalPart_none ?_));show UR _ _ (eval st X.env) _ _ _;refine dz (hst π s1 σ H1 (λv H2=>v=.int (-1)/\H2=H1) I1 ⟨rfl,rfl⟩) λvs s3 ⟨u,H3,I3,pu,eu,eh⟩=>?_;subst eu eh;obtain⟨t,rfl⟩:=pu;have I4:Inv X π σ H3 { s3 with heap:=s3.heap.push { cls:=.type "slice",data:=.fields #[.none,.none,.int (-1) t] } }:=I3.kept (t':=s3.toks) λb ob q=>Uz _ q;obtain⟨its,r,ht,hz⟩:=I4.list hx;have hg:UR (UT X.prog X.w) X.A (getItem (.ref a) (.ref s3.heap.objs.size)) (EP X π σ Q) X.xe { s3 with heap:=s3.heap.push { cls:=.type "slice",data:=.fields #[.none,.none,.int (-1) t] } }:=by
  refine wpAny_getItem_list_slice ht.isList (Heap.IsSliceOf.new ..) .none .none (.int (-1) t) (by simp) ?_ (by rw[UM,←r.length];exact hz);rw[ES];refine⟨.ref _,_,I4.laid (t':=s3.toks) (o:=.lst xs.reverse) (λb ob q=>Uz _ q) (UC _) ?_,rfl,q _ (I4.hok.fresh (UC _))⟩;exact⟨by rw[ZP];exact hz,_,0,bz.rev r,Vr _ rfl⟩
 exact tail_any (ops:=[.ref a,.ref s3.heap.objs.size]) ht.isList.typeIs slot_list_getitem.lookup hg (by with_unfolding_all rfl)
def NI(ha:DE X E a f):DE X E (.Subscript a (.Slice none none (some (.UnaryOp .USub (.Constant (.int 1) k p3) p4)) p2) pos) (aY f NL):=by
 refine⟨bc (LU ha.o λπ s σ H Q I q=>KI (pos:=p4) D6 (EY (i:=1) (j:=k) (pos:=p3)) π s σ H Q I ⟨1,rfl,q⟩) λσ H Q z9=>?_⟩;obtain⟨Ha,ρ,hs,hr,q⟩:=z9;refine⟨Ha,ρ,hs,hr,?_⟩;unfold aY at q;cases e1:f ρ with
 |stuck|exn x=>rw[e1]at q;exact q
 |ok d=>
  rw[e1]at q;intro v H1 H01 g1 r1;cases d with
  |lst ds=>
   obtain⟨p,vs,rfl,h1,h2⟩:=aJ.mp r1;exact⟨p,vs,rfl,aG.sqL g1.sub h1,λn hn=>q _ _ _ (g1.trans (aR g1.sub hn)) (aJ.mpr ⟨n,_,rfl,fM.of aE,(Reps.rev h2).mono (aR g1.sub hn).z⟩)⟩
  |_=>exact q.elim
end
def pL(f:am)(lo hi:Ev->ar (Option Int)):am:=λρ=>(f ρ).bind λx=>(lo ρ).bind λl=>(hi ρ).bind λh=>match x with
 |.lst ds=>.ok (.lst (iZ ds l h))
 |_=>.stuck
section
variable {X:Cx}{E:XK}{a:Vl}{f:am}{pos p2:Pos}
def yO{lo hi:Option Vl}(ha:DE X E a f)(hl:DO X E lo fl)(hh:DO X E hi fh):DF X E (.Subscript a (.Slice lo hi none p2) pos) (pL f fl fh):=by
 refine⟨bc (xW A6 ha.o hl.o hh.o) λσ H Q z9=>?_⟩;obtain⟨Ha,ρ,hs,hr,q⟩:=z9;refine⟨Ha,ρ,hs,hr,?_⟩;unfold pL at q;cases e1:f ρ with
 |stuck|exn x=>rw[e1]at q;exact q
 |ok x=>
  rw[e1]at q;intro v H1 H01 g1 r1;refine⟨H01,ρ,g1.sub,hr.mono g1.z,?_⟩;simp only[ar.bind]at q;cases e2:fl ρ with
  |stuck=>rw[e2]at q;exact q|exn x=>rw[e2]at q;exact λC ox H' Ha' g' ex=>q C ox H' Ha' (g1.trans g') ex
  |ok l=>
   rw[e2]at q;intro H2 H02 g2;refine⟨H02,ρ,g2.sub,(hr.mono g1.z).mono g2.z,?_⟩;simp only[ar.bind]at q;cases e3:fh ρ with
   |stuck=>rw[e3]at q;exact q|exn x=>rw[e3]at q;exact λC ox H' Ha' g' ex=>q C ox H' Ha' ((g1.trans g2).trans g') ex
   |ok h=>
    rw[e3]at q;intro H3 H03 g3;simp only[ar.bind]at q;have g:=(g1.trans g2).trans g3;cases x with
    |lst ds=>
     simp only at q;obtain⟨b,vs,rfl,h1,h2⟩:=aJ.mp ((r1.mono g2.z).mono g3.z);refine⟨b,vs,rfl,aG.sqL g3.sub h1,λp hp=>?_⟩;have h0:H03 p=none:=g3.sub.free hp;refine q p _ _ H03 (g.trans ⟨λb o q=>by rw[aA (bo q hp)];exact q,aG.refl _,λb o q=>?_,λa h1 h2=>absurd h2 h1⟩) (g.s.free hp) h0 aE (h2.cut l h);rw[aA (by intro z;subst z;rw[h0]at q;cases q)];exact g3.sub _ _ q
    |_=>exact q.elim
end
def fR(x:UP)(ks:bi)(fa:Ev->ar (ac)):bd:=λρ=>(fa (shr ρ)).bind λds=>if ds.length=ks.length then .exn ⟨x,ks.zip ds⟩ else .stuck
theorem wZ{K:Ur}{H:Hp}:∀{ks:bi}{ds:ac}{vs:al}{n:UP}{d:D},Reps K H ds vs->(ks.zip ds).lookup n=some d->∃v,(ks.zip vs).lookup n=some v/\Rep K H d v
 |[],ds,vs,n,d,r,h=>by rw[List.zip_nil_left]at h;cases h
 |k::ks,[],vs,n,d,r,h=>by rw[List.zip_nil_right]at h;cases h
 |k::ks,e::ds,vs,n,d,r,h=>by
  obtain⟨v,vs',rfl,r1,r2⟩:=aH.mp r;rw[VJ,VX]at h;rw[VJ];cases q:n==k with
  |true=>rw[q]at h;cases h;exact⟨v,by rw[VX,q],r1⟩
  |false=>
   rw[q]at h;obtain⟨u,h1,h2⟩:=wZ r2 h;exact⟨u,by rw[VX,q];exact h1,h2⟩
def ig.xd(ok:ig P w H g){fs:List (UP×V)}(hn:H a=none)(p:Dz a fs g):ig P w (upd H a (.xd fs)) g:=λb u e=>by
 by_cases hb:b=a
 .subst hb;rw[aE]at e;cases e;obtain⟨m,n,r,_⟩:=p;exact⟨m,n,r⟩
 .rw[aA hb]at e
  exact(ok b u e).stay (λc v _ q=>q) (λc q=>by rw[aA (bo q hn)];exact q) λc xs q=>by rw[aA (bo q hn)];exact q
section
variable {P:Vt}{w:VH}{K:Ur}{mg:UP->Option Up}{base:UO}{N:bi}{qual:UP}{scope:X8}{f:Uy}{cd:Up}{A:Vn}{outer:List VW}{s0:UD}{H0:Hp}{E:XK}{He η:Hp}
def iq{ps ks:bi}(xc:XC K x C)(z:Kp K C fn)(st:GW K C ks)(hfn:W.isFn K (.ref fn)=true)(F:FnOk P w K mg base CX0 k fn fd ps (Em K ks))(hb:ia K fd ps [])(hks:ks.length<=60)(hnd:ks.Nodup)(hr:di (k+1) (gk (lI P w) P w K mg base N qual scope f cd A outer s0 H0 E).A)(hm:mg x=some (.ref C))(hh:A.handled=none)
  (hg:Gl (gk (lI P w) P w K mg base N qual scope f cd A outer s0 H0 E) x)(ha:DA (gk (lI P w) P w K mg base N qual scope f cd A outer s0 H0 E) E (e::es) fa)
  (hdb:(x==("__debug__" : UP))=false:=by decide)(he:Uw (e::es) (gk (lI P w) P w K mg base N qual scope f cd A outer s0 H0 E).env=(false,eval e (gk (lI P w) P w K mg base N qual scope f cd A outer s0 H0 E).env)::Uw es (gk (lI P w) P w K mg base N qual scope f cd A outer s0 H0 E).env:=by exact aT rfl)
  (hpl:(Vy cpos (Uw es (gk (lI P w) P w K mg base N qual scope f cd A outer s0 H0 E).env)).any (·.1)=false:=by exact bK rfl) :
  DS (gk (lI P w) P w K mg base N qual scope f cd A outer s0 H0 E) E He η (.Raise (some (.Call (.Name x np) (e::es) [] cpos)) none pos) (fR x ks fa):=by
 refine⟨?_⟩;intro π s σ H D I ⟨Ha,ρ,hr',q⟩;obtain⟨bm,Nn,nm,qn,bs,hdct,sn,sub,ab,col,dd,k0,k1,k2,k3,k5,mN,hC,hN,hi,T⟩:=(AU I.ok.mod.kin z).ex;obtain⟨oI,hoI,hoc⟩:∃oI,base.get? fn=some oI/\oI.cls=.type "function":=by
  have:=beq_iff_eq.mp hfn;obtain⟨o,ho,hc⟩:=Option.map_eq_some_iff.mp this;exact⟨o,I.ok.mod.kin _ _ ho,hc⟩
 refine DY (C:=C) (nm:=nm) (q:=qn) (N:=Nn) (bs:=bs) (bm:=bm) (hdct:=hdct) (sn:=sn) (sub:=sub) (ab:=ab) (col:=col) (dd:=dd) (k0:=k0) (k1:=k1) (k2:=k2) (k3:=k3) (k5:=k5)
  Xv (mN:=mN) (oI:=oI) (T.hasType Xv.hasBase) hh (by rw[he];show(false||(Vy cpos (Uw es (gk (lI P w) P w K mg base N qual scope f cd A outer s0 H0 E).env)).any (·.1))=false;rw[hpl];rfl) hi (j9 I hg hm ⟨rfl,?_⟩ hdb)
 have hq:ux K E H (frz He Ha H) (fa (shr ρ)) (λvs H1=>vs.length=ks.length/\∀dx,H1 dx=none->E (.ref C) (some dx) (upd H1 dx (.xd (ks.zip vs)))):=by
  unfold fR at q;cases e1:fa (shr ρ) with
  |stuck=>rw[e1]at q;exact q|exn z=>rw[e1]at q;exact λC ox H' Ha' g ex=>q C ox H' Ha' (hr'.frz_grow.trans g) ex
  |ok ds=>
   rw[e1]at q;intro vs H1 H01 g rp;have q:cG K E He η Ha (if ds.length=ks.length then ar.exn ⟨x,ks.zip ds⟩ else .stuck) D:=q
   by_cases hl:ds.length=ks.length
   .rw[if_pos hl]at q
    refine⟨by rw[←rp.length];exact hl,λdx hdx=>?_⟩;have ga:=aR (o:=.xd (ks.zip vs)) g.sub hdx;refine q (.ref C) (some dx) _ _ (hr'.frz_grow.trans (g.trans ga)) ⟨⟨C,rfl,xc⟩,ks.zip vs,aE,λn d hn=>?_⟩;obtain⟨v,k1,k2⟩:=wZ rp hn;exact⟨v,k1,k2.mono ga.z⟩
   .rw[if_neg hl]at q;exact q.elim
 have h1:=ha.o cpos π s σ H _ I ⟨frz He Ha H,shr ρ,hr'.frz_le,hr'.looks,hq⟩;rw[he]at h1 ⊢;refine X4 (VD h1 (λus s2 h2=>?_) λ_ _ y=>y);obtain⟨vs,H1,I1,rv,hl,hE⟩:=h2;have hz:us.length<=sizeLine:=by rw[←rv.length,hl,sizeLine_eq];omega
 refine⟨rfl,hz,I1.bk _ _ hC,hN.keeps I1.bk,T.keeps I1.bk,I1.bk _ _ hoI,hoc,λh' ee hx=>?_⟩;have hn:H1 ee=none:=by
  cases q:H1 ee with|none=>rfl|some o=>obtain⟨u,hu⟩:=c7.there (I1.hok ee o q);rw[hx.new]at hu;cases hu
 obtain⟨t,ht,_,_⟩:=hx.there;have hxn:tJ ee C none h':=⟨t,ht⟩
 have un1:Un (iY (gk (lI P w) P w K mg base N qual scope f cd A outer s0 H0 E).stack) [] H1 (upd H1 ee (.ext (tJ ee C none))) s2.heap h':=Un.ext (Un.kept hx.keeps) hn hx.new;have I2:Inv (gk (lI P w) P w K mg base N qual scope f cd A outer s0 H0 E) π σ (upd H1 ee (.ext (tJ ee C none))) { s2 with heap:=h' } :=
  I1.call' (ch:=[]) rfl un1 (ig.ext (I1.hok.kept hx.keeps) hn hxn ⟨_,ht⟩ rE) I1.bare (λ_ z=>nomatch z)
 have rv2:bz (V.ref ee::vs) (Ve ee::us):=.cons rfl rv;have hsp:Em K ks (V.ref ee::vs) (upd H1 ee (.ext (tJ ee C none))) (λv H2=>v=.non/\∃dx,H1 dx=none/\dx≠ee/\H2=upd (upd (upd H1 ee (.ext (tJ ee C none))) ee (.ext (tJ ee C (some dx)))) dx (.ext (Dz dx (putAll ks vs [])))) E :=
  ⟨ee,C,fn,vs,rfl,hl,aE,st,z,λdx hdx=>by
   have c:dx≠ee:=λc=>by rw[c,aE]at hdx;cases hdx
   rw[aA c]at hdx;exact⟨rfl,dx,hdx,c,rfl⟩⟩
 have hl2:(Ve ee::us).length=ps.length:=by rw[←rv2.length];exact F.len _ _ _ _ hsp
 have hbb:=hb { s2 with heap:=h' } (Ve ee::us) I2.kIn (by simpa using hl2);rw[Vd]at hbb;refine wpAny_call (codeAny_mono (F.run _ _ { s2 with heap:=h' } _ ⟨Ve ee::us,[]⟩ (Ve ee::us) _ _ E (hr.make C us []) (I2.env0.make C us []) hbb rv2 hsp) λr s3 hq3=>?_);cases r with
 |error e=>exact VN hq3
 |ok fl=>
  cases fl with
  |next|brk|cont=>exact VN hq3
  |ret u=>
   obtain⟨v,H2,os3,bare3,un3,hok3,rel3,rfl,dx,hdx,hdne,rfl⟩:=hq3;obtain rfl:u=VT:=rel3;rw[uq]at hok3 un3;have un4:=DB (un1.trans un3);have hok4:ig P w H1 s3.heap:=FF hok3 hn hdx (λ_ z=>by cases z) (λ_ z=>by cases z) (λ_ z=>by cases z) (λ_ z=>by cases z);obtain⟨⟨t3,ht3⟩,_,_⟩:=(show c7 P w _ s3.heap ee (.ext (tJ ee C (some dx))) from hok3 ee _ (by rw[aA hdne.symm,aE]))
   have I3:=I1.call' (ch:=[]) os3 un4 hok4 bare3 (λ_ z=>nomatch z);refine⟨rfl,I3.bk _ _ hC,⟨_,t3,ht3⟩,?_⟩;have hin:=IK (l:=envOfC qual scope s0.heap.objs.size f cd::outer);have hfr:s3.heap.FunFrames (Y4 s3.heap (ee::iY (envOfC qual scope s0.heap.objs.size f cd::outer))) (envOfC qual scope s0.heap.objs.size f cd::outer):=W.funFrames_hide I3.stack λenv he a hf=>UH _ (hin env he a hf);have hst:(Y4 s3.heap (ee::iY (envOfC qual scope s0.heap.objs.size f cd::outer))).StaysIn s3.heap:=λb o q=>W.of_hideAll _ q;have hen:(Y4 s3.heap (ee::iY (envOfC qual scope s0.heap.objs.size f cd::outer))).get? ee=none:=W.hideAll_none _ (.head _);obtain⟨pX,_,_⟩:=(show c7 P w _ s3.heap dx (.ext (Dz dx (putAll ks vs []))) from hok3 dx _ aE)
   rw[qE hnd (λ_ _ z=>by simp at z) hl.symm,Wl]at pX;have hok5:=ig.xd hok4 hdx pX;have dfresh:s2.heap.get? dx=none:=by
    cases qd:s2.heap.get? dx with
    |none=>rfl
    |some o=>
     have:=un3.free dx o (hx.keeps dx o qd) (by rw[aA hdne];exact hdx) (by simp);rw[aE]at this;cases this
   have un5:=Un.ext (o:=.xd (ks.zip vs)) un4 hdx dfresh;refine Al (a0:=.ref t3) I3.ok.frames hfr rfl ht3 hst hen rfl rfl rfl λh4 fl4 up4 dc4=>?_;refine KU rfl I1 (s1:=s3) (H1:=upd H1 dx (.xd (ks.zip vs))) os3 bare3 un5 hok5 (by rw[aA hdne.symm];exact hn) hst hfr (λb hb hy=>?_) fl4 up4 ⟨some dx,⟨some dx,dc4,.inr rfl⟩,hE dx hdx⟩;have hbe:b≠ee:=λc=>by
    subst c;rcases hy with hy|⟨o,hy⟩
    .exact hy (by rw[aA hdne.symm];exact hn)
    .rw[hx.new]at hy;cases hy
   have hth:∃o,s3.heap.get? b=some o:=by
    rcases hy with hy|⟨o,hy⟩
    .cases q:(upd H1 dx (.xd (ks.zip vs))) b with
     |none=>exact absurd q hy
     |some o=>exact c7.there (hok5 b o q)
    .exact un4.there b o hy (by simp)
   obtain⟨o,q⟩:=hth;exact⟨o,W.hideAll_get _ q (List.not_mem_cons_of_ne_of_not_mem hbe hb)⟩
end
end DL
namespace DL
open PySem PySem.Spec PySem.Calls PySem.W PyProof.Rows Builtin Builtin.ObjectAttr Builtin.Getset_descriptor
section
variable {prog:Vt}{w:VH}{A:Vn}{E:Up->UD->Prop}{h:UO}{g:Array GenState}{d:Drawn}{t:Nat}{os:OsState}{a C:Uy}{o:Obj}{od:Option Obj}{K:Frag}{name:UP}{v:Up}
def DZ(X:K.In h)(J:InstAt h a o C od)(hf:findObj K C od name=some (.value v))(hq:Q (.done (.ret v)) ⟨h,g,d,t,os⟩) :
  UR (UT prog w) A (Builtin.«object.__getattribute__» ⟨[.ref a,.str name tk],[]⟩) Q E ⟨h,g,d,t,os⟩:=by
 have L0:=J.type (M:=UT prog w);have L1:=looks_find (M:=UT prog w) X J hf;unfold Builtin.«object.__getattribute__»
 repeat (any_goals (first|assumption|(with_reducible refine L0.at ?_)|(with_reducible refine L1.at ?_)|wp_step))
def G9(X:K.In h)(Z:nF K C)(J:InstAt h a o C od)(hx:h.get? a=some o)(hc:o.cls=.ref C)(hf:findObj K C od name=some (.value v))(hq:R (.ok (.ret v)) ⟨h,g,d,t,os⟩) :
  Wz (UT prog w) A (.call (.builtin "BaseException.__getattribute__") ⟨[.ref a,.str name tk],[]⟩) R ⟨h,g,d,t,os⟩ :=
 codeAny_call_builtin XH.ga.plain F.entry_bexc_ga (xp X Z hx hc (DZ X J hf hq))
def OE(X:K.In h)(Z:nF K C)(J:InstAt h a o C od)(hx:h.get? a=some o)(hc:o.cls=.ref C)(hf:findObj K C od name=some (.value v))(hh:handedIn v=true)(hq:Q v ⟨h,g,d,t,os⟩) :
  UR (UT prog w) A (getAttrBy (.ref a) (.str name tk) b ex) Q E ⟨h,g,d,t,os⟩:=by
 have f3:=XH.ga.bind (.ref a);have hx2:(Wr "BaseException.__getattribute__"==Wr "object.__getattribute__")=false:=by decide +kernel
 have hx1:(onTheHeap (Ve C)&&Wr "BaseException.__getattribute__"==Wr "object.__getattribute__")=false:=by rw[hx2];rfl
 have L1:Looks (UT prog w) h (WY (.ref C) "__getattribute__") (some (.builtin "BaseException.__getattribute__")):=looks_findIn X Z.ga;have L2:Looks (UT prog w) h (WY (.ref C) "__getattr__") none:=looks_findIn X Z.gt;have hho:=handedOut_of hh
 repeat (any_goals (first|assumption|(with_reducible refine V0 hx ?_;rw[hc])|(with_reducible refine L1.at ?_)|(with_reducible refine L2.at ?_)|wp_step))
 rw[if_neg (by cases ex<;>decide)]
 repeat (any_goals (first|assumption|wp_step))
 refine G9 X Z J hx hc hf ?_
 repeat (any_goals (first|assumption|wp_step))
def Le(X:K.In h)(Z:nF K C)(J:InstAt h a o C od)(hx:h.get? a=some o)(hc:o.cls=.ref C)(hf:findObj K C od name=some (.value v))(hh:handedIn v=true)(hq:Q v ⟨h,g,d,t+1,os⟩) :
  UR (UT prog w) A (getAttr (.ref a) name ex) Q E ⟨h,g,d,t,os⟩:=by
 unfold getAttr
 repeat (any_goals (first|assumption|with_reducible apply OE X Z J hx hc hf hh|wp_step))
end
end DL
namespace DL
open PySem PySem.Spec PyProof.Rows L2
def K9(K:Ur)(tab:UP->Option Bool)(f:UP):Prop:=∀c C b,tab c=some b->XC K c C->W0 K C=true/\ko K C f
def oZ(tab:UP->Option Bool)(f:UP)(x:D):ar D:=match x with
 |.ob (.exf c ks) ds=>(match tab c,tT f ks ds with
  |some _,some d=>.ok d
  |_,_=>.stuck)
 |_=>.stuck
theorem DN:∀{ks:bi}{vs:al}{f:UP}{u:V},(ks.zip vs).lookup f=some u->∃i:Nat,ks[i]?=some f/\vs[i]?=some u
 |[],vs,f,u,h=>by rw[List.zip_nil_left]at h;cases h
 |k::ks,[],f,u,h=>by rw[List.zip_nil_right]at h;cases h
 |k::ks,v::vs,f,u,h=>by
  rw[VJ,VX]at h;cases q:f==k with
  |true=>rw[q]at h;cases h;exact⟨0,by rw[beq_iff_eq.mp q];rfl,rfl⟩
  |false=>
   rw[q]at h;obtain⟨i,h1,h2⟩:=DN h;exact⟨i+1,h1,h2⟩
section
variable {X:Cx}{E:XK}{e:Vl}{fe:am}{pos:Pos}{f:UP}{ta:TE}{tab:UP->Option Bool}
def OR(K:Ur)(ta:TE)(f:UP):TE:=λσ H Q=>ta σ H λx H1=>∃a C dx fs v,x=.ref a/\Rd H1 a (.ext (tK a C (some dx)))/\H1 dx=some (.xd fs)/\nF K C/\W0 K C=true/\ko K C f/\fs.lookup f=some v/\Q v H1
def HY(he:PE X e ta)(hb:Wf e f X.env (eval e X.env)=eval e X.env):PE X (.Attribute e f pos) (OR X.K ta f):=by
 intro π s σ H Q I h;refine Km hb (dz (he π s σ H _ I h) λu s1 z9=>?_);obtain⟨x,H1,I1,rx,a,C,dx,fs,v,ex,ea,ed,Z,hd,n,l,q⟩:=z9;subst ex;obtain rfl:u=Ve a:=rx;obtain⟨⟨o,vs,ho,hcl,hda,hdi⟩,_,_⟩:=ea.ok I1.hok;obtain⟨mA,hn,r⟩:=(show c7 X.prog X.w H1 s1.heap dx (.xd fs) from I1.hok dx _ ed)
 obtain⟨u',hu,ru⟩:=wW (v:=v) (o:=mA f) (by rw[←l];exact r f);obtain⟨od,hod,hl⟩:=uI hn;have J:ZC s1.heap a o C (some od):=⟨ho,hcl,by unfold W.notCls;rw[hda],by rw[hdi];exact hod⟩
 have I2:=I1.tok (s1.toks+1);have K1:=I1.kIn;obtain⟨hh,g,d,t,os⟩:=s1;exact Le K1 Z J ho hcl (W.findObj_own hd n rfl (by show Zz f od=_;rw[hl,hu])) (C6 ru) ⟨v,H1,I2,ru,q⟩
def B6(ht:K9 X.K tab f)(he:DE X E e fe)(hb:Wf e f X.env (eval e X.env)=eval e X.env:=by rfl):DE X E (.Attribute e f pos) (aY fe (oZ tab f)):=by
 refine⟨bc (HY he.o hb) λσ H Q z9=>?_⟩;obtain⟨Ha,ρ,hs,hr,q⟩:=z9;refine⟨Ha,ρ,hs,hr,?_⟩;unfold aY at q;cases e1:fe ρ with
 |stuck|exn x=>rw[e1]at q;exact q
 |ok d=>
  rw[e1]at q;intro v H1 H01 g1 r1;replace q:post X.K E H Ha (oZ tab f d) Q:=q;unfold oZ at q;cases d with
  |ob k ds=>
   cases k with
   |exf c ks=>
    replace q:post X.K E H Ha (match tab c,tT f ks ds with|some _,some d=>ar.ok d|_,_=>.stuck) Q:=q;cases e2:tab c with
    |none=>rw[e2]at q;exact q.elim
    |some b=>
     cases e3:tT f ks ds with
     |none=>rw[e2,e3]at q;exact q.elim
     |some d=>
      rw[e2,e3]at q;obtain⟨p,vs,rfl,⟨C,dx,fs,h1,h2,h3,h4,h5⟩,h6⟩:=fD.mp r1;obtain⟨u,k1,k2,k3⟩:=BU h4 h6 e3;obtain⟨i,i1,i2⟩:=DN k1;obtain⟨m1,m2⟩:=ht c C b e2 h1;exact⟨p,C,dx,fs,u,rfl,aG.rd g1.sub h2,g1.sub _ _ h3,h1.ek,m1,m2,h5 i f u i1 i2,q u H1 H01 g1 k2⟩
   |_=>exact q.elim
  |_=>exact q.elim
end
def TF{α:Type}{us:List α}(h:us.length=1):∃a,us=[a]:=List.length_eq_one_iff.mp h
def RN{α:Type}{us:List α}(h:us.length=2):∃a b,us=[a,b]:=by
 cases us with|nil=>cases h|cons a us=>obtain⟨b,rfl⟩:=TF (Yn h);exact⟨a,b,rfl⟩
def TC{α:Type}{us:List α}(h:us.length=3):∃a b c,us=[a,b,c]:=by
 cases us with|nil=>cases h|cons a us=>obtain⟨b,c,rfl⟩:=RN (Yn h);exact⟨a,b,c,rfl⟩
def Tz{α:Type}{us:List α}(h:us.length=4):∃a b c d,us=[a,b,c,d]:=by
 cases us with|nil=>cases h|cons a us=>obtain⟨b,c,d,rfl⟩:=TC (Yn h);exact⟨a,b,c,d,rfl⟩
def Ub{α:Type}{us:List α}(h:us.length=5):∃a b c d e,us=[a,b,c,d,e]:=by
 cases us with|nil=>cases h|cons a us=>obtain⟨b,c,d,e,rfl⟩:=Tz (Yn h);exact⟨a,b,c,d,e,rfl⟩
end DL
namespace Com
open PySem L2 DL
def Qo:wu ⟨c,[(f,d)]⟩=.ob (.exf c [f]) [d]:=by
 show(if([f]:bi).Nodup then D.ob (.exf c [f]) [d] else .exc c)=_;rw[if_pos (by simp)]
def IM{sh:bd}(h:hit x.cls=true):Ht hit ni sh ρ (.exn x)=(sh (ρ.set ni (.sh (wu x)))).bind (E3 ni):=if_pos h
def lD(h:tab c=some b):lP tab (.ob (.exf c ks) ds)=.ok (.bl b):=by unfold lP;simp only[h]
def Bb(x:UP)(ks:bi)(ds:ac):ar Fl:=if ds.length=ks.length then .exn ⟨x,ks.zip ds⟩ else .stuck
def dm:fR x ks fa ρ=(fa (shr ρ)).bind (Bb x ks):=aI rfl
def cQ:Bb x [f] [d]=.exn ⟨x,[(f,d)]⟩:=if_pos rfl
def FX(h:tab c=some b):oZ tab f (.ob (.exf c [f]) [d])=.ok d:=by
 unfold oZ;simp only[h];rw[show tT f [f] [d]=some d by unfold tT;rw[if_pos rfl]]
end Com
namespace DL
open PySem PySem.Spec PyProof.Rows
def lV:entryFor table "dict.update.loop"=some Builtin.«dict.update.loop»:=entryFor_of_tree (by kernel_rfl)
end DL
namespace DL
open PySem PySem.Spec PyProof.Rows L2
def Dd(a:Uy)(H:Hp):Hp:=λb=>if b=a then none else H b
def gQ(h:b≠a):Dd a H b=H b:=if_neg h
def eO:Dd a H a=none:=if_pos rfl
structure ir (K:Ur) (He η Ha:Hp) (σ:L2.St) (H:Hp) (ρ:Ev) (a:Uy) (st:ac) (vs:al):Prop where
 ha:He a=none
 h0:η a=none
 hl:H a=some (.lst vs)
 r:Reps K Ha st vs
 s:fj K (upd He a (.lst vs)) η Ha σ H ρ
def OX.he{K:Ur}(hn:∀b,He b=Yz->He' b=Yz)(h:OX K He Ha σ H ρ):OX K He' Ha σ H ρ:=⟨λi j ds e=>by
 obtain⟨a,P,h1,⟨vs,r1,r2,r3,r4,r5⟩,h2⟩:=h.1 i j ds e;exact⟨a,P,h1,⟨vs,hn _ r1,r2,r3,λk ok=>let ⟨es,us,q1,q⟩:=r4 k ok;⟨es,us,hn _ q1,q⟩,r5⟩,h2⟩,h.2⟩
section
variable {K:Ur}{He η Ha H:Hp}{σ:L2.St}{ρ:Ev}{a:Uy}{st st':ac}{vs us:al}
def ir.n0(h:ir K He η Ha σ H ρ a st vs):Ha a=none:=by
 cases q:Ha a with
 |none=>rfl
 |some o=>
  have:=h.s.g.nw a (by rw[q];simp) h.h0;rw[aE]at this;cases this
def ir.back(h:ir K He η Ha σ H ρ a st vs)(z:aG Ha Ha')(s':fj K (upd He a (.lst vs)) η Ha' σ' H' ρ'):ir K He η Ha' σ' H' ρ' a st vs :=
 ⟨h.ha,h.h0,s'.g.s _ _ aE,h.r.mono z,s'⟩
def ir.change(h:ir K He η Ha σ H ρ a st vs)(g:bI (Dd a H) Ha H' Ha')(n:Ha' a=none)(hl:H' a=some (.lst us))(r:Reps K Ha' st' us):ir K He η Ha' σ H' ρ a st' us:=by
 have hne:∀b,upd He a (.lst us) b=none->b≠a/\He b=none:=λb e=>by
  by_cases c:b=a
  .subst c;rw[aE]at e;cases e
  .rw[aA c]at e;exact⟨c,e⟩
 have hnn:∀b,upd He a (.lst vs) b=none->upd He a (.lst us) b=none:=λb e=>by
  by_cases c:b=a
  .subst c;rw[aE]at e;cases e
  .rw[aA c]at e ⊢;exact e
 have gone:∀b o,b≠a->H b=some o->H' b=some o:=λb o c e=>g.s _ _ (by rw[gQ c];exact e);have n':∀b,Ha b=none->(∃o,H b=some o/\b≠a)->Ha' b=none:=λb e ⟨o,e1,c⟩=>by
  cases q:Ha' b with
  |none=>rfl
  |some u=>
   have:=g.nw b (by rw[q];simp) e;rw[gQ c,e1]at this;cases this
 refine⟨h.ha,h.h0,hl,r,⟨⟨λb o e=>?_,h.s.g.z.trans g.z,g.sub,λb h1 h2=>?_⟩,h.s.rd.mono g.z,λi d e=>?_,h.s.ap,h.s.ln,(h.s.ex.he hnn).upd (λj s e=>.inl ⟨e,rfl⟩) g.z (λb ws hb e=>gone b _ (hne b hb).1 e) λp ws hp q0 hq _=>⟨gone p _ (hne p hp).1 hq,n' p q0 ⟨_,hq,(hne p hp).1⟩⟩⟩⟩
 .by_cases c:b=a
  .subst c;rw[aE]at e;cases e;exact hl
  .rw[aA c]at e
   exact gone b o c (h.s.g.s _ _ (by rw[aA c];exact e))
 .by_cases c:b=a
  .subst c;exact absurd n h1
  .rw[aA c]
   cases q:Ha b with
   |some u=>
    have:=h.s.g.nw b (by rw[q];simp) h2;rw[aA c]at this;exact this
   |none=>
    have:=g.nw b h1 q;rw[gQ c]at this;cases q2:He b with|none=>rfl|some u=>rw[h.s.g.s b u (by rw[aA c];exact q2)]at this;cases this
 .obtain⟨b,k1,k2,k3,k4⟩:=h.s.ow i d e
  cases d with
  |lst ds=>
   obtain⟨ws,k5,k6⟩:=k4;have c:b≠a:=(hne b (hnn b k2)).1;exact⟨b,k1,hnn b k2,n' b k3 ⟨_,k5,c⟩,ws,gone b _ c k5,k6.mono g.z⟩
  |dic ks ds=>
   obtain⟨ws,k5,kl,k6⟩:=k4;have c:b≠a:=(hne b (hnn b k2)).1;exact⟨b,k1,hnn b k2,n' b k3 ⟨_,k5,c⟩,ws,gone b _ c k5,kl,k6.mono g.z⟩
  |_=>exact k4.elim
end
noncomputable def tM(K:Ur) (He η:Hp) (a:Uy) (f:Ev->ac->ar (D×ac)):TE:=λσ H Q=>∃Ha ρ st vs,ir K He η Ha σ H ρ a st vs/\match f ρ st with
 |.ok (d,st')=>∀v H' Ha' us,aG Ha Ha'->ir K He η Ha' σ H' ρ a st' us->Rep K Ha' d v->Q v H'
 |.exn _=>False
 |.stuck=>False
noncomputable def Ti(K:Ur) (He η:Hp) (a:Uy) (f:Ev->ac->ar (ac×ac)):TA:=λσ H Q=>∃Ha ρ st vs,ir K He η Ha σ H ρ a st vs/\match f ρ st with
 |.ok (ds,st')=>∀xs H' Ha' us,aG Ha Ha'->ir K He η Ha' σ H' ρ a st' us->Reps K Ha' ds xs->Q xs H'
 |.exn _=>False
 |.stuck=>False
noncomputable def TZ(K:Ur) (He η:Hp) (a:Uy) (f:Ev->ac->ar (D×ac)):TT:=λσ H Q=>∃Ha ρ st vs,ir K He η Ha σ H ρ a st vs/\match f ρ st with
 |.ok (.bl b,st')=>∀H' Ha' us,aG Ha Ha'->ir K He η Ha' σ H' ρ a st' us->Q b H'
 |.ok _=>False
 |.exn _=>False
 |.stuck=>False
structure DM (X:Cx) (He η:Hp) (a:Uy) (e:Vl) (f:Ev->ac->ar (D×ac)):Prop where
 o:PE X e (tM X.K He η a f)
structure Kt (X:Cx) (He η:Hp) (a:Uy) (es:List Vl) (f:Ev->ac->ar (ac×ac)):Prop where
 o:PA X es (Ti X.K He η a f)
structure La (X:Cx) (He η:Hp) (a:Uy) (e:Vl) (f:Ev->ac->ar (D×ac)):Prop where
 o:PT X e (TZ X.K He η a f)
def mP(f:am):Ev->ac->ar (D×ac):=λρ st=>(f ρ).bind λd=>.ok (d,st)
def lU(st:ac)(d:D):ar (D×ac):=if n6 d=true then .ok (d,st) else .stuck
def mL(f:am):Ev->ac->ar (D×ac):=λρ st=>(f (shr ρ)).bind (lU st)
def kT(s:Option Sl)(a:Uy):Bool:=match s with
 |some (.pt b)=>b==a
 |_=>false
def vw(i:Nat)(ρ:Ev)(st:ac):Ev:=(shr ρ).set i (.sh (.lst st))
def mV(i:Nat)(a:Uy)(f:am):Ev->ac->ar (D×ac):=λρ st=>if kT ρ[i]? a=true then(f (vw i ρ st)).bind (lU st) else .stuck
section
variable {X:Cx}{E:XK}{He η:Hp}{a:Uy}{e b:Vl}{es:List Vl}{pos:Pos}{f:am}{fm gm:Ev->ac->ar (D×ac)}{fa:Ev->ac->ar (ac×ac)}
def aK(he:DE X E e f):DM X He η a e (mP f):=⟨bc he.o λσ H Q ⟨Ha,ρ,st,vs,h,q⟩=>⟨Ha,ρ,h.s.g.sub,h.s.rd,by
 unfold mP at q;cases e1:f ρ with
 |stuck=>rw[e1]at q;exact q|exn x=>rw[e1]at q;exact q.elim
 |ok d=>
  rw[e1]at q;exact λv H' Ha' g rp=>q v H' Ha' vs g.z (h.back g.z (h.s.grow g)) rp⟩⟩
def J2(he:DE X E e f):DM X He η a e (mL f):=⟨bc he.o λσ H Q ⟨Ha,ρ,st,vs,h,q⟩=>⟨frz (upd He a (.lst vs)) Ha H,shr ρ,h.s.frz_le,h.s.looks,by
 unfold mL at q;cases e1:f (shr ρ) with
 |stuck=>rw[e1]at q;exact q|exn x=>rw[e1]at q;exact q.elim
 |ok d=>
  rw[e1]at q;intro v H' J g rp;have hJ:aG Ha J:=h.s.frz_sub.trans g.z;have z:aG Ha (gV Ha J):=λb o e=>by unfold gV;rw[e]
  replace q:match lU st d with
   |.ok (d,st')=>∀v H' Ha' us,aG Ha Ha'->ir X.K He η Ha' σ H' ρ a st' us->Rep X.K Ha' d v->Q v H'
   |.exn _=>False
   |.stuck=>False:=q
  unfold lU at q
  by_cases fl:n6 d=true
  .rw[if_pos fl]at q
   exact q v H' (gV Ha J) vs z (h.back z (h.s.behind g)) (rp.flat_to (wU hJ) fl)
  .rw[if_neg fl]at q;exact q.elim⟩⟩
def ir.view{K:Ur}{st:ac}(h:ir K He η Ha σ H ρ a st vs)(hp:kT ρ[i]? a=true):aG (upd (frz (upd He a (.lst vs)) Ha H) a (.lst vs)) H/\aG (frz (upd He a (.lst vs)) Ha H) (upd (frz (upd He a (.lst vs)) Ha H) a (.lst vs))/\Reads K (upd (frz (upd He a (.lst vs)) Ha H) a (.lst vs)) σ (vw i ρ st):=by
 have hz:frz (upd He a (.lst vs)) Ha H a=none:=by unfold frz;rw[aE];exact h.n0
 have z:aG (frz (upd He a (.lst vs)) Ha H) (upd (frz (upd He a (.lst vs)) Ha H) a (.lst vs)):=λb o e=>by rw[aA (by intro z;subst z;rw[hz]at e;cases e)];exact e
 refine⟨λb o e=>?_,z,λj d e=>?_⟩
 .by_cases c:b=a
  .subst c;rw[aE]at e;cases e;exact h.hl
  .rw[aA c]at e;exact h.s.frz_le _ _ e
 .unfold vw at e
  by_cases c:i=j
  .subst c
   unfold kT at hp;cases q:ρ[i]? with
   |none=>rw[q]at hp;cases hp
   |some s=>
    rw[q]at hp;cases s with
    |pt b=>
     have hb:b=a:=eq_of_beq hp;subst hb;have hil:i<(shr ρ).length:=by unfold shr;rw[Us];exact(Ux.mp q).1
     rw[Vg hil]at e;cases e;exact⟨_,h.s.ex.2 i b q,aJ.mpr ⟨b,vs,rfl,fM.of aE,(h.r.mono h.s.frz_sub).mono z⟩⟩
    |_=>cases hp
  .rw[UE c]at e
   obtain⟨v,h1,h2⟩:=h.s.looks j d e;exact⟨v,h1,h2.mono z⟩
def ir.behind{K:Ur}{st:ac}(h:ir K He η Ha σ H ρ a st vs)(g:bI H (upd (frz (upd He a (.lst vs)) Ha H) a (.lst vs)) H' J):aG Ha J/\aG Ha (gV Ha J)/\ir K He η (gV Ha J) σ H' ρ a st vs:=by
 have hz:frz (upd He a (.lst vs)) Ha H a=none:=by unfold frz;rw[aE];exact h.n0
 have z0:aG (frz (upd He a (.lst vs)) Ha H) (upd (frz (upd He a (.lst vs)) Ha H) a (.lst vs)):=λb o e=>by rw[aA (by intro z;subst z;rw[hz]at e;cases e)];exact e
 have hJ:aG Ha J:=h.s.frz_sub.trans (z0.trans g.z);have z:aG Ha (gV Ha J):=λb o e=>by unfold gV;rw[e]
 refine⟨hJ,z,h.back z ?_⟩;have ja:J a=some (.lst vs):=g.z _ _ aE;have g':bI H (frz (upd He a (.lst vs)) Ha H) H' (Dd a J):=⟨g.s,λb o e=>by
   have c:b≠a:=by intro c;subst c;rw[hz]at e;cases e
   rw[gQ c];exact g.z _ _ (z0 _ _ e),λb o e=>by
   by_cases c:b=a
   .subst c;rw[eO]at e;cases e
   .rw[gQ c]at e;exact g.sub _ _ e,λb h1 h2=>by
   by_cases c:b=a
   .subst c;exact absurd eO h1
   .rw[gQ c]at h1;exact g.nw b h1 (by rw[aA c];exact h2)⟩
 have hs:=h.s.behind g';have e:gV Ha (Dd a J)=gV Ha J:=by
  funext b;unfold gV
  by_cases c:b=a
  .subst c;rw[h.n0,eO,ja]
  .rw[gQ c]
 rw[e]at hs;exact hs
def m8(he:DE X E e f):DM X He η a e (mV i a f):=⟨bc he.o λσ H Q z9=>by
 obtain⟨Ha,ρ,st,vs,h,q⟩:=z9;unfold mV at q
 by_cases hp:kT ρ[i]? a=true
 .rw[if_pos hp]at q
  obtain⟨v1,v2,v3⟩:=h.view hp;refine⟨_,vw i ρ st,v1,v3,?_⟩;cases e1:f (vw i ρ st) with
  |stuck=>rw[e1]at q;exact q|exn x=>rw[e1]at q;exact q.elim
  |ok d=>
   rw[e1]at q;intro v H' J g rp;obtain⟨hJ,z,hm⟩:=h.behind g;replace q:match lU st d with
    |.ok (d,st')=>∀v H' Ha' us,aG Ha Ha'->ir X.K He η Ha' σ H' ρ a st' us->Rep X.K Ha' d v->Q v H'
    |.exn _=>False
    |.stuck=>False:=q
   unfold lU at q
   by_cases fl:n6 d=true
   .rw[if_pos fl]at q
    exact q v H' (gV Ha J) vs z hm (rp.flat_to (wU hJ) fl)
   .rw[if_neg fl]at q;exact q.elim
 .rw[if_neg hp]at q;exact q.elim⟩
def mB(f g:Ev->ac->ar (D×ac))(op:D->D->ar D):Ev->ac->ar (D×ac):=λρ st=>(f ρ st).bind λp=>(g ρ p.2).bind λq=>(op p.1 q.1).bind λd=>.ok (d,q.2)
def jQ(ho:wX X.K E r op)(σ:L2.St)(H:Hp)(Q:VK)(h:tM X.K He η a (mB fm gm op) σ H Q):Ob r (tM X.K He η a fm) (tM X.K He η a gm) σ H Q:=by
 obtain⟨Ha,ρ,st,vs,h,q⟩:=h;refine⟨Ha,ρ,st,vs,h,?_⟩;unfold mB at q;cases e1:fm ρ st with
 |stuck|exn x=>rw[e1]at q;exact q
 |ok p=>
  obtain⟨x,s1⟩:=p;rw[e1]at q;intro v H1 H01 us z1 h1 r1;refine⟨H01,ρ,s1,us,h1,?_⟩;simp only[ar.bind]at q;cases e2:gm ρ s1 with
  |stuck|exn x=>rw[e2]at q;exact q
  |ok p2=>
   obtain⟨y,s2⟩:=p2;rw[e2]at q;intro u H2 H02 us2 z2 h2 r2;refine ho x y v u H2 H02 Q h2.s.g.sub (r1.mono z2) r2 ?_;simp only at q;cases e3:op x y with
   |stuck=>rw[e3]at q;exact q|exn x=>rw[e3]at q;exact q.elim
   |ok d=>
    rw[e3]at q;exact λv' H' Ha' g rp=>q v' H' Ha' us2 ((z1.trans z2).trans g.z) (h2.back g.z (h2.s.grow g)) rp
def KZ(h:gr X (binaryOp op) r)(ho:wX X.K E r o)(ha:DM X He η a l fm)(hb:DM X He η a b gm):DM X He η a (.BinOp l op b pos) (mB fm gm o):=⟨bc (EX h ha.o hb.o) (jQ ho)⟩
def NA(h:gr X (Vw op) r)(ho:wX X.K E r o)(ha:DM X He η a l fm)(hb:DM X He η a b gm)(hm:behindInMarks op b=false):DM X He η a (.Compare l [op] [b] pos) (mB fm gm o):=⟨bc (Bk h ha.o hb.o hm) (jQ ho)⟩
def Q0(h:GJ X r)(ho:wX X.K E r o)(ha:DM X He η a l fm)(hb:DM X He η a b gm)(hs:nA b:=by intro _ _;rfl):DM X He η a (.Subscript l b pos) (mB fm gm o):=⟨bc (KJ h ha.o hb.o hs) (jQ ho)⟩
def cm:Ev->ac->ar (ac×ac):=λ_ st=>.ok ([],st)
def aV(f:Ev->ac->ar (D×ac))(fa:Ev->ac->ar (ac×ac)):Ev->ac->ar (ac×ac):=λρ st=>(f ρ st).bind λp=>(fa ρ p.2).bind λq=>.ok (p.1::q.1,q.2)
def aU:Kt X He η a [] cm:=⟨pZ fU λσ H Q ⟨Ha,ρ,st,vs,h,q⟩=>q [] H Ha vs (aG.refl _) h Reps.nil⟩
def aM(ha:DM X He η a e fm)(hr:Kt X He η a es fa)(hs:Uw (e::es) X.env=(false,eval e X.env)::Uw es X.env:=by exact aT rfl):Kt X He η a (e::es) (aV fm fa):=⟨pZ (dj ha.o hr.o hs) λσ H Q ⟨Ha,ρ,st,vs,h,q⟩=>⟨Ha,ρ,st,vs,h,by
 unfold aV at q;cases e1:fm ρ st with
 |stuck|exn x=>rw[e1]at q;exact q
 |ok p=>
  obtain⟨x,s1⟩:=p;rw[e1]at q;intro v H1 H01 us z1 h1 r1;refine⟨H01,ρ,s1,us,h1,?_⟩;simp only[ar.bind]at q;cases e2:fa ρ s1 with
  |stuck|exn x=>rw[e2]at q;exact q
  |ok p2=>
   obtain⟨ys,s2⟩:=p2;rw[e2]at q;exact λxs H2 H02 us2 z2 h2 r2=>q _ H2 H02 us2 (z1.trans z2) h2 (Reps.cons (r1.mono z2) r2)⟩⟩
def mA(fa:Ev->ac->ar (ac×ac))(m:ac->ar D):Ev->ac->ar (D×ac):=λρ st=>(fa ρ st).bind λp=>(m p.1).bind λd=>.ok (d,p.2)
def td(hd:g9 X E r m)(σ:L2.St)(H:Hp)(Q:VK)(h:tM X.K He η a (mA fa m) σ H Q):Ti X.K He η a fa σ H λvs H1=>r vs H1 Q:=by
 obtain⟨Ha,ρ,st,vs,h,q⟩:=h;refine⟨Ha,ρ,st,vs,h,?_⟩;unfold mA at q;cases e1:fa ρ st with
 |stuck|exn x=>rw[e1]at q;exact q
 |ok p=>
  obtain⟨ds,s1⟩:=p;rw[e1]at q;intro xs H1 H01 us z1 h1 r1;refine hd ds xs H1 H01 Q h1.s.g.sub r1 ?_;simp only[ar.bind]at q;cases e2:m ds with
  |stuck=>rw[e2]at q;exact q|exn x=>rw[e2]at q;exact q.elim
  |ok d=>
   rw[e2]at q;exact λv' H' Ha' g rp=>q v' H' Ha' us (z1.trans g.z) (h1.back g.z (h1.s.grow g)) rp
end
inductive fb where
 |nx (ρ:Ev) (st:ac)|rt (d:D) (st:ac)|bk (ρ:Ev) (st:ac)|ct (ρ:Ev) (st:ac)
structure Rx (K:Ur) (He η Ha H:Hp) (a:Uy) (st:ac):Prop where
 g:bI He η H Ha
 n:Ha a=none
 l:∃us,H a=some (.lst us)/\Reps K Ha st us
noncomputable def fF(K:Ur) (He η:Hp) (a:Uy) (Ha:Hp) (r:ar fb) (D:kE):Prop:=match r with
 |.ok (.nx ρ st)=>∀σ H Ha' vs,aG Ha Ha'->ir K He η Ha' σ H ρ a st vs->D.nx σ H
 |.ok (.rt d st)=>∀v H Ha',aG Ha Ha'->Rx K He η Ha' H a st->Rep K Ha' d v->D.rt v H
 |.ok (.bk ρ st)=>∀σ H Ha' vs,aG Ha Ha'->ir K He η Ha' σ H ρ a st vs->D.bk σ H
 |.ok (.ct ρ st)=>∀σ H Ha' vs,aG Ha Ha'->ir K He η Ha' σ H ρ a st vs->D.ct σ H
 |.exn _=>False
 |.stuck=>False
def fF.grow{K:Ur}{D:kE}(h:fF K He η a Ha r D)(s:aG Ha Hb):fF K He η a Hb r D:=by
 cases r with
 |ok f=>
  cases f with|nx ρ st=>exact λσ H Ha' vs s'=>h σ H Ha' vs (s.trans s')|rt d st=>exact λv H Ha' s'=>h v H Ha' (s.trans s')|bk ρ st=>exact λσ H Ha' vs s'=>h σ H Ha' vs (s.trans s')|ct ρ st=>exact λσ H Ha' vs s'=>h σ H Ha' vs (s.trans s')
 |exn x=>exact h
 |stuck=>exact h
def RK(K:Ur)(He η:Hp)(a:Uy)(g:Ev->ac->ar fb):TS:=λD σ H=>∃Ha ρ st vs,ir K He η Ha σ H ρ a st vs/\fF K He η a Ha (g ρ st) D
structure SM (X:Cx) (He η:Hp) (a:Uy) (st:V6) (g:Ev->ac->ar fb):Prop where
 o:PS X st (RK X.K He η a g)
structure Kq (X:Cx) (He η:Hp) (a:Uy) (st:List V6) (g:Ev->ac->ar fb):Prop where
 o:vm X st (RK X.K He η a g)
section
variable {X:Cx}{E:XK}{He η:Hp}{a:Uy}{st:V6}{rest:List V6}{e b:Vl}{es:List Vl}{pos:Pos}{f:am}{fm gm:Ev->ac->ar (D×ac)}{s t:Ev->ac->ar fb}
def bY:Ev->ac->ar fb:=λρ st=>.ok (.nx ρ st)
def BB(t:Ev->ac->ar fb)(r:fb):ar fb:=match r with
 |.nx ρ st=>t ρ st
 |r=>.ok r
def bh(s t:Ev->ac->ar fb):Ev->ac->ar fb:=λρ st=>(s ρ st).bind (BB t)
def bF:Kq X He η a [] bY:=⟨fT pV λD σ H ⟨Ha,ρ,st,vs,h,q⟩=>q σ H Ha vs (aG.refl _) h⟩
def aC(h1:SM X He η a st s)(h2:Kq X He η a rest t):Kq X He η a (st::rest) (bh s t):=by
 refine⟨?_⟩;refine fT (ix h1.o h2.o) λD σ H z9=>?_;obtain⟨Ha,ρ,st,vs,h,q⟩:=z9;refine⟨Ha,ρ,st,vs,h,?_⟩
 unfold bh at q;cases e1:s ρ st with
 |stuck|exn x=>rw[e1]at q;exact q
 |ok r=>
  rw[e1]at q;cases r with|nx ρ' st'=>exact λσ' H' Ha' vs' s' h'=>⟨Ha',ρ',st',vs',h',fF.grow (r:=t ρ' st') q s'⟩|rt d st'|bk ρ' st'|ct ρ' st'=>exact q
def zX(st:ac)(r:Fl):ar fb:=match r with
 |.nx ρ=>.ok (.nx ρ st)
 |.bk ρ=>.ok (.bk ρ st)
 |.ct ρ=>.ok (.ct ρ st)
 |.rt _=>.stuck
def eF(g:bd):Ev->ac->ar fb:=λρ st=>(g ρ).bind (zX st)
def cK(h:∀vs,DS X E (upd He a (.lst vs)) η st g):SM X He η a st (eF g):=by
 refine⟨?_⟩;rintro π sh σ H D I ⟨Ha,ρ,st,vs,hm,q⟩;refine(h vs).o π sh σ H D I ⟨Ha,ρ,hm.s,?_⟩;unfold eF at q;cases e1:g ρ with
 |stuck=>rw[e1]at q;exact q|exn x=>rw[e1]at q;exact q.elim
 |ok r=>
  rw[e1]at q;cases r with|nx ρ'=>exact λσ' H' Ha' z h'=>q σ' H' Ha' vs z (hm.back z h')|bk ρ'=>exact λσ' H' Ha' z h'=>q σ' H' Ha' vs z (hm.back z h')|ct ρ'=>exact λσ' H' Ha' z h'=>q σ' H' Ha' vs z (hm.back z h')|rt d=>exact q.elim
def Fn(i:Nat)(ρ:Ev)(p:D×ac):ar fb:=.ok (.nx (ρ.set i (.sh p.1)) p.2)
def ey(i:Nat)(f:Ev->ac->ar (D×ac)):Ev->ac->ar fb:=λρ st=>(f ρ st).bind (Fn i ρ)
def cJ(hN:X.N.Nodup)(hi:X.N[i]?=some x)(hx:Cm X.env.scope x)(he:DM X He η a e fm)(hs:VG e (some (.Name x pos')) pos.line X.env=pure false:=by rfl)
  (hf:X.fn x=true∨X.env.scope.names.lookup x=some .local := by first|exact .inl rfl|exact .inr rfl|assumption):SM X He η a (.Assign [.Name x pos'] e pos) (ey i fm):=by
 refine⟨?_⟩;refine b4 (nP hN hi hx he.o hs hf) λD σ H z9=>?_;obtain⟨Ha,ρ,st,vs,h,q⟩:=z9;refine⟨Ha,ρ,st,vs,h,?_⟩
 unfold ey at q;cases e1:fm ρ st with
 |stuck|exn x=>rw[e1]at q;exact q
 |ok p=>
  obtain⟨d,st'⟩:=p;rw[e1]at q;exact λv H' Ha' us z h' rp=>q _ H' Ha' us z (h'.back (aG.refl _) (h'.s.put rp))
def Fo(p:D×ac):ar fb:=.ok (.rt p.1 p.2)
def yk(f:Ev->ac->ar (D×ac)):Ev->ac->ar fb:=λρ st=>(f ρ st).bind Fo
def ir.out{K:Ur}{st:ac}(h:ir K He η Ha σ H ρ a st vs)(z:aG Ha J)(hs:aG J H)(hw:∀b,J b≠none->Ha b=none->upd He a (.lst vs) b=none)(n:J a=none):Rx K He η J H a st :=
 ⟨⟨λb o e=>h.s.g.s _ _ (by rw[aA (by intro c;subst c;rw[h.ha]at e;cases e)];exact e),h.s.g.z.trans z,hs,λb h1 h2=>by
  have key:upd He a (.lst vs) b=none:=by
   cases q:Ha b with|none=>exact hw b h1 q|some o=>exact h.s.g.nw b (by rw[q];simp) h2
  by_cases c:b=a
  .subst c;exact h.ha
  .rw[aA c]at key;exact key⟩,n,vs,h.hl,h.r.mono z⟩
def qr(he:DM X He η a e fm):SM X He η a (.Return (some e) pos) (yk fm):=by
 refine⟨?_⟩;refine b4 (vK he.o) λD σ H z9=>?_;obtain⟨Ha,ρ,st,vs,h,q⟩:=z9;refine⟨Ha,ρ,st,vs,h,?_⟩
 unfold yk at q;cases e1:fm ρ st with
 |stuck|exn x=>rw[e1]at q;exact q
 |ok p=>
  obtain⟨d,st'⟩:=p;rw[e1]at q;exact λv H' Ha' us z h' rp=>q v H' Ha' z (h'.out (aG.refl _) h'.s.g.sub (λb h1 h2=>absurd h2 h1) h'.n0) rp
def gY(f:am):Ev->ac->ar fb:=λρ st=>(f (shr ρ)).bind λd=>.ok (.rt d st)
def fP(he:DE X E e f):SM X He η a (.Return (some e) pos) (gY f):=by
 refine⟨?_⟩;refine b4 (vK he.o) λD σ H z9=>?_;obtain⟨Ha,ρ,st,vs,h,q⟩:=z9;refine⟨frz (upd He a (.lst vs)) Ha H,shr ρ,h.s.frz_le,h.s.looks,?_⟩
 unfold gY at q;cases e1:f (shr ρ) with
 |stuck=>rw[e1]at q;exact q|exn x=>rw[e1]at q;exact q.elim
 |ok d=>
  rw[e1]at q;intro v H' J g rp;have hz:frz (upd He a (.lst vs)) Ha H a=none:=by unfold frz;rw[aE];exact h.n0
  have z:aG Ha J:=h.s.frz_sub.trans g.z;have n:J a=none:=by
   cases qq:J a with|none=>rfl|some o=>have:=g.nw a (by rw[qq];simp) hz;rw[h.hl]at this;cases this
  have hg:=h.s.frz_grow.trans g;refine q v H' J z ⟨⟨λb o e=>hg.s _ _ (by rw[aA (by intro c;subst c;rw[h.ha]at e;cases e)];exact e),hg.z,hg.sub,λb h1 h2=>?_⟩,n,vs,g.s _ _ h.hl,h.r.mono z⟩ rp;have key:=hg.nw b h1 h2
  by_cases c:b=a
  .subst c;exact h.ha
  .rw[aA c]at key;exact key
def Ip(s t:Ev->ac->ar fb)(ρ:Ev)(p:D×ac):ar fb:=match p.1 with
 |.bl b=>if b=true then s ρ p.2 else t ρ p.2
 |_=>.stuck
def zh(c:Ev->ac->ar (D×ac))(s t:Ev->ac->ar fb):Ev->ac->ar fb:=λρ st=>(c ρ st).bind (Ip s t ρ)
def kK(hc:La X He η a c fm)(ha:Kq X He η a sa s)(hb:Kq X He η a sb t):SM X He η a (.If c sa sb pos) (zh fm s t):=by
 refine⟨?_⟩;refine b4 (KH hc.o ha.o hb.o) λD σ H z9=>?_;obtain⟨Ha,ρ,st,vs,h,q⟩:=z9;refine⟨Ha,ρ,st,vs,h,?_⟩
 unfold zh at q;cases e1:fm ρ st with
 |stuck|exn x=>rw[e1]at q;exact q
 |ok p=>
  obtain⟨d,st'⟩:=p;rw[e1]at q;cases d with
  |bl b=>
   intro H' Ha' us z h';replace q:fF X.K He η a Ha (if b=true then s ρ st' else t ρ st') D:=q;cases b with|true=>rw[if_pos rfl]at q ⊢;exact⟨Ha',ρ,st',us,h',q.grow z⟩|false=>rw[if_neg VO]at q ⊢;exact⟨Ha',ρ,st',us,h',q.grow z⟩
  |_=>exact q.elim
end
section
variable {X:Cx}{E:XK}{He η:Hp}{a:Uy}{st:V6}{e l b:Vl}{rest es:List Vl}{pos:Pos}{f:am}{fm gm:Ev->ac->ar (D×ac)}{s t:Ev->ac->ar fb}
def Dj(h:PT X e (tB (tM X.K He η a fm))):La X He η a e fm:=by
 refine⟨?_⟩;refine ic h λσ H Q z9=>?_;obtain⟨Ha,ρ,st,vs,h,q⟩:=z9;refine⟨Ha,ρ,st,vs,h,?_⟩
 cases e1:fm ρ st with
 |stuck|exn x=>rw[e1]at q;exact q
 |ok p=>
  obtain⟨d,st'⟩:=p;rw[e1]at q;intro v H1 H01 us z h1 r1;cases d with|bl b=>rw[aL.mp r1];exact⟨b,rfl,q H1 H01 us z h1⟩| _=>exact q.elim
def J0(h:DM X He η a e fm)(he:∀whole,isTrue e X.env whole=(do let v ←whole;standAt e.pos;WK [v] (truthy v)):=by intro _;rfl):La X He η a e fm:=Dj (EK h.o he)
def wF(h:gr X (Vw op) r)(ho:wX X.K E r o)(ha:DM X He η a l fm)(hb:DM X He η a b gm)(hm:behindInMarks op b=false):La X He η a (.Compare l [op] [b] pos) (mB fm gm o):=by
 refine⟨?_⟩;refine ic (Bf h ha.o hb.o hm) λσ H Q h=>?_;have w:tM X.K He η a (mB fm gm o) σ H λx H'=>∃k,x=.bl k/\Q k H':=by
  obtain⟨Ha,ρ,st,vs,h,q⟩:=h;refine⟨Ha,ρ,st,vs,h,?_⟩;cases e1:mB fm gm o ρ st with
  |stuck|exn x=>rw[e1]at q;exact q
  |ok p=>
   obtain⟨d,st'⟩:=p;rw[e1]at q;intro v H1 H01 us z h1 r1;cases d with|bl b=>rw[aL.mp r1];exact⟨b,rfl,q H1 H01 us z h1⟩| _=>exact q.elim
 exact jQ ho σ H _ w
def mT(f:am):Ev->ac->ar (D×ac):=λρ st=>(f (shr ρ)).bind λd=>.ok (d,st)
def jE(h:DT X E e f):La X He η a e (mT f):=⟨ic h.o λσ H Q ⟨Ha,ρ,st,vs,h,q⟩=>⟨frz (upd He a (.lst vs)) Ha H,shr ρ,h.s.frz_le,h.s.looks,by
 unfold mT at q;cases e1:f (shr ρ) with
 |stuck=>rw[e1]at q;exact q|exn x=>rw[e1]at q;exact q.elim
 |ok d=>
  rw[e1]at q;cases d with
  |bl b=>exact λH' J g=>q H' Ha vs (aG.refl _) (h.back (aG.refl _) (h.s.same g.s))
  |_=>exact q.elim⟩⟩
def RM(i:Nat)(a:Uy)(f:am):Ev->ac->ar (D×ac):=λρ st=>if kT ρ[i]? a=true then(f (vw i ρ st)).bind λd=>.ok (d,st) else .stuck
def Ge(h:DT X E e f):La X He η a e (RM i a f):=⟨ic h.o λσ H Q z9=>by
 obtain⟨Ha,ρ,st,vs,h,q⟩:=z9;unfold RM at q
 by_cases hp:kT ρ[i]? a=true
 .rw[if_pos hp]at q
  obtain⟨v1,v2,v3⟩:=h.view hp;refine⟨_,vw i ρ st,v1,v3,?_⟩;cases e1:f (vw i ρ st) with
  |stuck=>rw[e1]at q;exact q|exn x=>rw[e1]at q;exact q.elim
  |ok d=>
   rw[e1]at q;cases d with|bl b=>exact λH' J g=>q H' Ha vs (aG.refl _) (h.back (aG.refl _) (h.s.same g.s))| _=>exact q.elim
 .rw[if_neg hp]at q;exact q.elim⟩
noncomputable def forM(tg:Ev->D->ar Ev) (body:Ev->ac->ar fb):ac->Ev->ac->ar fb
 |[],ρ,st=>.ok (.nx ρ st)
 |d::r,ρ,st=>(tg ρ d).bind λρ1=>(body ρ1 st).bind λx=>match x with
  |.nx ρ2 s2=>forM tg body r ρ2 s2
  |.ct ρ2 s2=>forM tg body r ρ2 s2
  |.bk ρ2 s2=>.ok (.nx ρ2 s2)
  |.rt d s=>.ok (.rt d s)
def Si(K:Ur)(He η:Hp)(a:Uy)(tg:Ev->D->ar Ev):TG:=λv σ H Q=>∃Ha ρ st vs d,ir K He η Ha σ H ρ a st vs/\Rep K Ha d v/\match tg ρ d with
  |.ok ρ'=>∀σ' H' Ha',aG Ha Ha'->ir K He η Ha' σ' H' ρ' a st vs->Q σ' H'
  |_=>False
def Pq(hg:∀vs,DG X E (upd He a (.lst vs)) η tgt tg):PG X tgt (Si X.K He η a tg):=by
 rintro π sh σ H v u Q I r ⟨Ha,ρ,st,vs,d,h,rp,q⟩;refine(hg vs).o π sh σ H v u Q I r ⟨Ha,ρ,d,h.s,rp,?_⟩;cases e1:tg ρ d with
 |stuck|exn x=>rw[e1]at q;exact q
 |ok ρ'=>
  rw[e1]at q;exact λσ' H' Ha' z h'=>q σ' H' Ha' z (h.back z h')
def nC(K:Ur)(He η:Hp)(a:Uy)(Hb:Hp)(tg:Ev->D->ar Ev)(s:Ev->ac->ar fb)(ds:ac)(D':kE)(i:Nat)(σ:L2.St)(H:Hp):Prop :=
 ∃Ha ρ st vs,aG Hb Ha/\ir K He η Ha σ H ρ a st vs/\fF K He η a Ha (forM tg s (ds.drop i) ρ st) D'
def nC.done{K:Ur}(h:nC K He η a Hb tg s ds D' ds.length σ H):D'.nx σ H:=by
 obtain⟨Ha,ρ,st,vs,z,h,q⟩:=h;rw[Wu]at q;unfold forM at q;exact q σ H Ha vs (aG.refl _) h
end
section
variable {X:Cx}{E:XK}{He η:Hp}{a:Uy}{st:V6}{e l b:Vl}{rest es:List Vl}{pos:Pos}{f:am}{fm gm:Ev->ac->ar (D×ac)}{fa:Ev->ac->ar (ac×ac)}{s t:Ev->ac->ar fb}
def uG(i:Nat)(ρ:Ev)(ds:ac)(p:D×ac):ar fb:=if ds.length<line then .ok (.nx (ρ.set i (.ow (.lst (ds++[p.1])))) p.2) else .stuck
def zK(s:Option Sl)(k:ac->ar fb):ar fb:=match s with
 |some (.ow (.lst ds))=>k ds
 |_=>.stuck
def zY(i:Nat)(f:Ev->ac->ar (D×ac)):Ev->ac->ar fb:=λρ st=>zK ρ[i]? λds=>(f ρ st).bind (uG i ρ ds)
def ur(hN:X.N[i]?=some x)(hv:zj X.env.scope x)(he:DM X He η a e fm)
  (hd:(x==("__debug__" : UP))=false:=by decide)(hcd:(x==("__classdict__" : UP))=false:=by decide)
  (hbase:Wf (.Name x p1) "append" X.env (eval (.Name x p1) X.env)=eval (.Name x p1) X.env:=by rfl)
  (hfew:((Vy p3 (Uw [e] X.env)).all (λx=>!x.1)&&(XO p3 (WM [] X.env)).all (λx=>x.1.isSome)
  &&decide ([e].length+([]:List Xh).length+(if([]:List Xh).isEmpty then 0 else 1)<30))=true:=by exact mX rfl)
  (hline:(p2.endLine==p3.line)=true:=by rfl) (hs:Uw [e] X.env=(false,eval e X.env)::Uw [] X.env:=by exact aT rfl) (hplain:(Vy p3 (Uw [] X.env)).any (·.1)=false:=by exact bK rfl)
  (hw:VG (.Call (.Attribute (.Name x p1) "append" p2) [e] [] p3) none pos.line X.env=pure false:=by rfl) :
  SM X He η a (.Expr (.Call (.Attribute (.Name x p1) "append" p2) [e] [] p3) pos) (zY i fm):=by
 refine⟨?_⟩;refine b4 (pW (Bl W2 YU YT nU (iy hN hv hd hcd) (dj he.o fU hs) hbase hfew hline hs hplain) hw) λD σ H ⟨Ha,ρ,st,vs,h,q⟩=>?_;unfold zY zK at q;cases e0:ρ[i]? with
 |none=>rw[e0]at q;exact q.elim
 |some sl=>
  rw[e0]at q;cases sl with
  |ow d=>
   cases d with
   |lst ds=>
    obtain⟨p,k1,k2,k3,ws,k4,k5⟩:=h.s.ow i _ e0;refine⟨.ref p,k1,.inl ⟨rfl,ws,fM.of k4⟩,?_⟩;refine⟨Ha,ρ,st,vs,h,?_⟩;replace q:fF X.K He η a Ha ((fm ρ st).bind (uG i ρ ds)) D:=q;cases e1:fm ρ st with
    |stuck|exn x=>rw[e1]at q;exact q
    |ok pr=>
     obtain⟨d,st'⟩:=pr;rw[e1]at q;intro v H' Ha' us z h' rp;obtain⟨p',k1',k2',k3',ws',k4',k5'⟩:=h'.s.ow i _ e0;rw[k1]at k1';cases k1';replace q:fF X.K He η a Ha (uG i ρ ds (d,st')) D:=q;unfold uG at q
     by_cases hl:ds.length<line
     .rw[if_pos hl]at q
      refine⟨p,ws',v,rfl,rfl,k4',by rw[←k5'.length];exact UA hl (by decide),?_⟩;have hpa:p≠a:=by intro c;subst c;rw[aE]at k2';cases k2'
      exact q σ _ Ha' us z ⟨h'.ha,h'.h0,by rw[aA (Vj hpa)];exact h'.hl,h'.r,h'.s.write e0 k1 (k5'.app (Reps.cons rp Reps.nil))⟩
     .rw[if_neg hl]at q;exact q.elim
   |_=>exact q.elim
  |_=>exact q.elim
def mx(ρ:Ev)(d:D)(p:D×ac):ar fb:=match p.1 with
 |.int j=>match uK p.2.length j with
  |some n=>.ok (.nx ρ (p.2.set n d))
  |none=>.stuck
 |_=>.stuck
def yl(i:Nat)(a:Uy)(f k:Ev->ac->ar (D×ac)):Ev->ac->ar fb:=λρ st=>if kT ρ[i]? a=true then(f ρ st).bind λp=>(k ρ p.2).bind (mx ρ p.1) else .stuck
def BJ{s:Option Sl}(h:kT s a=true):s=some (.pt a):=by
 unfold kT at h;split at h
 .rw[eq_of_beq h]
 .cases h
def zw(hN:X.N[i]?=some x)(hv:zj X.env.scope x)(he:DM X He η a e fm)(hk:DM X He η a b gm)
  (hd:(x==("__debug__" : UP))=false:=by decide)(hcd:(x==("__classdict__" : UP))=false:=by decide)
  (ha:∀v,assign (.Subscript (.Name x p1) b p2) X.env v=(do
   let ov ←WK [v] (eval (.Name x p1) X.env)
   let iv ←WK [v,ov] (eval b X.env)
   standAt p2
   WK [v,ov,iv] (setItem ov iv v)
   release [v,ov,iv] []):=by intro _;rfl)
  (hs:swapsWithSole [.Subscript (.Name x p1) b p2] e pos.line X.env=pure false:=by rfl) (hw:swappedStores [.Subscript (.Name x p1) b p2] e X.env=pure none:=by rfl)
  (h1:(assignEach [.Subscript (.Name x p1) b p2] X.env).map (·.2)=[assign (.Subscript (.Name x p1) b p2) X.env]:=by rfl) :
  SM X He η a (.Assign [.Subscript (.Name x p1) b p2] e pos) (yl i a fm gm):=by
 refine⟨?_⟩;refine b4 (vM he.o (EV (iy hN hv hd hcd) hk.o xF ha) hs hw h1) λD σ H z9=>?_;obtain⟨Ha,ρ,st,vs,h,q⟩:=z9;refine⟨Ha,ρ,st,vs,h,?_⟩
 unfold yl at q
 by_cases hp:kT ρ[i]? a=true
 .rw[if_pos hp]at q
  have hσ:=h.s.ex.2 i a (BJ hp);cases e1:fm ρ st with
  |stuck|exn x=>rw[e1]at q;exact q
  |ok pr=>
   obtain⟨d,s1⟩:=pr;rw[e1]at q;intro v H1 H01 us1 z1 h1' r1;refine⟨.ref a,hσ,H01,ρ,s1,us1,h1',?_⟩;replace q:fF X.K He η a Ha ((gm ρ s1).bind (mx ρ d)) D:=q;cases e2:gm ρ s1 with
   |stuck|exn x=>rw[e2]at q;exact q
   |ok pr2=>
    obtain⟨j,s2⟩:=pr2;rw[e2]at q;intro u H2 H02 us2 z2 h2 r2;replace q:fF X.K He η a Ha (mx ρ d (j,s2)) D:=q;unfold mx at q;cases j with
    |int n=>
     cases en:uK s2.length n with
     |none=>simp only[en]at q;exact q.elim
     |some m=>
      simp only[en]at q;refine⟨a,us2,n,m,rfl,aB.mp r2,h2.hl,by rw[←h2.r.length];exact en,?_⟩;refine q σ _ H02 (us2.set m v) (z1.trans z2) (h2.change (H':=upd H2 a (.lst (us2.set m v))) ⟨λb o e=>?_,aG.refl _,λb o e=>?_,λb k1 k2=>absurd k2 k1⟩ h2.n0 aE (h2.r.set (r1.mono z2) m))
      .have c:b≠a:=by intro c;subst c;rw[eO]at e;cases e
       rw[aA c];rw[gQ c]at e;exact e
      .have c:b≠a:=by intro c;subst c;rw[h2.n0]at e;cases e
       rw[aA c];exact h2.s.g.sub _ _ e
    |_=>exact q.elim
 .rw[if_neg hp]at q;exact q.elim
variable {CX:zl}{k n:Nat}{fn:Uy}{fd:VS}{ps:bi}{x:UP}{p:Pos}
def J3(F:FnOk X.prog X.w X.K X.mg X.base CX k fn fd ps (spD X.K n m))(hr:di k X.A)(hg:Gl X x)(hm:X.mg x=some (.ref fn))
  (hk:WN X.K (.ref fn)=true)(hb:ia X.K fd ps [])(hx:gW CX X E)(ha:Kt X He η a (e::es) fa)(hn:(e::es).length=n:=by rfl)(hl:∀ρ st ds,fa ρ st=.ok ds->ds.1.length=(e::es).length)
  (hdb:(x==("__debug__" : UP))=false:=by decide)(he:Uw (e::es) X.env=(false,eval e X.env)::Uw es X.env:=by exact aT rfl)(hpl:(Vy pos (Uw es X.env)).any (·.1)=false:=by exact bK rfl) :
  DM X He η a (.Call (.Name x p) (e::es) [] pos) (mA fa m):=by
 refine⟨?_⟩;refine bc (pY F hr hg hm hk hb .nil hx ha.o hdb he hpl) λσ H Q z9=>?_;obtain⟨Ha,ρ,st,vs,h,q⟩:=z9;refine⟨Ha,ρ,st,vs,h,?_⟩
 unfold mA at q;cases e1:fa ρ st with
 |stuck|exn x=>rw[e1]at q;exact q
 |ok pr=>
  obtain⟨ds,s1⟩:=pr;rw[e1]at q;intro xs H1 H01 us z1 h1 r1;refine⟨?_,H01,ds,h1.s.g.sub,by simpa using r1,?_⟩
  .have:=r1.length
   have:=hl ρ st _ e1;simp only[Vd]at *;omega
  .simp only[ar.bind]at q
   cases e2:m ds with
   |stuck=>rw[e2]at q;exact q|exn x=>rw[e2]at q;exact q.elim
   |ok d=>
    rw[e2]at q;exact λv' H' Ha' g rp=>q v' H' Ha' us (z1.trans g.z) (h1.back g.z (h1.s.grow g)) rp
noncomputable def DJ(K:Ur) (n:Nat) (m:Uy->ac->ac->ar (D×ac)):Sp:=λvs H Q E=>vs.length=n+1/\∃Ha ds a st us0 vs0,vs=.ref a::vs0/\aG Ha H/\Reps K Ha ds vs0/\Ha a=none/\H a=some (.lst us0)/\Reps K Ha st us0/\match m a st ds with
 |.ok (d,st')=>∀v H' Ha' us,bI (Dd a H) Ha H' Ha'->Ha' a=none->H' a=some (.lst us)->Reps K Ha' st' us->Rep K Ha' d v->Q v H'
 |.exn _=>False
 |.stuck=>False
def AF(a:Uy)(m:Uy->ac->ac->ar (D×ac))(p:ac×ac):ar (D×ac):=m a p.2 p.1
def bL(i:Nat)(a:Uy)(fa:Ev->ac->ar (ac×ac))(m:Uy->ac->ac->ar (D×ac)):Ev->ac->ar (D×ac):=λρ st=>if kT ρ[i]? a=true then(fa ρ st).bind (AF a m) else .stuck
def Gg(F:FnOk X.prog X.w X.K X.mg X.base CX k fn fd ps (DJ X.K n m))(hr:di k X.A)(hg:Gl X x)(hm:X.mg x=some (.ref fn))
  (hk:WN X.K (.ref fn)=true)(hb:ia X.K fd ps [])(hx:gW CX X E)(hN:X.N[i]?=some y)(hv:zj X.env.scope y)(ha:Kt X He η a es fa)(hl:∀ρ st ds,fa ρ st=.ok ds->ds.1.length=n)
  (hd:(y==("__debug__" : UP))=false:=by decide)(hcd:(y==("__classdict__" : UP))=false:=by decide)(hdb:(x==("__debug__" : UP))=false:=by decide)(he:Uw (.Name y p1::es) X.env=(false,eval (.Name y p1) X.env)::Uw es X.env:=by exact aT rfl)(hpl:(Vy pos (Uw es X.env)).any (·.1)=false:=by exact bK rfl) :
  DM X He η a (.Call (.Name x p) (.Name y p1::es) [] pos) (bL i a fa m):=by
 refine⟨?_⟩;refine bc (pY F hr hg hm hk hb .nil hx (dj (iy hN hv hd hcd) ha.o he) hdb he hpl) λσ H Q ⟨Ha,ρ,st,vs,h,q⟩=>?_;unfold bL at q
 by_cases hp:kT ρ[i]? a=true
 .rw[if_pos hp]at q
  have hσ:=h.s.ex.2 i a (BJ hp);refine⟨.ref a,hσ,Ha,ρ,st,vs,h,?_⟩;cases e1:fa ρ st with
  |stuck|exn x=>rw[e1]at q;exact q
  |ok pr=>
   obtain⟨ds,s1⟩:=pr;rw[e1]at q;intro xs H1 H01 us z1 h1 r1;refine⟨?_,H01,ds,a,s1,us,xs,by simp,h1.s.g.sub,r1,h1.n0,h1.hl,h1.r,?_⟩
   .have:=r1.length
    have:=hl ρ st _ e1;simp only[Vd,UZ]at *;omega
   .replace q:match m a s1 ds with
     |.ok (d,st')=>∀v H' Ha' us,aG Ha Ha'->ir X.K He η Ha' σ H' ρ a st' us->Rep X.K Ha' d v->Q v H'
     |.exn _=>False
     |.stuck=>False:=q
    cases e2:m a s1 ds with
    |stuck|exn x=>rw[e2]at q;exact q
    |ok pr2=>
     obtain⟨d,s2⟩:=pr2;rw[e2]at q;exact λv H' Ha' us' g n' hl' r' rp=>q v H' Ha' us' (z1.trans g.z) (h1.change g n' hl' r') rp
 .rw[if_neg hp]at q;exact q.elim
end
def Et(r:fb):ar (D×ac):=match r with
 |.nx _ st=>.ok (.non,st)
 |.rt d st=>.ok (d,st)
 |_=>.stuck
def pz(n:Nat)(s:Uy->Ev->ac->ar fb)(a:Uy)(st ds:ac):ar (D×ac):=(s a (.pt a::ds.map Sl.sh++UJ (n-(ds.length+1)) .no) st).bind Et
def Ah{K:Ur}{st:V6}{N ps:bi}(F:DD K x qual st f fd)(S:fv N ps (defScope st))(hn:ps.length=n+1)
  (hbody:∀(cdv:Up) (A:Vn) (outer:List VW) (s0:UD) (H He Ha:Hp) (a:Uy) (E:XK),di k (A.deeper (envOfC qual (defScope st) s0.heap.objs.size f cdv)) ->
   Kq (gk CX0 P w K mg base N qual (defScope st) f cdv A outer s0 H E).nox He Ha a (defBody st) (s a)):FnOk P w K mg base CX0 (k+1) f fd ps (DJ K n (pz N.length s)):=by
 have hpl:ps.length<=N.length:=by have:=congrArg Xm S.pre;rw[VA]at this;omega
 refine F.ok S (λvs H Q E h=>h.1.trans hn.symm) λcdv A outer s0 H vs Q E hr h=>?_;obtain⟨hlen,Ha,ds,a,sl,us0,vs0,rfl,hs,hv,h0,hl,hst,q⟩:=h;have lv:=hv.length;have hσ:start N (.ref a::vs0)=some (.ref a)::(vs0.map some++UJ (N.length-(vs0.length+1)) none):=by
  unfold L2.start;simp
 have hρ0:∀(i:Nat) (z:Sl),(Sl.pt a::ds.map Sl.sh++UJ (N.length-(ds.length+1)) Sl.no)[i]?=some z->z=.no∨(i=0/\z=.pt a)∨∃j d,i=j+1/\ds[j]?=some d/\z=.sh d:=λi z e=>by
  cases i with
  |zero=>simp at e;exact .inr (.inl ⟨rfl,e.symm⟩)
  |succ j=>
   rw[Xe,VI]at e
   by_cases hj:j<ds.length
   .rw[UQ (by simpa using hj),UK,Ut hj]at e
    cases e;exact .inr (.inr ⟨j,ds[j],rfl,Ut hj,rfl⟩)
   .rw[UW (by simpa using hj),U5]at e
    split at e
    .cases e;exact .inl rfl
    .cases e
 refine⟨_,(hbody cdv A outer s0 H (Dd a H) Ha a E hr).o,Ha,.pt a::ds.map Sl.sh++UJ (N.length-(ds.length+1)) .no,sl,us0,⟨eO,h0,hl,hst,?_⟩,?_⟩
 .refine⟨⟨λb o e=>?_,aG.refl _,hs,λb h1 h2=>absurd h2 h1⟩,λi d e=>?_,λi d e=>?_,λi j d d' hij e=>?_,?_,⟨λi j es e=>?_,λi b e=>?_⟩⟩
  .by_cases c:b=a
   .subst c;rw[aE]at e;cases e;exact hl
   .rw[aA c,gQ c]at e;exact e
  .rcases hρ0 i _ e with h|⟨_,h⟩|⟨j,d',rfl,hd,h⟩
   .cases h
   .cases h
   .cases h
    obtain⟨v,h1,h2⟩:=hv.get hd;refine⟨v,?_,h2⟩;rw[hσ,VI,UQ (by rw[Us];exact(Ux.mp h1).1),UK,h1];rfl
  .rcases hρ0 i _ e with h|⟨_,h⟩|⟨j,d',rfl,hd,h⟩<;>cases h
  .rcases hρ0 i _ e with h|⟨_,h⟩|⟨j,d',rfl,hd,h⟩<;>cases h
  .rw[hσ]
   simp only[UZ,U0,Us,Vx];omega
  .rcases hρ0 i _ e with h|⟨_,h⟩|⟨j,d',rfl,hd,h⟩<;>cases h
  .rcases hρ0 i _ e with h|⟨rfl,h⟩|⟨j,d',rfl,hd,h⟩
   .cases h
   .cases h;rw[hσ];rfl
   .cases h
 .unfold pz at q
  cases e1:s a (.pt a::ds.map Sl.sh++UJ (N.length-(ds.length+1)) .no) sl with
  |stuck|exn x=>rw[e1]at q;exact q
  |ok r=>
   rw[e1]at q;cases r with
   |nx ρ' st'=>exact λσ' H' Ha' us z h'=>q .non H' Ha' us ⟨λb o e=>h'.s.g.s _ _ (by rw[aA (by intro c;subst c;rw[eO]at e;cases e)];exact e),h'.s.g.z,h'.s.g.sub,λb h1 h2=>by
      have:=h'.s.g.nw b h1 h2
      by_cases c:b=a
      .subst c;exact eO
      .rw[aA c]at this;exact this⟩ h'.n0 h'.hl h'.r (aZ.mpr rfl)
   |rt d st'=>exact λv H' Ha' z o rp=>let ⟨us,l1,l2⟩:=o.l;q v H' Ha' us o.g o.n l1 l2 rp
   |bk ρ' st'|ct ρ' st'=>exact q.elim
section
variable {K:Ur}{He η Ha H:Hp}{σ:L2.St}{ρ:Ev}
def fj.enter(h:fj K He η Ha σ H ρ)(hi:i<ρ.length)(he:He p=none)(h0:Ha p=none)(hl:H p=some (.lst vs))(r:Reps K Ha ds vs)
  (ho:∀(j:Nat) (d:D) (q:Uy),ρ[j]?=some (.ow d)->σ[j]?=some (some (.ref q))->q≠p)(hx:∀(j k:Nat) (es:ac),ρ[j]?≠some (.ox k es)):ir K He η Ha (σ.set i (some (.ref p))) H (ρ.set i (.pt p)) p ds vs:=by
 have key:∀(j:Nat) (s:Sl),(ρ.set i (.pt p))[j]?=some s->(j=i/\s=.pt p)∨(j≠i/\ρ[j]?=some s):=λj s e=>by
  by_cases hj:i=j
  .subst hj;rw[Vg hi]at e;cases e;exact .inl ⟨rfl,rfl⟩
  .rw[UE hj]at e;exact .inr ⟨λz=>hj z.symm,e⟩
 have h0e:η p=none:=h.g.z.free h0;refine⟨he,h0e,hl,r,⟨⟨λb o e=>?_,h.g.z,h.g.sub,λb h1 h2=>?_⟩,λj d e=>?_,λj d e=>?_,λj k d d' hn e1 e2=>?_,by simp[h.ln],⟨λj k es e=>?_,λj b e=>?_⟩⟩⟩
 .by_cases c:b=p
  .subst c;rw[aE]at e;cases e;exact hl
  .rw[aA c]at e;exact h.g.s _ _ e
 .have c:b≠p:=by intro c;subst c;exact h1 h0
  rw[aA c];exact h.g.nw b h1 h2
 .rcases key j _ e with⟨_,e'⟩|⟨hj,e'⟩
  .cases e'
  .obtain⟨v,h1,h2⟩:=h.rd j d e'
   exact⟨v,by rw[UE (Vj hj)];exact h1,h2⟩
 .rcases key j _ e with⟨_,e'⟩|⟨hj,e'⟩
  .cases e'
  .obtain⟨q,h1,h2,h3,h4⟩:=h.ow j d e'
   exact⟨q,by rw[UE (Vj hj)];exact h1,by rw[aA (ho j d q e' h1)];exact h2,h3,h4⟩
 .rcases key j _ e1 with⟨_,e'⟩|⟨hj,e1'⟩
  .cases e'
  rcases key k _ e2 with⟨_,e'⟩|⟨hk,e2'⟩
  .cases e'
  rw[UE (Vj hj),UE (Vj hk)];exact h.ap j k d d' hn e1' e2'
 .rcases key j _ e with⟨_,e'⟩|⟨hj,e'⟩
  .cases e'
  .exact absurd e' (hx j k es)
 .rcases key j _ e with⟨rfl,e'⟩|⟨hj,e'⟩
  .cases e'
   rw[Vg (by rw[←h.ln];exact hi)]
  .rw[UE (Vj hj)];exact h.ex.2 j b e'
def wK(i:Nat)(ρ:Ev):Ev:=ρ.take i++UJ (ρ.length-i) .no
def Gp:(wK i ρ).length=ρ.length:=by
 unfold wK;rw[U0,VA,Vx];omega
def Kf{j:Nat}(e:(wK i ρ)[j]?=some s):s=.no∨ρ[j]?=some s:=by
 unfold wK at e
 by_cases hj:j<(ρ.take i).length
 .rw[UQ hj]at e
  rw[List.getElem?_take]at e;split at e
  .exact .inr e
  .cases e
 .rw[UW (by omega),U5]at e
  split at e
  .cases e;exact .inl rfl
  .cases e
def ir.leave{st:ac}(h:ir K He η Ha σ H ρ a st vs)(i:Nat):fj K He η Ha σ H (wK i ρ):=by
 have hn:∀b,upd He a (.lst vs) b=none->He b=none:=λb e=>by
  by_cases c:b=a
  .subst c;exact h.ha
  .rw[aA c]at e;exact e
 have key:∀(j:Nat) (s:Sl),(wK i ρ)[j]?=some s->s=.no∨ρ[j]?=some s:=λj s e=>Kf e;refine⟨⟨λb o e=>h.s.g.s _ _ (by rw[aA (by intro c;subst c;rw[h.ha]at e;cases e)];exact e),h.s.g.z,h.s.g.sub,λb h1 h2=>hn b (h.s.g.nw b h1 h2)⟩,λj d e=>?_,λj d e=>?_,λj k d d' hij e1 e2=>?_,by rw[Gp];exact h.s.ln,(h.s.ex.he hn).upd (λj s e=>?_) (aG.refl _) (λ_ _ _ e=>e) λp us _ q0 hq _=>⟨hq,q0⟩⟩
 .rcases key j _ e with h'|h'
  .cases h'
  .exact h.s.rd j d h'
 .rcases key j _ e with h'|h'
  .cases h'
  .obtain⟨q,h1,h2,h3⟩:=h.s.ow j d h'
   exact⟨q,h1,hn q h2,h3⟩
 .rcases key j _ e1 with h'|h'
  .cases h'
  rcases key k _ e2 with h''|h''
  .cases h''
  exact h.s.ap j k d d' hij h' h''
 .rcases key j _ e with h'|h'
  .exact .inr (.inr (.inl h'))
  .exact .inl ⟨h',rfl⟩
end
open Classical in
noncomputable def zZ(F:Uy->ar Fl):ar Fl:=if h:∃r,∀a,F a=r then h.choose else .stuck
def Ir(h:∀a,F a=r):zZ F=r:=by
 have hx:∃r,∀a,F a=r:=⟨r,h⟩
 unfold zZ;rw[dif_pos hx];exact(hx.choose_spec 0).symm.trans (h 0)
def Iq(h:zZ F≠.stuck)(a:Uy):F a=zZ F:=by
 unfold zZ at h ⊢
 by_cases hx:∃r,∀a,F a=r
 .rw[dif_pos hx];exact hx.choose_spec a
 .rw[dif_neg hx]at h;exact absurd rfl h
def BX(i:Nat)(r:ar fb):ar Fl:=match r with
 |.ok (.nx ρ _)=>.ok (.nx (wK i ρ))
 |.ok (.rt d _)=>.ok (.rt d)
 |.ok (.bk ρ _)=>.ok (.bk (wK i ρ))
 |.ok (.ct ρ _)=>.ok (.ct (wK i ρ))
 |_=>.stuck
def PF(ρ:Ev):Bool:=ρ.all λs=>match s with
 |.ox _ _=>false
 |_=>true
noncomputable def wC(i:Nat) (s:Uy->Ev->ac->ar fb) (ρ:Ev) (d:D):ar Fl:=match d with
 |.lst ds=>if PF ρ=true/\i<ρ.length then zZ λa=>BX i (s a (ρ.set i (.pt a)) ds) else .stuck
 |_=>.stuck
noncomputable def l6(i:Nat) (f:am) (s:Uy->Ev->ac->ar fb):bd:=λρ=>(f ρ).bind (wC i s ρ)
section
variable {X:Cx}{E:XK}{He η:Hp}{st:V6}{rest:List V6}{e:Vl}{es:List Vl}{pos:Pos}{f:am}{s:Uy->Ev->ac->ar fb}
def Dg(hN:X.N.Nodup)(hi:X.N[i]?=some x)(hx:Cm X.env.scope x)(he:DF X E e f)(hr:∀a,Kq X He η a rest (s a))(hs:VG e (some (.Name x pos')) pos.line X.env=pure false:=by rfl)
  (hf:X.fn x=true∨X.env.scope.names.lookup x=some .local := by first|exact .inl rfl|exact .inr rfl|assumption):zk X E He η (.Assign [.Name x pos'] e pos::rest) (l6 i f s):=by
 refine⟨?_⟩;have h2:vm X rest λG σ H=>∃p,RK X.K He η p (s p) G σ H:=λπ sh σ H G I ⟨p,h⟩=>(hr p).o π sh σ H G I h;refine fT (ix (nP hN hi hx he.o hs hf) h2) λG σ H z9=>?_;obtain⟨Ha,ρ,h,q⟩:=z9;refine⟨Ha,ρ,h.g.sub,h.rd,?_⟩
 unfold l6 at q;cases e1:f ρ with
 |stuck=>rw[e1]at q;exact q|exn x=>rw[e1]at q;exact λC ox H' Ha' g ex=>q C ox H' Ha' (h.g.trans g) ex
 |ok d=>
  rw[e1]at q;replace q:cG X.K E He η Ha (wC i s ρ d) G:=q;unfold wC at q;cases d with
  |lst ds=>
   simp only at q
   by_cases hc:PF ρ=true/\i<ρ.length
   .rw[if_pos hc]at q
    intro p vs H' Ha' g hp h0 hv rp;have hg:=h.grow g;have hnx:∀(j k:Nat) (es:ac),ρ[j]?≠some (.ox k es):=λj k es e=>by
     have:=Va.mp hc.1 _ (UX e);cases this
    have hm:=hg.enter (i:=i) (p:=p) (ds:=ds) (vs:=vs) hc.2 (h.g.s.free hp) h0 hv rp (λj d q' ej es'=>by
     obtain⟨q2,k1,_,_,k4⟩:=h.ow j d ej;rw[es']at k1;cases k1;cases d with
     |lst ds'|dic ks' ds'=>obtain⟨ws,k5,_⟩:=k4;intro c;subst c;rw[hp]at k5;cases k5
     |_=>exact k4.elim) hnx
    have hns:zZ (λa=>BX i (s a (ρ.set i (.pt a)) ds))≠.stuck:=λz=>by rw[z]at q;exact q
    have hF:=Iq hns p;rw[←hF]at q;refine⟨p,Ha',_,ds,vs,hm,?_⟩;replace q:=cG.grow q g.z;unfold BX at q;cases e2:s p (ρ.set i (.pt p)) ds with
    |stuck=>rw[e2]at q;exact q|exn x=>rw[e2]at q;exact q.elim
    |ok r=>
     rw[e2]at q;cases r with|nx ρ' st'=>exact λσ' H2 H02 us z h'=>q σ' H2 H02 z (h'.leave i)|rt d st'=>exact λv H2 H02 z o rp=>q v H2 H02 o.g rp|bk ρ' st'=>exact λσ' H2 H02 us z h'=>q σ' H2 H02 z (h'.leave i)|ct ρ' st'=>exact λσ' H2 H02 us z h'=>q σ' H2 H02 z (h'.leave i)
   .rw[if_neg hc]at q;exact q.elim
  |_=>exact q.elim
end
noncomputable def T2(K:Ur) (He η:Hp) (a:Uy) (src:Ev->ac->ar (ac×ac)):TI:=λσ H R=>∃Ha ρ st vs,ir K He η Ha σ H ρ a st vs/\match src ρ st with
 |.ok (ds,st')=>∀J H' Ha' us,aG Ha Ha'->ir K He η Ha' σ H' ρ a st' us->N7 K ds J Ha'->R J H'
 |.exn _=>False
 |.stuck=>False
structure MI (X:Cx) (He η:Hp) (a:Uy) (tg iter:Vl) (src:Ev->ac->ar (ac×ac)):Prop where
 o:PI X tg iter (T2 X.K He η a src)
def yj(src:Ev->ar (ac)):Ev->ac->ar (ac×ac):=λρ st=>(src ρ).bind λds=>.ok (ds,st)
def nV(p:D×ac):ar (ac×ac):=match p.1 with
 |.int j=>if -4611686018427387904<=j/\j<4611686018427387904 then .ok (intsFrom 0 j.toNat,p.2) else .stuck
 |_=>.stuck
def yi(f:Ev->ac->ar (D×ac)):Ev->ac->ar (ac×ac):=λρ st=>(f ρ st).bind nV
section
variable {X:Cx}{E:XK}{He η:Hp}{a:Uy}{st:V6}{e l b tgt iter:Vl}{rest es:List Vl}{pos:Pos}{f:am}{fm gm:Ev->ac->ar (D×ac)}{fa:Ev->ac->ar (ac×ac)}{s t:Ev->ac->ar fb}
def p7(h:DI X E tgt iter src):MI X He η a tgt iter (yj src):=⟨jW h.o λσ H R ⟨Ha,ρ,st,vs,h,q⟩=>⟨Ha,ρ,h.s.g.sub,h.s.rd,by
 unfold yj at q;cases e1:src ρ with
 |stuck=>rw[e1]at q;exact q|exn x=>rw[e1]at q;exact q.elim
 |ok ds=>
  rw[e1]at q;exact λJ H' Ha' g it=>q J H' Ha' vs g.z (h.back g.z (h.s.grow g)) it⟩⟩
def uE(hgl:Gl X "range")(hm:X.mg "range"=none)(hi:DM X He η a iter fm)(hst:Uw [iter] X.env=[(false,eval iter X.env)]:=by exact fO rfl):MI X He η a tgt (.Call (.Name "range" p) [iter] [] pos2) (yi fm):=by
 refine⟨jW (nQ hgl hm (dj hi.o fU hst) hst) λσ H R z9=>?_⟩;obtain⟨Ha,ρ,st,vs,h,q⟩:=z9;refine⟨Ha,ρ,st,vs,h,?_⟩;unfold yi at q;cases e1:fm ρ st with
 |stuck|exn x=>rw[e1]at q;exact q
 |ok pr=>
  obtain⟨d,s1⟩:=pr;rw[e1]at q;intro v H1 H01 us z h1 r1;cases d with
  |int j=>
   rw[aB.mp r1];replace q:match (if -4611686018427387904<=j/\j<4611686018427387904 then ar.ok (intsFrom 0 j.toNat,s1) else .stuck) with
    |.ok (ds,st')=>∀J H' Ha' us,aG Ha Ha'->ir X.K He η Ha' σ H' ρ a st' us->N7 X.K ds J Ha'->R J H'
    |.exn _=>False
    |.stuck=>False:=q
   by_cases hj:-4611686018427387904<=j/\j<4611686018427387904
   .rw[if_pos hj]at q
    exact⟨j,rfl,hj.1,hj.2,q _ H1 H01 us z h1 uL⟩
   .rw[if_neg hj]at q;exact q.elim
  |_=>exact q.elim
def nC.step2{K:Ur}{st:ac}(z:aG Hb Ha)(h:ir K He η Ha σ H ρ a st vs)(q:fF K He η a Ha (forM tg s (ds.drop i) ρ st) D')(hd:ds[i]?=some d)(rv:Rep K Ha d v)
  (he:∀ρ,tg ρ d=.stuck∨∃ρ',tg ρ d=.ok ρ') :
  Si K He η a tg v σ H λσ2 H2=>RK K He η a s { D' with nx:=nC K He η a Hb tg s ds D' (i+1),ct:=nC K He η a Hb tg s ds D' (i+1),bk:=D'.nx } σ2 H2:=by
 have hi:i<ds.length:=(Ux.mp hd).1;have hdr:ds.drop i=d::ds.drop (i+1):=by
  rw[Vk hi];rw[Ut hi]at hd;cases hd;rfl
 rw[hdr]at q;refine⟨Ha,ρ,st,vs,d,h,rv,?_⟩;unfold forM at q;rcases he ρ with e1|⟨ρ1,e1⟩
 .rw[e1]at q;exact q.elim
 .rw[e1]at q ⊢
  intro σ' H' Ha' z' h';refine⟨Ha',ρ1,st,vs,h',?_⟩;replace q:=fF.grow (r:=(s ρ1 st).bind λx=>match x with
   |.nx ρ2 s2=>forM tg s (ds.drop (i+1)) ρ2 s2
   |.ct ρ2 s2=>forM tg s (ds.drop (i+1)) ρ2 s2
   |.bk ρ2 s2=>.ok (.nx ρ2 s2)
   |.rt d s=>.ok (.rt d s)) q z'
  cases e2:s ρ1 st with
  |stuck|exn x=>rw[e2]at q;exact q
  |ok r=>
   rw[e2]at q;cases r with|nx ρ2 s2=>exact λσ3 H3 H03 vs3 z3 h3=>⟨H03,ρ2,s2,vs3,(z.trans z').trans z3,h3,fF.grow (r:=forM tg s (ds.drop (i+1)) ρ2 s2) q z3⟩|ct ρ2 s2=>exact λσ3 H3 H03 vs3 z3 h3=>⟨H03,ρ2,s2,vs3,(z.trans z').trans z3,h3,fF.grow (r:=forM tg s (ds.drop (i+1)) ρ2 s2) q z3⟩|bk ρ2 s2|rt d s2=>exact q
def oO(src:Ev->ac->ar (ac×ac))(tg:Ev->D->ar Ev)(s:Ev->ac->ar fb):Ev->ac->ar fb:=λρ st=>(src ρ st).bind λp=>forM tg s p.1 ρ p.2
def pS(hp:PassesOwn (UT X.prog X.w) X.A X.env X.xe)(hc:X.calm=true)(hi:MI X He η a tgt iter src)(hg:∀vs,DG X E (upd He a (.lst vs)) η tgt tg)(ht:vi tg)(hb:Kq X He η a body s)
  (hs:∀x,foldedSetIterable iter X.env x=pure x:=by intro _;rfl):SM X He η a (.For tgt iter body [] pos) (oO src tg s):=by
 refine⟨b4 (vL hp hc hi.o (Pq hg) hb.o hs) λD' σ H z9=>?_⟩;obtain⟨Ha,ρ,st,vs,h,q⟩:=z9;refine⟨Ha,ρ,st,vs,h,?_⟩;unfold oO at q;cases e1:src ρ st with
 |stuck|exn x=>rw[e1]at q;exact q
 |ok pr=>
  obtain⟨ds,s1⟩:=pr;rw[e1]at q;intro J H1 H01 us z h1 it;have q1:fF X.K He η a H01 (forM tg s ds ρ s1) D':=fF.grow (r:=forM tg s ds ρ s1) q z;refine⟨λi m σ' H'=>m+i=ds.length/\nC X.K He η a H01 tg s ds D' i σ' H',⟨ds.length,rfl,H01,ρ,s1,us,aG.refl _,h1,q1⟩,?_⟩;rintro i m σ' H' ⟨hm,Ha',ρ',st',vs',z',h',hq⟩
  by_cases hlt:i<ds.length
  .refine .inr ⟨it.go i H' Ha' z' h'.s.g.sub hlt,λσ2 H2=>nC X.K He η a H01 tg s ds D' (i+1) σ2 H2,λσ2 H2 hl=>⟨m-1,by omega,by omega,hl⟩,λx H2 hy=>?_⟩
   obtain⟨H₀2,g2,rp⟩:=it.yld i H' Ha' x H2 ds[i] z' h'.s.g.sub (Ut hlt) hy;exact nC.step2 (z'.trans g2.z) (h'.back g2.z (h'.s.grow g2)) (fF.grow (r:=forM tg s (ds.drop i) ρ' st') hq g2.z) (Ut hlt) rp λρ=>ht ρ _
  .have e:i=ds.length:=by omega
   refine .inl ⟨it.stop i H' Ha' z' h'.s.g.sub (by omega),?_⟩;subst e;exact nC.done ⟨Ha',ρ',st',vs',z',h',hq⟩
def NT:g9 X E (λxs H1 Q=>xs.length<=sizeLine/\∀p,H1 p=none->Q (.ref p) (upd H1 p (.lst xs))) b5:=λds vs H Ha Q hs hr q=>by
 unfold b5 at q
 by_cases hl:ds.length<=line
 .rw[if_pos hl]at q
  refine⟨by rw[←hr.length];exact eg hl,λp hp=>q _ _ _ (aR hs hp) (aJ.mpr ⟨p,vs,rfl,fM.of aE,hr.mono (aR hs hp).z⟩)⟩
 .rw[if_neg hl]at q;exact q.elim
def wG(h:Kt X He η a es fa):DM X He η a (.List es pos) (mA fa b5):=⟨bc (zI h.o) (td (E:=λ_ _ _=>True) NT)⟩
end
def Lu(s:Option Sl):Sl:=match s with
 |some (.sh d)=>.sh d
 |some (.pt b)=>.pt b
 |_=>.no
def fK(n:Nat)(fr:bv)(ρ:Ev):Ev:=UJ n .no++fr.map λ(i:Nat)=>Lu ρ[i]?
def jH(b:Ev)(tg:Ev->D->ar Ev)(fm:Ev->ac->ar (D×ac)):ac->ac->ar (ac×ac)
 |[],st=>.ok ([],st)
 |d::r,st=>(tg b d).bind λρ1=>(fm ρ1 st).bind λp=>(jH b tg fm r p.2).bind λq=>.ok (p.1::q.1,q.2)
def ml(b:Ev)(tg:Ev->D->ar Ev)(fm:Ev->ac->ar (D×ac))(p:ac×ac):ar (D×ac):=if p.1.length<=line then(jH b tg fm p.1 p.2).bind λq=>.ok (.lst q.1,q.2) else .stuck
def nq(n:Nat)(fr:bv)(src:Ev->ac->ar (ac×ac))(tg:Ev->D->ar Ev)(fm:Ev->ac->ar (D×ac)):Ev->ac->ar (D×ac):=λρ st=>(src ρ st).bind (ml (fK n fr ρ) tg fm)
def Dx{fr:bv}:(fK n fr ρ).length=n+fr.length:=by unfold fK;simp
def sR{fr:bv}(h:k<n):(fK n fr ρ)[k]?=some .no:=by
 unfold fK;rw[UQ (by simpa using h),U5,if_pos h]
def sS{fr:bv}(h:¬k<n)(e:(fK n fr ρ)[k]?=some s):∃j,fr[k-n]?=some j/\s=Lu ρ[j]?:=by
 unfold fK at e;rw[UW (by simpa using h),Vx,UK]at e;cases hf:fr[k-n]? with|none=>rw[hf]at e;cases e|some j=>rw[hf]at e;cases e;exact⟨j,rfl,rfl⟩
def Lr(h:Sl.sh d=Lu s):s=some (.sh d):=by
 unfold Lu at h;split at h<;>cases h
 rfl
def Ls(h:Sl.pt b=Lu s):s=some (.pt b):=by
 unfold Lu at h;split at h<;>cases h
 rfl
def Gw{fr:bv}(h:¬k<n)(hf:fr[k-n]?=some j)(hs:σ[j]?=some (some v)):(kr n fr σ)[k]?=some (some v):=by
 unfold kr;rw[UW (by simpa using h),Vx,UK,hf];simp[hs]
def vn{K:Ur}{st:ac}(ha:He a=none)(h0:η a=none)(hl:H a=some (.lst vs))(r:Reps K Ha st vs)(g:bI (upd He a (.lst vs)) η H Ha)(rd:Reads K Ha σ ρ)
  (no:∀(j:Nat) (s:Sl),ρ[j]?=some s->s=.no∨(∃d,s=.sh d)∨∃b,s=.pt b/\σ[j]?=some (some (.ref b)))(ln:ρ.length=σ.length):ir K He η Ha σ H ρ a st vs:=by
 refine⟨ha,h0,hl,r,⟨g,rd,λi d e=>?_,λi j d d' _ e=>?_,ln,OX.none (λi j ds e=>?_) λi b e=>?_⟩⟩
 .rcases no i _ e with h|⟨_,h⟩|⟨_,h,_⟩<;>cases h
 .rcases no i _ e with h|⟨_,h⟩|⟨_,h,_⟩<;>cases h
 .rcases no i _ e with h|⟨_,h⟩|⟨_,h,_⟩<;>cases h
 .rcases no i _ e with h|⟨_,h⟩|⟨_,h,h'⟩
  .cases h
  .cases h
  .cases h;exact h'
def FI(K:Ur)(a:Uy)(tg:Ev->D->ar Ev):TG:=λv σ H Q=>∃He η,Si K He η a tg v σ H Q
def Ek(K:Ur)(a:Uy)(fm:Ev->ac->ar (D×ac)):TE:=λσ H Q=>∃He η,tM K He η a fm σ H Q
def AD{r st es stF:ac}(h:jH b tg fm (d::r) st=.ok (es,stF)):∃ρ1 y s1 rest,tg b d=.ok ρ1/\fm ρ1 st=.ok (y,s1)/\jH b tg fm r s1=.ok (rest,stF)/\es=y::rest:=by
 unfold jH at h;cases e1:tg b d with
 |stuck|exn x=>rw[e1]at h;cases h
 |ok ρ1=>
  rw[e1]at h;simp only[ar.bind]at h;cases e2:fm ρ1 st with
  |stuck|exn x=>rw[e2]at h;cases h
  |ok p=>
   obtain⟨y,s1⟩:=p;rw[e2]at h;simp only at h;cases e3:jH b tg fm r s1 with
   |stuck|exn x=>rw[e3]at h;cases h
   |ok q=>
    obtain⟨rest,sF⟩:=q;rw[e3]at h;cases h;exact⟨ρ1,y,s1,rest,rfl,e2,e3,rfl⟩
def yT{K:Ur}{fr:bv}(h1:ir K He η H01 σ H1 ρ a st0 us0)(it:N7 K ds J H01)(hl:ds.length<=line)
  (e2:jH (fK n fr ρ) tg fm ds st0=.ok (es,stF))(hok:za n tg)
  (q:∀p xs H' Ha' us',bI (Dd a H1) H01 H' Ha'->Ha' a=none->H' a=some (.lst us')->Reps K Ha' stF us'->H1 p=none->Ha' p=none->H' p=some (.lst xs)->Reps K Ha' es xs->Q (.ref p) H') :
  qp n fr (FI K a tg) Ej (Ek K a fm) J σ H1 Q:=by
 intro Da hDa;have h0D:H01 Da=none:=h1.s.g.sub.free hDa;have aD:a≠Da:=λz=>by have:=h1.hl;rw[z,hDa]at this;cases this
 have nob:∀{σ':L2.St}(_:∀(k:Nat),¬k<n->∀b,(fK n fr ρ)[k]?=some (.pt b)->σ'[k]?=some (some (.ref b))) (j:Nat) (s:Sl),(fK n fr ρ)[j]?=some s->s=.no∨(∃d,s=.sh d)∨∃b,s=.pt b/\σ'[j]?=some (some (.ref b)):=λ{σ'} hp j s e=>by
  by_cases hj:j<n
  .rw[sR hj]at e;cases e;exact .inl rfl
  .obtain⟨i,_,hs⟩:=sS hj e
   cases s with
   |no=>exact .inl rfl|sh d=>exact .inr (.inl ⟨d,rfl⟩)|pt b=>exact .inr (.inr ⟨b,rfl,hp j hj b e⟩)
   |_=>unfold Lu at hs;split at hs<;>cases hs
 refine⟨λi m ys σ' H'=>m=ds.length-i/\i<=ds.length/\∃Ha' st' us' es1 rest,ir K (upd (Dd a H1) Da (.lst ys)) H01 Ha' σ' H' (fK n fr ρ) a st' us'/\Reps K Ha' es1 ys/\es1.length=i/\jH (fK n fr ρ) tg fm (ds.drop i) st'=.ok (rest,stF)/\es=es1++rest,
  ⟨ds.length,by simp,Wx _,H01,st0,us0,[],es,?_,Reps.nil,rfl,by rw[VR];exact e2,rfl⟩,?_⟩
 .refine vn (by rw[aA aD];exact eO) h1.n0 (by rw[aA aD];exact h1.hl) h1.r ⟨λb o e=>?_,aG.refl _,λb o e=>?_,λb k1 k2=>absurd k2 k1⟩ (λk d e=>?_) (nob λk hk b e=>?_) (by unfold kr;rw[Dx];simp)
  .by_cases c:b=a
   .subst c;rw[aE]at e;cases e;rw[aA aD];exact h1.hl
   .rw[aA c]at e
    by_cases c2:b=Da
    .subst c2;rw[aE]at e ⊢;exact e
    .rw[aA c2]at e ⊢;rw[gQ c]at e;exact e
  .rw[aA (by intro z;subst z;rw[h0D]at e;cases e)];exact h1.s.g.sub _ _ e
  .by_cases hk:k<n
   .rw[sR hk]at e;cases e
   .obtain⟨j,hf,hs⟩:=sS hk e
    obtain⟨v,k1,k2⟩:=h1.s.rd j d (Lr hs);exact⟨v,Gw hk hf k1,k2⟩
  .obtain⟨j,hf,hs⟩:=sS hk e
   exact Gw hk hf (h1.s.ex.2 j b (Ls hs))
 .rintro i m ys σ' H' ⟨rfl,hile,Ha',st',us',es1,rest,h',hys,hle,hco,hes⟩
  have hDl:H' Da=some (.lst ys):=h'.s.g.s _ _ (by rw[aA (Vj aD),aE]);refine⟨hDl,?_⟩
  by_cases hlt:i<ds.length
  .refine .inr ⟨it.go i H' Ha' h'.s.g.z h'.s.g.sub hlt,?_,?_⟩
   .rw[←hys.length,hle]
    have h2:line<sizeLine:=by decide
    omega
   .intro x H2 hy
    obtain⟨H₀2,g2,rp⟩:=it.yld i H' Ha' x H2 ds[i] h'.s.g.z h'.s.g.sub (Ut hlt) hy;have hm2:=h'.back g2.z (h'.s.grow g2);rw[Vk hlt]at hco;obtain⟨ρ1,y,s1,rest',t1,t2,t3,t4⟩:=AD hco;refine⟨_,_,H₀2,fK n fr ρ,st',us',ds[i],hm2,rp,?_⟩;rw[t1];intro σ3 H3 H03 z3 h3;unfold Ej;dsimp only;rw[if_pos rfl];refine⟨_,_,H03,ρ1,st',us',h3,?_⟩;rw[t2];intro yv H5 H05 us5 z5 h5 ry;have hD5:H5 Da=some (.lst ys):=h5.s.g.s _ _ (by rw[aA (Vj aD),aE]);have n5:H05 Da=none:=by
     cases qq:H05 Da with|none=>rfl|some o=>have:=h5.s.g.nw Da (by rw[qq];simp) h0D;rw[aA (Vj aD),aE]at this;cases this
    have hrl:=hok _ _ _ t1;refine⟨hD5,ds.length-(i+1),by omega,rfl,hlt,H05,s1,us5,es1++[y],rest',?_,(hys.mono ((g2.z.trans z3).trans z5)).app (Reps.cons ry Reps.nil),by simp[hle],t3,by rw[hes,t4];simp⟩;refine vn (by rw[aA aD];exact eO) h1.n0 (by rw[aA aD];exact h5.hl) h5.r ⟨λb o e=>?_,h5.s.g.z,λb o e=>?_,λb k1 k2=>?_⟩ (λk d e=>?_) (nob λk hk b e=>?_) (by rw[←h5.s.ln,hrl.1])
    .by_cases c:b=a
     .subst c;rw[aE]at e;cases e;rw[aA aD];exact h5.hl
     .rw[aA c]at e
      by_cases c2:b=Da
      .subst c2;rw[aE]at e ⊢;exact e
      .rw[aA c2]at e ⊢
       exact h5.s.g.s _ _ (by rw[aA c,aA c2];exact e)
    .rw[aA (by intro z;subst z;rw[n5]at e;cases e)];exact h5.s.g.sub _ _ e
    .have:=h5.s.g.nw b k1 k2
     by_cases c:b=a
     .subst c;rw[aE]at this;cases this
     .rw[aA c]at this ⊢
      by_cases c2:b=Da
      .subst c2;rw[aE]at this;cases this
      .rw[aA c2]at this ⊢;exact this
    .by_cases hk:k<n
     .rw[sR hk]at e;cases e
     .rw[←hrl.2 k (by omega)]at e
      exact h5.s.rd k d e
    .rw[←hrl.2 k (by omega)]at e
     exact h5.s.ex.2 k b e
  .have hi2:i=ds.length:=by omega
   refine .inl ⟨it.stop i H' Ha' h'.s.g.z h'.s.g.sub (by omega),?_⟩;rw[hi2,Wu]at hco;cases hco;rw[Vd]at hes;subst hes;refine q Da ys H' Ha' us' ⟨λb o e=>?_,h'.s.g.z,h'.s.g.sub,λb k1 k2=>?_⟩ h'.n0 h'.hl h'.r hDa ?_ hDl hys
   .have c:b≠a:=by intro c;subst c;rw[eO]at e;cases e
    have c2:b≠Da:=by intro c2;subst c2;rw[gQ c,hDa]at e;cases e
    exact h'.s.g.s _ _ (by rw[aA c,aA c2];exact e)
   .have:=h'.s.g.nw b k1 k2
    by_cases c:b=a
    .subst c;exact eO
    .rw[aA c]at this
     by_cases c2:b=Da
     .subst c2;rw[aE]at this;cases this
     .rw[aA c2]at this;exact this
   .cases qq:Ha' Da with
    |none=>rfl
    |some o=>have:=h'.s.g.nw Da (by rw[qq];simp) h0D;rw[aA (Vj aD),aE]at this;cases this
noncomputable def Sf(K:Ur) (He η:Hp) (a:Uy) (f:Ev->ac->ar (D×ac)):TE:=λσ H Q=>∃Ha ρ st vs,ir K He η Ha σ H ρ a st vs/\match f ρ st with
 |.ok (.lst ds,st')=>∀p xs H1 H01 st1 us1 H' Ha' us,aG Ha H01->ir K He η H01 σ H1 ρ a st1 us1->bI (Dd a H1) H01 H' Ha'->Ha' a=none->H' a=some (.lst us)->Reps K Ha' st' us->H1 p=none->Ha' p=none->H' p=some (.lst xs)->Reps K Ha' ds xs->Q (.ref p) H'
 |.ok _=>False
 |.exn _=>False
 |.stuck=>False
structure RV (X:Cx) (He η:Hp) (a:Uy) (e:Vl) (f:Ev->ac->ar (D×ac)):Prop where
 ev:PE X e (Sf X.K He η a f)
 st:∀{i:Nat}{x:UP}{pos' spos:Pos},X.N.Nodup->X.N[i]?=some x->X.env.scope.names.lookup x=some .local -> VG e (some (.Name x pos')) spos.line X.env=pure true->PS X (.Assign [.Name x pos'] e spos) (HB (Sf X.K He η a f) (BP i))
def T9(N:bi)(n:Nat)(fr:bv)(hc:X.calm=true)(hi:MI X He η a tgt iter src)(hok:za n tg)
  (blk:∀s H C fp pn,(∀He η,DG (dJ X N scope s H C fp pn) E He η tgt tg)/\∀He η,DM (dJ X N scope s H C fp pn) He η a elt fm)
  (hfr:AO X N n fr scope)(hcell:∀x∈scope.names,x.2≠.cell)(hfree:∀x∈scope.names,x.2=.free->X.env.scope.names.lookup x.1=some .cell)(hkind:scope.kind=.function)(hnames:∀x∈scope.names,x.2=.local -> scope.names.lookup x.1=some .local)
  (hs:∀x,foldedSetIterable iter X.env x=pure x:=by intro _;rfl):RV X He η a (.ListComp elt [⟨tgt,iter,[],0⟩] scope pos) (nq n fr src tg fm):=by
 have blk':∀s H C fp pn,PG (dJ X N scope s H C fp pn) tgt (FI X.K a tg)/\OB (dJ X N scope s H C fp pn) [] Ej/\PE (dJ X N scope s H C fp pn) elt (Ek X.K a fm):=λs H C fp pn=>
  ⟨λπ s' σ' H' v u Q' I r ⟨He,η,q'⟩=>(Pq (X:=dJ X N scope s H C fp pn) λvs=>(blk s H C fp pn).1 _ _) π s' σ' H' v u Q' I r q',Bh,λπ s' σ' H' Q' I ⟨He,η,q'⟩=>((blk s H C fp pn).2 He η).o π s' σ' H' Q' I q'⟩
 have first:∀{π:List (Uy×Obj)}{s:UD}{σ:L2.St}{H:Hp}{Q:VK}{RR:Up->Uy->Zj->UD->Prop},L2.Inv X π σ H s->Sf X.K He η a (nq n fr src tg fm) σ H Q ->
   (∀(Da C:Uy) (s6:UD) (H5:Hp) (m:UP->Option Up),L2.Inv X π σ H5 s6->s6.heap.Ns C m->nE X π H5 C->Q (.ref Da) H5->RR (.ref Da) C (.ok .next) s6) ->
   UR (UT X.prog X.w) X.A (eval iter X.env) (λx sg=>UR (UT X.prog X.w) X.A (pyIter x) (λit si=>UR (UT X.prog X.w) X.A (newList []) (λacc sj=>
    UR (UT X.prog X.w) X.A (newFunctionEnv scope X.env.globals (iP X.env.cells scope.names []) [] X.env.qual none .none (some X.env)) (λcenv sk=>
     Wz (UT X.prog X.w) X.A (.compStart (.ListComp elt [⟨tgt,iter,[],0⟩] scope pos) 0 it acc { cenv with scope:=relabel scope X.env }) (RR acc cenv.locals) sk) X.xe sj) X.xe si) X.xe sg) X.xe s:=by
  intro π s σ H Q RR I ⟨Ha,ρ,st,vs,h,q⟩ fin;refine dz (hi.o π s σ H (λJ H1=>qp n fr (FI X.K a tg) Ej (Ek X.K a fm) J σ H1 Q) I ⟨Ha,ρ,st,vs,h,?_⟩) λv s1 h1=>dz h1 λitv s2 h2=>uX (N:=N) hc hfr hcell hfree hkind blk' h2 fin;unfold nq at q;cases e1:src ρ st with
  |stuck|exn x=>rw[e1]at q;exact q
  |ok pr=>
   obtain⟨ds,st1⟩:=pr;rw[e1]at q;intro J H1 H01 us z h1 it;replace q:match (if ds.length<=line then(jH (fK n fr ρ) tg fm ds st1).bind λq=>ar.ok (D.lst q.1,q.2) else .stuck) with
    |.ok (.lst ds,st')=>∀p xs H1 H01 st1 us1 H' Ha' us,aG Ha H01->ir X.K He η H01 σ H1 ρ a st1 us1->bI (Dd a H1) H01 H' Ha'->Ha' a=none->H' a=some (.lst us)->Reps X.K Ha' st' us->H1 p=none->Ha' p=none->H' p=some (.lst xs)->Reps X.K Ha' ds xs->Q (.ref p) H'
    |.ok _=>False
    |.exn _=>False
    |.stuck=>False:=q
   by_cases hl:ds.length<=line
   .rw[if_pos hl]at q
    cases e2:jH (fK n fr ρ) tg fm ds st1 with
    |stuck|exn x=>rw[e2]at q;exact q.elim
    |ok pr2=>
     obtain⟨es,stF⟩:=pr2;rw[e2]at q;exact yT h1 it hl e2 hok λp xs H' Ha' us' g n' hl' r' hp h0 hv rp=>q p xs H1 H01 st1 us H' Ha' us' z h1 g n' hl' r' hp h0 hv rp
   .rw[if_neg hl]at q;exact q.elim
 have hcl:∀{π:List (Uy×Obj)}{s:UD}{σ:L2.St}{H:Hp},L2.Inv X π σ H s->closureFor scope X.env=pure (iP X.env.cells scope.names []):=λ{π s σ H} I=>lW λy hy hf=>I.ok.has y.1 (.inl (hfree y hy hf));refine⟨λπ s σ H Q I h=>?_,λ{i x pos' spos} hN hi' hx hsw π s σ H D' I h=>?_⟩
 .rw[eval_ListComp]
  refine wpAny_comprehension_free (use:=none) rfl hs (hcl I) hkind hnames (first (RR:=λacc C=>compPost (UT X.prog X.w) X.A X.xe none (EP X π σ Q) acc C) I h λDa C s6 H5 m I6 ns fC q=>?_);refine⟨m,ns,λh' sb=>⟨.ref Da,H5,?_,rfl,q⟩⟩;exact I6.turned (t':=s6.toks) (it:=C) (λb o hb e=>(sb.2 b hb).trans e) fC.1 fC.2.1 fC.2.2.2.1 fC.2.2.2.2.1 fC.2.2.2.2.2
 .rw[exec_Assign_Name_used _ _ _ _ hsw]
  refine Uv (wpAny_standAt (Uv ?_));show UR _ X.A (do let _ ←comprehension (.ListComp elt [⟨tgt,iter,[],0⟩] scope pos) scope X.env _ (newList []) false (eval iter X.env) (some (assign (.Name x pos') X.env))) _ _ s;refine Uv (VD (wpAny_comprehension_free (use:=some (assign (.Name x pos') X.env)) (Q:=λ_ s'=>SP X π D' .next s') rfl hs (hcl I) hkind hnames
   (first (RR:=λacc C=>compPost (UT X.prog X.w) X.A X.xe (some (assign (.Name x pos') X.env)) (λ_ s'=>SP X π D' .next s') acc C) I h λDa C s6 H5 m I6 ns fC q=>?_)) (λ_ s' hq=>UY (UY hq)) λ_ _ e=>e)
  show UR _ X.A (assign (.Name x pos') X.env (.ref Da)) _ _ _;refine wpAny_assign_Name (nK (v:=.ref Da) I6 hN hi' (.inl hx) rfl (λs' I' z9=>?_) (.inr hx));obtain⟨a,sb,ha⟩:=z9;have hCa:C≠a:=by
   rcases ha with rfl|ha
   .exact fC.2.1
   .exact λz=>fC.2.2.2.2.1 x a ha z.symm
  refine⟨m,ns.sameBut sb hCa,λh' sb'=>⟨_,H5,?_,q⟩⟩;exact I'.turned (t':=s'.toks) (it:=C) (λb o hb e=>(sb'.2 b hb).trans e) fC.1 fC.2.1 fC.2.2.2.1 fC.2.2.2.2.1 fC.2.2.2.2.2
def sA{fr:bv}:∀ρ st d s',nq n fr src tg fm ρ st=.ok (d,s')->∃ds,d=.lst ds:=λρ st d s' h=>by
 unfold nq at h;cases e1:src ρ st with
 |stuck|exn x=>rw[e1]at h;cases h
 |ok pr=>
  rw[e1]at h;simp only[ar.bind,ml]at h
  by_cases hl:pr.1.length<=line
  .rw[if_pos hl]at h
   cases e2:jH (fK n fr ρ) tg fm pr.1 pr.2 with|stuck|exn x=>rw[e2]at h;cases h|ok q=>rw[e2]at h;cases h;exact⟨_,rfl⟩
  .rw[if_neg hl]at h;cases h
def ir.addL{K:Ur}(h1:ir K He η H01 σ H1 ρ a st1 us1)(g:bI (Dd a H1) H01 H' Ha')(n:Ha' a=none)(hl:H' a=some (.lst us))(r:Reps K Ha' st' us)(hp:H1 p=none)(h0:Ha' p=none)(hv:H' p=some (.lst xs))(rp:Reps K Ha' ds xs) :
  aG H01 (upd Ha' p (.lst xs))/\ir K He η (upd Ha' p (.lst xs)) σ H' ρ a st' us/\Rep K (upd Ha' p (.lst xs)) (.lst ds) (.ref p):=by
 have pa:a≠p:=λz=>by have:=h1.hl;rw[z,hp]at this;cases this
 have z:aG Ha' (upd Ha' p (.lst xs)):=λb o e=>by rw[aA (by intro z;subst z;rw[h0]at e;cases e)];exact e
 have g':bI (Dd a H1) H01 H' (upd Ha' p (.lst xs)):=⟨g.s,g.z.trans z,λb o e=>by
  by_cases c:b=p
  .subst c;rw[aE]at e;cases e;exact hv
  .rw[aA c]at e;exact g.sub _ _ e,λb k1 k2=>by
  by_cases c:b=p
  .subst c;rw[gQ (Vj pa)];exact hp
  .rw[aA c]at k1;exact g.nw b k1 k2⟩
 exact⟨g'.z,h1.change g' (by rw[aA pa];exact n) hl (r.mono z),aJ.mpr ⟨p,xs,rfl,fM.of aE,rp.mono z⟩⟩
section
variable {X:Cx}{E:XK}{He η:Hp}{a:Uy}{e:Vl}{pos:Pos}{fm:Ev->ac->ar (D×ac)}
def Q1(h:RV X He η a e fm)(ho:∀ρ st d s',fm ρ st=.ok (d,s')->∃ds,d=.lst ds):DM X He η a e fm:=⟨bc h.ev λσ H Q ⟨Ha,ρ,st,vs,h,q⟩=>⟨Ha,ρ,st,vs,h,by
 cases e1:fm ρ st with
 |stuck|exn x=>rw[e1]at q;exact q
 |ok pr=>
  obtain⟨d,s1⟩:=pr;obtain⟨ds,rfl⟩:=ho _ _ _ _ e1;rw[e1]at q;intro p xs H1 H01 st1 us1 H' Ha' us z h1 g n hl r hp h0 hv rp;obtain⟨k1,k2,k3⟩:=h1.addL g n hl r hp h0 hv rp;exact q _ H' _ us (z.trans k1) k2 k3⟩⟩
def HF(hN:X.N.Nodup)(hi:X.N[i]?=some x)(hx:X.env.scope.names.lookup x=some .local)(h:RV X He η a e fm)(ho:∀ρ st d s',fm ρ st=.ok (d,s')->∃ds,d=.lst ds)(hs:VG e (some (.Name x pos')) pos.line X.env=pure true:=by rfl):SM X He η a (.Assign [.Name x pos'] e pos) (ey i fm):=by
 refine⟨b4 (h.st hN hi hx hs) λD' σ H z9=>?_⟩;obtain⟨Ha,ρ,st,vs,h,q⟩:=z9;refine⟨Ha,ρ,st,vs,h,?_⟩;unfold ey at q;cases e1:fm ρ st with
 |stuck|exn x=>rw[e1]at q;exact q
 |ok pr=>
  obtain⟨d,s1⟩:=pr;obtain⟨ds,rfl⟩:=ho _ _ _ _ e1;rw[e1]at q;intro p xs H1 H01 st1 us1 H' Ha' us z h1 g n hl r hp h0 hv rp;obtain⟨k1,k2,k3⟩:=h1.addL g n hl r hp h0 hv rp;exact q _ H' _ us (z.trans k1) (k2.back (aG.refl _) (k2.s.put k3))
end
mutual
def gj:D->Option Vc
 |.non=>some .none
 |.bl b=>some (.bool b)
 |.int i=>some (.int i)
 |.str x=>some (.str x)
 |.tup ds=>(toPys ds).map PyData.tuple
 |.lst ds=>(toPys ds).map PyData.list
 |.dic ks ds=>(toPys ds).map λps=>.dict ((ks.map PyData.str).zip ps)
 |.exc _=>none
 |.ob k ds=>match k with
  |.dint ks=>(toPys ds).map λps=>.dict ((ks.map Xx).zip ps)
  |_=>none
def toPys:ac->Option (List Vc)
 |[]=>some []
 |d::ds=>match gj d,toPys ds with
  |some x,some xs=>some (x::xs)
  |_,_=>none
end
section
variable {X:Cx}{E:XK}{π:List (Uy×Obj)}{σ:L2.St}{H:Hp}{s:UD}
def Iu(I:L2.Inv X π σ H s)(h:fM X.K H a vs):a≠Wy:=by
 intro z;subst z;obtain⟨mm,o,es,ep,e,hd,_⟩:=I.ok.mod.sm;have:=(I.bs _ _ e).2;rcases h with h|⟨o',_,_,h1,h2,_,h3,_⟩
 .rcases h with h|⟨_,h⟩<;>(rw[this]at h;cases h)
 .have e':=I.ok.mod.kin _ _ h1
  rw[e]at e';cases e';rw[hd]at h3;cases h3
theorem nI:∀{ds:ac}{ps:List Vc},toPys ds=some ps->ps.length=ds.length
 |[],ps,e=>by rw[toPys]at e;cases e;rfl
 |d::ds,ps,e=>by
  rw[toPys]at e;cases e1:gj d with
  |none=>rw[e1]at e;cases e
  |some p=>
   cases e2:toPys ds with|none=>rw[e1,e2]at e;cases e|some qs=>rw[e1,e2]at e;cases e;simp[nI e2]
def Bc:Key->Vc
 |.inl i=>.int i
 |.inr x=>.str x
theorem BF:∀{ks:List Key}{vs:al}{us:List (Key×Up)},KV (ks.zip vs) us->ks.length=vs.length->bz vs (us.map (·.2))/\us.map (·.1)=ks
 |[],[],_,.nil,_=>⟨.nil,rfl⟩
 |k::ks,v::vs,_,.cons ⟨a,b⟩ t,h=>by
  obtain⟨h1,h2⟩:=BF (ks:=ks) (vs:=vs) t (by simpa using h);exact⟨.cons b h1,by rw[UG,h2,←a]⟩
theorem oC{h:UO}:∀{es:List Zd}{us:List (Key×Up)},Pairs (mixKind prog w) es us->X1 h (es.map (·.key)) ((us.map (·.1)).map Bc) []/\es.map (·.val)=us.map (·.2)
 |_,_,.nil=>⟨.nil,rfl⟩
 |_,_,.cons (e:=e) (kv:=kv) a b t=>by
  obtain⟨h1,h2⟩:=oC t;refine⟨?_,by rw[UG,UG,h2,b]⟩;have hk:ZH h e.key (Bc kv.1) []:=by
   rcases c5 (show rh kv.1 e.key=true from a) with⟨i,t,e1,e2⟩|⟨x,t,e1,e2⟩
   .rw[e1,e2];exact .int i t
   .rw[e1,e2];exact .str x t
  exact X1.cons hk h1
theorem AS{α β:Type}:∀{xs:List α}{ys:List β},xs.length=ys.length->(xs.zip ys).map (·.1)=xs/\(xs.zip ys).map (·.2)=ys
 |[],[],_=>⟨rfl,rfl⟩
 |x::xs,y::ys,h=>by
  obtain⟨h1,h2⟩:=AS (xs:=xs) (ys:=ys) (by simpa using h);exact⟨by rw[VJ,UG,h1],by rw[VJ,UG,h2]⟩
def qB(I:L2.Inv X π σ H s){ks:List Key}{ps:List Vc}{bs:List Uy}(h2:Rd H a (.dK (ks.zip vs)))(h4:ks.length=vs.length)(hl:ps.length=ks.length)
  (hr:∀us,bz vs us->∃bs,X1 s.heap us ps bs/\Wy∉bs):∃as,ZH s.heap (.ref a) (.dict ((ks.map Bc).zip ps)) as/\Wy∉as:=by
 obtain⟨_,n1,us,k1,d1⟩:=(show c7 X.prog X.w H s.heap a (.dK (ks.zip vs)) from h2.ok I.hok)
 obtain⟨o,es,ep,e1,e2,e3,_,e5,_⟩:=d1;obtain⟨hv,hk⟩:=BF k1 h4;obtain⟨bs,r1,m1⟩:=hr _ hv;obtain⟨p1,p2⟩:=oC (h:=s.heap) e5;obtain⟨z1,z2⟩:=AS (xs:=ks.map Bc) (ys:=ps) (by rw[Us,hl]);refine⟨_,.dict e1 e2.1 e3 (as:=[]) (bs:=bs) (by rw[z1,←hk];exact p1) (by rw[z2,p2];exact r1),?_⟩;simp only[Vd,Xe,Wl,UI,not_or];exact⟨λz=>by rw[←z]at n1;simp at n1,m1⟩
mutual
theorem xJ(I:L2.Inv X π σ H s):∀(d:D) (v:V) (u:Up) (p:Vc),Rep X.K H d v->b3 v u->gj d=some p->∃as,ZH s.heap u p as/\Wy∉as
 |.non,v,u,p,r,rv,e=>by
  rw[gj]at e;cases e;rw[aZ.mp r]at rv;cases rv;exact⟨_,.none,by simp⟩
 |.bl b,v,u,p,r,rv,e=>by
  rw[gj]at e;cases e;rw[aL.mp r]at rv;cases rv;exact⟨_,.bool b,by simp⟩
 |.int i,v,u,p,r,rv,e=>by
  rw[gj]at e;cases e;rw[aB.mp r]at rv;obtain⟨t,rfl⟩:=rv;exact⟨_,.int i t,by simp⟩
 |.str x,v,u,p,r,rv,e=>by
  rw[gj]at e;cases e;rw[Rep.str_iff.mp r]at rv;obtain⟨t,rfl⟩:=rv;exact⟨_,.str x t,by simp⟩
 |.tup ds,v,u,p,r,rv,e=>by
  rw[gj]at e;cases e1:toPys ds with
  |none=>rw[e1]at e;cases e
  |some ps=>
   rw[e1]at e;cases e;obtain⟨a,vs,its,rfl,rfl,h1,h2,h3,⟨o,k1,k2,n,k3⟩,_⟩:=bH I r rv;obtain⟨as,h4,h5⟩:=reads_ofs I ds vs its ps h2 h3 e1;exact⟨_,.tuple k1 k2 k3 (by simpa using h4),h5⟩
 |.lst ds,v,u,p,r,rv,e=>by
  rw[gj]at e;cases e1:toPys ds with
  |none=>rw[e1]at e;cases e
  |some ps=>
   rw[e1]at e;cases e;obtain⟨a,vs,its,rfl,rfl,h1,h2,h3,⟨o,k1,k2,n,k3⟩,_⟩:=br I r rv;obtain⟨as,h4,h5⟩:=reads_ofs I ds vs its ps h2 h3 e1;exact⟨_,.list k1 k2 k3 (by simpa using h4),by rw[UI,not_or];exact⟨Vj (Iu I h1),h5⟩⟩
 |.dic ks ds,v,u,p,r,rv,e=>by
  rw[gj]at e;cases e1:toPys ds with
  |none=>rw[e1]at e;cases e
  |some ps=>
   rw[e1]at e;cases e;rw[Rep]at r;obtain⟨a,kvs,vs,rfl,h2,h3,h4,h5⟩:=r;subst h3;obtain rfl:u=Ve a:=rv;have hl:=h5.length;have:=qB I (bs:=[]) (ps:=ps) h2 (by rw[Us];exact h4) (by rw[Us,nI e1,hl,h4]) λus hv=>reads_ofs I ds vs us ps h5 hv e1;rw[VQ]at this;exact this
 |.exc _,v,u,p,r,rv,e=>by rw[gj]at e;cases e
 |.ob k ds,v,u,p,r,rv,e=>by
  cases k with
  |dint ks=>
   rw[gj]at e;cases e1:toPys ds with
   |none=>rw[e1]at e;cases e
   |some ps=>
    rw[e1]at e;cases e;obtain⟨a,vs,rfl,⟨kvs,h2,h3,h4⟩,h5⟩:=fD.mp r;subst h3;obtain rfl:u=Ve a:=rv;have hl:=h5.length;have:=qB I (bs:=[]) (ps:=ps) h2 (by rw[Us];exact h4) (by rw[Us,nI e1,hl,h4]) λus hv=>reads_ofs I ds vs us ps h5 hv e1;rw[VQ]at this;exact this
  |_=>simp[gj]at e
theorem reads_ofs(I:L2.Inv X π σ H s):∀(ds:ac) (vs:al) (us:List Up) (ps:List Vc),Reps X.K H ds vs->bz vs us->toPys ds=some ps->∃as,X1 s.heap us ps as/\Wy∉as
 |[],vs,us,ps,r,rv,e=>by
  rw[toPys]at e;cases e;rw[Reps.nil_iff.mp r]at rv;cases rv;exact⟨_,.nil,by simp⟩
 |d::ds,vs,us,ps,r,rv,e=>by
  obtain⟨v,vr,rfl,h1,h2⟩:=aH.mp r;cases rv with
  |cons ra rb=>
   rw[toPys]at e;cases e1:gj d with
   |none=>rw[e1]at e;cases e
   |some p=>
    cases e2:toPys ds with
    |none=>rw[e1,e2]at e;cases e
    |some qs=>
     rw[e1,e2]at e;cases e;obtain⟨as,k1,m1⟩:=xJ I d v _ p h1 ra e1;obtain⟨bs,k2,m2⟩:=reads_ofs I ds vr _ qs h2 rb e2;exact⟨_,.cons k1 k2,by rw[U6,not_or];exact⟨m1,m2⟩⟩
end
def Er(d:D):Bool:=match d with
 |.tup _=>true
 |.lst _=>true
 |_=>false
def oA(p:Vc):Bool:=p.showable&&decide (p.depth<=100)&&decide (p.shown.length<=sizeLine)
def r8(d:D):ar D:=match gj d with
 |some p=>if Er d=true/\oA p=true then .ok (.str p.shown) else .stuck
 |none=>.stuck
def u3(hr:di k X.A):gN X (.builtin "repr") (λxs H Q=>∃v d p,xs=[v]/\Rep X.K H d v/\gj d=some p/\Er d=true/\oA p=true/\Q (.str p.shown) H):=by
 intro π s σ H xs us Q I r h;obtain⟨v,d,p,rfl,rd,e,hq,hw,q⟩:=h;obtain⟨u,rfl,rx⟩:=oz r;obtain⟨as,hR,hm⟩:=xJ I d v u p rd rx e;have hu:∃a,u=.ref a:=by
  cases d with|tup ds=>obtain⟨a,_,_,_,h,_⟩:=bH I rd rx;exact⟨a,h⟩|lst ds=>obtain⟨a,_,_,_,h,_⟩:=br I rd rx;exact⟨a,h⟩| _=>cases hq
 obtain⟨a,rfl⟩:=hu;unfold oA at hw;simp only[U7,decide_eq_true_eq]at hw;obtain⟨⟨w1,w3⟩,w4⟩:=hw;refine repr_of_reads' hR w1 (λ_=>hm) hr.gd (by have:=hr.un;omega) (λb o e=>e) (λh' u' tk hk=>⟨.str p.shown,H,I.kept hk,⟨u',rfl⟩,q⟩) w4
def Ca:g9 X E (λxs H Q=>∃v d p,xs=[v]/\Rep X.K H d v/\gj d=some p/\Er d=true/\oA p=true/\Q (.str p.shown) H) (m1 r8):=sL λx v H Ha Q hs r q=>by
 unfold r8 at q;cases e:gj x with
 |none=>rw[e]at q;exact q.elim
 |some p=>
  rw[e]at q;replace q:post X.K E H Ha (if Er x=true/\oA p=true then .ok (.str p.shown) else .stuck) Q:=q
  by_cases hc:Er x=true/\oA p=true
  .rw[if_pos hc]at q
   exact⟨v,x,p,rfl,r.mono hs,e,hc.1,hc.2,bW hs q (Rep.str_iff.mpr rfl)⟩
  .rw[if_neg hc]at q;exact q.elim
end
structure FT (K:Ur) (mg:UP->Option Up) (x:UP) (st:V6) (ps:bi) (a:Uy) (d:VS):Prop where
 F:DD K x x st a d
 b:ia K d ps []
 g:mg x=some (.ref a)
noncomputable def QA(K:Ur) (x:UP) (st:V6) (a:Uy):Prop:=VC K US x=some (some (.ref a))/\WN K (.ref a)=true/\∃oc kV dc pm cd ct od an sl,K.lookup a=some ⟨oc,od,.func (WH x x (defArgs st) (defBody st) (defScope st) .none kV dc pm an cd ct),sl⟩/\Yk K cd x=true
def Ql{K:Ur}{h:UO}{st:V6}{ps:bi}(X:K.In h)(G:h.Ns US mg)(q:QA K x st a)
  (hb:∀(kV doc pm:Up) (an:Option Uy) (cdv ct:Up) (us:List Up),us.length=ps.length->bindArgs (WH x x (defArgs st) (defBody st) (defScope st) .none kV doc pm an cdv ct) ⟨us,[]⟩=pure (ps.zip us)) :
  ∃d,FT K mg x st ps a d/\∃kV doc pm an cdv ct,d=WH x x (defArgs st) (defBody st) (defScope st) .none kV doc pm an cdv ct:=by
 obtain⟨e1,e4,oc,kV,dc,pm,cd,ct,od,an,sl,e2,e3⟩:=q;exact⟨_,⟨nZ e2 e3 e4,(nZ (st:=st) e2 e3 e4).binds hb,V1 X G e1⟩,_,_,_,_,_,_,rfl⟩
section
variable {X:Cx}{E:XK}{e:Vl}{es:List Vl}{fa:Ev->ar (ac)}{f g h i j:am}{pos:Pos}{CX:zl}{k n:Nat}{fn:Uy}{fd:VS}{ps:bi}{m:ac->ar D}{x:UP}{p:Pos}{st:V6}
def Rm(ρ:Ev)(ds:ac)(h:ae f az ρ=.ok ds):ds.length=1:=jP (λ_ h=>GD h) h
def Rl(ρ:Ev)(ds:ac)(q:ae f (ae g az) ρ=.ok ds):ds.length=2:=jP (Rm ρ) q
def Rk(ρ:Ev)(ds:ac)(q:ae f (ae g (ae h az)) ρ=.ok ds):ds.length=3:=jP (Rl ρ) q
def Rj(ρ:Ev)(ds:ac)(q:ae f (ae g (ae h (ae i az))) ρ=.ok ds):ds.length=4:=jP (Rk ρ) q
def RQ(ρ:Ev)(ds:ac)(q:ae f (ae g (ae h (ae i (ae j az)))) ρ=.ok ds):ds.length=5:=jP (Rj ρ) q
end
section
variable {X:Cx}{E:XK}{He η:Hp}{a:Uy}{e:Vl}{es:List Vl}{pos:Pos}{f g:am}{fm gm hm im jm:Ev->ac->ar (D×ac)}{fa:Ev->ac->ar (ac×ac)}{s:Ev->ac->ar fb}{st:V6}
def xI(f:am):bd:=λρ=>(f ρ).bind λd=>.ok (.rt d)
def Dh(h:DF X E e f):GQ X E He η [.Return (some e) pos] (xI f):=by
 refine⟨fT (ix (vK h.o) pV) λD' σ H z9=>?_⟩;obtain⟨Ha,ρ,h,q⟩:=z9;refine⟨Ha,ρ,h.g.sub,h.rd,?_⟩;unfold xI at q;cases e1:f ρ with
 |stuck=>rw[e1]at q;exact q|exn x=>rw[e1]at q;exact λC ox H' Ha' g r=>q C ox H' Ha' (h.g.trans g) r
 |ok d=>
  rw[e1]at q;cases d with|lst ds=>exact λp vs H' Ha' g hp h0 hv rp=>q p vs H' Ha' (h.g.trans g) (h.g.s.free hp) h0 hv rp| _=>exact q.elim
def uF(hr:∀ρ st ds,fa ρ st=.ok ds->ds.1.length=n)(ρ:Ev)(st:ac)(ds:ac×ac)(h:aV fm fa ρ st=.ok ds):ds.1.length=n+1:=by
 unfold aV at h;cases e1:fm ρ st with
 |stuck|exn x=>rw[e1]at h;cases h
 |ok p=>
  rw[e1]at h;simp only[ar.bind]at h;cases e2:fa ρ p.2 with|stuck|exn x=>rw[e2]at h;cases h|ok q=>rw[e2]at h;cases h;simp[hr _ _ _ e2]
def TK(ρ:Ev)(st:ac)(ds:ac×ac)(h:cm ρ st=.ok ds):ds.1.length=0:=by cases h;rfl
def SU(ρ:Ev)(st:ac)(ds:ac×ac)(h:aV fm cm ρ st=.ok ds):ds.1.length=1:=uF TK ρ st ds h
def TJ(ρ:Ev)(st:ac)(ds:ac×ac)(h:aV fm (aV gm cm) ρ st=.ok ds):ds.1.length=2:=uF SU ρ st ds h
variable {CX:zl}{k n:Nat}{fn:Uy}{fd:VS}{ps:bi}{x:UP}{p:Pos}{ft:V6}
def Gh{id:String}(hc:gN X (.builtin id) r)(hd:g9 X E r m)(hg:Gl X x)(hm:X.mg x=none)(hv:bootBuiltins x=some (.builtin id))(ha:Kt X He η a (e::es) fa)(hn:x≠"__name__":=by decide)(hdb:(x==("__debug__" : UP))=false:=by decide)
  (he:Uw (e::es) X.env=(false,eval e X.env)::Uw es X.env:=by exact aT rfl)(hpl:(Vy pos (Uw es X.env)).any (·.1)=false:=by exact bK rfl):DM X He η a (.Call (.Name x p) (e::es) [] pos) (mA fa m) :=
 ⟨bc (kO hc hg hm hv ha.o hn hdb he hpl) (td hd)⟩
def iJ(ha:DM X He η a l fm)(hb:DM X He η a b gm):DM X He η a (.BinOp l .Add b pos) (mB fm gm bX):=KZ (E:=E0) (gr.or E4 (gr.or qL (gr.or Bu Bt))) (by
 intro x y v u H Ha Q hs r1 r2 q;unfold bX at q;cases x with
 |int i=>
  cases y with|int j=>exact .inl ⟨i,j,aB.mp r1,aB.mp r2,bW hs q (ri _)⟩| _=>exact q.elim
 |str i=>
  cases y with
  |str j=>
   by_cases h:i.length+j.length<=line
   .simp only[if_pos h]at q
    exact .inr (.inl ⟨i,j,Rep.str_iff.mp r1,Rep.str_iff.mp r2,eg h,bW hs q (Rep.str_iff.mpr rfl)⟩)
   .simp only[if_neg h]at q;exact q.elim
  |_=>exact q.elim
 |lst ds=>
  cases y with
  |lst es=>
   by_cases h:ds.length+es.length<=line
   .simp only[if_pos h]at q
    obtain⟨l,vs,rfl,h1,h2⟩:=aJ.mp r1;obtain⟨m,us,rfl,k1,k2⟩:=aJ.mp r2;refine .inr (.inr (.inl ⟨l,m,vs,us,rfl,rfl,aG.sqL hs h1,aG.sqL hs k1,by rw[←h2.length,←k2.length];exact eg h,λp hp=>?_⟩));exact q _ _ _ (aR hs hp) (aJ.mpr ⟨p,_,rfl,fM.of aE,(h2.app k2).mono (aR hs hp).z⟩)
   .simp only[if_neg h]at q;exact q.elim
  |_=>exact q.elim
 |tup ds=>
  cases y with
  |tup es=>
   by_cases h:ds.isEmpty=false/\ds.length+es.length<=line
   .simp only[if_pos h]at q
    obtain⟨l,vs,rfl,h1,h2⟩:=aQ.mp r1;obtain⟨m,us,rfl,k1,k2⟩:=aQ.mp r2;refine .inr (.inr (.inr ⟨l,m,vs,us,rfl,rfl,aG.sqT hs h1,aG.sqT hs k1,λz=>?_,by rw[←h2.length,←k2.length];exact eg h.2,λz=>?_,λz p hp=>?_⟩))
    .have:=h2.length
     rw[z]at this;have e:ds=[]:=Ws.mp this;rw[e]at h;exact absurd h.1 (by decide)
    .have:=k2.length
     rw[z]at this;have e:es=[]:=Ws.mp this;rw[e,Vd]at q;exact bW hs q r1
    .exact q _ _ _ (aR hs hp) (aQ.mpr ⟨p,_,rfl,kC.of aE,(h2.app k2).mono (aR hs hp).z⟩)
   .simp only[if_neg h]at q;exact q.elim
  |_=>exact q.elim
 |_=>exact q.elim) ha hb
def Gf(ha:DM X He η a l fm)(hb:DM X He η a b gm):DM X He η a (.BinOp l .Mod b pos) (mB fm gm eD):=KZ (E:=E0) Br (vY (λ_ _ h=>of_decide_eq_true h) λ_ _ _ _=>ri _) ha hb
def jb(ha:DM X He η a l fm)(hb:DM X He η a b gm)(hs:nA b:=by intro _ _;rfl):DM X He η a (.Subscript l b pos) (mB fm gm aO):=Q0 (E:=E0) FA KL ha hb hs
def PQ(N:bi)(n:Nat)(fr:bv)(hc:X.calm=true)(hi:MI X He η a tgt iter src)(hok:za n tg)
  (blk:∀s H C fp pn,(∀He η,DG (dJ X N scope s H C fp pn) E He η tgt tg)/\∀He η,DM (dJ X N scope s H C fp pn) He η a elt fm)
  (hfr:AO X N n fr scope)(hcell:(scope.names.all λx=>!(x.2==.cell))=true)(hfree:(scope.names.all λx=>!(x.2==.free)||(X.env.scope.names.lookup x.1==some .cell))=true)(hkind:scope.kind=.function)
  (hnames:(scope.names.all λx=>!(x.2==.local)||(scope.names.lookup x.1==some .local))=true)
  (hs:∀x,foldedSetIterable iter X.env x=pure x:=by intro _;rfl):RV X He η a (.ListComp elt [⟨tgt,iter,[],0⟩] scope pos) (nq n fr src tg fm):=by
 refine T9 (E:=E) N n fr hc hi hok blk hfr (λx hx z=>?_) (λx hx z=>?_) hkind (λx hx z=>?_) hs
 .have:=Va.mp hcell x hx
  rw[z]at this;simp at this
 .have:=Va.mp hfree x hx
  rw[z]at this;simpa using this
 .have:=Va.mp hnames x hx
  rw[z]at this;simpa using this
end
section
variable {X:Cx}{E:XK}{He η:Hp}{a:Uy}{st:V6}{e l b:Vl}{rest es:List Vl}{pos:Pos}{f:am}{fm gm:Ev->ac->ar (D×ac)}
def Ua(g:Ev->ac->ar (D×ac))(ρ:Ev)(p:D×ac):ar (D×ac):=match p.1 with
 |.bl b=>if b=true then .ok (.bl true,p.2) else g ρ p.2
 |_=>.stuck
def Fp(p:D×ac):ar (D×ac):=match p.1 with
 |.bl b=>.ok (.bl (!b),p.2)
 |_=>.stuck
def Fq(f:Ev->ac->ar (D×ac)):Ev->ac->ar (D×ac):=λρ st=>(f ρ st).bind Fp
def J1(ha:La X He η a l fm):La X He η a (.UnaryOp .Not l pos) (Fq fm):=by
 refine⟨?_⟩;refine ic (EL ha.o) λσ H Q z9=>?_;obtain⟨Ha,ρ,st,vs,h,q⟩:=z9;refine⟨Ha,ρ,st,vs,h,?_⟩
 unfold Fq at q;cases e1:fm ρ st with
 |stuck|exn x=>rw[e1]at q;exact q
 |ok p=>
  obtain⟨d,st'⟩:=p;rw[e1]at q;cases d with|bl c=>exact λH1 H01 us z h1=>q H1 H01 us z h1| _=>exact q.elim
end
def je(fa:Ev->ar (ac))(m:ac->ar D):bd:=λρ=>match fa ρ with
 |.ok ds=>(m ds).bind λ_=>.ok (.nx ρ)
 |_=>.stuck
section
variable {X:Cx}{e:Vl}{es:List Vl}{fa:Ev->ar (ac)}{pos:Pos}{k n:Nat}{fn:Uy}{fd:VS}{ps:bi}{m:ac->ar D}{x:UP}{p:Pos}{st:V6}
def Hz(F:FnOk X.prog X.w X.K X.mg X.base (lI X.prog X.w) k fn fd ps (spD X.K n m))(hr:di k X.A)(hg:Gl X x)(hm:X.mg x=some (.ref fn))
  (hk:WN X.K (.ref fn)=true)(hb:ia X.K fd ps [])(ha:DA X.nox E0 (e::es) fa)(hn:(e::es).length=n:=by rfl)(hl:∀ρ ds,fa ρ=.ok ds->ds.length=(e::es).length)
  (hdb:(x==("__debug__" : UP))=false:=by decide)(he:Uw (e::es) X.env=(false,eval e X.env)::Uw es X.env:=by exact aT rfl)(hpl:(Vy cpos (Uw es X.env)).any (·.1)=false:=by exact bK rfl)
  (hs:VG (.Call (.Name x p) (e::es) [] cpos) none pos.line X.env=pure false:=by rfl):TB X (.Expr (.Call (.Name x p) (e::es) [] cpos) pos) (je fa m):=by
 refine⟨λπ s σ H He η Ha ρ D XE I h q hx=>?_⟩;refine wpAny_Expr_any (dz (Cb (Q:=λv H1=>D.nx σ H1) F hr hg hm hk hb ha.o I ?_ hx hdb he hpl) λv s1 ⟨y,H1,I1,r1,q1⟩=>⟨σ,H1,I1,q1⟩) I.quiet hs;refine⟨Ha,ρ,h.g.sub,h.rd,?_⟩;unfold je at q ⊢;cases e1:fa ρ with
 |stuck=>rw[e1]at q;exact q|exn x=>rw[e1]at q;exact q.elim
 |ok ds=>
  rw[e1]at q;intro vs H1 H01 g1 r1;refine⟨?_,H01,ds,g1.sub,r1,?_⟩
  .have:=r1.length
   have:=hl ρ ds e1;omega
  .show post _ _ _ _ (m ds) _
   cases e2:m ds with
   |stuck=>simp only[e2]at q;exact q
   |exn x=>exact λC ox H' Ha' g ex=>⟨x,Ha',by simp only[e2];rfl,g1.z.trans g.z,h.grow (g1.trans g),ex⟩
   |ok d=>
    simp only[e2]at q;exact λv H' Ha' g rp=>q _ H' Ha' (g1.z.trans g.z) (h.grow (g1.trans g))
end
theorem Reps.erase{K:Ur}:∀{ds:ac}{vs:al}(n:Nat),Reps K H ds vs->Reps K H (ds.eraseIdx n) (vs.eraseIdx n)
 |[],vs,n,h=>by rw[Reps.nil_iff.mp h];exact Reps.nil
 |d::ds,vs,n,h=>by
  obtain⟨v,vr,rfl,h1,h2⟩:=aH.mp h;cases n with|zero=>exact h2|succ n=>exact Reps.cons h1 (Reps.erase n h2)
section
variable {X:Cx}{E:XK}{a b:Vl}{f g:am}{pos:Pos}
def Q9(x y:D):ar D:=match x,y with
 |.tup [],.tup es=>.ok (.tup es)
 |.tup ds,.tup es=>if ds.isEmpty=false/\ds.length+es.length<=line then .ok (.tup (ds++es)) else .stuck
 |_,_=>.stuck
end
structure Rw where
 x:UP
 st:V6
 N:bi
 n:Nat
abbrev Rw.ps(r:Rw):bi:=r.N.take r.n
instance {N P:bi}{sc:X8}:Decidable (fv N P sc) :=
 decidable_of_iff (sc.kind=.function/\sc.isCoroutine=false/\sc.isGenerator=false/\N.Nodup/\N.take P.length=P/\(∀x∈P,sc.names.lookup x=some .local ∨ sc.names.lookup x=some .cell)/\∀y∈sc.names,y.2≠.free)
  ⟨λ⟨a,b,c,d,e,f,g⟩=>⟨a,b,c,d,e,f,g⟩,λ⟨a,b,c,d,e,f,g⟩=>⟨a,b,c,d,e,f,g⟩⟩
def SX(rows:List Rw):Prop:=∀r∈rows,fv r.N r.ps (defScope r.st)
instance {rows:List Rw}:Decidable (SX rows):=inferInstanceAs (Decidable (∀r∈rows,_))
def TG(rows:List Rw)(K:Ur)(mg:UP->Option Up)(A:Nat->Uy)(Q:Nat->VS):Prop:=∀i r,rows[i]?=some r->FT K mg r.x r.st r.ps (A i) (Q i)
def N9(r:Rw):Prop:=∀(kV doc pm:Up) (an:Option Uy) (cdv ct:Up) (us:List Up),us.length=r.ps.length->bindArgs (WH r.x r.x (defArgs r.st) (defBody r.st) (defScope r.st) .none kV doc pm an cdv ct) ⟨us,[]⟩=pure (r.ps.zip us)
def QAs(K:Ur):List Rw->List Uy->Prop
 |[],_=>True
 |r::rs,a::as=>QA K r.x r.st a/\QAs K rs as
 |_::_,[]=>False
def QAs.cons{K:Ur}{st:V6}(q:QA K x st a)(t:QAs K rs as):QAs K (⟨x,st,N,n⟩::rs) (a::as):=⟨q,t⟩
theorem Kx{K:Ur}{h:UO}{mg:UP->Option Up}(X:K.In h)(G:h.Ns US mg):∀{rows:List Rw}{as:List Uy},(∀r∈rows,N9 r)->QAs K rows as ->
  ∃Q:Nat->VS,∀i r,rows[i]?=some r->FT K mg r.x r.st r.ps (as.getD i 0) (Q i)/\∃kV doc pm an cdv ct,Q i=WH r.x r.x (defArgs r.st) (defBody r.st) (defScope r.st) .none kV doc pm an cdv ct
 |[],as,_,_=>⟨λ_=>default,λi r e=>by simp at e⟩
 |r::rs,[],_,q=>q.elim
 |r::rs,a::as,hb,q=>by
  obtain⟨Q,h⟩:=Kx X G (λr hr=>hb r (UH _ hr)) q.2;obtain⟨d,h1,h2⟩:=Ql X G q.1 (hb r UU);refine⟨λi=>match i with|0=>d|i+1=>Q i,λi r' e=>?_⟩;cases i with|zero=>rw[Wt]at e;cases e;exact⟨h1,h2⟩|succ i=>rw[VI]at e;exact h i r' e
structure eR (P:Vt) (w:VH) (K:Ur) (mg:UP->Option Up) (base:UO) (CX:zl) (k:Nat) (fn:Uy) (fd:VS) (ps:bi) (sp:Sp) (x:UP) (st:V6):Prop where
 F:FnOk P w K mg base CX k fn fd ps sp
 t:FT K mg x st ps fn fd
section
variable {P:Vt}{w:VH}{K:Ur}{mg:UP->Option Up}{base:UO}{rows:List Rw}{A:Nat->Uy}{Q:Nat->VS}{i k n:Nat}{r:Rw}{s:bd}{sM:Uy->Ev->ac->ar fb}
variable (T:TG rows K mg A Q) (S:SX rows) (h:rows[i]?=some r)
include T S h
theorem oD(b:∀(cdv:Up) (A':Vn) (outer:List VW) (s0:UD) (H Ha:Hp) (E:XK),di k (A'.deeper (envOfC r.x (defScope r.st) s0.heap.objs.size (A i) cdv)) ->
   zk (gk CX0 P w K mg base r.N r.x (defScope r.st) (A i) cdv A' outer s0 H E).nox E H Ha (defBody r.st) s):eR P w K mg base CX0 (k+1) (A i) (Q i) r.ps (spD K r.ps.length (ck r.N.length s)) r.x r.st :=
 ⟨C9 (T i r h).F (S r (UX h)) b,T i r h⟩
theorem oE(b:∀(cdv:Up) (A':Vn) (outer:List VW) (s0:UD) (H Ha:Hp) (E:XK),di k (A'.deeper (envOfC r.x (defScope r.st) s0.heap.objs.size (A i) cdv)) ->
   zk (gk (lI P w) P w K mg base r.N r.x (defScope r.st) (A i) cdv A' outer s0 H E) E H Ha (defBody r.st) s):eR P w K mg base (lI P w) (k+1) (A i) (Q i) r.ps (spD K r.ps.length (ck r.N.length s)) r.x r.st :=
 ⟨Aj (T i r h).F (S r (UX h)) b,T i r h⟩
theorem oF(b:∀(cdv:Up) (A':Vn) (outer:List VW) (s0:UD) (H Ha:Hp) (E:XK),di k (A'.deeper (envOfC r.x (defScope r.st) s0.heap.objs.size (A i) cdv)) ->
   GQ (gk CX0 P w K mg base r.N r.x (defScope r.st) (A i) cdv A' outer s0 H E).nox E H Ha (defBody r.st) s):eR P w K mg base CX0 (k+1) (A i) (Q i) r.ps (O2 K r.ps.length (CH r.N.length s)) r.x r.st :=
 ⟨Ai (T i r h).F (S r (UX h)) b,T i r h⟩
theorem oM(hn:r.ps.length=n+1)(b:∀(cdv:Up) (A':Vn) (outer:List VW) (s0:UD) (H He Ha:Hp) (a:Uy) (E:XK),di k (A'.deeper (envOfC r.x (defScope r.st) s0.heap.objs.size (A i) cdv)) ->
   Kq (gk CX0 P w K mg base r.N r.x (defScope r.st) (A i) cdv A' outer s0 H E).nox He Ha a (defBody r.st) (sM a)):eR P w K mg base CX0 (k+1) (A i) (Q i) r.ps (DJ K n (pz r.N.length sM)) r.x r.st :=
 ⟨Ah (T i r h).F (S r (UX h)) hn b,T i r h⟩
end
section
variable {P:Vt}{w:VH}{K:Ur}{mg:UP->Option Up}{base:UO}{CX:zl}{k:Nat}{fn:Uy}{fd:VS}{ps:bi}{n:Nat}{m:ac->ar D}{x:UP}{st:V6}
def eR.noX(B:eR P w K mg base (lI P w) k fn fd ps (spD K n m) x st):eR P w K mg base CX0 k fn fd ps (spD K n (DL.noX m)) x st:=⟨DL.FnOk.noX B.F,B.t⟩
end
section
variable {X:Cx}{E:XK}{e:Vl}{es:List Vl}{fa:Ev->ar (ac)}{pos:Pos}{CX:zl}{k k0 n:Nat}{fn:Uy}{fd:VS}{ps:bi}{m:ac->ar D}{x:UP}{p:Pos}{st:V6}
def rC(B:eR X.prog X.w X.K X.mg X.base CX k0 fn fd ps (spD X.K n m) x st)(hr:di k X.A)(ha:DA X E (e::es) fa)(hle:k0<=k:=by decide)(hx:gW CX X E:=by first|exact Bo|exact pass0E|exact Bn)(hl:∀ρ ds,fa ρ=.ok ds->ds.length=(e::es).length:=by first|exact Rm|exact Rl|exact Rk|exact Rj|exact RQ)(hn:(e::es).length=n:=by rfl)
  (hg:Gl X x:=by exact rfl)(hdb:(x==("__debug__" : UP))=false:=by decide)(he:Uw (e::es) X.env=(false,eval e X.env)::Uw es X.env:=by exact aT rfl)(hpl:(Vy pos (Uw es X.env)).any (·.1)=false:=by exact bK rfl) :
  DE X E (.Call (.Name x p) (e::es) [] pos) (ao fa m):=Kb (B.F.mono hle) hr hg B.t.g B.t.F.kp B.t.b hx ha hn hl hdb he hpl
def rF(B:eR X.prog X.w X.K X.mg X.base CX k0 fn fd ps (O2 X.K n m) x st)(hr:di k X.A)(ha:DA X E (e::es) fa)(hle:k0<=k:=by decide)(hx:gW CX X E:=by first|exact Bo|exact pass0E|exact Bn)(hl:∀ρ ds,fa ρ=.ok ds->ds.length=(e::es).length:=by first|exact Rm|exact Rl|exact Rk|exact Rj|exact RQ)(hn:(e::es).length=n:=by rfl)
  (hg:Gl X x:=by exact rfl)(hdb:(x==("__debug__" : UP))=false:=by decide)(he:Uw (e::es) X.env=(false,eval e X.env)::Uw es X.env:=by exact aT rfl)(hpl:(Vy pos (Uw es X.env)).any (·.1)=false:=by exact bK rfl) :
  DF X E (.Call (.Name x p) (e::es) [] pos) (ao fa m):=J6 (B.F.mono hle) hr hg B.t.g B.t.F.kp B.t.b hx ha hn hl hdb he hpl
def rD(B:eR X.prog X.w X.K X.mg X.base (lI X.prog X.w) k0 fn fd ps (spD X.K n m) x st)(hr:di k X.A)(ha:DA X.nox E0 (e::es) fa)(hle:k0<=k:=by decide)(hl:∀ρ ds,fa ρ=.ok ds->ds.length=(e::es).length:=by first|exact Rm|exact Rl|exact Rk|exact Rj|exact RQ)(hn:(e::es).length=n:=by rfl)
  (hg:Gl X x:=by exact rfl)(hdb:(x==("__debug__" : UP))=false:=by decide)(he:Uw (e::es) X.env=(false,eval e X.env)::Uw es X.env:=by exact aT rfl)(hpl:(Vy cpos (Uw es X.env)).any (·.1)=false:=by exact bK rfl)
  (hs:VG (.Call (.Name x p) (e::es) [] cpos) none pos.line X.env=pure false:=by rfl):TB X (.Expr (.Call (.Name x p) (e::es) [] cpos) pos) (je fa m):=Hz (B.F.mono hle) hr hg B.t.g B.t.F.kp B.t.b ha hn hl hdb he hpl hs
def rT(hN:X.N.Nodup)(hi:X.N[i]?=some y)(hy:Cm X.env.scope y)(B:eR X.prog X.w X.K X.mg X.base (lI X.prog X.w) k0 fn fd ps (spD X.K n m) x st)(hr:di k X.A)(ha:DA X.nox E0 (e::es) fa)(hle:k0<=k:=by decide)(hl:∀ρ ds,fa ρ=.ok ds->ds.length=(e::es).length:=by first|exact Rm|exact Rl|exact Rk|exact Rj|exact RQ)(hn:(e::es).length=n:=by rfl)
  (hg:Gl X x:=by exact rfl)(hdb:(x==("__debug__" : UP))=false:=by decide)(he:Uw (e::es) X.env=(false,eval e X.env)::Uw es X.env:=by exact aT rfl)(hpl:(Vy cpos (Uw es X.env)).any (·.1)=false:=by exact bK rfl)
  (hs:VG (.Call (.Name x p) (e::es) [] cpos) (some (.Name y pos')) pos.line X.env=pure false:=by rfl)
  (hf:X.fn y=true∨X.env.scope.names.lookup y=some .local := by first|exact .inl rfl|exact .inr rfl|assumption):TB X (.Assign [.Name y pos'] (.Call (.Name x p) (e::es) [] cpos) pos) (xH i fa m):=Ll hN hi hy (B.F.mono hle) hr hg B.t.g B.t.F.kp B.t.b ha hn hl hdb he hpl hs hf
end
section
variable {X:Cx}{He η:Hp}{a:Uy}{E:XK}{e:Vl}{es:List Vl}{fa:Ev->ac->ar (ac×ac)}{pos:Pos}{CX:zl}{k k0 n:Nat}{fn:Uy}{fd:VS}{ps:bi}{x:UP}{p:Pos}{ft:V6}
def To(B:eR X.prog X.w X.K X.mg X.base CX k0 fn fd ps (spD X.K n m) x ft)(hr:di k X.A)(ha:Kt X He η a (e::es) fa)(hle:k0<=k:=by decide)(hx:gW CX X E0:=by exact Bo)(hl:∀ρ st ds,fa ρ st=.ok ds->ds.1.length=(e::es).length:=by first|exact SU|exact TJ|exact am3|exact am4|exact am5)(hn:(e::es).length=n:=by rfl)
  (hg:Gl X x:=by exact rfl)(hdb:(x==("__debug__" : UP))=false:=by decide)(he:Uw (e::es) X.env=(false,eval e X.env)::Uw es X.env:=by exact aT rfl)(hpl:(Vy pos (Uw es X.env)).any (·.1)=false:=by exact bK rfl) :
  DM X He η a (.Call (.Name x p) (e::es) [] pos) (mA fa m):=J3 (E:=E0) (B.F.mono hle) hr hg B.t.g B.t.F.kp B.t.b hx ha hn hl hdb he hpl
def rM(i:Nat)(B:eR X.prog X.w X.K X.mg X.base CX k0 fn fd ps (DJ X.K n m) x ft)(hr:di k X.A)(ha:Kt X He η a es fa)(hle:k0<=k:=by decide)(hx:gW CX X E0:=by exact Bo)(hl:∀ρ st ds,fa ρ st=.ok ds->ds.1.length=n:=by first|exact TK|exact SU|exact TJ|exact am3|exact am4|exact am5)
  (hN:X.N[i]?=some y:=by rfl)(hv:zj X.env.scope y:=by first|exact UB rfl|exact YI (UB rfl)|exact YI (YI rfl))(hg:Gl X x:=by exact rfl)
  (hd:(y==("__debug__" : UP))=false:=by decide)(hcd:(y==("__classdict__" : UP))=false:=by decide)(hdb:(x==("__debug__" : UP))=false:=by decide)(he:Uw (.Name y p1::es) X.env=(false,eval (.Name y p1) X.env)::Uw es X.env:=by exact aT rfl)(hpl:(Vy pos (Uw es X.env)).any (·.1)=false:=by exact bK rfl) :
  DM X He η a (.Call (.Name x p) (.Name y p1::es) [] pos) (bL i a fa m):=Gg (E:=E0) (B.F.mono hle) hr hg B.t.g B.t.F.kp B.t.b hx hN hv ha hl hd hcd hdb he hpl
end
def Uj(hn:r.ps.length=1:=by rfl)(hb:∀(kV doc pm:Up) (an:Option Uy) (cdv ct b:Up),bindArgs (WH r.x r.x (defArgs r.st) (defBody r.st) (defScope r.st) .none kV doc pm an cdv ct) ⟨[b],[]⟩=pure (r.ps.zip [b]):=by intros;rfl):N9 r:=λ_ _ _ _ _ _ us hl=>by
 obtain⟨b,rfl⟩:=TF (hl.trans hn);exact hb ..
def Ui(hn:r.ps.length=2:=by rfl)(hb:∀(kV doc pm:Up) (an:Option Uy) (cdv ct b c:Up),bindArgs (WH r.x r.x (defArgs r.st) (defBody r.st) (defScope r.st) .none kV doc pm an cdv ct) ⟨[b,c],[]⟩=pure (r.ps.zip [b,c]):=by intros;rfl):N9 r:=λ_ _ _ _ _ _ us hl=>by
 obtain⟨b,c,rfl⟩:=RN (hl.trans hn);exact hb ..
def Uh(hn:r.ps.length=3:=by rfl)(hb:∀(kV doc pm:Up) (an:Option Uy) (cdv ct b c d:Up),bindArgs (WH r.x r.x (defArgs r.st) (defBody r.st) (defScope r.st) .none kV doc pm an cdv ct) ⟨[b,c,d],[]⟩=pure (r.ps.zip [b,c,d]):=by intros;rfl):N9 r:=λ_ _ _ _ _ _ us hl=>by
 obtain⟨b,c,d,rfl⟩:=TC (hl.trans hn);exact hb ..
def Ug(hn:r.ps.length=4:=by rfl)(hb:∀(kV doc pm:Up) (an:Option Uy) (cdv ct b c d e:Up),bindArgs (WH r.x r.x (defArgs r.st) (defBody r.st) (defScope r.st) .none kV doc pm an cdv ct) ⟨[b,c,d,e],[]⟩=pure (r.ps.zip [b,c,d,e]):=by intros;rfl):N9 r:=λ_ _ _ _ _ _ us hl=>by
 obtain⟨b,c,d,e,rfl⟩:=Tz (hl.trans hn);exact hb ..
def Ue(hn:r.ps.length=5:=by rfl)(hb:∀(kV doc pm:Up) (an:Option Uy) (cdv ct b c d e f:Up),bindArgs (WH r.x r.x (defArgs r.st) (defBody r.st) (defScope r.st) .none kV doc pm an cdv ct) ⟨[b,c,d,e,f],[]⟩=pure (r.ps.zip [b,c,d,e,f]):=by intros;rfl):N9 r:=λ_ _ _ _ _ _ us hl=>by
 obtain⟨b,c,d,e,f,rfl⟩:=Ub (hl.trans hn);exact hb ..
end DL
namespace Com
open PySem L2 DL
def Me(st:ac)(d:D):ar (D×ac):=.ok (d,st)
def Tt(st:ac)(d:D):ar fb:=.ok (.rt d st)
def xZ{α:Type}(b:Bool)(x:ar α):ar α:=if b=true then x else .stuck
def Tw(g:Ev->ac->ar (D×ac))(op:D->D->ar D)(ρ:Ev)(p:D×ac):ar (D×ac):=(g ρ p.2).bind λq=>(op p.1 q.1).bind λd=>.ok (d,q.2)
def PU(op:D->D->ar D)(x:D)(q:D×ac):ar (D×ac):=(op x q.1).bind (Me q.2)
def Tv(fa:Ev->ac->ar (ac×ac))(ρ:Ev)(p:D×ac):ar (ac×ac):=(fa ρ p.2).bind λq=>.ok (p.1::q.1,q.2)
def PR(x:D)(q:ac×ac):ar (ac×ac):=.ok (x::q.1,q.2)
def Tx(m:ac->ar D)(p:ac×ac):ar (D×ac):=(m p.1).bind λd=>.ok (d,p.2)
def Ts(st ds:ac):ar (ac×ac):=.ok (ds,st)
def Tu(tg:Ev->D->ar Ev)(s:Ev->ac->ar fb)(ρ:Ev)(p:ac×ac):ar fb:=forM tg s p.1 ρ p.2
def Tr(k:Ev->ac->ar (D×ac))(ρ:Ev)(p:D×ac):ar fb:=(k ρ p.2).bind (mx ρ p.1)
section
variable {s t:Ev->ac->ar fb}{S:bd}{f g h:Ev->ac->ar (D×ac)}{F:am}{fa:Ev->ac->ar (ac×ac)}{src:Ev->ar (ac)}{srm:Ev->ac->ar (ac×ac)}{tg:Ev->D->ar Ev}{ρ r:Ev}{i j n:Nat}{d x y:D}{st ds xs:ac}{op:D->D->ar D}{a:Uy}
def Nk:bh s t ρ st=(s ρ st).bind (BB t):=aI rfl
def JK:BB t (.nx ρ st)=t ρ st:=aI rfl
def JJ:BB t (.rt d st)=.ok (.rt d st):=aI rfl
def JS:bY ρ st=.ok (.nx ρ st):=aI rfl
def JP:eF S ρ st=(S ρ).bind (zX st):=aI rfl
def F6:zX st (.nx ρ)=.ok (.nx ρ st):=aI rfl
def Nj:ey i f ρ st=(f ρ st).bind (Fn i ρ):=aI rfl
def JI:Fn i ρ (d,st)=.ok (.nx (ρ.set i (.sh d)) st):=aI rfl
def Nm:yk f ρ st=(f ρ st).bind Fo:=aI rfl
def JN:Fo (d,st)=.ok (.rt d st):=aI rfl
def JM:gY F ρ st=(F (shr ρ)).bind (Tt st):=aI rfl
def F5:Tt st d=.ok (.rt d st):=aI rfl
def QN:zh f s t ρ st=(f ρ st).bind (Ip s t ρ):=aI rfl
def Nt:Ip s t ρ (.bl true,st)=s ρ st:=aI rfl
def Nr:Ip s t ρ (.bl false,st)=t ρ st:=aI rfl
def SO:mP F ρ st=(F ρ).bind (Me st):=aI rfl
def QR:Me st d=.ok (d,st):=aI rfl
def SQ:mL F ρ st=(F (shr ρ)).bind (lU st):=aI rfl
def QO:lU st (.int k)=.ok (.int k,st):=aI rfl
def QP:lU st (.bl b)=.ok (.bl b,st):=aI rfl
def SK:mV i a F ρ st=xZ (kT ρ[i]? a) ((F (vw i ρ st)).bind (lU st)):=aI rfl
def SN:mT F ρ st=(F (shr ρ)).bind (Me st):=aI rfl
def QQ:RM i a F ρ st=xZ (kT ρ[i]? a) ((F (vw i ρ st)).bind (Me st)):=aI rfl
def QM:kT (some (.pt a)) a=true:=beq_self_eq_true a
def JR{z:ar α}:xZ true z=z:=if_pos rfl
def QL:vw i ρ st=(shr ρ).set i (.sh (.lst st)):=aI rfl
def Ni:vD (.pt a)=.pt a:=aI rfl
def SR:mB f g op ρ st=(f ρ st).bind (Tw g op ρ):=aI rfl
def QU:Tw g op ρ (x,st)=(g ρ st).bind (PU op x):=aI rfl
def QT:PU op x (y,st)=(op x y).bind (Me st):=aI rfl
def Nq:cm ρ st=.ok ([],st):=aI rfl
def JU:aV f fa ρ st=(f ρ st).bind (Tv fa ρ):=aI rfl
def F9:Tv fa ρ (x,st)=(fa ρ st).bind (PR x):=aI rfl
def F8:PR x (xs,st)=.ok (x::xs,st):=aI rfl
def SS:mA fa m ρ st=(fa ρ st).bind (Tx m):=aI rfl
def QV:Tx m (ds,st)=(m ds).bind (Me st):=aI rfl
def JW:bL i a fa m ρ st=xZ (kT ρ[i]? a) ((fa ρ st).bind (AF a m)):=aI rfl
def Ga:AF a m (ds,st)=m a st ds:=aI rfl
def Np:yl i a f h ρ st=xZ (kT ρ[i]? a) ((f ρ st).bind (Tr h ρ)):=aI rfl
def JO:Tr h ρ (d,st)=(h ρ st).bind (mx ρ d):=aI rfl
def Nv:zY i f ρ st=zK ρ[i]? λds=>(f ρ st).bind (uG i ρ ds):=aI rfl
def JQ:zK (some (.ow (.lst ds))) k=k ds:=aI rfl
def wD(e:decide (ds.length<=999)=true):uG i ρ ds (d,st)=.ok (.nx (ρ.set i (.ow (.lst (ds++[d])))) st):=if_pos (Wj (of_decide_eq_true e) (by decide))
def Nh:yj src ρ st=(src ρ).bind (Ts st):=aI rfl
def JH:Ts st ds=.ok (ds,st):=aI rfl
def JG:yi f ρ st=(f ρ st).bind nV:=aI rfl
def m6(e:-4611686018427387904<=k/\k<4611686018427387904):nV (.int k,st)=.ok (intsFrom 0 k.toNat,st):=if_pos e
def Nu:oO srm tg s ρ st=(srm ρ st).bind (Tu tg s ρ):=aI rfl
def JT:Tu tg s ρ (ds,st)=forM tg s ds ρ st:=aI rfl
def JV{fr:bv}:nq n fr srm tg f ρ st=(srm ρ st).bind (ml (fK n fr ρ) tg f):=aI rfl
def Nl:pz n b a st ds=(b a (.pt a::ds.map Sl.sh++UJ (n-(ds.length+1)) .no) st).bind Et:=aI rfl
def JL:Et (.rt d st)=.ok (d,st):=aI rfl
end
def mW{tg:Ev->D->ar Ev}{body:Ev->ac->ar fb}(I:Nat->Ev->ac->Prop)(ds:ac)(step:∀(j:Nat) (d:D) (ρ:Ev) (st:ac),ds[j]?=some d->I j ρ st->∃ρ1 ρ2 st2,tg ρ d=.ok ρ1/\(body ρ1 st=.ok (.nx ρ2 st2)∨body ρ1 st=.ok (.ct ρ2 st2))/\I (j+1) ρ2 st2) :
  ∀(j:Nat) (ρ:Ev) (st:ac),j<=ds.length->I j ρ st->∃ρ2 st2,forM tg body (ds.drop j) ρ st=.ok (.nx ρ2 st2)/\I ds.length ρ2 st2:=by
 intro j ρ st hj h;generalize hk:ds.length-j=k
 induction k generalizing j ρ st with
 |zero=>
  have:j=ds.length:=by omega
  subst this;exact⟨ρ,st,by rw[Wu];rfl,h⟩
 |succ k ih=>
  have hlt:j<ds.length:=by omega
  obtain⟨ρ1,ρ2,st2,h1,h2,h3⟩:=step j ds[j] ρ st (Ut hlt) h;obtain⟨ρ3,st3,h4,h5⟩:=ih (j+1) ρ2 st2 (by omega) h3 (by omega);refine⟨ρ3,st3,?_,h5⟩;rw[Vk hlt];unfold DL.forM;rw[h1];rcases h2 with h2|h2
  .simp only[ar.bind,h2];exact h4
  .simp only[ar.bind,h2];exact h4
theorem oi{b:Ev}{tg:Ev->D->ar Ev}{fm:Ev->ac->ar (D×ac)}(I:ac->Prop)(P:D->Prop):∀(ds st:ac),I st->(∀d st,d∈ds->I st->∃ρ1 y st2,tg b d=.ok ρ1/\fm ρ1 st=.ok (y,st2)/\P y/\I st2)->∃es st2,jH b tg fm ds st=.ok (es,st2)/\es.length=ds.length/\(∀e∈es,P e)/\I st2
 |[],st,h,_=>⟨[],st,rfl,rfl,λe he=>by simp at he,h⟩
 |d::ds,st,h,step=>by
  obtain⟨ρ1,y,st1,h1,h2,h3,h4⟩:=step d st (by simp) h;obtain⟨es,st2,k1,k2,k3,k4⟩:=oi I P ds st1 h4 λd' st' hd=>step d' st' (UH _ hd);refine⟨y::es,st2,?_,by simp[k2],λe he=>?_,k4⟩
  .unfold jH
   rw[h1];simp only[ar.bind,h2,k1]
  .rcases UI.mp he with rfl|he
   .exact h3
   .exact k3 e he
end Com
namespace Bor
open PySem L2 DL
abbrev bg:ac->ar D:=Cod.bg
noncomputable def km:bd :=
 (uu (bT 2 (dC (.int 0)))
 (uu (dM (ag (af 1) (ao (ae (af 0) az) (m1 cB)) Kc)
 (aw (bT 2 (ag (af 0) (af 1) aO))
 au)
 au)
 (xI (ao (ae (af 2) (ae (ag (ag (ag (ag (af 2) (dC (.int 2147483587)) eD) (ag (ag (dC (.int 104729)) (af 1) cx) (af 1) cx) bX) (dC (.int 7)) bX) (dC (.int 2147483587)) eD) (ae (ag (af 2) (ag (dC (.int 10)) (dC (.int 18)) oa) RP) az))) b5))))
def cL:ac->ar D:=CH 3 km
noncomputable def k9:Uy->Ev->ac->ar fb:=λa=>
 (bh (zh (RM 0 a (ag (af 0) (dC (.int 2)) aO))
 (bh (ey 2 (mV 0 a (ag (ag (af 0) (dC (.int 0)) aO) (af 1) eD)))
 (bh (yl 0 a (mV 0 a (ag (ag (af 0) (dC (.int 0)) aO) (af 1) sr)) (mP (dC (.int 0))))
 (bh (yl 0 a (mV 0 a (ag (ag (af 0) (dC (.int 0)) aO) (dC (.int 0)) Dm)) (mP (dC (.int 2))))
 (bh (gY (af 2))
 bY))))
 bY)
 (bh (eF (bT 3 (dC (.int 0))))
 (bh (oO (yj (jt (ag (dC (.int 1)) (ag (dC (.int 2)) (ao (ae (ag (af 1) (ag (dC (.int 10)) (dC (.int 6)) oa) Dm) az) (m1 iN)) cx) bX))) (bU 4)
 (bh (yl 0 a (mV 0 a (ag (ag (ag (ag (af 0) (dC (.int 1)) aO) (dC (.int 39373)) cx) (dC (.int 17)) bX) (dC (.int 2147483647)) eD)) (mP (dC (.int 1))))
 (bh (ey 3 (mV 0 a (ag (ag (af 3) (dC (.int 2147483587)) cx) (ag (ag (ag (af 0) (dC (.int 1)) aO) (ag (af 0) (dC (.int 1)) aO) cx) (dC (.int 2147483587)) eD) bX)))
 bY)))
 (bh (gY (ag (ag (af 3) (dC (.int 64)) sr) (af 1) eD))
 bY))))
def aF:Uy->ac->ac->ar (D×ac):=pz 5 k9
noncomputable def ny:Uy->Ev->ac->ar fb:=λa=>
 (bh (ey 2 (nq 1 [0] (yj (jt (dC (.int 8)))) (bU 0) (bL 1 a (aV (mP (dC (.int 26))) cm) aF)))
 (bh (ey 3 (mB (mP (dC (.int 1))) (bL 0 a (aV (mP (dC (.int 8))) cm) aF) bX))
 (bh (ey 4 (bL 0 a (aV (mP (af 3)) cm) aF))
 (bh (ey 5 (bL 0 a (aV (mP (dC (.int 26))) cm) aF))
 (bh (ey 6 (mB (mP (ao (ae (dC (.int 1)) (ae (dC (.int 3)) (ae (dC (.int 5)) (ae (dC (.int 7)) (ae (dC (.int 9)) (ae (dC (.int 11)) az)))))) b5)) (bL 0 a (aV (mP (dC (.int 6))) cm) aF) aO))
 (bh (ey 7 (mB (bL 0 a (aV (mP (dC (.int 3))) cm) aF) (mP (dC (.int 0))) gO))
 (bh (eF (jV 8 (ao az b5)))
 (bh (eF (oB (af 1) (bU 9)
 (aw (jV 10 (pL (af 2) dX (dP (af 3))))
 (aw (Es 10 (ag (ag (af 5) (ag (af 6) (af 9) cx) bX) (dC (.int 26)) eD) (af 4))
 (aw (dM (af 7)
 (aw (jV 10 (pL (af 2) dX (dP (ag (dC (.int 1)) (ag (ag (af 5) (af 9) bX) (dC (.int 8)) eD) bX))))
 au)
 au)
 (aw (zB 10 (du 8 (uV (dC (.str "")) (ae (dy 1 [] (kD (af 10)) (bU 0) mYes (ag (dC (.str "abcdefghijklmnopqrstuvwxyz")) (af 0) aO)) az))))
 au))))))
 (bh (gY (af 8))
 bY)))))))))
def eU:Uy->ac->ac->ar (D×ac):=pz 11 ny
noncomputable def l3:Uy->Ev->ac->ar fb:=λa=>
 (bh (ey 2 (bL 0 a (aV (mP (dC (.int 6))) cm) aF))
 (bh (ey 3 (mB (mP (af 1)) (bL 0 a (aV (mP (ag (ao (ae (dC (.int 3)) (ae (dC (.int 6)) (ae (dC (.int 20)) (ae (dC (.int 12)) (ae (dC (.int 90)) (ae (ag (dC (.int 10)) (dC (.int 12)) oa) az)))))) b5) (af 2) aO)) cm) aF) bX))
 (bh (eF (bT 4 (ag (ao (ae (dC (.int 1)) (ae (dC (.int 1)) (ae (dC (.int 1)) (ae (dC (.int 4)) (ae (dC (.int 12)) (ae (dC (.int 12)) az)))))) b5) (af 2) aO)))
 (bh (eF (bT 5 (ao (ae (dC (.int 1)) (ae (dC (.int 2)) (ae (dC (.int 3)) (ae (dC (.int 4)) (ae (dC (.int 5)) (ae (dC (.int 6)) (ae (dC (.int 10)) (ae (dC (.int 12)) (ae (dC (.int 15)) (ae (dC (.int 20)) (ae (dC (.int 30)) (ae (dC (.int 60)) az)))))))))))) b5)))
 (bh (yk (mA (aV (mP (af 3)) (aV (mB (mP (af 5)) (bL 0 a (aV (mP (af 4)) cm) aF) aO) cm)) bg))
 bY)))))
def dD:Uy->ac->ac->ar (D×ac):=pz 6 l3
noncomputable def Lk:Uy->Ev->ac->ar fb:=λa=>
 (zh (mB (bL 0 a (aV (mP (dC (.int 2))) cm) aF) (mP (dC (.int 0))) gO)
 (bh (eF (bT 4 (ag (af 2) (af 3) eD)))
 (bh (eF (bT 5 (ag (ag (af 2) (dC (.int 1)) bX) (af 3) eD)))
 bY))
 bY)
def Hy:Uy->Ev->ac->ar fb:=λa=>
 (zh (mB (bL 0 a (aV (mP (dC (.int 4))) cm) aF) (mP (dC (.int 0))) gO)
 (bh (eF (bT 8 (dC (.non))))
 bY)
 bY)
noncomputable def Hk:Uy->Ev->ac->ar fb:=λa=>
 (zh (mB (bL 0 a (aV (mP (dC (.int 2))) cm) aF) (mP (dC (.int 0))) gO)
 (bh (ey 7 (bL 0 a (aV (mP (af 4)) cm) aF))
 (bh (ey 8 (mB (mB (mP (ag (af 7) (dC (.int 1)) bX)) (bL 0 a (aV (mP (ag (af 4) (dC (.int 1)) uc)) cm) aF) bX) (mP (af 4)) eD))
 bY))
 bY)
noncomputable def sX:Uy->Ev->ac->ar fb:=λa=>
 (bh (eF (bT 3 (ao (ae (af 1) az) (m1 cB))))
 (bh (ey 4 (bL 0 a (aV (mP (af 3)) cm) aF))
 (bh (ey 5 (mB (mB (mP (ag (af 4) (dC (.int 1)) bX)) (bL 0 a (aV (mP (ag (af 3) (dC (.int 1)) uc)) cm) aF) bX) (mP (af 3)) eD))
 (bh (Lk a)
 (bh (ey 6 (mB (mP (ao (ae (dC (.str "one")) (ae (dC (.str "both")) az)) b5)) (bL 0 a (aV (mP (dC (.int 2))) cm) aF) aO))
 (bh (ey 7 (bL 0 a (aV (mP (dC (.int 0))) cm) dD))
 (bh (ey 8 (bL 0 a (aV (mP (dC (.int 1))) cm) dD))
 (bh (Hy a)
 (bh (gY (ao (ae (ag (af 1) (af 4) aO) (ae (ag (af 1) (af 5) aO) (ae (af 6) (ae (af 7) (ae (af 8) az))))) cT))
 bY)))))))))
def fA:Uy->ac->ac->ar (D×ac):=pz 9 sX
noncomputable def sW:Uy->Ev->ac->ar fb:=λa=>
 (bh (ey 3 (bL 0 a (aV (mB (mP (dC (.int 2))) (bL 0 a (aV (mP (ag (af 1) (dC (.int 1)) uc)) cm) aF) bX) cm) eU))
 (bh (eF (bT 4 (ao (ae (af 3) az) (m1 cB))))
 (bh (eF (jV 5 (ao az b5)))
 (bh (oO (yi (bL 0 a (aV (mP (ag (af 2) (dC (.int 1)) bX)) cm) aF)) (bU 6)
 (bh (zY 5 (bL 0 a (aV (mP (af 3)) (aV (mP (af 6)) cm)) fA))
 bY))
 (bh (eF (bT 7 (dC (.int 0))))
 (bh (eF (bT 8 (ag (af 4) (dC (.int 1)) uc)))
 (bh (Hk a)
 (bh (gY (ao (ae (af 3) (ae (af 5) (ae (ag (af 3) (af 7) aO) (ae (ag (af 3) (af 8) aO) az)))) cT))
 bY))))))))
def fz:Uy->ac->ac->ar (D×ac):=pz 9 sW
end Bor
namespace DL
open PySem PySem.Spec PyProof.Rows L2
def Reps.dropLast{K:Ur}(h:Reps K H ds vs):Reps K H ds.dropLast vs.dropLast:=by
 rw[Zv,Zv,h.length];exact h.take _
def pR(is:bv)(i:Nat)(ρ:Ev)(ds:ac):ar Fl:=match ds.getLast? with
 |some d=>match eT is.length d with
  |some es=>.ok (.nx (dA (ρ.set i (.ow (.lst ds.dropLast))) is es))
  |none=>.stuck
 |none=>.stuck
def jU(is:bv)(i:Nat):bd:=λρ=>match ρ[i]? with
 |some (.ow (.lst ds))=>pR is i ρ ds
 |_=>.stuck
section
variable {X:Cx}{E:XK}{He η:Hp}{es:List Vl}{is:bv}{pos:Pos}
def Di(hc:X.calm=true)(hN:X.N[i]?=some x)(hv:zj X.env.scope x)(h:Ck X es (Ln is))
  (hd:(x==("__debug__" : UP))=false:=by decide)(hcd:(x==("__classdict__" : UP))=false:=by decide)
  (hbase:Wf (.Name x p1) "pop" X.env (eval (.Name x p1) X.env)=eval (.Name x p1) X.env:=by rfl)(hline:(p2.endLine==p3.line)=true:=by rfl)
  (hs:swapsWithSole [.Tuple es k tp] (.Call (.Attribute (.Name x p1) "pop" p2) [] [] p3) pos.line X.env=pure false:=by rfl)(hw:swappedStores [.Tuple es k tp] (.Call (.Attribute (.Name x p1) "pop" p2) [] [] p3) X.env=pure none:=by rfl)
  (h1:(assignEach [.Tuple es k tp] X.env).map (·.2)=[assign (.Tuple es k tp) X.env]:=by rfl)(hn:(assignEach es X.env).length=is.length:=by rfl)(hst:(assignEach es X.env).findIdx? (·.1)=none:=by rfl) :
  DS X E He η (.Assign [.Tuple es k tp] (.Call (.Attribute (.Name x p1) "pop" p2) [] [] p3) pos) (jU is i):=by
 refine⟨?_⟩;refine b4 (vM (LY W2 Zt Zs Md (iy hN hv hd hcd) hbase hline) (zH hc h hn hst) hs hw h1) λD σ H ⟨Ha,ρ,h,q⟩=>?_;unfold jU at q;cases e0:ρ[i]? with
 |none=>rw[e0]at q;exact q.elim
 |some sl=>
  rw[e0]at q;cases sl with
  |ow d=>
   cases d with
   |lst ds=>
    simp only at q;unfold pR at q;obtain⟨p,k1,k2,k3,ws,k4,k5⟩:=h.ow i _ e0;have hlen:=k5.length;refine⟨.ref p,k1,.inl ⟨rfl,ws,fM.of k4⟩,?_⟩;cases e1:ds.getLast? with
    |none=>rw[e1]at q;exact q.elim
    |some d=>
     rw[e1]at q;simp only at q;rw[List.getLast?_eq_getElem?]at e1;obtain⟨y,y1,y2⟩:=k5.get e1;rw[hlen]at y1;cases e2:eT is.length d with
     |none=>rw[e2]at q;exact q.elim
     |some es=>
      rw[e2]at q;obtain⟨a,vs,rfl,z1,z2,z3⟩:=kP e2 y2;refine⟨p,ws,.ref a,rfl,rfl,k4,y1,?_⟩;have h':=h.write e0 k1 k5.dropLast;exact⟨a,vs,rfl,qw h'.g.sub z1,z2,q _ _ Ha (aG.refl _) (h'.putAll z3)⟩
   |_=>exact q.elim
  |_=>exact q.elim
end
section
variable {X:Cx}{E:XK}
def KD(K:Ur):al->Hp->VK->Prop:=λxs H Q=>∃p ds ns,xs=[.ref p]/\Rep K H (.lst ds) (.ref p)/\ji ds=some ns/\Q (.int ns.sum) H
def Dr(hc:X.calm=true):gN X (.builtin "sum") (KD X.K):=by
 intro π s σ H xs us Q I r h;obtain⟨p,ds,ns,rfl,hr,hi,q⟩:=h;obtain⟨u,rfl,ru⟩:=r.one;obtain⟨a,vs,its,ea,rfl,h1,h2,h3,h4,_⟩:=br I hr ru;have hI:=yx hi h2 h3;obtain⟨xs,hx⟩:=hI.allInts.items;have hl':s.heap.IsList a (intItems xs):=hx▸h4;refine sum_intListG (I.ok.hd hc) hl' λh' tk t' hk=>?_;have e1:ns=xs.toList.map (·.1):=by
  rw[←nums_intItems,←hx];exact(show numsOf its.toArray.toList=ns from hI.numsOf).symm
 have e2:preSum (numAt xs) xs.size=ns.sum:=by
  rw[preSum_eq,W7 (by simp),e1]
 rw[e2];exact⟨.int _,H,I.kept (t':=tk) (λb o e=>hk b o e),⟨_,rfl⟩,q⟩
def Gn(x:D):ar D:=match x with
 |.lst ds=>match ji ds with
  |some ns=>.ok (.int ns.sum)
  |none=>.stuck
 |_=>.stuck
def NR:g9 X E (KD X.K) (m1 Gn):=sL λx v H Ha Q hs r q=>by
 cases x with
 |lst ds=>
  unfold Gn at q;obtain⟨p,vs,rfl,h1,h2⟩:=aJ.mp r;cases e:ji ds with
  |none=>simp only[e]at q;exact q.elim
  |some ns=>
   simp only[e]at q;exact⟨p,ds,ns,rfl,r.mono hs,e,bW hs q (ri _)⟩
 |_=>exact q.elim
end
noncomputable def jS(i j:Nat) (ρ:Ev) (ds:ac) (p:D×ac):ar fb:=match p.1 with
 |.int k=>match uK ds.length k with
  |some n=>match ds[n]? with
   |some d=>if ds.length<line then .ok (.nx ((ρ.set j (.ow (.lst (ds.eraseIdx n)))).set i (.sh d)) p.2) else .stuck
   |none=>.stuck
  |none=>.stuck
 |_=>.stuck
def mK(i j:Nat)(f:Ev->ac->ar (D×ac)):Ev->ac->ar fb:=λρ st=>zK ρ[j]? λds=>(f ρ st).bind (jS i j ρ ds)
section
variable {X:Cx}{He η:Hp}{a:Uy}{e:Vl}{fm:Ev->ac->ar (D×ac)}{pos:Pos}
def CB(hN:X.N.Nodup)(hi:X.N[i]?=some x)(hx:Cm X.env.scope x)(hj:X.N[j]?=some y)(hv:zj X.env.scope y)(he:DM X He η a e fm)
  (hd:(y==("__debug__" : UP))=false:=by decide)(hcd:(y==("__classdict__" : UP))=false:=by decide)
  (hbase':Wf (.Name y q1) "pop" X.env (eval (.Name y q1) X.env)=eval (.Name y q1) X.env:=by rfl)
  (hfew':((Vy q3 (Uw [e] X.env)).all (λx=>!x.1)&&(XO q3 (WM [] X.env)).all (λx=>x.1.isSome)
  &&decide ([e].length+([]:List Xh).length+(if([]:List Xh).isEmpty then 0 else 1)<30))=true:=by exact mX rfl)
  (hline':(q2.endLine==q3.line)=true:=by rfl) (hs':Uw [e] X.env=(false,eval e X.env)::Uw [] X.env:=by exact aT rfl) (hplain':(Vy q3 (Uw [] X.env)).any (·.1)=false:=by exact bK rfl)
  (hs:VG (.Call (.Attribute (.Name y q1) "pop" q2) [e] [] q3) (some (.Name x pos')) pos.line X.env=pure false:=by rfl)
  (hf:X.fn x=true∨X.env.scope.names.lookup x=some .local := by first|exact .inl rfl|exact .inr rfl|assumption) :
  SM X He η a (.Assign [.Name x pos'] (.Call (.Attribute (.Name y q1) "pop" q2) [e] [] q3) pos) (mK i j fm):=by
 refine⟨?_⟩;refine b4 (nP hN hi hx (Bl W2 Zt Zs Fj (iy hj hv hd hcd) (dj he.o fU hs') hbase' hfew' hline' hs' hplain') hs hf) λD σ H ⟨Ha,ρ,st,vs,h,q⟩=>?_;unfold mK zK at q;cases e0:ρ[j]? with
 |none=>rw[e0]at q;exact q.elim
 |some sl=>
  rw[e0]at q;cases sl with
  |ow d=>
   cases d with
   |lst ds=>
    obtain⟨p,k1,k2,k3,ws,k4,k5⟩:=h.s.ow j _ e0;refine⟨.ref p,k1,.inl ⟨rfl,ws,fM.of k4⟩,?_⟩;refine⟨Ha,ρ,st,vs,h,?_⟩;replace q:fF X.K He η a Ha ((fm ρ st).bind (jS i j ρ ds)) D:=q;cases e1:fm ρ st with
    |stuck|exn x=>rw[e1]at q;exact q
    |ok pr=>
     obtain⟨d,st'⟩:=pr;rw[e1]at q;intro v H' Ha' us z h' rp;obtain⟨p',k1',k2',k3',ws',k4',k5'⟩:=h'.s.ow j _ e0;rw[k1]at k1';cases k1';replace q:fF X.K He η a Ha (jS i j ρ ds (d,st')) D:=q;unfold jS at q;cases d with
     |int k=>
      simp only at q;cases e2:uK ds.length k with
      |none=>simp only[e2]at q;exact q.elim
      |some n=>
       simp only[e2]at q;cases e3:ds[n]? with
       |none=>simp only[e3]at q;exact q.elim
       |some d=>
        simp only[e3]at q
        by_cases hl:ds.length<line
        .rw[if_pos hl]at q
         obtain⟨s1,s2,s3,s4⟩:=wb e2;obtain⟨y,y1,y2⟩:=k5'.get e3;have hlen:=k5'.length;have hl2:ds.length<1000001:=UA hl (by decide);rw[aB.mp rp];have hpa:p≠a:=by intro c;subst c;rw[aE]at k2';cases k2'
         refine⟨p,ws',k,n,y,rfl,rfl,k4',by omega,by omega,by rw[←hlen];exact s1,y1,?_⟩;have h2:ir X.K He η Ha' σ (upd H' p (.lst (ws'.eraseIdx n))) (ρ.set j (.ow (.lst (ds.eraseIdx n)))) a st' us:=⟨h'.ha,h'.h0,by rw[aA (Vj hpa)];exact h'.hl,h'.r,h'.s.write e0 k1 (k5'.erase n)⟩
         exact q _ _ Ha' us z (h2.back (aG.refl _) (h2.s.put y2))
        .rw[if_neg hl]at q;exact q.elim
     |_=>exact q.elim
   |_=>exact q.elim
  |_=>exact q.elim
end
section
variable {X:Cx}{π:List (Uy×Obj)}{σ:L2.St}{H:Hp}{s:UD}{e:Uy}
def Kh{D:kE}(hstk:X.stack=X.env::X.outer/\X.env.frame=some X.env.locals)(I:Inv X π σ H1 s1)
  (h:lI X.prog X.w X.stack H1 s1 Ex ev s')(hg:Gl X c)(hm:X.mg c=some cv)(hx:∀C ox H',Ex (.ref C) ox H'->Yj X.K (.ref C) cv=some true)
  (hs:∀ea C dc ox H' s2,Ex (.ref C) ox H'->(ox=none∨ox=dc)->H' ea=none->Inv (DL.hand X ea) π σ (upd H' ea (.ext (tK ea C dc))) s2 ->
   UR (UT X.prog X.w) (X.A.mark (some (.ref ea))) (execs (ba::suite) X.env) (SP (DL.hand X ea) π D) (λ_ _=>False) s2)
  (hdb:(c==("__debug__" : UP))=false:=by decide) :
  UR (UT X.prog X.w) X.A (noteFrame ev X.env) (λ_ si=>UR (UT X.prog X.w) X.A (setFlight ev none) (λ_ sj=>
   UR (UT X.prog X.w) X.A (handleBy ev X.env (.ExceptHandler (some (.Name c np)) none (ba::suite) hpos::rest)) (SP X π D) X.xe sj) X.xe si) X.xe s':=by
 obtain⟨ea,C,a0,B,H',rfl,os,bare,un,hok,hne,fl,hB,ox,⟨dc,hdc,hox⟩,hE⟩:=h;have hA:X.A.frames=some (X.env::X.outer):=by rw[←hstk.1];exact I.ok.frames
 have fl0:=fl;rw[hstk.1]at fl;have hf1:∀b∈iY X.stack,H' b=none:=λb hb=>by
  obtain⟨_,o,ho,_⟩:=I.stack.mem hb;exact un.free b o ho (I.stkFree b hb) (by simp)
 have hnew:s1.heap.get? ea=none:=by
  cases q:s1.heap.get? ea with
  |none=>rfl
  |some o=>
   by_cases hb:ea∈iY X.stack
   .obtain⟨_,o',ho',hd⟩:=fl0.2.2.1.mem hb
    obtain⟨oe,vs,he,_,hd',_⟩:=fl0.first
    rw[ho']at he;cases he;exact absurd hd' (hd vs)
   .obtain⟨u,hu⟩:=hB ea hb (.inr ⟨o,q⟩)
    rw[fl.2.1]at hu;cases hu
 have inv:∀g,B.StaysIn g->s'.heap.UpToSlots g->Inv X π σ H' { s' with heap:=g }:=λg k up=>
  I.call' (ch:=[]) os (Un.fly un fl0.1 fl0.2.2.1 hB k up) (ig.fly hok hf1 fl0.1 hB k) bare (λ_ z=>nomatch z)
 have invx:∀g,B.StaysIn g->s'.heap.UpToSlots g->tK ea C dc g->Inv X π σ (upd H' ea (.ext (tK ea C dc))) { s' with heap:=g }:=λg k up p=>
  I.call' (ch:=[]) os (Un.ext (Un.fly un fl0.1 fl0.2.2.1 hB k up) hne hnew) (ig.ext (ig.fly hok hf1 fl0.1 hB k) hne p (let ⟨o,_,e,_⟩:=p;⟨o,e⟩) uQ) bare (λ_ z=>nomatch z)
 refine yG hA hstk.2 fl hdc λh4 held4 up4 dc4=>?_;refine yH held4 dc4 λh5 fl5 up5 dc5=>?_;have I5:Inv (DL.hand X ea) π σ H' { s' with heap:=h5 }:=Inv.hand (inv h5 fl5.1 (up4.trans up5));refine wpAny_handleBy_cons (codeAny_handlers_test ?_) (by intro q;cases q);refine j9 I5 hg hm ?_ hdb;obtain⟨ob,hob,hoc⟩:=fl5.there;have LT:XS (UT X.prog X.w) h5 (typeOf (.ref ea)) (.ref C):=hoc▸(XS.ld hob).andThen .now;refine(W.exm_one I5.kIn LT (hx C ox H' hE)).here ?_;refine codeAny_handlers_suite ?_;refine yJ fl5 dc5 λh6 fl6 up6 dc6=>?_;obtain⟨oe,vs,he,hc,hd,_⟩:=fl6.first
 have I6:Inv (DL.hand X ea) π σ (upd H' ea (.ext (tK ea C dc))) { s' with heap:=h6 }:=Inv.hand (invx h6 fl6.1 ((up4.trans up5).trans up6) ⟨oe,vs,he,hc,hd,(by obtain⟨o6,e6,d6⟩:=dc6;rw[he]at e6;cases e6;exact d6)⟩);refine VD (hs ea C dc ox H' _ hE hox hne I6) (λf s8 h8=>?_) λ_ _ z=>z.elim;cases f with|next|brk|cont=>obtain⟨σ',H2,J,q⟩:=h8;exact⟨σ',H2,iW I.ok J,q⟩|ret u=>obtain⟨v,σ',H2,J,r,q⟩:=h8;exact⟨v,σ',H2,iW I.ok J,r,q⟩
end
def mv(g:bd)(hit:UP->Bool)(sh:bd):bd:=λρ=>match g ρ with
 |.exn x=>if hit x.cls=true then sh ρ else .stuck
 |r=>r
section
variable {X:Cx}{E:XK}{e:Vl}{es:List Vl}{fa:Ev->ar (ac)}{pos:Pos}
def JX{st ba:V6}{g sh:bd}(hstk:X.stack=X.env::X.outer/\X.env.frame=some X.env.locals)(hb:TB X st g)
  (hg:Gl X c)(hm:X.mg c=some cv)(hhit:∀x C,hit x=true->XC X.K x C->Yj X.K (.ref C) cv=some true)
  (hh:∀ea,zk (DL.hand X ea) E He η (ba::suite) sh)(hdb:(c==("__debug__" : UP))=false:=by decide) :
  DS X E He η (.Try [st] [.ExceptHandler (some (.Name c np)) none (ba::suite) hpos] [] [] pos) (mv g hit sh):=by
 refine⟨?_⟩;intro π s σ H D I ⟨Ha,ρ,h,q⟩;have hq:zr X.K He η Ha (g ρ) D:=by
  unfold mv at q;cases e1:g ρ with
  |exn x=>trivial|stuck=>rw[e1]at q;exact q
  |ok r=>rw[e1]at q;cases r<;>exact q
 refine wpAny_Try_except (wpAny_execs_cons (dz (hb.o π s σ H He η Ha ρ D _ I h hq λH1 s1 e s' I1 hc=>?_) λf s1 hf=>?_))
 .have hit1:∀x,g ρ=.exn x->hit x.cls=true:=λx e1=>by
   unfold mv at q;rw[e1]at q
   by_cases z:hit x.cls=true
   .exact z
   .simp only[if_neg z]at q;exact q.elim
  refine Kh hstk I1 hc hg hm (λC ox H' ⟨x,Ha',e1,_,_,⟨⟨c',ec,xc⟩,_⟩⟩=>?_) (λea C dc ox H' s2 ⟨x,Ha',e1,sm,srx,⟨⟨c',ec,xc⟩,hm2⟩⟩ hox hne I2=>?_) hdb
  .cases ec;exact hhit _ _ (hit1 x e1) xc
  .cases ec
   refine(hh ea).o π s2 _ _ _ I2 ⟨upd Ha' ea (.ext (tK ea C dc)),ρ,srx.grow (aR srx.g.sub hne),?_⟩;have sm2:aG Ha (upd Ha' ea (.ext (tK ea C dc))):=sm.trans (aR srx.g.sub hne).z;unfold mv at q;rw[e1]at q;simp only[if_pos (hit1 x e1)]at q;exact cG.grow q sm2
 .cases f with
  |next=>exact wpAny_execs_nil (wpAny_execs_nil hf)
  |brk=>exact hf
  |cont=>exact hf
  |ret u=>exact hf
end
end DL
namespace DL
open PySem PySem.Spec PyProof.Rows
def v7:WY (.type "list") "keys"=pure none:=by rw[typeLookup_type,builtinLookup_eq_fast];kernel_rfl
inductive kn (prog:Vt) (w:VH) (B:Nat) (h:UO):List Up->List (L2.Key×Up)->Prop
 |nil:kn prog w B h [] []
 |cons {t:Uy}{o:Obj}{n:Nat}{ku yu:Up}{k:L2.Key}{us:List Up}{r:List (L2.Key×Up)}:t<B->h.get? t=some o->o.cls=.type "tuple"->o.data=.seq #[ku,yu] n->(L2.mixKind prog w).is k ku=true->kn prog w B h us r->kn prog w B h (.ref t::us) ((k,yu)::r)
def kn.mono{h h':UO}(p:kn prog w B h us r)(e:∀b o,b<B->h.get? b=some o->h'.get? b=some o):kn prog w B h' us r:=by
 induction p with|nil=>exact .nil|cons a b c d f _ ih=>exact .cons a (e _ _ a b) c d f ih
def zv{k:L2.Key}(h:k∉kvs.map (·.1)):stored kvs k x=kvs++[(k,x)]:=by
 unfold stored;rw[if_neg];intro c;obtain⟨kv,h1,h2⟩:=List.any_eq_true.mp c;exact h (U4.mpr ⟨kv,h1,of_decide_eq_true h2⟩)
section
variable {prog:Vt}{w:VH}{A:Vn}{s:UD}
def Iw 
  (hx:s.heap.get? a=some o)(hc:o.cls=.type "list")(hdat:o.data=.seq xs k)(hd:o.dict=none)(hA:A.handled=none)
  (h:∀h' tk,(∀b ob,s.heap.get? b=some ob->h'.get? b=some ob)->Q none { s with heap:=h',toks:=tk }) :
  UR (UT prog w) A (getAttr? (.ref a) "keys") Q E s:=by
 obtain⟨c,dct,dat,sl⟩:=o;simp only at hc hdat hd;subst hc hdat hd;obtain⟨hp,g,d,tk,os⟩:=s;have hT:∀tk',(⟨hp,g,d,tk',os⟩:UD).TypeIs (.ref a) "list":=λ_=>⟨_,hx,rfl⟩
 have f1:=sub_AttributeError;have f3:=XM.lookup;have f4:=XM.bind (.ref a);have f5:=am_list_getattr_none;unfold getAttr? getAttrBy? getAttrBy
 repeat (any_goals (first|assumption|exact hT _|((with_reducible show UR _ _ (call (Wr "list.__getattribute__") _ _) _ _ _);refine call_meets XM (hT _) am_entry_list_getattribute (F.args_list_getattribute_2 _ _) (meets_getattribute_miss_list a xs k sl "keys" _ v7 (by decide)) ⟨hx,hA,λh' tk' e hx'=>?_⟩)|wp_step))
 obtain⟨t',u',he⟩:=hx'.there;show UR _ _ (getattributeRaised _ _ _ _ _ _ _) _ _ _;unfold getattributeRaised
 repeat (any_goals (first|assumption|wp_step))
 exact h _ _ hx'.keeps
def Iy{R:Zj->UD->Prop}{B:Nat}{d it l:Uy}{items:Array Up}(hh:A.handled=none)(hdi:d≠it)(hld:l≠d)(hli:l≠it)(hBd:B<=d)(hBi:B<=it) :
  ∀(us:List Up) (rest done:List (L2.Key×Up)) (i:Nat) (s:UD),items.toList.drop i=us->kn prog w B s.heap us rest->(done.length+rest.length<=sizeLine)->((done++rest).map (·.1)).Nodup->s.heap.DictOf (L2.mixKind prog w) d done->s.heap.IsListIter it l i->s.heap.IsList l items ->
  (∀h' tk,h'.DictOf (L2.mixKind prog w) d (done++rest)->(∀b o,b≠d->b≠it->s.heap.get? b=some o->h'.get? b=some o)->R (.ok (.ret .none)) { s with heap:=h',toks:=tk }) ->
  Wz (UT prog w) A (.builtin "dict.update.loop" ⟨[.ref d,.ref it,rawInt i,.none],[]⟩) R s:=by
 intro us
 induction us with
 |nil=>
  intro rest done i s hu hp hsz hnd hd hit hl hR;cases hp;have hx:items[i]?=none:=by
   have:=congrArg Xm hu;rw[Yv]at this;simp at this;exact Array.getElem?_eq_none (by omega)
  refine codeAny_builtin lV ?_;unfold Builtin.«dict.update.loop»;show UR _ _ (Zf (.ref it) >>= _) _ _ s;refine Uv (wpAny_pyNext_list_end (by first|exact hh|(show A.handled=none;exact hh)) hit hl hx λh' hk=>?_);show UR _ _ (Builtin.Dict.addKeywords d [] >>= _) _ _ _;refine Uv (UY (UY (hR h' s.toks ?_ λb o _ hb q=>hk b o hb q)));rw[Vd];exact hd.extBut hk hdi
 |cons u us ih=>
  intro rest done i s hu hp hsz hnd hd hit hl hR;cases hp with
  |@cons t o n ku yu k _ r ht h1 h2 h3 h4 h5=>
  have hx:items[i]?=some (.ref t):=by
   have:items.toList[i]?=some (.ref t):=by
    have:=congrArg (·[0]?) hu;simpa using this
   simpa using this
  refine codeAny_builtin lV ?_;unfold Builtin.«dict.update.loop»;show UR _ _ (Zf (.ref it) >>= _) _ _ s;refine Uv (wpAny_pyNext_list_item hit hl hx λh' hit' hs'=>?_);show UR _ _ (WK [.ref t] _ >>= _) _ _ _;refine Uv (VP (Uv (wpAny_tryCatch ?_)));unfold Builtin.Dict.pairItems;have h1':h'.get? t=some o:=(hs'.2 t (U2 (UA ht hBi))).trans h1;have hT:({ s with heap:=h' }:UD).TypeIs (.ref t) "tuple":=⟨_,h1',h2⟩
  refine Uv (wpAny_typeOf hT ?_);rw[if_pos (by decide)];refine Uv (wpAny_seqItems h1' h3 (UY ?_));show UR _ _ (WK [ku,yu] (dictSet d ku yu)) _ _ _;have hd':h'.DictOf (L2.mixKind prog w) d done:=by
   obtain⟨o,es,ep,q,r⟩:=hd;exact⟨o,es,ep,(hs'.2 d hdi).trans q,r⟩
  simp only[UZ]at hsz;refine VP (wpAny_dictSet_pairs (hsz:=by omega) (k:=k) h4 hd' λh'' hd'' hs''=>?_);have hk:k∉done.map (·.1):=by
   rw[U9,UG]at hnd;exact λc=>(W8.mp hnd).2.2 _ c _ UU rfl
  rw[zv hk]at hd'';refine UY ⟨WZ _ (by decide +kernel),?_⟩;have hkeep:∀b o,b≠d->b≠it->s.heap.get? b=some o->h''.get? b=some o:=λb o n1 n2 q=>(hs''.2 b n1).trans ((hs'.2 b n2).trans q);refine ih r (done++[(k,yu)]) (i+1) _ ?_ (h5.mono λb o hb q=>hkeep b o (U2 (UA hb hBd)) (U2 (UA hb hBi)) q) (by simp;omega) (by rw[Wq];exact hnd) hd'' (hit'.at λo q=>(hs''.2 it (Vj hdi)).trans q) (hl.at λo q=>hkeep l o hld hli q) λh3 tk q1 q2=>hR h3 tk (by rw[Wq]at q1;exact q1) λb o n1 n2 q=>q2 b o n1 n2 (hkeep b o n1 n2 q);rw[←List.drop_drop,hu];rfl
def pO(hh:A.handled=none)(hsz:kx.length<=sizeLine)
  (ho:s.heap.get? l=some o)(hc:o.cls=.type "list")(hdt:o.dict=none)(hda:o.data=.seq items n)(hp:kn prog w s.heap.objs.size s.heap items.toList kx)(hnd:(kx.map (·.1)).Nodup)
  (h:∀h' tk,h'.DictOf (L2.mixKind prog w) s.heap.objs.size kx->(∀b o,s.heap.get? b=some o->h'.get? b=some o)->Q (.ref s.heap.objs.size) { s with heap:=h',toks:=tk }) :
  UR (UT prog w) A (call (.type "dict") [.ref l]) Q E s:=by
 refine callType_codes (Q₁:=λobj sg=>obj=.ref s.heap.objs.size/\sg={ s with heap:=s.heap.push { cls:=.type "dict",data:=.dict #[] } }) PySem.F.kt_called_dict (PySem.F.kt_typeCall_dict_1 _) PySem.F.entry_dict_init (kt_code_dict_new _ ⟨rfl,rfl⟩) ?_;rintro obj sg ⟨rfl,rfl⟩;have hnew:(s.heap.push { cls:=.type "dict",data:=.dict #[] }).DictOf (L2.mixKind prog w) s.heap.objs.size []:=Heap.DictOf.new s.heap;have hll:l<s.heap.objs.size:=UN ho;have ho':(s.heap.push { cls:=.type "dict",data:=.dict #[] }).get? l=some o:=Uz _ ho;refine⟨hnew.typeIs,PySem.F.args_dict_init_2 _ _,?_⟩;unfold Builtin.«dict.__init__»;refine Uv ?_;unfold Builtin.Dict.selfAndRest;refine Uv (wpAny_notOrdered_dict hnew.typeIs ?_);show UR _ _ (pure (s.heap.objs.size,[Ve l])) _ _ _;refine UY ?_;show UR _ _ (Ze "dict.__init__" s.heap.objs.size (.ref l) [] .none) _ _ _;unfold Ze;refine Uv (wpAny_typeOf (T:="list") ⟨_,ho',hc⟩ ?_);rw[if_pos (by decide)];refine Uv (Iw ho' hc hda hdt (by first|exact hh|(show A.handled=none;exact hh)) λh1 tk1 hk1=>?_);rw[if_pos (by rfl)];refine Uv (wpAny_rule ?_);have hl1:h1.IsList l items:=⟨o,hk1 _ _ ho',hc,n,hda⟩
 refine Uv (wpAny_pyIter_list hl1 ?_);refine UY ⟨WZ _ (by decide +kernel),?_⟩;have hk2:∀b o,s.heap.get? b=some o->h1.get? b=some o:=λb o q=>hk1 b o (Uz _ q);have hdl:s.heap.objs.size<h1.objs.size:=by
  obtain⟨o,es,ep,q,r⟩:=hnew;exact UN (hk1 _ o q)
 have hd1:h1.DictOf (L2.mixKind prog w) s.heap.objs.size []:=by
  obtain⟨o,es,ep,q,r⟩:=hnew;exact⟨o,es,ep,hk1 _ o q,r⟩
 have hk3:∀b o,h1.get? b=some o->(h1.push { cls:=.type "list_iterator",data:=.fields #[.ref l,.int 0 0] }).get? b=some o:=λb o q=>Uz _ q;refine Iy (B:=s.heap.objs.size) (l:=l) (it:=h1.objs.size) (items:=items) (by first|exact hh|(show A.handled=none;exact hh)) (U2 hdl) (U2 hll) (U2 (W6 hll hdl)) (UC _) (Xu hdl) items.toList kx [] 0 _ rfl (hp.mono λb o hb q=>hk3 b o (hk2 b o q)) (by simpa using hsz) (by simpa using hnd) ?_ ?_ (hl1.at λo q=>hk3 l o q) λh' tk q1 q2=>⟨rfl,h h' tk q1 λb o q=>q2 b o (U2 (UN q)) (U2 (W6 (UN q) hdl)) (hk3 b o (hk2 b o q))⟩
 .obtain⟨o,es,ep,q,r⟩:=hd1
  exact⟨o,es,ep,hk3 _ o q,r⟩
 .exact⟨_,Vr _ rfl,rfl,rfl⟩
end
end DL
namespace DL
open PySem PySem.Spec PyProof.Rows L2
inductive iV (K:Ur) (H:Hp):al->List (Key×V)->Prop
 |nil:iV K H [] []
 |cons {t:Uy}{k:Key}{y:V}{xs:al}{r:List (Key×V)}:kC K H t [kV k,y]->iV K H xs r->iV K H (.ref t::xs) ((k,y)::r)
def iV.length{K:Ur}(h:iV K H xs r):xs.length=r.length:=by
 induction h with|nil=>rfl|cons _ _ ih=>simp[ih]
section
variable {X:Cx}{E:XK}{a:Vl}{f:am}{te:TE}{p p2 p3 pos:Pos}{π:List (Uy×Obj)}{σ:L2.St}{H:Hp}{s:UD}
theorem uA(I:Inv X π σ H s):∀{xs:al}{us:List Up}{r:List (Key×V)},iV X.K H xs r->bz xs us->∃kx,kn X.prog X.w s.heap.objs.size s.heap us kx/\KV r kx
 |_,_,_,.nil,.nil=>⟨[],.nil,.nil⟩
 |_,_,_,.cons (k:=k) ht hp,.cons rv rt=>by
  obtain⟨kx,h1,h2⟩:=uA I hp rt;cases rv;obtain⟨its,r1,⟨o,e1,e2,n,e3⟩,_⟩:=I.tuple ht;cases r1 with
  |cons ra rb=>
  cases rb with
  |cons rc rd=>
  cases rd;exact⟨_,.cons (UN e1) e1 e2 e3 (P1 ra) h1,.cons ⟨rfl,rc⟩ h2⟩
def OT(K:Ur)(te:TE):TE:=λσ H Q=>te σ H λx H1=>∃l xs kvs,x=.ref l/\fM K H1 l xs/\iV K H1 xs kvs/\(kvs.map (·.1)).Nodup/\∀p,H1 p=none->Q (.ref p) (upd H1 p (.dK kvs))
def vQ(hc:X.calm=true)(hg:Gl X "dict")(hm:X.mg "dict"=none)(ha:PE X a te)(hn:KN a=true) :
  PE X (.Call (.Name "dict" p) [a] [] pos) (OT X.K te):=by
 intro π s σ H Q I h;refine Call_ (nW I hg hm PyProof.Rows.Boot.«dict» (WL ?_ (fO hn) rfl));rw[fO hn];show UR _ _ (spliced ((false,eval a X.env)::[])) _ _ s;refine Calls.spliced_cons (dz (ha π s σ H _ I h) λu s1 ⟨x,H1,I1,r1,l,xs,kvs,ex,hq,hp,hnd,q⟩=>Calls.spliced_nil ?_);subst ex;cases r1;obtain⟨its,rv,⟨o,n,e1,e2,e3,e4⟩,hz⟩:=I1.list hq;obtain⟨kx,h1,h2⟩:=uA I1 hp rv;have hkk:kvs.map (·.1)=kx.map (·.1):=h2.keys;have hl1:=hp.length;have hl2:=h2.length;have hz2:kx.length<=sizeLine:=by omega
 refine pO (items:=its.toArray) (I1.ok.hd hc) hz2 e1 e2 e3 e4 (by simpa using h1) (by rw[←hkk];exact hnd) λh' tk hd hk2=>?_;have I2:Inv X π σ (upd H1 s1.heap.objs.size (.dK kvs)) { s1 with heap:=h',toks:=tk }:=by
  have hz':kvs.length<=sizeLine:=by omega
  refine I1.laid (t':=tk) hk2 (UC _) (NB hz' ?_ h2 hd);exact beq_eq_false_iff_ne.mpr (Vj (U2 I1.big))
 exact⟨.ref _,_,I2,rfl,q _ (I1.hok.fresh (UC _))⟩
def ka:ac->Option (List Int×ac)
 |[]=>some ([],[])
 |.tup [.int k,e]::r=>(ka r).map λq=>(k::q.1,e::q.2)
 |_=>none
def B7(x:D):ar D:=match x with
 |.lst ds=>match ka ds with
  |some q=>if q.1.Nodup then .ok (.ob (.dint q.1) q.2) else .stuck
  |none=>.stuck
 |_=>.stuck
def Ey{K:Ur}(h:Rep K H (.tup [d,e]) v):∃t x y,v=.ref t/\kC K H t [x,y]/\Rep K H d x/\Rep K H e y:=by
 obtain⟨t,vs,rfl,h1,h2⟩:=aQ.mp h;obtain⟨x,r,e1,h3,h4⟩:=aH.mp h2;obtain⟨y,r',e2,h5,h6⟩:=aH.mp h4;have:=Reps.nil_iff.mp h6;subst this e2 e1;exact⟨t,x,y,rfl,h1,h3,h5⟩
def C2{K:Ur}{H:Hp}:∀{ds:ac}{vs:al}{q:List Int×ac},ka ds=some q->Reps K H ds vs->∃ys,iV K H vs ((q.1.map Xr).zip ys)/\Reps K H q.2 ys/\q.1.length=ys.length:=by
 intro ds
 induction ds with
 |nil=>
  intro vs q h r;cases h;have:=Reps.nil_iff.mp r;subst this;exact⟨[],.nil,Reps.nil,rfl⟩
 |cons d ds ih=>
  intro vs q h r;obtain⟨v,r',rfl,h1,h2⟩:=aH.mp r;unfold ka at h;split at h
  .next heq=>cases heq
  .next k e rr heq=>
   cases heq;cases e1:ka ds with
   |none=>rw[e1]at h;cases h
   |some q'=>
    rw[e1]at h;cases h;obtain⟨ys,p1,p2,p3⟩:=ih e1 h2;obtain⟨t,x,y,rfl,s1,s2,s3⟩:=Ey h1;have:=aB.mp s2;subst this;exact⟨y::ys,.cons (k:=.inl k) s1 p1,Reps.cons s3 p2,by simp[p3]⟩
  .cases h
def iV.mono{K:Ur}(z:aG H H')(h:iV K H xs r):iV K H' xs r:=by
 induction h with|nil=>exact .nil|cons a _ ih=>exact .cons (aG.sqT z a) ih
theorem w6{α β γ:Type}{g:α->γ}:∀{ks:List α}{ys:List β},ks.length=ys.length->((ks.map g).zip ys).map (·.1)=ks.map g
 |[],[],_=>rfl
 |k::ks,y::ys,h=>by
  rw[UG,VJ,UG,w6 (by simpa using h)]
def wJ(hc:X.calm=true)(hg:Gl X "dict")(hm:X.mg "dict"=none)(ha:DE X E a f)(hn:KN a=true:=by exact rfl) :
  DE X E (.Call (.Name "dict" p) [a] [] pos) (aY f B7):=by
 refine⟨bc (vQ hc hg hm ha.o hn) λσ H Q z9=>?_⟩;obtain⟨Ha,ρ,hs,hr,q⟩:=z9;refine⟨Ha,ρ,hs,hr,?_⟩;unfold aY at q;cases e1:f ρ with
 |stuck|exn x=>rw[e1]at q;exact q
 |ok d=>
  rw[e1]at q;intro v H1 H01 g1 r1;cases d with
  |lst ds=>
   obtain⟨b,vs,rfl,h1,h2⟩:=aJ.mp r1;simp only[ar.bind,B7]at q;cases e2:ka ds with
   |none=>simp only[e2]at q;exact q.elim
   |some qq=>
    simp only[e2]at q
    by_cases hnd:qq.1.Nodup
    .rw[if_pos hnd]at q
     obtain⟨ys,p1,p2,p3⟩:=C2 e2 h2;refine⟨b,vs,_,rfl,aG.sqL g1.sub h1,p1.mono g1.sub,?_,λn hn=>q _ _ _ (g1.trans (aR g1.sub hn)) (fD.mpr ⟨n,ys,rfl,⟨_,.inl aE,rfl,p3⟩,p2.mono (aR g1.sub hn).z⟩)⟩;rw[w6 p3];exact XF.mpr (Yr (λh c=>h (Xr.inj c)) hnd)
    .rw[if_neg hnd]at q;exact q.elim
  |_=>exact q.elim
end
end DL
namespace K11
open PySem L2 DL
noncomputable def gf:bd :=
 (aw (dM (ag (ag (af 0) (dC (.int 0)) aO) (af 1) gO)
 (aw (bE (ag (af 0) (dC (.int 1)) aO))
 au)
 au)
 (aw (dM (f9 (ag (ag (af 0) (dC (.int 1)) aO) (af 1) gO) (ag (ag (af 0) (dC (.int 2)) aO) (dC (.str "both")) gO))
 (aw (bE (ag (af 0) (dC (.int 0)) aO))
 au)
 au)
 (aw (bE (dC (.non)))
 au)))
def bN:ac->ar D:=ck 2 gf
noncomputable def b8:bd :=
 (aw (dM (gq (cp (aY (af 1) (b9 "int"))) (aY (af 1) (b9 "bool")))
 (aw (bE (dC (.bl false)))
 au)
 au)
 (aw (bE (iO K2 Kc (dC (.int 0)) (af 1) (ao (ae (ag (af 0) (dC (.int 1)) aO) az) (m1 cB))))
 au))
def bf:ac->ar D:=ck 2 b8
noncomputable def cN:bd :=
 (aw (dM (cp (aY (af 2) (b9 "list")))
 (aw (bE (ao (ae (dC (.str "at")) (ae (dC (.non)) az)) cT))
 au)
 au)
 (aw (bT 3 (ag (af 0) (dC (.int 2)) aO))
 (aw (jV 4 (ao (ae (af 3) az) b5))
 (aw (oB (ao (ae (af 2) az) (m1 cB)) (bU 5)
 (aw (bT 6 (ag (af 2) (af 5) aO))
 (aw (bT 7 (dC (.non)))
 (aw (dM (f9 (ag (af 3) (ag (af 0) (dC (.int 3)) aO) gi) (f9 (ao (ae (af 0) (ae (af 6) az)) bf) (ag (af 6) (af 1) dS)))
 (aw (bT 7 (ao (ae (ag (ag (af 0) (dC (.int 1)) aO) (af 6) aO) (ae (af 3) az)) bN))
 au)
 au)
 (aw (dM (gq (ag (af 7) (dC (.non)) nk) (ag (af 7) (af 4) oY))
 (aw (bE (ao (ae (dC (.str "at")) (ae (af 5) az)) cT))
 au)
 au)
 (aw (bT 3 (af 7))
 (aw (du 4 (af 3))
 au)))))))
 (aw (dM (ag (af 3) (ag (af 0) (dC (.int 3)) aO) gi)
 (aw (bE (ao (ae (dC (.str "at")) (ae (ao (ae (af 2) az) (m1 cB)) az)) cT))
 au)
 au)
 (aw (bE (ao (ae (dC (.str "way")) (ae (af 4) az)) cT))
 au))))))
def bD:ac->ar D:=ck 8 cN
abbrev m_is_tie_number:ac->ar D:=Com.m_is_tie_number
abbrev m_look_at_taking:ac->ar D:=Com.m_look_at_taking
noncomputable def jl:bd :=
 (aw (bT 1 (ao (ae (ag (af 0) (dC (.int 0)) aO) (ae (ag (af 0) (dC (.int 1)) aO) az)) cT))
 (aw (dM (ag (ag (af 0) (dC (.int 2)) aO) (dC (.str "one")) gO)
 (aw (bE (ao (ae (af 1) az) b5))
 au)
 au)
 (aw (bE (ao (ae (af 1) (ae (ao (ae (ag (af 0) (dC (.int 1)) aO) (ae (ag (af 0) (dC (.int 0)) aO) az)) cT) az)) b5))
 au)))
def m_steps_along:ac->ar D:=ck 2 jl
noncomputable def df:bd :=
 (aw (dM (gq (ag (ag (af 2) (aY (dC (.int 1)) og) aO) (ag (af 0) (dC (.int 3)) aO) gO) (gq (cp (ao (ae (af 0) (ae (af 3) az)) m_is_tie_number)) (ag (af 3) (af 1) oY)))
 (aw (bE (dC (.non)))
 au)
 au)
 (aw (vG (ao (ae (ag (ag (af 0) (dC (.int 1)) aO) (af 3) aO) az) m_steps_along) (el [4,5])
 (aw (dM (f9 (ag (af 4) (ag (af 2) (aY (dC (.int 1)) og) aO) gO) (ag (af 5) (af 2) dS))
 (aw (bE (af 5))
 au)
 au)
 au))
 (aw (bE (dC (.non)))
 au)))
def m_place_behind:ac->ar D:=ck 6 df
noncomputable def dI:bd :=
 (aw (dM (cp (aY (af 2) (b9 "list")))
 (aw (fR "NoWay" ["at"] (ae (dC (.non)) az))
 au)
 au)
 (aw (jV 3 (ao (ae (ag (af 0) (dC (.int 2)) aO) az) b5))
 (aw (kM (xB (af 2)) (el [4,5])
 (aw (A8 6 (ao (ae (af 0) (ae (af 1) (ae (af 3) (ae (af 5) az)))) m_place_behind))
 (aw (dM (ag (af 6) (dC (.non)) nk)
 (aw (fR "NoWay" ["at"] (ae (af 4) az))
 au)
 au)
 (aw (du 3 (af 6))
 au))))
 (aw (zB 3 (dM (ag (ag (af 3) (aY (dC (.int 1)) og) aO) (ag (af 0) (dC (.int 3)) aO) gi)
 (aw (fR "NoWay" ["at"] (ae (ao (ae (af 2) az) (m1 cB)) az))
 au)
 au))
 (aw (bE (af 3))
 au)))))
def m_walk_way:ac->ar D:=ck 7 dI
def b_look_at_way:bd :=
 (aw (fS (ao (ae (af 0) (ae (af 1) az)) m_look_at_taking))
 (aw (fS (ao (ae (af 0) (ae (af 1) (ae (af 2) az))) m_walk_way))
 au))
def m_look_at_way:ac->ar D:=ck 3 b_look_at_way
end K11
namespace K12
open PySem L2 DL
abbrev bg:ac->ar D:=Cod.bg
noncomputable def pf:bd :=
 (aw (bE (ao (ae (ag (ag (ag (af 0) (dC (.int 0)) aO) (ag (af 1) (dC (.int 1)) aO) cx) (ag (ag (af 1) (dC (.int 0)) aO) (ag (af 0) (dC (.int 1)) aO) cx) bX) (ae (ag (ag (af 0) (dC (.int 1)) aO) (ag (af 1) (dC (.int 1)) aO) cx) az)) bg))
 au)
def cX:ac->ar D:=ck 2 pf
end K12
namespace K51
open PySem L2 DL
abbrev bg:ac->ar D:=Cod.bg
def nv:bd :=
 (aw (bE (ao (ae (ag (ag (af 0) (dC (.int 0)) aO) (ag (af 1) (dC (.int 0)) aO) cx) (ae (ag (ag (af 0) (dC (.int 1)) aO) (ag (af 1) (dC (.int 1)) aO) cx) az)) bg))
 au)
def ie:ac->ar D:=ck 2 nv
abbrev cX:ac->ar D:=K12.cX
noncomputable def jO:bd :=
 (aw (dM (gq (cp (aY (af 0) (b9 "tuple"))) (ag (ao (ae (af 0) az) (m1 cB)) (dC (.int 2)) gi))
 (aw (bE (dC (.bl false)))
 au)
 au)
 (aw (kM (CA (af 0)) (bU 1)
 (aw (dM (gq (cp (aY (af 1) (b9 "int"))) (aY (af 1) (b9 "bool")))
 (aw (bE (dC (.bl false)))
 au)
 au)
 au))
 (aw (bE (f9 (ag (ag (af 0) (dC (.int 0)) aO) (dC (.int 0)) RP) (f9 (ag (ag (af 0) (dC (.int 1)) aO) (dC (.int 0)) Dm) (ag (ao (ae (ag (af 0) (dC (.int 0)) aO) (ae (ag (af 0) (dC (.int 1)) aO) az)) bg) (af 0) gO))))
 au)))
def bS:ac->ar D:=ck 2 jO
def ph:bd :=
 (aw (bE (ag (ag (ag (af 0) (dC (.int 0)) aO) (ag (af 1) (dC (.int 1)) aO) cx) (ag (ag (af 1) (dC (.int 0)) aO) (ag (af 0) (dC (.int 1)) aO) cx) Kc))
 au)
def cY:ac->ar D:=ck 2 ph
abbrev m_is_length:ac->ar D:=Com.m_is_length
abbrev m_look_at_web:ac->ar D:=Com.m_look_at_web
noncomputable def lZ:bd :=
 (aw (dM (gq (cp (aY (af 1) (b9 "list"))) (ag (ao (ae (af 1) az) (m1 cB)) (ao (ae (ag (af 0) (dC (.int 1)) aO) az) (m1 cB)) gi))
 (aw (bE (dC (.bl false)))
 au)
 au)
 (aw (bE (ao (ae (dy 1 [] (kD (af 1)) (bU 0) mYes (ao (ae (af 0) az) m_is_length)) az) (m1 Ay)))
 au))
def m_has_lengths:ac->ar D:=ck 2 lZ
def k8:bd :=
 (aw (fS (ao (ae (af 0) az) m_look_at_web))
 (aw (dM (cp (ao (ae (af 0) (ae (af 1) az)) m_has_lengths))
 (aw dB
 au)
 au)
 au))
def m_look_at_adds:ac->ar D:=ck 2 k8
abbrev m_is_less:ac->ar D:=Com.m_is_less
abbrev m_ratio:ac->ar D:=Com.m_ratio
abbrev m_plus:ac->ar D:=Com.m_plus
def Cc:bd :=
 (aw (bE (ao (ae (ag (ag (af 0) (dC (.int 0)) aO) (ag (af 1) (dC (.int 0)) aO) cx) (ae (ag (ag (af 0) (dC (.int 1)) aO) (ag (af 1) (dC (.int 1)) aO) cx) az)) m_ratio))
 au)
def m_times:ac->ar D:=ck 2 Cc
end K51
namespace K17
open PySem L2 DL
abbrev cY:ac->ar D:=K51.cY
end K17
def Td:=(bx (bx (bx (bx (bx @Nk (bx @JK @JJ)) (bx @JS (bx @JP @F6))) (bx (bx @Nj (bx @JI @Nm)) (bx (bx @JN @JM) (bx @F5 @QN)))) (bx (bx (bx @Nt (bx @Nr @SO)) (bx @QR (bx @SQ @QO))) (bx (bx @QP (bx @SK @SN)) (bx (bx @QQ @QM) (bx @JR @QL))))) (bx (bx (bx (bx @Ni (bx @SR @QU)) (bx @QT (bx @Nq @JU))) (bx (bx @F9 (bx @F8 @SS)) (bx (bx @QV @JW) (bx @Ga @Np)))) (bx (bx (bx @JO (bx @Nv @JQ)) (bx @wD (bx @Nh @JH))) (bx (bx @JG (bx @m6 @Nu)) (bx (bx @JT @JV) (bx @Nl @JL))))))
local macro_rules|`(tactic|open_line with[$xs,*])=>`(tactic|simp only[N8,RC,Td,UG,Wn,UZ,Xp,Vz,X5,Wl,Xe,Wt,VI,Yc,Yd,Yo,Nat.reduceSub,Nat.reduceAdd,Zm,Xt,Y2,YO,decide_true,decide_false,Nat.reduceLeDiff,Nat.reduceBEq,Int.reduceBEq,beq_self_eq_true,DL.dOne,DL.mYes,Int.reduceLT,Int.reduceLE,Int.reduceSub,Int.reduceAdd,Int.reduceMul,Int.reduceNeg,Int.reduceToNat,Y3,$[$xs:term],*])
namespace Bor
open PySem L2 DL Com
def St(st:ac):Prop:=∃(c s:Int) (b:Bool),st=[.int c,.int s,.bl b]/\0<=s/\s<2147483647
def p6:oa (.int 10) (.int 6)=.ok (.int 1000000):=aI rfl
def next(s:Int):Int:=(s*39373+17).fmod 2147483647
def By(s:Int):0<=next s/\next s<2147483647:=gp (by decide)
def PN(m s:Int):Int:=m*2147483587+(s*s).fmod 2147483587
def Hr(h0:0<=s)(h1:s<2147483647)(hm:0<=m/\m<1000000000000000000000000000) :
  (bh (yl 0 a (mV 0 a (ag (ag (ag (ag (af 0) (dC (.int 1)) aO) (dC (.int 39373)) cx) (dC (.int 17)) bX) (dC (.int 2147483647)) eD)) (mP (dC (.int 1))))
 (bh (ey 3 (mV 0 a (ag (ag (af 3) (dC (.int 2147483587)) cx) (ag (ag (ag (af 0) (dC (.int 1)) aO) (ag (af 0) (dC (.int 1)) aO) cx) (dC (.int 2147483587)) eD) bX)))
 bY)) [.pt a,.sh (.int n),.no,.sh (.int m),.sh (.int k)] [.int c,.int s,.bl b]=.ok (.nx [.pt a,.sh (.int n),.no,.sh (.int (PN m (next s))),.sh (.int k)] [.int c,.int (next s),.bl b]):=by
 have o1:fW s 39373=true:=iF (by omega) (by decide);have g:=By s;have o2:fW (next s) (next s)=true:=iF (by omega) (by omega);have o3:fW m 2147483587=true:=dQ (W6 (show m.natAbs<1000000000000000000000000000 by omega) (by rw[tE];decide +kernel)) (W6 (show(2147483587:Int).natAbs<2147483588 by decide) (by rw[tE];decide +kernel));have e:(s*39373+17).fmod 2147483647=next s:=rfl;have hp:∀(ρ:Ev) (d:D),mx ρ d (.int 1,[.int c,.int s,.bl b])=.ok (.nx ρ [.int c,d,.bl b]):=λ_ _=>rfl;open_line with[cA o1,e,cA o2,cA o3,hp,PN]
def bM(a:Uy)(n0:0<n)(n1:n<=1000000000000000000)(h:St st):∃(d:Int) (st':ac),aF a st [.int n]=.ok (.int d,st')/\0<=d/\d<n/\St st':=by
 obtain⟨c,s,b,rfl,s0,s1⟩:=h;have hn0:(n==0)=false:=beq_eq_false_iff_ne.mpr (by omega);have hd:gZ c n=true:=K0 (by omega) (Wj (show n.natAbs<=1000000000000000000 by omega) (by rw[GR];decide +kernel));cases b with
 |true=>
  have f:=gp (a:=c) (b:=n) n0;have p0:∀(ρ:Ev) (d:D),mx ρ d (.int 0,[.int c,.int s,.bl true])=.ok (.nx ρ [d,.int s,.bl true]):=λ_ _=>rfl;have p2:∀(ρ:Ev) (d:D),mx ρ d (.int 2,[.int (c.fdiv n),.int s,.bl true])=.ok (.nx ρ [.int (c.fdiv n),.int s,d]):=λ_ _=>rfl;refine⟨c.fmod n,[.int (c.fdiv n),.int s,.bl (decide (c.fdiv n > 0))],?_,f.1,f.2,_,_,_,rfl,s0,s1⟩;open_line with[aF,k9,hn0,wz hd,p0,p2]
 |false=>
  have key:∃t:Nat,t<=3/\∀x2 x3 x4:Sl,(jt (ag (dC (.int 1)) (ag (dC (.int 2)) (ao (ae (ag (af 1) (ag (dC (.int 10)) (dC (.int 6)) oa) Dm) az) (m1 iN)) cx) bX)) [.pt a,.sh (.int n),x2,x3,x4]=.ok (intsFrom 0 t):=by
   by_cases hb:n > 1000000
   .refine⟨3,by decide,λx2 x3 x4=>?_⟩
    have o:fW 2 1=true:=iF (by decide) (by decide);have:(ag (dC (.int 1)) (ag (dC (.int 2)) (ao (ae (ag (af 1) (ag (dC (.int 10)) (dC (.int 6)) oa) Dm) az) (m1 iN)) cx) bX) [.pt a,.sh (.int n),x2,x3,x4]=.ok (.int 3):=by
     open_line with[p6,decide_eq_true hb,cA o]
    unfold jt;rw[this];rfl
   .refine⟨1,by decide,λx2 x3 x4=>?_⟩
    have o:fW 2 0=true:=iF (by decide) (by decide);have:(ag (dC (.int 1)) (ag (dC (.int 2)) (ao (ae (ag (af 1) (ag (dC (.int 10)) (dC (.int 6)) oa) Dm) az) (m1 iN)) cx) bX) [.pt a,.sh (.int n),x2,x3,x4]=.ok (.int 1):=by
     open_line with[p6,decide_eq_false hb,cA o]
    unfold jt;rw[this];rfl
  obtain⟨t,ht,hsrc⟩:=key;have hlen:(intsFrom 0 t).length=t:=by unfold DL.intsFrom;simp
  obtain⟨ρ2,st2,hl,m,s',x4,rfl,rfl,k0,k1,m0,_⟩:=mW (tg:=bU 4) (body:=(bh (yl 0 a (mV 0 a (ag (ag (ag (ag (af 0) (dC (.int 1)) aO) (dC (.int 39373)) cx) (dC (.int 17)) bX) (dC (.int 2147483647)) eD)) (mP (dC (.int 1))))
 (bh (ey 3 (mV 0 a (ag (ag (af 3) (dC (.int 2147483587)) cx) (ag (ag (ag (af 0) (dC (.int 1)) aO) (ag (af 0) (dC (.int 1)) aO) cx) (dC (.int 2147483587)) eD) bX)))
 bY)))
   (λj ρ st=>∃(m s:Int) (x4:Sl),ρ=[.pt a,.sh (.int n),.no,.sh (.int m),x4]/\st=[.int c,.int s,.bl false]/\0<=s/\s<2147483647/\0<=m/\m<(2147483587:Int) ^ j)
   (intsFrom 0 t) (by
    rintro j d ρ st hj ⟨m,s,x4,rfl,rfl,s0,s1,m0,m1⟩;have hjt:j<t:=by have:=(Ux.mp hj).1;omega
    have hd:d=.int (j:Int):=by
     unfold DL.intsFrom at hj;rw[UK,ZQ hjt]at hj;simp at hj;exact hj.symm
    subst hd;have hm:m<1000000000000000000000000000:=by
     have hj3:j=0∨j=1∨j=2:=by omega
     rcases hj3 with rfl|rfl|rfl<;>omega
    have g:=By s;have r:=gp (a:=next s*next s) (b:=2147483587) (by decide);refine⟨_,_,_,rfl,.inl (Hr (k:=(j:Int)) s0 s1 ⟨m0,hm⟩),PN m (next s),next s,_,rfl,rfl,g.1,g.2,?_,?_⟩
    .unfold PN
     have:0<=m*2147483587:=Int.mul_nonneg m0 (by decide);omega
    .unfold PN
     rw[Int.pow_succ];omega) 0 [.pt a,.sh (.int n),.no,.sh (.int 0),.no] [.int c,.int s,.bl false] (Wx _) ⟨0,s,_,rfl,rfl,s0,s1,by decide,by decide⟩
  rw[VR]at hl;have f:=gp (a:=m.fdiv 64) (b:=n) n0;have hd64:gZ m 64=true:=K0 (by decide) (by rw[GR];decide +kernel);refine⟨(m.fdiv 64).fmod n,[.int c,.int s',.bl false],?_,f.1,f.2,c,s',false,rfl,k0,k1⟩;open_line with[aF,k9,hsrc,hl,wz hd64,hn0]
def Gx(ns:List Int)(k:Nat)(hk:k<=1000)(hl:ns.length<=63):∃st,cL [.lst (ns.map D.int),.int k]=.ok (.lst st)/\St st:=by
 have hlen:cB (.lst (ns.map D.int))=.ok (.int ns.length):=by
  rw[eH,Us]
 have o1:fW 104729 (k:Int)=true:=iF (by decide) (by omega);have o2:fW (104729*(k:Int)) (k:Int)=true:=iF (by omega) (by omega)
 by_cases h:k<ns.length
 .have hix:aO (.lst (ns.map D.int)) (.int (k:Int))=.ok (.int ns[k]):=jh (by rw[UK,Ut h];rfl)
  have f:=gp (a:=(ns[k].fmod 2147483587+104729*(k:Int)*(k:Int)+7)) (b:=2147483587) (by decide);refine⟨[.int ns[k],.int ((ns[k].fmod 2147483587+104729*(k:Int)*(k:Int)+7).fmod 2147483587),.bl (decide (ns[k]≥1000000000000000000))],?_,_,_,_,rfl,f.1,by omega⟩;unfold cL CH km;open_line with[hlen,hix,Ao,cA o1,cA o2,decide_eq_true (show(k:Int)<(ns.length:Int) by omega),uu,Lx,xI,L5]
 .have f:=gp (a:=((0:Int).fmod 2147483587+104729*(k:Int)*(k:Int)+7)) (b:=2147483587) (by decide)
  refine⟨[.int 0,.int (((0:Int).fmod 2147483587+104729*(k:Int)*(k:Int)+7).fmod 2147483587),.bl false],?_,_,_,_,rfl,f.1,by omega⟩;unfold cL CH km;open_line with[hlen,Ao,cA o1,cA o2,decide_eq_false (show ¬(k:Int)<(ns.length:Int) by omega),uu,Lx,xI,L5]
def T8:oa (.int 10) (.int 12)=.ok (.int 1000000000000):=aI rfl
structure GZ (x:g7):Prop where
 lo:Low x
 p0:0<=x.1
 p1:x.1<=1000000000000
 q1:x.2<=60
def Kn{c q:Int}(h0:0<=c)(h1:c<=1000000000000)(hq:0<q)(hq2:q<=60):GZ (lT c q):=by
 have a1:=v5 (a:=c) (b:=q);have a2:=vZ (a:=c) (b:=q);have hl:=j8 (a:=c) hq;have:=hl.q1;exact⟨hl,qY h0 hq,by omega,by omega⟩
def tf(a:Uy)(hl:l=0∨l=1)(h:St st):∃(x:g7) (st':ac),dD a st [.int l]=.ok (fr x,st')/\zb x/\0<=x.1/\(l=1->0<x.1)/\GZ x/\St st':=by
 have hN:(1000000000000000000000:Int)<(GY:Int):=by decide
 obtain⟨w,st1,t1,w0,w1,S1⟩:=bM a (n:=6) (by decide) (by decide) h;obtain⟨t,m,ht,hm,i1,i2⟩:∃t m:Int,(0<t/\t<=1000000000000)/\(0<m/\m<=12)/\aO (.lst [.int 3,.int 6,.int 20,.int 12,.int 90,.int 1000000000000]) (.int w)=.ok (.int t)/\aO (.lst [.int 1,.int 1,.int 1,.int 4,.int 12,.int 12]) (.int w)=.ok (.int m):=by
  have:w=0∨w=1∨w=2∨w=3∨w=4∨w=5:=by omega
  rcases this with rfl|rfl|rfl|rfl|rfl|rfl
  .exact⟨3,1,by decide,by decide,rfl,rfl⟩
  .exact⟨6,1,by decide,by decide,rfl,rfl⟩
  .exact⟨20,1,by decide,by decide,rfl,rfl⟩
  .exact⟨12,4,by decide,by decide,rfl,rfl⟩
  .exact⟨90,12,by decide,by decide,rfl,rfl⟩
  .exact⟨1000000000000,12,by decide,by decide,rfl,rfl⟩
 obtain⟨u,st2,t2,u0,u1,S2⟩:=bM a (n:=t) ht.1 (by omega) S1;obtain⟨v,st3,t3,v0,v1,S3⟩:=bM a (n:=m) hm.1 (by omega) S2;obtain⟨q,hq,i3⟩:∃q:Int,(0<q/\q<=60)/\aO (.lst [.int 1,.int 2,.int 3,.int 4,.int 5,.int 6,.int 10,.int 12,.int 15,.int 20,.int 30,.int 60]) (.int v)=.ok (.int q):=by
  have:v=0∨v=1∨v=2∨v=3∨v=4∨v=5∨v=6∨v=7∨v=8∨v=9∨v=10∨v=11:=by omega
  rcases this with rfl|rfl|rfl|rfl|rfl|rfl|rfl|rfl|rfl|rfl|rfl|rfl
  .exact⟨1,by decide,rfl⟩
  .exact⟨2,by decide,rfl⟩
  .exact⟨3,by decide,rfl⟩
  .exact⟨4,by decide,rfl⟩
  .exact⟨5,by decide,rfl⟩
  .exact⟨6,by decide,rfl⟩
  .exact⟨10,by decide,rfl⟩
  .exact⟨12,by decide,rfl⟩
  .exact⟨15,by decide,rfl⟩
  .exact⟨20,by decide,rfl⟩
  .exact⟨30,by decide,rfl⟩
  .exact⟨60,by decide,rfl⟩
 have hlo:=Cod.low_ok (a:=l+u) (b:=q) (by omega) (PY (by omega) (by omega)) (PY (by omega) (by omega));refine⟨lT (l+u) q,st3,?_,PZ (by omega) (by omega) (by omega),qY (by omega) (by omega),λe=>BD (by omega) (by omega),Kn (by omega) (by omega) (by omega) (by omega),S3⟩;open_line with[dD,l3,t1,t2,t3,i1,i2,i3,T8,hlo]
def zP{k n:Int}(hn:2<=n):k.fmod n≠(k+1).fmod n:=by
 rw[VM _ (by omega),VM _ (by omega)];intro e;have:=Int.emod_eq_emod_iff_emod_sub_eq_zero.mp e.symm;rw[show k+1-k=1 by omega,Ys (by decide) (by omega)]at this;cases this
def iU(t:wY):Prop:=GZ t.l/\∀x,t.o=some x->GZ x
def Hw(a:Uy){k:Nat}(h2:2<=zs.length)(h8:zs.length<=8)(nd:zs.Nodup)(h:St st):∃(t:wY) (st':ac),fA a st [.lst (zs.map D.str),.int k]=.ok (cz t,st')/\pj zs t/\iU t/\St st':=by
 have hlen:cB (.lst (zs.map D.str))=.ok (.int zs.length):=by rw[eH,Us]
 have hn0:((zs.length:Int)==0)=false:=beq_eq_false_iff_ne.mpr (by omega);obtain⟨d,st1,t1,d0,d1,S1⟩:=bM a (n:=(zs.length:Int)) (by omega) (by omega) h;obtain⟨e,st2,t2,e0,e1,S2⟩:=bM a (n:=(zs.length:Int)-1) (by omega) (by omega) S1;obtain⟨f,st3,t3,f0,f1,S3⟩:=bM a (n:=2) (by decide) (by decide) S2;obtain⟨g,st4,t4,g0,g1,S4⟩:=bM a (n:=2) (by decide) (by decide) S3;obtain⟨x,st5,t5,fx,lx,_,ax,S5⟩:=tf a (l:=0) (.inl rfl) S4;obtain⟨y,st6,t6,fy,_,ly,ay,S6⟩:=tf a (l:=1) (.inr rfl) S5;obtain⟨v,st7,t7,v0,v1,S7⟩:=bM a (n:=4) (by decide) (by decide) S6;obtain⟨wd,hw,jw⟩:=Hi g0 g1;obtain⟨p,q,hp,hq,hpq,hplace⟩:∃p q:Int,(0<=p/\p<(zs.length:Int))/\(0<=q/\q<(zs.length:Int))/\p≠q/\(((f==0)=true/\p=(k:Int).fmod (zs.length:Int)/\q=((k:Int)+1).fmod (zs.length:Int))∨((f==0)=false/\p=d/\q=(d+1+e).fmod (zs.length:Int))):=by
  cases h10:(f==0) with
  |true=>exact⟨_,_,gp (by omega),gp (by omega),zP (by omega),.inl ⟨rfl,rfl,rfl⟩⟩
  |false=>
   obtain⟨hr,hne⟩:=vf (n:=(zs.length:Int)) (d:=d) (e:=e) (by omega) d0 d1 e0 e1;exact⟨_,_,⟨d0,d1⟩,hr,Vj hne,.inr ⟨rfl,rfl,rfl⟩⟩
 obtain⟨z1,k1,j1⟩:=vB (zs:=zs) hp.1 hp.2;obtain⟨z2,k2,j2⟩:=vB (zs:=zs) hq.1 hq.2;have hz12:z1≠z2:=qW nd k1 k2 (by omega);have hP:Lk a [.pt a,.sh (.lst (zs.map D.str)),.sh (.int k),.sh (.int (zs.length:Int)),.sh (.int d),.sh (.int ((d+1+e).fmod (zs.length:Int))),.no,.no,.no] st2=.ok (.nx [.pt a,.sh (.lst (zs.map D.str)),.sh (.int k),.sh (.int (zs.length:Int)),.sh (.int p),.sh (.int q),.no,.no,.no] st3):=by
  rcases hplace with⟨h10,rfl,rfl⟩|⟨h10,rfl,rfl⟩<;>open_line with[Lk,t3,h10,hn0]
 obtain⟨o,ho,hW⟩:∃o:Option g7,(o=none∨o=some y)/\∀e1 e2 e3 e4 e5 e6 e7:Sl,Hy a [.pt a,e1,e2,e3,e4,e5,e6,e7,.sh (fr y)] st6=.ok (.nx [.pt a,e1,e2,e3,e4,e5,e6,e7,.sh (fN o)] st7):=by
  cases h4:(v==0) with
  |true=>exact⟨none,.inl rfl,λe1 e2 e3 e4 e5 e6 e7=>by open_line with[Hy,t7,h4,fN]⟩
  |false=>exact⟨some y,.inr rfl,λe1 e2 e3 e4 e5 e6 e7=>by open_line with[Hy,t7,h4,fN]⟩
 refine⟨⟨z1,z2,wd,x,o⟩,st7,?_,⟨UX k1,UX k2,hz12,hw,fx,lx,λ_ hv=>?_⟩,⟨ax,λ_ hv=>?_⟩,S7⟩
 .open_line with[fA,sX,hlen,t1,t2,hP,t4,t5,t6,hW,uc,hn0,jw,j1,j2,cz]
 .rcases ho with rfl|rfl<;>cases hv
  exact⟨fy,ly rfl⟩
 .rcases ho with rfl|rfl<;>cases hv
  exact ay
theorem mR:∀{es:ac}{P:Int->Prop},(∀e∈es,∃l,e=D.int l/\P l)->∃ls:List Int,es=ls.map D.int/\∀l∈ls,P l
 |[],P,_=>⟨[],rfl,λl h=>by simp at h⟩
 |e::es,P,h=>by
  obtain⟨l,rfl,hl⟩:=h e (by simp);obtain⟨ls,rfl,hs⟩:=mR (es:=es) (P:=P) λe he=>h e (UH _ he);exact⟨l::ls,rfl,λx hx=>by
   rcases UI.mp hx with rfl|hx
   .exact hl
   .exact hs x hx⟩
def z8(a:Uy)(h:St st):∃(ls:List Int) (st':ac),ml [.no,.pt a] (bU 0) (bL 1 a (aV (mP (dC (.int 26))) cm) aF) (DL.intsFrom 0 8,st)=.ok (.lst (ls.map D.int),st')/\ls.length=8/\(∀l∈ls,0<=l/\l<26)/\St st':=by
 obtain⟨es,st',h1,h2,h3,h4⟩:=oi (b:=[.no,.pt a]) (tg:=bU 0) (fm:=bL 1 a (aV (mP (dC (.int 26))) cm) aF) St (λe=>∃l,e=D.int l/\0<=l/\l<26) (DL.intsFrom 0 8) st h (by
  intro d st _ h;obtain⟨x,st',t1,x0,x1,S1⟩:=bM a (n:=26) (by decide) (by decide) h;refine⟨_,.int x,st',rfl,?_,⟨x,rfl,x0,x1⟩,S1⟩;open_line with[t1])
 obtain⟨ls,rfl,hls⟩:=mR h3;refine⟨ls,st',?_,by simpa[DL.intsFrom] using h2,hls,h4⟩;unfold ml;rw[if_pos (show(DL.intsFrom 0 8).length<=line by decide),h1];rfl
def yV(l:Int):Nat:=97+l.toNat
def En{ls:List Int}(hf:f ρ=.ok (.lst (ls.map D.int)))(hg:g ρ=.ok (.int (m:Int)))(hm:m<=ls.length)(hl:ls.length<=1000):pL f dX (dP g) ρ=.ok (.lst ((ls.take m).map D.int)):=by
 unfold pL;rw[hf];simp only[ar.bind,dX,dP,hg];exact congrArg (λz=>ar.ok (D.lst z)) (Az hm)
def HE{ls:List Int}(hl:ls.length<=100)(hb:∀l∈ls,0<=l/\l<26):ff 1 [] (bU 0) mYes (ag (dC (.str "abcdefghijklmnopqrstuvwxyz")) (af 0) aO) ρ (ls.map D.int)=.ok (.lst ((ls.map yV).map λc=>D.str ⟨#[c]⟩)):=by
 rw[yU (F:=λd=>match d with|.int l=>.str ⟨#[yV l]⟩|d=>d) (by rw[Us];omega)]
 .congr 2
  rw[VQ,VQ];rfl
 .intro d hd
  obtain⟨l,hl',rfl⟩:=U4.mp hd;obtain⟨b0,b1⟩:=hb l hl';refine⟨[.sh (.int l)],rfl,rfl,?_⟩;open_line with[N2 b0 b1]
  rfl
def HD{ls:List Int}(hl:ls.length<=100):mQ "" [.lst ((ls.map yV).map λc=>D.str ⟨#[c]⟩)]=.ok (.str (Cod.S (ls.map yV))):=Ab (cs:=ls.map yV) (by rw[Us];omega)
def pF(ls:List Int)(lg at_:Nat)(tu sp:Int)(ne:Bool)(k:Nat):List Int:=if ne=true then ls.take (1+((tu+(k:Int)).fmod 8).toNat) else(ls.take lg).set at_ ((tu+sp*(k:Int)).fmod 26)
def nm(ls:List Int)(lg at_:Nat)(tu sp:Int)(ne:Bool)(k:Nat):bv:=(pF ls lg at_ tu sp ne k).map yV
section
variable {ls:List Int}{lg at_:Nat}{tu sp:Int}{ne:Bool}(h8:ls.length=8) (hb:∀l∈ls,0<=l/\l<26) (g1:1<=lg) (g8:lg<=8) (ha:at_<lg)
include hb in
theorem BE{k:Nat}:∀l∈pF ls lg at_ tu sp ne k,0<=l/\l<26:=by
 intro l hl;unfold pF at hl;cases ne with
 |true=>rw[if_pos rfl]at hl;exact hb l (Wc hl)
 |false=>
  rw[if_neg (by decide)]at hl;rcases List.mem_or_eq_of_mem_set hl with hl|rfl
  .exact hb l (Wc hl)
  .exact gp (by decide)
include h8 g8 in
theorem mM{k:Nat}:(pF ls lg at_ tu sp ne k).length=if ne=true then 1+((tu+(k:Int)).fmod 8).toNat else lg:=by
 unfold pF;have:=gp (a:=tu+(k:Int)) (b:=8) (by decide);cases ne with|true=>rw[if_pos rfl,if_pos rfl,VA,h8];omega|false=>rw[if_neg (by decide),if_neg (by decide),List.length_set,VA,h8];omega
include h8 hb g1 g8 in
theorem PJ{k:Nat}:Cod.IsNm (nm ls lg at_ tu sp ne k):=by
 have hl:=mM (tu:=tu) (sp:=sp) (ne:=ne) (at_:=at_) h8 g8 (k:=k);have:=gp (a:=tu+(k:Int)) (b:=8) (by decide);refine⟨?_,?_,λx hx=>?_⟩
 .unfold nm;rw[Us,hl];split<;>omega
 .unfold nm;rw[Us,hl];split<;>omega
 .unfold nm at hx
  obtain⟨l,hl,rfl⟩:=U4.mp hx;have:=BE hb l hl;exact N3 _ (by omega)
include h8 g8 ha in
theorem Fe{i j:Nat}(hij:i<j)(hj:j<7)(hs:sp=1∨sp=3∨sp=5∨sp=7∨sp=9∨sp=11):nm ls lg at_ tu sp ne i≠nm ls lg at_ tu sp ne j:=by
 intro e;cases ne with
 |true=>
  have hl:=congrArg Xm e;unfold nm at hl;rw[Us,Us,mM h8 g8,mM h8 g8,if_pos rfl,if_pos rfl]at hl;have f1:=gp (a:=tu+(i:Int)) (b:=8) (by decide);have f2:=gp (a:=tu+(j:Int)) (b:=8) (by decide);have he:(tu+(i:Int)).fmod 8=(tu+(j:Int)).fmod 8:=by omega
  rw[VM _ (by decide),VM _ (by decide)]at he;omega
 |false=>
  have h1:(nm ls lg at_ tu sp false i)[at_]?=(nm ls lg at_ tu sp false j)[at_]?:=by rw[e]
  unfold nm pF at h1;rw[if_neg (by decide),if_neg (by decide),UK,UK,Vg (by rw[VA,h8];omega),Vg (by rw[VA,h8];omega)]at h1;simp only[WC,V2,yV]at h1;have f1:=gp (a:=tu+sp*(i:Int)) (b:=26) (by decide);have f2:=gp (a:=tu+sp*(j:Int)) (b:=26) (by decide);have he:(tu+sp*(i:Int)).fmod 26=(tu+sp*(j:Int)).fmod 26:=by omega
  rw[VM _ (by decide),VM _ (by decide)]at he;rcases hs with rfl|rfl|rfl|rfl|rfl|rfl<;>omega
include h8 g8 ha in
theorem CS(hs:sp=1∨sp=3∨sp=5∨sp=7∨sp=9∨sp=11):∀n:Nat,n<=7->((Vv n).map (nm ls lg at_ tu sp ne)).Nodup:=by
 intro n hn;rw[Xy,XF];have:(Vv n).Pairwise (· < ·):=List.pairwise_lt_range;refine WG.imp_of_mem (λ{i j} hi hj hij=>?_) this;rw[W9]at hj;exact Fe h8 g8 ha hij (by omega) hs
end
def kS(ls:List Int)(lg at_:Nat)(tu sp:Int)(ne:Bool)(k:Nat):List (bv):=(Vv k).map (nm ls lg at_ tu sp ne)
def zO:Cod.nmsD (kS ls lg at_ tu sp ne (k+1))=Cod.nmsD (kS ls lg at_ tu sp ne k)++[.str (Cod.S (nm ls lg at_ tu sp ne k))]:=by
 unfold kS Cod.nmsD;rw[List.range_succ,U9,U9];rfl
def Fd{lg at_ n:Nat}(h8:ls.length=8)(hb:∀l∈ls,0<=l/\l<26)(g1:1<=lg)(g8:lg<=8)(ha:at_<lg)(t0:0<=tu/\tu<26)(s0:0<=sp/\sp<=11)(hn:n<=7) :
  ∃x9 x10,b7 (bU 9) (aw (jV 10 (pL (af 2) dX (dP (af 3))))
 (aw (Es 10 (ag (ag (af 5) (ag (af 6) (af 9) cx) bX) (dC (.int 26)) eD) (af 4))
 (aw (dM (af 7)
 (aw (jV 10 (pL (af 2) dX (dP (ag (dC (.int 1)) (ag (ag (af 5) (af 9) bX) (dC (.int 8)) eD) bX))))
 au)
 au)
 (aw (zB 10 (du 8 (uV (dC (.str "")) (ae (dy 1 [] (kD (af 10)) (bU 0) mYes (ag (dC (.str "abcdefghijklmnopqrstuvwxyz")) (af 0) aO)) az))))
 au)))) (DL.intsFrom 0 n) [.pt a,.sh (.int (n:Int)),.sh (.lst (ls.map D.int)),.sh (.int (lg:Int)),.sh (.int (at_:Int)),.sh (.int tu),.sh (.int sp),.sh (.bl ne),.ow (.lst []),.no,.no] =
   .ok (.nx [.pt a,.sh (.int (n:Int)),.sh (.lst (ls.map D.int)),.sh (.int (lg:Int)),.sh (.int (at_:Int)),.sh (.int tu),.sh (.int sp),.sh (.bl ne),.ow (.lst (Cod.nmsD (kS ls lg at_ tu sp ne n))),x9,x10]):=by
 obtain⟨ρ',hl,x9,x10,rfl⟩:=wq (i:=9) (n:=n)
  (ρ:=[.pt a,.sh (.int (n:Int)),.sh (.lst (ls.map D.int)),.sh (.int (lg:Int)),.sh (.int (at_:Int)),.sh (.int tu),.sh (.int sp),.sh (.bl ne),.ow (.lst []),.no,.no])
  (body:=(aw (jV 10 (pL (af 2) dX (dP (af 3))))
 (aw (Es 10 (ag (ag (af 5) (ag (af 6) (af 9) cx) bX) (dC (.int 26)) eD) (af 4))
 (aw (dM (af 7)
 (aw (jV 10 (pL (af 2) dX (dP (ag (dC (.int 1)) (ag (ag (af 5) (af 9) bX) (dC (.int 8)) eD) bX))))
 au)
 au)
 (aw (zB 10 (du 8 (uV (dC (.str "")) (ae (dy 1 [] (kD (af 10)) (bU 0) mYes (ag (dC (.str "abcdefghijklmnopqrstuvwxyz")) (af 0) aO)) az))))
 au)))))
  (λk ρ=>∃x9 x10,ρ=[.pt a,.sh (.int (n:Int)),.sh (.lst (ls.map D.int)),.sh (.int (lg:Int)),.sh (.int (at_:Int)),.sh (.int tu),.sh (.int sp),.sh (.bl ne),.ow (.lst (Cod.nmsD (kS ls lg at_ tu sp ne k))),x9,x10]) (by
   rintro k hk ρ ⟨x9,x10,rfl⟩;have hlen:=mM (tu:=tu) (sp:=sp) (ne:=ne) (at_:=at_) h8 g8 (k:=k);have f8:=gp (a:=tu+(k:Int)) (b:=8) (by decide);have om:fW sp (k:Int)=true:=iF (by omega) (by omega);have hap:decide ((Cod.nmsD (kS ls lg at_ tu sp ne k)).length<=999)=true:=decide_eq_true (by unfold Cod.nmsD kS;simp;omega);have hs1:∀x8 x10,pL (af 2) dX (dP (af 3)) [.pt a,.sh (.int (n:Int)),.sh (.lst (ls.map D.int)),.sh (.int (lg:Int)),.sh (.int (at_:Int)),.sh (.int tu),.sh (.int sp),.sh (.bl ne),x8,.sh (.int (k:Int)),x10]=.ok (.lst ((ls.take lg).map D.int)):=λ_ _=>En rfl rfl (by omega) (by omega);have hix:uK ((ls.take lg).map D.int).length (at_:Int)=some at_:=by
    rw[Us,VA,h8];unfold uK;rw[if_pos (by omega),if_pos (by omega)];simp
   have hset:((ls.take lg).map D.int).set at_ (.int ((tu+sp*(k:Int)).fmod 26))=((ls.take lg).set at_ ((tu+sp*(k:Int)).fmod 26)).map D.int:=(List.map_set ..).symm;have hll:(pF ls lg at_ tu sp ne k).length<=100:=by rw[hlen];split<;>omega
   have hc:=λρ=>HE (ρ:=ρ) hll (BE hb);have hj:mQ "" [.lst (((pF ls lg at_ tu sp ne k).map yV).map λc=>D.str ⟨#[c]⟩)]=.ok (.str (Cod.S (nm ls lg at_ tu sp ne k))):=HD hll;refine⟨[.pt a,.sh (.int (n:Int)),.sh (.lst (ls.map D.int)),.sh (.int (lg:Int)),.sh (.int (at_:Int)),.sh (.int tu),.sh (.int sp),.sh (.bl ne),.ow (.lst (Cod.nmsD (kS ls lg at_ tu sp ne (k+1)))),.sh (.int (k:Int)),.sh (.lst ((pF ls lg at_ tu sp ne k).map D.int))],?_,_,_,rfl⟩;rw[zO];cases ne with
   |true=>
    have e1:pF ls lg at_ tu sp true k=ls.take (1+((tu+(k:Int)).fmod 8).toNat):=if_pos rfl;have hs2:∀x8 x10,pL (af 2) dX (dP (ag (dC (.int 1)) (ag (ag (af 5) (af 9) bX) (dC (.int 8)) eD) bX)) [.pt a,.sh (.int (n:Int)),.sh (.lst (ls.map D.int)),.sh (.int (lg:Int)),.sh (.int (at_:Int)),.sh (.int tu),.sh (.int sp),.sh (.bl true),x8,.sh (.int (k:Int)),x10]=.ok (.lst ((pF ls lg at_ tu sp true k).map D.int)):=λx8 x10=>by
     rw[e1];refine En rfl ?_ (by omega) (by omega);open_line with[]
     congr 2
     omega
    open_line with[hs1,cA om,yK hix,hset,hs2,hc,hj,i9 hap]
   |false=>
    have e1:(ls.take lg).set at_ ((tu+sp*(k:Int)).fmod 26)=pF ls lg at_ tu sp false k:=(if_neg (by decide)).symm;rw[e1]at hset;open_line with[hs1,cA om,yK hix,hset,hc,hj,i9 hap]) ⟨_,_,rfl⟩
 exact⟨x9,x10,hl⟩
def Fg(a:Uy){n:Nat}(hn:n<=7)(h:St st):∃(css:List (bv)) (st':ac),eU a st [.int (n:Int)]=.ok (.lst (Cod.nmsD css),st')/\css.length=n/\css.Nodup/\(∀cs∈css,Cod.IsNm cs)/\St st':=by
 obtain⟨ls,st1,t1,h8,hb,S1⟩:=z8 a h;obtain⟨d,st2,t2,d0,d1,S2⟩:=bM a (n:=8) (by decide) (by decide) S1;obtain⟨at_,st3,t3,a0,a1,S3⟩:=bM a (n:=1+d) (by omega) (by omega) S2;obtain⟨tu,st4,t4,u0,u1,S4⟩:=bM a (n:=26) (by decide) (by decide) S3;obtain⟨e,st5,t5,e0,e1,S5⟩:=bM a (n:=6) (by decide) (by decide) S4;obtain⟨f,st6,t6,f0,f1,S6⟩:=bM a (n:=3) (by decide) (by decide) S5;obtain⟨sp,hs,i1⟩:∃sp:Int,(sp=1∨sp=3∨sp=5∨sp=7∨sp=9∨sp=11)/\aO (.lst [.int 1,.int 3,.int 5,.int 7,.int 9,.int 11]) (.int e)=.ok (.int sp):=by
  have:e=0∨e=1∨e=2∨e=3∨e=4∨e=5:=by omega
  rcases this with rfl|rfl|rfl|rfl|rfl|rfl
  .exact⟨1,by decide,rfl⟩
  .exact⟨3,by decide,rfl⟩
  .exact⟨5,by decide,rfl⟩
  .exact⟨7,by decide,rfl⟩
  .exact⟨9,by decide,rfl⟩
  .exact⟨11,by decide,rfl⟩
 obtain⟨lg,hlg⟩:=Vf (show 0<=1+d by omega);obtain⟨at',rfl⟩:=Vf a0;rw[hlg]at t3;obtain⟨x9,x10,hl⟩:=Fd (a:=a) (ls:=ls) (lg:=lg) (at_:=at') (n:=n) (tu:=tu) (sp:=sp) (ne:=(f==0)) h8 hb (by omega) (by omega) (by omega) ⟨u0,u1⟩ (by omega) hn;refine⟨kS ls lg at' tu sp (f==0) n,st6,?_,by unfold kS;simp,CS h8 (by omega) (by omega) hs n hn,λcs hc=>?_,S6⟩
 .have hsrc:∀ρ,jt (dC (.int 8)) ρ=.ok (DL.intsFrom 0 8):=λ_=>rfl
  have hbm:∀x1 x2 x3 x4 x5 x6 x7 x8 x9 x10,fK 1 [0] [.pt a,x1,x2,x3,x4,x5,x6,x7,x8,x9,x10]=[.no,.pt a]:=λ_ _ _ _ _ _ _ _ _ _=>rfl;open_line with[eU,ny,hsrc,hbm,t1,t2,hlg,t3,t4,t5,i1,t6,mZ,iI (show n<=1000000 by omega),hl]
 .unfold kS at hc
  obtain⟨k,_,rfl⟩:=U4.mp hc;exact PJ h8 hb (by omega) (by omega)
def Hj(a:Uy){p q:Nat}(hp:2<=p/\p<=7)(hq:q<=14)(h:St st):∃(w:iT) (st':ac),fz a st [.int (p:Int),.int (q:Int)]=.ok (aP w,st')/\cc w/\(∀t∈w.ts,iU t)/\St st':=by
 obtain⟨m,st1,t1,m0,m1,S1⟩:=bM a (n:=(p:Int)-1) (by omega) (by omega) h;obtain⟨m,rfl⟩:=Vf m0;obtain⟨css,st2,t2,hcl,hnd,hall,S2⟩:=Fg a (n:=2+m) (by omega) S1;have hnm:Cod.nmsD css=(css.map Cod.S).map D.str:=by unfold Cod.nmsD;rw[VQ];rfl
 have hzl:(css.map Cod.S).length=2+m:=by rw[Us,hcl]
 have nd:(css.map Cod.S).Nodup:=by
  rw[Xy,XF];exact Yr (λh z=>h (Cod.S_inj z)) (Xy.mp hnd)
 have nm:nB (css.map Cod.S):=⟨nd,λz hz=>by
  obtain⟨cs,hc,rfl⟩:=U4.mp hz;exact(hall cs hc).nameB⟩
 rw[hnm]at t2;generalize css.map Cod.S=zs at *;have hlen:cB (.lst (zs.map D.str))=.ok (.int zs.length):=by rw[eH,Us]
 have hn0:((zs.length:Int)==0)=false:=beq_eq_false_iff_ne.mpr (by omega);obtain⟨c,st3,t3,c0,c1,S3⟩:=bM a (n:=(q:Int)+1) (by omega) (by omega) S2;obtain⟨c,rfl⟩:=Vf c0;have hlenI:(DL.intsFrom 0 c).length=c:=by unfold DL.intsFrom;simp
 obtain⟨ρ2,st4,hl,ts,x6,rfl,htl,hts,S4⟩:=mW (tg:=bU 6) (body:=(bh (zY 5 (bL 0 a (aV (mP (af 3)) (aV (mP (af 6)) cm)) fA))
 bY))
  (λj ρ st=>∃(ts:List wY) (x6:Sl),ρ=[.pt a,.sh (.int (p:Int)),.sh (.int (q:Int)),.sh (.lst (zs.map D.str)),.sh (.int (zs.length:Int)),.ow (.lst (ts.map cz)),x6,.no,.no]/\ts.length=j/\(∀t∈ts,pj zs t/\iU t)/\St st) (DL.intsFrom 0 c) (by
   rintro j d ρ st hj ⟨ts,x6,rfl,rfl,hts,S⟩;have hjt:ts.length<c:=by have:=(Ux.mp hj).1;omega
   have hd:d=.int (ts.length:Int):=by
    unfold DL.intsFrom at hj;rw[UK,ZQ hjt]at hj;simp at hj;exact hj.symm
   subst hd;obtain⟨t,st',tt,tk,ta,S'⟩:=Hw a (zs:=zs) (k:=ts.length) (by omega) (by omega) nd S;have hap:decide ((ts.map cz).length<=999)=true:=decide_eq_true (by rw[Us];omega);refine⟨_,[.pt a,.sh (.int (p:Int)),.sh (.int (q:Int)),.sh (.lst (zs.map D.str)),.sh (.int (zs.length:Int)),.ow (.lst ((ts++[t]).map cz)),.sh (.int (ts.length:Int)),.no,.no],st',rfl,.inl ?_,ts++[t],_,rfl,by simp,λu hu=>?_,S'⟩
   .open_line with[tt,wD hap,U9]
   .rw[U6]at hu
    rcases hu with hu|hu
    .exact hts u hu
    .have:u=t:=by simpa using hu
     subst this;exact⟨tk,ta⟩) 0 [.pt a,.sh (.int (p:Int)),.sh (.int (q:Int)),.sh (.lst (zs.map D.str)),.sh (.int (zs.length:Int)),.ow (.lst []),.no,.no,.no] st3 (Wx _) ⟨[],_,rfl,rfl,λt ht=>by simp at ht,S3⟩
 rw[VR]at hl;rw[hlenI]at htl;have hsr:nV (.int (c:Int),st3)=.ok (DL.intsFrom 0 c,st3):=m6 (by omega);have h2m:(2:Int)+(m:Int)=((2+m:Nat):Int):=by omega
 rw[←h2m]at t2;obtain⟨g,st5,t5,g0,g1,S5⟩:=bM a (n:=2) (by decide) (by decide) S4;obtain⟨f,l,st6,hf,hl2,hfl,S6,hP⟩:∃(f l:Int) (st6:ac),(0<=f/\f<(zs.length:Int))/\(0<=l/\l<(zs.length:Int))/\f≠l/\St st6/\∀e1 e2 e3 e5 e6:Sl,Hk a [.pt a,e1,e2,e3,.sh (.int (zs.length:Int)),e5,e6,.sh (.int 0),.sh (.int ((zs.length:Int)-1))] st4=.ok (.nx [.pt a,e1,e2,e3,.sh (.int (zs.length:Int)),e5,e6,.sh (.int f),.sh (.int l)] st6):=by
  cases hg:(g==0) with
  |true=>
   obtain⟨d,st6,t6,d0,d1,S6⟩:=bM a (n:=(zs.length:Int)) (by omega) (by omega) S5;obtain⟨e,st7,t7,e0,e1,S7⟩:=bM a (n:=(zs.length:Int)-1) (by omega) (by omega) S6;obtain⟨hr,hne⟩:=vf (n:=(zs.length:Int)) (d:=d) (e:=e) (by omega) d0 d1 e0 e1;exact⟨d,(d+1+e).fmod (zs.length:Int),st7,⟨d0,d1⟩,hr,Vj hne,S7,λe1 e2 e3 e5 e6=>by open_line with[Hk,uc,t5,hg,t6,t7,hn0]⟩
  |false=>exact⟨0,(zs.length:Int)-1,st5,⟨by decide,by omega⟩,⟨by omega,by omega⟩,by omega,S5,λe1 e2 e3 e5 e6=>by open_line with[Hk,t5,hg]⟩
 obtain⟨z1,k1,j1⟩:=vB (zs:=zs) hf.1 hf.2;obtain⟨z2,k2,j2⟩:=vB (zs:=zs) hl2.1 hl2.2;have hz12:z1≠z2:=qW nd k1 k2 (by omega);refine⟨⟨zs,ts,z1,z2⟩,st6,?_,⟨by show 2<=zs.length;omega,by show zs.length<=7;omega,nm,by show ts.length<=14;omega,λt ht=>(hts t ht).1,UX k1,UX k2,hz12⟩,λt ht=>(hts t ht).2,S6⟩;open_line with[fz,sW,uc,t1,t2,hlen,t3,hsr,hl,hP,j1,j2,aP]
end Bor
namespace DL
open PySem L2
section
variable {α β:Type}
def Rf(a b:ar α):Prop:=a=.stuck∨a=b
def dZ{f g:α->ar β}(h:Rf a b)(k:∀x,Rf (f x) (g x)):Rf (a.bind f) (b.bind g):=by
 rcases h with rfl|rfl
 .exact .inl rfl
 .cases a with
  |ok x=>exact k x
  |exn x=>exact .inr rfl
  |stuck=>exact .inl rfl
structure lQ (f g:Ev->ar α):Prop where
 o:∀ρ,Rf (f ρ) (g ρ)
end
structure RT (f g:ac->ar D):Prop where
 o:∀ds,Rf (f ds) (g ds)
def RT.ok(h:RT f g)(e:f ds=.ok d):g ds=.ok d:=by
 rcases h.o ds with q|q
 .rw[q]at e;cases e
 .rw[←q];exact e
def rfm_refl:RT f f:=⟨λ_=>.inr rfl⟩
def rf_refl{f:Ev->ar α}:lQ f f:=⟨λ_=>.inr rfl⟩
section
variable {s s' t t':bd}{c c' f f':am}{fa fa':Ev->ar (ac)}{m m':ac->ar D}
def rf_stuck:lQ dB s:=⟨λ_=>.inl rfl⟩
def rf_seq(h1:lQ s s')(h2:lQ t t'):lQ (aw s t) (aw s' t'):=⟨λρ=>dZ (h1.o ρ) λr=>by
 cases r with
 |nx ρ'=>exact h2.o ρ'
 |_=>exact .inr rfl⟩
def rf_if(hc:lQ c c')(h1:lQ s s')(h2:lQ t t'):lQ (dM c s t) (dM c' s' t'):=⟨λρ=>dZ (hc.o _) λr=>by
 cases r with
 |bl b=>cases b with
  |true=>exact h1.o ρ
  |false=>exact h2.o ρ
 |_=>exact .inr rfl⟩
theorem pU(h:lQ s s'):∀(ds:ac) (ρ:Ev),Rf (b7 tg s ds ρ) (b7 tg s' ds ρ)
 |[],ρ=>.inr rfl
 |d::r,ρ=>by
  unfold b7;refine dZ (.inr rfl) λρ1=>dZ (h.o ρ1) λx=>?_;cases x with|nx ρ2|ct ρ2=>exact pU h r ρ2|bk ρ2|rt d=>exact .inr rfl
def rf_for(hf:lQ f f')(h:lQ s s'):lQ (vG f tg s) (vG f' tg s'):=⟨λρ=>dZ (hf.o ρ) λd=>by
 cases d with
 |lst ds=>exact pU h ds ρ
 |_=>exact .inr rfl⟩
def rf_forI(h:lQ s s'):lQ (kM src tg s) (kM src tg s'):=⟨λρ=>dZ (.inr rfl) λds=>pU h ds ρ⟩
def rf_drop(h:lQ f f'):lQ (fS f) (fS f'):=⟨λρ=>dZ (h.o _) λ_=>.inr rfl⟩
def rf_ret(h:lQ f f'):lQ (bE f) (bE f'):=⟨λρ=>dZ (h.o _) λ_=>.inr rfl⟩
def rf_set(h:lQ f f'):lQ (bT i f) (bT i f'):=⟨λρ=>dZ (h.o _) λ_=>.inr rfl⟩
def rf_b1(h:lQ f f'):lQ (aY f op) (aY f' op):=⟨λρ=>dZ (h.o _) λ_=>.inr rfl⟩
def rf_not(h:lQ f f'):lQ (cp f) (cp f'):=rf_b1 h
def rf_b2(h:lQ f f')(h2:lQ c c'):lQ (ag f c op) (ag f' c' op):=⟨λρ=>dZ (h.o _) λ_=>dZ (h2.o _) λ_=>.inr rfl⟩
def rf_bA(h:lQ fa fa')(hm:RT m m'):lQ (ao fa m) (ao fa' m'):=⟨λρ=>dZ (h.o _) λds=>hm.o ds⟩
def rf_cons(h:lQ f f')(h2:lQ fa fa'):lQ (ae f fa) (ae f' fa'):=⟨λρ=>dZ (h.o _) λ_=>dZ (h2.o _) λ_=>.inr rfl⟩
end
end DL
local macro_rules|`(tactic|open_line with[rf_go])=>`(tactic|repeat (first|with_reducible exact DL.rf_refl|with_reducible exact DL.rf_stuck|with_reducible assumption|with_reducible exact DL.rfm_refl|with_reducible refine DL.rf_seq ?_ ?_|with_reducible refine DL.rf_if ?_ ?_ ?_|with_reducible refine DL.rf_for ?_ ?_|with_reducible refine DL.rf_forI ?_|with_reducible refine DL.rf_drop ?_|with_reducible refine DL.rf_ret ?_|with_reducible refine DL.rf_set ?_|with_reducible refine DL.rf_not ?_|with_reducible refine DL.rf_bA ?_ ?_|with_reducible refine DL.rf_cons ?_ ?_|with_reducible refine DL.rf_b1 ?_|with_reducible refine DL.rf_b2 ?_ ?_))
namespace Wex
open PySem L2 DL Com
theorem nums_eq:∀{a b:bv},eqDs (a.map λ(k:Nat)=>D.int (k:Int)) (b.map λ(k:Nat)=>D.int (k:Int))=true↔a=b
 |[],[]=>by simp[eqDs]
 |[],_::_=>by simp[eqDs]
 |_::_,[]=>by simp[eqDs]
 |x::a,y::b=>by
  rw[UG,UG,eqDs,U7,nums_eq];rw[c8];simp;intro _;omega
def plainD:D->Bool
 |.non=>true
 |.bl _=>true
 |.int _=>true
 |.str _=>true
 |.tup _=>true
 |.lst _=>true
 |_=>false
def number_odd(hd:plainD d=true)(hi:∀n,d≠.int n):m_is_tie_number [aP w,d]=.ok (.bl false):=by
 rw[show aP w=.tup [.lst (w.ps.map D.str),.lst (w.ts.map cz),.str w.fi,.str w.la] from rfl];cases d with
 |int n=>exact absurd rfl (hi n)
 |non=>open_line with[m_is_tie_number,bZ,cy,BK]
 |bl b=>open_line with[m_is_tie_number,bZ,cy,BK]
 |str b=>open_line with[m_is_tie_number,bZ,cy,BK]
 |tup b=>open_line with[m_is_tie_number,bZ,cy,BK]
 |lst b=>open_line with[m_is_tie_number,bZ,cy,BK]
 |_=>cases hd
def number_int:m_is_tie_number [aP w,.int n]=.ok (.bl (decide (0<=n)&&decide (n<(w.ts.length:Int)))):=by
 rw[show aP w=.tup [.lst (w.ps.map D.str),.lst (w.ts.map cz),.str w.fi,.str w.la] from rfl];cases h:decide ((0:Int)<=n) with
 |false=>open_line with[m_is_tie_number,bZ,cy,BK,Us,h,Ww]
 |true=>open_line with[m_is_tie_number,bZ,cy,BK,Us,h,Xi]
end Wex
namespace K11
open PySem L2 DL Com
def there(t:wY)(z:UP):Option UP:=if t.a=z then some t.b else if t.b=z/\t.w="both" then some t.a else none
def oS:Option UP->D
 |some z=>.str z
 |none=>.non
def eq_str:gO (.str x) (.str y)=.ok (.bl (decide (x=y))):=by
 have h:gO (.str x) (.str y)=.ok (.bl (x==y)):=rfl;rw[h]
 by_cases e:x=y
 .rw[decide_eq_true e,e,beq_self_eq_true]
 .rw[decide_eq_false e,beq_eq_false_iff_ne.mpr e]
def jq:bN [cz t,.str z]=.ok (oS (there t z)):=by
 obtain⟨a,b,w,l,o⟩:=t;rw[show cz ⟨a,b,w,l,o⟩=.tup [.str a,.str b,.str w,fr l,fN o] from rfl];unfold there
 by_cases h1:a=z
 .rw[if_pos h1]
  open_line with[bN,gf,eq_str,decide_eq_true h1,oS]
 .rw[if_neg h1]
  by_cases h2:b=z
  .by_cases h3:w="both"
   .rw[if_pos ⟨h2,h3⟩]
    open_line with[bN,gf,eq_str,decide_eq_false h1,decide_eq_true h2,decide_eq_true h3,oS]
   .rw[if_neg (λh=>h3 h.2)]
    open_line with[bN,gf,eq_str,decide_eq_false h1,decide_eq_true h2,decide_eq_false h3,oS]
  .rw[if_neg (λh=>h2 h.1)]
   open_line with[bN,gf,eq_str,decide_eq_false h1,decide_eq_false h2,oS]
def ways(t:wY):List (UP×UP):=if t.w="one" then[(t.a,t.b)] else[(t.a,t.b),(t.b,t.a)]
def pr(p:UP×UP):D:=.tup [.str p.1,.str p.2]
def xA:m_steps_along [cz t]=.ok (.lst ((ways t).map pr)):=by
 obtain⟨a,b,w,l,o⟩:=t;rw[show cz ⟨a,b,w,l,o⟩=.tup [.str a,.str b,.str w,fr l,fN o] from rfl];unfold ways
 by_cases h:w="one"
 .rw[if_pos h]
  open_line with[m_steps_along,jl,eq_str,decide_eq_true h,pr]
 .rw[if_neg h]
  open_line with[m_steps_along,jl,eq_str,decide_eq_false h,pr]
def shal_nums{ks:bv}:(ks.map λ(k:Nat)=>D.int (k:Int)).all (bC m)=true:=Va.mpr λd hd=>by
 obtain⟨z,_,rfl⟩:=U4.mp hd;cases m<;>rfl
theorem wR{n:Nat}:∀{ks:bv},((ks.map λ(k:Nat)=>D.int (k:Int)).any λd=>c8 d (.int (n:Int)))=decide (n∈ks)
 |[]=>rfl
 |k::ks=>by
  rw[UG,XJ,wR];have e:c8 (.int (k:Int)) (.int (n:Int))=((k:Int)==(n:Int)):=by rw[c8]
  rw[e]
  by_cases h:n=k
  .subst h;simp
  .have h1:((k:Int)==(n:Int))=false:=beq_eq_false_iff_ne.mpr (by omega)
   rw[h1,Bool.false_or];have:n∈k::ks↔n∈ks:=by simp[h]
   exact decide_eq_decide.mpr this.symm
def eG{ks:bv}{n:Nat}:oY (.int (n:Int)) (.lst (ks.map λ(k:Nat)=>D.int (k:Int)))=.ok (.bl (decide (n∈ks))):=by
 have e:DK (.int (n:Int)) (.lst (ks.map λ(k:Nat)=>D.int (k:Int)))=some (decide (n∈ks)):=(if_pos ⟨rfl,shal_nums⟩).trans (congrArg some wR);unfold oY;rw[e]
def ef{ks:bv}{n:Nat}:dS (.int (n:Int)) (.lst (ks.map λ(k:Nat)=>D.int (k:Int)))=.ok (.bl (!(decide (n∈ks)))):=by
 have e:DK (.int (n:Int)) (.lst (ks.map λ(k:Nat)=>D.int (k:Int)))=some (decide (n∈ks)):=(if_pos ⟨rfl,shal_nums⟩).trans (congrArg some wR);unfold dS;rw[e]
def zN:Com.m_is_tie_number [aP w,.dic [] []]=.ok (.bl false):=by
 rw[show aP w=.tup [.lst (w.ps.map D.str),.lst (w.ts.map cz),.str w.fi,.str w.la] from rfl];open_line with[Com.m_is_tie_number,bZ,cy,BK]
noncomputable def lM(w:iT) (ks:bv) (seen:bi) (here:UP) (d:D):Option UP :=
 if here=w.la then none else match d with
 |.int n=>if 0<=n/\n<(w.ts.length:Int)/\n.toNat∉ks then match w.ts[n.toNat]? with
   |some t=>match there t here with
    |some y=>if y∈seen then none else some y
    |none=>none
   |none=>none
  else none
 |_=>none
def cU(seen:bi)(here:UP):List (UP×UP)->Option UP
 |[]=>none
 |p::r=>if p.1=here/\p.2∉seen then some p.2 else cU seen here r
theorem yF{t:wY}{seen:bi}{here:UP}(ne:t.a≠t.b)(hw:t.w="one"∨t.w="both"):cU seen here (ways t)=match there t here with
  |some y=>if y∈seen then none else some y
  |none=>none:=by
 unfold ways there
 by_cases h:t.w="one"
 .have hb:t.w≠"both":=by rw[h];decide
  rw[if_pos h]
  by_cases h1:t.a=here
  .rw[if_pos h1]
   by_cases h2:t.b∈seen
   .simp[cU,h2]
   .simp[cU,h1,h2]
  .rw[if_neg h1,if_neg (λz=>hb z.2)]
   simp[cU,h1]
 .have hb:t.w="both":=hw.resolve_left h
  rw[if_neg h]
  by_cases h1:t.a=here
  .have h3:t.b≠here:=λz=>ne (h1.trans z.symm)
   rw[if_pos h1]
   by_cases h2:t.b∈seen
   .simp[cU,h2,h3]
   .simp[cU,h1,h2]
  .rw[if_neg h1]
   by_cases h3:t.b=here
   .rw[if_pos ⟨h3,hb⟩]
    by_cases h2:t.a∈seen
    .simp[cU,h1,h2]
    .simp[cU,h1,h2,h3]
   .rw[if_neg (λz=>h3 z.1)]
    simp[cU,h1,h3]
def Elt(d:D):Prop:=Wex.plainD d=true∨d=.dic [] []
abbrev xX:bd:=(aw (dM (f9 (ag (af 4) (ag (af 2) (aY (dC (.int 1)) og) aO) gO) (ag (af 5) (af 2) dS))
 (aw (bE (af 5))
 au)
 au)
 au)
def dO:aO (.lst ((pre++[here]).map D.str)) (.int (-1))=.ok (.str here):=by
 rw[U9];exact ID
theorem zJ:∀(ps:List (UP×UP)) (x4 x5:Sl),
  (∃y,cU (pre++[here]) here ps=some y/\b7 (el [4,5]) xX (ps.map pr) [.sh x0,.sh x1,.sh (.lst ((pre++[here]).map D.str)),.sh d,x4,x5]=.ok (.rt (.str y))) ∨
  (cU (pre++[here]) here ps=none/\∃y4 y5,b7 (el [4,5]) xX (ps.map pr) [.sh x0,.sh x1,.sh (.lst ((pre++[here]).map D.str)),.sh d,x4,x5]=.ok (.nx [.sh x0,.sh x1,.sh (.lst ((pre++[here]).map D.str)),.sh d,y4,y5]))
 |[],x4,x5=>.inr ⟨rfl,x4,x5,rfl⟩
 |(p,q)::ps,x4,x5=>by
  have hg:el [4,5] [.sh x0,.sh x1,.sh (.lst ((pre++[here]).map D.str)),.sh d,x4,x5] (pr (p,q))=.ok [.sh x0,.sh x1,.sh (.lst ((pre++[here]).map D.str)),.sh d,.sh (.str p),.sh (.str q)]:=rfl;rw[UG];unfold b7;rw[hg]
  by_cases h1:p=here
  .by_cases h2:q∈pre++[here]
   .have hb:xX [.sh x0,.sh x1,.sh (.lst ((pre++[here]).map D.str)),.sh d,.sh (.str p),.sh (.str q)]=.ok (.nx [.sh x0,.sh x1,.sh (.lst ((pre++[here]).map D.str)),.sh d,.sh (.str p),.sh (.str q)]):=by
     open_line with[dO,eq_str,decide_eq_true h1,gw,decide_eq_true h2]
    have hf:cU (pre++[here]) here ((p,q)::ps)=cU (pre++[here]) here ps:=by
     rw[cU,if_neg (λz=>z.2 h2)]
    rw[hf];simp only[ar.bind,hb];exact zJ ps _ _
   .have hb:xX [.sh x0,.sh x1,.sh (.lst ((pre++[here]).map D.str)),.sh d,.sh (.str p),.sh (.str q)]=.ok (.rt (.str q)):=by
     open_line with[dO,eq_str,decide_eq_true h1,gw,decide_eq_false h2]
    refine .inl ⟨q,?_,?_⟩
    .rw[cU,if_pos ⟨h1,h2⟩]
    .simp only[ar.bind,hb]
  .have hb:xX [.sh x0,.sh x1,.sh (.lst ((pre++[here]).map D.str)),.sh d,.sh (.str p),.sh (.str q)]=.ok (.nx [.sh x0,.sh x1,.sh (.lst ((pre++[here]).map D.str)),.sh d,.sh (.str p),.sh (.str q)]):=by
    open_line with[dO,eq_str,decide_eq_false h1]
   have hf:cU (pre++[here]) here ((p,q)::ps)=cU (pre++[here]) here ps:=by
    rw[cU,if_neg (λz=>h1 z.1)]
   rw[hf];simp only[ar.bind,hb];exact zJ ps _ _
def Dt(W:cc w)(hd:Elt d):m_place_behind [aP w,eE ks,.lst ((pre++[here]).map D.str),d]=.ok (oS (lM w ks (pre++[here]) here d)):=by
 have i3:aO (aP w) (.int 3)=.ok (.str w.la):=rfl;have i1:aO (aP w) (.int 1)=.ok (.lst (w.ts.map cz)):=rfl;unfold lM
 by_cases h0:here=w.la
 .rw[if_pos h0]
  open_line with[m_place_behind,df,dO,i3,eq_str,decide_eq_true h0,oS]
 rw[if_neg h0]
 by_cases hi:∃n,d=.int n
 .obtain⟨n,rfl⟩:=hi
  have hn:m_is_tie_number [aP w,.int n]=.ok (.bl (decide (0<=n)&&decide (n<(w.ts.length:Int)))):=Wex.number_int
  by_cases h1:0<=n/\n<(w.ts.length:Int)
  .obtain⟨k,rfl⟩:=Vf h1.1
   rw[decide_eq_true h1.1,decide_eq_true h1.2]at hn;have hkt:((k:Int)).toNat=k:=by omega
   by_cases h2:k∈ks
   .simp only[hkt]
    rw[if_neg (λz=>z.2.2 h2)];open_line with[m_place_behind,df,dO,i3,eq_str,decide_eq_false h0,hn,eE,eG,decide_eq_true h2,oS]
   .simp only[hkt]
    rw[if_pos ⟨h1.1,h1.2,h2⟩];have hk:k<w.ts.length:=by omega
    have ht:w.ts[k]?=some w.ts[k]:=Ut hk;have hix:=qo ht;have tk:=W.ts w.ts[k] (VY hk);rw[ht];simp only;rw[←yF tk.ne tk.w];rcases zJ (x0:=aP w) (x1:=.lst (ks.map λ(k:Nat)=>D.int (k:Int))) (d:=.int (k:Int)) (pre:=pre) (here:=here) (ways w.ts[k]) .no .no with⟨y,e1,e2⟩|⟨e1,y4,y5,e2⟩
    .rw[e1]
     open_line with[m_place_behind,df,dO,i3,eq_str,decide_eq_false h0,hn,eE,eG,decide_eq_false h2,i1,hix,xA,e2,oS]
    .rw[e1]
     open_line with[m_place_behind,df,dO,i3,eq_str,decide_eq_false h0,hn,eE,eG,decide_eq_false h2,i1,hix,xA,e2,oS]
  .have hf:(decide (0<=n)&&decide (n<(w.ts.length:Int)))=false:=by
    rw[WJ]
    by_cases h2:0<=n
    .exact .inr (decide_eq_false λz=>h1 ⟨h2,z⟩)
    .exact .inl (decide_eq_false h2)
   rw[hf]at hn;simp only;rw[if_neg (λz=>h1 ⟨z.1,z.2.1⟩)];open_line with[m_place_behind,df,dO,i3,eq_str,decide_eq_false h0,hn,oS]
 .have hn:m_is_tie_number [aP w,d]=.ok (.bl false):=by
   rcases hd with hd|rfl
   .exact Wex.number_odd hd λn z=>hi ⟨n,z⟩
   .exact zN
  have key:m_place_behind [aP w,eE ks,.lst ((pre++[here]).map D.str),d]=.ok .non:=by
   open_line with[m_place_behind,df,dO,i3,eq_str,decide_eq_false h0,hn]
  rw[key];cases d with|int n=>exact absurd ⟨n,rfl⟩ hi| _=>rfl
def C1:bf [aP w,.int n]=.ok (.bl (decide (0<=n)&&decide (n<(w.ts.length:Int)))):=by
 have i1:aO (aP w) (.int 1)=.ok (.lst (w.ts.map cz)):=rfl;cases h:decide ((0:Int)<=n) with
 |false=>open_line with[bf,b8,i1,Us,h,Ww]
 |true=>open_line with[bf,b8,i1,Us,h,Xi]
def C0(hd:Elt d)(hi:¬∃n,d=.int n):bf [aP w,d]=.ok (.bl false):=by
 rcases hd with hd|rfl
 .cases d with
  |int n=>exact absurd ⟨n,rfl⟩ hi
  |non=>open_line with[bf,b8]
  |bl b=>open_line with[bf,b8]
  |str b=>open_line with[bf,b8]
  |tup b=>open_line with[bf,b8]
  |lst b=>open_line with[bf,b8]
  |_=>cases hd
 .open_line with[bf,b8]
noncomputable abbrev AX:bd:=(aw (bT 6 (ag (af 2) (af 5) aO))
 (aw (bT 7 (dC (.non)))
 (aw (dM (f9 (ag (af 3) (ag (af 0) (dC (.int 3)) aO) gi) (f9 (ao (ae (af 0) (ae (af 6) az)) bf) (ag (af 6) (af 1) dS)))
 (aw (bT 7 (ao (ae (ag (ag (af 0) (dC (.int 1)) aO) (af 6) aO) (ae (af 3) az)) bN))
 au)
 au)
 (aw (dM (gq (ag (af 7) (dC (.non)) nk) (ag (af 7) (af 4) oY))
 (aw (bE (ao (ae (dC (.str "at")) (ae (af 5) az)) cT))
 au)
 au)
 (aw (bT 3 (af 7))
 (aw (du 4 (af 3))
 au))))))
def iE:gi (.str x) (.str y)=.ok (.bl (!(decide (x=y)))):=by
 have h:gi (.str x) (.str y)=.ok (.bl (!(x==y))):=rfl;rw[h]
 by_cases e:x=y
 .rw[decide_eq_true e,e,beq_self_eq_true]
 .rw[decide_eq_false e,beq_eq_false_iff_ne.mpr e]
def Ho(w:iT)(ks:bv)(th:ac)(here:UP)(seen:bi)(x5 x6 x7:Sl):Ev:=[.sh (aP w),.sh (.lst (ks.map λ(k:Nat)=>D.int (k:Int))),.sh (.lst th),.sh (.str here),.ow (.lst (seen.map D.str)),x5,x6,x7]
theorem Lh{w:iT}{ks:bv}{th:ac}{here:UP}{pre:bi}{i:Nat}{d:D}{x6 x7:Sl}(hd:Elt d)(hi:th[i]?=some d)(hl:pre.length<=900) :
  AX (Ho w ks th here (pre++[here]) (.sh (.int (i:Int))) x6 x7)=match lM w ks (pre++[here]) here d with
   |none=>.ok (.rt (.tup [.str "at",.int (i:Int)]))
   |some y=>.ok (.nx (Ho w ks th y (pre++[here]++[y]) (.sh (.int (i:Int))) (.sh d) (.sh (.str y)))):=by
 have i3:aO (aP w) (.int 3)=.ok (.str w.la):=rfl;have i1:aO (aP w) (.int 1)=.ok (.lst (w.ts.map cz)):=rfl;have hix:aO (.lst th) (.int (i:Int))=.ok d:=jh hi;have hap:decide (((pre++[here]).map D.str).length<=999)=true:=decide_eq_true (by simp;omega);unfold lM Ho
 by_cases h0:here=w.la
 .rw[if_pos h0]
  open_line with[hix,i3,iE,decide_eq_true h0]
 rw[if_neg h0]
 by_cases hn:∃n,d=.int n
 .obtain⟨n,rfl⟩:=hn
  have e1:=C1 (w:=w) (n:=n)
  by_cases h1:0<=n/\n<(w.ts.length:Int)
  .obtain⟨k,rfl⟩:=Vf h1.1
   rw[decide_eq_true h1.1,decide_eq_true h1.2]at e1;have hkt:((k:Int)).toNat=k:=by omega
   by_cases h2:k∈ks
   .simp only[hkt]
    rw[if_neg (λz=>z.2.2 h2)];open_line with[hix,i3,iE,decide_eq_false h0,e1,ef,decide_eq_true h2]
   .simp only[hkt]
    rw[if_pos ⟨h1.1,h1.2,h2⟩];have hk:k<w.ts.length:=by omega
    have ht:w.ts[k]?=some w.ts[k]:=Ut hk;have hti:=qo ht;rw[ht];simp only;cases hth:there w.ts[k] here with
    |none=>
     have e2:=jq (t:=w.ts[k]) (z:=here);rw[hth]at e2;simp only[oS]at e2;open_line with[hix,i3,iE,decide_eq_false h0,e1,ef,decide_eq_false h2,i1,hti,e2]
    |some y=>
     have e2:=jq (t:=w.ts[k]) (z:=here);rw[hth]at e2;simp only[oS]at e2
     by_cases h3:y∈pre++[here]
     .simp only[if_pos h3]
      open_line with[hix,i3,iE,decide_eq_false h0,e1,ef,decide_eq_false h2,i1,hti,e2,p8,decide_eq_true h3]
     .simp only[if_neg h3]
      have hma:(pre++[here]++[y]).map D.str=(pre++[here]).map D.str++[.str y]:=by rw[U9];rfl
      rw[hma];open_line with[hix,i3,iE,decide_eq_false h0,e1,ef,decide_eq_false h2,i1,hti,e2,p8,decide_eq_false h3,i9 hap]
  .have hf:(decide (0<=n)&&decide (n<(w.ts.length:Int)))=false:=by
    rw[WJ]
    by_cases h2:0<=n
    .exact .inr (decide_eq_false λz=>h1 ⟨h2,z⟩)
    .exact .inl (decide_eq_false h2)
   rw[hf]at e1;simp only;rw[if_neg (λz=>h1 ⟨z.1,z.2.1⟩)];open_line with[hix,i3,iE,decide_eq_false h0,e1]
 .have e1:=C0 (w:=w) hd hn
  have key:AX [.sh (aP w),.sh (.lst (ks.map λ(k:Nat)=>D.int (k:Int))),.sh (.lst th),.sh (.str here),.ow (.lst ((pre++[here]).map D.str)),.sh (.int (i:Int)),x6,x7]=.ok (.rt (.tup [.str "at",.int (i:Int)])):=by
   open_line with[hix,i3,iE,decide_eq_false h0,e1]
  rw[key];cases d with|int n=>exact absurd ⟨n,rfl⟩ hn| _=>rfl
def walk(w:iT)(ks:bv):bi->UP->Nat->ac->Nat ⊕ bi
 |pre,here,_,[]=>.inr (pre++[here])
 |pre,here,i,d::r=>match lM w ks (pre++[here]) here d with
  |none=>.inl i
  |some y=>walk w ks (pre++[here]) y (i+1) r
theorem Lg{w:iT}{ks:bv}{th:ac}(he:∀d∈th,Elt d)(hl:th.length<=100):∀(m i:Nat) (pre:bi) (here:UP) (x5 x6 x7:Sl),i+m=th.length->pre.length=i ->
  match walk w ks pre here i (th.drop i) with
  |.inl j=>b7 (bU 5) AX ((DL.intsFrom 0 th.length).drop i) (Ho w ks th here (pre++[here]) x5 x6 x7)=.ok (.rt (.tup [.str "at",.int (j:Int)]))
  |.inr seen=>∃pre' here' x5' x6' x7',seen=pre'++[here']/\b7 (bU 5) AX ((DL.intsFrom 0 th.length).drop i) (Ho w ks th here (pre++[here]) x5 x6 x7)=.ok (.nx (Ho w ks th here' seen x5' x6' x7')):=by
 intro m
 induction m with
 |zero=>
  intro i pre here x5 x6 x7 him _;have:i=th.length:=by omega
  subst this;rw[Wu,rn];exact⟨pre,here,x5,x6,x7,rfl,rfl⟩
 |succ m ih=>
  intro i pre here x5 x6 x7 him hpl;have hi:i<th.length:=by omega
  rw[Vk hi,nY hi];have hb:=Lh (w:=w) (ks:=ks) (th:=th) (here:=here) (pre:=pre) (i:=i) (d:=th[i]) (x6:=x6) (x7:=x7) (he _ (VY hi)) (Ut hi) (by omega);have hg:bU 5 (Ho w ks th here (pre++[here]) x5 x6 x7) (.int (i:Int))=.ok (Ho w ks th here (pre++[here]) (.sh (.int (i:Int))) x6 x7):=rfl;unfold walk b7;rw[hg];cases e:lM w ks (pre++[here]) here th[i] with
  |none=>
   rw[e]at hb;simp only[ar.bind,hb]
  |some y=>
   rw[e]at hb;simp only[ar.bind,hb];exact ih (i+1) (pre++[here]) y _ _ _ (by omega) (by simp;omega)
def kq(w:iT)(n:Nat):Nat ⊕ bi->Option Nat
 |.inl j=>some j
 |.inr seen=>if seen.getLast?=some w.la then none else some n
def Df:Option Nat->bi->D
 |some j,_=>.tup [.str "at",.int (j:Int)]
 |none,seen=>.tup [.str "way",.lst (seen.map D.str)]
def wrong_list(he:∀d∈th,Elt d)(hl:th.length<=100):∃seen,bD [aP w,eE ks,.lst th]=.ok (Df (kq w th.length (walk w ks [] w.fi 0 th)) seen):=by
 have i2:aO (aP w) (.int 2)=.ok (.str w.fi):=rfl;have i3:aO (aP w) (.int 3)=.ok (.str w.la):=rfl;have hlen:cB (.lst th)=.ok (.int th.length):=eH;have h:=Lg (w:=w) (ks:=ks) he hl th.length 0 [] w.fi .no .no .no (by omega) rfl;rw[VR,VR]at h;unfold Ho at h;simp only[Wl,UG,Wn]at h;cases e:walk w ks [] w.fi 0 th with
 |inl j=>
  rw[e]at h;simp only at h;refine⟨[],?_⟩;simp only[kq,Df];open_line with[bD,cN,eE,i2,hlen,mZ,iI (show th.length<=1000000 by omega),h]
 |inr seen=>
  rw[e]at h;simp only at h;obtain⟨pre',here',x5',x6',x7',rfl,h⟩:=h;refine⟨pre'++[here'],?_⟩;simp only[kq,ZM,Y9,Option.some_or,V2]
  by_cases hc:here'=w.la
  .rw[if_pos hc]
   simp only[Df];open_line with[bD,cN,eE,i2,hlen,mZ,iI (show th.length<=1000000 by omega),h,i3,iE,decide_eq_true hc]
  .rw[if_neg hc]
   simp only[Df];open_line with[bD,cN,eE,i2,hlen,mZ,iI (show th.length<=1000000 by omega),h,i3,iE,decide_eq_false hc]
noncomputable abbrev FH:bd:=(aw (A8 6 (ao (ae (af 0) (ae (af 1) (ae (af 3) (ae (af 5) az)))) m_place_behind))
 (aw (dM (ag (af 6) (dC (.non)) nk)
 (aw (fR "NoWay" ["at"] (ae (af 4) az))
 au)
 au)
 (aw (du 3 (af 6))
 au)))
def IJ(w:iT)(ks:bv)(th:ac)(seen:bi)(x4 x5 x6:Sl):Ev:=[.sh (aP w),.sh (eE ks),.sh (.lst th),.ow (.lst (seen.map D.str)),x4,x5,x6]
def Sq(i:Nat)(ρ:Ev)(d:D):ar Fl:=if n6 d=true then .ok (.nx (ρ.set i (.sh d))) else .stuck
def Gb:A8 i f ρ=(f (shr ρ)).bind (Sq i ρ):=aI rfl
def QX:Sq i ρ .non=.ok (.nx (ρ.set i (.sh .non))):=aI rfl
def QW:Sq i ρ (.str y)=.ok (.nx (ρ.set i (.sh (.str y)))):=aI rfl
def ev_exn{k:α->ar β}:(ar.exn x).bind k=.exn x:=aI rfl
theorem Mu{w:iT}(W:cc w){ks:bv}{th:ac}{here:UP}{pre:bi}{i:Nat}{d:D}{x6:Sl}(hd:Elt d)(hl:pre.length<=900) :
  FH (IJ w ks th (pre++[here]) (.sh (.int (i:Int))) (.sh d) x6)=match lM w ks (pre++[here]) here d with
   |none=>.exn ⟨"NoWay",[("at",.int (i:Int))]⟩
   |some y=>.ok (.nx (IJ w ks th (pre++[here]++[y]) (.sh (.int (i:Int))) (.sh d) (.sh (.str y)))):=by
 have hp:=Dt W (ks:=ks) (pre:=pre) (here:=here) hd;have hap:decide (((pre++[here]).map D.str).length<=999)=true:=decide_eq_true (by simp;omega);unfold IJ;cases e:lM w ks (pre++[here]) here d with
 |none=>
  rw[e]at hp;simp only[oS]at hp;open_line with[hp,dm,cQ,ev_exn,Gb,QX]
 |some y=>
  rw[e]at hp;simp only[oS]at hp;have hma:(pre++[here]++[y]).map D.str=(pre++[here]).map D.str++[.str y]:=by rw[U9];rfl
  simp only[hma];open_line with[hp,i9 hap,Gb,QW]
theorem numbered_drop:∀(th:ac) (n i:Nat) (h:i<th.length),(numbered n th).drop i=.tup [.int ((n+i:Nat):Int),th[i]]::(numbered n th).drop (i+1)
 |d::th,n,0,h=>rfl
 |d::th,n,i+1,h=>by
  have:=numbered_drop th (n+1) i (by simpa using h);rw[DL.numbered,ZR,this,ZR,List.getElem_cons_succ,show n+1+i=n+(i+1) by omega]
theorem Mt{w:iT}(W:cc w){ks:bv}{th:ac}(he:∀d∈th,Elt d)(hl:th.length<=100):∀(m i:Nat) (pre:bi) (here:UP) (x4 x5 x6:Sl),i+m=th.length->pre.length=i ->
  match walk w ks pre here i (th.drop i) with
  |.inl j=>b7 (el [4,5]) FH ((numbered 0 th).drop i) (IJ w ks th (pre++[here]) x4 x5 x6)=.exn ⟨"NoWay",[("at",.int (j:Int))]⟩
  |.inr seen=>∃pre' here' x4' x5' x6',seen=pre'++[here']/\b7 (el [4,5]) FH ((numbered 0 th).drop i) (IJ w ks th (pre++[here]) x4 x5 x6)=.ok (.nx (IJ w ks th seen x4' x5' x6')):=by
 intro m
 induction m with
 |zero=>
  intro i pre here x4 x5 x6 him _;have:i=th.length:=by omega
  subst this;rw[Wu,Zo (by rw[fV];exact UC _)];exact⟨pre,here,x4,x5,x6,rfl,rfl⟩
 |succ m ih=>
  intro i pre here x4 x5 x6 him hpl;have hi:i<th.length:=by omega
  rw[Vk hi,numbered_drop th 0 i hi,Xt];have hb:=Mu W (ks:=ks) (th:=th) (here:=here) (pre:=pre) (i:=i) (d:=th[i]) (x6:=x6) (he _ (VY hi)) (by omega);have hg:el [4,5] (IJ w ks th (pre++[here]) x4 x5 x6) (.tup [.int (i:Int),th[i]])=.ok (IJ w ks th (pre++[here]) (.sh (.int (i:Int))) (.sh th[i]) x6):=rfl;unfold walk b7;rw[hg];cases e:lM w ks (pre++[here]) here th[i] with
  |none=>
   rw[e]at hb;simp only[ar.bind,hb]
  |some y=>
   rw[e]at hb;simp only[ar.bind,hb];exact ih (i+1) (pre++[here]) y _ _ _ (by omega) (by simp;omega)
def iD(d:D):RB:=⟨"NoWay",[("at",d)]⟩
def way_list(W:cc w)(he:∀d∈th,Elt d)(hl:th.length<=100):(∃j,kq w th.length (walk w ks [] w.fi 0 th)=some j/\m_walk_way [aP w,eE ks,.lst th]=.exn (iD (.int (j:Int)))) ∨
  (kq w th.length (walk w ks [] w.fi 0 th)=none/\∃d,m_walk_way [aP w,eE ks,.lst th]=.ok d):=by
 have i2:aO (aP w) (.int 2)=.ok (.str w.fi):=rfl;have i3:aO (aP w) (.int 3)=.ok (.str w.la):=rfl;have hlen:cB (.lst th)=.ok (.int th.length):=eH;have h:=Mt W (ks:=ks) he hl th.length 0 [] w.fi .no .no .no (by omega) rfl;rw[VR,VR]at h;unfold IJ at h;simp only[Wl,UG,Wn]at h;cases e:walk w ks [] w.fi 0 th with
 |inl j=>
  rw[e]at h;simp only at h;refine .inl ⟨j,rfl,?_⟩;open_line with[m_walk_way,dI,i2,h,ev_exn,iD]
 |inr seen=>
  rw[e]at h;simp only at h;obtain⟨pre',here',x5',x6',x7',rfl,h⟩:=h;simp only[kq,ZM,Y9,Option.some_or,V2]
  by_cases hc:here'=w.la
  .rw[if_pos hc]
   refine .inr ⟨rfl,.lst ((pre'++[here']).map D.str),?_⟩;open_line with[m_walk_way,dI,i2,h,dO,i3,iE,decide_eq_true hc]
  .rw[if_neg hc]
   refine .inl ⟨th.length,rfl,?_⟩;open_line with[m_walk_way,dI,i2,h,dO,i3,iE,decide_eq_false hc,hlen,dm,cQ,ev_exn,iD]
def way_other(hd:Elt d)(hl:∀ds,d≠.lst ds):m_walk_way [aP w,eE ks,d]=.exn (iD .non):=by
 rcases hd with hd|rfl
 .cases d with
  |lst ds=>exact absurd rfl (hl ds)
  |non=>open_line with[m_walk_way,dI,dm,cQ,ev_exn,iD]
  |bl b=>open_line with[m_walk_way,dI,dm,cQ,ev_exn,iD]
  |int b=>open_line with[m_walk_way,dI,dm,cQ,ev_exn,iD]
  |str b=>open_line with[m_walk_way,dI,dm,cQ,ev_exn,iD]
  |tup b=>open_line with[m_walk_way,dI,dm,cQ,ev_exn,iD]
  |_=>cases hd
 .open_line with[m_walk_way,dI,dm,cQ,ev_exn,iD]
def wrong_other(hd:Elt d)(hl:∀ds,d≠.lst ds):bD [aP w,eE ks,d]=.ok (.tup [.str "at",.non]):=by
 rcases hd with hd|rfl
 .cases d with
  |lst ds=>exact absurd rfl (hl ds)
  |non=>open_line with[bD,cN]
  |bl b=>open_line with[bD,cN]
  |int b=>open_line with[bD,cN]
  |str b=>open_line with[bD,cN]
  |tup b=>open_line with[bD,cN]
  |_=>cases hd
 .open_line with[bD,cN]
end K11
namespace K11
open PySem L2 DL Com Bor
abbrev nums(ks:bv):ac:=ks.map λ(k:Nat)=>D.int (k:Int)
end K11
namespace DL
open PySem PySem.Spec PyProof.Rows L2
def Rp(d:D)(n k:Nat):Prop:=∃p,gj d=some p/\p.showable=true/\p.depth<=k/\p.shown.length<=n
def e9(ds:ac)(n k:Nat):Prop:=∃ps,toPys ds=some ps/\ps.length=ds.length/\Xw ps=true/\Xo ps<=k/\((V8 ps).map (λx=>x.length)).sum<=n
theorem jR:∀(ps:List Vc),(V8 ps).length=ps.length
 |[]=>by rw[V8];rfl
 |p::ps=>by rw[V8,UZ,jR ps,UZ]
def Rp.up(h:Rp d n k)(hn:n<=n')(hk:k<=k'):Rp d n' k':=by
 obtain⟨p,h1,h2,h3,h4⟩:=h;exact⟨p,h1,h2,U8 h3 hk,U8 h4 hn⟩
def e9.nil:e9 [] 0 k:=⟨[],rfl,rfl,rfl,by rw[Xo];omega,by rw[V8];exact UC _⟩
def e9.cons(h:Rp d a k)(t:e9 ds n k):e9 (d::ds) (a+n) k:=by
 obtain⟨p,h1,h2,h3,h4⟩:=h;obtain⟨ps,t1,t2,t3,t4,t5⟩:=t;refine⟨p::ps,by rw[toPys,h1,t1],by rw[UZ,t2,UZ],by rw[Xw,h2,t3];rfl,?_,?_⟩
 .rw[Xo];omega
 .rw[V8,UG,Vs];omega
def e9.all:∀{ds:ac},(∀d∈ds,Rp d a k)->e9 ds (a*ds.length) k:=by
 intro ds
 induction ds with
 |nil=>intro _;exact e9.nil
 |cons d ds ih=>
  intro h;have:=e9.cons (h d (UU ..)) (ih λx hx=>h x (UH _ hx));rw[UZ,ZK,Nat.mul_one,Zn];exact this
def Rp.lst(h:e9 ds n k):Rp (.lst ds) (n+2*ds.length+3) (k+1):=by
 obtain⟨ps,t1,t2,t3,t4,t5⟩:=h;refine⟨.list ps,by rw[gj,t1];rfl,by rw[Wk];exact t3,by rw[WS];omega,?_⟩;rw[WR];have:=listText_len_le (V8 ps);rw[jR]at this;omega
def Rp.tup(h:e9 ds n k):Rp (.tup ds) (n+2*ds.length+3) (k+1):=by
 obtain⟨ps,t1,t2,t3,t4,t5⟩:=h;refine⟨.tuple ps,by rw[gj,t1];rfl,by rw[Wk];exact t3,by rw[WS];omega,?_⟩;rw[WR];have:=tupleText_len_le (V8 ps);rw[jR]at this;omega
def Rp.non:Rp .non 4 0:=⟨.none,by rw[gj],by rw[Wk],by rw[WS];omega,by rw[WR,WI];decide⟩
def Rp.bl:Rp (.bl b) 5 0:=⟨.bool b,by rw[gj],by rw[Wk],by rw[WS]<;>simp,by rw[WR];cases b<;>simp[WI]<;>decide⟩
def Rp.int(h:i.natAbs<2 ^ 200):Rp (.int i) 201 0:=by
 refine⟨.int i,by rw[gj],?_,by rw[WS]<;>simp,?_⟩
 .rw[Wk]
  refine decide_eq_true ?_
  by_cases h0:i.natAbs=0
  .rw[h0];decide
  .exact W6 ((ZL h0).mpr h) (by decide)
 .rw[WR,WI]
  cases i with
  |ofNat m=>
   have:=nat_repr_length_le (n:=m) (k:=200) (by decide) h;show(ZJ m).length<=201;omega
  |negSucc m=>
   have:=nat_repr_length_le (n:=m+1) (k:=200) (by decide) h;show("-"++ZJ (m+1)).length<=201;rw[ZF];have h1 : "-".length=1:=rfl;omega
def Rp.str(hl:z.length<=n)(h:∀c∈z.cps.toList,c<16 ^ 8):Rp (.str z) (10*n+2) 0:=by
 refine⟨.str z,by rw[gj],by rw[Wk],by rw[WS]<;>simp,?_⟩;rw[WR];have:=StrLaws.reprText_len z h;omega
def Rp.repr(h:Rp (.lst ds) n k)(hn:n<=sizeLine)(hk:k<=100):∃z,r8 (.lst ds)=.ok (.str z):=by
 obtain⟨p,h1,h2,h3,h4⟩:=h;refine⟨p.shown,?_⟩;unfold r8;rw[h1];show(if _ then _ else _)=_;have hs:oA p=true:=by
  unfold oA;rw[h2,decide_eq_true (U8 h3 hk),decide_eq_true (U8 h4 hn)];rfl
 rw[if_pos ⟨rfl,hs⟩]
end DL
namespace Bor
open PySem L2 DL Com
theorem uP{α β γ:Type}:∀(l:List α) (b:β×γ),YK (λb _=>(b.1,b.2)) b l=b
 |[],_=>rfl
 |_::l,b=>uP l b
def wV:∀c∈N4.cps.toList,c<16 ^ 8:=by decide +kernel
def N1(h:oX c=true):c<16 ^ 8:=by
 refine Nat.lt_of_not_le λhc=>?_;have hs:∀i,Builtin.Str.subAt N4 ⟨#[c]⟩ i=false:=by
  intro i;unfold Builtin.Str.subAt;rw[beq_eq_false_iff_ne];intro e;have:c∈(N4.cps.extract i (i+(⟨#[c]⟩:UP).length)):=by rw[e];simp
  have h2:c∈N4.cps:=by
   obtain⟨j,hj,e⟩:=Array.mem_iff_getElem.mp this;rw[Array.getElem_extract]at e;rw[←e];exact Array.getElem_mem _
  have:=wV c (ZO.mpr h2);omega
 have:Wv N4 ⟨#[c]⟩ 0 N4.length 1=[]:=by
  unfold Wv;simp[hs,uP]
 unfold oX PB at h;rw[this]at h;cases h
def mw(h:nameB z=true):Rp (.str z) 82 0:=by
 unfold nameB at h;simp only[U7,decide_eq_true_eq,Va]at h;refine Rp.str (n:=8) h.2.1 λc hc=>?_;exact N1 (h.2.2 c hc)
def Ew(h:zb x):Rp (fr x) 409 1:=by
 have hN:GY<=2 ^ 200:=by decide
 have h1:=h.pN;have h2:=h.qN;exact(Rp.tup (e9.cons (Rp.int (UA h1 hN)) (e9.cons (Rp.int (UA h2 hN)) e9.nil))).up (by simp) (UC _)
def LH(h:pj zs t)(hz:∀z∈zs,nameB z=true):Rp (cz t) 1100 2:=by
 have ha:=(mw (hz _ h.a)).up (k':=1) (UC _) (by decide);have hb:=(mw (hz _ h.b)).up (k':=1) (UC _) (by decide);have hw:Rp (.str t.w) 82 1:=by
  rcases h.w with e|e<;>rw[e]
  .exact(Rp.str (n:=8) (by decide) (by decide)).up (by decide) (by decide)
  .exact(Rp.str (n:=8) (by decide) (by decide)).up (by decide) (by decide)
 have hl:=Ew h.l;have ho:Rp (fN t.o) 409 1:=by
  cases e:t.o with|none=>exact Rp.non.up (by decide) (by decide)|some x=>exact Ew (h.o x e).1
 exact(Rp.tup (e9.cons ha (e9.cons hb (e9.cons hw (e9.cons hl (e9.cons ho e9.nil)))))).up (by simp) (UC _)
def Eu{ds:bi}(hl:ds.length<=n)(h:∀z∈ds,nameB z=true):Rp (.lst (ds.map D.str)) (84*n+3) 1:=by
 have:=Rp.lst (e9.all (a:=82) (k:=0) (ds:=ds.map D.str) λd hd=>by
  obtain⟨z,hz,rfl⟩:=U4.mp hd;exact mw (h z hz))
 rw[Us]at this;exact this.up (by omega) (UC _)
def LG(W:cc w):Rp (aP w) 20000 4:=by
 have h1:=(Eu W.n7 W.nm.nm).up (k':=3) (UC _) (by decide);have h2:Rp (.lst (w.ts.map cz)) 15700 3:=by
  have:=Rp.lst (e9.all (a:=1100) (k:=2) (ds:=w.ts.map cz) λd hd=>by
   obtain⟨t,ht,rfl⟩:=U4.mp hd;exact LH (W.ts t ht) W.nm.nm)
  rw[Us]at this;have t14:=W.t14;exact this.up (by omega) (UC _)
 have h3:=(mw (W.nm.nm _ W.fi)).up (k':=3) (UC _) (by decide);have h4:=(mw (W.nm.nm _ W.la)).up (k':=3) (UC _) (by decide);exact(Rp.tup (e9.cons h1 (e9.cons h2 (e9.cons h3 (e9.cons h4 e9.nil))))).up (by simp) (UC _)
end Bor
namespace K12
open PySem L2 DL Com Bor K11
def tak0:Cj w []:=⟨Yq,λk hk=>(nomatch hk)⟩
def lenAt(w:iT)(k:Nat):g7:=((w.ts[k]?).map wY.l).getD (0,1)
def lenAt_of(h:w.ts[k]?=some t):lenAt w k=t.l:=by unfold lenAt;rw[h];rfl
def len_ix{k:Nat}(h:k<w.ts.length):aO (.lst (w.ts.map cz)) (.int (k:Int))=.ok (cz w.ts[k])/\aO (cz w.ts[k]) (.int 3)=.ok (fr (lenAt w k)):=by
 refine⟨qo (Ut h),?_⟩;rw[lenAt_of (Ut h)];rfl
end K12
namespace K51
open PySem L2 DL Com Bor
structure El (x:g7):Prop where
 lo:Low x
 p0:0<=x.1
 p1:x.1<1152921504606846976
 q1:x.2<1152921504606846976
def lj(h:GZ x):El x:=⟨h.lo,h.p0,by have:=h.p1;omega,by have:=h.q1;omega⟩
def E2{a:Int}(h:a.natAbs<2 ^ m)(hm:m<=n):a.natAbs<2 ^ n:=UA h (Wm (by decide) hm)
def j6{a b:Int}(h:a.natAbs<2 ^ m)(h':b.natAbs<2 ^ n):(a*b).natAbs<2 ^ (m+n):=by
 rw[Int.natAbs_mul,X3];exact Nat.mul_lt_mul'' h h'
def NZ{a b:Int}(h:a.natAbs<2 ^ m)(h':b.natAbs<2 ^ m):(a+b).natAbs<2 ^ (m+1):=by
 have:=Int.natAbs_add_le a b;rw[Zl];omega
def mt(x y:g7):g7:=lT (x.1*y.1) (x.2*y.2)
def pl(x y:g7):g7:=lT (un x y).1 (un x y).2
def i0(u:g7):aO (fr u) (.int 0)=.ok (.int u.1):=rfl
def i1(u:g7):aO (fr u) (.int 1)=.ok (.int u.2):=rfl
structure Bd (x:g7) (n:Nat):Prop where
 q0:0<x.2
 a:x.1.natAbs<2 ^ n
 b:x.2.natAbs<2 ^ n
def Bd.up(h:Bd x m)(hm:m<=n):Bd x n:=⟨h.q0,E2 h.a hm,E2 h.b hm⟩
def Bd.c13(h:Bd x n)(hn:n<=6000):x.1.natAbs<vo/\x.2.natAbs<vo:=by
 have:2 ^ n<=vo:=by rw[tH];exact Wm (by decide) (U8 hn (by decide))
 exact⟨UA h.a this,UA h.b this⟩
def Bd.c60(h:Bd x n)(hn:n<=6000):x.1.natAbs<AR/\x.2.natAbs<AR:=⟨UA (h.c13 hn).1 lJ,UA (h.c13 hn).2 lJ⟩
def eN(hb:0<b)(h1:a.natAbs<2 ^ n)(h2:b.natAbs<2 ^ n):Bd (lT a b) n:=⟨by have:=(j8 (a:=a) hb).q1;omega,Wj v5 h1,Wj vZ h2⟩
def i5(hx:Bd x m)(hy:Bd y n):Bd (mt x y) (m+n):=eN (W4 hx.q0 hy.q0) (j6 hx.a hy.a) (j6 hx.b hy.b)
def un_bd(hx:Bd x m)(hy:Bd y n):Bd (un x y) (m+n+1):=by
 refine⟨W4 hx.q0 hy.q0,?_,E2 (j6 hx.b hy.b) (by omega)⟩;have h1:=j6 hx.a hy.b;have h2:=j6 hy.a hx.b;rw[Zn n m]at h2;exact NZ h1 h2
def kN(hx:Bd x m)(hy:Bd y n):Bd (pl x y) (m+n+1):=eN (un_bd hx hy).q0 (un_bd hx hy).a (un_bd hx hy).b
def fJ(hx:Bd x m)(hy:Bd y n)(h:m+n<=6000):ie [fr x,fr y]=.ok (fr (mt x y)):=by
 have b1:=hx.c60 (by omega);have b2:=hy.c60 (by omega);have hp:Bd (x.1*y.1,x.2*y.2) (m+n):=⟨W4 hx.q0 hy.q0,j6 hx.a hy.a,j6 hx.b hy.b⟩
 have hc:=hp.c13 h;have m1:=cA (dQ b1.1 b2.1);have m2:=cA (dQ b1.2 b2.2);have hlo:bg [.int (x.1*y.1),.int (x.2*y.2)]=.ok (fr (mt x y)):=Cod.low_ok hp.q0 hc.1 hc.2;open_line with[ie,nv,i0,i1,m1,m2,hlo]
def dr(hx:Bd x m)(hy:Bd y n)(h:m+n<=6000):m_times [fr x,fr y]=.ok (fr (mt x y)):=by
 have b1:=hx.c60 (by omega);have b2:=hy.c60 (by omega);have hp:Bd (x.1*y.1,x.2*y.2) (m+n):=⟨W4 hx.q0 hy.q0,j6 hx.a hy.a,j6 hx.b hy.b⟩
 have hc:=hp.c13 h;have m1:=cA (dQ b1.1 b2.1);have m2:=cA (dQ b1.2 b2.2);have hlo:m_ratio [.int (x.1*y.1),.int (x.2*y.2)]=.ok (fr (mt x y)):=qC hp.q0 hc.1 hc.2;open_line with[m_times,Cc,i0,i1,m1,m2,hlo]
def eA(hx:Bd x m)(hy:Bd y n)(h:m+n<=5900):cX [fr x,fr y]=.ok (fr (pl x y)):=by
 have b1:=hx.c60 (by omega);have b2:=hy.c60 (by omega);have hp:=un_bd hx hy;have hc:=hp.c13 (by omega);have m1:=cA (dQ b1.1 b2.2);have m2:=cA (dQ b2.1 b1.2);have m3:=cA (dQ b1.2 b2.2);have hlo:bg [.int (x.1*y.2+y.1*x.2),.int (x.2*y.2)]=.ok (fr (pl x y)):=Cod.low_ok hp.q0 hc.1 hc.2;open_line with[K12.cX,K12.pf,i0,i1,m1,m2,m3,hlo]
def fk(hx:Bd x m)(hy:Bd y n)(h:m+n<=5900):m_plus [fr x,fr y]=.ok (fr (pl x y)):=by
 have b1:=hx.c60 (by omega);have b2:=hy.c60 (by omega);have hp:=un_bd hx hy;have hc:=hp.c13 (by omega);have m1:=cA (dQ b1.1 b2.2);have m2:=cA (dQ b2.1 b1.2);have m3:=cA (dQ b1.2 b2.2);have hlo:m_ratio [.int (x.1*y.2+y.1*x.2),.int (x.2*y.2)]=.ok (fr (pl x y)):=qC hp.q0 hc.1 hc.2;open_line with[Com.m_plus,GB,i0,i1,m1,m2,m3,hlo]
def gM(hx:Bd x m)(hy:Bd y n)(hm:m<=6000)(hn:n<=6000):cY [fr x,fr y]=.ok (.bl (flt x y)):=by
 have b1:=hx.c60 hm;have b2:=hy.c60 hn;have m1:=cA (dQ b1.1 b2.2);have m2:=cA (dQ b2.1 b1.2);open_line with[cY,ph,i0,i1,m1,m2]
 rfl
def less_bd(hx:Bd x m)(hy:Bd y n)(hm:m<=6000)(hn:n<=6000):m_is_less [fr x,fr y]=.ok (.bl (flt x y)) :=
 yt (hx.c60 hm).1 (hx.c60 hm).2 (hy.c60 hn).1 (hy.c60 hn).2
def low_same(h:Low x):lT x.1 x.2=x:=by
 have:=h.g1;unfold lT;rw[this];simp
def jB{p q:Int}(hp:0<=p)(hq:0<q)(h1:p.natAbs<vo)(h2:q.natAbs<vo):bS [.tup [.int p,.int q]]=.ok (.bl (c8 (fr (lT p q)) (.tup [.int p,.int q]))):=by
 have hlo:bg [.int p,.int q]=.ok (fr (lT p q)):=Cod.low_ok hq h1 h2;have he:gO (fr (lT p q)) (.tup [.int p,.int q])=.ok (.bl (c8 (fr (lT p q)) (.tup [.int p,.int q]))):=by
  unfold gO;rw[if_pos ⟨HG _,rfl⟩]
 have hf:∀A,b7 (bU 1) (aw (dM (gq (cp (aY (af 1) (b9 "int"))) (aY (af 1) (b9 "bool")))
 (aw (bE (dC (.bl false)))
 au)
 au)
 au) [.int p,.int q] [.sh A,.no]=.ok (.nx [.sh A,.sh (.int q)]):=λA=>by
  rw[lz (ρ1:=[.sh A,.sh (.int p)]) (ρ2:=[.sh A,.sh (.int p)]) rfl (by open_line with[]),lz (ρ1:=[.sh A,.sh (.int q)]) (ρ2:=[.sh A,.sh (.int q)]) rfl (by open_line with[])];rfl
 open_line with[bS,jO,hf,decide_eq_true (show p≥0 from hp),decide_eq_true (show q > 0 from hq),hlo,he]
def Mf(h:El x):m_is_length [fr x]=.ok (.bl true):=oR h.lo h.p0
def small13{a:Int}(h:a.natAbs<2 ^ 60):a.natAbs<vo:=UA h (by rw[tH];exact Wm (by decide) (by decide))
def w1:aO (aP w) (.int 1)=.ok (.lst (w.ts.map cz)):=rfl
def t4:aO (cz t) (.int 4)=.ok (fN t.o):=rfl
theorem uY{α:Type}(g:α->D)(pk:α->Option D):∀(L:List α),(∀a∈L,∃ρ1,tg B (g a)=.ok ρ1/\((pk a=none/\tt ρ1=.ok (.bl false))∨(∃d,pk a=some d/\tt ρ1=.ok (.bl true)/\fe ρ1=.ok d)))->cI B tg tt fe (L.map g)=.ok (L.filterMap pk)
 |[],_=>rfl
 |a::L,h=>by
  obtain⟨ρ1,h1,h2⟩:=h a UU;have ih:=uY g pk L λd hd=>h d (UH _ hd);rw[UG];unfold cI;rw[h1,Ki];rcases h2 with⟨e,h2⟩|⟨d,e,h2,h3⟩
  .rw[h2,Ki]
   show cI B tg tt fe (L.map g)=_;rw[ih,YZ e]
  .rw[h2,Ki]
   show(fe ρ1).bind _=_;rw[h3,Ki,ih,Ki,YY e]
def bw{α:Type}(g:α->D)(pk:α->Option D){L:List α}(hl:L.length<=1000000)(h:∀a∈L,∃ρ1,tg (de n fr' ρ) (g a)=.ok ρ1/\((pk a=none/\tt ρ1=.ok (.bl false))∨(∃d,pk a=some d/\tt ρ1=.ok (.bl true)/\fe ρ1=.ok d))):ff n fr' tg tt fe ρ (L.map g)=.ok (.lst (L.filterMap pk)):=by
 unfold ff;rw[if_pos (show(L.map g).length<=line from by rw[Us];exact hl),uY g pk L h]
theorem Ci{α:Type}{g:α->Bool}:∀{l:List α},gb (l.map λx=>D.bl (g x))=some (l.map g)
 |[]=>rfl
 |a::l=>by rw[UG,gb,Ci];rfl
def NY{ds:ac}:Ay (.lst (ds.map λd=>.bl (g d)))=.ok (.bl (ds.all g)):=by
 show(match gb (ds.map λd=>D.bl (g d)) with|some bs=>ar.ok (D.bl (bs.all id))|none=>.stuck)=_;rw[Ci];simp only[Yp];rfl
def adds_ok(W:cc w){as:List g7}(hal:as.length=w.ts.length)(ha:∀a∈as,El a):m_look_at_adds [aP w,.lst (as.map fr)]=.ok .non:=by
 have t14:=W.t14;have hw:m_look_at_web [aP w]=.ok .non:=vz W;have hb:((w.ts.length:Int)==(w.ts.length:Int))=true:=by simp
 have hc:∀A,ff 1 [] (bU 0) mYes (ao (ae (af 0) az) m_is_length) A (as.map fr)=.ok (.lst ((as.map fr).map λ_=>.bl true)):=λA=>yU (by rw[Us];omega) λd hd=>by
  obtain⟨x,hx,rfl⟩:=U4.mp hd;refine⟨[.sh (fr x)],rfl,rfl,?_⟩;open_line with[Mf (ha x hx)]
 have hall:Ay (.lst ((as.map fr).map λ_=>.bl true))=.ok (.bl true):=by
  have:=NY (ds:=as.map fr) (g:=λ_=>true);rw[show((as.map fr).all λ_=>true)=true from Va.mpr λ_ _=>rfl]at this;exact this
 have hh:m_has_lengths [aP w,.lst (as.map fr)]=.ok (.bl true):=by
  open_line with[m_has_lengths,lZ,w1,Us,hal,hb,hc,hall]
 open_line with[m_look_at_adds,k8,hw,hh]
end K51
namespace Pth
open PySem L2 DL Com Bor K17
open K11 (nums ways pr eq_str)
def GN(w:iT)(ks:bv)(n:Nat)(a b:UP):Prop:=∃t,w.ts[n]?=some t/\n∉ks/\(a,b)∈ways t
inductive AJ (w:iT) (ks:bv) (a:UP):bv->UP->Prop where
 |nil:AJ w ks a [] a
 |snoc {p:bv}{b c:UP}{n:Nat}:AJ w ks a p b->GN w ks n b c->AJ w ks a (p++[n]) c
def AV(T:pj zs t)(h:(a,b)∈ways t):a∈zs/\b∈zs/\(a=t.a∨a=t.b)/\(b=t.a∨b=t.b):=by
 have ta:=T.a;have tb:=T.b;unfold ways at h;split at h
 .have:(a,b)=(t.a,t.b):=by simpa using h
  cases this;exact⟨ta,tb,.inl rfl,.inr rfl⟩
 .rcases UI.mp h with e|h
  .cases e;exact⟨ta,tb,.inl rfl,.inr rfl⟩
  .have:(a,b)=(t.b,t.a):=by simpa using h
   cases this;exact⟨tb,ta,.inr rfl,.inl rfl⟩
open K11 (nums ways pr eq_str)
open K51 (Bd pl)
def val(x:g7):Rat:=(x.1:Rat) / (x.2:Rat)
def eL{a:Int}(h:0<a):(0:Rat)<(a:Rat):=by
 have:=Rat.intCast_lt_intCast.mpr h;simpa using this
def pQ(hb:0<b):val (lT a b)=(a:Rat) / (b:Rat):=by
 have h:=BC (a:=a) (b:=b);have hq:0<(lT a b).2:=by have:=(j8 (a:=a) hb).q1;omega
 unfold val;have p1:=eL hq;have p2:=eL hb;have e:((lT a b).1:Rat)*(b:Rat)=(a:Rat)*((lT a b).2:Rat):=by rw[←V7,←V7,h]
 grind
def D5(hx:0<x.2)(hy:0<y.2):val (pl x y)=val x+val y:=by
 have:pl x y=lT (x.1*y.2+y.1*x.2) (x.2*y.2):=rfl;rw[this,pQ (W4 hx hy)];unfold val;have p1:=eL hx;have p2:=eL hy;rw[YB,V7,V7,V7]
 grind
open K11 (nums ways pr eq_str)
open K51 (Bd pl)
def Fu(w:iT)(p:bv):Rat:=(p.map λn=>val (K12.lenAt w n)).sum
end Pth
namespace Vlu
open PySem L2 DL Com Bor Pth
open K11 (nums ways pr eq_str)
open K51 (Bd pl)
abbrev m_ratio:ac->ar D:=Com.m_ratio
noncomputable def Cd:bd :=
 (aw (bE (ao (ae (ag (ag (ag (af 0) (dC (.int 0)) aO) (ag (af 1) (dC (.int 1)) aO) cx) (ag (ag (af 1) (dC (.int 0)) aO) (ag (af 0) (dC (.int 1)) aO) cx) uc) (ae (ag (ag (af 0) (dC (.int 1)) aO) (ag (af 1) (dC (.int 1)) aO) cx) az)) m_ratio))
 au)
def m_minus:ac->ar D:=ck 2 Cd
def mi(x y:g7):g7:=lT (x.1*y.2-y.1*x.2) (x.2*y.2)
def minus_bd(hx:Bd x m)(hy:Bd y n)(h:m+n<=5900):m_minus [fr x,fr y]=.ok (fr (mi x y)):=by
 have b1:=hx.c60 (by omega);have b2:=hy.c60 (by omega);have hy':Bd (-y.1,y.2) n:=⟨hy.q0,by show(-y.1).natAbs<_;rw[Int.natAbs_neg];exact hy.a,hy.b⟩
 have hp:=K51.un_bd hx hy';have hc:=hp.c13 (by omega);have m1:=cA (dQ b1.1 b2.2);have m2:=cA (dQ b2.1 b1.2);have m3:=cA (dQ b1.2 b2.2);have e:x.1*y.2 + -y.1*x.2=x.1*y.2-y.1*x.2:=by rw[Int.neg_mul];omega
 have hlo:m_ratio [.int (x.1*y.2-y.1*x.2),.int (x.2*y.2)]=.ok (fr (mi x y)):=by
  have h1:=hc.1;have h2:=hc.2;unfold un at h1 h2;simp only[e]at h1;exact qC hp.q0 h1 h2
 have i0:∀z:g7,aO (fr z) (.int 0)=.ok (.int z.1):=λ_=>rfl;have i1:∀z:g7,aO (fr z) (.int 1)=.ok (.int z.2):=λ_=>rfl;open_line with[m_minus,Cd,i0,i1,m1,m2,m3,uc,hlo]
end Vlu
namespace Bfd
open PySem L2 DL Com Bor Pth Vlu
open K11 (nums ways pr there oS)
open K51 (Bd pl)
abbrev cY:ac->ar D:=K51.cY
end Bfd
namespace Nwb
open PySem L2 DL Com
def cut_id{k:Nat}(h:k<=xs.length):iZ xs none (some (k:Int))=xs.take k:=by
 have:=Az (F:=id) (xs:=xs) h
 rwa [List.map_id,List.map_id]at this
end Nwb
namespace K15
open PySem L2 DL
abbrev bN:ac->ar D:=K11.bN
abbrev cY:ac->ar D:=K51.cY
end K15
namespace K54
open PySem L2 DL
def gC:List (UP×Bool):=[("NoWay",true)]
abbrev aF:Uy->ac->ac->ar (D×ac):=Bor.aF
abbrev bg:ac->ar D:=Cod.bg
abbrev bN:ac->ar D:=K11.bN
noncomputable def kA:bd :=
 (aw (jV 2 (ao (ae (ao (ae (ao az b5) (ae (ao (ae (ag (af 0) (dC (.int 2)) aO) az) b5) az)) cT) az) b5))
 (aw (jV 3 (ao az b5))
 (aw (jT (λ_=>200000) (ag (af 2) (ao az b5) gi)
 (aw (jU [4,5] 2)
 (aw (dM (ag (ag (af 5) (aY (dC (.int 1)) og) aO) (ag (af 0) (dC (.int 3)) aO) gO)
 (aw (du 3 (af 4))
 au)
 (aw (oB (ao (ae (ag (af 0) (dC (.int 1)) aO) az) (m1 cB)) (bU 6)
 (aw (bT 7 (ao (ae (ag (ag (af 0) (dC (.int 1)) aO) (af 6) aO) (ae (ag (af 5) (aY (dC (.int 1)) og) aO) az)) bN))
 (aw (dM (f9 (ag (af 7) (dC (.non)) nj) (f9 (ag (af 7) (af 5) dS) (ag (af 6) (af 1) dS)))
 (aw (du 2 (ao (ae (ag (af 4) (ao (ae (af 6) az) b5) bX) (ae (ag (af 5) (ao (ae (af 7) az) b5) bX) az)) cT))
 au)
 au)
 au)))
 au))
 au)))
 (aw (bE (af 3))
 au))))
def cw:ac->ar D:=ck 8 kA
abbrev m_plus:ac->ar D:=Com.m_plus
abbrev m_sum_of:ac->ar D:=Com.m_sum_of
def vc:bd :=
 (aw (bE (ao (ae (dy 2 [1] (kD (af 0)) (el [0,1]) (ag (af 2) (af 0) oY) (af 1)) az) m_sum_of))
 au)
def m_load_on:ac->ar D:=ck 2 vc
abbrev m_is_ratio:ac->ar D:=Com.m_is_ratio
abbrev m_walk_way:ac->ar D:=K11.m_walk_way
def b_is_way:bd :=
 (aw (mv (je (ae (af 0) (ae (af 1) (ae (af 2) az))) m_walk_way) (i8 gC)
 (aw (bE (dC (.bl false)))
 au))
 (aw (bE (dC (.bl true)))
 au))
def m_is_way:ac->ar D:=ck 3 b_is_way
noncomputable def b_is_way_with_share:bd :=
 (aw (dM (gq (cp (aY (af 1) (b9 "tuple"))) (ag (ao (ae (af 1) az) (m1 cB)) (dC (.int 2)) gi))
 (aw (bE (dC (.bl false)))
 au)
 au)
 (aw (bE (f9 (ao (ae (af 0) (ae (ao az b5) (ae (ag (af 1) (dC (.int 0)) aO) az))) m_is_way) (f9 (ao (ae (ag (af 1) (dC (.int 1)) aO) az) m_is_ratio) (ag (ag (ag (af 1) (dC (.int 1)) aO) (dC (.int 0)) aO) (dC (.int 0)) Dm))))
 au))
def m_is_way_with_share:ac->ar D:=ck 2 b_is_way_with_share
noncomputable def fu:bd :=
 (aw (dM (gq (cp (aY (af 0) (b9 "tuple"))) (ag (ao (ae (af 0) az) (m1 cB)) (dC (.int 2)) gi))
 (aw (bE (dC (.bl false)))
 au)
 au)
 (aw (bE (ag (dy 1 [] (CA (af 0)) (bU 0) (gq (aY (af 0) (b9 "bool")) (cp (aY (af 0) (b9 "int")))) (af 0)) (ao az b5) gO))
 au))
def gP:ac->ar D:=ck 1 fu
def jM:bd :=
 (aw (dM (gq (cp (ao (ae (af 0) az) m_is_ratio)) (ag (ag (af 0) (dC (.int 0)) aO) (dC (.int 0)) Kc))
 (aw dB
 au)
 au)
 au)
def m_look_at_length:ac->ar D:=ck 1 jM
abbrev m_times:ac->ar D:=K51.m_times
abbrev m_look_at_taking:ac->ar D:=Com.m_look_at_taking
abbrev m_look_at_way:ac->ar D:=K11.m_look_at_way
noncomputable def o9:bd :=
 (aw (fS (ao (ae (af 0) (ae (ao az b5) (ae (af 1) az))) (noX m_look_at_way)))
 (aw (bE (ao (ae (dy 1 [0] (kD (af 1)) (bU 0) mYes (ag (ag (ag (af 1) (dC (.int 1)) aO) (af 0) aO) (dC (.int 3)) aO)) az) m_sum_of))
 au))
def m_length_of:ac->ar D:=ck 2 o9
abbrev m_minus:ac->ar D:=Vlu.m_minus
abbrev m_is_less:ac->ar D:=Com.m_is_less
noncomputable def b_claim_of_adds:bd :=
 (aw (jV 4 (ao az b5))
 (aw (kM (xB (ag (af 0) (dC (.int 1)) aO)) (el [5,6])
 (aw (dM (ag (ag (af 6) (dC (.int 4)) aO) (dC (.non)) nj)
 (aw (bT 7 (ao (ae (ao (ae (af 2) (ae (af 5) az)) m_load_on) (ae (ao (ae (af 3) (ae (ag (af 6) (dC (.int 4)) aO) az)) m_times) az)) m_minus))
 (aw (du 4 (ao (ae (ag (af 1) (af 5) aO) (ae (Q8 (ao (ae (dC (.tup [(.int 0),(.int 1)])) (ae (af 7) az)) m_is_less) (af 7) (dC (.tup [(.int 0),(.int 1)]))) az)) m_times))
 au))
 au)
 au))
 (aw (bE (ao (ae (af 4) az) m_sum_of))
 au)))
def m_claim_of_adds:ac->ar D:=ck 8 b_claim_of_adds
abbrev ie:ac->ar D:=K51.ie
abbrev cY:ac->ar D:=K51.cY
noncomputable def jn:Uy->Ev->ac->ar fb:=λa=>
 (bh (eF (jV 2 (ao (ae (af 1) az) (m1 sq))))
 (bh (eF (jV 3 (ao az b5)))
 (bh (oO (yi (mA (aV (mP (ao (ae (af 1) az) (m1 cB))) (aV (mB (mP (dC (.int 1))) (bL 0 a (aV (mP (dC (.int 9))) cm) aF) bX) cm)) (m2 Ax))) (bU 4)
 (bh (mK 5 2 (bL 0 a (aV (mL (ao (ae (af 2) az) (m1 cB))) cm) aF))
 (bh (ey 6 (mB (mP (ao (ae (dC (.int 3)) (ae (dC (.int 60)) (ae (ag (dC (.int 10)) (dC (.int 6)) oa) az))) b5)) (bL 0 a (aV (mP (dC (.int 3))) cm) aF) aO))
 (bh (zY 3 (mA (aV (mP (af 5)) (aV (mB (mP (dC (.int 1))) (bL 0 a (aV (mP (af 6)) cm) aF) bX) cm)) b5))
 bY))))
 (bh (eF (zB 3 (bT 7 (ao (ae (dy 2 [] (kD (af 3)) (el [0,1]) mYes (af 1)) az) (m1 Gn)))))
 (bh (gY (dy 2 [7] (kD (af 3)) (el [0,1]) mYes (ao (ae (af 0) (ae (ao (ae (af 1) (ae (af 2) az)) bg) az)) cT)))
 bY)))))
def cq:Uy->ac->ac->ar (D×ac):=pz 8 jn
end K54
namespace K53
open PySem L2 DL
def iH:List (UP×Bool):=[("NoMix",true),("NoWay",true)]
def gC:List (UP×Bool):=[("NoMix",false),("NoWay",true)]
def Eh:UP->Option Bool:=mn [("NoMix",false),("NoWay",true)]
def Ef:UP->Option Bool:=mn [("NoMix",true),("NoWay",true)]
def Ed:UP->Option Bool:=mn [("NoMix",true),("NoWay",false)]
def BQ:UP->Option Bool:=mn [("NoMix",true),("NoWay",true)]
abbrev cL:ac->ar D:=Bor.cL
abbrev aF:Uy->ac->ac->ar (D×ac):=Bor.aF
abbrev eU:Uy->ac->ac->ar (D×ac):=Bor.eU
abbrev bg:ac->ar D:=Cod.bg
abbrev dD:Uy->ac->ac->ar (D×ac):=Bor.dD
abbrev fA:Uy->ac->ac->ar (D×ac):=Bor.fA
abbrev fz:Uy->ac->ac->ar (D×ac):=Bor.fz
abbrev cq:Uy->ac->ac->ar (D×ac):=K54.cq
abbrev bN:ac->ar D:=K11.bN
abbrev cw:ac->ar D:=K54.cw
abbrev bf:ac->ar D:=K11.bf
abbrev bD:ac->ar D:=K11.bD
abbrev bS:ac->ar D:=K51.bS
abbrev cX:ac->ar D:=K12.cX
noncomputable def dU:bd :=
 (aw (dM (cp (aY (af 1) (b9 "list")))
 (aw (bE (ao (ae (dC (.str "at")) (ae (dC (.non)) az)) cT))
 au)
 au)
 (aw (bT 2 (ao (ae (dC (.int 0)) (ae (dC (.int 1)) az)) cT))
 (aw (oB (ao (ae (af 1) az) (m1 cB)) (bU 3)
 (aw (bT 4 (ag (af 1) (af 3) aO))
 (aw (dM (gq (cp (aY (af 4) (b9 "tuple"))) (gq (ag (ao (ae (af 4) az) (m1 cB)) (dC (.int 2)) gi) (ag (ag (ao (ae (af 0) (ae (ao az b5) (ae (ag (af 4) (dC (.int 0)) aO) az))) bD) (dC (.int 0)) aO) (dC (.str "way")) gi)))
 (aw (bE (ao (ae (dC (.str "at")) (ae (af 3) az)) cT))
 au)
 au)
 (aw (dM (ag (ag (af 4) (dC (.int 0)) aO) (dy 1 [] (kD (lO (af 1) dX (dP (af 3)))) (bU 0) mYes (ag (af 0) (dC (.int 0)) aO)) oY)
 (aw (bE (ao (ae (dC (.str "at")) (ae (af 3) az)) cT))
 au)
 au)
 (aw (dM (gq (cp (ao (ae (ag (af 4) (dC (.int 1)) aO) az) bS)) (ag (ag (ag (af 4) (dC (.int 1)) aO) (dC (.int 0)) aO) (dC (.int 0)) gO))
 (aw (bE (ao (ae (dC (.str "at")) (ae (af 3) az)) cT))
 au)
 au)
 (aw (bT 2 (ao (ae (af 2) (ae (ag (af 4) (dC (.int 1)) aO) az)) cX))
 au))))))
 (aw (dM (ag (af 2) (ao (ae (dC (.int 1)) (ae (dC (.int 1)) az)) cT) gi)
 (aw (bE (ao (ae (dC (.str "at")) (ae (dC (.non)) az)) cT))
 au)
 au)
 (aw (bE (dC (.non)))
 au)))))
def bO:ac->ar D:=ck 5 dU
abbrev m_is_name:ac->ar D:=Com.m_is_name
abbrev m_look_at_places:ac->ar D:=Com.m_look_at_places
abbrev m_is_whole:ac->ar D:=Com.m_is_whole
abbrev m_common_divisor:ac->ar D:=Com.m_common_divisor
abbrev m_is_ratio:ac->ar D:=Com.m_is_ratio
abbrev m_is_length:ac->ar D:=Com.m_is_length
abbrev m_is_worth:ac->ar D:=Com.m_is_worth
abbrev m_is_tie:ac->ar D:=Com.m_is_tie
abbrev m_look_at_ties:ac->ar D:=Com.m_look_at_ties
abbrev m_is_place:ac->ar D:=Com.m_is_place
abbrev m_look_at_web:ac->ar D:=Com.m_look_at_web
abbrev m_is_tie_number:ac->ar D:=Com.m_is_tie_number
abbrev m_steps_along:ac->ar D:=K11.m_steps_along
abbrev m_place_behind:ac->ar D:=K11.m_place_behind
abbrev m_walk_way:ac->ar D:=K11.m_walk_way
abbrev m_is_way:ac->ar D:=K54.m_is_way
abbrev m_is_way_with_share:ac->ar D:=K54.m_is_way_with_share
abbrev m_ratio:ac->ar D:=Com.m_ratio
abbrev m_plus:ac->ar D:=Com.m_plus
abbrev m_sum_of:ac->ar D:=Com.m_sum_of
noncomputable def fg:bd :=
 (aw (fS (ao (ae (af 0) az) m_look_at_web))
 (aw (dM (cp (aY (af 1) (b9 "list")))
 (aw (fR "NoMix" ["at"] (ae (dC (.non)) az))
 au)
 au)
 (aw (jV 2 (ao az b5))
 (aw (kM (xB (af 1)) (el [3,4])
 (aw (dM (gq (cp (ao (ae (af 0) (ae (af 4) az)) m_is_way_with_share)) (ag (ag (af 4) (dC (.int 0)) aO) (af 2) oY))
 (aw (fR "NoMix" ["at"] (ae (af 3) az))
 au)
 au)
 (aw (du 2 (ag (af 4) (dC (.int 0)) aO))
 au)))
 (aw (dM (ag (ao (ae (dy 2 [] (kD (af 1)) (el [0,1]) mYes (af 1)) az) m_sum_of) (dC (.tup [(.int 1),(.int 1)])) gi)
 (aw (fR "NoMix" ["at"] (ae (dC (.non)) az))
 au)
 au)
 au)))))
def bq:ac->ar D:=ck 5 fg
abbrev m_load_on:ac->ar D:=K54.m_load_on
def ou:bd :=
 (aw (fS (ao (ae (af 0) (ae (af 1) az)) bq))
 (aw (bE (dy 1 [1] (jt (ao (ae (ag (af 0) (dC (.int 1)) aO) az) (m1 cB))) (bU 0) mYes (ao (ae (af 1) (ae (af 0) az)) m_load_on)))
 au))
def ip:ac->ar D:=ck 2 ou
abbrev m_has_lengths:ac->ar D:=K51.m_has_lengths
abbrev m_look_at_adds:ac->ar D:=K51.m_look_at_adds
abbrev m_look_at_purse:ac->ar D:=Com.m_look_at_purse
abbrev m_look_at_length:ac->ar D:=K54.m_look_at_length
abbrev m_times:ac->ar D:=K51.m_times
abbrev m_look_at_taking:ac->ar D:=Com.m_look_at_taking
abbrev m_look_at_way:ac->ar D:=K11.m_look_at_way
abbrev m_length_of:ac->ar D:=K54.m_length_of
abbrev m_minus:ac->ar D:=Vlu.m_minus
abbrev m_is_less:ac->ar D:=Com.m_is_less
abbrev m_claim_of_adds:ac->ar D:=K54.m_claim_of_adds
noncomputable def iS:bd :=
 (aw (fS (ao (ae (af 0) (ae (af 1) az)) m_look_at_adds))
 (aw (fS (ao (ae (af 2) az) m_look_at_purse))
 (aw (fS (ao (ae (af 0) (ae (af 3) az)) bq))
 (aw (fS (ao (ae (af 4) az) m_look_at_length))
 (aw (bT 5 (ao (ae (dy 2 [0] (kD (af 3)) (el [0,1]) mYes (ao (ae (af 1) (ae (ao (ae (af 2) (ae (af 0) az)) m_length_of) az)) m_times)) az) m_sum_of))
 (aw (bE (ao (ae (ao (ae (af 5) (ae (ao (ae (af 4) (ae (af 2) az)) m_times) az)) m_plus) (ae (ao (ae (af 0) (ae (af 1) (ae (af 3) (ae (af 4) az)))) m_claim_of_adds) az)) m_plus))
 au))))))
def dR:ac->ar D:=ck 6 iS
noncomputable def et:bd :=
 (aw (dM (ag (af 0) (dC (.int 0)) gO)
 (aw (bE (ao (ae (af 1) (ae (af 2) az)) bq))
 au)
 au)
 (aw (dM (ag (af 0) (dC (.int 1)) gO)
 (aw (fS (ao (ae (af 1) (ae (af 2) az)) ip))
 au)
 (aw (fS (ao (ae (af 1) (ae (dy 1 [] (kD (ag (af 1) (dC (.int 1)) aO)) (bU 0) mYes (ao (ae (dC (.int 1)) (ae (dC (.int 1)) az)) cT)) (ae (ao (ae (dC (.int 1)) (ae (dC (.int 1)) az)) cT) (ae (af 2) (ae (ao (ae (dC (.int 0)) (ae (dC (.int 1)) az)) cT) az))))) dR))
 au))
 (aw (bE (dC (.non)))
 au)))
def cM:ac->ar D:=ck 3 et
noncomputable def jc:bd :=
 (aw (bT 3 (dC (.non)))
 (aw (bT 4 (dC (.non)))
 (aw (CG (xH 4 (ae (af 0) (ae (af 1) (ae (af 2) az))) cM) (i8 iH) 5
 (aw (bT 3 (af 5))
 au))
 (aw (dM (ag (af 3) (dC (.non)) nk)
 (aw (bE (af 4))
 au)
 au)
 (aw (dM (aY (af 3) (lP Eh))
 (aw (bE (dC (.str "other")))
 au)
 au)
 (aw (dM (cp (aY (af 3) (lP Ef)))
 (aw (bE (dC (.str "other")))
 au)
 au)
 (aw (dM (gq (cp (aY (af 3) (lP Ed))) (aY (aY (af 3) (oZ BQ "at")) (b9 "bool")))
 (aw (bE (dC (.str "other")))
 au)
 au)
 (aw (bE (ao (ae (dC (.str "at")) (ae (aY (af 3) (oZ BQ "at")) az)) cT))
 au))))))))
def cW:ac->ar D:=ck 6 jc
noncomputable def kj:bd :=
 (aw (bT 2 (ao (ae (ao (ae (af 0) (ae (af 1) az)) b5) az) (m1 r8)))
 (aw (bT 3 (ao (ae (af 0) (ae (af 1) az)) bO))
 (aw (bT 4 (dy 1 [0,1] (kD (ao (ae (dC (.int 0)) (ae (dC (.int 1)) (ae (dC (.int 2)) (ae (dC (.int 0)) az)))) b5)) (bU 0) mYes (ao (ae (af 0) (ae (af 1) (ae (af 2) az))) cW)))
 (aw (bE (f9 (ag (af 4) (HK (ao (ae (af 3) az) b5) (dC (.int 4))) gO) (ag (ao (ae (ao (ae (af 0) (ae (af 1) az)) b5) az) (m1 r8)) (af 2) gO)))
 au))))
def cu:ac->ar D:=ck 5 kj
noncomputable def sY:Uy->Ev->ac->ar fb:=λa=>
 (bh (eF (Ly [2,3] (af 1)))
 (bh (eF (bT 4 (ao (ae (ag (ag (af 3) (dC (.int 0)) aO) (dC (.int 1)) bX) (ae (ag (af 3) (dC (.int 1)) aO) az)) bg)))
 (bh (eF (bT 5 (ao (ae (dC (.non)) (ae (dC (.bl true)) (ae (dC (.int 1)) (ae (dC (.str "1")) (ae (ao (ae (dC (.int 2)) (ae (dC (.int 2)) az)) cT) (ae (ao (ae (dC (.int 2)) (ae (dC (.int 4)) az)) cT) (ae (ao (ae (dC (.int 0)) (ae (dC (.int 1)) az)) cT) (ae (ao (ae (aY (dC (.int 1)) og) (ae (dC (.int 2)) az)) cT) (ae (ao (ae (dC (.bl true)) (ae (dC (.int 1)) az)) cT) az))))))))) b5)))
 (bh (ey 5 (mB (mP (ag (af 5) (ao (ae (ao (ae (dC (.int 1)) (ae (dC (.bl true)) az)) cT) (ae (ao (ae (dC (.int 1)) (ae (dC (.int 0)) az)) cT) (ae (ao (ae (dC (.int 1)) (ae (dC (.int 1)) az)) b5) az))) b5) bX)) (bL 0 a (aV (mP (dC (.int 12))) cm) aF) aO))
 (bh (ey 6 (bL 0 a (aV (mP (ao (ae (af 2) az) (m1 cB))) cm) aF))
 (bh (ey 7 (mA (aV (mP (ag (lO (af 2) dX (dP (af 6))) (lO (af 2) (dP (ag (af 6) (dC (.int 1)) bX)) dX) bX)) (aV (mB (mB (mP (lO (af 2) dX (dP (af 6)))) (mA (aV (bL 0 a (aV (mP (dC (.int 15))) cm) aF) cm) b5) bX) (mP (lO (af 2) (dP (af 6)) dX)) bX) cm)) b5))
 (bh (ey 7 (mB (mP (ag (af 7) (ao (ae (ao (ae (af 2) az) (m1 rZ)) (ae (dC (.non)) az)) b5) bX)) (bL 0 a (aV (mP (dC (.int 4))) cm) aF) aO))
 (bh (eF (bT 8 (ao (ae (ao (ae (af 7) (ae (af 3) az)) cT) (ae (ao (ae (af 2) (ae (af 5) az)) cT) (ae (ao (ae (af 2) (ae (af 4) az)) cT) (ae (ao (ae (af 2) (ae (af 3) (ae (af 3) az))) cT) (ae (ao (ae (af 2) az) cT) az))))) b5)))
 (bh (yk (mB (mP (ag (af 8) (ao (ae (ao (ae (af 2) (ae (af 3) az)) b5) (ae (dC (.non)) az)) b5) bX)) (bL 0 a (aV (mP (dC (.int 7))) cm) aF) aO))
 bY)))))))))
def fB:Uy->ac->ac->ar (D×ac):=pz 9 sY
noncomputable def eQ:Uy->Ev->ac->ar fb:=λa=>
 (bh (ey 2 (bL 0 a (aV (mP (dC (.int 6))) cm) aF))
 (bh (ey 3 (bL 0 a (aV (mP (ao (ae (af 1) az) (m1 cB))) cm) aF))
 (bh (ey 4 (bL 0 a (aV (mP (ag (ao (ae (af 1) az) (m1 cB)) (dC (.int 1)) bX)) cm) aF))
 (bh (zh (mT (ag (af 2) (dC (.int 0)) gO))
 (bh (eF (bT 5 (aY (dy 1 [1] (jt (ao (ae (af 1) az) (m1 cB))) (bU 0) mYes (ao (ae (af 0) (ae (ag (af 1) (af 0) aO) az)) cT)) B7)))
 (bh (yk (mB (mP (ao (ae (ao (ae (af 1) az) (m1 rZ)) (ae (dC (.non)) (ae (dC (.int 5)) (ae (af 5) az)))) b5)) (bL 0 a (aV (mP (dC (.int 4))) cm) aF) aO))
 bY))
 bY)
 (bh (zh (mT (ag (af 2) (dC (.int 1)) gO))
 (bh (gY (ag (lO (af 1) dX (dP (af 3))) (lO (af 1) (dP (ag (af 3) (dC (.int 1)) bX)) dX) bX))
 bY)
 bY)
 (bh (zh (mT (ag (af 2) (dC (.int 2)) gO))
 (bh (gY (ag (ag (lO (af 1) dX (dP (af 4))) (ao (ae (ag (af 1) (af 3) aO) az) b5) bX) (lO (af 1) (dP (af 4)) dX) bX))
 bY)
 bY)
 (bh (zh (mT (ag (af 2) (dC (.int 3)) gO))
 (bh (gY (aY (af 1) NL))
 bY)
 bY)
 (bh (zh (mT (ag (af 2) (dC (.int 4)) gO))
 (bh (yk (nq 1 [0] (yj (kD (af 1))) (bU 0) (bL 1 a (aV (mP (af 0)) cm) fB)))
 bY)
 bY)
 (bh (yk (mB (mB (mP (lO (af 1) dX (dP (af 3)))) (mA (aV (bL 0 a (aV (mP (ag (af 1) (af 3) aO)) cm) fB) cm) b5) bX) (mP (lO (af 1) (dP (ag (af 3) (dC (.int 1)) bX)) dX)) bX))
 bY)))))))))
def cZ:Uy->ac->ac->ar (D×ac):=pz 6 eQ
noncomputable def K5:bd :=
 (aw (oB (ao (ae (dC (.int 1)) (ae (ao (ae (ao (ae (af 0) az) (m1 cB)) (ae (dC (.int 3)) az)) (m2 Ax)) az)) (m2 NM)) (bU 1)
 (l6 2 (ao (ae (af 0) (ae (af 1) az)) cL) λa=>(bh (ey 3 (bL 2 a (aV (mP (ag (ao (ae (dC (.int 7)) (ae (dC (.int 6)) (ae (dC (.int 6)) az))) b5) (af 1) aO)) (aV (mP (ag (ao (ae (dC (.int 14)) (ae (dC (.int 10)) (ae (dC (.int 10)) az))) b5) (af 1) aO)) cm)) fz))
 (bh (ey 4 (bL 2 a (aV (mP (ao (ae (af 3) (ae (ao az b5) az)) cw)) cm) cq))
 (bh (zh (mT (gq (cp (ao (ae (af 3) (ae (af 4) az)) cu)) (cp (ao (ae (af 3) (ae (ao az b5) az)) cu))))
 (bh (gY (dC (.bl false)))
 bY)
 bY)
 (bh (oO (yj (jt (ag (dC (.int 7)) (ao (ae (ag (af 4) (ao az b5) gi) az) (m1 iN)) cx))) (bU 5)
 (bh (zh (Fq (mA (aV (mP (af 3)) (aV (bL 2 a (aV (mP (af 4)) cm) cZ) cm)) cu))
 (bh (gY (dC (.bl false)))
 bY)
 bY)
 bY))
 bY))))))
 (aw (bE (dC (.bl true)))
 au))
noncomputable def m_law:ac->ar D:=ck 6 K5
def top(i:Nat):V6:=PySem.Challenge.pw_farthestcut_k53_mixes_looked_at.main.body.getD i (.Pass ⟨0,0,0,0⟩)
noncomputable def rows:List Rw:=[
 ⟨"_law_begun",top 73,["_law_script","_law_k","_law_cell"],2⟩,
 ⟨"_law_take",top 74,["_law_state","_law_many","_law_digit","_law_made","_law_turn"],2⟩,
 ⟨"_law_names",top 77,["_law_state","_law_many","_law_letters","_law_long","_law_at","_law_turn","_law_step","_law_nested","_law_found","_law_k","_law_one"],2⟩,
 ⟨"_law_low",top 75,["_law_top","_law_bottom","_law_one","_law_other"],2⟩,
 ⟨"_law_amount",top 76,["_law_state","_law_least","_law_way","_law_top","_law_many","_law_bottoms"],2⟩,
 ⟨"_law_tie",top 78,["_law_state","_law_names_here","_law_k","_law_many","_law_one","_law_other","_law_word","_law_length","_law_worth"],3⟩,
 ⟨"_law_web",top 79,["_law_state","_law_most","_law_more","_law_names_here","_law_many","_law_ties","_law_k","_law_first","_law_last"],3⟩,
 ⟨"_law_shares",top 86,["_law_state","_law_some","_law_ways","_law_found","_law_turn","_law_way","_law_most","_law_total"],2⟩,
 ⟨"_law_there",top 81,["_law_tie_here","_law_here"],2⟩,
 ⟨"_law_all_ways",top 85,["_law_web_here","_law_gone","_law_begun_here","_law_found","_law_way","_law_seen","_law_k","_law_there_here"],2⟩,
 ⟨"_law_is_number",top 82,["_law_web_here","_law_one"],2⟩,
 ⟨"_law_wrong",top 83,["_law_web_here","_law_gone","_law_thing","_law_here","_law_seen","_law_k","_law_one","_law_there_here"],3⟩,
 ⟨"_law_is_length",top 84,["_law_thing","_law_one"],1⟩,
 ⟨"_law_plus",top 80,["_law_one","_law_other"],2⟩,
 ⟨"_law_mix_wrong",top 87,["_law_web_here","_law_thing","_law_total","_law_k","_law_one"],2⟩,
 ⟨"is_name",top 18,["thing"],1⟩,
 ⟨"look_at_places",top 48,["places","number","place"],1⟩,
 ⟨"is_whole",top 16,["thing"],1⟩,
 ⟨"common_divisor",top 12,["one","other","larger","smaller","rest"],2⟩,
 ⟨"is_ratio",top 17,["thing"],1⟩,
 ⟨"is_length",top 43,["thing"],1⟩,
 ⟨"is_worth",top 44,["thing"],1⟩,
 ⟨"is_tie",top 42,["thing"],1⟩,
 ⟨"look_at_ties",top 49,["ties","places","number","tie"],2⟩,
 ⟨"is_place",top 50,["thing","places"],2⟩,
 ⟨"look_at_web",top 47,["thing"],1⟩,
 ⟨"is_tie_number",top 45,["web","thing"],2⟩,
 ⟨"steps_along",top 52,["tie","there"],1⟩,
 ⟨"place_behind",top 55,["web","taken","places","number","here","there"],4⟩,
 ⟨"walk_way",top 53,["web","taken","thing","places","at","number","there"],3⟩,
 ⟨"is_way",top 54,["web","taken","thing"],3⟩,
 ⟨"is_way_with_share",top 67,["web","thing"],2⟩,
 ⟨"ratio",top 21,["top","bottom","divisor"],2⟩,
 ⟨"plus",top 22,["one","other"],2⟩,
 ⟨"sum_of",top 26,["some","total","one"],1⟩,
 ⟨"look_at_mix",top 66,["web","thing","ahead","number","one"],2⟩,
 ⟨"load_on",top 69,["mix","number"],2⟩,
 ⟨"load_of",top 68,["web","mix"],2⟩,
 ⟨"has_lengths",top 46,["web","thing"],2⟩,
 ⟨"look_at_adds",top 63,["web","thing"],2⟩,
 ⟨"look_at_purse",top 57,["thing"],1⟩,
 ⟨"look_at_length",top 27,["thing"],1⟩,
 ⟨"times",top 24,["one","other"],2⟩,
 ⟨"look_at_taking",top 58,["web","thing","ahead","number"],2⟩,
 ⟨"look_at_way",top 60,["web","taking","thing"],3⟩,
 ⟨"length_of",top 61,["web","way"],2⟩,
 ⟨"minus",top 23,["one","other"],2⟩,
 ⟨"is_less",top 25,["one","other"],2⟩,
 ⟨"claim_of_adds",top 71,["web","adds","mix","rate","claims","number","tie","above"],4⟩,
 ⟨"claim_of_mix",top 70,["web","adds","purse","mix","rate","lengths"],5⟩,
 ⟨"_law_asked",top 90,["_law_asked_here","_law_web_here","_law_thing"],3⟩,
 ⟨"_law_told",top 91,["_law_asked_here","_law_web_here","_law_thing","_law_caught","_law_found","e"],3⟩,
 ⟨"_law_right",top 92,["_law_web_here","_law_thing","_law_kept","_law_due","_law_told_here"],2⟩,
 ⟨"_law_odd",top 88,["_law_state","_law_pair","_law_way","_law_share","_law_more","_law_odd_here","_law_at","_law_bent_here","_law_some"],2⟩,
 ⟨"_law_bent",top 89,["_law_state","_law_mix","_law_kind","_law_at","_law_to","_law_numbered"],2⟩,
 ⟨"law",top 93,["_law_script","_law_k","_law_state","_law_web_here","_law_mix","_law_turn"],1⟩]
def sc:SX rows:=by decide +kernel
theorem nd(i:Nat)(h:rows[i]?=some r:=by rfl):r.N.Nodup:=(sc r (UX h)).nd
def bn:∀r∈rows,N9 r:=by
 unfold rows
 repeat refine List.forall_mem_cons.mpr ⟨by first|exact Uj|exact Ui|exact Uh|exact Ug|exact Ue,?_⟩
 exact λ_ h=>nomatch h
abbrev jx:V6:=BM (top 9) 0
def CF:fv ["self","at"] ["self","at"] (defScope jx):=⟨rfl,rfl,rfl,by decide +kernel,rfl,by decide +kernel,by decide +kernel⟩
abbrev jv:V6:=BM (top 7) 0
def CD:fv ["self","at"] ["self","at"] (defScope jv):=⟨rfl,rfl,rfl,by decide +kernel,rfl,by decide +kernel,by decide +kernel⟩
def K6(K:Ur)(r:Uy):List (Uy×Bool)->Prop
 |[]=>True
 |x::l=>Xf K (.ref r) (.ref x.1)=some x.2/\K6 K r l
def sbc(h:Xf K (.ref r) (.ref c)=some b)(h':K6 K r l):K6 K r ((c,b)::l):=⟨h,h'⟩
theorem A7{K:Ur}{r c:Uy}{b:Bool}:∀{l:List (Uy×Bool)},K6 K r l->∀n:Nat,l[n]?=some (c,b)->Xf K (.ref r) (.ref c)=some b
 |_::_,h,0,e=>by cases e;exact h.1
 |_::_,h,n+1,e=>A7 h.2 n e
set_option genInjectivity false in
set_option genSizeOfSpec false in
structure Adr where
 fY:Uy
 rz:VS
 fX:Uy
 rq:VS
 cf:Uy
 eB:Uy
 cj:Uy
 dF:Uy
 dE:Uy
 b6:Uy
 gD:Uy
 A:Nat->Uy
 Q:Nat->VS
set_option genInjectivity false in
set_option genSizeOfSpec false in
structure Txt (K:Ur) (mg:UP->Option Up) (t:Adr):Prop where
 g:TG rows K mg t.A t.Q
 n_ValueError:mg "ValueError"=none
 n_abs:mg "abs"=none
 n_all:mg "all"=none
 n_bool:mg "bool"=none
 n_dict:mg "dict"=none
 n_enumerate:mg "enumerate"=none
 n_int:mg "int"=none
 n_isinstance:mg "isinstance"=none
 n_len:mg "len"=none
 n_list:mg "list"=none
 n_max:mg "max"=none
 n_min:mg "min"=none
 n_range:mg "range"=none
 n_repr:mg "repr"=none
 n_str:mg "str"=none
 n_sum:mg "sum"=none
 n_tuple:mg "tuple"=none
 mf:mg "CutError"=some (.ref t.cf)
 rA:jo K "CutError" t.cf
 C7:mg "NoCases"=some (.ref t.eB)
 C4:jo K "NoCases" t.eB
 qe:mg "NoMix"=some (.ref t.cj)
 BO:jo K "NoMix" t.cj
 Ag:mg "NoNumber"=some (.ref t.dF)
 Ae:jo K "NoNumber" t.dF
 Af:mg "NoSpread"=some (.ref t.dE)
 Ad:jo K "NoSpread" t.dE
 mU:mg "NoWay"=some (.ref t.b6)
 p9:jo K "NoWay" t.b6
 II:mg "NoWeb"=some (.ref t.gD)
 BN:jo K "NoWeb" t.gD
 dN:vh K "NoMix" t.cj
 eS:vh K "NoWay" t.b6
 GP:DD K "__init__" "NoMix.__init__" jx t.fY t.rz
 kZ:ia K t.rz ["self","at"] []
 qk:Kp K t.cj t.fY
 kG:GW K t.cj ["at"]
 qm:W.isFn K (.ref t.fY)=true
 GO:DD K "__init__" "NoWay.__init__" jv t.fX t.rq
 kY:ia K t.rq ["self","at"] []
 qj:Kp K t.b6 t.fX
 kF:GW K t.b6 ["at"]
 ql:W.isFn K (.ref t.fX)=true
 oy:GF K t.cf
 gB:K6 K t.cj [(t.cf,true),(t.eB,false),(t.cj,true),(t.dF,false),(t.dE,false),(t.b6,false),(t.gD,false)]
 jX:K6 K t.b6 [(t.cf,true),(t.eB,false),(t.cj,false),(t.dF,false),(t.dE,false),(t.b6,true),(t.gD,false)]
 gU:ue K mg "FEWEST_PLACES" (.int 2)
 nu:ue K mg "FIRST" (.int 2)
 oq:ue K mg "LAST" (.int 3)
 nt:ue K mg "LENGTH" (.int 3)
 oo:ue K mg "LETTERS" (.str "abcdefghijklmnopqrstuvwxyz")
 iQ:ue K mg "LONGEST_NAME" (.int 8)
 jk:ue K mg "MOST_PLACES" (.int 7)
 kX:ue K mg "MOST_TIES" (.int 14)
 kW:ue K mg "NOUGHT" (.tup [(.int 0),(.int 1)])
 sO:ue K mg "ONE" (.int 0)
 ki:ue K mg "OTHER" (.int 1)
 jJ:ue K mg "PLACES" (.int 0)
 jj:ue K mg "TIES" (.int 1)
 wN:ue K mg "WHOLE" (.tup [(.int 1),(.int 1)])
 sN:ue K mg "WORD" (.int 2)
 wM:ue K mg "WORDS" (.tup [(.str "one"),(.str "both")])
 lG:ue K mg "WORTH" (.int 4)
section
variable {P:Vt}{w:VH}{K:Ur}{mg:UP->Option Up}{base:UO}{t:Adr}
def pH(T:Txt K mg t):∀x C,i8 iH x=true->XC K x C->Yj K (.ref C) (.ref t.cf)=some true :=
 yy λq hq=>by
  unfold iH at hq;simp only[UI,Vq,or_false]at hq;rcases hq with rfl|rfl
  .exact⟨t.cj,T.dN.xc,T.rA.exm (A7 T.gB 0 rfl)⟩
  .exact⟨t.b6,T.eS.xc,T.rA.exm (A7 T.jX 0 rfl)⟩
def SE(h:i8 K54.gC x=true):i8 gC x=true:=by
 by_cases e:x="NoWay"
 .subst e;rfl
 .unfold i8 K54.gC at h
  have e':¬ "NoWay"=x:=λc=>e c.symm;simp[mn,e,e']at h
def wj(T:Txt K mg t):∀x C,i8 gC x=true->XC K x C->Yj K (.ref C) (.ref t.b6)=some true :=
 yy λq hq=>by
  unfold gC at hq;simp only[UI,Vq,or_false]at hq;rcases hq with rfl|rfl
  .exact⟨t.cj,T.dN.xc,T.p9.exm (A7 T.gB 5 rfl)⟩
  .exact⟨t.b6,T.eS.xc,T.p9.exm (A7 T.jX 5 rfl)⟩
def Eg(T:Txt K mg t):AL K Eh [t.gD,t.b6,t.dE,t.eB,t.dF] :=
 ik (p:=λ_ C b=>W.kitAny K (.ref C) ([t.gD,t.b6,t.dE,t.eB,t.dF].map Ve)=some b) λq hq=>by
  simp only[UI,Vq,or_false]at hq;rcases hq with rfl|rfl
  .exact⟨t.cj,T.dN.xc,(jC (T.BN.kit T.dN.self (A7 T.gB 6 rfl)) (jC (T.p9.kit T.dN.self (A7 T.gB 5 rfl)) (jC (T.Ad.kit T.dN.self (A7 T.gB 4 rfl)) (jC (T.C4.kit T.dN.self (A7 T.gB 1 rfl)) (jC (T.Ae.kit T.dN.self (A7 T.gB 3 rfl)) Aa)))))⟩
  .exact⟨t.b6,T.eS.xc,(jC (T.BN.kit T.eS.self (A7 T.jX 6 rfl)) (Fy (T.p9.kit T.eS.self (A7 T.jX 5 rfl))))⟩
def Ee(T:Txt K mg t):vj K Ef (.type "ValueError") :=
 ik (p:=λ_ C b=>Yi K (.ref C) (.type "ValueError")=some b) λq hq=>by
  simp only[UI,Vq,or_false]at hq;rcases hq with rfl|rfl
  .exact⟨t.cj,T.dN.xc,z9 rg T.dN.ve⟩
  .exact⟨t.b6,T.eS.xc,z9 rg T.eS.ve⟩
def Ec(T:Txt K mg t):vj K Ed (.ref t.cj) :=
 ik (p:=λ_ C b=>Yi K (.ref C) (.ref t.cj)=some b) λq hq=>by
  simp only[UI,Vq,or_false]at hq;rcases hq with rfl|rfl
  .exact⟨t.cj,T.dN.xc,T.BO.kit T.dN.self (A7 T.gB 2 rfl)⟩
  .exact⟨t.b6,T.eS.xc,T.BO.kit T.eS.self (A7 T.jX 2 rfl)⟩
def yB(T:Txt K mg t):K9 K BQ "at" :=
 ik (p:=λ_ C _=>W0 K C=true/\ko K C "at") λq hq=>by
  simp only[UI,Vq,or_false]at hq;rcases hq with rfl|rfl
  .exact⟨t.cj,T.dN.xc,T.kG.hd,T.kG.no _ (by decide)⟩
  .exact⟨t.b6,T.eS.xc,T.kF.hd,T.kF.no _ (by decide)⟩
def md(T:Txt K mg t):FnOk P w K mg base CX0 1 t.fY t.rz ["self","at"] (Em K ["at"]) :=
 KR T.GP CF rfl (by decide) λcdv A outer s0 H E=>(Kv (i:=1) T.oy rfl T.mf (vJ (i:=1) rfl (UB rfl) EI) rfl rfl (UB rfl) (UB rfl) DV)
def ma(T:Txt K mg t):FnOk P w K mg base CX0 1 t.fX t.rq ["self","at"] (Em K ["at"]) :=
 KR T.GO CD rfl (by decide) λcdv A outer s0 H E=>(Kv (i:=1) T.oy rfl T.mf (vJ (i:=1) rfl (UB rfl) EI) rfl rfl (UB rfl) (UB rfl) DV)
def qT(T:Txt K mg t):eR P w K mg base CX0 1 (t.A 0) (t.Q 0) ["_law_script","_law_k"] (O2 K 2 cL) "_law_begun" (top 73) :=
 oF T.g sc (i:=0) rfl λ_ _ _ _ _ _ _ _=>(
 (uS (bB (i:=2) (nd 0) rfl (UB rfl) aj)
 (uS (bJ (aW qI (dw λ_ _ _ _=>rb _) (dv 1) (aX bG cD rfl T.n_len PyProof.Rows.Boot.«len» (aa (dv 0) aq)) nm)
 (ai (bB (i:=2) (nd 0) rfl (UB rfl) (av (dv 0) (dv 1)))
 ak)
 ak)
 (Dh (iL (aa (dv 2) (aa (gS (cE (cE (gS (dv 2) aj) (dH (dH aj (dv 1)) (dv 1))) aj) aj) (aa (eC Bs (dw λ_ _ _ _=>rb _) (dv 2) (wI aj aj) nm) aq))))))))
def aN(T:Txt K mg t):eR P w K mg base CX0 1 (t.A 1) (t.Q 1) ["_law_state","_law_many"] (DJ K 1 aF) "_law_take" (top 74) :=
 oM T.g sc (i:=1) rfl rfl λ_ _ _ _ _ _ _ _ _ _=>(
 (aC (kK (Ge (i:=0) (E:=E0) (bA (av (dv 0) aj)))
 (aC (cJ (i:=2) (nd 1) rfl (UB rfl) (m8 (i:=0) (E:=E0) (gS (av (dv 0) aj) (dv 1))))
 (aC (zw (i:=0) rfl (UB rfl) (m8 (i:=0) (E:=E0) (n9 (av (dv 0) aj) (dv 1))) (aK (E:=E0) aj))
 (aC (zw (i:=0) rfl (UB rfl) (m8 (i:=0) (E:=E0) (eC uC (dw λ_ _ _ _=>rb _) (av (dv 0) aj) aj nm)) (aK (E:=E0) aj))
 (aC (fP (E:=E0) (dv 2))
 bF))))
 bF)
 (aC (cK (E:=E0) λvs=>(bB (i:=3) (nd 1) rfl (UB rfl) aj))
 (aC (pS (E:=E0) Vo rfl (p7 (E:=E0) (jF rfl T.n_range (cE aj (dH aj (ng u5 Gu rfl T.n_int PyProof.Rows.Boot.«int» (aa (eC uC (dw λ_ _ _ _=>rb _) (dv 1) (wI aj aj) nm) aq)))))) (λvs=>(cC (i:=4) (nd 1) rfl (UB rfl))) dk
 (aC (zw (i:=0) rfl (UB rfl) (m8 (i:=0) (E:=E0) (gS (cE (dH (av (dv 0) aj) aj) aj) aj)) (aK (E:=E0) aj))
 (aC (cJ (i:=3) (nd 1) rfl (UB rfl) (m8 (i:=0) (E:=E0) (cE (dH (dv 3) aj) (gS (dH (av (dv 0) aj) (av (dv 0) aj)) aj))))
 bF)))
 (aC (fP (E:=E0) (gS (n9 (dv 3) aj) (dv 1)))
 bF)))))
def tQ(T:Txt K mg t):eR P w K mg base CX0 2 (t.A 2) (t.Q 2) ["_law_state","_law_many"] (DJ K 1 eU) "_law_names" (top 77) :=
 oM T.g sc (i:=2) rfl rfl λ_ _ _ _ H He _ _ _ hr=>(
 (aC (HF (i:=2) (nd 2) rfl rfl (PQ (E:=E0) ["_law_k","_law_state"] 1 [0] rfl (p7 (E:=E0) (jF rfl T.n_range aj)) (eK (by decide)) (λs H C fp pn=>⟨λHe η=>(cC (i:=0) (show VB (["_law_k","_law_state"]:bi) from by decide) rfl (UB rfl)),λHe η=>(rM 1 (aN T) hr (aM (aK (E:=E0) aj) aU))⟩) ⟨rfl,rfl⟩ rfl rfl rfl rfl) sA)
 (aC (cJ (i:=3) (nd 2) rfl (UB rfl) (iJ (aK (E:=E0) aj) (rM 0 (aN T) hr (aM (aK (E:=E0) aj) aU))))
 (aC (cJ (i:=4) (nd 2) rfl (UB rfl) (rM 0 (aN T) hr (aM (aK (E:=E0) (dv 3)) aU)))
 (aC (cJ (i:=5) (nd 2) rfl (UB rfl) (rM 0 (aN T) hr (aM (aK (E:=E0) aj) aU)))
 (aC (cJ (i:=6) (nd 2) rfl (UB rfl) (jb (aK (E:=E0) (cg (aa aj (aa aj (aa aj (aa aj (aa aj (aa aj aq)))))))) (rM 0 (aN T) hr (aM (aK (E:=E0) aj) aU))))
 (aC (cJ (i:=7) (nd 2) rfl (UB rfl) (NA (E:=E0) (cO hr.units) dW (rM 0 (aN T) hr (aM (aK (E:=E0) aj) aU)) (aK (E:=E0) aj) nm))
 (aC (cK (E:=E0) λvs=>(gR (i:=8) (nd 2) rfl (UB rfl) (iL aq)))
 (aC (cK (E:=E0) λvs=>(m7 Vo rfl rfl T.n_range (dv 1) (cC (i:=9) (nd 2) rfl (UB rfl)) dk
 (ai (gR (i:=10) (nd 2) rfl (UB rfl) (yO (dv 2) eJ (eI (dv 3))))
 (ai (Ny (i:=10) rfl (UB rfl) (gS (cE (dv 5) (dH (dv 6) (dv 9))) aj) (dv 4))
 (ai (bJ (bA (dv 7))
 (ai (gR (i:=10) (nd 2) rfl (UB rfl) (yO (dv 2) eJ (eI (cE aj (gS (cE (dv 5) (dv 9)) aj)))))
 ak)
 ak)
 (ai (Av 10 (gz (i:=8) rfl (UB rfl) (J7 dG (aa (jG (nh ["_law_letter"] 1 [] rfl (fq (dv 10)) (eK (by decide)) (λs H C fp pn=>⟨λHe η=>(cC (i:=0) (show VB (["_law_letter"]:bi) from by decide) rfl (UB rfl)),eX,(av dG (dv 0))⟩) ⟨rfl,rfl⟩ rfl rfl rfl rfl)) aq))))
 ak))))))
 (aC (fP (E:=E0) (dv 8))
 bF))))))))))
def gJ(T:Txt K mg t):eR P w K mg base CX0 1 (t.A 3) (t.Q 3) ["_law_top","_law_bottom"] (spD K 2 bg) "_law_low" (top 75) :=
 oD T.g sc (i:=3) rfl λ_ _ _ _ _ _ _ hr=>(
 (ai (bB (i:=2) (nd 3) rfl (UB rfl) (aX sJ AE rfl T.n_abs PyProof.Rows.Boot.«abs» (aa (dv 0) aq)))
 (ai (bB (i:=3) (nd 3) rfl (UB rfl) (dv 1))
 (ai (rW _ Vo (aW (eM hr.units) gK (dv 3) aj nm)
 (ai (Nz (i:=2) (j:=3) rfl (nd 3) rfl rfl (by decide) rfl rfl (aa (dv 3) (aa (gS (dv 2) (dv 3)) aq)) rfl)
 ak))
 (ai (aS (bV (aa (n9 (dv 0) (dv 2)) (aa (n9 (dv 1) (dv 2)) aq))))
 ak)))))
def kR(T:Txt K mg t):eR P w K mg base CX0 2 (t.A 4) (t.Q 4) ["_law_state","_law_least"] (DJ K 1 dD) "_law_amount" (top 76) :=
 oM T.g sc (i:=4) rfl rfl λ_ _ _ _ _ _ _ _ _ hr=>(
 (aC (cJ (i:=2) (nd 4) rfl (UB rfl) (rM 0 (aN T) hr (aM (aK (E:=E0) aj) aU)))
 (aC (cJ (i:=3) (nd 4) rfl (UB rfl) (iJ (aK (E:=E0) (dv 1)) (rM 0 (aN T) hr (aM (aK (E:=E0) (av (cg (aa aj (aa aj (aa aj (aa aj (aa aj (aa (wI aj aj) aq))))))) (dv 2))) aU))))
 (aC (cK (E:=E0) λvs=>(bB (i:=4) (nd 4) rfl (UB rfl) (av (cg (aa aj (aa aj (aa aj (aa aj (aa aj (aa aj aq))))))) (dv 2))))
 (aC (cK (E:=E0) λvs=>(bB (i:=5) (nd 4) rfl (UB rfl) (cg (aa aj (aa aj (aa aj (aa aj (aa aj (aa aj (aa aj (aa aj (aa aj (aa aj (aa aj (aa aj aq)))))))))))))))
 (aC (qr (To (gJ T) hr (aM (aK (E:=E0) (dv 3)) (aM (jb (aK (E:=E0) (dv 5)) (rM 0 (aN T) hr (aM (aK (E:=E0) (dv 4)) aU))) aU))))
 bF))))))
def yc(T:Txt K mg t):eR P w K mg base CX0 3 (t.A 5) (t.Q 5) ["_law_state","_law_names_here","_law_k"] (DJ K 2 fA) "_law_tie" (top 78) :=
 oM T.g sc (i:=5) rfl rfl λ_ _ _ _ _ _ _ _ _ hr=>(
 (aC (cK (E:=E0) λvs=>(bB (i:=3) (nd 5) rfl (UB rfl) (aX bG cD rfl T.n_len PyProof.Rows.Boot.«len» (aa (dv 1) aq))))
 (aC (cJ (i:=4) (nd 5) rfl (UB rfl) (rM 0 (aN T) hr (aM (aK (E:=E0) (dv 3)) aU)))
 (aC (cJ (i:=5) (nd 5) rfl (UB rfl) (Gf (iJ (aK (E:=E0) (cE (dv 4) aj)) (rM 0 (aN T) hr (aM (aK (E:=E0) (rY (dv 3) aj)) aU))) (aK (E:=E0) (dv 3))))
 (aC (kK (wF (E:=E0) (cO hr.units) dW (rM 0 (aN T) hr (aM (aK (E:=E0) aj) aU)) (aK (E:=E0) aj) nm)
 (aC (cK (E:=E0) λvs=>(bB (i:=4) (nd 5) rfl (UB rfl) (gS (dv 2) (dv 3))))
 (aC (cK (E:=E0) λvs=>(bB (i:=5) (nd 5) rfl (UB rfl) (gS (cE (dv 2) aj) (dv 3))))
 bF))
 bF)
 (aC (cJ (i:=6) (nd 5) rfl (UB rfl) (jb (aK (E:=E0) (cg (aa dG (aa dG aq)))) (rM 0 (aN T) hr (aM (aK (E:=E0) aj) aU))))
 (aC (cJ (i:=7) (nd 5) rfl (UB rfl) (rM 0 (kR T) hr (aM (aK (E:=E0) aj) aU)))
 (aC (cJ (i:=8) (nd 5) rfl (UB rfl) (rM 0 (kR T) hr (aM (aK (E:=E0) aj) aU)))
 (aC (kK (wF (E:=E0) (cO hr.units) dW (rM 0 (aN T) hr (aM (aK (E:=E0) aj) aU)) (aK (E:=E0) aj) nm)
 (aC (cK (E:=E0) λvs=>(bB (i:=8) (nd 5) rfl (UB rfl) cP))
 bF)
 bF)
 (aC (fP (E:=E0) (bV (aa (av (dv 1) (dv 4)) (aa (av (dv 1) (dv 5)) (aa (dv 6) (aa (dv 7) (aa (dv 8) aq)))))))
 bF))))))))))
def yb(T:Txt K mg t):eR P w K mg base CX0 4 (t.A 6) (t.Q 6) ["_law_state","_law_most","_law_more"] (DJ K 2 fz) "_law_web" (top 79) :=
 oM T.g sc (i:=6) rfl rfl λ_ _ _ _ _ _ _ _ _ hr=>(
 (aC (cJ (i:=3) (nd 6) rfl (UB rfl) (rM 0 (tQ T) hr (aM (iJ (aK (E:=E0) aj) (rM 0 (aN T) hr (aM (aK (E:=E0) (rY (dv 1) aj)) aU))) aU)))
 (aC (cK (E:=E0) λvs=>(bB (i:=4) (nd 6) rfl (UB rfl) (aX bG cD rfl T.n_len PyProof.Rows.Boot.«len» (aa (dv 3) aq))))
 (aC (cK (E:=E0) λvs=>(gR (i:=5) (nd 6) rfl (UB rfl) (iL aq)))
 (aC (pS (E:=E0) Vo rfl (uE rfl T.n_range (rM 0 (aN T) hr (aM (aK (E:=E0) (cE (dv 2) aj)) aU))) (λvs=>(cC (i:=6) (nd 6) rfl (UB rfl))) dk
 (aC (ur (i:=5) rfl (UB rfl) (rM 0 (yc T) hr (aM (aK (E:=E0) (dv 3)) (aM (aK (E:=E0) (dv 6)) aU))))
 bF))
 (aC (cK (E:=E0) λvs=>(bB (i:=7) (nd 6) rfl (UB rfl) aj))
 (aC (cK (E:=E0) λvs=>(bB (i:=8) (nd 6) rfl (UB rfl) (rY (dv 4) aj)))
 (aC (kK (wF (E:=E0) (cO hr.units) dW (rM 0 (aN T) hr (aM (aK (E:=E0) aj) aU)) (aK (E:=E0) aj) nm)
 (aC (cJ (i:=7) (nd 6) rfl (UB rfl) (rM 0 (aN T) hr (aM (aK (E:=E0) (dv 4)) aU)))
 (aC (cJ (i:=8) (nd 6) rfl (UB rfl) (Gf (iJ (aK (E:=E0) (cE (dv 7) aj)) (rM 0 (aN T) hr (aM (aK (E:=E0) (rY (dv 4) aj)) aU))) (aK (E:=E0) (dv 4))))
 bF))
 bF)
 (aC (fP (E:=E0) (bV (aa (dv 3) (aa (dv 5) (aa (av (dv 3) (dv 7)) (aa (av (dv 3) (dv 8)) aq))))))
 bF)))))))))
def qS(T:Txt K mg t):eR P w K mg base CX0 2 (t.A 7) (t.Q 7) ["_law_state","_law_some"] (DJ K 1 cq) "_law_shares" (top 86) :=
 oM T.g sc (i:=7) rfl rfl λ_ _ _ _ H He _ _ _ hr=>(
 (aC (cK (E:=E0) λvs=>(gR (i:=2) (nd 7) rfl (UB rfl) (J5 rfl T.n_list (aa (dv 1) aq))))
 (aC (cK (E:=E0) λvs=>(gR (i:=3) (nd 7) rfl (UB rfl) (iL aq)))
 (aC (pS (E:=E0) Vo rfl (uE rfl T.n_range (Gh (E:=E0) (u4 rfl) Gs rfl T.n_min PyProof.Rows.Boot.«min» (aM (aK (E:=E0) (aX bG cD rfl T.n_len PyProof.Rows.Boot.«len» (aa (dv 1) aq))) (aM (iJ (aK (E:=E0) aj) (rM 0 (aN T) hr (aM (aK (E:=E0) aj) aU))) aU)))) (λvs=>(cC (i:=4) (nd 7) rfl (UB rfl))) dk
 (aC (CB (i:=5) (j:=2) (nd 7) rfl (UB rfl) rfl (UB rfl) (rM 0 (aN T) hr (aM (J2 (E:=E0) (aX bG cD rfl T.n_len PyProof.Rows.Boot.«len» (aa (dv 2) aq))) aU)))
 (aC (cJ (i:=6) (nd 7) rfl (UB rfl) (jb (aK (E:=E0) (cg (aa aj (aa aj (aa (wI aj aj) aq))))) (rM 0 (aN T) hr (aM (aK (E:=E0) aj) aU))))
 (aC (ur (i:=3) rfl (UB rfl) (wG (aM (aK (E:=E0) (dv 5)) (aM (iJ (aK (E:=E0) aj) (rM 0 (aN T) hr (aM (aK (E:=E0) (dv 6)) aU))) aU))))
 bF))))
 (aC (cK (E:=E0) λvs=>(Av 3 (bB (i:=7) (nd 7) rfl (YI rfl) (aX (Dr rfl) NR rfl T.n_sum PyProof.Rows.Boot.«sum» (aa (jG (nh ["_law_way","_law_many"] 2 [] rfl (fq (dv 3)) (kI (by decide)) (λs H C fp pn=>⟨λHe η=>(iK rfl (bR (i:=0) (show VB (["_law_way","_law_many"]:bi) from by decide) rfl (UB rfl) (bR (i:=1) (show VB (["_law_way","_law_many"]:bi) from by decide) rfl (UB rfl) eY))),eX,(dv 1)⟩) ⟨rfl,rfl⟩ rfl rfl rfl rfl)) aq)))))
 (aC (fP (E:=E0) (jG (nh ["_law_way","_law_many","_law_total"] 2 [7] rfl (fq (dv 3)) (kI (by decide)) (λs H C fp pn=>⟨λHe η=>(iK rfl (bR (i:=0) (show VB (["_law_way","_law_many","_law_total"]:bi) from by decide) rfl (UB rfl) (bR (i:=1) (show VB (["_law_way","_law_many","_law_total"]:bi) from by decide) rfl (UB rfl) eY))),eX,(bV (aa (dv 0) (aa (rC (gJ T) hr (aa (dv 1) (aa (dv 2) aq))) aq)))⟩) ⟨rfl,rfl⟩ rfl rfl rfl rfl)))
 bF))))))
def lS(T:Txt K mg t):eR P w K mg base CX0 1 (t.A 8) (t.Q 8) ["_law_tie_here","_law_here"] (spD K 2 bN) "_law_there" (top 81) :=
 oD T.g sc (i:=8) rfl λ_ _ _ _ _ _ _ hr=>(
 (ai (bJ (aW (cO hr.units) dW (av (dv 0) aj) (dv 1) nm)
 (ai (aS (av (dv 0) aj))
 ak)
 ak)
 (ai (bJ (DW.dt (n8 (aW (cO hr.units) dW (av (dv 0) aj) (dv 1) nm) (ke (aW (cO hr.units) dW (av (dv 0) aj) dG nm))))
 (ai (aS (av (dv 0) aj))
 ak)
 ak)
 (ai (aS cP)
 ak))))
def nT(T:Txt K mg t):eR P w K mg base CX0 2 (t.A 9) (t.Q 9) ["_law_web_here","_law_gone"] (spD K 2 cw) "_law_all_ways" (top 85) :=
 oD T.g sc (i:=9) rfl λ_ _ _ _ _ _ _ hr=>(
 (ai (gR (i:=2) (nd 9) rfl (UB rfl) (iL (aa (bV (aa (cg aq) (aa (cg (aa (av (dv 0) aj) aq)) aq))) aq)))
 (ai (gR (i:=3) (nd 9) rfl (UB rfl) (iL aq))
 (ai (rW _ Vo (aW (eM hr.units) gK (dv 2) (cg aq) nm)
 (ai (Di (i:=2) rfl rfl (UB rfl) (bR (i:=4) (nd 9) rfl (UB rfl) (bR (i:=5) (nd 9) rfl (UB rfl) eY)))
 (ai (bJ (aW (cO hr.units) dW (av (dv 5) (kU aj)) (av (dv 0) aj) nm)
 (ai (gz (i:=3) rfl (UB rfl) (dv 4))
 ak)
 (ai (m7 Vo rfl rfl T.n_range (aX bG cD rfl T.n_len PyProof.Rows.Boot.«len» (aa (av (dv 0) aj) aq)) (cC (i:=6) (nd 9) rfl (UB rfl)) dk
 (ai (bB (i:=7) (nd 9) rfl (UB rfl) (rC (lS T) hr (aa (av (av (dv 0) aj) (dv 6)) (aa (av (dv 5) (kU aj)) aq))))
 (ai (bJ (DW.dt (n8 (aW Bq Bv (dv 7) cP nm) (n8 (aW (iz hr.units) iC (dv 7) (dv 5) rfl) (ke (aW (iz hr.units) iC (dv 6) (dv 1) rfl)))))
 (ai (gz (i:=2) rfl (UB rfl) (bV (aa (cE (dv 4) (cg (aa (dv 6) aq))) (aa (cE (dv 5) (cg (aa (dv 7) aq))) aq))))
 ak)
 ak)
 ak)))
 ak))
 ak)))
 (ai (aS (dv 3))
 ak)))))
def mG(T:Txt K mg t):eR P w K mg base CX0 1 (t.A 10) (t.Q 10) ["_law_web_here","_law_one"] (spD K 2 bf) "_law_is_number" (top 82) :=
 oD T.g sc (i:=10) rfl λ_ _ _ _ _ _ _ _=>(
 (ai (bJ (DW.dt (c6 (bP (bA (bQ l7 rfl T.n_isinstance rfl T.n_int PyProof.Rows.Boot.«int» (dv 1)))) (bj (bA (bQ i6 rfl T.n_isinstance rfl T.n_bool PyProof.Rows.Boot.«bool» (dv 1))))))
 (ai (aS fZ)
 ak)
 ak)
 (ai (aS (yP qJ qI (fE λ_ _ _ _=>rb _) (fE λ_ _ _ _=>rb _) fG fG aj (dv 1) (aX bG cD rfl T.n_len PyProof.Rows.Boot.«len» (aa (av (dv 0) aj) aq))))
 ak)))
def tP(T:Txt K mg t):eR P w K mg base CX0 2 (t.A 11) (t.Q 11) ["_law_web_here","_law_gone","_law_thing"] (spD K 3 bD) "_law_wrong" (top 83) :=
 oD T.g sc (i:=11) rfl λ_ _ _ _ _ _ _ hr=>(
 (ai (bJ (bP (bA (bQ dY rfl T.n_isinstance rfl T.n_list PyProof.Rows.Boot.«list» (dv 2))))
 (ai (aS (bV (aa dG (aa cP aq))))
 ak)
 ak)
 (ai (bB (i:=3) (nd 11) rfl (UB rfl) (av (dv 0) aj))
 (ai (gR (i:=4) (nd 11) rfl (UB rfl) (iL (aa (dv 3) aq)))
 (ai (m7 Vo rfl rfl T.n_range (aX bG cD rfl T.n_len PyProof.Rows.Boot.«len» (aa (dv 2) aq)) (cC (i:=5) (nd 11) rfl (UB rfl)) dk
 (ai (bB (i:=6) (nd 11) rfl (UB rfl) (av (dv 2) (dv 5)))
 (ai (bB (i:=7) (nd 11) rfl (UB rfl) cP)
 (ai (bJ (DW.dt (n8 (aW (eM hr.units) gK (dv 3) (av (dv 0) aj) nm) (n8 (bA (rC (mG T) hr (aa (dv 0) (aa (dv 6) aq)))) (ke (aW (iz hr.units) iC (dv 6) (dv 1) rfl)))))
 (ai (bB (i:=7) (nd 11) rfl (UB rfl) (rC (lS T) hr (aa (av (av (dv 0) aj) (dv 6)) (aa (dv 3) aq))))
 ak)
 ak)
 (ai (bJ (DW.dt (c6 (aW qK qU (dv 7) cP nm) (bj (aW (oG hr.units) oN (dv 7) (dv 4) rfl))))
 (ai (aS (bV (aa dG (aa (dv 5) aq))))
 ak)
 ak)
 (ai (bB (i:=3) (nd 11) rfl (UB rfl) (dv 7))
 (ai (gz (i:=4) rfl (UB rfl) (dv 3))
 ak)))))))
 (ai (bJ (aW (eM hr.units) gK (dv 3) (av (dv 0) aj) nm)
 (ai (aS (bV (aa dG (aa (aX bG cD rfl T.n_len PyProof.Rows.Boot.«len» (aa (dv 2) aq)) aq))))
 ak)
 ak)
 (ai (aS (bV (aa dG (aa (dv 4) aq))))
 ak)))))))
def mH(T:Txt K mg t):eR P w K mg base CX0 2 (t.A 12) (t.Q 12) ["_law_thing"] (spD K 1 bS) "_law_is_length" (top 84) :=
 oD T.g sc (i:=12) rfl λ_ _ _ _ _ _ _ hr=>(
 (ai (bJ (DW.dt (c6 (bP (bA (bQ eW rfl T.n_isinstance rfl T.n_tuple PyProof.Rows.Boot.«tuple» (dv 0)))) (bj (aW (eM hr.units) gK (aX bG cD rfl T.n_len PyProof.Rows.Boot.«len» (aa (dv 0) aq)) aj nm))))
 (ai (aS fZ)
 ak)
 ak)
 (ai (lE Vo rfl (NF (dv 0)) (cC (i:=1) (nd 12) rfl (UB rfl)) dk
 (ai (bJ (DW.dt (c6 (bP (bA (bQ l7 rfl T.n_isinstance rfl T.n_int PyProof.Rows.Boot.«int» (dv 1)))) (bj (bA (bQ i6 rfl T.n_isinstance rfl T.n_bool PyProof.Rows.Boot.«bool» (dv 1))))))
 (ai (aS fZ)
 ak)
 ak)
 ak))
 (ai (aS (gT (eC Bs (dw λ_ _ _ _=>rb _) (av (dv 0) aj) aj nm) (gT (eC uC (dw λ_ _ _ _=>rb _) (av (dv 0) aj) aj nm) (iM (eC (cO hr.units) dW (rC (gJ T) hr (aa (av (dv 0) aj) (aa (av (dv 0) aj) aq))) (dv 0) nm)))))
 ak))))
def vV(T:Txt K mg t):eR P w K mg base CX0 2 (t.A 13) (t.Q 13) ["_law_one","_law_other"] (spD K 2 cX) "_law_plus" (top 80) :=
 oD T.g sc (i:=13) rfl λ_ _ _ _ _ _ _ hr=>(
 (ai (aS (rC (gJ T) hr (aa (cE (dH (av (dv 0) aj) (av (dv 1) aj)) (dH (av (dv 1) aj) (av (dv 0) aj))) (aa (dH (av (dv 0) aj) (av (dv 1) aj)) aq))))
 ak))
def mF(T:Txt K mg t):eR P w K mg base CX0 3 (t.A 14) (t.Q 14) ["_law_web_here","_law_thing"] (spD K 2 bO) "_law_mix_wrong" (top 87) :=
 oD T.g sc (i:=14) rfl λ_ _ _ _ H _ _ hr=>(
 (ai (bJ (bP (bA (bQ dY rfl T.n_isinstance rfl T.n_list PyProof.Rows.Boot.«list» (dv 1))))
 (ai (aS (bV (aa dG (aa cP aq))))
 ak)
 ak)
 (ai (bB (i:=2) (nd 14) rfl (UB rfl) (bV (aa aj (aa aj aq))))
 (ai (m7 Vo rfl rfl T.n_range (aX bG cD rfl T.n_len PyProof.Rows.Boot.«len» (aa (dv 1) aq)) (cC (i:=3) (nd 14) rfl (UB rfl)) dk
 (ai (bB (i:=4) (nd 14) rfl (UB rfl) (av (dv 1) (dv 3)))
 (ai (bJ (DW.dt (c6 (bP (bA (bQ eW rfl T.n_isinstance rfl T.n_tuple PyProof.Rows.Boot.«tuple» (dv 4)))) (c6 (aW (eM hr.units) gK (aX bG cD rfl T.n_len PyProof.Rows.Boot.«len» (aa (dv 4) aq)) aj nm) (bj (aW (eM hr.units) gK (av (rC (tP T) hr (aa (dv 0) (aa (cg aq) (aa (av (dv 4) aj) aq)))) aj) dG nm)))))
 (ai (aS (bV (aa dG (aa (dv 3) aq))))
 ak)
 ak)
 (ai (bJ (aW (oG hr.units) oN (av (dv 4) aj) (jG (nh ["_law_other"] 1 [] rfl (fq (dq (dv 1) eJ (eI (dv 3)))) (eK (by decide)) (λs H C fp pn=>⟨λHe η=>(cC (i:=0) (show VB (["_law_other"]:bi) from by decide) rfl (UB rfl)),eX,(av (dv 0) aj)⟩) ⟨rfl,rfl⟩ rfl rfl rfl rfl)) rfl)
 (ai (aS (bV (aa dG (aa (dv 3) aq))))
 ak)
 ak)
 (ai (bJ (DW.dt (c6 (bP (bA (rC (mH T) hr (aa (av (dv 4) aj) aq)))) (bj (aW (cO hr.units) dW (av (av (dv 4) aj) aj) aj nm))))
 (ai (aS (bV (aa dG (aa (dv 3) aq))))
 ak)
 ak)
 (ai (bB (i:=2) (nd 14) rfl (UB rfl) (rC (vV T) hr (aa (dv 2) (aa (av (dv 4) aj) aq))))
 ak))))))
 (ai (bJ (aW (eM hr.units) gK (dv 2) (bV (aa aj (aa aj aq))) nm)
 (ai (aS (bV (aa dG (aa cP aq))))
 ak)
 ak)
 (ai (aS cP)
 ak))))))
def jY(T:Txt K mg t):eR P w K mg base CX0 1 (t.A 15) (t.Q 15) ["thing"] (spD K 1 m_is_name) "is_name" (top 18) :=
 oD T.g sc (i:=15) rfl λ_ _ _ _ H _ _ hr=>(
 (ai (bJ (DW.dt (c6 (bP (bA (bQ rf rfl T.n_isinstance rfl T.n_str PyProof.Rows.Boot.«str» (dv 0)))) (bj (bP (yN qJ qJ (fE λ_ _ _ _=>rb _) (fE λ_ _ _ _=>rb _) fG fG aj (aX bG cD rfl T.n_len PyProof.Rows.Boot.«len» (aa (dv 0) aq)) (bu T.iQ rfl))))))
 (ai (aS fZ)
 ak)
 ak)
 (ai (aS (aX (yZ rfl) Gv rfl T.n_all PyProof.Rows.Boot.«all» (aa (jG (nh ["sign"] 1 [] rfl (NG (dv 0)) (eK (by decide)) (λs H C fp pn=>⟨λHe η=>(cC (i:=0) (show VB (["sign"]:bi) from by decide) rfl (UB rfl)),eX,(eC (oG hr.units) oN (dv 0) (bu T.oo rfl) rfl)⟩) ⟨rfl,rfl⟩ rfl rfl rfl rfl)) aq)))
 ak)))
def mC(T:Txt K mg t):eR P w K mg base CX0 2 (t.A 16) (t.Q 16) ["places"] (spD K 1 m_look_at_places) "look_at_places" (top 48) :=
 oD T.g sc (i:=16) rfl λ_ _ _ _ _ _ _ hr=>(
 (ai (bJ (DW.dt (c6 (bP (bA (bQ dY rfl T.n_isinstance rfl T.n_list PyProof.Rows.Boot.«list» (dv 0)))) (bj (bP (yN qJ qJ (fE λ_ _ _ _=>rb _) (fE λ_ _ _ _=>rb _) fG fG (bu T.gU rfl) (aX bG cD rfl T.n_len PyProof.Rows.Boot.«len» (aa (dv 0) aq)) (bu T.jk rfl))))))
 (ai da
 ak)
 ak)
 (ai (lE Vo rfl (nc rfl T.n_enumerate (dv 0)) (iK rfl (bR (i:=1) (nd 16) rfl (UB rfl) (bR (i:=2) (nd 16) rfl (UB rfl) eY))) ij
 (ai (bJ (DW.dt (c6 (bP (bA (rC (jY T) hr (aa (dv 2) aq)))) (bj (aW (oG hr.units) oN (dv 2) (dq (dv 0) eJ (eI (dv 1))) rfl))))
 (ai da
 ak)
 ak)
 ak))
 ak)))
def gG(T:Txt K mg t):eR P w K mg base CX0 1 (t.A 17) (t.Q 17) ["thing"] (spD K 1 m_is_whole) "is_whole" (top 16) :=
 oD T.g sc (i:=17) rfl λ_ _ _ _ _ _ _ _=>(
 (ai (aS (gT (bQ l7 rfl T.n_isinstance rfl T.n_int PyProof.Rows.Boot.«int» (dv 0)) (iM (NK (bQ i6 rfl T.n_isinstance rfl T.n_bool PyProof.Rows.Boot.«bool» (dv 0))))))
 ak))
def i4(T:Txt K mg t):eR P w K mg base CX0 1 (t.A 18) (t.Q 18) ["one","other"] (spD K 2 m_common_divisor) "common_divisor" (top 12) :=
 oD T.g sc (i:=18) rfl λ_ _ _ _ _ _ _ hr=>(
 (ai (bB (i:=2) (nd 18) rfl (UB rfl) (aX sJ AE rfl T.n_abs PyProof.Rows.Boot.«abs» (aa (dv 0) aq)))
 (ai (bB (i:=3) (nd 18) rfl (UB rfl) (aX sJ AE rfl T.n_abs PyProof.Rows.Boot.«abs» (aa (dv 1) aq)))
 (ai (rW _ Vo (aW (eM hr.units) gK (dv 3) aj nm)
 (ai (bB (i:=4) (nd 18) rfl (UB rfl) (gS (dv 2) (dv 3)))
 (ai (bB (i:=2) (nd 18) rfl (UB rfl) (dv 3))
 (ai (bB (i:=3) (nd 18) rfl (UB rfl) (dv 4))
 ak))))
 (ai (aS (dv 2))
 ak)))))
def gH(T:Txt K mg t):eR P w K mg base CX0 2 (t.A 19) (t.Q 19) ["thing"] (spD K 1 m_is_ratio) "is_ratio" (top 17) :=
 oD T.g sc (i:=19) rfl λ_ _ _ _ _ _ _ hr=>(
 (ai (bJ (DW.dt (c6 (bP (bA (bQ eW rfl T.n_isinstance rfl T.n_tuple PyProof.Rows.Boot.«tuple» (dv 0)))) (bj (aW (eM hr.units) gK (aX bG cD rfl T.n_len PyProof.Rows.Boot.«len» (aa (dv 0) aq)) aj nm))))
 (ai (aS fZ)
 ak)
 ak)
 (ai (bJ (DW.dt (c6 (bP (bA (rC (gG T) hr (aa (av (dv 0) aj) aq)))) (bj (bP (bA (rC (gG T) hr (aa (av (dv 0) aj) aq)))))))
 (ai (aS fZ)
 ak)
 ak)
 (ai (aS (gT (eC Bs (dw λ_ _ _ _=>rb _) (av (dv 0) aj) aj nm) (iM (eC (cO hr.units) dW (rC (i4 T) hr (aa (av (dv 0) aj) (aa (av (dv 0) aj) aq))) aj nm))))
 ak))))
def mE(T:Txt K mg t):eR P w K mg base CX0 3 (t.A 20) (t.Q 20) ["thing"] (spD K 1 m_is_length) "is_length" (top 43) :=
 oD T.g sc (i:=20) rfl λ_ _ _ _ _ _ _ hr=>(
 (ai (aS (gT (rC (gH T) hr (aa (dv 0) aq)) (iM (eC Bs (dw λ_ _ _ _=>rb _) (av (dv 0) aj) aj nm))))
 ak))
def ya(T:Txt K mg t):eR P w K mg base CX0 3 (t.A 21) (t.Q 21) ["thing"] (spD K 1 m_is_worth) "is_worth" (top 44) :=
 oD T.g sc (i:=21) rfl λ_ _ _ _ _ _ _ hr=>(
 (ai (aS (Q4 (eC qK qU (dv 0) cP nm) (iM (gT (rC (gH T) hr (aa (dv 0) aq)) (iM (eC uC (dw λ_ _ _ _=>rb _) (av (dv 0) aj) aj nm))))))
 ak))
def CO(T:Txt K mg t):eR P w K mg base CX0 4 (t.A 22) (t.Q 22) ["thing"] (spD K 1 m_is_tie) "is_tie" (top 42) :=
 oD T.g sc (i:=22) rfl λ_ _ _ _ _ _ _ hr=>(
 (ai (bJ (DW.dt (c6 (bP (bA (bQ eW rfl T.n_isinstance rfl T.n_tuple PyProof.Rows.Boot.«tuple» (dv 0)))) (bj (aW (eM hr.units) gK (aX bG cD rfl T.n_len PyProof.Rows.Boot.«len» (aa (dv 0) aq)) aj nm))))
 (ai (aS fZ)
 ak)
 ak)
 (ai (bJ (DW.dt (c6 (bP (bA (rC (jY T) hr (aa (av (dv 0) (bu T.sO rfl)) aq)))) (c6 (bP (bA (rC (jY T) hr (aa (av (dv 0) (bu T.ki rfl)) aq)))) (bj (aW (cO hr.units) dW (av (dv 0) (bu T.sO rfl)) (av (dv 0) (bu T.ki rfl)) nm)))))
 (ai (aS fZ)
 ak)
 ak)
 (ai (bJ (DW.dt (c6 (bP (bA (bQ rf rfl T.n_isinstance rfl T.n_str PyProof.Rows.Boot.«str» (av (dv 0) (bu T.sN rfl))))) (bj (aW (iz hr.units) iC (av (dv 0) (bu T.sN rfl)) (bu T.wM rfl) rfl))))
 (ai (aS fZ)
 ak)
 ak)
 (ai (aS (gT (rC (mE T) hr (aa (av (dv 0) (bu T.nt rfl)) aq)) (iM (rC (ya T) hr (aa (av (dv 0) (bu T.lG rfl)) aq)))))
 ak)))))
def pC(T:Txt K mg t):eR P w K mg base CX0 5 (t.A 23) (t.Q 23) ["ties","places"] (spD K 2 m_look_at_ties) "look_at_ties" (top 49) :=
 oD T.g sc (i:=23) rfl λ_ _ _ _ _ _ _ hr=>(
 (ai (bJ (DW.dt (c6 (bP (bA (bQ dY rfl T.n_isinstance rfl T.n_list PyProof.Rows.Boot.«list» (dv 0)))) (bj (aW uC (dw λ_ _ _ _=>rb _) (aX bG cD rfl T.n_len PyProof.Rows.Boot.«len» (aa (dv 0) aq)) (bu T.kX rfl) nm))))
 (ai da
 ak)
 ak)
 (ai (lE Vo rfl (nc rfl T.n_enumerate (dv 0)) (iK rfl (bR (i:=2) (nd 23) rfl (UB rfl) (bR (i:=3) (nd 23) rfl (UB rfl) eY))) ij
 (ai (bJ (DW.dt (c6 (bP (bA (rC (CO T) hr (aa (dv 3) aq)))) (c6 (aW (iz hr.units) iC (av (dv 3) (bu T.sO rfl)) (dv 1) rfl) (bj (aW (iz hr.units) iC (av (dv 3) (bu T.ki rfl)) (dv 1) rfl)))))
 (ai da
 ak)
 ak)
 ak))
 ak)))
def oJ(T:Txt K mg t):eR P w K mg base CX0 2 (t.A 24) (t.Q 24) ["thing","places"] (spD K 2 m_is_place) "is_place" (top 50) :=
 oD T.g sc (i:=24) rfl λ_ _ _ _ _ _ _ hr=>(
 (ai (aS (gT (rC (jY T) hr (aa (dv 0) aq)) (iM (eC (oG hr.units) oN (dv 0) (dv 1) rfl))))
 ak))
def iA(T:Txt K mg t):eR P w K mg base CX0 6 (t.A 25) (t.Q 25) ["thing"] (spD K 1 m_look_at_web) "look_at_web" (top 47) :=
 oD T.g sc (i:=25) rfl λ_ _ _ _ _ _ _ hr=>(
 (ai (bJ (DW.dt (c6 (bP (bA (bQ eW rfl T.n_isinstance rfl T.n_tuple PyProof.Rows.Boot.«tuple» (dv 0)))) (bj (aW (eM hr.units) gK (aX bG cD rfl T.n_len PyProof.Rows.Boot.«len» (aa (dv 0) aq)) aj nm))))
 (ai da
 ak)
 ak)
 (ai (er (rC (mC T) hr (aa (av (dv 0) (bu T.jJ rfl)) aq)))
 (ai (er (rC (pC T) hr (aa (av (dv 0) (bu T.jj rfl)) (aa (av (dv 0) (bu T.jJ rfl)) aq))))
 (ai (bJ (bP (bA (rC (oJ T) hr (aa (av (dv 0) (bu T.nu rfl)) (aa (av (dv 0) (bu T.jJ rfl)) aq)))))
 (ai da
 ak)
 ak)
 (ai (bJ (DW.dt (c6 (bP (bA (rC (oJ T) hr (aa (av (dv 0) (bu T.oq rfl)) (aa (av (dv 0) (bu T.jJ rfl)) aq))))) (bj (aW (cO hr.units) dW (av (dv 0) (bu T.oq rfl)) (av (dv 0) (bu T.nu rfl)) nm))))
 (ai da
 ak)
 ak)
 ak))))))
def jA(T:Txt K mg t):eR P w K mg base CX0 2 (t.A 26) (t.Q 26) ["web","thing"] (spD K 2 m_is_tie_number) "is_tie_number" (top 45) :=
 oD T.g sc (i:=26) rfl λ_ _ _ _ _ _ _ hr=>(
 (ai (aS (gT (rC (gG T) hr (aa (dv 1) aq)) (iM (yP qJ qI (fE λ_ _ _ _=>rb _) (fE λ_ _ _ _=>rb _) fG fG aj (dv 1) (aX bG cD rfl T.n_len PyProof.Rows.Boot.«len» (aa (av (dv 0) (bu T.jj rfl)) aq))))))
 ak))
def qM(T:Txt K mg t):eR P w K mg base CX0 1 (t.A 27) (t.Q 27) ["tie"] (spD K 1 m_steps_along) "steps_along" (top 52) :=
 oD T.g sc (i:=27) rfl λ_ _ _ _ _ _ _ hr=>(
 (ai (bB (i:=1) (nd 27) rfl (UB rfl) (bV (aa (av (dv 0) (bu T.sO rfl)) (aa (av (dv 0) (bu T.ki rfl)) aq))))
 (ai (bJ (aW (cO hr.units) dW (av (dv 0) (bu T.sN rfl)) dG nm)
 (ai (aS (cg (aa (dv 1) aq)))
 ak)
 ak)
 (ai (aS (cg (aa (dv 1) (aa (bV (aa (av (dv 0) (bu T.ki rfl)) (aa (av (dv 0) (bu T.sO rfl)) aq))) aq))))
 ak))))
def pA(T:Txt K mg t):eR P w K mg base CX0 3 (t.A 28) (t.Q 28) ["web","taken","places","number"] (spD K 4 m_place_behind) "place_behind" (top 55) :=
 oD T.g sc (i:=28) rfl λ_ _ _ _ _ _ _ hr=>(
 (ai (bJ (DW.dt (c6 (aW (cO hr.units) dW (av (dv 2) (kU aj)) (av (dv 0) (bu T.oq rfl)) nm) (c6 (bP (bA (rC (jA T) hr (aa (dv 0) (aa (dv 3) aq))))) (bj (aW (oG hr.units) oN (dv 3) (dv 1) rfl)))))
 (ai (aS cP)
 ak)
 ak)
 (ai (Aw Vo rfl (rC (qM T) hr (aa (av (av (dv 0) (bu T.jj rfl)) (dv 3)) aq)) (iK rfl (bR (i:=4) (nd 28) rfl (UB rfl) (bR (i:=5) (nd 28) rfl (UB rfl) eY))) ij
 (ai (bJ (DW.dt (n8 (aW (cO hr.units) dW (dv 4) (av (dv 2) (kU aj)) nm) (ke (aW (iz hr.units) iC (dv 5) (dv 2) rfl))))
 (ai (aS (dv 5))
 ak)
 ak)
 ak))
 (ai (aS cP)
 ak))))
def oH(T:Txt K mg t):eR P w K mg base (lI P w) 4 (t.A 29) (t.Q 29) ["web","taken","thing"] (spD K 3 m_walk_way) "walk_way" (top 53) :=
 oE T.g sc (i:=29) rfl λ_ _ _ _ _ _ _ hr=>(
 (ai (bJ (bP (bA (bQ dY rfl T.n_isinstance rfl T.n_list PyProof.Rows.Boot.«list» (dv 2))))
 (ai (iq T.eS.xc T.qj T.kF T.ql ((ma T).mono (by decide:1<=2)) T.kY (by decide) (by decide) hr T.mU hr.hd rfl (aa cP aq))
 ak)
 ak)
 (ai (gR (i:=3) (nd 29) rfl (UB rfl) (iL (aa (av (dv 0) (bu T.nu rfl)) aq)))
 (ai (lE PassesOwn.leaving rfl (nc rfl T.n_enumerate (dv 2)) (iK rfl (bR (i:=4) (nd 29) rfl (UB rfl) (bR (i:=5) (nd 29) rfl (UB rfl) eY))) ij
 (ai (JY (i:=6) (nd 29) rfl (UB rfl) (rC (pA T) hr (aa (dv 0) (aa (dv 1) (aa (dv 3) (aa (dv 5) aq))))))
 (ai (bJ (aW qK qU (dv 6) cP nm)
 (ai (iq T.eS.xc T.qj T.kF T.ql ((ma T).mono (by decide:1<=2)) T.kY (by decide) (by decide) hr T.mU hr.hd rfl (aa (dv 4) aq))
 ak)
 ak)
 (ai (gz (i:=3) rfl (UB rfl) (dv 6))
 ak))))
 (ai (Av 3 (bJ (aW (eM hr.units) gK (av (dv 3) (kU aj)) (av (dv 0) (bu T.oq rfl)) nm)
 (ai (iq T.eS.xc T.qj T.kF T.ql ((ma T).mono (by decide:1<=2)) T.kY (by decide) (by decide) hr T.mU hr.hd rfl (aa (aX bG cD rfl T.n_len PyProof.Rows.Boot.«len» (aa (dv 2) aq)) aq))
 ak)
 ak))
 (ai (aS (dv 3))
 ak))))))
def CM(T:Txt K mg t):eR P w K mg base CX0 5 (t.A 30) (t.Q 30) ["web","taken","thing"] (spD K 3 m_is_way) "is_way" (top 54) :=
 oD T.g sc (i:=30) rfl λ_ _ _ _ _ _ _ hr=>(
 (ai (JX ⟨rfl,rfl⟩ (rD (oH T) hr (aa (dv 0) (aa (dv 1) (aa (dv 2) aq)))) rfl T.mU (λx C h=>wj T x C (SE h)) (λea=>(ai (aS fZ)
 ak)))
 (ai (aS fZ)
 ak)))
def kQ(T:Txt K mg t):eR P w K mg base CX0 6 (t.A 31) (t.Q 31) ["web","thing"] (spD K 2 m_is_way_with_share) "is_way_with_share" (top 67) :=
 oD T.g sc (i:=31) rfl λ_ _ _ _ _ _ _ hr=>(
 (ai (bJ (DW.dt (c6 (bP (bA (bQ eW rfl T.n_isinstance rfl T.n_tuple PyProof.Rows.Boot.«tuple» (dv 1)))) (bj (aW (eM hr.units) gK (aX bG cD rfl T.n_len PyProof.Rows.Boot.«len» (aa (dv 1) aq)) aj nm))))
 (ai (aS fZ)
 ak)
 ak)
 (ai (aS (gT (rC (CM T) hr (aa (dv 0) (aa (cg aq) (aa (av (dv 1) aj) aq)))) (gT (rC (gH T) hr (aa (av (dv 1) aj) aq)) (iM (eC uC (dw λ_ _ _ _=>rb _) (av (av (dv 1) aj) aj) aj nm)))))
 ak)))
def qO(T:Txt K mg t):eR P w K mg base CX0 2 (t.A 32) (t.Q 32) ["top","bottom"] (spD K 2 m_ratio) "ratio" (top 21) :=
 oD T.g sc (i:=32) rfl λ_ _ _ _ _ _ _ hr=>(
 (ai (bJ (DW.dt (c6 (bP (bA (rC (gG T) hr (aa (dv 0) aq)))) (bj (bP (bA (rC (gG T) hr (aa (dv 1) aq)))))))
 (ai da
 ak)
 ak)
 (ai (bJ (aW (cO hr.units) dW (dv 1) aj nm)
 (ai da
 ak)
 ak)
 (ai (bB (i:=2) (nd 32) rfl (UB rfl) (rC (i4 T) hr (aa (dv 0) (aa (dv 1) aq))))
 (ai (bJ (aW qI (dw λ_ _ _ _=>rb _) (dv 1) aj nm)
 (ai (bB (i:=2) (nd 32) rfl (UB rfl) (kU (dv 2)))
 ak)
 ak)
 (ai (aS (bV (aa (n9 (dv 0) (dv 2)) (aa (n9 (dv 1) (dv 2)) aq))))
 ak))))))
def vS(T:Txt K mg t):eR P w K mg base CX0 3 (t.A 33) (t.Q 33) ["one","other"] (spD K 2 m_plus) "plus" (top 22) :=
 oD T.g sc (i:=33) rfl λ_ _ _ _ _ _ _ hr=>(
 (ai (aS (rC (qO T) hr (aa (cE (dH (av (dv 0) aj) (av (dv 1) aj)) (dH (av (dv 1) aj) (av (dv 0) aj))) (aa (dH (av (dv 0) aj) (av (dv 1) aj)) aq))))
 ak))
def jz(T:Txt K mg t):eR P w K mg base CX0 4 (t.A 34) (t.Q 34) ["some"] (spD K 1 m_sum_of) "sum_of" (top 26) :=
 oD T.g sc (i:=34) rfl λ_ _ _ _ _ _ _ hr=>(
 (ai (bB (i:=1) (nd 34) rfl (UB rfl) (bu T.kW rfl))
 (ai (Aw Vo rfl (dv 0) (cC (i:=2) (nd 34) rfl (UB rfl)) dk
 (ai (bB (i:=1) (nd 34) rfl (UB rfl) (rC (vS T) hr (aa (dv 1) (aa (dv 2) aq))))
 ak))
 (ai (aS (dv 1))
 ak))))
def iB(T:Txt K mg t):eR P w K mg base (lI P w) 7 (t.A 35) (t.Q 35) ["web","thing"] (spD K 2 bq) "look_at_mix" (top 66) :=
 oE T.g sc (i:=35) rfl λ_ _ _ _ H _ _ hr=>(
 (ai (er (rC (iA T) hr (aa (dv 0) aq)))
 (ai (bJ (bP (bA (bQ dY rfl T.n_isinstance rfl T.n_list PyProof.Rows.Boot.«list» (dv 1))))
 (ai (iq T.dN.xc T.qk T.kG T.qm ((md T).mono (by decide:1<=5)) T.kZ (by decide) (by decide) hr T.qe hr.hd rfl (aa cP aq))
 ak)
 ak)
 (ai (gR (i:=2) (nd 35) rfl (UB rfl) (iL aq))
 (ai (lE PassesOwn.leaving rfl (nc rfl T.n_enumerate (dv 1)) (iK rfl (bR (i:=3) (nd 35) rfl (UB rfl) (bR (i:=4) (nd 35) rfl (UB rfl) eY))) ij
 (ai (bJ (DW.dt (c6 (bP (bA (rC (kQ T) hr (aa (dv 0) (aa (dv 4) aq))))) (bj (aW (oG hr.units) oN (av (dv 4) aj) (dv 2) rfl))))
 (ai (iq T.dN.xc T.qk T.kG T.qm ((md T).mono (by decide:1<=5)) T.kZ (by decide) (by decide) hr T.qe hr.hd rfl (aa (dv 3) aq))
 ak)
 ak)
 (ai (gz (i:=2) rfl (UB rfl) (av (dv 4) aj))
 ak)))
 (ai (bJ (aW (eM hr.units) gK (rC (jz T) hr (aa (jG (nh ["way","share"] 2 [] rfl (fq (dv 1)) (kI (by decide)) (λs H C fp pn=>⟨λHe η=>(iK rfl (bR (i:=0) (show VB (["way","share"]:bi) from by decide) rfl (UB rfl) (bR (i:=1) (show VB (["way","share"]:bi) from by decide) rfl (UB rfl) eY))),eX,(dv 1)⟩) ⟨rfl,rfl⟩ rfl rfl rfl rfl)) aq)) (bu T.wN rfl) nm)
 (ai (iq T.dN.xc T.qk T.kG T.qm ((md T).mono (by decide:1<=5)) T.kZ (by decide) (by decide) hr T.qe hr.hd rfl (aa cP aq))
 ak)
 ak)
 ak))))))
def qQ(T:Txt K mg t):eR P w K mg base CX0 5 (t.A 36) (t.Q 36) ["mix","number"] (spD K 2 m_load_on) "load_on" (top 69) :=
 oD T.g sc (i:=36) rfl λ_ _ _ _ H _ _ hr=>(
 (ai (aS (rC (jz T) hr (aa (jG (nh ["way","share","number"] 2 [1] rfl (fq (dv 0)) (kI (by decide)) (λs H C fp pn=>⟨λHe η=>(iK rfl (bR (i:=0) (show VB (["way","share","number"]:bi) from by decide) rfl (UB rfl) (bR (i:=1) (show VB (["way","share","number"]:bi) from by decide) rfl (UB rfl) eY))),(J4 (aW (oG hr.units) oN (dv 2) (dv 0) rfl)),(dv 1)⟩) ⟨rfl,rfl⟩ rfl rfl rfl rfl)) aq)))
 ak))
def zL(T:Txt K mg t):eR P w K mg base (lI P w) 8 (t.A 37) (t.Q 37) ["web","mix"] (spD K 2 ip) "load_of" (top 68) :=
 oE T.g sc (i:=37) rfl λ_ _ _ _ H _ _ hr=>(
 (ai (er (rC (iB T) hr (aa (dv 0) (aa (dv 1) aq))))
 (ai (aS (jG (nh ["number","mix"] 1 [1] rfl (jF rfl T.n_range (aX bG cD rfl T.n_len PyProof.Rows.Boot.«len» (aa (av (dv 0) (bu T.jj rfl)) aq))) (eK (by decide)) (λs H C fp pn=>⟨λHe η=>(cC (i:=0) (show VB (["number","mix"]:bi) from by decide) rfl (UB rfl)),eX,(rC (qQ T) hr (aa (dv 1) (aa (dv 0) aq)))⟩) ⟨rfl,rfl⟩ rfl rfl rfl rfl)))
 ak)))
def qR(T:Txt K mg t):eR P w K mg base CX0 4 (t.A 38) (t.Q 38) ["web","thing"] (spD K 2 m_has_lengths) "has_lengths" (top 46) :=
 oD T.g sc (i:=38) rfl λ_ _ _ _ H _ _ hr=>(
 (ai (bJ (DW.dt (c6 (bP (bA (bQ dY rfl T.n_isinstance rfl T.n_list PyProof.Rows.Boot.«list» (dv 1)))) (bj (aW (eM hr.units) gK (aX bG cD rfl T.n_len PyProof.Rows.Boot.«len» (aa (dv 1) aq)) (aX bG cD rfl T.n_len PyProof.Rows.Boot.«len» (aa (av (dv 0) (bu T.jj rfl)) aq)) nm))))
 (ai (aS fZ)
 ak)
 ak)
 (ai (aS (aX (yZ rfl) Gv rfl T.n_all PyProof.Rows.Boot.«all» (aa (jG (nh ["one"] 1 [] rfl (fq (dv 1)) (eK (by decide)) (λs H C fp pn=>⟨λHe η=>(cC (i:=0) (show VB (["one"]:bi) from by decide) rfl (UB rfl)),eX,(rC (mE T) hr (aa (dv 0) aq))⟩) ⟨rfl,rfl⟩ rfl rfl rfl rfl)) aq)))
 ak)))
def pD(T:Txt K mg t):eR P w K mg base CX0 7 (t.A 39) (t.Q 39) ["web","thing"] (spD K 2 m_look_at_adds) "look_at_adds" (top 63) :=
 oD T.g sc (i:=39) rfl λ_ _ _ _ _ _ _ hr=>(
 (ai (er (rC (iA T) hr (aa (dv 0) aq)))
 (ai (bJ (bP (bA (rC (qR T) hr (aa (dv 0) (aa (dv 1) aq)))))
 (ai da
 ak)
 ak)
 ak)))
def nR(T:Txt K mg t):eR P w K mg base CX0 3 (t.A 40) (t.Q 40) ["thing"] (spD K 1 m_look_at_purse) "look_at_purse" (top 57) :=
 oD T.g sc (i:=40) rfl λ_ _ _ _ _ _ _ hr=>(
 (ai (bJ (DW.dt (c6 (bP (bA (rC (gH T) hr (aa (dv 0) aq)))) (bj (aW qI (dw λ_ _ _ _=>rb _) (av (dv 0) aj) aj nm))))
 (ai da
 ak)
 ak)
 ak))
def mD(T:Txt K mg t):eR P w K mg base CX0 3 (t.A 41) (t.Q 41) ["thing"] (spD K 1 m_look_at_length) "look_at_length" (top 27) :=
 oD T.g sc (i:=41) rfl λ_ _ _ _ _ _ _ hr=>(
 (ai (bJ (DW.dt (c6 (bP (bA (rC (gH T) hr (aa (dv 0) aq)))) (bj (aW qI (dw λ_ _ _ _=>rb _) (av (dv 0) aj) aj nm))))
 (ai da
 ak)
 ak)
 ak))
def my(T:Txt K mg t):eR P w K mg base CX0 3 (t.A 42) (t.Q 42) ["one","other"] (spD K 2 m_times) "times" (top 24) :=
 oD T.g sc (i:=42) rfl λ_ _ _ _ _ _ _ hr=>(
 (ai (aS (rC (qO T) hr (aa (dH (av (dv 0) aj) (av (dv 1) aj)) (aa (dH (av (dv 0) aj) (av (dv 1) aj)) aq))))
 ak))
def mz(T:Txt K mg t):eR P w K mg base CX0 7 (t.A 43) (t.Q 43) ["web","thing"] (spD K 2 m_look_at_taking) "look_at_taking" (top 58) :=
 oD T.g sc (i:=43) rfl λ_ _ _ _ _ _ _ hr=>(
 (ai (er (rC (iA T) hr (aa (dv 0) aq)))
 (ai (bJ (bP (bA (bQ dY rfl T.n_isinstance rfl T.n_list PyProof.Rows.Boot.«list» (dv 1))))
 (ai da
 ak)
 ak)
 (ai (bB (i:=2) (nd 43) rfl (UB rfl) (kU aj))
 (ai (Aw Vo rfl (dv 1) (cC (i:=3) (nd 43) rfl (UB rfl)) dk
 (ai (bJ (DW.dt (c6 (bP (bA (rC (jA T) hr (aa (dv 0) (aa (dv 3) aq))))) (bj (aW qJ (dw λ_ _ _ _=>rb _) (dv 3) (dv 2) nm))))
 (ai da
 ak)
 ak)
 (ai (bJ (aW qK qU (av (av (av (dv 0) (bu T.jj rfl)) (dv 3)) (bu T.lG rfl)) cP nm)
 (ai da
 ak)
 ak)
 (ai (bB (i:=2) (nd 43) rfl (UB rfl) (dv 3))
 ak))))
 ak)))))
def qP(T:Txt K mg t):eR P w K mg base (lI P w) 8 (t.A 44) (t.Q 44) ["web","taking","thing"] (spD K 3 m_look_at_way) "look_at_way" (top 60) :=
 oE T.g sc (i:=44) rfl λ_ _ _ _ _ _ _ hr=>(
 (ai (er (rC (mz T) hr (aa (dv 0) (aa (dv 1) aq))))
 (ai (er (rC (oH T) hr (aa (dv 0) (aa (dv 1) (aa (dv 2) aq)))))
 ak)))
def vT(T:Txt K mg t):eR P w K mg base CX0 9 (t.A 45) (t.Q 45) ["web","way"] (spD K 2 m_length_of) "length_of" (top 61) :=
 oD T.g sc (i:=45) rfl λ_ _ _ _ H _ _ hr=>(
 (ai (er (rC (eR.noX (qP T)) hr (aa (dv 0) (aa (cg aq) (aa (dv 1) aq)))))
 (ai (aS (rC (jz T) hr (aa (jG (nh ["number","web"] 1 [0] rfl (fq (dv 1)) (eK (by decide)) (λs H C fp pn=>⟨λHe η=>(cC (i:=0) (show VB (["number","web"]:bi) from by decide) rfl (UB rfl)),eX,(av (av (av (dv 1) (bu T.jj rfl)) (dv 0)) (bu T.nt rfl))⟩) ⟨rfl,rfl⟩ rfl rfl rfl rfl)) aq)))
 ak)))
def E5(T:Txt K mg t):eR P w K mg base CX0 3 (t.A 46) (t.Q 46) ["one","other"] (spD K 2 m_minus) "minus" (top 23) :=
 oD T.g sc (i:=46) rfl λ_ _ _ _ _ _ _ hr=>(
 (ai (aS (rC (qO T) hr (aa (rY (dH (av (dv 0) aj) (av (dv 1) aj)) (dH (av (dv 1) aj) (av (dv 0) aj))) (aa (dH (av (dv 0) aj) (av (dv 1) aj)) aq))))
 ak))
def zM(T:Txt K mg t):eR P w K mg base CX0 1 (t.A 47) (t.Q 47) ["one","other"] (spD K 2 m_is_less) "is_less" (top 25) :=
 oD T.g sc (i:=47) rfl λ_ _ _ _ _ _ _ _=>(
 (ai (aS (eC qI (dw λ_ _ _ _=>rb _) (dH (av (dv 0) aj) (av (dv 1) aj)) (dH (av (dv 1) aj) (av (dv 0) aj)) nm))
 ak))
def nS(T:Txt K mg t):eR P w K mg base CX0 6 (t.A 48) (t.Q 48) ["web","adds","mix","rate"] (spD K 4 m_claim_of_adds) "claim_of_adds" (top 71) :=
 oD T.g sc (i:=48) rfl λ_ _ _ _ _ _ _ hr=>(
 (ai (gR (i:=4) (nd 48) rfl (UB rfl) (iL aq))
 (ai (lE Vo rfl (nc rfl T.n_enumerate (av (dv 0) (bu T.jj rfl))) (iK rfl (bR (i:=5) (nd 48) rfl (UB rfl) (bR (i:=6) (nd 48) rfl (UB rfl) eY))) ij
 (ai (bJ (aW Bq Bv (av (dv 6) (bu T.lG rfl)) cP nm)
 (ai (bB (i:=7) (nd 48) rfl (UB rfl) (rC (E5 T) hr (aa (rC (qQ T) hr (aa (dv 2) (aa (dv 5) aq))) (aa (rC (my T) hr (aa (dv 3) (aa (av (dv 6) (bu T.lG rfl)) aq))) aq))))
 (ai (gz (i:=4) rfl (UB rfl) (rC (my T) hr (aa (av (dv 1) (dv 5)) (aa (Gm (bA (rC (zM T) hr (aa (bu T.kW rfl) (aa (dv 7) aq)))) (dv 7) (bu T.kW rfl)) aq))))
 ak))
 ak)
 ak))
 (ai (aS (rC (jz T) hr (aa (dv 4) aq)))
 ak))))
def pE(T:Txt K mg t):eR P w K mg base (lI P w) 10 (t.A 49) (t.Q 49) ["web","adds","purse","mix","rate"] (spD K 5 dR) "claim_of_mix" (top 70) :=
 oE T.g sc (i:=49) rfl λ_ _ _ _ H _ _ hr=>(
 (ai (er (rC (pD T) hr (aa (dv 0) (aa (dv 1) aq))))
 (ai (er (rC (nR T) hr (aa (dv 2) aq)))
 (ai (er (rC (iB T) hr (aa (dv 0) (aa (dv 3) aq))))
 (ai (er (rC (mD T) hr (aa (dv 4) aq)))
 (ai (bB (i:=5) (nd 49) rfl (UB rfl) (rC (jz T) hr (aa (jG (nh ["way","share","web"] 2 [0] rfl (fq (dv 3)) (kI (by decide)) (λs H C fp pn=>⟨λHe η=>(iK rfl (bR (i:=0) (show VB (["way","share","web"]:bi) from by decide) rfl (UB rfl) (bR (i:=1) (show VB (["way","share","web"]:bi) from by decide) rfl (UB rfl) eY))),eX,(rC (my T) hr (aa (dv 1) (aa (rC (vT T) hr (aa (dv 2) (aa (dv 0) aq))) aq)))⟩) ⟨rfl,rfl⟩ rfl rfl rfl rfl)) aq)))
 (ai (aS (rC (vS T) hr (aa (rC (vS T) hr (aa (dv 5) (aa (rC (my T) hr (aa (dv 4) (aa (dv 2) aq))) aq))) (aa (rC (nS T) hr (aa (dv 0) (aa (dv 1) (aa (dv 3) (aa (dv 4) aq))))) aq))))
 ak)))))))
def tR(T:Txt K mg t):eR P w K mg base (lI P w) 11 (t.A 50) (t.Q 50) ["_law_asked_here","_law_web_here","_law_thing"] (spD K 3 cM) "_law_asked" (top 90) :=
 oE T.g sc (i:=50) rfl λ_ _ _ _ H _ _ hr=>(
 (ai (bJ (aW (cO hr.units) dW (dv 0) aj nm)
 (ai (aS (rC (iB T) hr (aa (dv 1) (aa (dv 2) aq))))
 ak)
 ak)
 (ai (bJ (aW (cO hr.units) dW (dv 0) aj nm)
 (ai (er (rC (zL T) hr (aa (dv 1) (aa (dv 2) aq))))
 ak)
 (ai (er (rC (pE T) hr (aa (dv 1) (aa (jG (nh ["_law_tie_here"] 1 [] rfl (fq (av (dv 1) aj)) (eK (by decide)) (λs H C fp pn=>⟨λHe η=>(cC (i:=0) (show VB (["_law_tie_here"]:bi) from by decide) rfl (UB rfl)),eX,(bV (aa aj (aa aj aq)))⟩) ⟨rfl,rfl⟩ rfl rfl rfl rfl)) (aa (bV (aa aj (aa aj aq))) (aa (dv 2) (aa (bV (aa aj (aa aj aq))) aq)))))))
 ak))
 (ai (aS cP)
 ak))))
def vU(T:Txt K mg t):eR P w K mg base CX0 12 (t.A 51) (t.Q 51) ["_law_asked_here","_law_web_here","_law_thing"] (spD K 3 cW) "_law_told" (top 91) :=
 oD T.g sc (i:=51) rfl λ_ _ _ _ _ _ _ hr=>(
 (ai (bB (i:=3) (nd 51) rfl (UB rfl) cP)
 (ai (bB (i:=4) (nd 51) rfl (UB rfl) cP)
 (ai (Nx ⟨rfl,rfl⟩ (rT (i:=4) (nd 51) rfl (UB rfl) (tR T) hr (aa (dv 0) (aa (dv 1) (aa (dv 2) aq)))) rfl T.mf (pH T) (nd 51) rfl rfl (λea=>(ai (bB (i:=3) (nd 51) rfl (UB rfl) (dv 5))
 ak)))
 (ai (bJ (aW qK qU (dv 3) cP nm)
 (ai (aS (dv 4))
 ak)
 ak)
 (ai (bJ (bA (J8 (Eg T) (nr rfl T.II (nr rfl T.mU (nr rfl T.Af (nr rfl T.C7 (nr rfl T.Ag NO))))) (by simp) rfl T.n_isinstance (dv 3)))
 (ai (aS dG)
 ak)
 ak)
 (ai (bJ (bP (bA (Dl rfl T.n_ValueError PyProof.Rows.Boot.«ValueError» (Ee T) rfl T.n_isinstance (dv 3))))
 (ai (aS dG)
 ak)
 ak)
 (ai (bJ (DW.dt (c6 (bP (bA (Dk rfl T.qe (Ec T) rfl T.n_isinstance (dv 3)))) (bj (bA (bQ i6 rfl T.n_isinstance rfl T.n_bool PyProof.Rows.Boot.«bool» (B6 (yB T) (dv 3)))))))
 (ai (aS dG)
 ak)
 ak)
 (ai (aS (bV (aa dG (aa (B6 (yB T) (dv 3)) aq))))
 ak)))))))))
def jf(T:Txt K mg t):eR P w K mg base CX0 13 (t.A 52) (t.Q 52) ["_law_web_here","_law_thing"] (spD K 2 cu) "_law_right" (top 92) :=
 oD T.g sc (i:=52) rfl λ_ _ _ _ H _ _ hr=>(
 (ai (bB (i:=2) (nd 52) rfl (UB rfl) (aX (u3 hr) Ca rfl T.n_repr PyProof.Rows.Boot.«repr» (aa (cg (aa (dv 0) (aa (dv 1) aq))) aq)))
 (ai (bB (i:=3) (nd 52) rfl (UB rfl) (rC (mF T) hr (aa (dv 0) (aa (dv 1) aq))))
 (ai (JZ (i:=4) (nd 52) rfl rfl uW (nh ["_law_asked_here","_law_web_here","_law_thing"] 1 [0,1] rfl (fq (cg (aa aj (aa aj (aa aj (aa aj aq)))))) (eK (by decide)) (λs H C fp pn=>⟨λHe η=>(cC (i:=0) (show VB (["_law_asked_here","_law_web_here","_law_thing"]:bi) from by decide) rfl (UB rfl)),eX,(rC (vU T) hr (aa (dv 0) (aa (dv 1) (aa (dv 2) aq))))⟩) ⟨rfl,rfl⟩ rfl rfl rfl rfl))
 (ai (aS (gT (eC (cO hr.units) dW (dv 4) (NJ (iL (aa (dv 3) aq)) aj) nm) (iM (eC (cO hr.units) dW (aX (u3 hr) Ca rfl T.n_repr PyProof.Rows.Boot.«repr» (aa (cg (aa (dv 0) (aa (dv 1) aq))) aq)) (dv 2) nm))))
 ak)))))
def oK(T:Txt K mg t):eR P w K mg base CX0 2 (t.A 53) (t.Q 53) ["_law_state","_law_pair"] (DJ K 1 fB) "_law_odd" (top 88) :=
 oM T.g sc (i:=53) rfl rfl λ_ _ _ _ _ _ _ _ _ hr=>(
 (aC (cK (E:=E0) λvs=>(Nw rfl (dv 1) (bR (i:=2) (nd 53) rfl (UB rfl) (bR (i:=3) (nd 53) rfl (UB rfl) eY))))
 (aC (cK (E:=E0) λvs=>(bB (i:=4) (nd 53) rfl (UB rfl) (rC (gJ T) hr (aa (cE (av (dv 3) aj) aj) (aa (av (dv 3) aj) aq)))))
 (aC (cK (E:=E0) λvs=>(bB (i:=5) (nd 53) rfl (UB rfl) (cg (aa cP (aa fZ (aa aj (aa dG (aa (bV (aa aj (aa aj aq))) (aa (bV (aa aj (aa aj aq))) (aa (bV (aa aj (aa aj aq))) (aa (bV (aa (kU aj) (aa aj aq))) (aa (bV (aa fZ (aa aj aq))) aq))))))))))))
 (aC (cJ (i:=5) (nd 53) rfl (UB rfl) (jb (aK (E:=E0) (cE (dv 5) (cg (aa (bV (aa aj (aa fZ aq))) (aa (bV (aa aj (aa aj aq))) (aa (cg (aa aj (aa aj aq))) aq)))))) (rM 0 (aN T) hr (aM (aK (E:=E0) aj) aU))))
 (aC (cJ (i:=6) (nd 53) rfl (UB rfl) (rM 0 (aN T) hr (aM (aK (E:=E0) (aX bG cD rfl T.n_len PyProof.Rows.Boot.«len» (aa (dv 2) aq))) aU)))
 (aC (cJ (i:=7) (nd 53) rfl (UB rfl) (wG (aM (aK (E:=E0) (cE (dq (dv 2) eJ (eI (dv 6))) (dq (dv 2) (eI (cE (dv 6) aj)) eJ))) (aM (iJ (iJ (aK (E:=E0) (dq (dv 2) eJ (eI (dv 6)))) (wG (aM (rM 0 (aN T) hr (aM (aK (E:=E0) aj) aU)) aU))) (aK (E:=E0) (dq (dv 2) (eI (dv 6)) eJ))) aU))))
 (aC (cJ (i:=7) (nd 53) rfl (UB rfl) (jb (aK (E:=E0) (cE (dv 7) (cg (aa (ng lX yX rfl T.n_tuple PyProof.Rows.Boot.«tuple» (aa (dv 2) aq)) (aa cP aq))))) (rM 0 (aN T) hr (aM (aK (E:=E0) aj) aU))))
 (aC (cK (E:=E0) λvs=>(bB (i:=8) (nd 53) rfl (UB rfl) (cg (aa (bV (aa (dv 7) (aa (dv 3) aq))) (aa (bV (aa (dv 2) (aa (dv 5) aq))) (aa (bV (aa (dv 2) (aa (dv 4) aq))) (aa (bV (aa (dv 2) (aa (dv 3) (aa (dv 3) aq)))) (aa (bV (aa (dv 2) aq)) aq))))))))
 (aC (qr (jb (aK (E:=E0) (cE (dv 8) (cg (aa (cg (aa (dv 2) (aa (dv 3) aq))) (aa cP aq))))) (rM 0 (aN T) hr (aM (aK (E:=E0) aj) aU))))
 bF))))))))))
def vW(T:Txt K mg t):eR P w K mg base CX0 3 (t.A 54) (t.Q 54) ["_law_state","_law_mix"] (DJ K 1 cZ) "_law_bent" (top 89) :=
 oM T.g sc (i:=54) rfl rfl λ_ _ _ _ H He _ _ _ hr=>(
 (aC (cJ (i:=2) (nd 54) rfl (UB rfl) (rM 0 (aN T) hr (aM (aK (E:=E0) aj) aU)))
 (aC (cJ (i:=3) (nd 54) rfl (UB rfl) (rM 0 (aN T) hr (aM (aK (E:=E0) (aX bG cD rfl T.n_len PyProof.Rows.Boot.«len» (aa (dv 1) aq))) aU)))
 (aC (cJ (i:=4) (nd 54) rfl (UB rfl) (rM 0 (aN T) hr (aM (aK (E:=E0) (cE (aX bG cD rfl T.n_len PyProof.Rows.Boot.«len» (aa (dv 1) aq)) aj)) aU)))
 (aC (kK (jE (E:=E0) (aW (cO hr.units) dW (dv 2) aj nm))
 (aC (cK (E:=E0) λvs=>(bB (i:=5) (nd 54) rfl (UB rfl) (wJ rfl rfl T.n_dict (jG (nh ["_law_k","_law_mix"] 1 [1] rfl (jF rfl T.n_range (aX bG cD rfl T.n_len PyProof.Rows.Boot.«len» (aa (dv 1) aq))) (eK (by decide)) (λs H C fp pn=>⟨λHe η=>(cC (i:=0) (show VB (["_law_k","_law_mix"]:bi) from by decide) rfl (UB rfl)),eX,(bV (aa (dv 0) (aa (av (dv 1) (dv 0)) aq)))⟩) ⟨rfl,rfl⟩ rfl rfl rfl rfl)))))
 (aC (qr (jb (aK (E:=E0) (cg (aa (ng lX yX rfl T.n_tuple PyProof.Rows.Boot.«tuple» (aa (dv 1) aq)) (aa cP (aa aj (aa (dv 5) aq)))))) (rM 0 (aN T) hr (aM (aK (E:=E0) aj) aU))))
 bF))
 bF)
 (aC (kK (jE (E:=E0) (aW (cO hr.units) dW (dv 2) aj nm))
 (aC (fP (E:=E0) (cE (dq (dv 1) eJ (eI (dv 3))) (dq (dv 1) (eI (cE (dv 3) aj)) eJ)))
 bF)
 bF)
 (aC (kK (jE (E:=E0) (aW (cO hr.units) dW (dv 2) aj nm))
 (aC (fP (E:=E0) (cE (cE (dq (dv 1) eJ (eI (dv 4))) (cg (aa (av (dv 1) (dv 3)) aq))) (dq (dv 1) (eI (dv 4)) eJ)))
 bF)
 bF)
 (aC (kK (jE (E:=E0) (aW (cO hr.units) dW (dv 2) aj nm))
 (aC (fP (E:=E0) (NI (dv 1)))
 bF)
 bF)
 (aC (kK (jE (E:=E0) (aW (cO hr.units) dW (dv 2) aj nm))
 (aC (qr (Q1 (PQ (E:=E0) ["_law_pair","_law_state"] 1 [0] rfl (p7 (E:=E0) (fq (dv 1))) (eK (by decide)) (λs H C fp pn=>⟨λHe η=>(cC (i:=0) (show VB (["_law_pair","_law_state"]:bi) from by decide) rfl (UB rfl)),λHe η=>(rM 1 (oK T) hr (aM (aK (E:=E0) (dv 0)) aU))⟩) ⟨rfl,rfl⟩ rfl rfl rfl rfl) sA))
 bF)
 bF)
 (aC (qr (iJ (iJ (aK (E:=E0) (dq (dv 1) eJ (eI (dv 3)))) (wG (aM (rM 0 (oK T) hr (aM (aK (E:=E0) (av (dv 1) (dv 3))) aU)) aU))) (aK (E:=E0) (dq (dv 1) (eI (cE (dv 3) aj)) eJ))))
 bF))))))))))
def ok_law(T:Txt K mg t):eR P w K mg base CX0 14 (t.A 55) (t.Q 55) ["_law_script"] (spD K 1 m_law) "law" (top 93) :=
 oD T.g sc (i:=55) rfl λ_ _ _ _ _ _ _ hr=>(
 (ai (m7 Vo rfl rfl T.n_range (aX (Ds rfl) NS rfl T.n_max PyProof.Rows.Boot.«max» (aa aj (aa (aX (u4 rfl) Gs rfl T.n_min PyProof.Rows.Boot.«min» (aa (aX bG cD rfl T.n_len PyProof.Rows.Boot.«len» (aa (dv 0) aq)) (aa aj aq))) aq))) (cC (i:=1) (nd 55) rfl (UB rfl)) dk
 (Dg (i:=2) (nd 55) rfl (UB rfl) (rF (qT T) hr (aa (dv 0) (aa (dv 1) aq))) λa=>(aC (cJ (i:=3) (nd 55) rfl (UB rfl) (rM 2 (yb T) hr (aM (aK (E:=E0) (av (cg (aa aj (aa aj (aa aj aq)))) (dv 1))) (aM (aK (E:=E0) (av (cg (aa aj (aa aj (aa aj aq)))) (dv 1))) aU))))
 (aC (cJ (i:=4) (nd 55) rfl (UB rfl) (rM 2 (qS T) hr (aM (aK (E:=E0) (rC (nT T) hr (aa (dv 3) (aa (cg aq) aq)))) aU)))
 (aC (kK (jE (E:=E0) (DW.dt (c6 (bP (bA (rC (jf T) hr (aa (dv 3) (aa (dv 4) aq))))) (bj (bP (bA (rC (jf T) hr (aa (dv 3) (aa (cg aq) aq)))))))))
 (aC (fP (E:=E0) fZ)
 bF)
 bF)
 (aC (pS (E:=E0) Vo rfl (p7 (E:=E0) (jF rfl T.n_range (dH aj (ng u5 Gu rfl T.n_int PyProof.Rows.Boot.«int» (aa (eC (eM hr.units) gK (dv 4) (cg aq) nm) aq))))) (λvs=>(cC (i:=5) (nd 55) rfl (UB rfl))) dk
 (aC (kK (J1 (J0 (To (jf T) hr (aM (aK (E:=E0) (dv 3)) (aM (rM 2 (vW T) hr (aM (aK (E:=E0) (dv 4)) aU)) aU)))))
 (aC (fP (E:=E0) fZ)
 bF)
 bF)
 bF))
 bF))))))
 (ai (aS fZ)
 ak)))
end
def txt_mk{h:UO}(X:K.In h)(G:h.Ns US mg)(qs:QAs K rows [a0,a1,a2,a3,a4,a5,a6,a7,a8,a9,a10,a11,a12,a13,a14,a15,a16,a17,a18,a19,a20,a21,a22,a23,a24,a25,a26,a27,a28,a29,a30,a31,a32,a33,a34,a35,a36,a37,a38,a39,a40,a41,a42,a43,a44,a45,a46,a47,a48,a49,a50,a51,a52,a53,a54,a55])
  (z_ValueError:VC K US "ValueError"=some none)
  (z_abs:VC K US "abs"=some none)
  (z_all:VC K US "all"=some none)
  (z_bool:VC K US "bool"=some none)
  (z_dict:VC K US "dict"=some none)
  (z_enumerate:VC K US "enumerate"=some none)
  (z_int:VC K US "int"=some none)
  (z_isinstance:VC K US "isinstance"=some none)
  (z_len:VC K US "len"=some none)
  (z_list:VC K US "list"=some none)
  (z_max:VC K US "max"=some none)
  (z_min:VC K US "min"=some none)
  (z_range:VC K US "range"=some none)
  (z_repr:VC K US "repr"=some none)
  (z_str:VC K US "str"=some none)
  (z_sum:VC K US "sum"=some none)
  (z_tuple:VC K US "tuple"=some none)
  (oW:jo K "CutError" cf)
  (rk:jo K "NoCases" eB)
  (qi:vh K "NoMix" cj)
  (oV:jo K "NoNumber" dF)
  (oU:jo K "NoSpread" dE)
  (qh:vh K "NoWay" b6)
  (yq:jo K "NoWeb" gD)
  
  
  (xj:K.lookup cj=some (excClassObj PL Ph cj BA Rg [.ref cf,.type "ValueError",.type "Exception",.type "BaseException",.type "object"] Qi O4 OZ Ro Ox Q7 Qd Qb P9 P7 P5 "ValueError.__new__")) (xh:K.lookup BA=some ⟨Rb,QZ,.dict F3 QK,O1⟩) (xo:F3.toList.all E9=true) (xf:VC K BA "__init__"=some (some (.ref fY)))
  (EF:W.isFn K (.ref fY)=true) (xR:K.lookup fY=some ⟨Ol,Oi,.func (WH "__init__" "NoMix.__init__" (defArgs jx) (defBody jx) (defScope jx) .none Oo Ot Og Oz Dq Ov),Oe⟩) (xP:Yk K Dq "NoMix.__init__"=true) (xN:WN K (.ref fY)=true)
  (Cp:WB K (.ref cj) "__setattr__"=some (some (.builtin "object.__setattr__"))) (Cr:W0 K cj=true) (vv:WB K (.ref cj) "at"=some none)
  
  
  (xi:K.lookup b6=some (excClassObj PK Pg b6 Bz Rc [.ref cf,.type "ValueError",.type "Exception",.type "BaseException",.type "object"] Qh O3 OY Rn Ow Q6 Qc Qa P8 P6 P4 "ValueError.__new__")) (xg:K.lookup Bz=some ⟨Ra,QY,.dict F2 QJ,O0⟩) (xm:F2.toList.all E9=true) (xa:VC K Bz "__init__"=some (some (.ref fX)))
  (EE:W.isFn K (.ref fX)=true) (xQ:K.lookup fX=some ⟨Oj,Oh,.func (WH "__init__" "NoWay.__init__" (defArgs jv) (defBody jv) (defScope jv) .none Om Oq Of Oy Dp Ou),Od⟩) (xO:Yk K Dp "NoWay.__init__"=true) (xM:WN K (.ref fX)=true)
  (Co:WB K (.ref b6) "__setattr__"=some (some (.builtin "object.__setattr__"))) (Cq:W0 K b6=true) (vt:WB K (.ref b6) "at"=some none)
  (ib:Zh K cf [.type "ValueError",.type "Exception",.type "BaseException",.type "object"] "ValueError.__new__"=true) (vq:W.readsIn K cf (.type "type")=true) (vy:W.findCls K (.ref cf) (.type "type") "__init__"=some (.val (.builtin "ValueError.__init__"))) (vp:Yx K (.ref cf) "__getattribute__"=some (some (.builtin "type.__getattribute__")))
  (gB:K6 K cj [(cf,true),(eB,false),(cj,true),(dF,false),(dE,false),(b6,false),(gD,false)])
  (jX:K6 K b6 [(cf,true),(eB,false),(cj,false),(dF,false),(dE,false),(b6,true),(gD,false)])
  (pv:VC K US "FEWEST_PLACES"=some (some (.int 2 DH)))
  (G4:VC K US "FIRST"=some (some (.int 2 RJ)))
  (Ld:VC K US "LAST"=some (some (.int 3 R4)))
  (DR:VC K US "LENGTH"=some (some (.int 3 OM)))
  (Cn:VC K US "LETTERS"=some (some (.str "abcdefghijklmnopqrstuvwxyz" Oa)))
  (qg:VC K US "LONGEST_NAME"=some (some (.int 8 Ei)))
  (tL:VC K US "MOST_PLACES"=some (some (.int 7 GS)))
  (w8:VC K US "MOST_TIES"=some (some (.int 14 Ky)))
  (DQ:VC K US "NOUGHT"=some (some (.ref EH))) (D2:K.lookup EH=some E8) (D3:∃od its n sl vs,E8=⟨.type "tuple",od,.seq its n,sl⟩/\bz vs its.toList/\its.size<=sizeLine/\∀H,Reps K H [.int 0,.int 1] vs)
  (OD:VC K US "ONE"=some (some (.int 0 Tg)))
  (G3:VC K US "OTHER"=some (some (.int 1 RI)))
  (DP:VC K US "PLACES"=some (some (.int 0 OL)))
  (Lc:VC K US "TIES"=some (some (.int 1 R3)))
  (G2:VC K US "WHOLE"=some (some (.ref HN))) (Hh:K.lookup HN=some Ii) (Hn:∃od its n sl vs,Ii=⟨.type "tuple",od,.seq its n,sl⟩/\bz vs its.toList/\its.size<=sizeLine/\∀H,Reps K H [.int 1,.int 1] vs)
  (Lb:VC K US "WORD"=some (some (.int 2 R0)))
  (G1:VC K US "WORDS"=some (some (.ref HM))) (Hg:K.lookup HM=some Ih) (Hm:∃od its n sl vs,Ih=⟨.type "tuple",od,.seq its n,sl⟩/\bz vs its.toList/\its.size<=sizeLine/\∀H,Reps K H [.str "one",.str "both"] vs)
  (G0:VC K US "WORTH"=some (some (.int 4 RH))) :
  ∃t:Adr,Txt K mg t/\t.A 55=a55/\∃kV doc pm an cdv ct,t.Q 55=WH "law" "law" (defArgs (top 93)) (defBody (top 93)) (defScope (top 93)) .none kV doc pm an cdv ct:=by
 obtain⟨Q,hQ⟩:=Kx X G bn qs;have D_law:=(hQ 55 _ rfl).2;refine⟨⟨fY,_,fX,_,cf,eB,cj,dF,dE,b6,gD,λi=>[a0,a1,a2,a3,a4,a5,a6,a7,a8,a9,a10,a11,a12,a13,a14,a15,a16,a17,a18,a19,a20,a21,a22,a23,a24,a25,a26,a27,a28,a29,a30,a31,a32,a33,a34,a35,a36,a37,a38,a39,a40,a41,a42,a43,a44,a45,a46,a47,a48,a49,a50,a51,a52,a53,a54,a55].getD i 0,Q⟩,⟨λi r h=>(hQ i r h).1,VE X G z_ValueError,VE X G z_abs,VE X G z_all,VE X G z_bool,VE X G z_dict,VE X G z_enumerate,VE X G z_int,VE X G z_isinstance,VE X G z_len,VE X G z_list,VE X G z_max,VE X G z_min,VE X G z_range,VE X G z_repr,VE X G z_str,VE X G z_sum,VE X G z_tuple,V1 X G oW.ns,oW,V1 X G rk.ns,rk,V1 X G qi.i.ns,qi.i,V1 X G oV.ns,oV,V1 X G oU.ns,oU,V1 X G qh.i.ns,qh.i,V1 X G yq.ns,yq,qi,qh,nZ xR xP xN,?kZ,vx xj xh xo xf ib,DU (vx xj xh xo xf ib) Cp Cr (yf vv (Bx)),EF,nZ xQ xO xM,?kY,vx xi xg xm xa ib,DU (vx xi xg xm xa ib) Co Cq (yf vt (Bx)),EE,⟨vq,vy,vp⟩,gB,jX,?gU,?nu,?oq,?nt,?oo,?iQ,?jk,?kX,?kW,?sO,?ki,?jJ,?jj,?wN,?sN,?wM,?lG⟩,rfl,D_law⟩
 case kZ=>exact(nZ (st:=jx) xR xP xN).binds λ_ _ _ _ _ _ us hl=>by obtain⟨_,_,rfl⟩:=RN hl;rfl
 case kY=>exact(nZ (st:=jv) xQ xO xM).binds λ_ _ _ _ _ _ us hl=>by obtain⟨_,_,rfl⟩:=RN hl;rfl
 case gU=>exact eV (V1 X G pv)
 case nu=>exact eV (V1 X G G4)
 case oq=>exact eV (V1 X G Ld)
 case nt=>exact eV (V1 X G DR)
 case oo=>exact IA (V1 X G Cn)
 case iQ=>exact eV (V1 X G qg)
 case jk=>exact eV (V1 X G tL)
 case kX=>exact eV (V1 X G w8)
 case kW=>
  obtain⟨od,its,n,sl,vs,rfl,h1,h2,h3⟩:=D3;exact v8 (V1 X G DQ) D2 h1 h2 h3
 case sO=>exact eV (V1 X G OD)
 case ki=>exact eV (V1 X G G3)
 case jJ=>exact eV (V1 X G DP)
 case jj=>exact eV (V1 X G Lc)
 case wN=>
  obtain⟨od,its,n,sl,vs,rfl,h1,h2,h3⟩:=Hn;exact v8 (V1 X G G2) Hh h1 h2 h3
 case sN=>exact eV (V1 X G Lb)
 case wM=>
  obtain⟨od,its,n,sl,vs,rfl,h1,h2,h3⟩:=Hm;exact v8 (V1 X G G1) Hg h1 h2 h3
 case lG=>exact eV (V1 X G G0)
def txt_wr{R:Adr->Prop}(h:∃t:Adr,Txt K mg t/\t.A 55=a/\R t):∃t:Adr,Txt K mg t/\mg "law"=some (.ref (t.A 55))/\R t:=h.elim λt ⟨T,_,r⟩=>⟨t,T,(T.g 55 _ rfl).g,r⟩
end K53
namespace Vlx
open PySem L2 DL Com Bor Pth Vlu Bfd
open K51 (Bd pl)
def eq_fr:gO (fr x) (fr y)=.ok (.bl (decide (x=y))):=by
 obtain⟨a,b⟩:=x;obtain⟨c,d⟩:=y;have h:gO (fr (a,b)) (fr (c,d))=.ok (.bl ((a==c)&&((b==d)&&true))):=by
  unfold gO;rw[if_pos ⟨rfl,rfl⟩];show ar.ok (D.bl (c8 (.tup [.int a,.int b]) (.tup [.int c,.int d])))=_;rw[c8,eqDs,eqDs,eqDs,c8,c8]
 rw[h]
 by_cases e:(a,b)=(c,d)
 .cases e;simp
 .rw[decide_eq_false e]
  have:((a==c)&&((b==d)&&true))=false:=by
   rw[Bool.and_true,WJ]
   by_cases h1:a=c
   .right;exact beq_eq_false_iff_ne.mpr λh2=>e (by rw[h1,h2])
   .left;exact beq_eq_false_iff_ne.mpr h1
  rw[this]
end Vlx
namespace K15
open PySem L2 DL Com Bor Pth
open K11 (nums ways pr there oS)
def there_ways(T:pj zs t):there t a=some b↔(a,b)∈ways t:=by
 have ne:=T.ne;unfold there ways;rcases T.w with e|e
 .rw[if_pos e]
  constructor
  .intro h
   split at h
   .next h1=>cases h;subst h1;exact UL.mpr rfl
   .split at h
    .next h2=>rw[e]at h2;exact absurd h2.2 (by decide)
    .cases h
  .intro h
   have:=UL.mp h;cases this;rw[if_pos rfl]
 .have e1:t.w≠"one":=by rw[e];decide
  rw[if_neg e1];constructor
  .intro h
   split at h
   .next h1=>cases h;subst h1;exact UU
   .split at h
    .next h2=>cases h;rw[←h2.1];exact UH _ (UL.mpr rfl)
    .cases h
  .intro h
   rcases UI.mp h with h|h
   .cases h;rw[if_pos rfl]
   .have:=UL.mp h
    cases this;rw[if_neg ne,if_pos ⟨rfl,e⟩]
structure gF where
 y:bv
 s:bi
 z:UP
def gF.seen(e:gF):bi:=e.s++[e.z]
def ot(e:gF):D:=.tup [.lst (nums e.y),.lst (e.seen.map D.str)]
structure gu (w:iT) (ks:bv) (e:gF):Prop where
 wk:AJ w ks w.fi e.y e.z
 nd:e.seen.Nodup
 pl:∀p∈e.seen,p∈w.ps
 ln:e.y.length=e.s.length
def kid(w:iT)(ks:bv)(e:gF)(n:Nat):List gF:=match w.ts[n]? with
 |none=>[]
 |some t=>match there t e.z with
  |none=>[]
  |some b=>if b∉e.seen/\n∉ks then[⟨e.y++[n],e.seen,b⟩] else[]
def kids(w:iT)(ks:bv)(e:gF):Nat->List gF
 |0=>[]
 |k+1=>kids w ks e k++kid w ks e k
def kid_le:(kid w ks e n).length<=1:=by
 unfold kid;split
 .simp
 .split
  .simp
  .split<;>simp
theorem v9:∀k,(kids w ks e k).length<=k
 |0=>UC _
 |k+1=>by
  have h1:=v9 (w:=w) (ks:=ks) (e:=e) k;have h2:=kid_le (w:=w) (ks:=ks) (e:=e) (n:=k);unfold kids;rw[U0];omega
theorem gL:∀{k:Nat},c∈kids w ks e k↔∃n,n<k/\c∈kid w ks e n
 |0=>by simp[kids]
 |k+1=>by
  unfold kids;rw[U6,gL (k:=k)];constructor
  .rintro(⟨n,h1,h2⟩|h)
   .exact⟨n,by omega,h2⟩
   .exact⟨k,by omega,h⟩
  .rintro⟨n,h1,h2⟩
   by_cases h:n=k
   .subst h;exact .inr h2
   .exact .inl ⟨n,by omega,h2⟩
def mem_kid(W:cc w):c∈kid w ks e n↔∃b,GN w ks n e.z b/\b∉e.seen/\c=⟨e.y++[n],e.seen,b⟩:=by
 unfold GN;cases ht:w.ts[n]? with
 |none=>
  have hk:kid w ks e n=[]:=by unfold kid;rw[ht]
  rw[hk];simp
 |some t=>
  have T:=W.ts t (UX ht);cases hh:there t e.z with
  |none=>
   have hk:kid w ks e n=[]:=by unfold kid;rw[ht];simp only[hh]
   rw[hk];simp only[Vq,false_iff];rintro⟨b,⟨u,h1,h2,h3⟩,_⟩;cases h1;rw[(there_ways T).mpr h3]at hh;cases hh
  |some b=>
   have hb:=(there_ways T).mp hh;have hk:kid w ks e n=if b∉e.seen/\n∉ks then[⟨e.y++[n],e.seen,b⟩] else[]:=by unfold kid;rw[ht];simp only[hh]
   rw[hk];constructor
   .intro h
    split at h
    .next h1=>exact⟨b,⟨t,rfl,h1.2,hb⟩,h1.1,UL.mp h⟩
    .cases h
   .rintro⟨b',⟨u,h1,h2,h3⟩,h4,rfl⟩
    cases h1;have:=(there_ways T).mpr h3;rw[hh]at this;cases this;rw[if_pos ⟨h4,h2⟩];exact UL.mpr rfl
def kid_ok(W:cc w)(h:gu w ks e)(hc:c∈kid w ks e n):gu w ks c/\c.s.length=e.s.length+1:=by
 obtain⟨b,g,hb,rfl⟩:=(mem_kid W).mp hc;obtain⟨t,t1,t2,t3⟩:=g;have T:=W.ts t (UX t1);have hs:(⟨e.y++[n],e.seen,b⟩:gF).seen=e.seen++[b]:=rfl;refine⟨⟨.snoc h.wk ⟨t,t1,t2,t3⟩,?_,?_,?_⟩,?_⟩
 .rw[hs,W8]
  refine⟨h.nd,by simp,λa ha b' hb' z=>?_⟩;have:=UL.mp hb';subst this;subst z;exact hb ha
 .intro p hp
  rw[hs,U6]at hp;rcases hp with hp|hp
  .exact h.pl p hp
  .rw[UL.mp hp];exact(AV T t3).2.1
 .show(e.y++[n]).length=e.seen.length
  unfold gF.seen;rw[U0,U0,h.ln];rfl
 .show e.seen.length=_
  unfold gF.seen;rw[U0];rfl
def gu.len(h:gu w ks e):e.s.length+1<=w.ps.length:=by
 have h1:e.seen.length<=w.ps.length:=by
  have:=VB.length_le_of_subset h.nd (λp hp=>h.pl p hp);exact this
 unfold gF.seen at h1;rw[U0]at h1;exact h1
inductive gX (w:iT) (ks:bv):gF->bv->Prop where
 |here {e:gF}:e.z=w.la->gX w ks e e.y
 |step {e:gF}{n:Nat}{b:UP}{p:bv}:e.z≠w.la->GN w ks n e.z b->b∉e.seen->gX w ks ⟨e.y++[n],e.seen,b⟩ p->gX w ks e p
def FL(h:gX w ks e p)(hl:e.z=w.la):p=e.y:=by
 cases h with|here _=>rfl|step h1 _ _ _=>exact absurd hl h1
def BW(W:cc w)(h:gX w ks e p)(hl:e.z≠w.la):∃c∈kids w ks e w.ts.length,gX w ks c p:=by
 cases h with
 |here h=>exact absurd h hl
 |step h1 h2 h3 h4=>
  refine⟨_,gL.mpr ⟨_,?_,(mem_kid W).mpr ⟨_,h2,h3,rfl⟩⟩,h4⟩;obtain⟨t,t1,_⟩:=h2;exact(Ux.mp t1).1
open K11 (nums ways pr there oS jq ef eq_str dO)
def Ce(h:ds.length<line):NW i ρ ds d=.ok (.nx (ρ.set i (.ow (.lst (ds++[d]))))):=if_pos h
def Ff(h:ds≠[])(hs:ds.all (bC 39)=true):gi (.lst ds) (.lst [])=.ok (.bl true):=by
 cases ds with
 |nil=>exact absurd rfl h
 |cons d ds=>
  unfold gi;rw[if_pos ⟨hs,rfl⟩];rfl
def xE{S:List gF}:(S.map ot).all (bC 39)=true:=Va.mpr λd hd=>by
 obtain⟨e,_,rfl⟩:=U4.mp hd;have h1:bC 38 (.lst (nums e.y))=true:=K11.shal_nums (m:=37);have h2:bC 38 (.lst (e.seen.map D.str))=true:=nN (n:=37);show(bC 38 (.lst (nums e.y))&&(bC 38 (.lst (e.seen.map D.str))&&true))=true;rw[h1,h2];rfl
noncomputable abbrev kB:bd :=
 (aw (bT 7 (ao (ae (ag (ag (af 0) (dC (.int 1)) aO) (af 6) aO) (ae (ag (af 5) (aY (dC (.int 1)) og) aO) az)) bN))
 (aw (dM (f9 (ag (af 7) (dC (.non)) nj) (f9 (ag (af 7) (af 5) dS) (ag (af 6) (af 1) dS)))
 (aw (du 2 (ao (ae (ag (af 4) (ao (ae (af 6) az) b5) bX) (ae (ag (af 5) (ao (ae (af 7) az) b5) bX) az)) cT))
 au)
 au)
 au))
noncomputable abbrev wB:bd :=
 (aw (jU [4,5] 2)
 (aw (dM (ag (ag (af 5) (aY (dC (.int 1)) og) aO) (ag (af 0) (dC (.int 3)) aO) gO)
 (aw (du 3 (af 4))
 au)
 (aw (oB (ao (ae (ag (af 0) (dC (.int 1)) aO) az) (m1 cB)) (bU 6)
 kB)
 au))
 au))
def tj(w:iT)(ks:bv)(S:List gF)(F:List (bv))(x4 x5 x6 x7:Sl):Ev:=[.sh (aP w),.sh (eE ks),.ow (.lst (S.map ot)),.ow (.lst (F.map λp=>.lst (nums p))),x4,x5,x6,x7]
def CQ{n:Nat}:nums p++[D.int (n:Int)]=nums (p++[n]):=by
 unfold nums;rw[U9];rfl
def nums_len:(nums p).length=p.length:=by unfold nums;rw[Us]
def Fz(W:cc w)(B:gu w ks e){S:List gF}(hS:S.length<line)(hk:k<w.ts.length)(h7:x7=.no∨∃d,x7=.sh d) :
  ∃y,(y=.no∨∃d,y=.sh d)/\kB (tj w ks S F (.sh (.lst (nums e.y))) (.sh (.lst (e.seen.map D.str))) (.sh (.int (k:Int))) x7)=.ok (.nx (tj w ks (S++kid w ks e k) F (.sh (.lst (nums e.y))) (.sh (.lst (e.seen.map D.str))) (.sh (.int (k:Int))) y)):=by
 have i1:aO (aP w) (.int 1)=.ok (.lst (w.ts.map cz)):=rfl;have ht:w.ts[k]?=some w.ts[k]:=Ut hk;have hti:=qo ht;have hix:aO (.lst (e.seen.map D.str)) (.int (-1))=.ok (.str e.z):=dO;have n7:=W.n7;have hl:=B.len;have e2:=jq (t:=w.ts[k]) (z:=e.z);cases hth:there w.ts[k] e.z with
 |none=>
  rw[hth]at e2;simp only[oS]at e2;have hkid:kid w ks e k=[]:=by unfold kid;rw[ht];simp only[hth]
  refine⟨.sh .non,.inr ⟨_,rfl⟩,?_⟩;rw[hkid,Vd];unfold tj kB;open_line with[i1,hti,hix,e2]
 |some b=>
  rw[hth]at e2;simp only[oS]at e2;have hkid:kid w ks e k=if b∉e.seen/\k∉ks then[⟨e.y++[k],e.seen,b⟩] else[]:=by unfold kid;rw[ht];simp only[hth]
  refine⟨.sh (.str b),.inr ⟨_,rfl⟩,?_⟩;have hks:eE ks=.lst (ks.map λ(k:Nat)=>D.int (k:Int)):=rfl;rw[hkid]
  by_cases h3:b∈e.seen
  .rw[if_neg (λz=>z.1 h3),Vd]
   unfold tj kB;open_line with[i1,hti,hix,e2,gw,decide_eq_true h3]
  .by_cases h4:k∈ks
   .rw[if_neg (λz=>z.2 h4),Vd]
    unfold tj kB;rw[hks];open_line with[i1,hti,hix,e2,gw,decide_eq_false h3,ef,decide_eq_true h4]
   .rw[if_pos ⟨h3,h4⟩]
    have hl1:decide ((nums e.y).length+1<=1000)=true:=decide_eq_true (by rw[nums_len,B.ln];omega);have hl2:decide ((e.seen.map D.str).length+1<=1000)=true:=decide_eq_true (by rw[Us];unfold gF.seen;rw[U0];show e.s.length+1+1<=1000;omega);have a1:bX (.lst (nums e.y)) (.lst [.int (k:Int)])=.ok (.lst (nums (e.y++[k]))):=by rw[kd hl1,CQ]
    have a2:bX (.lst (e.seen.map D.str)) (.lst [.str b])=.ok (.lst ((e.seen++[b]).map D.str)):=by rw[kd hl2,U9];rfl
    have hm:(S++[(⟨e.y++[k],e.seen,b⟩:gF)]).map ot=S.map ot++[.tup [.lst (nums (e.y++[k])),.lst ((e.seen++[b]).map D.str)]]:=by rw[U9];rfl
    have hSl:(S.map ot).length<line:=by rw[Us];exact hS
    unfold tj kB;rw[hks,hm];open_line with[i1,hti,hix,e2,gw,decide_eq_false h3,ef,decide_eq_false h4,a1,a2,Ce hSl]
def CW(W:cc w)(B:gu w ks e){S:List gF}(hS:S.length+14<line)(h7:x7=.no∨∃d,x7=.sh d) :
  ∃y6 y7,(y7=.no∨∃d,y7=.sh d)/\b7 (bU 6) kB (DL.intsFrom 0 w.ts.length) (tj w ks S F (.sh (.lst (nums e.y))) (.sh (.lst (e.seen.map D.str))) x6 x7)=.ok (.nx (tj w ks (S++kids w ks e w.ts.length) F (.sh (.lst (nums e.y))) (.sh (.lst (e.seen.map D.str))) y6 y7)):=by
 have t14:=W.t14;obtain⟨ρ',h1,y6,y7,rfl,h2⟩:=wq (i:=6) (body:=kB) (n:=w.ts.length)
  (λk ρ=>∃y6 y7,ρ=tj w ks (S++kids w ks e k) F (.sh (.lst (nums e.y))) (.sh (.lst (e.seen.map D.str))) y6 y7/\(y7=.no∨∃d,y7=.sh d)) (by
   rintro k hk ρ ⟨y6,y7,rfl,h7⟩;obtain⟨y,hy,e1⟩:=Fz W B (S:=S++kids w ks e k) (F:=F) (by
    have:=v9 (w:=w) (ks:=ks) (e:=e) k;rw[U0];omega) hk h7
   refine⟨_,e1,.sh (.int (k:Int)),y,?_,hy⟩;rw[show kids w ks e (k+1)=kids w ks e k++kid w ks e k from rfl,←Wq])
  (ρ:=tj w ks S F (.sh (.lst (nums e.y))) (.sh (.lst (e.seen.map D.str))) x6 x7) ⟨x6,x7,by rw[show kids w ks e 0=[] from rfl,Vd],h7⟩
 exact⟨y6,y7,h2,h1⟩
def Nf(h:ρ[i]?=some (.ow (.lst (ds++[d]))))(hp:eT is.length d=some es):jU is i ρ=.ok (.nx (dA (ρ.set i (.ow (.lst ds))) is es)):=by
 unfold jU;rw[h];show pR is i ρ (ds++[d])=_;unfold pR;rw[List.getLast?_concat];simp only;rw[hp];simp only;rw[List.dropLast_concat]
def xu(W:cc w)(B:gu w ks e){S:List gF}(hS:S.length+14<line)(hF:F.length<line)(h7:x7=.no∨∃d,x7=.sh d) :
  ∃y4 y5 y6 y7,(y7=.no∨∃d,y7=.sh d)/\wB (tj w ks (S++[e]) F x4 x5 x6 x7)=.ok (.nx (tj w ks (S++if e.z=w.la then[] else kids w ks e w.ts.length) (F++if e.z=w.la then[e.y] else[]) y4 y5 y6 y7)):=by
 have t14:=W.t14;have hm:(S++[e]).map ot=S.map ot++[ot e]:=by rw[U9];rfl
 have hpop:jU [4,5] 2 (tj w ks (S++[e]) F x4 x5 x6 x7)=.ok (.nx (tj w ks S F (.sh (.lst (nums e.y))) (.sh (.lst (e.seen.map D.str))) x6 x7)):=by
  rw[Nf (ds:=S.map ot) (d:=ot e) (es:=[.lst (nums e.y),.lst (e.seen.map D.str)]) (by rw[←hm];rfl) rfl];rfl
 have hix:aO (.lst (e.seen.map D.str)) (.int (-1))=.ok (.str e.z):=dO;have i1:aO (aP w) (.int 1)=.ok (.lst (w.ts.map cz)):=rfl;have i3:aO (aP w) (.int 3)=.ok (.str w.la):=rfl
 by_cases hz:e.z=w.la
 .simp only[if_pos hz]
  refine⟨.sh (.lst (nums e.y)),.sh (.lst (e.seen.map D.str)),x6,x7,h7,?_⟩;have hFl:(F.map λp=>D.lst (nums p)).length<line:=by rw[Us];exact hF
  unfold wB;rw[An,hpop];unfold tj;rw[Vd,U9];open_line with[hix,i3,eq_str,decide_eq_true hz,Ce hFl]
 .simp only[if_neg hz]
  obtain⟨y6,y7,hy,hl⟩:=CW W B hS (F:=F) (x6:=x6) h7;refine⟨.sh (.lst (nums e.y)),.sh (.lst (e.seen.map D.str)),y6,y7,hy,?_⟩;have hlen:cB (.lst (w.ts.map cz))=.ok (.int w.ts.length):=by rw[eH,Us]
  have hR:∀ρ,BR (bU 6) kB ρ (.int (w.ts.length:Int))=b7 (bU 6) kB (DL.intsFrom 0 w.ts.length) ρ:=λρ=>iI (by omega);unfold wB;rw[An,hpop,Vd];unfold tj at hl ⊢;open_line with[hix,i1,i3,eq_str,decide_eq_false hz,hlen,hR,hl]
end K15
namespace Way
open PySem L2 DL Com Bor Pth K15
open K11 (nums ways pr there oS)
def one(t:wY)(z:UP):Nat:=if(there t z).isSome then 1 else 0
def lF(ts:List wY)(z:UP):Nat:=(ts.map λt=>one t z).sum
def Pr(ts:List wY)(R:bi):Nat:=R.foldr (λu n=>(1+lF ts u)*n) 1
theorem AM:∀R,1<=Pr ts R
 |[]=>UC _
 |u::R=>by
  have:=AM (ts:=ts) R;show 1<=(1+lF ts u)*Pr ts R;exact Nat.mul_pos (by omega) this
theorem AN{ts:List wY}{b:UP}:∀{R:bi},R.Nodup->b∈R->Pr ts R=(1+lF ts b)*Pr ts (R.filter λu=>decide (u≠b))
 |[],_,h=>by cases h
 |u::R,nd,h=>by
  rw[Wd]at nd
  by_cases e:u=b
  .subst e
   have hf:(u::R).filter (λv=>decide (v≠u))=R:=by
    rw[List.filter_cons,if_neg (by simp)];exact List.filter_eq_self.mpr λv hv=>decide_eq_true λz=>nd.1 (z▸hv)
   rw[hf];rfl
  .have hb:b∈R:=by
    rcases UI.mp h with z|z
    .exact absurd z.symm e
    .exact z
   rw[List.filter_cons,if_pos (decide_eq_true e)];show(1+lF ts u)*Pr ts R=(1+lF ts b)*((1+lF ts u)*Pr ts (R.filter λu=>decide (u≠b)));rw[AN nd.2 hb,Nat.mul_left_comm]
def IB(hn:n<w.ts.length):(kid w ks e n).length<=one w.ts[n] e.z:=by
 have ht:w.ts[n]?=some w.ts[n]:=Ut hn;unfold one kid;rw[ht];cases hh:there w.ts[n] e.z with
 |none=>simp[hh]
 |some b=>simp only[hh];split<;>simp
theorem yp:∀k,k<=w.ts.length->(kids w ks e k).length<=lF (w.ts.take k) e.z
 |0,_=>Wx _
 |k+1,h=>by
  have h1:=yp (w:=w) (ks:=ks) (e:=e) k (by omega);have h2:=IB (w:=w) (ks:=ks) (e:=e) (n:=k) (by omega);have h3:w.ts.take (k+1)=w.ts.take k++[w.ts[k]]:=by rw[List.take_succ,Ut (show k<w.ts.length by omega)];rfl
  have h4:lF (w.ts.take (k+1)) e.z=lF (w.ts.take k) e.z+one w.ts[k] e.z:=by
   unfold lF;rw[h3,U9,List.sum_append];simp
  rw[h4];unfold kids;rw[U0];omega
def un(w:iT)(e:gF):bi:=w.ps.filter λu=>decide (u∉e.seen)
def mj(w:iT)(e:gF):Nat:=(1+lF w.ts e.z)*Pr w.ts (un w e)
def yS:1<=mj w e:=Nat.mul_pos (by omega) (AM _)
def Gq(W:cc w)(h:gu w ks e)(hc:c∈kid w ks e n):mj w c=Pr w.ts (un w e):=by
 obtain⟨b,g,hb,rfl⟩:=(mem_kid W).mp hc;obtain⟨t,t1,t2,t3⟩:=g;have T:=W.ts t (UX t1);have hbp:=(AV T t3).2.1;have nd:(un w e).Nodup:=WG.filter _ W.nm.1;have hm:b∈un w e:=YE.mpr ⟨hbp,decide_eq_true hb⟩;have hu:un w ⟨e.y++[n],e.seen,b⟩=(un w e).filter λu=>decide (u≠b):=by
  unfold un;rw[List.filter_filter];refine List.filter_congr λu _=>?_;have hs:(⟨e.y++[n],e.seen,b⟩:gF).seen=e.seen++[b]:=rfl;rw[hs];simp[U6,not_or]
  by_cases e1:u=b<;>by_cases e2:u∈e.seen<;>simp[e1,e2]
 unfold mj;rw[hu,AN nd hm]
def mu(w:iT)(S:List gF):Nat:=(S.map (mj w)).sum
def zS{S S':List gF}:mu w (S++S')=mu w S+mu w S':=by unfold mu;rw[U9,List.sum_append]
def zR:mu w [e]=mj w e:=by simp[mu]
theorem Fh:∀{S:List gF},S.length<=mu w S
 |[]=>UC _
 |e::S=>by
  have h2:=Fh (w:=w) (S:=S);have h1:=yS (w:=w) (e:=e);show _<=(mj w e::S.map (mj w)).sum;rw[Vs,UZ];unfold mu at h2;omega
theorem Fi:∀{S:List gF},(∀e∈S,mj w e=c)->mu w S=S.length*c
 |[],_=>by simp[mu]
 |e::S,h=>by
  have h1:=h e UU;have h2:=Fi (S:=S) λu hu=>h u (UH _ hu);show(mj w e::S.map (mj w)).sum=_;rw[Vs,UZ,Nat.add_mul,h1];unfold mu at h2;omega
def Il(W:cc w)(h:gu w ks e):mu w (kids w ks e w.ts.length)+1<=mj w e:=by
 have h1:mu w (kids w ks e w.ts.length)=(kids w ks e w.ts.length).length*Pr w.ts (un w e):=Fi λc hc=>by
  obtain⟨n,_,hcn⟩:=gL.mp hc;exact Gq W h hcn
 have h2:=yp (w:=w) (ks:=ks) (e:=e) w.ts.length (UC _);rw[W7 (UC _)]at h2;have h3:=Xj (Pr w.ts (un w e)) h2;have h4:=AM (ts:=w.ts) (un w e);unfold mj;rw[h1,Nat.add_mul];omega
def Ic(t:wY)(z:UP):one t z<=1:=by unfold one;split<;>omega
def Ma(t:wY)(z:UP):one t z<=(if z=t.a then 1 else 0)+(if z=t.b then 1 else 0):=by
 have h:=Ic t z
 by_cases h1:t.a=z
 .rw[if_pos h1.symm];omega
 .by_cases h2:t.b=z
  .rw[if_pos h2.symm];omega
  .have:there t z=none:=by unfold there;rw[if_neg h1,if_neg (λq=>h2 q.1)]
   unfold one;rw[this];simp
theorem zu:∀{R:bi},R.Nodup->(R.map λz=>if z=a then 1 else 0).sum<=1
 |[],_=>by simp
 |z::R,nd=>by
  rw[Wd]at nd;rw[UG,Vs]
  by_cases e:z=a
  .subst e
   have:(R.map λv=>if v=z then 1 else 0)=R.map λ_=>0:=Xq λv hv=>if_neg λ(q:v=z)=>nd.1 (q▸hv);rw[this];have h0:∀L:bi,(L.map λ_=>0).sum=0:=λL=>by induction L with|nil=>rfl|cons _ _ ih=>simp[ih]
   rw[h0];simp
  .rw[if_neg e]
   have:=zu (a:=a) nd.2;omega
theorem vA{f g:UP->Nat}:∀R:bi,(R.map λz=>f z+g z).sum=(R.map f).sum+(R.map g).sum
 |[]=>rfl
 |z::R=>by simp only[UG,Vs,vA R];omega
theorem sum_le{f g:UP->Nat}(h:∀z,f z<=g z):∀R:bi,(R.map f).sum<=(R.map g).sum
 |[]=>UC _
 |z::R=>by
  have:=sum_le h R;have:=h z;simp only[UG,Vs];omega
theorem B5{R:bi}(nd:R.Nodup):∀ts:List wY,(R.map (lF ts)).sum<=2*ts.length
 |[]=>by
  have h0:∀L:bi,(L.map (lF [])).sum=0:=λL=>by induction L with|nil=>rfl|cons _ _ ih=>simp[ih,lF]
  rw[h0];simp
 |t::ts=>by
  have h1:=B5 nd ts;have h2:(R.map (lF (t::ts))).sum=(R.map λz=>one t z+lF ts z).sum:=rfl;have h3:=sum_le (Ma t) R;rw[vA (f:=λz=>if z=t.a then 1 else 0)]at h3;have h4:=zu (a:=t.a) nd;have h5:=zu (a:=t.b) nd;rw[h2,vA,UZ];have:(R.map λz=>one t z).sum=(R.map (one t)).sum:=rfl;omega
theorem AZ:∀x:Nat,x*6 ^ 5*5 ^ x<=5 ^ 6*6 ^ x
 |0=>by simp
 |1=>by decide
 |2=>by decide
 |3=>by decide
 |4=>by decide
 |5=>by decide
 |x+6=>by
  have h:=AZ (x+5);have h2:(x+6)*5<=6*(x+5):=by omega
  calc (x+6)*6 ^ 5*5 ^ (x+6)=((x+6)*5)*(6 ^ 5*5 ^ (x+5)):=by rw[show x+6=(x+5)+1 from rfl,Zl];grind
   _<=(6*(x+5))*(6 ^ 5*5 ^ (x+5)):=Xj _ h2
   _=6*((x+5)*6 ^ 5*5 ^ (x+5)):=by grind
   _<=6*(5 ^ 6*6 ^ (x+5)):=Nat.mul_le_mul_left _ h
   _=5 ^ 6*6 ^ (x+6):=by rw[show x+6=(x+5)+1 from rfl,Zl];grind
theorem K8:∀R:bi,Pr ts R*6 ^ (5*R.length)*5 ^ ((R.map (lF ts)).sum+R.length)<=5 ^ (6*R.length)*6 ^ ((R.map (lF ts)).sum+R.length)
 |[]=>by simp[Pr]
 |u::R=>by
  have h1:=K8 (ts:=ts) R;have h2:=AZ (1+lF ts u);have h:=Nat.mul_le_mul h2 h1;have e1:(List.map (lF ts) (u::R)).sum+(u::R).length=(1+lF ts u)+((R.map (lF ts)).sum+R.length):=by
   rw[UG,Vs,UZ];omega
  have e2:Pr ts (u::R)=(1+lF ts u)*Pr ts R:=rfl;rw[e1,e2,UZ,ZK,ZK,X3 5 (1+lF ts u),X3 6 (1+lF ts u),X3 6 (5*R.length),X3 5 (6*R.length)];generalize 5 ^ (1+lF ts u)=A at *;generalize 6 ^ (1+lF ts u)=B at *;generalize 5 ^ ((R.map (lF ts)).sum+R.length)=C at *;generalize 6 ^ ((R.map (lF ts)).sum+R.length)=E at *;generalize 6 ^ (5*R.length)=G at *;generalize 5 ^ (6*R.length)=I at *
  calc (1+lF ts u)*Pr ts R*(G*6 ^ (5*1))*(A*C)=(1+lF ts u)*6 ^ 5*A*(Pr ts R*G*C):=by grind
   _<=5 ^ 6*B*(I*E):=h
   _=I*5 ^ (6*1)*(B*E):=by grind
end Way
namespace K15
open PySem L2 DL Com Bor Pth
open K11 (nums ways pr there oS jq ef eq_str dO)
open K51 (Bd pl)
def Pl(x:Sl):Prop:=x=.no∨∃d,x=.sh d
abbrev wT:am:=ag (af 2) (ao az b5) gi
end K15
namespace Way
open PySem L2 DL Com Bor Pth
open K15 (gF gu ot kid kids gL kid_ok v9 gX FL BW tj wT wB kB xu Ff xE Pl)
open K11 (nums ways pr there oS jq ef eq_str dO)
def xC:∀n,n<8->∀s,s<29->5 ^ (6*n)*6 ^ (s+n)<100001*6 ^ (5*n)*5 ^ (s+n):=by decide
def GH(W:cc w):Pr w.ts w.ps<=100000:=by
 have h1:=K8 (ts:=w.ts) w.ps;have h2:=B5 W.nm.1 w.ts;have n7:=W.n7;have t14:=W.t14;have h3:=xC w.ps.length (by omega) (w.ps.map (lF w.ts)).sum (by omega);refine Nat.le_of_not_lt λc=>?_;have h4:100001*6 ^ (5*w.ps.length)*5 ^ ((w.ps.map (lF w.ts)).sum+w.ps.length)<=Pr w.ts w.ps*6 ^ (5*w.ps.length)*5 ^ ((w.ps.map (lF w.ts)).sum+w.ps.length):=Xj _ (Xj _ c);exact absurd (UA h3 (U8 h4 h1)) (WE _)
def su(W:cc w):mj w ⟨[],[],w.fi⟩<=100000:=by
 have h:mj w ⟨[],[],w.fi⟩=Pr w.ts w.ps:=by
  rw[AN W.nm.1 W.fi];unfold mj un
  congr 2
  refine List.filter_congr λu _=>?_;simp[gF.seen]
 rw[h];exact GH W
def NP(a b:bv):Prop:=¬a <+: b/\¬b <+: a
structure tI (S:List gF) (F:List (bv)):Prop where
 pw:S.Pairwise λa b=>NP a.y b.y
 fs:∀f∈F,∀e∈S,¬e.y <+: f
 nd:F.Nodup
def tI.done{S:List gF}(h:tI (S++[e]) F):tI S (F++[e.y]):=by
 have hp:=Xk.mp h.pw;refine⟨hp.1,λf hf d hd=>?_,?_⟩
 .rcases U6.mp hf with hf|hf
  .exact h.fs f hf d (VL _ hd)
  .rw[UL.mp hf]
   exact(hp.2.2 d hd e (UL.mpr rfl)).1
 .refine W8.mpr ⟨h.nd,by simp,λa ha b hb c=>?_⟩
  rw[UL.mp hb]at c;exact h.fs a ha e (Vi _ (UL.mpr rfl)) (c▸List.prefix_rfl)
def BH(h:d∈kid w ks e n):d.y=e.y++[n]:=by
 unfold K15.kid at h;split at h
 .cases h
 .split at h
  .cases h
  .split at h
   .rw[UL.mp h]
   .cases h
def Ik(h:n≠m):NP (y++[n]) (y++[m]):=by
 constructor
 .intro c
  have:=c.eq_of_length (by simp);simp at this;exact h this
 .intro c
  have:=c.eq_of_length (by simp);simp at this;exact h this.symm
theorem BG:∀k,(kids w ks e k).Pairwise λa b=>NP a.y b.y
 |0=>Yq
 |k+1=>by
  unfold K15.kids;refine Xk.mpr ⟨BG k,?_,λa ha b hb=>?_⟩
  .have:=K15.kid_le (w:=w) (ks:=ks) (e:=e) (n:=k)
   match hk:kid w ks e k with
   |[]=>exact .nil
   |[x]=>exact Y8 _ _
   |x::y::r=>rw[hk]at this;simp at this
  .obtain⟨n,hn,ha⟩:=gL.mp ha
   rw[BH ha,BH hb];exact Ik (by omega)
def tI.kids{S:List gF}(h:tI (S++[e]) F)(k:Nat):tI (S++kids w ks e k) F:=by
 have hp:=Xk.mp h.pw;have me:e∈S++[e]:=Vi _ (UL.mpr rfl);refine⟨Xk.mpr ⟨hp.1,BG k,λa ha b hb=>?_⟩,λf hf d hd=>?_,h.nd⟩
 .obtain⟨n,_,hb⟩:=gL.mp hb
  have:=hp.2.2 a ha e (UL.mpr rfl);rw[BH hb];constructor
  .intro c
   rcases List.prefix_concat_iff.mp c with c|c
   .exact this.2 (by rw[c];exact Ye _ _)
   .exact this.1 c
  .intro c
   exact this.2 ((Ye _ _).trans c)
 .rcases U6.mp hd with hd|hd
  .exact h.fs f hf d (VL _ hd)
  .obtain⟨n,_,hd⟩:=gL.mp hd
   rw[BH hd];intro c;exact h.fs f hf e me ((Ye _ _).trans c)
section
variable {w:iT}(W:cc w) {ks:bv}
include W
theorem nG:∀(f:Nat) (S:List gF) (F:List (bv)) (x4 x5 x6 x7:Sl),(∀e∈S,gu w ks e/\∀y,gX w ks e y->gX w ks ⟨[],[],w.fi⟩ y)->(∀y∈F,AJ w ks w.fi y w.la/\y.length<=7/\gX w ks ⟨[],[],w.fi⟩ y)->mu w S<f->mu w S+F.length<=100000->tI S F->Pl x7 ->
  ∃F' y4 y5 y6 y7,cS wT wB f (tj w ks S F x4 x5 x6 x7)=.ok (.nx (tj w ks [] F' y4 y5 y6 y7))/\(∀y∈F',AJ w ks w.fi y w.la/\y.length<=7/\gX w ks ⟨[],[],w.fi⟩ y)/\F'.length<=100000/\F'.Nodup/\(∀y∈F,y∈F')/\∀e∈S,∀y,gX w ks e y->y∈F'
 |0,S,F,x4,x5,x6,x7,_,_,h,_,_,_=>by omega
 |f+1,S,F,x4,x5,x6,x7,hS,hF,hm,hn,hA,h7=>by
  have L:100000+14<line:=by decide
  rcases List.eq_nil_or_concat S with rfl|⟨S0,e,rfl⟩
  .refine⟨F,x4,x5,x6,x7,?_,hF,by omega,hA.nd,λ_ h=>h,λe he=>by cases he⟩
   have h1:wT (shr (tj w ks [] F x4 x5 x6 x7))=.ok (.bl false):=rfl;rw[ug h1]
  .rw[List.concat_eq_append]at *
   obtain⟨B,X⟩:=hS e (Vi _ (UL.mpr rfl));have h0:∀d∈S0,gu w ks d/\∀y,gX w ks d y->gX w ks ⟨[],[],w.fi⟩ y:=λd hd=>hS d (VL _ hd);rw[zS,zR]at hm hn;have hlen:=Fh (w:=w) (S:=S0);have hT:=yS (w:=w) (e:=e);have hk:=Il W B;have n7:=W.n7;have hbl:=B.len;obtain⟨y4,y5,y6,y7,hy,ht⟩:=xu W B (S:=S0) (F:=F) (by omega) (by omega) (x4:=x4) (x5:=x5) (x6:=x6) h7;have h1:wT (shr (tj w ks (S0++[e]) F x4 x5 x6 x7))=.ok (.bl true):=by
    have:wT (shr (tj w ks (S0++[e]) F x4 x5 x6 x7))=gi (.lst ((S0++[e]).map ot)) (.lst []):=rfl;rw[this];exact Ff (by simp) xE
   rw[xq h1 ht]
   by_cases hz:e.z=w.la
   .simp only[if_pos hz]at ht ⊢
    rw[Vd];obtain⟨F',z4,z5,z6,z7,r1,r2,r3,rN,r4,r5⟩:=nG f S0 (F++[e.y]) y4 y5 y6 y7 h0 (λy hy=>by
     rcases U6.mp hy with hy|hy
     .exact hF y hy
     .rw[UL.mp hy]
      have wk:=B.wk;rw[hz]at wk;exact⟨wk,by rw[B.ln];omega,X _ (.here hz)⟩) (by omega) (by rw[U0,XY];omega) hA.done hy
    refine⟨F',z4,z5,z6,z7,r1,r2,r3,rN,λy hy=>r4 y (VL _ hy),λd hd y hx=>?_⟩;rcases U6.mp hd with hd|hd
    .exact r5 d hd y hx
    .rw[UL.mp hd]at hx
     rw[FL hx hz];exact r4 _ (Vi _ (UL.mpr rfl))
   .simp only[if_neg hz]at ht ⊢
    rw[Vd];obtain⟨F',z4,z5,z6,z7,r1,r2,r3,rN,r4,r5⟩:=nG f (S0++kids w ks e w.ts.length) F y4 y5 y6 y7 (λd hd=>by
     rcases U6.mp hd with hd|hd
     .exact h0 d hd
     .obtain⟨n,_,hdn⟩:=gL.mp hd
      refine⟨(kid_ok W B hdn).1,λy hx=>X y ?_⟩;obtain⟨b,g,hb,rfl⟩:=(K15.mem_kid W).mp hdn;exact .step hz g hb hx) hF (by rw[zS];omega) (by rw[zS];omega) (hA.kids _) hy
    refine⟨F',z4,z5,z6,z7,r1,r2,r3,rN,r4,λd hd y hx=>?_⟩;rcases U6.mp hd with hd|hd
    .exact r5 d (VL _ hd) y hx
    .rw[UL.mp hd]at hx
     obtain⟨c,hc,hx⟩:=BW W hx hz;exact r5 c (Vi _ hc) y hx
theorem ways_ok:∃F:List (bv),K54.cw [aP w,eE ks]=.ok (.lst (F.map λy=>.lst (nums y)))/\(∀y∈F,AJ w ks w.fi y w.la/\y.length<=7/\gX w ks ⟨[],[],w.fi⟩ y)/\F.length<=100000/\F.Nodup/\∀y,gX w ks ⟨[],[],w.fi⟩ y->y∈F:=by
 obtain⟨F,y4,y5,y6,y7,h1,h2,h3,hN,h4,h5⟩:=nG W (ks:=ks) 200000 [⟨[],[],w.fi⟩] [] .no .no .no .no (λe he=>by
  rw[UL.mp he];refine⟨?_,λy h=>h⟩;exact⟨.nil,by simp[gF.seen],λp hp=>by
   have:p=w.fi:=by simpa[gF.seen] using hp
   rw[this];exact W.fi,rfl⟩) (λy hy=>by cases hy) (by rw[zR];have:=su W;omega) (by rw[zR];have:=su W;simp;omega) ⟨Y8 _ _,λf hf=>(nomatch hf),List.nodup_nil⟩ (.inl rfl)
 refine⟨F,?_,h2,h3,hN,λy hy=>h5 _ (UL.mpr rfl) y hy⟩;have i2:aO (aP w) (.int 2)=.ok (.str w.fi):=rfl;have hw:∀(c:am) (s:bd) (ρ:Ev),jT (λ_=>200000) c s ρ=cS c s 200000 ρ:=λ_ _ _=>rfl;have hS:[(⟨[],[],w.fi⟩:gF)].map ot=[.tup [.lst [],.lst [.str w.fi]]]:=rfl;unfold tj at h1;rw[hS]at h1;have h1:cS wT wB 200000 [.sh (aP w),.sh (eE ks),.ow (.lst [.tup [.lst [],.lst [.str w.fi]]]),.ow (.lst []),.no,.no,.no,.no]=.ok (.nx [.sh (aP w),.sh (eE ks),.ow (.lst []),.ow (.lst (F.map λp=>.lst (nums p))),y4,y5,y6,y7]):=h1;unfold wT wB kB at h1;open_line with[K54.cw,K54.kA,i2,hw,h1]
end
open K15 (gF gu gX there_ways)
open K11 (nums ways there lM walk kq Elt)
def Qj(W:cc w){seen:bi}(hz:z≠w.la)(g:GN w ks n z b)(hb:b∉seen):lM w ks seen z (.int (n:Int))=some b:=by
 obtain⟨t,t1,t2,t3⟩:=g;have hn:=(Ux.mp t1).1;have T:=W.ts t (UX t1);have ht:=(there_ways T).mpr t3;unfold lM;rw[if_neg hz];have hk:((n:Int)).toNat=n:=by omega
 simp only[hk];rw[if_pos ⟨by omega,by omega,t2⟩,t1];simp only[ht];rw[if_neg hb]
def ext_walk(W:cc w)(h:gX w ks e y):∃r,y=e.y++r/\∀j,∃s,walk w ks e.s e.z j (nums r)=.inr (s++[w.la]):=by
 induction h with
 |here hz=>exact⟨[],by simp,λj=>⟨_,by rw[show nums []=[] from rfl];unfold walk;rw[hz]⟩⟩
 |@step e n b p hz g hb h ih=>
  obtain⟨r,e1,e2⟩:=ih;refine⟨n::r,by rw[e1];simp,λj=>?_⟩;obtain⟨s,hs⟩:=e2 (j+1);refine⟨s,?_⟩;have hg:=Qj W hz g hb;rw[show nums (n::r)=.int (n:Int)::nums r from rfl];unfold walk;rw[show e.s++[e.z]=e.seen from rfl,hg];exact hs
def end_none(W:cc w)(h:gX w ks ⟨[],[],w.fi⟩ y):kq w (nums y).length (walk w ks [] w.fi 0 (nums y))=none:=by
 obtain⟨r,e1,e2⟩:=ext_walk W h;obtain⟨s,hs⟩:=e2 0;have:y=r:=by simpa using e1
 subst this;have hs:walk w ks [] w.fi 0 (nums y)=.inr (s++[w.la]):=hs;rw[hs];unfold kq;simp
def is_way_ok(W:cc w)(h:gX w [] ⟨[],[],w.fi⟩ y)(hl:y.length<=7):K54.m_is_way [aP w,.lst [],.lst (nums y)]=.ok (.bl true):=by
 have he:∀d∈nums y,Elt d:=λd hd=>by
  obtain⟨n,_,rfl⟩:=U4.mp hd;exact .inl rfl
 rcases K11.way_list W (ks:=[]) he (by rw[K15.nums_len];omega) with⟨j,h1,_⟩|⟨_,d,h2⟩
 .rw[end_none W h]at h1;cases h1
 .have h2:K54.m_walk_way [aP w,.lst [],.lst (nums y)]=.ok d:=h2
  have ht:∀(hit:UP->Bool) (sh:bd),mv (je (ae (af 0) (ae (af 1) (ae (af 2) az))) K54.m_walk_way) hit sh [.sh (aP w),.sh (.lst []),.sh (.lst (nums y))]=.ok (.nx [.sh (aP w),.sh (.lst []),.sh (.lst (nums y))]):=λhit sh=>by
   have hd:je (ae (af 0) (ae (af 1) (ae (af 2) az))) K54.m_walk_way [.sh (aP w),.sh (.lst []),.sh (.lst (nums y))]=.ok (.nx [.sh (aP w),.sh (.lst []),.sh (.lst (nums y))]):=by
    have e:(ae (af 0) (ae (af 1) (ae (af 2) az))) [.sh (aP w),.sh (.lst []),.sh (.lst (nums y))]=.ok [aP w,.lst [],.lst (nums y)]:=rfl;unfold je;rw[e];show(K54.m_walk_way [aP w,.lst [],.lst (nums y)]).bind _=_;rw[h2];rfl
   unfold mv;rw[hd]
  open_line with[K54.m_is_way,K54.b_is_way,ht]
def zx(p:bv×g7):D:=.tup [.lst (nums p.1),fr p.2]
def share_ok(W:cc w)(h:gX w [] ⟨[],[],w.fi⟩ y)(hl:y.length<=7)(lo:Low x)(p0:0<x.1):K54.m_is_way_with_share [aP w,zx (y,x)]=.ok (.bl true):=by
 have h1:=is_way_ok W h hl;have h2:K54.m_is_ratio [fr x]=.ok (.bl true):=iw lo;have i0:aO (zx (y,x)) (.int 0)=.ok (.lst (nums y)):=rfl;have i1:aO (zx (y,x)) (.int 1)=.ok (fr x):=rfl;have j0:aO (fr x) (.int 0)=.ok (.int x.1):=rfl;have hg:Dm (.int x.1) (.int 0)=.ok (.bl true):=by
  have:Dm (.int x.1) (.int 0)=.ok (.bl (decide (x.1 > 0))):=rfl;rw[this,decide_eq_true (by omega)]
 have ht:b9 "tuple" (zx (y,x))=.ok (.bl true):=rfl;have hn:cB (zx (y,x))=.ok (.int 2):=rfl;have hne:gi (.int 2) (.int 2)=.ok (.bl false):=rfl;open_line with[K54.m_is_way_with_share,K54.b_is_way_with_share,ht,hn,hne,i0,i1,j0,h1,h2,hg]
end Way
namespace K54
open PySem L2 DL Com Bor Pth
open K51 (Bd El mt pl fk eA dr fJ less_bd gM i5 kN eN bw)
open Vlu (mi minus_bd)
open Way (zx)
open K11 (nums)
open K15 (gX)
def gA(hx:Low x)(hy:Low y)(h:val x=val y):x=y:=by
 refine Fs hx hy ?_;have p1:=eL (a:=x.2) (by have:=hx.q1;omega);have p2:=eL (a:=y.2) (by have:=hy.q1;omega);unfold val at h;have e:(x.1:Rat)*(y.2:Rat)=(y.1:Rat)*(x.2:Rat):=by grind
 rw[←V7,←V7]at e;exact Rat.intCast_inj.mp e
def Li(hx:0<x.2)(hy:0<y.2):val (mt x y)=val x*val y:=by
 have:mt x y=lT (x.1*y.1) (x.2*y.2):=rfl;rw[this,pQ (W4 hx hy)];unfold val;have p1:=eL hx;have p2:=eL hy;rw[V7,V7]
 grind
def mi_bd(hx:Bd x m)(hy:Bd y n):Bd (mi x y) (m+n+1):=by
 have hy':Bd (-y.1,y.2) n:=⟨hy.q0,by show(-y.1).natAbs<_;rw[Int.natAbs_neg];exact hy.a,hy.b⟩
 have hp:=K51.un_bd hx hy';have e:x.1*y.2 + -y.1*x.2=x.1*y.2-y.1*x.2:=by rw[Int.neg_mul];omega
 have h1:=hp.a;have h2:=hp.b;unfold un at h1 h2;simp only[e]at h1;exact eN (W4 hx.q0 hy.q0) h1 h2
def ER(hx:0<x.2)(hy:0<y.2):Low (pl x y):=j8 (W4 hx hy)
def OI:val (0,1)=0:=by
 unfold val;show((0:Int):Rat) / ((1:Int):Rat)=0;rw[show((0:Int):Rat)=0 from rfl,X0,Rat.zero_mul]
def Rh:Bd (0,1) 1:=⟨by decide,by decide,by decide⟩
def Ft:Low (0,1):=⟨by decide,by decide⟩
theorem xx{L:Sl}{n:Nat}:∀(xs:List g7) (m:Nat) (s:g7) (z:Sl),Low s->Bd s m->m+xs.length*(n+1)<=5800->n<=5000->(∀x∈xs,Bd x n)->∃s' z',b7 (bU 2) (aw (bT 1 (ao (ae (af 1) (ae (af 2) az)) m_plus)) au) (xs.map fr) [L,.sh (fr s),z]=.ok (.nx [L,.sh (fr s'),z'])/\Low s'/\Bd s' (m+xs.length*(n+1))/\val s'=val s+(xs.map val).sum
 |[],m,s,z,hl,hb,_,_,_=>⟨s,z,rfl,hl,by simpa using hb,by simp[Rat.add_zero]⟩
 |x::xs,m,s,z,hl,hb,hk,hn,hx=>by
  have hx0:=hx x UU;have hk':m+n+1+xs.length*(n+1)<=5800:=by
   rw[UZ,Ym]at hk;omega
  have hm:m+n<=5900:=by omega
  obtain⟨s',z',e,l,b,v⟩:=xx (L:=L) xs (m+n+1) (pl s x) (.sh (fr x)) (ER hb.q0 hx0.q0) (kN hb hx0) hk' hn λy hy=>hx y (UH _ hy);refine⟨s',z',?_,l,?_,?_⟩
  .rw[UG,lz (ρ1:=[L,.sh (fr s),.sh (fr x)]) (ρ2:=[L,.sh (fr (pl s x)),.sh (fr x)]) rfl]
   .exact e
   .exact xG (zy ((sP (xs:=[fr s,fr x]) rfl).trans (fk hb hx0 hm)))
  .rw[UZ,Ym]
   exact b.up (by omega)
  .rw[v,D5 hb.q0 hx0.q0,UG,Vs]
   grind
def nJ{xs:List g7}(hx:∀x∈xs,Bd x n)(hl:1+xs.length*(n+1)<=5800)(hn:n<=5000):∃s,m_sum_of [.lst (xs.map fr)]=.ok (fr s)/\Low s/\Bd s (1+xs.length*(n+1))/\val s=(xs.map val).sum:=by
 obtain⟨s,z',e,l,b,v⟩:=xx (L:=.sh (.lst (xs.map fr))) xs 1 (0,1) .no Ft Rh hl hn hx;refine⟨s,?_,l,b,by rw[v,OI];grind⟩;refine LA (n:=3) (ds:=[.lst (xs.map fr)]) ?_;show sT [.sh (.lst (xs.map fr)),.no,.no]=_;unfold sT;rw[iu (ρ':=[.sh (.lst (xs.map fr)),.sh (fr (0,1)),.no]) rfl];refine(iu ((My (ds:=xs.map fr) rfl).trans e)).trans ?_;exact vF (vI rfl)
open K51 (Bd El mt pl fk eA dr fJ less_bd gM i5 kN eN bw)
open Vlu (mi minus_bd)
open Way (zx)
open K11 (nums ways)
open K15 (gX gF)
def for_preN{α:Type}(g:α->D)(P:List α->Ev->Prop){L:List α}(h:∀pre a post,L=pre++a::post->∀ρ,P pre ρ->∃ρ1 ρ2,tg ρ (.tup [.int (pre.length:Int),g a])=.ok ρ1/\body ρ1=.ok (.nx ρ2)/\P (pre++[a]) ρ2)(h0:P [] ρ):∃ρ',b7 tg body (numbered 0 (L.map g)) ρ=.ok (.nx ρ')/\P L ρ':=by
 have key:∀(post pre:List α) (ρ:Ev),L=pre++post->P pre ρ->∃ρ',b7 tg body (numbered pre.length (post.map g)) ρ=.ok (.nx ρ')/\P L ρ':=by
  intro post
  induction post with
  |nil=>intro pre ρ e hp;rw[Vd]at e;subst e;exact⟨ρ,rfl,hp⟩
  |cons a post ih=>
   intro pre ρ e hp;obtain⟨ρ1,ρ2,h1,h2,h3⟩:=h pre a post e ρ hp;obtain⟨ρ',h4,h5⟩:=ih (pre++[a]) ρ2 (by rw[e];simp) h3;rw[U0,XY]at h4;exact⟨ρ',by rw[UG,DL.numbered,lz h1 h2,h4],h5⟩
 exact key L [] ρ rfl h0
def uh(h:(a,b)∈ways t):(a=t.a/\b=t.b)∨(a=t.b/\b=t.a):=by
 unfold K11.ways at h;split at h
 .have:=UL.mp h
  cases this;exact .inl ⟨rfl,rfl⟩
 .rcases UI.mp h with h|h
  .cases h;exact .inl ⟨rfl,rfl⟩
  .have:=UL.mp h
   cases this;exact .inr ⟨rfl,rfl⟩
def Mz(h:gX w ks e y):∃r,y=e.y++r/\r.Nodup/\∀n∈r,∃t a b,w.ts[n]?=some t/\(a,b)∈ways t/\b∉e.seen:=by
 induction h with
 |here hz=>exact⟨[],by simp,List.nodup_nil,λn hn=>(nomatch hn)⟩
 |@step e n b p hz g hb h ih=>
  obtain⟨r,e1,e2,e3⟩:=ih;have hs:gF.seen ⟨e.y++[n],e.seen,b⟩=e.seen++[b]:=rfl;rw[hs]at e3;obtain⟨t,t1,_,t3⟩:=g;refine⟨n::r,by rw[e1];simp,Wd.mpr ⟨λhn=>?_,e2⟩,λm hm=>?_⟩
  .obtain⟨t',a',b',q1,q2,q3⟩:=e3 n hn
   have:t=t':=by rw[t1]at q1;exact Vu q1
   subst this;have hzm:e.z∈e.seen:=by unfold gF.seen;simp
   refine q3 (U6.mpr ?_);rcases uh t3 with⟨u1,u2⟩|⟨u1,u2⟩<;>rcases uh q2 with⟨v1,v2⟩|⟨v1,v2⟩
   .exact .inr (UL.mpr (v2.trans u2.symm))
   .exact .inl (by rw[v2,←u1];exact hzm)
   .exact .inl (by rw[v2,←u1];exact hzm)
   .exact .inr (UL.mpr (v2.trans u2.symm))
  .rcases UI.mp hm with rfl|hm
   .exact⟨t,_,_,t1,t3,hb⟩
   .obtain⟨t',a',b',q1,q2,q3⟩:=e3 m hm
    exact⟨t',a',b',q1,q2,λc=>q3 (VL _ c)⟩
def way_nd(h:gX w [] ⟨[],[],w.fi⟩ y):y.Nodup/\∀n∈y,n<w.ts.length:=by
 obtain⟨r,e1,e2,e3⟩:=Mz h;have:y=r:=by simpa using e1
 subst this;refine⟨e2,λn hn=>?_⟩;obtain⟨t,_,_,q,_⟩:=e3 n hn;exact(Ux.mp q).1
def bp(M:List (bv×Nat)):Nat:=(M.map (·.2)).sum
structure Mx (w:iT) (M:List (bv×Nat)):Prop where
 ext:∀p∈M,gX w [] ⟨[],[],w.fi⟩ p.1/\p.1.length<=7
 many:∀p∈M,1<=p.2
 tt:bp M<=9000000
 nd:(M.map (·.1)).Nodup
 ne:M≠[]
 len:M.length<=10
theorem AY:∀{M:List (bv×Nat)}{p:bv×Nat},p∈M->p.2<=bp M
 |a::M,p,h=>by
  unfold bp;rw[UG,Vs];rcases UI.mp h with rfl|h
  .omega
  .have:=AY h
   unfold bp at this;omega
def Mx.le(h:Mx w M)(hp:p∈M):p.2<=9000000:=U8 (AY hp) h.tt
theorem sum_le:∀{L:bv},(∀x∈L,x<=B)->L.sum<=L.length*B
 |[],_=>by simp
 |x::L,h=>by
  have h1:=h x UU;have h2:=sum_le (L:=L) λy hy=>h y (UH _ hy);rw[Vs,UZ,Ym];omega
def Mx.tot(h:Mx w M):0<bp M/\bp M<=9000000:=by
 refine⟨?_,h.tt⟩;cases hM:M with
 |nil=>exact absurd hM h.ne
 |cons p M'=>
  have:=h.many p (by rw[hM];exact UU);unfold bp;rw[UG,Vs];omega
def OH:val (1,1)=1:=by
 unfold val;show((1:Int):Rat) / ((1:Int):Rat)=1;rw[show((1:Int):Rat)=1 from rfl]
 grind
def sh(T m:Nat):g7:=lT (m:Int) (T:Int)
def q(T m:Nat):Rat:=((m:Int):Rat) / ((T:Int):Rat)
def fQ(hT:0<T):Low (sh T m):=j8 (by omega)
def fw(hT:0<T):val (sh T m)=q T m:=pQ (by omega)
def Ep(hT:0<T)(hT2:T<=9000000)(hm:m<=12000000):Bd (sh T m) 24:=eN (by omega) (by omega) (by omega)
def uw:q T (a+b)=q T a+q T b:=by
 unfold q;rw[Int.natCast_add,YB,X0,X0,X0,Rat.add_mul]
def zE:q T 0=0:=by
 unfold q;rw[X0,show(((0:Nat):Int):Rat)=0 from rfl,Rat.zero_mul]
def EG(hT:0<T):q T T=1:=by
 unfold q;have:=eL (a:=(T:Int)) (by omega)
 grind
theorem xS:∀{L:bv},(L.map (q T)).sum=q T L.sum
 |[]=>by simp[zE]
 |x::L=>by rw[UG,Vs,Vs,uw,xS]
def vE(hT:0<T):pl (sh T a) (sh T b)=sh T (a+b):=by
 have h1:=(fQ (m:=a) hT).q1;have h2:=(fQ (m:=b) hT).q1;refine gA (ER (by omega) (by omega)) (fQ hT) ?_;rw[D5 (by omega) (by omega),fw hT,fw hT,fw hT,uw]
def pT(hT:0<T):sh T 0=(0,1):=gA (fQ hT) Ft (by rw[fw hT,zE,OI])
def qv(hT:0<T)(hm:0<m):0<(sh T m).1:=BD (by omega) (by omega)
def cR(y:bv):D:=.lst (nums y)
def iX(T:Nat)(p:bv×Nat):D:=zx (p.1,sh T p.2)
def cH(M:List (bv×Nat)):D:=.lst (M.map (iX (bp M)))
abbrev jg(M:List (bv×Nat)):ac:=M.map (iX (bp M))
theorem Cf:∀{Y:List (bv)},(Y.map cR).any (λd=>c8 d (cR y))=decide (y∈Y)
 |[]=>rfl
 |z::Y=>by
  rw[UG,XJ,Cf];have e:c8 (cR z) (cR y)=decide (z=y):=by
   unfold cR;rw[wA];have:=Wex.nums_eq (a:=z) (b:=y)
   by_cases h:z=y
   .rw[decide_eq_true h];exact this.mpr h
   .rw[decide_eq_false h]
    exact Bool.eq_false_iff.mpr λc=>h (this.mp c)
  rw[e]
  by_cases h:z=y
  .subst h;simp
  .have h':y≠z:=λc=>h c.symm
   simp[h,h']
def mS{Y:List (bv)}:oY (cR y) (.lst (Y.map cR))=.ok (.bl (decide (y∈Y))):=by
 have s1:∀z,bC 40 (cR z)=true:=λz=>by
  unfold cR;show(nums z).all (bC 39)=true;refine Va.mpr λd hd=>?_;obtain⟨n,_,rfl⟩:=U4.mp hd;rfl
 have s2:(Y.map cR).all (bC 40)=true:=Va.mpr λd hd=>by
  obtain⟨z,_,rfl⟩:=U4.mp hd;exact s1 z
 have e:DK (cR y) (.lst (Y.map cR))=some (decide (y∈Y)):=(if_pos ⟨s1 y,s2⟩).trans (congrArg some Cf);unfold oY;rw[e]
open K51 (Bd El mt pl fk eA dr fJ less_bd gM i5 kN eN bw)
open Vlu (mi minus_bd)
open Way (zx)
open K11 (nums ways eG)
open K15 (gX gF)
def ints_rng:DL.intsFrom 0 n=(Vv n).map λk:Nat=>D.int (k:Int):=by
 unfold DL.intsFrom;exact Xq λk _=>by rw[Int.zero_add]
def IE(h:k<n):uK n (k:Int)=some k:=by
 unfold uK;rw[if_pos (by omega),if_pos (by omega),XG]
def A(M:List (bv×Nat))(k:Nat):Nat:=(M.map λp=>if k∈p.1 then p.2 else 0).sum
theorem RF:∀{M:List (bv×Nat)}{k:Nat},A M k<=bp M
 |[],k=>UC _
 |p::M,k=>by
  have:=RF (M:=M) (k:=k);unfold A bp at *;rw[UG,UG,Vs,Vs];split<;>omega
def jy(T k:Nat)(M:List (bv×Nat)):List g7:=M.filterMap λp=>if k∈p.1 then some (sh T p.2) else none
theorem uy(hT:0<T):∀{M:List (bv×Nat)},((jy T k M).map val).sum=q T (A M k)
 |[]=>by simp[jy,A,zE]
 |p::M=>by
  have ih:=uy (T:=T) (k:=k) hT (M:=M);have e:A (p::M) k=(if k∈p.1 then p.2 else 0)+A M k:=rfl;rw[e]
  by_cases h:k∈p.1
  .have e:jy T k (p::M)=sh T p.2::jy T k M:=by unfold jy;rw[YY (by rw[if_pos h])]
   rw[e,UG,Vs,ih,fw hT,if_pos h,uw]
  .have e:jy T k (p::M)=jy T k M:=by unfold jy;rw[YZ (by rw[if_neg h])]
   rw[e,ih,if_neg h,Xt]
def ld(M:List (bv×Nat))(k:Nat):g7:=sh (bp M) (A M k)
def Mg(w:iT)(M:List (bv×Nat)):D:=.lst ((Vv w.ts.length).map λk=>fr (ld M k))
section
variable {w:iT}{M:List (bv×Nat)}(X:Mx w M)
include X
theorem Mi:Low (ld M k):=fQ X.tot.1
theorem ld_bd:Bd (ld M k) 24:=Ep X.tot.1 X.tot.2 (by have:=RF (M:=M) (k:=k);have:=X.tot.2;omega)
theorem Mh:val (ld M k)=q (bp M) (A M k):=fw X.tot.1
theorem load_on_ok{k:Nat}:m_load_on [cH M,.int (k:Int)]=.ok (fr (ld M k)):=by
 obtain⟨t0,t9⟩:=X.tot;have l9:=X.len;have hc:ff 2 [1] (el [0,1]) (ag (af 2) (af 0) oY) (af 1) [.sh (cH M),.sh (.int (k:Int))] (M.map (iX (bp M)))=.ok (.lst ((jy (bp M) k M).map fr)):=by
  rw[bw (iX (bp M)) (λp=>if k∈p.1 then some (fr (sh (bp M) p.2)) else none) (by omega)]
  .unfold jy
   rw[List.map_filterMap]
   congr 2
   congr 1
   funext p;split<;>rfl
  .intro p hp
   refine⟨[.sh (cR p.1),.sh (fr (sh (bp M) p.2)),.sh (.int (k:Int))],rfl,?_⟩;have hi:(ag (af 2) (af 0) oY) [.sh (cR p.1),.sh (fr (sh (bp M) p.2)),.sh (.int (k:Int))]=oY (.int (k:Int)) (cR p.1):=rfl;rw[hi];have hn:oY (.int (k:Int)) (cR p.1)=.ok (.bl (decide (k∈p.1))):=eG;rw[hn]
   by_cases h:k∈p.1
   .exact .inr ⟨_,if_pos h,by rw[decide_eq_true h],rfl⟩
   .exact .inl ⟨if_neg h,by rw[decide_eq_false h]⟩
 have hpl:(jy (bp M) k M).length<=10:=by
  unfold jy;exact U8 (List.length_filterMap_le _ _) l9
 obtain⟨s,hs,sl,sb,sv⟩:=nJ (n:=24) (xs:=jy (bp M) k M) (λx hx=>by
  obtain⟨p,hp,e⟩:=Xz.mp hx;split at e
  .cases e
   exact Ep t0 t9 (by have:=X.le hp;omega)
  .cases e) (by omega) (by decide)
 have s1:s=ld M k:=gA sl (Mi X) (by rw[sv,uy t0,Mh X]);rw[s1]at hs;have hsL:ju (cH M)=.ok (M.map (iX (bp M))):=rfl;open_line with[m_load_on,vc,hsL,hc,hs]
omit X in
omit X in
omit X in
end
open K51 (Bd El mt pl fk eA dr fJ less_bd gM i5 kN eN bw w1 t4 lj)
open Vlu (mi minus_bd)
open Way (zx)
open K11 (nums ways eG)
open K12 (lenAt)
open K15 (gX gF)
def amt_bd(h:GZ x):Bd x 40:=by
 have c1:=h.lo.q1;have c2:=h.p0;have c3:=h.p1;have c4:=h.q1;refine⟨by omega,?_,?_⟩
 .rw[show(2:Nat) ^ 40=1099511627776 from by decide];omega
 .rw[show(2:Nat) ^ 40=1099511627776 from by decide];omega
section
variable {w:iT}(W:cc w) (hw:∀t∈w.ts,iU t)
include W hw
omit W in
theorem Fv{k:Nat}(h:k<w.ts.length):Bd (lenAt w k) 40:=by
 rw[K12.lenAt_of (Ut h)];exact amt_bd (hw _ (VY h)).1
theorem CV(h:gX w [] ⟨[],[],w.fi⟩ y)(hl:y.length<=7):∃x,m_length_of [aP w,cR y]=.ok (fr x)/\Low x/\Bd x 288/\val x=Fu w y:=by
 obtain⟨nd,hn⟩:=way_nd h;have he:∀d∈nums y,K11.Elt d:=λd hd=>by
  obtain⟨n,_,rfl⟩:=U4.mp hd;exact .inl rfl
 have ht:m_look_at_taking [aP w,.lst []]=.ok .non:=Cz W K12.tak0;have hlw:m_look_at_way [aP w,.lst [],cR y]=.ok .non:=by
  rcases K11.way_list W (ks:=[]) he (by rw[K15.nums_len];omega) with⟨j,h1,_⟩|⟨_,d,h2⟩
  .rw[Way.end_none W h]at h1;cases h1
  .have h2:K11.m_walk_way [aP w,.lst [],cR y]=.ok d:=h2
   open_line with[K11.m_look_at_way,K11.b_look_at_way,ht,h2]
 have hnx:noX m_look_at_way [aP w,.lst [],cR y]=.ok .non:=Mb hlw;obtain⟨s,hs,sl,sb,sv⟩:=nJ (n:=40) (xs:=y.map (lenAt w)) (λx hx=>by
  obtain⟨k,hk,rfl⟩:=U4.mp hx;exact Fv hw (hn k hk)) (by rw[Us];omega) (by decide)
 have hc:ff 1 [0] (bU 0) mYes (ag (ag (ag (af 1) (dC (.int 1)) aO) (af 0) aO) (dC (.int 3)) aO) [.sh (aP w),.sh (cR y)] (nums y)=.ok (.lst ((y.map (lenAt w)).map fr)):=by
  rw[show nums y=y.map λn:Nat=>D.int (n:Int) from rfl,bw (λn:Nat=>D.int (n:Int)) (λn=>some (fr (lenAt w n))) (by omega)]
  .rw[VF,VQ];rfl
  .intro k hk
   refine⟨[.sh (.int (k:Int)),.sh (aP w)],rfl,.inr ⟨_,rfl,rfl,?_⟩⟩;obtain⟨x1,x2⟩:=K12.len_ix (hn k hk);open_line with[w1,x1,x2]
 have hsL:ju (cR y)=.ok (nums y):=rfl;refine⟨s,?_,sl,sb.up (by rw[Us];omega),by rw[sv,VQ];rfl⟩;open_line with[m_length_of,o9,hnx,hsL,hc,hs]
end
open K51 (Bd El mt pl fk eA dr fJ less_bd gM i5 kN eN bw w1 t4 lj)
open Vlu (mi minus_bd)
open Way (zx)
open K11 (nums ways eG)
open K12 (lenAt)
open K15 (gX gF)
structure Rt (r:g7):Prop where
 lo:Low r
 p0:0<=r.1
 b:Bd r 70
open K51 (Bd El mt pl fk eA dr fJ less_bd gM i5 kN eN bw w1 t4 lj)
open Vlu (mi minus_bd)
open Way (zx)
open K11 (nums ways eG)
open K12 (lenAt)
open K15 (gX gF)
section
variable {w:iT}(W:cc w) (hw:∀t∈w.ts,iU t) {M:List (bv×Nat)}(X:Mx w M) {as:List g7}(hal:as.length=w.ts.length) (ha:∀a∈as,GZ a) {p r:g7}(hp:GZ p) (hr:Rt r)
include W hw X hal ha hp hr
omit W hw X hal ha hp in
theorem rate_ok:m_look_at_length [fr r]=.ok .non:=by
 have h1:m_is_ratio [fr r]=.ok (.bl true):=iw hr.lo;have j0:aO (fr r) (.int 0)=.ok (.int r.1):=rfl;have h2:=hr.p0;open_line with[m_look_at_length,jM,h1,j0,decide_eq_false (show ¬r.1<0 by omega)]
omit hal ha hp hr in
theorem lens_some:∃d s,(∀B:Ev,B[0]?=some (.sh (aP w))->ff 2 [0] (el [0,1]) mYes (ao (ae (af 1) (ae (ao (ae (af 2) (ae (af 0) az)) m_length_of) az)) m_times) B (M.map (iX (bp M)))=.ok d)/\m_sum_of [d]=.ok (fr s)/\Low s/\Bd s 3131/\val s=(M.map λp=>q (bp M) p.2*Fu w p.1).sum:=by
 obtain⟨t0,t9⟩:=X.tot;have l9:=X.len;have hlen:∀p:{p // p∈M},∃x,m_length_of [aP w,cR p.1.1]=.ok (fr x)/\Low x/\Bd x 288/\val x=Fu w p.1.1:=λp=>CV W hw (X.ext p.1 p.2).1 (X.ext p.1 p.2).2;have hf:∃f:bv×Nat->g7,∀p∈M,m_length_of [aP w,cR p.1]=.ok (fr (f p))/\Low (f p)/\Bd (f p) 288/\val (f p)=Fu w p.1:=by
  refine⟨λp=>if h:p∈M then Classical.choose (hlen ⟨p,h⟩) else(0,1),λp hp=>?_⟩;simp only[dif_pos hp];exact Classical.choose_spec (hlen ⟨p,hp⟩)
 obtain⟨f,hf⟩:=hf;have hsb:∀p∈M,Bd (sh (bp M) p.2) 24:=λp hp=>Ep t0 t9 (by have:=X.le hp;omega);obtain⟨s,hs,sl,sb,sv⟩:=nJ (n:=312) (xs:=M.map λp=>mt (sh (bp M) p.2) (f p)) (λx hx=>by
  obtain⟨p,hp,rfl⟩:=U4.mp hx;exact i5 (hsb p hp) (hf p hp).2.2.1) (by rw[Us];omega) (by decide)
 refine⟨_,s,λB hB=>?_,hs,sl,sb.up (by rw[Us];omega),?_⟩
 .rw[bw (iX (bp M)) (λp=>some (fr (mt (sh (bp M) p.2) (f p)))) (by omega)]
  .rw[VF,VQ]
   rfl
  .intro p hp
   have hb:de 2 [0] B=[.no,.no,.sh (aP w)]:=by
    unfold de;simp[hB]
   rw[hb];refine⟨[.sh (cR p.1),.sh (fr (sh (bp M) p.2)),.sh (aP w)],rfl,.inr ⟨_,rfl,rfl,?_⟩⟩;have h1:=(hf p hp).1;have h2:=dr (hsb p hp) (hf p hp).2.2.1 (by decide);open_line with[h1,h2]
 .rw[sv,VQ]
  have e:M.map (val∘λp=>mt (sh (bp M) p.2) (f p))=M.map λp=>q (bp M) p.2*Fu w p.1:=Xq λp hp=>by
   show val (mt _ _)=_;rw[Li (hsb p hp).q0 (hf p hp).2.2.1.q0,fw t0,(hf p hp).2.2.2]
  rw[e]
omit hal ha hp hr in
end
end K54
namespace K51
open PySem L2 DL Com Bor
def A9(h0:0<n)(hn:n<=1919)(h:i.natAbs<2 ^ n):Rp (.int i) (n+1) 0:=by
 refine⟨.int i,by rw[gj],?_,by rw[WS]<;>simp,?_⟩
 .rw[Wk]
  refine decide_eq_true ?_
  by_cases h0:i.natAbs=0
  .rw[h0];decide
  .exact UA ((ZL h0).mpr h) (by omega)
 .rw[WR,WI]
  cases i with
  |ofNat m=>
   have:=nat_repr_length_le (n:=m) (k:=n) h0 h;show(ZJ m).length<=n+1;omega
  |negSucc m=>
   have:=nat_repr_length_le (n:=m+1) (k:=n) h0 h;show("-"++ZJ (m+1)).length<=n+1;rw[ZF];have h1 : "-".length=1:=rfl;omega
def vH(h:Bd x n)(h0:0<n)(hn:n<=1919):Rp (fr x) (2*n+9) 1 :=
 (Rp.tup (e9.cons (A9 h0 hn h.a) (e9.cons (A9 h0 hn h.b) e9.nil))).up (by simp;omega) (UC _)
end K51
namespace K54
open PySem L2 DL Com Bor Pth
open K51 (Bd El mt pl fk eA dr fJ less_bd gM i5 kN eN bw w1 t4 lj)
open Way (zx)
open K11 (nums ways eG)
open K12 (lenAt)
open K15 (gX gF)
def De:mK i j f ρ st=zK ρ[j]? λds=>(f ρ st).bind (jS i j ρ ds):=aI rfl
def HH{i j n:Nat}(h:ds[n]?=some d)(hl:ds.length<line):jS i j ρ ds (.int (n:Int),st)=.ok (.nx ((ρ.set j (.ow (.lst (ds.eraseIdx n)))).set i (.sh d)) st):=by
 have hn:=(Ux.mp h).1;unfold jS;simp only[IE hn,h];rw[if_pos hl]
theorem mR{α:Type}{f:α->Int}:∀{L:List α},ji (L.map λx=>D.int (f x))=some (L.map f)
 |[]=>rfl
 |x::L=>by rw[UG,ji,mR];rfl
theorem yY:∀{M:List (bv×Nat)},(M.map λp=>(p.2:Int)).sum=(bp M:Int)
 |[]=>rfl
 |p::M=>by
  have:=yY (M:=M);unfold bp at *;rw[UG,UG,Vs,Vs,this];omega
def HQ(p:bv×Nat):D:=.lst [cR p.1,.int (p.2:Int)]
theorem B1{α:Type}{x:α}:∀{l:List α}{n:Nat},l[n]?=some x->(x::l.eraseIdx n).Perm l
 |[],_,h=>by simp at h
 |y::l,0,h=>by
  have:y=x:=by simpa using h
  subst this;exact Za.refl _
 |y::l,n+1,h=>by
  have ih:=B1 (l:=l) (n:=n) (by simpa using h);exact(Za.swap y x _).trans (Za.cons y ih)
theorem F4{α β:Type}{f:α->β}:∀{l:List α}{n:Nat},(l.map f).eraseIdx n=(l.eraseIdx n).map f
 |[],_=>rfl
 |y::l,0=>rfl
 |y::l,n+1=>by
  have ih:=F4 (f:=f) (l:=l) (n:=n);rw[UG,XQ,XQ,UG,ih]
def shares_ok(a:Uy)(hF:∀y∈F,gX w [] ⟨[],[],w.fi⟩ y/\y.length<=7)(nd:F.Nodup)(ne:F≠[])(hl:F.length<=100000)(S:St st):∃M st',cq a st [.lst (F.map cR)]=.ok (cH M,st')/\Mx w M/\M.length<=9/\St st':=by
 have hpos:0<F.length:=X6.mpr ne;have hln:100000<line:=by decide
 obtain⟨d9,st1,k1,d0,d8,S1⟩:=bM a (n:=9) (by decide) (by decide) S;obtain⟨c,hc,c1,c9,cF⟩:∃c:Nat,(if(1+d9)<(F.length:Int) then(1+d9) else(F.length:Int))=(c:Int)/\1<=c/\c<=9/\c<=F.length:=by
  split
  .exact⟨(1+d9).toNat,by omega,by omega,by omega,by omega⟩
  .exact⟨F.length,rfl,by omega,by omega,by omega⟩
 have hmin:Ax (.int (F.length:Int)) (.int (1+d9))=.ok (.int (c:Int)):=by
  show ar.ok (D.int (if(1+d9)<(F.length:Int) then(1+d9) else(F.length:Int)))=_;rw[hc]
 have hsr:nV (.int (c:Int),st1)=.ok (DL.intsFrom 0 c,st1):=m6 (by omega);have hci:(DL.intsFrom 0 c).length=c:=by unfold DL.intsFrom;simp
 have hlF:cB (.lst (F.map cR))=.ok (.int (F.length:Int)):=by rw[eH,Us]
 obtain⟨ρ2,st2,hf,M,Y,x4,x5,x6,rfl,hM,hY,hnd,hmem,hmany,S2⟩:=mW (tg:=bU 4) (body:=(bh (mK 5 2 (bL 0 a (aV (mL (ao (ae (af 2) az) (m1 cB))) cm) aF))
 (bh (ey 6 (mB (mP (ao (ae (dC (.int 3)) (ae (dC (.int 60)) (ae (ag (dC (.int 10)) (dC (.int 6)) oa) az))) b5)) (bL 0 a (aV (mP (dC (.int 3))) cm) aF) aO))
 (bh (zY 3 (mA (aV (mP (af 5)) (aV (mB (mP (dC (.int 1))) (bL 0 a (aV (mP (af 6)) cm) aF) bX) cm)) b5))
 bY))))
  (λj ρ st=>∃(M:List (bv×Nat)) (Y:List (bv)) (x4 x5 x6:Sl),ρ=[.pt a,.sh (.lst (F.map cR)),.ow (.lst (Y.map cR)),.ow (.lst (M.map HQ)),x4,x5,x6,.no]/\M.length=j/\Y.length+j=F.length/\(M.map (·.1)++Y).Nodup/\(∀y∈M.map (·.1)++Y,y∈F)/\(∀p∈M,1<=p.2/\p.2<=1000000)/\St st) (DL.intsFrom 0 c) (by
   rintro j d ρ st hj ⟨M,Y,x4,x5,x6,rfl,rfl,hY,hnd,hmem,hmany,S⟩;have hjc:M.length<c:=by have:=(Ux.mp hj).1;omega
   have hYl:cB (.lst (Y.map cR))=.ok (.int (Y.length:Int)):=by rw[eH,Us]
   obtain⟨n,s1,t1,n0,n1,S1⟩:=bM a (n:=(Y.length:Int)) (by omega) (by omega) S;obtain⟨n,rfl⟩:=Vf n0;have n1:n<Y.length:=by have:(n:Int)<(Y.length:Int):=n1;omega
   have t1:aF a st [.int (Y.length:Int)]=.ok (.int (n:Int),s1):=t1;obtain⟨v,s2,t2,v0,v3,S2⟩:=bM a (n:=3) (by decide) (by decide) S1;obtain⟨m,hm,m0,m1⟩:∃m:Int,aO (.lst [.int 3,.int 60,.int 1000000]) (.int v)=.ok (.int m)/\0<m/\m<=1000000:=by
    have:v=0∨v=1∨v=2:=by omega
    rcases this with rfl|rfl|rfl
    .exact⟨3,rfl,by decide,by decide⟩
    .exact⟨60,rfl,by decide,by decide⟩
    .exact⟨1000000,rfl,by decide,by decide⟩
   obtain⟨u,s3,t3,u0,u1,S3⟩:=bM a (n:=m) m0 (by omega) S2;obtain⟨u,rfl⟩:=Vf u0;have t3:aF a s2 [.int m]=.ok (.int (u:Int),s3):=t3;have u1:(u:Int)<m:=u1;have hy:Y[n]?=some Y[n]:=Ut n1;generalize Y[n]=y at hy;have hyD:(Y.map cR)[n]?=some (cR y):=by rw[UK,hy];rfl
   have hsp:=λρ=>HH (i:=5) (j:=2) (ρ:=ρ) (st:=s1) hyD (by rw[Us];omega);have hpw:oa (.int 10) (.int 6)=.ok (.int 1000000):=rfl;have hap:decide ((M.map HQ).length<=999)=true:=decide_eq_true (by rw[Us];omega);have hu:(1+(u:Int))=((1+u:Nat):Int):=by omega
   have hadd:bX (.int 1) (.int (u:Int))=.ok (.int ((1+u:Nat):Int)):=by rw[←hu];rfl
   have hpm:=B1 hy;have hpm2:(M.map (·.1)++[y]++Y.eraseIdx n).Perm (M.map (·.1)++Y):=by
    rw[Wq];exact Za.append_left _ hpm
   have hlen:(Y.eraseIdx n).length+1=Y.length:=by
    have:=hpm.length_eq;simpa using this
   refine⟨_,[.pt a,.sh (.lst (F.map cR)),.ow (.lst ((Y.eraseIdx n).map cR)),.ow (.lst ((M++[(y,1+u)]).map HQ)),.sh d,.sh (cR y),.sh (.int m),.no],s3,rfl,.inl ?_,M++[(y,1+u)],Y.eraseIdx n,_,_,_,rfl,by simp,by omega,?_,?_,?_,S3⟩
   .have he:(Y.map cR).eraseIdx n=(Y.eraseIdx n).map cR:=F4
    rw[U9];rw[he]at hsp;have hprD:HQ (y,1+u)=.lst [cR y,.int ((1+u:Nat):Int)]:=rfl;open_line with[De,hYl,t1,hsp,hpw,t2,hm,t3,hadd,wD hap,hprD]
   .rw[U9]
    exact hpm2.nodup_iff.mpr hnd
   .intro z hz
    rw[U9]at hz;exact hmem z (hpm2.mem_iff.mp hz)
   .intro p hp
    rcases U6.mp hp with hp|hp
    .exact hmany p hp
    .rw[UL.mp hp]
     show 1<=1+u/\1+u<=1000000;omega) 0 [.pt a,.sh (.lst (F.map cR)),.ow (.lst (F.map cR)),.ow (.lst []),.no,.no,.no,.no] st1 (Wx _) ⟨[],F,_,_,_,rfl,rfl,by simp,by simpa using nd,λy hy=>by simpa using hy,λp hp=>(nomatch hp),S1⟩
 rw[VR]at hf;rw[hci]at hM hY;have htt:bp M<=9000000:=by
  have h1:=sum_le (B:=1000000) (L:=M.map (·.2)) λx hx=>by
   obtain⟨p,hp,rfl⟩:=U4.mp hx;exact(hmany p hp).2
  unfold bp;rw[Us]at h1;omega
 have X:Mx w M:=⟨λp hp=>hF p.1 (hmem p.1 (VL _ (U4.mpr ⟨p,hp,rfl⟩))),λp hp=>(hmany p hp).1,htt,(W8.mp hnd).1,λe=>by rw[e]at hM;simp at hM;omega,by omega⟩
 obtain⟨t0,t9⟩:=X.tot;have hsum:∀B:Ev,ff 2 [] (el [0,1]) mYes (af 1) B (M.map HQ)=.ok (.lst (M.map λp=>D.int (p.2:Int))):=λB=>by
  rw[bw HQ (λp=>some (D.int (p.2:Int))) (by omega) λp hp=>⟨[.sh (cR p.1),.sh (.int (p.2:Int))],rfl,.inr ⟨_,rfl,rfl,rfl⟩⟩,VF]
 have hds:Gn (.lst (M.map λp=>D.int (p.2:Int)))=.ok (.int (bp M:Int)):=by
  show(match ji (M.map λp=>D.int (p.2:Int)) with|some ns=>ar.ok (D.int ns.sum)|none=>.stuck)=_;rw[mR (f:=λp:bv×Nat=>(p.2:Int))];simp only[yY]
 have hmk:∀B:Ev,B[7]?=some (.sh (.int (bp M:Int)))->ff 2 [7] (el [0,1]) mYes (ao (ae (af 0) (ae (ao (ae (af 1) (ae (af 2) az)) bg) az)) cT) B (M.map HQ)=.ok (cH M):=λB hB=>by
  have hb:de 2 [7] B=[.no,.no,.sh (.int (bp M:Int))]:=by
   unfold de;simp[hB]
  rw[bw HQ (λp=>some (iX (bp M) p)) (by omega),VF]
  .rfl
  .intro p hp
   rw[hb];refine⟨[.sh (cR p.1),.sh (.int (p.2:Int)),.sh (.int (bp M:Int))],rfl,.inr ⟨_,rfl,rfl,?_⟩⟩;have hm:=hmany p hp;have hlo:bg [.int (p.2:Int),.int (bp M:Int)]=.ok (fr (sh (bp M) p.2)):=Cod.low_ok (by omega) (K51.small13 (by omega)) (K51.small13 (by omega));open_line with[hlo]
   rfl
 refine⟨M,st2,?_,X,by omega,S2⟩;have hsL:∀ds,ju (.lst ds)=.ok ds:=λ_=>rfl;have hdl:sq (.lst (F.map cR))=.ok (.lst (F.map cR)):=rfl;have hmk':=hmk [.pt a,.sh (.lst (F.map cR)),.sh (.lst (Y.map cR)),.sh (.lst (M.map HQ)),vD x4,vD x5,vD x6,.sh (.int (bp M:Int))] rfl;open_line with[cq,jn,hdl,hlF,k1,hmin,hsr,hf,hsL,hsum,hds,hmk']
def shares_nil(a:Uy)(S:St st):∃st',cq a st [.lst []]=.ok (.lst [],st')/\St st':=by
 obtain⟨d9,st1,k1,d0,d8,S1⟩:=bM a (n:=9) (by decide) (by decide) S;have hmin:Ax (.int 0) (.int (1+d9))=.ok (.int 0):=by
  show ar.ok (D.int (if(1+d9)<(0:Int) then(1+d9) else 0))=_;rw[if_neg (by omega)]
 have hsr:nV (.int 0,st1)=.ok ([],st1):=m6 (by omega);have hdl:sq (.lst [])=.ok (.lst []):=rfl;have hsL:∀ds,ju (.lst ds)=.ok ds:=λ_=>rfl;have hc:∀(n:Nat) (fr:bv) (tg:Ev->D->ar Ev) (tt fe:am) (B:Ev),ff n fr tg tt fe B []=.ok (.lst []):=λ_ _ _ _ _ _=>rfl;have hds:Gn (.lst [])=.ok (.int 0):=rfl;have hf0:∀(tg:Ev->D->ar Ev) (s:Ev->ac->ar fb) (ρ:Ev) (st:ac),DL.forM tg s [] ρ st=.ok (.nx ρ st):=λ_ _ _ _=>rfl;refine⟨st1,?_,S1⟩;open_line with[cq,jn,hdl,k1,hmin,hsr,hf0,hsL,hc,hds]
open K51 (Bd El mt pl fk eA dr fJ less_bd gM i5 kN eN bw w1 t4 lj)
open Way (zx)
open K11 (nums ways eG)
open K12 (lenAt)
open K15 (gX gF)
def rt0:Rt (0,1):=⟨Ft,by decide,Rh.up (by decide)⟩
def way_ne(W:cc w)(h:gX w [] ⟨[],[],w.fi⟩ y):y≠[]:=by
 obtain⟨r,e1,e2⟩:=Way.ext_walk W h;have:y=r:=by simpa using e1
 subst this;rintro rfl;obtain⟨s,hs⟩:=e2 0;have hs:K11.walk w [] [] w.fi 0 (nums [])=.inr (s++[w.la]):=hs;rw[show nums []=[] from rfl]at hs;unfold K11.walk at hs;have:=ZE hs;cases s with|nil=>simp at this;exact W.ne this|cons a s=>simp at this
open K51 (Bd El mt pl bw w1 t4 lj)
open K11 (nums ways eG)
open K15 (gX gF)
section
variable {w:iT}(W:cc w) (hw:∀t∈w.ts,iU t) {M:List (bv×Nat)}(X:Mx w M)
include W X
omit W X in
theorem EA{x:g7}:gP [fr x]=.ok (.bl true):=by
 have hc:∀B:Ev,ff 1 [] (bU 0) (gq (aY (af 0) (b9 "bool")) (cp (aY (af 0) (b9 "int")))) (af 0) B [.int x.1,.int x.2]=.ok (.lst []):=λB=>by
  have:=bw (n:=1) (fr':=[]) (ρ:=B) (tg:=bU 0) (tt:=gq (aY (af 0) (b9 "bool")) (cp (aY (af 0) (b9 "int")))) (fe:=af 0) (λi:Int=>D.int i) (λ_=>none) (L:=[x.1,x.2]) (by simp) λi _=>⟨[.sh (.int i)],rfl,.inl ⟨rfl,by open_line with[]⟩⟩
  simpa using this
 have hsL:∀(A:Ev),CA (af 0) (.sh (.tup [.int x.1,.int x.2])::A)=.ok [.int x.1,.int x.2]:=λ_=>rfl;have hee:gO (.lst []) (.lst [])=.ok (.bl true):=rfl;rw[show fr x=.tup [.int x.1,.int x.2] from rfl];open_line with[gP,fu,hsL,hc,hee]
include hw
end
def F7:Fq f ρ st=(f ρ st).bind Fp:=aI rfl
def B4:Fp (.bl b,st)=.ok (.bl (!b),st):=aI rfl
end K54
namespace K53
open PySem L2 DL Com Bor Pth
open K51 (Bd El mt pl eA eN bw w1 t4 jB)
open Way (zx)
open K11 (nums ways eG walk kq lM there Elt iD Df)
open K15 (gX gF gu)
open K54 (sh q iX cH cR bp Mx gA fQ fw vE pT qv uw xS mS)
def lC(W:cc w)(h:gX w ks e y):gu w ks e->y.length<=6:=by
 induction h with
 |here hz=>
  intro B;have:=B.len;have:=B.ln;have:=W.n7;omega
 |@step e n b p hz g hb h ih=>
  intro B;exact ih (K15.kid_ok W B (n:=n) ((K15.mem_kid W).mpr ⟨b,g,hb,rfl⟩)).1
def Du(W:cc w):gu w ks ⟨[],[],w.fi⟩:=⟨.nil,by simp[gF.seen],λp hp=>by
 have:p=w.fi:=by simpa[gF.seen] using hp
 rw[this];exact W.fi,rfl⟩
theorem xr{w:iT}(W:cc w){ks:bv}:∀(y y0:bv) (pre:bi) (here:UP) (i:Nat) (seen:bi),walk w ks pre here i (nums y)=.inr seen->seen.getLast?=some w.la->gX w ks ⟨y0,pre,here⟩ (y0++y)
 |[],y0,pre,here,i,seen,h,hl=>by
  rw[show nums []=[] from rfl]at h;unfold walk at h;have e:=ZE h;subst e;have:here=w.la:=by simpa using hl
  rw[Vd];exact gX.here (e:=⟨y0,pre,here⟩) this
 |n::y,y0,pre,here,i,seen,h,hl=>by
  rw[show nums (n::y)=.int (n:Int)::nums y from rfl]at h;unfold walk at h;cases hg:lM w ks (pre++[here]) here (.int (n:Int)) with
  |none=>rw[hg]at h;cases h
  |some b=>
   rw[hg]at h;have ih:=xr W y (y0++[n]) (pre++[here]) b (i+1) seen h hl;unfold lM at hg
   by_cases hz:here=w.la
   .rw[if_pos hz]at hg;cases hg
   .rw[if_neg hz]at hg
    have hk:((n:Int)).toNat=n:=by omega
    simp only[hk]at hg
    by_cases hc:0<=(n:Int)/\(n:Int)<(w.ts.length:Int)/\n∉ks
    .rw[if_pos hc]at hg
     cases ht:w.ts[n]? with
     |none=>rw[ht]at hg;cases hg
     |some t=>
      rw[ht]at hg;simp only at hg;cases hh:there t here with
      |none=>rw[hh]at hg;cases hg
      |some b'=>
       rw[hh]at hg;simp only at hg
       by_cases hs:b'∈pre++[here]
       .rw[if_pos hs]at hg;cases hg
       .rw[if_neg hs]at hg
        cases hg;have T:=W.ts t (UX ht);rw[Wq]at ih;exact gX.step (e:=⟨y0,pre,here⟩) hz ⟨t,ht,hc.2.2,(K15.there_ways T).mp hh⟩ hs ih
    .rw[if_neg hc]at hg;cases hg
structure AQ (w:iT) (d:D):Prop where
 p:K54.m_is_way [aP w,.lst [],d]=.ok (.bl false)
 l:∃v,bD [aP w,.lst [],d]=.ok (.tup [.str "at",v])
def uM(h:K11.m_walk_way [aP w,.lst [],d]=.exn (iD v)):K54.m_is_way [aP w,.lst [],d]=.ok (.bl false):=by
 have h2:K54.m_walk_way [aP w,.lst [],d]=.exn (iD v):=h;have ht:∀(sh:bd),mv (je (ae (af 0) (ae (af 1) (ae (af 2) az))) K54.m_walk_way) (i8 K54.gC) sh [.sh (aP w),.sh (.lst []),.sh d]=sh [.sh (aP w),.sh (.lst []),.sh d]:=λsh=>by
  have hd:je (ae (af 0) (ae (af 1) (ae (af 2) az))) K54.m_walk_way [.sh (aP w),.sh (.lst []),.sh d]=.exn (iD v):=by
   have e:(ae (af 0) (ae (af 1) (ae (af 2) az))) [.sh (aP w),.sh (.lst []),.sh d]=.ok [aP w,.lst [],d]:=rfl;unfold je;rw[e];show(K54.m_walk_way [aP w,.lst [],d]).bind _=_;rw[h2];rfl
  unfold mv;rw[hd];have hh:i8 K54.gC "NoWay"=true:=rfl;show(if i8 K54.gC "NoWay"=true then _ else _)=_;rw[if_pos hh]
 open_line with[K54.m_is_way,K54.b_is_way,ht]
def Ct(W:cc w)(y:bv)(hl:y.length<=20):gX w [] ⟨[],[],w.fi⟩ y∨AQ w (cR y):=by
 have he:∀d∈nums y,Elt d:=λd hd=>by
  obtain⟨n,_,rfl⟩:=U4.mp hd;exact .inl rfl
 have hl':(nums y).length<=100:=by rw[K15.nums_len];omega
 obtain⟨seen,hw⟩:=K11.wrong_list (w:=w) (ks:=[]) he hl';rcases K11.way_list W (ks:=[]) he hl' with⟨j,h1,h2⟩|⟨h1,d,h2⟩
 .refine .inr ⟨uM h2,?_⟩
  rw[h1]at hw;exact⟨_,hw⟩
 .refine .inl ?_
  cases hx:walk w [] [] w.fi 0 (nums y) with
  |inl j=>rw[hx]at h1;cases h1
  |inr s=>
   rw[hx]at h1;unfold kq at h1
   by_cases hc:s.getLast?=some w.la
   .exact xr W y [] [] w.fi 0 s hx hc
   .simp only[if_neg hc]at h1;cases h1
def uB(hd:Elt d)(hl:∀ds,d≠.lst ds):AQ w d:=⟨uM (K11.way_other (ks:=[]) hd hl),_,K11.wrong_other (ks:=[]) hd hl⟩
def AW(W:cc w)(h:gX w [] ⟨[],[],w.fi⟩ y):∃seen,bD [aP w,.lst [],cR y]=.ok (.tup [.str "way",.lst seen]):=by
 have he:∀d∈nums y,Elt d:=λd hd=>by
  obtain⟨n,_,rfl⟩:=U4.mp hd;exact .inl rfl
 have hl:=lC W h (Du W);obtain⟨seen,hw⟩:=K11.wrong_list (w:=w) (ks:=[]) he (by rw[K15.nums_len];omega);rw[Way.end_none W h]at hw;exact⟨_,hw⟩
def vX:ac:=[.non,.bl true,.int 1,.str "1",.tup [.int 2,.int 2],.tup [.int 2,.int 4],.tup [.int 0,.int 1],.tup [.int (-1),.int 2],.tup [.bl true,.int 1],.tup [.int 1,.bl true],.tup [.int 1,.int 0],.lst [.int 1,.int 1]]
structure ze (d:D):Prop where
 p:K54.m_is_ratio [d]=.ok (.bl false)∨(K54.m_is_ratio [d]=.ok (.bl true)/\∃i:Int,aO d (.int 0)=.ok (.int i)/\¬i > 0)
 l:bS [d]=.ok (.bl false)∨(bS [d]=.ok (.bl true)/\aO d (.int 0)=.ok (.int 0))
def Ig(h:d∈vX):ze d:=by
 simp only[vX,UI,Vq,or_false]at h;rcases h with rfl|rfl|rfl|rfl|rfl|rfl|rfl|rfl|rfl|rfl|rfl|rfl
 .exact⟨.inl rfl,.inl rfl⟩
 .exact⟨.inl rfl,.inl rfl⟩
 .exact⟨.inl rfl,.inl rfl⟩
 .exact⟨.inl rfl,.inl rfl⟩
 .refine⟨.inl rfl,.inl ?_⟩
  exact(jB (p:=2) (q:=2) (by decide) (by decide) (K51.small13 (by decide)) (K51.small13 (by decide))).trans rfl
 .refine⟨.inl rfl,.inl ?_⟩
  exact(jB (p:=2) (q:=4) (by decide) (by decide) (K51.small13 (by decide)) (K51.small13 (by decide))).trans rfl
 .refine⟨.inr ⟨rfl,0,rfl,by decide⟩,.inr ⟨?_,rfl⟩⟩
  exact(jB (p:=0) (q:=1) (by decide) (by decide) (K51.small13 (by decide)) (K51.small13 (by decide))).trans rfl
 .exact⟨.inr ⟨rfl,-1,rfl,by decide⟩,.inl rfl⟩
 .exact⟨.inl rfl,.inl rfl⟩
 .exact⟨.inl rfl,.inl rfl⟩
 .exact⟨.inl rfl,.inl rfl⟩
 .exact⟨.inl rfl,.inl rfl⟩
open K51 (Bd El mt pl eA eN bw w1 t4 jB)
open K11 (nums ways eG walk kq lM there Elt iD Df)
open K15 (gX gF gu)
open K54 (sh q iX cH cR bp Mx gA fQ fw vE pT qv uw xS mS EA)
def fH(d:D):RB:=⟨"NoMix",[("at",d)]⟩
structure GL (w:iT) (p:bv×Nat):Prop where
 ext:gX w [] ⟨[],[],w.fi⟩ p.1
 m1:1<=p.2
 m2:p.2<=20000000
inductive Ku (w:iT):D->Prop where
 |len {ds:ac}:ds.length≠2->Ku w (.tup ds)
 |lst {ds:ac}:Ku w (.lst ds)
 |non:Ku w .non
 |way {d s:D}:AQ w d->Ku w (.tup [d,s])
 |shr {y:bv}{s:D}:gX w [] ⟨[],[],w.fi⟩ y->ze s->bC 39 s=true->Ku w (.tup [cR y,s])
def Dv(hT:0<T)(hT2:T<=9000000)(hm:m<=250000000):Bd (sh T m) 28:=eN (by omega) (by omega) (by omega)
def GA(W:cc w)(h:Ku w e):K54.m_is_way_with_share [aP w,e]=.ok (.bl false):=by
 cases h with
 |@len ds hl=>
  have ht:b9 "tuple" (.tup ds)=.ok (.bl true):=rfl;have hn:cB (.tup ds)=.ok (.int (ds.length:Int)):=rfl;have hne:gi (.int (ds.length:Int)) (.int 2)=.ok (.bl true):=by rw[qX];simp;omega
  open_line with[K54.m_is_way_with_share,K54.b_is_way_with_share,ht,hn,hne]
 |lst=>open_line with[K54.m_is_way_with_share,K54.b_is_way_with_share]
 |non=>open_line with[K54.m_is_way_with_share,K54.b_is_way_with_share]
 |@way d s hb=>
  have h1:=hb.p;have i0:aO (.tup [d,s]) (.int 0)=.ok d:=rfl;have ht:b9 "tuple" (.tup [d,s])=.ok (.bl true):=rfl;have hn:cB (.tup [d,s])=.ok (.int 2):=rfl;have hne:gi (.int 2) (.int 2)=.ok (.bl false):=rfl;open_line with[K54.m_is_way_with_share,K54.b_is_way_with_share,ht,hn,hne,i0,h1]
 |@shr y s hE hs hh=>
  have h1:=Way.is_way_ok W hE (U8 (lC W hE (Du W)) (by decide));have i0:aO (.tup [cR y,s]) (.int 0)=.ok (cR y):=rfl;have i1:aO (.tup [cR y,s]) (.int 1)=.ok s:=rfl;have ht:b9 "tuple" (.tup [cR y,s])=.ok (.bl true):=rfl;have hn:cB (.tup [cR y,s])=.ok (.int 2):=rfl;have hne:gi (.int 2) (.int 2)=.ok (.bl false):=rfl;have h1:K54.m_is_way [aP w,.lst [],cR y]=.ok (.bl true):=h1;rcases hs.p with h2|⟨h2,i,h3,h4⟩
  .open_line with[K54.m_is_way_with_share,K54.b_is_way_with_share,ht,hn,hne,i0,i1,h1,h2]
  .have hg:Dm (.int i) (.int 0)=.ok (.bl false):=by
    have:Dm (.int i) (.int 0)=.ok (.bl (decide (i > 0))):=rfl;rw[this,decide_eq_false h4]
   open_line with[K54.m_is_way_with_share,K54.b_is_way_with_share,ht,hn,hne,i0,i1,h1,h2,h3,hg]
noncomputable abbrev lB:bd:=(aw (bT 4 (ag (af 1) (af 3) aO))
 (aw (dM (gq (cp (aY (af 4) (b9 "tuple"))) (gq (ag (ao (ae (af 4) az) (m1 cB)) (dC (.int 2)) gi) (ag (ag (ao (ae (af 0) (ae (ao az b5) (ae (ag (af 4) (dC (.int 0)) aO) az))) bD) (dC (.int 0)) aO) (dC (.str "way")) gi)))
 (aw (bE (ao (ae (dC (.str "at")) (ae (af 3) az)) cT))
 au)
 au)
 (aw (dM (ag (ag (af 4) (dC (.int 0)) aO) (dy 1 [] (kD (lO (af 1) dX (dP (af 3)))) (bU 0) mYes (ag (af 0) (dC (.int 0)) aO)) oY)
 (aw (bE (ao (ae (dC (.str "at")) (ae (af 3) az)) cT))
 au)
 au)
 (aw (dM (gq (cp (ao (ae (ag (af 4) (dC (.int 1)) aO) az) bS)) (ag (ag (ag (af 4) (dC (.int 1)) aO) (dC (.int 0)) aO) (dC (.int 0)) gO))
 (aw (bE (ao (ae (dC (.str "at")) (ae (af 3) az)) cT))
 au)
 au)
 (aw (bT 2 (ao (ae (af 2) (ae (ag (af 4) (dC (.int 1)) aO) az)) cX))
 au)))))
def zi(w:iT)(th:ac)(t:g7)(x3 x4:Sl):Ev:=[.sh (aP w),.sh (.lst th),.sh (fr t),x3,x4]
def zg(w:iT)(th:ac)(P:List (bv×Nat))(x3 x4:Sl):Ev:=[.sh (aP w),.sh (.lst th),.ow (.lst ((P.map (·.1)).map cR)),x3,x4]
noncomputable abbrev pB:bd:=(aw (dM (gq (cp (ao (ae (af 0) (ae (af 4) az)) m_is_way_with_share)) (ag (ag (af 4) (dC (.int 0)) aO) (af 2) oY))
 (aw (fR "NoMix" ["at"] (ae (af 3) az))
 au)
 au)
 (aw (du 2 (ag (af 4) (dC (.int 0)) aO))
 au))
abbrev Ri(i:Nat):D:=.tup [.str "at",.int (i:Int)]
section
variable {w:iT}(W:cc w) {T:Nat}(hT:0<T) (hT2:T<=9000000) {th:ac}(hth:th.length<=10) {P:List (bv×Nat)}{i:Nat}(hi:i=P.length) (hP:th.take i=P.map (iX T)) {e:D}(he:th[i]?=some e)
include W hT hT2 hth hi hP he
omit W hT hT2 in
theorem slice:iZ th none (some (i:Int))=P.map (iX T):=by
 rw[Nwb.cut_id (Xu (Ux.mp he).1),hP]
omit W hT hT2 in
theorem uk(B:Ev):ff 1 [] (bU 0) mYes (ag (af 0) (dC (.int 0)) aO) B (P.map (iX T))=.ok (.lst ((P.map (·.1)).map cR)):=by
 have hl:P.length<=1000000:=by
  have:=(Ux.mp he).1;omega
 rw[bw (iX T) (λp=>some (cR p.1)) hl λp hp=>⟨[.sh (iX T p)],rfl,.inr ⟨_,rfl,rfl,rfl⟩⟩,VF,VQ];rfl
omit hT hT2 in
theorem Kl(h:Ku w e){t:g7}{x4:Sl}:lB (zi w th t (.sh (.int (i:Int))) x4)=.ok (.rt (Ri i)):=by
 have hx:aO (.lst th) (.int (i:Int))=.ok e:=jh he;have hs:=slice hth hi hP he;have hc:=uk hth hi hP he;unfold zi;cases h with
 |@len ds hl=>
  have ht:b9 "tuple" (.tup ds)=.ok (.bl true):=rfl;have hn:cB (.tup ds)=.ok (.int (ds.length:Int)):=rfl;have hne:gi (.int (ds.length:Int)) (.int 2)=.ok (.bl true):=by rw[qX];simp;omega
  open_line with[hx,ht,hn,hne]
 |lst=>open_line with[hx]
 |non=>open_line with[hx]
 |@way d s hb=>
  obtain⟨v,h1⟩:=hb.l;have i0:aO (.tup [d,s]) (.int 0)=.ok d:=rfl;have ht:b9 "tuple" (.tup [d,s])=.ok (.bl true):=rfl;have hn:cB (.tup [d,s])=.ok (.int 2):=rfl;have hne:gi (.int 2) (.int 2)=.ok (.bl false):=rfl;have j0:aO (.tup [.str "at",v]) (.int 0)=.ok (.str "at"):=rfl;have hw:gi (.str "at") (.str "way")=.ok (.bl true):=rfl;open_line with[hx,ht,hn,hne,i0,h1,j0,hw]
 |@shr y s hE hs' hh=>
  obtain⟨seen,h1⟩:=AW W hE;have i0:aO (.tup [cR y,s]) (.int 0)=.ok (cR y):=rfl;have i1:aO (.tup [cR y,s]) (.int 1)=.ok s:=rfl;have ht:b9 "tuple" (.tup [cR y,s])=.ok (.bl true):=rfl;have hn:cB (.tup [cR y,s])=.ok (.int 2):=rfl;have hne:gi (.int 2) (.int 2)=.ok (.bl false):=rfl;have j0:aO (.tup [.str "way",.lst seen]) (.int 0)=.ok (.str "way"):=rfl;have hw:gi (.str "way") (.str "way")=.ok (.bl false):=rfl;have hin:=mS (y:=y) (Y:=P.map (·.1));cases hd:decide (y∈P.map (·.1)) with
  |true=>
   rw[hd]at hin;open_line with[hx,ht,hn,hne,i0,h1,j0,hw,hs,hc,hin]
  |false=>
   rw[hd]at hin;rcases hs'.l with h2|⟨h2,h3⟩
   .open_line with[hx,ht,hn,hne,i0,i1,h1,j0,hw,hs,hc,hin,h2]
   .have h4:gO (.int 0) (.int 0)=.ok (.bl true):=rfl
    open_line with[hx,ht,hn,hne,i0,i1,h1,j0,hw,hs,hc,hin,h2,h3,h4]
omit hT hT2 hth hP he hi in
theorem Gz(h:Ku w e):pB (zg w th P (.sh (.int (i:Int))) (.sh e))=.exn (fH (.int (i:Int))):=by
 have h1:m_is_way_with_share [aP w,e]=.ok (.bl false):=GA W h;unfold zg fH;open_line with[h1,dm,cQ,Com.ev_exn]
theorem yz(g:GL w p)(ep:e=iX T p)(hq:bp P<=200000000) :
  (p.1∈P.map (·.1)->lB (zi w th (sh T (bp P)) (.sh (.int (i:Int))) x4)=.ok (.rt (Ri i))) /\
  (p.1∉P.map (·.1)->lB (zi w th (sh T (bp P)) (.sh (.int (i:Int))) x4)=.ok (.nx (zi w th (sh T (bp (P++[p]))) (.sh (.int (i:Int))) (.sh e)))):=by
 have hx:aO (.lst th) (.int (i:Int))=.ok e:=jh he;have hs:=slice hth hi hP he;have hc:=uk hth hi hP he;subst ep;obtain⟨seen,h1⟩:=AW W g.ext;have i0:aO (iX T p) (.int 0)=.ok (cR p.1):=rfl;have i1:aO (iX T p) (.int 1)=.ok (fr (sh T p.2)):=rfl;have ht:b9 "tuple" (iX T p)=.ok (.bl true):=rfl;have hn:cB (iX T p)=.ok (.int 2):=rfl;have hne:gi (.int 2) (.int 2)=.ok (.bl false):=rfl;have j0:aO (.tup [.str "way",.lst seen]) (.int 0)=.ok (.str "way"):=rfl;have hw:gi (.str "way") (.str "way")=.ok (.bl false):=rfl;have hin:=mS (y:=p.1) (Y:=P.map (·.1));unfold zi;constructor
 .intro hd
  rw[decide_eq_true hd]at hin;open_line with[hx,ht,hn,hne,i0,h1,j0,hw,hs,hc,hin]
 .intro hd
  rw[decide_eq_false hd]at hin;have sb:=Dv (m:=p.2) hT hT2 (by have:=g.m2;omega);have tb:=Dv (m:=bp P) hT hT2 (by omega);have sp:=qv hT g.m1;have hlen:bS [fr (sh T p.2)]=.ok (.bl true):=by
   have hc:=sb.c13 (by decide);have h:=jB (p:=(sh T p.2).1) (q:=(sh T p.2).2) (by omega) sb.q0 hc.1 hc.2;rw[K51.low_same (fQ hT),show D.tup [.int (sh T p.2).1,.int (sh T p.2).2]=fr (sh T p.2) from rfl,rS]at h;exact h
  have k0:aO (fr (sh T p.2)) (.int 0)=.ok (.int (sh T p.2).1):=rfl;have hz:gO (.int (sh T p.2).1) (.int 0)=.ok (.bl false):=by
   rw[Au];have:((sh T p.2).1==0)=false:=beq_eq_false_iff_ne.mpr (by omega);rw[this]
  have hpl:cX [fr (sh T (bp P)),fr (sh T p.2)]=.ok (fr (sh T (bp (P++[p])))):=by
   have h:=eA tb sb (by decide);rw[vE hT]at h;have e:bp (P++[p])=bp P+p.2:=by unfold bp;simp
   rw[e];exact h
  open_line with[hx,ht,hn,hne,i0,i1,h1,j0,hw,hs,hc,hin,hlen,k0,hz,hpl]
omit hT2 hP in
theorem uN{p:bv×Nat}(g:GL w p)(ep:e=iX T p) :
  (p.1∈P.map (·.1)->pB (zg w th P (.sh (.int (i:Int))) (.sh e))=.exn (fH (.int (i:Int)))) /\
  (p.1∉P.map (·.1)->pB (zg w th P (.sh (.int (i:Int))) (.sh e))=.ok (.nx (zg w th (P++[p]) (.sh (.int (i:Int))) (.sh e)))):=by
 subst ep;have h1:m_is_way_with_share [aP w,iX T p]=.ok (.bl true):=Way.share_ok W g.ext (U8 (lC W g.ext (Du W)) (by decide)) (fQ hT) (qv hT g.m1);have i0:aO (iX T p) (.int 0)=.ok (cR p.1):=rfl;have hin:=mS (y:=p.1) (Y:=P.map (·.1));have hap:decide (((P.map (·.1)).map cR).length<=999)=true:=decide_eq_true (by
  have:=(Ux.mp he).1;simp;omega)
 unfold zg;constructor
 .intro hd
  rw[decide_eq_true hd]at hin;unfold fH;open_line with[h1,i0,hin,dm,cQ,Com.ev_exn]
 .intro hd
  rw[decide_eq_false hd]at hin;rw[U9,U9];open_line with[h1,i0,hin,i9 hap]
end
def uf(w:iT)(T:Nat)(e:D):Prop:=(∃p,GL w p/\e=iX T p)∨Ku w e
def P0{w:iT}(W:cc w){T:Nat}(hT:0<T)(hT2:T<=9000000){th:ac}(hth:th.length<=10)(hI:∀e∈th,uf w T e):∀(m i:Nat) (P:List (bv×Nat)) (x3 x4 y3 y4:Sl),i+m=th.length->i=P.length->th.take i=P.map (iX T)->(P.map (·.1)).Nodup->(∀p∈P,GL w p) ->
  (∃j:Nat,b7 (el [3,4]) pB ((DL.numbered 0 th).drop i) (zg w th P x3 x4)=.exn (fH (.int (j:Int)))/\b7 (bU 3) lB ((DL.intsFrom 0 th.length).drop i) (zi w th (sh T (bp P)) y3 y4)=.ok (.rt (Ri j))) ∨
  (∃M,th=M.map (iX T)/\(M.map (·.1)).Nodup/\(∀p∈M,GL w p)/\(∃x3' x4',b7 (el [3,4]) pB ((DL.numbered 0 th).drop i) (zg w th P x3 x4)=.ok (.nx (zg w th M x3' x4')))/\(∃y3' y4',b7 (bU 3) lB ((DL.intsFrom 0 th.length).drop i) (zi w th (sh T (bp P)) y3 y4)=.ok (.nx (zi w th (sh T (bp M)) y3' y4')))):=by
 intro m
 induction m with
 |zero=>
  intro i P x3 x4 y3 y4 him hi hP hn hG;have:i=th.length:=by omega
  subst this;rw[Zo (by rw[fV];exact UC _),rn];rw[List.take_length]at hP;exact .inr ⟨P,hP,hn,hG,⟨x3,x4,rfl⟩,⟨y3,y4,rfl⟩⟩
 |succ m ih=>
  intro i P x3 x4 y3 y4 him hi hP hn hG;have hlt:i<th.length:=by omega
  have he:=Ut (l:=th) (i:=i) hlt;rw[K11.numbered_drop th 0 i hlt,Xt,nY hlt];have hg:el [3,4] (zg w th P x3 x4) (.tup [.int (i:Int),th[i]])=.ok (zg w th P (.sh (.int (i:Int))) (.sh th[i])):=rfl;have hg2:bU 3 (zi w th (sh T (bp P)) y3 y4) (.int (i:Int))=.ok (zi w th (sh T (bp P)) (.sh (.int (i:Int))) y4):=rfl;have stop:pB (zg w th P (.sh (.int (i:Int))) (.sh th[i]))=.exn (fH (.int (i:Int)))->lB (zi w th (sh T (bp P)) (.sh (.int (i:Int))) y4)=.ok (.rt (Ri i)) ->
    b7 (el [3,4]) pB (.tup [.int (i:Int),th[i]]::(DL.numbered 0 th).drop (i+1)) (zg w th P x3 x4)=.exn (fH (.int (i:Int)))/\b7 (bU 3) lB (.int (i:Int)::(DL.intsFrom 0 th.length).drop (i+1)) (zi w th (sh T (bp P)) y3 y4)=.ok (.rt (Ri i)):=by
   intro e1 e2;constructor
   .unfold b7;rw[hg];simp only[ar.bind,e1]
   .unfold b7;rw[hg2];simp only[ar.bind,e2]
  have hq:bp P<=200000000:=by
   have h1:=K54.sum_le (B:=20000000) (L:=P.map (·.2)) λx hx=>by
    obtain⟨p,hp,rfl⟩:=U4.mp hx;exact(hG p hp).m2
   unfold bp;rw[Us]at h1;omega
  rcases hI th[i] (VY hlt) with⟨p,g,ep⟩|hb
  .by_cases hd:p.1∈P.map (·.1)
   .exact .inl ⟨i,stop ((uN W hT hth hi he g ep).1 hd) ((yz W hT hT2 hth hi hP he g ep hq).1 hd)⟩
   .have e1:=(uN W hT hth hi he g ep).2 hd
    have e2:=(yz W hT hT2 hth hi hP he g ep hq (x4:=y4)).2 hd;have f1:b7 (el [3,4]) pB (.tup [.int (i:Int),th[i]]::(DL.numbered 0 th).drop (i+1)) (zg w th P x3 x4)=b7 (el [3,4]) pB ((DL.numbered 0 th).drop (i+1)) (zg w th (P++[p]) (.sh (.int (i:Int))) (.sh th[i])):=by
     rw[b7,hg];simp only[ar.bind,e1]
    have f2:b7 (bU 3) lB (.int (i:Int)::(DL.intsFrom 0 th.length).drop (i+1)) (zi w th (sh T (bp P)) y3 y4)=b7 (bU 3) lB ((DL.intsFrom 0 th.length).drop (i+1)) (zi w th (sh T (bp (P++[p]))) (.sh (.int (i:Int))) (.sh th[i])):=by
     rw[b7,hg2];simp only[ar.bind,e2]
    rw[f1,f2];refine ih (i+1) (P++[p]) _ _ _ _ (by omega) (by simp[hi]) ?_ ?_ ?_
    .rw[List.take_add_one,he,hP,U9]
     simp[ep]
    .rw[U9]
     refine W8.mpr ⟨hn,by simp,λa ha b hb c=>?_⟩;have:b=p.1:=by simpa using hb
     exact hd (by rw[←this,←c];exact ha)
    .intro p' hp'
     rcases U6.mp hp' with h|h
     .exact hG p' h
     .rw[UL.mp h];exact g
  .exact .inl ⟨i,stop (Gz W hb) (Kl W hth hi hP he hb)⟩
open K51 (Bd El mt pl fk eA dr eN i5 kN bw w1 t4 lj)
open K11 (nums ways eG Elt)
open K15 (gX gF gu)
open K54 (sh q iX cH cR bp Mx gA fQ fw vE pT qv uw xS EG OH ld Mg nJ)
def Lv(hT:0<T)(h:sh T m=(1,1)):m=T:=by
 have hr:=BC (a:=(m:Int)) (b:=(T:Int));have e:lT (m:Int) (T:Int)=(1,1):=h;rw[e]at hr;have:(1:Int)*(T:Int)=(m:Int)*1:=hr;omega
def Fm(W:cc w)(hT:0<T)(hT2:T<=9000000)(hth:th.length<=10)(hI:∀e∈th,uf w T e) :
  (∃v,(v=.non∨∃j:Int,v=.int j)/\bq [aP w,.lst th]=.exn (fH v)/\bO [aP w,.lst th]=.ok (.tup [.str "at",v])) ∨
  (∃M,Mx w M/\.lst th=cH M/\bq [aP w,.lst th]=.ok .non/\bO [aP w,.lst th]=.ok .non):=by
 have hW:m_look_at_web [aP w]=.ok .non:=vz W;have hlp:=P0 W hT hT2 hth hI th.length 0 [] .no .no .no .no (by omega) rfl rfl (by simp) (λp hp=>(nomatch hp));rw[VR,VR]at hlp;have e0:sh T (bp [])=(0,1):=pT hT;rw[e0]at hlp;unfold zg zi at hlp;have hsE:A4 (.lst th)=.ok (DL.numbered 0 th):=rfl;have hfr:=λs:bd=>iI (tg:=bU 3) (s:=s) (ρ:=[.sh (aP w),.sh (.lst th),.sh (.tup [.int 0,.int 1]),.no,.no]) (k:=th.length) (by omega);have hlen:cB (.lst th)=.ok (.int th.length):=eH;rw[show fr (0,1)=.tup [.int 0,.int 1] from rfl,Wn,Wn]at hlp;rcases hlp with⟨j,e1,e2⟩|⟨M,rfl,hn,hG,⟨x3,x4,e1⟩,⟨y3,y4,e2⟩⟩
 .refine .inl ⟨.int (j:Int),.inr ⟨j,rfl⟩,?_,?_⟩
  .open_line with[bq,fg,hW,hsE,e1,Com.ev_exn]
  .open_line with[bO,dU,hlen,hfr,e2]
 .rw[Us]at hth
  have hb:∀p∈M,Bd (sh T p.2) 28:=λp hp=>Dv hT hT2 (by have:=(hG p hp).m2;omega);have hc:∀(A:Ev),ff 2 [] (el [0,1]) mYes (af 1) A (M.map (iX T))=.ok (.lst ((M.map λp=>sh T p.2).map fr)):=λA=>by
   rw[bw (iX T) (λp=>some (fr (sh T p.2))) (by omega) λp hp=>⟨[.sh (cR p.1),.sh (fr (sh T p.2))],rfl,.inr ⟨_,rfl,rfl,rfl⟩⟩];rw[VF,VQ];rfl
  obtain⟨s,hs,sl,sb,sv⟩:=nJ (n:=28) (xs:=M.map λp=>sh T p.2) (λx hx=>by
   obtain⟨p,hp,rfl⟩:=U4.mp hx;exact hb p hp) (by rw[Us];omega) (by decide)
  have s1:s=sh T (bp M):=gA sl (fQ hT) (by
   rw[sv,VQ,fw hT];have:(M.map (val∘λp=>sh T p.2))=(M.map (·.2)).map (q T):=by
    rw[VQ];exact Xq λp _=>fw hT
   rw[this,xS];rfl)
  rw[s1]at hs;have hsL:∀ds:ac,ju (.lst ds)=.ok ds:=λ_=>rfl;have hlen':cB (.lst (M.map (iX T)))=.ok (.int (M.map (iX T)).length):=eH;have hne:gi (fr (sh T (bp M))) (.tup [.int 1,.int 1])=.ok (.bl (!(c8 (fr (sh T (bp M))) (fr (1,1))))):=rfl
  by_cases hc1:bp M=T
  .have h1:sh T (bp M)=(1,1):=gA (fQ hT) ⟨by decide,by decide⟩ (by rw[fw hT,hc1,EG hT,OH])
   rw[h1,rS]at hne;rw[h1]at hs;rw[h1]at e2;refine .inr ⟨M,⟨λp hp=>⟨(hG p hp).ext,U8 (lC W (hG p hp).ext (Du W)) (by decide)⟩,λp hp=>(hG p hp).m1,by omega,hn,λe=>by rw[e]at hc1;simp[bp]at hc1;omega,hth⟩,by unfold cH;rw[hc1],?_,?_⟩
   .open_line with[bq,fg,hW,hsE,e1,hsL,hc,hs,hne]
   .open_line with[bO,dU,hlen',hfr,e2,hne]
  .have hne':c8 (fr (sh T (bp M))) (fr (1,1))=false:=by
    have:¬(sh T (bp M)=(1,1)):=λc=>hc1 (Lv hT c);have h:=Vlx.eq_fr (x:=sh T (bp M)) (y:=(1,1));rw[decide_eq_false this]at h;have h':gO (fr (sh T (bp M))) (fr (1,1))=.ok (.bl (c8 (fr (sh T (bp M))) (fr (1,1)))):=rfl;rw[h']at h;exact(D.bl.inj (ar.ok.inj h))
   rw[hne']at hne;refine .inl ⟨.non,.inl rfl,?_,?_⟩
   .unfold fH
    open_line with[bq,fg,hW,hsE,e1,hsL,hc,hs,hne,dm,cQ,Com.ev_exn]
   .open_line with[bO,dU,hlen',hfr,e2,hne]
def CU(W:cc w)(h:b9 "list" d=.ok (.bl false)):bq [aP w,d]=.exn (fH .non)/\bO [aP w,d]=.ok (.tup [.str "at",.non]):=by
 have hW:m_look_at_web [aP w]=.ok .non:=vz W;constructor
 .unfold fH
  open_line with[bq,fg,hW,h,dm,cQ,Com.ev_exn]
 .open_line with[bO,dU,h]
def lK(w:iT):ac:=(w.ts.map λ_=>((1,1):g7)).map fr
section
variable {w:iT}(W:cc w) (hw:∀t∈w.ts,iU t) {M:List (bv×Nat)}(X:Mx w M) (hm:bq [aP w,cH M]=.ok .non)
include W hw X hm
omit hw in
theorem Iv:ip [aP w,cH M]=.ok (Mg w M):=by
 have t14:=W.t14;have hlen:cB (.lst (w.ts.map cz))=.ok (.int w.ts.length):=by rw[eH,Us]
 have hr:Cod.srcR1K (.int (w.ts.length:Int))=.ok (DL.intsFrom 0 w.ts.length):=Cod.srcR1_nat (by omega);have hc:ff 1 [1] (bU 0) mYes (ao (ae (af 1) (ae (af 0) az)) m_load_on) [.sh (aP w),.sh (cH M)] (DL.intsFrom 0 w.ts.length)=.ok (Mg w M):=by
  rw[K54.ints_rng];rw[bw (λk:Nat=>D.int (k:Int)) (λk=>some (fr (ld M k))) (by rw[List.length_range];omega) λk hk=>⟨[.sh (.int (k:Int)),.sh (cH M)],rfl,.inr ⟨_,rfl,rfl,K54.load_on_ok X⟩⟩];rw[VF];rfl
 open_line with[ip,ou,hm,w1,hlen,Cod.ev_srcR1,hr,hc]
omit hm in
theorem Dy:∃c,m_claim_of_adds [aP w,.lst (lK w),cH M,fr (0,1)]=.ok (fr c)/\Bd c 2465:=by
 have t14:=W.t14;have b1:Bd (1,1) 40:=⟨by decide,by decide,by decide⟩
 have b0:Bd (0,1) 70:=⟨by decide,by decide,by decide⟩
 obtain⟨ρ',hf,xs,y5,y6,y7,rfl,hx,hxl⟩:=K54.for_preN (tg:=el [5,6]) (body:=(aw (dM (ag (ag (af 6) (dC (.int 4)) aO) (dC (.non)) nj)
 (aw (bT 7 (ao (ae (ao (ae (af 2) (ae (af 5) az)) m_load_on) (ae (ao (ae (af 3) (ae (ag (af 6) (dC (.int 4)) aO) az)) m_times) az)) m_minus))
 (aw (du 4 (ao (ae (ag (af 1) (af 5) aO) (ae (Q8 (ao (ae (dC (.tup [(.int 0),(.int 1)])) (ae (af 7) az)) m_is_less) (af 7) (dC (.tup [(.int 0),(.int 1)]))) az)) m_times))
 au))
 au)
 au)) cz (λpre ρ=>∃xs y5 y6 y7,ρ=[.sh (aP w),.sh (.lst (lK w)),.sh (cH M),.sh (fr (0,1)),.ow (.lst (xs.map fr)),y5,y6,y7]/\(∀x∈xs,Bd x 175)/\xs.length<=pre.length) (L:=w.ts) (by
  rintro pre t post hM ρ ⟨xs,y5,y6,y7,rfl,hx,hxl⟩;have ht:w.ts[pre.length]?=some t:=by rw[hM];simp
  have hia:aO (.lst (lK w)) (.int (pre.length:Int))=.ok (fr (1,1)):=jh (by
   unfold lK;rw[UK,UK,ht];rfl)
  have hlo:m_load_on [cH M,.int (pre.length:Int)]=.ok (fr (ld M pre.length)):=K54.load_on_ok X;cases ho:t.o with
  |none=>
   have t4':aO (cz t) (.int 4)=.ok .non:=by rw[t4,ho];rfl
   refine⟨[.sh (aP w),.sh (.lst (lK w)),.sh (cH M),.sh (fr (0,1)),.ow (.lst (xs.map fr)),.sh (.int (pre.length:Int)),.sh (cz t),y7],_,rfl,?_,xs,.sh (.int (pre.length:Int)),.sh (cz t),y7,rfl,hx,by rw[U0];omega⟩;open_line with[t4']
  |some o=>
   have ob:=K54.amt_bd ((hw t (UX ht)).2 o ho);have t4':aO (cz t) (.int 4)=.ok (fr o):=by rw[t4,ho];rfl
   have hn:nj (fr o) .non=.ok (.bl true):=rfl;have hti:m_times [fr (0,1),fr o]=.ok (fr (mt (0,1) o)):=dr (x:=(0,1)) b0 ob (by decide);have tb:Bd (mt (0,1) o) 110:=i5 b0 ob;have lb:=K54.ld_bd X (k:=pre.length);have hmi:m_minus [fr (ld M pre.length),fr (mt (0,1) o)]=.ok (fr (Vlu.mi (ld M pre.length) (mt (0,1) o))):=Vlu.minus_bd lb tb (by decide);have mb:Bd (Vlu.mi (ld M pre.length) (mt (0,1) o)) 135:=K54.mi_bd lb tb;have hle:m_is_less [.tup [.int 0,.int 1],fr (Vlu.mi (ld M pre.length) (mt (0,1) o))]=.ok (.bl (flt (0,1) (Vlu.mi (ld M pre.length) (mt (0,1) o)))):=K51.less_bd (x:=(0,1)) b0 mb (by decide) (by decide);have hap:decide ((xs.map fr).length<=999)=true:=decide_eq_true (by
    have:pre.length<w.ts.length:=(Ux.mp ht).1;rw[Us];omega)
   have h1:m_times [fr (1,1),fr (Vlu.mi (ld M pre.length) (mt (0,1) o))]=.ok (fr (mt (1,1) (Vlu.mi (ld M pre.length) (mt (0,1) o)))):=dr (x:=(1,1)) b1 mb (by decide);have h2:m_times [fr (1,1),.tup [.int 0,.int 1]]=.ok (fr (mt (1,1) (0,1))):=dr (x:=(1,1)) (y:=(0,1)) b1 b0 (by decide);have fin:∀y,Bd y 175->(∀x∈xs++[y],Bd x 175)/\(xs++[y]).length<=(pre++[t]).length:=λy hy=>⟨λx h=>by
    rcases U6.mp h with h|h
    .exact hx x h
    .rw[UL.mp h];exact hy,by rw[U0,U0];simp;exact hxl⟩
   cases hc:flt (0,1) (Vlu.mi (ld M pre.length) (mt (0,1) o)) with
   |true=>
    rw[hc]at hle;refine⟨[.sh (aP w),.sh (.lst (lK w)),.sh (cH M),.sh (fr (0,1)),.ow (.lst (xs.map fr)),.sh (.int (pre.length:Int)),.sh (cz t),y7],_,rfl,?_,xs++[mt (1,1) (Vlu.mi (ld M pre.length) (mt (0,1) o))],.sh (.int (pre.length:Int)),.sh (cz t),.sh (fr (Vlu.mi (ld M pre.length) (mt (0,1) o))),rfl,fin _ (i5 b1 mb)⟩;rw[U9];open_line with[t4',hn,hlo,hti,hmi,hia,hle,h1,i9 hap]
   |false=>
    rw[hc]at hle;refine⟨[.sh (aP w),.sh (.lst (lK w)),.sh (cH M),.sh (fr (0,1)),.ow (.lst (xs.map fr)),.sh (.int (pre.length:Int)),.sh (cz t),y7],_,rfl,?_,xs++[mt (1,1) (0,1)],.sh (.int (pre.length:Int)),.sh (cz t),.sh (fr (Vlu.mi (ld M pre.length) (mt (0,1) o))),rfl,fin _ ((i5 b1 b0).up (by decide))⟩;rw[U9];open_line with[t4',hn,hlo,hti,hmi,hia,hle,h2,i9 hap]) (ρ:=[.sh (aP w),.sh (.lst (lK w)),.sh (cH M),.sh (fr (0,1)),.ow (.lst (([]:List g7).map fr)),.no,.no,.no]) ⟨[],_,_,_,rfl,λx hx=>(nomatch hx),UC _⟩
 obtain⟨s,hs,sl,sb,sv⟩:=nJ (n:=175) hx (by omega) (by decide);have hsE:A4 (.lst (w.ts.map cz))=.ok (DL.numbered 0 (w.ts.map cz)):=rfl;refine⟨s,?_,sb.up (by omega)⟩;rw[Wn]at hf;open_line with[m_claim_of_adds,K54.b_claim_of_adds,K54.m_claim_of_adds,w1,hsE,hf,hs]
theorem Gr:∃c,dR [aP w,.lst (lK w),.tup [.int 1,.int 1],cH M,.tup [.int 0,.int 1]]=.ok (fr c):=by
 have a1:GZ (1,1):=⟨⟨by decide,by decide⟩,by decide,by decide,by decide⟩
 have hal:(w.ts.map λ_=>((1,1):g7)).length=w.ts.length:=by rw[Us]
 have ha:∀a∈(w.ts.map λ_=>((1,1):g7)),GZ a:=λa h=>by
  obtain⟨t,_,rfl⟩:=U4.mp h;exact a1
 have hr:K54.Rt (0,1):=K54.rt0;have h1:m_look_at_adds [aP w,.lst (lK w)]=.ok .non:=K51.adds_ok W hal λa h=>lj (ha a h);have h2:m_look_at_purse [fr (1,1)]=.ok .non:=xU a1.lo a1.p0;have h4:m_look_at_length [fr (0,1)]=.ok .non:=K54.rate_ok hr;obtain⟨d,s,hd,hsum,sl,sb,sv⟩:=K54.lens_some W hw X;have hd:=hd [.sh (aP w),.sh (.lst (lK w)),.sh (fr (1,1)),.sh (cH M),.sh (fr (0,1)),.no] rfl;have hsum:m_sum_of [d]=.ok (fr s):=hsum;have hti:m_times [fr (0,1),fr (1,1)]=.ok (fr (mt (0,1) (1,1))):=dr hr.b (K54.amt_bd a1) (by decide);have tb:Bd (mt (0,1) (1,1)) 110:=i5 hr.b (K54.amt_bd a1);have hp1:m_plus [fr s,fr (mt (0,1) (1,1))]=.ok (fr (pl s (mt (0,1) (1,1)))):=fk sb tb (by decide);have pb:Bd (pl s (mt (0,1) (1,1))) 3242:=kN sb tb;obtain⟨c,hc,cb⟩:=Dy W hw X;have hp2:m_plus [fr (pl s (mt (0,1) (1,1))),fr c]=.ok (fr (pl (pl s (mt (0,1) (1,1))) c)):=fk pb cb (by decide);have hsL:ju (cH M)=.ok (M.map (iX (bp M))):=rfl;have hd:ff 2 [0] (el [0,1]) mYes (ao (ae (af 1) (ae (ao (ae (af 2) (ae (af 0) az)) m_length_of) az)) m_times) [.sh (aP w),.sh (.lst (lK w)),.sh (fr (1,1)),.sh (cH M),.sh (fr (0,1)),.no] (M.map (iX (bp M)))=.ok d:=hd;refine⟨pl (pl s (mt (0,1) (1,1))) c,?_⟩;rw[show D.tup [.int 1,.int 1]=fr (1,1) from rfl,show D.tup [.int 0,.int 1]=fr (0,1) from rfl];open_line with[dR,iS,h1,h2,hm,h4,hsL,hd,hsum,hti,hp1,hc,hp2]
end
open K51 (bw w1 Bd)
open K11 (nums)
open K54 (sh q iX cH cR bp Mx)
section
variable {w:iT}(W:cc w)
include W
theorem uD(B:Ev):ff 1 [] (bU 0) mYes (ao (ae (dC (.int 1)) (ae (dC (.int 1)) az)) cT) B (w.ts.map cz)=.ok (.lst (lK w)):=by
 have t14:=W.t14;rw[bw cz (λ_=>some (fr (1,1))) (by omega) λt ht=>⟨[.sh (cz t)],rfl,.inr ⟨_,rfl,rfl,rfl⟩⟩,VF];unfold lK;rw[VQ];rfl
theorem GC(h:bq [aP w,d]=.exn (fH v))(k:Int):cM [.int k,aP w,d]=.exn (fH v):=by
 cases h0:(k==0) with
 |true=>open_line with[cM,et,h0,h,Com.ev_exn]
 |false=>
  cases h1:(k==1) with
  |true=>
   have h2:ip [aP w,d]=.exn (fH v):=by open_line with[ip,ou,h,Com.ev_exn]
   open_line with[cM,et,h0,h1,h2,Com.ev_exn]
  |false=>
   have ho:=uD W;have t14:=W.t14;have hal:(w.ts.map λ_=>((1,1):g7)).length=w.ts.length:=by rw[Us]
   have e1:K51.El (1,1):=⟨⟨by decide,by decide⟩,by decide,by decide,by decide⟩
   have ha:=K51.adds_ok W hal λa h=>by
    obtain⟨t,_,rfl⟩:=U4.mp h;exact e1
   have ha:m_look_at_adds [aP w,.lst (lK w)]=.ok .non:=ha;have hp:m_look_at_purse [.tup [.int 1,.int 1]]=.ok .non:=xU (x:=(1,1)) e1.lo e1.p0;have h2:dR [aP w,.lst (lK w),.tup [.int 1,.int 1],d,.tup [.int 0,.int 1]]=.exn (fH v):=by
    open_line with[dR,iS,ha,hp,h,Com.ev_exn]
   have hsL:ju (.lst (w.ts.map cz))=.ok (w.ts.map cz):=rfl;open_line with[cM,et,h0,h1,w1,hsL,ho,h2,Com.ev_exn]
theorem Hu(hv:v=.non∨∃j:Int,v=.int j)(h:bq [aP w,d]=.exn (fH v))(k:Int):cW [.int k,aP w,d]=.ok (.tup [.str "at",v]):=by
 have t1:Eh "NoMix"=some false:=rfl;have t2:Ef "NoMix"=some true:=rfl;have t3:Ed "NoMix"=some true:=rfl;have hF:i8 iH "NoMix"=true:=rfl;have ht:∀(d:D) (ni:Nat) (sh:bd) (ρ:Ev),Ht (i8 iH) ni sh ρ (.exn (fH d))=(sh (ρ.set ni (.sh (.ob (.exf "NoMix" ["at"]) [d])))).bind (E3 ni):=λd _ _ _=>by
  rw[IM (x:=fH d) hF,show wu (fH d)=.ob (.exf "NoMix" ["at"]) [d] from Qo]
 have hfa:∀d,oZ BQ "at" (.ob (.exf "NoMix" ["at"]) [d])=.ok d:=λd=>FX (b:=true) rfl;have hN:∀d,nk (.ob (.exf "NoMix" ["at"]) [d]) .non=.ok (.bl false):=λ_=>rfl;have ha:=GC W h k;rcases hv with rfl|⟨j,rfl⟩
 .open_line with[cW,jc,Am,wx,rG,ha,Com.ev_exn,ht,FR,lD t1,lD t2,lD t3,hfa,hN]
 .open_line with[cW,jc,Am,wx,rG,ha,Com.ev_exn,ht,FR,lD t1,lD t2,lD t3,hfa,hN]
theorem D9(hw:∀t∈w.ts,iU t)(X:Mx w M)(h:bq [aP w,cH M]=.ok .non)(k:Int):cW [.int k,aP w,cH M]=.ok .non:=by
 have ha:cM [.int k,aP w,cH M]=.ok .non:=by
  cases h0:(k==0) with
  |true=>open_line with[cM,et,h0,h]
  |false=>
   cases h1:(k==1) with
   |true=>
    have h2:=Iv W X h;open_line with[cM,et,h0,h1,h2]
   |false=>
    have ho:=uD W;obtain⟨c,h2⟩:=Gr W hw X h;have hsL:ju (.lst (w.ts.map cz))=.ok (w.ts.map cz):=rfl;open_line with[cM,et,h0,h1,w1,hsL,ho,h2]
 open_line with[cW,jc,Am,wx,rG,ha,IP]
omit W in
theorem Qm{d v x2 x3:D}{x4:Sl}(h:∀k:Int,cW [.int k,aP w,d]=.ok v):ff 1 [0,1] (bU 0) mYes (ao (ae (af 0) (ae (af 1) (ae (af 2) az))) cW) [.sh (aP w),.sh d,.sh x2,.sh x3,x4] [.int 0,.int 1,.int 2,.int 0]=.ok (.lst [v,v,v,v]):=by
 have:=bw (n:=1) (fr':=[0,1]) (ρ:=[.sh (aP w),.sh d,.sh x2,.sh x3,x4]) (tg:=bU 0) (tt:=mYes) (fe:=ao (ae (af 0) (ae (af 1) (ae (af 2) az))) cW) (λi:Int=>D.int i) (λ_=>some v) (L:=[0,1,2,0]) (by decide) λi _=>⟨[.sh (.int i),.sh (aP w),.sh d],rfl,.inr ⟨_,rfl,rfl,by have:=h i;open_line with[this]⟩⟩
 exact this
omit W in
theorem Uc{v:D}(hv:v=.non∨∃j:Int,v=.int j):gO (.lst [.tup [.str "at",v],.tup [.str "at",v],.tup [.str "at",v],.tup [.str "at",v]]) (.lst [.tup [.str "at",v],.tup [.str "at",v],.tup [.str "at",v],.tup [.str "at",v]])=.ok (.bl true):=by
 rcases hv with rfl|⟨j,rfl⟩
 .rfl
 .unfold gO
  rw[if_pos ⟨rfl,rfl⟩];simp[c8,eqDs]
def GG(w:iT)(T:Nat)(d:D):Prop:=(∃th,d=.lst th/\th.length<=10/\∀e∈th,uf w T e)∨b9 "list" d=.ok (.bl false)
theorem qz(hw:∀t∈w.ts,iU t)(hT:0<T)(hT2:T<=9000000)(hd:GG w T d)(hr:Rp d n 6)(hn:n<=60000):cu [aP w,d]=.ok (.bl true):=by
 obtain⟨z,hz⟩:∃z,r8 (.lst [aP w,d])=.ok (.str z):=by
  have h1:=(LG W).up (n':=20000) (k':=6) (UC _) (by decide);exact Rp.repr (Rp.lst (e9.cons h1 (e9.cons hr e9.nil))) (by
   have:100000<=sizeLine:=by decide
   simp;omega) (by decide)
 have ez:gO (.str z) (.str z)=.ok (.bl true):=by rw[K11.eq_str];simp
 have key:(∃v,(v=.non∨∃j:Int,v=.int j)/\bq [aP w,d]=.exn (fH v)/\bO [aP w,d]=.ok (.tup [.str "at",v])) ∨
  (∃M,Mx w M/\d=cH M/\bq [aP w,d]=.ok .non/\bO [aP w,d]=.ok .non):=by
  rcases hd with⟨th,rfl,hl,hI⟩|h
  .exact Fm W hT hT2 hl hI
  .obtain⟨h1,h2⟩:=CU W h
   exact .inl ⟨.non,.inl rfl,h1,h2⟩
 rcases key with⟨v,hv,e1,e2⟩|⟨M,X,rfl,e1,e2⟩
 .have t:=λx2 x3 x4=>Qm (x2:=x2) (x3:=x3) (x4:=x4) (λk=>Hu W hv e1 k)
  have en:=Uc hv;have hsL:∀ds:ac,ju (.lst ds)=.ok ds:=λ_=>rfl;open_line with[cu,kj,e2,hz,hsL,t,en,ez]
 .have t:=λx2 x3 x4=>Qm (x2:=x2) (x3:=x3) (x4:=x4) (λk=>D9 W hw X e1 k)
  have en:gO (.lst [.non,.non,.non,.non]) (.lst [.non,.non,.non,.non])=.ok (.bl true):=rfl;have hsL:∀ds:ac,ju (.lst ds)=.ok ds:=λ_=>rfl;open_line with[cu,kj,e2,hz,hsL,t,en,ez]
end
end K53
namespace Nwb
open PySem L2 DL Com Bor
def Uo:Q9 (.tup []) (.tup es)=.ok (.tup es):=rfl
def cut_dr{k:Nat}(h:k<=xs.length):iZ xs (some (k:Int)) none=xs.drop k:=by
 unfold iZ;rw[HT.sIx_nat,HT.sIx_none,Nat.min_eq_left h];exact W7 (by simp)
end Nwb
namespace K53
open PySem L2 DL Com Bor Pth
open K51 (bw w1 Bd eN vH)
open K11 (nums Elt)
open K15 (gX)
open K54 (sh q iX cH cR bp Mx gA fQ fw)
theorem yn:∀{ks:List Int}{ps:List Vc}{n k:Nat},ks.length=ps.length->(∀i∈ks,i.natAbs<2 ^ 200)->Xw ps=true->Xo ps<=k->((V8 ps).map (λx=>x.length)).sum<=n ->
  PyData.showableKv ((ks.map Xx).zip ps)=true/\X2 ((ks.map Xx).zip ps)<=k/\(Wi ((ks.map Xx).zip ps)).length=ps.length/\((Wi ((ks.map Xx).zip ps)).map (λx=>x.length)).sum<=n+203*ps.length
 |[],[],n,k,_,_,_,_,_=>by
  refine⟨rfl,?_,?_,?_⟩
  .show X2 []<=k
   rw[X2];omega
  .show(Wi []).length=0
   rw[Wi];rfl
  .show((Wi []).map _).sum<=_
   rw[Wi];simp
 |i::ks,p::ps,n,k,hl,hi,hs,hd,hn=>by
  rw[Xw,U7]at hs;rw[Xo]at hd;rw[V8,UG,Vs]at hn;obtain⟨h1,h2,h3,h4⟩:=yn (ks:=ks) (ps:=ps) (n:=n-p.shown.length) (k:=k) (by simpa using hl) (λj hj=>hi j (UH _ hj)) hs.2 (by omega) (by omega);obtain⟨_,e1,e2,e3,e4⟩:=Rp.int (hi i UU);rw[gj]at e1;cases e1;rw[UG,VJ];refine⟨?_,?_,?_,?_⟩
  .rw[PyData.showableKv,e2,hs.1,h1];rfl
  .rw[X2]
   omega
  .rw[Wi,UZ,h3,UZ]
  .rw[Wi,UG,Vs,strLen_append,strLen_append,UZ]
   have:(": " : UP).length=2:=by rw[WI];rfl
   omega
def HJ(hl:ks.length=ds.length)(hi:∀i∈ks,i.natAbs<2 ^ 200)(h:e9 ds n k):Rp (.ob (.dint ks) ds) (n+205*ds.length+3) (k+1):=by
 obtain⟨ps,t1,t2,t3,t4,t5⟩:=h;obtain⟨h1,h2,h3,h4⟩:=yn (ks:=ks) (ps:=ps) (by omega) hi t3 t4 t5;refine⟨.dict ((ks.map Xx).zip ps),by rw[gj,t1];rfl,by rw[Wk];exact h1,by rw[WS];omega,?_⟩;rw[WR];have:=dictText_len_le (Wi ((ks.map Xx).zip ps));omega
def wa(h0:0<=v)(h1:v<(ds.length:Int)):∃d∈ds,aO (.lst ds) (.int v)=.ok d:=by
 obtain⟨n,rfl⟩:=Vf h0;have hn:n<ds.length:=by omega
 exact⟨ds[n],VY hn,jh (Ut hn)⟩
def Io(hT:0<T)(hT2:T<=9000000)(hm:0<m)(hm2:m<=9000000):bg [.int ((sh T m).1+1),.int (sh T m).2]=.ok (fr (sh T (m+Xg m T))):=by
 have b:Bd (sh T m) 28:=Dv hT hT2 (by omega);have c13:Bd ((sh T m).1+1,(sh T m).2) 29:=⟨b.q0,by have:=b.a;show((sh T m).1+1).natAbs<_;omega,by have:=b.b;show(sh T m).2.natAbs<_;omega⟩
 have hc:=c13.c13 (by decide);have h:bg [.int ((sh T m).1+1),.int (sh T m).2]=.ok (fr (lT ((sh T m).1+1) (sh T m).2)):=Cod.low_ok b.q0 hc.1 hc.2;rw[h]
 congr 2
 refine gA (j8 b.q0) (fQ hT) ?_;rw[pQ b.q0,fw hT];have hg:0<Xg m T:=Nat.gcd_pos_of_pos_left _ hm;have e1:(sh T m).1*((Xg m T:Nat):Int)=(m:Int):=by
  show(m:Int) / ((Vm (m:Int) (T:Int):Nat):Int)*_=_;exact ZS (Zc.mpr (Nat.gcd_dvd_left m T))
 have e2:(sh T m).2*((Xg m T:Nat):Int)=(T:Int):=by
  show(T:Int) / ((Vm (m:Int) (T:Int):Nat):Int)*_=_;exact ZS (Zc.mpr (Nat.gcd_dvd_right m T))
 have p1:=eL b.q0;have p2:=eL (a:=((Xg m T:Nat):Int)) (by omega);unfold q;rw[Int.natCast_add,←e1,←e2];generalize ((Xg m T:Nat):Int)=g at p2;simp only[YB,V7]
 grind
def LI(h:d∈vX):Rp d 500 1:=by
 have two:∀a b:D,Rp a 201 0->Rp b 201 0->Rp (.tup [a,b]) 500 1:=λa b ha hb=>(Rp.tup (e9.cons ha (e9.cons hb e9.nil))).up (by simp) (by decide);have ii:∀i:Int,i.natAbs<2 ^ 200->Rp (.int i) 201 0:=λi h=>Rp.int h;have bb:∀b:Bool,Rp (.bl b) 201 0:=λb=>Rp.bl.up (by decide) (by decide);simp only[vX,UI,Vq,or_false]at h;rcases h with rfl|rfl|rfl|rfl|rfl|rfl|rfl|rfl|rfl|rfl|rfl|rfl
 .exact Rp.non.up (by decide) (by decide)
 .exact Rp.bl.up (by decide) (by decide)
 .exact(ii 1 (by decide)).up (by decide) (by decide)
 .exact(Rp.str (n:=8) (by decide) (by decide)).up (by decide) (by decide)
 .exact two _ _ (ii 2 (by decide)) (ii 2 (by decide))
 .exact two _ _ (ii 2 (by decide)) (ii 4 (by decide))
 .exact two _ _ (ii 0 (by decide)) (ii 1 (by decide))
 .exact two _ _ (ii (-1) (by decide)) (ii 2 (by decide))
 .exact two _ _ (bb true) (ii 1 (by decide))
 .exact two _ _ (ii 1 (by decide)) (bb true)
 .exact two _ _ (ii 1 (by decide)) (ii 0 (by decide))
 .exact(Rp.lst (e9.cons (ii 1 (by decide)) (e9.cons (ii 1 (by decide)) e9.nil))).up (by simp) (by decide)
def E6(h:d∈vX):bC 39 d=true:=by
 simp only[vX,UI,Vq,or_false]at h;rcases h with rfl|rfl|rfl|rfl|rfl|rfl|rfl|rfl|rfl|rfl|rfl|rfl<;>rfl
def LF(h:∀n∈y,n<20)(hl:y.length<=8):Rp (cR y) 1700 1/\Rp (.tup (nums y)) 1700 1:=by
 have r:e9 (nums y) (201*(nums y).length) 0:=e9.all λd hd=>by
  obtain⟨n,hn,rfl⟩:=U4.mp hd;exact Rp.int (UA (show((n:Int)).natAbs<20 by have:=h n hn;omega) (by decide))
 rw[K15.nums_len]at r;have hl2:(nums y).length=y.length:=K15.nums_len;exact⟨(Rp.lst r).up (by rw[hl2];omega) (by decide),(Rp.tup r).up (by rw[hl2];omega) (by decide)⟩
def E7(a:Uy)(W:cc w)(hT:0<T)(hT2:T<=9000000)(hE:gX w [] ⟨[],[],w.fi⟩ p.1)(hm:1<=p.2)(hm2:p.2<=9000000)(S:St st):∃e st',fB a st [iX T p]=.ok (e,st')/\uf w T e/\Rp e 4000 3/\St st':=by
 obtain⟨y,m⟩:=p;have hE:gX w [] ⟨[],[],w.fi⟩ y:=hE;have hm:1<=m:=hm;have hm2:m<=9000000:=hm2;have hl6:=lC W hE (Du W);have hne:=K54.way_ne W hE;have hpos:0<y.length:=X6.mpr hne;have hnN:=(K54.way_nd hE).2;have t14:=W.t14;have hlo:=Io hT hT2 (m:=m) (by omega) hm2;obtain⟨v,s1,t1,v0,v1,S1⟩:=bM a (n:=12) (by decide) (by decide) S;obtain⟨d5,h5,e5⟩:=wa (ds:=vX) v0 (by rw[show vX.length=12 from rfl];exact v1);have hlY:cB (cR y)=.ok (.int (y.length:Int)):=by unfold cR;rw[eH,K15.nums_len]
 obtain⟨j,s2,t2,j0,j1,S2⟩:=bM a (n:=(y.length:Int)) (by omega) (by omega) S1;obtain⟨j,rfl⟩:=Vf j0;have j1:j<y.length:=by have:(j:Int)<(y.length:Int):=j1;omega
 have t2:aF a s1 [.int (y.length:Int)]=.ok (.int (j:Int),s2):=t2;obtain⟨x,s3,t3,x0,x1,S3⟩:=bM a (n:=15) (by decide) (by decide) S2;obtain⟨x,rfl⟩:=Vf x0;have x1:x<15:=by have:(x:Int)<15:=x1;omega
 have t3:aF a s2 [.int 15]=.ok (.int (x:Int),s3):=t3;have hly:(nums y).length=y.length:=K15.nums_len;have c1:iZ (nums y) none (some (j:Int))=nums (y.take j):=by
  rw[Nwb.cut_id (by rw[hly];omega)];unfold K11.nums;rw[List.map_take]
 have c2:iZ (nums y) (some ((j:Int)+1)) none=nums (y.drop (j+1)):=by
  rw[show((j:Int)+1)=((j+1:Nat):Int) by omega,Nwb.cut_dr (by rw[hly];omega)];unfold K11.nums;rw[YW]
 have c3:iZ (nums y) (some (j:Int)) none=nums (y.drop j):=by
  rw[Nwb.cut_dr (by rw[hly];omega)];unfold K11.nums;rw[YW]
 have z1:D.lst (nums (y.take j)++nums (y.drop (j+1)))=cR (y.take j++y.drop (j+1)):=by unfold cR K11.nums;rw[U9]
 have z2:D.lst (nums (y.take j)++[.int (x:Int)]++nums (y.drop j))=cR (y.take j++[x]++y.drop j):=by unfold cR K11.nums;rw[U9,U9];rfl
 obtain⟨u,s4,t4,u0,u1,S4⟩:=bM a (n:=4) (by decide) (by decide) S3;obtain⟨d7,h7,e7⟩:=wa (ds:=[cR (y.take j++y.drop (j+1)),cR (y.take j++[x]++y.drop j),.tup (nums y),.non]) u0 u1;obtain⟨r,s5,t5,r0,r1,S5⟩:=bM a (n:=7) (by decide) (by decide) S4;obtain⟨e,h8,e8⟩:=wa (ds:=[.tup [d7,fr (sh T m)],.tup [cR y,d5],.tup [cR y,fr (sh T (m+Xg m T))],.tup [cR y,fr (sh T m),fr (sh T m)],.tup [cR y],.lst [cR y,fr (sh T m)],.non]) r0 r1;have k0:aO (fr (sh T m)) (.int 0)=.ok (.int (sh T m).1):=rfl;have k1:aO (fr (sh T m)) (.int 1)=.ok (.int (sh T m).2):=rfl;have hadd:bX (.int (sh T m).1) (.int 1)=.ok (.int ((sh T m).1+1)):=rfl;have hadd2:bX (.int (j:Int)) (.int 1)=.ok (.int ((j:Int)+1)):=rfl;have htu:rZ (cR y)=.ok (.tup (nums y)):=rfl;have lq:∀z:bv,(nums z).length=z.length:=λz=>K15.nums_len;have A1:bX (.lst (nums (y.take j))) (.lst (nums (y.drop (j+1))))=.ok (cR (y.take j++y.drop (j+1))):=by
  rw[kd (decide_eq_true (by rw[lq,lq];simp;omega)),z1]
 have A2:bX (.lst (nums (y.take j))) (.lst [.int (x:Int)])=.ok (.lst (nums (y.take j)++[.int (x:Int)])):=by
  rw[kd (decide_eq_true (by rw[lq];simp;omega))]
 have A3:bX (.lst (nums (y.take j)++[.int (x:Int)])) (.lst (nums (y.drop j)))=.ok (cR (y.take j++[x]++y.drop j)):=by
  rw[kd (decide_eq_true (by rw[U0,lq,lq];simp;omega)),z2]
 refine⟨e,s5,?_,?_,?_,S5⟩
 .have hu:OJ [2,3] [.pt a,.sh (iX T (y,m)),.no,.no,.no,.no,.no,.no,.no] (iX T (y,m))=.ok (.nx [.pt a,.sh (iX T (y,m)),.sh (cR y),.sh (fr (sh T m)),.no,.no,.no,.no,.no]):=rfl
  have hsl:∀(l l':Option Int),Eo (cR y) l l'=.ok (.lst (iZ (nums y) l l')):=λ_ _=>rfl;unfold vX at e5;open_line with[fB,sY,hu,k0,k1,hadd,hlo,t1,e5,hlY,t2,hsl,c1,c2,c3,hadd2,t3,A1,A2,A3,htu,t4,e7,t5,e8]
 .have hmm:Xg m T<=m:=Nat.gcd_le_left _ (by omega)
  have wc:∀z:bv,z.length<=20->uf w T (.tup [cR z,fr (sh T m)]):=λz hz=>by
   rcases Ct W z hz with h|h
   .exact .inl ⟨(z,m),⟨h,hm,by show m<=20000000;omega⟩,rfl⟩
   .exact .inr (.way h)
  simp only[UI,Vq,or_false]at h8;rcases h8 with rfl|rfl|rfl|rfl|rfl|rfl|rfl
  .simp only[UI,Vq,or_false]at h7
   rcases h7 with rfl|rfl|rfl|rfl
   .exact wc _ (by simp;omega)
   .exact wc _ (by simp;omega)
   .exact .inr (.way (uB (.inl rfl) (λ_ c=>by cases c)))
   .exact .inr (.way (uB (.inl rfl) (λ_ c=>by cases c)))
  .exact .inr (.shr hE (Ig h5) (E6 h5))
  .exact .inl ⟨(y,m+Xg m T),⟨hE,by show 1<=m+Xg m T;omega,by show m+Xg m T<=20000000;omega⟩,rfl⟩
  .exact .inr (.len (by simp))
  .exact .inr (.len (by simp))
  .exact .inr .lst
  .exact .inr .non
 .have ry:∀z:bv,(∀n∈z,n<20)->z.length<=8->Rp (cR z) 1700 2:=λz h1 h2=>(LF h1 h2).1.up (by decide) (by decide)
  have hy20:∀n∈y,n<20:=λn hn=>by have:=hnN n hn;omega
  have r1:=ry y hy20 (by omega);have rs:∀k,k<=250000000->Rp (fr (sh T k)) 500 2:=λk hk=>(vH (Dv hT hT2 hk) (by decide) (by decide)).up (by decide) (by decide);have rm:=rs m (by omega);have hmm:Xg m T<=m:=Nat.gcd_le_left _ (by omega);have r7:Rp d7 1700 2:=by
   simp only[UI,Vq,or_false]at h7;rcases h7 with rfl|rfl|rfl|rfl
   .refine ry _ (λn hn=>?_) (by simp;omega)
    rcases U6.mp hn with h|h
    .exact hy20 n (Wc h)
    .exact hy20 n (WO h)
   .refine ry _ (λn hn=>?_) (by simp;omega)
    rcases U6.mp hn with h|h
    .rcases U6.mp h with h|h
     .exact hy20 n (Wc h)
     .have:=UL.mp h
      omega
    .exact hy20 n (WO h)
   .exact(LF hy20 (by omega)).2.up (by decide) (by decide)
   .exact Rp.non.up (by decide) (by decide)
  simp only[UI,Vq,or_false]at h8;rcases h8 with rfl|rfl|rfl|rfl|rfl|rfl|rfl
  .exact(Rp.tup (e9.cons r7 (e9.cons rm e9.nil))).up (by simp) (by decide)
  .exact(Rp.tup (e9.cons r1 (e9.cons ((LI h5).up (n':=500) (k':=2) (UC _) (by decide)) e9.nil))).up (by simp) (by decide)
  .exact(Rp.tup (e9.cons r1 (e9.cons (rs _ (by omega)) e9.nil))).up (by simp) (by decide)
  .exact(Rp.tup (e9.cons r1 (e9.cons rm (e9.cons rm e9.nil)))).up (by simp) (by decide)
  .exact(Rp.tup (e9.cons r1 e9.nil)).up (by simp) (by decide)
  .exact(Rp.lst (e9.cons r1 (e9.cons rm e9.nil))).up (by simp) (by decide)
  .exact Rp.non.up (by decide) (by decide)
open K51 (bw w1 Bd vH)
open K11 (nums Elt)
open K15 (gX)
open K54 (sh q iX cH jg cR bp Mx F7 B4)
theorem rl(f:Nat->D):∀l:bv,ka (l.map λk:Nat=>D.tup [.int (k:Int),f k])=some (l.map (λk:Nat=>(k:Int)),l.map f)
 |[]=>rfl
 |k::l=>by
  rw[UG,ka,rl f l];rfl
def ND:B7 (.lst ((Vv n).map λk:Nat=>D.tup [.int (k:Int),f k]))=.ok (.ob (.dint ((Vv n).map λk:Nat=>(k:Int))) ((Vv n).map f)):=by
 show(match ka ((Vv n).map λk:Nat=>D.tup [.int (k:Int),f k]) with|some q=>if q.1.Nodup then ar.ok (D.ob (.dint q.1) q.2) else .stuck|none=>.stuck)=_;rw[rl];simp only;rw[if_pos];refine XF.mpr (Yr (λh c=>h ?_) List.nodup_range);omega
section
variable (a:Uy) {w:iT}(W:cc w) {M:List (bv×Nat)}(X:Mx w M) (h9:M.length<=9)
include W X h9
omit h9 in
theorem we{p:bv×Nat}(hp:p∈M):uf w (bp M) (iX (bp M) p)/\Rp (iX (bp M) p) 4000 3:=by
 obtain⟨hE,_⟩:=X.ext p hp;obtain⟨t0,t9⟩:=X.tot;have hl6:=lC W hE (Du W);have t14:=W.t14;refine⟨.inl ⟨p,⟨hE,X.many p hp,by have:=X.le hp;omega⟩,rfl⟩,?_⟩;have r1:=(LF (y:=p.1) (λn hn=>by have:=(K54.way_nd hE).2 n hn;omega) (by omega)).1.up (n':=1700) (k':=2) (UC _) (by decide);have r2:=(vH (Dv (m:=p.2) t0 t9 (by have:=X.le hp;omega)) (by decide) (by decide)).up (n':=500) (k':=2) (by decide) (by decide);exact(Rp.tup (e9.cons r1 (e9.cons r2 e9.nil))).up (by simp) (by decide)
theorem Kj(S:St st):∃d st',cZ a st [cH M]=.ok (d,st')/\GG w (bp M) d/\Rp d 60000 6/\St st':=by
 obtain⟨t0,t9⟩:=X.tot;have mpos:0<M.length:=X6.mpr X.ne;have hlM:cB (cH M)=.ok (.int (M.length:Int)):=by unfold cH;rw[eH,Us]
 obtain⟨k,s1,t1,k0,k1,S1⟩:=bM a (n:=6) (by decide) (by decide) S;obtain⟨i,s2,t2,i0,i1,S2⟩:=bM a (n:=(M.length:Int)) (by omega) (by omega) S1;obtain⟨i,rfl⟩:=Vf i0;have i1:i<M.length:=by have:(i:Int)<(M.length:Int):=i1;omega
 have t2:aF a s1 [.int (M.length:Int)]=.ok (.int (i:Int),s2):=t2;obtain⟨j,s3,t3,j0,j1,S3⟩:=bM a (n:=(M.length:Int)+1) (by omega) (by omega) S2;obtain⟨j,rfl⟩:=Vf j0;have j1:j<=M.length:=by have:(j:Int)<(M.length:Int)+1:=j1;omega
 have t3:aF a s2 [.int ((M.length:Int)+1)]=.ok (.int (j:Int),s3):=t3;have ha1:bX (.int (M.length:Int)) (.int 1)=.ok (.int ((M.length:Int)+1)):=rfl;have ha2:bX (.int (i:Int)) (.int 1)=.ok (.int ((i:Int)+1)):=rfl;have lL:(jg M).length=M.length:=Us _;have hsl:∀(l l':Option Int),Eo (cH M) l l'=.ok (.lst (iZ (jg M) l l')):=λ_ _=>rfl;have c1:iZ (jg M) none (some (i:Int))=(jg M).take i:=Nwb.cut_id (by omega);have c2:iZ (jg M) (some ((i:Int)+1)) none=(jg M).drop (i+1):=by
  rw[show((i:Int)+1)=((i+1:Nat):Int) by omega];exact Nwb.cut_dr (by omega)
 have c3:iZ (jg M) none (some (j:Int))=(jg M).take j:=Nwb.cut_id (by omega);have c4:iZ (jg M) (some (j:Int)) none=(jg M).drop j:=Nwb.cut_dr (by omega);have hmi:M[i]?=some M[i]:=Ut i1;have pM:M[i]∈M:=VY i1;generalize M[i]=p at hmi pM;have hix:aO (cH M) (.int (i:Int))=.ok (iX (bp M) p):=jh (by rw[UK,hmi];rfl);have gI:∀e∈jg M,uf w (bp M) e/\Rp e 4000 3:=λe he=>by
  obtain⟨p,hp,rfl⟩:=U4.mp he;exact we W X hp
 have hL:∀th:ac,th.length<=10->(∀e∈th,uf w (bp M) e/\Rp e 4000 3)->GG w (bp M) (.lst th)/\Rp (.lst th) 60000 6:=λth h1 h2=>
  ⟨.inl ⟨th,rfl,h1,λe he=>(h2 e he).1⟩,(Rp.lst (e9.all λe he=>(h2 e he).2)).up (by omega) (by decide)⟩
 have addL:∀x y:ac,x.length+y.length<=1000->bX (.lst x) (.lst y)=.ok (.lst (x++y)):=λx y h=>kd (decide_eq_true h);have kc:k=0∨k=1∨k=2∨k=3∨k=4∨k=5:=by omega
 rcases kc with rfl|rfl|rfl|rfl|rfl|rfl
 .have hr:Cod.srcR1K (.int (M.length:Int))=.ok (DL.intsFrom 0 M.length):=Cod.srcR1_nat (by omega)
  have hc:∀B:Ev,B[1]?=some (.sh (cH M))->ff 1 [1] (bU 0) mYes (ao (ae (af 0) (ae (ag (af 1) (af 0) aO) az)) cT) B (DL.intsFrom 0 M.length)=.ok (.lst ((Vv M.length).map λk:Nat=>D.tup [.int (k:Int),(jg M).getD k .non])):=λB hB=>by
   have hb:de 1 [1] B=[.no,.sh (cH M)]:=by unfold de;simp[hB]
   rw[K54.ints_rng,bw (λk:Nat=>D.int (k:Int)) (λk:Nat=>some (D.tup [.int (k:Int),(jg M).getD k .non])) (by rw[List.length_range];omega),VF];intro k hk;rw[hb];have hk:=W9.mp hk;refine⟨[.sh (.int (k:Int)),.sh (cH M)],rfl,.inr ⟨_,rfl,rfl,?_⟩⟩;have hx:aO (cH M) (.int (k:Int))=.ok ((jg M).getD k .non):=jh (by
    rw[YJ,Ut (by rw[Us];omega)];rfl)
   open_line with[hx]
  obtain⟨u,s4,t4,u0,u1,S4⟩:=bM a (n:=4) (by decide) (by decide) S3;obtain⟨d,h4,e4⟩:=wa (ds:=[.tup (jg M),.non,.int 5,.ob (.dint ((Vv M.length).map λk:Nat=>(k:Int))) ((Vv M.length).map λk=>(jg M).getD k .non)]) u0 u1;have htu:rZ (cH M)=.ok (.tup (jg M)):=rfl;have hc':=hc [.pt a,.sh (cH M),.sh (.int 0),.sh (.int (i:Int)),.sh (.int (j:Int)),.no] rfl;have hgd:∀e∈(Vv M.length).map λk=>(jg M).getD k .non,e∈jg M:=λe he=>by
   obtain⟨k,hk,rfl⟩:=U4.mp he;have hk:=W9.mp hk;rw[YJ,Ut (by rw[Us];omega)];exact VY _
  refine⟨d,s4,?_,?_,?_,S4⟩
  .open_line with[cZ,eQ,t1,hlM,t2,ha1,t3,Cod.ev_srcR1,hr,hc',ND,htu,t4,e4]
  .simp only[UI,Vq,or_false]at h4
   rcases h4 with rfl|rfl|rfl|rfl<;>exact .inr rfl
  .simp only[UI,Vq,or_false]at h4
   rcases h4 with rfl|rfl|rfl|rfl
   .exact(Rp.tup (e9.all λe he=>(gI e he).2)).up (by omega) (by decide)
   .exact Rp.non.up (by decide) (by decide)
   .exact(Rp.int (i:=5) (by decide)).up (by decide) (by decide)
   .refine(HJ (by simp) (λz hz=>?_) (e9.all (a:=4000) (k:=3) λe he=>(gI e (hgd e he)).2)).up (by simp;omega) (by decide)
    obtain⟨k,hk,rfl⟩:=U4.mp hz;have hk:=W9.mp hk;exact UA (show((k:Int)).natAbs<20 by omega) (by decide)
 .have A1:=addL ((jg M).take i) ((jg M).drop (i+1)) (by simp;omega)
  obtain⟨T1,R1⟩:=hL ((jg M).take i++(jg M).drop (i+1)) (by simp;omega) λe he=>by
   rcases U6.mp he with h|h
   .exact gI e (Wc h)
   .exact gI e (WO h)
  refine⟨_,s3,?_,T1,R1,S3⟩;open_line with[cZ,eQ,t1,hlM,t2,ha1,t3,hsl,c1,c2,ha2,A1]
 .have A1:=addL ((jg M).take j) [iX (bp M) p] (by simp;omega)
  have A2:=addL ((jg M).take j++[iX (bp M) p]) ((jg M).drop j) (by simp;omega);obtain⟨T1,R1⟩:=hL ((jg M).take j++[iX (bp M) p]++(jg M).drop j) (by simp;omega) λe he=>by
   rcases U6.mp he with h|h
   .rcases U6.mp h with h|h
    .exact gI e (Wc h)
    .rw[UL.mp h];exact we W X pM
   .exact gI e (WO h)
  refine⟨_,s3,?_,T1,R1,S3⟩;open_line with[cZ,eQ,t1,hlM,t2,ha1,t3,hsl,c3,c4,hix,A1,A2]
 .have hrv:NL (cH M)=.ok (.lst (jg M).reverse):=rfl
  obtain⟨T1,R1⟩:=hL (jg M).reverse (by simp;omega) λe he=>gI e (List.mem_reverse.mp he);refine⟨_,s3,?_,T1,R1,S3⟩;open_line with[cZ,eQ,t1,hlM,t2,ha1,t3,hrv]
 .obtain⟨es,s4,h1,h2,h3,S4⟩:=oi (b:=[.no,.pt a]) (tg:=bU 0) (fm:=bL 1 a (aV (mP (af 0)) cm) fB) St (λe=>uf w (bp M) e/\Rp e 4000 3) (jg M) s3 S3 (by
   intro d st hd S;obtain⟨p,hp,rfl⟩:=U4.mp hd;obtain⟨e,st',e1,e2,e3,S'⟩:=E7 a W t0 t9 (X.ext p hp).1 (X.many p hp) (X.le hp) S;refine⟨_,e,st',rfl,?_,⟨e2,e3⟩,S'⟩;open_line with[e1])
  obtain⟨T1,R1⟩:=hL es (by omega) h3;have hcm:ml [.no,.pt a] (bU 0) (bL 1 a (aV (mP (af 0)) cm) fB) (jg M,s3)=.ok (.lst es,s4):=by
   unfold ml;have:1000<line:=by decide
   rw[if_pos (show(jg M).length<=line by omega),h1];rfl
  have hsL:ju (cH M)=.ok (jg M):=rfl;refine⟨.lst es,s4,?_,T1,R1,S4⟩;have hbm:∀B:Ev,B[0]?=some (.pt a)->fK 1 [0] B=[.no,.pt a]:=λB hB=>by unfold fK;simp[hB];rfl
  have hbm':=hbm [.pt a,.sh (cH M),.sh (.int 4),.sh (.int (i:Int)),.sh (.int (j:Int)),.no] rfl;open_line with[cZ,eQ,t1,hlM,t2,ha1,t3,hsL,hbm',hcm]
 .obtain⟨e,s4,e1,e2,e3,S4⟩:=E7 a W t0 t9 (X.ext p pM).1 (X.many p pM) (X.le pM) S3
  have A1:=addL ((jg M).take i) [e] (by simp;omega);have A2:=addL ((jg M).take i++[e]) ((jg M).drop (i+1)) (by simp;omega);obtain⟨T1,R1⟩:=hL ((jg M).take i++[e]++(jg M).drop (i+1)) (by simp;omega) λe' he=>by
   rcases U6.mp he with h|h
   .rcases U6.mp h with h|h
    .exact gI e' (Wc h)
    .rw[UL.mp h];exact⟨e2,e3⟩
   .exact gI e' (WO h)
  refine⟨_,s4,?_,T1,R1,S4⟩;open_line with[cZ,eQ,t1,hlM,t2,ha1,t3,hsl,c1,c2,ha2,hix,e1,A1,A2]
end
abbrev tB(a:Uy):Ev->ac->ar fb:=(bh (zh (Fq (mA (aV (mP (af 3)) (aV (bL 2 a (aV (mP (af 4)) cm) cZ) cm)) cu))
 (bh (gY (dC (.bl false)))
 bY)
 bY)
 bY)
noncomputable abbrev Bw(a:Uy):Ev->ac->ar fb:=(bh (ey 3 (bL 2 a (aV (mP (ag (ao (ae (dC (.int 7)) (ae (dC (.int 6)) (ae (dC (.int 6)) az))) b5) (af 1) aO)) (aV (mP (ag (ao (ae (dC (.int 14)) (ae (dC (.int 10)) (ae (dC (.int 10)) az))) b5) (af 1) aO)) cm)) fz))
 (bh (ey 4 (bL 2 a (aV (mP (ao (ae (af 3) (ae (ao az b5) az)) cw)) cm) cq))
 (bh (zh (mT (gq (cp (ao (ae (af 3) (ae (af 4) az)) cu)) (cp (ao (ae (af 3) (ae (ao az b5) az)) cu))))
 (bh (gY (dC (.bl false)))
 bY)
 bY)
 (bh (oO (yj (jt (ag (dC (.int 7)) (ao (ae (ag (af 4) (ao az b5) gi) az) (m1 iN)) cx))) (bU 5)
 (tB a))
 bY))))
def OK(a:Uy)(W:cc w)(hw:∀t∈w.ts,iU t)(X:Mx w M)(h9:M.length<=9)(S:St st):∃y5 st',DL.forM (bU 5) (tB a) (DL.intsFrom 0 7) [.sh d0,.sh d1,.pt a,.sh (aP w),.sh (cH M),x5] st=.ok (.nx [.sh d0,.sh d1,.pt a,.sh (aP w),.sh (cH M),y5] st'):=by
 obtain⟨ρ2,st2,h,⟨y5,rfl⟩,_⟩:=mW (tg:=bU 5) (body:=tB a) (λ_ ρ st=>(∃y5,ρ=[.sh d0,.sh d1,.pt a,.sh (aP w),.sh (cH M),y5])/\St st) (DL.intsFrom 0 7) (by
  rintro j d ρ st hd ⟨⟨y5,rfl⟩,S⟩;obtain⟨e,st',e1,e2,e3,S'⟩:=Kj a W X h9 S;have hr:=qz W hw X.tot.1 X.tot.2 e2 e3 (UC _);refine⟨_,[.sh d0,.sh d1,.pt a,.sh (aP w),.sh (cH M),.sh d],st',rfl,.inl ?_,⟨.sh d,rfl⟩,S'⟩;open_line with[F7,B4,e1,hr]) 0 [.sh d0,.sh d1,.pt a,.sh (aP w),.sh (cH M),x5] st (Wx _) ⟨⟨_,rfl⟩,S⟩
 exact⟨y5,st2,h⟩
def CT(W:cc w)(hw:∀t∈w.ts,iU t):cu [aP w,.lst []]=.ok (.bl true) :=
 qz W hw (T:=1) (by decide) (by decide) (.inl ⟨[],rfl,by decide,λe he=>(nomatch he)⟩) ((Rp.lst (e9.nil (k:=0))).up (n':=60000) (k':=6) (by decide) (by decide)) (UC _)
def D8(a:Uy){k:Nat}(hk:k<3)(S:St st):∃d3 d4 y5 st',Bw a [.sh d0,.sh (.int (k:Int)),.pt a,.no,.no,.no] st=.ok (.nx [.sh d0,.sh (.int (k:Int)),.pt a,.sh d3,.sh d4,y5] st'):=by
 obtain⟨p,q,hp,hq,i1,i2⟩:∃p q:Nat,(2<=p/\p<=7)/\q<=14/\aO (.lst [.int 7,.int 6,.int 6]) (.int (k:Int))=.ok (.int (p:Int))/\aO (.lst [.int 14,.int 10,.int 10]) (.int (k:Int))=.ok (.int (q:Int)):=by
  have:k=0∨k=1∨k=2:=by omega
  rcases this with rfl|rfl|rfl
  .exact⟨7,14,by decide,by decide,rfl,rfl⟩
  .exact⟨6,10,by decide,by decide,rfl,rfl⟩
  .exact⟨6,10,by decide,by decide,rfl,rfl⟩
 obtain⟨w,st1,t1,W,hw,S1⟩:=Hj a hp hq S;obtain⟨F,hF,h2,h3,hN,_⟩:=Way.ways_ok W (ks:=[]);have hF:cw [aP w,.lst []]=.ok (.lst (F.map cR)):=hF;have hnr:=CT W hw
 by_cases hc:F=[]
 .subst hc
  have hF:cw [aP w,.lst []]=.ok (.lst []):=hF;obtain⟨st2,t2,S2⟩:=K54.shares_nil a S1;have t2:cq a st1 [.lst []]=.ok (.lst [],st2):=t2;have hn:gi (.lst []) (.lst [])=.ok (.bl false):=rfl;have hi:iN (.bl false)=.ok (.int 0):=rfl;have hm:cx (.int 7) (.int 0)=.ok (.int 0):=cA (dQ (UA (K51.small13 (by decide)) lJ) (UA (K51.small13 (by decide)) lJ));have hr:Cod.srcR1K (.int 0)=.ok []:=Cod.srcR1_nat (k:=0) (by decide);have hf0:∀(tg:Ev->D->ar Ev) (s:Ev->ac->ar fb) (ρ:Ev) (st:ac),DL.forM tg s [] ρ st=.ok (.nx ρ st):=λ_ _ _ _=>rfl;refine⟨aP w,.lst [],.no,st2,?_⟩;open_line with[i1,i2,t1,hF,t2,hnr,hn,hi,hm,Cod.ev_srcR1,hr,hf0]
 .obtain⟨M,st2,t2,X,h9,S2⟩:=K54.shares_ok a (w:=w) (λy hy=>⟨(h2 y hy).2.2,(h2 y hy).2.1⟩) hN hc h3 S1
  have t2:cq a st1 [.lst (F.map cR)]=.ok (cH M,st2):=t2;obtain⟨y5,st3,hf⟩:=OK a W hw X h9 S2 (d0:=d0) (d1:=.int (k:Int)) (x5:=.no);have gI:∀e∈jg M,uf w (bp M) e/\Rp e 4000 3:=λe he=>by
   obtain⟨p,hp,rfl⟩:=U4.mp he;exact we W X hp
  have hr1:cu [aP w,cH M]=.ok (.bl true):=qz W hw X.tot.1 X.tot.2 (.inl ⟨jg M,rfl,by rw[Us];omega,λe he=>(gI e he).1⟩) ((Rp.lst (e9.all λe he=>(gI e he).2)).up (n':=60000) (k':=6) (by rw[Us];omega) (by decide)) (UC _);have hn:gi (cH M) (.lst [])=.ok (.bl true):=by
   have s:bC 40 (cH M)=true:=by
    show(jg M).all (bC 39)=true;refine Va.mpr λd hd=>?_;obtain⟨p,_,rfl⟩:=U4.mp hd;show([cR p.1,fr (sh (bp M) p.2)]).all (bC 38)=true;have h1:bC 38 (cR p.1)=true:=by
     show(nums p.1).all (bC 37)=true;refine Va.mpr λd hd=>?_;obtain⟨n,_,rfl⟩:=U4.mp hd;rfl
    simp only[WV,h1,List.all_nil];rfl
   unfold gi;rw[if_pos ⟨s,rfl⟩];have hM:=X.ne;cases hM':M with|nil=>exact absurd hM' hM|cons p M'=>rfl
  have hi:iN (.bl true)=.ok (.int 1):=rfl;have hm:cx (.int 7) (.int 1)=.ok (.int 7):=cA (dQ (UA (K51.small13 (by decide)) lJ) (UA (K51.small13 (by decide)) lJ));have hr:Cod.srcR1K (.int 7)=.ok (DL.intsFrom 0 7):=Cod.srcR1_nat (k:=7) (by decide);refine⟨aP w,cH M,y5,st3,?_⟩;open_line with[i1,i2,t1,hF,t2,hr1,hnr,hn,hi,hm,Cod.ev_srcR1,hr,hf]
def Fw(ns:List Int)(hn:ns.length<=63):m_law [.lst (ns.map D.int)]=.ok (.bl true):=by
 obtain⟨q,m,hm,h1,hq⟩:∃(q:Int) (m:Nat),m<=3/\Ax (.int ns.length) (.int 3)=.ok (.int q)/\(if q > 1 then q else 1)=(m:Int):=by
  have h1:Ax (.int ns.length) (.int 3)=.ok (.int (if(3:Int)<ns.length then 3 else ns.length)):=rfl;refine⟨_,(if(if(3:Int)<ns.length then 3 else(ns.length:Int)) > 1 then(if(3:Int)<ns.length then 3 else(ns.length:Int)) else 1).toNat,?_,h1,?_⟩
  .split<;>split<;>omega
  .split<;>split<;>omega
 have hstep:∀k,k<m->∀ρ:Ev,(∃s,ρ=[.sh (.lst (ns.map D.int)),s,.no,.no,.no,.no]) ->
   ∃ρ2,(l6 2 (ao (ae (af 0) (ae (af 1) az)) cL) λa=>Bw a) (ρ.set 1 (.sh (.int (k:Int))))=.ok (.nx ρ2)/\∃s,ρ2=[.sh (.lst (ns.map D.int)),s,.no,.no,.no,.no]:=by
  rintro k hk ρ ⟨s,rfl⟩;obtain⟨st,hb,S⟩:=Gx ns k (by omega) hn;refine⟨[.sh (.lst (ns.map D.int)),.sh (.int (k:Int)),.no,.no,.no,.no],?_,_,rfl⟩;have h1:(ao (ae (af 0) (ae (af 1) az)) cL) [.sh (.lst (ns.map D.int)),.sh (.int (k:Int)),.no,.no,.no,.no]=.ok (.lst st):=by
   open_line with[hb]
  show l6 2 _ _ [.sh (.lst (ns.map D.int)),.sh (.int (k:Int)),.no,.no,.no,.no]=_;unfold l6;rw[h1,KW];unfold wC;show(if _ then _ else _)=_;rw[if_pos ⟨rfl,(by show 2<6;decide)⟩];refine Ir λa=>?_;obtain⟨d3,d4,y5,st',e⟩:=D8 a (d0:=.lst (ns.map D.int)) (k:=k) (by omega) S;show BX 2 (Bw a [.sh (.lst (ns.map D.int)),.sh (.int (k:Int)),.pt a,.no,.no,.no] st)=_;rw[e];rfl
 obtain⟨ρ',hf,s,rfl⟩:=wq (i:=1) (body:=(l6 2 (ao (ae (af 0) (ae (af 1) az)) cL) λa=>Bw a)) (λ_ ρ=>∃s,ρ=[.sh (.lst (ns.map D.int)),s,.no,.no,.no,.no]) (n:=m) hstep (ρ:=[.sh (.lst (ns.map D.int)),.no,.no,.no,.no,.no]) ⟨.no,rfl⟩;have hfr:=λs:bd=>iI (tg:=bU 1) (s:=s) (ρ:=[.sh (.lst (ns.map D.int)),.no,.no,.no,.no,.no]) (k:=m) (by omega);unfold m_law K5;open_line with[Us,h1,hq,hfr,hf]
end K53
namespace K53
open PySem L2 DL
def sp_law(K:Ur)(H:Hp)(a:Uy)(ns:List Int)(hl:ns.length<=63)(hS:fM K H a (ns.map V.int)):spD K 1 m_law [.ref a] H (λv _=>v=.bl true) λ_ _ _=>False:=by
 refine⟨rfl,H,[.lst (ns.map D.int)],aG.refl _,Reps.cons (aJ.mpr ⟨a,_,rfl,hS,vk ns⟩) Reps.nil,?_⟩;rw[Fw ns hl];exact λv H' Ha' _ r=>aL.mp r
end K53
structure PySem.W.Fast:Prop where(tw10309590657982574177 tw6344175351657061267 tw5701220436068920306 tw3495735255885889869 tw490462541166156095 tw10783243400810192179 tw11164512934902277059 tw357512936926772725 tw16857087395349152835 tw4034046533902555285 tw810069969499754288 tw2687591843156673989 tw476319294406997161 tw15870732410488947670 tw3078302583013182524 tw4801610834927577359 tw2771556629361625796 tw15822302815071056480 tw14237202414518853942 tw323328677798789186 tw3691280760884429729 tw10139009789190661007 tw11978512979517942440 tw10038246973975538946 tw11470412852086990959 tw946286490364885452 tw12092450497184689532 tw6020104619421295420 tw13415110187498842664 tw16329880544220663129 tw10047932370338257291 tw5155585610154511780 tw13535621173503052963 tw4780780556746550426 tw3829673985790286741 tw2966609668276479101 tw11337898117874153240 tw12707209499654117583 tw14529774650963100910 tw6032478252098911170 tw9085989038304486003 tw6724636682121046950 tw10443150461382220883 tw6036632660646426795 tw6917706131661543672 tw2922458207439588770 tw7394727385392979918 tw17204609377479692372 tw10252889946998740043 tw3669886316636053586 tw12347548559629076250 tw10279522274201554149 tw13180251572576502145 tw10167137629066190130 tw15222555207049145440 tw2564142319088185584 tw416420345434355507 tw11902360119518998996 tw14034203624510449125 tw12143767873048537009 tw12503714512905790880 tw16589066841208232005 tw11870754443844017415 tw14312029505143077951 tw6832536150064832295 tw18015351669367092271 tw14546751454480184378 tw17438005768222731531 tw14959023506865797922 tw10618587354808214954 tw7630928772663482769 tw13842137810481542832 tw17383367843659569548 tw12681935974129248540 tw9296380075764874973 tw326548317286987835 tw9991585239091647819 tw16188431835375986368 tw2879628648938004755 tw1286337264609377112 tw12901104222079723339 tw16077195396685979422 tw11905845862896829887 tw3840706715373009313 tw17545914047836271057 tw13150174511147765411 tw13936857504654350901 tw8373573381471222157 tw14999907289172666516 tw8354741011214035682 tw5645198145880052256 tw3279097399173389579 tw612366024651766890 tw15250568986597817474 tw18267692819696654538 tw7536392202046959300 tw11639032812863912728 tw7562182488144575894 tw14286994123931437717 tw13756287355783972473 tw13502025287478671093 tw8653550529363650781 tw5930429389434460284 tw2508235700438597455 tw8581038565556314204 tw10633963729861152868 tw14411820375726120564 tw12340250071740217381 tw9686622618779003038 tw15067190201245821800 tw9859659662719132235 tw4951919729031263289 tw5162470291028292491 tw12294051081933422113 tw17868577840707642201 tw6226424196619915680 tw4646331645617469620 tw3460929175594220135 tw1782712295700605751 tw16005466388978606965 tw14130431577922890995 tw7854969036168019372 tw8644328637980033086 tw12469184057700058284 tw13980347224665357281 tw8072669207814831726 tw10396421825280683290 tw13175943176046640650 tw17068259180167859102 tw4970881247550521876 tw1523886907311096405 tw16159506710872718508 tw8736527445448182229 tw3051906471453336503 tw5337086547175817631 tw7598488630563703074 tw5471041842404957255 tw14888179615418257079 tw14097378445832508408 tw4665408425927402834 tw14112353501080186456 tw569023845223045663 tw18031865478240664388 tw9014858354465501428 tw7668010771603605510 tw17215435661240683305 tw12689853060971948881 tw17725890501809772778 tw9986024733118286479 tw18403871911601494820 tw126591658889840631 tw14807415085089601901 tw2227118534592574923 tw12567435490043293423 tw18127527093435457527:True)
open PySem PySem.W PyProof.Rows
set_option maxRecDepth 100000 in
set_option maxHeartbeats 0 in
theorem PySem.Challenge.cw_farthestcut_k53_mixes_looked_at_holds : PySem.Challenge.rw_farthestcut_k53_mixes_looked_at.Holds := by
 w_on;o_law;k_head;(case hw=>w_witness2)
 k_fill
 refine L2.walk_ofK (l:=PySem.Challenge.rw_farthestcut_k53_mixes_looked_at) (n:=63) (k:=14) (x:="_law_script") (CX:=L2.CX0) (sp:=fun K=>DL.spD K 1 K53.m_law) ?I rfl (by decide) rfl ⟨rfl,by decide,by decide,rfl⟩ (fun w h Y=>W.kIn_of Y) ?F ?S ?C
 case S=>exact fun K H a ns hl _ hS=>K53.sp_law K H a ns hl hS
 case C=>exact fun _ _ _ _ h=>h
 case I=>rfl
 case F =>
  intro w mg fa h KX G hmg;have T:∃ t:K53.Adr,K53.Txt (L2.KOf KX) mg t/\mg "law"=some (.ref (t.A 55))/\∃ kV doc pm an cdv ct,t.Q 55=WH "law" "law" (L2.defArgs (K53.top 93)) (L2.defBody (K53.top 93)) (L2.defScope (K53.top 93)) .none kV doc pm an cdv ct:=by
   dsimp only[L2.KOf];refine' K53.txt_wr (K53.txt_mk KX G ?QS ?_ ?_ ?_ ?_ ?_ ?_ ?_ ?_ ?_ ?_ ?_ ?_ ?_ ?_ ?_ ?_ ?_ ⟨?_,?_,?_,?_⟩ ⟨?_,?_,?_,?_⟩ ⟨⟨?_,?_,?_,?_⟩,?_,?_,?_,?_,?_,?_,?_,?_,?_,?_,?_,?_⟩ ⟨?_,?_,?_,?_⟩ ⟨?_,?_,?_,?_⟩ ⟨⟨?_,?_,?_,?_⟩,?_,?_,?_,?_,?_,?_,?_,?_,?_,?_,?_,?_⟩ ⟨?_,?_,?_,?_⟩ ?_ ?_ ?_ ?_ ?_ ?_ ?_ ?_ ?_ ?_ ?_ ?_ ?_ ?_ ?_ ?_ ?_ ?_ ?_ ?_ ?_ ?_ ?_ ?_ ?_ ?_ (K53.sbc ?_ (K53.sbc ?_ (K53.sbc ?_ (K53.sbc ?_ (K53.sbc ?_ (K53.sbc ?_ (K53.sbc ?_ trivial))))))) (K53.sbc ?_ (K53.sbc ?_ (K53.sbc ?_ (K53.sbc ?_ (K53.sbc ?_ (K53.sbc ?_ (K53.sbc ?_ trivial))))))) ?_ ?_ ?_ ?_ ?_ ?_ ?_ ?_ ?_ ?_ ?_ ?_ ?_ ?_ ?_ ?_ ?_ ?_ ?_ ?_ ?_ ?_ ?_)
   case' QS=>iterate 56 refine DL.QAs.cons ⟨by k_is,by k_is,_,_,_,_,_,_,_,_,_,by k_is,by k_is⟩ ?_
   case QS=>trivial
   all_goals try first |k_is |k_exc |rfl
   exact⟨_,_,_,_,[.int 0,.int 1],rfl,.cons ⟨_,rfl⟩ (.cons ⟨_,rfl⟩ (.nil)),by decide,fun H=>DL.Reps.cons (DL.ri _) (DL.Reps.cons (DL.ri _) (DL.Reps.nil))⟩;exact⟨_,_,_,_,[.int 1,.int 1],rfl,.cons ⟨_,rfl⟩ (.cons ⟨_,rfl⟩ (.nil)),by decide,fun H=>DL.Reps.cons (DL.ri _) (DL.Reps.cons (DL.ri _) (DL.Reps.nil))⟩;exact⟨_,_,_,_,[.str "one",.str "both"],rfl,.cons ⟨_,rfl⟩ (.cons ⟨_,rfl⟩ (.nil)),by decide,fun H=>DL.Reps.cons (DL.Rep.str_iff.mpr rfl) (DL.Reps.cons (DL.Rep.str_iff.mpr rfl) (DL.Reps.nil))⟩
  obtain⟨t,T,e0,kV,doc,pm,an,cdv,ct,ed⟩:=T;have e1:=hmg.symm.trans e0;cases e1;refine⟨t.Q 55,fun s u=>?_,fun base kb nb=>(K53.ok_law T).F⟩;rw[ed];exact .of_eq rfl
