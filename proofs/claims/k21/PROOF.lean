import PyProof.Rows.All
import Wide.All
import OpenK.AllK
import Wide.FinOn
import PyProof.EqAt
import PyProof.EqKinds
import PyProof.NeKinds
import PyProof.TupleCall
import PyProof.StrWalks
import PyProof.EnumMake
import PyProof.WalksEnum
import PyProof.ZipIter
import PyProof.Rows.ZipGen
import PyProof.Rows.SortWalk
import KE.KSortedM
import PyProof.StrLawsIdx
import PyProof.StrLawsNeg
import PyProof.ExcInit
import PyProof.InstStoreFacts
import PyProof.AttrMissHeap
import PyProof.FactsAll.enumerate
import PyProof.FactsAll.dict_1
import KE.KDictOf
import KE.KItemsList
import PyProof.ReprRoads
import PyProof.FitsInt
import PySem.Challenge.RW_farthestcut_k21_no_ties_of_values
open PySem.W renaming Frag->Up,subIn->U0,nsIn->Vk,mg_none_of->Vt,kia_one->VA,mg_of->VH,findIn->VQ,fnOf->Ww,hasDictIn->WC,keepIn->WD,mroIn->WR,typeIn->W7,kitOne->Xh,emptyDict->Xi,hideAll->Xn,excIn->Xo,Looks->Xp,of_hideAll->XA,isNs_of_in->XD,specialIn->XS,kitx_dict->XT,exmOne->X4,codeIn->X5,InstAt->X6,looks_clsIn->Yc,hideAll_get->Yd,methodObj->YF,lookIn->YG,kitx_list->YH
open PySem renaming wpAny_bind->Uq,wpAny_pure->UL,wpAny_mono->Vh,wpAny_truthy_bool->Vp,Env->Vu,wpAny_holding->VD,wpAny_loadPart_at->VE,mem_of_lookup->VT,Within->Wi,ofString_length->Xf,intBits_le_iff->YK
open List renaming length_map->Ur,getElem?_set_ne->Us,mem_cons_of_mem->Uu,mem_cons->Uv,getElem?_eq_some_iff->Uw,getElem?_eq_getElem->Uz,mem_of_getElem?->UA,getElem?_map->UD,map_cons->UG,getElem?_append_left->UH,length_cons->UI,size_toArray->UK,mem_cons_self->UM,getElem?_append_right->UN,getElem?_set_self->UQ,not_mem_nil->US,append_nil->UT,getElem?_replicate->UW,mem_map->UY,replicate->U2,length_append->U6,all_eq_true->U7,getElem?_cons_succ->U9,drop_eq_getElem_cons->Va,mem_append->Ve,length_take->Vf,mem_append_right->Vi,length_replicate->Vj,map_append->Vm,mem_singleton->Vr,zip_cons_cons->Vx,lookup_cons->VB,getElem?_cons_zero->VC,nil_append->VG,range->VO,map_nil->VP,length_eq_zero_iff->VR,length_nil->VS,nodup_cons->VZ,map_map->V2,getElem?_set_self'->V3,any_cons->Wb,nodup_append->Wc,append_assoc->Wd,mem_of_mem_take->We,drop_zero->Wf,drop_length->Wk,cons_append->Wl,replicate_zero->Wn,replicate_succ->Wo,filterMap_cons->Wq,find?_cons->Wu,set_cons_zero->Wz,set_cons_succ->WA,Nodup->WB,mem_nil_iff->WK,all_cons->WL,lookup->WM,nodup_iff_pairwise_ne->WW,length->WZ,length_singleton->Xg,mem_append_left->Xj,sum_cons->Xs,mem_filterMap->Xw,take_length->XN,getElem_mem->XO,map_id->XX,of_mem_zip->X1,getElem?_take_of_lt->Yh,eq_of_mem_replicate->Yi,Pairwise->Yj,filter_cons_of_pos->Yo,filter_cons_of_neg->Yp,take_of_length_le->Yt,range_succ_eq_map->Yu,find?_cons_of_pos->Yv,find?_cons_of_neg->Yw,all_map->Yx,mem_of_mem_drop->YN,getElem?_range->YS
open PySem.Heap renaming get?_push_of_some->Ux,lt_size->UJ,get?_push_size->Vl,get?_update_other->VF,get?_update_self->VJ,FlyingW->V6,SameBut->WI,get?_none_of_le->WO,MadeExcOf->Xk,NotedW->YQ,get?_update_ne->YT
open Nat renaming lt_of_lt_of_le->Uy,le_refl->UB,le_trans->UO,ne_of_lt->U4,lt_of_le_of_lt->Vd,pow_le_pow_right->Vn,zero_le->VU,lt_succ_self->Wj,lt_irrefl->Wr,sub_zero->WT,lt_trans->WU,le_of_lt->WV,zero_add->Xc,add_zero->Xd,pow_add->XW,not_lt_zero->X0,pow_pos->YL,pow_lt_pow_right->YM
open Or renaming inl->UC,inr->XM
open PySem.SeqAt renaming RcNeAt->UP,EqAt->UR,RcAt->U1,ne_of_list_tuple->Yr
open Bool renaming and_eq_true->UU,false_ne_true->Vy,not_false->V5,false_and->Wg,not_true->Wt,true_and->W5,and_self->W6,and_false->Xm,or_eq_true->X3,false_or->Yk,and_eq_false_iff->YE
open Int renaming gcd->UX,eq_ofNat_of_zero_le->Vq,fmod_eq_emod_of_nonneg->Vs,natAbs_ediv_le_natAbs->VI,fmod_nonneg_of_pos->WH,le_refl->WN,ediv_pos_of_pos_of_dvd->WX,gcd_dvd_left->W9,ediv_nonneg->Xe,fmod_lt_of_pos->Xx,le_trans->XH,emod_eq_of_lt->XI,mul_le_mul_of_nonneg_right->XQ,natAbs_mul->X8,mul_comm->Yy,mul_pos->YO
open PySem.Value renaming ref->UZ,none->Vv,bool->Vw,str->VL,int->VM,builtin->Wa,float->YI
open Ne renaming symm->U5
open Option.some renaming inj->U8,injEq->V0
open Option renaming some->Vb,isSome_map->V1,map_some->V8,isSome_some->Wx,isSome_none->Wy,isSome_iff_exists->W4,none->XU,bind_eq_some_iff->Yn,map_eq_some_iff->Ys
open PySem.PassesOwn renaming never->Vc,leaving->XG
open Sum renaming inr->Vg,inl->Xa
open False renaming elim->Vo
open True renaming intro->VN
open PySem.NameKind renaming free->VW
open PySem.F renaming excBase_ValueError->VX,attr_ValueError->W2,args_tuple_add_2->W3,entry_tuple_add->W8,slot_tuple_add->Xb,slot_dict_ne->Xl,type_list_append->Yf,slot_list_append->Yg,plainAttrs_list->Ym,typeOf_object_class->YD,slot_list_ne_refl->YU
open PySem.PyData renaming shownAll->VY,showable->V7,shown->WE,depth->WG,depthAll->XZ
open PySem.Builtin.Str renaming occurrences->V4
open PySem.Builtin renaming divisionGoesByPylong->V9
open Array renaming getElem?_eq_some_iff->Wh,length_toList->Xq,append_assoc->Xz,mem_toList_iff->YR
open PySem.Builtin.Slice renaming slicePlaces->Wm,sliceAdjust->WY,sliceApplied->Ya
open PySem.Builtin.Tuple renaming tupleExact->Ws
open ForInStep renaming yield->Wv
open PyProof.Rows renaming slot_tuple_getitem->WJ,callWith_type1->WS
open PySem.Calls renaming evalArgs_plain->WQ,Name_function_global->X9,callWith_builtin->YB
open PySem.Paired renaming length->Xr
open PySem.SeqAt.EqAt renaming of_refs->Xt,same->XY
open PySem.Obj renaming mapSeq->Xu,data_mapFields->Xv,isFreed_of_fields->YC
open PySem.Code renaming quiet_builtin->Xy,isFrame->YA
open PySem.Txt renaming slice_le->XF,join->X7,slice->Yl
open PySem.Around renaming under->XJ
open List.cons renaming injEq->X2
open PySem.Builtin.Dict renaming dictSlotArgs->Yb
open PySem.SeqAt.RcAt renaming lists_lengths->Ye
open PyProof.Rows.IsTup renaming new->Yq
open Iff renaming rfl->Yz
open Sum.inr renaming inj->YJ
open PySem.EntryCells renaming newEntry->YV
set_option compiler.extract_closed false
set_option bootstrap.genMatcherCode false
set_option autoImplicit true
set_option Elab.async false
set_option linter.all false
set_option maxRecDepth 100000
set_option maxHeartbeats 4000000
noncomputable section
namespace L2
open PySem PySem.Spec PyProof.Rows
noncomputable abbrev gh:=Sum Int Str
noncomputable def vM:gh->Value->Bool
 |.inl k,v=>Value.isInt k v
 |.inr x,v=>Value.isStrOf x v
noncomputable def Sx(w:World):gh->Int
 |.inl k=>hashInt k
 |.inr x=>hashStr w x
theorem cK:∀{k:gh}{v:Value},vM k v=true->(∃i t,k=Xa i/\v=VM i t)∨(∃x t,k=Vg x/\v=VL x t)
 |.inl i,v,h=>by
  obtain⟨t,e⟩:=Value.isInt_shape (k:=i) (v:=v) h;exact .inl ⟨i,t,rfl,e⟩
 |.inr x,v,h=>by
  obtain⟨t,e⟩:=Value.isStrOf_shape (x:=x) (v:=v) h;exact .inr ⟨x,t,rfl,e⟩
theorem Fw(i:Int)(t:Tok):vM (.inl i) (.int i t)=true:=by simp [vM,Value.isInt]
theorem Fv(x:Str)(t:Tok):vM (.inr x) (.str x t)=true:=by simp [vM,Value.isStrOf]
theorem N9(a b:Int):decide ((Xa a:gh)=Xa b)=(a==b):=by
 by_cases e:a=b
 .subst e;simp
 .have h:¬(Xa a:gh)=Xa b:=λq=>e (Xa.inj q)
  rw[decide_eq_false h];exact(beq_eq_false_iff_ne.mpr e).symm
theorem N6(a b:Str):decide ((Vg a:gh)=Vg b)=decide (a=b):=by
 by_cases e:a=b
 .subst e;simp
 .have h:¬(Vg a:gh)=Vg b:=λq=>e (YJ q)
  rw[decide_eq_false h,decide_eq_false e]
theorem N8(a:Int)(b:Str):decide ((Xa a:gh)=Vg b)=false:=decide_eq_false (λq=>nomatch q)
theorem N7(a:Str)(b:Int):decide ((Vg a:gh)=Xa b)=false:=decide_eq_false (λq=>nomatch q)
noncomputable def cI(prog:Program) (w:World):PySem.KeyKind prog w gh where
 is:=vM
 hash:=Sx w
 inj:=λv a b ha hb=>by
  rcases cK ha with⟨i,t,rfl,rfl⟩|⟨x,t,rfl,rfl⟩
  .rcases cK hb with⟨j,u,rfl,e⟩|⟨y,u,rfl,e⟩
   .injection e with e1 _;rw[e1]
   .exact nomatch e
  .rcases cK hb with⟨j,u,rfl,e⟩|⟨y,u,rfl,e⟩
   .exact nomatch e
   .injection e with e1 _;rw[e1]
 byValue:=λk v h=>by
  rcases cK h with⟨i,t,rfl,rfl⟩|⟨x,t,rfl,rfl⟩<;>rfl
 pyHash:=λhv h=>by
  rcases cK hv with⟨i,t,rfl,rfl⟩|⟨x,t,rfl,rfl⟩
  .exact wpAny_pyHash_int h
  .exact wpAny_pyHash_str h
 eqBool:=λhu hv h=>by
  rcases cK hu with⟨i,t,rfl,rfl⟩|⟨x,t,rfl,rfl⟩
  .rcases cK hv with⟨j,u,rfl,rfl⟩|⟨y,u,rfl,rfl⟩
   .rw[N9] at h;exact wpAny_eqBool_int h
   .rw[N8] at h;exact UR.int_str i t y u _ _ _ _ h
  .rcases cK hv with⟨j,u,rfl,rfl⟩|⟨y,u,rfl,rfl⟩
   .rw[N7] at h;exact UR.str_int x t j u _ _ _ _ h
   .rw[N6] at h;exact wpAny_eqBool_str h
 «strs»:=λk x t v h=>by
  rcases cK h with⟨i,u,rfl,e⟩|⟨y,u,rfl,e⟩
  .exact nomatch e
  .injection e with e1 _
   subst e1;cases v<;>rfl
theorem zP(prog:Program)(w:World)(i:Int)(t:Tok):(cI prog w).is (.inl i) (.int i t)=true:=Fw i t
theorem zO(prog:Program)(w:World)(x:Str)(t:Tok):(cI prog w).is (.inr x) (.str x t)=true:=Fv x t
inductive V where
 |non|bl (b:Bool)|int (i:Int)|str (x:Str)|byt (b:Array UInt8)|flt (b:UInt64)|ref (a:Addr)|ty (n:String)
 deriving DecidableEq
noncomputable def bu:V->Value->Prop
 |.non,u=>u=Vv
 |.bl b,u=>u=Vw b
 |.int i,u=>∃t,u=VM i t
 |.str x,u=>∃t,u=VL x t
 |.byt b,u=>∃t,u=Value.bytes b t
 |.flt b,u=>∃t,u=YI b t
 |.ref a,u=>u=UZ a
 |.ty n,u=>u=Value.type n
noncomputable abbrev bH:List V->List Value->Prop:=Paired bu
theorem bH.length(r:bH xs us):xs.length=us.length:=Xr r
theorem bH.get:∀{xs:List V}{us:List Value}{i:Nat}{x:V},bH xs us->xs[i]?=some x->∃u,us[i]?=some u/\bu x u
 |_,_,_,_,.nil,e=>by simp at e
 |_,_,0,_,.cons r _,e=>by simp at e;subst e;exact⟨_,rfl,r⟩
 |_,_,i+1,x,.cons _ t,e=>by
  obtain⟨u,h1,h2⟩:=bH.get (i:=i) (x:=x) t (by simpa using e);exact⟨u,by simpa using h1,h2⟩
theorem bH.set(r:bu x u):∀{xs:List V}{us:List Value}(i:Nat),bH xs us->bH (xs.set i x) (us.set i u)
 |_,_,_,.nil=>.nil
 |_,_,0,.cons _ t=>.cons r t
 |_,_,i+1,.cons q t=>.cons q (bH.set r i t)
theorem bH.append:∀{xs ys:List V}{us ws:List Value},bH xs us->bH ys ws->bH (xs++ys) (us++ws)
 |_,_,_,_,.nil,s=>s
 |_,_,_,_,.cons r t,s=>.cons r (bH.append t s)
theorem bH.take:∀{xs:List V}{us:List Value}(n:Nat),bH xs us->bH (xs.take n) (us.take n)
 |_,_,0,_=>.nil
 |_,_,_+1,.nil=>.nil
 |_,_,n+1,.cons r t=>.cons r (bH.take n t)
theorem bH.drop:∀{xs:List V}{us:List Value}(n:Nat),bH xs us->bH (xs.drop n) (us.drop n)
 |_,_,0,r=>r
 |_,_,_+1,.nil=>.nil
 |_,_,n+1,.cons _ t=>bH.drop n t
noncomputable def vh:Option V->Option Value->Prop
 |some v,some u=>bu v u
 |none,none=>True
 |_,_=>False
noncomputable def KV{κ:Type}:List (κ×V)->List (κ×Value)->Prop:=Paired λ(p:κ×V) (q:κ×Value)=>p.1=q.1/\bu p.2 q.2
noncomputable def kV:gh->V
 |.inl i=>.int i
 |.inr x=>.str x
inductive HO where
 |lst (xs:List V)
 |tup (xs:List V)
 |dK (kvs:List (gh×V))|dT (kvs:List (List gh×V))
 |set (S:Int->Bool) (n:Nat)
 |ins (C dx:Addr) (fs:List (Str×V))
 |own (x:Addr)
 |xd (fs:List (Str×V))
 |met (f x:Addr)
 |rng (lo hi:Int)
 |frz (o:Obj) (u:HO)
 |tbl (ps:Array Value)
 |ext (φ:Heap->Prop)
noncomputable abbrev Hp:=Addr->Option HO
noncomputable def upd(H:Hp) (a:Addr) (o:HO):Hp:=λb=>if b=a then some o else H b
theorem aw:upd H a o a=some o:=by unfold upd;rw[if_pos rfl]
theorem aq(h:b≠a):upd H a o b=H b:=by unfold upd;rw[if_neg h]
theorem Qz{H:Hp}(h:H a=some o)(h':H b=some u)(d:o≠u):a≠b:=by
 intro e;subst e;rw[h] at h';exact d (U8 h')
theorem aY{H:Hp}(h:H a=some o)(h':H b=none):a≠b:=by
 intro e;subst e;rw[h] at h';cases h'
section
variable (P:Program) (w:World)
noncomputable def bN(H:Hp) (h:Heap) (a:Addr):HO->Prop
 |.lst xs=>xs.length<=sizeLine/\∃(its:List Value) (n:Nat),bH xs its/\h.get? a=some { cls:=.type "list",data:=.seq its.toArray n }
 |.tup xs=>xs.length<=sizeLine/\∃its:List Value,bH xs its/\IsTup h a its.toArray
 |.dK kvs=>kvs.length<=sizeLine/\(a==sysModules)=false/\∃vs,KV kvs vs/\h.DictOf (cI P w) a vs
 |.dT kvs=>kvs.length<=sizeLine/\(a==sysModules)=false/\∃xs:List (List gh×Addr×Value),
   Paired (λ(p:List gh×V) (q:List gh×Addr×Value)=>p.1=q.1/\H q.2.1=some (.tup (p.1.map kV))/\bu p.2 q.2.2) kvs xs /\
   ∃o es ep,h.get? a=some o/\o.ExactDict/\o.data=.dict es ep/\es.toList=xs.map (entryOfKey (tupleKind (cI P w)))/\(xs.map (·.1)).Nodup
 |.set S n=>h.SetOf (intKind P w) a S n
 |.ins C dx fs=>H dx=some (.own a)/\fs.length<=1000/\dx≠a/\h.get? a=some (W.instObj C dx) /\
   ∃mA,h.Ns1 dx mA/\(∀f,vh (fs.lookup f) (mA f))/\Wi mA (fs.map (·.1))
 |.own _=>∃o,h.get? a=some o
 |.xd fs=>∃mA,h.Ns1 a mA/\∀f,vh (fs.lookup f) (mA f)
 |.rng lo hi=>∃t u v,h.get? a=some { cls:=.type "range",data:=.fields #[.int lo t,.int hi u,.int 1 v] }
 |.frz o u=>h.get? a=some o/\bN H h a u
 |.tbl ps=>h.get? a=some { cls:=.none,data:=.fields ps }
 |.met f x=>h.get? a=some (YF (.ref f) (.ref x))
 |.ext φ=>φ h/\(∃o,h.get? a=some o)/\∀h1 h2:Heap,φ h1->(∀o,h1.get? a=some o->h2.get? a=some o)->φ h2
noncomputable def fP(H:Hp) (h:Heap):Prop:=∀a o,H a=some o->bN P w H h a o
end
section
variable {P:Program}{w:World}{H H':Hp}{h h':Heap}{a:Addr}{o:HO}
theorem bN.lt(x:bN P w H h a o):a<h.objs.size:=by
 cases o with|lst xs=>obtain⟨_,_,_,_,e⟩:=x;exact UJ e|tup xs=>obtain⟨_,_,_,p⟩:=x;exact p.lt|dK kvs|dT kvs=>obtain⟨_,_,_,_,o,_,_,e,_⟩:=x;exact UJ e|set S n=>obtain⟨o,_,_,_,e,_⟩:=x;exact UJ e|ins C dx fs=>obtain⟨_,_,_,e,_⟩:=x;exact UJ e|own y=>obtain⟨_,e⟩:=x;exact UJ e|xd fs=>obtain⟨_,⟨_,_,_,e,_⟩,_⟩:=x;exact UJ e|rng lo hi=>obtain⟨_,_,_,e⟩:=x;exact UJ e|frz ob u=>obtain⟨e,_⟩:=x;exact UJ e|tbl ps|met f y=>exact UJ (show h.get? a=some _ from x)|ext φ=>obtain⟨_,⟨_,e⟩,_⟩:=x;exact UJ e
theorem kN{α β:Type}{F G:α->β->Prop}:∀{lb:List α}{lc:List β},Paired F lb lc->(∀a b,F a b->G a b)->Paired G lb lc
 |_,_,.nil,_=>.nil
 |_,_,.cons r t,f=>.cons (f _ _ r) (kN t f)
theorem bN.stay(x:bN P w H h a o)(k:∀b u,(b=a∨H b=some (.own a))->h.get? b=some u->h'.get? b=some u)
  (ho:∀b,H b=some (.own a)->H' b=some (.own a))(ht:∀b xs,H b=some (.tup xs)->H' b=some (.tup xs)):bN P w H' h' a o:=by
 induction o with
 |lst xs=>obtain⟨z,its,n,r,e⟩:=x;exact⟨z,its,n,r,k _ _ (.inl rfl) e⟩|tup xs=>obtain⟨z,its,r,ob,e,c⟩:=x;exact⟨z,its,r,ob,k _ _ (.inl rfl) e,c⟩|dK kvs=>obtain⟨z,y,vs,r,ob,es,ep,e,c⟩:=x;exact⟨z,y,vs,r,ob,es,ep,k _ _ (.inl rfl) e,c⟩
 |dT kvs =>
  obtain⟨z,y,xs,r,ob,es,ep,e,c⟩:=x;exact⟨z,y,xs,kN r λp q z=>⟨z.1,ht _ _ z.2.1,z.2.2⟩,ob,es,ep,k _ _ (.inl rfl) e,c⟩
 |set S n=>obtain⟨ob,es,ep,t,e,c⟩:=x;exact⟨ob,es,ep,t,k _ _ (.inl rfl) e,c⟩
 |ins C dx fs =>
  obtain⟨d,z,ne,e,mA,⟨od,es,ep,e2,c⟩,r⟩:=x;exact⟨ho _ d,z,ne,k _ _ (.inl rfl) e,mA,⟨od,es,ep,k _ _ (.inr d) e2,c⟩,r⟩
 |own y=>obtain⟨ob,e⟩:=x;exact⟨ob,k _ _ (.inl rfl) e⟩|xd fs=>obtain⟨mA,⟨od,es,ep,e,c⟩,r⟩:=x;exact⟨mA,⟨od,es,ep,k _ _ (.inl rfl) e,c⟩,r⟩|rng lo hi=>obtain⟨t,u,v,e⟩:=x;exact⟨t,u,v,k _ _ (.inl rfl) e⟩|frz ob u ih=>obtain⟨e,q⟩:=x;exact⟨k _ _ (.inl rfl) e,ih q⟩
 |tbl ps =>
  have e:h.get? a=some { cls:=.none,data:=.fields ps }:=x;show h'.get? a=some { cls:=.none,data:=.fields ps };exact k a _ (.inl rfl) e
 |met f y =>
  have e:h.get? a=some (YF (.ref f) (.ref y)):=x;show h'.get? a=some (YF (.ref f) (.ref y));exact k a _ (.inl rfl) e
 |ext φ=>obtain⟨p,⟨o,e⟩,st⟩:=x;exact⟨st _ _ p λo q=>k _ _ (.inl rfl) q,⟨o,k _ _ (.inl rfl) e⟩,st⟩
theorem fP.lt(x:fP P w H h)(e:H a=some o):a<h.objs.size:=(x a o e).lt
theorem fP.fresh(x:fP P w H h)(e:h.objs.size<=a):H a=none:=by
 cases q:H a with|none=>rfl|some u=>exact absurd (Uy (x.lt q) e) (Wr _)
theorem fP.kept(x:fP P w H h)(k:∀b u,h.get? b=some u->h'.get? b=some u):fP P w H h':=λa o e =>
 (x a o e).stay (λb u _ q=>k b u q) (λ_ q=>q) λ_ _ q=>q
theorem fP.laid(x:fP P w H h)(k:∀b u,h.get? b=some u->h'.get? b=some u)(hp:h.objs.size<=a)(new:bN P w (upd H a o) h' a o):fP P w (upd H a o) h':=λb u e=>by
 have hn:=x.fresh hp
 by_cases hb:b=a
 .subst hb;rw[aw] at e;cases e;exact new
 .rw[aq hb] at e
  exact(x b u e).stay (λc v _ q=>k c v q) (λc q=>by rw[aq (aY q hn)];exact q) λc xs q=>by rw[aq (aY q hn)];exact q
end
noncomputable def Rd(H:Hp) (a:Addr) (u:HO):Prop:=H a=some u∨∃o,H a=some (.frz o u)
theorem Rd.ok{h:Heap}(r:Rd H a u)(x:fP P w H h):bN P w H h a u:=by
 rcases r with r|⟨o,r⟩
 .exact x a u r
 .obtain⟨_,q⟩:=x a _ r
  exact q
noncomputable def OZ:Option HO->Prop
 |some (.lst _)=>True
 |some (.dK _)=>True
 |some (.dT _)=>True
 |some (.set _ _)=>True
 |some (.ins _ _ _)=>True
 |some (.ext _)=>True
 |_=>False
section
variable {P:Program}{w:World}{H:Hp}{h h':Heap}{x e:Addr}{o':HO}
theorem fP.write(ok:fP P w H h)(mu:OZ (H x))(he:e=x∨H e=some (.own x))(k:∀b u,b≠e->h.get? b=some u->h'.get? b=some u)(heo:∃u,h'.get? e=some u)
  (new:bN P w (upd H x o') h' x o'):fP P w (upd H x o') h':=λb u q=>by
 have nown:∀c y,H c=some (.own y)->c≠x:=λc y r z=>by subst z;rw[r] at mu;exact mu
 have ntup:∀c xs,H c=some (.tup xs)->c≠x:=λc xs r z=>by subst z;rw[r] at mu;exact mu
 by_cases hb:b=x
 .subst hb;rw[aw] at q;cases q;exact new
 .rw[aq hb] at q
  by_cases hbe:b=e
  .have q':H b=some (.own x):=by
    rcases he with z|z
    .exact absurd (hbe.trans z) hb
    .rw[hbe];exact z
   rw[q] at q';cases q';obtain⟨v,hv⟩:=heo;exact⟨v,by rw[hbe];exact hv⟩
  .refine(ok b u q).stay (λc v hc r=>k c v ?_ r) (λc r=>by rw[aq (nown c b r)];exact r) λc xs r=>by rw[aq (ntup c xs r)];exact r
   rcases hc with rfl|hc
   .exact hbe
   .rintro rfl
    rcases he with z|z
    .exact nown c b hc z
    .rw[hc] at z;cases z;exact hb rfl
end
structure Un (fs ex:List Addr) (H H':Hp) (h h':Heap):Prop where
 keep:∀b o,h.get? b=some o->H b=none->b∉fs->b∉ex->h'.get? b=some o
 slot:∀b o,h.get? b=some o->H b=none->b∈fs->b∉ex->∃sl,h'.get? b=some { o with slots:=sl }
 free:∀b o,h.get? b=some o->H b=none->b∉ex->H' b=none
 there:∀b o,h.get? b=some o->b∉ex->∃o',h'.get? b=some o'
 tups:∀b xs,H b=some (.tup xs)->H' b=some (.tup xs)
 frzs:∀b o u,H b=some (.frz o u)->H' b=some (.frz o u)
 tbls:∀b ps,H b=some (.tbl ps)->∃more,H' b=some (.tbl (ps++more))
section
variable {fs fs' ex ex':List Addr}{H H1 H2:Hp}{h h1 h2 h':Heap}{a x e:Addr}{o:HO}
theorem Un.any(u:Un fs ex H H1 h h1)(q:h.get? b=some ob)(n:H b=none)(hx:b∉ex):∃sl,h1.get? b=some { ob with slots:=sl }:=by
 by_cases hb:b∈fs
 .exact u.slot b ob q n hb hx
 .exact⟨ob.slots,u.keep b ob q n hb hx⟩
theorem Un.trans(a:Un fs ex H H1 h h1)(b:Un fs ex H1 H2 h1 h2):Un fs ex H H2 h h2 where
 keep:=λc ob q n hc hx=>b.keep c ob (a.keep c ob q n hc hx) (a.free c ob q n hx) hc hx
 slot:=λc ob q n hc hx=>by
  obtain⟨sl,e1⟩:=a.slot c ob q n hc hx;obtain⟨sl',e2⟩:=b.slot c _ e1 (a.free c ob q n hx) hc hx;exact⟨sl',e2⟩
 free:=λc ob q n hx=>by
  obtain⟨o',e1⟩:=a.there c ob q hx;exact b.free c o' e1 (a.free c ob q n hx) hx
 there:=λc ob q hx=>by
  obtain⟨o',e1⟩:=a.there c ob q hx;exact b.there c o' e1 hx
 tups:=λc xs q=>b.tups c xs (a.tups c xs q)
 frzs:=λc ob xs q=>b.frzs c ob xs (a.frzs c ob xs q)
 tbls:=λc ps q=>by
  obtain⟨m1,e1⟩:=a.tbls c ps q;obtain⟨m2,e2⟩:=b.tbls c _ e1;exact⟨m1++m2,by rw[e2,Xz]⟩
theorem Un.kept(k:∀b u,h.get? b=some u->h'.get? b=some u):Un fs ex H H h h' :=
 ⟨λb ob q _ _ _=>k b ob q,λb ob q _ _ _=>⟨ob.slots,k b ob q⟩,λ_ _ _ n _=>n,λb ob q _=>⟨ob,k b ob q⟩,λ_ _ q=>q,λ_ _ _ q=>q,λ_ ps q=>⟨#[],by rw[q];simp⟩⟩
theorem Un.refl:Un fs ex H H h h:=Un.kept λ_ _ q=>q
theorem Un.laid(k:∀b u,h.get? b=some u->h'.get? b=some u)(hp:h.objs.size<=a)(hn:H a=none):Un fs ex H (upd H a o) h h' where
 keep:=λb u q _ _ _=>k b u q
 slot:=λb u q _ _ _=>⟨u.slots,k b u q⟩
 free:=λb u q n _=>by rw[aq (U4 (Uy (UJ q) hp))];exact n
 there:=λb u q _=>⟨u,k b u q⟩
 tups:=λb xs q=>by rw[aq (aY q hn)];exact q
 frzs:=λb u xs q=>by rw[aq (aY q hn)];exact q
 tbls:=λb ps q=>⟨#[],by rw[aq (aY q hn),q];simp⟩
theorem Un.write(mu:OZ (H x))(he:e=x∨H e=some (.own x))(k:∀b u,b≠e->h.get? b=some u->h'.get? b=some u)(heo:∃u,h'.get? e=some u):Un fs ex H (upd H x o) h h':=by
 have hx:∀b,H b=none->b≠x:=λb n z=>by subst z;rw[n] at mu;exact mu
 have hb:∀b,H b=none->b≠e:=λb n z=>by
  subst z;rcases he with r|r
  .exact hx b n r
  .rw[n] at r;cases r
 have hm:∀b u,H b=some u->¬OZ (some u)->b≠x:=λb u q nm z=>by subst z;rw[q] at mu;exact nm mu
 refine⟨λb u q n _ _=>k b u (hb b n) q,λb u q n _ _=>⟨u.slots,k b u (hb b n) q⟩,λb u q n _=>by rw[aq (hx b n)];exact n,λb u q _=>?_,
  λb xs q=>by rw[aq (hm b _ q λz=>z)];exact q,λb u xs q=>by rw[aq (hm b _ q λz=>z)];exact q,λb ps q=>⟨#[],by rw[aq (hm b _ q λz=>z),q];simp⟩⟩
 by_cases hbe:b=e
 .subst hbe;exact heo
 .exact⟨u,k b u hbe q⟩
end
noncomputable def RI(h:Heap) (H:Hp):List Addr:=(VO h.objs.size).filter λa=>(H a).isSome
noncomputable def xW(h:Heap) (H:Hp):Heap:=Xn h (RI h H)
theorem FD(h:Heap)(H:Hp):(xW h H).objs.size=h.objs.size:=W.hideAll_size _ _
theorem Im{h:Heap}(e:h.get? b=some o)(n:H b=none):(xW h H).get? b=some o :=
 Yd _ e λhm=>by
  have q:(H b).isSome=true:=(List.mem_filter.mp hm).2;rw[n] at q;simp at q
theorem K2{h:Heap}(e:(xW h H).get? b=some o):h.get? b=some o/\H b=none:=by
 have e':h.get? b=some o:=XA (RI h H) e;refine⟨e',?_⟩;cases q:H b with
 |none=>rfl
 |some x =>
  have hm:b∈RI h H:=List.mem_filter.mpr ⟨List.mem_range.mpr (UJ e'),by simp [q]⟩;have z:(xW h H).get? b=none:=W.hideAll_none (RI h H) hm;rw[z] at e;cases e
structure Mod (K:Up) (mg:Str->Option Value) (base:Heap):Prop where
 kin:K.In base
 glob:base.Ns mainGlobals mg
 blt:∃mb,base.Ns builtinsNs mb/\∀x:Str,x≠"__name__"->mb x=bootBuiltins x
 nolimit:base.NoLimit
 sm:∃mm,base.Ns sysModules mm
structure Cx where
 prog:Program
 w:World
 K:Up
 mg:Str->Option Value
 base:Heap
 A:Around
 N:List Str
 sf:Shared
 Ha:Hp
 env:Env
 outer:List Env
 stack:List Env
 ex:List Addr
 fn:Str->Bool
 calm:Bool
 pn:List (Addr×Obj)
 xe:Value->Shared->Prop
noncomputable def gZ(l:List Env):List Addr:=l.filterMap (·.frame)
noncomputable abbrev Cx.fs(X:Cx):List Addr:=gZ X.outer
noncomputable def AZ(sc:Scope) (x:Str):Prop:=sc.names.lookup x=some .local ∨ sc.names.lookup x=some .cell∨sc.names.lookup x=some .free
noncomputable def Gg(sc:Scope) (x:Str):Prop:=sc.names.lookup x=some .local ∨ sc.names.lookup x=some .cell
noncomputable def RB(env:Env) (h:Heap) (m:Str->Option Value) (x:Str) (u:Value):Prop :=
 (env.kindOf x=some .local /\ m x=some u)∨((env.kindOf x=some .cell∨env.kindOf x=some .free)/\∃c,env.cells.lookup x=some c/\h.IsCell c (some u))
structure Cx.Ok (X:Cx):Prop where
 mod:Mod X.K X.mg X.base
 kind:X.env.scope.kind=.function
 glob:X.env.globals=mainGlobals
 blt:X.env.builtins=builtinsNs
 above:X.sf.heap.objs.size<=X.env.locals
 inj:∀x y c,X.env.cells.lookup x=some c->X.env.cells.lookup y=some c->x=y
 has:∀x,(X.env.kindOf x=some .cell∨X.env.kindOf x=some .free)->∃c,X.env.cells.lookup x=some c
 cab:∀x c,X.fn x=true->X.env.cells.lookup x=some c->X.sf.heap.objs.size<=c
 hd:X.calm=true->X.A.handled=none
 frames:X.A.frames=some X.stack
 stk:X.stack=X.outer∨(X.stack=X.env::X.outer/\X.env.frame=some X.env.locals)
 exf:∀b∈X.ex,b≠X.env.locals/\∀x c,X.env.cells.lookup x=some c->c≠b
 bs:∀b o,X.base.get? b=some o->X.sf.heap.get? b=some o/\X.Ha b=none
 bsz:X.base.objs.size<=X.sf.heap.objs.size
 noex:∀b o,X.base.get? b=some o->b∉X.ex
 exfs:∀b∈X.ex,b∉X.fs
 funs:X.sf.heap.FunFrames X.base X.outer
 frf:∀b∈X.fs,X.Ha b=none
structure Inv (X:Cx) (pins:List (Addr×Obj)) (σ:List (Option V)) (H:Hp) (s:Shared):Prop where
 ok:X.Ok
 os:s.os=X.sf.os
 bare:AllBare s.gens
 base:Un X.fs X.ex X.Ha H X.sf.heap s.heap
 loc:∃m,s.heap.Ns X.env.locals m/\∀(i:Nat) (x:Str) (v:V),X.N[i]?=some x->σ[i]?=some (some v)->AZ X.env.scope x->∃u,bu v u/\RB X.env s.heap m x u
 cell:∀x c,X.env.cells.lookup x=some c->∃v,s.heap.IsCell c v
 free:H X.env.locals=none
 freeC:∀x c,X.env.cells.lookup x=some c->H c=none
 pin:∀p∈X.pn++pins,s.heap.get? p.1=some p.2/\H p.1=none/\p.1≠X.env.locals/\p.1∉X.fs/\∀v,p.2.data≠.cell v
 hok:fP X.prog X.w H s.heap
 len:σ.length=X.N.length
section
variable {X:Cx}{pins:List (Addr×Obj)}{σ:List (Option V)}{H H':Hp}{s:Shared}{h':Heap}
theorem Cx.Ok.nofr(ok:X.Ok)(e:X.base.get? b=some o):b∉X.fs:=λhb=>by
 have:=(ok.funs.mem hb).1;rw[e] at this;cases this
theorem Inv.bs(I:Inv X pins σ H s):∀b o,X.base.get? b=some o->s.heap.get? b=some o/\H b=none:=λb o e =>
 ⟨I.base.keep b o (I.ok.bs b o e).1 (I.ok.bs b o e).2 (I.ok.nofr e) (I.ok.noex b o e),I.base.free b o (I.ok.bs b o e).1 (I.ok.bs b o e).2 (I.ok.noex b o e)⟩
theorem Inv.bk(I:Inv X pins σ H s):∀b o,X.base.get? b=some o->s.heap.get? b=some o:=λb o e=>(I.bs b o e).1
theorem Inv.mod(I:Inv X pins σ H s):Mod X.K X.mg X.base:=I.ok.mod
theorem Inv.kIn(I:Inv X pins σ H s):X.K.In s.heap:=I.ok.mod.kin.keeps I.bk
theorem Inv.lt(I:Inv X pins σ H s):X.env.locals<s.heap.objs.size:=let ⟨_,hn,_⟩:=I.loc;hn.lt
theorem Inv.sz(I:Inv X pins σ H s):X.sf.heap.objs.size<=s.heap.objs.size:=UO I.ok.above (WV I.lt)
theorem Inv.nofs(I:Inv X pins σ H s)(h:s.heap.objs.size<=a):a∉X.fs:=λhb=>by
 obtain⟨_,o,ho,_⟩:=I.ok.funs.mem hb;exact absurd (Uy (UJ ho) (UO I.sz h)) (Wr _)
theorem Inv.cne(I:Inv X pins σ H s):∀x c,X.env.cells.lookup x=some c->c≠X.env.locals:=λx c e z=>by
 obtain⟨v,o,ho,hd⟩:=I.cell x c e;obtain⟨m,⟨o',es,ep,ho',hd',_⟩,_⟩:=I.loc;rw[z,ho'] at ho;cases ho;rw[hd'] at hd;cases hd
theorem Inv.funs(I:Inv X pins σ H s):s.heap.FunFrames X.base X.outer:=by
 have all:∀(l:List Env),(∀b∈gZ l,b∈X.fs)->X.sf.heap.FunFrames X.base l->s.heap.FunFrames X.base l:=by
  intro l
  induction l with
  |nil=>intro _ _;trivial
  |cons env r ih =>
   intro hs hl;obtain⟨hk,⟨L,o,hf,hn,ho,hd⟩,hr⟩:=hl;have hL:L∈X.fs:=hs L (by unfold gZ;rw[Wq,hf];exact UM);obtain⟨sl,e⟩:=I.base.slot L o ho (I.ok.frf L hL) hL λz=>I.ok.exfs L z hL;exact⟨hk,⟨L,_,hf,hn,e,hd⟩,ih (λb hb=>hs b (by unfold gZ;rw[Wq,hf];exact Uu _ hb)) hr⟩
 exact all X.outer (λ_ hb=>hb) I.ok.funs
theorem Inv.stack(I:Inv X pins σ H s):s.heap.FunFrames X.base X.stack:=by
 rcases I.ok.stk with e|⟨e,hf⟩
 .rw[e];exact I.funs
 .rw[e]
  obtain⟨m,hn,_⟩:=I.loc;refine .cons (by rw[I.ok.kind];decide) hf hn ?_ I.funs;exact WO (UO I.ok.bsz I.ok.above)
theorem Inv.stkSub(I:Inv X pins σ H s):∀b∈gZ X.stack,b∈X.env.locals::X.fs:=λb hb=>by
 rcases I.ok.stk with e|⟨e,hf⟩
 .rw[e] at hb;exact Uu _ hb
 .rw[e] at hb
  unfold gZ at hb;rw[Wq,hf] at hb;exact hb
theorem Inv.stkFree(I:Inv X pins σ H s):∀b∈gZ X.stack,H b=none:=λb hb=>by
 rcases Uv.mp (I.stkSub b hb) with e|hb
 .rw[e];exact I.free
 .obtain⟨_,o,ho,_⟩:=I.ok.funs.mem hb
  exact I.base.free b o ho (I.ok.frf b hb) λz=>I.ok.exfs b z hb
theorem Inv.step{ch:List Addr}(I:Inv X pins σ H s)
  (hch:∀b∈ch,(b∈X.ex∨X.sf.heap.objs.size<=b)/\b≠X.env.locals/\(∀x c,X.env.cells.lookup x=some c->c≠b)/\∀p∈X.pn++pins,p.1≠b)
  (keep:∀b o,b≠X.env.locals->b∉X.fs->b∉ch->s.heap.get? b=some o->H b=none->h'.get? b=some o)
  (slot:∀b o,b≠X.env.locals->b∈X.fs->b∉ch->s.heap.get? b=some o->H b=none->∃sl,h'.get? b=some { o with slots:=sl })(free:∀b o,b∉ch->s.heap.get? b=some o->H b=none->H' b=none)
  (there:∀b o,b∉ch->s.heap.get? b=some o->∃o',h'.get? b=some o')
  (tups:∀b xs,H b=some (.tup xs)->H' b=some (.tup xs))(frzs:∀b o u,H b=some (.frz o u)->H' b=some (.frz o u))(tbls:∀b ps,H b=some (.tbl ps)->∃more,H' b=some (.tbl (ps++more)))
  (ns:∀m,s.heap.Ns X.env.locals m->h'.Ns X.env.locals m)(hok:fP X.prog X.w H' h')(hg:AllBare g') :
  Inv X pins σ H' { s with heap:=h',gens:=g',drawn:=d',toks:=t' }:=by
 have neL:∀b o,X.sf.heap.get? b=some o->b≠X.env.locals:=λb o e=>U4 (Uy (UJ e) I.ok.above);have neC:∀b o,X.sf.heap.get? b=some o->b∉X.ex->b∉ch:=λb o e hx hb=>by
  rcases(hch b hb).1 with z|z
  .exact hx z
  .exact absurd (Uy (UJ e) z) (Wr _)
 have cellK:∀x c,X.env.cells.lookup x=some c->∀v,s.heap.IsCell c v->h'.IsCell c v:=λx c e v ⟨o,ho,hd⟩=>by
  have nch:c∉ch:=λz=>(hch c z).2.2.1 x c e rfl
  by_cases hc:c∈X.fs
  .obtain⟨sl,q⟩:=slot c o (I.cne x c e) hc nch ho (I.freeC x c e)
   exact⟨_,q,hd⟩
  .exact⟨o,keep c o (I.cne x c e) hc nch ho (I.freeC x c e),hd⟩
 refine⟨I.ok,I.os,hg,⟨λb o e n hb hx=>?_,λb o e n hb hx=>?_,λb o e n hx=>?_,λb o e hx=>?_,λb xs e=>tups b xs (I.base.tups b xs e),λb o xs e=>frzs b o xs (I.base.frzs b o xs e),λb ps e=>?_⟩,?_,λx c e=>?_,?_,λx c e=>?_,λp hp=>?_,hok,I.len⟩
 .exact keep b o (neL b o e) hb (neC b o e hx) (I.base.keep b o e n hb hx) (I.base.free b o e n hx)
 .obtain⟨sl,e1⟩:=I.base.slot b o e n hb hx
  obtain⟨sl',e2⟩:=slot b _ (neL b o e) hb (neC b o e hx) e1 (I.base.free b o e n hx);exact⟨sl',e2⟩
 .obtain⟨o',e1⟩:=I.base.there b o e hx
  exact free b o' (neC b o e hx) e1 (I.base.free b o e n hx)
 .obtain⟨o',e1⟩:=I.base.there b o e hx
  exact there b o' (neC b o e hx) e1
 .obtain⟨m1,e1⟩:=I.base.tbls b ps e
  obtain⟨m2,e2⟩:=tbls b _ e1;exact⟨m1++m2,by rw[e2,Xz]⟩
 .obtain⟨m,hn,hl⟩:=I.loc
  refine⟨m,ns m hn,λi x v e1 e2 e3=>?_⟩;obtain⟨u,r,l⟩:=hl i x v e1 e2 e3;refine⟨u,r,?_⟩;rcases l with l|⟨k,c,e,z⟩
  .exact .inl l
  .exact .inr ⟨k,c,e,cellK x c e _ z⟩
 .obtain⟨v,z⟩:=I.cell x c e
  exact⟨v,cellK x c e v z⟩
 .obtain⟨m,⟨o,_,_,ho,_⟩,_⟩:=I.loc
  exact free _ o (λz=>(hch _ z).2.1 rfl) ho I.free
 .obtain⟨v,o,ho,hd⟩:=I.cell x c e
  exact free c o (λz=>(hch c z).2.2.1 x c e rfl) ho (I.freeC x c e)
 .obtain⟨e,n,ne,nf,d⟩:=I.pin p hp
  have nch:p.1∉ch:=λz=>(hch p.1 z).2.2.2 p hp rfl;exact⟨keep p.1 p.2 ne nf nch e n,free p.1 p.2 nch e n,ne,nf,d⟩
theorem Inv.un(I:Inv X pins σ H s)(u:Un X.fs [] H H' s.heap h')(hok:fP X.prog X.w H' h'):Inv X pins σ H' { s with heap:=h',toks:=t' }:=by
 obtain⟨m,⟨o,es,ep,ho,r⟩,_⟩:=id I.loc;obtain⟨sl,hL⟩:=u.any ho I.free (by simp);exact I.step (g':=s.gens) (d':=s.drawn) (ch:=[]) (λ_ z=>nomatch z) (λb o _ hb _ e n=>u.keep b o e n hb (by simp)) (λb o _ hb _ e n=>u.slot b o e n hb (by simp)) (λb o _ e n=>u.free b o e n (by simp)) (λb o _ e=>u.there b o e (by simp)) u.tups u.frzs u.tbls (λm' hm=>by
  obtain⟨o',es',ep',ho',r'⟩:=hm;rw[ho] at ho';cases ho';exact⟨_,es',ep',hL,r'⟩) hok I.bare
theorem Inv.call(I:Inv X pins σ H s)(u:Un (gZ X.stack) ch H H' s.heap h')(hok:fP X.prog X.w H' h')(hg:AllBare g')
  (hch:∀b∈ch,(b∈X.ex∨X.sf.heap.objs.size<=b)/\b≠X.env.locals/\(∀x c,X.env.cells.lookup x=some c->c≠b)/\∀p∈X.pn++pins,p.1≠b) :
  Inv X pins σ H' { s with heap:=h',gens:=g',drawn:=d',toks:=t' }:=by
 obtain⟨m,⟨o,es,ep,ho,r⟩,_⟩:=id I.loc;obtain⟨sl,hL⟩:=u.any ho I.free λz=>(hch _ z).2.1 rfl;exact I.step (ch:=ch) hch (λb o hL hb hc e n=>u.keep b o e n (λz=>(Uv.mp (I.stkSub b z)).elim hL hb) hc) (λb o _ _ hc e n=>u.any e n hc) (λb o hc e n=>u.free b o e n hc) (λb o hc e=>u.there b o e hc) u.tups u.frzs u.tbls (λm' hm=>by
  obtain⟨o',es',ep',ho',r'⟩:=hm;rw[ho] at ho';cases ho';exact⟨_,es',ep',hL,r'⟩) hok hg
theorem Inv.turned(I:Inv X pins σ H s)(k:∀b o,b≠it->s.heap.get? b=some o->h'.get? b=some o)(hn:H it=none)(hL:it≠X.env.locals)
  (h1:it∈X.ex∨X.sf.heap.objs.size<=it)(h2:∀x c,X.env.cells.lookup x=some c->c≠it)(h3:∀p∈X.pn++pins,p.1≠it):Inv X pins σ H { s with heap:=h',toks:=t' }:=by
 have nit:∀b u,H b=some u->b≠it:=λb u e z=>by rw[z,hn] at e;cases e
 refine I.step (g':=s.gens) (d':=s.drawn) (ch:=[it]) (λb hb=>?_) (λb o _ _ hc e _=>k b o (λz=>hc (by simp [z])) e) (λb o _ _ hc e _=>⟨o.slots,k b o (λz=>hc (by simp [z])) e⟩) (λ_ _ _ _ n=>n)
  (λb o hc e=>⟨o,k b o (λz=>hc (by simp [z])) e⟩) (λ_ _ e=>e) (λ_ _ _ e=>e) (λb ps e=>⟨#[],by rw[e];simp⟩) (λm hm=>?_) (λb u e=>?_) I.bare
 .have e:b=it:=by simpa using hb
  subst e;exact⟨h1,hL,h2,h3⟩
 .obtain⟨o,es,ep,ho,r⟩:=hm
  exact⟨o,es,ep,k _ o (U5 hL) ho,r⟩
 .refine(I.hok b u e).stay (λc v hc q=>k c v ?_ q) (λ_ q=>q) λ_ _ q=>q
  rcases hc with z|z
  .rw[z];exact nit b u e
  .exact nit c _ z
theorem Inv.tok(I:Inv X pins σ H s)(t:Nat):Inv X pins σ H { s with toks:=t }:=I.un (h':=s.heap) (t':=t) Un.refl I.hok
theorem Inv.kept(I:Inv X pins σ H s)(k:∀b u,s.heap.get? b=some u->h'.get? b=some u):Inv X pins σ H { s with heap:=h',toks:=t' }:=I.un (Un.kept k) (I.hok.kept k)
theorem Inv.laid(I:Inv X pins σ H s)(k:∀b u,s.heap.get? b=some u->h'.get? b=some u)(hp:s.heap.objs.size<=a)(new:bN X.prog X.w (upd H a o) h' a o) :
  Inv X pins σ (upd H a o) { s with heap:=h',toks:=t' }:=I.un (Un.laid k hp (I.hok.fresh hp)) (I.hok.laid k hp new)
theorem Inv.write(I:Inv X pins σ H s)(mu:OZ (H x))(he:e=x∨H e=some (.own x))(k:∀b u,b≠e->s.heap.get? b=some u->h'.get? b=some u)(heo:∃u,h'.get? e=some u)
  (new:bN X.prog X.w (upd H x o) h' x o):Inv X pins σ (upd H x o) { s with heap:=h',toks:=t' }:=I.un (Un.write mu he k heo) (I.hok.write mu he k heo new)
theorem Inv.pins_of(I:Inv X pins σ H s)(h:∀p∈pins',s.heap.get? p.1=some p.2/\H p.1=none/\p.1≠X.env.locals/\p.1∉X.fs/\∀v,p.2.data≠.cell v):Inv X pins' σ H s :=
 ⟨I.ok,I.os,I.bare,I.base,I.loc,I.cell,I.free,I.freeC,λp hp=>(Ve.mp hp).elim (λz=>I.pin p (Xj _ z)) (h p),I.hok,I.len⟩
theorem rV{N:List Str}(hN:N.Nodup){i j:Nat}(a:N[i]?=some x)(b:N[j]?=some x):i=j:=by
 obtain⟨h1,e1⟩:=Uw.mp a;obtain⟨h2,e2⟩:=Uw.mp b;exact(List.getElem_inj hN).mp (e1.trans e2.symm)
theorem oC(I:Inv X pins σ H s)(hN:X.N.Nodup)(hi:X.N[i]?=some x)(hx:Gg X.env.scope x)(r:bu v u)
  (h:∀s',Inv X pins (σ.set i (some v)) H s'->(∃a,WI a s.heap s'.heap/\(a=X.env.locals∨X.env.cells.lookup x=some a))->Q () s')(hf:X.fn x=true∨X.env.scope.names.lookup x=some .local := by first|exact .inl rfl|exact .inr rfl|assumption):wpAny M A (storeName X.env x u) Q E s:=by
 obtain⟨m,hn,hl⟩:=id I.loc;have hcls:(X.env.scope.kind==.class||(X.env.scope.kind==.module&&X.env.locals != X.env.globals))=false:=by rw[I.ok.kind];rfl
 have hiσ:i<σ.length:=by rw[I.len];exact(Uw.mp hi).1
 have cne:=I.cne;have tracked:∀{a:Addr}{h':Heap},(∃o,s.heap.get? a=some o/\H a=none)->WI a s.heap h'->fP X.prog X.w H h':=λ{a h'} ha hs b ob e=>by
  obtain⟨_,_,hfree⟩:=ha;refine(I.hok b ob e).stay (λc w' hc q=>(hs.2 c ?_).trans q) (λ_ q=>q) λ_ _ q=>q;rintro rfl;rcases hc with rfl|hc
  .rw[hfree] at e;cases e
  .rw[hfree] at hc;cases hc
 rcases hx with hk|hk
 .refine wpAny_storeName_local hk hn (λh' hn' hs=>?_) hcls
  obtain⟨oL,_,_,hoL,_⟩:=id hn;refine h _ ⟨I.ok,I.os,I.bare,⟨λb o e n hb hx=>?_,λb o e n hb hx=>?_,I.base.free,λb o e hx=>?_,I.base.tups,I.base.frzs,I.base.tbls⟩,⟨_,hn',λj y v' e1 e2 e3=>?_⟩,λy c e=>?_,I.free,I.freeC,λp hp=>?_,tracked ⟨oL,hoL,I.free⟩ hs,by simpa using I.len⟩ ⟨_,hs,.inl rfl⟩
  .exact(hs.2 b (U4 (Uy (UJ e) I.ok.above))).trans (I.base.keep b o e n hb hx)
  .obtain⟨sl,e1⟩:=I.base.slot b o e n hb hx
   exact⟨sl,(hs.2 b (U4 (Uy (UJ e) I.ok.above))).trans e1⟩
  .obtain⟨o',e1⟩:=I.base.there b o e hx
   exact⟨o',(hs.2 b (U4 (Uy (UJ e) I.ok.above))).trans e1⟩
  .by_cases hj:j=i
   .subst hj
    rw[hi] at e1;cases e1;rw[UQ hiσ] at e2;cases e2;exact⟨u,r,.inl ⟨hk,by simp⟩⟩
   .rw[Us (U5 hj)] at e2
    obtain⟨u',r',q⟩:=hl j y v' e1 e2 e3;refine⟨u',r',?_⟩;rcases q with⟨k,e⟩|⟨k,c,e,z⟩
    .refine .inl ⟨k,?_⟩
     have:y≠x:=λe=>hj (rV hN e1 (e▸hi));simp [this,e]
    .exact .inr ⟨k,c,e,z.sameBut hs (cne y c e)⟩
  .obtain⟨w',z⟩:=I.cell y c e
   exact⟨w',z.sameBut hs (cne y c e)⟩
  .obtain⟨e,n,ne,nf,d⟩:=I.pin p hp
   exact⟨(hs.2 p.1 ne).trans e,n,ne,nf,d⟩
 .have hfn:X.fn x=true:=by
   rcases hf with z|z
   .exact z
   .rw[z] at hk;cases hk
  obtain⟨c,hc⟩:=I.ok.has x (.inl hk);obtain⟨w',z⟩:=I.cell x c hc;refine wpAny_storeName_cell I.ok.kind hk hc z (λh' hc' hs=>?_);obtain⟨oc,hoc,hocd⟩:=id z;refine h { s with heap:=h' } ⟨I.ok,I.os,I.bare,⟨λb o e n hb hx=>?_,λb o e n hb hx=>?_,I.base.free,λb o e hx=>?_,I.base.tups,I.base.frzs,I.base.tbls⟩,⟨m,hn.sameBut hs (U5 (cne x c hc)),λj y v' e1 e2 e3=>?_⟩,λy c' e=>?_,I.free,I.freeC,λp hp=>?_,tracked ⟨oc,hoc,I.freeC x c hc⟩ hs,by simpa using I.len⟩ ⟨c,hs,.inr hc⟩
  .exact(hs.2 b (U4 (Uy (UJ e) (I.ok.cab x c hfn hc)))).trans (I.base.keep b o e n hb hx)
  .obtain⟨sl,e1⟩:=I.base.slot b o e n hb hx
   exact⟨sl,(hs.2 b (U4 (Uy (UJ e) (I.ok.cab x c hfn hc)))).trans e1⟩
  .obtain⟨o',e1⟩:=I.base.there b o e hx
   exact⟨o',(hs.2 b (U4 (Uy (UJ e) (I.ok.cab x c hfn hc)))).trans e1⟩
  .by_cases hj:j=i
   .subst hj
    rw[hi] at e1;cases e1;rw[UQ hiσ] at e2;cases e2;exact⟨u,r,.inr ⟨.inl hk,c,hc,hc'⟩⟩
   .rw[Us (U5 hj)] at e2
    obtain⟨u',r',q⟩:=hl j y v' e1 e2 e3;refine⟨u',r',?_⟩;rcases q with q|⟨k,c',e,z'⟩
    .exact .inl q
    .refine .inr ⟨k,c',e,z'.sameBut hs ?_⟩
     rintro rfl;exact hj (rV hN e1 (I.ok.inj _ _ _ e hc▸hi))
  .by_cases hcc:c'=c
   .subst hcc;exact⟨_,hc'⟩
   .obtain⟨w2,z2⟩:=I.cell y c' e
    exact⟨w2,z2.sameBut hs hcc⟩
  .obtain⟨e,n,ne,nf,d⟩:=I.pin p hp
   refine⟨(hs.2 p.1 ?_).trans e,n,ne,nf,d⟩;intro q;rw[q,hoc] at e;have q':oc=p.2:=U8 e;exact d w' (by rw[←q'];exact hocd)
theorem jR(I:Inv X pins σ H s)(hN:X.N.Nodup)(hi:X.N[i]?=some x)(hx:Gg X.env.scope x)(r:bu v u)
  (h:∀s',Inv X pins (σ.set i (some v)) H s'->Q () s')(hf:X.fn x=true∨X.env.scope.names.lookup x=some .local := by first|exact .inl rfl|exact .inr rfl|assumption):wpAny M A (storeName X.env x u) Q E s :=
 oC I hN hi hx r (λs' I' _=>h s' I') hf
theorem Inv.call'(I:Inv X pins σ H s)(ho:s'.os=s.os)(u:Un (gZ X.stack) ch H H' s.heap s'.heap)(hok:fP X.prog X.w H' s'.heap)(hg:AllBare s'.gens)
  (hch:∀b∈ch,(b∈X.ex∨X.sf.heap.objs.size<=b)/\b≠X.env.locals/\(∀x c,X.env.cells.lookup x=some c->c≠b)/\∀p∈X.pn++pins,p.1≠b):Inv X pins σ H' s':=by
 obtain⟨h',g',d',t',o'⟩:=s';have e:o'=s.os:=ho;subst e;exact I.call (g':=g') (t':=t') (d':=d') u hok hg hch
end
noncomputable abbrev XK:=Value->Option Addr->Hp->Prop
noncomputable abbrev St:=List (Option V)
noncomputable abbrev VK:=V->Hp->Prop
noncomputable abbrev TE:=St->Hp->VK->Prop
noncomputable abbrev TT:=St->Hp->(Bool->Hp->Prop)->Prop
noncomputable abbrev TA:=St->Hp->(List V->Hp->Prop)->Prop
structure iY where
 nx:St->Hp->Prop
 rt:VK
 bk:St->Hp->Prop:=λ_ _=>False
 ct:St->Hp->Prop:=λ_ _=>False
noncomputable abbrev TS:=iY->St->Hp->Prop
noncomputable def EP(X:Cx) (pins:List (Addr×Obj)) (σ:St) (Q:VK) (u:Value) (s':Shared):Prop:=∃v H',Inv X pins σ H' s'/\bu v u/\Q v H'
noncomputable def TP(X:Cx) (pins:List (Addr×Obj)) (σ:St) (Q:Bool->Hp->Prop) (b:Bool) (s':Shared):Prop:=∃H',Inv X pins σ H' s'/\Q b H'
noncomputable def AP(X:Cx) (pins:List (Addr×Obj)) (σ:St) (Q:List V->Hp->Prop) (us:List Value) (s':Shared):Prop:=∃vs H',Inv X pins σ H' s'/\bH vs us/\Q vs H'
noncomputable def SP(X:Cx) (pins:List (Addr×Obj)) (D:iY) (f:Flow) (s':Shared):Prop :=
 match f with
 |.next=>∃σ' H',Inv X pins σ' H' s'/\D.nx σ' H'
 |.brk=>∃σ' H',Inv X pins σ' H' s'/\D.bk σ' H'
 |.cont=>∃σ' H',Inv X pins σ' H' s'/\D.ct σ' H'
 |.ret u=>∃v σ' H',Inv X pins σ' H' s'/\bu v u/\D.rt v H'
noncomputable def PE(X:Cx) (e:Expr) (t:TE):Prop :=
 ∀(pins:List (Addr×Obj)) (s:Shared) (σ:St) (H:Hp) (Q:VK),Inv X pins σ H s->t σ H Q->wpAny (model X.prog X.w) X.A (eval e X.env) (EP X pins σ Q) X.xe s
noncomputable def PT(X:Cx) (e:Expr) (t:TT):Prop :=
 ∀(pins:List (Addr×Obj)) (s:Shared) (σ:St) (H:Hp) (Q:Bool->Hp->Prop),Inv X pins σ H s->t σ H Q->wpAny (model X.prog X.w) X.A (isTrue e X.env (eval e X.env)) (TP X pins σ Q) X.xe s
noncomputable def PW(X:Cx) (e:Expr) (t:TT):Prop :=
 ∀(whole:Sem Value) (pins:List (Addr×Obj)) (s:Shared) (σ:St) (H:Hp) (Q:Bool->Hp->Prop),Inv X pins σ H s->t σ H Q->wpAny (model X.prog X.w) X.A (isTrue e X.env whole) (TP X pins σ Q) X.xe s
theorem PW.pt(h:PW X e t):PT X e t:=h _
noncomputable def PA(X:Cx) (es:List Expr) (t:TA):Prop :=
 ∀(pos:Pos) (pins:List (Addr×Obj)) (s:Shared) (σ:St) (H:Hp) (Q:List V->Hp->Prop),Inv X pins σ H s->t σ H Q->wpAny (model X.prog X.w) X.A (spliced (backTo pos (starEach es X.env))) (AP X pins σ Q) X.xe s
noncomputable def PS(X:Cx) (st:Stmt) (t:TS):Prop :=
 ∀(pins:List (Addr×Obj)) (s:Shared) (σ:St) (H:Hp) (D:iY),Inv X pins σ H s->t D σ H->wpAny (model X.prog X.w) X.A (exec st X.env) (SP X pins D) X.xe s
noncomputable def wJ(X:Cx) (st:List Stmt) (t:TS):Prop :=
 ∀(pins:List (Addr×Obj)) (s:Shared) (σ:St) (H:Hp) (D:iY),Inv X pins σ H s->t D σ H->wpAny (model X.prog X.w) X.A (execs st X.env) (SP X pins D) X.xe s
theorem cj{Q Q':α->Shared->Prop}(h:wpAny M A t Q E s)(hQ:∀a s,Q a s->Q' a s):wpAny M A t Q' E s:=Vh h hQ λ_ _ x=>x
section
variable {X:Cx}
theorem Uo(ha:PE X a ta)(hb:PE X b tb){R:V->V->Hp->Prop}(I:Inv X pins σ H s)(h:ta σ H λx H1=>tb σ H1 λy H2=>R x y H2)
  {f:Value->Value->Sem α}
  (hf:∀v u s2 x y H2,Inv X pins σ H2 s2->bu x v->bu y u->R x y H2->wpAny (model X.prog X.w) X.A (f v u) Q X.xe s2) :
  wpAny (model X.prog X.w) X.A (eval a X.env) (λv sg=>wpAny (model X.prog X.w) X.A (eval b X.env) (λu si=>wpAny (model X.prog X.w) X.A (f v u) Q X.xe si) X.xe sg) X.xe s:=by
 refine cj (ha pins s σ H _ I h) λv s1 ⟨x,H1,I1,r1,q1⟩=>?_;refine cj (hb pins s1 σ H1 _ I1 q1) λu s2 ⟨y,H2,I2,r2,q2⟩=>?_;exact hf v u s2 x y H2 I2 r1 r2 q2
noncomputable def R6(i:Nat):TE:=λσ H Q=>∃v,σ[i]?=some (some v)/\Q v H
noncomputable def tC(v:V):TE:=λ_ H Q=>Q v H
theorem fR(hN:X.N[i]?=some x)(hv:AZ X.env.scope x)(hd:(x==("__debug__":Str))=false:=by decide)(hcd:(x==("__classdict__":Str))=false:=by decide):PE X (.Name x pos) (R6 i):=by
 intro pins s σ H Q I h;obtain⟨v,e,h⟩:=h;obtain⟨m,hn,hl⟩:=I.loc;obtain⟨u,r,l⟩:=hl i x v hN e hv;have fin:EP X pins σ Q u s:=⟨v,H,I,r,h⟩
 rcases l with⟨hk,hm⟩|⟨hk,c,hc,hcell⟩
 .exact wpAny_Name (wpAny_loadName_local I.ok.kind hk hn hm fin) hd
 .rcases hk with hk|hk
  .exact wpAny_Name (wpAny_loadName_cell I.ok.kind hk hc hcell fin) hd
  .exact wpAny_Name (wpAny_loadName_free I.ok.kind hk hc hcell fin hcd) hd
theorem NS{i j pos}:PE X (.Constant (.int i) j pos) (tC (.int i)):=λ_ _ _ H _ I h=>wpAny_Constant_int ⟨.int i,H,I.tok _,⟨_,rfl⟩,h⟩
theorem Qn{b j pos}:PE X (.Constant (.bool b) j pos) (tC (.bl b)):=λ_ _ _ H _ I h=>Constant_bool ⟨.bl b,H,I,rfl,h⟩
theorem NR{j pos}:PE X (.Constant .none j pos) (tC .non):=λ_ _ _ H _ I h=>Constant_none ⟨.non,H,I,rfl,h⟩
theorem NO{x j pos}:PE X (.Constant (.str x) j pos) (tC (.str x)):=λ_ _ _ H _ I h=>Calls.Constant_str ⟨.str x,H,I.tok _,⟨_,rfl⟩,h⟩
noncomputable def Gl(X:Cx) (x:Str):Prop:=X.env.kindOf x=some .globalImplicit
theorem jh(I:Inv X pins σ H s)(hg:Gl X x)(hm:X.mg x=some u)(h:Q u s)
  (hd:(x==("__debug__":Str))=false:=by decide):wpAny (model X.prog X.w) X.A (eval (.Name x pos) X.env) Q E s :=
 X9 I.ok.kind hg (Calls.loadGlobal_global (by rw[I.ok.glob];exact I.mod.glob.keeps I.bk) hm h) hd
theorem rZ(I:Inv X pins σ H s)(hg:Gl X x)(hm:X.mg x=none)(hv:bootBuiltins x=some u)(h:Q u s)
  (hn:x≠"__name__":=by decide)(hd:(x==("__debug__":Str))=false:=by decide):wpAny (model X.prog X.w) X.A (eval (.Name x pos) X.env) Q E s:=by
 obtain⟨mb,h1,h2⟩:=I.mod.blt;exact X9 I.ok.kind hg (Calls.loadGlobal_builtin (by rw[I.ok.glob];exact I.mod.glob.keeps I.bk) hm (by rw[I.ok.blt];exact h1.keeps I.bk) ((h2 x hn).trans hv) h) hd
theorem xq(hg:Gl X x)(hm:X.mg x=some u)(r:bu v u)(hd:(x==("__debug__":Str))=false:=by decide):PE X (.Name x pos) (tC v) :=
 λ_ _ _ H _ I h=>jh I hg hm ⟨v,H,I,r,h⟩ hd
theorem CO(hg:Gl X x)(hm:X.mg x=none)(hv:bootBuiltins x=some u)(r:bu v u)(hn:x≠"__name__":=by decide)(hd:(x==("__debug__":Str))=false:=by decide):PE X (.Name x pos) (tC v) :=
 λ_ _ _ H _ I h=>rZ I hg hm hv ⟨v,H,I,r,h⟩ hn hd
variable {a b:Expr}{ta tb:TE}{pos:Pos}
noncomputable def PC(X:Cx) (op:CmpOp) (a b:Expr) (t:TE):Prop :=
 ∀(pins:List (Addr×Obj)) (s:Shared) (σ:St) (H:Hp) (Q:VK),Inv X pins σ H s->t σ H Q ->
  wpAny (model X.prog X.w) X.A (eval a X.env) (λv sg=>wpAny (model X.prog X.w) X.A (eval b X.env) (λu si=>wpAny (model X.prog X.w) X.A (compareOp op v u) (EP X pins σ Q) X.xe si) X.xe sg) X.xe s
theorem zI(b:Expr)(h:op≠.In)(h2:op≠.NotIn):behindInMarks op b=false:=by
 have e1:(op==CmpOp.In)=false:=by cases op<;>first|rfl|exact absurd rfl h
 have e2:(op==CmpOp.NotIn)=false:=by cases op<;>first|rfl|exact absurd rfl h2
 cases b<;>simp [behindInMarks,e1,e2]
noncomputable def tB(t:TE):TT:=λσ H Q=>t σ H λx H1=>∃c,x=.bl c/\Q c H1
theorem Ss(h:PC X op a b t)(h1:behindInMarks op b=false:=by first|exact zI _ (by decide) (by decide)|rfl):PT X (.Compare a [op] [b] pos) (tB t):=by
 intro pins s σ H Q I hw;refine wpAny_isTrue_Compare1 (cj (h pins s σ H _ I hw) λv s1 h1=>cj h1 λu s2 h2=>cj h2 λc s3 ⟨x,H1,I1,r1,q1⟩=>?_) h1;obtain⟨d,rfl,q⟩:=q1;cases r1;exact Vp ⟨H1,I1,q⟩
theorem Hq(h:PE X e t)(he:∀whole,isTrue e X.env whole=(do let v ←whole;standAt e.pos;holding [v] (truthy v)):=by intro _;rfl):PT X e (tB t):=by
 intro pins s σ H Q I hw;refine isTrue_plain (cj (h pins s σ H _ I hw) λv s1 ⟨x,H1,I1,r1,q1⟩=>?_) (he _);obtain⟨d,rfl,q⟩:=q1;cases r1;exact Vp ⟨H1,I1,q⟩
variable {tA tB':TT}{rest:List Expr}
noncomputable def Sm(t u:TT):TT:=λσ H Q=>t σ H λc H1=>if c=true then u σ H1 Q else Q false H1
noncomputable def T2(t u:TT):TT:=λσ H Q=>t σ H λc H1=>if c=true then Q true H1 else u σ H1 Q
noncomputable def Sd(t:TT):TT:=λσ H Q=>t σ H λc H1=>Q (!c) H1
theorem CH(ha:PT X a tA):PW X (.BoolOp .And [a] pos) tA:=by
 intro wh pins s σ H Q I h;refine isTrue_and (cj (ha pins s σ H Q I h) λc s1 e=>?_);cases c with|true=>exact isTrue_and_nil e|false=>exact e
theorem NH(ha:PT X a tA):PW X (.BoolOp .Or [a] pos) tA:=by
 intro wh pins s σ H Q I h;refine isTrue_or (cj (ha pins s σ H Q I h) λc s1 e=>?_);cases c with|false=>exact isTrue_or_nil e|true=>exact e
theorem Hm(ha:PT X a tA)(hb:PW X (.BoolOp .And (b::rest) pos) tB'):PW X (.BoolOp .And (a::b::rest) pos) (Sm tA tB'):=by
 intro wh pins s σ H Q I h;refine isTrue_and (cj (ha pins s σ H _ I h) λc s1 ⟨H1,I1,q1⟩=>?_);cases c with|true=>exact hb wh pins s1 σ H1 Q I1 q1|false=>exact⟨H1,I1,q1⟩
theorem Qd(ha:PT X a tA)(hb:PW X (.BoolOp .Or (b::rest) pos) tB'):PW X (.BoolOp .Or (a::b::rest) pos) (T2 tA tB'):=by
 intro wh pins s σ H Q I h;refine isTrue_or (cj (ha pins s σ H _ I h) λc s1 ⟨H1,I1,q1⟩=>?_);cases c with|true=>exact⟨H1,I1,q1⟩|false=>exact hb wh pins s1 σ H1 Q I1 q1
theorem Hr(ha:PT X a tA):PT X (.UnaryOp .Not a pos) (Sd tA):=by
 intro pins s σ H Q I h;exact isTrue_not (ha pins s σ H (λc H1=>Q (!c) H1) I h)
noncomputable def PM(ta tb:TE):TE:=λσ H Q=>ta σ H λx H1=>∃c,x=.bl c/\if c=true then tb σ H1 Q else Q (.bl false) H1
noncomputable def Sb(ta tb:TE):TE:=λσ H Q=>ta σ H λx H1=>∃c,x=.bl c/\if c=true then Q (.bl true) H1 else tb σ H1 Q
noncomputable def Pz(ta:TE):TE:=λσ H Q=>ta σ H λx H1=>∃c,x=.bl c/\Q (.bl (!c)) H1
theorem NP{op}(h:PE X a t):PE X (.BoolOp op [a] pos) t:=λpins s σ H Q I hw=>BoolOp_one (h pins s σ H Q I hw)
theorem NT(ha:PE X a ta)(hb:PE X (.BoolOp .And (b::rest) pos) tb):PE X (.BoolOp .And (a::b::rest) pos) (PM ta tb):=by
 intro pins s σ H Q I h;refine BoolOp_and (cj (ha pins s σ H _ I h) λv s1 ⟨x,H1,I1,r1,q1⟩=>?_);obtain⟨c,rfl,q1⟩:=q1;cases r1;refine Vp ?_;cases c with|true=>exact hb pins s1 σ H1 Q I1 q1|false=>exact⟨.bl false,H1,I1,rfl,q1⟩
theorem Qm(ha:PE X a ta)(hb:PE X (.BoolOp .Or (b::rest) pos) tb):PE X (.BoolOp .Or (a::b::rest) pos) (Sb ta tb):=by
 intro pins s σ H Q I h;refine BoolOp_or (cj (ha pins s σ H _ I h) λv s1 ⟨x,H1,I1,r1,q1⟩=>?_);obtain⟨c,rfl,q1⟩:=q1;cases r1;refine Vp ?_;cases c with|false=>exact hb pins s1 σ H1 Q I1 q1|true=>exact⟨.bl true,H1,I1,rfl,q1⟩
theorem NQ(ha:PE X a ta):PE X (.UnaryOp .Not a pos) (Pz ta):=by
 intro pins s σ H Q I h;refine UnaryOp_ (cj (ha pins s σ H _ I h) λv s1 ⟨x,H1,I1,r1,q1⟩=>?_);obtain⟨c,rfl,q1⟩:=q1;cases r1;exact not_of (Vp ⟨.bl (!c),H1,I1,rfl,q1⟩)
noncomputable def T4(t:TT) (ta tb:TE):TE:=λσ H Q=>t σ H λc H1=>if c=true then ta σ H1 Q else tb σ H1 Q
theorem HC(hc:PT X c tA)(ha:PE X a ta)(hb:PE X b tb):PE X (.IfExp c a b pos) (T4 tA ta tb):=by
 intro pins s σ H Q I h;refine wpAny_IfExp (cj (hc pins s σ H _ I h) λd s1 ⟨H1,I1,q1⟩=>?_);cases d with|true=>exact ha pins s1 σ H1 Q I1 q1|false=>exact hb pins s1 σ H1 Q I1 q1
end
noncomputable def eC(K:Up) (H:Hp) (a:Addr) (xs:List V):Prop :=
 Rd H a (.lst xs) ∨
  ∃(o:Obj) (its:Array Value) (n:Nat),K.lookup a=some o/\o.cls=.type "list"/\o.dict=none/\o.data=.seq its n/\its.size<=sizeLine/\bH xs its.toList
noncomputable def jK(K:Up) (H:Hp) (a:Addr) (xs:List V):Prop :=
 Rd H a (.tup xs) ∨
  ∃(o:Obj) (its:Array Value) (n:Nat),K.lookup a=some o/\o.cls=.type "tuple"/\o.data=.seq its n/\its.size<=sizeLine/\bH xs its.toList
noncomputable def SS:Value->Option V
 |.none=>some .non
 |.bool b=>some (.bl b)
 |.int i _=>some (.int i)
 |.str x _=>some (.str x)
 |.bytes b _=>some (.byt b)
 |.float b _=>some (.flt b)
 |.ref a=>some (.ref a)
 |.type n=>some (.ty n)
 |_=>none
theorem bu.abs(r:bu x u):SS u=some x:=by
 cases x with|non|bl _=>cases r;rfl|int _|str _|byt _|flt _=>obtain⟨t,rfl⟩:=r;rfl|ref _|ty _=>cases r;rfl
theorem bu.inj(r:bu x u)(q:bu y u):x=y:=U8 (r.abs.symm.trans q.abs)
theorem bH.inj:∀{xs ys:List V}{us:List Value},bH xs us->bH ys us->xs=ys
 |_,_,_,.nil,.nil=>rfl
 |_,_,_,.cons r t,.cons r' t'=>by rw[r.inj r',bH.inj t t']
section
variable {X:Cx}{pins:List (Addr×Obj)}{σ:St}{H:Hp}{s:Shared}{a:Addr}{xs ys:List V}
theorem eC.of{K:Up}(h:H a=some (.lst xs)):eC K H a xs:=.inl (.inl h)
theorem jK.of{K:Up}(h:H a=some (.tup xs)):jK K H a xs:=.inl (.inl h)
theorem Inv.list(I:Inv X pins σ H s)(h:eC X.K H a xs):∃its:List Value,bH xs its/\PlainL s.heap a its.toArray/\xs.length<=sizeLine:=by
 rcases h with h|⟨o,its,n,hk,hc,hd,hs,hz,r⟩
 .obtain⟨z,its,n,r,e⟩:=h.ok I.hok
  exact⟨its,r,⟨_,n,e,rfl,rfl,rfl⟩,z⟩
 .refine⟨its.toList,r,⟨o,n,I.kIn a o hk,hc,hd,by simpa using hs⟩,?_⟩
  have e:=r.length;simp only[Xq] at e;omega
theorem Inv.tuple(I:Inv X pins σ H s)(h:jK X.K H a xs):∃its:List Value,bH xs its/\IsTup s.heap a its.toArray/\xs.length<=sizeLine:=by
 rcases h with h|⟨o,its,n,hk,hc,hs,hz,r⟩
 .obtain⟨z,its,r,p⟩:=h.ok I.hok
  exact⟨its,r,p,z⟩
 .refine⟨its.toList,r,⟨o,I.kIn a o hk,hc,n,by simpa using hs⟩,?_⟩
  have e:=r.length;simp only[Xq] at e;omega
theorem Inv.list_inj(I:Inv X pins σ H s)(h:eC X.K H a xs)(h':eC X.K H a ys):xs=ys:=by
 obtain⟨its,r,⟨o,n,e,_,_,d⟩,_⟩:=I.list h;obtain⟨its',r',⟨o',n',e',_,_,d'⟩,_⟩:=I.list h';rw[e] at e';cases e';rw[d] at d';injection d' with d1 _;have:its=its':=by simpa using congrArg Array.toList d1
 subst this;exact r.inj r'
theorem Inv.tuple_inj(I:Inv X pins σ H s)(h:jK X.K H a xs)(h':jK X.K H a ys):xs=ys:=by
 obtain⟨its,r,⟨o,e,_,n,d⟩,_⟩:=I.tuple h;obtain⟨its',r',⟨o',e',_,n',d'⟩,_⟩:=I.tuple h';rw[e] at e';cases e';rw[d] at d';injection d' with d1 _;have:its=its':=by simpa using congrArg Array.toList d1
 subst this;exact r.inj r'
end
noncomputable abbrev Cx.wish(X:Cx) (E:Value->Shared->Prop):Cx:={ X with xe:=E }
noncomputable abbrev Cx.nox(X:Cx):Cx:=X.wish λ_ _=>False
theorem Cx.Ok.wish{X:Cx}(ok:X.Ok)(E:Value->Shared->Prop):(X.wish E).Ok :=
 ⟨ok.mod,ok.kind,ok.glob,ok.blt,ok.above,ok.inj,ok.has,ok.cab,ok.hd,ok.frames,ok.stk,ok.exf,ok.bs,ok.bsz,ok.noex,ok.exfs,ok.funs,ok.frf⟩
theorem Cx.Ok.unwish{X:Cx}(ok:(X.wish E).Ok):X.Ok :=
 ⟨ok.mod,ok.kind,ok.glob,ok.blt,ok.above,ok.inj,ok.has,ok.cab,ok.hd,ok.frames,ok.stk,ok.exf,ok.bs,ok.bsz,ok.noex,ok.exfs,ok.funs,ok.frf⟩
section
variable {X:Cx}{pins:List (Addr×Obj)}{σ:St}{H:Hp}{s:Shared}{E:Value->Shared->Prop}
theorem Inv.wish(I:Inv X pins σ H s)(E:Value->Shared->Prop):Inv (X.wish E) pins σ H s:=⟨I.ok.wish E,I.os,I.bare,I.base,I.loc,I.cell,I.free,I.freeC,I.pin,I.hok,I.len⟩
theorem Inv.unwish(I:Inv (X.wish E) pins σ H s):Inv X pins σ H s:=⟨I.ok.unwish,I.os,I.bare,I.base,I.loc,I.cell,I.free,I.freeC,I.pin,I.hok,I.len⟩
theorem SP.unwish{D:iY}(h:SP (X.wish E) pins D f s'):SP X pins D f s':=by
 cases f with|next|brk|cont=>obtain⟨σ',H',I,q⟩:=h;exact⟨σ',H',I.unwish,q⟩|ret u=>obtain⟨v,σ',H',I,r,q⟩:=h;exact⟨v,σ',H',I.unwish,r,q⟩
theorem wJ.nox{st:List Stmt}(h:wJ X.nox st t):wJ X st t:=λpins s σ H D I hw =>
 Vh (h pins s σ H D (I.wish _) hw) (λ_ _ q=>q.unwish) λ_ _ z=>Vo z
end
section
variable {X:Cx}{st:Stmt}{rest:List Stmt}{t u:TS}{e:Expr}{te:TE}{pos:Pos}
noncomputable def PB:TS:=λD σ H=>D.nx σ H
noncomputable def R8(t u:TS):TS:=λD σ H=>t { D with nx:=u D } σ H
theorem qw:wJ X [] PB:=λ_ _ σ H _ I h=>wpAny_execs_nil ⟨σ,H,I,h⟩
theorem fF(h1:PS X st t)(h2:wJ X rest u):wJ X (st::rest) (R8 t u):=by
 intro pins s σ H D I h;refine wpAny_execs_cons (cj (h1 pins s σ H { D with nx:=u D } I h) λf s1 q=>?_);cases f with
 |next =>
  obtain⟨σ',H',I',q⟩:=q;exact h2 pins s1 σ' H' D I' q
 |ret v|brk|cont=>exact q
theorem Inv.quiet(I:Inv X pins σ H s):interactive X.env=false:=by simp [interactive,I.ok.kind]
noncomputable def PF(te:TE):TS:=λD σ H=>te σ H λ_ H1=>D.nx σ H1
theorem qz(he:PE X e te)(hs:swapsWith e none pos.line X.env=pure false:=by rfl):PS X (.Expr e pos) (PF te):=by
 intro pins s σ H D I h;exact wpAny_Expr_any (cj (he pins s σ H _ I h) λv s1 ⟨x,H1,I1,r1,q1⟩=>⟨σ,H1,I1,q1⟩) I.quiet hs
noncomputable def R9(te:TE):TS:=λD σ H=>te σ H D.rt
theorem xi(he:PE X e te):PS X (.Return (some e) pos) (R9 te):=by
 intro pins s σ H D I h;exact wpAny_Return_some (cj (he pins s σ H _ I h) λv s1 ⟨x,H1,I1,r1,q1⟩=>⟨x,σ,H1,I1,r1,q1⟩)
noncomputable def Sh(c:TT) (t u:TS):TS:=λD σ H=>c σ H λb H1=>if b=true then t D σ H1 else u D σ H1
theorem Mw(hc:PT X c tc)(ha:wJ X a t)(hb:wJ X b u):PS X (.If c a b pos) (Sh tc t u):=by
 intro pins s σ H D I h;refine wpAny_If (cj (hc pins s σ H _ I h) λd s1 ⟨H1,I1,q1⟩=>?_);cases d with|true=>exact ha pins s1 σ H1 D I1 q1|false=>exact hb pins s1 σ H1 D I1 q1
noncomputable def Nk:TS:=λ_ _ _=>False
theorem Hu:PS X st Nk:=λ_ _ _ _ _ _ h=>h.elim
end
noncomputable abbrev TG:=V->St->Hp->(St->Hp->Prop)->Prop
noncomputable abbrev Pk:=List V->St->Hp->(St->Hp->Prop)->Prop
noncomputable def PG(X:Cx) (target:Expr) (t:TG):Prop :=
 ∀(pins:List (Addr×Obj)) (s:Shared) (σ:St) (H:Hp) (v:V) (u:Value) (Q:St->Hp->Prop),Inv X pins σ H s->bu v u->t v σ H Q ->
  wpAny (model X.prog X.w) X.A (assign target X.env u) (λ_ s'=>∃σ' H',Inv X pins σ' H' s'/\Q σ' H') X.xe s
noncomputable def Gb(X:Cx) (ts:List Expr) (t:Pk):Prop :=
 ∀(pins:List (Addr×Obj)) (s:Shared) (σ:St) (H:Hp) (vs:List V) (us:List Value) (Q:St->Hp->Prop),Inv X pins σ H s->bH vs us->t vs σ H Q ->
  wpAny (model X.prog X.w) X.A (assignInOrder ((assignEach ts X.env).map (·.2)) us) (λ_ s'=>∃σ' H',Inv X pins σ' H' s'/\Q σ' H') X.xe s
noncomputable abbrev Ru:=V->V->V->Hp->(Hp->Prop)->Prop
noncomputable def Rx(X:Cx) (t:Ru):Prop :=
 ∀(pins:List (Addr×Obj)) (s:Shared) (σ:St) (H:Hp) (o i v:V) (ov iv u:Value) (Q:Hp->Prop),Inv X pins σ H s->bu o ov->bu i iv->bu v u->t o i v H Q ->
  wpAny (model X.prog X.w) X.A (setItem ov iv u) (λ_ s'=>∃H',Inv X pins σ H' s'/\Q H') X.xe s
section
variable {X:Cx}{pos:Pos}
noncomputable def Dk(i:Nat):TG:=λv σ H Q=>Q (σ.set i (some v)) H
theorem CL(hN:X.N.Nodup)(hi:X.N[i]?=some x)(hx:Gg X.env.scope x)(hf:X.fn x=true∨X.env.scope.names.lookup x=some .local := by first|exact .inl rfl|exact .inr rfl|assumption):PG X (.Name x pos) (Dk i):=by
 intro pins s σ H v u Q I r h;exact wpAny_assign_Name (jR I hN hi hx r (λs' I'=>⟨_,H,I',h⟩) hf)
noncomputable def SH:Pk:=λvs σ H Q=>vs=[]/\Q σ H
noncomputable def QW(t:TG) (u:Pk):Pk:=λvs σ H Q=>∃v r,vs=v::r/\t v σ H λσ' H'=>u r σ' H' Q
theorem KO:Gb X [] SH:=by
 intro pins s σ H vs us Q I r h;obtain⟨e,h⟩:=h;subst e;cases r;exact assignInOrder_nil ⟨σ,H,I,h⟩
theorem Hz(h1:PG X e t)(h2:Gb X es u)
  (hs:(assignEach (e::es) X.env).map (·.2)=assign e X.env::(assignEach es X.env).map (·.2):=by rfl):Gb X (e::es) (QW t u):=by
 intro pins s σ H vs us Q I r h;obtain⟨v,vr,e1,h⟩:=h;subst e1;cases r with
 |cons r rr =>
  rw[hs];refine assignInOrder_cons (cj (h1 pins s σ H _ _ _ I r h) λ_ s1 ⟨σ1,H1,I1,q1⟩=>?_);exact h2 pins s1 σ1 H1 _ _ Q I1 rr q1
noncomputable def SE(K:Up) (n:Nat) (t:Pk):TG:=λv σ H Q=>∃a xs,v=.ref a/\jK K H a xs/\xs.length=n/\t xs σ H Q
theorem NN{k:Nat}(hc:X.calm=true)(h:Gb X es t)
  (hn:(assignEach es X.env).length=n:=by rfl)(hst:(assignEach es X.env).findIdx? (·.1)=none:=by rfl):PG X (.Tuple es k pos) (SE X.K n t):=by
 intro pins s σ H v u Q I r hw;obtain⟨a,xs,e1,hq,hl,hw⟩:=hw;subst e1;cases r;obtain⟨its,rv,ht,hz⟩:=I.tuple hq;refine assign_Tuple_tuple (I.ok.hd hc) ht (by simp [hn,←hl,rv.length]) hst λh' hx=>?_;have I1:Inv X pins σ H { s with heap:=h' }:=I.kept (t':=s.toks) λb o e=>hx b o (U4 (UJ e)) e;exact h pins _ σ H xs _ Q I1 (by simpa using rv) hw
noncomputable def SG(to ti:TE) (t:Ru):TG:=λv σ H Q=>to σ H λo H1=>ti σ H1 λi H2=>t o i v H2 λH3=>Q σ H3
theorem HA(ho:PE X o to)(hi:PE X i ti)(hs:Rx X t)
  (ha:∀v,assign (.Subscript o i pos) X.env v=(do
   let ov ←holding [v] (eval o X.env)
   let iv ←holding [v,ov] (eval i X.env)
   standAt pos
   holding [v,ov,iv] (setItem ov iv v)
   release [v,ov,iv] []):=by intro _;rfl):PG X (.Subscript o i pos) (SG to ti t):=by
 intro pins s σ H v u Q I r h;rw[ha];refine Uq (VD (cj (ho pins s σ H _ I h) λov s1 ⟨x,H1,I1,r1,q1⟩=>?_));refine Uq (VD (cj (hi pins s1 σ H1 _ I1 q1) λiv s2 ⟨y,H2,I2,r2,q2⟩=>?_));refine Uq (wpAny_standAt (Uq (VD (cj (hs pins s2 σ H2 x y v ov iv u _ I2 r1 r2 r q2) λ_ s3 ⟨H3,I3,q3⟩=>?_))));exact wpAny_release ⟨σ,H3,I3,q3⟩
noncomputable def Kn(te:TE) (g:TG):TS:=λD σ H=>te σ H λx H1=>g x σ H1 D.nx
theorem Bq(he:PE X e te)(hg:PG X tg g)(hs:swapsWithSole [tg] e pos.line X.env=pure false:=by rfl)(hw:swappedStores [tg] e X.env=pure none:=by rfl)
  (h1:(assignEach [tg] X.env).map (·.2)=[assign tg X.env]:=by rfl):PS X (.Assign [tg] e pos) (Kn te g):=by
 intro pins s σ H D I h;refine wpAny_Assign_stores (cj (he pins s σ H _ I h) λv s1 ⟨x,H1,I1,r1,q1⟩=>?_) hs hw;rw[h1];exact cj (hg pins s1 σ H1 x v _ I1 r1 q1) λ_ s2 q=>q
theorem oK(hN:X.N.Nodup)(hi:X.N[i]?=some x)(hx:Gg X.env.scope x)(he:PE X e te)(hs:swapsWith e (some (.Name x pos')) pos.line X.env=pure false:=by rfl)(hf:X.fn x=true∨X.env.scope.names.lookup x=some .local := by first|exact .inl rfl|exact .inr rfl|assumption) :
  PS X (.Assign [.Name x pos'] e pos) (Kn te (Dk i)):=by
 intro pins s σ H D I h;refine wpAny_Assign_Name (cj (he pins s σ H _ I h) λv s1 ⟨y,H1,I1,r1,q1⟩=>?_) hs;exact jR I1 hN hi hx r1 (λs2 I2=>⟨_,H1,I2,q1⟩) hf
noncomputable def Sa(i j:Nat) (ta:TA):TS:=λD σ H=>ta σ H λvs H1=>∃v w,vs=[v,w]/\D.nx ((σ.set i (some v)).set j (some w)) H1
theorem NJ{px py pt:Pos}{kt k2 pt2}(hc:X.calm=true)(hN:X.N.Nodup)(hi:X.N[i]?=some x)(hj:X.N[j]?=some y)(hij:i≠j)
  (hx:X.env.scope.names.lookup x=some .local)(hy:X.env.scope.names.lookup y=some .local)(ha:PA X [a,b] ta)
  (hw:swappedStores [.Tuple [.Name x px,.Name y py] kt pt] (.Tuple [a,b] k2 pt2) X.env=pure (some [x,y]))
  (hs:swapsWithSole [.Tuple [.Name x px,.Name y py] kt pt] (.Tuple [a,b] k2 pt2) pos.line X.env=pure false:=by rfl) :
  PS X (.Assign [.Tuple [.Name x px,.Name y py] kt pt] (.Tuple [a,b] k2 pt2) pos) (Sa i j ta):=by
 intro pins s σ H D I h;rw[exec_Assign_arm];refine Uq (wpAny_standAt ?_);rw[hs];refine Uq (UL ?_);rw[if_neg (by decide)];refine Uq (Tuple_ (cj (ha _ pins s σ H _ I h) λus s1 ⟨vs,H1,I1,r1,q1⟩=>?_));obtain⟨v,w,e1,q1⟩:=q1;subst e1;obtain⟨u1,u2,rfl,rv,rw'⟩:∃u1 u2,us=[u1,u2]/\bu v u1/\bu w u2:=by
  cases r1 with
  |cons p q =>
   cases q with
   |cons p' q' =>
    cases q';exact⟨_,_,rfl,p,p'⟩
 refine wpAny_newObj_type ?_ (by show 2<=sizeLine;decide);have I2:Inv X pins σ H1 { s1 with heap:=s1.heap.push { cls:=.type "tuple",data:=.seq [u1,u2].toArray } }:=I1.kept (t':=s1.toks) λb o e=>Ux _ e;rw[hw];refine Uq (UL ?_);show wpAny (model X.prog X.w) X.A (do rule "assign.swapped-stores";let items ←unpackItems (.ref s1.heap.objs.size) 2 none;assignInOrder [λv=>bindName X.env y v,λv=>bindName X.env x v] items.reverse;pure Flow.next) _ _ _;refine Uq (wpAny_rule (Uq (unpackItems_tuple (items:=#[u1,u2]) (I.ok.hd hc) (Yq s1.heap _) λh' hx'=>?_)));have I3:=I2.kept (h':=h') (t':=s1.toks) λb o e=>hx' b o (U4 (UJ e)) e;show wpAny _ _ (assignInOrder [λv=>bindName X.env y v,λv=>bindName X.env x v] [u2,u1] >>= λ_=>pure Flow.next) _ _ _;refine Uq (assignInOrder_cons (wpAny_bindName (jR I3 hN hj (.inl hy) rw' (λs2 I4=>?_) (.inr hy))));refine assignInOrder_cons (wpAny_bindName (jR I4 hN hi (.inl hx) rv (λs3 I5=>assignInOrder_nil (UL ?_)) (.inr hx)));rw[List.set_comm _ _ (U5 hij)] at I5;exact⟨_,H1,I5,q1⟩
end
section
variable {X:Cx}{pos:Pos}
noncomputable def Nj(c:TT) (tb:TS):TS:=λD σ H=>∃W:Nat->St->Hp->Prop,(∃m,W m σ H)/\∀m σ H,W m σ H ->
 c σ H λb H1=>if b=true then ∃N:St->Hp->Prop,(∀σ' H',N σ' H'->∃m',m' < m/\W m' σ' H')/\tb { D with nx:=N,ct:=N,bk:=D.nx } σ H1 else D.nx σ H1
theorem Ht(hp:PassesOwn (model X.prog X.w) X.A X.env X.xe)(hc:PT X c tc)(hb:wJ X body tb):PS X (.While c body [] pos) (Nj tc tb):=by
 intro pins s σ H D I h;obtain⟨W,⟨m0,w0⟩,turn⟩:=h;refine wpAny_While (codeAny_whileLoop (λn s'=>∃σ' H',Inv X pins σ' H' s'/\W n σ' H') ?_ m0 ⟨σ,H,I,w0⟩);rintro n s1 ⟨σ1,H1,I1,w1⟩;refine wpAny_passesOwn hp (cj (hc pins s1 σ1 H1 _ I1 (turn n σ1 H1 w1)) λb s2 ⟨H2,I2,q2⟩=>?_);cases b with
 |true =>
  obtain⟨N,hN,q2⟩:=q2;rw[if_pos rfl];refine wpAny_passesOwn hp (cj (hb pins s2 σ1 H2 _ I2 q2) λf s3 q3=>?_);cases f with
  |next =>
   obtain⟨σ3,H3,I3,n3⟩:=q3;obtain⟨m',hm,w3⟩:=hN σ3 H3 n3;exact⟨m',hm,σ3,H3,I3,w3⟩
  |cont =>
   obtain⟨σ3,H3,I3,n3⟩:=q3;obtain⟨m',hm,w3⟩:=hN σ3 H3 n3;exact⟨m',hm,σ3,H3,I3,w3⟩
  |brk|ret v=>exact q3
 |false =>
  rw[if_neg Vy];exact wpAny_execs_nil ⟨σ1,H2,I2,q2⟩
end
structure It where
 go:Nat->Hp->Prop
 yld:Nat->Hp->V->Hp->Prop
 stop:Nat->Hp->Prop
noncomputable def oj(X:Cx) (pins:List (Addr×Obj)) (H:Hp) (b:Addr):Prop :=
 H b=none/\b≠X.env.locals/\b∉X.fs/\(b∈X.ex∨X.sf.heap.objs.size<=b)/\(∀x c,X.env.cells.lookup x=some c->c≠b)/\∀p∈X.pn++pins,p.1≠b
theorem Inv.fpOk(I:Inv X pins σ H s)(hb:s.heap.objs.size<=b)(hn:H' b=none):oj X pins H' b:=by
 refine⟨hn,Nat.ne_of_gt (Uy I.lt hb),I.nofs hb,.inr (UO I.sz hb),λx c e z=>?_,λp hp z=>?_⟩
 .obtain⟨v,q⟩:=I.cell x c e
  exact absurd (Uy q.lt (by rw[z];exact hb)) (Wr _)
 .exact absurd (Uy (UJ (I.pin p hp).1) (by rw[z];exact hb)) (Wr _)
structure F9 (P:Program) (w:World) (K:Up) (tg:Expr) (J:It) (fp:List Addr) (it:Addr) (tn:Nat->Heap->Prop):Prop where
 mem:it∈fp
 obj:∀i h,tn i h->∀b∈fp,∃o,h.get? b=some o/\∀v,o.data≠.cell v
 keep:∀i h h',tn i h->(∀b∈fp,∀o,h.get? b=some o->h'.get? b=some o)->tn i h'
 item:∀(X:Cx),X.prog=P->X.w=w->X.K=K->X.calm=true->∀(i:Nat) (pins:List (Addr×Obj)) (s:Shared) (σ:St) (H:Hp) (E:Value->Shared->Prop),Inv X pins σ H s->(∀b∈fp,oj X pins H b)->tn i s.heap->J.go i H ->
  wpAny (model P w) X.A (pyNext (.ref it)) (λr s1=>∃u,r=some u /\
   wpAny (model P w) X.A (letOwnedTupleGo tg (.ref it) u) (λ_ s2=>∃x H',Inv X pins σ H' s2/\bu x u/\J.yld i H x H'/\tn (i+1) s2.heap/\∀b∈fp,H' b=none) E s1) E s
 done:∀(X:Cx),X.prog=P->X.w=w->X.K=K->X.calm=true->∀(i:Nat) (pins:List (Addr×Obj)) (s:Shared) (σ:St) (H:Hp) (E:Value->Shared->Prop),Inv X pins σ H s->(∀b∈fp,oj X pins H b)->tn i s.heap->J.stop i H ->
  wpAny (model P w) X.A (pyNext (.ref it)) (λr s1=>r=none/\Inv X pins σ H s1) E s
 self:∀(A:Around) (i:Nat) (s:Shared) (Q:Value->Shared->Prop) (E:Value->Shared->Prop),tn i s.heap->Q (.ref it) s->wpAny (model P w) A (pyIter (.ref it)) Q E s
noncomputable abbrev TI:=St->Hp->(It->Hp->Prop)->Prop
noncomputable def S0(X:Cx) (pins:List (Addr×Obj)) (σ:St) (tg:Expr) (R:It->Hp->Prop) (itv:Value) (s2:Shared):Prop :=
 ∃(it:Addr) (fp:List Addr) (tn:Nat->Heap->Prop) (J:It) (H':Hp),itv=.ref it/\Inv X pins σ H' s2/\F9 X.prog X.w X.K tg J fp it tn/\tn 0 s2.heap/\(∀b∈fp,oj X pins H' b)/\R J H'
noncomputable def PI(X:Cx) (tg iter:Expr) (wi:TI):Prop :=
 ∀(pins:List (Addr×Obj)) (s:Shared) (σ:St) (H:Hp) (R:It->Hp->Prop),Inv X pins σ H s->wi σ H R ->
  wpAny (model X.prog X.w) X.A (eval iter X.env) (λv s1=>wpAny (model X.prog X.w) X.A (pyIter v) (S0 X pins σ tg R) X.xe s1) X.xe s
theorem Di(ho:s.heap.get? it=some o)(hc:o.cls=.type n)(hd:o.data=.fields vs)
  (hn:["enumerate","zip","dict_itemiterator","dict_reverseitemiterator","odict_iterator","itertools.zip_longest","itertools.pairwise"].contains n=false)(hQ:Q () s):wpAny M A (letOwnedTupleGo tg (.ref it) u) Q E s:=by
 unfold letOwnedTupleGo;cases tg<;>first
  |exact UL hQ
  |(cases u<;>first
    |exact UL hQ
    |(refine Uq (wpAny_load ho ?_);rw[hc,hd];show wpAny M A (if(["enumerate","zip","dict_itemiterator","dict_reverseitemiterator","odict_iterator","itertools.zip_longest","itertools.pairwise"].contains n&&vs[0]?==some (rawInt _))=true then _ else _) Q E s;rw[if_neg (by intro h;rw[hn,Wg] at h;cases h)];exact UL hQ))
noncomputable def RD(K:Up) (a:Addr):It :=
 ⟨λi H=>∃xs x,eC K H a xs/\xs[i]?=some x,λi H x H'=>H'=H/\∀xs,eC K H a xs->xs[i]?=some x,λi H=>∃xs,eC K H a xs/\xs.length<=i⟩
noncomputable def O0(lo:Int) (n:Nat):It:=⟨λi _=>i<n,λi H x H'=>H'=H/\x=.int (lo+i),λi _=>n<=i⟩
theorem EZ{P:Program}{w:World}{K:Up}{tg:Expr}(a it:Addr):F9 P w K tg (RD K a) [it] it (λi h=>h.IsListIter it a i) where
 mem:=by simp
 obj:=λi h st b hb=>by
  have e:b=it:=by simpa using hb
  subst e;obtain⟨o,e,c,d⟩:=st;exact⟨o,e,λv z=>by rw[d] at z;cases z⟩
 keep:=λi h h' st k=>st.at λo e=>k it (by simp) o e
 item:=by
  intro X hP hw hK hc i pins s σ H E I hf st hg;subst hP hw hK;obtain⟨xs,x,hq,hx⟩:=hg;obtain⟨its,rv,p,hz⟩:=I.list hq;obtain⟨u,hu,ru⟩:=rv.get hx;obtain⟨f0,f1,f2,f3,f4,f5⟩:=hf it (by simp);refine wpAny_pyNext_list_item st p.isList (x:=u) (by simpa using hu) λh' st' sb=>?_;have I1:Inv X pins σ H { s with heap:=h' }:=I.turned (t':=s.toks) (λb o hb e=>(sb.2 b hb).trans e) f0 f1 f3 f4 f5;obtain⟨o,e,c,d⟩:=id st';exact⟨u,rfl,Di (s:={ s with heap:=h' }) e c d (by decide) ⟨x,H,I1,ru,⟨rfl,λys hy=>by rw[I.list_inj hy hq];exact hx⟩,st',λb hb=>(hf b hb).1⟩⟩
 done:=by
  intro X hP hw hK hc i pins s σ H E I hf st hg;subst hP hw hK;obtain⟨xs,hq,hx⟩:=hg;obtain⟨its,rv,p,hz⟩:=I.list hq;obtain⟨f0,f1,f2,f3,f4,f5⟩:=hf it (by simp);have hl:=rv.length;exact wpAny_pyNext_list_end (I.ok.hd hc) st p.isList (by simp;omega) λh' eb=>⟨rfl,I.turned (t':=s.toks) (λb o hb e=>eb b o hb e) f0 f1 f3 f4 f5⟩
 self:=λ_ _ _ _ _ st h=>wpAny_pyIter_listiter st h
theorem Be{P:Program}{w:World}{K:Up}{tg:Expr}(it:Addr)(lo:Int)(n:Nat):F9 P w K tg (O0 lo n) [it] it (λi h=>IsRangeIter h it (lo+(i:Nat)*1) ((n:Int)-(i:Nat)) 1) where
 mem:=by simp
 obj:=λi h st b hb=>by
  have e:b=it:=by simpa using hb
  subst e;exact⟨_,st,λv z=>by
   have z':Data.fields _=Data.cell v:=z;cases z'⟩
 keep:=λi h h' st k=>k it (by simp) _ st
 item:=by
  intro X hP hw hK hc i pins s σ H E I hf st hg;subst hP hw hK;obtain⟨f0,f1,f2,f3,f4,f5⟩:=hf it (by simp);have W:=Walks.range (prog:=X.prog) (w:=X.w) (I.ok.hd hc) it lo 1 n;refine W.item i s _ _ hg st λv h' tk hv st' kk=>?_;obtain⟨t,rfl⟩:=hv;have I1:Inv X pins σ H { s with heap:=h',toks:=tk }:=I.turned (λb o hb e=>kk b o (by simpa using hb) e) f0 f1 f3 f4 f5;refine⟨_,rfl,Di (s:={ s with heap:=h',toks:=tk }) (n:="range_iterator") st' rfl rfl (by decide) ⟨.int (lo+i),H,I1,⟨t,?_⟩,⟨rfl,rfl⟩,st',λb hb=>(hf b hb).1⟩⟩;rw[Int.mul_one]
 done:=by
  intro X hP hw hK hc i pins s σ H E I hf st hg;subst hP hw hK;obtain⟨f0,f1,f2,f3,f4,f5⟩:=hf it (by simp);exact wpAny_pyNext_range_end (I.ok.hd hc) st (by have:n<=i:=hg;omega) λh' eb=>⟨rfl,I.turned (t':=s.toks) (λb o hb e=>eb b o hb e) f0 f1 f3 f4 f5⟩
 self:=λ_ _ _ _ _ st h=>wpAny_pyIter_rangeiter st h
section
variable {X:Cx}{tg:Expr}
noncomputable def QT(K:Up) (tl:TE):TI:=λσ H R=>tl σ H λx H1=>∃a,x=.ref a/\(∃xs,eC K H1 a xs)/\R (RD K a) H1
theorem xo(hl:PE X l tl):PI X tg l (QT X.K tl):=by
 intro pins s σ H R I h;refine cj (hl pins s σ H _ I h) λv s1 ⟨x,H1,I1,r1,q1⟩=>?_;obtain⟨a,e,⟨xs,hq⟩,q⟩:=q1;subst e;cases r1;obtain⟨its,rv,p,hz⟩:=I1.list hq;refine wpAny_pyIter_list p.isList ?_;refine⟨s1.heap.objs.size,[s1.heap.objs.size],_,_,H1,rfl,I1.kept (t':=s1.toks) λb o e=>Ux _ e,EZ a _,⟨_,Vl _ rfl,rfl,rfl⟩,λb hb=>?_,q⟩;have e:b=s1.heap.objs.size:=by simpa using hb
 subst e;exact I1.fpOk (UB _) (I1.hok.fresh (UB _))
theorem Hh{lo hi:Int}(I:Inv X pins σ H s)(h1:-(2 ^ 62)<=lo)(h2:lo<2 ^ 62)(h3:-(2 ^ 62)<=hi)(h4:hi<2 ^ 62)
  (q:R (O0 lo (hi-lo).toNat) H):wpAny (model X.prog X.w) X.A (pyIter (.ref s.heap.objs.size)) (S0 X pins σ tg R) E { s with heap:=s.heap.push { cls:=.type "range",data:=.fields #[.int lo t,.int hi u,.int 1 v] },toks:=tk }:=by
 refine wpAny_pyIter_range (IsRange.new ..) (small_one h1 h2 h3 h4) ?_;have I1:Inv X pins σ H { s with heap:=s.heap.push { cls:=.type "range",data:=.fields #[.int lo t,.int hi u,.int 1 v] },toks:=tk }:=I.kept λb o e=>Ux _ e;refine⟨(s.heap.push { cls:=.type "range",data:=.fields #[.int lo t,.int hi u,.int 1 v] }).objs.size,[(s.heap.push { cls:=.type "range",data:=.fields #[.int lo t,.int hi u,.int 1 v] }).objs.size],_,_,H,rfl,
  I1.kept (t':=tk) λb o e=>Ux _ e,Be _ lo (hi-lo).toNat,?_,λb hb=>?_,q⟩
 .have e1:lo+((0:Nat):Int)*1=lo:=by simp
  have e2:(((hi-lo).toNat:Nat):Int)-((0:Nat):Int)=Builtin.Range.rangeSize lo hi 1:=by rw[rangeSize_one];split<;>omega
  show IsRangeIter _ _ (lo+((0:Nat):Int)*1) ((((hi-lo).toNat:Nat):Int)-((0:Nat):Int)) 1;rw[e1,e2];exact Vl _ rfl
 .have e:b=(s.heap.push { cls:=.type "range",data:=.fields #[.int lo t,.int hi u,.int 1 v] }).objs.size:=by simpa using hb
  subst e;exact I1.fpOk (UB _) (I1.hok.fresh (UB _))
noncomputable def QR(ta:TA):TI:=λσ H R=>ta σ H λvs H1=>∃j:Int,vs=[.int j]/\-(2 ^ 62)<=j/\j<2 ^ 62/\R (O0 0 j.toNat) H1
theorem oO(hg:Gl X "range")(hm:X.mg "range"=none)(ha:PA X [a] ta)(hs:starEach [a] X.env=[(false,eval a X.env)]:=by rfl):PI X tg (.Call (.Name "range" p) [a] [] pos) (QR ta):=by
 intro pins s σ H R I h;refine Call_ (rZ I hg hm boot_range (WS (cj (ha pos pins s σ H _ I h) λus s1 ⟨vs,H1,I1,r1,q1⟩=>?_) hs rfl));obtain⟨j,e,q1,q2,q⟩:=q1;subst e;cases r1 with
 |cons r rr =>
  cases rr;obtain⟨t,rfl⟩:=r;exact call_range_1 (Hh I1 (by omega) (by omega) q1 q2 (by simpa using q))
noncomputable def Sj(wi:TI) (g:TG) (tb:TS):TS:=λD σ H=>wi σ H λJ H1=>∃W:Nat->Nat->St->Hp->Prop,(∃m,W 0 m σ H1)/\∀i m σ H,W i m σ H ->
 (J.stop i H/\D.nx σ H)∨(J.go i H/\∃N:St->Hp->Prop,(∀σ' H',N σ' H'->∃m',m' < m/\W (i+1) m' σ' H')/\∀x H',J.yld i H x H'->g x σ H' λσ2 H2=>tb { D with nx:=N,ct:=N,bk:=D.nx } σ2 H2)
noncomputable def rN(fp:List Addr) (h:Heap):List (Addr×Obj):=fp.filterMap λb=>(h.get? b).map λo=>(b,o)
theorem jg{h:Heap}(hb:b∈fp)(e:h.get? b=some o):(b,o)∈rN fp h:=Xw.mpr ⟨b,hb,by rw[e];rfl⟩
theorem Fm{h:Heap}(hp:p∈rN fp h):p.1∈fp/\h.get? p.1=some p.2:=by
 obtain⟨b,hb,e⟩:=Xw.mp hp;cases q:h.get? b with
 |none=>rw[q] at e;cases e
 |some o =>
  rw[q] at e;have e':(b,o)=p:=U8 e;subst e';exact⟨hb,q⟩
theorem Inv.pinned(I:Inv X pins σ H s)(hf:∀b∈fp,oj X pins H b)(ho:∀b∈fp,∃o,s.heap.get? b=some o/\∀v,o.data≠.cell v):Inv X (pins++rN fp s.heap) σ H s :=
 I.pins_of λp hp=>(Ve.mp hp).elim (λz=>I.pin p (Vi _ z)) λz=>by
  obtain⟨hb,e⟩:=Fm z;obtain⟨f0,f1,f2,_⟩:=hf p.1 hb;obtain⟨o,e',d⟩:=ho p.1 hb;rw[e] at e';cases e';exact⟨e,f0,f1,f2,d⟩
theorem Inv.unpinned{pins pl:List (Addr×Obj)}(I:Inv X (pins++pl) σ H s):Inv X pins σ H s:=I.pins_of λp hp=>I.pin p (Vi _ (Xj _ hp))
theorem xj(hp:PassesOwn (model X.prog X.w) X.A X.env X.xe)(hc:X.calm=true)(hi:PI X tg iter wi)(hg:PG X tg g)(hb:wJ X body tb)
  (hs:∀x,foldedSetIterable iter X.env x=pure x:=by intro _;rfl):PS X (.For tg iter body [] pos) (Sj wi g tb):=by
 intro pins s σ H D I h;refine wpAny_For (cj (hi pins s σ H _ I h) λv s1 h1=>cj h1 λitv s2 h2=>?_) hs;obtain⟨it,fp,tn,J,H2,e,I2,T,st2,f2,W,⟨m0,w0⟩,turn⟩:=h2;subst e;have stat:∀{H':Hp},(∀b∈fp,H' b=none)->∀b∈fp,oj X pins H' b:=λhn b hb=>⟨hn b hb,(f2 b hb).2⟩
 refine codeAny_forLoop_any (λn s'=>∃i σ' H',Inv X pins σ' H' s'/\tn i s'.heap/\(∀b∈fp,H' b=none)/\W i n σ' H') ?_ m0 ⟨0,σ,H2,I2,st2,λb hb=>(f2 b hb).1,w0⟩;rintro n s3 ⟨i,σ3,H3,I3,st3,fr3,w3⟩;rcases turn i n σ3 H3 w3 with⟨stop,qn⟩|⟨go,N,hN,step⟩
 .refine wpAny_passesOwn hp (cj (T.done X rfl rfl rfl hc i pins s3 σ3 H3 X.xe I3 (stat fr3) st3 stop) λr s4 ⟨hr,I4⟩=>?_)
  subst hr;exact wpAny_execs_nil ⟨σ3,H3,I4,qn⟩
 .refine wpAny_passesOwn hp (cj (T.item X rfl rfl rfl hc i pins s3 σ3 H3 X.xe I3 (stat fr3) st3 go) λr s4 ⟨u,hr,h4⟩=>?_)
  subst hr;refine wpAny_passesOwn hp (cj h4 λ_ s5 ⟨x,H5,I5,r5,y5,st5,fr5⟩=>?_);have I5':=I5.pinned (stat fr5) (T.obj _ _ st5);refine wpAny_passesOwn hp (cj (hg _ s5 σ3 H5 x u _ I5' r5 (step x H5 y5)) λ_ s6 ⟨σ6,H6,I6,q6⟩=>?_);refine wpAny_passesOwn hp (cj (hb _ s6 σ6 H6 _ I6 q6) λf s7 q7=>?_);have again:∀{σ7:St}{H7:Hp},Inv X (pins++rN fp s5.heap) σ7 H7 s7->N σ7 H7->∃m,m<n/\∃i σ' H',Inv X pins σ' H' s7/\tn i s7.heap/\(∀b∈fp,H' b=none)/\W i m σ' H':=λ{σ7 H7} I7 n7=>by
   obtain⟨m',hm,w7⟩:=hN σ7 H7 n7;refine⟨m',hm,i+1,σ7,H7,I7.unpinned,T.keep _ _ _ st5 λb hb o e=>(I7.pin (b,o) (Vi _ (Vi _ (jg hb e)))).1,λb hb=>?_,w7⟩;obtain⟨o,e,d⟩:=T.obj _ _ st5 b hb;exact(I7.pin (b,o) (Vi _ (Vi _ (jg hb e)))).2.1
  cases f with|next|cont=>obtain⟨σ7,H7,I7,n7⟩:=q7;exact again I7 n7|brk=>obtain⟨σ7,H7,I7,q7⟩:=q7;exact⟨σ7,H7,I7.unpinned,q7⟩|ret v=>obtain⟨x7,σ7,H7,I7,r7,q7⟩:=q7;exact⟨x7,σ7,H7,I7.unpinned,r7,q7⟩
end
theorem Iq{K:Up}{g:TG}{tb:TS}{D:iY}(Pv:Nat->St->Hp->Prop)(h0:Pv 0 σ H)(hl:∀i σ H,i<=xs.length->Pv i σ H->eC K H a xs)
  (hs:∀i x σ H,xs[i]?=some x->Pv i σ H->g x σ H λσ2 H2=>tb { D with nx:=Pv (i+1),ct:=Pv (i+1),bk:=D.nx } σ2 H2)(hd:∀σ H,Pv xs.length σ H->D.nx σ H) :
  ∃W:Nat->Nat->St->Hp->Prop,(∃m,W 0 m σ H)/\∀i m σ H,W i m σ H ->
   ((RD K a).stop i H/\D.nx σ H)∨((RD K a).go i H/\∃N:St->Hp->Prop,(∀σ' H',N σ' H'->∃m',m' < m/\W (i+1) m' σ' H')/\∀x H',(RD K a).yld i H x H'->g x σ H' λσ2 H2=>tb { D with nx:=N,ct:=N,bk:=D.nx } σ2 H2):=by
 refine⟨λi m σ H=>m=xs.length-i/\i<=xs.length/\Pv i σ H,⟨xs.length,by simp,VU _,h0⟩,?_⟩;rintro i m σ H ⟨rfl,hi,p⟩;have q:=hl i σ H hi p
 by_cases hlt:i<xs.length
 .refine .inr ⟨⟨xs,xs[i],q,by simp [hlt]⟩,Pv (i+1),λσ' H' p'=>⟨xs.length-(i+1),by omega,rfl,hlt,p'⟩,λx H' y=>?_⟩
  obtain⟨e,y⟩:=y;subst e;exact hs i x σ _ (y xs q) p
 .have e:i=xs.length:=by omega
  subst e;exact .inl ⟨⟨xs,q,UB _⟩,hd σ H p⟩
theorem FH{lo:Int}{g:TG}{tb:TS}{D:iY}(Pv:Nat->St->Hp->Prop)(h0:Pv 0 σ H)
  (hs:∀i σ H,i<n->Pv i σ H->g (.int (lo+i)) σ H λσ2 H2=>tb { D with nx:=Pv (i+1),ct:=Pv (i+1),bk:=D.nx } σ2 H2)(hd:∀σ H,Pv n σ H->D.nx σ H) :
  ∃W:Nat->Nat->St->Hp->Prop,(∃m,W 0 m σ H)/\∀i m σ H,W i m σ H ->
   ((O0 lo n).stop i H/\D.nx σ H)∨((O0 lo n).go i H/\∃N:St->Hp->Prop,(∀σ' H',N σ' H'->∃m',m' < m/\W (i+1) m' σ' H')/\∀x H',(O0 lo n).yld i H x H'->g x σ H' λσ2 H2=>tb { D with nx:=N,ct:=N,bk:=D.nx } σ2 H2):=by
 refine⟨λi m σ H=>m=n-i/\i<=n/\Pv i σ H,⟨n,by simp,VU _,h0⟩,?_⟩;rintro i m σ H ⟨rfl,hi,p⟩
 by_cases hlt:i<n
 .refine .inr ⟨hlt,Pv (i+1),λσ' H' p'=>⟨n-(i+1),by omega,rfl,hlt,p'⟩,λx H' y=>?_⟩
  obtain⟨e,y⟩:=y;subst e y;exact hs i σ _ hlt p
 .have e:i=n:=by omega
  subst e;exact .inl ⟨UB _,hd σ H p⟩
noncomputable abbrev R2:=V->V->Hp->VK->Prop
noncomputable def eh(X:Cx) (f:Value->Value->Sem Value) (r:R2):Prop :=
 ∀(pins:List (Addr×Obj)) (s:Shared) (σ:St) (H:Hp) (x y:V) (v u:Value) (Q:VK),Inv X pins σ H s->bu x v->bu y u->r x y H Q ->
  wpAny (model X.prog X.w) X.A (f v u) (EP X pins σ Q) X.xe s
noncomputable def RS(X:Cx) (f:Value->Sem Value) (r:V->Hp->VK->Prop):Prop :=
 ∀(pins:List (Addr×Obj)) (s:Shared) (σ:St) (H:Hp) (x:V) (v:Value) (Q:VK),Inv X pins σ H s->bu x v->r x H Q ->
  wpAny (model X.prog X.w) X.A (f v) (EP X pins σ Q) X.xe s
noncomputable def gY(X:Cx) (f:Value) (r:List V->Hp->VK->Prop):Prop :=
 ∀(pins:List (Addr×Obj)) (s:Shared) (σ:St) (H:Hp) (xs:List V) (us:List Value) (Q:VK),Inv X pins σ H s->bH xs us->r xs H Q ->
  wpAny (model X.prog X.w) X.A (call f us) (EP X pins σ Q) X.xe s
noncomputable def SW(X:Cx) (r:V->Hp->(Bool->Hp->Prop)->Prop):Prop :=
 ∀(pins:List (Addr×Obj)) (s:Shared) (σ:St) (H:Hp) (x:V) (v:Value) (Q:Bool->Hp->Prop),Inv X pins σ H s->bu x v->r x H Q ->
  wpAny (model X.prog X.w) X.A (truthy v) (TP X pins σ Q) X.xe s
noncomputable def O4(r:R2) (ta tb:TE):TE:=λσ H Q=>ta σ H λx H1=>tb σ H1 λy H2=>r x y H2 Q
noncomputable def TY(r:V->Hp->VK->Prop) (ta:TE):TE:=λσ H Q=>ta σ H λx H1=>r x H1 Q
noncomputable def rI(C:Int->Int->Prop) (g:Int->Int->V):R2:=λx y H Q=>∃i j,x=.int i/\y=.int j/\C i j/\Q (g i j) H
noncomputable def JP(g:Int->Int->V):R2:=λx y H Q=>∃i j,x=.int i/\y=.int j/\Q (g i j) H
noncomputable def rU(g:Int->V):V->Hp->VK->Prop:=λx H Q=>∃i,x=.int i/\Q (g i) H
section
variable {X:Cx}{a b c:Expr}{ta tb tc:TE}{pos:Pos}
theorem OK(ha:PE X a ta)(hb:PE X b tb){R:V->V->Hp->Prop}(I:Inv X pins σ H s)
  (h:ta σ H λx H1=>tb σ H1 λy H2=>R x y H2){f:Value->Value->Sem Value}
  (hf:∀v u s2 x y H2,Inv X pins σ H2 s2->bu x v->bu y u->R x y H2->wpAny (model X.prog X.w) X.A (f v u) Q X.xe s2) :
  wpAny (model X.prog X.w) X.A (eval a X.env) (λv sg=>wpAny (model X.prog X.w) X.A (eval b X.env) (λu si=>wpAny (model X.prog X.w) X.A (f v u) Q X.xe si) X.xe sg) X.xe s:=by
 refine cj (ha pins s σ H _ I h) λv s1 ⟨x,H1,I1,r1,q1⟩=>?_;refine cj (hb pins s1 σ H1 _ I1 q1) λu s2 ⟨y,H2,I2,r2,q2⟩=>?_;exact hf v u s2 x y H2 I2 r1 r2 q2
theorem Mx(ho:eh X (binaryOp op) r)(ha:PE X a ta)(hb:PE X b tb):PE X (.BinOp a op b pos) (O4 r ta tb):=by
 intro pins s σ H Q I h;exact wpAny_BinOp (OK ha hb I h λv u s2 x y H2 I2 rx ry q=>ho pins s2 σ H2 x y v u Q I2 rx ry q)
theorem Ql(ho:RS X (unaryOp op) r)(ha:PE X a ta):PE X (.UnaryOp op a pos) (TY r ta):=by
 intro pins s σ H Q I h;exact UnaryOp_ (cj (ha pins s σ H _ I h) λv s1 ⟨x,H1,I1,r1,q1⟩=>ho pins s1 σ H1 x v Q I1 r1 q1)
theorem RO{g:Int->Int->Int}
  (rule:∀(i j:Int) (t u:Tok) (s:Shared) (Q:Value->Shared->Prop) (E:Value->Shared->Prop),C i j->Q (.int (g i j) s.toks) { s with toks:=s.toks+1 }->wpAny (model X.prog X.w) X.A (f (.int i t) (.int j u)) Q E s) :
  eh X f (rI C λi j=>.int (g i j)):=by
 intro pins s σ H x y v u Q I rx ry h;obtain⟨i,j,rfl,rfl,hc,q⟩:=h;obtain⟨t,rfl⟩:=rx;obtain⟨t',rfl⟩:=ry;exact rule i j t t' s _ _ hc ⟨.int (g i j),H,I.tok _,⟨_,rfl⟩,q⟩
theorem Qs{g:Int->Int->Int}
  (rule:∀(i j:Int) (t u:Tok) (s:Shared) (Q:Value->Shared->Prop) (E:Value->Shared->Prop),Q (.int (g i j) s.toks) { s with toks:=s.toks+1 }->wpAny (model X.prog X.w) X.A (f (.int i t) (.int j u)) Q E s) :
  eh X f (JP λi j=>.int (g i j)):=by
 intro pins s σ H x y v u Q I rx ry h;obtain⟨i,j,rfl,rfl,q⟩:=h;obtain⟨t,rfl⟩:=rx;obtain⟨t',rfl⟩:=ry;exact rule i j t t' s _ _ ⟨.int (g i j),H,I.tok _,⟨_,rfl⟩,q⟩
theorem K0{g:Int->Int->Bool}
  (rule:∀(i j:Int) (t u:Tok) (s:Shared) (Q:Value->Shared->Prop) (E:Value->Shared->Prop),Q (.bool (g i j)) s->wpAny (model X.prog X.w) X.A (f (.int i t) (.int j u)) Q E s) :
  eh X f (JP λi j=>.bl (g i j)):=by
 intro pins s σ H x y v u Q I rx ry h;obtain⟨i,j,rfl,rfl,q⟩:=h;obtain⟨t,rfl⟩:=rx;obtain⟨t',rfl⟩:=ry;exact rule i j t t' s _ _ ⟨.bl (g i j),H,I,rfl,q⟩
noncomputable def Tc(i j:Int):Prop:=0<=j/\j<=1000000/\i.natAbs<2 ^ 64
noncomputable def RF(i j:Int):Prop:=(-(2 ^ 64)<i/\i<2 ^ 64)∨(-(2 ^ 64)<j/\j<2 ^ 64)
theorem RF.ok(h:RF i j):IntMulOk i j:=by
 rcases h with⟨h1,h2⟩|⟨h1,h2⟩
 .exact .of_left (intBits_le_64 h1 h2)
 .exact .of_right (intBits_le_64 h1 h2)
theorem HK:eh X (binaryOp .Add) (JP λi j=>.int (i+j)):=Qs λ_ _ _ _ _ _ _ q=>add_int q
theorem NW:eh X (binaryOp .Sub) (JP λi j=>.int (i-j)):=Qs λ_ _ _ _ _ _ _ q=>sub_int q
theorem CU:eh X (binaryOp .Mod) (rI (λ_ j=>j≠0) λi j=>.int (i.fmod j)):=RO λ_ _ _ _ _ _ _ hc q=>mod_int' hc q
theorem NX:eh X (binaryOp .Pow) (rI Tc λi j=>.int (i ^ j.toNat)):=RO λ_ _ _ _ _ _ _ hc q=>pow_int_small hc.1 hc.2.1 hc.2.2 q
theorem TU{g:Int->Int}
  (rule:∀(i:Int) (t:Tok) (s:Shared) (Q:Value->Shared->Prop) (E:Value->Shared->Prop),Q (.int (g i) s.toks) { s with toks:=s.toks+1 }->wpAny (model X.prog X.w) X.A (f (.int i t)) Q E s) :
  RS X f (rU λi=>.int (g i)):=by
 intro pins s σ H x v Q I rx h;obtain⟨i,rfl,q⟩:=h;obtain⟨t,rfl⟩:=rx;exact rule i t s _ _ ⟨.int (g i),H,I.tok _,⟨_,rfl⟩,q⟩
theorem Nf:RS X (unaryOp .USub) (rU λi=>.int (-i)):=TU λ_ _ _ _ _ q=>neg_int q
end
section
variable {X:Cx}{a b c:Expr}{ta tb tc:TE}{pos:Pos}
theorem BX{k k':Bool}(I:Inv X pins σ H s)(q:Q (.bl k) H)(e:k=k'):EP X pins σ Q (.bool k') s:=by
 subst e;exact⟨.bl k,H,I,rfl,q⟩
theorem zt:eh X (compareOp .Lt) (JP λi j=>.bl (decide (i<j))):=K0 λ_ _ _ _ _ _ _ q=>lt_int q
theorem zu:eh X (compareOp .LtE) (JP λi j=>.bl (decide (i<=j))):=K0 λ_ _ _ _ _ _ _ q=>le_int q
theorem vy:eh X (compareOp .Gt) (JP λi j=>.bl (decide (j<i))):=K0 λ_ _ _ _ _ _ _ q=>gt_int q
theorem HI:eh X (compareOp .GtE) (JP λi j=>.bl (decide (j<=i))):=K0 λ_ _ _ _ _ _ _ q=>ge_int q
theorem Fi:eh X (compareOp .In) (λx y H Q=>∃i j,x=.str i/\y=.str j/\Q (.bl (!(V4 j i 0 j.length 1).isEmpty)) H):=by
 intro pins s σ H x y v u Q I rx ry h;obtain⟨i,j,rfl,rfl,q⟩:=h;obtain⟨t,rfl⟩:=rx;obtain⟨t',rfl⟩:=ry;exact in_str (BX I q rfl)
theorem jW:eh X (compareOp .Is) (λx y H Q=>y=.non/\Q (.bl (decide (x=.non))) H):=by
 intro pins s σ H x y v u Q I rx ry h;obtain⟨rfl,q⟩:=h;cases ry;refine is_none_gen (BX I q ?_);cases x<;>first
  |(cases rx;rfl)
  |(obtain⟨t,rfl⟩:=rx;rfl)
theorem CT:eh X (compareOp .IsNot) (λx y H Q=>y=.non/\Q (.bl (!decide (x=.non))) H):=by
 intro pins s σ H x y v u Q I rx ry h;obtain⟨rfl,q⟩:=h;cases ry;refine isnot_none_gen (BX I q ?_);cases x<;>first
  |(cases rx;rfl)
  |(obtain⟨t,rfl⟩:=rx;rfl)
theorem eh.or(h:eh X f r)(h':eh X f r'):eh X f (λx y H Q=>r x y H Q∨r' x y H Q):=by
 intro pins s σ H x y v u Q I rx ry q;rcases q with q|q
 .exact h pins s σ H x y v u Q I rx ry q
 .exact h' pins s σ H x y v u Q I rx ry q
theorem CM(ho:eh X (compareOp op) r)(ha:PE X a ta)(hb:PE X b tb)(hm:behindInMarks op b=false):PE X (.Compare a [op] [b] pos) (O4 r ta tb):=by
 intro pins s σ H Q I h;exact wpAny_Compare1 (OK ha hb I h λv u s2 x y H2 I2 rx ry q=>ho pins s2 σ H2 x y v u Q I2 rx ry q) hm
noncomputable def Mp(t:TE):TT:=λσ H Q=>t σ H λx H'=>∃k,x=.bl k/\Q k H'
theorem CI(ho:eh X (compareOp op) r)(ha:PE X a ta)(hb:PE X b tb)(hm:behindInMarks op b=false):PT X (.Compare a [op] [b] pos) (Mp (O4 r ta tb)):=by
 intro pins s σ H Q I h;refine wpAny_isTrue_Compare1 (cj (ha pins s σ H _ I h) λv s1 ⟨x,H1,I1,r1,q1⟩=>cj (hb pins s1 σ H1 _ I1 q1) λu s2 ⟨y,H2,I2,r2,q2⟩ =>
  cj (ho pins s2 σ H2 x y v u _ I2 r1 r2 q2) λc s3 ⟨z,H3,I3,r3,k,e,q3⟩=>?_) hm
 subst e;cases r3;exact Vp ⟨H3,I3,q3⟩
noncomputable def Bh(r r':R2) (ta tb tc:TE):TE:=λσ H Q=>ta σ H λx H1=>tb σ H1 λy H2=>r x y H2 λz H3=>∃k,z=.bl k /\
 (if k=true then tc σ H3 λw' H4=>r' y w' H4 Q else Q (.bl false) H3)
theorem HD(ho:eh X (compareOp op) r)(ho':eh X (compareOp op') r')(ha:PE X a ta)(hb:PE X b tb)(hc:PE X c tc)
  (hm:lastMarks [op,op'] [b,c]=false:=by with_unfolding_all rfl):PE X (.Compare a [op,op'] [b,c] pos) (Bh r r' ta tb tc):=by
 intro pins s σ H Q I h;refine Compare_chain (cj (ha pins s σ H _ I h) λv s1 ⟨x,H1,I1,r1,q1⟩=>chain_link (cj (hb pins s1 σ H1 _ I1 q1) λu s2 ⟨y,H2,I2,r2,q2⟩ =>
  cj (ho pins s2 σ H2 x y v u _ I2 r1 r2 q2) λd s3 ⟨z,H3,I3,r3,k,e,q3⟩=>?_)) hm
 subst e;cases r3;refine Vp ?_;cases k with|false=>exact ite_ff ⟨.bl false,H3,I3,rfl,q3⟩|true=>exact ite_tt (chain_last (cj (hc pins s3 σ H3 _ I3 q3) λw' s4 ⟨z',H4,I4,r4,q4⟩=>ho' pins s4 σ H4 y z' u w' Q I4 r2 r4 q4))
theorem Hs(ho:eh X (compareOp op) r)(ho':eh X (compareOp op') r')(ha:PE X a ta)(hb:PE X b tb)(hc:PE X c tc)
  (hm:lastMarks [op,op'] [b,c]=false:=by with_unfolding_all rfl):PT X (.Compare a [op,op'] [b,c] pos) (Mp (Bh r r' ta tb tc)):=by
 intro pins s σ H Q I h;refine isTrue_chain (cj (ha pins s σ H _ I h) λv s1 ⟨x,H1,I1,r1,q1⟩=>test_link (cj (hb pins s1 σ H1 _ I1 q1) λu s2 ⟨y,H2,I2,r2,q2⟩ =>
  cj (ho pins s2 σ H2 x y v u _ I2 r1 r2 q2) λd s3 ⟨z,H3,I3,r3,k,e,q3⟩=>?_)) hm
 subst e;cases r3;refine Vp ?_;cases k with
 |false =>
  obtain⟨k',e',q'⟩:=q3;cases e';exact ite_ff ⟨H3,I3,q'⟩
 |true =>
  refine ite_tt (test_last (cj (hc pins s3 σ H3 _ I3 q3) λw' s4 ⟨z',H4,I4,r4,q4⟩=>cj (ho' pins s4 σ H4 y z' u w' _ I4 r2 r4 q4) λd' s5 z9=>?_));obtain⟨z2,H5,I5,r5,k2,e2,q5⟩:=z9;subst e2;cases r5;exact Vp ⟨H5,I5,q5⟩
noncomputable def SV(K:Up) (x:V) (H:Hp) (k:Bool):Prop :=
 match x with
 |.non=>k=false
 |.bl b=>k=b
 |.int i=>k=(i != 0)
 |.str y=>y.length<=sizeLine/\k=((y.length:Int) != 0)
 |.byt y=>y.size<=sizeLine/\k=((y.size:Int) != 0)
 |.ref p=>(∃xs,eC K H p xs/\k=!xs.isEmpty)∨(∃xs,jK K H p xs/\k=!xs.isEmpty)∨∃kvs,H p=some (.dK kvs)/\k=!kvs.isEmpty
 |_=>False
theorem BQ{vs:List (κ×Value)}(r:KV kvs vs):(!vs.isEmpty)=!kvs.isEmpty:=by
 cases r<;>rfl
theorem sC(r:bH xs its):(!its.toArray.isEmpty)=!xs.isEmpty:=by
 cases r<;>simp
theorem oX:(sizeLine:Nat)<2 ^ 63:=by rw[sizeLine_eq];decide
theorem RW:SW X (λx H Q=>∃k,SV X.K x H k/\Q k H):=by
 intro pins s σ H x v Q I rx h;obtain⟨k,e,q⟩:=h;have hl:=oX;have hs:sizeLine=16777216:=sizeLine_eq;cases x with
 |non =>
  cases rx;have e':k=false:=e;subst e';exact truthy_none ⟨H,I,q⟩
 |bl b =>
  cases rx;have e':k=b:=e;subst e';exact Vp ⟨H,I,q⟩
 |int i =>
  obtain⟨t,rfl⟩:=rx;have e':k=(i != 0):=e;subst e';exact PySem.P.truthy_int ⟨H,I,q⟩
 |str y =>
  obtain⟨t,rfl⟩:=rx;obtain⟨hy,e'⟩:y.length<=sizeLine/\k=((y.length:Int) != 0):=e;subst e';exact PySem.P.truthy_str (by omega) ⟨H,I.tok _,q⟩
 |byt y =>
  obtain⟨t,rfl⟩:=rx;obtain⟨hy,e'⟩:y.size<=sizeLine/\k=((y.size:Int) != 0):=e;subst e';exact W.truthy_bytes (by omega) ⟨H,I.tok _,q⟩
 |ref p =>
  cases rx;have e':(∃xs,eC X.K H p xs/\k=!xs.isEmpty)∨(∃xs,jK X.K H p xs/\k=!xs.isEmpty)∨∃kvs,H p=some (.dK kvs)/\k=!kvs.isEmpty:=e;rcases e' with⟨xs,hx,e'⟩|⟨xs,hx,e'⟩|⟨kvs,hx,e'⟩
  .subst e'
   obtain⟨its,r,pl,hz⟩:=I.list hx;have hlen:=r.length;exact wpAny_truthy_list pl.isList (by simp only[UK];omega) ⟨H,I.tok _,by rw[sC r];exact q⟩
  .subst e'
   obtain⟨its,r,pl,hz⟩:=I.tuple hx;have hlen:=r.length;exact truthy_tuple pl (by simp only[UK];omega) ⟨H,I.tok _,by rw[sC r];exact q⟩
  .subst e'
   obtain⟨hz,hS,vs,r,m⟩:kvs.length<=sizeLine/\(p==sysModules)=false/\∃vs,KV kvs vs/\s.heap.DictOf (cI X.prog X.w) p vs:=I.hok p _ hx;have hlen:kvs.length=vs.length:=Xr r;exact wpAny_truthy_dict hS m (by omega) ⟨H,I.tok _,by rw[BQ r];exact q⟩
 |_=>exact(show False from e).elim
theorem rO:eh X (binaryOp .Add) (λx y H Q=>∃i j,x=.str i/\y=.str j/\i.length+j.length<=sizeLine/\Q (.str (i++j)) H):=by
 intro pins s σ H x y v u Q I rx ry h;obtain⟨i,j,rfl,rfl,hz,q⟩:=h;obtain⟨t,rfl⟩:=rx;obtain⟨t',rfl⟩:=ry;exact add_str (λt' tk=>⟨.str (i++j),H,I.tok _,⟨_,rfl⟩,q⟩) hz
theorem pz(r:bH [x] us):∃u,us=[u]/\bu x u:=by
 cases r with|cons r1 r2=>cases r2;exact⟨_,rfl,r1⟩
theorem Mm(r:bH [x,y] us):∃u w',us=[u,w']/\bu x u/\bu y w':=by
 cases r with
 |cons r1 r2 =>
  cases r2 with|cons r3 r4=>cases r4;exact⟨_,_,rfl,r1,r3⟩
theorem uJ:gY X (.builtin "abs") (λxs H Q=>∃i,xs=[.int i]/\Q (.int (if i<0 then -i else i)) H):=by
 intro pins s σ H xs us Q I r h;obtain⟨i,rfl,q⟩:=h;obtain⟨u,rfl,t,rfl⟩:=pz r;exact call_abs_int λu tk=>⟨.int (if i<0 then -i else i),H,I.tok _,⟨_,rfl⟩,q⟩
theorem F1(hc:X.calm=true):gY X (.builtin "max") (λxs H Q=>∃i j,xs=[.int i,.int j]/\Q (.int (if j > i then j else i)) H):=by
 intro pins s σ H xs us Q I r h;obtain⟨i,j,rfl,q⟩:=h;obtain⟨u,w',rfl,⟨t,rfl⟩,⟨t',rfl⟩⟩:=Mm r;refine max_two_ints (I.ok.hd hc) λh' tk k=>⟨_,H,I.kept k,?_,q⟩
 by_cases hj:j > i
 .rw[if_pos hj,if_pos hj];exact⟨_,rfl⟩
 .rw[if_neg hj,if_neg hj];exact⟨_,rfl⟩
theorem F0(hc:X.calm=true):gY X (.builtin "min") (λxs H Q=>∃i j,xs=[.int i,.int j]/\Q (.int (if j<i then j else i)) H):=by
 intro pins s σ H xs us Q I r h;obtain⟨i,j,rfl,q⟩:=h;obtain⟨u,w',rfl,⟨t,rfl⟩,⟨t',rfl⟩⟩:=Mm r;refine min_two_ints (I.ok.hd hc) λh' tk k=>⟨_,H,I.kept k,?_,q⟩
 by_cases hj:j<i
 .rw[if_pos hj,if_pos hj];exact⟨_,rfl⟩
 .rw[if_neg hj,if_neg hj];exact⟨_,rfl⟩
theorem wu:gY X (.type "int") (λxs H Q=>(∃i,xs=[.int i]/\Q (.int i) H)∨∃k,xs=[.bl k]/\Q (.int (if k then 1 else 0)) H):=by
 intro pins s σ H xs us Q I r h;rcases h with⟨i,rfl,q⟩|⟨k,rfl,q⟩
 .obtain⟨u,rfl,t,rfl⟩:=pz r
  exact call_int_int ⟨.int i,H,I,⟨_,rfl⟩,q⟩
 .obtain⟨u,rfl,r1⟩:=pz r
  cases r1;exact call_int_bool ⟨.int (if k then 1 else 0),H,I.tok _,⟨_,rfl⟩,q⟩
noncomputable def RC(K:Up) (x:V) (H:Hp) (n:Nat):Prop :=
 match x with
 |.str y=>y.length<=sizeLine/\n=y.length
 |.byt y=>y.size<=sizeLine/\n=y.size
 |.ref p=>(∃xs,eC K H p xs/\n=xs.length)∨∃xs,jK K H p xs/\n=xs.length
 |_=>False
theorem cC:gY X (.builtin "len") (λxs H Q=>∃x n,xs=[x]/\RC X.K x H n/\Q (.int n) H):=by
 intro pins s σ H xs us Q I r h;obtain⟨x,n,rfl,e,q⟩:=h;obtain⟨u,rfl,rx⟩:=pz r;have hl:=oX;have hs:sizeLine=16777216:=sizeLine_eq;cases x with
 |str y =>
  obtain⟨t,rfl⟩:=rx;obtain⟨hy,e'⟩:y.length<=sizeLine/\n=y.length:=e;subst e';exact len_str (by omega) ⟨.int _,H,I.tok _,⟨_,rfl⟩,q⟩
 |byt y =>
  obtain⟨t,rfl⟩:=rx;obtain⟨hy,e'⟩:y.size<=sizeLine/\n=y.size:=e;subst e';exact W.len_bytes (by omega) ⟨.int _,H,I.tok _,⟨_,rfl⟩,q⟩
 |ref p =>
  cases rx;have e':(∃xs,eC X.K H p xs/\n=xs.length)∨∃xs,jK X.K H p xs/\n=xs.length:=e;rcases e' with⟨xs,hx,e'⟩|⟨xs,hx,e'⟩
  .subst e'
   obtain⟨its,r',pl,hz⟩:=I.list hx;have hlen:=r'.length;exact Calls.call_len_list pl.isList (by simp only[UK];omega) ⟨.int xs.length,H,I.tok _,⟨_,by simp only[UK];rw[hlen]⟩,q⟩
  .subst e'
   obtain⟨its,r',pl,hz⟩:=I.tuple hx;have hlen:=r'.length;exact len_tuple pl (by simp only[UK];omega) ⟨.int xs.length,H,I.tok _,⟨_,by simp only[UK];rw[hlen]⟩,q⟩
 |_=>exact(show False from e).elim
end
structure OT (h:Heap) (x dx C:Addr) (mA:Str->Option Value):Prop where
 obj:h.get? x=some (W.instObj C dx)
 ns:h.Ns1 dx mA
 ne:dx≠x
theorem oW{h:Heap}{mA:Str->Option Value}(n:h.Ns1 dx mA):∃od,h.get? dx=some od/\∀name,YG name od=some (mA name):=by
 obtain⟨o,es,ep,ho,hd,hk,_,hm⟩:=n;refine⟨o,ho,λname=>?_⟩;have e:=hm name;unfold nsFind findBy at e;rw[←Array.find?_toList] at e;unfold YG;rw[hd];dsimp only;split
 .rename_i y q
  rw[q] at e;exact congrArg some e
 .rename_i q
  rw[q] at e;have a:es.toList.any (·.refKey)=false:=by
   rw[List.any_eq_false];intro y hy;obtain⟨z,t,hkey⟩:=hk y (YR.mp hy);simp [DictEntry.refKey,hkey]
  have a':¬es.toList.any (·.refKey)=true:=by rw[a];exact Vy
  rw[if_neg a'];exact congrArg some e
theorem OT.look{h:Heap}{mA:Str->Option Value}(I:OT h x dx C mA):∃od,X6 h x (W.instObj C dx) C (some od)/\∀name,YG name od=some (mA name) :=
 let ⟨od,ho,hl⟩:=oW I.ns
 ⟨od,⟨I.obj,rfl,rfl,ho⟩,hl⟩
section
variable {prog:Program}{w:World}{A:Around}{E:Value->Shared->Prop}{s:Shared}{K:Up}{x dx C f:Addr}{mA:Str->Option Value}{name:Str}{v:Value}
end
noncomputable def jL(f:Str) (v:V):List (Str×V)->List (Str×V)
 |[]=>[(f,v)]
 |(g,x)::r=>if g=f then(g,v)::r else(g,x)::jL f v r
theorem pI(f g:Str)(v:V):∀fs:List (Str×V),(jL f v fs).lookup g=if g=f then some v else fs.lookup g
 |[]=>by
  show WM g [(f,v)]=_
  by_cases h:g=f
  .have hb:(g==f)=true:=beq_iff_eq.mpr h
   simp only[WM,hb,if_pos h]
  .have hb:(g==f)=false:=beq_eq_false_iff_ne.mpr h
   simp only[WM,hb,if_neg h]
 |(k,x)::r=>by
  have ih:=pI f g v r;rw[show jL f v ((k,x)::r)=(if k=f then(k,v)::r else(k,x)::jL f v r) from rfl]
  by_cases hk:k=f
  .rw[if_pos hk]
   by_cases h:g=k
   .have hb:(g==k)=true:=beq_iff_eq.mpr h
    simp only[WM,hb,if_pos (h.trans hk)]
   .have hb:(g==k)=false:=beq_eq_false_iff_ne.mpr h
    simp only[WM,hb,if_neg (λe:g=f=>h (e.trans hk.symm))]
  .rw[if_neg hk]
   by_cases h:g=k
   .have hb:(g==k)=true:=beq_iff_eq.mpr h
    simp only[WM,hb,if_neg (λe:g=f=>hk (h.symm.trans e))]
   .have hb:(g==k)=false:=beq_eq_false_iff_ne.mpr h
    simp only[WM,hb];exact ih
theorem o4(f:Str)(v:V):∀fs:List (Str×V),f∈(jL f v fs).map (·.1)/\∀g,g∈fs.map (·.1)->g∈(jL f v fs).map (·.1)
 |[]=>⟨by simp [jL],λg h=>by simp at h⟩
 |(k,x)::r=>by
  obtain⟨i1,i2⟩:=o4 f v r;rw[show jL f v ((k,x)::r)=(if k=f then(k,v)::r else(k,x)::jL f v r) from rfl]
  by_cases hk:k=f
  .rw[if_pos hk]
   subst hk;exact⟨by simp,λg h=>by simpa using h⟩
  .rw[if_neg hk]
   refine⟨?_,λg h=>?_⟩
   .rw[UG]
    exact Uu _ i1
   .rw[UG] at h ⊢
    rcases Uv.mp h with e|e
    .exact Uv.mpr (.inl e)
    .exact Uu _ (i2 g e)
theorem jF(r:vh (some v) o):∃u,o=some u/\bu v u:=by
 cases o with|none=>exact(show False from r).elim|some u=>exact⟨u,rfl,r⟩
theorem FE(r:bu v u):W.handedIn u=true:=by
 cases v with|non=>cases (show u=Vv from r);rfl|bl b=>cases (show u=Vw b from r);rfl|int i=>obtain⟨t,e⟩:=(show ∃t,u=VM i t from r);cases e;rfl|str x=>obtain⟨t,e⟩:=(show ∃t,u=VL x t from r);cases e;rfl|byt b=>obtain⟨t,e⟩:=(show ∃t,u=Value.bytes b t from r);cases e;rfl|flt b=>obtain⟨t,e⟩:=(show ∃t,u=YI b t from r);cases e;rfl|ref a=>cases (show u=UZ a from r);rfl|ty n=>cases (show u=Value.type n from r);rfl
section
variable {P:Program}{w:World}{H H':Hp}{h h':Heap}{a C dx:Addr}{fs fs':List (Str×V)}
theorem Dd(hok:fP P w H h)(e:H a=some (.ins C dx fs)):∃mA,OT h a dx C mA/\(∀f,vh (fs.lookup f) (mA f))/\Wi mA (fs.map (·.1))/\fs.length<=1000/\H dx=some (.own a):=by
 obtain⟨d,z,ne,ob,mA,n,r,q⟩:=(show bN P w H h a (.ins C dx fs) from hok a _ e)
 exact⟨mA,⟨ob,n,ne⟩,r,q,z,d⟩
end
structure RV (K:Up) (C:Addr):Prop where
 pg:W.plainGet K C Str.empty=true
 hd:WC K C=true
 po:W.plainOver K C=true
 sa:VQ K (.ref C) "__setattr__"=some (some (.builtin "object.__setattr__"))
theorem RV.get{K:Up}(c:RV K C)(f:Str):W.plainGet K C f=true:=c.pg
noncomputable def iE(K:Up) (C:Addr) (f:Str):Prop:=VQ K (.ref C) f=some none
section
variable {X:Cx}{pins:List (Addr×Obj)}{σ:St}{H:Hp}{s:Shared}{a C dx:Addr}{fs:List (Str×V)}{f:Str}{v:V}{A:Around}{E:Value->Shared->Prop}
theorem L7(hb:attributeBase e f env (eval e env)=eval e env)
  (h:wpAny (model prog w) A (eval e env) (λo sg=>wpAny (model prog w) A (getAttr o f true) Q E sg) E s):wpAny (model prog w) A (eval (.Attribute e f pos) env) Q E s :=
 Attribute_any_ h (by rw[arm_eval_Attribute,hb])
end
section
variable {X:Cx}{o e value:Expr}{f:Str}{pos pos' tpos:Pos}{ta tv:TE}
end
section
variable {X:Cx}{pins:List (Addr×Obj)}{σ:St}{H:Hp}{s:Shared}{A:Around}{E:Value->Shared->Prop}{Q:Value->Shared->Prop}{c:Value}{b:Bool}
inductive qt (K:Up) (H:Hp):V->Value->Prop where
 |non:qt K H .non (.type "NoneType")
 |bl (x:Bool):qt K H (.bl x) (.type "bool")
 |int (i:Int):qt K H (.int i) (.type "int")
 |str (x:Str):qt K H (.str x) (.type "str")
 |flt (x:UInt64):qt K H (.flt x) (.type "float")
 |lst {a:Addr}{xs:List V}(e:H a=some (.lst xs)):qt K H (.ref a) (.type "list")
 |frz {a:Addr}{o:Obj}{xs:List V}(e:H a=some (.frz o (.lst xs))):qt K H (.ref a) (.type "list")
 |tup {a:Addr}{xs:List V}(e:H a=some (.tup xs)):qt K H (.ref a) (.type "tuple")
 |dK {a:Addr}{kvs:List (gh×V)}(e:H a=some (.dK kvs)):qt K H (.ref a) (.type "dict")
 |dT {a:Addr}{kvs:List (List gh×V)}(e:H a=some (.dT kvs)):qt K H (.ref a) (.type "dict")
 |ins {a C dx:Addr}{fs:List (Str×V)}(e:H a=some (.ins C dx fs)) (cl:RV K C) (ha:VQ K (.ref C) "__class__"=some (some (.builtin "object.__class__")))
   (hn:XS K (.builtin "object.__class__") "__get__"=some (some (.builtin "getset_descriptor.__get__"))) (htk:W.takesIn K (.builtin "object.__class__")=some true)
   (hm:WR K C (.type "object")=some true):qt K H (.ref a) (.ref C)
theorem kR(I:Inv X pins σ H s)(rx:bu x u)(ty:qt X.K H x t)(e:Xh X.K t c=some b)(h:∀tk,Q (.bool b) { s with toks:=tk }) :
  wpAny (model X.prog X.w) A (call (.builtin "isinstance") [u,c]) Q E s:=by
 cases ty with
 |non=>cases (show u=Vv from rx);exact VA W.kitx_none I.kIn VN e (λz=>nomatch z) h|bl y=>cases (show u=Vw y from rx);exact VA W.kitx_bool I.kIn VN e (λz=>nomatch z) h|int i=>obtain⟨t,q⟩:=(show ∃t,u=VM i t from rx);cases q;exact VA W.kitx_int I.kIn VN e (λz=>nomatch z) h|str y=>obtain⟨t,q⟩:=(show ∃t,u=VL y t from rx);cases q;exact VA W.kitx_str I.kIn VN e (λz=>nomatch z) h|flt y=>obtain⟨t,q⟩:=(show ∃t,u=YI y t from rx);cases q;exact VA W.kitx_float I.kIn VN e (λz=>nomatch z) h
 |@lst a xs ea =>
  cases (show u=UZ a from rx);obtain⟨_,_,n,_,h1⟩:=(show bN X.prog X.w H s.heap a (.lst xs) from I.hok a _ ea)
  exact VA YH I.kIn ⟨_,h1,rfl⟩ e (λz=>nomatch z) h
 |@frz a ob xs ea =>
  cases (show u=UZ a from rx);obtain⟨_,_,_,n,_,h1⟩:=(show bN X.prog X.w H s.heap a (.frz ob (.lst xs)) from I.hok a _ ea)
  exact VA YH I.kIn ⟨_,h1,rfl⟩ e (λz=>nomatch z) h
 |@tup a xs ea =>
  cases (show u=UZ a from rx);obtain⟨_,_,_,p⟩:=(show bN X.prog X.w H s.heap a (.tup xs) from I.hok a _ ea)
  obtain⟨o,h1,h2,_⟩:=p;exact VA W.kitx_tuple I.kIn ⟨o,h1,h2⟩ e (λz=>nomatch z) h
 |@dK a kvs ea =>
  cases (show u=UZ a from rx);obtain⟨_,_,vs,_,p⟩:=(show bN X.prog X.w H s.heap a (.dK kvs) from I.hok a _ ea)
  obtain⟨o,es,ep,h1,h2,_⟩:=p;exact VA XT I.kIn ⟨o,h1,h2.1⟩ e (λz=>nomatch z) h
 |@dT a kvs ea =>
  cases (show u=UZ a from rx);obtain⟨_,_,xs,_,o,es,ep,h1,h2,_⟩:=(show bN X.prog X.w H s.heap a (.dT kvs) from I.hok a _ ea)
  exact VA XT I.kIn ⟨o,h1,h2.1⟩ e (λz=>nomatch z) h
 |@ins a C dx fs ea cl ha hn htk hm =>
  cases (show u=UZ a from rx);obtain⟨mA,O,_⟩:=Dd I.hok ea;obtain⟨od,J,_⟩:=O.look;exact VA (W.kitx_own (cl.get _) cl.hd ha hn htk hm) I.kIn J e (λz=>nomatch z) h
end
structure cE (k:Nat) (A:Around):Prop where
 hd:A.handled=none
 dp:A.depth+3*k+5<recursionLimit
 un:A.units+16*k+200<cLine
 gd:A.guards=some []
theorem cE.mono{j k:Nat}(r:cE k A)(h:j<=k):cE j A:=⟨r.hd,by have:=r.dp;omega,by have:=r.un;omega,r.gd⟩
theorem cE.deeper{k:Nat}(r:cE (k+1) A)(env:Env):cE k (A.deeper env) :=
 ⟨r.hd,by have:=r.dp;show A.depth+1+3*k+5<_;omega,by have:=r.un;show A.units+3+16*k+200<_;omega,r.gd⟩
theorem BH{A:Around}:(A.under (.builtin "type.__call__" ⟨.ref C::us,kw⟩)).depth=A.depth+1:=by
 first|rfl|simp [XJ,Code.weight,Code.isCreation,Code.isGuard,Code.isCaller,Code.frames,YA,guardIds]
theorem BG{A:Around}:(A.under (.builtin "type.__call__" ⟨.ref C::us,kw⟩)).units=A.units+1:=by
 first|rfl|simp [XJ,Code.cUnits,Code.frames,YA]
theorem cE.make{k:Nat}(r:cE (k+1) A)(C:Addr)(us:List Value)(kw:List (Str×Value)):cE k (A.under (.builtin "type.__call__" ⟨.ref C::us,kw⟩)) :=
 ⟨r.hd,by have:=r.dp;rw[BH];omega,by have:=r.un;rw[BG];omega,by have:=r.gd;simp [XJ,Code.guards,Code.isGuard,guardIds,pushGuards,this]⟩
theorem cE.depth{k:Nat}(r:cE k A):A.depth<recursionLimit:=by have:=r.dp;omega
theorem cE.units{k:Nat}(r:cE k A):A.units+64<cLine:=by have:=r.un;omega
noncomputable def Se:TA:=λ_ H Q=>Q [] H
noncomputable def PK(ta:TE) (tr:TA):TA:=λσ H Q=>ta σ H λx H1=>tr σ H1 λxs H2=>Q (x::xs) H2
section
variable {X:Cx}{e:Expr}{es:List Expr}{te:TE}{t:TA}{pos:Pos}
theorem eY:PA X [] Se:=λ_ _ _ _ H Q I h=>Calls.spliced_nil ⟨[],H,I,.nil,h⟩
theorem cH(ha:PE X e te)(hr:PA X es t)(hs:starEach (e::es) X.env=(false,eval e X.env)::starEach es X.env:=by rfl):PA X (e::es) (PK te t):=by
 intro pos pins s σ H Q I h;rw[hs];show wpAny _ _ (spliced ((false,eval e X.env)::backTo pos (starEach es X.env))) _ _ s;refine Calls.spliced_cons (cj (ha pins s σ H _ I h) λu s1 ⟨x,H1,I1,r1,q1⟩=>?_);exact cj (hr pos pins s1 σ H1 _ I1 q1) λus s2 ⟨xs,H2,I2,r2,q2⟩=>⟨x::xs,H2,I2,.cons r1 r2,q2⟩
noncomputable def R7(t:TA):TE:=λσ H Q=>t σ H λxs H1=>xs.length<=sizeLine/\∀p,H1 p=none->Q (.ref p) (upd H1 p (.tup xs))
noncomputable def Sg(t:TA):TE:=λσ H Q=>t σ H λxs H1=>xs.length<=sizeLine/\∀p,H1 p=none->Q (.ref p) (upd H1 p (.lst xs))
theorem Bt{x1}(h:PA X es t):PE X (.Tuple es x1 pos) (R7 t):=by
 intro pins s σ H Q I hq;refine wpAny_Tuple_spliced (cj (h pos pins s σ H _ I hq) λus s1 ⟨xs,H1,I1,r,z,q⟩=>⟨by rw[←r.length];exact z,?_⟩);have hf:H1 s1.heap.objs.size=none:=I1.hok.fresh (UB _);refine⟨.ref s1.heap.objs.size,upd H1 s1.heap.objs.size (.tup xs),I1.laid (t':=s1.toks) (λb u e=>Ux _ e) (UB _) ?_,rfl,q _ hf⟩;exact⟨z,us,r,⟨_,Vl _ rfl,rfl,_,rfl⟩⟩
theorem Bu(h:PA X es t):PE X (.List es pos) (Sg t):=by
 intro pins s σ H Q I hq;refine wpAny_List_spliced (cj (h pos pins s σ H _ I hq) λus s1 ⟨xs,H1,I1,r,z,q⟩=>⟨by rw[←r.length];exact z,?_⟩);have hf:H1 s1.heap.objs.size=none:=I1.hok.fresh (UB _);refine⟨.ref s1.heap.objs.size,upd H1 s1.heap.objs.size (.lst xs),I1.laid (t':=s1.toks) (λb u e=>Ux _ e) (UB _) ?_,rfl,q _ hf⟩;exact⟨z,us,0,r,Vl _ rfl⟩
end
noncomputable abbrev Sp:=List V->Hp->VK->XK->Prop
noncomputable abbrev A5:=List Env->Hp->Shared->XK->Value->Shared->Prop
structure A4 (P:Program) (w:World) (K:Up) (mg:Str->Option Value) (base:Heap) (A:Around) (outer:List Env) (s:Shared) (H:Hp):Prop where
 frames:A.frames=some outer
 mod:Mod K mg base
 bs:∀b o,base.get? b=some o->s.heap.get? b=some o/\H b=none
 bsz:base.objs.size<=s.heap.objs.size
 funs:s.heap.FunFrames base outer
 frf:∀b∈gZ outer,H b=none
 hok:fP P w H s.heap
 bare:AllBare s.gens
noncomputable def CE(outer:List Env) (P:Program) (w:World) (H:Hp) (s:Shared) (Q:VK) (u:Value) (s':Shared):Prop :=
 ∃v H',s'.os=s.os/\AllBare s'.gens/\Un (gZ outer) [] H H' s.heap s'.heap/\fP P w H' s'.heap/\bu v u/\Q v H'
noncomputable def CR(CX:A5) (outer:List Env) (P:Program) (w:World) (H:Hp) (s:Shared) (Q:VK) (E:XK) (r:Result) (s':Shared):Prop :=
 match r with
 |.ok (.ret u)=>CE outer P w H s Q u s'
 |.ok _=>False
 |.error e=>CX outer H s E e s'
structure fN (P:Program) (w:World) (K:Up) (mg:Str->Option Value) (base:Heap) (CX:A5) (k:Nat) (f:Addr) (fd:FuncData) (ps:List Str) (sp:Sp):Prop where
 len:∀vs H Q E,sp vs H Q E->vs.length=ps.length
 run:∀(A:Around) (outer:List Env) (s:Shared) (H:Hp) (args:Args) (us:List Value) (vs:List V) (Q:VK) (E:XK),cE k A->A4 P w K mg base A outer s H->BindsTo s fd args (ps.zip us)->bH vs us->sp vs H Q E ->
  codeAny (model P w) A (.call (.ref f) args) (CR CX outer P w H s Q E) s
theorem fN.mono{K:Up}{j k:Nat}{ps:List Str}(F:fN P w K mg base CX j f fd ps sp)(h:j<=k) :
  fN P w K mg base CX k f fd ps sp:=⟨F.len,λA outer s H args us vs Q E hr=>F.run A outer s H args us vs Q E (hr.mono h)⟩
theorem A4.make{K:Up}(e:A4 P w K mg base A outer s H)(C:Addr)(us:List Value)(kw:List (Str×Value)) :
  A4 P w K mg base (A.under (.builtin "type.__call__" ⟨.ref C::us,kw⟩)) outer s H:=⟨by first|exact e.frames|(simpa [XJ,Code.envs,YA,pushEnvs] using e.frames),e.mod,e.bs,e.bsz,e.funs,e.frf,e.hok,e.bare⟩
section
variable {X:Cx}{pins:List (Addr×Obj)}{σ:St}{H:Hp}{s s':Shared}
theorem Inv.env0(I:Inv X pins σ H s):A4 X.prog X.w X.K X.mg X.base X.A X.stack s H :=
 ⟨I.ok.frames,I.ok.mod,I.bs,UO I.ok.bsz I.sz,I.stack,I.stkFree,I.hok,I.bare⟩
theorem Inv.after(I:Inv X pins σ H s)(h:CE X.stack X.prog X.w H s Q u s'):EP X pins σ Q u s':=by
 obtain⟨v,H',os,bare,un,hok,r,q⟩:=h;obtain⟨hh,g,d,t,os'⟩:=s';obtain rfl:os'=s.os:=os;exact⟨v,H',I.call (h':=hh) (g':=g) (d':=d) (t':=t) (ch:=[]) un hok bare (λb z=>absurd z (by simp)),r,q⟩
end
noncomputable def PL(sp:Sp) (dvs:List V) (E:XK) (t:TA):TE:=λσ H Q=>t σ H λvs H1=>sp (vs++dvs) H1 Q E
noncomputable def ik(K:Up) (fd:FuncData) (ps:List Str) (ds:List Value):Prop :=
 ∀(s:Shared) (us:List Value),K.In s.heap->(us++ds).length=ps.length->BindsTo s fd ⟨us,[]⟩ (ps.zip (us++ds))
theorem ik.all{K:Up}{ps:List Str}(h:∀us:List Value,us.length=ps.length->bindArgs fd ⟨us,[]⟩=pure (ps.zip us)):ik K fd ps []:=λs us _ hl=>by
 rw[UT] at hl ⊢;exact .of_eq (h us hl)
noncomputable def gf(CX:A5) (X:Cx) (E:XK):Prop:=∀(pins:List (Addr×Obj)) (σ:St) (H:Hp) (s:Shared) (e:Value) (s':Shared),Inv X pins σ H s->CX X.stack H s E e s'->X.xe e s'
section
variable {X:Cx}{CX:A5}{k:Nat}{f C:Addr}{fd:FuncData}{ps:List Str}{sp:Sp}{dvs:List V}{ds:List Value}{E:XK}{x m:Str}{p pos apos:Pos}{e o:Expr}{es:List Expr}{ta:TE}{t:TA}
theorem Ny(F:fN X.prog X.w X.K X.mg X.base CX k f fd ps sp)(hr:cE k X.A)(hb:ik X.K fd ps ds)(hd:bH dvs ds)(hx:gf CX X E)
  (I:Inv X pins σ H s)(r:bH vs us)(h:sp (vs++dvs) H Q E):wpAny (model X.prog X.w) X.A (call (.ref f) us) (EP X pins σ Q) X.xe s:=by
 have r2:bH (vs++dvs) (us++ds):=r.append hd;have hl:(us++ds).length=ps.length:=by rw[←r2.length];exact F.len _ _ _ _ h
 refine wpAny_call (codeAny_mono (F.run X.A X.stack s H ⟨us,[]⟩ (us++ds) (vs++dvs) Q E hr I.env0 (hb s us I.kIn hl) r2 h) λr s' hq=>?_);cases r with
 |error e=>exact hx pins σ H s e s' I hq
 |ok fl =>
  cases fl with|ret u=>exact I.after hq|next|brk|cont=>exact Vo hq
theorem qA(F:fN X.prog X.w X.K X.mg X.base CX k f fd ps sp)(hr:cE k X.A)(hg:Gl X x)(hm:X.mg x=some (.ref f))(hk:WD X.K (.ref f)=true)(hb:ik X.K fd ps ds)(hd:bH dvs ds)(hx:gf CX X E)
  (ha:PA X (e::es) t)(hdb:(x==("__debug__":Str))=false:=by decide)(he:starEach (e::es) X.env=(false,eval e X.env)::starEach es X.env:=by rfl)(hpl:(backTo pos (starEach es X.env)).any (·.1)=false:=by rfl) :
  PE X (.Call (.Name x p) (e::es) [] pos) (PL sp dvs E t):=by
 intro pins s σ H Q I h;refine wpAny_Call_Name_kw (jh I hg hm ?_ hdb);refine W.callWith_K (h₀:=X.base) I.ok.mod.kin hk (cj (ha pos pins s σ H _ I h) λus s1 ⟨vs,H1,I1,r,q⟩=>⟨I1.kIn,?_⟩) he hpl;exact Ny F hr hb hd hx I1 r q
end
section
variable {X:Cx}{CX:A5}{k:Nat}{f C:Addr}{fd:FuncData}{ps ks:List Str}{sp:Sp}{E:XK}{x m:Str}{p pos apos kpos:Pos}{e o:Expr}{es:List Expr}{kws:List Keyword}{te ta:TE}{t tk:TA}{nm:Option Str}
variable {g:List Value->List Value->List Value}{gV:List V->List V->List V}
end
structure d8 (N P:List Str) (sc:Scope):Prop where
 kind:sc.kind=.function
 co:sc.isCoroutine=false
 gen:sc.isGenerator=false
 nd:N.Nodup
 pre:N.take P.length=P
 par:∀x∈P,sc.names.lookup x=some .local ∨ sc.names.lookup x=some .cell
 nofree:∀y∈sc.names,y.2≠.free
theorem wz{kindOf:Str->Option NameKind}:∀{binds:List (Str×Value)}{m:Str->Option Value},(∀v,(x,v)∉binds)->bindL kindOf binds m x=m x
 |[],_,_=>rfl
 |(n,v)::r,m,h=>by
  unfold bindL;rw[wz λw hw=>h w (Uu _ hw)];split
  .have:x≠n:=by rintro rfl;exact h v UM
   simp [this]
  .rfl
theorem wB{kindOf:Str->Option NameKind}:∀{binds:List (Str×Value)}{m:Str->Option Value},(∀v,(x,v)∉binds)->bindC kindOf binds m x=m x
 |[],_,_=>rfl
 |(n,v)::r,m,h=>by
  unfold bindC;rw[wB λw hw=>h w (Uu _ hw)];split
  .rfl
  .have:x≠n:=by rintro rfl;exact h v UM
   simp [this]
theorem wA{kindOf:Str->Option NameKind}{x:Str}{v:Value}:∀{P:List Str}{vs:List Value}{i:Nat}{m:Str->Option Value},P.Nodup->P[i]?=some x->vs[i]?=some v->kindOf x=some .local ->
  bindL kindOf (P.zip vs) m x=some v
 |[],_,_,_,_,h,_,_=>by simp at h
 |_::_,[],_,_,_,_,h,_=>by simp at h
 |p::P,w::vs,0,m,nd,h1,h2,hk=>by
  simp at h1 h2;subst h1;subst h2;show bindL kindOf ((p,w)::P.zip vs) m p=_;unfold bindL;rw[wz λv hv=>(VZ.mp nd).1 (X1 hv).1,if_pos hk];simp
 |p::P,w::vs,i+1,m,nd,h1,h2,hk=>by
  show bindL kindOf ((p,w)::P.zip vs) m x=_;unfold bindL;exact wA (i:=i) (VZ.mp nd).2 (by simpa using h1) (by simpa using h2) hk
theorem wC{kindOf:Str->Option NameKind}{x:Str}{v:Value}:∀{P:List Str}{vs:List Value}{i:Nat}{m:Str->Option Value},P.Nodup->P[i]?=some x->vs[i]?=some v->kindOf x≠some .local ->
  bindC kindOf (P.zip vs) m x=some v
 |[],_,_,_,_,h,_,_=>by simp at h
 |_::_,[],_,_,_,_,h,_=>by simp at h
 |p::P,w::vs,0,m,nd,h1,h2,hk=>by
  simp at h1 h2;subst h1;subst h2;show bindC kindOf ((p,w)::P.zip vs) m p=_;unfold bindC;rw[wB λv hv=>(VZ.mp nd).1 (X1 hv).1,if_neg hk];simp
 |p::P,w::vs,i+1,m,nd,h1,h2,hk=>by
  show bindC kindOf ((p,w)::P.zip vs) m x=_;unfold bindC;exact wC (i:=i) (VZ.mp nd).2 (by simpa using h1) (by simpa using h2) hk
noncomputable def start(N:List Str) (vs:List V):St:=vs.map some++U2 (N.length-vs.length) none
noncomputable def di(CX:A5) (P:Program) (w:World) (K:Up) (mg:Str->Option Value) (base:Heap) (N:List Str) (qual:Str) (scope:Scope) (f:Addr) (cd:Value) (A:Around) (outer:List Env) (s:Shared) (H:Hp) (E:XK):Cx where
 prog:=P
 w:=w
 K:=K
 mg:=mg
 base:=base
 A:=A.deeper (envOfC qual scope s.heap.objs.size f cd)
 N:=N
 sf:=s
 Ha:=H
 env:=envOfC qual scope s.heap.objs.size f cd
 outer:=outer
 stack:=envOfC qual scope s.heap.objs.size f cd::outer
 ex:=[]
 calm:=true
 fn:=λ_=>true
 pn:=[]
 xe:=λe s'=>wpAny (model P w) (A.deeper (envOfC qual scope s.heap.objs.size f cd)) (leaving (envOfC qual scope s.heap.objs.size f cd) e) (λ_ s''=>CX outer H s E e s'') (λe' s''=>CX outer H s E e' s'') s'
theorem AW{sc:Scope}(h:sc.names.lookup x=some .cell):∃c,(cellsFrom n sc.names []).lookup x=some c:=by
 have q:=W.cellsFrom_some sc.names n [] (.inl h);exact W4.mp q
theorem FA{K:Up}{N ps:List Str} 
  (S:d8 N ps scope)(hd:A.handled=none)(e0:A4 P w K mg base A outer s H)(hl:vs.length=ps.length)(r:bH vs us)
  (x:InCallC s s.heap.objs.size (bindL (envOfC qual scope s.heap.objs.size f cd).kindOf (ps.zip us) λ_=>none) (cellsFrom (s.heap.objs.size+1) scope.names []) (bindC (envOfC qual scope s.heap.objs.size f cd).kindOf (ps.zip us) λ_=>none) s1) :
  Inv (di CX P w K mg base N qual scope f cd A outer s H E) [] (start N vs) H s1:=by
 have hpl:ps.length<=N.length:=by have:=congrArg WZ S.pre;rw[Vf] at this;omega
 obtain⟨h1,tk,rfl,hk⟩:=x.done;have noA:∀b:Addr,b∉(di CX P w K mg base N qual scope f cd A outer s H E).ex:=λb z=>absurd (show b∈([]:List Addr) from z) (by simp);refine⟨⟨e0.mod,S.kind,rfl,rfl,UB _,λy z c h1 h2=>?_,λy hy=>?_,λy c _ h=>?_,λ_=>hd,Around.frames_deeper e0.frames,.inr ⟨rfl,rfl⟩,λb z=>absurd z (noA b),e0.bs,e0.bsz,λb _ _=>noA b,λb z=>absurd z (noA b),e0.funs,e0.frf⟩,
  rfl,e0.bare,Un.kept hk,⟨_,x.toInCall.ns,λi y v h1 h2 h3=>?_⟩,λy c h=>⟨_,x.cell y c h⟩,e0.hok.fresh (UB _),λy c h=>?_,λp hp=>absurd (show p∈([]:List (Addr×Obj)) from hp) (by simp),e0.hok.kept hk,?_⟩
 .exact name_of_addr x.apart (VT h1) (VT h2)
 .have hy:scope.names.lookup y=some .cell∨scope.names.lookup y=some .free:=hy
  rcases hy with hy|hy
  .exact AW hy
  .exact absurd rfl (S.nofree _ (VT hy))
 .exact WV (x.above y c (VT h))
 .have hi:i<vs.length:=by
   unfold start at h2
   by_cases hi:i<vs.length
   .exact hi
   .rw[UN (by simpa using hi)] at h2
    rw[UW] at h2;split at h2<;>cases h2
  have ha:vs[i]?=some v:=by
   unfold start at h2;rw[UH (by simpa using hi),UD] at h2;cases e:vs[i]? with|none=>rw[e] at h2;cases h2|some a=>rw[e] at h2;cases h2;rfl
  obtain⟨u,hu,rv⟩:=r.get ha;have hp:ps[i]?=some y:=by
   rw[←S.pre,Yh (by omega)];exact h1
  have ndP:ps.Nodup:=by rw[←S.pre];exact S.nd.sublist (List.take_sublist _ _)
  refine⟨u,rv,?_⟩;rcases S.par y (UA hp) with k|k
  .exact .inl ⟨k,wA ndP hp hu k⟩
  .obtain⟨c,e⟩:=AW (n:=s.heap.objs.size+1) k
   refine .inr ⟨.inl k,c,e,?_⟩;have q:=x.cell y c e;rw[wC ndP hp hu (by show scope.names.lookup y≠_;rw[k];decide)] at q;exact q
 .exact e0.hok.fresh (WV (x.above y c (VT h)))
 .unfold start
  show _=N.length;rw[U6,Ur,Vj];omega
theorem MF{K:Up}{k:Nat}{dV kV doc pm cdv ct oc:Value}
  {N ps:List Str}(lk:K.lookup f=some ⟨oc,od,.func (Ww name qual params body scope dV kV doc pm an cdv ct),osl⟩) (hcd:X5 K cdv qual=true) (S:d8 N ps scope)
  (len:∀vs H Q E,sp vs H Q E->vs.length=ps.length)
  (hbody:∀(A:Around) (outer:List Env) (s:Shared) (H:Hp) (vs:List V) (Q:VK) (E:XK),cE k (A.deeper (envOfC qual scope s.heap.objs.size f cdv))->sp vs H Q E ->
   ∃t,wJ (di CX P w K mg base N qual scope f cdv A outer s H E) body t/\t { nx:=λ_ H'=>Q .non H',rt:=Q } (start N vs) H) :
  fN P w K mg base CX (k+1) f (Ww name qual params body scope dV kV doc pm an cdv ct) ps sp:=by
 refine⟨len,λA outer s H args us vs Q E hr e0 hb r hsp=>?_⟩;have hl:=len _ _ _ _ hsp;have KX:K.In s.heap:=e0.mod.kin.keeps λb o e=>(e0.bs b o e).1;have lim:s.heap.NoLimit:=e0.mod.nolimit.keeps λb o e=>(e0.bs b o e).1;have hkind:∀y∈ps.zip us,scope.names.lookup y.1=some .local ∨ (scope.names.lookup y.1=some .cell/\((cellsFrom (s.heap.objs.size+1) scope.names []).lookup y.1).isSome=true):=λ⟨n,v⟩ hy=>by
  rcases S.par n (X1 hy).1 with q|q
  .exact .inl q
  .exact .inr ⟨q,W.cellsFrom_some _ _ _ (.inl q)⟩
 refine codeAny_call_function hr.depth (KX _ _ lk) rfl S.co S.gen rfl (W.codeRec_of KX hcd) (hb _ _ _ _ ?_);refine wpAny_newFunctionEnv_cells S.kind hkind λenv he s1 x=>?_;subst he;refine⟨lim.keeps x.toInCall.keep,codeAny_func ?_⟩;obtain⟨t,ht,hq⟩:=hbody A outer s H vs Q E (hr.deeper _) hsp;have I:Inv (di CX P w K mg base N qual scope f cdv A outer s H E) [] (start N vs) H s1:=FA S hr.hd e0 hl r x;refine Vh (ht [] s1 (start N vs) H _ I hq) (λfl s' hs=>?_) λe s' hs=>hs;have fin:∀{σ':St}{H':Hp}{v:V}{u:Value},Inv (di CX P w K mg base N qual scope f cdv A outer s H E) [] σ' H' s'->bu v u->Q v H'->CE outer P w H s Q u s' :=
  λ{σ' H' v u} J rv q=>⟨v,H',J.os,J.bare,J.base,J.hok,rv,q⟩
 cases fl with
 |ret u =>
  obtain⟨v,σ',H',J,rv,q⟩:=hs;exact fin J rv q
 |next =>
  obtain⟨σ',H',J,q⟩:=hs;exact fin (v:=V.non) (u:=Vv) J rfl q
 |brk =>
  obtain⟨_,_,_,q⟩:=hs;exact Vo q
 |cont =>
  obtain⟨_,_,_,q⟩:=hs;exact Vo q
section
variable {X:Cx}{x:Str}{p pos:Pos}{e:Expr}{es:List Expr}{t:TA}{id T:String}{r:List V->Hp->VK->Prop}
noncomputable def Tn(r:List V->Hp->VK->Prop) (t:TA):TE:=λσ H Q=>t σ H λvs H1=>r vs H1 Q
theorem mn(hc:gY X (.builtin id) r)(hg:Gl X x)(hm:X.mg x=none)(hv:bootBuiltins x=some (.builtin id))(ha:PA X (e::es) t)(hn:x≠"__name__":=by decide)(hdb:(x==("__debug__":Str))=false:=by decide)
  (he:starEach (e::es) X.env=(false,eval e X.env)::starEach es X.env:=by rfl)(hpl:(backTo pos (starEach es X.env)).any (·.1)=false:=by rfl):PE X (.Call (.Name x p) (e::es) [] pos) (Tn r t):=by
 intro pins s σ H Q I h;refine wpAny_Call_Name_kw (rZ I hg hm hv ?_ hn hdb);exact PyProof.Rows.callWith_builtin1 (cj (ha pos pins s σ H _ I h) λus s1 ⟨vs,H1,I1,r1,q1⟩=>hc pins s1 σ H1 vs us Q I1 r1 q1) he hpl
theorem Ff(hc:gY X (.type T) r)(hg:Gl X x)(hm:X.mg x=none)(hv:bootBuiltins x=some (.type T))(ha:PA X (e::es) t)(hn:x≠"__name__":=by decide)(hdb:(x==("__debug__":Str))=false:=by decide)
  (he:starEach (e::es) X.env=(false,eval e X.env)::starEach es X.env:=by rfl)(hpl:(backTo pos (starEach es X.env)).any (·.1)=false:=by rfl):PE X (.Call (.Name x p) (e::es) [] pos) (Tn r t):=by
 intro pins s σ H Q I h;refine wpAny_Call_Name_kw (rZ I hg hm hv ?_ hn hdb);exact WS (cj (ha pos pins s σ H _ I h) λus s1 ⟨vs,H1,I1,r1,q1⟩=>hc pins s1 σ H1 vs us Q I1 r1 q1) he hpl
end
end L2
namespace HT
open PySem PyProof.Rows
section
open PySem.SeqAt
open PySem.AutoSeq1 (wpAny_loadPart')
open PySem.MeetsSeq PySem.MeetsSeq2 PySem.MeetsSeq3
end
section
variable {prog:Program}{w:World}{A:Around}{E:Value->Shared->Prop}{s:Shared}
theorem cat_tup(ht:IsTup s.heap t vs.toArray)(hb:IsTup s.heap b ws.toArray)(hv:vs≠[])
  (h1:ws=[]->Q (.ref t) s)(h2:ws≠[]->Q (.ref s.heap.objs.size) { s with heap:=s.heap.push { cls:=.type "tuple",data:=.seq (vs++ws).toArray } })
  (hsz:vs.length+ws.length<=sizeLine):wpAny (model prog w) A (binaryOp .Add (.ref t) (.ref b)) Q E s:=by
 obtain⟨⟨cls,dd,data,sl⟩,ho,hc,n,hd⟩:=id ht;obtain⟨⟨cls2,dd2,data2,sl2⟩,ho2,hc2,n2,hd2⟩:=id hb;simp only at hc hd hc2 hd2;subst hc hd hc2 hd2;have e:vs.toArray++ws.toArray=(vs++ws).toArray:=by simp
 by_cases hw:ws=[]
 .exact concat_meets ⟨_,ho,rfl⟩ ⟨_,ho2,rfl⟩ noFill_tuple_add seq_tuple_add Xb W8 (W3 _ _)
   (tuple_addW1 t b vs.toArray ws.toArray n n2 dd dd2 sl sl2 (by simpa using hv) (by simp [hw])) ⟨ho,ho2,h1 hw⟩
 .refine concat_meets ⟨_,ho,rfl⟩ ⟨_,ho2,rfl⟩ noFill_tuple_add seq_tuple_add Xb W8 (W3 _ _)
   (tuple_addW2 t b vs.toArray ws.toArray n n2 dd dd2 sl sl2 (by simpa using hv) (by simpa using hw) (by rw[UK,UK];exact hsz)) ⟨ho,ho2,?_⟩
  rw[e];exact h2 hw
noncomputable def sIx(n d:Nat):Option Int->Nat
 |none=>d
 |some v=>if v<0 then(v+(n:Int)).toNat else min v.toNat n
theorem sIx_none(n d:Nat):sIx n d none=d:=rfl
theorem sIx_nat(n d k:Nat):sIx n d (some (k:Int))=min k n:=by
 show(if(k:Int)<0 then((k:Int)+(n:Int)).toNat else min (k:Int).toNat n)=min k n;rw[if_neg (by omega),Int.toNat_natCast]
theorem Nx(n d:Nat)(hd:d<=n)(o:Option Int):sIx n d o<=n:=by
 cases o with
 |none=>exact hd
 |some v =>
  show(if v<0 then(v+(n:Int)).toNat else min v.toNat n)<=n
  by_cases hv:v<0
  .rw[if_pos hv];omega
  .rw[if_neg hv];exact Nat.min_le_right _ _
theorem Eb(v:Int)(n d:Nat):(if v<0 then max (v+(n:Int)) 0 else min v (n:Int))=((sIx n d (some v):Nat):Int):=by
 show(if v<0 then max (v+(n:Int)) 0 else min v (n:Int))=(((if v<0 then(v+(n:Int)).toNat else min v.toNat n):Nat):Int)
 by_cases hv:v<0
 .simp only[if_pos hv];omega
 .simp only[if_neg hv];omega
theorem Cm(lo hi:Option Int)(n:Nat):WY lo hi 1 (n:Int)=(((sIx n 0 lo:Nat):Int),((sIx n n hi:Nat):Int)):=by
 have h1:¬((1:Int)<0):=by omega
 unfold WY;simp only[h1,if_false];refine Prod.ext ?_ ?_
 .cases lo with
  |none=>rfl
  |some v=>exact Eb v n 0
 .cases hi with
  |none=>rfl
  |some v=>exact Eb v n n
theorem Bs(i j:Nat):Wm (i:Int) (j:Int) 1=j-i:=by
 unfold Wm;have h1:(1:Int) > 0:=by omega
 simp only[h1,if_true,Int.ediv_one];split<;>omega
theorem rh(p:IsPart v o)(h:Q o s):wpAny (model prog w) A (Builtin.Slice.slicePartIndex v) Q E s:=by
 cases p with|none=>exact slicePart_none h|int i t=>exact slicePart_int h
theorem oJ{lo hi:Option Int}{Q:Int×Int×Nat->Shared->Prop}(hs:s.heap.IsSliceOf sl vl vu .none)(pl:IsPart vl lo)(pu:IsPart vu hi)
  (h:Q (((sIx n 0 lo:Nat):Int),1,sIx n n hi-sIx n 0 lo) s):wpAny (model prog w) A (Ya (.ref sl) (pure (n:Int))) Q E s:=by
 obtain⟨os,hos,hcs,hds⟩:=id hs;unfold Ya Builtin.Slice.sliceFields;refine Uq (Uq (wpAny_field hos hds (x:=vl) rfl (Uq (wpAny_field hos hds (x:=vu) rfl (Uq (wpAny_field hos hds (x:=.none) rfl (UL ?_)))))));refine Uq (slicePart_none ?_);show wpAny _ _ (if((1:Int)==0)=true then _ else _) _ _ s;rw[if_neg (by decide)];refine Uq (rh pl (Uq (rh pu (Uq (UL ?_)))));show wpAny _ _ (match WY lo hi 1 (n:Int) with|(lo,hi)=>pure (lo,(1:Int),Wm lo hi 1)) _ _ s;rw[Cm lo hi n];show wpAny _ _ (pure (((sIx n 0 lo:Nat):Int),(1:Int),Wm ((sIx n 0 lo:Nat):Int) ((sIx n n hi:Nat):Int) 1)) _ _ s;rw[Bs];exact UL h
theorem Hy(xs:Array Value)(i k:Nat):((VO k).filterMap λ(m:Nat)=>xs[((i:Int)+(m:Int)*1).toNat]?).toArray=((xs.toList.drop i).take k).toArray:=by
 have e:(λ(m:Nat)=>xs[((i:Int)+(m:Int)*1).toNat]?)=λm=>xs[i+m]?:=by
  funext m;have:((i:Int)+(m:Int)*1).toNat=i+m:=by omega
  rw[this]
 rw[e];have:=pick_run xs i k;rw[List.filterMap_map] at this;have e2:((λx=>xs[x]?)∘λx=>i+x)=λm=>xs[i+m]?:=rfl;rw[e2] at this;rw[this]
theorem getItem_tuple_cut{lo hi:Option Int}(ht:IsTup s.heap t items)(hs:s.heap.IsSliceOf sl vl vu .none)(pl:IsPart vl lo)(pu:IsPart vu hi)
  (hw:¬(sIx items.size 0 lo=0/\sIx items.size items.size hi=items.size))
  (h:Q (.ref s.heap.objs.size) { s with heap:=s.heap.push { cls:=.type "tuple",data:=.seq ((items.toList.drop (sIx items.size 0 lo)).take (sIx items.size items.size hi-sIx items.size 0 lo)).toArray } })
  (hsz:items.size<=sizeLine):wpAny (model prog w) A (getItem (.ref t) (.ref sl)) Q E s:=by
 have htake:sizeOk (.seq ((items.toList.drop (sIx items.size 0 lo)).take (sIx items.size items.size hi-sIx items.size 0 lo)).toArray):=by
  show((items.toList.drop (sIx items.size 0 lo)).take (sIx items.size items.size hi-sIx items.size 0 lo)).toArray.size<=sizeLine;rw[UK,Vf,List.length_drop,Xq];omega
 have hj:sIx items.size items.size hi<=items.size:=Nx _ _ (UB _) hi;obtain⟨os,hos,hcs,hds⟩:=id hs;have hTs:s.TypeIs (.ref sl) "slice":=⟨os,hos,hcs⟩
 unfold getItem
 try with_reducible refine VD ?_
 first|refine Uq (UL ?_)|skip
 refine Uq (wpAny_sequenceKey ht.typeIs (by decide) ?_);refine Uq (wpAny_callSpecial?_slot (name:=Str.ofString "__getitem__") ht.typeIs WJ
  (wpAny_call_entry WJ ht.typeIs entry_tuple_getitem ?_ (args_tuple_getitem _ _)))
 show wpAny _ _ (Builtin.Tuple.tupleItemsOf (.ref t) >>= _) _ _ s;refine Uq (tupleItemsOf_ ht ?_);refine Uq (wpAny_typeOf hTs ?_);rw[if_pos (by decide)];refine Uq (oJ hs pl pu ?_);have hno:¬((((sIx items.size 0 lo:Nat):Int)==0&&(1:Int)==1&&(sIx items.size items.size hi-sIx items.size 0 lo)==items.size)=true):=by
  intro q;rw[UU,UU] at q;have q1:((sIx items.size 0 lo:Nat):Int)=0:=eq_of_beq q.1.1;have q2:sIx items.size items.size hi-sIx items.size 0 lo=items.size:=eq_of_beq q.2;exact hw ⟨by omega,by omega⟩
 show wpAny _ _ (if(((sIx items.size 0 lo:Nat):Int)==0&&(1:Int)==1&&(sIx items.size items.size hi-sIx items.size 0 lo)==items.size)=true then _ else _) _ _ s;rw[if_neg hno,Hy]
 first
  |exact Uq (m:=Ws _) (wpAny_newObj_type (UL ⟨_,rfl,UL h⟩) htake)
  |exact Uq (m:=Ws _) (wpAny_newObj_type (Uq (UL (UL ⟨_,rfl,UL h⟩))) htake)
  |exact Uq (Uq (m:=Ws _) (wpAny_newObj_type (UL (UL ⟨_,rfl,UL h⟩)) htake))
  |exact Uq (Uq (m:=Ws _) (wpAny_newObj_type (UL ⟨_,rfl,UL h⟩) htake))
end
end HT
namespace L2
open PySem PySem.Spec PyProof.Rows
noncomputable abbrev TO:=St->Hp->(Option Int->Hp->Prop)->Prop
noncomputable def PO(X:Cx) (e:Option Expr) (t:TO):Prop :=
 ∀(pins:List (Addr×Obj)) (s:Shared) (σ:St) (H:Hp) (Q:Option Int->Hp->Prop),Inv X pins σ H s->t σ H Q ->
  wpAny (model X.prog X.w) X.A (evalPart e X.env) (λu s'=>∃o H',Inv X pins σ H' s'/\IsPart u o/\Q o H') X.xe s
noncomputable def Km:TO:=λ_ H Q=>Q none H
noncomputable def Py(t:TE):TO:=λσ H Q=>t σ H λx H1=>∃i,x=.int i/\Q (some i) H1
section
variable {X:Cx}{e:Expr}{te:TE}{lo hi:Option Expr}{tl th:TO}{pos p2:Pos}
theorem KI:PO X none Km:=by
 intro pins s σ H Q I h;rw[evalPart_none];exact UL ⟨none,H,I,.none,h⟩
theorem KH(h:PE X e te):PO X (some e) (Py te):=by
 intro pins s σ H Q I hw;rw[evalPart_some];refine cj (h pins s σ H _ I hw) λu s1 ⟨x,H1,I1,r1,q1⟩=>?_;obtain⟨i,rfl,q⟩:=q1;obtain⟨t,rfl⟩:=r1;exact⟨some i,H1,I1,.int i t,q⟩
noncomputable def JS(X:Cx) (r:V->Option Int->Option Int->Hp->VK->Prop):Prop :=
 ∀(pins:List (Addr×Obj)) (s:Shared) (σ:St) (H:Hp) (x:V) (v vl vu:Value) (lo hi:Option Int) (sl:Addr) (Q:VK),Inv X pins σ H s->bu x v->s.heap.IsSliceOf sl vl vu .none->IsPart vl lo->IsPart vu hi->r x lo hi H Q ->
  ∃T id,typeLookup (.type T) "__getitem__"=pure (some (.builtin id))/\s.TypeIs v T/\wpAny (model X.prog X.w) X.A (getItem v (.ref sl)) (EP X pins σ Q) X.xe s
theorem JS.or(h:JS X r)(h':JS X r'):JS X (λx lo hi H Q=>r x lo hi H Q∨r' x lo hi H Q):=by
 intro pins s σ H x v vl vu lo hi sl Q I rx hs pl pu q;rcases q with q|q
 .exact h pins s σ H x v vl vu lo hi sl Q I rx hs pl pu q
 .exact h' pins s σ H x v vl vu lo hi sl Q I rx hs pl pu q
noncomputable def Tg(r:V->Option Int->Option Int->Hp->VK->Prop) (te:TE) (tl th:TO):TE:=λσ H Q=>te σ H λx H1=>tl σ H1 λl H2=>th σ H2 λu H3=>r x l u H3 Q
theorem zo(hr:JS X r)(he:PE X e te)(hl:PO X lo tl)(hu:PO X hi th):PE X (.Subscript e (.Slice lo hi none p2) pos) (Tg r te tl th):=by
 intro pins s σ H Q I h;refine Subscript_ (cj (he pins s σ H _ I h) λv s1 ⟨x,H1,I1,r1,q1⟩=>?_);refine wpAny_Slice (cj (hl pins s1 σ H1 _ I1 q1) λvl s2 ⟨l,H2,I2,pl,q2⟩=>cj (hu pins s2 σ H2 _ I2 q2) λvu s3 ⟨u,H3,I3,pu,q3⟩=>?_);rw[evalPart_none];refine UL ?_;have I4:Inv X pins σ H3 { s3 with heap:=s3.heap.push { cls:=.type "slice",data:=.fields #[vl,vu,.none] } }:=I3.kept (t':=s3.toks) λb ob q=>Ux _ q;obtain⟨T,id,hT,ht,hg⟩:=hr pins { s3 with heap:=s3.heap.push { cls:=.type "slice",data:=.fields #[vl,vu,.none] } } σ H3 x v vl vu l u s3.heap.objs.size Q I4 r1 (Heap.IsSliceOf.new ..) pl pu q3;show wpAny (model X.prog X.w) X.A (subscriptTail e (.Slice lo hi none p2) v (.ref s3.heap.objs.size)) (EP X pins σ Q) X.xe { s3 with heap:=s3.heap.push { cls:=.type "slice",data:=.fields #[vl,vu,.none] } };exact tail_any (ops:=[.ref s3.heap.objs.size,v]) ht hT hg (by with_unfolding_all rfl)
noncomputable def AQ(xs:List V) (lo hi:Option Int):List V:=(xs.drop (HT.sIx xs.length 0 lo)).take (HT.sIx xs.length xs.length hi-HT.sIx xs.length 0 lo)
theorem pU(xs:List V)(lo hi:Option Int):(AQ xs lo hi).length<=xs.length:=by
 unfold AQ;rw[Vf,List.length_drop];omega
noncomputable def So(K:Up):V->Option Int->Option Int->Hp->VK->Prop:=λx lo hi H Q=>∃a xs,x=.ref a/\jK K H a xs /\
 ¬(HT.sIx xs.length 0 lo=0/\HT.sIx xs.length xs.length hi=xs.length)/\∀p,H p=none->Q (.ref p) (upd H p (.tup (AQ xs lo hi)))
theorem Nm:JS X (So X.K):=by
 intro pins s σ H x v vl vu lo hi sl Q I rx hs pl pu h;obtain⟨a,xs,rfl,hx,hw,q⟩:=h;cases rx;obtain⟨its,r,ht,hz⟩:=I.tuple hx;have hlen:its.toArray.size=xs.length:=by rw[UK];exact r.length.symm
 refine⟨"tuple",_,WJ.lookup,ht.typeIs,?_⟩;refine HT.getItem_tuple_cut ht hs pl pu (by rw[hlen];exact hw) ?_ (by rw[hlen];exact hz);rw[hlen];refine⟨.ref s.heap.objs.size,_,I.laid (t':=s.toks) (o:=.tup (AQ xs lo hi)) (λb ob q=>Ux _ q) (UB _) ?_,rfl,q _ (I.hok.fresh (UB _))⟩;exact⟨UO (pU xs lo hi) hz,_,(r.drop (HT.sIx xs.length 0 lo)).take (HT.sIx xs.length xs.length hi-HT.sIx xs.length 0 lo),Yq _ _⟩
noncomputable def P9(K:Up):R2:=λx y H Q=>∃a b xs ys,x=.ref a/\y=.ref b/\jK K H a xs/\jK K H b ys/\xs≠[]/\xs.length+ys.length<=sizeLine /\
 (ys=[]->Q (.ref a) H)/\(ys≠[]->∀p,H p=none->Q (.ref p) (upd H p (.tup (xs++ys))))
theorem bH.nil_iff(r:bH xs us):us=[]↔xs=[]:=by
 cases r with|nil|cons _ _=>simp
theorem xu:eh X (binaryOp .Add) (P9 X.K):=by
 intro pins s σ H x y v u Q I rx ry h;obtain⟨a,b,xs,ys,rfl,rfl,ha,hb,hx,hz,q1,q2⟩:=h;cases rx;cases ry;obtain⟨its,r1,p1,_⟩:=I.tuple ha;obtain⟨its2,r2,p2,_⟩:=I.tuple hb;refine HT.cat_tup p1 p2 (λz=>hx (r1.nil_iff.mp z)) (λz=>⟨.ref a,H,I,rfl,q1 (r2.nil_iff.mp z)⟩) (λz=>?_) (by rw[←r1.length,←r2.length];exact hz);refine⟨.ref s.heap.objs.size,_,I.laid (t':=s.toks) (o:=.tup (xs++ys)) (λb ob q=>Ux _ q) (UB _) ?_,rfl,q2 (λw=>z (r2.nil_iff.mpr w)) _ (I.hok.fresh (UB _))⟩;exact⟨by rw[U6];exact hz,_,r1.append r2,Yq _ _⟩
end
noncomputable def BP(n:Nat) (i:Int):Option Nat:=if 0<=i then(if i<n then some i.toNat else none) else if -(n:Int)<=i then some (i+n).toNat else none
noncomputable def atI{α:Type}(xs:List α) (i:Int):Option α:=(BP xs.length i).bind λj=>xs[j]?
theorem C7(h:BP n i=some j):seqIndex? i n=some j/\j<n/\-(n:Int)<=i/\i<n:=by
 unfold BP at h
 by_cases h0:0<=i
 .rw[if_pos h0] at h
  by_cases h1:i<n
  .rw[if_pos h1] at h
   have e:i.toNat=j:=U8 h;exact⟨by rw[seqIndex_of h0 h1,e],by omega,by omega,h1⟩
  .rw[if_neg h1] at h;cases h
 .rw[if_neg h0] at h
  by_cases h1:-(n:Int)<=i
  .rw[if_pos h1] at h
   have e:(i+n).toNat=j:=U8 h;exact⟨by rw[seqIndex_neg (by omega) h1,e],by omega,h1,by omega⟩
  .rw[if_neg h1] at h;cases h
theorem yw{v:α}(h:atI xs i=some v):∃j,seqIndex? i xs.length=some j/\xs[j]?=some v/\j<xs.length/\-(xs.length:Int)<=i/\i<xs.length:=by
 unfold atI at h;cases e:BP xs.length i with
 |none=>rw[e] at h;cases h
 |some j =>
  rw[e] at h;obtain⟨h1,h2,h3,h4⟩:=C7 e;exact⟨j,h1,h,h2,h3,h4⟩
theorem d7{j:Nat}{v:α}(h:xs[j]?=some v):atI xs (j:Int)=some v:=by
 have hj:j<xs.length:=(Uw.mp h).1;have e:BP xs.length (j:Int)=some j:=by
  unfold BP;rw[if_pos (by omega),if_pos (by omega)];simp
 unfold atI;rw[e];exact h
noncomputable def og(b:Expr):Prop:=∀o i,subscripted b false o i=operate [o,i] (getItem o i)
noncomputable def JI(X:Cx) (r:R2):Prop :=
 ∀(value slice:Expr) (pins:List (Addr×Obj)) (s:Shared) (σ:St) (H:Hp) (x y:V) (v u:Value) (Q:VK),Inv X pins σ H s->bu x v->bu y u->r x y H Q ->
  subscripted slice false v u=operate [v,u] (getItem v u)->wpAny (model X.prog X.w) X.A (subscriptTail value slice v u) (EP X pins σ Q) X.xe s
noncomputable def TN(X:Cx) (id:String) (r:V->List V->Hp->VK->Prop):Prop :=
 ∀(pins:List (Addr×Obj)) (s:Shared) (σ:St) (H:Hp) (x:V) (xs:List V) (v:Value) (us:List Value) (Q:VK),Inv X pins σ H s->bu x v->bH xs us->r x xs H Q ->
  wpAny (model X.prog X.w) X.A (call (.builtin id) (v::us)) (EP X pins σ Q) X.xe s
section
variable {X:Cx}{a b:Expr}{ta tb:TE}{pos:Pos}
theorem JI.or(h:JI X r)(h':JI X r'):JI X (λx y H Q=>r x y H Q∨r' x y H Q):=by
 intro value slice pins s σ H x y v u Q I rx ry q hs;rcases q with q|q
 .exact h value slice pins s σ H x y v u Q I rx ry q hs
 .exact h' value slice pins s σ H x y v u Q I rx ry q hs
theorem My(hr:JI X r)(ha:PE X a ta)(hb:PE X b tb)(hs:og b):PE X (.Subscript a b pos) (O4 r ta tb):=by
 intro pins s σ H Q I h;exact Subscript_ (OK ha hb I h λv u s2 x y H2 I2 rx ry q=>hr a b pins s2 σ H2 x y v u Q I2 rx ry q (hs _ _))
noncomputable def P5(K:Up):R2:=λx y H Q=>∃p xs i v,x=.ref p/\y=.int i/\eC K H p xs/\atI xs i=some v/\Q v H
noncomputable def P2(K:Up):R2:=λx y H Q=>∃p xs i v,x=.ref p/\y=.int i/\jK K H p xs/\atI xs i=some v/\Q v H
noncomputable def P4:R2:=λx y H Q=>∃z i c,x=.str z/\y=.int i/\z.length<=sizeLine/\atI z.cps.toList i=some c/\Q (.str ⟨#[c]⟩) H
theorem Ln:JI X (P5 X.K):=by
 intro value slice pins s σ H x y v u Q I rx ry h hs;obtain⟨p,xs,i,z,rfl,rfl,hq,he,q⟩:=h;cases rx;obtain⟨t,rfl⟩:=ry;obtain⟨its,r,pl,hz⟩:=I.list hq;obtain⟨j,h1,h2,h3,h4,h5⟩:=yw he;obtain⟨w,ew,rw'⟩:=r.get h2;have hl:=r.length;have hn:=oX;have fin:EP X pins σ Q w s:=⟨z,H,I,rw',q⟩
 by_cases h0:0<=i
 .have hj:i.toNat=j:=by
   rw[seqIndex_of h0 h5] at h1;exact U8 h1
  exact item_listR pl.isList h0 (by omega) (by rw[hj];simpa using ew) fin hs
 .have hj:(i+(its.toArray.size:Int)).toNat=j:=by
   rw[seqIndex_neg (by omega) h4] at h1;rw[UK,←hl];exact U8 h1
  exact subscriptTail_builtinR (x:=w) pl.isList.typeIs slot_list_getitem.lookup
   (wpAny_getItem_list_neg (Q:=λr s'=>r=w/\EP X pins σ Q r s') pl.isList (by omega) (by rw[UK]<;>omega) (by omega) (by rw[hj];simpa using ew) ⟨rfl,fin⟩) hs
theorem Oa:JI X (P2 X.K):=by
 intro value slice pins s σ H x y v u Q I rx ry h hs;obtain⟨p,xs,i,z,rfl,rfl,hq,he,q⟩:=h;cases rx;obtain⟨t,rfl⟩:=ry;obtain⟨its,r,pl,hz⟩:=I.tuple hq;obtain⟨j,h1,h2,h3,h4,h5⟩:=yw he;obtain⟨w,ew,rw'⟩:=r.get h2;have hl:=r.length;have hn:=oX;have fin:EP X pins σ Q w s:=⟨z,H,I,rw',q⟩
 exact subscriptTail_builtinR (x:=w) pl.typeIs slot_tuple_getitem.lookup
  (getItem_tuple (j:=j) (Q:=λr s'=>r=w/\EP X pins σ Q r s') pl (by omega) (by omega) (by rw[UK,←hl];exact h1) (by simpa using ew) ⟨rfl,fin⟩) hs
theorem Ob:JI X P4:=by
 intro value slice pins s σ H x y v u Q I rx ry h hs;obtain⟨z,i,c,rfl,rfl,hz,he,q⟩:=h;obtain⟨t,rfl⟩:=rx;obtain⟨t',rfl⟩:=ry;obtain⟨j,h1,h2,h3,h4,h5⟩:=yw he;have hl:z.cps.toList.length=z.length:=by simp [Str.length]
 rw[hl] at h1 h4 h5;have hn:=oX;exact tail_any (typeIs_str s z t) slot_str_getitem.lookup (getItem_str (c:=c) (by
  have e1:decide (i < -(2 ^ 63:Int))=false:=decide_eq_false (by omega);have e2:decide (i≥2 ^ 63)=false:=decide_eq_false (by omega);rw[e1,e2,Bool.or_false]) (by rw[h1];simpa using h2) ⟨.str ⟨#[c]⟩,H,I.tok _,⟨_,rfl⟩,q⟩) hs
noncomputable def To(K:Up):R2:=λx y H Q=>P5 K x y H Q∨P2 K x y H Q∨P4 x y H Q
theorem Ig:JI X (To X.K):=Ln.or (Oa.or Ob)
theorem BF(its:List Value)(n j:Nat)(u:Value):Xu (·.setIfInBounds j u) { cls:=.type "list",data:=.seq its.toArray n }={ cls:=.type "list",data:=.seq (its.set j u).toArray n }:=by
 simp [Xu]
theorem Inv.lst(I:Inv X pins σ H s)(h:H p=some (.lst xs)) :
  ∃(its:List Value) (n:Nat),bH xs its/\s.heap.get? p=some { cls:=.type "list",data:=.seq its.toArray n }/\xs.length<=sizeLine:=by
 obtain⟨z,its,n,r,e⟩:=I.hok p _ h;exact⟨its,n,r,e,z⟩
theorem Inv.lstUpd{its its':List Value}(I:Inv X pins σ H s)(h:H p=some (.lst xs))
  (ho:s.heap.get? p=some { cls:=.type "list",data:=.seq its.toArray n })(hf:f { cls:=.type "list",data:=.seq its.toArray n }={ cls:=.type "list",data:=.seq its'.toArray n' })(r:bH ys its')(hz:ys.length<=sizeLine)(t:Nat) :
  Inv X pins σ (upd H p (.lst ys)) { s with heap:=s.heap.update p f,toks:=t }:=by
 have e:(s.heap.update p f).get? p=some { cls:=.type "list",data:=.seq its'.toArray n' }:=by
  rw[VJ f ho (by rw[hf]<;>rfl),hf]
 refine I.write (x:=p) (e:=p) (by rw[h];trivial) (.inl rfl) (λb u hb q=>(VF _ _ (U5 hb)).trans q) ⟨_,e⟩ ?_;exact⟨hz,its',n',r,e⟩
noncomputable def Mt:V->V->V->Hp->(Hp->Prop)->Prop:=λo i v H Q=>∃p xs k j,o=.ref p/\i=.int k/\H p=some (.lst xs)/\BP xs.length k=some j/\Q (upd H p (.lst (xs.set j v)))
theorem yX:Rx X Mt:=by
 intro pins s σ H o i v ov iv u Q I ro ri rv h;obtain⟨p,xs,k,j,rfl,rfl,hp,hj,q⟩:=h;cases ro;obtain⟨t,rfl⟩:=ri;obtain⟨its,n,r,ho,hz⟩:=I.lst hp;obtain⟨h1,h2,h3,h4⟩:=C7 hj;have hl:=r.length;have hn:=oX;have I':Inv X pins σ (upd H p (.lst (xs.set j v))) { s with heap:=s.heap.update p (Xu (·.setIfInBounds j u)) } :=
  I.lstUpd hp ho (BF its n j u) (r.set rv j) (by rw[List.length_set];exact hz) s.toks
 by_cases h0:0<=k
 .have hk:k.toNat=j:=by
   rw[seqIndex_of h0 h4] at h1;exact U8 h1
  exact W.ki_setAt ho h0 (by omega) (by rw[UK,←hl];exact h4) (by rw[hk];exact⟨_,I',q⟩)
 .have hk:(k+(its.toArray.size:Int)).toNat=j:=by
   rw[seqIndex_neg (by omega) h3] at h1;rw[UK,←hl];exact U8 h1
  exact W.ki_setBack ho (by omega) (by rw[UK,←hl];exact h3) (by omega) (by rw[hk];exact⟨_,I',q⟩)
theorem wW(lo hi:Option Int)(n:Nat):(sliceBounds lo hi none n).1=((HT.sIx n 0 lo:Nat):Int)/\(sliceBounds lo hi none n).2.1=((HT.sIx n n hi:Nat):Int)/\(sliceBounds lo hi none n).2.2=1:=by
 refine⟨?_,?_,rfl⟩
 .cases lo with
  |none=>simp [sliceBounds,HT.sIx]
  |some i =>
   simp only[sliceBounds,HT.sIx,Option.getD_none,show(1:Int) > 0 by decide,if_true]
   by_cases h:i<0
   .simp only[h,if_true]<;>omega
   .simp only[h,if_false]<;>omega
 .cases hi with
  |none=>simp [sliceBounds,HT.sIx]
  |some i =>
   simp only[sliceBounds,HT.sIx,Option.getD_none,show(1:Int) > 0 by decide,if_true]
   by_cases h:i<0
   .simp only[h,if_true]<;>omega
   .simp only[h,if_false]<;>omega
theorem u6(its:List Value)(lo hi:Option Int):slicePick its.toArray lo hi none=((its.drop (HT.sIx its.length 0 lo)).take (HT.sIx its.length its.length hi-HT.sIx its.length 0 lo)).toArray:=by
 obtain⟨h1,h2,h3⟩:=wW lo hi its.toArray.size;unfold slicePick;rw[h1,h2,h3];simp only[sliceRange_one,pick_run,UK]<;>rfl
noncomputable def Sr(K:Up):V->Option Int->Option Int->Hp->VK->Prop:=λx lo hi H Q=>∃a xs,x=.ref a/\eC K H a xs/\∀p,H p=none->Q (.ref p) (upd H p (.lst (AQ xs lo hi)))
theorem CA:JS X (Sr X.K):=by
 intro pins s σ H x v vl vu lo hi sl Q I rx hs pl pu h;obtain⟨a,xs,rfl,hx,q⟩:=h;cases rx;obtain⟨its,r,ht,hz⟩:=I.list hx;have hlen:=r.length;refine⟨"list",_,slot_list_getitem.lookup,ht.isList.typeIs,?_⟩;refine wpAny_getItem_list_slice ht.isList hs pl pu .none (by simp) ?_ (by rw[UK]<;>omega);rw[u6,←hlen];refine⟨.ref s.heap.objs.size,_,I.laid (t':=s.toks) (o:=.lst (AQ xs lo hi)) (λb ob q=>Ux _ q) (UB _) ?_,rfl,q _ (I.hok.fresh (UB _))⟩;exact⟨UO (pU xs lo hi) hz,_,0,(r.drop (HT.sIx xs.length 0 lo)).take (HT.sIx xs.length xs.length hi-HT.sIx xs.length 0 lo),Vl _ rfl⟩
theorem xt:eh X (compareOp .NotIn) (λx y H Q=>∃i j,x=.str i/\y=.str j/\Q (.bl (!(!(V4 j i 0 j.length 1).isEmpty))) H):=by
 intro pins s σ H x y v u Q I rx ry h;obtain⟨i,j,rfl,rfl,q⟩:=h;obtain⟨t,rfl⟩:=rx;obtain⟨t',rfl⟩:=ry;exact notIn_str ⟨.bl _,H,I,rfl,q⟩
theorem yq:gY X (.type "list") (λxs H Q=>∃p ys,xs=[.ref p]/\(eC X.K H p ys∨jK X.K H p ys)/\∀l,H l=none->Q (.ref l) (upd H l (.lst ys))):=by
 intro pins s σ H xs us Q I r h;obtain⟨p,ys,rfl,hq,q⟩:=h;obtain⟨u,rfl,rx⟩:=pz r;cases rx;have fin:∀(its:List Value),bH ys its->ys.length<=sizeLine->∀(h':Heap) (c':Nat),(∀b o',s.heap.get? b=some o'->h'.get? b=some o') ->
   h'.get? s.heap.objs.size=some { cls:=.type "list",dict:=none,data:=.seq its.toArray c',slots:=#[] }->EP X pins σ Q (.ref s.heap.objs.size) { s with heap:=h' }:=λits r' hz h' c' kp e =>
  ⟨.ref s.heap.objs.size,_,I.laid (t':=s.toks) kp (UB _) (show bN X.prog X.w _ h' _ (.lst ys) from⟨hz,its,c',r',e⟩),rfl,q _ (I.hok.fresh (UB _))⟩
 rcases hq with hq|hq
 .obtain⟨its,r',pl,hz⟩:=I.list hq
  have hlen:=r'.length;obtain⟨o,ho,hc,n,hd⟩:=pl.isList;exact call_list_seq p (.inl rfl) ho hc hd (λh' c' kp e=>fin its r' hz h' c' kp e) (by simp only[UK]<;>omega)
 .obtain⟨its,r',pl,hz⟩:=I.tuple hq
  have hlen:=r'.length;obtain⟨o,ho,hc,n,hd⟩:=pl;exact call_list_seq p (.inr rfl) ho hc hd (λh' c' kp e=>fin its r' hz h' c' kp e) (by simp only[UK]<;>omega)
theorem lF:gY X (.type "tuple") (λxs H Q=>∃p ys,xs=[.ref p]/\((eC X.K H p ys/\∀l,H l=none->Q (.ref l) (upd H l (.tup ys)))∨(jK X.K H p ys/\Q (.ref p) H))):=by
 intro pins s σ H xs us Q I r h;obtain⟨p,ys,rfl,h⟩:=h;obtain⟨u,rfl,rx⟩:=pz r;cases rx;rcases h with⟨hq,q⟩|⟨hq,q⟩
 .obtain⟨its,r',pl,hz⟩:=I.list hq
  have hlen:=r'.length;refine call_tuple_list pl.isList (λh' kp=>?_) (by simp only[UK]<;>omega);have I1:Inv X pins σ H { s with heap:=h' }:=I.kept (t':=s.toks) kp;have I2:Inv X pins σ (upd H h'.objs.size (.tup ys)) { s with heap:=h'.push { cls:=.type "tuple",data:=.seq its.toArray } } :=
   I1.laid (t':=s.toks) (λb o e=>Ux _ e) (UB _) (show bN X.prog X.w _ _ _ (.tup ys) from⟨hz,its,r',Yq _ _⟩)
  exact⟨.ref h'.objs.size,_,I2,rfl,q _ (I1.hok.fresh (UB _))⟩
 .obtain⟨its,r',pl,hz⟩:=I.tuple hq
  exact call_tuple_same pl ⟨.ref p,H,I,rfl,q⟩
noncomputable def Te(K:Up) (T:String) (x:V) (H:Hp):Prop:=match x with
 |.str _=>T="str"
 |.int _=>T="int"
 |.ref p=>(T="list"/\∃xs,eC K H p xs)∨(T="tuple"/\∃o,K.lookup p=some o/\o.cls=.type "tuple"/\o.dict=none) ∨
   (T="dict"/\((∃kvs,H p=some (.dK kvs))∨∃kvs,H p=some (.dT kvs)))∨(T="set"/\∃S n,H p=some (.set S n))
 |_=>False
theorem Ng(I:Inv X pins σ H s)(r:bu x v)(ty:Te X.K T x H) :
  s.TypeIs v T/\∀a,v=.ref a->∃ob,s.heap.get? a=some ob/\ob.dict=none:=by
 cases x with
 |str z =>
  obtain⟨t,rfl⟩:=r;cases (show T="str" from ty);exact⟨typeIs_str s z t,λ_ e=>nomatch e⟩
 |int i =>
  obtain⟨t,rfl⟩:=r;cases (show T="int" from ty);exact⟨typeIs_int s i t,λ_ e=>nomatch e⟩
 |ref p =>
  cases r;rcases ty with⟨rfl,xs,hq⟩|⟨rfl,o,hk,hc,hd⟩|⟨rfl,hk⟩|⟨rfl,S,n,hk⟩
  .obtain⟨its,_,pl,_⟩:=I.list hq
   refine⟨pl.isList.typeIs,λa e=>?_⟩;cases e;obtain⟨o,n,e,c,hd,_⟩:=pl;exact⟨o,e,hd⟩
  .refine⟨⟨o,I.kIn p o hk,hc⟩,λa e=>?_⟩
   cases e;exact⟨o,I.kIn _ o hk,hd⟩
  .have z:∃o,s.heap.get? p=some o/\o.ExactDict:=by
    rcases hk with⟨kvs,hk⟩|⟨kvs,hk⟩
    .obtain⟨_,_,_,_,o,_,_,e,ex,_⟩:=I.hok p _ hk
     exact⟨o,e,ex⟩
    .obtain⟨_,_,_,_,o,_,_,e,ex,_⟩:=I.hok p _ hk
     exact⟨o,e,ex⟩
   obtain⟨o,e,ex⟩:=z;refine⟨⟨o,e,ex.1⟩,λa e2=>?_⟩;cases e2;exact⟨o,e,ex.2.1⟩
  .obtain⟨o,_,_,_,e,ex,_⟩:=I.hok p _ hk
   refine⟨⟨o,e,ex.1⟩,λa e2=>?_⟩;cases e2;exact⟨o,e,ex.2.1⟩
 |_=>exact Vo ty
noncomputable def T7(K:Up) (T:String) (r:V->List V->Hp->VK->Prop) (to:TE) (t:TA):TE:=λσ H Q=>to σ H λx H1=>Te K T x H1/\t σ H1 λxs H2=>r x xs H2 Q
variable {o e:Expr}{es:List Expr}{to:TE}{t:TA}{name:Str}{apos cpos:Pos}{T id:String}{r:V->List V->Hp->VK->Prop}
theorem HE(pa:PlainAttrs T)(slot:Slot T name id)(hty:typeOf (.builtin id)=pure (.type "method_descriptor"))(hm:TN X id r)(ho:PE X o to)(ha:PA X (e::es) t)
  (hbase:attributeBase o name X.env (eval o X.env)=eval o X.env:=by rfl)
  (hfew:((backTo cpos (starEach (e::es) X.env)).all (λx=>!x.1)&&(backToKw cpos (keywordEach [] X.env)).all (λx=>x.1.isSome)
  &&decide ((e::es).length+([]:List Keyword).length+(if([]:List Keyword).isEmpty then 0 else 1)<30))=true:=by rfl)
  (hline:(apos.endLine==cpos.line)=true:=by rfl) (hs:starEach (e::es) X.env=(false,eval e X.env)::starEach es X.env:=by rfl) (hplain:(backTo cpos (starEach es X.env)).any (·.1)=false:=by rfl) :
  PE X (.Call (.Attribute o name apos) (e::es) [] cpos) (T7 X.K T r to t):=by
 intro pins s σ H Q I h;refine wpAny_Call_method_late hbase hfew hline rfl (cj (ho pins s σ H _ I h) λv s1 ⟨x,H1,I1,r1,ty,q1⟩=>?_);obtain⟨h1,h2⟩:=Ng I1 r1 ty;refine⟨T,id,pa,slot,hty,h1,h2,?_⟩;have hA:=ha cpos pins s1 σ H1 _ I1 q1;rw[hs] at hA ⊢;refine YB (by show(false||(backTo cpos (starEach es X.env)).any (·.1))=false;rw[hplain]<;>rfl) (WQ ?_);exact cj hA λus s2 ⟨vs,H2,I2,r2,q2⟩=>hm pins s2 σ H2 x vs v us Q I2 r1 r2 q2
end
noncomputable def Um(X:Cx) (id:String) (r:V->List V->Hp->VK->Prop):Prop :=
 ∀(pins:List (Addr×Obj)) (s:Shared) (σ:St) (H:Hp) (x:V) (xs:List V) (v:Value) (us:List Value) (Q:VK),Inv X pins σ H s->bu x v->bH xs us->r x xs H Q ->
  wpAny (model X.prog X.w) X.A (call (.builtin id) (v::us)) (EP X pins σ Q) X.xe s
theorem bH.one:∀{x:V}{us:List Value},bH [x] us->∃u,us=[u]/\bu x u
 |_,_,.cons r .nil=>⟨_,rfl,r⟩
section
variable {X:Cx}{pins:List (Addr×Obj)}{σ:St}{H:Hp}{s:Shared}{l b:Addr}{xs ys zs:List V}
theorem Inv.lset{its its':List Value}(I:Inv X pins σ H s)(hH:H l=some (.lst xs))
  (e:s.heap.get? l=some { cls:=.type "list",data:=.seq its.toArray n })(hf:f its.toArray=its'.toArray)(hv:bH ys its')(hz:ys.length<=sizeLine) :
  Inv X pins σ (upd H l (.lst ys)) { s with heap:=s.heap.update l (Xu f),toks:=t' }:=by
 have q:=PySem.IsL.update e f;rw[hf] at q;refine I.write (x:=l) (e:=l) (by rw[hH];exact trivial) (.inl rfl) (λb' u hb hu=>(VF s.heap (Xu f) (U5 hb)).trans hu) ⟨_,q⟩ ?_;exact⟨hz,its',_,hv,q⟩
theorem Inv.lnew(I:Inv X pins σ H s)(hv:bH ys its)(hz:ys.length<=sizeLine) :
  Inv X pins σ (upd H s.heap.objs.size (.lst ys)) { s with heap:=s.heap.push { cls:=.type "list",data:=.seq its.toArray },toks:=t' } :=
 I.laid (λ_ _ q=>Ux _ q) (UB _) ⟨hz,its,0,hv,Vl _ rfl⟩
theorem Inv.fresh(I:Inv X pins σ H s):H s.heap.objs.size=none:=I.hok.fresh (UB _)
theorem Inv.lstM(I:Inv X pins σ H s)(hH:H l=some (.lst xs)):xs.length<=sizeLine/\∃(its:List Value) (n:Nat),bH xs its/\xs.length=its.length/\s.heap.get? l=some { cls:=.type "list",data:=.seq its.toArray n }:=by
 obtain⟨z,its,n,r,e⟩:=I.hok l _ hH;exact⟨z,its,n,r,r.length,e⟩
end
section
variable {X:Cx}
noncomputable def Ky:V->List V->Hp->VK->Prop:=λx vs H Q=>∃l xs y,x=.ref l/\vs=[y]/\H l=some (.lst xs)/\xs.length<sizeLine/\Q .non (upd H l (.lst (xs++[y])))
theorem oV:Um X "list.append" Ky:=by
 intro pins s σ H x vs v us Q I rx rv h;obtain⟨l,xs,y,rfl,rfl,hH,hz,q⟩:=h;cases rx;obtain⟨u,rfl,ru⟩:=rv.one;obtain⟨z,its,n,r,hl,e⟩:=I.lstM hH;refine call_meets F.slot_list_append ⟨_,e,rfl⟩ F.entry_list_append (F.args_list_append_2 _ _) (PySem.list_append l its.toArray n u (by rw[UK];omega)) ⟨e,?_⟩;refine⟨.non,_,I.lset (its':=its++[u]) hH e (by simp) (r.append (.cons ru .nil)) ?_,rfl,q⟩;rw[U6,Xg];omega
end
section
variable {prog:Program}{w:World}{A:Around}{E:Value->Shared->Prop}{s:Shared}
set_option maxRecDepth 100000 in
end
section
variable {X:Cx}
end
end L2
namespace Att
open PySem PySem.W PySem.Calls PyProof.Rows
theorem ql{h:Heap}:∀(ns:List Int) (vs:List Value),WellAll P h vs (ns.map WData.int)->IntsAre vs ns:=by
 intro ns
 induction ns with
 |nil =>
  intro vs w;rw[VP] at w;cases w;exact .nil
 |cons n ns ih =>
  intro vs w;rw[UG] at w;cases w with
  |cons a b =>
   cases a;exact .cons _ _ (ih _ b)
theorem E6{l:OpenLaw}(hn:l.most=some n){h:Heap} 
  (hpre:l.row.toRowW.claim.pre args=true)(hwl:WellAll P h vals args) :
  ∃a vs ns,vals=[UZ a]/\args=[WData.list (ns.map WData.int)]/\h.get? a=some { cls:=.type "list",data:=.seq vs.toArray }/\IntsAre vs ns/\ns.length<=n:=by
 have hsh:WShape.hasAll [] args [.list .int]=true:=(pre_splitW hpre).1;have hc:l.pre.holds [] { args:=args }=true:=(pre_splitW hpre).2;obtain⟨d,r,rfl,h1,h2⟩:=hasAllW_cons hsh;obtain rfl:=hasAllW_nil h2;obtain⟨xs,rfl,h3⟩:=hasW_list h1;obtain⟨ns,rfl⟩:=items_int h3;have hlen:ns.length<=n:=by
  unfold OpenLaw.pre at hc;have h4:(WTm.not (.lt (.lit (.int (n:Int))) (.len (.arg 0)))).holds [] { args:=[.list (ns.map .int)] }=true:=by
   have h4:=(holds_andW hc).1;rw[hn] at h4;exact h4
  have h5:=condW_of h4 (w_not (w_lt w_lit (w_len_list (w_arg rfl))));rw[Ur] at h5;refine Nat.le_of_not_lt λq=>?_;have q':(n:Int)<((ns.length:Nat):Int):=by omega
  first
   |(rw[decide_eq_true q'] at h5;exact absurd h5 (by decide))
   |(simp at h5;omega)
 cases hwl with
 |cons w1 w2 =>
  cases w2;cases w1 with|list ho hall=>exact⟨_,_,ns,rfl,rfl,ho,ql ns _ hall,hlen⟩
theorem Fe(l:OpenLaw)(args:List WData):l.row.toRowW.claim.post args (.bool true) args=true :=
 postW_of (r:=l.row.toRowW) (X:=(true==true))
  (show WShape.has [] (.bool true) .bool=true by first|rfl|decide|simp [WShape.has,WShape.arms,WShape.armsAll])
  (show(WTm.eq .res (.lit (.bool true))).value [] { args:=args,res:=some (.bool true),after:=args }=some (.bool (true==true)) from w_eq_bool (w_res rfl) w_lit) rfl
theorem attach_call{l:OpenLaw} 
  (hn:l.most=some n)(hdf:d.params.defaults=[])
  (call:∀(w:World) (sf sg:Shared) (mg mb:Str->Option Value) (fa:Addr) (o:Obj) (pm cd doc:Value) (a:Addr) (vs:List Value) (ns:List Int),
   Ground q loose [] XP w sf mg mb sg.heap->YP w sg.heap ->
   sg.heap.get? fa=some o->o.data=.func (docDef d.name d.params d.body d.scope pm cd doc)->sg.heap.CodeRec cd d.name->mg d.name=some (.ref fa) ->
   sg.heap.get? a=some { cls:=.type "list",data:=.seq vs.toArray }->IntsAre vs ns->ns.length<=n->sg.gens=#[] ->
   codeAny (model l.prog w) callerA (.call (.ref fa) ⟨[.ref a],[]⟩) (λr s'=>r=.ok (.ret (.bool true))/\OldK sg.heap s'.heap/\s'.os=sg.os/\AllBare s'.gens) sg) :
  WalkO q loose XP YP l.row.toRowW d [] (λf vs=>PySem.call f vs):=by
 intro w sf sg mg mb G Y fa o pm cd doc dV kV ho hd hcd hD hmg hg args vals as hpre hlay hrd hwl hlo;obtain rfl:dV=.none:=Dflts.none hD hdf;obtain rfl:kV=.none:=Dflts.noKw hD;obtain⟨a,vs,ns,rfl,rfl,hobj,hints,hlen⟩:=E6 hn hpre hwl;refine enter_call (codeAny_mono (call w sf sg mg mb fa o pm cd doc a vs ns G Y ho (fd_plain hd) hcd hmg hobj hints hlen hg) λr s' hq=>?_);obtain⟨rfl,h2,h3,h4⟩:=hq;exact⟨.inl ⟨.bool true,.bool true,[],rfl,λ_=>rfl,.bool true,Fe l _,λ_=>⟨Yj.nil,λ_ hm=>(nomatch hm)⟩⟩,h2,h3,h4⟩
section
variable {prog:Program}{w:World}{A:Around}{E:Value->Shared->Prop}{s:Shared}{K:Frag}
end
end Att
namespace L2
open PySem PySem.Spec PyProof.Rows
theorem vm:∀{vs:List Value}{ns:List Int},IntsAre vs ns->bH (ns.map V.int) vs
 |_,_,.nil=>.nil
 |_,_,.cons n t h=>.cons ⟨t,rfl⟩ (vm h)
noncomputable def Mi(H:Hp):Prop:=∀b,H b=none∨∃o xs,H b=some (.frz o (.lst xs))
theorem Ie{K:Up}{k:Nat} 
  (KX:K.In sg.heap)(hns:sg.heap.Ns mainGlobals mg)(hb:sg.heap.Ns builtinsNs mb)(hbb:∀x:Str,x≠"__name__"->mb x=bootBuiltins x)(hlim:sg.heap.NoLimit)(hsm:∃mm,sg.heap.Ns sysModules mm)(hg:sg.gens=#[])
  (ha:sg.heap.get? a=some { cls:=.type "list",data:=.seq vs.toArray })(hi:IntsAre vs ns)(hl:ns.length<=sizeLine)(hr:cE k callerA)
  (F:∀base:Heap,K.In base->base.Ns mainGlobals mg->fN P w K mg base CX k fa fd [x] sp)(hbind:∀(s:Shared) (u:Value),BindsTo s fd ⟨[u],[]⟩ [(x,u)])
  (hsp:∀H:Hp,Mi H->eC K H a (ns.map V.int)->sp [.ref a] H (λv _=>v=.bl true) λ_ _ _=>False)
  (hCX:∀H e s',CX [] H sg (λ_ _ _=>False) e s'->False) :
  codeAny (model P w) callerA (.call (.ref fa) ⟨[.ref a],[]⟩) (λr s'=>r=.ok (.ret (.bool true))/\OldK sg.heap s'.heap/\s'.os=sg.os/\AllBare s'.gens) sg:=by
 have rv:=vm hi;have lenV:=hi.length;have core:∀H:Hp,Mi H->eC K H a (ns.map V.int)->fP P w H sg.heap->(∀b,H b≠none->b=a)->(H a≠none->K.lookup a=none) ->
   codeAny (model P w) callerA (.call (.ref fa) ⟨[.ref a],[]⟩) (λr s'=>r=.ok (.ret (.bool true))/\OldK sg.heap s'.heap/\s'.os=sg.os/\AllBare s'.gens) sg:=by
  intro H hO hS hok hA hK;have base_of:∀{b:Addr}{o:Obj},sg.heap.get? b=some o->H b=none->(xW sg.heap H).get? b=some o:=λe n=>Im e n;have noA:∀{b:Addr}{o:Obj}{es:Array DictEntry}{ep:Nat},sg.heap.get? b=some o->o.data=.dict es ep->H b=none:=λ{b o es ep} e d=>by
   cases q:H b with
   |none=>rfl
   |some u =>
    have e':b=a:=hA b (by rw[q];simp);subst e';rw[ha] at e;cases e;have d':Data.seq vs.toArray _=Data.dict es ep:=d;cases d'
  have nsK:∀{b:Addr}{m:Str->Option Value},sg.heap.Ns b m->(xW sg.heap H).Ns b m:=λ{b m} ⟨o,es,ep,e,d,r⟩=>⟨o,es,ep,base_of e (noA e d),d,r⟩
  have hKb:K.In (xW sg.heap H):=λb o e=>base_of (KX b o e) (by
   cases q:H b with
   |none=>rfl
   |some u =>
    have e':b=a:=hA b (by rw[q];simp);subst e';rw[hK (by rw[q];simp)] at e;cases e)
  have hM:Mod K mg (xW sg.heap H):=⟨hKb,nsK hns,⟨mb,nsK hb,hbb⟩,let ⟨mc,h1,h2⟩:=hlim;⟨mc,nsK h1,h2⟩,let ⟨mm,h1⟩:=hsm;⟨mm,nsK h1⟩⟩
  have e0:A4 P w K mg (xW sg.heap H) callerA [] sg H:=⟨rfl,hM,λb o e=>K2 e,Nat.le_of_eq (FD _ _),trivial,λb hb=>absurd (show b∈([]:List Addr) from hb) (by simp),hok,.of_eq hg⟩
  refine codeAny_mono ((F _ hKb (nsK hns)).run callerA [] sg H ⟨[.ref a],[]⟩ [.ref a] [.ref a] _ _ hr e0 (hbind sg (.ref a)) (.cons rfl .nil) (hsp H hO hS)) λr s' h=>?_;cases r with
  |error e=>exact(hCX H e s' h).elim
  |ok fl =>
   cases fl with
   |next|brk|cont=>exact Vo h
   |ret u =>
    obtain⟨v,H',os,bare,un,hok',r',q⟩:=h;have q':v=.bl true:=q;subst q';obtain rfl:u=Vw true:=r';refine⟨rfl,OldK.of_keep λb o e=>?_,os,bare⟩;cases q:H b with
    |none=>exact un.keep b o e q (by intro z;exact absurd (show b∈([]:List Addr) from z) (by simp)) (by simp)
    |some u =>
     rcases hO b with z|⟨ob,xs,z⟩
     .rw[q] at z;cases z
     .have z2:=un.frzs b ob _ z
      obtain⟨e1,_⟩:=hok b _ z;obtain⟨e2,_⟩:=hok' b _ z2;rw[e] at e1;cases e1;exact e2
 cases hk:K.lookup a with
 |some o =>
  have e:=KX a o hk;rw[ha] at e;cases e;refine core (λ_=>none) (λ_=>.inl rfl) (.inr ⟨_,vs.toArray,_,hk,rfl,rfl,rfl,by rw[UK,lenV];exact hl,by simpa using rv⟩) (λb u z=>by have z':(none:Option HO)=some u:=z;cases z') (λb z=>absurd rfl z) λz=>absurd rfl z
 |none =>
  refine core (λb=>if b=a then some (.frz { cls:=.type "list",data:=.seq vs.toArray } (.lst (ns.map V.int))) else none) (λb=>?_) (.inl (.inr ⟨{ cls:=.type "list",data:=.seq vs.toArray },if_pos rfl⟩)) (λb u z=>?_) (λb z=>?_) λ_=>hk
  .by_cases hb:b=a
   .exact .inr ⟨_,_,if_pos hb⟩
   .exact .inl (if_neg hb)
  .by_cases hb:b=a
   .have z':=(if_pos hb).symm.trans z
    cases z';subst hb;exact⟨ha,by rw[Ur];exact hl,vs,_,rv,ha⟩
   .have z':=(if_neg hb).symm.trans z
    cases z'
  .by_cases hb:b=a
   .exact hb
   .exact absurd (if_neg hb) z
noncomputable abbrev KOf{K:Up}{h:Heap}(_:K.In h):Up:=K
theorem Ke{l:W.OpenLaw}{n k:Nat}{K:Params->Up}{CX:World->A5}{sp:World->Sp} 
  (hi:importsNone q=true)(hn:l.most=some n)(hn2:n<=sizeLine)(hdf:d.params.defaults=[])(hr:cE k callerA)
  (hY:∀(w:World) (h:Heap),YP w h->(K w.params).In h)
  (F:∀(w:World) (mg:Str->Option Value) (fa:Addr) (h:Heap),(K w.params).In h->h.Ns mainGlobals mg->mg d.name=some (.ref fa) ->
   ∃fd:FuncData,(∀(s:Shared) (u:Value),BindsTo s fd ⟨[u],[]⟩ [(x,u)]) /\
    ∀base:Heap,(K w.params).In base->base.Ns mainGlobals mg->fN l.prog w (K w.params) mg base (CX w) k fa fd [x] (sp w))
  (hsp:∀(w:World) (H:Hp) (a:Addr) (ns:List Int),ns.length<=n->Mi H->eC (K w.params) H a (ns.map V.int)->sp w [.ref a] H (λv _=>v=.bl true) λ_ _ _=>False)
  (hCX:∀(w:World) (H:Hp) (s:Shared) (e:Value) (s':Shared),CX w [] H s (λ_ _ _=>False) e s'->False) :
  W.WalkO q loose XP YP l.row.toRowW d [] (λf vs=>PySem.call f vs):=by
 refine Att.attach_call hn hdf λw sf sg mg mb fa o pm cd doc a vs ns G Y ho hd hcd hmg hobj hints hlen hg=>?_;have KX:=hY w _ Y;obtain⟨fd,hb,hF⟩:=F w mg fa _ KX G.T.g hmg;exact Ie KX G.T.g G.T.b G.T.builtins G.T.nolimit (let ⟨mm,h1,_⟩:=(G.T.seer hi).mods;⟨mm,h1⟩) hg hobj hints (UO hlen hn2) hr hF hb (λH hO hS=>hsp w H a ns hlen hO hS) λH e s'=>hCX w H sg e s'
theorem walk_ofK{l:W.OpenLaw}{n k:Nat}{K:Params->Up}{sp:Up->Sp} 
  (hi:importsNone q=true)(hn:l.most=some n)(hn2:n<=sizeLine)(hdf:d.params.defaults=[])(hr:cE k callerA)
  (hY:∀(w:World) (h:Heap),YP w h->(K w.params).In h)
  (F:∀(w:World) (mg:Str->Option Value) (fa:Addr) (h:Heap),(K w.params).In h->h.Ns mainGlobals mg->mg d.name=some (.ref fa) ->
   ∃fd:FuncData,(∀(s:Shared) (u:Value),BindsTo s fd ⟨[u],[]⟩ [(x,u)]) /\
    ∀base:Heap,(K w.params).In base->base.Ns mainGlobals mg->fN l.prog w (K w.params) mg base CX k fa fd [x] (sp (K w.params)))
  (hsp:∀(K:Up) (H:Hp) (a:Addr) (ns:List Int),ns.length<=n->Mi H->eC K H a (ns.map V.int)->sp K [.ref a] H (λv _=>v=.bl true) λ_ _ _=>False)
  (hCX:∀(H:Hp) (s:Shared) (e:Value) (s':Shared),CX [] H s (λ_ _ _=>False) e s'->False) :
  W.WalkO q loose XP YP l.row.toRowW d [] (λf vs=>PySem.call f vs) :=
 Ke (K:=K) (CX:=λ_=>CX) (sp:=λw=>sp (K w.params)) hi hn hn2 hdf hr hY F (λw H a ns h1 h2 h3=>hsp (K w.params) H a ns h1 h2 h3) λ_ H s e s'=>hCX H s e s'
noncomputable def Lq(s:Stmt) (j:Nat):Stmt:=match s with
 |.ClassDef _ _ _ body _ _ _ _ _ _ _=>body.getD j (.Pass ⟨0,0,0,0⟩)
 |_=>.Pass ⟨0,0,0,0⟩
noncomputable def defArgs(s:Stmt):Arguments:=match s with
 |.FunctionDef _ a _ _ _ _ _ _ _ _=>a
 |_=>{ posonlyargs:=[],args:=[],vararg:=none,kwonlyargs:=[],kw_defaults:=[],kwarg:=none,defaults:=[] }
noncomputable def defBody(s:Stmt):List Stmt:=match s with
 |.FunctionDef _ _ b _ _ _ _ _ _ _=>b
 |_=>[]
noncomputable def defScope(s:Stmt):Scope:=match s with
 |.FunctionDef _ _ _ _ _ _ sc _ _ _=>sc
 |_=>{ kind:=.function,names:=[],isGenerator:=false,isCoroutine:=false }
noncomputable abbrev CX0:A5:=λ_ _ _ _ _ _=>False
noncomputable abbrev E0:XK:=λ_ _ _=>False
theorem CQ:gf CX0 X E0:=λ_ _ _ _ _ _ _ h=>h.elim
structure Gh (K:Up) (x qual:Str) (st:Stmt) (f:Addr) (fd:FuncData):Prop where
 ex:∃(oc:Value) (od:Option Addr) (kV doc pm:Value) (an:Option Addr) (cdv ct:Value) (osl:Array (Option Value)),
  fd=Ww x qual (defArgs st) (defBody st) (defScope st) .none kV doc pm an cdv ct/\K.lookup f=some ⟨oc,od,.func fd,osl⟩/\X5 K cdv qual=true
 kp:WD K (.ref f)=true
section
variable {P:Program}{w:World}{K:Up}{mg:Str->Option Value}{base:Heap}
theorem Gh.ok{st:Stmt}{N ps:List Str}{k:Nat}(F:Gh K x qual st f fd)(S:d8 N ps (defScope st))(len:∀vs H Q E,sp vs H Q E->vs.length=ps.length)
  (hbody:∀(cdv:Value) (A:Around) (outer:List Env) (s:Shared) (H:Hp) (vs:List V) (Q:VK) (E:XK),cE k (A.deeper (envOfC qual (defScope st) s.heap.objs.size f cdv))->sp vs H Q E ->
   ∃t,wJ (di CX0 P w K mg base N qual (defScope st) f cdv A outer s H E).nox (defBody st) t/\t { nx:=λ_ H'=>Q .non H',rt:=Q } (start N vs) H):fN P w K mg base CX0 (k+1) f fd ps sp:=by
 obtain⟨oc,od,kV,doc,pm,an,cdv,ct,osl,rfl,lk,hcd⟩:=F.ex;refine MF lk hcd S len λA outer s H vs Q E hr hsp=>?_;obtain⟨t,h,q⟩:=hbody cdv A outer s H vs Q E hr hsp;exact⟨t,h.nox,q⟩
theorem Gh.binds{st:Stmt}{ps:List Str}(F:Gh K x qual st f fd)
  (h:∀(kV doc pm:Value) (an:Option Addr) (cdv ct:Value) (us:List Value),us.length=ps.length->bindArgs (Ww x qual (defArgs st) (defBody st) (defScope st) .none kV doc pm an cdv ct) ⟨us,[]⟩=pure (ps.zip us)):ik K fd ps []:=by
 obtain⟨oc,od,kV,doc,pm,an,cdv,ct,osl,rfl,lk,hcd⟩:=F.ex;exact .all (h kV doc pm an cdv ct)
theorem xX{st:Stmt}{kV doc pm cdv ct:Value}(l:K.lookup f=some ⟨oc,od,.func (Ww x qual (defArgs st) (defBody st) (defScope st) .none kV doc pm an cdv ct),osl⟩)
  (c:X5 K cdv qual=true)(k:WD K (.ref f)=true):Gh K x qual st f (Ww x qual (defArgs st) (defBody st) (defScope st) .none kV doc pm an cdv ct):=⟨⟨oc,od,kV,doc,pm,an,cdv,ct,osl,rfl,l,c⟩,k⟩
end
section
variable {X:Cx}
end
noncomputable def aB(H H':Hp):Prop:=∀b o,H b=some o->H' b=some o
theorem aB.refl(H:Hp):aB H H:=λ_ _ h=>h
theorem aB.trans(a:aB H H1)(b:aB H1 H2):aB H H2:=λc o h=>b c o (a c o h)
theorem aB.free(e:aB H H')(h:H' l=XU):H l=XU:=by
 cases q:H l with
 |none=>rfl
 |some o =>
  rw[e l o q] at h;cases h
end L2
namespace DL
open PySem PySem.Spec PySem.Calls PySem.W PyProof.Rows Builtin Builtin.ObjectAttr Builtin.Getset_descriptor
section
variable {prog:Program}{w:World}{A:Around}{E:Value->Shared->Prop}{h:Heap}{g:Array GenState}{d:Drawn}{t:Nat}{os:OsState}{a C:Addr}{o:Obj}{K:Frag}
structure oo (K:Frag) (C:Addr):Prop where
 cls:findIn K (.ref C) "__class__"=some (some (.builtin "object.__class__"))
 ga:findIn K (.ref C) "__getattribute__"=some (some (.builtin "BaseException.__getattribute__"))
 gt:findIn K (.ref C) "__getattr__"=some none
 ob:mroIn K C (.type "object")=some true
 be:subIn K (.ref C) (.type "BaseException")=some true
theorem Nb(X:K.In h)(Z:oo K C)(hx:h.get? a=some o)(hc:o.cls=.ref C)(hq:R (.ok (.ret (.ref C))) ⟨h,g,d,t,os⟩) :
  codeAny (model prog w) A (.call (.builtin "getset_descriptor.__get__") ⟨[.builtin "object.__class__",.ref a,tp],[]⟩) R ⟨h,g,d,t,os⟩:=by
 have L0:Looks (model prog w) h (typeOf (.ref a)) (.ref C):=hc▸(Looks.ld hx).andThen .now;have L1:=looks_mroIn (M:=model prog w) X Z.ob;refine codeAny_call_builtin KF.slot_gs.plain KF.entry_gs (KF.slot_gs.check _ _ _ _ _ _ _ _ KF.type_class (KF.args_gs _ _ _) ?_);unfold Builtin.«getset_descriptor.__get__» descrGet;rw[dga_obj];refine Uq (UL ?_);unfold descrGetter descrCheckInstance descrNameAndClass isInstance;simp only[KF.owner_class]
 repeat lk
 refine⟨Xy _ (by decide +kernel),codeAny_builtin KF.entry_class ?_⟩;unfold Builtin.«object.__class__» shownTypeOf
 repeat lk
 exact hq
theorem yL(X:K.In h)(Z:oo K C)(hx:h.get? a=some o)(hc:o.cls=.ref C)(hq:Q () ⟨h,g,d,t,os⟩):wpAny M A (checkBuiltinCall "BaseException.__getattribute__" ⟨[.ref a,nameV],[]⟩) Q E ⟨h,g,d,t,os⟩:=by
 have hk:builtinKind "BaseException.__getattribute__"=some .slot:=by decide +kernel
 have hsplit:splitId "BaseException.__getattribute__"=some ("BaseException","__getattribute__"):=by decide +kernel
 have ha:=F.args_bexc_ga (.ref a) nameV;have LS:Looks M h (isSubtype (.ref C) (.type "BaseException")) true:=looks_subIn X Z.be;simp only[checkBuiltinCall,hk,hsplit];refine Uq ?_
 .unfold isInstance
  repeat (first|(with_reducible refine VE hx ?_;rw[hc])|(with_reducible refine LS.at ?_)|wp_step)
  exact hq
theorem Gu(X:K.In h)(Z:oo K C)(hx:h.get? a=some o)(hc:o.cls=.ref C)(hq:Q (.done (.ret (.ref C))) ⟨h,g,d,t,os⟩) :
  wpAny (model prog w) A (Builtin.«object.__getattribute__» ⟨[.ref a,.str "__class__" tk],[]⟩) Q E ⟨h,g,d,t,os⟩:=by
 have hT5:(⟨h,g,d,t,os⟩:Shared).TypeIs (.builtin "object.__class__") "getset_descriptor":=YD;have f5:=YD;have f6:=F.slot_gs_get.lookup;have f7:=F.slot_gs_set.lookup;have LC:Looks (model prog w) h (typeLookup (.ref C) "__class__") (some (.builtin "object.__class__")):=looks_findIn X Z.cls
 repeat (any_goals (first|assumption|(with_reducible refine VE hx ?_;rw[hc])|(with_reducible refine LC.at ?_)|wp_step))
 refine Nb X Z hx hc ?_
 repeat (any_goals (first|assumption|wp_step))
theorem J5(X:K.In h)(Z:oo K C)(hx:h.get? a=some o)(hc:o.cls=.ref C)(hq:R (.ok (.ret (.ref C))) ⟨h,g,d,t,os⟩) :
  codeAny (model prog w) A (.call (.builtin "BaseException.__getattribute__") ⟨[.ref a,.str "__class__" tk],[]⟩) R ⟨h,g,d,t,os⟩ :=
 codeAny_call_builtin W2.ga.plain F.entry_bexc_ga (yL X Z hx hc (Gu X Z hx hc hq))
theorem Pp(X:K.In h)(Z:oo K C)(hx:h.get? a=some o)(hc:o.cls=.ref C)(hq:Q (.ref C) ⟨h,g,d,t,os⟩) :
  wpAny (model prog w) A (getAttrBy (.ref a) (.str "__class__" tk) false) Q E ⟨h,g,d,t,os⟩:=by
 have f3:=W2.ga.bind (.ref a);have hx2:(Wa "BaseException.__getattribute__"==Wa "object.__getattribute__")=false:=by decide +kernel
 have hx1:(onTheHeap (UZ C)&&Wa "BaseException.__getattribute__"==Wa "object.__getattribute__")=false:=by rw[hx2];rfl
 have L1:Looks (model prog w) h (typeLookup (.ref C) "__getattribute__") (some (.builtin "BaseException.__getattribute__")):=looks_findIn X Z.ga;have L2:Looks (model prog w) h (typeLookup (.ref C) "__getattr__") none:=looks_findIn X Z.gt
 repeat (any_goals (first|assumption|(with_reducible refine VE hx ?_;rw[hc])|(with_reducible refine L1.at ?_)|(with_reducible refine L2.at ?_)|wp_step))
 refine J5 X Z hx hc ?_
 repeat (any_goals (first|assumption|wp_step))
theorem J6(X:K.In h)(Z:oo K C)(hx:h.get? a=some o)(hc:o.cls=.ref C)(hq:Q (some (.ref C)) ⟨h,g,d,t+1,os⟩):wpAny (model prog w) A (getAttr? (.ref a) "__class__") Q E ⟨h,g,d,t,os⟩:=by
 unfold getAttr? getAttrBy?
 repeat (any_goals (first|assumption|with_reducible apply Pp X Z hx hc|wp_step))
end
noncomputable def yB(a C:Addr) (dc:Option Addr):Heap->Prop:=λh=>∃o vs,h.get? a=some o/\o.cls=.ref C/\o.data=.fields vs/\o.dict=dc
theorem mH{K:Frag}{a C:Addr}{dc:Option Addr}(Z:oo K C)(hC:(clsIn K C).isSome=true):KitX K (.ref a) (.ref C) (yB a C dc) where
 ty:=λ_ _ _ ⟨o,_,h1,h2,_⟩=>h2▸(Looks.ld h1).andThen .now
 it:=λ_ _ X _=>by
  obtain⟨cd,hcD⟩:=W4.mp hC;unfold clsIn at hcD;split at hcD
  .rename_i c' d' cd' sl' ho
   intro A' Q' E' s' k q;unfold isType loadHead;exact Uq (wpAny_loadPart (k _ _ (X _ _ ho)) (UL q))
  .cases hcD
 ne:=λh tp dd its n sl X htp=>by
  obtain⟨cd,hcD⟩:=W4.mp hC;refine Bool.eq_false_iff.mpr λq=>?_;have e:C=tp:=UZ.inj (beq_iff_eq.mp q);subst e;unfold clsIn at hcD;split at hcD
  .rename_i c' d' cd' sl' ho
   have z:=(X _ _ ho).symm.trans htp;cases z
  .cases hcD
 ca:=λ{_ _ _ _ _ s} X ⟨o,_,h1,h2,_⟩ k=>by
  obtain⟨h,g,d,t,os⟩:=s;exact J6 X Z h1 h2 k
theorem oo.isCls{K:Frag}(Z:oo K C):(clsIn K C).isSome=true:=by
 obtain⟨cd,a,b⟩:=Yn.mp Z.ob;rw[a];rfl
noncomputable def f9:List String:=["NoneType","bool","int","str","tuple","list","dict"]
structure XC (K:Frag) (x:Str) (C:Addr):Prop where
 ns:nsIn K mainGlobals x=some (some (.ref C))
 ek:oo K C
 bt:∀T∈f9,kitOne K (.ref C) (.type T)=some false
end DL
namespace DL
open PySem PySem.Spec PyProof.Rows L2
theorem uw(o:Obj)(f:Array Value->Array Value):(o.mapFields f).dict=o.dict:=by unfold Obj.mapFields;split<;>rfl
noncomputable def lp(h:Heap) (e:Addr) (dc:Option Addr):Prop:=∃o,h.get? e=some o/\o.dict=dc
section
variable {M:Model}{A:Around}{E:Value->Shared->Prop}{s:Shared}{base:Heap}{env:Vu}{outer l:List Vu}{L e:Addr}{cls a0 fl:Value}{dc:Option Addr}{Q:Unit->Shared->Prop}
theorem Ag(hfr:A.frames=some (env::outer))(hl:s.heap.FunFrames base (env::outer))(hf:env.frame=some L)(he:s.heap.get? e=some oe)(kb:base.StaysIn s.heap)(hen:base.get? e=none)(hd:oe.data=.fields vs)(hz:1<vs.size)(h0:vs[0]?=some a0)
  (h:∀h',YQ base (env::outer) e oe.cls a0 (rawInt L) s.heap h'->lp h' e oe.dict->Q () { s with heap:=h' }) :
  wpAny M A (do
   let a ←frameOf env
   let pl ←entryPlaceOf L b0
   let b ←YV head a .none (rawInt L) .none pl
   setField (.ref e) 1 b) Q E s:=by
 have nf:e∉(env::outer).filterMap (·.frame):=λhm=>by
  obtain⟨_,o,ho,q⟩:=hl.mem hm;rw[he] at ho;cases ho;exact q vs hd
 refine Uq (wpAny_frameOf_fun hfr hl hf λg ⟨_,same,slots⟩=>Uq (wpAny_entryPlaceOf λpl hpl=>?_));have ge:g.get? e=some oe:=(same e nf).trans he;have up:∀(N:Obj) (f:Obj->Obj) (b:Addr) (o:Obj),b≠e->g.get? b=some o->((g.push N).update e f).get? b=some o:=λN f b o hb q=>(VF _ _ (U5 hb)).trans (Ux _ q);have ne:∀b o,s.heap.get? b=some o->(∀vs,o.data≠.fields vs)->b≠e:=λb o q z c=>by subst c;rw[he] at q;cases q;exact z vs hd
 have kg:base.StaysIn g:=λb o q=>(same b λhm=>by rw[(hl.mem hm).1] at q;cases q).trans (kb b o q);unfold YV newFields;refine Uq (wpAny_newObj_type ?_ (hpl.sizeOk5 _ _ _ _ _));have d3:=Xv hd (·.setIfInBounds 1 (UZ g.objs.size));have hTe:g.objs.size≠e:=Nat.ne_of_gt (UJ ge);have at_e:∀N:Obj,((g.push N).update e (Obj.mapFields (·.setIfInBounds 1 (UZ g.objs.size)))).get? e=some (oe.mapFields (·.setIfInBounds 1 (UZ g.objs.size))):=λN=>VJ _ (Ux _ ge) (YC d3);refine wpAny_setField (Ux _ ge) hd hz (h _ ⟨λb o q=>up _ _ b o (λc=>by subst c;rw[hen] at q;cases q) (kg b o q),hl.of_keeps λb o q z=>?_,?_,λb o q z=>?_⟩ ⟨_,at_e _,uw _ _⟩)
 .obtain⟨sl,x⟩:=slots b o q
  exact⟨_,up _ _ b _ (ne b o q z) x,rfl⟩
 .refine⟨_,_,g.objs.size,_,_,at_e _,⟨Obj.cls_mapFields _ _,?_⟩,d3,?_,kg.fresh,hTe,(VF _ _ (U5 hTe)).trans (Vl g rfl),rfl,?_⟩
  .rw[Array.getElem?_setIfInBounds_ne (by decide)];exact h0
  .simp [hz]
  .first|(simp;done)|(rcases hpl with rfl|⟨_,_,_,_,_,_,_,rfl⟩<;>simp)
 .obtain⟨sl,x⟩:=slots b o q
  exact⟨sl,up _ _ b _ (ne b o q z) x⟩
theorem Iv(hfr:A.frames=some (env::outer))(hl:s.heap.FunFrames base (env::outer))(hf:env.frame=some L)(he:s.heap.get? e=some oe)(kb:base.StaysIn s.heap)(hen:base.get? e=none)(hd:oe.data=.fields vs)(h1:vs[1]?=some .none)(h0:vs[0]?=some a0)
  (h:∀h',YQ base (env::outer) e oe.cls a0 (rawInt L) s.heap h'->lp h' e oe.dict->Q () { s with heap:=h' }):wpAny M A (noteFrame (.ref e) env) Q E s:=by
 unfold noteFrame;simp only[hf];refine Uq (wpAny_field he hd h1 ?_);rw[if_neg (by decide)];exact Ag hfr hl hf he kb hen hd (Wh.mp h1).1 h0 h
theorem Dr(hfr:A.frames=some (env::outer))(hl:s.heap.FunFrames base (env::outer))(hf:env.frame=some L)(ht:s.heap.TracedW base e cls a0)(hc:lp s.heap e dc)(kb:base.StaysIn s.heap)(hen:base.get? e=none)
  (h:∀h',YQ base (env::outer) e cls a0 (rawInt L) s.heap h'->lp h' e dc->Q () { s with heap:=h' }):wpAny M A (noteFrame (.ref e) env) Q E s:=by
 obtain⟨oe,vs,T,oT,ts,he,⟨rfl,h0⟩,hd,h1,hnT,hTe,hT,dT,h3⟩:=ht;obtain⟨o',q,rfl⟩:=hc;rw[he] at q;cases q;have oth:∀(f:Obj->Obj) (b:Addr),b≠T->(s.heap.update T f).get? b=s.heap.get? b:=λf b hb=>VF _ _ (U5 hb);have ne:∀b o,s.heap.get? b=some o->(∀vs,o.data≠.fields vs)->b≠T:=λb o q z c=>by subst c;rw[hT] at q;cases q;exact z ts dT
 unfold noteFrame;simp only[hf];refine Uq (wpAny_field he hd h1 ?_);rw[if_pos (by simp)];refine Uq (wpAny_field hT dT h3 ?_);rw[if_neg (by simp [rawInt])];refine Uq (wpAny_setField hT dT (Wh.mp h3).1 ?_);refine Ag hfr (hl.of_keeps λb o q z=>⟨o,(oth _ b (ne b o q z)).trans q,rfl⟩) hf ((oth _ e (U5 hTe)).trans he) (λb o q=>(oth _ b λc=>by subst c;rw[hnT] at q;cases q).trans (kb b o q)) hen hd (Wh.mp h1).1 h0 λh' ⟨x1,x2,x3,x4⟩ x5=>h h' ⟨x1,x2,x3,λb o q z=>x4 b o ((oth _ b (ne b o q z)).trans q) z⟩ x5
theorem kU(kb:base.StaysIn s.heap)(hl:s.heap.FunFrames base l)(ht:s.heap.TracedAtW base e cls a0 fl)(hc:lp s.heap e dc)
  (h:∀h',base.StaysIn h'->h'.FunFrames base l->h'.TracedW base e cls a0->(∀b o,s.heap.get? b=some o->(∀vs,o.data≠.fields vs)->h'.get? b=some o)->lp h' e dc->Q () { s with heap:=h' }):wpAny M A (setFlight (.ref e) none) Q E s:=by
 obtain⟨oe,vs,T,oT,ts,he,hcl,hd,h1,hnT,hTe,hT,dT,h3⟩:=ht;have z3:3<ts.size:=(Wh.mp h3).1;have oth:∀(f:Obj->Obj) (b:Addr),b≠T->(s.heap.update T f).get? b=s.heap.get? b:=λf b hb=>VF _ _ (U5 hb);have ne:∀b o,s.heap.get? b=some o->(∀vs,o.data≠.fields vs)->b≠T:=λb o q z c=>by subst c;rw[hT] at q;cases q;exact z ts dT
 unfold setFlight;refine Uq (wpAny_field he hd h1 ?_);rw[if_pos (by simp)];obtain⟨o',q',rfl⟩:=hc;refine wpAny_setField hT dT z3 (h _ (λb o q=>(oth _ b λc=>by subst c;rw[hnT] at q;cases q).trans (kb b o q)) (hl.of_keeps λb o q z=>⟨o,(oth _ b (ne b o q z)).trans q,rfl⟩) ?_ (λb o q z=>(oth _ b (ne b o q z)).trans q) ⟨o',(oth _ e (U5 hTe)).trans q',rfl⟩);exact⟨oe,vs,T,_,_,(oth _ e (U5 hTe)).trans he,hcl,hd,h1,hnT,hTe,VJ _ hT (YC (Xv dT _)),Xv dT _,by simp [z3]⟩
noncomputable def Ry(h:Heap) (e:Addr) (ox:Option Addr):Prop:=∃dc,lp h e dc/\(ox=none∨ox=dc)
theorem BZ(hfr:A.frames=some (env::outer))(hl:s.heap.FunFrames base (env::outer))(hf:env.frame=some L)(he:s.heap.get? e=some oe)(kb:base.StaysIn s.heap)(hen:base.get? e=none)(hd:oe.data=.fields vs)(h1:vs[1]?=some .none)(h0:vs[0]?=some a0)
  (h:∀h',V6 base outer e oe.cls a0 h'->s.heap.UpToSlots h'->lp h' e oe.dict->Q () { s with heap:=h' }):wpAny M A (leaving env (.ref e)) Q E s:=by
 unfold leaving;refine Uq (Iv hfr hl hf he kb hen hd h1 h0 λg ⟨k1,k2,k3,k4⟩ dg=>?_);refine kU (s:={ s with heap:=g }) k1 k2 k3 dg λh' m1 ⟨_,_,m2⟩ m3 m4 dh=>h h' ⟨m1,hen,m2,m3⟩ (λb o q z=>?_) dh;obtain⟨sl,x⟩:=k4 b o q z;exact⟨sl,m4 b _ x z⟩
theorem FJ(hfr:A.frames=some (env::outer))(hf:env.frame=some L)(hfl:V6 base (env::outer) e cls a0 s.heap)(hc:lp s.heap e dc)
  (h:∀h',V6 base outer e cls a0 h'->s.heap.UpToSlots h'->lp h' e dc->Q () { s with heap:=h' }):wpAny M A (leaving env (.ref e)) Q E s:=by
 obtain⟨f1,f2,f3,f4⟩:=hfl;unfold leaving;refine Uq (Dr hfr f3 hf f4 hc f1 f2 λg ⟨k1,k2,k3,k4⟩ dg=>?_);refine kU (s:={ s with heap:=g }) k1 k2 k3 dg λh' m1 ⟨_,_,m2⟩ m3 m4 dh=>h h' ⟨m1,f2,m2,m3⟩ (λb o q z=>?_) dh;obtain⟨sl,x⟩:=k4 b o q z;exact⟨sl,m4 b _ x z⟩
theorem Iw(hfr:A.frames=some (env::outer))(hf:env.frame=some L)(hfl:V6 base (env::outer) e cls a0 s.heap)(hc:lp s.heap e dc)
  (h:∀h',Heap.HeldW base (env::outer) e cls a0 L h'->s.heap.UpToSlots h'->lp h' e dc->Q () { s with heap:=h' }):wpAny M A (noteFrame (.ref e) env) Q E s:=by
 obtain⟨f1,f2,f3,f4⟩:=hfl;exact Dr hfr f3 hf f4 hc f1 f2 λg ⟨k1,k2,k3,k4⟩ dg=>h g ⟨k1,f2,k2,k3⟩ k4 dg
theorem Iy(hh:Heap.HeldW base l e cls a0 L s.heap)(hc:lp s.heap e dc)(h:∀h',V6 base l e cls a0 h'->s.heap.UpToSlots h'->lp h' e dc->Q () { s with heap:=h' }):wpAny M A (setFlight (.ref e) none) Q E s:=by
 obtain⟨f1,f2,f3,f4⟩:=hh;exact kU f1 f3 f4 hc λh' k1 k2 k3 k4 k5=>h h' ⟨k1,f2,k2,k3⟩ (λb o q z=>⟨o.slots,k4 b o q z⟩) k5
theorem Iz(hh:V6 base l e cls a0 s.heap)(hc:lp s.heap e dc)(h:∀h',V6 base l e cls a0 h'->s.heap.UpToSlots h'->lp h' e dc->Q () { s with heap:=h' }):wpAny M A (setFlight (.ref e) none) Q E s:=by
 obtain⟨f1,f2,f3,f4⟩:=hh;exact kU f1 f3 f4.at hc λh' k1 k2 k3 k4 k5=>h h' ⟨k1,f2,k2,k3⟩ (λb o q z=>⟨o.slots,k4 b o q z⟩) k5
end
noncomputable def Pa:Expr->Bool
 |.Starred _ _=>false
 |_=>true
theorem aQ(h:Pa e=true):starEach (e::es) env=(false,eval e env)::starEach es env:=by
 cases e<;>first|(rw[starEach];intros;contradiction)|rw[starEach]|(cases h)
theorem gF(h:Pa e=true):starEach [e] env=[(false,eval e env)]:=by
 rw[aQ h,starEach]
theorem bB:∀{es:List Expr},es.all Pa=true->(backTo pos (starEach es env)).any (·.1)=false
 |[],_=>by rw[starEach];rfl
 |e::es,h=>by
  rw[WL,UU] at h;rw[aQ h.1];have:=bB (env:=env) (pos:=pos) h.2;show(false||(backTo pos (starEach es env)).any (·.1))=false;rw[this];rfl
theorem sQ(h:Pa e=true):((backTo pos (starEach [e] env)).all (λx=>!x.1)&&(backToKw pos (keywordEach [] env)).all (λx=>x.1.isSome)
  &&decide ([e].length+([]:List Keyword).length+(if([]:List Keyword).isEmpty then 0 else 1)<30))=true:=by
 rw[gF h,keywordEach];rfl
inductive Kd where
 |ins (c:Str) (ks:List Str)|dint (ks:List Int)|exf (c:Str) (ks:List Str)
inductive D where
 |non|bl (b:Bool)|int (i:Int)|str (x:Str)|tup (xs:List D)|lst (xs:List D)|dic (ks:List Str) (xs:List D)|exc (x:Str)|ob (k:Kd) (xs:List D)
structure SY (K:Up) (ks:List Str) (C:Addr):Prop where
 cls:RV K C
 no:∀f∈ks,iE K C f
 gc:VQ K (.ref C) "__class__"=some (some (.builtin "object.__class__"))
 gn:XS K (.builtin "object.__class__") "__get__"=some (some (.builtin "getset_descriptor.__get__"))
 tk:W.takesIn K (.builtin "object.__class__")=some true
 mo:WR K C (.type "object")=some true
 bt:∀T∈f9,Xh K (.ref C) (.type T)=some false
noncomputable def JH(K:Up) (H:Hp):Kd->Addr->List V->Prop
 |.ins c ks,a,vs=>∃C dx,Vk K mainGlobals c=some (some (.ref C))/\SY K ks C/\H a=some (.ins C dx (ks.zip vs))/\ks.length=vs.length
 |.dint ks,a,vs=>∃kvs,Rd H a (.dK kvs)/\kvs=(ks.map Xa).zip vs/\ks.length=vs.length
 |.exf c ks,a,vs=>∃C dx fs,XC K c C/\Rd H a (.ext (yB a C (some dx)))/\H dx=some (.xd fs)/\ks.length=vs.length/\∀(i:Nat) (f:Str) (v:V),ks[i]?=some f->vs[i]?=some v->fs.lookup f=some v
structure JT where
 cls:Str
 flds:List (Str×D)
inductive ai (α:Type) where
 |ok (a:α)|exn (x:JT)|stuck
noncomputable def ai.bind{α β:Type}(r:ai α) (f:α->ai β):ai β:=match r with
 |.ok a=>f a
 |.exn x=>.exn x
 |.stuck=>.stuck
mutual
def Rep(K:Up)(H:Hp):D->V->Prop
 |.non,v=>v=.non
 |.bl b,v=>v=.bl b
 |.int i,v=>v=.int i
 |.str x,v=>v=.str x
 |.tup ds,v=>∃a vs,v=.ref a/\jK K H a vs/\Reps K H ds vs
 |.lst ds,v=>∃a vs,v=.ref a/\eC K H a vs/\Reps K H ds vs
 |.dic ks ds,v=>∃a kvs vs,v=.ref a/\Rd H a (.dK kvs)/\kvs=(ks.map Vg).zip vs/\ks.length=vs.length/\Reps K H ds vs
 |.exc x,v=>∃a C dc,v=.ref a/\XC K x C/\Rd H a (.ext (yB a C dc))
 |.ob k ds,v=>∃a vs,v=.ref a/\JH K H k a vs/\Reps K H ds vs
def Reps(K:Up)(H:Hp):List D->List V->Prop
 |[],vs=>vs=[]
 |d::ds,vs=>∃v r,vs=v::r/\Rep K H d v/\Reps K H ds r
end
theorem aB.rd(e:aB H H')(h:Rd H a o):Rd H' a o:=by
 rcases h with h|⟨o',h⟩
 .exact .inl (e _ _ h)
 .exact .inr ⟨o',e _ _ h⟩
theorem aB.sqT{K:Up}(e:aB H H')(h:jK K H a xs):jK K H' a xs:=by
 rcases h with h|h
 .exact .inl (aB.rd e h)
 .exact .inr h
theorem aB.sqL{K:Up}(e:aB H H')(h:eC K H a xs):eC K H' a xs:=by
 rcases h with h|h
 .exact .inl (aB.rd e h)
 .exact .inr h
theorem JH.mono{K:Up}(e:aB H H'):∀{k:Kd}{a:Addr}{vs:List V},JH K H k a vs->JH K H' k a vs
 |.ins c ks,a,vs,⟨C,dx,h0,h1,h2,h3⟩=>⟨C,dx,h0,h1,e _ _ h2,h3⟩
 |.dint ks,a,vs,⟨kvs,h1,h2,h3⟩=>⟨kvs,aB.rd e h1,h2,h3⟩
 |.exf c ks,a,vs,⟨C,dx,fs,h1,h2,h3,h4⟩=>⟨C,dx,fs,h1,aB.rd e h2,e _ _ h3,h4⟩
mutual
theorem Rep.mono{K:Up}{H H':Hp}(e:aB H H'):∀{d:D}{v:V},Rep K H d v->Rep K H' d v
 |.non,_,h=>by unfold Rep at h ⊢;exact h
 |.bl _,_,h=>by unfold Rep at h ⊢;exact h
 |.int _,_,h=>by unfold Rep at h ⊢;exact h
 |.str _,_,h=>by unfold Rep at h ⊢;exact h
 |.tup ds,_,h=>by
  unfold Rep at h ⊢;obtain⟨a,vs,e1,e2,e3⟩:=h;exact⟨a,vs,e1,aB.sqT e e2,Reps.mono e e3⟩
 |.lst ds,_,h=>by
  unfold Rep at h ⊢;obtain⟨a,vs,e1,e2,e3⟩:=h;exact⟨a,vs,e1,aB.sqL e e2,Reps.mono e e3⟩
 |.dic ks ds,_,h=>by
  unfold Rep at h ⊢;obtain⟨a,kvs,vs,e1,e2,e3,e4,e5⟩:=h;exact⟨a,kvs,vs,e1,aB.rd e e2,e3,e4,Reps.mono e e5⟩
 |.exc x,_,h=>by
  unfold Rep at h ⊢;obtain⟨a,C,dc,e1,e2,e3⟩:=h;exact⟨a,C,dc,e1,e2,aB.rd e e3⟩
 |.ob k ds,_,h=>by
  unfold Rep at h ⊢;obtain⟨a,vs,e1,e2,e3⟩:=h;exact⟨a,vs,e1,e2.mono e,Reps.mono e e3⟩
theorem Reps.mono{K:Up}{H H':Hp}(e:aB H H'):∀{ds:List D}{vs:List V},Reps K H ds vs->Reps K H' ds vs
 |[],_,h=>by unfold Reps at h ⊢;exact h
 |d::ds,_,h=>by
  unfold Reps at h ⊢;obtain⟨v,r,e1,e2,e3⟩:=h;exact⟨v,r,e1,Rep.mono e e2,Reps.mono e e3⟩
end
section
variable {K:Up}{H:Hp}{v:V}{vs:List V}{d:D}{ds:List D}
theorem aV:Rep K H .non v↔v=.non:=by unfold Rep;exact Yz
theorem aL{b}:Rep K H (.bl b) v↔v=.bl b:=by unfold Rep;exact Yz
theorem az{i}:Rep K H (.int i) v↔v=.int i:=by unfold Rep;exact Yz
theorem Rep.str_iff{x}:Rep K H (.str x) v↔v=.str x:=by unfold Rep;exact Yz
theorem aM:Rep K H (.tup ds) v↔∃a vs,v=.ref a/\jK K H a vs/\Reps K H ds vs:=by rw[Rep]
theorem aH:Rep K H (.lst ds) v↔∃a vs,v=.ref a/\eC K H a vs/\Reps K H ds vs:=by rw[Rep]
theorem eB{x}:Rep K H (.exc x) v↔∃a C dc,v=.ref a/\XC K x C/\Rd H a (.ext (yB a C dc)):=by rw[Rep]
theorem gW{k}:Rep K H (.ob k ds) v↔∃a vs,v=.ref a/\JH K H k a vs/\Reps K H ds vs:=by rw[Rep]
theorem Rep.exf_exc(h:Rep K H (.ob (.exf c ks) ds) v):Rep K H (.exc c) v:=by
 obtain⟨a,vs,e,⟨C,dx,fs,h1,h2,_⟩,_⟩:=gW.mp h;exact eB.mpr ⟨a,C,some dx,e,h1,h2⟩
theorem Reps.nil_iff:Reps K H [] vs↔vs=[]:=by unfold Reps;exact Yz
theorem aJ:Reps K H (d::ds) vs↔∃v r,vs=v::r/\Rep K H d v/\Reps K H ds r:=by rw[Reps]
theorem Reps.nil:Reps K H [] []:=Reps.nil_iff.mpr rfl
theorem Reps.cons(h:Rep K H d v)(h':Reps K H ds vs):Reps K H (d::ds) (v::vs):=aJ.mpr ⟨_,_,rfl,h,h'⟩
end
theorem Reps.length{K:Up}:∀{ds:List D}{vs:List V},Reps K H ds vs->ds.length=vs.length
 |[],_,h=>by rw[Reps.nil_iff.mp h];rfl
 |d::ds,_,h=>by
  obtain⟨v,r,rfl,_,h⟩:=aJ.mp h;simp [Reps.length h]
theorem Reps.get{K:Up}{H:Hp}:∀{ds:List D}{vs:List V}{i:Nat}{d:D},Reps K H ds vs->ds[i]?=some d->∃v,vs[i]?=some v/\Rep K H d v
 |[],_,_,_,h,e=>by simp at e
 |x::ds,_,0,d,h,e=>by
  obtain⟨v,r,rfl,h1,_⟩:=aJ.mp h;simp at e;subst e;exact⟨v,rfl,h1⟩
 |x::ds,_,i+1,d,h,e=>by
  obtain⟨v,r,rfl,_,h2⟩:=aJ.mp h;obtain⟨u,e1,e2⟩:=Reps.get (i:=i) h2 (by simpa using e);exact⟨u,by simpa using e1,e2⟩
theorem Reps.app{K:Up}{H:Hp}:∀{ds es:List D}{vs us:List V},Reps K H ds vs->Reps K H es us->Reps K H (ds++es) (vs++us)
 |[],_,_,_,h,h'=>by rw[Reps.nil_iff.mp h];exact h'
 |d::ds,_,_,_,h,h'=>by
  obtain⟨v,r,rfl,h1,h2⟩:=aJ.mp h;exact Reps.cons h1 (Reps.app h2 h')
theorem Reps.take{K:Up}:∀{ds:List D}{vs:List V}(n:Nat),Reps K H ds vs->Reps K H (ds.take n) (vs.take n)
 |_,_,0,_=>by simp;exact Reps.nil
 |[],_,n+1,h=>by rw[Reps.nil_iff.mp h];exact Reps.nil
 |d::ds,_,n+1,h=>by
  obtain⟨v,r,rfl,h1,h2⟩:=aJ.mp h;exact Reps.cons h1 (Reps.take n h2)
theorem Reps.drop{K:Up}:∀{ds:List D}{vs:List V}(n:Nat),Reps K H ds vs->Reps K H (ds.drop n) (vs.drop n)
 |_,_,0,h=>by simpa using h
 |[],_,n+1,h=>by rw[Reps.nil_iff.mp h];exact Reps.nil
 |d::ds,_,n+1,h=>by
  obtain⟨v,r,rfl,h1,h2⟩:=aJ.mp h;exact Reps.drop n h2
theorem Reps.set{K:Up}(h:Rep K H d v):∀{ds:List D}{vs:List V}(n:Nat),Reps K H ds vs->Reps K H (ds.set n d) (vs.set n v)
 |[],_,n,h'=>by rw[Reps.nil_iff.mp h'];exact Reps.nil
 |x::ds,_,0,h'=>by
  obtain⟨v,r,rfl,h1,h2⟩:=aJ.mp h';exact Reps.cons h h2
 |x::ds,_,n+1,h'=>by
  obtain⟨v,r,rfl,h1,h2⟩:=aJ.mp h';exact Reps.cons h1 (Reps.set h n h2)
theorem wH{K:Up}:∀(ns:List Int),Reps K H (ns.map D.int) (ns.map V.int)
 |[]=>Reps.nil
 |n::r=>Reps.cons (az.mpr rfl) (wH r)
structure bp (H Ha H' Ha':Hp):Prop where
 s:aB H H'
 z:aB Ha Ha'
 sub:aB Ha' H'
 nw:∀a,Ha' a≠none->Ha a=none->H a=none
theorem bp.refl(h:aB Ha H):bp H Ha H Ha:=⟨aB.refl _,aB.refl _,h,λa h1 h2=>absurd h2 h1⟩
theorem bp.trans(a:bp H Ha H1 H01)(b:bp H1 H01 H2 H02):bp H Ha H2 H02 :=
 ⟨a.s.trans b.s,a.z.trans b.z,b.sub,λx h1 h2=>by
  cases q:H01 x with
  |none=>exact a.s.free (b.nw x h1 q)
  |some o=>exact a.nw x (by rw[q];simp) h2⟩
theorem aO(hs:aB Ha H)(hp:H p=none):bp H Ha (upd H p o) (upd Ha p o) :=
 ⟨same_new hp o,same_new (hs.free hp) o,λb u e=>by
  by_cases hb:b=p
  .subst hb;rw[aw] at e ⊢;exact e
  .rw[aq hb] at e ⊢;exact hs _ _ e,λa h1 h2=>by
  by_cases hb:a=p
  .subst hb;exact hp
  .rw[aq hb] at h1;exact absurd h2 h1⟩
where
 same_new {H:Hp}{p:Addr}(h:H p=none) (o:HO):aB H (upd H p o):=λb u q=>by rw[aq (aY q h)];exact q
inductive Sl where
 |no|sh (d:D)|ow (d:D)|ox (j:Nat) (ds:List D)|pt (a:Addr)
noncomputable abbrev Ev:=List Sl
noncomputable def Reads(K:Up) (Ha:Hp) (σ:L2.St) (ρ:Ev):Prop:=∀(i:Nat) (d:D),ρ[i]?=some (.sh d)->∃v,σ[i]?=some (some v)/\Rep K Ha d v
theorem Reads.mono{K:Up}(e:aB H H')(r:Reads K H σ ρ):Reads K H' σ ρ:=λi d h =>
 let ⟨v,h1,h2⟩:=r i d h
 ⟨v,h1,h2.mono e⟩
noncomputable def A3(K:Up) (H:Hp) (x:JT) (C:Value) (ox:Option Addr):Prop :=
 (∃c,C=.ref c/\XC K x.cls c)/\match ox with
  |none=>x.flds=[]
  |some a=>∃fs,H a=some (.xd fs)/\∀n d,x.flds.lookup n=some d->∃v,fs.lookup n=some v/\Rep K H d v
noncomputable def post(K:Up) (E:XK) (H Ha:Hp) (r:ai D) (Q:VK):Prop:=match r with
 |.ok d=>∀v H' Ha',bp H Ha H' Ha'->Rep K Ha' d v->Q v H'
 |.exn x=>∀C ox H' Ha',bp H Ha H' Ha'->A3 K Ha' x C ox->E C ox H'
 |.stuck=>False
noncomputable def rH(K:Up) (E:XK) (H Ha:Hp) (r:ai (List D)) (Q:List V->Hp->Prop):Prop:=match r with
 |.ok ds=>∀vs H' Ha',bp H Ha H' Ha'->Reps K Ha' ds vs->Q vs H'
 |.exn x=>∀C ox H' Ha',bp H Ha H' Ha'->A3 K Ha' x C ox->E C ox H'
 |.stuck=>False
noncomputable def rJ(K:Up) (E:XK) (H Ha:Hp) (r:ai D) (Q:Bool->Hp->Prop):Prop:=match r with
 |.ok (.bl b)=>∀H' Ha',bp H Ha H' Ha'->Q b H'
 |.ok _=>False
 |.exn x=>∀C ox H' Ha',bp H Ha H' Ha'->A3 K Ha' x C ox->E C ox H'
 |.stuck=>False
section
variable {K:Up}{E:XK}{H Ha H1 H01:Hp}
theorem post.grow(h:post K E H Ha r Q)(g:bp H Ha H1 H01):post K E H1 H01 r Q:=by
 cases r with|ok d=>exact λv H' Ha' g'=>h v H' Ha' (g.trans g')|exn x=>exact λC ox H' Ha' g'=>h C ox H' Ha' (g.trans g')|stuck=>exact h
theorem rH.grow(h:rH K E H Ha r Q)(g:bp H Ha H1 H01):rH K E H1 H01 r Q:=by
 cases r with|ok d=>exact λv H' Ha' g'=>h v H' Ha' (g.trans g')|exn x=>exact λC ox H' Ha' g'=>h C ox H' Ha' (g.trans g')|stuck=>exact h
theorem rJ.grow(h:rJ K E H Ha r Q)(g:bp H Ha H1 H01):rJ K E H1 H01 r Q:=by
 cases r with
 |ok d =>
  cases d with|bl b=>exact λH' Ha' g'=>h H' Ha' (g.trans g')| _=>exact h
 |exn x=>exact λC ox H' Ha' g'=>h C ox H' Ha' (g.trans g')
 |stuck=>exact h
end
noncomputable def tD(K:Up) (E:XK) (f:Ev->ai D):TE:=λσ H Q=>∃Ha ρ,aB Ha H/\Reads K Ha σ ρ/\post K E H Ha (f ρ) Q
noncomputable def Tj(K:Up) (E:XK) (f:Ev->ai (List D)):TA:=λσ H Q=>∃Ha ρ,aB Ha H/\Reads K Ha σ ρ/\rH K E H Ha (f ρ) Q
noncomputable def O5(K:Up) (E:XK) (f:Ev->ai D):TT:=λσ H Q=>∃Ha ρ,aB Ha H/\Reads K Ha σ ρ/\rJ K E H Ha (f ρ) Q
structure DE (X:Cx) (E:XK) (e:Expr) (f:Ev->ai D):Prop where
 o:PE X e (tD X.K E f)
structure DA (X:Cx) (E:XK) (es:List Expr) (f:Ev->ai (List D)):Prop where
 o:PA X es (Tj X.K E f)
structure DT (X:Cx) (E:XK) (e:Expr) (f:Ev->ai D):Prop where
 o:PT X e (O5 X.K E f)
structure DW (X:Cx) (E:XK) (e:Expr) (f:Ev->ai D):Prop where
 o:PW X e (O5 X.K E f)
section
variable {X:Cx}{E:XK}{e a b:Expr}{es:List Expr}{f g:Ev->ai D}{fa:Ev->ai (List D)}{pos:Pos}
theorem aX(h:PE X e t)(w:∀σ H Q,t' σ H Q->t σ H Q):PE X e t':=λpins s σ H Q I q=>h pins s σ H Q I (w σ H Q q)
theorem qB(h:PA X es t)(w:∀σ H Q,t' σ H Q->t σ H Q):PA X es t':=λpos pins s σ H Q I q=>h pos pins s σ H Q I (w σ H Q q)
theorem gp(h:PT X e t)(w:∀σ H Q,t' σ H Q->t σ H Q):PT X e t':=λpins s σ H Q I q=>h pins s σ H Q I (w σ H Q q)
theorem xg(h:PW X e t)(w:∀σ H Q,t' σ H Q->t σ H Q):PW X e t':=λwh pins s σ H Q I q=>h wh pins s σ H Q I (w σ H Q q)
noncomputable def ae(i:Nat):Ev->ai D:=λρ=>match ρ[i]? with
 |some (.sh d)=>.ok d
 |_=>.stuck
noncomputable def dC(d:D):Ev->ai D:=λ_=>.ok d
theorem Oy(hN:X.N[i]?=some x)(hv:AZ X.env.scope x)(hd:(x==("__debug__":Str))=false:=by decide)(hcd:(x==("__classdict__":Str))=false:=by decide):DE X E (.Name x pos) (ae i):=by
 refine⟨?_⟩;refine aX (fR hN hv hd hcd) λσ H Q ⟨Ha,ρ,hs,hr,q⟩=>?_;unfold ae at q;cases e:ρ[i]? with
 |none=>rw[e] at q;exact q.elim
 |some s =>
  rw[e] at q;cases s with
  |sh d =>
   obtain⟨v,e1,e2⟩:=hr i d e;exact⟨v,e1,q v H Ha (bp.refl hs) e2⟩
  |no|ow d|ox j ds|pt a=>exact q.elim
theorem aj{i j}:DE X E (.Constant (.int i) j pos) (dC (.int i)):=⟨aX NS λσ H Q ⟨Ha,ρ,hs,hr,q⟩=>q _ H Ha (bp.refl hs) (az.mpr rfl)⟩
theorem dS{i j}:DE X E (.Constant (.bool i) j pos) (dC (.bl i)):=⟨aX Qn λσ H Q ⟨Ha,ρ,hs,hr,q⟩=>q _ H Ha (bp.refl hs) (aL.mpr rfl)⟩
theorem cf{j}:DE X E (.Constant .none j pos) (dC .non):=⟨aX NR λσ H Q ⟨Ha,ρ,hs,hr,q⟩=>q _ H Ha (bp.refl hs) (aV.mpr rfl)⟩
theorem b8{x j}:DE X E (.Constant (.str x) j pos) (dC (.str x)):=⟨aX NO λσ H Q ⟨Ha,ρ,hs,hr,q⟩=>q _ H Ha (bp.refl hs) (Rep.str_iff.mpr rfl)⟩
theorem LO(hg:Gl X x)(hm:X.mg x=some u)(r:bu v u)(hr:∀H,Rep X.K H d v)(hd:(x==("__debug__":Str))=false:=by decide):DE X E (.Name x pos) (dC d) :=
 ⟨aX (xq hg hm r hd) λσ H Q ⟨Ha,ρ,hs,hr',q⟩=>q _ H Ha (bp.refl hs) (hr Ha)⟩
noncomputable def ag(f g:Ev->ai D) (op:D->D->ai D):Ev->ai D:=λρ=>(f ρ).bind λx=>(g ρ).bind λy=>op x y
noncomputable def bM(f:Ev->ai D) (op:D->ai D):Ev->ai D:=λρ=>(f ρ).bind op
noncomputable def qT(K:Up) (E:XK) (r:R2) (op:D->D->ai D):Prop:=∀(x y:D) (v u:V) (H Ha:Hp) (Q:VK),aB Ha H->Rep K Ha x v->Rep K Ha y u->post K E H Ha (op x y) Q->r v u H Q
theorem iG(ho:qT X.K E r op)(σ:L2.St)(H:Hp)(Q:VK)(h:tD X.K E (ag f g op) σ H Q):O4 r (tD X.K E f) (tD X.K E g) σ H Q:=by
 obtain⟨Ha,ρ,hs,hr,q⟩:=h;refine⟨Ha,ρ,hs,hr,?_⟩;unfold ag at q;cases e1:f ρ with
 |stuck|exn x=>rw[e1] at q;exact q
 |ok x =>
  rw[e1] at q;intro v H1 H01 g1 r1;refine⟨H01,ρ,g1.sub,hr.mono g1.z,?_⟩;replace q:post X.K E H Ha ((g ρ).bind λy=>op x y) Q:=q;replace q:=q.grow g1;cases e2:g ρ with
  |stuck|exn x=>rw[e2] at q;exact q
  |ok y =>
   rw[e2] at q;intro u H2 H02 g2 r2;exact ho x y v u H2 H02 Q g2.sub (r1.mono g2.z) r2 (post.grow (r:=op x y) q g2)
theorem ux(h:eh X (binaryOp op) r)(ho:qT X.K E r o)(ha:DE X E a f)(hb:DE X E b g):DE X E (.BinOp a op b pos) (ag f g o) :=
 ⟨aX (Mx h ha.o hb.o) (iG ho)⟩
theorem eN(h:eh X (compareOp op) r)(ho:qT X.K E r o)(ha:DE X E a f)(hb:DE X E b g)(hm:behindInMarks op b=false):DE X E (.Compare a [op] [b] pos) (ag f g o) :=
 ⟨aX (CM h ha.o hb.o hm) (iG ho)⟩
theorem Ri(h:JI X r)(ho:qT X.K E r o)(ha:DE X E a f)(hb:DE X E b g)(hs:og b):DE X E (.Subscript a b pos) (ag f g o) :=
 ⟨aX (My h ha.o hb.o hs) (iG ho)⟩
noncomputable def Ul(K:Up) (E:XK) (r:V->Hp->VK->Prop) (op:D->ai D):Prop:=∀(x:D) (v:V) (H Ha:Hp) (Q:VK),aB Ha H->Rep K Ha x v->post K E H Ha (op x) Q->r v H Q
theorem Rg(h:RS X (unaryOp op) r)(ho:Ul X.K E r o)(ha:DE X E a f):DE X E (.UnaryOp op a pos) (bM f o):=by
 refine⟨?_⟩;refine aX (Ql h ha.o) λσ H Q ⟨Ha,ρ,hs,hr,q⟩=>⟨Ha,ρ,hs,hr,?_⟩
 unfold bM at q;cases e1:f ρ with
 |stuck|exn x=>rw[e1] at q;exact q
 |ok x =>
  rw[e1] at q;intro v H1 H01 g1 r1;exact ho x v H1 H01 Q g1.sub r1 (post.grow (r:=o x) q g1)
noncomputable def aE:Ev->ai (List D):=λ_=>.ok []
noncomputable def af(f:Ev->ai D) (fa:Ev->ai (List D)):Ev->ai (List D):=λρ=>(f ρ).bind λx=>(fa ρ).bind λxs=>.ok (x::xs)
theorem ak:DA X E [] aE:=⟨qB eY λσ H Q ⟨Ha,ρ,hs,hr,q⟩=>q [] H Ha (bp.refl hs) Reps.nil⟩
theorem aa(ha:DE X E e f)(hr:DA X E es fa)(hs:starEach (e::es) X.env=(false,eval e X.env)::starEach es X.env:=by exact aQ rfl):DA X E (e::es) (af f fa):=by
 refine⟨?_⟩;refine qB (cH ha.o hr.o hs) λσ H Q ⟨Ha,ρ,hs,hr,q⟩=>⟨Ha,ρ,hs,hr,?_⟩
 unfold af at q;cases e1:f ρ with
 |stuck|exn x=>rw[e1] at q;exact q
 |ok x =>
  rw[e1] at q;intro v H1 H01 g1 r1;refine⟨H01,ρ,g1.sub,hr.mono g1.z,?_⟩;replace q:rH X.K E H Ha ((fa ρ).bind λxs=>.ok (x::xs)) Q:=q;replace q:=q.grow g1;cases e2:fa ρ with
  |stuck|exn x=>rw[e2] at q;exact q
  |ok xs =>
   rw[e2] at q;intro us H2 H02 g2 r2;exact q (v::us) H2 H02 g2 (Reps.cons (r1.mono g2.z) r2)
noncomputable def line:Nat:=1000000
theorem cF(h:n<=line):n<=sizeLine:=UO h (by decide)
noncomputable def ao(fa:Ev->ai (List D)) (m:List D->ai D):Ev->ai D:=λρ=>(fa ρ).bind m
noncomputable def cO:List D->ai D:=λds=>if ds.length<=line then .ok (.tup ds) else .stuck
noncomputable def b5:List D->ai D:=λds=>if ds.length<=line then .ok (.lst ds) else .stuck
theorem k8{r:List V->Hp->VK->Prop}(ho:∀(ds:List D) (vs:List V) (H Ha:Hp) (Q:VK),aB Ha H->Reps X.K Ha ds vs->post X.K E H Ha (m ds) Q->r vs H Q)
  (σ:L2.St)(H:Hp)(Q:VK)(h:tD X.K E (ao fa m) σ H Q):Tj X.K E fa σ H λvs H1=>r vs H1 Q:=by
 obtain⟨Ha,ρ,hs,hr,q⟩:=h;refine⟨Ha,ρ,hs,hr,?_⟩;unfold ao at q;cases e1:fa ρ with
 |stuck|exn x=>rw[e1] at q;exact q
 |ok x =>
  rw[e1] at q;intro v H1 H01 g1 r1;exact ho x v H1 H01 Q g1.sub r1 (post.grow (r:=m x) q g1)
theorem bZ{x1}(h:DA X E es fa):DE X E (.Tuple es x1 pos) (ao fa cO):=by
 refine⟨?_⟩;refine aX (Bt h.o) (k8 (r:=λxs H1 Q=>xs.length<=sizeLine/\∀p,H1 p=none->Q (.ref p) (upd H1 p (.tup xs))) λds vs H Ha Q hs hr q=>?_);unfold cO at q
 by_cases hl:ds.length<=line
 .rw[if_pos hl] at q
  refine⟨by rw[←hr.length];exact cF hl,λp hp=>q _ _ _ (aO hs hp) (aM.mpr ⟨p,vs,rfl,jK.of aw,hr.mono (aO hs hp).z⟩)⟩
 .rw[if_neg hl] at q;exact q.elim
theorem bG(h:DA X E es fa):DE X E (.List es pos) (ao fa b5):=by
 refine⟨?_⟩;refine aX (Bu h.o) (k8 (r:=λxs H1 Q=>xs.length<=sizeLine/\∀p,H1 p=none->Q (.ref p) (upd H1 p (.lst xs))) λds vs H Ha Q hs hr q=>?_);unfold b5 at q
 by_cases hl:ds.length<=line
 .rw[if_pos hl] at q
  refine⟨by rw[←hr.length];exact cF hl,λp hp=>q _ _ _ (aO hs hp) (aH.mpr ⟨p,vs,rfl,eC.of aw,hr.mono (aO hs hp).z⟩)⟩
 .rw[if_neg hl] at q;exact q.elim
noncomputable def spD(K:Up) (n:Nat) (m:List D->ai D):Sp:=λvs H Q E=>vs.length=n/\∃Ha ds,aB Ha H/\Reps K Ha ds vs/\post K E H Ha (m ds) Q
theorem LP{k n:Nat}{ps:List Str}(F:fN X.prog X.w X.K X.mg X.base CX k fn fd ps (spD X.K n m))(hr:cE k X.A)(hg:Gl X x)(hm:X.mg x=some (.ref fn))
  (hk:WD X.K (.ref fn)=true)(hb:ik X.K fd ps [])(hx:gf CX X E)(ha:DA X E (e::es) fa)(hn:(e::es).length=n:=by rfl)(hl:∀ρ ds,fa ρ=.ok ds->ds.length=(e::es).length)
  (hdb:(x==("__debug__":Str))=false:=by decide)(he:starEach (e::es) X.env=(false,eval e X.env)::starEach es X.env:=by exact aQ rfl)(hpl:(backTo pos (starEach es X.env)).any (·.1)=false:=by exact bB rfl) :
  DE X E (.Call (.Name x p) (e::es) [] pos) (ao fa m):=by
 refine⟨?_⟩;refine aX (qA F hr hg hm hk hb .nil hx ha.o hdb he hpl) λσ H Q h=>?_;obtain⟨Ha,ρ,hs,hr,q⟩:=h;refine⟨Ha,ρ,hs,hr,?_⟩;unfold ao at q;cases e1:fa ρ with
 |stuck|exn x=>rw[e1] at q;exact q
 |ok ds =>
  rw[e1] at q;intro v H1 H01 g1 r1;refine⟨?_,H01,ds,g1.sub,by simpa using r1,post.grow (r:=m ds) q g1⟩;have:=r1.length;have:=hl ρ ds e1;simp only[UT];omega
theorem JC(h:aE ρ=.ok ds):ds.length=0:=by cases h;rfl
theorem pq(hr:∀es,fa ρ=.ok es->es.length=n)(h:af f fa ρ=.ok ds):ds.length=n+1:=by
 unfold af at h;cases e1:f ρ with
 |stuck|exn x=>rw[e1] at h;cases h
 |ok x =>
  rw[e1] at h;replace h:((fa ρ).bind λxs=>ai.ok (x::xs))=.ok ds:=h;cases e2:fa ρ with
  |stuck|exn x=>rw[e2] at h;cases h
  |ok xs =>
   rw[e2] at h;cases h;simp [hr xs e2]
noncomputable def gk(X:Cx) (E:XK) (r:List V->Hp->VK->Prop) (m:List D->ai D):Prop:=∀(ds:List D) (vs:List V) (H Ha:Hp) (Q:VK),aB Ha H->Reps X.K Ha ds vs->post X.K E H Ha (m ds) Q->r vs H Q
theorem bI{id:String}(hc:gY X (.builtin id) r)(hd:gk X E r m)(hg:Gl X x)(hm:X.mg x=none)(hv:bootBuiltins x=some (.builtin id))(ha:DA X E (e::es) fa)(hn:x≠"__name__":=by decide)(hdb:(x==("__debug__":Str))=false:=by decide)
  (he:starEach (e::es) X.env=(false,eval e X.env)::starEach es X.env:=by exact aQ rfl)(hpl:(backTo pos (starEach es X.env)).any (·.1)=false:=by exact bB rfl):DE X E (.Call (.Name x p) (e::es) [] pos) (ao fa m) :=
 ⟨aX (mn hc hg hm hv ha.o hn hdb he hpl) (k8 hd)⟩
theorem Jb(h:PT X e (tB (tD X.K E f))):DT X E e f:=by
 refine⟨?_⟩;refine gp h λσ H Q ⟨Ha,ρ,hs,hr,q⟩=>⟨Ha,ρ,hs,hr,?_⟩
 cases e1:f ρ with
 |stuck|exn x=>rw[e1] at q;exact q
 |ok d =>
  rw[e1] at q;intro v H1 H01 g1 r1;cases d with|bl b=>rw[aL.mp r1];exact⟨b,rfl,q H1 H01 g1⟩| _=>exact q.elim
theorem cu(h:DE X E e f)(he:∀whole,isTrue e X.env whole=(do let v ←whole;standAt e.pos;holding [v] (truthy v)):=by intro _;rfl):DT X E e f:=Jb (Hq h.o he)
theorem aZ(h:eh X (compareOp op) r)(ho:qT X.K E r o)(ha:DE X E a f)(hb:DE X E b g)(hm:behindInMarks op b=false):DT X E (.Compare a [op] [b] pos) (ag f g o):=by
 refine⟨?_⟩;refine gp (CI h ha.o hb.o hm) λσ H Q h=>?_;have w:tD X.K E (ag f g o) σ H λx H'=>∃k,x=.bl k/\Q k H':=by
  obtain⟨Ha,ρ,hs,hr,q⟩:=h;refine⟨Ha,ρ,hs,hr,?_⟩;cases e1:ag f g o ρ with
  |stuck|exn x=>rw[e1] at q;exact q
  |ok d =>
   rw[e1] at q;intro v H1 H01 g1 r1;cases d with|bl b=>rw[aL.mp r1];exact⟨b,rfl,q H1 H01 g1⟩| _=>exact q.elim
 exact iG ho σ H _ w
noncomputable def cZ(f:Ev->ai D):Ev->ai D:=bM f λx=>match x with
 |.bl b=>.ok (.bl (!b))
 |_=>.stuck
noncomputable def lW(f g:Ev->ai D):Ev->ai D:=λρ=>(f ρ).bind λx=>match x with
 |.bl true=>g ρ
 |.bl false=>.ok (.bl false)
 |_=>.stuck
noncomputable def iF(f g:Ev->ai D):Ev->ai D:=λρ=>(f ρ).bind λx=>match x with
 |.bl true=>.ok (.bl true)
 |.bl false=>g ρ
 |_=>.stuck
theorem cP(ha:DT X E a f):DT X E (.UnaryOp .Not a pos) (cZ f):=by
 refine⟨?_⟩;refine gp (Hr ha.o) λσ H Q ⟨Ha,ρ,hs,hr,q⟩=>⟨Ha,ρ,hs,hr,?_⟩
 unfold cZ bM at q;cases e1:f ρ with
 |stuck|exn x=>rw[e1] at q;exact q
 |ok d =>
  rw[e1] at q;cases d with|bl b=>exact q| _=>exact q.elim
theorem Oz(ha:DE X E a f):DE X E (.UnaryOp .Not a pos) (cZ f):=by
 refine⟨?_⟩;refine aX (NQ ha.o) λσ H Q ⟨Ha,ρ,hs,hr,q⟩=>⟨Ha,ρ,hs,hr,?_⟩
 unfold cZ bM at q;cases e1:f ρ with
 |stuck|exn x=>rw[e1] at q;exact q
 |ok d =>
  rw[e1] at q;intro v H1 H01 g1 r1;cases d with|bl b=>rw[aL.mp r1];exact⟨b,rfl,q (.bl !b) H1 H01 g1 (aL.mpr rfl)⟩| _=>exact q.elim
variable {rest:List Expr}
theorem ur(ha:DT X E a f):DW X E (.BoolOp .And [a] pos) f:=⟨CH ha.o⟩
theorem bT(ha:DT X E a f):DW X E (.BoolOp .Or [a] pos) f:=⟨NH ha.o⟩
theorem Ja(ha:DT X E a f)(hb:DW X E (.BoolOp .And (b::rest) pos) g):DW X E (.BoolOp .And (a::b::rest) pos) (lW f g):=by
 refine⟨?_⟩;refine xg (Hm ha.o hb.o) λσ H Q ⟨Ha,ρ,hs,hr,q⟩=>⟨Ha,ρ,hs,hr,?_⟩
 unfold lW at q;cases e1:f ρ with
 |stuck|exn x=>rw[e1] at q;exact q
 |ok d =>
  rw[e1] at q;cases d with
  |bl b =>
   cases b with|true=>exact λH1 H01 g1=>⟨H01,ρ,g1.sub,hr.mono g1.z,rJ.grow (r:=g ρ) q g1⟩|false=>exact λH1 H01 g1=>q H1 H01 g1
  |_=>exact q.elim
theorem ez(ha:DT X E a f)(hb:DW X E (.BoolOp .Or (b::rest) pos) g):DW X E (.BoolOp .Or (a::b::rest) pos) (iF f g):=by
 refine⟨?_⟩;refine xg (Qd ha.o hb.o) λσ H Q ⟨Ha,ρ,hs,hr,q⟩=>⟨Ha,ρ,hs,hr,?_⟩
 unfold iF at q;cases e1:f ρ with
 |stuck|exn x=>rw[e1] at q;exact q
 |ok d =>
  rw[e1] at q;cases d with
  |bl b =>
   cases b with|false=>exact λH1 H01 g1=>⟨H01,ρ,g1.sub,hr.mono g1.z,rJ.grow (r:=g ρ) q g1⟩|true=>exact λH1 H01 g1=>q H1 H01 g1
  |_=>exact q.elim
theorem DW.dt(h:DW X E e f):DT X E e f:=⟨PW.pt h.o⟩
theorem kB{op}(h:DE X E a f):DE X E (.BoolOp op [a] pos) f:=⟨NP h.o⟩
theorem lV(ha:DE X E a f)(hb:DE X E (.BoolOp .And (b::rest) pos) g):DE X E (.BoolOp .And (a::b::rest) pos) (lW f g):=by
 refine⟨?_⟩;refine aX (NT ha.o hb.o) λσ H Q ⟨Ha,ρ,hs,hr,q⟩=>⟨Ha,ρ,hs,hr,?_⟩
 unfold lW at q;cases e1:f ρ with
 |stuck|exn x=>rw[e1] at q;exact q
 |ok d =>
  rw[e1] at q;intro v H1 H01 g1 r1;cases d with
  |bl b =>
   rw[aL.mp r1];cases b with|true=>exact⟨true,rfl,H01,ρ,g1.sub,hr.mono g1.z,post.grow (r:=g ρ) q g1⟩|false=>exact⟨false,rfl,q (.bl false) H1 H01 g1 (aL.mpr rfl)⟩
  |_=>exact q.elim
theorem Rh(ha:DE X E a f)(hb:DE X E (.BoolOp .Or (b::rest) pos) g):DE X E (.BoolOp .Or (a::b::rest) pos) (iF f g):=by
 refine⟨?_⟩;refine aX (Qm ha.o hb.o) λσ H Q ⟨Ha,ρ,hs,hr,q⟩=>⟨Ha,ρ,hs,hr,?_⟩
 unfold iF at q;cases e1:f ρ with
 |stuck|exn x=>rw[e1] at q;exact q
 |ok d =>
  rw[e1] at q;intro v H1 H01 g1 r1;cases d with
  |bl b =>
   rw[aL.mp r1];cases b with|false=>exact⟨false,rfl,H01,ρ,g1.sub,hr.mono g1.z,post.grow (r:=g ρ) q g1⟩|true=>exact⟨true,rfl,q (.bl true) H1 H01 g1 (aL.mpr rfl)⟩
  |_=>exact q.elim
noncomputable def MW(c f g:Ev->ai D):Ev->ai D:=λρ=>(c ρ).bind λx=>match x with
 |.bl true=>f ρ
 |.bl false=>g ρ
 |_=>.stuck
theorem uy(hc:DT X E c fc)(ha:DE X E a f)(hb:DE X E b g):DE X E (.IfExp c a b pos) (MW fc f g):=by
 refine⟨?_⟩;refine aX (HC hc.o ha.o hb.o) λσ H Q ⟨Ha,ρ,hs,hr,q⟩=>⟨Ha,ρ,hs,hr,?_⟩
 unfold MW at q;cases e1:fc ρ with
 |stuck|exn x=>rw[e1] at q;exact q
 |ok d =>
  rw[e1] at q;cases d with
  |bl b =>
   cases b with|true=>exact λH1 H01 g1=>⟨H01,ρ,g1.sub,hr.mono g1.z,post.grow (r:=f ρ) q g1⟩|false=>exact λH1 H01 g1=>⟨H01,ρ,g1.sub,hr.mono g1.z,post.grow (r:=g ρ) q g1⟩
  |_=>exact q.elim
end
noncomputable def Mh(K:Up) (Ha H:Hp) (a:Addr) (d:D):Prop:=match d with
 |.lst ds=>∃vs,H a=some (.lst vs)/\Reps K Ha ds vs
 |.dic ks ds=>∃vs,H a=some (.dK ((ks.map Vg).zip vs))/\ks.length=vs.length/\Reps K Ha ds vs
 |_=>False
noncomputable def Rz(K:Up) (He Ha H:Hp) (a:Addr) (j:Nat) (ds:List D) (p:Addr):Prop:=∃vs es us,He a=none/\H a=some (.tup vs)/\He p=none/\Ha p=none/\ds[j]?=some (.lst es)/\vs[j]?=some (.ref p)/\H p=some (.lst us)/\Reps K Ha es us/\ds.length=vs.length/\∀k d v,k≠j->ds[k]?=some d->vs[k]?=some v->Rep K Ha d v
noncomputable def OX(K:Up) (He Ha:Hp) (σ:L2.St) (H:Hp) (ρ:Ev):Prop:=(∀(i j:Nat) (ds:List D),ρ[i]?=some (.ox j ds)->∃a p,σ[i]?=some (some (.ref a))/\Rz K He Ha H a j ds p/\(∀(k:Nat) (d:D),ρ[k]?=some (.ow d)->σ[k]?≠some (some (.ref p)))/\∀(k j':Nat) (ds':List D),ρ[k]?=some (.ox j' ds')->k=i)/\∀(i:Nat) (a:Addr),ρ[i]?=some (.pt a)->σ[i]?=some (some (.ref a))
theorem OX.upd{K:Up}(h:OX K He Ha σ H ρ)
  (hk:∀(j:Nat) (s:Sl),ρ'[j]?=some s->(ρ[j]?=some s/\σ'[j]?=σ[j]?)∨(∃d,s=.sh d)∨s=.no∨∃d q,s=.ow d/\σ'[j]?=some (some (.ref q))/\∀(i j:Nat) (ds:List D) (a p:Addr),ρ[i]?=some (.ox j ds)->σ[i]?=some (some (.ref a))->Rz K He Ha H a j ds p->q≠p)
  (hz:aB Ha Ha')(ht:∀a vs,He a=none->H a=some (.tup vs)->H' a=some (.tup vs))
  (hl:∀p us,He p=none->Ha p=none->H p=some (.lst us)->(∀(k:Nat) (d:D),ρ[k]?=some (.ow d)->σ[k]?≠some (some (.ref p)))->H' p=some (.lst us)/\Ha' p=none):OX K He Ha' σ' H' ρ':=by
 refine⟨λi j ds e=>?_,λi a e=>?_⟩
 rotate_left
 .rcases hk i _ e with h1|⟨d,h1⟩|h1|⟨d,q,h1,_⟩
  .rw[h1.2];exact h.2 i a h1.1
  .cases h1
  .cases h1
  .cases h1
 have old:ρ[i]?=some (.ox j ds)/\σ'[i]?=σ[i]?:=by
  rcases hk i _ e with h1|⟨d,h1⟩|h1|⟨d,q,h1,_⟩
  .exact h1
  .cases h1
  .cases h1
  .cases h1
 obtain⟨a,p,h1,h2,h3,h4⟩:=h.1 i j ds old.1;have h2':=h2;obtain⟨vs,es,us,r1,r2,r3,r4,r5,r6,r7,r8,r9,r10⟩:=h2;obtain⟨l1,l2⟩:=hl p us r3 r4 r7 h3;refine⟨a,p,old.2.trans h1,⟨vs,es,us,r1,ht a vs r1 r2,r3,l2,r5,r6,l1,r8.mono hz,r9,λk d v hk e1 e2=>(r10 k d v hk e1 e2).mono hz⟩,λk d ek z=>?_,λk j' ds' ek=>?_⟩
 .rcases hk k _ ek with h1'|⟨d',h1'⟩|h1'|⟨d',q,h1',h2'',h3'⟩
  .exact h3 k d h1'.1 (by rw[←h1'.2];exact z)
  .cases h1'
  .cases h1'
  .rw[h2''] at z
   cases z;exact h3' i j ds a p old.1 h1 h2' rfl
 .rcases hk k _ ek with h1'|⟨d',h1'⟩|h1'|⟨d',q,h1',_⟩
  .exact h4 k j' ds' h1'.1
  .cases h1'
  .cases h1'
  .cases h1'
theorem OX.none{K:Up}(h:∀(i j:Nat) (ds:List D),ρ[i]?≠some (.ox j ds))(h':∀(i:Nat) (a:Addr),ρ[i]?=some (.pt a)->σ[i]?=some (some (.ref a))):OX K He Ha σ H ρ:=⟨λi j ds e=>absurd e (h i j ds),h'⟩
theorem CD{K:Up}{H:Hp}:∀{ds:List D}{vs:List V},ds.length=vs.length->(∀(k:Nat) (d:D) (v:V),ds[k]?=some d->vs[k]?=some v->Rep K H d v)->Reps K H ds vs
 |[],[],_,_=>Reps.nil
 |d::ds,v::vs,hl,h=>Reps.cons (h 0 d v rfl rfl) (CD (by simpa using hl) λk d' v' e1 e2=>h (k+1) d' v' e1 e2)
structure cT (K:Up) (He H0e Ha:Hp) (σ:L2.St) (H:Hp) (ρ:Ev):Prop where
 g:bp He H0e H Ha
 rd:Reads K Ha σ ρ
 ow:∀(i:Nat) (d:D),ρ[i]?=some (.ow d)->∃a,σ[i]?=some (some (.ref a))/\He a=none/\Ha a=none/\Mh K Ha H a d
 ap:∀(i j:Nat) (d d':D),i≠j->ρ[i]?=some (.ow d)->ρ[j]?=some (.ow d')->σ[i]?≠σ[j]?
 ln:ρ.length=σ.length
 ex:OX K He Ha σ H ρ
inductive Fl where
 |nx (ρ:Ev)|rt (d:D)|bk (ρ:Ev)|ct (ρ:Ev)
noncomputable def bR(K:Up) (E:XK) (He H0e Ha:Hp) (r:ai Fl) (D:iY):Prop:=match r with
 |.ok (.nx ρ)=>∀σ H Ha',aB Ha Ha'->cT K He H0e Ha' σ H ρ->D.nx σ H
 |.ok (.rt d)=>∀v H Ha',bp He H0e H Ha'->Rep K Ha' d v->D.rt v H
 |.ok (.bk ρ)=>∀σ H Ha',aB Ha Ha'->cT K He H0e Ha' σ H ρ->D.bk σ H
 |.ok (.ct ρ)=>∀σ H Ha',aB Ha Ha'->cT K He H0e Ha' σ H ρ->D.ct σ H
 |.exn x=>∀C ox H Ha',bp He H0e H Ha'->A3 K Ha' x C ox->E C ox H
 |.stuck=>False
theorem bR.grow{K:Up}{D:iY}(h:bR K E He H0e Ha r D)(s:aB Ha Hb):bR K E He H0e Hb r D:=by
 cases r with
 |ok f =>
  cases f with|nx ρ=>exact λσ H Ha' s'=>h σ H Ha' (s.trans s')|rt d=>exact h|bk ρ=>exact λσ H Ha' s'=>h σ H Ha' (s.trans s')|ct ρ=>exact λσ H Ha' s'=>h σ H Ha' (s.trans s')
 |exn x=>exact h
 |stuck=>exact h
noncomputable def tS(K:Up) (E:XK) (He H0e:Hp) (g:Ev->ai Fl):TS:=λD σ H=>∃Ha ρ,cT K He H0e Ha σ H ρ/\bR K E He H0e Ha (g ρ) D
structure DS (X:Cx) (E:XK) (He H0e:Hp) (st:Stmt) (g:Ev->ai Fl):Prop where
 o:PS X st (tS X.K E He H0e g)
structure A8 (X:Cx) (E:XK) (He H0e:Hp) (st:List Stmt) (g:Ev->ai Fl):Prop where
 o:wJ X st (tS X.K E He H0e g)
noncomputable def eR(ρ:Ev):Ev:=ρ.map λs=>match s with
 |.ow d=>.sh d
 |.ox _ ds=>.sh (.tup ds)
 |x=>x
noncomputable def frz(He Ha H:Hp):Hp:=λa=>match He a with
 |none=>H a
 |some _=>Ha a
section
variable {K:Up}{E:XK}{He H0e Ha H H1:Hp}{σ:L2.St}{ρ:Ev}
theorem cT.same(h:cT K He H0e Ha σ H ρ)(s:aB H H1):cT K He H0e Ha σ H1 ρ :=
 ⟨⟨h.g.s.trans s,h.g.z,h.g.sub.trans s,h.g.nw⟩,h.rd,λi d e=>by
  obtain⟨a,h1,h2,h3,h4⟩:=h.ow i d e;refine⟨a,h1,h2,h3,?_⟩;cases d with
  |lst ds=>obtain⟨vs,h5,h6⟩:=h4;exact⟨vs,s _ _ h5,h6⟩|dic ks ds=>obtain⟨vs,h5,hl,h6⟩:=h4;exact⟨vs,s _ _ h5,hl,h6⟩
  |_=>exact h4,h.ap,h.ln,h.ex.upd (λj s' e=>.inl ⟨e,rfl⟩) (aB.refl _) (λa vs _ e=>s _ _ e) λp us _ h0 hp _=>⟨s _ _ hp,h0⟩⟩
theorem cT.grow(h:cT K He H0e Ha σ H ρ)(s:bp H Ha H1 H01):cT K He H0e H01 σ H1 ρ :=
 ⟨h.g.trans s,h.rd.mono s.z,λi d e=>by
  obtain⟨a,h1,h2,h3,h4⟩:=h.ow i d e;have ha:H01 a=none:=by
   cases q:H01 a with
   |none=>rfl
   |some o =>
    have:=s.nw a (by rw[q];simp) h3;cases d with|lst ds|dic ks ds=>obtain⟨vs,h5,_⟩:=h4;rw[h5] at this;cases this| _=>exact h4.elim
  refine⟨a,h1,h2,ha,?_⟩;cases d with
  |lst ds=>obtain⟨vs,h5,h6⟩:=h4;exact⟨vs,s.s _ _ h5,h6.mono s.z⟩|dic ks ds=>obtain⟨vs,h5,hl,h6⟩:=h4;exact⟨vs,s.s _ _ h5,hl,h6.mono s.z⟩
  |_=>exact h4,h.ap,h.ln,h.ex.upd (λj s' e=>.inl ⟨e,rfl⟩) s.z (λa vs _ e=>s.s _ _ e) λp us _ h0 hp _=>⟨s.s _ _ hp,by
   cases q:H01 p with
   |none=>rfl
   |some o=>have:=s.nw p (by rw[q];simp) h0;rw[hp] at this;cases this⟩⟩
theorem cT.frz_sub(h:cT K He H0e Ha σ H ρ):aB Ha (frz He Ha H):=λb o e=>by
 unfold frz;cases q:He b with|none=>exact h.g.sub _ _ e|some _=>exact e
theorem cT.frz_le(h:cT K He H0e Ha σ H ρ):aB (frz He Ha H) H:=λb o e=>by
 unfold frz at e;cases q:He b with|none=>rw[q] at e;exact e|some _=>rw[q] at e;exact h.g.sub _ _ e
theorem cT.frz_grow(h:cT K He H0e Ha σ H ρ):bp He H0e H (frz He Ha H) :=
 ⟨h.g.s,h.g.z.trans h.frz_sub,h.frz_le,λa h1 h2=>by
  cases q:He a with
  |none=>rfl
  |some o =>
   unfold frz at h1;rw[q] at h1;have:=h.g.nw a h1 h2;rw[q] at this;cases this⟩
theorem cT.looks(h:cT K He H0e Ha σ H ρ):Reads K (frz He Ha H) σ (eR ρ):=λi d e=>by
 unfold eR at e;rw[UD] at e;cases q:ρ[i]? with
 |none=>rw[q] at e;cases e
 |some s =>
  rw[q] at e;cases s with
  |no|pt a=>cases e
  |sh d' =>
   cases e;obtain⟨v,h1,h2⟩:=h.rd i d q;exact⟨v,h1,h2.mono h.frz_sub⟩
  |ow d' =>
   cases e;obtain⟨a,h1,h2,h3,h4⟩:=h.ow i d q;refine⟨_,h1,?_⟩;cases d with
   |lst ds =>
    obtain⟨vs,h5,h6⟩:=h4;exact aH.mpr ⟨a,vs,rfl,eC.of (by unfold frz;rw[h2];exact h5),h6.mono h.frz_sub⟩
   |dic ks ds =>
    obtain⟨vs,h5,hl,h6⟩:=h4;rw[Rep];exact⟨a,_,vs,rfl,.inl (by unfold frz;rw[h2];exact h5),rfl,hl,h6.mono h.frz_sub⟩
   |_=>exact h4.elim
  |ox j ds =>
   cases e;obtain⟨a,p,h1,⟨vs,es,us,r1,r2,r3,r4,r5,r6,r7,r8,r9,r10⟩,_⟩:=h.ex.1 i j ds q;refine⟨_,h1,aM.mpr ⟨a,vs,rfl,jK.of (by unfold frz;rw[r1];exact r2),CD r9 λk d v e1 e2=>?_⟩⟩
   by_cases hk:k=j
   .subst hk
    rw[r5] at e1;cases e1;rw[r6] at e2;cases e2;exact aH.mpr ⟨p,us,rfl,eC.of (by unfold frz;rw[r3];exact r7),r8.mono h.frz_sub⟩
   .exact(r10 k d v hk e1 e2).mono h.frz_sub
theorem cT.put(h:cT K He H0e Ha σ H ρ)(r:Rep K Ha d v):cT K He H0e Ha (σ.set i (some v)) H (ρ.set i (.sh d)):=by
 have key:∀(j:Nat) (s:Sl),(ρ.set i (.sh d))[j]?=some s->(j=i/\s=.sh d/\i<σ.length)∨(j≠i/\ρ[j]?=some s):=λj s e=>by
  by_cases hj:i=j
  .subst hj
   rw[V3] at e;cases q:ρ[i]? with
   |none=>rw[q] at e;cases e
   |some s' =>
    rw[q] at e;cases e;refine .inl ⟨rfl,rfl,?_⟩;rw[←h.ln];exact(Uw.mp q).1
  .rw[Us hj] at e
   exact .inr ⟨λz=>hj z.symm,e⟩
 refine⟨h.g,λj d' e=>?_,λj d' e=>?_,λj k d1 d2 hn e1 e2=>?_,by simp [h.ln],h.ex.upd (λj s e=>?_) (aB.refl _) (λa vs _ e=>e) λp us _ h0 hp _=>⟨hp,h0⟩⟩
 rotate_left 3
 .rcases key j _ e with⟨rfl,e',hl⟩|⟨hj,e'⟩
  .exact .inr (.inl ⟨d,e'⟩)
  .exact .inl ⟨e',by rw[Us (U5 hj)]⟩
 .rcases key j _ e with⟨rfl,e',hl⟩|⟨hj,e'⟩
  .cases e'
   exact⟨v,by rw[UQ hl],r⟩
  .obtain⟨v',h1,h2⟩:=h.rd j d' e'
   exact⟨v',by rw[Us (U5 hj)];exact h1,h2⟩
 .rcases key j _ e with⟨rfl,e',hl⟩|⟨hj,e'⟩
  .cases e'
  .obtain⟨a,h1,h2⟩:=h.ow j d' e'
   exact⟨a,by rw[Us (U5 hj)];exact h1,h2⟩
 .rcases key j _ e1 with⟨_,e',_⟩|⟨hj,e1'⟩
  .cases e'
  rcases key k _ e2 with⟨_,e',_⟩|⟨hk,e2'⟩
  .cases e'
  rw[Us (U5 hj),Us (U5 hk)];exact h.ap j k d1 d2 hn e1' e2'
theorem cT.putOwn(h:cT K He H0e Ha σ H ρ)(hp:∀(j:Nat) (a:Addr),σ[j]?=some (some (V.ref a))->a=p->∀d:D,ρ[j]?≠some (Sl.ow d))(he:He p=none)(h0:Ha p=none)(hv:H p=some (.lst vs))(r:Reps K Ha ds vs)(hx:∀(i j:Nat) (ds:List D) (a q:Addr),ρ[i]?=some (.ox j ds)->σ[i]?=some (some (.ref a))->Rz K He Ha H a j ds q->p≠q) :
  cT K He H0e Ha (σ.set i (some (.ref p))) H (ρ.set i (.ow (.lst ds))):=by
 have key:∀(j:Nat) (s:Sl),(ρ.set i (.ow (.lst ds)))[j]?=some s->(j=i/\s=.ow (.lst ds)/\i<σ.length)∨(j≠i/\ρ[j]?=some s):=λj s e=>by
  by_cases hj:i=j
  .subst hj
   rw[V3] at e;cases q:ρ[i]? with
   |none=>rw[q] at e;cases e
   |some s' =>
    rw[q] at e;cases e;refine .inl ⟨rfl,rfl,?_⟩;rw[←h.ln];exact(Uw.mp q).1
  .rw[Us hj] at e
   exact .inr ⟨λz=>hj z.symm,e⟩
 have other:∀(k:Nat) (d2:D),k≠i->ρ[k]?=some (.ow d2)->some (some (V.ref p))≠σ[k]?:=λk d2 hk e2 z=>by
  obtain⟨a,h1,_⟩:=h.ow k d2 e2;rw[h1] at z;cases z;exact hp k p h1 rfl d2 e2
 refine⟨h.g,λj d' e=>?_,λj d' e=>?_,λj k d1 d2 hn e1 e2=>?_,by simp [h.ln],h.ex.upd (λj s e=>?_) (aB.refl _) (λa vs _ e=>e) λp us _ h0 hp _=>⟨hp,h0⟩⟩
 rotate_left 3
 .rcases key j _ e with⟨rfl,e',hl⟩|⟨hj,e'⟩
  .exact .inr (.inr (.inr ⟨.lst ds,p,e',by rw[UQ hl],hx⟩))
  .exact .inl ⟨e',by rw[Us (U5 hj)]⟩
 .rcases key j _ e with⟨rfl,e',hl⟩|⟨hj,e'⟩
  .cases e'
  .obtain⟨v',h1,h2⟩:=h.rd j d' e'
   exact⟨v',by rw[Us (U5 hj)];exact h1,h2⟩
 .rcases key j _ e with⟨rfl,e',hl⟩|⟨hj,e'⟩
  .cases e'
   exact⟨p,by rw[UQ hl],he,h0,vs,hv,r⟩
  .obtain⟨a,h1,h2⟩:=h.ow j d' e'
   exact⟨a,by rw[Us (U5 hj)];exact h1,h2⟩
 .rcases key j _ e1 with⟨rfl,_,hl⟩|⟨hj,e1'⟩
  .rcases key k _ e2 with⟨rfl,_,_⟩|⟨hk,e2'⟩
   .exact absurd rfl hn
   .rw[UQ hl,Us (U5 hk)]
    exact other k d2 hk e2'
  .rcases key k _ e2 with⟨rfl,_,hl⟩|⟨hk,e2'⟩
   .rw[UQ hl,Us (U5 hj)]
    exact λz=>other j d1 hj e1' z.symm
   .rw[Us (U5 hj),Us (U5 hk)]
    exact h.ap j k d1 d2 hn e1' e2'
theorem cT.fresh_x{H01:Hp}{p:Addr}(h:cT K He H0e Ha σ H ρ)(s:aB H H1)(hp:H p=none):∀(i j:Nat) (ds:List D) (a q:Addr),ρ[i]?=some (.ox j ds)->σ[i]?=some (some (.ref a))->Rz K He H01 H1 a j ds q->p≠q:=λi j ds a q x1 x2 x3=>by
 obtain⟨a2,p2,y1,⟨vs2,_,us2,_,z3,_,_,_,z4,z5,_⟩,_⟩:=h.ex.1 i j ds x1;rw[x2] at y1;cases y1;obtain⟨vs1,_,_,_,z1,_,_,_,z2,_⟩:=x3;have:=s _ _ z3;rw[z1] at this;cases this;rw[z2] at z4;cases z4;intro z;subst z;rw[hp] at z5;cases z5
theorem cT.write(h:cT K He H0e Ha σ H ρ)(e:ρ[i]?=some (.ow d))(es:σ[i]?=some (some (.ref p)))(r:Reps K Ha ds vs) :
  cT K He H0e Ha σ (upd H p (.lst vs)) (ρ.set i (.ow (.lst ds))):=by
 obtain⟨a,h1,h2,h3,h4⟩:=h.ow i d e;rw[h1] at es;cases es;have hil:i<ρ.length:=(Uw.mp e).1;have key:∀(j:Nat) (s:Sl),(ρ.set i (.ow (.lst ds)))[j]?=some s->(j=i/\s=.ow (.lst ds))∨(j≠i/\ρ[j]?=some s):=λj s e=>by
  by_cases hj:i=j
  .subst hj
   rw[UQ hil] at e;cases e;exact .inl ⟨rfl,rfl⟩
  .rw[Us hj] at e
   exact .inr ⟨λz=>hj z.symm,e⟩
 refine⟨⟨λb o eb=>?_,h.g.z,λb o eb=>?_,h.g.nw⟩,λj d' e'=>?_,λj d' e'=>?_,λj k d1 d2 hn e1 e2=>?_,by simp [h.ln],h.ex.upd (λj s e'=>?_) (aB.refl _) (λb us _ eb=>?_) λq us _ q0 hq hd=>?_⟩
 rotate_left 5
 .rcases key j _ e' with⟨rfl,e''⟩|⟨hj,e''⟩
  .exact .inr (.inr (.inr ⟨.lst ds,p,e'',h1,λi' j' ds' a' p' x1 x2 x3=>by
    obtain⟨a2,p2,y1,y2,y3,_⟩:=h.ex.1 i' j' ds' x1;rw[x2] at y1;cases y1;have:p2=p':=by
     obtain⟨vs1,_,_,_,z1,_,_,_,z2,_⟩:=x3;obtain⟨vs2,_,_,_,z3,_,_,_,z4,_⟩:=y2;rw[z1] at z3;cases z3;rw[z2] at z4;cases z4;rfl
    subst this;intro zz;subst zz;exact y3 j d e h1⟩))
  .exact .inl ⟨e'',rfl⟩
 .rw[aq (by
   intro z;subst z;cases d with
   |lst ds'|dic ks ds'=>obtain⟨vs',h5,_⟩:=h4;rw[h5] at eb;cases eb
   |_=>exact h4)];exact eb
 .have hq':q≠p:=by
   intro z;subst z;exact hd i d e h1
  exact⟨by rw[aq hq'];exact hq,q0⟩
 .rw[aq (by intro z;subst z;rw[h2] at eb;cases eb)];exact h.g.s _ _ eb
 .rw[aq (by intro z;subst z;rw[h3] at eb;cases eb)];exact h.g.sub _ _ eb
 .rcases key j _ e' with⟨rfl,e''⟩|⟨hj,e''⟩
  .cases e''
  .exact h.rd j d' e''
 .rcases key j _ e' with⟨rfl,e''⟩|⟨hj,e''⟩
  .cases e''
   exact⟨p,h1,h2,h3,vs,aw,r⟩
  .obtain⟨b,k1,k2,k3,k4⟩:=h.ow j d' e''
   refine⟨b,k1,k2,k3,?_⟩;have hb:b≠p:=by
    intro z;subst z;exact h.ap j i d' d hj e'' e (by rw[k1,h1])
   cases d' with
   |lst ds' =>
    obtain⟨vs',h5,h6⟩:=k4;exact⟨vs',by rw[aq hb];exact h5,h6⟩
   |dic ks ds' =>
    obtain⟨vs',h5,hl,h6⟩:=k4;exact⟨vs',by rw[aq hb];exact h5,hl,h6⟩
   |_=>exact k4.elim
 .rcases key j _ e1 with⟨rfl,e1'⟩|⟨hj,e1'⟩
  .rcases key k _ e2 with⟨rfl,_⟩|⟨hk,e2'⟩
   .exact absurd rfl hn
   .exact h.ap j k d d2 hn e e2'
  .rcases key k _ e2 with⟨rfl,_⟩|⟨hk,e2'⟩
   .exact h.ap j k d1 d hn e1' e
   .exact h.ap j k d1 d2 hn e1' e2'
end
mutual
def xY:D->Bool
 |.lst _=>false
 |.dic _ _=>false
 |.exc _=>false
 |.ob _ _=>false
 |.tup ds=>flats ds
 |_=>true
def flats:List D->Bool
 |[]=>true
 |d::ds=>xY d&&flats ds
end
mutual
theorem Rep.flat_to{K:Up}{H H':Hp}(e:∀a vs,Rd H a (.tup vs)->Rd H' a (.tup vs)):∀{d:D}{v:V},xY d=true->Rep K H d v->Rep K H' d v
 |.non,_,_,h=>by unfold Rep at h ⊢;exact h
 |.bl _,_,_,h=>by unfold Rep at h ⊢;exact h
 |.int _,_,_,h=>by unfold Rep at h ⊢;exact h
 |.str _,_,_,h=>by unfold Rep at h ⊢;exact h
 |.tup ds,_,f,h=>by
  unfold xY at f;obtain⟨a,vs,e1,e2,e3⟩:=aM.mp h;refine aM.mpr ⟨a,vs,e1,?_,Reps.flat_to e f e3⟩;rcases e2 with e2|e2
  .exact .inl (e _ _ e2)
  .exact .inr e2
 |.lst ds,_,f,h=>by unfold xY at f;cases f
 |.dic ks ds,_,f,h=>by unfold xY at f;cases f
 |.exc x,_,f,h=>by unfold xY at f;cases f
 |.ob k ds,_,f,h=>by unfold xY at f;cases f
theorem Reps.flat_to{K:Up}{H H':Hp}(e:∀a vs,Rd H a (.tup vs)->Rd H' a (.tup vs)):∀{ds:List D}{vs:List V},flats ds=true->Reps K H ds vs->Reps K H' ds vs
 |[],_,_,h=>by unfold Reps at h ⊢;exact h
 |d::ds,_,f,h=>by
  unfold flats at f;rw[UU] at f;obtain⟨v,r,e1,e2,e3⟩:=aJ.mp h;exact aJ.mpr ⟨v,r,e1,Rep.flat_to e f.1 e2,Reps.flat_to e f.2 e3⟩
end
noncomputable def iV(Ha J:Hp):Hp:=λa=>match Ha a with
 |some o=>some o
 |none=>match J a with
  |some (.tup vs)=>some (.tup vs)
  |some (.frz o (.tup vs))=>some (.frz o (.tup vs))
  |_=>none
section
variable {K:Up}{E:XK}{He H0e Ha H H1 J:Hp}{σ:L2.St}{ρ:Ev}
theorem Mb(h:aB Ha J):∀a o,iV Ha J a=some o->J a=some o:=λa o e=>by
 unfold iV at e;cases q:Ha a with
 |some u=>rw[q] at e;cases e;exact h _ _ q
 |none =>
  rw[q] at e;cases q2:J a with
  |none=>rw[q2] at e;cases e
  |some u =>
   rw[q2] at e;cases u with
   |tup vs=>cases e;rfl
   |frz o u' =>
    cases u' with|tup vs=>cases e;rfl| _=>cases e
   |_=>cases e
theorem Ma(h:aB Ha J)(a:Addr)(vs:List V)(e:Rd J a (.tup vs)):Rd (iV Ha J) a (.tup vs):=by
 rcases e with e|⟨o,e⟩
 .refine .inl ?_
  unfold iV;cases q:Ha a with|some u=>have:=h _ _ q;rw[e] at this;cases this;rfl|none=>rw[e]
 .refine .inr ⟨o,?_⟩
  unfold iV;cases q:Ha a with|some u=>have:=h _ _ q;rw[e] at this;cases this;rfl|none=>rw[e]
theorem cT.behind(h:cT K He H0e Ha σ H ρ)(g:bp H (frz He Ha H) H1 J):cT K He H0e (iV Ha J) σ H1 ρ:=by
 have hJ:aB Ha J:=h.frz_sub.trans g.z;have le:=Mb (Ha:=Ha) (J:=J) hJ;have z:aB Ha (iV Ha J):=λb o e=>by unfold iV;rw[e]
 refine⟨⟨h.g.s.trans g.s,h.g.z.trans z,λb o e=>g.sub _ _ (le b o e),λa h1 h2=>?_⟩,h.rd.mono z,λi d e=>?_,h.ap,h.ln,h.ex.upd (λj s e=>.inl ⟨e,rfl⟩) z (λa vs _ e=>g.s _ _ e) λp us hp h0 hl _=>⟨g.s _ _ hl,by
  have:frz He Ha H p=some (.lst us):=by unfold frz;rw[hp];exact hl
  have:=g.z _ _ this;unfold iV;rw[h0,this]⟩⟩
 .cases q:iV Ha J a with
  |none=>exact absurd q h1
  |some o =>
   have hj:=le a o q;exact(h.frz_grow.trans g).nw a (by rw[hj];simp) h2
 .obtain⟨a,k1,k2,k3,k4⟩:=h.ow i d e
  refine⟨a,k1,k2,?_,?_⟩
  .cases d with
   |lst ds =>
    obtain⟨vs,h5,_⟩:=k4;have:frz He Ha H a=some (.lst vs):=by unfold frz;rw[k2];exact h5
    have:=g.z _ _ this;unfold iV;rw[k3,this]
   |dic ks ds =>
    obtain⟨vs,h5,_⟩:=k4;have:frz He Ha H a=some (.dK ((ks.map Vg).zip vs)):=by unfold frz;rw[k2];exact h5
    have:=g.z _ _ this;unfold iV;rw[k3,this]
   |_=>exact k4.elim
  .cases d with
   |lst ds=>obtain⟨vs,h5,h6⟩:=k4;exact⟨vs,g.s _ _ h5,h6.mono z⟩
   |dic ks ds=>obtain⟨vs,h5,hl,h6⟩:=k4;exact⟨vs,g.s _ _ h5,hl,h6.mono z⟩
   |_=>exact k4.elim
end
section
variable {X:Cx}{E:XK}{He H0e:Hp}{st:Stmt}{rest:List Stmt}{e a b:Expr}{es:List Expr}{f g:Ev->ai D}{fa:Ev->ai (List D)}{s t:Ev->ai Fl}{pos:Pos}
theorem bL{t t':TS}(h:PS X st t)(w:∀D σ H,t' D σ H->t D σ H):PS X st t':=λpins s σ H D I q=>h pins s σ H D I (w D σ H q)
theorem dW{t t':TS}(h:wJ X rest t)(w:∀D σ H,t' D σ H->t D σ H):wJ X rest t':=λpins s σ H D I q=>h pins s σ H D I (w D σ H q)
noncomputable def av:Ev->ai Fl:=λρ=>.ok (.nx ρ)
noncomputable def aC(s t:Ev->ai Fl):Ev->ai Fl:=λρ=>(s ρ).bind λr=>match r with
 |.nx ρ'=>t ρ'
 |r=>.ok r
theorem au:A8 X E He H0e [] av:=⟨dW qw λD σ H ⟨Ha,ρ,h,q⟩=>q σ H Ha (aB.refl _) h⟩
theorem ah(h1:DS X E He H0e st s)(h2:A8 X E He H0e rest t):A8 X E He H0e (st::rest) (aC s t):=by
 refine⟨?_⟩;refine dW (fF h1.o h2.o) λD σ H ⟨Ha,ρ,h,q⟩=>⟨Ha,ρ,h,?_⟩
 unfold aC at q;cases e1:s ρ with
 |stuck|exn x=>rw[e1] at q;exact q
 |ok r =>
  rw[e1] at q;cases r with|nx ρ'=>exact λσ' H' Ha' s' h'=>⟨Ha',ρ',h',bR.grow (r:=t ρ') q s'⟩|rt d|bk ρ'|ct ρ'=>exact q
noncomputable def eX:Ev->ai Fl:=λ_=>.stuck
theorem AJ:DS X E He H0e st eX:=⟨bL Hu λD σ H ⟨Ha,ρ,h,q⟩=>q⟩
theorem plain{K:Up}{k:D->ai Fl}(h:cT K He H0e Ha σ H ρ) 
  (q:bR K E He H0e Ha (r.bind k) D')(hk:∀d v H' Ha',r=.ok d->bp H Ha H' Ha'->Rep K Ha' d v->bR K E He H0e Ha' (k d) D'->Q v H'):post K E H Ha r Q:=by
 cases r with|stuck=>exact q|exn x=>exact λC ox H' Ha' g ex=>q C ox H' Ha' (h.g.trans g) ex|ok d=>exact λv H' Ha' g rp=>hk d v H' Ha' rfl g rp (bR.grow (r:=k d) q g.z)
theorem look{K:Up}{k:D->ai Fl}(h:cT K He H0e Ha σ H ρ) 
  (q:bR K E He H0e Ha (r.bind k) D')(hk:∀d v H' J,r=.ok d->bp H (frz He Ha H) H' J->Rep K J d v->bR K E He H0e Ha (k d) D'->Q v H'):post K E H (frz He Ha H) r Q:=by
 cases r with|stuck=>exact q|exn x=>exact λC ox H' Ha' g ex=>q C ox H' Ha' (h.frz_grow.trans g) ex|ok d=>exact λv H' J g rp=>hk d v H' J rfl g rp q
theorem MC{K:Up}{k:Bool->ai Fl}(h:cT K He H0e Ha σ H ρ) 
  (q:bR K E He H0e Ha (r.bind λx=>match x with|.bl b=>k b|_=>.stuck) D')(hk:∀b H',aB H H'->bR K E He H0e Ha (k b) D'->Q b H'):rJ K E H (frz He Ha H) r Q:=by
 cases r with
 |stuck=>exact q|exn x=>exact λC ox H' Ha' g ex=>q C ox H' Ha' (h.frz_grow.trans g) ex
 |ok d =>
  cases d with|bl b=>exact λH' J g=>hk b H' g.s q| _=>exact q.elim
noncomputable def bO(i:Nat) (f:Ev->ai D):Ev->ai Fl:=λρ=>(f ρ).bind λd=>.ok (.nx (ρ.set i (.sh d)))
noncomputable def ck(f:Ev->ai D):Ev->ai Fl:=λρ=>(f (eR ρ)).bind λd=>.ok (.rt d)
noncomputable def lu(f:Ev->ai D):Ev->ai Fl:=λρ=>(f (eR ρ)).bind λ_=>.ok (.nx ρ)
noncomputable def fE(c:Ev->ai D) (s t:Ev->ai Fl):Ev->ai Fl:=λρ=>(c (eR ρ)).bind λx=>match x with
 |.bl b=>if b=true then s ρ else t ρ
 |_=>.stuck
theorem bh(hN:X.N.Nodup)(hi:X.N[i]?=some x)(hx:Gg X.env.scope x)(he:DE X E e f)(hs:swapsWith e (some (.Name x pos')) pos.line X.env=pure false:=by rfl)
  (hf:X.fn x=true∨X.env.scope.names.lookup x=some .local := by first|exact .inl rfl|exact .inr rfl|assumption):DS X E He H0e (.Assign [.Name x pos'] e pos) (bO i f):=by
 refine⟨?_⟩;refine bL (oK hN hi hx he.o hs hf) λD σ H ⟨Ha,ρ,h,q⟩=>⟨Ha,ρ,h.g.sub,h.rd,?_⟩
 refine plain h q λd v H' Ha' _ g rp q'=>?_;exact q' _ H' Ha' (aB.refl _) ((h.grow g).put rp)
theorem bw(he:DE X E e f):DS X E He H0e (.Return (some e) pos) (ck f):=by
 refine⟨?_⟩;refine bL (xi he.o) λD σ H ⟨Ha,ρ,h,q⟩=>⟨frz He Ha H,eR ρ,h.frz_le,h.looks,?_⟩
 exact look h q λd v H' J _ g rp q'=>q' v H' J (h.frz_grow.trans g) rp
theorem qM(he:DE X E e f)(hs:swapsWith e none pos.line X.env=pure false:=by rfl):DS X E He H0e (.Expr e pos) (lu f):=by
 refine⟨?_⟩;refine bL (qz he.o hs) λD σ H ⟨Ha,ρ,h,q⟩=>⟨frz He Ha H,eR ρ,h.frz_le,h.looks,?_⟩
 exact look h q λd v H' J _ g rp q'=>q' σ H' Ha (aB.refl _) (h.same g.s)
theorem cB(hc:DT X E c fc)(ha:A8 X E He H0e sa s)(hb:A8 X E He H0e sb t):DS X E He H0e (.If c sa sb pos) (fE fc s t):=by
 refine⟨?_⟩;refine bL (Mw hc.o ha.o hb.o) λD σ H ⟨Ha,ρ,h,q⟩=>⟨frz He Ha H,eR ρ,h.frz_le,h.looks,?_⟩
 refine MC (k:=λb=>if b=true then s ρ else t ρ) h q λb H' hs q'=>?_;cases b with|true=>rw[if_pos rfl] at q' ⊢;exact⟨Ha,ρ,h.same hs,q'⟩|false=>rw[if_neg Vy] at q' ⊢;exact⟨Ha,ρ,h.same hs,q'⟩
noncomputable def tF(K:Up) (E:XK) (f:Ev->ai D):TE:=λσ H Q=>∃Ha ρ,aB Ha H/\Reads K Ha σ ρ/\match f ρ with
 |.ok (.lst ds)=>∀p vs H' Ha',bp H Ha H' Ha'->H p=none->Ha' p=none->H' p=some (.lst vs)->Reps K Ha' ds vs->Q (.ref p) H'
 |.ok _=>False
 |.exn x=>∀C ox H' Ha',bp H Ha H' Ha'->A3 K Ha' x C ox->E C ox H'
 |.stuck=>False
structure DF (X:Cx) (E:XK) (e:Expr) (f:Ev->ai D):Prop where
 o:PE X e (tF X.K E f)
noncomputable def mh(i:Nat) (f:Ev->ai D):Ev->ai Fl:=λρ=>(f ρ).bind λd=>match d with
 |.lst ds=>.ok (.nx (ρ.set i (.ow (.lst ds))))
 |_=>.stuck
theorem lS(hN:X.N.Nodup)(hi:X.N[i]?=some x)(hx:Gg X.env.scope x)(he:DF X E e f)(hs:swapsWith e (some (.Name x pos')) pos.line X.env=pure false:=by rfl)
  (hf:X.fn x=true∨X.env.scope.names.lookup x=some .local := by first|exact .inl rfl|exact .inr rfl|assumption):DS X E He H0e (.Assign [.Name x pos'] e pos) (mh i f):=by
 refine⟨?_⟩;refine bL (oK hN hi hx he.o hs hf) λD σ H ⟨Ha,ρ,h,q⟩=>⟨Ha,ρ,h.g.sub,h.rd,?_⟩
 unfold mh at q;cases e1:f ρ with
 |stuck=>rw[e1] at q;exact q|exn x=>rw[e1] at q;exact λC ox H' Ha' g ex=>q C ox H' Ha' (h.g.trans g) ex
 |ok d =>
  rw[e1] at q;cases d with
  |lst ds =>
   intro p vs H' Ha' g hp h0 hv rp;refine q _ H' Ha' g.z ((h.grow g).putOwn (λj a ej ea d ed=>?_) (h.g.s.free hp) h0 hv rp (h.fresh_x g.s hp));subst ea;obtain⟨a',k1,_,_,k4⟩:=h.ow j d ed;rw[ej] at k1;cases k1;cases d with|lst ds'|dic ks ds'=>obtain⟨vs',h5,_⟩:=k4;rw[hp] at h5;cases h5| _=>exact k4.elim
  |_=>exact q.elim
theorem pd(h:DA X E es fa):DF X E (.List es pos) (ao fa b5):=by
 refine⟨?_⟩;refine aX (Bu h.o) λσ H Q h=>?_;obtain⟨Ha,ρ,hs,hr,q⟩:=h;refine⟨Ha,ρ,hs,hr,?_⟩;unfold ao at q;cases e1:fa ρ with
 |stuck|exn x=>rw[e1] at q;exact q
 |ok ds =>
  rw[e1] at q;intro vs H1 H01 g1 r1;replace q:match b5 ds with
   |.ok (.lst ds)=>∀p vs H' Ha',bp H Ha H' Ha'->H p=none->Ha' p=none->H' p=some (.lst vs)->Reps X.K Ha' ds vs->Q (.ref p) H'
   |.ok _=>False
   |.exn x=>∀C ox H' Ha',bp H Ha H' Ha'->A3 X.K Ha' x C ox->E C ox H'
   |.stuck=>False:=q
  unfold b5 at q
  by_cases hl:ds.length<=line
  .rw[if_pos hl] at q
   refine⟨by rw[←r1.length];exact cF hl,λp hp=>?_⟩;have h0:H01 p=none:=g1.sub.free hp;refine q p vs _ H01 (g1.trans ⟨λb o q=>by rw[aq (aY q hp)];exact q,aB.refl _,λb o q=>?_,λa h1 h2=>absurd h2 h1⟩) (g1.s.free hp) h0 aw r1;rw[aq (by intro z;subst z;rw[h0] at q;cases q)];exact g1.sub _ _ q
  .rw[if_neg hl] at q;exact q.elim
noncomputable def CS(ρ:Ev) (i:Nat) (k:List D->ai Fl):ai Fl:=match ρ[i]? with
 |some (.ow (.lst ds))=>k ds
 |_=>.stuck
noncomputable def fq(i:Nat) (f:Ev->ai D):Ev->ai Fl:=λρ=>CS ρ i λds=>(f ρ).bind λd=>if ds.length<line then .ok (.nx (ρ.set i (.ow (.lst (ds++[d]))))) else .stuck
theorem zq{K:Up}{k:List D->ai Fl}(h:cT K He H0e Ha σ H ρ)(q:bR K E He H0e Ha (CS ρ i k) D') :
  ∃ds p vs,ρ[i]?=some (.ow (.lst ds))/\σ[i]?=some (some (.ref p))/\He p=none/\Ha p=none/\H p=some (.lst vs)/\Reps K Ha ds vs/\bR K E He H0e Ha (k ds) D':=by
 unfold CS at q;cases e:ρ[i]? with
 |none=>rw[e] at q;exact q.elim
 |some s =>
  rw[e] at q;cases s with
  |no|sh d|ox j ds|pt a=>exact q.elim
  |ow d =>
   cases d with
   |lst ds =>
    obtain⟨p,h1,h2,h3,vs,h4,h5⟩:=h.ow i _ e;exact⟨ds,p,vs,rfl,h1,h2,h3,h4,h5,q⟩
   |_=>exact q.elim
theorem iO(hN:X.N[i]?=some x)(hv:AZ X.env.scope x)(he:DE X E e f)
  (hd:(x==("__debug__":Str))=false:=by decide)(hcd:(x==("__classdict__":Str))=false:=by decide)
  (hbase:attributeBase (.Name x p1) "append" X.env (eval (.Name x p1) X.env)=eval (.Name x p1) X.env:=by rfl)
  (hfew:((backTo p3 (starEach [e] X.env)).all (λx=>!x.1)&&(backToKw p3 (keywordEach [] X.env)).all (λx=>x.1.isSome)
  &&decide ([e].length+([]:List Keyword).length+(if([]:List Keyword).isEmpty then 0 else 1)<30))=true:=by exact sQ rfl)
  (hline:(p2.endLine==p3.line)=true:=by rfl) (hs:starEach [e] X.env=(false,eval e X.env)::starEach [] X.env:=by exact aQ rfl) (hplain:(backTo p3 (starEach [] X.env)).any (·.1)=false:=by exact bB rfl)
  (hw:swapsWith (.Call (.Attribute (.Name x p1) "append" p2) [e] [] p3) none pos.line X.env=pure false:=by rfl) :
  DS X E He H0e (.Expr (.Call (.Attribute (.Name x p1) "append" p2) [e] [] p3) pos) (fq i f):=by
 refine⟨?_⟩;refine bL (qz (HE Ym Yg Yf oV (fR hN hv hd hcd) (cH he.o eY hs) hbase hfew hline hs hplain) hw) λD σ H ⟨Ha,ρ,h,q⟩=>?_;obtain⟨ds,p,vs,e1,e2,e3,e4,e5,e6,q⟩:=zq h q;refine⟨.ref p,e2,.inl ⟨rfl,vs,eC.of e5⟩,?_⟩;refine⟨Ha,ρ,h.g.sub,h.rd,plain h q λd v H' Ha' _ g rp q'=>?_⟩
 by_cases hl:ds.length<line
 .rw[if_pos hl] at q'
  have e5':H' p=some (.lst vs):=g.s _ _ e5;refine⟨p,vs,v,rfl,rfl,e5',by rw[←e6.length];exact Uy hl (by decide),?_⟩;exact q' σ _ Ha' (aB.refl _) ((h.grow g).write e1 e2 ((e6.mono g.z).app (Reps.cons rp Reps.nil)))
 .rw[if_neg hl] at q';exact q'.elim
noncomputable def putAt(ρ:Ev) (i:Nat) (ds:List D) (d:D) (j:D):ai Fl:=match j with
 |.int j=>match BP ds.length j with
  |some n=>.ok (.nx (ρ.set i (.ow (.lst (ds.set n d)))))
  |none=>.stuck
 |_=>.stuck
noncomputable def G4(i:Nat) (f k:Ev->ai D):Ev->ai Fl:=λρ=>CS ρ i λds=>(f ρ).bind λd=>(k ρ).bind λj=>putAt ρ i ds d j
theorem Ho{K:Up}(h:cT K He H0e Ha σ H ρ)(e1:ρ[i]?=some (.ow (.lst ds)))(e2:σ[i]?=some (some (.ref p)))(e5:H p=some (.lst vs))(e6:Reps K Ha ds vs)
  (rp:Rep K Ha d v)(rj:Rep K Ha j u)(q:bR K E He H0e Ha (putAt ρ i ds d j) D'):Mt (.ref p) u v H λH'=>D'.nx σ H':=by
 unfold putAt at q;cases j with
 |int n =>
  cases en:BP ds.length n with
  |none=>simp only[en] at q;exact q.elim
  |some m =>
   simp only[en] at q;refine⟨p,vs,n,m,rfl,az.mp rj,e5,by rw[←e6.length];exact en,?_⟩;exact q σ _ Ha (aB.refl _) (h.write e1 e2 (e6.set rp m))
 |_=>exact q.elim
section
variable {i:Nat}{x:Str}{p1 p2:Pos}{k:Ev->ai D}
theorem Ot(hN:X.N[i]?=some x)(hv:AZ X.env.scope x)(he:DE X E e f)(hk:DE X E b k)
  (hd:(x==("__debug__":Str))=false:=by decide)(hcd:(x==("__classdict__":Str))=false:=by decide)
  (ha:∀v,assign (.Subscript (.Name x p1) b p2) X.env v=(do
   let ov ←holding [v] (eval (.Name x p1) X.env)
   let iv ←holding [v,ov] (eval b X.env)
   standAt p2
   holding [v,ov,iv] (setItem ov iv v)
   release [v,ov,iv] []):=by intro _;rfl)
  (hs:swapsWithSole [.Subscript (.Name x p1) b p2] e pos.line X.env=pure false:=by rfl) (hw:swappedStores [.Subscript (.Name x p1) b p2] e X.env=pure none:=by rfl)
  (h1:(assignEach [.Subscript (.Name x p1) b p2] X.env).map (·.2)=[assign (.Subscript (.Name x p1) b p2) X.env]:=by rfl) :
  DS X E He H0e (.Assign [.Subscript (.Name x p1) b p2] e pos) (G4 i f k):=by
 refine⟨?_⟩;refine bL (Bq he.o (HA (fR hN hv hd hcd) hk.o yX ha) hs hw h1) λD σ H ⟨Ha,ρ,h,q⟩=>⟨Ha,ρ,h.g.sub,h.rd,?_⟩
 obtain⟨ds,p,vs,e1,e2,e3,e4,e5,e6,q⟩:=zq h q;refine plain (k:=λd=>(k ρ).bind λj=>putAt ρ i ds d j) h q λd v H1 H01 _ g1 r1 q1=>⟨.ref p,e2,?_⟩
 have h1':=h.grow g1;refine⟨H01,ρ,h1'.g.sub,h1'.rd,plain (k:=λj=>putAt ρ i ds d j) h1' q1 λj u H2 H02 _ g2 r2 q2=>?_⟩;exact Ho (h1'.grow g2) e1 e2 (g2.s _ _ (g1.s _ _ e5)) ((e6.mono g1.z).mono g2.z) (r1.mono g2.z) r2 q2
end
noncomputable def cp(tg:Ev->D->ai Ev) (body:Ev->ai Fl):List D->Ev->ai Fl
 |[],ρ=>.ok (.nx ρ)
 |d::r,ρ=>(tg ρ d).bind λρ1=>(body ρ1).bind λx=>match x with
  |.nx ρ2=>cp tg body r ρ2
  |.ct ρ2=>cp tg body r ρ2
  |.bk ρ2=>.ok (.nx ρ2)
  |.rt d=>.ok (.rt d)
noncomputable def tG(K:Up) (He H0e:Hp) (tg:Ev->D->ai Ev):TG:=λv σ H Q=>∃Ha ρ d,cT K He H0e Ha σ H ρ/\Rep K Ha d v/\match tg ρ d with
  |.ok ρ'=>∀σ' H' Ha',aB Ha Ha'->cT K He H0e Ha' σ' H' ρ'->Q σ' H'
  |_=>False
structure DG (X:Cx) (E:XK) (He H0e:Hp) (target:Expr) (tg:Ev->D->ai Ev):Prop where
 o:PG X target (tG X.K He H0e tg)
noncomputable def cz(i:Nat):Ev->D->ai Ev:=λρ d=>.ok (ρ.set i (.sh d))
theorem xp{t t':TG}(h:PG X tgt t)(w:∀v σ H Q,t' v σ H Q->t v σ H Q):PG X tgt t':=λpins s σ H v u Q I r q=>h pins s σ H v u Q I r (w v σ H Q q)
theorem cw(hN:X.N.Nodup)(hi:X.N[i]?=some x)(hx:Gg X.env.scope x)(hf:X.fn x=true∨X.env.scope.names.lookup x=some .local := by first|exact .inl rfl|exact .inr rfl|assumption):DG X E He H0e (.Name x pos) (cz i) :=
 ⟨xp (CL hN hi hx hf) λv σ H Q ⟨Ha,ρ,d,h,rp,q⟩=>q _ H Ha (aB.refl _) (h.put rp)⟩
noncomputable def gj(K:Up) (E:XK) (He H0e Hb:Hp) (tg:Ev->D->ai Ev) (s:Ev->ai Fl) (ds:List D) (D':iY) (i:Nat) (σ:L2.St) (H:Hp):Prop :=
 ∃Ha ρ,aB Hb Ha/\cT K He H0e Ha σ H ρ/\bR K E He H0e Ha (cp tg s (ds.drop i) ρ) D'
theorem gj.step{K:Up}(h:gj K E He H0e Hb tg s ds D' i σ H)(hd:ds[i]?=some d)(rv:Rep K Hb d v)
  (he:∀ρ,tg ρ d=.stuck∨∃ρ',tg ρ d=.ok ρ') :
  tG K He H0e tg v σ H λσ2 H2=>tS K E He H0e s { D' with nx:=gj K E He H0e Hb tg s ds D' (i+1),ct:=gj K E He H0e Hb tg s ds D' (i+1),bk:=D'.nx } σ2 H2:=by
 obtain⟨Ha,ρ,z,h,q⟩:=h;have hi:i<ds.length:=(Uw.mp hd).1;have hdr:ds.drop i=d::ds.drop (i+1):=by
  rw[Va hi];rw[Uz hi] at hd;cases hd;rfl
 rw[hdr] at q;refine⟨Ha,ρ,d,h,rv.mono z,?_⟩;unfold cp at q;rcases he ρ with e1|⟨ρ1,e1⟩
 .rw[e1] at q;exact q.elim
 .rw[e1] at q ⊢
  intro σ' H' Ha' z' h';refine⟨Ha',ρ1,h',?_⟩;replace q:=bR.grow (r:=(s ρ1).bind λx=>match x with
   |.nx ρ2=>cp tg s (ds.drop (i+1)) ρ2
   |.ct ρ2=>cp tg s (ds.drop (i+1)) ρ2
   |.bk ρ2=>.ok (.nx ρ2)
   |.rt d=>.ok (.rt d)) q z'
  cases e2:s ρ1 with
  |stuck|exn x=>rw[e2] at q;exact q
  |ok r =>
   rw[e2] at q;cases r with|nx ρ2=>exact λσ3 H3 H03 z3 h3=>⟨H03,ρ2,(z.trans z').trans z3,h3,bR.grow (r:=cp tg s (ds.drop (i+1)) ρ2) q z3⟩|ct ρ2=>exact λσ3 H3 H03 z3 h3=>⟨H03,ρ2,(z.trans z').trans z3,h3,bR.grow (r:=cp tg s (ds.drop (i+1)) ρ2) q z3⟩|bk ρ2|rt d=>exact q
theorem gj.done{K:Up}(h:gj K E He H0e Hb tg s ds D' ds.length σ H):D'.nx σ H:=by
 obtain⟨Ha,ρ,z,h,q⟩:=h;rw[Wk] at q;unfold cp at q;exact q σ H Ha (aB.refl _) h
noncomputable def wG(tg:Ev->D->ai Ev):Prop:=∀ρ d,tg ρ d=.stuck∨∃ρ',tg ρ d=.ok ρ'
theorem cG:wG (cz i):=λρ d=>.inr ⟨_,rfl⟩
noncomputable def u9(f:Ev->ai D) (tg:Ev->D->ai Ev) (s:Ev->ai Fl):Ev->ai Fl:=λρ=>(f ρ).bind λd=>match d with
 |.lst ds=>cp tg s ds ρ
 |_=>.stuck
theorem uv(hp:PassesOwn (model X.prog X.w) X.A X.env X.xe)(hc:X.calm=true)(hi:DE X E iter f)(hg:DG X E He H0e tgt tg)(ht:wG tg)(hb:A8 X E He H0e body s)
  (hs:∀x,foldedSetIterable iter X.env x=pure x:=by intro _;rfl):DS X E He H0e (.For tgt iter body [] pos) (u9 f tg s):=by
 refine⟨?_⟩;refine bL (xj hp hc (xo hi.o) hg.o hb.o hs) λD' σ H ⟨Ha,ρ,h,q⟩=>⟨Ha,ρ,h.g.sub,h.rd,?_⟩
 refine plain h q λd v H1 H01 _ g rp q1=>?_;cases d with
 |lst ds =>
  obtain⟨a,vs,rfl,hv,hr⟩:=aH.mp rp;refine⟨a,rfl,⟨vs,aB.sqL g.sub hv⟩,?_⟩;refine Iq (K:=X.K) (a:=a) (g:=tG X.K He H0e tg) (tb:=tS X.K E He H0e s) (D:=D') (xs:=vs) (gj X.K E He H0e H01 tg s ds D') ⟨H01,ρ,aB.refl _,h.grow g,q1⟩ ?_ ?_ ?_
  .rintro i σ' H' _ ⟨Ha',ρ',z,h',_⟩
   exact aB.sqL (z.trans h'.g.sub) hv
  .intro i x σ' H' hx hI
   have hil:i<ds.length:=by rw[hr.length];exact(Uw.mp hx).1
   obtain⟨u,e1,e2⟩:=hr.get (Uz hil);rw[hx] at e1;cases e1;exact hI.step (Uz hil) e2 λρ=>ht ρ _
  .intro σ' H' hI
   rw[←hr.length] at hI;exact hI.done
 |_=>exact q1.elim
noncomputable def intsFrom(lo:Int) (n:Nat):List D:=(VO n).map λ(k:Nat)=>D.int (lo+(k:Int))
noncomputable def za(f:Ev->ai D) (tg:Ev->D->ai Ev) (s:Ev->ai Fl):Ev->ai Fl:=λρ=>(f (eR ρ)).bind λd=>match d with
 |.int j=>if -4611686018427387904<=j/\j<4611686018427387904 then cp tg s (intsFrom 0 j.toNat) ρ else .stuck
 |_=>.stuck
theorem yi(hp:PassesOwn (model X.prog X.w) X.A X.env X.xe)(hc:X.calm=true)(hgl:Gl X "range")(hm:X.mg "range"=none)(hi:DE X E iter f)(hg:DG X E He H0e tgt tg)(ht:wG tg)(hb:A8 X E He H0e body s)
  (hst:starEach [iter] X.env=[(false,eval iter X.env)]:=by exact gF rfl)(hs:∀x,foldedSetIterable (.Call (.Name "range" p) [iter] [] pos2) X.env x=pure x:=by intro _;rfl):DS X E He H0e (.For tgt (.Call (.Name "range" p) [iter] [] pos2) body [] pos) (za f tg s):=by
 refine⟨?_⟩;refine bL (xj hp hc (oO hgl hm (cH hi.o eY hst) hst) hg.o hb.o hs) λD' σ H ⟨Ha,ρ,h,q⟩=>?_;refine⟨frz He Ha H,eR ρ,h.frz_le,h.looks,look h q λd v H1 J _ g rp q1=>?_⟩;cases d with
 |int j =>
  rw[az.mp rp];replace q1:bR X.K E He H0e Ha (if -4611686018427387904<=j/\j<4611686018427387904 then cp tg s (intsFrom 0 j.toNat) ρ else .stuck) D':=q1
  by_cases hj:-4611686018427387904<=j/\j<4611686018427387904
  .rw[if_pos hj] at q1
   refine⟨j,rfl,by omega,by omega,?_⟩;have hlen:(intsFrom 0 j.toNat).length=j.toNat:=by unfold intsFrom;simp
   refine FH (lo:=0) (n:=j.toNat) (g:=tG X.K He H0e tg) (tb:=tS X.K E He H0e s) (D:=D') (gj X.K E He H0e Ha tg s (intsFrom 0 j.toNat) D') ⟨Ha,ρ,aB.refl _,h.same g.s,q1⟩ ?_ ?_
   .intro i σ' H' hlt hI
    refine hI.step (d:=.int (0+i)) ?_ (az.mpr rfl) λρ=>ht ρ _;unfold intsFrom;simp [hlt]
   .intro σ' H' hI
    exact gj.done (ds:=intsFrom 0 j.toNat) (by rw[hlen];exact hI)
  .rw[if_neg hj] at q1;exact q1.elim
 |_=>exact q1.elim
noncomputable def cA(c:Ev->ai D) (s:Ev->ai Fl):Nat->Ev->ai Fl
 |0,_=>.stuck
 |n+1,ρ=>(c (eR ρ)).bind λx=>match x with
  |.bl b=>if b=true then(s ρ).bind λx=>match x with
    |.nx ρ2=>cA c s n ρ2
    |.ct ρ2=>cA c s n ρ2
    |.bk ρ2=>.ok (.nx ρ2)
    |.rt d=>.ok (.rt d)
   else .ok (.nx ρ)
  |_=>.stuck
noncomputable def i7(fuel:Ev->Nat) (c:Ev->ai D) (s:Ev->ai Fl):Ev->ai Fl:=λρ=>cA c s (fuel ρ) ρ
theorem uu(fuel:Ev->Nat)(hp:PassesOwn (model X.prog X.w) X.A X.env X.xe)(hc:DT X E c fc)(hb:A8 X E He H0e body s):DS X E He H0e (.While c body [] pos) (i7 fuel fc s):=by
 refine⟨?_⟩;refine bL (Ht hp hc.o hb.o) λD' σ H ⟨Ha,ρ,h,q⟩=>?_;refine⟨λm σ H=>∃Ha ρ,cT X.K He H0e Ha σ H ρ/\bR X.K E He H0e Ha (cA fc s m ρ) D',⟨fuel ρ,Ha,ρ,h,q⟩,?_⟩;rintro m σ1 H1 ⟨H01,ρ1,h1,q1⟩;cases m with
 |zero=>exact q1.elim
 |succ m =>
  refine⟨frz He H01 H1,eR ρ1,h1.frz_le,h1.looks,?_⟩;unfold cA at q1;refine MC (k:=λb=>if b=true then(s ρ1).bind λx=>match x with
    |.nx ρ2=>cA fc s m ρ2
    |.ct ρ2=>cA fc s m ρ2
    |.bk ρ2=>.ok (.nx ρ2)
    |.rt d=>.ok (.rt d)
   else .ok (.nx ρ1)) h1 q1 λb H2 hs q2=>?_
  cases b with
  |false =>
   rw[if_neg Vy] at q2 ⊢;exact q2 σ1 H2 H01 (aB.refl _) (h1.same hs)
  |true =>
   rw[if_pos rfl] at q2 ⊢;refine⟨λσ' H'=>∃m',m' < m+1/\∃Ha ρ,cT X.K He H0e Ha σ' H' ρ/\bR X.K E He H0e Ha (cA fc s m' ρ) D',λσ' H' z=>z,H01,ρ1,h1.same hs,?_⟩;cases e2:s ρ1 with
   |stuck|exn x=>rw[e2] at q2;exact q2
   |ok r =>
    rw[e2] at q2;cases r with|nx ρ2=>exact λσ3 H3 H03 z3 h3=>⟨m,Wj _,H03,ρ2,h3,bR.grow (r:=cA fc s m ρ2) q2 z3⟩|ct ρ2=>exact λσ3 H3 H03 z3 h3=>⟨m,Wj _,H03,ρ2,h3,bR.grow (r:=cA fc s m ρ2) q2 z3⟩|bk ρ2|rt d=>exact q2
end
noncomputable def cm(n:Nat) (s:Ev->ai Fl) (ds:List D):ai D:=(s (ds.map Sl.sh++U2 (n-ds.length) .no)).bind λr=>match r with
 |.nx _=>.ok .non
 |.rt d=>.ok d
 |_=>.stuck
theorem jS{K:Up}(h:Reps K Ha ds vs):Reads K Ha (start N vs) (ds.map Sl.sh++U2 (N.length-ds.length) .no):=by
 intro i d e;have hl:=h.length
 by_cases hi:i<ds.length
 .rw[UH (by simpa using hi),UD] at e
  cases q:ds[i]? with
  |none=>rw[q] at e;cases e
  |some d' =>
   rw[q] at e;cases e;obtain⟨v,h1,h2⟩:=h.get q;refine⟨v,?_,h2⟩;unfold L2.start;rw[UH (by simp;omega),UD,h1];rfl
 .rw[UN (by simpa using hi),UW] at e
  split at e<;>cases e
theorem oG{ds:List D}(i j:Nat)(es:List D):(ds.map Sl.sh++U2 n Sl.no)[i]?≠some (.ox j es):=λe=>by
 have:=UA e;rw[Ve] at this;rcases this with h|h
 .obtain⟨_,_,h⟩:=UY.mp h;cases h
 .have:=Yi h;cases this
theorem lL{ds:List D}{σ:L2.St}(i:Nat)(a:Addr)(e:(ds.map Sl.sh++U2 n Sl.no)[i]?=some (.pt a)):σ[i]?=some (some (.ref a)):=by
 have:=UA e;rw[Ve] at this;rcases this with h|h
 .obtain⟨_,_,h⟩:=UY.mp h;cases h
 .have:=Yi h;cases this
theorem FI{K:Up}{st:Stmt}{N ps:List Str}{k:Nat}(F:Gh K x qual st f fd)(S:d8 N ps (defScope st))
  (hbody:∀(cdv:Value) (A:Around) (outer:List Vu) (s0:Shared) (H Ha:Hp) (E:XK),cE k (A.deeper (envOfC qual (defScope st) s0.heap.objs.size f cdv)) ->
   A8 (di CX0 P w K mg base N qual (defScope st) f cdv A outer s0 H E).nox E H Ha (defBody st) s):fN P w K mg base CX0 (k+1) f fd ps (spD K ps.length (cm N.length s)):=by
 have hpl:ps.length<=N.length:=by have:=congrArg WZ S.pre;rw[Vf] at this;omega
 refine F.ok S (λvs H Q E h=>h.1) λcdv A outer s0 H vs Q E hr h=>?_;obtain⟨hn,Ha,ds,hs,hv,q⟩:=h;refine⟨_,(hbody cdv A outer s0 H Ha E hr).o,Ha,ds.map Sl.sh++U2 (N.length-ds.length) .no,?_,?_⟩
 .refine⟨bp.refl hs,jS hv,λi d e=>?_,λi j d d' hij e=>?_,?_,OX.none oG lL⟩
  .by_cases hi:i<ds.length
   .rw[UH (by simpa using hi),UD] at e
    cases q:ds[i]? with|none|some d'=>rw[q] at e;cases e
   .rw[UN (by simpa using hi),UW] at e
    split at e<;>cases e
  .by_cases hi:i<ds.length
   .rw[UH (by simpa using hi),UD] at e
    cases q:ds[i]? with|none|some d'=>rw[q] at e;cases e
   .rw[UN (by simpa using hi),UW] at e
    split at e<;>cases e
  .unfold L2.start
   have:=hv.length;simp only[U6,Ur,Vj];omega
 .unfold cm at q
  cases e1:s (ds.map Sl.sh++U2 (N.length-ds.length) .no) with
  |stuck|exn x=>rw[e1] at q;exact q
  |ok r =>
   rw[e1] at q;cases r with|nx ρ'=>exact λσ' H' Ha' _ h'=>q .non H' Ha' h'.g (aV.mpr rfl)|rt d=>exact λv H' Ha' g rp=>q v H' Ha' g rp|bk ρ'|ct ρ'=>exact q.elim
mutual
def c4:D->D->Bool
 |.non,.non=>true
 |.bl a,.bl b=>a==b
 |.bl a,.int b=>(if a then 1 else 0)==b
 |.int a,.bl b=>a==(if b then 1 else 0)
 |.int a,.int b=>a==b
 |.str a,.str b=>a==b
 |.tup xs,.tup ys=>eqDs xs ys
 |.lst xs,.lst ys=>eqDs xs ys
 |_,_=>false
def eqDs:List D->List D->Bool
 |[],[]=>true
 |x::xs,y::ys=>c4 x y&&eqDs xs ys
 |_,_=>false
end
noncomputable def bA:Nat->D->Bool
 |_,.non=>true
 |_,.bl _=>true
 |_,.int _=>true
 |_,.str _=>true
 |n+1,.tup ds=>ds.all (bA n)
 |n+1,.lst ds=>ds.all (bA n)
 |_,_=>false
theorem vY(h:∀d∈ds,c4 d d=true):eqDs ds ds=true:=by
 induction ds with
 |nil=>simp [eqDs]
 |cons d r ih =>
  unfold eqDs;rw[h d UM,ih λx hx=>h x (Uu _ hx)];rfl
theorem ku:∀(n:Nat) (d:D),bA n d=true->c4 d d=true
 |_,.non,_=>by simp [c4]
 |_,.bl b,_=>by simp [c4]
 |_,.int b,_=>by simp [c4]
 |_,.str b,_=>by simp [c4]
 |n+1,.tup ds,h=>by
  unfold bA at h;unfold c4;exact vY λd hd=>ku n d (U7.mp h d hd)
 |n+1,.lst ds,h=>by
  unfold bA at h;unfold c4;exact vY λd hd=>ku n d (U7.mp h d hd)
 |0,.tup ds,h=>by unfold bA at h;cases h
 |0,.lst ds,h=>by unfold bA at h;cases h
 |0,.dic ks ds,h=>by unfold bA at h;cases h
 |n+1,.dic ks ds,h=>by unfold bA at h;cases h
 |0,.exc x,h=>by unfold bA at h;cases h
 |0,.ob k x,h=>by unfold bA at h;cases h
 |n+1,.ob k x,h=>by unfold bA at h;cases h
 |n+1,.exc x,h=>by unfold bA at h;cases h
theorem Lx:c4 (.tup xs) (.tup ys)=eqDs xs ys:=by rw[c4]
theorem Dw:c4 (.lst xs) (.lst ys)=eqDs xs ys:=by rw[c4]
theorem lR:∀(xs ys:List D),xs.length=ys.length->eqDs xs ys=(VO xs.length).all λj=>c4 (xs.getD j .non) (ys.getD j .non)
 |[],[],_=>by simp [eqDs]
 |x::xs,y::ys,h=>by
  have ih:=lR xs ys (by simpa using h);unfold eqDs;rw[ih,UI,Yu,WL,Yx];rfl
 |[],_::_,h=>by simp at h
 |_::_,[],h=>by simp at h
theorem uf:∀(xs ys:List D),xs.length≠ys.length->eqDs xs ys=false
 |[],[],h=>absurd rfl h
 |x::xs,y::ys,h=>by
  unfold eqDs;rw[uf xs ys (by simpa using h),Xm]
 |[],_::_,h=>by simp [eqDs]
 |_::_,[],h=>by simp [eqDs]
section
variable {X:Cx}{pins:List (Addr×Obj)}{σ:L2.St}{H:Hp}{s:Shared}
theorem br(I:Inv X pins σ H s)(r:Rep X.K H (.tup ds) v)(rv:bu v u):∃a vs its,v=.ref a/\u=.ref a/\jK X.K H a vs/\Reps X.K H ds vs/\bH vs its/\IsTup s.heap a its.toArray/\ds.length=its.length:=by
 obtain⟨a,vs,rfl,h1,h2⟩:=aM.mp r;obtain rfl:u=UZ a:=rv;obtain⟨its,h3,h4,_⟩:=I.tuple h1;exact⟨a,vs,its,rfl,rfl,h1,h2,h3,h4,h2.length.trans h3.length⟩
theorem bg(I:Inv X pins σ H s)(r:Rep X.K H (.lst ds) v)(rv:bu v u):∃a vs its,v=.ref a/\u=.ref a/\eC X.K H a vs/\Reps X.K H ds vs/\bH vs its/\s.heap.IsList a its.toArray/\ds.length=its.length:=by
 obtain⟨a,vs,rfl,h1,h2⟩:=aH.mp r;obtain rfl:u=UZ a:=rv;obtain⟨its,h3,h4,_⟩:=I.list h1;exact⟨a,vs,its,rfl,rfl,h1,h2,h3,h4.isList,h2.length.trans h3.length⟩
theorem rz{n:Nat}(ih:∀(d d':D) (v:V),bA n d=true->bA n d'=true->Rep X.K H d v->Rep X.K H d' v->d=d'):∀(ds ds':List D) (vs:List V),ds.all (bA n)=true->ds'.all (bA n)=true->Reps X.K H ds vs->Reps X.K H ds' vs->ds=ds'
 |[],ds',vs,_,_,h,h'=>by
  rw[Reps.nil_iff.mp h] at h';cases ds' with|nil=>rfl|cons d r=>obtain⟨_,_,e,_⟩:=aJ.mp h';cases e
 |d::ds,ds',vs,a,a',h,h'=>by
  obtain⟨v,r,rfl,h1,h2⟩:=aJ.mp h;cases ds' with
  |nil=>cases Reps.nil_iff.mp h'
  |cons d' ds' =>
   obtain⟨v',r',e,h1',h2'⟩:=aJ.mp h';cases e;rw[WL,UU] at a a';rw[ih d d' v a.1 a'.1 h1 h1',rz ih ds ds' r a.2 a'.2 h2 h2']
theorem Rep.inj(I:Inv X pins σ H s):∀(n:Nat) (d d':D) (v:V),bA n d=true->bA n d'=true->Rep X.K H d v->Rep X.K H d' v->d=d':=by
 have atom:∀(n:Nat) (d d':D) (v:V),(∀ds,d≠.tup ds)->(∀ds,d≠.lst ds)->bA n d=true->bA n d'=true->Rep X.K H d v->Rep X.K H d' v->d=d':=by
  intro n d d' v n1 n2 s1 s2 h h';have nd:∀m ks ds,bA m (.dic ks ds)=true->False:=λm ks ds h=>by cases m<;>(unfold bA at h;cases h)
  have nx:∀m x,bA m (.exc x)=true->False:=λm x h=>by cases m<;>(unfold bA at h;cases h)
  have nb:∀m k x,bA m (.ob k x)=true->False:=λm k x h=>by cases m<;>(unfold bA at h;cases h)
  cases d with
  |tup ds=>exact absurd rfl (n1 ds)|lst ds=>exact absurd rfl (n2 ds)|dic ks ds=>exact(nd _ _ _ s1).elim|exc x=>exact(nx _ _ s1).elim|ob k x=>exact(nb _ _ _ s1).elim
  |non =>
   rw[aV.mp h] at h';cases d' with|non=>rfl|bl b=>cases aL.mp h'|int b=>cases az.mp h'|str b=>cases Rep.str_iff.mp h'|tup ds=>obtain⟨_,_,e,_⟩:=aM.mp h';cases e|lst ds=>obtain⟨_,_,e,_⟩:=aH.mp h';cases e|dic ks ds=>exact(nd _ _ _ s2).elim|exc x=>exact(nx _ _ s2).elim|ob k x=>exact(nb _ _ _ s2).elim
  |bl x =>
   rw[aL.mp h] at h';cases d' with|non=>cases aV.mp h'|bl b=>cases aL.mp h';rfl|int b=>cases az.mp h'|str b=>cases Rep.str_iff.mp h'|tup ds=>obtain⟨_,_,e,_⟩:=aM.mp h';cases e|lst ds=>obtain⟨_,_,e,_⟩:=aH.mp h';cases e|dic ks ds=>exact(nd _ _ _ s2).elim|exc x=>exact(nx _ _ s2).elim|ob k x=>exact(nb _ _ _ s2).elim
  |int x =>
   rw[az.mp h] at h';cases d' with|non=>cases aV.mp h'|bl b=>cases aL.mp h'|int b=>cases az.mp h';rfl|str b=>cases Rep.str_iff.mp h'|tup ds=>obtain⟨_,_,e,_⟩:=aM.mp h';cases e|lst ds=>obtain⟨_,_,e,_⟩:=aH.mp h';cases e|dic ks ds=>exact(nd _ _ _ s2).elim|exc x=>exact(nx _ _ s2).elim|ob k x=>exact(nb _ _ _ s2).elim
  |str x =>
   rw[Rep.str_iff.mp h] at h';cases d' with|non=>cases aV.mp h'|bl b=>cases aL.mp h'|int b=>cases az.mp h'|str b=>cases Rep.str_iff.mp h';rfl|tup ds=>obtain⟨_,_,e,_⟩:=aM.mp h';cases e|lst ds=>obtain⟨_,_,e,_⟩:=aH.mp h';cases e|dic ks ds=>exact(nd _ _ _ s2).elim|exc x=>exact(nx _ _ s2).elim|ob k x=>exact(nb _ _ _ s2).elim
 intro n
 induction n with
 |zero =>
  intro d d' v s1 s2 h h';exact atom 0 d d' v (λds e=>by subst e;unfold bA at s1;cases s1) (λds e=>by subst e;unfold bA at s1;cases s1) s1 s2 h h'
 |succ n ih =>
  intro d d' v s1 s2 h h'
  by_cases t1:∃ds,d=.tup ds
  .obtain⟨ds,rfl⟩:=t1
   by_cases t2:∃ds',d'=.tup ds'
   .obtain⟨ds',rfl⟩:=t2
    obtain⟨a,vs,rfl,h1,h2⟩:=aM.mp h;obtain⟨a',vs',e,h1',h2'⟩:=aM.mp h';cases e;rw[I.tuple_inj h1' h1] at h2';unfold bA at s1 s2;rw[rz ih ds ds' vs s1 s2 h2 h2']
   .by_cases t3:∃ds',d'=.lst ds'
    .obtain⟨ds',rfl⟩:=t3
     obtain⟨a0,_,ev,_,_⟩:=aM.mp h;subst ev;obtain⟨a,vs,its,ea,_,h1,h2,h3,h4,_⟩:=br I h rfl;cases ea;obtain⟨a',vs',its',e,_,h1',h2',h3',h4',_⟩:=bg I h' rfl;cases e;exact absurd rfl (Yr h4' h4)
    .exact(atom (n+1) d' _ v (λds e=>t2 ⟨ds,e⟩) (λds e=>t3 ⟨ds,e⟩) s2 s1 h' h).symm
  .by_cases t1':∃ds,d=.lst ds
   .obtain⟨ds,rfl⟩:=t1'
    by_cases t2:∃ds',d'=.lst ds'
    .obtain⟨ds',rfl⟩:=t2
     obtain⟨a,vs,rfl,h1,h2⟩:=aH.mp h;obtain⟨a',vs',e,h1',h2'⟩:=aH.mp h';cases e;rw[I.list_inj h1' h1] at h2';unfold bA at s1 s2;rw[rz ih ds ds' vs s1 s2 h2 h2']
    .by_cases t3:∃ds',d'=.tup ds'
     .obtain⟨ds',rfl⟩:=t3
      obtain⟨a0,_,ev,_,_⟩:=aH.mp h;subst ev;obtain⟨a,vs,its,ea,_,h1,h2,h3,h4,_⟩:=bg I h rfl;cases ea;obtain⟨a',vs',its',e,_,h1',h2',h3',h4',_⟩:=br I h' rfl;cases e;exact absurd rfl (Yr h4 h4')
     .exact(atom (n+1) d' _ v (λds e=>t3 ⟨ds,e⟩) (λds e=>t2 ⟨ds,e⟩) s2 s1 h' h).symm
   .exact atom (n+1) d d' v (λds e=>t1 ⟨ds,e⟩) (λds e=>t1' ⟨ds,e⟩) s1 s2 h h'
theorem Aa{A:Around} 
  (ih:∀(x y:D) (v u:V) (a b:Value),bA n x=true->bA n y=true->Rep X.K H x v->Rep X.K H y u->bu v a->bu u b->UR A.in1 s a b (c4 x y))
  (sx:xs.all (bA n)=true)(sy:ys.all (bA n)=true)(rx:Reps X.K H xs vs)(ry:Reps X.K H ys us)(qx:bH vs is)(qy:bH us js) :
  ∀j (h1:j<is.toArray.size) (h2:j<js.toArray.size),UR A.in1 s is.toArray[j] js.toArray[j] (c4 (xs.getD j .non) (ys.getD j .non)):=by
 intro j h1 h2;have lx:=rx.length;have ly:=ry.length;have kx:=qx.length;have ky:=qy.length;have h1':j<is.length:=by simpa using h1
 have h2':j<js.length:=by simpa using h2
 have hx:j<xs.length:=by omega
 have hy:j<ys.length:=by omega
 obtain⟨v,e1,r1⟩:=rx.get (Uz hx);obtain⟨u,e2,r2⟩:=ry.get (Uz hy);obtain⟨a,e3,r3⟩:=qx.get e1;obtain⟨b,e4,r4⟩:=qy.get e2;have ea:is.toArray[j]=a:=by
  rw[Uz h1'] at e3;simpa using U8 e3
 have eb:js.toArray[j]=b:=by
  rw[Uz h2'] at e4;simpa using U8 e4
 rw[ea,eb];have gx:xs.getD j .non=xs[j]:=by simp [List.getD,Uz hx]
 have gy:ys.getD j .non=ys[j]:=by simp [List.getD,Uz hy]
 rw[gx,gy];exact ih _ _ v u a b (U7.mp sx _ (XO hx)) (U7.mp sy _ (XO hy)) r1 r2 r3 r4
theorem zd(I:Inv X pins σ H s)(hu:A.units<cLine)(rx:Rep X.K H x v)(ry:Rep X.K H y u)(qx:bu v a)(qy:bu u b)
  (n1:∀ds ds',¬(x=.lst ds/\y=.lst ds'))(n2:∀ds ds',¬(x=.tup ds/\y=.tup ds'))(d1:∀ks ds,x≠.dic ks ds)(d2:∀ks ds,y≠.dic ks ds)(x1:∀c,x≠.exc c)(x2:∀c,y≠.exc c)(o1:∀k c,x≠.ob k c)(o2:∀k c,y≠.ob k c) :
  U1 A s a b (c4 x y)/\UR A s a b (c4 x y)/\UP A s a b (!(c4 x y)):=by
 cases x with
 |non =>
  cases y with
  |non =>
   obtain rfl:=aV.mp rx;obtain rfl:a=Vv:=qx;obtain rfl:=aV.mp ry;obtain rfl:b=Vv:=qy;unfold c4;exact⟨U1.none_none ,XY _,UP.none_none ⟩
  |bl y =>
   obtain rfl:=aV.mp rx;obtain rfl:a=Vv:=qx;obtain rfl:=aL.mp ry;obtain rfl:b=Vw _:=qy;unfold c4;exact⟨U1.none_bool _,UR.none_bool _,UP.none_bool _⟩
  |int y =>
   obtain rfl:=aV.mp rx;obtain rfl:a=Vv:=qx;obtain rfl:=az.mp ry;obtain⟨ty,rfl⟩:∃t,b=VM _ t:=qy;unfold c4;exact⟨U1.none_int _ _,UR.none_int _ _,UP.none_int _ _⟩
  |str y =>
   obtain rfl:=aV.mp rx;obtain rfl:a=Vv:=qx;obtain rfl:=Rep.str_iff.mp ry;obtain⟨ty,rfl⟩:∃t,b=VL _ t:=qy;unfold c4;exact⟨U1.none_str _ _,UR.none_str _ _,UP.none_str _ _⟩
  |lst y =>
   obtain rfl:=aV.mp rx;obtain rfl:a=Vv:=qx;obtain⟨ly,_,_,rfl,rfl,_,_,_,hy,_⟩:=bg I ry qy;unfold c4;exact⟨U1.none_list  hy hu,UR.none_list  hy hu,UP.none_list  hy hu⟩
  |tup y =>
   obtain rfl:=aV.mp rx;obtain rfl:a=Vv:=qx;obtain⟨ly,_,_,rfl,rfl,_,_,_,hy,_⟩:=br I ry qy;unfold c4;exact⟨U1.none_tuple  hy hu,UR.none_tuple  hy hu,UP.none_tuple  hy hu⟩
  |dic ks ds=>exact absurd rfl (d2 ks ds)|exc c=>exact absurd rfl (x2 c)|ob k c=>exact absurd rfl (o2 k c)
 |bl x =>
  cases y with
  |non =>
   obtain rfl:=aL.mp rx;obtain rfl:a=Vw _:=qx;obtain rfl:=aV.mp ry;obtain rfl:b=Vv:=qy;unfold c4;exact⟨U1.bool_none _,UR.bool_none _,UP.bool_none _⟩
  |bl y =>
   obtain rfl:=aL.mp rx;obtain rfl:a=Vw _:=qx;obtain rfl:=aL.mp ry;obtain rfl:b=Vw _:=qy;unfold c4;exact⟨U1.bool_bool _ _,UR.bool_bool _ _,UP.bool_bool _ _⟩
  |int y =>
   obtain rfl:=aL.mp rx;obtain rfl:a=Vw _:=qx;obtain rfl:=az.mp ry;obtain⟨ty,rfl⟩:∃t,b=VM _ t:=qy;unfold c4;exact⟨U1.bool_int _ _ _,UR.bool_int _ _ _,UP.bool_int _ _ _⟩
  |str y =>
   obtain rfl:=aL.mp rx;obtain rfl:a=Vw _:=qx;obtain rfl:=Rep.str_iff.mp ry;obtain⟨ty,rfl⟩:∃t,b=VL _ t:=qy;unfold c4;exact⟨U1.bool_str _ _ _,UR.bool_str _ _ _,UP.bool_str _ _ _⟩
  |lst y =>
   obtain rfl:=aL.mp rx;obtain rfl:a=Vw _:=qx;obtain⟨ly,_,_,rfl,rfl,_,_,_,hy,_⟩:=bg I ry qy;unfold c4;exact⟨U1.bool_list _ hy hu,UR.bool_list _ hy hu,UP.bool_list _ hy hu⟩
  |tup y =>
   obtain rfl:=aL.mp rx;obtain rfl:a=Vw _:=qx;obtain⟨ly,_,_,rfl,rfl,_,_,_,hy,_⟩:=br I ry qy;unfold c4;exact⟨U1.bool_tuple _ hy hu,UR.bool_tuple _ hy hu,UP.bool_tuple _ hy hu⟩
  |dic ks ds=>exact absurd rfl (d2 ks ds)|exc c=>exact absurd rfl (x2 c)|ob k c=>exact absurd rfl (o2 k c)
 |int x =>
  cases y with
  |non =>
   obtain rfl:=az.mp rx;obtain⟨tx,rfl⟩:∃t,a=VM _ t:=qx;obtain rfl:=aV.mp ry;obtain rfl:b=Vv:=qy;unfold c4;exact⟨U1.int_none _ _,UR.int_none _ _,UP.int_none _ _⟩
  |bl y =>
   obtain rfl:=az.mp rx;obtain⟨tx,rfl⟩:∃t,a=VM _ t:=qx;obtain rfl:=aL.mp ry;obtain rfl:b=Vw _:=qy;unfold c4;exact⟨U1.int_bool _ _ _,UR.int_bool _ _ _,UP.int_bool _ _ _⟩
  |int y =>
   obtain rfl:=az.mp rx;obtain⟨tx,rfl⟩:∃t,a=VM _ t:=qx;obtain rfl:=az.mp ry;obtain⟨ty,rfl⟩:∃t,b=VM _ t:=qy;unfold c4;exact⟨U1.int_int _ _ _ _,UR.int_int _ _ _ _,UP.int_int _ _ _ _⟩
  |str y =>
   obtain rfl:=az.mp rx;obtain⟨tx,rfl⟩:∃t,a=VM _ t:=qx;obtain rfl:=Rep.str_iff.mp ry;obtain⟨ty,rfl⟩:∃t,b=VL _ t:=qy;unfold c4;exact⟨U1.int_str _ _ _ _,UR.int_str _ _ _ _,UP.int_str _ _ _ _⟩
  |lst y =>
   obtain rfl:=az.mp rx;obtain⟨tx,rfl⟩:∃t,a=VM _ t:=qx;obtain⟨ly,_,_,rfl,rfl,_,_,_,hy,_⟩:=bg I ry qy;unfold c4;exact⟨U1.int_list _ _ hy hu,UR.int_list _ _ hy hu,UP.int_list _ _ hy hu⟩
  |tup y =>
   obtain rfl:=az.mp rx;obtain⟨tx,rfl⟩:∃t,a=VM _ t:=qx;obtain⟨ly,_,_,rfl,rfl,_,_,_,hy,_⟩:=br I ry qy;unfold c4;exact⟨U1.int_tuple _ _ hy hu,UR.int_tuple _ _ hy hu,UP.int_tuple _ _ hy hu⟩
  |dic ks ds=>exact absurd rfl (d2 ks ds)|exc c=>exact absurd rfl (x2 c)|ob k c=>exact absurd rfl (o2 k c)
 |str x =>
  cases y with
  |non =>
   obtain rfl:=Rep.str_iff.mp rx;obtain⟨tx,rfl⟩:∃t,a=VL _ t:=qx;obtain rfl:=aV.mp ry;obtain rfl:b=Vv:=qy;unfold c4;exact⟨U1.str_none _ _,UR.str_none _ _,UP.str_none _ _⟩
  |bl y =>
   obtain rfl:=Rep.str_iff.mp rx;obtain⟨tx,rfl⟩:∃t,a=VL _ t:=qx;obtain rfl:=aL.mp ry;obtain rfl:b=Vw _:=qy;unfold c4;exact⟨U1.str_bool _ _ _,UR.str_bool _ _ _,UP.str_bool _ _ _⟩
  |int y =>
   obtain rfl:=Rep.str_iff.mp rx;obtain⟨tx,rfl⟩:∃t,a=VL _ t:=qx;obtain rfl:=az.mp ry;obtain⟨ty,rfl⟩:∃t,b=VM _ t:=qy;unfold c4;exact⟨U1.str_int _ _ _ _,UR.str_int _ _ _ _,UP.str_int _ _ _ _⟩
  |str y =>
   obtain rfl:=Rep.str_iff.mp rx;obtain⟨tx,rfl⟩:∃t,a=VL _ t:=qx;obtain rfl:=Rep.str_iff.mp ry;obtain⟨ty,rfl⟩:∃t,b=VL _ t:=qy;unfold c4;exact⟨U1.str_str _ _ _ _,UR.str_str _ _ _ _,UP.str_str _ _ _ _⟩
  |lst y =>
   obtain rfl:=Rep.str_iff.mp rx;obtain⟨tx,rfl⟩:∃t,a=VL _ t:=qx;obtain⟨ly,_,_,rfl,rfl,_,_,_,hy,_⟩:=bg I ry qy;unfold c4;exact⟨U1.str_list _ _ hy hu,UR.str_list _ _ hy hu,UP.str_list _ _ hy hu⟩
  |tup y =>
   obtain rfl:=Rep.str_iff.mp rx;obtain⟨tx,rfl⟩:∃t,a=VL _ t:=qx;obtain⟨ly,_,_,rfl,rfl,_,_,_,hy,_⟩:=br I ry qy;unfold c4;exact⟨U1.str_tuple _ _ hy hu,UR.str_tuple _ _ hy hu,UP.str_tuple _ _ hy hu⟩
  |dic ks ds=>exact absurd rfl (d2 ks ds)|exc c=>exact absurd rfl (x2 c)|ob k c=>exact absurd rfl (o2 k c)
 |lst x =>
  cases y with
  |non =>
   obtain⟨lx,_,_,rfl,rfl,_,_,_,hx,_⟩:=bg I rx qx;obtain rfl:=aV.mp ry;obtain rfl:b=Vv:=qy;unfold c4;exact⟨U1.list_none  hx hu,UR.list_none  hx hu,UP.list_none  hx hu⟩
  |bl y =>
   obtain⟨lx,_,_,rfl,rfl,_,_,_,hx,_⟩:=bg I rx qx;obtain rfl:=aL.mp ry;obtain rfl:b=Vw _:=qy;unfold c4;exact⟨U1.list_bool _ hx hu,UR.list_bool _ hx hu,UP.list_bool _ hx hu⟩
  |int y =>
   obtain⟨lx,_,_,rfl,rfl,_,_,_,hx,_⟩:=bg I rx qx;obtain rfl:=az.mp ry;obtain⟨ty,rfl⟩:∃t,b=VM _ t:=qy;unfold c4;exact⟨U1.list_int _ _ hx hu,UR.list_int _ _ hx hu,UP.list_int _ _ hx hu⟩
  |str y =>
   obtain⟨lx,_,_,rfl,rfl,_,_,_,hx,_⟩:=bg I rx qx;obtain rfl:=Rep.str_iff.mp ry;obtain⟨ty,rfl⟩:∃t,b=VL _ t:=qy;unfold c4;exact⟨U1.list_str _ _ hx hu,UR.list_str _ _ hx hu,UP.list_str _ _ hx hu⟩
  |lst y =>
   exact absurd ⟨rfl,rfl⟩ (n1 x y)
  |tup y =>
   obtain⟨lx,_,_,rfl,rfl,_,_,_,hx,_⟩:=bg I rx qx;obtain⟨ly,_,_,rfl,rfl,_,_,_,hy,_⟩:=br I ry qy;unfold c4;exact⟨U1.list_tuple  hx hy hu,UR.list_tuple  hx hy hu,UP.list_tuple  hx hy hu⟩
  |dic ks ds=>exact absurd rfl (d2 ks ds)|exc c=>exact absurd rfl (x2 c)|ob k c=>exact absurd rfl (o2 k c)
 |tup x =>
  cases y with
  |non =>
   obtain⟨lx,_,_,rfl,rfl,_,_,_,hx,_⟩:=br I rx qx;obtain rfl:=aV.mp ry;obtain rfl:b=Vv:=qy;unfold c4;exact⟨U1.tuple_none  hx hu,UR.tuple_none  hx hu,UP.tuple_none  hx hu⟩
  |bl y =>
   obtain⟨lx,_,_,rfl,rfl,_,_,_,hx,_⟩:=br I rx qx;obtain rfl:=aL.mp ry;obtain rfl:b=Vw _:=qy;unfold c4;exact⟨U1.tuple_bool _ hx hu,UR.tuple_bool _ hx hu,UP.tuple_bool _ hx hu⟩
  |int y =>
   obtain⟨lx,_,_,rfl,rfl,_,_,_,hx,_⟩:=br I rx qx;obtain rfl:=az.mp ry;obtain⟨ty,rfl⟩:∃t,b=VM _ t:=qy;unfold c4;exact⟨U1.tuple_int _ _ hx hu,UR.tuple_int _ _ hx hu,UP.tuple_int _ _ hx hu⟩
  |str y =>
   obtain⟨lx,_,_,rfl,rfl,_,_,_,hx,_⟩:=br I rx qx;obtain rfl:=Rep.str_iff.mp ry;obtain⟨ty,rfl⟩:∃t,b=VL _ t:=qy;unfold c4;exact⟨U1.tuple_str _ _ hx hu,UR.tuple_str _ _ hx hu,UP.tuple_str _ _ hx hu⟩
  |lst y =>
   obtain⟨lx,_,_,rfl,rfl,_,_,_,hx,_⟩:=br I rx qx;obtain⟨ly,_,_,rfl,rfl,_,_,_,hy,_⟩:=bg I ry qy;unfold c4;exact⟨U1.tuple_list  hx hy hu,UR.tuple_list  hx hy hu,UP.tuple_list  hx hy hu⟩
  |tup y =>
   exact absurd ⟨rfl,rfl⟩ (n2 x y)
  |dic ks ds=>exact absurd rfl (d2 ks ds)|exc c=>exact absurd rfl (x2 c)|ob k c=>exact absurd rfl (o2 k c)
 |dic ks ds=>exact absurd rfl (d1 ks ds)
 |exc c=>exact absurd rfl (x1 c)
 |ob k c=>exact absurd rfl (o1 k c)
theorem NC(I:Inv X pins σ H s):∀(n:Nat) (A:Around),A.units+n<cLine->∀(x y:D) (v u:V) (a b:Value),bA n x=true->bA n y=true->Rep X.K H x v->Rep X.K H y u->bu v a->bu u b ->
  U1 A s a b (c4 x y)/\UR A s a b (c4 x y)/\UP A s a b (!(c4 x y)):=by
 have nd:∀m ks ds,bA m (.dic ks ds)=true->False:=λm ks ds h=>by cases m<;>(unfold bA at h;cases h)
 have nx:∀m x,bA m (.exc x)=true->False:=λm x h=>by cases m<;>(unfold bA at h;cases h)
 have nb:∀m k x,bA m (.ob k x)=true->False:=λm k x h=>by cases m<;>(unfold bA at h;cases h)
 intro n
 induction n with
 |zero =>
  intro A hu x y v u a b sx sy rx ry qa qb;refine zd I (by omega) rx ry qa qb (λds ds' z=>?_) (λds ds' z=>?_) (λks ds z=>?_) (λks ds z=>?_) (λc z=>nx _ _ (z▸sx)) (λc z=>nx _ _ (z▸sy)) (λk c z=>nb _ _ _ (z▸sx)) (λk c z=>nb _ _ _ (z▸sy))
  .rw[z.1] at sx;unfold bA at sx;cases sx
  .rw[z.1] at sx;unfold bA at sx;cases sx
  .rw[z] at sx;exact nd _ _ _ sx
  .rw[z] at sy;exact nd _ _ _ sy
 |succ n ih =>
  intro A hu x y v u a b sx sy rx ry qa qb;have ih':∀(x y:D) (v u:V) (a b:Value),bA n x=true->bA n y=true->Rep X.K H x v->Rep X.K H y u->bu v a->bu u b->UR A.in1 s a b (c4 x y) :=
   λx y v u a b s1 s2 r1 r2 q1 q2=>(ih A.in1 (by show A.units+1+n<cLine;omega) x y v u a b s1 s2 r1 r2 q1 q2).2.1
  by_cases t1:∃ds ds',x=.tup ds/\y=.tup ds'
  .obtain⟨xs,ys,rfl,rfl⟩:=t1
   obtain⟨l,vs,is,rfl,rfl,h1,h2,h3,h4,h5⟩:=br I rx qa;obtain⟨m,us,js,rfl,rfl,k1,k2,k3,k4,k5⟩:=br I ry qb;have hsx:=sx;have hsy:=sy;unfold bA at sx sy;have each:=Aa (A:=A) ih' sx sy h2 k2 h3 k3;have eall:c4 (.tup xs) (.tup ys)=((VO (min is.toArray.size js.toArray.size)).all (λj=>c4 (xs.getD j .non) (ys.getD j .non))&&is.toArray.size==js.toArray.size):=by
    rw[Lx];simp only[UK,←h5,←k5]
    by_cases hl:xs.length=ys.length
    .rw[lR xs ys hl,←hl,Nat.min_self,beq_self_eq_true,Bool.and_true]
    .rw[uf xs ys hl,beq_eq_false_iff_ne.mpr hl,Xm]
   refine⟨?_,?_,?_⟩
   .rw[eall];exact U1.tuples h4 k4 (by omega) each
   .by_cases hlm:l=m
    .subst hlm
     rw[Rep.inj I (n+1) _ _ _ hsx hsy rx ry,ku (n+1) _ hsy];exact XY _
    .refine Xt hlm ?_
     rw[eall];exact U1.tuples h4 k4 (by omega) each
   .rw[eall];exact UP.tuples h4 k4 (by omega) each
  .by_cases t2:∃ds ds',x=.lst ds/\y=.lst ds'
   .obtain⟨xs,ys,rfl,rfl⟩:=t2
    obtain⟨l,vs,is,rfl,rfl,h1,h2,h3,h4,h5⟩:=bg I rx qa;obtain⟨m,us,js,rfl,rfl,k1,k2,k3,k4,k5⟩:=bg I ry qb;have hsx:=sx;have hsy:=sy;unfold bA at sx sy;have each:=Aa (A:=A) ih' sx sy h2 k2 h3 k3
    by_cases hl:xs.length=ys.length
    .have hsz:is.toArray.size=js.toArray.size:=by simp only[UK];omega
     have eall:c4 (.lst xs) (.lst ys)=(VO is.toArray.size).all (λj=>c4 (xs.getD j .non) (ys.getD j .non)):=by
      rw[Dw];simp only[UK,←h5];exact lR xs ys hl
     refine⟨?_,?_,?_⟩
     .rw[eall];exact U1.lists h4 k4 hsz (by omega) each
     .by_cases hlm:l=m
      .subst hlm
       rw[Rep.inj I (n+1) _ _ _ hsx hsy rx ry,ku (n+1) _ hsy];exact XY _
      .refine Xt hlm ?_
       rw[eall];exact U1.lists h4 k4 hsz (by omega) each
     .rw[eall];exact UP.lists h4 k4 hsz (by omega) each
    .have hsz:(is.toArray.size != js.toArray.size)=true:=by simp only[UK,bne_iff_ne,ne_eq];omega
     have eall:c4 (.lst xs) (.lst ys)=false:=by rw[Dw];exact uf xs ys hl
     rw[eall];refine⟨Ye h4 k4 hsz (by omega),?_,UP.lists_lengths h4 k4 hsz (by omega)⟩;refine Xt (λe=>?_) (Ye h4 k4 hsz (by omega));subst e;have:=Rep.inj I (n+1) _ _ _ hsx hsy rx ry;cases this;exact hl rfl
   .exact zd I (by omega) rx ry qa qb (λds ds' z=>t2 ⟨ds,ds',z⟩) (λds ds' z=>t1 ⟨ds,ds',z⟩) (λks ds z=>by rw[z] at sx;exact nd _ _ _ sx) (λks ds z=>by rw[z] at sy;exact nd _ _ _ sy) (λc z=>nx _ _ (z▸sx)) (λc z=>nx _ _ (z▸sy)) (λk c z=>nb _ _ _ (z▸sx)) (λk c z=>nb _ _ _ (z▸sy))
end
section
variable {X:Cx}{E:XK}
noncomputable def kF(x y:D):ai D:=if bA 40 x=true/\bA 40 y=true then .ok (.bl (c4 x y)) else .stuck
noncomputable def ll(x y:D):ai D:=if bA 40 x=true/\bA 40 y=true then .ok (.bl (!(c4 x y))) else .stuck
noncomputable def P6(K:Up):R2:=λv u H Q=>∃x y,Rep K H x v/\Rep K H y u/\bA 40 x=true/\bA 40 y=true/\Q (.bl (c4 x y)) H
noncomputable def NG(K:Up):R2:=λv u H Q=>∃x y,Rep K H x v/\Rep K H y u/\bA 40 x=true/\bA 40 y=true/\Q (.bl (!(c4 x y))) H
theorem cq(hu:X.A.units+64<cLine):eh X (compareOp .Eq) (P6 X.K):=by
 intro pins s σ H x y v u Q I rx ry h;obtain⟨d,d',h1,h2,s1,s2,q⟩:=h;exact(NC I 40 X.A (by omega) d d' x y v u s1 s2 h1 h2 rx ry).1 _ _ _ _ ⟨.bl _,H,I,rfl,q⟩
theorem jb(hu:X.A.units+64<cLine):eh X (compareOp .NotEq) (NG X.K):=by
 intro pins s σ H x y v u Q I rx ry h;obtain⟨d,d',h1,h2,s1,s2,q⟩:=h;exact(NC I 40 X.A (by omega) d d' x y v u s1 s2 h1 h2 rx ry).2.2 _ _ _ _ ⟨.bl _,H,I,rfl,q⟩
theorem dr:qT X.K E (P6 X.K) kF:=by
 intro x y v u H Ha Q hs r1 r2 q;unfold kF at q
 by_cases c:bA 40 x=true/\bA 40 y=true
 .rw[if_pos c] at q
  exact⟨x,y,r1.mono hs,r2.mono hs,c.1,c.2,q _ H Ha (bp.refl hs) (aL.mpr rfl)⟩
 .rw[if_neg c] at q;exact q.elim
theorem mz:qT X.K E (NG X.K) ll:=by
 intro x y v u H Ha Q hs r1 r2 q;unfold ll at q
 by_cases c:bA 40 x=true/\bA 40 y=true
 .rw[if_pos c] at q
  exact⟨x,y,r1.mono hs,r2.mono hs,c.1,c.2,q _ H Ha (bp.refl hs) (aL.mpr rfl)⟩
 .rw[if_neg c] at q;exact q.elim
open Classical in
noncomputable def lj(K:Up) (H:Hp) (ds:List D) (x:D) (u:Value):Bool :=
 if h:∃d,d∈ds/\∃v,Rep K H d v/\bu v u then c4 h.choose x else false
theorem Dv(I:Inv X pins σ H s)(sd:ds.all (bA 40)=true)(hd:d∈ds)(r:Rep X.K H d v)(q:bu v u):lj X.K H ds x u=c4 d x:=by
 have h:∃d,d∈ds/\∃v,Rep X.K H d v/\bu v u:=⟨d,hd,v,r,q⟩
 unfold lj;rw[dif_pos h];obtain⟨h1,v',h2,h3⟩:=h.choose_spec;have e:v'=v:=h3.inj q;subst e;rw[Rep.inj I 40 _ _ _ (U7.mp sd _ h1) (U7.mp sd _ hd) h2 r]
noncomputable def Bp(K:Up) (neg:Bool):R2:=λv u H Q=>∃x ds,Rep K H x v/\(Rep K H (.lst ds) u∨Rep K H (.tup ds) u)/\bA 40 x=true/\ds.all (bA 40)=true/\Q (.bl (if neg then !(ds.any λd=>c4 d x) else ds.any λd=>c4 d x)) H
theorem kM{pins:List (Addr×Obj)}{σ:L2.St}{H:Hp}{s:Shared}(I:Inv X pins σ H s){x:D}{es:List D}(se:es.all (bA 40)=true):∀{ds:List D}{vs:List V}{us:List Value},(∀d∈ds,d∈es)->Reps X.K H ds vs->bH vs us->us.any (lj X.K H es x)=ds.any λd=>c4 d x
 |[],_,_,_,h,q=>by
  rw[Reps.nil_iff.mp h] at q;cases q;rfl
 |d::ds,_,_,hm,h,q=>by
  obtain⟨v,r,rfl,h1,h2⟩:=aJ.mp h;cases q with
  |cons q1 q2 =>
   rw[Wb,Wb,Dv I se (hm d UM) h1 q1,kM I se (λx hx=>hm x (Uu _ hx)) h2 q2]
theorem iN{pins:List (Addr×Obj)}{σ:L2.St}{H:Hp}{s:Shared}(I:Inv X pins σ H s)(hu:X.A.units+64<cLine){x:D}{v:V}{u:Value}(sx:bA 40 x=true)(rx:Rep X.K H x v)(qx:bu v u){es:List D}(se:es.all (bA 40)=true):∀{ds:List D}{vs:List V}{us:List Value},(∀d∈ds,d∈es)->Reps X.K H ds vs->bH vs us->∀y∈us,UR X.A.in1 s y u (lj X.K H es x y)
 |[],_,_,_,h,q=>λy hy=>by
  rw[Reps.nil_iff.mp h] at q;cases q;cases hy
 |d::ds,_,_,hm,h,q=>λy hy=>by
  obtain⟨w,r,rfl,h1,h2⟩:=aJ.mp h;cases q with
  |cons q1 q2 =>
   rcases Uv.mp hy with rfl|hy
   .rw[Dv I se (hm d UM) h1 q1]
    exact(NC I 40 X.A.in1 (by show X.A.units+1+40<cLine;omega) d x w v _ u (U7.mp se _ (hm d UM)) sx h1 rx q1 qx).2.1
   .exact iN I hu sx rx qx se (λx hx=>hm x (Uu _ hx)) h2 q2 y hy
theorem NZ(hu:X.A.units+64<cLine):eh X (compareOp .In) (Bp X.K false):=by
 intro pins s σ H x y v u Q I rx ry h;obtain⟨d,ds,h1,h2,s1,s2,q⟩:=h;rcases h2 with h2|h2
 .obtain⟨a,vs,its,rfl,rfl,k1,k2,k3,k4,k5⟩:=bg I h2 ry
  refine SeqAt.in_listAt (lj X.K H ds d) k4 (λw hw=>iN I hu s1 h1 rx s2 (λ_ z=>z) k2 k3 w (by simpa using hw)) ⟨.bl _,H,I,rfl,?_⟩;rw[show its.toArray.any (lj X.K H ds d)=its.any (lj X.K H ds d) by simp,kM I s2 (λ_ z=>z) k2 k3];exact q
 .obtain⟨a,vs,its,rfl,rfl,k1,k2,k3,k4,k5⟩:=br I h2 ry
  refine SeqAt.in_tupleAt (lj X.K H ds d) k4 (λw hw=>iN I hu s1 h1 rx s2 (λ_ z=>z) k2 k3 w (by simpa using hw)) ⟨.bl _,H,I,rfl,?_⟩;rw[show its.toArray.any (lj X.K H ds d)=its.any (lj X.K H ds d) by simp,kM I s2 (λ_ z=>z) k2 k3];exact q
theorem Fh(hu:X.A.units+64<cLine):eh X (compareOp .NotIn) (Bp X.K true):=by
 intro pins s σ H x y v u Q I rx ry h;obtain⟨d,ds,h1,h2,s1,s2,q⟩:=h;rcases h2 with h2|h2
 .obtain⟨a,vs,its,rfl,rfl,k1,k2,k3,k4,k5⟩:=bg I h2 ry
  refine SeqAt.notIn_listAt (lj X.K H ds d) k4 (λw hw=>iN I hu s1 h1 rx s2 (λ_ z=>z) k2 k3 w (by simpa using hw)) ⟨.bl _,H,I,rfl,?_⟩;rw[show its.toArray.any (lj X.K H ds d)=its.any (lj X.K H ds d) by simp,kM I s2 (λ_ z=>z) k2 k3];exact q
 .obtain⟨a,vs,its,rfl,rfl,k1,k2,k3,k4,k5⟩:=br I h2 ry
  refine SeqAt.notIn_tupleAt (lj X.K H ds d) k4 (λw hw=>iN I hu s1 h1 rx s2 (λ_ z=>z) k2 k3 w (by simpa using hw)) ⟨.bl _,H,I,rfl,?_⟩;rw[show its.toArray.any (lj X.K H ds d)=its.any (lj X.K H ds d) by simp,kM I s2 (λ_ z=>z) k2 k3];exact q
noncomputable def Qt(i j:Str):Bool:=!(V4 j i 0 j.length 1).isEmpty
noncomputable def JQ(x y:D):Option Bool:=match y with
 |.lst ds=>if bA 40 x=true/\ds.all (bA 40)=true then some (ds.any λd=>c4 d x) else none
 |.tup ds=>if bA 40 x=true/\ds.all (bA 40)=true then some (ds.any λd=>c4 d x) else none
 |.str j=>match x with
  |.str i=>some (Qt i j)
  |_=>none
 |_=>none
noncomputable def D9(x y:D):ai D:=match JQ x y with
 |some b=>.ok (.bl b)
 |none=>.stuck
noncomputable def cY(x y:D):ai D:=match JQ x y with
 |some b=>.ok (.bl (!b))
 |none=>.stuck
noncomputable def Hk(neg:Bool):R2:=λx y H Q=>∃i j,x=.str i/\y=.str j/\Q (.bl (if neg then !(Qt i j) else Qt i j)) H
theorem zv(hu:X.A.units+64<cLine):eh X (compareOp .In) (λv u H Q=>Bp X.K false v u H Q∨Hk false v u H Q):=eh.or (NZ hu) (by
 intro pins s σ H x y v u Q I rx ry h;obtain⟨i,j,rfl,rfl,q⟩:=h;exact Fi pins s σ H _ _ v u Q I rx ry ⟨i,j,rfl,rfl,q⟩)
theorem mq(hu:X.A.units+64<cLine):eh X (compareOp .NotIn) (λv u H Q=>Bp X.K true v u H Q∨Hk true v u H Q):=eh.or (Fh hu) (by
 intro pins s σ H x y v u Q I rx ry h;obtain⟨i,j,rfl,rfl,q⟩:=h;exact xt pins s σ H _ _ v u Q I rx ry ⟨i,j,rfl,rfl,q⟩)
theorem zF(hs:aB Ha H)(r1:Rep X.K Ha x v)(r2:Rep X.K Ha y u)
  (q:post X.K E H Ha (match JQ x y with|some b=>.ok (.bl (if neg then !b else b))|none=>.stuck) Q):Bp X.K neg v u H Q∨Hk neg v u H Q:=by
 cases y with
 |lst ds =>
  simp only[JQ] at q
  by_cases c:bA 40 x=true/\ds.all (bA 40)=true
  .rw[if_pos c] at q
   exact .inl ⟨x,ds,r1.mono hs,.inl (r2.mono hs),c.1,c.2,q _ H Ha (bp.refl hs) (aL.mpr rfl)⟩
  .rw[if_neg c] at q;exact q.elim
 |tup ds =>
  simp only[JQ] at q
  by_cases c:bA 40 x=true/\ds.all (bA 40)=true
  .rw[if_pos c] at q
   exact .inl ⟨x,ds,r1.mono hs,.inr (r2.mono hs),c.1,c.2,q _ H Ha (bp.refl hs) (aL.mpr rfl)⟩
  .rw[if_neg c] at q;exact q.elim
 |str j =>
  cases x with|str i=>exact .inr ⟨i,j,Rep.str_iff.mp r1,Rep.str_iff.mp r2,q _ H Ha (bp.refl hs) (aL.mpr rfl)⟩| _=>exact q.elim
 |_=>exact q.elim
theorem zG:qT X.K E (λv u H Q=>Bp X.K false v u H Q∨Hk false v u H Q) D9:=λx y v u H Ha Q hs r1 r2 q=>zF (neg:=false) (E:=E) hs r1 r2 (by
 unfold D9 at q;cases e:JQ x y with
 |none=>rw[e] at q;exact q
 |some b=>rw[e] at q;exact q)
theorem my:qT X.K E (λv u H Q=>Bp X.K true v u H Q∨Hk true v u H Q) cY:=λx y v u H Ha Q hs r1 r2 q=>zF (neg:=true) (E:=E) hs r1 r2 (by
 unfold cY at q;cases e:JQ x y with
 |none=>rw[e] at q;exact q
 |some b=>rw[e] at q;exact q)
end
@[irreducible] def B9:Nat:=2 ^ 9000
@[irreducible] def qV:Nat:=2 ^ 13500
@[irreducible] def Gi:Nat:=2 ^ 60000
theorem En:B9=2 ^ 9000:=by unfold B9;rfl
theorem pw:qV=2 ^ 13500:=by unfold qV;rfl
theorem pv:Gi=2 ^ 60000:=by unfold Gi;rfl
theorem rY{n k:Nat}(h:n<2 ^ k)(hk:0<k):n.log2<k:=by
 by_cases h0:n=0
 .rw[h0]
  have:Nat.log2 0=0:=by decide
  omega
 .exact(Nat.log2_lt h0).mpr h
theorem Qw(h:y.natAbs<B9):V9 x y=false:=by
 rw[En] at h;exact PyProof.noPylong_of_log2 (rY h (by omega))
theorem N2(h:x.natAbs<qV):V9 x y=false:=by
 rw[pw] at h;have hx:x.natAbs.log2<13500:=rY h (by omega);show(decide ((if y==0 then 0 else y.natAbs.log2 / 30+1) > 300)&&decide ((if x==0 then 0 else x.natAbs.log2 / 30+1) > (if y==0 then 0 else y.natAbs.log2 / 30+1)+150))=false;have k:(if x==0 then 0 else x.natAbs.log2 / 30+1)<=450:=by
  by_cases hx0:(x==0)=true
  .rw[if_pos hx0];omega
  .rw[if_neg hx0];omega
 by_cases c:(if y==0 then 0 else y.natAbs.log2 / 30+1) > 300
 .rw[YE];right;exact decide_eq_false (by omega)
 .rw[YE];left;exact decide_eq_false c
noncomputable def eV(i j:Int):Bool:=decide (j≠0)&&(decide (j.natAbs<B9)||decide (i.natAbs<qV))
noncomputable def dX(i j:Int):Bool:=decide (i.natAbs<Gi)&&decide (j.natAbs<Gi)
theorem eV.ok(h:eV i j=true):j≠0/\V9 i j=false:=by
 unfold eV at h;rw[UU,X3] at h;refine⟨of_decide_eq_true h.1,?_⟩;rcases h.2 with h|h
 .exact Qw (of_decide_eq_true h)
 .exact N2 (of_decide_eq_true h)
theorem dX.ok(h:dX i j=true):IntMulOk i j:=by
 unfold dX at h;rw[UU] at h;have h1:=of_decide_eq_true h.1;have h2:=of_decide_eq_true h.2;rw[pv] at h1 h2;exact PyProof.Rows.mulOk_of_bits (m:=60000) (n:=60000) (YK.mpr h1) (YK.mpr h2) (by decide)
section
variable {X:Cx}{E:XK}{e a b c:Expr}{es:List Expr}{f g k:Ev->ai D}{fa:Ev->ai (List D)}{pos:Pos}
theorem bj{K:Up}(hs:aB Ha H)(q:post K E H Ha (.ok d) Q)(r:Rep K Ha d v):Q v H:=q v H Ha (bp.refl hs) r
noncomputable def Ab(c:Int->Int->Bool) (g:Int->Int->D) (x y:D):ai D:=match x,y with
 |.int i,.int j=>if c i j=true then .ok (g i j) else .stuck
 |_,_=>.stuck
theorem xA{c:Int->Int->Bool}{g:Int->Int->D}(hc:∀i j,c i j=true->C i j)(hg:∀K H i j,Rep K H (g i j) (gv i j)):qT X.K E (rI C gv) (Ab c g):=by
 intro x y v u H Ha Q hs r1 r2 q;unfold Ab at q;cases x with
 |int i =>
  cases y with
  |int j =>
   by_cases h:c i j=true
   .simp only[if_pos h] at q
    exact⟨i,j,az.mp r1,az.mp r2,hc i j h,bj hs q (hg _ _ i j)⟩
   .simp only[if_neg h] at q;exact q.elim
  |_=>exact q.elim
 |_=>exact q.elim
theorem dq{g:Int->Int->D}(hg:∀K H i j,Rep K H (g i j) (gv i j)):qT X.K E (JP gv) (Ab (λ_ _=>true) g):=by
 intro x y v u H Ha Q hs r1 r2 q;unfold Ab at q;cases x with
 |int i =>
  cases y with|int j=>simp only[if_pos] at q;exact⟨i,j,az.mp r1,az.mp r2,bj hs q (hg _ _ i j)⟩| _=>exact q.elim
 |_=>exact q.elim
theorem ri{K:Up}(n:Int):Rep K H (.int n) (.int n):=az.mpr rfl
theorem rb{K:Up}(n:Bool):Rep K H (.bl n) (.bl n):=aL.mpr rfl
noncomputable abbrev kE:=Ab (λ_ _=>true) λi j=>.int (i-j)
noncomputable abbrev nW:=Ab eV λi j=>.int (i.fdiv j)
noncomputable abbrev dk:=Ab (λ_ j=>decide (j≠0)) λi j=>.int (i.fmod j)
noncomputable abbrev qp:=Ab (λi j=>decide (0<=j)&&decide (j<=1000000)&&decide (i.natAbs<18446744073709551616)) λi j=>.int (i ^ j.toNat)
noncomputable abbrev Pf:=Ab (λ_ _=>true) λi j=>.bl (decide (i<j))
noncomputable abbrev OB:=Ab (λ_ _=>true) λi j=>.bl (decide (i<=j))
noncomputable abbrev JR:=Ab (λ_ _=>true) λi j=>.bl (decide (j<i))
noncomputable abbrev SO:=Ab (λ_ _=>true) λi j=>.bl (decide (j<=i))
theorem KW:eh X (binaryOp .Mult) (rI IntMulOk λi j=>.int (i*j)):=RO λ_ _ _ _ _ _ _ hc q=>mul_int q hc
theorem KY:eh X (binaryOp .FloorDiv) (rI (λi j=>j≠0/\V9 i j=false) λi j=>.int (i.fdiv j)):=RO λ_ _ _ _ _ _ _ hc q=>floordiv_int hc.1 q (.inl hc.2)
theorem lU(ha:DE X E a f)(hb:DE X E b g):DE X E (.BinOp a .Sub b pos) (ag f g kE):=ux NW (dq λ_ _ _ _=>ri _) ha hb
theorem kC(ha:DE X E a f)(hb:DE X E b g):DE X E (.BinOp a .FloorDiv b pos) (ag f g nW):=ux KY (xA (λ_ _ h=>eV.ok h) λ_ _ _ _=>ri _) ha hb
theorem fY(ha:DE X E a f)(hb:DE X E b g):DE X E (.BinOp a .Mod b pos) (ag f g dk):=ux CU (xA (λ_ _ h=>of_decide_eq_true h) λ_ _ _ _=>ri _) ha hb
theorem ym(ha:DE X E a f)(hb:DE X E b g):DE X E (.BinOp a .Pow b pos) (ag f g qp):=ux NX (xA (λi j h=>by
 rw[UU,UU] at h;exact⟨of_decide_eq_true h.1.1,of_decide_eq_true h.1.2,of_decide_eq_true h.2⟩) λ_ _ _ _=>ri _) ha hb
theorem nm(h1:op≠.In:=by decide)(h2:op≠.NotIn:=by decide):behindInMarks op b=false:=zI _ h1 h2
noncomputable def FX(x:D):ai D:=match x with
 |.int i=>.ok (.int (-i))
 |_=>.stuck
theorem B6(ha:DE X E a f):DE X E (.UnaryOp .USub a pos) (bM f FX):=Rg Nf (by
 intro x v H Ha Q hs r q;cases x with
 |int i=>exact⟨i,az.mp r,bj hs q (ri _)⟩
 |_=>exact q.elim) ha
theorem CV:eh X (binaryOp .Add) (λx y H Q=>∃l b xs zs,x=.ref l/\y=.ref b/\eC X.K H l xs/\eC X.K H b zs/\xs.length+zs.length<=sizeLine/\∀p,H p=none->Q (.ref p) (upd H p (.lst (xs++zs)))):=by
 intro pins s σ H x y v u Q I rx ry h;obtain⟨l,b,xs,zs,rfl,rfl,hH,hB,hz,q⟩:=h;cases rx;cases ry;obtain⟨its,r,pl,z⟩:=I.list hH;obtain⟨its2,r2,pl2,z2⟩:=I.list hB;obtain⟨⟨cls,dd,data,sl⟩,ho,hc,n,hd⟩:=pl.isList;obtain⟨⟨cls2,dd2,data2,sl2⟩,ho2,hc2,n2,hd2⟩:=pl2.isList;simp only at hc hd hc2 hd2;subst hc hd hc2 hd2;have e:its.toArray++its2.toArray=(its++its2).toArray:=by simp
 have l1:=r.length;have l2:=r2.length;refine concat_meets ⟨_,ho,rfl⟩ ⟨_,ho2,rfl⟩ noFill_list_add seq_list_add PySem.F.slot_list_add PySem.F.entry_list_add (PySem.F.args_list_add_2 _ _) (list_addW l b its.toArray its2.toArray n n2 dd dd2 sl sl2 (by simp only[UK];omega)) ⟨ho,ho2,?_⟩;rw[e];exact⟨.ref _,_,I.lnew (t':=s.toks) (r.append r2) (by rw[U6];omega),rfl,q _ I.fresh⟩
noncomputable def bV(x y:D):ai D:=match x,y with
 |.int i,.int j=>.ok (.int (i+j))
 |.str i,.str j=>if i.length+j.length<=line then .ok (.str (i++j)) else .stuck
 |.lst ds,.lst es=>if ds.length+es.length<=line then .ok (.lst (ds++es)) else .stuck
 |.tup ds,.tup es=>if ds.isEmpty=false/\ds.length+es.length<=line then .ok (.tup (ds++es)) else .stuck
 |_,_=>.stuck
theorem cQ(ha:DE X E a f)(hb:DE X E b g):DE X E (.BinOp a .Add b pos) (ag f g bV):=ux (eh.or HK (eh.or rO (eh.or CV xu))) (by
 intro x y v u H Ha Q hs r1 r2 q;unfold bV at q;cases x with
 |int i =>
  cases y with|int j=>exact .inl ⟨i,j,az.mp r1,az.mp r2,bj hs q (ri _)⟩| _=>exact q.elim
 |str i =>
  cases y with
  |str j =>
   by_cases h:i.length+j.length<=line
   .simp only[if_pos h] at q
    exact .inr (.inl ⟨i,j,Rep.str_iff.mp r1,Rep.str_iff.mp r2,cF h,bj hs q (Rep.str_iff.mpr rfl)⟩)
   .simp only[if_neg h] at q;exact q.elim
  |_=>exact q.elim
 |lst ds =>
  cases y with
  |lst es =>
   by_cases h:ds.length+es.length<=line
   .simp only[if_pos h] at q
    obtain⟨l,vs,rfl,h1,h2⟩:=aH.mp r1;obtain⟨m,us,rfl,k1,k2⟩:=aH.mp r2;refine .inr (.inr (.inl ⟨l,m,vs,us,rfl,rfl,aB.sqL hs h1,aB.sqL hs k1,by rw[←h2.length,←k2.length];exact cF h,λp hp=>?_⟩));exact q _ _ _ (aO hs hp) (aH.mpr ⟨p,_,rfl,eC.of aw,(h2.app k2).mono (aO hs hp).z⟩)
   .simp only[if_neg h] at q;exact q.elim
  |_=>exact q.elim
 |tup ds =>
  cases y with
  |tup es =>
   by_cases h:ds.isEmpty=false/\ds.length+es.length<=line
   .simp only[if_pos h] at q
    obtain⟨l,vs,rfl,h1,h2⟩:=aM.mp r1;obtain⟨m,us,rfl,k1,k2⟩:=aM.mp r2;refine .inr (.inr (.inr ⟨l,m,vs,us,rfl,rfl,aB.sqT hs h1,aB.sqT hs k1,λz=>?_,by rw[←h2.length,←k2.length];exact cF h.2,λz=>?_,λz p hp=>?_⟩))
    .have:=h2.length
     rw[z] at this;have e:ds=[]:=VR.mp this;rw[e] at h;exact absurd h.1 (by decide)
    .have:=k2.length
     rw[z] at this;have e:es=[]:=VR.mp this;rw[e,UT] at q;exact bj hs q r1
    .exact q _ _ _ (aO hs hp) (aM.mpr ⟨p,_,rfl,jK.of aw,(h2.app k2).mono (aO hs hp).z⟩)
   .simp only[if_neg h] at q;exact q.elim
  |_=>exact q.elim
 |_=>exact q.elim) ha hb
noncomputable def bf(x y:D):ai D:=match y with
 |.int i=>match x with
  |.lst ds=>match atI ds i with
   |some d=>.ok d
   |none=>.stuck
  |.tup ds=>match atI ds i with
   |some d=>.ok d
   |none=>.stuck
  |.str z=>if z.length<=line then match atI z.cps.toList i with
   |some c=>.ok (.str ⟨#[c]⟩)
   |none=>.stuck else .stuck
  |_=>.stuck
 |_=>.stuck
theorem Reps.atI{K:Up}(h:Reps K H ds vs)(e:atI ds i=some d):∃v,L2.atI vs i=some v/\Rep K H d v:=by
 unfold L2.atI at e ⊢;rw[←h.length];cases q:BP ds.length i with
 |none=>rw[q] at e;cases e
 |some j =>
  rw[q] at e;exact h.get e
theorem Mz:qT X.K E (To X.K) bf:=by
 intro x y v u H Ha Q hs r1 r2 q;unfold bf at q;cases y with
 |int i =>
  cases x with
  |lst ds =>
   obtain⟨l,vs,rfl,h1,h2⟩:=aH.mp r1;cases e:atI ds i with
   |none=>simp only[e] at q;exact q.elim
   |some d =>
    simp only[e] at q;obtain⟨w,e1,e2⟩:=h2.atI e;exact .inl ⟨l,vs,i,w,rfl,az.mp r2,aB.sqL hs h1,e1,bj hs q e2⟩
  |tup ds =>
   obtain⟨l,vs,rfl,h1,h2⟩:=aM.mp r1;cases e:atI ds i with
   |none=>simp only[e] at q;exact q.elim
   |some d =>
    simp only[e] at q;obtain⟨w,e1,e2⟩:=h2.atI e;exact .inr (.inl ⟨l,vs,i,w,rfl,az.mp r2,aB.sqT hs h1,e1,bj hs q e2⟩)
  |str z =>
   by_cases hz:z.length<=line
   .simp only[if_pos hz] at q
    cases e:atI z.cps.toList i with
    |none=>simp only[e] at q;exact q.elim
    |some c =>
     simp only[e] at q;exact .inr (.inr ⟨z,i,c,Rep.str_iff.mp r1,az.mp r2,cF hz,e,bj hs q (Rep.str_iff.mpr rfl)⟩)
   .simp only[if_neg hz] at q;exact q.elim
  |_=>exact q.elim
 |_=>exact q.elim
theorem aA(ha:DE X E a f)(hb:DE X E b g)(hs:og b:=by intro _ _;rfl):DE X E (.Subscript a b pos) (ag f g bf):=Ri Ig Mz ha hb hs
noncomputable def du:Ev->ai (Option Int):=λ_=>.ok none
noncomputable def c9(f:Ev->ai D):Ev->ai (Option Int):=λρ=>(f ρ).bind λx=>match x with
 |.int i=>.ok (some i)
 |_=>.stuck
noncomputable def Sk(K:Up) (E:XK) (f:Ev->ai (Option Int)):TO:=λσ H Q=>∃Ha ρ,aB Ha H/\Reads K Ha σ ρ/\match f ρ with
 |.ok o=>∀H' Ha',bp H Ha H' Ha'->Q o H'
 |.exn x=>∀C ox H' Ha',bp H Ha H' Ha'->A3 K Ha' x C ox->E C ox H'
 |.stuck=>False
structure DO (X:Cx) (E:XK) (e:Option Expr) (f:Ev->ai (Option Int)):Prop where
 o:PO X e (Sk X.K E f)
theorem CJ(h:PO X eo t)(w:∀σ H Q,t' σ H Q->t σ H Q):PO X eo t':=λpins s σ H Q I q=>h pins s σ H Q I (w σ H Q q)
theorem eL:DO X E none du:=⟨CJ KI λσ H Q ⟨Ha,ρ,hs,hr,q⟩=>q H Ha (bp.refl hs)⟩
theorem eK(ha:DE X E a f):DO X E (some a) (c9 f):=by
 refine⟨?_⟩;refine CJ (KH ha.o) λσ H Q ⟨Ha,ρ,hs,hr,q⟩=>⟨Ha,ρ,hs,hr,?_⟩
 unfold c9 at q;cases e1:f ρ with
 |stuck|exn x=>rw[e1] at q;exact q
 |ok d =>
  rw[e1] at q;intro v H1 H01 g1 r1;cases d with|int i=>exact⟨i,az.mp r1,q H1 H01 g1⟩| _=>exact q.elim
noncomputable def jr(xs:List D) (lo hi:Option Int):List D:=(xs.drop (HT.sIx xs.length 0 lo)).take (HT.sIx xs.length xs.length hi-HT.sIx xs.length 0 lo)
theorem Reps.cut{K:Up}(h:Reps K H ds vs)(lo hi:Option Int):Reps K H (jr ds lo hi) (AQ vs lo hi):=by
 unfold jr AQ;rw[←h.length];exact(h.drop _).take _
theorem yW{lo hi:Ev->ai (Option Int)}{m:D->Option Int->Option Int->ai D}
  (ho:∀x v l h H Ha Q,aB Ha H->Rep X.K Ha x v->post X.K E H Ha (m x l h) Q->r v l h H Q)(σ:L2.St)(H:Hp)(Q:VK)
  (h:tD X.K E (λρ=>(f ρ).bind λx=>(lo ρ).bind λl=>(hi ρ).bind λh=>m x l h) σ H Q):Tg r (tD X.K E f) (Sk X.K E lo) (Sk X.K E hi) σ H Q:=by
 obtain⟨Ha,ρ,hs,hr,q⟩:=h;refine⟨Ha,ρ,hs,hr,?_⟩;replace q:post X.K E H Ha ((f ρ).bind λx=>(lo ρ).bind λl=>(hi ρ).bind λh=>m x l h) Q:=q;cases e1:f ρ with
 |stuck|exn x=>rw[e1] at q;exact q
 |ok x =>
  rw[e1] at q;intro v H1 H01 g1 r1;refine⟨H01,ρ,g1.sub,hr.mono g1.z,?_⟩;replace q:post X.K E H Ha ((lo ρ).bind λl=>(hi ρ).bind λh=>m x l h) Q:=q;replace q:=q.grow g1;cases e2:lo ρ with
  |stuck|exn x=>rw[e2] at q;exact q
  |ok l =>
   rw[e2] at q;intro H2 H02 g2;refine⟨H02,ρ,g2.sub,(hr.mono g1.z).mono g2.z,?_⟩;replace q:post X.K E H1 H01 ((hi ρ).bind λh=>m x l h) Q:=q;replace q:=q.grow g2;cases e3:hi ρ with
   |stuck|exn x=>rw[e3] at q;exact q
   |ok h =>
    rw[e3] at q;intro H3 H03 g3;exact ho x v l h H3 H03 Q g3.sub ((r1.mono g2.z).mono g3.z) (post.grow (r:=m x l h) q g3)
noncomputable def m1(m:D->ai D) (ds:List D):ai D:=match ds with
 |[x]=>m x
 |_=>.stuck
noncomputable def m2(m:D->D->ai D) (ds:List D):ai D:=match ds with
 |[x,y]=>m x y
 |_=>.stuck
theorem uK(h:∀x v H Ha Q,aB Ha H->Rep X.K Ha x v->post X.K E H Ha (m x) Q->r [v] H Q):gk X E r (m1 m):=by
 intro ds vs H Ha Q hs hr q;unfold m1 at q
 match ds,hr,q with
 |[x],hr,q =>
  obtain⟨v,r',rfl,h1,h2⟩:=aJ.mp hr;rw[Reps.nil_iff.mp h2];exact h x v H Ha Q hs h1 q
 |[],_,q=>exact q.elim
 |_::_::_,_,q=>exact q.elim
theorem MY(h:∀x y v u H Ha Q,aB Ha H->Rep X.K Ha x v->Rep X.K Ha y u->post X.K E H Ha (m x y) Q->r [v,u] H Q):gk X E r (m2 m):=by
 intro ds vs H Ha Q hs hr q;unfold m2 at q
 match ds,hr,q with
 |[x,y],hr,q =>
  obtain⟨v,r',rfl,h1,h2⟩:=aJ.mp hr;obtain⟨u,r'',rfl,h3,h4⟩:=aJ.mp h2;rw[Reps.nil_iff.mp h4];exact h x y v u H Ha Q hs h1 h3 q
 |[],_,q=>exact q.elim
 |[_],_,q=>exact q.elim
 |_::_::_::_,_,q=>exact q.elim
noncomputable def FY(x:D):ai D:=match x with
 |.int i=>.ok (.int (if i<0 then -i else i))
 |_=>.stuck
noncomputable def OA(x y:D):ai D:=match x,y with
 |.int i,.int j=>.ok (.int (if j > i then j else i))
 |_,_=>.stuck
noncomputable def fj(x:D):ai D:=match x with
 |.lst ds=>.ok (.int ds.length)
 |.tup ds=>.ok (.int ds.length)
 |.str z=>if z.length<=line then .ok (.int z.length) else .stuck
 |_=>.stuck
noncomputable def iA(x:D):ai D:=match x with
 |.int i=>.ok (.int i)
 |.bl b=>.ok (.int (if b then 1 else 0))
 |_=>.stuck
noncomputable def Jn(x:D):ai D:=match x with
 |.lst ds=>.ok (.lst ds)
 |.tup ds=>.ok (.lst ds)
 |_=>.stuck
theorem Ce:gk X E (λxs H Q=>∃i,xs=[.int i]/\Q (.int (if i<0 then -i else i)) H) (m1 FY):=uK λx v H Ha Q hs r q=>by
 cases x with|int i=>exact⟨i,by rw[az.mp r],bj hs q (ri _)⟩| _=>exact q.elim
theorem OH:gk X E (λxs H Q=>∃i j,xs=[.int i,.int j]/\Q (.int (if j > i then j else i)) H) (m2 OA):=MY λx y v u H Ha Q hs r r' q=>by
 cases x with
 |int i =>
  cases y with|int j=>exact⟨i,j,by rw[az.mp r,az.mp r'],bj hs q (ri _)⟩| _=>exact q.elim
 |_=>exact q.elim
theorem eg:gk X E (λxs H Q=>∃x n,xs=[x]/\RC X.K x H n/\Q (.int n) H) (m1 fj):=uK λx v H Ha Q hs r q=>by
 cases x with
 |lst ds =>
  obtain⟨p,vs,rfl,h1,h2⟩:=aH.mp r;refine⟨_,vs.length,rfl,.inl ⟨vs,aB.sqL hs h1,rfl⟩,?_⟩;rw[←h2.length];exact bj hs q (ri _)
 |tup ds =>
  obtain⟨p,vs,rfl,h1,h2⟩:=aM.mp r;refine⟨_,vs.length,rfl,.inr ⟨vs,aB.sqT hs h1,rfl⟩,?_⟩;rw[←h2.length];exact bj hs q (ri _)
 |str z =>
  unfold fj at q
  by_cases hz:z.length<=line
  .simp only[if_pos hz] at q
   rw[Rep.str_iff.mp r];exact⟨_,z.length,rfl,⟨cF hz,rfl⟩,bj hs q (ri _)⟩
  .simp only[if_neg hz] at q;exact q.elim
 |_=>exact q.elim
theorem Jq:gk X E (λxs H Q=>(∃i,xs=[.int i]/\Q (.int i) H)∨∃k,xs=[.bl k]/\Q (.int (if k then 1 else 0)) H) (m1 iA):=uK λx v H Ha Q hs r q=>by
 cases x with|int i=>exact .inl ⟨i,by rw[az.mp r],bj hs q (ri _)⟩|bl i=>exact .inr ⟨i,by rw[aL.mp r],bj hs q (ri _)⟩| _=>exact q.elim
theorem LZ:gk X E (λxs H Q=>∃p ys,xs=[.ref p]/\(eC X.K H p ys∨jK X.K H p ys)/\∀l,H l=none->Q (.ref l) (upd H l (.lst ys))) (m1 Jn):=uK λx v H Ha Q hs r q=>by
 cases x with
 |lst ds =>
  obtain⟨p,vs,rfl,h1,h2⟩:=aH.mp r;exact⟨p,vs,rfl,.inl (aB.sqL hs h1),λn hn=>q _ _ _ (aO hs hn) (aH.mpr ⟨n,_,rfl,eC.of aw,h2.mono (aO hs hn).z⟩)⟩
 |tup ds =>
  obtain⟨p,vs,rfl,h1,h2⟩:=aM.mp r;exact⟨p,vs,rfl,.inr (aB.sqT hs h1),λn hn=>q _ _ _ (aO hs hn) (aH.mpr ⟨n,_,rfl,eC.of aw,h2.mono (aO hs hn).z⟩)⟩
 |_=>exact q.elim
theorem kD(hc:gY X (.type T) r)(hd:gk X E r m)(hg:Gl X x)(hm:X.mg x=none)(hv:bootBuiltins x=some (.type T))(ha:DA X E (e::es) fa)(hn:x≠"__name__":=by decide)(hdb:(x==("__debug__":Str))=false:=by decide)
  (he:starEach (e::es) X.env=(false,eval e X.env)::starEach es X.env:=by exact aQ rfl)(hpl:(backTo pos (starEach es X.env)).any (·.1)=false:=by exact bB rfl):DE X E (.Call (.Name x p) (e::es) [] pos) (ao fa m) :=
 ⟨aX (Ff hc hg hm hv ha.o hn hdb he hpl) (k8 hd)⟩
noncomputable def vT:D->Bool
 |.non=>true
 |_=>false
noncomputable def iz(x y:D):ai D:=match y with
 |.non=>.ok (.bl (vT x))
 |_=>.stuck
noncomputable def pT(x y:D):ai D:=match y with
 |.non=>.ok (.bl (!(vT x)))
 |_=>.stuck
theorem Rep.is_non{K:Up}(r:Rep K H x v):decide (v=.non)=vT x:=by
 cases x with|non=>rw[aV.mp r];rfl|bl b=>rw[aL.mp r];rfl|int b=>rw[az.mp r];rfl|str b=>rw[Rep.str_iff.mp r];rfl|tup ds=>obtain⟨_,_,e,_⟩:=aM.mp r;rw[e];rfl|lst ds=>obtain⟨_,_,e,_⟩:=aH.mp r;rw[e];rfl|dic ks ds=>rw[Rep] at r;obtain⟨_,_,_,e,_⟩:=r;rw[e];rfl|exc x=>obtain⟨_,_,_,e,_⟩:=eB.mp r;rw[e];rfl|ob k x=>obtain⟨_,_,e,_⟩:=gW.mp r;rw[e];rfl
theorem jY:qT X.K E (λx y H Q=>y=.non/\Q (.bl (decide (x=.non))) H) iz:=by
 intro x y v u H Ha Q hs r1 r2 q;unfold iz at q;cases y with|non=>exact⟨aV.mp r2,by rw[r1.is_non];exact bj hs q (rb _)⟩| _=>exact q.elim
theorem CW:qT X.K E (λx y H Q=>y=.non/\Q (.bl (!decide (x=.non))) H) pT:=by
 intro x y v u H Ha Q hs r1 r2 q;unfold pT at q;cases y with
 |non =>
  refine⟨aV.mp r2,?_⟩;rw[r1.is_non];exact bj hs q (rb _)
 |_=>exact q.elim
noncomputable def A6:D->String
 |.non=>"NoneType"
 |.bl _=>"bool"
 |.int _=>"int"
 |.str _=>"str"
 |.tup _=>"tuple"
 |.lst _=>"list"
 |.dic _ _=>"dict"
 |.exc _=>"<exc>"
 |.ob (.ins _ _) _=>"<exc>"
 |.ob (.dint _) _=>"dict"
 |.ob (.exf _ _) _=>"<exc>"
noncomputable def eS(T:String) (x:D):ai D:=.ok (.bl (A6 x==T||(A6 x=="bool"&&T=="int")))
noncomputable def uY(K:Up) (T:String):Prop:=∀S,S∈["NoneType","bool","int","str","tuple","list","dict"]->Xh K (.type S) (.type T)=some (S==T||(S=="bool"&&T=="int"))
theorem Ih(I:Inv X pins σ H s)(r:Rep X.K H x v)(q:bu v u)(hk:uY X.K T)(hT:T∈f9)(h:∀tk,Q (.bool (A6 x==T||(A6 x=="bool"&&T=="int"))) { s with toks:=tk }) :
  wpAny (model X.prog X.w) A (call (.builtin "isinstance") [u,.type T]) Q X.xe s:=by
 cases x with
 |non=>rw[aV.mp r] at q;exact kR I q .non (hk _ (by simp)) h|bl b=>rw[aL.mp r] at q;exact kR I q (.bl b) (hk _ (by simp)) h|int b=>rw[az.mp r] at q;exact kR I q (.int b) (hk _ (by simp)) h|str b=>rw[Rep.str_iff.mp r] at q;exact kR I q (.str b) (hk _ (by simp)) h
 |tup ds =>
  obtain⟨a,vs,its,rfl,rfl,h1,h2,h3,h4,_⟩:=br I r q;obtain⟨o,k1,k2,_⟩:=h4;exact VA W.kitx_tuple I.kIn ⟨o,k1,k2⟩ (hk _ (by simp)) (λz=>nomatch z) h
 |lst ds =>
  obtain⟨a,vs,its,rfl,rfl,h1,h2,h3,h4,_⟩:=bg I r q;obtain⟨o,k1,k2,_⟩:=h4;exact VA YH I.kIn ⟨o,k1,k2⟩ (hk _ (by simp)) (λz=>nomatch z) h
 |dic ks ds =>
  rw[Rep] at r;obtain⟨a,kvs,vs,rfl,h1,h2,_⟩:=r;cases (show u=UZ a from q);obtain⟨_,_,vs',_,p⟩:=h1.ok I.hok;obtain⟨o,es,ep,k1,k2,_⟩:=p;exact VA XT I.kIn ⟨o,k1,k2.1⟩ (hk _ (by simp)) (λz=>nomatch z) h
 |exc x =>
  obtain⟨a,C,dc,rfl,hc,h1⟩:=eB.mp r;cases (show u=UZ a from q);obtain⟨p,_,_⟩:=h1.ok I.hok;have e:(A6 (.exc x)==T||(A6 (.exc x)=="bool"&&T=="int"))=false:=by
   have:∀T∈f9,(A6 (.exc x)==T||(A6 (.exc x)=="bool"&&T=="int"))=false:=by show ∀T∈f9,("<exc>"==T||("<exc>"=="bool"&&T=="int"))=false;decide
   exact this T hT
  rw[e] at h;exact VA (mH hc.ek hc.ek.isCls) I.kIn p (hc.bt T hT) (λz=>nomatch z) h
 |ob k xs =>
  obtain⟨a,vs,rfl,h1,_⟩:=gW.mp r;cases (show u=UZ a from q);cases k with
  |exf c ks =>
   obtain⟨C,dx,fs,hc,h2,_⟩:=h1;obtain⟨p,_,_⟩:=h2.ok I.hok;have e:(A6 (.ob (.exf c ks) xs)==T||(A6 (.ob (.exf c ks) xs)=="bool"&&T=="int"))=false:=by
    have:∀T∈f9,("<exc>"==T||("<exc>"=="bool"&&T=="int"))=false:=by decide
    exact this T hT
   rw[e] at h;exact VA (mH hc.ek hc.ek.isCls) I.kIn p (hc.bt T hT) (λz=>nomatch z) h
  |ins c ks =>
   obtain⟨C,dx,_,hc,h2,_⟩:=h1;obtain⟨mA,O,_⟩:=Dd I.hok h2;obtain⟨od,O',_⟩:=O.look;have e:(A6 (.ob (.ins c ks) xs)==T||(A6 (.ob (.ins c ks) xs)=="bool"&&T=="int"))=false:=by
    have:∀T∈f9,(A6 (.ob (.ins c ks) xs)==T||(A6 (.ob (.ins c ks) xs)=="bool"&&T=="int"))=false:=by show ∀T∈f9,("<exc>"==T||("<exc>"=="bool"&&T=="int"))=false;decide
    exact this T hT
   rw[e] at h;exact VA (W.kitx_own (hc.cls.get _) hc.cls.hd hc.gc hc.gn hc.tk hc.mo) I.kIn O' (hc.bt T hT) (λz=>nomatch z) h
  |dint ks =>
   obtain⟨kvs,h2,_⟩:=h1;obtain⟨_,_,vs',_,p⟩:=h2.ok I.hok;obtain⟨o,es,ep,k1,k2,_⟩:=p;exact VA XT I.kIn ⟨o,k1,k2.1⟩ (hk _ (by simp)) (λz=>nomatch z) h
theorem dj(hk:uY X.K T)(hgi:Gl X "isinstance")(hmi:X.mg "isinstance"=none)(hg:Gl X x)(hm:X.mg x=none)(hv:bootBuiltins x=some (.type T))(ha:DE X E a f)
  (hn:x≠"__name__":=by decide)(hdb:(x==("__debug__":Str))=false:=by decide)(hT:T∈f9:=by decide)
  (he:starEach [a,.Name x p2] X.env=(false,eval a X.env)::starEach [.Name x p2] X.env:=by exact aQ rfl)(he2:starEach [.Name x p2] X.env=(false,eval (.Name x p2) X.env)::starEach [] X.env:=by exact aQ rfl)(hpl:(backTo pos (starEach [.Name x p2] X.env)).any (·.1)=false:=by exact bB rfl) :
  DE X E (.Call (.Name "isinstance" p1) [a,.Name x p2] [] pos) (bM f (eS T)):=by
 refine⟨?_⟩;refine aX (mn (r:=λvs H Q=>∃d v,vs=[v,.ty T]/\Rep X.K H d v/\Q (.bl (A6 d==T||(A6 d=="bool"&&T=="int"))) H) ?_ hgi hmi PyProof.Rows.Boot.«isinstance» (cH ha.o (cH (CO (v:=.ty T) hg hm hv rfl hn hdb) eY he2) he) (by decide) (by decide) he hpl) λσ H Q ⟨Ha,ρ,hs,hr,q⟩=>⟨Ha,ρ,hs,hr,?_⟩
 .intro pins s σ H xs us Q I r h
  obtain⟨d,v,rfl,h1,q⟩:=h;cases r with
  |cons r1 r2 =>
   cases r2 with
   |cons r3 r4 =>
    cases r4;rename_i u1 u2;obtain rfl:u2=Value.type T:=r3;exact Ih I h1 r1 hk hT λtk=>⟨.bl _,H,I.tok _,rfl,q⟩
 .unfold bM at q
  cases e1:f ρ with
  |stuck|exn x=>rw[e1] at q;exact q
  |ok d =>
   rw[e1] at q;intro v H1 H01 g1 r1;exact⟨d,v,rfl,r1.mono g1.sub,q _ H1 H01 g1 (rb _)⟩
end
theorem v7{prog:Program}{w:World}{A:Around}{E:Value->Shared->Prop}{it t:Addr}{items:Array Value}(hne:t≠it):∀(n i:Nat) (s:Shared) (Q:List Value->Shared->Prop),s.heap.IsListIter it t i->s.heap.IsList t items->i+n<=items.size ->
  (∀h',h'.IsListIter it t (i+n)->WI it s.heap h'->Q ((items.toList.drop i).take n) { s with heap:=h' })->wpAny (model prog w) A (draw (.ref it) n) Q E s
 |0,i,s,Q,hit,_,_,hQ=>by
  show wpAny _ _ (pure []) Q E s;exact UL (by simpa using hQ s.heap hit (WI.refl ..))
 |n+1,i,s,Q,hit,ht,hle,hQ=>by
  have hlt:i<items.size:=by omega
  show wpAny _ _ (pyNext (.ref it) >>= _) Q E s;refine Uq (wpAny_pyNext_list_item hit ht (x:=items[i]) (by simp [hlt]) λhG hit₁ hs₁=>?_);have ht₁:hG.IsList t items:=by
   obtain⟨o,k1,k2⟩:=ht;exact⟨o,(hs₁.2 t hne).trans k1,k2⟩
  refine Uq (VD (v7 hne n (i+1) _ _ hit₁ ht₁ (by omega) λhU hit₂ hs₂=>UL ?_));have hd:items.toList.drop i=items[i]::items.toList.drop (i+1):=by simp [Va,hlt]
  have:=hQ hU (by rw[show i+(n+1)=i+1+n by omega];exact hit₂) (hs₁.trans hs₂);rw[hd,List.take_succ_cons] at this;exact this
theorem oz(hh:A.handled=none)(ht:s.heap.IsList t items)
  (hQ:∀h',Heap.ExtBut s.heap.objs.size s.heap h'->Q items.toList { s with heap:=h' }):wpAny (model prog w) A (unpackItems (.ref t) items.size none) Q E s:=by
 have hlt:t≠s.heap.objs.size:=by obtain⟨o,ho,_⟩:=ht;exact U4 (UJ ho)
 unfold unpackItems;refine Uq ?_
 .unfold notIterableAtAll
  refine Uq (wpAny_specialOf ht.typeIs slot_list_iter.lookup ?_);refine UL ?_;simp only[Bool.false_eq_true,if_false];refine Uq (VD (wpAny_pyIter_list ht ?_));have ht0:(s.heap.push { cls:=.type "list_iterator",data:=.fields #[.ref t,.int 0 0] }).IsList t items:=by
   obtain⟨o,k1,k2⟩:=ht;exact⟨o,Ux _ k1,k2⟩
  refine Uq (VD (v7 hlt items.size 0 _ _ ⟨_,Vl _ rfl,rfl,rfl⟩ ht0 (by omega) λhG hit₁ hs₁=>?_));have hall:List.take items.size (List.drop 0 items.toList)=items.toList:=by
   rw[Wf];exact Yt (by simp)
  rw[hall];rw[if_neg (by simp)];have ht₁:hG.IsList t items:=by
   obtain⟨o,k1,k2⟩:=ht0;exact⟨o,(hs₁.2 t hlt).trans k1,k2⟩
  refine Uq (VD (wpAny_pyNext_list_end hh hit₁ ht₁ (by simp) λhU he₂=>?_));simp only[Wy,Bool.false_eq_true,if_false];refine UL (hQ hU λb o hb e=>he₂ b o hb (hs₁.extBut b o hb (Ux _ e)))
noncomputable def Bl(σ:L2.St):List Nat->List V->L2.St
 |i::is,v::vs=>Bl (σ.set i (some v)) is vs
 |_,_=>σ
noncomputable def cW(ρ:Ev):List Nat->List D->Ev
 |i::is,d::ds=>cW (ρ.set i (.sh d)) is ds
 |_,_=>ρ
theorem cT.putAll{K:Up}{He H0e Ha H:Hp}:∀{is:List Nat}{ds:List D}{vs:List V}{σ:L2.St}{ρ:Ev},cT K He H0e Ha σ H ρ->Reps K Ha ds vs->cT K He H0e Ha (Bl σ is vs) H (cW ρ is ds)
 |[],_,_,_,_,h,_=>by unfold Bl cW;exact h
 |_::_,[],_,_,_,h,r=>by rw[Reps.nil_iff.mp r];unfold Bl cW;exact h
 |i::is,d::ds,_,_,_,h,r=>by
  obtain⟨v,vs,rfl,h1,h2⟩:=aJ.mp r;unfold Bl cW;exact cT.putAll (h.put h1) h2
section
variable {X:Cx}{E:XK}{He H0e:Hp}{e a b:Expr}{es:List Expr}{f g:Ev->ai D}{fa:Ev->ai (List D)}{pos:Pos}{is:List Nat}
noncomputable def O3(is:List Nat):Pk:=λvs σ H Q=>vs.length=is.length/\Q (Bl σ is vs) H
theorem zm(h:Gb X es t)(w:∀vs σ H Q,t' vs σ H Q->t vs σ H Q):Gb X es t':=λpins s σ H vs us Q I r q=>h pins s σ H vs us Q I r (w vs σ H Q q)
theorem jl:Gb X [] (O3 []):=zm KO λvs σ H Q ⟨h,q⟩=>by
 have e:vs=[]:=VR.mp h;subst e;exact⟨rfl,q⟩
theorem cc(hN:X.N.Nodup)(hi:X.N[i]?=some x)(hx:Gg X.env.scope x)(h:Gb X es (O3 is))(hf:X.fn x=true∨X.env.scope.names.lookup x=some .local := by first|exact .inl rfl|exact .inr rfl|assumption)
  (hs:(assignEach (.Name x p::es) X.env).map (·.2)=assign (.Name x p) X.env::(assignEach es X.env).map (·.2):=by rfl):Gb X (.Name x p::es) (O3 (i::is)) :=
 zm (Hz (CL hN hi hx hf) h hs) λvs σ H Q ⟨h,q⟩=>by
  cases vs with|nil=>simp at h|cons v vs=>exact⟨v,vs,rfl,by simpa using h,q⟩
theorem KP{k:Nat}(hc:X.calm=true)(h:Gb X es t)
  (hn:(assignEach es X.env).length=n:=by rfl)(hst:(assignEach es X.env).findIdx? (·.1)=none:=by rfl):PG X (.Tuple es k pos) (λv σ H Q=>∃a xs,v=.ref a/\eC X.K H a xs/\xs.length=n/\t xs σ H Q):=by
 intro pins s σ H v u Q I r hw;obtain⟨a,xs,e1,hq,hl,hw⟩:=hw;subst e1;cases r;obtain⟨its,rv,ht,hz⟩:=I.list hq;rw[assign_Tuple];refine Uq (wpAny_standAt ?_);unfold unpack;rw[hn,hst];have hsz:n=its.toArray.size:=by rw[UK,←rv.length,hl]
 rw[hsz];refine Uq (VD (oz (I.ok.hd hc) ht.isList λh' hx=>?_));have I1:Inv X pins σ H { s with heap:=h' }:=I.kept (t':=s.toks) λb o e=>hx b o (U4 (UJ e)) e;exact h pins _ σ H xs _ Q I1 (by simpa using rv) hw
theorem Qi(h:PG X tgt t)(h':PG X tgt t'):PG X tgt (λv σ H Q=>t v σ H Q∨t' v σ H Q):=λpins s σ H v u Q I r q=>q.elim (h pins s σ H v u Q I r) (h' pins s σ H v u Q I r)
theorem HB{k:Nat}(hc:X.calm=true)(h:Gb X es (O3 is))(hn:(assignEach es X.env).length=is.length:=by rfl)(hst:(assignEach es X.env).findIdx? (·.1)=none:=by rfl) :
  PG X (.Tuple es k pos) (λv σ H Q=>∃a xs,v=.ref a/\(jK X.K H a xs∨eC X.K H a xs)/\xs.length=is.length/\Q (Bl σ is xs) H) :=
 xp (Qi (NN hc h hn hst) (KP hc h hn hst)) λv σ H Q ⟨a,xs,e,hq,hl,q⟩=>hq.elim (λz=>.inl ⟨a,xs,e,z,hl,hl,q⟩) λz=>.inr ⟨a,xs,e,z,hl,hl,q⟩
noncomputable def eE(n:Nat) (d:D):Option (List D):=match d with
 |.tup ds=>if ds.length=n then some ds else none
 |.lst ds=>if ds.length=n then some ds else none
 |_=>none
theorem pD{K:Up}(h:eE n d=some ds)(r:Rep K H d v):∃a vs,v=.ref a/\(jK K H a vs∨eC K H a vs)/\vs.length=n/\Reps K H ds vs:=by
 unfold eE at h;cases d with
 |tup es =>
  by_cases c:es.length=n
  .simp only[if_pos c] at h;cases h
   obtain⟨a,vs,rfl,h1,h2⟩:=aM.mp r;exact⟨a,vs,rfl,.inl h1,by rw[←h2.length];exact c,h2⟩
  .simp only[if_neg c] at h;cases h
 |lst es =>
  by_cases c:es.length=n
  .simp only[if_pos c] at h;cases h
   obtain⟨a,vs,rfl,h1,h2⟩:=aH.mp r;exact⟨a,vs,rfl,.inr h1,by rw[←h2.length];exact c,h2⟩
  .simp only[if_neg c] at h;cases h
 |_=>cases h
theorem yY{K:Up}{a:Addr}(hs:aB H H')(h:jK K H a vs∨eC K H a vs):jK K H' a vs∨eC K H' a vs:=h.elim (λz=>.inl (aB.sqT hs z)) λz=>.inr (aB.sqL hs z)
noncomputable def Nw(is:List Nat) (f:Ev->ai D):Ev->ai Fl:=λρ=>(f ρ).bind λd=>match eE is.length d with
 |some ds=>.ok (.nx (cW ρ is ds))
 |none=>.stuck
theorem Oo{k:Nat}(hc:X.calm=true)(he:DE X E e f)(h:Gb X es (O3 is))(hs:swapsWithSole [.Tuple es k tp] e pos.line X.env=pure false:=by rfl)(hw:swappedStores [.Tuple es k tp] e X.env=pure none:=by rfl)
  (h1:(assignEach [.Tuple es k tp] X.env).map (·.2)=[assign (.Tuple es k tp) X.env]:=by rfl)(hn:(assignEach es X.env).length=is.length:=by rfl)(hst:(assignEach es X.env).findIdx? (·.1)=none:=by rfl) :
  DS X E He H0e (.Assign [.Tuple es k tp] e pos) (Nw is f):=by
 refine⟨?_⟩;refine bL (Bq he.o (HB hc h hn hst) hs hw h1) λD σ H ⟨Ha,ρ,h,q⟩=>⟨Ha,ρ,h.g.sub,h.rd,?_⟩
 refine plain (k:=λd=>match eE is.length d with
  |some ds=>.ok (.nx (cW ρ is ds))
  |none=>.stuck) h q λd v H' Ha' _ g rp q'=>?_
 cases e1:eE is.length d with
 |none=>rw[e1] at q';exact q'.elim
 |some ds =>
  rw[e1] at q';obtain⟨a,vs,rfl,k1,k2,k3⟩:=pD e1 rp;exact⟨a,vs,rfl,yY g.sub k1,k2,q' _ H' Ha' (aB.refl _) ((h.grow g).putAll k3)⟩
noncomputable def gr(is:List Nat):Ev->D->ai Ev:=λρ d=>match eE is.length d with
 |some ds=>.ok (cW ρ is ds)
 |none=>.stuck
theorem iH:wG (gr is):=λρ d=>by
 unfold gr;cases eE is.length d with|none=>exact .inl rfl|some ds=>exact .inr ⟨_,rfl⟩
theorem pb{k:Nat}(hc:X.calm=true)(h:Gb X es (O3 is))(hn:(assignEach es X.env).length=is.length:=by rfl)(hst:(assignEach es X.env).findIdx? (·.1)=none:=by rfl):DG X E He H0e (.Tuple es k pos) (gr is) :=
 ⟨xp (HB hc h hn hst) λv σ H Q z9=>by
  obtain⟨Ha,ρ,d,h,rp,q⟩:=z9;unfold gr at q;cases e1:eE is.length d with
  |none=>rw[e1] at q;exact q.elim
  |some ds =>
   rw[e1] at q;obtain⟨a,vs,rfl,k1,k2,k3⟩:=pD e1 rp;exact⟨a,vs,rfl,yY h.g.sub k1,k2,q _ H Ha (aB.refl _) (h.putAll k3)⟩⟩
noncomputable def u7(i j:Nat) (fa:Ev->ai (List D)):Ev->ai Fl:=λρ=>(fa ρ).bind λds=>match ds with
 |[x,y]=>.ok (.nx ((ρ.set i (.sh x)).set j (.sh y)))
 |_=>.stuck
theorem Ou{px py pt pt2:Pos}{kt k2}(hc:X.calm=true)(hN:X.N.Nodup)(hi:X.N[i]?=some x)(hj:X.N[j]?=some y)(hij:i≠j)
  (hx:X.env.scope.names.lookup x=some .local)(hy:X.env.scope.names.lookup y=some .local)(ha:DA X E [a,b] fa)
  (hw:swappedStores [.Tuple [.Name x px,.Name y py] kt pt] (.Tuple [a,b] k2 pt2) X.env=pure (some [x,y]))
  (hs:swapsWithSole [.Tuple [.Name x px,.Name y py] kt pt] (.Tuple [a,b] k2 pt2) pos.line X.env=pure false:=by rfl) :
  DS X E He H0e (.Assign [.Tuple [.Name x px,.Name y py] kt pt] (.Tuple [a,b] k2 pt2) pos) (u7 i j fa):=by
 refine⟨?_⟩;refine bL (NJ hc hN hi hj hij hx hy ha.o hw hs) λD σ H ⟨Ha,ρ,h,q⟩=>⟨Ha,ρ,h.g.sub,h.rd,?_⟩
 unfold u7 at q;cases e1:fa ρ with
 |stuck=>rw[e1] at q;exact q|exn x=>rw[e1] at q;exact λC ox H' Ha' g ex=>q C ox H' Ha' (h.g.trans g) ex
 |ok ds =>
  rw[e1] at q;intro vs H1 H01 g1 r1
  match ds,r1,q with
  |[x,y],r1,q =>
   obtain⟨v,r',rfl,h1,h2⟩:=aJ.mp r1;obtain⟨u,r'',rfl,h3,h4⟩:=aJ.mp h2;rw[Reps.nil_iff.mp h4];exact⟨v,u,rfl,q _ H1 H01 g1.z (((h.grow g1).put h1).put h3)⟩
  |[],_,q=>exact q.elim
  |[_],_,q=>exact q.elim
  |_::_::_::_,_,q=>exact q.elim
end
theorem BN{K:Up}:uY K "int":=by
 intro S hS;simp only[Uv,WK,or_false] at hS;rcases hS with rfl|rfl|rfl|rfl|rfl|rfl|rfl<;>first|rfl|decide +kernel
theorem pO{K:Up}:uY K "bool":=by
 intro S hS;simp only[Uv,WK,or_false] at hS;rcases hS with rfl|rfl|rfl|rfl|rfl|rfl|rfl<;>first|rfl|decide +kernel
theorem sq{K:Up}:uY K "str":=by
 intro S hS;simp only[Uv,WK,or_false] at hS;rcases hS with rfl|rfl|rfl|rfl|rfl|rfl|rfl<;>first|rfl|decide +kernel
theorem ji{K:Up}:uY K "tuple":=by
 intro S hS;simp only[Uv,WK,or_false] at hS;rcases hS with rfl|rfl|rfl|rfl|rfl|rfl|rfl<;>first|rfl|decide +kernel
theorem pM{K:Up}:uY K "list":=by
 intro S hS;simp only[Uv,WK,or_false] at hS;rcases hS with rfl|rfl|rfl|rfl|rfl|rfl|rfl<;>first|rfl|decide +kernel
section
variable {X:Cx}{E:XK}{He H0e:Hp}{e a b c:Expr}{f g h:Ev->ai D}{pos:Pos}
theorem dv(i:Nat)(hN:X.N[i]?=some x:=by rfl)(hv:AZ X.env.scope x:=by first|exact UC rfl|exact XM (UC rfl)|exact XM (XM rfl))(hd:(x==("__debug__":Str))=false:=by decide)
  (hcd:(x==("__classdict__":Str))=false:=by decide):DE X E (.Name x pos) (ae i):=Oy hN hv hd hcd
noncomputable def yy(K:Up) (mg:Str->Option Value) (x:Str) (d:D):Prop:=∃v u,mg x=some u/\bu v u/\∀H,Rep K H d v
theorem bz(k:yy X.K X.mg x d)(hg:Gl X x)(hd:(x==("__debug__":Str))=false:=by decide):DE X E (.Name x pos) (dC d):=by
 obtain⟨v,u,h1,h2,h3⟩:=k;exact LO hg h1 h2 h3 hd
theorem dN{K:Up}(h:mg x=some (.int i t)):yy K mg x (.int i):=⟨.int i,_,h,⟨t,rfl⟩,λ_=>ri _⟩
theorem Lm{K:Up}(h:mg x=some (.str i t)):yy K mg x (.str i):=⟨.str i,_,h,⟨t,rfl⟩,λ_=>Rep.str_iff.mpr rfl⟩
theorem Ll{K:Up}{a:Addr}(h:mg x=some (.ref a))(l:K.lookup a=some ⟨.type "tuple",od,.seq its n,sl⟩)
  (hv:bH vs its.toList)(hz:its.size<=sizeLine)(hd:∀H,Reps K H ds vs):yy K mg x (.tup ds):=⟨.ref a,_,h,rfl,λH=>aM.mpr ⟨a,vs,rfl,.inr ⟨_,its,n,l,rfl,rfl,hz,hv⟩,hd H⟩⟩
noncomputable def gP(op op':D->D->ai D) (f g h:Ev->ai D):Ev->ai D:=λρ=>(f ρ).bind λx=>(g ρ).bind λy=>(op x y).bind λz=>match z with
 |.bl true=>(h ρ).bind λw=>op' y w
 |.bl false=>.ok (.bl false)
 |_=>.stuck
noncomputable def uW(r:R2) (o:D->D->ai D):Prop:=∀(K:Up) (x y:D) (v u:V) (H Ha:Hp) (Q:VK) (d:D),aB Ha H->Rep K Ha x v->Rep K Ha y u->o x y=.ok d->(∀w,Rep K Ha d w->Q w H)->r v u H Q
theorem gA{g:Int->Int->D}(hg:∀K H i j,Rep K H (g i j) (gv i j)):uW (JP gv) (Ab (λ_ _=>true) g):=by
 intro K x y v u H Ha Q d hs r1 r2 e q;unfold Ab at e;cases x with
 |int i =>
  cases y with|int j=>simp only[if_pos] at e;cases e;exact⟨i,j,az.mp r1,az.mp r2,q _ (hg _ _ i j)⟩| _=>cases e
 |_=>cases e
noncomputable def uX(o:D->D->ai D):Prop:=∀x y,∀z,o x y≠.exn z
theorem pZ(p:uW r o)(p':uW r' o')(n:uX o)(n':uX o')(σ:L2.St)(H:Hp)(Q:VK)(q:tD X.K E (gP o o' f g h) σ H Q) :
  Bh r r' (tD X.K E f) (tD X.K E g) (tD X.K E h) σ H Q:=by
 obtain⟨Ha,ρ,hs,hr,q⟩:=q;refine⟨Ha,ρ,hs,hr,?_⟩;unfold gP at q;cases e1:f ρ with
 |stuck|exn x=>rw[e1] at q;exact q
 |ok x =>
  rw[e1] at q;intro v H1 H01 g1 r1;refine⟨H01,ρ,g1.sub,hr.mono g1.z,?_⟩;replace q:=post.grow (r:=(g ρ).bind λy=>(o x y).bind λz=>match z with
   |.bl true=>(h ρ).bind λw=>o' y w
   |.bl false=>.ok (.bl false)
   |_=>.stuck) q g1
  cases e2:g ρ with
  |stuck|exn x=>rw[e2] at q;exact q
  |ok y =>
   rw[e2] at q;intro u H2 H02 g2 r2;replace q:=post.grow (r:=(o x y).bind λz=>match z with
    |.bl true=>(h ρ).bind λw=>o' y w
    |.bl false=>.ok (.bl false)
    |_=>.stuck) q g2
   cases e3:o x y with
   |stuck=>rw[e3] at q;exact q.elim|exn z=>exact absurd e3 (n x y z)
   |ok z =>
    rw[e3] at q;refine p X.K x y v u H2 H02 _ z g2.sub (r1.mono g2.z) r2 e3 λw rw'=>?_;cases z with
    |bl b =>
     rw[aL.mp rw'];refine⟨b,rfl,?_⟩;cases b with
     |false=>rw[if_neg Vy];exact q _ H2 H02 (bp.refl g2.sub) (rb _)
     |true =>
      rw[if_pos rfl];refine⟨H02,ρ,g2.sub,(hr.mono g1.z).mono g2.z,?_⟩;replace q:post X.K E H2 H02 ((h ρ).bind λw=>o' y w) Q:=q;cases e4:h ρ with
      |stuck|exn x=>rw[e4] at q;exact q
      |ok w2 =>
       rw[e4] at q;intro v3 H3 H03 g3 r3;replace q:=post.grow (r:=o' y w2) q g3;cases e5:o' y w2 with
       |stuck=>rw[e5] at q;exact q.elim|exn z=>exact absurd e5 (n' y w2 z)
       |ok d =>
        rw[e5] at q;exact p' X.K y w2 u v3 H3 H03 Q d g3.sub (r2.mono g3.z) r3 e5 λw3 r5=>q w3 H3 H03 (bp.refl g3.sub) r5
    |_=>exact q.elim
theorem Jm(ho:eh X (compareOp op) r)(ho':eh X (compareOp op') r')(p:uW r o)(p':uW r' o')(n:uX o)(n':uX o')(ha:DE X E a f)(hb:DE X E b g)(hc:DE X E c h)
  (hm:lastMarks [op,op'] [b,c]=false:=by with_unfolding_all rfl):DE X E (.Compare a [op,op'] [b,c] pos) (gP o o' f g h):=⟨aX (HD ho ho' ha.o hb.o hc.o hm) (pZ p p' n n')⟩
theorem AI(ho:eh X (compareOp op) r)(ho':eh X (compareOp op') r')(p:uW r o)(p':uW r' o')(n:uX o)(n':uX o')(ha:DE X E a f)(hb:DE X E b g)(hc:DE X E c h)
  (hm:lastMarks [op,op'] [b,c]=false:=by with_unfolding_all rfl):DT X E (.Compare a [op,op'] [b,c] pos) (gP o o' f g h):=by
 refine⟨?_⟩;refine gp (Hs ho ho' ha.o hb.o hc.o hm) λσ H Q q=>?_;have w:tD X.K E (gP o o' f g h) σ H λx H'=>∃k,x=.bl k/\Q k H':=by
  obtain⟨Ha,ρ,hs,hr,q⟩:=q;refine⟨Ha,ρ,hs,hr,?_⟩;cases e1:gP o o' f g h ρ with
  |stuck|exn x=>rw[e1] at q;exact q
  |ok d =>
   rw[e1] at q;intro v H1 H01 g1 r1;cases d with|bl b=>rw[aL.mp r1];exact⟨b,rfl,q H1 H01 g1⟩| _=>exact q.elim
 exact pZ p p' n n' σ H _ w
theorem gB{c:Int->Int->Bool}{g:Int->Int->D}:uX (Ab c g):=by
 intro x y z;unfold Ab;cases x<;>cases y<;>simp<;>split<;>simp
end
noncomputable def kT(i:Nat):Ev->Nat:=λρ=>match ρ[i]? with
 |some (.sh (.int j))=>j.natAbs+1
 |_=>0
section
variable {X:Cx}{E:XK}{a b:Expr}{f g:Ev->ai D}{pos:Pos}
noncomputable def cL(x y:D):ai D:=match x,y with
 |.int i,.int j=>if dX i j=true then .ok (.int (i*j)) else .stuck
 |_,_=>.stuck
theorem eM(ha:DE X E a f)(hb:DE X E b g):DE X E (.BinOp a .Mult b pos) (ag f g cL):=ux KW (by
 intro x y v u H Ha Q hs r1 r2 q;unfold cL at q;cases x with
 |int i =>
  cases y with
  |int j =>
   by_cases h:dX i j=true
   .simp only[if_pos h] at q
    exact⟨i,j,az.mp r1,az.mp r2,dX.ok h,bj hs q (ri _)⟩
   .simp only[if_neg h] at q;exact q.elim
  |_=>exact q.elim
 |_=>exact q.elim) ha hb
end
noncomputable def Og(K:Up) (tg:Ev->D->ai Ev):TG:=λv σ H Q=>∃He H0e,tG K He H0e tg v σ H Q
section
variable {X:Cx}{E:XK}{a b:Expr}{f g:Ev->ai D}{pos:Pos}
noncomputable def uz(x:D):ai D:=match x with
 |.lst ds=>.ok (.tup ds)
 |.tup ds=>.ok (.tup ds)
 |_=>.stuck
theorem AX:gk X E (λxs H Q=>∃p ys,xs=[.ref p]/\((eC X.K H p ys/\∀l,H l=none->Q (.ref l) (upd H l (.tup ys)))∨(jK X.K H p ys/\Q (.ref p) H))) (m1 uz):=uK λx v H Ha Q hs r q=>by
 cases x with
 |lst ds =>
  obtain⟨p,vs,rfl,h1,h2⟩:=aH.mp r;exact⟨p,vs,rfl,.inl ⟨aB.sqL hs h1,λn hn=>q _ _ _ (aO hs hn) (aM.mpr ⟨n,_,rfl,jK.of aw,h2.mono (aO hs hn).z⟩)⟩⟩
 |tup ds =>
  obtain⟨p,vs,e,h1,h2⟩:=aM.mp r;subst e;exact⟨p,vs,rfl,.inr ⟨aB.sqT hs h1,bj hs q r⟩⟩
 |_=>exact q.elim
end
noncomputable def il:List D->Option (List Str)
 |[]=>some []
 |.str x::r=>(il r).map (x::·)
 |_=>none
theorem yV{K:Up}{H:Hp}:∀{ds:List D}{ys:List Str}{vs:List V}{us:List Value},il ds=some ys->Reps K H ds vs->bH vs us->StrsAre us ys
 |[],ys,vs,us,h,r,q=>by
  cases h;rw[Reps.nil_iff.mp r] at q;cases q;exact .nil
 |d::ds,ys,vs,us,h,r,q=>by
  obtain⟨v,r',rfl,h1,h2⟩:=aJ.mp r;cases q with
  |cons q1 q2 =>
   cases d with
   |str x =>
    unfold il at h;cases e:il ds with
    |none=>rw[e] at h;cases h
    |some zs =>
     rw[e] at h;cases h;rw[Rep.str_iff.mp h1] at q1;obtain⟨t,rfl⟩:=q1;exact .cons _ _ (yV e h2 q2)
   |_=>cases h
section
variable {X:Cx}{E:XK}{o e:Expr}{fo:Ev->ai D}{fa:Ev->ai (List D)}
noncomputable def ia(z:Str) (ys:List Str):Bool:=decide (z.length<=16)&&decide ((ys.map (·.length)).sum+ys.length<=1048576)
noncomputable def P1(K:Up):V->List V->Hp->VK->Prop:=λx xs H Q=>∃z p ds ys,x=.str z/\xs=[.ref p]/\Rep K H (.lst ds) (.ref p)/\il ds=some ys/\ia z ys=true/\Q (.str (X7 z ys)) H
theorem Lc:TN X "str.join" (P1 X.K):=by
 intro pins s σ H x xs v us Q I rx rs h;obtain⟨z,p,ds,ys,rfl,rfl,hr,hy,hf,q⟩:=h;obtain⟨t,rfl⟩:=rx;obtain⟨u,rfl,ru⟩:=rs.one;obtain⟨a,vs,its,ea,rfl,h1,h2,h3,h4,_⟩:=bg I hr ru;unfold ia at hf;rw[UU] at hf;exact join_listW h4 (by simpa using yV hy h2 h3) (of_decide_eq_true hf.1) (of_decide_eq_true hf.2) λt' k=>⟨.str (X7 z ys),H,I.tok _,⟨_,rfl⟩,q⟩
noncomputable def mI(z:Str) (xs:List D):ai D:=match xs with
 |[.lst ds]=>match il ds with
  |some ys=>if ia z ys=true then .ok (.str (X7 z ys)) else .stuck
  |none=>.stuck
 |_=>.stuck
noncomputable def we(fo:Ev->ai D) (fa:Ev->ai (List D)):Ev->ai D:=λρ=>(fo ρ).bind λx=>match x with
 |.str z=>(fa ρ).bind λxs=>mI z xs
 |_=>.stuck
theorem LM(ho:DE X E o fo)(ha:DA X E [e] fa)
  (hbase:attributeBase o "join" X.env (eval o X.env)=eval o X.env:=by rfl)
  (hfew:((backTo cpos (starEach [e] X.env)).all (λx=>!x.1)&&(backToKw cpos (keywordEach [] X.env)).all (λx=>x.1.isSome)
  &&decide ([e].length+([]:List Keyword).length+(if([]:List Keyword).isEmpty then 0 else 1)<30))=true:=by exact sQ rfl)
  (hline:(apos.endLine==cpos.line)=true:=by rfl) (hs:starEach [e] X.env=(false,eval e X.env)::starEach [] X.env:=by exact aQ rfl) (hplain:(backTo cpos (starEach [] X.env)).any (·.1)=false:=by exact bB rfl) :
  DE X E (.Call (.Attribute o "join" apos) [e] [] cpos) (we fo fa):=by
 refine⟨?_⟩;refine aX (HE PySem.F.plainAttrs_str PySem.F.slot_str_join PySem.F.type_str_join Lc ho.o ha.o hbase hfew hline hs hplain) λσ H Q ⟨Ha,ρ,hs,hr,q⟩=>⟨Ha,ρ,hs,hr,?_⟩
 unfold we at q;cases e1:fo ρ with
 |stuck|exn x=>rw[e1] at q;exact q
 |ok x =>
  rw[e1] at q;intro v H1 H01 g1 r1;cases x with
  |str z =>
   rw[Rep.str_iff.mp r1];refine⟨rfl,H01,ρ,g1.sub,hr.mono g1.z,?_⟩;replace q:=post.grow (r:=(fa ρ).bind λxs=>mI z xs) q g1;cases e2:fa ρ with
   |stuck|exn x=>rw[e2] at q;exact q
   |ok xs =>
    rw[e2] at q;intro us H2 H02 g2 r2;replace q:=post.grow (r:=mI z xs) q g2;unfold mI at q
    match xs,r2,q with
    |[.lst ds],r2,q =>
     obtain⟨w,r',rfl,k1,k2⟩:=aJ.mp r2;rw[Reps.nil_iff.mp k2];obtain⟨p,vs,rfl,k3,k4⟩:=aH.mp k1;cases e3:il ds with
     |none=>simp only[e3] at q;exact q.elim
     |some ys =>
      simp only[e3] at q
      by_cases c:ia z ys=true
      .rw[if_pos c] at q
       exact⟨z,p,ds,ys,rfl,rfl,k1.mono g2.sub,e3,c,bj g2.sub q (Rep.str_iff.mpr rfl)⟩
      .rw[if_neg c] at q;exact q.elim
    |[],_,q=>exact q.elim
    |d1::_::_,_,q=>cases d1<;>exact Vo q
    |[.non],_,q=>exact q.elim
    |[.bl _],_,q=>exact q.elim
    |[.int _],_,q=>exact q.elim
    |[.str _],_,q=>exact q.elim
    |[.tup _],_,q=>exact q.elim
    |[.dic _ _],_,q=>exact q.elim
    |[.exc _],_,q=>exact q.elim
    |[.ob _ _],_,q=>exact q.elim
  |_=>exact q.elim
end
section
variable {X:Cx}{E:XK}{a:Expr}{f:Ev->ai D}{pos:Pos}
noncomputable def Sq:V->Option Int->Option Int->Hp->VK->Prop:=λx lo hi H Q=>∃z,x=.str z/\z.length<=sizeLine/\Q (.str (Yl z lo hi)) H
theorem Np:JS X Sq:=by
 intro pins s σ H x v vl vu lo hi sl Q I rx hs pl pu h;obtain⟨z,rfl,hz,q⟩:=h;obtain⟨t,rfl⟩:=rx;have fin:∀t' k,EP X pins σ Q (.str (Yl z lo hi) t') { s with toks:=k }:=λt' k=>⟨.str (Yl z lo hi),H,I.tok _,⟨_,rfl⟩,q⟩
 refine⟨"str",_,PySem.F.slot_str_getitem.lookup,typeIs_str s z t,?_⟩;cases pl with
 |none =>
  cases pu with|none=>exact wpAny_getItem_str_slice (l:=none) (u:=none) (st:=none) hs rfl (post_val_or_str ⟨UO (XF z _ _) hz,fin⟩)|int j uj=>exact wpAny_getItem_str_slice (l:=none) (u:=some (j,uj)) (st:=none) hs rfl (post_val_or_str ⟨UO (XF z _ _) hz,fin⟩)
 |int i ui =>
  cases pu with|none=>exact wpAny_getItem_str_slice (l:=some (i,ui)) (u:=none) (st:=none) hs rfl (post_val_or_str ⟨UO (XF z _ _) hz,fin⟩)|int j uj=>exact wpAny_getItem_str_slice (l:=some (i,ui)) (u:=some (j,uj)) (st:=none) hs rfl (post_val_or_str ⟨UO (XF z _ _) hz,fin⟩)
noncomputable def rm(x:D) (l h:Option Int):ai D:=match x with
 |.lst ds=>.ok (.lst (jr ds l h))
 |.str z=>if z.length<=line then .ok (.str (Yl z l h)) else .stuck
 |.tup ds=>if HT.sIx ds.length 0 l=0/\HT.sIx ds.length ds.length h=ds.length then .stuck else .ok (.tup (jr ds l h))
 |_=>.stuck
noncomputable def nV(f:Ev->ai D) (lo hi:Ev->ai (Option Int)):Ev->ai D:=λρ=>(f ρ).bind λx=>(lo ρ).bind λl=>(hi ρ).bind λh=>rm x l h
theorem dP{lo hi:Option Expr}(ha:DE X E a f)(hl:DO X E lo fl)(hh:DO X E hi fh):DE X E (.Subscript a (.Slice lo hi none p2) pos) (nV f fl fh) :=
 ⟨aX (zo (JS.or CA (JS.or Np Nm)) ha.o hl.o hh.o) (yW (m:=rm) λx v l h H Ha Q hs r q=>by
  cases x with
  |lst ds =>
   obtain⟨p,vs,rfl,h1,h2⟩:=aH.mp r;exact .inl ⟨p,vs,rfl,aB.sqL hs h1,λn hn=>q _ _ _ (aO hs hn) (aH.mpr ⟨n,_,rfl,eC.of aw,(h2.cut l h).mono (aO hs hn).z⟩)⟩
  |str z =>
   unfold rm at q
   by_cases c:z.length<=line
   .simp only[if_pos c] at q
    exact .inr (.inl ⟨z,Rep.str_iff.mp r,cF c,bj hs q (Rep.str_iff.mpr rfl)⟩)
   .simp only[if_neg c] at q;exact q.elim
  |tup ds =>
   unfold rm at q
   by_cases c:HT.sIx ds.length 0 l=0/\HT.sIx ds.length ds.length h=ds.length
   .simp only[if_pos c] at q;exact q.elim
   .simp only[if_neg c] at q
    obtain⟨p,vs,rfl,h1,h2⟩:=aM.mp r;exact .inr (.inr ⟨p,vs,rfl,aB.sqT hs h1,by rw[←h2.length];exact c,λn hn=>q _ _ _ (aO hs hn) (aM.mpr ⟨n,_,rfl,jK.of aw,(h2.cut l h).mono (aO hs hn).z⟩)⟩)
  |_=>exact q.elim)⟩
end
noncomputable def S9(z:Str):It:=⟨λi _=>i<z.cps.size,λi H x H'=>H'=H/\∃c,z.cps[i]?=some c/\x=.str ⟨#[c]⟩,λi _=>z.cps.size<=i⟩
theorem Bf{P:Program}{w:World}{K:Up}{tg:Expr}(z:Str)(t:Tok)(it:Addr):F9 P w K tg (S9 z) [it] it (λi h=>h.IsStrIter it "str_ascii_iterator" z t i) where
 mem:=by simp
 obj:=λi h st b hb=>by
  have e:b=it:=by simpa using hb
  subst e;obtain⟨o,e,c,d⟩:=st;exact⟨o,e,λv z=>by rw[d] at z;cases z⟩
 keep:=λi h h' st k=>let ⟨o,ho,r⟩:=st;⟨o,k it (by simp) o ho,r⟩
 item:=by
  intro X hP hw hK hc i pins s σ H E I hf st hg;subst hP hw hK;have hg':i<z.cps.size:=hg;obtain⟨f0,f1,f2,f3,f4,f5⟩:=hf it (by simp);refine wpAny_pyNext_ascii_item st (c:=z.cps[i]) (by simp [hg']) λh' st' sb=>?_;have I1:Inv X pins σ H { s with heap:=h',toks:=s.toks+1 }:=I.turned (t':=s.toks+1) (λb o hb e=>(sb.2 b hb).trans e) f0 f1 f3 f4 f5;obtain⟨o,e,c,d⟩:=id st';exact⟨_,rfl,Di (s:={ s with heap:=h',toks:=s.toks+1 }) e c d (by decide) ⟨.str ⟨#[z.cps[i]]⟩,H,I1,⟨_,rfl⟩,⟨rfl,_,by simp [hg'],rfl⟩,st',λb hb=>(hf b hb).1⟩⟩
 done:=by
  intro X hP hw hK hc i pins s σ H E I hf st hg;subst hP hw hK;have hg':z.cps.size<=i:=hg;obtain⟨f0,f1,f2,f3,f4,f5⟩:=hf it (by simp);exact wpAny_pyNext_ascii_end (I.ok.hd hc) st (by simp [hg']) λh' eb=>⟨rfl,I.turned (t':=s.toks) (λb o hb e=>eb b o hb e) f0 f1 f3 f4 f5⟩
 self:=λ_ _ _ _ _ st h=>wpAny_pyIter_striter_ascii st h
theorem EY{P:Program}{w:World}{K:Up}{tg:Expr}(z:Str)(t:Tok)(it:Addr):F9 P w K tg (S9 z) [it] it (λi h=>h.IsStrIter it "str_iterator" z t i) where
 mem:=by simp
 obj:=λi h st b hb=>by
  have e:b=it:=by simpa using hb
  subst e;obtain⟨o,e,c,d⟩:=st;exact⟨o,e,λv z=>by rw[d] at z;cases z⟩
 keep:=λi h h' st k=>let ⟨o,ho,r⟩:=st;⟨o,k it (by simp) o ho,r⟩
 item:=by
  intro X hP hw hK hc i pins s σ H E I hf st hg;subst hP hw hK;have hg':i<z.cps.size:=hg;obtain⟨f0,f1,f2,f3,f4,f5⟩:=hf it (by simp);refine wpAny_pyNext_wide_item st (c:=z.cps[i]) (by simp [hg']) λh' st' sb=>?_;have I1:Inv X pins σ H { s with heap:=h',toks:=s.toks+1 }:=I.turned (t':=s.toks+1) (λb o hb e=>(sb.2 b hb).trans e) f0 f1 f3 f4 f5;obtain⟨o,e,c,d⟩:=id st';exact⟨_,rfl,Di (s:={ s with heap:=h',toks:=s.toks+1 }) e c d (by decide) ⟨.str ⟨#[z.cps[i]]⟩,H,I1,⟨_,rfl⟩,⟨rfl,_,by simp [hg'],rfl⟩,st',λb hb=>(hf b hb).1⟩⟩
 done:=by
  intro X hP hw hK hc i pins s σ H E I hf st hg;subst hP hw hK;have hg':z.cps.size<=i:=hg;obtain⟨f0,f1,f2,f3,f4,f5⟩:=hf it (by simp);exact wpAny_pyNext_wide_end (I.ok.hd hc) st (by simp [hg']) λh' eb=>⟨rfl,I.turned (t':=s.toks) (λb o hb e=>eb b o hb e) f0 f1 f3 f4 f5⟩
 self:=λ_ _ _ _ _ st h=>wpAny_pyIter_striter_wide st h
noncomputable def SA(tl:TE):TI:=λσ H R=>tl σ H λx H1=>∃z,x=.str z/\R (S9 z) H1
theorem NM(hl:PE X l tl):PI X tg l (SA tl):=by
 intro pins s σ H R I h;refine cj (hl pins s σ H _ I h) λv s1 ⟨x,H1,I1,r1,q1⟩=>?_;obtain⟨z,rfl,q⟩:=q1;obtain⟨t,rfl⟩:=r1;have fpo:∀b∈[s1.heap.objs.size],oj X pins H1 b:=λb hb=>by
  have e:b=s1.heap.objs.size:=by simpa using hb
  subst e;exact I1.fpOk (UB _) (I1.hok.fresh (UB _))
 cases ha:z.cps.all (· < 128) with|false=>exact wpAny_pyIter_wide ha ⟨s1.heap.objs.size,[s1.heap.objs.size],_,_,H1,rfl,I1.kept (t':=s1.toks) λb o e=>Ux _ e,EY z t _,⟨_,Vl _ rfl,rfl,rfl⟩,fpo,q⟩|true=>exact wpAny_pyIter_ascii ha ⟨s1.heap.objs.size,[s1.heap.objs.size],_,_,H1,rfl,I1.kept (t':=s1.toks) λb o e=>Ux _ e,Bf z t _,⟨_,Vl _ rfl,rfl,rfl⟩,fpo,q⟩
noncomputable def jU(z:Str):List D:=z.cps.toList.map λc=>.str ⟨#[c]⟩
theorem lN(z:Str):(jU z).length=z.cps.size:=by unfold jU;simp
section
variable {X:Cx}{E:XK}{He H0e:Hp}{f:Ev->ai D}{s:Ev->ai Fl}{pos:Pos}
end
section
variable {X:Cx}{E:XK}
noncomputable def Qb(K:Up):List V->Hp->VK->Prop:=λxs H Q=>∃(p:Addr) (bs:List Bool),xs=[.ref p]/\eC K H p (bs.map V.bl)/\Q (.bl (bs.all id)) H
theorem wF:∀bs:List Bool,(VO bs.length).all (λi=>bs.getD i false)=bs.all id
 |[]=>rfl
 |b::r=>by
  rw[UI,Yu,WL,Yx,WL,←wF r];rfl
theorem Js(hc:X.calm=true):gY X (.builtin "all") (Qb X.K):=by
 intro pins s σ H xs us Q I r h;obtain⟨p,bs,rfl,hq,q⟩:=h;obtain⟨u,rfl,rx⟩:=pz r;cases rx;obtain⟨its,rv,pl,hz⟩:=I.list hq;have hlen:=rv.length;rw[Ur] at hlen;have hne:p≠s.heap.objs.size:=U4 pl.lt;refine call_all_walk (wpAny_pyIter_list pl.isList ?_);have pl2:(s.heap.push { cls:=.type "list_iterator",data:=.fields #[.ref p,.int 0 0] }).IsList p its.toArray:=by
  obtain⟨o,k1,k2⟩:=pl.isList;exact⟨o,Ux _ k1,k2⟩
 refine⟨s.heap.objs.size,_,_,_,_,_,λi=>bs.getD i false,rfl,Walks.list (A:=X.A.in1) (I.ok.hd hc) s.heap.objs.size p hne its.toArray,⟨⟨_,Vl _ rfl,rfl,rfl⟩,pl2⟩,?_,λh' tk hk=>?_⟩
 .intro i v s' Q' E' hv hQ
  have hv':its[i]?=some v:=by simpa using hv
  have hi:i<its.length:=(Uw.mp hv').1;obtain⟨w,e1,e2⟩:=rv.get (show(bs.map V.bl)[i]?=some (V.bl (bs.getD i false)) by
   rw[UD,Uz (by omega)];simp [List.getD,Uz (show i<bs.length by omega)])
  rw[hv'] at e1;cases e1;obtain rfl:v=Vw _:=e2;exact Vp hQ
 .have hall:(VO its.toArray.size).all (λi=>bs.getD i false)=bs.all id:=by
   rw[UK,←hlen];exact wF bs
  rw[hall];exact⟨.bl _,H,I.kept (t':=tk) (λb o e=>hk b o (by simp only[Vr];exact U4 (UJ e)) (Ux _ e)),rfl,q⟩
noncomputable def ig:List D->Option (List Bool)
 |[]=>some []
 |.bl b::r=>(ig r).map (b::·)
 |_=>none
theorem wx{K:Up}{H:Hp}:∀{ds:List D}{bs:List Bool}{vs:List V},ig ds=some bs->Reps K H ds vs->vs=bs.map V.bl
 |[],bs,vs,h,r=>by cases h;exact Reps.nil_iff.mp r
 |d::ds,bs,vs,h,r=>by
  obtain⟨v,r',rfl,h1,h2⟩:=aJ.mp r;cases d with
  |bl x =>
   unfold ig at h;cases e:ig ds with
   |none=>rw[e] at h;cases h
   |some zs =>
    rw[e] at h;cases h;rw[aL.mp h1,wx e h2];rfl
  |_=>cases h
noncomputable def LV(x:D):ai D:=match x with
 |.lst ds=>match ig ds with
  |some bs=>.ok (.bl (bs.all id))
  |none=>.stuck
 |_=>.stuck
theorem OJ:gk X E (Qb X.K) (m1 LV):=uK λx v H Ha Q hs r q=>by
 cases x with
 |lst ds =>
  unfold LV at q;obtain⟨p,vs,rfl,h1,h2⟩:=aH.mp r;cases e:ig ds with
  |none=>simp only[e] at q;exact q.elim
  |some bs =>
   simp only[e] at q;exact⟨p,bs,rfl,by rw[←wx e h2];exact aB.sqL hs h1,bj hs q (rb _)⟩
 |_=>exact q.elim
end
end DL
namespace L2
open PySem PySem.Spec PyProof.Rows
section
variable {κ:Type}[DecidableEq κ]
noncomputable def qc(kvs:List (κ×V)) (k:κ):Option V:=(kvs.find? λkv=>decide (kv.1=k)).map (·.2)
noncomputable def iK(kvs:List (κ×V)) (k:κ) (v:V):List (κ×V) :=
 if(kvs.any λkv=>decide (kv.1=k))=true then kvs.map (λkv=>if kv.1=k then(kv.1,v) else kv) else kvs++[(k,v)]
theorem md{p:κ×V}{r:List (κ×V)}{k:κ}(e:p.1=k):qc (p::r) k=some p.2:=by simp [qc,Wu,e]
theorem jQ{p:κ×V}{r:List (κ×V)}{k:κ}(e:¬p.1=k):qc (p::r) k=qc r k:=by simp [qc,Wu,e]
theorem yR(k:κ):∀kvs:List (κ×V),(kvs.any λkv=>decide (kv.1=k))=(qc kvs k).isSome
 |[]=>rfl
 |p::r=>by
  rw[Wb]
  by_cases e:p.1=k
  .simp only[md e,decide_eq_true e,Bool.true_or,Wx]
  .rw[jQ e,decide_eq_false e,Yk];exact yR k r
theorem kc(kvs:List (κ×V))(k:κ)(v:V):(iK kvs k v).length<=kvs.length+1:=by
 unfold iK;split
 .rw[Ur];omega
 .rw[U6,UI,VS];omega
theorem vh.isSome_eq(r:vh o u):o.isSome=u.isSome:=by
 cases o with
 |none=>cases u with
  |none=>rfl
  |some _=>exact(show False from r).elim
 |some _=>cases u with
  |none=>exact(show False from r).elim
  |some _=>rfl
theorem KV.val{kvs:List (κ×V)}{vs:List (κ×Value)}(r:KV kvs vs)(k:κ):vh (qc kvs k) (valueAt vs k):=by
 unfold KV at r
 induction r with
 |nil=>exact VN
 |@cons p q ps qs h t ih =>
  obtain⟨h1,h2⟩:=h
  by_cases e:p.1=k
  .have e':q.1=k:=h1.symm.trans e
   have b:valueAt (q::qs) k=some q.2:=by simp [valueAt,Wu,e']
   rw[md e,b];exact h2
  .have e':¬q.1=k:=λz=>e (h1.trans z)
   have b:valueAt (q::qs) k=valueAt qs k:=by simp [valueAt,Wu,e']
   rw[jQ e,b];exact ih
theorem KV.any{kvs:List (κ×V)}{vs:List (κ×Value)}(r:KV kvs vs)(k:κ):(kvs.any λkv=>decide (kv.1=k))=vs.any λkv=>decide (kv.1=k):=by
 unfold KV at r
 induction r with|nil=>rfl|cons h t ih=>rw[Wb,Wb,ih,h.1]
theorem KV.repl{kvs:List (κ×V)}{vs:List (κ×Value)}(r:KV kvs vs)(k:κ){y:V}{u:Value}(ry:bu y u) :
  KV (kvs.map λkv=>if kv.1=k then(kv.1,y) else kv) (vs.map λkv=>if kv.1=k then(kv.1,u) else kv):=by
 unfold KV at r ⊢
 induction r with
 |nil=>exact .nil
 |@cons p q ps qs h t ih =>
  rw[UG,UG];refine .cons ?_ ih;obtain⟨h1,h2⟩:=h
  by_cases e:p.1=k
  .rw[if_pos e,if_pos (h1.symm.trans e)];exact⟨h1,ry⟩
  .rw[if_neg e,if_neg (λz=>e (h1.trans z))];exact⟨h1,h2⟩
theorem KV.put{kvs:List (κ×V)}{vs:List (κ×Value)}(r:KV kvs vs)(k:κ){y:V}{u:Value}(ry:bu y u):KV (iK kvs k y) (stored vs k u):=by
 unfold iK stored;rw[r.any k]
 by_cases e:(vs.any λkv=>decide (kv.1=k))=true
 .rw[if_pos e,if_pos e];exact r.repl k ry
 .rw[if_neg e,if_neg e];exact Paired.snoc r ⟨rfl,ry⟩
theorem KV.length{kvs:List (κ×V)}{vs:List (κ×Value)}(r:KV kvs vs):kvs.length=vs.length:=Xr r
end
theorem vP{k:gh}(r:bu (kV k) u):(cI P w).is k u=true:=by
 cases k with|inl i=>obtain⟨t,e⟩:=(show ∃t,u=VM i t from r);subst e;exact zP P w i t|inr x=>obtain⟨t,e⟩:=(show ∃t,u=VL x t from r);subst e;exact zO P w x t
theorem vR:∀{ks:List gh}{us:List Value},bH (ks.map kV) us->ItemsAre (cI P w) ks us
 |[],_,r=>by rw[VP] at r;cases r;exact .nil
 |k::ks,_,r=>by
  rw[UG] at r;cases r with|cons h t=>exact .cons (vP h) (vR t)
noncomputable abbrev KT(H:Hp):List (List gh×V)->List (List gh×Addr×Value)->Prop:=Paired λp q=>p.1=q.1/\H q.2.1=some (.tup (p.1.map kV))/\bu p.2 q.2.2
theorem KT.val(r:KT H kvs xs)(k:List gh):vh (qc kvs k) ((atKey xs k).map (·.2)):=by
 induction r with
 |nil=>exact VN
 |@cons p q ps qs h t ih =>
  obtain⟨h1,_,h2⟩:=h
  by_cases e:p.1=k
  .have e':q.1=k:=h1.symm.trans e
   have b:atKey (q::qs) k=some q.2:=by simp [atKey,Wu,e']
   rw[md e,b];exact h2
  .have e':¬q.1=k:=λz=>e (h1.trans z)
   have b:atKey (q::qs) k=atKey qs k:=by simp [atKey,Wu,e']
   rw[jQ e,b];exact ih
theorem KT.repl(r:KT H kvs xs)(k:List gh)(ry:bu y u) :
  KT H (kvs.map λkv=>if kv.1=k then(kv.1,y) else kv) (xs.map (putAt k u)):=by
 induction r with
 |nil=>exact .nil
 |@cons p q ps qs h t ih =>
  rw[UG,UG];refine .cons ?_ ih;obtain⟨h1,h2,h3⟩:=h;unfold putAt
  by_cases e:p.1=k
  .rw[if_pos e,if_pos (h1.symm.trans e)];exact⟨h1,h2,ry⟩
  .rw[if_neg e,if_neg (λz=>e (h1.trans z))];exact⟨h1,h2,h3⟩
theorem KT.put(r:KT H kvs xs)(k:List gh)(hb:H b=some (.tup (k.map kV)))(ry:bu y u) :
  KT H (iK kvs k y) (storedH xs k b u):=by
 have e:(kvs.any λkv=>decide (kv.1=k))=(atKey xs k).isSome:=by
  rw[yR,(r.val k).isSome_eq,V1]
 unfold iK storedH;rw[e]
 by_cases q:(atKey xs k).isSome=true
 .rw[if_pos q,if_pos q];exact r.repl k ry
 .rw[if_neg q,if_neg q];exact Paired.snoc r ⟨rfl,hb,ry⟩
theorem KT.keeps(r:KT H kvs xs)(ht:∀b ys,H b=some (.tup ys)->H' b=some (.tup ys)):KT H' kvs xs :=
 kN r λ_ _ z=>⟨z.1,ht _ _ z.2.1,z.2.2⟩
section
variable {P:Program}{w:World}{H:Hp}{h:Heap}{a:Addr}
theorem Ms(ok:fP P w H h)(e:Rd H a u):bN P w H h a u:=e.ok ok
theorem AK(ok:fP P w H h)(e:Rd H a (.dK kvs)):kvs.length<=sizeLine/\(a==sysModules)=false/\∃vs,KV kvs vs/\h.DictOf (cI P w) a vs :=
 show bN P w H h a (.dK kvs) from Ms ok e
theorem MV(ok:fP P w H h)(e:H a=some (.dK kvs)):kvs.length<=sizeLine/\(a==sysModules)=false/\∃vs,KV kvs vs/\h.DictOf (cI P w) a vs:=AK ok (.inl e)
theorem sv(ok:fP P w H h)(e:H a=some (.tup (ks.map kV))):(tupleKind (cI P w)).is h ks a:=by
 obtain⟨_,its,r,o,h1,h2,n,h3⟩:=(show bN P w H h a (.tup (ks.map kV)) from ok a _ e)
 exact⟨o,its.toArray,n,h1,h2,h3,by simpa using vR r⟩
theorem AH(ok:fP P w H h)(e:Rd H a (.dT kvs)):kvs.length<=sizeLine/\(a==sysModules)=false /\
  ∃xs,KT H kvs xs/\h.DictOfH (tupleKind (cI P w)) a xs:=by
 obtain⟨z,y,xs,r,o,es,ep,h1,h2,h3,h4,h5⟩:=(show bN P w H h a (.dT kvs) from Ms ok e)
 refine⟨z,y,xs,r,o,es,ep,h1,h2,h3,h4,λx hx=>?_,h5⟩;have all:∀{l:List (List gh×V)}{m:List (List gh×Addr×Value)},KT H l m->∀x∈m,(tupleKind (cI P w)).is h x.1 x.2.1:=by
  intro l m q
  induction q with
  |nil=>intro x hx;exact nomatch hx
  |@cons p q ps qs hq t ih =>
   intro x hx;rcases Uv.mp hx with e|hx
   .subst e
    exact sv ok (by rw[←hq.1];exact hq.2.1)
   .exact ih x hx
 exact all r x hx
theorem Q8(ok:fP P w H h)(e:H a=some (.dT kvs)):kvs.length<=sizeLine/\(a==sysModules)=false /\
  ∃xs,KT H kvs xs/\h.DictOfH (tupleKind (cI P w)) a xs:=AH ok (.inl e)
end
noncomputable def yz(H:Hp) (a:Addr) (y:V) (r:Option V):Prop :=
 (∃kvs k,Rd H a (.dK kvs)/\y=kV k/\r=qc kvs k)∨∃kvs k b,Rd H a (.dT kvs)/\y=.ref b/\H b=some (.tup (k.map kV))/\r=qc kvs k
noncomputable def Gd(H:Hp) (a:Addr) (y v:V) (H':Hp):Prop :=
 (∃kvs k,H a=some (.dK kvs)/\y=kV k/\kvs.length<sizeLine/\H'=upd H a (.dK (iK kvs k v))) ∨
 ∃kvs k b,H a=some (.dT kvs)/\y=.ref b/\H b=some (.tup (k.map kV))/\kvs.length<sizeLine/\H'=upd H a (.dT (iK kvs k v))
theorem Gd.k{k:gh}(e:H a=some (.dK kvs))(hl:kvs.length<sizeLine):Gd H a (kV k) v (upd H a (.dK (iK kvs k v))):=.inl ⟨kvs,k,e,rfl,hl,rfl⟩
section
variable {X:Cx}{pins:List (Addr×Obj)}{σ:St}{H:Hp}{s:Shared}{a:Addr}{y v:V}{u r:Value}{o:Option V}{A:Around}{E:Value->Shared->Prop}
theorem Inv.big(I:Inv X pins σ H s):sysModules<s.heap.objs.size:=by
 have h:mainGlobals<s.heap.objs.size:=(I.mod.glob.keeps I.bk).lt;exact WU (by decide) h
theorem FW(hu:A.units+1<cLine)(I:Inv X pins σ H s)(g:yz H a y (some v))(ry:bu y u)(h:∀w' s',Inv X pins σ H s'->bu v w'->Q w' s') :
  wpAny (model X.prog X.w) A (getItem (.ref a) u) Q E s:=by
 rcases g with⟨kvs,k,e,ey,l⟩|⟨kvs,k,b,e,ey,eb,l⟩
 .subst ey
  obtain⟨z,hd,vs,rel,dd⟩:=AK I.hok e;obtain⟨w',hw,rw'⟩:=jF (v:=v) (o:=valueAt vs k) (by rw[l];exact rel.val k);exact wpAny_getItem_of (vP ry) dd.mapOf hw (h w' _ (I.tok _) rw')
 .subst ey
  cases (show u=UZ b from ry);obtain⟨z,hd,xs,rel,dd⟩:=AH I.hok e;obtain⟨w',hw,rw'⟩:=jF (v:=v) (o:=(atKey xs k).map (·.2)) (by rw[l];exact rel.val k);obtain⟨p,hp,hp2⟩:=Ys.mp hw;refine wpAny_getItem_heap (tupleKind_room_in1 hu) (sv I.hok eb) dd hp ?_;rw[hp2];exact h w' _ (I.tok _) rw'
theorem SN(hu:A.units+1<cLine)(I:Inv X pins σ H s)(g:yz H a y o)(ry:bu y u)(h:∀s',Inv X pins σ H s'->Q (.bool o.isSome) s') :
  wpAny (model X.prog X.w) A (compareOp .In u (.ref a)) Q E s:=by
 rcases g with⟨kvs,k,e,ey,l⟩|⟨kvs,k,b,e,ey,eb,l⟩
 .subst ey
  obtain⟨z,hd,vs,rel,dd⟩:=AK I.hok e;refine wpAny_in_of (vP ry) hd dd.mapOf ?_;rw[←(rel.val k).isSome_eq,←l];exact h _ (I.tok _)
 .subst ey
  cases (show u=UZ b from ry);obtain⟨z,hd,xs,rel,dd⟩:=AH I.hok e;refine wpAny_in_heap (tupleKind_room_in1 hu) (sv I.hok eb) hd dd ?_;have q:=(rel.val k).isSome_eq;rw[V1] at q;rw[←q,←l];exact h _ (I.tok _)
theorem LQ(hu:A.units+1<cLine)(I:Inv X pins σ H s)(g:yz H a y o)(ry:bu y u)(h:∀s',Inv X pins σ H s'->Q (.bool (!o.isSome)) s') :
  wpAny (model X.prog X.w) A (compareOp .NotIn u (.ref a)) Q E s:=by
 rcases g with⟨kvs,k,e,ey,l⟩|⟨kvs,k,b,e,ey,eb,l⟩
 .subst ey
  obtain⟨z,hd,vs,rel,dd⟩:=AK I.hok e;refine wpAny_notIn_of (vP ry) hd dd.mapOf ?_;rw[←(rel.val k).isSome_eq,←l];exact h _ (I.tok _)
 .subst ey
  cases (show u=UZ b from ry);obtain⟨z,hd,xs,rel,dd⟩:=AH I.hok e;refine wpAny_notIn_heap (tupleKind_room_in1 hu) (sv I.hok eb) hd dd ?_;have q:=(rel.val k).isSome_eq;rw[V1] at q;rw[←q,←l];exact h _ (I.tok _)
theorem yn(I:Inv X pins σ H s)(mu:OZ (H a))(hs:WI a s.heap h')(he:∃q,h'.get? a=some q)(new:bN X.prog X.w (upd H a ob) h' a ob) :
  Inv X pins σ (upd H a ob) { s with heap:=h',toks:=t' } :=
 I.write (x:=a) (e:=a) mu (.inl rfl) (λb q hb z=>(hs.2 b hb).trans z) he new
theorem Jh(z:kvs.length<=sizeLine)(hd:(a==sysModules)=false)(rel:KV kvs vs)(dd:h'.DictOf (cI P w) a vs) :
  bN P w H' h' a (.dK kvs):=⟨z,hd,vs,rel,dd⟩
theorem FV(hu:A.units+1<cLine)(I:Inv X pins σ H s)(g:Gd H a y v H')(ry:bu y u)(rv:bu v r)(h:∀s',Inv X pins σ H' s'->Q () s') :
  wpAny (model X.prog X.w) A (setItem (.ref a) u r) Q E s:=by
 rcases g with⟨kvs,k,e,ey,l,eH⟩|⟨kvs,k,b,e,ey,eb,l,eH⟩
 .subst ey eH
  obtain⟨z,hd,vs,rel,dd⟩:=MV I.hok e;have hz:vs.length<=sizeLine:=by rw[←rel.length];exact z
  have hl:(iK kvs k v).length<=sizeLine:=by have:=kc kvs k v;omega
  refine wpAny_setItem_pairs (hsz:=hz) (vP ry) dd λh' dd' hs=>h _ ?_;have he:∃q,h'.get? a=some q:=let ⟨q,_,_,hq,_⟩:=dd';⟨q,hq⟩;exact yn I (by rw[e];exact VN) hs he (Jh hl hd (rel.put k rv) dd')
 .subst ey eH
  cases (show u=UZ b from ry);obtain⟨z,hd,xs,rel,dd⟩:=Q8 I.hok e;have hz:xs.length<=sizeLine:=by rw[←Xr rel];exact z
  have hl:(iK kvs k v).length<=sizeLine:=by have:=kc kvs k v;omega
  refine wpAny_setItem_heap (hsz:=hz) (tupleKind_room_in1 hu) (sv I.hok eb) dd λh' dd' hs=>h _ ?_;obtain⟨q,es,ep,hq,h2,h3,h4,_,h5⟩:=dd';refine yn I (by rw[e];exact VN) hs ⟨q,hq⟩ ⟨hl,hd,_,(rel.put k eb rv).keeps λc ys ec=>?_,q,es,ep,hq,h2,h3,h4,h5⟩;rw[aq (Qz ec e (λz=>nomatch z))];exact ec
end
section
variable {X:Cx}{pins:List (Addr×Obj)}{σ:St}{H:Hp}{s:Shared}{a:Addr}{kvs:List (gh×V)}{k:gh}{u:Value}{A:Around}{E:Value->Shared->Prop}
end
noncomputable def OW(i:Expr):Prop:=∀ov iv,subscripted i false ov iv=operate [ov,iv] (getItem ov iv)
theorem Kp{T id:String} 
  (hl:typeLookup (.type T) "__getitem__"=pure (some (.builtin id)))(hs:OW slice)
  (h:wpAny (model prog w) A (eval value env) (λo sg=>wpAny (model prog w) A (eval slice env) (λi si=>si.TypeIs o T/\wpAny (model prog w) A (getItem o i) Q E si) E sg) E s) :
  wpAny (model prog w) A (eval (.Subscript value slice pos) env) Q E s:=by
 refine Subscript_ (Vh h (λo sg hG=>Vh hG (λi si hU=>?_) λ_ _ x=>x) λ_ _ x=>x);obtain⟨hT,hU⟩:=hU;unfold subscriptTail;refine Uq ?_;rw[getitemInPython_of_ne hT.not_modules];refine Uq (wpAny_specialOf hT hl ?_);have fin:wpAny (model prog w) A (subscripted slice false o i) (λr sj=>wpAny (model prog w) A (letTemporaryGo value o r >>= λ_=>pure r) Q E sj) E si:=by
  rw[hs o i];exact wpAny_operating (Vh hU (λr sj hV=>Uq (wpAny_letTemporaryGo (UL hV))) λ_ _ x=>x)
 first
  |exact UL (Uq fin)
  |exact Uq (UL (Uq fin))
  |exact Uq fin
theorem AM(I:Inv X pins σ H s)(g:yz H a y o):s.TypeIs (.ref a) "dict":=by
 rcases g with⟨kvs,k,e,_,_⟩|⟨kvs,k,b,e,_,_,_⟩
 .obtain⟨_,_,vs,_,dd⟩:=AK I.hok e
  exact dd.typeIs
 .obtain⟨_,_,xs,_,dd⟩:=AH I.hok e
  exact dd.typeIs
noncomputable def PJ(td ty:TE):TE:=λσ H Q=>td σ H λx H1=>ty σ H1 λy H2=>∃a v,x=.ref a/\yz H2 a y (some v)/\Q v H2
noncomputable def PZ(td ty tv:TE):TS:=λD σ H=>tv σ H λv H1=>td σ H1 λx H2=>ty σ H2 λy H3=>∃a H4,x=.ref a/\Gd H3 a y v H4/\D.nx σ H4
section
variable {X:Cx}{o i e value:Expr}{pos pos' tpos:Pos}{td ty tv:TE}
theorem KS(hu:X.A.units+1<cLine)(ho:PE X o td)(hi:PE X i ty)(hs:OW i):PE X (.Subscript o i pos) (PJ td ty):=by
 intro pins s σ H Q I h;refine Kp PySem.F.slot_dict_getitem.lookup hs (cj (ho pins s σ H _ I h) λu s1 ⟨x,H1,I1,rx,q1⟩=>cj (hi pins s1 σ H1 _ I1 q1) λiv s2 z9=>?_);obtain⟨y,H2,I2,ry,a,v,ex,g,q2⟩:=z9;subst ex;obtain rfl:u=UZ a:=rx;exact⟨AM I2 g,FW hu I2 g ry λw' s3 I3 rw'=>⟨v,H2,I3,rw',q2⟩⟩
theorem KD(hu:X.A.units+1<cLine)(ho:PE X o td)(hi:PE X i ty)(hv:PE X value tv)(hs:swapsWith value (some (.Subscript o i pos')) pos.line X.env=pure false) :
  PS X (.Assign [.Subscript o i pos'] value pos) (PZ td ty tv):=by
 intro pins s σ H D I h;refine wpAny_Assign_Subscript (cj (hv pins s σ H _ I h) λr s1 ⟨v,H1,I1,rv,q1⟩=>cj (ho pins s1 σ H1 _ I1 q1) λu s2 ⟨x,H2,I2,rx,q2⟩=>cj (hi pins s2 σ H2 _ I2 q2) λiv s3 z9=>?_) hs;obtain⟨y,H3,I3,ry,a,H4,ex,g,q3⟩:=z9;subst ex;obtain rfl:u=UZ a:=rx;exact FV hu I3 g ry rv λs4 I4=>⟨σ,H4,I4,q3⟩
end
theorem AL(h:Heap)(hb:sysModules<h.objs.size):bN P w H (h.push { cls:=.type "dict",data:=.dict #[] }) h.objs.size (.dK []) :=
 ⟨VU _,beq_eq_false_iff_ne.mpr (U5 (U4 hb)),[],.nil,Heap.DictOf.new h⟩
noncomputable def Nl:TE:=λ_ H Q=>∀p,H p=none->Q (.ref p) (upd H p (.dK []))
section
variable {X:Cx}{pos:Pos}
theorem zp:PE X (.Dict [] [] pos) Nl:=λpins s σ H Q I h =>
 wpAny_Dict_empty ⟨.ref s.heap.objs.size,_,I.laid (a:=s.heap.objs.size) (o:=.dK []) (t':=s.toks) (λ_ _ q=>Ux _ q) (UB _) (AL s.heap I.big),rfl,h _ (I.hok.fresh (UB _))⟩
end
noncomputable def Bg:List (TE×TE)->St->Hp->(List (V×V)->Hp->Prop)->Prop
 |[],_,H,Q=>Q [] H
 |(tk,tv)::r,σ,H,Q=>tk σ H λx H1=>tv σ H1 λy H2=>Bg r σ H2 λps H3=>Q ((x,y)::ps) H3
noncomputable abbrev VV:List (V×V)->List (Value×Value)->Prop:=Paired λp q=>bu p.1 q.1/\bu p.2 q.2
noncomputable def RT(X:Cx) (pos:Pos) (keys:List (Option Expr)) (values:List Expr) (trs:List (TE×TE)):Prop :=
 ∀(pins:List (Addr×Obj)) (s:Shared) (σ:St) (H:Hp) (Q:List (V×V)->Hp->Prop),Inv X pins σ H s->Bg trs σ H Q ->
  wpAny (model X.prog X.w) X.A (evalPairs (pairTrees keys values X.env pos)) (λvs s'=>∃ps H',Inv X pins σ H' s'/\VV ps vs/\Q ps H') X.xe s
theorem KG:RT X pos [] [] []:=λpins s σ H Q I h=>pairTrees_nil_walk ⟨[],H,I,.nil,h⟩
theorem Hw{k v:Expr}(hk:PE X k tk)(hv:PE X v tv)(hr:RT X pos ks vs trs) :
  RT X pos (some k::ks) (v::vs) ((tk,tv)::trs):=λpins s σ H Q I h =>
 pairTrees_cons_walk (cj (hk pins s σ H _ I h) λu s1 ⟨x,H1,I1,rx,q1⟩=>cj (hv pins s1 σ H1 _ I1 q1) λw2 s2 ⟨y,H2,I2,ry,q2⟩ =>
  cj (hr pins s2 σ H2 _ I2 q2) λws s3 ⟨ps,H3,I3,rel,q3⟩=>⟨(x,y)::ps,H3,I3,.cons ⟨rx,ry⟩ rel,q3⟩)
noncomputable def rW(kvs more:List (gh×V)):List (gh×V):=more.foldl (λacc kv=>iK acc kv.1 kv.2) kvs
theorem KV.merge:∀{more:List (gh×V)}{rs:List (gh×Value)}{kvs:List (gh×V)}{vs:List (gh×Value)},KV more rs->KV kvs vs->KV (rW kvs more) (merged vs rs):=by
 intro more rs kvs vs r;unfold KV at r
 induction r generalizing kvs vs with
 |nil=>intro q;exact q
 |@cons p q ps qs h t ih =>
  intro r0;have e:KV (iK kvs p.1 p.2) (stored vs q.1 q.2):=by
   have:=r0.put p.1 h.2;rw[←h.1];exact this
  exact ih e
theorem lD:∀(more kvs:List (gh×V)),(rW kvs more).length<=kvs.length+more.length
 |[],kvs=>by show kvs.length<=kvs.length+0;omega
 |p::r,kvs=>by
  have h1:=lD r (iK kvs p.1 p.2);have h2:=kc kvs p.1 p.2;show(rW (iK kvs p.1 p.2) r).length<=_;rw[UI];omega
theorem uI:∀{kvs:List (gh×V)}{ws:List (Value×Value)},VV (kvs.map λkv=>(kV kv.1,kv.2)) ws->∃rs,Carries (cI P w) ws rs/\KV kvs rs
 |[],_,r=>by rw[VP] at r;cases r;exact⟨[],VN,.nil⟩
 |p::kvs,_,r=>by
  rw[UG] at r;cases r with
  |@cons a b as bs h t =>
   obtain⟨rs,c,q⟩:=uI (P:=P) (w:=w) t;obtain⟨b1,b2⟩:=b;exact⟨(p.1,b2)::rs,⟨vP h.1,rfl,c⟩,.cons ⟨rfl,h.2⟩ q⟩
noncomputable def PH(trs:List (TE×TE)):TE:=λσ H Q=>∀p,H p=none->Bg trs σ (upd H p (.dK [])) λps H2=>H2 p=some (.dK [])/\∃kvs:List (gh×V),ps=kvs.map (λkv=>(kV kv.1,kv.2))/\kvs.length<=15/\Q (.ref p) (upd H2 p (.dK (rW [] kvs)))
theorem KR(h:RT X pos keys values trs)(hall:keys.all (·.isSome)=true)(hl:keys.length=values.length)(h0:keys≠[])
  (h15:keys.length<=15):PE X (.Dict keys values pos) (PH trs):=by
 intro pins s σ H Q I q;have hn:=I.hok.fresh (UB s.heap.objs.size);have I1:=I.laid (a:=s.heap.objs.size) (o:=.dK []) (h':=s.heap.push { cls:=.type "dict",data:=.dict #[] }) (t':=s.toks) (λ_ _ q=>Ux _ q) (UB _) (AL s.heap I.big);refine wpAny_Dict_walk (knd:=cI X.prog X.w) hall hl h0 h15 (cj (h pins _ σ _ _ I1 (q _ hn)) λws s2 ⟨ps,H2,I2,rel,e,kvs,ep,lk,q2⟩=>?_);subst ep;obtain⟨rs,c,rk⟩:=uI (P:=X.prog) (w:=X.w) rel;obtain⟨z,hd,vs0,r0,dd⟩:=MV I2.hok e;cases r0;refine⟨rs,c,dd,λh' dd' hs=>⟨.ref s.heap.objs.size,_,?_,rfl,q2⟩⟩;have hz:(rW [] kvs).length<=sizeLine:=by
  have h1:=lD kvs [];rw[VS] at h1;rw[sizeLine_eq];omega
 have he:∃q,h'.get? s.heap.objs.size=some q:=let ⟨q,_,_,hq,_⟩:=dd';⟨q,hq⟩;exact yn I2 (by rw[e];exact VN) hs he (Jh hz hd (rk.merge .nil) dd')
section
variable {X:Cx}{pins:List (Addr×Obj)}{σ:St}{H:Hp}{s:Shared}{a:Addr}{y d:V}{u r:Value}{o:Option V}{A:Around}{E:Value->Shared->Prop}
end
section
variable {X:Cx}{o e f:Expr}{apos cpos:Pos}{td ty tx:TE}
end
section
variable {X:Cx}{pins:List (Addr×Obj)}{σ:St}{H:Hp}{s:Shared}{a:Addr}{kvs:List (gh×V)}{A:Around}{E:Value->Shared->Prop}
end
section
variable {X:Cx}{pins:List (Addr×Obj)}{σ:St}{H:Hp}{s:Shared}{a:Addr}{y:V}{u:Value}{A:Around}{E:Value->Shared->Prop}
end
end L2
namespace DL
open PySem PySem.Spec PyProof.Rows L2
theorem A2{K:Up}:Rep K H (.dic ks ds) v↔∃a kvs vs,v=.ref a/\Rd H a (.dK kvs)/\kvs=(ks.map Vg).zip vs/\ks.length=vs.length/\Reps K H ds vs:=by rw[Rep]
section
variable {X:Cx}{E:XK}{e:Expr}{f:Ev->ai D}{pos p1:Pos}
theorem D7:DE X E (.Dict [] [] pos) (dC (.dic [] [])):=by
 refine⟨?_⟩;refine aX zp λσ H Q ⟨Ha,ρ,hs,hr,q⟩ p hp=>?_;exact q _ _ _ (aO hs hp) (A2.mpr ⟨p,[],[],rfl,.inl aw,rfl,rfl,Reps.nil⟩)
noncomputable def dOne(x:Str) (d:D):ai D:=.ok (.dic [x] [d])
end
noncomputable def gQ(cells:List (Str×Addr)):List (Str×NameKind)->List (Str×Addr)->List (Str×Addr)
 |[],acc=>acc
 |(n,k)::r,acc=>if(k==VW)=true then gQ cells r ((n,(cells.lookup n).getD 0)::acc) else gQ cells r acc
theorem lE(h:∀x∈scope.names,x.2=.free->∃c,env.cells.lookup x.1=some c):closureFor scope env=pure (gQ env.cells scope.names []):=by
 simp only[closureFor];have key:∀(names:List (Str×NameKind)) (acc:List (Str×Addr)),(∀x∈names,x.2=.free->∃c,env.cells.lookup x.1=some c) ->
   (forIn names acc λ(x:Str×NameKind) (z:List (Str×Addr)) =>
      if(x.snd==VW)=true then do
       let y ←cellOf env x.fst
       pure (Wv ((x.fst,y)::z))
      else(pure (Wv z):Sem _))=pure (gQ env.cells names acc):=by
  intro names
  induction names with
  |nil=>intro acc _;rfl
  |cons x r ih =>
   intro acc hh;obtain⟨n,k⟩:=x;rw[List.forIn_cons]
   by_cases hk:(k==VW)=true
   .obtain⟨c,hc⟩:=hh (n,k) UM (by simpa using hk)
    have hcell:cellOf env n=pure c:=by unfold cellOf;rw[show env.cells.lookup n=some c from hc]
    simp only[hk,if_true];rw[hcell];have:=ih ((n,c)::acc) (λy hy=>hh y (Uu _ hy));rw[show gQ env.cells ((n,k)::r) acc=gQ env.cells r ((n,c)::acc) by
     show(if(k==VW)=true then _ else _)=_;rw[if_pos hk,show env.cells.lookup n=some c from hc];rfl]
    rw[←this];rfl
   .have:=ih acc (λy hy=>hh y (Uu _ hy))
    rw[if_neg hk];rw[show gQ env.cells ((n,k)::r) acc=gQ env.cells r acc by
     show(if(k==VW)=true then _ else _)=_;rw[if_neg hk]]
    rw[←this];rfl
 rw[key _ _ h];rfl
theorem uF{cells:List (Str×Addr)}:∀{names:List (Str×NameKind)}{acc:List (Str×Addr)}{x:Str}{c:Addr},(∀y∈names,y.2=.free->∃c,cells.lookup y.1=some c) ->
  (gQ cells names acc).lookup x=some c->acc.lookup x=some c∨cells.lookup x=some c
 |[],acc,x,c,_,h=>.inl h
 |(n,k)::r,acc,x,c,hh,h=>by
  unfold gQ at h
  by_cases hk:(k==VW)=true
  .rw[if_pos hk] at h
   obtain⟨d,hd⟩:=hh (n,k) UM (by simpa using hk);rcases uF (λy hy=>hh y (Uu _ hy)) h with h|h
   .rw[VB] at h
    cases e:x==n with
    |true =>
     rw[e] at h;rw[show cells.lookup n=some d from hd] at h;cases h;rw[eq_of_beq e];exact .inr hd
    |false=>rw[e] at h;exact .inl h
   .exact .inr h
  .rw[if_neg hk] at h
   exact uF (λy hy=>hh y (Uu _ hy)) h
theorem pJ{α:Type}:∀{l:List (Str×α)},(∃v,(x,v)∈l)->∃v,l.lookup x=some v
 |[],⟨v,h⟩=>by cases h
 |(n,w)::r,⟨v,h⟩=>by
  rw[VB];cases e:x==n with
  |true=>exact⟨w,rfl⟩
  |false =>
   rcases Uv.mp h with h|h
   .cases h;simp at e
   .exact pJ ⟨v,h⟩
theorem uH:∀{names:List (Str×NameKind)}{acc:List (Str×Addr)},(x,c)∈acc->(x,c)∈gQ cells names acc
 |[],acc,h=>h
 |(n,k)::r,acc,h=>by
  unfold gQ
  by_cases hk:(k==VW)=true
  .rw[if_pos hk];exact uH (Uu _ h)
  .rw[if_neg hk];exact uH h
theorem uG:∀{names:List (Str×NameKind)}{acc:List (Str×Addr)},(x,VW)∈names->∃c,(gQ cells names acc).lookup x=some c:=by
 intro names
 induction names with
 |nil=>intro acc h;cases h
 |cons y r ih =>
  intro acc h;obtain⟨n,k⟩:=y;unfold gQ;rcases Uv.mp h with h|h
  .cases h
   rw[if_pos (by rfl)];exact pJ ⟨_,uH UM⟩
  .by_cases hk:(k==VW)=true
   .rw[if_pos hk];exact ih h
   .rw[if_neg hk];exact ih h
noncomputable def cR(X:Cx) (N:List Str) (scope:Scope) (s:Shared) (H:Hp) (C:Addr) (fp:List Addr) (pn:List (Addr×Obj)):Cx :=
 { X with N:=N,sf:=s,Ha:=H,env:=compEnvC scope (gQ X.env.cells scope.names []) C X.env,outer:=X.stack,stack:=X.stack,ex:=fp,fn:=λ_=>false,pn:=pn,xe:=λ_ _=>False }
noncomputable def jI(n:Nat) (fr:List Nat) (σ:L2.St):L2.St:=U2 n none++fr.map λ(i:Nat)=>(σ[i]?).getD none
noncomputable def Cp(X:Cx) (N:List Str) (n:Nat) (fr:List Nat) (scope:Scope):Prop :=
 N.length=n+fr.length/\((N.drop n).zip fr).all (λp=>X.N[p.2]?==some p.1&&X.env.scope.names.lookup p.1==some .cell&&scope.names.lookup p.1==some .free&&(relabel scope X.env).names.lookup p.1==some .cell)=true
theorem Cp.at{fr:List Nat}(h:Cp X N n fr scope){k:Nat}(hx:N[k]?=some x)(hv:(jI n fr σ)[k]?=some (some v)) :
  ∃i:Nat,X.N[i]?=some x/\σ[i]?=some (some v)/\X.env.scope.names.lookup x=some .cell/\scope.names.lookup x=some .free/\(relabel scope X.env).names.lookup x=some .cell:=by
 unfold jI at hv
 by_cases hk:k<n
 .rw[UH (by simpa using hk),UW,if_pos hk] at hv
  cases hv
 .rw[UN (by simpa using hk),Vj,UD] at hv
  cases hi:fr[k-n]? with
  |none=>rw[hi] at hv;cases hv
  |some i =>
   rw[hi] at hv;have hz:((N.drop n).zip fr)[k-n]?=some (x,i):=by
    rw[List.getElem?_zip_eq_some];exact⟨by rw[List.getElem?_drop,show n+(k-n)=k by omega];exact hx,hi⟩
   have:=U7.mp h.2 _ (UA hz);simp only[UU,beq_iff_eq] at this;refine⟨i,this.1.1.1,?_,this.1.1.2,this.1.2,this.2⟩;simp only[V8,V0] at hv;cases hs:σ[i]? with|none=>rw[hs] at hv;cases hv|some u=>rw[hs] at hv;exact congrArg some hv
noncomputable def Pl(X:Cx) (ifs:List Expr) (t:TT):Prop :=
 ∀(pins:List (Addr×Obj)) (s:Shared) (σ:L2.St) (H:Hp) (Q:Bool->Hp->Prop),Inv X pins σ H s->t σ H Q ->
  wpAny (model X.prog X.w) X.A (forIn ifs true λc r=>if r=true then do let ok ←isTrue c X.env (eval c X.env);pure (Wv ok) else pure (Wv r)) (TP X pins σ Q) X.xe s
noncomputable def GL:TT:=λ_ H Q=>Q true H
theorem CK:Pl X [] GL:=λ_ _ _ H _ I h=>wpAny_tests_nil ⟨H,I,h⟩
theorem KL(h:PT X c t):Pl X [c] t:=λpins s σ H Q I q=>wpAny_tests_one (h pins s σ H Q I q)
theorem uC(I:Nat->Shared->Prop)
  (turn:∀n s,I n s->wpAny (model prog w) A (pyNext it) (λr sg=>match r with
   |none=>R (.ok .next) sg
   |some v=>wpAny (model prog w) A (letOwnedTupleGo target it v) (λ_ sg'=>wpAny (model prog w) A (assign target env v) (λ_ si =>
     wpAny (model prog w) A (forIn ifs true λc r=>if r=true then do let ok ←isTrue c env (eval c env);pure (Wv ok) else pure (Wv r)) (λok sj =>
      if ok=true then wpAny (model prog w) A (eval elt env) (λx sk =>
       wpAny (model prog w) A (call (.builtin "list.append") [acc,x]) (λ_ so=>∃m,m<n/\I m so) (λ_ _=>False) sk) (λ_ _=>False) sj
      else ∃m,m<n/\I m sj) (λ_ _=>False) si) (λ_ _=>False) sg') (λ_ _=>False) sg) (λ_ _=>False) s)
  (n:Nat) (h:I n s) :
  codeAny (model prog w) A (.compLoop (.ListComp elt [⟨target,iter,ifs,0⟩] scope pos) 0 it acc env) R s:=by
 refine codeAny_loop rfl I (λn s hI=>?_) n h;show wpAny _ A ((compTurn (.ListComp elt [⟨target,iter,ifs,0⟩] scope pos) 0 it acc env).onRaise (λx=>do noteFrame x env;theTreesLotGoes x)) _ _ s;refine wpAny_noted ?_;rw[compTurn_list];refine Uq (wpAny_standAt (Uq (Vh (turn n s hI) (λr sg hG=>?_) λ_ _ h'=>h'.elim)));cases r with
 |none=>exact UL hG
 |some v =>
  refine Uq (Vh hG (λ_ sg' hG'=>?_) λ_ _ h'=>h'.elim);refine Uq (Vh hG' (λ_ si hU=>Uq (Vh hU (λok sj hV=>?_) λ_ _ h'=>h'.elim)) λ_ _ h'=>h'.elim);cases ok with
  |false=>exact UL ⟨rfl,hV⟩
  |true =>
   exact Uq (Uq (Vh hV (λx sk hW=>Uq (Vh hW (λ_ so hZ=>UL (UL ⟨rfl,hZ⟩)) λ_ _ h'=>h'.elim)) λ_ _ h'=>h'.elim))
noncomputable def rf(n:Nat) (fr:List Nat) (g:TG) (tt:TT) (te:TE) (J:It) (σ:L2.St) (H1:Hp) (Q:VK):Prop:=∀D,H1 D=none->∃W:Nat->Nat->List V->L2.St->Hp->Prop,(∃m,W 0 m [] (jI n fr σ) (upd H1 D (.lst []))) /\
 ∀i m ys σ' H',W i m ys σ' H'->H' D=some (.lst ys)/\((J.stop i H'/\Q (.ref D) H')∨(J.go i H'/\ys.length<sizeLine/\∀x H2,J.yld i H' x H2->g x σ' H2 λσ3 H3=>tt σ3 H3 λb H4 =>
  if b=true then te σ3 H4 λy H5=>H5 D=some (.lst ys)/\∃m',m' < m/\W (i+1) m' (ys++[y]) σ3 (upd H5 D (.lst (ys++[y])))
  else ∃m',m' < m/\W (i+1) m' ys σ3 H4))
theorem wk{fr:List Nat}(hc:X.calm=true)(hfr:Cp X N n fr scope)
  (hcell:∀x∈scope.names,x.2≠.cell)(hfree:∀x∈scope.names,x.2=.free->X.env.scope.names.lookup x.1=some .cell)(hkind:scope.kind=.function)
  (blk:∀s H C fp pn,PG (cR X N scope s H C fp pn) tg g/\Pl (cR X N scope s H C fp pn) ifs tt/\PE (cR X N scope s H C fp pn) elt te)
  {RR:Value->Addr->Result->Shared->Prop}
  (h2:S0 X pins σ tg (λJ H1=>rf n fr g tt te J σ H1 Q) itv s2)
  (fin:∀(Da C:Addr) (s6:Shared) (H5:Hp) (m:Str->Option Value),Inv X pins σ H5 s6->s6.heap.Ns C m->oj X pins H5 C->Q (.ref Da) H5->RR (.ref Da) C (.ok .next) s6) :
  wpAny (model X.prog X.w) X.A (newList []) (λacc sj=>wpAny (model X.prog X.w) X.A (newFunctionEnv scope X.env.globals (gQ X.env.cells scope.names []) [] X.env.qual none .none (some X.env)) (λcenv sk =>
   codeAny (model X.prog X.w) X.A (.compStart (.ListComp elt [⟨tg,iter,ifs,0⟩] scope pos) 0 itv acc { cenv with scope:=relabel scope X.env }) (RR acc cenv.locals) sk) X.xe sj) X.xe s2:=by
 obtain⟨it,fp,tn,J,H2,e,I2,T,st2,f2,q⟩:=h2;subst e;have hD:H2 s2.heap.objs.size=none:=I2.fresh;refine wpAny_newObj_type ?_;have I3:Inv X pins σ (upd H2 s2.heap.objs.size (.lst [])) { s2 with heap:=s2.heap.push { cls:=.type "list",data:=.seq ([]:List Value).toArray } }:=I2.lnew (t':=s2.toks) (its:=[]) .nil (VU _);obtain⟨W,⟨m0,w0⟩,turn⟩:=q s2.heap.objs.size hD;generalize hs3:({ s2 with heap:=s2.heap.push { cls:=.type "list",data:=.seq ([]:List Value).toArray } }:Shared)=s3 at I3 ⊢;have hs3h:s3.heap=s2.heap.push { cls:=.type "list",data:=.seq ([]:List Value).toArray }:=by rw[←hs3]
 have hDs:s2.heap.objs.size<s3.heap.objs.size:=by rw[hs3h,Heap.size_push];exact Wj _
 have fpl:∀b∈fp,b<s2.heap.objs.size:=λb hb=>by
  obtain⟨o,ho,_⟩:=T.obj _ _ st2 b hb;exact UJ ho
 have kept3:∀b o,s2.heap.get? b=some o->s3.heap.get? b=some o:=λb o e=>by rw[hs3h];exact Ux _ e
 have st3:tn 0 s3.heap:=T.keep _ _ _ st2 λb _ o e=>kept3 b o e;generalize hDa:s2.heap.objs.size=Da at *;generalize hH3:upd H2 Da (.lst [])=H3 at *;have fr3:∀b∈fp,H3 b=none:=λb hb=>by rw[←hH3,aq (U4 (fpl b hb))];exact(f2 b hb).1
 have cls:∀x c,(gQ X.env.cells scope.names []).lookup x=some c->X.env.cells.lookup x=some c:=λx c e=>by
  rcases uF (λy hy hf=>I3.ok.has y.1 (.inl (hfree y hy hf))) e with e|e
  .cases e
  .exact e
 refine wpAny_newFunctionEnv hcell (by intro y hy;simp at hy) (λh4 ns4 sb4=>?_) hkind;have k4:∀b o,s3.heap.get? b=some o->h4.get? b=some o:=λb o e=>(sb4.2 b (U4 (UJ e))).trans (Ux _ e);generalize hC:s3.heap.objs.size=C at *;have hCn:H3 C=none:=I3.hok.fresh (by rw[hC];exact UB _);have ltC:∀b o,s3.heap.get? b=some o->b≠C:=λb o e=>by rw[←hC];exact U4 (UJ e)
 have cellC:∀x c,X.env.cells.lookup x=some c->c≠C:=λx c e=>by
  obtain⟨v,o,ho,_⟩:=I3.cell x c e;exact ltC c o ho
 have fpC:∀b∈fp,b≠C:=λb hb=>by
  have:=fpl b hb;exact U4 (WU this hDs)
 show codeAny (model X.prog X.w) X.A (.compStart (.ListComp elt [⟨tg,iter,ifs,0⟩] scope pos) 0 (.ref it) (.ref Da) (compEnvC scope (gQ X.env.cells scope.names []) C X.env)) _ _;generalize hs4:({ s3 with heap:=h4,toks:=s3.toks+([]:List (Str×Value)).length }:Shared)=s4;have hs4h:s4.heap=h4:=by rw[←hs4]
 have ok:(cR X N scope s3 H3 C fp (X.pn++pins)).Ok:=by
  refine⟨I3.ok.mod,hkind,I3.ok.glob,I3.ok.blt,Nat.le_of_eq hC,λx y c e1 e2=>I3.ok.inj x y c (cls x c e1) (cls y c e2),λx e=>?_,λx c e=>?_,λ_=>I3.ok.hd hc,I3.ok.frames,.inl rfl,λb hb=>⟨fpC b hb,λx c e=>(f2 b hb).2.2.2.2.1 x c (cls x c e)⟩,I3.bs,UO I3.ok.bsz I3.sz,λb o e hb=>?_,λb hb z=>?_,I3.stack,I3.stkFree⟩
  .have mm:∀k:NameKind,(relabel scope X.env).names.lookup x=some k->(k=.cell∨k=.free)->(x,VW)∈scope.names:=λk hk hk2=>by
    have hm:=VT hk;obtain⟨⟨n',k'⟩,hm1,hm2⟩:=UY.mp hm;dsimp only at hm2;split at hm2
    .rename_i hcnd
     cases hm2;simp only[UU,beq_iff_eq] at hcnd;rw[hcnd.1.1] at hm1;exact hm1
    .cases hm2
     rcases hk2 with rfl|rfl
     .exact absurd rfl (hcell _ hm1)
     .exact hm1
   rcases e with e|e
   .exact uG (mm _ e (.inl rfl))
   .exact uG (mm _ e (.inr rfl))
  .cases e
  .rcases(f2 b hb).2.2.2.1 with z|z
   .exact I3.ok.noex b o e z
   .exact absurd (Uy (UJ e) (UO I3.ok.bsz z)) (Wr _)
  .rcases Uv.mp (I3.stkSub b z) with z|z
   .exact(f2 b hb).2.1 z
   .exact(f2 b hb).2.2.1 z
 have I4:Inv (cR X N scope s3 H3 C fp (X.pn++pins)) [] (jI n fr σ) H3 s4:=by
  refine⟨ok,by rw[←hs4];rfl,by rw[←hs4];exact I3.bare,by rw[hs4h];exact Un.kept k4,⟨_,by rw[hs4h];exact ns4,λi x v h1 h2 h3=>?_⟩,λx c e=>?_,hCn,λx c e=>I3.freeC x c (cls x c e),λp hp=>?_,by rw[hs4h];exact I3.hok.kept k4,?_⟩
  .obtain⟨j,j1,j2,j3,j4,j5⟩:=hfr.at h1 h2
   obtain⟨m,hn,hl⟩:=I3.loc;obtain⟨u,ru,l⟩:=hl j x v j1 j2 (.inr (.inl j3));refine⟨u,ru,.inr ⟨.inl j5,?_⟩⟩;rcases l with⟨z,_⟩|⟨_,c,z1,z2⟩
   .rw[show X.env.kindOf x=X.env.scope.names.lookup x from rfl,j3] at z;cases z
   .obtain⟨c',hc'⟩:=uG (cells:=X.env.cells) (names:=scope.names) (acc:=[]) (VT j4)
    have:=cls x c' hc';rw[z1] at this;cases this;obtain⟨oc,q1,q2⟩:=z2;exact⟨c,hc',oc,by rw[hs4h];exact k4 _ _ q1,q2⟩
  .obtain⟨v,oc,q1,q2⟩:=I3.cell x c (cls x c e)
   exact⟨v,oc,by rw[hs4h];exact k4 _ _ q1,q2⟩
  .rw[UT] at hp
   obtain⟨p1,p2,p3,p4,p5⟩:=I3.pin p hp;refine⟨by rw[hs4h];exact k4 _ _ p1,p2,ltC _ _ p1,λz=>?_,p5⟩;rcases Uv.mp (I3.stkSub _ z) with z|z
   .exact p3 z
   .exact p4 z
  .show(jI n fr σ).length=N.length
   unfold jI;rw[U6,Vj,Ur,hfr.1]
 have st4:tn 0 s4.heap:=by rw[hs4h];exact T.keep _ _ _ st3 λb _ o e=>k4 b o e
 have stat:∀{H':Hp},(∀b∈fp,H' b=none)->∀b∈fp,oj (cR X N scope s3 H3 C fp (X.pn++pins)) [] H' b:=λhn b hb=>by
  refine⟨hn b hb,fpC b hb,λz=>?_,.inl hb,λx c e=>(f2 b hb).2.2.2.2.1 x c (cls x c e),λp hp=>?_⟩
  .rcases Uv.mp (I3.stkSub b z) with z|z
   .exact(f2 b hb).2.1 z
   .exact(f2 b hb).2.2.1 z
  .rw[UT] at hp
   exact(f2 b hb).2.2.2.2.2 p hp
 have loop:codeAny (model X.prog X.w) X.A (.compLoop (.ListComp elt [⟨tg,iter,ifs,0⟩] scope pos) 0 (.ref it) (.ref Da) (compEnvC scope (gQ X.env.cells scope.names []) C X.env)) (RR (.ref Da) C) s4:=by
  refine uC (λn s'=>∃i ys σ' H',Inv (cR X N scope s3 H3 C fp (X.pn++pins)) [] σ' H' s'/\tn i s'.heap/\(∀b∈fp,H' b=none)/\W i n ys σ' H') ?_ m0 ⟨0,[],_,H3,I4,st4,fr3,w0⟩;rintro k s5 ⟨i,ys,σ5,H5,I5,st5,fr5,w5⟩;obtain⟨hDl,ways⟩:=turn i k ys σ5 H5 w5;rcases ways with⟨stop,fin'⟩|⟨go,hz,step⟩
  .refine cj (T.done (cR X N scope s3 H3 C fp (X.pn++pins)) rfl rfl rfl hc i [] s5 σ5 H5 (λ_ _=>False) I5 (stat fr5) st5 stop) λr s6 ⟨hr,I6⟩=>?_
   subst hr;obtain⟨mm,nsm,_⟩:=I6.loc;have free6:H5 C=none:=I6.free;have hok:fP X.prog X.w H5 s6.heap:=I6.hok;have un:Un (gZ X.stack) fp H3 H5 s3.heap s6.heap:=I6.base;have IX:Inv X pins σ H5 s6:=I3.call' (s':=s6) (ch:=fp) I6.os un hok I6.bare (λb hb=>⟨(f2 b hb).2.2.2.1,(f2 b hb).2.1,(f2 b hb).2.2.2.2.1,(f2 b hb).2.2.2.2.2⟩);have fC:oj X pins H5 C:=I3.fpOk (b:=C) (H':=H5) (by rw[hC];exact UB _) free6;exact fin Da C s6 H5 mm IX nsm fC fin'
  .refine cj (T.item (cR X N scope s3 H3 C fp (X.pn++pins)) rfl rfl rfl hc i [] s5 σ5 H5 (λ_ _=>False) I5 (stat fr5) st5 go) λr s6 ⟨u,hr,h6⟩=>?_
   subst hr;refine cj h6 λ_ s7 ⟨x,H7,I7,r7,y7,st7,fr7⟩=>?_;have I7':=I7.pinned (stat fr7) (T.obj _ _ st7);refine cj ((blk s3 H3 C fp (X.pn++pins)).1 _ s7 σ5 H7 x u _ I7' r7 (step x H7 y7)) λ_ s8 ⟨σ8,H8,I8,q8⟩=>?_;refine cj ((blk s3 H3 C fp (X.pn++pins)).2.1 _ s8 σ8 H8 _ I8 q8) λb s8b ⟨H8b,I8b,q8b⟩=>?_;have back:∀{σ':L2.St}{H':Hp}{s':Shared},L2.Inv (cR X N scope s3 H3 C fp (X.pn++pins)) (([]:List (Addr×Obj))++rN fp s7.heap) σ' H' s'->tn (i+1) s'.heap/\∀b∈fp,H' b=none:=λ{σ' H' s'} I'=>by
    refine⟨T.keep _ _ _ st7 λb hb o e=>(I'.pin (b,o) (Vi _ (Vi _ (jg hb e)))).1,λb hb=>?_⟩;obtain⟨o,e,d⟩:=T.obj _ _ st7 b hb;exact(I'.pin (b,o) (Vi _ (Vi _ (jg hb e)))).2.1
   cases b with
   |false =>
    rw[if_neg Vy] at q8b ⊢;obtain⟨m',hm,w9⟩:=q8b;exact⟨m',hm,i+1,ys,σ8,_,I8b.unpinned,(back I8b).1,(back I8b).2,w9⟩
   |true =>
    rw[if_pos rfl] at q8b ⊢;refine cj ((blk s3 H3 C fp (X.pn++pins)).2.2 _ s8b σ8 H8b _ I8b q8b) λy s9 ⟨yv,H9,I9,r9,hD9,m',hm,w9⟩=>?_;refine cj (oV (X:=cR X N scope s3 H3 C fp (X.pn++pins)) _ s9 σ8 H9 (.ref Da) [yv] (.ref Da) [y] (λv H'=>H'=upd H9 Da (.lst (ys++[yv]))) I9 rfl (.cons r9 .nil) ⟨Da,ys,yv,rfl,rfl,hD9,hz,rfl⟩) λ_ s10 ⟨v10,H10,I10,_,e10⟩=>?_;subst e10;exact⟨m',hm,i+1,ys++[yv],σ8,_,I10.unpinned,(back I10).1,(back I10).2,w9⟩
 exact codeAny_compStart_list loop (T.self _ 0 _ _ _ st4 loop)
structure O1 (K:Up) (ds:List D) (J:It) (Ha:Hp):Prop where
 go:∀(i:Nat) (H' Ha':Hp),aB Ha Ha'->aB Ha' H'->i<ds.length->J.go i H'
 yld:∀(i:Nat) (H' Ha':Hp) (x:V) (H2:Hp) (d:D),aB Ha Ha'->aB Ha' H'->ds[i]?=some d->J.yld i H' x H2->∃H₀2,bp H' Ha' H2 H₀2/\Rep K H₀2 d x
 stop:∀(i:Nat) (H' Ha':Hp),aB Ha Ha'->aB Ha' H'->ds.length<=i->J.stop i H'
noncomputable def T6(K:Up) (E:XK) (src:Ev->ai (List D)):TI:=λσ H R=>∃Ha ρ,aB Ha H/\Reads K Ha σ ρ/\match src ρ with
 |.ok ds=>∀J H' Ha',bp H Ha H' Ha'->O1 K ds J Ha'->R J H'
 |.exn x=>∀C ox H' Ha',bp H Ha H' Ha'->A3 K Ha' x C ox->E C ox H'
 |.stuck=>False
structure DI (X:Cx) (E:XK) (tg iter:Expr) (src:Ev->ai (List D)):Prop where
 o:PI X tg iter (T6 X.K E src)
theorem i9(h:PI X tg iter t)(w:∀σ H R,t' σ H R->t σ H R):PI X tg iter t':=λpins s σ H R I q=>h pins s σ H R I (w σ H R q)
noncomputable def qe(f:Ev->ai D):Ev->ai (List D):=λρ=>(f ρ).bind λd=>match d with
 |.lst ds=>.ok ds
 |_=>.stuck
noncomputable def Kq(f:Ev->ai D):Ev->ai (List D):=λρ=>(f ρ).bind λd=>match d with
 |.str z=>.ok (jU z)
 |_=>.stuck
noncomputable def iI(f:Ev->ai D):Ev->ai (List D):=λρ=>(f ρ).bind λd=>match d with
 |.int j=>if -4611686018427387904<=j/\j<4611686018427387904 then .ok (intsFrom 0 j.toNat) else .stuck
 |_=>.stuck
section
variable {X:Cx}{E:XK}{tg e a b:Expr}{f g:Ev->ai D}
theorem kZ(h:DE X E e f):DI X E tg e (qe f):=by
 refine⟨i9 (xo h.o) λσ H R ⟨Ha,ρ,hs,hr,q⟩=>⟨Ha,ρ,hs,hr,?_⟩⟩;unfold qe at q;cases e1:f ρ with
 |stuck|exn x=>rw[e1] at q;exact q
 |ok d =>
  rw[e1] at q;intro v H1 H01 g1 r1;cases d with
  |lst ds =>
   obtain⟨p,vs,rfl,hv,hrv⟩:=aH.mp r1;refine⟨p,rfl,⟨vs,aB.sqL g1.sub hv⟩,q _ H1 H01 g1 ⟨λi H' Ha' s1 s2 hi=>?_,λi H' Ha' x H2 d s1 s2 hd hy=>?_,λi H' Ha' s1 s2 hi=>?_⟩⟩
   .exact⟨vs,vs[i]'(by rw[←hrv.length];exact hi),aB.sqL (s1.trans s2) hv,by simp⟩
   .obtain⟨rfl,hy⟩:=hy
    obtain⟨u,k1,k2⟩:=hrv.get hd;have:=hy vs (aB.sqL (s1.trans s2) hv);rw[k1] at this;cases this;exact⟨Ha',bp.refl s2,k2.mono s1⟩
   .exact⟨vs,aB.sqL (s1.trans s2) hv,by rw[←hrv.length];exact hi⟩
  |_=>exact q.elim
theorem Ox(h:DE X E e f):DI X E tg e (Kq f):=by
 refine⟨i9 (NM h.o) λσ H R ⟨Ha,ρ,hs,hr,q⟩=>⟨Ha,ρ,hs,hr,?_⟩⟩;unfold Kq at q;cases e1:f ρ with
 |stuck|exn x=>rw[e1] at q;exact q
 |ok d =>
  rw[e1] at q;intro v H1 H01 g1 r1;cases d with
  |str z =>
   refine⟨z,Rep.str_iff.mp r1,q _ H1 H01 g1 ⟨λi H' Ha' s1 s2 hi=>?_,λi H' Ha' x H2 d s1 s2 hd hy=>?_,λi H' Ha' s1 s2 hi=>?_⟩⟩
   .rw[lN] at hi;exact hi
   .obtain⟨rfl,c,hc,rfl⟩:=hy
    have:d=.str ⟨#[c]⟩:=by
     unfold jU at hd;rw[UD] at hd;have h2:z.cps.toList[i]?=some c:=by simpa using hc
     rw[h2] at hd;cases hd;rfl
    subst this;exact⟨Ha',bp.refl s2,Rep.str_iff.mpr rfl⟩
   .rw[lN] at hi;exact hi
  |_=>exact q.elim
theorem vS{K:Up}{lo:Int}:O1 K (intsFrom lo n) (O0 lo n) H:=by
 have hl:(intsFrom lo n).length=n:=by unfold intsFrom;simp
 refine⟨λi H' Ha' _ _ hi=>?_,λi H' Ha' x H2 d s1 s2 hd hy=>?_,λi H' Ha' _ _ hi=>?_⟩
 .rw[hl] at hi;exact hi
 .obtain⟨rfl,rfl⟩:=hy
  have:d=.int (lo+i):=by
   unfold intsFrom at hd;rw[UD] at hd;cases e:(VO n)[i]? with
   |none=>rw[e] at hd;cases hd
   |some k =>
    rw[e] at hd;have hk:k=i:=by
     obtain⟨h1,h2⟩:=Uw.mp e;simpa using h2.symm
    subst hk;cases hd;rfl
  subst this;exact⟨Ha',bp.refl s2,az.mpr rfl⟩
 .rw[hl] at hi;exact hi
theorem kY(hg:Gl X "range")(hm:X.mg "range"=none)(h:DE X E a f)(hn:Pa a=true:=by exact rfl):DI X E tg (.Call (.Name "range" p) [a] [] pos) (iI f):=by
 refine⟨i9 (oO hg hm (cH h.o eY (gF hn)) (gF hn)) λσ H R ⟨Ha,ρ,hs,hr,q⟩=>⟨Ha,ρ,hs,hr,?_⟩⟩;unfold iI at q;cases e1:f ρ with
 |stuck|exn x=>rw[e1] at q;exact q
 |ok d =>
  rw[e1] at q;intro v H1 H01 g1 r1;cases d with
  |int j =>
   replace q:match (if -4611686018427387904<=j/\j<4611686018427387904 then ai.ok (intsFrom 0 j.toNat) else .stuck) with
    |.ok ds=>∀J H' Ha',bp H Ha H' Ha'->O1 X.K ds J Ha'->R J H'
    |.exn x=>∀C ox H' Ha',bp H Ha H' Ha'->A3 X.K Ha' x C ox->E C ox H'
    |.stuck=>False:=q
   by_cases hj:-4611686018427387904<=j/\j<4611686018427387904
   .rw[if_pos hj] at q
    rw[az.mp r1];exact⟨j,rfl,hj.1,hj.2,q _ H1 H01 g1 vS⟩
   .rw[if_neg hj] at q;exact q.elim
  |_=>exact q.elim
end
noncomputable def lr(src:Ev->ai (List D)) (tg:Ev->D->ai Ev) (s:Ev->ai Fl):Ev->ai Fl:=λρ=>(src ρ).bind λds=>cp tg s ds ρ
section
variable {X:Cx}{E:XK}{He H0e:Hp}{st:Stmt}{s:Ev->ai Fl}{pos:Pos}
theorem gj.step2{K:Up}(z:aB Hb Ha)(h:cT K He H0e Ha σ H ρ)(q:bR K E He H0e Ha (cp tg s (ds.drop i) ρ) D')(hd:ds[i]?=some d)(rv:Rep K Ha d v)
  (he:∀ρ,tg ρ d=.stuck∨∃ρ',tg ρ d=.ok ρ') :
  tG K He H0e tg v σ H λσ2 H2=>tS K E He H0e s { D' with nx:=gj K E He H0e Hb tg s ds D' (i+1),ct:=gj K E He H0e Hb tg s ds D' (i+1),bk:=D'.nx } σ2 H2:=by
 have hi:i<ds.length:=(Uw.mp hd).1;have hdr:ds.drop i=d::ds.drop (i+1):=by
  rw[Va hi];rw[Uz hi] at hd;cases hd;rfl
 rw[hdr] at q;refine⟨Ha,ρ,d,h,rv,?_⟩;unfold cp at q;rcases he ρ with e1|⟨ρ1,e1⟩
 .rw[e1] at q;exact q.elim
 .rw[e1] at q ⊢
  intro σ' H' Ha' z' h';refine⟨Ha',ρ1,h',?_⟩;replace q:=bR.grow (r:=(s ρ1).bind λx=>match x with
   |.nx ρ2=>cp tg s (ds.drop (i+1)) ρ2
   |.ct ρ2=>cp tg s (ds.drop (i+1)) ρ2
   |.bk ρ2=>.ok (.nx ρ2)
   |.rt d=>.ok (.rt d)) q z'
  cases e2:s ρ1 with
  |stuck|exn x=>rw[e2] at q;exact q
  |ok r =>
   rw[e2] at q;cases r with|nx ρ2=>exact λσ3 H3 H03 z3 h3=>⟨H03,ρ2,(z.trans z').trans z3,h3,bR.grow (r:=cp tg s (ds.drop (i+1)) ρ2) q z3⟩|ct ρ2=>exact λσ3 H3 H03 z3 h3=>⟨H03,ρ2,(z.trans z').trans z3,h3,bR.grow (r:=cp tg s (ds.drop (i+1)) ρ2) q z3⟩|bk ρ2|rt d=>exact q
theorem yj(hp:PassesOwn (model X.prog X.w) X.A X.env X.xe)(hc:X.calm=true)(hi:DI X E tgt iter src)(hg:DG X E He H0e tgt tg)(ht:wG tg)(hb:A8 X E He H0e body s)
  (hs:∀x,foldedSetIterable iter X.env x=pure x:=by intro _;rfl):DS X E He H0e (.For tgt iter body [] pos) (lr src tg s):=by
 refine⟨bL (xj hp hc hi.o hg.o hb.o hs) λD' σ H ⟨Ha,ρ,h,q⟩=>⟨Ha,ρ,h.g.sub,h.rd,?_⟩⟩;unfold lr at q;cases e1:src ρ with
 |stuck=>rw[e1] at q;exact q|exn x=>rw[e1] at q;exact λC ox H' Ha' g r=>q C ox H' Ha' (h.g.trans g) r
 |ok ds =>
  rw[e1] at q;intro J H1 H01 g it;have q1:bR X.K E He H0e H01 (cp tg s ds ρ) D':=bR.grow (r:=cp tg s ds ρ) q g.z;refine⟨λi m σ' H'=>m+i=ds.length/\gj X.K E He H0e H01 tg s ds D' i σ' H',⟨ds.length,rfl,H01,ρ,aB.refl _,h.grow g,q1⟩,?_⟩;rintro i m σ' H' ⟨hm,Ha',ρ',z,h',hq⟩
  by_cases hlt:i<ds.length
  .refine .inr ⟨it.go i H' Ha' z h'.g.sub hlt,λσ2 H2=>gj X.K E He H0e H01 tg s ds D' (i+1) σ2 H2,λσ2 H2 hl=>⟨m-1,by omega,by omega,hl⟩,λx H2 hy=>?_⟩
   obtain⟨H₀2,g2,rp⟩:=it.yld i H' Ha' x H2 ds[i] z h'.g.sub (Uz hlt) hy;exact gj.step2 (z.trans g2.z) (h'.grow g2) (bR.grow (r:=cp tg s (ds.drop i) ρ') hq g2.z) (Uz hlt) rp λρ=>ht ρ _
  .have e:i=ds.length:=by omega
   refine .inl ⟨it.stop i H' Ha' z h'.g.sub (by omega),?_⟩;subst e;exact gj.done ⟨Ha',ρ',z,h',hq⟩
end
noncomputable def oi(f:Ev->ai D):Prop:=∀ρ d,f ρ=.ok d->∃ds,d=.lst ds
theorem yU{K:Up}(hf:oi f)(h:tD K E f σ H Q):tF K E f σ H Q:=by
 obtain⟨Ha,ρ,hs,hr,q⟩:=h;refine⟨Ha,ρ,hs,hr,?_⟩;cases e1:f ρ with
 |stuck|exn x=>rw[e1] at q;exact q
 |ok d =>
  obtain⟨ds,rfl⟩:=hf ρ d e1;rw[e1] at q;intro p vs H' Ha' g hp h0 hv rp;have n0:Ha p=none:=hs.free hp;refine q (.ref p) H' (upd Ha' p (.lst vs)) ⟨g.s,λb o e=>?_,λb o e=>?_,λb k1 k2=>?_⟩ (aH.mpr ⟨p,vs,rfl,eC.of aw,rp.mono λb o e=>?_⟩)
  .rw[aq (by intro z;subst z;rw[n0] at e;cases e)];exact g.z _ _ e
  .by_cases hb:b=p
   .subst hb;rw[aw] at e;cases e;exact hv
   .rw[aq hb] at e;exact g.sub _ _ e
  .by_cases hb:b=p
   .subst hb;exact hp
   .rw[aq hb] at k1;exact g.nw b k1 k2
  .rw[aq (by intro z;subst z;rw[h0] at e;cases e)];exact e
theorem Jk(hf:oi f)(h:DF X E e f):DE X E e f:=⟨aX h.o λσ H Q q=>yU hf q⟩
noncomputable def c5(n:Nat) (fr:List Nat) (ρ:Ev):Ev:=U2 n .no++fr.map λ(i:Nat)=>match ρ[i]? with
 |some (.sh d)=>.sh d
 |_=>.no
noncomputable def bU(b:Ev) (tg:Ev->D->ai Ev) (tt fe:Ev->ai D):List D->ai (List D)
 |[]=>.ok []
 |d::r=>(tg b d).bind λρ1=>(tt ρ1).bind λt=>match t with
  |.bl true=>(fe ρ1).bind λx=>(bU b tg tt fe r).bind λxs=>.ok (x::xs)
  |.bl false=>bU b tg tt fe r
  |_=>.stuck
noncomputable def eA(n:Nat) (fr:List Nat) (src:Ev->ai (List D)) (tg:Ev->D->ai Ev) (tt fe:Ev->ai D):Ev->ai D:=λρ=>(src ρ).bind λds =>
 if ds.length<=line then match bU (c5 n fr ρ) tg tt fe ds with
  |.ok es=>.ok (.lst es)
  |_=>.stuck
 else .stuck
theorem wj{fr:List Nat}:oi (eA n fr src tg tt fe):=λρ d h=>by
 unfold eA at h;cases e1:src ρ with
 |stuck|exn x=>rw[e1] at h;cases h
 |ok ds =>
  rw[e1] at h;replace h:(if ds.length<=line then match bU (c5 n fr ρ) tg tt fe ds with
   |.ok es=>ai.ok (D.lst es)
   |_=>.stuck else .stuck)=.ok d:=h
  split at h
  .split at h
   .cases h;exact⟨_,rfl⟩
   .cases h
  .cases h
theorem ju(h:bU b tg tt fe (d::r)=.ok es) :
  ∃ρ1 t,tg b d=.ok ρ1/\tt ρ1=.ok (.bl t)/\((t=true/\∃x xs,fe ρ1=.ok x/\bU b tg tt fe r=.ok xs/\es=x::xs)∨(t=false/\bU b tg tt fe r=.ok es)):=by
 unfold bU at h;cases e1:tg b d with
 |stuck|exn z=>rw[e1] at h;cases h
 |ok ρ1 =>
  rw[e1] at h;replace h:((tt ρ1).bind λt=>match t with
   |.bl true=>(fe ρ1).bind λx=>(bU b tg tt fe r).bind λxs=>ai.ok (x::xs)
   |.bl false=>bU b tg tt fe r
   |_=>.stuck)=.ok es:=h
  cases e2:tt ρ1 with
  |stuck|exn z=>rw[e2] at h;cases h
  |ok t =>
   rw[e2] at h;cases t with
   |bl t =>
    cases t with
    |true =>
     replace h:((fe ρ1).bind λx=>(bU b tg tt fe r).bind λxs=>ai.ok (x::xs))=.ok es:=h;cases e3:fe ρ1 with
     |stuck|exn z=>rw[e3] at h;cases h
     |ok x =>
      rw[e3] at h;replace h:((bU b tg tt fe r).bind λxs=>ai.ok (x::xs))=.ok es:=h;cases e4:bU b tg tt fe r with|stuck|exn z=>rw[e4] at h;cases h|ok xs=>rw[e4] at h;cases h;exact⟨ρ1,true,rfl,e2,.inl ⟨rfl,x,xs,e3,rfl,rfl⟩⟩
    |false=>exact⟨ρ1,false,rfl,e2,.inr ⟨rfl,h⟩⟩
   |_=>cases h
theorem iR(h1:tg b d=.ok ρ1)(h2:tt ρ1=.ok (.bl true))(h3:fe ρ1=.ok x):bU b tg tt fe (d::r)=(bU b tg tt fe r).bind λxs=>.ok (x::xs):=by
 rw[bU,h1];simp only[ai.bind,h2,h3]
theorem uD(h1:tg b d=.ok ρ1)(h2:tt ρ1=.ok (.bl false)):bU b tg tt fe (d::r)=bU b tg tt fe r:=by
 rw[bU,h1];simp only[ai.bind,h2]
theorem ph:∀{r q es:List D},bU b tg tt fe (r++q)=.ok es->∃e1 e2,bU b tg tt fe r=.ok e1/\bU b tg tt fe q=.ok e2/\es=e1++e2
 |[],q,es,h=>⟨[],es,rfl,h,rfl⟩
 |d::r,q,es,h=>by
  obtain⟨ρ1,t,h1,h2,h3⟩:=ju h;rcases h3 with⟨rfl,x,xs,h3,h4,rfl⟩|⟨rfl,h4⟩
  .obtain⟨e1,e2,k1,k2,rfl⟩:=ph h4
   refine⟨x::e1,e2,?_,k2,rfl⟩;rw[iR h1 h2 h3,k1];rfl
  .obtain⟨e1,e2,k1,k2,rfl⟩:=ph h4
   refine⟨e1,e2,?_,k2,rfl⟩;rw[uD h1 h2];exact k1
theorem jt{b:Ev}{tg:Ev->D->ai Ev}{tt fe:Ev->ai D}:∀{r q e1 e2:List D},bU b tg tt fe r=.ok e1->bU b tg tt fe q=.ok e2->bU b tg tt fe (r++q)=.ok (e1++e2)
 |[],q,e1,e2,h,h'=>by cases h;exact h'
 |d::r,q,e1,e2,h,h'=>by
  obtain⟨ρ1,t,h1,h2,h3⟩:=ju h;show bU b tg tt fe (d::(r++q))=_;rcases h3 with⟨rfl,x,xs,h3,h4,rfl⟩|⟨rfl,h4⟩
  .rw[iR h1 h2 h3,jt h4 h'];rfl
  .rw[uD h1 h2];exact jt h4 h'
theorem uE:∀{r es:List D},bU b tg tt fe r=.ok es->es.length<=r.length
 |[],es,h=>by cases h;exact UB _
 |d::r,es,h=>by
  obtain⟨ρ1,t,h1,h2,h3⟩:=ju h;rcases h3 with⟨rfl,x,xs,h3,h4,rfl⟩|⟨rfl,h4⟩
  .exact Nat.succ_le_succ (uE h4)
  .exact Nat.le_succ_of_le (uE h4)
noncomputable def A1(n:Nat) (tg:Ev->D->ai Ev):Prop:=∀ρ d ρ',tg ρ d=.ok ρ'->ρ'.length=ρ.length/\∀(k:Nat),n<=k->ρ'[k]?=ρ[k]?
theorem gE(h:i<n):A1 n (cz i):=λρ d ρ' e=>by
 cases e;exact⟨by simp,λk hk=>by rw[Us (by omega)]⟩
theorem mf:∀{is:List Nat}{ds:List D}{ρ:Ev},(is.all λi=>decide (i<n))=true->(cW ρ is ds).length=ρ.length/\∀(k:Nat),n<=k->(cW ρ is ds)[k]?=ρ[k]?
 |[],ds,ρ,_=>by unfold cW;exact⟨rfl,λ_ _=>rfl⟩
 |i::is,[],ρ,_=>by unfold cW;exact⟨rfl,λ_ _=>rfl⟩
 |i::is,d::ds,ρ,h=>by
  rw[WL,UU,decide_eq_true_eq] at h;unfold cW;obtain⟨h1,h2⟩:=mf (ds:=ds) (ρ:=ρ.set i (.sh d)) h.2;exact⟨by rw[h1];simp,λk hk=>by rw[h2 k hk,Us (by omega)]⟩
theorem GC(h:(is.all λi=>decide (i<n))=true):A1 n (gr is):=λρ d ρ' e=>by
 unfold gr at e;cases hp:eE is.length d with|none=>rw[hp] at e;cases e|some ds=>rw[hp] at e;cases e;exact mf h
theorem Cg{K:Up}{fr:List Nat}(h:Reads K Ha σ ρ):Reads K Ha (jI n fr σ) (c5 n fr ρ):=λi d e=>by
 unfold c5 at e;unfold jI
 by_cases hi:i<n
 .rw[UH (by simpa using hi),UW,if_pos hi] at e
  cases e
 .rw[UN (by simpa using hi),Vj,UD] at e ⊢
  cases hf:fr[i-n]? with
  |none=>rw[hf] at e;cases e
  |some j =>
   rw[hf] at e;simp only[V8,V0] at e ⊢;cases hj:ρ[j]? with
   |none=>rw[hj] at e;cases e
   |some s =>
    rw[hj] at e;cases s with
    |sh d' =>
     cases e;obtain⟨v,h1,h2⟩:=h j d hj;exact⟨v,by rw[h1];rfl,h2⟩
    |_=>cases e
theorem L6{fr:List Nat}{k:Nat}(h:k<n):(c5 n fr ρ)[k]?=some .no:=by
 unfold c5;rw[UH (by simpa using h),UW,if_pos h]
theorem Jx{fr:List Nat}(i j:Nat)(es:List D):(c5 n fr ρ)[i]?≠some (.ox j es):=λe=>by
 unfold c5 at e
 by_cases hj:i<n
 .rw[UH (by simpa using hj),UW,if_pos hj] at e;cases e
 .rw[UN (by simpa using hj),UD] at e
  cases hf:fr[i-(U2 n Sl.no).length]? with
  |none=>rw[hf] at e;cases e
  |some z =>
   rw[hf] at e;simp only[V8,V0] at e;split at e<;>cases e
theorem F4{fr:List Nat}{σ:L2.St}(i:Nat)(a:Addr)(e:(c5 n fr ρ)[i]?=some (.pt a)):σ[i]?=some (some (.ref a)):=by
 unfold c5 at e
 by_cases hj:i<n
 .rw[UH (by simpa using hj),UW,if_pos hj] at e;cases e
 .rw[UN (by simpa using hj),UD] at e
  cases hf:fr[i-(U2 n Sl.no).length]? with
  |none=>rw[hf] at e;cases e
  |some z =>
   rw[hf] at e;simp only[V8,V0] at e;split at e<;>cases e
theorem AY{fr:List Nat}:(c5 n fr ρ).length=n+fr.length:=by unfold c5;simp
theorem Cb{K:Up}{fr:List Nat}(hsame:aB Ha H)(g1:bp H Ha H1 H01)(it:O1 K ds J H01)(hl:ds.length<=line)
  (e2:bU (c5 n fr ρ) tg tt fe ds=.ok es)(hr:Reads K H01 σ ρ)(hok:A1 n tg)
  (q:∀p vs H' Ha',bp H Ha H' Ha'->H p=none->Ha' p=none->H' p=some (.lst vs)->Reps K Ha' es vs->Q (.ref p) H') :
  rf n fr (Og K tg) (O5 K E tt) (tD K E fe) J σ H1 Q:=by
 intro Da hDa;have h0D:H01 Da=none:=g1.sub.free hDa;refine⟨λi m ys σ' H'=>m=ds.length-i/\i<=ds.length/\σ'.length=n+fr.length/\∃Ha',bp H1 H01 H' Ha'/\Ha' Da=none/\H' Da=some (.lst ys)/\Reads K Ha' σ' (c5 n fr ρ)/\∃es1,bU (c5 n fr ρ) tg tt fe (ds.take i)=.ok es1/\Reps K Ha' es1 ys,
  ⟨ds.length,by simp,VU _,by unfold jI;simp,H01,?_,h0D,aw,Cg hr,[],rfl,Reps.nil⟩,?_⟩
 .refine⟨λb o e=>by rw[aq (aY e hDa)];exact e,aB.refl _,λb o e=>?_,λb k1 k2=>absurd k2 k1⟩
  rw[aq (by intro z;subst z;rw[h0D] at e;cases e)];exact g1.sub _ _ e
 .rintro i m ys σ' H' ⟨rfl,hile,hsl,Ha',gg,hD0,hDl,hrd,es1,hes1,hys⟩
  refine⟨hDl,?_⟩
  by_cases hlt:i<ds.length
  .refine .inr ⟨it.go i H' Ha' gg.z gg.sub hlt,?_,?_⟩
   .rw[←hys.length]
    have:=uE hes1;rw[Vf] at this;have h2:line<sizeLine:=by decide
    omega
   .intro x H2 hy
    obtain⟨H₀2,g2,rp⟩:=it.yld i H' Ha' x H2 ds[i] gg.z gg.sub (Uz hlt) hy;have hsplit:ds=ds.take i++(ds[i]::ds.drop (i+1)):=by rw[←Va hlt,List.take_append_drop]
    rw[hsplit] at e2;obtain⟨a1,a2,k1,k2,k3⟩:=ph e2;rw[hes1] at k1;cases k1;obtain⟨ρ1,t,t1,t2,t3⟩:=ju k2;have hn2:H₀2 Da=none:=by
     cases qq:H₀2 Da with|none=>rfl|some o=>have:=g2.nw Da (by rw[qq];simp) hD0;rw[hDl] at this;cases this
    have hD2:H2 Da=some (.lst ys):=g2.s _ _ hDl;refine⟨H2,H₀2,H₀2,c5 n fr ρ,ds[i],⟨bp.refl g2.sub,hrd.mono g2.z,λj d' e=>?_,λj k d1 d2 _ e=>?_,by rw[AY,hsl],OX.none Jx F4⟩,rp,?_⟩
    .unfold c5 at e
     by_cases hj:j<n
     .rw[UH (by simpa using hj),UW,if_pos hj] at e;cases e
     .rw[UN (by simpa using hj),UD] at e
      cases hf:fr[j-(U2 n Sl.no).length]? with
      |none=>rw[hf] at e;cases e
      |some z =>
       rw[hf] at e;simp only[V8,V0] at e;split at e<;>cases e
    .unfold c5 at e
     by_cases hj:j<n
     .rw[UH (by simpa using hj),UW,if_pos hj] at e;cases e
     .rw[UN (by simpa using hj),UD] at e
      cases hf:fr[j-(U2 n Sl.no).length]? with
      |none=>rw[hf] at e;cases e
      |some z =>
       rw[hf] at e;simp only[V8,V0] at e;split at e<;>cases e
    .rw[t1]
     intro σ3 H3 H03 z3 s3;have hrl:=hok _ _ _ t1;have hσ3:σ3.length=n+fr.length:=by rw[←s3.ln,hrl.1,AY]
     have back:∀{Hx:Hp},aB H03 Hx->Reads K Hx σ3 (c5 n fr ρ):=λ{Hx} sx k d e=>by
      by_cases hk:k<n
      .rw[L6 hk] at e;cases e
      .rw[←hrl.2 k (by omega)] at e
       obtain⟨v,h1,h2⟩:=s3.rd k d e;exact⟨v,h1,h2.mono sx⟩
     have n3:H03 Da=none:=by
      cases qq:H03 Da with|none=>rfl|some o=>have:=s3.g.nw Da (by rw[qq];simp) hn2;rw[hD2] at this;cases this
     have hD3:H3 Da=some (.lst ys):=s3.g.s _ _ hD2;refine⟨H03,ρ1,s3.g.sub,s3.rd,?_⟩;rw[t2];intro H4 H04 g4;have hD4:H4 Da=some (.lst ys):=g4.s _ _ hD3;have n4:H04 Da=none:=by
      cases qq:H04 Da with|none=>rfl|some o=>have:=g4.nw Da (by rw[qq];simp) n3;rw[hD3] at this;cases this
     have htake:ds.take (i+1)=ds.take i++[ds[i]]:=by rw[List.take_add_one,Uz hlt];rfl
     have g04:=(gg.trans g2).trans (s3.g.trans g4);rcases t3 with⟨rfl,y,xs,t3,t4,_⟩|⟨rfl,t4⟩
     .rw[if_pos rfl]
      refine⟨H04,ρ1,g4.sub,s3.rd.mono g4.z,?_⟩;rw[t3];intro yv H5 H05 g5 ry;have hD5:H5 Da=some (.lst ys):=g5.s _ _ hD4;have n5:H05 Da=none:=by
       cases qq:H05 Da with|none=>rfl|some o=>have:=g5.nw Da (by rw[qq];simp) n4;rw[hD4] at this;cases this
      have gall:=g04.trans g5;refine⟨hD5,ds.length-(i+1),by omega,rfl,hlt,hσ3,H05,⟨λb o e=>?_,gall.z,λb o e=>?_,gall.nw⟩,n5,aw,back (g4.z.trans g5.z),es1++[y],?_,?_⟩
      .rw[aq (aY e hDa)];exact gall.s _ _ e
      .rw[aq (by intro z;subst z;rw[n5] at e;cases e)];exact gall.sub _ _ e
      .rw[htake]
       refine jt hes1 ?_;rw[iR t1 t2 t3];rfl
      .exact(hys.mono ((g2.z.trans s3.g.z).trans (g4.z.trans g5.z))).app (Reps.cons ry Reps.nil)
     .rw[if_neg Vy]
      refine⟨ds.length-(i+1),by omega,rfl,hlt,hσ3,H04,g04,n4,hD4,back g4.z,es1,?_,hys.mono ((g2.z.trans s3.g.z).trans g4.z)⟩;rw[htake];rw[show es1=es1++[] by simp];refine jt hes1 ?_;rw[uD t1 t2];rfl
  .have hi2:i=ds.length:=by omega
   refine .inl ⟨it.stop i H' Ha' gg.z gg.sub (by omega),?_⟩;rw[hi2,XN] at hes1;rw[e2] at hes1;cases hes1;exact q Da ys H' Ha' (g1.trans gg) (g1.s.free hDa) hD0 hDl hys
structure RU (X:Cx) (E:XK) (ifs:List Expr) (f:Ev->ai D):Prop where
 o:Pl X ifs (O5 X.K E f)
noncomputable def mYes:Ev->ai D:=λ_=>.ok (.bl true)
theorem nT:RU X E [] mYes:=⟨λpins s σ H Q I ⟨Ha,ρ,hs,hr,q⟩=>CK pins s σ H Q I (q H Ha (bp.refl hs))⟩
theorem D6(h:DT X E c f):RU X E [c] f:=⟨KL h.o⟩
structure RE (X:Cx) (E:XK) (e:Expr) (f:Ev->ai D):Prop where
 ev:PE X e (tF X.K E f)
 st:∀{i:Nat}{x:Str}{pos' spos:Pos},X.N.Nodup->X.N[i]?=some x->X.env.scope.names.lookup x=some .local -> swapsWith e (some (.Name x pos')) spos.line X.env=pure true->PS X (.Assign [.Name x pos'] e spos) (Kn (tF X.K E f) (Dk i))
theorem Ug(N:List Str)(n:Nat)(fr:List Nat)(hc:X.calm=true)(hi:DI X E tgt iter src)(hok:A1 n tg)
  (blk:∀s H C fp pn,(∀He H0e,DG (cR X N scope s H C fp pn) E He H0e tgt tg)/\RU (cR X N scope s H C fp pn) E ifs tt/\DE (cR X N scope s H C fp pn) E elt fe)
  (hfr:Cp X N n fr scope)(hcell:∀x∈scope.names,x.2≠.cell)(hfree:∀x∈scope.names,x.2=.free->X.env.scope.names.lookup x.1=some .cell)(hkind:scope.kind=.function)(hnames:∀x∈scope.names,x.2=.local -> scope.names.lookup x.1=some .local)
  (hs:∀x,foldedSetIterable iter X.env x=pure x:=by intro _;rfl):RE X E (.ListComp elt [⟨tgt,iter,ifs,0⟩] scope pos) (eA n fr src tg tt fe):=by
 have blk':∀s H C fp pn,PG (cR X N scope s H C fp pn) tgt (Og X.K tg)/\Pl (cR X N scope s H C fp pn) ifs (O5 X.K E tt)/\PE (cR X N scope s H C fp pn) elt (tD X.K E fe):=λs H C fp pn =>
  ⟨λpins s' σ' H' v u Q' I r ⟨He,H0e,q'⟩=>((blk s H C fp pn).1 He H0e).o pins s' σ' H' v u Q' I r q',(blk s H C fp pn).2.1.o,(blk s H C fp pn).2.2.o⟩
 have first:∀{pins:List (Addr×Obj)}{s:Shared}{σ:L2.St}{H:Hp}{Q:VK}{RR:Value->Addr->Result->Shared->Prop},L2.Inv X pins σ H s->tF X.K E (eA n fr src tg tt fe) σ H Q ->
   (∀(Da C:Addr) (s6:Shared) (H5:Hp) (m:Str->Option Value),L2.Inv X pins σ H5 s6->s6.heap.Ns C m->oj X pins H5 C->Q (.ref Da) H5->RR (.ref Da) C (.ok .next) s6) ->
   wpAny (model X.prog X.w) X.A (eval iter X.env) (λx sg=>wpAny (model X.prog X.w) X.A (pyIter x) (λit si=>wpAny (model X.prog X.w) X.A (newList []) (λacc sj =>
    wpAny (model X.prog X.w) X.A (newFunctionEnv scope X.env.globals (gQ X.env.cells scope.names []) [] X.env.qual none .none (some X.env)) (λcenv sk =>
     codeAny (model X.prog X.w) X.A (.compStart (.ListComp elt [⟨tgt,iter,ifs,0⟩] scope pos) 0 it acc { cenv with scope:=relabel scope X.env }) (RR acc cenv.locals) sk) X.xe sj) X.xe si) X.xe sg) X.xe s:=by
  intro pins s σ H Q RR I ⟨Ha,ρ,hsame,hr,q⟩ fin;refine cj (hi.o pins s σ H (λJ H1=>rf n fr (Og X.K tg) (O5 X.K E tt) (tD X.K E fe) J σ H1 Q) I ⟨Ha,ρ,hsame,hr,?_⟩) λv s1 h1=>cj h1 λitv s2 h2=>wk (N:=N) hc hfr hcell hfree hkind blk' h2 fin;unfold eA at q;cases e1:src ρ with
  |stuck|exn x=>rw[e1] at q;exact q
  |ok ds =>
   rw[e1] at q;intro J H1 H01 g1 it;replace q:match (if ds.length<=line then match bU (c5 n fr ρ) tg tt fe ds with
     |.ok es=>ai.ok (D.lst es)
     |_=>.stuck else .stuck) with
    |.ok (.lst ds)=>∀p vs H' Ha',bp H Ha H' Ha'->H p=none->Ha' p=none->H' p=some (.lst vs)->Reps X.K Ha' ds vs->Q (.ref p) H'
    |.ok _=>False
    |.exn x=>∀C ox H' Ha',bp H Ha H' Ha'->A3 X.K Ha' x C ox->E C ox H'
    |.stuck=>False:=q
   by_cases hl:ds.length<=line
   .rw[if_pos hl] at q
    cases e2:bU (c5 n fr ρ) tg tt fe ds with
    |stuck|exn x=>rw[e2] at q;exact q.elim
    |ok es =>
     rw[e2] at q;exact Cb hsame g1 it hl e2 (hr.mono g1.z) hok q
   .rw[if_neg hl] at q;exact q.elim
 have hcl:∀{pins:List (Addr×Obj)}{s:Shared}{σ:L2.St}{H:Hp},L2.Inv X pins σ H s->closureFor scope X.env=pure (gQ X.env.cells scope.names []):=λ{pins s σ H} I=>lE λy hy hf=>I.ok.has y.1 (.inl (hfree y hy hf));refine⟨λpins s σ H Q I h=>?_,λ{i x pos' spos} hN hi' hx hsw pins s σ H D' I h=>?_⟩
 .rw[eval_ListComp]
  refine wpAny_comprehension_free (use:=none) rfl hs (hcl I) hkind hnames (first (RR:=λacc C=>compPost (model X.prog X.w) X.A X.xe none (EP X pins σ Q) acc C) I h λDa C s6 H5 m I6 ns fC q=>?_);refine⟨m,ns,λh' sb=>⟨.ref Da,H5,?_,rfl,q⟩⟩;exact I6.turned (t':=s6.toks) (it:=C) (λb o hb e=>(sb.2 b hb).trans e) fC.1 fC.2.1 fC.2.2.2.1 fC.2.2.2.2.1 fC.2.2.2.2.2
 .rw[exec_Assign_Name_used _ _ _ _ hsw]
  refine Uq (wpAny_standAt (Uq ?_));show wpAny _ X.A (do let _ ←comprehension (.ListComp elt [⟨tgt,iter,ifs,0⟩] scope pos) scope X.env _ (newList []) false (eval iter X.env) (some (assign (.Name x pos') X.env))) _ _ s;refine Uq (Vh (wpAny_comprehension_free (use:=some (assign (.Name x pos') X.env)) (Q:=λ_ s'=>SP X pins D' .next s') rfl hs (hcl I) hkind hnames
   (first (RR:=λacc C=>compPost (model X.prog X.w) X.A X.xe (some (assign (.Name x pos') X.env)) (λ_ s'=>SP X pins D' .next s') acc C) I h λDa C s6 H5 m I6 ns fC q=>?_)) (λ_ s' hq=>UL (UL hq)) λ_ _ e=>e)
  show wpAny _ X.A (assign (.Name x pos') X.env (.ref Da)) _ _ _;refine wpAny_assign_Name (oC (v:=.ref Da) I6 hN hi' (.inl hx) rfl (λs' I' ⟨a,sb,ha⟩=>?_) (.inr hx));have hCa:C≠a:=by
   rcases ha with rfl|ha
   .exact fC.2.1
   .exact λz=>fC.2.2.2.2.1 x a ha z.symm
  refine⟨m,ns.sameBut sb hCa,λh' sb'=>⟨_,H5,?_,q⟩⟩;exact I'.turned (t':=s'.toks) (it:=C) (λb o hb e=>(sb'.2 b hb).trans e) fC.1 fC.2.1 fC.2.2.2.1 fC.2.2.2.2.1 fC.2.2.2.2.2
theorem Rc(h:RE X E e f):DF X E e f:=⟨h.ev⟩
theorem v9{fr:List Nat}(h:RE X E e (eA n fr src tg tt fe)):DE X E e (eA n fr src tg tt fe):=Jk wj (Rc h)
section
variable {X:Cx}{E:XK}{He H0e:Hp}{e:Expr}{f:Ev->ai D}{s:Ev->ai Fl}{pos:Pos}{st:Stmt}
noncomputable def unown(i:Nat) (ρ:Ev):Ev:=match ρ[i]? with
 |some (.ow d)=>ρ.set i (.sh d)
 |_=>ρ
noncomputable def G5(i:Nat) (s:Ev->ai Fl):Ev->ai Fl:=λρ=>s (unown i ρ)
theorem cT.unown{K:Up}(h:cT K He H0e Ha σ H ρ)(i:Nat):∃Ha',aB Ha Ha'/\cT K He H0e Ha' σ H (DL.unown i ρ):=by
 unfold DL.unown;cases e:ρ[i]? with
 |none=>exact⟨Ha,aB.refl _,h⟩
 |some s =>
  cases s with
  |no|sh d|ox j ds|pt a=>exact⟨Ha,aB.refl _,h⟩
  |ow d =>
   obtain⟨a,k1,k2,k3,k4⟩:=h.ow i d e;obtain⟨o,h5,hrep⟩:∃o,H a=some o/\∀Hb,aB Ha Hb->Hb a=some o->Rep K Hb d (.ref a):=by
    cases d with
    |lst ds=>obtain⟨vs,h5,h6⟩:=k4;exact⟨_,h5,λHb z e=>aH.mpr ⟨a,vs,rfl,eC.of e,h6.mono z⟩⟩
    |dic ks ds=>obtain⟨vs,h5,hl,h6⟩:=k4;exact⟨_,h5,λHb z e=>by rw[Rep];exact⟨a,_,vs,rfl,.inl e,rfl,hl,h6.mono z⟩⟩
    |_=>exact k4.elim
   have z:aB Ha (upd Ha a o):=λb o' q=>by rw[aq (by intro z;subst z;rw[k3] at q;cases q)];exact q
   have h':cT K He H0e (upd Ha a o) σ H (ρ.set i .no):=by
    have nset:∀(j:Nat) (s:Sl),(ρ.set i .no)[j]?=some s->s≠.no->j≠i/\ρ[j]?=some s:=λj s q hs=>by
     by_cases hj:i=j
     .subst hj
      rw[V3] at q;rw[e] at q;cases q;exact absurd rfl hs
     .rw[Us hj] at q;exact⟨λz=>hj z.symm,q⟩
    refine⟨⟨h.g.s,h.g.z.trans z,λb o' q=>?_,λb q1 q2=>?_⟩,λj d' q=>?_,λj d' q=>?_,λj k d1 d2 hn q1 q2=>?_,by simp [h.ln],h.ex.upd (λj s q=>?_) z (λb us _ eb=>eb) λq us _ q0 hq hd=>?_⟩
    rotate_left 5
    .by_cases hs:s=.no
     .exact .inr (.inr (.inl hs))
     .exact .inl ⟨(nset j s q hs).2,rfl⟩
    .have hq':q≠a:=by
      intro zz;subst zz;exact hd i _ e k1
     exact⟨hq,by rw[aq hq'];exact q0⟩
    .by_cases hb:b=a
     .subst hb;rw[aw] at q;cases q;exact h5
     .rw[aq hb] at q;exact h.g.sub _ _ q
    .by_cases hb:b=a
     .subst hb;exact k2
     .rw[aq hb] at q1;exact h.g.nw b q1 q2
    .obtain⟨hj,q⟩:=nset j _ q (λz=>nomatch z)
     obtain⟨v,q1,q2⟩:=h.rd j d' q;exact⟨v,q1,q2.mono z⟩
    .obtain⟨hj,q⟩:=nset j _ q (λz=>nomatch z)
     obtain⟨b,q1,q2,q3,q4⟩:=h.ow j d' q;have hb:b≠a:=by
      intro zz;subst zz;exact h.ap j i d' d hj q e (by rw[q1,k1])
     refine⟨b,q1,q2,by rw[aq hb];exact q3,?_⟩;cases d' with|lst ds'=>obtain⟨vs',h7,h8⟩:=q4;exact⟨vs',h7,h8.mono z⟩|dic ks' ds'=>obtain⟨vs',h7,hl,h8⟩:=q4;exact⟨vs',h7,hl,h8.mono z⟩| _=>exact q4.elim
    .obtain⟨_,q1⟩:=nset j _ q1 (λz=>nomatch z)
     obtain⟨_,q2⟩:=nset k _ q2 (λz=>nomatch z);exact h.ap j k d1 d2 hn q1 q2
   refine⟨_,z,?_⟩;have hp:=h'.put (i:=i) (d:=d) (v:=.ref a) (hrep _ z aw);rw[List.set_set] at hp;have hσ:σ.set i (some (V.ref a))=σ:=by
    apply List.ext_getElem?;intro k
    by_cases hk:i=k
    .subst hk
     obtain⟨hil,_⟩:=Uw.mp k1;rw[UQ hil,k1]
    .rw[Us hk]
   rw[hσ] at hp;exact hp
theorem Ov(i:Nat)(h:DS X E He H0e st s):DS X E He H0e st (G5 i s):=⟨bL h.o λD' σ H ⟨Ha,ρ,hr,q⟩=>by
 obtain⟨Ha',z,hr'⟩:=hr.unown i;exact⟨Ha',DL.unown i ρ,hr',bR.grow (r:=s (DL.unown i ρ)) q z⟩⟩
end
theorem B7(N:List Str)(n:Nat)(fr:List Nat)(hc:X.calm=true)(hi:DI X E tgt iter src)(hok:A1 n tg)
  (blk:∀s H C fp pn,(∀He H0e,DG (cR X N scope s H C fp pn) E He H0e tgt tg)/\RU (cR X N scope s H C fp pn) E ifs tt/\DE (cR X N scope s H C fp pn) E elt fe)
  (hfr:Cp X N n fr scope)(hcell:(scope.names.all λx=>!(x.2==.cell))=true)(hfree:(scope.names.all λx=>!(x.2==.free)||(X.env.scope.names.lookup x.1==some .cell))=true)(hkind:scope.kind=.function)
  (hnames:(scope.names.all λx=>!(x.2==.local)||(scope.names.lookup x.1==some .local))=true)
  (hs:∀x,foldedSetIterable iter X.env x=pure x:=by intro _;rfl):RE X E (.ListComp elt [⟨tgt,iter,ifs,0⟩] scope pos) (eA n fr src tg tt fe):=by
 refine Ug N n fr hc hi hok blk hfr (λx hx z=>?_) (λx hx z=>?_) hkind (λx hx z=>?_) hs
 .have:=U7.mp hcell x hx
  rw[z] at this;simp at this
 .have:=U7.mp hfree x hx
  rw[z] at this;simpa using this
 .have:=U7.mp hnames x hx
  rw[z] at this;simpa using this
theorem LD(hN:X.N.Nodup)(hi:X.N[i]?=some x)(hx:X.env.scope.names.lookup x=some .local)(hl:oi f)(he:RE X E e f)(hs:swapsWith e (some (.Name x pos')) pos.line X.env=pure true:=by rfl):DS X E He H0e (.Assign [.Name x pos'] e pos) (bO i f):=by
 refine⟨bL (he.st hN hi hx hs) λD σ H ⟨Ha,ρ,h,q⟩=>?_⟩;refine yU hl ⟨Ha,ρ,h.g.sub,h.rd,?_⟩;refine plain h q λd v H' Ha' _ g rp q'=>?_;exact q' _ H' Ha' (aB.refl _) ((h.grow g).put rp)
end DL
namespace Com
open PySem L2 DL
noncomputable def eP:Ev->ai Fl :=
 (aC (i7 (kT 1) (ag (ae 1) (dC (.int 0)) ll)
 (aC (u7 0 1 (af (ae 1) (af (ag (ae 0) (ae 1) dk) aE)))
 av))
 (aC (ck (ao (af (ae 0) aE) (m1 FY)))
 av))
noncomputable def j9:List D->ai D:=cm 2 eP
noncomputable def fA:Ev->ai Fl :=
 (aC (bO 2 (ao (af (ae 0) (af (ae 1) aE)) j9))
 (aC (ck (ao (af (ag (ae 0) (ae 2) nW) (af (ag (ae 1) (ae 2) nW) aE)) cO))
 av))
noncomputable def vd:List D->ai D:=cm 3 fA
noncomputable def Ck:Ev->ai Fl :=
 (aC (ck (lW (bM (ae 0) (eS "int")) (cZ (bM (ae 0) (eS "bool")))))
 av)
noncomputable def m_is_whole:List D->ai D:=cm 1 Ck
noncomputable def dQ:Ev->ai Fl :=
 (aC (bO 2 (ao (af (ae 0) aE) (m1 FY)))
 (aC (bO 3 (ao (af (ae 1) aE) (m1 FY)))
 (aC (i7 (kT 3) (ag (ae 3) (dC (.int 0)) ll)
 (aC (bO 4 (ag (ae 2) (ae 3) dk))
 (aC (bO 2 (ae 3))
 (aC (bO 3 (ae 4))
 av))))
 (aC (ck (ae 2))
 av))))
noncomputable def m_common_divisor:List D->ai D:=cm 5 dQ
noncomputable def qR:Ev->ai Fl :=
 (aC (fE (iF (cZ (ao (af (ae 0) aE) m_is_whole)) (cZ (ao (af (ae 1) aE) m_is_whole)))
 (aC eX
 av)
 av)
 (aC (fE (ag (ae 1) (dC (.int 0)) kF)
 (aC eX
 av)
 av)
 (aC (bO 2 (ao (af (ae 0) (af (ae 1) aE)) m_common_divisor))
 (aC (fE (ag (ae 1) (dC (.int 0)) Pf)
 (aC (bO 2 (bM (ae 2) FX))
 av)
 av)
 (aC (ck (ao (af (ag (ae 0) (ae 2) nW) (af (ag (ae 1) (ae 2) nW) aE)) cO))
 av)))))
noncomputable def m_ratio:List D->ai D:=cm 3 qR
noncomputable def F7:Ev->ai Fl :=
 (aC (ck (ag (ag (ag (ae 0) (dC (.int 0)) bf) (ag (ae 1) (dC (.int 1)) bf) cL) (ag (ag (ae 1) (dC (.int 0)) bf) (ag (ae 0) (dC (.int 1)) bf) cL) Pf))
 av)
noncomputable def m_is_less:List D->ai D:=cm 2 F7
theorem F3{f:α->ai β}:(ai.ok a).bind f=f a:=rfl
theorem ip(h:s ρ=.ok (.nx ρ')):aC s t ρ=t ρ':=by unfold aC;rw[h];rfl
theorem wX(h:s ρ=.ok (.rt d)):aC s t ρ=.ok (.rt d):=by unfold aC;rw[h];rfl
theorem G0(h:s ρ=.ok (.nx ρ')):aC s av ρ=.ok (.nx ρ'):=by unfold aC;rw[h];rfl
theorem Bk(h:f ρ=.ok d):bO i f ρ=.ok (.nx (ρ.set i (.sh d))):=by unfold bO;rw[h];rfl
theorem w6(h:f (eR ρ)=.ok d):ck f ρ=.ok (.rt d):=by unfold ck;rw[h];rfl
theorem Od(h:c (eR ρ)=.ok (.bl false)):fE c s t ρ=t ρ:=by unfold fE;rw[h];rfl
theorem j8:ll (.int i) (.int j)=.ok (.bl (!(i==j))):=by unfold ll;rw[if_pos ⟨rfl,rfl⟩,c4]
theorem o9:kF (.int i) (.int j)=.ok (.bl (i==j)):=by unfold kF;rw[if_pos ⟨rfl,rfl⟩,c4]
theorem iW(h:f ρ=.ok x)(h':fa ρ=.ok xs):af f fa ρ=.ok (x::xs):=by unfold af;rw[h,F3,h'];rfl
theorem kI(h:f ρ=.ok x)(h':g ρ=.ok y):ag f g op ρ=op x y:=by unfold ag;rw[h,F3,h'];rfl
theorem n6(h:fa ρ=.ok xs):ao fa m ρ=m xs:=by unfold ao;rw[h];rfl
theorem BE(h:b≠0):dk (.int a) (.int b)=.ok (.int (a.fmod b)):=by
 show(if decide (b≠0)=true then ai.ok (D.int (a.fmod b)) else .stuck)=_;rw[if_pos (decide_eq_true h)]
theorem yl(h:eV a b=true):nW (.int a) (.int b)=.ok (.int (a.fdiv b)):=by
 show(if eV a b=true then ai.ok (D.int (a.fdiv b)) else .stuck)=_;rw[if_pos h]
theorem sJ(a b:Int):UX b (a.fmod b)=UX a b:=by
 rw[Int.fmod_def,Int.gcd_sub_mul_left_right,Int.gcd_comm]
theorem Dp{a b:Int}(h:b≠0):(a.fmod b).natAbs<b.natAbs:=by
 rcases Int.lt_or_gt_of_ne h with hb|hb
 .have h1:=Xx (-a) (show 0 < -b by omega)
  have h2:=WH (-a) (show 0 < -b by omega);rw[Int.neg_fmod_neg] at h1 h2;omega
 .have h1:=Xx a hb
  have h2:=WH a hb;omega
theorem nS:∀(n:Nat) (a b:Int),b.natAbs<n->∃g:Int,g.natAbs=UX a b /\
  cA (ag (ae 1) (dC (.int 0)) ll) (aC (u7 0 1 (af (ae 1) (af (ag (ae 0) (ae 1) dk) aE))) av) n [.sh (.int a),.sh (.int b)]=.ok (.nx [.sh (.int g),.sh (.int 0)])
 |0,a,b,h=>absurd h (X0 _)
 |n+1,a,b,h=>by
  unfold cA;have c:(ag (ae 1) (dC (.int 0)) ll) (eR [.sh (.int a),.sh (.int b)])=.ok (.bl (!(b==0))):=j8;rw[c]
  by_cases hb:b=0
  .subst hb
   exact⟨a,by simp,rfl⟩
  .have e:(!(b==0))=true:=by simp [hb]
   obtain⟨g,h1,h2⟩:=nS n b (a.fmod b) (by have:=Dp (a:=a) hb;omega);refine⟨g,by rw[h1,sJ],?_⟩;rw[←h2];rw[e];have st:(aC (u7 0 1 (af (ae 1) (af (ag (ae 0) (ae 1) dk) aE))) av) [.sh (.int a),.sh (.int b)]=.ok (.nx [.sh (.int b),.sh (.int (a.fmod b))]):=by
    refine G0 ?_;unfold u7;have:(af (ae 1) (af (ag (ae 0) (ae 1) dk) aE)) [.sh (.int a),.sh (.int b)]=.ok [.int b,.int (a.fmod b)]:=by
     exact iW rfl (iW (BE hb) rfl)
    rw[this];rfl
   show(ai.bind _ _)=_;rw[st];rfl
theorem B5(a b:Int):j9 [.int a,.int b]=.ok (.int (UX a b)):=by
 obtain⟨g,h1,h2⟩:=nS (b.natAbs+1) a b (Wj _);have w:i7 (kT 1) (ag (ae 1) (dC (.int 0)) ll) (aC (u7 0 1 (af (ae 1) (af (ag (ae 0) (ae 1) dk) aE))) av) [.sh (.int a),.sh (.int b)]=.ok (.nx [.sh (.int g),.sh (.int 0)]):=h2;have r:eP [.sh (.int a),.sh (.int b)]=.ok (.rt (.int (if g<0 then -g else g))):=by
  unfold eP;rw[ip w];exact wX (w6 rfl)
 show(eP [.sh (.int a),.sh (.int b)]).bind _=_;rw[r];show ai.ok (D.int (if g<0 then -g else g))=_
 congr 2
 rw[←h1];split<;>omega
theorem pW:∀(n:Nat) (x y:D) (a b:Int) (r:Sl),0<=a->0<=b->b.natAbs<n->∃r',
  cA (ag (ae 3) (dC (.int 0)) ll) (aC (bO 4 (ag (ae 2) (ae 3) dk)) (aC (bO 2 (ae 3)) (aC (bO 3 (ae 4)) av))) n [.sh x,.sh y,.sh (.int a),.sh (.int b),r]=.ok (.nx [.sh x,.sh y,.sh (.int (UX a b)),.sh (.int 0),r'])
 |0,_,_,a,b,_,_,_,h=>absurd h (X0 _)
 |n+1,x,y,a,b,r,ha,hb0,h=>by
  unfold cA;have c:∀r,(ag (ae 3) (dC (.int 0)) ll) (eR [.sh x,.sh y,.sh (.int a),.sh (.int b),r])=.ok (.bl (!(b==0))):=λr=>j8;rw[c]
  by_cases hb:b=0
  .subst hb
   refine⟨r,?_⟩;have e:((UX a 0:Nat):Int)=a:=by simp;omega
   rw[e];rfl
  .have e:(!(b==0))=true:=by simp [hb]
   have hp:0<b:=by omega
   obtain⟨r',h2⟩:=pW n x y b (a.fmod b) (.sh (.int (a.fmod b))) hb0 (WH a hp) (by have:=Dp (a:=a) hb;omega);refine⟨r',?_⟩;rw[sJ] at h2;rw[←h2,e];have st:(aC (bO 4 (ag (ae 2) (ae 3) dk)) (aC (bO 2 (ae 3)) (aC (bO 3 (ae 4)) av))) [.sh x,.sh y,.sh (.int a),.sh (.int b),r]=.ok (.nx [.sh x,.sh y,.sh (.int b),.sh (.int (a.fmod b)),.sh (.int (a.fmod b))]):=by
    have m:(ag (ae 2) (ae 3) dk) [.sh x,.sh y,.sh (.int a),.sh (.int b),r]=.ok (.int (a.fmod b)):=by
     exact BE hb
    rw[ip (Bk m)];rfl
   show(ai.bind _ _)=_;rw[st];rfl
theorem k7(a b:Int):m_common_divisor [.int a,.int b]=.ok (.int (UX a b)):=by
 have e:∀i:Int,(if i<0 then -i else i)=(i.natAbs:Int):=λi=>by split<;>omega
 obtain⟨r',h⟩:=pW ((b.natAbs:Int).natAbs+1) (.int a) (.int b) a.natAbs b.natAbs .no (Int.natCast_nonneg _) (Int.natCast_nonneg _) (Wj _);have hg:UX (a.natAbs:Int) (b.natAbs:Int)=UX a b:=by simp [UX]
 rw[hg] at h;have r:dQ [.sh (.int a),.sh (.int b),.no,.no,.no]=.ok (.rt (.int (UX a b))):=by
  unfold dQ;rw[ip (ρ':=[.sh (.int a),.sh (.int b),.sh (.int (a.natAbs:Int)),.no,.no]) (by rw[←e a];rfl)];rw[ip (ρ':=[.sh (.int a),.sh (.int b),.sh (.int (a.natAbs:Int)),.sh (.int (b.natAbs:Int)),.no]) (by rw[←e b];rfl)];have w:i7 (kT 3) (ag (ae 3) (dC (.int 0)) ll) (aC (bO 4 (ag (ae 2) (ae 3) dk)) (aC (bO 2 (ae 3)) (aC (bO 3 (ae 4)) av))) [.sh (.int a),.sh (.int b),.sh (.int (a.natAbs:Int)),.sh (.int (b.natAbs:Int)),.no]=.ok (.nx [.sh (.int a),.sh (.int b),.sh (.int (UX a b)),.sh (.int 0),r']):=h;rw[ip w];exact wX (w6 rfl)
 show(dQ [.sh (.int a),.sh (.int b),.no,.no,.no]).bind _=_;rw[r];rfl
theorem Br:(2:Nat) ^ 64<=Gi:=by rw[pv];exact Vn (by decide) (by decide)
theorem QG{i:Int}(h:i.natAbs<18446744073709551616):i.natAbs<Gi:=Uy h Br
theorem gJ(h:i.natAbs<18446744073709551616)(h':j.natAbs<18446744073709551616):dX i j=true:=by
 unfold dX;rw[UU];exact⟨decide_eq_true (QG h),decide_eq_true (QG h')⟩
theorem oU(h:i.natAbs<Gi)(h':j.natAbs<Gi):dX i j=true:=by
 unfold dX;rw[UU];exact⟨decide_eq_true h,decide_eq_true h'⟩
theorem Ji(h0:j≠0)(h:j.natAbs<B9):eV i j=true:=by
 unfold eV;rw[UU,X3];exact⟨decide_eq_true h0,.inl (decide_eq_true h)⟩
theorem lT(h0:j≠0)(h:i.natAbs<qV):eV i j=true:=by
 unfold eV;rw[UU,X3];exact⟨decide_eq_true h0,.inr (decide_eq_true h)⟩
theorem xT{k:Nat}(h:ds[k]?=some d):bf (.lst ds) (.int (k:Int))=.ok d:=by
 unfold bf;simp only[d7 h]
theorem eU{a b:Int}(hb:0<b):0<=a.fmod b/\a.fmod b<b:=⟨WH a hb,Xx a hb⟩
theorem FC{n k:Nat}(h:k<n):(DL.intsFrom 0 n).drop k=.int (k:Int)::(DL.intsFrom 0 n).drop (k+1):=by
 have hl:(DL.intsFrom 0 n).length=n:=by unfold DL.intsFrom;simp
 rw[Va (by rw[hl];exact h)]
 congr 1
 unfold DL.intsFrom;simp
theorem Ik:(DL.intsFrom 0 n).drop n=[]:=by
 have hl:(DL.intsFrom 0 n).length=n:=by unfold DL.intsFrom;simp
 exact List.drop_eq_nil_of_le (by omega)
theorem ib(h1:tg ρ d=.ok ρ1)(h2:s ρ1=.ok (.nx ρ2)):cp tg s (d::r) ρ=cp tg s r ρ2:=by
 rw[cp,h1,F3,h2,F3]
noncomputable def C9:D->Bool
 |.int _=>true
 |_=>false
theorem bS(d:D):m_is_whole [d]=.ok (.bl (C9 d)):=by cases d<;>first|rfl|(rename_i k _;cases k<;>rfl)
theorem fJ{a g:Int}(hg:0<g):a.fdiv g=a / g:=Int.fdiv_eq_ediv_of_nonneg a (by omega)
theorem kS(h:b≠0):0<(UX a b:Int):=by
 have:=Int.gcd_pos_of_ne_zero_right a h;omega
theorem Pb(hb:0<b)(h1:a.natAbs<qV)(h2:b.natAbs<qV):vd [.int a,.int b]=.ok (.tup [.int (a / UX a b),.int (b / UX a b)]):=by
 have hg:=kS (a:=a) (b:=b) (by omega);have r:fA [.sh (.int a),.sh (.int b),.no]=.ok (.rt (.tup [.int (a / UX a b),.int (b / UX a b)])):=by
  unfold fA;rw[ip (ρ':=[.sh (.int a),.sh (.int b),.sh (.int (UX a b))]) (Bk ((n6 (xs:=[.int a,.int b]) rfl).trans (B5 a b)))];refine wX (w6 ?_);refine(n6 (xs:=[.int (a / UX a b),.int (b / UX a b)]) (iW ?_ (iW ?_ rfl))).trans rfl
  .rw[←fJ hg]
   exact(kI (x:=.int a) (y:=.int (UX a b)) rfl rfl).trans (yl (lT (by omega) h1))
  .rw[←fJ hg]
   exact(kI (x:=.int b) (y:=.int (UX a b)) rfl rfl).trans (yl (lT (by omega) h2))
 show(fA [.sh (.int a),.sh (.int b),.no]).bind _=_;rw[r];rfl
theorem Hg(hb:0<b)(h1:a.natAbs<qV)(h2:b.natAbs<qV):m_ratio [.int a,.int b]=.ok (.tup [.int (a / UX a b),.int (b / UX a b)]):=by
 have hg:=kS (a:=a) (b:=b) (by omega);have r:qR [.sh (.int a),.sh (.int b),.no]=.ok (.rt (.tup [.int (a / UX a b),.int (b / UX a b)])):=by
  unfold qR;rw[ip (ρ':=[.sh (.int a),.sh (.int b),.no]) (Od (t:=av) rfl)];rw[ip (ρ':=[.sh (.int a),.sh (.int b),.no]) (Od (t:=av) ((kI (x:=.int b) (y:=.int 0) rfl rfl).trans (o9.trans (by rw[beq_eq_false_iff_ne.mpr (by omega)]))))];rw[ip (ρ':=[.sh (.int a),.sh (.int b),.sh (.int (UX a b))]) (Bk ((n6 (xs:=[.int a,.int b]) rfl).trans (k7 a b)))];rw[ip (ρ':=[.sh (.int a),.sh (.int b),.sh (.int (UX a b))]) (Od (t:=av) (by
   show ai.ok (D.bl (decide (b<0)))=_;rw[decide_eq_false (by omega)]))]
  refine wX (w6 ?_);refine(n6 (xs:=[.int (a / UX a b),.int (b / UX a b)]) (iW ?_ (iW ?_ rfl))).trans rfl
  .rw[←fJ hg]
   exact(kI (x:=.int a) (y:=.int (UX a b)) rfl rfl).trans (yl (lT (by omega) h1))
  .rw[←fJ hg]
   exact(kI (x:=.int b) (y:=.int (UX a b)) rfl rfl).trans (yl (lT (by omega) h2))
 show(qR [.sh (.int a),.sh (.int b),.no]).bind _=_;rw[r];rfl
noncomputable def SI(p q:Int):D:=.tup [.int p,.int q]
end Com
open Com
namespace Com
open PySem L2 DL
noncomputable abbrev kO:=Int×Int
noncomputable def fr(x:kO):D:=SI x.1 x.2
noncomputable def yA:Nat:=1000000000000000000000000000000000000000000000000000000000000
theorem OY:yA<=B9:=by rw[En];exact UO (show yA<=2 ^ 200 by decide) (Vn (by decide) (by decide))
theorem Mj:yA<=qV:=by rw[pw];exact UO (show yA<=2 ^ 200 by decide) (Vn (by decide) (by decide))
theorem Em:yA<=Gi:=by rw[pv];exact UO (show yA<=2 ^ 200 by decide) (Vn (by decide) (by decide))
theorem qU:qV<=Gi:=by rw[pw,pv];exact Vn (by decide) (by decide)
structure Low (x:kO):Prop where
 q1:1<=x.2
 g1:UX x.1 x.2=1
structure iX (x:kO):Prop extends Low x where
 pN:x.1.natAbs<yA
 qN:x.2.natAbs<yA
noncomputable def u4(a b:Int):kO:=(a / UX a b,b / UX a b)
theorem xF(hb:0<b):Low (u4 a b):=by
 have hg:=kS (a:=a) (b:=b) (by omega);refine⟨?_,Int.gcd_ediv_gcd_ediv_gcd (by omega)⟩;have:=Int.ediv_gcd_ne_zero_if_ne_zero_right a (show b≠0 by omega);have h2:0<=b / (UX a b:Int):=Xe (by omega) (by omega);show 1<=b / (UX a b:Int);omega
theorem xH:(u4 a b).1.natAbs<=a.natAbs:=VI _ _
theorem xG:(u4 a b).2.natAbs<=b.natAbs:=VI _ _
theorem ze(hb:0<b)(h1:a.natAbs<qV)(h2:b.natAbs<qV):m_ratio [.int a,.int b]=.ok (fr (u4 a b)):=Hg hb h1 h2
theorem QI(hb:0<b)(h1:a.natAbs<yA)(h2:b.natAbs<yA):iX (u4 a b):=⟨xF hb,Vd xH h1,Vd xG h2⟩
theorem aK{α:Type}{a b:α}(h:a=b):a=b:=h
noncomputable def Nu(t:Ev->ai Fl) (r:Fl):ai Fl:=match r with
 |.nx ρ'=>t ρ'
 |r=>.ok r
noncomputable def PY(i:Nat) (ρ:Ev) (d:D):ai Fl:=.ok (.nx (ρ.set i (.sh d)))
noncomputable def P0(d:D):ai Fl:=.ok (.rt d)
noncomputable def MT(ρ:Ev) (_:D):ai Fl:=.ok (.nx ρ)
noncomputable def Sz(s t:Ev->ai Fl) (ρ:Ev) (x:D):ai Fl:=match x with
 |.bl b=>if b=true then s ρ else t ρ
 |_=>.stuck
noncomputable def Qq(i:Nat) (ρ:Ev) (d:D):ai Fl:=match d with
 |.lst ds=>.ok (.nx (ρ.set i (.ow (.lst ds))))
 |_=>.stuck
noncomputable def NU(s:Option Sl) (k:List D->ai Fl):ai Fl:=match s with
 |some (.ow (.lst ds))=>k ds
 |_=>.stuck
noncomputable def Rm(i:Nat) (ρ:Ev) (ds:List D) (d:D):ai Fl:=if ds.length<line then .ok (.nx (ρ.set i (.ow (.lst (ds++[d]))))) else .stuck
noncomputable def iK(i:Nat) (ρ:Ev) (k:Ev->ai D) (ds:List D) (d:D):ai Fl:=(k ρ).bind (DL.putAt ρ i ds d)
noncomputable def Nd(is:List Nat) (ρ:Ev) (d:D):ai Fl:=match eE is.length d with
 |some ds=>.ok (.nx (cW ρ is ds))
 |none=>.stuck
noncomputable def Qo(i j:Nat) (ρ:Ev) (ds:List D):ai Fl:=match ds with
 |[x,y]=>.ok (.nx ((ρ.set i (.sh x)).set j (.sh y)))
 |_=>.stuck
noncomputable def k2(g:Ev->ai D) (op:D->D->ai D) (ρ:Ev) (x:D):ai D:=(g ρ).bind (op x)
noncomputable def Ca(x:D) (xs:List D):ai (List D):=.ok (x::xs)
noncomputable def MX(fa:Ev->ai (List D)) (ρ:Ev) (x:D):ai (List D):=(fa ρ).bind (Ca x)
noncomputable def OL(g:Ev->ai D) (ρ:Ev) (x:D):ai D:=match x with
 |.bl true=>g ρ
 |.bl false=>.ok (.bl false)
 |_=>.stuck
noncomputable def Su(g:Ev->ai D) (ρ:Ev) (x:D):ai D:=match x with
 |.bl true=>.ok (.bl true)
 |.bl false=>g ρ
 |_=>.stuck
noncomputable def Qu(x:D):ai D:=match x with
 |.bl b=>.ok (.bl (!b))
 |_=>.stuck
noncomputable def Oc(f g:Ev->ai D) (ρ:Ev) (x:D):ai D:=match x with
 |.bl true=>f ρ
 |.bl false=>g ρ
 |_=>.stuck
noncomputable def Pr(s:Option Sl):ai D:=match s with
 |some (.sh d)=>.ok d
 |_=>.stuck
noncomputable def E4(s:Sl):Sl:=match s with
 |.ow d=>.sh d
 |.ox _ ds=>.sh (.tup ds)
 |x=>x
noncomputable def Nz(r:Fl):ai D:=match r with
 |.nx _=>.ok .non
 |.rt d=>.ok d
 |_=>.stuck
noncomputable def Tp(x:D):ai (Option Int):=match x with
 |.int i=>.ok (some i)
 |_=>.stuck
noncomputable def lM(x:D) (l:Option Int) (h:Option Int):ai D:=rm x l h
noncomputable def Sn(hi:Ev->ai (Option Int)) (ρ:Ev) (x:D) (l:Option Int):ai D:=(hi ρ).bind (lM x l)
noncomputable def PX(lo hi:Ev->ai (Option Int)) (ρ:Ev) (x:D):ai D:=(lo ρ).bind (Sn hi ρ x)
noncomputable def QY(tg:Ev->D->ai Ev) (s:Ev->ai Fl) (ρ:Ev) (d:D):ai Fl:=match d with
 |.lst ds=>cp tg s ds ρ
 |_=>.stuck
noncomputable def LY(op':D->D->ai D) (h:Ev->ai D) (ρ:Ev) (y z:D):ai D:=match z with
 |.bl true=>(h ρ).bind (op' y)
 |.bl false=>.ok (.bl false)
 |_=>.stuck
noncomputable def OE(op op':D->D->ai D) (h:Ev->ai D) (ρ:Ev) (x y:D):ai D:=(op x y).bind (LY op' h ρ y)
noncomputable def TJ(op op':D->D->ai D) (g h:Ev->ai D) (ρ:Ev) (x:D):ai D:=(g ρ).bind (OE op op' h ρ x)
section
variable {s t:Ev->ai Fl}{f g h:Ev->ai D}{fa:Ev->ai (List D)}{ρ r:Ev}{i j:Nat}{d x y:D}{ds xs:List D}{op op':D->D->ai D}{a b:Int}
theorem kj{a:α}{k:α->ai β}:(ai.ok a).bind k=k a:=aK rfl
theorem tj:aC s t ρ=(s ρ).bind (Nu t):=aK rfl
theorem m6:Nu t (.nx ρ)=t ρ:=aK rfl
theorem m5:Nu t (.rt d)=.ok (.rt d):=aK rfl
theorem nq:av ρ=.ok (.nx ρ):=aK rfl
theorem tf:bO i f ρ=(f ρ).bind (PY i ρ):=aK rfl
theorem mZ:PY i ρ d=.ok (.nx (ρ.set i (.sh d))):=aK rfl
theorem tw:ck f ρ=(f (eR ρ)).bind P0:=aK rfl
theorem m9:P0 d=.ok (.rt d):=aK rfl
theorem nK:lu f ρ=(f (eR ρ)).bind (MT ρ):=aK rfl
theorem kn:MT ρ d=.ok (.nx ρ):=aK rfl
theorem Ar:fE f s t ρ=(f (eR ρ)).bind (Sz s t ρ):=aK rfl
theorem tX:Sz s t ρ (.bl true)=s ρ:=aK rfl
theorem tW:Sz s t ρ (.bl false)=t ρ:=aK rfl
theorem tI:mh i f ρ=(f ρ).bind (Qq i ρ):=aK rfl
theorem nj:Qq i ρ (.lst ds)=.ok (.nx (ρ.set i (.ow (.lst ds)))):=aK rfl
theorem uc:fq i f ρ=NU ρ[i]? λds=>(f ρ).bind (Rm i ρ ds):=aK rfl
theorem nh{k:List D->ai Fl}:NU (some (.ow (.lst ds))) k=k ds:=aK rfl
theorem ic(h:decide (ds.length<=999)=true):Rm i ρ ds d=.ok (.nx (ρ.set i (.ow (.lst (ds++[d]))))):=if_pos (Vd (of_decide_eq_true h) (by decide))
theorem tE:G4 i f g ρ=NU ρ[i]? λds=>(f ρ).bind (iK i ρ g ds):=aK rfl
theorem nc:iK i ρ g ds d=(g ρ).bind (DL.putAt ρ i ds d):=aK rfl
theorem tY:G5 i s ρ=s (unown i ρ):=aK rfl
theorem sT:Nw is f ρ=(f ρ).bind (Nd is ρ):=aK rfl
theorem tH:u7 i j fa ρ=(fa ρ).bind (Qo i j ρ):=aK rfl
theorem ng:Qo i j ρ [x,y]=.ok (.nx ((ρ.set i (.sh x)).set j (.sh y))):=aK rfl
theorem Az:bM f o ρ=(f ρ).bind o:=aK rfl
theorem Ay:ag f g op ρ=(f ρ).bind (k2 g op ρ):=aK rfl
theorem ub:k2 g op ρ x=(g ρ).bind (op x):=aK rfl
theorem Ax:ao fa m ρ=(fa ρ).bind m:=aK rfl
theorem tP:aE ρ=.ok []:=aK rfl
theorem nL:af f fa ρ=(f ρ).bind (MX fa ρ):=aK rfl
theorem kq:MX fa ρ x=(fa ρ).bind (Ca x):=aK rfl
theorem ko:Ca x xs=.ok (x::xs):=aK rfl
theorem ud:lW f g ρ=(f ρ).bind (OL g ρ):=aK rfl
theorem nN:OL g ρ (.bl true)=g ρ:=aK rfl
theorem nM:OL g ρ (.bl false)=.ok (.bl false):=aK rfl
theorem An:iF f g ρ=(f ρ).bind (Su g ρ):=aK rfl
theorem tN:Su g ρ (.bl true)=.ok (.bl true):=aK rfl
theorem tL:Su g ρ (.bl false)=g ρ:=aK rfl
theorem tO:cZ f ρ=(f ρ).bind Qu:=aK rfl
theorem nk:Qu (.bl c)=.ok (.bl (!c)):=aK rfl
theorem tV:MW h f g ρ=(h ρ).bind (Oc f g ρ):=aK rfl
theorem nG:Oc f g ρ (.bl true)=f ρ:=aK rfl
theorem nF:Oc f g ρ (.bl false)=g ρ:=aK rfl
theorem sS:ae i ρ=Pr ρ[i]?:=aK rfl
theorem mO:Pr (some (.sh d))=.ok d:=aK rfl
theorem IB:dC d ρ=.ok d:=aK rfl
theorem mY:eR []=[]:=aK rfl
theorem sZ:eR (c::r)=E4 c::eR r:=aK rfl
theorem mX:E4 (.ow d)=.sh d:=aK rfl
theorem qI:E4 (.ox j ds)=.sh (.tup ds):=aK rfl
theorem mW:E4 (.sh d)=.sh d:=aK rfl
theorem mU:E4 .no=.no:=aK rfl
theorem tq:cm n s ds=(s (ds.map Sl.sh++U2 (n-ds.length) .no)).bind Nz:=aK rfl
theorem m8:Nz (.rt d)=.ok d:=aK rfl
theorem m7:Nz (.nx ρ)=.ok .non:=aK rfl
theorem Am:c9 f ρ=(f ρ).bind Tp:=aK rfl
theorem tK:Tp (.int a)=.ok (some a):=aK rfl
theorem Ao:du ρ=.ok none:=aK rfl
theorem Aj:nV f lo hi ρ=(f ρ).bind (PX lo hi ρ):=aK rfl
theorem sY:PX lo hi ρ x=(lo ρ).bind (Sn hi ρ x):=aK rfl
theorem sX:Sn hi ρ x l=(hi ρ).bind (lM x l):=aK rfl
theorem sW:lM (.lst ds) l l'=.ok (.lst (jr ds l l')):=aK rfl
theorem tZ:u9 f tg s ρ=(f ρ).bind (QY tg s ρ):=aK rfl
theorem nJ:QY tg s ρ (.lst ds)=cp tg s ds ρ:=aK rfl
theorem kr:gP op op' f g h ρ=(f ρ).bind (TJ op op' g h ρ):=aK rfl
theorem As:TJ op op' g h ρ x=(g ρ).bind (OE op op' h ρ x):=aK rfl
theorem ua:OE op op' h ρ x y=(op x y).bind (LY op' h ρ y):=aK rfl
theorem t9:LY op' h ρ y (.bl true)=(h ρ).bind (op' y):=aK rfl
theorem t8:LY op' h ρ y (.bl false)=.ok (.bl false):=aK rfl
theorem tU:Ab (λ_ _=>true) o (.int a) (.int b)=.ok (o a b):=aK rfl
theorem ue:bV (.int a) (.int b)=.ok (.int (a+b)):=aK rfl
theorem eJ(h:decide (ds.length+es.length<=1000)=true):bV (.lst ds) (.lst es)=.ok (.lst (ds++es)):=if_pos (UO (of_decide_eq_true h) (by decide))
theorem tQ:FX (.int a)=.ok (.int (-a)):=aK rfl
theorem Aq:m1 m [x]=m x:=aK rfl
theorem Ap:m2 m [x,y]=m x y:=aK rfl
theorem gu:fj (.lst ds)=.ok (.int ds.length):=aK rfl
theorem nr:fj (.tup ds)=.ok (.int ds.length):=aK rfl
theorem sV(h:decide (ds.length<=1000)=true):cO ds=.ok (.tup ds):=if_pos (UO (of_decide_eq_true h) (by decide))
theorem tT(h:decide (ds.length<=1000)=true):b5 ds=.ok (.lst ds):=if_pos (UO (of_decide_eq_true h) (by decide))
theorem dZ:eS "str" (.str z)=.ok (.bl true):=aK rfl
theorem de:eS "tuple" (.tup ds)=.ok (.bl true):=aK rfl
theorem dE:eS "list" (.lst ds)=.ok (.bl true):=aK rfl
theorem gN:iz (.non) .non=.ok (.bl true):=aK rfl
theorem fL:pT (.non) .non=.ok (.bl false):=aK rfl
theorem gM:iz (.str z) .non=.ok (.bl false):=aK rfl
theorem gL:iz (.tup ds) .non=.ok (.bl false):=aK rfl
theorem fK:pT (.tup ds) .non=.ok (.bl true):=aK rfl
theorem dU(h:dX a b=true):cL (.int a) (.int b)=.ok (.int (a*b)):=if_pos h
theorem tR(h:(b==0)=false):dk (.int a) (.int b)=.ok (.int (a.fmod b)):=BE (λz=>by rw[z] at h;cases h)
theorem o8(h:eV a b=true):nW (.int a) (.int b)=.ok (.int (a.fdiv b)):=if_pos h
theorem mQ(h:(ds.length==is.length)=true):Nd is ρ (.tup ds)=.ok (.nx (cW ρ is ds)):=by
 unfold Nd eE;simp only[if_pos (eq_of_beq h)]
theorem Ak:cW ρ (i::is) (d::ds)=cW (ρ.set i (.sh d)) is ds:=aK rfl
theorem tm:cW ρ [] ds=ρ:=aK rfl
noncomputable def Td(i:Nat) (ρ:Ev) (s:Option Sl):Ev:=match s with
 |some (.ow d)=>ρ.set i (.sh d)
 |_=>ρ
theorem Ai:unown i ρ=Td i ρ ρ[i]?:=aK rfl
theorem sU:Td i ρ (some (.ow d))=ρ.set i (.sh d):=aK rfl
theorem Al{j:Int}(h:BP ds.length j=some n):DL.putAt ρ i ds d (.int j)=.ok (.nx (ρ.set i (.ow (.lst (ds.set n d))))):=by
 unfold DL.putAt;simp only[h]
theorem kX:bf (.lst (x0::xs)) (.int 0)=.ok x0:=by
 unfold bf;simp only[show atI (x0::xs) 0=some x0 from d7 (j:=0) rfl]
theorem nA:bf (.tup (x0::xs)) (.int 0)=.ok x0:=by
 unfold bf;simp only[show atI (x0::xs) 0=some x0 from d7 (j:=0) rfl]
theorem kW:bf (.lst (x0::x1::xs)) (.int 1)=.ok x1:=by
 unfold bf;simp only[show atI (x0::x1::xs) 1=some x1 from d7 (j:=1) rfl]
theorem nz:bf (.tup (x0::x1::xs)) (.int 1)=.ok x1:=by
 unfold bf;simp only[show atI (x0::x1::xs) 1=some x1 from d7 (j:=1) rfl]
theorem nE:bf (.lst (x0::x1::x2::xs)) (.int 2)=.ok x2:=by
 unfold bf;simp only[show atI (x0::x1::x2::xs) 2=some x2 from d7 (j:=2) rfl]
theorem ny:bf (.tup (x0::x1::x2::xs)) (.int 2)=.ok x2:=by
 unfold bf;simp only[show atI (x0::x1::x2::xs) 2=some x2 from d7 (j:=2) rfl]
theorem nD:bf (.lst (x0::x1::x2::x3::xs)) (.int 3)=.ok x3:=by
 unfold bf;simp only[show atI (x0::x1::x2::x3::xs) 3=some x3 from d7 (j:=3) rfl]
theorem nv:bf (.tup (x0::x1::x2::x3::xs)) (.int 3)=.ok x3:=by
 unfold bf;simp only[show atI (x0::x1::x2::x3::xs) 3=some x3 from d7 (j:=3) rfl]
theorem nC:bf (.lst (x0::x1::x2::x3::x4::xs)) (.int 4)=.ok x4:=by
 unfold bf;simp only[show atI (x0::x1::x2::x3::x4::xs) 4=some x4 from d7 (j:=4) rfl]
theorem nu:bf (.tup (x0::x1::x2::x3::x4::xs)) (.int 4)=.ok x4:=by
 unfold bf;simp only[show atI (x0::x1::x2::x3::x4::xs) 4=some x4 from d7 (j:=4) rfl]
theorem Aw:((2:Nat):Int)=2:=aK rfl
theorem Av:((4:Nat):Int)=4:=aK rfl
theorem Au:((5:Nat):Int)=5:=aK rfl
end
noncomputable def MD(fa:Ev->ai (List D)) (ρ:Ev) (x:D):ai D:=match x with
 |.str z=>(fa ρ).bind (mI z)
 |_=>.stuck
theorem nt:we f fa ρ=(f ρ).bind (MD fa ρ):=aK rfl
theorem km:MD fa ρ (.str z)=(fa ρ).bind (mI z):=aK rfl
end Com
local macro_rules|`(tactic|open_line with[$xs,*])=>`(tactic|simp only[kj,tj,m6,m5,nq,tf,mZ,tw,m9,nK,kn,Ar,tX,tW,tI,nj,uc,nh,tE,nc,tY,sT,tH,ng,Az,Ay,ub,Ax,tP,nL,kq,ko,ud,nN,nM,An,tN,tL,tO,nk,tV,nG,nF,sS,mO,IB,mY,sZ,mX,mW,mU,tq,m8,m7,Am,tK,Ao,Aj,sY,sX,sW,tZ,nJ,kr,As,ua,t9,t8,tU,ue,tQ,Aq,Ap,gu,nr,o9,j8,UG,VP,UI,VS,Wo,Wn,VG,Wl,VC,U9,Wz,WA,WT,Nat.reduceSub,Nat.reduceAdd,Xd,Xc,Wt,V5,sV,tT,eJ,ic,tR,mQ,Ak,tm,Ai,sU,kX,kW,nE,nD,nC,nA,nz,ny,nv,nu,decide_true,decide_false,Nat.reduceLeDiff,Nat.reduceBEq,Int.reduceBEq,beq_self_eq_true,DL.dOne,DL.mYes,dZ,de,dE,gN,fL,gM,gL,fK,Aw,Av,Au,Int.reduceLT,Int.reduceLE,Int.reduceSub,Int.reduceAdd,Int.reduceMul,Int.reduceNeg,nt,km,Int.reduceToNat,W6,$[$xs:term],*])
namespace Com
open PySem L2 DL
noncomputable def iU:Ev->ai Fl :=
 (aC (fE (iF (cZ (bM (ae 0) (eS "str"))) (cZ (gP OB OB (dC (.int 1)) (ao (af (ae 0) aE) (m1 fj)) (dC (.int 8)))))
 (aC (ck (dC (.bl false)))
 av)
 av)
 (aC (ck (ao (af (eA 1 [] (Kq (ae 0)) (cz 0) mYes (ag (ae 0) (dC (.str "abcdefghijklmnopqrstuvwxyz")) D9)) aE) (m1 LV)))
 av))
noncomputable def m_is_name:List D->ai D:=cm 1 iU
noncomputable def dG:Ev->ai Fl :=
 (aC (fE (iF (cZ (bM (ae 0) (eS "tuple"))) (ag (ao (af (ae 0) aE) (m1 fj)) (dC (.int 2)) ll))
 (aC (ck (dC (.bl false)))
 av)
 av)
 (aC (fE (iF (cZ (ao (af (ag (ae 0) (dC (.int 0)) bf) aE) m_is_whole)) (cZ (ao (af (ag (ae 0) (dC (.int 1)) bf) aE) m_is_whole)))
 (aC (ck (dC (.bl false)))
 av)
 av)
 (aC (ck (lW (ag (ag (ae 0) (dC (.int 1)) bf) (dC (.int 1)) SO) (ag (ao (af (ag (ae 0) (dC (.int 0)) bf) (af (ag (ae 0) (dC (.int 1)) bf) aE)) m_common_divisor) (dC (.int 1)) kF)))
 av)))
noncomputable def m_is_ratio:List D->ai D:=cm 1 dG
noncomputable def OR:Str:="abcdefghijklmnopqrstuvwxyz"
noncomputable def pR(c:Nat):Bool:=Qt ⟨#[c]⟩ OR
noncomputable def nameB(z:Str):Bool:=decide (1<=z.length)&&(decide (z.length<=8)&&z.cps.toList.all pR)
noncomputable def zN:D->Bool
 |.str z=>nameB z
 |_=>false
noncomputable def Lu:D->Bool
 |.str z=>decide (z.length<=line)
 |_=>true
theorem wq:∀{ds:List D},(∀d∈ds,∃ρ1,tg b d=.ok ρ1/\tt ρ1=.ok (.bl true)/\fe ρ1=.ok (F d))->bU b tg tt fe ds=.ok (ds.map F)
 |[],_=>rfl
 |d::r,h=>by
  obtain⟨ρ1,h1,h2,h3⟩:=h d UM;rw[iR h1 h2 h3,wq (λe he=>h e (Uu _ he))];rfl
theorem p7{α:Type}(F:α->Bool):∀(cs:List α),ig (cs.map λc=>D.bl (F c))=some (cs.map F)
 |[]=>rfl
 |c::r=>by
  show(ig (r.map λc=>D.bl (F c))).map (F c::·)=_;rw[p7 F r];rfl
theorem BC(hz:z.length<=line):eA 1 [] (Kq (ae 0)) (cz 0) mYes (ag (ae 0) (dC (.str "abcdefghijklmnopqrstuvwxyz")) D9) [.sh (.str z)]=.ok (.lst (z.cps.toList.map λc=>.bl (pR c))):=by
 have hl:(jU z).length<=line:=by rw[lN];exact hz
 unfold eA;show(if(jU z).length<=line then _ else _)=_;rw[if_pos hl];have:bU (c5 1 [] [.sh (.str z)]) (cz 0) mYes (ag (ae 0) (dC (.str "abcdefghijklmnopqrstuvwxyz")) D9) (jU z)=.ok (z.cps.toList.map λc=>D.bl (pR c)):=by
  unfold jU
  induction z.cps.toList with
  |nil=>rfl
  |cons c r ih =>
   rw[UG,iR (x:=.bl (pR c)) rfl rfl rfl,ih];rfl
 rw[this]
theorem lQ(h:Lu d=true):m_is_name [d]=.ok (.bl (zN d)):=by
 cases d with
 |str z =>
  have hz:z.length<=line:=of_decide_eq_true h;have hlen:fj (.str z)=.ok (.int z.length):=if_pos hz;show cm 1 iU _=.ok (.bl (nameB z));unfold nameB
  by_cases h1:1<=z.length
  .by_cases h8:z.length<=8
   .have e1:decide ((1:Int)<=(z.length:Int))=true:=decide_eq_true (by omega)
    have e2:decide ((z.length:Int)<=8)=true:=decide_eq_true (by omega);open_line with[iU,hlen,e1,e2,BC hz,LV,p7,decide_eq_true h1,decide_eq_true h8,W5]
    simp [Yx,Function.comp_def]
   .have e1:decide ((1:Int)<=(z.length:Int))=true:=decide_eq_true (by omega)
    have e2:decide ((z.length:Int)<=8)=false:=decide_eq_false (by omega);open_line with[iU,hlen,e1,e2,decide_eq_true h1,decide_eq_false h8,Wg,Xm]
  .have e1:decide ((1:Int)<=(z.length:Int))=false:=decide_eq_false (by omega)
   open_line with[iU,hlen,e1,decide_eq_false h1,Wg]
 |ob k _=>cases k<;>rfl
 |_=>rfl
noncomputable def rE:D->Bool
 |.tup [.int p,.int q]=>decide (1<=q)&&(UX p q==1)
 |_=>false
theorem Oj{g:Nat}:((g:Int)==1)=(g==1):=by
 cases h:(g==1) with
 |true=>rw[eq_of_beq h];rfl
 |false =>
  have:g≠1:=λz=>by rw[z] at h;cases h
  exact beq_eq_false_iff_ne.mpr (by omega)
theorem Nh{xs:List D}:(∃x y,xs=[x,y])∨xs.length≠2:=by
 match xs with
 |[]=>exact .inr (by decide)
 |[x]=>exact .inr (by simp)
 |[x,y]=>exact .inl ⟨x,y,rfl⟩
 |x::y::z::r=>exact .inr (by simp)
theorem Hf:∀{xs:List D},xs.length≠2->rE (.tup xs)=false
 |[],_=>rfl
 |[x],_=>by cases x<;>rfl
 |[x,y],h=>absurd rfl h
 |x::y::z::r,_=>by cases x<;>cases y<;>rfl
theorem Bo:rE (.tup [x,y])=(C9 x&&(C9 y&&rE (.tup [x,y]))):=by
 cases x<;>cases y<;>rfl
theorem xU(d:D):m_is_ratio [d]=.ok (.bl (rE d)):=by
 cases d with
 |tup xs =>
  rcases Nh (xs:=xs) with⟨x,y,rfl⟩|h
  .rw[Bo]
   show cm 1 dG _=_;cases hx:C9 x with
   |false=>open_line with[dG,bS,hx,Wg]
   |true =>
    cases hy:C9 y with
    |false=>open_line with[dG,bS,hx,hy,Wg,W5]
    |true =>
     cases x<;>first|(cases hx;done)|skip
     cases y<;>first|(cases hy;done)|skip
     rename_i p q;show _=ai.ok (D.bl (decide (1<=q)&&(UX p q==1)))
     by_cases hq:1<=q
     .open_line with[dG,bS,hx,hy,k7,W5,decide_eq_true hq,Oj]
     .open_line with[dG,bS,hx,hy,k7,W5,decide_eq_false hq,Wg]
  .have e2:((xs.length:Int)==2)=false:=beq_eq_false_iff_ne.mpr (by omega)
   rw[Hf h];show cm 1 dG _=_;open_line with[dG,e2]
 |ob k _=>cases k<;>rfl
 |_=>rfl
theorem LW{α:Type}{F:α->D}{xs:List α}:jr (xs.map F) lo hi=((xs.drop (HT.sIx xs.length 0 lo)).take (HT.sIx xs.length xs.length hi-HT.sIx xs.length 0 lo)).map F:=by
 unfold jr;rw[Ur,←List.map_drop,←List.map_take]
end Com
namespace DL
open PySem PySem.Spec PyProof.Rows L2
theorem bN.there{h:Heap}(x:bN P w H h a o):∃u,h.get? a=some u:=by
 cases o with|lst xs=>obtain⟨_,_,_,_,e⟩:=x;exact⟨_,e⟩|tup xs=>obtain⟨_,_,_,ob,e,_⟩:=x;exact⟨_,e⟩|dK kvs|dT kvs=>obtain⟨_,_,_,_,o,_,_,e,_⟩:=x;exact⟨_,e⟩|set S n=>obtain⟨o,_,_,_,e,_⟩:=x;exact⟨_,e⟩|ins C dx fs=>obtain⟨_,_,_,e,_⟩:=x;exact⟨_,e⟩|own y=>obtain⟨_,e⟩:=x;exact⟨_,e⟩|xd fs=>obtain⟨_,⟨_,_,_,e,_⟩,_⟩:=x;exact⟨_,e⟩|rng lo hi=>obtain⟨_,_,_,e⟩:=x;exact⟨_,e⟩|frz ob u=>obtain⟨e,_⟩:=x;exact⟨_,e⟩|tbl ps|met f y=>exact⟨_,show h.get? a=some _ from x⟩|ext φ=>obtain⟨_,⟨_,e⟩,_⟩:=x;exact⟨_,e⟩
noncomputable def gi(P:Program) (w:World):A5:=λouter H s E e s'=>∃(ea C:Addr) (a0:Value) (B:Heap) (H':Hp),e=.ref ea/\s'.os=s.os/\AllBare s'.gens/\Un (gZ outer) [] H H' s.heap s'.heap/\fP P w H' s'.heap/\H' ea=none /\
 V6 B outer ea (.ref C) a0 s'.heap/\(∀b,b∉gZ outer->(H' b≠none∨∃o,s.heap.get? b=some o)->∃o,B.get? b=some o)/\∃ox,Ry s'.heap ea ox/\E (.ref C) ox H'
theorem Dl{l:List Vu}:∀env∈l,∀a,env.frame=some a->a∈gZ l:=λenv he a hf=>Xw.mpr ⟨env,he,hf⟩
section
variable {P:Program}{w:World}{K:Up}{mg:Str->Option Value}{base:Heap}{N:List Str}{qual:Str}{scope:Scope}{f:Addr}{cd:Value}{A:Around}{outer:List Vu}{s0:Shared}{H0:Hp}{E:XK}
 {pins:List (Addr×Obj)}{σ:L2.St}{H:Hp}{s:Shared}
theorem gz{B h h':Heap}(k:B.StaysIn h)(k':B.StaysIn h')(hb:∃u,B.get? b=some u)(e:h.get? b=some o):h'.get? b=some o:=by
 obtain⟨u,q⟩:=hb;have:=k b u q;rw[e] at this;cases this;exact k' b o q
theorem Iu(hX:X=di (gi P w) P w K mg base N qual scope f cd A outer s0 H0 E)(I:Inv X pins σ H s){s1:Shared}(os:s1.os=s.os)(bare:AllBare s1.gens)
  (un:Un (gZ X.stack) [] H H1 s.heap s1.heap)(hok:fP P w H1 s1.heap)(hne:H1 ea=none)(hst:B.StaysIn s1.heap)(hfr:s1.heap.FunFrames B X.stack)
  (hB:∀b,b∉gZ X.stack->(H1 b≠none∨∃o,s.heap.get? b=some o)->∃o,B.get? b=some o)(fl:V6 B outer ea (.ref C) a0 h')(up:s1.heap.UpToSlots h')(hE:∃ox,Ry h' ea ox/\E (.ref C) ox H1) :
  gi P w outer H0 s0 E (.ref ea) { s1 with heap:=h' }:=by
 subst hX;have hL:(envOfC qual scope s0.heap.objs.size f cd).frame=some (envOfC qual scope s0.heap.objs.size f cd).locals:=rfl;have hstk:∀b,b∈gZ (envOfC qual scope s0.heap.objs.size f cd::outer)->b=(envOfC qual scope s0.heap.objs.size f cd).locals∨b∈gZ outer:=λb hb=>by
  unfold gZ at hb;rw[Wq,hL] at hb;exact Uv.mp hb
 have hsub:∀b,b∈gZ outer->b∈gZ (envOfC qual scope s0.heap.objs.size f cd::outer):=λb hb=>by
  unfold gZ;rw[Wq,hL];exact Uu _ hb
 have old:∀b o,s0.heap.get? b=some o->b≠(envOfC qual scope s0.heap.objs.size f cd).locals:=λb o e=>U4 (Uy (UJ e) I.ok.above);have nofr:∀b o,s0.heap.get? b=some o->b∉gZ outer->b∉gZ (envOfC qual scope s0.heap.objs.size f cd::outer):=λb o e hb hm=>(hstk b hm).elim (old b o e) hb;have thr:∀b o,s0.heap.get? b=some o->∃o',s.heap.get? b=some o':=λb o e=>I.base.there b o e (by intro z;exact nomatch z);have fst:∀b,b∈gZ outer->∀o,s1.heap.get? b=some o->∃sl,h'.get? b=some { o with slots:=sl }:=λb hb o e=>by
  obtain⟨_,o',ho',hd⟩:=hfr.mem (hsub b hb);rw[e] at ho';cases ho';exact up b o e hd
 have free1:∀b∈gZ (envOfC qual scope s0.heap.objs.size f cd::outer),H1 b=none:=λb hb=>by
  obtain⟨_,o,ho,_⟩:=I.stack.mem hb;exact un.free b o ho (I.stkFree b hb) (by simp)
 have B0:∀b o,s0.heap.get? b=some o->b∉gZ outer->∃u,B.get? b=some u:=λb o e hb=>hB b (nofr b o e hb) (.inr (thr b o e));refine⟨ea,C,a0,B,H1,rfl,os.trans I.os,bare,⟨λb o e n hb hx=>?_,λb o e n hb hx=>?_,λb o e n hx=>?_,λb o e hx=>?_,λb xs e=>un.tups b xs (I.base.tups b xs e),λb o u e=>un.frzs b o u (I.base.frzs b o u e),λb ps e=>?_⟩,λa o e=>?_,hne,fl,λb hb h=>?_,hE⟩
 .have e1:=I.base.keep b o e n hb (by intro z;exact nomatch z)
  have n1:=I.base.free b o e n (by intro z;exact nomatch z);have e2:=un.keep b o e1 n1 (nofr b o e hb) (by simp);exact gz hst fl.1 (B0 b o e hb) e2
 .obtain⟨sl,e1⟩:=I.base.slot b o e n hb (by intro z;exact nomatch z)
  have n1:=I.base.free b o e n (by intro z;exact nomatch z);obtain⟨sl2,e2⟩:=un.any e1 n1 (by simp);obtain⟨sl3,e3⟩:=fst b hb _ e2;exact⟨sl3,e3⟩
 .obtain⟨o',e1⟩:=thr b o e
  exact un.free b o' e1 (I.base.free b o e n (by intro z;exact nomatch z)) (by simp)
 .obtain⟨o',e1⟩:=thr b o e
  obtain⟨o2,e2⟩:=un.there b o' e1 (by simp)
  by_cases hb:b∈gZ outer
  .obtain⟨sl,e3⟩:=fst b hb _ e2
   exact⟨_,e3⟩
  .exact⟨_,gz hst fl.1 (B0 b o e hb) e2⟩
 .obtain⟨m1,e1⟩:=I.base.tbls b ps e
  obtain⟨m2,e2⟩:=un.tbls b _ e1;exact⟨m1++m2,by rw[e2,Xz]⟩
 .refine(hok a o e).stay (λb u hb q=>?_) (λ_ q=>q) λ_ _ q=>q
  have hn:H1 b≠none:=by
   rcases hb with rfl|hb
   .rw[e];simp
   .rw[hb];simp
  exact gz hst fl.1 (hB b (λhm=>hn (free1 b hm)) (.inl hn)) q
 .by_cases hm:b∈gZ (envOfC qual scope s0.heap.objs.size f cd::outer)
  .rcases hstk b hm with z|z
   .rcases h with h|⟨o,h⟩
    .exact absurd (free1 b hm) h
    .exact absurd z (old b o h)
   .exact absurd z hb
  .exact hB b hm (h.elim .inl λ⟨o,h⟩=>.inr (thr b o h))
theorem w8(I:Inv (di (gi P w) P w K mg base N qual scope f cd A outer s0 H0 E) pins σ H s)(hx:Xk s.heap h1 e (.ref C) vs)(hE:E (.ref C) none H) :
  (di (gi P w) P w K mg base N qual scope f cd A outer s0 H0 E).xe (.ref e) { s with heap:=h1 }:=by
 have hin:=Dl (l:=envOfC qual scope s0.heap.objs.size f cd::outer);have hl:s.heap.FunFrames (Xn s.heap (gZ (envOfC qual scope s0.heap.objs.size f cd::outer))) (envOfC qual scope s0.heap.objs.size f cd::outer):=W.funFrames_hide I.stack hin;have hn:H e=none:=by
  cases q:H e with|none=>rfl|some o=>obtain⟨u,hu⟩:=bN.there (I.hok e o q);rw[hx.new] at hu;cases hu
 refine wpAny_leaves_madeW (h:=s.heap) (base:=Xn s.heap (gZ (envOfC qual scope s0.heap.objs.size f cd::outer))) (cls:=.ref C) (args:=vs) I.ok.frames rfl (λb o q=>XA _ q) hl hx λh' t fl tup _ up=>?_;refine Iu rfl I (s1:={ s with heap:=h1 }) (H1:=H) rfl I.bare (Un.kept hx.keeps) (I.hok.kept hx.keeps) hn (λb o q=>hx.keeps b o (XA _ q)) (hl.of_keeps λb o hb _=>⟨o,hx.keeps b o hb,rfl⟩) (λb hb h=>?_) fl up ⟨none,(let ⟨ob,e1,_⟩:=fl.there;⟨_,⟨ob,e1,rfl⟩,.inl rfl⟩),hE⟩;have:∃o,s.heap.get? b=some o:=by
  rcases h with h|h
  .cases q:H b with
   |none=>exact absurd q h
   |some o=>exact bN.there (I.hok b o q)
  .exact h
 obtain⟨o,q⟩:=this;exact⟨o,Yd _ q hb⟩
theorem CP:gf (gi P w) (di (gi P w) P w K mg base N qual scope f cd A outer s0 H0 E) E:=by
 intro pins σ H s e s' I h;obtain⟨ea,C,a0,B,H',rfl,os,bare,un,hok,hne,fl,hB,ox,⟨dc,hdc,hox⟩,hE⟩:=h;refine FJ I.ok.frames rfl fl hdc λh' fl' up hd'=>?_;exact Iu rfl I os bare un hok hne fl.1 fl.2.2.1 hB fl' up ⟨ox,⟨dc,hd',hox⟩,hE⟩
end
theorem BW{K:Up}{st:Stmt}{N ps:List Str}{k:Nat}(F:Gh K x qual st f fd)(S:d8 N ps (defScope st))
  (hbody:∀(cdv:Value) (A:Around) (outer:List Vu) (s0:Shared) (H Ha:Hp) (E:XK),cE k (A.deeper (envOfC qual (defScope st) s0.heap.objs.size f cdv)) ->
   A8 (di (gi P w) P w K mg base N qual (defScope st) f cdv A outer s0 H E) E H Ha (defBody st) s):fN P w K mg base (gi P w) (k+1) f fd ps (spD K ps.length (cm N.length s)):=by
 have hpl:ps.length<=N.length:=by have:=congrArg WZ S.pre;rw[Vf] at this;omega
 obtain⟨oc,od,kV,doc,pm,an,cdv,ct,osl,rfl,lk,hcd⟩:=F.ex;refine MF lk hcd S (λvs H Q E h=>h.1) λA outer s0 H vs Q E hr h=>?_;obtain⟨hn,Ha,ds,hs,hv,q⟩:=h;refine⟨_,(hbody cdv A outer s0 H Ha E hr).o,Ha,ds.map Sl.sh++U2 (N.length-ds.length) .no,?_,?_⟩
 .refine⟨bp.refl hs,jS hv,λi d e=>?_,λi j d d' hij e=>?_,?_,OX.none oG lL⟩
  .by_cases hi:i<ds.length
   .rw[UH (by simpa using hi),UD] at e
    cases q:ds[i]? with|none|some d'=>rw[q] at e;cases e
   .rw[UN (by simpa using hi),UW] at e
    split at e<;>cases e
  .by_cases hi:i<ds.length
   .rw[UH (by simpa using hi),UD] at e
    cases q:ds[i]? with|none|some d'=>rw[q] at e;cases e
   .rw[UN (by simpa using hi),UW] at e
    split at e<;>cases e
  .unfold L2.start
   have:=hv.length;simp only[U6,Ur,Vj];omega
 .unfold cm at q
  cases e1:s (ds.map Sl.sh++U2 (N.length-ds.length) .no) with
  |stuck|exn x=>rw[e1] at q;exact q
  |ok r =>
   rw[e1] at q;cases r with|nx ρ'=>exact λσ' H' Ha' _ h'=>q .non H' Ha' h'.g (aV.mpr rfl)|rt d=>exact λv H' Ha' g rp=>q v H' Ha' g rp|bk ρ'|ct ρ'=>exact q.elim
structure Md (K:Up) (x:Str) (C:Addr):Prop where
 xc:XC K x C
 ex:Xo K C [.type "ValueError",.type "Exception",.type "BaseException",.type "object"] "ValueError.__new__"=true
theorem Md.obj{K:Up}(c:Md K x C){h:Heap}(X:K.In h):∃bm N nm q bs hdct sn sub ab col dd k0 k1 k2 k3 k5 mN,h.get? C=some (excClassObj nm q C N bs bm hdct sn sub ab col dd k0 k1 k2 k3 k5 "ValueError.__new__")/\h.Ns N mN/\mN "__init__"=none /\
  OwnTail h [.type "ValueError",.type "Exception",.type "BaseException",.type "object"] bm:=by
 have q:=c.ex;unfold Xo at q;split at q
 .rename_i dd cd sl ho
  split at q
  .rename_i C' bm k0 k1 k2 k3 n k5 hm hs
   simp only[UU,beq_iff_eq,Bool.not_eq_true'] at q;obtain⟨⟨⟨⟨⟨rfl,rfl⟩,hdel⟩,ht⟩,hok⟩,hni⟩:=q;obtain⟨nm,bs,mro,ns,qn,hd,sn,sub,ab,col,del⟩:=cd;dsimp only at hm hdel hok hni;subst hm hdel;have hsl:sl=#[k0,k1,k2,k3,some (.builtin "ValueError.__new__"),k5]:=by
    obtain⟨l⟩:=sl;simp only at hs;rw[hs]
   subst hsl;exact⟨bm,ns,nm,qn,bs,hd,sn,sub,ab,col,dd,k0,k1,k2,k3,k5,_,X _ _ ho,.of_isNs (XD X hok),W.nsMap_none_of_in X hok hni,W.tail_of_in X ht⟩
  .cases q
 .cases q
noncomputable def wY(x:Str) (fa:Ev->ai (List D)):Ev->ai Fl:=λρ=>(fa (eR ρ)).bind λds=>if ds.length<=line then .exn ⟨x,[]⟩ else .stuck
section
variable {P:Program}{w:World}{K:Up}{mg:Str->Option Value}{base:Heap}{N:List Str}{qual:Str}{scope:Scope}{f:Addr}{cd:Value}{A:Around}{outer:List Vu}{s0:Shared}{H0:Hp}{E:XK}{He H0e:Hp}
theorem Jc(c:Md K x C)(hm:mg x=some (.ref C))(hh:A.handled=none)
  (hg:Gl (di (gi P w) P w K mg base N qual scope f cd A outer s0 H0 E) x)(ha:DA (di (gi P w) P w K mg base N qual scope f cd A outer s0 H0 E) E (e::es) fa)
  (hdb:(x==("__debug__":Str))=false:=by decide)(he:starEach (e::es) (di (gi P w) P w K mg base N qual scope f cd A outer s0 H0 E).env=(false,eval e (di (gi P w) P w K mg base N qual scope f cd A outer s0 H0 E).env)::starEach es (di (gi P w) P w K mg base N qual scope f cd A outer s0 H0 E).env:=by exact aQ rfl)
  (hpl:(backTo cpos (starEach es (di (gi P w) P w K mg base N qual scope f cd A outer s0 H0 E).env)).any (·.1)=false:=by exact bB rfl) :
  DS (di (gi P w) P w K mg base N qual scope f cd A outer s0 H0 E) E He H0e (.Raise (some (.Call (.Name x np) (e::es) [] cpos)) none pos) (wY x fa):=by
 refine⟨?_⟩;intro pins s σ H D I ⟨Ha,ρ,hr,q⟩;obtain⟨bm,Nn,nm,qn,bs,hdct,sn,sub,ab,col,dd,k0,k1,k2,k3,k5,mN,hC,hN,hni,T⟩:=c.obj I.ok.mod.kin;refine wpAny_Raise_call_subT (C:=C) (nm:=nm) (q:=qn) (N:=Nn) (bs:=bs) (bm:=bm) (hdct:=hdct) (sn:=sn) (sub:=sub) (ab:=ab) (col:=col) (dd:=dd) (k0:=k0) (k1:=k1) (k2:=k2) (k3:=k3) (k5:=k5)
  VX (mN:=mN) (T.hasType VX.hasBase) hh (by rw[he];show(false||(backTo cpos (starEach es (di (gi P w) P w K mg base N qual scope f cd A outer s0 H0 E).env)).any (·.1))=false;rw[hpl];rfl) hni (jh I hg hm ⟨rfl,?_⟩ hdb)
 have hq:rH K E H (frz He Ha H) (fa (eR ρ)) (λvs H1=>vs.length<=sizeLine/\E (.ref C) none H1):=by
  unfold wY at q;cases e1:fa (eR ρ) with
  |stuck=>rw[e1] at q;exact q|exn z=>rw[e1] at q;exact λC ox H' Ha' g ex=>q C ox H' Ha' (hr.frz_grow.trans g) ex
  |ok ds =>
   rw[e1] at q;intro vs H1 H01 g rp;have q:bR K E He H0e Ha (if ds.length<=line then ai.exn ⟨x,[]⟩ else .stuck) D:=q
   by_cases hl:ds.length<=line
   .rw[if_pos hl] at q
    exact⟨by rw[←rp.length];exact cF hl,q (.ref C) none H1 H01 (hr.frz_grow.trans g) ⟨⟨C,rfl,c.xc⟩,rfl⟩⟩
   .rw[if_neg hl] at q;exact q.elim
 have h1:=ha.o cpos pins s σ H _ I ⟨frz He Ha H,eR ρ,hr.frz_le,hr.looks,hq⟩;rw[he] at h1 ⊢;refine WQ (Vh h1 (λvs s2 h2=>?_) λ_ _ y=>y);obtain⟨vs',H1,I1,rv,hl,hE⟩:=h2;exact⟨rfl,by rw[←rv.length];exact hl,I1.bk _ _ hC,hN.keeps I1.bk,T.keeps I1.bk,λh' ee hx=>w8 I1 hx hE⟩
end
section
variable {P:Program}{w:World}{st:List Vu}{H H':Hp}{h g g' B:Heap}
theorem Un.fly(un:Un (gZ st) [] H H' h g)(k:B.StaysIn g)(hfr:g.FunFrames B st)(hB:∀b,b∉gZ st->(H' b≠none∨∃o,h.get? b=some o)->∃o,B.get? b=some o)(k':B.StaysIn g')(up:g.UpToSlots g'):Un (gZ st) [] H H' h g':=by
 have fst:∀b,b∈gZ st->∀o,g.get? b=some o->∃sl,g'.get? b=some { o with slots:=sl }:=λb hb o e=>by
  obtain⟨_,o',ho',hd⟩:=hfr.mem hb;rw[e] at ho';cases ho';exact up b o e hd
 refine⟨λb o e n hb hx=>?_,λb o e n hb hx=>?_,un.free,λb o e hx=>?_,un.tups,un.frzs,un.tbls⟩
 .exact gz k k' (hB b hb (.inr ⟨o,e⟩)) (un.keep b o e n hb hx)
 .obtain⟨sl,e1⟩:=un.slot b o e n hb hx
  obtain⟨sl2,e2⟩:=fst b hb _ e1;exact⟨sl2,e2⟩
 .obtain⟨o',e1⟩:=un.there b o e hx
  by_cases hb:b∈gZ st
  .obtain⟨sl,e2⟩:=fst b hb _ e1
   exact⟨_,e2⟩
  .exact⟨_,gz k k' (hB b hb (.inr ⟨o,e⟩)) e1⟩
theorem fP.fly(ok:fP P w H' g)(hf:∀b∈gZ st,H' b=none)(k:B.StaysIn g)(hB:∀b,b∉gZ st->(H' b≠none∨∃o,h.get? b=some o)->∃o,B.get? b=some o)(k':B.StaysIn g'):fP P w H' g':=λa o e=>by
 refine(ok a o e).stay (λb u hb q=>?_) (λ_ q=>q) λ_ _ q=>q;have hn:H' b≠none:=by
  rcases hb with rfl|hb
  .rw[e];simp
  .rw[hb];simp
 exact gz k k' (hB b (λhm=>hn (hf b hm)) (.inl hn)) q
theorem fP.ext(ok:fP P w H g)(hn:H a=none)(p:φ g)(ht:∃o,g.get? a=some o)(hm:∀h1 h2:Heap,φ h1->(∀o,h1.get? a=some o->h2.get? a=some o)->φ h2):fP P w (upd H a (.ext φ)) g:=λb u e=>by
 by_cases hb:b=a
 .subst hb;rw[aw] at e;cases e;exact⟨p,ht,hm⟩
 .rw[aq hb] at e
  exact(ok b u e).stay (λc v _ q=>q) (λc q=>by rw[aq (aY q hn)];exact q) λc xs q=>by rw[aq (aY q hn)];exact q
theorem Un.ext{fs:List Addr}(un:Un fs [] H H' h g)(hn:H' a=none)(ha:h.get? a=none):Un fs [] H (upd H' a o) h g :=
 ⟨un.keep,un.slot,λb ob e n hx=>by rw[aq (λz=>by subst z;rw[ha] at e;cases e)];exact un.free b ob e n hx,un.there,λb xs q=>by rw[aq (aY (un.tups b xs q) hn)];exact un.tups b xs q,
  λb ob u q=>by rw[aq (aY (un.frzs b ob u q) hn)];exact un.frzs b ob u q,λb ps q=>by
   obtain⟨m,e⟩:=un.tbls b ps q;exact⟨m,by rw[aq (aY e hn)];exact e⟩⟩
theorem FK{a C:Addr}{dc:Option Addr}:∀h1 h2:Heap,yB a C dc h1->(∀o,h1.get? a=some o->h2.get? a=some o)->yB a C dc h2:=λh1 h2 ⟨o,vs,e,c,d⟩ k=>⟨o,vs,k o e,c,d⟩
end
noncomputable def hand(X:Cx) (e:Addr):Cx:={ X with A:=X.A.mark (some (.ref e)),calm:=false,xe:=λ_ _=>False }
section
variable {X:Cx}{pins:List (Addr×Obj)}{σ:L2.St}{H:Hp}{s:Shared}{e:Addr}
theorem Lr(ok:X.Ok):(hand X e).Ok :=
 ⟨ok.mod,ok.kind,ok.glob,ok.blt,ok.above,ok.inj,ok.has,ok.cab,λz=>Bool.noConfusion z,ok.frames,ok.stk,ok.exf,ok.bs,ok.bsz,ok.noex,ok.exfs,ok.funs,ok.frf⟩
theorem Inv.hand(I:Inv X pins σ H s):Inv (DL.hand X e) pins σ H s:=⟨Lr I.ok,I.os,I.bare,I.base,I.loc,I.cell,I.free,I.freeC,I.pin,I.hok,I.len⟩
theorem Co(ok:X.Ok)(I:Inv (DL.hand X e) pins σ H s):Inv X pins σ H s:=⟨ok,I.os,I.bare,I.base,I.loc,I.cell,I.free,I.freeC,I.pin,I.hok,I.len⟩
theorem JJ(I:Inv X pins σ H s)(hN:X.N.Nodup)(hi:X.N[i]?=some x)
  (hm:∀(j:Nat) (y:Str) (v:V),X.N[j]?=some y->σ[j]?=some (some v)->AZ X.env.scope y->∃u,bu v u/\RB X.env s.heap m y u)(hn:h'.Ns X.env.locals (λy=>if y=x then v else m y))(hs:WI X.env.locals s.heap h') :
  Inv X pins (σ.set i none) H { s with heap:=h',toks:=t' }:=by
 have cne:=I.cne;obtain⟨m0,⟨oL,_,_,hoL,_⟩,_⟩:=id I.loc;have tracked:fP X.prog X.w H h':=λb ob e=>by
  refine(I.hok b ob e).stay (λc w' hc q=>(hs.2 c ?_).trans q) (λ_ q=>q) λ_ _ q=>q;rintro rfl;have hfree:=I.free;rcases hc with rfl|hc
  .rw[hfree] at e;cases e
  .rw[hfree] at hc;cases hc
 refine⟨I.ok,I.os,I.bare,⟨λb o e n hb hx=>?_,λb o e n hb hx=>?_,I.base.free,λb o e hx=>?_,I.base.tups,I.base.frzs,I.base.tbls⟩,⟨_,hn,λj y v' e1 e2 e3=>?_⟩,λy c e=>?_,I.free,I.freeC,λp hp=>?_,tracked,by simpa using I.len⟩
 .exact(hs.2 b (U4 (Uy (UJ e) I.ok.above))).trans (I.base.keep b o e n hb hx)
 .obtain⟨sl,e1⟩:=I.base.slot b o e n hb hx
  exact⟨sl,(hs.2 b (U4 (Uy (UJ e) I.ok.above))).trans e1⟩
 .obtain⟨o',e1⟩:=I.base.there b o e hx
  exact⟨o',(hs.2 b (U4 (Uy (UJ e) I.ok.above))).trans e1⟩
 .by_cases hj:j=i
  .subst hj
   have hiσ:j<σ.length:=by rw[I.len];exact(Uw.mp hi).1
   rw[UQ hiσ] at e2;cases e2
  .rw[Us (U5 hj)] at e2
   obtain⟨u',r',q⟩:=hm j y v' e1 e2 e3;refine⟨u',r',?_⟩;rcases q with⟨k,e⟩|⟨k,c,e,z⟩
   .refine .inl ⟨k,?_⟩
    have:y≠x:=λe=>hj (rV hN e1 (e▸hi));simp [this,e]
   .exact .inr ⟨k,c,e,z.sameBut hs (cne y c e)⟩
 .obtain⟨w',z⟩:=I.cell y c e
  exact⟨w',z.sameBut hs (cne y c e)⟩
 .obtain⟨e,n,ne,nf,d⟩:=I.pin p hp
  exact⟨(hs.2 p.1 ne).trans e,n,ne,nf,d⟩
theorem Jr{D:iY}(hstk:X.stack=X.env::X.outer/\X.env.frame=some X.env.locals)(I:Inv X pins σ H1 s1)
  (h:gi X.prog X.w X.stack H1 s1 Ex ev s')(hg:Gl X c)(hm:X.mg c=some cv)(hx:∀C ox H',Ex (.ref C) ox H'->X4 X.K (.ref C) cv=some true)
  (hN:X.N.Nodup)(hi:X.N[ni]?=some n)(hlo:X.env.scope.names.lookup n=some .local)
  (hs:∀ea C dc ox H' s2,Ex (.ref C) ox H'->(ox=none∨ox=dc)->H' ea=none->Inv (DL.hand X ea) pins (σ.set ni (some (.ref ea))) (upd H' ea (.ext (yB ea C dc))) s2 ->
   wpAny (model X.prog X.w) (X.A.mark (some (.ref ea))) (execs (ba::suite) X.env) (SP (DL.hand X ea) pins { nx:=λσ' H=>D.nx (σ'.set ni none) H,rt:=D.rt,bk:=λσ' H=>D.bk (σ'.set ni none) H,ct:=λσ' H=>D.ct (σ'.set ni none) H }) (λ_ _=>False) s2)
  (hdb:(c==("__debug__":Str))=false:=by decide) :
  wpAny (model X.prog X.w) X.A (noteFrame ev X.env) (λ_ si=>wpAny (model X.prog X.w) X.A (setFlight ev none) (λ_ sj =>
   wpAny (model X.prog X.w) X.A (handleBy ev X.env (.ExceptHandler (some (.Name c np)) (some n) (ba::suite) hpos::rest)) (SP X pins D) X.xe sj) X.xe si) X.xe s':=by
 obtain⟨ea,C,a0,B,H',rfl,os,bare,un,hok,hne,fl,hB,ox,⟨dc,hdc,hox⟩,hE⟩:=h;have hA:X.A.frames=some (X.env::X.outer):=by rw[←hstk.1];exact I.ok.frames
 have fl0:=fl;rw[hstk.1] at fl;have hf1:∀b∈gZ X.stack,H' b=none:=λb hb=>by
  obtain⟨_,o,ho,_⟩:=I.stack.mem hb;exact un.free b o ho (I.stkFree b hb) (by simp)
 have hnew:s1.heap.get? ea=none:=by
  cases q:s1.heap.get? ea with
  |none=>rfl
  |some o =>
   by_cases hb:ea∈gZ X.stack
   .obtain⟨_,o',ho',hd⟩:=fl0.2.2.1.mem hb
    obtain⟨oe,vs,he,_,hd',_⟩:=fl0.first
    rw[ho'] at he;cases he;exact absurd hd' (hd vs)
   .obtain⟨u,hu⟩:=hB ea hb (.inr ⟨o,q⟩)
    rw[fl.2.1] at hu;cases hu
 have inv:∀g,B.StaysIn g->s'.heap.UpToSlots g->Inv X pins σ H' { s' with heap:=g }:=λg k up =>
  I.call' (ch:=[]) os (Un.fly un fl0.1 fl0.2.2.1 hB k up) (fP.fly hok hf1 fl0.1 hB k) bare (λ_ z=>nomatch z)
 have invx:∀g,B.StaysIn g->s'.heap.UpToSlots g->yB ea C dc g->Inv X pins σ (upd H' ea (.ext (yB ea C dc))) { s' with heap:=g }:=λg k up p =>
  I.call' (ch:=[]) os (Un.ext (Un.fly un fl0.1 fl0.2.2.1 hB k up) hne hnew) (fP.ext (fP.fly hok hf1 fl0.1 hB k) hne p (let ⟨o,_,e,_⟩:=p;⟨o,e⟩) FK) bare (λ_ z=>nomatch z)
 refine Iw hA hstk.2 fl hdc λh4 held4 up4 dc4=>?_;refine Iy held4 dc4 λh5 fl5 up5 dc5=>?_;have I5:Inv (DL.hand X ea) pins σ H' { s' with heap:=h5 }:=Inv.hand (inv h5 fl5.1 (up4.trans up5));refine wpAny_handleBy_cons (codeAny_handlers_test ?_) (by intro q;cases q);refine jh I5 hg hm ?_ hdb;obtain⟨ob,hob,hoc⟩:=fl5.there;have LT:Xp (model X.prog X.w) h5 (typeOf (.ref ea)) (.ref C):=hoc▸(Xp.ld hob).andThen .now;refine(W.exm_one I5.kIn LT (hx C ox H' hE)).here ?_;refine codeAny_handlers_suite_as ?_;refine Iz fl5 dc5 λh6 fl6 up6 dc6=>?_;obtain⟨oe,vs,he,hc,hd,_⟩:=fl6.first
 have I6:Inv (DL.hand X ea) pins σ (upd H' ea (.ext (yB ea C dc))) { s' with heap:=h6 }:=Inv.hand (invx h6 fl6.1 ((up4.trans up5).trans up6) ⟨oe,vs,he,hc,hd,(by obtain⟨o6,e6,d6⟩:=dc6;rw[he] at e6;cases e6;exact d6)⟩);refine jR (X:=DL.hand X ea) (v:=.ref ea) I6 hN hi (.inl hlo) rfl (λs7 I7=>?_) (.inr hlo);refine Vh (hs ea C dc ox H' s7 hE hox hne I7) (λf s8 h8=>?_) λ_ _ z=>z.elim;have hcls:(X.env.scope.kind==.class||(X.env.scope.kind==.module&&X.env.locals != X.env.globals))=false:=by rw[I.ok.kind];rfl
 have fin:∀{σ':L2.St}{H2:Hp}{Q:Unit->Shared->Prop},Inv (DL.hand X ea) pins σ' H2 s8->(∀s9,Inv X pins (σ'.set ni none) H2 s9->Q () s9) ->
   wpAny (model X.prog X.w) X.A (do bindName X.env n .none;unbindBehindTheSuite X.env n hpos) Q X.xe s8:=λ{σ' H2 Q} J q=>by
  have J':=Co I.ok J;obtain⟨m,hn,hl⟩:=id J'.loc;exact wpAny_nameGoes_keeps hlo hn hcls λh' v hn' hs'=>q _ (JJ J' hN hi hl hn' hs')
 cases f with|next=>obtain⟨σ',H2,J,q⟩:=h8;exact fin J λs9 J9=>⟨_,H2,J9,q⟩|brk=>obtain⟨σ',H2,J,q⟩:=h8;exact fin J λs9 J9=>⟨_,H2,J9,q⟩|cont=>obtain⟨σ',H2,J,q⟩:=h8;exact fin J λs9 J9=>⟨_,H2,J9,q⟩|ret u=>obtain⟨v,σ',H2,J,r,q⟩:=h8;exact fin J λs9 J9=>⟨v,_,H2,J9,r,q⟩
end
theorem PA.nox(h:PA X.nox es t):PA X es t:=λpos pins s σ H Q I hw =>
 Vh (h pos pins s σ H Q (I.wish _) hw) (λ_ _ ⟨v,H',I',r,q⟩=>⟨v,H',I'.unwish,r,q⟩) λ_ _ z=>Vo z
section
variable {X:Cx}{pins:List (Addr×Obj)}{σ:L2.St}{H:Hp}{s:Shared}{CX:A5}{k:Nat}{f:Addr}{fd:FuncData}{ps:List Str}{sp:Sp}{Ex:XK}{x:Str}{p pos:Pos}{e:Expr}{es:List Expr}{t:TA}
theorem Ed(F:fN X.prog X.w X.K X.mg X.base CX k f fd ps sp)(hr:cE k X.A)(hg:Gl X x)(hm:X.mg x=some (.ref f))(hk:WD X.K (.ref f)=true)(hb:ik X.K fd ps [])(ha:PA X.nox (e::es) t)
  (I:Inv X pins σ H s)(h:t σ H λvs H1=>sp vs H1 Q Ex)(hx:∀H1 s1 e s',Inv X pins σ H1 s1->CX X.stack H1 s1 Ex e s'->XE e s')
  (hdb:(x==("__debug__":Str))=false:=by decide)(he:starEach (e::es) X.env=(false,eval e X.env)::starEach es X.env:=by exact aQ rfl)(hpl:(backTo pos (starEach es X.env)).any (·.1)=false:=by exact bB rfl) :
  wpAny (model X.prog X.w) X.A (eval (.Call (.Name x p) (e::es) [] pos) X.env) (EP X pins σ Q) XE s:=by
 refine wpAny_Call_Name_kw (jh I hg hm ?_ hdb);have ha':PA (X.wish XE) (e::es) t:=PA.nox (X:=X.wish XE) ha;refine W.callWith_K (h₀:=X.base) I.ok.mod.kin hk (cj (ha' pos pins s σ H _ (I.wish XE) h) λus s1 ⟨vs,H1,I1,r,q⟩=>⟨I1.unwish.kIn,?_⟩) he hpl;have I1:=I1.unwish;have hl:us.length=ps.length:=by rw[←r.length];exact F.len _ _ _ _ q
 have hb1:=hb s1 us I1.kIn (by simpa using hl);rw[UT] at hb1;refine wpAny_call (codeAny_mono (F.run X.A X.stack s1 H1 ⟨us,[]⟩ us vs Q Ex hr I1.env0 hb1 r q) λr s' hq=>?_);cases r with
 |error e=>exact hx H1 s1 e s' I1 hq
 |ok fl =>
  cases fl with|ret u=>exact I1.after hq|next|brk|cont=>exact Vo hq
end
noncomputable def GD(K:Up) (He H0e Ha:Hp) (r:ai Fl) (D:iY):Prop:=match r with
 |.exn _=>True
 |r=>bR K E0 He H0e Ha r D
noncomputable def RX(K:Up) (He H0e Ha:Hp) (σ:L2.St) (ρ:Ev) (r:ai Fl):XK:=λC ox H'=>∃x Ha',r=.exn x/\aB Ha Ha'/\cT K He H0e Ha' σ H' ρ/\A3 K Ha' x C ox
structure TB (X:Cx) (st:Stmt) (g:Ev->ai Fl):Prop where
 o:∀(pins:List (Addr×Obj)) (s:Shared) (σ:L2.St) (H He H0e Ha:Hp) (ρ:Ev) (D:iY) (XE:Value->Shared->Prop),Inv X pins σ H s->cT X.K He H0e Ha σ H ρ->GD X.K He H0e Ha (g ρ) D ->
  (∀H1 s1 e s',Inv X pins σ H1 s1->gi X.prog X.w X.stack H1 s1 (RX X.K He H0e Ha σ ρ (g ρ)) e s'->XE e s')->wpAny (model X.prog X.w) X.A (exec st X.env) (SP X pins D) XE s
section
variable {X:Cx}{E:XK}{e:Expr}{es:List Expr}{fa:Ev->ai (List D)}{pos:Pos}
theorem cT.drop{K:Up}(h:cT K He H0e Ha σ H ρ):cT K He H0e Ha (σ.set i none) H (ρ.set i .no):=by
 have key:∀(j:Nat) (s:Sl),(ρ.set i .no)[j]?=some s->s≠.no->j≠i/\ρ[j]?=some s:=λj s e hs=>by
  by_cases hj:i=j
  .subst hj
   rw[V3] at e;cases q:ρ[i]? with|none=>rw[q] at e;cases e|some s'=>rw[q] at e;cases e;exact absurd rfl hs
  .rw[Us hj] at e
   exact⟨λz=>hj z.symm,e⟩
 refine⟨h.g,λj d' e=>?_,λj d' e=>?_,λj k d1 d2 hn e1 e2=>?_,by simp [h.ln],h.ex.upd (λj s e=>?_) (aB.refl _) (λa vs _ e=>e) λp us _ h0 hp _=>⟨hp,h0⟩⟩
 rotate_left 3
 .by_cases hs:s=.no
  .exact .inr (.inr (.inl hs))
  .obtain⟨hj,e'⟩:=key j s e hs
   exact .inl ⟨e',by rw[Us (U5 hj)]⟩
 .obtain⟨hj,e'⟩:=key j _ e (by simp)
  obtain⟨v',h1,h2⟩:=h.rd j d' e';exact⟨v',by rw[Us (U5 hj)];exact h1,h2⟩
 .obtain⟨hj,e'⟩:=key j _ e (by simp)
  obtain⟨a,h1,h2⟩:=h.ow j d' e';exact⟨a,by rw[Us (U5 hj)];exact h1,h2⟩
 .obtain⟨hj,e1'⟩:=key j _ e1 (by simp)
  obtain⟨hk,e2'⟩:=key k _ e2 (by simp);rw[Us (U5 hj),Us (U5 hk)];exact h.ap j k d1 d2 hn e1' e2'
noncomputable def xr(ni:Nat) (r:Fl):ai Fl:=match r with
 |.nx ρ=>.ok (.nx (ρ.set ni .no))
 |.rt d=>.ok (.rt d)
 |.bk ρ=>.ok (.bk (ρ.set ni .no))
 |.ct ρ=>.ok (.ct (ρ.set ni .no))
noncomputable def mM(x:JT):D:=match x.flds with
 |[]=>.exc x.cls
 |f::fs=>if((f::fs).map (·.1)).Nodup then .ob (.exf x.cls ((f::fs).map (·.1))) ((f::fs).map (·.2)) else .exc x.cls
theorem vG{β:Type}:∀{l:List (Str×β)}{f:Str}{d:β},(l.map (·.1)).Nodup->(f,d)∈l->l.lookup f=some d
 |(g,e)::l,f,d,nd,h=>by
  rw[UG,VZ] at nd;rcases Uv.mp h with h|h
  .cases h;rw[VB,beq_self_eq_true]
  .have:f≠g:=λz=>nd.1 (z▸UY.mpr ⟨(f,d),h,rfl⟩)
   rw[VB,beq_eq_false_iff_ne.mpr this];exact vG nd.2 h
theorem Ae{K:Up}{fs:List (Str×V)}:∀(l:List (Str×D)),(∀n d,(n,d)∈l->∃v,fs.lookup n=some v/\Rep K H d v)->∃vs,Reps K H (l.map (·.2)) vs/\l.length=vs.length/\∀(i:Nat) (f:Str) (v:V),(l.map (·.1))[i]?=some f->vs[i]?=some v->fs.lookup f=some v
 |[],_=>⟨[],Reps.nil_iff.mpr rfl,rfl,λi f v e=>by simp at e⟩
 |(n,d)::l,h=>by
  obtain⟨v,h1,h2⟩:=h n d UM;obtain⟨vs,h3,h4,h5⟩:=Ae l λn d hm=>h n d (Uu _ hm);refine⟨v::vs,aJ.mpr ⟨v,vs,rfl,h2,h3⟩,by simp [h4],λi f w e1 e2=>?_⟩;cases i with|zero=>simp at e1 e2;rw[←e1,←e2];exact h1|succ i=>exact h5 i f w (by simpa using e1) (by simpa using e2)
theorem Ah{K:Up}(xc:XC K x.cls C)(ex:A3 K H x (.ref C) ox)(hox:ox=none∨ox=dc)(hne:H ea=none):Rep K (upd H ea (.ext (yB ea C dc))) (mM x) (.ref ea):=by
 have plain:Rep K (upd H ea (.ext (yB ea C dc))) (.exc x.cls) (.ref ea):=eB.mpr ⟨ea,C,dc,rfl,xc,.inl aw⟩;have sm:aB H (upd H ea (.ext (yB ea C dc))):=λb o q=>by rw[aq (aY q hne)];exact q
 obtain⟨cls,flds⟩:=x;unfold mM;cases flds with
 |nil=>exact plain
 |cons f fs =>
  show Rep _ _ (if((f::fs).map (·.1)).Nodup then D.ob (.exf cls ((f::fs).map (·.1))) ((f::fs).map (·.2)) else .exc cls) _
  by_cases nd:((f::fs).map (·.1)).Nodup
  .rw[if_pos nd]
   obtain⟨_,hm⟩:=ex;cases ox with
   |none=>cases hm
   |some a =>
    obtain⟨gs,h1,h2⟩:=hm;have hdc:dc=some a:=by
     rcases hox with z|z
     .cases z
     .exact z.symm
    obtain⟨vs,k1,k2,k3⟩:=Ae (K:=K) (H:=H) (fs:=gs) (f::fs) λn d hmm=>h2 n d (vG nd hmm);exact gW.mpr ⟨ea,vs,rfl,⟨C,a,gs,xc,hdc▸.inl aw,sm _ _ h1,by rw[Ur];exact k2,k3⟩,k1.mono sm⟩
  .rw[if_neg nd];exact plain
noncomputable def E9(g:Ev->ai Fl) (hit:Str->Bool) (ni:Nat) (sh:Ev->ai Fl):Ev->ai Fl:=λρ=>match g ρ with
 |.exn x=>if hit x.cls=true then(sh (ρ.set ni (.sh (mM x)))).bind (xr ni) else .stuck
 |r=>r
theorem Oq{st ba:Stmt}(hstk:X.stack=X.env::X.outer/\X.env.frame=some X.env.locals)(hb:TB X st g)
  (hg:Gl X c)(hm:X.mg c=some cv)(hhit:∀x C,hit x=true->XC X.K x C->X4 X.K (.ref C) cv=some true)(hN:X.N.Nodup)(hi:X.N[ni]?=some n)(hlo:X.env.scope.names.lookup n=some .local)
  (hh:∀ea,A8 (DL.hand X ea) E He H0e (ba::suite) sh)(hdb:(c==("__debug__":Str))=false:=by decide) :
  DS X E He H0e (.Try [st] [.ExceptHandler (some (.Name c np)) (some n) (ba::suite) hpos] [] [] pos) (E9 g hit ni sh):=by
 refine⟨?_⟩;intro pins s σ H D I ⟨Ha,ρ,h,q⟩;have hq:GD X.K He H0e Ha (g ρ) D:=by
  unfold E9 at q;cases e1:g ρ with
  |exn x=>trivial|stuck=>rw[e1] at q;exact q
  |ok r=>rw[e1] at q;cases r<;>exact q
 refine wpAny_Try_except (wpAny_execs_cons (cj (hb.o pins s σ H He H0e Ha ρ D _ I h hq λH1 s1 e s' I1 hc=>?_) λf s1 hf=>?_))
 .have hit1:∀x,g ρ=.exn x->hit x.cls=true:=λx e1=>by
   unfold E9 at q;rw[e1] at q
   by_cases z:hit x.cls=true
   .exact z
   .simp only[if_neg z] at q;exact q.elim
  refine Jr hstk I1 hc hg hm (λC ox H' ⟨x,Ha',e1,_,_,⟨⟨c',ec,xc⟩,_⟩⟩=>?_) hN hi hlo (λea C dc ox H' s2 ⟨x,Ha',e1,sm,srx,⟨⟨c',ec,xc⟩,hm2⟩⟩ hox hne I2=>?_) hdb
  .cases ec;exact hhit _ _ (hit1 x e1) xc
  .cases ec
   refine(hh ea).o pins s2 _ _ _ I2 ⟨upd Ha' ea (.ext (yB ea C dc)),ρ.set ni (.sh (mM x)),(srx.grow (aO srx.g.sub hne)).put (Ah xc ⟨⟨C,rfl,xc⟩,hm2⟩ hox (srx.g.sub.free hne)),?_⟩;have sm2:aB Ha (upd Ha' ea (.ext (yB ea C dc))):=sm.trans (aO srx.g.sub hne).z;unfold E9 at q;rw[e1] at q;simp only[if_pos (hit1 x e1)] at q;cases e2:sh (ρ.set ni (.sh (mM x))) with
   |stuck|exn z=>rw[e2] at q;exact q
   |ok r =>
    rw[e2] at q;cases r with|nx ρ'=>exact λσ' H2 H02 s2 h2=>q _ H2 H02 (sm2.trans s2) (cT.drop h2)|rt d=>exact q|bk ρ'=>exact λσ' H2 H02 s2 h2=>q _ H2 H02 (sm2.trans s2) (cT.drop h2)|ct ρ'=>exact λσ' H2 H02 s2 h2=>q _ H2 H02 (sm2.trans s2) (cT.drop h2)
 .cases f with
  |next=>exact wpAny_execs_nil (wpAny_execs_nil hf)
  |brk=>exact hf
  |cont=>exact hf
  |ret u=>exact hf
end
structure M3 (k:Nat) (A:Around):Prop where
 dp:A.depth+3*k+5<recursionLimit
 un:A.units+16*k+200<cLine
theorem cE.h{k:Nat}(r:cE k A):M3 k A:=⟨r.dp,r.un⟩
structure TR (P:Program) (w:World) (K:Up) (mg:Str->Option Value) (base:Heap) (k:Nat) (f:Addr) (fd:FuncData) (ps:List Str) (sp:Sp):Prop where
 len:∀vs H Q E,sp vs H Q E->vs.length=ps.length
 run:∀(A:Around) (outer:List Vu) (s:Shared) (H:Hp) (args:Args) (us:List Value) (vs:List V) (Q:VK) (E:XK),M3 k A->A4 P w K mg base A outer s H->BindsTo s fd args (ps.zip us)->bH vs us->sp vs H Q E ->
  codeAny (model P w) A (.call (.ref f) args) (CR CX0 outer P w H s Q E) s
theorem TR.ok{K:Up}{k:Nat}{ps:List Str}(F:TR P w K mg base k f fd ps sp):fN P w K mg base CX0 k f fd ps sp :=
 ⟨F.len,λA outer s H args us vs Q E hr=>F.run A outer s H args us vs Q E (cE.h hr)⟩
section
variable {X:Cx}{E:XK}{e a:Expr}{es:List Expr}{f:Ev->ai D}{fa:Ev->ai (List D)}{pos:Pos}
end
noncomputable def fk(tab:Str->Option Bool) (x:D):ai D:=match x with
 |.exc c=>(match tab c with
  |some b=>.ok (.bl b)
  |none=>.stuck)
 |.ob (.exf c _) _=>(match tab c with
  |some b=>.ok (.bl b)
  |none=>.stuck)
 |_=>.stuck
noncomputable def uV(K:Up) (tab:Str->Option Bool) (cv:Value):Prop:=∀c C b,tab c=some b->XC K c C->Xh K (.ref C) cv=some b
noncomputable def Cn(K:Up) (tab:Str->Option Bool) (cs:List Addr):Prop:=∀c C b,tab c=some b->XC K c C->W.kitAny K (.ref C) (cs.map UZ)=some b
section
variable {X:Cx}{E:XK}{e a:Expr}{es:List Expr}{f:Ev->ai D}{pos:Pos}{tab:Str->Option Bool}
theorem Lp(hrel:∀u,bu cV u->u=cv)(ht:uV X.K tab cv):gY X (.builtin "isinstance") (λvs H Q=>∃c v b,vs=[v,cV]/\Rep X.K H (.exc c) v/\tab c=some b/\Q (.bl b) H):=by
 intro pins s σ H xs us Q I r h;obtain⟨c,v,b,rfl,h1,h2,q⟩:=h;cases r with
 |cons r1 r2 =>
  cases r2 with
  |cons r3 r4 =>
   cases r4;rename_i u1 u2;obtain rfl:=hrel _ r3;obtain⟨ad,C,dc,rfl,hc,hr⟩:=eB.mp h1;cases (show u1=UZ ad from r1);obtain⟨p,_,_⟩:=hr.ok I.hok;exact VA (mH hc.ek hc.ek.isCls) I.kIn p (ht c C b h2 hc) (λz=>nomatch z) λtk=>⟨.bl b,H,I.tok _,rfl,q⟩
theorem Ii(h:tD X.K E (bM f (fk tab)) σ H Q):tD X.K E f σ H λv H1=>∃c v' b,[v,cV]=[v',cV]/\Rep X.K H1 (.exc c) v'/\tab c=some b/\Q (.bl b) H1:=by
 obtain⟨Ha,ρ,hs,hr,q⟩:=h;refine⟨Ha,ρ,hs,hr,?_⟩;unfold bM at q;cases e1:f ρ with
 |stuck|exn x=>rw[e1] at q;exact q
 |ok d =>
  rw[e1] at q;intro v H1 H01 g1 r1;have q:post X.K E H Ha (fk tab d) Q:=q;cases d with
  |exc c =>
   unfold fk at q;cases e2:tab c with|none=>simp only[e2] at q;exact q.elim|some b=>simp only[e2] at q;exact⟨c,v,b,rfl,r1.mono g1.sub,e2,q _ H1 H01 g1 (rb _)⟩
  |ob k ds =>
   cases k with
   |exf c ks =>
    replace r1:=r1.exf_exc;unfold fk at q;cases e2:tab c with|none=>simp only[e2] at q;exact q.elim|some b=>simp only[e2] at q;exact⟨c,v,b,rfl,r1.mono g1.sub,e2,q _ H1 H01 g1 (rb _)⟩
   |_=>exact q.elim
  |_=>exact q.elim
theorem Jl(hrel:∀u,bu cV u->u=cv)(ht:uV X.K tab cv)(hc:PE X (.Name x p2) (tC cV))(hgi:Gl X "isinstance")(hmi:X.mg "isinstance"=none)(ha:DE X E a f)
  (he:starEach [a,.Name x p2] X.env=(false,eval a X.env)::starEach [.Name x p2] X.env:=by exact aQ rfl)(he2:starEach [.Name x p2] X.env=(false,eval (.Name x p2) X.env)::starEach [] X.env:=by exact aQ rfl)(hpl:(backTo pos (starEach [.Name x p2] X.env)).any (·.1)=false:=by exact bB rfl) :
  DE X E (.Call (.Name "isinstance" p1) [a,.Name x p2] [] pos) (bM f (fk tab)):=by
 refine⟨?_⟩;exact aX (mn (Lp hrel ht) hgi hmi PyProof.Rows.Boot.«isinstance» (cH ha.o (cH hc eY he2) he) (by decide) (by decide) he hpl) λσ H Q h=>Ii h
theorem v8(hg:Gl X x)(hm:X.mg x=some (.ref C))(ht:uV X.K tab (.ref C))(hgi:Gl X "isinstance")(hmi:X.mg "isinstance"=none)(ha:DE X E a f)(hdb:(x==("__debug__":Str))=false:=by decide)
  (he:starEach [a,.Name x p2] X.env=(false,eval a X.env)::starEach [.Name x p2] X.env:=by exact aQ rfl):DE X E (.Call (.Name "isinstance" p1) [a,.Name x p2] [] pos) (bM f (fk tab)) :=
 Jl (cV:=.ref C) (λu h=>h) ht (xq hg hm rfl hdb) hgi hmi ha he
theorem FU(hg:Gl X x)(hm:X.mg x=none)(hv:bootBuiltins x=some (.type T))(ht:uV X.K tab (.type T))(hgi:Gl X "isinstance")(hmi:X.mg "isinstance"=none)(ha:DE X E a f)(hn:x≠"__name__":=by decide)(hdb:(x==("__debug__":Str))=false:=by decide)
  (he:starEach [a,.Name x p2] X.env=(false,eval a X.env)::starEach [.Name x p2] X.env:=by exact aQ rfl):DE X E (.Call (.Name "isinstance" p1) [a,.Name x p2] [] pos) (bM f (fk tab)) :=
 Jl (cV:=.ty T) (λu h=>h) ht (CO hg hm hv rfl hn hdb) hgi hmi ha he
structure CN (X:Cx) (es:List Expr) (cs:List Addr):Prop where
 o:PA X es (λσ H Q=>Q (cs.map V.ref) H)
theorem OD:CN X [] []:=⟨eY⟩
theorem nX(hg:Gl X x)(hm:X.mg x=some (.ref C))(h:CN X es cs)(hdb:(x==("__debug__":Str))=false:=by decide):CN X (.Name x p::es) (C::cs) :=
 ⟨cH (xq (v:=.ref C) hg hm rfl hdb) h.o (aQ rfl)⟩
theorem vk:∀{cs:List Addr}{us:List Value},bH (cs.map V.ref) us->us=cs.map UZ
 |[],_,.nil=>rfl
 |c::cs,_,.cons r t=>by rw[vk t];obtain rfl:_=UZ c:=r;rfl
theorem Lo(ht:Cn X.K tab cs):gY X (.builtin "isinstance") (λvs H Q=>∃c v b p,vs=[v,.ref p]/\H p=some (.tup (cs.map V.ref))/\Rep X.K H (.exc c) v/\tab c=some b/\Q (.bl b) H):=by
 intro pins s σ H xs us Q I r h;obtain⟨c,v,b,p,rfl,hp,h1,h2,q⟩:=h;cases r with
 |cons r1 r2 =>
  cases r2 with
  |cons r3 r4 =>
   cases r4;rename_i u1 u2;obtain rfl:u2=UZ p:=r3;obtain⟨ad,C,dc,rfl,hc,hr⟩:=eB.mp h1;cases (show u1=UZ ad from r1);obtain⟨pe,_,_⟩:=hr.ok I.hok;obtain⟨_,its,rv,ob,k1,k2,n,k3⟩:=I.hok p _ hp;obtain rfl:=vk rv;obtain⟨oc,od,odt,osl⟩:=ob;cases k2;cases k3;exact W.kia_tup (mH hc.ek hc.ek.isCls) I.kIn pe k1 (ht c C b h2 hc) (λz=>nomatch z) λtk=>⟨.bl b,H,I.tok _,rfl,q⟩
theorem LN{k2}(ht:Cn X.K tab cs)(hc:CN X es cs)(hl:cs.length<=30)(hgi:Gl X "isinstance")(hmi:X.mg "isinstance"=none)(ha:DE X E a f)
  (he:starEach [a,.Tuple es k2 p2] X.env=(false,eval a X.env)::starEach [.Tuple es k2 p2] X.env:=by exact aQ rfl)(he2:starEach [.Tuple es k2 p2] X.env=(false,eval (.Tuple es k2 p2) X.env)::starEach [] X.env:=by exact aQ rfl)(hpl:(backTo pos (starEach [.Tuple es k2 p2] X.env)).any (·.1)=false:=by exact bB rfl) :
  DE X E (.Call (.Name "isinstance" p1) [a,.Tuple es k2 p2] [] pos) (bM f (fk tab)):=by
 refine⟨?_⟩;refine aX (mn (Lo ht) hgi hmi PyProof.Rows.Boot.«isinstance» (cH ha.o (cH (Bt hc.o) eY he2) he) (by decide) (by decide) he hpl) λσ H Q ⟨Ha,ρ,hs,hr,q⟩=>⟨Ha,ρ,hs,hr,?_⟩
 unfold bM at q;cases e1:f ρ with
 |stuck|exn x=>rw[e1] at q;exact q
 |ok d =>
  rw[e1] at q;intro v H1 H01 g1 r1;have q:post X.K E H Ha (fk tab d) Q:=q;cases d with
  |exc c =>
   unfold fk at q;cases e2:tab c with
   |none=>simp only[e2] at q;exact q.elim
   |some b =>
    simp only[e2] at q;refine⟨?_,λp hp=>?_⟩
    .rw[Ur];exact UO hl (by decide)
    .have ga:=aO (o:=.tup (cs.map V.ref)) g1.sub hp
     exact⟨c,v,b,p,rfl,aw,(r1.mono g1.sub).mono ga.s,e2,q _ _ _ (g1.trans ga) (rb _)⟩
  |ob k ds =>
   cases k with
   |exf c ks =>
    replace r1:=r1.exf_exc;unfold fk at q;cases e2:tab c with
    |none=>simp only[e2] at q;exact q.elim
    |some b =>
     simp only[e2] at q;refine⟨?_,λp hp=>?_⟩
     .rw[Ur];exact UO hl (by decide)
     .have ga:=aO (o:=.tup (cs.map V.ref)) g1.sub hp
      exact⟨c,v,b,p,rfl,aw,(r1.mono g1.sub).mono ga.s,e2,q _ _ _ (g1.trans ga) (rb _)⟩
   |_=>exact q.elim
  |_=>exact q.elim
end
end DL
namespace DL
open PySem PySem.Spec PyProof.Rows L2 PySem.W
structure jN (K:Frag) (x:Str) (C:Addr):Prop where
 ns:nsIn K mainGlobals x=some (some (.ref C))
 ty:typeIn K (.ref C)=some (.type "type")
 ob:mroIn K C (.type "object")=some true
 be:subIn K (.ref C) (.type "BaseException")=some true
theorem jN.isCls{K:Frag}(Z:jN K x C):(clsIn K C).isSome=true:=by
 obtain⟨cd,a,b⟩:=Yn.mp Z.ob;rw[a];rfl
theorem jN.kitCls{K:Frag}(Z:jN K x C):W.kitCls K t (.ref C)=subIn K t (.ref C):=by
 show(if((clsIn K C).isSome&&typeIn K (.ref C)==some (.type "type"))=true then subIn K t (.ref C) else none)=_;rw[Z.isCls,Z.ty];rfl
theorem jN.exm{K:Frag}(Z:jN K x C)(h:subIn K t (.ref C)=some b):exmOne K t (.ref C)=some b:=by
 unfold exmOne;rw[Z.be,if_pos (by decide),Z.kitCls,h]
theorem jN.kit{K:Frag}(Z:jN K x C)(hR:subIn K (.ref R) (.ref R)=some true)(h:subIn K (.ref R) (.ref C)=some b):kitOne K (.ref R) (.ref C)=some b:=by
 unfold kitOne
 by_cases e:(UZ R==UZ C)=true
 .rw[if_pos e]
  cases (UZ.inj (beq_iff_eq.mp e));rw[←hR,h]
 .rw[if_neg e,Z.kitCls,h]
theorem xP{K:Frag}(hm:kitMeta T=true)(h:subIn K (.ref C) (.type T)=some b):kitOne K (.ref C) (.type T)=some b:=by
 unfold kitOne;rw[if_neg (by intro z;cases beq_iff_eq.mp z)];show(if kitMeta T=true then subIn K (.ref C) (.type T) else none)=_;rw[if_pos hm,h]
theorem su{K:Frag}:kitAny K t []=some false:=rfl
theorem dY{K:Frag}(h:kitOne K t c=some false)(h':kitAny K t r=some b):kitAny K t (c::r)=some b:=by unfold kitAny;rw[h];exact h'
theorem pP:∀T∈f9,kitMeta T=true:=by decide +kernel
theorem sr:kitMeta "ValueError"=true:=by decide +kernel
structure JF (K:Frag) (x:Str) (C:Addr):Prop where
 i:jN K x C
 cls:findIn K (.ref C) "__class__"=some (some (.builtin "object.__class__"))
 ga:findIn K (.ref C) "__getattribute__"=some (some (.builtin "BaseException.__getattribute__"))
 gt:findIn K (.ref C) "__getattr__"=some none
 t1:subIn K (.ref C) (.type "NoneType")=some false
 t2:subIn K (.ref C) (.type "bool")=some false
 t3:subIn K (.ref C) (.type "int")=some false
 t4:subIn K (.ref C) (.type "str")=some false
 t5:subIn K (.ref C) (.type "tuple")=some false
 t6:subIn K (.ref C) (.type "list")=some false
 t7:subIn K (.ref C) (.type "dict")=some false
 ve:subIn K (.ref C) (.type "ValueError")=some true
 self:subIn K (.ref C) (.ref C)=some true
 ex:excIn K C [.type "ValueError",.type "Exception",.type "BaseException",.type "object"] "ValueError.__new__"=true
theorem JF.xcls{K:Frag}{x:Str}{C:Addr}(Z:JF K x C):Md K x C where
 xc:=⟨Z.i.ns,⟨Z.cls,Z.ga,Z.gt,Z.i.ob,Z.i.be⟩,λT hT=>by
  refine xP (pP T hT) ?_;simp only[f9,Uv,US,or_false] at hT;rcases hT with rfl|rfl|rfl|rfl|rfl|rfl|rfl
  .exact Z.t1
  .exact Z.t2
  .exact Z.t3
  .exact Z.t4
  .exact Z.t5
  .exact Z.t6
  .exact Z.t7⟩
 ex:=Z.ex
theorem XC.inj{K:Frag}(a:XC K x C)(b:XC K x C'):C=C':=by
 have:=a.ns.symm.trans b.ns;simpa using this
noncomputable def lq:List (Str×Bool)->Str->Option Bool
 |[],_=>none
 |(x,b)::r,c=>if x=c then some b else lq r c
theorem er{K:Frag}{p:Str->Addr->Bool->Prop}:∀{l:List (Str×Bool)},(∀q∈l,∃C,XC K q.1 C/\p q.1 C q.2)->∀c C b,lq l c=some b->XC K c C->p c C b
 |[],_,c,C,b,h,_=>by cases h
 |(x,v)::r,H,c,C,b,h,xc=>by
  unfold lq at h
  by_cases e:x=c
  .subst e
   rw[if_pos rfl] at h;cases h;obtain⟨C',xc',q⟩:=H _ UM;obtain rfl:=XC.inj xc xc';exact q
  .rw[if_neg e] at h
   exact er (λq hq=>H q (Uu _ hq)) c C b h xc
noncomputable def mJ(l:List (Str×Bool)) (c:Str):Bool:=lq l c==some true
theorem Ac{K:Frag}{l:List (Str×Bool)}{cv:Value}(H:∀q∈l,∃C,XC K q.1 C/\exmOne K (.ref C) cv=some q.2):∀x C,mJ l x=true->XC K x C->exmOne K (.ref C) cv=some true:=λx C h xc =>
 er (p:=λ_ C b=>exmOne K (.ref C) cv=some b) H x C true (by unfold mJ at h;exact beq_iff_eq.mp h) xc
end DL
namespace Com
open PySem L2 DL
section
variable {α β:Type}
theorem bY{f:α->ai β}:(ai.exn x:ai α).bind f=.exn x:=aK rfl
end
noncomputable def Ni(hit:Str->Bool) (ni:Nat) (sh:Ev->ai Fl) (ρ:Ev) (r:ai Fl):ai Fl:=match r with
 |.exn x=>if hit x.cls=true then(sh (ρ.set ni (.sh (mM x)))).bind (xr ni) else .stuck
 |r=>r
theorem Oi:E9 g hit ni sh ρ=Ni hit ni sh ρ (g ρ):=aK rfl
theorem tJ:xr ni (.nx ρ)=.ok (.nx (ρ.set ni .no)):=aK rfl
noncomputable def Hi(x:Str) (ds:List D):ai Fl:=if ds.length<=line then .exn ⟨x,[]⟩ else .stuck
theorem IA:wY x fa ρ=(fa (eR ρ)).bind (Hi x):=aK rfl
theorem FL:Hi x [d]=.exn ⟨x,[]⟩:=if_pos (show 1<=line by decide)
theorem xZ(h:tab c=some b):fk tab (.exc c)=.ok (.bl b):=by unfold fk;simp only[h]
end Com
namespace DL
open PySem PySem.Spec PyProof.Rows L2
section
variable {X:Cx}{E:XK}{tg a b c:Expr}{f g:Ev->ai D}
end
section
variable {X:Cx}{pins:List (Addr×Obj)}{σ:L2.St}{H:Hp}{s:Shared}{h':Heap}
theorem EX{fp:List Addr}(I:Inv X pins σ H s)(k:∀b o,b∉fp->s.heap.get? b=some o->h'.get? b=some o)(hf:∀b∈fp,oj X pins H b)(hT:s.heap.objs.size<=T)
  (new:bN X.prog X.w (upd H T (.tup xs)) h' T (.tup xs)):Inv X pins σ (upd H T (.tup xs)) { s with heap:=h',toks:=t' }:=by
 have hn:H T=none:=I.hok.fresh hT;have nit:∀b u,H b=some u->b∉fp:=λb u e z=>by rw[(hf b z).1] at e;cases e
 refine I.step (g':=s.gens) (d':=s.drawn) (ch:=fp) (λb hb=>?_) (λb o _ _ hc e _=>k b o hc e) (λb o _ _ hc e _=>⟨o.slots,k b o hc e⟩) (λb o _ e n=>?_)
  (λb o hc e=>⟨o,k b o hc e⟩) (λb xs e=>by rw[aq (aY e hn)];exact e) (λb o u e=>by rw[aq (aY e hn)];exact e) (λb ps e=>⟨#[],by rw[aq (aY e hn),e];simp⟩) (λm hm=>?_) (λb u e=>?_) I.bare
 .obtain⟨_,f1,_,f3,f4,f5⟩:=hf b hb
  exact⟨f3,f1,f4,f5⟩
 .rw[aq (U4 (Uy (UJ e) hT))];exact n
 .obtain⟨o,es,ep,ho,r⟩:=hm
  exact⟨o,es,ep,k _ o (λz=>(hf _ z).2.1 rfl) ho,r⟩
 .by_cases hb:b=T
  .subst hb;rw[aw] at e;cases e;exact new
  .rw[aq hb] at e
   refine(I.hok b u e).stay (λc v hc q=>k c v ?_ q) (λc q=>by rw[aq (aY q hn)];exact q) λc xs q=>by rw[aq (aY q hn)];exact q
   rcases hc with z|z
   .rw[z];exact nit b u e
   .exact nit c _ z
theorem Kh{fp:List Addr}(I:Inv X pins σ H s)(k:∀b o,b∉fp->s.heap.get? b=some o->h'.get? b=some o)(hf:∀b∈fp,oj X pins H b):Inv X pins σ H { s with heap:=h',toks:=t' }:=by
 have nit:∀b u,H b=some u->b∉fp:=λb u e z=>by rw[(hf b z).1] at e;cases e
 refine I.step (g':=s.gens) (d':=s.drawn) (ch:=fp) (λb hb=>?_) (λb o _ _ hc e _=>k b o hc e) (λb o _ _ hc e _=>⟨o.slots,k b o hc e⟩) (λb o _ e n=>n)
  (λb o hc e=>⟨o,k b o hc e⟩) (λb xs e=>e) (λb o u e=>e) (λb ps e=>⟨#[],by rw[e];simp⟩) (λm hm=>?_) (λb u e=>?_) I.bare
 .obtain⟨_,f1,_,f3,f4,f5⟩:=hf b hb
  exact⟨f3,f1,f4,f5⟩
 .obtain⟨o,es,ep,ho,r⟩:=hm
  exact⟨o,es,ep,k _ o (λz=>(hf _ z).2.1 rfl) ho,r⟩
 .refine(I.hok b u e).stay (λc v hc q=>k c v ?_ q) (λ_ q=>q) λ_ _ q=>q
  rcases hc with z|z
  .rw[z];exact nit b u e
  .exact nit c _ z
end
noncomputable def TQ(K:Up) (a:Addr):It :=
 ⟨λi H=>∃xs x,eC K H a xs/\xs[i]?=some x,λi H x H'=>∃p y,H p=none/\x=.ref p/\(∀xs,eC K H a xs->xs[i]?=some y)/\H'=upd H p (.tup [.int i,y]),λi H=>∃xs,eC K H a xs/\xs.length<=i⟩
theorem E1{P:Program}{w:World}{K:Up}{elts:List Expr}{k:Nat}{pos:Pos}(a it e:Addr)(hne:e≠it)(hae:a≠e)(hai:a≠it) :
  F9 P w K (.Tuple elts k pos) (TQ K a) [e,it] e (λi h=>(∃old,IsEnum h e it i old)/\h.IsListIter it a i) where
 mem:=by simp
 obj:=λi h st b hb=>by
  obtain⟨⟨old,he⟩,o,h1,h2,h3⟩:=st;rcases Uv.mp hb with rfl|hb
  .exact⟨_,he,λv z=>by cases z⟩
  .rcases Uv.mp hb with rfl|hb
   .exact⟨o,h1,λv z=>by rw[h3] at z;cases z⟩
   .cases hb
 keep:=λi h h' st k=>by
  obtain⟨⟨old,he⟩,hi⟩:=st;exact⟨⟨old,k e (by simp) _ he⟩,hi.at λo y=>k it (by simp) o y⟩
 item:=by
  intro X hP hw hK hc i pins s σ H E I hf st hg;subst hP hw hK;obtain⟨xs,x,hq,hx⟩:=hg;obtain⟨its,rv,p,hz⟩:=I.list hq;obtain⟨u,hu,ru⟩:=rv.get hx;have W:=WalksT.enumerate (prog:=X.prog) (w:=X.w) (I.ok.hd hc) e it a hne hae hai its.toArray;have hil:i<its.toArray.size:=by simpa using (Uw.mp hu).1
  refine W.item i s _ _ hil ⟨st.1,st.2,p.isList⟩ λT vals h' tk hPt hT hTup hMid hk=>?_;refine⟨_,rfl,W.go elts k pos i T _ _ _ hMid λh'' st'' hk''=>?_⟩;obtain⟨t,y,hy,rfl⟩:=hPt;have hyu:y=u:=by
   have:its[i]?=some y:=by simpa using hy
   rw[hu] at this;cases this;rfl
  subst hyu;obtain⟨o,ho,hr⟩:=hTup;have ho':=hk'' T o (W.apart i T _ hMid) ho;refine⟨.ref T,upd H T (.tup [.int i,x]),EX (s:=s) (h':=h'') (t':=tk) I (λb o hb e=>hk'' b o hb (hk b o hb e)) hf hT ⟨by show 2<=sizeLine;decide,[.int i t,y],.cons ⟨t,rfl⟩ (.cons ru .nil),o,ho',hr⟩,rfl,⟨T,x,I.hok.fresh hT,rfl,λys hy=>by rw[I.list_inj hy hq];exact hx,rfl⟩,⟨st''.1,st''.2.1⟩,λb hb=>?_⟩;have hb0:=(hf b hb).1;obtain⟨ob,hob,_⟩:∃o,s.heap.get? b=some o/\∀v,o.data≠.cell v:=by
   obtain⟨⟨old,he⟩,o,h1,h2,h3⟩:=st;rcases Uv.mp hb with rfl|hb
   .exact⟨_,he,λv z=>by cases z⟩
   .rcases Uv.mp hb with rfl|hb
    .exact⟨o,h1,λv z=>by rw[h3] at z;cases z⟩
    .cases hb
  rw[aq (U4 (Uy (UJ hob) hT))];exact hb0
 done:=by
  intro X hP hw hK hc i pins s σ H E I hf st hg;subst hP hw hK;obtain⟨xs,hq,hx⟩:=hg;obtain⟨its,rv,p,hz⟩:=I.list hq;have hl:=rv.length;obtain⟨⟨old,he⟩,hi⟩:=st;exact wpAny_pyNext_enum_end (I.ok.hd hc) he hi p.isList (by simp;omega) λh' hx=>⟨rfl,Kh (t':=s.toks) I (λb o hb e=>hx b o (λz=>hb (by simp [z])) e) hf⟩
 self:=λ_ _ _ _ _ st h=>by
  obtain⟨⟨old,he⟩,_⟩:=st;exact wpAny_pyIter_enum he h
section
variable {X:Cx}{E:XK}{elts:List Expr}{k:Nat}{tp:Pos}{e a b:Expr}{f g:Ev->ai D}
noncomputable def QU(K:Up) (ta:TA):TI:=λσ H R=>ta σ H λvs H1=>∃a,vs=[.ref a]/\(∃xs,eC K H1 a xs)/\R (TQ K a) H1
theorem KN(hg:Gl X "enumerate")(hm:X.mg "enumerate"=none)(ha:PA X [a] ta)(hs:starEach [a] X.env=[(false,eval a X.env)]:=by rfl):PI X (.Tuple elts k tp) (.Call (.Name "enumerate" p) [a] [] pos) (QU X.K ta):=by
 intro pins s σ H R I h;refine Call_ (rZ I hg hm PyProof.Rows.Boot.«enumerate» (WS (cj (ha pos pins s σ H _ I h) λus s1 ⟨vs,H1,I1,r1,q1⟩=>?_) hs rfl));obtain⟨l,e,⟨xs,hq⟩,q⟩:=q1;subst e;cases r1 with
 |cons r rr =>
  cases rr;cases r;obtain⟨its,rv,p,hz⟩:=I1.list hq;have hlt:l<s1.heap.objs.size:=by obtain⟨o,n,e,_⟩:=p;exact UJ e
  refine call_enumerate_list p.isList λh' he hi hsz hk=>?_;refine wpAny_pyIter_enum he ?_;refine⟨s1.heap.objs.size+1,[s1.heap.objs.size+1,s1.heap.objs.size],_,_,H1,rfl,I1.kept (t':=s1.toks) hk,E1 l s1.heap.objs.size (s1.heap.objs.size+1) (Nat.succ_ne_self _) (U4 (Nat.lt_succ_of_lt hlt)) (U4 hlt),⟨⟨_,he⟩,hi⟩,λb hb=>?_,q⟩;have hb':s1.heap.objs.size<=b:=by
   rcases Uv.mp hb with rfl|hb
   .omega
   .rcases Uv.mp hb with rfl|hb
    .exact UB _
    .cases hb
  exact I1.fpOk hb' (I1.hok.fresh hb')
noncomputable def numbered(n:Nat):List D->List D
 |[]=>[]
 |d::ds=>.tup [.int n,d]::numbered (n+1) ds
theorem dI:∀(ds:List D) (n:Nat),(numbered n ds).length=ds.length
 |[],_=>rfl
 |d::ds,n=>by simp [numbered,dI ds]
theorem jf:∀(ds:List D) (n i:Nat),(numbered n ds)[i]?=(ds[i]?).map λd=>D.tup [.int (n+i:Nat),d]
 |[],_,_=>by simp [numbered]
 |d::ds,n,0=>by simp [numbered]
 |d::ds,n,i+1=>by simp only[numbered,U9];rw[jf ds (n+1) i,show n+1+i=n+(i+1) by omega]
noncomputable def wV(f:Ev->ai D):Ev->ai (List D):=λρ=>(f ρ).bind λd=>match d with
 |.lst ds=>.ok (numbered 0 ds)
 |_=>.stuck
theorem Kj{K:Up}(hs:aB Ha H)(hp:H p=none)(r:Reps K Ha ds vs):∃H₀2,bp H Ha (upd H p (.tup vs)) H₀2/\Rep K H₀2 (.tup ds) (.ref p) :=
 ⟨upd Ha p (.tup vs),aO hs hp,aM.mpr ⟨p,vs,rfl,jK.of aw,r.mono (aO (o:=.tup vs) hs hp).z⟩⟩
theorem qP(hg:Gl X "enumerate")(hm:X.mg "enumerate"=none)(h:DE X E a f)(hn:Pa a=true:=by exact rfl):DI X E (.Tuple elts k tp) (.Call (.Name "enumerate" p) [a] [] pos) (wV f):=by
 refine⟨i9 (KN hg hm (cH h.o eY (gF hn)) (gF hn)) λσ H R ⟨Ha,ρ,hs,hr,q⟩=>⟨Ha,ρ,hs,hr,?_⟩⟩;unfold wV at q;cases e1:f ρ with
 |stuck|exn x=>rw[e1] at q;exact q
 |ok d =>
  rw[e1] at q;intro v H1 H01 g1 r1;cases d with
  |lst ds =>
   obtain⟨l,vs,rfl,hv,hrv⟩:=aH.mp r1;refine⟨l,rfl,⟨vs,aB.sqL g1.sub hv⟩,q _ H1 H01 g1 ⟨λi H' Ha' s1 s2 hi=>?_,λi H' Ha' x H2 d s1 s2 hd hy=>?_,λi H' Ha' s1 s2 hi=>?_⟩⟩
   .rw[dI] at hi
    exact⟨vs,vs[i]'(by rw[←hrv.length];exact hi),aB.sqL (s1.trans s2) hv,by simp⟩
   .obtain⟨p,y,hp,rfl,hy,rfl⟩:=hy
    rw[jf] at hd;cases ei:ds[i]? with
    |none=>rw[ei] at hd;cases hd
    |some d' =>
     rw[ei] at hd;cases hd;obtain⟨u,k1,k2⟩:=hrv.get ei;have:=hy vs (aB.sqL (s1.trans s2) hv);rw[k1] at this;cases this;exact Kj s2 hp (Reps.cons (az.mpr (by simp)) (Reps.cons (k2.mono s1) Reps.nil))
   .rw[dI] at hi
    exact⟨vs,aB.sqL (s1.trans s2) hv,by rw[←hrv.length];exact hi⟩
  |_=>exact q.elim
end
section
variable {X:Cx}{E:XK}{elts:List Expr}{k:Nat}{tp:Pos}{e a b:Expr}{f g:Ev->ai D}
end
noncomputable def o5(f:Str):List Str->List D->Option D
 |k::ks,d::ds=>if f=k then some d else o5 f ks ds
 |_,_=>none
theorem Dq{K:Up}{H:Hp}{f:Str}:∀{ks:List Str}{ds:List D}{vs:List V}{d:D},ks.length=vs.length->Reps K H ds vs->o5 f ks ds=some d->∃v,(ks.zip vs).lookup f=some v/\Rep K H d v/\f∈ks
 |[],ds,vs,d,_,_,h=>by unfold o5 at h;cases h
 |k::ks,[],vs,d,_,_,h=>by unfold o5 at h;cases h
 |k::ks,x::ds,vs,d,hl,r,h=>by
  obtain⟨v,r',rfl,r1,r2⟩:=aJ.mp r;unfold o5 at h
  by_cases c:f=k
  .rw[if_pos c] at h
   cases h;exact⟨v,by rw[Vx,VB,beq_iff_eq.mpr c],r1,by rw[c];exact UM⟩
  .rw[if_neg c] at h
   obtain⟨u,h1,h2,h3⟩:=Dq (by simpa using hl) r2 h;exact⟨u,by rw[Vx,VB,beq_eq_false_iff_ne.mpr c];exact h1,h2,Uu _ h3⟩
section
variable {X:Cx}{E:XK}{e a b o:Expr}{es:List Expr}{fe fo:Ev->ai D}{fa:Ev->ai (List D)}{pos:Pos}
noncomputable def putAll:List Str->List V->List (Str×V)->List (Str×V)
 |f::fs,v::vs,l=>putAll fs vs (jL f v l)
 |_,_,l=>l
theorem zi:∀{l:List (Str×V)},f∉l.map (·.1)->jL f v l=l++[(f,v)]
 |[],_=>rfl
 |(k,x)::l,h=>by
  simp only[UG,Uv,not_or] at h;unfold jL;rw[if_neg (λz=>h.1 z.symm),zi h.2];rfl
theorem rG:∀{fs:List Str}{vs:List V}{l:List (Str×V)},fs.Nodup->(∀f∈fs,f∉l.map (·.1))->fs.length=vs.length->putAll fs vs l=l++fs.zip vs
 |[],[],l,_,_,_=>by simp [putAll]
 |[],v::vs,l,_,_,h=>by simp at h
 |f::fs,[],l,_,_,h=>by simp at h
 |f::fs,v::vs,l,nd,hn,h=>by
  rw[VZ] at nd;unfold putAll;rw[zi (hn f UM),rG nd.2 (λg hg=>?_) (by simpa using h),Vx,Wd]
  .rfl
  .simp only[Vm,UG,VP,Ve,Vr,not_or]
   exact⟨hn g (Uu _ hg),λz=>nd.1 (z▸hg)⟩
theorem yS{a:Addr}{o:HO}(h:H a=some o):upd H a o=H:=by
 funext b
 by_cases hb:b=a
 .subst hb;rw[aw,h]
 .rw[aq hb]
theorem oy{a:Addr}{o u:HO}:upd (upd H a o) a u=upd H a u:=by
 funext b
 by_cases hb:b=a
 .subst hb;rw[aw,aw]
 .rw[aq hb,aq hb,aq hb]
theorem zj:∀{l:List (Str×V)},(jL f v l).length<=l.length+1
 |[]=>by simp [jL]
 |(k,x)::l=>by
  unfold jL;split
  .simp
  .have:=zj (f:=f) (v:=v) (l:=l)
   simp;omega
end
theorem K8{K:Up}:∀f∈([]:List Str),iE K C f:=λ_ h=>nomatch h
theorem zJ{K:Up}(h:VQ K (.ref C) f=some none)(r:∀f∈ks,iE K C f):∀g∈f::ks,iE K C g:=λg hg=>by
 rcases Uv.mp hg with rfl|hg
 .exact h
 .exact r g hg
section
variable {X:Cx}{E:XK}{He H0e:Hp}{e:Expr}{es:List Expr}{f:Ev->ai D}{fa:Ev->ai (List D)}{pos:Pos}
end
end DL
namespace Com
open PySem L2 DL
noncomputable def ME(tg:Ev->D->ai Ev) (s:Ev->ai Fl) (ρ:Ev) (ds:List D):ai Fl:=cp tg s ds ρ
noncomputable def Mr(d:D):ai (List D):=match d with
 |.lst ds=>.ok (numbered 0 ds)
 |_=>.stuck
noncomputable def Mq(d:D):ai (List D):=match d with
 |.lst ds=>.ok ds
 |_=>.stuck
noncomputable def kG(n:Nat) (fr:List Nat) (tg:Ev->D->ai Ev) (tt fe:Ev->ai D) (ρ:Ev) (ds:List D):ai D:=if ds.length<=line then match bU (c5 n fr ρ) tg tt fe ds with
  |.ok es=>.ok (.lst es)
  |_=>.stuck
 else .stuck
noncomputable def Ir(tg:Ev->D->ai Ev) (s:Ev->ai Fl) (ρ:Ev) (d:D):ai Fl:=match d with
 |.int j=>if -4611686018427387904<=j/\j<4611686018427387904 then cp tg s (intsFrom 0 j.toNat) ρ else .stuck
 |_=>.stuck
section
variable {s t:Ev->ai Fl}{f g h:Ev->ai D}{src:Ev->ai (List D)}{fa:Ev->ai (List D)}{ρ r:Ev}{i j n:Nat}{d x y:D}{ds es xs:List D}{a b:Int}{tg:Ev->D->ai Ev}{tt fe:Ev->ai D}{fr:List Nat}
theorem qK:lr src tg s ρ=(src ρ).bind (ME tg s ρ):=aK rfl
theorem nI:ME tg s ρ ds=cp tg s ds ρ:=aK rfl
theorem qH:wV f ρ=(f ρ).bind Mr:=aK rfl
theorem mS:Mr (.lst ds)=.ok (numbered 0 ds):=aK rfl
theorem qG:qe f ρ=(f ρ).bind Mq:=aK rfl
theorem mR:Mq (.lst ds)=.ok ds:=aK rfl
theorem qL:eA n fr src tg tt fe ρ=(src ρ).bind (kG n fr tg tt fe ρ):=aK rfl
theorem pS(h:(ds.length==is.length)=true):gr is ρ (.tup ds)=.ok (cW ρ is ds):=by
 show(match (if ds.length=is.length then some ds else none) with|some ds=>ai.ok (cW ρ is ds)|none=>.stuck)=_;rw[if_pos (eq_of_beq h)]
theorem nH:za f tg s ρ=(f (eR ρ)).bind (Ir tg s ρ):=aK rfl
theorem Ad{k:Nat}(h:k<=1000000):Ir tg s ρ (.int (k:Int))=cp tg s (intsFrom 0 k) ρ:=by
 unfold Ir;dsimp only;rw[if_pos ⟨by omega,by omega⟩,Int.toNat_natCast]
theorem ef{l h:Option Int}(c:(HT.sIx ds.length 0 l==0&&HT.sIx ds.length ds.length h==ds.length)=false):lM (.tup ds) l h=.ok (.tup (jr ds l h)):=by
 show(if _ then _ else _)=_;rw[if_neg (λz=>by rw[z.1,z.2] at c;simp at c)]
theorem nO(h:decide (ds.length+es.length<=1000)=true):bV (.tup (x::ds)) (.tup es)=.ok (.tup (x::ds++es)):=by
 refine if_pos ⟨rfl,?_⟩;have:=of_decide_eq_true h;show ds.length+1+es.length<=line;have:(1001:Nat)<=line:=by decide
 omega
theorem Dt:OA (.int a) (.int b)=.ok (.int (if b > a then b else a)):=aK rfl
theorem Du:iA (.bl true)=.ok (.int 1):=aK rfl
theorem ya:iA (.bl false)=.ok (.int 0):=aK rfl
theorem o7:qp (.int 10) (.int 18)=.ok (.int 1000000000000000000):=aK rfl
theorem AS(hl:ds.length<=1000000)(h:∀d∈ds,∃ρ1,tg (c5 n fr ρ) d=.ok ρ1/\tt ρ1=.ok (.bl true)/\fe ρ1=.ok (F d)):kG n fr tg tt fe ρ ds=.ok (.lst (ds.map F)):=by
 unfold kG;rw[if_pos (show ds.length<=line from hl),wq h]
theorem pY:∀{ds:List D},(∀d∈ds,∃ρ1,tg B d=.ok ρ1/\tt ρ1=.ok (.bl (p d))/\(p d=true->fe ρ1=.ok (F d)))->bU B tg tt fe ds=.ok ((ds.filter p).map F)
 |[],_=>rfl
 |d::ds,h=>by
  obtain⟨ρ1,h1,h2,h3⟩:=h d UM;have ih:=pY (ds:=ds) λd hd=>h d (Uu _ hd);unfold bU;rw[h1,F3,h2,F3];cases hp:p d with
  |true =>
   show(fe ρ1).bind _=_;rw[h3 hp,F3,ih,F3,Yo hp];rfl
  |false =>
   show bU B tg tt fe ds=_;rw[ih,Yp (by rw[hp];decide)]
theorem AU(hl:ds.length<=1000000)(h:∀d∈ds,∃ρ1,tg (c5 n fr ρ) d=.ok ρ1/\tt ρ1=.ok (.bl (p d))/\(p d=true->fe ρ1=.ok (F d))):kG n fr tg tt fe ρ ds=.ok (.lst ((ds.filter p).map F)):=by
 unfold kG;rw[if_pos (show ds.length<=line from hl),pY h]
end
theorem Mk:yA<=2 ^ 200:=by decide
noncomputable def un(s x:kO):kO:=(s.1*x.2+x.1*s.2,s.2*x.2)
end Com
local macro_rules|`(tactic|open_line with[$xs,*])=>`(tactic|simp only[kj,tj,m6,m5,nq,tf,mZ,tw,m9,nK,kn,Ar,tX,tW,tI,nj,uc,nh,tE,nc,tY,sT,tH,ng,Az,Ay,ub,Ax,tP,nL,kq,ko,ud,nN,nM,An,tN,tL,tO,nk,tV,nG,nF,sS,mO,IB,mY,sZ,mX,mW,mU,qI,tq,m8,m7,Am,tK,Ao,Aj,sY,sX,sW,tZ,nJ,kr,As,ua,t9,t8,tU,ue,tQ,Aq,Ap,gu,nr,o9,j8,UG,VP,UI,VS,Wo,Wn,VG,Wl,VC,U9,Wz,WA,WT,Nat.reduceSub,Nat.reduceAdd,Xd,Xc,Wt,V5,sV,tT,eJ,ic,tR,mQ,Ak,tm,Ai,sU,kX,kW,nE,nD,nC,nA,nz,ny,nv,nu,decide_true,decide_false,Nat.reduceLeDiff,Nat.reduceBEq,Int.reduceBEq,beq_self_eq_true,DL.dOne,DL.mYes,dZ,de,dE,gN,fL,gM,gL,fK,Aw,Av,Au,Int.reduceLT,Int.reduceLE,Int.reduceSub,Int.reduceAdd,Int.reduceMul,Int.reduceNeg,nt,km,Int.reduceToNat,W6,qK,nI,qH,mS,qG,mR,qL,pS,nH,ef,nO,Dt,Du,ya,o7,$[$xs:term],*])
local macro_rules|`(tactic|open_line with[$xs,*] seeing $h)=>`(tactic|simp only[kj,tj,m6,m5,nq,tf,mZ,tw,m9,nK,kn,Ar,tX,tW,tI,nj,uc,nh,tE,nc,tY,sT,tH,ng,Az,Ay,ub,Ax,tP,nL,kq,ko,ud,nN,nM,An,tN,tL,tO,nk,tV,nG,nF,sS,mO,IB,mY,sZ,mX,mW,mU,qI,tq,m8,m7,Am,tK,Ao,Aj,sY,sX,sW,tZ,nJ,kr,As,ua,t9,t8,tU,ue,tQ,Aq,Ap,gu,nr,o9,j8,UG,VP,UI,VS,Wo,Wn,VG,Wl,VC,U9,Wz,WA,WT,Nat.reduceSub,Nat.reduceAdd,Xd,Xc,Wt,V5,sV,tT,eJ,ic,tR,mQ,Ak,tm,Ai,sU,kX,kW,nE,nD,nC,nA,nz,ny,nv,nu,decide_true,decide_false,Nat.reduceLeDiff,Nat.reduceBEq,Int.reduceBEq,beq_self_eq_true,DL.dOne,DL.mYes,dZ,de,dE,gN,fL,gM,gL,fK,Aw,Av,Au,Int.reduceLT,Int.reduceLE,Int.reduceSub,Int.reduceAdd,Int.reduceMul,Int.reduceNeg,nt,km,Int.reduceToNat,W6,qK,nI,qH,mS,qG,mR,qL,pS,nH,ef,nO,Dt,Du,ya,o7,$[$xs:term],*] at $(⟨h⟩):ident)
namespace Com
open PySem L2 DL
theorem rX(ha:0<=a)(hb:0<b):0<=(u4 a b).1:=Xe ha (by omega)
theorem Lk(ha:0<a)(hb:0<b):0<(u4 a b).1:=by
 have hg:0<(UX a b:Int):=kS (by omega);have hd:(UX a b:Int)∣a:=W9 ..;exact WX ha (by omega) hd
theorem Pd(h0:0<=a)(h1:a<(yA:Int)):iX (a,1):=⟨⟨by show(1:Int)<=1;decide,by show UX a 1=1;exact Int.gcd_one_right ..⟩,by show a.natAbs<yA;omega,by show(1:Int).natAbs<yA;decide⟩
theorem QH(h0:0<=a)(h1:a<(yA:Int)):a.natAbs<qV:=Uy (show a.natAbs<yA by omega) Mj
theorem Dm(P:Nat->Ev->Prop)(h:∀k,k<n->∀ρ,P k ρ->∃ρ2,body (ρ.set i (.sh (.int (k:Int))))=.ok (.nx ρ2)/\P (k+1) ρ2)(h0:P 0 ρ):∃ρ',cp (cz i) body (intsFrom 0 n) ρ=.ok (.nx ρ')/\P n ρ':=by
 have key:∀(m k:Nat) (ρ:Ev),k+m=n->P k ρ->∃ρ',cp (cz i) body ((intsFrom 0 n).drop k) ρ=.ok (.nx ρ')/\P n ρ':=by
  intro m
  induction m with
  |zero =>
   intro k ρ hk hp;have:k=n:=by omega
   subst this;rw[Ik];exact⟨ρ,rfl,hp⟩
  |succ m ih =>
   intro k ρ hk hp;obtain⟨ρ2,h1,h2⟩:=h k (by omega) ρ hp;rw[FC (by omega),ib (tg:=cz i) rfl h1];exact ih (k+1) ρ2 (by omega) h2
 exact key n 0 ρ (by omega) h0
theorem Dn(P:Nat->Ev->Prop)(h:∀k d,ds[k]?=some d->∀ρ,P k ρ->∃ρ1 ρ2,tg ρ d=.ok ρ1/\body ρ1=.ok (.nx ρ2)/\P (k+1) ρ2)(h0:P 0 ρ):∃ρ',cp tg body ds ρ=.ok (.nx ρ')/\P ds.length ρ':=by
 have key:∀(m k:Nat) (ρ:Ev),k+m=ds.length->P k ρ->∃ρ',cp tg body (ds.drop k) ρ=.ok (.nx ρ')/\P ds.length ρ':=by
  intro m
  induction m with
  |zero =>
   intro k ρ hk hp;have:k=ds.length:=by omega
   subst this;rw[Wk];exact⟨ρ,rfl,hp⟩
  |succ m ih =>
   intro k ρ hk hp;have hlt:k<ds.length:=by omega
   obtain⟨ρ1,ρ2,h1,h2,h3⟩:=h k ds[k] (Uz hlt) ρ hp;rw[Va hlt,ib h1 h2];exact ih (k+1) ρ2 (by omega) h3
 exact key ds.length 0 ρ (by omega) h0
theorem yx:("abcdefghijklmnopqrstuvwxyz":Str).cps.toList=(VO 26).map (97 + ·):=by decide +kernel
theorem OQ:∀n,n<26->pR (97+n)=true:=by decide +kernel
theorem OP(h0:0<=v)(h1:v<26):bf (.str "abcdefghijklmnopqrstuvwxyz") (.int v)=.ok (.str ⟨#[97+v.toNat]⟩):=by
 obtain⟨n,rfl⟩:=Vq h0;have hn:n<26:=by omega
 have e:atI ("abcdefghijklmnopqrstuvwxyz":Str).cps.toList ((n:Nat):Int)=some (97+n):=d7 (by rw[yx];simp [hn]);show(if("abcdefghijklmnopqrstuvwxyz":Str).length<=line then(match atI ("abcdefghijklmnopqrstuvwxyz":Str).cps.toList ((n:Nat):Int) with|some c=>ai.ok (D.str ⟨#[c]⟩)|none=>.stuck) else .stuck)=_;rw[if_pos (by decide),e];rfl
theorem C6:∀cs:List Nat,Str.join "" (cs.map λc=>(⟨#[c]⟩:Str))=⟨cs.toArray⟩
 |[]=>rfl
 |[c]=>rfl
 |c::d::cs=>by
  show(⟨#[c]⟩:Str)++""++Str.join "" ((d::cs).map λc=>(⟨#[c]⟩:Str))=_;rw[C6 (d::cs)];apply Str.ext';show(#[c]++("":Str).cps)++(d::cs).toArray=_;have:("":Str).cps=#[]:=rfl;rw[this];simp
theorem Cz:∀cs:List Nat,il (cs.map λc=>D.str ⟨#[c]⟩)=some (cs.map λc=>(⟨#[c]⟩:Str))
 |[]=>rfl
 |c::cs=>by
  show(il (cs.map λc=>D.str ⟨#[c]⟩)).map _=_;rw[Cz cs];rfl
theorem BO{cs:List Nat}(h:cs.length<=1000):mI "" [.lst (cs.map λc=>D.str ⟨#[c]⟩)]=.ok (.str ⟨cs.toArray⟩):=by
 have Lu:ia "" (cs.map λc=>(⟨#[c]⟩:Str))=true:=by
  unfold ia;have e:((cs.map λc=>(⟨#[c]⟩:Str)).map (·.length)).sum=cs.length:=by
   clear h
   induction cs with
   |nil=>rfl
   |cons c cs ih =>
    simp only[UG,Xs,UI,ih];show 1+cs.length=_;omega
  rw[e,UU];exact⟨by decide,decide_eq_true (by rw[Ur];omega)⟩
 show(match il (cs.map λc=>D.str ⟨#[c]⟩) with|some ys=>if ia "" ys=true then ai.ok (D.str (X7 "" ys)) else .stuck|none=>.stuck)=_;rw[Cz];show(if ia "" _=true then ai.ok (D.str (X7 "" _)) else .stuck)=_;rw[if_pos Lu];show ai.ok (D.str (Builtin.Str.glued "" _))=_;rw[StrLaws.glued_eq_join,C6]
structure eQ (zs:List Str):Prop where
 nd:zs.Nodup
 nm:∀z∈zs,nameB z=true
theorem OC(a:List Nat):(⟨a.toArray⟩:Str).length=a.length:=by show a.toArray.size=_;simp
structure A0 where
 a:Str
 b:Str
 w:Str
 l:kO
 o:Option kO
noncomputable def bK:Option kO->D
 |none=>.non
 |some x=>fr x
noncomputable def bo(t:A0):D:=.tup [.str t.a,.str t.b,.str t.w,fr t.l,bK t.o]
structure oa (zs:List Str) (t:A0):Prop where
 a:t.a∈zs
 b:t.b∈zs
 ne:t.a≠t.b
 w:t.w="one"∨t.w="both"
 l:iX t.l
 l0:0<=t.l.1
 o:∀x,t.o=some x->iX x/\0<x.1
theorem i4{zs:List Str}{k:Int}(h0:0<=k)(h1:k<zs.length):∃z,zs[k.toNat]?=some z/\bf (.lst (zs.map D.str)) (.int k)=.ok (.str z):=by
 obtain⟨n,rfl⟩:=Vq h0;have hn:n<zs.length:=by omega
 refine⟨zs[n],by simp [hn],xT ?_⟩;rw[UD,Uz hn];rfl
theorem Ka{k:Int}(h0:0<=k)(h1:k<2):∃z:Str,(z="one"∨z="both")/\bf (.lst [.str "one",.str "both"]) (.int k)=.ok (.str z):=by
 have:k=0∨k=1:=by omega
 rcases this with rfl|rfl
 .exact⟨_,.inl rfl,kX⟩
 .exact⟨_,.inr rfl,kW⟩
theorem wD{n d e:Int}(h2:2<=n)(d0:0<=d)(d1:d<n)(e0:0<=e)(e1:e<n-1):(0<=(d+1+e).fmod n/\(d+1+e).fmod n<n)/\(d+1+e).fmod n≠d:=by
 refine⟨eU (by omega),?_⟩;rw[Vs _ (by omega)]
 by_cases h:d+1+e<n
 .rw[XI (by omega) h];omega
 .have:(d+1+e) % n=d+1+e-n:=by
   rw[←Int.sub_emod_right (d+1+e) n,XI (by omega) (by omega)]
  rw[this];omega
theorem j6{α:Type}{zs:List α}(nd:zs.Nodup){i j:Nat}{x y:α}(hi:zs[i]?=some x)(hj:zs[j]?=some y)(hij:i≠j):x≠y:=by
 intro e;subst e;obtain⟨h1,e1⟩:=Uw.mp hi;obtain⟨h2,e2⟩:=Uw.mp hj;exact hij ((List.getElem_inj nd).mp (e1.trans e2.symm))
noncomputable def p8:Ev->ai Fl :=
 (aC (ck (lW (ao (af (ae 0) aE) m_is_ratio) (ag (ag (ae 0) (dC (.int 0)) bf) (dC (.int 0)) SO)))
 av)
noncomputable def m_is_length:List D->ai D:=cm 1 p8
noncomputable def uP:Ev->ai Fl :=
 (aC (ck (iF (ag (ae 0) (dC (.non)) iz) (lW (ao (af (ae 0) aE) m_is_ratio) (ag (ag (ae 0) (dC (.int 0)) bf) (dC (.int 0)) JR))))
 av)
noncomputable def m_is_worth:List D->ai D:=cm 1 uP
noncomputable def gT:Ev->ai Fl :=
 (aC (fE (iF (cZ (bM (ae 0) (eS "tuple"))) (ag (ao (af (ae 0) aE) (m1 fj)) (dC (.int 5)) ll))
 (aC (ck (dC (.bl false)))
 av)
 av)
 (aC (fE (iF (cZ (ao (af (ag (ae 0) (dC (.int 0)) bf) aE) m_is_name)) (iF (cZ (ao (af (ag (ae 0) (dC (.int 1)) bf) aE) m_is_name)) (ag (ag (ae 0) (dC (.int 0)) bf) (ag (ae 0) (dC (.int 1)) bf) kF)))
 (aC (ck (dC (.bl false)))
 av)
 av)
 (aC (fE (iF (cZ (bM (ag (ae 0) (dC (.int 2)) bf) (eS "str"))) (ag (ag (ae 0) (dC (.int 2)) bf) (dC (.tup [(.str "one"),(.str "both")])) cY))
 (aC (ck (dC (.bl false)))
 av)
 av)
 (aC (ck (lW (ao (af (ag (ae 0) (dC (.int 3)) bf) aE) m_is_length) (ao (af (ag (ae 0) (dC (.int 4)) bf) aE) m_is_worth)))
 av))))
noncomputable def m_is_tie:List D->ai D:=cm 1 gT
noncomputable def b_look_at_places:Ev->ai Fl :=
 (aC (fE (iF (cZ (bM (ae 0) (eS "list"))) (cZ (gP OB OB (dC (.int 2)) (ao (af (ae 0) aE) (m1 fj)) (dC (.int 7)))))
 (aC eX
 av)
 av)
 (aC (lr (wV (ae 0)) (gr [1,2])
 (aC (fE (iF (cZ (ao (af (ae 2) aE) m_is_name)) (ag (ae 2) (nV (ae 0) du (c9 (ae 1))) D9))
 (aC eX
 av)
 av)
 av))
 av))
noncomputable def m_look_at_places:List D->ai D:=cm 3 b_look_at_places
noncomputable def b_look_at_ties:Ev->ai Fl :=
 (aC (fE (iF (cZ (bM (ae 0) (eS "list"))) (ag (ao (af (ae 0) aE) (m1 fj)) (dC (.int 14)) JR))
 (aC eX
 av)
 av)
 (aC (lr (wV (ae 0)) (gr [2,3])
 (aC (fE (iF (cZ (ao (af (ae 3) aE) m_is_tie)) (iF (ag (ag (ae 3) (dC (.int 0)) bf) (ae 1) cY) (ag (ag (ae 3) (dC (.int 1)) bf) (ae 1) cY)))
 (aC eX
 av)
 av)
 av))
 av))
noncomputable def m_look_at_ties:List D->ai D:=cm 4 b_look_at_ties
noncomputable def l5:Ev->ai Fl :=
 (aC (ck (lW (ao (af (ae 0) aE) m_is_name) (ag (ae 0) (ae 1) D9)))
 av)
noncomputable def m_is_place:List D->ai D:=cm 2 l5
noncomputable def b_look_at_web:Ev->ai Fl :=
 (aC (fE (iF (cZ (bM (ae 0) (eS "tuple"))) (ag (ao (af (ae 0) aE) (m1 fj)) (dC (.int 4)) ll))
 (aC eX
 av)
 av)
 (aC (lu (ao (af (ag (ae 0) (dC (.int 0)) bf) aE) m_look_at_places))
 (aC (lu (ao (af (ag (ae 0) (dC (.int 1)) bf) (af (ag (ae 0) (dC (.int 0)) bf) aE)) m_look_at_ties))
 (aC (fE (cZ (ao (af (ag (ae 0) (dC (.int 2)) bf) (af (ag (ae 0) (dC (.int 0)) bf) aE)) m_is_place))
 (aC eX
 av)
 av)
 (aC (fE (iF (cZ (ao (af (ag (ae 0) (dC (.int 3)) bf) (af (ag (ae 0) (dC (.int 0)) bf) aE)) m_is_place)) (ag (ag (ae 0) (dC (.int 3)) bf) (ag (ae 0) (dC (.int 2)) bf) kF))
 (aC eX
 av)
 av)
 av)))))
noncomputable def m_look_at_web:List D->ai D:=cm 1 b_look_at_web
noncomputable def bJ:Ev->ai Fl :=
 (aC (ck (lW (ao (af (ae 1) aE) m_is_whole) (gP OB Pf (dC (.int 0)) (ae 1) (ao (af (ag (ae 0) (dC (.int 1)) bf) aE) (m1 fj)))))
 av)
noncomputable def m_is_tie_number:List D->ai D:=cm 2 bJ
structure uU where
 ps:List Str
 ts:List A0
 fi:Str
 la:Str
noncomputable def bQ(w:uU):D:=.tup [.lst (w.ps.map D.str),.lst (w.ts.map bo),.str w.fi,.str w.la]
structure dw (w:uU):Prop where
 n2:2<=w.ps.length
 n7:w.ps.length<=7
 nm:eQ w.ps
 t14:w.ts.length<=14
 ts:∀t∈w.ts,oa w.ps t
 fi:w.fi∈w.ps
 la:w.la∈w.ps
 ne:w.fi≠w.la
theorem cX(h:nameB z=true):m_is_name [.str z]=.ok (.bl true):=by
 have hl:z.length<=8:=by
  unfold nameB at h;simp only[UU,decide_eq_true_eq] at h;exact h.2.1
 rw[lQ (show Lu (.str z)=true from decide_eq_true (UO hl (by decide)))];show ai.ok (D.bl (nameB z))=_;rw[h]
theorem rA(h:Low x):m_is_ratio [fr x]=.ok (.bl true):=by
 rw[xU];show ai.ok (D.bl (rE (.tup [.int x.1,.int x.2])))=_;have h1:=h.q1;have h2:=h.g1;show ai.ok (D.bl (decide (1<=x.2)&&(UX x.1 x.2==1)))=_;rw[decide_eq_true h1,h2];rfl
theorem zT(h:Low x)(h0:0<=x.1):m_is_length [fr x]=.ok (.bl true):=by
 have e:fr x=.tup [.int x.1,.int x.2]:=rfl;have h1:=rA h;rw[e] at h1 ⊢;open_line with[m_is_length,p8,h1,decide_eq_true h0,decide_eq_true (show x.1≥0 from h0)]
theorem Bb(h:∀x,o=some x->Low x/\0<x.1):m_is_worth [bK o]=.ok (.bl true):=by
 cases o with
 |none=>rfl
 |some x =>
  obtain⟨hx,h0⟩:=h x rfl;have e:bK (some x)=.tup [.int x.1,.int x.2]:=rfl;have h1:=rA hx;rw[show fr x=.tup [.int x.1,.int x.2] from rfl] at h1;rw[e];open_line with[m_is_worth,uP,h1,decide_eq_true h0]
theorem gw:kF (.str x) (.str y)=.ok (.bl (x==y)):=by unfold kF;rw[if_pos ⟨rfl,rfl⟩,c4]
theorem q9(nm:eQ zs)(h:oa zs t):m_is_tie [bo t]=.ok (.bl true):=by
 obtain⟨a,b,w,l,o⟩:=t;obtain⟨ha,hb,hne,hw,hl,hl0,ho⟩:=h;have h1:=cX (nm.nm a ha);have h2:=cX (nm.nm b hb);have h3:=zT hl.toLow hl0;have h4:=Bb (o:=o) λx hx=>⟨(ho x hx).1.toLow,(ho x hx).2⟩
 have h5:(a==b)=false:=beq_eq_false_iff_ne.mpr hne;have h6:cY (.str w) (.tup [.str "one",.str "both"])=.ok (.bl false):=by
  rcases hw with rfl|rfl<;>rfl
 have e:bo ⟨a,b,w,l,o⟩=.tup [.str a,.str b,.str w,fr l,bK o]:=rfl;rw[e];open_line with[m_is_tie,gT,h1,h2,gw,h5,h6,h3,h4]
theorem Eh{zs:List Str}:(zs.map D.str).any (λd=>c4 d (.str z))=decide (z∈zs):=by
 induction zs with
 |nil=>rfl
 |cons y zs ih =>
  rw[UG,Wb,ih];show((y==z)||decide (z∈zs))=_
  by_cases h:y=z
  .subst h;simp
  .have:(y==z)=false:=beq_eq_false_iff_ne.mpr h
   rw[this,Yk];have:z∈y::zs↔z∈zs:=by simp [U5 h]
   exact decide_eq_decide.mpr this.symm
theorem vo{zs:List Str}:(zs.map D.str).all (bA n)=true:=U7.mpr λd hd=>by
 obtain⟨z,_,rfl⟩:=UY.mp hd;cases n<;>rfl
theorem qE{zs:List Str}:D9 (.str z) (.lst (zs.map D.str))=.ok (.bl (decide (z∈zs))):=by
 have e:JQ (.str z) (.lst (zs.map D.str))=some (decide (z∈zs)):=(if_pos ⟨rfl,vo⟩).trans (congrArg some Eh);unfold D9;rw[e]
theorem gI{zs:List Str}:cY (.str z) (.lst (zs.map D.str))=.ok (.bl (!(decide (z∈zs)))):=by
 have e:JQ (.str z) (.lst (zs.map D.str))=some (decide (z∈zs)):=(if_pos ⟨rfl,vo⟩).trans (congrArg some Eh);unfold cY;rw[e]
theorem i8{zs:List Str}(h:nameB z=true)(hz:z∈zs):m_is_place [.str z,.lst (zs.map D.str)]=.ok (.bl true):=by
 open_line with[m_is_place,l5,cX h,qE,decide_eq_true hz]
theorem je{α:Type}{F:α->D}{xs:List α}{k:Nat}(h:(numbered 0 (xs.map F))[k]?=some d):∃x,xs[k]?=some x/\d=.tup [.int (k:Int),F x]:=by
 rw[jf,UD] at h;cases e:xs[k]? with
 |none=>rw[e] at h;cases h
 |some x =>
  rw[e] at h;cases h;exact⟨x,rfl,by simp⟩
theorem B8{α:Type}{F:α->D}{xs:List α}{k:Nat}(h:k<=xs.length):jr (xs.map F) none (some (k:Int))=(xs.take k).map F:=by
 rw[LW,HT.sIx_none,HT.sIx_nat,Nat.min_eq_left h,Wf,WT]
theorem vx(h2:2<=zs.length)(h7:zs.length<=7)(nm:eQ zs):m_look_at_places [.lst (zs.map D.str)]=.ok .non:=by
 obtain⟨ρ',hl,_⟩:=Dn (ds:=numbered 0 (zs.map D.str)) (tg:=gr [1,2]) (ρ:=[.sh (.lst (zs.map D.str)),.no,.no])
  (body:=(aC (fE (iF (cZ (ao (af (ae 2) aE) m_is_name)) (ag (ae 2) (nV (ae 0) du (c9 (ae 1))) D9)) (aC eX av) av) av))
  (λk ρ=>∃a b,ρ=[.sh (.lst (zs.map D.str)),a,b]) (by
   rintro k d hd ρ ⟨a,b,rfl⟩;obtain⟨z,hz,rfl⟩:=je hd;refine⟨_,[.sh (.lst (zs.map D.str)),.sh (.int (k:Int)),.sh (.str z)],pS rfl,?_,_,_,rfl⟩;have hk:k<zs.length:=(Uw.mp hz).1;have hnot:decide (z∈zs.take k)=false:=decide_eq_false λhm=>by
    obtain⟨j,hj⟩:=List.mem_iff_getElem?.mp hm;have hjk:j<k:=by have:=(Uw.mp hj).1;simp at this;omega
    rw[Yh hjk] at hj;exact j6 nm.nd hj hz (by omega) rfl
   open_line with[cX (nm.nm z (UA hz)),B8 (WV hk),qE,hnot]) ⟨.no,.no,rfl⟩
 have e1:decide ((2:Int)<=(zs.length:Int))=true:=decide_eq_true (by omega);have e2:decide ((zs.length:Int)<=7)=true:=decide_eq_true (by omega);open_line with[m_look_at_places,b_look_at_places,Ur,e1,e2,hl]
theorem Ct{ts:List A0}(h14:ts.length<=14)(nm:eQ zs)(ht:∀t∈ts,oa zs t):m_look_at_ties [.lst (ts.map bo),.lst (zs.map D.str)]=.ok .non:=by
 obtain⟨ρ',hl,_⟩:=Dn (ds:=numbered 0 (ts.map bo)) (tg:=gr [2,3]) (ρ:=[.sh (.lst (ts.map bo)),.sh (.lst (zs.map D.str)),.no,.no])
  (body:=(aC (fE (iF (cZ (ao (af (ae 3) aE) m_is_tie)) (iF (ag (ag (ae 3) (dC (.int 0)) bf) (ae 1) cY) (ag (ag (ae 3) (dC (.int 1)) bf) (ae 1) cY))) (aC eX av) av) av))
  (λk ρ=>∃a b,ρ=[.sh (.lst (ts.map bo)),.sh (.lst (zs.map D.str)),a,b]) (by
   rintro k d hd ρ ⟨a,b,rfl⟩;obtain⟨t,ht',rfl⟩:=je hd;refine⟨_,[.sh (.lst (ts.map bo)),.sh (.lst (zs.map D.str)),.sh (.int (k:Int)),.sh (bo t)],pS rfl,?_,_,_,rfl⟩;have hT:=ht t (UA ht');have h1:=q9 nm hT;rw[show bo t=.tup [.str t.a,.str t.b,.str t.w,fr t.l,bK t.o] from rfl] at h1 ⊢;open_line with[h1,gI,decide_eq_true hT.a,decide_eq_true hT.b]) ⟨.no,.no,rfl⟩
 have e1:decide ((14:Int)<(ts.length:Int))=false:=decide_eq_false (by omega);open_line with[m_look_at_ties,b_look_at_ties,Ur,e1,decide_eq_false (show ¬(ts.length:Int) > 14 by omega),hl]
theorem Nc(h:dw w):m_look_at_web [bQ w]=.ok .non:=by
 obtain⟨ps,ts,fi,la⟩:=w;have h1:=vx h.n2 h.n7 h.nm;have h2:=Ct h.t14 h.nm h.ts;have h3:=i8 (h.nm.nm fi h.fi) h.fi;have h4:=i8 (h.nm.nm la h.la) h.la;have h5:(la==fi)=false:=beq_eq_false_iff_ne.mpr (U5 h.ne);rw[show bQ ⟨ps,ts,fi,la⟩=.tup [.lst (ps.map D.str),.lst (ts.map bo),.str fi,.str la] from rfl];open_line with[m_look_at_web,b_look_at_web,h1,h2,h3,h4,gw,h5]
noncomputable def jJ:Ev->ai Fl :=
 (aC (bO 1 (dC (.int 1)))
 (aC (u9 (ae 0) (cz 2)
 (aC (bO 1 (ag (ag (ae 1) (ao (af (ae 1) (af (ag (ae 2) (dC (.int 1)) bf) aE)) m_common_divisor) nW) (ag (ae 2) (dC (.int 1)) bf) cL))
 av))
 (aC (ck (ae 1))
 av)))
noncomputable def m_shared_bottom:List D->ai D:=cm 3 jJ
noncomputable def uQ:Ev->ai Fl :=
 (aC (ck (ag (ag (ae 0) (dC (.int 0)) bf) (ag (ae 1) (ag (ae 0) (dC (.int 1)) bf) nW) cL))
 av)
noncomputable def m_as_whole:List D->ai D:=cm 2 uQ
noncomputable def kJ:Ev->ai Fl :=
 (aC (bO 1 (ao (af (eA 1 [] (qe (ae 0)) (cz 0) (ag (ae 0) (dC (.non)) pT) (ae 0)) aE) m_shared_bottom))
 (aC (ck (ao (af (eA 1 [1] (qe (ae 0)) (cz 0) mYes (MW (ag (ae 0) (dC (.non)) iz) (dC (.non)) (ao (af (ae 0) (af (ae 1) aE)) m_as_whole))) (af (ae 1) aE)) cO))
 av))
noncomputable def m_on_one_scale:List D->ai D:=cm 2 kJ
noncomputable def jH(ks:List Nat):D:=.lst (ks.map λ(k:Nat)=>D.int (k:Int))
theorem zH{k:Nat}(h:k<w.ts.length):m_is_tie_number [bQ w,.int (k:Int)]=.ok (.bl true):=by
 rw[show bQ w=.tup [.lst (w.ps.map D.str),.lst (w.ts.map bo),.str w.fi,.str w.la] from rfl];open_line with[m_is_tie_number,bJ,bS,C9,Ur,decide_eq_true (show(0:Int)<=(k:Int) by omega),decide_eq_true (show(k:Int)<(w.ts.length:Int) by omega)]
noncomputable def fM(b:Int) (x:kO):Int:=b / (UX b x.2:Int)*x.2
noncomputable def L5(xs:List kO):Int:=xs.foldl fM 1
structure wL (k:Nat) (b:Int):Prop where
 pos:0<b
 bd:b.natAbs<=2 ^ (200*k)
theorem xm{k:Nat}(h:k<=60):2 ^ (200*k)<qV:=by rw[pw];exact YM (by decide) (by omega)
theorem sL(h:b≠0):0<(UX a b:Int):=kS h
theorem wL.step{k:Nat}(h:wL k b)(hx:iX x):wL (k+1) (fM b x)/\b∣fM b x/\x.2∣fM b x:=by
 have q1:=hx.q1;have hg:0<(UX b x.2:Int):=sL (by omega);have hd:(UX b x.2:Int)∣b:=W9 ..;have hd2:(UX b x.2:Int)∣x.2:=Int.gcd_dvd_right ..;have hq:0<b / (UX b x.2:Int):=WX h.pos (by omega) hd;refine⟨⟨YO hq (by omega),?_⟩,?_,⟨b / (UX b x.2:Int),by unfold fM;rw[Yy]⟩⟩
 .unfold fM
  rw[X8,show 200*(k+1)=200*k+200 by omega,XW];refine Nat.mul_le_mul (UO (VI _ _) h.bd) (UO (WV hx.qN) Mk)
 .obtain⟨c,hc⟩:=hd
  obtain⟨d,hd'⟩:=hd2;refine⟨d,?_⟩;unfold fM;generalize (UX b x.2:Int)=g at *;have e1:b / g=c:=by rw[hc];exact Int.mul_ediv_cancel_left c (by omega)
  rw[e1,hd',hc,←Int.mul_assoc,Yy c g]
theorem Jt{xs:List kO}(hx:∀x∈xs,iX x):∀(b:Int) (k:Nat),wL k b->wL (k+xs.length) (xs.foldl fM b)/\b∣xs.foldl fM b/\∀x∈xs,x.2∣xs.foldl fM b:=by
 induction xs with
 |nil=>intro b k h;exact⟨h,Int.dvd_refl b,λx hx=>nomatch hx⟩
 |cons x xs ih =>
  intro b k h;obtain⟨h1,h2,h3⟩:=h.step (hx x UM);obtain⟨k1,k2,k3⟩:=ih (λy hy=>hx y (Uu _ hy)) _ _ h1;refine⟨?_,Int.dvd_trans h2 k2,λy hy=>?_⟩
  .rw[UI,show k+(xs.length+1)=k+1+xs.length by omega];exact k1
  .rcases Uv.mp hy with rfl|hy
   .exact Int.dvd_trans h3 k2
   .exact k3 y hy
theorem Ju{L:Sl}:∀(xs:List kO) (k:Nat) (b:Int) (z:Sl),wL k b->k+xs.length<=60->(∀x∈xs,iX x)->∃z',cp (cz 2) (aC (bO 1 (ag (ag (ae 1) (ao (af (ae 1) (af (ag (ae 2) (dC (.int 1)) bf) aE)) m_common_divisor) nW) (ag (ae 2) (dC (.int 1)) bf) cL)) av) (xs.map fr) [L,.sh (.int b),z] =
  .ok (.nx [L,.sh (.int (xs.foldl fM b)),z']):=by
 intro xs
 induction xs with
 |nil=>intro k b z _ _ _;exact⟨z,rfl⟩
 |cons x xs ih =>
  intro k b z h hk hx;have hxx:=hx x UM;have q1:=hxx.q1;obtain⟨h1,h2,h3⟩:=h.step hxx;simp only[UI] at hk;obtain⟨z',hz'⟩:=ih (k+1) _ (.sh (fr x)) h1 (by omega) (λy hy=>hx y (Uu _ hy));refine⟨z',?_⟩;have hg:0<(UX b x.2:Int):=sL (by omega);have hdiv:eV b (UX b x.2:Int)=true:=lT (by omega) (Vd h.bd (xm (by omega)));have hb13:(b / (UX b x.2:Int)).natAbs<qV:=Vd (UO (VI _ _) h.bd) (xm (by omega));have hmul:dX (b / (UX b x.2:Int)) x.2=true:=oU (Uy hb13 qU) (Uy hxx.qN Em);rw[UG,ib (ρ1:=[L,.sh (.int b),.sh (fr x)]) (ρ2:=[L,.sh (.int (fM b x)),.sh (fr x)]) rfl ?_]
  .exact hz'
  .rw[show fr x=.tup [.int x.1,.int x.2] from rfl]
   open_line with[k7,o8 hdiv,fJ hg,dU hmul]
   rfl
theorem F2(hl:xs.length<=60)(hx:∀x∈xs,iX x):m_shared_bottom [.lst (xs.map fr)]=.ok (.int (L5 xs)):=by
 obtain⟨z',hz⟩:=Ju (L:=.sh (.lst (xs.map fr))) xs 0 1 .no ⟨by decide,by decide⟩ (by omega) hx;open_line with[m_shared_bottom,jJ,hz]
 rfl
noncomputable def wI(b:Int):Option kO->D
 |none=>.non
 |some x=>.int (x.1*(b / x.2))
noncomputable def gG(os:List (Option kO)):List kO:=os.filterMap id
theorem Fq{os:List (Option kO)}:x∈gG os↔some x∈os:=by unfold gG;simp
theorem Gw(hx:iX x)(hb:b.natAbs<qV):m_as_whole [fr x,.int b]=.ok (.int (x.1*(b / x.2))):=by
 have q1:=hx.q1;have hdiv:eV b x.2=true:=Ji (by omega) (Uy hx.qN OY);have hmul:dX x.1 (b / x.2)=true:=oU (Uy hx.pN Em) (Uy (Vd (VI _ _) hb) qU);rw[show fr x=.tup [.int x.1,.int x.2] from rfl];open_line with[m_as_whole,uQ,o8 hdiv,fJ (show 0<x.2 by omega),dU hmul]
theorem i5:∀os:List (Option kO),(os.map bK).filter (λd=>!(vT d))=(gG os).map fr
 |[]=>rfl
 |none::os=>by
  rw[UG,Yp (by decide),i5 os];rfl
 |some x::os=>by
  have:vT (bK (some x))=false:=rfl;rw[UG,Yo (by rw[this];rfl),i5 os];rfl
theorem G2{os:List (Option kO)}(hl:os.length<=60)(hx:∀x,some x∈os->iX x):m_on_one_scale [.lst (os.map bK)]=.ok (.tup [.lst (os.map (wI (L5 (gG os)))),.int (L5 (gG os))]):=by
 have hxs:∀x∈gG os,iX x:=λx h=>hx x (Fq.mp h);have hls:(gG os).length<=60:=UO (List.length_filterMap_le _ _) hl;have h1:=F2 hls hxs;obtain⟨B,_,_⟩:=Jt hxs 1 0 ⟨by decide,by decide⟩;have hb:(L5 (gG os)).natAbs<qV:=Vd B.bd (xm (by omega));have c1:kG 1 [] (cz 0) (ag (ae 0) (dC (.non)) pT) (ae 0) [.sh (.lst (os.map bK)),.no] (os.map bK)=.ok (.lst ((gG os).map fr)):=by
  rw[AU (F:=id) (p:=λd=>!(vT d)) (by rw[Ur];omega)]
  .rw[XX,i5]
  .intro d hd
   exact⟨[.sh d],rfl,rfl,λ_=>rfl⟩
 have c2:kG 1 [1] (cz 0) mYes (MW (ag (ae 0) (dC (.non)) iz) (dC (.non)) (ao (af (ae 0) (af (ae 1) aE)) m_as_whole)) [.sh (.lst (os.map bK)),.sh (.int (L5 (gG os)))] (os.map bK)=.ok (.lst (os.map (wI (L5 (gG os))))):=by
  rw[AS (F:=λd=>match d with|.tup [.int p,.int q]=>.int (p*(L5 (gG os) / q))|_=>.non) (by rw[Ur];omega)]
  .congr 2
   rw[V2];apply List.map_congr_left;intro o _;cases o<;>rfl
  .intro d hd
   obtain⟨o,ho,rfl⟩:=UY.mp hd;refine⟨[.sh (bK o),.sh (.int (L5 (gG os)))],rfl,rfl,?_⟩;cases o with
   |none=>rfl
   |some x =>
    have hw:=Gw (hx x ho) hb;rw[show fr x=.tup [.int x.1,.int x.2] from rfl] at hw;rw[show bK (some x)=.tup [.int x.1,.int x.2] from rfl];open_line with[hw]
 open_line with[m_on_one_scale,kJ,c1,h1,c2]
theorem yO(h1:c (eR ρ)=.ok (.bl true))(h2:s ρ=.ok (.nx ρ2)):cA c s (n+1) ρ=cA c s n ρ2:=by
 conv=>lhs;unfold cA
 rw[h1,h2];rfl
theorem vj(h1:c (eR ρ)=.ok (.bl false)):cA c s (n+1) ρ=.ok (.nx ρ):=by
 conv=>lhs;unfold cA
 rw[h1];rfl
end Com
namespace DL
open PySem PySem.Spec PyProof.Rows L2
noncomputable def Qh(K:Up) (E:XK) (He H0e Ha:Hp) (r:ai Fl) (D:iY):Prop:=match r with
 |.ok (.rt (.lst es))=>∀p us H Ha',bp He H0e H Ha'->He p=none->Ha' p=none->H p=some (.lst us)->Reps K Ha' es us->D.rt (.ref p) H
 |.exn x=>∀C ox H Ha',bp He H0e H Ha'->A3 K Ha' x C ox->E C ox H
 |_=>False
noncomputable def TZ(K:Up) (E:XK) (He H0e:Hp) (g:Ev->ai Fl):TS:=λD σ H=>∃Ha ρ,cT K He H0e Ha σ H ρ/\Qh K E He H0e Ha (g ρ) D
structure JM (X:Cx) (E:XK) (He H0e:Hp) (st:List Stmt) (g:Ev->ai Fl):Prop where
 o:wJ X st (TZ X.K E He H0e g)
section
variable {X:Cx}{E:XK}{He H0e:Hp}{st:Stmt}{rest:List Stmt}{e:Expr}{es:List Expr}{f:Ev->ai D}{fa:Ev->ai (List D)}{s t:Ev->ai Fl}{pos:Pos}
noncomputable def Nv(t:Ev->ai Fl) (r:Fl):ai Fl:=match r with
 |.nx ρ=>t ρ
 |_=>.stuck
noncomputable def vp(s t:Ev->ai Fl):Ev->ai Fl:=λρ=>(s ρ).bind (Nv t)
theorem v5(h1:DS X E He H0e st s)(h2:JM X E He H0e rest t):JM X E He H0e (st::rest) (vp s t):=by
 refine⟨?_⟩;refine dW (fF h1.o h2.o) λD σ H ⟨Ha,ρ,h,q⟩=>⟨Ha,ρ,h,?_⟩
 unfold vp at q;cases e1:s ρ with
 |stuck|exn x=>rw[e1] at q;exact q
 |ok r =>
  rw[e1] at q;cases r with|nx ρ'=>exact λσ' H' Ha' s' h'=>⟨Ha',ρ',h',q⟩|rt d|bk ρ'|ct ρ'=>exact q.elim
end
noncomputable def NV(r:Fl):ai D:=match r with
 |.rt (.lst es)=>.ok (.lst es)
 |_=>.stuck
noncomputable def Fc(n:Nat) (s:Ev->ai Fl) (ds:List D):ai D:=(s (ds.map Sl.sh++U2 (n-ds.length) .no)).bind NV
noncomputable def Qg(K:Up) (E:XK) (H Ha:Hp) (r:ai D) (Q:VK):Prop:=match r with
 |.ok (.lst es)=>∀p us H' Ha',bp H Ha H' Ha'->H p=none->Ha' p=none->H' p=some (.lst us)->Reps K Ha' es us->Q (.ref p) H'
 |.exn x=>∀C ox H' Ha',bp H Ha H' Ha'->A3 K Ha' x C ox->E C ox H'
 |_=>False
noncomputable def PR(K:Up) (n:Nat) (m:List D->ai D):Sp:=λvs H Q E=>vs.length=n/\∃Ha ds,aB Ha H/\Reps K Ha ds vs/\Qg K E H Ha (m ds) Q
theorem BV{K:Up}{st:Stmt}{N ps:List Str}{k:Nat}(F:Gh K x qual st f fd)(S:d8 N ps (defScope st))
  (hbody:∀(cdv:Value) (A:Around) (outer:List Vu) (s0:Shared) (H Ha:Hp) (E:XK),cE k (A.deeper (envOfC qual (defScope st) s0.heap.objs.size f cdv)) ->
   JM (di CX0 P w K mg base N qual (defScope st) f cdv A outer s0 H E).nox E H Ha (defBody st) s):fN P w K mg base CX0 (k+1) f fd ps (PR K ps.length (Fc N.length s)):=by
 have hpl:ps.length<=N.length:=by have:=congrArg WZ S.pre;rw[Vf] at this;omega
 refine F.ok S (λvs H Q E h=>h.1) λcdv A outer s0 H vs Q E hr h=>?_;obtain⟨hn,Ha,ds,hs,hv,q⟩:=h;refine⟨_,(hbody cdv A outer s0 H Ha E hr).o,Ha,ds.map Sl.sh++U2 (N.length-ds.length) .no,?_,?_⟩
 .refine⟨bp.refl hs,jS hv,λi d e=>?_,λi j d d' hij e=>?_,?_,OX.none oG lL⟩
  .by_cases hi:i<ds.length
   .rw[UH (by simpa using hi),UD] at e
    cases q:ds[i]? with|none|some d'=>rw[q] at e;cases e
   .rw[UN (by simpa using hi),UW] at e
    split at e<;>cases e
  .by_cases hi:i<ds.length
   .rw[UH (by simpa using hi),UD] at e
    cases q:ds[i]? with|none|some d'=>rw[q] at e;cases e
   .rw[UN (by simpa using hi),UW] at e
    split at e<;>cases e
  .unfold L2.start
   have:=hv.length;simp only[U6,Ur,Vj];omega
 .unfold Fc at q
  cases e1:s (ds.map Sl.sh++U2 (N.length-ds.length) .no) with
  |stuck|exn x=>rw[e1] at q;exact q
  |ok r =>
   rw[e1] at q;cases r with
   |rt d =>
    cases d with|lst es=>exact λp us H' Ha' g hp h0 hv' rr=>q p us H' Ha' g hp h0 hv' rr| _=>exact q.elim
   |_=>exact q.elim
section
variable {X:Cx}{E:XK}{He H0e:Hp}{e:Expr}{es:List Expr}{f:Ev->ai D}{fa:Ev->ai (List D)}{pos:Pos}
theorem LL{k n:Nat}{ps:List Str}(F:fN X.prog X.w X.K X.mg X.base CX k fn fd ps (PR X.K n m))(hr:cE k X.A)(hg:Gl X x)(hm:X.mg x=some (.ref fn))
  (hk:WD X.K (.ref fn)=true)(hb:ik X.K fd ps [])(hx:gf CX X E)(ha:DA X E (e::es) fa)(hn:(e::es).length=n:=by rfl)(hl:∀ρ ds,fa ρ=.ok ds->ds.length=(e::es).length)
  (hdb:(x==("__debug__":Str))=false:=by decide)(he:starEach (e::es) X.env=(false,eval e X.env)::starEach es X.env:=by exact aQ rfl)(hpl:(backTo pos (starEach es X.env)).any (·.1)=false:=by exact bB rfl) :
  DF X E (.Call (.Name x p) (e::es) [] pos) (ao fa m):=by
 refine⟨?_⟩;refine aX (qA F hr hg hm hk hb .nil hx ha.o hdb he hpl) λσ H Q h=>?_;obtain⟨Ha,ρ,hs,hr,q⟩:=h;refine⟨Ha,ρ,hs,hr,?_⟩;unfold ao at q;cases e1:fa ρ with
 |stuck|exn x=>rw[e1] at q;exact q
 |ok ds =>
  rw[e1] at q;intro v H1 H01 g1 r1;refine⟨?_,H01,ds,g1.sub,by simpa using r1,?_⟩
  .have:=r1.length
   have:=hl ρ ds e1;simp only[UT];omega
  .replace q:match m ds with
    |.ok (.lst ds)=>∀p vs H' Ha',bp H Ha H' Ha'->H p=none->Ha' p=none->H' p=some (.lst vs)->Reps X.K Ha' ds vs->Q (.ref p) H'
    |.ok _=>False
    |.exn x=>∀C ox H' Ha',bp H Ha H' Ha'->A3 X.K Ha' x C ox->E C ox H'
    |.stuck=>False:=q
   cases e2:m ds with
   |stuck=>rw[e2] at q;exact q|exn x=>rw[e2] at q;exact λC ox H' Ha' g ex=>q C ox H' Ha' (g1.trans g) ex
   |ok d =>
    rw[e2] at q;cases d with|lst es=>exact λp us H' Ha' g hp h0 hv rr=>q p us H' Ha' (g1.trans g) (g1.s.free hp) h0 hv rr| _=>exact q.elim
end
section
variable {X:Cx}{E:XK}{He H0e:Hp}{e a b:Expr}{es:List Expr}{f g:Ev->ai D}{fa:Ev->ai (List D)}{pos:Pos}
noncomputable def LU(x y:D):ai D:=match x,y with
 |.int i,.int j=>.ok (.int (if j<i then j else i))
 |_,_=>.stuck
theorem OG:gk X E (λxs H Q=>∃i j,xs=[.int i,.int j]/\Q (.int (if j<i then j else i)) H) (m2 LU):=MY λx y v u H Ha Q hs r r' q=>by
 cases x with
 |int i =>
  cases y with|int j=>exact⟨i,j,by rw[az.mp r,az.mp r'],bj hs q (ri _)⟩| _=>exact q.elim
 |_=>exact q.elim
end
end DL
namespace Cod
open PySem L2 DL Com
theorem ON:FY (.int c)=.ok (.int (c.natAbs:Int)):=by
 show ai.ok (D.int (if c<0 then -c else c))=_
 congr 2
 split<;>omega
noncomputable def uR:Ev->ai Fl :=
 (aC (bO 2 (ao (af (ae 0) aE) (m1 FY)))
 (aC (bO 3 (ae 1))
 (aC (i7 (kT 3) (ag (ae 3) (dC (.int 0)) ll)
 (aC (u7 2 3 (af (ae 3) (af (ag (ae 2) (ae 3) dk) aE)))
 av))
 (aC (ck (ao (af (ag (ae 0) (ae 2) nW) (af (ag (ae 1) (ae 2) nW) aE)) cO))
 av))))
noncomputable def dA:List D->ai D:=cm 4 uR
theorem zS{A B:Sl}:∀(n:Nat) (a b:Int),0<=a->0<=b->b.natAbs<n->cA (ag (ae 3) (dC (.int 0)) ll) (aC (u7 2 3 (af (ae 3) (af (ag (ae 2) (ae 3) dk) aE))) av) n [A,B,.sh (.int a),.sh (.int b)]=.ok (.nx [A,B,.sh (.int (UX a b:Int)),.sh (.int 0)])
 |0,a,b,_,_,h=>absurd h (X0 _)
 |n+1,a,b,ha,hb,h=>by
  by_cases h0:b=0
  .subst h0
   have hc:(ag (ae 3) (dC (.int 0)) ll) (eR [A,B,.sh (.int a),.sh (.int 0)])=.ok (.bl false):=by
    cases A<;>cases B<;>rfl
   rw[vj hc];have:((UX a 0:Nat):Int)=a:=by rw[Int.gcd_zero_right];omega
   rw[this]
  .have hc:(ag (ae 3) (dC (.int 0)) ll) (eR [A,B,.sh (.int a),.sh (.int b)])=.ok (.bl true):=by
    have:(b==0)=false:=beq_eq_false_iff_ne.mpr h0;cases A<;>cases B<;>open_line with[this]
   have f:=eU (a:=a) (b:=b) (by omega);have hb0:(b==0)=false:=beq_eq_false_iff_ne.mpr h0;rw[yO (ρ2:=[A,B,.sh (.int b),.sh (.int (a.fmod b))]) hc ?_,zS n b (a.fmod b) (by omega) f.1 (by omega)]
   .rw[sJ]
   .cases A<;>cases B<;>open_line with[hb0]
theorem low_ok(hb:0<b)(h1:a.natAbs<qV)(h2:b.natAbs<qV):dA [.int a,.int b]=.ok (fr (u4 a b)):=by
 have hg:0<(UX a b:Int):=kS (by omega);have hgn:(UX (a.natAbs:Int) b:Int)=(UX a b:Int):=by
  congr 1
 have hl:=zS (A:=.sh (.int a)) (B:=.sh (.int b)) (b.natAbs+1) (a.natAbs:Int) b (by omega) (by omega) (Wj _);rw[hgn] at hl;have hwh:∀(c:Ev->ai D) (s:Ev->ai Fl),i7 (kT 3) c s [.sh (.int a),.sh (.int b),.sh (.int (a.natAbs:Int)),.sh (.int b)]=cA c s (b.natAbs+1) [.sh (.int a),.sh (.int b),.sh (.int (a.natAbs:Int)),.sh (.int b)]:=λ_ _=>rfl;have d1:(UX a b:Int)∣a:=W9 ..;have d2:(UX a b:Int)∣b:=Int.gcd_dvd_right ..;have q1:eV a (UX a b:Int)=true:=lT (by omega) h1;have q2:eV b (UX a b:Int)=true:=lT (by omega) h2;have e1:a.fdiv (UX a b:Int)=a / (UX a b:Int):=fJ hg;have e2:b.fdiv (UX a b:Int)=b / (UX a b:Int):=fJ hg;open_line with[dA,uR,ON,hwh,hl,o8 q1,o8 q2,e1,e2]
 rfl
noncomputable def S(cs:List Nat):Str:=⟨cs.toArray⟩
theorem S_inj(h:S a=S b):a=b:=by
 have:=congrArg (λs:Str=>s.cps.toList) h;simpa [S] using this
theorem Rv(a:List Nat):(S a).length=a.length:=OC a
structure IsNm (cs:List Nat):Prop where
 l1:1<=cs.length
 l8:cs.length<=8
 ab:∀x∈cs,pR x=true
theorem IsNm.nameB(h:IsNm cs):Com.nameB (S cs)=true:=by
 unfold Com.nameB;rw[Rv];simp only[UU,decide_eq_true_eq];exact⟨h.l1,h.l8,U7.mpr λx hx=>h.ab x (by simpa [S] using hx)⟩
noncomputable def nmsD(css:List (List Nat)):List D:=css.map λcs=>D.str (S cs)
theorem nodup_le{α:Type}[DecidableEq α]:∀{l m:List α},l.Nodup->(∀x∈l,x∈m)->l.length<=m.length
 |[],_,_,_=>VU _
 |a::l,m,nd,h=>by
  rw[VZ] at nd;have ha:=h a UM;have:=nodup_le (l:=l) (m:=m.erase a) nd.2 λx hx=>by
   have hne:x≠a:=λz=>nd.1 (z▸hx);exact(List.mem_erase_of_ne hne).mpr (h x (Uu _ hx))
  rw[List.length_erase_of_mem ha] at this;have:=List.length_pos_of_mem ha;simp only[UI];omega
noncomputable def first(es:List Int) (m:Nat):List Nat:=(VO m).map λj=>97+((es[2+j]?).getD 0).toNat
end Cod
namespace DL
open PySem PySem.Spec PyProof.Rows L2
theorem PT.nox(h:PT X.nox e t):PT X e t:=λpins s σ H Q I hw =>
 Vh (h pins s σ H Q (I.wish _) hw) (λ_ _ ⟨H',I',q⟩=>⟨H',I'.unwish,q⟩) λ_ _ z=>Vo z
section
variable {X:Cx}{c e:Expr}{es:List Expr}{fc:Ev->ai D}{fa:Ev->ai (List D)}{ga gb:Ev->ai Fl}{sa sb:Stmt}{pos:Pos}
end
section
variable {X:Cx}{E:XK}{e a b o:Expr}{es:List Expr}{fe fo:Ev->ai D}{fa:Ev->ai (List D)}{pos:Pos}
end
section
variable {prog:Program}{w:World}{A:Around}{E:Value->Shared->Prop}{h:Heap}{g:Array GenState}{d:Drawn}{t:Nat}{os:OsState}
variable {nm q:Str}{C N:Addr}{bs bm bmB:List Value}{hdct:Bool}{sn:List Str}{sub:List Value}{ab:Bool}{col:Option Bool}{dd:Option Addr}{k0 k1 k2 k3 k5:Option Value}{B newId initId:String}{mN:Str->Option Value}{rest:List Value}{fI:Addr}{oI:Obj}
theorem J0(F:ExcBaseFacts B newId initId bmB)(T:OwnTail h bmB bm)(hC:h.get? C=some (excClassObj nm q C N bs bm hdct sn sub ab col dd k0 k1 k2 k3 k5 newId))(hn:h.Ns N mN)(hi:mN "__init__"=some (.ref fI))(hfI:h.get? fI=some oI)(hfc:oI.cls=.type "function")(hrest:rest.length<=sizeLine)
  (hq:∀h' e,Xk h h' e (.ref C) rest->wpAny (model prog w) A (call (.ref fI) (.ref e::rest)) (λr s'=>r=.none/\Q (.done (.ret (.ref e))) s') E ⟨h',g,d,t,os⟩):wpAny (model prog w) A (Builtin.«type.__call__» ⟨.ref C::rest,[]⟩) Q E ⟨h,g,d,t,os⟩:=by
 repeat (first|with_reducible refine VE hC ?_|with_reducible refine wpAny_madeBy_exc hC ?_|wp_step)
 refine codeAny_call_builtin_code (Xy _ F.quiet) (wpAny_check_new_subT F T hC (codeAny_exc_new_subT F T hC ?_ hrest));generalize hT0:({ cls:=.type "tuple",data:=.seq rest.toArray }:Obj)=o0;generalize hX0:({ cls:=.ref C,data:=.fields #[.ref h.objs.size,.none,.none,.none,.bool false,.none] }:Obj)=o1;have kp:∀b o,h.get? b=some o->((h.push o0).push o1).get? b=some o:=λb o hb=>Ux o1 (Ux o0 hb);have hget:((h.push o0).push o1).get? (h.objs.size+1)=some o1:=by subst hX0 hT0;heap_get
 have hc1:o1.cls=.ref C:=by subst hX0;rfl
 have hcC:(UZ C::bm).contains (.ref C)=true:=by simp
 show wpAny _ _ _ _ _ _;unfold isInstance
 repeat (first|(with_reducible refine VE hget ?_;try rw[hc1])|(with_reducible refine wpAny_isSubtype_exc (kp _ _ hC) ?_;rw[hcC])|wp_step)
 show wpAny _ _ (typeLookup (.ref C) _) _ _ _;refine wpAny_typeLookup_tail (kp _ _ hC) (hn.keeps kp) (T.keeps kp) F.mroIs F.init.lookup ?_;rw[hi];refine VD (Uq (show wpAny _ _ (bindSpecial _ _) _ _ _ from ?_));unfold bindSpecial;refine Uq (wpAny_typeOf (T:="function") ⟨_,kp _ _ hfI,hfc⟩ ?_);rw[if_pos (by decide)];refine UL (Uq (Vh (hq _ (h.objs.size+1) ⟨kp,WO (Nat.le_succ _),h.objs.size,by rw[hX0];exact hget,WO (UB _),?_⟩) (λr s' hr=>?_) λ_ _ x=>x))
 .subst hT0;exact Ux _ (Heap.get?_push_at rfl rfl)
 .obtain⟨rfl,hQ⟩:=hr
  wp_walk
  exact hQ
theorem J3(F:ExcBaseFacts B newId initId bmB)(T:OwnTail h bmB bm)(hC:h.get? C=some (excClassObj nm q C N bs bm hdct sn sub ab col dd k0 k1 k2 k3 k5 newId))(hn:h.Ns N mN)(hi:mN "__init__"=some (.ref fI))(hfI:h.get? fI=some oI)(hfc:oI.cls=.type "function")(hrest:rest.length<=sizeLine)
  (hq:∀h' e,Xk h h' e (.ref C) rest->wpAny (model prog w) (A.under (.builtin "type.__call__" ⟨.ref C::rest,[]⟩)) (call (.ref fI) (.ref e::rest)) (λr s'=>r=.none/\Q (.ref e) s') E ⟨h',g,d,t,os⟩):wpAny (model prog w) A (call (.ref C) rest) Q E ⟨h,g,d,t,os⟩:=by
 have f1:=tc_lookup;have f2:=tc_bind (.ref C);have hT:(⟨h,g,d,t,os⟩:Shared).TypeIs (.ref C) "type":=⟨_,hC,rfl⟩
 refine wpAny_call (codeAny_of_tree (show wpAny _ _ (callAny (.ref C) _) _ _ _ from ?_))
 repeat (any_goals (first|assumption|with_reducible refine VE hC ?_|wp_step))
 exact⟨rfl,codeAny_call_builtin_at (Xy _ (by decide +kernel)) entry_typeCall (wpAny_check_type_call_sub hC (J0 F T hC hn hi hfI hfc hrest λh' e hm=>hq h' e hm))⟩
end
section
variable {M:Model}{A:Around}{E:Value->Shared->Prop}{env:Vu}
variable {nm q:Str}{C N:Addr}{bs bm:List Value}{hdct:Bool}{sn:List Str}{sub:List Value}{ab:Bool}{col:Option Bool}{dd:Option Addr}{k0 k1 k2 k3 k5:Option Value}{newId:String}
theorem Gq(hbase:bm.contains (.type "BaseException")=true)(hh:A.handled=none)
  (h:wpAny M A x (λv sg=>∃e dc t,v=.ref e/\sg.heap.get? C=some (excClassObj nm q C N bs bm hdct sn sub ab col dd k0 k1 k2 k3 k5 newId)/\sg.heap.get? e=some ⟨.ref C,dc,.fields #[.ref t,.none,.none,.none,.bool false,.none],#[]⟩/\E (.ref e) sg) E s):wpAny M A (raiseStmt env (some x) none) Q E s:=by
 have hcB:(UZ C::bm).contains (.type "BaseException")=true:=by rw[List.contains_cons,hbase,Bool.or_true]
 unfold raiseStmt;refine Uq (Vh h (λv sg z9=>?_) λ_ _ x=>x);obtain⟨e,dc,t,hv,hC,he,hE⟩:=z9;subst hv;obtain⟨hp,g,d,tk,os⟩:=sg
 repeat (first|with_reducible refine VE he ?_|with_reducible refine VE hC ?_|(with_reducible refine wpAny_isSubtype_exc hC ?_;rw[hcB])|wp_step)
 exact wpAny_raiseNew_none hh hE
end
noncomputable def jP:List Value->Bool
 |.ref _::r=>jP r
 |l=>l==[.type "ValueError",.type "Exception",.type "BaseException",.type "object"]
theorem vv(self:Value):∀{l:List Value},jP l=true->refuseLoop self "__setattr__" l=pure ()
 |[],e=>by cases e
 |x::r,e=>by
  cases x with|ref c=>rw[refuseLoop_ref];exact vv self (l:=r) (by unfold jP at e;exact e)| _=>unfold jP at e;rw[beq_iff_eq.mp e];exact PySem.F.store_ValueError.passes self
theorem Gy:∀{l:List Value},jP l=true->l.contains (.type "object")=true
 |[],e=>by cases e
 |x::r,e=>by
  cases x with|ref c=>rw[List.contains_cons,Gy (l:=r) (by unfold jP at e;exact e),Bool.or_true]| _=>unfold jP at e;rw[beq_iff_eq.mp e];decide
structure JD (K:Up) (C:Addr) (ks:List Str):Prop where
 sa:VQ K (.ref C) "__setattr__"=some (some (.builtin "object.__setattr__"))
 hd:WC K C=true
 mr:(W.clsIn K C).any (λcd=>jP cd.mro)=true
 no:∀f∈ks,iE K C f
section
variable {prog:Program}{w:World}{A:Around}{K:Up}{C x:Addr}{s:Shared}{R:Result->Shared->Prop}
theorem Cr(X:K.In s.heap)(I:X6 s.heap x ox C od)(c:JD K C ks)(hf:name∈ks)
  (h:∀b,wpAny (model prog w) A.in1 (Builtin.ObjectAttr.storeInOwnDict (.ref x) (.ref C) (.str name tk) name v b) (λfin s'=>match fin with|.done f=>R (.ok f) s'|.again c'=>c'.quiet=true/\codeAny (model prog w) A c' R s') (λe s'=>R (.error e) s') s) :
  codeAny (model prog w) A (.call (.builtin "object.__setattr__") ⟨[.ref x,.str name tk,v],[]⟩) R s:=by
 have SF:=PySem.F.store_object;obtain⟨cd,hc,ho⟩:=W.any_some c.mr;have ne:cd.mro.isEmpty=false:=by cases q:cd.mro with|nil=>rw[q] at ho;cases ho|cons _ _=>rfl
 have sub:Xp (model prog w) s.heap (isInstance (.ref x) (.type "object")) true:=I.type.andThen (W.looks_mroIn X (by unfold WR;rw[hc,Option.bind_some,if_neg (by rw[ne];decide),Gy ho]));refine codeAny_call_builtin SF.slot.plain SF.entry (@W.check_slot (model prog w) _ _ s "object.__setattr__" "object" "__setattr__" (.ref x) [.str name tk,v] [] _ SF.kind SF.split sub (SF.args (.ref x) (.str name tk) v) ?_);have hm:Xp (model prog w) s.heap (mroOf (.ref C)) cd.mro:=(Yc X hc).andThen .now;rw[W.osa_eq,refuse_eq];refine Uq (Uq (I.type.here (Uq (hm.here ?_))));rw[vv _ ho];refine UL ?_;have L3:Xp (model prog w) s.heap (Builtin.ObjectAttr.storeTaker? none) none:=.now;have L2:Xp (model prog w) s.heap (typeLookup (.ref C) name) none:=W.looks_findIn X (c.no name hf);refine Uq (I.type.here (Uq (L2.here (Uq (L3.here ?_)))));exact h _
theorem J2{fs:Array Value}(X:K.In s.heap)(hx:s.heap.get? x=some ⟨.ref C,none,.fields fs,#[]⟩)(c:JD K C ks)(hf:name∈ks)
  (h:∀h',h'.get? x=some ⟨.ref C,some s.heap.objs.size,.fields fs,#[]⟩->h'.Ns1 s.heap.objs.size (λy=>if y=name then some v else none)->(∀b o,b≠x->s.heap.get? b=some o->h'.get? b=some o)->Q () { s with heap:=h',toks:=s.toks+2 }) :
  wpAny (model prog w) A (setAttr (.ref x) name v) Q E s:=by
 have J:X6 s.heap x ⟨.ref C,none,.fields fs,#[]⟩ C none:=⟨hx,rfl,rfl,trivial⟩
 refine W.set_plain X J c.sa (Cr (s:={ s with toks:=s.toks+1 }) X J c hf λb=>?_);obtain⟨cd,hc,hd'⟩:=W.any_some c.hd;refine Uq (UL (Uq (Uq (wpAny_loadPart hx (Uq (Xp.here (s:={ s with toks:=s.toks+1 }) (Yc X hc) ?_))))));rw[hd'];have hx₁:(s.heap.push Xi).get? x=some ⟨.ref C,none,.fields fs,#[]⟩:=Ux _ hx;have hxs:x≠s.heap.objs.size:=U4 (UJ hx);have hgd:((s.heap.push Xi).update x λo=>{ o with dict:=some s.heap.objs.size }).get? s.heap.objs.size=some Xi:=(YT _ _ _ _ hxs.symm).trans (Heap.get?_push_at rfl rfl);have hnd:((s.heap.push Xi).update x λo=>{ o with dict:=some s.heap.objs.size }).Ns s.heap.objs.size (λ_=>none):=⟨_,#[],_,hgd,rfl,λe he=>absurd he (by simp),λ_=>rfl⟩
 have hx2:((s.heap.push Xi).update x λo=>{ o with dict:=some s.heap.objs.size }).get? x=some ⟨.ref C,some s.heap.objs.size,.fields fs,#[]⟩:=VJ _ hx₁ rfl;refine Uq (wpAny_alloc' (Uq (wpAny_update' hx₁ (UL ?_))));refine Uq (UL (Uq (wpAny_nsSet1 (Heap.Ns1.of_empty hnd) λh' hn' hs=>?_)));obtain⟨oD,esD,epD,hoD,hdD,hcD⟩:=hn'.count (Wi.cons name v Wi.nil);refine Uq (wpAny_lookBehind hoD (by rw[hdD];exact pastItsLine_dict (UO hcD (by rw[UI,VS,sizeLine_eq];omega))) (UL (h h' ?_ hn' λb o hb e=>?_)))
 .exact(hs.2 x hxs).trans hx2
 .exact(hs.2 b (U4 (UJ e))).trans ((YT _ _ _ _ hb).trans (Ux _ e))
theorem J1{fs:Array Value}{mA:Str->Option Value}(X:K.In s.heap)(hx:s.heap.get? x=some ⟨.ref C,some dx,.fields fs,#[]⟩)(hn:s.heap.Ns1 dx mA)(hne:dx≠x)(hw:Wi mA ns)(hsz:ns.length<=sizeLine)(c:JD K C ks)(hf:name∈ks)
  (h:∀h',h'.Ns1 dx (λy=>if y=name then some v else mA y)->WI dx s.heap h'->Q () { s with heap:=h',toks:=s.toks+2 }):wpAny (model prog w) A (setAttr (.ref x) name v) Q E s:=by
 obtain⟨od,hod,hl⟩:=oW hn;have J:X6 s.heap x ⟨.ref C,some dx,.fields fs,#[]⟩ C (some od):=⟨hx,rfl,rfl,hod⟩
 refine W.set_plain X J c.sa (Cr (s:={ s with toks:=s.toks+1 }) X J c hf λb=>?_);obtain⟨cd,hc,hd'⟩:=W.any_some c.hd;refine Uq (UL (Uq (Uq (wpAny_loadPart hx (Uq (Xp.here (s:={ s with toks:=s.toks+1 }) (Yc X hc) ?_))))));rw[hd'];refine UL (a:=some dx) (Uq (UL (Uq (wpAny_nsSet1 (s:={ s with toks:=s.toks+1 }) hn λh' hn2 hs2=>?_))));obtain⟨oD,esD,epD,hoD,hdD,hcD⟩:=hn2.count (Wi.cons name v hw);exact Uq (wpAny_lookBehind hoD (by rw[hdD];exact pastItsLine_dict (UO hcD (by rw[UI];omega))) (UL (h _ hn2 hs2)))
end
noncomputable def uZ(a C:Addr) (dc:Option Addr) (h:Heap):Prop:=∃t,h.get? a=some ⟨.ref C,dc,.fields #[.ref t,.none,.none,.none,.bool false,.none],#[]⟩
noncomputable def A7(a:Addr) (fs:List (Str×V)) (h:Heap):Prop:=∃mA,h.Ns1 a mA/\(∀f,vh (fs.lookup f) (mA f))/\Wi mA (fs.map (·.1))
theorem sR{a C:Addr}{dc:Option Addr}:∀h1 h2:Heap,uZ a C dc h1->(∀o,h1.get? a=some o->h2.get? a=some o)->uZ a C dc h2:=λ_ _ ⟨t,e⟩ k=>⟨t,k _ e⟩
theorem yK{a:Addr}{fs:List (Str×V)}:∀h1 h2:Heap,A7 a fs h1->(∀o,h1.get? a=some o->h2.get? a=some o)->A7 a fs h2:=λ_ _ ⟨m,n,r⟩ k=>⟨m,n.at k,r⟩
theorem ou{fs:List (Str×V)}{h:Heap}(x:A7 a fs h):∃o,h.get? a=some o:=let ⟨_,⟨o,_,_,e,_⟩,_⟩:=x;⟨o,e⟩
theorem qu{fs:List (Str×V)}{h:Heap}{mA:Str->Option Value}(ry:bu y u)(r:∀f,vh (fs.lookup f) (mA f))(wi:Wi mA (fs.map (·.1)))(n:h.Ns1 a (λz=>if z=f then some u else mA z)):A7 a (jL f y fs) h:=by
 refine⟨_,n,λg=>?_,λg hg=>?_⟩
 .rw[pI]
  by_cases q:g=f
  .rw[if_pos q];simp only[if_pos q];exact ry
  .rw[if_neg q];simp only[if_neg q];exact r g
 .by_cases q:g=f
  .rw[q];exact(o4 f y fs).1
  .exact(o4 f y fs).2 g (wi g λz=>hg (by simp only[if_neg q];exact z))
section
variable {X:Cx}{o value:Expr}{f:Str}{pos pos':Pos}{ta tv:TE}
noncomputable def T9(K:Up) (ta tv:TE) (f:Str):TS:=λD σ H=>tv σ H λy H1=>ta σ H1 λx H2=>∃a C dx l ks,x=.ref a/\H2 a=some (.ext (uZ a C (some dx)))/\H2 dx=some (.ext (A7 dx l))/\dx≠a/\JD K C ks/\f∈ks/\l.length<1000/\D.nx σ (upd H2 dx (.ext (A7 dx (jL f y l))))
noncomputable def Ua(K:Up) (ta tv:TE) (f:Str):TS:=λD σ H=>tv σ H λy H1=>ta σ H1 λx H2=>∃a C ks,x=.ref a/\H2 a=some (.ext (uZ a C none))/\JD K C ks/\f∈ks/\∀dx,H2 dx=none->D.nx σ (upd (upd H2 a (.ext (uZ a C (some dx)))) dx (.ext (A7 dx [(f,y)])))
theorem Qe(ha:PE X o ta)(hv:PE X value tv)(hs:swapsWith value (some (.Attribute o f pos')) pos.line X.env=pure false):PS X (.Assign [.Attribute o f pos'] value pos) (T9 X.K ta tv f):=by
 intro pins s σ H D I h;refine plainObj_wpAny_Assign_Attribute (cj (hv pins s σ H _ I h) λu s1 ⟨y,H1,I1,ry,q⟩=>cj (ha pins s1 σ H1 _ I1 q) λov s2 z9=>?_) hs;obtain⟨x,H2,I2,rx,a,C,dx,l,ks,ex,ea,ed,hne,c,hf,hl,q2⟩:=z9;subst ex;obtain rfl:ov=UZ a:=rx;obtain⟨⟨t,hx⟩,_,_⟩:=(show bN X.prog X.w H2 s2.heap a (.ext _) from I2.hok a _ ea)
 obtain⟨⟨mA,n,r,wi⟩,_,_⟩:=(show bN X.prog X.w H2 s2.heap dx (.ext _) from I2.hok dx _ ed)
 refine J1 I2.kIn hx n hne wi (by rw[Ur,sizeLine_eq];omega) c hf λh' n' sb=>⟨σ,_,I2.write (o:=.ext (A7 dx (jL f y l))) (x:=dx) (e:=dx) (by rw[ed];exact VN) (.inl rfl) (λb q hb z=>(sb.2 b hb).trans z) (ou (qu ry r wi n')) ⟨qu ry r wi n',ou (qu ry r wi n'),yK⟩,q2⟩
theorem Qf(ha:PE X o ta)(hv:PE X value tv)(hs:swapsWith value (some (.Attribute o f pos')) pos.line X.env=pure false):PS X (.Assign [.Attribute o f pos'] value pos) (Ua X.K ta tv f):=by
 intro pins s σ H D I h;refine plainObj_wpAny_Assign_Attribute (cj (hv pins s σ H _ I h) λu s1 ⟨y,H1,I1,ry,q⟩=>cj (ha pins s1 σ H1 _ I1 q) λov s2 z9=>?_) hs;obtain⟨x,H2,I2,rx,a,C,ks,ex,ea,c,hf,q2⟩:=z9;subst ex;obtain rfl:ov=UZ a:=rx;obtain⟨⟨t,hx⟩,_,_⟩:=(show bN X.prog X.w H2 s2.heap a (.ext _) from I2.hok a _ ea)
 have fr:H2 s2.heap.objs.size=none:=I2.hok.fresh (UB _);have hne:s2.heap.objs.size≠a:=λz=>Wr _ (z▸UJ hx);refine J2 I2.kIn hx c hf λh' e' n' k'=>⟨σ,_,?_,q2 s2.heap.objs.size fr⟩
 have p:A7 s2.heap.objs.size [(f,y)] h':=qu (fs:=[]) (mA:=λ_=>none) ry (λ_=>VN) (λ_ z=>absurd rfl z) n';have mu:OZ (H2 a):=by rw[ea];exact VN
 have fr':(upd H2 a (.ext (uZ a C (some s2.heap.objs.size)))) s2.heap.objs.size=none:=by rw[aq hne];exact fr
 exact I2.un (Un.ext (Un.write mu (.inl rfl) (λb q hb z=>k' b q hb z) ⟨_,e'⟩) fr' (WO (UB _))) (fP.ext (I2.hok.write (o':=.ext (uZ a C (some s2.heap.objs.size))) mu (.inl rfl) (λb q hb z=>k' b q hb z) ⟨_,e'⟩ ⟨⟨t,e'⟩,⟨_,e'⟩,sR⟩) fr' p (ou p) yK)
end
noncomputable def Px(is:List Nat):TA:=λσ H Q=>∃vs,is.map (λi=>σ[i]?)=vs.map (λv=>some (some v))/\Q vs H
structure PV (X:Cx) (es:List Expr) (is:List Nat):Prop where
 o:PA X es (Px is)
section
variable {X:Cx}
theorem NI:PV X [] []:=⟨λpos pins s σ H Q I ⟨vs,e,h⟩=>by
 cases vs with
 |nil=>exact eY pos pins s σ H Q I h
 |cons v vs=>simp at e⟩
theorem xh(hN:X.N[i]?=some y)(hv:AZ X.env.scope y)(h:PV X es is)(hd:(y==("__debug__":Str))=false:=by decide)(hcd:(y==("__classdict__":Str))=false:=by decide):PV X (.Name y p::es) (i::is) :=
 ⟨λpos pins s σ H Q I ⟨vs,e,q⟩=>by
  cases vs with
  |nil=>simp at e
  |cons v vs =>
   simp only[UG,X2] at e;exact cH (fR hN hv hd hcd) h.o (aQ rfl) pos pins s σ H Q I ⟨v,e.1,vs,e.2,q⟩⟩
structure JG (K:Up) (CE:Addr):Prop where
 rd:W.readsIn K CE (.type "type")=true
 fc:W.findCls K (.ref CE) (.type "type") "__init__"=some (.val (.builtin "ValueError.__init__"))
 sp:XS K (.ref CE) "__getattribute__"=some (some (.builtin "type.__getattribute__"))
structure M1 (K:Up) (C fn:Addr):Prop where
 ex:∃CE nm q N bs hdct sn sub ab col dd k0 k1 k2 k3 k5,K.lookup C=some (excClassObj nm q C N bs [.ref CE,.type "ValueError",.type "Exception",.type "BaseException",.type "object"] hdct sn sub ab col dd k0 k1 k2 k3 k5 "ValueError.__new__")/\W.nsOkIn K N=true/\Vk K N "__init__"=some (some (.ref fn)) /\
  Xo K CE [.type "ValueError",.type "Exception",.type "BaseException",.type "object"] "ValueError.__new__"=true
theorem K7{K:Up}{h:Heap}(X:K.In h)(G:h.Ns N mg)(e:Vk K N n=some (some v)):mg n=some v:=by
 obtain⟨o,es,ep,ho,hd,_,hf⟩:=G;unfold Vk at e;split at e
 .rename_i c d es' n' sl q
  have:=X _ _ q;rw[ho] at this;cases this;cases hd;split at e
  .rename_i en he
   rw[←hf];unfold nsFind findBy;rw[←Array.find?_toList,he];simpa using e
  .split at e<;>cases e
 .cases e
structure SU (h:Heap) (C fn:Addr):Prop where
 ex:∃bm N nm q bs hdct sn sub ab col dd k0 k1 k2 k3 k5 mN,h.get? C=some (excClassObj nm q C N bs bm hdct sn sub ab col dd k0 k1 k2 k3 k5 "ValueError.__new__")/\h.Ns N mN/\mN "__init__"=some (.ref fn)/\OwnTail h [.type "ValueError",.type "Exception",.type "BaseException",.type "object"] bm
theorem GF{K:Up}{CE:Addr}{h:Heap}(X:K.In h)(q:Xo K CE [.type "ValueError",.type "Exception",.type "BaseException",.type "object"] "ValueError.__new__"=true):OwnTail h [.type "ValueError",.type "Exception",.type "BaseException",.type "object"] [.ref CE,.type "ValueError",.type "Exception",.type "BaseException",.type "object"]:=by
 unfold Xo at q;split at q
 .rename_i dd cd sl ho
  split at q
  .simp only[UU,beq_iff_eq,Bool.not_eq_true'] at q
   obtain⟨⟨⟨⟨_,_⟩,_⟩,hok⟩,hni⟩:=q;exact .own (X _ _ ho) (.of_isNs (XD X hok)) (W.nsMap_none_of_in X hok hni) .base
  .cases q
 .cases q
theorem Cq{K:Up}{h:Heap}(X:K.In h)(q:M1 K C fn):SU h C fn:=by
 obtain⟨CE,nm,qn,N,bs,hdct,sn,sub,ab,col,dd,k0,k1,k2,k3,k5,ho,hok,hi,he⟩:=q.ex;exact⟨_,N,nm,qn,bs,hdct,sn,sub,ab,col,dd,k0,k1,k2,k3,k5,_,X _ _ ho,.of_isNs (XD X hok),K7 X (.of_isNs (XD X hok)) hi,GF X he⟩
noncomputable def T8(K:Up) (t:TA):TE:=λσ H Q=>t σ H λvs H1=>∃a C rest fn,vs=.ref a::rest/\rest.length<=line/\H1 a=some (.ext (uZ a C none))/\M1 K C fn/\Q .non (upd H1 a (.ext (uZ a C none)))
theorem Qk{CE:Addr}{pl:Sem Bool}(b:JG X.K CE)(hg:Gl X ce)(hm:X.mg ce=some (.ref CE))(ha:PA X (e::es) t)(hdb:(ce==("__debug__":Str))=false:=by decide)
  (he:starEach (e::es) X.env=(false,eval e X.env)::starEach es X.env:=by exact aQ rfl)(hpl:(backTo cpos (starEach es X.env)).any (·.1)=false:=by exact bB rfl)
  (ht:eval (.Call (.Attribute (.Name ce np) "__init__" apos) (e::es) [] cpos) X.env=(do
   let ov ←eval (.Name ce np) X.env
   standAt apos.atName
   let (f,first) ←holding [ov] (getMethod ov "__init__" pl)
   callWith cpos f first (backTo cpos (starEach (e::es) X.env)) (backToKw cpos (keywordEach [] X.env))):=by rfl) :
  PE X (.Call (.Attribute (.Name ce np) "__init__" apos) (e::es) [] cpos) (T8 X.K t):=by
 intro pins s σ H Q I h;refine W.methodCall_KW (pl:=pl) (jh I hg hm (W.method_cls I.kIn b.sp (W.cls_value I.kIn b.rd b.fc rfl ?_)) hdb) ht;have I0:=I.tok (s.toks+1);have hA:=ha cpos pins _ σ H _ I0 h;rw[he] at hA ⊢;refine YB (by show(false||(backTo cpos (starEach es X.env)).any (·.1))=false;rw[hpl];rfl) (WQ (cj hA λus s1 ⟨vs,H1,I1,r,a,C,rest,fn,ev,hl,ea,hx,q⟩=>?_));subst ev;obtain⟨_,us',rfl,ra,r'⟩:∃u us',us=u::us'/\bu (.ref a) u/\bH rest us':=by cases r with|cons r1 r2=>exact⟨_,_,rfl,r1,r2⟩
 obtain rfl:_=UZ a:=ra;obtain⟨bm,N,nm,qn,bs,hdct,sn,sub,ab,col,dd,k0,k1,k2,k3,k5,mN,hC,hn,hi,T⟩:=(Cq I1.kIn hx).ex;obtain⟨⟨t0,hae⟩,_,_⟩:=(show bN X.prog X.w H1 s1.heap a (.ext _) from I1.hok a _ ea)
 have F:=VX;have hz:us'.length<=sizeLine:=by rw[←r'.length];exact cF hl
 obtain⟨hp,g,d,tk,os⟩:=s1;refine wpAny_call (codeAny_call_builtin F.init.plain F.initEntry (wpAny_check_init_subT F T hC hae rfl ?_))
 wp_walk
 have mu:OZ (H1 a):=by rw[ea];exact VN
 have hne:a≠hp.objs.size:=U4 (UJ hae);refine⟨.non,upd H1 a (.ext (uZ a C none)),I1.write (o:=.ext (uZ a C none)) (x:=a) (e:=a) mu (.inl rfl) (λb u hb e=>(VF _ _ (U5 hb)).trans (Ux _ e)) ⟨_,VJ _ (Ux _ hae) rfl⟩ ⟨⟨hp.objs.size,?_⟩,⟨_,VJ _ (Ux _ hae) rfl⟩,sR⟩,rfl,q⟩;rw[VJ _ (Ux _ hae) rfl];rfl
end
section
variable {X:Cx}
noncomputable def TV(K:Up) (fs:List Str) (is:List Nat):TS:=λD σ H=>∃a C dx l ks vs,σ[0]?=some (some (V.ref a))/\H a=some (.ext (uZ a C (some dx)))/\H dx=some (.ext (A7 dx l))/\dx≠a/\JD K C ks/\(∀f∈fs,f∈ks)/\l.length+fs.length<1000/\fs.length=vs.length /\
 is.map (λi=>σ[i]?)=vs.map (λv=>some (some v))/\D.nx σ (upd H dx (.ext (A7 dx (putAll fs vs l))))
structure XR (X:Cx) (sts:List Stmt) (fs:List Str) (is:List Nat):Prop where
 o:wJ X sts (TV X.K fs is)
theorem M9:XR X [] [] []:=⟨dW qw λD σ H z9=>by
 obtain⟨a,C,dx,l,ks,vs,h1,h2,h3,h4,h5,h6,h7,h8,h9,q⟩:=z9;cases vs with
 |nil=>unfold putAll at q;rw[yS h3] at q;exact q
 |cons v vs=>simp at h8⟩
theorem JZ{fs:List Str}(hN:X.N[i]?=some y)(hN0:X.N[0]?=some x)(hv:AZ X.env.scope y)(hv0:AZ X.env.scope x)(h:XR X sts fs is)
  (hd:(y==("__debug__":Str))=false:=by decide)(hcd:(y==("__classdict__":Str))=false:=by decide)(hd0:(x==("__debug__":Str))=false:=by decide)(hcd0:(x==("__classdict__":Str))=false:=by decide)
  (hs:swapsWith (.Name y p3) (some (.Attribute (.Name x p1) f p2)) pos.line X.env=pure false:=by rfl):XR X (.Assign [.Attribute (.Name x p1) f p2] (.Name y p3) pos::sts) (f::fs) (i::is):=by
 refine⟨dW (fF (Qe (fR hN0 hv0 hd0 hcd0) (fR hN hv hd hcd) hs) h.o) λD σ H z9=>?_⟩;obtain⟨a,C,dx,l,ks,vs,h1,h2,h3,h4,h5,h6,h7,h8,h9,q⟩:=z9;cases vs with
 |nil=>simp at h8
 |cons v vs =>
  simp only[UG,X2] at h9;simp only[UI] at h7 h8;refine⟨v,h9.1,.ref a,h1,a,C,dx,l,ks,rfl,h2,h3,h4,h5,h6 f UM,by omega,a,C,dx,_,ks,vs,h1,?_,aw,h4,h5,λg hg=>h6 g (Uu _ hg),?_,by omega,h9.2,?_⟩
  .rw[aq h4.symm];exact h2
  .have:=zj (f:=f) (v:=v) (l:=l);omega
  .rw[oy];exact q
noncomputable def TX(K:Up) (ks:List Str) (is:List Nat):TS:=λD σ H=>∃a C fn vs,σ[0]?=some (some (V.ref a))/\H a=some (.ext (uZ a C none))/\JD K C ks/\M1 K C fn/\ks.length=vs.length/\ks.length<=60 /\
 is.map (λi=>σ[i]?)=vs.map (λv=>some (some v))/\∀dx,H dx=none->D.nx σ (upd (upd H a (.ext (uZ a C (some dx)))) dx (.ext (A7 dx (putAll ks vs []))))
structure XB (X:Cx) (sts:List Stmt) (ks:List Str) (is:List Nat):Prop where
 o:wJ X sts (TX X.K ks is)
theorem Pq{fs:List Str}{CE:Addr}{pl:Sem Bool}(b:JG X.K CE)(hg:Gl X ce)(hm:X.mg ce=some (.ref CE))(hpv:PV X es (i::is))(hN:X.N[i]?=some y)(hN0:X.N[0]?=some x)(hv:AZ X.env.scope y)(hv0:AZ X.env.scope x)(h:XR X sts fs is)
  (hd:(y==("__debug__":Str))=false:=by decide)(hcd:(y==("__classdict__":Str))=false:=by decide)(hd0:(x==("__debug__":Str))=false:=by decide)(hcd0:(x==("__classdict__":Str))=false:=by decide)(hdb:(ce==("__debug__":Str))=false:=by decide)
  (hs:swapsWith (.Name y p3) (some (.Attribute (.Name x p1) f p2)) pos.line X.env=pure false:=by rfl)(hs0:swapsWith (.Call (.Attribute (.Name ce np) "__init__" apos) (.Name x sp0::es) [] cpos) none spos.line X.env=pure false:=by rfl)(hpl:(backTo cpos (starEach es X.env)).any (·.1)=false:=by exact bB rfl)
  (ht:eval (.Call (.Attribute (.Name ce np) "__init__" apos) (.Name x sp0::es) [] cpos) X.env=(do
   let ov ←eval (.Name ce np) X.env
   standAt apos.atName
   let (f,first) ←holding [ov] (getMethod ov "__init__" pl)
   callWith cpos f first (backTo cpos (starEach (.Name x sp0::es) X.env)) (backToKw cpos (keywordEach [] X.env))):=by rfl) :
  XB X (.Expr (.Call (.Attribute (.Name ce np) "__init__" apos) (.Name x sp0::es) [] cpos) spos::.Assign [.Attribute (.Name x p1) f p2] (.Name y p3) pos::sts) (f::fs) (i::is):=by
 refine⟨dW (fF (qz (Qk b hg hm (xh (p:=sp0) hN0 hv0 hpv hd0 hcd0).o hdb (aQ rfl) hpl ht) hs0) (fF (Qf (fR hN0 hv0 hd0 hcd0) (fR hN hv hd hcd) hs) h.o)) λD σ H ⟨a,C,fn,vs,h1,h2,h3,h4,h5,h6,h7,q⟩=>?_⟩;refine⟨.ref a::vs,(show σ[0]?::(i::is).map (λi=>σ[i]?)=some (some (V.ref a))::vs.map (λv=>some (some v)) by rw[h1,h7]),a,C,vs,fn,rfl,?_,h2,h4,?_⟩
 .have:vs.length<=60:=by omega
  exact UO this (by decide)
 .cases vs with
  |nil=>simp at h5
  |cons v vs =>
   simp only[UG,X2] at h7;simp only[UI] at h5 h6;rw[yS h2];refine⟨v,h7.1,.ref a,h1,a,C,f::fs,rfl,h2,h3,UM,λdx hdx=>?_⟩;have hne:dx≠a:=λz=>by subst z;rw[h2] at hdx;cases hdx
   refine⟨a,C,dx,[(f,v)],f::fs,vs,h1,?_,aw,hne,h3,λg hg=>Uu _ hg,?_,by omega,h7.2,?_⟩
   .rw[aq hne.symm,aw]
   .simp only[UI,VS];omega
   .rw[oy]
    have:=q dx hdx;unfold putAll at this;exact this
end
noncomputable def Kt(K:Up) (ks:List Str):Sp:=λvs H Q _=>∃a C fn args,vs=.ref a::args/\args.length=ks.length/\H a=some (.ext (uZ a C none))/\JD K C ks/\M1 K C fn/\∀dx,H dx=none->Q .non (upd (upd H a (.ext (uZ a C (some dx)))) dx (.ext (A7 dx (putAll ks args []))))
theorem QZ{K:Up}{st:Stmt}{ps:List Str}(F:Gh K x qual st f fd)(S:d8 ps ps (defScope st))(hps:ps.length=ks.length+1)(hf:ks.length<=60)
  (hbody:∀(cdv:Value) (A:Around) (outer:List Vu) (s0:Shared) (H:Hp) (E:XK),XB (di CX0 P w K mg base ps qual (defScope st) f cdv A outer s0 H E).nox (defBody st) ks ((VO ks.length).map (· + 1))):fN P w K mg base CX0 1 f fd ps (Kt K ks):=by
 refine F.ok S (λvs H Q E h=>?_) λcdv A outer s0 H vs Q E hr h=>?_
 .obtain⟨a,C,fn,args,rfl,hl,_⟩:=h
  simp [hl,hps]
 .obtain⟨a,C,fn,args,rfl,hl,hH,hC,hn,q⟩:=h
  refine⟨_,(hbody cdv A outer s0 H E).o,a,C,fn,args,?_,hH,hC,hn,hl.symm,hf,?_,q⟩
  .unfold L2.start;simp
  .unfold L2.start
   apply List.ext_getElem?;intro i;simp only[UD,V2]
   by_cases hi:i<ks.length
   .have hia:i<args.length:=by omega
    simp [hi,hia,UH,U9]
   .have hia:¬i<args.length:=by omega
    simp [hi,hia]
section
variable {prog:Program}{w:World}{A:Around}{E:Value->Shared->Prop}{s:Shared}{env:Vu}
variable {nm q:Str}{C N:Addr}{bs bm bmB:List Value}{hdct:Bool}{sn:List Str}{sub:List Value}{ab:Bool}{col:Option Bool}{dd:Option Addr}{k0 k1 k2 k3 k5:Option Value}{B newId initId:String}{mN:Str->Option Value}{fI:Addr}{oI:Obj}
theorem Gr(F:ExcBaseFacts B newId initId bmB)(hbase:bm.contains (.type "BaseException")=true)(hh:A.handled=none)(hplain:(backTo cpos (starEach args env)).any (·.1)=false)(hi:mN "__init__"=some (.ref fI))
  (h:wpAny (model prog w) A (eval (.Name x np) env) (λf sg=>f=.ref C/\wpAny (model prog w) A (evalArgs (.ref C) true (backTo cpos (starEach args env)) []) (λa si=>a.kw=[]/\a.pos.length<=sizeLine/\si.heap.get? C=some (excClassObj nm q C N bs bm hdct sn sub ab col dd k0 k1 k2 k3 k5 newId)/\si.heap.Ns N mN/\OwnTail si.heap bmB bm/\si.heap.get? fI=some oI/\oI.cls=.type "function" /\
    ∀h' e,Xk si.heap h' e (.ref C) a.pos->wpAny (model prog w) (A.under (.builtin "type.__call__" ⟨.ref C::a.pos,[]⟩)) (call (.ref fI) (.ref e::a.pos)) (λr s'=>r=.none/\s'.heap.get? C=some (excClassObj nm q C N bs bm hdct sn sub ab col dd k0 k1 k2 k3 k5 newId)/\(∃dc t,s'.heap.get? e=some ⟨.ref C,dc,.fields #[.ref t,.none,.none,.none,.bool false,.none],#[]⟩)/\E (.ref e) s') E { si with heap:=h' }) E sg) E s) :
  wpAny (model prog w) A (exec (.Raise (some (.Call (.Name x np) args [] cpos)) none pos) env) Q E s:=by
 rw[arm_exec_Raise];refine Uq (wpAny_standAt (Gq (C:=C) (nm:=nm) (q:=q) (N:=N) (bs:=bs) (bm:=bm) (hdct:=hdct) (sn:=sn) (sub:=sub) (ab:=ab) (col:=col) (dd:=dd) (k0:=k0) (k1:=k1) (k2:=k2) (k3:=k3) (k5:=k5) (newId:=newId) hbase hh (Uq (Vh (wpAny_Call_ofName (Vh h (λf sg hG=>?_) λ_ _ x=>x)) (λv sj hV=>Uq (wpAny_standAt (UL hV))) λ_ _ x=>x))));obtain⟨rfl,hG⟩:=hG;unfold callWith;refine Uq (VD (Vh hG (λ⟨apos,akw⟩ si ⟨hkw,hlen,hC,hn,T,hf,hfc,hU⟩=>Uq (wpAny_standAt ?_)) λ_ _ x=>x));obtain rfl:akw=[]:=hkw;obtain⟨hp,g,d,tk,os⟩:=si;simp only[hplain];refine Uq (wpAny_keeperOf_exc hC (Uq (J3 F T hC hn hi hf hfc hlen λh' e hm=>Vh (hU h' e hm) (λr s' hr=>?_) λ_ _ z=>z)));obtain⟨rfl,hC',⟨dc,t,he⟩,hE⟩:=hr;exact⟨rfl,Uq (VD (wpAny_point (UL ⟨e,dc,t,rfl,hC',he,hE⟩)))⟩
end
structure JE (K:Up) (x:Str) (C:Addr):Prop where
 i:jN K x C
 cls:VQ K (.ref C) "__class__"=some (some (.builtin "object.__class__"))
 ga:VQ K (.ref C) "__getattribute__"=some (some (.builtin "BaseException.__getattribute__"))
 gt:VQ K (.ref C) "__getattr__"=some none
 t1:U0 K (.ref C) (.type "NoneType")=some false
 t2:U0 K (.ref C) (.type "bool")=some false
 t3:U0 K (.ref C) (.type "int")=some false
 t4:U0 K (.ref C) (.type "str")=some false
 t5:U0 K (.ref C) (.type "tuple")=some false
 t6:U0 K (.ref C) (.type "list")=some false
 t7:U0 K (.ref C) (.type "dict")=some false
 ve:U0 K (.ref C) (.type "ValueError")=some true
 self:U0 K (.ref C) (.ref C)=some true
theorem JE.xc{K:Up}(Z:JE K x C):XC K x C :=
 ⟨Z.i.ns,⟨Z.cls,Z.ga,Z.gt,Z.i.ob,Z.i.be⟩,λT hT=>by
  refine xP (pP T hT) ?_;simp only[f9,Uv,US,or_false] at hT;rcases hT with rfl|rfl|rfl|rfl|rfl|rfl|rfl
  all_goals first|exact Z.t1|exact Z.t2|exact Z.t3|exact Z.t4|exact Z.t5|exact Z.t6|exact Z.t7⟩
theorem M8{K:Up}(z:M1 K C fn)(sa:VQ K (.ref C) "__setattr__"=some (some (.builtin "object.__setattr__")))(hd:WC K C=true)(no:∀f∈ks,iE K C f):JD K C ks:=by
 obtain⟨CE,nm,qn,N,bs,hdct,sn,sub,ab,col,dd,k0,k1,k2,k3,k5,ho,_⟩:=z.ex;refine⟨sa,hd,?_,no⟩;unfold W.clsIn;rw[ho];rfl
section
variable {P:Program}{w:World}{K:Up}{mg:Str->Option Value}{base:Heap}{N:List Str}{qual:Str}{scope:Scope}{f:Addr}{cd:Value}{A:Around}{outer:List Vu}{s0:Shared}{H0:Hp}{E:XK}{He H0e:Hp}
theorem Il{h:Heap}(ok:fP P w (upd (upd H e o1) dx o2) h)(he:H e=none)(hd:H dx=none)(n1:∀b,o1≠.own b)(n2:∀b,o2≠.own b)(m1:∀b,o1≠.tup b)(m2:∀b,o2≠.tup b):fP P w H h:=λa o q=>by
 have a1:a≠e:=λz=>by subst z;rw[he] at q;cases q
 have a2:a≠dx:=λz=>by subst z;rw[hd] at q;cases q
 refine(ok a o (by rw[aq a2,aq a1];exact q)).stay (λb u _ z=>z) (λb z=>?_) λb xs z=>?_
 .by_cases b2:b=dx
  .subst b2;rw[aw] at z;exact absurd (U8 z) (n2 _)
  .rw[aq b2] at z
   by_cases b1:b=e
   .subst b1;rw[aw] at z;exact absurd (U8 z) (n1 _)
   .rw[aq b1] at z;exact z
 .by_cases b2:b=dx
  .subst b2;rw[aw] at z;exact absurd (U8 z) (m2 _)
  .rw[aq b2] at z
   by_cases b1:b=e
   .subst b1;rw[aw] at z;exact absurd (U8 z) (m1 _)
   .rw[aq b1] at z;exact z
theorem F8{fs:List Addr}{h h2:Heap}(u:Un fs [] H H2 h h2):Un fs [] H H h h2:=⟨u.keep,u.slot,λ_ _ _ n _=>n,u.there,λ_ _ q=>q,λ_ _ _ q=>q,λ_ ps q=>⟨#[],by rw[q];simp⟩⟩
end
noncomputable def MA(e:DictEntry):Bool:=match e.key with
 |.str _ _=>true
 |_=>false
theorem Gp{K:Up}{C CE fn N:Addr}{nm q:Str}{bs sub:List Value}{k0 k1 k2 k3 k5:Option Value}{st:Array (Option Value)}
  (xl:K.lookup C=some (excClassObj nm q C N bs [.ref CE,.type "ValueError",.type "Exception",.type "BaseException",.type "object"] hdct sn sub ab col dd k0 k1 k2 k3 k5 "ValueError.__new__"))(xn:K.lookup N=some ⟨cn,dn,.dict es ep,st⟩)(xk:es.toList.all MA=true)(xv:Vk K N "__init__"=some (some (.ref fn)))
  (xb:Xo K CE [.type "ValueError",.type "Exception",.type "BaseException",.type "object"] "ValueError.__new__"=true):M1 K C fn:=by
 refine⟨CE,nm,q,N,bs,hdct,sn,sub,ab,col,dd,k0,k1,k2,k3,k5,xl,?_,xv,xb⟩;unfold W.nsOkIn;rw[xn];rw[Array.all_toList] at xk;exact xk
noncomputable def Uh(x:D):ai D:=match x with
 |.lst ds=>.ok (.lst ds.reverse)
 |_=>.stuck
section
variable {X:Cx}{E:XK}{e a st:Expr}{f:Ev->ai D}{te:TE}{pos p2:Pos}
end
noncomputable def qo(f:Ev->ai D) (lo hi:Ev->ai (Option Int)):Ev->ai D:=λρ=>(f ρ).bind λx=>(lo ρ).bind λl=>(hi ρ).bind λh=>match x with
 |.lst ds=>.ok (.lst (jr ds l h))
 |_=>.stuck
section
variable {X:Cx}{E:XK}{a:Expr}{f:Ev->ai D}{pos p2:Pos}
theorem AN{lo hi:Option Expr}(ha:DE X E a f)(hl:DO X E lo fl)(hh:DO X E hi fh):DF X E (.Subscript a (.Slice lo hi none p2) pos) (qo f fl fh):=by
 refine⟨aX (zo CA ha.o hl.o hh.o) λσ H Q ⟨Ha,ρ,hs,hr,q⟩=>⟨Ha,ρ,hs,hr,?_⟩⟩;unfold qo at q;cases e1:f ρ with
 |stuck|exn x=>rw[e1] at q;exact q
 |ok x =>
  rw[e1] at q;intro v H1 H01 g1 r1;refine⟨H01,ρ,g1.sub,hr.mono g1.z,?_⟩;simp only[ai.bind] at q;cases e2:fl ρ with
  |stuck=>rw[e2] at q;exact q|exn x=>rw[e2] at q;exact λC ox H' Ha' g' ex=>q C ox H' Ha' (g1.trans g') ex
  |ok l =>
   rw[e2] at q;intro H2 H02 g2;refine⟨H02,ρ,g2.sub,(hr.mono g1.z).mono g2.z,?_⟩;simp only[ai.bind] at q;cases e3:fh ρ with
   |stuck=>rw[e3] at q;exact q|exn x=>rw[e3] at q;exact λC ox H' Ha' g' ex=>q C ox H' Ha' ((g1.trans g2).trans g') ex
   |ok h =>
    rw[e3] at q;intro H3 H03 g3;simp only[ai.bind] at q;have g:=(g1.trans g2).trans g3;cases x with
    |lst ds =>
     simp only at q;obtain⟨b,vs,rfl,h1,h2⟩:=aH.mp ((r1.mono g2.z).mono g3.z);refine⟨b,vs,rfl,aB.sqL g3.sub h1,λp hp=>?_⟩;have h0:H03 p=none:=g3.sub.free hp;refine q p _ _ H03 (g.trans ⟨λb o q=>by rw[aq (aY q hp)];exact q,aB.refl _,λb o q=>?_,λa h1 h2=>absurd h2 h1⟩) (g.s.free hp) h0 aw (h2.cut l h);rw[aq (by intro z;subst z;rw[h0] at q;cases q)];exact g3.sub _ _ q
    |_=>exact q.elim
end
noncomputable def LR(x y:D):ai D:=match x,y with
 |.dic [] [],.dic [] []=>.ok (.bl false)
 |x,y=>ll x y
noncomputable def Kx(K:Up):R2:=λv u H Q=>NG K v u H Q∨∃a b,v=.ref a/\u=.ref b/\Rd H a (.dK [])/\Rd H b (.dK [])/\Q (.bl false) H
theorem NY(hu:X.A.units+64<cLine):eh X (compareOp .NotEq) (Kx X.K):=eh.or (jb hu) (by
 intro pins s σ H x y v u Q I rx ry h;obtain⟨a,b,rfl,rfl,ha,hb,q⟩:=h;cases rx;cases ry;obtain⟨_,n1,vs,k1,d1⟩:=(show bN X.prog X.w H s.heap a (.dK []) from ha.ok I.hok)
 obtain⟨_,n2,us,k2,d2⟩:=(show bN X.prog X.w H s.heap b (.dK []) from hb.ok I.hok)
 obtain rfl:vs=[]:=by cases k1;rfl
 obtain rfl:us=[]:=by cases k2;rfl
 exact W.keq_ne n1 n2 d1 d2 (by omega) (λ_=>.nil) ⟨.bl false,H,I,rfl,q⟩)
theorem N1{X:Cx}:qT X.K E (Kx X.K) LR:=by
 intro x y v u H Ha Q hs r1 r2 q;have old:post X.K E H Ha (ll x y) Q->Kx X.K v u H Q:=λq=>.inl (mz x y v u H Ha Q hs r1 r2 q);unfold LR at q;split at q
 .have e1:∃a,v=.ref a/\Rd Ha a (.dK []):=by
   rw[Rep] at r1;obtain⟨a,kvs,vs,h1,h2,h3,h4,h5⟩:=r1;have:kvs=[]:=by rw[h3];rfl
   subst this;exact⟨a,h1,h2⟩
  have e2:∃a,u=.ref a/\Rd Ha a (.dK []):=by
   rw[Rep] at r2;obtain⟨a,kvs,vs,h1,h2,h3,h4,h5⟩:=r2;have:kvs=[]:=by rw[h3];rfl
   subst this;exact⟨a,h1,h2⟩
  obtain⟨a,ea,ha⟩:=e1;obtain⟨b,eb,hb⟩:=e2;exact .inr ⟨a,b,ea,eb,aB.rd hs ha,aB.rd hs hb,bj hs q (aL.mpr rfl)⟩
 .exact old q
section
variable {X:Cx}{E:XK}{a b o:Expr}{f g fo:Ev->ai D}{pos:Pos}
end
noncomputable def d5(x:Str) (ks:List Str) (fa:Ev->ai (List D)):Ev->ai Fl:=λρ=>(fa (eR ρ)).bind λds=>if ds.length=ks.length then .exn ⟨x,ks.zip ds⟩ else .stuck
theorem yC{K:Up}{H:Hp}:∀{ks:List Str}{ds:List D}{vs:List V}{n:Str}{d:D},Reps K H ds vs->(ks.zip ds).lookup n=some d->∃v,(ks.zip vs).lookup n=some v/\Rep K H d v
 |[],ds,vs,n,d,r,h=>by rw[List.zip_nil_left] at h;cases h
 |k::ks,[],vs,n,d,r,h=>by rw[List.zip_nil_right] at h;cases h
 |k::ks,e::ds,vs,n,d,r,h=>by
  obtain⟨v,vs',rfl,r1,r2⟩:=aJ.mp r;rw[Vx,VB] at h;rw[Vx];cases q:n==k with
  |true=>rw[q] at h;cases h;exact⟨v,by rw[VB,q],r1⟩
  |false =>
   rw[q] at h;obtain⟨u,h1,h2⟩:=yC r2 h;exact⟨u,by rw[VB,q];exact h1,h2⟩
theorem fP.xd(ok:fP P w H g){fs:List (Str×V)}(hn:H a=none)(p:A7 a fs g):fP P w (upd H a (.xd fs)) g:=λb u e=>by
 by_cases hb:b=a
 .subst hb;rw[aw] at e;cases e;obtain⟨m,n,r,_⟩:=p;exact⟨m,n,r⟩
 .rw[aq hb] at e
  exact(ok b u e).stay (λc v _ q=>q) (λc q=>by rw[aq (aY q hn)];exact q) λc xs q=>by rw[aq (aY q hn)];exact q
section
variable {P:Program}{w:World}{K:Up}{mg:Str->Option Value}{base:Heap}{N:List Str}{qual:Str}{scope:Scope}{f:Addr}{cd:Value}{A:Around}{outer:List Vu}{s0:Shared}{H0:Hp}{E:XK}{He H0e:Hp}
theorem fg{k:Nat}{ps ks:List Str}(xc:XC K x C)(z:M1 K C fn)(st:JD K C ks)(hfn:W.isFn K (.ref fn)=true)(F:fN P w K mg base CX0 k fn fd ps (Kt K ks))(hb:ik K fd ps [])(hks:ks.length<=60)(hnd:ks.Nodup)(hr:cE (k+1) (di (gi P w) P w K mg base N qual scope f cd A outer s0 H0 E).A)(hm:mg x=some (.ref C))(hh:A.handled=none)
  (hg:Gl (di (gi P w) P w K mg base N qual scope f cd A outer s0 H0 E) x)(ha:DA (di (gi P w) P w K mg base N qual scope f cd A outer s0 H0 E) E (e::es) fa)
  (hdb:(x==("__debug__":Str))=false:=by decide)(he:starEach (e::es) (di (gi P w) P w K mg base N qual scope f cd A outer s0 H0 E).env=(false,eval e (di (gi P w) P w K mg base N qual scope f cd A outer s0 H0 E).env)::starEach es (di (gi P w) P w K mg base N qual scope f cd A outer s0 H0 E).env:=by exact aQ rfl)
  (hpl:(backTo cpos (starEach es (di (gi P w) P w K mg base N qual scope f cd A outer s0 H0 E).env)).any (·.1)=false:=by exact bB rfl) :
  DS (di (gi P w) P w K mg base N qual scope f cd A outer s0 H0 E) E He H0e (.Raise (some (.Call (.Name x np) (e::es) [] cpos)) none pos) (d5 x ks fa):=by
 refine⟨?_⟩;intro pins s σ H D I ⟨Ha,ρ,hr',q⟩;obtain⟨bm,Nn,nm,qn,bs,hdct,sn,sub,ab,col,dd,k0,k1,k2,k3,k5,mN,hC,hN,hi,T⟩:=(Cq I.ok.mod.kin z).ex;obtain⟨oI,hoI,hoc⟩:∃oI,base.get? fn=some oI/\oI.cls=.type "function":=by
  have:=beq_iff_eq.mp hfn;obtain⟨o,ho,hc⟩:=Ys.mp this;exact⟨o,I.ok.mod.kin _ _ ho,hc⟩
 refine Gr (C:=C) (nm:=nm) (q:=qn) (N:=Nn) (bs:=bs) (bm:=bm) (hdct:=hdct) (sn:=sn) (sub:=sub) (ab:=ab) (col:=col) (dd:=dd) (k0:=k0) (k1:=k1) (k2:=k2) (k3:=k3) (k5:=k5)
  VX (mN:=mN) (oI:=oI) (T.hasType VX.hasBase) hh (by rw[he];show(false||(backTo cpos (starEach es (di (gi P w) P w K mg base N qual scope f cd A outer s0 H0 E).env)).any (·.1))=false;rw[hpl];rfl) hi (jh I hg hm ⟨rfl,?_⟩ hdb)
 have hq:rH K E H (frz He Ha H) (fa (eR ρ)) (λvs H1=>vs.length=ks.length/\∀dx,H1 dx=none->E (.ref C) (some dx) (upd H1 dx (.xd (ks.zip vs)))):=by
  unfold d5 at q;cases e1:fa (eR ρ) with
  |stuck=>rw[e1] at q;exact q|exn z=>rw[e1] at q;exact λC ox H' Ha' g ex=>q C ox H' Ha' (hr'.frz_grow.trans g) ex
  |ok ds =>
   rw[e1] at q;intro vs H1 H01 g rp;have q:bR K E He H0e Ha (if ds.length=ks.length then ai.exn ⟨x,ks.zip ds⟩ else .stuck) D:=q
   by_cases hl:ds.length=ks.length
   .rw[if_pos hl] at q
    refine⟨by rw[←rp.length];exact hl,λdx hdx=>?_⟩;have ga:=aO (o:=.xd (ks.zip vs)) g.sub hdx;refine q (.ref C) (some dx) _ _ (hr'.frz_grow.trans (g.trans ga)) ⟨⟨C,rfl,xc⟩,ks.zip vs,aw,λn d hn=>?_⟩;obtain⟨v,k1,k2⟩:=yC rp hn;exact⟨v,k1,k2.mono ga.z⟩
   .rw[if_neg hl] at q;exact q.elim
 have h1:=ha.o cpos pins s σ H _ I ⟨frz He Ha H,eR ρ,hr'.frz_le,hr'.looks,hq⟩;rw[he] at h1 ⊢;refine WQ (Vh h1 (λus s2 h2=>?_) λ_ _ y=>y);obtain⟨vs,H1,I1,rv,hl,hE⟩:=h2;have hz:us.length<=sizeLine:=by rw[←rv.length,hl,sizeLine_eq];omega
 refine⟨rfl,hz,I1.bk _ _ hC,hN.keeps I1.bk,T.keeps I1.bk,I1.bk _ _ hoI,hoc,λh' ee hx=>?_⟩;have hn:H1 ee=none:=by
  cases q:H1 ee with|none=>rfl|some o=>obtain⟨u,hu⟩:=bN.there (I1.hok ee o q);rw[hx.new] at hu;cases hu
 obtain⟨t,ht,_,_⟩:=hx.there;have hxn:uZ ee C none h':=⟨t,ht⟩
 have un1:Un (gZ (di (gi P w) P w K mg base N qual scope f cd A outer s0 H0 E).stack) [] H1 (upd H1 ee (.ext (uZ ee C none))) s2.heap h':=Un.ext (Un.kept hx.keeps) hn hx.new;have I2:Inv (di (gi P w) P w K mg base N qual scope f cd A outer s0 H0 E) pins σ (upd H1 ee (.ext (uZ ee C none))) { s2 with heap:=h' } :=
  I1.call' (ch:=[]) rfl un1 (fP.ext (I1.hok.kept hx.keeps) hn hxn ⟨_,ht⟩ sR) I1.bare (λ_ z=>nomatch z)
 have rv2:bH (V.ref ee::vs) (UZ ee::us):=.cons rfl rv;have hsp:Kt K ks (V.ref ee::vs) (upd H1 ee (.ext (uZ ee C none))) (λv H2=>v=.non/\∃dx,H1 dx=none/\dx≠ee/\H2=upd (upd (upd H1 ee (.ext (uZ ee C none))) ee (.ext (uZ ee C (some dx)))) dx (.ext (A7 dx (putAll ks vs [])))) E :=
  ⟨ee,C,fn,vs,rfl,hl,aw,st,z,λdx hdx=>by
   have c:dx≠ee:=λc=>by rw[c,aw] at hdx;cases hdx
   rw[aq c] at hdx;exact⟨rfl,dx,hdx,c,rfl⟩⟩
 have hl2:(UZ ee::us).length=ps.length:=by rw[←rv2.length];exact F.len _ _ _ _ hsp
 have hbb:=hb { s2 with heap:=h' } (UZ ee::us) I2.kIn (by simpa using hl2);rw[UT] at hbb;refine wpAny_call (codeAny_mono (F.run _ _ { s2 with heap:=h' } _ ⟨UZ ee::us,[]⟩ (UZ ee::us) _ _ E (hr.make C us []) (I2.env0.make C us []) hbb rv2 hsp) λr s3 hq3=>?_);cases r with
 |error e=>exact Vo hq3
 |ok fl =>
  cases fl with
  |next|brk|cont=>exact Vo hq3
  |ret u =>
   obtain⟨v,H2,os3,bare3,un3,hok3,rel3,rfl,dx,hdx,hdne,rfl⟩:=hq3;obtain rfl:u=Vv:=rel3;rw[oy] at hok3 un3;have un4:=F8 (un1.trans un3);have hok4:fP P w H1 s3.heap:=Il hok3 hn hdx (λ_ z=>by cases z) (λ_ z=>by cases z) (λ_ z=>by cases z) (λ_ z=>by cases z);obtain⟨⟨t3,ht3⟩,_,_⟩:=(show bN P w _ s3.heap ee (.ext (uZ ee C (some dx))) from hok3 ee _ (by rw[aq hdne.symm,aw]))
   have I3:=I1.call' (ch:=[]) os3 un4 hok4 bare3 (λ_ z=>nomatch z);refine⟨rfl,I3.bk _ _ hC,⟨_,t3,ht3⟩,?_⟩;have hin:=Dl (l:=envOfC qual scope s0.heap.objs.size f cd::outer);have hfr:s3.heap.FunFrames (Xn s3.heap (ee::gZ (envOfC qual scope s0.heap.objs.size f cd::outer))) (envOfC qual scope s0.heap.objs.size f cd::outer):=W.funFrames_hide I3.stack λenv he a hf=>Uu _ (hin env he a hf);have hst:(Xn s3.heap (ee::gZ (envOfC qual scope s0.heap.objs.size f cd::outer))).StaysIn s3.heap:=λb o q=>XA _ q;have hen:(Xn s3.heap (ee::gZ (envOfC qual scope s0.heap.objs.size f cd::outer))).get? ee=none:=W.hideAll_none _ (.head _);obtain⟨pX,_,_⟩:=(show bN P w _ s3.heap dx (.ext (A7 dx (putAll ks vs []))) from hok3 dx _ aw)
   rw[rG hnd (λ_ _ z=>by simp at z) hl.symm,VG] at pX;have hok5:=fP.xd hok4 hdx pX;have dfresh:s2.heap.get? dx=none:=by
    cases qd:s2.heap.get? dx with
    |none=>rfl
    |some o =>
     have:=un3.free dx o (hx.keeps dx o qd) (by rw[aq hdne];exact hdx) (by simp);rw[aw] at this;cases this
   have un5:=Un.ext (o:=.xd (ks.zip vs)) un4 hdx dfresh;refine BZ (a0:=.ref t3) I3.ok.frames hfr rfl ht3 hst hen rfl rfl rfl λh4 fl4 up4 dc4=>?_;refine Iu rfl I1 (s1:=s3) (H1:=upd H1 dx (.xd (ks.zip vs))) os3 bare3 un5 hok5 (by rw[aq hdne.symm];exact hn) hst hfr (λb hb hy=>?_) fl4 up4 ⟨some dx,⟨some dx,dc4,.inr rfl⟩,hE dx hdx⟩;have hbe:b≠ee:=λc=>by
    subst c;rcases hy with hy|⟨o,hy⟩
    .exact hy (by rw[aq hdne.symm];exact hn)
    .rw[hx.new] at hy;cases hy
   have hth:∃o,s3.heap.get? b=some o:=by
    rcases hy with hy|⟨o,hy⟩
    .cases q:(upd H1 dx (.xd (ks.zip vs))) b with
     |none=>exact absurd q hy
     |some o=>exact bN.there (hok5 b o q)
    .exact un4.there b o hy (by simp)
   obtain⟨o,q⟩:=hth;exact⟨o,Yd _ q (List.not_mem_cons_of_ne_of_not_mem hbe hb)⟩
end
end DL
namespace DL
open PySem PySem.Spec PySem.Calls PySem.W PyProof.Rows Builtin Builtin.ObjectAttr Builtin.Getset_descriptor
section
variable {prog:Program}{w:World}{A:Around}{E:Value->Shared->Prop}{h:Heap}{g:Array GenState}{d:Drawn}{t:Nat}{os:OsState}{a C:Addr}{o:Obj}{od:Option Obj}{K:Frag}{name:Str}{v:Value}
theorem Gs(X:K.In h)(J:InstAt h a o C od)(hf:findObj K C od name=some (.value v))(hq:Q (.done (.ret v)) ⟨h,g,d,t,os⟩) :
  wpAny (model prog w) A (Builtin.«object.__getattribute__» ⟨[.ref a,.str name tk],[]⟩) Q E ⟨h,g,d,t,os⟩:=by
 have L0:=J.type (M:=model prog w);have L1:=looks_find (M:=model prog w) X J hf;unfold Builtin.«object.__getattribute__»
 repeat (any_goals (first|assumption|(with_reducible refine L0.at ?_)|(with_reducible refine L1.at ?_)|wp_step))
theorem J4(X:K.In h)(Z:oo K C)(J:InstAt h a o C od)(hx:h.get? a=some o)(hc:o.cls=.ref C)(hf:findObj K C od name=some (.value v))(hq:R (.ok (.ret v)) ⟨h,g,d,t,os⟩) :
  codeAny (model prog w) A (.call (.builtin "BaseException.__getattribute__") ⟨[.ref a,.str name tk],[]⟩) R ⟨h,g,d,t,os⟩ :=
 codeAny_call_builtin W2.ga.plain F.entry_bexc_ga (yL X Z hx hc (Gs X J hf hq))
theorem Po(X:K.In h)(Z:oo K C)(J:InstAt h a o C od)(hx:h.get? a=some o)(hc:o.cls=.ref C)(hf:findObj K C od name=some (.value v))(hh:handedIn v=true)(hq:Q v ⟨h,g,d,t,os⟩) :
  wpAny (model prog w) A (getAttrBy (.ref a) (.str name tk) b ex) Q E ⟨h,g,d,t,os⟩:=by
 have f3:=W2.ga.bind (.ref a);have hx2:(Wa "BaseException.__getattribute__"==Wa "object.__getattribute__")=false:=by decide +kernel
 have hx1:(onTheHeap (UZ C)&&Wa "BaseException.__getattribute__"==Wa "object.__getattribute__")=false:=by rw[hx2];rfl
 have L1:Looks (model prog w) h (typeLookup (.ref C) "__getattribute__") (some (.builtin "BaseException.__getattribute__")):=looks_findIn X Z.ga;have L2:Looks (model prog w) h (typeLookup (.ref C) "__getattr__") none:=looks_findIn X Z.gt;have hho:=handedOut_of hh
 repeat (any_goals (first|assumption|(with_reducible refine VE hx ?_;rw[hc])|(with_reducible refine L1.at ?_)|(with_reducible refine L2.at ?_)|wp_step))
 rw[if_neg (by cases ex<;>decide)]
 repeat (any_goals (first|assumption|wp_step))
 refine J4 X Z J hx hc hf ?_
 repeat (any_goals (first|assumption|wp_step))
theorem Na(X:K.In h)(Z:oo K C)(J:InstAt h a o C od)(hx:h.get? a=some o)(hc:o.cls=.ref C)(hf:findObj K C od name=some (.value v))(hh:handedIn v=true)(hq:Q v ⟨h,g,d,t+1,os⟩) :
  wpAny (model prog w) A (getAttr (.ref a) name ex) Q E ⟨h,g,d,t,os⟩:=by
 unfold getAttr
 repeat (any_goals (first|assumption|with_reducible apply Po X Z J hx hc hf hh|wp_step))
end
end DL
namespace DL
open PySem PySem.Spec PyProof.Rows L2
noncomputable def JK(K:Up) (tab:Str->Option Bool) (f:Str):Prop:=∀c C b,tab c=some b->XC K c C->WC K C=true/\iE K C f
noncomputable def gO(tab:Str->Option Bool) (f:Str) (x:D):ai D:=match x with
 |.ob (.exf c ks) ds=>(match tab c,o5 f ks ds with
  |some _,some d=>.ok d
  |_,_=>.stuck)
 |_=>.stuck
theorem Gj:∀{ks:List Str}{vs:List V}{f:Str}{u:V},(ks.zip vs).lookup f=some u->∃i:Nat,ks[i]?=some f/\vs[i]?=some u
 |[],vs,f,u,h=>by rw[List.zip_nil_left] at h;cases h
 |k::ks,[],f,u,h=>by rw[List.zip_nil_right] at h;cases h
 |k::ks,v::vs,f,u,h=>by
  rw[Vx,VB] at h;cases q:f==k with
  |true=>rw[q] at h;cases h;exact⟨0,by rw[beq_iff_eq.mp q];rfl,rfl⟩
  |false =>
   rw[q] at h;obtain⟨i,h1,h2⟩:=Gj h;exact⟨i+1,h1,h2⟩
section
variable {X:Cx}{E:XK}{e:Expr}{fe:Ev->ai D}{pos:Pos}{f:Str}{ta:TE}{tab:Str->Option Bool}
noncomputable def PD(K:Up) (ta:TE) (f:Str):TE:=λσ H Q=>ta σ H λx H1=>∃a C dx fs v,x=.ref a/\Rd H1 a (.ext (yB a C (some dx)))/\H1 dx=some (.xd fs)/\oo K C/\WC K C=true/\iE K C f/\fs.lookup f=some v/\Q v H1
theorem KQ(he:PE X e ta)(hb:attributeBase e f X.env (eval e X.env)=eval e X.env):PE X (.Attribute e f pos) (PD X.K ta f):=by
 intro pins s σ H Q I h;refine L7 hb (cj (he pins s σ H _ I h) λu s1 z9=>?_);obtain⟨x,H1,I1,rx,a,C,dx,fs,v,ex,ea,ed,Z,hd,n,l,q⟩:=z9;subst ex;obtain rfl:u=UZ a:=rx;obtain⟨⟨o,vs,ho,hcl,hda,hdi⟩,_,_⟩:=ea.ok I1.hok;obtain⟨mA,hn,r⟩:=(show bN X.prog X.w H1 s1.heap dx (.xd fs) from I1.hok dx _ ed)
 obtain⟨u',hu,ru⟩:=jF (v:=v) (o:=mA f) (by rw[←l];exact r f);obtain⟨od,hod,hl⟩:=oW hn;have J:X6 s1.heap a o C (some od):=⟨ho,hcl,by unfold W.notCls;rw[hda],by rw[hdi];exact hod⟩
 have I2:=I1.tok (s1.toks+1);have K1:=I1.kIn;obtain⟨hh,g,d,t,os⟩:=s1;exact Na K1 Z J ho hcl (W.findObj_own hd n rfl (by show YG f od=_;rw[hl,hu])) (FE ru) ⟨v,H1,I2,ru,q⟩
theorem qQ(ht:JK X.K tab f)(he:DE X E e fe)(hb:attributeBase e f X.env (eval e X.env)=eval e X.env:=by rfl):DE X E (.Attribute e f pos) (bM fe (gO tab f)):=by
 refine⟨aX (KQ he.o hb) λσ H Q ⟨Ha,ρ,hs,hr,q⟩=>⟨Ha,ρ,hs,hr,?_⟩⟩;unfold bM at q;cases e1:fe ρ with
 |stuck|exn x=>rw[e1] at q;exact q
 |ok d =>
  rw[e1] at q;intro v H1 H01 g1 r1;replace q:post X.K E H Ha (gO tab f d) Q:=q;unfold gO at q;cases d with
  |ob k ds =>
   cases k with
   |exf c ks =>
    replace q:post X.K E H Ha (match tab c,o5 f ks ds with|some _,some d=>ai.ok d|_,_=>.stuck) Q:=q;cases e2:tab c with
    |none=>rw[e2] at q;exact q.elim
    |some b =>
     cases e3:o5 f ks ds with
     |none=>rw[e2,e3] at q;exact q.elim
     |some d =>
      rw[e2,e3] at q;obtain⟨p,vs,rfl,⟨C,dx,fs,h1,h2,h3,h4,h5⟩,h6⟩:=gW.mp r1;obtain⟨u,k1,k2,k3⟩:=Dq h4 h6 e3;obtain⟨i,i1,i2⟩:=Gj k1;obtain⟨m1,m2⟩:=ht c C b e2 h1;exact⟨p,C,dx,fs,u,rfl,aB.rd g1.sub h2,g1.sub _ _ h3,h1.ek,m1,m2,h5 i f u i1 i2,q u H1 H01 g1 k2⟩
   |_=>exact q.elim
  |_=>exact q.elim
end
theorem TC{α:Type}{us:List α}(h:us.length=1):∃a,us=[a]:=List.length_eq_one_iff.mp h
theorem Tz{α:Type}{us:List α}(h:us.length=2):∃a b,us=[a,b]:=by
 cases us with|nil=>cases h|cons a us=>obtain⟨b,rfl⟩:=TC (Nat.succ.inj h);exact⟨a,b,rfl⟩
theorem Tx{α:Type}{us:List α}(h:us.length=3):∃a b c,us=[a,b,c]:=by
 cases us with|nil=>cases h|cons a us=>obtain⟨b,c,rfl⟩:=Tz (Nat.succ.inj h);exact⟨a,b,c,rfl⟩
end DL
namespace Com
open PySem L2 DL
theorem Q1(h:f≠g):mM ⟨c,[(f,d),(g,e)]⟩=.ob (.exf c [f,g]) [d,e]:=by
 show(if([f,g]:List Str).Nodup then D.ob (.exf c [f,g]) [d,e] else .exc c)=_;rw[if_pos (by simp [h])]
theorem Lw(h:hit x.cls=true):Ni hit ni sh ρ (.exn x)=(sh (ρ.set ni (.sh (mM x)))).bind (xr ni):=if_pos h
theorem qJ(h:tab c=some b):fk tab (.ob (.exf c ks) ds)=.ok (.bl b):=by unfold fk;simp only[h]
noncomputable def xf(x:Str) (ks:List Str) (ds:List D):ai Fl:=if ds.length=ks.length then .exn ⟨x,ks.zip ds⟩ else .stuck
theorem b4:d5 x ks fa ρ=(fa (eR ρ)).bind (xf x ks):=aK rfl
theorem B1:xf x [f,g] [d,e]=.exn ⟨x,[(f,d),(g,e)]⟩:=if_pos rfl
end Com
namespace DL
open PySem PySem.Spec PyProof.Rows L2
section
variable {X:Cx}{E:XK}{e o:Expr}{fe fo:Ev->ai D}{pos:Pos}
end
end DL
namespace DL
open PySem PySem.Spec PyProof.Rows L2 PySem.Builtin PySem.Builtin.Str
section
variable {prog:Program}{w:World}{A:Around}{E:Value->Shared->Prop}{s:Shared}{x y:Str}{t u:Tok}{Q:Value->Shared->Prop}
end
section
variable {X:Cx}{E:XK}{e o:Expr}{fe fo:Ev->ai D}{pos:Pos}
end
end DL
namespace DL
open PySem PySem.Spec PyProof.Rows L2
section
variable {X:Cx}{E:XK}{a b:Expr}{f g:Ev->ai D}{pos:Pos}
end
end DL
namespace DL
open PySem PySem.Spec PyProof.Rows
section
variable {prog:Program}{w:World}{A:Around}{E:Value->Shared->Prop}{s:Shared}
end
section
variable {prog:Program}{w:World}{A:Around}{E:Value->Shared->Prop}{s:Shared}
end
section
variable {prog:Program}{w:World}{A:Around}{s:Shared}
end
end DL
namespace DL
open PySem PySem.Spec PyProof.Rows L2
section
variable {X:Cx}{E:XK}{a:Expr}{f:Ev->ai D}{te:TE}{p p2 p3 pos:Pos}
end
noncomputable def Sy(d:D):Bool:=match d with
 |.dic [] []=>true
 |_=>false
section
variable {X:Cx}{E:XK}{pins:List (Addr×Obj)}{σ:L2.St}{H:Hp}{s:Shared}
theorem Fd(I:Inv X pins σ H s)(h:Sy d=true)(r:Rep X.K H d v)(q:bu v u):∃a,u=.ref a/\(a==sysModules)=false/\s.heap.DictOf (cI X.prog X.w) a []:=by
 unfold Sy at h;split at h
 .rw[Rep] at r
  obtain⟨a,kvs,vs,h1,h2,h3,h4,h5⟩:=r;have:kvs=[]:=by rw[h3];rfl
  subst this h1;obtain rfl:u=UZ a:=q;obtain⟨_,n1,vs',k1,d1⟩:=(show bN X.prog X.w H s.heap a (.dK []) from h2.ok I.hok)
  obtain rfl:vs'=[]:=by cases k1;rfl
  exact⟨a,rfl,n1,d1⟩
 .cases h
end
section
variable {X:Cx}{E:XK}{He H0e:Hp}{e:Expr}{f:Ev->ai D}{is:List Nat}{es:List Expr}{pos:Pos}
end
noncomputable def FN(a:Addr) (H:Hp):Hp:=λb=>if b=a then none else H b
theorem fX(h:b≠a):FN a H b=H b:=if_neg h
theorem dF:FN a H a=none:=if_pos rfl
structure gX (K:Up) (He H0e Ha:Hp) (σ:L2.St) (H:Hp) (ρ:Ev) (a:Addr) (st:List D) (vs:List V):Prop where
 ha:He a=none
 h0:H0e a=none
 hl:H a=some (.lst vs)
 r:Reps K Ha st vs
 s:cT K (upd He a (.lst vs)) H0e Ha σ H ρ
theorem OX.he{K:Up}(hn:∀b,He b=XU->He' b=XU)(h:OX K He Ha σ H ρ):OX K He' Ha σ H ρ:=⟨λi j ds e=>by
 obtain⟨a,p,h1,⟨vs,es,us,r1,r2,r3,r⟩,h2⟩:=h.1 i j ds e;exact⟨a,p,h1,⟨vs,es,us,hn _ r1,r2,hn _ r3,r⟩,h2⟩,h.2⟩
section
variable {K:Up}{He H0e Ha H:Hp}{σ:L2.St}{ρ:Ev}{a:Addr}{st st':List D}{vs us:List V}
theorem gX.n0(h:gX K He H0e Ha σ H ρ a st vs):Ha a=none:=by
 cases q:Ha a with
 |none=>rfl
 |some o =>
  have:=h.s.g.nw a (by rw[q];simp) h.h0;rw[aw] at this;cases this
theorem gX.back(h:gX K He H0e Ha σ H ρ a st vs)(z:aB Ha Ha')(s':cT K (upd He a (.lst vs)) H0e Ha' σ' H' ρ'):gX K He H0e Ha' σ' H' ρ' a st vs :=
 ⟨h.ha,h.h0,s'.g.s _ _ aw,h.r.mono z,s'⟩
theorem gX.change(h:gX K He H0e Ha σ H ρ a st vs)(g:bp (FN a H) Ha H' Ha')(n:Ha' a=none)(hl:H' a=some (.lst us))(r:Reps K Ha' st' us):gX K He H0e Ha' σ H' ρ a st' us:=by
 have hne:∀b,upd He a (.lst us) b=none->b≠a/\He b=none:=λb e=>by
  by_cases c:b=a
  .subst c;rw[aw] at e;cases e
  .rw[aq c] at e;exact⟨c,e⟩
 have hnn:∀b,upd He a (.lst vs) b=none->upd He a (.lst us) b=none:=λb e=>by
  by_cases c:b=a
  .subst c;rw[aw] at e;cases e
  .rw[aq c] at e ⊢;exact e
 have gone:∀b o,b≠a->H b=some o->H' b=some o:=λb o c e=>g.s _ _ (by rw[fX c];exact e);have n':∀b,Ha b=none->(∃o,H b=some o/\b≠a)->Ha' b=none:=λb e ⟨o,e1,c⟩=>by
  cases q:Ha' b with
  |none=>rfl
  |some u =>
   have:=g.nw b (by rw[q];simp) e;rw[fX c,e1] at this;cases this
 refine⟨h.ha,h.h0,hl,r,⟨⟨λb o e=>?_,h.s.g.z.trans g.z,g.sub,λb h1 h2=>?_⟩,h.s.rd.mono g.z,λi d e=>?_,h.s.ap,h.s.ln,(h.s.ex.he hnn).upd (λj s e=>.inl ⟨e,rfl⟩) g.z (λb ws hb e=>gone b _ (hne b hb).1 e) λp ws hp q0 hq _=>⟨gone p _ (hne p hp).1 hq,n' p q0 ⟨_,hq,(hne p hp).1⟩⟩⟩⟩
 .by_cases c:b=a
  .subst c;rw[aw] at e;cases e;exact hl
  .rw[aq c] at e
   exact gone b o c (h.s.g.s _ _ (by rw[aq c];exact e))
 .by_cases c:b=a
  .subst c;exact absurd n h1
  .rw[aq c]
   cases q:Ha b with
   |some u =>
    have:=h.s.g.nw b (by rw[q];simp) h2;rw[aq c] at this;exact this
   |none =>
    have:=g.nw b h1 q;rw[fX c] at this;cases q2:He b with|none=>rfl|some u=>rw[h.s.g.s b u (by rw[aq c];exact q2)] at this;cases this
 .obtain⟨b,k1,k2,k3,k4⟩:=h.s.ow i d e
  cases d with
  |lst ds =>
   obtain⟨ws,k5,k6⟩:=k4;have c:b≠a:=(hne b (hnn b k2)).1;exact⟨b,k1,hnn b k2,n' b k3 ⟨_,k5,c⟩,ws,gone b _ c k5,k6.mono g.z⟩
  |dic ks ds =>
   obtain⟨ws,k5,kl,k6⟩:=k4;have c:b≠a:=(hne b (hnn b k2)).1;exact⟨b,k1,hnn b k2,n' b k3 ⟨_,k5,c⟩,ws,gone b _ c k5,kl,k6.mono g.z⟩
  |_=>exact k4.elim
end
noncomputable def tM(K:Up) (He H0e:Hp) (a:Addr) (f:Ev->List D->ai (D×List D)):TE:=λσ H Q=>∃Ha ρ st vs,gX K He H0e Ha σ H ρ a st vs/\match f ρ st with
 |.ok (d,st')=>∀v H' Ha' us,aB Ha Ha'->gX K He H0e Ha' σ H' ρ a st' us->Rep K Ha' d v->Q v H'
 |.exn _=>False
 |.stuck=>False
noncomputable def Ti(K:Up) (He H0e:Hp) (a:Addr) (f:Ev->List D->ai (List D×List D)):TA:=λσ H Q=>∃Ha ρ st vs,gX K He H0e Ha σ H ρ a st vs/\match f ρ st with
 |.ok (ds,st')=>∀xs H' Ha' us,aB Ha Ha'->gX K He H0e Ha' σ H' ρ a st' us->Reps K Ha' ds xs->Q xs H'
 |.exn _=>False
 |.stuck=>False
noncomputable def Th(K:Up) (He H0e:Hp) (a:Addr) (f:Ev->List D->ai (D×List D)):TT:=λσ H Q=>∃Ha ρ st vs,gX K He H0e Ha σ H ρ a st vs/\match f ρ st with
 |.ok (.bl b,st')=>∀H' Ha' us,aB Ha Ha'->gX K He H0e Ha' σ H' ρ a st' us->Q b H'
 |.ok _=>False
 |.exn _=>False
 |.stuck=>False
structure DM (X:Cx) (He H0e:Hp) (a:Addr) (e:Expr) (f:Ev->List D->ai (D×List D)):Prop where
 o:PE X e (tM X.K He H0e a f)
structure Ml (X:Cx) (He H0e:Hp) (a:Addr) (es:List Expr) (f:Ev->List D->ai (List D×List D)):Prop where
 o:PA X es (Ti X.K He H0e a f)
structure JN (X:Cx) (He H0e:Hp) (a:Addr) (e:Expr) (f:Ev->List D->ai (D×List D)):Prop where
 o:PT X e (Th X.K He H0e a f)
noncomputable def mP(f:Ev->ai D):Ev->List D->ai (D×List D):=λρ st=>(f ρ).bind λd=>.ok (d,st)
noncomputable def vX(st:List D) (d:D):ai (D×List D):=if xY d=true then .ok (d,st) else .stuck
noncomputable def ke(s:Option Sl) (a:Addr):Bool:=match s with
 |some (.pt b)=>b==a
 |_=>false
noncomputable def vw(i:Nat) (ρ:Ev) (st:List D):Ev:=(eR ρ).set i (.sh (.lst st))
noncomputable def mV(i:Nat) (a:Addr) (f:Ev->ai D):Ev->List D->ai (D×List D):=λρ st=>if ke ρ[i]? a=true then(f (vw i ρ st)).bind (vX st) else .stuck
section
variable {X:Cx}{E:XK}{He H0e:Hp}{a:Addr}{e b:Expr}{es:List Expr}{pos:Pos}{f:Ev->ai D}{fm gm:Ev->List D->ai (D×List D)}{fa:Ev->List D->ai (List D×List D)}
theorem aF(he:DE X E e f):DM X He H0e a e (mP f):=⟨aX he.o λσ H Q ⟨Ha,ρ,st,vs,h,q⟩=>⟨Ha,ρ,h.s.g.sub,h.s.rd,by
 unfold mP at q;cases e1:f ρ with
 |stuck=>rw[e1] at q;exact q|exn x=>rw[e1] at q;exact q.elim
 |ok d =>
  rw[e1] at q;exact λv H' Ha' g rp=>q v H' Ha' vs g.z (h.back g.z (h.s.grow g)) rp⟩⟩
theorem gX.view{K:Up}{st:List D}(h:gX K He H0e Ha σ H ρ a st vs)(hp:ke ρ[i]? a=true):aB (upd (frz (upd He a (.lst vs)) Ha H) a (.lst vs)) H/\aB (frz (upd He a (.lst vs)) Ha H) (upd (frz (upd He a (.lst vs)) Ha H) a (.lst vs))/\Reads K (upd (frz (upd He a (.lst vs)) Ha H) a (.lst vs)) σ (vw i ρ st):=by
 have hz:frz (upd He a (.lst vs)) Ha H a=none:=by unfold frz;rw[aw];exact h.n0
 have z:aB (frz (upd He a (.lst vs)) Ha H) (upd (frz (upd He a (.lst vs)) Ha H) a (.lst vs)):=λb o e=>by rw[aq (by intro z;subst z;rw[hz] at e;cases e)];exact e
 refine⟨λb o e=>?_,z,λj d e=>?_⟩
 .by_cases c:b=a
  .subst c;rw[aw] at e;cases e;exact h.hl
  .rw[aq c] at e;exact h.s.frz_le _ _ e
 .unfold vw at e
  by_cases c:i=j
  .subst c
   unfold ke at hp;cases q:ρ[i]? with
   |none=>rw[q] at hp;cases hp
   |some s =>
    rw[q] at hp;cases s with
    |pt b =>
     have hb:b=a:=eq_of_beq hp;subst hb;have hil:i<(eR ρ).length:=by unfold eR;rw[Ur];exact(Uw.mp q).1
     rw[UQ hil] at e;cases e;exact⟨_,h.s.ex.2 i b q,aH.mpr ⟨b,vs,rfl,eC.of aw,(h.r.mono h.s.frz_sub).mono z⟩⟩
    |_=>cases hp
  .rw[Us c] at e
   obtain⟨v,h1,h2⟩:=h.s.looks j d e;exact⟨v,h1,h2.mono z⟩
theorem gX.behind{K:Up}{st:List D}(h:gX K He H0e Ha σ H ρ a st vs)(g:bp H (upd (frz (upd He a (.lst vs)) Ha H) a (.lst vs)) H' J):aB Ha J/\aB Ha (iV Ha J)/\gX K He H0e (iV Ha J) σ H' ρ a st vs:=by
 have hz:frz (upd He a (.lst vs)) Ha H a=none:=by unfold frz;rw[aw];exact h.n0
 have z0:aB (frz (upd He a (.lst vs)) Ha H) (upd (frz (upd He a (.lst vs)) Ha H) a (.lst vs)):=λb o e=>by rw[aq (by intro z;subst z;rw[hz] at e;cases e)];exact e
 have hJ:aB Ha J:=h.s.frz_sub.trans (z0.trans g.z);have z:aB Ha (iV Ha J):=λb o e=>by unfold iV;rw[e]
 refine⟨hJ,z,h.back z ?_⟩;have ja:J a=some (.lst vs):=g.z _ _ aw;have g':bp H (frz (upd He a (.lst vs)) Ha H) H' (FN a J):=⟨g.s,λb o e=>by
   have c:b≠a:=by intro c;subst c;rw[hz] at e;cases e
   rw[fX c];exact g.z _ _ (z0 _ _ e),λb o e=>by
   by_cases c:b=a
   .subst c;rw[dF] at e;cases e
   .rw[fX c] at e;exact g.sub _ _ e,λb h1 h2=>by
   by_cases c:b=a
   .subst c;exact absurd dF h1
   .rw[fX c] at h1;exact g.nw b h1 (by rw[aq c];exact h2)⟩
 have hs:=h.s.behind g';have e:iV Ha (FN a J)=iV Ha J:=by
  funext b;unfold iV
  by_cases c:b=a
  .subst c;rw[h.n0,dF,ja]
  .rw[fX c]
 rw[e] at hs;exact hs
theorem nR(he:DE X E e f):DM X He H0e a e (mV i a f):=⟨aX he.o λσ H Q z9=>by
 obtain⟨Ha,ρ,st,vs,h,q⟩:=z9;unfold mV at q
 by_cases hp:ke ρ[i]? a=true
 .rw[if_pos hp] at q
  obtain⟨v1,v2,v3⟩:=h.view hp;refine⟨_,vw i ρ st,v1,v3,?_⟩;cases e1:f (vw i ρ st) with
  |stuck=>rw[e1] at q;exact q|exn x=>rw[e1] at q;exact q.elim
  |ok d =>
   rw[e1] at q;intro v H' J g rp;obtain⟨hJ,z,hm⟩:=h.behind g;replace q:match vX st d with
    |.ok (d,st')=>∀v H' Ha' us,aB Ha Ha'->gX X.K He H0e Ha' σ H' ρ a st' us->Rep X.K Ha' d v->Q v H'
    |.exn _=>False
    |.stuck=>False:=q
   unfold vX at q
   by_cases fl:xY d=true
   .rw[if_pos fl] at q
    exact q v H' (iV Ha J) vs z hm (rp.flat_to (Ma hJ) fl)
   .rw[if_neg fl] at q;exact q.elim
 .rw[if_neg hp] at q;exact q.elim⟩
noncomputable def mB(f g:Ev->List D->ai (D×List D)) (op:D->D->ai D):Ev->List D->ai (D×List D):=λρ st=>(f ρ st).bind λp=>(g ρ p.2).bind λq=>(op p.1 q.1).bind λd=>.ok (d,q.2)
theorem iZ(ho:qT X.K E r op)(σ:L2.St)(H:Hp)(Q:VK)(h:tM X.K He H0e a (mB fm gm op) σ H Q):O4 r (tM X.K He H0e a fm) (tM X.K He H0e a gm) σ H Q:=by
 obtain⟨Ha,ρ,st,vs,h,q⟩:=h;refine⟨Ha,ρ,st,vs,h,?_⟩;unfold mB at q;cases e1:fm ρ st with
 |stuck|exn x=>rw[e1] at q;exact q
 |ok p =>
  obtain⟨x,s1⟩:=p;rw[e1] at q;intro v H1 H01 us z1 h1 r1;refine⟨H01,ρ,s1,us,h1,?_⟩;simp only[ai.bind] at q;cases e2:gm ρ s1 with
  |stuck|exn x=>rw[e2] at q;exact q
  |ok p2 =>
   obtain⟨y,s2⟩:=p2;rw[e2] at q;intro u H2 H02 us2 z2 h2 r2;refine ho x y v u H2 H02 Q h2.s.g.sub (r1.mono z2) r2 ?_;simp only at q;cases e3:op x y with
   |stuck=>rw[e3] at q;exact q|exn x=>rw[e3] at q;exact q.elim
   |ok d =>
    rw[e3] at q;exact λv' H' Ha' g rp=>q v' H' Ha' us2 ((z1.trans z2).trans g.z) (h2.back g.z (h2.s.grow g)) rp
theorem MU(h:eh X (binaryOp op) r)(ho:qT X.K E r o)(ha:DM X He H0e a l fm)(hb:DM X He H0e a b gm):DM X He H0e a (.BinOp l op b pos) (mB fm gm o):=⟨aX (Mx h ha.o hb.o) (iZ ho)⟩
theorem Ow(h:eh X (compareOp op) r)(ho:qT X.K E r o)(ha:DM X He H0e a l fm)(hb:DM X He H0e a b gm)(hm:behindInMarks op b=false):DM X He H0e a (.Compare l [op] [b] pos) (mB fm gm o):=⟨aX (CM h ha.o hb.o hm) (iZ ho)⟩
theorem Ra(h:JI X r)(ho:qT X.K E r o)(ha:DM X He H0e a l fm)(hb:DM X He H0e a b gm)(hs:og b:=by intro _ _;rfl):DM X He H0e a (.Subscript l b pos) (mB fm gm o):=⟨aX (My h ha.o hb.o hs) (iZ ho)⟩
noncomputable def bX:Ev->List D->ai (List D×List D):=λ_ st=>.ok ([],st)
noncomputable def aT(f:Ev->List D->ai (D×List D)) (fa:Ev->List D->ai (List D×List D)):Ev->List D->ai (List D×List D):=λρ st=>(f ρ st).bind λp=>(fa ρ p.2).bind λq=>.ok (p.1::q.1,q.2)
theorem aU:Ml X He H0e a [] bX:=⟨qB eY λσ H Q ⟨Ha,ρ,st,vs,h,q⟩=>q [] H Ha vs (aB.refl _) h Reps.nil⟩
theorem aI(ha:DM X He H0e a e fm)(hr:Ml X He H0e a es fa)(hs:starEach (e::es) X.env=(false,eval e X.env)::starEach es X.env:=by exact aQ rfl):Ml X He H0e a (e::es) (aT fm fa):=⟨qB (cH ha.o hr.o hs) λσ H Q ⟨Ha,ρ,st,vs,h,q⟩=>⟨Ha,ρ,st,vs,h,by
 unfold aT at q;cases e1:fm ρ st with
 |stuck|exn x=>rw[e1] at q;exact q
 |ok p =>
  obtain⟨x,s1⟩:=p;rw[e1] at q;intro v H1 H01 us z1 h1 r1;refine⟨H01,ρ,s1,us,h1,?_⟩;simp only[ai.bind] at q;cases e2:fa ρ s1 with
  |stuck|exn x=>rw[e2] at q;exact q
  |ok p2 =>
   obtain⟨ys,s2⟩:=p2;rw[e2] at q;exact λxs H2 H02 us2 z2 h2 r2=>q _ H2 H02 us2 (z1.trans z2) h2 (Reps.cons (r1.mono z2) r2)⟩⟩
noncomputable def mA(fa:Ev->List D->ai (List D×List D)) (m:List D->ai D):Ev->List D->ai (D×List D):=λρ st=>(fa ρ st).bind λp=>(m p.1).bind λd=>.ok (d,p.2)
theorem uS(hd:gk X E r m)(σ:L2.St)(H:Hp)(Q:VK)(h:tM X.K He H0e a (mA fa m) σ H Q):Ti X.K He H0e a fa σ H λvs H1=>r vs H1 Q:=by
 obtain⟨Ha,ρ,st,vs,h,q⟩:=h;refine⟨Ha,ρ,st,vs,h,?_⟩;unfold mA at q;cases e1:fa ρ st with
 |stuck|exn x=>rw[e1] at q;exact q
 |ok p =>
  obtain⟨ds,s1⟩:=p;rw[e1] at q;intro xs H1 H01 us z1 h1 r1;refine hd ds xs H1 H01 Q h1.s.g.sub r1 ?_;simp only[ai.bind] at q;cases e2:m ds with
  |stuck=>rw[e2] at q;exact q|exn x=>rw[e2] at q;exact q.elim
  |ok d =>
   rw[e2] at q;exact λv' H' Ha' g rp=>q v' H' Ha' us (z1.trans g.z) (h1.back g.z (h1.s.grow g)) rp
end
inductive dH where
 |nx (ρ:Ev) (st:List D)|rt (d:D) (st:List D)|bk (ρ:Ev) (st:List D)|ct (ρ:Ev) (st:List D)
structure RA (K:Up) (He H0e Ha H:Hp) (a:Addr) (st:List D):Prop where
 g:bp He H0e H Ha
 n:Ha a=none
 l:∃us,H a=some (.lst us)/\Reps K Ha st us
noncomputable def eT(K:Up) (He H0e:Hp) (a:Addr) (Ha:Hp) (r:ai dH) (D:iY):Prop:=match r with
 |.ok (.nx ρ st)=>∀σ H Ha' vs,aB Ha Ha'->gX K He H0e Ha' σ H ρ a st vs->D.nx σ H
 |.ok (.rt d st)=>∀v H Ha',aB Ha Ha'->RA K He H0e Ha' H a st->Rep K Ha' d v->D.rt v H
 |.ok (.bk ρ st)=>∀σ H Ha' vs,aB Ha Ha'->gX K He H0e Ha' σ H ρ a st vs->D.bk σ H
 |.ok (.ct ρ st)=>∀σ H Ha' vs,aB Ha Ha'->gX K He H0e Ha' σ H ρ a st vs->D.ct σ H
 |.exn _=>False
 |.stuck=>False
theorem eT.grow{K:Up}{D:iY}(h:eT K He H0e a Ha r D)(s:aB Ha Hb):eT K He H0e a Hb r D:=by
 cases r with
 |ok f =>
  cases f with|nx ρ st=>exact λσ H Ha' vs s'=>h σ H Ha' vs (s.trans s')|rt d st=>exact λv H Ha' s'=>h v H Ha' (s.trans s')|bk ρ st=>exact λσ H Ha' vs s'=>h σ H Ha' vs (s.trans s')|ct ρ st=>exact λσ H Ha' vs s'=>h σ H Ha' vs (s.trans s')
 |exn x=>exact h
 |stuck=>exact h
noncomputable def RM(K:Up) (He H0e:Hp) (a:Addr) (g:Ev->List D->ai dH):TS:=λD σ H=>∃Ha ρ st vs,gX K He H0e Ha σ H ρ a st vs/\eT K He H0e a Ha (g ρ st) D
structure SM (X:Cx) (He H0e:Hp) (a:Addr) (st:Stmt) (g:Ev->List D->ai dH):Prop where
 o:PS X st (RM X.K He H0e a g)
structure Mg (X:Cx) (He H0e:Hp) (a:Addr) (st:List Stmt) (g:Ev->List D->ai dH):Prop where
 o:wJ X st (RM X.K He H0e a g)
section
variable {X:Cx}{E:XK}{He H0e:Hp}{a:Addr}{st:Stmt}{rest:List Stmt}{e b:Expr}{es:List Expr}{pos:Pos}{f:Ev->ai D}{fm gm:Ev->List D->ai (D×List D)}{s t:Ev->List D->ai dH}
noncomputable def bc:Ev->List D->ai dH:=λρ st=>.ok (.nx ρ st)
noncomputable def C2(t:Ev->List D->ai dH) (r:dH):ai dH:=match r with
 |.nx ρ st=>t ρ st
 |r=>.ok r
noncomputable def aW(s t:Ev->List D->ai dH):Ev->List D->ai dH:=λρ st=>(s ρ st).bind (C2 t)
theorem aS:Mg X He H0e a [] bc:=⟨dW qw λD σ H ⟨Ha,ρ,st,vs,h,q⟩=>q σ H Ha vs (aB.refl _) h⟩
theorem ar(h1:SM X He H0e a st s)(h2:Mg X He H0e a rest t):Mg X He H0e a (st::rest) (aW s t):=by
 refine⟨?_⟩;refine dW (fF h1.o h2.o) λD σ H ⟨Ha,ρ,st,vs,h,q⟩=>⟨Ha,ρ,st,vs,h,?_⟩
 unfold aW at q;cases e1:s ρ st with
 |stuck|exn x=>rw[e1] at q;exact q
 |ok r =>
  rw[e1] at q;cases r with|nx ρ' st'=>exact λσ' H' Ha' vs' s' h'=>⟨Ha',ρ',st',vs',h',eT.grow (r:=t ρ' st') q s'⟩|rt d st'|bk ρ' st'|ct ρ' st'=>exact q
noncomputable def BJ(st:List D) (r:Fl):ai dH:=match r with
 |.nx ρ=>.ok (.nx ρ st)
 |.bk ρ=>.ok (.bk ρ st)
 |.ct ρ=>.ok (.ct ρ st)
 |.rt _=>.stuck
noncomputable def dD(g:Ev->ai Fl):Ev->List D->ai dH:=λρ st=>(g ρ).bind (BJ st)
theorem cg(h:∀vs,DS X E (upd He a (.lst vs)) H0e st g):SM X He H0e a st (dD g):=by
 refine⟨?_⟩;rintro pins sh σ H D I ⟨Ha,ρ,st,vs,hm,q⟩;refine(h vs).o pins sh σ H D I ⟨Ha,ρ,hm.s,?_⟩;unfold dD at q;cases e1:g ρ with
 |stuck=>rw[e1] at q;exact q|exn x=>rw[e1] at q;exact q.elim
 |ok r =>
  rw[e1] at q;cases r with|nx ρ'=>exact λσ' H' Ha' z h'=>q σ' H' Ha' vs z (hm.back z h')|bk ρ'=>exact λσ' H' Ha' z h'=>q σ' H' Ha' vs z (hm.back z h')|ct ρ'=>exact λσ' H' Ha' z h'=>q σ' H' Ha' vs z (hm.back z h')|rt d=>exact q.elim
noncomputable def HX(i:Nat) (ρ:Ev) (p:D×List D):ai dH:=.ok (.nx (ρ.set i (.sh p.1)) p.2)
noncomputable def dB(i:Nat) (f:Ev->List D->ai (D×List D)):Ev->List D->ai dH:=λρ st=>(f ρ st).bind (HX i ρ)
theorem cb(hN:X.N.Nodup)(hi:X.N[i]?=some x)(hx:Gg X.env.scope x)(he:DM X He H0e a e fm)(hs:swapsWith e (some (.Name x pos')) pos.line X.env=pure false:=by rfl)
  (hf:X.fn x=true∨X.env.scope.names.lookup x=some .local := by first|exact .inl rfl|exact .inr rfl|assumption):SM X He H0e a (.Assign [.Name x pos'] e pos) (dB i fm):=by
 refine⟨?_⟩;refine bL (oK hN hi hx he.o hs hf) λD σ H ⟨Ha,ρ,st,vs,h,q⟩=>⟨Ha,ρ,st,vs,h,?_⟩
 unfold dB at q;cases e1:fm ρ st with
 |stuck|exn x=>rw[e1] at q;exact q
 |ok p =>
  obtain⟨d,st'⟩:=p;rw[e1] at q;exact λv H' Ha' us z h' rp=>q _ H' Ha' us z (h'.back (aB.refl _) (h'.s.put rp))
noncomputable def HY(p:D×List D):ai dH:=.ok (.rt p.1 p.2)
noncomputable def xE(f:Ev->List D->ai (D×List D)):Ev->List D->ai dH:=λρ st=>(f ρ st).bind HY
theorem gX.out{K:Up}{st:List D}(h:gX K He H0e Ha σ H ρ a st vs)(z:aB Ha J)(hs:aB J H)(hw:∀b,J b≠none->Ha b=none->upd He a (.lst vs) b=none)(n:J a=none):RA K He H0e J H a st :=
 ⟨⟨λb o e=>h.s.g.s _ _ (by rw[aq (by intro c;subst c;rw[h.ha] at e;cases e)];exact e),h.s.g.z.trans z,hs,λb h1 h2=>by
  have key:upd He a (.lst vs) b=none:=by
   cases q:Ha b with|none=>exact hw b h1 q|some o=>exact h.s.g.nw b (by rw[q];simp) h2
  by_cases c:b=a
  .subst c;exact h.ha
  .rw[aq c] at key;exact key⟩,n,vs,h.hl,h.r.mono z⟩
theorem oH(he:DM X He H0e a e fm):SM X He H0e a (.Return (some e) pos) (xE fm):=by
 refine⟨?_⟩;refine bL (xi he.o) λD σ H ⟨Ha,ρ,st,vs,h,q⟩=>⟨Ha,ρ,st,vs,h,?_⟩
 unfold xE at q;cases e1:fm ρ st with
 |stuck|exn x=>rw[e1] at q;exact q
 |ok p =>
  obtain⟨d,st'⟩:=p;rw[e1] at q;exact λv H' Ha' us z h' rp=>q v H' Ha' z (h'.out (aB.refl _) h'.s.g.sub (λb h1 h2=>absurd h2 h1) h'.n0) rp
noncomputable def eu(f:Ev->ai D):Ev->List D->ai dH:=λρ st=>(f (eR ρ)).bind λd=>.ok (.rt d st)
theorem dm(he:DE X E e f):SM X He H0e a (.Return (some e) pos) (eu f):=by
 refine⟨?_⟩;refine bL (xi he.o) λD σ H ⟨Ha,ρ,st,vs,h,q⟩=>⟨frz (upd He a (.lst vs)) Ha H,eR ρ,h.s.frz_le,h.s.looks,?_⟩
 unfold eu at q;cases e1:f (eR ρ) with
 |stuck=>rw[e1] at q;exact q|exn x=>rw[e1] at q;exact q.elim
 |ok d =>
  rw[e1] at q;intro v H' J g rp;have hz:frz (upd He a (.lst vs)) Ha H a=none:=by unfold frz;rw[aw];exact h.n0
  have z:aB Ha J:=h.s.frz_sub.trans g.z;have n:J a=none:=by
   cases qq:J a with|none=>rfl|some o=>have:=g.nw a (by rw[qq];simp) hz;rw[h.hl] at this;cases this
  have hg:=h.s.frz_grow.trans g;refine q v H' J z ⟨⟨λb o e=>hg.s _ _ (by rw[aq (by intro c;subst c;rw[h.ha] at e;cases e)];exact e),hg.z,hg.sub,λb h1 h2=>?_⟩,n,vs,g.s _ _ h.hl,h.r.mono z⟩ rp;have key:=hg.nw b h1 h2
  by_cases c:b=a
  .subst c;exact h.ha
  .rw[aq c] at key;exact key
noncomputable def Lf(s t:Ev->List D->ai dH) (ρ:Ev) (p:D×List D):ai dH:=match p.1 with
 |.bl b=>if b=true then s ρ p.2 else t ρ p.2
 |_=>.stuck
noncomputable def qC(c:Ev->List D->ai (D×List D)) (s t:Ev->List D->ai dH):Ev->List D->ai dH:=λρ st=>(c ρ st).bind (Lf s t ρ)
theorem fB(hc:JN X He H0e a c fm)(ha:Mg X He H0e a sa s)(hb:Mg X He H0e a sb t):SM X He H0e a (.If c sa sb pos) (qC fm s t):=by
 refine⟨?_⟩;refine bL (Mw hc.o ha.o hb.o) λD σ H ⟨Ha,ρ,st,vs,h,q⟩=>⟨Ha,ρ,st,vs,h,?_⟩
 unfold qC at q;cases e1:fm ρ st with
 |stuck|exn x=>rw[e1] at q;exact q
 |ok p =>
  obtain⟨d,st'⟩:=p;rw[e1] at q;cases d with
  |bl b =>
   intro H' Ha' us z h';replace q:eT X.K He H0e a Ha (if b=true then s ρ st' else t ρ st') D:=q;cases b with|true=>rw[if_pos rfl] at q ⊢;exact⟨Ha',ρ,st',us,h',q.grow z⟩|false=>rw[if_neg Vy] at q ⊢;exact⟨Ha',ρ,st',us,h',q.grow z⟩
  |_=>exact q.elim
end
section
variable {X:Cx}{E:XK}{He H0e:Hp}{a:Addr}{st:Stmt}{e l b:Expr}{rest es:List Expr}{pos:Pos}{f:Ev->ai D}{fm gm:Ev->List D->ai (D×List D)}{s t:Ev->List D->ai dH}
theorem FQ(h:PT X e (tB (tM X.K He H0e a fm))):JN X He H0e a e fm:=by
 refine⟨?_⟩;refine gp h λσ H Q ⟨Ha,ρ,st,vs,h,q⟩=>⟨Ha,ρ,st,vs,h,?_⟩
 cases e1:fm ρ st with
 |stuck|exn x=>rw[e1] at q;exact q
 |ok p =>
  obtain⟨d,st'⟩:=p;rw[e1] at q;intro v H1 H01 us z h1 r1;cases d with|bl b=>rw[aL.mp r1];exact⟨b,rfl,q H1 H01 us z h1⟩| _=>exact q.elim
theorem LH(h:DM X He H0e a e fm)(he:∀whole,isTrue e X.env whole=(do let v ←whole;standAt e.pos;holding [v] (truthy v)):=by intro _;rfl):JN X He H0e a e fm:=FQ (Hq h.o he)
theorem qO(h:eh X (compareOp op) r)(ho:qT X.K E r o)(ha:DM X He H0e a l fm)(hb:DM X He H0e a b gm)(hm:behindInMarks op b=false):JN X He H0e a (.Compare l [op] [b] pos) (mB fm gm o):=by
 refine⟨?_⟩;refine gp (CI h ha.o hb.o hm) λσ H Q h=>?_;have w:tM X.K He H0e a (mB fm gm o) σ H λx H'=>∃k,x=.bl k/\Q k H':=by
  obtain⟨Ha,ρ,st,vs,h,q⟩:=h;refine⟨Ha,ρ,st,vs,h,?_⟩;cases e1:mB fm gm o ρ st with
  |stuck|exn x=>rw[e1] at q;exact q
  |ok p =>
   obtain⟨d,st'⟩:=p;rw[e1] at q;intro v H1 H01 us z h1 r1;cases d with|bl b=>rw[aL.mp r1];exact⟨b,rfl,q H1 H01 us z h1⟩| _=>exact q.elim
 exact iZ ho σ H _ w
noncomputable def mT(f:Ev->ai D):Ev->List D->ai (D×List D):=λρ st=>(f (eR ρ)).bind λd=>.ok (d,st)
theorem df(h:DT X E e f):JN X He H0e a e (mT f):=⟨gp h.o λσ H Q ⟨Ha,ρ,st,vs,h,q⟩=>⟨frz (upd He a (.lst vs)) Ha H,eR ρ,h.s.frz_le,h.s.looks,by
 unfold mT at q;cases e1:f (eR ρ) with
 |stuck=>rw[e1] at q;exact q|exn x=>rw[e1] at q;exact q.elim
 |ok d =>
  rw[e1] at q;cases d with
  |bl b=>exact λH' J g=>q H' Ha vs (aB.refl _) (h.back (aB.refl _) (h.s.same g.s))
  |_=>exact q.elim⟩⟩
noncomputable def RP(i:Nat) (a:Addr) (f:Ev->ai D):Ev->List D->ai (D×List D):=λρ st=>if ke ρ[i]? a=true then(f (vw i ρ st)).bind λd=>.ok (d,st) else .stuck
theorem Jd(h:DT X E e f):JN X He H0e a e (RP i a f):=⟨gp h.o λσ H Q z9=>by
 obtain⟨Ha,ρ,st,vs,h,q⟩:=z9;unfold RP at q
 by_cases hp:ke ρ[i]? a=true
 .rw[if_pos hp] at q
  obtain⟨v1,v2,v3⟩:=h.view hp;refine⟨_,vw i ρ st,v1,v3,?_⟩;cases e1:f (vw i ρ st) with
  |stuck=>rw[e1] at q;exact q|exn x=>rw[e1] at q;exact q.elim
  |ok d =>
   rw[e1] at q;cases d with|bl b=>exact λH' J g=>q H' Ha vs (aB.refl _) (h.back (aB.refl _) (h.s.same g.s))| _=>exact q.elim
 .rw[if_neg hp] at q;exact q.elim⟩
structure Pm (X:Cx) (He H0e:Hp) (a:Addr) (e:Expr) (f:Ev->List D->ai (D×List D)):Prop where
 o:PW X e (Th X.K He H0e a f)
noncomputable def C3(g:Ev->List D->ai (D×List D)) (ρ:Ev) (p:D×List D):ai (D×List D):=match p.1 with
 |.bl b=>if b=true then g ρ p.2 else .ok (.bl false,p.2)
 |_=>.stuck
noncomputable def Lg(f g:Ev->List D->ai (D×List D)):Ev->List D->ai (D×List D):=λρ st=>(f ρ st).bind (C3 g ρ)
theorem LF(ha:JN X He H0e a l fm):Pm X He H0e a (.BoolOp .And [l] pos) fm:=⟨CH ha.o⟩
theorem LG(ha:JN X He H0e a l fm)(hb:Pm X He H0e a (.BoolOp .And (b::rest) pos) gm):Pm X He H0e a (.BoolOp .And (l::b::rest) pos) (Lg fm gm):=by
 refine⟨?_⟩;refine xg (Hm ha.o hb.o) λσ H Q ⟨Ha,ρ,st,vs,h,q⟩=>⟨Ha,ρ,st,vs,h,?_⟩
 unfold Lg at q;cases e1:fm ρ st with
 |stuck|exn x=>rw[e1] at q;exact q
 |ok p =>
  obtain⟨d,st'⟩:=p;rw[e1] at q;cases d with
  |bl c =>
   intro H1 H01 us z h1;cases c with
   |true =>
    rw[if_pos rfl];refine⟨H01,ρ,st',us,h1,?_⟩;replace q:match gm ρ st' with
     |.ok (.bl b,st')=>∀H' Ha' us,aB Ha Ha'->gX X.K He H0e Ha' σ H' ρ a st' us->Q b H'
     |.ok _=>False
     |.exn _=>False
     |.stuck=>False:=q
    cases e2:gm ρ st' with
    |stuck|exn x=>rw[e2] at q;exact q
    |ok p2 =>
     obtain⟨d2,s2⟩:=p2;rw[e2] at q;cases d2 with|bl c2=>exact λH2 H02 us2 z2 h2=>q H2 H02 us2 (z.trans z2) h2| _=>exact q.elim
   |false=>rw[if_neg Vy];exact q H1 H01 us z h1
  |_=>exact q.elim
noncomputable def forM(tg:Ev->D->ai Ev) (body:Ev->List D->ai dH):List D->Ev->List D->ai dH
 |[],ρ,st=>.ok (.nx ρ st)
 |d::r,ρ,st=>(tg ρ d).bind λρ1=>(body ρ1 st).bind λx=>match x with
  |.nx ρ2 s2=>forM tg body r ρ2 s2
  |.ct ρ2 s2=>forM tg body r ρ2 s2
  |.bk ρ2 s2=>.ok (.nx ρ2 s2)
  |.rt d s=>.ok (.rt d s)
noncomputable def Si(K:Up) (He H0e:Hp) (a:Addr) (tg:Ev->D->ai Ev):TG:=λv σ H Q=>∃Ha ρ st vs d,gX K He H0e Ha σ H ρ a st vs/\Rep K Ha d v/\match tg ρ d with
  |.ok ρ'=>∀σ' H' Ha',aB Ha Ha'->gX K He H0e Ha' σ' H' ρ' a st vs->Q σ' H'
  |_=>False
theorem Qj(hg:∀vs,DG X E (upd He a (.lst vs)) H0e tgt tg):PG X tgt (Si X.K He H0e a tg):=by
 rintro pins sh σ H v u Q I r ⟨Ha,ρ,st,vs,d,h,rp,q⟩;refine(hg vs).o pins sh σ H v u Q I r ⟨Ha,ρ,d,h.s,rp,?_⟩;cases e1:tg ρ d with
 |stuck|exn x=>rw[e1] at q;exact q
 |ok ρ' =>
  rw[e1] at q;exact λσ' H' Ha' z h'=>q σ' H' Ha' z (h.back z h')
noncomputable def oh(K:Up) (He H0e:Hp) (a:Addr) (Hb:Hp) (tg:Ev->D->ai Ev) (s:Ev->List D->ai dH) (ds:List D) (D':iY) (i:Nat) (σ:L2.St) (H:Hp):Prop :=
 ∃Ha ρ st vs,aB Hb Ha/\gX K He H0e Ha σ H ρ a st vs/\eT K He H0e a Ha (forM tg s (ds.drop i) ρ st) D'
theorem oh.done{K:Up}(h:oh K He H0e a Hb tg s ds D' ds.length σ H):D'.nx σ H:=by
 obtain⟨Ha,ρ,st,vs,z,h,q⟩:=h;rw[Wk] at q;unfold forM at q;exact q σ H Ha vs (aB.refl _) h
end
section
variable {X:Cx}{E:XK}{He H0e:Hp}{a:Addr}{st:Stmt}{e l b:Expr}{rest es:List Expr}{pos:Pos}{f:Ev->ai D}{fm gm:Ev->List D->ai (D×List D)}{fa:Ev->List D->ai (List D×List D)}{s t:Ev->List D->ai dH}
noncomputable def vF(i:Nat) (ρ:Ev) (ds:List D) (p:D×List D):ai dH:=if ds.length<line then .ok (.nx (ρ.set i (.ow (.lst (ds++[p.1])))) p.2) else .stuck
noncomputable def KU(s:Option Sl) (k:List D->ai dH):ai dH:=match s with
 |some (.ow (.lst ds))=>k ds
 |_=>.stuck
noncomputable def Ib(i:Nat) (f:Ev->List D->ai (D×List D)):Ev->List D->ai dH:=λρ st=>KU ρ[i]? λds=>(f ρ st).bind (vF i ρ ds)
theorem E3(hN:X.N[i]?=some x)(hv:AZ X.env.scope x)(he:DM X He H0e a e fm)
  (hd:(x==("__debug__":Str))=false:=by decide)(hcd:(x==("__classdict__":Str))=false:=by decide)
  (hbase:attributeBase (.Name x p1) "append" X.env (eval (.Name x p1) X.env)=eval (.Name x p1) X.env:=by rfl)
  (hfew:((backTo p3 (starEach [e] X.env)).all (λx=>!x.1)&&(backToKw p3 (keywordEach [] X.env)).all (λx=>x.1.isSome)
  &&decide ([e].length+([]:List Keyword).length+(if([]:List Keyword).isEmpty then 0 else 1)<30))=true:=by exact sQ rfl)
  (hline:(p2.endLine==p3.line)=true:=by rfl) (hs:starEach [e] X.env=(false,eval e X.env)::starEach [] X.env:=by exact aQ rfl) (hplain:(backTo p3 (starEach [] X.env)).any (·.1)=false:=by exact bB rfl)
  (hw:swapsWith (.Call (.Attribute (.Name x p1) "append" p2) [e] [] p3) none pos.line X.env=pure false:=by rfl) :
  SM X He H0e a (.Expr (.Call (.Attribute (.Name x p1) "append" p2) [e] [] p3) pos) (Ib i fm):=by
 refine⟨?_⟩;refine bL (qz (HE Ym Yg Yf oV (fR hN hv hd hcd) (cH he.o eY hs) hbase hfew hline hs hplain) hw) λD σ H ⟨Ha,ρ,st,vs,h,q⟩=>?_;unfold Ib KU at q;cases e0:ρ[i]? with
 |none=>rw[e0] at q;exact q.elim
 |some sl =>
  rw[e0] at q;cases sl with
  |ow d =>
   cases d with
   |lst ds =>
    obtain⟨p,k1,k2,k3,ws,k4,k5⟩:=h.s.ow i _ e0;refine⟨.ref p,k1,.inl ⟨rfl,ws,eC.of k4⟩,?_⟩;refine⟨Ha,ρ,st,vs,h,?_⟩;replace q:eT X.K He H0e a Ha ((fm ρ st).bind (vF i ρ ds)) D:=q;cases e1:fm ρ st with
    |stuck|exn x=>rw[e1] at q;exact q
    |ok pr =>
     obtain⟨d,st'⟩:=pr;rw[e1] at q;intro v H' Ha' us z h' rp;obtain⟨p',k1',k2',k3',ws',k4',k5'⟩:=h'.s.ow i _ e0;rw[k1] at k1';cases k1';replace q:eT X.K He H0e a Ha (vF i ρ ds (d,st')) D:=q;unfold vF at q
     by_cases hl:ds.length<line
     .rw[if_pos hl] at q
      refine⟨p,ws',v,rfl,rfl,k4',by rw[←k5'.length];exact Uy hl (by decide),?_⟩;have hpa:p≠a:=by intro c;subst c;rw[aw] at k2';cases k2'
      exact q σ _ Ha' us z ⟨h'.ha,h'.h0,by rw[aq (U5 hpa)];exact h'.hl,h'.r,h'.s.write e0 k1 (k5'.app (Reps.cons rp Reps.nil))⟩
     .rw[if_neg hl] at q;exact q.elim
   |_=>exact q.elim
  |_=>exact q.elim
noncomputable def mj(ρ:Ev) (d:D) (p:D×List D):ai dH:=match p.1 with
 |.int j=>match BP p.2.length j with
  |some n=>.ok (.nx ρ (p.2.set n d))
  |none=>.stuck
 |_=>.stuck
noncomputable def zR(i:Nat) (a:Addr) (f k:Ev->List D->ai (D×List D)):Ev->List D->ai dH:=λρ st=>if ke ρ[i]? a=true then(f ρ st).bind λp=>(k ρ p.2).bind (mj ρ p.1) else .stuck
theorem C8{s:Option Sl}(h:ke s a=true):s=some (.pt a):=by
 unfold ke at h;split at h
 .rw[eq_of_beq h]
 .cases h
theorem Bj(hN:X.N[i]?=some x)(hv:AZ X.env.scope x)(he:DM X He H0e a e fm)(hk:DM X He H0e a b gm)
  (hd:(x==("__debug__":Str))=false:=by decide)(hcd:(x==("__classdict__":Str))=false:=by decide)
  (ha:∀v,assign (.Subscript (.Name x p1) b p2) X.env v=(do
   let ov ←holding [v] (eval (.Name x p1) X.env)
   let iv ←holding [v,ov] (eval b X.env)
   standAt p2
   holding [v,ov,iv] (setItem ov iv v)
   release [v,ov,iv] []):=by intro _;rfl)
  (hs:swapsWithSole [.Subscript (.Name x p1) b p2] e pos.line X.env=pure false:=by rfl) (hw:swappedStores [.Subscript (.Name x p1) b p2] e X.env=pure none:=by rfl)
  (h1:(assignEach [.Subscript (.Name x p1) b p2] X.env).map (·.2)=[assign (.Subscript (.Name x p1) b p2) X.env]:=by rfl) :
  SM X He H0e a (.Assign [.Subscript (.Name x p1) b p2] e pos) (zR i a fm gm):=by
 refine⟨?_⟩;refine bL (Bq he.o (HA (fR hN hv hd hcd) hk.o yX ha) hs hw h1) λD σ H ⟨Ha,ρ,st,vs,h,q⟩=>⟨Ha,ρ,st,vs,h,?_⟩
 unfold zR at q
 by_cases hp:ke ρ[i]? a=true
 .rw[if_pos hp] at q
  have hσ:=h.s.ex.2 i a (C8 hp);cases e1:fm ρ st with
  |stuck|exn x=>rw[e1] at q;exact q
  |ok pr =>
   obtain⟨d,s1⟩:=pr;rw[e1] at q;intro v H1 H01 us1 z1 h1' r1;refine⟨.ref a,hσ,H01,ρ,s1,us1,h1',?_⟩;replace q:eT X.K He H0e a Ha ((gm ρ s1).bind (mj ρ d)) D:=q;cases e2:gm ρ s1 with
   |stuck|exn x=>rw[e2] at q;exact q
   |ok pr2 =>
    obtain⟨j,s2⟩:=pr2;rw[e2] at q;intro u H2 H02 us2 z2 h2 r2;replace q:eT X.K He H0e a Ha (mj ρ d (j,s2)) D:=q;unfold mj at q;cases j with
    |int n =>
     cases en:BP s2.length n with
     |none=>simp only[en] at q;exact q.elim
     |some m =>
      simp only[en] at q;refine⟨a,us2,n,m,rfl,az.mp r2,h2.hl,by rw[←h2.r.length];exact en,?_⟩;refine q σ _ H02 (us2.set m v) (z1.trans z2) (h2.change (H':=upd H2 a (.lst (us2.set m v))) ⟨λb o e=>?_,aB.refl _,λb o e=>?_,λb k1 k2=>absurd k2 k1⟩ h2.n0 aw (h2.r.set (r1.mono z2) m))
      .have c:b≠a:=by intro c;subst c;rw[dF] at e;cases e
       rw[aq c];rw[fX c] at e;exact e
      .have c:b≠a:=by intro c;subst c;rw[h2.n0] at e;cases e
       rw[aq c];exact h2.s.g.sub _ _ e
    |_=>exact q.elim
 .rw[if_neg hp] at q;exact q.elim
variable {CX:A5}{k n:Nat}{fn:Addr}{fd:FuncData}{ps:List Str}{x:Str}{p:Pos}
theorem LJ(F:fN X.prog X.w X.K X.mg X.base CX k fn fd ps (spD X.K n m))(hr:cE k X.A)(hg:Gl X x)(hm:X.mg x=some (.ref fn))
  (hk:WD X.K (.ref fn)=true)(hb:ik X.K fd ps [])(hx:gf CX X E)(ha:Ml X He H0e a (e::es) fa)(hn:(e::es).length=n:=by rfl)(hl:∀ρ st ds,fa ρ st=.ok ds->ds.1.length=(e::es).length)
  (hdb:(x==("__debug__":Str))=false:=by decide)(he:starEach (e::es) X.env=(false,eval e X.env)::starEach es X.env:=by exact aQ rfl)(hpl:(backTo pos (starEach es X.env)).any (·.1)=false:=by exact bB rfl) :
  DM X He H0e a (.Call (.Name x p) (e::es) [] pos) (mA fa m):=by
 refine⟨?_⟩;refine aX (qA F hr hg hm hk hb .nil hx ha.o hdb he hpl) λσ H Q ⟨Ha,ρ,st,vs,h,q⟩=>⟨Ha,ρ,st,vs,h,?_⟩
 unfold mA at q;cases e1:fa ρ st with
 |stuck|exn x=>rw[e1] at q;exact q
 |ok pr =>
  obtain⟨ds,s1⟩:=pr;rw[e1] at q;intro xs H1 H01 us z1 h1 r1;refine⟨?_,H01,ds,h1.s.g.sub,by simpa using r1,?_⟩
  .have:=r1.length
   have:=hl ρ st _ e1;simp only[UT] at *;omega
  .simp only[ai.bind] at q
   cases e2:m ds with
   |stuck=>rw[e2] at q;exact q|exn x=>rw[e2] at q;exact q.elim
   |ok d =>
    rw[e2] at q;exact λv' H' Ha' g rp=>q v' H' Ha' us (z1.trans g.z) (h1.back g.z (h1.s.grow g)) rp
noncomputable def Gf(K:Up) (n:Nat) (m:Addr->List D->List D->ai (D×List D)):Sp:=λvs H Q E=>vs.length=n+1/\∃Ha ds a st us0 vs0,vs=.ref a::vs0/\aB Ha H/\Reps K Ha ds vs0/\Ha a=none/\H a=some (.lst us0)/\Reps K Ha st us0/\match m a st ds with
 |.ok (d,st')=>∀v H' Ha' us,bp (FN a H) Ha H' Ha'->Ha' a=none->H' a=some (.lst us)->Reps K Ha' st' us->Rep K Ha' d v->Q v H'
 |.exn _=>False
 |.stuck=>False
noncomputable def Cf(a:Addr) (m:Addr->List D->List D->ai (D×List D)) (p:List D×List D):ai (D×List D):=m a p.2 p.1
noncomputable def bD(i:Nat) (a:Addr) (fa:Ev->List D->ai (List D×List D)) (m:Addr->List D->List D->ai (D×List D)):Ev->List D->ai (D×List D):=λρ st=>if ke ρ[i]? a=true then(fa ρ st).bind (Cf a m) else .stuck
theorem Jg(F:fN X.prog X.w X.K X.mg X.base CX k fn fd ps (Gf X.K n m))(hr:cE k X.A)(hg:Gl X x)(hm:X.mg x=some (.ref fn))
  (hk:WD X.K (.ref fn)=true)(hb:ik X.K fd ps [])(hx:gf CX X E)(hN:X.N[i]?=some y)(hv:AZ X.env.scope y)(ha:Ml X He H0e a es fa)(hl:∀ρ st ds,fa ρ st=.ok ds->ds.1.length=n)
  (hd:(y==("__debug__":Str))=false:=by decide)(hcd:(y==("__classdict__":Str))=false:=by decide)(hdb:(x==("__debug__":Str))=false:=by decide)(he:starEach (.Name y p1::es) X.env=(false,eval (.Name y p1) X.env)::starEach es X.env:=by exact aQ rfl)(hpl:(backTo pos (starEach es X.env)).any (·.1)=false:=by exact bB rfl) :
  DM X He H0e a (.Call (.Name x p) (.Name y p1::es) [] pos) (bD i a fa m):=by
 refine⟨?_⟩;refine aX (qA F hr hg hm hk hb .nil hx (cH (fR hN hv hd hcd) ha.o he) hdb he hpl) λσ H Q ⟨Ha,ρ,st,vs,h,q⟩=>?_;unfold bD at q
 by_cases hp:ke ρ[i]? a=true
 .rw[if_pos hp] at q
  have hσ:=h.s.ex.2 i a (C8 hp);refine⟨.ref a,hσ,Ha,ρ,st,vs,h,?_⟩;cases e1:fa ρ st with
  |stuck|exn x=>rw[e1] at q;exact q
  |ok pr =>
   obtain⟨ds,s1⟩:=pr;rw[e1] at q;intro xs H1 H01 us z1 h1 r1;refine⟨?_,H01,ds,a,s1,us,xs,by simp,h1.s.g.sub,r1,h1.n0,h1.hl,h1.r,?_⟩
   .have:=r1.length
    have:=hl ρ st _ e1;simp only[UT,UI] at *;omega
   .replace q:match m a s1 ds with
     |.ok (d,st')=>∀v H' Ha' us,aB Ha Ha'->gX X.K He H0e Ha' σ H' ρ a st' us->Rep X.K Ha' d v->Q v H'
     |.exn _=>False
     |.stuck=>False:=q
    cases e2:m a s1 ds with
    |stuck|exn x=>rw[e2] at q;exact q
    |ok pr2 =>
     obtain⟨d,s2⟩:=pr2;rw[e2] at q;exact λv H' Ha' us' g n' hl' r' rp=>q v H' Ha' us' (z1.trans g.z) (h1.change g n' hl' r') rp
 .rw[if_neg hp] at q;exact q.elim
end
noncomputable def G6(r:dH):ai (D×List D):=match r with
 |.nx _ st=>.ok (.non,st)
 |.rt d st=>.ok (d,st)
 |_=>.stuck
noncomputable def qf(n:Nat) (s:Addr->Ev->List D->ai dH) (a:Addr) (st ds:List D):ai (D×List D):=(s a (.pt a::ds.map Sl.sh++U2 (n-(ds.length+1)) .no) st).bind G6
theorem BU{K:Up}{st:Stmt}{N ps:List Str}{k n:Nat}(F:Gh K x qual st f fd)(S:d8 N ps (defScope st))(hn:ps.length=n+1)
  (hbody:∀(cdv:Value) (A:Around) (outer:List Vu) (s0:Shared) (H He Ha:Hp) (a:Addr) (E:XK),cE k (A.deeper (envOfC qual (defScope st) s0.heap.objs.size f cdv)) ->
   Mg (di CX0 P w K mg base N qual (defScope st) f cdv A outer s0 H E).nox He Ha a (defBody st) (s a)):fN P w K mg base CX0 (k+1) f fd ps (Gf K n (qf N.length s)):=by
 have hpl:ps.length<=N.length:=by have:=congrArg WZ S.pre;rw[Vf] at this;omega
 refine F.ok S (λvs H Q E h=>h.1.trans hn.symm) λcdv A outer s0 H vs Q E hr h=>?_;obtain⟨hlen,Ha,ds,a,sl,us0,vs0,rfl,hs,hv,h0,hl,hst,q⟩:=h;have lv:=hv.length;have hσ:start N (.ref a::vs0)=some (.ref a)::(vs0.map some++U2 (N.length-(vs0.length+1)) none):=by
  unfold L2.start;simp
 have hρ0:∀(i:Nat) (z:Sl),(Sl.pt a::ds.map Sl.sh++U2 (N.length-(ds.length+1)) Sl.no)[i]?=some z->z=.no∨(i=0/\z=.pt a)∨∃j d,i=j+1/\ds[j]?=some d/\z=.sh d:=λi z e=>by
  cases i with
  |zero=>simp at e;exact .inr (.inl ⟨rfl,e.symm⟩)
  |succ j =>
   rw[Wl,U9] at e
   by_cases hj:j<ds.length
   .rw[UH (by simpa using hj),UD,Uz hj] at e
    cases e;exact .inr (.inr ⟨j,ds[j],rfl,Uz hj,rfl⟩)
   .rw[UN (by simpa using hj),UW] at e
    split at e
    .cases e;exact .inl rfl
    .cases e
 refine⟨_,(hbody cdv A outer s0 H (FN a H) Ha a E hr).o,Ha,.pt a::ds.map Sl.sh++U2 (N.length-(ds.length+1)) .no,sl,us0,⟨dF,h0,hl,hst,?_⟩,?_⟩
 .refine⟨⟨λb o e=>?_,aB.refl _,hs,λb h1 h2=>absurd h2 h1⟩,λi d e=>?_,λi d e=>?_,λi j d d' hij e=>?_,?_,⟨λi j es e=>?_,λi b e=>?_⟩⟩
  .by_cases c:b=a
   .subst c;rw[aw] at e;cases e;exact hl
   .rw[aq c,fX c] at e;exact e
  .rcases hρ0 i _ e with h|⟨_,h⟩|⟨j,d',rfl,hd,h⟩
   .cases h
   .cases h
   .cases h
    obtain⟨v,h1,h2⟩:=hv.get hd;refine⟨v,?_,h2⟩;rw[hσ,U9,UH (by rw[Ur];exact(Uw.mp h1).1),UD,h1];rfl
  .rcases hρ0 i _ e with h|⟨_,h⟩|⟨j,d',rfl,hd,h⟩<;>cases h
  .rcases hρ0 i _ e with h|⟨_,h⟩|⟨j,d',rfl,hd,h⟩<;>cases h
  .rw[hσ]
   simp only[UI,U6,Ur,Vj];omega
  .rcases hρ0 i _ e with h|⟨_,h⟩|⟨j,d',rfl,hd,h⟩<;>cases h
  .rcases hρ0 i _ e with h|⟨rfl,h⟩|⟨j,d',rfl,hd,h⟩
   .cases h
   .cases h;rw[hσ];rfl
   .cases h
 .unfold qf at q
  cases e1:s a (.pt a::ds.map Sl.sh++U2 (N.length-(ds.length+1)) .no) sl with
  |stuck|exn x=>rw[e1] at q;exact q
  |ok r =>
   rw[e1] at q;cases r with
   |nx ρ' st'=>exact λσ' H' Ha' us z h'=>q .non H' Ha' us ⟨λb o e=>h'.s.g.s _ _ (by rw[aq (by intro c;subst c;rw[dF] at e;cases e)];exact e),h'.s.g.z,h'.s.g.sub,λb h1 h2=>by
      have:=h'.s.g.nw b h1 h2
      by_cases c:b=a
      .subst c;exact dF
      .rw[aq c] at this;exact this⟩ h'.n0 h'.hl h'.r (aV.mpr rfl)
   |rt d st'=>exact λv H' Ha' z o rp=>let ⟨us,l1,l2⟩:=o.l;q v H' Ha' us o.g o.n l1 l2 rp
   |bk ρ' st'|ct ρ' st'=>exact q.elim
section
variable {K:Up}{He H0e Ha H:Hp}{σ:L2.St}{ρ:Ev}
theorem cT.enter(h:cT K He H0e Ha σ H ρ)(hi:i<ρ.length)(he:He p=none)(h0:Ha p=none)(hl:H p=some (.lst vs))(r:Reps K Ha ds vs)
  (ho:∀(j:Nat) (d:D) (q:Addr),ρ[j]?=some (.ow d)->σ[j]?=some (some (.ref q))->q≠p)(hx:∀(j k:Nat) (es:List D),ρ[j]?≠some (.ox k es)):gX K He H0e Ha (σ.set i (some (.ref p))) H (ρ.set i (.pt p)) p ds vs:=by
 have key:∀(j:Nat) (s:Sl),(ρ.set i (.pt p))[j]?=some s->(j=i/\s=.pt p)∨(j≠i/\ρ[j]?=some s):=λj s e=>by
  by_cases hj:i=j
  .subst hj;rw[UQ hi] at e;cases e;exact .inl ⟨rfl,rfl⟩
  .rw[Us hj] at e;exact .inr ⟨λz=>hj z.symm,e⟩
 have h0e:H0e p=none:=h.g.z.free h0;refine⟨he,h0e,hl,r,⟨⟨λb o e=>?_,h.g.z,h.g.sub,λb h1 h2=>?_⟩,λj d e=>?_,λj d e=>?_,λj k d d' hn e1 e2=>?_,by simp [h.ln],⟨λj k es e=>?_,λj b e=>?_⟩⟩⟩
 .by_cases c:b=p
  .subst c;rw[aw] at e;cases e;exact hl
  .rw[aq c] at e;exact h.g.s _ _ e
 .have c:b≠p:=by intro c;subst c;exact h1 h0
  rw[aq c];exact h.g.nw b h1 h2
 .rcases key j _ e with⟨_,e'⟩|⟨hj,e'⟩
  .cases e'
  .obtain⟨v,h1,h2⟩:=h.rd j d e'
   exact⟨v,by rw[Us (U5 hj)];exact h1,h2⟩
 .rcases key j _ e with⟨_,e'⟩|⟨hj,e'⟩
  .cases e'
  .obtain⟨q,h1,h2,h3,h4⟩:=h.ow j d e'
   exact⟨q,by rw[Us (U5 hj)];exact h1,by rw[aq (ho j d q e' h1)];exact h2,h3,h4⟩
 .rcases key j _ e1 with⟨_,e'⟩|⟨hj,e1'⟩
  .cases e'
  rcases key k _ e2 with⟨_,e'⟩|⟨hk,e2'⟩
  .cases e'
  rw[Us (U5 hj),Us (U5 hk)];exact h.ap j k d d' hn e1' e2'
 .rcases key j _ e with⟨_,e'⟩|⟨hj,e'⟩
  .cases e'
  .exact absurd e' (hx j k es)
 .rcases key j _ e with⟨rfl,e'⟩|⟨hj,e'⟩
  .cases e'
   rw[UQ (by rw[←h.ln];exact hi)]
  .rw[Us (U5 hj)];exact h.ex.2 j b e'
noncomputable def yp(i:Nat) (ρ:Ev):Ev:=ρ.take i++U2 (ρ.length-i) .no
theorem Jp:(yp i ρ).length=ρ.length:=by
 unfold yp;rw[U6,Vf,Vj];omega
theorem LX{j:Nat}(e:(yp i ρ)[j]?=some s):s=.no∨ρ[j]?=some s:=by
 unfold yp at e
 by_cases hj:j<(ρ.take i).length
 .rw[UH hj] at e
  rw[List.getElem?_take] at e;split at e
  .exact .inr e
  .cases e
 .rw[UN (by omega),UW] at e
  split at e
  .cases e;exact .inl rfl
  .cases e
theorem gX.leave{st:List D}(h:gX K He H0e Ha σ H ρ a st vs)(i:Nat):cT K He H0e Ha σ H (yp i ρ):=by
 have hn:∀b,upd He a (.lst vs) b=none->He b=none:=λb e=>by
  by_cases c:b=a
  .subst c;exact h.ha
  .rw[aq c] at e;exact e
 have key:∀(j:Nat) (s:Sl),(yp i ρ)[j]?=some s->s=.no∨ρ[j]?=some s:=λj s e=>LX e;refine⟨⟨λb o e=>h.s.g.s _ _ (by rw[aq (by intro c;subst c;rw[h.ha] at e;cases e)];exact e),h.s.g.z,h.s.g.sub,λb h1 h2=>hn b (h.s.g.nw b h1 h2)⟩,λj d e=>?_,λj d e=>?_,λj k d d' hij e1 e2=>?_,by rw[Jp];exact h.s.ln,(h.s.ex.he hn).upd (λj s e=>?_) (aB.refl _) (λ_ _ _ e=>e) λp us _ q0 hq _=>⟨hq,q0⟩⟩
 .rcases key j _ e with h'|h'
  .cases h'
  .exact h.s.rd j d h'
 .rcases key j _ e with h'|h'
  .cases h'
  .obtain⟨q,h1,h2,h3⟩:=h.s.ow j d h'
   exact⟨q,h1,hn q h2,h3⟩
 .rcases key j _ e1 with h'|h'
  .cases h'
  rcases key k _ e2 with h''|h''
  .cases h''
  exact h.s.ap j k d d' hij h' h''
 .rcases key j _ e with h'|h'
  .exact .inr (.inr (.inl h'))
  .exact .inl ⟨h',rfl⟩
end
open Classical in
noncomputable def BK(F:Addr->ai Fl):ai Fl:=if h:∃r,∀a,F a=r then h.choose else .stuck
theorem Li(h:∀a,F a=r):BK F=r:=by
 have hx:∃r,∀a,F a=r:=⟨r,h⟩
 unfold BK;rw[dif_pos hx];exact(hx.choose_spec 0).symm.trans (h 0)
theorem Lh(h:BK F≠.stuck)(a:Addr):F a=BK F:=by
 unfold BK at h ⊢
 by_cases hx:∃r,∀a,F a=r
 .rw[dif_pos hx];exact hx.choose_spec a
 .rw[dif_neg hx] at h;exact absurd rfl h
noncomputable def Ds(i:Nat) (r:ai dH):ai Fl:=match r with
 |.ok (.nx ρ _)=>.ok (.nx (yp i ρ))
 |.ok (.rt d _)=>.ok (.rt d)
 |.ok (.bk ρ _)=>.ok (.bk (yp i ρ))
 |.ok (.ct ρ _)=>.ok (.ct (yp i ρ))
 |_=>.stuck
noncomputable def Qv(ρ:Ev):Bool:=ρ.all λs=>match s with
 |.ox _ _=>false
 |_=>true
noncomputable def yc(i:Nat) (s:Addr->Ev->List D->ai dH) (ρ:Ev) (d:D):ai Fl:=match d with
 |.lst ds=>if Qv ρ=true/\i<ρ.length then BK λa=>Ds i (s a (ρ.set i (.pt a)) ds) else .stuck
 |_=>.stuck
noncomputable def lO(i:Nat) (f:Ev->ai D) (s:Addr->Ev->List D->ai dH):Ev->ai Fl:=λρ=>(f ρ).bind (yc i s ρ)
section
variable {X:Cx}{E:XK}{He H0e:Hp}{st:Stmt}{rest:List Stmt}{e:Expr}{es:List Expr}{pos:Pos}{f:Ev->ai D}{s:Addr->Ev->List D->ai dH}
theorem FO(hN:X.N.Nodup)(hi:X.N[i]?=some x)(hx:Gg X.env.scope x)(he:DF X E e f)(hr:∀a,Mg X He H0e a rest (s a))(hs:swapsWith e (some (.Name x pos')) pos.line X.env=pure false:=by rfl)
  (hf:X.fn x=true∨X.env.scope.names.lookup x=some .local := by first|exact .inl rfl|exact .inr rfl|assumption):A8 X E He H0e (.Assign [.Name x pos'] e pos::rest) (lO i f s):=by
 refine⟨?_⟩;have h2:wJ X rest λG σ H=>∃p,RM X.K He H0e p (s p) G σ H:=λpins sh σ H G I ⟨p,h⟩=>(hr p).o pins sh σ H G I h;refine dW (fF (oK hN hi hx he.o hs hf) h2) λG σ H ⟨Ha,ρ,h,q⟩=>⟨Ha,ρ,h.g.sub,h.rd,?_⟩
 unfold lO at q;cases e1:f ρ with
 |stuck=>rw[e1] at q;exact q|exn x=>rw[e1] at q;exact λC ox H' Ha' g ex=>q C ox H' Ha' (h.g.trans g) ex
 |ok d =>
  rw[e1] at q;replace q:bR X.K E He H0e Ha (yc i s ρ d) G:=q;unfold yc at q;cases d with
  |lst ds =>
   simp only at q
   by_cases hc:Qv ρ=true/\i<ρ.length
   .rw[if_pos hc] at q
    intro p vs H' Ha' g hp h0 hv rp;have hg:=h.grow g;have hnx:∀(j k:Nat) (es:List D),ρ[j]?≠some (.ox k es):=λj k es e=>by
     have:=U7.mp hc.1 _ (UA e);cases this
    have hm:=hg.enter (i:=i) (p:=p) (ds:=ds) (vs:=vs) hc.2 (h.g.s.free hp) h0 hv rp (λj d q' ej es'=>by
     obtain⟨q2,k1,_,_,k4⟩:=h.ow j d ej;rw[es'] at k1;cases k1;cases d with
     |lst ds'|dic ks' ds'=>obtain⟨ws,k5,_⟩:=k4;intro c;subst c;rw[hp] at k5;cases k5
     |_=>exact k4.elim) hnx
    have hns:BK (λa=>Ds i (s a (ρ.set i (.pt a)) ds))≠.stuck:=λz=>by rw[z] at q;exact q
    have hF:=Lh hns p;rw[←hF] at q;refine⟨p,Ha',_,ds,vs,hm,?_⟩;replace q:=bR.grow q g.z;unfold Ds at q;cases e2:s p (ρ.set i (.pt p)) ds with
    |stuck=>rw[e2] at q;exact q|exn x=>rw[e2] at q;exact q.elim
    |ok r =>
     rw[e2] at q;cases r with|nx ρ' st'=>exact λσ' H2 H02 us z h'=>q σ' H2 H02 z (h'.leave i)|rt d st'=>exact λv H2 H02 z o rp=>q v H2 H02 o.g rp|bk ρ' st'=>exact λσ' H2 H02 us z h'=>q σ' H2 H02 z (h'.leave i)|ct ρ' st'=>exact λσ' H2 H02 us z h'=>q σ' H2 H02 z (h'.leave i)
   .rw[if_neg hc] at q;exact q.elim
  |_=>exact q.elim
end
noncomputable def T3(K:Up) (He H0e:Hp) (a:Addr) (src:Ev->List D->ai (List D×List D)):TI:=λσ H R=>∃Ha ρ st vs,gX K He H0e Ha σ H ρ a st vs/\match src ρ st with
 |.ok (ds,st')=>∀J H' Ha' us,aB Ha Ha'->gX K He H0e Ha' σ H' ρ a st' us->O1 K ds J Ha'->R J H'
 |.exn _=>False
 |.stuck=>False
structure MI (X:Cx) (He H0e:Hp) (a:Addr) (tg iter:Expr) (src:Ev->List D->ai (List D×List D)):Prop where
 o:PI X tg iter (T3 X.K He H0e a src)
noncomputable def xD(src:Ev->ai (List D)):Ev->List D->ai (List D×List D):=λρ st=>(src ρ).bind λds=>.ok (ds,st)
noncomputable def xC(p:D×List D):ai (List D×List D):=match p.1 with
 |.int j=>if -4611686018427387904<=j/\j<4611686018427387904 then .ok (intsFrom 0 j.toNat,p.2) else .stuck
 |_=>.stuck
noncomputable def C1(f:Ev->List D->ai (D×List D)):Ev->List D->ai (List D×List D):=λρ st=>(f ρ st).bind xC
section
variable {X:Cx}{E:XK}{He H0e:Hp}{a:Addr}{st:Stmt}{e l b tgt iter:Expr}{rest es:List Expr}{pos:Pos}{f:Ev->ai D}{fm gm:Ev->List D->ai (D×List D)}{fa:Ev->List D->ai (List D×List D)}{s t:Ev->List D->ai dH}
theorem mC(h:DI X E tgt iter src):MI X He H0e a tgt iter (xD src):=⟨i9 h.o λσ H R ⟨Ha,ρ,st,vs,h,q⟩=>⟨Ha,ρ,h.s.g.sub,h.s.rd,by
 unfold xD at q;cases e1:src ρ with
 |stuck=>rw[e1] at q;exact q|exn x=>rw[e1] at q;exact q.elim
 |ok ds =>
  rw[e1] at q;exact λJ H' Ha' g it=>q J H' Ha' vs g.z (h.back g.z (h.s.grow g)) it⟩⟩
theorem Fp(hgl:Gl X "range")(hm:X.mg "range"=none)(hi:DM X He H0e a iter fm)(hst:starEach [iter] X.env=[(false,eval iter X.env)]:=by exact gF rfl):MI X He H0e a tgt (.Call (.Name "range" p) [iter] [] pos2) (C1 fm):=by
 refine⟨i9 (oO hgl hm (cH hi.o eY hst) hst) λσ H R ⟨Ha,ρ,st,vs,h,q⟩=>⟨Ha,ρ,st,vs,h,?_⟩⟩;unfold C1 at q;cases e1:fm ρ st with
 |stuck|exn x=>rw[e1] at q;exact q
 |ok pr =>
  obtain⟨d,s1⟩:=pr;rw[e1] at q;intro v H1 H01 us z h1 r1;cases d with
  |int j =>
   rw[az.mp r1];replace q:match (if -4611686018427387904<=j/\j<4611686018427387904 then ai.ok (intsFrom 0 j.toNat,s1) else .stuck) with
    |.ok (ds,st')=>∀J H' Ha' us,aB Ha Ha'->gX X.K He H0e Ha' σ H' ρ a st' us->O1 X.K ds J Ha'->R J H'
    |.exn _=>False
    |.stuck=>False:=q
   by_cases hj:-4611686018427387904<=j/\j<4611686018427387904
   .rw[if_pos hj] at q
    exact⟨j,rfl,hj.1,hj.2,q _ H1 H01 us z h1 vS⟩
   .rw[if_neg hj] at q;exact q.elim
  |_=>exact q.elim
theorem oh.step2{K:Up}{st:List D}(z:aB Hb Ha)(h:gX K He H0e Ha σ H ρ a st vs)(q:eT K He H0e a Ha (forM tg s (ds.drop i) ρ st) D')(hd:ds[i]?=some d)(rv:Rep K Ha d v)
  (he:∀ρ,tg ρ d=.stuck∨∃ρ',tg ρ d=.ok ρ') :
  Si K He H0e a tg v σ H λσ2 H2=>RM K He H0e a s { D' with nx:=oh K He H0e a Hb tg s ds D' (i+1),ct:=oh K He H0e a Hb tg s ds D' (i+1),bk:=D'.nx } σ2 H2:=by
 have hi:i<ds.length:=(Uw.mp hd).1;have hdr:ds.drop i=d::ds.drop (i+1):=by
  rw[Va hi];rw[Uz hi] at hd;cases hd;rfl
 rw[hdr] at q;refine⟨Ha,ρ,st,vs,d,h,rv,?_⟩;unfold forM at q;rcases he ρ with e1|⟨ρ1,e1⟩
 .rw[e1] at q;exact q.elim
 .rw[e1] at q ⊢
  intro σ' H' Ha' z' h';refine⟨Ha',ρ1,st,vs,h',?_⟩;replace q:=eT.grow (r:=(s ρ1 st).bind λx=>match x with
   |.nx ρ2 s2=>forM tg s (ds.drop (i+1)) ρ2 s2
   |.ct ρ2 s2=>forM tg s (ds.drop (i+1)) ρ2 s2
   |.bk ρ2 s2=>.ok (.nx ρ2 s2)
   |.rt d s=>.ok (.rt d s)) q z'
  cases e2:s ρ1 st with
  |stuck|exn x=>rw[e2] at q;exact q
  |ok r =>
   rw[e2] at q;cases r with|nx ρ2 s2=>exact λσ3 H3 H03 vs3 z3 h3=>⟨H03,ρ2,s2,vs3,(z.trans z').trans z3,h3,eT.grow (r:=forM tg s (ds.drop (i+1)) ρ2 s2) q z3⟩|ct ρ2 s2=>exact λσ3 H3 H03 vs3 z3 h3=>⟨H03,ρ2,s2,vs3,(z.trans z').trans z3,h3,eT.grow (r:=forM tg s (ds.drop (i+1)) ρ2 s2) q z3⟩|bk ρ2 s2|rt d s2=>exact q
noncomputable def ka(src:Ev->List D->ai (List D×List D)) (tg:Ev->D->ai Ev) (s:Ev->List D->ai dH):Ev->List D->ai dH:=λρ st=>(src ρ st).bind λp=>forM tg s p.1 ρ p.2
theorem kQ(hp:PassesOwn (model X.prog X.w) X.A X.env X.xe)(hc:X.calm=true)(hi:MI X He H0e a tgt iter src)(hg:∀vs,DG X E (upd He a (.lst vs)) H0e tgt tg)(ht:wG tg)(hb:Mg X He H0e a body s)
  (hs:∀x,foldedSetIterable iter X.env x=pure x:=by intro _;rfl):SM X He H0e a (.For tgt iter body [] pos) (ka src tg s):=by
 refine⟨bL (xj hp hc hi.o (Qj hg) hb.o hs) λD' σ H ⟨Ha,ρ,st,vs,h,q⟩=>⟨Ha,ρ,st,vs,h,?_⟩⟩;unfold ka at q;cases e1:src ρ st with
 |stuck|exn x=>rw[e1] at q;exact q
 |ok pr =>
  obtain⟨ds,s1⟩:=pr;rw[e1] at q;intro J H1 H01 us z h1 it;have q1:eT X.K He H0e a H01 (forM tg s ds ρ s1) D':=eT.grow (r:=forM tg s ds ρ s1) q z;refine⟨λi m σ' H'=>m+i=ds.length/\oh X.K He H0e a H01 tg s ds D' i σ' H',⟨ds.length,rfl,H01,ρ,s1,us,aB.refl _,h1,q1⟩,?_⟩;rintro i m σ' H' ⟨hm,Ha',ρ',st',vs',z',h',hq⟩
  by_cases hlt:i<ds.length
  .refine .inr ⟨it.go i H' Ha' z' h'.s.g.sub hlt,λσ2 H2=>oh X.K He H0e a H01 tg s ds D' (i+1) σ2 H2,λσ2 H2 hl=>⟨m-1,by omega,by omega,hl⟩,λx H2 hy=>?_⟩
   obtain⟨H₀2,g2,rp⟩:=it.yld i H' Ha' x H2 ds[i] z' h'.s.g.sub (Uz hlt) hy;exact oh.step2 (z'.trans g2.z) (h'.back g2.z (h'.s.grow g2)) (eT.grow (r:=forM tg s (ds.drop i) ρ' st') hq g2.z) (Uz hlt) rp λρ=>ht ρ _
  .have e:i=ds.length:=by omega
   refine .inl ⟨it.stop i H' Ha' z' h'.s.g.sub (by omega),?_⟩;subst e;exact oh.done ⟨Ha',ρ',st',vs',z',h',hq⟩
theorem OF:gk X E (λxs H1 Q=>xs.length<=sizeLine/\∀p,H1 p=none->Q (.ref p) (upd H1 p (.tup xs))) cO:=λds vs H Ha Q hs hr q=>by
 unfold cO at q
 by_cases hl:ds.length<=line
 .rw[if_pos hl] at q
  refine⟨by rw[←hr.length];exact cF hl,λp hp=>q _ _ _ (aO hs hp) (aM.mpr ⟨p,vs,rfl,jK.of aw,hr.mono (aO hs hp).z⟩)⟩
 .rw[if_neg hl] at q;exact q.elim
theorem OI:gk X E (λxs H1 Q=>xs.length<=sizeLine/\∀p,H1 p=none->Q (.ref p) (upd H1 p (.lst xs))) b5:=λds vs H Ha Q hs hr q=>by
 unfold b5 at q
 by_cases hl:ds.length<=line
 .rw[if_pos hl] at q
  refine⟨by rw[←hr.length];exact cF hl,λp hp=>q _ _ _ (aO hs hp) (aH.mpr ⟨p,vs,rfl,eC.of aw,hr.mono (aO hs hp).z⟩)⟩
 .rw[if_neg hl] at q;exact q.elim
theorem yk{x1}(h:Ml X He H0e a es fa):DM X He H0e a (.Tuple es x1 pos) (mA fa cO):=⟨aX (Bt h.o) (uS (E:=λ_ _ _=>True) OF)⟩
theorem Jf(h:Ml X He H0e a es fa):DM X He H0e a (.List es pos) (mA fa b5):=⟨aX (Bu h.o) (uS (E:=λ_ _ _=>True) OI)⟩
end
noncomputable def Nt(s:Option Sl):Sl:=match s with
 |some (.sh d)=>.sh d
 |some (.pt b)=>.pt b
 |_=>.no
noncomputable def eW(n:Nat) (fr:List Nat) (ρ:Ev):Ev:=U2 n .no++fr.map λ(i:Nat)=>Nt ρ[i]?
noncomputable def iQ(b:Ev) (tg:Ev->D->ai Ev) (fm:Ev->List D->ai (D×List D)):List D->List D->ai (List D×List D)
 |[],st=>.ok ([],st)
 |d::r,st=>(tg b d).bind λρ1=>(fm ρ1 st).bind λp=>(iQ b tg fm r p.2).bind λq=>.ok (p.1::q.1,q.2)
noncomputable def uB(b:Ev) (tg:Ev->D->ai Ev) (fm:Ev->List D->ai (D×List D)) (p:List D×List D):ai (D×List D):=if p.1.length<=line then(iQ b tg fm p.1 p.2).bind λq=>.ok (.lst q.1,q.2) else .stuck
noncomputable def pV(n:Nat) (fr:List Nat) (src:Ev->List D->ai (List D×List D)) (tg:Ev->D->ai Ev) (fm:Ev->List D->ai (D×List D)):Ev->List D->ai (D×List D):=λρ st=>(src ρ st).bind (uB (eW n fr ρ) tg fm)
theorem F5{fr:List Nat}:(eW n fr ρ).length=n+fr.length:=by unfold eW;simp
theorem uN{fr:List Nat}{k:Nat}(h:k<n):(eW n fr ρ)[k]?=some .no:=by
 unfold eW;rw[UH (by simpa using h),UW,if_pos h]
theorem uO{fr:List Nat}{k:Nat}(h:¬k<n)(e:(eW n fr ρ)[k]?=some s):∃j,fr[k-n]?=some j/\s=Nt ρ[j]?:=by
 unfold eW at e;rw[UN (by simpa using h),Vj,UD] at e;cases hf:fr[k-n]? with|none=>rw[hf] at e;cases e|some j=>rw[hf] at e;cases e;exact⟨j,rfl,rfl⟩
theorem Nq(h:Sl.sh d=Nt s):s=some (.sh d):=by
 unfold Nt at h;split at h<;>cases h
 rfl
theorem Nr(h:Sl.pt b=Nt s):s=some (.pt b):=by
 unfold Nt at h;split at h<;>cases h
 rfl
theorem Jv{fr:List Nat}{k j:Nat}(h:¬k<n)(hf:fr[k-n]?=some j)(hs:σ[j]?=some (some v)):(jI n fr σ)[k]?=some (some v):=by
 unfold jI;rw[UN (by simpa using h),Vj,UD,hf];simp [hs]
theorem wK{K:Up}{st:List D}(ha:He a=none)(h0:H0e a=none)(hl:H a=some (.lst vs))(r:Reps K Ha st vs)(g:bp (upd He a (.lst vs)) H0e H Ha)(rd:Reads K Ha σ ρ)
  (no:∀(j:Nat) (s:Sl),ρ[j]?=some s->s=.no∨(∃d,s=.sh d)∨∃b,s=.pt b/\σ[j]?=some (some (.ref b)))(ln:ρ.length=σ.length):gX K He H0e Ha σ H ρ a st vs:=by
 refine⟨ha,h0,hl,r,⟨g,rd,λi d e=>?_,λi j d d' _ e=>?_,ln,OX.none (λi j ds e=>?_) λi b e=>?_⟩⟩
 .rcases no i _ e with h|⟨_,h⟩|⟨_,h,_⟩<;>cases h
 .rcases no i _ e with h|⟨_,h⟩|⟨_,h,_⟩<;>cases h
 .rcases no i _ e with h|⟨_,h⟩|⟨_,h,_⟩<;>cases h
 .rcases no i _ e with h|⟨_,h⟩|⟨_,h,h'⟩
  .cases h
  .cases h
  .cases h;exact h'
noncomputable def Io(K:Up) (a:Addr) (tg:Ev->D->ai Ev):TG:=λv σ H Q=>∃He H0e,Si K He H0e a tg v σ H Q
noncomputable def GN(K:Up) (a:Addr) (fm:Ev->List D->ai (D×List D)):TE:=λσ H Q=>∃He H0e,tM K He H0e a fm σ H Q
theorem Cd{r st es stF:List D}(h:iQ b tg fm (d::r) st=.ok (es,stF)):∃ρ1 y s1 rest,tg b d=.ok ρ1/\fm ρ1 st=.ok (y,s1)/\iQ b tg fm r s1=.ok (rest,stF)/\es=y::rest:=by
 unfold iQ at h;cases e1:tg b d with
 |stuck|exn x=>rw[e1] at h;cases h
 |ok ρ1 =>
  rw[e1] at h;simp only[ai.bind] at h;cases e2:fm ρ1 st with
  |stuck|exn x=>rw[e2] at h;cases h
  |ok p =>
   obtain⟨y,s1⟩:=p;rw[e2] at h;simp only at h;cases e3:iQ b tg fm r s1 with
   |stuck|exn x=>rw[e3] at h;cases h
   |ok q =>
    obtain⟨rest,sF⟩:=q;rw[e3] at h;cases h;exact⟨ρ1,y,s1,rest,rfl,e2,e3,rfl⟩
theorem AR{K:Up}{fr:List Nat}(h1:gX K He H0e H01 σ H1 ρ a st0 us0)(it:O1 K ds J H01)(hl:ds.length<=line)
  (e2:iQ (eW n fr ρ) tg fm ds st0=.ok (es,stF))(hok:A1 n tg)
  (q:∀p xs H' Ha' us',bp (FN a H1) H01 H' Ha'->Ha' a=none->H' a=some (.lst us')->Reps K Ha' stF us'->H1 p=none->Ha' p=none->H' p=some (.lst xs)->Reps K Ha' es xs->Q (.ref p) H') :
  rf n fr (Io K a tg) GL (GN K a fm) J σ H1 Q:=by
 intro Da hDa;have h0D:H01 Da=none:=h1.s.g.sub.free hDa;have aD:a≠Da:=λz=>by have:=h1.hl;rw[z,hDa] at this;cases this
 have nob:∀{σ':L2.St}(_:∀(k:Nat),¬k<n->∀b,(eW n fr ρ)[k]?=some (.pt b)->σ'[k]?=some (some (.ref b))) (j:Nat) (s:Sl),(eW n fr ρ)[j]?=some s->s=.no∨(∃d,s=.sh d)∨∃b,s=.pt b/\σ'[j]?=some (some (.ref b)):=λ{σ'} hp j s e=>by
  by_cases hj:j<n
  .rw[uN hj] at e;cases e;exact .inl rfl
  .obtain⟨i,_,hs⟩:=uO hj e
   cases s with
   |no=>exact .inl rfl|sh d=>exact .inr (.inl ⟨d,rfl⟩)|pt b=>exact .inr (.inr ⟨b,rfl,hp j hj b e⟩)
   |_=>unfold Nt at hs;split at hs<;>cases hs
 refine⟨λi m ys σ' H'=>m=ds.length-i/\i<=ds.length/\∃Ha' st' us' es1 rest,gX K (upd (FN a H1) Da (.lst ys)) H01 Ha' σ' H' (eW n fr ρ) a st' us'/\Reps K Ha' es1 ys/\es1.length=i/\iQ (eW n fr ρ) tg fm (ds.drop i) st'=.ok (rest,stF)/\es=es1++rest,
  ⟨ds.length,by simp,VU _,H01,st0,us0,[],es,?_,Reps.nil,rfl,by rw[Wf];exact e2,rfl⟩,?_⟩
 .refine wK (by rw[aq aD];exact dF) h1.n0 (by rw[aq aD];exact h1.hl) h1.r ⟨λb o e=>?_,aB.refl _,λb o e=>?_,λb k1 k2=>absurd k2 k1⟩ (λk d e=>?_) (nob λk hk b e=>?_) (by unfold jI;rw[F5];simp)
  .by_cases c:b=a
   .subst c;rw[aw] at e;cases e;rw[aq aD];exact h1.hl
   .rw[aq c] at e
    by_cases c2:b=Da
    .subst c2;rw[aw] at e ⊢;exact e
    .rw[aq c2] at e ⊢;rw[fX c] at e;exact e
  .rw[aq (by intro z;subst z;rw[h0D] at e;cases e)];exact h1.s.g.sub _ _ e
  .by_cases hk:k<n
   .rw[uN hk] at e;cases e
   .obtain⟨j,hf,hs⟩:=uO hk e
    obtain⟨v,k1,k2⟩:=h1.s.rd j d (Nq hs);exact⟨v,Jv hk hf k1,k2⟩
  .obtain⟨j,hf,hs⟩:=uO hk e
   exact Jv hk hf (h1.s.ex.2 j b (Nr hs))
 .rintro i m ys σ' H' ⟨rfl,hile,Ha',st',us',es1,rest,h',hys,hle,hco,hes⟩
  have hDl:H' Da=some (.lst ys):=h'.s.g.s _ _ (by rw[aq (U5 aD),aw]);refine⟨hDl,?_⟩
  by_cases hlt:i<ds.length
  .refine .inr ⟨it.go i H' Ha' h'.s.g.z h'.s.g.sub hlt,?_,?_⟩
   .rw[←hys.length,hle]
    have h2:line<sizeLine:=by decide
    omega
   .intro x H2 hy
    obtain⟨H₀2,g2,rp⟩:=it.yld i H' Ha' x H2 ds[i] h'.s.g.z h'.s.g.sub (Uz hlt) hy;have hm2:=h'.back g2.z (h'.s.grow g2);rw[Va hlt] at hco;obtain⟨ρ1,y,s1,rest',t1,t2,t3,t4⟩:=Cd hco;refine⟨_,_,H₀2,eW n fr ρ,st',us',ds[i],hm2,rp,?_⟩;rw[t1];intro σ3 H3 H03 z3 h3;unfold GL;dsimp only;rw[if_pos rfl];refine⟨_,_,H03,ρ1,st',us',h3,?_⟩;rw[t2];intro yv H5 H05 us5 z5 h5 ry;have hD5:H5 Da=some (.lst ys):=h5.s.g.s _ _ (by rw[aq (U5 aD),aw]);have n5:H05 Da=none:=by
     cases qq:H05 Da with|none=>rfl|some o=>have:=h5.s.g.nw Da (by rw[qq];simp) h0D;rw[aq (U5 aD),aw] at this;cases this
    have hrl:=hok _ _ _ t1;refine⟨hD5,ds.length-(i+1),by omega,rfl,hlt,H05,s1,us5,es1++[y],rest',?_,(hys.mono ((g2.z.trans z3).trans z5)).app (Reps.cons ry Reps.nil),by simp [hle],t3,by rw[hes,t4];simp⟩;refine wK (by rw[aq aD];exact dF) h1.n0 (by rw[aq aD];exact h5.hl) h5.r ⟨λb o e=>?_,h5.s.g.z,λb o e=>?_,λb k1 k2=>?_⟩ (λk d e=>?_) (nob λk hk b e=>?_) (by rw[←h5.s.ln,hrl.1])
    .by_cases c:b=a
     .subst c;rw[aw] at e;cases e;rw[aq aD];exact h5.hl
     .rw[aq c] at e
      by_cases c2:b=Da
      .subst c2;rw[aw] at e ⊢;exact e
      .rw[aq c2] at e ⊢
       exact h5.s.g.s _ _ (by rw[aq c,aq c2];exact e)
    .rw[aq (by intro z;subst z;rw[n5] at e;cases e)];exact h5.s.g.sub _ _ e
    .have:=h5.s.g.nw b k1 k2
     by_cases c:b=a
     .subst c;rw[aw] at this;cases this
     .rw[aq c] at this ⊢
      by_cases c2:b=Da
      .subst c2;rw[aw] at this;cases this
      .rw[aq c2] at this ⊢;exact this
    .by_cases hk:k<n
     .rw[uN hk] at e;cases e
     .rw[←hrl.2 k (by omega)] at e
      exact h5.s.rd k d e
    .rw[←hrl.2 k (by omega)] at e
     exact h5.s.ex.2 k b e
  .have hi2:i=ds.length:=by omega
   refine .inl ⟨it.stop i H' Ha' h'.s.g.z h'.s.g.sub (by omega),?_⟩;rw[hi2,Wk] at hco;cases hco;rw[UT] at hes;subst hes;refine q Da ys H' Ha' us' ⟨λb o e=>?_,h'.s.g.z,h'.s.g.sub,λb k1 k2=>?_⟩ h'.n0 h'.hl h'.r hDa ?_ hDl hys
   .have c:b≠a:=by intro c;subst c;rw[dF] at e;cases e
    have c2:b≠Da:=by intro c2;subst c2;rw[fX c,hDa] at e;cases e
    exact h'.s.g.s _ _ (by rw[aq c,aq c2];exact e)
   .have:=h'.s.g.nw b k1 k2
    by_cases c:b=a
    .subst c;exact dF
    .rw[aq c] at this
     by_cases c2:b=Da
     .subst c2;rw[aw] at this;cases this
     .rw[aq c2] at this;exact this
   .cases qq:Ha' Da with
    |none=>rfl
    |some o=>have:=h'.s.g.nw Da (by rw[qq];simp) h0D;rw[aq (U5 aD),aw] at this;cases this
noncomputable def Sf(K:Up) (He H0e:Hp) (a:Addr) (f:Ev->List D->ai (D×List D)):TE:=λσ H Q=>∃Ha ρ st vs,gX K He H0e Ha σ H ρ a st vs/\match f ρ st with
 |.ok (.lst ds,st')=>∀p xs H1 H01 st1 us1 H' Ha' us,aB Ha H01->gX K He H0e H01 σ H1 ρ a st1 us1->bp (FN a H1) H01 H' Ha'->Ha' a=none->H' a=some (.lst us)->Reps K Ha' st' us->H1 p=none->Ha' p=none->H' p=some (.lst xs)->Reps K Ha' ds xs->Q (.ref p) H'
 |.ok _=>False
 |.exn _=>False
 |.stuck=>False
structure S8 (X:Cx) (He H0e:Hp) (a:Addr) (e:Expr) (f:Ev->List D->ai (D×List D)):Prop where
 ev:PE X e (Sf X.K He H0e a f)
 st:∀{i:Nat}{x:Str}{pos' spos:Pos},X.N.Nodup->X.N[i]?=some x->X.env.scope.names.lookup x=some .local -> swapsWith e (some (.Name x pos')) spos.line X.env=pure true->PS X (.Assign [.Name x pos'] e spos) (Kn (Sf X.K He H0e a f) (Dk i))
theorem Ud(N:List Str)(n:Nat)(fr:List Nat)(hc:X.calm=true)(hi:MI X He H0e a tgt iter src)(hok:A1 n tg)
  (blk:∀s H C fp pn,(∀He H0e,DG (cR X N scope s H C fp pn) E He H0e tgt tg)/\∀He H0e,DM (cR X N scope s H C fp pn) He H0e a elt fm)
  (hfr:Cp X N n fr scope)(hcell:∀x∈scope.names,x.2≠.cell)(hfree:∀x∈scope.names,x.2=.free->X.env.scope.names.lookup x.1=some .cell)(hkind:scope.kind=.function)(hnames:∀x∈scope.names,x.2=.local -> scope.names.lookup x.1=some .local)
  (hs:∀x,foldedSetIterable iter X.env x=pure x:=by intro _;rfl):S8 X He H0e a (.ListComp elt [⟨tgt,iter,[],0⟩] scope pos) (pV n fr src tg fm):=by
 have blk':∀s H C fp pn,PG (cR X N scope s H C fp pn) tgt (Io X.K a tg)/\Pl (cR X N scope s H C fp pn) [] GL/\PE (cR X N scope s H C fp pn) elt (GN X.K a fm):=λs H C fp pn =>
  ⟨λpins s' σ' H' v u Q' I r ⟨He,H0e,q'⟩=>(Qj (X:=cR X N scope s H C fp pn) λvs=>(blk s H C fp pn).1 _ _) pins s' σ' H' v u Q' I r q',CK,λpins s' σ' H' Q' I ⟨He,H0e,q'⟩=>((blk s H C fp pn).2 He H0e).o pins s' σ' H' Q' I q'⟩
 have first:∀{pins:List (Addr×Obj)}{s:Shared}{σ:L2.St}{H:Hp}{Q:VK}{RR:Value->Addr->Result->Shared->Prop},L2.Inv X pins σ H s->Sf X.K He H0e a (pV n fr src tg fm) σ H Q ->
   (∀(Da C:Addr) (s6:Shared) (H5:Hp) (m:Str->Option Value),L2.Inv X pins σ H5 s6->s6.heap.Ns C m->oj X pins H5 C->Q (.ref Da) H5->RR (.ref Da) C (.ok .next) s6) ->
   wpAny (model X.prog X.w) X.A (eval iter X.env) (λx sg=>wpAny (model X.prog X.w) X.A (pyIter x) (λit si=>wpAny (model X.prog X.w) X.A (newList []) (λacc sj =>
    wpAny (model X.prog X.w) X.A (newFunctionEnv scope X.env.globals (gQ X.env.cells scope.names []) [] X.env.qual none .none (some X.env)) (λcenv sk =>
     codeAny (model X.prog X.w) X.A (.compStart (.ListComp elt [⟨tgt,iter,[],0⟩] scope pos) 0 it acc { cenv with scope:=relabel scope X.env }) (RR acc cenv.locals) sk) X.xe sj) X.xe si) X.xe sg) X.xe s:=by
  intro pins s σ H Q RR I ⟨Ha,ρ,st,vs,h,q⟩ fin;refine cj (hi.o pins s σ H (λJ H1=>rf n fr (Io X.K a tg) GL (GN X.K a fm) J σ H1 Q) I ⟨Ha,ρ,st,vs,h,?_⟩) λv s1 h1=>cj h1 λitv s2 h2=>wk (N:=N) hc hfr hcell hfree hkind blk' h2 fin;unfold pV at q;cases e1:src ρ st with
  |stuck|exn x=>rw[e1] at q;exact q
  |ok pr =>
   obtain⟨ds,st1⟩:=pr;rw[e1] at q;intro J H1 H01 us z h1 it;replace q:match (if ds.length<=line then(iQ (eW n fr ρ) tg fm ds st1).bind λq=>ai.ok (D.lst q.1,q.2) else .stuck) with
    |.ok (.lst ds,st')=>∀p xs H1 H01 st1 us1 H' Ha' us,aB Ha H01->gX X.K He H0e H01 σ H1 ρ a st1 us1->bp (FN a H1) H01 H' Ha'->Ha' a=none->H' a=some (.lst us)->Reps X.K Ha' st' us->H1 p=none->Ha' p=none->H' p=some (.lst xs)->Reps X.K Ha' ds xs->Q (.ref p) H'
    |.ok _=>False
    |.exn _=>False
    |.stuck=>False:=q
   by_cases hl:ds.length<=line
   .rw[if_pos hl] at q
    cases e2:iQ (eW n fr ρ) tg fm ds st1 with
    |stuck|exn x=>rw[e2] at q;exact q.elim
    |ok pr2 =>
     obtain⟨es,stF⟩:=pr2;rw[e2] at q;exact AR h1 it hl e2 hok λp xs H' Ha' us' g n' hl' r' hp h0 hv rp=>q p xs H1 H01 st1 us H' Ha' us' z h1 g n' hl' r' hp h0 hv rp
   .rw[if_neg hl] at q;exact q.elim
 have hcl:∀{pins:List (Addr×Obj)}{s:Shared}{σ:L2.St}{H:Hp},L2.Inv X pins σ H s->closureFor scope X.env=pure (gQ X.env.cells scope.names []):=λ{pins s σ H} I=>lE λy hy hf=>I.ok.has y.1 (.inl (hfree y hy hf));refine⟨λpins s σ H Q I h=>?_,λ{i x pos' spos} hN hi' hx hsw pins s σ H D' I h=>?_⟩
 .rw[eval_ListComp]
  refine wpAny_comprehension_free (use:=none) rfl hs (hcl I) hkind hnames (first (RR:=λacc C=>compPost (model X.prog X.w) X.A X.xe none (EP X pins σ Q) acc C) I h λDa C s6 H5 m I6 ns fC q=>?_);refine⟨m,ns,λh' sb=>⟨.ref Da,H5,?_,rfl,q⟩⟩;exact I6.turned (t':=s6.toks) (it:=C) (λb o hb e=>(sb.2 b hb).trans e) fC.1 fC.2.1 fC.2.2.2.1 fC.2.2.2.2.1 fC.2.2.2.2.2
 .rw[exec_Assign_Name_used _ _ _ _ hsw]
  refine Uq (wpAny_standAt (Uq ?_));show wpAny _ X.A (do let _ ←comprehension (.ListComp elt [⟨tgt,iter,[],0⟩] scope pos) scope X.env _ (newList []) false (eval iter X.env) (some (assign (.Name x pos') X.env))) _ _ s;refine Uq (Vh (wpAny_comprehension_free (use:=some (assign (.Name x pos') X.env)) (Q:=λ_ s'=>SP X pins D' .next s') rfl hs (hcl I) hkind hnames
   (first (RR:=λacc C=>compPost (model X.prog X.w) X.A X.xe (some (assign (.Name x pos') X.env)) (λ_ s'=>SP X pins D' .next s') acc C) I h λDa C s6 H5 m I6 ns fC q=>?_)) (λ_ s' hq=>UL (UL hq)) λ_ _ e=>e)
  show wpAny _ X.A (assign (.Name x pos') X.env (.ref Da)) _ _ _;refine wpAny_assign_Name (oC (v:=.ref Da) I6 hN hi' (.inl hx) rfl (λs' I' ⟨a,sb,ha⟩=>?_) (.inr hx));have hCa:C≠a:=by
   rcases ha with rfl|ha
   .exact fC.2.1
   .exact λz=>fC.2.2.2.2.1 x a ha z.symm
  refine⟨m,ns.sameBut sb hCa,λh' sb'=>⟨_,H5,?_,q⟩⟩;exact I'.turned (t':=s'.toks) (it:=C) (λb o hb e=>(sb'.2 b hb).trans e) fC.1 fC.2.1 fC.2.2.2.1 fC.2.2.2.2.1 fC.2.2.2.2.2
theorem Cc{fr:List Nat}:∀ρ st d s',pV n fr src tg fm ρ st=.ok (d,s')->∃ds,d=.lst ds:=λρ st d s' h=>by
 unfold pV at h;cases e1:src ρ st with
 |stuck|exn x=>rw[e1] at h;cases h
 |ok pr =>
  rw[e1] at h;simp only[ai.bind,uB] at h
  by_cases hl:pr.1.length<=line
  .rw[if_pos hl] at h
   cases e2:iQ (eW n fr ρ) tg fm pr.1 pr.2 with|stuck|exn x=>rw[e2] at h;cases h|ok q=>rw[e2] at h;cases h;exact⟨_,rfl⟩
  .rw[if_neg hl] at h;cases h
theorem gX.addL{K:Up}(h1:gX K He H0e H01 σ H1 ρ a st1 us1)(g:bp (FN a H1) H01 H' Ha')(n:Ha' a=none)(hl:H' a=some (.lst us))(r:Reps K Ha' st' us)(hp:H1 p=none)(h0:Ha' p=none)(hv:H' p=some (.lst xs))(rp:Reps K Ha' ds xs) :
  aB H01 (upd Ha' p (.lst xs))/\gX K He H0e (upd Ha' p (.lst xs)) σ H' ρ a st' us/\Rep K (upd Ha' p (.lst xs)) (.lst ds) (.ref p):=by
 have pa:a≠p:=λz=>by have:=h1.hl;rw[z,hp] at this;cases this
 have z:aB Ha' (upd Ha' p (.lst xs)):=λb o e=>by rw[aq (by intro z;subst z;rw[h0] at e;cases e)];exact e
 have g':bp (FN a H1) H01 H' (upd Ha' p (.lst xs)):=⟨g.s,g.z.trans z,λb o e=>by
  by_cases c:b=p
  .subst c;rw[aw] at e;cases e;exact hv
  .rw[aq c] at e;exact g.sub _ _ e,λb k1 k2=>by
  by_cases c:b=p
  .subst c;rw[fX (U5 pa)];exact hp
  .rw[aq c] at k1;exact g.nw b k1 k2⟩
 exact⟨g'.z,h1.change g' (by rw[aq pa];exact n) hl (r.mono z),aH.mpr ⟨p,xs,rfl,eC.of aw,rp.mono z⟩⟩
section
variable {X:Cx}{E:XK}{He H0e:Hp}{a:Addr}{e:Expr}{pos:Pos}{fm:Ev->List D->ai (D×List D)}
theorem Kv(hN:X.N.Nodup)(hi:X.N[i]?=some x)(hx:X.env.scope.names.lookup x=some .local)(h:S8 X He H0e a e fm)(ho:∀ρ st d s',fm ρ st=.ok (d,s')->∃ds,d=.lst ds)(hs:swapsWith e (some (.Name x pos')) pos.line X.env=pure true:=by rfl):SM X He H0e a (.Assign [.Name x pos'] e pos) (dB i fm):=by
 refine⟨bL (h.st hN hi hx hs) λD' σ H ⟨Ha,ρ,st,vs,h,q⟩=>⟨Ha,ρ,st,vs,h,?_⟩⟩;unfold dB at q;cases e1:fm ρ st with
 |stuck|exn x=>rw[e1] at q;exact q
 |ok pr =>
  obtain⟨d,s1⟩:=pr;obtain⟨ds,rfl⟩:=ho _ _ _ _ e1;rw[e1] at q;intro p xs H1 H01 st1 us1 H' Ha' us z h1 g n hl r hp h0 hv rp;obtain⟨k1,k2,k3⟩:=h1.addL g n hl r hp h0 hv rp;exact q _ H' _ us (z.trans k1) (k2.back (aB.refl _) (k2.s.put k3))
end
mutual
def fQ:D->Option PyData
 |.non=>some .none
 |.bl b=>some (.bool b)
 |.int i=>some (.int i)
 |.str x=>some (.str x)
 |.tup ds=>(toPys ds).map PyData.tuple
 |.lst ds=>(toPys ds).map PyData.list
 |.dic ks ds=>if ks.isEmpty&&ds.isEmpty then some (.dict []) else none
 |.exc _=>none
 |.ob _ _=>none
def toPys:List D->Option (List PyData)
 |[]=>some []
 |d::ds=>match fQ d,toPys ds with
  |some x,some xs=>some (x::xs)
  |_,_=>none
end
section
variable {X:Cx}{E:XK}{pins:List (Addr×Obj)}{σ:L2.St}{H:Hp}{s:Shared}
theorem Lj(I:L2.Inv X pins σ H s)(h:eC X.K H a vs):a≠sysModules:=by
 intro z;subst z;obtain⟨mm,o,es,ep,e,hd,_⟩:=I.ok.mod.sm;have:=(I.bs _ _ e).2;rcases h with h|⟨o',_,_,h1,h2,_,h3,_⟩
 .rcases h with h|⟨_,h⟩<;>(rw[this] at h;cases h)
 .have e':=I.ok.mod.kin _ _ h1
  rw[e] at e';cases e';rw[hd] at h3;cases h3
mutual
theorem zc(I:L2.Inv X pins σ H s):∀(d:D) (v:V) (u:Value) (p:PyData),Rep X.K H d v->bu v u->fQ d=some p->∃as,PySem.Reads s.heap u p as/\sysModules∉as
 |.non,v,u,p,r,rv,e=>by
  rw[fQ] at e;cases e;rw[aV.mp r] at rv;cases rv;exact⟨_,.none,by simp⟩
 |.bl b,v,u,p,r,rv,e=>by
  rw[fQ] at e;cases e;rw[aL.mp r] at rv;cases rv;exact⟨_,.bool b,by simp⟩
 |.int i,v,u,p,r,rv,e=>by
  rw[fQ] at e;cases e;rw[az.mp r] at rv;obtain⟨t,rfl⟩:=rv;exact⟨_,.int i t,by simp⟩
 |.str x,v,u,p,r,rv,e=>by
  rw[fQ] at e;cases e;rw[Rep.str_iff.mp r] at rv;obtain⟨t,rfl⟩:=rv;exact⟨_,.str x t,by simp⟩
 |.tup ds,v,u,p,r,rv,e=>by
  rw[fQ] at e;cases e1:toPys ds with
  |none=>rw[e1] at e;cases e
  |some ps =>
   rw[e1] at e;cases e;obtain⟨a,vs,its,rfl,rfl,h1,h2,h3,⟨o,k1,k2,n,k3⟩,_⟩:=br I r rv;obtain⟨as,h4,h5⟩:=reads_ofs I ds vs its ps h2 h3 e1;exact⟨_,.tuple k1 k2 k3 (by simpa using h4),h5⟩
 |.lst ds,v,u,p,r,rv,e=>by
  rw[fQ] at e;cases e1:toPys ds with
  |none=>rw[e1] at e;cases e
  |some ps =>
   rw[e1] at e;cases e;obtain⟨a,vs,its,rfl,rfl,h1,h2,h3,⟨o,k1,k2,n,k3⟩,_⟩:=bg I r rv;obtain⟨as,h4,h5⟩:=reads_ofs I ds vs its ps h2 h3 e1;exact⟨_,.list k1 k2 k3 (by simpa using h4),by rw[Uv,not_or];exact⟨U5 (Lj I h1),h5⟩⟩
 |.dic ks ds,v,u,p,r,rv,e=>by
  rw[fQ] at e
  by_cases c:(ks.isEmpty&&ds.isEmpty)=true
  .rw[if_pos c] at e;cases e
   have hE:Sy (.dic ks ds)=true:=by
    rw[UU,List.isEmpty_iff,List.isEmpty_iff] at c;rw[c.1,c.2];rfl
   obtain⟨a,rfl,n1,o,es,ep,k1,k2,k3,_,k5,_⟩:=Fd I hE r rv;have he:es.toList=[]:=by
    generalize es.toList=l at k5 ⊢;cases k5;rfl
   refine⟨_,.dict (kvs:=[]) k1 k2.1 k3 (by rw[he];exact .nil) (by rw[he];exact .nil),?_⟩;simp only[UT,Uv,US,or_false];exact λz=>by rw[z] at n1;simp at n1
  .rw[if_neg c] at e;cases e
 |.exc _,v,u,p,r,rv,e=>by rw[fQ] at e;cases e
 |.ob _ _,v,u,p,r,rv,e=>by rw[fQ] at e;cases e
theorem reads_ofs(I:L2.Inv X pins σ H s):∀(ds:List D) (vs:List V) (us:List Value) (ps:List PyData),Reps X.K H ds vs->bH vs us->toPys ds=some ps->∃as,PySem.ReadsAll s.heap us ps as/\sysModules∉as
 |[],vs,us,ps,r,rv,e=>by
  rw[toPys] at e;cases e;rw[Reps.nil_iff.mp r] at rv;cases rv;exact⟨_,.nil,by simp⟩
 |d::ds,vs,us,ps,r,rv,e=>by
  obtain⟨v,vr,rfl,h1,h2⟩:=aJ.mp r;cases rv with
  |cons ra rb =>
   rw[toPys] at e;cases e1:fQ d with
   |none=>rw[e1] at e;cases e
   |some p =>
    cases e2:toPys ds with
    |none=>rw[e1,e2] at e;cases e
    |some qs =>
     rw[e1,e2] at e;cases e;obtain⟨as,k1,m1⟩:=zc I d v _ p h1 ra e1;obtain⟨bs,k2,m2⟩:=reads_ofs I ds vr _ qs h2 rb e2;exact⟨_,.cons k1 k2,by rw[Ve,not_or];exact⟨m1,m2⟩⟩
end
noncomputable def G1(d:D):Bool:=match d with
 |.tup _=>true
 |.lst _=>true
 |_=>false
noncomputable def pA(p:PyData):Bool:=p.showable&&decide (p.depth<=100)&&decide (p.shown.length<=sizeLine)
noncomputable def uA(d:D):ai D:=match fQ d with
 |some p=>if G1 d=true/\pA p=true then .ok (.str p.shown) else .stuck
 |none=>.stuck
theorem wt{k:Nat}(hr:cE k X.A):gY X (.builtin "repr") (λxs H Q=>∃v d p,xs=[v]/\Rep X.K H d v/\fQ d=some p/\G1 d=true/\pA p=true/\Q (.str p.shown) H):=by
 intro pins s σ H xs us Q I r h;obtain⟨v,d,p,rfl,rd,e,hq,hw,q⟩:=h;obtain⟨u,rfl,rx⟩:=pz r;obtain⟨as,hR,hm⟩:=zc I d v u p rd rx e;have hu:∃a,u=.ref a:=by
  cases d with|tup ds=>obtain⟨a,_,_,_,h,_⟩:=br I rd rx;exact⟨a,h⟩|lst ds=>obtain⟨a,_,_,_,h,_⟩:=bg I rd rx;exact⟨a,h⟩| _=>cases hq
 obtain⟨a,rfl⟩:=hu;unfold pA at hw;simp only[UU,decide_eq_true_eq] at hw;obtain⟨⟨w1,w3⟩,w4⟩:=hw;refine repr_of_reads' hR w1 (λ_=>hm) hr.gd (by have:=hr.un;omega) (λb o e=>e) (λh' u' tk hk=>⟨.str p.shown,H,I.kept hk,⟨u',rfl⟩,q⟩) w4
theorem Ec:gk X E (λxs H Q=>∃v d p,xs=[v]/\Rep X.K H d v/\fQ d=some p/\G1 d=true/\pA p=true/\Q (.str p.shown) H) (m1 uA):=uK λx v H Ha Q hs r q=>by
 unfold uA at q;cases e:fQ x with
 |none=>rw[e] at q;exact q.elim
 |some p =>
  rw[e] at q;replace q:post X.K E H Ha (if G1 x=true/\pA p=true then .ok (.str p.shown) else .stuck) Q:=q
  by_cases hc:G1 x=true/\pA p=true
  .rw[if_pos hc] at q
   exact⟨v,x,p,rfl,r.mono hs,e,hc.1,hc.2,bj hs q (Rep.str_iff.mpr rfl)⟩
  .rw[if_neg hc] at q;exact q.elim
end
structure FT (K:Up) (mg:Str->Option Value) (x:Str) (st:Stmt) (ps:List Str) (a:Addr) (d:FuncData):Prop where
 F:Gh K x x st a d
 b:ik K d ps []
 g:mg x=some (.ref a)
noncomputable def QA(K:Up) (x:Str) (st:Stmt) (a:Addr):Prop:=Vk K mainGlobals x=some (some (.ref a))/\WD K (.ref a)=true/\∃oc kV dc pm cd ct od an sl,K.lookup a=some ⟨oc,od,.func (Ww x x (defArgs st) (defBody st) (defScope st) .none kV dc pm an cd ct),sl⟩/\X5 K cd x=true
theorem QX{K:Up}{h:Heap}{st:Stmt}{ps:List Str}(X:K.In h)(G:h.Ns mainGlobals mg)(q:QA K x st a)
  (hb:∀(kV doc pm:Value) (an:Option Addr) (cdv ct:Value) (us:List Value),us.length=ps.length->bindArgs (Ww x x (defArgs st) (defBody st) (defScope st) .none kV doc pm an cdv ct) ⟨us,[]⟩=pure (ps.zip us)) :
  ∃d,FT K mg x st ps a d/\∃kV doc pm an cdv ct,d=Ww x x (defArgs st) (defBody st) (defScope st) .none kV doc pm an cdv ct:=by
 obtain⟨e1,e4,oc,kV,dc,pm,cd,ct,od,an,sl,e2,e3⟩:=q;exact⟨_,⟨xX e2 e3 e4,(xX (st:=st) e2 e3 e4).binds hb,VH X G e1⟩,_,_,_,_,_,_,rfl⟩
section
variable {K:Up}{h:Heap}{mg:Str->Option Value}{x:Str}{st:Stmt}{N ps:List Str}{a:Addr}(X:K.In h) (G:h.Ns mainGlobals mg) (q:QA K x st a) (S:d8 N ps (defScope st))
include X G q S in
include X G q S in
include X G q S in
include X G q S in
include X G q S in
include X G q S in
end
section
variable {X:Cx}{E:XK}{e:Expr}{es:List Expr}{fa:Ev->ai (List D)}{f g h i j:Ev->ai D}{pos:Pos}{CX:A5}{k n:Nat}{fn:Addr}{fd:FuncData}{ps:List Str}{m:List D->ai D}{x:Str}{p:Pos}{st:Stmt}
theorem Rq(ρ:Ev)(ds:List D)(h:af f aE ρ=.ok ds):ds.length=1:=pq (λ_ h=>JC h) h
theorem Rn(ρ:Ev)(ds:List D)(q:af f (af g aE) ρ=.ok ds):ds.length=2:=pq (Rq ρ) q
theorem RQ(ρ:Ev)(ds:List D)(q:af f (af g (af h aE)) ρ=.ok ds):ds.length=3:=pq (Rn ρ) q
end
section
variable {X:Cx}{E:XK}{He H0e:Hp}{a:Addr}{e:Expr}{es:List Expr}{pos:Pos}{f g:Ev->ai D}{fm gm hm im jm:Ev->List D->ai (D×List D)}{fa:Ev->List D->ai (List D×List D)}{s:Ev->List D->ai dH}{st:Stmt}
noncomputable def y0(f:Ev->ai D):Ev->ai Fl:=λρ=>(f ρ).bind λd=>.ok (.rt d)
theorem FP(h:DF X E e f):JM X E He H0e [.Return (some e) pos] (y0 f):=by
 refine⟨dW (fF (xi h.o) qw) λD' σ H ⟨Ha,ρ,h,q⟩=>⟨Ha,ρ,h.g.sub,h.rd,?_⟩⟩;unfold y0 at q;cases e1:f ρ with
 |stuck=>rw[e1] at q;exact q|exn x=>rw[e1] at q;exact λC ox H' Ha' g r=>q C ox H' Ha' (h.g.trans g) r
 |ok d =>
  rw[e1] at q;cases d with|lst ds=>exact λp vs H' Ha' g hp h0 hv rp=>q p vs H' Ha' (h.g.trans g) (h.g.s.free hp) h0 hv rp| _=>exact q.elim
theorem Pm.dt(h:Pm X He H0e a e fm):JN X He H0e a e fm:=⟨PW.pt h.o⟩
theorem vE(hr:∀ρ st ds,fa ρ st=.ok ds->ds.1.length=n)(ρ:Ev)(st:List D)(ds:List D×List D)(h:aT fm fa ρ st=.ok ds):ds.1.length=n+1:=by
 unfold aT at h;cases e1:fm ρ st with
 |stuck|exn x=>rw[e1] at h;cases h
 |ok p =>
  rw[e1] at h;simp only[ai.bind] at h;cases e2:fa ρ p.2 with|stuck|exn x=>rw[e2] at h;cases h|ok q=>rw[e2] at h;cases h;simp [hr _ _ _ e2]
theorem TM(ρ:Ev)(st:List D)(ds:List D×List D)(h:bX ρ st=.ok ds):ds.1.length=0:=by cases h;rfl
theorem SR(ρ:Ev)(st:List D)(ds:List D×List D)(h:aT fm bX ρ st=.ok ds):ds.1.length=1:=vE TM ρ st ds h
theorem TL(ρ:Ev)(st:List D)(ds:List D×List D)(h:aT fm (aT gm bX) ρ st=.ok ds):ds.1.length=2:=vE SR ρ st ds h
variable {CX:A5}{k n:Nat}{fn:Addr}{fd:FuncData}{ps:List Str}{x:Str}{p:Pos}{ft:Stmt}
theorem kA(ha:DM X He H0e a l fm)(hb:DM X He H0e a b gm):DM X He H0e a (.BinOp l .Add b pos) (mB fm gm bV):=MU (E:=E0) (eh.or HK (eh.or rO (eh.or CV xu))) (by
 intro x y v u H Ha Q hs r1 r2 q;unfold bV at q;cases x with
 |int i =>
  cases y with|int j=>exact .inl ⟨i,j,az.mp r1,az.mp r2,bj hs q (ri _)⟩| _=>exact q.elim
 |str i =>
  cases y with
  |str j =>
   by_cases h:i.length+j.length<=line
   .simp only[if_pos h] at q
    exact .inr (.inl ⟨i,j,Rep.str_iff.mp r1,Rep.str_iff.mp r2,cF h,bj hs q (Rep.str_iff.mpr rfl)⟩)
   .simp only[if_neg h] at q;exact q.elim
  |_=>exact q.elim
 |lst ds =>
  cases y with
  |lst es =>
   by_cases h:ds.length+es.length<=line
   .simp only[if_pos h] at q
    obtain⟨l,vs,rfl,h1,h2⟩:=aH.mp r1;obtain⟨m,us,rfl,k1,k2⟩:=aH.mp r2;refine .inr (.inr (.inl ⟨l,m,vs,us,rfl,rfl,aB.sqL hs h1,aB.sqL hs k1,by rw[←h2.length,←k2.length];exact cF h,λp hp=>?_⟩));exact q _ _ _ (aO hs hp) (aH.mpr ⟨p,_,rfl,eC.of aw,(h2.app k2).mono (aO hs hp).z⟩)
   .simp only[if_neg h] at q;exact q.elim
  |_=>exact q.elim
 |tup ds =>
  cases y with
  |tup es =>
   by_cases h:ds.isEmpty=false/\ds.length+es.length<=line
   .simp only[if_pos h] at q
    obtain⟨l,vs,rfl,h1,h2⟩:=aM.mp r1;obtain⟨m,us,rfl,k1,k2⟩:=aM.mp r2;refine .inr (.inr (.inr ⟨l,m,vs,us,rfl,rfl,aB.sqT hs h1,aB.sqT hs k1,λz=>?_,by rw[←h2.length,←k2.length];exact cF h.2,λz=>?_,λz p hp=>?_⟩))
    .have:=h2.length
     rw[z] at this;have e:ds=[]:=VR.mp this;rw[e] at h;exact absurd h.1 (by decide)
    .have:=k2.length
     rw[z] at this;have e:es=[]:=VR.mp this;rw[e,UT] at q;exact bj hs q r1
    .exact q _ _ _ (aO hs hp) (aM.mpr ⟨p,_,rfl,jK.of aw,(h2.app k2).mono (aO hs hp).z⟩)
   .simp only[if_neg h] at q;exact q.elim
  |_=>exact q.elim
 |_=>exact q.elim) ha hb
theorem Je(ha:DM X He H0e a l fm)(hb:DM X He H0e a b gm):DM X He H0e a (.BinOp l .Mod b pos) (mB fm gm dk):=MU (E:=E0) CU (xA (λ_ _ h=>of_decide_eq_true h) λ_ _ _ _=>ri _) ha hb
theorem fz(ha:DM X He H0e a l fm)(hb:DM X He H0e a b gm)(hs:og b:=by intro _ _;rfl):DM X He H0e a (.Subscript l b pos) (mB fm gm bf):=Ra (E:=E0) Ig Mz ha hb hs
theorem Sv(N:List Str)(n:Nat)(fr:List Nat)(hc:X.calm=true)(hi:MI X He H0e a tgt iter src)(hok:A1 n tg)
  (blk:∀s H C fp pn,(∀He H0e,DG (cR X N scope s H C fp pn) E He H0e tgt tg)/\∀He H0e,DM (cR X N scope s H C fp pn) He H0e a elt fm)
  (hfr:Cp X N n fr scope)(hcell:(scope.names.all λx=>!(x.2==.cell))=true)(hfree:(scope.names.all λx=>!(x.2==.free)||(X.env.scope.names.lookup x.1==some .cell))=true)(hkind:scope.kind=.function)
  (hnames:(scope.names.all λx=>!(x.2==.local)||(scope.names.lookup x.1==some .local))=true)
  (hs:∀x,foldedSetIterable iter X.env x=pure x:=by intro _;rfl):S8 X He H0e a (.ListComp elt [⟨tgt,iter,[],0⟩] scope pos) (pV n fr src tg fm):=by
 refine Ud (E:=E) N n fr hc hi hok blk hfr (λx hx z=>?_) (λx hx z=>?_) hkind (λx hx z=>?_) hs
 .have:=U7.mp hcell x hx
  rw[z] at this;simp at this
 .have:=U7.mp hfree x hx
  rw[z] at this;simpa using this
 .have:=U7.mp hnames x hx
  rw[z] at this;simpa using this
end
section
variable {X:Cx}{E:XK}{He H0e:Hp}{a:Addr}{st:Stmt}{e l b:Expr}{rest es:List Expr}{pos:Pos}{f:Ev->ai D}{fm gm:Ev->List D->ai (D×List D)}
noncomputable def Ue(g:Ev->List D->ai (D×List D)) (ρ:Ev) (p:D×List D):ai (D×List D):=match p.1 with
 |.bl b=>if b=true then .ok (.bl true,p.2) else g ρ p.2
 |_=>.stuck
noncomputable def HZ(p:D×List D):ai (D×List D):=match p.1 with
 |.bl b=>.ok (.bl (!b),p.2)
 |_=>.stuck
noncomputable def Ia(f:Ev->List D->ai (D×List D)):Ev->List D->ai (D×List D):=λρ st=>(f ρ st).bind HZ
theorem LI(ha:JN X He H0e a l fm):JN X He H0e a (.UnaryOp .Not l pos) (Ia fm):=by
 refine⟨?_⟩;refine gp (Hr ha.o) λσ H Q ⟨Ha,ρ,st,vs,h,q⟩=>⟨Ha,ρ,st,vs,h,?_⟩
 unfold Ia at q;cases e1:fm ρ st with
 |stuck|exn x=>rw[e1] at q;exact q
 |ok p =>
  obtain⟨d,st'⟩:=p;rw[e1] at q;cases d with|bl c=>exact λH1 H01 us z h1=>q H1 H01 us z h1| _=>exact q.elim
end
noncomputable def rq(fa:Ev->ai (List D)) (m:List D->ai D):Ev->ai Fl:=λρ=>match fa ρ with
 |.ok ds=>(m ds).bind λ_=>.ok (.nx ρ)
 |_=>.stuck
section
variable {X:Cx}{e:Expr}{es:List Expr}{fa:Ev->ai (List D)}{pos:Pos}{k n:Nat}{fn:Addr}{fd:FuncData}{ps:List Str}{m:List D->ai D}{x:Str}{p:Pos}{st:Stmt}
theorem Kl(F:fN X.prog X.w X.K X.mg X.base (gi X.prog X.w) k fn fd ps (spD X.K n m))(hr:cE k X.A)(hg:Gl X x)(hm:X.mg x=some (.ref fn))
  (hk:WD X.K (.ref fn)=true)(hb:ik X.K fd ps [])(ha:DA X.nox E0 (e::es) fa)(hn:(e::es).length=n:=by rfl)(hl:∀ρ ds,fa ρ=.ok ds->ds.length=(e::es).length)
  (hdb:(x==("__debug__":Str))=false:=by decide)(he:starEach (e::es) X.env=(false,eval e X.env)::starEach es X.env:=by exact aQ rfl)(hpl:(backTo cpos (starEach es X.env)).any (·.1)=false:=by exact bB rfl)
  (hs:swapsWith (.Call (.Name x p) (e::es) [] cpos) none pos.line X.env=pure false:=by rfl):TB X (.Expr (.Call (.Name x p) (e::es) [] cpos) pos) (rq fa m):=by
 refine⟨λpins s σ H He H0e Ha ρ D XE I h q hx=>?_⟩;refine wpAny_Expr_any (cj (Ed (Q:=λv H1=>D.nx σ H1) F hr hg hm hk hb ha.o I ?_ hx hdb he hpl) λv s1 ⟨y,H1,I1,r1,q1⟩=>⟨σ,H1,I1,q1⟩) I.quiet hs;refine⟨Ha,ρ,h.g.sub,h.rd,?_⟩;unfold rq at q ⊢;cases e1:fa ρ with
 |stuck=>rw[e1] at q;exact q|exn x=>rw[e1] at q;exact q.elim
 |ok ds =>
  rw[e1] at q;intro vs H1 H01 g1 r1;refine⟨?_,H01,ds,g1.sub,r1,?_⟩
  .have:=r1.length
   have:=hl ρ ds e1;omega
  .show post _ _ _ _ (m ds) _
   cases e2:m ds with
   |stuck=>simp only[e2] at q;exact q
   |exn x=>exact λC ox H' Ha' g ex=>⟨x,Ha',by simp only[e2];rfl,g1.z.trans g.z,h.grow (g1.trans g),ex⟩
   |ok d =>
    simp only[e2] at q;exact λv H' Ha' g rp=>q _ H' Ha' (g1.z.trans g.z) (h.grow (g1.trans g))
end
section
variable {X:Cx}{E:XK}
end
section
variable {X:Cx}{E:XK}
end
noncomputable def qS:List Str->List D->Str->Option D
 |k::ks,d::ds,x=>if k=x then some d else qS ks ds x
 |_,_,_=>none
noncomputable def ie(x y:D):ai D:=match x,y with
 |.dic ks ds,.str k=>match qS ks ds k with
  |some d=>.ok d
  |none=>.stuck
 |_,_=>.stuck
noncomputable def AO(x y:D):ai D:=match x,y with
 |.str k,.dic ks ds=>.ok (.bl (qS ks ds k).isSome)
 |_,_=>.stuck
noncomputable def jq(x y:D):ai D:=match x,y with
 |.str k,.dic ks ds=>.ok (.bl (!(qS ks ds k).isSome))
 |_,_=>.stuck
theorem yu{K:Up}{H:Hp}{k:Str}:∀{ks:List Str}{ds:List D}{vs:List V},ks.length=vs.length->Reps K H ds vs ->
  (∀d,qS ks ds k=some d->∃v,qc ((ks.map Vg).zip vs) (Vg k:gh)=some v/\Rep K H d v)/\(qS ks ds k=none->qc ((ks.map Vg).zip vs) (Vg k:gh)=none)
 |[],ds,vs,hl,r=>by
  exact⟨λd e=>(nomatch e),λ_=>rfl⟩
 |x::ks,ds,vs,hl,r=>by
  cases vs with
  |nil=>cases hl
  |cons v vs =>
   cases ds with
   |nil=>have:=Reps.nil_iff.mp r;cases this
   |cons d ds =>
    obtain⟨v',vr,e0,h1,h2⟩:=aJ.mp r;cases e0;obtain⟨i1,i2⟩:=yu (k:=k) (ks:=ks) (ds:=ds) (vs:=vs) (by simpa using hl) h2;rw[UG,Vx]
    by_cases hx:x=k
    .subst hx
     refine⟨λd' e=>?_,λe=>?_⟩
     .rw[qS,if_pos rfl] at e;cases e
      exact⟨v,md rfl,h1⟩
     .rw[qS,if_pos rfl] at e;cases e
    .have hne:¬(Vg x:gh)=Vg k:=λz=>hx (YJ z)
     refine⟨λd' e=>?_,λe=>?_⟩
     .rw[qS,if_neg hx] at e
      rw[jQ hne];exact i1 d' e
     .rw[qS,if_neg hx] at e
      rw[jQ hne];exact i2 e
section
variable {X:Cx}{E:XK}{a b:Expr}{f g:Ev->ai D}{pos:Pos}
noncomputable abbrev P8:R2:=λx y H Q=>∃p v,x=.ref p/\yz H p y (some v)/\Q v H
noncomputable abbrev P7:R2:=λy x H Q=>∃p o,x=.ref p/\yz H p y o/\Q (.bl o.isSome) H
noncomputable abbrev CG:R2:=λy x H Q=>∃p o,x=.ref p/\yz H p y o/\Q (.bl (!o.isSome)) H
theorem K5:qT X.K E P8 ie:=by
 intro x y v u H Ha Q hs r1 r2 q;unfold ie at q;cases x with
 |dic ks ds =>
  cases y with
  |str k =>
   rw[Rep] at r1;obtain⟨p,kvs,vs,rfl,h1,rfl,hl,h4⟩:=r1;rw[Rep.str_iff.mp r2];cases e:qS ks ds k with
   |none=>simp only[e] at q;exact q.elim
   |some d =>
    simp only[e] at q;obtain⟨v,hv,rv⟩:=(yu hl h4).1 d e;exact⟨p,v,rfl,.inl ⟨_,.inr k,aB.rd hs h1,rfl,hv.symm⟩,bj hs q rv⟩
  |_=>exact q.elim
 |_=>exact q.elim
theorem Df{k:Str}{K:Up}(hs:aB Ha H)(r1:Rep K Ha (.str k) v)(r2:Rep K Ha (.dic ks ds) u):∃p o,u=.ref p/\yz H p v o/\o.isSome=(qS ks ds k).isSome:=by
 rw[Rep] at r2;obtain⟨p,kvs,vs,rfl,h1,rfl,hl,h4⟩:=r2;rw[Rep.str_iff.mp r1];refine⟨p,_,rfl,.inl ⟨_,.inr k,aB.rd hs h1,rfl,rfl⟩,?_⟩;cases e:qS ks ds k with|none=>rw[(yu hl h4).2 e];rfl|some d=>obtain⟨v,hv,_⟩:=(yu hl h4).1 d e;rw[hv];rfl
theorem HQ:qT X.K E P7 AO:=by
 intro x y v u H Ha Q hs r1 r2 q;unfold AO at q;cases x with
 |str k =>
  cases y with
  |dic ks ds =>
   obtain⟨p,o,e1,e2,e3⟩:=Df hs r1 r2;exact⟨p,o,e1,e2,by rw[e3];exact bj hs q (rb _)⟩
  |_=>exact q.elim
 |_=>exact q.elim
theorem vB:qT X.K E CG jq:=by
 intro x y v u H Ha Q hs r1 r2 q;unfold jq at q;cases x with
 |str k =>
  cases y with
  |dic ks ds =>
   obtain⟨p,o,e1,e2,e3⟩:=Df hs r1 r2;exact⟨p,o,e1,e2,by rw[e3];exact bj hs q (rb _)⟩
  |_=>exact q.elim
 |_=>exact q.elim
theorem HJ(hu:X.A.units+1<cLine):eh X (compareOp .In) P7:=by
 intro pins s σ H x y v u Q I rx ry h;obtain⟨p,o,rfl,g,q⟩:=h;cases ry;exact SN hu I g rx λs' I'=>⟨.bl o.isSome,H,I',rfl,q⟩
theorem vz(hu:X.A.units+1<cLine):eh X (compareOp .NotIn) CG:=by
 intro pins s σ H x y v u Q I rx ry h;obtain⟨p,o,rfl,g,q⟩:=h;cases ry;exact LQ hu I g rx λs' I'=>⟨.bl (!o.isSome),H,I',rfl,q⟩
theorem nU(hu:X.A.units+1<cLine)(ha:DE X E a f)(hb:DE X E b g)(hs:OW b:=by intro _ _;rfl):DE X E (.Subscript a b pos) (ag f g ie) :=
 ⟨aX (KS hu ha.o hb.o hs) (iG K5)⟩
end
section
variable {K:Up}{E:XK}{He H0e Ha H H1:Hp}{σ:L2.St}{ρ:Ev}
theorem cT.putOwnG(h:cT K He H0e Ha σ H ρ)(hp:∀(j:Nat) (a:Addr),σ[j]?=some (some (V.ref a))->a=p->∀d:D,ρ[j]?≠some (Sl.ow d))(he:He p=none)(h0:Ha p=none)(ho:Mh K Ha H p dn)(hx:∀(i j:Nat) (ds:List D) (a q:Addr),ρ[i]?=some (.ox j ds)->σ[i]?=some (some (.ref a))->Rz K He Ha H a j ds q->p≠q) :
  cT K He H0e Ha (σ.set i (some (.ref p))) H (ρ.set i (.ow dn)):=by
 have key:∀(j:Nat) (s:Sl),(ρ.set i (.ow dn))[j]?=some s->(j=i/\s=.ow dn/\i<σ.length)∨(j≠i/\ρ[j]?=some s):=λj s e=>by
  by_cases hj:i=j
  .subst hj
   rw[V3] at e;cases q:ρ[i]? with
   |none=>rw[q] at e;cases e
   |some s' =>
    rw[q] at e;cases e;refine .inl ⟨rfl,rfl,?_⟩;rw[←h.ln];exact(Uw.mp q).1
  .rw[Us hj] at e
   exact .inr ⟨λz=>hj z.symm,e⟩
 have other:∀(k:Nat) (d2:D),k≠i->ρ[k]?=some (.ow d2)->some (some (V.ref p))≠σ[k]?:=λk d2 hk e2 z=>by
  obtain⟨a,h1,_⟩:=h.ow k d2 e2;rw[h1] at z;cases z;exact hp k p h1 rfl d2 e2
 refine⟨h.g,λj d' e=>?_,λj d' e=>?_,λj k d1 d2 hn e1 e2=>?_,by simp [h.ln],h.ex.upd (λj s e=>?_) (aB.refl _) (λa vs _ e=>e) λp us _ h0 hp _=>⟨hp,h0⟩⟩
 rotate_left 3
 .rcases key j _ e with⟨rfl,e',hl⟩|⟨hj,e'⟩
  .exact .inr (.inr (.inr ⟨dn,p,e',by rw[UQ hl],hx⟩))
  .exact .inl ⟨e',by rw[Us (U5 hj)]⟩
 .rcases key j _ e with⟨rfl,e',hl⟩|⟨hj,e'⟩
  .cases e'
  .obtain⟨v',h1,h2⟩:=h.rd j d' e'
   exact⟨v',by rw[Us (U5 hj)];exact h1,h2⟩
 .rcases key j _ e with⟨rfl,e',hl⟩|⟨hj,e'⟩
  .cases e'
   exact⟨p,by rw[UQ hl],he,h0,ho⟩
  .obtain⟨a,h1,h2⟩:=h.ow j d' e'
   exact⟨a,by rw[Us (U5 hj)];exact h1,h2⟩
 .rcases key j _ e1 with⟨rfl,_,hl⟩|⟨hj,e1'⟩
  .rcases key k _ e2 with⟨rfl,_,_⟩|⟨hk,e2'⟩
   .exact absurd rfl hn
   .rw[UQ hl,Us (U5 hk)]
    exact other k d2 hk e2'
  .rcases key k _ e2 with⟨rfl,_,hl⟩|⟨hk,e2'⟩
   .rw[UQ hl,Us (U5 hj)]
    exact λz=>other j d1 hj e1' z.symm
   .rw[Us (U5 hj),Us (U5 hk)]
    exact h.ap j k d1 d2 hn e1' e2'
theorem cT.writeG(h:cT K He H0e Ha σ H ρ)(e:ρ[i]?=some (.ow d))(es:σ[i]?=some (some (.ref p)))(ho:Mh K Ha (upd H p o) p dn) :
  cT K He H0e Ha σ (upd H p o) (ρ.set i (.ow dn)):=by
 obtain⟨a,h1,h2,h3,h4⟩:=h.ow i d e;rw[h1] at es;cases es;have hil:i<ρ.length:=(Uw.mp e).1;have key:∀(j:Nat) (s:Sl),(ρ.set i (.ow dn))[j]?=some s->(j=i/\s=.ow dn)∨(j≠i/\ρ[j]?=some s):=λj s e=>by
  by_cases hj:i=j
  .subst hj
   rw[UQ hil] at e;cases e;exact .inl ⟨rfl,rfl⟩
  .rw[Us hj] at e
   exact .inr ⟨λz=>hj z.symm,e⟩
 refine⟨⟨λb o' eb=>?_,h.g.z,λb o' eb=>?_,h.g.nw⟩,λj d' e'=>?_,λj d' e'=>?_,λj k d1 d2 hn e1 e2=>?_,by simp [h.ln],h.ex.upd (λj s e'=>?_) (aB.refl _) (λb us _ eb=>?_) λq us _ q0 hq hd=>?_⟩
 rotate_left 5
 .rcases key j _ e' with⟨rfl,e''⟩|⟨hj,e''⟩
  .exact .inr (.inr (.inr ⟨dn,p,e'',h1,λi' j' ds' a' p' x1 x2 x3=>by
    obtain⟨a2,p2,y1,y2,y3,_⟩:=h.ex.1 i' j' ds' x1;rw[x2] at y1;cases y1;have:p2=p':=by
     obtain⟨vs1,_,_,_,z1,_,_,_,z2,_⟩:=x3;obtain⟨vs2,_,_,_,z3,_,_,_,z4,_⟩:=y2;rw[z1] at z3;cases z3;rw[z2] at z4;cases z4;rfl
    subst this;intro zz;subst zz;exact y3 j d e h1⟩))
  .exact .inl ⟨e'',rfl⟩
 .rw[aq (by
   intro z;subst z;cases d with
   |lst ds'|dic ks ds'=>obtain⟨vs',h5,_⟩:=h4;rw[h5] at eb;cases eb
   |_=>exact h4)];exact eb
 .have hq':q≠p:=by
   intro z;subst z;exact hd i d e h1
  exact⟨by rw[aq hq'];exact hq,q0⟩
 .rw[aq (by intro z;subst z;rw[h2] at eb;cases eb)];exact h.g.s _ _ eb
 .rw[aq (by intro z;subst z;rw[h3] at eb;cases eb)];exact h.g.sub _ _ eb
 .rcases key j _ e' with⟨rfl,e''⟩|⟨hj,e''⟩
  .cases e''
  .exact h.rd j d' e''
 .rcases key j _ e' with⟨rfl,e''⟩|⟨hj,e''⟩
  .cases e''
   exact⟨p,h1,h2,h3,ho⟩
  .obtain⟨b,k1,k2,k3,k4⟩:=h.ow j d' e''
   refine⟨b,k1,k2,k3,?_⟩;have hb:b≠p:=by
    intro z;subst z;exact h.ap j i d' d hj e'' e (by rw[k1,h1])
   cases d' with
   |lst ds' =>
    obtain⟨vs',h5,h6⟩:=k4;exact⟨vs',by rw[aq hb];exact h5,h6⟩
   |dic ks ds' =>
    obtain⟨vs',h5,hl,h6⟩:=k4;exact⟨vs',by rw[aq hb];exact h5,hl,h6⟩
   |_=>exact k4.elim
 .rcases key j _ e1 with⟨rfl,e1'⟩|⟨hj,e1'⟩
  .rcases key k _ e2 with⟨rfl,_⟩|⟨hk,e2'⟩
   .exact absurd rfl hn
   .exact h.ap j k d d2 hn e e2'
  .rcases key k _ e2 with⟨rfl,_⟩|⟨hk,e2'⟩
   .exact h.ap j k d1 d hn e1' e
   .exact h.ap j k d1 d2 hn e1' e2'
end
noncomputable def Hd:List Str->List D->Str->D->List D
 |k::ks,e::ds,x,d=>(if k=x then d else e)::Hd ks ds x d
 |_,ds,_,_=>ds
noncomputable def zk(ks:List Str) (ds:List D) (k:Str) (d:D):D:=if k∈ks then .dic ks (Hd ks ds k d) else .dic (ks++[k]) (ds++[d])
theorem Eg{k:Str}:∀{ks:List Str}{vs:List V},ks.length=vs.length->(((ks.map Vg).zip vs).any λkv=>decide (kv.1=(Vg k:gh)))=decide (k∈ks)
 |[],_,_=>rfl
 |x::ks,[],h=>nomatch h
 |x::ks,v::vs,h=>by
  rw[UG,Vx,Wb,Eg (by simpa using h)]
  by_cases hx:x=k
  .subst hx;simp
  .have:¬k=x:=λz=>hx z.symm
   simp [hx,this]
theorem CF{K:Up}{H:Hp}{k:Str}{d:D}{v:V}(r:Rep K H d v):∀{ks:List Str}{ds:List D}{vs:List V},ks.length=vs.length->Reps K H ds vs ->
  ∃vs',(((ks.map Vg).zip vs).map λkv=>if kv.1=(Vg k:gh) then(kv.1,v) else kv)=(ks.map Vg).zip vs'/\ks.length=vs'.length/\Reps K H (Hd ks ds k d) vs'
 |[],ds,vs,hl,h=>⟨vs,rfl,hl,by cases ds<;>exact h⟩
 |x::ks,ds,[],hl,h=>nomatch hl
 |x::ks,[],v'::vs,hl,h=>by have:=Reps.nil_iff.mp h;cases this
 |x::ks,e::ds,v'::vs,hl,h=>by
  obtain⟨v2,vr,e0,h1,h2⟩:=aJ.mp h;cases e0;obtain⟨vs',i1,i2,i3⟩:=CF r (ks:=ks) (ds:=ds) (vs:=vs) (by simpa using hl) h2;rw[UG,Vx,UG,i1]
  by_cases hx:x=k
  .subst hx
   refine⟨v::vs',by rw[if_pos rfl];rfl,by simp [i2],?_⟩;rw[Hd,if_pos rfl];exact Reps.cons r i3
  .have hne:¬(Vg x:gh)=Vg k:=λz=>hx (YJ z)
   refine⟨v'::vs',by rw[if_neg hne];rfl,by simp [i2],?_⟩;rw[Hd,if_neg hx];exact Reps.cons h1 i3
theorem Reps.snoc{K:Up}(r:Rep K H d v):∀{ds:List D}{vs:List V},Reps K H ds vs->Reps K H (ds++[d]) (vs++[v])
 |[],vs,h=>by rw[Reps.nil_iff.mp h];exact Reps.cons r Reps.nil
 |e::ds,vs,h=>by
  obtain⟨v2,vr,rfl,h1,h2⟩:=aJ.mp h;exact Reps.cons h1 (Reps.snoc r h2)
theorem KA{K:Up}{k:Str}(hl:ks.length=vs.length)(h:Reps K Ha ds vs)(r:Rep K Ha d v):Mh K Ha (upd H p (.dK (iK ((ks.map Vg).zip vs) (Vg k) v))) p (zk ks ds k d):=by
 unfold zk;rw[show ∀(kvs:List (gh×V)) (u:V),iK kvs (Vg k:gh) u=if(kvs.any λkv=>decide (kv.1=(Vg k:gh)))=true then kvs.map (λkv=>if kv.1=(Vg k:gh) then(kv.1,u) else kv) else kvs++[((Vg k:gh),u)] from λ_ _=>rfl];rw[Eg hl]
 by_cases hk:k∈ks
 .rw[if_pos hk,if_pos (decide_eq_true hk)]
  obtain⟨vs',i1,i2,i3⟩:=CF (k:=k) r hl h;exact⟨vs',by rw[aw,i1],i2,i3⟩
 .rw[if_neg hk,if_neg (by rw[decide_eq_false hk];decide)]
  refine⟨vs++[v],by rw[aw,Vm,List.zip_append (by rw[Ur];exact hl)];rfl,by simp [hl],Reps.snoc r h⟩
noncomputable def T5(K:Up) (E:XK) (f:Ev->ai D):TE:=λσ H Q=>∃Ha ρ,aB Ha H/\Reads K Ha σ ρ/\match f ρ with
 |.ok (.dic ks ds)=>∀p vs H' Ha',bp H Ha H' Ha'->H p=none->Ha' p=none->H' p=some (.dK ((ks.map Vg).zip vs))->ks.length=vs.length->Reps K Ha' ds vs->Q (.ref p) H'
 |.ok _=>False
 |.exn x=>∀C ox H' Ha',bp H Ha H' Ha'->A3 K Ha' x C ox->E C ox H'
 |.stuck=>False
structure Tb (X:Cx) (E:XK) (e:Expr) (f:Ev->ai D):Prop where
 o:PE X e (T5 X.K E f)
noncomputable def HG(i:Nat) (ρ:Ev) (d:D):ai Fl:=match d with
 |.dic ks ds=>.ok (.nx (ρ.set i (.ow (.dic ks ds))))
 |_=>.stuck
noncomputable def y9(i:Nat) (f:Ev->ai D):Ev->ai Fl:=λρ=>(f ρ).bind (HG i ρ)
section
variable {X:Cx}{E:XK}{He H0e:Hp}{e b:Expr}{pos:Pos}{f k:Ev->ai D}
theorem D5(hN:X.N.Nodup)(hi:X.N[i]?=some x)(hx:Gg X.env.scope x)(he:Tb X E e f)(hs:swapsWith e (some (.Name x pos')) pos.line X.env=pure false:=by rfl)
  (hf:X.fn x=true∨X.env.scope.names.lookup x=some .local := by first|exact .inl rfl|exact .inr rfl|assumption):DS X E He H0e (.Assign [.Name x pos'] e pos) (y9 i f):=by
 refine⟨?_⟩;refine bL (oK hN hi hx he.o hs hf) λD σ H ⟨Ha,ρ,h,q⟩=>⟨Ha,ρ,h.g.sub,h.rd,?_⟩
 unfold y9 at q;cases e1:f ρ with
 |stuck=>rw[e1] at q;exact q|exn x=>rw[e1] at q;exact λC ox H' Ha' g ex=>q C ox H' Ha' (h.g.trans g) ex
 |ok d =>
  rw[e1] at q;cases d with
  |dic ks ds =>
   intro p vs H' Ha' g hp h0 hv hl rp;refine q _ H' Ha' g.z ((h.grow g).putOwnG (dn:=.dic ks ds) (λj a ej ea d ed=>?_) (h.g.s.free hp) h0 ⟨vs,hv,hl,rp⟩ (h.fresh_x g.s hp));subst ea;obtain⟨a',k1,_,_,k4⟩:=h.ow j d ed;rw[ej] at k1;cases k1;cases d with|lst ds'|dic ks ds'=>obtain⟨vs',h5,_⟩:=k4;rw[hp] at h5;cases h5| _=>exact k4.elim
  |_=>exact q.elim
theorem LK:Tb X E (.Dict [] [] pos) (dC (.dic [] [])):=by
 refine⟨aX zp λσ H Q ⟨Ha,ρ,hs,hr,q⟩=>λp hp=>?_⟩;have q:∀p vs H' Ha',bp H Ha H' Ha'->H p=none->Ha' p=none->H' p=some (.dK ((([]:List Str).map Vg).zip vs))->([]:List Str).length=vs.length->Reps X.K Ha' [] vs->Q (.ref p) H':=q;have h0:Ha p=none:=hs.free hp;refine q p [] _ Ha ⟨λb o q=>by rw[aq (aY q hp)];exact q,aB.refl _,λb o q=>?_,λa h1 h2=>absurd h2 h1⟩ hp h0 aw rfl Reps.nil;rw[aq (by intro z;subst z;rw[h0] at q;cases q)];exact hs _ _ q
end
noncomputable def Jj(k d:D):ai D:=match k with
 |.str x=>.ok (.dic [x] [d])
 |_=>.stuck
noncomputable def Ea(kf vf:Ev->ai D):Ev->ai D:=ag kf vf Jj
noncomputable def Bv(ρ:Ev) (i:Nat) (k:List Str->List D->ai Fl):ai Fl:=match ρ[i]? with
 |some (.ow (.dic ks ds))=>k ks ds
 |_=>.stuck
noncomputable def ml(i:Nat) (ρ:Ev) (ks:List Str) (ds:List D) (d j:D):ai Fl:=match j with
 |.str x=>if ks.length<line then .ok (.nx (ρ.set i (.ow (zk ks ds x d)))) else .stuck
 |_=>.stuck
noncomputable def vq(i:Nat) (f k:Ev->ai D):Ev->ai Fl:=λρ=>Bv ρ i λks ds=>(f ρ).bind λd=>(k ρ).bind (ml i ρ ks ds d)
section
variable {X:Cx}{E:XK}{He H0e:Hp}{e b:Expr}{pos:Pos}{f k:Ev->ai D}
theorem FR(hk:DE X E b k)(hv:DE X E e f):Tb X E (.Dict [some b] [e] pos) (Ea k f):=by
 refine⟨?_⟩;refine aX (KR (Hw hk.o hv.o KG) rfl rfl (by simp) (by simp)) λσ H Q ⟨Ha,ρ,hs,hr,q⟩ p hpn=>?_;have h0:Ha p=none:=hs.free hpn;have hs2:aB Ha (upd H p (.dK [])):=λb o e=>by rw[aq (by intro z;subst z;rw[h0] at e;cases e)];exact hs _ _ e
 have back:∀{H' Ha':Hp},bp (upd H p (.dK [])) Ha H' Ha'->bp H Ha H' Ha':=λg=>⟨λb o e=>g.s _ _ (by rw[aq (aY e hpn)];exact e),g.z,g.sub,λa k1 k2=>by
   have:=g.nw a k1 k2
   by_cases ha:a=p
   .subst ha;exact hpn
   .rw[aq ha] at this;exact this⟩
 refine⟨Ha,ρ,hs2,hr,?_⟩;unfold Ea ag at q;cases e1:k ρ with
 |stuck=>rw[e1] at q;exact q|exn z=>rw[e1] at q;exact λC ox H' Ha' g ex=>q C ox H' Ha' (back g) ex
 |ok kd =>
  rw[e1] at q;intro xk H1 H01 g1 r1;refine⟨H01,ρ,g1.sub,hr.mono g1.z,?_⟩;cases e2:f ρ with
  |stuck=>rw[e2] at q;exact q|exn z=>rw[e2] at q;exact λC ox H' Ha' g ex=>q C ox H' Ha' (back (g1.trans g)) ex
  |ok d =>
   rw[e2] at q;intro v H2 H02 g2 r2;cases kd with
   |str x =>
    have G:=g1.trans g2;have hp2:H2 p=some (.dK []):=G.s _ _ aw;have n02:H02 p=none:=by
     cases qq:H02 p with|none=>rfl|some o=>have:=G.nw p (by rw[qq];simp) h0;rw[aw] at this;cases this
    rw[Rep.str_iff.mp r1];refine⟨hp2,[(Vg x,v)],rfl,by simp,?_⟩;have q:∀p vs H' Ha',bp H Ha H' Ha'->H p=none->Ha' p=none->H' p=some (.dK (([x].map Vg).zip vs))->[x].length=vs.length->Reps X.K Ha' [d] vs->Q (.ref p) H':=q;refine q p [v] _ H02 ⟨λb o e=>?_,G.z,λb o e=>?_,(back G).nw⟩ hpn n02 aw rfl (Reps.cons r2 Reps.nil)
    .rw[aq (aY e hpn)];exact(back G).s _ _ e
    .rw[aq (by intro z;subst z;rw[n02] at e;cases e)];exact G.sub _ _ e
   |_=>exact q.elim
theorem Fg{K:Up}{k:List Str->List D->ai Fl}(h:cT K He H0e Ha σ H ρ)(q:bR K E He H0e Ha (Bv ρ i k) D') :
  ∃ks ds p vs,ρ[i]?=some (.ow (.dic ks ds))/\σ[i]?=some (some (.ref p))/\H p=some (.dK ((ks.map Vg).zip vs))/\ks.length=vs.length/\Reps K Ha ds vs/\bR K E He H0e Ha (k ks ds) D':=by
 unfold Bv at q;cases e:ρ[i]? with
 |none=>rw[e] at q;exact q.elim
 |some s =>
  rw[e] at q;cases s with
  |no|sh d|ox j ds|pt a=>exact q.elim
  |ow d =>
   cases d with
   |dic ks ds =>
    obtain⟨p,h1,h2,h3,vs,h4,h5,h6⟩:=h.ow i _ e;exact⟨ks,ds,p,vs,rfl,h1,h4,h5,h6,q⟩
   |_=>exact q.elim
theorem Hn{K:Up}(h:cT K He H0e Ha σ H ρ)(e1:ρ[i]?=some (.ow (.dic ks ds)))(e2:σ[i]?=some (some (.ref p)))(e5:H p=some (.dK ((ks.map Vg).zip vs)))(el:ks.length=vs.length)(e6:Reps K Ha ds vs)
  (rp:Rep K Ha d v)(rj:Rep K Ha j u)(q:bR K E He H0e Ha (ml i ρ ks ds d j) D'):∃a H4,V.ref p=.ref a/\Gd H a u v H4/\D'.nx σ H4:=by
 unfold ml at q;cases j with
 |str x =>
  by_cases hl:ks.length<line
  .simp only[if_pos hl] at q
   rw[Rep.str_iff.mp rj];refine⟨p,_,rfl,Gd.k (k:=.inr x) e5 ?_,?_⟩
   .rw[List.length_zip,Ur,←el,Nat.min_self]
    have:line<=sizeLine:=cF (UB _);omega
   .exact q σ _ Ha (aB.refl _) (h.writeG e1 e2 (KA el e6 rp))
  .simp only[if_neg hl] at q;exact q.elim
 |_=>exact q.elim
theorem D4(hu:X.A.units+1<cLine)(hN:X.N[i]?=some x)(hv:AZ X.env.scope x)(he:DE X E e f)(hk:DE X E b k)
  (hd:(x==("__debug__":Str))=false:=by decide)(hcd:(x==("__classdict__":Str))=false:=by decide)
  (hs:swapsWith e (some (.Subscript (.Name x p1) b p2)) pos.line X.env=pure false:=by rfl):DS X E He H0e (.Assign [.Subscript (.Name x p1) b p2] e pos) (vq i f k):=by
 refine⟨?_⟩;refine bL (KD hu (fR hN hv hd hcd) hk.o he.o hs) λD σ H ⟨Ha,ρ,h,q⟩=>⟨Ha,ρ,h.g.sub,h.rd,?_⟩
 obtain⟨ks,ds,p,vs,e1,e2,e5,el,e6,q⟩:=Fg h q;refine plain (k:=λd=>(k ρ).bind (ml i ρ ks ds d)) h q λd v H1 H01 _ g1 r1 q1=>⟨.ref p,e2,?_⟩
 have h1':=h.grow g1;refine⟨H01,ρ,h1'.g.sub,h1'.rd,plain (k:=ml i ρ ks ds d) h1' q1 λj u H2 H02 _ g2 r2 q2=>?_⟩;exact Hn (h1'.grow g2) e1 e2 (g2.s _ _ (g1.s _ _ e5)) el ((e6.mono g1.z).mono g2.z) (r1.mono g2.z) r2 q2
end
mutual
def nd:D->Bool
 |.lst ds=>nds ds
 |.tup ds=>nds ds
 |.dic _ _=>false
 |.exc _=>false
 |.ob _ _=>false
 |_=>true
def nds:List D->Bool
 |[]=>true
 |d::ds=>nd d&&nds ds
end
mutual
theorem Rep.nd_to{K:Up}{H H':Hp}(et:∀a vs,Rd H a (.tup vs)->Rd H' a (.tup vs))(el:∀a vs,Rd H a (.lst vs)->Rd H' a (.lst vs)):∀{d:D}{v:V},nd d=true->Rep K H d v->Rep K H' d v
 |.non,_,_,h=>by unfold Rep at h ⊢;exact h
 |.bl _,_,_,h=>by unfold Rep at h ⊢;exact h
 |.int _,_,_,h=>by unfold Rep at h ⊢;exact h
 |.str _,_,_,h=>by unfold Rep at h ⊢;exact h
 |.tup ds,_,f,h=>by
  unfold nd at f;obtain⟨a,vs,e1,e2,e3⟩:=aM.mp h;refine aM.mpr ⟨a,vs,e1,?_,Reps.nd_to et el f e3⟩;rcases e2 with e2|e2
  .exact .inl (et _ _ e2)
  .exact .inr e2
 |.lst ds,_,f,h=>by
  unfold nd at f;obtain⟨a,vs,e1,e2,e3⟩:=aH.mp h;refine aH.mpr ⟨a,vs,e1,?_,Reps.nd_to et el f e3⟩;rcases e2 with e2|e2
  .exact .inl (el _ _ e2)
  .exact .inr e2
 |.dic ks ds,_,f,h=>by unfold nd at f;cases f
 |.exc x,_,f,h=>by unfold nd at f;cases f
 |.ob k ds,_,f,h=>by unfold nd at f;cases f
theorem Reps.nd_to{K:Up}{H H':Hp}(et:∀a vs,Rd H a (.tup vs)->Rd H' a (.tup vs))(el:∀a vs,Rd H a (.lst vs)->Rd H' a (.lst vs)):∀{ds:List D}{vs:List V},nds ds=true->Reps K H ds vs->Reps K H' ds vs
 |[],_,_,h=>by unfold Reps at h ⊢;exact h
 |d::ds,_,f,h=>by
  unfold nds at f;rw[UU] at f;obtain⟨v,r,e1,e2,e3⟩:=aJ.mp h;exact aJ.mpr ⟨v,r,e1,Rep.nd_to et el f.1 e2,Reps.nd_to et el f.2 e3⟩
end
noncomputable def qr(Ha J:Hp):Hp:=λa=>match Ha a with
 |some o=>some o
 |none=>match J a with
  |some (.dK _)=>none
  |o=>o
noncomputable def vA(ρ:Ev):Bool:=ρ.all λs=>match s with
 |.ow (.lst _)=>false
 |.ox _ _=>false
 |.pt _=>false
 |_=>true
section
variable {K:Up}{E:XK}{He H0e Ha H H1 J:Hp}{σ:L2.St}{ρ:Ev}
theorem Mc(h:aB Ha J):∀a o,qr Ha J a=some o->J a=some o:=λa o e=>by
 unfold qr at e;cases q:Ha a with
 |some u=>rw[q] at e;cases e;exact h _ _ q
 |none =>
  rw[q] at e;cases q2:J a with
  |none=>rw[q2] at e;cases e
  |some u=>rw[q2] at e;cases u<;>first|(cases e;rfl)|cases e
theorem Ek(h:aB Ha J)(e:J a=some o)(hn:∀kvs,o≠.dK kvs):qr Ha J a=some o:=by
 unfold qr;cases q:Ha a with
 |some u=>have:=h _ _ q;rw[e] at this;cases this;rfl
 |none=>rw[e];cases o<;>first|rfl|exact absurd rfl (hn _)
theorem Ej(h:aB Ha J)(hu:∀kvs,u≠.dK kvs)(a:Addr)(e:Rd J a u):Rd (qr Ha J) a u:=by
 rcases e with e|⟨o,e⟩
 .exact .inl (Ek h e hu)
 .exact .inr ⟨o,Ek h e λ_ z=>nomatch z⟩
theorem cT.behindS(h:cT K He H0e Ha σ H ρ)(ho:vA ρ=true)(g:bp H (frz He Ha H) H1 J):cT K He H0e (qr Ha J) σ H1 ρ:=by
 have hJ:aB Ha J:=h.frz_sub.trans g.z;have le:=Mc (Ha:=Ha) (J:=J) hJ;have z:aB Ha (qr Ha J):=λb o e=>by unfold qr;rw[e]
 have ok:∀(i:Nat) (s:Sl),ρ[i]?=some s->(match s with|.ow (.lst _)=>false|.ox _ _|.pt _=>false|_=>true)=true:=λi s e=>U7.mp ho s (UA e);refine⟨⟨h.g.s.trans g.s,h.g.z.trans z,λb o e=>g.sub _ _ (le b o e),λa h1 h2=>?_⟩,h.rd.mono z,λi d e=>?_,h.ap,h.ln,OX.none (λi j ds e=>by have:=ok i _ e;cases this) (λi a e=>by have:=ok i _ e;cases this)⟩
 .cases q:qr Ha J a with
  |none=>exact absurd q h1
  |some o =>
   have hj:=le a o q;exact(h.frz_grow.trans g).nw a (by rw[hj];simp) h2
 .obtain⟨a,k1,k2,k3,k4⟩:=h.ow i d e
  cases d with
  |lst ds=>have:=ok i _ e;cases this
  |dic ks ds =>
   obtain⟨vs,h5,hl,h6⟩:=k4;refine⟨a,k1,k2,?_,vs,g.s _ _ h5,hl,h6.mono z⟩;have:frz He Ha H a=some (.dK ((ks.map Vg).zip vs)):=by unfold frz;rw[k2];exact h5
   have:=g.z _ _ this;unfold qr;rw[k3,this]
  |_=>exact k4.elim
end
noncomputable def CB(i:Nat) (ρ:Ev) (d:D):ai Fl:=if nd d=true/\vA ρ=true then .ok (.nx (ρ.set i (.sh d))) else .stuck
noncomputable def yZ(i:Nat) (f:Ev->ai D):Ev->ai Fl:=λρ=>(f (eR ρ)).bind (CB i ρ)
section
variable {X:Cx}{E:XK}{He H0e:Hp}{e b o:Expr}{pos apos cpos:Pos}{f k g:Ev->ai D}
theorem D3(hN:X.N.Nodup)(hi:X.N[i]?=some x)(hx:Gg X.env.scope x)(he:DE X E e f)(hs:swapsWith e (some (.Name x pos')) pos.line X.env=pure false:=by rfl)
  (hf:X.fn x=true∨X.env.scope.names.lookup x=some .local := by first|exact .inl rfl|exact .inr rfl|assumption):DS X E He H0e (.Assign [.Name x pos'] e pos) (yZ i f):=by
 refine⟨?_⟩;refine bL (oK hN hi hx he.o hs hf) λD σ H ⟨Ha,ρ,h,q⟩=>⟨frz He Ha H,eR ρ,h.frz_le,h.looks,?_⟩
 refine look h q λd v H' J _ g rp q'=>?_;unfold CB at q'
 by_cases fl:nd d=true/\vA ρ=true
 .rw[if_pos fl] at q'
  have hJ:aB Ha J:=h.frz_sub.trans g.z;refine q' _ H' (qr Ha J) (λb o e=>by unfold qr;rw[e]) ((h.behindS fl.2 g).put (rp.nd_to (λa vs e=>Ej hJ (λ_ z=>by cases z) a e) (λa vs e=>Ej hJ (λ_ z=>by cases z) a e) fl.1))
 .rw[if_neg fl] at q';exact q'.elim
theorem un1(h:n+64<cLine):n+1<cLine:=Vd (by omega) h
end
noncomputable def pQ(K:Up) (He H0e Ha:Hp) (σ:L2.St) (ρ:Ev) (r:ai D) (D':iY):Prop:=match r with
 |.ok _=>∀H' Ha',aB Ha Ha'->cT K He H0e Ha' σ H' ρ->D'.nx σ H'
 |.exn _=>True
 |.stuck=>False
noncomputable def QL(K:Up) (He H0e Ha:Hp) (σ:L2.St) (ρ:Ev) (r:ai D):XK:=λC ox H'=>∃x Ha',r=.exn x/\aB Ha Ha'/\cT K He H0e Ha' σ H' ρ/\A3 K Ha' x C ox
structure T1 (X:Cx) (st:Stmt) (g:Ev->ai D):Prop where
 o:∀(pins:List (Addr×Obj)) (s:Shared) (σ:L2.St) (H He H0e Ha:Hp) (ρ:Ev) (D':iY) (XE:Value->Shared->Prop),Inv X pins σ H s->cT X.K He H0e Ha σ H ρ->pQ X.K He H0e Ha σ ρ (g ρ) D' ->
  (∀H1 s1 e s',Inv X pins σ H1 s1->gi X.prog X.w X.stack H1 s1 (QL X.K He H0e Ha σ ρ (g ρ)) e s'->XE e s')->wpAny (model X.prog X.w) X.A (exec st X.env) (SP X pins D') XE s
structure TK (X:Cx) (sts:List Stmt) (g:Ev->ai D):Prop where
 o:∀(pins:List (Addr×Obj)) (s:Shared) (σ:L2.St) (H He H0e Ha:Hp) (ρ:Ev) (D':iY) (XE:Value->Shared->Prop),Inv X pins σ H s->cT X.K He H0e Ha σ H ρ->pQ X.K He H0e Ha σ ρ (g ρ) D' ->
  (∀H1 s1 e s',Inv X pins σ H1 s1->gi X.prog X.w X.stack H1 s1 (QL X.K He H0e Ha σ ρ (g ρ)) e s'->XE e s')->wpAny (model X.prog X.w) X.A (execs sts X.env) (SP X pins D') XE s
noncomputable def Fy:Ev->ai D:=λ_=>.ok .non
noncomputable def z8(g:Ev->ai D) (ρ:Ev) (_:D):ai D:=g ρ
noncomputable def z9(f g:Ev->ai D):Ev->ai D:=λρ=>(f ρ).bind (z8 g ρ)
noncomputable def Fz(g:Ev->ai D) (ρ:Ev) (r:ai D):ai D:=match r with
 |.ok (.bl b)=>if b=true then g ρ else .ok .non
 |_=>.stuck
noncomputable def QK(fc g:Ev->ai D):Ev->ai D:=λρ=>Fz g ρ (fc (eR ρ))
noncomputable def sA(m:List D->ai D) (r:ai (List D)):ai D:=match r with
 |.ok ds=>m ds
 |_=>.stuck
noncomputable def vQ(fa:Ev->ai (List D)) (m:List D->ai D):Ev->ai D:=λρ=>sA m (fa ρ)
theorem gi.imp(h:∀C ox H',E C ox H'->E' C ox H')(c:gi P w outer H s E e s'):gi P w outer H s E' e s':=by
 obtain⟨a,C,a0,B,H',h1,h2,h3,h4,h5,h6,h7,h8,h9,h10,hE⟩:=c;exact⟨a,C,a0,B,H',h1,h2,h3,h4,h5,h6,h7,h8,h9,h10,h _ _ _ hE⟩
section
variable {X:Cx}{E:XK}{c e:Expr}{es:List Expr}{fc f g:Ev->ai D}{fa:Ev->ai (List D)}{st:Stmt}{sts:List Stmt}{pos:Pos}
theorem wR:TK X [] Fy:=⟨λpins s σ H He H0e Ha ρ D' XE I h q hx=>wpAny_execs_nil ⟨σ,H,I,q H Ha (aB.refl _) h⟩⟩
theorem kP(h1:T1 X st f)(h2:TK X sts g):TK X (st::sts) (z9 f g):=⟨λpins s σ H He H0e Ha ρ D' XE I h q hx=>by
 have q:pQ X.K He H0e Ha σ ρ ((f ρ).bind (z8 g ρ)) D':=q;have hx:∀H1 s1 e s',Inv X pins σ H1 s1->gi X.prog X.w X.stack H1 s1 (QL X.K He H0e Ha σ ρ ((f ρ).bind (z8 g ρ))) e s'->XE e s':=hx;cases e1:f ρ with
 |stuck=>rw[e1] at q;exact q.elim
 |exn x =>
  rw[e1] at hx;refine wpAny_execs_cons (cj (h1.o pins s σ H He H0e Ha ρ ⟨λ_ _=>False,λ_ _=>False,λ_ _=>False,λ_ _=>False⟩ XE I h (by rw[e1];trivial) λH1 s1 e s' I1 hc=>hx H1 s1 e s' I1 (by rw[e1] at hc;exact hc)) λfl s1 hf=>?_);cases fl with|next|brk|cont=>obtain⟨_,_,_,k⟩:=hf;exact k.elim|ret u=>obtain⟨_,_,_,_,_,k⟩:=hf;exact k.elim
 |ok d =>
  rw[e1] at q hx;refine wpAny_execs_cons (cj (h1.o pins s σ H He H0e Ha ρ ⟨λσ' H'=>σ'=σ/\∃Ha',aB Ha Ha'/\cT X.K He H0e Ha' σ H' ρ,λ_ _=>False,λ_ _=>False,λ_ _=>False⟩ XE I h (by rw[e1];exact λH' Ha' z h'=>⟨rfl,Ha',z,h'⟩) λH1 s1 e s' I1 hc=>?_) λfl s1 hf=>?_)
  .refine hx H1 s1 e s' I1 (gi.imp (λC ox H' ⟨x,Ha',e2,k⟩=>?_) hc)
   rw[e1] at e2;cases e2
  .cases fl with
   |next =>
    obtain⟨σ',H',I',rfl,Ha',z,h'⟩:=hf;refine h2.o pins s1 σ' H' He H0e Ha' ρ D' XE I' h' ?_ λH1 s2 e s' I1 hc=>hx H1 s2 e s' I1 (gi.imp (λC ox H2 ⟨x,H02,e2,z2,k⟩=>⟨x,H02,e2,z.trans z2,k⟩) hc);have q:pQ X.K He H0e Ha σ' ρ (g ρ) D':=q;cases e2:g ρ with|stuck=>rw[e2] at q;exact q|exn x=>trivial|ok d2=>rw[e2] at q;exact λH2 H02 z2 h2=>q H2 H02 (z.trans z2) h2
   |brk=>obtain⟨_,_,_,k⟩:=hf;exact k.elim
   |cont=>obtain⟨_,_,_,k⟩:=hf;exact k.elim
   |ret u=>obtain⟨_,_,_,_,_,k⟩:=hf;exact k.elim⟩
theorem GO(hc:DT X.nox E0 c fc)(ha:TK X sts g):T1 X (.If c sts [] pos) (QK fc g):=⟨λpins s σ H He H0e Ha ρ D' XE I h q hx=>by
 have hc':=PT.nox (X:=X.wish XE) hc.o;have q:pQ X.K He H0e Ha σ ρ (Fz g ρ (fc (eR ρ))) D':=q;have hx:∀H1 s1 e s',Inv X pins σ H1 s1->gi X.prog X.w X.stack H1 s1 (QL X.K He H0e Ha σ ρ (Fz g ρ (fc (eR ρ)))) e s'->XE e s':=hx;cases e1:fc (eR ρ) with
 |stuck|exn x=>rw[e1] at q;exact q.elim
 |ok d =>
  rw[e1] at q hx;cases d with
  |bl b =>
   refine wpAny_If (cj (hc' pins s σ H (λb' H1=>b'=b/\aB H H1) (I.wish XE) ⟨frz He Ha H,eR ρ,h.frz_le,h.looks,?_⟩) λd s1 ⟨H1,I1,eb,hs⟩=>?_)
   .rw[e1];exact λH' J g=>⟨rfl,g.s⟩
   .subst eb
    cases d with|true=>exact ha.o pins s1 σ H1 He H0e Ha ρ D' XE I1.unwish (h.same hs) q hx|false=>exact wpAny_execs_nil ⟨σ,H1,I1.unwish,q H1 Ha (aB.refl _) (h.same hs)⟩
  |_=>exact q.elim⟩
theorem Ko{k n:Nat}{ps:List Str}(F:fN X.prog X.w X.K X.mg X.base (gi X.prog X.w) k fn fd ps (spD X.K n m))(hr:cE k X.A)(t:FT X.K X.mg x st ps fn fd)(ha:DA X.nox E0 (e::es) fa)(hl:∀ρ ds,fa ρ=.ok ds->ds.length=(e::es).length)(hn:(e::es).length=n:=by rfl)
  (hg:Gl X x:=by exact rfl)(hdb:(x==("__debug__":Str))=false:=by decide)(he:starEach (e::es) X.env=(false,eval e X.env)::starEach es X.env:=by exact aQ rfl)(hpl:(backTo cpos (starEach es X.env)).any (·.1)=false:=by exact bB rfl)
  (hs:swapsWith (.Call (.Name x p) (e::es) [] cpos) none pos.line X.env=pure false:=by rfl):T1 X (.Expr (.Call (.Name x p) (e::es) [] cpos) pos) (vQ fa m):=⟨λpins s σ H He H0e Ha ρ D' XE I h q hx=>by
 have q:pQ X.K He H0e Ha σ ρ (sA m (fa ρ)) D':=q;have hx:∀H1 s1 e s',Inv X pins σ H1 s1->gi X.prog X.w X.stack H1 s1 (QL X.K He H0e Ha σ ρ (sA m (fa ρ))) e s'->XE e s':=hx;refine wpAny_Expr_any (cj (Ed (Q:=λv H1=>D'.nx σ H1) F hr hg t.g t.F.kp t.b ha.o I ?_ hx hdb he hpl) λv s1 ⟨y,H1,I1,r1,q1⟩=>⟨σ,H1,I1,q1⟩) I.quiet hs;refine⟨Ha,ρ,h.g.sub,h.rd,?_⟩;cases e1:fa ρ with
 |stuck=>rw[e1] at q;exact q|exn x=>rw[e1] at q;exact q.elim
 |ok ds =>
  rw[e1] at q;intro vs H1 H01 g1 r1;refine⟨?_,H01,ds,g1.sub,r1,?_⟩
  .have:=r1.length
   have:=hl ρ ds e1;omega
  .show post _ _ _ _ (m ds) _
   have q:pQ X.K He H0e Ha σ ρ (m ds) D':=q;cases e2:m ds with
   |stuck=>rw[e2] at q;exact q|exn x=>exact λC ox H' Ha' g ex=>⟨x,Ha',e2,g1.z.trans g.z,h.grow (g1.trans g),ex⟩
   |ok d =>
    rw[e2] at q;exact λv H' Ha' g rp=>q H' Ha' (g1.z.trans g.z) (h.grow (g1.trans g))⟩
noncomputable def me(hit:Str->Bool) (ni:Nat) (sh:Ev->ai Fl) (ρ:Ev) (r:ai D):ai Fl:=match r with
 |.exn x=>if hit x.cls=true then(sh (ρ.set ni (.sh (mM x)))).bind (xr ni) else .stuck
 |.ok _=>.ok (.nx ρ)
 |.stuck=>.stuck
noncomputable def G3(g:Ev->ai D) (hit:Str->Bool) (ni:Nat) (sh:Ev->ai Fl):Ev->ai Fl:=λρ=>me hit ni sh ρ (g ρ)
theorem LB{c n:Str}(hstk:X.stack=X.env::X.outer/\X.env.frame=some X.env.locals)(hb:TK X sts g)
  (hg:Gl X c)(hm:X.mg c=some cv)(hhit:∀x C,hit x=true->XC X.K x C->X4 X.K (.ref C) cv=some true)(hN:X.N.Nodup)(hi:X.N[ni]?=some n)(hlo:X.env.scope.names.lookup n=some .local)
  (hh:∀ea,A8 (DL.hand X ea) E He H0e (ba::suite) sh)(hdb:(c==("__debug__":Str))=false:=by decide) :
  DS X E He H0e (.Try sts [.ExceptHandler (some (.Name c np)) (some n) (ba::suite) hpos] [] [] pos) (G3 g hit ni sh):=by
 refine⟨?_⟩;intro pins s σ H D I ⟨Ha,ρ,h,q⟩;have q:bR X.K E He H0e Ha (me hit ni sh ρ (g ρ)) D:=q;have hq:pQ X.K He H0e Ha σ ρ (g ρ) D:=by
  cases e1:g ρ with|exn x=>trivial|stuck=>rw[e1] at q;exact q|ok r=>rw[e1] at q;exact λH' Ha' z h'=>q σ H' Ha' z h'
 refine wpAny_Try_except (cj (hb.o pins s σ H He H0e Ha ρ D _ I h hq λH1 s1 e s' I1 hc=>?_) λf s1 hf=>?_)
 .have hit1:∀x,g ρ=.exn x->hit x.cls=true:=λx e1=>by
   rw[e1] at q;unfold me at q
   by_cases z:hit x.cls=true
   .exact z
   .simp only[if_neg z] at q;exact q.elim
  refine Jr hstk I1 hc hg hm (λC ox H' ⟨x,Ha',e1,_,_,⟨⟨c',ec,xc⟩,_⟩⟩=>?_) hN hi hlo (λea C dc ox H' s2 ⟨x,Ha',e1,sm,srx,⟨⟨c',ec,xc⟩,hm2⟩⟩ hox hne I2=>?_) hdb
  .cases ec;exact hhit _ _ (hit1 x e1) xc
  .cases ec
   refine(hh ea).o pins s2 _ _ _ I2 ⟨upd Ha' ea (.ext (yB ea C dc)),ρ.set ni (.sh (mM x)),(srx.grow (aO srx.g.sub hne)).put (Ah xc ⟨⟨C,rfl,xc⟩,hm2⟩ hox (srx.g.sub.free hne)),?_⟩;have sm2:aB Ha (upd Ha' ea (.ext (yB ea C dc))):=sm.trans (aO srx.g.sub hne).z;rw[e1] at q;unfold me at q;simp only[if_pos (hit1 x e1)] at q;cases e2:sh (ρ.set ni (.sh (mM x))) with
   |stuck|exn z=>rw[e2] at q;exact q
   |ok r =>
    rw[e2] at q;cases r with|nx ρ'=>exact λσ' H2 H02 s2 h2=>q _ H2 H02 (sm2.trans s2) (cT.drop h2)|rt d=>exact q|bk ρ'=>exact λσ' H2 H02 s2 h2=>q _ H2 H02 (sm2.trans s2) (cT.drop h2)|ct ρ'=>exact λσ' H2 H02 s2 h2=>q _ H2 H02 (sm2.trans s2) (cT.drop h2)
 .cases f with
  |next=>exact wpAny_execs_nil hf
  |brk=>exact hf
  |cont=>exact hf
  |ret u=>exact hf
end
noncomputable def BI(p:D×List D):ai (List D×List D):=match p.1 with
 |.lst ds=>.ok (ds,p.2)
 |_=>.stuck
noncomputable def zQ(f:Ev->List D->ai (D×List D)):Ev->List D->ai (List D×List D):=λρ st=>(f ρ st).bind BI
section
variable {X:Cx}{He H0e:Hp}{a:Addr}{tgt iter:Expr}{fm:Ev->List D->ai (D×List D)}
theorem Le(hi:DM X He H0e a iter fm):MI X He H0e a tgt iter (zQ fm):=by
 refine⟨i9 (xo hi.o) λσ H R ⟨Ha,ρ,st,vs,h,q⟩=>⟨Ha,ρ,st,vs,h,?_⟩⟩;unfold zQ at q;cases e1:fm ρ st with
 |stuck|exn x=>rw[e1] at q;exact q
 |ok pr =>
  obtain⟨d,s1⟩:=pr;rw[e1] at q;intro v H1 H01 us z h1 r1;cases d with
  |lst ds =>
   obtain⟨p,vs',rfl,hv,hrv⟩:=aH.mp r1;refine⟨p,rfl,⟨vs',aB.sqL h1.s.g.sub hv⟩,q _ H1 H01 us z h1 ⟨λi H' Ha' s1 s2 hi=>?_,λi H' Ha' x H2 d s1 s2 hd hy=>?_,λi H' Ha' s1 s2 hi=>?_⟩⟩
   .exact⟨vs',vs'[i]'(by rw[←hrv.length];exact hi),aB.sqL (s1.trans s2) hv,by simp⟩
   .obtain⟨rfl,hy⟩:=hy
    obtain⟨u,k1,k2⟩:=hrv.get hd;have:=hy vs' (aB.sqL (s1.trans s2) hv);rw[k1] at this;cases this;exact⟨Ha',bp.refl s2,k2.mono s1⟩
   .exact⟨vs',aB.sqL (s1.trans s2) hv,by rw[←hrv.length];exact hi⟩
  |_=>exact q.elim
end
section
variable {X:Cx}{He H0e:Hp}{a:Addr}{e:Expr}{fa:Ev->List D->ai (List D×List D)}
end
section
variable {X:Cx}{He H0e:Hp}{a:Addr}{e:Expr}{fm:Ev->List D->ai (D×List D)}{pos:Pos}
end
end DL
namespace DL
open PySem.SeqAt
open PySem PySem.Spec PyProof.Rows L2
theorem jM(l b:Addr)(items:Array Value)(n:Nat)(dd dd2:Option Addr)(es:Array DictEntry)(ne:Nat)(sl sl2:Array (Option Value)) :
  Meets (Builtin.«list.__ne__» ⟨[.ref l,.ref b],[]⟩) (λ_ R s=>s.heap.get? l=some { cls:=.type "list",dict:=dd,data:=.seq items n,slots:=sl }/\s.heap.get? b=some { cls:=.type "dict",dict:=dd2,data:=.dict es ne,slots:=sl2 }/\R (.ok (.ret .notImplemented)) s) :=
 .of_wp λprog w A R s h=>by obtain⟨hp,g,d,tk,os⟩:=s;obtain⟨hl,hb,h⟩:=h;have f1:=F.sub_dict_list;wp_walk using wpAny_loadPart' hl,wpAny_loadPart' hb;exact⟨_,rfl,h⟩
theorem kh(b:Int)(u:Tok)(l:Addr)(es:Array DictEntry)(ne:Nat)(dd:Option Addr)(sl:Array (Option Value)) :
  Meets (Builtin.«int.__ne__» ⟨[.int b u,.ref l],[]⟩) (λ_ R s=>s.heap.get? l=some { cls:=.type "dict",dict:=dd,data:=.dict es ne,slots:=sl }/\R (.ok (.ret .notImplemented)) s) :=
 .of_wp λprog w A R s h=>by obtain⟨hp,g,d,tk,os⟩:=s;obtain⟨hl,h⟩:=h;wp_walk using wpAny_loadPart' hl,wpAny_load hl;exact⟨_,rfl,h⟩
section
variable {A:Around}{s:Shared}{prog:Program}{w:World}{Ex:Value->Shared->Prop}
theorem iP(da:s.TypeIs (.ref a) "dict")(hy:s.TypeIs y T)(hsub:isSubtype (.type T) (.type "dict")=pure false)(hs:Slot "dict" f "dict.__ne__")(h:Q .notImplemented s) :
  wpAny (model prog w) A (call (.builtin "dict.__ne__") [.ref a,y]) Q Ex s:=by
 refine wpAny_call_entry hs da PySem.F.entry_dict_ne ?_ (PySem.F.args_dict_ne_2 _ _);show wpAny _ _ (Yb "__ne__" ⟨[.ref a,y],[]⟩ >>= _) _ _ s;refine Uq ?_;unfold Yb;refine Uq (wpAny_notOrdered_dict da ?_);show wpAny _ _ (pure (UZ a,y)) _ _ s;refine UL ?_;refine Uq (wpAny_isInstance (T:=T) hy hsub ?_);simp only[V5,if_true];refine Uq (wpAny_rule ?_);exact UL ⟨_,rfl,h⟩
end
section
variable {A:Around}{s:Shared}{prog:Program}{w:World}{Ex:Value->Shared->Prop}{K:Type}[DecidableEq K] {knd:KeyKind prog w K}{kvs:List (K×Value)}
theorem xB{a l:Addr}{items:Array Value}{Q:Value->Shared->Prop}(hd:s.heap.DictOf knd a kvs)(hl:s.heap.IsList l items)(hu:A.units<cLine)(h:Q (.bool true) s) :
  wpAny (model prog w) A (compareOp .NotEq (.ref a) (.ref l)) Q Ex s:=by
 have ta:=hd.typeIs;obtain⟨⟨c1,d1,t1,s1⟩,es,ep,ho,⟨hc,hx⟩,hdt,_,_,_⟩:=id hd;obtain⟨⟨cls,dd,data,sl⟩,ho2,hc2,n,hd2⟩:=id hl;simp only at hc hdt hc2 hd2;subst hc hdt hc2 hd2;have hne:a≠l:=by intro e;subst e;rw[ho] at ho2;have:=congrArg (λo=>o.map (·.cls)) ho2;simp at this
 exact rc_ne_decline_or (k:=false) ta ⟨_,ho2,rfl⟩ (by decide) F.sub_list_dict Xl YU
  (λ_ hq=>iP (T:="list") (y:=.ref l) ta ⟨_,ho2,rfl⟩ F.sub_list_dict Xl hq)
  (λ_ hq=>call_meets YU ⟨_,ho2,rfl⟩ F.entry_list_ne (F.args_list_ne_2 _ _) (jM l a items n dd d1 es ep sl s1) ⟨ho2,ho,hq⟩)
  (λ_ hq=>wpAny_isSame_ref_other hne ho ho2 (by simp) hq) (.inr hu) h
theorem zK{a:Addr}{b:Int}{u:Tok}{Q:Value->Shared->Prop}(hd:s.heap.DictOf knd a kvs)(hu:A.units<cLine)(h:Q (.bool true) s) :
  wpAny (model prog w) A (compareOp .NotEq (.ref a) (.int b u)) Q Ex s:=by
 have ta:=hd.typeIs;obtain⟨⟨c1,d1,t1,s1⟩,es,ep,ho,⟨hc,hx⟩,hdt,_,_,_⟩:=id hd;simp only at hc hdt;subst hc hdt;exact rc_ne_decline_or (k:=false) ta (typeIs_int s b u) (by decide) F.sub_int_dict Xl F.slot_int_ne_refl
  (λ_ hq=>iP ta (typeIs_int s b u) F.sub_int_dict Xl hq)
  (λ_ hq=>call_meets F.slot_int_ne_refl (typeIs_int s b u) F.entry_int_ne (F.args_int_ne_2 _ _) (kh b u a es ep d1 s1) ⟨ho,hq⟩)
  (λ_ hq=>wpAny_of_eq (rfl:isSame (.ref a) (.int b u)=pure false) hq) (.inr hu) h
end
noncomputable def vg(x y:D):ai D:=match x,y with
 |.dic _ _,.lst _=>.ok (.bl true)
 |.dic _ _,.int _=>.ok (.bl true)
 |x,y=>LR x y
noncomputable def NF(K:Up):R2:=λv u H Q=>Kx K v u H Q∨∃a kvs,v=.ref a/\Rd H a (.dK kvs)/\((∃b xs,u=.ref b/\eC K H b xs)∨∃i,u=.int i)/\Q (.bl true) H
theorem HH(hu:X.A.units+64<cLine):eh X (compareOp .NotEq) (NF X.K):=eh.or (NY hu) (by
 intro pins s σ H x y v u Q I rx ry h;obtain⟨a,kvs,rfl,ha,hb,q⟩:=h;cases rx;obtain⟨_,n1,vs,k1,d1⟩:=(show bN X.prog X.w H s.heap a (.dK kvs) from ha.ok I.hok)
 rcases hb with⟨b,xs,rfl,hq⟩|⟨i,rfl⟩
 .cases ry
  obtain⟨its,rv,pl,hz⟩:=I.list hq;exact xB d1 pl.isList (by omega) ⟨.bl true,H,I,rfl,q⟩
 .obtain⟨t,rfl⟩:=ry
  exact zK d1 (by omega) ⟨.bl true,H,I,rfl,q⟩)
theorem HP{X:Cx}:qT X.K E (NF X.K) vg:=by
 intro x y v u H Ha Q hs r1 r2 q;have old:post X.K E H Ha (LR x y) Q->NF X.K v u H Q:=λq=>.inl (N1 x y v u H Ha Q hs r1 r2 q);unfold vg at q;split at q
 .rw[Rep] at r1
  obtain⟨a,kvs,vs,h1,h2,h3,h4,h5⟩:=r1;obtain⟨b,xs,h6,h7,h8⟩:=aH.mp r2;exact .inr ⟨a,kvs,h1,aB.rd hs h2,.inl ⟨b,xs,h6,aB.sqL hs h7⟩,bj hs q (aL.mpr rfl)⟩
 .rw[Rep] at r1
  obtain⟨a,kvs,vs,h1,h2,h3,h4,h5⟩:=r1;exact .inr ⟨a,kvs,h1,aB.rd hs h2,.inr ⟨_,az.mp r2⟩,bj hs q (aL.mpr rfl)⟩
 .exact old q
end DL
namespace DL
open PySem PySem.Spec PyProof.Rows L2
theorem L4{ws:List Value}(ht:IsTup s.heap t ([]:List Value).toArray)(hb:IsTup s.heap b ws.toArray)
  (h1:Q (.ref b) s):wpAny (model prog w) A (binaryOp .Add (.ref t) (.ref b)) Q E s:=by
 obtain⟨⟨cls,dd,data,sl⟩,ho,hc,n,hd⟩:=id ht;obtain⟨⟨cls2,dd2,data2,sl2⟩,ho2,hc2,n2,hd2⟩:=id hb;simp only at hc hd hc2 hd2;subst hc hd hc2 hd2;exact concat_meets ⟨_,ho,rfl⟩ ⟨_,ho2,rfl⟩ noFill_tuple_add seq_tuple_add Xb W8 (W3 _ _)
   (tuple_addW0 t b _ ws.toArray n n2 dd dd2 sl sl2 (by simp)) ⟨ho,ho2,h1⟩
noncomputable def Qa(K:Up):R2:=λv u H Q=>∃a b ys,v=.ref a/\u=.ref b/\jK K H a []/\jK K H b ys/\Q (.ref b) H
section
variable {X:Cx}{E:XK}{a b:Expr}{f g:Ev->ai D}{pos:Pos}
theorem KZ:eh X (binaryOp .Add) (Qa X.K):=by
 intro pins s σ H x y v u Q I rx ry h;obtain⟨a,b,ys,rfl,rfl,ha,hb,q⟩:=h;cases rx;cases ry;obtain⟨its,r1,p1,_⟩:=I.tuple ha;obtain⟨its2,r2,p2,_⟩:=I.tuple hb;obtain rfl:its=[]:=r1.nil_iff.mpr rfl;exact L4 p1 p2 ⟨.ref b,H,I,rfl,q⟩
noncomputable def wg(x y:D):ai D:=match x,y with
 |.tup [],.tup es=>.ok (.tup es)
 |.tup ds,.tup es=>if ds.isEmpty=false/\ds.length+es.length<=line then .ok (.tup (ds++es)) else .stuck
 |_,_=>.stuck
theorem D8(ha:DE X E a f)(hb:DE X E b g):DE X E (.BinOp a .Add b pos) (ag f g wg):=ux (eh.or KZ xu) (by
 intro x y v u H Ha Q hs r1 r2 q;unfold wg at q;cases x with
 |tup ds =>
  cases y with
  |tup es =>
   cases ds with
   |nil =>
    obtain⟨l,vs,rfl,h1,h2⟩:=aM.mp r1;obtain⟨m,us,rfl,k1,k2⟩:=aM.mp r2;obtain rfl:vs=[]:=Reps.nil_iff.mp h2;exact .inl ⟨l,m,us,rfl,rfl,aB.sqT hs h1,aB.sqT hs k1,bj hs q r2⟩
   |cons d ds =>
    simp only at q
    by_cases h:(d::ds).isEmpty=false/\(d::ds).length+es.length<=line
    .simp only[if_pos h] at q
     obtain⟨l,vs,rfl,h1,h2⟩:=aM.mp r1;obtain⟨m,us,rfl,k1,k2⟩:=aM.mp r2;refine .inr ⟨l,m,vs,us,rfl,rfl,aB.sqT hs h1,aB.sqT hs k1,λz=>?_,by rw[←h2.length,←k2.length];exact cF h.2,λz=>?_,λz p hp=>?_⟩
     .have:=h2.length
      rw[z] at this;cases this
     .have:=k2.length
      rw[z] at this;have e:es=[]:=VR.mp this;rw[e,UT] at q;exact bj hs q r1
     .exact q _ _ _ (aO hs hp) (aM.mpr ⟨p,_,rfl,jK.of aw,(h2.app k2).mono (aO hs hp).z⟩)
    .simp only[if_neg h] at q;exact q.elim
  |_=>cases ds<;>exact q.elim
 |_=>exact q.elim) ha hb
end
end DL
namespace DL
open PySem.SeqAt
open PySem PySem.Spec PyProof.Rows L2
section
variable {A:Around}{s:Shared}{prog:Program}{w:World}{Ex:Value->Shared->Prop}{K:Type}[DecidableEq K] {knd:KeyKind prog w K}{kvs:List (K×Value)}
end
end DL
namespace DL
open PySem PySem.Spec PyProof.Rows L2
structure Rw where
 x:Str
 st:Stmt
 N:List Str
 n:Nat
noncomputable abbrev Rw.ps(r:Rw):List Str:=r.N.take r.n
instance {N P:List Str}{sc:Scope}:Decidable (d8 N P sc) :=
 decidable_of_iff (sc.kind=.function/\sc.isCoroutine=false/\sc.isGenerator=false/\N.Nodup/\N.take P.length=P/\(∀x∈P,sc.names.lookup x=some .local ∨ sc.names.lookup x=some .cell)/\∀y∈sc.names,y.2≠.free)
  ⟨λ⟨a,b,c,d,e,f,g⟩=>⟨a,b,c,d,e,f,g⟩,λ⟨a,b,c,d,e,f,g⟩=>⟨a,b,c,d,e,f,g⟩⟩
noncomputable def SX(rows:List Rw):Prop:=∀r∈rows,d8 r.N r.ps (defScope r.st)
instance {rows:List Rw}:Decidable (SX rows):=inferInstanceAs (Decidable (∀r∈rows,_))
noncomputable def TG(rows:List Rw) (K:Up) (mg:Str->Option Value) (A:Nat->Addr) (Q:Nat->FuncData):Prop:=∀i r,rows[i]?=some r->FT K mg r.x r.st r.ps (A i) (Q i)
noncomputable def RG(r:Rw):Prop:=∀(kV doc pm:Value) (an:Option Addr) (cdv ct:Value) (us:List Value),us.length=r.ps.length->bindArgs (Ww r.x r.x (defArgs r.st) (defBody r.st) (defScope r.st) .none kV doc pm an cdv ct) ⟨us,[]⟩=pure (r.ps.zip us)
noncomputable def QAs(K:Up):List Rw->List Addr->Prop
 |[],_=>True
 |r::rs,a::as=>QA K r.x r.st a/\QAs K rs as
 |_::_,[]=>False
theorem QAs.cons{K:Up}{st:Stmt}(q:QA K x st a)(t:QAs K rs as):QAs K (⟨x,st,N,n⟩::rs) (a::as):=⟨q,t⟩
theorem Mn{K:Up}{h:Heap}{mg:Str->Option Value}(X:K.In h)(G:h.Ns mainGlobals mg):∀{rows:List Rw}{as:List Addr},(∀r∈rows,RG r)->QAs K rows as ->
  ∃Q:Nat->FuncData,∀i r,rows[i]?=some r->FT K mg r.x r.st r.ps (as.getD i 0) (Q i)/\∃kV doc pm an cdv ct,Q i=Ww r.x r.x (defArgs r.st) (defBody r.st) (defScope r.st) .none kV doc pm an cdv ct
 |[],as,_,_=>⟨λ_=>default,λi r e=>by simp at e⟩
 |r::rs,[],_,q=>q.elim
 |r::rs,a::as,hb,q=>by
  obtain⟨Q,h⟩:=Mn X G (λr hr=>hb r (Uu _ hr)) q.2;obtain⟨d,h1,h2⟩:=QX X G q.1 (hb r UM);refine⟨λi=>match i with|0=>d|i+1=>Q i,λi r' e=>?_⟩;cases i with|zero=>rw[VC] at e;cases e;exact⟨h1,h2⟩|succ i=>rw[U9] at e;exact h i r' e
structure fO (P:Program) (w:World) (K:Up) (mg:Str->Option Value) (base:Heap) (CX:A5) (k:Nat) (fn:Addr) (fd:FuncData) (ps:List Str) (sp:Sp) (x:Str) (st:Stmt):Prop where
 F:fN P w K mg base CX k fn fd ps sp
 t:FT K mg x st ps fn fd
section
variable {P:Program}{w:World}{K:Up}{mg:Str->Option Value}{base:Heap}{rows:List Rw}{A:Nat->Addr}{Q:Nat->FuncData}{i k n:Nat}{r:Rw}{s:Ev->ai Fl}{sM:Addr->Ev->List D->ai dH}
variable (T:TG rows K mg A Q) (S:SX rows) (h:rows[i]?=some r)
include T S h
theorem oD(b:∀(cdv:Value) (A':Around) (outer:List Vu) (s0:Shared) (H Ha:Hp) (E:XK),cE k (A'.deeper (envOfC r.x (defScope r.st) s0.heap.objs.size (A i) cdv)) ->
   A8 (di CX0 P w K mg base r.N r.x (defScope r.st) (A i) cdv A' outer s0 H E).nox E H Ha (defBody r.st) s):fO P w K mg base CX0 (k+1) (A i) (Q i) r.ps (spD K r.ps.length (cm r.N.length s)) r.x r.st :=
 ⟨FI (T i r h).F (S r (UA h)) b,T i r h⟩
theorem oE(b:∀(cdv:Value) (A':Around) (outer:List Vu) (s0:Shared) (H Ha:Hp) (E:XK),cE k (A'.deeper (envOfC r.x (defScope r.st) s0.heap.objs.size (A i) cdv)) ->
   A8 (di (gi P w) P w K mg base r.N r.x (defScope r.st) (A i) cdv A' outer s0 H E) E H Ha (defBody r.st) s):fO P w K mg base (gi P w) (k+1) (A i) (Q i) r.ps (spD K r.ps.length (cm r.N.length s)) r.x r.st :=
 ⟨BW (T i r h).F (S r (UA h)) b,T i r h⟩
theorem oF(b:∀(cdv:Value) (A':Around) (outer:List Vu) (s0:Shared) (H Ha:Hp) (E:XK),cE k (A'.deeper (envOfC r.x (defScope r.st) s0.heap.objs.size (A i) cdv)) ->
   JM (di CX0 P w K mg base r.N r.x (defScope r.st) (A i) cdv A' outer s0 H E).nox E H Ha (defBody r.st) s):fO P w K mg base CX0 (k+1) (A i) (Q i) r.ps (PR K r.ps.length (Fc r.N.length s)) r.x r.st :=
 ⟨BV (T i r h).F (S r (UA h)) b,T i r h⟩
theorem oM(hn:r.ps.length=n+1)(b:∀(cdv:Value) (A':Around) (outer:List Vu) (s0:Shared) (H He Ha:Hp) (a:Addr) (E:XK),cE k (A'.deeper (envOfC r.x (defScope r.st) s0.heap.objs.size (A i) cdv)) ->
   Mg (di CX0 P w K mg base r.N r.x (defScope r.st) (A i) cdv A' outer s0 H E).nox He Ha a (defBody r.st) (sM a)):fO P w K mg base CX0 (k+1) (A i) (Q i) r.ps (Gf K n (qf r.N.length sM)) r.x r.st :=
 ⟨BU (T i r h).F (S r (UA h)) hn b,T i r h⟩
end
section
variable {P:Program}{w:World}{K:Up}{mg:Str->Option Value}{base:Heap}{CX:A5}{k:Nat}{fn:Addr}{fd:FuncData}{ps:List Str}{n:Nat}{m:List D->ai D}{x:Str}{st:Stmt}
end
section
variable {X:Cx}{E:XK}{e:Expr}{es:List Expr}{fa:Ev->ai (List D)}{pos:Pos}{CX:A5}{k k0 n:Nat}{fn:Addr}{fd:FuncData}{ps:List Str}{m:List D->ai D}{x:Str}{p:Pos}{st:Stmt}
theorem rC(B:fO X.prog X.w X.K X.mg X.base CX k0 fn fd ps (spD X.K n m) x st)(hr:cE k X.A)(ha:DA X E (e::es) fa)(hle:k0<=k:=by decide)(hx:gf CX X E:=by first|exact CQ|exact pass0E|exact CP)(hl:∀ρ ds,fa ρ=.ok ds->ds.length=(e::es).length:=by first|exact Rq|exact Rn|exact RQ|exact al4|exact al5)(hn:(e::es).length=n:=by rfl)
  (hg:Gl X x:=by exact rfl)(hdb:(x==("__debug__":Str))=false:=by decide)(he:starEach (e::es) X.env=(false,eval e X.env)::starEach es X.env:=by exact aQ rfl)(hpl:(backTo pos (starEach es X.env)).any (·.1)=false:=by exact bB rfl) :
  DE X E (.Call (.Name x p) (e::es) [] pos) (ao fa m):=LP (B.F.mono hle) hr hg B.t.g B.t.F.kp B.t.b hx ha hn hl hdb he hpl
theorem rF(B:fO X.prog X.w X.K X.mg X.base CX k0 fn fd ps (PR X.K n m) x st)(hr:cE k X.A)(ha:DA X E (e::es) fa)(hle:k0<=k:=by decide)(hx:gf CX X E:=by first|exact CQ|exact pass0E|exact CP)(hl:∀ρ ds,fa ρ=.ok ds->ds.length=(e::es).length:=by first|exact Rq|exact Rn|exact RQ|exact al4|exact al5)(hn:(e::es).length=n:=by rfl)
  (hg:Gl X x:=by exact rfl)(hdb:(x==("__debug__":Str))=false:=by decide)(he:starEach (e::es) X.env=(false,eval e X.env)::starEach es X.env:=by exact aQ rfl)(hpl:(backTo pos (starEach es X.env)).any (·.1)=false:=by exact bB rfl) :
  DF X E (.Call (.Name x p) (e::es) [] pos) (ao fa m):=LL (B.F.mono hle) hr hg B.t.g B.t.F.kp B.t.b hx ha hn hl hdb he hpl
theorem rD(B:fO X.prog X.w X.K X.mg X.base (gi X.prog X.w) k0 fn fd ps (spD X.K n m) x st)(hr:cE k X.A)(ha:DA X.nox E0 (e::es) fa)(hle:k0<=k:=by decide)(hl:∀ρ ds,fa ρ=.ok ds->ds.length=(e::es).length:=by first|exact Rq|exact Rn|exact RQ|exact al4|exact al5)(hn:(e::es).length=n:=by rfl)
  (hg:Gl X x:=by exact rfl)(hdb:(x==("__debug__":Str))=false:=by decide)(he:starEach (e::es) X.env=(false,eval e X.env)::starEach es X.env:=by exact aQ rfl)(hpl:(backTo cpos (starEach es X.env)).any (·.1)=false:=by exact bB rfl)
  (hs:swapsWith (.Call (.Name x p) (e::es) [] cpos) none pos.line X.env=pure false:=by rfl):TB X (.Expr (.Call (.Name x p) (e::es) [] cpos) pos) (rq fa m):=Kl (B.F.mono hle) hr hg B.t.g B.t.F.kp B.t.b ha hn hl hdb he hpl hs
theorem rK(B:fO X.prog X.w X.K X.mg X.base (gi X.prog X.w) k0 fn fd ps (spD X.K n m) x st)(hr:cE k X.A)(ha:DA X.nox E0 (e::es) fa)(hle:k0<=k:=by decide)(hl:∀ρ ds,fa ρ=.ok ds->ds.length=(e::es).length:=by first|exact Rq|exact Rn|exact RQ|exact al4|exact al5)(hn:(e::es).length=n:=by rfl)
  (hg:Gl X x:=by exact rfl)(hdb:(x==("__debug__":Str))=false:=by decide)(he:starEach (e::es) X.env=(false,eval e X.env)::starEach es X.env:=by exact aQ rfl)(hpl:(backTo cpos (starEach es X.env)).any (·.1)=false:=by exact bB rfl)
  (hs:swapsWith (.Call (.Name x p) (e::es) [] cpos) none pos.line X.env=pure false:=by rfl):T1 X (.Expr (.Call (.Name x p) (e::es) [] cpos) pos) (vQ fa m):=Ko (B.F.mono hle) hr B.t ha hl hn hg hdb he hpl hs
end
section
variable {X:Cx}{He H0e:Hp}{a:Addr}{E:XK}{e:Expr}{es:List Expr}{fa:Ev->List D->ai (List D×List D)}{pos:Pos}{CX:A5}{k k0 n:Nat}{fn:Addr}{fd:FuncData}{ps:List Str}{x:Str}{p:Pos}{ft:Stmt}
theorem Ub(B:fO X.prog X.w X.K X.mg X.base CX k0 fn fd ps (spD X.K n m) x ft)(hr:cE k X.A)(ha:Ml X He H0e a (e::es) fa)(hle:k0<=k:=by decide)(hx:gf CX X E0:=by exact CQ)(hl:∀ρ st ds,fa ρ st=.ok ds->ds.1.length=(e::es).length:=by first|exact SR|exact TL|exact am3|exact am4|exact am5)(hn:(e::es).length=n:=by rfl)
  (hg:Gl X x:=by exact rfl)(hdb:(x==("__debug__":Str))=false:=by decide)(he:starEach (e::es) X.env=(false,eval e X.env)::starEach es X.env:=by exact aQ rfl)(hpl:(backTo pos (starEach es X.env)).any (·.1)=false:=by exact bB rfl) :
  DM X He H0e a (.Call (.Name x p) (e::es) [] pos) (mA fa m):=LJ (E:=E0) (B.F.mono hle) hr hg B.t.g B.t.F.kp B.t.b hx ha hn hl hdb he hpl
theorem rM(i:Nat)(B:fO X.prog X.w X.K X.mg X.base CX k0 fn fd ps (Gf X.K n m) x ft)(hr:cE k X.A)(ha:Ml X He H0e a es fa)(hle:k0<=k:=by decide)(hx:gf CX X E0:=by exact CQ)(hl:∀ρ st ds,fa ρ st=.ok ds->ds.1.length=n:=by first|exact TM|exact SR|exact TL|exact am3|exact am4|exact am5)
  (hN:X.N[i]?=some y:=by rfl)(hv:AZ X.env.scope y:=by first|exact UC rfl|exact XM (UC rfl)|exact XM (XM rfl))(hg:Gl X x:=by exact rfl)
  (hd:(y==("__debug__":Str))=false:=by decide)(hcd:(y==("__classdict__":Str))=false:=by decide)(hdb:(x==("__debug__":Str))=false:=by decide)(he:starEach (.Name y p1::es) X.env=(false,eval (.Name y p1) X.env)::starEach es X.env:=by exact aQ rfl)(hpl:(backTo pos (starEach es X.env)).any (·.1)=false:=by exact bB rfl) :
  DM X He H0e a (.Call (.Name x p) (.Name y p1::es) [] pos) (bD i a fa m):=Jg (E:=E0) (B.F.mono hle) hr hg B.t.g B.t.F.kp B.t.b hx hN hv ha hl hd hcd hdb he hpl
end
theorem Uk(hn:r.ps.length=1:=by rfl)(hb:∀(kV doc pm:Value) (an:Option Addr) (cdv ct b:Value),bindArgs (Ww r.x r.x (defArgs r.st) (defBody r.st) (defScope r.st) .none kV doc pm an cdv ct) ⟨[b],[]⟩=pure (r.ps.zip [b]):=by intros;rfl):RG r:=λ_ _ _ _ _ _ us hl=>by
 obtain⟨b,rfl⟩:=TC (hl.trans hn);exact hb ..
theorem Uj(hn:r.ps.length=2:=by rfl)(hb:∀(kV doc pm:Value) (an:Option Addr) (cdv ct b c:Value),bindArgs (Ww r.x r.x (defArgs r.st) (defBody r.st) (defScope r.st) .none kV doc pm an cdv ct) ⟨[b,c],[]⟩=pure (r.ps.zip [b,c]):=by intros;rfl):RG r:=λ_ _ _ _ _ _ us hl=>by
 obtain⟨b,c,rfl⟩:=Tz (hl.trans hn);exact hb ..
theorem Ui(hn:r.ps.length=3:=by rfl)(hb:∀(kV doc pm:Value) (an:Option Addr) (cdv ct b c d:Value),bindArgs (Ww r.x r.x (defArgs r.st) (defBody r.st) (defScope r.st) .none kV doc pm an cdv ct) ⟨[b,c,d],[]⟩=pure (r.ps.zip [b,c,d]):=by intros;rfl):RG r:=λ_ _ _ _ _ _ us hl=>by
 obtain⟨b,c,d,rfl⟩:=Tx (hl.trans hn);exact hb ..
end DL
namespace Com
open PySem L2 DL
noncomputable def N4(st:List D) (d:D):ai (D×List D):=.ok (d,st)
noncomputable def Ts(st:List D) (d:D):ai dH:=.ok (.rt d st)
noncomputable def zw{α:Type}(b:Bool) (x:ai α):ai α:=if b=true then x else .stuck
noncomputable def Tv(g:Ev->List D->ai (D×List D)) (op:D->D->ai D) (ρ:Ev) (p:D×List D):ai (D×List D):=(g ρ p.2).bind λq=>(op p.1 q.1).bind λd=>.ok (d,q.2)
noncomputable def QE(op:D->D->ai D) (x:D) (q:D×List D):ai (D×List D):=(op x q.1).bind (N4 q.2)
noncomputable def Tu(fa:Ev->List D->ai (List D×List D)) (ρ:Ev) (p:D×List D):ai (List D×List D):=(fa ρ p.2).bind λq=>.ok (p.1::q.1,q.2)
noncomputable def QD(x:D) (q:List D×List D):ai (List D×List D):=.ok (x::q.1,q.2)
noncomputable def Tw(m:List D->ai D) (p:List D×List D):ai (D×List D):=(m p.1).bind λd=>.ok (d,p.2)
noncomputable def Tr(st ds:List D):ai (List D×List D):=.ok (ds,st)
noncomputable def Tt(tg:Ev->D->ai Ev) (s:Ev->List D->ai dH) (ρ:Ev) (p:List D×List D):ai dH:=forM tg s p.1 ρ p.2
noncomputable def Oh(tg:Ev->D->ai Ev) (s:Ev->List D->ai dH) (r:List D) (x:dH):ai dH:=match x with
 |.nx ρ2 s2=>DL.forM tg s r ρ2 s2
 |.ct ρ2 s2=>DL.forM tg s r ρ2 s2
 |.bk ρ2 s2=>.ok (.nx ρ2 s2)
 |.rt d s=>.ok (.rt d s)
noncomputable def TH(tg:Ev->D->ai Ev) (s:Ev->List D->ai dH) (r st:List D) (ρ:Ev):ai dH:=(s ρ st).bind (Oh tg s r)
noncomputable def Tq(k:Ev->List D->ai (D×List D)) (ρ:Ev) (p:D×List D):ai dH:=(k ρ p.2).bind (mj ρ p.1)
section
variable {s t:Ev->List D->ai dH}{S:Ev->ai Fl}{f g h:Ev->List D->ai (D×List D)}{F:Ev->ai D}{fa:Ev->List D->ai (List D×List D)}{src:Ev->ai (List D)}{srm:Ev->List D->ai (List D×List D)}{tg:Ev->D->ai Ev}{ρ r:Ev}{i j n:Nat}{d x y:D}{st ds xs:List D}{op:D->D->ai D}{a:Addr}
theorem IG:aW s t ρ st=(s ρ st).bind (C2 t):=aK rfl
theorem DC:C2 t (.nx ρ st)=t ρ st:=aK rfl
theorem DB:C2 t (.rt d st)=.ok (.rt d st):=aK rfl
theorem DR:bc ρ st=.ok (.nx ρ st):=aK rfl
theorem DN:dD S ρ st=(S ρ).bind (BJ st):=aK rfl
theorem AB:BJ st (.nx ρ)=.ok (.nx ρ st):=aK rfl
theorem IF:dB i f ρ st=(f ρ st).bind (HX i ρ):=aK rfl
theorem Dz:HX i ρ (d,st)=.ok (.nx (ρ.set i (.sh d)) st):=aK rfl
theorem II:xE f ρ st=(f ρ st).bind HY:=aK rfl
theorem DJ:HY (d,st)=.ok (.rt d st):=aK rfl
theorem DH:eu F ρ st=(F (eR ρ)).bind (Ts st):=aK rfl
theorem AA:Ts st d=.ok (.rt d st):=aK rfl
theorem ML:qC f s t ρ st=(f ρ st).bind (Lf s t ρ):=aK rfl
theorem IM:Lf s t ρ (.bl true,st)=s ρ st:=aK rfl
theorem IL:Lf s t ρ (.bl false,st)=t ρ st:=aK rfl
theorem Q5:mP F ρ st=(F ρ).bind (N4 st):=aK rfl
theorem MP:N4 st d=.ok (d,st):=aK rfl
theorem MM{k:Int}:vX st (.int k)=.ok (.int k,st):=aK rfl
theorem MN:vX st (.bl b)=.ok (.bl b,st):=aK rfl
theorem Q3:mV i a F ρ st=zw (ke ρ[i]? a) ((F (vw i ρ st)).bind (vX st)):=aK rfl
theorem Q4:mT F ρ st=(F (eR ρ)).bind (N4 st):=aK rfl
theorem MO:RP i a F ρ st=zw (ke ρ[i]? a) ((F (vw i ρ st)).bind (N4 st)):=aK rfl
theorem MK:ke (some (.pt a)) a=true:=beq_self_eq_true a
theorem DQ{z:ai α}:zw true z=z:=if_pos rfl
theorem MJ:vw i ρ st=(eR ρ).set i (.sh (.lst st)):=aK rfl
theorem IE:E4 (.pt a)=.pt a:=aK rfl
theorem Q6:mB f g op ρ st=(f ρ st).bind (Tv g op ρ):=aK rfl
theorem MR:Tv g op ρ (x,st)=(g ρ st).bind (QE op x):=aK rfl
theorem MQ:QE op x (y,st)=(op x y).bind (N4 st):=aK rfl
theorem IK:bX ρ st=.ok ([],st):=aK rfl
theorem DV:aT f fa ρ st=(f ρ st).bind (Tu fa ρ):=aK rfl
theorem AE:Tu fa ρ (x,st)=(fa ρ st).bind (QD x):=aK rfl
theorem AD:QD x (xs,st)=.ok (x::xs,st):=aK rfl
theorem Q7:mA fa m ρ st=(fa ρ st).bind (Tw m):=aK rfl
theorem MS:Tw m (ds,st)=(m ds).bind (N4 st):=aK rfl
theorem DY:bD i a fa m ρ st=zw (ke ρ[i]? a) ((fa ρ st).bind (Cf a m)):=aK rfl
theorem AF:Cf a m (ds,st)=m a st ds:=aK rfl
theorem IJ:zR i a f h ρ st=zw (ke ρ[i]? a) ((f ρ st).bind (Tq h ρ)):=aK rfl
theorem DK:Tq h ρ (d,st)=(h ρ st).bind (mj ρ d):=aK rfl
theorem IU:Ib i f ρ st=KU ρ[i]? λds=>(f ρ st).bind (vF i ρ ds):=aK rfl
theorem DP{k:List D->ai dH}:KU (some (.ow (.lst ds))) k=k ds:=aK rfl
theorem yd(e:decide (ds.length<=999)=true):vF i ρ ds (d,st)=.ok (.nx (ρ.set i (.ow (.lst (ds++[d])))) st):=if_pos (Vd (of_decide_eq_true e) (by decide))
theorem IV:Lg f g ρ st=(f ρ st).bind (C3 g ρ):=aK rfl
theorem D0:C3 g ρ (.bl true,st)=g ρ st:=aK rfl
theorem DZ:C3 g ρ (.bl false,st)=.ok (.bl false,st):=aK rfl
theorem ID:xD src ρ st=(src ρ).bind (Tr st):=aK rfl
theorem Dy:Tr st ds=.ok (ds,st):=aK rfl
theorem Dx:C1 f ρ st=(f ρ st).bind xC:=aK rfl
theorem ug{k:Int}(e:-4611686018427387904<=k/\k<4611686018427387904):xC (.int k,st)=.ok (intsFrom 0 k.toNat,st):=if_pos e
theorem IP:ka srm tg s ρ st=(srm ρ st).bind (Tt tg s ρ):=aK rfl
theorem DU:Tt tg s ρ (ds,st)=forM tg s ds ρ st:=aK rfl
theorem DX{fr:List Nat}:pV n fr srm tg f ρ st=(srm ρ st).bind (uB (eW n fr ρ) tg f):=aK rfl
theorem Om:DL.forM tg s [] ρ st=.ok (.nx ρ st):=aK rfl
theorem IT:DL.forM tg s (d::ds) ρ st=(tg ρ d).bind (TH tg s ds st):=aK rfl
theorem IS:TH tg s ds st ρ=(s ρ st).bind (Oh tg s ds):=aK rfl
theorem IQ:Oh tg s ds (.nx ρ st)=DL.forM tg s ds ρ st:=aK rfl
theorem IH:qf n b a st ds=(b a (.pt a::ds.map Sl.sh++U2 (n-(ds.length+1)) .no) st).bind G6:=aK rfl
theorem DD:G6 (.rt d st)=.ok (d,st):=aK rfl
end
theorem ki{tg:Ev->D->ai Ev}{body:Ev->List D->ai dH}(I:Nat->Ev->List D->Prop)(ds:List D)(step:∀(j:Nat) (d:D) (ρ:Ev) (st:List D),ds[j]?=some d->I j ρ st->∃ρ1 ρ2 st2,tg ρ d=.ok ρ1/\(body ρ1 st=.ok (.nx ρ2 st2)∨body ρ1 st=.ok (.ct ρ2 st2))/\I (j+1) ρ2 st2) :
  ∀(j:Nat) (ρ:Ev) (st:List D),j<=ds.length->I j ρ st->∃ρ2 st2,forM tg body (ds.drop j) ρ st=.ok (.nx ρ2 st2)/\I ds.length ρ2 st2:=by
 intro j ρ st hj h;generalize hk:ds.length-j=k
 induction k generalizing j ρ st with
 |zero =>
  have:j=ds.length:=by omega
  subst this;exact⟨ρ,st,by rw[Wk];rfl,h⟩
 |succ k ih =>
  have hlt:j<ds.length:=by omega
  obtain⟨ρ1,ρ2,st2,h1,h2,h3⟩:=step j ds[j] ρ st (Uz hlt) h;obtain⟨ρ3,st3,h4,h5⟩:=ih (j+1) ρ2 st2 (by omega) h3 (by omega);refine⟨ρ3,st3,?_,h5⟩;rw[Va hlt];unfold DL.forM;rw[h1];rcases h2 with h2|h2
  .simp only[ai.bind,h2];exact h4
  .simp only[ai.bind,h2];exact h4
theorem wo{b:Ev}{tg:Ev->D->ai Ev}{fm:Ev->List D->ai (D×List D)}(I:List D->Prop)(P:D->Prop):∀(ds st:List D),I st->(∀d st,d∈ds->I st->∃ρ1 y st2,tg b d=.ok ρ1/\fm ρ1 st=.ok (y,st2)/\P y/\I st2)->∃es st2,iQ b tg fm ds st=.ok (es,st2)/\es.length=ds.length/\(∀e∈es,P e)/\I st2
 |[],st,h,_=>⟨[],st,rfl,rfl,λe he=>by simp at he,h⟩
 |d::ds,st,h,step=>by
  obtain⟨ρ1,y,st1,h1,h2,h3,h4⟩:=step d st (by simp) h;obtain⟨es,st2,k1,k2,k3,k4⟩:=wo I P ds st1 h4 λd' st' hd=>step d' st' (Uu _ hd);refine⟨y::es,st2,?_,by simp [k2],λe he=>?_,k4⟩
  .unfold iQ
   rw[h1];simp only[ai.bind,h2,k1]
  .rcases Uv.mp he with rfl|he
   .exact h3
   .exact k3 e he
end Com
namespace Bor
open PySem L2 DL
noncomputable abbrev dA:List D->ai D:=Cod.dA
noncomputable def jD:Ev->ai Fl :=
 (vp (bO 2 (dC (.int 0)))
 (vp (fE (ag (ae 1) (ao (af (ae 0) aE) (m1 fj)) Pf)
 (aC (bO 2 (ag (ae 0) (ae 1) bf))
 av)
 av)
 (y0 (ao (af (ae 2) (af (ag (ag (ag (ag (ae 2) (dC (.int 2147483587)) dk) (ag (ag (dC (.int 104729)) (ae 1) cL) (ae 1) cL) bV) (dC (.int 7)) bV) (dC (.int 2147483587)) dk) (af (ag (ae 2) (ag (dC (.int 10)) (dC (.int 18)) qp) SO) aE))) b5))))
noncomputable def b9:List D->ai D:=Fc 3 jD
noncomputable def kL:Addr->Ev->List D->ai dH:=λa =>
 (aW (qC (RP 0 a (ag (ae 0) (dC (.int 2)) bf))
 (aW (dB 2 (mV 0 a (ag (ag (ae 0) (dC (.int 0)) bf) (ae 1) dk)))
 (aW (zR 0 a (mV 0 a (ag (ag (ae 0) (dC (.int 0)) bf) (ae 1) nW)) (mP (dC (.int 0))))
 (aW (zR 0 a (mV 0 a (ag (ag (ae 0) (dC (.int 0)) bf) (dC (.int 0)) JR)) (mP (dC (.int 2))))
 (aW (eu (ae 2))
 bc))))
 bc)
 (aW (dD (bO 3 (dC (.int 0))))
 (aW (ka (xD (iI (ag (dC (.int 1)) (ag (dC (.int 2)) (ao (af (ag (ae 1) (ag (dC (.int 10)) (dC (.int 6)) qp) JR) aE) (m1 iA)) cL) bV))) (cz 4)
 (aW (zR 0 a (mV 0 a (ag (ag (ag (ag (ae 0) (dC (.int 1)) bf) (dC (.int 39373)) cL) (dC (.int 17)) bV) (dC (.int 2147483647)) dk)) (mP (dC (.int 1))))
 (aW (dB 3 (mV 0 a (ag (ag (ae 3) (dC (.int 2147483587)) cL) (ag (ag (ag (ae 0) (dC (.int 1)) bf) (ag (ae 0) (dC (.int 1)) bf) cL) (dC (.int 2147483587)) dk) bV)))
 bc)))
 (aW (eu (ag (ag (ae 3) (dC (.int 64)) nW) (ae 1) dk))
 bc))))
noncomputable def aG:Addr->List D->List D->ai (D×List D):=qf 5 kL
noncomputable def n9:Addr->Ev->List D->ai dH:=λa =>
 (aW (dB 2 (pV 1 [0] (xD (iI (dC (.int 8)))) (cz 0) (bD 1 a (aT (mP (dC (.int 26))) bX) aG)))
 (aW (dB 3 (mB (mP (dC (.int 1))) (bD 0 a (aT (mP (dC (.int 8))) bX) aG) bV))
 (aW (dB 4 (bD 0 a (aT (mP (ae 3)) bX) aG))
 (aW (dB 5 (bD 0 a (aT (mP (dC (.int 26))) bX) aG))
 (aW (dB 6 (mB (mP (ao (af (dC (.int 1)) (af (dC (.int 3)) (af (dC (.int 5)) (af (dC (.int 7)) (af (dC (.int 9)) (af (dC (.int 11)) aE)))))) b5)) (bD 0 a (aT (mP (dC (.int 6))) bX) aG) bf))
 (aW (dB 7 (mB (bD 0 a (aT (mP (dC (.int 3))) bX) aG) (mP (dC (.int 0))) kF))
 (aW (dD (mh 8 (ao aE b5)))
 (aW (dD (za (ae 1) (cz 9)
 (aC (mh 10 (qo (ae 2) du (c9 (ae 3))))
 (aC (G4 10 (ag (ag (ae 5) (ag (ae 6) (ae 9) cL) bV) (dC (.int 26)) dk) (ae 4))
 (aC (fE (ae 7)
 (aC (mh 10 (qo (ae 2) du (c9 (ag (dC (.int 1)) (ag (ag (ae 5) (ae 9) bV) (dC (.int 8)) dk) bV))))
 av)
 av)
 (aC (G5 10 (fq 8 (we (dC (.str "")) (af (eA 1 [] (qe (ae 10)) (cz 0) mYes (ag (dC (.str "abcdefghijklmnopqrstuvwxyz")) (ae 0) bf)) aE))))
 av))))))
 (aW (eu (ae 8))
 bc)))))))))
noncomputable def dM:Addr->List D->List D->ai (D×List D):=qf 11 n9
noncomputable def lI:Addr->Ev->List D->ai dH:=λa =>
 (aW (dB 2 (bD 0 a (aT (mP (dC (.int 6))) bX) aG))
 (aW (dB 3 (mB (mP (ae 1)) (bD 0 a (aT (mP (ag (ao (af (dC (.int 3)) (af (dC (.int 6)) (af (dC (.int 20)) (af (dC (.int 12)) (af (dC (.int 90)) (af (ag (dC (.int 10)) (dC (.int 12)) qp) aE)))))) b5) (ae 2) bf)) bX) aG) bV))
 (aW (dD (bO 4 (ag (ao (af (dC (.int 1)) (af (dC (.int 1)) (af (dC (.int 1)) (af (dC (.int 4)) (af (dC (.int 12)) (af (dC (.int 12)) aE)))))) b5) (ae 2) bf)))
 (aW (dD (bO 5 (ao (af (dC (.int 1)) (af (dC (.int 2)) (af (dC (.int 3)) (af (dC (.int 4)) (af (dC (.int 5)) (af (dC (.int 6)) (af (dC (.int 10)) (af (dC (.int 12)) (af (dC (.int 15)) (af (dC (.int 20)) (af (dC (.int 30)) (af (dC (.int 60)) aE)))))))))))) b5)))
 (aW (xE (mA (aT (mP (ae 3)) (aT (mB (mP (ae 5)) (bD 0 a (aT (mP (ae 4)) bX) aG) bf) bX)) dA))
 bc)))))
noncomputable def cN:Addr->List D->List D->ai (D×List D):=qf 6 lI
noncomputable def gU:Addr->Ev->List D->ai dH:=λa =>
 (aW (dD (bO 3 (ao (af (ae 1) aE) (m1 fj))))
 (aW (dB 4 (bD 0 a (aT (mP (ae 3)) bX) aG))
 (aW (dB 5 (mB (mB (mP (ag (ae 4) (dC (.int 1)) bV)) (bD 0 a (aT (mP (ag (ae 3) (dC (.int 1)) kE)) bX) aG) bV) (mP (ae 3)) dk))
 (aW (qC (mB (bD 0 a (aT (mP (dC (.int 2))) bX) aG) (mP (dC (.int 0))) kF)
 (aW (dD (bO 4 (ag (ae 2) (ae 3) dk)))
 (aW (dD (bO 5 (ag (ag (ae 2) (dC (.int 1)) bV) (ae 3) dk)))
 bc))
 bc)
 (aW (dB 6 (mB (mP (ao (af (dC (.str "one")) (af (dC (.str "both")) aE)) b5)) (bD 0 a (aT (mP (dC (.int 2))) bX) aG) bf))
 (aW (dB 7 (bD 0 a (aT (mP (dC (.int 0))) bX) cN))
 (aW (dB 8 (bD 0 a (aT (mP (dC (.int 1))) bX) cN))
 (aW (qC (mB (bD 0 a (aT (mP (dC (.int 4))) bX) aG) (mP (dC (.int 0))) kF)
 (aW (dD (bO 8 (dC (.non))))
 bc)
 bc)
 (aW (eu (ao (af (ag (ae 1) (ae 4) bf) (af (ag (ae 1) (ae 5) bf) (af (ae 6) (af (ae 7) (af (ae 8) aE))))) cO))
 bc)))))))))
noncomputable def cM:Addr->List D->List D->ai (D×List D):=qf 9 gU
noncomputable def l6:Addr->Ev->List D->ai dH:=λa =>
 (aW (dB 3 (bD 0 a (aT (mB (mP (dC (.int 2))) (bD 0 a (aT (mP (ag (ae 1) (dC (.int 1)) kE)) bX) aG) bV) bX) dM))
 (aW (dD (bO 4 (ao (af (ae 3) aE) (m1 fj))))
 (aW (dD (mh 5 (ao aE b5)))
 (aW (ka (C1 (bD 0 a (aT (mP (ag (ae 2) (dC (.int 1)) bV)) bX) aG)) (cz 6)
 (aW (Ib 5 (bD 0 a (aT (mP (ae 3)) (aT (mP (ae 6)) bX)) cM))
 bc))
 (aW (dD (bO 7 (dC (.int 0))))
 (aW (dD (bO 8 (ag (ae 4) (dC (.int 1)) kE)))
 (aW (qC (mB (bD 0 a (aT (mP (dC (.int 2))) bX) aG) (mP (dC (.int 0))) kF)
 (aW (dB 7 (bD 0 a (aT (mP (ae 4)) bX) aG))
 (aW (dB 8 (mB (mB (mP (ag (ae 7) (dC (.int 1)) bV)) (bD 0 a (aT (mP (ag (ae 4) (dC (.int 1)) kE)) bX) aG) bV) (mP (ae 4)) dk))
 bc))
 bc)
 (aW (eu (ao (af (ae 3) (af (ae 5) (af (ag (ae 3) (ae 7) bf) (af (ag (ae 3) (ae 8) bf) aE)))) cO))
 bc))))))))
noncomputable def c8:Addr->List D->List D->ai (D×List D):=qf 9 l6
end Bor
namespace DL
open PySem L2
section
variable {α β:Type}
noncomputable def Rf(a b:ai α):Prop:=a=.stuck∨a=b
theorem cS{f g:α->ai β}(h:Rf a b)(k:∀x,Rf (f x) (g x)):Rf (a.bind f) (b.bind g):=by
 rcases h with rfl|rfl
 .exact .inl rfl
 .cases a with
  |ok x=>exact k x
  |exn x=>exact .inr rfl
  |stuck=>exact .inl rfl
structure k9 (f g:Ev->ai α):Prop where
 o:∀ρ,Rf (f ρ) (g ρ)
end
structure M4 (f g:List D->ai D):Prop where
 o:∀ds,Rf (f ds) (g ds)
theorem M4.ok(h:M4 f g)(e:f ds=.ok d):g ds=.ok d:=by
 rcases h.o ds with q|q
 .rw[q] at e;cases e
 .rw[←q];exact e
theorem rfm_refl:M4 f f:=⟨λ_=>.inr rfl⟩
theorem rf_refl{f:Ev->ai α}:k9 f f:=⟨λ_=>.inr rfl⟩
section
variable {s s' t t':Ev->ai Fl}{c c' f f':Ev->ai D}{fa fa':Ev->ai (List D)}{m m':List D->ai D}
theorem rf_stuck:k9 eX s:=⟨λ_=>.inl rfl⟩
theorem rf_seq(h1:k9 s s')(h2:k9 t t'):k9 (aC s t) (aC s' t'):=⟨λρ=>cS (h1.o ρ) λr=>by
 cases r with
 |nx ρ'=>exact h2.o ρ'
 |_=>exact .inr rfl⟩
theorem rf_if(hc:k9 c c')(h1:k9 s s')(h2:k9 t t'):k9 (fE c s t) (fE c' s' t'):=⟨λρ=>cS (hc.o _) λr=>by
 cases r with
 |bl b=>cases b with
  |true=>exact h1.o ρ
  |false=>exact h2.o ρ
 |_=>exact .inr rfl⟩
theorem qv(h:k9 s s'):∀(ds:List D) (ρ:Ev),Rf (cp tg s ds ρ) (cp tg s' ds ρ)
 |[],ρ=>.inr rfl
 |d::r,ρ=>by
  unfold cp;refine cS (.inr rfl) λρ1=>cS (h.o ρ1) λx=>?_;cases x with|nx ρ2|ct ρ2=>exact qv h r ρ2|bk ρ2|rt d=>exact .inr rfl
theorem rf_for(hf:k9 f f')(h:k9 s s'):k9 (u9 f tg s) (u9 f' tg s'):=⟨λρ=>cS (hf.o ρ) λd=>by
 cases d with
 |lst ds=>exact qv h ds ρ
 |_=>exact .inr rfl⟩
theorem rf_forI(h:k9 s s'):k9 (lr src tg s) (lr src tg s'):=⟨λρ=>cS (.inr rfl) λds=>qv h ds ρ⟩
theorem rf_drop(h:k9 f f'):k9 (lu f) (lu f'):=⟨λρ=>cS (h.o _) λ_=>.inr rfl⟩
theorem rf_ret(h:k9 f f'):k9 (ck f) (ck f'):=⟨λρ=>cS (h.o _) λ_=>.inr rfl⟩
theorem rf_set(h:k9 f f'):k9 (bO i f) (bO i f'):=⟨λρ=>cS (h.o _) λ_=>.inr rfl⟩
theorem rf_b1(h:k9 f f'):k9 (bM f op) (bM f' op):=⟨λρ=>cS (h.o _) λ_=>.inr rfl⟩
theorem rf_not(h:k9 f f'):k9 (cZ f) (cZ f'):=rf_b1 h
theorem rf_b2(h:k9 f f')(h2:k9 c c'):k9 (ag f c op) (ag f' c' op):=⟨λρ=>cS (h.o _) λ_=>cS (h2.o _) λ_=>.inr rfl⟩
theorem rf_bA(h:k9 fa fa')(hm:M4 m m'):k9 (ao fa m) (ao fa' m'):=⟨λρ=>cS (h.o _) λds=>hm.o ds⟩
theorem rf_cons(h:k9 f f')(h2:k9 fa fa'):k9 (af f fa) (af f' fa'):=⟨λρ=>cS (h.o _) λ_=>cS (h2.o _) λ_=>.inr rfl⟩
theorem Bm(h:k9 s s'):M4 (cm n s) (cm n s'):=⟨λds=>cS (h.o _) λr=>.inr rfl⟩
end
end DL
local macro_rules|`(tactic|open_line with[rf_go])=>`(tactic|repeat (first|with_reducible exact DL.rf_refl|with_reducible exact DL.rf_stuck|with_reducible assumption|with_reducible exact DL.rfm_refl|with_reducible refine DL.rf_seq ?_ ?_|with_reducible refine DL.rf_if ?_ ?_ ?_|with_reducible refine DL.rf_for ?_ ?_|with_reducible refine DL.rf_forI ?_|with_reducible refine DL.rf_drop ?_|with_reducible refine DL.rf_ret ?_|with_reducible refine DL.rf_set ?_|with_reducible refine DL.rf_not ?_|with_reducible refine DL.rf_bA ?_ ?_|with_reducible refine DL.rf_cons ?_ ?_|with_reducible refine DL.rf_b1 ?_|with_reducible refine DL.rf_b2 ?_ ?_))
namespace Wex
open PySem L2 DL Com
section
variable {d t p:D}{x:JT}
end
noncomputable def NL:D->Bool
 |.non=>true
 |.bl _=>true
 |.int _=>true
 |.str _=>true
 |.tup _=>true
 |.lst _=>true
 |_=>false
theorem number_odd(hd:NL d=true)(hi:∀n,d≠.int n):m_is_tie_number [bQ w,d]=.ok (.bl false):=by
 rw[show bQ w=.tup [.lst (w.ps.map D.str),.lst (w.ts.map bo),.str w.fi,.str w.la] from rfl];cases d with
 |int n=>exact absurd rfl (hi n)
 |non=>open_line with[m_is_tie_number,bJ,bS,C9]
 |bl b=>open_line with[m_is_tie_number,bJ,bS,C9]
 |str b=>open_line with[m_is_tie_number,bJ,bS,C9]
 |tup b=>open_line with[m_is_tie_number,bJ,bS,C9]
 |lst b=>open_line with[m_is_tie_number,bJ,bS,C9]
 |_=>cases hd
theorem number_int:m_is_tie_number [bQ w,.int n]=.ok (.bl (decide (0<=n)&&decide (n<(w.ts.length:Int)))):=by
 rw[show bQ w=.tup [.lst (w.ps.map D.str),.lst (w.ts.map bo),.str w.fi,.str w.la] from rfl];cases h:decide ((0:Int)<=n) with
 |false=>open_line with[m_is_tie_number,bJ,bS,C9,Ur,h,Wg]
 |true=>open_line with[m_is_tie_number,bJ,bS,C9,Ur,h,W5]
end Wex
local macro_rules|`(tactic|open_line with[$xs,*])=>`(tactic|simp only[kj,tj,m6,m5,nq,tf,mZ,tw,m9,nK,kn,Ar,tX,tW,tI,nj,uc,nh,tE,nc,tY,sT,tH,ng,Az,Ay,ub,Ax,tP,nL,kq,ko,ud,nN,nM,An,tN,tL,tO,nk,tV,nG,nF,sS,mO,IB,mY,sZ,mX,mW,mU,qI,tq,m8,m7,Am,tK,Ao,Aj,sY,sX,sW,tZ,nJ,kr,As,ua,t9,t8,tU,ue,tQ,Aq,Ap,gu,nr,o9,j8,UG,VP,UI,VS,Wo,Wn,VG,Wl,VC,U9,Wz,WA,WT,Nat.reduceSub,Nat.reduceAdd,Xd,Xc,Wt,V5,sV,tT,eJ,ic,tR,mQ,Ak,tm,Ai,sU,kX,kW,nE,nD,nC,nA,nz,ny,nv,nu,decide_true,decide_false,Nat.reduceLeDiff,Nat.reduceBEq,Int.reduceBEq,beq_self_eq_true,DL.dOne,DL.mYes,dZ,de,dE,gN,fL,gM,gL,fK,Aw,Av,Au,Int.reduceLT,Int.reduceLE,Int.reduceSub,Int.reduceAdd,Int.reduceMul,Int.reduceNeg,nt,km,Int.reduceToNat,W6,qK,nI,qH,mS,qG,mR,qL,pS,nH,ef,nO,Dt,Du,ya,o7,IG,DC,DB,DR,DN,AB,IF,Dz,II,DJ,DH,AA,ML,IM,IL,Q5,MP,MM,MN,Q3,Q4,MO,MK,DQ,MJ,IE,Q6,MR,MQ,IK,DV,AE,AD,Q7,MS,DY,AF,IJ,DK,IU,DP,yd,IV,D0,DZ,ID,Dy,Dx,ug,IP,DU,DX,IH,DD,$[$xs:term],*])
local macro_rules|`(tactic|open_line with[$xs,*] seeing $h)=>`(tactic|simp only[kj,tj,m6,m5,nq,tf,mZ,tw,m9,nK,kn,Ar,tX,tW,tI,nj,uc,nh,tE,nc,tY,sT,tH,ng,Az,Ay,ub,Ax,tP,nL,kq,ko,ud,nN,nM,An,tN,tL,tO,nk,tV,nG,nF,sS,mO,IB,mY,sZ,mX,mW,mU,qI,tq,m8,m7,Am,tK,Ao,Aj,sY,sX,sW,tZ,nJ,kr,As,ua,t9,t8,tU,ue,tQ,Aq,Ap,gu,nr,o9,j8,UG,VP,UI,VS,Wo,Wn,VG,Wl,VC,U9,Wz,WA,WT,Nat.reduceSub,Nat.reduceAdd,Xd,Xc,Wt,V5,sV,tT,eJ,ic,tR,mQ,Ak,tm,Ai,sU,kX,kW,nE,nD,nC,nA,nz,ny,nv,nu,decide_true,decide_false,Nat.reduceLeDiff,Nat.reduceBEq,Int.reduceBEq,beq_self_eq_true,DL.dOne,DL.mYes,dZ,de,dE,gN,fL,gM,gL,fK,Aw,Av,Au,Int.reduceLT,Int.reduceLE,Int.reduceSub,Int.reduceAdd,Int.reduceMul,Int.reduceNeg,nt,km,Int.reduceToNat,W6,qK,nI,qH,mS,qG,mR,qL,pS,nH,ef,nO,Dt,Du,ya,o7,IG,DC,DB,DR,DN,AB,IF,Dz,II,DJ,DH,AA,ML,IM,IL,Q5,MP,MM,MN,Q3,Q4,MO,MK,DQ,MJ,IE,Q6,MR,MQ,IK,DV,AE,AD,Q7,MS,DY,AF,IJ,DK,IU,DP,yd,IV,D0,DZ,ID,Dy,Dx,ug,IP,DU,DX,IH,DD,$[$xs:term],*] at $(⟨h⟩):ident)
namespace Bor
open PySem L2 DL Com
noncomputable def St(st:List D):Prop:=∃(c s:Int) (b:Bool),st=[.int c,.int s,.bl b]/\0<=s/\s<2147483647
theorem p6:qp (.int 10) (.int 6)=.ok (.int 1000000):=aK rfl
noncomputable def next(s:Int):Int:=(s*39373+17).fmod 2147483647
theorem CZ(s:Int):0<=next s/\next s<2147483647:=eU (by decide)
noncomputable def QC(m s:Int):Int:=m*2147483587+(s*s).fmod 2147483587
theorem Ki{k:Int}(h0:0<=s)(h1:s<2147483647)(hm:0<=m/\m<1000000000000000000000000000) :
  (aW (zR 0 a (mV 0 a (ag (ag (ag (ag (ae 0) (dC (.int 1)) bf) (dC (.int 39373)) cL) (dC (.int 17)) bV) (dC (.int 2147483647)) dk)) (mP (dC (.int 1))))
 (aW (dB 3 (mV 0 a (ag (ag (ae 3) (dC (.int 2147483587)) cL) (ag (ag (ag (ae 0) (dC (.int 1)) bf) (ag (ae 0) (dC (.int 1)) bf) cL) (dC (.int 2147483587)) dk) bV)))
 bc)) [.pt a,.sh (.int n),.no,.sh (.int m),.sh (.int k)] [.int c,.int s,.bl b]=.ok (.nx [.pt a,.sh (.int n),.no,.sh (.int (QC m (next s))),.sh (.int k)] [.int c,.int (next s),.bl b]):=by
 have o1:dX s 39373=true:=gJ (by omega) (by decide);have g:=CZ s;have o2:dX (next s) (next s)=true:=gJ (by omega) (by omega);have o3:dX m 2147483587=true:=oU (WU (show m.natAbs<1000000000000000000000000000 by omega) (by rw[pv];decide +kernel)) (WU (show(2147483587:Int).natAbs<2147483588 by decide) (by rw[pv];decide +kernel));have e:(s*39373+17).fmod 2147483647=next s:=rfl;have hp:∀(ρ:Ev) (d:D),mj ρ d (.int 1,[.int c,.int s,.bl b])=.ok (.nx ρ [.int c,d,.bl b]):=λ_ _=>rfl;open_line with[dU o1,e,dU o2,dU o3,hp,QC]
theorem bx(a:Addr)(n0:0<n)(n1:n<=1000000000000000000)(h:St st):∃(d:Int) (st':List D),aG a st [.int n]=.ok (.int d,st')/\0<=d/\d<n/\St st':=by
 obtain⟨c,s,b,rfl,s0,s1⟩:=h;have hn0:(n==0)=false:=beq_eq_false_iff_ne.mpr (by omega);have hd:eV c n=true:=Ji (by omega) (Vd (show n.natAbs<=1000000000000000000 by omega) (by rw[En];decide +kernel));cases b with
 |true =>
  have f:=eU (a:=c) (b:=n) n0;have p0:∀(ρ:Ev) (d:D),mj ρ d (.int 0,[.int c,.int s,.bl true])=.ok (.nx ρ [d,.int s,.bl true]):=λ_ _=>rfl;have p2:∀(ρ:Ev) (d:D),mj ρ d (.int 2,[.int (c.fdiv n),.int s,.bl true])=.ok (.nx ρ [.int (c.fdiv n),.int s,d]):=λ_ _=>rfl;refine⟨c.fmod n,[.int (c.fdiv n),.int s,.bl (decide (c.fdiv n > 0))],?_,f.1,f.2,_,_,_,rfl,s0,s1⟩;open_line with[aG,kL,hn0,o8 hd,p0,p2]
 |false =>
  have key:∃t:Nat,t<=3/\∀x2 x3 x4:Sl,(iI (ag (dC (.int 1)) (ag (dC (.int 2)) (ao (af (ag (ae 1) (ag (dC (.int 10)) (dC (.int 6)) qp) JR) aE) (m1 iA)) cL) bV)) [.pt a,.sh (.int n),x2,x3,x4]=.ok (intsFrom 0 t):=by
   by_cases hb:n > 1000000
   .refine⟨3,by decide,λx2 x3 x4=>?_⟩
    have o:dX 2 1=true:=gJ (by decide) (by decide);have:(ag (dC (.int 1)) (ag (dC (.int 2)) (ao (af (ag (ae 1) (ag (dC (.int 10)) (dC (.int 6)) qp) JR) aE) (m1 iA)) cL) bV) [.pt a,.sh (.int n),x2,x3,x4]=.ok (.int 3):=by
     open_line with[p6,decide_eq_true hb,dU o]
    unfold iI;rw[this];rfl
   .refine⟨1,by decide,λx2 x3 x4=>?_⟩
    have o:dX 2 0=true:=gJ (by decide) (by decide);have:(ag (dC (.int 1)) (ag (dC (.int 2)) (ao (af (ag (ae 1) (ag (dC (.int 10)) (dC (.int 6)) qp) JR) aE) (m1 iA)) cL) bV) [.pt a,.sh (.int n),x2,x3,x4]=.ok (.int 1):=by
     open_line with[p6,decide_eq_false hb,dU o]
    unfold iI;rw[this];rfl
  obtain⟨t,ht,hsrc⟩:=key;have hlen:(intsFrom 0 t).length=t:=by unfold DL.intsFrom;simp
  obtain⟨ρ2,st2,hl,m,s',x4,rfl,rfl,k0,k1,m0,_⟩:=ki (tg:=cz 4) (body:=(aW (zR 0 a (mV 0 a (ag (ag (ag (ag (ae 0) (dC (.int 1)) bf) (dC (.int 39373)) cL) (dC (.int 17)) bV) (dC (.int 2147483647)) dk)) (mP (dC (.int 1))))
 (aW (dB 3 (mV 0 a (ag (ag (ae 3) (dC (.int 2147483587)) cL) (ag (ag (ag (ae 0) (dC (.int 1)) bf) (ag (ae 0) (dC (.int 1)) bf) cL) (dC (.int 2147483587)) dk) bV)))
 bc)))
   (λj ρ st=>∃(m s:Int) (x4:Sl),ρ=[.pt a,.sh (.int n),.no,.sh (.int m),x4]/\st=[.int c,.int s,.bl false]/\0<=s/\s<2147483647/\0<=m/\m<(2147483587:Int) ^ j)
   (intsFrom 0 t) (by
    rintro j d ρ st hj ⟨m,s,x4,rfl,rfl,s0,s1,m0,m1⟩;have hjt:j<t:=by have:=(Uw.mp hj).1;omega
    have hd:d=.int (j:Int):=by
     unfold DL.intsFrom at hj;rw[UD,YS hjt] at hj;simp at hj;exact hj.symm
    subst hd;have hm:m<1000000000000000000000000000:=by
     have hj3:j=0∨j=1∨j=2:=by omega
     rcases hj3 with rfl|rfl|rfl<;>omega
    have g:=CZ s;have r:=eU (a:=next s*next s) (b:=2147483587) (by decide);refine⟨_,_,_,rfl,.inl (Ki (k:=(j:Int)) s0 s1 ⟨m0,hm⟩),QC m (next s),next s,_,rfl,rfl,g.1,g.2,?_,?_⟩
    .unfold QC
     have:0<=m*2147483587:=Int.mul_nonneg m0 (by decide);omega
    .unfold QC
     rw[Int.pow_succ];omega) 0 [.pt a,.sh (.int n),.no,.sh (.int 0),.no] [.int c,.int s,.bl false] (VU _) ⟨0,s,_,rfl,rfl,s0,s1,by decide,by decide⟩
  rw[Wf] at hl;have f:=eU (a:=m.fdiv 64) (b:=n) n0;have hd64:eV m 64=true:=Ji (by decide) (by rw[En];decide +kernel);refine⟨(m.fdiv 64).fmod n,[.int c,.int s',.bl false],?_,f.1,f.2,c,s',false,rfl,k0,k1⟩;open_line with[aG,kL,hsrc,hl,o8 hd64,hn0]
theorem Jw(ns:List Int)(k:Nat)(hk:k<=1000)(hl:ns.length<=63):∃st,b9 [.lst (ns.map D.int),.int k]=.ok (.lst st)/\St st:=by
 have hlen:fj (.lst (ns.map D.int))=.ok (.int ns.length):=by
  rw[gu,Ur]
 have o1:dX 104729 (k:Int)=true:=gJ (by decide) (by omega);have o2:dX (104729*(k:Int)) (k:Int)=true:=gJ (by omega) (by omega)
 by_cases h:k<ns.length
 .have hix:bf (.lst (ns.map D.int)) (.int (k:Int))=.ok (.int ns[k]):=xT (by rw[UD,Uz h];rfl)
  have f:=eU (a:=(ns[k].fmod 2147483587+104729*(k:Int)*(k:Int)+7)) (b:=2147483587) (by decide);refine⟨[.int ns[k],.int ((ns[k].fmod 2147483587+104729*(k:Int)*(k:Int)+7).fmod 2147483587),.bl (decide (ns[k]≥1000000000000000000))],?_,_,_,_,rfl,f.1,by omega⟩;unfold b9 Fc jD;open_line with[hlen,hix,o7,dU o1,dU o2,decide_eq_true (show(k:Int)<(ns.length:Int) by omega),vp,Nv,y0,NV]
 .have f:=eU (a:=((0:Int).fmod 2147483587+104729*(k:Int)*(k:Int)+7)) (b:=2147483587) (by decide)
  refine⟨[.int 0,.int (((0:Int).fmod 2147483587+104729*(k:Int)*(k:Int)+7).fmod 2147483587),.bl false],?_,_,_,_,rfl,f.1,by omega⟩;unfold b9 Fc jD;open_line with[hlen,o7,dU o1,dU o2,decide_eq_false (show ¬(k:Int)<(ns.length:Int) by omega),vp,Nv,y0,NV]
theorem Uc:qp (.int 10) (.int 12)=.ok (.int 1000000000000):=aK rfl
structure RH (x:kO):Prop where
 lo:Low x
 p0:0<=x.1
 p1:x.1<=1000000000000
 q1:x.2<=60
theorem L9(h0:0<=c)(h1:c<=1000000000000)(hq:0<q)(hq2:q<=60):RH (u4 c q):=by
 have a1:=xH (a:=c) (b:=q);have a2:=xG (a:=c) (b:=q);have hl:=xF (a:=c) hq;have:=hl.q1;exact⟨hl,rX h0 hq,by omega,by omega⟩
theorem uT(a:Addr)(hl:l=0∨l=1)(h:St st):∃(x:kO) (st':List D),cN a st [.int l]=.ok (fr x,st')/\iX x/\0<=x.1/\(l=1->0<x.1)/\RH x/\St st':=by
 have hN:(1000000000000000000000:Int)<(yA:Int):=by decide
 obtain⟨w,st1,t1,w0,w1,S1⟩:=bx a (n:=6) (by decide) (by decide) h;obtain⟨t,m,ht,hm,i1,i2⟩:∃t m:Int,(0<t/\t<=1000000000000)/\(0<m/\m<=12)/\bf (.lst [.int 3,.int 6,.int 20,.int 12,.int 90,.int 1000000000000]) (.int w)=.ok (.int t)/\bf (.lst [.int 1,.int 1,.int 1,.int 4,.int 12,.int 12]) (.int w)=.ok (.int m):=by
  have:w=0∨w=1∨w=2∨w=3∨w=4∨w=5:=by omega
  rcases this with rfl|rfl|rfl|rfl|rfl|rfl
  .exact⟨3,1,by decide,by decide,rfl,rfl⟩
  .exact⟨6,1,by decide,by decide,rfl,rfl⟩
  .exact⟨20,1,by decide,by decide,rfl,rfl⟩
  .exact⟨12,4,by decide,by decide,rfl,rfl⟩
  .exact⟨90,12,by decide,by decide,rfl,rfl⟩
  .exact⟨1000000000000,12,by decide,by decide,rfl,rfl⟩
 obtain⟨u,st2,t2,u0,u1,S2⟩:=bx a (n:=t) ht.1 (by omega) S1;obtain⟨v,st3,t3,v0,v1,S3⟩:=bx a (n:=m) hm.1 (by omega) S2;obtain⟨q,hq,i3⟩:∃q:Int,(0<q/\q<=60)/\bf (.lst [.int 1,.int 2,.int 3,.int 4,.int 5,.int 6,.int 10,.int 12,.int 15,.int 20,.int 30,.int 60]) (.int v)=.ok (.int q):=by
  have:v=0∨v=1∨v=2∨v=3∨v=4∨v=5∨v=6∨v=7∨v=8∨v=9∨v=10∨v=11:=by omega
  rcases this with rfl|rfl|rfl|rfl|rfl|rfl|rfl|rfl|rfl|rfl|rfl|rfl
  .exact⟨1,by decide,rfl⟩
  .exact⟨2,by decide,rfl⟩
  .exact⟨3,by decide,rfl⟩
  .exact⟨4,by decide,rfl⟩
  .exact⟨5,by decide,rfl⟩
  .exact⟨6,by decide,rfl⟩
  .exact⟨10,by decide,rfl⟩
  .exact⟨12,by decide,rfl⟩
  .exact⟨15,by decide,rfl⟩
  .exact⟨20,by decide,rfl⟩
  .exact⟨30,by decide,rfl⟩
  .exact⟨60,by decide,rfl⟩
 have hlo:=Cod.low_ok (a:=l+u) (b:=q) (by omega) (QH (by omega) (by omega)) (QH (by omega) (by omega));refine⟨u4 (l+u) q,st3,?_,QI (by omega) (by omega) (by omega),rX (by omega) (by omega),λe=>Lk (by omega) (by omega),L9 (by omega) (by omega) (by omega) (by omega),S3⟩;open_line with[cN,lI,t1,t2,t3,i1,i2,i3,Uc,hlo]
theorem BB{k n:Int}(hn:2<=n):k.fmod n≠(k+1).fmod n:=by
 rw[Vs _ (by omega),Vs _ (by omega)];intro e;have:=Int.emod_eq_emod_iff_emod_sub_eq_zero.mp e.symm;rw[show k+1-k=1 by omega,XI (by decide) (by omega)] at this;cases this
noncomputable def jE(t:A0):Prop:=RH t.l/\∀x,t.o=some x->RH x
theorem Kk(a:Addr){k:Nat}(h2:2<=zs.length)(h8:zs.length<=8)(nd:zs.Nodup)(h:St st):∃(t:A0) (st':List D),cM a st [.lst (zs.map D.str),.int k]=.ok (bo t,st')/\oa zs t/\jE t/\St st':=by
 have hlen:fj (.lst (zs.map D.str))=.ok (.int zs.length):=by rw[gu,Ur]
 have hn0:((zs.length:Int)==0)=false:=beq_eq_false_iff_ne.mpr (by omega);obtain⟨d,st1,t1,d0,d1,S1⟩:=bx a (n:=(zs.length:Int)) (by omega) (by omega) h;obtain⟨e,st2,t2,e0,e1,S2⟩:=bx a (n:=(zs.length:Int)-1) (by omega) (by omega) S1;obtain⟨f,st3,t3,f0,f1,S3⟩:=bx a (n:=2) (by decide) (by decide) S2;obtain⟨g,st4,t4,g0,g1,S4⟩:=bx a (n:=2) (by decide) (by decide) S3;obtain⟨x,st5,t5,fx,lx,_,ax,S5⟩:=uT a (l:=0) (.inl rfl) S4;obtain⟨y,st6,t6,fy,_,ly,ay,S6⟩:=uT a (l:=1) (.inr rfl) S5;obtain⟨v,st7,t7,v0,v1,S7⟩:=bx a (n:=4) (by decide) (by decide) S6;obtain⟨wd,hw,jw⟩:=Ka g0 g1;obtain⟨p,q,hp,hq,hpq,hplace⟩:∃p q:Int,(0<=p/\p<(zs.length:Int))/\(0<=q/\q<(zs.length:Int))/\p≠q/\(((f==0)=true/\p=(k:Int).fmod (zs.length:Int)/\q=((k:Int)+1).fmod (zs.length:Int))∨((f==0)=false/\p=d/\q=(d+1+e).fmod (zs.length:Int))):=by
  cases h10:(f==0) with
  |true=>exact⟨_,_,eU (by omega),eU (by omega),BB (by omega),.inl ⟨rfl,rfl,rfl⟩⟩
  |false =>
   obtain⟨hr,hne⟩:=wD (n:=(zs.length:Int)) (d:=d) (e:=e) (by omega) d0 d1 e0 e1;exact⟨_,_,⟨d0,d1⟩,hr,U5 hne,.inr ⟨rfl,rfl,rfl⟩⟩
 obtain⟨z1,k1,j1⟩:=i4 (zs:=zs) hp.1 hp.2;obtain⟨z2,k2,j2⟩:=i4 (zs:=zs) hq.1 hq.2;have hz12:z1≠z2:=j6 nd k1 k2 (by omega);cases h4:(v==0) with
 |true =>
  refine⟨⟨z1,z2,wd,x,none⟩,st7,?_,⟨UA k1,UA k2,hz12,hw,fx,lx,λ_ hv=>nomatch hv⟩,⟨ax,λ_ hv=>nomatch hv⟩,S7⟩;rw[show bo ⟨z1,z2,wd,x,none⟩=.tup [.str z1,.str z2,.str wd,fr x,.non] from rfl];rcases hplace with⟨h10,e1,e2⟩|⟨h10,e1,e2⟩
  .rw[e2] at j2;rw[e1] at j1
   open_line with[cM,gU,hlen,t1,t2,t3,t4,t5,t6,t7,kE,hn0,h10,h4,jw,j1,j2]
  .rw[e2] at j2;rw[e1] at j1
   open_line with[cM,gU,hlen,t1,t2,t3,t4,t5,t6,t7,kE,hn0,h10,h4,jw,j1,j2]
 |false =>
  refine⟨⟨z1,z2,wd,x,some y⟩,st7,?_,⟨UA k1,UA k2,hz12,hw,fx,lx,λ_ hv=>by cases hv;exact⟨fy,ly rfl⟩⟩,⟨ax,λ_ hv=>by cases hv;exact ay⟩,S7⟩;rw[show bo ⟨z1,z2,wd,x,some y⟩=.tup [.str z1,.str z2,.str wd,fr x,fr y] from rfl];rcases hplace with⟨h10,e1,e2⟩|⟨h10,e1,e2⟩
  .rw[e2] at j2;rw[e1] at j1
   open_line with[cM,gU,hlen,t1,t2,t3,t4,t5,t6,t7,kE,hn0,h10,h4,jw,j1,j2]
  .rw[e2] at j2;rw[e1] at j1
   open_line with[cM,gU,hlen,t1,t2,t3,t4,t5,t6,t7,kE,hn0,h10,h4,jw,j1,j2]
theorem Dc:∀{es:List D}{P:Int->Prop},(∀e∈es,∃l,e=D.int l/\P l)->∃ls:List Int,es=ls.map D.int/\∀l∈ls,P l
 |[],P,_=>⟨[],rfl,λl h=>by simp at h⟩
 |e::es,P,h=>by
  obtain⟨l,rfl,hl⟩:=h e (by simp);obtain⟨ls,rfl,hs⟩:=Dc (es:=es) (P:=P) λe he=>h e (Uu _ he);exact⟨l::ls,rfl,λx hx=>by
   rcases Uv.mp hx with rfl|hx
   .exact hl
   .exact hs x hx⟩
theorem BL(a:Addr)(h:St st):∃(ls:List Int) (st':List D),uB [.no,.pt a] (cz 0) (bD 1 a (aT (mP (dC (.int 26))) bX) aG) (DL.intsFrom 0 8,st)=.ok (.lst (ls.map D.int),st')/\ls.length=8/\(∀l∈ls,0<=l/\l<26)/\St st':=by
 obtain⟨es,st',h1,h2,h3,h4⟩:=wo (b:=[.no,.pt a]) (tg:=cz 0) (fm:=bD 1 a (aT (mP (dC (.int 26))) bX) aG) St (λe=>∃l,e=D.int l/\0<=l/\l<26) (DL.intsFrom 0 8) st h (by
  intro d st _ h;obtain⟨x,st',t1,x0,x1,S1⟩:=bx a (n:=26) (by decide) (by decide) h;refine⟨_,.int x,st',rfl,?_,⟨x,rfl,x0,x1⟩,S1⟩;open_line with[t1])
 obtain⟨ls,rfl,hls⟩:=Dc h3;refine⟨ls,st',?_,by simpa [DL.intsFrom] using h2,hls,h4⟩;unfold uB;rw[if_pos (show(DL.intsFrom 0 8).length<=line by decide),h1];rfl
noncomputable def AV(l:Int):Nat:=97+l.toNat
theorem GP{ls:List Int}(hf:f ρ=.ok (.lst (ls.map D.int)))(hg:g ρ=.ok (.int (m:Int)))(hm:m<=ls.length)(hl:ls.length<=1000):qo f du (c9 g) ρ=.ok (.lst ((ls.take m).map D.int)):=by
 unfold qo;rw[hf];simp only[ai.bind,du,c9,hg];exact congrArg (λz=>ai.ok (D.lst z)) (B8 hm)
theorem Ks{ls:List Int}(hl:ls.length<=100)(hb:∀l∈ls,0<=l/\l<26):kG 1 [] (cz 0) mYes (ag (dC (.str "abcdefghijklmnopqrstuvwxyz")) (ae 0) bf) ρ (ls.map D.int)=.ok (.lst ((ls.map AV).map λc=>D.str ⟨#[c]⟩)):=by
 rw[AS (F:=λd=>match d with|.int l=>.str ⟨#[AV l]⟩|d=>d) (by rw[Ur];omega)]
 .congr 2
  rw[V2,V2];rfl
 .intro d hd
  obtain⟨l,hl',rfl⟩:=UY.mp hd;obtain⟨b0,b1⟩:=hb l hl';refine⟨[.sh (.int l)],rfl,rfl,?_⟩;open_line with[OP b0 b1]
  rfl
theorem Kr{ls:List Int}(hl:ls.length<=100):mI "" [.lst ((ls.map AV).map λc=>D.str ⟨#[c]⟩)]=.ok (.str (Cod.S (ls.map AV))):=BO (cs:=ls.map AV) (by rw[Ur];omega)
noncomputable def qk(ls:List Int) (lg at_:Nat) (tu sp:Int) (ne:Bool) (k:Nat):List Int:=if ne=true then ls.take (1+((tu+(k:Int)).fmod 8).toNat) else(ls.take lg).set at_ ((tu+sp*(k:Int)).fmod 26)
noncomputable def nm(ls:List Int) (lg at_:Nat) (tu sp:Int) (ne:Bool) (k:Nat):List Nat:=(qk ls lg at_ tu sp ne k).map AV
section
variable {ls:List Int}{lg at_:Nat}{tu sp:Int}{ne:Bool}(h8:ls.length=8) (hb:∀l∈ls,0<=l/\l<26) (g1:1<=lg) (g8:lg<=8) (ha:at_<lg)
include hb in
theorem C4{k:Nat}:∀l∈qk ls lg at_ tu sp ne k,0<=l/\l<26:=by
 intro l hl;unfold qk at hl;cases ne with
 |true=>rw[if_pos rfl] at hl;exact hb l (We hl)
 |false =>
  rw[if_neg (by decide)] at hl;rcases List.mem_or_eq_of_mem_set hl with hl|rfl
  .exact hb l (We hl)
  .exact eU (by decide)
include h8 g8 in
theorem mD{k:Nat}:(qk ls lg at_ tu sp ne k).length=if ne=true then 1+((tu+(k:Int)).fmod 8).toNat else lg:=by
 unfold qk;have:=eU (a:=tu+(k:Int)) (b:=8) (by decide);cases ne with|true=>rw[if_pos rfl,if_pos rfl,Vf,h8];omega|false=>rw[if_neg (by decide),if_neg (by decide),List.length_set,Vf,h8];omega
include h8 hb g1 g8 in
theorem Qx{k:Nat}:Cod.IsNm (nm ls lg at_ tu sp ne k):=by
 have hl:=mD (tu:=tu) (sp:=sp) (ne:=ne) (at_:=at_) h8 g8 (k:=k);have:=eU (a:=tu+(k:Int)) (b:=8) (by decide);refine⟨?_,?_,λx hx=>?_⟩
 .unfold nm;rw[Ur,hl];split<;>omega
 .unfold nm;rw[Ur,hl];split<;>omega
 .unfold nm at hx
  obtain⟨l,hl,rfl⟩:=UY.mp hx;have:=C4 hb l hl;exact OQ _ (by omega)
include h8 g8 ha in
theorem HS{i j:Nat}(hij:i<j)(hj:j<7)(hs:sp=1∨sp=3∨sp=5∨sp=7∨sp=9∨sp=11):nm ls lg at_ tu sp ne i≠nm ls lg at_ tu sp ne j:=by
 intro e;cases ne with
 |true =>
  have hl:=congrArg WZ e;unfold nm at hl;rw[Ur,Ur,mD h8 g8,mD h8 g8,if_pos rfl,if_pos rfl] at hl;have f1:=eU (a:=tu+(i:Int)) (b:=8) (by decide);have f2:=eU (a:=tu+(j:Int)) (b:=8) (by decide);have he:(tu+(i:Int)).fmod 8=(tu+(j:Int)).fmod 8:=by omega
  rw[Vs _ (by decide),Vs _ (by decide)] at he;omega
 |false =>
  have h1:(nm ls lg at_ tu sp false i)[at_]?=(nm ls lg at_ tu sp false j)[at_]?:=by rw[e]
  unfold nm qk at h1;rw[if_neg (by decide),if_neg (by decide),UD,UD,UQ (by rw[Vf,h8];omega),UQ (by rw[Vf,h8];omega)] at h1;simp only[V8,V0,AV] at h1;have f1:=eU (a:=tu+sp*(i:Int)) (b:=26) (by decide);have f2:=eU (a:=tu+sp*(j:Int)) (b:=26) (by decide);have he:(tu+sp*(i:Int)).fmod 26=(tu+sp*(j:Int)).fmod 26:=by omega
  rw[Vs _ (by decide),Vs _ (by decide)] at he;rcases hs with rfl|rfl|rfl|rfl|rfl|rfl<;>omega
include h8 g8 ha in
theorem Fn(hs:sp=1∨sp=3∨sp=5∨sp=7∨sp=9∨sp=11):∀n:Nat,n<=7->((VO n).map (nm ls lg at_ tu sp ne)).Nodup:=by
 intro n hn;rw[WW,List.pairwise_map];have:(VO n).Pairwise (· < ·):=List.pairwise_lt_range;refine Yj.imp_of_mem (λ{i j} hi hj hij=>?_) this;rw[List.mem_range] at hj;exact HS h8 g8 ha hij (by omega) hs
end
noncomputable def j7(ls:List Int) (lg at_:Nat) (tu sp:Int) (ne:Bool) (k:Nat):List (List Nat):=(VO k).map (nm ls lg at_ tu sp ne)
theorem BA{k:Nat}:Cod.nmsD (j7 ls lg at_ tu sp ne (k+1))=Cod.nmsD (j7 ls lg at_ tu sp ne k)++[.str (Cod.S (nm ls lg at_ tu sp ne k))]:=by
 unfold j7 Cod.nmsD;rw[List.range_succ,Vm,Vm];rfl
theorem HR{lg at_ n:Nat}(h8:ls.length=8)(hb:∀l∈ls,0<=l/\l<26)(g1:1<=lg)(g8:lg<=8)(ha:at_<lg)(t0:0<=tu/\tu<26)(s0:0<=sp/\sp<=11)(hn:n<=7) :
  ∃x9 x10,cp (cz 9) (aC (mh 10 (qo (ae 2) du (c9 (ae 3))))
 (aC (G4 10 (ag (ag (ae 5) (ag (ae 6) (ae 9) cL) bV) (dC (.int 26)) dk) (ae 4))
 (aC (fE (ae 7)
 (aC (mh 10 (qo (ae 2) du (c9 (ag (dC (.int 1)) (ag (ag (ae 5) (ae 9) bV) (dC (.int 8)) dk) bV))))
 av)
 av)
 (aC (G5 10 (fq 8 (we (dC (.str "")) (af (eA 1 [] (qe (ae 10)) (cz 0) mYes (ag (dC (.str "abcdefghijklmnopqrstuvwxyz")) (ae 0) bf)) aE))))
 av)))) (DL.intsFrom 0 n) [.pt a,.sh (.int (n:Int)),.sh (.lst (ls.map D.int)),.sh (.int (lg:Int)),.sh (.int (at_:Int)),.sh (.int tu),.sh (.int sp),.sh (.bl ne),.ow (.lst []),.no,.no] =
   .ok (.nx [.pt a,.sh (.int (n:Int)),.sh (.lst (ls.map D.int)),.sh (.int (lg:Int)),.sh (.int (at_:Int)),.sh (.int tu),.sh (.int sp),.sh (.bl ne),.ow (.lst (Cod.nmsD (j7 ls lg at_ tu sp ne n))),x9,x10]):=by
 obtain⟨ρ',hl,x9,x10,rfl⟩:=Dm (i:=9) (n:=n)
  (ρ:=[.pt a,.sh (.int (n:Int)),.sh (.lst (ls.map D.int)),.sh (.int (lg:Int)),.sh (.int (at_:Int)),.sh (.int tu),.sh (.int sp),.sh (.bl ne),.ow (.lst []),.no,.no])
  (body:=(aC (mh 10 (qo (ae 2) du (c9 (ae 3))))
 (aC (G4 10 (ag (ag (ae 5) (ag (ae 6) (ae 9) cL) bV) (dC (.int 26)) dk) (ae 4))
 (aC (fE (ae 7)
 (aC (mh 10 (qo (ae 2) du (c9 (ag (dC (.int 1)) (ag (ag (ae 5) (ae 9) bV) (dC (.int 8)) dk) bV))))
 av)
 av)
 (aC (G5 10 (fq 8 (we (dC (.str "")) (af (eA 1 [] (qe (ae 10)) (cz 0) mYes (ag (dC (.str "abcdefghijklmnopqrstuvwxyz")) (ae 0) bf)) aE))))
 av)))))
  (λk ρ=>∃x9 x10,ρ=[.pt a,.sh (.int (n:Int)),.sh (.lst (ls.map D.int)),.sh (.int (lg:Int)),.sh (.int (at_:Int)),.sh (.int tu),.sh (.int sp),.sh (.bl ne),.ow (.lst (Cod.nmsD (j7 ls lg at_ tu sp ne k))),x9,x10]) (by
   rintro k hk ρ ⟨x9,x10,rfl⟩;have hlen:=mD (tu:=tu) (sp:=sp) (ne:=ne) (at_:=at_) h8 g8 (k:=k);have f8:=eU (a:=tu+(k:Int)) (b:=8) (by decide);have om:dX sp (k:Int)=true:=gJ (by omega) (by omega);have hap:decide ((Cod.nmsD (j7 ls lg at_ tu sp ne k)).length<=999)=true:=decide_eq_true (by unfold Cod.nmsD j7;simp;omega);have hs1:∀x8 x10,qo (ae 2) du (c9 (ae 3)) [.pt a,.sh (.int (n:Int)),.sh (.lst (ls.map D.int)),.sh (.int (lg:Int)),.sh (.int (at_:Int)),.sh (.int tu),.sh (.int sp),.sh (.bl ne),x8,.sh (.int (k:Int)),x10]=.ok (.lst ((ls.take lg).map D.int)):=λ_ _=>GP rfl rfl (by omega) (by omega);have hix:BP ((ls.take lg).map D.int).length (at_:Int)=some at_:=by
    rw[Ur,Vf,h8];unfold BP;rw[if_pos (by omega),if_pos (by omega)];simp
   have hset:((ls.take lg).map D.int).set at_ (.int ((tu+sp*(k:Int)).fmod 26))=((ls.take lg).set at_ ((tu+sp*(k:Int)).fmod 26)).map D.int:=(List.map_set ..).symm;have hll:(qk ls lg at_ tu sp ne k).length<=100:=by rw[hlen];split<;>omega
   have hc:=λρ=>Ks (ρ:=ρ) hll (C4 hb);have hj:mI "" [.lst (((qk ls lg at_ tu sp ne k).map AV).map λc=>D.str ⟨#[c]⟩)]=.ok (.str (Cod.S (nm ls lg at_ tu sp ne k))):=Kr hll;refine⟨[.pt a,.sh (.int (n:Int)),.sh (.lst (ls.map D.int)),.sh (.int (lg:Int)),.sh (.int (at_:Int)),.sh (.int tu),.sh (.int sp),.sh (.bl ne),.ow (.lst (Cod.nmsD (j7 ls lg at_ tu sp ne (k+1)))),.sh (.int (k:Int)),.sh (.lst ((qk ls lg at_ tu sp ne k).map D.int))],?_,_,_,rfl⟩;rw[BA];cases ne with
   |true =>
    have e1:qk ls lg at_ tu sp true k=ls.take (1+((tu+(k:Int)).fmod 8).toNat):=if_pos rfl;have hs2:∀x8 x10,qo (ae 2) du (c9 (ag (dC (.int 1)) (ag (ag (ae 5) (ae 9) bV) (dC (.int 8)) dk) bV)) [.pt a,.sh (.int (n:Int)),.sh (.lst (ls.map D.int)),.sh (.int (lg:Int)),.sh (.int (at_:Int)),.sh (.int tu),.sh (.int sp),.sh (.bl true),x8,.sh (.int (k:Int)),x10]=.ok (.lst ((qk ls lg at_ tu sp true k).map D.int)):=λx8 x10=>by
     rw[e1];refine GP rfl ?_ (by omega) (by omega);open_line with[]
     congr 2
     omega
    open_line with[hs1,dU om,Al hix,hset,hs2,hc,hj,ic hap]
   |false =>
    have e1:(ls.take lg).set at_ ((tu+sp*(k:Int)).fmod 26)=qk ls lg at_ tu sp false k:=(if_neg (by decide)).symm;rw[e1] at hset;open_line with[hs1,dU om,Al hix,hset,hc,hj,ic hap]) ⟨_,_,rfl⟩
 exact⟨x9,x10,hl⟩
theorem HU(a:Addr){n:Nat}(hn:n<=7)(h:St st):∃(css:List (List Nat)) (st':List D),dM a st [.int (n:Int)]=.ok (.lst (Cod.nmsD css),st')/\css.length=n/\css.Nodup/\(∀cs∈css,Cod.IsNm cs)/\St st':=by
 obtain⟨ls,st1,t1,h8,hb,S1⟩:=BL a h;obtain⟨d,st2,t2,d0,d1,S2⟩:=bx a (n:=8) (by decide) (by decide) S1;obtain⟨at_,st3,t3,a0,a1,S3⟩:=bx a (n:=1+d) (by omega) (by omega) S2;obtain⟨tu,st4,t4,u0,u1,S4⟩:=bx a (n:=26) (by decide) (by decide) S3;obtain⟨e,st5,t5,e0,e1,S5⟩:=bx a (n:=6) (by decide) (by decide) S4;obtain⟨f,st6,t6,f0,f1,S6⟩:=bx a (n:=3) (by decide) (by decide) S5;obtain⟨sp,hs,i1⟩:∃sp:Int,(sp=1∨sp=3∨sp=5∨sp=7∨sp=9∨sp=11)/\bf (.lst [.int 1,.int 3,.int 5,.int 7,.int 9,.int 11]) (.int e)=.ok (.int sp):=by
  have:e=0∨e=1∨e=2∨e=3∨e=4∨e=5:=by omega
  rcases this with rfl|rfl|rfl|rfl|rfl|rfl
  .exact⟨1,by decide,rfl⟩
  .exact⟨3,by decide,rfl⟩
  .exact⟨5,by decide,rfl⟩
  .exact⟨7,by decide,rfl⟩
  .exact⟨9,by decide,rfl⟩
  .exact⟨11,by decide,rfl⟩
 obtain⟨lg,hlg⟩:=Vq (show 0<=1+d by omega);obtain⟨at',rfl⟩:=Vq a0;rw[hlg] at t3;obtain⟨x9,x10,hl⟩:=HR (a:=a) (ls:=ls) (lg:=lg) (at_:=at') (n:=n) (tu:=tu) (sp:=sp) (ne:=(f==0)) h8 hb (by omega) (by omega) (by omega) ⟨u0,u1⟩ (by omega) hn;refine⟨j7 ls lg at' tu sp (f==0) n,st6,?_,by unfold j7;simp,Fn h8 (by omega) (by omega) hs n hn,λcs hc=>?_,S6⟩
 .have hsrc:∀ρ,iI (dC (.int 8)) ρ=.ok (DL.intsFrom 0 8):=λ_=>rfl
  have hbm:∀x1 x2 x3 x4 x5 x6 x7 x8 x9 x10,eW 1 [0] [.pt a,x1,x2,x3,x4,x5,x6,x7,x8,x9,x10]=[.no,.pt a]:=λ_ _ _ _ _ _ _ _ _ _=>rfl;open_line with[dM,n9,hsrc,hbm,t1,t2,hlg,t3,t4,t5,i1,t6,nH,Ad (show n<=1000000 by omega),hl]
 .unfold j7 at hc
  obtain⟨k,_,rfl⟩:=UY.mp hc;exact Qx h8 hb (by omega) (by omega)
theorem Kb(a:Addr){p q:Nat}(hp:2<=p/\p<=7)(hq:q<=14)(h:St st):∃(w:uU) (st':List D),c8 a st [.int (p:Int),.int (q:Int)]=.ok (bQ w,st')/\dw w/\(∀t∈w.ts,jE t)/\St st':=by
 obtain⟨m,st1,t1,m0,m1,S1⟩:=bx a (n:=(p:Int)-1) (by omega) (by omega) h;obtain⟨m,rfl⟩:=Vq m0;obtain⟨css,st2,t2,hcl,hnd,hall,S2⟩:=HU a (n:=2+m) (by omega) S1;have hnm:Cod.nmsD css=(css.map Cod.S).map D.str:=by unfold Cod.nmsD;rw[V2];rfl
 have hzl:(css.map Cod.S).length=2+m:=by rw[Ur,hcl]
 have nd:(css.map Cod.S).Nodup:=by
  rw[WW,List.pairwise_map];exact Yj.imp (λh z=>h (Cod.S_inj z)) (WW.mp hnd)
 have nm:eQ (css.map Cod.S):=⟨nd,λz hz=>by
  obtain⟨cs,hc,rfl⟩:=UY.mp hz;exact(hall cs hc).nameB⟩
 rw[hnm] at t2;generalize css.map Cod.S=zs at *;have hlen:fj (.lst (zs.map D.str))=.ok (.int zs.length):=by rw[gu,Ur]
 have hn0:((zs.length:Int)==0)=false:=beq_eq_false_iff_ne.mpr (by omega);obtain⟨c,st3,t3,c0,c1,S3⟩:=bx a (n:=(q:Int)+1) (by omega) (by omega) S2;obtain⟨c,rfl⟩:=Vq c0;have hlenI:(DL.intsFrom 0 c).length=c:=by unfold DL.intsFrom;simp
 obtain⟨ρ2,st4,hl,ts,x6,rfl,htl,hts,S4⟩:=ki (tg:=cz 6) (body:=(aW (Ib 5 (bD 0 a (aT (mP (ae 3)) (aT (mP (ae 6)) bX)) cM))
 bc))
  (λj ρ st=>∃(ts:List A0) (x6:Sl),ρ=[.pt a,.sh (.int (p:Int)),.sh (.int (q:Int)),.sh (.lst (zs.map D.str)),.sh (.int (zs.length:Int)),.ow (.lst (ts.map bo)),x6,.no,.no]/\ts.length=j/\(∀t∈ts,oa zs t/\jE t)/\St st) (DL.intsFrom 0 c) (by
   rintro j d ρ st hj ⟨ts,x6,rfl,rfl,hts,S⟩;have hjt:ts.length<c:=by have:=(Uw.mp hj).1;omega
   have hd:d=.int (ts.length:Int):=by
    unfold DL.intsFrom at hj;rw[UD,YS hjt] at hj;simp at hj;exact hj.symm
   subst hd;obtain⟨t,st',tt,tk,ta,S'⟩:=Kk a (zs:=zs) (k:=ts.length) (by omega) (by omega) nd S;have hap:decide ((ts.map bo).length<=999)=true:=decide_eq_true (by rw[Ur];omega);refine⟨_,[.pt a,.sh (.int (p:Int)),.sh (.int (q:Int)),.sh (.lst (zs.map D.str)),.sh (.int (zs.length:Int)),.ow (.lst ((ts++[t]).map bo)),.sh (.int (ts.length:Int)),.no,.no],st',rfl,.inl ?_,ts++[t],_,rfl,by simp,λu hu=>?_,S'⟩
   .open_line with[tt,yd hap,Vm]
   .rw[Ve] at hu
    rcases hu with hu|hu
    .exact hts u hu
    .have:u=t:=by simpa using hu
     subst this;exact⟨tk,ta⟩) 0 [.pt a,.sh (.int (p:Int)),.sh (.int (q:Int)),.sh (.lst (zs.map D.str)),.sh (.int (zs.length:Int)),.ow (.lst []),.no,.no,.no] st3 (VU _) ⟨[],_,rfl,rfl,λt ht=>by simp at ht,S3⟩
 rw[Wf] at hl;rw[hlenI] at htl;have hsr:xC (.int (c:Int),st3)=.ok (DL.intsFrom 0 c,st3):=ug (by omega);have h2m:(2:Int)+(m:Int)=((2+m:Nat):Int):=by omega
 rw[←h2m] at t2;obtain⟨g,st5,t5,g0,g1,S5⟩:=bx a (n:=2) (by decide) (by decide) S4;cases hg:(g==0) with
 |true =>
  obtain⟨d,st6,t6,d0,d1,S6⟩:=bx a (n:=(zs.length:Int)) (by omega) (by omega) S5;obtain⟨e,st7,t7,e0,e1,S7⟩:=bx a (n:=(zs.length:Int)-1) (by omega) (by omega) S6;obtain⟨hr,hne⟩:=wD (n:=(zs.length:Int)) (d:=d) (e:=e) (by omega) d0 d1 e0 e1;obtain⟨z1,k1,j1⟩:=i4 (zs:=zs) d0 d1;obtain⟨z2,k2,j2⟩:=i4 (zs:=zs) hr.1 hr.2;have hz12:z1≠z2:=j6 nd k1 k2 (by omega);refine⟨⟨zs,ts,z1,z2⟩,st7,?_,⟨by show 2<=zs.length;omega,by show zs.length<=7;omega,nm,by show ts.length<=14;omega,λt ht=>(hts t ht).1,UA k1,UA k2,hz12⟩,λt ht=>(hts t ht).2,S7⟩;open_line with[c8,l6,kE,t1,t2,hlen,t3,hsr,hl,t5,hg,t6,t7,hn0,j1,j2,bQ]
 |false =>
  obtain⟨z1,k1,j1⟩:=i4 (zs:=zs) (k:=0) (by decide) (by omega);obtain⟨z2,k2,j2⟩:=i4 (zs:=zs) (k:=(zs.length:Int)-1) (by omega) (by omega);have hz12:z1≠z2:=j6 nd k1 k2 (by omega);refine⟨⟨zs,ts,z1,z2⟩,st5,?_,⟨by show 2<=zs.length;omega,by show zs.length<=7;omega,nm,by show ts.length<=14;omega,λt ht=>(hts t ht).1,UA k1,UA k2,hz12⟩,λt ht=>(hts t ht).2,S5⟩;open_line with[c8,l6,kE,t1,t2,hlen,t3,hsr,hl,t5,hg,j1,j2,bQ]
end Bor
namespace DL
open PySem PySem.Spec PyProof.Rows L2
noncomputable def Rp(d:D) (n k:Nat):Prop:=∃p,fQ d=some p/\p.showable=true/\p.depth<=k/\p.shown.length<=n
noncomputable def c3(ds:List D) (n k:Nat):Prop:=∃ps,toPys ds=some ps/\ps.length=ds.length/\PyData.showableAll ps=true/\XZ ps<=k/\((VY ps).map (λx=>x.length)).sum<=n
theorem i6:∀(ps:List PyData),(VY ps).length=ps.length
 |[]=>by rw[VY];rfl
 |p::ps=>by rw[VY,UI,i6 ps,UI]
theorem Rp.up{n k n' k':Nat}(h:Rp d n k)(hn:n<=n')(hk:k<=k'):Rp d n' k':=by
 obtain⟨p,h1,h2,h3,h4⟩:=h;exact⟨p,h1,h2,UO h3 hk,UO h4 hn⟩
theorem c3.nil{k:Nat}:c3 [] 0 k:=⟨[],rfl,rfl,rfl,by rw[XZ];omega,by rw[VY];exact UB _⟩
theorem c3.cons{a n k:Nat}(h:Rp d a k)(t:c3 ds n k):c3 (d::ds) (a+n) k:=by
 obtain⟨p,h1,h2,h3,h4⟩:=h;obtain⟨ps,t1,t2,t3,t4,t5⟩:=t;refine⟨p::ps,by rw[toPys,h1,t1],by rw[UI,t2,UI],by rw[PyData.showableAll,h2,t3];rfl,?_,?_⟩
 .rw[XZ];omega
 .rw[VY,UG,Xs];omega
theorem c3.all{a k:Nat}:∀{ds:List D},(∀d∈ds,Rp d a k)->c3 ds (a*ds.length) k:=by
 intro ds
 induction ds with
 |nil=>intro _;exact c3.nil
 |cons d ds ih =>
  intro h;have:=c3.cons (h d (UM ..)) (ih λx hx=>h x (Uu _ hx));rw[UI,Nat.mul_add,Nat.mul_one,Nat.add_comm];exact this
theorem Rp.lst{n k:Nat}(h:c3 ds n k):Rp (.lst ds) (n+2*ds.length+3) (k+1):=by
 obtain⟨ps,t1,t2,t3,t4,t5⟩:=h;refine⟨.list ps,by rw[fQ,t1];rfl,by rw[V7];exact t3,by rw[WG];omega,?_⟩;rw[WE];have:=listText_len_le (VY ps);rw[i6] at this;omega
theorem Rp.tup{n k:Nat}(h:c3 ds n k):Rp (.tup ds) (n+2*ds.length+3) (k+1):=by
 obtain⟨ps,t1,t2,t3,t4,t5⟩:=h;refine⟨.tuple ps,by rw[fQ,t1];rfl,by rw[V7];exact t3,by rw[WG];omega,?_⟩;rw[WE];have:=tupleText_len_le (VY ps);rw[i6] at this;omega
theorem Rp.non:Rp .non 4 0:=⟨.none,by rw[fQ],by rw[V7],by rw[WG];omega,by rw[WE,Xf];decide⟩
theorem Rp.bl:Rp (.bl b) 5 0:=⟨.bool b,by rw[fQ],by rw[V7],by rw[WG]<;>simp,by rw[WE];cases b<;>simp [Xf]<;>decide⟩
theorem Rp.int(h:i.natAbs<2 ^ 200):Rp (.int i) 201 0:=by
 refine⟨.int i,by rw[fQ],?_,by rw[WG]<;>simp,?_⟩
 .rw[V7]
  refine decide_eq_true ?_
  by_cases h0:i.natAbs=0
  .rw[h0];decide
  .exact WU ((Nat.log2_lt h0).mpr h) (by decide)
 .rw[WE,Xf]
  cases i with
  |ofNat m =>
   have:=nat_repr_length_le (n:=m) (k:=200) (by decide) h;show(Nat.repr m).length<=201;omega
  |negSucc m =>
   have:=nat_repr_length_le (n:=m+1) (k:=200) (by decide) h;show("-"++Nat.repr (m+1)).length<=201;rw[String.length_append];have h1 : "-".length=1:=rfl;omega
theorem Rp.str(hl:z.length<=n)(h:∀c∈z.cps.toList,c<16 ^ 8):Rp (.str z) (10*n+2) 0:=by
 refine⟨.str z,by rw[fQ],by rw[V7],by rw[WG]<;>simp,?_⟩;rw[WE];have:=StrLaws.reprText_len z h;omega
theorem Rp.emp{k:Nat}:Rp (.dic [] []) 100 1:=by
 refine⟨.dict [],by rw[fQ];rfl,by rw[V7,PyData.showableKv],by rw[WG,PyData.depthKv];omega,?_⟩;rw[WE,PyData.shownKv];exact(show(dictText []).length<=100 by decide +kernel)
theorem Rp.repr{n k:Nat}(h:Rp (.lst ds) n k)(hn:n<=sizeLine)(hk:k<=100):∃z,uA (.lst ds)=.ok (.str z):=by
 obtain⟨p,h1,h2,h3,h4⟩:=h;refine⟨p.shown,?_⟩;unfold uA;rw[h1];show(if _ then _ else _)=_;have hs:pA p=true:=by
  unfold pA;rw[h2,decide_eq_true (UO h3 hk),decide_eq_true (UO h4 hn)];rfl
 rw[if_pos ⟨rfl,hs⟩]
end DL
namespace Bor
open PySem L2 DL Com
theorem vW{α β γ:Type}:∀(l:List α) (b:β×γ),List.foldl (λb _=>(b.1,b.2)) b l=b
 |[],_=>rfl
 |_::l,b=>vW l b
theorem yx:∀c∈OR.cps.toList,c<16 ^ 8:=by decide +kernel
theorem OO(h:pR c=true):c<16 ^ 8:=by
 refine Nat.lt_of_not_le λhc=>?_;have hs:∀i,Builtin.Str.subAt OR ⟨#[c]⟩ i=false:=by
  intro i;unfold Builtin.Str.subAt;rw[beq_eq_false_iff_ne];intro e;have:c∈(OR.cps.extract i (i+(⟨#[c]⟩:Str).length)):=by rw[e];simp
  have h2:c∈OR.cps:=by
   obtain⟨j,hj,e⟩:=Array.mem_iff_getElem.mp this;rw[Array.getElem_extract] at e;rw[←e];exact Array.getElem_mem _
  have:=yx c (YR.mpr h2);omega
 have:V4 OR ⟨#[c]⟩ 0 OR.length 1=[]:=by
  unfold V4;simp [hs,vW]
 unfold pR Qt at h;rw[this] at h;cases h
theorem eD(h:nameB z=true):Rp (.str z) 82 0:=by
 unfold nameB at h;simp only[UU,decide_eq_true_eq,U7] at h;refine Rp.str (n:=8) h.2.1 λc hc=>?_;exact OO (h.2.2 c hc)
theorem G9(h:iX x):Rp (fr x) 409 1:=by
 have hN:yA<=2 ^ 200:=by decide
 have h1:=h.pN;have h2:=h.qN;exact(Rp.tup (c3.cons (Rp.int (Uy h1 hN)) (c3.cons (Rp.int (Uy h2 hN)) c3.nil))).up (by simp) (UB _)
theorem wZ(h:oa zs t)(hz:∀z∈zs,nameB z=true):Rp (bo t) 1100 2:=by
 have ha:=(eD (hz _ h.a)).up (k':=1) (UB _) (by decide);have hb:=(eD (hz _ h.b)).up (k':=1) (UB _) (by decide);have hw:Rp (.str t.w) 82 1:=by
  rcases h.w with e|e<;>rw[e]
  .exact(Rp.str (n:=8) (by decide) (by decide)).up (by decide) (by decide)
  .exact(Rp.str (n:=8) (by decide) (by decide)).up (by decide) (by decide)
 have hl:=G9 h.l;have ho:Rp (bK t.o) 409 1:=by
  cases e:t.o with|none=>exact Rp.non.up (by decide) (by decide)|some x=>exact G9 (h.o x e).1
 exact(Rp.tup (c3.cons ha (c3.cons hb (c3.cons hw (c3.cons hl (c3.cons ho c3.nil)))))).up (by simp) (UB _)
theorem zb{ds:List Str}(hl:ds.length<=n)(h:∀z∈ds,nameB z=true):Rp (.lst (ds.map D.str)) (84*n+3) 1:=by
 have:=Rp.lst (c3.all (a:=82) (k:=0) (ds:=ds.map D.str) λd hd=>by
  obtain⟨z,hz,rfl⟩:=UY.mp hd;exact eD (h z hz))
 rw[Ur] at this;exact this.up (by omega) (UB _)
theorem NA(W:dw w):Rp (bQ w) 20000 4:=by
 have h1:=(zb W.n7 W.nm.nm).up (k':=3) (UB _) (by decide);have h2:Rp (.lst (w.ts.map bo)) 15700 3:=by
  have:=Rp.lst (c3.all (a:=1100) (k:=2) (ds:=w.ts.map bo) λd hd=>by
   obtain⟨t,ht,rfl⟩:=UY.mp hd;exact wZ (W.ts t ht) W.nm.nm)
  rw[Ur] at this;have t14:=W.t14;exact this.up (by omega) (UB _)
 have h3:=(eD (W.nm.nm _ W.fi)).up (k':=3) (UB _) (by decide);have h4:=(eD (W.nm.nm _ W.la)).up (k':=3) (UB _) (by decide);exact(Rp.tup (c3.cons h1 (c3.cons h2 (c3.cons h3 (c3.cons h4 c3.nil))))).up (by simp) (UB _)
end Bor
namespace Nwb
open PySem L2 DL Com
noncomputable def b_look_at_places:Ev->ai Fl :=
 (aC (fE (iF (cZ (bM (ae 0) (eS "list"))) (cZ (gP OB OB (dC (.int 2)) (ao (af (ae 0) aE) (m1 fj)) (dC (.int 7)))))
 (aC (d5 "NoWeb" ["part","number"] (af (dC (.str "places")) (af (dC (.non)) aE)))
 av)
 av)
 (aC (lr (wV (ae 0)) (gr [1,2])
 (aC (fE (iF (cZ (ao (af (ae 2) aE) m_is_name)) (ag (ae 2) (nV (ae 0) du (c9 (ae 1))) D9))
 (aC (d5 "NoWeb" ["part","number"] (af (dC (.str "places")) (af (ae 1) aE)))
 av)
 av)
 av))
 av))
noncomputable def m_look_at_places:List D->ai D:=cm 3 b_look_at_places
noncomputable def b_look_at_ties:Ev->ai Fl :=
 (aC (fE (iF (cZ (bM (ae 0) (eS "list"))) (ag (ao (af (ae 0) aE) (m1 fj)) (dC (.int 14)) JR))
 (aC (d5 "NoWeb" ["part","number"] (af (dC (.str "ties")) (af (dC (.non)) aE)))
 av)
 av)
 (aC (lr (wV (ae 0)) (gr [2,3])
 (aC (fE (iF (cZ (ao (af (ae 3) aE) m_is_tie)) (iF (ag (ag (ae 3) (dC (.int 0)) bf) (ae 1) cY) (ag (ag (ae 3) (dC (.int 1)) bf) (ae 1) cY)))
 (aC (d5 "NoWeb" ["part","number"] (af (dC (.str "ties")) (af (ae 2) aE)))
 av)
 av)
 av))
 av))
noncomputable def m_look_at_ties:List D->ai D:=cm 4 b_look_at_ties
noncomputable def b_look_at_web:Ev->ai Fl :=
 (aC (fE (iF (cZ (bM (ae 0) (eS "tuple"))) (ag (ao (af (ae 0) aE) (m1 fj)) (dC (.int 4)) ll))
 (aC (d5 "NoWeb" ["part","number"] (af (dC (.str "web")) (af (dC (.non)) aE)))
 av)
 av)
 (aC (lu (ao (af (ag (ae 0) (dC (.int 0)) bf) aE) m_look_at_places))
 (aC (lu (ao (af (ag (ae 0) (dC (.int 1)) bf) (af (ag (ae 0) (dC (.int 0)) bf) aE)) m_look_at_ties))
 (aC (fE (cZ (ao (af (ag (ae 0) (dC (.int 2)) bf) (af (ag (ae 0) (dC (.int 0)) bf) aE)) m_is_place))
 (aC (d5 "NoWeb" ["part","number"] (af (dC (.str "first")) (af (dC (.non)) aE)))
 av)
 av)
 (aC (fE (iF (cZ (ao (af (ag (ae 0) (dC (.int 3)) bf) (af (ag (ae 0) (dC (.int 0)) bf) aE)) m_is_place)) (ag (ag (ae 0) (dC (.int 3)) bf) (ag (ae 0) (dC (.int 2)) bf) kF))
 (aC (d5 "NoWeb" ["part","number"] (af (dC (.str "last")) (af (dC (.non)) aE)))
 av)
 av)
 av)))))
noncomputable def m_look_at_web:List D->ai D:=cm 1 b_look_at_web
noncomputable def oq(p:Str) (n:D):JT:=⟨"NoWeb",[("part",.str p),("number",n)]⟩
theorem b3:xf "NoWeb" ["part","number"] [.str p,n]=.exn (oq p n):=B1
theorem vt:M4 Com.m_look_at_places m_look_at_places:=Bm (by unfold Com.b_look_at_places b_look_at_places;open_line with[rf_go])
theorem CC:M4 Com.m_look_at_ties m_look_at_ties:=Bm (by unfold Com.b_look_at_ties b_look_at_ties;open_line with[rf_go])
theorem NB:M4 Com.m_look_at_web m_look_at_web:=by
 have h1:=vt;have h2:=CC;exact Bm (by unfold Com.b_look_at_web b_look_at_web;open_line with[rf_go])
theorem webX(W:dw w):m_look_at_web [bQ w]=.ok .non:=NB.ok (Nc W)
theorem KJ(h2:2<=zs.length)(h7:zs.length<=7)(nm:eQ zs):m_look_at_places [.lst (zs.map D.str)]=.ok .non:=vt.ok (vx h2 h7 nm)
theorem Pt{ts:List A0}(h14:ts.length<=14)(nm:eQ zs)(ht:∀t∈ts,oa zs t):m_look_at_ties [.lst (ts.map bo),.lst (zs.map D.str)]=.ok .non:=CC.ok (Ct h14 nm ht)
theorem Ip(P:Nat->Ev->Prop)(X:Nat->JT)(h:∀k d,ds[k]?=some d->∀ρ,P k ρ->∃ρ1,tg ρ d=.ok ρ1/\((∃ρ2,body ρ1=.ok (.nx ρ2)/\P (k+1) ρ2)∨body ρ1=.exn (X k)))(h0:P 0 ρ) :
  (∃ρ',cp tg body ds ρ=.ok (.nx ρ')/\P ds.length ρ')∨∃k,k<ds.length/\cp tg body ds ρ=.exn (X k):=by
 have key:∀(m k:Nat) (ρ:Ev),k+m=ds.length->P k ρ->(∃ρ',cp tg body (ds.drop k) ρ=.ok (.nx ρ')/\P ds.length ρ')∨∃k',k' < ds.length/\cp tg body (ds.drop k) ρ=.exn (X k'):=by
  intro m
  induction m with
  |zero =>
   intro k ρ hk hp;have:k=ds.length:=by omega
   subst this;rw[Wk];exact .inl ⟨ρ,rfl,hp⟩
  |succ m ih =>
   intro k ρ hk hp;have hlt:k<ds.length:=by omega
   obtain⟨ρ1,h1,h2⟩:=h k ds[k] (Uz hlt) ρ hp;rcases h2 with⟨ρ2,h2,h3⟩|h2
   .rw[Va hlt,ib h1 h2]
    exact ih (k+1) ρ2 (by omega) h3
   .refine .inr ⟨k,hlt,?_⟩
    rw[Va hlt];unfold cp;rw[h1,kj,h2,bY]
 exact key ds.length 0 ρ (by omega) h0
theorem pH{k:Nat}(h:(DL.numbered 0 xs)[k]?=some d):∃x,xs[k]?=some x/\d=.tup [.int (k:Int),x]:=by
 have:=je (F:=id) (xs:=xs) (k:=k) (d:=d) (by rw[XX];exact h);exact this
theorem dI(xs:List D):∀k,(DL.numbered k xs).length=xs.length:=by
 induction xs with|nil=>intro k;rfl|cons x xs ih=>intro k;unfold DL.numbered;rw[UI,ih,UI]
theorem yo{k:Nat}(h:k<=xs.length):jr xs none (some (k:Int))=xs.take k:=by
 have:=B8 (F:=id) (xs:=xs) h
 rwa [XX,XX] at this
theorem Lb(h:Lu d=true):(∃z,d=.str z/\nameB z=true/\m_is_name [d]=.ok (.bl true))∨(zN d=false/\m_is_name [d]=.ok (.bl false)):=by
 have e:=lQ h;cases hn:zN d with
 |false=>rw[hn] at e;exact .inr ⟨rfl,e⟩
 |true =>
  rw[hn] at e;cases d with|str z=>exact .inl ⟨z,rfl,hn,e⟩| _=>cases hn
theorem rL{ds:List D}(hf:∀d∈ds,Lu d=true)(h2:2<=ds.length)(h7:ds.length<=7) :
  (∃zs,ds=zs.map D.str/\eQ zs)∨∃k,k<ds.length/\m_look_at_places [.lst ds]=.exn (oq "places" (.int (k:Int))):=by
 have hl:=Ip (ds:=DL.numbered 0 ds) (tg:=gr [1,2]) (ρ:=[.sh (.lst ds),.no,.no])
  (body:=(aC (fE (iF (cZ (ao (af (ae 2) aE) m_is_name)) (ag (ae 2) (nV (ae 0) du (c9 (ae 1))) D9))
 (aC (d5 "NoWeb" ["part","number"] (af (dC (.str "places")) (af (ae 1) aE)))
 av)
 av)
 av))
  (λk ρ=>(∃a b,ρ=[.sh (.lst ds),a,b])/\∃zs,ds.take k=zs.map D.str/\eQ zs) (λk=>oq "places" (.int (k:Int))) (by
   rintro k d hd ρ ⟨⟨a,b,rfl⟩,zs,hz,nm⟩;obtain⟨x,hx,rfl⟩:=pH hd;have hk:k<ds.length:=(Uw.mp hx).1;refine⟨[.sh (.lst ds),.sh (.int (k:Int)),.sh x],pS rfl,?_⟩;have hcut:jr ds none (some (k:Int))=zs.map D.str:=by rw[yo (WV hk),hz]
   rcases Lb (hf x (UA hx)) with⟨z,rfl,hnb,hn⟩|⟨_,hn⟩
   .by_cases hm:z∈zs
    .right
     open_line with[hn,hcut,qE,decide_eq_true hm,b4,b3,bY]
    .left
     refine⟨[.sh (.lst ds),.sh (.int (k:Int)),.sh (.str z)],?_,⟨_,_,rfl⟩,zs++[z],?_,?_,?_⟩
     .open_line with[hn,hcut,qE,decide_eq_false hm]
     .rw[List.take_succ,hx,hz,Vm];rfl
     .rw[Wc]
      exact⟨nm.nd,by simp,λa ha b hb=>by rw[Vr] at hb;subst hb;exact λe=>hm (e▸ha)⟩
     .intro y hy
      rw[Ve,Vr] at hy;rcases hy with hy|rfl
      .exact nm.nm y hy
      .exact hnb
   .right
    open_line with[hn,b4,b3,bY]) ⟨⟨.no,.no,rfl⟩,[],by rw[List.take_zero];rfl,⟨.nil,λ_ h=>nomatch h⟩⟩
 rw[dI] at hl;have e1:decide ((2:Int)<=(ds.length:Int))=true:=decide_eq_true (by omega);have e2:decide ((ds.length:Int)<=7)=true:=decide_eq_true (by omega);rcases hl with⟨ρ',_,_,zs,hz,nm⟩|⟨k,hk,hl⟩
 .rw[XN] at hz
  exact .inl ⟨zs,hz,nm⟩
 .refine .inr ⟨k,hk,?_⟩
  open_line with[m_look_at_places,b_look_at_places,e1,e2,hl,bY]
theorem jV(h:ds.length<2∨7<ds.length):m_look_at_places [.lst ds]=.exn (oq "places" .non):=by
 rcases h with h|h
 .have e1:decide ((2:Int)<=(ds.length:Int))=false:=decide_eq_false (by omega)
  open_line with[m_look_at_places,b_look_at_places,e1,b4,b3,bY]
 .have e1:decide ((2:Int)<=(ds.length:Int))=true:=decide_eq_true (by omega)
  have e2:decide ((ds.length:Int)<=7)=false:=decide_eq_false (by omega);open_line with[m_look_at_places,b_look_at_places,e1,e2,b4,b3,bY]
theorem pC(h:eS "list" d=.ok (.bl false)):m_look_at_places [d]=.exn (oq "places" .non):=by
 open_line with[m_look_at_places,b_look_at_places,h,b4,b3,bY]
theorem vn(h:eS "list" d=.ok (.bl false)):m_look_at_ties [d,p]=.exn (oq "ties" .non):=by
 open_line with[m_look_at_ties,b_look_at_ties,h,b4,b3,bY]
theorem E2(h:14<ds.length):m_look_at_ties [.lst ds,p]=.exn (oq "ties" .non):=by
 open_line with[m_look_at_ties,b_look_at_ties,decide_eq_true (show(ds.length:Int) > 14 by omega),b4,b3,bY]
noncomputable def El(zs:List Str) (d:D):Prop:=∃t,d=bo t/\oa zs t
noncomputable def OS(zs:List Str) (d:D):Prop:=m_is_tie [d]=.ok (.bl false)∨(m_is_tie [d]=.ok (.bl true)/\∃a b r,d=.tup (.str a::.str b::r)/\(a∉zs∨b∉zs))
theorem GB{ds:List D}(nm:eQ zs)(h14:ds.length<=14)(hd:∀d∈ds,El zs d∨OS zs d) :
  (∀d∈ds,El zs d)∨∃k,k<ds.length/\m_look_at_ties [.lst ds,.lst (zs.map D.str)]=.exn (oq "ties" (.int (k:Int))):=by
 have hl:=Ip (ds:=DL.numbered 0 ds) (tg:=gr [2,3]) (ρ:=[.sh (.lst ds),.sh (.lst (zs.map D.str)),.no,.no])
  (body:=(aC (fE (iF (cZ (ao (af (ae 3) aE) m_is_tie)) (iF (ag (ag (ae 3) (dC (.int 0)) bf) (ae 1) cY) (ag (ag (ae 3) (dC (.int 1)) bf) (ae 1) cY)))
 (aC (d5 "NoWeb" ["part","number"] (af (dC (.str "ties")) (af (ae 2) aE)))
 av)
 av)
 av))
  (λk ρ=>(∃a b,ρ=[.sh (.lst ds),.sh (.lst (zs.map D.str)),a,b])/\∀d∈ds.take k,El zs d) (λk=>oq "ties" (.int (k:Int))) (by
   rintro k d hd' ρ ⟨⟨a,b,rfl⟩,hz⟩;obtain⟨x,hx,rfl⟩:=pH hd';have hk:k<ds.length:=(Uw.mp hx).1;refine⟨[.sh (.lst ds),.sh (.lst (zs.map D.str)),.sh (.int (k:Int)),.sh x],pS rfl,?_⟩;rcases hd x (UA hx) with⟨t,rfl,hT⟩|h|⟨h,a',b',r,rfl,hn⟩
   .left
    refine⟨[.sh (.lst ds),.sh (.lst (zs.map D.str)),.sh (.int (k:Int)),.sh (bo t)],?_,⟨_,_,rfl⟩,?_⟩
    .have h1:=q9 nm hT
     rw[show bo t=.tup [.str t.a,.str t.b,.str t.w,fr t.l,bK t.o] from rfl] at h1 ⊢;open_line with[h1,gI,decide_eq_true hT.a,decide_eq_true hT.b]
    .intro y hy
     rw[List.take_succ,hx,Ve] at hy;rcases hy with hy|hy
     .exact hz y hy
     .have:y=bo t:=by simpa using hy
      subst this;exact⟨t,rfl,hT⟩
   .right
    open_line with[h,b4,b3,bY]
   .right
    rcases hn with hn|hn
    .open_line with[h,gI,decide_eq_false hn,b4,b3,bY]
    .by_cases ha:a'∈zs
     .open_line with[h,gI,decide_eq_false hn,decide_eq_true ha,b4,b3,bY]
     .open_line with[h,gI,decide_eq_false ha,b4,b3,bY]) ⟨⟨.no,.no,rfl⟩,by rw[List.take_zero];exact λ_ h=>nomatch h⟩
 rw[dI] at hl;rcases hl with⟨ρ',_,_,hz⟩|⟨k,hk,hl⟩
 .rw[XN] at hz
  exact .inl hz
 .refine .inr ⟨k,hk,?_⟩
  open_line with[m_look_at_ties,b_look_at_ties,decide_eq_false (show ¬(ds.length:Int) > 14 by omega),hl,bY]
theorem yQ(h:eS "tuple" d=.ok (.bl false)):m_look_at_web [d]=.exn (oq "web" .non):=by
 open_line with[m_look_at_web,b_look_at_web,h,b4,b3,bY]
theorem qY(h:ds.length≠4):m_look_at_web [.tup ds]=.exn (oq "web" .non):=by
 have e:ll (.int (ds.length:Int)) (.int 4)=.ok (.bl true):=by
  rw[j8];have:((ds.length:Int)==4)=false:=beq_eq_false_iff_ne.mpr (by omega);rw[this];rfl
 open_line with[m_look_at_web,b_look_at_web,e,b4,b3,bY]
section
variable {p t f l:D}{x:JT}
theorem Bc(h:m_look_at_places [p]=.exn x):m_look_at_web [.tup [p,t,f,l]]=.exn x:=by
 open_line with[m_look_at_web,b_look_at_web,h,bY]
theorem ma(h:m_look_at_places [p]=.ok .non)(h2:m_look_at_ties [t,p]=.exn x):m_look_at_web [.tup [p,t,f,l]]=.exn x:=by
 open_line with[m_look_at_web,b_look_at_web,h,h2,bY]
theorem EV(h:m_look_at_places [p]=.ok .non)(h2:m_look_at_ties [t,p]=.ok .non)(h3:m_is_place [f,p]=.ok (.bl false)):m_look_at_web [.tup [p,t,f,l]]=.exn (oq "first" .non):=by
 open_line with[m_look_at_web,b_look_at_web,h,h2,h3,b4,b3,bY]
theorem Gx(h:m_look_at_places [p]=.ok .non)(h2:m_look_at_ties [t,p]=.ok .non)(h3:m_is_place [f,p]=.ok (.bl true))(h4:m_is_place [l,p]=.ok (.bl false)):m_look_at_web [.tup [p,t,f,l]]=.exn (oq "last" .non):=by
 open_line with[m_look_at_web,b_look_at_web,h,h2,h3,h4,b4,b3,bY]
end
theorem yP(h:m_look_at_places [p]=.ok .non)(h2:m_look_at_ties [t,p]=.ok .non)(h3:m_is_place [.str z,p]=.ok (.bl true)):m_look_at_web [.tup [p,t,.str z,.str z]]=.exn (oq "last" .non):=by
 open_line with[m_look_at_web,b_look_at_web,h,h2,h3,gw,b4,b3,bY]
theorem zl(h:m_is_name [d]=.ok (.bl false)):m_is_place [d,p]=.ok (.bl false):=by
 open_line with[m_is_place,l5,h]
end Nwb
namespace Nwb
open PySem L2 DL Com Bor
noncomputable abbrev aG:Addr->List D->List D->ai (D×List D):=Bor.aG
noncomputable def bC:Addr->Ev->List D->ai dH:=λa =>
 (aW (dD (bO 3 (ao (af (ag (ae 1) (dC (.int 0)) bf) (af (ag (ae 1) (dC (.int 1)) bf) (af (dC (.str "one")) (af (ao (af (dC (.int 1)) (af (dC (.int 1)) aE)) cO) (af (dC (.non)) aE))))) cO)))
 (aW (dB 4 (bD 0 a (aT (mP (dC (.int 5))) bX) aG))
 (aW (dD (bO 5 (ag (ao (af (ag (ae 1) (dC (.int 1)) bf) (af (ag (ae 1) (dC (.int 0)) bf) (af (dC (.str "two")) (af (ao (af (dC (.int 2)) (af (dC (.int 2)) aE)) cO) (af (ao (af (dC (.int 0)) (af (dC (.int 1)) aE)) cO) aE))))) b5) (ae 4) bf)))
 (aW (qC (Lg (mT (ag (ae 4) (dC (.int 1)) JR)) (mB (bD 0 a (aT (mP (dC (.int 2))) bX) aG) (mP (dC (.int 0))) kF))
 (aW (dB 5 (mB (mP (ao (af (ae 2) (af (ao (af (bM (dC (.int 1)) FX) (af (dC (.int 2)) aE)) cO) (af (ao (af (dC (.bl true)) (af (dC (.int 1)) aE)) cO) (af (ao (af (dC (.int 1)) (af (dC (.int 1)) aE)) b5) aE)))) b5)) (bD 0 a (aT (mP (dC (.int 4))) bX) aG) bf))
 bc)
 bc)
 (aW (dD (fE (ag (ae 5) (dC (.non)) iz)
 (aC (bO 5 (dC (.str "x")))
 av)
 av))
 (aW (eu (ag (ag (nV (ae 3) du (c9 (ae 4))) (ao (af (ae 5) aE) cO) wg) (nV (ae 3) (c9 (ag (ae 4) (dC (.int 1)) bV)) du) wg))
 bc))))))
noncomputable def bb:Addr->List D->List D->ai (D×List D):=qf 6 bC
noncomputable def bP:Addr->Ev->List D->ai dH:=λa =>
 (aW (dD (Nw [2,3,4,5] (ae 1)))
 (aW (dB 6 (mB (mP (ao (af (dC (.non)) (af (dC (.bl true)) (af (dC (.int 5)) (af (dC (.str "")) (af (dC (.str "A")) (af (dC (.str "abcdefghi")) (af (ao aE b5) (af (dC (.dic [] [])) (af (ao (af (dC (.str "a")) (af (dC (.str "b")) aE)) cO) aE))))))))) b5)) (bD 0 a (aT (mP (dC (.int 9))) bX) aG) bf))
 (aW (dB 7 (bD 0 a (aT (mP (dC (.int 8))) bX) aG))
 (aW (dB 8 (bD 0 a (aT (mP (ao (af (ae 2) aE) (m1 fj))) bX) aG))
 (aW (qC (mT (ag (ae 7) (dC (.int 0)) kF))
 (aW (xE (mB (mP (ao (af (ae 6) (af (ao (af (ae 1) aE) (m1 Jn)) (af (nV (ae 1) du (c9 (dC (.int 3)))) (af (ag (ae 1) (ao (af (ae 5) aE) cO) bV) aE)))) b5)) (bD 0 a (aT (mP (dC (.int 4))) bX) aG) bf))
 bc)
 bc)
 (aW (qC (mT (ag (ae 7) (dC (.int 1)) kF))
 (aW (eu (ao (af (ag (ag (nV (ae 2) du (c9 (ae 8))) (ao (af (ae 6) aE) b5) bV) (nV (ae 2) (c9 (ag (ae 8) (dC (.int 1)) bV)) du) bV) (af (ae 3) (af (ae 4) (af (ae 5) aE)))) cO))
 bc)
 bc)
 (aW (qC (mT (ag (ae 7) (dC (.int 2)) kF))
 (aW (eu (ao (af (ag (ae 2) (ao (af (ag (ae 2) (ae 8) bf) aE) b5) bV) (af (ae 3) (af (ae 4) (af (ae 5) aE)))) cO))
 bc)
 bc)
 (aW (qC (mT (ag (ae 7) (dC (.int 3)) kF))
 (aW (xE (mA (aT (mB (mP (ao (af (ao (af (ae 2) aE) (m1 uz)) (af (nV (ae 2) du (c9 (dC (.int 1)))) (af (ae 6) aE))) b5)) (bD 0 a (aT (mP (dC (.int 3))) bX) aG) bf) (aT (mP (ae 3)) (aT (mP (ae 4)) (aT (mP (ae 5)) bX)))) cO))
 bc)
 bc)
 (aW (qC (mT (ag (ae 7) (dC (.int 4)) kF))
 (aW (eu (ao (af (ae 2) (af (ag (ao (af (ao (af (ae 3) aE) (m1 uz)) (af (ae 6) aE)) b5) (ao (af (ag (ae 6) (ao aE b5) vg) aE) (m1 iA)) bf) (af (ae 4) (af (ae 5) aE)))) cO))
 bc)
 bc)
 (aW (qC (mT (ag (ae 7) (dC (.int 5)) kF))
 (aW (xE (mA (aT (mP (ae 2)) (aT (mP (ae 3)) (aT (mB (mP (ao (af (ae 6) (af (ae 5) aE)) b5)) (bD 0 a (aT (mP (dC (.int 2))) bX) aG) bf) (aT (mP (ae 5)) bX)))) cO))
 bc)
 bc)
 (aW (qC (mT (ag (ae 7) (dC (.int 6)) kF))
 (aW (xE (mA (aT (mP (ae 2)) (aT (mP (ae 3)) (aT (mP (ae 4)) (aT (mB (mP (ao (af (ae 6) (af (ae 4) aE)) b5)) (bD 0 a (aT (mP (dC (.int 2))) bX) aG) bf) bX)))) cO))
 bc)
 bc)
 (aW (dB 8 (bD 0 a (aT (mP (ag (ao (af (ae 3) aE) (m1 fj)) (dC (.int 1)) bV)) bX) aG))
 (aW (xE (mA (aT (mP (ae 2)) (aT (mB (mB (mP (nV (ae 3) du (c9 (ae 8)))) (mA (aT (bD 0 a (aT (mP (ae 2)) (aT (mP (ae 6)) bX)) bb) bX) b5) bV) (mP (nV (ae 3) (c9 (ae 8)) du)) bV) (aT (mP (ae 4)) (aT (mP (ae 5)) bX)))) cO))
 bc)))))))))))))
noncomputable def bq:Addr->List D->List D->ai (D×List D):=qf 9 bP
noncomputable def iL:List D:=[.non,.bl true,.int 5,.str "",.str "A",.str "abcdefghi",.lst [],.dic [] [],.tup [.str "a",.str "b"]]
theorem mx:∀o∈iL,Lu o=true/\zN o=false:=by
 intro o ho;simp only[iL,Uv,US,or_false] at ho;rcases ho with rfl|rfl|rfl|rfl|rfl|rfl|rfl|rfl|rfl<;>exact⟨by decide +kernel,by decide +kernel⟩
theorem HM(h:o∈iL):m_is_name [o]=.ok (.bl false):=by
 have:=lQ (mx o h).1
 rwa [(mx o h).2] at this
theorem xx:∀o∈iL,Rp o 200 1:=by
 intro o ho;simp only[iL,Uv,US,or_false] at ho;have hs:∀z:Str,z.length<=9->(∀c∈z.cps.toList,c<16 ^ 8)->Rp (.str z) 200 0:=λz h1 h2=>(Rp.str (n:=9) h1 h2).up (by decide) (UB _);rcases ho with rfl|rfl|rfl|rfl|rfl|rfl|rfl|rfl|rfl
 .exact Rp.non.up (by decide) (by decide)
 .exact Rp.bl.up (by decide) (by decide)
 .exact⟨.int 5,by rw[fQ],by decide +kernel,by decide +kernel,by decide +kernel⟩
 .exact(hs _ (by decide +kernel) (by decide +kernel)).up (by decide) (by decide)
 .exact(hs _ (by decide +kernel) (by decide +kernel)).up (by decide) (by decide)
 .exact(hs _ (by decide +kernel) (by decide +kernel)).up (by decide) (by decide)
 .exact(Rp.lst (k:=0) c3.nil).up (by decide) (by decide)
 .exact(Rp.emp (k:=0)).up (by decide) (by decide)
 .exact(Rp.tup (k:=0) (c3.cons ((Rp.str (n:=1) (by decide +kernel) (by decide +kernel)).up (n':=82) (k':=0) (by decide) (by decide)) (c3.cons ((Rp.str (n:=1) (by decide +kernel) (by decide +kernel)).up (n':=82) (k':=0) (by decide) (by decide)) c3.nil))).up (by decide) (by decide)
theorem jj(h0:0<=r)(h1:r<ds.length):∃d∈ds,bf (.lst ds) (.int r)=.ok d:=by
 have hlt:r.toNat<ds.length:=by omega
 have he:ds[r.toNat]?=some ds[r.toNat]:=Uz hlt;have:=xT he;rw[show((r.toNat:Nat):Int)=r by omega] at this;exact⟨_,XO hlt,this⟩
noncomputable def iS:List D:=[.tup [.int (-1),.int 2],.tup [.bl true,.int 1],.lst [.int 1,.int 1],.str "x",.bl true,.int 5,.str "",.str "A",.str "abcdefghi",.lst [],.dic [] [],.tup [.str "a",.str "b"]]
theorem J8:∀o∈D.str "two"::iS,(eS "str" o=.ok (.bl false))∨(eS "str" o=.ok (.bl true)/\cY o (.tup [.str "one",.str "both"])=.ok (.bl true)):=by
 intro o ho;simp only[iS,Uv,US,or_false] at ho;rcases ho with rfl|rfl|rfl|rfl|rfl|rfl|rfl|rfl|rfl|rfl|rfl|rfl|rfl<;>first|exact .inl rfl|exact .inr ⟨rfl,rfl⟩
theorem Fs:∀o∈D.tup [.int 2,.int 2]::iS,m_is_length [o]=.ok (.bl false):=by
 intro o ho;simp only[iS,Uv,US,or_false] at ho;rcases ho with rfl|rfl|rfl|rfl|rfl|rfl|rfl|rfl|rfl|rfl|rfl|rfl|rfl<;>rfl
theorem Gv:∀o∈D.tup [.int 0,.int 1]::iS,m_is_worth [o]=.ok (.bl false):=by
 intro o ho;simp only[iS,Uv,US,or_false] at ho;rcases ho with rfl|rfl|rfl|rfl|rfl|rfl|rfl|rfl|rfl|rfl|rfl|rfl|rfl<;>rfl
theorem jy:∀o∈D.tup [.int 0,.int 1]::D.tup [.int 2,.int 2]::D.str "two"::iS,Rp o 500 1:=by
 intro o ho;simp only[iS,Uv,US,or_false] at ho;have hi:∀i:Int,i.natAbs<1000->Rp (.int i) 201 0:=λi h=>Rp.int (WU h (by decide));have h2:∀i j:Int,i.natAbs<1000->j.natAbs<1000->Rp (.tup [.int i,.int j]) 500 1:=λi j h1 h2=>(Rp.tup (c3.cons (hi i h1) (c3.cons (hi j h2) c3.nil))).up (by simp) (UB _);have h3:∀i j:Int,i.natAbs<1000->j.natAbs<1000->Rp (.lst [.int i,.int j]) 500 1:=λi j h1 h2=>(Rp.lst (c3.cons (hi i h1) (c3.cons (hi j h2) c3.nil))).up (by simp) (UB _);have ho2:∀o∈iL,Rp o 500 1:=λo h=>(xx o h).up (by decide) (by decide);rcases ho with rfl|rfl|rfl|rfl|rfl|rfl|rfl|rfl|rfl|rfl|rfl|rfl|rfl|rfl|rfl
 .exact h2 _ _ (by decide) (by decide)
 .exact h2 _ _ (by decide) (by decide)
 .exact(Rp.str (n:=3) (by decide +kernel) (by decide +kernel)).up (by decide) (by decide)
 .exact h2 _ _ (by decide) (by decide)
 .exact(Rp.tup (c3.cons (Rp.bl (b:=true)) (c3.cons (hi 1 (by decide)) c3.nil))).up (by simp) (UB _)
 .exact h3 _ _ (by decide) (by decide)
 .exact(Rp.str (n:=1) (by decide +kernel) (by decide +kernel)).up (by decide) (by decide)
 all_goals exact ho2 _ (by simp [iL])
section
variable {n0 n1:Str}{d e:D}
theorem yT(h0:nameB n0=true):m_is_tie [.tup [.str n0,.str n0,.str "one",.tup [.int 1,.int 1],.non]]=.ok (.bl false):=by
 have:=cX h0;open_line with[m_is_tie,gT,this,gw]
theorem qZ(h0:nameB n0=true)(h1:nameB n1=true)(hn:n0≠n1)(hd:d∈D.str "two"::iS):m_is_tie [.tup [.str n0,.str n1,d,.tup [.int 1,.int 1],.non]]=.ok (.bl false):=by
 have e0:=cX h0;have e1:=cX h1;have e2:(n0==n1)=false:=beq_eq_false_iff_ne.mpr hn;rcases J8 d hd with h|⟨h,h'⟩
 .open_line with[m_is_tie,gT,e0,e1,gw,e2,h]
 .open_line with[m_is_tie,gT,e0,e1,gw,e2,h,h']
theorem yN:cY (.str "one") (.tup [.str "one",.str "both"])=.ok (.bl false):=rfl
theorem lK(h0:nameB n0=true)(h1:nameB n1=true)(hn:n0≠n1)(hd:d∈D.tup [.int 2,.int 2]::iS):m_is_tie [.tup [.str n0,.str n1,.str "one",d,.non]]=.ok (.bl false):=by
 have e0:=cX h0;have e1:=cX h1;have e2:(n0==n1)=false:=beq_eq_false_iff_ne.mpr hn;open_line with[m_is_tie,gT,e0,e1,gw,e2,yN,Fs d hd]
theorem BM:m_is_length [.tup [.int 1,.int 1]]=.ok (.bl true):=rfl
theorem oA(h0:nameB n0=true)(h1:nameB n1=true)(hn:n0≠n1)(hd:d∈D.tup [.int 0,.int 1]::iS):m_is_tie [.tup [.str n0,.str n1,.str "one",.tup [.int 1,.int 1],d]]=.ok (.bl false):=by
 have e0:=cX h0;have e1:=cX h1;have e2:(n0==n1)=false:=beq_eq_false_iff_ne.mpr hn;open_line with[m_is_tie,gT,e0,e1,gw,e2,yN,BM,Gv d hd]
end
end Nwb
namespace K11
open PySem L2 DL
noncomputable def iD:Ev->ai Fl :=
 (aC (bO 1 (ao (af (ag (ae 0) (dC (.int 0)) bf) (af (ag (ae 0) (dC (.int 1)) bf) aE)) cO))
 (aC (fE (ag (ag (ae 0) (dC (.int 2)) bf) (dC (.str "one")) kF)
 (aC (ck (ao (af (ae 1) aE) b5))
 av)
 av)
 (aC (ck (ao (af (ae 1) (af (ao (af (ag (ae 0) (dC (.int 1)) bf) (af (ag (ae 0) (dC (.int 0)) bf) aE)) cO) aE)) b5))
 av)))
noncomputable def m_steps_along:List D->ai D:=cm 2 iD
end K11
namespace K12
open PySem L2 DL
end K12
namespace K51
open PySem L2 DL
noncomputable abbrev m_steps_along:List D->ai D:=K11.m_steps_along
noncomputable def b_steps_left:Ev->ai Fl :=
 (aC (mh 2 (ao aE b5))
 (aC (lr (wV (ag (ae 0) (dC (.int 1)) bf)) (gr [3,4])
 (aC (fE (ag (ae 3) (ae 1) cY)
 (aC (u9 (ao (af (ae 4) aE) m_steps_along) (gr [5,6])
 (aC (fq 2 (ao (af (ae 3) (af (ae 5) (af (ae 6) aE))) cO))
 av))
 av)
 av)
 av))
 (aC (ck (ae 2))
 av)))
noncomputable def m_steps_left:List D->ai D:=cm 7 b_steps_left
end K51
namespace K17
open PySem L2 DL
noncomputable abbrev m_on_one_scale:List D->ai D:=Com.m_on_one_scale
noncomputable def iT:Ev->ai Fl :=
 (aC (ck (ao (af (eA 1 [] (qe (ag (ae 0) (dC (.int 1)) bf)) (cz 0) mYes (ag (ae 0) (dC (.int 3)) bf)) aE) m_on_one_scale))
 av)
noncomputable def m_scaled_lengths:List D->ai D:=cm 1 iT
noncomputable abbrev m_steps_along:List D->ai D:=K11.m_steps_along
noncomputable abbrev m_steps_left:List D->ai D:=K51.m_steps_left
noncomputable def kK:Ev->ai Fl :=
 (aC (bO 3 (dC (.non)))
 (aC (u9 (ae 0) (gr [4,5,6])
 (aC (fE (lW (ag (ae 5) (ae 2) AO) (ag (ae 6) (ae 2) jq))
 (aC (bO 7 (ag (ag (ag (ae 2) (ae 5) ie) (dC (.int 0)) bf) (ag (ae 1) (ae 4) bf) bV))
 (aC (fE (iF (ag (ae 3) (dC (.non)) iz) (ag (ae 7) (ag (ae 3) (dC (.int 1)) bf) Pf))
 (aC (bO 3 (ao (af (ae 6) (af (ae 7) (af (ag (ag (ag (ae 2) (ae 5) ie) (dC (.int 1)) bf) (ao (af (ae 4) aE) b5) bV) aE))) cO))
 av)
 av)
 av))
 av)
 av))
 (aC (ck (ae 3))
 av)))
noncomputable def m_nearest_step:List D->ai D:=cm 8 kK
noncomputable def lH:Ev->ai Fl :=
 (aC (bO 3 (ao (af (ae 0) (af (ae 1) aE)) m_steps_left))
 (aC (y9 4 (Ea (ag (ae 0) (dC (.int 2)) bf) (ao (af (dC (.int 0)) (af (ao aE b5) aE)) cO)))
 (aC (yZ 5 (ao (af (ae 3) (af (ae 2) (af (ae 4) aE))) m_nearest_step))
 (aC (i7 (λ_=>8) (ag (ae 5) (dC (.non)) pT)
 (aC (vq 4 (ao (af (ag (ae 5) (dC (.int 1)) bf) (af (ag (ae 5) (dC (.int 2)) bf) aE)) cO) (ag (ae 5) (dC (.int 0)) bf))
 (aC (yZ 5 (ao (af (ae 3) (af (ae 2) (af (ae 4) aE))) m_nearest_step))
 av)))
 (aC (ck (ae 4))
 av)))))
noncomputable def m_all_reached:List D->ai D:=cm 6 lH
noncomputable abbrev m_ratio:List D->ai D:=Com.m_ratio
noncomputable def lZ:Ev->ai Fl :=
 (aC (bO 2 (ao (af (ae 0) aE) m_scaled_lengths))
 (aC (bO 3 (ao (af (ae 0) (af (ae 1) (af (ag (ae 2) (dC (.int 0)) bf) aE))) m_all_reached))
 (aC (y9 4 (dC (.dic [] [])))
 (aC (u9 (ag (ae 0) (dC (.int 0)) bf) (cz 5)
 (aC (vq 4 (MW (ag (ae 5) (ae 3) AO) (ao (af (ag (ag (ae 3) (ae 5) ie) (dC (.int 0)) bf) (af (ag (ae 2) (dC (.int 1)) bf) aE)) m_ratio) (dC (.non))) (ae 5))
 av))
 (aC (fE (ag (ag (ae 0) (dC (.int 3)) bf) (ae 3) jq)
 (aC (ck (ao (af (dC (.non)) (af (dC (.non)) (af (ae 4) aE))) cO))
 av)
 av)
 (aC (ck (ao (af (ag (ag (ae 3) (ag (ae 0) (dC (.int 3)) bf) ie) (dC (.int 1)) bf) (af (ag (ae 4) (ag (ae 0) (dC (.int 3)) bf) ie) (af (ae 4) aE))) cO))
 av))))))
noncomputable def m_shortest:List D->ai D:=cm 6 lZ
end K17
namespace K11
open PySem L2 DL Com
theorem iy:kF (.str x) (.str y)=.ok (.bl (decide (x=y))):=by
 have h:kF (.str x) (.str y)=.ok (.bl (x==y)):=rfl;rw[h]
 by_cases e:x=y
 .rw[decide_eq_true e,e,beq_self_eq_true]
 .rw[decide_eq_false e,beq_eq_false_iff_ne.mpr e]
noncomputable def ways(t:A0):List (Str×Str):=if t.w="one" then[(t.a,t.b)] else[(t.a,t.b),(t.b,t.a)]
noncomputable def pr(p:Str×Str):D:=.tup [.str p.1,.str p.2]
theorem steps_ok:m_steps_along [bo t]=.ok (.lst ((ways t).map pr)):=by
 obtain⟨a,b,w,l,o⟩:=t;rw[show bo ⟨a,b,w,l,o⟩=.tup [.str a,.str b,.str w,fr l,bK o] from rfl];unfold ways
 by_cases h:w="one"
 .rw[if_pos h]
  open_line with[m_steps_along,iD,iy,decide_eq_true h,pr]
 .rw[if_neg h]
  open_line with[m_steps_along,iD,iy,decide_eq_false h,pr]
theorem E5{ks:List Nat}:(ks.map λ(k:Nat)=>D.int (k:Int)).all (bA m)=true:=U7.mpr λd hd=>by
 obtain⟨z,_,rfl⟩:=UY.mp hd;cases m<;>rfl
theorem Ei{n:Nat}:∀{ks:List Nat},((ks.map λ(k:Nat)=>D.int (k:Int)).any λd=>c4 d (.int (n:Int)))=decide (n∈ks)
 |[]=>rfl
 |k::ks=>by
  rw[UG,Wb,Ei];have e:c4 (.int (k:Int)) (.int (n:Int))=((k:Int)==(n:Int)):=by rw[c4]
  rw[e]
  by_cases h:n=k
  .subst h;simp
  .have h1:((k:Int)==(n:Int))=false:=beq_eq_false_iff_ne.mpr (by omega)
   rw[h1,Yk];have:n∈k::ks↔n∈ks:=by simp [h]
   exact decide_eq_decide.mpr this.symm
theorem notIn_nums{ks:List Nat}{n:Nat}:cY (.int (n:Int)) (.lst (ks.map λ(k:Nat)=>D.int (k:Int)))=.ok (.bl (!(decide (n∈ks)))):=by
 have e:JQ (.int (n:Int)) (.lst (ks.map λ(k:Nat)=>D.int (k:Int)))=some (decide (n∈ks)):=(if_pos ⟨rfl,E5⟩).trans (congrArg some Ei);unfold cY;rw[e]
end K11
namespace K11
open PySem L2 DL Com Bor
noncomputable abbrev fW(ks:List Nat):List D:=ks.map λ(k:Nat)=>D.int (k:Int)
section
variable {c:Ev->List D->ai (D×List D)}{s:Ev->List D->ai dH}{f:Nat}{ρ ρ2:Ev}{st st1 st2:List D}{d:D}
end
end K11
namespace K12
open PySem L2 DL Com Bor K11
section
variable {s t:Ev->ai Fl}{ρ:Ev}{ds:List D}{n i:Nat}{f:Ev->ai D}{fa:Ev->ai (List D)}{m:List D->ai D}{d:D}
noncomputable def B4(m:List D->ai D) (ρ:Ev) (r:ai (List D)):ai Fl:=match r with
 |.ok ds=>(m ds).bind λ_=>.ok (.nx ρ)
 |_=>.stuck
theorem ef_dropC:rq fa m ρ=B4 m ρ (fa ρ):=aK rfl
theorem ef_dropC1(h:m ds=.exn x):B4 m ρ (.ok ds)=.exn x:=by unfold B4;simp only[h];rfl
end
end K12
namespace K51
open PySem L2 DL Com Bor
theorem Qp{a:Int}(h:a.natAbs<2 ^ m)(hm:m<=n):a.natAbs<2 ^ n:=Uy h (Vn (by decide) hm)
theorem BD{a b:Int}(h:a.natAbs<2 ^ m)(h':b.natAbs<2 ^ n):(a*b).natAbs<2 ^ (m+n):=by
 rw[X8,XW];exact Nat.mul_lt_mul'' h h'
theorem OM{a b:Int}(h:a.natAbs<2 ^ m)(h':b.natAbs<2 ^ m):(a+b).natAbs<2 ^ (m+1):=by
 have:=Int.natAbs_add_le a b;rw[Nat.pow_succ];omega
noncomputable def pl(x y:kO):kO:=u4 (un x y).1 (un x y).2
structure Bd (x:kO) (n:Nat):Prop where
 q0:0<x.2
 a:x.1.natAbs<2 ^ n
 b:x.2.natAbs<2 ^ n
theorem Bd.c13(h:Bd x n)(hn:n<=6000):x.1.natAbs<qV/\x.2.natAbs<qV:=by
 have:2 ^ n<=qV:=by rw[pw];exact Vn (by decide) (UO hn (by decide))
 exact⟨Uy h.a this,Uy h.b this⟩
theorem Bd.c60(h:Bd x n)(hn:n<=6000):x.1.natAbs<Gi/\x.2.natAbs<Gi:=⟨Uy (h.c13 hn).1 qU,Uy (h.c13 hn).2 qU⟩
theorem low_bd(hb:0<b)(h1:a.natAbs<2 ^ n)(h2:b.natAbs<2 ^ n):Bd (u4 a b) n:=⟨by have:=(xF (a:=a) hb).q1;omega,Vd xH h1,Vd xG h2⟩
theorem un_bd(hx:Bd x m)(hy:Bd y n):Bd (un x y) (m+n+1):=by
 refine⟨YO hx.q0 hy.q0,?_,Qp (BD hx.b hy.b) (by omega)⟩;have h1:=BD hx.a hy.b;have h2:=BD hy.a hx.b;rw[Nat.add_comm n m] at h2;exact OM h1 h2
section
variable {w:uU}{as:List kO}{p:kO}{th:List D}{i:Nat}{t:A0}{a:kO}{e:D}
end
theorem wm{α:Type}(g:α->D)(pk:α->Option D):∀(L:List α),(∀a∈L,∃ρ1,tg B (g a)=.ok ρ1/\((pk a=none/\tt ρ1=.ok (.bl false))∨(∃d,pk a=some d/\tt ρ1=.ok (.bl true)/\fe ρ1=.ok d)))->bU B tg tt fe (L.map g)=.ok (L.filterMap pk)
 |[],_=>rfl
 |a::L,h=>by
  obtain⟨ρ1,h1,h2⟩:=h a UM;have ih:=wm g pk L λd hd=>h d (Uu _ hd);rw[UG];unfold bU;rw[h1,F3];rcases h2 with⟨e,h2⟩|⟨d,e,h2,h3⟩
  .rw[h2,F3]
   show bU B tg tt fe (L.map g)=_;rw[ih,List.filterMap_cons_none e]
  .rw[h2,F3]
   show(fe ρ1).bind _=_;rw[h3,F3,ih,F3,List.filterMap_cons_some e]
theorem comp_pick{α:Type}(g:α->D)(pk:α->Option D){L:List α}(hl:L.length<=1000000)(h:∀a∈L,∃ρ1,tg (c5 n fr' ρ) (g a)=.ok ρ1/\((pk a=none/\tt ρ1=.ok (.bl false))∨(∃d,pk a=some d/\tt ρ1=.ok (.bl true)/\fe ρ1=.ok d))):kG n fr' tg tt fe ρ (L.map g)=.ok (.lst (L.filterMap pk)):=by
 unfold kG;rw[if_pos (show(L.map g).length<=line from by rw[Ur];exact hl),wm g pk L h]
end K51
namespace Pth
open PySem L2 DL Com Bor K17
open K11 (fW ways pr iy)
structure Ga where
 n:Nat
 a:Str
 b:Str
noncomputable def lh(s:Ga):D:=.tup [.int (s.n:Int),.str s.a,.str s.b]
noncomputable def g7(ks:List Nat) (n:Nat) (t:A0):List Ga:=if n∈ks then[] else(ways t).map λp=>⟨n,p.1,p.2⟩
noncomputable def cU(ks:List Nat):Nat->List A0->List Ga
 |_,[]=>[]
 |n,t::ts=>g7 ks n t++cU ks (n+1) ts
noncomputable def c7(w:uU) (ks:List Nat):List Ga:=cU ks 0 w.ts
theorem Cs(t:A0):(ways t).length<=2:=by unfold ways;split<;>simp
theorem rg:(g7 ks n t).length<=2:=by
 unfold g7;split
 .simp
 .rw[Ur];exact Cs t
theorem wU:∀(n:Nat) (ts:List A0),(cU ks n ts).length<=2*ts.length
 |_,[]=>by simp [cU]
 |n,t::ts=>by
  have:=wU (ks:=ks) (n+1) ts;have:=rg (ks:=ks) (n:=n) (t:=t);rw[cU,U6,UI];omega
theorem lC:∀(n:Nat) (ts:List A0),s∈cU ks n ts↔∃t,n<=s.n/\ts[s.n-n]?=some t/\s.n∉ks/\(s.a,s.b)∈ways t
 |n,[]=>by simp [cU]
 |n,t::ts=>by
  rw[cU,Ve,lC (n+1) ts];constructor
  .rintro(h|⟨u,h1,h2,h3,h4⟩)
   .unfold g7 at h
    by_cases hk:n∈ks
    .rw[if_pos hk] at h;cases h
    .rw[if_neg hk] at h
     obtain⟨p,hp,rfl⟩:=UY.mp h;exact⟨t,UB _,by simp,hk,hp⟩
   .refine⟨u,by omega,?_,h3,h4⟩
    rw[show s.n-n=(s.n-(n+1))+1 by omega,U9];exact h2
  .rintro⟨u,h1,h2,h3,h4⟩
   by_cases hn:s.n=n
   .left
    rw[hn,Nat.sub_self,VC] at h2;cases h2;unfold g7;rw[if_neg (by rw[←hn];exact h3)];exact UY.mpr ⟨(s.a,s.b),h4,by rw[←hn]⟩
   .right
    refine⟨u,by omega,?_,h3,h4⟩;rw[show s.n-n=(s.n-(n+1))+1 by omega,U9] at h2;exact h2
theorem vC:s∈c7 w ks↔∃t,w.ts[s.n]?=some t/\s.n∉ks/\(s.a,s.b)∈ways t:=by
 unfold c7;rw[lC];simp
noncomputable abbrev TF:Ev->ai Fl:=(aC (fq 2 (ao (af (ae 3) (af (ae 5) (af (ae 6) aE))) cO))
 av)
noncomputable abbrev Qr:Ev->ai Fl:=(aC (fE (ag (ae 3) (ae 1) cY)
 (aC (u9 (ao (af (ae 4) aE) m_steps_along) (gr [5,6])
 TF)
 av)
 av)
 av)
noncomputable def Fb(w:uU) (ks:List Nat) (ss:List Ga) (x3 x4 x5 x6:Sl):Ev:=[.sh (bQ w),.sh (jH ks),.ow (.lst (ss.map lh)),x3,x4,x5,x6]
theorem De{n:Nat}:∀(ps:List (Str×Str)) (ss:List Ga) (x5 x6:Sl),ss.length+ps.length<=900->∃y5 y6,cp (gr [5,6]) TF (ps.map pr) (Fb w ks ss (.sh (.int (n:Int))) (.sh x4) x5 x6)=.ok (.nx (Fb w ks (ss++ps.map λp=>⟨n,p.1,p.2⟩) (.sh (.int (n:Int))) (.sh x4) y5 y6))
 |[],ss,x5,x6,_=>⟨x5,x6,by simp only[VP,UT];rfl⟩
 |p::ps,ss,x5,x6,h=>by
  rw[UI] at h;obtain⟨y5,y6,e⟩:=De (w:=w) (ks:=ks) (n:=n) (x4:=x4) ps (ss++[⟨n,p.1,p.2⟩]) (.sh (.str p.1)) (.sh (.str p.2)) (by rw[U6,Xg];omega);refine⟨y5,y6,?_⟩;have hap:decide ((ss.map lh).length<=999)=true:=decide_eq_true (by rw[Ur];omega);rw[UG,ib (ρ1:=Fb w ks ss (.sh (.int (n:Int))) (.sh x4) (.sh (.str p.1)) (.sh (.str p.2))) (ρ2:=Fb w ks (ss++[⟨n,p.1,p.2⟩]) (.sh (.int (n:Int))) (.sh x4) (.sh (.str p.1)) (.sh (.str p.2))) rfl]
  .rw[e,UG,Wd];rfl
  .unfold Fb
   have:(ss++[(⟨n,p.1,p.2⟩:Ga)]).map lh=ss.map lh++[.tup [.int (n:Int),.str p.1,.str p.2]]:=by rw[Vm];rfl
   simp only[this];open_line with[ic hap]
theorem zr(t14:w.ts.length<=14):∀(ts:List A0) (n:Nat) (ss:List Ga) (x3 x4 x5 x6:Sl),ss.length+2*ts.length<=100->∃y3 y4 y5 y6,cp (gr [3,4]) Qr (numbered n (ts.map bo)) (Fb w ks ss x3 x4 x5 x6)=.ok (.nx (Fb w ks (ss++cU ks n ts) y3 y4 y5 y6))
 |[],n,ss,x3,x4,x5,x6,_=>⟨x3,x4,x5,x6,by rw[cU,UT];rfl⟩
 |t::ts,n,ss,x3,x4,x5,x6,h=>by
  rw[UI] at h;have hni:=K11.notIn_nums (ks:=ks) (n:=n);have h2:=Cs t;have key:∃y5 y6,Qr (Fb w ks ss (.sh (.int (n:Int))) (.sh (bo t)) x5 x6)=.ok (.nx (Fb w ks (ss++g7 ks n t) (.sh (.int (n:Int))) (.sh (bo t)) y5 y6)):=by
   unfold g7
   by_cases hk:n∈ks
   .rw[if_pos hk,UT]
    rw[decide_eq_true hk] at hni;refine⟨x5,x6,?_⟩;unfold Fb jH;open_line with[hni]
   .rw[if_neg hk]
    rw[decide_eq_false hk] at hni;obtain⟨y5,y6,e⟩:=De (w:=w) (ks:=ks) (n:=n) (x4:=bo t) (ways t) ss x5 x6 (by omega);refine⟨y5,y6,?_⟩;unfold Fb jH at e ⊢;open_line with[hni,K11.steps_ok,e]
  obtain⟨y5,y6,e1⟩:=key;have hle:=rg (ks:=ks) (n:=n) (t:=t);obtain⟨z3,z4,z5,z6,e2⟩:=zr (ks:=ks) t14 ts (n+1) (ss++g7 ks n t) (.sh (.int (n:Int))) (.sh (bo t)) y5 y6 (by rw[U6];omega);refine⟨z3,z4,z5,z6,?_⟩;rw[UG,DL.numbered,ib (ρ1:=Fb w ks ss (.sh (.int (n:Int))) (.sh (bo t)) x5 x6) rfl e1,e2,cU,Wd]
theorem steps_ok(W:dw w):m_steps_left [bQ w,jH ks]=.ok (.lst ((c7 w ks).map lh)):=by
 have t14:=W.t14;obtain⟨y3,y4,y5,y6,e⟩:=zr (w:=w) (ks:=ks) t14 w.ts 0 [] .no .no .no .no (by simp;omega);rw[VG] at e;have hi:bf (bQ w) (.int 1)=.ok (.lst (w.ts.map bo)):=rfl;unfold Fb at e;simp only[VP] at e;open_line with[K51.m_steps_left,K51.b_steps_left,hi,e]
 rfl
open K11 (fW ways pr iy)
structure jO where
 p:Str
 z:Int
 y:List Nat
noncomputable def jk(e:jO):D:=.tup [.int e.z,.lst (fW e.y)]
noncomputable def fD(F:List jO):D:=.dic (F.map (·.p)) (F.map jk)
noncomputable def get(F:List jO) (k:Str):Option jO:=F.find? λe=>decide (e.p=k)
theorem l7{k:Str}:∀{F:List jO},qS (F.map (·.p)) (F.map jk) k=(get F k).map jk
 |[]=>rfl
 |e::F=>by
  rw[UG,UG,qS];unfold get
  by_cases h:e.p=k
  .rw[if_pos h,Yv (by exact decide_eq_true h)];rfl
  .rw[if_neg h,Yw (by simpa using h),l7];rfl
theorem fH{k:Str}(h:get F k=some e):e∈F/\e.p=k:=⟨List.mem_of_find?_eq_some h,by simpa using List.find?_some h⟩
theorem sI{k:Str}:get F k=none↔∀e∈F,e.p≠k:=by
 unfold get;rw[List.find?_eq_none];simp
theorem Of(nd:(F.map (·.p)).Nodup)(he:e∈F):get F e.p=some e:=by
 induction F with
 |nil=>cases he
 |cons d F ih =>
  rw[UG,VZ] at nd;unfold get;rcases Uv.mp he with rfl|he
  .rw[Yv (by simp)]
  .have:d.p≠e.p:=λz=>nd.1 (z▸UY.mpr ⟨e,he,rfl⟩)
   rw[Yw (by simpa using this)];exact ih nd.2 he
noncomputable def g6(zs:List Int) (n:Nat):Int:=(zs[n]?).getD 0
noncomputable def jZ(zs:List Int) (F:List jO) (c:Option jO) (s:Ga):Option jO:=match get F s.a,get F s.b with
 |some e,none=>match c with
  |none=>some ⟨s.b,e.z+g6 zs s.n,e.y++[s.n]⟩
  |some d=>if e.z+g6 zs s.n<d.z then some ⟨s.b,e.z+g6 zs s.n,e.y++[s.n]⟩ else c
 |_,_=>c
noncomputable def cD:Option jO->D
 |none=>.non
 |some e=>.tup [.str e.p,.int e.z,.lst (fW e.y)]
noncomputable abbrev nB:Ev->ai Fl :=
 (aC (fE (lW (ag (ae 5) (ae 2) AO) (ag (ae 6) (ae 2) jq))
 (aC (bO 7 (ag (ag (ag (ae 2) (ae 5) ie) (dC (.int 0)) bf) (ag (ae 1) (ae 4) bf) bV))
 (aC (fE (iF (ag (ae 3) (dC (.non)) iz) (ag (ae 7) (ag (ae 3) (dC (.int 1)) bf) Pf))
 (aC (bO 3 (ao (af (ae 6) (af (ae 7) (af (ag (ag (ag (ae 2) (ae 5) ie) (dC (.int 1)) bf) (ao (af (ae 4) aE) b5) bV) aE))) cO))
 av)
 av)
 av))
 av)
 av)
section
variable {S:D}{zs:List Int}{F:List jO}
theorem N3(hF:∀e∈F,e.y.length<=900)(hs:s.n<zs.length) :
  ∃y7,nB [.sh S,.sh (.lst (zs.map D.int)),.sh (fD F),.sh (cD c),.sh (.int (s.n:Int)),.sh (.str s.a),.sh (.str s.b),x7]=.ok (.nx [.sh S,.sh (.lst (zs.map D.int)),.sh (fD F),.sh (cD (jZ zs F c s)),.sh (.int (s.n:Int)),.sh (.str s.a),.sh (.str s.b),y7]):=by
 have g1:∀k,AO (.str k) (fD F)=.ok (.bl (get F k).isSome):=λk=>by
  show ai.ok (D.bl (qS (F.map (·.p)) (F.map jk) k).isSome)=_;rw[l7,V1]
 have g2:∀k,jq (.str k) (fD F)=.ok (.bl (!(get F k).isSome)):=λk=>by
  show ai.ok (D.bl (!(qS (F.map (·.p)) (F.map jk) k).isSome))=_;rw[l7,V1]
 have h1:=g1 s.a;have h2:=g2 s.b;unfold jZ;cases ea:get F s.a with
 |none =>
  rw[ea] at h1;simp only[Wy] at h1;refine⟨x7,?_⟩;open_line with[h1]
 |some e =>
  rw[ea] at h1;simp only[Wx] at h1;cases eb:get F s.b with
  |some e' =>
   rw[eb] at h2;simp only[Wx,Wt] at h2;refine⟨x7,?_⟩;open_line with[h1,h2]
  |none =>
   rw[eb] at h2;simp only[Wy,V5] at h2;have h3:ie (fD F) (.str s.a)=.ok (jk e):=by
    show(match qS (F.map (·.p)) (F.map jk) s.a with|some d=>ai.ok d|none=>.stuck)=_;rw[l7,ea];rfl
   have h4:bf (jk e) (.int 0)=.ok (.int e.z):=rfl;have h5:bf (jk e) (.int 1)=.ok (.lst (fW e.y)):=rfl;have h6:bf (.lst (zs.map D.int)) (.int (s.n:Int))=.ok (.int (g6 zs s.n)):=xT (by
    unfold g6;rw[UD,Uz hs];rfl)
   have h7:bV (.lst (fW e.y)) (.lst [.int (s.n:Int)])=.ok (.lst (fW (e.y++[s.n]))):=by
    rw[eJ (decide_eq_true (by
     have:=hF e (fH ea).1;unfold fW;simp;omega))]
    unfold fW;rw[Vm];rfl
   cases c with
   |none =>
    refine⟨.sh (.int (e.z+g6 zs s.n)),?_⟩;simp only[cD];open_line with[h1,h2,h3,h4,h5,h6,h7]
   |some d =>
    refine⟨.sh (.int (e.z+g6 zs s.n)),?_⟩;simp only
    by_cases hlt:e.z+g6 zs s.n<d.z
    .rw[if_pos hlt]
     simp only[cD];open_line with[h1,h2,h3,h4,h5,h6,h7,decide_eq_true hlt]
    .rw[if_neg hlt]
     simp only[cD];open_line with[h1,h2,h3,h4,h5,h6,h7,decide_eq_false hlt]
theorem HV(hF:∀e∈F,e.y.length<=900):∀(ss:List Ga) (c:Option jO) (x4 x5 x6 x7:Sl),(∀s∈ss,s.n<zs.length)->∃y4 y5 y6 y7,cp (gr [4,5,6]) nB (ss.map lh) [.sh S,.sh (.lst (zs.map D.int)),.sh (fD F),.sh (cD c),x4,x5,x6,x7]=.ok (.nx [.sh S,.sh (.lst (zs.map D.int)),.sh (fD F),.sh (cD (ss.foldl (jZ zs F) c)),y4,y5,y6,y7])
 |[],c,x4,x5,x6,x7,_=>⟨x4,x5,x6,x7,rfl⟩
 |s::ss,c,x4,x5,x6,x7,h=>by
  obtain⟨y7,e1⟩:=N3 (S:=S) hF (h s UM) (c:=c) (x7:=x7);obtain⟨z4,z5,z6,z7,e2⟩:=HV hF ss (jZ zs F c s) (.sh (.int (s.n:Int))) (.sh (.str s.a)) (.sh (.str s.b)) y7 λu hu=>h u (Uu _ hu);exact⟨z4,z5,z6,z7,by rw[UG,ib (ρ1:=[.sh S,.sh (.lst (zs.map D.int)),.sh (fD F),.sh (cD c),.sh (.int (s.n:Int)),.sh (.str s.a),.sh (.str s.b),x7]) rfl e1,e2,List.foldl_cons]⟩
end
noncomputable def Fo(ss:List Ga) (zs:List Int) (F:List jO):Option jO:=ss.foldl (jZ zs F) none
theorem K9(hF:∀e∈F,e.y.length<=900)(hs:∀s∈ss,s.n<zs.length):m_nearest_step [.lst (ss.map lh),.lst (zs.map D.int),fD F]=.ok (cD (Fo ss zs F)):=by
 obtain⟨y4,y5,y6,y7,e⟩:=HV (S:=.lst (ss.map lh)) hF ss none .no .no .no .no hs;have e:cp (gr [4,5,6]) nB (ss.map lh) [.sh (.lst (ss.map lh)),.sh (.lst (zs.map D.int)),.sh (fD F),.sh .non,.no,.no,.no,.no]=_:=e;open_line with[m_nearest_step,kK,e]
 rfl
noncomputable def u3(F:List jO) (s:Ga) (e:jO):Prop:=e∈F/\e.p=s.a/\∀d∈F,d.p≠s.b
theorem oS(nd:(F.map (·.p)).Nodup):∀(ss:List Ga) (c:Option jO),
  (∀d,ss.foldl (jZ zs F) c=some d->(c=some d∨∃s∈ss,∃e,u3 F s e/\d=⟨s.b,e.z+g6 zs s.n,e.y++[s.n]⟩)/\(∀d',c=some d'->d.z<=d'.z)/\∀s∈ss,∀e,u3 F s e->d.z<=e.z+g6 zs s.n) /\
  (ss.foldl (jZ zs F) c=none->c=none/\∀s∈ss,∀e,¬u3 F s e)
 |[],c=>⟨λd h=>⟨.inl h,λd' h'=>by rw[List.foldl_nil] at h;rw[h] at h';cases h';exact WN _,λs hs=>(nomatch hs)⟩,λh=>⟨h,λs hs=>(nomatch hs)⟩⟩
 |s::ss,c=>by
  obtain⟨i1,i2⟩:=oS (zs:=zs) nd ss (jZ zs F c s);rw[List.foldl_cons];have hc:∀e,u3 F s e->get F s.a=some e/\get F s.b=none:=λe ⟨h1,h2,h3⟩=>⟨by rw[←h2];exact Of nd h1,sI.mpr h3⟩
  have hst:(jZ zs F c s=c/\((∀e,¬u3 F s e)∨∃e d,u3 F s e/\c=some d/\d.z<=e.z+g6 zs s.n))∨∃e,u3 F s e/\jZ zs F c s=some ⟨s.b,e.z+g6 zs s.n,e.y++[s.n]⟩/\∀d,c=some d->e.z+g6 zs s.n<=d.z:=by
   unfold jZ;cases ea:get F s.a with
   |none=>exact .inl ⟨rfl,.inl λe h=>by rw[(hc e h).1] at ea;cases ea⟩
   |some e =>
    cases eb:get F s.b with
    |some e'=>exact .inl ⟨rfl,.inl λe h=>by rw[(hc e h).2] at eb;cases eb⟩
    |none =>
     have hC:u3 F s e:=⟨(fH ea).1,(fH ea).2,sI.mp eb⟩
     cases c with
     |none=>exact .inr ⟨e,hC,rfl,λd h=>by cases h⟩
     |some d =>
      simp only
      by_cases hlt:e.z+g6 zs s.n<d.z
      .rw[if_pos hlt]
       exact .inr ⟨e,hC,rfl,λd' h=>by cases h;omega⟩
      .rw[if_neg hlt]
       exact .inl ⟨rfl,.inr ⟨e,d,hC,rfl,by omega⟩⟩
  have one:∀e e',u3 F s e->u3 F s e'->e=e':=λe e' h h'=>by
   have h1:=(hc e h).1;rw[(hc e' h').1] at h1;cases h1;rfl
  refine⟨λd h=>?_,λh=>?_⟩
  .obtain⟨j1,j2,j3⟩:=i1 d h
   rcases hst with⟨e1,e2⟩|⟨e,hC,e1,e2⟩
   .rw[e1] at j1 j2
    refine⟨?_,j2,λs' hs' e' hC'=>?_⟩
    .rcases j1 with j1|⟨s',hs',j1⟩
     .exact .inl j1
     .exact .inr ⟨s',Uu _ hs',j1⟩
    .rcases Uv.mp hs' with rfl|hs'
     .rcases e2 with e2|⟨e,d0,hC,h1,h2⟩
      .exact absurd hC' (e2 e')
      .rw[one e' e hC' hC]
       have:=j2 d0 h1;omega
     .exact j3 s' hs' e' hC'
   .rw[e1] at j1 j2
    have k:=j2 _ rfl;refine⟨?_,λd' h'=>XH k (e2 d' h'),λs' hs' e' hC'=>?_⟩
    .rcases j1 with j1|⟨s',hs',j1⟩
     .cases j1
      exact .inr ⟨s,UM,e,hC,rfl⟩
     .exact .inr ⟨s',Uu _ hs',j1⟩
    .rcases Uv.mp hs' with rfl|hs'
     .rw[one e' e hC' hC];exact k
     .exact j3 s' hs' e' hC'
  .obtain⟨j1,j2⟩:=i2 h
   rcases hst with⟨e1,e2⟩|⟨e,hC,e1,e2⟩
   .rw[e1] at j1
    refine⟨j1,λs' hs' e' hC'=>?_⟩;rcases Uv.mp hs' with rfl|hs'
    .rcases e2 with e2|⟨e,d0,hC,h1,h2⟩
     .exact e2 e' hC'
     .rw[j1] at h1;cases h1
    .exact j2 s' hs' e' hC'
   .rw[e1] at j1;cases j1
open K11 (fW ways pr iy)
noncomputable def Ta(w:uU) (ks:List Nat) (n:Nat) (a b:Str):Prop:=∃t,w.ts[n]?=some t/\n∉ks/\(a,b)∈ways t
inductive Me (w:uU) (ks:List Nat) (a:Str):List Nat->Str->Prop where
 |nil:Me w ks a [] a
 |snoc {p:List Nat}{b c:Str}{n:Nat}:Me w ks a p b->Ta w ks n b c->Me w ks a (p++[n]) c
noncomputable def lJ(zs:List Int) (p:List Nat):Int:=(p.map (g6 zs)).sum
theorem Eo:lJ zs (p++[n])=lJ zs p+g6 zs n:=by
 unfold lJ;rw[Vm,List.sum_append];simp
theorem Kc(T:oa zs t)(h:(a,b)∈ways t):a∈zs/\b∈zs/\(a=t.a∨a=t.b)/\(b=t.a∨b=t.b):=by
 have ta:=T.a;have tb:=T.b;unfold ways at h;split at h
 .have:(a,b)=(t.a,t.b):=by simpa using h
  cases this;exact⟨ta,tb,.inl rfl,.inr rfl⟩
 .rcases Uv.mp h with e|h
  .cases e;exact⟨ta,tb,.inl rfl,.inr rfl⟩
  .have:(a,b)=(t.b,t.a):=by simpa using h
   cases this;exact⟨tb,ta,.inr rfl,.inl rfl⟩
structure vi (w:uU) (ks:List Nat) (zs:List Int) (F:List jO) (m:Int):Prop where
 nd:(F.map (·.p)).Nodup
 pl:∀e∈F,e.p∈w.ps
 fi:∃e∈F,e.p=w.fi/\e.z=0/\e.y=[]
 wy:∀e∈F,Me w ks w.fi e.y e.p/\e.z=lJ zs e.y/\e.y.Nodup/\e.y.length<F.length
 en:∀e∈F,∀n∈e.y,∀t,w.ts[n]?=some t->(∃d∈F,d.p=t.a)/\∃d∈F,d.p=t.b
 mo:∀e∈F,0<=e.z/\e.z<=m
 cl:∀s∈c7 w ks,∀e∈F,e.p=s.a->∀d∈F,d.p=s.b->d.z<=e.z+g6 zs s.n
 op:∀s∈c7 w ks,∀e,u3 F s e->m<=e.z+g6 zs s.n
theorem wM(h:∀z∈zs,0<=z)(n:Nat):0<=g6 zs n:=by
 unfold g6;cases e:zs[n]? with|none=>exact WN _|some z=>exact h z (UA e)
theorem vi.start(W:dw w)(hz:∀z∈zs,0<=z):vi w ks zs [⟨w.fi,0,[]⟩] 0:=by
 have one:∀{e:jO},e∈[(⟨w.fi,0,[]⟩:jO)]->e=⟨w.fi,0,[]⟩:=λh=>by simpa using h
 refine⟨by simp,λe he=>?_,⟨_,Vr.mpr rfl,rfl,rfl,rfl⟩,λe he=>?_,λe he n hn=>?_,λe he=>?_,λs hs e he ea d hd eb=>?_,λs hs e ⟨he,_⟩=>?_⟩
 .rw[one he];exact W.fi
 .rw[one he];exact⟨.nil,rfl,List.nodup_nil,by simp⟩
 .rw[one he] at hn;cases hn
 .rw[one he];exact⟨WN _,WN _⟩
 .rw[one he,one hd]
  have:=wM hz s.n;simp;exact this
 .rw[one he]
  have:=wM hz s.n;simp;exact this
theorem vi.step(W:dw w)(hz:∀z∈zs,0<=z)(R:vi w ks zs F m)(h:Fo (c7 w ks) zs F=some d):vi w ks zs (F++[d]) d.z/\∀e∈F,e.p≠d.p:=by
 obtain⟨j1,_,j3⟩:=(oS (zs:=zs) R.nd (c7 w ks) none).1 d h;rcases j1 with j1|⟨s,hs,e,hC,rfl⟩
 .cases j1
 obtain⟨hcm,hca,hcb⟩:=hC;obtain⟨t,ht1,ht2,ht3⟩:=vC.mp hs;have T:=W.ts t (UA ht1);obtain⟨wa,wb,wc,wd⟩:=Kc T ht3;have hm:m<=e.z+g6 zs s.n:=R.op s hs e ⟨hcm,hca,hcb⟩;have hnn:=wM hz;have mem:∀{x:jO},x∈F++[(⟨s.b,e.z+g6 zs s.n,e.y++[s.n]⟩:jO)]->x∈F∨x=⟨s.b,e.z+g6 zs s.n,e.y++[s.n]⟩:=λhx=>by
  rcases Ve.mp hx with hx|hx
  .exact .inl hx
  .exact .inr (by simpa using hx)
 have old:∀{x:jO},x∈F->x∈F++[(⟨s.b,e.z+g6 zs s.n,e.y++[s.n]⟩:jO)]:=λhx=>Xj _ hx;have new:(⟨s.b,e.z+g6 zs s.n,e.y++[s.n]⟩:jO)∈F++[(⟨s.b,e.z+g6 zs s.n,e.y++[s.n]⟩:jO)]:=Vi _ (Vr.mpr rfl);obtain⟨k1,k2,k3,k4⟩:=R.wy e hcm;refine⟨⟨?_,λx hx=>?_,?_,λx hx=>?_,λx hx n hn u hu=>?_,λx hx=>?_,λs' hs' x hx xa y hy yb=>?_,λs' hs' x ⟨hx,xa,xb⟩=>?_⟩,hcb⟩
 .rw[Vm]
  refine Wc.mpr ⟨R.nd,by simp,λa ha b hb=>?_⟩;obtain⟨x,hx,rfl⟩:=UY.mp ha;have:b=s.b:=by simpa using hb
  rw[this];exact hcb x hx
 .rcases mem hx with hx|rfl
  .exact R.pl x hx
  .exact wb
 .obtain⟨x,hx,h1⟩:=R.fi
  exact⟨x,old hx,h1⟩
 .rcases mem hx with hx|rfl
  .obtain⟨h1,h2,h3,h4⟩:=R.wy x hx
   exact⟨h1,h2,h3,by rw[U6];omega⟩
  .refine⟨.snoc k1 ⟨t,ht1,ht2,by rw[hca];exact ht3⟩,by rw[Eo,k2],?_,by simp;omega⟩
   refine Wc.mpr ⟨k3,by simp,λa ha b hb=>?_⟩;have hbn:b=s.n:=by simpa using hb
   subst hbn;intro z;subst z;obtain⟨⟨d1,hd1,e1⟩,d2,hd2,e2⟩:=R.en e hcm _ ha t ht1;rcases wd with z|z
   .exact hcb d1 hd1 (by rw[e1,z])
   .exact hcb d2 hd2 (by rw[e2,z])
 .rcases mem hx with hx|rfl
  .obtain⟨⟨d1,hd1,e1⟩,d2,hd2,e2⟩:=R.en x hx n hn u hu
   exact⟨⟨d1,old hd1,e1⟩,d2,old hd2,e2⟩
  .rcases Ve.mp hn with hn|hn
   .obtain⟨⟨d1,hd1,e1⟩,d2,hd2,e2⟩:=R.en e hcm n hn u hu
    exact⟨⟨d1,old hd1,e1⟩,d2,old hd2,e2⟩
   .have:n=s.n:=by simpa using hn
    subst this;rw[ht1] at hu;cases hu;have ne:=T.ne;unfold ways at ht3;have hab:(s.a=t.a/\s.b=t.b)∨(s.a=t.b/\s.b=t.a):=by
     split at ht3
     .have:(s.a,s.b)=(t.a,t.b):=by simpa using ht3
      injection this with z1 z2;exact .inl ⟨z1,z2⟩
     .rcases Uv.mp ht3 with z|z
      .injection z with z1 z2;exact .inl ⟨z1,z2⟩
      .have:(s.a,s.b)=(t.b,t.a):=by simpa using z
       injection this with z1 z2;exact .inr ⟨z1,z2⟩
    rcases hab with⟨z1,z2⟩|⟨z1,z2⟩
    .exact⟨⟨e,old hcm,by rw[hca,z1]⟩,_,new,z2⟩
    .exact⟨⟨_,new,z2⟩,e,old hcm,by rw[hca,z1]⟩
 .have he:=R.mo e hcm
  have:=hnn s.n;rcases mem hx with hx|rfl
  .have:=R.mo x hx
   exact⟨this.1,by show x.z<=e.z+g6 zs s.n;omega⟩
  .exact⟨by show 0<=e.z+g6 zs s.n;omega,WN _⟩
 .have n':=hnn s'.n
  rcases mem hx with hx|rfl
  .rcases mem hy with hy|rfl
   .exact R.cl s' hs' x hx xa y hy yb
   .exact j3 s' hs' x ⟨hx,xa,λd hd=>by rw[←yb];exact hcb d hd⟩
  .rcases mem hy with hy|rfl
   .have:=(R.mo y hy).2
    show y.z<=e.z+g6 zs s.n+g6 zs s'.n;omega
   .show e.z+g6 zs s.n<=e.z+g6 zs s.n+g6 zs s'.n
    omega
 .have n':=hnn s'.n
  rcases mem hx with hx|rfl
  .exact j3 s' hs' x ⟨hx,xa,λd hd=>xb d (old hd)⟩
  .show e.z+g6 zs s.n<=e.z+g6 zs s.n+g6 zs s'.n
   omega
noncomputable def Mf(w:uU) (ks:List Nat) (F:List jO):Prop:=∀s∈c7 w ks,∀e∈F,e.p=s.a->∃d∈F,d.p=s.b
theorem vi.len(W:dw w)(R:vi w ks zs F m):F.length<=7:=by
 have:=Cod.nodup_le R.nd (λz hz=>by
  obtain⟨e,he,rfl⟩:=UY.mp hz;exact R.pl e he)
 rw[Ur] at this;have:=W.n7;omega
theorem vi.shut(R:vi w ks zs F m)(h:Fo (c7 w ks) zs F=none):Mf w ks F:=λs hs e he ea=>by
 have hn:=((oS (zs:=zs) R.nd (c7 w ks) none).2 h).2 s hs e;cases hg:get F s.b with|none=>exact absurd ⟨he,ea,sI.mp hg⟩ hn|some d=>exact⟨d,(fH hg).1,(fH hg).2⟩
noncomputable abbrev rT:Ev->ai D:=ag (ae 5) (dC (.non)) pT
noncomputable abbrev rB:Ev->ai Fl :=
 (aC (vq 4 (ao (af (ag (ae 5) (dC (.int 1)) bf) (af (ag (ae 5) (dC (.int 2)) bf) aE)) cO) (ag (ae 5) (dC (.int 0)) bf))
 (aC (yZ 5 (ao (af (ae 3) (af (ae 2) (af (ae 4) aE))) m_nearest_step))
 av))
section
variable {ρ:Ev}{i:Nat}{f k:Ev->ai D}{ks:List Str}{ds:List D}{d:D}
theorem B3:y9 i f ρ=(f ρ).bind (HG i ρ):=aK rfl
theorem yh:HG i ρ (.dic ks ds)=.ok (.nx (ρ.set i (.ow (.dic ks ds)))):=aK rfl
noncomputable def Mv(i:Nat) (f k:Ev->ai D) (ρ:Ev) (s:Option Sl):ai Fl:=match s with
 |some (.ow (.dic ks ds))=>(f ρ).bind λd=>(k ρ).bind (ml i ρ ks ds d)
 |_=>.stuck
theorem B2:vq i f k ρ=Mv i f k ρ ρ[i]?:=aK rfl
noncomputable def Mu(i:Nat) (k:Ev->ai D) (ρ:Ev) (ks:List Str) (ds:List D) (d:D):ai Fl:=(k ρ).bind (ml i ρ ks ds d)
theorem yg:Mv i f k ρ (some (.ow (.dic ks ds)))=(f ρ).bind (Mu i k ρ ks ds):=aK rfl
theorem yf:Mu i k ρ ks ds d=(k ρ).bind (ml i ρ ks ds d):=aK rfl
theorem ye(h:decide (ks.length<=900)=true):ml i ρ ks ds d (.str x)=.ok (.nx (ρ.set i (.ow (zk ks ds x d)))):=if_pos (Vd (of_decide_eq_true h) (by decide))
theorem IY:yZ i f ρ=(f (eR ρ)).bind (CB i ρ):=aK rfl
theorem D2(h1:nd d=true)(h2:vA ρ=true):CB i ρ d=.ok (.nx (ρ.set i (.sh d))):=if_pos ⟨h1,h2⟩
theorem LA:Ea a b ρ=ag a b Jj ρ:=aK rfl
theorem IZ:Jj (.str x) d=.ok (.dic [x] [d]):=aK rfl
end
theorem zL:∀(p:List Nat),nds (fW p)=true
 |[]=>rfl
 |n::p=>by
  show(nd (.int (n:Int))&&nds (fW p))=true;rw[zL p];rfl
theorem QB(c:Option jO):nd (cD c)=true:=by
 cases c with
 |none=>rfl
 |some e =>
  show(nd (.str e.p)&&(nd (.int e.z)&&(nd (.lst (fW e.y))&&true)))=true;have:nd (.lst (fW e.y))=true:=by rw[nd];exact zL e.y
  rw[this];rfl
theorem KC(h:∀e∈F,e.p≠d.p):zk (F.map (·.p)) (F.map jk) d.p (jk d)=fD (F++[d]):=by
 unfold zk fD;rw[if_neg (λz=>by
  obtain⟨e,he,e1⟩:=UY.mp z;exact h e he e1),Vm,Vm]
 rfl
section
variable {w:uU}(W:dw w) {ks:List Nat}{zs:List Int}(hl:zs.length=w.ts.length) (hz:∀z∈zs,0<=z)
include W hl hz
theorem Hj(R:vi w ks zs F m):m_nearest_step [.lst ((c7 w ks).map lh),.lst (zs.map D.int),fD F]=.ok (cD (Fo (c7 w ks) zs F)) :=
 K9 (λe he=>by have:=(R.wy e he).2.2.2;have:=R.len W;omega) λs hs=>by
  obtain⟨t,ht,_⟩:=vC.mp hs;rw[hl];exact(Uw.mp ht).1
theorem ND:∀(f:Nat) (F:List jO) (m:Int),vi w ks zs F m->8<=F.length+f ->
  ∃G m',vi w ks zs G m'/\Mf w ks G/\cA rT rB f [.sh (bQ w),.sh (jH ks),.sh (.lst (zs.map D.int)),.sh (.lst ((c7 w ks).map lh)),.ow (fD F),.sh (cD (Fo (c7 w ks) zs F))]=.ok (.nx [.sh (bQ w),.sh (jH ks),.sh (.lst (zs.map D.int)),.sh (.lst ((c7 w ks).map lh)),.ow (fD G),.sh .non]):=by
 intro f
 induction f with
 |zero=>intro F m R h;have:=R.len W;omega
 |succ f ih =>
  intro F m R h;cases hn:Fo (c7 w ks) zs F with
  |none =>
   refine⟨F,m,R,R.shut hn,?_⟩;exact vj (by unfold fD;open_line with[cD])
  |some d =>
   obtain⟨R',hne⟩:=R.step W hz hn;obtain⟨G,m',h1,h2,h3⟩:=ih (F++[d]) d.z R' (by rw[U6,Xg];omega);refine⟨G,m',h1,h2,?_⟩;rw[←h3];refine yO (by unfold fD;open_line with[cD]) ?_;have hr:=Hj W hl hz R';have hp:=KC hne;have h9:decide ((F.map (·.p)).length<=900)=true:=decide_eq_true (by rw[Ur];have:=R.len W;omega);have q1:bf (cD (some d)) (.int 1)=.ok (.int d.z):=rfl;have q2:bf (cD (some d)) (.int 2)=.ok (.lst (fW d.y)):=rfl;have q0:bf (cD (some d)) (.int 0)=.ok (.str d.p):=rfl;have he:D.tup [.int d.z,.lst (fW d.y)]=jk d:=rfl;have hoD:∀c,vA [.sh (bQ w),.sh (jH ks),.sh (.lst (zs.map D.int)),.sh (.lst ((c7 w ks).map lh)),.ow (fD (F++[d])),.sh c]=true:=λ_=>rfl;show rB [.sh (bQ w),.sh (jH ks),.sh (.lst (zs.map D.int)),.sh (.lst ((c7 w ks).map lh)),.ow (.dic (F.map (·.p)) (F.map jk)),.sh (cD (some d))]=_;open_line with[B2,yg,yf,ye h9,q0,q1,q2,he,hp,IY,hr,D2 (QB _) (hoD _)]
theorem Bn:∃F m,vi w ks zs F m/\Mf w ks F/\m_all_reached [bQ w,jH ks,.lst (zs.map D.int)]=.ok (fD F):=by
 have R0:=vi.start W (ks:=ks) hz;obtain⟨G,m',h1,h2,h3⟩:=ND W hl hz (ks:=ks) 8 [⟨w.fi,0,[]⟩] 0 R0 (by simp);refine⟨G,m',h1,h2,?_⟩;have hs:=steps_ok W (ks:=ks);have hn:=Hj W hl hz R0;have i2:bf (bQ w) (.int 2)=.ok (.str w.fi):=rfl;have hf:fD [⟨w.fi,0,[]⟩]=.dic [w.fi] [.tup [.int 0,.lst []]]:=rfl;rw[hf] at hn h3;have hoD:vA [.sh (bQ w),.sh (jH ks),.sh (.lst (zs.map D.int)),.sh (.lst ((c7 w ks).map lh)),.ow (.dic [w.fi] [.tup [.int 0,.lst []]]),.no]=true:=rfl;have hw:∀(c:Ev->ai D) (s:Ev->ai Fl) (ρ:Ev),i7 (λ_=>8) c s ρ=cA c s 8 ρ:=λ_ _ _=>rfl;unfold fD at h3 ⊢;open_line with[m_all_reached,lH,hs,i2,B3,LA,IZ,yh,IY,hn,D2 (QB _) hoD,hw,h3]
end
open K11 (fW ways pr iy)
noncomputable def lB(w:uU):Int:=L5 (w.ts.map (·.l))
noncomputable def lz(w:uU):List Int:=w.ts.map λt=>t.l.1*(lB w / t.l.2)
theorem Bi(xs:List kO):gG (xs.map some)=xs:=by
 unfold gG;rw[List.filterMap_map];simp
section
variable {w:uU}(W:dw w)
include W
theorem C5:0<lB w/\(lB w).natAbs<=2 ^ 2800/\∀t∈w.ts,t.l.2∣lB w:=by
 have h:=Jt (xs:=w.ts.map (·.l)) (λx hx=>by
  obtain⟨t,ht,rfl⟩:=UY.mp hx;exact(W.ts t ht).l) 1 0 ⟨by decide,by decide⟩
 obtain⟨⟨h1,h2⟩,_,h3⟩:=h;refine⟨h1,?_,λt ht=>h3 _ (UY.mpr ⟨t,ht,rfl⟩)⟩;refine UO h2 (Vn (by decide) ?_);rw[Ur];have:=W.t14;omega
theorem N5:(lz w).length=w.ts.length:=by unfold lz;rw[Ur]
theorem MB:∀z∈lz w,0<=z:=λz hz=>by
 obtain⟨t,ht,rfl⟩:=UY.mp hz;have T:=W.ts t ht;have:=T.l.q1;exact Int.mul_nonneg T.l0 (Xe (by have:=(C5 W).1;omega) (by omega))
theorem QF(n:Nat):(g6 (lz w) n).natAbs<2 ^ 3000:=by
 unfold g6 lz;rw[UD];cases e:w.ts[n]? with
 |none=>show(0:Int).natAbs<_;exact YL (by decide)
 |some t =>
  have T:=W.ts t (UA e);show(t.l.1*(lB w / t.l.2)).natAbs<_;rw[X8,show(3000:Nat)=200+2800 from rfl,XW];have h1:t.l.1.natAbs<2 ^ 200:=Uy T.l.pN (by decide);have h2:(lB w / t.l.2).natAbs<=2 ^ 2800:=UO (VI _ _) (C5 W).2.1;exact Uy (Nat.mul_lt_mul_of_lt_of_le h1 h2 (YL (by decide))) (UB _)
theorem E8:m_scaled_lengths [bQ w]=.ok (.tup [.lst ((lz w).map D.int),.int (lB w)]):=by
 have t14:=W.t14;have hi:bf (bQ w) (.int 1)=.ok (.lst (w.ts.map bo)):=rfl;have hc:∀A,kG 1 [] (cz 0) mYes (ag (ae 0) (dC (.int 3)) bf) A (w.ts.map bo)=.ok (.lst (((w.ts.map (·.l)).map some).map bK)):=λA=>by
  rw[K51.comp_pick bo (λt=>some (bK (some t.l))) (by omega)]
  .rw[V2,V2,←List.filterMap_eq_map];rfl
  .intro t ht
   have:bf (bo t) (.int 3)=.ok (bK (some t.l)):=rfl;refine⟨[.sh (bo t)],rfl,.inr ⟨_,rfl,rfl,?_⟩⟩;open_line with[this]
 have hs:=G2 (os:=(w.ts.map (·.l)).map some) (by rw[Ur,Ur];omega) (λx hx=>by
  obtain⟨y,hy,e⟩:=UY.mp hx;cases e;obtain⟨t,ht,rfl⟩:=UY.mp hy;exact(W.ts t ht).l)
 rw[Bi] at hs;open_line with[m_scaled_lengths,iT,hi,hc,hs]
 show ai.ok (D.tup [.lst _,.int (lB w)])=_;unfold lz;rw[V2,V2,V2];rfl
theorem JU(hp:p.length<=7):(lJ (lz w) p).natAbs<2 ^ 3003:=by
 have key:∀(p:List Nat),(lJ (lz w) p).natAbs<=p.length*2 ^ 3000:=by
  intro p
  induction p with
  |nil=>show(0:Int).natAbs<=_;simp
  |cons n p ih =>
   have:lJ (lz w) (n::p)=g6 (lz w) n+lJ (lz w) p:=by unfold lJ;rw[UG,Xs]
   rw[this,UI,Nat.add_mul,Nat.one_mul];have h1:=Int.natAbs_add_le (g6 (lz w) n) (lJ (lz w) p);have h2:=QF W n;omega
 have h:=key p;have h8:p.length*2 ^ 3000<=7*2 ^ 3000:=Nat.mul_le_mul_right _ hp;have h9:7*2 ^ 3000<2 ^ 3003:=by
  rw[show(3003:Nat)=3+3000 from rfl,XW];exact Nat.mul_lt_mul_of_pos_right (by decide) (YL (by decide))
 omega
end
open K11 (fW ways pr iy)
noncomputable def pf(w:uU) (F:List jO) (p:Str):Option kO:=(get F p).map λe=>u4 e.z (lB w)
noncomputable def RN(w:uU) (F:List jO):D:=.dic w.ps (w.ps.map λp=>bK (pf w F p))
noncomputable def Bw(w:uU) (F:List jO):D:=match get F w.la with
 |none=>.tup [.non,.non,RN w F]
 |some e=>.tup [.lst (fW e.y),fr (u4 e.z (lB w)),RN w F]
theorem Jy{k:Str}:∀{ps:List Str},qS ps (ps.map g) k=if k∈ps then some (g k) else none
 |[]=>rfl
 |p::ps=>by
  rw[UG,qS]
  by_cases h:p=k
  .subst h;simp
  .rw[if_neg h,Jy]
   have:k≠p:=λz=>h z.symm;simp [this]
theorem NK(h:p∈w.ps):ie (RN w F) (.str p)=.ok (bK (pf w F p)):=by
 show(match qS w.ps (w.ps.map λp=>bK (pf w F p)) p with|some d=>ai.ok d|none=>.stuck)=_;rw[Jy,if_pos h]
theorem SJ(k:Str):AO (.str k) (fD F)=.ok (.bl (get F k).isSome):=by
 show ai.ok (D.bl (qS (F.map (·.p)) (F.map jk) k).isSome)=_;rw[l7,V1]
theorem Lv(k:Str):jq (.str k) (fD F)=.ok (.bl (!(get F k).isSome)):=by
 show ai.ok (D.bl (!(qS (F.map (·.p)) (F.map jk) k).isSome))=_;rw[l7,V1]
theorem MG{k:Str}(h:get F k=some e):ie (fD F) (.str k)=.ok (jk e):=by
 show(match qS (F.map (·.p)) (F.map jk) k with|some d=>ai.ok d|none=>.stuck)=_;rw[l7,h];rfl
noncomputable abbrev pB:Ev->ai Fl :=
 (aC (vq 4 (MW (ag (ae 5) (ae 3) AO) (ao (af (ag (ag (ae 3) (ae 5) ie) (dC (.int 0)) bf) (af (ag (ae 2) (dC (.int 1)) bf) aE)) K17.m_ratio) (dC (.non))) (ae 5))
 av)
section
variable {w:uU}(W:dw w) {ks:List Nat}{F:List jO}{m:Int}(R:vi w ks (lz w) F m)
include W R
theorem Ol(he:e∈F):e.z.natAbs<2 ^ 3003:=by
 obtain⟨_,h2,_,h4⟩:=R.wy e he;have:=R.len W;rw[h2];exact JU W (by omega)
theorem Hv(h:get F p=some e):K17.m_ratio [.int e.z,.int (lB w)]=.ok (fr (u4 e.z (lB w))):=by
 have b13:∀n,n<=6000->2 ^ n<=qV:=λn hn=>by rw[pw];exact Vn (by decide) (UO hn (by decide))
 obtain⟨h1,h2,_⟩:=C5 W;refine ze h1 (Uy (Ol W R (fH h).1) (b13 3003 (by decide))) (Vd h2 (Uy (YM (by decide) (show 2800<2801 by decide)) (b13 2801 (by decide))))
theorem HF{A:D}:∀(rest done:List Str) (x5:Sl),(done++rest).Nodup->(done++rest).length<=7->∃y5,cp (cz 5) pB (rest.map D.str) [.sh (bQ w),.sh A,.sh (.tup [.lst ((lz w).map D.int),.int (lB w)]),.sh (fD F),.ow (.dic done (done.map λp=>bK (pf w F p))),x5] =
  .ok (.nx [.sh (bQ w),.sh A,.sh (.tup [.lst ((lz w).map D.int),.int (lB w)]),.sh (fD F),.ow (.dic (done++rest) ((done++rest).map λp=>bK (pf w F p))),y5])
 |[],done,x5,_,_=>⟨x5,by rw[UT];rfl⟩
 |p::rest,done,x5,nd,hl=>by
  have e0:done++p::rest=(done++[p])++rest:=by rw[Wd];rfl
  rw[e0] at nd hl ⊢;obtain⟨y5,e⟩:=HF (A:=A) rest (done++[p]) (.sh (.str p)) nd hl;refine⟨y5,?_⟩;have hp:p∉done:=λz=>by
   have:=(Wc.mp nd).1;have:=(Wc.mp this).2.2 p z p (Vr.mpr rfl);exact this rfl
  rw[UG,ib (ρ1:=[.sh (bQ w),.sh A,.sh (.tup [.lst ((lz w).map D.int),.int (lB w)]),.sh (fD F),.ow (.dic done (done.map λp=>bK (pf w F p))),.sh (.str p)]) (ρ2:=[.sh (bQ w),.sh A,.sh (.tup [.lst ((lz w).map D.int),.int (lB w)]),.sh (fD F),.ow (.dic (done++[p]) ((done++[p]).map λp=>bK (pf w F p))),.sh (.str p)]) rfl,e];have h9:decide (done.length<=900)=true:=decide_eq_true (by rw[U6,U6] at hl;omega);have hput:∀d,zk done (done.map λp=>bK (pf w F p)) p d=.dic (done++[p]) ((done.map λp=>bK (pf w F p))++[d]):=λd=>by unfold zk;rw[if_neg hp]
  have hin:=SJ (F:=F) p;have hw0:bK none=.non:=rfl;have hw1:∀x,bK (some x)=fr x:=λ_=>rfl;have hv:(done++[p]).map (λp=>bK (pf w F p))=(done.map λp=>bK (pf w F p))++[bK (pf w F p)]:=by rw[Vm];rfl
  rw[hv];cases hg:get F p with
  |none =>
   rw[hg] at hin;simp only[Wy] at hin;have hpf:pf w F p=none:=by unfold pf;rw[hg];rfl
   rw[hpf];open_line with[B2,yg,yf,ye h9,hin,hput,hw0]
  |some e' =>
   rw[hg] at hin;simp only[Wx] at hin;have hpf:pf w F p=some (u4 e'.z (lB w)):=by unfold pf;rw[hg];rfl
   rw[hpf];have h4:bf (jk e') (.int 0)=.ok (.int e'.z):=rfl;open_line with[B2,yg,yf,ye h9,hin,hput,MG hg,h4,Hv W R hg,hw1]
end
theorem shortest_ok(W:dw w):∃F m,vi w ks (lz w) F m/\Mf w ks F/\m_shortest [bQ w,jH ks]=.ok (Bw w F):=by
 obtain⟨F,m,R,S,hr⟩:=Bn W (ks:=ks) (N5 W) (MB W);refine⟨F,m,R,S,?_⟩;have hs:=E8 W;obtain⟨y5,hl⟩:=HF W R (A:=jH ks) w.ps [] .no (by rw[VG];exact W.nm.nd) (by rw[VG];exact W.n7);rw[VG,VP] at hl;have i0:bf (bQ w) (.int 0)=.ok (.lst (w.ps.map D.str)):=rfl;have i3:bf (bQ w) (.int 3)=.ok (.str w.la):=rfl;have hni:=Lv (F:=F) w.la;have hpr:=NK (w:=w) (F:=F) W.la;unfold Bw;cases hg:get F w.la with
 |none =>
  rw[hg] at hni;simp only[Wy,V5] at hni;open_line with[m_shortest,lZ,hs,hr,B3,yh,i0,hl,i3,hni]
  rfl
 |some e =>
  rw[hg] at hni;simp only[Wx,Wt] at hni;have h5:bf (jk e) (.int 1)=.ok (.lst (fW e.y)):=rfl;have hpf:pf w F w.la=some (u4 e.z (lB w)):=by unfold pf;rw[hg];rfl
  rw[hpf] at hpr;unfold RN at hpr ⊢;open_line with[m_shortest,lZ,hs,hr,B3,yh,i0,hl,i3,hni,MG hg,h5,hpr]
  rfl
open K11 (fW ways pr iy)
open K51 (Bd pl)
open K11 (fW ways pr iy)
open K51 (Bd pl)
section
variable {w:uU}(W:dw w)
include W
variable {ks:List Nat}{F:List jO}{m:Int}(R:vi w ks (lz w) F m)
include R
end
end Pth
namespace Vlu
open PySem L2 DL Com Bor Pth
open K11 (fW ways pr iy)
open K51 (Bd pl)
noncomputable abbrev m_ratio:List D->ai D:=Com.m_ratio
noncomputable def Ee:Ev->ai Fl :=
 (aC (ck (ao (af (ag (ag (ag (ae 0) (dC (.int 0)) bf) (ag (ae 1) (dC (.int 1)) bf) cL) (ag (ag (ae 1) (dC (.int 0)) bf) (ag (ae 0) (dC (.int 1)) bf) cL) kE) (af (ag (ag (ae 0) (dC (.int 1)) bf) (ag (ae 1) (dC (.int 1)) bf) cL) aE)) m_ratio))
 av)
noncomputable def m_minus:List D->ai D:=cm 2 Ee
noncomputable def jB:Ev->ai Fl :=
 (aC (fE (ag (ae 0) (dC (.non)) iz)
 (aC (ck (dC (.str "none")))
 av)
 av)
 (aC (fE (ag (ae 1) (dC (.non)) iz)
 (aC (ck (dC (.str "cut")))
 av)
 av)
 (aC (ck (ao (af (ae 1) (af (ae 0) aE)) m_minus))
 av)))
noncomputable def m_value_by:List D->ai D:=cm 2 jB
theorem MZ:∀{xs:List kO},(∀x∈xs,1<=x.2/\x.2<=60)->∀b:Int,0<b->0<xs.foldl fM b/\xs.foldl fM b<=b*60 ^ xs.length
 |[],_,b,hb=>⟨hb,by simp⟩
 |x::xs,hx,b,hb=>by
  obtain⟨q1,q2⟩:=hx x UM;have hg:0<(UX b x.2:Int):=sL (by omega);have hd:(UX b x.2:Int)∣b:=W9 ..;have hq:0<b / (UX b x.2:Int):=WX hb (by omega) hd;have hle:b / (UX b x.2:Int)<=b:=Int.ediv_le_self _ (by omega);have h1:0<fM b x:=YO hq (by omega);have h2:fM b x<=b*60:=Int.mul_le_mul hle q2 (by omega) (by omega);obtain⟨k1,k2⟩:=MZ (λy hy=>hx y (Uu _ hy)) (fM b x) h1;refine⟨k1,XH k2 ?_⟩;rw[UI,Int.pow_succ,Yy ((60:Int) ^ xs.length) 60,←Int.mul_assoc];exact XQ h2 (Int.le_of_lt (Int.pow_pos (by decide)))
section
variable {w:uU}(W:dw w) (hw:∀t∈w.ts,jE t)
include W hw
theorem QJ:0<lB w/\lB w<=60 ^ 14:=by
 obtain⟨h1,h2⟩:=MZ (xs:=w.ts.map (·.l)) (λx hx=>by
  obtain⟨t,ht,rfl⟩:=UY.mp hx;exact⟨(W.ts t ht).l.q1,(hw t ht).1.q1⟩) 1 (by decide)
 refine⟨h1,XH h2 ?_⟩;rw[Ur,Int.one_mul];have:=W.t14
 exact_mod_cast Vn (n:=60) (by decide) this
theorem Sw(n:Nat):0<=g6 (lz w) n/\g6 (lz w) n<=1000000000000*60 ^ 14:=by
 refine⟨wM (MB W) n,?_⟩;unfold g6 lz;rw[UD];cases e:w.ts[n]? with
 |none=>show(0:Int)<=_;decide
 |some t =>
  have T:=W.ts t (UA e);have A:=(hw t (UA e)).1;have hB:=QJ W hw;show t.l.1*(lB w / t.l.2)<=_;have h2:lB w / t.l.2<=60 ^ 14:=XH (Int.ediv_le_self _ (by omega)) hB.2;exact Int.mul_le_mul A.p1 h2 (Xe (by omega) (by have:=T.l.q1;omega)) (by decide)
theorem Gk:∀(p:List Nat),0<=lJ (lz w) p/\lJ (lz w) p<=p.length*(1000000000000*60 ^ 14)
 |[]=>⟨WN _,by show(0:Int)<=_;simp⟩
 |n::p=>by
  have e:lJ (lz w) (n::p)=g6 (lz w) n+lJ (lz w) p:=by unfold lJ;rw[UG,Xs]
  have h1:=Sw W hw n;have h2:=Gk p;rw[e,UI];refine⟨by omega,?_⟩
  push_cast
  rw[Int.add_mul,Int.one_mul];omega
variable {ks:List Nat}{F:List jO}{m:Int}(R:vi w ks (lz w) F m)
include R
theorem MH(he:e∈F):e.z.natAbs<2 ^ 130/\(lB w).natAbs<2 ^ 130:=by
 obtain⟨_,h2,_,h4⟩:=R.wy e he;have hl:=R.len W;have hB:=QJ W hw;obtain⟨z0,z1⟩:=Gk W hw e.y;rw[←h2] at z0 z1;have h7:(e.y.length:Int)*(1000000000000*60 ^ 14)<=7*(1000000000000*60 ^ 14):=XQ (by omega) (by decide);have c1:(7:Int)*(1000000000000*60 ^ 14)<2 ^ 130:=by decide
 have c2:(60:Int) ^ 14<2 ^ 130:=by decide
 constructor
 .have:e.z<2 ^ 130:=by omega
  omega
 .have:lB w<2 ^ 130:=by omega
  omega
theorem vZ(he:e∈F):Bd (u4 e.z (lB w)) 130 :=
 K51.low_bd (C5 W).1 (MH W hw R he).1 (MH W hw R he).2
end
noncomputable def mi(x y:kO):kO:=u4 (x.1*y.2-y.1*x.2) (x.2*y.2)
theorem HW(hx:Bd x m)(hy:Bd y n)(h:m+n<=5900):m_minus [fr x,fr y]=.ok (fr (mi x y)):=by
 have b1:=hx.c60 (by omega);have b2:=hy.c60 (by omega);have hy':Bd (-y.1,y.2) n:=⟨hy.q0,by show(-y.1).natAbs<_;rw[Int.natAbs_neg];exact hy.a,hy.b⟩
 have hp:=K51.un_bd hx hy';have hc:=hp.c13 (by omega);have m1:=dU (oU b1.1 b2.2);have m2:=dU (oU b2.1 b1.2);have m3:=dU (oU b1.2 b2.2);have e:x.1*y.2 + -y.1*x.2=x.1*y.2-y.1*x.2:=by rw[Int.neg_mul];omega
 have hlo:m_ratio [.int (x.1*y.2-y.1*x.2),.int (x.2*y.2)]=.ok (fr (mi x y)):=by
  have h1:=hc.1;have h2:=hc.2;unfold un at h1 h2;simp only[e] at h1;exact ze hp.q0 h1 h2
 have i0:∀z:kO,bf (fr z) (.int 0)=.ok (.int z.1):=λ_=>rfl;have i1:∀z:kO,bf (fr z) (.int 1)=.ok (.int z.2):=λ_=>rfl;open_line with[m_minus,Ee,i0,i1,m1,m2,m3,kE,hlo]
noncomputable def oN(w:uU) (F:List jO):D:=match get F w.la with
 |none=>.non
 |some e=>fr (u4 e.z (lB w))
noncomputable def Kg(w:uU) (F F':List jO):D:=match get F w.la,get F' w.la with
 |none,_=>.str "none"
 |some _,none=>.str "cut"
 |some e,some e'=>fr (mi (u4 e'.z (lB w)) (u4 e.z (lB w)))
theorem out_1:bf (Bw w F) (.int 1)=.ok (oN w F):=by
 unfold Bw oN;cases get F w.la<;>rfl
theorem Ij:iz (fr x) .non=.ok (.bl false):=rfl
theorem value_by_ok(W:dw w)(hw:∀t∈w.ts,jE t)(R:vi w ks (lz w) F m)(R':vi w ks' (lz w) F' m'):m_value_by [oN w F,oN w F']=.ok (Kg w F F'):=by
 unfold oN Kg;cases h:get F w.la with
 |none=>open_line with[m_value_by,jB]
 |some e =>
  cases h':get F' w.la with
  |none=>open_line with[m_value_by,jB,Ij]
  |some e' =>
   have:=HW (vZ W hw R' (fH h').1) (vZ W hw R (fH h).1) (by decide);open_line with[m_value_by,jB,Ij,this]
end Vlu
namespace K21
open PySem L2 DL
noncomputable def gK:List (Str×Bool):=[("NoTie",true),("NoWeb",true)]
noncomputable def qD:List (Str×Bool):=[("NoTie",false),("NoWeb",true)]
noncomputable def Cy:Str->Option Bool:=lq [("NoTie",true),("NoWeb",true)]
noncomputable def Cw:Str->Option Bool:=lq [("NoTie",true),("NoWeb",false)]
noncomputable def Cv:Str->Option Bool:=lq [("NoTie",false),("NoWeb",true)]
noncomputable def Cu:Str->Option Bool:=lq [("NoTie",false),("NoWeb",false)]
noncomputable def iM:Str->Option Bool:=lq [("NoWeb",true)]
noncomputable def mK:Str->Option Bool:=lq [("NoWeb",true)]
noncomputable abbrev b9:List D->ai D:=Bor.b9
noncomputable abbrev aG:Addr->List D->List D->ai (D×List D):=Bor.aG
noncomputable abbrev dM:Addr->List D->List D->ai (D×List D):=Bor.dM
noncomputable abbrev dA:List D->ai D:=Cod.dA
noncomputable abbrev cN:Addr->List D->List D->ai (D×List D):=Bor.cN
noncomputable abbrev cM:Addr->List D->List D->ai (D×List D):=Bor.cM
noncomputable abbrev c8:Addr->List D->List D->ai (D×List D):=Bor.c8
noncomputable abbrev bb:Addr->List D->List D->ai (D×List D):=Nwb.bb
noncomputable abbrev bq:Addr->List D->List D->ai (D×List D):=Nwb.bq
noncomputable abbrev m_is_name:List D->ai D:=Com.m_is_name
noncomputable abbrev m_look_at_places:List D->ai D:=Nwb.m_look_at_places
noncomputable abbrev m_is_whole:List D->ai D:=Com.m_is_whole
noncomputable abbrev m_common_divisor:List D->ai D:=Com.m_common_divisor
noncomputable abbrev m_is_ratio:List D->ai D:=Com.m_is_ratio
noncomputable abbrev m_is_length:List D->ai D:=Com.m_is_length
noncomputable abbrev m_is_worth:List D->ai D:=Com.m_is_worth
noncomputable abbrev m_is_tie:List D->ai D:=Com.m_is_tie
noncomputable abbrev m_look_at_ties:List D->ai D:=Nwb.m_look_at_ties
noncomputable abbrev m_is_place:List D->ai D:=Com.m_is_place
noncomputable abbrev m_look_at_web:List D->ai D:=Nwb.m_look_at_web
noncomputable abbrev m_shared_bottom:List D->ai D:=Com.m_shared_bottom
noncomputable abbrev m_as_whole:List D->ai D:=Com.m_as_whole
noncomputable abbrev m_on_one_scale:List D->ai D:=Com.m_on_one_scale
noncomputable abbrev m_scaled_lengths:List D->ai D:=K17.m_scaled_lengths
noncomputable abbrev m_steps_along:List D->ai D:=K11.m_steps_along
noncomputable abbrev m_steps_left:List D->ai D:=K51.m_steps_left
noncomputable abbrev m_nearest_step:List D->ai D:=K17.m_nearest_step
noncomputable abbrev m_all_reached:List D->ai D:=K17.m_all_reached
noncomputable abbrev m_ratio:List D->ai D:=Com.m_ratio
noncomputable abbrev m_shortest:List D->ai D:=K17.m_shortest
noncomputable abbrev m_minus:List D->ai D:=Vlu.m_minus
noncomputable abbrev m_value_by:List D->ai D:=Vlu.m_value_by
noncomputable def n8:Ev->ai Fl :=
 (aC (lu (ao (af (ae 0) aE) m_look_at_web))
 (aC (bO 1 (ag (ao (af (ae 0) (af (ao aE b5) aE)) m_shortest) (dC (.int 1)) bf))
 (aC (mh 2 (ao aE b5))
 (aC (za (ao (af (ag (ae 0) (dC (.int 1)) bf) aE) (m1 fj)) (cz 3)
 (aC (bO 4 (ao (af (ae 0) (af (ao (af (ae 3) aE) b5) aE)) m_shortest))
 (aC (fq 2 (ao (af (ao (af (ae 1) (af (ag (ae 4) (dC (.int 1)) bf) aE)) m_value_by) (af (ag (ae 4) (dC (.int 0)) bf) aE)) cO))
 av)))
 (aC (ck (ae 2))
 av)))))
noncomputable def eG:List D->ai D:=cm 5 n8
noncomputable abbrev m_is_less:List D->ai D:=Com.m_is_less
noncomputable def F6:Ev->ai Fl :=
 (aC (bO 1 (ag (ae 0) (dC (.int 0)) bf))
 (aC (u9 (ae 0) (cz 2)
 (aC (fE (ao (af (ae 1) (af (ae 2) aE)) m_is_less)
 (aC (bO 1 (ae 2))
 av)
 av)
 av))
 (aC (ck (ae 1))
 av)))
noncomputable def vD:List D->ai D:=cm 3 F6
noncomputable def lG:Ev->ai Fl :=
 (aC (bO 1 (eA 1 [] (qe (ao (af (ae 0) aE) eG)) (cz 0) mYes (ag (ae 0) (dC (.int 0)) bf)))
 (aC (fE (iF (ag (ae 1) (ao aE b5) kF) (ag (dC (.str "none")) (ae 1) D9))
 (aC (ck (ao aE b5))
 av)
 av)
 (aC (bO 2 (MW (ag (dC (.str "cut")) (ae 1) D9) (dC (.str "cut")) (ao (af (ae 1) aE) vD)))
 (aC (ck (eA 2 [2] (wV (ae 1)) (gr [0,1]) (ag (ae 1) (ae 2) kF) (ae 0)))
 av))))
noncomputable def fw:List D->ai D:=cm 3 lG
noncomputable abbrev m_is_tie_number:List D->ai D:=Com.m_is_tie_number
noncomputable def jA:Ev->ai Fl :=
 (aC (lu (ao (af (ae 0) aE) m_look_at_web))
 (aC (fE (cZ (ao (af (ae 0) (af (ae 1) aE)) m_is_tie_number))
 (aC (wY "NoTie" (af (dC (.str "no tie of the web has this number")) aE))
 av)
 av)
 (aC (ck (ao (af (ag (ao (af (ae 0) (af (ao aE b5) aE)) m_shortest) (dC (.int 1)) bf) (af (ag (ao (af (ae 0) (af (ao (af (ae 1) aE) b5) aE)) m_shortest) (dC (.int 1)) bf) aE)) m_value_by))
 av)))
noncomputable def dz:List D->ai D:=cm 2 jA
noncomputable def dR:Ev->ai Fl :=
 (aC (bO 3 (dC (.non)))
 (aC (G3 (z9 (QK (ag (ae 0) (dC (.int 0)) kF) (z9 (vQ (af (ae 1) (af (ae 2) aE)) dz) Fy)) (z9 (QK (ag (ae 0) (dC (.int 1)) kF) (z9 (vQ (af (ae 1) aE) eG) Fy)) (z9 (QK (ag (ae 0) (dC (.int 2)) kF) (z9 (vQ (af (ae 1) aE) fw) Fy)) Fy))) (mJ gK) 4
 (aC (bO 3 (ae 4))
 av))
 (aC (fE (iF (ag (ae 3) (dC (.non)) iz) (cZ (bM (ae 3) (fk Cy))))
 (aC (ck (ao (af (ag (ae 3) (dC (.non)) iz) aE) b5))
 av)
 av)
 (aC (mh 5 (ao (af (bM (ae 3) (fk Cv)) (af (bM (ae 3) (fk Cw)) aE)) b5))
 (aC (fq 5 (bM (ae 3) (fk Cu)))
 (aC (fE (ag (ae 5) (dC (.int 0)) bf)
 (aC (fq 5 (ao (af (bM (ae 3) (gO mK "part")) (af (bM (ae 3) (gO iM "number")) aE)) cO))
 av)
 av)
 (aC (ck (ae 5))
 av)))))))
noncomputable def bF:List D->ai D:=cm 6 dR
noncomputable def ij:Ev->ai Fl :=
 (aC (bO 1 (dC (.non)))
 (aC (E9 (rq (af (ae 0) aE) m_look_at_web) (mJ qD) 2
 (aC (bO 1 (ao (af (bM (ae 2) (gO mK "part")) (af (bM (ae 2) (gO iM "number")) aE)) cO))
 av))
 (aC (ck (ae 1))
 av)))
noncomputable def cJ:List D->ai D:=cm 3 ij
noncomputable def jC:Addr->Ev->List D->ai dH:=λa =>
 (aW (dB 2 (bD 0 a (aT (mP (ae 1)) bX) bq))
 (aW (dD (bO 3 (ao (af (ag (ae 1) (dC (.int 1)) bf) aE) (m1 fj))))
 (aW (dB 4 (mB (mP (ae 3)) (bD 0 a (aT (mP (ag (dC (.int 10)) (dC (.int 12)) qp)) bX) aG) bV))
 (aW (dD (bO 5 (ao (af (ae 3) (af (bM (dC (.int 1)) FX) (af (ag (dC (.int 0)) (ae 3) kE) (af (ae 4) (af (dC (.bl true)) (af (dC (.bl false)) (af (dC (.non)) (af (dC (.str "0")) (af (ao (af (dC (.int 0)) aE) b5) (af (ao (af (dC (.int 0)) aE) cO) (af (dC (.dic [] [])) aE))))))))))) b5)))
 (aW (dD (bO 6 (ao (af (ao (af (ae 2) (af (ae 1) aE)) b5) aE) (m1 uA))))
 (aW (ka (xD (iI (dC (.int 3)))) (cz 7)
 (aW (ka (zQ (mA (aT (mP (dC (.int 0))) (aT (mB (mP (ae 5)) (bD 0 a (aT (mP (dC (.int 11))) bX) aG) bf) bX)) b5)) (cz 8)
 (aW (qC (mT (ag (ao (af (ae 7) (af (ae 2) (af (ae 8) aE))) bF) (ao (af (dC (.bl true)) (af (dC (.bl false)) (af (dC (.bl false)) (af (ao (af (ae 2) aE) cJ) aE)))) b5) ll))
 (aW (eu (dC (.bl false)))
 bc)
 bc)
 bc))
 bc))
 (aW (ka (xD (qe (ae 5))) (cz 8)
 (aW (qC (mT (iF (ag (ae 8) (dC (.int 0)) vg) (iF (bM (ae 8) (eS "bool")) (ag (ae 3) (dC (.int 0)) kF))))
 (aW (qC (mT (ag (ao (af (dC (.int 0)) (af (ae 1) (af (ae 8) aE))) bF) (ao (af (dC (.bl false)) (af (dC (.bl true)) (af (dC (.bl false)) aE))) b5) ll))
 (aW (eu (dC (.bl false)))
 bc)
 bc)
 bc)
 bc)
 bc))
 (aW (qC (mT (lW (ag (ae 3) (dC (.int 0)) JR) (ag (ao (af (dC (.int 0)) (af (ae 1) (af (ag (ae 3) (dC (.int 1)) kE) aE))) bF) (ao (af (dC (.bl true)) aE) b5) ll)))
 (aW (eu (dC (.bl false)))
 bc)
 bc)
 (aW (eu (ag (ao (af (ao (af (ae 2) (af (ae 1) aE)) b5) aE) (m1 uA)) (ae 6) kF))
 bc)))))))))
noncomputable def dJ:Addr->List D->List D->ai (D×List D):=qf 9 jC
noncomputable def M0:Ev->ai Fl :=
 (aC (za (ao (af (dC (.int 1)) (af (ao (af (ao (af (ae 0) aE) (m1 fj)) (af (dC (.int 10)) aE)) (m2 LU)) aE)) (m2 OA)) (cz 1)
 (lO 2 (ao (af (ae 0) (af (ae 1) aE)) b9) λa=>(aW (dB 3 (bD 2 a (aT (mP (dC (.int 7))) (aT (mP (dC (.int 14))) bX)) c8))
 (aW (ka (xD (iI (dC (.int 3)))) (cz 4)
 (aW (qC (Ia (bD 2 a (aT (mP (ae 3)) bX) dJ))
 (aW (eu (dC (.bl false)))
 bc)
 bc)
 bc))
 bc))))
 (aC (ck (dC (.bl true)))
 av))
noncomputable def m_law:List D->ai D:=cm 5 M0
noncomputable def top(i:Nat):Stmt:=PySem.Challenge.pw_farthestcut_k21_no_ties_of_values.main.body.getD i (.Pass ⟨0,0,0,0⟩)
noncomputable def rows:List Rw:=[
 ⟨"_law_begun",top 62,["_law_script","_law_k","_law_cell"],2⟩,
 ⟨"_law_take",top 63,["_law_state","_law_many","_law_digit","_law_made","_law_turn"],2⟩,
 ⟨"_law_names",top 66,["_law_state","_law_many","_law_letters","_law_long","_law_at","_law_turn","_law_step","_law_nested","_law_found","_law_k","_law_one"],2⟩,
 ⟨"_law_low",top 64,["_law_top","_law_bottom","_law_one","_law_other"],2⟩,
 ⟨"_law_amount",top 65,["_law_state","_law_least","_law_way","_law_top","_law_many","_law_bottoms"],2⟩,
 ⟨"_law_tie",top 67,["_law_state","_law_names_here","_law_k","_law_many","_law_one","_law_other","_law_word","_law_length","_law_worth"],3⟩,
 ⟨"_law_web",top 68,["_law_state","_law_most","_law_more","_law_names_here","_law_many","_law_ties","_law_k","_law_first","_law_last"],3⟩,
 ⟨"_law_bad_tie",top 70,["_law_state","_law_names_here","_law_odd","_law_one","_law_place","_law_bad"],3⟩,
 ⟨"_law_bad_web",top 71,["_law_state","_law_web_here","_law_names_here","_law_ties","_law_first","_law_last","_law_odd","_law_way","_law_at"],2⟩,
 ⟨"is_name",top 16,["thing"],1⟩,
 ⟨"look_at_places",top 41,["places","number","place"],1⟩,
 ⟨"is_whole",top 14,["thing"],1⟩,
 ⟨"common_divisor",top 10,["one","other","larger","smaller","rest"],2⟩,
 ⟨"is_ratio",top 15,["thing"],1⟩,
 ⟨"is_length",top 37,["thing"],1⟩,
 ⟨"is_worth",top 38,["thing"],1⟩,
 ⟨"is_tie",top 36,["thing"],1⟩,
 ⟨"look_at_ties",top 42,["ties","places","number","tie"],2⟩,
 ⟨"is_place",top 43,["thing","places"],2⟩,
 ⟨"look_at_web",top 40,["thing"],1⟩,
 ⟨"shared_bottom",top 49,["some","bottom","one"],1⟩,
 ⟨"as_whole",top 50,["one","bottom"],2⟩,
 ⟨"on_one_scale",top 48,["some","bottom"],1⟩,
 ⟨"scaled_lengths",top 53,["web"],1⟩,
 ⟨"steps_along",top 45,["tie","there"],1⟩,
 ⟨"steps_left",top 46,["web","taken","steps","number","tie","here","there"],2⟩,
 ⟨"nearest_step",top 55,["steps","sizes","found","nearest","number","here","there","size"],3⟩,
 ⟨"all_reached",top 54,["web","taken","sizes","steps","found","nearest"],3⟩,
 ⟨"ratio",top 18,["top","bottom","divisor"],2⟩,
 ⟨"shortest",top 52,["web","taken","scaled","found","prices","place"],2⟩,
 ⟨"minus",top 19,["one","other"],2⟩,
 ⟨"value_by",top 58,["length","length_without"],2⟩,
 ⟨"values_all",top 59,["web","length","told","number","without"],1⟩,
 ⟨"is_less",top 20,["one","other"],2⟩,
 ⟨"most_of",top 21,["some","most","one"],1⟩,
 ⟨"most_valued",top 60,["web","values","greatest"],1⟩,
 ⟨"is_tie_number",top 39,["web","thing"],2⟩,
 ⟨"value_of",top 57,["web","number"],2⟩,
 ⟨"_law_which",top 73,["_law_asked","_law_web_here","_law_number","_law_caught","e","_law_kinds"],3⟩,
 ⟨"_law_web_fields",top 72,["_law_bad","_law_found","e"],1⟩,
 ⟨"_law_right",top 74,["_law_state","_law_web_here","_law_bad","_law_many","_law_far","_law_some","_law_kept","_law_asked","_law_number"],2⟩,
 ⟨"law",top 75,["_law_script","_law_k","_law_state","_law_web_here","_law_turn"],1⟩]
theorem sc:SX rows:=by decide +kernel
theorem nd(i:Nat)(h:rows[i]?=some r:=by rfl):r.N.Nodup:=(sc r (UA h)).nd
theorem bn:∀r∈rows,RG r:=by
 unfold rows
 repeat refine List.forall_mem_cons.mpr ⟨by first|exact Uk|exact Uj|exact Ui|exact bd4|exact bd5,?_⟩
 exact λ_ h=>nomatch h
noncomputable abbrev iJ:Stmt:=Lq (top 7) 0
theorem E7:d8 ["self","part","number"] ["self","part","number"] (defScope iJ):=⟨rfl,rfl,rfl,by decide +kernel,rfl,by decide +kernel,by decide +kernel⟩
set_option genInjectivity false in
set_option genSizeOfSpec false in
structure Adr where
 eI:Addr
 sD:FuncData
 bE:Addr
 b7:Addr
 cy:Addr
 b6:Addr
 aR:Addr
 dO:Addr
 aP:Addr
 cx:Addr
 A:Nat->Addr
 Q:Nat->FuncData
set_option genInjectivity false in
set_option genSizeOfSpec false in
structure Txt (K:Up) (mg:Str->Option Value) (t:Adr):Prop where
 g:TG rows K mg t.A t.Q
 n_ValueError:mg "ValueError"=none
 n_abs:mg "abs"=none
 n_all:mg "all"=none
 n_bool:mg "bool"=none
 n_enumerate:mg "enumerate"=none
 n_int:mg "int"=none
 n_isinstance:mg "isinstance"=none
 n_len:mg "len"=none
 n_list:mg "list"=none
 n_max:mg "max"=none
 n_min:mg "min"=none
 n_range:mg "range"=none
 n_repr:mg "repr"=none
 n_str:mg "str"=none
 n_tuple:mg "tuple"=none
 sN:mg "CutError"=some (.ref t.bE)
 sH:jN K "CutError" t.bE
 BS:mg "NoNumber"=some (.ref t.b7)
 sG:jN K "NoNumber" t.b7
 FG:mg "NoPurse"=some (.ref t.cy)
 vV:jN K "NoPurse" t.cy
 BR:mg "NoTaking"=some (.ref t.b6)
 sE:jN K "NoTaking" t.b6
 Dj:mg "NoTie"=some (.ref t.aR)
 Dh:jN K "NoTie" t.aR
 Ls:mg "NoWay"=some (.ref t.dO)
 Dg:jN K "NoWay" t.dO
 gq:mg "NoWeb"=some (.ref t.aP)
 qF:jN K "NoWeb" t.aP
 FF:mg "TooMany"=some (.ref t.cx)
 vU:jN K "TooMany" t.cx
 c6:JF K "NoTie" t.aR
 bW:JE K "NoWeb" t.aP
 JL:Gh K "__init__" "NoWeb.__init__" iJ t.eI t.sD
 eO:ik K t.sD ["self","part","number"] []
 gC:M1 K t.aP t.eI
 dy:JD K t.aP ["part","number"]
 gD:W.isFn K (.ref t.eI)=true
 yM:JG K t.bE
 ff:U0 K (.ref t.aR) (.ref t.bE)=some true
 fb:U0 K (.ref t.aR) (.ref t.b7)=some false
 fV:U0 K (.ref t.aR) (.ref t.cy)=some false
 e9:U0 K (.ref t.aR) (.ref t.b6)=some false
 iw:U0 K (.ref t.aR) (.ref t.aR)=some true
 iu:U0 K (.ref t.aR) (.ref t.dO)=some false
 fv:U0 K (.ref t.aR) (.ref t.aP)=some false
 fU:U0 K (.ref t.aR) (.ref t.cx)=some false
 e8:U0 K (.ref t.aP) (.ref t.bE)=some true
 e7:U0 K (.ref t.aP) (.ref t.b7)=some false
 fT:U0 K (.ref t.aP) (.ref t.cy)=some false
 eZ:U0 K (.ref t.aP) (.ref t.b6)=some false
 ir:U0 K (.ref t.aP) (.ref t.aR)=some false
 iq:U0 K (.ref t.aP) (.ref t.dO)=some false
 fu:U0 K (.ref t.aP) (.ref t.aP)=some true
 fS:U0 K (.ref t.aP) (.ref t.cx)=some false
 fZ:yy K mg "FEWEST_PLACES" (.int 2)
 nZ:yy K mg "FIRST" (.int 2)
 lY:yy K mg "LAST" (.int 3)
 nY:yy K mg "LENGTH" (.int 3)
 pj:yy K mg "LETTERS" (.str "abcdefghijklmnopqrstuvwxyz")
 gS:yy K mg "LONGEST_NAME" (.int 8)
 iC:yy K mg "MOST_PLACES" (.int 7)
 kH:yy K mg "MOST_TIES" (.int 14)
 uM:yy K mg "ONE" (.int 0)
 jv:yy K mg "OTHER" (.int 1)
 gR:yy K mg "PLACES" (.int 0)
 lX:yy K mg "TIES" (.int 1)
 uL:yy K mg "WORD" (.int 2)
 yt:yy K mg "WORDS" (.tup [(.str "one"),(.str "both")])
 yr:yy K mg "WORTH" (.int 4)
section
variable {P:Program}{w:World}{K:Up}{mg:Str->Option Value}{base:Heap}{t:Adr}
theorem qm(T:Txt K mg t):∀x C,mJ gK x=true->XC K x C->X4 K (.ref C) (.ref t.bE)=some true :=
 Ac λq hq=>by
  unfold gK at hq;simp only[Uv,US,or_false] at hq;rcases hq with rfl|rfl
  .exact⟨t.aR,T.c6.xcls.xc,T.sH.exm T.ff⟩
  .exact⟨t.aP,T.bW.xc,T.sH.exm T.e8⟩
theorem xV(T:Txt K mg t):∀x C,mJ qD x=true->XC K x C->X4 K (.ref C) (.ref t.aP)=some true :=
 Ac λq hq=>by
  unfold qD at hq;simp only[Uv,US,or_false] at hq;rcases hq with rfl|rfl
  .exact⟨t.aR,T.c6.xcls.xc,T.qF.exm T.fv⟩
  .exact⟨t.aP,T.bW.xc,T.qF.exm T.fu⟩
theorem GJ(T:Txt K mg t):uV K Cy (.type "ValueError") :=
 er (p:=λ_ C b=>Xh K (.ref C) (.type "ValueError")=some b) λq hq=>by
  simp only[Uv,US,or_false] at hq;rcases hq with rfl|rfl
  .exact⟨t.aR,T.c6.xcls.xc,xP sr T.c6.ve⟩
  .exact⟨t.aP,T.bW.xc,xP sr T.bW.ve⟩
theorem GI(T:Txt K mg t):uV K Cw (.ref t.aR) :=
 er (p:=λ_ C b=>Xh K (.ref C) (.ref t.aR)=some b) λq hq=>by
  simp only[Uv,US,or_false] at hq;rcases hq with rfl|rfl
  .exact⟨t.aR,T.c6.xcls.xc,T.Dh.kit T.c6.self T.iw⟩
  .exact⟨t.aP,T.bW.xc,T.Dh.kit T.bW.self T.ir⟩
theorem GH(T:Txt K mg t):uV K Cv (.ref t.aP) :=
 er (p:=λ_ C b=>Xh K (.ref C) (.ref t.aP)=some b) λq hq=>by
  simp only[Uv,US,or_false] at hq;rcases hq with rfl|rfl
  .exact⟨t.aR,T.c6.xcls.xc,T.qF.kit T.c6.self T.fv⟩
  .exact⟨t.aP,T.bW.xc,T.qF.kit T.bW.self T.fu⟩
theorem GG(T:Txt K mg t):Cn K Cu [t.b6,t.dO,t.b7,t.cy,t.cx] :=
 er (p:=λ_ C b=>W.kitAny K (.ref C) ([t.b6,t.dO,t.b7,t.cy,t.cx].map UZ)=some b) λq hq=>by
  simp only[Uv,US,or_false] at hq;rcases hq with rfl|rfl
  .exact⟨t.aR,T.c6.xcls.xc,(dY (T.sE.kit T.c6.self T.e9) (dY (T.Dg.kit T.c6.self T.iu) (dY (T.sG.kit T.c6.self T.fb) (dY (T.vV.kit T.c6.self T.fV) (dY (T.vU.kit T.c6.self T.fU) su)))))⟩
  .exact⟨t.aP,T.bW.xc,(dY (T.sE.kit T.bW.self T.eZ) (dY (T.Dg.kit T.bW.self T.iq) (dY (T.sG.kit T.bW.self T.e7) (dY (T.vV.kit T.bW.self T.fT) (dY (T.vU.kit T.bW.self T.fS) su)))))⟩
theorem mL(T:Txt K mg t):JK K iM "number" :=
 er (p:=λ_ C _=>WC K C=true/\iE K C "number") λq hq=>by
  simp only[Uv,US,or_false] at hq;rcases hq with rfl
  .exact⟨t.aP,T.bW.xc,T.dy.hd,T.dy.no _ (by decide)⟩
theorem sO(T:Txt K mg t):JK K mK "part" :=
 er (p:=λ_ C _=>WC K C=true/\iE K C "part") λq hq=>by
  simp only[Uv,US,or_false] at hq;rcases hq with rfl
  .exact⟨t.aP,T.bW.xc,T.dy.hd,T.dy.no _ (by decide)⟩
theorem d9(T:Txt K mg t):fN P w K mg base CX0 1 t.eI t.sD ["self","part","number"] (Kt K ["part","number"]) :=
 QZ T.JL E7 rfl (by decide) λcdv A outer s0 H E=>(Pq (i:=1) T.yM rfl T.sN (xh (i:=1) rfl (UC rfl) (xh (i:=2) rfl (UC rfl) NI)) rfl rfl (UC rfl) (UC rfl) (JZ (i:=2) rfl rfl (UC rfl) (UC rfl) M9))
theorem rS(T:Txt K mg t):fO P w K mg base CX0 1 (t.A 0) (t.Q 0) ["_law_script","_law_k"] (PR K 2 b9) "_law_begun" (top 62) :=
 oF T.g sc (i:=0) rfl λ_ _ _ _ _ _ _ _=>(
 (v5 (bh (i:=2) (nd 0) rfl (UC rfl) aj)
 (v5 (cB (aZ zt (dq λ_ _ _ _=>rb _) (dv 1) (bI cC eg rfl T.n_len PyProof.Rows.Boot.«len» (aa (dv 0) ak)) nm)
 (ah (bh (i:=2) (nd 0) rfl (UC rfl) (aA (dv 0) (dv 1)))
 au)
 au)
 (FP (pd (aa (dv 2) (aa (fY (cQ (cQ (fY (dv 2) aj) (eM (eM aj (dv 1)) (dv 1))) aj) aj) (aa (eN HI (dq λ_ _ _ _=>rb _) (dv 2) (ym aj aj) nm) ak))))))))
theorem aN(T:Txt K mg t):fO P w K mg base CX0 1 (t.A 1) (t.Q 1) ["_law_state","_law_many"] (Gf K 1 aG) "_law_take" (top 63) :=
 oM T.g sc (i:=1) rfl rfl λ_ _ _ _ _ _ _ _ _ _=>(
 (ar (fB (Jd (i:=0) (E:=E0) (cu (aA (dv 0) aj)))
 (ar (cb (i:=2) (nd 1) rfl (UC rfl) (nR (i:=0) (E:=E0) (fY (aA (dv 0) aj) (dv 1))))
 (ar (Bj (i:=0) rfl (UC rfl) (nR (i:=0) (E:=E0) (kC (aA (dv 0) aj) (dv 1))) (aF (E:=E0) aj))
 (ar (Bj (i:=0) rfl (UC rfl) (nR (i:=0) (E:=E0) (eN vy (dq λ_ _ _ _=>rb _) (aA (dv 0) aj) aj nm)) (aF (E:=E0) aj))
 (ar (dm (E:=E0) (dv 2))
 aS))))
 aS)
 (ar (cg (E:=E0) λvs=>(bh (i:=3) (nd 1) rfl (UC rfl) aj))
 (ar (kQ (E:=E0) Vc rfl (mC (E:=E0) (kY rfl T.n_range (cQ aj (eM aj (kD wu Jq rfl T.n_int PyProof.Rows.Boot.«int» (aa (eN vy (dq λ_ _ _ _=>rb _) (dv 1) (ym aj aj) nm) ak)))))) (λvs=>(cw (i:=4) (nd 1) rfl (UC rfl))) cG
 (ar (Bj (i:=0) rfl (UC rfl) (nR (i:=0) (E:=E0) (fY (cQ (eM (aA (dv 0) aj) aj) aj) aj)) (aF (E:=E0) aj))
 (ar (cb (i:=3) (nd 1) rfl (UC rfl) (nR (i:=0) (E:=E0) (cQ (eM (dv 3) aj) (fY (eM (aA (dv 0) aj) (aA (dv 0) aj)) aj))))
 aS)))
 (ar (dm (E:=E0) (fY (kC (dv 3) aj) (dv 1)))
 aS)))))
theorem vc(T:Txt K mg t):fO P w K mg base CX0 2 (t.A 2) (t.Q 2) ["_law_state","_law_many"] (Gf K 1 dM) "_law_names" (top 66) :=
 oM T.g sc (i:=2) rfl rfl λ_ _ _ _ H He _ _ _ hr=>(
 (ar (Kv (i:=2) (nd 2) rfl rfl (Sv (E:=E0) ["_law_k","_law_state"] 1 [0] rfl (mC (E:=E0) (kY rfl T.n_range aj)) (gE (by decide)) (λs H C fp pn=>⟨λHe H0e=>(cw (i:=0) (show WB (["_law_k","_law_state"]:List Str) from by decide) rfl (UC rfl)),λHe H0e=>(rM 1 (aN T) hr (aI (aF (E:=E0) aj) aU))⟩) ⟨rfl,rfl⟩ rfl rfl rfl rfl) Cc)
 (ar (cb (i:=3) (nd 2) rfl (UC rfl) (kA (aF (E:=E0) aj) (rM 0 (aN T) hr (aI (aF (E:=E0) aj) aU))))
 (ar (cb (i:=4) (nd 2) rfl (UC rfl) (rM 0 (aN T) hr (aI (aF (E:=E0) (dv 3)) aU)))
 (ar (cb (i:=5) (nd 2) rfl (UC rfl) (rM 0 (aN T) hr (aI (aF (E:=E0) aj) aU)))
 (ar (cb (i:=6) (nd 2) rfl (UC rfl) (fz (aF (E:=E0) (bG (aa aj (aa aj (aa aj (aa aj (aa aj (aa aj ak)))))))) (rM 0 (aN T) hr (aI (aF (E:=E0) aj) aU))))
 (ar (cb (i:=7) (nd 2) rfl (UC rfl) (Ow (E:=E0) (cq hr.units) dr (rM 0 (aN T) hr (aI (aF (E:=E0) aj) aU)) (aF (E:=E0) aj) nm))
 (ar (cg (E:=E0) λvs=>(lS (i:=8) (nd 2) rfl (UC rfl) (pd ak)))
 (ar (cg (E:=E0) λvs=>(yi Vc rfl rfl T.n_range (dv 1) (cw (i:=9) (nd 2) rfl (UC rfl)) cG
 (ah (lS (i:=10) (nd 2) rfl (UC rfl) (AN (dv 2) eL (eK (dv 3))))
 (ah (Ot (i:=10) rfl (UC rfl) (fY (cQ (dv 5) (eM (dv 6) (dv 9))) aj) (dv 4))
 (ah (cB (cu (dv 7))
 (ah (lS (i:=10) (nd 2) rfl (UC rfl) (AN (dv 2) eL (eK (cQ aj (fY (cQ (dv 5) (dv 9)) aj)))))
 au)
 au)
 (ah (Ov 10 (iO (i:=8) rfl (UC rfl) (LM b8 (aa (v9 (B7 ["_law_letter"] 1 [] rfl (kZ (dv 10)) (gE (by decide)) (λs H C fp pn=>⟨λHe H0e=>(cw (i:=0) (show WB (["_law_letter"]:List Str) from by decide) rfl (UC rfl)),nT,(aA b8 (dv 0))⟩) ⟨rfl,rfl⟩ rfl rfl rfl rfl)) ak))))
 au))))))
 (ar (dm (E:=E0) (dv 8))
 aS))))))))))
theorem zE(T:Txt K mg t):fO P w K mg base CX0 1 (t.A 3) (t.Q 3) ["_law_top","_law_bottom"] (spD K 2 dA) "_law_low" (top 64) :=
 oD T.g sc (i:=3) rfl λ_ _ _ _ _ _ _ hr=>(
 (ah (bh (i:=2) (nd 3) rfl (UC rfl) (bI uJ Ce rfl T.n_abs PyProof.Rows.Boot.«abs» (aa (dv 0) ak)))
 (ah (bh (i:=3) (nd 3) rfl (UC rfl) (dv 1))
 (ah (uu _ Vc (aZ (jb hr.units) mz (dv 3) aj nm)
 (ah (Ou (i:=2) (j:=3) rfl (nd 3) rfl rfl (by decide) rfl rfl (aa (dv 3) (aa (fY (dv 2) (dv 3)) ak)) rfl)
 au))
 (ah (bw (bZ (aa (kC (dv 0) (dv 2)) (aa (kC (dv 1) (dv 2)) ak))))
 au)))))
theorem jX(T:Txt K mg t):fO P w K mg base CX0 2 (t.A 4) (t.Q 4) ["_law_state","_law_least"] (Gf K 1 cN) "_law_amount" (top 65) :=
 oM T.g sc (i:=4) rfl rfl λ_ _ _ _ _ _ _ _ _ hr=>(
 (ar (cb (i:=2) (nd 4) rfl (UC rfl) (rM 0 (aN T) hr (aI (aF (E:=E0) aj) aU)))
 (ar (cb (i:=3) (nd 4) rfl (UC rfl) (kA (aF (E:=E0) (dv 1)) (rM 0 (aN T) hr (aI (aF (E:=E0) (aA (bG (aa aj (aa aj (aa aj (aa aj (aa aj (aa (ym aj aj) ak))))))) (dv 2))) aU))))
 (ar (cg (E:=E0) λvs=>(bh (i:=4) (nd 4) rfl (UC rfl) (aA (bG (aa aj (aa aj (aa aj (aa aj (aa aj (aa aj ak))))))) (dv 2))))
 (ar (cg (E:=E0) λvs=>(bh (i:=5) (nd 4) rfl (UC rfl) (bG (aa aj (aa aj (aa aj (aa aj (aa aj (aa aj (aa aj (aa aj (aa aj (aa aj (aa aj (aa aj ak)))))))))))))))
 (ar (oH (Ub (zE T) hr (aI (aF (E:=E0) (dv 3)) (aI (fz (aF (E:=E0) (dv 5)) (rM 0 (aN T) hr (aI (aF (E:=E0) (dv 4)) aU))) aU))))
 aS))))))
theorem zD(T:Txt K mg t):fO P w K mg base CX0 3 (t.A 5) (t.Q 5) ["_law_state","_law_names_here","_law_k"] (Gf K 2 cM) "_law_tie" (top 67) :=
 oM T.g sc (i:=5) rfl rfl λ_ _ _ _ _ _ _ _ _ hr=>(
 (ar (cg (E:=E0) λvs=>(bh (i:=3) (nd 5) rfl (UC rfl) (bI cC eg rfl T.n_len PyProof.Rows.Boot.«len» (aa (dv 1) ak))))
 (ar (cb (i:=4) (nd 5) rfl (UC rfl) (rM 0 (aN T) hr (aI (aF (E:=E0) (dv 3)) aU)))
 (ar (cb (i:=5) (nd 5) rfl (UC rfl) (Je (kA (aF (E:=E0) (cQ (dv 4) aj)) (rM 0 (aN T) hr (aI (aF (E:=E0) (lU (dv 3) aj)) aU))) (aF (E:=E0) (dv 3))))
 (ar (fB (qO (E:=E0) (cq hr.units) dr (rM 0 (aN T) hr (aI (aF (E:=E0) aj) aU)) (aF (E:=E0) aj) nm)
 (ar (cg (E:=E0) λvs=>(bh (i:=4) (nd 5) rfl (UC rfl) (fY (dv 2) (dv 3))))
 (ar (cg (E:=E0) λvs=>(bh (i:=5) (nd 5) rfl (UC rfl) (fY (cQ (dv 2) aj) (dv 3))))
 aS))
 aS)
 (ar (cb (i:=6) (nd 5) rfl (UC rfl) (fz (aF (E:=E0) (bG (aa b8 (aa b8 ak)))) (rM 0 (aN T) hr (aI (aF (E:=E0) aj) aU))))
 (ar (cb (i:=7) (nd 5) rfl (UC rfl) (rM 0 (jX T) hr (aI (aF (E:=E0) aj) aU)))
 (ar (cb (i:=8) (nd 5) rfl (UC rfl) (rM 0 (jX T) hr (aI (aF (E:=E0) aj) aU)))
 (ar (fB (qO (E:=E0) (cq hr.units) dr (rM 0 (aN T) hr (aI (aF (E:=E0) aj) aU)) (aF (E:=E0) aj) nm)
 (ar (cg (E:=E0) λvs=>(bh (i:=8) (nd 5) rfl (UC rfl) cf))
 aS)
 aS)
 (ar (dm (E:=E0) (bZ (aa (aA (dv 1) (dv 4)) (aa (aA (dv 1) (dv 5)) (aa (dv 6) (aa (dv 7) (aa (dv 8) ak)))))))
 aS))))))))))
theorem zC(T:Txt K mg t):fO P w K mg base CX0 4 (t.A 6) (t.Q 6) ["_law_state","_law_most","_law_more"] (Gf K 2 c8) "_law_web" (top 68) :=
 oM T.g sc (i:=6) rfl rfl λ_ _ _ _ _ _ _ _ _ hr=>(
 (ar (cb (i:=3) (nd 6) rfl (UC rfl) (rM 0 (vc T) hr (aI (kA (aF (E:=E0) aj) (rM 0 (aN T) hr (aI (aF (E:=E0) (lU (dv 1) aj)) aU))) aU)))
 (ar (cg (E:=E0) λvs=>(bh (i:=4) (nd 6) rfl (UC rfl) (bI cC eg rfl T.n_len PyProof.Rows.Boot.«len» (aa (dv 3) ak))))
 (ar (cg (E:=E0) λvs=>(lS (i:=5) (nd 6) rfl (UC rfl) (pd ak)))
 (ar (kQ (E:=E0) Vc rfl (Fp rfl T.n_range (rM 0 (aN T) hr (aI (aF (E:=E0) (cQ (dv 2) aj)) aU))) (λvs=>(cw (i:=6) (nd 6) rfl (UC rfl))) cG
 (ar (E3 (i:=5) rfl (UC rfl) (rM 0 (zD T) hr (aI (aF (E:=E0) (dv 3)) (aI (aF (E:=E0) (dv 6)) aU))))
 aS))
 (ar (cg (E:=E0) λvs=>(bh (i:=7) (nd 6) rfl (UC rfl) aj))
 (ar (cg (E:=E0) λvs=>(bh (i:=8) (nd 6) rfl (UC rfl) (lU (dv 4) aj)))
 (ar (fB (qO (E:=E0) (cq hr.units) dr (rM 0 (aN T) hr (aI (aF (E:=E0) aj) aU)) (aF (E:=E0) aj) nm)
 (ar (cb (i:=7) (nd 6) rfl (UC rfl) (rM 0 (aN T) hr (aI (aF (E:=E0) (dv 4)) aU)))
 (ar (cb (i:=8) (nd 6) rfl (UC rfl) (Je (kA (aF (E:=E0) (cQ (dv 7) aj)) (rM 0 (aN T) hr (aI (aF (E:=E0) (lU (dv 4) aj)) aU))) (aF (E:=E0) (dv 4))))
 aS))
 aS)
 (ar (dm (E:=E0) (bZ (aa (dv 3) (aa (dv 5) (aa (aA (dv 3) (dv 7)) (aa (aA (dv 3) (dv 8)) ak))))))
 aS)))))))))
theorem qj(T:Txt K mg t):fO P w K mg base CX0 2 (t.A 7) (t.Q 7) ["_law_state","_law_names_here","_law_odd"] (Gf K 2 bb) "_law_bad_tie" (top 70) :=
 oM T.g sc (i:=7) rfl rfl λ_ _ _ _ _ _ _ _ _ hr=>(
 (ar (cg (E:=E0) λvs=>(bh (i:=3) (nd 7) rfl (UC rfl) (bZ (aa (aA (dv 1) aj) (aa (aA (dv 1) aj) (aa b8 (aa (bZ (aa aj (aa aj ak))) (aa cf ak))))))))
 (ar (cb (i:=4) (nd 7) rfl (UC rfl) (rM 0 (aN T) hr (aI (aF (E:=E0) aj) aU)))
 (ar (cg (E:=E0) λvs=>(bh (i:=5) (nd 7) rfl (UC rfl) (aA (bG (aa (aA (dv 1) aj) (aa (aA (dv 1) aj) (aa b8 (aa (bZ (aa aj (aa aj ak))) (aa (bZ (aa aj (aa aj ak))) ak)))))) (dv 4))))
 (ar (fB (Pm.dt (LG (df (E:=E0) (aZ vy (dq λ_ _ _ _=>rb _) (dv 4) aj nm)) (LF (qO (E:=E0) (cq hr.units) dr (rM 0 (aN T) hr (aI (aF (E:=E0) aj) aU)) (aF (E:=E0) aj) nm))))
 (ar (cb (i:=5) (nd 7) rfl (UC rfl) (fz (aF (E:=E0) (bG (aa (dv 2) (aa (bZ (aa (B6 aj) (aa aj ak))) (aa (bZ (aa dS (aa aj ak))) (aa (bG (aa aj (aa aj ak))) ak)))))) (rM 0 (aN T) hr (aI (aF (E:=E0) aj) aU))))
 aS)
 aS)
 (ar (cg (E:=E0) λvs=>(cB (aZ jW jY (dv 5) cf nm)
 (ah (bh (i:=5) (nd 7) rfl (UC rfl) b8)
 au)
 au))
 (ar (dm (E:=E0) (D8 (D8 (dP (dv 3) eL (eK (dv 4))) (bZ (aa (dv 5) ak))) (dP (dv 3) (eK (cQ (dv 4) aj)) eL)))
 aS)))))))
theorem qi(T:Txt K mg t):fO P w K mg base CX0 3 (t.A 8) (t.Q 8) ["_law_state","_law_web_here"] (Gf K 1 bq) "_law_bad_web" (top 71) :=
 oM T.g sc (i:=8) rfl rfl λ_ _ _ _ _ _ _ _ _ hr=>(
 (ar (cg (E:=E0) λvs=>(Oo rfl (dv 1) (cc (i:=2) (nd 8) rfl (UC rfl) (cc (i:=3) (nd 8) rfl (UC rfl) (cc (i:=4) (nd 8) rfl (UC rfl) (cc (i:=5) (nd 8) rfl (UC rfl) jl))))))
 (ar (cb (i:=6) (nd 8) rfl (UC rfl) (fz (aF (E:=E0) (bG (aa cf (aa dS (aa aj (aa b8 (aa b8 (aa b8 (aa (bG ak) (aa D7 (aa (bZ (aa b8 (aa b8 ak))) ak))))))))))) (rM 0 (aN T) hr (aI (aF (E:=E0) aj) aU))))
 (ar (cb (i:=7) (nd 8) rfl (UC rfl) (rM 0 (aN T) hr (aI (aF (E:=E0) aj) aU)))
 (ar (cb (i:=8) (nd 8) rfl (UC rfl) (rM 0 (aN T) hr (aI (aF (E:=E0) (bI cC eg rfl T.n_len PyProof.Rows.Boot.«len» (aa (dv 2) ak))) aU)))
 (ar (fB (df (E:=E0) (aZ (cq hr.units) dr (dv 7) aj nm))
 (ar (oH (fz (aF (E:=E0) (bG (aa (dv 6) (aa (kD yq LZ rfl T.n_list PyProof.Rows.Boot.«list» (aa (dv 1) ak)) (aa (dP (dv 1) eL (eK aj)) (aa (cQ (dv 1) (bZ (aa (dv 5) ak))) ak)))))) (rM 0 (aN T) hr (aI (aF (E:=E0) aj) aU))))
 aS)
 aS)
 (ar (fB (df (E:=E0) (aZ (cq hr.units) dr (dv 7) aj nm))
 (ar (dm (E:=E0) (bZ (aa (cQ (cQ (dP (dv 2) eL (eK (dv 8))) (bG (aa (dv 6) ak))) (dP (dv 2) (eK (cQ (dv 8) aj)) eL)) (aa (dv 3) (aa (dv 4) (aa (dv 5) ak))))))
 aS)
 aS)
 (ar (fB (df (E:=E0) (aZ (cq hr.units) dr (dv 7) aj nm))
 (ar (dm (E:=E0) (bZ (aa (cQ (dv 2) (bG (aa (aA (dv 2) (dv 8)) ak))) (aa (dv 3) (aa (dv 4) (aa (dv 5) ak))))))
 aS)
 aS)
 (ar (fB (df (E:=E0) (aZ (cq hr.units) dr (dv 7) aj nm))
 (ar (oH (yk (aI (fz (aF (E:=E0) (bG (aa (kD lF AX rfl T.n_tuple PyProof.Rows.Boot.«tuple» (aa (dv 2) ak)) (aa (dP (dv 2) eL (eK aj)) (aa (dv 6) ak))))) (rM 0 (aN T) hr (aI (aF (E:=E0) aj) aU))) (aI (aF (E:=E0) (dv 3)) (aI (aF (E:=E0) (dv 4)) (aI (aF (E:=E0) (dv 5)) aU))))))
 aS)
 aS)
 (ar (fB (df (E:=E0) (aZ (cq hr.units) dr (dv 7) aj nm))
 (ar (dm (E:=E0) (bZ (aa (dv 2) (aa (aA (bG (aa (kD lF AX rfl T.n_tuple PyProof.Rows.Boot.«tuple» (aa (dv 3) ak)) (aa (dv 6) ak))) (kD wu Jq rfl T.n_int PyProof.Rows.Boot.«int» (aa (eN (HH hr.units) HP (dv 6) (bG ak) nm) ak))) (aa (dv 4) (aa (dv 5) ak))))))
 aS)
 aS)
 (ar (fB (df (E:=E0) (aZ (cq hr.units) dr (dv 7) aj nm))
 (ar (oH (yk (aI (aF (E:=E0) (dv 2)) (aI (aF (E:=E0) (dv 3)) (aI (fz (aF (E:=E0) (bG (aa (dv 6) (aa (dv 5) ak)))) (rM 0 (aN T) hr (aI (aF (E:=E0) aj) aU))) (aI (aF (E:=E0) (dv 5)) aU))))))
 aS)
 aS)
 (ar (fB (df (E:=E0) (aZ (cq hr.units) dr (dv 7) aj nm))
 (ar (oH (yk (aI (aF (E:=E0) (dv 2)) (aI (aF (E:=E0) (dv 3)) (aI (aF (E:=E0) (dv 4)) (aI (fz (aF (E:=E0) (bG (aa (dv 6) (aa (dv 4) ak)))) (rM 0 (aN T) hr (aI (aF (E:=E0) aj) aU))) aU))))))
 aS)
 aS)
 (ar (cb (i:=8) (nd 8) rfl (UC rfl) (rM 0 (aN T) hr (aI (aF (E:=E0) (cQ (bI cC eg rfl T.n_len PyProof.Rows.Boot.«len» (aa (dv 3) ak)) aj)) aU)))
 (ar (oH (yk (aI (aF (E:=E0) (dv 2)) (aI (kA (kA (aF (E:=E0) (dP (dv 3) eL (eK (dv 8)))) (Jf (aI (rM 0 (qj T) hr (aI (aF (E:=E0) (dv 2)) (aI (aF (E:=E0) (dv 6)) aU))) aU))) (aF (E:=E0) (dP (dv 3) (eK (dv 8)) eL))) (aI (aF (E:=E0) (dv 4)) (aI (aF (E:=E0) (dv 5)) aU))))))
 aS))))))))))))))
theorem jc(T:Txt K mg t):fO P w K mg base CX0 1 (t.A 9) (t.Q 9) ["thing"] (spD K 1 m_is_name) "is_name" (top 16) :=
 oD T.g sc (i:=9) rfl λ_ _ _ _ H _ _ hr=>(
 (ah (cB (DW.dt (ez (cP (cu (dj sq rfl T.n_isinstance rfl T.n_str PyProof.Rows.Boot.«str» (dv 0)))) (bT (cP (AI zu zu (gA λ_ _ _ _=>rb _) (gA λ_ _ _ _=>rb _) gB gB aj (bI cC eg rfl T.n_len PyProof.Rows.Boot.«len» (aa (dv 0) ak)) (bz T.gS rfl))))))
 (ah (bw dS)
 au)
 au)
 (ah (bw (bI (Js rfl) OJ rfl T.n_all PyProof.Rows.Boot.«all» (aa (v9 (B7 ["sign"] 1 [] rfl (Ox (dv 0)) (gE (by decide)) (λs H C fp pn=>⟨λHe H0e=>(cw (i:=0) (show WB (["sign"]:List Str) from by decide) rfl (UC rfl)),nT,(eN (zv hr.units) zG (dv 0) (bz T.pj rfl) rfl)⟩) ⟨rfl,rfl⟩ rfl rfl rfl rfl)) ak)))
 au)))
theorem mw(T:Txt K mg t):fO P w K mg base (gi P w) 3 (t.A 10) (t.Q 10) ["places"] (spD K 1 m_look_at_places) "look_at_places" (top 41) :=
 oE T.g sc (i:=10) rfl λ_ _ _ _ _ _ _ hr=>(
 (ah (cB (DW.dt (ez (cP (cu (dj pM rfl T.n_isinstance rfl T.n_list PyProof.Rows.Boot.«list» (dv 0)))) (bT (cP (AI zu zu (gA λ_ _ _ _=>rb _) (gA λ_ _ _ _=>rb _) gB gB (bz T.fZ rfl) (bI cC eg rfl T.n_len PyProof.Rows.Boot.«len» (aa (dv 0) ak)) (bz T.iC rfl))))))
 (ah (fg T.bW.xc T.gC T.dy T.gD ((d9 T).mono (by decide:1<=1)) T.eO (by decide) (by decide) hr T.gq hr.hd rfl (aa b8 (aa cf ak)))
 au)
 au)
 (ah (yj XG rfl (qP rfl T.n_enumerate (dv 0)) (pb rfl (cc (i:=1) (nd 10) rfl (UC rfl) (cc (i:=2) (nd 10) rfl (UC rfl) jl))) iH
 (ah (cB (DW.dt (ez (cP (cu (rC (jc T) hr (aa (dv 2) ak)))) (bT (aZ (zv hr.units) zG (dv 2) (dP (dv 0) eL (eK (dv 1))) rfl))))
 (ah (fg T.bW.xc T.gC T.dy T.gD ((d9 T).mono (by decide:1<=1)) T.eO (by decide) (by decide) hr T.gq hr.hd rfl (aa b8 (aa (dv 1) ak)))
 au)
 au)
 au))
 au)))
theorem fG(T:Txt K mg t):fO P w K mg base CX0 1 (t.A 11) (t.Q 11) ["thing"] (spD K 1 m_is_whole) "is_whole" (top 14) :=
 oD T.g sc (i:=11) rfl λ_ _ _ _ _ _ _ _=>(
 (ah (bw (lV (dj BN rfl T.n_isinstance rfl T.n_int PyProof.Rows.Boot.«int» (dv 0)) (kB (Oz (dj pO rfl T.n_isinstance rfl T.n_bool PyProof.Rows.Boot.«bool» (dv 0))))))
 au))
theorem eF(T:Txt K mg t):fO P w K mg base CX0 1 (t.A 12) (t.Q 12) ["one","other"] (spD K 2 m_common_divisor) "common_divisor" (top 10) :=
 oD T.g sc (i:=12) rfl λ_ _ _ _ _ _ _ hr=>(
 (ah (bh (i:=2) (nd 12) rfl (UC rfl) (bI uJ Ce rfl T.n_abs PyProof.Rows.Boot.«abs» (aa (dv 0) ak)))
 (ah (bh (i:=3) (nd 12) rfl (UC rfl) (bI uJ Ce rfl T.n_abs PyProof.Rows.Boot.«abs» (aa (dv 1) ak)))
 (ah (uu _ Vc (aZ (jb hr.units) mz (dv 3) aj nm)
 (ah (bh (i:=4) (nd 12) rfl (UC rfl) (fY (dv 2) (dv 3)))
 (ah (bh (i:=2) (nd 12) rfl (UC rfl) (dv 3))
 (ah (bh (i:=3) (nd 12) rfl (UC rfl) (dv 4))
 au))))
 (ah (bw (dv 2))
 au)))))
theorem pF(T:Txt K mg t):fO P w K mg base CX0 2 (t.A 13) (t.Q 13) ["thing"] (spD K 1 m_is_ratio) "is_ratio" (top 15) :=
 oD T.g sc (i:=13) rfl λ_ _ _ _ _ _ _ hr=>(
 (ah (cB (DW.dt (ez (cP (cu (dj ji rfl T.n_isinstance rfl T.n_tuple PyProof.Rows.Boot.«tuple» (dv 0)))) (bT (aZ (jb hr.units) mz (bI cC eg rfl T.n_len PyProof.Rows.Boot.«len» (aa (dv 0) ak)) aj nm))))
 (ah (bw dS)
 au)
 au)
 (ah (cB (DW.dt (ez (cP (cu (rC (fG T) hr (aa (aA (dv 0) aj) ak)))) (bT (cP (cu (rC (fG T) hr (aa (aA (dv 0) aj) ak)))))))
 (ah (bw dS)
 au)
 au)
 (ah (bw (lV (eN HI (dq λ_ _ _ _=>rb _) (aA (dv 0) aj) aj nm) (kB (eN (cq hr.units) dr (rC (eF T) hr (aa (aA (dv 0) aj) (aa (aA (dv 0) aj) ak))) aj nm))))
 au))))
theorem xw(T:Txt K mg t):fO P w K mg base CX0 3 (t.A 14) (t.Q 14) ["thing"] (spD K 1 m_is_length) "is_length" (top 37) :=
 oD T.g sc (i:=14) rfl λ_ _ _ _ _ _ _ hr=>(
 (ah (bw (lV (rC (pF T) hr (aa (dv 0) ak)) (kB (eN HI (dq λ_ _ _ _=>rb _) (aA (dv 0) aj) aj nm))))
 au))
theorem zA(T:Txt K mg t):fO P w K mg base CX0 3 (t.A 15) (t.Q 15) ["thing"] (spD K 1 m_is_worth) "is_worth" (top 38) :=
 oD T.g sc (i:=15) rfl λ_ _ _ _ _ _ _ hr=>(
 (ah (bw (Rh (eN jW jY (dv 0) cf nm) (kB (lV (rC (pF T) hr (aa (dv 0) ak)) (kB (eN vy (dq λ_ _ _ _=>rb _) (aA (dv 0) aj) aj nm))))))
 au))
theorem Fj(T:Txt K mg t):fO P w K mg base CX0 4 (t.A 16) (t.Q 16) ["thing"] (spD K 1 m_is_tie) "is_tie" (top 36) :=
 oD T.g sc (i:=16) rfl λ_ _ _ _ _ _ _ hr=>(
 (ah (cB (DW.dt (ez (cP (cu (dj ji rfl T.n_isinstance rfl T.n_tuple PyProof.Rows.Boot.«tuple» (dv 0)))) (bT (aZ (jb hr.units) mz (bI cC eg rfl T.n_len PyProof.Rows.Boot.«len» (aa (dv 0) ak)) aj nm))))
 (ah (bw dS)
 au)
 au)
 (ah (cB (DW.dt (ez (cP (cu (rC (jc T) hr (aa (aA (dv 0) (bz T.uM rfl)) ak)))) (ez (cP (cu (rC (jc T) hr (aa (aA (dv 0) (bz T.jv rfl)) ak)))) (bT (aZ (cq hr.units) dr (aA (dv 0) (bz T.uM rfl)) (aA (dv 0) (bz T.jv rfl)) nm)))))
 (ah (bw dS)
 au)
 au)
 (ah (cB (DW.dt (ez (cP (cu (dj sq rfl T.n_isinstance rfl T.n_str PyProof.Rows.Boot.«str» (aA (dv 0) (bz T.uL rfl))))) (bT (aZ (mq hr.units) my (aA (dv 0) (bz T.uL rfl)) (bz T.yt rfl) rfl))))
 (ah (bw dS)
 au)
 au)
 (ah (bw (lV (rC (xw T) hr (aa (aA (dv 0) (bz T.nY rfl)) ak)) (kB (rC (zA T) hr (aa (aA (dv 0) (bz T.yr rfl)) ak)))))
 au)))))
theorem qh(T:Txt K mg t):fO P w K mg base (gi P w) 5 (t.A 17) (t.Q 17) ["ties","places"] (spD K 2 m_look_at_ties) "look_at_ties" (top 42) :=
 oE T.g sc (i:=17) rfl λ_ _ _ _ _ _ _ hr=>(
 (ah (cB (DW.dt (ez (cP (cu (dj pM rfl T.n_isinstance rfl T.n_list PyProof.Rows.Boot.«list» (dv 0)))) (bT (aZ vy (dq λ_ _ _ _=>rb _) (bI cC eg rfl T.n_len PyProof.Rows.Boot.«len» (aa (dv 0) ak)) (bz T.kH rfl) nm))))
 (ah (fg T.bW.xc T.gC T.dy T.gD ((d9 T).mono (by decide:1<=3)) T.eO (by decide) (by decide) hr T.gq hr.hd rfl (aa b8 (aa cf ak)))
 au)
 au)
 (ah (yj XG rfl (qP rfl T.n_enumerate (dv 0)) (pb rfl (cc (i:=2) (nd 17) rfl (UC rfl) (cc (i:=3) (nd 17) rfl (UC rfl) jl))) iH
 (ah (cB (DW.dt (ez (cP (cu (rC (Fj T) hr (aa (dv 3) ak)))) (ez (aZ (mq hr.units) my (aA (dv 3) (bz T.uM rfl)) (dv 1) rfl) (bT (aZ (mq hr.units) my (aA (dv 3) (bz T.jv rfl)) (dv 1) rfl)))))
 (ah (fg T.bW.xc T.gC T.dy T.gD ((d9 T).mono (by decide:1<=3)) T.eO (by decide) (by decide) hr T.gq hr.hd rfl (aa b8 (aa (dv 2) ak)))
 au)
 au)
 au))
 au)))
theorem pG(T:Txt K mg t):fO P w K mg base CX0 2 (t.A 18) (t.Q 18) ["thing","places"] (spD K 2 m_is_place) "is_place" (top 43) :=
 oD T.g sc (i:=18) rfl λ_ _ _ _ _ _ _ hr=>(
 (ah (bw (lV (rC (jc T) hr (aa (dv 0) ak)) (kB (eN (zv hr.units) zG (dv 0) (dv 1) rfl))))
 au))
theorem gH(T:Txt K mg t):fO P w K mg base (gi P w) 6 (t.A 19) (t.Q 19) ["thing"] (spD K 1 m_look_at_web) "look_at_web" (top 40) :=
 oE T.g sc (i:=19) rfl λ_ _ _ _ _ _ _ hr=>(
 (ah (cB (DW.dt (ez (cP (cu (dj ji rfl T.n_isinstance rfl T.n_tuple PyProof.Rows.Boot.«tuple» (dv 0)))) (bT (aZ (jb hr.units) mz (bI cC eg rfl T.n_len PyProof.Rows.Boot.«len» (aa (dv 0) ak)) aj nm))))
 (ah (fg T.bW.xc T.gC T.dy T.gD ((d9 T).mono (by decide:1<=4)) T.eO (by decide) (by decide) hr T.gq hr.hd rfl (aa b8 (aa cf ak)))
 au)
 au)
 (ah (qM (rC (mw T) hr (aa (aA (dv 0) (bz T.gR rfl)) ak)))
 (ah (qM (rC (qh T) hr (aa (aA (dv 0) (bz T.lX rfl)) (aa (aA (dv 0) (bz T.gR rfl)) ak))))
 (ah (cB (cP (cu (rC (pG T) hr (aa (aA (dv 0) (bz T.nZ rfl)) (aa (aA (dv 0) (bz T.gR rfl)) ak)))))
 (ah (fg T.bW.xc T.gC T.dy T.gD ((d9 T).mono (by decide:1<=4)) T.eO (by decide) (by decide) hr T.gq hr.hd rfl (aa b8 (aa cf ak)))
 au)
 au)
 (ah (cB (DW.dt (ez (cP (cu (rC (pG T) hr (aa (aA (dv 0) (bz T.lY rfl)) (aa (aA (dv 0) (bz T.gR rfl)) ak))))) (bT (aZ (cq hr.units) dr (aA (dv 0) (bz T.lY rfl)) (aA (dv 0) (bz T.nZ rfl)) nm))))
 (ah (fg T.bW.xc T.gC T.dy T.gD ((d9 T).mono (by decide:1<=4)) T.eO (by decide) (by decide) hr T.gq hr.hd rfl (aa b8 (aa cf ak)))
 au)
 au)
 au))))))
theorem oP(T:Txt K mg t):fO P w K mg base CX0 2 (t.A 20) (t.Q 20) ["some"] (spD K 1 m_shared_bottom) "shared_bottom" (top 49) :=
 oD T.g sc (i:=20) rfl λ_ _ _ _ _ _ _ hr=>(
 (ah (bh (i:=1) (nd 20) rfl (UC rfl) aj)
 (ah (uv Vc rfl (dv 0) (cw (i:=2) (nd 20) rfl (UC rfl)) cG
 (ah (bh (i:=1) (nd 20) rfl (UC rfl) (eM (kC (dv 1) (rC (eF T) hr (aa (dv 1) (aa (aA (dv 2) aj) ak)))) (aA (dv 2) aj)))
 au))
 (ah (bw (dv 1))
 au))))
theorem zB(T:Txt K mg t):fO P w K mg base CX0 1 (t.A 21) (t.Q 21) ["one","bottom"] (spD K 2 m_as_whole) "as_whole" (top 50) :=
 oD T.g sc (i:=21) rfl λ_ _ _ _ _ _ _ _=>(
 (ah (bw (eM (aA (dv 0) aj) (kC (dv 1) (aA (dv 0) aj))))
 au))
theorem qg(T:Txt K mg t):fO P w K mg base CX0 3 (t.A 22) (t.Q 22) ["some"] (spD K 1 m_on_one_scale) "on_one_scale" (top 48) :=
 oD T.g sc (i:=22) rfl λ_ _ _ _ H _ _ hr=>(
 (ah (bh (i:=1) (nd 22) rfl (XM rfl) (rC (oP T) hr (aa (v9 (B7 ["one"] 1 [] rfl (kZ (dv 0)) (gE (by decide)) (λs H C fp pn=>⟨λHe H0e=>(cw (i:=0) (show WB (["one"]:List Str) from by decide) rfl (UC rfl)),(D6 (aZ CT CW (dv 0) cf nm)),(dv 0)⟩) ⟨rfl,rfl⟩ rfl rfl rfl rfl)) ak)))
 (ah (bw (bZ (aa (v9 (B7 ["one","bottom"] 1 [1] rfl (kZ (dv 0)) (gE (by decide)) (λs H C fp pn=>⟨λHe H0e=>(cw (i:=0) (show WB (["one","bottom"]:List Str) from by decide) rfl (UC rfl)),nT,(uy (aZ jW jY (dv 0) cf nm) cf (rC (zB T) hr (aa (dv 0) (aa (dv 1) ak))))⟩) ⟨rfl,rfl⟩ rfl rfl rfl rfl)) (aa (dv 1) ak))))
 au)))
theorem mv(T:Txt K mg t):fO P w K mg base CX0 4 (t.A 23) (t.Q 23) ["web"] (spD K 1 m_scaled_lengths) "scaled_lengths" (top 53) :=
 oD T.g sc (i:=23) rfl λ_ _ _ _ H _ _ hr=>(
 (ah (bw (rC (qg T) hr (aa (v9 (B7 ["tie"] 1 [] rfl (kZ (aA (dv 0) (bz T.lX rfl))) (gE (by decide)) (λs H C fp pn=>⟨λHe H0e=>(cw (i:=0) (show WB (["tie"]:List Str) from by decide) rfl (UC rfl)),nT,(aA (dv 0) (bz T.nY rfl))⟩) ⟨rfl,rfl⟩ rfl rfl rfl rfl)) ak)))
 au))
theorem rP(T:Txt K mg t):fO P w K mg base CX0 1 (t.A 24) (t.Q 24) ["tie"] (spD K 1 m_steps_along) "steps_along" (top 45) :=
 oD T.g sc (i:=24) rfl λ_ _ _ _ _ _ _ hr=>(
 (ah (bh (i:=1) (nd 24) rfl (UC rfl) (bZ (aa (aA (dv 0) (bz T.uM rfl)) (aa (aA (dv 0) (bz T.jv rfl)) ak))))
 (ah (cB (aZ (cq hr.units) dr (aA (dv 0) (bz T.uL rfl)) b8 nm)
 (ah (bw (bG (aa (dv 1) ak)))
 au)
 au)
 (ah (bw (bG (aa (dv 1) (aa (bZ (aa (aA (dv 0) (bz T.jv rfl)) (aa (aA (dv 0) (bz T.uM rfl)) ak))) ak))))
 au))))
theorem va(T:Txt K mg t):fO P w K mg base CX0 2 (t.A 25) (t.Q 25) ["web","taken"] (spD K 2 m_steps_left) "steps_left" (top 46) :=
 oD T.g sc (i:=25) rfl λ_ _ _ _ _ _ _ hr=>(
 (ah (lS (i:=2) (nd 25) rfl (UC rfl) (pd ak))
 (ah (yj Vc rfl (qP rfl T.n_enumerate (aA (dv 0) (bz T.lX rfl))) (pb rfl (cc (i:=3) (nd 25) rfl (UC rfl) (cc (i:=4) (nd 25) rfl (UC rfl) jl))) iH
 (ah (cB (aZ (mq hr.units) my (dv 3) (dv 1) rfl)
 (ah (uv Vc rfl (rC (rP T) hr (aa (dv 4) ak)) (pb rfl (cc (i:=5) (nd 25) rfl (UC rfl) (cc (i:=6) (nd 25) rfl (UC rfl) jl))) iH
 (ah (iO (i:=2) rfl (UC rfl) (bZ (aa (dv 3) (aa (dv 5) (aa (dv 6) ak)))))
 au))
 au)
 au)
 au))
 (ah (bw (dv 2))
 au))))
theorem jG(T:Txt K mg t):fO P w K mg base CX0 1 (t.A 26) (t.Q 26) ["steps","sizes","found"] (spD K 3 m_nearest_step) "nearest_step" (top 55) :=
 oD T.g sc (i:=26) rfl λ_ _ _ _ _ _ _ hr=>(
 (ah (bh (i:=3) (nd 26) rfl (UC rfl) cf)
 (ah (uv Vc rfl (dv 0) (pb rfl (cc (i:=4) (nd 26) rfl (UC rfl) (cc (i:=5) (nd 26) rfl (UC rfl) (cc (i:=6) (nd 26) rfl (UC rfl) jl)))) iH
 (ah (cB (DW.dt (Ja (aZ (HJ (un1 hr.units)) HQ (dv 5) (dv 2) rfl) (ur (aZ (vz (un1 hr.units)) vB (dv 6) (dv 2) rfl))))
 (ah (bh (i:=7) (nd 26) rfl (UC rfl) (cQ (aA (nU (un1 hr.units) (dv 2) (dv 5)) aj) (aA (dv 1) (dv 4))))
 (ah (cB (DW.dt (ez (aZ jW jY (dv 3) cf nm) (bT (aZ zt (dq λ_ _ _ _=>rb _) (dv 7) (aA (dv 3) aj) nm))))
 (ah (bh (i:=3) (nd 26) rfl (UC rfl) (bZ (aa (dv 6) (aa (dv 7) (aa (cQ (aA (nU (un1 hr.units) (dv 2) (dv 5)) aj) (bG (aa (dv 4) ak))) ak)))))
 au)
 au)
 au))
 au)
 au))
 (ah (bw (dv 3))
 au))))
theorem rR(T:Txt K mg t):fO P w K mg base CX0 3 (t.A 27) (t.Q 27) ["web","taken","sizes"] (spD K 3 m_all_reached) "all_reached" (top 54) :=
 oD T.g sc (i:=27) rfl λ_ _ _ _ _ _ _ hr=>(
 (ah (bh (i:=3) (nd 27) rfl (UC rfl) (rC (va T) hr (aa (dv 0) (aa (dv 1) ak))))
 (ah (D5 (i:=4) (nd 27) rfl (UC rfl) (FR (aA (dv 0) (bz T.nZ rfl)) (bZ (aa aj (aa (bG ak) ak)))))
 (ah (D3 (i:=5) (nd 27) rfl (UC rfl) (rC (jG T) hr (aa (dv 3) (aa (dv 2) (aa (dv 4) ak)))))
 (ah (uu _ Vc (aZ CT CW (dv 5) cf nm)
 (ah (D4 (i:=4) (un1 hr.units) rfl (UC rfl) (bZ (aa (aA (dv 5) aj) (aa (aA (dv 5) aj) ak))) (aA (dv 5) aj))
 (ah (D3 (i:=5) (nd 27) rfl (UC rfl) (rC (jG T) hr (aa (dv 3) (aa (dv 2) (aa (dv 4) ak)))))
 au)))
 (ah (bw (dv 4))
 au))))))
theorem zy(T:Txt K mg t):fO P w K mg base CX0 2 (t.A 28) (t.Q 28) ["top","bottom"] (spD K 2 m_ratio) "ratio" (top 18) :=
 oD T.g sc (i:=28) rfl λ_ _ _ _ _ _ _ hr=>(
 (ah (cB (DW.dt (ez (cP (cu (rC (fG T) hr (aa (dv 0) ak)))) (bT (cP (cu (rC (fG T) hr (aa (dv 1) ak)))))))
 (ah AJ
 au)
 au)
 (ah (cB (aZ (cq hr.units) dr (dv 1) aj nm)
 (ah AJ
 au)
 au)
 (ah (bh (i:=2) (nd 28) rfl (UC rfl) (rC (eF T) hr (aa (dv 0) (aa (dv 1) ak))))
 (ah (cB (aZ zt (dq λ_ _ _ _=>rb _) (dv 1) aj nm)
 (ah (bh (i:=2) (nd 28) rfl (UC rfl) (B6 (dv 2)))
 au)
 au)
 (ah (bw (bZ (aa (kC (dv 0) (dv 2)) (aa (kC (dv 1) (dv 2)) ak))))
 au))))))
theorem g9(T:Txt K mg t):fO P w K mg base CX0 5 (t.A 29) (t.Q 29) ["web","taken"] (spD K 2 m_shortest) "shortest" (top 52) :=
 oD T.g sc (i:=29) rfl λ_ _ _ _ _ _ _ hr=>(
 (ah (bh (i:=2) (nd 29) rfl (UC rfl) (rC (mv T) hr (aa (dv 0) ak)))
 (ah (bh (i:=3) (nd 29) rfl (UC rfl) (rC (rR T) hr (aa (dv 0) (aa (dv 1) (aa (aA (dv 2) aj) ak)))))
 (ah (D5 (i:=4) (nd 29) rfl (UC rfl) LK)
 (ah (uv Vc rfl (aA (dv 0) (bz T.gR rfl)) (cw (i:=5) (nd 29) rfl (UC rfl)) cG
 (ah (D4 (i:=4) (un1 hr.units) rfl (UC rfl) (uy (aZ (HJ (un1 hr.units)) HQ (dv 5) (dv 3) rfl) (rC (zy T) hr (aa (aA (nU (un1 hr.units) (dv 3) (dv 5)) aj) (aa (aA (dv 2) aj) ak))) cf) (dv 5))
 au))
 (ah (cB (aZ (vz (un1 hr.units)) vB (aA (dv 0) (bz T.lY rfl)) (dv 3) rfl)
 (ah (bw (bZ (aa cf (aa cf (aa (dv 4) ak)))))
 au)
 au)
 (ah (bw (bZ (aa (aA (nU (un1 hr.units) (dv 3) (aA (dv 0) (bz T.lY rfl))) aj) (aa (nU (un1 hr.units) (dv 4) (aA (dv 0) (bz T.lY rfl))) (aa (dv 4) ak)))))
 au)))))))
theorem HL(T:Txt K mg t):fO P w K mg base CX0 3 (t.A 30) (t.Q 30) ["one","other"] (spD K 2 m_minus) "minus" (top 19) :=
 oD T.g sc (i:=30) rfl λ_ _ _ _ _ _ _ hr=>(
 (ah (bw (rC (zy T) hr (aa (lU (eM (aA (dv 0) aj) (aA (dv 1) aj)) (eM (aA (dv 1) aj) (aA (dv 0) aj))) (aa (eM (aA (dv 0) aj) (aA (dv 1) aj)) ak))))
 au))
theorem pE(T:Txt K mg t):fO P w K mg base CX0 4 (t.A 31) (t.Q 31) ["length","length_without"] (spD K 2 m_value_by) "value_by" (top 58) :=
 oD T.g sc (i:=31) rfl λ_ _ _ _ _ _ _ hr=>(
 (ah (cB (aZ jW jY (dv 0) cf nm)
 (ah (bw b8)
 au)
 au)
 (ah (cB (aZ jW jY (dv 1) cf nm)
 (ah (bw b8)
 au)
 au)
 (ah (bw (rC (HL T) hr (aa (dv 1) (aa (dv 0) ak))))
 au))))
theorem lA(T:Txt K mg t):fO P w K mg base (gi P w) 7 (t.A 32) (t.Q 32) ["web"] (spD K 1 eG) "values_all" (top 59) :=
 oE T.g sc (i:=32) rfl λ_ _ _ _ _ _ _ hr=>(
 (ah (qM (rC (gH T) hr (aa (dv 0) ak)))
 (ah (bh (i:=1) (nd 32) rfl (UC rfl) (aA (rC (g9 T) hr (aa (dv 0) (aa (bG ak) ak))) aj))
 (ah (lS (i:=2) (nd 32) rfl (UC rfl) (pd ak))
 (ah (yi XG rfl rfl T.n_range (bI cC eg rfl T.n_len PyProof.Rows.Boot.«len» (aa (aA (dv 0) (bz T.lX rfl)) ak)) (cw (i:=3) (nd 32) rfl (UC rfl)) cG
 (ah (bh (i:=4) (nd 32) rfl (UC rfl) (rC (g9 T) hr (aa (dv 0) (aa (bG (aa (dv 3) ak)) ak))))
 (ah (iO (i:=2) rfl (UC rfl) (bZ (aa (rC (pE T) hr (aa (dv 1) (aa (aA (dv 4) aj) ak))) (aa (aA (dv 4) aj) ak))))
 au)))
 (ah (bw (dv 2))
 au))))))
theorem By(T:Txt K mg t):fO P w K mg base CX0 1 (t.A 33) (t.Q 33) ["one","other"] (spD K 2 m_is_less) "is_less" (top 20) :=
 oD T.g sc (i:=33) rfl λ_ _ _ _ _ _ _ _=>(
 (ah (bw (eN zt (dq λ_ _ _ _=>rb _) (eM (aA (dv 0) aj) (aA (dv 1) aj)) (eM (aA (dv 1) aj) (aA (dv 0) aj)) nm))
 au))
theorem Bx(T:Txt K mg t):fO P w K mg base CX0 2 (t.A 34) (t.Q 34) ["some"] (spD K 1 vD) "most_of" (top 21) :=
 oD T.g sc (i:=34) rfl λ_ _ _ _ _ _ _ hr=>(
 (ah (bh (i:=1) (nd 34) rfl (UC rfl) (aA (dv 0) aj))
 (ah (uv Vc rfl (dv 0) (cw (i:=2) (nd 34) rfl (UC rfl)) cG
 (ah (cB (cu (rC (By T) hr (aa (dv 1) (aa (dv 2) ak))))
 (ah (bh (i:=1) (nd 34) rfl (UC rfl) (dv 2))
 au)
 au)
 au))
 (ah (bw (dv 1))
 au))))
theorem rQ(T:Txt K mg t):fO P w K mg base (gi P w) 8 (t.A 35) (t.Q 35) ["web"] (spD K 1 fw) "most_valued" (top 60) :=
 oE T.g sc (i:=35) rfl λ_ _ _ _ H _ _ hr=>(
 (ah (LD (i:=1) (nd 35) rfl rfl wj (B7 ["told"] 1 [] rfl (kZ (rC (lA T) hr (aa (dv 0) ak))) (gE (by decide)) (λs H C fp pn=>⟨λHe H0e=>(cw (i:=0) (show WB (["told"]:List Str) from by decide) rfl (UC rfl)),nT,(aA (dv 0) aj)⟩) ⟨rfl,rfl⟩ rfl rfl rfl rfl))
 (ah (cB (DW.dt (ez (aZ (cq hr.units) dr (dv 1) (bG ak) nm) (bT (aZ (zv hr.units) zG b8 (dv 1) rfl))))
 (ah (bw (bG ak))
 au)
 au)
 (ah (bh (i:=2) (nd 35) rfl (XM rfl) (uy (aZ (zv hr.units) zG b8 (dv 1) rfl) b8 (rC (Bx T) hr (aa (dv 1) ak))))
 (ah (bw (v9 (B7 ["number","value","greatest"] 2 [2] rfl (qP rfl T.n_enumerate (dv 1)) (GC (by decide)) (λs H C fp pn=>⟨λHe H0e=>(pb rfl (cc (i:=0) (show WB (["number","value","greatest"]:List Str) from by decide) rfl (UC rfl) (cc (i:=1) (show WB (["number","value","greatest"]:List Str) from by decide) rfl (UC rfl) jl))),(D6 (aZ (cq hr.units) dr (dv 1) (dv 2) nm)),(dv 0)⟩) ⟨rfl,rfl⟩ rfl rfl rfl rfl)))
 au)))))
theorem oQ(T:Txt K mg t):fO P w K mg base CX0 2 (t.A 36) (t.Q 36) ["web","thing"] (spD K 2 m_is_tie_number) "is_tie_number" (top 39) :=
 oD T.g sc (i:=36) rfl λ_ _ _ _ _ _ _ hr=>(
 (ah (bw (lV (rC (fG T) hr (aa (dv 1) ak)) (kB (Jm zu zt (gA λ_ _ _ _=>rb _) (gA λ_ _ _ _=>rb _) gB gB aj (dv 1) (bI cC eg rfl T.n_len PyProof.Rows.Boot.«len» (aa (aA (dv 0) (bz T.lX rfl)) ak))))))
 au))
theorem zx(T:Txt K mg t):fO P w K mg base (gi P w) 7 (t.A 37) (t.Q 37) ["web","number"] (spD K 2 dz) "value_of" (top 57) :=
 oE T.g sc (i:=37) rfl λ_ _ _ _ _ _ _ hr=>(
 (ah (qM (rC (gH T) hr (aa (dv 0) ak)))
 (ah (cB (cP (cu (rC (oQ T) hr (aa (dv 0) (aa (dv 1) ak)))))
 (ah (Jc T.c6.xcls T.Dj hr.hd rfl (aa b8 ak))
 au)
 au)
 (ah (bw (rC (pE T) hr (aa (aA (rC (g9 T) hr (aa (dv 0) (aa (bG ak) ak))) aj) (aa (aA (rC (g9 T) hr (aa (dv 0) (aa (bG (aa (dv 1) ak)) ak))) aj) ak))))
 au))))
theorem ix(T:Txt K mg t):fO P w K mg base CX0 9 (t.A 38) (t.Q 38) ["_law_asked","_law_web_here","_law_number"] (spD K 3 bF) "_law_which" (top 73) :=
 oD T.g sc (i:=38) rfl λ_ _ _ _ _ _ _ hr=>(
 (ah (bh (i:=3) (nd 38) rfl (UC rfl) cf)
 (ah (LB ⟨rfl,rfl⟩ (kP (GO (aZ (cq hr.units) dr (dv 0) aj nm) (kP (rK (zx T) hr (aa (dv 1) (aa (dv 2) ak))) wR)) (kP (GO (aZ (cq hr.units) dr (dv 0) aj nm) (kP (rK (lA T) hr (aa (dv 1) ak)) wR)) (kP (GO (aZ (cq hr.units) dr (dv 0) aj nm) (kP (rK (rQ T) hr (aa (dv 1) ak)) wR)) wR))) rfl T.sN (qm T) (nd 38) rfl rfl (λea=>(ah (bh (i:=3) (nd 38) rfl (UC rfl) (dv 4))
 au)))
 (ah (cB (DW.dt (ez (aZ jW jY (dv 3) cf nm) (bT (cP (cu (FU rfl T.n_ValueError PyProof.Rows.Boot.«ValueError» (GJ T) rfl T.n_isinstance (dv 3)))))))
 (ah (bw (bG (aa (eN jW jY (dv 3) cf nm) ak)))
 au)
 au)
 (ah (lS (i:=5) (nd 38) rfl (UC rfl) (pd (aa (v8 rfl T.gq (GH T) rfl T.n_isinstance (dv 3)) (aa (v8 rfl T.Dj (GI T) rfl T.n_isinstance (dv 3)) ak))))
 (ah (iO (i:=5) rfl (UC rfl) (LN (GG T) (nX rfl T.BR (nX rfl T.Ls (nX rfl T.BS (nX rfl T.FG (nX rfl T.FF OD))))) (by simp) rfl T.n_isinstance (dv 3)))
 (ah (cB (cu (aA (dv 5) aj))
 (ah (iO (i:=5) rfl (UC rfl) (bZ (aa (qQ (sO T) (dv 3)) (aa (qQ (mL T) (dv 3)) ak))))
 au)
 au)
 (ah (bw (dv 5))
 au))))))))
theorem lP(T:Txt K mg t):fO P w K mg base CX0 7 (t.A 39) (t.Q 39) ["_law_bad"] (spD K 1 cJ) "_law_web_fields" (top 72) :=
 oD T.g sc (i:=39) rfl λ_ _ _ _ _ _ _ hr=>(
 (ah (bh (i:=1) (nd 39) rfl (UC rfl) cf)
 (ah (Oq ⟨rfl,rfl⟩ (rD (gH T) hr (aa (dv 0) ak)) rfl T.gq (xV T) (nd 39) rfl rfl (λea=>(ah (bh (i:=1) (nd 39) rfl (UC rfl) (bZ (aa (qQ (sO T) (dv 2)) (aa (qQ (mL T) (dv 2)) ak))))
 au)))
 (ah (bw (dv 1))
 au))))
theorem vb(T:Txt K mg t):fO P w K mg base CX0 10 (t.A 40) (t.Q 40) ["_law_state","_law_web_here"] (Gf K 1 dJ) "_law_right" (top 74) :=
 oM T.g sc (i:=40) rfl rfl λ_ _ _ _ _ _ _ _ _ hr=>(
 (ar (cb (i:=2) (nd 40) rfl (UC rfl) (rM 0 (qi T) hr (aI (aF (E:=E0) (dv 1)) aU)))
 (ar (cg (E:=E0) λvs=>(bh (i:=3) (nd 40) rfl (UC rfl) (bI cC eg rfl T.n_len PyProof.Rows.Boot.«len» (aa (aA (dv 1) aj) ak))))
 (ar (cb (i:=4) (nd 40) rfl (UC rfl) (kA (aF (E:=E0) (dv 3)) (rM 0 (aN T) hr (aI (aF (E:=E0) (ym aj aj)) aU))))
 (ar (cg (E:=E0) λvs=>(bh (i:=5) (nd 40) rfl (UC rfl) (bG (aa (dv 3) (aa (B6 aj) (aa (lU aj (dv 3)) (aa (dv 4) (aa dS (aa dS (aa cf (aa b8 (aa (bG (aa aj ak)) (aa (bZ (aa aj ak)) (aa D7 ak))))))))))))))
 (ar (cg (E:=E0) λvs=>(bh (i:=6) (nd 40) rfl (UC rfl) (bI (wt hr) Ec rfl T.n_repr PyProof.Rows.Boot.«repr» (aa (bG (aa (dv 2) (aa (dv 1) ak))) ak))))
 (ar (kQ (E:=E0) Vc rfl (mC (E:=E0) (kY rfl T.n_range aj)) (λvs=>(cw (i:=7) (nd 40) rfl (UC rfl))) cG
 (ar (kQ (E:=E0) Vc rfl (Le (Jf (aI (aF (E:=E0) aj) (aI (fz (aF (E:=E0) (dv 5)) (rM 0 (aN T) hr (aI (aF (E:=E0) aj) aU))) aU)))) (λvs=>(cw (i:=8) (nd 40) rfl (UC rfl))) cG
 (ar (fB (df (E:=E0) (aZ (jb hr.units) mz (rC (ix T) hr (aa (dv 7) (aa (dv 2) (aa (dv 8) ak)))) (bG (aa dS (aa dS (aa dS (aa (rC (lP T) hr (aa (dv 2) ak)) ak))))) nm))
 (ar (dm (E:=E0) dS)
 aS)
 aS)
 aS))
 aS))
 (ar (kQ (E:=E0) Vc rfl (mC (E:=E0) (kZ (dv 5))) (λvs=>(cw (i:=8) (nd 40) rfl (UC rfl))) cG
 (ar (fB (df (E:=E0) (DW.dt (ez (aZ (HH hr.units) HP (dv 8) aj nm) (ez (cu (dj pO rfl T.n_isinstance rfl T.n_bool PyProof.Rows.Boot.«bool» (dv 8))) (bT (aZ (cq hr.units) dr (dv 3) aj nm))))))
 (ar (fB (df (E:=E0) (aZ (jb hr.units) mz (rC (ix T) hr (aa aj (aa (dv 1) (aa (dv 8) ak)))) (bG (aa dS (aa dS (aa dS ak)))) nm))
 (ar (dm (E:=E0) dS)
 aS)
 aS)
 aS)
 aS)
 aS))
 (ar (fB (df (E:=E0) (DW.dt (Ja (aZ vy (dq λ_ _ _ _=>rb _) (dv 3) aj nm) (ur (aZ (jb hr.units) mz (rC (ix T) hr (aa aj (aa (dv 1) (aa (lU (dv 3) aj) ak)))) (bG (aa dS ak)) nm)))))
 (ar (dm (E:=E0) dS)
 aS)
 aS)
 (ar (dm (E:=E0) (eN (cq hr.units) dr (bI (wt hr) Ec rfl T.n_repr PyProof.Rows.Boot.«repr» (aa (bG (aa (dv 2) (aa (dv 1) ak))) ak)) (dv 6) nm))
 aS))))))))))
theorem ok_law(T:Txt K mg t):fO P w K mg base CX0 11 (t.A 41) (t.Q 41) ["_law_script"] (spD K 1 m_law) "law" (top 75) :=
 oD T.g sc (i:=41) rfl λ_ _ _ _ _ _ _ hr=>(
 (ah (yi Vc rfl rfl T.n_range (bI (F1 rfl) OH rfl T.n_max PyProof.Rows.Boot.«max» (aa aj (aa (bI (F0 rfl) OG rfl T.n_min PyProof.Rows.Boot.«min» (aa (bI cC eg rfl T.n_len PyProof.Rows.Boot.«len» (aa (dv 0) ak)) (aa aj ak))) ak))) (cw (i:=1) (nd 41) rfl (UC rfl)) cG
 (FO (i:=2) (nd 41) rfl (UC rfl) (rF (rS T) hr (aa (dv 0) (aa (dv 1) ak))) λa=>(ar (cb (i:=3) (nd 41) rfl (UC rfl) (rM 2 (zC T) hr (aI (aF (E:=E0) aj) (aI (aF (E:=E0) aj) aU))))
 (ar (kQ (E:=E0) Vc rfl (mC (E:=E0) (kY rfl T.n_range aj)) (λvs=>(cw (i:=4) (nd 41) rfl (UC rfl))) cG
 (ar (fB (LI (LH (rM 2 (vb T) hr (aI (aF (E:=E0) (dv 3)) aU))))
 (ar (dm (E:=E0) dS)
 aS)
 aS)
 aS))
 aS))))
 (ah (bw dS)
 au)))
end
theorem txt_mk{h:Heap}(X:K.In h)(G:h.Ns mainGlobals mg)(qs:QAs K rows [a0,a1,a2,a3,a4,a5,a6,a7,a8,a9,a10,a11,a12,a13,a14,a15,a16,a17,a18,a19,a20,a21,a22,a23,a24,a25,a26,a27,a28,a29,a30,a31,a32,a33,a34,a35,a36,a37,a38,a39,a40,a41])
  (z_ValueError:Vk K mainGlobals "ValueError"=some none)
  (z_abs:Vk K mainGlobals "abs"=some none)
  (z_all:Vk K mainGlobals "all"=some none)
  (z_bool:Vk K mainGlobals "bool"=some none)
  (z_enumerate:Vk K mainGlobals "enumerate"=some none)
  (z_int:Vk K mainGlobals "int"=some none)
  (z_isinstance:Vk K mainGlobals "isinstance"=some none)
  (z_len:Vk K mainGlobals "len"=some none)
  (z_list:Vk K mainGlobals "list"=some none)
  (z_max:Vk K mainGlobals "max"=some none)
  (z_min:Vk K mainGlobals "min"=some none)
  (z_range:Vk K mainGlobals "range"=some none)
  (z_repr:Vk K mainGlobals "repr"=some none)
  (z_str:Vk K mainGlobals "str"=some none)
  (z_tuple:Vk K mainGlobals "tuple"=some none)
  (mG:Vk K mainGlobals "CutError"=some (some (.ref bE)))(xK:W7 K (.ref bE)=some (.type "type"))(xO:WR K bE (.type "object")=some true)(xS:U0 K (.ref bE) (.type "BaseException")=some true)
  (mF:Vk K mainGlobals "NoNumber"=some (some (.ref b7)))(xJ:W7 K (.ref b7)=some (.type "type"))(xN:WR K b7 (.type "object")=some true)(xR:U0 K (.ref b7) (.type "BaseException")=some true)
  (pL:Vk K mainGlobals "NoPurse"=some (some (.ref cy)))(zV:W7 K (.ref cy)=some (.type "type"))(zX:WR K cy (.type "object")=some true)(zZ:U0 K (.ref cy) (.type "BaseException")=some true)
  (mE:Vk K mainGlobals "NoTaking"=some (some (.ref b6)))(xI:W7 K (.ref b6)=some (.type "type"))(xM:WR K b6 (.type "object")=some true)(xQ:U0 K (.ref b6) (.type "BaseException")=some true)
  (oZ:Vk K mainGlobals "NoTie"=some (some (.ref aR)))(vI:W7 K (.ref aR)=some (.type "type"))(vK:WR K aR (.type "object")=some true)(vO:U0 K (.ref aR) (.type "BaseException")=some true)
  (vL:Vk K mainGlobals "NoWay"=some (some (.ref dO)))(Ft:W7 K (.ref dO)=some (.type "type"))(Fu:WR K dO (.type "object")=some true)(Fx:U0 K (.ref dO) (.type "BaseException")=some true)
  (oY:Vk K mainGlobals "NoWeb"=some (some (.ref aP)))(vH:W7 K (.ref aP)=some (.type "type"))(vJ:WR K aP (.type "object")=some true)(vN:U0 K (.ref aP) (.type "BaseException")=some true)
  (pK:Vk K mainGlobals "TooMany"=some (some (.ref cx)))(zU:W7 K (.ref cx)=some (.type "type"))(zW:WR K cx (.type "object")=some true)(zY:U0 K (.ref cx) (.type "BaseException")=some true)
  (Ba:VQ K (.ref aR) "__class__"=some (some (.builtin "object.__class__")))(EO:VQ K (.ref aR) "__getattribute__"=some (some (.builtin "BaseException.__getattribute__")))(EM:VQ K (.ref aR) "__getattr__"=some none)(EI:U0 K (.ref aR) (.type "NoneType")=some false)(EG:U0 K (.ref aR) (.type "bool")=some false)(EE:U0 K (.ref aR) (.type "int")=some false)(EC:U0 K (.ref aR) (.type "str")=some false)(EA:U0 K (.ref aR) (.type "tuple")=some false)(Ey:U0 K (.ref aR) (.type "list")=some false)(Eu:U0 K (.ref aR) (.type "dict")=some false)(Es:U0 K (.ref aR) (.type "ValueError")=some true)(yG:U0 K (.ref aR) (.ref aR)=some true)(ER:Xo K aR [.type "ValueError",.type "Exception",.type "BaseException",.type "object"] "ValueError.__new__"=true)
  (A9:VQ K (.ref aP) "__class__"=some (some (.builtin "object.__class__")))(EN:VQ K (.ref aP) "__getattribute__"=some (some (.builtin "BaseException.__getattribute__")))(EL:VQ K (.ref aP) "__getattr__"=some none)(EH:U0 K (.ref aP) (.type "NoneType")=some false)(EF:U0 K (.ref aP) (.type "bool")=some false)(ED:U0 K (.ref aP) (.type "int")=some false)(EB:U0 K (.ref aP) (.type "str")=some false)(Ez:U0 K (.ref aP) (.type "tuple")=some false)(Ew:U0 K (.ref aP) (.type "list")=some false)(Et:U0 K (.ref aP) (.type "dict")=some false)(Er:U0 K (.ref aP) (.type "ValueError")=some true)(yF:U0 K (.ref aP) (.ref aP)=some true)
  
  
  (yI:K.lookup aP=some (excClassObj Qy Qc aP C0 Rl [.ref bE,.type "ValueError",.type "Exception",.type "BaseException",.type "object"] QV PU PN Rr Ph Rj QQ QP QO QN QM "ValueError.__new__")) (yH:K.lookup C0=some ⟨Rk,Q9,.dict IC Q2,PQ⟩) (yJ:IC.toList.all MA=true) (yE:Vk K C0 "__init__"=some (some (.ref eI)))
  (Hl:W.isFn K (.ref eI)=true) (zh:K.lookup eI=some ⟨O9,O8,.func (Ww "__init__" "NoWeb.__init__" (defArgs iJ) (defBody iJ) (defScope iJ) .none Pc Pe O7 Pj FZ Pg),O6⟩) (zg:X5 K FZ "NoWeb.__init__"=true) (zf:WD K (.ref eI)=true)
  (EJ:VQ K (.ref aP) "__setattr__"=some (some (.builtin "object.__setattr__"))) (EK:WC K aP=true) (qX:VQ K (.ref aP) "part"=some none) (ot:VQ K (.ref aP) "number"=some none)
  (l9:Xo K bE [.type "ValueError",.type "Exception",.type "BaseException",.type "object"] "ValueError.__new__"=true) (wO:W.readsIn K bE (.type "type")=true) (wQ:W.findCls K (.ref bE) (.type "type") "__init__"=some (.val (.builtin "ValueError.__init__"))) (wN:XS K (.ref bE) "__getattribute__"=some (some (.builtin "type.__getattribute__")))
  (ff:U0 K (.ref aR) (.ref bE)=some true)
  (fb:U0 K (.ref aR) (.ref b7)=some false)
  (fV:U0 K (.ref aR) (.ref cy)=some false)
  (e9:U0 K (.ref aR) (.ref b6)=some false)
  (iw:U0 K (.ref aR) (.ref aR)=some true)
  (iu:U0 K (.ref aR) (.ref dO)=some false)
  (fv:U0 K (.ref aR) (.ref aP)=some false)
  (fU:U0 K (.ref aR) (.ref cx)=some false)
  (e8:U0 K (.ref aP) (.ref bE)=some true)
  (e7:U0 K (.ref aP) (.ref b7)=some false)
  (fT:U0 K (.ref aP) (.ref cy)=some false)
  (eZ:U0 K (.ref aP) (.ref b6)=some false)
  (ir:U0 K (.ref aP) (.ref aR)=some false)
  (iq:U0 K (.ref aP) (.ref dO)=some false)
  (fu:U0 K (.ref aP) (.ref aP)=some true)
  (fS:U0 K (.ref aP) (.ref cx)=some false)
  (p9:Vk K mainGlobals "FEWEST_PLACES"=some (some (.int 2 Ge)))
  (JY:Vk K mainGlobals "FIRST"=some (some (.int 2 RL)))
  (M7:Vk K mainGlobals "LAST"=some (some (.int 3 R5)))
  (Gn:Vk K mainGlobals "LENGTH"=some (some (.int 3 Pw)))
  (Ep:Vk K mainGlobals "LETTERS"=some (some (.str "abcdefghijklmnopqrstuvwxyz" O2)))
  (qW:Vk K mainGlobals "LONGEST_NAME"=some (some (.int 8 GK)))
  (u5:Vk K mainGlobals "MOST_PLACES"=some (some (.int 7 JO)))
  (yD:Vk K mainGlobals "MOST_TIES"=some (some (.int 14 Mo)))
  (Pn:Vk K mainGlobals "ONE"=some (some (.int 0 Tf)))
  (JX:Vk K mainGlobals "OTHER"=some (some (.int 1 RK)))
  (Gm:Vk K mainGlobals "PLACES"=some (some (.int 0 Pu)))
  (M6:Vk K mainGlobals "TIES"=some (some (.int 1 RZ)))
  (M5:Vk K mainGlobals "WORD"=some (some (.int 2 RY)))
  (JW:Vk K mainGlobals "WORDS"=some (some (.ref Kz))) (J7:K.lookup Kz=some K6) (Kf:∃od its n sl vs,K6=⟨.type "tuple",od,.seq its n,sl⟩/\bH vs its.toList/\its.size<=sizeLine/\∀H,Reps K H [.str "one",.str "both"] vs)
  (JV:Vk K mainGlobals "WORTH"=some (some (.int 4 RJ))) :
  ∃t:Adr,Txt K mg t/\t.A 41=a41/\∃kV doc pm an cdv ct,t.Q 41=Ww "law" "law" (defArgs (top 75)) (defBody (top 75)) (defScope (top 75)) .none kV doc pm an cdv ct:=by
 obtain⟨Q,hQ⟩:=Mn X G bn qs;have D_law:=(hQ 41 _ rfl).2;refine⟨⟨eI,_,bE,b7,cy,b6,aR,dO,aP,cx,λi=>[a0,a1,a2,a3,a4,a5,a6,a7,a8,a9,a10,a11,a12,a13,a14,a15,a16,a17,a18,a19,a20,a21,a22,a23,a24,a25,a26,a27,a28,a29,a30,a31,a32,a33,a34,a35,a36,a37,a38,a39,a40,a41].getD i 0,Q⟩,⟨λi r h=>(hQ i r h).1,Vt X G z_ValueError,Vt X G z_abs,Vt X G z_all,Vt X G z_bool,Vt X G z_enumerate,Vt X G z_int,Vt X G z_isinstance,Vt X G z_len,Vt X G z_list,Vt X G z_max,Vt X G z_min,Vt X G z_range,Vt X G z_repr,Vt X G z_str,Vt X G z_tuple,VH X G mG,⟨mG,xK,xO,xS⟩,VH X G mF,⟨mF,xJ,xN,xR⟩,VH X G pL,⟨pL,zV,zX,zZ⟩,VH X G mE,⟨mE,xI,xM,xQ⟩,VH X G oZ,⟨oZ,vI,vK,vO⟩,VH X G vL,⟨vL,Ft,Fu,Fx⟩,VH X G oY,⟨oY,vH,vJ,vN⟩,VH X G pK,⟨pK,zU,zW,zY⟩,⟨⟨oZ,vI,vK,vO⟩,Ba,EO,EM,EI,EG,EE,EC,EA,Ey,Eu,Es,yG,ER⟩,⟨⟨oY,vH,vJ,vN⟩,A9,EN,EL,EH,EF,ED,EB,Ez,Ew,Et,Er,yF⟩,xX zh zg zf,?eO,Gp yI yH yJ yE l9,M8 (Gp yI yH yJ yE l9) EJ EK (zJ qX ( zJ ot (K8))),Hl,⟨wO,wQ,wN⟩,ff,fb,fV,e9,iw,iu,fv,fU,e8,e7,fT,eZ,ir,iq,fu,fS,?fZ,?nZ,?lY,?nY,?pj,?gS,?iC,?kH,?uM,?jv,?gR,?lX,?uL,?yt,?yr⟩,rfl,D_law⟩
 case eO=>exact(xX (st:=iJ) zh zg zf).binds λ_ _ _ _ _ _ us hl=>by obtain⟨_,_,_,rfl⟩:=Tx hl;rfl
 case fZ=>exact dN (VH X G p9)
 case nZ=>exact dN (VH X G JY)
 case lY=>exact dN (VH X G M7)
 case nY=>exact dN (VH X G Gn)
 case pj=>exact Lm (VH X G Ep)
 case gS=>exact dN (VH X G qW)
 case iC=>exact dN (VH X G u5)
 case kH=>exact dN (VH X G yD)
 case uM=>exact dN (VH X G Pn)
 case jv=>exact dN (VH X G JX)
 case gR=>exact dN (VH X G Gm)
 case lX=>exact dN (VH X G M6)
 case uL=>exact dN (VH X G M5)
 case yt =>
  obtain⟨od,its,n,sl,vs,rfl,h1,h2,h3⟩:=Kf;exact Ll (VH X G JW) J7 h1 h2 h3
 case yr=>exact dN (VH X G JV)
theorem txt_wr{R:Adr->Prop}(h:∃t:Adr,Txt K mg t/\t.A 41=a/\R t):∃t:Adr,Txt K mg t/\mg "law"=some (.ref (t.A 41))/\R t:=h.elim λt ⟨T,_,r⟩=>⟨t,T,(T.g 41 _ rfl).g,r⟩
end K21
namespace Nwb
open PySem L2 DL Com Bor
theorem GS:lM (.tup [a,b,c,d,e]) none (some 0)=.ok (.tup []):=(ef (by rfl)).trans rfl
theorem GR:lM (.tup [a,b,c,d,e]) none (some 1)=.ok (.tup [a]):=(ef (by rfl)).trans rfl
theorem sl2:lM (.tup [a,b,c,d,e]) none (some 2)=.ok (.tup [a,b]):=(ef (by rfl)).trans rfl
theorem sl3:lM (.tup [a,b,c,d,e]) none (some 3)=.ok (.tup [a,b,c]):=(ef (by rfl)).trans rfl
theorem GQ:lM (.tup [a,b,c,d,e]) none (some 4)=.ok (.tup [a,b,c,d]):=(ef (by rfl)).trans rfl
theorem GZ:lM (.tup [a,b,c,d,e]) (some 1) none=.ok (.tup [b,c,d,e]):=(ef (by rfl)).trans rfl
theorem GY:lM (.tup [a,b,c,d,e]) (some 2) none=.ok (.tup [c,d,e]):=(ef (by rfl)).trans rfl
theorem GX:lM (.tup [a,b,c,d,e]) (some 3) none=.ok (.tup [d,e]):=(ef (by rfl)).trans rfl
theorem GW:lM (.tup [a,b,c,d,e]) (some 4) none=.ok (.tup [e]):=(ef (by rfl)).trans rfl
theorem GV:lM (.tup [a,b,c,d,e]) (some 5) none=.ok (.tup []):=(ef (by rfl)).trans rfl
theorem JA:wg (.tup []) (.tup es)=.ok (.tup es):=rfl
theorem Jz(h:decide ((d::ds).length+es.length<=1000)=true):wg (.tup (d::ds)) (.tup es)=.ok (.tup (d::ds++es)):=if_pos ⟨rfl,UO (of_decide_eq_true h) (by decide)⟩
theorem Cj(a:Addr)(h2:2<=zs.length)(nm:eQ zs)(ho:o∈iL)(S:St st) :
  ∃d st',bb a st [.lst (zs.map D.str),o]=.ok (d,st')/\m_is_tie [d]=.ok (.bl false)/\Rp d 3000 2/\St st':=by
 obtain⟨n0,k0,j0⟩:=i4 (zs:=zs) (k:=0) (by decide) (by omega);obtain⟨n1,k1,j1⟩:=i4 (zs:=zs) (k:=1) (by decide) (by omega);have hn:n0≠n1:=j6 nm.nd k0 k1 (by decide);have b0:=nm.nm n0 (UA k0);have b1:=nm.nm n1 (UA k1);have r0:=(eD b0).up (n':=500) (k':=1) (by decide) (by decide);have r1:=(eD b1).up (n':=500) (k':=1) (by decide) (by decide);have rwd:Rp (.str "one") 500 1:=(Rp.str (n:=3) (by decide +kernel) (by decide +kernel)).up (by decide) (by decide);have rl:Rp (.tup [.int 1,.int 1]) 500 1:=(Rp.tup (k:=0) (c3.cons (Rp.int (by decide)) (c3.cons (Rp.int (by decide)) c3.nil))).up (by simp) (UB _);have rn:Rp .non 500 1:=Rp.non.up (by decide) (by decide);have five':∀{d0 d1 d2 d3 d4:D},Rp d0 500 1->Rp d1 500 1->Rp d2 500 1->Rp d3 500 1->Rp d4 500 1->Rp (.tup [d0,d1,d2,d3,d4]) 3000 2:=λh0 h1 h2 h3 h4=>(Rp.tup (c3.cons h0 (c3.cons h1 (c3.cons h2 (c3.cons h3 (c3.cons h4 c3.nil)))))).up (by simp) (UB _);obtain⟨p,st1,t1,p0,p1,S1⟩:=bx a (n:=5) (by decide) (by decide) S;have hp:p=0∨p=1∨p=2∨p=3∨p=4:=by omega
 rcases hp with rfl|rfl|hp
 .refine⟨.tup [.str n1,.str n1,.str "one",.tup [.int 1,.int 1],.non],st1,?_,yT b1,five' r1 r1 rwd (rl.up (by decide) (by decide)) (rn.up (by decide) (by decide)),S1⟩
  open_line with[bb,bC,j0,j1,t1,decide_eq_false (show ¬(0:Int) > 1 by decide),GS,GR,sl2,sl3,GQ,GZ,GY,GX,GW,GV,JA,Jz,Int.reduceAdd,UT]
 .refine⟨.tup [.str n0,.str n0,.str "one",.tup [.int 1,.int 1],.non],st1,?_,yT b0,five' r0 r0 rwd (rl.up (by decide) (by decide)) (rn.up (by decide) (by decide)),S1⟩
  open_line with[bb,bC,j0,j1,t1,decide_eq_false (show ¬(1:Int) > 1 by decide),GS,GR,sl2,sl3,GQ,GZ,GY,GX,GW,GV,JA,Jz,Int.reduceAdd,UT]
 .have hg:decide (p > 1)=true:=decide_eq_true (by omega)
  have hq:∀base:D,base=.str "two"∨base=.tup [.int 2,.int 2]∨base=.tup [.int 0,.int 1]->∃v st2,aG a st1 [.int 2]=.ok (.int v,st2)/\((v==0)=false/\St st2/\iz base .non=.ok (.bl false)∨((v==0)=true/\∃k st3 x,aG a st2 [.int 4]=.ok (.int k,st3)/\St st3/\bf (.lst [o,.tup [.int (-1),.int 2],.tup [.bl true,.int 1],.lst [.int 1,.int 1]]) (.int k)=.ok x/\(x=.non∨x∈iS/\iz x .non=.ok (.bl false)))):=by
   intro base hb;obtain⟨v,st2,t2,v0,v1,S2⟩:=bx a (n:=2) (by decide) (by decide) S1;refine⟨v,st2,t2,?_⟩;cases hv:(v==0) with
   |false=>exact .inl ⟨rfl,S2,by rcases hb with rfl|rfl|rfl<;>rfl⟩
   |true =>
    obtain⟨k,st3,t3,q0,q1,S3⟩:=bx a (n:=4) (by decide) (by decide) S2;obtain⟨x,hx,jx⟩:=jj (ds:=[o,.tup [.int (-1),.int 2],.tup [.bl true,.int 1],.lst [.int 1,.int 1]]) q0 (by simpa using q1);refine .inr ⟨rfl,k,st3,x,t3,S3,jx,?_⟩;simp only[Uv,US,or_false] at hx;simp only[iL,Uv,US,or_false] at ho;rcases hx with rfl|rfl|rfl|rfl
    .rcases ho with rfl|rfl|rfl|rfl|rfl|rfl|rfl|rfl|rfl
     .exact .inl rfl
     all_goals exact .inr ⟨by simp [iS],rfl⟩
    all_goals exact .inr ⟨by simp [iS],rfl⟩
  have neg1:∀k:Int,-k=-k:=λ_=>rfl;rcases hp with rfl|rfl|rfl
  .obtain⟨v,st2,t2,h⟩:=hq (.str "two") (.inl rfl)
   rcases h with⟨hv,S2,hN⟩|⟨hv,k,st3,x,t3,S3,jx,rfl|⟨hb,hN⟩⟩
   .refine⟨.tup [.str n0,.str n1,.str "two",.tup [.int 1,.int 1],.non],st2,?_,qZ b0 b1 hn (by simp),five' r0 r1 (jy _ (by simp)) rl rn,S2⟩
    open_line with[bb,bC,j0,j1,t1,hg,t2,hv,hN,GS,GR,sl2,sl3,GQ,GZ,GY,GX,GW,GV,JA,Jz,Int.reduceAdd,UT]
   .refine⟨.tup [.str n0,.str n1,.str "x",.tup [.int 1,.int 1],.non],st3,?_,qZ b0 b1 hn (by simp [iS]),five' r0 r1 (jy _ (by simp [iS])) rl rn,S3⟩
    open_line with[bb,bC,j0,j1,t1,hg,t2,hv,t3,jx,GS,GR,sl2,sl3,GQ,GZ,GY,GX,GW,GV,JA,Jz,Int.reduceAdd,UT]
   .refine⟨.tup [.str n0,.str n1,x,.tup [.int 1,.int 1],.non],st3,?_,qZ b0 b1 hn (Uu _ hb),five' r0 r1 (jy _ (by simp [hb])) rl rn,S3⟩
    open_line with[bb,bC,j0,j1,t1,hg,t2,hv,t3,jx,hN,GS,GR,sl2,sl3,GQ,GZ,GY,GX,GW,GV,JA,Jz,Int.reduceAdd,UT]
  .obtain⟨v,st2,t2,h⟩:=hq (.tup [.int 2,.int 2]) (.inr (.inl rfl))
   rcases h with⟨hv,S2,hN⟩|⟨hv,k,st3,x,t3,S3,jx,rfl|⟨hb,hN⟩⟩
   .refine⟨.tup [.str n0,.str n1,.str "one",.tup [.int 2,.int 2],.non],st2,?_,lK b0 b1 hn (by simp),five' r0 r1 rwd (jy _ (by simp)) rn,S2⟩
    open_line with[bb,bC,j0,j1,t1,hg,t2,hv,hN,GS,GR,sl2,sl3,GQ,GZ,GY,GX,GW,GV,JA,Jz,Int.reduceAdd,UT]
   .refine⟨.tup [.str n0,.str n1,.str "one",.str "x",.non],st3,?_,lK b0 b1 hn (by simp [iS]),five' r0 r1 rwd (jy _ (by simp [iS])) rn,S3⟩
    open_line with[bb,bC,j0,j1,t1,hg,t2,hv,t3,jx,GS,GR,sl2,sl3,GQ,GZ,GY,GX,GW,GV,JA,Jz,Int.reduceAdd,UT]
   .refine⟨.tup [.str n0,.str n1,.str "one",x,.non],st3,?_,lK b0 b1 hn (Uu _ hb),five' r0 r1 rwd (jy _ (by simp [hb])) rn,S3⟩
    open_line with[bb,bC,j0,j1,t1,hg,t2,hv,t3,jx,hN,GS,GR,sl2,sl3,GQ,GZ,GY,GX,GW,GV,JA,Jz,Int.reduceAdd,UT]
  .obtain⟨v,st2,t2,h⟩:=hq (.tup [.int 0,.int 1]) (.inr (.inr rfl))
   rcases h with⟨hv,S2,hN⟩|⟨hv,k,st3,x,t3,S3,jx,rfl|⟨hb,hN⟩⟩
   .refine⟨.tup [.str n0,.str n1,.str "one",.tup [.int 1,.int 1],.tup [.int 0,.int 1]],st2,?_,oA b0 b1 hn (by simp),five' r0 r1 rwd rl (jy _ (by simp)),S2⟩
    open_line with[bb,bC,j0,j1,t1,hg,t2,hv,hN,GS,GR,sl2,sl3,GQ,GZ,GY,GX,GW,GV,JA,Jz,Int.reduceAdd,UT]
   .refine⟨.tup [.str n0,.str n1,.str "one",.tup [.int 1,.int 1],.str "x"],st3,?_,oA b0 b1 hn (by simp [iS]),five' r0 r1 rwd rl (jy _ (by simp [iS])),S3⟩
    open_line with[bb,bC,j0,j1,t1,hg,t2,hv,t3,jx,GS,GR,sl2,sl3,GQ,GZ,GY,GX,GW,GV,JA,Jz,Int.reduceAdd,UT]
   .refine⟨.tup [.str n0,.str n1,.str "one",.tup [.int 1,.int 1],x],st3,?_,oA b0 b1 hn (Uu _ hb),five' r0 r1 rwd rl (jy _ (by simp [hb])),S3⟩
    open_line with[bb,bC,j0,j1,t1,hg,t2,hv,t3,jx,hN,GS,GR,sl2,sl3,GQ,GZ,GY,GX,GW,GV,JA,Jz,Int.reduceAdd,UT]
theorem Jo{k:Nat}(h:k<=xs.length):jr xs (some (k:Int)) none=xs.drop k:=by
 unfold jr;rw[HT.sIx_nat,HT.sIx_none,Nat.min_eq_left h];exact Yt (by simp)
theorem K3:∀o∈iL,m_look_at_web [o]=.exn (oq "web" .non):=by
 intro o ho;simp only[iL,Uv,US,or_false] at ho;rcases ho with rfl|rfl|rfl|rfl|rfl|rfl|rfl|rfl|rfl
 all_goals first|exact yQ rfl|exact qY (by decide)
theorem HN:∀o∈iL,o=.lst []∨eS "list" o=.ok (.bl false):=by
 intro o ho;simp only[iL,Uv,US,or_false] at ho;rcases ho with rfl|rfl|rfl|rfl|rfl|rfl|rfl|rfl|rfl
 all_goals first|exact .inl rfl|exact .inr rfl
theorem N0:∀o∈iL,(o=.lst []/\vg o (.lst [])=.ok (.bl false))∨(eS "list" o=.ok (.bl false)/\vg o (.lst [])=.ok (.bl true)):=by
 intro o ho;simp only[iL,Uv,US,or_false] at ho;rcases ho with rfl|rfl|rfl|rfl|rfl|rfl|rfl|rfl|rfl
 all_goals first|exact .inl ⟨rfl,rfl⟩|exact .inr ⟨rfl,rfl⟩
theorem zM(h:nameB z=true):Lu (.str z)=true:=by
 unfold nameB at h;simp only[UU,decide_eq_true_eq] at h;exact decide_eq_true (UO h.2.1 (by decide))
theorem K4(h:o∈iL):Lu o=true:=(mx o h).1
theorem xy(h:o∈iL)(e:o=.str z)(hz:nameB z=true):False:=by
 have:=(mx o h).2;rw[e] at this;have h2:zN (.str z)=nameB z:=rfl;rw[h2,hz] at this;cases this
structure OV (d:D):Prop where
 ex:∃p n,m_look_at_web [d]=.exn (oq p n)/\(n=.non∨∃k:Nat,n=.int (k:Int))
 rp:Rp d 200000 6
theorem oR(W:dw w)(h:∃n,m_look_at_places [P]=.exn (oq "places" n)/\(n=.non∨∃k:Nat,n=.int (k:Int))):∃p n,m_look_at_web [.tup [P,t,f,l]]=.exn (oq p n)/\(n=.non∨∃k:Nat,n=.int (k:Int)):=by
 obtain⟨n,h1,h2⟩:=h;exact⟨_,n,Bc h1,h2⟩
theorem G8(W:dw w):Rp (.lst (w.ps.map D.str)) 20000 5/\Rp (.lst (w.ts.map bo)) 20000 5/\Rp (.str w.fi) 20000 5/\Rp (.str w.la) 20000 5:=by
 refine⟨(zb W.n7 W.nm.nm).up (by decide) (by decide),?_,(eD (W.nm.nm _ W.fi)).up (by decide) (by decide),(eD (W.nm.nm _ W.la)).up (by decide) (by decide)⟩;have:=Rp.lst (c3.all (a:=1100) (k:=2) (ds:=w.ts.map bo) λd hd=>by
  obtain⟨t,ht,rfl⟩:=UY.mp hd;exact wZ (W.ts t ht) W.nm.nm)
 rw[Ur] at this;have t14:=W.t14;exact this.up (by omega) (by decide)
theorem Kw(h1:Rp p 20000 5)(h2:Rp t 20000 5)(h3:Rp f 20000 5)(h4:Rp l 20000 5):Rp (.tup [p,t,f,l]) 200000 6 :=
 (Rp.tup (c3.cons h1 (c3.cons h2 (c3.cons h3 (c3.cons h4 c3.nil))))).up (by simp) (UB _)
theorem G7(hl:ds.length<=8)(h:∀d∈ds,(∃z,d=.str z/\nameB z=true)∨d∈iL):Rp (.lst ds) 20000 5:=by
 have:=Rp.lst (c3.all (a:=200) (k:=1) (ds:=ds) λd hd=>by
  rcases h d hd with⟨z,rfl,hz⟩|ho
  .exact(eD hz).up (by decide) (by decide)
  .exact xx d ho)
 exact this.up (by omega) (by decide)
theorem Ci(a:Addr)(W:dw w)(S:St st) :
  ∃d st',bq a st [bQ w]=.ok (d,st')/\OV d/\St st':=by
 rw[show bQ w=.tup [.lst (w.ps.map D.str),.lst (w.ts.map bo),.str w.fi,.str w.la] from rfl];have n2:=W.n2;have n7:=W.n7;have t14:=W.t14;obtain⟨R1,R2,R3,R4⟩:=G8 W;have pOk:=KJ W.n2 W.n7 W.nm;have tOk:=Pt W.t14 W.nm W.ts;have fOk:=i8 (W.nm.nm w.fi W.fi) W.fi;have lOk:=i8 (W.nm.nm w.la W.la) W.la;obtain⟨r,st1,t1,r0,r1,S1⟩:=bx a (n:=9) (by decide) (by decide) S;obtain⟨o,ho,jo⟩:=jj (ds:=[.non,.bl true,.int 5,.str "",.str "A",.str "abcdefghi",.lst [],.dic [] [],.tup [.str "a",.str "b"]]) r0 (by simpa using r1);have ho:o∈iL:=ho;have Ro:Rp o 20000 5:=(xx o ho).up (by decide) (by decide);obtain⟨v,st2,t2,v0,v1,S2⟩:=bx a (n:=8) (by decide) (by decide) S1;obtain⟨at_,st3,t3,a0,a1,S3⟩:=bx a (n:=(w.ps.length:Int)) (by omega) (by omega) S2;obtain⟨k,rfl⟩:=Vq a0;have hk:k<w.ps.length:=by omega
 have hv:v=0∨v=1∨v=2∨v=3∨v=4∨v=5∨v=6∨v=7:=by omega
 have hlP:(w.ps.map D.str).length=w.ps.length:=Ur ..;have hlT:(w.ts.map bo).length=w.ts.length:=Ur ..;rcases hv with rfl|rfl|rfl|rfl|rfl|rfl|rfl|rfl
 .obtain⟨q,st4,t4,q0,q1,S4⟩:=bx a (n:=4) (by decide) (by decide) S3
  obtain⟨d,hd,jd⟩:=jj (ds:=[o,.lst [.lst (w.ps.map D.str),.lst (w.ts.map bo),.str w.fi,.str w.la],.tup [.lst (w.ps.map D.str),.lst (w.ts.map bo),.str w.fi],.tup [.lst (w.ps.map D.str),.lst (w.ts.map bo),.str w.fi,.str w.la,.str w.la]]) q0 (by simpa using q1);refine⟨d,st4,?_,?_,S4⟩
  .have e1:Jn (.tup [.lst (w.ps.map D.str),.lst (w.ts.map bo),.str w.fi,.str w.la])=.ok (.lst [.lst (w.ps.map D.str),.lst (w.ts.map bo),.str w.fi,.str w.la]):=rfl
   have e2:lM (.tup [.lst (w.ps.map D.str),.lst (w.ts.map bo),.str w.fi,.str w.la]) none (some 3)=.ok (.tup [.lst (w.ps.map D.str),.lst (w.ts.map bo),.str w.fi]):=(ef (by rfl)).trans rfl;have e3:bV (.tup [.lst (w.ps.map D.str),.lst (w.ts.map bo),.str w.fi,.str w.la]) (.tup [.str w.la])=.ok (.tup [.lst (w.ps.map D.str),.lst (w.ts.map bo),.str w.fi,.str w.la,.str w.la]):=(nO (by rfl)).trans rfl;open_line with[bq,bP,Ur,t1,jo,t2,t3,t4,e1,e2,e3,jd]
  .simp only[Uv,US,or_false] at hd
   rcases hd with rfl|rfl|rfl|rfl
   .exact⟨⟨_,_,K3 d ho,.inl rfl⟩,(xx d ho).up (by decide) (by decide)⟩
   .exact⟨⟨_,_,yQ rfl,.inl rfl⟩,(Rp.lst (c3.cons R1 (c3.cons R2 (c3.cons R3 (c3.cons R4 c3.nil))))).up (by simp) (UB _)⟩
   .exact⟨⟨_,_,qY (by simp),.inl rfl⟩,(Rp.tup (c3.cons R1 (c3.cons R2 (c3.cons R3 c3.nil)))).up (by simp) (UB _)⟩
   .exact⟨⟨_,_,qY (by simp),.inl rfl⟩,(Rp.tup (c3.cons R1 (c3.cons R2 (c3.cons R3 (c3.cons R4 (c3.cons R4 c3.nil)))))).up (by simp) (UB _)⟩
 .have c1:jr (w.ps.map D.str) none (some (k:Int))=(w.ps.map D.str).take k:=yo (by omega)
  have c2:jr (w.ps.map D.str) (some ((k:Int)+1)) none=(w.ps.map D.str).drop (k+1):=Jo (k:=k+1) (by omega);have hlk:((w.ps.map D.str).take k).length=k:=by rw[Vf];omega
  have e1:bV (.lst ((w.ps.map D.str).take k)) (.lst [o])=.ok (.lst ((w.ps.map D.str).take k++[o])):=eJ (decide_eq_true (by rw[hlk];simp;omega));have e2:bV (.lst ((w.ps.map D.str).take k++[o])) (.lst ((w.ps.map D.str).drop (k+1)))=.ok (.lst ((w.ps.map D.str).take k++[o]++(w.ps.map D.str).drop (k+1))):=eJ (decide_eq_true (by simp;omega));have hmem:∀d∈(w.ps.map D.str).take k++[o]++(w.ps.map D.str).drop (k+1),(∃z,d=.str z/\nameB z=true)∨d∈iL:=by
   intro d hd;rw[Ve,Ve] at hd;rcases hd with(hd|hd)|hd
   .obtain⟨z,hz,rfl⟩:=UY.mp (We hd)
    exact .inl ⟨z,rfl,W.nm.nm z hz⟩
   .rw[Vr] at hd;subst hd;exact .inr ho
   .obtain⟨z,hz,rfl⟩:=UY.mp (YN hd)
    exact .inl ⟨z,rfl,W.nm.nm z hz⟩
  have hlen:((w.ps.map D.str).take k++[o]++(w.ps.map D.str).drop (k+1)).length=w.ps.length:=by simp;omega
  refine⟨.tup [.lst ((w.ps.map D.str).take k++[o]++(w.ps.map D.str).drop (k+1)),.lst (w.ts.map bo),.str w.fi,.str w.la],st3,?_,⟨?_,Kw (G7 (by omega) hmem) R2 R3 R4⟩,S3⟩
  .open_line with[bq,bP,Ur,t1,jo,t2,t3,c1,c2,e1,e2,Wd]
  .refine oR W ?_
   rcases rL (ds:=(w.ps.map D.str).take k++[o]++(w.ps.map D.str).drop (k+1)) (λd hd=>by
    rcases hmem d hd with⟨z,rfl,hz⟩|h
    .exact zM hz
    .exact K4 h) (by omega) (by omega) with⟨zs,e,nm⟩|⟨j,_,h⟩
   .exfalso
    have:o∈zs.map D.str:=by rw[←e];simp
    obtain⟨z,hz,e'⟩:=UY.mp this;exact xy ho e'.symm (nm.nm z hz)
   .exact⟨_,h,.inr ⟨j,rfl⟩⟩
 .obtain⟨z,hz,jz⟩:=i4 (zs:=w.ps) (k:=(k:Int)) (by omega) (by omega)
  have hz:w.ps[k]?=some z:=by simpa using hz
  have e1:bV (.lst (w.ps.map D.str)) (.lst [.str z])=.ok (.lst ((w.ps++[z]).map D.str)):=(eJ (decide_eq_true (by simp;omega))).trans (by rw[Vm];rfl);have hlen:((w.ps++[z]).map D.str).length=w.ps.length+1:=by simp
  have hmem:∀d∈(w.ps++[z]).map D.str,∃y,d=.str y/\nameB y=true:=by
   intro d hd;obtain⟨y,hy,rfl⟩:=UY.mp hd;rw[Ve,Vr] at hy;rcases hy with hy|rfl
   .exact⟨y,rfl,W.nm.nm y hy⟩
   .exact⟨y,rfl,W.nm.nm y (UA hz)⟩
  refine⟨.tup [.lst ((w.ps++[z]).map D.str),.lst (w.ts.map bo),.str w.fi,.str w.la],st3,?_,⟨?_,Kw (G7 (by omega) λd hd=>.inl (hmem d hd)) R2 R3 R4⟩,S3⟩
  .open_line with[bq,bP,Ur,t1,jo,t2,t3,jz,e1]
  .refine oR W ?_
   by_cases h7:w.ps.length+1<=7
   .rcases rL (ds:=(w.ps++[z]).map D.str) (λd hd=>by
     obtain⟨y,rfl,hy⟩:=hmem d hd;exact zM hy) (by omega) (by omega) with⟨zs,e,nm⟩|⟨j,_,h⟩
    .exfalso
     have e2:zs=w.ps++[z]:=by
      exact(List.map_inj_right (λa b h=>D.str.inj h)).mp e.symm
     have:=nm.nd;rw[e2,Wc] at this;exact this.2.2 z (UA hz) z (by simp) rfl
    .exact⟨_,h,.inr ⟨j,rfl⟩⟩
   .exact⟨_,jV (.inr (by omega)),.inl rfl⟩
 .obtain⟨q,st4,t4,q0,q1,S4⟩:=bx a (n:=3) (by decide) (by decide) S3
  have c1:jr (w.ps.map D.str) none (some 1)=(w.ps.map D.str).take 1:=yo (k:=1) (by omega);obtain⟨d,hd,jd⟩:=jj (ds:=[.tup (w.ps.map D.str),.lst ((w.ps.map D.str).take 1),o]) q0 (by simpa using q1);have e1:uz (.lst (w.ps.map D.str))=.ok (.tup (w.ps.map D.str)):=rfl;have Rd:Rp d 20000 5/\∃n,m_look_at_places [d]=.exn (oq "places" n)/\(n=.non∨∃k:Nat,n=.int (k:Int)):=by
   simp only[Uv,US,or_false] at hd;rcases hd with rfl|rfl|rfl
   .refine⟨?_,_,pC rfl,.inl rfl⟩
    have:=Rp.tup (c3.all (a:=82) (k:=0) (ds:=w.ps.map D.str) λd hd=>by
     obtain⟨z,hz,rfl⟩:=UY.mp hd;exact eD (W.nm.nm z hz))
    rw[Ur] at this;exact this.up (by omega) (by decide)
   .refine⟨G7 (by simp;omega) λd hd=>?_,_,jV (.inl (by simp;omega)),.inl rfl⟩
    obtain⟨z,hz,rfl⟩:=UY.mp (We hd);exact .inl ⟨z,rfl,W.nm.nm z hz⟩
   .refine⟨Ro,?_⟩
    rcases HN d ho with rfl|h
    .exact⟨_,jV (.inl (by decide)),.inl rfl⟩
    .exact⟨_,pC h,.inl rfl⟩
  refine⟨.tup [d,.lst (w.ts.map bo),.str w.fi,.str w.la],st4,?_,⟨oR W Rd.2,Kw Rd.1 R2 R3 R4⟩,S4⟩;open_line with[bq,bP,Ur,t1,jo,t2,t3,c1,e1,t4,jd]
 .have e1:uz (.lst (w.ts.map bo))=.ok (.tup (w.ts.map bo)):=rfl
  have Rt:Rp (.tup (w.ts.map bo)) 20000 5:=by
   have:=Rp.tup (c3.all (a:=1100) (k:=2) (ds:=w.ts.map bo) λd hd=>by
    obtain⟨t,ht,rfl⟩:=UY.mp hd;exact wZ (W.ts t ht) W.nm.nm)
   rw[Ur] at this;exact this.up (by omega) (by decide)
  have i0:iA (.bl false)=.ok (.int 0):=rfl;have i1:iA (.bl true)=.ok (.int 1):=rfl;rcases N0 o ho with⟨eo,hn⟩|⟨hl,hn⟩
  .refine⟨.tup [.lst (w.ps.map D.str),.tup (w.ts.map bo),.str w.fi,.str w.la],st3,?_,⟨⟨_,_,ma pOk (vn rfl),.inl rfl⟩,Kw R1 Rt R3 R4⟩,S3⟩
   open_line with[bq,bP,Ur,t1,jo,t2,t3,e1,hn,i0,i1]
  .refine⟨.tup [.lst (w.ps.map D.str),o,.str w.fi,.str w.la],st3,?_,⟨⟨_,_,ma pOk (vn hl),.inl rfl⟩,Kw R1 Ro R3 R4⟩,S3⟩
   open_line with[bq,bP,Ur,t1,jo,t2,t3,e1,hn,i0,i1]
 .obtain⟨q,st4,t4,q0,q1,S4⟩:=bx a (n:=2) (by decide) (by decide) S3
  obtain⟨d,hd,jd⟩:=jj (ds:=[o,.str w.la]) q0 (by simpa using q1);refine⟨.tup [.lst (w.ps.map D.str),.lst (w.ts.map bo),d,.str w.la],st4,?_,?_,S4⟩
  .open_line with[bq,bP,Ur,t1,jo,t2,t3,t4,jd]
  .simp only[Uv,US,or_false] at hd
   rcases hd with rfl|rfl
   .exact⟨⟨_,_,EV pOk tOk (zl (HM ho)),.inl rfl⟩,Kw R1 R2 Ro R4⟩
   .exact⟨⟨_,_,yP pOk tOk lOk,.inl rfl⟩,Kw R1 R2 R4 R4⟩
 .obtain⟨q,st4,t4,q0,q1,S4⟩:=bx a (n:=2) (by decide) (by decide) S3
  obtain⟨d,hd,jd⟩:=jj (ds:=[o,.str w.fi]) q0 (by simpa using q1);refine⟨.tup [.lst (w.ps.map D.str),.lst (w.ts.map bo),.str w.fi,d],st4,?_,?_,S4⟩
  .open_line with[bq,bP,Ur,t1,jo,t2,t3,t4,jd]
  .simp only[Uv,US,or_false] at hd
   rcases hd with rfl|rfl
   .exact⟨⟨_,_,Gx pOk tOk fOk (zl (HM ho)),.inl rfl⟩,Kw R1 R2 R3 Ro⟩
   .exact⟨⟨_,_,yP pOk tOk fOk,.inl rfl⟩,Kw R1 R2 R3 R3⟩
 .obtain⟨q,st4,t4,q0,q1,S4⟩:=bx a (n:=(w.ts.length:Int)+1) (by omega) (by omega) S3
  obtain⟨j,rfl⟩:=Vq q0;have hj:j<=w.ts.length:=by omega
  obtain⟨b,st5,t5,hb,Rb,S5⟩:=Cj a W.n2 W.nm ho S4;have c1:jr (w.ts.map bo) none (some (j:Int))=(w.ts.map bo).take j:=yo (by omega);have c2:jr (w.ts.map bo) (some (j:Int)) none=(w.ts.map bo).drop j:=Jo (by omega);have e1:bV (.lst ((w.ts.map bo).take j)) (.lst [b])=.ok (.lst ((w.ts.map bo).take j++[b])):=eJ (decide_eq_true (by simp;omega));have e2:bV (.lst ((w.ts.map bo).take j++[b])) (.lst ((w.ts.map bo).drop j))=.ok (.lst ((w.ts.map bo).take j++[b]++(w.ts.map bo).drop j)):=eJ (decide_eq_true (by simp;omega));have hlen:((w.ts.map bo).take j++[b]++(w.ts.map bo).drop j).length=w.ts.length+1:=by simp;omega
  have hmem:∀d∈(w.ts.map bo).take j++[b]++(w.ts.map bo).drop j,El w.ps d∨d=b:=by
   intro d hd;rw[Ve,Ve] at hd;rcases hd with(hd|hd)|hd
   .obtain⟨t,ht,rfl⟩:=UY.mp (We hd)
    exact .inl ⟨t,rfl,W.ts t ht⟩
   .rw[Vr] at hd;exact .inr hd
   .obtain⟨t,ht,rfl⟩:=UY.mp (YN hd)
    exact .inl ⟨t,rfl,W.ts t ht⟩
  have Rt:Rp (.lst ((w.ts.map bo).take j++[b]++(w.ts.map bo).drop j)) 50000 5:=by
   have:=Rp.lst (c3.all (a:=3000) (k:=2) (ds:=(w.ts.map bo).take j++[b]++(w.ts.map bo).drop j) λd hd=>by
    rcases hmem d hd with⟨t,rfl,ht⟩|rfl
    .exact(wZ ht W.nm.nm).up (by decide) (by decide)
    .exact Rb)
   rw[hlen] at this;exact this.up (by omega) (by decide)
  refine⟨.tup [.lst (w.ps.map D.str),.lst ((w.ts.map bo).take j++[b]++(w.ts.map bo).drop j),.str w.fi,.str w.la],st5,?_,⟨?_,(Rp.tup (c3.cons R1 (c3.cons Rt (c3.cons R3 (c3.cons R4 c3.nil))))).up (by simp) (UB _)⟩,S5⟩
  .open_line with[bq,bP,Ur,t1,jo,t2,t3,t4,t5,c1,c2,e1,e2,Wd]
  .by_cases h14:w.ts.length+1<=14
   .rcases GB (ds:=(w.ts.map bo).take j++[b]++(w.ts.map bo).drop j) W.nm (by omega) (λd hd=>by
     rcases hmem d hd with h|rfl
     .exact .inl h
     .exact .inr (.inl hb)) with h|⟨i,_,h⟩
    .exfalso
     obtain⟨t,e,ht⟩:=h b (by simp);rw[e,q9 W.nm ht] at hb;cases hb
    .exact⟨_,_,ma pOk h,.inr ⟨i,rfl⟩⟩
   .exact⟨_,_,ma pOk (E2 (by omega)),.inl rfl⟩
section
variable {f g:Ev->ai D}{ρ:Ev}{d:D}{m:List D->ai D}{fa:Ev->ai (List D)}{ds:List D}{hit:Str->Bool}{ni:Nat}{sh:Ev->ai Fl}{x:JT}{st:List D}
theorem uk:z9 f g ρ=(f ρ).bind (z8 g ρ):=aK rfl
theorem nP:z8 g ρ d=g ρ:=aK rfl
theorem um:Fy ρ=.ok .non:=aK rfl
theorem AG:QK f g ρ=Fz g ρ (f (eR ρ)):=aK rfl
theorem uq:Fz g ρ (.ok (.bl true))=g ρ:=aK rfl
theorem uo:Fz g ρ (.ok (.bl false))=.ok .non:=aK rfl
theorem nQ:vQ fa m ρ=sA m (fa ρ):=aK rfl
theorem kz:sA m (.ok ds)=m ds:=aK rfl
theorem uh:G3 g hit ni sh ρ=me hit ni sh ρ (g ρ):=aK rfl
theorem Ly:me hit ni sh ρ (.ok d)=.ok (.nx ρ):=aK rfl
theorem D1(h:hit x.cls=true):me hit ni sh ρ (.exn x)=(sh (ρ.set ni (.sh (mM x)))).bind (xr ni):=if_pos h
theorem Lz:zQ fm ρ st=(fm ρ st).bind BI:=aK rfl
theorem IW:BI (.lst ds,st)=.ok (ds,st):=aK rfl
end
theorem Q0:mM (oq p n)=.ob (.exf "NoWeb" ["part","number"]) [.str p,n]:=Q1 (by decide)
theorem SK:mM ⟨c,[]⟩=.exc c:=rfl
theorem Af(h:tab "NoWeb"=some b):gO tab "part" (.ob (.exf "NoWeb" ["part","number"]) [x,y])=.ok x:=by
 unfold gO;simp only[h];rw[show o5 "part" ["part","number"] [x,y]=some x by unfold o5;rw[if_pos rfl]]
theorem sP(h:tab "NoWeb"=some b):gO tab "number" (.ob (.exf "NoWeb" ["part","number"]) [x,y])=.ok y:=by
 unfold gO;simp only[h];rw[show o5 "number" ["part","number"] [x,y]=some y by unfold o5;rw[if_neg (by decide)];unfold o5;rw[if_pos rfl]]
noncomputable def OU(n:D):Prop:=n=.non∨∃k:Nat,n=.int (k:Int)
theorem GU(h:OU n)(k:Nat):bA k n=true:=by
 rcases h with rfl|⟨j,rfl⟩<;>cases k<;>rfl
theorem Bz:m_is_tie_number [bQ w,.dic ks ds]=.ok (.bl false):=by
 rw[show bQ w=.tup [.lst (w.ps.map D.str),.lst (w.ts.map bo),.str w.fi,.str w.la] from rfl];open_line with[m_is_tie_number,bJ,bS,C9]
end Nwb
namespace K12
open PySem L2 DL Com Bor K11
section
variable {f g:Ev->List D->ai (D×List D)}{ρ:Ev}{st:List D}
theorem em_not:Ia f ρ st=(f ρ st).bind HZ:=aK rfl
theorem em_not1:HZ (.bl b,st)=.ok (.bl (!b),st):=aK rfl
end
end K12
namespace K51
open PySem L2 DL Com Bor
section
variable {W0 A P d v:D}{x:JT}
end
end K51
namespace K17
open PySem L2 DL Com Bor Pth
open K11 (fW)
open K51 (Bd pl)
section
variable {w:uU}(W:dw w) (hw:∀t∈w.ts,jE t) {n:Nat}{t:A0}(ht:w.ts[n]?=some t) {y:kO}(ay:RH y)
include W hw ht ay
omit hw ay W in
omit hw ay W in
end
open K11 (fW)
open K51 (Bd pl)
end K17
namespace K21
open PySem L2 DL Com Bor Nwb
open Pth (Bw lz vi)
open Vlu (oN Kg)
section
variable {d n:D}{x:JT}
theorem Gz(h:m_look_at_web [d]=.exn x):dz [d,n]=.exn x:=by
 open_line with[dz,jA,h,bY]
theorem JB(h:m_look_at_web [d]=.exn x):eG [d]=.exn x:=by
 open_line with[eG,n8,h,bY]
theorem Ld(h:m_look_at_web [d]=.exn x):fw [d]=.exn x:=by
 have h1:=JB h;open_line with[fw,lG,h1,bY]
end
theorem Oe:∀{ni:Nat}{sh:Ev->ai Fl}{ρ:Ev}{p:Str}{n:D},me (mJ gK) ni sh ρ (.exn (oq p n))=(sh (ρ.set ni (.sh (.ob (.exf "NoWeb" ["part","number"]) [.str p,n])))).bind (xr ni):=by
 intro ni sh ρ p n;rw[D1 (x:=oq p n) rfl,Q0]
theorem SD:∀{ni:Nat}{sh:Ev->ai Fl}{ρ:Ev},me (mJ gK) ni sh ρ (.exn ⟨"NoTie",[]⟩)=(sh (ρ.set ni (.sh (.exc "NoTie")))).bind (xr ni):=by
 intro ni sh ρ;rw[D1 (x:=⟨"NoTie",[]⟩) rfl,SK]
theorem EU(h:m_look_at_web [d]=.exn (oq p q)){k:Int}(hk:k=0∨k=1∨k=2):bF [.int k,d,n]=.ok (.lst [.bl true,.bl false,.bl false,.tup [.str p,q]]):=by
 have h0:=Gz (n:=n) h;have h1:=JB h;have h2:=Ld h;have x1:∀e:D,fk Cy (.ob (.exf "NoWeb" ["part","number"]) [.str p,e])=.ok (.bl true):=λ_=>qJ rfl;have x2:∀e:D,fk Cw (.ob (.exf "NoWeb" ["part","number"]) [.str p,e])=.ok (.bl false):=λ_=>qJ rfl;have x3:∀e:D,fk Cv (.ob (.exf "NoWeb" ["part","number"]) [.str p,e])=.ok (.bl true):=λ_=>qJ rfl;have x4:∀e:D,fk Cu (.ob (.exf "NoWeb" ["part","number"]) [.str p,e])=.ok (.bl false):=λ_=>qJ rfl;have f1:∀e:D,gO mK "part" (.ob (.exf "NoWeb" ["part","number"]) [.str p,e])=.ok (.str p):=λ_=>Af (b:=true) rfl;have f2:∀e:D,gO iM "number" (.ob (.exf "NoWeb" ["part","number"]) [.str p,e])=.ok e:=λ_=>sP (b:=true) rfl;have hN:∀e:D,iz (.ob (.exf "NoWeb" ["part","number"]) [.str p,e]) .non=.ok (.bl false):=λ_=>rfl;rcases hk with rfl|rfl|rfl
 .open_line with[bF,dR,uk,nP,um,AG,uq,uo,nQ,kz,uh,h0,bY,Oe,tJ,hN,x1,x2,x3,x4,f1,f2]
 .open_line with[bF,dR,uk,nP,um,AG,uq,uo,nQ,kz,uh,h1,bY,Oe,tJ,hN,x1,x2,x3,x4,f1,f2]
 .open_line with[bF,dR,uk,nP,um,AG,uq,uo,nQ,kz,uh,h2,bY,Oe,tJ,hN,x1,x2,x3,x4,f1,f2]
theorem BY(h:m_look_at_web [d]=.exn (oq p q)):cJ [d]=.ok (.tup [.str p,q]):=by
 have f1:∀e:D,gO mK "part" (.ob (.exf "NoWeb" ["part","number"]) [.str p,e])=.ok (.str p):=λ_=>Af (b:=true) rfl;have f2:∀e:D,gO iM "number" (.ob (.exf "NoWeb" ["part","number"]) [.str p,e])=.ok e:=λ_=>sP (b:=true) rfl;have ht:∀(ni:Nat) (sh:Ev->ai Fl) (ρ:Ev),Ni (mJ qD) ni sh ρ (.exn (oq p q))=(sh (ρ.set ni (.sh (.ob (.exf "NoWeb" ["part","number"]) [.str p,q])))).bind (xr ni):=λ_ _ _=>by
  rw[Lw (x:=oq p q) rfl,Q0]
 open_line with[cJ,ij,Oi,K12.ef_dropC,K12.ef_dropC1 h,ht,tJ,f1,f2]
theorem ET(W:dw w)(h:m_is_tie_number [bQ w,n]=.ok (.bl false)):bF [.int 0,bQ w,n]=.ok (.lst [.bl false,.bl true,.bl false]):=by
 have hw:=Nwb.webX W;have h0:dz [bQ w,n]=.exn ⟨"NoTie",[]⟩:=by
  open_line with[dz,jA,hw,h,bY,IA,FL]
 have x1:fk Cy (.exc "NoTie")=.ok (.bl true):=xZ rfl;have x2:fk Cw (.exc "NoTie")=.ok (.bl true):=xZ rfl;have x3:fk Cv (.exc "NoTie")=.ok (.bl false):=xZ rfl;have x4:fk Cu (.exc "NoTie")=.ok (.bl false):=xZ rfl;have hN:iz (.exc "NoTie") .non=.ok (.bl false):=rfl;open_line with[bF,dR,uk,nP,um,AG,uq,uo,nQ,kz,uh,h0,bY,SD,tJ,hN,x1,x2,x3,x4]
theorem EW(W:dw w)(hw:∀t∈w.ts,jE t){k:Nat}(hk:k<w.ts.length):∃v,dz [bQ w,.int (k:Int)]=.ok v:=by
 have h1:=Nwb.webX W;have h2:=zH hk;obtain⟨F,m,R,_,e⟩:=Pth.shortest_ok W (ks:=[]);obtain⟨F',m',R',_,e'⟩:=Pth.shortest_ok W (ks:=[k]);have hv:=Vlu.value_by_ok W hw R R';have e:m_shortest [bQ w,.lst []]=.ok (Bw w F):=e;have e':m_shortest [bQ w,.lst [.int (k:Int)]]=.ok (Bw w F'):=e';refine⟨Kg w F F',?_⟩;open_line with[dz,jA,h1,h2,e,e',Vlu.out_1,hv]
theorem ES(W:dw w)(hw:∀t∈w.ts,jE t){k:Nat}(hk:k<w.ts.length):bF [.int 0,bQ w,.int (k:Int)]=.ok (.lst [.bl true]):=by
 obtain⟨v,hv⟩:=EW W hw hk;have hN:iz .non .non=.ok (.bl true):=rfl;open_line with[bF,dR,uk,nP,um,AG,uq,uo,nQ,kz,uh,Ly,hv,hN]
noncomputable abbrev iB:Ev->List D->ai dH :=
 (aW (qC (mT (ag (ao (af (ae 7) (af (ae 2) (af (ae 8) aE))) bF) (ao (af (dC (.bl true)) (af (dC (.bl false)) (af (dC (.bl false)) (af (ao (af (ae 2) aE) cJ) aE)))) b5) ll))
 (aW (eu (dC (.bl false)))
 bc)
 bc)
 bc)
noncomputable abbrev oB(a:Addr):Ev->List D->ai dH :=
 (aW (ka (zQ (mA (aT (mP (dC (.int 0))) (aT (mB (mP (ae 5)) (bD 0 a (aT (mP (dC (.int 11))) bX) aG) bf) bX)) b5)) (cz 8)
 iB)
 bc)
noncomputable abbrev nB:Ev->List D->ai dH :=
 (aW (qC (mT (iF (ag (ae 8) (dC (.int 0)) vg) (iF (bM (ae 8) (eS "bool")) (ag (ae 3) (dC (.int 0)) kF))))
 (aW (qC (mT (ag (ao (af (dC (.int 0)) (af (ae 1) (af (ae 8) aE))) bF) (ao (af (dC (.bl false)) (af (dC (.bl true)) (af (dC (.bl false)) aE))) b5) ll))
 (aW (eu (dC (.bl false)))
 bc)
 bc)
 bc)
 bc)
 bc)
theorem La(h:bA 40 x=true):ll x x=.ok (.bl false):=by
 unfold ll;rw[if_pos ⟨h,h⟩,ku 40 _ h];rfl
theorem Ef(h:m_look_at_web [d]=.exn (oq p q))(hq:OU q){k:Int}(hk:k=0∨k=1∨k=2) :
  iB [.pt a,.sh x1,.sh d,.sh x3,.sh x4,.sh x5,.sh x6,.sh (.int k),.sh n] st=.ok (.nx [.pt a,.sh x1,.sh d,.sh x3,.sh x4,.sh x5,.sh x6,.sh (.int k),.sh n] st):=by
 have h1:=EU (n:=n) h hk;have h2:=BY h;have h3:ll (.lst [.bl true,.bl false,.bl false,.tup [.str p,q]]) (.lst [.bl true,.bl false,.bl false,.tup [.str p,q]])=.ok (.bl false):=La (by
  show(true&&(true&&(true&&((true&&(bA 38 q&&true))&&true))))=true;rw[GU hq];rfl)
 open_line with[h1,h2,h3]
theorem SQ(hxs:xs.length=11)(h:m_look_at_web [d]=.exn (oq p q))(hq:OU q){k:Int}(hk:k=0∨k=1∨k=2)(S:St st) :
  ∃n st',oB a [.pt a,.sh x1,.sh d,.sh x3,.sh x4,.sh (.lst xs),.sh x6,.sh (.int k),y] st=.ok (.nx [.pt a,.sh x1,.sh d,.sh x3,.sh x4,.sh (.lst xs),.sh x6,.sh (.int k),.sh n] st')/\St st':=by
 obtain⟨r,st1,t1,r0,r1,S1⟩:=bx a (n:=11) (by decide) (by decide) S;obtain⟨n,hn,jn⟩:=jj (ds:=xs) r0 (by rw[hxs];exact r1);have e1:=Ef (a:=a) (x1:=x1) (x3:=x3) (x4:=x4) (x5:=.lst xs) (x6:=x6) (n:=.int 0) h hq hk (st:=st1);have e2:=Ef (a:=a) (x1:=x1) (x3:=x3) (x4:=x4) (x5:=.lst xs) (x6:=x6) (n:=n) h hq hk (st:=st1);refine⟨n,st1,?_,S1⟩;have g1:∀(z v:D) (y:Sl),cz 8 [.pt a,.sh x1,.sh d,.sh x3,.sh x4,.sh (.lst xs),.sh x6,.sh z,y] v=.ok [.pt a,.sh x1,.sh d,.sh x3,.sh x4,.sh (.lst xs),.sh x6,.sh z,.sh v]:=λ_ _ _=>rfl;have l1:DL.forM (cz 8) iB [.int 0,n] [.pt a,.sh x1,.sh d,.sh x3,.sh x4,.sh (.lst xs),.sh x6,.sh (.int k),y] st1=.ok (.nx [.pt a,.sh x1,.sh d,.sh x3,.sh x4,.sh (.lst xs),.sh x6,.sh (.int k),.sh n] st1):=by
  rw[IT,g1,kj,IS,e1,kj,IQ,IT,g1,kj,IS,e2,kj,IQ,Om]
 open_line with[Lz,IW,t1,jn,l1]
theorem L8(W:dw w)(h:m_is_tie_number [bQ w,n]=.ok (.bl false))(h1:vg n (.int 0)=.ok (.bl b1))(h2:eS "bool" n=.ok (.bl b2)) :
  nB [.pt a,.sh (bQ w),.sh x2,.sh (.int (w.ts.length:Int)),.sh x4,.sh x5,.sh x6,x7,.sh n] st=.ok (.nx [.pt a,.sh (bQ w),.sh x2,.sh (.int (w.ts.length:Int)),.sh x4,.sh x5,.sh x6,x7,.sh n] st):=by
 have hw:=ET W h;have h3:ll (.lst [.bl false,.bl true,.bl false]) (.lst [.bl false,.bl true,.bl false])=.ok (.bl false):=rfl;cases b1 with
 |true=>open_line with[h1,hw,h3]
 |false =>
  cases b2 with
  |true=>open_line with[h1,h2,hw,h3]
  |false =>
   cases h0:((w.ts.length:Int)==0) with
   |true=>open_line with[h1,h2,h0,hw,h3]
   |false=>open_line with[h1,h2,h0]
noncomputable def jT(m f:Int):List D:=[.int m,.int (-1),.int (0-m),.int f,.bl true,.bl false,.non,.str "0",.lst [.int 0],.tup [.int 0],.dic [] []]
theorem Ku(hf:(w.ts.length:Int)<=f):∀n∈jT (w.ts.length:Int) f,m_is_tie_number [bQ w,n]=.ok (.bl false)/\(∃b1,vg n (.int 0)=.ok (.bl b1))/\∃b2,eS "bool" n=.ok (.bl b2):=by
 intro n hn;have hI:∀i:Int,(i<0∨(w.ts.length:Int)<=i)->m_is_tie_number [bQ w,.int i]=.ok (.bl false)/\(∃b1,vg (.int i) (.int 0)=.ok (.bl b1))/\∃b2,eS "bool" (.int i)=.ok (.bl b2):=by
  intro i hi;refine⟨?_,⟨_,rfl⟩,⟨_,rfl⟩⟩;refine Wex.number_int.trans ?_;rcases hi with hi|hi
  .rw[decide_eq_false (show ¬0<=i by omega)];rfl
  .rw[decide_eq_false (show ¬i<(w.ts.length:Int) by omega),Xm]
 simp only[jT,Uv,US,or_false] at hn;rcases hn with rfl|rfl|rfl|rfl|rfl|rfl|rfl|rfl|rfl|rfl|rfl
 .exact hI _ (.inr (WN _))
 .exact hI _ (.inl (by decide))
 .exact hI _ (by omega)
 .exact hI _ (.inr hf)
 .exact⟨Wex.number_odd rfl (λ_ e=>nomatch e),⟨_,rfl⟩,⟨_,rfl⟩⟩
 .exact⟨Wex.number_odd rfl (λ_ e=>nomatch e),⟨_,rfl⟩,⟨_,rfl⟩⟩
 .exact⟨Wex.number_odd rfl (λ_ e=>nomatch e),⟨_,rfl⟩,⟨_,rfl⟩⟩
 .exact⟨Wex.number_odd rfl (λ_ e=>nomatch e),⟨_,rfl⟩,⟨_,rfl⟩⟩
 .exact⟨Wex.number_odd rfl (λ_ e=>nomatch e),⟨_,rfl⟩,⟨_,rfl⟩⟩
 .exact⟨Wex.number_odd rfl (λ_ e=>nomatch e),⟨_,rfl⟩,⟨_,rfl⟩⟩
 .exact⟨Bz,⟨_,rfl⟩,⟨_,rfl⟩⟩
theorem Hc(a:Addr)(W:dw w)(hw:∀t∈w.ts,jE t)(S:St st):∃st',dJ a st [bQ w]=.ok (.bl true,st')/\St st':=by
 obtain⟨d,st1,t1,⟨⟨p,q,hx,hq⟩,hrp⟩,S1⟩:=Ci a W S;obtain⟨f,st2,t2,f0,f1,S2⟩:=bx a (n:=1000000000000) (by decide) (by decide) S1;have hlen:fj (.lst (w.ts.map bo))=.ok (.int w.ts.length):=by rw[gu,Ur]
 have i1:bf (bQ w) (.int 1)=.ok (.lst (w.ts.map bo)):=rfl;obtain⟨z,hz⟩:∃z,uA (.lst [d,bQ w])=.ok (.str z):=Rp.repr ((Rp.lst (c3.cons hrp (c3.cons ((NA W).up (n':=200000) (by decide) (by decide)) c3.nil))).up (n':=500000) (by simp) (UB _)) (by decide) (by decide);have hpw:qp (.int 10) (.int 12)=.ok (.int 1000000000000):=rfl;have hs3:∀ρ,iI (dC (.int 3)) ρ=.ok (intsFrom 0 3):=λ_=>rfl;have hxs:(jT (w.ts.length:Int) (w.ts.length+f)).length=11:=rfl;obtain⟨ρ3,st3,l3,⟨y7,y8,rfl⟩,S3⟩:=ki (tg:=cz 7) (body:=oB a) (λ_ ρ st=>(∃y7 y8,ρ=[.pt a,.sh (bQ w),.sh d,.sh (.int (w.ts.length:Int)),.sh (.int (w.ts.length+f)),.sh (.lst (jT (w.ts.length:Int) (w.ts.length+f))),.sh (.str z),y7,y8])/\St st) (intsFrom 0 3) (by
  rintro j v ρ st hv ⟨⟨y7,y8,rfl⟩,S⟩;obtain⟨k,rfl,hk⟩:∃k:Int,v=.int k/\(k=0∨k=1∨k=2):=by
   have h3:j<3:=(Uw.mp hv).1;have:j=0∨j=1∨j=2:=by omega
   rcases this with rfl|rfl|rfl
   .exact⟨0,(U8 hv).symm,.inl rfl⟩
   .exact⟨1,(U8 hv).symm,.inr (.inl rfl)⟩
   .exact⟨2,(U8 hv).symm,.inr (.inr rfl)⟩
  obtain⟨n,st',e,S'⟩:=SQ (a:=a) (x1:=bQ w) (x3:=.int (w.ts.length:Int)) (x4:=.int (w.ts.length+f)) (x6:=.str z) hxs hx hq hk S (y:=y8);exact⟨_,_,st',rfl,.inl e,⟨_,_,rfl⟩,S'⟩) 0 [.pt a,.sh (bQ w),.sh d,.sh (.int (w.ts.length:Int)),.sh (.int (w.ts.length+f)),.sh (.lst (jT (w.ts.length:Int) (w.ts.length+f))),.sh (.str z),.no,.no] st2 (VU _) ⟨⟨_,_,rfl⟩,S2⟩
 obtain⟨ρ4,st4,l4,⟨y8',rfl⟩,S4⟩:=ki (tg:=cz 8) (body:=nB) (λ_ ρ st=>(∃y8,ρ=[.pt a,.sh (bQ w),.sh d,.sh (.int (w.ts.length:Int)),.sh (.int (w.ts.length+f)),.sh (.lst (jT (w.ts.length:Int) (w.ts.length+f))),.sh (.str z),y7,y8])/\St st) (jT (w.ts.length:Int) (w.ts.length+f)) (by
  rintro j v ρ st hv ⟨⟨y8,rfl⟩,S⟩;obtain⟨h1,⟨b1,h2⟩,b2,h3⟩:=Ku (w:=w) (f:=w.ts.length+f) (by omega) v (UA hv);exact⟨_,_,st,rfl,.inl (L8 W h1 h2 h3),⟨_,rfl⟩,S⟩) 0 [.pt a,.sh (bQ w),.sh d,.sh (.int (w.ts.length:Int)),.sh (.int (w.ts.length+f)),.sh (.lst (jT (w.ts.length:Int) (w.ts.length+f))),.sh (.str z),y7,y8] st3 (VU _) ⟨⟨_,rfl⟩,S3⟩
 rw[Wf] at l3 l4;have hsL:∀ρ:Ev,ρ=[.pt a,.sh (bQ w),.sh d,.sh (.int (w.ts.length:Int)),.sh (.int (w.ts.length+f)),.sh (.lst (jT (w.ts.length:Int) (w.ts.length+f))),.sh (.str z),y7,y8]->qe (ae 5) ρ=.ok (jT (w.ts.length:Int) (w.ts.length+f)):=λ_ e=>by subst e;rfl
 refine⟨st4,?_,S4⟩;have hez:kF (.str z) (.str z)=.ok (.bl true):=by rw[gw,beq_self_eq_true]
 have hsub:kE (.int 0) (.int (w.ts.length:Int))=.ok (.int (0-(w.ts.length:Int))):=rfl;have hneg:FX (.int 1)=.ok (.int (-1)):=rfl;have hL:(D.lst [.int (w.ts.length:Int),.int (-1),.int (0-(w.ts.length:Int)),.int (w.ts.length+f),.bl true,.bl false,.non,.str "0",.lst [.int 0],.tup [.int 0],.dic [] []])=.lst (jT (w.ts.length:Int) (w.ts.length+f)):=rfl
 by_cases h0:(w.ts.length:Int) > 0
 .have hy:=ES W hw (k:=w.ts.length-1) (by omega)
  rw[show((w.ts.length-1:Nat):Int)=(w.ts.length:Int)-1 by omega] at hy;have hs1:kE (.int (w.ts.length:Int)) (.int 1)=.ok (.int ((w.ts.length:Int)-1)):=rfl;have hn1:ll (.lst [.bl true]) (.lst [.bl true])=.ok (.bl false):=rfl;open_line with[dJ,jC,t1,i1,hlen,hpw,t2,hsub,hneg,hL,hz,hs3,l3,hsL,l4,decide_eq_true h0,hs1,hy,hn1,hez]
 .open_line with[dJ,jC,t1,i1,hlen,hpw,t2,hsub,hneg,hL,hz,hs3,l3,hsL,l4,decide_eq_false h0,hez]
noncomputable abbrev lB:Addr->Ev->List D->ai dH:=λa =>
 (aW (qC (Ia (bD 2 a (aT (mP (ae 3)) bX) dJ))
 (aW (eu (dC (.bl false)))
 bc)
 bc)
 bc)
noncomputable abbrev CY(a:Addr):Ev->List D->ai dH :=
 (aW (dB 3 (bD 2 a (aT (mP (dC (.int 7))) (aT (mP (dC (.int 14))) bX)) c8))
 (aW (ka (xD (iI (dC (.int 3)))) (cz 4)
 (lB a))
 bc))
theorem GA(a:Addr)(S:St st):∃d3 y4 st',CY a [.sh d0,.sh d1,.pt a,.no,.no] st=.ok (.nx [.sh d0,.sh d1,.pt a,.sh d3,y4] st'):=by
 obtain⟨w,st1,t1,W,hw,S1⟩:=Kb a (p:=7) (q:=14) ⟨by decide,by decide⟩ (by decide) S;obtain⟨ρ2,st2,hf,⟨y4,rfl⟩,_⟩:=ki (tg:=cz 4) (body:=lB a) (λ_ ρ st=>(∃y4,ρ=[.sh d0,.sh d1,.pt a,.sh (bQ w),y4])/\St st) (intsFrom 0 3) (by
  rintro j d ρ st hd ⟨⟨y4,rfl⟩,S⟩;obtain⟨st',e,S'⟩:=Hc a W hw S;have h:lB a [.sh d0,.sh d1,.pt a,.sh (bQ w),.sh d] st=.ok (.nx [.sh d0,.sh d1,.pt a,.sh (bQ w),.sh d] st'):=by
   open_line with[e,K12.em_not,K12.em_not1]
  exact⟨_,_,st',rfl,.inl h,⟨_,rfl⟩,S'⟩) 0 [.sh d0,.sh d1,.pt a,.sh (bQ w),.no] st1 (VU _) ⟨⟨_,rfl⟩,S1⟩
 rw[Wf] at hf;have hs:∀ρ,iI (dC (.int 3)) ρ=.ok (intsFrom 0 3):=λ_=>rfl;refine⟨bQ w,y4,st2,?_⟩;have t1:c8 a st [.int 7,.int 14]=.ok (bQ w,st1):=t1;open_line with[t1,hs,hf]
theorem Ic(ns:List Int)(hn:ns.length<=63):m_law [.lst (ns.map D.int)]=.ok (.bl true):=by
 obtain⟨q,m,hm,h1,hq⟩:∃(q:Int) (m:Nat),m<=10/\LU (.int ns.length) (.int 10)=.ok (.int q)/\(if q > 1 then q else 1)=(m:Int):=by
  have h1:LU (.int ns.length) (.int 10)=.ok (.int (if(10:Int)<ns.length then 10 else ns.length)):=rfl;refine⟨_,(if(if(10:Int)<ns.length then 10 else(ns.length:Int)) > 1 then(if(10:Int)<ns.length then 10 else(ns.length:Int)) else 1).toNat,?_,h1,?_⟩
  .split<;>split<;>omega
  .split<;>split<;>omega
 have hstep:∀k,k<m->∀ρ:Ev,(∃s,ρ=[.sh (.lst (ns.map D.int)),s,.no,.no,.no]) ->
   ∃ρ2,(lO 2 (ao (af (ae 0) (af (ae 1) aE)) b9) λa=>CY a) (ρ.set 1 (.sh (.int (k:Int))))=.ok (.nx ρ2)/\∃s,ρ2=[.sh (.lst (ns.map D.int)),s,.no,.no,.no]:=by
  rintro k hk ρ ⟨s,rfl⟩;obtain⟨st,hb,S⟩:=Jw ns k (by omega) hn;refine⟨[.sh (.lst (ns.map D.int)),.sh (.int (k:Int)),.no,.no,.no],?_,_,rfl⟩;have h1:(ao (af (ae 0) (af (ae 1) aE)) b9) [.sh (.lst (ns.map D.int)),.sh (.int (k:Int)),.no,.no,.no]=.ok (.lst st):=by
   open_line with[hb]
  show lO 2 _ _ [.sh (.lst (ns.map D.int)),.sh (.int (k:Int)),.no,.no,.no]=_;unfold lO;rw[h1,kj];unfold yc;show(if _ then _ else _)=_;rw[if_pos ⟨rfl,(by show 2<5;decide)⟩];refine Li λa=>?_;obtain⟨d3,y4,st',e⟩:=GA a (d0:=.lst (ns.map D.int)) (d1:=.int (k:Int)) S;show Ds 2 (CY a [.sh (.lst (ns.map D.int)),.sh (.int (k:Int)),.pt a,.no,.no] st)=_;rw[e];rfl
 obtain⟨ρ',hf,s,rfl⟩:=Dm (i:=1) (body:=(lO 2 (ao (af (ae 0) (af (ae 1) aE)) b9) λa=>CY a)) (λ_ ρ=>∃s,ρ=[.sh (.lst (ns.map D.int)),s,.no,.no,.no]) (n:=m) hstep (ρ:=[.sh (.lst (ns.map D.int)),.no,.no,.no,.no]) ⟨.no,rfl⟩;have hfr:=λs:Ev->ai Fl=>Ad (tg:=cz 1) (s:=s) (ρ:=[.sh (.lst (ns.map D.int)),.no,.no,.no,.no]) (k:=m) (by omega);unfold m_law M0;open_line with[Ur,h1,hq,hfr,hf]
end K21
namespace K21
open PySem L2 DL
theorem sp_law(K:Up)(H:Hp)(a:Addr)(ns:List Int)(hl:ns.length<=63)(hS:eC K H a (ns.map V.int)):spD K 1 m_law [.ref a] H (λv _=>v=.bl true) λ_ _ _=>False:=by
 refine⟨rfl,H,[.lst (ns.map D.int)],aB.refl _,Reps.cons (aH.mpr ⟨a,_,rfl,hS,wH ns⟩) Reps.nil,?_⟩;rw[Ic ns hl];exact λv H' Ha' _ r=>aL.mp r
end K21
namespace PySem.W.Fast
def tw5419249508458041812:=0
def tw15502288551655324952:=0
def tw3564692531007705760:=0
def tw2149509323950963100:=0
def tw12402861684685701746:=0
def tw11806116981250909627:=0
def tw6806725092148997222:=0
def tw15589332059932413536:=0
def tw15112607194338634222:=0
def tw13356801054976322667:=0
def tw14235421149428354638:=0
def tw11896862060668257692:=0
def tw9366772237123124913:=0
def tw13939619991066098609:=0
def tw6512910087095095014:=0
def tw18168826794136451487:=0
def tw18328932914184774484:=0
def tw3123175704023358956:=0
def tw18106241676323573627:=0
def tw8306652349706427170:=0
def tw3946870505392959187:=0
def tw12380813510707206402:=0
def tw9359861598674977242:=0
def tw2322856342425037504:=0
def tw17819924448608949613:=0
def tw5015282205172727338:=0
def tw13632657850899081947:=0
def tw8843948132462533730:=0
def tw6783028016153584279:=0
def tw3542154457723386404:=0
def tw10576203681716917399:=0
def tw11014843614042879041:=0
def tw16591745084809579549:=0
def tw9458678494516689205:=0
def tw6381278332541121206:=0
def tw18357876947204045245:=0
def tw17887081313373647053:=0
end PySem.W.Fast
open PySem PySem.W PyProof.Rows
set_option maxRecDepth 100000 in
set_option maxHeartbeats 0 in
theorem PySem.Challenge.cw_farthestcut_k21_no_ties_of_values_holds : PySem.Challenge.rw_farthestcut_k21_no_ties_of_values.Holds := by
 w_on;o_law;k_head;(case hw=>w_witness2)
 k_fill
 refine L2.walk_ofK (l:=PySem.Challenge.rw_farthestcut_k21_no_ties_of_values) (n:=63) (k:=11) (x:="_law_script") (CX:=L2.CX0) (sp:=fun K=>DL.spD K 1 K21.m_law) ?I rfl (by decide) rfl ⟨rfl,by decide,by decide,rfl⟩ (fun w h Y=>W.kIn_of Y) ?F ?S ?C
 case S=>exact fun K H a ns hl _ hS=>K21.sp_law K H a ns hl hS
 case C=>exact fun _ _ _ _ h=>h
 case I=>rfl
 case F =>
  intro w mg fa h KX G hmg;have T:∃ t:K21.Adr,K21.Txt (L2.KOf KX) mg t/\mg "law"=some (.ref (t.A 41))/\∃ kV doc pm an cdv ct,t.Q 41=Ww "law" "law" (L2.defArgs (K21.top 75)) (L2.defBody (K21.top 75)) (L2.defScope (K21.top 75)) .none kV doc pm an cdv ct:=by
   dsimp only[L2.KOf];refine' K21.txt_wr (K21.txt_mk KX G ?QS ?_ ?_ ?_ ?_ ?_ ?_ ?_ ?_ ?_ ?_ ?_ ?_ ?_ ?_ ?_ ?_ ?_ ?_ ?_ ?_ ?_ ?_ ?_ ?_ ?_ ?_ ?_ ?_ ?_ ?_ ?_ ?_ ?_ ?_ ?_ ?_ ?_ ?_ ?_ ?_ ?_ ?_ ?_ ?_ ?_ ?_ ?_ ?_ ?_ ?_ ?_ ?_ ?_ ?_ ?_ ?_ ?_ ?_ ?_ ?_ ?_ ?_ ?_ ?_ ?_ ?_ ?_ ?_ ?_ ?_ ?_ ?_ ?_ ?_ ?_ ?_ ?_ ?_ ?_ ?_ ?_ ?_ ?_ ?_ ?_ ?_ ?_ ?_ ?_ ?_ ?_ ?_ ?_ ?_ ?_ ?_ ?_ ?_ ?_ ?_ ?_ ?_ ?_ ?_ ?_ ?_ ?_ ?_ ?_ ?_ ?_ ?_ ?_ ?_ ?_ ?_ ?_ ?_ ?_ ?_ ?_)
   case' QS=>iterate 42 refine DL.QAs.cons ⟨by k_is,by k_is,_,_,_,_,_,_,_,_,_,by k_is,by k_is⟩ ?_
   case QS=>trivial
   all_goals try first |k_is |k_exc |rfl
   exact⟨_,_,_,_,[.str "one",.str "both"],rfl,.cons ⟨_,rfl⟩ (.cons ⟨_,rfl⟩ (.nil)),by decide,fun H=>DL.Reps.cons (DL.Rep.str_iff.mpr rfl) (DL.Reps.cons (DL.Rep.str_iff.mpr rfl) (DL.Reps.nil))⟩
  obtain⟨t,T,e0,kV,doc,pm,an,cdv,ct,ed⟩:=T;have e1:=hmg.symm.trans e0;cases e1;refine⟨t.Q 41,fun s u=>?_,fun base kb nb=>(K21.ok_law T).F⟩;rw[ed];exact .of_eq rfl
