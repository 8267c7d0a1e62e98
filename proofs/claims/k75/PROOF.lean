import PyProof.Rows.All
import Wide.All
import OpenK.AllK
import Wide.FinOn
import PyProof.EqAt
import PyProof.EqKinds
import PyProof.NeKinds
import PyProof.TupleCall
import PyProof.StrWalks
import PyProof.EnumMake
import PyProof.WalksEnum
import PyProof.ZipIter
import PyProof.Rows.ZipGen
import PyProof.Rows.SortWalk
import KE.KSortedM
import PyProof.StrLawsIdx
import PyProof.ExcInit
import PyProof.InstStoreFacts
import PyProof.AttrMissHeap
import PyProof.FactsAll.enumerate
import PyProof.FactsAll.dict_1
import KE.KDictOf
import KE.KItemsList
import PyProof.ReprRoads
import PyProof.StrLawsNeg
import PyProof.FitsInt
import PyProof.TupleIter
import PyProof.WalksMore
import PyProof.ExcClass2
import PyProof.Rows.MatchSeqLen
import PyProof.AttrMissSeq
import PyProof.FactsAll.zip_1
import KE.LcSums
import KE.KRevIter
import PyProof.DictWalks
import PyProof.DictItemsLoops
import KE.KPairComp
import KE.KDictText
import PySem.Challenge.RW_farthestcut_k75_webs_written
open PySem renaming Value->Sy,Addr->SA,wpAny_bind->SG,Str->SH,Shared->SI,starEach->SJ,Heap->S1,wpAny_pure->S5,model->Tb,wpAny->Td,mainGlobals->Te,Expr->Tn,Program->Tr,Around->TK,FuncData->TQ,World->TU,backTo->TZ,swapsWith->T1,wpAny_mono->T4,attributeBase->Ub,compareOp->Uc,Stmt->Ud,Env->Uh,wpAny_truthy_bool->UG,wpAny_loadPart_at->UH,NameKind->UI,keywordEach->US,mem_of_lookup->UW,wpAny_holding->UY,Keyword->U3,Within->U6,intText?->Vc,codeAny->Vt,backToKw->VB,Scope->VN,typeLookup->VR,cLine->Wu,Result->WH,DictEntry->Xb,sysModules->Xk,pyIter->XF,holding->XG,getAttr->XH,intBits_le_iff->X9
open List renaming length_map->SD,mem_cons_of_mem->SM,getElem?_set_ne->SO,mem_cons_self->SQ,getElem?_eq_some_iff->SR,getElem?_eq_getElem->SS,mem_cons->SV,length_cons->S0,replicate->S4,mem_of_getElem?->S7,size_toArray->S8,getElem?_map->Ta,length_append->Tc,getElem?_append_left->Tg,getElem?_append_right->To,all_eq_true->Tp,mem_map->Tt,map_cons->Tv,getElem?_replicate->Tz,mem_singleton->TC,getElem?_set_self->TM,mem_append->TX,range->TY,map_append->T3,replicate_succ->T6,drop_eq_getElem_cons->T7,mem_append_right->Ue,length_replicate->Ug,not_mem_nil->Ui,append_assoc->Uk,getElem?_cons_succ->Uq,append_nil->Ut,cons_append->Uu,map_map->Uy,lookup_cons->UC,length_take->UD,getElem?_set_self'->UE,filterMap_cons->UJ,nil_append->UL,getElem?_take_of_lt->UR,length_singleton->U2,nodup_cons->U5,flatten_cons->U8,all_cons->Va,length_eq_zero_iff->Ve,getElem?_cons_zero->Vf,lookup->Vh,zip_cons_cons->Vj,map_nil->Vk,length_nil->Vn,getElem?_drop->VH,Nodup->VI,range_succ_eq_map->VO,take_length->VT,mem_nil_iff->VU,length_drop->VV,getElem_mem->VW,length->VY,set_cons_zero->V5,set_cons_succ->V6,mem_range->V7,reverse_cons->Wf,drop_length->Wn,all_map->Ws,mem_append_left->Wx,map_id->Wy,replicate_zero->WB,length_reverse->WC,mem_filterMap->WK,take_succ_eq_append_getElem->W0,nodup_append->W2,ext_getElem?->W3,of_mem_zip->Xh,eq_of_mem_replicate->Xv,any_cons->Xw,zipWith->XW,take_of_length_le->XX,mem_iff_getElem?->X1,mem_of_mem_take->Yb,map_congr_left->Ye
open PySem.W renaming Frag->SE,nsIn->Up,findIn->Uw,kia_one->UB,emptyDict->UK,subIn->UO,mg_of->UP,mg_none_of->UQ,hasDictIn->Vg,keepIn->Vv,fnOf->VG,Looks->V1,instObj->V3,specialIn->Wb,hideAll->Wl,of_hideAll->Wo,looks_clsIn->WD,plainGet->WE,isNs_of_in->WR,exmOne->WS,excIn->WT,plainOver->Xc,kitx_dict->Xd,codeIn->Xl,any_some->Xm,InstAt->Xn,hideAll_get->Xt,takesIn->XA,mroIn->XI,set_plain->X3,methodObj->X4,lookIn->X5,kitx_list->X6,kitOne->X7
open PySem.Heap renaming get?_push_of_some->SK,lt_size->S9,get?_push_size->TH,get?_update_other->UX,get?_update_self->U4,FlyingW->Vl,SameBut->VQ,get?_none_of_le->VZ,size_push->Wz,MadeExcOf->WA,NotedW->Yd,get?_update_ne->Yf
open Nat renaming lt_of_lt_of_le->SU,le_trans->SW,le_refl->Tf,ne_of_lt->Ts,lt_of_le_of_lt->T2,le_of_lt->Ua,pow_le_pow_right->Ur,lt_succ_self->U0,lt_irrefl->Vr,mod_lt->V4,zero_le->We,zero_add->Wr,toDigits->WY,sub_zero->WZ,min_eq_left->Xg,pow_succ->XO,le_of_eq->XT,add_zero->XU,succ->Ya
open Bool renaming and_eq_true->SX,false_and->S6,true_and->Tj,not_true->Tx,not_false->TJ,false_ne_true->Us,eq_iff_iff->Vp,and_true->VX,and_false->Wa,or_eq_true->Wv,and_eq_false_iff->Ww,false_eq_true->WO,not_eq_true'->W6,false_or->Xy,and_self->Xz
open Or renaming inl->SY,inr->WI
open PySem.SeqAt renaming RcNeAt->Th,EqAt->Ti,RcAt->Tq,ne_of_list_tuple->XM
open PySem.Value renaming ref->Tu,none->Uz,bool->UA,str->UT,int->UU,builtin->Vq,float->X8
open Ne renaming symm->TF
open Int renaming gcd->TN,eq_ofNat_of_zero_le->Uj,toNat_natCast->U9,ediv_nonneg->VE,fmod_nonneg_of_pos->VP,le_of_lt->V2,natCast_nonneg->V8,fmod_eq_emod_of_nonneg->V9,fmod_lt_of_pos->WL,mul_nonneg->Xo,natAbs_ediv_le_natAbs->Xr,mul_ediv_cancel_left->Xx,mul_pos->Yc
open PySem.Str renaming ofString->TR,join->VC,length_append->WV
open PySem.Txt renaming join->TV,split->Uv,slice->Vz,startswith->VM,slice_le->WU
open Option renaming some->T5,map_some->Vm,getD_some->VA,isSome_iff_exists->Wk,none->Xe,bind_eq_some_iff->XD
open False renaming elim->T8
open Option.some renaming inj->T9,injEq->U7
open PySem.Builtin.Slice renaming slicePlaces->Ul,sliceAdjust->UN,sliceApplied->Vx,sliceFields->Xs
open PySem.Builtin.Tuple renaming tupleExact->Um,tupleItemsOf->Xq
open Array renaming length_toList->Uo,getElem?_eq_some_iff->Vy,append_assoc->WQ,getElem?_setIfInBounds_ne->W8
open PySem.PassesOwn renaming never->Ux,leaving->WX
open PyProof.Rows renaming slot_tuple_getitem->UM,callWith_type1->Vu
open PySem.NameKind renaming free->UZ
open PySem.F renaming excBase_ValueError->U1,plainAttrs_list->Vd,attr_ValueError->Wg,type_list_append->Wh,slot_list_append->Wi,args_tuple_add_2->Wj,entry_tuple_add->Wm,slot_tuple_add->Wq,args_str_split_2->WM,entry_str_split->W5,slot_str_split->Xa,plainAttrs_str->XN,typeOf_object_class->X2
open True renaming intro->Vi
open PySem.Builtin renaming divisionGoesByPylong->Vo
open PySem.StrLaws renaming glued_eq_join->Vs,occ_length_le->XZ
open PySem.Builtin.List renaming listTooLong->VD
open ForInStep renaming yield->VF
open PySem.Builtin.Str renaming occurrences->VJ
open PySem.Builtin.Range renaming rangeSize->VL,small->Yh
open PySem.Calls renaming evalArgs_plain->V0,callWith_builtin->Wt,Name_function_global->Xp
open Sum renaming inr->Wc,inl->Wd
open PySem.SeqAt.EqAt renaming of_refs->WG,same->Xf
open PySem.Obj renaming data_mapFields->WJ,isFreed_of_fields->X0
open PySem.Code renaming quiet_builtin->WN,isFrame->XY
open PySem.Within renaming cons->WW
open Function renaming comp_def->W4
open PySem.Around renaming under->W7
open PyProof.Rows.IsTup renaming new->W9
open List.cons renaming injEq->Xi
open Iff renaming rfl->Xj
open PySem.SeqAt.RcAt renaming lists_lengths->Xu
open PySem.W.Looks renaming here->XJ
open PySem.EntryCells renaming newEntry->Yg
set_option compiler.extract_closed false
set_option bootstrap.genMatcherCode false
set_option Elab.async false
set_option linter.all false
set_option maxRecDepth 100000
set_option maxHeartbeats 4000000
noncomputable section
abbrev ci:=List SH
abbrev cr:=List Nat
namespace L2
open PySem PySem.Spec PyProof.Rows
abbrev wo:=Sum Int SH
def K4:wo->Sy->Bool
 |.inl k,v=>Value.isInt k v
 |.inr x,v=>Value.isStrOf x v
def Rm(w:TU):wo->Int
 |.inl k=>hashInt k
 |.inr x=>hashStr w x
theorem dm:∀{k:wo}{v:Sy},K4 k v=true->(∃i t,k=Wd i/\v=UU i t)∨(∃x t,k=Wc x/\v=UT x t)
 |.inl i,v,h=>by
  obtain⟨t,e⟩:=Value.isInt_shape (k:=i) (v:=v) h;exact .inl ⟨i,t,rfl,e⟩
 |.inr x,v,h=>by
  obtain⟨t,e⟩:=Value.isStrOf_shape (x:=x) (v:=v) h;exact .inr ⟨x,t,rfl,e⟩
def MG(a b:Int):decide ((Wd a:wo)=Wd b)=(a==b):=by
 by_cases e:a=b
 .subst e;simp
 .have h:¬(Wd a:wo)=Wd b:=λq=>e (Wd.inj q)
  rw[decide_eq_false h];exact(beq_eq_false_iff_ne.mpr e).symm
def MD(a b:SH):decide ((Wc a:wo)=Wc b)=decide (a=b):=by
 by_cases e:a=b
 .subst e;simp
 .have h:¬(Wc a:wo)=Wc b:=λq=>e (Wc.inj q)
  rw[decide_eq_false h,decide_eq_false e]
def MF(a:Int)(b:SH):decide ((Wd a:wo)=Wc b)=false:=decide_eq_false (λq=>nomatch q)
def ME(a:SH)(b:Int):decide ((Wc a:wo)=Wd b)=false:=decide_eq_false (λq=>nomatch q)
noncomputable def Ay(prog:Tr) (w:TU):PySem.KeyKind prog w wo where
 is:=K4
 hash:=Rm w
 inj:=λv a b ha hb=>by
  rcases dm ha with⟨i,t,rfl,rfl⟩|⟨x,t,rfl,rfl⟩
  .rcases dm hb with⟨j,u,rfl,e⟩|⟨y,u,rfl,e⟩
   .injection e with e1 _;rw[e1]
   .exact nomatch e
  .rcases dm hb with⟨j,u,rfl,e⟩|⟨y,u,rfl,e⟩
   .exact nomatch e
   .injection e with e1 _;rw[e1]
 byValue:=λk v h=>by
  rcases dm h with⟨i,t,rfl,rfl⟩|⟨x,t,rfl,rfl⟩<;>rfl
 pyHash:=λhv h=>by
  rcases dm hv with⟨i,t,rfl,rfl⟩|⟨x,t,rfl,rfl⟩
  .exact wpAny_pyHash_int h
  .exact wpAny_pyHash_str h
 eqBool:=λhu hv h=>by
  rcases dm hu with⟨i,t,rfl,rfl⟩|⟨x,t,rfl,rfl⟩
  .rcases dm hv with⟨j,u,rfl,rfl⟩|⟨y,u,rfl,rfl⟩
   .rw[MG]at h;exact wpAny_eqBool_int h
   .rw[MF]at h;exact Ti.int_str i t y u _ _ _ _ h
  .rcases dm hv with⟨j,u,rfl,rfl⟩|⟨y,u,rfl,rfl⟩
   .rw[ME]at h;exact Ti.str_int x t j u _ _ _ _ h
   .rw[MD]at h;exact wpAny_eqBool_str h
 «strs»:=λk x t v h=>by
  rcases dm h with⟨i,u,rfl,e⟩|⟨y,u,rfl,e⟩
  .exact nomatch e
  .injection e with e1 _
   subst e1;cases v<;>rfl
inductive V where
 |non|bl (b:Bool)|int (i:Int)|str (x:SH)|byt (b:Array UInt8)|flt (b:UInt64)|ref (a:SA)|ty (n:String)
 deriving DecidableEq
abbrev al:=List V
noncomputable def bW:V->Sy->Prop
 |.non,u=>u=Uz
 |.bl b,u=>u=UA b
 |.int i,u=>∃t,u=UU i t
 |.str x,u=>∃t,u=UT x t
 |.byt b,u=>∃t,u=Value.bytes b t
 |.flt b,u=>∃t,u=X8 b t
 |.ref a,u=>u=Tu a
 |.ty n,u=>u=Value.type n
abbrev bx:al->List Sy->Prop:=Paired bW
def bx.length{xs:al}{us:List Sy}(r:bx xs us):xs.length=us.length:=Paired.length r
theorem bx.get:∀{xs:al}{us:List Sy}{i:Nat}{x:V},bx xs us->xs[i]?=some x->∃u,us[i]?=some u/\bW x u
 |_,_,_,_,.nil,e=>by simp at e
 |_,_,0,_,.cons r _,e=>by simp at e;subst e;exact⟨_,rfl,r⟩
 |_,_,i+1,x,.cons _ t,e=>by
  obtain⟨u,h1,h2⟩:=bx.get (i:=i) (x:=x) t (by simpa using e);exact⟨u,by simpa using h1,h2⟩
theorem bx.append:∀{xs ys:al}{us ws:List Sy},bx xs us->bx ys ws->bx (xs++ys) (us++ws)
 |_,_,_,_,.nil,s=>s
 |_,_,_,_,.cons r t,s=>.cons r (bx.append t s)
theorem bx.take:∀{xs:al}{us:List Sy}(n:Nat),bx xs us->bx (xs.take n) (us.take n)
 |_,_,0,_=>.nil
 |_,_,_+1,.nil=>.nil
 |_,_,n+1,.cons r t=>.cons r (bx.take n t)
theorem bx.drop:∀{xs:al}{us:List Sy}(n:Nat),bx xs us->bx (xs.drop n) (us.drop n)
 |_,_,0,r=>r
 |_,_,_+1,.nil=>.nil
 |_,_,n+1,.cons _ t=>bx.drop n t
def tP:Option V->Option Sy->Prop
 |some v,some u=>bW v u
 |none,none=>True
 |_,_=>False
def KV{κ:Type}:List (κ×V)->List (κ×Sy)->Prop:=Paired λ(p:κ×V) (q:κ×Sy)=>p.1=q.1/\bW p.2 q.2
def kV:wo->V
 |.inl i=>.int i
 |.inr x=>.str x
inductive HO where
 |lst (xs:al)
 |tup (xs:al)
 |dK (kvs:List (wo×V))|dT (kvs:List (List wo×V))
 |set (S:Int->Bool) (n:Nat)
 |ins (C dx:SA) (fs:List (SH×V))
 |own (x:SA)
 |xd (fs:List (SH×V))
 |met (f x:SA)
 |rng (lo hi:Int)
 |frz (o:Obj) (u:HO)
 |tbl (ps:Array Sy)
 |ext (φ:S1->Prop)
abbrev Hp:=SA->Option HO
def upd(H:Hp)(a:SA)(o:HO):Hp:=λb=>if b=a then some o else H b
def az{H:Hp}{a:SA}{o:HO}:upd H a o a=some o:=by unfold upd;rw[if_pos rfl]
def ax{H:Hp}{a b:SA}{o:HO}(h:b≠a):upd H a o b=H b:=by unfold upd;rw[if_neg h]
def bg{H:Hp}{a b:SA}{o:HO}(h:H a=some o)(h':H b=none):a≠b:=by
 intro e;subst e;rw[h]at h';cases h'
section
variable (P:Tr) (w:TU)
noncomputable def bY(H:Hp) (h:S1) (a:SA):HO->Prop
 |.lst xs=>xs.length<=sizeLine/\∃(its:List Sy) (n:Nat),bx xs its/\h.get? a=some { cls:=.type "list",data:=.seq its.toArray n }
 |.tup xs=>xs.length<=sizeLine/\∃its:List Sy,bx xs its/\IsTup h a its.toArray
 |.dK kvs=>kvs.length<=sizeLine/\(a==Xk)=false/\∃vs,KV kvs vs/\h.DictOf (Ay P w) a vs
 |.dT kvs=>kvs.length<=sizeLine/\(a==Xk)=false/\∃xs:List (List wo×SA×Sy),
   Paired (λ(p:List wo×V) (q:List wo×SA×Sy)=>p.1=q.1/\H q.2.1=some (.tup (p.1.map kV))/\bW p.2 q.2.2) kvs xs /\
   ∃o es ep,h.get? a=some o/\o.ExactDict/\o.data=.dict es ep/\es.toList=xs.map (entryOfKey (tupleKind (Ay P w)))/\(xs.map (·.1)).Nodup
 |.set S n=>h.SetOf (intKind P w) a S n
 |.ins C dx fs=>H dx=some (.own a)/\fs.length<=1000/\dx≠a/\h.get? a=some (V3 C dx) /\
   ∃mA,h.Ns1 dx mA/\(∀f,tP (fs.lookup f) (mA f))/\U6 mA (fs.map (·.1))
 |.own _=>∃o,h.get? a=some o
 |.xd fs=>∃mA,h.Ns1 a mA/\∀f,tP (fs.lookup f) (mA f)
 |.rng lo hi=>∃t u v,h.get? a=some { cls:=.type "range",data:=.fields #[.int lo t,.int hi u,.int 1 v] }
 |.frz o u=>h.get? a=some o/\bY H h a u
 |.tbl ps=>h.get? a=some { cls:=.none,data:=.fields ps }
 |.met f x=>h.get? a=some (X4 (.ref f) (.ref x))
 |.ext φ=>φ h/\(∃o,h.get? a=some o)/\∀h1 h2:S1,φ h1->(∀o,h1.get? a=some o->h2.get? a=some o)->φ h2
def gY(H:Hp)(h:S1):Prop:=∀a o,H a=some o->bY P w H h a o
end
section
variable {P:Tr}{w:TU}{H H':Hp}{h h':S1}{a:SA}{o:HO}
def bY.lt(x:bY P w H h a o):a<h.objs.size:=by
 cases o with|lst xs=>obtain⟨_,_,_,_,e⟩:=x;exact S9 e|tup xs=>obtain⟨_,_,_,p⟩:=x;exact p.lt|dK kvs|dT kvs=>obtain⟨_,_,_,_,o,_,_,e,_⟩:=x;exact S9 e|set S n=>obtain⟨o,_,_,_,e,_⟩:=x;exact S9 e|ins C dx fs=>obtain⟨_,_,_,e,_⟩:=x;exact S9 e|own y=>obtain⟨_,e⟩:=x;exact S9 e|xd fs=>obtain⟨_,⟨_,_,_,e,_⟩,_⟩:=x;exact S9 e|rng lo hi=>obtain⟨_,_,_,e⟩:=x;exact S9 e|frz ob u=>obtain⟨e,_⟩:=x;exact S9 e|tbl ps|met f y=>exact S9 (show h.get? a=some _ from x)|ext φ=>obtain⟨_,⟨_,e⟩,_⟩:=x;exact S9 e
theorem pf{α β:Type}{F G:α->β->Prop}:∀{lc:List α}{lf:List β},Paired F lc lf->(∀a b,F a b->G a b)->Paired G lc lf
 |_,_,.nil,_=>.nil
 |_,_,.cons r t,f=>.cons (f _ _ r) (pf t f)
def bY.stay(x:bY P w H h a o)(k:∀b u,(b=a∨H b=some (.own a))->h.get? b=some u->h'.get? b=some u)
  (ho:∀b,H b=some (.own a)->H' b=some (.own a))(ht:∀b xs,H b=some (.tup xs)->H' b=some (.tup xs)):bY P w H' h' a o:=by
 induction o with
 |lst xs=>obtain⟨z,its,n,r,e⟩:=x;exact⟨z,its,n,r,k _ _ (.inl rfl) e⟩|tup xs=>obtain⟨z,its,r,ob,e,c⟩:=x;exact⟨z,its,r,ob,k _ _ (.inl rfl) e,c⟩|dK kvs=>obtain⟨z,y,vs,r,ob,es,ep,e,c⟩:=x;exact⟨z,y,vs,r,ob,es,ep,k _ _ (.inl rfl) e,c⟩
 |dT kvs=>
  obtain⟨z,y,xs,r,ob,es,ep,e,c⟩:=x;exact⟨z,y,xs,pf r λp q z=>⟨z.1,ht _ _ z.2.1,z.2.2⟩,ob,es,ep,k _ _ (.inl rfl) e,c⟩
 |set S n=>obtain⟨ob,es,ep,t,e,c⟩:=x;exact⟨ob,es,ep,t,k _ _ (.inl rfl) e,c⟩
 |ins C dx fs=>
  obtain⟨d,z,ne,e,mA,⟨od,es,ep,e2,c⟩,r⟩:=x;exact⟨ho _ d,z,ne,k _ _ (.inl rfl) e,mA,⟨od,es,ep,k _ _ (.inr d) e2,c⟩,r⟩
 |own y=>obtain⟨ob,e⟩:=x;exact⟨ob,k _ _ (.inl rfl) e⟩|xd fs=>obtain⟨mA,⟨od,es,ep,e,c⟩,r⟩:=x;exact⟨mA,⟨od,es,ep,k _ _ (.inl rfl) e,c⟩,r⟩|rng lo hi=>obtain⟨t,u,v,e⟩:=x;exact⟨t,u,v,k _ _ (.inl rfl) e⟩|frz ob u ih=>obtain⟨e,q⟩:=x;exact⟨k _ _ (.inl rfl) e,ih q⟩
 |tbl ps=>
  have e:h.get? a=some { cls:=.none,data:=.fields ps }:=x;show h'.get? a=some { cls:=.none,data:=.fields ps };exact k a _ (.inl rfl) e
 |met f y=>
  have e:h.get? a=some (X4 (.ref f) (.ref y)):=x;show h'.get? a=some (X4 (.ref f) (.ref y));exact k a _ (.inl rfl) e
 |ext φ=>obtain⟨p,⟨o,e⟩,st⟩:=x;exact⟨st _ _ p λo q=>k _ _ (.inl rfl) q,⟨o,k _ _ (.inl rfl) e⟩,st⟩
def gY.lt(x:gY P w H h)(e:H a=some o):a<h.objs.size:=(x a o e).lt
def gY.fresh(x:gY P w H h)(e:h.objs.size<=a):H a=none:=by
 cases q:H a with|none=>rfl|some u=>exact absurd (SU (x.lt q) e) (Vr _)
def gY.kept(x:gY P w H h)(k:∀b u,h.get? b=some u->h'.get? b=some u):gY P w H h':=λa o e=>
 (x a o e).stay (λb u _ q=>k b u q) (λ_ q=>q) λ_ _ q=>q
def gY.laid(x:gY P w H h)(k:∀b u,h.get? b=some u->h'.get? b=some u)(hp:h.objs.size<=a)(new:bY P w (upd H a o) h' a o):gY P w (upd H a o) h':=λb u e=>by
 have hn:=x.fresh hp
 by_cases hb:b=a
 .subst hb;rw[az]at e;cases e;exact new
 .rw[ax hb]at e
  exact(x b u e).stay (λc v _ q=>k c v q) (λc q=>by rw[ax (bg q hn)];exact q) λc xs q=>by rw[ax (bg q hn)];exact q
end
def Rd(H:Hp)(a:SA)(u:HO):Prop:=H a=some u∨∃o,H a=some (.frz o u)
def Rd.ok{P:Tr}{w:TU}{H:Hp}{h:S1}{a:SA}{u:HO}(r:Rd H a u)(x:gY P w H h):bY P w H h a u:=by
 rcases r with r|⟨o,r⟩
 .exact x a u r
 .obtain⟨_,q⟩:=x a _ r
  exact q
def N9:Option HO->Prop
 |some (.lst _)=>True
 |some (.dK _)=>True
 |some (.dT _)=>True
 |some (.set _ _)=>True
 |some (.ins _ _ _)=>True
 |some (.ext _)=>True
 |_=>False
section
variable {P:Tr}{w:TU}{H:Hp}{h h':S1}{x e:SA}{o':HO}
def gY.write(ok:gY P w H h)(mu:N9 (H x))(he:e=x∨H e=some (.own x))(k:∀b u,b≠e->h.get? b=some u->h'.get? b=some u)(heo:∃u,h'.get? e=some u)
  (new:bY P w (upd H x o') h' x o'):gY P w (upd H x o') h':=λb u q=>by
 have nown:∀c y,H c=some (.own y)->c≠x:=λc y r z=>by subst z;rw[r]at mu;exact mu
 have ntup:∀c xs,H c=some (.tup xs)->c≠x:=λc xs r z=>by subst z;rw[r]at mu;exact mu
 by_cases hb:b=x
 .subst hb;rw[az]at q;cases q;exact new
 .rw[ax hb]at q
  by_cases hbe:b=e
  .have q':H b=some (.own x):=by
    rcases he with z|z
    .exact absurd (hbe.trans z) hb
    .rw[hbe];exact z
   rw[q]at q';cases q';obtain⟨v,hv⟩:=heo;exact⟨v,by rw[hbe];exact hv⟩
  .refine(ok b u q).stay (λc v hc r=>k c v ?_ r) (λc r=>by rw[ax (nown c b r)];exact r) λc xs r=>by rw[ax (ntup c xs r)];exact r
   rcases hc with rfl|hc
   .exact hbe
   .rintro rfl
    rcases he with z|z
    .exact nown c b hc z
    .rw[hc]at z;cases z;exact hb rfl
end
structure Un (fs ex:List SA) (H H':Hp) (h h':S1):Prop where
 keep:∀b o,h.get? b=some o->H b=none->b∉fs->b∉ex->h'.get? b=some o
 slot:∀b o,h.get? b=some o->H b=none->b∈fs->b∉ex->∃sl,h'.get? b=some { o with slots:=sl }
 free:∀b o,h.get? b=some o->H b=none->b∉ex->H' b=none
 there:∀b o,h.get? b=some o->b∉ex->∃o',h'.get? b=some o'
 tups:∀b xs,H b=some (.tup xs)->H' b=some (.tup xs)
 frzs:∀b o u,H b=some (.frz o u)->H' b=some (.frz o u)
 tbls:∀b ps,H b=some (.tbl ps)->∃more,H' b=some (.tbl (ps++more))
section
variable {fs fs' ex ex':List SA}{H H1 H2:Hp}{h h1 h2 h':S1}{a x e:SA}{o:HO}
def Un.any(u:Un fs ex H H1 h h1){b:SA}{ob:Obj}(q:h.get? b=some ob)(n:H b=none)(hx:b∉ex):∃sl,h1.get? b=some { ob with slots:=sl }:=by
 by_cases hb:b∈fs
 .exact u.slot b ob q n hb hx
 .exact⟨ob.slots,u.keep b ob q n hb hx⟩
def Un.trans(a:Un fs ex H H1 h h1)(b:Un fs ex H1 H2 h1 h2):Un fs ex H H2 h h2 where
 keep:=λc ob q n hc hx=>b.keep c ob (a.keep c ob q n hc hx) (a.free c ob q n hx) hc hx
 slot:=λc ob q n hc hx=>by
  obtain⟨sl,e1⟩:=a.slot c ob q n hc hx;obtain⟨sl',e2⟩:=b.slot c _ e1 (a.free c ob q n hx) hc hx;exact⟨sl',e2⟩
 free:=λc ob q n hx=>by
  obtain⟨o',e1⟩:=a.there c ob q hx;exact b.free c o' e1 (a.free c ob q n hx) hx
 there:=λc ob q hx=>by
  obtain⟨o',e1⟩:=a.there c ob q hx;exact b.there c o' e1 hx
 tups:=λc xs q=>b.tups c xs (a.tups c xs q)
 frzs:=λc ob xs q=>b.frzs c ob xs (a.frzs c ob xs q)
 tbls:=λc ps q=>by
  obtain⟨m1,e1⟩:=a.tbls c ps q;obtain⟨m2,e2⟩:=b.tbls c _ e1;exact⟨m1++m2,by rw[e2,WQ]⟩
def Un.kept(k:∀b u,h.get? b=some u->h'.get? b=some u):Un fs ex H H h h' :=
 ⟨λb ob q _ _ _=>k b ob q,λb ob q _ _ _=>⟨ob.slots,k b ob q⟩,λ_ _ _ n _=>n,λb ob q _=>⟨ob,k b ob q⟩,λ_ _ q=>q,λ_ _ _ q=>q,λ_ ps q=>⟨#[],by rw[q];simp⟩⟩
def Un.refl:Un fs ex H H h h:=Un.kept λ_ _ q=>q
def Un.laid(k:∀b u,h.get? b=some u->h'.get? b=some u)(hp:h.objs.size<=a)(hn:H a=none):Un fs ex H (upd H a o) h h' where
 keep:=λb u q _ _ _=>k b u q
 slot:=λb u q _ _ _=>⟨u.slots,k b u q⟩
 free:=λb u q n _=>by rw[ax (Ts (SU (S9 q) hp))];exact n
 there:=λb u q _=>⟨u,k b u q⟩
 tups:=λb xs q=>by rw[ax (bg q hn)];exact q
 frzs:=λb u xs q=>by rw[ax (bg q hn)];exact q
 tbls:=λb ps q=>⟨#[],by rw[ax (bg q hn),q];simp⟩
def Un.write(mu:N9 (H x))(he:e=x∨H e=some (.own x))(k:∀b u,b≠e->h.get? b=some u->h'.get? b=some u)(heo:∃u,h'.get? e=some u):Un fs ex H (upd H x o) h h':=by
 have hx:∀b,H b=none->b≠x:=λb n z=>by subst z;rw[n]at mu;exact mu
 have hb:∀b,H b=none->b≠e:=λb n z=>by
  subst z;rcases he with r|r
  .exact hx b n r
  .rw[n]at r;cases r
 have hm:∀b u,H b=some u->¬N9 (some u)->b≠x:=λb u q nm z=>by subst z;rw[q]at mu;exact nm mu
 refine⟨λb u q n _ _=>k b u (hb b n) q,λb u q n _ _=>⟨u.slots,k b u (hb b n) q⟩,λb u q n _=>by rw[ax (hx b n)];exact n,λb u q _=>?_,
  λb xs q=>by rw[ax (hm b _ q λz=>z)];exact q,λb u xs q=>by rw[ax (hm b _ q λz=>z)];exact q,λb ps q=>⟨#[],by rw[ax (hm b _ q λz=>z),q];simp⟩⟩
 by_cases hbe:b=e
 .subst hbe;exact heo
 .exact⟨u,k b u hbe q⟩
end
def Qy(h:S1)(H:Hp):List SA:=(TY h.objs.size).filter λa=>(H a).isSome
def vM(h:S1)(H:Hp):S1:=Wl h (Qy h H)
def CI(h:S1)(H:Hp):(vM h H).objs.size=h.objs.size:=W.hideAll_size _ _
def FF{h:S1}{H:Hp}{b:SA}{o:Obj}(e:h.get? b=some o)(n:H b=none):(vM h H).get? b=some o :=
 Xt _ e λhm=>by
  have q:(H b).isSome=true:=(List.mem_filter.mp hm).2;rw[n]at q;simp at q
def IF{h:S1}{H:Hp}{b:SA}{o:Obj}(e:(vM h H).get? b=some o):h.get? b=some o/\H b=none:=by
 have e':h.get? b=some o:=Wo (Qy h H) e;refine⟨e',?_⟩;cases q:H b with
 |none=>rfl
 |some x=>
  have hm:b∈Qy h H:=List.mem_filter.mpr ⟨V7.mpr (S9 e'),by simp[q]⟩;have z:(vM h H).get? b=none:=W.hideAll_none (Qy h H) hm;rw[z]at e;cases e
structure Mod (K:SE) (mg:SH->Option Sy) (base:S1):Prop where
 kin:K.In base
 glob:base.Ns Te mg
 blt:∃mb,base.Ns builtinsNs mb/\∀x:SH,x≠"__name__"->mb x=bootBuiltins x
 nolimit:base.NoLimit
 sm:∃mm,base.Ns Xk mm
structure Cx where
 prog:Tr
 w:TU
 K:SE
 mg:SH->Option Sy
 base:S1
 A:TK
 N:ci
 sf:SI
 Ha:Hp
 env:Env
 outer:List Env
 stack:List Env
 ex:List SA
 fn:SH->Bool
 calm:Bool
 pn:List (SA×Obj)
 xe:Sy->SI->Prop
def iw(l:List Env):List SA:=l.filterMap (·.frame)
abbrev Cx.fs(X:Cx):List SA:=iw X.outer
def yh(sc:VN)(x:SH):Prop:=sc.names.lookup x=some .local ∨ sc.names.lookup x=some .cell∨sc.names.lookup x=some .free
def zL(sc:VN)(x:SH):Prop:=sc.names.lookup x=some .local ∨ sc.names.lookup x=some .cell
def Qq(env:Env)(h:S1)(m:SH->Option Sy)(x:SH)(u:Sy):Prop :=
 (env.kindOf x=some .local /\ m x=some u)∨((env.kindOf x=some .cell∨env.kindOf x=some .free)/\∃c,env.cells.lookup x=some c/\h.IsCell c (some u))
structure Cx.Ok (X:Cx):Prop where
 mod:Mod X.K X.mg X.base
 kind:X.env.scope.kind=.function
 glob:X.env.globals=Te
 blt:X.env.builtins=builtinsNs
 above:X.sf.heap.objs.size<=X.env.locals
 inj:∀x y c,X.env.cells.lookup x=some c->X.env.cells.lookup y=some c->x=y
 has:∀x,(X.env.kindOf x=some .cell∨X.env.kindOf x=some .free)->∃c,X.env.cells.lookup x=some c
 cab:∀x c,X.fn x=true->X.env.cells.lookup x=some c->X.sf.heap.objs.size<=c
 hd:X.calm=true->X.A.handled=none
 frames:X.A.frames=some X.stack
 stk:X.stack=X.outer∨(X.stack=X.env::X.outer/\X.env.frame=some X.env.locals)
 exf:∀b∈X.ex,b≠X.env.locals/\∀x c,X.env.cells.lookup x=some c->c≠b
 bs:∀b o,X.base.get? b=some o->X.sf.heap.get? b=some o/\X.Ha b=none
 bsz:X.base.objs.size<=X.sf.heap.objs.size
 noex:∀b o,X.base.get? b=some o->b∉X.ex
 exfs:∀b∈X.ex,b∉X.fs
 funs:X.sf.heap.FunFrames X.base X.outer
 frf:∀b∈X.fs,X.Ha b=none
structure Inv (X:Cx) (π:List (SA×Obj)) (σ:List (Option V)) (H:Hp) (s:SI):Prop where
 ok:X.Ok
 os:s.os=X.sf.os
 bare:AllBare s.gens
 base:Un X.fs X.ex X.Ha H X.sf.heap s.heap
 loc:∃m,s.heap.Ns X.env.locals m/\∀(i:Nat) (x:SH) (v:V),X.N[i]?=some x->σ[i]?=some (some v)->yh X.env.scope x->∃u,bW v u/\Qq X.env s.heap m x u
 cell:∀x c,X.env.cells.lookup x=some c->∃v,s.heap.IsCell c v
 free:H X.env.locals=none
 freeC:∀x c,X.env.cells.lookup x=some c->H c=none
 pin:∀p∈X.pn++π,s.heap.get? p.1=some p.2/\H p.1=none/\p.1≠X.env.locals/\p.1∉X.fs/\∀v,p.2.data≠.cell v
 hok:gY X.prog X.w H s.heap
 len:σ.length=X.N.length
section
variable {X:Cx}{π:List (SA×Obj)}{σ:List (Option V)}{H H':Hp}{s:SI}{h':S1}
def Cx.Ok.nofr(ok:X.Ok){b:SA}{o:Obj}(e:X.base.get? b=some o):b∉X.fs:=λhb=>by
 have:=(ok.funs.mem hb).1;rw[e]at this;cases this
def Inv.bs(I:Inv X π σ H s):∀b o,X.base.get? b=some o->s.heap.get? b=some o/\H b=none:=λb o e=>
 ⟨I.base.keep b o (I.ok.bs b o e).1 (I.ok.bs b o e).2 (I.ok.nofr e) (I.ok.noex b o e),I.base.free b o (I.ok.bs b o e).1 (I.ok.bs b o e).2 (I.ok.noex b o e)⟩
def Inv.bk(I:Inv X π σ H s):∀b o,X.base.get? b=some o->s.heap.get? b=some o:=λb o e=>(I.bs b o e).1
def Inv.mod(I:Inv X π σ H s):Mod X.K X.mg X.base:=I.ok.mod
def Inv.kIn(I:Inv X π σ H s):X.K.In s.heap:=I.ok.mod.kin.keeps I.bk
def Inv.lt(I:Inv X π σ H s):X.env.locals<s.heap.objs.size:=let ⟨_,hn,_⟩:=I.loc;hn.lt
def Inv.sz(I:Inv X π σ H s):X.sf.heap.objs.size<=s.heap.objs.size:=SW I.ok.above (Ua I.lt)
def Inv.nofs(I:Inv X π σ H s){a:SA}(h:s.heap.objs.size<=a):a∉X.fs:=λhb=>by
 obtain⟨_,o,ho,_⟩:=I.ok.funs.mem hb;exact absurd (SU (S9 ho) (SW I.sz h)) (Vr _)
def Inv.cne(I:Inv X π σ H s):∀x c,X.env.cells.lookup x=some c->c≠X.env.locals:=λx c e z=>by
 obtain⟨v,o,ho,hd⟩:=I.cell x c e;obtain⟨m,⟨o',es,ep,ho',hd',_⟩,_⟩:=I.loc;rw[z,ho']at ho;cases ho;rw[hd']at hd;cases hd
def Inv.funs(I:Inv X π σ H s):s.heap.FunFrames X.base X.outer:=by
 have all:∀(l:List Env),(∀b∈iw l,b∈X.fs)->X.sf.heap.FunFrames X.base l->s.heap.FunFrames X.base l:=by
  intro l
  induction l with
  |nil=>intro _ _;trivial
  |cons env r ih=>
   intro hs hl;obtain⟨hk,⟨L,o,hf,hn,ho,hd⟩,hr⟩:=hl;have hL:L∈X.fs:=hs L (by unfold iw;rw[UJ,hf];exact SQ);obtain⟨sl,e⟩:=I.base.slot L o ho (I.ok.frf L hL) hL λz=>I.ok.exfs L z hL;exact⟨hk,⟨L,_,hf,hn,e,hd⟩,ih (λb hb=>hs b (by unfold iw;rw[UJ,hf];exact SM _ hb)) hr⟩
 exact all X.outer (λ_ hb=>hb) I.ok.funs
def Inv.stack(I:Inv X π σ H s):s.heap.FunFrames X.base X.stack:=by
 rcases I.ok.stk with e|⟨e,hf⟩
 .rw[e];exact I.funs
 .rw[e]
  obtain⟨m,hn,_⟩:=I.loc;refine .cons (by rw[I.ok.kind];decide) hf hn ?_ I.funs;exact VZ (SW I.ok.bsz I.ok.above)
def Inv.stkSub(I:Inv X π σ H s):∀b∈iw X.stack,b∈X.env.locals::X.fs:=λb hb=>by
 rcases I.ok.stk with e|⟨e,hf⟩
 .rw[e]at hb;exact SM _ hb
 .rw[e]at hb
  unfold iw at hb;rw[UJ,hf]at hb;exact hb
def Inv.stkFree(I:Inv X π σ H s):∀b∈iw X.stack,H b=none:=λb hb=>by
 rcases SV.mp (I.stkSub b hb) with e|hb
 .rw[e];exact I.free
 .obtain⟨_,o,ho,_⟩:=I.ok.funs.mem hb
  exact I.base.free b o ho (I.ok.frf b hb) λz=>I.ok.exfs b z hb
def Inv.step{g':Array GenState}{t':Nat}{d':Drawn}{ch:List SA}(I:Inv X π σ H s)
  (hch:∀b∈ch,(b∈X.ex∨X.sf.heap.objs.size<=b)/\b≠X.env.locals/\(∀x c,X.env.cells.lookup x=some c->c≠b)/\∀p∈X.pn++π,p.1≠b)
  (keep:∀b o,b≠X.env.locals->b∉X.fs->b∉ch->s.heap.get? b=some o->H b=none->h'.get? b=some o)
  (slot:∀b o,b≠X.env.locals->b∈X.fs->b∉ch->s.heap.get? b=some o->H b=none->∃sl,h'.get? b=some { o with slots:=sl })(free:∀b o,b∉ch->s.heap.get? b=some o->H b=none->H' b=none)
  (there:∀b o,b∉ch->s.heap.get? b=some o->∃o',h'.get? b=some o')
  (tups:∀b xs,H b=some (.tup xs)->H' b=some (.tup xs))(frzs:∀b o u,H b=some (.frz o u)->H' b=some (.frz o u))(tbls:∀b ps,H b=some (.tbl ps)->∃more,H' b=some (.tbl (ps++more)))
  (ns:∀m,s.heap.Ns X.env.locals m->h'.Ns X.env.locals m)(hok:gY X.prog X.w H' h')(hg:AllBare g') :
  Inv X π σ H' { s with heap:=h',gens:=g',drawn:=d',toks:=t' }:=by
 have neL:∀b o,X.sf.heap.get? b=some o->b≠X.env.locals:=λb o e=>Ts (SU (S9 e) I.ok.above);have neC:∀b o,X.sf.heap.get? b=some o->b∉X.ex->b∉ch:=λb o e hx hb=>by
  rcases(hch b hb).1 with z|z
  .exact hx z
  .exact absurd (SU (S9 e) z) (Vr _)
 have cellK:∀x c,X.env.cells.lookup x=some c->∀v,s.heap.IsCell c v->h'.IsCell c v:=λx c e v z9=>by
  obtain⟨o,ho,hd⟩:=z9;have nch:c∉ch:=λz=>(hch c z).2.2.1 x c e rfl
  by_cases hc:c∈X.fs
  .obtain⟨sl,q⟩:=slot c o (I.cne x c e) hc nch ho (I.freeC x c e)
   exact⟨_,q,hd⟩
  .exact⟨o,keep c o (I.cne x c e) hc nch ho (I.freeC x c e),hd⟩
 refine⟨I.ok,I.os,hg,⟨λb o e n hb hx=>?_,λb o e n hb hx=>?_,λb o e n hx=>?_,λb o e hx=>?_,λb xs e=>tups b xs (I.base.tups b xs e),λb o xs e=>frzs b o xs (I.base.frzs b o xs e),λb ps e=>?_⟩,?_,λx c e=>?_,?_,λx c e=>?_,λp hp=>?_,hok,I.len⟩
 .exact keep b o (neL b o e) hb (neC b o e hx) (I.base.keep b o e n hb hx) (I.base.free b o e n hx)
 .obtain⟨sl,e1⟩:=I.base.slot b o e n hb hx
  obtain⟨sl',e2⟩:=slot b _ (neL b o e) hb (neC b o e hx) e1 (I.base.free b o e n hx);exact⟨sl',e2⟩
 .obtain⟨o',e1⟩:=I.base.there b o e hx
  exact free b o' (neC b o e hx) e1 (I.base.free b o e n hx)
 .obtain⟨o',e1⟩:=I.base.there b o e hx
  exact there b o' (neC b o e hx) e1
 .obtain⟨m1,e1⟩:=I.base.tbls b ps e
  obtain⟨m2,e2⟩:=tbls b _ e1;exact⟨m1++m2,by rw[e2,WQ]⟩
 .obtain⟨m,hn,hl⟩:=I.loc
  refine⟨m,ns m hn,λi x v e1 e2 e3=>?_⟩;obtain⟨u,r,l⟩:=hl i x v e1 e2 e3;refine⟨u,r,?_⟩;rcases l with l|⟨k,c,e,z⟩
  .exact .inl l
  .exact .inr ⟨k,c,e,cellK x c e _ z⟩
 .obtain⟨v,z⟩:=I.cell x c e
  exact⟨v,cellK x c e v z⟩
 .obtain⟨m,⟨o,_,_,ho,_⟩,_⟩:=I.loc
  exact free _ o (λz=>(hch _ z).2.1 rfl) ho I.free
 .obtain⟨v,o,ho,hd⟩:=I.cell x c e
  exact free c o (λz=>(hch c z).2.2.1 x c e rfl) ho (I.freeC x c e)
 .obtain⟨e,n,ne,nf,d⟩:=I.pin p hp
  have nch:p.1∉ch:=λz=>(hch p.1 z).2.2.2 p hp rfl;exact⟨keep p.1 p.2 ne nf nch e n,free p.1 p.2 nch e n,ne,nf,d⟩
def Inv.un{t':Nat}(I:Inv X π σ H s)(u:Un X.fs [] H H' s.heap h')(hok:gY X.prog X.w H' h'):Inv X π σ H' { s with heap:=h',toks:=t' }:=by
 obtain⟨m,⟨o,es,ep,ho,r⟩,_⟩:=id I.loc;obtain⟨sl,hL⟩:=u.any ho I.free (by simp);exact I.step (g':=s.gens) (d':=s.drawn) (ch:=[]) (λ_ z=>nomatch z) (λb o _ hb _ e n=>u.keep b o e n hb (by simp)) (λb o _ hb _ e n=>u.slot b o e n hb (by simp)) (λb o _ e n=>u.free b o e n (by simp)) (λb o _ e=>u.there b o e (by simp)) u.tups u.frzs u.tbls (λm' hm=>by
  obtain⟨o',es',ep',ho',r'⟩:=hm;rw[ho]at ho';cases ho';exact⟨_,es',ep',hL,r'⟩) hok I.bare
def Inv.call{g':Array GenState}{t':Nat}{d':Drawn}{ch:List SA}(I:Inv X π σ H s)(u:Un (iw X.stack) ch H H' s.heap h')(hok:gY X.prog X.w H' h')(hg:AllBare g')
  (hch:∀b∈ch,(b∈X.ex∨X.sf.heap.objs.size<=b)/\b≠X.env.locals/\(∀x c,X.env.cells.lookup x=some c->c≠b)/\∀p∈X.pn++π,p.1≠b) :
  Inv X π σ H' { s with heap:=h',gens:=g',drawn:=d',toks:=t' }:=by
 obtain⟨m,⟨o,es,ep,ho,r⟩,_⟩:=id I.loc;obtain⟨sl,hL⟩:=u.any ho I.free λz=>(hch _ z).2.1 rfl;exact I.step (ch:=ch) hch (λb o hL hb hc e n=>u.keep b o e n (λz=>(SV.mp (I.stkSub b z)).elim hL hb) hc) (λb o _ _ hc e n=>u.any e n hc) (λb o hc e n=>u.free b o e n hc) (λb o hc e=>u.there b o e hc) u.tups u.frzs u.tbls (λm' hm=>by
  obtain⟨o',es',ep',ho',r'⟩:=hm;rw[ho]at ho';cases ho';exact⟨_,es',ep',hL,r'⟩) hok hg
def Inv.turned{t':Nat}{it:SA}(I:Inv X π σ H s)(k:∀b o,b≠it->s.heap.get? b=some o->h'.get? b=some o)(hn:H it=none)(hL:it≠X.env.locals)
  (h1:it∈X.ex∨X.sf.heap.objs.size<=it)(h2:∀x c,X.env.cells.lookup x=some c->c≠it)(h3:∀p∈X.pn++π,p.1≠it):Inv X π σ H { s with heap:=h',toks:=t' }:=by
 have nit:∀b u,H b=some u->b≠it:=λb u e z=>by rw[z,hn]at e;cases e
 refine I.step (g':=s.gens) (d':=s.drawn) (ch:=[it]) (λb hb=>?_) (λb o _ _ hc e _=>k b o (λz=>hc (by simp[z])) e) (λb o _ _ hc e _=>⟨o.slots,k b o (λz=>hc (by simp[z])) e⟩) (λ_ _ _ _ n=>n)
  (λb o hc e=>⟨o,k b o (λz=>hc (by simp[z])) e⟩) (λ_ _ e=>e) (λ_ _ _ e=>e) (λb ps e=>⟨#[],by rw[e];simp⟩) (λm hm=>?_) (λb u e=>?_) I.bare
 .have e:b=it:=by simpa using hb
  subst e;exact⟨h1,hL,h2,h3⟩
 .obtain⟨o,es,ep,ho,r⟩:=hm
  exact⟨o,es,ep,k _ o (TF hL) ho,r⟩
 .refine(I.hok b u e).stay (λc v hc q=>k c v ?_ q) (λ_ q=>q) λ_ _ q=>q
  rcases hc with z|z
  .rw[z];exact nit b u e
  .exact nit c _ z
def Inv.tok(I:Inv X π σ H s)(t:Nat):Inv X π σ H { s with toks:=t }:=I.un (h':=s.heap) (t':=t) Un.refl I.hok
def Inv.kept{t':Nat}(I:Inv X π σ H s)(k:∀b u,s.heap.get? b=some u->h'.get? b=some u):Inv X π σ H { s with heap:=h',toks:=t' }:=I.un (Un.kept k) (I.hok.kept k)
def Inv.laid{a:SA}{o:HO}{t':Nat}(I:Inv X π σ H s)(k:∀b u,s.heap.get? b=some u->h'.get? b=some u)(hp:s.heap.objs.size<=a)(new:bY X.prog X.w (upd H a o) h' a o) :
  Inv X π σ (upd H a o) { s with heap:=h',toks:=t' }:=I.un (Un.laid k hp (I.hok.fresh hp)) (I.hok.laid k hp new)
def Inv.write{x e:SA}{o:HO}{t':Nat}(I:Inv X π σ H s)(mu:N9 (H x))(he:e=x∨H e=some (.own x))(k:∀b u,b≠e->s.heap.get? b=some u->h'.get? b=some u)(heo:∃u,h'.get? e=some u)
  (new:bY X.prog X.w (upd H x o) h' x o):Inv X π σ (upd H x o) { s with heap:=h',toks:=t' }:=I.un (Un.write mu he k heo) (I.hok.write mu he k heo new)
def Inv.pins_of{pins':List (SA×Obj)}(I:Inv X π σ H s)(h:∀p∈pins',s.heap.get? p.1=some p.2/\H p.1=none/\p.1≠X.env.locals/\p.1∉X.fs/\∀v,p.2.data≠.cell v):Inv X pins' σ H s :=
 ⟨I.ok,I.os,I.bare,I.base,I.loc,I.cell,I.free,I.freeC,λp hp=>(TX.mp hp).elim (λz=>I.pin p (Wx _ z)) (h p),I.hok,I.len⟩
def qZ{N:ci}(hN:N.Nodup){i j:Nat}{x:SH}(a:N[i]?=some x)(b:N[j]?=some x):i=j:=by
 obtain⟨h1,e1⟩:=SR.mp a;obtain⟨h2,e2⟩:=SR.mp b;exact(List.getElem_inj hN).mp (e1.trans e2.symm)
def t9{M:Model}{A:TK}{E:Sy->SI->Prop}{i:Nat}{x:SH}{v:V}{u:Sy}{Q:Unit->SI->Prop}(I:Inv X π σ H s)(hN:X.N.Nodup)(hi:X.N[i]?=some x)(hx:zL X.env.scope x)(r:bW v u)
  (h:∀s',Inv X π (σ.set i (some v)) H s'->(∃a,VQ a s.heap s'.heap/\(a=X.env.locals∨X.env.cells.lookup x=some a))->Q () s')(hf:X.fn x=true∨X.env.scope.names.lookup x=some .local := by first|exact .inl rfl|exact .inr rfl|assumption):Td M A (storeName X.env x u) Q E s:=by
 obtain⟨m,hn,hl⟩:=id I.loc;have hcls:(X.env.scope.kind==.class||(X.env.scope.kind==.module&&X.env.locals != X.env.globals))=false:=by rw[I.ok.kind];rfl
 have hiσ:i<σ.length:=by rw[I.len];exact(SR.mp hi).1
 have cne:=I.cne;have tracked:∀{a:SA}{h':S1},(∃o,s.heap.get? a=some o/\H a=none)->VQ a s.heap h'->gY X.prog X.w H h':=λ{a h'} ha hs b ob e=>by
  obtain⟨_,_,hfree⟩:=ha;refine(I.hok b ob e).stay (λc w' hc q=>(hs.2 c ?_).trans q) (λ_ q=>q) λ_ _ q=>q;rintro rfl;rcases hc with rfl|hc
  .rw[hfree]at e;cases e
  .rw[hfree]at hc;cases hc
 rcases hx with hk|hk
 .refine wpAny_storeName_local hk hn (λh' hn' hs=>?_) hcls
  obtain⟨oL,_,_,hoL,_⟩:=id hn;refine h _ ⟨I.ok,I.os,I.bare,⟨λb o e n hb hx=>?_,λb o e n hb hx=>?_,I.base.free,λb o e hx=>?_,I.base.tups,I.base.frzs,I.base.tbls⟩,⟨_,hn',λj y v' e1 e2 e3=>?_⟩,λy c e=>?_,I.free,I.freeC,λp hp=>?_,tracked ⟨oL,hoL,I.free⟩ hs,by simpa using I.len⟩ ⟨_,hs,.inl rfl⟩
  .exact(hs.2 b (Ts (SU (S9 e) I.ok.above))).trans (I.base.keep b o e n hb hx)
  .obtain⟨sl,e1⟩:=I.base.slot b o e n hb hx
   exact⟨sl,(hs.2 b (Ts (SU (S9 e) I.ok.above))).trans e1⟩
  .obtain⟨o',e1⟩:=I.base.there b o e hx
   exact⟨o',(hs.2 b (Ts (SU (S9 e) I.ok.above))).trans e1⟩
  .by_cases hj:j=i
   .subst hj
    rw[hi]at e1;cases e1;rw[TM hiσ]at e2;cases e2;exact⟨u,r,.inl ⟨hk,by simp⟩⟩
   .rw[SO (TF hj)]at e2
    obtain⟨u',r',q⟩:=hl j y v' e1 e2 e3;refine⟨u',r',?_⟩;rcases q with⟨k,e⟩|⟨k,c,e,z⟩
    .refine .inl ⟨k,?_⟩
     have:y≠x:=λe=>hj (qZ hN e1 (e▸hi));simp[this,e]
    .exact .inr ⟨k,c,e,z.sameBut hs (cne y c e)⟩
  .obtain⟨w',z⟩:=I.cell y c e
   exact⟨w',z.sameBut hs (cne y c e)⟩
  .obtain⟨e,n,ne,nf,d⟩:=I.pin p hp
   exact⟨(hs.2 p.1 ne).trans e,n,ne,nf,d⟩
 .have hfn:X.fn x=true:=by
   rcases hf with z|z
   .exact z
   .rw[z]at hk;cases hk
  obtain⟨c,hc⟩:=I.ok.has x (.inl hk);obtain⟨w',z⟩:=I.cell x c hc;refine wpAny_storeName_cell I.ok.kind hk hc z (λh' hc' hs=>?_);obtain⟨oc,hoc,hocd⟩:=id z;refine h { s with heap:=h' } ⟨I.ok,I.os,I.bare,⟨λb o e n hb hx=>?_,λb o e n hb hx=>?_,I.base.free,λb o e hx=>?_,I.base.tups,I.base.frzs,I.base.tbls⟩,⟨m,hn.sameBut hs (TF (cne x c hc)),λj y v' e1 e2 e3=>?_⟩,λy c' e=>?_,I.free,I.freeC,λp hp=>?_,tracked ⟨oc,hoc,I.freeC x c hc⟩ hs,by simpa using I.len⟩ ⟨c,hs,.inr hc⟩
  .exact(hs.2 b (Ts (SU (S9 e) (I.ok.cab x c hfn hc)))).trans (I.base.keep b o e n hb hx)
  .obtain⟨sl,e1⟩:=I.base.slot b o e n hb hx
   exact⟨sl,(hs.2 b (Ts (SU (S9 e) (I.ok.cab x c hfn hc)))).trans e1⟩
  .obtain⟨o',e1⟩:=I.base.there b o e hx
   exact⟨o',(hs.2 b (Ts (SU (S9 e) (I.ok.cab x c hfn hc)))).trans e1⟩
  .by_cases hj:j=i
   .subst hj
    rw[hi]at e1;cases e1;rw[TM hiσ]at e2;cases e2;exact⟨u,r,.inr ⟨.inl hk,c,hc,hc'⟩⟩
   .rw[SO (TF hj)]at e2
    obtain⟨u',r',q⟩:=hl j y v' e1 e2 e3;refine⟨u',r',?_⟩;rcases q with q|⟨k,c',e,z'⟩
    .exact .inl q
    .refine .inr ⟨k,c',e,z'.sameBut hs ?_⟩
     rintro rfl;exact hj (qZ hN e1 (I.ok.inj _ _ _ e hc▸hi))
  .by_cases hcc:c'=c
   .subst hcc;exact⟨_,hc'⟩
   .obtain⟨w2,z2⟩:=I.cell y c' e
    exact⟨w2,z2.sameBut hs hcc⟩
  .obtain⟨e,n,ne,nf,d⟩:=I.pin p hp
   refine⟨(hs.2 p.1 ?_).trans e,n,ne,nf,d⟩;intro q;rw[q,hoc]at e;have q':oc=p.2:=T9 e;exact d w' (by rw[←q'];exact hocd)
def iA{M:Model}{A:TK}{E:Sy->SI->Prop}{i:Nat}{x:SH}{v:V}{u:Sy}{Q:Unit->SI->Prop}(I:Inv X π σ H s)(hN:X.N.Nodup)(hi:X.N[i]?=some x)(hx:zL X.env.scope x)(r:bW v u)
  (h:∀s',Inv X π (σ.set i (some v)) H s'->Q () s')(hf:X.fn x=true∨X.env.scope.names.lookup x=some .local := by first|exact .inl rfl|exact .inr rfl|assumption):Td M A (storeName X.env x u) Q E s :=
 t9 I hN hi hx r (λs' I' _=>h s' I') hf
def Inv.call'{s':SI}{ch:List SA}(I:Inv X π σ H s)(ho:s'.os=s.os)(u:Un (iw X.stack) ch H H' s.heap s'.heap)(hok:gY X.prog X.w H' s'.heap)(hg:AllBare s'.gens)
  (hch:∀b∈ch,(b∈X.ex∨X.sf.heap.objs.size<=b)/\b≠X.env.locals/\(∀x c,X.env.cells.lookup x=some c->c≠b)/\∀p∈X.pn++π,p.1≠b):Inv X π σ H' s':=by
 obtain⟨h',g',d',t',o'⟩:=s';have e:o'=s.os:=ho;subst e;exact I.call (g':=g') (t':=t') (d':=d') u hok hg hch
end
abbrev XK:=Sy->Option SA->Hp->Prop
abbrev St:=List (Option V)
abbrev VK:=V->Hp->Prop
abbrev TE:=St->Hp->VK->Prop
abbrev TT:=St->Hp->(Bool->Hp->Prop)->Prop
abbrev TA:=St->Hp->(al->Hp->Prop)->Prop
structure gV where
 nx:St->Hp->Prop
 rt:VK
 bk:St->Hp->Prop:=λ_ _=>False
 ct:St->Hp->Prop:=λ_ _=>False
abbrev TS:=gV->St->Hp->Prop
def EP(X:Cx)(π:List (SA×Obj))(σ:St)(Q:VK)(u:Sy)(s':SI):Prop:=∃v H',Inv X π σ H' s'/\bW v u/\Q v H'
def TP(X:Cx)(π:List (SA×Obj))(σ:St)(Q:Bool->Hp->Prop)(b:Bool)(s':SI):Prop:=∃H',Inv X π σ H' s'/\Q b H'
def AP(X:Cx)(π:List (SA×Obj))(σ:St)(Q:al->Hp->Prop)(us:List Sy)(s':SI):Prop:=∃vs H',Inv X π σ H' s'/\bx vs us/\Q vs H'
noncomputable def SP(X:Cx) (π:List (SA×Obj)) (D:gV) (f:Flow) (s':SI):Prop :=
 match f with
 |.next=>∃σ' H',Inv X π σ' H' s'/\D.nx σ' H'
 |.brk=>∃σ' H',Inv X π σ' H' s'/\D.bk σ' H'
 |.cont=>∃σ' H',Inv X π σ' H' s'/\D.ct σ' H'
 |.ret u=>∃v σ' H',Inv X π σ' H' s'/\bW v u/\D.rt v H'
def PE(X:Cx)(e:Tn)(t:TE):Prop :=
 ∀(π:List (SA×Obj)) (s:SI) (σ:St) (H:Hp) (Q:VK),Inv X π σ H s->t σ H Q->Td (Tb X.prog X.w) X.A (eval e X.env) (EP X π σ Q) X.xe s
def PT(X:Cx)(e:Tn)(t:TT):Prop :=
 ∀(π:List (SA×Obj)) (s:SI) (σ:St) (H:Hp) (Q:Bool->Hp->Prop),Inv X π σ H s->t σ H Q->Td (Tb X.prog X.w) X.A (isTrue e X.env (eval e X.env)) (TP X π σ Q) X.xe s
def PW(X:Cx)(e:Tn)(t:TT):Prop :=
 ∀(whole:Sem Sy) (π:List (SA×Obj)) (s:SI) (σ:St) (H:Hp) (Q:Bool->Hp->Prop),Inv X π σ H s->t σ H Q->Td (Tb X.prog X.w) X.A (isTrue e X.env whole) (TP X π σ Q) X.xe s
def PW.pt{X:Cx}{e:Tn}{t:TT}(h:PW X e t):PT X e t:=h _
def PA(X:Cx)(es:List Tn)(t:TA):Prop :=
 ∀(pos:Pos) (π:List (SA×Obj)) (s:SI) (σ:St) (H:Hp) (Q:al->Hp->Prop),Inv X π σ H s->t σ H Q->Td (Tb X.prog X.w) X.A (spliced (TZ pos (SJ es X.env))) (AP X π σ Q) X.xe s
def PS(X:Cx)(st:Ud)(t:TS):Prop :=
 ∀(π:List (SA×Obj)) (s:SI) (σ:St) (H:Hp) (D:gV),Inv X π σ H s->t D σ H->Td (Tb X.prog X.w) X.A (exec st X.env) (SP X π D) X.xe s
def ph(X:Cx)(st:List Ud)(t:TS):Prop :=
 ∀(π:List (SA×Obj)) (s:SI) (σ:St) (H:Hp) (D:gV),Inv X π σ H s->t D σ H->Td (Tb X.prog X.w) X.A (execs st X.env) (SP X π D) X.xe s
def cX{α:Type}{t:Sem α}{Q Q':α->SI->Prop}{M:Model}{A:TK}{E:Sy->SI->Prop}{s:SI}(h:Td M A t Q E s)(hQ:∀a s,Q a s->Q' a s):Td M A t Q' E s:=T4 h hQ λ_ _ x=>x
section
variable {X:Cx}
def Oy(i:Nat):TE:=λσ H Q=>∃v,σ[i]?=some (some v)/\Q v H
def tC(v:V):TE:=λ_ H Q=>Q v H
def gq{i:Nat}{x:SH}{pos:Pos}(hN:X.N[i]?=some x)(hv:yh X.env.scope x)(hd:(x==("__debug__" : SH))=false:=by decide)(hcd:(x==("__classdict__" : SH))=false:=by decide):PE X (.Name x pos) (Oy i):=by
 intro π s σ H Q I h;obtain⟨v,e,h⟩:=h;obtain⟨m,hn,hl⟩:=I.loc;obtain⟨u,r,l⟩:=hl i x v hN e hv;have fin:EP X π σ Q u s:=⟨v,H,I,r,h⟩
 rcases l with⟨hk,hm⟩|⟨hk,c,hc,hcell⟩
 .exact wpAny_Name (wpAny_loadName_local I.ok.kind hk hn hm fin) hd
 .rcases hk with hk|hk
  .exact wpAny_Name (wpAny_loadName_cell I.ok.kind hk hc hcell fin) hd
  .exact wpAny_Name (wpAny_loadName_free I.ok.kind hk hc hcell fin hcd) hd
def nP{i j pos}:PE X (.Constant (.int i) j pos) (tC (.int i)):=λ_ _ _ H _ I h=>wpAny_Constant_int ⟨.int i,H,I.tok _,⟨_,rfl⟩,h⟩
def O8{b j pos}:PE X (.Constant (.bool b) j pos) (tC (.bl b)):=λ_ _ _ H _ I h=>Constant_bool ⟨.bl b,H,I,rfl,h⟩
def yP{j pos}:PE X (.Constant .none j pos) (tC .non):=λ_ _ _ H _ I h=>Constant_none ⟨.non,H,I,rfl,h⟩
def Mo{x j pos}:PE X (.Constant (.str x) j pos) (tC (.str x)):=λ_ _ _ H _ I h=>Calls.Constant_str ⟨.str x,H,I.tok _,⟨_,rfl⟩,h⟩
def Gl(X:Cx)(x:SH):Prop:=X.env.kindOf x=some .globalImplicit
def ij{E:Sy->SI->Prop}{π:List (SA×Obj)}{s:SI}{σ:St}{H:Hp}{x:SH}{u:Sy}{pos:Pos}{Q:Sy->SI->Prop}(I:Inv X π σ H s)(hg:Gl X x)(hm:X.mg x=some u)(h:Q u s)
  (hd:(x==("__debug__" : SH))=false:=by decide):Td (Tb X.prog X.w) X.A (eval (.Name x pos) X.env) Q E s :=
 Xp I.ok.kind hg (Calls.loadGlobal_global (by rw[I.ok.glob];exact I.mod.glob.keeps I.bk) hm h) hd
def nT{E:Sy->SI->Prop}{π:List (SA×Obj)}{s:SI}{σ:St}{H:Hp}{x:SH}{u:Sy}{pos:Pos}{Q:Sy->SI->Prop}(I:Inv X π σ H s)(hg:Gl X x)(hm:X.mg x=none)(hv:bootBuiltins x=some u)(h:Q u s)
  (hn:x≠"__name__":=by decide)(hd:(x==("__debug__" : SH))=false:=by decide):Td (Tb X.prog X.w) X.A (eval (.Name x pos) X.env) Q E s:=by
 obtain⟨mb,h1,h2⟩:=I.mod.blt;exact Xp I.ok.kind hg (Calls.loadGlobal_builtin (by rw[I.ok.glob];exact I.mod.glob.keeps I.bk) hm (by rw[I.ok.blt];exact h1.keeps I.bk) ((h2 x hn).trans hv) h) hd
def Am{x:SH}{v:V}{u:Sy}{pos:Pos}(hg:Gl X x)(hm:X.mg x=some u)(r:bW v u)(hd:(x==("__debug__" : SH))=false:=by decide):PE X (.Name x pos) (tC v) :=
 λ_ _ _ H _ I h=>ij I hg hm ⟨v,H,I,r,h⟩ hd
def Iy{x:SH}{v:V}{u:Sy}{pos:Pos}(hg:Gl X x)(hm:X.mg x=none)(hv:bootBuiltins x=some u)(r:bW v u)(hn:x≠"__name__":=by decide)(hd:(x==("__debug__" : SH))=false:=by decide):PE X (.Name x pos) (tC v) :=
 λ_ _ _ H _ I h=>nT I hg hm hv ⟨v,H,I,r,h⟩ hn hd
variable {a b:Tn}{ta tb:TE}{pos:Pos}
def E1(b:Tn){op:CmpOp}(h:op≠.In)(h2:op≠.NotIn):behindInMarks op b=false:=by
 have e1:(op==CmpOp.In)=false:=by cases op<;>first|rfl|exact absurd rfl h
 have e2:(op==CmpOp.NotIn)=false:=by cases op<;>first|rfl|exact absurd rfl h2
 cases b<;>simp[behindInMarks,e1,e2]
def tB(t:TE):TT:=λσ H Q=>t σ H λx H1=>∃c,x=.bl c/\Q c H1
def EC{e:Tn}{t:TE}(h:PE X e t)(he:∀whole,isTrue e X.env whole=(do let v ←whole;standAt e.pos;XG [v] (truthy v)):=by intro _;rfl):PT X e (tB t):=by
 intro π s σ H Q I hw;refine isTrue_plain (cX (h π s σ H _ I hw) λv s1 z9=>?_) (he _);obtain⟨x,H1,I1,r1,q1⟩:=z9;obtain⟨d,rfl,q⟩:=q1;cases r1;exact UG ⟨H1,I1,q⟩
variable {tA tB':TT}{rest:List Tn}
def Q2(t u:TT):TT:=λσ H Q=>t σ H λc H1=>if c=true then u σ H1 Q else Q false H1
def R7(t u:TT):TT:=λσ H Q=>t σ H λc H1=>if c=true then Q true H1 else u σ H1 Q
def QV(t:TT):TT:=λσ H Q=>t σ H λc H1=>Q (!c) H1
def Ii(ha:PT X a tA):PW X (.BoolOp .And [a] pos) tA:=by
 intro wh π s σ H Q I h;refine isTrue_and (cX (ha π s σ H Q I h) λc s1 e=>?_);cases c with|true=>exact isTrue_and_nil e|false=>exact e
def Md(ha:PT X a tA):PW X (.BoolOp .Or [a] pos) tA:=by
 intro wh π s σ H Q I h;refine isTrue_or (cX (ha π s σ H Q I h) λc s1 e=>?_);cases c with|false=>exact isTrue_or_nil e|true=>exact e
def Me(ha:PT X a tA)(hb:PW X (.BoolOp .And (b::rest) pos) tB'):PW X (.BoolOp .And (a::b::rest) pos) (Q2 tA tB'):=by
 intro wh π s σ H Q I h;refine isTrue_and (cX (ha π s σ H _ I h) λc s1 z9=>?_);obtain⟨H1,I1,q1⟩:=z9;cases c with|true=>exact hb wh π s1 σ H1 Q I1 q1|false=>exact⟨H1,I1,q1⟩
def O1(ha:PT X a tA)(hb:PW X (.BoolOp .Or (b::rest) pos) tB'):PW X (.BoolOp .Or (a::b::rest) pos) (R7 tA tB'):=by
 intro wh π s σ H Q I h;refine isTrue_or (cX (ha π s σ H _ I h) λc s1 z9=>?_);obtain⟨H1,I1,q1⟩:=z9;cases c with|true=>exact⟨H1,I1,q1⟩|false=>exact hb wh π s1 σ H1 Q I1 q1
def ED(ha:PT X a tA):PT X (.UnaryOp .Not a pos) (QV tA):=by
 intro π s σ H Q I h;exact isTrue_not (ha π s σ H (λc H1=>Q (!c) H1) I h)
def OK(ta tb:TE):TE:=λσ H Q=>ta σ H λx H1=>∃c,x=.bl c/\if c=true then tb σ H1 Q else Q (.bl false) H1
def QU(ta tb:TE):TE:=λσ H Q=>ta σ H λx H1=>∃c,x=.bl c/\if c=true then Q (.bl true) H1 else tb σ H1 Q
def OC(ta:TE):TE:=λσ H Q=>ta σ H λx H1=>∃c,x=.bl c/\Q (.bl (!c)) H1
def EO{op}{t:TE}(h:PE X a t):PE X (.BoolOp op [a] pos) t:=λπ s σ H Q I hw=>BoolOp_one (h π s σ H Q I hw)
def EV(ha:PE X a ta)(hb:PE X (.BoolOp .And (b::rest) pos) tb):PE X (.BoolOp .And (a::b::rest) pos) (OK ta tb):=by
 intro π s σ H Q I h;refine BoolOp_and (cX (ha π s σ H _ I h) λv s1 ⟨x,H1,I1,r1,q1⟩=>?_);obtain⟨c,rfl,q1⟩:=q1;cases r1;refine UG ?_;cases c with|true=>exact hb π s1 σ H1 Q I1 q1|false=>exact⟨.bl false,H1,I1,rfl,q1⟩
def O6(ha:PE X a ta)(hb:PE X (.BoolOp .Or (b::rest) pos) tb):PE X (.BoolOp .Or (a::b::rest) pos) (QU ta tb):=by
 intro π s σ H Q I h;refine BoolOp_or (cX (ha π s σ H _ I h) λv s1 ⟨x,H1,I1,r1,q1⟩=>?_);obtain⟨c,rfl,q1⟩:=q1;cases r1;refine UG ?_;cases c with|false=>exact hb π s1 σ H1 Q I1 q1|true=>exact⟨.bl true,H1,I1,rfl,q1⟩
def Mp(ha:PE X a ta):PE X (.UnaryOp .Not a pos) (OC ta):=by
 intro π s σ H Q I h;refine UnaryOp_ (cX (ha π s σ H _ I h) λv s1 z9=>?_);obtain⟨x,H1,I1,r1,q1⟩:=z9;obtain⟨c,rfl,q1⟩:=q1;cases r1;exact not_of (UG ⟨.bl (!c),H1,I1,rfl,q1⟩)
def R8(t:TT)(ta tb:TE):TE:=λσ H Q=>t σ H λc H1=>if c=true then ta σ H1 Q else tb σ H1 Q
def ES{c:Tn}(hc:PT X c tA)(ha:PE X a ta)(hb:PE X b tb):PE X (.IfExp c a b pos) (R8 tA ta tb):=by
 intro π s σ H Q I h;refine wpAny_IfExp (cX (hc π s σ H _ I h) λd s1 z9=>?_);obtain⟨H1,I1,q1⟩:=z9;cases d with|true=>exact ha π s1 σ H1 Q I1 q1|false=>exact hb π s1 σ H1 Q I1 q1
end
def fM(K:SE)(H:Hp)(a:SA)(xs:al):Prop :=
 Rd H a (.lst xs) ∨
  ∃(o:Obj) (its:Array Sy) (n:Nat),K.lookup a=some o/\o.cls=.type "list"/\o.dict=none/\o.data=.seq its n/\its.size<=sizeLine/\bx xs its.toList
def j7(K:SE)(H:Hp)(a:SA)(xs:al):Prop :=
 Rd H a (.tup xs) ∨
  ∃(o:Obj) (its:Array Sy) (n:Nat),K.lookup a=some o/\o.cls=.type "tuple"/\o.data=.seq its n/\its.size<=sizeLine/\bx xs its.toList
def Ry:Sy->Option V
 |.none=>some .non
 |.bool b=>some (.bl b)
 |.int i _=>some (.int i)
 |.str x _=>some (.str x)
 |.bytes b _=>some (.byt b)
 |.float b _=>some (.flt b)
 |.ref a=>some (.ref a)
 |.type n=>some (.ty n)
 |_=>none
def bW.abs{x:V}{u:Sy}(r:bW x u):Ry u=some x:=by
 cases x with|non|bl _=>cases r;rfl|int _|str _|byt _|flt _=>obtain⟨t,rfl⟩:=r;rfl|ref _|ty _=>cases r;rfl
def bW.inj{x y:V}{u:Sy}(r:bW x u)(q:bW y u):x=y:=T9 (r.abs.symm.trans q.abs)
theorem bx.inj:∀{xs ys:al}{us:List Sy},bx xs us->bx ys us->xs=ys
 |_,_,_,.nil,.nil=>rfl
 |_,_,_,.cons r t,.cons r' t'=>by rw[r.inj r',bx.inj t t']
section
variable {X:Cx}{π:List (SA×Obj)}{σ:St}{H:Hp}{s:SI}{a:SA}{xs ys:al}
def fM.of{K:SE}(h:H a=some (.lst xs)):fM K H a xs:=.inl (.inl h)
def j7.of{K:SE}(h:H a=some (.tup xs)):j7 K H a xs:=.inl (.inl h)
def Inv.list(I:Inv X π σ H s)(h:fM X.K H a xs):∃its:List Sy,bx xs its/\PlainL s.heap a its.toArray/\xs.length<=sizeLine:=by
 rcases h with h|⟨o,its,n,hk,hc,hd,hs,hz,r⟩
 .obtain⟨z,its,n,r,e⟩:=h.ok I.hok
  exact⟨its,r,⟨_,n,e,rfl,rfl,rfl⟩,z⟩
 .refine⟨its.toList,r,⟨o,n,I.kIn a o hk,hc,hd,by simpa using hs⟩,?_⟩
  have e:=r.length;simp only[Uo]at e;omega
def Inv.tuple(I:Inv X π σ H s)(h:j7 X.K H a xs):∃its:List Sy,bx xs its/\IsTup s.heap a its.toArray/\xs.length<=sizeLine:=by
 rcases h with h|⟨o,its,n,hk,hc,hs,hz,r⟩
 .obtain⟨z,its,r,p⟩:=h.ok I.hok
  exact⟨its,r,p,z⟩
 .refine⟨its.toList,r,⟨o,I.kIn a o hk,hc,n,by simpa using hs⟩,?_⟩
  have e:=r.length;simp only[Uo]at e;omega
def Inv.list_inj(I:Inv X π σ H s)(h:fM X.K H a xs)(h':fM X.K H a ys):xs=ys:=by
 obtain⟨its,r,⟨o,n,e,_,_,d⟩,_⟩:=I.list h;obtain⟨its',r',⟨o',n',e',_,_,d'⟩,_⟩:=I.list h';rw[e]at e';cases e';rw[d]at d';injection d' with d1 _;have:its=its':=by simpa using congrArg Array.toList d1
 subst this;exact r.inj r'
def Inv.tuple_inj(I:Inv X π σ H s)(h:j7 X.K H a xs)(h':j7 X.K H a ys):xs=ys:=by
 obtain⟨its,r,⟨o,e,_,n,d⟩,_⟩:=I.tuple h;obtain⟨its',r',⟨o',e',_,n',d'⟩,_⟩:=I.tuple h';rw[e]at e';cases e';rw[d]at d';injection d' with d1 _;have:its=its':=by simpa using congrArg Array.toList d1
 subst this;exact r.inj r'
end
abbrev Cx.wish(X:Cx)(E:Sy->SI->Prop):Cx:={ X with xe:=E }
abbrev Cx.nox(X:Cx):Cx:=X.wish λ_ _=>False
def Cx.Ok.wish{X:Cx}(ok:X.Ok)(E:Sy->SI->Prop):(X.wish E).Ok :=
 ⟨ok.mod,ok.kind,ok.glob,ok.blt,ok.above,ok.inj,ok.has,ok.cab,ok.hd,ok.frames,ok.stk,ok.exf,ok.bs,ok.bsz,ok.noex,ok.exfs,ok.funs,ok.frf⟩
def Cx.Ok.unwish{X:Cx}{E:Sy->SI->Prop}(ok:(X.wish E).Ok):X.Ok :=
 ⟨ok.mod,ok.kind,ok.glob,ok.blt,ok.above,ok.inj,ok.has,ok.cab,ok.hd,ok.frames,ok.stk,ok.exf,ok.bs,ok.bsz,ok.noex,ok.exfs,ok.funs,ok.frf⟩
section
variable {X:Cx}{π:List (SA×Obj)}{σ:St}{H:Hp}{s:SI}{E:Sy->SI->Prop}
def Inv.wish(I:Inv X π σ H s)(E:Sy->SI->Prop):Inv (X.wish E) π σ H s:=⟨I.ok.wish E,I.os,I.bare,I.base,I.loc,I.cell,I.free,I.freeC,I.pin,I.hok,I.len⟩
def Inv.unwish(I:Inv (X.wish E) π σ H s):Inv X π σ H s:=⟨I.ok.unwish,I.os,I.bare,I.base,I.loc,I.cell,I.free,I.freeC,I.pin,I.hok,I.len⟩
def SP.unwish{D:gV}{f:Flow}{s':SI}(h:SP (X.wish E) π D f s'):SP X π D f s':=by
 cases f with|next|brk|cont=>obtain⟨σ',H',I,q⟩:=h;exact⟨σ',H',I.unwish,q⟩|ret u=>obtain⟨v,σ',H',I,r,q⟩:=h;exact⟨v,σ',H',I.unwish,r,q⟩
def ph.nox{st:List Ud}{t:TS}(h:ph X.nox st t):ph X st t:=λπ s σ H D I hw=>
 T4 (h π s σ H D (I.wish _) hw) (λ_ _ q=>q.unwish) λ_ _ z=>T8 z
end
section
variable {X:Cx}{st:Ud}{rest:List Ud}{t u:TS}{e:Tn}{te:TE}{pos:Pos}
def OE:TS:=λD σ H=>D.nx σ H
def QQ(t u:TS):TS:=λD σ H=>t { D with nx:=u D } σ H
def kc:ph X [] OE:=λ_ _ σ H _ I h=>wpAny_execs_nil ⟨σ,H,I,h⟩
def cO(h1:PS X st t)(h2:ph X rest u):ph X (st::rest) (QQ t u):=by
 intro π s σ H D I h;refine wpAny_execs_cons (cX (h1 π s σ H { D with nx:=u D } I h) λf s1 q=>?_);cases f with
 |next=>
  obtain⟨σ',H',I',q⟩:=q;exact h2 π s1 σ' H' D I' q
 |ret v|brk|cont=>exact q
def Inv.quiet{π:List (SA×Obj)}{σ:St}{H:Hp}{s:SI}(I:Inv X π σ H s):interactive X.env=false:=by simp[interactive,I.ok.kind]
def OH(te:TE):TS:=λD σ H=>te σ H λ_ H1=>D.nx σ H1
def kd(he:PE X e te)(hs:T1 e none pos.line X.env=pure false:=by rfl):PS X (.Expr e pos) (OH te):=by
 intro π s σ H D I h;exact wpAny_Expr_any (cX (he π s σ H _ I h) λv s1 ⟨x,H1,I1,r1,q1⟩=>⟨σ,H1,I1,q1⟩) I.quiet hs
def QR(te:TE):TS:=λD σ H=>te σ H D.rt
def qP(he:PE X e te):PS X (.Return (some e) pos) (QR te):=by
 intro π s σ H D I h;exact wpAny_Return_some (cX (he π s σ H _ I h) λv s1 ⟨x,H1,I1,r1,q1⟩=>⟨x,σ,H1,I1,r1,q1⟩)
def QX(c:TT)(t u:TS):TS:=λD σ H=>c σ H λb H1=>if b=true then t D σ H1 else u D σ H1
def Ai{c:Tn}{a b:List Ud}{tc:TT}(hc:PT X c tc)(ha:ph X a t)(hb:ph X b u):PS X (.If c a b pos) (QX tc t u):=by
 intro π s σ H D I h;refine wpAny_If (cX (hc π s σ H _ I h) λd s1 z9=>?_);obtain⟨H1,I1,q1⟩:=z9;cases d with|true=>exact ha π s1 σ H1 D I1 q1|false=>exact hb π s1 σ H1 D I1 q1
def LR:TS:=λ_ _ _=>False
def EG:PS X st LR:=λ_ _ _ _ _ _ h=>h.elim
end
abbrev TG:=V->St->Hp->(St->Hp->Prop)->Prop
abbrev G8:=al->St->Hp->(St->Hp->Prop)->Prop
noncomputable def PG(X:Cx) (target:Tn) (t:TG):Prop :=
 ∀(π:List (SA×Obj)) (s:SI) (σ:St) (H:Hp) (v:V) (u:Sy) (Q:St->Hp->Prop),Inv X π σ H s->bW v u->t v σ H Q ->
  Td (Tb X.prog X.w) X.A (assign target X.env u) (λ_ s'=>∃σ' H',Inv X π σ' H' s'/\Q σ' H') X.xe s
noncomputable def De(X:Cx) (ts:List Tn) (t:G8):Prop :=
 ∀(π:List (SA×Obj)) (s:SI) (σ:St) (H:Hp) (vs:al) (us:List Sy) (Q:St->Hp->Prop),Inv X π σ H s->bx vs us->t vs σ H Q ->
  Td (Tb X.prog X.w) X.A (assignInOrder ((assignEach ts X.env).map (·.2)) us) (λ_ s'=>∃σ' H',Inv X π σ' H' s'/\Q σ' H') X.xe s
section
variable {X:Cx}{pos:Pos}
def FL(i:Nat):TG:=λv σ H Q=>Q (σ.set i (some v)) H
def Al{i:Nat}{x:SH}(hN:X.N.Nodup)(hi:X.N[i]?=some x)(hx:zL X.env.scope x)(hf:X.fn x=true∨X.env.scope.names.lookup x=some .local := by first|exact .inl rfl|exact .inr rfl|assumption):PG X (.Name x pos) (FL i):=by
 intro π s σ H v u Q I r h;exact wpAny_assign_Name (iA I hN hi hx r (λs' I'=>⟨_,H,I',h⟩) hf)
def Rr:G8:=λvs σ H Q=>vs=[]/\Q σ H
def Pz(t:TG)(u:G8):G8:=λvs σ H Q=>∃v r,vs=v::r/\t v σ H λσ' H'=>u r σ' H' Q
def Iq:De X [] Rr:=by
 intro π s σ H vs us Q I r h;obtain⟨e,h⟩:=h;subst e;cases r;exact assignInOrder_nil ⟨σ,H,I,h⟩
def EJ{e:Tn}{es:List Tn}{t:TG}{u:G8}(h1:PG X e t)(h2:De X es u)
  (hs:(assignEach (e::es) X.env).map (·.2)=assign e X.env::(assignEach es X.env).map (·.2):=by rfl):De X (e::es) (Pz t u):=by
 intro π s σ H vs us Q I r h;obtain⟨v,vr,e1,h⟩:=h;subst e1;cases r with
 |cons r rr=>
  rw[hs];refine assignInOrder_cons (cX (h1 π s σ H _ _ _ I r h) λ_ s1 z9=>?_);obtain⟨σ1,H1,I1,q1⟩:=z9;exact h2 π s1 σ1 H1 _ _ Q I1 rr q1
def Rq(K:SE)(n:Nat)(t:G8):TG:=λv σ H Q=>∃a xs,v=.ref a/\j7 K H a xs/\xs.length=n/\t xs σ H Q
def Mn{es:List Tn}{k:Nat}{t:G8}{n:Nat}(hc:X.calm=true)(h:De X es t)
  (hn:(assignEach es X.env).length=n:=by rfl)(hst:(assignEach es X.env).findIdx? (·.1)=none:=by rfl):PG X (.Tuple es k pos) (Rq X.K n t):=by
 intro π s σ H v u Q I r hw;obtain⟨a,xs,e1,hq,hl,hw⟩:=hw;subst e1;cases r;obtain⟨its,rv,ht,hz⟩:=I.tuple hq;refine assign_Tuple_tuple (I.ok.hd hc) ht (by simp[hn,←hl,rv.length]) hst λh' hx=>?_;have I1:Inv X π σ H { s with heap:=h' }:=I.kept (t':=s.toks) λb o e=>hx b o (Ts (S9 e)) e;exact h π _ σ H xs _ Q I1 (by simpa using rv) hw
def LU(te:TE)(g:TG):TS:=λD σ H=>te σ H λx H1=>g x σ H1 D.nx
def Mg{tg e:Tn}{te:TE}{g:TG}(he:PE X e te)(hg:PG X tg g)(hs:swapsWithSole [tg] e pos.line X.env=pure false:=by rfl)(hw:swappedStores [tg] e X.env=pure none:=by rfl)
  (h1:(assignEach [tg] X.env).map (·.2)=[assign tg X.env]:=by rfl):PS X (.Assign [tg] e pos) (LU te g):=by
 intro π s σ H D I h;refine wpAny_Assign_stores (cX (he π s σ H _ I h) λv s1 z9=>?_) hs hw;obtain⟨x,H1,I1,r1,q1⟩:=z9;rw[h1];exact cX (hg π s1 σ H1 x v _ I1 r1 q1) λ_ s2 q=>q
def qO{i:Nat}{x:SH}{e:Tn}{te:TE}{pos':Pos}(hN:X.N.Nodup)(hi:X.N[i]?=some x)(hx:zL X.env.scope x)(he:PE X e te)(hs:T1 e (some (.Name x pos')) pos.line X.env=pure false:=by rfl)(hf:X.fn x=true∨X.env.scope.names.lookup x=some .local := by first|exact .inl rfl|exact .inr rfl|assumption) :
  PS X (.Assign [.Name x pos'] e pos) (LU te (FL i)):=by
 intro π s σ H D I h;refine wpAny_Assign_Name (cX (he π s σ H _ I h) λv s1 z9=>?_) hs;obtain⟨y,H1,I1,r1,q1⟩:=z9;exact iA I1 hN hi hx r1 (λs2 I2=>⟨_,H1,I2,q1⟩) hf
def QT(i j:Nat)(ta:TA):TS:=λD σ H=>ta σ H λvs H1=>∃v w,vs=[v,w]/\D.nx ((σ.set i (some v)).set j (some w)) H1
def Mf{i j:Nat}{x y:SH}{a b:Tn}{ta:TA}{px py pt:Pos}{kt k2 pt2}(hc:X.calm=true)(hN:X.N.Nodup)(hi:X.N[i]?=some x)(hj:X.N[j]?=some y)(hij:i≠j)
  (hx:X.env.scope.names.lookup x=some .local)(hy:X.env.scope.names.lookup y=some .local)(ha:PA X [a,b] ta)
  (hw:swappedStores [.Tuple [.Name x px,.Name y py] kt pt] (.Tuple [a,b] k2 pt2) X.env=pure (some [x,y]))
  (hs:swapsWithSole [.Tuple [.Name x px,.Name y py] kt pt] (.Tuple [a,b] k2 pt2) pos.line X.env=pure false:=by rfl) :
  PS X (.Assign [.Tuple [.Name x px,.Name y py] kt pt] (.Tuple [a,b] k2 pt2) pos) (QT i j ta):=by
 intro π s σ H D I h;rw[exec_Assign_arm];refine SG (wpAny_standAt ?_);rw[hs];refine SG (S5 ?_);rw[if_neg (by decide)];refine SG (Tuple_ (cX (ha _ π s σ H _ I h) λus s1 z9=>?_));obtain⟨vs,H1,I1,r1,q1⟩:=z9;obtain⟨v,w,e1,q1⟩:=q1;subst e1;obtain⟨u1,u2,rfl,rv,rw'⟩:∃u1 u2,us=[u1,u2]/\bW v u1/\bW w u2:=by
  cases r1 with
  |cons p q=>
   cases q with
   |cons p' q'=>
    cases q';exact⟨_,_,rfl,p,p'⟩
 refine wpAny_newObj_type ?_ (by show 2<=sizeLine;decide);have I2:Inv X π σ H1 { s1 with heap:=s1.heap.push { cls:=.type "tuple",data:=.seq [u1,u2].toArray } }:=I1.kept (t':=s1.toks) λb o e=>SK _ e;rw[hw];refine SG (S5 ?_);show Td (Tb X.prog X.w) X.A (do rule "assign.swapped-stores";let items ←unpackItems (.ref s1.heap.objs.size) 2 none;assignInOrder [λv=>bindName X.env y v,λv=>bindName X.env x v] items.reverse;pure Flow.next) _ _ _;refine SG (wpAny_rule (SG (unpackItems_tuple (items:=#[u1,u2]) (I.ok.hd hc) (W9 s1.heap _) λh' hx'=>?_)));have I3:=I2.kept (h':=h') (t':=s1.toks) λb o e=>hx' b o (Ts (S9 e)) e;show Td _ _ (assignInOrder [λv=>bindName X.env y v,λv=>bindName X.env x v] [u2,u1] >>= λ_=>pure Flow.next) _ _ _;refine SG (assignInOrder_cons (wpAny_bindName (iA I3 hN hj (.inl hy) rw' (λs2 I4=>?_) (.inr hy))));refine assignInOrder_cons (wpAny_bindName (iA I4 hN hi (.inl hx) rv (λs3 I5=>assignInOrder_nil (S5 ?_)) (.inr hx)));rw[List.set_comm _ _ (TF hij)]at I5;exact⟨_,H1,I5,q1⟩
end
section
variable {X:Cx}{pos:Pos}
def LQ(c:TT)(tb:TS):TS:=λD σ H=>∃W:Nat->St->Hp->Prop,(∃m,W m σ H)/\∀m σ H,W m σ H ->
 c σ H λb H1=>if b=true then ∃N:St->Hp->Prop,(∀σ' H',N σ' H'->∃m',m' < m/\W m' σ' H')/\tb { D with nx:=N,ct:=N,bk:=D.nx } σ H1 else D.nx σ H1
def EF{c:Tn}{body:List Ud}{tc:TT}{tb:TS}(hp:PassesOwn (Tb X.prog X.w) X.A X.env X.xe)(hc:PT X c tc)(hb:ph X body tb):PS X (.While c body [] pos) (LQ tc tb):=by
 intro π s σ H D I h;obtain⟨W,⟨m0,w0⟩,turn⟩:=h;refine wpAny_While (codeAny_whileLoop (λn s'=>∃σ' H',Inv X π σ' H' s'/\W n σ' H') ?_ m0 ⟨σ,H,I,w0⟩);rintro n s1 ⟨σ1,H1,I1,w1⟩;refine wpAny_passesOwn hp (cX (hc π s1 σ1 H1 _ I1 (turn n σ1 H1 w1)) λb s2 z9=>?_);obtain⟨H2,I2,q2⟩:=z9;cases b with
 |true=>
  obtain⟨N,hN,q2⟩:=q2;rw[if_pos rfl];refine wpAny_passesOwn hp (cX (hb π s2 σ1 H2 _ I2 q2) λf s3 q3=>?_);cases f with
  |next=>
   obtain⟨σ3,H3,I3,n3⟩:=q3;obtain⟨m',hm,w3⟩:=hN σ3 H3 n3;exact⟨m',hm,σ3,H3,I3,w3⟩
  |cont=>
   obtain⟨σ3,H3,I3,n3⟩:=q3;obtain⟨m',hm,w3⟩:=hN σ3 H3 n3;exact⟨m',hm,σ3,H3,I3,w3⟩
  |brk|ret v=>exact q3
 |false=>
  rw[if_neg Us];exact wpAny_execs_nil ⟨σ1,H2,I2,q2⟩
end
structure It where
 go:Nat->Hp->Prop
 yld:Nat->Hp->V->Hp->Prop
 stop:Nat->Hp->Prop
def oA(X:Cx)(π:List (SA×Obj))(H:Hp)(b:SA):Prop :=
 H b=none/\b≠X.env.locals/\b∉X.fs/\(b∈X.ex∨X.sf.heap.objs.size<=b)/\(∀x c,X.env.cells.lookup x=some c->c≠b)/\∀p∈X.pn++π,p.1≠b
def Inv.fpOk{X:Cx}{π:List (SA×Obj)}{σ:St}{H H':Hp}{s:SI}{b:SA}(I:Inv X π σ H s)(hb:s.heap.objs.size<=b)(hn:H' b=none):oA X π H' b:=by
 refine⟨hn,Nat.ne_of_gt (SU I.lt hb),I.nofs hb,.inr (SW I.sz hb),λx c e z=>?_,λp hp z=>?_⟩
 .obtain⟨v,q⟩:=I.cell x c e
  exact absurd (SU q.lt (by rw[z];exact hb)) (Vr _)
 .exact absurd (SU (S9 (I.pin p hp).1) (by rw[z];exact hb)) (Vr _)
structure zK (P:Tr) (w:TU) (K:SE) (tg:Tn) (J:It) (fp:List SA) (it:SA) (tn:Nat->S1->Prop):Prop where
 mem:it∈fp
 obj:∀i h,tn i h->∀b∈fp,∃o,h.get? b=some o/\∀v,o.data≠.cell v
 keep:∀i h h',tn i h->(∀b∈fp,∀o,h.get? b=some o->h'.get? b=some o)->tn i h'
 item:∀(X:Cx),X.prog=P->X.w=w->X.K=K->X.calm=true->∀(i:Nat) (π:List (SA×Obj)) (s:SI) (σ:St) (H:Hp) (E:Sy->SI->Prop),Inv X π σ H s->(∀b∈fp,oA X π H b)->tn i s.heap->J.go i H ->
  Td (Tb P w) X.A (pyNext (.ref it)) (λr s1=>∃u,r=some u /\
   Td (Tb P w) X.A (letOwnedTupleGo tg (.ref it) u) (λ_ s2=>∃x H',Inv X π σ H' s2/\bW x u/\J.yld i H x H'/\tn (i+1) s2.heap/\∀b∈fp,H' b=none) E s1) E s
 done:∀(X:Cx),X.prog=P->X.w=w->X.K=K->X.calm=true->∀(i:Nat) (π:List (SA×Obj)) (s:SI) (σ:St) (H:Hp) (E:Sy->SI->Prop),Inv X π σ H s->(∀b∈fp,oA X π H b)->tn i s.heap->J.stop i H ->
  Td (Tb P w) X.A (pyNext (.ref it)) (λr s1=>r=none/\Inv X π σ H s1) E s
 self:∀(A:TK) (i:Nat) (s:SI) (Q:Sy->SI->Prop) (E:Sy->SI->Prop),tn i s.heap->Q (.ref it) s->Td (Tb P w) A (XF (.ref it)) Q E s
abbrev TI:=St->Hp->(It->Hp->Prop)->Prop
noncomputable def QF(X:Cx) (π:List (SA×Obj)) (σ:St) (tg:Tn) (R:It->Hp->Prop) (itv:Sy) (s2:SI):Prop :=
 ∃(it:SA) (fp:List SA) (tn:Nat->S1->Prop) (J:It) (H':Hp),itv=.ref it/\Inv X π σ H' s2/\zK X.prog X.w X.K tg J fp it tn/\tn 0 s2.heap/\(∀b∈fp,oA X π H' b)/\R J H'
noncomputable def PI(X:Cx) (tg iter:Tn) (wi:TI):Prop :=
 ∀(π:List (SA×Obj)) (s:SI) (σ:St) (H:Hp) (R:It->Hp->Prop),Inv X π σ H s->wi σ H R ->
  Td (Tb X.prog X.w) X.A (eval iter X.env) (λv s1=>Td (Tb X.prog X.w) X.A (XF v) (QF X π σ tg R) X.xe s1) X.xe s
def xH{M:Model}{A:TK}{E:Sy->SI->Prop}{s:SI}{tg:Tn}{it:SA}{u:Sy}{o:Obj}{n:String}{vs:Array Sy}{Q:Unit->SI->Prop}(ho:s.heap.get? it=some o)(hc:o.cls=.type n)(hd:o.data=.fields vs)
  (hn:["enumerate","zip","dict_itemiterator","dict_reverseitemiterator","odict_iterator","itertools.zip_longest","itertools.pairwise"].contains n=false)(hQ:Q () s):Td M A (letOwnedTupleGo tg (.ref it) u) Q E s:=by
 unfold letOwnedTupleGo;cases tg<;>first
  |exact S5 hQ
  |(cases u<;>first
    |exact S5 hQ
    |(refine SG (wpAny_load ho ?_);rw[hc,hd];show Td M A (if(["enumerate","zip","dict_itemiterator","dict_reverseitemiterator","odict_iterator","itertools.zip_longest","itertools.pairwise"].contains n&&vs[0]?==some (rawInt _))=true then _ else _) Q E s;rw[if_neg (by intro h;rw[hn,S6]at h;cases h)];exact S5 hQ))
def Qt(K:SE)(a:SA):It :=
 ⟨λi H=>∃xs x,fM K H a xs/\xs[i]?=some x,λi H x H'=>H'=H/\∀xs,fM K H a xs->xs[i]?=some x,λi H=>∃xs,fM K H a xs/\xs.length<=i⟩
def NZ(lo:Int)(n:Nat):It:=⟨λi _=>i<n,λi H x H'=>H'=H/\x=.int (lo+i),λi _=>n<=i⟩
def BB{P:Tr}{w:TU}{K:SE}{tg:Tn}(a it:SA):zK P w K tg (Qt K a) [it] it (λi h=>h.IsListIter it a i) where
 mem:=by simp
 obj:=λi h st b hb=>by
  have e:b=it:=by simpa using hb
  subst e;obtain⟨o,e,c,d⟩:=st;exact⟨o,e,λv z=>by rw[d]at z;cases z⟩
 keep:=λi h h' st k=>st.at λo e=>k it (by simp) o e
 item:=by
  intro X hP hw hK hc i π s σ H E I hf st hg;subst hP hw hK;obtain⟨xs,x,hq,hx⟩:=hg;obtain⟨its,rv,p,hz⟩:=I.list hq;obtain⟨u,hu,ru⟩:=rv.get hx;obtain⟨f0,f1,f2,f3,f4,f5⟩:=hf it (by simp);refine wpAny_pyNext_list_item st p.isList (x:=u) (by simpa using hu) λh' st' sb=>?_;have I1:Inv X π σ H { s with heap:=h' }:=I.turned (t':=s.toks) (λb o hb e=>(sb.2 b hb).trans e) f0 f1 f3 f4 f5;obtain⟨o,e,c,d⟩:=id st';exact⟨u,rfl,xH (s:={ s with heap:=h' }) e c d (by decide) ⟨x,H,I1,ru,⟨rfl,λys hy=>by rw[I.list_inj hy hq];exact hx⟩,st',λb hb=>(hf b hb).1⟩⟩
 done:=by
  intro X hP hw hK hc i π s σ H E I hf st hg;subst hP hw hK;obtain⟨xs,hq,hx⟩:=hg;obtain⟨its,rv,p,hz⟩:=I.list hq;obtain⟨f0,f1,f2,f3,f4,f5⟩:=hf it (by simp);have hl:=rv.length;exact wpAny_pyNext_list_end (I.ok.hd hc) st p.isList (by simp;omega) λh' eb=>⟨rfl,I.turned (t':=s.toks) (λb o hb e=>eb b o hb e) f0 f1 f3 f4 f5⟩
 self:=λ_ _ _ _ _ st h=>wpAny_pyIter_listiter st h
def yu{P:Tr}{w:TU}{K:SE}{tg:Tn}(it:SA)(lo:Int)(n:Nat):zK P w K tg (NZ lo n) [it] it (λi h=>IsRangeIter h it (lo+(i:Nat)*1) ((n:Int)-(i:Nat)) 1) where
 mem:=by simp
 obj:=λi h st b hb=>by
  have e:b=it:=by simpa using hb
  subst e;exact⟨_,st,λv z=>by
   have z':Data.fields _=Data.cell v:=z;cases z'⟩
 keep:=λi h h' st k=>k it (by simp) _ st
 item:=by
  intro X hP hw hK hc i π s σ H E I hf st hg;subst hP hw hK;obtain⟨f0,f1,f2,f3,f4,f5⟩:=hf it (by simp);have W:=Walks.range (prog:=X.prog) (w:=X.w) (I.ok.hd hc) it lo 1 n;refine W.item i s _ _ hg st λv h' tk hv st' kk=>?_;obtain⟨t,rfl⟩:=hv;have I1:Inv X π σ H { s with heap:=h',toks:=tk }:=I.turned (λb o hb e=>kk b o (by simpa using hb) e) f0 f1 f3 f4 f5;refine⟨_,rfl,xH (s:={ s with heap:=h',toks:=tk }) (n:="range_iterator") st' rfl rfl (by decide) ⟨.int (lo+i),H,I1,⟨t,?_⟩,⟨rfl,rfl⟩,st',λb hb=>(hf b hb).1⟩⟩;rw[Int.mul_one]
 done:=by
  intro X hP hw hK hc i π s σ H E I hf st hg;subst hP hw hK;obtain⟨f0,f1,f2,f3,f4,f5⟩:=hf it (by simp);exact wpAny_pyNext_range_end (I.ok.hd hc) st (by have:n<=i:=hg;omega) λh' eb=>⟨rfl,I.turned (t':=s.toks) (λb o hb e=>eb b o hb e) f0 f1 f3 f4 f5⟩
 self:=λ_ _ _ _ _ st h=>wpAny_pyIter_rangeiter st h
section
variable {X:Cx}{tg:Tn}
def Px(K:SE)(tl:TE):TI:=λσ H R=>tl σ H λx H1=>∃a,x=.ref a/\(∃xs,fM K H1 a xs)/\R (Qt K a) H1
def Ak{l:Tn}{tl:TE}(hl:PE X l tl):PI X tg l (Px X.K tl):=by
 intro π s σ H R I h;refine cX (hl π s σ H _ I h) λv s1 ⟨x,H1,I1,r1,q1⟩=>?_;obtain⟨a,e,⟨xs,hq⟩,q⟩:=q1;subst e;cases r1;obtain⟨its,rv,p,hz⟩:=I1.list hq;refine wpAny_pyIter_list p.isList ?_;refine⟨s1.heap.objs.size,[s1.heap.objs.size],_,_,H1,rfl,I1.kept (t':=s1.toks) λb o e=>SK _ e,BB a _,⟨_,TH _ rfl,rfl,rfl⟩,λb hb=>?_,q⟩;have e:b=s1.heap.objs.size:=by simpa using hb
 subst e;exact I1.fpOk (Tf _) (I1.hok.fresh (Tf _))
def Es{π:List (SA×Obj)}{σ:St}{H:Hp}{s:SI}{R:It->Hp->Prop}{E:Sy->SI->Prop}{lo hi:Int}{t u v:Tok}{tk:Nat}(I:Inv X π σ H s)(h1:-(2 ^ 62)<=lo)(h2:lo<2 ^ 62)(h3:-(2 ^ 62)<=hi)(h4:hi<2 ^ 62)
  (q:R (NZ lo (hi-lo).toNat) H):Td (Tb X.prog X.w) X.A (XF (.ref s.heap.objs.size)) (QF X π σ tg R) E { s with heap:=s.heap.push { cls:=.type "range",data:=.fields #[.int lo t,.int hi u,.int 1 v] },toks:=tk }:=by
 refine wpAny_pyIter_range (IsRange.new ..) (small_one h1 h2 h3 h4) ?_;have I1:Inv X π σ H { s with heap:=s.heap.push { cls:=.type "range",data:=.fields #[.int lo t,.int hi u,.int 1 v] },toks:=tk }:=I.kept λb o e=>SK _ e;refine⟨(s.heap.push { cls:=.type "range",data:=.fields #[.int lo t,.int hi u,.int 1 v] }).objs.size,[(s.heap.push { cls:=.type "range",data:=.fields #[.int lo t,.int hi u,.int 1 v] }).objs.size],_,_,H,rfl,
  I1.kept (t':=tk) λb o e=>SK _ e,yu _ lo (hi-lo).toNat,?_,λb hb=>?_,q⟩
 .have e1:lo+((0:Nat):Int)*1=lo:=by simp
  have e2:(((hi-lo).toNat:Nat):Int)-((0:Nat):Int)=VL lo hi 1:=by rw[rangeSize_one];split<;>omega
  show IsRangeIter _ _ (lo+((0:Nat):Int)*1) ((((hi-lo).toNat:Nat):Int)-((0:Nat):Int)) 1;rw[e1,e2];exact TH _ rfl
 .have e:b=(s.heap.push { cls:=.type "range",data:=.fields #[.int lo t,.int hi u,.int 1 v] }).objs.size:=by simpa using hb
  subst e;exact I1.fpOk (Tf _) (I1.hok.fresh (Tf _))
def Pw(ta:TA):TI:=λσ H R=>ta σ H λvs H1=>∃j:Int,vs=[.int j]/\-(2 ^ 62)<=j/\j<2 ^ 62/\R (NZ 0 j.toNat) H1
def ug{a:Tn}{ta:TA}{p pos:Pos}(hg:Gl X "range")(hm:X.mg "range"=none)(ha:PA X [a] ta)(hs:SJ [a] X.env=[(false,eval a X.env)]:=by rfl):PI X tg (.Call (.Name "range" p) [a] [] pos) (Pw ta):=by
 intro π s σ H R I h;refine Call_ (nT I hg hm boot_range (Vu (cX (ha pos π s σ H _ I h) λus s1 z9=>?_) hs rfl));obtain⟨vs,H1,I1,r1,q1⟩:=z9;obtain⟨j,e,q1,q2,q⟩:=q1;subst e;cases r1 with
 |cons r rr=>
  cases rr;obtain⟨t,rfl⟩:=r;exact call_range_1 (Es I1 (by omega) (by omega) q1 q2 (by simpa using q))
noncomputable def QY(wi:TI) (g:TG) (tb:TS):TS:=λD σ H=>wi σ H λJ H1=>∃W:Nat->Nat->St->Hp->Prop,(∃m,W 0 m σ H1)/\∀i m σ H,W i m σ H ->
 (J.stop i H/\D.nx σ H)∨(J.go i H/\∃N:St->Hp->Prop,(∀σ' H',N σ' H'->∃m',m' < m/\W (i+1) m' σ' H')/\∀x H',J.yld i H x H'->g x σ H' λσ2 H2=>tb { D with nx:=N,ct:=N,bk:=D.nx } σ2 H2)
def qT(fp:List SA)(h:S1):List (SA×Obj):=fp.filterMap λb=>(h.get? b).map λo=>(b,o)
def ki{fp:List SA}{h:S1}{b:SA}{o:Obj}(hb:b∈fp)(e:h.get? b=some o):(b,o)∈qT fp h:=WK.mpr ⟨b,hb,by rw[e];rfl⟩
def Ct{fp:List SA}{h:S1}{p:SA×Obj}(hp:p∈qT fp h):p.1∈fp/\h.get? p.1=some p.2:=by
 obtain⟨b,hb,e⟩:=WK.mp hp;cases q:h.get? b with
 |none=>rw[q]at e;cases e
 |some o=>
  rw[q]at e;have e':(b,o)=p:=T9 e;subst e';exact⟨hb,q⟩
def Inv.pinned{π:List (SA×Obj)}{σ:St}{H:Hp}{s:SI}{fp:List SA}(I:Inv X π σ H s)(hf:∀b∈fp,oA X π H b)(ho:∀b∈fp,∃o,s.heap.get? b=some o/\∀v,o.data≠.cell v):Inv X (π++qT fp s.heap) σ H s :=
 I.pins_of λp hp=>(TX.mp hp).elim (λz=>I.pin p (Ue _ z)) λz=>by
  obtain⟨hb,e⟩:=Ct z;obtain⟨f0,f1,f2,_⟩:=hf p.1 hb;obtain⟨o,e',d⟩:=ho p.1 hb;rw[e]at e';cases e';exact⟨e,f0,f1,f2,d⟩
def Inv.unpinned{π pl:List (SA×Obj)}{σ:St}{H:Hp}{s:SI}(I:Inv X (π++pl) σ H s):Inv X π σ H s:=I.pins_of λp hp=>I.pin p (Ue _ (Wx _ hp))
def u9{iter:Tn}{body:List Ud}{wi:TI}{g:TG}{tb:TS}{pos:Pos}(hp:PassesOwn (Tb X.prog X.w) X.A X.env X.xe)(hc:X.calm=true)(hi:PI X tg iter wi)(hg:PG X tg g)(hb:ph X body tb)
  (hs:∀x,foldedSetIterable iter X.env x=pure x:=by intro _;rfl):PS X (.For tg iter body [] pos) (QY wi g tb):=by
 intro π s σ H D I h;refine wpAny_For (cX (hi π s σ H _ I h) λv s1 h1=>cX h1 λitv s2 h2=>?_) hs;obtain⟨it,fp,tn,J,H2,e,I2,T,st2,f2,W,⟨m0,w0⟩,turn⟩:=h2;subst e;have stat:∀{H':Hp},(∀b∈fp,H' b=none)->∀b∈fp,oA X π H' b:=λhn b hb=>⟨hn b hb,(f2 b hb).2⟩
 refine codeAny_forLoop_any (λn s'=>∃i σ' H',Inv X π σ' H' s'/\tn i s'.heap/\(∀b∈fp,H' b=none)/\W i n σ' H') ?_ m0 ⟨0,σ,H2,I2,st2,λb hb=>(f2 b hb).1,w0⟩;rintro n s3 ⟨i,σ3,H3,I3,st3,fr3,w3⟩;rcases turn i n σ3 H3 w3 with⟨stop,qn⟩|⟨go,N,hN,step⟩
 .refine wpAny_passesOwn hp (cX (T.done X rfl rfl rfl hc i π s3 σ3 H3 X.xe I3 (stat fr3) st3 stop) λr s4 ⟨hr,I4⟩=>?_)
  subst hr;exact wpAny_execs_nil ⟨σ3,H3,I4,qn⟩
 .refine wpAny_passesOwn hp (cX (T.item X rfl rfl rfl hc i π s3 σ3 H3 X.xe I3 (stat fr3) st3 go) λr s4 ⟨u,hr,h4⟩=>?_)
  subst hr;refine wpAny_passesOwn hp (cX h4 λ_ s5 ⟨x,H5,I5,r5,y5,st5,fr5⟩=>?_);have I5':=I5.pinned (stat fr5) (T.obj _ _ st5);refine wpAny_passesOwn hp (cX (hg _ s5 σ3 H5 x u _ I5' r5 (step x H5 y5)) λ_ s6 ⟨σ6,H6,I6,q6⟩=>?_);refine wpAny_passesOwn hp (cX (hb _ s6 σ6 H6 _ I6 q6) λf s7 q7=>?_);have again:∀{σ7:St}{H7:Hp},Inv X (π++qT fp s5.heap) σ7 H7 s7->N σ7 H7->∃m,m<n/\∃i σ' H',Inv X π σ' H' s7/\tn i s7.heap/\(∀b∈fp,H' b=none)/\W i m σ' H':=λ{σ7 H7} I7 n7=>by
   obtain⟨m',hm,w7⟩:=hN σ7 H7 n7;refine⟨m',hm,i+1,σ7,H7,I7.unpinned,T.keep _ _ _ st5 λb hb o e=>(I7.pin (b,o) (Ue _ (Ue _ (ki hb e)))).1,λb hb=>?_,w7⟩;obtain⟨o,e,d⟩:=T.obj _ _ st5 b hb;exact(I7.pin (b,o) (Ue _ (Ue _ (ki hb e)))).2.1
  cases f with|next|cont=>obtain⟨σ7,H7,I7,n7⟩:=q7;exact again I7 n7|brk=>obtain⟨σ7,H7,I7,q7⟩:=q7;exact⟨σ7,H7,I7.unpinned,q7⟩|ret v=>obtain⟨x7,σ7,H7,I7,r7,q7⟩:=q7;exact⟨x7,σ7,H7,I7.unpinned,r7,q7⟩
end
def FP{K:SE}{a:SA}{xs:al}{g:TG}{tb:TS}{D:gV}{σ:St}{H:Hp}(Pv:Nat->St->Hp->Prop)(h0:Pv 0 σ H)(hl:∀i σ H,i<=xs.length->Pv i σ H->fM K H a xs)
  (hs:∀i x σ H,xs[i]?=some x->Pv i σ H->g x σ H λσ2 H2=>tb { D with nx:=Pv (i+1),ct:=Pv (i+1),bk:=D.nx } σ2 H2)(hd:∀σ H,Pv xs.length σ H->D.nx σ H) :
  ∃W:Nat->Nat->St->Hp->Prop,(∃m,W 0 m σ H)/\∀i m σ H,W i m σ H ->
   ((Qt K a).stop i H/\D.nx σ H)∨((Qt K a).go i H/\∃N:St->Hp->Prop,(∀σ' H',N σ' H'->∃m',m' < m/\W (i+1) m' σ' H')/\∀x H',(Qt K a).yld i H x H'->g x σ H' λσ2 H2=>tb { D with nx:=N,ct:=N,bk:=D.nx } σ2 H2):=by
 refine⟨λi m σ H=>m=xs.length-i/\i<=xs.length/\Pv i σ H,⟨xs.length,by simp,We _,h0⟩,?_⟩;rintro i m σ H ⟨rfl,hi,p⟩;have q:=hl i σ H hi p
 by_cases hlt:i<xs.length
 .refine .inr ⟨⟨xs,xs[i],q,by simp[hlt]⟩,Pv (i+1),λσ' H' p'=>⟨xs.length-(i+1),by omega,rfl,hlt,p'⟩,λx H' y=>?_⟩
  obtain⟨e,y⟩:=y;subst e;exact hs i x σ _ (y xs q) p
 .have e:i=xs.length:=by omega
  subst e;exact .inl ⟨⟨xs,q,Tf _⟩,hd σ H p⟩
def CK{lo:Int}{n:Nat}{g:TG}{tb:TS}{D:gV}{σ:St}{H:Hp}(Pv:Nat->St->Hp->Prop)(h0:Pv 0 σ H)
  (hs:∀i σ H,i<n->Pv i σ H->g (.int (lo+i)) σ H λσ2 H2=>tb { D with nx:=Pv (i+1),ct:=Pv (i+1),bk:=D.nx } σ2 H2)(hd:∀σ H,Pv n σ H->D.nx σ H) :
  ∃W:Nat->Nat->St->Hp->Prop,(∃m,W 0 m σ H)/\∀i m σ H,W i m σ H ->
   ((NZ lo n).stop i H/\D.nx σ H)∨((NZ lo n).go i H/\∃N:St->Hp->Prop,(∀σ' H',N σ' H'->∃m',m' < m/\W (i+1) m' σ' H')/\∀x H',(NZ lo n).yld i H x H'->g x σ H' λσ2 H2=>tb { D with nx:=N,ct:=N,bk:=D.nx } σ2 H2):=by
 refine⟨λi m σ H=>m=n-i/\i<=n/\Pv i σ H,⟨n,by simp,We _,h0⟩,?_⟩;rintro i m σ H ⟨rfl,hi,p⟩
 by_cases hlt:i<n
 .refine .inr ⟨hlt,Pv (i+1),λσ' H' p'=>⟨n-(i+1),by omega,rfl,hlt,p'⟩,λx H' y=>?_⟩
  obtain⟨e,y⟩:=y;subst e y;exact hs i σ _ hlt p
 .have e:i=n:=by omega
  subst e;exact .inl ⟨Tf _,hd σ H p⟩
abbrev R2:=V->V->Hp->VK->Prop
def gX(X:Cx)(f:Sy->Sy->Sem Sy)(r:R2):Prop :=
 ∀(π:List (SA×Obj)) (s:SI) (σ:St) (H:Hp) (x y:V) (v u:Sy) (Q:VK),Inv X π σ H s->bW x v->bW y u->r x y H Q ->
  Td (Tb X.prog X.w) X.A (f v u) (EP X π σ Q) X.xe s
def QD(X:Cx)(f:Sy->Sem Sy)(r:V->Hp->VK->Prop):Prop :=
 ∀(π:List (SA×Obj)) (s:SI) (σ:St) (H:Hp) (x:V) (v:Sy) (Q:VK),Inv X π σ H s->bW x v->r x H Q ->
  Td (Tb X.prog X.w) X.A (f v) (EP X π σ Q) X.xe s
def iU(X:Cx)(f:Sy)(r:al->Hp->VK->Prop):Prop :=
 ∀(π:List (SA×Obj)) (s:SI) (σ:St) (H:Hp) (xs:al) (us:List Sy) (Q:VK),Inv X π σ H s->bx xs us->r xs H Q ->
  Td (Tb X.prog X.w) X.A (call f us) (EP X π σ Q) X.xe s
def OB(r:R2)(ta tb:TE):TE:=λσ H Q=>ta σ H λx H1=>tb σ H1 λy H2=>r x y H2 Q
def R5(r:V->Hp->VK->Prop)(ta:TE):TE:=λσ H Q=>ta σ H λx H1=>r x H1 Q
def rI(C:Int->Int->Prop)(g:Int->Int->V):R2:=λx y H Q=>∃i j,x=.int i/\y=.int j/\C i j/\Q (g i j) H
def G2(g:Int->Int->V):R2:=λx y H Q=>∃i j,x=.int i/\y=.int j/\Q (g i j) H
def rU(g:Int->V):V->Hp->VK->Prop:=λx H Q=>∃i,x=.int i/\Q (g i) H
section
variable {X:Cx}{a b c:Tn}{ta tb tc:TE}{pos:Pos}
def NN(ha:PE X a ta)(hb:PE X b tb){π:List (SA×Obj)}{s:SI}{σ:St}{H:Hp}{R:V->V->Hp->Prop}(I:Inv X π σ H s)
  (h:ta σ H λx H1=>tb σ H1 λy H2=>R x y H2){Q:Sy->SI->Prop}{f:Sy->Sy->Sem Sy}
  (hf:∀v u s2 x y H2,Inv X π σ H2 s2->bW x v->bW y u->R x y H2->Td (Tb X.prog X.w) X.A (f v u) Q X.xe s2) :
  Td (Tb X.prog X.w) X.A (eval a X.env) (λv sg=>Td (Tb X.prog X.w) X.A (eval b X.env) (λu si=>Td (Tb X.prog X.w) X.A (f v u) Q X.xe si) X.xe sg) X.xe s:=by
 refine cX (ha π s σ H _ I h) λv s1 ⟨x,H1,I1,r1,q1⟩=>?_;refine cX (hb π s1 σ H1 _ I1 q1) λu s2 ⟨y,H2,I2,r2,q2⟩=>?_;exact hf v u s2 x y H2 I2 r1 r2 q2
def EN{op:Operator}{r:R2}(ho:gX X (binaryOp op) r)(ha:PE X a ta)(hb:PE X b tb):PE X (.BinOp a op b pos) (OB r ta tb):=by
 intro π s σ H Q I h;exact wpAny_BinOp (NN ha hb I h λv u s2 x y H2 I2 rx ry q=>ho π s2 σ H2 x y v u Q I2 rx ry q)
def KZ{op:UnaryOp}{r:V->Hp->VK->Prop}(ho:QD X (unaryOp op) r)(ha:PE X a ta):PE X (.UnaryOp op a pos) (R5 r ta):=by
 intro π s σ H Q I h;exact UnaryOp_ (cX (ha π s σ H _ I h) λv s1 ⟨x,H1,I1,r1,q1⟩=>ho π s1 σ H1 x v Q I1 r1 q1)
def QB{f:Sy->Sy->Sem Sy}{C:Int->Int->Prop}{g:Int->Int->Int}
  (rule:∀(i j:Int) (t u:Tok) (s:SI) (Q:Sy->SI->Prop) (E:Sy->SI->Prop),C i j->Q (.int (g i j) s.toks) { s with toks:=s.toks+1 }->Td (Tb X.prog X.w) X.A (f (.int i t) (.int j u)) Q E s) :
  gX X f (rI C λi j=>.int (g i j)):=by
 intro π s σ H x y v u Q I rx ry h;obtain⟨i,j,rfl,rfl,hc,q⟩:=h;obtain⟨t,rfl⟩:=rx;obtain⟨t',rfl⟩:=ry;exact rule i j t t' s _ _ hc ⟨.int (g i j),H,I.tok _,⟨_,rfl⟩,q⟩
def Pb{f:Sy->Sy->Sem Sy}{g:Int->Int->Int}
  (rule:∀(i j:Int) (t u:Tok) (s:SI) (Q:Sy->SI->Prop) (E:Sy->SI->Prop),Q (.int (g i j) s.toks) { s with toks:=s.toks+1 }->Td (Tb X.prog X.w) X.A (f (.int i t) (.int j u)) Q E s) :
  gX X f (G2 λi j=>.int (g i j)):=by
 intro π s σ H x y v u Q I rx ry h;obtain⟨i,j,rfl,rfl,q⟩:=h;obtain⟨t,rfl⟩:=rx;obtain⟨t',rfl⟩:=ry;exact rule i j t t' s _ _ ⟨.int (g i j),H,I.tok _,⟨_,rfl⟩,q⟩
def IE{f:Sy->Sy->Sem Sy}{g:Int->Int->Bool}
  (rule:∀(i j:Int) (t u:Tok) (s:SI) (Q:Sy->SI->Prop) (E:Sy->SI->Prop),Q (.bool (g i j)) s->Td (Tb X.prog X.w) X.A (f (.int i t) (.int j u)) Q E s) :
  gX X f (G2 λi j=>.bl (g i j)):=by
 intro π s σ H x y v u Q I rx ry h;obtain⟨i,j,rfl,rfl,q⟩:=h;obtain⟨t,rfl⟩:=rx;obtain⟨t',rfl⟩:=ry;exact rule i j t t' s _ _ ⟨.bl (g i j),H,I,rfl,q⟩
def RG(i j:Int):Prop:=0<=j/\j<=1000000/\i.natAbs<2 ^ 64
def Mw:gX X (binaryOp .Add) (G2 λi j=>.int (i+j)):=Pb λ_ _ _ _ _ _ _ q=>add_int q
def Ms:gX X (binaryOp .Sub) (G2 λi j=>.int (i-j)):=Pb λ_ _ _ _ _ _ _ q=>sub_int q
def IB:gX X (binaryOp .Mod) (rI (λ_ j=>j≠0) λi j=>.int (i.fmod j)):=QB λ_ _ _ _ _ _ _ hc q=>mod_int' hc q
def Mu:gX X (binaryOp .Pow) (rI RG λi j=>.int (i ^ j.toNat)):=QB λ_ _ _ _ _ _ _ hc q=>pow_int_small hc.1 hc.2.1 hc.2.2 q
def R1{f:Sy->Sem Sy}{g:Int->Int}
  (rule:∀(i:Int) (t:Tok) (s:SI) (Q:Sy->SI->Prop) (E:Sy->SI->Prop),Q (.int (g i) s.toks) { s with toks:=s.toks+1 }->Td (Tb X.prog X.w) X.A (f (.int i t)) Q E s) :
  QD X f (rU λi=>.int (g i)):=by
 intro π s σ H x v Q I rx h;obtain⟨i,rfl,q⟩:=h;obtain⟨t,rfl⟩:=rx;exact rule i t s _ _ ⟨.int (g i),H,I.tok _,⟨_,rfl⟩,q⟩
def DC:QD X (unaryOp .USub) (rU λi=>.int (-i)):=R1 λ_ _ _ _ _ q=>neg_int q
end
section
variable {X:Cx}{a b c:Tn}{ta tb tc:TE}{pos:Pos}
def zl{π:List (SA×Obj)}{σ:St}{H:Hp}{s:SI}{Q:VK}{k k':Bool}(I:Inv X π σ H s)(q:Q (.bl k) H)(e:k=k'):EP X π σ Q (.bool k') s:=by
 subst e;exact⟨.bl k,H,I,rfl,q⟩
def uk:gX X (Uc .Lt) (G2 λi j=>.bl (decide (i<j))):=IE λ_ _ _ _ _ _ _ q=>lt_int q
def mP:gX X (Uc .LtE) (G2 λi j=>.bl (decide (i<=j))):=IE λ_ _ _ _ _ _ _ q=>le_int q
def xh:gX X (Uc .Gt) (G2 λi j=>.bl (decide (j<i))):=IE λ_ _ _ _ _ _ _ q=>gt_int q
def Ar:gX X (Uc .GtE) (G2 λi j=>.bl (decide (j<=i))):=IE λ_ _ _ _ _ _ _ q=>ge_int q
def Cq:gX X (Uc .In) (λx y H Q=>∃i j,x=.str i/\y=.str j/\Q (.bl (!(VJ j i 0 j.length 1).isEmpty)) H):=by
 intro π s σ H x y v u Q I rx ry h;obtain⟨i,j,rfl,rfl,q⟩:=h;obtain⟨t,rfl⟩:=rx;obtain⟨t',rfl⟩:=ry;exact in_str (zl I q rfl)
def vi:gX X (Uc .Is) (λx y H Q=>y=.non/\Q (.bl (decide (x=.non))) H):=by
 intro π s σ H x y v u Q I rx ry h;obtain⟨rfl,q⟩:=h;cases ry;refine is_none_gen (zl I q ?_);cases x<;>first
  |(cases rx;rfl)
  |(obtain⟨t,rfl⟩:=rx;rfl)
def vg:gX X (Uc .IsNot) (λx y H Q=>y=.non/\Q (.bl (!decide (x=.non))) H):=by
 intro π s σ H x y v u Q I rx ry h;obtain⟨rfl,q⟩:=h;cases ry;refine isnot_none_gen (zl I q ?_);cases x<;>first
  |(cases rx;rfl)
  |(obtain⟨t,rfl⟩:=rx;rfl)
def gX.or{f:Sy->Sy->Sem Sy}{r r':R2}(h:gX X f r)(h':gX X f r'):gX X f (λx y H Q=>r x y H Q∨r' x y H Q):=by
 intro π s σ H x y v u Q I rx ry q;rcases q with q|q
 .exact h π s σ H x y v u Q I rx ry q
 .exact h' π s σ H x y v u Q I rx ry q
def Iw{op:CmpOp}{r:R2}(ho:gX X (Uc op) r)(ha:PE X a ta)(hb:PE X b tb)(hm:behindInMarks op b=false):PE X (.Compare a [op] [b] pos) (OB r ta tb):=by
 intro π s σ H Q I h;exact wpAny_Compare1 (NN ha hb I h λv u s2 x y H2 I2 rx ry q=>ho π s2 σ H2 x y v u Q I2 rx ry q) hm
def KO(t:TE):TT:=λσ H Q=>t σ H λx H'=>∃k,x=.bl k/\Q k H'
def Ij{op:CmpOp}{r:R2}(ho:gX X (Uc op) r)(ha:PE X a ta)(hb:PE X b tb)(hm:behindInMarks op b=false):PT X (.Compare a [op] [b] pos) (KO (OB r ta tb)):=by
 intro π s σ H Q I h;refine wpAny_isTrue_Compare1 (cX (ha π s σ H _ I h) λv s1 ⟨x,H1,I1,r1,q1⟩=>cX (hb π s1 σ H1 _ I1 q1) λu s2 ⟨y,H2,I2,r2,q2⟩ =>
  cX (ho π s2 σ H2 x y v u _ I2 r1 r2 q2) λc s3 ⟨z,H3,I3,r3,k,e,q3⟩=>?_) hm
 subst e;cases r3;exact UG ⟨H3,I3,q3⟩
def yy(r r':R2)(ta tb tc:TE):TE:=λσ H Q=>ta σ H λx H1=>tb σ H1 λy H2=>r x y H2 λz H3=>∃k,z=.bl k /\
 (if k=true then tc σ H3 λw' H4=>r' y w' H4 Q else Q (.bl false) H3)
def EU{op op':CmpOp}{r r':R2}(ho:gX X (Uc op) r)(ho':gX X (Uc op') r')(ha:PE X a ta)(hb:PE X b tb)(hc:PE X c tc)
  (hm:lastMarks [op,op'] [b,c]=false:=by with_unfolding_all rfl):PE X (.Compare a [op,op'] [b,c] pos) (yy r r' ta tb tc):=by
 intro π s σ H Q I h;refine Compare_chain (cX (ha π s σ H _ I h) λv s1 ⟨x,H1,I1,r1,q1⟩=>chain_link (cX (hb π s1 σ H1 _ I1 q1) λu s2 ⟨y,H2,I2,r2,q2⟩ =>
  cX (ho π s2 σ H2 x y v u _ I2 r1 r2 q2) λd s3 ⟨z,H3,I3,r3,k,e,q3⟩=>?_)) hm
 subst e;cases r3;refine UG ?_;cases k with|false=>exact ite_ff ⟨.bl false,H3,I3,rfl,q3⟩|true=>exact ite_tt (chain_last (cX (hc π s3 σ H3 _ I3 q3) λw' s4 ⟨z',H4,I4,r4,q4⟩=>ho' π s4 σ H4 y z' u w' Q I4 r2 r4 q4))
def EE{op op':CmpOp}{r r':R2}(ho:gX X (Uc op) r)(ho':gX X (Uc op') r')(ha:PE X a ta)(hb:PE X b tb)(hc:PE X c tc)
  (hm:lastMarks [op,op'] [b,c]=false:=by with_unfolding_all rfl):PT X (.Compare a [op,op'] [b,c] pos) (KO (yy r r' ta tb tc)):=by
 intro π s σ H Q I h;refine isTrue_chain (cX (ha π s σ H _ I h) λv s1 ⟨x,H1,I1,r1,q1⟩=>test_link (cX (hb π s1 σ H1 _ I1 q1) λu s2 ⟨y,H2,I2,r2,q2⟩ =>
  cX (ho π s2 σ H2 x y v u _ I2 r1 r2 q2) λd s3 ⟨z,H3,I3,r3,k,e,q3⟩=>?_)) hm
 subst e;cases r3;refine UG ?_;cases k with
 |false=>
  obtain⟨k',e',q'⟩:=q3;cases e';exact ite_ff ⟨H3,I3,q'⟩
 |true=>
  refine ite_tt (test_last (cX (hc π s3 σ H3 _ I3 q3) λw' s4 ⟨z',H4,I4,r4,q4⟩=>cX (ho' π s4 σ H4 y z' u w' _ I4 r2 r4 q4) λd' s5 z9=>?_));obtain⟨z2,H5,I5,r5,k2,e2,q5⟩:=z9;subst e2;cases r5;exact UG ⟨H5,I5,q5⟩
def vD:(sizeLine:Nat)<2 ^ 63:=by rw[sizeLine_eq];decide
def yS:gX X (binaryOp .Add) (λx y H Q=>∃i j,x=.str i/\y=.str j/\i.length+j.length<=sizeLine/\Q (.str (i++j)) H):=by
 intro π s σ H x y v u Q I rx ry h;obtain⟨i,j,rfl,rfl,hz,q⟩:=h;obtain⟨t,rfl⟩:=rx;obtain⟨t',rfl⟩:=ry;exact add_str (λt' tk=>⟨.str (i++j),H,I.tok _,⟨_,rfl⟩,q⟩) hz
def oC{x:V}{us:List Sy}(r:bx [x] us):∃u,us=[u]/\bW x u:=by
 cases r with|cons r1 r2=>cases r2;exact⟨_,rfl,r1⟩
def Oj{x y:V}{us:List Sy}(r:bx [x,y] us):∃u w',us=[u,w']/\bW x u/\bW y w':=by
 cases r with
 |cons r1 r2=>
  cases r2 with|cons r3 r4=>cases r4;exact⟨_,_,rfl,r1,r3⟩
def sD:iU X (.builtin "abs") (λxs H Q=>∃i,xs=[.int i]/\Q (.int (if i<0 then -i else i)) H):=by
 intro π s σ H xs us Q I r h;obtain⟨i,rfl,q⟩:=h;obtain⟨u,rfl,t,rfl⟩:=oC r;exact call_abs_int λu tk=>⟨.int (if i<0 then -i else i),H,I.tok _,⟨_,rfl⟩,q⟩
def C6(hc:X.calm=true):iU X (.builtin "max") (λxs H Q=>∃i j,xs=[.int i,.int j]/\Q (.int (if j > i then j else i)) H):=by
 intro π s σ H xs us Q I r h;obtain⟨i,j,rfl,q⟩:=h;obtain⟨u,w',rfl,⟨t,rfl⟩,⟨t',rfl⟩⟩:=Oj r;refine max_two_ints (I.ok.hd hc) λh' tk k=>⟨_,H,I.kept k,?_,q⟩
 by_cases hj:j > i
 .rw[if_pos hj,if_pos hj];exact⟨_,rfl⟩
 .rw[if_neg hj,if_neg hj];exact⟨_,rfl⟩
def uH:iU X (.type "int") (λxs H Q=>(∃i,xs=[.int i]/\Q (.int i) H)∨∃k,xs=[.bl k]/\Q (.int (if k then 1 else 0)) H):=by
 intro π s σ H xs us Q I r h;rcases h with⟨i,rfl,q⟩|⟨k,rfl,q⟩
 .obtain⟨u,rfl,t,rfl⟩:=oC r
  exact call_int_int ⟨.int i,H,I,⟨_,rfl⟩,q⟩
 .obtain⟨u,rfl,r1⟩:=oC r
  cases r1;exact call_int_bool ⟨.int (if k then 1 else 0),H,I.tok _,⟨_,rfl⟩,q⟩
def eV:iU X (.type "str") (λxs H Q=>∃i,xs=[.int i]/\i.natAbs.log2<1920/\Q (.str (toString i)) H):=by
 intro π s σ H xs us Q I r h;obtain⟨i,rfl,hz,q⟩:=h;obtain⟨u,rfl,t,rfl⟩:=oC r;exact PySem.P.str_of_int hz ⟨.str _,H,I.tok _,⟨_,rfl⟩,q⟩
def Qr(K:SE)(x:V)(H:Hp)(n:Nat):Prop :=
 match x with
 |.str y=>y.length<=sizeLine/\n=y.length
 |.byt y=>y.size<=sizeLine/\n=y.size
 |.ref p=>(∃xs,fM K H p xs/\n=xs.length)∨∃xs,j7 K H p xs/\n=xs.length
 |_=>False
def bb:iU X (.builtin "len") (λxs H Q=>∃x n,xs=[x]/\Qr X.K x H n/\Q (.int n) H):=by
 intro π s σ H xs us Q I r h;obtain⟨x,n,rfl,e,q⟩:=h;obtain⟨u,rfl,rx⟩:=oC r;have hl:=vD;have hs:sizeLine=16777216:=sizeLine_eq;cases x with
 |str y=>
  obtain⟨t,rfl⟩:=rx;obtain⟨hy,e'⟩:y.length<=sizeLine/\n=y.length:=e;subst e';exact len_str (by omega) ⟨.int _,H,I.tok _,⟨_,rfl⟩,q⟩
 |byt y=>
  obtain⟨t,rfl⟩:=rx;obtain⟨hy,e'⟩:y.size<=sizeLine/\n=y.size:=e;subst e';exact W.len_bytes (by omega) ⟨.int _,H,I.tok _,⟨_,rfl⟩,q⟩
 |ref p=>
  cases rx;have e':(∃xs,fM X.K H p xs/\n=xs.length)∨∃xs,j7 X.K H p xs/\n=xs.length:=e;rcases e' with⟨xs,hx,e'⟩|⟨xs,hx,e'⟩
  .subst e'
   obtain⟨its,r',pl,hz⟩:=I.list hx;have hlen:=r'.length;exact Calls.call_len_list pl.isList (by simp only[S8];omega) ⟨.int xs.length,H,I.tok _,⟨_,by simp only[S8];rw[hlen]⟩,q⟩
  .subst e'
   obtain⟨its,r',pl,hz⟩:=I.tuple hx;have hlen:=r'.length;exact len_tuple pl (by simp only[S8];omega) ⟨.int xs.length,H,I.tok _,⟨_,by simp only[S8];rw[hlen]⟩,q⟩
 |_=>exact(show False from e).elim
end
structure Df (h:S1) (x dx C:SA) (mA:SH->Option Sy):Prop where
 obj:h.get? x=some (V3 C dx)
 ns:h.Ns1 dx mA
 ne:dx≠x
def nS{h:S1}{dx:SA}{mA:SH->Option Sy}(n:h.Ns1 dx mA):∃od,h.get? dx=some od/\∀name,X5 name od=some (mA name):=by
 obtain⟨o,es,ep,ho,hd,hk,_,hm⟩:=n;refine⟨o,ho,λname=>?_⟩;have e:=hm name;unfold nsFind findBy at e;rw[←Array.find?_toList]at e;unfold X5;rw[hd];dsimp only;split
 .rename_i y q
  rw[q]at e;exact congrArg some e
 .rename_i q
  rw[q]at e;have a:es.toList.any (·.refKey)=false:=by
   rw[List.any_eq_false];intro y hy;obtain⟨z,t,hkey⟩:=hk y (Array.mem_toList_iff.mp hy);simp[DictEntry.refKey,hkey]
  have a':¬es.toList.any (·.refKey)=true:=by rw[a];exact Us
  rw[if_neg a'];exact congrArg some e
def Df.look{h:S1}{x dx C:SA}{mA:SH->Option Sy}(I:Df h x dx C mA):∃od,Xn h x (V3 C dx) C (some od)/\∀name,X5 name od=some (mA name) :=
 let ⟨od,ho,hl⟩:=nS I.ns
 ⟨od,⟨I.obj,rfl,rfl,ho⟩,hl⟩
section
variable {prog:Tr}{w:TU}{A:TK}{E:Sy->SI->Prop}{s:SI}{K:SE}{x dx C f:SA}{mA:SH->Option Sy}{name:SH}{v:Sy}
def Jo{expr:Bool}{Q:Sy->SI->Prop}(X:K.In s.heap)(I:Df s.heap x dx C mA)(hg:WE K C name=true)(hh:Vg K C=true)
  (ha:Uw K (.ref C) name=some none)(hv:mA name=some v)(hv':W.handedIn v=true)(h:Q v { s with toks:=s.toks+1 }) :
  Td (Tb prog w) A (XH (.ref x) name expr) Q E s:=by
 obtain⟨od,J,hl⟩:=I.look;exact W.get_value X J (W.plainGet_of hg).1 (W.findObj_own hh ha rfl (by rw[hl,hv])) hv' h
def HU{ns:ci}{Q:Unit->SI->Prop}(X:K.In s.heap)(I:Df s.heap x dx C mA)
  (hs:Uw K (.ref C) "__setattr__"=some (some (.builtin "object.__setattr__")))(hp:Xc K C=true)(ht:W.takerIn K C name=some none)(hh:Vg K C=true)
  (hw:U6 mA ns)(hsz:ns.length<=sizeLine)
  (h:∀h',Df h' x dx C (λy=>if y=name then some v else mA y)->VQ dx s.heap h'->Q () { s with heap:=h',toks:=s.toks+2 }) :
  Td (Tb prog w) A (setAttr (.ref x) name v) Q E s:=by
 obtain⟨od,J,hl⟩:=I.look;refine X3 X J hs (W.osa_open (s:={ s with toks:=s.toks+1 }) (r:=none) X J hp ht λb=>?_);obtain⟨cd,hc,hd'⟩:=Xm hh;have hx:s.heap.get? x=some ⟨.ref C,some dx,.plain,#[]⟩:=I.obj;refine SG (S5 (SG (SG (wpAny_loadPart hx (SG (XJ (s:={ s with toks:=s.toks+1 }) (WD X hc) ?_))))));rw[hd'];refine S5 (a:=some dx) (SG (S5 (SG ?_)));refine wpAny_nsSet1 (s:={ s with toks:=s.toks+1 }) I.ns λh' hn2 hs2=>?_;obtain⟨oD,esD,epD,hoD,hdD,hcD⟩:=hn2.count (WW name v hw);refine SG (wpAny_lookBehind hoD (by rw[hdD];exact pastItsLine_dict (SW hcD (by rw[S0];omega))) ?_);exact S5 (h _ ⟨(hs2.2 _ (TF I.ne)).trans I.obj,hn2,I.ne⟩ hs2)
def E9{R:WH->SI->Prop}{vs:List Sy}{kw:List (SH×Sy)}(X:K.In s.heap)(hm:W.makesIn K C=true)
  (hi:Uw K (.ref C) "__init__"=some (some (.ref f)))(hf:W.typeIn K (.ref f)=some (.type "function"))
  (h:Vt (Tb prog w) (A.under (.builtin "type.__call__" ⟨.ref C::vs,kw⟩)) (.call (.ref f) ⟨.ref (s.heap.objs.size+1)::vs,kw⟩) (W.InitBack (s.heap.objs.size+1) R)
   { s with heap:=(s.heap.push UK).push (V3 C s.heap.objs.size) }) :
  Vt (Tb prog w) A (.call (.ref C) ⟨vs,kw⟩) R s:=by
 obtain⟨hh,g,d,t,os⟩:=s;exact W.make_core (W.makes_of X hm) (W.looks_findIn X hi) (λself=>W.bind_fn X self hf) (.inl rfl) h
end
def eP(f:SH)(v:V):List (SH×V)->List (SH×V)
 |[]=>[(f,v)]
 |(g,x)::r=>if g=f then(g,v)::r else(g,x)::eP f v r
theorem kW(f g:SH)(v:V):∀fs:List (SH×V),(eP f v fs).lookup g=if g=f then some v else fs.lookup g
 |[]=>by
  show Vh g [(f,v)]=_
  by_cases h:g=f
  .have hb:(g==f)=true:=beq_iff_eq.mpr h
   simp only[Vh,hb,if_pos h]
  .have hb:(g==f)=false:=beq_eq_false_iff_ne.mpr h
   simp only[Vh,hb,if_neg h]
 |(k,x)::r=>by
  have ih:=kW f g v r;rw[show eP f v ((k,x)::r)=(if k=f then(k,v)::r else(k,x)::eP f v r) from rfl]
  by_cases hk:k=f
  .rw[if_pos hk]
   by_cases h:g=k
   .have hb:(g==k)=true:=beq_iff_eq.mpr h
    simp only[Vh,hb,if_pos (h.trans hk)]
   .have hb:(g==k)=false:=beq_eq_false_iff_ne.mpr h
    simp only[Vh,hb,if_neg (λe:g=f=>h (e.trans hk.symm))]
  .rw[if_neg hk]
   by_cases h:g=k
   .have hb:(g==k)=true:=beq_iff_eq.mpr h
    simp only[Vh,hb,if_neg (λe:g=f=>hk (h.symm.trans e))]
   .have hb:(g==k)=false:=beq_eq_false_iff_ne.mpr h
    simp only[Vh,hb];exact ih
theorem jN(f:SH)(v:V):∀fs:List (SH×V),f∈(eP f v fs).map (·.1)/\∀g,g∈fs.map (·.1)->g∈(eP f v fs).map (·.1)
 |[]=>⟨by simp[eP],λg h=>by simp at h⟩
 |(k,x)::r=>by
  obtain⟨i1,i2⟩:=jN f v r;rw[show eP f v ((k,x)::r)=(if k=f then(k,v)::r else(k,x)::eP f v r) from rfl]
  by_cases hk:k=f
  .rw[if_pos hk]
   subst hk;exact⟨by simp,λg h=>by simpa using h⟩
  .rw[if_neg hk]
   refine⟨?_,λg h=>?_⟩
   .rw[Tv]
    exact SM _ i1
   .rw[Tv]at h ⊢
    rcases SV.mp h with e|e
    .exact SV.mpr (.inl e)
    .exact SM _ (i2 g e)
theorem oU(f:SH)(v:V):∀fs:List (SH×V),(eP f v fs).length<=fs.length+1
 |[]=>by simp[eP]
 |(k,x)::r=>by
  have ih:=oU f v r;rw[show eP f v ((k,x)::r)=(if k=f then(k,v)::r else(k,x)::eP f v r) from rfl]
  by_cases hk:k=f
  .rw[if_pos hk,S0,S0];omega
  .rw[if_neg hk,S0,S0];omega
def tP.some_of{v:V}{o:Option Sy}(r:tP (some v) o):∃u,o=some u/\bW v u:=by
 cases o with|none=>exact(show False from r).elim|some u=>exact⟨u,rfl,r⟩
def ux{v:V}{u:Sy}(r:bW v u):W.handedIn u=true:=by
 cases v with|non=>cases (show u=Uz from r);rfl|bl b=>cases (show u=UA b from r);rfl|int i=>obtain⟨t,e⟩:=(show ∃t,u=UU i t from r);cases e;rfl|str x=>obtain⟨t,e⟩:=(show ∃t,u=UT x t from r);cases e;rfl|byt b=>obtain⟨t,e⟩:=(show ∃t,u=Value.bytes b t from r);cases e;rfl|flt b=>obtain⟨t,e⟩:=(show ∃t,u=X8 b t from r);cases e;rfl|ref a=>cases (show u=Tu a from r);rfl|ty n=>cases (show u=Value.type n from r);rfl
section
variable {P:Tr}{w:TU}{H H':Hp}{h h':S1}{a C dx:SA}{fs fs':List (SH×V)}
def qf(hok:gY P w H h)(e:H a=some (.ins C dx fs)):∃mA,Df h a dx C mA/\(∀f,tP (fs.lookup f) (mA f))/\U6 mA (fs.map (·.1))/\fs.length<=1000/\H dx=some (.own a):=by
 obtain⟨d,z,ne,ob,mA,n,r,q⟩:=(show bY P w H h a (.ins C dx fs) from hok a _ e)
 exact⟨mA,⟨ob,n,ne⟩,r,q,z,d⟩
end
structure KD (K:SE) (C:SA):Prop where
 pg:WE K C Str.empty=true
 hd:Vg K C=true
 po:Xc K C=true
 sa:Uw K (.ref C) "__setattr__"=some (some (.builtin "object.__setattr__"))
def KD.get{K:SE}{C:SA}(c:KD K C)(f:SH):WE K C f=true:=c.pg
def dZ(K:SE)(C:SA)(f:SH):Prop:=Uw K (.ref C) f=some none
def dZ.taker{K:SE}{C:SA}{f:SH}(n:dZ K C f):W.takerIn K C f=some none:=by
 unfold W.takerIn;rw[show Uw K (.ref C) f=some none from n];rfl
section
variable {X:Cx}{π:List (SA×Obj)}{σ:St}{H:Hp}{s:SI}{a C dx:SA}{fs:List (SH×V)}{f:SH}{v:V}{A:TK}{E:Sy->SI->Prop}
def zi{b:Bool}{Q:Sy->SI->Prop}(I:Inv X π σ H s)(e:H a=some (.ins C dx fs))(c:KD X.K C)(n:dZ X.K C f)(l:fs.lookup f=some v)
  (h:∀u s',Inv X π σ H s'->bW v u->Q u s'):Td (Tb X.prog X.w) A (XH (.ref a) f b) Q E s:=by
 obtain⟨mA,O,r,_,_,_⟩:=qf I.hok e;obtain⟨u,hu,ru⟩:=tP.some_of (v:=v) (o:=mA f) (by rw[←l];exact r f);exact Jo I.kIn O (c.get f) c.hd n hu (ux ru) (h u _ (I.tok _) ru)
def yA{y:V}{u:Sy}{Q:Unit->SI->Prop}(I:Inv X π σ H s)(e:H a=some (.ins C dx fs))(c:KD X.K C)(n:dZ X.K C f)(hl:fs.length<1000)(ry:bW y u)
  (h:∀s',Inv X π σ (upd H a (.ins C dx (eP f y fs))) s'->Q () s'):Td (Tb X.prog X.w) A (setAttr (.ref a) f u) Q E s:=by
 obtain⟨mA,O,r,wi,_,ho⟩:=qf I.hok e;have hz:(fs.map (·.1)).length<=sizeLine:=by rw[SD,sizeLine_eq];omega
 refine HU I.kIn O c.sa c.po n.taker c.hd wi hz λh' O' sb=>h _ ?_;have hd:∃o,h'.get? dx=some o:=let ⟨o,_,_,e',_⟩:=O'.ns;⟨o,e'⟩;refine I.write (x:=a) (e:=dx) (by rw[e];exact Vi) (.inr ho) (λb q hb z=>(sb.2 b hb).trans z) hd ?_;refine⟨by rw[ax O.ne];exact ho,?_,O.ne,O'.obj,_,O'.ns,λg=>?_,λg hg=>?_⟩
 .have:=oU f y fs;omega
 .show tP ((eP f y fs).lookup g) (if g=f then some u else mA g)
  rw[kW]
  by_cases q:g=f
  .rw[if_pos q,if_pos q];exact ry
  .rw[if_neg q,if_neg q];exact r g
 .by_cases q:g=f
  .rw[q];exact(jN f y fs).1
  .refine(jN f y fs).2 g (wi g λz=>hg ?_)
   show(if g=f then some u else mA g)=none;rw[if_neg q];exact z
def GX(I:Inv X π σ H s):Inv X π σ (upd (upd H s.heap.objs.size (.own (s.heap.objs.size+1))) (s.heap.objs.size+1) (.ins C s.heap.objs.size []))
  { s with heap:=(s.heap.push UK).push (V3 C s.heap.objs.size) }:=by
 have e1:(s.heap.push UK).get? s.heap.objs.size=some UK:=TH s.heap rfl;have e2:((s.heap.push UK).push (V3 C s.heap.objs.size)).get? (s.heap.objs.size+1)=some (V3 C s.heap.objs.size):=by
  have:=TH (s.heap.push UK) (o:=V3 C s.heap.objs.size) rfl
  rwa [Wz]at this
 have e3:(s.heap.push UK).Ns s.heap.objs.size (λ_=>none):=⟨UK,#[],_,e1,rfl,(λe he=>absurd he (by simp)),λ_=>rfl⟩
 have I1:=I.laid (a:=s.heap.objs.size) (o:=.own (s.heap.objs.size+1)) (h':=s.heap.push UK) (t':=s.toks) (λb u q=>SK _ q) (Tf _) ⟨_,e1⟩;refine I1.laid (a:=s.heap.objs.size+1) (o:=.ins C s.heap.objs.size []) (t':=s.toks) (λb u q=>SK _ q) (XT (Wz _ _)) ?_;have ne:s.heap.objs.size≠s.heap.objs.size+1:=Ts (U0 _);refine⟨by rw[ax ne,az],We _,ne,e2,λ_=>none,(Heap.Ns1.of_empty e3).at λo q=>SK _ q,λ_=>Vi,λy hy=>absurd rfl hy⟩
def Bl{prog:Tr}{w:TU}{env:Env}{e:Tn}{f:SH}{pos:Pos}{s:SI}{Q:Sy->SI->Prop}(hb:Ub e f env (eval e env)=eval e env)
  (h:Td (Tb prog w) A (eval e env) (λo sg=>Td (Tb prog w) A (XH o f true) Q E sg) E s):Td (Tb prog w) A (eval (.Attribute e f pos) env) Q E s :=
 Attribute_any_ h (by rw[arm_eval_Attribute,hb])
end
def QZ(K:SE)(ta:TE)(f:SH):TE:=λσ H Q=>ta σ H λx H1=>∃a C dx fs v,x=.ref a/\H1 a=some (.ins C dx fs)/\KD K C/\dZ K C f/\fs.lookup f=some v/\Q v H1
def Q6(K:SE)(ta tv:TE)(f:SH):TS:=λD σ H=>tv σ H λy H1=>ta σ H1 λx H2=>∃a C dx fs,x=.ref a/\H2 a=some (.ins C dx fs)/\KD K C/\dZ K C f/\fs.length<1000 /\
 D.nx σ (upd H2 a (.ins C dx (eP f y fs)))
section
variable {X:Cx}{o e value:Tn}{f:SH}{pos pos' tpos:Pos}{ta tv:TE}
def ET(he:PE X e ta)(hb:Ub e f X.env (eval e X.env)=eval e X.env):PE X (.Attribute e f pos) (QZ X.K ta f):=by
 intro π s σ H Q I h;refine Bl hb (cX (he π s σ H _ I h) λu s1 z9=>?_);obtain⟨x,H1,I1,rx,a,C,dx,fs,v,ex,ea,c,n,l,q⟩:=z9;subst ex;obtain rfl:u=Tu a:=rx;exact zi I1 ea c n l λu' s2 I2 ru=>⟨v,H1,I2,ru,q⟩
def yM(ha:PE X o ta)(hv:PE X value tv)(hs:T1 value (some (.Attribute o f pos')) pos.line X.env=pure false):PS X (.Assign [.Attribute o f pos'] value pos) (Q6 X.K ta tv f):=by
 intro π s σ H D I h;refine plainObj_wpAny_Assign_Attribute (cX (hv π s σ H _ I h) λu s1 ⟨y,H1,I1,ry,q⟩=>cX (ha π s1 σ H1 _ I1 q) λov s2 z9=>?_) hs;obtain⟨x,H2,I2,rx,a,C,dx,fs,ex,ea,c,n,l,q2⟩:=z9;subst ex;obtain rfl:ov=Tu a:=rx;exact yA I2 ea c n l ry λs3 I3=>⟨σ,_,I3,q2⟩
end
section
variable {X:Cx}{π:List (SA×Obj)}{σ:St}{H:Hp}{s:SI}{A:TK}{E:Sy->SI->Prop}{Q:Sy->SI->Prop}{c:Sy}{b:Bool}
inductive pK (K:SE) (H:Hp):V->Sy->Prop where
 |non:pK K H .non (.type "NoneType")
 |bl (x:Bool):pK K H (.bl x) (.type "bool")
 |int (i:Int):pK K H (.int i) (.type "int")
 |str (x:SH):pK K H (.str x) (.type "str")
 |flt (x:UInt64):pK K H (.flt x) (.type "float")
 |lst {a:SA}{xs:al}(e:H a=some (.lst xs)):pK K H (.ref a) (.type "list")
 |frz {a:SA}{o:Obj}{xs:al}(e:H a=some (.frz o (.lst xs))):pK K H (.ref a) (.type "list")
 |tup {a:SA}{xs:al}(e:H a=some (.tup xs)):pK K H (.ref a) (.type "tuple")
 |dK {a:SA}{kvs:List (wo×V)}(e:H a=some (.dK kvs)):pK K H (.ref a) (.type "dict")
 |dT {a:SA}{kvs:List (List wo×V)}(e:H a=some (.dT kvs)):pK K H (.ref a) (.type "dict")
 |ins {a C dx:SA}{fs:List (SH×V)}(e:H a=some (.ins C dx fs)) (cl:KD K C) (ha:Uw K (.ref C) "__class__"=some (some (.builtin "object.__class__")))
   (hn:Wb K (.builtin "object.__class__") "__get__"=some (some (.builtin "getset_descriptor.__get__"))) (htk:XA K (.builtin "object.__class__")=some true)
   (hm:XI K C (.type "object")=some true):pK K H (.ref a) (.ref C)
def jO{x:V}{u t:Sy}(I:Inv X π σ H s)(rx:bW x u)(ty:pK X.K H x t)(e:X7 X.K t c=some b)(h:∀tk,Q (.bool b) { s with toks:=tk }) :
  Td (Tb X.prog X.w) A (call (.builtin "isinstance") [u,c]) Q E s:=by
 cases ty with
 |non=>cases (show u=Uz from rx);exact UB W.kitx_none I.kIn Vi e (λz=>nomatch z) h|bl y=>cases (show u=UA y from rx);exact UB W.kitx_bool I.kIn Vi e (λz=>nomatch z) h|int i=>obtain⟨t,q⟩:=(show ∃t,u=UU i t from rx);cases q;exact UB W.kitx_int I.kIn Vi e (λz=>nomatch z) h|str y=>obtain⟨t,q⟩:=(show ∃t,u=UT y t from rx);cases q;exact UB W.kitx_str I.kIn Vi e (λz=>nomatch z) h|flt y=>obtain⟨t,q⟩:=(show ∃t,u=X8 y t from rx);cases q;exact UB W.kitx_float I.kIn Vi e (λz=>nomatch z) h
 |@lst a xs ea=>
  cases (show u=Tu a from rx);obtain⟨_,_,n,_,h1⟩:=(show bY X.prog X.w H s.heap a (.lst xs) from I.hok a _ ea)
  exact UB X6 I.kIn ⟨_,h1,rfl⟩ e (λz=>nomatch z) h
 |@frz a ob xs ea=>
  cases (show u=Tu a from rx);obtain⟨_,_,_,n,_,h1⟩:=(show bY X.prog X.w H s.heap a (.frz ob (.lst xs)) from I.hok a _ ea)
  exact UB X6 I.kIn ⟨_,h1,rfl⟩ e (λz=>nomatch z) h
 |@tup a xs ea=>
  cases (show u=Tu a from rx);obtain⟨_,_,_,p⟩:=(show bY X.prog X.w H s.heap a (.tup xs) from I.hok a _ ea)
  obtain⟨o,h1,h2,_⟩:=p;exact UB W.kitx_tuple I.kIn ⟨o,h1,h2⟩ e (λz=>nomatch z) h
 |@dK a kvs ea=>
  cases (show u=Tu a from rx);obtain⟨_,_,vs,_,p⟩:=(show bY X.prog X.w H s.heap a (.dK kvs) from I.hok a _ ea)
  obtain⟨o,es,ep,h1,h2,_⟩:=p;exact UB Xd I.kIn ⟨o,h1,h2.1⟩ e (λz=>nomatch z) h
 |@dT a kvs ea=>
  cases (show u=Tu a from rx);obtain⟨_,_,xs,_,o,es,ep,h1,h2,_⟩:=(show bY X.prog X.w H s.heap a (.dT kvs) from I.hok a _ ea)
  exact UB Xd I.kIn ⟨o,h1,h2.1⟩ e (λz=>nomatch z) h
 |@ins a C dx fs ea cl ha hn htk hm=>
  cases (show u=Tu a from rx);obtain⟨mA,O,_⟩:=qf I.hok ea;obtain⟨od,J,_⟩:=O.look;exact UB (W.kitx_own (cl.get _) cl.hd ha hn htk hm) I.kIn J e (λz=>nomatch z) h
end
structure dw (k:Nat) (A:TK):Prop where
 hd:A.handled=none
 dp:A.depth+3*k+5<recursionLimit
 un:A.units+16*k+200<Wu
 gd:A.guards=some []
def dw.mono{j k:Nat}{A:TK}(r:dw k A)(h:j<=k):dw j A:=⟨r.hd,by have:=r.dp;omega,by have:=r.un;omega,r.gd⟩
def dw.deeper{k:Nat}{A:TK}(r:dw (k+1) A)(env:Env):dw k (A.deeper env) :=
 ⟨r.hd,by have:=r.dp;show A.depth+1+3*k+5<_;omega,by have:=r.un;show A.units+3+16*k+200<_;omega,r.gd⟩
def yZ{A:TK}{C:SA}{us:List Sy}{kw:List (SH×Sy)}:(A.under (.builtin "type.__call__" ⟨.ref C::us,kw⟩)).depth=A.depth+1:=by
 first|rfl|simp[W7,Code.weight,Code.isCreation,Code.isGuard,Code.isCaller,Code.frames,XY,guardIds]
def yY{A:TK}{C:SA}{us:List Sy}{kw:List (SH×Sy)}:(A.under (.builtin "type.__call__" ⟨.ref C::us,kw⟩)).units=A.units+1:=by
 first|rfl|simp[W7,Code.cUnits,Code.frames,XY]
def dw.make{k:Nat}{A:TK}(r:dw (k+1) A)(C:SA)(us:List Sy)(kw:List (SH×Sy)):dw k (A.under (.builtin "type.__call__" ⟨.ref C::us,kw⟩)) :=
 ⟨r.hd,by have:=r.dp;rw[yZ];omega,by have:=r.un;rw[yY];omega,by have:=r.gd;simp[W7,Code.guards,Code.isGuard,guardIds,pushGuards,this]⟩
def dw.depth{k:Nat}{A:TK}(r:dw k A):A.depth<recursionLimit:=by have:=r.dp;omega
def dw.units{k:Nat}{A:TK}(r:dw k A):A.units+64<Wu:=by have:=r.un;omega
def OD:TA:=λ_ H Q=>Q [] H
def OI(ta:TE)(tr:TA):TA:=λσ H Q=>ta σ H λx H1=>tr σ H1 λxs H2=>Q (x::xs) H2
section
variable {X:Cx}{e:Tn}{es:List Tn}{te:TE}{t:TA}{pos:Pos}
def e7:PA X [] OD:=λ_ _ _ _ H Q I h=>Calls.spliced_nil ⟨[],H,I,.nil,h⟩
def cG(ha:PE X e te)(hr:PA X es t)(hs:SJ (e::es) X.env=(false,eval e X.env)::SJ es X.env:=by rfl):PA X (e::es) (OI te t):=by
 intro pos π s σ H Q I h;rw[hs];show Td _ _ (spliced ((false,eval e X.env)::TZ pos (SJ es X.env))) _ _ s;refine Calls.spliced_cons (cX (ha π s σ H _ I h) λu s1 ⟨x,H1,I1,r1,q1⟩=>?_);exact cX (hr pos π s1 σ H1 _ I1 q1) λus s2 ⟨xs,H2,I2,r2,q2⟩=>⟨x::xs,H2,I2,.cons r1 r2,q2⟩
def QO(t:TA):TE:=λσ H Q=>t σ H λxs H1=>xs.length<=sizeLine/\∀p,H1 p=none->Q (.ref p) (upd H1 p (.tup xs))
def QW(t:TA):TE:=λσ H Q=>t σ H λxs H1=>xs.length<=sizeLine/\∀p,H1 p=none->Q (.ref p) (upd H1 p (.lst xs))
def EL{x1}(h:PA X es t):PE X (.Tuple es x1 pos) (QO t):=by
 intro π s σ H Q I hq;refine wpAny_Tuple_spliced (cX (h pos π s σ H _ I hq) λus s1 ⟨xs,H1,I1,r,z,q⟩=>⟨by rw[←r.length];exact z,?_⟩);have hf:H1 s1.heap.objs.size=none:=I1.hok.fresh (Tf _);refine⟨.ref s1.heap.objs.size,upd H1 s1.heap.objs.size (.tup xs),I1.laid (t':=s1.toks) (λb u e=>SK _ e) (Tf _) ?_,rfl,q _ hf⟩;exact⟨z,us,r,⟨_,TH _ rfl,rfl,_,rfl⟩⟩
def qU(h:PA X es t):PE X (.List es pos) (QW t):=by
 intro π s σ H Q I hq;refine wpAny_List_spliced (cX (h pos π s σ H _ I hq) λus s1 ⟨xs,H1,I1,r,z,q⟩=>⟨by rw[←r.length];exact z,?_⟩);have hf:H1 s1.heap.objs.size=none:=I1.hok.fresh (Tf _);refine⟨.ref s1.heap.objs.size,upd H1 s1.heap.objs.size (.lst xs),I1.laid (t':=s1.toks) (λb u e=>SK _ e) (Tf _) ?_,rfl,q _ hf⟩;exact⟨z,us,0,r,TH _ rfl⟩
end
abbrev Sp:=al->Hp->VK->XK->Prop
abbrev tT:=List Env->Hp->SI->XK->Sy->SI->Prop
structure zO (P:Tr) (w:TU) (K:SE) (mg:SH->Option Sy) (base:S1) (A:TK) (outer:List Env) (s:SI) (H:Hp):Prop where
 frames:A.frames=some outer
 mod:Mod K mg base
 bs:∀b o,base.get? b=some o->s.heap.get? b=some o/\H b=none
 bsz:base.objs.size<=s.heap.objs.size
 funs:s.heap.FunFrames base outer
 frf:∀b∈iw outer,H b=none
 hok:gY P w H s.heap
 bare:AllBare s.gens
def CE(outer:List Env)(P:Tr)(w:TU)(H:Hp)(s:SI)(Q:VK)(u:Sy)(s':SI):Prop :=
 ∃v H',s'.os=s.os/\AllBare s'.gens/\Un (iw outer) [] H H' s.heap s'.heap/\gY P w H' s'.heap/\bW v u/\Q v H'
def CR(CX:tT)(outer:List Env)(P:Tr)(w:TU)(H:Hp)(s:SI)(Q:VK)(E:XK)(r:WH)(s':SI):Prop :=
 match r with
 |.ok (.ret u)=>CE outer P w H s Q u s'
 |.ok _=>False
 |.error e=>CX outer H s E e s'
structure FnOk (P:Tr) (w:TU) (K:SE) (mg:SH->Option Sy) (base:S1) (CX:tT) (k:Nat) (f:SA) (fd:TQ) (ps:ci) (sp:Sp):Prop where
 len:∀vs H Q E,sp vs H Q E->vs.length=ps.length
 run:∀(A:TK) (outer:List Env) (s:SI) (H:Hp) (args:Args) (us:List Sy) (vs:al) (Q:VK) (E:XK),dw k A->zO P w K mg base A outer s H->BindsTo s fd args (ps.zip us)->bx vs us->sp vs H Q E ->
  Vt (Tb P w) A (.call (.ref f) args) (CR CX outer P w H s Q E) s
def FnOk.mono{P:Tr}{w:TU}{K:SE}{mg:SH->Option Sy}{base:S1}{CX:tT}{j k:Nat}{f:SA}{fd:TQ}{ps:ci}{sp:Sp}(F:FnOk P w K mg base CX j f fd ps sp)(h:j<=k) :
  FnOk P w K mg base CX k f fd ps sp:=⟨F.len,λA outer s H args us vs Q E hr=>F.run A outer s H args us vs Q E (hr.mono h)⟩
def zO.make{P:Tr}{w:TU}{K:SE}{mg:SH->Option Sy}{base:S1}{A:TK}{outer:List Env}{s:SI}{H:Hp}(e:zO P w K mg base A outer s H)(C:SA)(us:List Sy)(kw:List (SH×Sy)) :
  zO P w K mg base (A.under (.builtin "type.__call__" ⟨.ref C::us,kw⟩)) outer s H:=⟨by first|exact e.frames|(simpa[W7,Code.envs,XY,pushEnvs] using e.frames),e.mod,e.bs,e.bsz,e.funs,e.frf,e.hok,e.bare⟩
section
variable {X:Cx}{π:List (SA×Obj)}{σ:St}{H:Hp}{s s':SI}
def Inv.env0(I:Inv X π σ H s):zO X.prog X.w X.K X.mg X.base X.A X.stack s H :=
 ⟨I.ok.frames,I.ok.mod,I.bs,SW I.ok.bsz I.sz,I.stack,I.stkFree,I.hok,I.bare⟩
def Inv.after{Q:VK}{u:Sy}(I:Inv X π σ H s)(h:CE X.stack X.prog X.w H s Q u s'):EP X π σ Q u s':=by
 obtain⟨v,H',os,bare,un,hok,r,q⟩:=h;obtain⟨hh,g,d,t,os'⟩:=s';obtain rfl:os'=s.os:=os;exact⟨v,H',I.call (h':=hh) (g':=g) (d':=d) (t':=t) (ch:=[]) un hok bare (λb z=>absurd z (by simp)),r,q⟩
end
def OJ(sp:Sp)(dvs:al)(E:XK)(t:TA):TE:=λσ H Q=>t σ H λvs H1=>sp (vs++dvs) H1 Q E
def OF(C:SA)(sp:Sp)(dvs:al)(E:XK)(t:TA):TE:=λσ H Q=>t σ H λvs H1=>∀x dx,H1 x=none->H1 dx=none->dx≠x ->
 sp (.ref x::(vs++dvs)) (upd (upd H1 dx (.own x)) x (.ins C dx [])) (λv H2=>v=.non/\Q (.ref x) H2) E
def gb(K:SE)(fd:TQ)(ps:ci)(ds:List Sy):Prop :=
 ∀(s:SI) (us:List Sy),K.In s.heap->(us++ds).length=ps.length->BindsTo s fd ⟨us,[]⟩ (ps.zip (us++ds))
def gb.all{K:SE}{fd:TQ}{ps:ci}(h:∀us:List Sy,us.length=ps.length->bindArgs fd ⟨us,[]⟩=pure (ps.zip us)):gb K fd ps []:=λs us _ hl=>by
 rw[Ut]at hl ⊢;exact .of_eq (h us hl)
def ic(CX:tT)(X:Cx)(E:XK):Prop:=∀(π:List (SA×Obj)) (σ:St) (H:Hp) (s:SI) (e:Sy) (s':SI),Inv X π σ H s->CX X.stack H s E e s'->X.xe e s'
section
variable {X:Cx}{CX:tT}{k:Nat}{f C:SA}{fd:TQ}{ps:ci}{sp:Sp}{dvs:al}{ds:List Sy}{E:XK}{x m:SH}{p pos apos:Pos}{e o:Tn}{es:List Tn}{ta:TE}{t:TA}
def L7{π:List (SA×Obj)}{σ:St}{H:Hp}{s:SI}{Q:VK}{us:List Sy}{vs:al}(F:FnOk X.prog X.w X.K X.mg X.base CX k f fd ps sp)(hr:dw k X.A)(hb:gb X.K fd ps ds)(hd:bx dvs ds)(hx:ic CX X E)
  (I:Inv X π σ H s)(r:bx vs us)(h:sp (vs++dvs) H Q E):Td (Tb X.prog X.w) X.A (call (.ref f) us) (EP X π σ Q) X.xe s:=by
 have r2:bx (vs++dvs) (us++ds):=r.append hd;have hl:(us++ds).length=ps.length:=by rw[←r2.length];exact F.len _ _ _ _ h
 refine wpAny_call (codeAny_mono (F.run X.A X.stack s H ⟨us,[]⟩ (us++ds) (vs++dvs) Q E hr I.env0 (hb s us I.kIn hl) r2 h) λr s' hq=>?_);cases r with
 |error e=>exact hx π σ H s e s' I hq
 |ok fl=>
  cases fl with|ret u=>exact I.after hq|next|brk|cont=>exact T8 hq
def An(F:FnOk X.prog X.w X.K X.mg X.base CX k f fd ps sp)(hr:dw k X.A)(hg:Gl X x)(hm:X.mg x=some (.ref f))(hk:Vv X.K (.ref f)=true)(hb:gb X.K fd ps ds)(hd:bx dvs ds)(hx:ic CX X E)
  (ha:PA X (e::es) t)(hdb:(x==("__debug__" : SH))=false:=by decide)(he:SJ (e::es) X.env=(false,eval e X.env)::SJ es X.env:=by rfl)(hpl:(TZ pos (SJ es X.env)).any (·.1)=false:=by rfl) :
  PE X (.Call (.Name x p) (e::es) [] pos) (OJ sp dvs E t):=by
 intro π s σ H Q I h;refine wpAny_Call_Name_kw (ij I hg hm ?_ hdb);refine W.callWith_K (h₀:=X.base) I.ok.mod.kin hk (cX (ha pos π s σ H _ I h) λus s1 z9=>?_) he hpl;obtain⟨vs,H1,I1,r,q⟩:=z9;refine⟨I1.kIn,?_⟩;exact L7 F hr hb hd hx I1 r q
structure Mk (K:SE) (C f:SA):Prop where
 makes:W.makesIn K C=true
 init:Uw K (.ref C) "__init__"=some (some (.ref f))
 fn:W.isFn K (.ref f)=true
 kp:Vv K (.ref C)=true
def Eg{π:List (SA×Obj)}{σ:St}{H:Hp}{s:SI}{Q:VK}{us:List Sy}{vs:al}(M:Mk X.K C f)(F:FnOk X.prog X.w X.K X.mg X.base CX k f fd ps sp)(hr:dw (k+1) X.A)(hb:gb X.K fd ps ds)(hd:bx dvs ds)
  (hx:ic CX X E)(I:Inv X π σ H s)(r:bx vs us)
  (h:∀x dx,H x=none->H dx=none->dx≠x->sp (.ref x::(vs++dvs)) (upd (upd H dx (.own x)) x (.ins C dx [])) (λv H2=>v=.non/\Q (.ref x) H2) E) :
  Td (Tb X.prog X.w) X.A (call (.ref C) us) (EP X π σ Q) X.xe s:=by
 have hq:=h (s.heap.objs.size+1) s.heap.objs.size (I.hok.fresh (Nat.le_succ _)) (I.hok.fresh (Tf _)) (Ts (U0 _));have I2:=GX (C:=C) I;have r2:bx (V.ref (s.heap.objs.size+1)::(vs++dvs)) (Tu (s.heap.objs.size+1)::(us++ds)):=.cons rfl (r.append hd);have hl:(Tu (s.heap.objs.size+1)::us++ds).length=ps.length:=by
  have e:=r2.length;rw[F.len _ _ _ _ hq]at e;exact e.symm
 refine wpAny_call (E9 (f:=f) I.kIn M.makes M.init (beq_iff_eq.mp M.fn) (codeAny_mono (F.run _ X.stack _ _ ⟨Tu (s.heap.objs.size+1)::us,[]⟩ (Tu (s.heap.objs.size+1)::(us++ds)) _ _ E (hr.make C us [])
  (I2.env0.make C us []) (hb _ (Tu (s.heap.objs.size+1)::us) I2.kIn hl) r2 hq) λr s' hq'=>?_))
 cases r with
 |error e=>exact hx π σ _ _ e s' I2 hq'
 |ok fl=>
  cases fl with
  |ret u=>
   obtain⟨v,H',I3,rv,ev,q3⟩:=I2.after hq';subst ev;exact⟨rv,⟨V.ref (s.heap.objs.size+1),H',I3,rfl,q3⟩⟩
  |next|brk|cont=>exact T8 hq'
def ER(M:Mk X.K C f)(F:FnOk X.prog X.w X.K X.mg X.base CX k f fd ps sp)(hr:dw (k+1) X.A)(hg:Gl X x)(hm:X.mg x=some (.ref C))(hb:gb X.K fd ps ds)(hd:bx dvs ds)(hx:ic CX X E)
  (hdb:(x==("__debug__" : SH))=false:=by decide):PE X (.Call (.Name x p) [] [] pos) (OF C sp dvs E OD):=by
 intro π s σ H Q I h;refine wpAny_Call_Name_kw (ij I hg hm ?_ hdb);exact W.callWith_K0 I.kIn M.kp (Eg (us:=[]) M F hr hb hd hx I .nil h)
end
structure eX (N P:ci) (sc:VN):Prop where
 kind:sc.kind=.function
 co:sc.isCoroutine=false
 gen:sc.isGenerator=false
 nd:N.Nodup
 pre:N.take P.length=P
 par:∀x∈P,sc.names.lookup x=some .local ∨ sc.names.lookup x=some .cell
 nofree:∀y∈sc.names,y.2≠.free
theorem uJ{kindOf:SH->Option UI}{x:SH}:∀{binds:List (SH×Sy)}{m:SH->Option Sy},(∀v,(x,v)∉binds)->bindL kindOf binds m x=m x
 |[],_,_=>rfl
 |(n,v)::r,m,h=>by
  unfold bindL;rw[uJ λw hw=>h w (SM _ hw)];split
  .have:x≠n:=by rintro rfl;exact h v SQ
   simp[this]
  .rfl
theorem uL{kindOf:SH->Option UI}{x:SH}:∀{binds:List (SH×Sy)}{m:SH->Option Sy},(∀v,(x,v)∉binds)->bindC kindOf binds m x=m x
 |[],_,_=>rfl
 |(n,v)::r,m,h=>by
  unfold bindC;rw[uL λw hw=>h w (SM _ hw)];split
  .rfl
  .have:x≠n:=by rintro rfl;exact h v SQ
   simp[this]
theorem uK{kindOf:SH->Option UI}{x:SH}{v:Sy}:∀{P:ci}{vs:List Sy}{i:Nat}{m:SH->Option Sy},P.Nodup->P[i]?=some x->vs[i]?=some v->kindOf x=some .local ->
  bindL kindOf (P.zip vs) m x=some v
 |[],_,_,_,_,h,_,_=>by simp at h
 |_::_,[],_,_,_,_,h,_=>by simp at h
 |p::P,w::vs,0,m,nd,h1,h2,hk=>by
  simp at h1 h2;subst h1;subst h2;show bindL kindOf ((p,w)::P.zip vs) m p=_;unfold bindL;rw[uJ λv hv=>(U5.mp nd).1 (Xh hv).1,if_pos hk];simp
 |p::P,w::vs,i+1,m,nd,h1,h2,hk=>by
  show bindL kindOf ((p,w)::P.zip vs) m x=_;unfold bindL;exact uK (i:=i) (U5.mp nd).2 (by simpa using h1) (by simpa using h2) hk
theorem uM{kindOf:SH->Option UI}{x:SH}{v:Sy}:∀{P:ci}{vs:List Sy}{i:Nat}{m:SH->Option Sy},P.Nodup->P[i]?=some x->vs[i]?=some v->kindOf x≠some .local ->
  bindC kindOf (P.zip vs) m x=some v
 |[],_,_,_,_,h,_,_=>by simp at h
 |_::_,[],_,_,_,_,h,_=>by simp at h
 |p::P,w::vs,0,m,nd,h1,h2,hk=>by
  simp at h1 h2;subst h1;subst h2;show bindC kindOf ((p,w)::P.zip vs) m p=_;unfold bindC;rw[uL λv hv=>(U5.mp nd).1 (Xh hv).1,if_neg hk];simp
 |p::P,w::vs,i+1,m,nd,h1,h2,hk=>by
  show bindC kindOf ((p,w)::P.zip vs) m x=_;unfold bindC;exact uM (i:=i) (U5.mp nd).2 (by simpa using h1) (by simpa using h2) hk
def start(N:ci)(vs:al):St:=vs.map some++S4 (N.length-vs.length) none
noncomputable def dN(CX:tT) (P:Tr) (w:TU) (K:SE) (mg:SH->Option Sy) (base:S1) (N:ci) (qual:SH) (scope:VN) (f:SA) (cd:Sy) (A:TK) (outer:List Env) (s:SI) (H:Hp) (E:XK):Cx where
 prog:=P
 w:=w
 K:=K
 mg:=mg
 base:=base
 A:=A.deeper (envOfC qual scope s.heap.objs.size f cd)
 N:=N
 sf:=s
 Ha:=H
 env:=envOfC qual scope s.heap.objs.size f cd
 outer:=outer
 stack:=envOfC qual scope s.heap.objs.size f cd::outer
 ex:=[]
 calm:=true
 fn:=λ_=>true
 pn:=[]
 xe:=λe s'=>Td (Tb P w) (A.deeper (envOfC qual scope s.heap.objs.size f cd)) (leaving (envOfC qual scope s.heap.objs.size f cd) e) (λ_ s''=>CX outer H s E e s'') (λe' s''=>CX outer H s E e' s'') s'
def yb{sc:VN}{n:Nat}{x:SH}(h:sc.names.lookup x=some .cell):∃c,(cellsFrom n sc.names []).lookup x=some c:=by
 have q:=W.cellsFrom_some sc.names n [] (.inl h);exact Wk.mp q
def CH{CX:tT}{P:Tr}{w:TU}{K:SE}{mg:SH->Option Sy}{base:S1}{N ps:ci}{qual:SH}{scope:VN}{f:SA}{cd:Sy}{A:TK}{outer:List Env}{s s1:SI}{H:Hp}{E:XK}{us:List Sy}{vs:al}
  (S:eX N ps scope)(hd:A.handled=none)(e0:zO P w K mg base A outer s H)(hl:vs.length=ps.length)(r:bx vs us)
  (x:InCallC s s.heap.objs.size (bindL (envOfC qual scope s.heap.objs.size f cd).kindOf (ps.zip us) λ_=>none) (cellsFrom (s.heap.objs.size+1) scope.names []) (bindC (envOfC qual scope s.heap.objs.size f cd).kindOf (ps.zip us) λ_=>none) s1) :
  Inv (dN CX P w K mg base N qual scope f cd A outer s H E) [] (start N vs) H s1:=by
 have hpl:ps.length<=N.length:=by have:=congrArg VY S.pre;rw[UD]at this;omega
 obtain⟨h1,tk,rfl,hk⟩:=x.done;have noA:∀b:SA,b∉(dN CX P w K mg base N qual scope f cd A outer s H E).ex:=λb z=>absurd (show b∈([]:List SA) from z) (by simp);refine⟨⟨e0.mod,S.kind,rfl,rfl,Tf _,λy z c h1 h2=>?_,λy hy=>?_,λy c _ h=>?_,λ_=>hd,Around.frames_deeper e0.frames,.inr ⟨rfl,rfl⟩,λb z=>absurd z (noA b),e0.bs,e0.bsz,λb _ _=>noA b,λb z=>absurd z (noA b),e0.funs,e0.frf⟩,
  rfl,e0.bare,Un.kept hk,⟨_,x.toInCall.ns,λi y v h1 h2 h3=>?_⟩,λy c h=>⟨_,x.cell y c h⟩,e0.hok.fresh (Tf _),λy c h=>?_,λp hp=>absurd (show p∈([]:List (SA×Obj)) from hp) (by simp),e0.hok.kept hk,?_⟩
 .exact name_of_addr x.apart (UW h1) (UW h2)
 .have hy:scope.names.lookup y=some .cell∨scope.names.lookup y=some .free:=hy
  rcases hy with hy|hy
  .exact yb hy
  .exact absurd rfl (S.nofree _ (UW hy))
 .exact Ua (x.above y c (UW h))
 .have hi:i<vs.length:=by
   unfold start at h2
   by_cases hi:i<vs.length
   .exact hi
   .rw[To (by simpa using hi)]at h2
    rw[Tz]at h2;split at h2<;>cases h2
  have ha:vs[i]?=some v:=by
   unfold start at h2;rw[Tg (by simpa using hi),Ta]at h2;cases e:vs[i]? with|none=>rw[e]at h2;cases h2|some a=>rw[e]at h2;cases h2;rfl
  obtain⟨u,hu,rv⟩:=r.get ha;have hp:ps[i]?=some y:=by
   rw[←S.pre,UR (by omega)];exact h1
  have ndP:ps.Nodup:=by rw[←S.pre];exact S.nd.sublist (List.take_sublist _ _)
  refine⟨u,rv,?_⟩;rcases S.par y (S7 hp) with k|k
  .exact .inl ⟨k,uK ndP hp hu k⟩
  .obtain⟨c,e⟩:=yb (n:=s.heap.objs.size+1) k
   refine .inr ⟨.inl k,c,e,?_⟩;have q:=x.cell y c e;rw[uM ndP hp hu (by show scope.names.lookup y≠_;rw[k];decide)]at q;exact q
 .exact e0.hok.fresh (Ua (x.above y c (UW h)))
 .unfold start
  show _=N.length;rw[Tc,SD,Ug];omega
def Le{CX:tT}{P:Tr}{w:TU}{K:SE}{mg:SH->Option Sy}{base:S1}{k:Nat}{f:SA}{name qual:SH}{params:Arguments}{body:List Ud}{scope:VN}{dV kV doc pm cdv ct oc:Sy}{an od:Option SA}
  {osl:Array (Option Sy)}{N ps:ci}{sp:Sp}(lk:K.lookup f=some ⟨oc,od,.func (VG name qual params body scope dV kV doc pm an cdv ct),osl⟩) (hcd:Xl K cdv qual=true) (S:eX N ps scope)
  (len:∀vs H Q E,sp vs H Q E->vs.length=ps.length)
  (hbody:∀(A:TK) (outer:List Env) (s:SI) (H:Hp) (vs:al) (Q:VK) (E:XK),dw k (A.deeper (envOfC qual scope s.heap.objs.size f cdv))->sp vs H Q E ->
   ∃t,ph (dN CX P w K mg base N qual scope f cdv A outer s H E) body t/\t { nx:=λ_ H'=>Q .non H',rt:=Q } (start N vs) H) :
  FnOk P w K mg base CX (k+1) f (VG name qual params body scope dV kV doc pm an cdv ct) ps sp:=by
 refine⟨len,λA outer s H args us vs Q E hr e0 hb r hsp=>?_⟩;have hl:=len _ _ _ _ hsp;have KX:K.In s.heap:=e0.mod.kin.keeps λb o e=>(e0.bs b o e).1;have lim:s.heap.NoLimit:=e0.mod.nolimit.keeps λb o e=>(e0.bs b o e).1;have hkind:∀y∈ps.zip us,scope.names.lookup y.1=some .local ∨ (scope.names.lookup y.1=some .cell/\((cellsFrom (s.heap.objs.size+1) scope.names []).lookup y.1).isSome=true):=λ⟨n,v⟩ hy=>by
  rcases S.par n (Xh hy).1 with q|q
  .exact .inl q
  .exact .inr ⟨q,W.cellsFrom_some _ _ _ (.inl q)⟩
 refine codeAny_call_function hr.depth (KX _ _ lk) rfl S.co S.gen rfl (W.codeRec_of KX hcd) (hb _ _ _ _ ?_);refine wpAny_newFunctionEnv_cells S.kind hkind λenv he s1 x=>?_;subst he;refine⟨lim.keeps x.toInCall.keep,codeAny_func ?_⟩;obtain⟨t,ht,hq⟩:=hbody A outer s H vs Q E (hr.deeper _) hsp;have I:Inv (dN CX P w K mg base N qual scope f cdv A outer s H E) [] (start N vs) H s1:=CH S hr.hd e0 hl r x;refine T4 (ht [] s1 (start N vs) H _ I hq) (λfl s' hs=>?_) λe s' hs=>hs;have fin:∀{σ':St}{H':Hp}{v:V}{u:Sy},Inv (dN CX P w K mg base N qual scope f cdv A outer s H E) [] σ' H' s'->bW v u->Q v H'->CE outer P w H s Q u s' :=
  λ{σ' H' v u} J rv q=>⟨v,H',J.os,J.bare,J.base,J.hok,rv,q⟩
 cases fl with
 |ret u=>
  obtain⟨v,σ',H',J,rv,q⟩:=hs;exact fin J rv q
 |next=>
  obtain⟨σ',H',J,q⟩:=hs;exact fin (v:=V.non) (u:=Uz) J rfl q
 |brk=>
  obtain⟨_,_,_,q⟩:=hs;exact T8 q
 |cont=>
  obtain⟨_,_,_,q⟩:=hs;exact T8 q
section
variable {X:Cx}{x:SH}{p pos:Pos}{e:Tn}{es:List Tn}{t:TA}{id T:String}{r:al->Hp->VK->Prop}
def RM(r:al->Hp->VK->Prop)(t:TA):TE:=λσ H Q=>t σ H λvs H1=>r vs H1 Q
def qV(hc:iU X (.builtin id) r)(hg:Gl X x)(hm:X.mg x=none)(hv:bootBuiltins x=some (.builtin id))(ha:PA X (e::es) t)(hn:x≠"__name__":=by decide)(hdb:(x==("__debug__" : SH))=false:=by decide)
  (he:SJ (e::es) X.env=(false,eval e X.env)::SJ es X.env:=by rfl)(hpl:(TZ pos (SJ es X.env)).any (·.1)=false:=by rfl):PE X (.Call (.Name x p) (e::es) [] pos) (RM r t):=by
 intro π s σ H Q I h;refine wpAny_Call_Name_kw (nT I hg hm hv ?_ hn hdb);exact PyProof.Rows.callWith_builtin1 (cX (ha pos π s σ H _ I h) λus s1 ⟨vs,H1,I1,r1,q1⟩=>hc π s1 σ H1 vs us Q I1 r1 q1) he hpl
def Cn(hc:iU X (.type T) r)(hg:Gl X x)(hm:X.mg x=none)(hv:bootBuiltins x=some (.type T))(ha:PA X (e::es) t)(hn:x≠"__name__":=by decide)(hdb:(x==("__debug__" : SH))=false:=by decide)
  (he:SJ (e::es) X.env=(false,eval e X.env)::SJ es X.env:=by rfl)(hpl:(TZ pos (SJ es X.env)).any (·.1)=false:=by rfl):PE X (.Call (.Name x p) (e::es) [] pos) (RM r t):=by
 intro π s σ H Q I h;refine wpAny_Call_Name_kw (nT I hg hm hv ?_ hn hdb);exact Vu (cX (ha pos π s σ H _ I h) λus s1 ⟨vs,H1,I1,r1,q1⟩=>hc π s1 σ H1 vs us Q I1 r1 q1) he hpl
end
end L2
namespace HT
open PySem PyProof.Rows
section
variable {prog:Tr}{w:TU}{A:TK}{E:Sy->SI->Prop}{s:SI}
def cat_tup{t b:SA}{vs ws:List Sy}{Q:Sy->SI->Prop}(ht:IsTup s.heap t vs.toArray)(hb:IsTup s.heap b ws.toArray)(hv:vs≠[])
  (h1:ws=[]->Q (.ref t) s)(h2:ws≠[]->Q (.ref s.heap.objs.size) { s with heap:=s.heap.push { cls:=.type "tuple",data:=.seq (vs++ws).toArray } })
  (hsz:vs.length+ws.length<=sizeLine):Td (Tb prog w) A (binaryOp .Add (.ref t) (.ref b)) Q E s:=by
 obtain⟨⟨cls,dd,data,sl⟩,ho,hc,n,hd⟩:=id ht;obtain⟨⟨cls2,dd2,data2,sl2⟩,ho2,hc2,n2,hd2⟩:=id hb;simp only at hc hd hc2 hd2;subst hc hd hc2 hd2;have e:vs.toArray++ws.toArray=(vs++ws).toArray:=by simp
 by_cases hw:ws=[]
 .exact concat_meets ⟨_,ho,rfl⟩ ⟨_,ho2,rfl⟩ noFill_tuple_add seq_tuple_add Wq Wm (Wj _ _)
   (tuple_addW1 t b vs.toArray ws.toArray n n2 dd dd2 sl sl2 (by simpa using hv) (by simp[hw])) ⟨ho,ho2,h1 hw⟩
 .refine concat_meets ⟨_,ho,rfl⟩ ⟨_,ho2,rfl⟩ noFill_tuple_add seq_tuple_add Wq Wm (Wj _ _)
   (tuple_addW2 t b vs.toArray ws.toArray n n2 dd dd2 sl sl2 (by simpa using hv) (by simpa using hw) (by rw[S8,S8];exact hsz)) ⟨ho,ho2,?_⟩
  rw[e];exact h2 hw
def sIx(n d:Nat):Option Int->Nat
 |none=>d
 |some v=>if v<0 then(v+(n:Int)).toNat else min v.toNat n
def sIx_none(n d:Nat):sIx n d none=d:=rfl
def sIx_nat(n d k:Nat):sIx n d (some (k:Int))=min k n:=by
 show(if(k:Int)<0 then((k:Int)+(n:Int)).toNat else min (k:Int).toNat n)=min k n;rw[if_neg (by omega),U9]
def L5(n d:Nat)(hd:d<=n)(o:Option Int):sIx n d o<=n:=by
 cases o with
 |none=>exact hd
 |some v=>
  show(if v<0 then(v+(n:Int)).toNat else min v.toNat n)<=n
  by_cases hv:v<0
  .rw[if_pos hv];omega
  .rw[if_neg hv];exact Nat.min_le_right _ _
def Bf(v:Int)(n d:Nat):(if v<0 then max (v+(n:Int)) 0 else min v (n:Int))=((sIx n d (some v):Nat):Int):=by
 show(if v<0 then max (v+(n:Int)) 0 else min v (n:Int))=(((if v<0 then(v+(n:Int)).toNat else min v.toNat n):Nat):Int)
 by_cases hv:v<0
 .simp only[if_pos hv];omega
 .simp only[if_neg hv];omega
def zJ(lo hi:Option Int)(n:Nat):UN lo hi 1 (n:Int)=(((sIx n 0 lo:Nat):Int),((sIx n n hi:Nat):Int)):=by
 have h1:¬((1:Int)<0):=by omega
 unfold UN;simp only[h1,if_false];refine Prod.ext ?_ ?_
 .cases lo with
  |none=>rfl
  |some v=>exact Bf v n 0
 .cases hi with
  |none=>rfl
  |some v=>exact Bf v n n
def yO(i j:Nat):Ul (i:Int) (j:Int) 1=j-i:=by
 unfold Ul;have h1:(1:Int) > 0:=by omega
 simp only[h1,if_true,Int.ediv_one];split<;>omega
def slicePart_{v:Sy}{o:Option Int}{Q:Option Int->SI->Prop}(p:IsPart v o)(h:Q o s):Td (Tb prog w) A (Builtin.Slice.slicePartIndex v) Q E s:=by
 cases p with|none=>exact slicePart_none h|int i t=>exact slicePart_int h
def nI{sl:SA}{vl vu:Sy}{lo hi:Option Int}{n:Nat}{Q:Int×Int×Nat->SI->Prop}(hs:s.heap.IsSliceOf sl vl vu .none)(pl:IsPart vl lo)(pu:IsPart vu hi)
  (h:Q (((sIx n 0 lo:Nat):Int),1,sIx n n hi-sIx n 0 lo) s):Td (Tb prog w) A (Vx (.ref sl) (pure (n:Int))) Q E s:=by
 obtain⟨os,hos,hcs,hds⟩:=id hs;unfold Vx Xs;refine SG (SG (wpAny_field hos hds (x:=vl) rfl (SG (wpAny_field hos hds (x:=vu) rfl (SG (wpAny_field hos hds (x:=.none) rfl (S5 ?_)))))));refine SG (slicePart_none ?_);show Td _ _ (if((1:Int)==0)=true then _ else _) _ _ s;rw[if_neg (by decide)];refine SG (slicePart_ pl (SG (slicePart_ pu (SG (S5 ?_)))));show Td _ _ (match UN lo hi 1 (n:Int) with|(lo,hi)=>pure (lo,(1:Int),Ul lo hi 1)) _ _ s;rw[zJ lo hi n];show Td _ _ (pure (((sIx n 0 lo:Nat):Int),(1:Int),Ul ((sIx n 0 lo:Nat):Int) ((sIx n n hi:Nat):Int) 1)) _ _ s;rw[yO];exact S5 h
def EI(xs:Array Sy)(i k:Nat):((TY k).filterMap λ(m:Nat)=>xs[((i:Int)+(m:Int)*1).toNat]?).toArray=((xs.toList.drop i).take k).toArray:=by
 have e:(λ(m:Nat)=>xs[((i:Int)+(m:Int)*1).toNat]?)=λm=>xs[i+m]?:=by
  funext m;have:((i:Int)+(m:Int)*1).toNat=i+m:=by omega
  rw[this]
 rw[e];have:=pick_run xs i k;rw[List.filterMap_map]at this;have e2:((λx=>xs[x]?)∘λx=>i+x)=λm=>xs[i+m]?:=rfl;rw[e2]at this;rw[this]
def getItem_tuple_cut{t sl:SA}{items:Array Sy}{vl vu:Sy}{lo hi:Option Int}{Q:Sy->SI->Prop}(ht:IsTup s.heap t items)(hs:s.heap.IsSliceOf sl vl vu .none)(pl:IsPart vl lo)(pu:IsPart vu hi)
  (hw:¬(sIx items.size 0 lo=0/\sIx items.size items.size hi=items.size))
  (h:Q (.ref s.heap.objs.size) { s with heap:=s.heap.push { cls:=.type "tuple",data:=.seq ((items.toList.drop (sIx items.size 0 lo)).take (sIx items.size items.size hi-sIx items.size 0 lo)).toArray } })
  (hsz:items.size<=sizeLine):Td (Tb prog w) A (getItem (.ref t) (.ref sl)) Q E s:=by
 have htake:sizeOk (.seq ((items.toList.drop (sIx items.size 0 lo)).take (sIx items.size items.size hi-sIx items.size 0 lo)).toArray):=by
  show((items.toList.drop (sIx items.size 0 lo)).take (sIx items.size items.size hi-sIx items.size 0 lo)).toArray.size<=sizeLine;rw[S8,UD,VV,Uo];omega
 have hj:sIx items.size items.size hi<=items.size:=L5 _ _ (Tf _) hi;obtain⟨os,hos,hcs,hds⟩:=id hs;have hTs:s.TypeIs (.ref sl) "slice":=⟨os,hos,hcs⟩
 unfold getItem
 try with_reducible refine UY ?_
 first|refine SG (S5 ?_)|skip
 refine SG (wpAny_sequenceKey ht.typeIs (by decide) ?_);refine SG (wpAny_callSpecial?_slot (name:=TR "__getitem__") ht.typeIs UM
  (wpAny_call_entry UM ht.typeIs entry_tuple_getitem ?_ (args_tuple_getitem _ _)))
 show Td _ _ (Xq (.ref t) >>= _) _ _ s;refine SG (tupleItemsOf_ ht ?_);refine SG (wpAny_typeOf hTs ?_);rw[if_pos (by decide)];refine SG (nI hs pl pu ?_);have hno:¬((((sIx items.size 0 lo:Nat):Int)==0&&(1:Int)==1&&(sIx items.size items.size hi-sIx items.size 0 lo)==items.size)=true):=by
  intro q;rw[SX,SX]at q;have q1:((sIx items.size 0 lo:Nat):Int)=0:=eq_of_beq q.1.1;have q2:sIx items.size items.size hi-sIx items.size 0 lo=items.size:=eq_of_beq q.2;exact hw ⟨by omega,by omega⟩
 show Td _ _ (if(((sIx items.size 0 lo:Nat):Int)==0&&(1:Int)==1&&(sIx items.size items.size hi-sIx items.size 0 lo)==items.size)=true then _ else _) _ _ s;rw[if_neg hno,EI]
 first
  |exact SG (m:=Um _) (wpAny_newObj_type (S5 ⟨_,rfl,S5 h⟩) htake)
  |exact SG (m:=Um _) (wpAny_newObj_type (SG (S5 (S5 ⟨_,rfl,S5 h⟩))) htake)
  |exact SG (SG (m:=Um _) (wpAny_newObj_type (S5 (S5 ⟨_,rfl,S5 h⟩)) htake))
  |exact SG (SG (m:=Um _) (wpAny_newObj_type (S5 ⟨_,rfl,S5 h⟩) htake))
end
end HT
namespace L2
open PySem PySem.Spec PyProof.Rows
abbrev TO:=St->Hp->(Option Int->Hp->Prop)->Prop
def PO(X:Cx)(e:Option Tn)(t:TO):Prop :=
 ∀(π:List (SA×Obj)) (s:SI) (σ:St) (H:Hp) (Q:Option Int->Hp->Prop),Inv X π σ H s->t σ H Q ->
  Td (Tb X.prog X.w) X.A (evalPart e X.env) (λu s'=>∃o H',Inv X π σ H' s'/\IsPart u o/\Q o H') X.xe s
def HQ:TO:=λ_ H Q=>Q none H
def OA(t:TE):TO:=λσ H Q=>t σ H λx H1=>∃i,x=.int i/\Q (some i) H1
section
variable {X:Cx}{e:Tn}{te:TE}{lo hi:Option Tn}{tl th:TO}{pos p2:Pos}
def Il:PO X none HQ:=by
 intro π s σ H Q I h;rw[evalPart_none];exact S5 ⟨none,H,I,.none,h⟩
def Ik(h:PE X e te):PO X (some e) (OA te):=by
 intro π s σ H Q I hw;rw[evalPart_some];refine cX (h π s σ H _ I hw) λu s1 ⟨x,H1,I1,r1,q1⟩=>?_;obtain⟨i,rfl,q⟩:=q1;obtain⟨t,rfl⟩:=r1;exact⟨some i,H1,I1,.int i t,q⟩
noncomputable def G9(X:Cx) (r:V->Option Int->Option Int->Hp->VK->Prop):Prop :=
 ∀(π:List (SA×Obj)) (s:SI) (σ:St) (H:Hp) (x:V) (v vl vu:Sy) (lo hi:Option Int) (sl:SA) (Q:VK),Inv X π σ H s->bW x v->s.heap.IsSliceOf sl vl vu .none->IsPart vl lo->IsPart vu hi->r x lo hi H Q ->
  ∃T id,VR (.type T) "__getitem__"=pure (some (.builtin id))/\s.TypeIs v T/\Td (Tb X.prog X.w) X.A (getItem v (.ref sl)) (EP X π σ Q) X.xe s
def G9.or{r r':V->Option Int->Option Int->Hp->VK->Prop}(h:G9 X r)(h':G9 X r'):G9 X (λx lo hi H Q=>r x lo hi H Q∨r' x lo hi H Q):=by
 intro π s σ H x v vl vu lo hi sl Q I rx hs pl pu q;rcases q with q|q
 .exact h π s σ H x v vl vu lo hi sl Q I rx hs pl pu q
 .exact h' π s σ H x v vl vu lo hi sl Q I rx hs pl pu q
def RJ(r:V->Option Int->Option Int->Hp->VK->Prop)(te:TE)(tl th:TO):TE:=λσ H Q=>te σ H λx H1=>tl σ H1 λl H2=>th σ H2 λu H3=>r x l u H3 Q
def EM{r:V->Option Int->Option Int->Hp->VK->Prop}(hr:G9 X r)(he:PE X e te)(hl:PO X lo tl)(hu:PO X hi th):PE X (.Subscript e (.Slice lo hi none p2) pos) (RJ r te tl th):=by
 intro π s σ H Q I h;refine Subscript_ (cX (he π s σ H _ I h) λv s1 ⟨x,H1,I1,r1,q1⟩=>?_);refine wpAny_Slice (cX (hl π s1 σ H1 _ I1 q1) λvl s2 ⟨l,H2,I2,pl,q2⟩=>cX (hu π s2 σ H2 _ I2 q2) λvu s3 ⟨u,H3,I3,pu,q3⟩=>?_);rw[evalPart_none];refine S5 ?_;have I4:Inv X π σ H3 { s3 with heap:=s3.heap.push { cls:=.type "slice",data:=.fields #[vl,vu,.none] } }:=I3.kept (t':=s3.toks) λb ob q=>SK _ q;obtain⟨T,id,hT,ht,hg⟩:=hr π { s3 with heap:=s3.heap.push { cls:=.type "slice",data:=.fields #[vl,vu,.none] } } σ H3 x v vl vu l u s3.heap.objs.size Q I4 r1 (Heap.IsSliceOf.new ..) pl pu q3;show Td (Tb X.prog X.w) X.A (subscriptTail e (.Slice lo hi none p2) v (.ref s3.heap.objs.size)) (EP X π σ Q) X.xe { s3 with heap:=s3.heap.push { cls:=.type "slice",data:=.fields #[vl,vu,.none] } };exact tail_any (ops:=[.ref s3.heap.objs.size,v]) ht hT hg (by with_unfolding_all rfl)
def xZ(xs:al)(lo hi:Option Int):al:=(xs.drop (HT.sIx xs.length 0 lo)).take (HT.sIx xs.length xs.length hi-HT.sIx xs.length 0 lo)
def oZ(xs:al)(lo hi:Option Int):(xZ xs lo hi).length<=xs.length:=by
 unfold xZ;rw[UD,VV];omega
def Q7(K:SE):V->Option Int->Option Int->Hp->VK->Prop:=λx lo hi H Q=>∃a xs,x=.ref a/\j7 K H a xs /\
 ¬(HT.sIx xs.length 0 lo=0/\HT.sIx xs.length xs.length hi=xs.length)/\∀p,H p=none->Q (.ref p) (upd H p (.tup (xZ xs lo hi)))
def LW:G9 X (Q7 X.K):=by
 intro π s σ H x v vl vu lo hi sl Q I rx hs pl pu h;obtain⟨a,xs,rfl,hx,hw,q⟩:=h;cases rx;obtain⟨its,r,ht,hz⟩:=I.tuple hx;have hlen:its.toArray.size=xs.length:=by rw[S8];exact r.length.symm
 refine⟨"tuple",_,UM.lookup,ht.typeIs,?_⟩;refine HT.getItem_tuple_cut ht hs pl pu (by rw[hlen];exact hw) ?_ (by rw[hlen];exact hz);rw[hlen];refine⟨.ref s.heap.objs.size,_,I.laid (t':=s.toks) (o:=.tup (xZ xs lo hi)) (λb ob q=>SK _ q) (Tf _) ?_,rfl,q _ (I.hok.fresh (Tf _))⟩;exact⟨SW (oZ xs lo hi) hz,_,(r.drop (HT.sIx xs.length 0 lo)).take (HT.sIx xs.length xs.length hi-HT.sIx xs.length 0 lo),W9 _ _⟩
def OY(K:SE):R2:=λx y H Q=>∃a b xs ys,x=.ref a/\y=.ref b/\j7 K H a xs/\j7 K H b ys/\xs≠[]/\xs.length+ys.length<=sizeLine /\
 (ys=[]->Q (.ref a) H)/\(ys≠[]->∀p,H p=none->Q (.ref p) (upd H p (.tup (xs++ys))))
def bx.nil_iff{xs:al}{us:List Sy}(r:bx xs us):us=[]↔xs=[]:=by
 cases r with|nil|cons _ _=>simp
def As:gX X (binaryOp .Add) (OY X.K):=by
 intro π s σ H x y v u Q I rx ry h;obtain⟨a,b,xs,ys,rfl,rfl,ha,hb,hx,hz,q1,q2⟩:=h;cases rx;cases ry;obtain⟨its,r1,p1,_⟩:=I.tuple ha;obtain⟨its2,r2,p2,_⟩:=I.tuple hb;refine HT.cat_tup p1 p2 (λz=>hx (r1.nil_iff.mp z)) (λz=>⟨.ref a,H,I,rfl,q1 (r2.nil_iff.mp z)⟩) (λz=>?_) (by rw[←r1.length,←r2.length];exact hz);refine⟨.ref s.heap.objs.size,_,I.laid (t':=s.toks) (o:=.tup (xs++ys)) (λb ob q=>SK _ q) (Tf _) ?_,rfl,q2 (λw=>z (r2.nil_iff.mpr w)) _ (I.hok.fresh (Tf _))⟩;exact⟨by rw[Tc];exact hz,_,r1.append r2,W9 _ _⟩
end
def K9(n:Nat)(i:Int):Option Nat:=if 0<=i then(if i<n then some i.toNat else none) else if -(n:Int)<=i then some (i+n).toNat else none
def atI{α:Type}(xs:List α)(i:Int):Option α:=(K9 xs.length i).bind λj=>xs[j]?
def Je{n:Nat}{i:Int}{j:Nat}(h:K9 n i=some j):seqIndex? i n=some j/\j<n/\-(n:Int)<=i/\i<n:=by
 unfold K9 at h
 by_cases h0:0<=i
 .rw[if_pos h0]at h
  by_cases h1:i<n
  .rw[if_pos h1]at h
   have e:i.toNat=j:=T9 h;exact⟨by rw[seqIndex_of h0 h1,e],by omega,by omega,h1⟩
  .rw[if_neg h1]at h;cases h
 .rw[if_neg h0]at h
  by_cases h1:-(n:Int)<=i
  .rw[if_pos h1]at h
   have e:(i+n).toNat=j:=T9 h;exact⟨by rw[seqIndex_neg (by omega) h1,e],by omega,h1,by omega⟩
  .rw[if_neg h1]at h;cases h
def wb{α:Type}{xs:List α}{i:Int}{v:α}(h:atI xs i=some v):∃j,seqIndex? i xs.length=some j/\xs[j]?=some v/\j<xs.length/\-(xs.length:Int)<=i/\i<xs.length:=by
 unfold atI at h;cases e:K9 xs.length i with
 |none=>rw[e]at h;cases h
 |some j=>
  rw[e]at h;obtain⟨h1,h2,h3,h4⟩:=Je e;exact⟨j,h1,h,h2,h3,h4⟩
def cT{α:Type}{xs:List α}{j:Nat}{v:α}(h:xs[j]?=some v):atI xs (j:Int)=some v:=by
 have hj:j<xs.length:=(SR.mp h).1;have e:K9 xs.length (j:Int)=some j:=by
  unfold K9;rw[if_pos (by omega),if_pos (by omega)];simp
 unfold atI;rw[e];exact h
def kF(b:Tn):Prop:=∀o i,subscripted b false o i=operate [o,i] (getItem o i)
noncomputable def Hd(X:Cx) (r:R2):Prop :=
 ∀(value slice:Tn) (π:List (SA×Obj)) (s:SI) (σ:St) (H:Hp) (x y:V) (v u:Sy) (Q:VK),Inv X π σ H s->bW x v->bW y u->r x y H Q ->
  subscripted slice false v u=operate [v,u] (getItem v u)->Td (Tb X.prog X.w) X.A (subscriptTail value slice v u) (EP X π σ Q) X.xe s
noncomputable def Oa(X:Cx) (id:String) (r:V->al->Hp->VK->Prop):Prop :=
 ∀(π:List (SA×Obj)) (s:SI) (σ:St) (H:Hp) (x:V) (xs:al) (v:Sy) (us:List Sy) (Q:VK),Inv X π σ H s->bW x v->bx xs us->r x xs H Q ->
  Td (Tb X.prog X.w) X.A (call (.builtin id) (v::us)) (EP X π σ Q) X.xe s
section
variable {X:Cx}{a b:Tn}{ta tb:TE}{pos:Pos}
def Hd.or{r r':R2}(h:Hd X r)(h':Hd X r'):Hd X (λx y H Q=>r x y H Q∨r' x y H Q):=by
 intro value slice π s σ H x y v u Q I rx ry q hs;rcases q with q|q
 .exact h value slice π s σ H x y v u Q I rx ry q hs
 .exact h' value slice π s σ H x y v u Q I rx ry q hs
def w6{r:R2}(hr:Hd X r)(ha:PE X a ta)(hb:PE X b tb)(hs:kF b):PE X (.Subscript a b pos) (OB r ta tb):=by
 intro π s σ H Q I h;exact Subscript_ (NN ha hb I h λv u s2 x y H2 I2 rx ry q=>hr a b π s2 σ H2 x y v u Q I2 rx ry q (hs _ _))
def OV(K:SE):R2:=λx y H Q=>∃p xs i v,x=.ref p/\y=.int i/\fM K H p xs/\atI xs i=some v/\Q v H
def OT(K:SE):R2:=λx y H Q=>∃p xs i v,x=.ref p/\y=.int i/\j7 K H p xs/\atI xs i=some v/\Q v H
def OU:R2:=λx y H Q=>∃z i c,x=.str z/\y=.int i/\z.length<=sizeLine/\atI z.cps.toList i=some c/\Q (.str ⟨#[c]⟩) H
def vH:Hd X (OV X.K):=by
 intro value slice π s σ H x y v u Q I rx ry h hs;obtain⟨p,xs,i,z,rfl,rfl,hq,he,q⟩:=h;cases rx;obtain⟨t,rfl⟩:=ry;obtain⟨its,r,pl,hz⟩:=I.list hq;obtain⟨j,h1,h2,h3,h4,h5⟩:=wb he;obtain⟨w,ew,rw'⟩:=r.get h2;have hl:=r.length;have hn:=vD;have fin:EP X π σ Q w s:=⟨z,H,I,rw',q⟩
 by_cases h0:0<=i
 .have hj:i.toNat=j:=by
   rw[seqIndex_of h0 h5]at h1;exact T9 h1
  exact item_listR pl.isList h0 (by omega) (by rw[hj];simpa using ew) fin hs
 .have hj:(i+(its.toArray.size:Int)).toNat=j:=by
   rw[seqIndex_neg (by omega) h4]at h1;rw[S8,←hl];exact T9 h1
  exact subscriptTail_builtinR (x:=w) pl.isList.typeIs slot_list_getitem.lookup
   (wpAny_getItem_list_neg (Q:=λr s'=>r=w/\EP X π σ Q r s') pl.isList (by omega) (by rw[S8]<;>omega) (by omega) (by rw[hj];simpa using ew) ⟨rfl,fin⟩) hs
def zd:Hd X (OT X.K):=by
 intro value slice π s σ H x y v u Q I rx ry h hs;obtain⟨p,xs,i,z,rfl,rfl,hq,he,q⟩:=h;cases rx;obtain⟨t,rfl⟩:=ry;obtain⟨its,r,pl,hz⟩:=I.tuple hq;obtain⟨j,h1,h2,h3,h4,h5⟩:=wb he;obtain⟨w,ew,rw'⟩:=r.get h2;have hl:=r.length;have hn:=vD;have fin:EP X π σ Q w s:=⟨z,H,I,rw',q⟩
 exact subscriptTail_builtinR (x:=w) pl.typeIs slot_tuple_getitem.lookup
  (getItem_tuple (j:=j) (Q:=λr s'=>r=w/\EP X π σ Q r s') pl (by omega) (by omega) (by rw[S8,←hl];exact h1) (by simpa using ew) ⟨rfl,fin⟩) hs
def MM:Hd X OU:=by
 intro value slice π s σ H x y v u Q I rx ry h hs;obtain⟨z,i,c,rfl,rfl,hz,he,q⟩:=h;obtain⟨t,rfl⟩:=rx;obtain⟨t',rfl⟩:=ry;obtain⟨j,h1,h2,h3,h4,h5⟩:=wb he;have hl:z.cps.toList.length=z.length:=by simp[Str.length]
 rw[hl]at h1 h4 h5;have hn:=vD;exact tail_any (typeIs_str s z t) slot_str_getitem.lookup (getItem_str (c:=c) (by
  have e1:decide (i < -(2 ^ 63:Int))=false:=decide_eq_false (by omega);have e2:decide (i≥2 ^ 63)=false:=decide_eq_false (by omega);rw[e1,e2,Bool.or_false]) (by rw[h1];simpa using h2) ⟨.str ⟨#[c]⟩,H,I.tok _,⟨_,rfl⟩,q⟩) hs
def RQ(K:SE):R2:=λx y H Q=>OV K x y H Q∨OT K x y H Q∨OU x y H Q
def MN:Hd X (RQ X.K):=vH.or (zd.or MM)
def u4(lo hi:Option Int)(n:Nat):(sliceBounds lo hi none n).1=((HT.sIx n 0 lo:Nat):Int)/\(sliceBounds lo hi none n).2.1=((HT.sIx n n hi:Nat):Int)/\(sliceBounds lo hi none n).2.2=1:=by
 refine⟨?_,?_,rfl⟩
 .cases lo with
  |none=>simp[sliceBounds,HT.sIx]
  |some i=>
   simp only[sliceBounds,HT.sIx,Option.getD_none,show(1:Int) > 0 by decide,if_true]
   by_cases h:i<0
   .simp only[h,if_true]<;>omega
   .simp only[h,if_false]<;>omega
 .cases hi with
  |none=>simp[sliceBounds,HT.sIx]
  |some i=>
   simp only[sliceBounds,HT.sIx,Option.getD_none,show(1:Int) > 0 by decide,if_true]
   by_cases h:i<0
   .simp only[h,if_true]<;>omega
   .simp only[h,if_false]<;>omega
def sZ(its:List Sy)(lo hi:Option Int):slicePick its.toArray lo hi none=((its.drop (HT.sIx its.length 0 lo)).take (HT.sIx its.length its.length hi-HT.sIx its.length 0 lo)).toArray:=by
 obtain⟨h1,h2,h3⟩:=u4 lo hi its.toArray.size;unfold slicePick;rw[h1,h2,h3];simp only[sliceRange_one,pick_run,S8]<;>rfl
def Q9(K:SE):V->Option Int->Option Int->Hp->VK->Prop:=λx lo hi H Q=>∃a xs,x=.ref a/\fM K H a xs/\∀p,H p=none->Q (.ref p) (upd H p (.lst (xZ xs lo hi)))
def HR:G9 X (Q9 X.K):=by
 intro π s σ H x v vl vu lo hi sl Q I rx hs pl pu h;obtain⟨a,xs,rfl,hx,q⟩:=h;cases rx;obtain⟨its,r,ht,hz⟩:=I.list hx;have hlen:=r.length;refine⟨"list",_,slot_list_getitem.lookup,ht.isList.typeIs,?_⟩;refine wpAny_getItem_list_slice ht.isList hs pl pu .none (by simp) ?_ (by rw[S8]<;>omega);rw[sZ,←hlen];refine⟨.ref s.heap.objs.size,_,I.laid (t':=s.toks) (o:=.lst (xZ xs lo hi)) (λb ob q=>SK _ q) (Tf _) ?_,rfl,q _ (I.hok.fresh (Tf _))⟩;exact⟨SW (oZ xs lo hi) hz,_,0,(r.drop (HT.sIx xs.length 0 lo)).take (HT.sIx xs.length xs.length hi-HT.sIx xs.length 0 lo),TH _ rfl⟩
def vh:gX X (Uc .NotIn) (λx y H Q=>∃i j,x=.str i/\y=.str j/\Q (.bl (!(!(VJ j i 0 j.length 1).isEmpty))) H):=by
 intro π s σ H x y v u Q I rx ry h;obtain⟨i,j,rfl,rfl,q⟩:=h;obtain⟨t,rfl⟩:=rx;obtain⟨t',rfl⟩:=ry;exact notIn_str ⟨.bl _,H,I,rfl,q⟩
def fZ:iU X (.type "list") (λxs H Q=>∃p ys,xs=[.ref p]/\(fM X.K H p ys∨j7 X.K H p ys)/\∀l,H l=none->Q (.ref l) (upd H l (.lst ys))):=by
 intro π s σ H xs us Q I r h;obtain⟨p,ys,rfl,hq,q⟩:=h;obtain⟨u,rfl,rx⟩:=oC r;cases rx;have fin:∀(its:List Sy),bx ys its->ys.length<=sizeLine->∀(h':S1) (c':Nat),(∀b o',s.heap.get? b=some o'->h'.get? b=some o') ->
   h'.get? s.heap.objs.size=some { cls:=.type "list",dict:=none,data:=.seq its.toArray c',slots:=#[] }->EP X π σ Q (.ref s.heap.objs.size) { s with heap:=h' }:=λits r' hz h' c' kp e=>
  ⟨.ref s.heap.objs.size,_,I.laid (t':=s.toks) kp (Tf _) (show bY X.prog X.w _ h' _ (.lst ys) from⟨hz,its,c',r',e⟩),rfl,q _ (I.hok.fresh (Tf _))⟩
 rcases hq with hq|hq
 .obtain⟨its,r',pl,hz⟩:=I.list hq
  have hlen:=r'.length;obtain⟨o,ho,hc,n,hd⟩:=pl.isList;exact call_list_seq p (.inl rfl) ho hc hd (λh' c' kp e=>fin its r' hz h' c' kp e) (by simp only[S8]<;>omega)
 .obtain⟨its,r',pl,hz⟩:=I.tuple hq
  have hlen:=r'.length;obtain⟨o,ho,hc,n,hd⟩:=pl;exact call_list_seq p (.inr rfl) ho hc hd (λh' c' kp e=>fin its r' hz h' c' kp e) (by simp only[S8]<;>omega)
def mq:iU X (.type "tuple") (λxs H Q=>∃p ys,xs=[.ref p]/\((fM X.K H p ys/\∀l,H l=none->Q (.ref l) (upd H l (.tup ys)))∨(j7 X.K H p ys/\Q (.ref p) H))):=by
 intro π s σ H xs us Q I r h;obtain⟨p,ys,rfl,h⟩:=h;obtain⟨u,rfl,rx⟩:=oC r;cases rx;rcases h with⟨hq,q⟩|⟨hq,q⟩
 .obtain⟨its,r',pl,hz⟩:=I.list hq
  have hlen:=r'.length;refine call_tuple_list pl.isList (λh' kp=>?_) (by simp only[S8]<;>omega);have I1:Inv X π σ H { s with heap:=h' }:=I.kept (t':=s.toks) kp;have I2:Inv X π σ (upd H h'.objs.size (.tup ys)) { s with heap:=h'.push { cls:=.type "tuple",data:=.seq its.toArray } } :=
   I1.laid (t':=s.toks) (λb o e=>SK _ e) (Tf _) (show bY X.prog X.w _ _ _ (.tup ys) from⟨hz,its,r',W9 _ _⟩)
  exact⟨.ref h'.objs.size,_,I2,rfl,q _ (I1.hok.fresh (Tf _))⟩
 .obtain⟨its,r',pl,hz⟩:=I.tuple hq
  exact call_tuple_same pl ⟨.ref p,H,I,rfl,q⟩
noncomputable def QK(K:SE) (T:String) (x:V) (H:Hp):Prop:=match x with
 |.str _=>T="str"
 |.int _=>T="int"
 |.ref p=>(T="list"/\∃xs,fM K H p xs)∨(T="tuple"/\∃o,K.lookup p=some o/\o.cls=.type "tuple"/\o.dict=none) ∨
   (T="dict"/\((∃kvs,H p=some (.dK kvs))∨∃kvs,H p=some (.dT kvs)))∨(T="set"/\∃S n,H p=some (.set S n))
 |_=>False
def DD{π:List (SA×Obj)}{σ:St}{H:Hp}{s:SI}{T:String}{x:V}{v:Sy}(I:Inv X π σ H s)(r:bW x v)(ty:QK X.K T x H) :
  s.TypeIs v T/\∀a,v=.ref a->∃ob,s.heap.get? a=some ob/\ob.dict=none:=by
 cases x with
 |str z=>
  obtain⟨t,rfl⟩:=r;cases (show T="str" from ty);exact⟨typeIs_str s z t,λ_ e=>nomatch e⟩
 |int i=>
  obtain⟨t,rfl⟩:=r;cases (show T="int" from ty);exact⟨typeIs_int s i t,λ_ e=>nomatch e⟩
 |ref p=>
  cases r;rcases ty with⟨rfl,xs,hq⟩|⟨rfl,o,hk,hc,hd⟩|⟨rfl,hk⟩|⟨rfl,S,n,hk⟩
  .obtain⟨its,_,pl,_⟩:=I.list hq
   refine⟨pl.isList.typeIs,λa e=>?_⟩;cases e;obtain⟨o,n,e,c,hd,_⟩:=pl;exact⟨o,e,hd⟩
  .refine⟨⟨o,I.kIn p o hk,hc⟩,λa e=>?_⟩
   cases e;exact⟨o,I.kIn _ o hk,hd⟩
  .have z:∃o,s.heap.get? p=some o/\o.ExactDict:=by
    rcases hk with⟨kvs,hk⟩|⟨kvs,hk⟩
    .obtain⟨_,_,_,_,o,_,_,e,ex,_⟩:=I.hok p _ hk
     exact⟨o,e,ex⟩
    .obtain⟨_,_,_,_,o,_,_,e,ex,_⟩:=I.hok p _ hk
     exact⟨o,e,ex⟩
   obtain⟨o,e,ex⟩:=z;refine⟨⟨o,e,ex.1⟩,λa e2=>?_⟩;cases e2;exact⟨o,e,ex.2.1⟩
  .obtain⟨o,_,_,_,e,ex,_⟩:=I.hok p _ hk
   refine⟨⟨o,e,ex.1⟩,λa e2=>?_⟩;cases e2;exact⟨o,e,ex.2.1⟩
 |_=>exact T8 ty
def Q1(K:SE)(T:String)(r:V->al->Hp->VK->Prop)(to:TE):TE:=λσ H Q=>to σ H λx H1=>QK K T x H1/\r x [] H1 Q
def Sa(K:SE)(T:String)(r:V->al->Hp->VK->Prop)(to:TE)(t:TA):TE:=λσ H Q=>to σ H λx H1=>QK K T x H1/\t σ H1 λxs H2=>r x xs H2 Q
variable {o e:Tn}{es:List Tn}{to:TE}{t:TA}{name:SH}{apos cpos:Pos}{T id:String}{r:V->al->Hp->VK->Prop}
def Mq(pa:PlainAttrs T)(slot:Slot T name id)(hty:typeOf (.builtin id)=pure (.type "method_descriptor"))(hm:Oa X id r)(ho:PE X o to)
  (hbase:Ub o name X.env (eval o X.env)=eval o X.env:=by rfl)(hline:(apos.endLine==cpos.line)=true:=by rfl):PE X (.Call (.Attribute o name apos) [] [] cpos) (Q1 X.K T r to):=by
 intro π s σ H Q I h;refine wpAny_Call_method0_late hbase hline (cX (ho π s σ H _ I h) λv s1 z9=>?_);obtain⟨x,H1,I1,r1,ty,q1⟩:=z9;obtain⟨h1,h2⟩:=DD I1 r1 ty;exact⟨T,id,pa,slot,hty,h1,h2,Wt rfl (PySem.evalArgs_none (hm π s1 σ H1 x [] v [] Q I1 r1 .nil q1))⟩
def uh(pa:PlainAttrs T)(slot:Slot T name id)(hty:typeOf (.builtin id)=pure (.type "method_descriptor"))(hm:Oa X id r)(ho:PE X o to)(ha:PA X (e::es) t)
  (hbase:Ub o name X.env (eval o X.env)=eval o X.env:=by rfl)
  (hfew:((TZ cpos (SJ (e::es) X.env)).all (λx=>!x.1)&&(VB cpos (US [] X.env)).all (λx=>x.1.isSome)
  &&decide ((e::es).length+([]:List U3).length+(if([]:List U3).isEmpty then 0 else 1)<30))=true:=by rfl)
  (hline:(apos.endLine==cpos.line)=true:=by rfl) (hs:SJ (e::es) X.env=(false,eval e X.env)::SJ es X.env:=by rfl) (hplain:(TZ cpos (SJ es X.env)).any (·.1)=false:=by rfl) :
  PE X (.Call (.Attribute o name apos) (e::es) [] cpos) (Sa X.K T r to t):=by
 intro π s σ H Q I h;refine wpAny_Call_method_late hbase hfew hline rfl (cX (ho π s σ H _ I h) λv s1 ⟨x,H1,I1,r1,ty,q1⟩=>?_);obtain⟨h1,h2⟩:=DD I1 r1 ty;refine⟨T,id,pa,slot,hty,h1,h2,?_⟩;have hA:=ha cpos π s1 σ H1 _ I1 q1;rw[hs]at hA ⊢;refine Wt (by show(false||(TZ cpos (SJ es X.env)).any (·.1))=false;rw[hplain]<;>rfl) (V0 ?_);exact cX hA λus s2 ⟨vs,H2,I2,r2,q2⟩=>hm π s2 σ H2 x vs v us Q I2 r1 r2 q2
end
noncomputable def RD(X:Cx) (id:String) (r:V->al->Hp->VK->Prop):Prop :=
 ∀(π:List (SA×Obj)) (s:SI) (σ:St) (H:Hp) (x:V) (xs:al) (v:Sy) (us:List Sy) (Q:VK),Inv X π σ H s->bW x v->bx xs us->r x xs H Q ->
  Td (Tb X.prog X.w) X.A (call (.builtin id) (v::us)) (EP X π σ Q) X.xe s
theorem bx.one:∀{x:V}{us:List Sy},bx [x] us->∃u,us=[u]/\bW x u
 |_,_,.cons r .nil=>⟨_,rfl,r⟩
theorem bx.zero:∀{us:List Sy},bx [] us->us=[]
 |_,.nil=>rfl
theorem bx.rep{xs:al}{us:List Sy}(h:bx xs us):∀k:Nat,bx (S4 k xs).flatten (S4 k us).flatten
 |0=>.nil
 |k+1=>by
  rw[T6,T6,U8,U8];exact bx.append h (bx.rep h k)
theorem uy(its:List Sy):∀(k:Nat) (acc:List Sy),
  List.foldl (λx1 x2=>x1++x2) acc.toArray (S4 k its.toArray)=(acc++(S4 k its).flatten).toArray
 |0,acc=>by simp
 |k+1,acc=>by
  have e:acc.toArray++its.toArray=(acc++its).toArray:=by simp
  have e2:(acc++its)++(S4 k its).flatten=acc++(S4 (k+1) its).flatten:=by
   rw[T6,U8,Uk]
  rw[←e2,←uy its k (acc++its),←e,T6,List.foldl_cons]
section
variable {X:Cx}{π:List (SA×Obj)}{σ:St}{H:Hp}{s:SI}{l b:SA}{xs ys zs:al}
def Inv.lset{its its':List Sy}{n:Nat}{f:Array Sy->Array Sy}{t':Nat}(I:Inv X π σ H s)(hH:H l=some (.lst xs))
  (e:s.heap.get? l=some { cls:=.type "list",data:=.seq its.toArray n })(hf:f its.toArray=its'.toArray)(hv:bx ys its')(hz:ys.length<=sizeLine) :
  Inv X π σ (upd H l (.lst ys)) { s with heap:=s.heap.update l (Obj.mapSeq f),toks:=t' }:=by
 have q:=PySem.IsL.update e f;rw[hf]at q;refine I.write (x:=l) (e:=l) (by rw[hH];exact trivial) (.inl rfl) (λb' u hb hu=>(UX s.heap (Obj.mapSeq f) (TF hb)).trans hu) ⟨_,q⟩ ?_;exact⟨hz,its',_,hv,q⟩
def Inv.lnew{its:List Sy}{t':Nat}(I:Inv X π σ H s)(hv:bx ys its)(hz:ys.length<=sizeLine) :
  Inv X π σ (upd H s.heap.objs.size (.lst ys)) { s with heap:=s.heap.push { cls:=.type "list",data:=.seq its.toArray },toks:=t' } :=
 I.laid (λ_ _ q=>SK _ q) (Tf _) ⟨hz,its,0,hv,TH _ rfl⟩
def Inv.fresh(I:Inv X π σ H s):H s.heap.objs.size=none:=I.hok.fresh (Tf _)
def Inv.lstM(I:Inv X π σ H s)(hH:H l=some (.lst xs)):xs.length<=sizeLine/\∃(its:List Sy) (n:Nat),bx xs its/\xs.length=its.length/\s.heap.get? l=some { cls:=.type "list",data:=.seq its.toArray n }:=by
 obtain⟨z,its,n,r,e⟩:=I.hok l _ hH;exact⟨z,its,n,r,r.length,e⟩
def xt{n:Nat}(h:n<=sizeLine):VD n=false:=by
 unfold VD;exact decide_eq_false (by omega)
end
section
variable {X:Cx}
def Ih:V->al->Hp->VK->Prop:=λx vs H Q=>∃l xs y,x=.ref l/\vs=[y]/\H l=some (.lst xs)/\xs.length<sizeLine/\Q .non (upd H l (.lst (xs++[y])))
def lJ:RD X "list.append" Ih:=by
 intro π s σ H x vs v us Q I rx rv h;obtain⟨l,xs,y,rfl,rfl,hH,hz,q⟩:=h;cases rx;obtain⟨u,rfl,ru⟩:=rv.one;obtain⟨z,its,n,r,hl,e⟩:=I.lstM hH;refine call_meets F.slot_list_append ⟨_,e,rfl⟩ F.entry_list_append (F.args_list_append_2 _ _) (PySem.list_append l its.toArray n u (by rw[S8];omega)) ⟨e,?_⟩;refine⟨.non,_,I.lset (its':=its++[u]) hH e (by simp) (r.append (.cons ru .nil)) ?_,rfl,q⟩;rw[Tc,U2];omega
def Ig:V->al->Hp->VK->Prop:=λx vs H Q=>∃l b xs zs,x=.ref l/\vs=[.ref b]/\H l=some (.lst xs)/\H b=some (.lst zs)/\xs.length+zs.length<=sizeLine/\Q .non (upd H l (.lst (xs++zs)))
def Cz:RD X "list.extend" Ig:=by
 intro π s σ H x vs v us Q I rx rv h;obtain⟨l,b,xs,zs,rfl,rfl,hH,hB,hz,q⟩:=h;cases rx;obtain⟨u,rfl,ru⟩:=rv.one;cases ru;obtain⟨z,its,n,r,hl,e⟩:=I.lstM hH;obtain⟨z2,its2,n2,r2,hl2,e2⟩:=I.lstM hB;have hsz:its.toArray.size+its2.toArray.size<=sizeLine:=by rw[S8,S8];omega
 have hlong:¬(!its.toArray.isEmpty&&VD (its.toArray.size+its2.toArray.size))=true:=by
  rw[xt hsz,Wa];exact Us
 refine call_meets F.slot_list_extend ⟨_,e,rfl⟩ F.entry_list_extend (F.args_list_extend_2 _ _)
  (AutoSeq1.list_extend_list_list_0 l its.toArray n b its2.toArray n2 hlong (by rw[S8];omega) (by omega)) ⟨e,e2,?_⟩
 refine⟨.non,_,I.lset (its':=its++its2) hH e (by simp) (r.append r2) ?_,rfl,q⟩;rw[Tc];omega
def Mc:V->al->Hp->VK->Prop:=λx vs H Q=>∃l xs,x=.ref l/\vs=[]/\H l=some (.lst xs)/\Q .non (upd H l (.lst []))
def E7:RD X "list.clear" Mc:=by
 intro π s σ H x vs v us Q I rx rv h;obtain⟨l,xs,rfl,rfl,hH,q⟩:=h;cases rx;have hus:=rv.zero;subst hus;obtain⟨z,its,n,r,hl,e⟩:=I.lstM hH;refine call_meets F.slot_list_clear ⟨_,e,rfl⟩ F.entry_list_clear (F.args_list_clear_1 _) (AutoSeq1.list_clear_list_0 l its.toArray n (by rw[S8];omega)) ⟨e,?_⟩;exact⟨.non,_,I.lset (its':=[]) (ys:=[]) hH e rfl .nil (We _),rfl,q⟩
def Ra:R2:=λx y H Q=>∃l k xs,x=.ref l/\y=.int k/\H l=some (.lst xs)/\-(2 ^ 63)<=k/\k<2 ^ 63/\xs.length*k.toNat<=sizeLine /\
 ∀p,H p=none->Q (.ref p) (upd H p (.lst (S4 k.toNat xs).flatten))
def IY{α:Type}(xs:List α)(k:Nat):(S4 k xs).flatten.length=k*xs.length:=by
 induction k with|zero=>simp|succ k ih=>rw[T6,U8,Tc,ih,Nat.succ_mul,Nat.add_comm]
def Mt:gX X (binaryOp .Mult) Ra:=by
 intro π s σ H x y v u Q I rx ry h;obtain⟨l,k,xs,rfl,rfl,hH,h1,h2,hz,q⟩:=h;cases rx;obtain⟨t,rfl⟩:=ry;obtain⟨z,its,n,r,hl,e⟩:=I.lstM hH;have hlen:its.toArray.size*k.toNat<=sizeLine:=by rw[S8,←hl];exact hz
 have hcap:¬its.toArray.size*k.toNat > (2 ^ 63-1) / 8:=by
  have:(sizeLine:Nat)<=(2 ^ 63-1) / 8:=by decide
  omega
 have hfit:¬(!Builtin.List.listFitsIndex k)=true:=by
  rw[fitsIndex_both h1 h2];exact Us
 have hlong:¬VD (its.toArray.size*k.toNat)=true:=by
  rw[xt hlen];exact Us
 have hnew:List.foldl (λx1 x2=>x1++x2) #[] (S4 (if its.toArray.isEmpty=true then 0 else k.toNat) its.toArray)=(S4 k.toNat its).flatten.toArray:=by
  have f0:∀m:Nat,List.foldl (λx1 x2=>x1++x2) #[] (S4 m its.toArray)=(S4 m its).flatten.toArray:=λm=>by
   have:=uy its m [];rw[UL]at this;exact this
  rw[f0];cases its with|nil=>simp|cons a r'=>rw[if_neg (by simp)]
 refine wpAny_binaryOp_repeat_ref (T:="list") (U:="int") (by decide) ⟨_,e,rfl⟩ (λs'=>typeIs_int s' k t) noFill_list_mul F.fills_int_mul F.slot_int_rmul repeat_list F.slot_int_index.lookup
  (call_meets F.slot_int_rmul (typeIs_int s k t) F.entry_int_rmul (F.args_int_rmul_2 _ _) (int___rmul___int_list k t l its.toArray n)
   ⟨e,rfl,⟨_,e,rfl⟩,call_meets F.slot_list_mul ⟨_,e,rfl⟩ F.entry_list_mul (F.args_list_mul_2 _ _) (AutoListH.list___mul___list_int_3 l its.toArray n k t hfit hcap hlong) ⟨e,?_⟩⟩)
 rw[hnew];exact⟨.ref _,_,I.lnew (t':=s.toks) (r.rep k.toNat) (by rw[IY,Nat.mul_comm];exact hz),rfl,q _ I.fresh⟩
end
end L2
namespace Att
open PySem PySem.W PySem.Calls PyProof.Rows
def pD{P:Params}{h:S1}:∀(ns:List Int) (vs:List Sy),WellAll P h vs (ns.map WData.int)->IntsAre vs ns:=by
 intro ns
 induction ns with
 |nil=>
  intro vs w;rw[Vk]at w;cases w;exact .nil
 |cons n ns ih=>
  intro vs w;rw[Tv]at w;cases w with
  |cons a b=>
   cases a;exact .cons _ _ (ih _ b)
def BN{l:OpenLaw}{n:Nat}(hn:l.most=some n){P:Params}{h:S1}{args:List WData}{vals:List Sy}
  (hpre:l.row.toRowW.claim.pre args=true)(hwl:WellAll P h vals args) :
  ∃a vs ns,vals=[Tu a]/\args=[WData.list (ns.map WData.int)]/\h.get? a=some { cls:=.type "list",data:=.seq vs.toArray }/\IntsAre vs ns/\ns.length<=n:=by
 have hsh:WShape.hasAll [] args [.list .int]=true:=(pre_splitW hpre).1;have hc:l.pre.holds [] { args:=args }=true:=(pre_splitW hpre).2;obtain⟨d,r,rfl,h1,h2⟩:=hasAllW_cons hsh;obtain rfl:=hasAllW_nil h2;obtain⟨xs,rfl,h3⟩:=hasW_list h1;obtain⟨ns,rfl⟩:=items_int h3;have hlen:ns.length<=n:=by
  unfold OpenLaw.pre at hc;have h4:(WTm.not (.lt (.lit (.int (n:Int))) (.len (.arg 0)))).holds [] { args:=[.list (ns.map .int)] }=true:=by
   have h4:=(holds_andW hc).1;rw[hn]at h4;exact h4
  have h5:=condW_of h4 (w_not (w_lt w_lit (w_len_list (w_arg rfl))));rw[SD]at h5;refine Nat.le_of_not_lt λq=>?_;have q':(n:Int)<((ns.length:Nat):Int):=by omega
  first
   |(rw[decide_eq_true q']at h5;exact absurd h5 (by decide))
   |(simp at h5;omega)
 cases hwl with
 |cons w1 w2=>
  cases w2;cases w1 with|list ho hall=>exact⟨_,_,ns,rfl,rfl,ho,pD ns _ hall,hlen⟩
def Ci(l:OpenLaw)(args:List WData):l.row.toRowW.claim.post args (.bool true) args=true :=
 postW_of (r:=l.row.toRowW) (X:=(true==true))
  (show WShape.has [] (.bool true) .bool=true by first|rfl|decide|simp[WShape.has,WShape.arms,WShape.armsAll])
  (show(WTm.eq .res (.lit (.bool true))).value [] { args:=args,res:=some (.bool true),after:=args }=some (.bool (true==true)) from w_eq_bool (w_res rfl) w_lit) rfl
def attach_call{l:OpenLaw}{n:Nat}{q:Tr}{loose:ci}{XP:(SH->Option Sy)->S1->Prop}{YP:TU->S1->Prop}{d:DefRec}
  (hn:l.most=some n)(hdf:d.params.defaults=[])
  (call:∀(w:TU) (sf sg:SI) (mg mb:SH->Option Sy) (fa:SA) (o:Obj) (pm cd doc:Sy) (a:SA) (vs:List Sy) (ns:List Int),
   Ground q loose [] XP w sf mg mb sg.heap->YP w sg.heap ->
   sg.heap.get? fa=some o->o.data=.func (docDef d.name d.params d.body d.scope pm cd doc)->sg.heap.CodeRec cd d.name->mg d.name=some (.ref fa) ->
   sg.heap.get? a=some { cls:=.type "list",data:=.seq vs.toArray }->IntsAre vs ns->ns.length<=n->sg.gens=#[] ->
   Vt (Tb l.prog w) callerA (.call (.ref fa) ⟨[.ref a],[]⟩) (λr s'=>r=.ok (.ret (.bool true))/\OldK sg.heap s'.heap/\s'.os=sg.os/\AllBare s'.gens) sg) :
  WalkO q loose XP YP l.row.toRowW d [] (λf vs=>PySem.call f vs):=by
 intro w sf sg mg mb G Y fa o pm cd doc dV kV ho hd hcd hD hmg hg args vals as hpre hlay hrd hwl hlo;obtain rfl:dV=.none:=Dflts.none hD hdf;obtain rfl:kV=.none:=Dflts.noKw hD;obtain⟨a,vs,ns,rfl,rfl,hobj,hints,hlen⟩:=BN hn hpre hwl;refine enter_call (codeAny_mono (call w sf sg mg mb fa o pm cd doc a vs ns G Y ho (fd_plain hd) hcd hmg hobj hints hlen hg) λr s' hq=>?_);obtain⟨rfl,h2,h3,h4⟩:=hq;exact⟨.inl ⟨.bool true,.bool true,[],rfl,λ_=>rfl,.bool true,Ci l _,λ_=>⟨List.Pairwise.nil,λ_ hm=>(nomatch hm)⟩⟩,h2,h3,h4⟩
end Att
namespace L2
open PySem PySem.Spec PyProof.Rows
theorem tV:∀{vs:List Sy}{ns:List Int},IntsAre vs ns->bx (ns.map V.int) vs
 |_,_,.nil=>.nil
 |_,_,.cons n t h=>.cons ⟨t,rfl⟩ (tV h)
def Kz(H:Hp):Prop:=∀b,H b=none∨∃o xs,H b=some (.frz o (.lst xs))
def Fh{P:Tr}{w:TU}{K:SE}{mg mb:SH->Option Sy}{CX:tT}{k:Nat}{fa a:SA}{fd:TQ}{x:SH}{sp:Sp}{sg:SI}{vs:List Sy}{ns:List Int}
  (KX:K.In sg.heap)(hns:sg.heap.Ns Te mg)(hb:sg.heap.Ns builtinsNs mb)(hbb:∀x:SH,x≠"__name__"->mb x=bootBuiltins x)(hlim:sg.heap.NoLimit)(hsm:∃mm,sg.heap.Ns Xk mm)(hg:sg.gens=#[])
  (ha:sg.heap.get? a=some { cls:=.type "list",data:=.seq vs.toArray })(hi:IntsAre vs ns)(hl:ns.length<=sizeLine)(hr:dw k callerA)
  (F:∀base:S1,K.In base->base.Ns Te mg->FnOk P w K mg base CX k fa fd [x] sp)(hbind:∀(s:SI) (u:Sy),BindsTo s fd ⟨[u],[]⟩ [(x,u)])
  (hsp:∀H:Hp,Kz H->fM K H a (ns.map V.int)->sp [.ref a] H (λv _=>v=.bl true) λ_ _ _=>False)
  (hCX:∀H e s',CX [] H sg (λ_ _ _=>False) e s'->False) :
  Vt (Tb P w) callerA (.call (.ref fa) ⟨[.ref a],[]⟩) (λr s'=>r=.ok (.ret (.bool true))/\OldK sg.heap s'.heap/\s'.os=sg.os/\AllBare s'.gens) sg:=by
 have rv:=tV hi;have lenV:=hi.length;have core:∀H:Hp,Kz H->fM K H a (ns.map V.int)->gY P w H sg.heap->(∀b,H b≠none->b=a)->(H a≠none->K.lookup a=none) ->
   Vt (Tb P w) callerA (.call (.ref fa) ⟨[.ref a],[]⟩) (λr s'=>r=.ok (.ret (.bool true))/\OldK sg.heap s'.heap/\s'.os=sg.os/\AllBare s'.gens) sg:=by
  intro H hO hS hok hA hK;have base_of:∀{b:SA}{o:Obj},sg.heap.get? b=some o->H b=none->(vM sg.heap H).get? b=some o:=λe n=>FF e n;have noA:∀{b:SA}{o:Obj}{es:Array Xb}{ep:Nat},sg.heap.get? b=some o->o.data=.dict es ep->H b=none:=λ{b o es ep} e d=>by
   cases q:H b with
   |none=>rfl
   |some u=>
    have e':b=a:=hA b (by rw[q];simp);subst e';rw[ha]at e;cases e;have d':Data.seq vs.toArray _=Data.dict es ep:=d;cases d'
  have nsK:∀{b:SA}{m:SH->Option Sy},sg.heap.Ns b m->(vM sg.heap H).Ns b m:=λ{b m} ⟨o,es,ep,e,d,r⟩=>⟨o,es,ep,base_of e (noA e d),d,r⟩
  have hKb:K.In (vM sg.heap H):=λb o e=>base_of (KX b o e) (by
   cases q:H b with
   |none=>rfl
   |some u=>
    have e':b=a:=hA b (by rw[q];simp);subst e';rw[hK (by rw[q];simp)]at e;cases e)
  have hM:Mod K mg (vM sg.heap H):=⟨hKb,nsK hns,⟨mb,nsK hb,hbb⟩,let ⟨mc,h1,h2⟩:=hlim;⟨mc,nsK h1,h2⟩,let ⟨mm,h1⟩:=hsm;⟨mm,nsK h1⟩⟩
  have e0:zO P w K mg (vM sg.heap H) callerA [] sg H:=⟨rfl,hM,λb o e=>IF e,XT (CI _ _),trivial,λb hb=>absurd (show b∈([]:List SA) from hb) (by simp),hok,.of_eq hg⟩
  refine codeAny_mono ((F _ hKb (nsK hns)).run callerA [] sg H ⟨[.ref a],[]⟩ [.ref a] [.ref a] _ _ hr e0 (hbind sg (.ref a)) (.cons rfl .nil) (hsp H hO hS)) λr s' h=>?_;cases r with
  |error e=>exact(hCX H e s' h).elim
  |ok fl=>
   cases fl with
   |next|brk|cont=>exact T8 h
   |ret u=>
    obtain⟨v,H',os,bare,un,hok',r',q⟩:=h;have q':v=.bl true:=q;subst q';obtain rfl:u=UA true:=r';refine⟨rfl,OldK.of_keep λb o e=>?_,os,bare⟩;cases q:H b with
    |none=>exact un.keep b o e q (by intro z;exact absurd (show b∈([]:List SA) from z) (by simp)) (by simp)
    |some u=>
     rcases hO b with z|⟨ob,xs,z⟩
     .rw[q]at z;cases z
     .have z2:=un.frzs b ob _ z
      obtain⟨e1,_⟩:=hok b _ z;obtain⟨e2,_⟩:=hok' b _ z2;rw[e]at e1;cases e1;exact e2
 cases hk:K.lookup a with
 |some o=>
  have e:=KX a o hk;rw[ha]at e;cases e;refine core (λ_=>none) (λ_=>.inl rfl) (.inr ⟨_,vs.toArray,_,hk,rfl,rfl,rfl,by rw[S8,lenV];exact hl,by simpa using rv⟩) (λb u z=>by have z':(none:Option HO)=some u:=z;cases z') (λb z=>absurd rfl z) λz=>absurd rfl z
 |none=>
  refine core (λb=>if b=a then some (.frz { cls:=.type "list",data:=.seq vs.toArray } (.lst (ns.map V.int))) else none) (λb=>?_) (.inl (.inr ⟨{ cls:=.type "list",data:=.seq vs.toArray },if_pos rfl⟩)) (λb u z=>?_) (λb z=>?_) λ_=>hk
  .by_cases hb:b=a
   .exact .inr ⟨_,_,if_pos hb⟩
   .exact .inl (if_neg hb)
  .by_cases hb:b=a
   .have z':=(if_pos hb).symm.trans z
    cases z';subst hb;exact⟨ha,by rw[SD];exact hl,vs,_,rv,ha⟩
   .have z':=(if_neg hb).symm.trans z
    cases z'
  .by_cases hb:b=a
   .exact hb
   .exact absurd (if_neg hb) z
abbrev KOf{K:SE}{h:S1}(_:K.In h):SE:=K
def HA{l:W.OpenLaw}{n k:Nat}{q:Tr}{loose:ci}{XP:(SH->Option Sy)->S1->Prop}{YP:TU->S1->Prop}{d:DefRec}{K:Params->SE}{CX:TU->tT}{sp:TU->Sp}{x:SH}
  (hi:importsNone q=true)(hn:l.most=some n)(hn2:n<=sizeLine)(hdf:d.params.defaults=[])(hr:dw k callerA)
  (hY:∀(w:TU) (h:S1),YP w h->(K w.params).In h)
  (F:∀(w:TU) (mg:SH->Option Sy) (fa:SA) (h:S1),(K w.params).In h->h.Ns Te mg->mg d.name=some (.ref fa) ->
   ∃fd:TQ,(∀(s:SI) (u:Sy),BindsTo s fd ⟨[u],[]⟩ [(x,u)]) /\
    ∀base:S1,(K w.params).In base->base.Ns Te mg->FnOk l.prog w (K w.params) mg base (CX w) k fa fd [x] (sp w))
  (hsp:∀(w:TU) (H:Hp) (a:SA) (ns:List Int),ns.length<=n->Kz H->fM (K w.params) H a (ns.map V.int)->sp w [.ref a] H (λv _=>v=.bl true) λ_ _ _=>False)
  (hCX:∀(w:TU) (H:Hp) (s:SI) (e:Sy) (s':SI),CX w [] H s (λ_ _ _=>False) e s'->False) :
  W.WalkO q loose XP YP l.row.toRowW d [] (λf vs=>PySem.call f vs):=by
 refine Att.attach_call hn hdf λw sf sg mg mb fa o pm cd doc a vs ns G Y ho hd hcd hmg hobj hints hlen hg=>?_;have KX:=hY w _ Y;obtain⟨fd,hb,hF⟩:=F w mg fa _ KX G.T.g hmg;exact Fh KX G.T.g G.T.b G.T.builtins G.T.nolimit (let ⟨mm,h1,_⟩:=(G.T.seer hi).mods;⟨mm,h1⟩) hg hobj hints (SW hlen hn2) hr hF hb (λH hO hS=>hsp w H a ns hlen hO hS) λH e s'=>hCX w H sg e s'
def walk_ofK{l:W.OpenLaw}{n k:Nat}{q:Tr}{loose:ci}{XP:(SH->Option Sy)->S1->Prop}{YP:TU->S1->Prop}{d:DefRec}{K:Params->SE}{CX:tT}{sp:SE->Sp}{x:SH}
  (hi:importsNone q=true)(hn:l.most=some n)(hn2:n<=sizeLine)(hdf:d.params.defaults=[])(hr:dw k callerA)
  (hY:∀(w:TU) (h:S1),YP w h->(K w.params).In h)
  (F:∀(w:TU) (mg:SH->Option Sy) (fa:SA) (h:S1),(K w.params).In h->h.Ns Te mg->mg d.name=some (.ref fa) ->
   ∃fd:TQ,(∀(s:SI) (u:Sy),BindsTo s fd ⟨[u],[]⟩ [(x,u)]) /\
    ∀base:S1,(K w.params).In base->base.Ns Te mg->FnOk l.prog w (K w.params) mg base CX k fa fd [x] (sp (K w.params)))
  (hsp:∀(K:SE) (H:Hp) (a:SA) (ns:List Int),ns.length<=n->Kz H->fM K H a (ns.map V.int)->sp K [.ref a] H (λv _=>v=.bl true) λ_ _ _=>False)
  (hCX:∀(H:Hp) (s:SI) (e:Sy) (s':SI),CX [] H s (λ_ _ _=>False) e s'->False) :
  W.WalkO q loose XP YP l.row.toRowW d [] (λf vs=>PySem.call f vs) :=
 HA (K:=K) (CX:=λ_=>CX) (sp:=λw=>sp (K w.params)) hi hn hn2 hdf hr hY F (λw H a ns h1 h2 h3=>hsp (K w.params) H a ns h1 h2 h3) λ_ H s e s'=>hCX H s e s'
def vK(s:Ud)(j:Nat):Ud:=match s with
 |.ClassDef _ _ _ body _ _ _ _ _ _ _=>body.getD j (.Pass ⟨0,0,0,0⟩)
 |_=>.Pass ⟨0,0,0,0⟩
def defArgs(s:Ud):Arguments:=match s with
 |.FunctionDef _ a _ _ _ _ _ _ _ _=>a
 |_=>{ posonlyargs:=[],args:=[],vararg:=none,kwonlyargs:=[],kw_defaults:=[],kwarg:=none,defaults:=[] }
def defBody(s:Ud):List Ud:=match s with
 |.FunctionDef _ _ b _ _ _ _ _ _ _=>b
 |_=>[]
def defScope(s:Ud):VN:=match s with
 |.FunctionDef _ _ _ _ _ _ sc _ _ _=>sc
 |_=>{ kind:=.function,names:=[],isGenerator:=false,isCoroutine:=false }
abbrev CX0:tT:=λ_ _ _ _ _ _=>False
abbrev E0:XK:=λ_ _ _=>False
def K0{X:Cx}:ic CX0 X E0:=λ_ _ _ _ _ _ _ h=>h.elim
structure Bp (K:SE) (x qual:SH) (st:Ud) (f:SA) (fd:TQ):Prop where
 ex:∃(oc:Sy) (od:Option SA) (kV doc pm:Sy) (an:Option SA) (cdv ct:Sy) (osl:Array (Option Sy)),
  fd=VG x qual (defArgs st) (defBody st) (defScope st) .none kV doc pm an cdv ct/\K.lookup f=some ⟨oc,od,.func fd,osl⟩/\Xl K cdv qual=true
 kp:Vv K (.ref f)=true
section
variable {P:Tr}{w:TU}{K:SE}{mg:SH->Option Sy}{base:S1}
def Bp.ok{x qual:SH}{st:Ud}{f:SA}{fd:TQ}{N ps:ci}{k:Nat}{sp:Sp}(F:Bp K x qual st f fd)(S:eX N ps (defScope st))(len:∀vs H Q E,sp vs H Q E->vs.length=ps.length)
  (hbody:∀(cdv:Sy) (A:TK) (outer:List Env) (s:SI) (H:Hp) (vs:al) (Q:VK) (E:XK),dw k (A.deeper (envOfC qual (defScope st) s.heap.objs.size f cdv))->sp vs H Q E ->
   ∃t,ph (dN CX0 P w K mg base N qual (defScope st) f cdv A outer s H E).nox (defBody st) t/\t { nx:=λ_ H'=>Q .non H',rt:=Q } (start N vs) H):FnOk P w K mg base CX0 (k+1) f fd ps sp:=by
 obtain⟨oc,od,kV,doc,pm,an,cdv,ct,osl,rfl,lk,hcd⟩:=F.ex;refine Le lk hcd S len λA outer s H vs Q E hr hsp=>?_;obtain⟨t,h,q⟩:=hbody cdv A outer s H vs Q E hr hsp;exact⟨t,h.nox,q⟩
def Bp.binds{x qual:SH}{st:Ud}{f:SA}{fd:TQ}{ps:ci}(F:Bp K x qual st f fd)
  (h:∀(kV doc pm:Sy) (an:Option SA) (cdv ct:Sy) (us:List Sy),us.length=ps.length->bindArgs (VG x qual (defArgs st) (defBody st) (defScope st) .none kV doc pm an cdv ct) ⟨us,[]⟩=pure (ps.zip us)):gb K fd ps []:=by
 obtain⟨oc,od,kV,doc,pm,an,cdv,ct,osl,rfl,lk,hcd⟩:=F.ex;exact .all (h kV doc pm an cdv ct)
def rq{x qual:SH}{st:Ud}{f:SA}{oc:Sy}{od an:Option SA}{osl:Array (Option Sy)}{kV doc pm cdv ct:Sy}(l:K.lookup f=some ⟨oc,od,.func (VG x qual (defArgs st) (defBody st) (defScope st) .none kV doc pm an cdv ct),osl⟩)
  (c:Xl K cdv qual=true)(k:Vv K (.ref f)=true):Bp K x qual st f (VG x qual (defArgs st) (defBody st) (defScope st) .none kV doc pm an cdv ct):=⟨⟨oc,od,kV,doc,pm,an,cdv,ct,osl,rfl,l,c⟩,k⟩
end
def aD(H H':Hp):Prop:=∀b o,H b=some o->H' b=some o
def aD.refl(H:Hp):aD H H:=λ_ _ h=>h
def aD.trans{H H1 H2:Hp}(a:aD H H1)(b:aD H1 H2):aD H H2:=λc o h=>b c o (a c o h)
def aD.free{H H':Hp}(e:aD H H'){l:SA}(h:H' l=Xe):H l=Xe:=by
 cases q:H l with
 |none=>rfl
 |some o=>
  rw[e l o q]at h;cases h
end L2
namespace DL
open PySem PySem.Spec PySem.Calls PySem.W PyProof.Rows Builtin Builtin.ObjectAttr Builtin.Getset_descriptor
section
variable {prog:Tr}{w:TU}{A:TK}{E:Sy->SI->Prop}{h:S1}{g:Array GenState}{d:Drawn}{t:Nat}{os:OsState}{a C:SA}{o:Obj}{K:Frag}
structure nC (K:Frag) (C:SA):Prop where
 cls:findIn K (.ref C) "__class__"=some (some (.builtin "object.__class__"))
 ga:findIn K (.ref C) "__getattribute__"=some (some (.builtin "BaseException.__getattribute__"))
 gt:findIn K (.ref C) "__getattr__"=some none
 ob:mroIn K C (.type "object")=some true
 be:subIn K (.ref C) (.type "BaseException")=some true
def Lw{R:WH->SI->Prop}{tp:Sy}(X:K.In h)(Z:nC K C)(hx:h.get? a=some o)(hc:o.cls=.ref C)(hq:R (.ok (.ret (.ref C))) ⟨h,g,d,t,os⟩) :
  Vt (Tb prog w) A (.call (.builtin "getset_descriptor.__get__") ⟨[.builtin "object.__class__",.ref a,tp],[]⟩) R ⟨h,g,d,t,os⟩:=by
 have L0:Looks (Tb prog w) h (typeOf (.ref a)) (.ref C):=hc▸(Looks.ld hx).andThen .now;have L1:=looks_mroIn (M:=Tb prog w) X Z.ob;refine codeAny_call_builtin KF.slot_gs.plain KF.entry_gs (KF.slot_gs.check _ _ _ _ _ _ _ _ KF.type_class (KF.args_gs _ _ _) ?_);unfold Builtin.«getset_descriptor.__get__» descrGet;rw[dga_obj];refine SG (S5 ?_);unfold descrGetter descrCheckInstance descrNameAndClass isInstance;simp only[KF.owner_class]
 repeat lk
 refine⟨WN _ (by decide +kernel),codeAny_builtin KF.entry_class ?_⟩;unfold Builtin.«object.__class__» shownTypeOf
 repeat lk
 exact hq
def wz{M:Model}{nameV:Sy}{Q:Unit->SI->Prop}(X:K.In h)(Z:nC K C)(hx:h.get? a=some o)(hc:o.cls=.ref C)(hq:Q () ⟨h,g,d,t,os⟩):Td M A (checkBuiltinCall "BaseException.__getattribute__" ⟨[.ref a,nameV],[]⟩) Q E ⟨h,g,d,t,os⟩:=by
 have hk:builtinKind "BaseException.__getattribute__"=some .slot:=by decide +kernel
 have hsplit:splitId "BaseException.__getattribute__"=some ("BaseException","__getattribute__"):=by decide +kernel
 have ha:=F.args_bexc_ga (.ref a) nameV;have LS:Looks M h (isSubtype (.ref C) (.type "BaseException")) true:=looks_subIn X Z.be;simp only[checkBuiltinCall,hk,hsplit];refine SG ?_
 .unfold isInstance
  repeat (first|(with_reducible refine UH hx ?_;rw[hc])|(with_reducible refine LS.at ?_)|wp_step)
  exact hq
def Dr{tk:Tok}{Q:Fin->SI->Prop}(X:K.In h)(Z:nC K C)(hx:h.get? a=some o)(hc:o.cls=.ref C)(hq:Q (.done (.ret (.ref C))) ⟨h,g,d,t,os⟩) :
  Td (Tb prog w) A (Builtin.«object.__getattribute__» ⟨[.ref a,.str "__class__" tk],[]⟩) Q E ⟨h,g,d,t,os⟩:=by
 have hT5:(⟨h,g,d,t,os⟩:SI).TypeIs (.builtin "object.__class__") "getset_descriptor":=X2;have f5:=X2;have f6:=F.slot_gs_get.lookup;have f7:=F.slot_gs_set.lookup;have LC:Looks (Tb prog w) h (VR (.ref C) "__class__") (some (.builtin "object.__class__")):=looks_findIn X Z.cls
 repeat (any_goals (first|assumption|(with_reducible refine UH hx ?_;rw[hc])|(with_reducible refine LC.at ?_)|wp_step))
 refine Lw X Z hx hc ?_
 repeat (any_goals (first|assumption|wp_step))
def Ht{tk:Tok}{R:WH->SI->Prop}(X:K.In h)(Z:nC K C)(hx:h.get? a=some o)(hc:o.cls=.ref C)(hq:R (.ok (.ret (.ref C))) ⟨h,g,d,t,os⟩) :
  Vt (Tb prog w) A (.call (.builtin "BaseException.__getattribute__") ⟨[.ref a,.str "__class__" tk],[]⟩) R ⟨h,g,d,t,os⟩ :=
 codeAny_call_builtin Wg.ga.plain F.entry_bexc_ga (wz X Z hx hc (Dr X Z hx hc hq))
def Of{tk:Tok}{Q:Sy->SI->Prop}(X:K.In h)(Z:nC K C)(hx:h.get? a=some o)(hc:o.cls=.ref C)(hq:Q (.ref C) ⟨h,g,d,t,os⟩) :
  Td (Tb prog w) A (getAttrBy (.ref a) (.str "__class__" tk) false) Q E ⟨h,g,d,t,os⟩:=by
 have f3:=Wg.ga.bind (.ref a);have hx2:(Vq "BaseException.__getattribute__"==Vq "object.__getattribute__")=false:=by decide +kernel
 have hx1:(onTheHeap (Tu C)&&Vq "BaseException.__getattribute__"==Vq "object.__getattribute__")=false:=by rw[hx2];rfl
 have L1:Looks (Tb prog w) h (VR (.ref C) "__getattribute__") (some (.builtin "BaseException.__getattribute__")):=looks_findIn X Z.ga;have L2:Looks (Tb prog w) h (VR (.ref C) "__getattr__") none:=looks_findIn X Z.gt
 repeat (any_goals (first|assumption|(with_reducible refine UH hx ?_;rw[hc])|(with_reducible refine L1.at ?_)|(with_reducible refine L2.at ?_)|wp_step))
 refine Ht X Z hx hc ?_
 repeat (any_goals (first|assumption|wp_step))
def Hu{Q:Option Sy->SI->Prop}(X:K.In h)(Z:nC K C)(hx:h.get? a=some o)(hc:o.cls=.ref C)(hq:Q (some (.ref C)) ⟨h,g,d,t+1,os⟩):Td (Tb prog w) A (getAttr? (.ref a) "__class__") Q E ⟨h,g,d,t,os⟩:=by
 unfold getAttr? getAttrBy?
 repeat (any_goals (first|assumption|with_reducible apply Of X Z hx hc|wp_step))
end
def yt(a C:SA)(dc:Option SA):S1->Prop:=λh=>∃o vs,h.get? a=some o/\o.cls=.ref C/\o.data=.fields vs/\o.dict=dc
def rg{K:Frag}{a C:SA}{dc:Option SA}(Z:nC K C)(hC:(clsIn K C).isSome=true):KitX K (.ref a) (.ref C) (yt a C dc) where
 ty:=λ_ _ _ ⟨o,_,h1,h2,_⟩=>h2▸(Looks.ld h1).andThen .now
 it:=λ_ _ X _=>by
  obtain⟨cd,hcD⟩:=Wk.mp hC;unfold clsIn at hcD;split at hcD
  .rename_i c' d' cd' sl' ho
   intro A' Q' E' s' k q;unfold isType loadHead;exact SG (wpAny_loadPart (k _ _ (X _ _ ho)) (S5 q))
  .cases hcD
 ne:=λh tp dd its n sl X htp=>by
  obtain⟨cd,hcD⟩:=Wk.mp hC;refine Bool.eq_false_iff.mpr λq=>?_;have e:C=tp:=Tu.inj (beq_iff_eq.mp q);subst e;unfold clsIn at hcD;split at hcD
  .rename_i c' d' cd' sl' ho
   have z:=(X _ _ ho).symm.trans htp;cases z
  .cases hcD
 ca:=λ{_ _ _ _ _ s} X ⟨o,_,h1,h2,_⟩ k=>by
  obtain⟨h,g,d,t,os⟩:=s;exact Hu X Z h1 h2 k
def nC.isCls{K:Frag}{C:SA}(Z:nC K C):(clsIn K C).isSome=true:=by
 obtain⟨cd,a,b⟩:=XD.mp Z.ob;rw[a];rfl
def gA:List String:=["NoneType","bool","int","str","tuple","list","dict"]
structure XC (K:Frag) (x:SH) (C:SA):Prop where
 ns:nsIn K Te x=some (some (.ref C))
 ek:nC K C
 bt:∀T∈gA,kitOne K (.ref C) (.type T)=some false
end DL
namespace DL
open PySem PySem.Spec PyProof.Rows L2
def rP(o:Obj)(f:Array Sy->Array Sy):(o.mapFields f).dict=o.dict:=by unfold Obj.mapFields;split<;>rfl
def lr(h:S1)(e:SA)(dc:Option SA):Prop:=∃o,h.get? e=some o/\o.dict=dc/\(dc≠none->∃vs,o.data=.fields vs/\vs[2]?=some .none)
section
variable {M:Model}{A:TK}{E:Sy->SI->Prop}{s:SI}{base:S1}{env:Uh}{outer l:List Uh}{L e:SA}{cls a0 fl:Sy}{dc:Option SA}{Q:Unit->SI->Prop}
def xR{oe:Obj}{vs:Array Sy}{head:Sy}{b0:Bool}(hfr:A.frames=some (env::outer))(hl:s.heap.FunFrames base (env::outer))(hf:env.frame=some L)(he:s.heap.get? e=some oe)(kb:base.StaysIn s.heap)(hen:base.get? e=none)(hd:oe.data=.fields vs)(hz:1<vs.size)(h0:vs[0]?=some a0)(hx:oe.dict≠none->vs[2]?=some .none)
  (h:∀h',Yd base (env::outer) e oe.cls a0 (rawInt L) s.heap h'->lr h' e oe.dict->Q () { s with heap:=h' }) :
  Td M A (do
   let a ←frameOf env
   let pl ←entryPlaceOf L b0
   let b ←Yg head a .none (rawInt L) .none pl
   setField (.ref e) 1 b) Q E s:=by
 have nf:e∉(env::outer).filterMap (·.frame):=λhm=>by
  obtain⟨_,o,ho,q⟩:=hl.mem hm;rw[he]at ho;cases ho;exact q vs hd
 refine SG (wpAny_frameOf_fun hfr hl hf λg ⟨_,same,slots⟩=>SG (wpAny_entryPlaceOf λpl hpl=>?_));have ge:g.get? e=some oe:=(same e nf).trans he;have up:∀(N:Obj) (f:Obj->Obj) (b:SA) (o:Obj),b≠e->g.get? b=some o->((g.push N).update e f).get? b=some o:=λN f b o hb q=>(UX _ _ (TF hb)).trans (SK _ q);have ne:∀b o,s.heap.get? b=some o->(∀vs,o.data≠.fields vs)->b≠e:=λb o q z c=>by subst c;rw[he]at q;cases q;exact z vs hd
 have kg:base.StaysIn g:=λb o q=>(same b λhm=>by rw[(hl.mem hm).1]at q;cases q).trans (kb b o q);unfold Yg newFields;refine SG (wpAny_newObj_type ?_ (hpl.sizeOk5 _ _ _ _ _));have d3:=WJ hd (·.setIfInBounds 1 (Tu g.objs.size));have hTe:g.objs.size≠e:=Nat.ne_of_gt (S9 ge);have at_e:∀N:Obj,((g.push N).update e (Obj.mapFields (·.setIfInBounds 1 (Tu g.objs.size)))).get? e=some (oe.mapFields (·.setIfInBounds 1 (Tu g.objs.size))):=λN=>U4 _ (SK _ ge) (X0 d3);refine wpAny_setField (SK _ ge) hd hz (h _ ⟨λb o q=>up _ _ b o (λc=>by subst c;rw[hen]at q;cases q) (kg b o q),hl.of_keeps λb o q z=>?_,?_,λb o q z=>?_⟩ ⟨_,at_e _,rP _ _,λz=>⟨_,d3,by rw[W8 (by decide)];exact hx z⟩⟩)
 .obtain⟨sl,x⟩:=slots b o q
  exact⟨_,up _ _ b _ (ne b o q z) x,rfl⟩
 .refine⟨_,_,g.objs.size,_,_,at_e _,⟨Obj.cls_mapFields _ _,?_⟩,d3,?_,kg.fresh,hTe,(UX _ _ (TF hTe)).trans (TH g rfl),rfl,?_⟩
  .rw[W8 (by decide)];exact h0
  .simp[hz]
  .first|(simp;done)|(rcases hpl with rfl|⟨_,_,_,_,_,_,_,rfl⟩<;>simp)
 .obtain⟨sl,x⟩:=slots b o q
  exact⟨sl,up _ _ b _ (ne b o q z) x⟩
def FX{oe:Obj}{vs:Array Sy}(hfr:A.frames=some (env::outer))(hl:s.heap.FunFrames base (env::outer))(hf:env.frame=some L)(he:s.heap.get? e=some oe)(kb:base.StaysIn s.heap)(hen:base.get? e=none)(hd:oe.data=.fields vs)(h1:vs[1]?=some .none)(h0:vs[0]?=some a0)(hx:oe.dict≠none->vs[2]?=some .none)
  (h:∀h',Yd base (env::outer) e oe.cls a0 (rawInt L) s.heap h'->lr h' e oe.dict->Q () { s with heap:=h' }):Td M A (noteFrame (.ref e) env) Q E s:=by
 unfold noteFrame;simp only[hf];refine SG (wpAny_field he hd h1 ?_);rw[if_neg (by decide)];exact xR hfr hl hf he kb hen hd (Vy.mp h1).1 h0 hx h
def AU(hfr:A.frames=some (env::outer))(hl:s.heap.FunFrames base (env::outer))(hf:env.frame=some L)(ht:s.heap.TracedW base e cls a0)(hc:lr s.heap e dc)(kb:base.StaysIn s.heap)(hen:base.get? e=none)
  (h:∀h',Yd base (env::outer) e cls a0 (rawInt L) s.heap h'->lr h' e dc->Q () { s with heap:=h' }):Td M A (noteFrame (.ref e) env) Q E s:=by
 obtain⟨oe,vs,T,oT,ts,he,⟨rfl,h0⟩,hd,h1,hnT,hTe,hT,dT,h3⟩:=ht;obtain⟨o',q,rfl,cx⟩:=hc;rw[he]at q;cases q;have hx:oe.dict≠none->vs[2]?=some .none:=λz=>by
  obtain⟨vs',d',g⟩:=cx z;rw[hd]at d';cases d';exact g
 have oth:∀(f:Obj->Obj) (b:SA),b≠T->(s.heap.update T f).get? b=s.heap.get? b:=λf b hb=>UX _ _ (TF hb);have ne:∀b o,s.heap.get? b=some o->(∀vs,o.data≠.fields vs)->b≠T:=λb o q z c=>by subst c;rw[hT]at q;cases q;exact z ts dT
 unfold noteFrame;simp only[hf];refine SG (wpAny_field he hd h1 ?_);rw[if_pos (by simp)];refine SG (wpAny_field hT dT h3 ?_);rw[if_neg (by simp[rawInt])];refine SG (wpAny_setField hT dT (Vy.mp h3).1 ?_);refine xR hfr (hl.of_keeps λb o q z=>⟨o,(oth _ b (ne b o q z)).trans q,rfl⟩) hf ((oth _ e (TF hTe)).trans he) (λb o q=>(oth _ b λc=>by subst c;rw[hnT]at q;cases q).trans (kb b o q)) hen hd (Vy.mp h1).1 h0 hx λh' ⟨x1,x2,x3,x4⟩ x5=>h h' ⟨x1,x2,x3,λb o q z=>x4 b o ((oth _ b (ne b o q z)).trans q) z⟩ x5
def lO(kb:base.StaysIn s.heap)(hl:s.heap.FunFrames base l)(ht:s.heap.TracedAtW base e cls a0 fl)(hc:lr s.heap e dc)
  (h:∀h',base.StaysIn h'->h'.FunFrames base l->h'.TracedW base e cls a0->(∀b o,s.heap.get? b=some o->(∀vs,o.data≠.fields vs)->h'.get? b=some o)->lr h' e dc->Q () { s with heap:=h' }):Td M A (setFlight (.ref e) none) Q E s:=by
 obtain⟨oe,vs,T,oT,ts,he,hcl,hd,h1,hnT,hTe,hT,dT,h3⟩:=ht;have z3:3<ts.size:=(Vy.mp h3).1;have oth:∀(f:Obj->Obj) (b:SA),b≠T->(s.heap.update T f).get? b=s.heap.get? b:=λf b hb=>UX _ _ (TF hb);have ne:∀b o,s.heap.get? b=some o->(∀vs,o.data≠.fields vs)->b≠T:=λb o q z c=>by subst c;rw[hT]at q;cases q;exact z ts dT
 unfold setFlight;refine SG (wpAny_field he hd h1 ?_);rw[if_pos (by simp)];obtain⟨o',q',rfl,cx⟩:=hc;refine wpAny_setField hT dT z3 (h _ (λb o q=>(oth _ b λc=>by subst c;rw[hnT]at q;cases q).trans (kb b o q)) (hl.of_keeps λb o q z=>⟨o,(oth _ b (ne b o q z)).trans q,rfl⟩) ?_ (λb o q z=>(oth _ b (ne b o q z)).trans q) ⟨o',(oth _ e (TF hTe)).trans q',rfl,cx⟩);exact⟨oe,vs,T,_,_,(oth _ e (TF hTe)).trans he,hcl,hd,h1,hnT,hTe,U4 _ hT (X0 (WJ dT _)),WJ dT _,by simp[z3]⟩
def Qp(h:S1)(e:SA)(ox:Option SA):Prop:=∃dc,lr h e dc/\(ox=none∨ox=dc)
def rB{oe:Obj}{vs:Array Sy}(hfr:A.frames=some (env::outer))(hl:s.heap.FunFrames base (env::outer))(hf:env.frame=some L)(he:s.heap.get? e=some oe)(kb:base.StaysIn s.heap)(hen:base.get? e=none)(hd:oe.data=.fields vs)(h1:vs[1]?=some .none)(h0:vs[0]?=some a0)(hx:oe.dict≠none->vs[2]?=some .none)
  (h:∀h',Vl base outer e oe.cls a0 h'->s.heap.UpToSlots h'->lr h' e oe.dict->Q () { s with heap:=h' }):Td M A (leaving env (.ref e)) Q E s:=by
 unfold leaving;refine SG (FX hfr hl hf he kb hen hd h1 h0 hx λg ⟨k1,k2,k3,k4⟩ dg=>?_);refine lO (s:={ s with heap:=g }) k1 k2 k3 dg λh' m1 ⟨_,_,m2⟩ m3 m4 dh=>h h' ⟨m1,hen,m2,m3⟩ (λb o q z=>?_) dh;obtain⟨sl,x⟩:=k4 b o q z;exact⟨sl,m4 b _ x z⟩
def CO(hfr:A.frames=some (env::outer))(hf:env.frame=some L)(hfl:Vl base (env::outer) e cls a0 s.heap)(hc:lr s.heap e dc)
  (h:∀h',Vl base outer e cls a0 h'->s.heap.UpToSlots h'->lr h' e dc->Q () { s with heap:=h' }):Td M A (leaving env (.ref e)) Q E s:=by
 obtain⟨f1,f2,f3,f4⟩:=hfl;unfold leaving;refine SG (AU hfr f3 hf f4 hc f1 f2 λg ⟨k1,k2,k3,k4⟩ dg=>?_);refine lO (s:={ s with heap:=g }) k1 k2 k3 dg λh' m1 ⟨_,_,m2⟩ m3 m4 dh=>h h' ⟨m1,f2,m2,m3⟩ (λb o q z=>?_) dh;obtain⟨sl,x⟩:=k4 b o q z;exact⟨sl,m4 b _ x z⟩
def xP(hfr:A.frames=some (env::outer))(hf:env.frame=some L)(hfl:Vl base (env::outer) e cls a0 s.heap)(hc:lr s.heap e dc)
  (h:∀h',Heap.HeldW base (env::outer) e cls a0 L h'->s.heap.UpToSlots h'->lr h' e dc->Q () { s with heap:=h' }):Td M A (noteFrame (.ref e) env) Q E s:=by
 obtain⟨f1,f2,f3,f4⟩:=hfl;exact AU hfr f3 hf f4 hc f1 f2 λg ⟨k1,k2,k3,k4⟩ dg=>h g ⟨k1,f2,k2,k3⟩ k4 dg
def xQ(hh:Heap.HeldW base l e cls a0 L s.heap)(hc:lr s.heap e dc)(h:∀h',Vl base l e cls a0 h'->s.heap.UpToSlots h'->lr h' e dc->Q () { s with heap:=h' }):Td M A (setFlight (.ref e) none) Q E s:=by
 obtain⟨f1,f2,f3,f4⟩:=hh;exact lO f1 f3 f4 hc λh' k1 k2 k3 k4 k5=>h h' ⟨k1,f2,k2,k3⟩ (λb o q z=>⟨o.slots,k4 b o q z⟩) k5
def xS(hh:Vl base l e cls a0 s.heap)(hc:lr s.heap e dc)(h:∀h',Vl base l e cls a0 h'->s.heap.UpToSlots h'->lr h' e dc->Q () { s with heap:=h' }):Td M A (setFlight (.ref e) none) Q E s:=by
 obtain⟨f1,f2,f3,f4⟩:=hh;exact lO f1 f3 f4.at hc λh' k1 k2 k3 k4 k5=>h h' ⟨k1,f2,k2,k3⟩ (λb o q z=>⟨o.slots,k4 b o q z⟩) k5
end
def IH:Tn->Bool
 |.Starred _ _=>false
 |_=>true
def aF{e:Tn}{es:List Tn}{env:Uh}(h:IH e=true):SJ (e::es) env=(false,eval e env)::SJ es env:=by
 cases e<;>first|(rw[SJ];intros;contradiction)|rw[SJ]|(cases h)
def jE{e:Tn}{env:Uh}(h:IH e=true):SJ [e] env=[(false,eval e env)]:=by
 rw[aF h,SJ]
theorem bj{env:Uh}{pos:Pos}:∀{es:List Tn},es.all IH=true->(TZ pos (SJ es env)).any (·.1)=false
 |[],_=>by rw[SJ];rfl
 |e::es,h=>by
  rw[Va,SX]at h;rw[aF h.1];have:=bj (env:=env) (pos:=pos) h.2;show(false||(TZ pos (SJ es env)).any (·.1))=false;rw[this];rfl
def gO{e:Tn}{env:Uh}{pos:Pos}(h:IH e=true):((TZ pos (SJ [e] env)).all (λx=>!x.1)&&(VB pos (US [] env)).all (λx=>x.1.isSome)
  &&decide ([e].length+([]:List U3).length+(if([]:List U3).isEmpty then 0 else 1)<30))=true:=by
 rw[jE h,US];rfl
inductive Kd where
 |ins (c:SH) (ks:ci)|dint (ks:List Int)|exf (c:SH) (ks:ci)|pl
inductive D where
 |non|bl (b:Bool)|int (i:Int)|str (x:SH)|tup (xs:List D)|lst (xs:List D)|dic (ks:ci) (xs:List D)|exc (x:SH)|ob (k:Kd) (xs:List D)
abbrev ac:=List D
structure NX (K:SE) (ks:ci) (C:SA):Prop where
 cls:KD K C
 no:∀f∈ks,dZ K C f
 gc:Uw K (.ref C) "__class__"=some (some (.builtin "object.__class__"))
 gn:Wb K (.builtin "object.__class__") "__get__"=some (some (.builtin "getset_descriptor.__get__"))
 tk:XA K (.builtin "object.__class__")=some true
 mo:XI K C (.type "object")=some true
 bt:∀T∈gA,X7 K (.ref C) (.type T)=some false
noncomputable def tR(K:SE) (H:Hp):Kd->SA->al->Prop
 |.ins c ks,a,vs=>∃C dx,Up K Te c=some (some (.ref C))/\NX K ks C/\H a=some (.ins C dx (ks.zip vs))/\ks.length=vs.length
 |.dint ks,a,vs=>∃kvs,Rd H a (.dK kvs)/\kvs=(ks.map Wd).zip vs/\ks.length=vs.length
 |.exf c ks,a,vs=>∃C dx fs,XC K c C/\Rd H a (.ext (yt a C (some dx)))/\H dx=some (.xd fs)/\ks.length=vs.length/\∀(i:Nat) (f:SH) (v:V),ks[i]?=some f->vs[i]?=some v->fs.lookup f=some v
 |.pl,a,vs=>H a=some (.lst vs)
structure G1 where
 cls:SH
 flds:List (SH×D)
inductive ak (α:Type) where
 |ok (a:α)|exn (x:G1)|stuck
def ak.bind{α β:Type}(r:ak α)(f:α->ak β):ak β:=match r with
 |.ok a=>f a
 |.exn x=>.exn x
 |.stuck=>.stuck
mutual
def Rep(K:SE)(H:Hp):D->V->Prop
 |.non,v=>v=.non
 |.bl b,v=>v=.bl b
 |.int i,v=>v=.int i
 |.str x,v=>v=.str x
 |.tup ds,v=>∃a vs,v=.ref a/\j7 K H a vs/\Reps K H ds vs
 |.lst ds,v=>∃a vs,v=.ref a/\fM K H a vs/\Reps K H ds vs
 |.dic ks ds,v=>∃a kvs vs,v=.ref a/\Rd H a (.dK kvs)/\kvs=(ks.map Wc).zip vs/\ks.length=vs.length/\Reps K H ds vs
 |.exc x,v=>∃a C dc,v=.ref a/\XC K x C/\Rd H a (.ext (yt a C dc))
 |.ob k ds,v=>∃a vs,v=.ref a/\tR K H k a vs/\Reps K H ds vs
def Reps(K:SE)(H:Hp):ac->al->Prop
 |[],vs=>vs=[]
 |d::ds,vs=>∃v r,vs=v::r/\Rep K H d v/\Reps K H ds r
end
def aD.rd{H H':Hp}(e:aD H H'){a:SA}{o:HO}(h:Rd H a o):Rd H' a o:=by
 rcases h with h|⟨o',h⟩
 .exact .inl (e _ _ h)
 .exact .inr ⟨o',e _ _ h⟩
def aD.sqT{K:SE}{H H':Hp}(e:aD H H'){a:SA}{xs:al}(h:j7 K H a xs):j7 K H' a xs:=by
 rcases h with h|h
 .exact .inl (aD.rd e h)
 .exact .inr h
def aD.sqL{K:SE}{H H':Hp}(e:aD H H'){a:SA}{xs:al}(h:fM K H a xs):fM K H' a xs:=by
 rcases h with h|h
 .exact .inl (aD.rd e h)
 .exact .inr h
theorem tR.mono{K:SE}{H H':Hp}(e:aD H H'):∀{k:Kd}{a:SA}{vs:al},tR K H k a vs->tR K H' k a vs
 |.ins c ks,a,vs,⟨C,dx,h0,h1,h2,h3⟩=>⟨C,dx,h0,h1,e _ _ h2,h3⟩
 |.dint ks,a,vs,⟨kvs,h1,h2,h3⟩=>⟨kvs,aD.rd e h1,h2,h3⟩
 |.exf c ks,a,vs,⟨C,dx,fs,h1,h2,h3,h4⟩=>⟨C,dx,fs,h1,aD.rd e h2,e _ _ h3,h4⟩
 |.pl,a,vs,h=>e _ _ h
mutual
theorem Rep.mono{K:SE}{H H':Hp}(e:aD H H'):∀{d:D}{v:V},Rep K H d v->Rep K H' d v
 |.non,_,h=>by unfold Rep at h ⊢;exact h
 |.bl _,_,h=>by unfold Rep at h ⊢;exact h
 |.int _,_,h=>by unfold Rep at h ⊢;exact h
 |.str _,_,h=>by unfold Rep at h ⊢;exact h
 |.tup ds,_,h=>by
  unfold Rep at h ⊢;obtain⟨a,vs,e1,e2,e3⟩:=h;exact⟨a,vs,e1,aD.sqT e e2,Reps.mono e e3⟩
 |.lst ds,_,h=>by
  unfold Rep at h ⊢;obtain⟨a,vs,e1,e2,e3⟩:=h;exact⟨a,vs,e1,aD.sqL e e2,Reps.mono e e3⟩
 |.dic ks ds,_,h=>by
  unfold Rep at h ⊢;obtain⟨a,kvs,vs,e1,e2,e3,e4,e5⟩:=h;exact⟨a,kvs,vs,e1,aD.rd e e2,e3,e4,Reps.mono e e5⟩
 |.exc x,_,h=>by
  unfold Rep at h ⊢;obtain⟨a,C,dc,e1,e2,e3⟩:=h;exact⟨a,C,dc,e1,e2,aD.rd e e3⟩
 |.ob k ds,_,h=>by
  unfold Rep at h ⊢;obtain⟨a,vs,e1,e2,e3⟩:=h;exact⟨a,vs,e1,e2.mono e,Reps.mono e e3⟩
theorem Reps.mono{K:SE}{H H':Hp}(e:aD H H'):∀{ds:ac}{vs:al},Reps K H ds vs->Reps K H' ds vs
 |[],_,h=>by unfold Reps at h ⊢;exact h
 |d::ds,_,h=>by
  unfold Reps at h ⊢;obtain⟨v,r,e1,e2,e3⟩:=h;exact⟨v,r,e1,Rep.mono e e2,Reps.mono e e3⟩
end
section
variable {K:SE}{H:Hp}{v:V}{vs:al}{d:D}{ds:ac}
def aO:Rep K H .non v↔v=.non:=by unfold Rep;exact Xj
def aE{b}:Rep K H (.bl b) v↔v=.bl b:=by unfold Rep;exact Xj
def ay{i}:Rep K H (.int i) v↔v=.int i:=by unfold Rep;exact Xj
def Rep.str_iff{x}:Rep K H (.str x) v↔v=.str x:=by unfold Rep;exact Xj
def aC:Rep K H (.tup ds) v↔∃a vs,v=.ref a/\j7 K H a vs/\Reps K H ds vs:=by rw[Rep]
def aB:Rep K H (.lst ds) v↔∃a vs,v=.ref a/\fM K H a vs/\Reps K H ds vs:=by rw[Rep]
def gU{x}:Rep K H (.exc x) v↔∃a C dc,v=.ref a/\XC K x C/\Rd H a (.ext (yt a C dc)):=by rw[Rep]
def bO{k}:Rep K H (.ob k ds) v↔∃a vs,v=.ref a/\tR K H k a vs/\Reps K H ds vs:=by rw[Rep]
def Rep.exf_exc{c:SH}{ks:ci}(h:Rep K H (.ob (.exf c ks) ds) v):Rep K H (.exc c) v:=by
 obtain⟨a,vs,e,⟨C,dx,fs,h1,h2,_⟩,_⟩:=bO.mp h;exact gU.mpr ⟨a,C,some dx,e,h1,h2⟩
def Reps.nil_iff:Reps K H [] vs↔vs=[]:=by unfold Reps;exact Xj
def aA:Reps K H (d::ds) vs↔∃v r,vs=v::r/\Rep K H d v/\Reps K H ds r:=by rw[Reps]
def Reps.nil:Reps K H [] []:=Reps.nil_iff.mpr rfl
def Reps.cons(h:Rep K H d v)(h':Reps K H ds vs):Reps K H (d::ds) (v::vs):=aA.mpr ⟨_,_,rfl,h,h'⟩
end
theorem Reps.length{K:SE}{H:Hp}:∀{ds:ac}{vs:al},Reps K H ds vs->ds.length=vs.length
 |[],_,h=>by rw[Reps.nil_iff.mp h];rfl
 |d::ds,_,h=>by
  obtain⟨v,r,rfl,_,h⟩:=aA.mp h;simp[Reps.length h]
theorem Reps.get{K:SE}{H:Hp}:∀{ds:ac}{vs:al}{i:Nat}{d:D},Reps K H ds vs->ds[i]?=some d->∃v,vs[i]?=some v/\Rep K H d v
 |[],_,_,_,h,e=>by simp at e
 |x::ds,_,0,d,h,e=>by
  obtain⟨v,r,rfl,h1,_⟩:=aA.mp h;simp at e;subst e;exact⟨v,rfl,h1⟩
 |x::ds,_,i+1,d,h,e=>by
  obtain⟨v,r,rfl,_,h2⟩:=aA.mp h;obtain⟨u,e1,e2⟩:=Reps.get (i:=i) h2 (by simpa using e);exact⟨u,by simpa using e1,e2⟩
theorem Reps.app{K:SE}{H:Hp}:∀{ds es:ac}{vs us:al},Reps K H ds vs->Reps K H es us->Reps K H (ds++es) (vs++us)
 |[],_,_,_,h,h'=>by rw[Reps.nil_iff.mp h];exact h'
 |d::ds,_,_,_,h,h'=>by
  obtain⟨v,r,rfl,h1,h2⟩:=aA.mp h;exact Reps.cons h1 (Reps.app h2 h')
theorem Reps.take{K:SE}{H:Hp}:∀{ds:ac}{vs:al}(n:Nat),Reps K H ds vs->Reps K H (ds.take n) (vs.take n)
 |_,_,0,_=>by simp;exact Reps.nil
 |[],_,n+1,h=>by rw[Reps.nil_iff.mp h];exact Reps.nil
 |d::ds,_,n+1,h=>by
  obtain⟨v,r,rfl,h1,h2⟩:=aA.mp h;exact Reps.cons h1 (Reps.take n h2)
theorem Reps.drop{K:SE}{H:Hp}:∀{ds:ac}{vs:al}(n:Nat),Reps K H ds vs->Reps K H (ds.drop n) (vs.drop n)
 |_,_,0,h=>by simpa using h
 |[],_,n+1,h=>by rw[Reps.nil_iff.mp h];exact Reps.nil
 |d::ds,_,n+1,h=>by
  obtain⟨v,r,rfl,h1,h2⟩:=aA.mp h;exact Reps.drop n h2
theorem uQ{K:SE}{H:Hp}:∀(ns:List Int),Reps K H (ns.map D.int) (ns.map V.int)
 |[]=>Reps.nil
 |n::r=>Reps.cons (ay.mpr rfl) (uQ r)
structure bh (H Ha H' Ha':Hp):Prop where
 s:aD H H'
 z:aD Ha Ha'
 sub:aD Ha' H'
 nw:∀a,Ha' a≠none->Ha a=none->H a=none
def bh.refl{H Ha:Hp}(h:aD Ha H):bh H Ha H Ha:=⟨aD.refl _,aD.refl _,h,λa h1 h2=>absurd h2 h1⟩
theorem bh.trans{H Ha H1 H01 H2 H02:Hp}(a:bh H Ha H1 H01)(b:bh H1 H01 H2 H02):bh H Ha H2 H02 :=
 ⟨a.s.trans b.s,a.z.trans b.z,b.sub,λx h1 h2=>by
  cases q:H01 x with
  |none=>exact a.s.free (b.nw x h1 q)
  |some o=>exact a.nw x (by rw[q];simp) h2⟩
def aI{H Ha:Hp}{p:SA}{o:HO}(hs:aD Ha H)(hp:H p=none):bh H Ha (upd H p o) (upd Ha p o) :=
 ⟨same_new hp o,same_new (hs.free hp) o,λb u e=>by
  by_cases hb:b=p
  .subst hb;rw[az]at e ⊢;exact e
  .rw[ax hb]at e ⊢;exact hs _ _ e,λa h1 h2=>by
  by_cases hb:a=p
  .subst hb;exact hp
  .rw[ax hb]at h1;exact absurd h2 h1⟩
where
 same_new {H:Hp}{p:SA}(h:H p=none) (o:HO):aD H (upd H p o):=λb u q=>by rw[ax (bg q h)];exact q
inductive Sl where
 |no|sh (d:D)|ow (d:D)|ox (j:Nat) (ds:ac)|pt (a:SA)
abbrev Ev:=List Sl
abbrev am:=Ev->ak D
def ez(K:SE)(Ha:Hp)(σ:L2.St)(ρ:Ev):Prop:=∀(i:Nat) (d:D),ρ[i]?=some (.sh d)->∃v,σ[i]?=some (some v)/\Rep K Ha d v
def ez.mono{K:SE}{H H':Hp}{σ:L2.St}{ρ:Ev}(e:aD H H')(r:ez K H σ ρ):ez K H' σ ρ:=λi d h=>
 let ⟨v,h1,h2⟩:=r i d h
 ⟨v,h1,h2.mono e⟩
def wq(K:SE)(H:Hp)(x:G1)(C:Sy)(ox:Option SA):Prop :=
 (∃c,C=.ref c/\XC K x.cls c)/\match ox with
  |none=>x.flds=[]
  |some a=>∃fs,H a=some (.xd fs)/\∀n d,x.flds.lookup n=some d->∃v,fs.lookup n=some v/\Rep K H d v
def post(K:SE)(E:XK)(H Ha:Hp)(r:ak D)(Q:VK):Prop:=match r with
 |.ok d=>∀v H' Ha',bh H Ha H' Ha'->Rep K Ha' d v->Q v H'
 |.exn x=>∀C ox H' Ha',bh H Ha H' Ha'->wq K Ha' x C ox->E C ox H'
 |.stuck=>False
def qR(K:SE)(E:XK)(H Ha:Hp)(r:ak (ac))(Q:al->Hp->Prop):Prop:=match r with
 |.ok ds=>∀vs H' Ha',bh H Ha H' Ha'->Reps K Ha' ds vs->Q vs H'
 |.exn x=>∀C ox H' Ha',bh H Ha H' Ha'->wq K Ha' x C ox->E C ox H'
 |.stuck=>False
def qS(K:SE)(E:XK)(H Ha:Hp)(r:ak D)(Q:Bool->Hp->Prop):Prop:=match r with
 |.ok (.bl b)=>∀H' Ha',bh H Ha H' Ha'->Q b H'
 |.ok _=>False
 |.exn x=>∀C ox H' Ha',bh H Ha H' Ha'->wq K Ha' x C ox->E C ox H'
 |.stuck=>False
section
variable {K:SE}{E:XK}{H Ha H1 H01:Hp}
def post.grow{r:ak D}{Q:VK}(h:post K E H Ha r Q)(g:bh H Ha H1 H01):post K E H1 H01 r Q:=by
 cases r with|ok d=>exact λv H' Ha' g'=>h v H' Ha' (g.trans g')|exn x=>exact λC ox H' Ha' g'=>h C ox H' Ha' (g.trans g')|stuck=>exact h
def qR.grow{r:ak (ac)}{Q:al->Hp->Prop}(h:qR K E H Ha r Q)(g:bh H Ha H1 H01):qR K E H1 H01 r Q:=by
 cases r with|ok d=>exact λv H' Ha' g'=>h v H' Ha' (g.trans g')|exn x=>exact λC ox H' Ha' g'=>h C ox H' Ha' (g.trans g')|stuck=>exact h
def qS.grow{r:ak D}{Q:Bool->Hp->Prop}(h:qS K E H Ha r Q)(g:bh H Ha H1 H01):qS K E H1 H01 r Q:=by
 cases r with
 |ok d=>
  cases d with|bl b=>exact λH' Ha' g'=>h H' Ha' (g.trans g')| _=>exact h
 |exn x=>exact λC ox H' Ha' g'=>h C ox H' Ha' (g.trans g')
 |stuck=>exact h
end
def tD(K:SE)(E:XK)(f:am):TE:=λσ H Q=>∃Ha ρ,aD Ha H/\ez K Ha σ ρ/\post K E H Ha (f ρ) Q
def RL(K:SE)(E:XK)(f:Ev->ak (ac)):TA:=λσ H Q=>∃Ha ρ,aD Ha H/\ez K Ha σ ρ/\qR K E H Ha (f ρ) Q
def N3(K:SE)(E:XK)(f:am):TT:=λσ H Q=>∃Ha ρ,aD Ha H/\ez K Ha σ ρ/\qS K E H Ha (f ρ) Q
structure DE (X:Cx) (E:XK) (e:Tn) (f:am):Prop where
 o:PE X e (tD X.K E f)
structure DA (X:Cx) (E:XK) (es:List Tn) (f:Ev->ak (ac)):Prop where
 o:PA X es (RL X.K E f)
structure DT (X:Cx) (E:XK) (e:Tn) (f:am):Prop where
 o:PT X e (N3 X.K E f)
structure DW (X:Cx) (E:XK) (e:Tn) (f:am):Prop where
 o:PW X e (N3 X.K E f)
section
variable {X:Cx}{E:XK}{e a b:Tn}{es:List Tn}{f g:am}{fa:Ev->ak (ac)}{pos:Pos}
def bc{t t':TE}(h:PE X e t)(w:∀σ H Q,t' σ H Q->t σ H Q):PE X e t':=λπ s σ H Q I q=>h π s σ H Q I (w σ H Q q)
def Ap{t t':TA}(h:PA X es t)(w:∀σ H Q,t' σ H Q->t σ H Q):PA X es t':=λpos π s σ H Q I q=>h pos π s σ H Q I (w σ H Q q)
def pU{t t':TT}(h:PT X e t)(w:∀σ H Q,t' σ H Q->t σ H Q):PT X e t':=λπ s σ H Q I q=>h π s σ H Q I (w σ H Q q)
def Ah{t t':TT}(h:PW X e t)(w:∀σ H Q,t' σ H Q->t σ H Q):PW X e t':=λwh π s σ H Q I q=>h wh π s σ H Q I (w σ H Q q)
def ag(i:Nat):am:=λρ=>match ρ[i]? with
 |some (.sh d)=>.ok d
 |_=>.stuck
def dC(d:D):am:=λ_=>.ok d
def ND{i:Nat}{x:SH}(hN:X.N[i]?=some x)(hv:yh X.env.scope x)(hd:(x==("__debug__" : SH))=false:=by decide)(hcd:(x==("__classdict__" : SH))=false:=by decide):DE X E (.Name x pos) (ag i):=by
 refine⟨?_⟩;refine bc (gq hN hv hd hcd) λσ H Q ⟨Ha,ρ,hs,hr,q⟩=>?_;unfold ag at q;cases e:ρ[i]? with
 |none=>rw[e]at q;exact q.elim
 |some s=>
  rw[e]at q;cases s with
  |sh d=>
   obtain⟨v,e1,e2⟩:=hr i d e;exact⟨v,e1,q v H Ha (bh.refl hs) e2⟩
  |no|ow d|ox j ds|pt a=>exact q.elim
def ai{i j}:DE X E (.Constant (.int i) j pos) (dC (.int i)):=⟨bc nP λσ H Q ⟨Ha,ρ,hs,hr,q⟩=>q _ H Ha (bh.refl hs) (ay.mpr rfl)⟩
def dM{i j}:DE X E (.Constant (.bool i) j pos) (dC (.bl i)):=⟨bc O8 λσ H Q ⟨Ha,ρ,hs,hr,q⟩=>q _ H Ha (bh.refl hs) (aE.mpr rfl)⟩
def dJ{j}:DE X E (.Constant .none j pos) (dC .non):=⟨bc yP λσ H Q ⟨Ha,ρ,hs,hr,q⟩=>q _ H Ha (bh.refl hs) (aO.mpr rfl)⟩
def bq{x j}:DE X E (.Constant (.str x) j pos) (dC (.str x)):=⟨bc Mo λσ H Q ⟨Ha,ρ,hs,hr,q⟩=>q _ H Ha (bh.refl hs) (Rep.str_iff.mpr rfl)⟩
def Kj{x:SH}{v:V}{u:Sy}{d:D}(hg:Gl X x)(hm:X.mg x=some u)(r:bW v u)(hr:∀H,Rep X.K H d v)(hd:(x==("__debug__" : SH))=false:=by decide):DE X E (.Name x pos) (dC d) :=
 ⟨bc (Am hg hm r hd) λσ H Q ⟨Ha,ρ,hs,hr',q⟩=>q _ H Ha (bh.refl hs) (hr Ha)⟩
def af(f g:am)(op:D->D->ak D):am:=λρ=>(f ρ).bind λx=>(g ρ).bind λy=>op x y
def aS(f:am)(op:D->ak D):am:=λρ=>(f ρ).bind op
def Bo(K:SE)(E:XK)(r:R2)(op:D->D->ak D):Prop:=∀(x y:D) (v u:V) (H Ha:Hp) (Q:VK),aD Ha H->Rep K Ha x v->Rep K Ha y u->post K E H Ha (op x y) Q->r v u H Q
def lC{r:R2}{op:D->D->ak D}(ho:Bo X.K E r op)(σ:L2.St)(H:Hp)(Q:VK)(h:tD X.K E (af f g op) σ H Q):OB r (tD X.K E f) (tD X.K E g) σ H Q:=by
 obtain⟨Ha,ρ,hs,hr,q⟩:=h;refine⟨Ha,ρ,hs,hr,?_⟩;unfold af at q;cases e1:f ρ with
 |stuck|exn x=>rw[e1]at q;exact q
 |ok x=>
  rw[e1]at q;intro v H1 H01 g1 r1;refine⟨H01,ρ,g1.sub,hr.mono g1.z,?_⟩;replace q:post X.K E H Ha ((g ρ).bind λy=>op x y) Q:=q;replace q:=q.grow g1;cases e2:g ρ with
  |stuck|exn x=>rw[e2]at q;exact q
  |ok y=>
   rw[e2]at q;intro u H2 H02 g2 r2;exact ho x y v u H2 H02 Q g2.sub (r1.mono g2.z) r2 (post.grow (r:=op x y) q g2)
def rR{op:Operator}{r:R2}{o:D->D->ak D}(h:gX X (binaryOp op) r)(ho:Bo X.K E r o)(ha:DE X E a f)(hb:DE X E b g):DE X E (.BinOp a op b pos) (af f g o) :=
 ⟨bc (EN h ha.o hb.o) (lC ho)⟩
def fD{op:CmpOp}{r:R2}{o:D->D->ak D}(h:gX X (Uc op) r)(ho:Bo X.K E r o)(ha:DE X E a f)(hb:DE X E b g)(hm:behindInMarks op b=false):DE X E (.Compare a [op] [b] pos) (af f g o) :=
 ⟨bc (Iw h ha.o hb.o hm) (lC ho)⟩
def Qe{r:R2}{o:D->D->ak D}(h:Hd X r)(ho:Bo X.K E r o)(ha:DE X E a f)(hb:DE X E b g)(hs:kF b):DE X E (.Subscript a b pos) (af f g o) :=
 ⟨bc (w6 h ha.o hb.o hs) (lC ho)⟩
def Sw(K:SE)(E:XK)(r:V->Hp->VK->Prop)(op:D->ak D):Prop:=∀(x:D) (v:V) (H Ha:Hp) (Q:VK),aD Ha H->Rep K Ha x v->post K E H Ha (op x) Q->r v H Q
def Qc{op:UnaryOp}{r:V->Hp->VK->Prop}{o:D->ak D}(h:QD X (unaryOp op) r)(ho:Sw X.K E r o)(ha:DE X E a f):DE X E (.UnaryOp op a pos) (aS f o):=by
 refine⟨?_⟩;refine bc (KZ h ha.o) λσ H Q z9=>?_;obtain⟨Ha,ρ,hs,hr,q⟩:=z9;refine⟨Ha,ρ,hs,hr,?_⟩
 unfold aS at q;cases e1:f ρ with
 |stuck|exn x=>rw[e1]at q;exact q
 |ok x=>
  rw[e1]at q;intro v H1 H01 g1 r1;exact ho x v H1 H01 Q g1.sub r1 (post.grow (r:=o x) q g1)
def au:Ev->ak (ac):=λ_=>.ok []
def ae(f:am)(fa:Ev->ak (ac)):Ev->ak (ac):=λρ=>(f ρ).bind λx=>(fa ρ).bind λxs=>.ok (x::xs)
def aj:DA X E [] au:=⟨Ap e7 λσ H Q ⟨Ha,ρ,hs,hr,q⟩=>q [] H Ha (bh.refl hs) Reps.nil⟩
def aa(ha:DE X E e f)(hr:DA X E es fa)(hs:SJ (e::es) X.env=(false,eval e X.env)::SJ es X.env:=by exact aF rfl):DA X E (e::es) (ae f fa):=by
 refine⟨?_⟩;refine Ap (cG ha.o hr.o hs) λσ H Q z9=>?_;obtain⟨Ha,ρ,hs,hr,q⟩:=z9;refine⟨Ha,ρ,hs,hr,?_⟩
 unfold ae at q;cases e1:f ρ with
 |stuck|exn x=>rw[e1]at q;exact q
 |ok x=>
  rw[e1]at q;intro v H1 H01 g1 r1;refine⟨H01,ρ,g1.sub,hr.mono g1.z,?_⟩;replace q:qR X.K E H Ha ((fa ρ).bind λxs=>.ok (x::xs)) Q:=q;replace q:=q.grow g1;cases e2:fa ρ with
  |stuck|exn x=>rw[e2]at q;exact q
  |ok xs=>
   rw[e2]at q;intro us H2 H02 g2 r2;exact q (v::us) H2 H02 g2 (Reps.cons (r1.mono g2.z) r2)
def line:Nat:=1000000
def eg{n:Nat}(h:n<=line):n<=sizeLine:=SW h (by decide)
def ao(fa:Ev->ak (ac))(m:ac->ak D):am:=λρ=>(fa ρ).bind m
def dE:ac->ak D:=λds=>if ds.length<=line then .ok (.tup ds) else .stuck
def cY:ac->ak D:=λds=>if ds.length<=line then .ok (.lst ds) else .stuck
def lX{m:ac->ak D}{r:al->Hp->VK->Prop}(ho:∀(ds:ac) (vs:al) (H Ha:Hp) (Q:VK),aD Ha H->Reps X.K Ha ds vs->post X.K E H Ha (m ds) Q->r vs H Q)
  (σ:L2.St)(H:Hp)(Q:VK)(h:tD X.K E (ao fa m) σ H Q):RL X.K E fa σ H λvs H1=>r vs H1 Q:=by
 obtain⟨Ha,ρ,hs,hr,q⟩:=h;refine⟨Ha,ρ,hs,hr,?_⟩;unfold ao at q;cases e1:fa ρ with
 |stuck|exn x=>rw[e1]at q;exact q
 |ok x=>
  rw[e1]at q;intro v H1 H01 g1 r1;exact ho x v H1 H01 Q g1.sub r1 (post.grow (r:=m x) q g1)
def bR{x1}(h:DA X E es fa):DE X E (.Tuple es x1 pos) (ao fa dE):=by
 refine⟨?_⟩;refine bc (EL h.o) (lX (r:=λxs H1 Q=>xs.length<=sizeLine/\∀p,H1 p=none->Q (.ref p) (upd H1 p (.tup xs))) λds vs H Ha Q hs hr q=>?_);unfold dE at q
 by_cases hl:ds.length<=line
 .rw[if_pos hl]at q
  refine⟨by rw[←hr.length];exact eg hl,λp hp=>q _ _ _ (aI hs hp) (aC.mpr ⟨p,vs,rfl,j7.of az,hr.mono (aI hs hp).z⟩)⟩
 .rw[if_neg hl]at q;exact q.elim
def cK(h:DA X E es fa):DE X E (.List es pos) (ao fa cY):=by
 refine⟨?_⟩;refine bc (qU h.o) (lX (r:=λxs H1 Q=>xs.length<=sizeLine/\∀p,H1 p=none->Q (.ref p) (upd H1 p (.lst xs))) λds vs H Ha Q hs hr q=>?_);unfold cY at q
 by_cases hl:ds.length<=line
 .rw[if_pos hl]at q
  refine⟨by rw[←hr.length];exact eg hl,λp hp=>q _ _ _ (aI hs hp) (aB.mpr ⟨p,vs,rfl,fM.of az,hr.mono (aI hs hp).z⟩)⟩
 .rw[if_neg hl]at q;exact q.elim
def spD(K:SE)(n:Nat)(m:ac->ak D):Sp:=λvs H Q E=>vs.length=n/\∃Ha ds,aD Ha H/\Reps K Ha ds vs/\post K E H Ha (m ds) Q
def Kl{CX:tT}{k n:Nat}{fn:SA}{fd:TQ}{ps:ci}{m:ac->ak D}{x:SH}{p:Pos}(F:FnOk X.prog X.w X.K X.mg X.base CX k fn fd ps (spD X.K n m))(hr:dw k X.A)(hg:Gl X x)(hm:X.mg x=some (.ref fn))
  (hk:Vv X.K (.ref fn)=true)(hb:gb X.K fd ps [])(hx:ic CX X E)(ha:DA X E (e::es) fa)(hn:(e::es).length=n:=by rfl)(hl:∀ρ ds,fa ρ=.ok ds->ds.length=(e::es).length)
  (hdb:(x==("__debug__" : SH))=false:=by decide)(he:SJ (e::es) X.env=(false,eval e X.env)::SJ es X.env:=by exact aF rfl)(hpl:(TZ pos (SJ es X.env)).any (·.1)=false:=by exact bj rfl) :
  DE X E (.Call (.Name x p) (e::es) [] pos) (ao fa m):=by
 refine⟨?_⟩;refine bc (An F hr hg hm hk hb .nil hx ha.o hdb he hpl) λσ H Q h=>?_;obtain⟨Ha,ρ,hs,hr,q⟩:=h;refine⟨Ha,ρ,hs,hr,?_⟩;unfold ao at q;cases e1:fa ρ with
 |stuck|exn x=>rw[e1]at q;exact q
 |ok ds=>
  rw[e1]at q;intro v H1 H01 g1 r1;refine⟨?_,H01,ds,g1.sub,by simpa using r1,post.grow (r:=m ds) q g1⟩;have:=r1.length;have:=hl ρ ds e1;simp only[Ut];omega
def GO{ρ:Ev}{ds:ac}(h:au ρ=.ok ds):ds.length=0:=by cases h;rfl
def oz{ρ:Ev}{ds:ac}{n:Nat}(hr:∀es,fa ρ=.ok es->es.length=n)(h:ae f fa ρ=.ok ds):ds.length=n+1:=by
 unfold ae at h;cases e1:f ρ with
 |stuck|exn x=>rw[e1]at h;cases h
 |ok x=>
  rw[e1]at h;replace h:((fa ρ).bind λxs=>ak.ok (x::xs))=.ok ds:=h;cases e2:fa ρ with
  |stuck|exn x=>rw[e2]at h;cases h
  |ok xs=>
   rw[e2]at h;cases h;simp[hr xs e2]
def jx(X:Cx)(E:XK)(r:al->Hp->VK->Prop)(m:ac->ak D):Prop:=∀(ds:ac) (vs:al) (H Ha:Hp) (Q:VK),aD Ha H->Reps X.K Ha ds vs->post X.K E H Ha (m ds) Q->r vs H Q
def aM{id:String}{r:al->Hp->VK->Prop}{m:ac->ak D}{x:SH}{p:Pos}(hc:iU X (.builtin id) r)(hd:jx X E r m)(hg:Gl X x)(hm:X.mg x=none)(hv:bootBuiltins x=some (.builtin id))(ha:DA X E (e::es) fa)(hn:x≠"__name__":=by decide)(hdb:(x==("__debug__" : SH))=false:=by decide)
  (he:SJ (e::es) X.env=(false,eval e X.env)::SJ es X.env:=by exact aF rfl)(hpl:(TZ pos (SJ es X.env)).any (·.1)=false:=by exact bj rfl):DE X E (.Call (.Name x p) (e::es) [] pos) (ao fa m) :=
 ⟨bc (qV hc hg hm hv ha.o hn hdb he hpl) (lX hd)⟩
def Gk(h:PT X e (tB (tD X.K E f))):DT X E e f:=by
 refine⟨?_⟩;refine pU h λσ H Q z9=>?_;obtain⟨Ha,ρ,hs,hr,q⟩:=z9;refine⟨Ha,ρ,hs,hr,?_⟩
 cases e1:f ρ with
 |stuck|exn x=>rw[e1]at q;exact q
 |ok d=>
  rw[e1]at q;intro v H1 H01 g1 r1;cases d with|bl b=>rw[aE.mp r1];exact⟨b,rfl,q H1 H01 g1⟩| _=>exact q.elim
def bH(h:DE X E e f)(he:∀whole,isTrue e X.env whole=(do let v ←whole;standAt e.pos;XG [v] (truthy v)):=by intro _;rfl):DT X E e f:=Gk (EC h.o he)
def aJ{op:CmpOp}{r:R2}{o:D->D->ak D}(h:gX X (Uc op) r)(ho:Bo X.K E r o)(ha:DE X E a f)(hb:DE X E b g)(hm:behindInMarks op b=false):DT X E (.Compare a [op] [b] pos) (af f g o):=by
 refine⟨?_⟩;refine pU (Ij h ha.o hb.o hm) λσ H Q h=>?_;have w:tD X.K E (af f g o) σ H λx H'=>∃k,x=.bl k/\Q k H':=by
  obtain⟨Ha,ρ,hs,hr,q⟩:=h;refine⟨Ha,ρ,hs,hr,?_⟩;cases e1:af f g o ρ with
  |stuck|exn x=>rw[e1]at q;exact q
  |ok d=>
   rw[e1]at q;intro v H1 H01 g1 r1;cases d with|bl b=>rw[aE.mp r1];exact⟨b,rfl,q H1 H01 g1⟩| _=>exact q.elim
 exact lC ho σ H _ w
def bV(f:am):am:=aS f λx=>match x with
 |.bl b=>.ok (.bl (!b))
 |_=>.stuck
def gh(f g:am):am:=λρ=>(f ρ).bind λx=>match x with
 |.bl true=>g ρ
 |.bl false=>.ok (.bl false)
 |_=>.stuck
def fE(f g:am):am:=λρ=>(f ρ).bind λx=>match x with
 |.bl true=>.ok (.bl true)
 |.bl false=>g ρ
 |_=>.stuck
def bQ(ha:DT X E a f):DT X E (.UnaryOp .Not a pos) (bV f):=by
 refine⟨?_⟩;refine pU (ED ha.o) λσ H Q z9=>?_;obtain⟨Ha,ρ,hs,hr,q⟩:=z9;refine⟨Ha,ρ,hs,hr,?_⟩
 unfold bV aS at q;cases e1:f ρ with
 |stuck|exn x=>rw[e1]at q;exact q
 |ok d=>
  rw[e1]at q;cases d with|bl b=>exact q| _=>exact q.elim
def Gw(ha:DE X E a f):DE X E (.UnaryOp .Not a pos) (bV f):=by
 refine⟨?_⟩;refine bc (Mp ha.o) λσ H Q z9=>?_;obtain⟨Ha,ρ,hs,hr,q⟩:=z9;refine⟨Ha,ρ,hs,hr,?_⟩
 unfold bV aS at q;cases e1:f ρ with
 |stuck|exn x=>rw[e1]at q;exact q
 |ok d=>
  rw[e1]at q;intro v H1 H01 g1 r1;cases d with|bl b=>rw[aE.mp r1];exact⟨b,rfl,q (.bl !b) H1 H01 g1 (aE.mpr rfl)⟩| _=>exact q.elim
variable {rest:List Tn}
def iL(ha:DT X E a f):DW X E (.BoolOp .And [a] pos) f:=⟨Ii ha.o⟩
def aW(ha:DT X E a f):DW X E (.BoolOp .Or [a] pos) f:=⟨Md ha.o⟩
def rK(ha:DT X E a f)(hb:DW X E (.BoolOp .And (b::rest) pos) g):DW X E (.BoolOp .And (a::b::rest) pos) (gh f g):=by
 refine⟨?_⟩;refine Ah (Me ha.o hb.o) λσ H Q z9=>?_;obtain⟨Ha,ρ,hs,hr,q⟩:=z9;refine⟨Ha,ρ,hs,hr,?_⟩
 unfold gh at q;cases e1:f ρ with
 |stuck|exn x=>rw[e1]at q;exact q
 |ok d=>
  rw[e1]at q;cases d with
  |bl b=>
   cases b with|true=>exact λH1 H01 g1=>⟨H01,ρ,g1.sub,hr.mono g1.z,qS.grow (r:=g ρ) q g1⟩|false=>exact λH1 H01 g1=>q H1 H01 g1
  |_=>exact q.elim
def cB(ha:DT X E a f)(hb:DW X E (.BoolOp .Or (b::rest) pos) g):DW X E (.BoolOp .Or (a::b::rest) pos) (fE f g):=by
 refine⟨?_⟩;refine Ah (O1 ha.o hb.o) λσ H Q z9=>?_;obtain⟨Ha,ρ,hs,hr,q⟩:=z9;refine⟨Ha,ρ,hs,hr,?_⟩
 unfold fE at q;cases e1:f ρ with
 |stuck|exn x=>rw[e1]at q;exact q
 |ok d=>
  rw[e1]at q;cases d with
  |bl b=>
   cases b with|false=>exact λH1 H01 g1=>⟨H01,ρ,g1.sub,hr.mono g1.z,qS.grow (r:=g ρ) q g1⟩|true=>exact λH1 H01 g1=>q H1 H01 g1
  |_=>exact q.elim
def DW.dt(h:DW X E e f):DT X E e f:=⟨PW.pt h.o⟩
def iM{op}(h:DE X E a f):DE X E (.BoolOp op [a] pos) f:=⟨EO h.o⟩
def jz(ha:DE X E a f)(hb:DE X E (.BoolOp .And (b::rest) pos) g):DE X E (.BoolOp .And (a::b::rest) pos) (gh f g):=by
 refine⟨?_⟩;refine bc (EV ha.o hb.o) λσ H Q z9=>?_;obtain⟨Ha,ρ,hs,hr,q⟩:=z9;refine⟨Ha,ρ,hs,hr,?_⟩
 unfold gh at q;cases e1:f ρ with
 |stuck|exn x=>rw[e1]at q;exact q
 |ok d=>
  rw[e1]at q;intro v H1 H01 g1 r1;cases d with
  |bl b=>
   rw[aE.mp r1];cases b with|true=>exact⟨true,rfl,H01,ρ,g1.sub,hr.mono g1.z,post.grow (r:=g ρ) q g1⟩|false=>exact⟨false,rfl,q (.bl false) H1 H01 g1 (aE.mpr rfl)⟩
  |_=>exact q.elim
def Qd(ha:DE X E a f)(hb:DE X E (.BoolOp .Or (b::rest) pos) g):DE X E (.BoolOp .Or (a::b::rest) pos) (fE f g):=by
 refine⟨?_⟩;refine bc (O6 ha.o hb.o) λσ H Q z9=>?_;obtain⟨Ha,ρ,hs,hr,q⟩:=z9;refine⟨Ha,ρ,hs,hr,?_⟩
 unfold fE at q;cases e1:f ρ with
 |stuck|exn x=>rw[e1]at q;exact q
 |ok d=>
  rw[e1]at q;intro v H1 H01 g1 r1;cases d with
  |bl b=>
   rw[aE.mp r1];cases b with|false=>exact⟨false,rfl,H01,ρ,g1.sub,hr.mono g1.z,post.grow (r:=g ρ) q g1⟩|true=>exact⟨true,rfl,q (.bl true) H1 H01 g1 (aE.mpr rfl)⟩
  |_=>exact q.elim
def G6(c f g:am):am:=λρ=>(c ρ).bind λx=>match x with
 |.bl true=>f ρ
 |.bl false=>g ρ
 |_=>.stuck
def jU{c:Tn}{fc:am}(hc:DT X E c fc)(ha:DE X E a f)(hb:DE X E b g):DE X E (.IfExp c a b pos) (G6 fc f g):=by
 refine⟨?_⟩;refine bc (ES hc.o ha.o hb.o) λσ H Q z9=>?_;obtain⟨Ha,ρ,hs,hr,q⟩:=z9;refine⟨Ha,ρ,hs,hr,?_⟩
 unfold G6 at q;cases e1:fc ρ with
 |stuck|exn x=>rw[e1]at q;exact q
 |ok d=>
  rw[e1]at q;cases d with
  |bl b=>
   cases b with|true=>exact λH1 H01 g1=>⟨H01,ρ,g1.sub,hr.mono g1.z,post.grow (r:=f ρ) q g1⟩|false=>exact λH1 H01 g1=>⟨H01,ρ,g1.sub,hr.mono g1.z,post.grow (r:=g ρ) q g1⟩
  |_=>exact q.elim
end
noncomputable def RC(K:SE) (Ha H:Hp) (a:SA) (d:D):Prop:=match d with
 |.lst ds=>∃vs,H a=some (.lst vs)/\Reps K Ha ds vs
 |.dic ks ds=>∃vs,H a=some (.dK ((ks.map Wc).zip vs))/\ks.length=vs.length/\Reps K Ha ds vs
 |.ob (.dint ks) ds=>∃vs,H a=some (.dK ((ks.map Wd).zip vs))/\ks.length=vs.length/\Reps K Ha ds vs
 |_=>False
def vc(j k:Nat):Bool:=if j=99 then decide (k<=1) else k==j
noncomputable def QG(K:SE) (He Ha H:Hp) (a:SA) (j:Nat) (ds:ac) (P:Nat->SA):Prop:=∃vs,He a=none/\H a=some (.tup vs)/\ds.length=vs.length /\
 (∀k,vc j k=true->∃es us,He (P k)=none/\Ha (P k)=none/\ds[k]?=some (.lst es)/\vs[k]?=some (.ref (P k))/\H (P k)=some (.lst us)/\Reps K Ha es us) /\
 (∀k l,vc j k=true->vc j l=true->P k=P l->k=l)/\∀k d v,vc j k=false->ds[k]?=some d->vs[k]?=some v->Rep K Ha d v
noncomputable def OX(K:SE) (He Ha:Hp) (σ:L2.St) (H:Hp) (ρ:Ev):Prop:=(∀(i j:Nat) (ds:ac),ρ[i]?=some (.ox j ds)->∃a P,σ[i]?=some (some (.ref a))/\QG K He Ha H a j ds P/\(∀(k:Nat) (d:D) (l:Nat),vc j l=true->ρ[k]?=some (.ow d)->σ[k]?≠some (some (.ref (P l))))/\∀(k j':Nat) (ds':ac),ρ[k]?=some (.ox j' ds')->k=i)/\∀(i:Nat) (a:SA),ρ[i]?=some (.pt a)->σ[i]?=some (some (.ref a))
def OX.upd{K:SE}{He Ha Ha' H H':Hp}{σ σ':L2.St}{ρ ρ':Ev}(h:OX K He Ha σ H ρ)
  (hk:∀(j:Nat) (s:Sl),ρ'[j]?=some s->(ρ[j]?=some s/\σ'[j]?=σ[j]?)∨(∃d,s=.sh d)∨s=.no∨∃d q,s=.ow d/\σ'[j]?=some (some (.ref q))/\∀(i j:Nat) (ds:ac) (a:SA) (P:Nat->SA),ρ[i]?=some (.ox j ds)->σ[i]?=some (some (.ref a))->QG K He Ha H a j ds P->∀l,vc j l=true->q≠P l)
  (hz:aD Ha Ha')(ht:∀a vs,He a=none->H a=some (.tup vs)->H' a=some (.tup vs))
  (hl:∀p us,He p=none->Ha p=none->H p=some (.lst us)->(∀(k:Nat) (d:D),ρ[k]?=some (.ow d)->σ[k]?≠some (some (.ref p)))->H' p=some (.lst us)/\Ha' p=none):OX K He Ha' σ' H' ρ':=by
 refine⟨λi j ds e=>?_,λi a e=>?_⟩
 rotate_left
 .rcases hk i _ e with h1|⟨d,h1⟩|h1|⟨d,q,h1,_⟩
  .rw[h1.2];exact h.2 i a h1.1
  .cases h1
  .cases h1
  .cases h1
 have old:ρ[i]?=some (.ox j ds)/\σ'[i]?=σ[i]?:=by
  rcases hk i _ e with h1|⟨d,h1⟩|h1|⟨d,q,h1,_⟩
  .exact h1
  .cases h1
  .cases h1
  .cases h1
 obtain⟨a,P,h1,h2,h3,h4⟩:=h.1 i j ds old.1;have h2':=h2;obtain⟨vs,r1,r2,r3,r4,r5,r6⟩:=h2;refine⟨a,P,old.2.trans h1,⟨vs,r1,ht a vs r1 r2,r3,λk ok=>?_,r5,λk d v hk e1 e2=>(r6 k d v hk e1 e2).mono hz⟩,λk d l ok ek z=>?_,λk j' ds' ek=>?_⟩
 .obtain⟨es,us,q1,q2,q3,q4,q5,q6⟩:=r4 k ok
  obtain⟨l1,l2⟩:=hl (P k) us q1 q2 q5 λm d em=>h3 m d k ok em;exact⟨es,us,q1,l2,q3,q4,l1,q6.mono hz⟩
 .rcases hk k _ ek with h1'|⟨d',h1'⟩|h1'|⟨d',q,h1',h2'',h3'⟩
  .exact h3 k d l ok h1'.1 (by rw[←h1'.2];exact z)
  .cases h1'
  .cases h1'
  .rw[h2'']at z
   cases z;exact h3' i j ds a P old.1 h1 h2' l ok rfl
 .rcases hk k _ ek with h1'|⟨d',h1'⟩|h1'|⟨d',q,h1',_⟩
  .exact h4 k j' ds' h1'.1
  .cases h1'
  .cases h1'
  .cases h1'
def OX.none{K:SE}{He Ha H:Hp}{σ:L2.St}{ρ:Ev}(h:∀(i j:Nat) (ds:ac),ρ[i]?≠some (.ox j ds))(h':∀(i:Nat) (a:SA),ρ[i]?=some (.pt a)->σ[i]?=some (some (.ref a))):OX K He Ha σ H ρ:=⟨λi j ds e=>absurd e (h i j ds),h'⟩
theorem Ad{K:SE}{H:Hp}:∀{ds:ac}{vs:al},ds.length=vs.length->(∀(k:Nat) (d:D) (v:V),ds[k]?=some d->vs[k]?=some v->Rep K H d v)->Reps K H ds vs
 |[],[],_,_=>Reps.nil
 |d::ds,v::vs,hl,h=>Reps.cons (h 0 d v rfl rfl) (Ad (by simpa using hl) λk d' v' e1 e2=>h (k+1) d' v' e1 e2)
structure eO (K:SE) (He η Ha:Hp) (σ:L2.St) (H:Hp) (ρ:Ev):Prop where
 g:bh He η H Ha
 rd:ez K Ha σ ρ
 ow:∀(i:Nat) (d:D),ρ[i]?=some (.ow d)->∃a,σ[i]?=some (some (.ref a))/\He a=none/\Ha a=none/\RC K Ha H a d
 ap:∀(i j:Nat) (d d':D),i≠j->ρ[i]?=some (.ow d)->ρ[j]?=some (.ow d')->σ[i]?≠σ[j]?
 ln:ρ.length=σ.length
 ex:OX K He Ha σ H ρ
inductive Fl where
 |nx (ρ:Ev)|rt (d:D)|bk (ρ:Ev)|ct (ρ:Ev)
abbrev bv:=Ev->ak Fl
noncomputable def bT(K:SE) (E:XK) (He η Ha:Hp) (r:ak Fl) (D:gV):Prop:=match r with
 |.ok (.nx ρ)=>∀σ H Ha',aD Ha Ha'->eO K He η Ha' σ H ρ->D.nx σ H
 |.ok (.rt d)=>∀v H Ha',bh He η H Ha'->Rep K Ha' d v->D.rt v H
 |.ok (.bk ρ)=>∀σ H Ha',aD Ha Ha'->eO K He η Ha' σ H ρ->D.bk σ H
 |.ok (.ct ρ)=>∀σ H Ha',aD Ha Ha'->eO K He η Ha' σ H ρ->D.ct σ H
 |.exn x=>∀C ox H Ha',bh He η H Ha'->wq K Ha' x C ox->E C ox H
 |.stuck=>False
def bT.grow{K:SE}{E:XK}{He η Ha Hb:Hp}{r:ak Fl}{D:gV}(h:bT K E He η Ha r D)(s:aD Ha Hb):bT K E He η Hb r D:=by
 cases r with
 |ok f=>
  cases f with|nx ρ=>exact λσ H Ha' s'=>h σ H Ha' (s.trans s')|rt d=>exact h|bk ρ=>exact λσ H Ha' s'=>h σ H Ha' (s.trans s')|ct ρ=>exact λσ H Ha' s'=>h σ H Ha' (s.trans s')
 |exn x=>exact h
 |stuck=>exact h
def tS(K:SE)(E:XK)(He η:Hp)(g:bv):TS:=λD σ H=>∃Ha ρ,eO K He η Ha σ H ρ/\bT K E He η Ha (g ρ) D
structure DS (X:Cx) (E:XK) (He η:Hp) (st:Ud) (g:bv):Prop where
 o:PS X st (tS X.K E He η g)
structure wt (X:Cx) (E:XK) (He η:Hp) (st:List Ud) (g:bv):Prop where
 o:ph X st (tS X.K E He η g)
def ka(ρ:Ev):Ev:=ρ.map λs=>match s with
 |.ow d=>.sh d
 |.ox _ ds=>.sh (.tup ds)
 |x=>x
def frz(He Ha H:Hp):Hp:=λa=>match He a with
 |none=>H a
 |some _=>Ha a
section
variable {K:SE}{E:XK}{He η Ha H H1:Hp}{σ:L2.St}{ρ:Ev}
def eO.same(h:eO K He η Ha σ H ρ)(s:aD H H1):eO K He η Ha σ H1 ρ :=
 ⟨⟨h.g.s.trans s,h.g.z,h.g.sub.trans s,h.g.nw⟩,h.rd,λi d e=>by
  obtain⟨a,h1,h2,h3,h4⟩:=h.ow i d e;refine⟨a,h1,h2,h3,?_⟩;cases d with
  |lst ds=>obtain⟨vs,h5,h6⟩:=h4;exact⟨vs,s _ _ h5,h6⟩|dic ks ds=>obtain⟨vs,h5,hl,h6⟩:=h4;exact⟨vs,s _ _ h5,hl,h6⟩
  |ob kk ds=>
   cases kk with|dint ks=>obtain⟨vs,h5,hl,h6⟩:=h4;exact⟨vs,s _ _ h5,hl,h6⟩| _=>exact h4.elim
  |_=>exact h4,h.ap,h.ln,h.ex.upd (λj s' e=>.inl ⟨e,rfl⟩) (aD.refl _) (λa vs _ e=>s _ _ e) λp us _ h0 hp _=>⟨s _ _ hp,h0⟩⟩
def eO.grow{H01:Hp}(h:eO K He η Ha σ H ρ)(s:bh H Ha H1 H01):eO K He η H01 σ H1 ρ :=
 ⟨h.g.trans s,h.rd.mono s.z,λi d e=>by
  obtain⟨a,h1,h2,h3,h4⟩:=h.ow i d e;have ha:H01 a=none:=by
   cases q:H01 a with
   |none=>rfl
   |some o=>
    have:=s.nw a (by rw[q];simp) h3;cases d with
    |lst ds|dic ks ds=>obtain⟨vs,h5,_⟩:=h4;rw[h5]at this;cases this
    |ob kk ds=>
     cases kk with|dint ks=>obtain⟨vs,h5,_⟩:=h4;rw[h5]at this;cases this| _=>exact h4.elim
    |_=>exact h4.elim
  refine⟨a,h1,h2,ha,?_⟩;cases d with
  |lst ds=>obtain⟨vs,h5,h6⟩:=h4;exact⟨vs,s.s _ _ h5,h6.mono s.z⟩|dic ks ds=>obtain⟨vs,h5,hl,h6⟩:=h4;exact⟨vs,s.s _ _ h5,hl,h6.mono s.z⟩
  |ob kk ds=>
   cases kk with|dint ks=>obtain⟨vs,h5,hl,h6⟩:=h4;exact⟨vs,s.s _ _ h5,hl,h6.mono s.z⟩| _=>exact h4.elim
  |_=>exact h4,h.ap,h.ln,h.ex.upd (λj s' e=>.inl ⟨e,rfl⟩) s.z (λa vs _ e=>s.s _ _ e) λp us _ h0 hp _=>⟨s.s _ _ hp,by
   cases q:H01 p with
   |none=>rfl
   |some o=>have:=s.nw p (by rw[q];simp) h0;rw[hp]at this;cases this⟩⟩
def eO.frz_sub(h:eO K He η Ha σ H ρ):aD Ha (frz He Ha H):=λb o e=>by
 unfold frz;cases q:He b with|none=>exact h.g.sub _ _ e|some _=>exact e
def eO.frz_le(h:eO K He η Ha σ H ρ):aD (frz He Ha H) H:=λb o e=>by
 unfold frz at e;cases q:He b with|none=>rw[q]at e;exact e|some _=>rw[q]at e;exact h.g.sub _ _ e
theorem eO.frz_grow(h:eO K He η Ha σ H ρ):bh He η H (frz He Ha H) :=
 ⟨h.g.s,h.g.z.trans h.frz_sub,h.frz_le,λa h1 h2=>by
  cases q:He a with
  |none=>rfl
  |some o=>
   unfold frz at h1;rw[q]at h1;have:=h.g.nw a h1 h2;rw[q]at this;cases this⟩
def eO.looks(h:eO K He η Ha σ H ρ):ez K (frz He Ha H) σ (ka ρ):=λi d e=>by
 unfold ka at e;rw[Ta]at e;cases q:ρ[i]? with
 |none=>rw[q]at e;cases e
 |some s=>
  rw[q]at e;cases s with
  |no|pt a=>cases e
  |sh d'=>
   cases e;obtain⟨v,h1,h2⟩:=h.rd i d q;exact⟨v,h1,h2.mono h.frz_sub⟩
  |ow d'=>
   cases e;obtain⟨a,h1,h2,h3,h4⟩:=h.ow i d q;refine⟨_,h1,?_⟩;cases d with
   |lst ds=>
    obtain⟨vs,h5,h6⟩:=h4;exact aB.mpr ⟨a,vs,rfl,fM.of (by unfold frz;rw[h2];exact h5),h6.mono h.frz_sub⟩
   |dic ks ds=>
    obtain⟨vs,h5,hl,h6⟩:=h4;rw[Rep];exact⟨a,_,vs,rfl,.inl (by unfold frz;rw[h2];exact h5),rfl,hl,h6.mono h.frz_sub⟩
   |ob kk ds=>
    cases kk with
    |dint ks=>
     obtain⟨vs,h5,hl,h6⟩:=h4;exact bO.mpr ⟨a,vs,rfl,⟨_,.inl (by unfold frz;rw[h2];exact h5),rfl,hl⟩,h6.mono h.frz_sub⟩
    |_=>exact h4.elim
   |_=>exact h4.elim
  |ox j ds=>
   cases e;obtain⟨a,P,h1,⟨vs,r1,r2,r3,r4,r5,r6⟩,_⟩:=h.ex.1 i j ds q;refine⟨_,h1,aC.mpr ⟨a,vs,rfl,j7.of (by unfold frz;rw[r1];exact r2),Ad r3 λk d v e1 e2=>?_⟩⟩;cases hk:vc j k with
   |true=>
    obtain⟨es,us,q1,q2,q3,q4,q5,q6⟩:=r4 k hk;rw[q3]at e1;cases e1;rw[q4]at e2;cases e2;exact aB.mpr ⟨P k,us,rfl,fM.of (by unfold frz;rw[q1];exact q5),q6.mono h.frz_sub⟩
   |false=>exact(r6 k d v hk e1 e2).mono h.frz_sub
def eO.put(h:eO K He η Ha σ H ρ){i:Nat}{d:D}{v:V}(r:Rep K Ha d v):eO K He η Ha (σ.set i (some v)) H (ρ.set i (.sh d)):=by
 have key:∀(j:Nat) (s:Sl),(ρ.set i (.sh d))[j]?=some s->(j=i/\s=.sh d/\i<σ.length)∨(j≠i/\ρ[j]?=some s):=λj s e=>by
  by_cases hj:i=j
  .subst hj
   rw[UE]at e;cases q:ρ[i]? with
   |none=>rw[q]at e;cases e
   |some s'=>
    rw[q]at e;cases e;refine .inl ⟨rfl,rfl,?_⟩;rw[←h.ln];exact(SR.mp q).1
  .rw[SO hj]at e
   exact .inr ⟨λz=>hj z.symm,e⟩
 refine⟨h.g,λj d' e=>?_,λj d' e=>?_,λj k d1 d2 hn e1 e2=>?_,by simp[h.ln],h.ex.upd (λj s e=>?_) (aD.refl _) (λa vs _ e=>e) λp us _ h0 hp _=>⟨hp,h0⟩⟩
 rotate_left 3
 .rcases key j _ e with⟨rfl,e',hl⟩|⟨hj,e'⟩
  .exact .inr (.inl ⟨d,e'⟩)
  .exact .inl ⟨e',by rw[SO (TF hj)]⟩
 .rcases key j _ e with⟨rfl,e',hl⟩|⟨hj,e'⟩
  .cases e'
   exact⟨v,by rw[TM hl],r⟩
  .obtain⟨v',h1,h2⟩:=h.rd j d' e'
   exact⟨v',by rw[SO (TF hj)];exact h1,h2⟩
 .rcases key j _ e with⟨rfl,e',hl⟩|⟨hj,e'⟩
  .cases e'
  .obtain⟨a,h1,h2⟩:=h.ow j d' e'
   exact⟨a,by rw[SO (TF hj)];exact h1,h2⟩
 .rcases key j _ e1 with⟨_,e',_⟩|⟨hj,e1'⟩
  .cases e'
  rcases key k _ e2 with⟨_,e',_⟩|⟨hk,e2'⟩
  .cases e'
  rw[SO (TF hj),SO (TF hk)];exact h.ap j k d1 d2 hn e1' e2'
def eO.putOwn(h:eO K He η Ha σ H ρ){i:Nat}{ds:ac}{vs:al}{p:SA}(hp:∀(j:Nat) (a:SA),σ[j]?=some (some (V.ref a))->a=p->∀d:D,ρ[j]?≠some (Sl.ow d))(he:He p=none)(h0:Ha p=none)(hv:H p=some (.lst vs))(r:Reps K Ha ds vs)(hx:∀(i j:Nat) (ds:ac) (a:SA) (P:Nat->SA),ρ[i]?=some (.ox j ds)->σ[i]?=some (some (.ref a))->QG K He Ha H a j ds P->∀l,vc j l=true->p≠P l) :
  eO K He η Ha (σ.set i (some (.ref p))) H (ρ.set i (.ow (.lst ds))):=by
 have key:∀(j:Nat) (s:Sl),(ρ.set i (.ow (.lst ds)))[j]?=some s->(j=i/\s=.ow (.lst ds)/\i<σ.length)∨(j≠i/\ρ[j]?=some s):=λj s e=>by
  by_cases hj:i=j
  .subst hj
   rw[UE]at e;cases q:ρ[i]? with
   |none=>rw[q]at e;cases e
   |some s'=>
    rw[q]at e;cases e;refine .inl ⟨rfl,rfl,?_⟩;rw[←h.ln];exact(SR.mp q).1
  .rw[SO hj]at e
   exact .inr ⟨λz=>hj z.symm,e⟩
 have other:∀(k:Nat) (d2:D),k≠i->ρ[k]?=some (.ow d2)->some (some (V.ref p))≠σ[k]?:=λk d2 hk e2 z=>by
  obtain⟨a,h1,_⟩:=h.ow k d2 e2;rw[h1]at z;cases z;exact hp k p h1 rfl d2 e2
 refine⟨h.g,λj d' e=>?_,λj d' e=>?_,λj k d1 d2 hn e1 e2=>?_,by simp[h.ln],h.ex.upd (λj s e=>?_) (aD.refl _) (λa vs _ e=>e) λp us _ h0 hp _=>⟨hp,h0⟩⟩
 rotate_left 3
 .rcases key j _ e with⟨rfl,e',hl⟩|⟨hj,e'⟩
  .exact .inr (.inr (.inr ⟨.lst ds,p,e',by rw[TM hl],hx⟩))
  .exact .inl ⟨e',by rw[SO (TF hj)]⟩
 .rcases key j _ e with⟨rfl,e',hl⟩|⟨hj,e'⟩
  .cases e'
  .obtain⟨v',h1,h2⟩:=h.rd j d' e'
   exact⟨v',by rw[SO (TF hj)];exact h1,h2⟩
 .rcases key j _ e with⟨rfl,e',hl⟩|⟨hj,e'⟩
  .cases e'
   exact⟨p,by rw[TM hl],he,h0,vs,hv,r⟩
  .obtain⟨a,h1,h2⟩:=h.ow j d' e'
   exact⟨a,by rw[SO (TF hj)];exact h1,h2⟩
 .rcases key j _ e1 with⟨rfl,_,hl⟩|⟨hj,e1'⟩
  .rcases key k _ e2 with⟨rfl,_,_⟩|⟨hk,e2'⟩
   .exact absurd rfl hn
   .rw[TM hl,SO (TF hk)]
    exact other k d2 hk e2'
  .rcases key k _ e2 with⟨rfl,_,hl⟩|⟨hk,e2'⟩
   .rw[TM hl,SO (TF hj)]
    exact λz=>other j d1 hj e1' z.symm
   .rw[SO (TF hj),SO (TF hk)]
    exact h.ap j k d1 d2 hn e1' e2'
def eO.fresh_x{H01:Hp}{p:SA}(h:eO K He η Ha σ H ρ)(s:aD H H1)(hp:H p=none):∀(i j:Nat) (ds:ac) (a:SA) (P:Nat->SA),ρ[i]?=some (.ox j ds)->σ[i]?=some (some (.ref a))->QG K He H01 H1 a j ds P->∀l,vc j l=true->p≠P l:=λi j ds a P x1 x2 x3 l ol=>by
 obtain⟨a2,P2,y1,⟨vs2,_,z3,_,y4,_⟩,_⟩:=h.ex.1 i j ds x1;rw[x2]at y1;cases y1;obtain⟨vs1,_,z1,_,y5,_⟩:=x3;have:=s _ _ z3;rw[z1]at this;cases this;obtain⟨_,us2,_,_,_,z4,z5,_⟩:=y4 l ol;obtain⟨_,_,_,_,_,z2,_⟩:=y5 l ol;rw[z2]at z4;injection z4 with z4;injection z4 with z4;intro z;rw[←z4,←z,hp]at z5;cases z5
def eO.write(h:eO K He η Ha σ H ρ){i:Nat}{d:D}{p:SA}{ds:ac}{vs:al}(e:ρ[i]?=some (.ow d))(es:σ[i]?=some (some (.ref p)))(r:Reps K Ha ds vs) :
  eO K He η Ha σ (upd H p (.lst vs)) (ρ.set i (.ow (.lst ds))):=by
 obtain⟨a,h1,h2,h3,h4⟩:=h.ow i d e;rw[h1]at es;cases es;have hil:i<ρ.length:=(SR.mp e).1;have key:∀(j:Nat) (s:Sl),(ρ.set i (.ow (.lst ds)))[j]?=some s->(j=i/\s=.ow (.lst ds))∨(j≠i/\ρ[j]?=some s):=λj s e=>by
  by_cases hj:i=j
  .subst hj
   rw[TM hil]at e;cases e;exact .inl ⟨rfl,rfl⟩
  .rw[SO hj]at e
   exact .inr ⟨λz=>hj z.symm,e⟩
 refine⟨⟨λb o eb=>?_,h.g.z,λb o eb=>?_,h.g.nw⟩,λj d' e'=>?_,λj d' e'=>?_,λj k d1 d2 hn e1 e2=>?_,by simp[h.ln],h.ex.upd (λj s e'=>?_) (aD.refl _) (λb us _ eb=>?_) λq us _ q0 hq hd=>?_⟩
 rotate_left 5
 .rcases key j _ e' with⟨rfl,e''⟩|⟨hj,e''⟩
  .exact .inr (.inr (.inr ⟨.lst ds,p,e'',h1,λi' j' ds' a' P' x1 x2 x3 l ol=>by
    obtain⟨a2,P2,y1,y2,y3,_⟩:=h.ex.1 i' j' ds' x1;rw[x2]at y1;cases y1;have:P2 l=P' l:=by
     obtain⟨vs1,_,z1,_,y5,_⟩:=x3;obtain⟨vs2,_,z3,_,y4,_⟩:=y2;rw[z1]at z3;cases z3;obtain⟨_,_,_,_,_,z2,_⟩:=y5 l ol;obtain⟨_,_,_,_,_,z4,_⟩:=y4 l ol;rw[z2]at z4;injection z4 with z4;injection z4 with z4;exact z4.symm
    rw[←this];intro zz;rw[zz]at h1;exact y3 j d l ol e h1⟩))
  .exact .inl ⟨e'',rfl⟩
 .rw[ax (by
   intro z;subst z;cases d with
   |lst ds'|dic ks ds'=>obtain⟨vs',h5,_⟩:=h4;rw[h5]at eb;cases eb
   |ob kk ds'=>
    cases kk with|dint ks=>obtain⟨vs',h5,_⟩:=h4;rw[h5]at eb;cases eb| _=>exact h4.elim
   |_=>exact h4)];exact eb
 .have hq':q≠p:=by
   intro z;subst z;exact hd i d e h1
  exact⟨by rw[ax hq'];exact hq,q0⟩
 .rw[ax (by intro z;subst z;rw[h2]at eb;cases eb)];exact h.g.s _ _ eb
 .rw[ax (by intro z;subst z;rw[h3]at eb;cases eb)];exact h.g.sub _ _ eb
 .rcases key j _ e' with⟨rfl,e''⟩|⟨hj,e''⟩
  .cases e''
  .exact h.rd j d' e''
 .rcases key j _ e' with⟨rfl,e''⟩|⟨hj,e''⟩
  .cases e''
   exact⟨p,h1,h2,h3,vs,az,r⟩
  .obtain⟨b,k1,k2,k3,k4⟩:=h.ow j d' e''
   refine⟨b,k1,k2,k3,?_⟩;have hb:b≠p:=by
    intro z;subst z;exact h.ap j i d' d hj e'' e (by rw[k1,h1])
   cases d' with
   |lst ds'=>
    obtain⟨vs',h5,h6⟩:=k4;exact⟨vs',by rw[ax hb];exact h5,h6⟩
   |dic ks ds'=>
    obtain⟨vs',h5,hl,h6⟩:=k4;exact⟨vs',by rw[ax hb];exact h5,hl,h6⟩
   |ob kk ds'=>
    cases kk with
    |dint ks=>
     obtain⟨vs',h5,hl,h6⟩:=k4;exact⟨vs',by rw[ax hb];exact h5,hl,h6⟩
    |_=>exact k4.elim
   |_=>exact k4.elim
 .rcases key j _ e1 with⟨rfl,e1'⟩|⟨hj,e1'⟩
  .rcases key k _ e2 with⟨rfl,_⟩|⟨hk,e2'⟩
   .exact absurd rfl hn
   .exact h.ap j k d d2 hn e e2'
  .rcases key k _ e2 with⟨rfl,_⟩|⟨hk,e2'⟩
   .exact h.ap j k d1 d hn e1' e
   .exact h.ap j k d1 d2 hn e1' e2'
end
mutual
def l5:D->Bool
 |.lst _=>false
 |.dic _ _=>false
 |.exc _=>false
 |.ob _ _=>false
 |.tup ds=>flats ds
 |_=>true
def flats:ac->Bool
 |[]=>true
 |d::ds=>l5 d&&flats ds
end
mutual
theorem Rep.flat_to{K:SE}{H H':Hp}(e:∀a vs,Rd H a (.tup vs)->Rd H' a (.tup vs)):∀{d:D}{v:V},l5 d=true->Rep K H d v->Rep K H' d v
 |.non,_,_,h=>by unfold Rep at h ⊢;exact h
 |.bl _,_,_,h=>by unfold Rep at h ⊢;exact h
 |.int _,_,_,h=>by unfold Rep at h ⊢;exact h
 |.str _,_,_,h=>by unfold Rep at h ⊢;exact h
 |.tup ds,_,f,h=>by
  unfold l5 at f;obtain⟨a,vs,e1,e2,e3⟩:=aC.mp h;refine aC.mpr ⟨a,vs,e1,?_,Reps.flat_to e f e3⟩;rcases e2 with e2|e2
  .exact .inl (e _ _ e2)
  .exact .inr e2
 |.lst ds,_,f,h=>by unfold l5 at f;cases f
 |.dic ks ds,_,f,h=>by unfold l5 at f;cases f
 |.exc x,_,f,h=>by unfold l5 at f;cases f
 |.ob k ds,_,f,h=>by unfold l5 at f;cases f
theorem Reps.flat_to{K:SE}{H H':Hp}(e:∀a vs,Rd H a (.tup vs)->Rd H' a (.tup vs)):∀{ds:ac}{vs:al},flats ds=true->Reps K H ds vs->Reps K H' ds vs
 |[],_,_,h=>by unfold Reps at h ⊢;exact h
 |d::ds,_,f,h=>by
  unfold flats at f;rw[SX]at f;obtain⟨v,r,e1,e2,e3⟩:=aA.mp h;exact aA.mpr ⟨v,r,e1,Rep.flat_to e f.1 e2,Reps.flat_to e f.2 e3⟩
end
def pJ(Ha J:Hp):Hp:=λa=>match Ha a with
 |some o=>some o
 |none=>match J a with
  |some (.tup vs)=>some (.tup vs)
  |some (.frz o (.tup vs))=>some (.frz o (.tup vs))
  |_=>none
section
variable {K:SE}{E:XK}{He η Ha H H1 J:Hp}{σ:L2.St}{ρ:Ev}
def Ku(h:aD Ha J):∀a o,pJ Ha J a=some o->J a=some o:=λa o e=>by
 unfold pJ at e;cases q:Ha a with
 |some u=>rw[q]at e;cases e;exact h _ _ q
 |none=>
  rw[q]at e;cases q2:J a with
  |none=>rw[q2]at e;cases e
  |some u=>
   rw[q2]at e;cases u with
   |tup vs=>cases e;rfl
   |frz o u'=>
    cases u' with|tup vs=>cases e;rfl| _=>cases e
   |_=>cases e
def Kt(h:aD Ha J)(a:SA)(vs:al)(e:Rd J a (.tup vs)):Rd (pJ Ha J) a (.tup vs):=by
 rcases e with e|⟨o,e⟩
 .refine .inl ?_
  unfold pJ;cases q:Ha a with|some u=>have:=h _ _ q;rw[e]at this;cases this;rfl|none=>rw[e]
 .refine .inr ⟨o,?_⟩
  unfold pJ;cases q:Ha a with|some u=>have:=h _ _ q;rw[e]at this;cases this;rfl|none=>rw[e]
end
section
variable {X:Cx}{E:XK}{He η:Hp}{st:Ud}{rest:List Ud}{e a b:Tn}{es:List Tn}{f g:am}{fa:Ev->ak (ac)}{s t:bv}{pos:Pos}
def cf{t t':TS}(h:PS X st t)(w:∀D σ H,t' D σ H->t D σ H):PS X st t':=λπ s σ H D I q=>h π s σ H D I (w D σ H q)
def da{t t':TS}(h:ph X rest t)(w:∀D σ H,t' D σ H->t D σ H):ph X rest t':=λπ s σ H D I q=>h π s σ H D I (w D σ H q)
def av:bv:=λρ=>.ok (.nx ρ)
def aw(s t:bv):bv:=λρ=>(s ρ).bind λr=>match r with
 |.nx ρ'=>t ρ'
 |r=>.ok r
def ar:wt X E He η [] av:=⟨da kc λD σ H ⟨Ha,ρ,h,q⟩=>q σ H Ha (aD.refl _) h⟩
def ah(h1:DS X E He η st s)(h2:wt X E He η rest t):wt X E He η (st::rest) (aw s t):=by
 refine⟨?_⟩;refine da (cO h1.o h2.o) λD σ H z9=>?_;obtain⟨Ha,ρ,h,q⟩:=z9;refine⟨Ha,ρ,h,?_⟩
 unfold aw at q;cases e1:s ρ with
 |stuck|exn x=>rw[e1]at q;exact q
 |ok r=>
  rw[e1]at q;cases r with|nx ρ'=>exact λσ' H' Ha' s' h'=>⟨Ha',ρ',h',bT.grow (r:=t ρ') q s'⟩|rt d|bk ρ'|ct ρ'=>exact q
def fQ:bv:=λ_=>.stuck
def xV:DS X E He η st fQ:=⟨cf EG λD σ H ⟨Ha,ρ,h,q⟩=>q⟩
def plain{K:SE}{Ha H:Hp}{σ:L2.St}{ρ:Ev}{k:D->ak Fl}{D':gV}(h:eO K He η Ha σ H ρ){r:ak D}{Q:VK}
  (q:bT K E He η Ha (r.bind k) D')(hk:∀d v H' Ha',r=.ok d->bh H Ha H' Ha'->Rep K Ha' d v->bT K E He η Ha' (k d) D'->Q v H'):post K E H Ha r Q:=by
 cases r with|stuck=>exact q|exn x=>exact λC ox H' Ha' g ex=>q C ox H' Ha' (h.g.trans g) ex|ok d=>exact λv H' Ha' g rp=>hk d v H' Ha' rfl g rp (bT.grow (r:=k d) q g.z)
def look{K:SE}{Ha H:Hp}{σ:L2.St}{ρ:Ev}{k:D->ak Fl}{D':gV}(h:eO K He η Ha σ H ρ){r:ak D}{Q:VK}
  (q:bT K E He η Ha (r.bind k) D')(hk:∀d v H' J,r=.ok d->bh H (frz He Ha H) H' J->Rep K J d v->bT K E He η Ha (k d) D'->Q v H'):post K E H (frz He Ha H) r Q:=by
 cases r with|stuck=>exact q|exn x=>exact λC ox H' Ha' g ex=>q C ox H' Ha' (h.frz_grow.trans g) ex|ok d=>exact λv H' J g rp=>hk d v H' J rfl g rp q
def K3{K:SE}{Ha H:Hp}{σ:L2.St}{ρ:Ev}{k:Bool->ak Fl}{D':gV}(h:eO K He η Ha σ H ρ){r:ak D}{Q:Bool->Hp->Prop}
  (q:bT K E He η Ha (r.bind λx=>match x with|.bl b=>k b|_=>.stuck) D')(hk:∀b H',aD H H'->bT K E He η Ha (k b) D'->Q b H'):qS K E H (frz He Ha H) r Q:=by
 cases r with
 |stuck=>exact q|exn x=>exact λC ox H' Ha' g ex=>q C ox H' Ha' (h.frz_grow.trans g) ex
 |ok d=>
  cases d with|bl b=>exact λH' J g=>hk b H' g.s q| _=>exact q.elim
def aY(i:Nat)(f:am):bv:=λρ=>(f ρ).bind λd=>.ok (.nx (ρ.set i (.sh d)))
def bI(f:am):bv:=λρ=>(f (ka ρ)).bind λd=>.ok (.rt d)
def kG(f:am):bv:=λρ=>(f (ka ρ)).bind λ_=>.ok (.nx ρ)
def eC(c:am)(s t:bv):bv:=λρ=>(c (ka ρ)).bind λx=>match x with
 |.bl b=>if b=true then s ρ else t ρ
 |_=>.stuck
def aK{i:Nat}{x:SH}{pos':Pos}(hN:X.N.Nodup)(hi:X.N[i]?=some x)(hx:zL X.env.scope x)(he:DE X E e f)(hs:T1 e (some (.Name x pos')) pos.line X.env=pure false:=by rfl)
  (hf:X.fn x=true∨X.env.scope.names.lookup x=some .local := by first|exact .inl rfl|exact .inr rfl|assumption):DS X E He η (.Assign [.Name x pos'] e pos) (aY i f):=by
 refine⟨?_⟩;refine cf (qO hN hi hx he.o hs hf) λD σ H z9=>?_;obtain⟨Ha,ρ,h,q⟩:=z9;refine⟨Ha,ρ,h.g.sub,h.rd,?_⟩
 refine plain h q λd v H' Ha' _ g rp q'=>?_;exact q' _ H' Ha' (aD.refl _) ((h.grow g).put rp)
def aQ(he:DE X E e f):DS X E He η (.Return (some e) pos) (bI f):=by
 refine⟨?_⟩;refine cf (qP he.o) λD σ H z9=>?_;obtain⟨Ha,ρ,h,q⟩:=z9;refine⟨frz He Ha H,ka ρ,h.frz_le,h.looks,?_⟩
 exact look h q λd v H' J _ g rp q'=>q' v H' J (h.frz_grow.trans g) rp
def lS(he:DE X E e f)(hs:T1 e none pos.line X.env=pure false:=by rfl):DS X E He η (.Expr e pos) (kG f):=by
 refine⟨?_⟩;refine cf (kd he.o hs) λD σ H z9=>?_;obtain⟨Ha,ρ,h,q⟩:=z9;refine⟨frz He Ha H,ka ρ,h.frz_le,h.looks,?_⟩
 exact look h q λd v H' J _ g rp q'=>q' σ H' Ha (aD.refl _) (h.same g.s)
def ck{c:Tn}{fc:am}{sa sb:List Ud}(hc:DT X E c fc)(ha:wt X E He η sa s)(hb:wt X E He η sb t):DS X E He η (.If c sa sb pos) (eC fc s t):=by
 refine⟨?_⟩;refine cf (Ai hc.o ha.o hb.o) λD σ H z9=>?_;obtain⟨Ha,ρ,h,q⟩:=z9;refine⟨frz He Ha H,ka ρ,h.frz_le,h.looks,?_⟩
 refine K3 (k:=λb=>if b=true then s ρ else t ρ) h q λb H' hs q'=>?_;cases b with|true=>rw[if_pos rfl]at q' ⊢;exact⟨Ha,ρ,h.same hs,q'⟩|false=>rw[if_neg Us]at q' ⊢;exact⟨Ha,ρ,h.same hs,q'⟩
noncomputable def tF(K:SE) (E:XK) (f:am):TE:=λσ H Q=>∃Ha ρ,aD Ha H/\ez K Ha σ ρ/\match f ρ with
 |.ok (.lst ds)=>∀p vs H' Ha',bh H Ha H' Ha'->H p=none->Ha' p=none->H' p=some (.lst vs)->Reps K Ha' ds vs->Q (.ref p) H'
 |.ok _=>False
 |.exn x=>∀C ox H' Ha',bh H Ha H' Ha'->wq K Ha' x C ox->E C ox H'
 |.stuck=>False
structure DF (X:Cx) (E:XK) (e:Tn) (f:am):Prop where
 o:PE X e (tF X.K E f)
def mx(i:Nat)(f:am):bv:=λρ=>(f ρ).bind λd=>match d with
 |.lst ds=>.ok (.nx (ρ.set i (.ow (.lst ds))))
 |_=>.stuck
def k6{i:Nat}{x:SH}{pos':Pos}(hN:X.N.Nodup)(hi:X.N[i]?=some x)(hx:zL X.env.scope x)(he:DF X E e f)(hs:T1 e (some (.Name x pos')) pos.line X.env=pure false:=by rfl)
  (hf:X.fn x=true∨X.env.scope.names.lookup x=some .local := by first|exact .inl rfl|exact .inr rfl|assumption):DS X E He η (.Assign [.Name x pos'] e pos) (mx i f):=by
 refine⟨?_⟩;refine cf (qO hN hi hx he.o hs hf) λD σ H z9=>?_;obtain⟨Ha,ρ,h,q⟩:=z9;refine⟨Ha,ρ,h.g.sub,h.rd,?_⟩
 unfold mx at q;cases e1:f ρ with
 |stuck=>rw[e1]at q;exact q|exn x=>rw[e1]at q;exact λC ox H' Ha' g ex=>q C ox H' Ha' (h.g.trans g) ex
 |ok d=>
  rw[e1]at q;cases d with
  |lst ds=>
   intro p vs H' Ha' g hp h0 hv rp;refine q _ H' Ha' g.z ((h.grow g).putOwn (λj a ej ea d ed=>?_) (h.g.s.free hp) h0 hv rp (h.fresh_x g.s hp));subst ea;obtain⟨a',k1,_,_,k4⟩:=h.ow j d ed;rw[ej]at k1;cases k1;cases d with
   |lst ds'|dic ks ds'=>obtain⟨vs',h5,_⟩:=k4;rw[hp]at h5;cases h5
   |ob kk ds'=>
    cases kk with|dint ks=>obtain⟨vs',h5,_⟩:=k4;rw[hp]at h5;cases h5| _=>exact k4.elim
   |_=>exact k4.elim
  |_=>exact q.elim
def ku(h:DA X E es fa):DF X E (.List es pos) (ao fa cY):=by
 refine⟨?_⟩;refine bc (qU h.o) λσ H Q h=>?_;obtain⟨Ha,ρ,hs,hr,q⟩:=h;refine⟨Ha,ρ,hs,hr,?_⟩;unfold ao at q;cases e1:fa ρ with
 |stuck|exn x=>rw[e1]at q;exact q
 |ok ds=>
  rw[e1]at q;intro vs H1 H01 g1 r1;replace q:match cY ds with
   |.ok (.lst ds)=>∀p vs H' Ha',bh H Ha H' Ha'->H p=none->Ha' p=none->H' p=some (.lst vs)->Reps X.K Ha' ds vs->Q (.ref p) H'
   |.ok _=>False
   |.exn x=>∀C ox H' Ha',bh H Ha H' Ha'->wq X.K Ha' x C ox->E C ox H'
   |.stuck=>False:=q
  unfold cY at q
  by_cases hl:ds.length<=line
  .rw[if_pos hl]at q
   refine⟨by rw[←r1.length];exact eg hl,λp hp=>?_⟩;have h0:H01 p=none:=g1.sub.free hp;refine q p vs _ H01 (g1.trans ⟨λb o q=>by rw[ax (bg q hp)];exact q,aD.refl _,λb o q=>?_,λa h1 h2=>absurd h2 h1⟩) (g1.s.free hp) h0 az r1;rw[ax (by intro z;subst z;rw[h0]at q;cases q)];exact g1.sub _ _ q
  .rw[if_neg hl]at q;exact q.elim
def xg(ρ:Ev)(i:Nat)(k:ac->ak Fl):ak Fl:=match ρ[i]? with
 |some (.ow (.lst ds))=>k ds
 |_=>.stuck
def cR(i:Nat)(f:am):bv:=λρ=>xg ρ i λds=>(f ρ).bind λd=>if ds.length<line then .ok (.nx (ρ.set i (.ow (.lst (ds++[d]))))) else .stuck
def xa{K:SE}{Ha H:Hp}{σ:L2.St}{ρ:Ev}{i:Nat}{k:ac->ak Fl}{D':gV}(h:eO K He η Ha σ H ρ)(q:bT K E He η Ha (xg ρ i k) D') :
  ∃ds p vs,ρ[i]?=some (.ow (.lst ds))/\σ[i]?=some (some (.ref p))/\He p=none/\Ha p=none/\H p=some (.lst vs)/\Reps K Ha ds vs/\bT K E He η Ha (k ds) D':=by
 unfold xg at q;cases e:ρ[i]? with
 |none=>rw[e]at q;exact q.elim
 |some s=>
  rw[e]at q;cases s with
  |no|sh d|ox j ds|pt a=>exact q.elim
  |ow d=>
   cases d with
   |lst ds=>
    obtain⟨p,h1,h2,h3,vs,h4,h5⟩:=h.ow i _ e;exact⟨ds,p,vs,rfl,h1,h2,h3,h4,h5,q⟩
   |_=>exact q.elim
def gu{i:Nat}{x:SH}{p1 p2 p3:Pos}(hN:X.N[i]?=some x)(hv:yh X.env.scope x)(he:DE X E e f)
  (hd:(x==("__debug__" : SH))=false:=by decide)(hcd:(x==("__classdict__" : SH))=false:=by decide)
  (hbase:Ub (.Name x p1) "append" X.env (eval (.Name x p1) X.env)=eval (.Name x p1) X.env:=by rfl)
  (hfew:((TZ p3 (SJ [e] X.env)).all (λx=>!x.1)&&(VB p3 (US [] X.env)).all (λx=>x.1.isSome)
  &&decide ([e].length+([]:List U3).length+(if([]:List U3).isEmpty then 0 else 1)<30))=true:=by exact gO rfl)
  (hline:(p2.endLine==p3.line)=true:=by rfl) (hs:SJ [e] X.env=(false,eval e X.env)::SJ [] X.env:=by exact aF rfl) (hplain:(TZ p3 (SJ [] X.env)).any (·.1)=false:=by exact bj rfl)
  (hw:T1 (.Call (.Attribute (.Name x p1) "append" p2) [e] [] p3) none pos.line X.env=pure false:=by rfl) :
  DS X E He η (.Expr (.Call (.Attribute (.Name x p1) "append" p2) [e] [] p3) pos) (cR i f):=by
 refine⟨?_⟩;refine cf (kd (uh Vd Wi Wh lJ (gq hN hv hd hcd) (cG he.o e7 hs) hbase hfew hline hs hplain) hw) λD σ H ⟨Ha,ρ,h,q⟩=>?_;obtain⟨ds,p,vs,e1,e2,e3,e4,e5,e6,q⟩:=xa h q;refine⟨.ref p,e2,.inl ⟨rfl,vs,fM.of e5⟩,?_⟩;refine⟨Ha,ρ,h.g.sub,h.rd,plain h q λd v H' Ha' _ g rp q'=>?_⟩
 by_cases hl:ds.length<line
 .rw[if_pos hl]at q'
  have e5':H' p=some (.lst vs):=g.s _ _ e5;refine⟨p,vs,v,rfl,rfl,e5',by rw[←e6.length];exact SU hl (by decide),?_⟩;exact q' σ _ Ha' (aD.refl _) ((h.grow g).write e1 e2 ((e6.mono g.z).app (Reps.cons rp Reps.nil)))
 .rw[if_neg hl]at q';exact q'.elim
def putAt(ρ:Ev)(i:Nat)(ds:ac)(d:D)(j:D):ak Fl:=match j with
 |.int j=>match K9 ds.length j with
  |some n=>.ok (.nx (ρ.set i (.ow (.lst (ds.set n d)))))
  |none=>.stuck
 |_=>.stuck
noncomputable def cN(tg:Ev->D->ak Ev) (body:bv):ac->bv
 |[],ρ=>.ok (.nx ρ)
 |d::r,ρ=>(tg ρ d).bind λρ1=>(body ρ1).bind λx=>match x with
  |.nx ρ2=>cN tg body r ρ2
  |.ct ρ2=>cN tg body r ρ2
  |.bk ρ2=>.ok (.nx ρ2)
  |.rt d=>.ok (.rt d)
def tG(K:SE)(He η:Hp)(tg:Ev->D->ak Ev):TG:=λv σ H Q=>∃Ha ρ d,eO K He η Ha σ H ρ/\Rep K Ha d v/\match tg ρ d with
  |.ok ρ'=>∀σ' H' Ha',aD Ha Ha'->eO K He η Ha' σ' H' ρ'->Q σ' H'
  |_=>False
structure DG (X:Cx) (E:XK) (He η:Hp) (target:Tn) (tg:Ev->D->ak Ev):Prop where
 o:PG X target (tG X.K He η tg)
def dz(i:Nat):Ev->D->ak Ev:=λρ d=>.ok (ρ.set i (.sh d))
def vd{tgt:Tn}{t t':TG}(h:PG X tgt t)(w:∀v σ H Q,t' v σ H Q->t v σ H Q):PG X tgt t':=λπ s σ H v u Q I r q=>h π s σ H v u Q I r (w v σ H Q q)
def dU{i:Nat}{x:SH}(hN:X.N.Nodup)(hi:X.N[i]?=some x)(hx:zL X.env.scope x)(hf:X.fn x=true∨X.env.scope.names.lookup x=some .local := by first|exact .inl rfl|exact .inr rfl|assumption):DG X E He η (.Name x pos) (dz i) :=
 ⟨vd (Al hN hi hx hf) λv σ H Q ⟨Ha,ρ,d,h,rp,q⟩=>q _ H Ha (aD.refl _) (h.put rp)⟩
def jv(K:SE)(E:XK)(He η Hb:Hp)(tg:Ev->D->ak Ev)(s:bv)(ds:ac)(D':gV)(i:Nat)(σ:L2.St)(H:Hp):Prop :=
 ∃Ha ρ,aD Hb Ha/\eO K He η Ha σ H ρ/\bT K E He η Ha (cN tg s (ds.drop i) ρ) D'
def jv.step{K:SE}{Hb:Hp}{tg:Ev->D->ak Ev}{ds:ac}{D':gV}{i:Nat}{σ:L2.St}{H:Hp}{d:D}{v:V}(h:jv K E He η Hb tg s ds D' i σ H)(hd:ds[i]?=some d)(rv:Rep K Hb d v)
  (he:∀ρ,tg ρ d=.stuck∨∃ρ',tg ρ d=.ok ρ') :
  tG K He η tg v σ H λσ2 H2=>tS K E He η s { D' with nx:=jv K E He η Hb tg s ds D' (i+1),ct:=jv K E He η Hb tg s ds D' (i+1),bk:=D'.nx } σ2 H2:=by
 obtain⟨Ha,ρ,z,h,q⟩:=h;have hi:i<ds.length:=(SR.mp hd).1;have hdr:ds.drop i=d::ds.drop (i+1):=by
  rw[T7 hi];rw[SS hi]at hd;cases hd;rfl
 rw[hdr]at q;refine⟨Ha,ρ,d,h,rv.mono z,?_⟩;unfold cN at q;rcases he ρ with e1|⟨ρ1,e1⟩
 .rw[e1]at q;exact q.elim
 .rw[e1]at q ⊢
  intro σ' H' Ha' z' h';refine⟨Ha',ρ1,h',?_⟩;replace q:=bT.grow (r:=(s ρ1).bind λx=>match x with
   |.nx ρ2=>cN tg s (ds.drop (i+1)) ρ2
   |.ct ρ2=>cN tg s (ds.drop (i+1)) ρ2
   |.bk ρ2=>.ok (.nx ρ2)
   |.rt d=>.ok (.rt d)) q z'
  cases e2:s ρ1 with
  |stuck|exn x=>rw[e2]at q;exact q
  |ok r=>
   rw[e2]at q;cases r with|nx ρ2=>exact λσ3 H3 H03 z3 h3=>⟨H03,ρ2,(z.trans z').trans z3,h3,bT.grow (r:=cN tg s (ds.drop (i+1)) ρ2) q z3⟩|ct ρ2=>exact λσ3 H3 H03 z3 h3=>⟨H03,ρ2,(z.trans z').trans z3,h3,bT.grow (r:=cN tg s (ds.drop (i+1)) ρ2) q z3⟩|bk ρ2|rt d=>exact q
def jv.done{K:SE}{Hb:Hp}{tg:Ev->D->ak Ev}{ds:ac}{D':gV}{σ:L2.St}{H:Hp}(h:jv K E He η Hb tg s ds D' ds.length σ H):D'.nx σ H:=by
 obtain⟨Ha,ρ,z,h,q⟩:=h;rw[Wn]at q;unfold cN at q;exact q σ H Ha (aD.refl _) h
def uP(tg:Ev->D->ak Ev):Prop:=∀ρ d,tg ρ d=.stuck∨∃ρ',tg ρ d=.ok ρ'
def iq{i:Nat}:uP (dz i):=λρ d=>.inr ⟨_,rfl⟩
def td(f:am)(tg:Ev->D->ak Ev)(s:bv):bv:=λρ=>(f ρ).bind λd=>match d with
 |.lst ds=>cN tg s ds ρ
 |_=>.stuck
def rN{tgt iter:Tn}{body:List Ud}{tg:Ev->D->ak Ev}(hp:PassesOwn (Tb X.prog X.w) X.A X.env X.xe)(hc:X.calm=true)(hi:DE X E iter f)(hg:DG X E He η tgt tg)(ht:uP tg)(hb:wt X E He η body s)
  (hs:∀x,foldedSetIterable iter X.env x=pure x:=by intro _;rfl):DS X E He η (.For tgt iter body [] pos) (td f tg s):=by
 refine⟨?_⟩;refine cf (u9 hp hc (Ak hi.o) hg.o hb.o hs) λD' σ H z9=>?_;obtain⟨Ha,ρ,h,q⟩:=z9;refine⟨Ha,ρ,h.g.sub,h.rd,?_⟩
 refine plain h q λd v H1 H01 _ g rp q1=>?_;cases d with
 |lst ds=>
  obtain⟨a,vs,rfl,hv,hr⟩:=aB.mp rp;refine⟨a,rfl,⟨vs,aD.sqL g.sub hv⟩,?_⟩;refine FP (K:=X.K) (a:=a) (g:=tG X.K He η tg) (tb:=tS X.K E He η s) (D:=D') (xs:=vs) (jv X.K E He η H01 tg s ds D') ⟨H01,ρ,aD.refl _,h.grow g,q1⟩ ?_ ?_ ?_
  .rintro i σ' H' _ ⟨Ha',ρ',z,h',_⟩
   exact aD.sqL (z.trans h'.g.sub) hv
  .intro i x σ' H' hx hI
   have hil:i<ds.length:=by rw[hr.length];exact(SR.mp hx).1
   obtain⟨u,e1,e2⟩:=hr.get (SS hil);rw[hx]at e1;cases e1;exact hI.step (SS hil) e2 λρ=>ht ρ _
  .intro σ' H' hI
   rw[←hr.length]at hI;exact hI.done
 |_=>exact q1.elim
def intsFrom(lo:Int)(n:Nat):ac:=(TY n).map λ(k:Nat)=>D.int (lo+(k:Int))
def qH(f:am)(tg:Ev->D->ak Ev)(s:bv):bv:=λρ=>(f (ka ρ)).bind λd=>match d with
 |.int j=>if -4611686018427387904<=j/\j<4611686018427387904 then cN tg s (intsFrom 0 j.toNat) ρ else .stuck
 |_=>.stuck
def vR{tgt iter:Tn}{p pos2:Pos}{body:List Ud}{tg:Ev->D->ak Ev}(hp:PassesOwn (Tb X.prog X.w) X.A X.env X.xe)(hc:X.calm=true)(hgl:Gl X "range")(hm:X.mg "range"=none)(hi:DE X E iter f)(hg:DG X E He η tgt tg)(ht:uP tg)(hb:wt X E He η body s)
  (hst:SJ [iter] X.env=[(false,eval iter X.env)]:=by exact jE rfl)(hs:∀x,foldedSetIterable (.Call (.Name "range" p) [iter] [] pos2) X.env x=pure x:=by intro _;rfl):DS X E He η (.For tgt (.Call (.Name "range" p) [iter] [] pos2) body [] pos) (qH f tg s):=by
 refine⟨?_⟩;refine cf (u9 hp hc (ug hgl hm (cG hi.o e7 hst) hst) hg.o hb.o hs) λD' σ H ⟨Ha,ρ,h,q⟩=>?_;refine⟨frz He Ha H,ka ρ,h.frz_le,h.looks,look h q λd v H1 J _ g rp q1=>?_⟩;cases d with
 |int j=>
  rw[ay.mp rp];replace q1:bT X.K E He η Ha (if -4611686018427387904<=j/\j<4611686018427387904 then cN tg s (intsFrom 0 j.toNat) ρ else .stuck) D':=q1
  by_cases hj:-4611686018427387904<=j/\j<4611686018427387904
  .rw[if_pos hj]at q1
   refine⟨j,rfl,by omega,by omega,?_⟩;have hlen:(intsFrom 0 j.toNat).length=j.toNat:=by unfold intsFrom;simp
   refine CK (lo:=0) (n:=j.toNat) (g:=tG X.K He η tg) (tb:=tS X.K E He η s) (D:=D') (jv X.K E He η Ha tg s (intsFrom 0 j.toNat) D') ⟨Ha,ρ,aD.refl _,h.same g.s,q1⟩ ?_ ?_
   .intro i σ' H' hlt hI
    refine hI.step (d:=.int (0+i)) ?_ (ay.mpr rfl) λρ=>ht ρ _;unfold intsFrom;simp[hlt]
   .intro σ' H' hI
    exact jv.done (ds:=intsFrom 0 j.toNat) (by rw[hlen];exact hI)
  .rw[if_neg hj]at q1;exact q1.elim
 |_=>exact q1.elim
noncomputable def fO(c:am) (s:bv):Nat->bv
 |0,_=>.stuck
 |n+1,ρ=>(c (ka ρ)).bind λx=>match x with
  |.bl b=>if b=true then(s ρ).bind λx=>match x with
    |.nx ρ2=>fO c s n ρ2
    |.ct ρ2=>fO c s n ρ2
    |.bk ρ2=>.ok (.nx ρ2)
    |.rt d=>.ok (.rt d)
   else .ok (.nx ρ)
  |_=>.stuck
def qG(fuel:Ev->Nat)(c:am)(s:bv):bv:=λρ=>fO c s (fuel ρ) ρ
def xU(fuel:Ev->Nat){c:Tn}{body:List Ud}{fc:am}(hp:PassesOwn (Tb X.prog X.w) X.A X.env X.xe)(hc:DT X E c fc)(hb:wt X E He η body s):DS X E He η (.While c body [] pos) (qG fuel fc s):=by
 refine⟨?_⟩;refine cf (EF hp hc.o hb.o) λD' σ H ⟨Ha,ρ,h,q⟩=>?_;refine⟨λm σ H=>∃Ha ρ,eO X.K He η Ha σ H ρ/\bT X.K E He η Ha (fO fc s m ρ) D',⟨fuel ρ,Ha,ρ,h,q⟩,?_⟩;rintro m σ1 H1 ⟨H01,ρ1,h1,q1⟩;cases m with
 |zero=>exact q1.elim
 |succ m=>
  refine⟨frz He H01 H1,ka ρ1,h1.frz_le,h1.looks,?_⟩;unfold fO at q1;refine K3 (k:=λb=>if b=true then(s ρ1).bind λx=>match x with
    |.nx ρ2=>fO fc s m ρ2
    |.ct ρ2=>fO fc s m ρ2
    |.bk ρ2=>.ok (.nx ρ2)
    |.rt d=>.ok (.rt d)
   else .ok (.nx ρ1)) h1 q1 λb H2 hs q2=>?_
  cases b with
  |false=>
   rw[if_neg Us]at q2 ⊢;exact q2 σ1 H2 H01 (aD.refl _) (h1.same hs)
  |true=>
   rw[if_pos rfl]at q2 ⊢;refine⟨λσ' H'=>∃m',m' < m+1/\∃Ha ρ,eO X.K He η Ha σ' H' ρ/\bT X.K E He η Ha (fO fc s m' ρ) D',λσ' H' z=>z,H01,ρ1,h1.same hs,?_⟩;cases e2:s ρ1 with
   |stuck|exn x=>rw[e2]at q2;exact q2
   |ok r=>
    rw[e2]at q2;cases r with|nx ρ2=>exact λσ3 H3 H03 z3 h3=>⟨m,U0 _,H03,ρ2,h3,bT.grow (r:=fO fc s m ρ2) q2 z3⟩|ct ρ2=>exact λσ3 H3 H03 z3 h3=>⟨m,U0 _,H03,ρ2,h3,bT.grow (r:=fO fc s m ρ2) q2 z3⟩|bk ρ2|rt d=>exact q2
end
def cq(n:Nat)(s:bv)(ds:ac):ak D:=(s (ds.map Sl.sh++S4 (n-ds.length) .no)).bind λr=>match r with
 |.nx _=>.ok .non
 |.rt d=>.ok d
 |_=>.stuck
def oG{K:SE}{Ha:Hp}{N:ci}{ds:ac}{vs:al}(h:Reps K Ha ds vs):ez K Ha (start N vs) (ds.map Sl.sh++S4 (N.length-ds.length) .no):=by
 intro i d e;have hl:=h.length
 by_cases hi:i<ds.length
 .rw[Tg (by simpa using hi),Ta]at e
  cases q:ds[i]? with
  |none=>rw[q]at e;cases e
  |some d'=>
   rw[q]at e;cases e;obtain⟨v,h1,h2⟩:=h.get q;refine⟨v,?_,h2⟩;unfold L2.start;rw[Tg (by simp;omega),Ta,h1];rfl
 .rw[To (by simpa using hi),Tz]at e
  split at e<;>cases e
def ua{ds:ac}{n:Nat}(i j:Nat)(es:ac):(ds.map Sl.sh++S4 n Sl.no)[i]?≠some (.ox j es):=λe=>by
 have:=S7 e;rw[TX]at this;rcases this with h|h
 .obtain⟨_,_,h⟩:=Tt.mp h;cases h
 .have:=Xv h;cases this
def qC{ds:ac}{n:Nat}{σ:L2.St}(i:Nat)(a:SA)(e:(ds.map Sl.sh++S4 n Sl.no)[i]?=some (.pt a)):σ[i]?=some (some (.ref a)):=by
 have:=S7 e;rw[TX]at this;rcases this with h|h
 .obtain⟨_,_,h⟩:=Tt.mp h;cases h
 .have:=Xv h;cases this
def CM{P:Tr}{w:TU}{K:SE}{mg:SH->Option Sy}{base:S1}{x qual:SH}{st:Ud}{f:SA}{fd:TQ}{N ps:ci}{k:Nat}{s:bv}(F:Bp K x qual st f fd)(S:eX N ps (defScope st))
  (hbody:∀(cdv:Sy) (A:TK) (outer:List Uh) (s0:SI) (H Ha:Hp) (E:XK),dw k (A.deeper (envOfC qual (defScope st) s0.heap.objs.size f cdv)) ->
   wt (dN CX0 P w K mg base N qual (defScope st) f cdv A outer s0 H E).nox E H Ha (defBody st) s):FnOk P w K mg base CX0 (k+1) f fd ps (spD K ps.length (cq N.length s)):=by
 have hpl:ps.length<=N.length:=by have:=congrArg VY S.pre;rw[UD]at this;omega
 refine F.ok S (λvs H Q E h=>h.1) λcdv A outer s0 H vs Q E hr h=>?_;obtain⟨hn,Ha,ds,hs,hv,q⟩:=h;refine⟨_,(hbody cdv A outer s0 H Ha E hr).o,Ha,ds.map Sl.sh++S4 (N.length-ds.length) .no,?_,?_⟩
 .refine⟨bh.refl hs,oG hv,λi d e=>?_,λi j d d' hij e=>?_,?_,OX.none ua qC⟩
  .by_cases hi:i<ds.length
   .rw[Tg (by simpa using hi),Ta]at e
    cases q:ds[i]? with|none|some d'=>rw[q]at e;cases e
   .rw[To (by simpa using hi),Tz]at e
    split at e<;>cases e
  .by_cases hi:i<ds.length
   .rw[Tg (by simpa using hi),Ta]at e
    cases q:ds[i]? with|none|some d'=>rw[q]at e;cases e
   .rw[To (by simpa using hi),Tz]at e
    split at e<;>cases e
  .unfold L2.start
   have:=hv.length;simp only[Tc,SD,Ug];omega
 .unfold cq at q
  cases e1:s (ds.map Sl.sh++S4 (N.length-ds.length) .no) with
  |stuck|exn x=>rw[e1]at q;exact q
  |ok r=>
   rw[e1]at q;cases r with|nx ρ'=>exact λσ' H' Ha' _ h'=>q .non H' Ha' h'.g (aO.mpr rfl)|rt d=>exact λv H' Ha' g rp=>q v H' Ha' g rp|bk ρ'|ct ρ'=>exact q.elim
mutual
def cS:D->D->Bool
 |.non,.non=>true
 |.bl a,.bl b=>a==b
 |.bl a,.int b=>(if a then 1 else 0)==b
 |.int a,.bl b=>a==(if b then 1 else 0)
 |.int a,.int b=>a==b
 |.str a,.str b=>a==b
 |.tup xs,.tup ys=>eqDs xs ys
 |.lst xs,.lst ys=>eqDs xs ys
 |_,_=>false
def eqDs:ac->ac->Bool
 |[],[]=>true
 |x::xs,y::ys=>cS x y&&eqDs xs ys
 |_,_=>false
end
def bf:Nat->D->Bool
 |_,.non=>true
 |_,.bl _=>true
 |_,.int _=>true
 |_,.str _=>true
 |n+1,.tup ds=>ds.all (bf n)
 |n+1,.lst ds=>ds.all (bf n)
 |_,_=>false
def uA{ds:ac}(h:∀d∈ds,cS d d=true):eqDs ds ds=true:=by
 induction ds with
 |nil=>simp[eqDs]
 |cons d r ih=>
  unfold eqDs;rw[h d SQ,ih λx hx=>h x (SM _ hx)];rfl
theorem jS:∀(n:Nat) (d:D),bf n d=true->cS d d=true
 |_,.non,_=>by simp[cS]
 |_,.bl b,_=>by simp[cS]
 |_,.int b,_=>by simp[cS]
 |_,.str b,_=>by simp[cS]
 |n+1,.tup ds,h=>by
  unfold bf at h;unfold cS;exact uA λd hd=>jS n d (Tp.mp h d hd)
 |n+1,.lst ds,h=>by
  unfold bf at h;unfold cS;exact uA λd hd=>jS n d (Tp.mp h d hd)
 |0,.tup ds,h=>by unfold bf at h;cases h
 |0,.lst ds,h=>by unfold bf at h;cases h
 |0,.dic ks ds,h=>by unfold bf at h;cases h
 |n+1,.dic ks ds,h=>by unfold bf at h;cases h
 |0,.exc x,h=>by unfold bf at h;cases h
 |0,.ob k x,h=>by unfold bf at h;cases h
 |n+1,.ob k x,h=>by unfold bf at h;cases h
 |n+1,.exc x,h=>by unfold bf at h;cases h
def Kc{xs ys:ac}:cS (.tup xs) (.tup ys)=eqDs xs ys:=by rw[cS]
def A6{xs ys:ac}:cS (.lst xs) (.lst ys)=eqDs xs ys:=by rw[cS]
theorem mD:∀(xs ys:ac),xs.length=ys.length->eqDs xs ys=(TY xs.length).all λj=>cS (xs.getD j .non) (ys.getD j .non)
 |[],[],_=>by simp[eqDs]
 |x::xs,y::ys,h=>by
  have ih:=mD xs ys (by simpa using h);unfold eqDs;rw[ih,S0,VO,Va,Ws];rfl
 |[],_::_,h=>by simp at h
 |_::_,[],h=>by simp at h
theorem rH:∀(xs ys:ac),xs.length≠ys.length->eqDs xs ys=false
 |[],[],h=>absurd rfl h
 |x::xs,y::ys,h=>by
  unfold eqDs;rw[rH xs ys (by simpa using h),Wa]
 |[],_::_,h=>by simp[eqDs]
 |_::_,[],h=>by simp[eqDs]
section
variable {X:Cx}{π:List (SA×Obj)}{σ:L2.St}{H:Hp}{s:SI}
def br(I:Inv X π σ H s){ds:ac}{v:V}{u:Sy}(r:Rep X.K H (.tup ds) v)(rv:bW v u):∃a vs its,v=.ref a/\u=.ref a/\j7 X.K H a vs/\Reps X.K H ds vs/\bx vs its/\IsTup s.heap a its.toArray/\ds.length=its.length:=by
 obtain⟨a,vs,rfl,h1,h2⟩:=aC.mp r;obtain rfl:u=Tu a:=rv;obtain⟨its,h3,h4,_⟩:=I.tuple h1;exact⟨a,vs,its,rfl,rfl,h1,h2,h3,h4,h2.length.trans h3.length⟩
def bo(I:Inv X π σ H s){ds:ac}{v:V}{u:Sy}(r:Rep X.K H (.lst ds) v)(rv:bW v u):∃a vs its,v=.ref a/\u=.ref a/\fM X.K H a vs/\Reps X.K H ds vs/\bx vs its/\s.heap.IsList a its.toArray/\ds.length=its.length:=by
 obtain⟨a,vs,rfl,h1,h2⟩:=aB.mp r;obtain rfl:u=Tu a:=rv;obtain⟨its,h3,h4,_⟩:=I.list h1;exact⟨a,vs,its,rfl,rfl,h1,h2,h3,h4.isList,h2.length.trans h3.length⟩
theorem qJ{n:Nat}(ih:∀(d d':D) (v:V),bf n d=true->bf n d'=true->Rep X.K H d v->Rep X.K H d' v->d=d'):∀(ds ds':ac) (vs:al),ds.all (bf n)=true->ds'.all (bf n)=true->Reps X.K H ds vs->Reps X.K H ds' vs->ds=ds'
 |[],ds',vs,_,_,h,h'=>by
  rw[Reps.nil_iff.mp h]at h';cases ds' with|nil=>rfl|cons d r=>obtain⟨_,_,e,_⟩:=aA.mp h';cases e
 |d::ds,ds',vs,a,a',h,h'=>by
  obtain⟨v,r,rfl,h1,h2⟩:=aA.mp h;cases ds' with
  |nil=>cases Reps.nil_iff.mp h'
  |cons d' ds'=>
   obtain⟨v',r',e,h1',h2'⟩:=aA.mp h';cases e;rw[Va,SX]at a a';rw[ih d d' v a.1 a'.1 h1 h1',qJ ih ds ds' r a.2 a'.2 h2 h2']
def Rep.inj(I:Inv X π σ H s):∀(n:Nat) (d d':D) (v:V),bf n d=true->bf n d'=true->Rep X.K H d v->Rep X.K H d' v->d=d':=by
 have atom:∀(n:Nat) (d d':D) (v:V),(∀ds,d≠.tup ds)->(∀ds,d≠.lst ds)->bf n d=true->bf n d'=true->Rep X.K H d v->Rep X.K H d' v->d=d':=by
  intro n d d' v n1 n2 s1 s2 h h';have nd:∀m ks ds,bf m (.dic ks ds)=true->False:=λm ks ds h=>by cases m<;>(unfold bf at h;cases h)
  have nx:∀m x,bf m (.exc x)=true->False:=λm x h=>by cases m<;>(unfold bf at h;cases h)
  have nb:∀m k x,bf m (.ob k x)=true->False:=λm k x h=>by cases m<;>(unfold bf at h;cases h)
  cases d with
  |tup ds=>exact absurd rfl (n1 ds)|lst ds=>exact absurd rfl (n2 ds)|dic ks ds=>exact(nd _ _ _ s1).elim|exc x=>exact(nx _ _ s1).elim|ob k x=>exact(nb _ _ _ s1).elim
  |non=>
   rw[aO.mp h]at h';cases d' with|non=>rfl|bl b=>cases aE.mp h'|int b=>cases ay.mp h'|str b=>cases Rep.str_iff.mp h'|tup ds=>obtain⟨_,_,e,_⟩:=aC.mp h';cases e|lst ds=>obtain⟨_,_,e,_⟩:=aB.mp h';cases e|dic ks ds=>exact(nd _ _ _ s2).elim|exc x=>exact(nx _ _ s2).elim|ob k x=>exact(nb _ _ _ s2).elim
  |bl x=>
   rw[aE.mp h]at h';cases d' with|non=>cases aO.mp h'|bl b=>cases aE.mp h';rfl|int b=>cases ay.mp h'|str b=>cases Rep.str_iff.mp h'|tup ds=>obtain⟨_,_,e,_⟩:=aC.mp h';cases e|lst ds=>obtain⟨_,_,e,_⟩:=aB.mp h';cases e|dic ks ds=>exact(nd _ _ _ s2).elim|exc x=>exact(nx _ _ s2).elim|ob k x=>exact(nb _ _ _ s2).elim
  |int x=>
   rw[ay.mp h]at h';cases d' with|non=>cases aO.mp h'|bl b=>cases aE.mp h'|int b=>cases ay.mp h';rfl|str b=>cases Rep.str_iff.mp h'|tup ds=>obtain⟨_,_,e,_⟩:=aC.mp h';cases e|lst ds=>obtain⟨_,_,e,_⟩:=aB.mp h';cases e|dic ks ds=>exact(nd _ _ _ s2).elim|exc x=>exact(nx _ _ s2).elim|ob k x=>exact(nb _ _ _ s2).elim
  |str x=>
   rw[Rep.str_iff.mp h]at h';cases d' with|non=>cases aO.mp h'|bl b=>cases aE.mp h'|int b=>cases ay.mp h'|str b=>cases Rep.str_iff.mp h';rfl|tup ds=>obtain⟨_,_,e,_⟩:=aC.mp h';cases e|lst ds=>obtain⟨_,_,e,_⟩:=aB.mp h';cases e|dic ks ds=>exact(nd _ _ _ s2).elim|exc x=>exact(nx _ _ s2).elim|ob k x=>exact(nb _ _ _ s2).elim
 intro n
 induction n with
 |zero=>
  intro d d' v s1 s2 h h';exact atom 0 d d' v (λds e=>by subst e;unfold bf at s1;cases s1) (λds e=>by subst e;unfold bf at s1;cases s1) s1 s2 h h'
 |succ n ih=>
  intro d d' v s1 s2 h h'
  by_cases t1:∃ds,d=.tup ds
  .obtain⟨ds,rfl⟩:=t1
   by_cases t2:∃ds',d'=.tup ds'
   .obtain⟨ds',rfl⟩:=t2
    obtain⟨a,vs,rfl,h1,h2⟩:=aC.mp h;obtain⟨a',vs',e,h1',h2'⟩:=aC.mp h';cases e;rw[I.tuple_inj h1' h1]at h2';unfold bf at s1 s2;rw[qJ ih ds ds' vs s1 s2 h2 h2']
   .by_cases t3:∃ds',d'=.lst ds'
    .obtain⟨ds',rfl⟩:=t3
     obtain⟨a0,_,ev,_,_⟩:=aC.mp h;subst ev;obtain⟨a,vs,its,ea,_,h1,h2,h3,h4,_⟩:=br I h rfl;cases ea;obtain⟨a',vs',its',e,_,h1',h2',h3',h4',_⟩:=bo I h' rfl;cases e;exact absurd rfl (XM h4' h4)
    .exact(atom (n+1) d' _ v (λds e=>t2 ⟨ds,e⟩) (λds e=>t3 ⟨ds,e⟩) s2 s1 h' h).symm
  .by_cases t1':∃ds,d=.lst ds
   .obtain⟨ds,rfl⟩:=t1'
    by_cases t2:∃ds',d'=.lst ds'
    .obtain⟨ds',rfl⟩:=t2
     obtain⟨a,vs,rfl,h1,h2⟩:=aB.mp h;obtain⟨a',vs',e,h1',h2'⟩:=aB.mp h';cases e;rw[I.list_inj h1' h1]at h2';unfold bf at s1 s2;rw[qJ ih ds ds' vs s1 s2 h2 h2']
    .by_cases t3:∃ds',d'=.tup ds'
     .obtain⟨ds',rfl⟩:=t3
      obtain⟨a0,_,ev,_,_⟩:=aB.mp h;subst ev;obtain⟨a,vs,its,ea,_,h1,h2,h3,h4,_⟩:=bo I h rfl;cases ea;obtain⟨a',vs',its',e,_,h1',h2',h3',h4',_⟩:=br I h' rfl;cases e;exact absurd rfl (XM h4 h4')
     .exact(atom (n+1) d' _ v (λds e=>t3 ⟨ds,e⟩) (λds e=>t2 ⟨ds,e⟩) s2 s1 h' h).symm
   .exact atom (n+1) d d' v (λds e=>t1 ⟨ds,e⟩) (λds e=>t1' ⟨ds,e⟩) s1 s2 h h'
def xC{n:Nat}{A:TK}{xs ys:ac}{vs us:al}{is js:List Sy}
  (ih:∀(x y:D) (v u:V) (a b:Sy),bf n x=true->bf n y=true->Rep X.K H x v->Rep X.K H y u->bW v a->bW u b->Ti A.in1 s a b (cS x y))
  (sx:xs.all (bf n)=true)(sy:ys.all (bf n)=true)(rx:Reps X.K H xs vs)(ry:Reps X.K H ys us)(qx:bx vs is)(qy:bx us js) :
  ∀j (h1:j<is.toArray.size) (h2:j<js.toArray.size),Ti A.in1 s is.toArray[j] js.toArray[j] (cS (xs.getD j .non) (ys.getD j .non)):=by
 intro j h1 h2;have lx:=rx.length;have ly:=ry.length;have kx:=qx.length;have ky:=qy.length;have h1':j<is.length:=by simpa using h1
 have h2':j<js.length:=by simpa using h2
 have hx:j<xs.length:=by omega
 have hy:j<ys.length:=by omega
 obtain⟨v,e1,r1⟩:=rx.get (SS hx);obtain⟨u,e2,r2⟩:=ry.get (SS hy);obtain⟨a,e3,r3⟩:=qx.get e1;obtain⟨b,e4,r4⟩:=qy.get e2;have ea:is.toArray[j]=a:=by
  rw[SS h1']at e3;simpa using T9 e3
 have eb:js.toArray[j]=b:=by
  rw[SS h2']at e4;simpa using T9 e4
 rw[ea,eb];have gx:xs.getD j .non=xs[j]:=by simp[List.getD,SS hx]
 have gy:ys.getD j .non=ys[j]:=by simp[List.getD,SS hy]
 rw[gx,gy];exact ih _ _ v u a b (Tp.mp sx _ (VW hx)) (Tp.mp sy _ (VW hy)) r1 r2 r3 r4
def wQ(I:Inv X π σ H s){A:TK}(hu:A.units<Wu){x y:D}{v u:V}{a b:Sy}(rx:Rep X.K H x v)(ry:Rep X.K H y u)(qx:bW v a)(qy:bW u b)
  (n1:∀ds ds',¬(x=.lst ds/\y=.lst ds'))(n2:∀ds ds',¬(x=.tup ds/\y=.tup ds'))(d1:∀ks ds,x≠.dic ks ds)(d2:∀ks ds,y≠.dic ks ds)(x1:∀c,x≠.exc c)(x2:∀c,y≠.exc c)(o1:∀k c,x≠.ob k c)(o2:∀k c,y≠.ob k c) :
  Tq A s a b (cS x y)/\Ti A s a b (cS x y)/\Th A s a b (!(cS x y)):=by
 cases x with
 |non=>
  cases y with
  |non=>
   obtain rfl:=aO.mp rx;obtain rfl:a=Uz:=qx;obtain rfl:=aO.mp ry;obtain rfl:b=Uz:=qy;unfold cS;exact⟨Tq.none_none ,Xf _,Th.none_none ⟩
  |bl y=>
   obtain rfl:=aO.mp rx;obtain rfl:a=Uz:=qx;obtain rfl:=aE.mp ry;obtain rfl:b=UA _:=qy;unfold cS;exact⟨Tq.none_bool _,Ti.none_bool _,Th.none_bool _⟩
  |int y=>
   obtain rfl:=aO.mp rx;obtain rfl:a=Uz:=qx;obtain rfl:=ay.mp ry;obtain⟨ty,rfl⟩:∃t,b=UU _ t:=qy;unfold cS;exact⟨Tq.none_int _ _,Ti.none_int _ _,Th.none_int _ _⟩
  |str y=>
   obtain rfl:=aO.mp rx;obtain rfl:a=Uz:=qx;obtain rfl:=Rep.str_iff.mp ry;obtain⟨ty,rfl⟩:∃t,b=UT _ t:=qy;unfold cS;exact⟨Tq.none_str _ _,Ti.none_str _ _,Th.none_str _ _⟩
  |lst y=>
   obtain rfl:=aO.mp rx;obtain rfl:a=Uz:=qx;obtain⟨ly,_,_,rfl,rfl,_,_,_,hy,_⟩:=bo I ry qy;unfold cS;exact⟨Tq.none_list  hy hu,Ti.none_list  hy hu,Th.none_list  hy hu⟩
  |tup y=>
   obtain rfl:=aO.mp rx;obtain rfl:a=Uz:=qx;obtain⟨ly,_,_,rfl,rfl,_,_,_,hy,_⟩:=br I ry qy;unfold cS;exact⟨Tq.none_tuple  hy hu,Ti.none_tuple  hy hu,Th.none_tuple  hy hu⟩
  |dic ks ds=>exact absurd rfl (d2 ks ds)|exc c=>exact absurd rfl (x2 c)|ob k c=>exact absurd rfl (o2 k c)
 |bl x=>
  cases y with
  |non=>
   obtain rfl:=aE.mp rx;obtain rfl:a=UA _:=qx;obtain rfl:=aO.mp ry;obtain rfl:b=Uz:=qy;unfold cS;exact⟨Tq.bool_none _,Ti.bool_none _,Th.bool_none _⟩
  |bl y=>
   obtain rfl:=aE.mp rx;obtain rfl:a=UA _:=qx;obtain rfl:=aE.mp ry;obtain rfl:b=UA _:=qy;unfold cS;exact⟨Tq.bool_bool _ _,Ti.bool_bool _ _,Th.bool_bool _ _⟩
  |int y=>
   obtain rfl:=aE.mp rx;obtain rfl:a=UA _:=qx;obtain rfl:=ay.mp ry;obtain⟨ty,rfl⟩:∃t,b=UU _ t:=qy;unfold cS;exact⟨Tq.bool_int _ _ _,Ti.bool_int _ _ _,Th.bool_int _ _ _⟩
  |str y=>
   obtain rfl:=aE.mp rx;obtain rfl:a=UA _:=qx;obtain rfl:=Rep.str_iff.mp ry;obtain⟨ty,rfl⟩:∃t,b=UT _ t:=qy;unfold cS;exact⟨Tq.bool_str _ _ _,Ti.bool_str _ _ _,Th.bool_str _ _ _⟩
  |lst y=>
   obtain rfl:=aE.mp rx;obtain rfl:a=UA _:=qx;obtain⟨ly,_,_,rfl,rfl,_,_,_,hy,_⟩:=bo I ry qy;unfold cS;exact⟨Tq.bool_list _ hy hu,Ti.bool_list _ hy hu,Th.bool_list _ hy hu⟩
  |tup y=>
   obtain rfl:=aE.mp rx;obtain rfl:a=UA _:=qx;obtain⟨ly,_,_,rfl,rfl,_,_,_,hy,_⟩:=br I ry qy;unfold cS;exact⟨Tq.bool_tuple _ hy hu,Ti.bool_tuple _ hy hu,Th.bool_tuple _ hy hu⟩
  |dic ks ds=>exact absurd rfl (d2 ks ds)|exc c=>exact absurd rfl (x2 c)|ob k c=>exact absurd rfl (o2 k c)
 |int x=>
  cases y with
  |non=>
   obtain rfl:=ay.mp rx;obtain⟨tx,rfl⟩:∃t,a=UU _ t:=qx;obtain rfl:=aO.mp ry;obtain rfl:b=Uz:=qy;unfold cS;exact⟨Tq.int_none _ _,Ti.int_none _ _,Th.int_none _ _⟩
  |bl y=>
   obtain rfl:=ay.mp rx;obtain⟨tx,rfl⟩:∃t,a=UU _ t:=qx;obtain rfl:=aE.mp ry;obtain rfl:b=UA _:=qy;unfold cS;exact⟨Tq.int_bool _ _ _,Ti.int_bool _ _ _,Th.int_bool _ _ _⟩
  |int y=>
   obtain rfl:=ay.mp rx;obtain⟨tx,rfl⟩:∃t,a=UU _ t:=qx;obtain rfl:=ay.mp ry;obtain⟨ty,rfl⟩:∃t,b=UU _ t:=qy;unfold cS;exact⟨Tq.int_int _ _ _ _,Ti.int_int _ _ _ _,Th.int_int _ _ _ _⟩
  |str y=>
   obtain rfl:=ay.mp rx;obtain⟨tx,rfl⟩:∃t,a=UU _ t:=qx;obtain rfl:=Rep.str_iff.mp ry;obtain⟨ty,rfl⟩:∃t,b=UT _ t:=qy;unfold cS;exact⟨Tq.int_str _ _ _ _,Ti.int_str _ _ _ _,Th.int_str _ _ _ _⟩
  |lst y=>
   obtain rfl:=ay.mp rx;obtain⟨tx,rfl⟩:∃t,a=UU _ t:=qx;obtain⟨ly,_,_,rfl,rfl,_,_,_,hy,_⟩:=bo I ry qy;unfold cS;exact⟨Tq.int_list _ _ hy hu,Ti.int_list _ _ hy hu,Th.int_list _ _ hy hu⟩
  |tup y=>
   obtain rfl:=ay.mp rx;obtain⟨tx,rfl⟩:∃t,a=UU _ t:=qx;obtain⟨ly,_,_,rfl,rfl,_,_,_,hy,_⟩:=br I ry qy;unfold cS;exact⟨Tq.int_tuple _ _ hy hu,Ti.int_tuple _ _ hy hu,Th.int_tuple _ _ hy hu⟩
  |dic ks ds=>exact absurd rfl (d2 ks ds)|exc c=>exact absurd rfl (x2 c)|ob k c=>exact absurd rfl (o2 k c)
 |str x=>
  cases y with
  |non=>
   obtain rfl:=Rep.str_iff.mp rx;obtain⟨tx,rfl⟩:∃t,a=UT _ t:=qx;obtain rfl:=aO.mp ry;obtain rfl:b=Uz:=qy;unfold cS;exact⟨Tq.str_none _ _,Ti.str_none _ _,Th.str_none _ _⟩
  |bl y=>
   obtain rfl:=Rep.str_iff.mp rx;obtain⟨tx,rfl⟩:∃t,a=UT _ t:=qx;obtain rfl:=aE.mp ry;obtain rfl:b=UA _:=qy;unfold cS;exact⟨Tq.str_bool _ _ _,Ti.str_bool _ _ _,Th.str_bool _ _ _⟩
  |int y=>
   obtain rfl:=Rep.str_iff.mp rx;obtain⟨tx,rfl⟩:∃t,a=UT _ t:=qx;obtain rfl:=ay.mp ry;obtain⟨ty,rfl⟩:∃t,b=UU _ t:=qy;unfold cS;exact⟨Tq.str_int _ _ _ _,Ti.str_int _ _ _ _,Th.str_int _ _ _ _⟩
  |str y=>
   obtain rfl:=Rep.str_iff.mp rx;obtain⟨tx,rfl⟩:∃t,a=UT _ t:=qx;obtain rfl:=Rep.str_iff.mp ry;obtain⟨ty,rfl⟩:∃t,b=UT _ t:=qy;unfold cS;exact⟨Tq.str_str _ _ _ _,Ti.str_str _ _ _ _,Th.str_str _ _ _ _⟩
  |lst y=>
   obtain rfl:=Rep.str_iff.mp rx;obtain⟨tx,rfl⟩:∃t,a=UT _ t:=qx;obtain⟨ly,_,_,rfl,rfl,_,_,_,hy,_⟩:=bo I ry qy;unfold cS;exact⟨Tq.str_list _ _ hy hu,Ti.str_list _ _ hy hu,Th.str_list _ _ hy hu⟩
  |tup y=>
   obtain rfl:=Rep.str_iff.mp rx;obtain⟨tx,rfl⟩:∃t,a=UT _ t:=qx;obtain⟨ly,_,_,rfl,rfl,_,_,_,hy,_⟩:=br I ry qy;unfold cS;exact⟨Tq.str_tuple _ _ hy hu,Ti.str_tuple _ _ hy hu,Th.str_tuple _ _ hy hu⟩
  |dic ks ds=>exact absurd rfl (d2 ks ds)|exc c=>exact absurd rfl (x2 c)|ob k c=>exact absurd rfl (o2 k c)
 |lst x=>
  cases y with
  |non=>
   obtain⟨lx,_,_,rfl,rfl,_,_,_,hx,_⟩:=bo I rx qx;obtain rfl:=aO.mp ry;obtain rfl:b=Uz:=qy;unfold cS;exact⟨Tq.list_none  hx hu,Ti.list_none  hx hu,Th.list_none  hx hu⟩
  |bl y=>
   obtain⟨lx,_,_,rfl,rfl,_,_,_,hx,_⟩:=bo I rx qx;obtain rfl:=aE.mp ry;obtain rfl:b=UA _:=qy;unfold cS;exact⟨Tq.list_bool _ hx hu,Ti.list_bool _ hx hu,Th.list_bool _ hx hu⟩
  |int y=>
   obtain⟨lx,_,_,rfl,rfl,_,_,_,hx,_⟩:=bo I rx qx;obtain rfl:=ay.mp ry;obtain⟨ty,rfl⟩:∃t,b=UU _ t:=qy;unfold cS;exact⟨Tq.list_int _ _ hx hu,Ti.list_int _ _ hx hu,Th.list_int _ _ hx hu⟩
  |str y=>
   obtain⟨lx,_,_,rfl,rfl,_,_,_,hx,_⟩:=bo I rx qx;obtain rfl:=Rep.str_iff.mp ry;obtain⟨ty,rfl⟩:∃t,b=UT _ t:=qy;unfold cS;exact⟨Tq.list_str _ _ hx hu,Ti.list_str _ _ hx hu,Th.list_str _ _ hx hu⟩
  |lst y=>
   exact absurd ⟨rfl,rfl⟩ (n1 x y)
  |tup y=>
   obtain⟨lx,_,_,rfl,rfl,_,_,_,hx,_⟩:=bo I rx qx;obtain⟨ly,_,_,rfl,rfl,_,_,_,hy,_⟩:=br I ry qy;unfold cS;exact⟨Tq.list_tuple  hx hy hu,Ti.list_tuple  hx hy hu,Th.list_tuple  hx hy hu⟩
  |dic ks ds=>exact absurd rfl (d2 ks ds)|exc c=>exact absurd rfl (x2 c)|ob k c=>exact absurd rfl (o2 k c)
 |tup x=>
  cases y with
  |non=>
   obtain⟨lx,_,_,rfl,rfl,_,_,_,hx,_⟩:=br I rx qx;obtain rfl:=aO.mp ry;obtain rfl:b=Uz:=qy;unfold cS;exact⟨Tq.tuple_none  hx hu,Ti.tuple_none  hx hu,Th.tuple_none  hx hu⟩
  |bl y=>
   obtain⟨lx,_,_,rfl,rfl,_,_,_,hx,_⟩:=br I rx qx;obtain rfl:=aE.mp ry;obtain rfl:b=UA _:=qy;unfold cS;exact⟨Tq.tuple_bool _ hx hu,Ti.tuple_bool _ hx hu,Th.tuple_bool _ hx hu⟩
  |int y=>
   obtain⟨lx,_,_,rfl,rfl,_,_,_,hx,_⟩:=br I rx qx;obtain rfl:=ay.mp ry;obtain⟨ty,rfl⟩:∃t,b=UU _ t:=qy;unfold cS;exact⟨Tq.tuple_int _ _ hx hu,Ti.tuple_int _ _ hx hu,Th.tuple_int _ _ hx hu⟩
  |str y=>
   obtain⟨lx,_,_,rfl,rfl,_,_,_,hx,_⟩:=br I rx qx;obtain rfl:=Rep.str_iff.mp ry;obtain⟨ty,rfl⟩:∃t,b=UT _ t:=qy;unfold cS;exact⟨Tq.tuple_str _ _ hx hu,Ti.tuple_str _ _ hx hu,Th.tuple_str _ _ hx hu⟩
  |lst y=>
   obtain⟨lx,_,_,rfl,rfl,_,_,_,hx,_⟩:=br I rx qx;obtain⟨ly,_,_,rfl,rfl,_,_,_,hy,_⟩:=bo I ry qy;unfold cS;exact⟨Tq.tuple_list  hx hy hu,Ti.tuple_list  hx hy hu,Th.tuple_list  hx hy hu⟩
  |tup y=>
   exact absurd ⟨rfl,rfl⟩ (n2 x y)
  |dic ks ds=>exact absurd rfl (d2 ks ds)|exc c=>exact absurd rfl (x2 c)|ob k c=>exact absurd rfl (o2 k c)
 |dic ks ds=>exact absurd rfl (d1 ks ds)
 |exc c=>exact absurd rfl (x1 c)
 |ob k c=>exact absurd rfl (o1 k c)
def Ma(I:Inv X π σ H s):∀(n:Nat) (A:TK),A.units+n<Wu->∀(x y:D) (v u:V) (a b:Sy),bf n x=true->bf n y=true->Rep X.K H x v->Rep X.K H y u->bW v a->bW u b ->
  Tq A s a b (cS x y)/\Ti A s a b (cS x y)/\Th A s a b (!(cS x y)):=by
 have nd:∀m ks ds,bf m (.dic ks ds)=true->False:=λm ks ds h=>by cases m<;>(unfold bf at h;cases h)
 have nx:∀m x,bf m (.exc x)=true->False:=λm x h=>by cases m<;>(unfold bf at h;cases h)
 have nb:∀m k x,bf m (.ob k x)=true->False:=λm k x h=>by cases m<;>(unfold bf at h;cases h)
 intro n
 induction n with
 |zero=>
  intro A hu x y v u a b sx sy rx ry qa qb;refine wQ I (by omega) rx ry qa qb (λds ds' z=>?_) (λds ds' z=>?_) (λks ds z=>?_) (λks ds z=>?_) (λc z=>nx _ _ (z▸sx)) (λc z=>nx _ _ (z▸sy)) (λk c z=>nb _ _ _ (z▸sx)) (λk c z=>nb _ _ _ (z▸sy))
  .rw[z.1]at sx;unfold bf at sx;cases sx
  .rw[z.1]at sx;unfold bf at sx;cases sx
  .rw[z]at sx;exact nd _ _ _ sx
  .rw[z]at sy;exact nd _ _ _ sy
 |succ n ih=>
  intro A hu x y v u a b sx sy rx ry qa qb;have ih':∀(x y:D) (v u:V) (a b:Sy),bf n x=true->bf n y=true->Rep X.K H x v->Rep X.K H y u->bW v a->bW u b->Ti A.in1 s a b (cS x y) :=
   λx y v u a b s1 s2 r1 r2 q1 q2=>(ih A.in1 (by show A.units+1+n<Wu;omega) x y v u a b s1 s2 r1 r2 q1 q2).2.1
  by_cases t1:∃ds ds',x=.tup ds/\y=.tup ds'
  .obtain⟨xs,ys,rfl,rfl⟩:=t1
   obtain⟨l,vs,is,rfl,rfl,h1,h2,h3,h4,h5⟩:=br I rx qa;obtain⟨m,us,js,rfl,rfl,k1,k2,k3,k4,k5⟩:=br I ry qb;have hsx:=sx;have hsy:=sy;unfold bf at sx sy;have each:=xC (A:=A) ih' sx sy h2 k2 h3 k3;have eall:cS (.tup xs) (.tup ys)=((TY (min is.toArray.size js.toArray.size)).all (λj=>cS (xs.getD j .non) (ys.getD j .non))&&is.toArray.size==js.toArray.size):=by
    rw[Kc];simp only[S8,←h5,←k5]
    by_cases hl:xs.length=ys.length
    .rw[mD xs ys hl,←hl,Nat.min_self,beq_self_eq_true,VX]
    .rw[rH xs ys hl,beq_eq_false_iff_ne.mpr hl,Wa]
   refine⟨?_,?_,?_⟩
   .rw[eall];exact Tq.tuples h4 k4 (by omega) each
   .by_cases hlm:l=m
    .subst hlm
     rw[Rep.inj I (n+1) _ _ _ hsx hsy rx ry,jS (n+1) _ hsy];exact Xf _
    .refine WG hlm ?_
     rw[eall];exact Tq.tuples h4 k4 (by omega) each
   .rw[eall];exact Th.tuples h4 k4 (by omega) each
  .by_cases t2:∃ds ds',x=.lst ds/\y=.lst ds'
   .obtain⟨xs,ys,rfl,rfl⟩:=t2
    obtain⟨l,vs,is,rfl,rfl,h1,h2,h3,h4,h5⟩:=bo I rx qa;obtain⟨m,us,js,rfl,rfl,k1,k2,k3,k4,k5⟩:=bo I ry qb;have hsx:=sx;have hsy:=sy;unfold bf at sx sy;have each:=xC (A:=A) ih' sx sy h2 k2 h3 k3
    by_cases hl:xs.length=ys.length
    .have hsz:is.toArray.size=js.toArray.size:=by simp only[S8];omega
     have eall:cS (.lst xs) (.lst ys)=(TY is.toArray.size).all (λj=>cS (xs.getD j .non) (ys.getD j .non)):=by
      rw[A6];simp only[S8,←h5];exact mD xs ys hl
     refine⟨?_,?_,?_⟩
     .rw[eall];exact Tq.lists h4 k4 hsz (by omega) each
     .by_cases hlm:l=m
      .subst hlm
       rw[Rep.inj I (n+1) _ _ _ hsx hsy rx ry,jS (n+1) _ hsy];exact Xf _
      .refine WG hlm ?_
       rw[eall];exact Tq.lists h4 k4 hsz (by omega) each
     .rw[eall];exact Th.lists h4 k4 hsz (by omega) each
    .have hsz:(is.toArray.size != js.toArray.size)=true:=by simp only[S8,bne_iff_ne,ne_eq];omega
     have eall:cS (.lst xs) (.lst ys)=false:=by rw[A6];exact rH xs ys hl
     rw[eall];refine⟨Xu h4 k4 hsz (by omega),?_,Th.lists_lengths h4 k4 hsz (by omega)⟩;refine WG (λe=>?_) (Xu h4 k4 hsz (by omega));subst e;have:=Rep.inj I (n+1) _ _ _ hsx hsy rx ry;cases this;exact hl rfl
   .exact wQ I (by omega) rx ry qa qb (λds ds' z=>t2 ⟨ds,ds',z⟩) (λds ds' z=>t1 ⟨ds,ds',z⟩) (λks ds z=>by rw[z]at sx;exact nd _ _ _ sx) (λks ds z=>by rw[z]at sy;exact nd _ _ _ sy) (λc z=>nx _ _ (z▸sx)) (λc z=>nx _ _ (z▸sy)) (λk c z=>nb _ _ _ (z▸sx)) (λk c z=>nb _ _ _ (z▸sy))
end
section
variable {X:Cx}{E:XK}
def fN(x y:D):ak D:=if bf 40 x=true/\bf 40 y=true then .ok (.bl (cS x y)) else .stuck
def jC(x y:D):ak D:=if bf 40 x=true/\bf 40 y=true then .ok (.bl (!(cS x y))) else .stuck
def OW(K:SE):R2:=λv u H Q=>∃x y,Rep K H x v/\Rep K H y u/\bf 40 x=true/\bf 40 y=true/\Q (.bl (cS x y)) H
def OR(K:SE):R2:=λv u H Q=>∃x y,Rep K H x v/\Rep K H y u/\bf 40 x=true/\bf 40 y=true/\Q (.bl (!(cS x y))) H
def cH(hu:X.A.units+64<Wu):gX X (Uc .Eq) (OW X.K):=by
 intro π s σ H x y v u Q I rx ry h;obtain⟨d,d',h1,h2,s1,s2,q⟩:=h;exact(Ma I 40 X.A (by omega) d d' x y v u s1 s2 h1 h2 rx ry).1 _ _ _ _ ⟨.bl _,H,I,rfl,q⟩
def eE(hu:X.A.units+64<Wu):gX X (Uc .NotEq) (OR X.K):=by
 intro π s σ H x y v u Q I rx ry h;obtain⟨d,d',h1,h2,s1,s2,q⟩:=h;exact(Ma I 40 X.A (by omega) d d' x y v u s1 s2 h1 h2 rx ry).2.2 _ _ _ _ ⟨.bl _,H,I,rfl,q⟩
def ef:Bo X.K E (OW X.K) fN:=by
 intro x y v u H Ha Q hs r1 r2 q;unfold fN at q
 by_cases c:bf 40 x=true/\bf 40 y=true
 .rw[if_pos c]at q
  exact⟨x,y,r1.mono hs,r2.mono hs,c.1,c.2,q _ H Ha (bh.refl hs) (aE.mpr rfl)⟩
 .rw[if_neg c]at q;exact q.elim
def gH:Bo X.K E (OR X.K) jC:=by
 intro x y v u H Ha Q hs r1 r2 q;unfold jC at q
 by_cases c:bf 40 x=true/\bf 40 y=true
 .rw[if_pos c]at q
  exact⟨x,y,r1.mono hs,r2.mono hs,c.1,c.2,q _ H Ha (bh.refl hs) (aE.mpr rfl)⟩
 .rw[if_neg c]at q;exact q.elim
open Classical in
noncomputable def l7(K:SE) (H:Hp) (ds:ac) (x:D) (u:Sy):Bool :=
 if h:∃d,d∈ds/\∃v,Rep K H d v/\bW v u then cS h.choose x else false
def A5{π:List (SA×Obj)}{σ:L2.St}{H:Hp}{s:SI}(I:Inv X π σ H s){ds:ac}{x d:D}{v:V}{u:Sy}(sd:ds.all (bf 40)=true)(hd:d∈ds)(r:Rep X.K H d v)(q:bW v u):l7 X.K H ds x u=cS d x:=by
 have h:∃d,d∈ds/\∃v,Rep X.K H d v/\bW v u:=⟨d,hd,v,r,q⟩
 unfold l7;rw[dif_pos h];obtain⟨h1,v',h2,h3⟩:=h.choose_spec;have e:v'=v:=h3.inj q;subst e;rw[Rep.inj I 40 _ _ _ (Tp.mp sd _ h1) (Tp.mp sd _ hd) h2 r]
def yK(K:SE)(neg:Bool):R2:=λv u H Q=>∃x ds,Rep K H x v/\(Rep K H (.lst ds) u∨Rep K H (.tup ds) u)/\bf 40 x=true/\ds.all (bf 40)=true/\Q (.bl (if neg then !(ds.any λd=>cS d x) else ds.any λd=>cS d x)) H
theorem ll{π:List (SA×Obj)}{σ:L2.St}{H:Hp}{s:SI}(I:Inv X π σ H s){x:D}{es:ac}(se:es.all (bf 40)=true):∀{ds:ac}{vs:al}{us:List Sy},(∀d∈ds,d∈es)->Reps X.K H ds vs->bx vs us->us.any (l7 X.K H es x)=ds.any λd=>cS d x
 |[],_,_,_,h,q=>by
  rw[Reps.nil_iff.mp h]at q;cases q;rfl
 |d::ds,_,_,hm,h,q=>by
  obtain⟨v,r,rfl,h1,h2⟩:=aA.mp h;cases q with
  |cons q1 q2=>
   rw[Xw,Xw,A5 I se (hm d SQ) h1 q1,ll I se (λx hx=>hm x (SM _ hx)) h2 q2]
theorem jT{π:List (SA×Obj)}{σ:L2.St}{H:Hp}{s:SI}(I:Inv X π σ H s)(hu:X.A.units+64<Wu){x:D}{v:V}{u:Sy}(sx:bf 40 x=true)(rx:Rep X.K H x v)(qx:bW v u){es:ac}(se:es.all (bf 40)=true):∀{ds:ac}{vs:al}{us:List Sy},(∀d∈ds,d∈es)->Reps X.K H ds vs->bx vs us->∀y∈us,Ti X.A.in1 s y u (l7 X.K H es x y)
 |[],_,_,_,h,q=>λy hy=>by
  rw[Reps.nil_iff.mp h]at q;cases q;cases hy
 |d::ds,_,_,hm,h,q=>λy hy=>by
  obtain⟨w,r,rfl,h1,h2⟩:=aA.mp h;cases q with
  |cons q1 q2=>
   rcases SV.mp hy with rfl|hy
   .rw[A5 I se (hm d SQ) h1 q1]
    exact(Ma I 40 X.A.in1 (by show X.A.units+1+40<Wu;omega) d x w v _ u (Tp.mp se _ (hm d SQ)) sx h1 rx q1 qx).2.1
   .exact jT I hu sx rx qx se (λx hx=>hm x (SM _ hx)) h2 q2 y hy
def Mv(hu:X.A.units+64<Wu):gX X (Uc .In) (yK X.K false):=by
 intro π s σ H x y v u Q I rx ry h;obtain⟨d,ds,h1,h2,s1,s2,q⟩:=h;rcases h2 with h2|h2
 .obtain⟨a,vs,its,rfl,rfl,k1,k2,k3,k4,k5⟩:=bo I h2 ry
  refine SeqAt.in_listAt (l7 X.K H ds d) k4 (λw hw=>jT I hu s1 h1 rx s2 (λ_ z=>z) k2 k3 w (by simpa using hw)) ⟨.bl _,H,I,rfl,?_⟩;rw[show its.toArray.any (l7 X.K H ds d)=its.any (l7 X.K H ds d) by simp,ll I s2 (λ_ z=>z) k2 k3];exact q
 .obtain⟨a,vs,its,rfl,rfl,k1,k2,k3,k4,k5⟩:=br I h2 ry
  refine SeqAt.in_tupleAt (l7 X.K H ds d) k4 (λw hw=>jT I hu s1 h1 rx s2 (λ_ z=>z) k2 k3 w (by simpa using hw)) ⟨.bl _,H,I,rfl,?_⟩;rw[show its.toArray.any (l7 X.K H ds d)=its.any (l7 X.K H ds d) by simp,ll I s2 (λ_ z=>z) k2 k3];exact q
def Cp(hu:X.A.units+64<Wu):gX X (Uc .NotIn) (yK X.K true):=by
 intro π s σ H x y v u Q I rx ry h;obtain⟨d,ds,h1,h2,s1,s2,q⟩:=h;rcases h2 with h2|h2
 .obtain⟨a,vs,its,rfl,rfl,k1,k2,k3,k4,k5⟩:=bo I h2 ry
  refine SeqAt.notIn_listAt (l7 X.K H ds d) k4 (λw hw=>jT I hu s1 h1 rx s2 (λ_ z=>z) k2 k3 w (by simpa using hw)) ⟨.bl _,H,I,rfl,?_⟩;rw[show its.toArray.any (l7 X.K H ds d)=its.any (l7 X.K H ds d) by simp,ll I s2 (λ_ z=>z) k2 k3];exact q
 .obtain⟨a,vs,its,rfl,rfl,k1,k2,k3,k4,k5⟩:=br I h2 ry
  refine SeqAt.notIn_tupleAt (l7 X.K H ds d) k4 (λw hw=>jT I hu s1 h1 rx s2 (λ_ z=>z) k2 k3 w (by simpa using hw)) ⟨.bl _,H,I,rfl,?_⟩;rw[show its.toArray.any (l7 X.K H ds d)=its.any (l7 X.K H ds d) by simp,ll I s2 (λ_ z=>z) k2 k3];exact q
def N5(i j:SH):Bool:=!(VJ j i 0 j.length 1).isEmpty
noncomputable def G3(x y:D):Option Bool:=match y with
 |.lst ds=>if bf 40 x=true/\ds.all (bf 40)=true then some (ds.any λd=>cS d x) else none
 |.tup ds=>if bf 40 x=true/\ds.all (bf 40)=true then some (ds.any λd=>cS d x) else none
 |.str j=>match x with
  |.str i=>some (N5 i j)
  |_=>none
 |_=>none
def xX(x y:D):ak D:=match G3 x y with
 |some b=>.ok (.bl b)
 |none=>.stuck
def c6(x y:D):ak D:=match G3 x y with
 |some b=>.ok (.bl (!b))
 |none=>.stuck
def Et(neg:Bool):R2:=λx y H Q=>∃i j,x=.str i/\y=.str j/\Q (.bl (if neg then !(N5 i j) else N5 i j)) H
def um(hu:X.A.units+64<Wu):gX X (Uc .In) (λv u H Q=>yK X.K false v u H Q∨Et false v u H Q):=gX.or (Mv hu) (by
 intro π s σ H x y v u Q I rx ry h;obtain⟨i,j,rfl,rfl,q⟩:=h;exact Cq π s σ H _ _ v u Q I rx ry ⟨i,j,rfl,rfl,q⟩)
def jJ(hu:X.A.units+64<Wu):gX X (Uc .NotIn) (λv u H Q=>yK X.K true v u H Q∨Et true v u H Q):=gX.or (Cp hu) (by
 intro π s σ H x y v u Q I rx ry h;obtain⟨i,j,rfl,rfl,q⟩:=h;exact vh π s σ H _ _ v u Q I rx ry ⟨i,j,rfl,rfl,q⟩)
def xr{neg:Bool}{x y:D}{v u:V}{H Ha:Hp}{Q:VK}(hs:aD Ha H)(r1:Rep X.K Ha x v)(r2:Rep X.K Ha y u)
  (q:post X.K E H Ha (match G3 x y with|some b=>.ok (.bl (if neg then !b else b))|none=>.stuck) Q):yK X.K neg v u H Q∨Et neg v u H Q:=by
 cases y with
 |lst ds=>
  simp only[G3]at q
  by_cases c:bf 40 x=true/\ds.all (bf 40)=true
  .rw[if_pos c]at q
   exact .inl ⟨x,ds,r1.mono hs,.inl (r2.mono hs),c.1,c.2,q _ H Ha (bh.refl hs) (aE.mpr rfl)⟩
  .rw[if_neg c]at q;exact q.elim
 |tup ds=>
  simp only[G3]at q
  by_cases c:bf 40 x=true/\ds.all (bf 40)=true
  .rw[if_pos c]at q
   exact .inl ⟨x,ds,r1.mono hs,.inr (r2.mono hs),c.1,c.2,q _ H Ha (bh.refl hs) (aE.mpr rfl)⟩
  .rw[if_neg c]at q;exact q.elim
 |str j=>
  cases x with|str i=>exact .inr ⟨i,j,Rep.str_iff.mp r1,Rep.str_iff.mp r2,q _ H Ha (bh.refl hs) (aE.mpr rfl)⟩| _=>exact q.elim
 |_=>exact q.elim
def uq:Bo X.K E (λv u H Q=>yK X.K false v u H Q∨Et false v u H Q) xX:=λx y v u H Ha Q hs r1 r2 q=>xr (neg:=false) (E:=E) hs r1 r2 (by
 unfold xX at q;cases e:G3 x y with
 |none=>rw[e]at q;exact q
 |some b=>rw[e]at q;exact q)
def jM:Bo X.K E (λv u H Q=>yK X.K true v u H Q∨Et true v u H Q) c6:=λx y v u H Ha Q hs r1 r2 q=>xr (neg:=true) (E:=E) hs r1 r2 (by
 unfold c6 at q;cases e:G3 x y with
 |none=>rw[e]at q;exact q
 |some b=>rw[e]at q;exact q)
end
@[irreducible] def B9:Nat:=2 ^ 9000
@[irreducible] def wj:Nat:=2 ^ 13500
@[irreducible] def KG:Nat:=2 ^ 60000
theorem Bq:B9=2 ^ 9000:=by unfold B9;rfl
def wg:wj=2 ^ 13500:=by unfold wj;rfl
def zQ:KG=2 ^ 60000:=by unfold KG;rfl
def rf{n k:Nat}(h:n<2 ^ k)(hk:0<k):n.log2<k:=by
 by_cases h0:n=0
 .rw[h0]
  have:Nat.log2 0=0:=by decide
  omega
 .exact(Nat.log2_lt h0).mpr h
def Pf{x y:Int}(h:y.natAbs<B9):Vo x y=false:=by
 rw[Bq]at h;exact PyProof.noPylong_of_log2 (rf h (by omega))
def My{x y:Int}(h:x.natAbs<wj):Vo x y=false:=by
 rw[wg]at h;have hx:x.natAbs.log2<13500:=rf h (by omega);show(decide ((if y==0 then 0 else y.natAbs.log2 / 30+1) > 300)&&decide ((if x==0 then 0 else x.natAbs.log2 / 30+1) > (if y==0 then 0 else y.natAbs.log2 / 30+1)+150))=false;have k:(if x==0 then 0 else x.natAbs.log2 / 30+1)<=450:=by
  by_cases hx0:(x==0)=true
  .rw[if_pos hx0];omega
  .rw[if_neg hx0];omega
 by_cases c:(if y==0 then 0 else y.natAbs.log2 / 30+1) > 300
 .rw[Ww];right;exact decide_eq_false (by omega)
 .rw[Ww];left;exact decide_eq_false c
def kJ(i j:Int):Bool:=decide (j≠0)&&(decide (j.natAbs<B9)||decide (i.natAbs<wj))
def iG(i j:Int):Bool:=decide (i.natAbs<KG)&&decide (j.natAbs<KG)
def kJ.ok{i j:Int}(h:kJ i j=true):j≠0/\Vo i j=false:=by
 unfold kJ at h;rw[SX,Wv]at h;refine⟨of_decide_eq_true h.1,?_⟩;rcases h.2 with h|h
 .exact Pf (of_decide_eq_true h)
 .exact My (of_decide_eq_true h)
def iG.ok{i j:Int}(h:iG i j=true):IntMulOk i j:=by
 unfold iG at h;rw[SX]at h;have h1:=of_decide_eq_true h.1;have h2:=of_decide_eq_true h.2;rw[zQ]at h1 h2;exact PyProof.Rows.mulOk_of_bits (m:=60000) (n:=60000) (X9.mpr h1) (X9.mpr h2) (by decide)
section
variable {X:Cx}{E:XK}{e a b c:Tn}{es:List Tn}{f g k:am}{fa:Ev->ak (ac)}{pos:Pos}
def bw{K:SE}{H Ha:Hp}{d:D}{v:V}{Q:VK}(hs:aD Ha H)(q:post K E H Ha (.ok d) Q)(r:Rep K Ha d v):Q v H:=q v H Ha (bh.refl hs) r
def xD(c:Int->Int->Bool)(g:Int->Int->D)(x y:D):ak D:=match x,y with
 |.int i,.int j=>if c i j=true then .ok (g i j) else .stuck
 |_,_=>.stuck
def yT{C:Int->Int->Prop}{c:Int->Int->Bool}{gv:Int->Int->V}{g:Int->Int->D}(hc:∀i j,c i j=true->C i j)(hg:∀K H i j,Rep K H (g i j) (gv i j)):Bo X.K E (rI C gv) (xD c g):=by
 intro x y v u H Ha Q hs r1 r2 q;unfold xD at q;cases x with
 |int i=>
  cases y with
  |int j=>
   by_cases h:c i j=true
   .simp only[if_pos h]at q
    exact⟨i,j,ay.mp r1,ay.mp r2,hc i j h,bw hs q (hg _ _ i j)⟩
   .simp only[if_neg h]at q;exact q.elim
  |_=>exact q.elim
 |_=>exact q.elim
def de{gv:Int->Int->V}{g:Int->Int->D}(hg:∀K H i j,Rep K H (g i j) (gv i j)):Bo X.K E (G2 gv) (xD (λ_ _=>true) g):=by
 intro x y v u H Ha Q hs r1 r2 q;unfold xD at q;cases x with
 |int i=>
  cases y with|int j=>simp only[if_pos]at q;exact⟨i,j,ay.mp r1,ay.mp r2,bw hs q (hg _ _ i j)⟩| _=>exact q.elim
 |_=>exact q.elim
def ri{K:SE}{H:Hp}(n:Int):Rep K H (.int n) (.int n):=ay.mpr rfl
def rb{K:SE}{H:Hp}(n:Bool):Rep K H (.bl n) (.bl n):=aE.mpr rfl
abbrev pH:=xD (λ_ _=>true) λi j=>.int (i-j)
abbrev og:=xD kJ λi j=>.int (i.fdiv j)
abbrev dA:=xD (λ_ j=>decide (j≠0)) λi j=>.int (i.fmod j)
abbrev k7:=xD (λi j=>decide (0<=j)&&decide (j<=1000000)&&decide (i.natAbs<18446744073709551616)) λi j=>.int (i ^ j.toNat)
abbrev Gz:=xD (λ_ _=>true) λi j=>.bl (decide (i<j))
abbrev C0:=xD (λ_ _=>true) λi j=>.bl (decide (i<=j))
abbrev G7:=xD (λ_ _=>true) λi j=>.bl (decide (j<i))
abbrev NG:=xD (λ_ _=>true) λi j=>.bl (decide (j<=i))
def IA:gX X (binaryOp .Mult) (rI IntMulOk λi j=>.int (i*j)):=QB λ_ _ _ _ _ _ _ hc q=>mul_int q hc
def IC:gX X (binaryOp .FloorDiv) (rI (λi j=>j≠0/\Vo i j=false) λi j=>.int (i.fdiv j)):=QB λ_ _ _ _ _ _ _ hc q=>floordiv_int hc.1 q (.inl hc.2)
def n6(ha:DE X E a f)(hb:DE X E b g):DE X E (.BinOp a .Sub b pos) (af f g pH):=rR Ms (de λ_ _ _ _=>ri _) ha hb
def mF(ha:DE X E a f)(hb:DE X E b g):DE X E (.BinOp a .FloorDiv b pos) (af f g og):=rR IC (yT (λ_ _ h=>kJ.ok h) λ_ _ _ _=>ri _) ha hb
def dY(ha:DE X E a f)(hb:DE X E b g):DE X E (.BinOp a .Mod b pos) (af f g dA):=rR IB (yT (λ_ _ h=>of_decide_eq_true h) λ_ _ _ _=>ri _) ha hb
def n8(ha:DE X E a f)(hb:DE X E b g):DE X E (.BinOp a .Pow b pos) (af f g k7):=rR Mu (yT (λi j h=>by
 rw[SX,SX]at h;exact⟨of_decide_eq_true h.1.1,of_decide_eq_true h.1.2,of_decide_eq_true h.2⟩) λ_ _ _ _=>ri _) ha hb
def nm{op:CmpOp}{b:Tn}(h1:op≠.In:=by decide)(h2:op≠.NotIn:=by decide):behindInMarks op b=false:=E1 _ h1 h2
def Gy(x:D):ak D:=match x with
 |.int i=>.ok (.int (-i))
 |_=>.stuck
def zB(ha:DE X E a f):DE X E (.UnaryOp .USub a pos) (aS f Gy):=Qc DC (by
 intro x v H Ha Q hs r q;cases x with
 |int i=>exact⟨i,ay.mp r,bw hs q (ri _)⟩
 |_=>exact q.elim) ha
def Au:gX X (binaryOp .Add) (λx y H Q=>∃l b xs zs,x=.ref l/\y=.ref b/\fM X.K H l xs/\fM X.K H b zs/\xs.length+zs.length<=sizeLine/\∀p,H p=none->Q (.ref p) (upd H p (.lst (xs++zs)))):=by
 intro π s σ H x y v u Q I rx ry h;obtain⟨l,b,xs,zs,rfl,rfl,hH,hB,hz,q⟩:=h;cases rx;cases ry;obtain⟨its,r,pl,z⟩:=I.list hH;obtain⟨its2,r2,pl2,z2⟩:=I.list hB;obtain⟨⟨cls,dd,data,sl⟩,ho,hc,n,hd⟩:=pl.isList;obtain⟨⟨cls2,dd2,data2,sl2⟩,ho2,hc2,n2,hd2⟩:=pl2.isList;simp only at hc hd hc2 hd2;subst hc hd hc2 hd2;have e:its.toArray++its2.toArray=(its++its2).toArray:=by simp
 have l1:=r.length;have l2:=r2.length;refine concat_meets ⟨_,ho,rfl⟩ ⟨_,ho2,rfl⟩ noFill_list_add seq_list_add PySem.F.slot_list_add PySem.F.entry_list_add (PySem.F.args_list_add_2 _ _) (list_addW l b its.toArray its2.toArray n n2 dd dd2 sl sl2 (by simp only[S8];omega)) ⟨ho,ho2,?_⟩;rw[e];exact⟨.ref _,_,I.lnew (t':=s.toks) (r.append r2) (by rw[Tc];omega),rfl,q _ I.fresh⟩
noncomputable def aZ(x y:D):ak D:=match x,y with
 |.int i,.int j=>.ok (.int (i+j))
 |.str i,.str j=>if i.length+j.length<=line then .ok (.str (i++j)) else .stuck
 |.lst ds,.lst es=>if ds.length+es.length<=line then .ok (.lst (ds++es)) else .stuck
 |.tup ds,.tup es=>if ds.isEmpty=false/\ds.length+es.length<=line then .ok (.tup (ds++es)) else .stuck
 |_,_=>.stuck
def aX(ha:DE X E a f)(hb:DE X E b g):DE X E (.BinOp a .Add b pos) (af f g aZ):=rR (gX.or Mw (gX.or yS (gX.or Au As))) (by
 intro x y v u H Ha Q hs r1 r2 q;unfold aZ at q;cases x with
 |int i=>
  cases y with|int j=>exact .inl ⟨i,j,ay.mp r1,ay.mp r2,bw hs q (ri _)⟩| _=>exact q.elim
 |str i=>
  cases y with
  |str j=>
   by_cases h:i.length+j.length<=line
   .simp only[if_pos h]at q
    exact .inr (.inl ⟨i,j,Rep.str_iff.mp r1,Rep.str_iff.mp r2,eg h,bw hs q (Rep.str_iff.mpr rfl)⟩)
   .simp only[if_neg h]at q;exact q.elim
  |_=>exact q.elim
 |lst ds=>
  cases y with
  |lst es=>
   by_cases h:ds.length+es.length<=line
   .simp only[if_pos h]at q
    obtain⟨l,vs,rfl,h1,h2⟩:=aB.mp r1;obtain⟨m,us,rfl,k1,k2⟩:=aB.mp r2;refine .inr (.inr (.inl ⟨l,m,vs,us,rfl,rfl,aD.sqL hs h1,aD.sqL hs k1,by rw[←h2.length,←k2.length];exact eg h,λp hp=>?_⟩));exact q _ _ _ (aI hs hp) (aB.mpr ⟨p,_,rfl,fM.of az,(h2.app k2).mono (aI hs hp).z⟩)
   .simp only[if_neg h]at q;exact q.elim
  |_=>exact q.elim
 |tup ds=>
  cases y with
  |tup es=>
   by_cases h:ds.isEmpty=false/\ds.length+es.length<=line
   .simp only[if_pos h]at q
    obtain⟨l,vs,rfl,h1,h2⟩:=aC.mp r1;obtain⟨m,us,rfl,k1,k2⟩:=aC.mp r2;refine .inr (.inr (.inr ⟨l,m,vs,us,rfl,rfl,aD.sqT hs h1,aD.sqT hs k1,λz=>?_,by rw[←h2.length,←k2.length];exact eg h.2,λz=>?_,λz p hp=>?_⟩))
    .have:=h2.length
     rw[z]at this;have e:ds=[]:=Ve.mp this;rw[e]at h;exact absurd h.1 (by decide)
    .have:=k2.length
     rw[z]at this;have e:es=[]:=Ve.mp this;rw[e,Ut]at q;exact bw hs q r1
    .exact q _ _ _ (aI hs hp) (aC.mpr ⟨p,_,rfl,j7.of az,(h2.app k2).mono (aI hs hp).z⟩)
   .simp only[if_neg h]at q;exact q.elim
  |_=>exact q.elim
 |_=>exact q.elim) ha hb
noncomputable def aH(x y:D):ak D:=match y with
 |.int i=>match x with
  |.lst ds=>match atI ds i with
   |some d=>.ok d
   |none=>.stuck
  |.tup ds=>match atI ds i with
   |some d=>.ok d
   |none=>.stuck
  |.str z=>if z.length<=line then match atI z.cps.toList i with
   |some c=>.ok (.str ⟨#[c]⟩)
   |none=>.stuck else .stuck
  |_=>.stuck
 |_=>.stuck
def Reps.atI{K:SE}{H:Hp}{ds:ac}{vs:al}{i:Int}{d:D}(h:Reps K H ds vs)(e:atI ds i=some d):∃v,L2.atI vs i=some v/\Rep K H d v:=by
 unfold L2.atI at e ⊢;rw[←h.length];cases q:K9 ds.length i with
 |none=>rw[q]at e;cases e
 |some j=>
  rw[q]at e;exact h.get e
def Pd:Bo X.K E (RQ X.K) aH:=by
 intro x y v u H Ha Q hs r1 r2 q;unfold aH at q;cases y with
 |int i=>
  cases x with
  |lst ds=>
   obtain⟨l,vs,rfl,h1,h2⟩:=aB.mp r1;cases e:atI ds i with
   |none=>simp only[e]at q;exact q.elim
   |some d=>
    simp only[e]at q;obtain⟨w,e1,e2⟩:=h2.atI e;exact .inl ⟨l,vs,i,w,rfl,ay.mp r2,aD.sqL hs h1,e1,bw hs q e2⟩
  |tup ds=>
   obtain⟨l,vs,rfl,h1,h2⟩:=aC.mp r1;cases e:atI ds i with
   |none=>simp only[e]at q;exact q.elim
   |some d=>
    simp only[e]at q;obtain⟨w,e1,e2⟩:=h2.atI e;exact .inr (.inl ⟨l,vs,i,w,rfl,ay.mp r2,aD.sqT hs h1,e1,bw hs q e2⟩)
  |str z=>
   by_cases hz:z.length<=line
   .simp only[if_pos hz]at q
    cases e:atI z.cps.toList i with
    |none=>simp only[e]at q;exact q.elim
    |some c=>
     simp only[e]at q;exact .inr (.inr ⟨z,i,c,Rep.str_iff.mp r1,ay.mp r2,eg hz,e,bw hs q (Rep.str_iff.mpr rfl)⟩)
   .simp only[if_neg hz]at q;exact q.elim
  |_=>exact q.elim
 |_=>exact q.elim
def aq(ha:DE X E a f)(hb:DE X E b g)(hs:kF b:=by intro _ _;rfl):DE X E (.Subscript a b pos) (af f g aH):=Qe MN Pd ha hb hs
def gI:Ev->ak (Option Int):=λ_=>.ok none
def dD(f:am):Ev->ak (Option Int):=λρ=>(f ρ).bind λx=>match x with
 |.int i=>.ok (some i)
 |_=>.stuck
def Q0(K:SE)(E:XK)(f:Ev->ak (Option Int)):TO:=λσ H Q=>∃Ha ρ,aD Ha H/\ez K Ha σ ρ/\match f ρ with
 |.ok o=>∀H' Ha',bh H Ha H' Ha'->Q o H'
 |.exn x=>∀C ox H' Ha',bh H Ha H' Ha'->wq K Ha' x C ox->E C ox H'
 |.stuck=>False
structure DO (X:Cx) (E:XK) (e:Option Tn) (f:Ev->ak (Option Int)):Prop where
 o:PO X e (Q0 X.K E f)
def Aj{eo:Option Tn}{t t':TO}(h:PO X eo t)(w:∀σ H Q,t' σ H Q->t σ H Q):PO X eo t':=λπ s σ H Q I q=>h π s σ H Q I (w σ H Q q)
def jf:DO X E none gI:=⟨Aj Il λσ H Q ⟨Ha,ρ,hs,hr,q⟩=>q H Ha (bh.refl hs)⟩
def dG(ha:DE X E a f):DO X E (some a) (dD f):=by
 refine⟨?_⟩;refine Aj (Ik ha.o) λσ H Q z9=>?_;obtain⟨Ha,ρ,hs,hr,q⟩:=z9;refine⟨Ha,ρ,hs,hr,?_⟩
 unfold dD at q;cases e1:f ρ with
 |stuck|exn x=>rw[e1]at q;exact q
 |ok d=>
  rw[e1]at q;intro v H1 H01 g1 r1;cases d with|int i=>exact⟨i,ay.mp r1,q H1 H01 g1⟩| _=>exact q.elim
def mG(xs:ac)(lo hi:Option Int):ac:=(xs.drop (HT.sIx xs.length 0 lo)).take (HT.sIx xs.length xs.length hi-HT.sIx xs.length 0 lo)
def Reps.cut{K:SE}{H:Hp}{ds:ac}{vs:al}(h:Reps K H ds vs)(lo hi:Option Int):Reps K H (mG ds lo hi) (xZ vs lo hi):=by
 unfold mG xZ;rw[←h.length];exact(h.drop _).take _
def wI{r:V->Option Int->Option Int->Hp->VK->Prop}{lo hi:Ev->ak (Option Int)}{m:D->Option Int->Option Int->ak D}
  (ho:∀x v l h H Ha Q,aD Ha H->Rep X.K Ha x v->post X.K E H Ha (m x l h) Q->r v l h H Q)(σ:L2.St)(H:Hp)(Q:VK)
  (h:tD X.K E (λρ=>(f ρ).bind λx=>(lo ρ).bind λl=>(hi ρ).bind λh=>m x l h) σ H Q):RJ r (tD X.K E f) (Q0 X.K E lo) (Q0 X.K E hi) σ H Q:=by
 obtain⟨Ha,ρ,hs,hr,q⟩:=h;refine⟨Ha,ρ,hs,hr,?_⟩;replace q:post X.K E H Ha ((f ρ).bind λx=>(lo ρ).bind λl=>(hi ρ).bind λh=>m x l h) Q:=q;cases e1:f ρ with
 |stuck|exn x=>rw[e1]at q;exact q
 |ok x=>
  rw[e1]at q;intro v H1 H01 g1 r1;refine⟨H01,ρ,g1.sub,hr.mono g1.z,?_⟩;replace q:post X.K E H Ha ((lo ρ).bind λl=>(hi ρ).bind λh=>m x l h) Q:=q;replace q:=q.grow g1;cases e2:lo ρ with
  |stuck|exn x=>rw[e2]at q;exact q
  |ok l=>
   rw[e2]at q;intro H2 H02 g2;refine⟨H02,ρ,g2.sub,(hr.mono g1.z).mono g2.z,?_⟩;replace q:post X.K E H1 H01 ((hi ρ).bind λh=>m x l h) Q:=q;replace q:=q.grow g2;cases e3:hi ρ with
   |stuck|exn x=>rw[e3]at q;exact q
   |ok h=>
    rw[e3]at q;intro H3 H03 g3;exact ho x v l h H3 H03 Q g3.sub ((r1.mono g2.z).mono g3.z) (post.grow (r:=m x l h) q g3)
def m1(m:D->ak D)(ds:ac):ak D:=match ds with
 |[x]=>m x
 |_=>.stuck
def m2(m:D->D->ak D)(ds:ac):ak D:=match ds with
 |[x,y]=>m x y
 |_=>.stuck
def nc{r:al->Hp->VK->Prop}{m:D->ak D}(h:∀x v H Ha Q,aD Ha H->Rep X.K Ha x v->post X.K E H Ha (m x) Q->r [v] H Q):jx X E r (m1 m):=by
 intro ds vs H Ha Q hs hr q;unfold m1 at q
 match ds,hr,q with
 |[x],hr,q=>
  obtain⟨v,r',rfl,h1,h2⟩:=aA.mp hr;rw[Reps.nil_iff.mp h2];exact h x v H Ha Q hs h1 q
 |[],_,q=>exact q.elim
 |_::_::_,_,q=>exact q.elim
def Qh{r:al->Hp->VK->Prop}{m:D->D->ak D}(h:∀x y v u H Ha Q,aD Ha H->Rep X.K Ha x v->Rep X.K Ha y u->post X.K E H Ha (m x y) Q->r [v,u] H Q):jx X E r (m2 m):=by
 intro ds vs H Ha Q hs hr q;unfold m2 at q
 match ds,hr,q with
 |[x,y],hr,q=>
  obtain⟨v,r',rfl,h1,h2⟩:=aA.mp hr;obtain⟨u,r'',rfl,h3,h4⟩:=aA.mp h2;rw[Reps.nil_iff.mp h4];exact h x y v u H Ha Q hs h1 h3 q
 |[],_,q=>exact q.elim
 |[_],_,q=>exact q.elim
 |_::_::_::_,_,q=>exact q.elim
def Kn(x:D):ak D:=match x with
 |.int i=>.ok (.int (if i<0 then -i else i))
 |_=>.stuck
def Qf(x y:D):ak D:=match x,y with
 |.int i,.int j=>.ok (.int (if j > i then j else i))
 |_,_=>.stuck
def cC(x:D):ak D:=match x with
 |.lst ds=>.ok (.int ds.length)
 |.tup ds=>.ok (.int ds.length)
 |.str z=>if z.length<=line then .ok (.int z.length) else .stuck
 |_=>.stuck
def oa(x:D):ak D:=match x with
 |.int i=>.ok (.int i)
 |.bl b=>.ok (.int (if b then 1 else 0))
 |_=>.stuck
def mn(x:D):ak D:=match x with
 |.lst ds=>.ok (.lst ds)
 |.tup ds=>.ok (.lst ds)
 |_=>.stuck
def zG:jx X E (λxs H Q=>∃i,xs=[.int i]/\Q (.int (if i<0 then -i else i)) H) (m1 Kn):=nc λx v H Ha Q hs r q=>by
 cases x with|int i=>exact⟨i,by rw[ay.mp r],bw hs q (ri _)⟩| _=>exact q.elim
def NK:jx X E (λxs H Q=>∃i j,xs=[.int i,.int j]/\Q (.int (if j > i then j else i)) H) (m2 Qf):=Qh λx y v u H Ha Q hs r r' q=>by
 cases x with
 |int i=>
  cases y with|int j=>exact⟨i,j,by rw[ay.mp r,ay.mp r'],bw hs q (ri _)⟩| _=>exact q.elim
 |_=>exact q.elim
def cb:jx X E (λxs H Q=>∃x n,xs=[x]/\Qr X.K x H n/\Q (.int n) H) (m1 cC):=nc λx v H Ha Q hs r q=>by
 cases x with
 |lst ds=>
  obtain⟨p,vs,rfl,h1,h2⟩:=aB.mp r;refine⟨_,vs.length,rfl,.inl ⟨vs,aD.sqL hs h1,rfl⟩,?_⟩;rw[←h2.length];exact bw hs q (ri _)
 |tup ds=>
  obtain⟨p,vs,rfl,h1,h2⟩:=aC.mp r;refine⟨_,vs.length,rfl,.inr ⟨vs,aD.sqT hs h1,rfl⟩,?_⟩;rw[←h2.length];exact bw hs q (ri _)
 |str z=>
  unfold cC at q
  by_cases hz:z.length<=line
  .simp only[if_pos hz]at q
   rw[Rep.str_iff.mp r];exact⟨_,z.length,rfl,⟨eg hz,rfl⟩,bw hs q (ri _)⟩
  .simp only[if_neg hz]at q;exact q.elim
 |_=>exact q.elim
def NL:jx X E (λxs H Q=>(∃i,xs=[.int i]/\Q (.int i) H)∨∃k,xs=[.bl k]/\Q (.int (if k then 1 else 0)) H) (m1 oa):=nc λx v H Ha Q hs r q=>by
 cases x with|int i=>exact .inl ⟨i,by rw[ay.mp r],bw hs q (ri _)⟩|bl i=>exact .inr ⟨i,by rw[aE.mp r],bw hs q (ri _)⟩| _=>exact q.elim
def m9:jx X E (λxs H Q=>∃p ys,xs=[.ref p]/\(fM X.K H p ys∨j7 X.K H p ys)/\∀l,H l=none->Q (.ref l) (upd H l (.lst ys))) (m1 mn):=nc λx v H Ha Q hs r q=>by
 cases x with
 |lst ds=>
  obtain⟨p,vs,rfl,h1,h2⟩:=aB.mp r;exact⟨p,vs,rfl,.inl (aD.sqL hs h1),λn hn=>q _ _ _ (aI hs hn) (aB.mpr ⟨n,_,rfl,fM.of az,h2.mono (aI hs hn).z⟩)⟩
 |tup ds=>
  obtain⟨p,vs,rfl,h1,h2⟩:=aC.mp r;exact⟨p,vs,rfl,.inr (aD.sqT hs h1),λn hn=>q _ _ _ (aI hs hn) (aB.mpr ⟨n,_,rfl,fM.of az,h2.mono (aI hs hn).z⟩)⟩
 |_=>exact q.elim
def cF{T:String}{r:al->Hp->VK->Prop}{m:ac->ak D}{x:SH}{p:Pos}(hc:iU X (.type T) r)(hd:jx X E r m)(hg:Gl X x)(hm:X.mg x=none)(hv:bootBuiltins x=some (.type T))(ha:DA X E (e::es) fa)(hn:x≠"__name__":=by decide)(hdb:(x==("__debug__" : SH))=false:=by decide)
  (he:SJ (e::es) X.env=(false,eval e X.env)::SJ es X.env:=by exact aF rfl)(hpl:(TZ pos (SJ es X.env)).any (·.1)=false:=by exact bj rfl):DE X E (.Call (.Name x p) (e::es) [] pos) (ao fa m) :=
 ⟨bc (Cn hc hg hm hv ha.o hn hdb he hpl) (lX hd)⟩
def mV:D->Bool
 |.non=>true
 |_=>false
def pI(x y:D):ak D:=match y with
 |.non=>.ok (.bl (mV x))
 |_=>.stuck
def jV(x y:D):ak D:=match y with
 |.non=>.ok (.bl (!(mV x)))
 |_=>.stuck
def Rep.is_non{K:SE}{H:Hp}{x:D}{v:V}(r:Rep K H x v):decide (v=.non)=mV x:=by
 cases x with|non=>rw[aO.mp r];rfl|bl b=>rw[aE.mp r];rfl|int b=>rw[ay.mp r];rfl|str b=>rw[Rep.str_iff.mp r];rfl|tup ds=>obtain⟨_,_,e,_⟩:=aC.mp r;rw[e];rfl|lst ds=>obtain⟨_,_,e,_⟩:=aB.mp r;rw[e];rfl|dic ks ds=>rw[Rep]at r;obtain⟨_,_,_,e,_⟩:=r;rw[e];rfl|exc x=>obtain⟨_,_,_,e,_⟩:=gU.mp r;rw[e];rfl|ob k x=>obtain⟨_,_,e,_⟩:=bO.mp r;rw[e];rfl
def vv:Bo X.K E (λx y H Q=>y=.non/\Q (.bl (decide (x=.non))) H) pI:=by
 intro x y v u H Ha Q hs r1 r2 q;unfold pI at q;cases y with|non=>exact⟨aO.mp r2,by rw[r1.is_non];exact bw hs q (rb _)⟩| _=>exact q.elim
def vt:Bo X.K E (λx y H Q=>y=.non/\Q (.bl (!decide (x=.non))) H) jV:=by
 intro x y v u H Ha Q hs r1 r2 q;unfold jV at q;cases y with
 |non=>
  refine⟨aO.mp r2,?_⟩;rw[r1.is_non];exact bw hs q (rb _)
 |_=>exact q.elim
noncomputable def ym:D->String
 |.non=>"NoneType"
 |.bl _=>"bool"
 |.int _=>"int"
 |.str _=>"str"
 |.tup _=>"tuple"
 |.lst _=>"list"
 |.dic _ _=>"dict"
 |.exc _=>"<exc>"
 |.ob (.ins _ _) _=>"<exc>"
 |.ob (.dint _) _=>"dict"
 |.ob (.exf _ _) _=>"<exc>"
 |.ob .pl _=>"list"
def dW(T:String)(x:D):ak D:=.ok (.bl (ym x==T||(ym x=="bool"&&T=="int")))
def sQ(K:SE)(T:String):Prop:=∀S,S∈["NoneType","bool","int","str","tuple","list","dict"]->X7 K (.type S) (.type T)=some (S==T||(S=="bool"&&T=="int"))
def Fv{π:List (SA×Obj)}{σ:L2.St}{H:Hp}{s:SI}{A:TK}{Q:Sy->SI->Prop}{x:D}{v:V}{u:Sy}{T:String}(I:Inv X π σ H s)(r:Rep X.K H x v)(q:bW v u)(hk:sQ X.K T)(hT:T∈gA)(h:∀tk,Q (.bool (ym x==T||(ym x=="bool"&&T=="int"))) { s with toks:=tk }) :
  Td (Tb X.prog X.w) A (call (.builtin "isinstance") [u,.type T]) Q X.xe s:=by
 cases x with
 |non=>rw[aO.mp r]at q;exact jO I q .non (hk _ (by simp)) h|bl b=>rw[aE.mp r]at q;exact jO I q (.bl b) (hk _ (by simp)) h|int b=>rw[ay.mp r]at q;exact jO I q (.int b) (hk _ (by simp)) h|str b=>rw[Rep.str_iff.mp r]at q;exact jO I q (.str b) (hk _ (by simp)) h
 |tup ds=>
  obtain⟨a,vs,its,rfl,rfl,h1,h2,h3,h4,_⟩:=br I r q;obtain⟨o,k1,k2,_⟩:=h4;exact UB W.kitx_tuple I.kIn ⟨o,k1,k2⟩ (hk _ (by simp)) (λz=>nomatch z) h
 |lst ds=>
  obtain⟨a,vs,its,rfl,rfl,h1,h2,h3,h4,_⟩:=bo I r q;obtain⟨o,k1,k2,_⟩:=h4;exact UB X6 I.kIn ⟨o,k1,k2⟩ (hk _ (by simp)) (λz=>nomatch z) h
 |dic ks ds=>
  rw[Rep]at r;obtain⟨a,kvs,vs,rfl,h1,h2,_⟩:=r;cases (show u=Tu a from q);obtain⟨_,_,vs',_,p⟩:=h1.ok I.hok;obtain⟨o,es,ep,k1,k2,_⟩:=p;exact UB Xd I.kIn ⟨o,k1,k2.1⟩ (hk _ (by simp)) (λz=>nomatch z) h
 |exc x=>
  obtain⟨a,C,dc,rfl,hc,h1⟩:=gU.mp r;cases (show u=Tu a from q);obtain⟨p,_,_⟩:=h1.ok I.hok;have e:(ym (.exc x)==T||(ym (.exc x)=="bool"&&T=="int"))=false:=by
   have:∀T∈gA,(ym (.exc x)==T||(ym (.exc x)=="bool"&&T=="int"))=false:=by show ∀T∈gA,("<exc>"==T||("<exc>"=="bool"&&T=="int"))=false;decide
   exact this T hT
  rw[e]at h;exact UB (rg hc.ek hc.ek.isCls) I.kIn p (hc.bt T hT) (λz=>nomatch z) h
 |ob k xs=>
  obtain⟨a,vs,rfl,h1,_⟩:=bO.mp r;cases (show u=Tu a from q);cases k with
  |exf c ks=>
   obtain⟨C,dx,fs,hc,h2,_⟩:=h1;obtain⟨p,_,_⟩:=h2.ok I.hok;have e:(ym (.ob (.exf c ks) xs)==T||(ym (.ob (.exf c ks) xs)=="bool"&&T=="int"))=false:=by
    have:∀T∈gA,("<exc>"==T||("<exc>"=="bool"&&T=="int"))=false:=by decide
    exact this T hT
   rw[e]at h;exact UB (rg hc.ek hc.ek.isCls) I.kIn p (hc.bt T hT) (λz=>nomatch z) h
  |ins c ks=>
   obtain⟨C,dx,_,hc,h2,_⟩:=h1;obtain⟨mA,O,_⟩:=qf I.hok h2;obtain⟨od,O',_⟩:=O.look;have e:(ym (.ob (.ins c ks) xs)==T||(ym (.ob (.ins c ks) xs)=="bool"&&T=="int"))=false:=by
    have:∀T∈gA,(ym (.ob (.ins c ks) xs)==T||(ym (.ob (.ins c ks) xs)=="bool"&&T=="int"))=false:=by show ∀T∈gA,("<exc>"==T||("<exc>"=="bool"&&T=="int"))=false;decide
    exact this T hT
   rw[e]at h;exact UB (W.kitx_own (hc.cls.get _) hc.cls.hd hc.gc hc.gn hc.tk hc.mo) I.kIn O' (hc.bt T hT) (λz=>nomatch z) h
  |dint ks=>
   obtain⟨kvs,h2,_⟩:=h1;obtain⟨_,_,vs',_,p⟩:=h2.ok I.hok;obtain⟨o,es,ep,k1,k2,_⟩:=p;exact UB Xd I.kIn ⟨o,k1,k2.1⟩ (hk _ (by simp)) (λz=>nomatch z) h
  |pl=>exact jO I (show bW (.ref a) (Tu a) from rfl) (.lst h1) (hk _ (by simp)) h
def bS{T:String}{x:SH}{p1 p2:Pos}(hk:sQ X.K T)(hgi:Gl X "isinstance")(hmi:X.mg "isinstance"=none)(hg:Gl X x)(hm:X.mg x=none)(hv:bootBuiltins x=some (.type T))(ha:DE X E a f)
  (hn:x≠"__name__":=by decide)(hdb:(x==("__debug__" : SH))=false:=by decide)(hT:T∈gA:=by decide)
  (he:SJ [a,.Name x p2] X.env=(false,eval a X.env)::SJ [.Name x p2] X.env:=by exact aF rfl)(he2:SJ [.Name x p2] X.env=(false,eval (.Name x p2) X.env)::SJ [] X.env:=by exact aF rfl)(hpl:(TZ pos (SJ [.Name x p2] X.env)).any (·.1)=false:=by exact bj rfl) :
  DE X E (.Call (.Name "isinstance" p1) [a,.Name x p2] [] pos) (aS f (dW T)):=by
 refine⟨?_⟩;refine bc (qV (r:=λvs H Q=>∃d v,vs=[v,.ty T]/\Rep X.K H d v/\Q (.bl (ym d==T||(ym d=="bool"&&T=="int"))) H) ?_ hgi hmi PyProof.Rows.Boot.«isinstance» (cG ha.o (cG (Iy (v:=.ty T) hg hm hv rfl hn hdb) e7 he2) he) (by decide) (by decide) he hpl) λσ H Q ⟨Ha,ρ,hs,hr,q⟩=>⟨Ha,ρ,hs,hr,?_⟩
 .intro π s σ H xs us Q I r h
  obtain⟨d,v,rfl,h1,q⟩:=h;cases r with
  |cons r1 r2=>
   cases r2 with
   |cons r3 r4=>
    cases r4;rename_i u1 u2;obtain rfl:u2=Value.type T:=r3;exact Fv I h1 r1 hk hT λtk=>⟨.bl _,H,I.tok _,rfl,q⟩
 .unfold aS at q
  cases e1:f ρ with
  |stuck|exn x=>rw[e1]at q;exact q
  |ok d=>
   rw[e1]at q;intro v H1 H01 g1 r1;exact⟨d,v,rfl,r1.mono g1.sub,q _ H1 H01 g1 (rb _)⟩
end
theorem uC{prog:Tr}{w:TU}{A:TK}{E:Sy->SI->Prop}{it t:SA}{items:Array Sy}(hne:t≠it):∀(n i:Nat) (s:SI) (Q:List Sy->SI->Prop),s.heap.IsListIter it t i->s.heap.IsList t items->i+n<=items.size ->
  (∀h',h'.IsListIter it t (i+n)->VQ it s.heap h'->Q ((items.toList.drop i).take n) { s with heap:=h' })->Td (Tb prog w) A (draw (.ref it) n) Q E s
 |0,i,s,Q,hit,_,_,hQ=>by
  show Td _ _ (pure []) Q E s;exact S5 (by simpa using hQ s.heap hit (VQ.refl ..))
 |n+1,i,s,Q,hit,ht,hle,hQ=>by
  have hlt:i<items.size:=by omega
  show Td _ _ (pyNext (.ref it) >>= _) Q E s;refine SG (wpAny_pyNext_list_item hit ht (x:=items[i]) (by simp[hlt]) λh₁ hit₁ hs₁=>?_);have ht₁:h₁.IsList t items:=by
   obtain⟨o,k1,k2⟩:=ht;exact⟨o,(hs₁.2 t hne).trans k1,k2⟩
  refine SG (UY (uC hne n (i+1) _ _ hit₁ ht₁ (by omega) λhU hit₂ hs₂=>S5 ?_));have hd:items.toList.drop i=items[i]::items.toList.drop (i+1):=by simp[T7,hlt]
  have:=hQ hU (by rw[show i+(n+1)=i+1+n by omega];exact hit₂) (hs₁.trans hs₂);rw[hd,List.take_succ_cons]at this;exact this
def nF{prog:Tr}{w:TU}{A:TK}{E:Sy->SI->Prop}{s:SI}{t:SA}{items:Array Sy}{Q:List Sy->SI->Prop}(hh:A.handled=none)(ht:s.heap.IsList t items)
  (hQ:∀h',Heap.ExtBut s.heap.objs.size s.heap h'->Q items.toList { s with heap:=h' }):Td (Tb prog w) A (unpackItems (.ref t) items.size none) Q E s:=by
 have hlt:t≠s.heap.objs.size:=by obtain⟨o,ho,_⟩:=ht;exact Ts (S9 ho)
 unfold unpackItems;refine SG ?_
 .unfold notIterableAtAll
  refine SG (wpAny_specialOf ht.typeIs slot_list_iter.lookup ?_);refine S5 ?_;simp only[WO,if_false];refine SG (UY (wpAny_pyIter_list ht ?_));have ht0:(s.heap.push { cls:=.type "list_iterator",data:=.fields #[.ref t,.int 0 0] }).IsList t items:=by
   obtain⟨o,k1,k2⟩:=ht;exact⟨o,SK _ k1,k2⟩
  refine SG (UY (uC hlt items.size 0 _ _ ⟨_,TH _ rfl,rfl,rfl⟩ ht0 (by omega) λh₁ hit₁ hs₁=>?_));have hall:List.take items.size (List.drop 0 items.toList)=items.toList:=by
   rw[List.drop_zero];exact XX (by simp)
  rw[hall];rw[if_neg (by simp)];have ht₁:h₁.IsList t items:=by
   obtain⟨o,k1,k2⟩:=ht0;exact⟨o,(hs₁.2 t hlt).trans k1,k2⟩
  refine SG (UY (wpAny_pyNext_list_end hh hit₁ ht₁ (by simp) λhU he₂=>?_));simp only[Option.isSome_none,WO,if_false];refine S5 (hQ hU λb o hb e=>he₂ b o hb (hs₁.extBut b o hb (SK _ e)))
def yB(σ:L2.St):cr->al->L2.St
 |i::is,v::vs=>yB (σ.set i (some v)) is vs
 |_,_=>σ
def fz(ρ:Ev):cr->ac->Ev
 |i::is,d::ds=>fz (ρ.set i (.sh d)) is ds
 |_,_=>ρ
theorem eO.putAll{K:SE}{He η Ha H:Hp}:∀{is:cr}{ds:ac}{vs:al}{σ:L2.St}{ρ:Ev},eO K He η Ha σ H ρ->Reps K Ha ds vs->eO K He η Ha (yB σ is vs) H (fz ρ is ds)
 |[],_,_,_,_,h,_=>by unfold yB fz;exact h
 |_::_,[],_,_,_,h,r=>by rw[Reps.nil_iff.mp r];unfold yB fz;exact h
 |i::is,d::ds,_,_,_,h,r=>by
  obtain⟨v,vs,rfl,h1,h2⟩:=aA.mp r;unfold yB fz;exact eO.putAll (h.put h1) h2
section
variable {X:Cx}{E:XK}{He η:Hp}{e a b:Tn}{es:List Tn}{f g:am}{fa:Ev->ak (ac)}{pos:Pos}{is:cr}
def N2(is:cr):G8:=λvs σ H Q=>vs.length=is.length/\Q (yB σ is vs) H
def wZ{t t':G8}(h:De X es t)(w:∀vs σ H Q,t' vs σ H Q->t vs σ H Q):De X es t':=λπ s σ H vs us Q I r q=>h π s σ H vs us Q I r (w vs σ H Q q)
def ji:De X [] (N2 []):=wZ Iq λvs σ H Q z9=>by
 obtain⟨h,q⟩:=z9;have e:vs=[]:=Ve.mp h;subst e;exact⟨rfl,q⟩
def bC{i:Nat}{x:SH}{p:Pos}(hN:X.N.Nodup)(hi:X.N[i]?=some x)(hx:zL X.env.scope x)(h:De X es (N2 is))(hf:X.fn x=true∨X.env.scope.names.lookup x=some .local := by first|exact .inl rfl|exact .inr rfl|assumption)
  (hs:(assignEach (.Name x p::es) X.env).map (·.2)=assign (.Name x p) X.env::(assignEach es X.env).map (·.2):=by rfl):De X (.Name x p::es) (N2 (i::is)) :=
 wZ (EJ (Al hN hi hx hf) h hs) λvs σ H Q z9=>by
  obtain⟨h,q⟩:=z9;cases vs with|nil=>simp at h|cons v vs=>exact⟨v,vs,rfl,by simpa using h,q⟩
def Ir{k:Nat}{t:G8}{n:Nat}(hc:X.calm=true)(h:De X es t)
  (hn:(assignEach es X.env).length=n:=by rfl)(hst:(assignEach es X.env).findIdx? (·.1)=none:=by rfl):PG X (.Tuple es k pos) (λv σ H Q=>∃a xs,v=.ref a/\fM X.K H a xs/\xs.length=n/\t xs σ H Q):=by
 intro π s σ H v u Q I r hw;obtain⟨a,xs,e1,hq,hl,hw⟩:=hw;subst e1;cases r;obtain⟨its,rv,ht,hz⟩:=I.list hq;rw[assign_Tuple];refine SG (wpAny_standAt ?_);unfold unpack;rw[hn,hst];have hsz:n=its.toArray.size:=by rw[S8,←rv.length,hl]
 rw[hsz];refine SG (UY (nF (I.ok.hd hc) ht.isList λh' hx=>?_));have I1:Inv X π σ H { s with heap:=h' }:=I.kept (t':=s.toks) λb o e=>hx b o (Ts (S9 e)) e;exact h π _ σ H xs _ Q I1 (by simpa using rv) hw
def O4{tgt:Tn}{t t':TG}(h:PG X tgt t)(h':PG X tgt t'):PG X tgt (λv σ H Q=>t v σ H Q∨t' v σ H Q):=λπ s σ H v u Q I r q=>q.elim (h π s σ H v u Q I r) (h' π s σ H v u Q I r)
def EK{k:Nat}(hc:X.calm=true)(h:De X es (N2 is))(hn:(assignEach es X.env).length=is.length:=by rfl)(hst:(assignEach es X.env).findIdx? (·.1)=none:=by rfl) :
  PG X (.Tuple es k pos) (λv σ H Q=>∃a xs,v=.ref a/\(j7 X.K H a xs∨fM X.K H a xs)/\xs.length=is.length/\Q (yB σ is xs) H) :=
 vd (O4 (Mn hc h hn hst) (Ir hc h hn hst)) λv σ H Q ⟨a,xs,e,hq,hl,q⟩=>hq.elim (λz=>.inl ⟨a,xs,e,z,hl,hl,q⟩) λz=>.inr ⟨a,xs,e,z,hl,hl,q⟩
def gB(n:Nat)(d:D):Option (ac):=match d with
 |.tup ds=>if ds.length=n then some ds else none
 |.lst ds=>if ds.length=n then some ds else none
 |_=>none
def oK{K:SE}{H:Hp}{n:Nat}{d:D}{ds:ac}{v:V}(h:gB n d=some ds)(r:Rep K H d v):∃a vs,v=.ref a/\(j7 K H a vs∨fM K H a vs)/\vs.length=n/\Reps K H ds vs:=by
 unfold gB at h;cases d with
 |tup es=>
  by_cases c:es.length=n
  .simp only[if_pos c]at h;cases h
   obtain⟨a,vs,rfl,h1,h2⟩:=aC.mp r;exact⟨a,vs,rfl,.inl h1,by rw[←h2.length];exact c,h2⟩
  .simp only[if_neg c]at h;cases h
 |lst es=>
  by_cases c:es.length=n
  .simp only[if_pos c]at h;cases h
   obtain⟨a,vs,rfl,h1,h2⟩:=aB.mp r;exact⟨a,vs,rfl,.inr h1,by rw[←h2.length];exact c,h2⟩
  .simp only[if_neg c]at h;cases h
 |_=>cases h
def wK{K:SE}{H H':Hp}{a:SA}{vs:al}(hs:aD H H')(h:j7 K H a vs∨fM K H a vs):j7 K H' a vs∨fM K H' a vs:=h.elim (λz=>.inl (aD.sqT hs z)) λz=>.inr (aD.sqL hs z)
def HW(is:cr)(f:am):bv:=λρ=>(f ρ).bind λd=>match gB is.length d with
 |some ds=>.ok (.nx (fz ρ is ds))
 |none=>.stuck
def Gm{k:Nat}{tp:Pos}(hc:X.calm=true)(he:DE X E e f)(h:De X es (N2 is))(hs:swapsWithSole [.Tuple es k tp] e pos.line X.env=pure false:=by rfl)(hw:swappedStores [.Tuple es k tp] e X.env=pure none:=by rfl)
  (h1:(assignEach [.Tuple es k tp] X.env).map (·.2)=[assign (.Tuple es k tp) X.env]:=by rfl)(hn:(assignEach es X.env).length=is.length:=by rfl)(hst:(assignEach es X.env).findIdx? (·.1)=none:=by rfl) :
  DS X E He η (.Assign [.Tuple es k tp] e pos) (HW is f):=by
 refine⟨?_⟩;refine cf (Mg he.o (EK hc h hn hst) hs hw h1) λD σ H z9=>?_;obtain⟨Ha,ρ,h,q⟩:=z9;refine⟨Ha,ρ,h.g.sub,h.rd,?_⟩
 refine plain (k:=λd=>match gB is.length d with
  |some ds=>.ok (.nx (fz ρ is ds))
  |none=>.stuck) h q λd v H' Ha' _ g rp q'=>?_
 cases e1:gB is.length d with
 |none=>rw[e1]at q';exact q'.elim
 |some ds=>
  rw[e1]at q';obtain⟨a,vs,rfl,k1,k2,k3⟩:=oK e1 rp;exact⟨a,vs,rfl,wK g.sub k1,k2,q' _ H' Ha' (aD.refl _) ((h.grow g).putAll k3)⟩
def ik(is:cr):Ev->D->ak Ev:=λρ d=>match gB is.length d with
 |some ds=>.ok (fz ρ is ds)
 |none=>.stuck
def ip:uP (ik is):=λρ d=>by
 unfold ik;cases gB is.length d with|none=>exact .inl rfl|some ds=>exact .inr ⟨_,rfl⟩
def nZ{k:Nat}(hc:X.calm=true)(h:De X es (N2 is))(hn:(assignEach es X.env).length=is.length:=by rfl)(hst:(assignEach es X.env).findIdx? (·.1)=none:=by rfl):DG X E He η (.Tuple es k pos) (ik is) :=
 ⟨vd (EK hc h hn hst) λv σ H Q z9=>by
  obtain⟨Ha,ρ,d,h,rp,q⟩:=z9;unfold ik at q;cases e1:gB is.length d with
  |none=>rw[e1]at q;exact q.elim
  |some ds=>
   rw[e1]at q;obtain⟨a,vs,rfl,k1,k2,k3⟩:=oK e1 rp;exact⟨a,vs,rfl,wK h.g.sub k1,k2,q _ H Ha (aD.refl _) (h.putAll k3)⟩⟩
def yF(i j:Nat)(fa:Ev->ak (ac)):bv:=λρ=>(fa ρ).bind λds=>match ds with
 |[x,y]=>.ok (.nx ((ρ.set i (.sh x)).set j (.sh y)))
 |_=>.stuck
def NA{i j:Nat}{x y:SH}{px py pt pt2:Pos}{kt k2}(hc:X.calm=true)(hN:X.N.Nodup)(hi:X.N[i]?=some x)(hj:X.N[j]?=some y)(hij:i≠j)
  (hx:X.env.scope.names.lookup x=some .local)(hy:X.env.scope.names.lookup y=some .local)(ha:DA X E [a,b] fa)
  (hw:swappedStores [.Tuple [.Name x px,.Name y py] kt pt] (.Tuple [a,b] k2 pt2) X.env=pure (some [x,y]))
  (hs:swapsWithSole [.Tuple [.Name x px,.Name y py] kt pt] (.Tuple [a,b] k2 pt2) pos.line X.env=pure false:=by rfl) :
  DS X E He η (.Assign [.Tuple [.Name x px,.Name y py] kt pt] (.Tuple [a,b] k2 pt2) pos) (yF i j fa):=by
 refine⟨?_⟩;refine cf (Mf hc hN hi hj hij hx hy ha.o hw hs) λD σ H z9=>?_;obtain⟨Ha,ρ,h,q⟩:=z9;refine⟨Ha,ρ,h.g.sub,h.rd,?_⟩
 unfold yF at q;cases e1:fa ρ with
 |stuck=>rw[e1]at q;exact q|exn x=>rw[e1]at q;exact λC ox H' Ha' g ex=>q C ox H' Ha' (h.g.trans g) ex
 |ok ds=>
  rw[e1]at q;intro vs H1 H01 g1 r1
  match ds,r1,q with
  |[x,y],r1,q=>
   obtain⟨v,r',rfl,h1,h2⟩:=aA.mp r1;obtain⟨u,r'',rfl,h3,h4⟩:=aA.mp h2;rw[Reps.nil_iff.mp h4];exact⟨v,u,rfl,q _ H1 H01 g1.z (((h.grow g1).put h1).put h3)⟩
  |[],_,q=>exact q.elim
  |[_],_,q=>exact q.elim
  |_::_::_::_,_,q=>exact q.elim
end
def rh{K:SE}:sQ K "int":=by
 intro S hS;simp only[SV,VU,or_false]at hS;rcases hS with rfl|rfl|rfl|rfl|rfl|rfl|rfl<;>first|rfl|decide +kernel
def oV{K:SE}:sQ K "bool":=by
 intro S hS;simp only[SV,VU,or_false]at hS;rcases hS with rfl|rfl|rfl|rfl|rfl|rfl|rfl<;>first|rfl|decide +kernel
def iH{K:SE}:sQ K "str":=by
 intro S hS;simp only[SV,VU,or_false]at hS;rcases hS with rfl|rfl|rfl|rfl|rfl|rfl|rfl<;>first|rfl|decide +kernel
def eU{K:SE}:sQ K "tuple":=by
 intro S hS;simp only[SV,VU,or_false]at hS;rcases hS with rfl|rfl|rfl|rfl|rfl|rfl|rfl<;>first|rfl|decide +kernel
def i7{K:SE}:sQ K "list":=by
 intro S hS;simp only[SV,VU,or_false]at hS;rcases hS with rfl|rfl|rfl|rfl|rfl|rfl|rfl<;>first|rfl|decide +kernel
section
variable {X:Cx}{E:XK}{He η:Hp}{e a b c:Tn}{f g h:am}{pos:Pos}
def dv(i:Nat){x:SH}(hN:X.N[i]?=some x:=by rfl)(hv:yh X.env.scope x:=by first|exact SY rfl|exact WI (SY rfl)|exact WI (WI rfl))(hd:(x==("__debug__" : SH))=false:=by decide)
  (hcd:(x==("__classdict__" : SH))=false:=by decide):DE X E (.Name x pos) (ag i):=ND hN hv hd hcd
def tQ(K:SE)(mg:SH->Option Sy)(x:SH)(d:D):Prop:=∃v u,mg x=some u/\bW v u/\∀H,Rep K H d v
def aV{x:SH}{d:D}(k:tQ X.K X.mg x d)(hg:Gl X x)(hd:(x==("__debug__" : SH))=false:=by decide):DE X E (.Name x pos) (dC d):=by
 obtain⟨v,u,h1,h2,h3⟩:=k;exact Kj hg h1 h2 h3 hd
def ey{K:SE}{mg:SH->Option Sy}{x:SH}{i:Int}{t:Tok}(h:mg x=some (.int i t)):tQ K mg x (.int i):=⟨.int i,_,h,⟨t,rfl⟩,λ_=>ri _⟩
def AD{K:SE}{mg:SH->Option Sy}{x:SH}{i:SH}{t:Tok}(h:mg x=some (.str i t)):tQ K mg x (.str i):=⟨.str i,_,h,⟨t,rfl⟩,λ_=>Rep.str_iff.mpr rfl⟩
def IZ{K:SE}{mg:SH->Option Sy}{x:SH}{a:SA}{od:Option SA}{its:Array Sy}{n:Nat}{sl:Array (Option Sy)}{ds:ac}{vs:al}(h:mg x=some (.ref a))(l:K.lookup a=some ⟨.type "tuple",od,.seq its n,sl⟩)
  (hv:bx vs its.toList)(hz:its.size<=sizeLine)(hd:∀H,Reps K H ds vs):tQ K mg x (.tup ds):=⟨.ref a,_,h,rfl,λH=>aC.mpr ⟨a,vs,rfl,.inr ⟨_,its,n,l,rfl,rfl,hz,hv⟩,hd H⟩⟩
def ib(op op':D->D->ak D)(f g h:am):am:=λρ=>(f ρ).bind λx=>(g ρ).bind λy=>(op x y).bind λz=>match z with
 |.bl true=>(h ρ).bind λw=>op' y w
 |.bl false=>.ok (.bl false)
 |_=>.stuck
def sO(r:R2)(o:D->D->ak D):Prop:=∀(K:SE) (x y:D) (v u:V) (H Ha:Hp) (Q:VK) (d:D),aD Ha H->Rep K Ha x v->Rep K Ha y u->o x y=.ok d->(∀w,Rep K Ha d w->Q w H)->r v u H Q
def fG{gv:Int->Int->V}{g:Int->Int->D}(hg:∀K H i j,Rep K H (g i j) (gv i j)):sO (G2 gv) (xD (λ_ _=>true) g):=by
 intro K x y v u H Ha Q d hs r1 r2 e q;unfold xD at e;cases x with
 |int i=>
  cases y with|int j=>simp only[if_pos]at e;cases e;exact⟨i,j,ay.mp r1,ay.mp r2,q _ (hg _ _ i j)⟩| _=>cases e
 |_=>cases e
def sP(o:D->D->ak D):Prop:=∀x y,∀z,o x y≠.exn z
def o9{r r':R2}{o o':D->D->ak D}(p:sO r o)(p':sO r' o')(n:sP o)(n':sP o')(σ:L2.St)(H:Hp)(Q:VK)(q:tD X.K E (ib o o' f g h) σ H Q) :
  yy r r' (tD X.K E f) (tD X.K E g) (tD X.K E h) σ H Q:=by
 obtain⟨Ha,ρ,hs,hr,q⟩:=q;refine⟨Ha,ρ,hs,hr,?_⟩;unfold ib at q;cases e1:f ρ with
 |stuck|exn x=>rw[e1]at q;exact q
 |ok x=>
  rw[e1]at q;intro v H1 H01 g1 r1;refine⟨H01,ρ,g1.sub,hr.mono g1.z,?_⟩;replace q:=post.grow (r:=(g ρ).bind λy=>(o x y).bind λz=>match z with
   |.bl true=>(h ρ).bind λw=>o' y w
   |.bl false=>.ok (.bl false)
   |_=>.stuck) q g1
  cases e2:g ρ with
  |stuck|exn x=>rw[e2]at q;exact q
  |ok y=>
   rw[e2]at q;intro u H2 H02 g2 r2;replace q:=post.grow (r:=(o x y).bind λz=>match z with
    |.bl true=>(h ρ).bind λw=>o' y w
    |.bl false=>.ok (.bl false)
    |_=>.stuck) q g2
   cases e3:o x y with
   |stuck=>rw[e3]at q;exact q.elim|exn z=>exact absurd e3 (n x y z)
   |ok z=>
    rw[e3]at q;refine p X.K x y v u H2 H02 _ z g2.sub (r1.mono g2.z) r2 e3 λw rw'=>?_;cases z with
    |bl b=>
     rw[aE.mp rw'];refine⟨b,rfl,?_⟩;cases b with
     |false=>rw[if_neg Us];exact q _ H2 H02 (bh.refl g2.sub) (rb _)
     |true=>
      rw[if_pos rfl];refine⟨H02,ρ,g2.sub,(hr.mono g1.z).mono g2.z,?_⟩;replace q:post X.K E H2 H02 ((h ρ).bind λw=>o' y w) Q:=q;cases e4:h ρ with
      |stuck|exn x=>rw[e4]at q;exact q
      |ok w2=>
       rw[e4]at q;intro v3 H3 H03 g3 r3;replace q:=post.grow (r:=o' y w2) q g3;cases e5:o' y w2 with
       |stuck=>rw[e5]at q;exact q.elim|exn z=>exact absurd e5 (n' y w2 z)
       |ok d=>
        rw[e5]at q;exact p' X.K y w2 u v3 H3 H03 Q d g3.sub (r2.mono g3.z) r3 e5 λw3 r5=>q w3 H3 H03 (bh.refl g3.sub) r5
    |_=>exact q.elim
def Gx{op op':CmpOp}{r r':R2}{o o':D->D->ak D}(ho:gX X (Uc op) r)(ho':gX X (Uc op') r')(p:sO r o)(p':sO r' o')(n:sP o)(n':sP o')(ha:DE X E a f)(hb:DE X E b g)(hc:DE X E c h)
  (hm:lastMarks [op,op'] [b,c]=false:=by with_unfolding_all rfl):DE X E (.Compare a [op,op'] [b,c] pos) (ib o o' f g h):=⟨bc (EU ho ho' ha.o hb.o hc.o hm) (o9 p p' n n')⟩
def rL{op op':CmpOp}{r r':R2}{o o':D->D->ak D}(ho:gX X (Uc op) r)(ho':gX X (Uc op') r')(p:sO r o)(p':sO r' o')(n:sP o)(n':sP o')(ha:DE X E a f)(hb:DE X E b g)(hc:DE X E c h)
  (hm:lastMarks [op,op'] [b,c]=false:=by with_unfolding_all rfl):DT X E (.Compare a [op,op'] [b,c] pos) (ib o o' f g h):=by
 refine⟨?_⟩;refine pU (EE ho ho' ha.o hb.o hc.o hm) λσ H Q q=>?_;have w:tD X.K E (ib o o' f g h) σ H λx H'=>∃k,x=.bl k/\Q k H':=by
  obtain⟨Ha,ρ,hs,hr,q⟩:=q;refine⟨Ha,ρ,hs,hr,?_⟩;cases e1:ib o o' f g h ρ with
  |stuck|exn x=>rw[e1]at q;exact q
  |ok d=>
   rw[e1]at q;intro v H1 H01 g1 r1;cases d with|bl b=>rw[aE.mp r1];exact⟨b,rfl,q H1 H01 g1⟩| _=>exact q.elim
 exact o9 p p' n n' σ H _ w
def fH{c:Int->Int->Bool}{g:Int->Int->D}:sP (xD c g):=by
 intro x y z;unfold xD;cases x<;>cases y<;>simp<;>split<;>simp
end
def qh(i:Nat):Ev->Nat:=λρ=>match ρ[i]? with
 |some (.sh (.int j))=>j.natAbs+1
 |_=>0
section
variable {X:Cx}{E:XK}{a b:Tn}{f g:am}{pos:Pos}
def cW(x y:D):ak D:=match x,y with
 |.int i,.int j=>if iG i j=true then .ok (.int (i*j)) else .stuck
 |_,_=>.stuck
def gw(ha:DE X E a f)(hb:DE X E b g):DE X E (.BinOp a .Mult b pos) (af f g cW):=rR IA (by
 intro x y v u H Ha Q hs r1 r2 q;unfold cW at q;cases x with
 |int i=>
  cases y with
  |int j=>
   by_cases h:iG i j=true
   .simp only[if_pos h]at q
    exact⟨i,j,ay.mp r1,ay.mp r2,iG.ok h,bw hs q (ri _)⟩
   .simp only[if_neg h]at q;exact q.elim
  |_=>exact q.elim
 |_=>exact q.elim) ha hb
end
def MS(K:SE)(tg:Ev->D->ak Ev):TG:=λv σ H Q=>∃He η,tG K He η tg v σ H Q
theorem Reps.rep{K:SE}{H:Hp}{ds:ac}{vs:al}(h:Reps K H ds vs):∀k:Nat,Reps K H (S4 k ds).flatten (S4 k vs).flatten
 |0=>by simp;exact Reps.nil
 |k+1=>by
  rw[T6,T6,U8,U8];exact h.app (Reps.rep h k)
section
variable {X:Cx}{E:XK}{a b:Tn}{f g:am}{pos:Pos}
def tM(x y:D):ak D:=match x,y with
 |.lst ds,.int k=>if ds.length*k.toNat<=line/\-9223372036854775808<=k/\k<9223372036854775808 then .ok (.lst (S4 k.toNat ds).flatten) else .stuck
 |_,_=>.stuck
def Cb(f g:am):am:=λρ=>(f ρ).bind λx=>match x with
 |.lst ds=>(g ρ).bind λy=>tM (.lst ds) y
 |_=>.stuck
def zA(ha:DF X E a f)(hb:DE X E b g):DE X E (.BinOp a .Mult b pos) (Cb f g):=by
 refine⟨?_⟩;refine bc (EN Mt ha.o hb.o) λσ H Q z9=>?_;obtain⟨Ha,ρ,hs,hr,q⟩:=z9;refine⟨Ha,ρ,hs,hr,?_⟩
 unfold Cb at q;cases e1:f ρ with
 |stuck|exn x=>rw[e1]at q;exact q
 |ok x=>
  rw[e1]at q;cases x with
  |lst ds=>
   replace q:post X.K E H Ha ((g ρ).bind λy=>tM (.lst ds) y) Q:=q;intro p vs H1 H01 g1 hp h0 hv rp;refine⟨H01,ρ,g1.sub,hr.mono g1.z,?_⟩;replace q:=q.grow g1;cases e2:g ρ with
   |stuck|exn x=>rw[e2]at q;exact q
   |ok y=>
    rw[e2]at q;intro u H2 H02 g2 r2;replace q:=post.grow (r:=tM (.lst ds) y) q g2;cases y with
    |int k=>
     unfold tM at q
     by_cases c:ds.length*k.toNat<=line/\-9223372036854775808<=k/\k<9223372036854775808
     .simp only[if_pos c]at q
      refine⟨p,k,vs,rfl,ay.mp r2,g2.s _ _ hv,by omega,by omega,by rw[←rp.length];exact eg c.1,λn hn=>?_⟩;exact q _ _ _ (aI g2.sub hn) (aB.mpr ⟨n,_,rfl,fM.of az,((rp.mono g2.z).rep _).mono (aI g2.sub hn).z⟩)
     .simp only[if_neg c]at q;exact q.elim
    |_=>exact q.elim
  |_=>exact q.elim
def rS(x:D):ak D:=match x with
 |.lst ds=>.ok (.tup ds)
 |.tup ds=>.ok (.tup ds)
 |_=>.stuck
def yc:jx X E (λxs H Q=>∃p ys,xs=[.ref p]/\((fM X.K H p ys/\∀l,H l=none->Q (.ref l) (upd H l (.tup ys)))∨(j7 X.K H p ys/\Q (.ref p) H))) (m1 rS):=nc λx v H Ha Q hs r q=>by
 cases x with
 |lst ds=>
  obtain⟨p,vs,rfl,h1,h2⟩:=aB.mp r;exact⟨p,vs,rfl,.inl ⟨aD.sqL hs h1,λn hn=>q _ _ _ (aI hs hn) (aC.mpr ⟨n,_,rfl,j7.of az,h2.mono (aI hs hn).z⟩)⟩⟩
 |tup ds=>
  obtain⟨p,vs,e,h1,h2⟩:=aC.mp r;subst e;exact⟨p,vs,rfl,.inr ⟨aD.sqT hs h1,bw hs q r⟩⟩
 |_=>exact q.elim
end
def gk:ac->Option (ci)
 |[]=>some []
 |.str x::r=>(gk r).map (x::·)
 |_=>none
theorem wF{K:SE}{H:Hp}:∀{ds:ac}{ys:ci}{vs:al}{us:List Sy},gk ds=some ys->Reps K H ds vs->bx vs us->StrsAre us ys
 |[],ys,vs,us,h,r,q=>by
  cases h;rw[Reps.nil_iff.mp r]at q;cases q;exact .nil
 |d::ds,ys,vs,us,h,r,q=>by
  obtain⟨v,r',rfl,h1,h2⟩:=aA.mp r;cases q with
  |cons q1 q2=>
   cases d with
   |str x=>
    unfold gk at h;cases e:gk ds with
    |none=>rw[e]at h;cases h
    |some zs=>
     rw[e]at h;cases h;rw[Rep.str_iff.mp h1]at q1;obtain⟨t,rfl⟩:=q1;exact .cons _ _ (wF e h2 q2)
   |_=>cases h
section
variable {X:Cx}{E:XK}{o e:Tn}{fo:am}{fa:Ev->ak (ac)}
def gD(z:SH)(ys:ci):Bool:=decide (z.length<=16)&&decide ((ys.map (·.length)).sum+ys.length<=1048576)
def OS(K:SE):V->al->Hp->VK->Prop:=λx xs H Q=>∃z p ds ys,x=.str z/\xs=[.ref p]/\Rep K H (.lst ds) (.ref p)/\gk ds=some ys/\gD z ys=true/\Q (.str (TV z ys)) H
def IS:Oa X "str.join" (OS X.K):=by
 intro π s σ H x xs v us Q I rx rs h;obtain⟨z,p,ds,ys,rfl,rfl,hr,hy,hf,q⟩:=h;obtain⟨t,rfl⟩:=rx;obtain⟨u,rfl,ru⟩:=rs.one;obtain⟨a,vs,its,ea,rfl,h1,h2,h3,h4,_⟩:=bo I hr ru;unfold gD at hf;rw[SX]at hf;exact join_listW h4 (by simpa using wF hy h2 h3) (of_decide_eq_true hf.1) (of_decide_eq_true hf.2) λt' k=>⟨.str (TV z ys),H,I.tok _,⟨_,rfl⟩,q⟩
def i8(z:SH)(xs:ac):ak D:=match xs with
 |[.lst ds]=>match gk ds with
  |some ys=>if gD z ys=true then .ok (.str (TV z ys)) else .stuck
  |none=>.stuck
 |_=>.stuck
def k8(fo:am)(fa:Ev->ak (ac)):am:=λρ=>(fo ρ).bind λx=>match x with
 |.str z=>(fa ρ).bind λxs=>i8 z xs
 |_=>.stuck
def lU{apos cpos:Pos}(ho:DE X E o fo)(ha:DA X E [e] fa)
  (hbase:Ub o "join" X.env (eval o X.env)=eval o X.env:=by rfl)
  (hfew:((TZ cpos (SJ [e] X.env)).all (λx=>!x.1)&&(VB cpos (US [] X.env)).all (λx=>x.1.isSome)
  &&decide ([e].length+([]:List U3).length+(if([]:List U3).isEmpty then 0 else 1)<30))=true:=by exact gO rfl)
  (hline:(apos.endLine==cpos.line)=true:=by rfl) (hs:SJ [e] X.env=(false,eval e X.env)::SJ [] X.env:=by exact aF rfl) (hplain:(TZ cpos (SJ [] X.env)).any (·.1)=false:=by exact bj rfl) :
  DE X E (.Call (.Attribute o "join" apos) [e] [] cpos) (k8 fo fa):=by
 refine⟨?_⟩;refine bc (uh XN PySem.F.slot_str_join PySem.F.type_str_join IS ho.o ha.o hbase hfew hline hs hplain) λσ H Q z9=>?_;obtain⟨Ha,ρ,hs,hr,q⟩:=z9;refine⟨Ha,ρ,hs,hr,?_⟩
 unfold k8 at q;cases e1:fo ρ with
 |stuck|exn x=>rw[e1]at q;exact q
 |ok x=>
  rw[e1]at q;intro v H1 H01 g1 r1;cases x with
  |str z=>
   rw[Rep.str_iff.mp r1];refine⟨rfl,H01,ρ,g1.sub,hr.mono g1.z,?_⟩;replace q:=post.grow (r:=(fa ρ).bind λxs=>i8 z xs) q g1;cases e2:fa ρ with
   |stuck|exn x=>rw[e2]at q;exact q
   |ok xs=>
    rw[e2]at q;intro us H2 H02 g2 r2;replace q:=post.grow (r:=i8 z xs) q g2;unfold i8 at q
    match xs,r2,q with
    |[.lst ds],r2,q=>
     obtain⟨w,r',rfl,k1,k2⟩:=aA.mp r2;rw[Reps.nil_iff.mp k2];obtain⟨p,vs,rfl,k3,k4⟩:=aB.mp k1;cases e3:gk ds with
     |none=>simp only[e3]at q;exact q.elim
     |some ys=>
      simp only[e3]at q
      by_cases c:gD z ys=true
      .rw[if_pos c]at q
       exact⟨z,p,ds,ys,rfl,rfl,k1.mono g2.sub,e3,c,bw g2.sub q (Rep.str_iff.mpr rfl)⟩
      .rw[if_neg c]at q;exact q.elim
    |[],_,q=>exact q.elim
    |d1::_::_,_,q=>cases d1<;>exact T8 q
    |[.non],_,q=>exact q.elim
    |[.bl _],_,q=>exact q.elim
    |[.int _],_,q=>exact q.elim
    |[.str _],_,q=>exact q.elim
    |[.tup _],_,q=>exact q.elim
    |[.dic _ _],_,q=>exact q.elim
    |[.exc _],_,q=>exact q.elim
    |[.ob _ _],_,q=>exact q.elim
  |_=>exact q.elim
end
section
variable {X:Cx}{E:XK}{a:Tn}{f:am}{pos:Pos}
def Q8:V->Option Int->Option Int->Hp->VK->Prop:=λx lo hi H Q=>∃z,x=.str z/\z.length<=sizeLine/\Q (.str (Vz z lo hi)) H
def LX:G9 X Q8:=by
 intro π s σ H x v vl vu lo hi sl Q I rx hs pl pu h;obtain⟨z,rfl,hz,q⟩:=h;obtain⟨t,rfl⟩:=rx;have fin:∀t' k,EP X π σ Q (.str (Vz z lo hi) t') { s with toks:=k }:=λt' k=>⟨.str (Vz z lo hi),H,I.tok _,⟨_,rfl⟩,q⟩
 refine⟨"str",_,PySem.F.slot_str_getitem.lookup,typeIs_str s z t,?_⟩;cases pl with
 |none=>
  cases pu with|none=>exact wpAny_getItem_str_slice (l:=none) (u:=none) (st:=none) hs rfl (post_val_or_str ⟨SW (WU z _ _) hz,fin⟩)|int j uj=>exact wpAny_getItem_str_slice (l:=none) (u:=some (j,uj)) (st:=none) hs rfl (post_val_or_str ⟨SW (WU z _ _) hz,fin⟩)
 |int i ui=>
  cases pu with|none=>exact wpAny_getItem_str_slice (l:=some (i,ui)) (u:=none) (st:=none) hs rfl (post_val_or_str ⟨SW (WU z _ _) hz,fin⟩)|int j uj=>exact wpAny_getItem_str_slice (l:=some (i,ui)) (u:=some (j,uj)) (st:=none) hs rfl (post_val_or_str ⟨SW (WU z _ _) hz,fin⟩)
noncomputable def nH(x:D) (l h:Option Int):ak D:=match x with
 |.lst ds=>.ok (.lst (mG ds l h))
 |.str z=>if z.length<=line then .ok (.str (Vz z l h)) else .stuck
 |.tup ds=>if HT.sIx ds.length 0 l=0/\HT.sIx ds.length ds.length h=ds.length then .stuck else .ok (.tup (mG ds l h))
 |_=>.stuck
def iW(f:am)(lo hi:Ev->ak (Option Int)):am:=λρ=>(f ρ).bind λx=>(lo ρ).bind λl=>(hi ρ).bind λh=>nH x l h
def c9{lo hi:Option Tn}{p2:Pos}{fl fh:Ev->ak (Option Int)}(ha:DE X E a f)(hl:DO X E lo fl)(hh:DO X E hi fh):DE X E (.Subscript a (.Slice lo hi none p2) pos) (iW f fl fh) :=
 ⟨bc (EM (G9.or HR (G9.or LX LW)) ha.o hl.o hh.o) (wI (m:=nH) λx v l h H Ha Q hs r q=>by
  cases x with
  |lst ds=>
   obtain⟨p,vs,rfl,h1,h2⟩:=aB.mp r;exact .inl ⟨p,vs,rfl,aD.sqL hs h1,λn hn=>q _ _ _ (aI hs hn) (aB.mpr ⟨n,_,rfl,fM.of az,(h2.cut l h).mono (aI hs hn).z⟩)⟩
  |str z=>
   unfold nH at q
   by_cases c:z.length<=line
   .simp only[if_pos c]at q
    exact .inr (.inl ⟨z,Rep.str_iff.mp r,eg c,bw hs q (Rep.str_iff.mpr rfl)⟩)
   .simp only[if_neg c]at q;exact q.elim
  |tup ds=>
   unfold nH at q
   by_cases c:HT.sIx ds.length 0 l=0/\HT.sIx ds.length ds.length h=ds.length
   .simp only[if_pos c]at q;exact q.elim
   .simp only[if_neg c]at q
    obtain⟨p,vs,rfl,h1,h2⟩:=aC.mp r;exact .inr (.inr ⟨p,vs,rfl,aD.sqT hs h1,by rw[←h2.length];exact c,λn hn=>q _ _ _ (aI hs hn) (aC.mpr ⟨n,_,rfl,j7.of az,(h2.cut l h).mono (aI hs hn).z⟩)⟩)
  |_=>exact q.elim)⟩
end
def RE(z:SH):It:=⟨λi _=>i<z.cps.size,λi H x H'=>H'=H/\∃c,z.cps[i]?=some c/\x=.str ⟨#[c]⟩,λi _=>z.cps.size<=i⟩
def yw{P:Tr}{w:TU}{K:SE}{tg:Tn}(z:SH)(t:Tok)(it:SA):zK P w K tg (RE z) [it] it (λi h=>h.IsStrIter it "str_ascii_iterator" z t i) where
 mem:=by simp
 obj:=λi h st b hb=>by
  have e:b=it:=by simpa using hb
  subst e;obtain⟨o,e,c,d⟩:=st;exact⟨o,e,λv z=>by rw[d]at z;cases z⟩
 keep:=λi h h' st k=>let ⟨o,ho,r⟩:=st;⟨o,k it (by simp) o ho,r⟩
 item:=by
  intro X hP hw hK hc i π s σ H E I hf st hg;subst hP hw hK;have hg':i<z.cps.size:=hg;obtain⟨f0,f1,f2,f3,f4,f5⟩:=hf it (by simp);refine wpAny_pyNext_ascii_item st (c:=z.cps[i]) (by simp[hg']) λh' st' sb=>?_;have I1:Inv X π σ H { s with heap:=h',toks:=s.toks+1 }:=I.turned (t':=s.toks+1) (λb o hb e=>(sb.2 b hb).trans e) f0 f1 f3 f4 f5;obtain⟨o,e,c,d⟩:=id st';exact⟨_,rfl,xH (s:={ s with heap:=h',toks:=s.toks+1 }) e c d (by decide) ⟨.str ⟨#[z.cps[i]]⟩,H,I1,⟨_,rfl⟩,⟨rfl,_,by simp[hg'],rfl⟩,st',λb hb=>(hf b hb).1⟩⟩
 done:=by
  intro X hP hw hK hc i π s σ H E I hf st hg;subst hP hw hK;have hg':z.cps.size<=i:=hg;obtain⟨f0,f1,f2,f3,f4,f5⟩:=hf it (by simp);exact wpAny_pyNext_ascii_end (I.ok.hd hc) st (by simp[hg']) λh' eb=>⟨rfl,I.turned (t':=s.toks) (λb o hb e=>eb b o hb e) f0 f1 f3 f4 f5⟩
 self:=λ_ _ _ _ _ st h=>wpAny_pyIter_striter_ascii st h
def BA{P:Tr}{w:TU}{K:SE}{tg:Tn}(z:SH)(t:Tok)(it:SA):zK P w K tg (RE z) [it] it (λi h=>h.IsStrIter it "str_iterator" z t i) where
 mem:=by simp
 obj:=λi h st b hb=>by
  have e:b=it:=by simpa using hb
  subst e;obtain⟨o,e,c,d⟩:=st;exact⟨o,e,λv z=>by rw[d]at z;cases z⟩
 keep:=λi h h' st k=>let ⟨o,ho,r⟩:=st;⟨o,k it (by simp) o ho,r⟩
 item:=by
  intro X hP hw hK hc i π s σ H E I hf st hg;subst hP hw hK;have hg':i<z.cps.size:=hg;obtain⟨f0,f1,f2,f3,f4,f5⟩:=hf it (by simp);refine wpAny_pyNext_wide_item st (c:=z.cps[i]) (by simp[hg']) λh' st' sb=>?_;have I1:Inv X π σ H { s with heap:=h',toks:=s.toks+1 }:=I.turned (t':=s.toks+1) (λb o hb e=>(sb.2 b hb).trans e) f0 f1 f3 f4 f5;obtain⟨o,e,c,d⟩:=id st';exact⟨_,rfl,xH (s:={ s with heap:=h',toks:=s.toks+1 }) e c d (by decide) ⟨.str ⟨#[z.cps[i]]⟩,H,I1,⟨_,rfl⟩,⟨rfl,_,by simp[hg'],rfl⟩,st',λb hb=>(hf b hb).1⟩⟩
 done:=by
  intro X hP hw hK hc i π s σ H E I hf st hg;subst hP hw hK;have hg':z.cps.size<=i:=hg;obtain⟨f0,f1,f2,f3,f4,f5⟩:=hf it (by simp);exact wpAny_pyNext_wide_end (I.ok.hd hc) st (by simp[hg']) λh' eb=>⟨rfl,I.turned (t':=s.toks) (λb o hb e=>eb b o hb e) f0 f1 f3 f4 f5⟩
 self:=λ_ _ _ _ _ st h=>wpAny_pyIter_striter_wide st h
def Rp(tl:TE):TI:=λσ H R=>tl σ H λx H1=>∃z,x=.str z/\R (RE z) H1
def Mm{X:Cx}{tg l:Tn}{tl:TE}(hl:PE X l tl):PI X tg l (Rp tl):=by
 intro π s σ H R I h;refine cX (hl π s σ H _ I h) λv s1 ⟨x,H1,I1,r1,q1⟩=>?_;obtain⟨z,rfl,q⟩:=q1;obtain⟨t,rfl⟩:=r1;have fpo:∀b∈[s1.heap.objs.size],oA X π H1 b:=λb hb=>by
  have e:b=s1.heap.objs.size:=by simpa using hb
  subst e;exact I1.fpOk (Tf _) (I1.hok.fresh (Tf _))
 cases ha:z.cps.all (· < 128) with|false=>exact wpAny_pyIter_wide ha ⟨s1.heap.objs.size,[s1.heap.objs.size],_,_,H1,rfl,I1.kept (t':=s1.toks) λb o e=>SK _ e,BA z t _,⟨_,TH _ rfl,rfl,rfl⟩,fpo,q⟩|true=>exact wpAny_pyIter_ascii ha ⟨s1.heap.objs.size,[s1.heap.objs.size],_,_,H1,rfl,I1.kept (t':=s1.toks) λb o e=>SK _ e,yw z t _,⟨_,TH _ rfl,rfl,rfl⟩,fpo,q⟩
def iC(z:SH):ac:=z.cps.toList.map λc=>.str ⟨#[c]⟩
def j9(z:SH):(iC z).length=z.cps.size:=by unfold iC;simp
section
variable {X:Cx}{E:XK}
def O0(K:SE):al->Hp->VK->Prop:=λxs H Q=>∃(p:SA) (bs:List Bool),xs=[.ref p]/\fM K H p (bs.map V.bl)/\Q (.bl (bs.all id)) H
theorem uO:∀bs:List Bool,(TY bs.length).all (λi=>bs.getD i false)=bs.all id
 |[]=>rfl
 |b::r=>by
  rw[S0,VO,Va,Ws,Va,←uO r];rfl
def sC(hc:X.calm=true):iU X (.builtin "all") (O0 X.K):=by
 intro π s σ H xs us Q I r h;obtain⟨p,bs,rfl,hq,q⟩:=h;obtain⟨u,rfl,rx⟩:=oC r;cases rx;obtain⟨its,rv,pl,hz⟩:=I.list hq;have hlen:=rv.length;rw[SD]at hlen;have hne:p≠s.heap.objs.size:=Ts pl.lt;refine call_all_walk (wpAny_pyIter_list pl.isList ?_);have pl2:(s.heap.push { cls:=.type "list_iterator",data:=.fields #[.ref p,.int 0 0] }).IsList p its.toArray:=by
  obtain⟨o,k1,k2⟩:=pl.isList;exact⟨o,SK _ k1,k2⟩
 refine⟨s.heap.objs.size,_,_,_,_,_,λi=>bs.getD i false,rfl,Walks.list (A:=X.A.in1) (I.ok.hd hc) s.heap.objs.size p hne its.toArray,⟨⟨_,TH _ rfl,rfl,rfl⟩,pl2⟩,?_,λh' tk hk=>?_⟩
 .intro i v s' Q' E' hv hQ
  have hv':its[i]?=some v:=by simpa using hv
  have hi:i<its.length:=(SR.mp hv').1;obtain⟨w,e1,e2⟩:=rv.get (show(bs.map V.bl)[i]?=some (V.bl (bs.getD i false)) by
   rw[Ta,SS (by omega)];simp[List.getD,SS (show i<bs.length by omega)])
  rw[hv']at e1;cases e1;obtain rfl:v=UA _:=e2;exact UG hQ
 .have hall:(TY its.toArray.size).all (λi=>bs.getD i false)=bs.all id:=by
   rw[S8,←hlen];exact uO bs
  rw[hall];exact⟨.bl _,H,I.kept (t':=tk) (λb o e=>hk b o (by simp only[TC];exact Ts (S9 e)) (SK _ e)),rfl,q⟩
def fu:ac->Option (List Bool)
 |[]=>some []
 |.bl b::r=>(fu r).map (b::·)
 |_=>none
theorem uI{K:SE}{H:Hp}:∀{ds:ac}{bs:List Bool}{vs:al},fu ds=some bs->Reps K H ds vs->vs=bs.map V.bl
 |[],bs,vs,h,r=>by cases h;exact Reps.nil_iff.mp r
 |d::ds,bs,vs,h,r=>by
  obtain⟨v,r',rfl,h1,h2⟩:=aA.mp r;cases d with
  |bl x=>
   unfold fu at h;cases e:fu ds with
   |none=>rw[e]at h;cases h
   |some zs=>
    rw[e]at h;cases h;rw[aE.mp h1,uI e h2];rfl
  |_=>cases h
def tN(x:D):ak D:=match x with
 |.lst ds=>match fu ds with
  |some bs=>.ok (.bl (bs.all id))
  |none=>.stuck
 |_=>.stuck
def zF:jx X E (O0 X.K) (m1 tN):=nc λx v H Ha Q hs r q=>by
 cases x with
 |lst ds=>
  unfold tN at q;obtain⟨p,vs,rfl,h1,h2⟩:=aB.mp r;cases e:fu ds with
  |none=>simp only[e]at q;exact q.elim
  |some bs=>
   simp only[e]at q;exact⟨p,bs,rfl,by rw[←uI e h2];exact aD.sqL hs h1,bw hs q (rb _)⟩
 |_=>exact q.elim
end
section
variable {X:Cx}{E:XK}{e:Tn}{f:am}{pos p1:Pos}
def dOne(x:SH)(d:D):ak D:=.ok (.dic [x] [d])
end
def jA(cells:List (SH×SA)):List (SH×UI)->List (SH×SA)->List (SH×SA)
 |[],acc=>acc
 |(n,k)::r,acc=>if(k==UZ)=true then jA cells r ((n,(cells.lookup n).getD 0)::acc) else jA cells r acc
def tO{scope:VN}{env:Uh}(h:∀x∈scope.names,x.2=.free->∃c,env.cells.lookup x.1=some c):closureFor scope env=pure (jA env.cells scope.names []):=by
 simp only[closureFor];have key:∀(names:List (SH×UI)) (acc:List (SH×SA)),(∀x∈names,x.2=.free->∃c,env.cells.lookup x.1=some c) ->
   (forIn names acc λ(x:SH×UI) (z:List (SH×SA))=>
      if(x.snd==UZ)=true then do
       let y ←cellOf env x.fst
       pure (VF ((x.fst,y)::z))
      else(pure (VF z):Sem _))=pure (jA env.cells names acc):=by
  intro names
  induction names with
  |nil=>intro acc _;rfl
  |cons x r ih=>
   intro acc hh;obtain⟨n,k⟩:=x;rw[List.forIn_cons]
   by_cases hk:(k==UZ)=true
   .obtain⟨c,hc⟩:=hh (n,k) SQ (by simpa using hk)
    have hcell:cellOf env n=pure c:=by unfold cellOf;rw[show env.cells.lookup n=some c from hc]
    simp only[hk,if_true];rw[hcell];have:=ih ((n,c)::acc) (λy hy=>hh y (SM _ hy));rw[show jA env.cells ((n,k)::r) acc=jA env.cells r ((n,c)::acc) by
     show(if(k==UZ)=true then _ else _)=_;rw[if_pos hk,show env.cells.lookup n=some c from hc];rfl]
    rw[←this];rfl
   .have:=ih acc (λy hy=>hh y (SM _ hy))
    rw[if_neg hk];rw[show jA env.cells ((n,k)::r) acc=jA env.cells r acc by
     show(if(k==UZ)=true then _ else _)=_;rw[if_neg hk]]
    rw[←this];rfl
 rw[key _ _ h];rfl
theorem sr{cells:List (SH×SA)}:∀{names:List (SH×UI)}{acc:List (SH×SA)}{x:SH}{c:SA},(∀y∈names,y.2=.free->∃c,cells.lookup y.1=some c) ->
  (jA cells names acc).lookup x=some c->acc.lookup x=some c∨cells.lookup x=some c
 |[],acc,x,c,_,h=>.inl h
 |(n,k)::r,acc,x,c,hh,h=>by
  unfold jA at h
  by_cases hk:(k==UZ)=true
  .rw[if_pos hk]at h
   obtain⟨d,hd⟩:=hh (n,k) SQ (by simpa using hk);rcases sr (λy hy=>hh y (SM _ hy)) h with h|h
   .rw[UC]at h
    cases e:x==n with
    |true=>
     rw[e]at h;rw[show cells.lookup n=some d from hd]at h;cases h;rw[eq_of_beq e];exact .inr hd
    |false=>rw[e]at h;exact .inl h
   .exact .inr h
  .rw[if_neg hk]at h
   exact sr (λy hy=>hh y (SM _ hy)) h
theorem oR{α:Type}{x:SH}:∀{l:List (SH×α)},(∃v,(x,v)∈l)->∃v,l.lookup x=some v
 |[],⟨v,h⟩=>by cases h
 |(n,w)::r,⟨v,h⟩=>by
  rw[UC];cases e:x==n with
  |true=>exact⟨w,rfl⟩
  |false=>
   rcases SV.mp h with h|h
   .cases h;simp at e
   .exact oR ⟨v,h⟩
theorem sA{cells:List (SH×SA)}{x:SH}{c:SA}:∀{names:List (SH×UI)}{acc:List (SH×SA)},(x,c)∈acc->(x,c)∈jA cells names acc
 |[],acc,h=>h
 |(n,k)::r,acc,h=>by
  unfold jA
  by_cases hk:(k==UZ)=true
  .rw[if_pos hk];exact sA (SM _ h)
  .rw[if_neg hk];exact sA h
def sv{cells:List (SH×SA)}{x:SH}:∀{names:List (SH×UI)}{acc:List (SH×SA)},(x,UZ)∈names->∃c,(jA cells names acc).lookup x=some c:=by
 intro names
 induction names with
 |nil=>intro acc h;cases h
 |cons y r ih=>
  intro acc h;obtain⟨n,k⟩:=y;unfold jA;rcases SV.mp h with h|h
  .cases h
   rw[if_pos (by rfl)];exact oR ⟨_,sA SQ⟩
  .by_cases hk:(k==UZ)=true
   .rw[if_pos hk];exact ih h
   .rw[if_neg hk];exact ih h
noncomputable def fK(X:Cx) (N:ci) (scope:VN) (s:SI) (H:Hp) (C:SA) (fp:List SA) (pn:List (SA×Obj)):Cx :=
 { X with N:=N,sf:=s,Ha:=H,env:=compEnvC scope (jA X.env.cells scope.names []) C X.env,outer:=X.stack,stack:=X.stack,ex:=fp,fn:=λ_=>false,pn:=pn,xe:=λ_ _=>False }
def nh(n:Nat)(fr:cr)(σ:L2.St):L2.St:=S4 n none++fr.map λ(i:Nat)=>(σ[i]?).getD none
noncomputable def GZ(X:Cx) (N:ci) (n:Nat) (fr:cr) (scope:VN):Prop :=
 N.length=n+fr.length/\((N.drop n).zip fr).all (λp=>X.N[p.2]?==some p.1&&X.env.scope.names.lookup p.1==some .cell&&scope.names.lookup p.1==some .free&&(relabel scope X.env).names.lookup p.1==some .cell)=true
theorem GZ.at{X:Cx}{N:ci}{n:Nat}{fr:cr}{scope:VN}(h:GZ X N n fr scope){k:Nat}{x:SH}{v:V}{σ:L2.St}(hx:N[k]?=some x)(hv:(nh n fr σ)[k]?=some (some v)) :
  ∃i:Nat,X.N[i]?=some x/\σ[i]?=some (some v)/\X.env.scope.names.lookup x=some .cell/\scope.names.lookup x=some .free/\(relabel scope X.env).names.lookup x=some .cell:=by
 unfold nh at hv
 by_cases hk:k<n
 .rw[Tg (by simpa using hk),Tz,if_pos hk]at hv
  cases hv
 .rw[To (by simpa using hk),Ug,Ta]at hv
  cases hi:fr[k-n]? with
  |none=>rw[hi]at hv;cases hv
  |some i=>
   rw[hi]at hv;have hz:((N.drop n).zip fr)[k-n]?=some (x,i):=by
    rw[List.getElem?_zip_eq_some];exact⟨by rw[VH,show n+(k-n)=k by omega];exact hx,hi⟩
   have:=Tp.mp h.2 _ (S7 hz);simp only[SX,beq_iff_eq]at this;refine⟨i,this.1.1.1,?_,this.1.1.2,this.1.2,this.2⟩;simp only[Vm,U7]at hv;cases hs:σ[i]? with|none=>rw[hs]at hv;cases hv|some u=>rw[hs]at hv;exact congrArg some hv
noncomputable def Qo(X:Cx) (ifs:List Tn) (t:TT):Prop :=
 ∀(π:List (SA×Obj)) (s:SI) (σ:L2.St) (H:Hp) (Q:Bool->Hp->Prop),Inv X π σ H s->t σ H Q ->
  Td (Tb X.prog X.w) X.A (forIn ifs true λc r=>if r=true then do let ok ←isTrue c X.env (eval c X.env);pure (VF ok) else pure (VF r)) (TP X π σ Q) X.xe s
def QN:TT:=λ_ H Q=>Q true H
def Io{X:Cx}:Qo X [] QN:=λ_ _ _ H _ I h=>wpAny_tests_nil ⟨H,I,h⟩
def Im{X:Cx}{c:Tn}{t:TT}(h:PT X c t):Qo X [c] t:=λπ s σ H Q I q=>wpAny_tests_one (h π s σ H Q I q)
theorem rY{prog:Tr}{w:TU}{A:TK}{R:WH->SI->Prop}{s:SI}{elt target iter:Tn}{ifs:List Tn}{scope:VN}{pos:Pos}{it acc:Sy}{env:Uh}(I:Nat->SI->Prop)
  (turn:∀n s,I n s->Td (Tb prog w) A (pyNext it) (λr sg=>match r with
   |none=>R (.ok .next) sg
   |some v=>Td (Tb prog w) A (letOwnedTupleGo target it v) (λ_ sg'=>Td (Tb prog w) A (assign target env v) (λ_ si=>
     Td (Tb prog w) A (forIn ifs true λc r=>if r=true then do let ok ←isTrue c env (eval c env);pure (VF ok) else pure (VF r)) (λok sj=>
      if ok=true then Td (Tb prog w) A (eval elt env) (λx sk=>
       Td (Tb prog w) A (call (.builtin "list.append") [acc,x]) (λ_ so=>∃m,m<n/\I m so) (λ_ _=>False) sk) (λ_ _=>False) sj
      else ∃m,m<n/\I m sj) (λ_ _=>False) si) (λ_ _=>False) sg') (λ_ _=>False) sg) (λ_ _=>False) s)
  (n:Nat) (h:I n s) :
  Vt (Tb prog w) A (.compLoop (.ListComp elt [⟨target,iter,ifs,0⟩] scope pos) 0 it acc env) R s:=by
 refine codeAny_loop rfl I (λn s hI=>?_) n h;show Td _ A ((compTurn (.ListComp elt [⟨target,iter,ifs,0⟩] scope pos) 0 it acc env).onRaise (λx=>do noteFrame x env;theTreesLotGoes x)) _ _ s;refine wpAny_noted ?_;rw[compTurn_list];refine SG (wpAny_standAt (SG (T4 (turn n s hI) (λr sg h₁=>?_) λ_ _ h'=>h'.elim)));cases r with
 |none=>exact S5 h₁
 |some v=>
  refine SG (T4 h₁ (λ_ sg' h₁'=>?_) λ_ _ h'=>h'.elim);refine SG (T4 h₁' (λ_ si hU=>SG (T4 hU (λok sj hW=>?_) λ_ _ h'=>h'.elim)) λ_ _ h'=>h'.elim);cases ok with
  |false=>exact S5 ⟨rfl,hW⟩
  |true=>
   exact SG (SG (T4 hW (λx sk hZ=>SG (T4 hZ (λ_ so h₅=>S5 (S5 ⟨rfl,h₅⟩)) λ_ _ h'=>h'.elim)) λ_ _ h'=>h'.elim))
noncomputable def yx(n:Nat) (fr:cr) (g:TG) (tt:TT) (te:TE) (J:It) (σ:L2.St) (H1:Hp) (Q:VK):Prop:=∀D,H1 D=none->∃W:Nat->Nat->al->L2.St->Hp->Prop,(∃m,W 0 m [] (nh n fr σ) (upd H1 D (.lst []))) /\
 ∀i m ys σ' H',W i m ys σ' H'->H' D=some (.lst ys)/\((J.stop i H'/\Q (.ref D) H')∨(J.go i H'/\ys.length<sizeLine/\∀x H2,J.yld i H' x H2->g x σ' H2 λσ3 H3=>tt σ3 H3 λb H4=>
  if b=true then te σ3 H4 λy H5=>H5 D=some (.lst ys)/\∃m',m' < m/\W (i+1) m' (ys++[y]) σ3 (upd H5 D (.lst (ys++[y])))
  else ∃m',m' < m/\W (i+1) m' ys σ3 H4))
def C4{X:Cx}{tg iter elt:Tn}{ifs:List Tn}{scope:VN}{pos:Pos}{N:ci}{n:Nat}{fr:cr}{g:TG}{tt:TT}{te:TE}(hc:X.calm=true)(hfr:GZ X N n fr scope)
  (hcell:∀x∈scope.names,x.2≠.cell)(hfree:∀x∈scope.names,x.2=.free->X.env.scope.names.lookup x.1=some .cell)(hkind:scope.kind=.function)
  (blk:∀s H C fp pn,PG (fK X N scope s H C fp pn) tg g/\Qo (fK X N scope s H C fp pn) ifs tt/\PE (fK X N scope s H C fp pn) elt te)
  {π:List (SA×Obj)}{σ:L2.St}{s2:SI}{Q:VK}{itv:Sy}{RR:Sy->SA->WH->SI->Prop}
  (h2:QF X π σ tg (λJ H1=>yx n fr g tt te J σ H1 Q) itv s2)
  (fin:∀(Da C:SA) (s6:SI) (H5:Hp) (m:SH->Option Sy),Inv X π σ H5 s6->s6.heap.Ns C m->oA X π H5 C->Q (.ref Da) H5->RR (.ref Da) C (.ok .next) s6) :
  Td (Tb X.prog X.w) X.A (newList []) (λacc sj=>Td (Tb X.prog X.w) X.A (newFunctionEnv scope X.env.globals (jA X.env.cells scope.names []) [] X.env.qual none .none (some X.env)) (λcenv sk=>
   Vt (Tb X.prog X.w) X.A (.compStart (.ListComp elt [⟨tg,iter,ifs,0⟩] scope pos) 0 itv acc { cenv with scope:=relabel scope X.env }) (RR acc cenv.locals) sk) X.xe sj) X.xe s2:=by
 obtain⟨it,fp,tn,J,H2,e,I2,T,st2,f2,q⟩:=h2;subst e;have hD:H2 s2.heap.objs.size=none:=I2.fresh;refine wpAny_newObj_type ?_;have I3:Inv X π σ (upd H2 s2.heap.objs.size (.lst [])) { s2 with heap:=s2.heap.push { cls:=.type "list",data:=.seq ([]:List Sy).toArray } }:=I2.lnew (t':=s2.toks) (its:=[]) .nil (We _);obtain⟨W,⟨m0,w0⟩,turn⟩:=q s2.heap.objs.size hD;generalize hs3:({ s2 with heap:=s2.heap.push { cls:=.type "list",data:=.seq ([]:List Sy).toArray } }:SI)=s3 at I3 ⊢;have hs3h:s3.heap=s2.heap.push { cls:=.type "list",data:=.seq ([]:List Sy).toArray }:=by rw[←hs3]
 have hDs:s2.heap.objs.size<s3.heap.objs.size:=by rw[hs3h,Wz];exact U0 _
 have fpl:∀b∈fp,b<s2.heap.objs.size:=λb hb=>by
  obtain⟨o,ho,_⟩:=T.obj _ _ st2 b hb;exact S9 ho
 have kept3:∀b o,s2.heap.get? b=some o->s3.heap.get? b=some o:=λb o e=>by rw[hs3h];exact SK _ e
 have st3:tn 0 s3.heap:=T.keep _ _ _ st2 λb _ o e=>kept3 b o e;generalize hDa:s2.heap.objs.size=Da at *;generalize hH3:upd H2 Da (.lst [])=H3 at *;have fr3:∀b∈fp,H3 b=none:=λb hb=>by rw[←hH3,ax (Ts (fpl b hb))];exact(f2 b hb).1
 have cls:∀x c,(jA X.env.cells scope.names []).lookup x=some c->X.env.cells.lookup x=some c:=λx c e=>by
  rcases sr (λy hy hf=>I3.ok.has y.1 (.inl (hfree y hy hf))) e with e|e
  .cases e
  .exact e
 refine wpAny_newFunctionEnv hcell (by intro y hy;simp at hy) (λh4 ns4 sb4=>?_) hkind;have k4:∀b o,s3.heap.get? b=some o->h4.get? b=some o:=λb o e=>(sb4.2 b (Ts (S9 e))).trans (SK _ e);generalize hC:s3.heap.objs.size=C at *;have hCn:H3 C=none:=I3.hok.fresh (by rw[hC];exact Tf _);have ltC:∀b o,s3.heap.get? b=some o->b≠C:=λb o e=>by rw[←hC];exact Ts (S9 e)
 have cellC:∀x c,X.env.cells.lookup x=some c->c≠C:=λx c e=>by
  obtain⟨v,o,ho,_⟩:=I3.cell x c e;exact ltC c o ho
 have fpC:∀b∈fp,b≠C:=λb hb=>by
  have:=fpl b hb;exact Ts (Nat.lt_trans this hDs)
 show Vt (Tb X.prog X.w) X.A (.compStart (.ListComp elt [⟨tg,iter,ifs,0⟩] scope pos) 0 (.ref it) (.ref Da) (compEnvC scope (jA X.env.cells scope.names []) C X.env)) _ _;generalize hs4:({ s3 with heap:=h4,toks:=s3.toks+([]:List (SH×Sy)).length }:SI)=s4;have hs4h:s4.heap=h4:=by rw[←hs4]
 have ok:(fK X N scope s3 H3 C fp (X.pn++π)).Ok:=by
  refine⟨I3.ok.mod,hkind,I3.ok.glob,I3.ok.blt,XT hC,λx y c e1 e2=>I3.ok.inj x y c (cls x c e1) (cls y c e2),λx e=>?_,λx c e=>?_,λ_=>I3.ok.hd hc,I3.ok.frames,.inl rfl,λb hb=>⟨fpC b hb,λx c e=>(f2 b hb).2.2.2.2.1 x c (cls x c e)⟩,I3.bs,SW I3.ok.bsz I3.sz,λb o e hb=>?_,λb hb z=>?_,I3.stack,I3.stkFree⟩
  .have mm:∀k:UI,(relabel scope X.env).names.lookup x=some k->(k=.cell∨k=.free)->(x,UZ)∈scope.names:=λk hk hk2=>by
    have hm:=UW hk;obtain⟨⟨n',k'⟩,hm1,hm2⟩:=Tt.mp hm;dsimp only at hm2;split at hm2
    .rename_i hcnd
     cases hm2;simp only[SX,beq_iff_eq]at hcnd;rw[hcnd.1.1]at hm1;exact hm1
    .cases hm2
     rcases hk2 with rfl|rfl
     .exact absurd rfl (hcell _ hm1)
     .exact hm1
   rcases e with e|e
   .exact sv (mm _ e (.inl rfl))
   .exact sv (mm _ e (.inr rfl))
  .cases e
  .rcases(f2 b hb).2.2.2.1 with z|z
   .exact I3.ok.noex b o e z
   .exact absurd (SU (S9 e) (SW I3.ok.bsz z)) (Vr _)
  .rcases SV.mp (I3.stkSub b z) with z|z
   .exact(f2 b hb).2.1 z
   .exact(f2 b hb).2.2.1 z
 have I4:Inv (fK X N scope s3 H3 C fp (X.pn++π)) [] (nh n fr σ) H3 s4:=by
  refine⟨ok,by rw[←hs4];rfl,by rw[←hs4];exact I3.bare,by rw[hs4h];exact Un.kept k4,⟨_,by rw[hs4h];exact ns4,λi x v h1 h2 h3=>?_⟩,λx c e=>?_,hCn,λx c e=>I3.freeC x c (cls x c e),λp hp=>?_,by rw[hs4h];exact I3.hok.kept k4,?_⟩
  .obtain⟨j,j1,j2,j3,j4,j5⟩:=hfr.at h1 h2
   obtain⟨m,hn,hl⟩:=I3.loc;obtain⟨u,ru,l⟩:=hl j x v j1 j2 (.inr (.inl j3));refine⟨u,ru,.inr ⟨.inl j5,?_⟩⟩;rcases l with⟨z,_⟩|⟨_,c,z1,z2⟩
   .rw[show X.env.kindOf x=X.env.scope.names.lookup x from rfl,j3]at z;cases z
   .obtain⟨c',hc'⟩:=sv (cells:=X.env.cells) (names:=scope.names) (acc:=[]) (UW j4)
    have:=cls x c' hc';rw[z1]at this;cases this;obtain⟨oc,q1,q2⟩:=z2;exact⟨c,hc',oc,by rw[hs4h];exact k4 _ _ q1,q2⟩
  .obtain⟨v,oc,q1,q2⟩:=I3.cell x c (cls x c e)
   exact⟨v,oc,by rw[hs4h];exact k4 _ _ q1,q2⟩
  .rw[Ut]at hp
   obtain⟨p1,p2,p3,p4,p5⟩:=I3.pin p hp;refine⟨by rw[hs4h];exact k4 _ _ p1,p2,ltC _ _ p1,λz=>?_,p5⟩;rcases SV.mp (I3.stkSub _ z) with z|z
   .exact p3 z
   .exact p4 z
  .show(nh n fr σ).length=N.length
   unfold nh;rw[Tc,Ug,SD,hfr.1]
 have st4:tn 0 s4.heap:=by rw[hs4h];exact T.keep _ _ _ st3 λb _ o e=>k4 b o e
 have stat:∀{H':Hp},(∀b∈fp,H' b=none)->∀b∈fp,oA (fK X N scope s3 H3 C fp (X.pn++π)) [] H' b:=λhn b hb=>by
  refine⟨hn b hb,fpC b hb,λz=>?_,.inl hb,λx c e=>(f2 b hb).2.2.2.2.1 x c (cls x c e),λp hp=>?_⟩
  .rcases SV.mp (I3.stkSub b z) with z|z
   .exact(f2 b hb).2.1 z
   .exact(f2 b hb).2.2.1 z
  .rw[Ut]at hp
   exact(f2 b hb).2.2.2.2.2 p hp
 have loop:Vt (Tb X.prog X.w) X.A (.compLoop (.ListComp elt [⟨tg,iter,ifs,0⟩] scope pos) 0 (.ref it) (.ref Da) (compEnvC scope (jA X.env.cells scope.names []) C X.env)) (RR (.ref Da) C) s4:=by
  refine rY (λn s'=>∃i ys σ' H',Inv (fK X N scope s3 H3 C fp (X.pn++π)) [] σ' H' s'/\tn i s'.heap/\(∀b∈fp,H' b=none)/\W i n ys σ' H') ?_ m0 ⟨0,[],_,H3,I4,st4,fr3,w0⟩;rintro k s5 ⟨i,ys,σ5,H5,I5,st5,fr5,w5⟩;obtain⟨hDl,ways⟩:=turn i k ys σ5 H5 w5;rcases ways with⟨stop,fin'⟩|⟨go,hz,step⟩
  .refine cX (T.done (fK X N scope s3 H3 C fp (X.pn++π)) rfl rfl rfl hc i [] s5 σ5 H5 (λ_ _=>False) I5 (stat fr5) st5 stop) λr s6 ⟨hr,I6⟩=>?_
   subst hr;obtain⟨mm,nsm,_⟩:=I6.loc;have free6:H5 C=none:=I6.free;have hok:gY X.prog X.w H5 s6.heap:=I6.hok;have un:Un (iw X.stack) fp H3 H5 s3.heap s6.heap:=I6.base;have IX:Inv X π σ H5 s6:=I3.call' (s':=s6) (ch:=fp) I6.os un hok I6.bare (λb hb=>⟨(f2 b hb).2.2.2.1,(f2 b hb).2.1,(f2 b hb).2.2.2.2.1,(f2 b hb).2.2.2.2.2⟩);have fC:oA X π H5 C:=I3.fpOk (b:=C) (H':=H5) (by rw[hC];exact Tf _) free6;exact fin Da C s6 H5 mm IX nsm fC fin'
  .refine cX (T.item (fK X N scope s3 H3 C fp (X.pn++π)) rfl rfl rfl hc i [] s5 σ5 H5 (λ_ _=>False) I5 (stat fr5) st5 go) λr s6 ⟨u,hr,h6⟩=>?_
   subst hr;refine cX h6 λ_ s7 ⟨x,H7,I7,r7,y7,st7,fr7⟩=>?_;have I7':=I7.pinned (stat fr7) (T.obj _ _ st7);refine cX ((blk s3 H3 C fp (X.pn++π)).1 _ s7 σ5 H7 x u _ I7' r7 (step x H7 y7)) λ_ s8 ⟨σ8,H8,I8,q8⟩=>?_;refine cX ((blk s3 H3 C fp (X.pn++π)).2.1 _ s8 σ8 H8 _ I8 q8) λb s8b ⟨H8b,I8b,q8b⟩=>?_;have back:∀{σ':L2.St}{H':Hp}{s':SI},L2.Inv (fK X N scope s3 H3 C fp (X.pn++π)) (([]:List (SA×Obj))++qT fp s7.heap) σ' H' s'->tn (i+1) s'.heap/\∀b∈fp,H' b=none:=λ{σ' H' s'} I'=>by
    refine⟨T.keep _ _ _ st7 λb hb o e=>(I'.pin (b,o) (Ue _ (Ue _ (ki hb e)))).1,λb hb=>?_⟩;obtain⟨o,e,d⟩:=T.obj _ _ st7 b hb;exact(I'.pin (b,o) (Ue _ (Ue _ (ki hb e)))).2.1
   cases b with
   |false=>
    rw[if_neg Us]at q8b ⊢;obtain⟨m',hm,w9⟩:=q8b;exact⟨m',hm,i+1,ys,σ8,_,I8b.unpinned,(back I8b).1,(back I8b).2,w9⟩
   |true=>
    rw[if_pos rfl]at q8b ⊢;refine cX ((blk s3 H3 C fp (X.pn++π)).2.2 _ s8b σ8 H8b _ I8b q8b) λy s9 ⟨yv,H9,I9,r9,hD9,m',hm,w9⟩=>?_;refine cX (lJ (X:=fK X N scope s3 H3 C fp (X.pn++π)) _ s9 σ8 H9 (.ref Da) [yv] (.ref Da) [y] (λv H'=>H'=upd H9 Da (.lst (ys++[yv]))) I9 rfl (.cons r9 .nil) ⟨Da,ys,yv,rfl,rfl,hD9,hz,rfl⟩) λ_ s10 ⟨v10,H10,I10,_,e10⟩=>?_;subst e10;exact⟨m',hm,i+1,ys++[yv],σ8,_,I10.unpinned,(back I10).1,(back I10).2,w9⟩
 exact codeAny_compStart_list loop (T.self _ 0 _ _ _ st4 loop)
structure N0 (K:SE) (ds:ac) (J:It) (Ha:Hp):Prop where
 go:∀(i:Nat) (H' Ha':Hp),aD Ha Ha'->aD Ha' H'->i<ds.length->J.go i H'
 yld:∀(i:Nat) (H' Ha':Hp) (x:V) (H2:Hp) (d:D),aD Ha Ha'->aD Ha' H'->ds[i]?=some d->J.yld i H' x H2->∃H₀2,bh H' Ha' H2 H₀2/\Rep K H₀2 d x
 stop:∀(i:Nat) (H' Ha':Hp),aD Ha Ha'->aD Ha' H'->ds.length<=i->J.stop i H'
noncomputable def R9(K:SE) (E:XK) (src:Ev->ak (ac)):TI:=λσ H R=>∃Ha ρ,aD Ha H/\ez K Ha σ ρ/\match src ρ with
 |.ok ds=>∀J H' Ha',bh H Ha H' Ha'->N0 K ds J Ha'->R J H'
 |.exn x=>∀C ox H' Ha',bh H Ha H' Ha'->wq K Ha' x C ox->E C ox H'
 |.stuck=>False
structure DI (X:Cx) (E:XK) (tg iter:Tn) (src:Ev->ak (ac)):Prop where
 o:PI X tg iter (R9 X.K E src)
def mO{X:Cx}{tg iter:Tn}{t t':TI}(h:PI X tg iter t)(w:∀σ H R,t' σ H R->t σ H R):PI X tg iter t':=λπ s σ H R I q=>h π s σ H R I (w σ H R q)
def u3(f:am):Ev->ak (ac):=λρ=>(f ρ).bind λd=>match d with
 |.lst ds=>.ok ds
 |_=>.stuck
def BI(f:am):Ev->ak (ac):=λρ=>(f ρ).bind λd=>match d with
 |.str z=>.ok (iC z)
 |_=>.stuck
def zZ(f:am):Ev->ak (ac):=λρ=>(f ρ).bind λd=>match d with
 |.int j=>if -4611686018427387904<=j/\j<4611686018427387904 then .ok (intsFrom 0 j.toNat) else .stuck
 |_=>.stuck
section
variable {X:Cx}{E:XK}{tg e a b:Tn}{f g:am}
def lT(h:DE X E e f):DI X E tg e (u3 f):=by
 refine⟨mO (Ak h.o) λσ H R z9=>?_⟩;obtain⟨Ha,ρ,hs,hr,q⟩:=z9;refine⟨Ha,ρ,hs,hr,?_⟩;unfold u3 at q;cases e1:f ρ with
 |stuck|exn x=>rw[e1]at q;exact q
 |ok d=>
  rw[e1]at q;intro v H1 H01 g1 r1;cases d with
  |lst ds=>
   obtain⟨p,vs,rfl,hv,hrv⟩:=aB.mp r1;refine⟨p,rfl,⟨vs,aD.sqL g1.sub hv⟩,q _ H1 H01 g1 ⟨λi H' Ha' s1 s2 hi=>?_,λi H' Ha' x H2 d s1 s2 hd hy=>?_,λi H' Ha' s1 s2 hi=>?_⟩⟩
   .exact⟨vs,vs[i]'(by rw[←hrv.length];exact hi),aD.sqL (s1.trans s2) hv,by simp⟩
   .obtain⟨rfl,hy⟩:=hy
    obtain⟨u,k1,k2⟩:=hrv.get hd;have:=hy vs (aD.sqL (s1.trans s2) hv);rw[k1]at this;cases this;exact⟨Ha',bh.refl s2,k2.mono s1⟩
   .exact⟨vs,aD.sqL (s1.trans s2) hv,by rw[←hrv.length];exact hi⟩
  |_=>exact q.elim
def Gs(h:DE X E e f):DI X E tg e (BI f):=by
 refine⟨mO (Mm h.o) λσ H R z9=>?_⟩;obtain⟨Ha,ρ,hs,hr,q⟩:=z9;refine⟨Ha,ρ,hs,hr,?_⟩;unfold BI at q;cases e1:f ρ with
 |stuck|exn x=>rw[e1]at q;exact q
 |ok d=>
  rw[e1]at q;intro v H1 H01 g1 r1;cases d with
  |str z=>
   refine⟨z,Rep.str_iff.mp r1,q _ H1 H01 g1 ⟨λi H' Ha' s1 s2 hi=>?_,λi H' Ha' x H2 d s1 s2 hd hy=>?_,λi H' Ha' s1 s2 hi=>?_⟩⟩
   .rw[j9]at hi;exact hi
   .obtain⟨rfl,c,hc,rfl⟩:=hy
    have:d=.str ⟨#[c]⟩:=by
     unfold iC at hd;rw[Ta]at hd;have h2:z.cps.toList[i]?=some c:=by simpa using hc
     rw[h2]at hd;cases hd;rfl
    subst this;exact⟨Ha',bh.refl s2,Rep.str_iff.mpr rfl⟩
   .rw[j9]at hi;exact hi
  |_=>exact q.elim
def CG{K:SE}{lo:Int}{n:Nat}{H:Hp}:N0 K (intsFrom lo n) (NZ lo n) H:=by
 have hl:(intsFrom lo n).length=n:=by unfold intsFrom;simp
 refine⟨λi H' Ha' _ _ hi=>?_,λi H' Ha' x H2 d s1 s2 hd hy=>?_,λi H' Ha' _ _ hi=>?_⟩
 .rw[hl]at hi;exact hi
 .obtain⟨rfl,rfl⟩:=hy
  have:d=.int (lo+i):=by
   unfold intsFrom at hd;rw[Ta]at hd;cases e:(TY n)[i]? with
   |none=>rw[e]at hd;cases hd
   |some k=>
    rw[e]at hd;have hk:k=i:=by
     obtain⟨h1,h2⟩:=SR.mp e;simpa using h2.symm
    subst hk;cases hd;rfl
  subst this;exact⟨Ha',bh.refl s2,ay.mpr rfl⟩
 .rw[hl]at hi;exact hi
def CV{p pos:Pos}(hg:Gl X "range")(hm:X.mg "range"=none)(h:DE X E a f)(hn:IH a=true:=by exact rfl):DI X E tg (.Call (.Name "range" p) [a] [] pos) (zZ f):=by
 refine⟨mO (ug hg hm (cG h.o e7 (jE hn)) (jE hn)) λσ H R z9=>?_⟩;obtain⟨Ha,ρ,hs,hr,q⟩:=z9;refine⟨Ha,ρ,hs,hr,?_⟩;unfold zZ at q;cases e1:f ρ with
 |stuck|exn x=>rw[e1]at q;exact q
 |ok d=>
  rw[e1]at q;intro v H1 H01 g1 r1;cases d with
  |int j=>
   replace q:match (if -4611686018427387904<=j/\j<4611686018427387904 then ak.ok (intsFrom 0 j.toNat) else .stuck) with
    |.ok ds=>∀J H' Ha',bh H Ha H' Ha'->N0 X.K ds J Ha'->R J H'
    |.exn x=>∀C ox H' Ha',bh H Ha H' Ha'->wq X.K Ha' x C ox->E C ox H'
    |.stuck=>False:=q
   by_cases hj:-4611686018427387904<=j/\j<4611686018427387904
   .rw[if_pos hj]at q
    rw[ay.mp r1];exact⟨j,rfl,hj.1,hj.2,q _ H1 H01 g1 CG⟩
   .rw[if_neg hj]at q;exact q.elim
  |_=>exact q.elim
end
def kT(src:Ev->ak (ac))(tg:Ev->D->ak Ev)(s:bv):bv:=λρ=>(src ρ).bind λds=>cN tg s ds ρ
section
variable {X:Cx}{E:XK}{He η:Hp}{st:Ud}{s:bv}{pos:Pos}
def yk{K:SE}{Hb Ha:Hp}{tg:Ev->D->ak Ev}{ds:ac}{D':gV}{i:Nat}{σ:L2.St}{H:Hp}{d:D}{v:V}{ρ:Ev}(z:aD Hb Ha)(h:eO K He η Ha σ H ρ)(q:bT K E He η Ha (cN tg s (ds.drop i) ρ) D')(hd:ds[i]?=some d)(rv:Rep K Ha d v)
  (he:∀ρ,tg ρ d=.stuck∨∃ρ',tg ρ d=.ok ρ') :
  tG K He η tg v σ H λσ2 H2=>tS K E He η s { D' with nx:=jv K E He η Hb tg s ds D' (i+1),ct:=jv K E He η Hb tg s ds D' (i+1),bk:=D'.nx } σ2 H2:=by
 have hi:i<ds.length:=(SR.mp hd).1;have hdr:ds.drop i=d::ds.drop (i+1):=by
  rw[T7 hi];rw[SS hi]at hd;cases hd;rfl
 rw[hdr]at q;refine⟨Ha,ρ,d,h,rv,?_⟩;unfold cN at q;rcases he ρ with e1|⟨ρ1,e1⟩
 .rw[e1]at q;exact q.elim
 .rw[e1]at q ⊢
  intro σ' H' Ha' z' h';refine⟨Ha',ρ1,h',?_⟩;replace q:=bT.grow (r:=(s ρ1).bind λx=>match x with
   |.nx ρ2=>cN tg s (ds.drop (i+1)) ρ2
   |.ct ρ2=>cN tg s (ds.drop (i+1)) ρ2
   |.bk ρ2=>.ok (.nx ρ2)
   |.rt d=>.ok (.rt d)) q z'
  cases e2:s ρ1 with
  |stuck|exn x=>rw[e2]at q;exact q
  |ok r=>
   rw[e2]at q;cases r with|nx ρ2=>exact λσ3 H3 H03 z3 h3=>⟨H03,ρ2,(z.trans z').trans z3,h3,bT.grow (r:=cN tg s (ds.drop (i+1)) ρ2) q z3⟩|ct ρ2=>exact λσ3 H3 H03 z3 h3=>⟨H03,ρ2,(z.trans z').trans z3,h3,bT.grow (r:=cN tg s (ds.drop (i+1)) ρ2) q z3⟩|bk ρ2|rt d=>exact q
def vS{tgt iter:Tn}{body:List Ud}{tg:Ev->D->ak Ev}{src:Ev->ak (ac)}(hp:PassesOwn (Tb X.prog X.w) X.A X.env X.xe)(hc:X.calm=true)(hi:DI X E tgt iter src)(hg:DG X E He η tgt tg)(ht:uP tg)(hb:wt X E He η body s)
  (hs:∀x,foldedSetIterable iter X.env x=pure x:=by intro _;rfl):DS X E He η (.For tgt iter body [] pos) (kT src tg s):=by
 refine⟨cf (u9 hp hc hi.o hg.o hb.o hs) λD' σ H z9=>?_⟩;obtain⟨Ha,ρ,h,q⟩:=z9;refine⟨Ha,ρ,h.g.sub,h.rd,?_⟩;unfold kT at q;cases e1:src ρ with
 |stuck=>rw[e1]at q;exact q|exn x=>rw[e1]at q;exact λC ox H' Ha' g r=>q C ox H' Ha' (h.g.trans g) r
 |ok ds=>
  rw[e1]at q;intro J H1 H01 g it;have q1:bT X.K E He η H01 (cN tg s ds ρ) D':=bT.grow (r:=cN tg s ds ρ) q g.z;refine⟨λi m σ' H'=>m+i=ds.length/\jv X.K E He η H01 tg s ds D' i σ' H',⟨ds.length,rfl,H01,ρ,aD.refl _,h.grow g,q1⟩,?_⟩;rintro i m σ' H' ⟨hm,Ha',ρ',z,h',hq⟩
  by_cases hlt:i<ds.length
  .refine .inr ⟨it.go i H' Ha' z h'.g.sub hlt,λσ2 H2=>jv X.K E He η H01 tg s ds D' (i+1) σ2 H2,λσ2 H2 hl=>⟨m-1,by omega,by omega,hl⟩,λx H2 hy=>?_⟩
   obtain⟨H₀2,g2,rp⟩:=it.yld i H' Ha' x H2 ds[i] z h'.g.sub (SS hlt) hy;exact yk (z.trans g2.z) (h'.grow g2) (bT.grow (r:=cN tg s (ds.drop i) ρ') hq g2.z) (SS hlt) rp λρ=>ht ρ _
  .have e:i=ds.length:=by omega
   refine .inl ⟨it.stop i H' Ha' z h'.g.sub (by omega),?_⟩;subst e;exact jv.done ⟨Ha',ρ',z,h',hq⟩
end
def nB(f:am):Prop:=∀ρ d,f ρ=.ok d->∃ds,d=.lst ds
def wD{K:SE}{E:XK}{f:am}(hf:nB f){σ:L2.St}{H:Hp}{Q:VK}(h:tD K E f σ H Q):tF K E f σ H Q:=by
 obtain⟨Ha,ρ,hs,hr,q⟩:=h;refine⟨Ha,ρ,hs,hr,?_⟩;cases e1:f ρ with
 |stuck|exn x=>rw[e1]at q;exact q
 |ok d=>
  obtain⟨ds,rfl⟩:=hf ρ d e1;rw[e1]at q;intro p vs H' Ha' g hp h0 hv rp;have n0:Ha p=none:=hs.free hp;refine q (.ref p) H' (upd Ha' p (.lst vs)) ⟨g.s,λb o e=>?_,λb o e=>?_,λb k1 k2=>?_⟩ (aB.mpr ⟨p,vs,rfl,fM.of az,rp.mono λb o e=>?_⟩)
  .rw[ax (by intro z;subst z;rw[n0]at e;cases e)];exact g.z _ _ e
  .by_cases hb:b=p
   .subst hb;rw[az]at e;cases e;exact hv
   .rw[ax hb]at e;exact g.sub _ _ e
  .by_cases hb:b=p
   .subst hb;exact hp
   .rw[ax hb]at k1;exact g.nw b k1 k2
  .rw[ax (by intro z;subst z;rw[h0]at e;cases e)];exact e
def Gv{X:Cx}{E:XK}{e:Tn}{f:am}(hf:nB f)(h:DF X E e f):DE X E e f:=⟨bc h.o λσ H Q q=>wD hf q⟩
def cD(n:Nat)(fr:cr)(ρ:Ev):Ev:=S4 n .no++fr.map λ(i:Nat)=>match ρ[i]? with
 |some (.sh d)=>.sh d
 |_=>.no
noncomputable def bU(b:Ev) (tg:Ev->D->ak Ev) (tt fe:am):ac->ak (ac)
 |[]=>.ok []
 |d::r=>(tg b d).bind λρ1=>(tt ρ1).bind λt=>match t with
  |.bl true=>(fe ρ1).bind λx=>(bU b tg tt fe r).bind λxs=>.ok (x::xs)
  |.bl false=>bU b tg tt fe r
  |_=>.stuck
def eY(n:Nat)(fr:cr)(src:Ev->ak (ac))(tg:Ev->D->ak Ev)(tt fe:am):am:=λρ=>(src ρ).bind λds=>
 if ds.length<=line then match bU (cD n fr ρ) tg tt fe ds with
  |.ok es=>.ok (.lst es)
  |_=>.stuck
 else .stuck
def oh{n:Nat}{fr:cr}{src:Ev->ak (ac)}{tg:Ev->D->ak Ev}{tt fe:am}:nB (eY n fr src tg tt fe):=λρ d h=>by
 unfold eY at h;cases e1:src ρ with
 |stuck|exn x=>rw[e1]at h;cases h
 |ok ds=>
  rw[e1]at h;replace h:(if ds.length<=line then match bU (cD n fr ρ) tg tt fe ds with
   |.ok es=>ak.ok (D.lst es)
   |_=>.stuck else .stuck)=.ok d:=h
  split at h
  .split at h
   .cases h;exact⟨_,rfl⟩
   .cases h
  .cases h
def kA{b:Ev}{tg:Ev->D->ak Ev}{tt fe:am}{d:D}{r es:ac}(h:bU b tg tt fe (d::r)=.ok es) :
  ∃ρ1 t,tg b d=.ok ρ1/\tt ρ1=.ok (.bl t)/\((t=true/\∃x xs,fe ρ1=.ok x/\bU b tg tt fe r=.ok xs/\es=x::xs)∨(t=false/\bU b tg tt fe r=.ok es)):=by
 unfold bU at h;cases e1:tg b d with
 |stuck|exn z=>rw[e1]at h;cases h
 |ok ρ1=>
  rw[e1]at h;replace h:((tt ρ1).bind λt=>match t with
   |.bl true=>(fe ρ1).bind λx=>(bU b tg tt fe r).bind λxs=>ak.ok (x::xs)
   |.bl false=>bU b tg tt fe r
   |_=>.stuck)=.ok es:=h
  cases e2:tt ρ1 with
  |stuck|exn z=>rw[e2]at h;cases h
  |ok t=>
   rw[e2]at h;cases t with
   |bl t=>
    cases t with
    |true=>
     replace h:((fe ρ1).bind λx=>(bU b tg tt fe r).bind λxs=>ak.ok (x::xs))=.ok es:=h;cases e3:fe ρ1 with
     |stuck|exn z=>rw[e3]at h;cases h
     |ok x=>
      rw[e3]at h;replace h:((bU b tg tt fe r).bind λxs=>ak.ok (x::xs))=.ok es:=h;cases e4:bU b tg tt fe r with|stuck|exn z=>rw[e4]at h;cases h|ok xs=>rw[e4]at h;cases h;exact⟨ρ1,true,rfl,e2,.inl ⟨rfl,x,xs,e3,rfl,rfl⟩⟩
    |false=>exact⟨ρ1,false,rfl,e2,.inr ⟨rfl,h⟩⟩
   |_=>cases h
def iz{b:Ev}{tg:Ev->D->ak Ev}{tt fe:am}{d x:D}{r:ac}{ρ1:Ev}(h1:tg b d=.ok ρ1)(h2:tt ρ1=.ok (.bl true))(h3:fe ρ1=.ok x):bU b tg tt fe (d::r)=(bU b tg tt fe r).bind λxs=>.ok (x::xs):=by
 rw[bU,h1];simp only[ak.bind,h2,h3]
def rZ{b:Ev}{tg:Ev->D->ak Ev}{tt fe:am}{d:D}{r:ac}{ρ1:Ev}(h1:tg b d=.ok ρ1)(h2:tt ρ1=.ok (.bl false)):bU b tg tt fe (d::r)=bU b tg tt fe r:=by
 rw[bU,h1];simp only[ak.bind,h2]
theorem oj{b:Ev}{tg:Ev->D->ak Ev}{tt fe:am}:∀{r q es:ac},bU b tg tt fe (r++q)=.ok es->∃e1 e2,bU b tg tt fe r=.ok e1/\bU b tg tt fe q=.ok e2/\es=e1++e2
 |[],q,es,h=>⟨[],es,rfl,h,rfl⟩
 |d::r,q,es,h=>by
  obtain⟨ρ1,t,h1,h2,h3⟩:=kA h;rcases h3 with⟨rfl,x,xs,h3,h4,rfl⟩|⟨rfl,h4⟩
  .obtain⟨e1,e2,k1,k2,rfl⟩:=oj h4
   refine⟨x::e1,e2,?_,k2,rfl⟩;rw[iz h1 h2 h3,k1];rfl
  .obtain⟨e1,e2,k1,k2,rfl⟩:=oj h4
   refine⟨e1,e2,?_,k2,rfl⟩;rw[rZ h1 h2];exact k1
theorem kz{b:Ev}{tg:Ev->D->ak Ev}{tt fe:am}:∀{r q e1 e2:ac},bU b tg tt fe r=.ok e1->bU b tg tt fe q=.ok e2->bU b tg tt fe (r++q)=.ok (e1++e2)
 |[],q,e1,e2,h,h'=>by cases h;exact h'
 |d::r,q,e1,e2,h,h'=>by
  obtain⟨ρ1,t,h1,h2,h3⟩:=kA h;show bU b tg tt fe (d::(r++q))=_;rcases h3 with⟨rfl,x,xs,h3,h4,rfl⟩|⟨rfl,h4⟩
  .rw[iz h1 h2 h3,kz h4 h'];rfl
  .rw[rZ h1 h2];exact kz h4 h'
theorem r8{b:Ev}{tg:Ev->D->ak Ev}{tt fe:am}:∀{r es:ac},bU b tg tt fe r=.ok es->es.length<=r.length
 |[],es,h=>by cases h;exact Tf _
 |d::r,es,h=>by
  obtain⟨ρ1,t,h1,h2,h3⟩:=kA h;rcases h3 with⟨rfl,x,xs,h3,h4,rfl⟩|⟨rfl,h4⟩
  .exact Nat.succ_le_succ (r8 h4)
  .exact Nat.le_succ_of_le (r8 h4)
def Kx(n:Nat)(tg:Ev->D->ak Ev):Prop:=∀ρ d ρ',tg ρ d=.ok ρ'->ρ'.length=ρ.length/\∀(k:Nat),n<=k->ρ'[k]?=ρ[k]?
def fP{i n:Nat}(h:i<n):Kx n (dz i):=λρ d ρ' e=>by
 cases e;exact⟨by simp,λk hk=>by rw[SO (by omega)]⟩
def zH{K:SE}{Ha:Hp}{σ:L2.St}{ρ:Ev}{n:Nat}{fr:cr}(h:ez K Ha σ ρ):ez K Ha (nh n fr σ) (cD n fr ρ):=λi d e=>by
 unfold cD at e;unfold nh
 by_cases hi:i<n
 .rw[Tg (by simpa using hi),Tz,if_pos hi]at e
  cases e
 .rw[To (by simpa using hi),Ug,Ta]at e ⊢
  cases hf:fr[i-n]? with
  |none=>rw[hf]at e;cases e
  |some j=>
   rw[hf]at e;simp only[Vm,U7]at e ⊢;cases hj:ρ[j]? with
   |none=>rw[hj]at e;cases e
   |some s=>
    rw[hj]at e;cases s with
    |sh d'=>
     cases e;obtain⟨v,h1,h2⟩:=h j d hj;exact⟨v,by rw[h1];rfl,h2⟩
    |_=>cases e
def Ks{n:Nat}{fr:cr}{ρ:Ev}{k:Nat}(h:k<n):(cD n fr ρ)[k]?=some .no:=by
 unfold cD;rw[Tg (by simpa using h),Tz,if_pos h]
def GH{n:Nat}{fr:cr}{ρ:Ev}(i j:Nat)(es:ac):(cD n fr ρ)[i]?≠some (.ox j es):=λe=>by
 unfold cD at e
 by_cases hj:i<n
 .rw[Tg (by simpa using hj),Tz,if_pos hj]at e;cases e
 .rw[To (by simpa using hj),Ta]at e
  cases hf:fr[i-(S4 n Sl.no).length]? with
  |none=>rw[hf]at e;cases e
  |some z=>
   rw[hf]at e;simp only[Vm,U7]at e;split at e<;>cases e
def C7{n:Nat}{fr:cr}{ρ:Ev}{σ:L2.St}(i:Nat)(a:SA)(e:(cD n fr ρ)[i]?=some (.pt a)):σ[i]?=some (some (.ref a)):=by
 unfold cD at e
 by_cases hj:i<n
 .rw[Tg (by simpa using hj),Tz,if_pos hj]at e;cases e
 .rw[To (by simpa using hj),Ta]at e
  cases hf:fr[i-(S4 n Sl.no).length]? with
  |none=>rw[hf]at e;cases e
  |some z=>
   rw[hf]at e;simp only[Vm,U7]at e;split at e<;>cases e
def yd{n:Nat}{fr:cr}{ρ:Ev}:(cD n fr ρ).length=n+fr.length:=by unfold cD;simp
def zE{K:SE}{E:XK}{n:Nat}{fr:cr}{tg:Ev->D->ak Ev}{tt fe:am}{σ:L2.St}{ρ:Ev}{H Ha H1 H01:Hp}{ds es:ac}{J:It}{Q:VK}(hsame:aD Ha H)(g1:bh H Ha H1 H01)(it:N0 K ds J H01)(hl:ds.length<=line)
  (e2:bU (cD n fr ρ) tg tt fe ds=.ok es)(hr:ez K H01 σ ρ)(hok:Kx n tg)
  (q:∀p vs H' Ha',bh H Ha H' Ha'->H p=none->Ha' p=none->H' p=some (.lst vs)->Reps K Ha' es vs->Q (.ref p) H') :
  yx n fr (MS K tg) (N3 K E tt) (tD K E fe) J σ H1 Q:=by
 intro Da hDa;have h0D:H01 Da=none:=g1.sub.free hDa;refine⟨λi m ys σ' H'=>m=ds.length-i/\i<=ds.length/\σ'.length=n+fr.length/\∃Ha',bh H1 H01 H' Ha'/\Ha' Da=none/\H' Da=some (.lst ys)/\ez K Ha' σ' (cD n fr ρ)/\∃es1,bU (cD n fr ρ) tg tt fe (ds.take i)=.ok es1/\Reps K Ha' es1 ys,
  ⟨ds.length,by simp,We _,by unfold nh;simp,H01,?_,h0D,az,zH hr,[],rfl,Reps.nil⟩,?_⟩
 .refine⟨λb o e=>by rw[ax (bg e hDa)];exact e,aD.refl _,λb o e=>?_,λb k1 k2=>absurd k2 k1⟩
  rw[ax (by intro z;subst z;rw[h0D]at e;cases e)];exact g1.sub _ _ e
 .rintro i m ys σ' H' ⟨rfl,hile,hsl,Ha',gg,hD0,hDl,hrd,es1,hes1,hys⟩
  refine⟨hDl,?_⟩
  by_cases hlt:i<ds.length
  .refine .inr ⟨it.go i H' Ha' gg.z gg.sub hlt,?_,?_⟩
   .rw[←hys.length]
    have:=r8 hes1;rw[UD]at this;have h2:line<sizeLine:=by decide
    omega
   .intro x H2 hy
    obtain⟨H₀2,g2,rp⟩:=it.yld i H' Ha' x H2 ds[i] gg.z gg.sub (SS hlt) hy;have hsplit:ds=ds.take i++(ds[i]::ds.drop (i+1)):=by rw[←T7 hlt,List.take_append_drop]
    rw[hsplit]at e2;obtain⟨a1,a2,k1,k2,k3⟩:=oj e2;rw[hes1]at k1;cases k1;obtain⟨ρ1,t,t1,t2,t3⟩:=kA k2;have hn2:H₀2 Da=none:=by
     cases qq:H₀2 Da with|none=>rfl|some o=>have:=g2.nw Da (by rw[qq];simp) hD0;rw[hDl]at this;cases this
    have hD2:H2 Da=some (.lst ys):=g2.s _ _ hDl;refine⟨H2,H₀2,H₀2,cD n fr ρ,ds[i],⟨bh.refl g2.sub,hrd.mono g2.z,λj d' e=>?_,λj k d1 d2 _ e=>?_,by rw[yd,hsl],OX.none GH C7⟩,rp,?_⟩
    .unfold cD at e
     by_cases hj:j<n
     .rw[Tg (by simpa using hj),Tz,if_pos hj]at e;cases e
     .rw[To (by simpa using hj),Ta]at e
      cases hf:fr[j-(S4 n Sl.no).length]? with
      |none=>rw[hf]at e;cases e
      |some z=>
       rw[hf]at e;simp only[Vm,U7]at e;split at e<;>cases e
    .unfold cD at e
     by_cases hj:j<n
     .rw[Tg (by simpa using hj),Tz,if_pos hj]at e;cases e
     .rw[To (by simpa using hj),Ta]at e
      cases hf:fr[j-(S4 n Sl.no).length]? with
      |none=>rw[hf]at e;cases e
      |some z=>
       rw[hf]at e;simp only[Vm,U7]at e;split at e<;>cases e
    .rw[t1]
     intro σ3 H3 H03 z3 s3;have hrl:=hok _ _ _ t1;have hσ3:σ3.length=n+fr.length:=by rw[←s3.ln,hrl.1,yd]
     have back:∀{Hx:Hp},aD H03 Hx->ez K Hx σ3 (cD n fr ρ):=λ{Hx} sx k d e=>by
      by_cases hk:k<n
      .rw[Ks hk]at e;cases e
      .rw[←hrl.2 k (by omega)]at e
       obtain⟨v,h1,h2⟩:=s3.rd k d e;exact⟨v,h1,h2.mono sx⟩
     have n3:H03 Da=none:=by
      cases qq:H03 Da with|none=>rfl|some o=>have:=s3.g.nw Da (by rw[qq];simp) hn2;rw[hD2]at this;cases this
     have hD3:H3 Da=some (.lst ys):=s3.g.s _ _ hD2;refine⟨H03,ρ1,s3.g.sub,s3.rd,?_⟩;rw[t2];intro H4 H04 g4;have hD4:H4 Da=some (.lst ys):=g4.s _ _ hD3;have n4:H04 Da=none:=by
      cases qq:H04 Da with|none=>rfl|some o=>have:=g4.nw Da (by rw[qq];simp) n3;rw[hD3]at this;cases this
     have htake:ds.take (i+1)=ds.take i++[ds[i]]:=by rw[List.take_add_one,SS hlt];rfl
     have g04:=(gg.trans g2).trans (s3.g.trans g4);rcases t3 with⟨rfl,y,xs,t3,t4,_⟩|⟨rfl,t4⟩
     .rw[if_pos rfl]
      refine⟨H04,ρ1,g4.sub,s3.rd.mono g4.z,?_⟩;rw[t3];intro yv H5 H05 g5 ry;have hD5:H5 Da=some (.lst ys):=g5.s _ _ hD4;have n5:H05 Da=none:=by
       cases qq:H05 Da with|none=>rfl|some o=>have:=g5.nw Da (by rw[qq];simp) n4;rw[hD4]at this;cases this
      have gall:=g04.trans g5;refine⟨hD5,ds.length-(i+1),by omega,rfl,hlt,hσ3,H05,⟨λb o e=>?_,gall.z,λb o e=>?_,gall.nw⟩,n5,az,back (g4.z.trans g5.z),es1++[y],?_,?_⟩
      .rw[ax (bg e hDa)];exact gall.s _ _ e
      .rw[ax (by intro z;subst z;rw[n5]at e;cases e)];exact gall.sub _ _ e
      .rw[htake]
       refine kz hes1 ?_;rw[iz t1 t2 t3];rfl
      .exact(hys.mono ((g2.z.trans s3.g.z).trans (g4.z.trans g5.z))).app (Reps.cons ry Reps.nil)
     .rw[if_neg Us]
      refine⟨ds.length-(i+1),by omega,rfl,hlt,hσ3,H04,g04,n4,hD4,back g4.z,es1,?_,hys.mono ((g2.z.trans s3.g.z).trans g4.z)⟩;rw[htake];rw[show es1=es1++[] by simp];refine kz hes1 ?_;rw[rZ t1 t2];rfl
  .have hi2:i=ds.length:=by omega
   refine .inl ⟨it.stop i H' Ha' gg.z gg.sub (by omega),?_⟩;rw[hi2,VT]at hes1;rw[e2]at hes1;cases hes1;exact q Da ys H' Ha' (g1.trans gg) (g1.s.free hDa) hD0 hDl hys
structure QH (X:Cx) (E:XK) (ifs:List Tn) (f:am):Prop where
 o:Qo X ifs (N3 X.K E f)
def mYes:am:=λ_=>.ok (.bl true)
def jh{X:Cx}{E:XK}:QH X E [] mYes:=⟨λπ s σ H Q I ⟨Ha,ρ,hs,hr,q⟩=>Io π s σ H Q I (q H Ha (bh.refl hs))⟩
def Kh{X:Cx}{E:XK}{c:Tn}{f:am}(h:DT X E c f):QH X E [c] f:=⟨Im h.o⟩
structure Ob (X:Cx) (E:XK) (e:Tn) (f:am):Prop where
 ev:PE X e (tF X.K E f)
 st:∀{i:Nat}{x:SH}{pos' spos:Pos},X.N.Nodup->X.N[i]?=some x->X.env.scope.names.lookup x=some .local -> T1 e (some (.Name x pos')) spos.line X.env=pure true->PS X (.Assign [.Name x pos'] e spos) (LU (tF X.K E f) (FL i))
def Sq{X:Cx}{E:XK}{tgt iter elt:Tn}{ifs:List Tn}{scope:VN}{pos:Pos}(N:ci)(n:Nat)(fr:cr){src:Ev->ak (ac)}{tg:Ev->D->ak Ev}{tt fe:am}(hc:X.calm=true)(hi:DI X E tgt iter src)(hok:Kx n tg)
  (blk:∀s H C fp pn,(∀He η,DG (fK X N scope s H C fp pn) E He η tgt tg)/\QH (fK X N scope s H C fp pn) E ifs tt/\DE (fK X N scope s H C fp pn) E elt fe)
  (hfr:GZ X N n fr scope)(hcell:∀x∈scope.names,x.2≠.cell)(hfree:∀x∈scope.names,x.2=.free->X.env.scope.names.lookup x.1=some .cell)(hkind:scope.kind=.function)(hnames:∀x∈scope.names,x.2=.local -> scope.names.lookup x.1=some .local)
  (hs:∀x,foldedSetIterable iter X.env x=pure x:=by intro _;rfl):Ob X E (.ListComp elt [⟨tgt,iter,ifs,0⟩] scope pos) (eY n fr src tg tt fe):=by
 have blk':∀s H C fp pn,PG (fK X N scope s H C fp pn) tgt (MS X.K tg)/\Qo (fK X N scope s H C fp pn) ifs (N3 X.K E tt)/\PE (fK X N scope s H C fp pn) elt (tD X.K E fe):=λs H C fp pn=>
  ⟨λπ s' σ' H' v u Q' I r ⟨He,η,q'⟩=>((blk s H C fp pn).1 He η).o π s' σ' H' v u Q' I r q',(blk s H C fp pn).2.1.o,(blk s H C fp pn).2.2.o⟩
 have first:∀{π:List (SA×Obj)}{s:SI}{σ:L2.St}{H:Hp}{Q:VK}{RR:Sy->SA->WH->SI->Prop},L2.Inv X π σ H s->tF X.K E (eY n fr src tg tt fe) σ H Q ->
   (∀(Da C:SA) (s6:SI) (H5:Hp) (m:SH->Option Sy),L2.Inv X π σ H5 s6->s6.heap.Ns C m->oA X π H5 C->Q (.ref Da) H5->RR (.ref Da) C (.ok .next) s6) ->
   Td (Tb X.prog X.w) X.A (eval iter X.env) (λx sg=>Td (Tb X.prog X.w) X.A (XF x) (λit si=>Td (Tb X.prog X.w) X.A (newList []) (λacc sj=>
    Td (Tb X.prog X.w) X.A (newFunctionEnv scope X.env.globals (jA X.env.cells scope.names []) [] X.env.qual none .none (some X.env)) (λcenv sk=>
     Vt (Tb X.prog X.w) X.A (.compStart (.ListComp elt [⟨tgt,iter,ifs,0⟩] scope pos) 0 it acc { cenv with scope:=relabel scope X.env }) (RR acc cenv.locals) sk) X.xe sj) X.xe si) X.xe sg) X.xe s:=by
  intro π s σ H Q RR I ⟨Ha,ρ,hsame,hr,q⟩ fin;refine cX (hi.o π s σ H (λJ H1=>yx n fr (MS X.K tg) (N3 X.K E tt) (tD X.K E fe) J σ H1 Q) I ⟨Ha,ρ,hsame,hr,?_⟩) λv s1 h1=>cX h1 λitv s2 h2=>C4 (N:=N) hc hfr hcell hfree hkind blk' h2 fin;unfold eY at q;cases e1:src ρ with
  |stuck|exn x=>rw[e1]at q;exact q
  |ok ds=>
   rw[e1]at q;intro J H1 H01 g1 it;replace q:match (if ds.length<=line then match bU (cD n fr ρ) tg tt fe ds with
     |.ok es=>ak.ok (D.lst es)
     |_=>.stuck else .stuck) with
    |.ok (.lst ds)=>∀p vs H' Ha',bh H Ha H' Ha'->H p=none->Ha' p=none->H' p=some (.lst vs)->Reps X.K Ha' ds vs->Q (.ref p) H'
    |.ok _=>False
    |.exn x=>∀C ox H' Ha',bh H Ha H' Ha'->wq X.K Ha' x C ox->E C ox H'
    |.stuck=>False:=q
   by_cases hl:ds.length<=line
   .rw[if_pos hl]at q
    cases e2:bU (cD n fr ρ) tg tt fe ds with
    |stuck|exn x=>rw[e2]at q;exact q.elim
    |ok es=>
     rw[e2]at q;exact zE hsame g1 it hl e2 (hr.mono g1.z) hok q
   .rw[if_neg hl]at q;exact q.elim
 have hcl:∀{π:List (SA×Obj)}{s:SI}{σ:L2.St}{H:Hp},L2.Inv X π σ H s->closureFor scope X.env=pure (jA X.env.cells scope.names []):=λ{π s σ H} I=>tO λy hy hf=>I.ok.has y.1 (.inl (hfree y hy hf));refine⟨λπ s σ H Q I h=>?_,λ{i x pos' spos} hN hi' hx hsw π s σ H D' I h=>?_⟩
 .rw[eval_ListComp]
  refine wpAny_comprehension_free (use:=none) rfl hs (hcl I) hkind hnames (first (RR:=λacc C=>compPost (Tb X.prog X.w) X.A X.xe none (EP X π σ Q) acc C) I h λDa C s6 H5 m I6 ns fC q=>?_);refine⟨m,ns,λh' sb=>⟨.ref Da,H5,?_,rfl,q⟩⟩;exact I6.turned (t':=s6.toks) (it:=C) (λb o hb e=>(sb.2 b hb).trans e) fC.1 fC.2.1 fC.2.2.2.1 fC.2.2.2.2.1 fC.2.2.2.2.2
 .rw[exec_Assign_Name_used _ _ _ _ hsw]
  refine SG (wpAny_standAt (SG ?_));show Td _ X.A (do let _ ←comprehension (.ListComp elt [⟨tgt,iter,ifs,0⟩] scope pos) scope X.env _ (newList []) false (eval iter X.env) (some (assign (.Name x pos') X.env))) _ _ s;refine SG (T4 (wpAny_comprehension_free (use:=some (assign (.Name x pos') X.env)) (Q:=λ_ s'=>SP X π D' .next s') rfl hs (hcl I) hkind hnames
   (first (RR:=λacc C=>compPost (Tb X.prog X.w) X.A X.xe (some (assign (.Name x pos') X.env)) (λ_ s'=>SP X π D' .next s') acc C) I h λDa C s6 H5 m I6 ns fC q=>?_)) (λ_ s' hq=>S5 (S5 hq)) λ_ _ e=>e)
  show Td _ X.A (assign (.Name x pos') X.env (.ref Da)) _ _ _;refine wpAny_assign_Name (t9 (v:=.ref Da) I6 hN hi' (.inl hx) rfl (λs' I' z9=>?_) (.inr hx));obtain⟨a,sb,ha⟩:=z9;have hCa:C≠a:=by
   rcases ha with rfl|ha
   .exact fC.2.1
   .exact λz=>fC.2.2.2.2.1 x a ha z.symm
  refine⟨m,ns.sameBut sb hCa,λh' sb'=>⟨_,H5,?_,q⟩⟩;exact I'.turned (t':=s'.toks) (it:=C) (λb o hb e=>(sb'.2 b hb).trans e) fC.1 fC.2.1 fC.2.2.2.1 fC.2.2.2.2.1 fC.2.2.2.2.2
def Lg{X:Cx}{E:XK}{e:Tn}{f:am}(h:Ob X E e f):DF X E e f:=⟨h.ev⟩
def Bb{X:Cx}{E:XK}{e:Tn}{n:Nat}{fr:cr}{src:Ev->ak (ac)}{tg:Ev->D->ak Ev}{tt fe:am}(h:Ob X E e (eY n fr src tg tt fe)):DE X E e (eY n fr src tg tt fe):=Gv oh (Lg h)
section
variable {X:Cx}{E:XK}{He η:Hp}{e:Tn}{f:am}{s:bv}{pos:Pos}{st:Ud}
def A8{i:Nat}{x:SH}{pos':Pos}(hN:X.N.Nodup)(hi:X.N[i]?=some x)(hx:X.env.scope.names.lookup x=some .local)(he:Ob X E e f)(hs:T1 e (some (.Name x pos')) pos.line X.env=pure true:=by rfl):DS X E He η (.Assign [.Name x pos'] e pos) (mx i f):=by
 refine⟨cf (he.st hN hi hx hs) λD σ H z9=>?_⟩;obtain⟨Ha,ρ,h,q⟩:=z9;refine⟨Ha,ρ,h.g.sub,h.rd,?_⟩;unfold mx at q;cases e1:f ρ with
 |stuck=>rw[e1]at q;exact q|exn x=>rw[e1]at q;exact λC ox H' Ha' g ex=>q C ox H' Ha' (h.g.trans g) ex
 |ok d=>
  rw[e1]at q;cases d with
  |lst ds=>
   intro p vs H' Ha' g hp h0 hv rp;refine q _ H' Ha' g.z ((h.grow g).putOwn (λj a ej ea d ed=>?_) (h.g.s.free hp) h0 hv rp (h.fresh_x g.s hp));subst ea;obtain⟨a',k1,_,_,k4⟩:=h.ow j d ed;rw[ej]at k1;cases k1;cases d with
   |lst ds'|dic ks ds'=>obtain⟨vs',h5,_⟩:=k4;rw[hp]at h5;cases h5
   |ob kk ds'=>
    cases kk with|dint ks=>obtain⟨vs',h5,_⟩:=k4;rw[hp]at h5;cases h5| _=>exact k4.elim
   |_=>exact k4.elim
  |_=>exact q.elim
def unown(i:Nat)(ρ:Ev):Ev:=match ρ[i]? with
 |some (.ow d)=>ρ.set i (.sh d)
 |_=>ρ
def yG(i:Nat)(s:bv):bv:=λρ=>s (unown i ρ)
def eO.unown{K:SE}{Ha H:Hp}{σ:L2.St}{ρ:Ev}(h:eO K He η Ha σ H ρ)(i:Nat):∃Ha',aD Ha Ha'/\eO K He η Ha' σ H (DL.unown i ρ):=by
 unfold DL.unown;cases e:ρ[i]? with
 |none=>exact⟨Ha,aD.refl _,h⟩
 |some s=>
  cases s with
  |no|sh d|ox j ds|pt a=>exact⟨Ha,aD.refl _,h⟩
  |ow d=>
   obtain⟨a,k1,k2,k3,k4⟩:=h.ow i d e;obtain⟨o,h5,hrep⟩:∃o,H a=some o/\∀Hb,aD Ha Hb->Hb a=some o->Rep K Hb d (.ref a):=by
    cases d with
    |lst ds=>obtain⟨vs,h5,h6⟩:=k4;exact⟨_,h5,λHb z e=>aB.mpr ⟨a,vs,rfl,fM.of e,h6.mono z⟩⟩
    |dic ks ds=>obtain⟨vs,h5,hl,h6⟩:=k4;exact⟨_,h5,λHb z e=>by rw[Rep];exact⟨a,_,vs,rfl,.inl e,rfl,hl,h6.mono z⟩⟩
    |ob kk ds=>
     cases kk with|dint ks=>obtain⟨vs,h5,hl,h6⟩:=k4;exact⟨_,h5,λHb z e=>by exact bO.mpr ⟨a,vs,rfl,⟨_,.inl e,rfl,hl⟩,h6.mono z⟩⟩| _=>exact k4.elim
    |_=>exact k4.elim
   have z:aD Ha (upd Ha a o):=λb o' q=>by rw[ax (by intro z;subst z;rw[k3]at q;cases q)];exact q
   have h':eO K He η (upd Ha a o) σ H (ρ.set i .no):=by
    have nset:∀(j:Nat) (s:Sl),(ρ.set i .no)[j]?=some s->s≠.no->j≠i/\ρ[j]?=some s:=λj s q hs=>by
     by_cases hj:i=j
     .subst hj
      rw[UE]at q;rw[e]at q;cases q;exact absurd rfl hs
     .rw[SO hj]at q;exact⟨λz=>hj z.symm,q⟩
    refine⟨⟨h.g.s,h.g.z.trans z,λb o' q=>?_,λb q1 q2=>?_⟩,λj d' q=>?_,λj d' q=>?_,λj k d1 d2 hn q1 q2=>?_,by simp[h.ln],h.ex.upd (λj s q=>?_) z (λb us _ eb=>eb) λq us _ q0 hq hd=>?_⟩
    rotate_left 5
    .by_cases hs:s=.no
     .exact .inr (.inr (.inl hs))
     .exact .inl ⟨(nset j s q hs).2,rfl⟩
    .have hq':q≠a:=by
      intro zz;subst zz;exact hd i _ e k1
     exact⟨hq,by rw[ax hq'];exact q0⟩
    .by_cases hb:b=a
     .subst hb;rw[az]at q;cases q;exact h5
     .rw[ax hb]at q;exact h.g.sub _ _ q
    .by_cases hb:b=a
     .subst hb;exact k2
     .rw[ax hb]at q1;exact h.g.nw b q1 q2
    .obtain⟨hj,q⟩:=nset j _ q (λz=>nomatch z)
     obtain⟨v,q1,q2⟩:=h.rd j d' q;exact⟨v,q1,q2.mono z⟩
    .obtain⟨hj,q⟩:=nset j _ q (λz=>nomatch z)
     obtain⟨b,q1,q2,q3,q4⟩:=h.ow j d' q;have hb:b≠a:=by
      intro zz;subst zz;exact h.ap j i d' d hj q e (by rw[q1,k1])
     refine⟨b,q1,q2,by rw[ax hb];exact q3,?_⟩;cases d' with
     |lst ds'=>obtain⟨vs',h7,h8⟩:=q4;exact⟨vs',h7,h8.mono z⟩|dic ks' ds'=>obtain⟨vs',h7,hl,h8⟩:=q4;exact⟨vs',h7,hl,h8.mono z⟩
     |ob kk ds'=>
      cases kk with|dint ks'=>obtain⟨vs',h7,hl,h8⟩:=q4;exact⟨vs',h7,hl,h8.mono z⟩| _=>exact q4.elim
     |_=>exact q4.elim
    .obtain⟨_,q1⟩:=nset j _ q1 (λz=>nomatch z)
     obtain⟨_,q2⟩:=nset k _ q2 (λz=>nomatch z);exact h.ap j k d1 d2 hn q1 q2
   refine⟨_,z,?_⟩;have hp:=h'.put (i:=i) (d:=d) (v:=.ref a) (hrep _ z az);rw[List.set_set]at hp;have hσ:σ.set i (some (V.ref a))=σ:=by
    apply W3;intro k
    by_cases hk:i=k
    .subst hk
     obtain⟨hil,_⟩:=SR.mp k1;rw[TM hil,k1]
    .rw[SO hk]
   rw[hσ]at hp;exact hp
def rM(i:Nat)(h:DS X E He η st s):DS X E He η st (yG i s):=⟨cf h.o λD' σ H z9=>by
 obtain⟨Ha,ρ,hr,q⟩:=z9;obtain⟨Ha',z,hr'⟩:=hr.unown i;exact⟨Ha',DL.unown i ρ,hr',bT.grow (r:=s (DL.unown i ρ)) q z⟩⟩
end
def vW{X:Cx}{E:XK}{tgt iter elt:Tn}{ifs:List Tn}{scope:VN}{pos:Pos}(N:ci)(n:Nat)(fr:cr){src:Ev->ak (ac)}{tg:Ev->D->ak Ev}{tt fe:am}(hc:X.calm=true)(hi:DI X E tgt iter src)(hok:Kx n tg)
  (blk:∀s H C fp pn,(∀He η,DG (fK X N scope s H C fp pn) E He η tgt tg)/\QH (fK X N scope s H C fp pn) E ifs tt/\DE (fK X N scope s H C fp pn) E elt fe)
  (hfr:GZ X N n fr scope)(hcell:(scope.names.all λx=>!(x.2==.cell))=true)(hfree:(scope.names.all λx=>!(x.2==.free)||(X.env.scope.names.lookup x.1==some .cell))=true)(hkind:scope.kind=.function)
  (hnames:(scope.names.all λx=>!(x.2==.local)||(scope.names.lookup x.1==some .local))=true)
  (hs:∀x,foldedSetIterable iter X.env x=pure x:=by intro _;rfl):Ob X E (.ListComp elt [⟨tgt,iter,ifs,0⟩] scope pos) (eY n fr src tg tt fe):=by
 refine Sq N n fr hc hi hok blk hfr (λx hx z=>?_) (λx hx z=>?_) hkind (λx hx z=>?_) hs
 .have:=Tp.mp hcell x hx
  rw[z]at this;simp at this
 .have:=Tp.mp hfree x hx
  rw[z]at this;simpa using this
 .have:=Tp.mp hnames x hx
  rw[z]at this;simpa using this
def A7{X:Cx}{E:XK}{He η:Hp}{e:Tn}{f:am}{pos:Pos}{i:Nat}{x:SH}{pos':Pos}(hN:X.N.Nodup)(hi:X.N[i]?=some x)(hx:X.env.scope.names.lookup x=some .local)(hl:nB f)(he:Ob X E e f)(hs:T1 e (some (.Name x pos')) pos.line X.env=pure true:=by rfl):DS X E He η (.Assign [.Name x pos'] e pos) (aY i f):=by
 refine⟨cf (he.st hN hi hx hs) λD σ H ⟨Ha,ρ,h,q⟩=>?_⟩;refine wD hl ⟨Ha,ρ,h.g.sub,h.rd,?_⟩;refine plain h q λd v H' Ha' _ g rp q'=>?_;exact q' _ H' Ha' (aD.refl _) ((h.grow g).put rp)
end DL
namespace Com
open PySem L2 DL
noncomputable def kE:bv :=
 (aw (aY 2 (ao (ae (ag 0) (ae (af (aS (dC (.int 1)) Gy) (ag 0) pH) au)) (m2 Qf)))
 (aw (aY 3 (ag 2))
 (aw (mx 4 (ao au cY))
 (aw (qH (ao (ae (ag 1) au) (m1 cC)) (dz 5)
 (aw (eC (gh (af (ag 2) (af (dC (.int 10)) (dC (.int 18)) k7) NG) (af (ag 3) (dC (.int 0)) G7))
 (aw (cR 4 (af (ag 3) (af (ag 1) (ag 5) aH) dA))
 (aw (aY 3 (af (ag 3) (af (ag 1) (ag 5) aH) og))
 av))
 (aw (aY 6 (af (af (af (af (af (af (ag 2) (dC (.int 2147483647)) dA) (af (af (dC (.int 1009)) (ag 5) cW) (ag 5) cW) aZ) (af (dC (.int 31)) (ag 5) cW) aZ) (dC (.int 7)) aZ) (dC (.int 48271)) cW) (dC (.int 2147483629)) dA))
 (aw (aY 6 (af (af (af (af (af (ag 6) (ag 6) cW) (dC (.int 2147483647)) dA) (ag 5) aZ) (dC (.int 39373)) cW) (dC (.int 2147483587)) dA))
 (aw (cR 4 (af (af (ag 6) (dC (.int 8)) og) (af (ag 1) (ag 5) aH) dA))
 av))))
 av))
 (aw (bI (ag 4))
 av)))))
def bF:ac->ak D:=cq 7 kE
def f9:bv :=
 (aw (qG (qh 1) (af (ag 1) (dC (.int 0)) jC)
 (aw (yF 0 1 (ae (ag 1) (ae (af (ag 0) (ag 1) dA) au)))
 av))
 (aw (bI (ao (ae (ag 0) au) (m1 Kn)))
 av))
def eI:ac->ak D:=cq 2 f9
def gG:bv :=
 (aw (aY 2 (ao (ae (ag 0) (ae (ag 1) au)) eI))
 (aw (bI (ao (ae (af (ag 0) (ag 2) og) (ae (af (ag 1) (ag 2) og) au)) dE))
 av))
def bP:ac->ak D:=cq 3 gG
def wa:bv :=
 (aw (bI (gh (aS (ag 0) (dW "int")) (bV (aS (ag 0) (dW "bool")))))
 av)
def fT:ac->ak D:=cq 1 wa
def zI:bv :=
 (aw (bI (gh (aS (ag 0) (dW "int")) (bV (aS (ag 0) (dW "bool")))))
 av)
def m_is_whole:ac->ak D:=cq 1 zI
noncomputable def eW:bv :=
 (aw (aY 2 (ao (ae (ag 0) au) (m1 Kn)))
 (aw (aY 3 (ao (ae (ag 1) au) (m1 Kn)))
 (aw (qG (qh 3) (af (ag 3) (dC (.int 0)) jC)
 (aw (aY 4 (af (ag 2) (ag 3) dA))
 (aw (aY 2 (ag 3))
 (aw (aY 3 (ag 4))
 av))))
 (aw (bI (ag 2))
 av))))
def m_common_divisor:ac->ak D:=cq 5 eW
noncomputable def qo:bv :=
 (aw (eC (fE (bV (ao (ae (ag 0) au) m_is_whole)) (bV (ao (ae (ag 1) au) m_is_whole)))
 (aw fQ
 av)
 av)
 (aw (eC (af (ag 1) (dC (.int 0)) fN)
 (aw fQ
 av)
 av)
 (aw (aY 2 (ao (ae (ag 0) (ae (ag 1) au)) m_common_divisor))
 (aw (eC (af (ag 1) (dC (.int 0)) Gz)
 (aw (aY 2 (aS (ag 2) Gy))
 av)
 av)
 (aw (bI (ao (ae (af (ag 0) (ag 2) og) (ae (af (ag 1) (ag 2) og) au)) dE))
 av)))))
def m_ratio:ac->ak D:=cq 3 qo
def GG{α β:Type}{a:α}{f:α->ak β}:(ak.ok a).bind f=f a:=rfl
def eB{s t:bv}{ρ ρ':Ev}(h:s ρ=.ok (.nx ρ')):aw s t ρ=t ρ':=by unfold aw;rw[h];rfl
def qF{s t:bv}{ρ:Ev}{d:D}(h:s ρ=.ok (.rt d)):aw s t ρ=.ok (.rt d):=by unfold aw;rw[h];rfl
def kR{s:bv}{ρ ρ':Ev}(h:s ρ=.ok (.nx ρ')):aw s av ρ=.ok (.nx ρ'):=by unfold aw;rw[h];rfl
def nL{i:Nat}{f:am}{ρ:Ev}{d:D}(h:f ρ=.ok d):aY i f ρ=.ok (.nx (ρ.set i (.sh d))):=by unfold aY;rw[h];rfl
def qI{f:am}{ρ:Ev}{d:D}(h:f (ka ρ)=.ok d):bI f ρ=.ok (.rt d):=by unfold bI;rw[h];rfl
def Rn{c:am}{s t:bv}{ρ:Ev}(h:c (ka ρ)=.ok (.bl true)):eC c s t ρ=s ρ:=by unfold eC;rw[h];rfl
def Ji{c:am}{s t:bv}{ρ:Ev}(h:c (ka ρ)=.ok (.bl false)):eC c s t ρ=t ρ:=by unfold eC;rw[h];rfl
def vy{i j:Int}:jC (.int i) (.int j)=.ok (.bl (!(i==j))):=by unfold jC;rw[if_pos ⟨rfl,rfl⟩,cS]
def Gi{i j:Int}:fN (.int i) (.int j)=.ok (.bl (i==j)):=by unfold fN;rw[if_pos ⟨rfl,rfl⟩,cS]
def L6{n:Nat}{s:bv}{ds:ac}{d:D}(h:s (ds.map Sl.sh++S4 (n-ds.length) .no)=.ok (.rt d)):cq n s ds=.ok d:=by unfold cq;rw[h];rfl
def jY{f:am}{fa:Ev->ak (ac)}{ρ:Ev}{x:D}{xs:ac}(h:f ρ=.ok x)(h':fa ρ=.ok xs):ae f fa ρ=.ok (x::xs):=by unfold ae;rw[h,GG,h'];rfl
def bp{f g:am}{op:D->D->ak D}{ρ:Ev}{x y:D}(h:f ρ=.ok x)(h':g ρ=.ok y):af f g op ρ=op x y:=by unfold af;rw[h,GG,h'];rfl
def nj{fa:Ev->ak (ac)}{m:ac->ak D}{ρ:Ev}{xs:ac}(h:fa ρ=.ok xs):ao fa m ρ=m xs:=by unfold ao;rw[h];rfl
def kh{a b:Int}(h:b≠0):dA (.int a) (.int b)=.ok (.int (a.fmod b)):=by
 show(if decide (b≠0)=true then ak.ok (D.int (a.fmod b)) else .stuck)=_;rw[if_pos (decide_eq_true h)]
def nY{a b:Int}(h:kJ a b=true):og (.int a) (.int b)=.ok (.int (a.fdiv b)):=by
 show(if kJ a b=true then ak.ok (D.int (a.fdiv b)) else .stuck)=_;rw[if_pos h]
def nQ{a b:Int}(h:iG a b=true):cW (.int a) (.int b)=.ok (.int (a*b)):=by
 show(if iG a b=true then ak.ok (D.int (a*b)) else .stuck)=_;rw[if_pos h]
def xI(a b:Int):TN b (a.fmod b)=TN a b:=by
 rw[Int.fmod_def,Int.gcd_sub_mul_left_right,Int.gcd_comm]
def AQ{a b:Int}(h:b≠0):(a.fmod b).natAbs<b.natAbs:=by
 rcases Int.lt_or_gt_of_ne h with hb|hb
 .have h1:=WL (-a) (show 0 < -b by omega)
  have h2:=VP (-a) (show 0 < -b by omega);rw[Int.neg_fmod_neg]at h1 h2;omega
 .have h1:=WL a hb
  have h2:=VP a hb;omega
theorem m8:∀(n:Nat) (a b:Int),b.natAbs<n->∃g:Int,g.natAbs=TN a b /\
  fO (af (ag 1) (dC (.int 0)) jC) (aw (yF 0 1 (ae (ag 1) (ae (af (ag 0) (ag 1) dA) au))) av) n [.sh (.int a),.sh (.int b)]=.ok (.nx [.sh (.int g),.sh (.int 0)])
 |0,a,b,h=>absurd h (Nat.not_lt_zero _)
 |n+1,a,b,h=>by
  unfold fO;have c:(af (ag 1) (dC (.int 0)) jC) (ka [.sh (.int a),.sh (.int b)])=.ok (.bl (!(b==0))):=vy;rw[c]
  by_cases hb:b=0
  .subst hb
   exact⟨a,by simp,rfl⟩
  .have e:(!(b==0))=true:=by simp[hb]
   obtain⟨g,h1,h2⟩:=m8 n b (a.fmod b) (by have:=AQ (a:=a) hb;omega);refine⟨g,by rw[h1,xI],?_⟩;rw[←h2];rw[e];have st:(aw (yF 0 1 (ae (ag 1) (ae (af (ag 0) (ag 1) dA) au))) av) [.sh (.int a),.sh (.int b)]=.ok (.nx [.sh (.int b),.sh (.int (a.fmod b))]):=by
    refine kR ?_;unfold yF;have:(ae (ag 1) (ae (af (ag 0) (ag 1) dA) au)) [.sh (.int a),.sh (.int b)]=.ok [.int b,.int (a.fmod b)]:=by
     exact jY rfl (jY (kh hb) rfl)
    rw[this];rfl
   show(ak.bind _ _)=_;rw[st];rfl
def zv(a b:Int):eI [.int a,.int b]=.ok (.int (TN a b)):=by
 obtain⟨g,h1,h2⟩:=m8 (b.natAbs+1) a b (U0 _);have w:qG (qh 1) (af (ag 1) (dC (.int 0)) jC) (aw (yF 0 1 (ae (ag 1) (ae (af (ag 0) (ag 1) dA) au))) av) [.sh (.int a),.sh (.int b)]=.ok (.nx [.sh (.int g),.sh (.int 0)]):=h2;have r:f9 [.sh (.int a),.sh (.int b)]=.ok (.rt (.int (if g<0 then -g else g))):=by
  unfold f9;rw[eB w];exact qF (qI rfl)
 show(f9 [.sh (.int a),.sh (.int b)]).bind _=_;rw[r];show ak.ok (D.int (if g<0 then -g else g))=_
 congr 2
 rw[←h1];split<;>omega
theorem o7:∀(n:Nat) (x y:D) (a b:Int) (r:Sl),0<=a->0<=b->b.natAbs<n->∃r',
  fO (af (ag 3) (dC (.int 0)) jC) (aw (aY 4 (af (ag 2) (ag 3) dA)) (aw (aY 2 (ag 3)) (aw (aY 3 (ag 4)) av))) n [.sh x,.sh y,.sh (.int a),.sh (.int b),r]=.ok (.nx [.sh x,.sh y,.sh (.int (TN a b)),.sh (.int 0),r'])
 |0,_,_,a,b,_,_,_,h=>absurd h (Nat.not_lt_zero _)
 |n+1,x,y,a,b,r,ha,hb0,h=>by
  unfold fO;have c:∀r,(af (ag 3) (dC (.int 0)) jC) (ka [.sh x,.sh y,.sh (.int a),.sh (.int b),r])=.ok (.bl (!(b==0))):=λr=>vy;rw[c]
  by_cases hb:b=0
  .subst hb
   refine⟨r,?_⟩;have e:((TN a 0:Nat):Int)=a:=by simp;omega
   rw[e];rfl
  .have e:(!(b==0))=true:=by simp[hb]
   have hp:0<b:=by omega
   obtain⟨r',h2⟩:=o7 n x y b (a.fmod b) (.sh (.int (a.fmod b))) hb0 (VP a hp) (by have:=AQ (a:=a) hb;omega);refine⟨r',?_⟩;rw[xI]at h2;rw[←h2,e];have st:(aw (aY 4 (af (ag 2) (ag 3) dA)) (aw (aY 2 (ag 3)) (aw (aY 3 (ag 4)) av))) [.sh x,.sh y,.sh (.int a),.sh (.int b),r]=.ok (.nx [.sh x,.sh y,.sh (.int b),.sh (.int (a.fmod b)),.sh (.int (a.fmod b))]):=by
    have m:(af (ag 2) (ag 3) dA) [.sh x,.sh y,.sh (.int a),.sh (.int b),r]=.ok (.int (a.fmod b)):=by
     exact kh hb
    rw[eB (nL m)];rfl
   show(ak.bind _ _)=_;rw[st];rfl
def oi(a b:Int):m_common_divisor [.int a,.int b]=.ok (.int (TN a b)):=by
 have e:∀i:Int,(if i<0 then -i else i)=(i.natAbs:Int):=λi=>by split<;>omega
 obtain⟨r',h⟩:=o7 ((b.natAbs:Int).natAbs+1) (.int a) (.int b) a.natAbs b.natAbs .no (V8 _) (V8 _) (U0 _);have hg:TN (a.natAbs:Int) (b.natAbs:Int)=TN a b:=by simp[TN]
 rw[hg]at h;have r:eW [.sh (.int a),.sh (.int b),.no,.no,.no]=.ok (.rt (.int (TN a b))):=by
  unfold eW;rw[eB (ρ':=[.sh (.int a),.sh (.int b),.sh (.int (a.natAbs:Int)),.no,.no]) (by rw[←e a];rfl)];rw[eB (ρ':=[.sh (.int a),.sh (.int b),.sh (.int (a.natAbs:Int)),.sh (.int (b.natAbs:Int)),.no]) (by rw[←e b];rfl)];have w:qG (qh 3) (af (ag 3) (dC (.int 0)) jC) (aw (aY 4 (af (ag 2) (ag 3) dA)) (aw (aY 2 (ag 3)) (aw (aY 3 (ag 4)) av))) [.sh (.int a),.sh (.int b),.sh (.int (a.natAbs:Int)),.sh (.int (b.natAbs:Int)),.no]=.ok (.nx [.sh (.int a),.sh (.int b),.sh (.int (TN a b)),.sh (.int 0),r']):=h;rw[eB w];exact qF (qI rfl)
 show(eW [.sh (.int a),.sh (.int b),.no,.no,.no]).bind _=_;rw[r];rfl
def NQ{f g:am}{ρ:Ev}{b c:Bool}(h:f ρ=.ok (.bl b))(h':g ρ=.ok (.bl c)):gh f g ρ=.ok (.bl (b&&c)):=by
 unfold gh;rw[h,GG];cases b
 .rfl
 .exact h'
def yN:(2:Nat) ^ 64<=KG:=by rw[zQ];exact Ur (by decide) (by decide)
def Pk{i:Int}(h:i.natAbs<18446744073709551616):i.natAbs<KG:=SU h yN
def fS{i j:Int}(h:i.natAbs<18446744073709551616)(h':j.natAbs<18446744073709551616):iG i j=true:=by
 unfold iG;rw[SX];exact⟨decide_eq_true (Pk h),decide_eq_true (Pk h')⟩
def MB{i j:Int}(h:i.natAbs<KG)(h':j.natAbs<KG):iG i j=true:=by
 unfold iG;rw[SX];exact⟨decide_eq_true h,decide_eq_true h'⟩
def Gr{i j:Int}(h0:j≠0)(h:j.natAbs<B9):kJ i j=true:=by
 unfold kJ;rw[SX,Wv];exact⟨decide_eq_true h0,.inl (decide_eq_true h)⟩
def vT{i j:Int}(h0:j≠0)(h:i.natAbs<wj):kJ i j=true:=by
 unfold kJ;rw[SX,Wv];exact⟨decide_eq_true h0,.inr (decide_eq_true h)⟩
def Cg:(2:Nat) ^ 64<=B9:=by rw[Bq];exact Ur (by decide) (by decide)
def Sk{i:Int}(h:i.natAbs<18446744073709551616):i.natAbs<B9:=SU h Cg
def jy{ds:ac}{k:Nat}{d:D}(h:ds[k]?=some d):aH (.lst ds) (.int (k:Int))=.ok d:=by
 unfold aH;simp only[cT h]
noncomputable def jg:bv :=
 (aw (eC (gh (af (ag 2) (af (dC (.int 10)) (dC (.int 18)) k7) NG) (af (ag 3) (dC (.int 0)) G7))
 (aw (cR 4 (af (ag 3) (af (ag 1) (ag 5) aH) dA))
 (aw (aY 3 (af (ag 3) (af (ag 1) (ag 5) aH) og))
 av))
 (aw (aY 6 (af (af (af (af (af (af (ag 2) (dC (.int 2147483647)) dA) (af (af (dC (.int 1009)) (ag 5) cW) (ag 5) cW) aZ) (af (dC (.int 31)) (ag 5) cW) aZ) (dC (.int 7)) aZ) (dC (.int 48271)) cW) (dC (.int 2147483629)) dA))
 (aw (aY 6 (af (af (af (af (af (ag 6) (ag 6) cW) (dC (.int 2147483647)) dA) (ag 5) aZ) (dC (.int 39373)) cW) (dC (.int 2147483587)) dA))
 (aw (cR 4 (af (af (ag 6) (dC (.int 8)) og) (af (ag 1) (ag 5) aH) dA))
 av))))
 av)
def GI{i:Nat}{f:am}{ρ:Ev}{d:D}{ds:ac}(hi:ρ[i]?=some (.ow (.lst ds)))(h:f ρ=.ok d)(hl:ds.length<line):cR i f ρ=.ok (.nx (ρ.set i (.ow (.lst (ds++[d]))))):=by
 unfold cR xg;rw[hi];show(f ρ).bind _=_;rw[h,GG,if_pos hl]
def kI{a b:Int}(hb:0<b):0<=a.fmod b/\a.fmod b<b:=⟨VP a hb,WL a hb⟩
def zx{c:D}{sz:List Int}{num left:Int}{F:ac}{k:Nat}{one:Sl}{s:Int}(hk:sz[k]?=some s)(hs:0<s)(h9:s.natAbs<B9)(hk2:k<1000)(hl:F.length<line)(h0:0<=left) :
  ∃v left' one',0<=v/\v<s/\0<=left'/\jg [.sh c,.sh (.lst (sz.map D.int)),.sh (.int num),.sh (.int left),.ow (.lst F),.sh (.int (k:Int)),one] =
   .ok (.nx [.sh c,.sh (.lst (sz.map D.int)),.sh (.int num),.sh (.int left'),.ow (.lst (F++[.int v])),.sh (.int (k:Int)),one']):=by
 have hix:aH (.lst (sz.map D.int)) (.int (k:Int))=.ok (.int s):=jy (by rw[Ta,hk];rfl);have hc:(gh (af (ag 2) (af (dC (.int 10)) (dC (.int 18)) k7) NG) (af (ag 3) (dC (.int 0)) G7)) (ka [.sh c,.sh (.lst (sz.map D.int)),.sh (.int num),.sh (.int left),.ow (.lst F),.sh (.int (k:Int)),one])=.ok (.bl (decide ((10:Int) ^ (18:Int).toNat<=num)&&decide (0<left))):=by
  refine NQ ?_ ?_
  .exact(bp (x:=.int num) (y:=.int ((10:Int) ^ (18:Int).toNat)) rfl rfl).trans rfl
  .exact(bp (x:=.int left) (y:=.int 0) rfl rfl).trans rfl
 have hm:=kI (a:=left) hs;unfold jg;cases hb:(decide ((10:Int) ^ (18:Int).toNat<=num)&&decide (0<left)) with
 |true=>
  rw[hb]at hc;refine⟨left.fmod s,left.fdiv s,one,hm.1,hm.2,Int.fdiv_nonneg h0 (by omega),?_⟩;refine kR ?_;rw[Rn hc];rw[eB (GI (ds:=F) (d:=.int (left.fmod s)) rfl ((bp (x:=.int left) (y:=.int s) rfl ((bp (x:=.lst (sz.map D.int)) (y:=.int (k:Int)) rfl rfl).trans hix)).trans (kh (by omega))) hl)];exact kR (nL (d:=.int (left.fdiv s)) ((bp (x:=.int left) (y:=.int s) rfl ((bp (x:=.lst (sz.map D.int)) (y:=.int (k:Int)) rfl rfl).trans hix)).trans (nY (Gr (by omega) h9))))
 |false=>
  rw[hb]at hc;have hkk:(k:Int)*(k:Int)<1000000:=by
   have:k*k<1000*1000:=Nat.mul_lt_mul'' hk2 hk2;omega
  have hkn:(0:Int)<=(k:Int)*(k:Int):=Xo (by omega) (by omega);have a1:=kI (a:=num) (b:=2147483647) (by decide);have hone1:((num.fmod 2147483647+1009*(k:Int)*(k:Int)+31*(k:Int)+7)*48271).fmod 2147483629=((num.fmod 2147483647+1009*(k:Int)*(k:Int)+31*(k:Int)+7)*48271).fmod 2147483629:=rfl;generalize ho:((num.fmod 2147483647+1009*(k:Int)*(k:Int)+31*(k:Int)+7)*48271).fmod 2147483629=o1;have a2:0<=o1/\o1<2147483629:=by rw[←ho];exact kI (by decide)
  have hoo:o1*o1<4611686018427387904:=by
   have h1:o1*o1<=2147483628*2147483628:=Int.mul_le_mul (by omega) (by omega) a2.1 (by decide);omega
  have hoo0:0<=o1*o1:=Xo a2.1 a2.1;generalize ho2:(((o1*o1).fmod 2147483647+(k:Int))*39373).fmod 2147483587=o2;have a3:0<=o2/\o2<2147483587:=by rw[←ho2];exact kI (by decide)
  have hm2:=kI (a:=o2.fdiv 8) hs;refine⟨(o2.fdiv 8).fmod s,left,.sh (.int o2),hm2.1,hm2.2,h0,?_⟩;refine kR ?_;rw[Ji hc];have ea:(1009:Int)*(k:Int)*(k:Int)=1009*((k:Int)*(k:Int)):=Int.mul_assoc _ _ _;have e1:(af (af (af (af (af (af (ag 2) (dC (.int 2147483647)) dA) (af (af (dC (.int 1009)) (ag 5) cW) (ag 5) cW) aZ) (af (dC (.int 31)) (ag 5) cW) aZ) (dC (.int 7)) aZ) (dC (.int 48271)) cW) (dC (.int 2147483629)) dA)
    [.sh c,.sh (.lst (sz.map D.int)),.sh (.int num),.sh (.int left),.ow (.lst F),.sh (.int (k:Int)),one]=.ok (.int o1):=by
   rw[←ho];refine(bp (x:=.int ((num.fmod 2147483647+1009*(k:Int)*(k:Int)+31*(k:Int)+7)*48271)) (y:=.int 2147483629) ?_ rfl).trans (kh (by decide));refine(bp (x:=.int (num.fmod 2147483647+1009*(k:Int)*(k:Int)+31*(k:Int)+7)) (y:=.int 48271) ?_ rfl).trans (nQ (fS (by omega) (by decide)));refine(bp (x:=.int (num.fmod 2147483647+1009*(k:Int)*(k:Int)+31*(k:Int))) (y:=.int 7) ?_ rfl).trans rfl;refine(bp (x:=.int (num.fmod 2147483647+1009*(k:Int)*(k:Int))) (y:=.int (31*(k:Int))) ?_ ?_).trans rfl
   .refine(bp (x:=.int (num.fmod 2147483647)) (y:=.int (1009*(k:Int)*(k:Int))) ?_ ?_).trans rfl
    .exact(bp (x:=.int num) (y:=.int 2147483647) rfl rfl).trans (kh (by decide))
    .refine(bp (x:=.int (1009*(k:Int))) (y:=.int (k:Int)) ?_ rfl).trans (nQ (fS (by omega) (by omega)))
     exact(bp (x:=.int 1009) (y:=.int (k:Int)) rfl rfl).trans (nQ (fS (by decide) (by omega)))
   .exact(bp (x:=.int 31) (y:=.int (k:Int)) rfl rfl).trans (nQ (fS (by decide) (by omega)))
  rw[eB (nL e1)];have a4:=kI (a:=o1*o1) (b:=2147483647) (by decide);have e2:(af (af (af (af (af (ag 6) (ag 6) cW) (dC (.int 2147483647)) dA) (ag 5) aZ) (dC (.int 39373)) cW) (dC (.int 2147483587)) dA)
    [.sh c,.sh (.lst (sz.map D.int)),.sh (.int num),.sh (.int left),.ow (.lst F),.sh (.int (k:Int)),.sh (.int o1)]=.ok (.int o2):=by
   rw[←ho2];refine(bp (x:=.int (((o1*o1).fmod 2147483647+(k:Int))*39373)) (y:=.int 2147483587) ?_ rfl).trans (kh (by decide));refine(bp (x:=.int ((o1*o1).fmod 2147483647+(k:Int))) (y:=.int 39373) ?_ rfl).trans (nQ (fS (by omega) (by decide)));refine(bp (x:=.int ((o1*o1).fmod 2147483647)) (y:=.int (k:Int)) ?_ rfl).trans rfl;refine(bp (x:=.int (o1*o1)) (y:=.int 2147483647) ?_ rfl).trans (kh (by decide));exact(bp (x:=.int o1) (y:=.int o1) rfl rfl).trans (nQ (fS (by omega) (by omega)))
  refine(eB (nL e2)).trans ?_;refine kR (GI (ds:=F) (d:=.int ((o2.fdiv 8).fmod s)) rfl ?_ hl);refine(bp (x:=.int (o2.fdiv 8)) (y:=.int s) ?_ ((bp (x:=.lst (sz.map D.int)) (y:=.int (k:Int)) rfl rfl).trans hix)).trans (kh (by omega));exact(bp (x:=.int o2) (y:=.int 8) rfl rfl).trans (nY (Gr (by decide) (Sk (by decide))))
def uw{n k:Nat}(h:k<n):(DL.intsFrom 0 n).drop k=.int (k:Int)::(DL.intsFrom 0 n).drop (k+1):=by
 have hl:(DL.intsFrom 0 n).length=n:=by unfold DL.intsFrom;simp
 rw[T7 (by rw[hl];exact h)]
 congr 1
 unfold DL.intsFrom;simp
def xE{n:Nat}:(DL.intsFrom 0 n).drop n=[]:=by
 have hl:(DL.intsFrom 0 n).length=n:=by unfold DL.intsFrom;simp
 exact List.drop_eq_nil_of_le (by omega)
def qj{tg:Ev->D->ak Ev}{s:bv}{d:D}{r:ac}{ρ ρ1 ρ2:Ev}(h1:tg ρ d=.ok ρ1)(h2:s ρ1=.ok (.nx ρ2)):cN tg s (d::r) ρ=cN tg s r ρ2:=by
 rw[cN,h1,GG,h2,GG]
theorem oY{c:D}{sz:List Int}{num:Int}(hz:∀s∈sz,0<s/\s.natAbs<B9)(hn:sz.length<=1000):∀(j k:Nat),k+j=sz.length->∀(left:Int) (F:List Int) (x one:Sl),0<=left->F.length=k->(∀(i:Nat) (v s:Int),F[i]?=some v->sz[i]?=some s->0<=v/\v<s) ->
  ∃(left':Int) (F':List Int) (x' one':Sl),F'.length=sz.length/\(∀(i:Nat) (v s:Int),F'[i]?=some v->sz[i]?=some s->0<=v/\v<s) /\
   cN (dz 5) jg ((DL.intsFrom 0 sz.length).drop k) [.sh c,.sh (.lst (sz.map D.int)),.sh (.int num),.sh (.int left),.ow (.lst (F.map D.int)),x,one] =
    .ok (.nx [.sh c,.sh (.lst (sz.map D.int)),.sh (.int num),.sh (.int left'),.ow (.lst (F'.map D.int)),x',one'])
 |0,k,hk,left,F,x,one,h0,hF,hb=>by
  refine⟨left,F,x,one,by omega,hb,?_⟩;have:k=sz.length:=by omega
  rw[this,xE];rfl
 |j+1,k,hk,left,F,x,one,h0,hF,hb=>by
  have hlt:k<sz.length:=by omega
  have hs:=hz _ (VW hlt);obtain⟨v,left',one',v0,v1,l0,e⟩:=zx (c:=c) (num:=num) (F:=F.map D.int) (one:=one) (SS hlt) hs.1 hs.2 (by omega) (by rw[SD,hF];exact SU hlt (SW hn (by decide))) h0;have hb':∀(i:Nat) (v' s:Int),(F++[v])[i]?=some v'->sz[i]?=some s->0<=v'/\v' < s:=by
   intro i v' s h1 h2
   by_cases hi:i<F.length
   .rw[Tg hi]at h1
    exact hb i v' s h1 h2
   .rw[To (by omega)]at h1
    have hi2:i-F.length=0:=by
     cases hq:i-F.length with|zero=>rfl|succ m=>rw[hq]at h1;simp at h1
    rw[hi2]at h1;have hik:i=k:=by omega
    subst hik;rw[SS hlt]at h2;cases h1;cases h2;exact⟨v0,v1⟩
  obtain⟨left2,F2,x2,one2,p1,p2,p3⟩:=oY hz hn j (k+1) (by omega) left' (F++[v]) (.sh (.int (k:Int))) one' l0 (by simp[hF]) hb';refine⟨left2,F2,x2,one2,p1,p2,?_⟩;rw[uw hlt,qj (ρ1:=[.sh c,.sh (.lst (sz.map D.int)),.sh (.int num),.sh (.int left),.ow (.lst (F.map D.int)),.sh (.int (k:Int)),one]) rfl e];rw[←p3,T3];rfl
def Gq(c:Int)(sz:List Int)(hz:∀s∈sz,0<s/\s.natAbs<B9)(hn:sz.length<=1000) :
  ∃vs:List Int,vs.length=sz.length/\(∀(i:Nat) (v s:Int),vs[i]?=some v->sz[i]?=some s->0<=v/\v<s)/\bF [.int c,.lst (sz.map D.int)]=.ok (.lst (vs.map D.int)):=by
 generalize hnum:(if -1-c > c then -1-c else c)=num;have hn0:0<=num:=by rw[←hnum];split<;>omega
 obtain⟨left',F',x',one',p1,p2,p3⟩:=oY (c:=.int c) (num:=num) hz hn sz.length 0 (by omega) num [] .no .no hn0 rfl (λi v s h=>by simp at h);refine⟨F',p1,p2,?_⟩;have r:kE [.sh (.int c),.sh (.lst (sz.map D.int)),.no,.no,.no,.no,.no]=.ok (.rt (.lst (F'.map D.int))):=by
  unfold kE;rw[eB (ρ':=[.sh (.int c),.sh (.lst (sz.map D.int)),.sh (.int num),.no,.no,.no,.no]) (by rw[←hnum];rfl)];rw[eB (ρ':=[.sh (.int c),.sh (.lst (sz.map D.int)),.sh (.int num),.sh (.int num),.no,.no,.no]) rfl];rw[eB (ρ':=[.sh (.int c),.sh (.lst (sz.map D.int)),.sh (.int num),.sh (.int num),.ow (.lst []),.no,.no]) rfl];have w:(qH (ao (ae (ag 1) au) (m1 cC)) (dz 5) jg) [.sh (.int c),.sh (.lst (sz.map D.int)),.sh (.int num),.sh (.int num),.ow (.lst []),.no,.no] =
    .ok (.nx [.sh (.int c),.sh (.lst (sz.map D.int)),.sh (.int num),.sh (.int left'),.ow (.lst (F'.map D.int)),x',one']):=by
   unfold qH;have hlen:(ao (ae (ag 1) au) (m1 cC)) (ka [.sh (.int c),.sh (.lst (sz.map D.int)),.sh (.int num),.sh (.int num),.ow (.lst []),.no,.no])=.ok (.int (sz.length:Int)):=by
    show ak.ok (D.int ((sz.map D.int).length:Int))=_;rw[SD]
   rw[hlen,GG];show(if _ then _ else _)=_;rw[if_pos (by omega)];rw[←p3];rfl
  exact(eB w).trans (qF (qI rfl))
 exact L6 (n:=7) (ds:=[.int c,.lst (sz.map D.int)]) r
def Pr:D->Bool
 |.int _=>true
 |_=>false
def ja(d:D):m_is_whole [d]=.ok (.bl (Pr d)):=by cases d<;>first|rfl|(rename_i k _;cases k<;>rfl)
def mY{a g:Int}(hg:0<g):a.fdiv g=a / g:=Int.fdiv_eq_ediv_of_nonneg a (by omega)
def qg{a b:Int}(h:b≠0):0<(TN a b:Int):=by
 have:=Int.gcd_pos_of_ne_zero_right a h;omega
def CA{a b:Int}(hb:0<b)(h1:a.natAbs<wj)(h2:b.natAbs<wj):bP [.int a,.int b]=.ok (.tup [.int (a / TN a b),.int (b / TN a b)]):=by
 have hg:=qg (a:=a) (b:=b) (by omega);have r:gG [.sh (.int a),.sh (.int b),.no]=.ok (.rt (.tup [.int (a / TN a b),.int (b / TN a b)])):=by
  unfold gG;rw[eB (ρ':=[.sh (.int a),.sh (.int b),.sh (.int (TN a b))]) (nL ((nj (xs:=[.int a,.int b]) rfl).trans (zv a b)))];refine qF (qI ?_);refine(nj (xs:=[.int (a / TN a b),.int (b / TN a b)]) (jY ?_ (jY ?_ rfl))).trans rfl
  .rw[←mY hg]
   exact(bp (x:=.int a) (y:=.int (TN a b)) rfl rfl).trans (nY (vT (by omega) h1))
  .rw[←mY hg]
   exact(bp (x:=.int b) (y:=.int (TN a b)) rfl rfl).trans (nY (vT (by omega) h2))
 show(gG [.sh (.int a),.sh (.int b),.no]).bind _=_;rw[r];rfl
def Er{a b:Int}(hb:0<b)(h1:a.natAbs<wj)(h2:b.natAbs<wj):m_ratio [.int a,.int b]=.ok (.tup [.int (a / TN a b),.int (b / TN a b)]):=by
 have hg:=qg (a:=a) (b:=b) (by omega);have r:qo [.sh (.int a),.sh (.int b),.no]=.ok (.rt (.tup [.int (a / TN a b),.int (b / TN a b)])):=by
  unfold qo;rw[eB (ρ':=[.sh (.int a),.sh (.int b),.no]) (Ji (t:=av) rfl)];rw[eB (ρ':=[.sh (.int a),.sh (.int b),.no]) (Ji (t:=av) ((bp (x:=.int b) (y:=.int 0) rfl rfl).trans (Gi.trans (by rw[beq_eq_false_iff_ne.mpr (by omega)]))))];rw[eB (ρ':=[.sh (.int a),.sh (.int b),.sh (.int (TN a b))]) (nL ((nj (xs:=[.int a,.int b]) rfl).trans (oi a b)))];rw[eB (ρ':=[.sh (.int a),.sh (.int b),.sh (.int (TN a b))]) (Ji (t:=av) (by
   show ak.ok (D.bl (decide (b<0)))=_;rw[decide_eq_false (by omega)]))]
  refine qF (qI ?_);refine(nj (xs:=[.int (a / TN a b),.int (b / TN a b)]) (jY ?_ (jY ?_ rfl))).trans rfl
  .rw[←mY hg]
   exact(bp (x:=.int a) (y:=.int (TN a b)) rfl rfl).trans (nY (vT (by omega) h1))
  .rw[←mY hg]
   exact(bp (x:=.int b) (y:=.int (TN a b)) rfl rfl).trans (nY (vT (by omega) h2))
 show(qo [.sh (.int a),.sh (.int b),.no]).bind _=_;rw[r];rfl
def Rt(p q:Int):D:=.tup [.int p,.int q]
end Com
open Com
namespace Com
open PySem L2 DL
abbrev kO:=Int×Int
def fr(x:kO):D:=Rt x.1 x.2
def dH:Nat:=1000000000000000000000000000000000000000000000000000000000000
def NY:dH<=B9:=by rw[Bq];exact SW (show dH<=2 ^ 200 by decide) (Ur (by decide) (by decide))
def we:dH<=wj:=by rw[wg];exact SW (show dH<=2 ^ 200 by decide) (Ur (by decide) (by decide))
def Br:wj<=KG:=by rw[wg,zQ];exact Ur (by decide) (by decide)
structure Low (x:kO):Prop where
 q1:1<=x.2
 g1:TN x.1 x.2=1
structure eA (x:kO):Prop extends Low x where
 pN:x.1.natAbs<dH
 qN:x.2.natAbs<dH
def vC(a b:Int):kO:=(a / TN a b,b / TN a b)
def pY{a b:Int}(hb:0<b):Low (vC a b):=by
 have hg:=qg (a:=a) (b:=b) (by omega);refine⟨?_,Int.gcd_ediv_gcd_ediv_gcd (by omega)⟩;have:=Int.ediv_gcd_ne_zero_if_ne_zero_right a (show b≠0 by omega);have h2:0<=b / (TN a b:Int):=VE (by omega) (by omega);show 1<=b / (TN a b:Int);omega
def IV{a b:Int}:(vC a b).1*b=a*(vC a b).2:=by
 unfold vC;obtain⟨x,hx⟩:=Int.gcd_dvd_left a b;obtain⟨y,hy⟩:=Int.gcd_dvd_right a b
 by_cases hg:(TN a b:Int)=0
 .simp only[hg,Int.ediv_zero,Int.zero_mul,Int.mul_zero]
 .generalize hG:(TN a b:Int)=G at *
  have e1:a / G=x:=by rw[hx];exact Xx x hg
  have e2:b / G=y:=by rw[hy];exact Xx y hg
  show a / G*b=a*(b / G);rw[e1,e2]
  calc x*b=x*(G*y):=by rw[←hy]
   _=G*x*y:=by grind
   _=a*y:=by rw[←hx]
def vB{a b:Int}:(vC a b).1.natAbs<=a.natAbs:=Xr _ _
def vA{a b:Int}:(vC a b).2.natAbs<=b.natAbs:=Xr _ _
def nR{a b:Int}(hb:0<b)(h1:a.natAbs<wj)(h2:b.natAbs<wj):bP [.int a,.int b]=.ok (fr (vC a b)):=CA hb h1 h2
def Ep{a b:Int}(hb:0<b)(h1:a.natAbs<wj)(h2:b.natAbs<wj):m_ratio [.int a,.int b]=.ok (fr (vC a b)):=Er hb h1 h2
def Po{a b:Int}(hb:0<b)(h1:a.natAbs<dH)(h2:b.natAbs<dH):eA (vC a b):=⟨pY hb,T2 vB h1,T2 vA h2⟩
def NO{α:Type}{xs:List α}{k:Int}(h0:0<=k)(h1:k<xs.length):∃x∈xs,atI xs k=some x:=by
 obtain⟨n,rfl⟩:=Uj h0;have hn:n<xs.length:=by omega
 exact⟨xs[n],VW hn,cT (SS hn)⟩
def MO{ds:ac}{k:Int}(h0:0<=k)(h1:k<ds.length):∃d∈ds,aH (.lst ds) (.int k)=.ok d:=by
 obtain⟨d,hd,e⟩:=NO h0 h1;exact⟨d,hd,by unfold aH;simp only[e]⟩
def aU{α:Type}{a b:α}(h:a=b):a=b:=h
def LY(t:bv)(r:Fl):ak Fl:=match r with
 |.nx ρ'=>t ρ'
 |r=>.ok r
def HV(i:Nat)(ρ:Ev)(d:D):ak Fl:=.ok (.nx (ρ.set i (.sh d)))
def OP(d:D):ak Fl:=.ok (.rt d)
def Lf(ρ:Ev)(_:D):ak Fl:=.ok (.nx ρ)
def Ro(s t:bv)(ρ:Ev)(x:D):ak Fl:=match x with
 |.bl b=>if b=true then s ρ else t ρ
 |_=>.stuck
def Pa(i:Nat)(ρ:Ev)(d:D):ak Fl:=match d with
 |.lst ds=>.ok (.nx (ρ.set i (.ow (.lst ds))))
 |_=>.stuck
def Mr(s:Option Sl)(k:ac->ak Fl):ak Fl:=match s with
 |some (.ow (.lst ds))=>k ds
 |_=>.stuck
def Qi(i:Nat)(ρ:Ev)(ds:ac)(d:D):ak Fl:=if ds.length<line then .ok (.nx (ρ.set i (.ow (.lst (ds++[d]))))) else .stuck
def HC(is:cr)(ρ:Ev)(d:D):ak Fl:=match gB is.length d with
 |some ds=>.ok (.nx (fz ρ is ds))
 |none=>.stuck
def k2(g:am)(op:D->D->ak D)(ρ:Ev)(x:D):ak D:=(g ρ).bind (op x)
def zD(x:D)(xs:ac):ak (ac):=.ok (x::xs)
def Li(fa:Ev->ak (ac))(ρ:Ev)(x:D):ak (ac):=(fa ρ).bind (zD x)
def NS(g:am)(ρ:Ev)(x:D):ak D:=match x with
 |.bl true=>g ρ
 |.bl false=>.ok (.bl false)
 |_=>.stuck
def Rh(g:am)(ρ:Ev)(x:D):ak D:=match x with
 |.bl true=>.ok (.bl true)
 |.bl false=>g ρ
 |_=>.stuck
def Pe(x:D):ak D:=match x with
 |.bl b=>.ok (.bl (!b))
 |_=>.stuck
def MP(f g:am)(ρ:Ev)(x:D):ak D:=match x with
 |.bl true=>f ρ
 |.bl false=>g ρ
 |_=>.stuck
def Oi(s:Option Sl):ak D:=match s with
 |some (.sh d)=>.ok d
 |_=>.stuck
def wJ(s:Sl):Sl:=match s with
 |.ow d=>.sh d
 |.ox _ ds=>.sh (.tup ds)
 |x=>x
def Eh(r:Fl):ak D:=match r with
 |.nx _=>.ok .non
 |.rt d=>.ok d
 |_=>.stuck
def RT(x:D):ak (Option Int):=match x with
 |.int i=>.ok (some i)
 |_=>.stuck
def jF(x:D)(l:Option Int)(h:Option Int):ak D:=nH x l h
def Q3(hi:Ev->ak (Option Int))(ρ:Ev)(x:D)(l:Option Int):ak D:=(hi ρ).bind (jF x l)
def ON(lo hi:Ev->ak (Option Int))(ρ:Ev)(x:D):ak D:=(lo ρ).bind (Q3 hi ρ x)
def PF(tg:Ev->D->ak Ev)(s:bv)(ρ:Ev)(d:D):ak Fl:=match d with
 |.lst ds=>cN tg s ds ρ
 |_=>.stuck
def Ko(op':D->D->ak D)(h:am)(ρ:Ev)(y z:D):ak D:=match z with
 |.bl true=>(h ρ).bind (op' y)
 |.bl false=>.ok (.bl false)
 |_=>.stuck
def NJ(op op':D->D->ak D)(h:am)(ρ:Ev)(x y:D):ak D:=(op x y).bind (Ko op' h ρ y)
def RX(op op':D->D->ak D)(g h:am)(ρ:Ev)(x:D):ak D:=(g ρ).bind (NJ op op' h ρ x)
section
variable {s t:bv}{f g h:am}{fa:Ev->ak (ac)}{ρ r:Ev}{i j:Nat}{d x y:D}{ds xs:ac}{op op':D->D->ak D}{a b:Int}
def je{α β:Type}{a:α}{k:α->ak β}:(ak.ok a).bind k=k a:=aU rfl
def zp:aw s t ρ=(s ρ).bind (LY t):=aU rfl
def AX:LY t (.nx ρ)=t ρ:=aU rfl
def JG:LY t (.rt d)=.ok (.rt d):=aU rfl
def JO:av ρ=.ok (.nx ρ):=aU rfl
def F6:aY i f ρ=(f ρ).bind (HV i ρ):=aU rfl
def JF:HV i ρ d=.ok (.nx (ρ.set i (.sh d))):=aU rfl
def M6:bI f ρ=(f (ka ρ)).bind OP:=aU rfl
def JJ:OP d=.ok (.rt d):=aU rfl
def J7:kG f ρ=(f (ka ρ)).bind (Lf ρ):=aU rfl
def Gd:Lf ρ d=.ok (.nx ρ):=aU rfl
def PZ:eC f s t ρ=(f (ka ρ)).bind (Ro s t ρ):=aU rfl
def Ni:Ro s t ρ (.bl true)=s ρ:=aU rfl
def Nh:Ro s t ρ (.bl false)=t ρ:=aU rfl
def M7:mx i f ρ=(f ρ).bind (Pa i ρ):=aU rfl
def JM:Pa i ρ (.lst ds)=.ok (.nx (ρ.set i (.ow (.lst ds)))):=aU rfl
def Nu:cR i f ρ=Mr ρ[i]? λds=>(f ρ).bind (Qi i ρ ds):=aU rfl
def JL{k:ac->ak Fl}:Mr (some (.ow (.lst ds))) k=k ds:=aU rfl
def qk(h:decide (ds.length<=999)=true):Qi i ρ ds d=.ok (.nx (ρ.set i (.ow (.lst (ds++[d]))))):=if_pos (T2 (of_decide_eq_true h) (by decide))
def Nj:yG i s ρ=s (unown i ρ):=aU rfl
def MV{is:cr}:HW is f ρ=(f ρ).bind (HC is ρ):=aU rfl
def Qb{o:D->ak D}:aS f o ρ=(f ρ).bind o:=aU rfl
def Qa:af f g op ρ=(f ρ).bind (k2 g op ρ):=aU rfl
def Nt:k2 g op ρ x=(g ρ).bind (op x):=aU rfl
def P9{m:ac->ak D}:ao fa m ρ=(fa ρ).bind m:=aU rfl
def Nc:au ρ=.ok []:=aU rfl
def J8:ae f fa ρ=(f ρ).bind (Li fa ρ):=aU rfl
def Gf:Li fa ρ x=(fa ρ).bind (zD x):=aU rfl
def Ge:zD x xs=.ok (x::xs):=aU rfl
def Nv:gh f g ρ=(f ρ).bind (NS g ρ):=aU rfl
def Kb:NS g ρ (.bl true)=g ρ:=aU rfl
def Ka:NS g ρ (.bl false)=.ok (.bl false):=aU rfl
def PR:fE f g ρ=(f ρ).bind (Rh g ρ):=aU rfl
def Na:Rh g ρ (.bl true)=.ok (.bl true):=aU rfl
def M9:Rh g ρ (.bl false)=g ρ:=aU rfl
def Nb:bV f ρ=(f ρ).bind Pe:=aU rfl
def JN{c:Bool}:Pe (.bl c)=.ok (.bl (!c)):=aU rfl
def F9:G6 h f g ρ=(h ρ).bind (MP f g ρ):=aU rfl
def J4:MP f g ρ (.bl true)=f ρ:=aU rfl
def J3:MP f g ρ (.bl false)=g ρ:=aU rfl
def MU:ag i ρ=Oi ρ[i]?:=aU rfl
def Jt:Oi (some (.sh d))=.ok d:=aU rfl
def Rx:dC d ρ=.ok d:=aU rfl
def JD:ka []=[]:=aU rfl
def M3{c:Sl}:ka (c::r)=wJ c::ka r:=aU rfl
def JC:wJ (.ow d)=.sh d:=aU rfl
def JA:wJ (.sh d)=.sh d:=aU rfl
def Jz:wJ .no=.no:=aU rfl
def M5{n:Nat}:cq n s ds=(s (ds.map Sl.sh++S4 (n-ds.length) .no)).bind Eh:=aU rfl
def JI:Eh (.rt d)=.ok d:=aU rfl
def JH:Eh (.nx ρ)=.ok .non:=aU rfl
def PN:dD f ρ=(f ρ).bind RT:=aU rfl
def M8:RT (.int a)=.ok (some a):=aU rfl
def PU:gI ρ=.ok none:=aU rfl
def PL{lo hi:Ev->ak (Option Int)}:iW f lo hi ρ=(f ρ).bind (ON lo hi ρ):=aU rfl
def M1{lo hi:Ev->ak (Option Int)}:ON lo hi ρ x=(lo ρ).bind (Q3 hi ρ x):=aU rfl
def M0{hi:Ev->ak (Option Int)}{l:Option Int}:Q3 hi ρ x l=(hi ρ).bind (jF x l):=aU rfl
def MZ{l l':Option Int}:jF (.lst ds) l l'=.ok (.lst (mG ds l l')):=aU rfl
def Nk{tg:Ev->D->ak Ev}:td f tg s ρ=(f ρ).bind (PF tg s ρ):=aU rfl
def J5{tg:Ev->D->ak Ev}:PF tg s ρ (.lst ds)=cN tg s ds ρ:=aU rfl
def Gg:ib op op' f g h ρ=(f ρ).bind (RX op op' g h ρ):=aU rfl
def P0:RX op op' g h ρ x=(g ρ).bind (NJ op op' h ρ x):=aU rfl
def Nq:NJ op op' h ρ x y=(op x y).bind (Ko op' h ρ y):=aU rfl
def Np:Ko op' h ρ y (.bl true)=(h ρ).bind (op' y):=aU rfl
def Nm:Ko op' h ρ y (.bl false)=.ok (.bl false):=aU rfl
def Ng{o:Int->Int->D}:xD (λ_ _=>true) o (.int a) (.int b)=.ok (o a b):=aU rfl
def Nw:aZ (.int a) (.int b)=.ok (.int (a+b)):=aU rfl
def m5{es:ac}(h:decide (ds.length+es.length<=1000)=true):aZ (.lst ds) (.lst es)=.ok (.lst (ds++es)):=if_pos (SW (of_decide_eq_true h) (by decide))
def PX{m:D->ak D}:m1 m [x]=m x:=aU rfl
def JQ:cC (.lst ds)=.ok (.int ds.length):=aU rfl
def JP:cC (.tup ds)=.ok (.int ds.length):=aU rfl
def MY(h:decide (ds.length<=1000)=true):dE ds=.ok (.tup ds):=if_pos (SW (of_decide_eq_true h) (by decide))
def Nf(h:decide (ds.length<=1000)=true):cY ds=.ok (.lst ds):=if_pos (SW (of_decide_eq_true h) (by decide))
def tL{z:SH}:dW "str" (.str z)=.ok (.bl true):=aU rfl
def pG:dW "tuple" (.tup ds)=.ok (.bl true):=aU rfl
def rF:dW "list" (.lst ds)=.ok (.bl true):=aU rfl
def zt:pI (.tup ds) .non=.ok (.bl false):=aU rfl
def kq:pI x .non=.ok (.bl (mV x)):=aU rfl
def kZ(h:iG a b=true):cW (.int a) (.int b)=.ok (.int (a*b)):=if_pos h
def Nd(h:(b==0)=false):dA (.int a) (.int b)=.ok (.int (a.fmod b)):=kh (λz=>by rw[z]at h;cases h)
def Nl(h:kJ a b=true):og (.int a) (.int b)=.ok (.int (a.fdiv b)):=if_pos h
def Ju{is:cr}(h:(ds.length==is.length)=true):HC is ρ (.lst ds)=.ok (.nx (fz ρ is ds)):=by
 unfold HC gB;simp only[if_pos (eq_of_beq h)]
def PM{is:cr}:fz ρ (i::is) (d::ds)=fz (ρ.set i (.sh d)) is ds:=aU rfl
def M4:fz ρ [] ds=ρ:=aU rfl
def QJ(i:Nat)(ρ:Ev)(s:Option Sl):Ev:=match s with
 |some (.ow d)=>ρ.set i (.sh d)
 |_=>ρ
def PK:unown i ρ=QJ i ρ ρ[i]?:=aU rfl
def MX:QJ i ρ (some (.ow d))=ρ.set i (.sh d):=aU rfl
def MW:QJ i ρ (some (.sh d))=ρ:=aU rfl
def A1{x0:D}:aH (.lst (x0::xs)) (.int 0)=.ok x0:=by
 unfold aH;simp only[show atI (x0::xs) 0=some x0 from cT (j:=0) rfl]
def JW{x0:D}:aH (.tup (x0::xs)) (.int 0)=.ok x0:=by
 unfold aH;simp only[show atI (x0::xs) 0=some x0 from cT (j:=0) rfl]
def A0{x0 x1:D}:aH (.lst (x0::x1::xs)) (.int 1)=.ok x1:=by
 unfold aH;simp only[show atI (x0::x1::xs) 1=some x1 from cT (j:=1) rfl]
def JV{x0 x1:D}:aH (.tup (x0::x1::xs)) (.int 1)=.ok x1:=by
 unfold aH;simp only[show atI (x0::x1::xs) 1=some x1 from cT (j:=1) rfl]
def J1{x0 x1 x2:D}:aH (.lst (x0::x1::x2::xs)) (.int 2)=.ok x2:=by
 unfold aH;simp only[show atI (x0::x1::x2::xs) 2=some x2 from cT (j:=2) rfl]
def JU{x0 x1 x2:D}:aH (.tup (x0::x1::x2::xs)) (.int 2)=.ok x2:=by
 unfold aH;simp only[show atI (x0::x1::x2::xs) 2=some x2 from cT (j:=2) rfl]
def J0{x0 x1 x2 x3:D}:aH (.lst (x0::x1::x2::x3::xs)) (.int 3)=.ok x3:=by
 unfold aH;simp only[show atI (x0::x1::x2::x3::xs) 3=some x3 from cT (j:=3) rfl]
def JT{x0 x1 x2 x3:D}:aH (.tup (x0::x1::x2::x3::xs)) (.int 3)=.ok x3:=by
 unfold aH;simp only[show atI (x0::x1::x2::x3::xs) 3=some x3 from cT (j:=3) rfl]
def JZ{x0 x1 x2 x3 x4:D}:aH (.lst (x0::x1::x2::x3::x4::xs)) (.int 4)=.ok x4:=by
 unfold aH;simp only[show atI (x0::x1::x2::x3::x4::xs) 4=some x4 from cT (j:=4) rfl]
def JR{x0 x1 x2 x3 x4:D}:aH (.tup (x0::x1::x2::x3::x4::xs)) (.int 4)=.ok x4:=by
 unfold aH;simp only[show atI (x0::x1::x2::x3::x4::xs) 4=some x4 from cT (j:=4) rfl]
def JY{x0 x1 x2 x3 x4 x5:D}:aH (.lst (x0::x1::x2::x3::x4::x5::xs)) (.int 5)=.ok x5:=by
 unfold aH;simp only[show atI (x0::x1::x2::x3::x4::x5::xs) 5=some x5 from cT (j:=5) rfl]
def P8:((0:Nat):Int)=0:=aU rfl
def P7:((1:Nat):Int)=1:=aU rfl
def P6:((2:Nat):Int)=2:=aU rfl
def P5:((3:Nat):Int)=3:=aU rfl
def P4:((4:Nat):Int)=4:=aU rfl
def P1:((5:Nat):Int)=5:=aU rfl
def zr:k7 (.int 10) (.int 60)=.ok (.int (dH:Int)):=by
 have e:(10:Int) ^ (60:Int).toNat=(dH:Int):=by decide
 rw[←e];rfl
end
def K6(fa:Ev->ak (ac))(ρ:Ev)(x:D):ak D:=match x with
 |.str z=>(fa ρ).bind (i8 z)
 |_=>.stuck
def il{f:am}{fa:Ev->ak (ac)}{ρ:Ev}:k8 f fa ρ=(f ρ).bind (K6 fa ρ):=aU rfl
def fX{fa:Ev->ak (ac)}{ρ:Ev}{z:SH}:K6 fa ρ (.str z)=(fa ρ).bind (i8 z):=aU rfl
def OQ(g:am)(ρ:Ev)(x:D):ak D:=match x with
 |.lst ds=>(g ρ).bind (tM (.lst ds))
 |_=>.stuck
def F7{f g:am}{ρ:Ev}:Cb f g ρ=(f ρ).bind (OQ g ρ):=aU rfl
def JK{g:am}{ρ:Ev}{ds:ac}:OQ g ρ (.lst ds)=(g ρ).bind (tM (.lst ds)):=aU rfl
theorem xN{α:Type}{x:α}:∀{n:Nat},(S4 n [x]).flatten=S4 n x
 |0=>rfl
 |n+1=>by rw[T6,U8,xN,T6];rfl
def AZ{x:D}{k:Int}(h:(decide (0<=k)&&decide (k<=1000))=true):tM (.lst [x]) (.int k)=.ok (.lst (S4 k.toNat x)):=by
 simp only[SX,decide_eq_true_eq]at h;unfold tM;have:([x]:ac).length*k.toNat<=line/\-9223372036854775808<=k/\k<9223372036854775808:=⟨by
  have h2:k.toNat<=1000:=by omega
  show 1*k.toNat<=line;have:(1000:Nat)<=line:=by decide
  omega,by omega,by omega⟩
 simp only[if_pos this,xN]
end Com
def cm{a b:Prop}(x:a)(y:b):a/\b:=⟨x,y⟩
def N1:=(cm (cm (cm (cm (cm (cm @je (cm @zp @AX)) (cm @JG (cm @JO @F6))) (cm (cm @JF (cm @M6 @JJ)) (cm (cm @J7 @Gd) (cm @PZ @Ni)))) (cm (cm (cm @Nh (cm @M7 @JM)) (cm (cm @Nu @JL) (cm @Nj @MV))) (cm (cm @Qb (cm @Qa @Nt)) (cm (cm @P9 @Nc) (cm @J8 @Gf))))) (cm (cm (cm (cm @Ge (cm @Nv @Kb)) (cm @Ka (cm @PR @Na))) (cm (cm @M9 (cm @Nb @JN)) (cm (cm @F9 @J4) (cm @J3 @MU)))) (cm (cm (cm @Jt (cm @Rx @JD)) (cm (cm @M3 @JC) (cm @JA @Jz))) (cm (cm @M5 (cm @JI @JH)) (cm (cm @PN @M8) (cm @PU @PL)))))) (cm (cm (cm (cm (cm @M1 (cm @M0 @MZ)) (cm @Nk (cm @J5 @Gg))) (cm (cm @P0 (cm @Nq @Np)) (cm (cm @Nm @Ng) (cm @Nw @PX)))) (cm (cm (cm @JQ (cm @JP @zr)) (cm (cm @Gi @vy) (cm @MY @Nf))) (cm (cm @m5 (cm @qk @Nd)) (cm (cm @Ju @PM) (cm @M4 @PK))))) (cm (cm (cm (cm @MX (cm @MW @A1)) (cm (cm @A0 @J1) (cm @J0 @JZ))) (cm (cm @JY (cm @JW @JV)) (cm (cm @JU @JT) (cm @JR @tL)))) (cm (cm (cm @pG (cm @rF @zt)) (cm (cm @P8 @P7) (cm @P6 @P5))) (cm (cm @P4 (cm @P1 @il)) (cm (cm @fX @F7) (cm @JK @AZ)))))))
local macro_rules|`(tactic|open_line with[$xs,*])=>`(tactic|simp only[N1,Tv,Vk,S0,Vn,T6,WB,UL,Uu,Vf,Uq,V5,V6,WZ,Nat.reduceSub,Nat.reduceAdd,XU,Wr,Tx,TJ,decide_true,decide_false,Nat.reduceLeDiff,Nat.reduceBEq,Int.reduceBEq,beq_self_eq_true,DL.dOne,DL.mYes,Int.reduceLT,Int.reduceLE,Int.reduceSub,Int.reduceAdd,Int.reduceMul,Int.reduceNeg,Int.reduceToNat,Xz,$[$xs:term],*])
namespace Com
open PySem L2 DL
noncomputable def jX:bv :=
 (aw (eC (fE (bV (aS (ag 0) (dW "str"))) (bV (ib C0 C0 (dC (.int 1)) (ao (ae (ag 0) au) (m1 cC)) (dC (.int 8)))))
 (aw (bI (dC (.bl false)))
 av)
 av)
 (aw (bI (ao (ae (eY 1 [] (BI (ag 0)) (dz 0) mYes (af (ag 0) (dC (.str "abcdefghijklmnopqrstuvwxyz")) xX)) au) (m1 tN)))
 av))
def m_is_name:ac->ak D:=cq 1 jX
noncomputable def eN:bv :=
 (aw (eC (fE (bV (aS (ag 0) (dW "tuple"))) (af (ao (ae (ag 0) au) (m1 cC)) (dC (.int 2)) jC))
 (aw (bI (dC (.bl false)))
 av)
 av)
 (aw (eC (fE (bV (ao (ae (af (ag 0) (dC (.int 0)) aH) au) m_is_whole)) (bV (ao (ae (af (ag 0) (dC (.int 1)) aH) au) m_is_whole)))
 (aw (bI (dC (.bl false)))
 av)
 av)
 (aw (bI (gh (af (af (ag 0) (dC (.int 1)) aH) (dC (.int 1)) NG) (af (ao (ae (af (ag 0) (dC (.int 0)) aH) (ae (af (ag 0) (dC (.int 1)) aH) au)) m_common_divisor) (dC (.int 1)) fN)))
 av)))
def m_is_ratio:ac->ak D:=cq 1 eN
def Sv:SH:="abcdefghijklmnopqrstuvwxyz"
def mj(c:Nat):Bool:=N5 ⟨#[c]⟩ Sv
def cU(z:SH):Bool:=decide (1<=z.length)&&(decide (z.length<=8)&&z.cps.toList.all mj)
def mf:D->Bool
 |.str z=>cU z
 |_=>false
def AR:D->Bool
 |.str z=>decide (z.length<=line)
 |_=>true
theorem uE{b:Ev}{tg:Ev->D->ak Ev}{tt fe:am}{F:D->D}:∀{ds:ac},(∀d∈ds,∃ρ1,tg b d=.ok ρ1/\tt ρ1=.ok (.bl true)/\fe ρ1=.ok (F d))->bU b tg tt fe ds=.ok (ds.map F)
 |[],_=>rfl
 |d::r,h=>by
  obtain⟨ρ1,h1,h2,h3⟩:=h d SQ;rw[iz h1 h2 h3,uE (λe he=>h e (SM _ he))];rfl
theorem jt{α:Type}(F:α->Bool):∀(cs:List α),fu (cs.map λc=>D.bl (F c))=some (cs.map F)
 |[]=>rfl
 |c::r=>by
  show(fu (r.map λc=>D.bl (F c))).map (F c::·)=_;rw[jt F r];rfl
def yW{z:SH}(hz:z.length<=line):eY 1 [] (BI (ag 0)) (dz 0) mYes (af (ag 0) (dC (.str "abcdefghijklmnopqrstuvwxyz")) xX) [.sh (.str z)]=.ok (.lst (z.cps.toList.map λc=>.bl (mj c))):=by
 have hl:(iC z).length<=line:=by rw[j9];exact hz
 unfold eY;show(if(iC z).length<=line then _ else _)=_;rw[if_pos hl];have:bU (cD 1 [] [.sh (.str z)]) (dz 0) mYes (af (ag 0) (dC (.str "abcdefghijklmnopqrstuvwxyz")) xX) (iC z)=.ok (z.cps.toList.map λc=>D.bl (mj c)):=by
  unfold iC
  induction z.cps.toList with
  |nil=>rfl
  |cons c r ih=>
   rw[Tv,iz (x:=.bl (mj c)) rfl rfl rfl,ih];rfl
 rw[this]
def bN{d:D}(h:AR d=true):m_is_name [d]=.ok (.bl (mf d)):=by
 cases d with
 |str z=>
  have hz:z.length<=line:=of_decide_eq_true h;have hlen:cC (.str z)=.ok (.int z.length):=if_pos hz;show cq 1 jX _=.ok (.bl (cU z));unfold cU
  by_cases h1:1<=z.length
  .by_cases h8:z.length<=8
   .have e1:decide ((1:Int)<=(z.length:Int))=true:=decide_eq_true (by omega)
    have e2:decide ((z.length:Int)<=8)=true:=decide_eq_true (by omega);open_line with[jX,hlen,e1,e2,yW hz,tN,jt,decide_eq_true h1,decide_eq_true h8,Tj]
    simp[Ws,W4]
   .have e1:decide ((1:Int)<=(z.length:Int))=true:=decide_eq_true (by omega)
    have e2:decide ((z.length:Int)<=8)=false:=decide_eq_false (by omega);open_line with[jX,hlen,e1,e2,decide_eq_true h1,decide_eq_false h8,S6,Wa]
  .have e1:decide ((1:Int)<=(z.length:Int))=false:=decide_eq_false (by omega)
   open_line with[jX,hlen,e1,decide_eq_false h1,S6]
 |ob k _=>cases k<;>rfl
 |_=>rfl
def eZ:D->Bool
 |.tup [.int p,.int q]=>decide (1<=q)&&(TN p q==1)
 |_=>false
def Nz{g:Nat}:((g:Int)==1)=(g==1):=by
 cases h:(g==1) with
 |true=>rw[eq_of_beq h];rfl
 |false=>
  have:g≠1:=λz=>by rw[z]at h;cases h
  exact beq_eq_false_iff_ne.mpr (by omega)
def DH{xs:ac}:(∃x y,xs=[x,y])∨xs.length≠2:=by
 match xs with
 |[]=>exact .inr (by decide)
 |[x]=>exact .inr (by simp)
 |[x,y]=>exact .inl ⟨x,y,rfl⟩
 |x::y::z::r=>exact .inr (by simp)
theorem wR:∀{xs:ac},xs.length≠2->eZ (.tup xs)=false
 |[],_=>rfl
 |[x],_=>by cases x<;>rfl
 |[x,y],h=>absurd rfl h
 |x::y::z::r,_=>by cases x<;>cases y<;>rfl
def qK{x y:D}:eZ (.tup [x,y])=(Pr x&&(Pr y&&eZ (.tup [x,y]))):=by
 cases x<;>cases y<;>rfl
def dS(d:D):m_is_ratio [d]=.ok (.bl (eZ d)):=by
 cases d with
 |tup xs=>
  rcases DH (xs:=xs) with⟨x,y,rfl⟩|h
  .rw[qK]
   show cq 1 eN _=_;cases hx:Pr x with
   |false=>open_line with[eN,ja,hx,S6]
   |true=>
    cases hy:Pr y with
    |false=>open_line with[eN,ja,hx,hy,S6,Tj]
    |true=>
     cases x<;>first|(cases hx;done)|skip
     cases y<;>first|(cases hy;done)|skip
     rename_i p q;show _=ak.ok (D.bl (decide (1<=q)&&(TN p q==1)))
     by_cases hq:1<=q
     .open_line with[eN,ja,hx,hy,oi,Tj,decide_eq_true hq,Nz]
     .open_line with[eN,ja,hx,hy,oi,Tj,decide_eq_false hq,S6]
  .have e2:((xs.length:Int)==2)=false:=beq_eq_false_iff_ne.mpr (by omega)
   rw[wR h];show cq 1 eN _=_;open_line with[eN,e2]
 |ob k _=>cases k<;>rfl
 |_=>rfl
def OL{sz:List Int}(h:(sz.all λs=>decide (0<s)&&decide (s<=(dH:Int)))=true):∀s∈sz,0<s/\s.natAbs<B9:=λs hs=>by
 have:=Tp.mp h s hs;simp only[SX,decide_eq_true_eq]at this;refine⟨this.1,T2 (show s.natAbs<=dH by omega) ?_⟩;exact SU (show dH<2 ^ 200 by decide) (by rw[Bq];exact Ur (by decide) (by decide))
def vZ{α:Type}{F:α->D}{xs:List α}{lo hi:Option Int}:mG (xs.map F) lo hi=((xs.drop (HT.sIx xs.length 0 lo)).take (HT.sIx xs.length xs.length hi-HT.sIx xs.length 0 lo)).map F:=by
 unfold mG;rw[SD,←List.map_drop,←List.map_take]
end Com
namespace DL
open PySem PySem.Spec PyProof.Rows L2
def bY.there{P:Tr}{w:TU}{H:Hp}{h:S1}{a:SA}{o:HO}(x:bY P w H h a o):∃u,h.get? a=some u:=by
 cases o with|lst xs=>obtain⟨_,_,_,_,e⟩:=x;exact⟨_,e⟩|tup xs=>obtain⟨_,_,_,ob,e,_⟩:=x;exact⟨_,e⟩|dK kvs|dT kvs=>obtain⟨_,_,_,_,o,_,_,e,_⟩:=x;exact⟨_,e⟩|set S n=>obtain⟨o,_,_,_,e,_⟩:=x;exact⟨_,e⟩|ins C dx fs=>obtain⟨_,_,_,e,_⟩:=x;exact⟨_,e⟩|own y=>obtain⟨_,e⟩:=x;exact⟨_,e⟩|xd fs=>obtain⟨_,⟨_,_,_,e,_⟩,_⟩:=x;exact⟨_,e⟩|rng lo hi=>obtain⟨_,_,_,e⟩:=x;exact⟨_,e⟩|frz ob u=>obtain⟨e,_⟩:=x;exact⟨_,e⟩|tbl ps|met f y=>exact⟨_,show h.get? a=some _ from x⟩|ext φ=>obtain⟨_,⟨_,e⟩,_⟩:=x;exact⟨_,e⟩
noncomputable def gi(P:Tr) (w:TU):tT:=λouter H s E e s'=>∃(ea C:SA) (a0:Sy) (B:S1) (H':Hp),e=.ref ea/\s'.os=s.os/\AllBare s'.gens/\Un (iw outer) [] H H' s.heap s'.heap/\gY P w H' s'.heap/\H' ea=none /\
 Vl B outer ea (.ref C) a0 s'.heap/\(∀b,b∉iw outer->(H' b≠none∨∃o,s.heap.get? b=some o)->∃o,B.get? b=some o)/\∃ox,Qp s'.heap ea ox/\E (.ref C) ox H'
def AN{l:List Uh}:∀env∈l,∀a,env.frame=some a->a∈iw l:=λenv he a hf=>WK.mpr ⟨env,he,hf⟩
section
variable {P:Tr}{w:TU}{K:SE}{mg:SH->Option Sy}{base:S1}{N:ci}{qual:SH}{scope:VN}{f:SA}{cd:Sy}{A:TK}{outer:List Uh}{s0:SI}{H0:Hp}{E:XK}
 {π:List (SA×Obj)}{σ:L2.St}{H:Hp}{s:SI}
def ir{B h h':S1}(k:B.StaysIn h)(k':B.StaysIn h'){b:SA}{o:Obj}(hb:∃u,B.get? b=some u)(e:h.get? b=some o):h'.get? b=some o:=by
 obtain⟨u,q⟩:=hb;have:=k b u q;rw[e]at this;cases this;exact k' b o q
def FU{X:Cx}(hX:X=dN (gi P w) P w K mg base N qual scope f cd A outer s0 H0 E)(I:Inv X π σ H s){s1:SI}{H1:Hp}{ea C:SA}{a0:Sy}{B h':S1}(os:s1.os=s.os)(bare:AllBare s1.gens)
  (un:Un (iw X.stack) [] H H1 s.heap s1.heap)(hok:gY P w H1 s1.heap)(hne:H1 ea=none)(hst:B.StaysIn s1.heap)(hfr:s1.heap.FunFrames B X.stack)
  (hB:∀b,b∉iw X.stack->(H1 b≠none∨∃o,s.heap.get? b=some o)->∃o,B.get? b=some o)(fl:Vl B outer ea (.ref C) a0 h')(up:s1.heap.UpToSlots h')(hE:∃ox,Qp h' ea ox/\E (.ref C) ox H1) :
  gi P w outer H0 s0 E (.ref ea) { s1 with heap:=h' }:=by
 subst hX;have hL:(envOfC qual scope s0.heap.objs.size f cd).frame=some (envOfC qual scope s0.heap.objs.size f cd).locals:=rfl;have hstk:∀b,b∈iw (envOfC qual scope s0.heap.objs.size f cd::outer)->b=(envOfC qual scope s0.heap.objs.size f cd).locals∨b∈iw outer:=λb hb=>by
  unfold iw at hb;rw[UJ,hL]at hb;exact SV.mp hb
 have hsub:∀b,b∈iw outer->b∈iw (envOfC qual scope s0.heap.objs.size f cd::outer):=λb hb=>by
  unfold iw;rw[UJ,hL];exact SM _ hb
 have old:∀b o,s0.heap.get? b=some o->b≠(envOfC qual scope s0.heap.objs.size f cd).locals:=λb o e=>Ts (SU (S9 e) I.ok.above);have nofr:∀b o,s0.heap.get? b=some o->b∉iw outer->b∉iw (envOfC qual scope s0.heap.objs.size f cd::outer):=λb o e hb hm=>(hstk b hm).elim (old b o e) hb;have thr:∀b o,s0.heap.get? b=some o->∃o',s.heap.get? b=some o':=λb o e=>I.base.there b o e (by intro z;exact nomatch z);have fst:∀b,b∈iw outer->∀o,s1.heap.get? b=some o->∃sl,h'.get? b=some { o with slots:=sl }:=λb hb o e=>by
  obtain⟨_,o',ho',hd⟩:=hfr.mem (hsub b hb);rw[e]at ho';cases ho';exact up b o e hd
 have free1:∀b∈iw (envOfC qual scope s0.heap.objs.size f cd::outer),H1 b=none:=λb hb=>by
  obtain⟨_,o,ho,_⟩:=I.stack.mem hb;exact un.free b o ho (I.stkFree b hb) (by simp)
 have B0:∀b o,s0.heap.get? b=some o->b∉iw outer->∃u,B.get? b=some u:=λb o e hb=>hB b (nofr b o e hb) (.inr (thr b o e));refine⟨ea,C,a0,B,H1,rfl,os.trans I.os,bare,⟨λb o e n hb hx=>?_,λb o e n hb hx=>?_,λb o e n hx=>?_,λb o e hx=>?_,λb xs e=>un.tups b xs (I.base.tups b xs e),λb o u e=>un.frzs b o u (I.base.frzs b o u e),λb ps e=>?_⟩,λa o e=>?_,hne,fl,λb hb h=>?_,hE⟩
 .have e1:=I.base.keep b o e n hb (by intro z;exact nomatch z)
  have n1:=I.base.free b o e n (by intro z;exact nomatch z);have e2:=un.keep b o e1 n1 (nofr b o e hb) (by simp);exact ir hst fl.1 (B0 b o e hb) e2
 .obtain⟨sl,e1⟩:=I.base.slot b o e n hb (by intro z;exact nomatch z)
  have n1:=I.base.free b o e n (by intro z;exact nomatch z);obtain⟨sl2,e2⟩:=un.any e1 n1 (by simp);obtain⟨sl3,e3⟩:=fst b hb _ e2;exact⟨sl3,e3⟩
 .obtain⟨o',e1⟩:=thr b o e
  exact un.free b o' e1 (I.base.free b o e n (by intro z;exact nomatch z)) (by simp)
 .obtain⟨o',e1⟩:=thr b o e
  obtain⟨o2,e2⟩:=un.there b o' e1 (by simp)
  by_cases hb:b∈iw outer
  .obtain⟨sl,e3⟩:=fst b hb _ e2
   exact⟨_,e3⟩
  .exact⟨_,ir hst fl.1 (B0 b o e hb) e2⟩
 .obtain⟨m1,e1⟩:=I.base.tbls b ps e
  obtain⟨m2,e2⟩:=un.tbls b _ e1;exact⟨m1++m2,by rw[e2,WQ]⟩
 .refine(hok a o e).stay (λb u hb q=>?_) (λ_ q=>q) λ_ _ q=>q
  have hn:H1 b≠none:=by
   rcases hb with rfl|hb
   .rw[e];simp
   .rw[hb];simp
  exact ir hst fl.1 (hB b (λhm=>hn (free1 b hm)) (.inl hn)) q
 .by_cases hm:b∈iw (envOfC qual scope s0.heap.objs.size f cd::outer)
  .rcases hstk b hm with z|z
   .rcases h with h|⟨o,h⟩
    .exact absurd (free1 b hm) h
    .exact absurd z (old b o h)
   .exact absurd z hb
  .exact hB b hm (h.elim .inl λ⟨o,h⟩=>.inr (thr b o h))
def u7(I:Inv (dN (gi P w) P w K mg base N qual scope f cd A outer s0 H0 E) π σ H s){h1:S1}{e C:SA}{vs:List Sy}(hx:WA s.heap h1 e (.ref C) vs)(hE:E (.ref C) none H) :
  (dN (gi P w) P w K mg base N qual scope f cd A outer s0 H0 E).xe (.ref e) { s with heap:=h1 }:=by
 have hin:=AN (l:=envOfC qual scope s0.heap.objs.size f cd::outer);have hl:s.heap.FunFrames (Wl s.heap (iw (envOfC qual scope s0.heap.objs.size f cd::outer))) (envOfC qual scope s0.heap.objs.size f cd::outer):=W.funFrames_hide I.stack hin;have hn:H e=none:=by
  cases q:H e with|none=>rfl|some o=>obtain⟨u,hu⟩:=bY.there (I.hok e o q);rw[hx.new]at hu;cases hu
 obtain⟨t,he,_,_⟩:=hx.there;have hen:(Wl s.heap (iw (envOfC qual scope s0.heap.objs.size f cd::outer))).get? e=none:=by
  cases q:(Wl s.heap (iw (envOfC qual scope s0.heap.objs.size f cd::outer))).get? e with|none=>rfl|some o=>have:=Wo _ q;rw[hx.new]at this;cases this
 refine rB (s:={ s with heap:=h1 }) (a0:=.ref t) I.ok.frames (hl.of_keeps λb o hb _=>⟨o,hx.keeps b o hb,rfl⟩) rfl he (λb o q=>hx.keeps b o (Wo _ q)) hen rfl rfl rfl (λz=>absurd rfl z) λh' fl up dch=>?_;refine FU rfl I (s1:={ s with heap:=h1 }) (H1:=H) rfl I.bare (Un.kept hx.keeps) (I.hok.kept hx.keeps) hn (λb o q=>hx.keeps b o (Wo _ q)) (hl.of_keeps λb o hb _=>⟨o,hx.keeps b o hb,rfl⟩) (λb hb h=>?_) fl up ⟨none,⟨none,dch,.inl rfl⟩,hE⟩;have:∃o,s.heap.get? b=some o:=by
  rcases h with h|h
  .cases q:H b with
   |none=>exact absurd q h
   |some o=>exact bY.there (I.hok b o q)
  .exact h
 obtain⟨o,q⟩:=this;exact⟨o,Xt _ q hb⟩
def Ao:ic (gi P w) (dN (gi P w) P w K mg base N qual scope f cd A outer s0 H0 E) E:=by
 intro π σ H s e s' I h;obtain⟨ea,C,a0,B,H',rfl,os,bare,un,hok,hne,fl,hB,ox,⟨dc,hdc,hox⟩,hE⟩:=h;refine CO I.ok.frames rfl fl hdc λh' fl' up hd'=>?_;exact FU rfl I os bare un hok hne fl.1 fl.2.2.1 hB fl' up ⟨ox,⟨dc,hd',hox⟩,hE⟩
end
def yQ{X:Cx}{E:XK}:ic CX0 X E:=λ_ _ _ _ _ _ _ h=>h.elim
def zk{P:Tr}{w:TU}{K:SE}{mg:SH->Option Sy}{base:S1}{x qual:SH}{st:Ud}{f:SA}{fd:TQ}{N ps:ci}{k:Nat}{s:bv}(F:Bp K x qual st f fd)(S:eX N ps (defScope st))
  (hbody:∀(cdv:Sy) (A:TK) (outer:List Uh) (s0:SI) (H Ha:Hp) (E:XK),dw k (A.deeper (envOfC qual (defScope st) s0.heap.objs.size f cdv)) ->
   wt (dN (gi P w) P w K mg base N qual (defScope st) f cdv A outer s0 H E) E H Ha (defBody st) s):FnOk P w K mg base (gi P w) (k+1) f fd ps (spD K ps.length (cq N.length s)):=by
 have hpl:ps.length<=N.length:=by have:=congrArg VY S.pre;rw[UD]at this;omega
 obtain⟨oc,od,kV,doc,pm,an,cdv,ct,osl,rfl,lk,hcd⟩:=F.ex;refine Le lk hcd S (λvs H Q E h=>h.1) λA outer s0 H vs Q E hr h=>?_;obtain⟨hn,Ha,ds,hs,hv,q⟩:=h;refine⟨_,(hbody cdv A outer s0 H Ha E hr).o,Ha,ds.map Sl.sh++S4 (N.length-ds.length) .no,?_,?_⟩
 .refine⟨bh.refl hs,oG hv,λi d e=>?_,λi j d d' hij e=>?_,?_,OX.none ua qC⟩
  .by_cases hi:i<ds.length
   .rw[Tg (by simpa using hi),Ta]at e
    cases q:ds[i]? with|none|some d'=>rw[q]at e;cases e
   .rw[To (by simpa using hi),Tz]at e
    split at e<;>cases e
  .by_cases hi:i<ds.length
   .rw[Tg (by simpa using hi),Ta]at e
    cases q:ds[i]? with|none|some d'=>rw[q]at e;cases e
   .rw[To (by simpa using hi),Tz]at e
    split at e<;>cases e
  .unfold L2.start
   have:=hv.length;simp only[Tc,SD,Ug];omega
 .unfold cq at q
  cases e1:s (ds.map Sl.sh++S4 (N.length-ds.length) .no) with
  |stuck|exn x=>rw[e1]at q;exact q
  |ok r=>
   rw[e1]at q;cases r with|nx ρ'=>exact λσ' H' Ha' _ h'=>q .non H' Ha' h'.g (aO.mpr rfl)|rt d=>exact λv H' Ha' g rp=>q v H' Ha' g rp|bk ρ'|ct ρ'=>exact q.elim
def noX(m:ac->ak D)(ds:ac):ak D:=match m ds with
 |.exn _=>.stuck
 |r=>r
def z6{K:SE}{n:Nat}{m:ac->ak D}{vs:al}{H:Hp}{Q:VK}{E E':XK}(h:spD K n (noX m) vs H Q E):spD K n m vs H Q E':=by
 obtain⟨hn,Ha,ds,hs,hv,q⟩:=h;refine⟨hn,Ha,ds,hs,hv,?_⟩;unfold noX at q;cases e:m ds with|stuck=>rw[e]at q;exact q|exn x=>rw[e]at q;exact q.elim|ok d=>rw[e]at q;exact q
theorem FnOk.noX{P:Tr}{w:TU}{K:SE}{mg:SH->Option Sy}{base:S1}{k n:Nat}{f:SA}{fd:TQ}{ps:ci}{m:ac->ak D}(F:FnOk P w K mg base (gi P w) k f fd ps (spD K n m)) :
  FnOk P w K mg base CX0 k f fd ps (spD K n (DL.noX m)) :=
 ⟨λvs H Q E h=>F.len vs H Q E0 (z6 h),λA outer s H args us vs Q E hr he hb hv h=>codeAny_mono (F.run A outer s H args us vs Q E0 hr he hb hv (z6 h)) λr s' q=>by
  cases r with
  |ok fl=>cases fl<;>exact q
  |error e=>obtain⟨_,_,_,_,_,_,_,_,_,_,_,_,_,_,_,hE⟩:=q;exact hE.elim⟩
structure Kw (K:SE) (x:SH) (C:SA):Prop where
 xc:XC K x C
 ex:WT K C [.type "ValueError",.type "Exception",.type "BaseException",.type "object"] "ValueError.__new__"=true
def Kw.obj{K:SE}{x:SH}{C:SA}(c:Kw K x C){h:S1}(X:K.In h):∃bm N nm q bs hdct sn sub ab col dd k0 k1 k2 k3 k5 mN,h.get? C=some (excClassObj nm q C N bs bm hdct sn sub ab col dd k0 k1 k2 k3 k5 "ValueError.__new__")/\h.Ns N mN/\mN "__init__"=none /\
  OwnTail h [.type "ValueError",.type "Exception",.type "BaseException",.type "object"] bm:=by
 have q:=c.ex;unfold WT at q;split at q
 .rename_i dd cd sl ho
  split at q
  .rename_i C' bm k0 k1 k2 k3 n k5 hm hs
   simp only[SX,beq_iff_eq,W6]at q;obtain⟨⟨⟨⟨⟨rfl,rfl⟩,hdel⟩,ht⟩,hok⟩,hni⟩:=q;obtain⟨nm,bs,mro,ns,qn,hd,sn,sub,ab,col,del⟩:=cd;dsimp only at hm hdel hok hni;subst hm hdel;have hsl:sl=#[k0,k1,k2,k3,some (.builtin "ValueError.__new__"),k5]:=by
    obtain⟨l⟩:=sl;simp only at hs;rw[hs]
   subst hsl;exact⟨bm,ns,nm,qn,bs,hd,sn,sub,ab,col,dd,k0,k1,k2,k3,k5,_,X _ _ ho,.of_isNs (WR X hok),W.nsMap_none_of_in X hok hni,W.tail_of_in X ht⟩
  .cases q
 .cases q
def yE(x:SH)(fa:Ev->ak (ac)):bv:=λρ=>(fa (ka ρ)).bind λds=>if ds.length<=line then .exn ⟨x,[]⟩ else .stuck
section
variable {P:Tr}{w:TU}{K:SE}{mg:SH->Option Sy}{base:S1}{N:ci}{qual:SH}{scope:VN}{f:SA}{cd:Sy}{A:TK}{outer:List Uh}{s0:SI}{H0:Hp}{E:XK}{He η:Hp}
def Gp{x:SH}{C:SA}{np cpos pos:Pos}{e:Tn}{es:List Tn}{fa:Ev->ak (ac)}(c:Kw K x C)(hm:mg x=some (.ref C))(hh:A.handled=none)
  (hg:Gl (dN (gi P w) P w K mg base N qual scope f cd A outer s0 H0 E) x)(ha:DA (dN (gi P w) P w K mg base N qual scope f cd A outer s0 H0 E) E (e::es) fa)
  (hdb:(x==("__debug__" : SH))=false:=by decide)(he:SJ (e::es) (dN (gi P w) P w K mg base N qual scope f cd A outer s0 H0 E).env=(false,eval e (dN (gi P w) P w K mg base N qual scope f cd A outer s0 H0 E).env)::SJ es (dN (gi P w) P w K mg base N qual scope f cd A outer s0 H0 E).env:=by exact aF rfl)
  (hpl:(TZ cpos (SJ es (dN (gi P w) P w K mg base N qual scope f cd A outer s0 H0 E).env)).any (·.1)=false:=by exact bj rfl) :
  DS (dN (gi P w) P w K mg base N qual scope f cd A outer s0 H0 E) E He η (.Raise (some (.Call (.Name x np) (e::es) [] cpos)) none pos) (yE x fa):=by
 refine⟨?_⟩;intro π s σ H D I ⟨Ha,ρ,hr,q⟩;obtain⟨bm,Nn,nm,qn,bs,hdct,sn,sub,ab,col,dd,k0,k1,k2,k3,k5,mN,hC,hN,hni,T⟩:=c.obj I.ok.mod.kin;refine wpAny_Raise_call_subT (C:=C) (nm:=nm) (q:=qn) (N:=Nn) (bs:=bs) (bm:=bm) (hdct:=hdct) (sn:=sn) (sub:=sub) (ab:=ab) (col:=col) (dd:=dd) (k0:=k0) (k1:=k1) (k2:=k2) (k3:=k3) (k5:=k5)
  U1 (mN:=mN) (T.hasType U1.hasBase) hh (by rw[he];show(false||(TZ cpos (SJ es (dN (gi P w) P w K mg base N qual scope f cd A outer s0 H0 E).env)).any (·.1))=false;rw[hpl];rfl) hni (ij I hg hm ⟨rfl,?_⟩ hdb)
 have hq:qR K E H (frz He Ha H) (fa (ka ρ)) (λvs H1=>vs.length<=sizeLine/\E (.ref C) none H1):=by
  unfold yE at q;cases e1:fa (ka ρ) with
  |stuck=>rw[e1]at q;exact q|exn z=>rw[e1]at q;exact λC ox H' Ha' g ex=>q C ox H' Ha' (hr.frz_grow.trans g) ex
  |ok ds=>
   rw[e1]at q;intro vs H1 H01 g rp;have q:bT K E He η Ha (if ds.length<=line then ak.exn ⟨x,[]⟩ else .stuck) D:=q
   by_cases hl:ds.length<=line
   .rw[if_pos hl]at q
    exact⟨by rw[←rp.length];exact eg hl,q (.ref C) none H1 H01 (hr.frz_grow.trans g) ⟨⟨C,rfl,c.xc⟩,rfl⟩⟩
   .rw[if_neg hl]at q;exact q.elim
 have h1:=ha.o cpos π s σ H _ I ⟨frz He Ha H,ka ρ,hr.frz_le,hr.looks,hq⟩;rw[he]at h1 ⊢;refine V0 (T4 h1 (λvs s2 h2=>?_) λ_ _ y=>y);obtain⟨vs',H1,I1,rv,hl,hE⟩:=h2;exact⟨rfl,by rw[←rv.length];exact hl,I1.bk _ _ hC,hN.keeps I1.bk,T.keeps I1.bk,λh' ee hx=>u7 I1 hx hE⟩
end
section
variable {P:Tr}{w:TU}{st:List Uh}{H H':Hp}{h g g' B:S1}
def Un.fly(un:Un (iw st) [] H H' h g)(k:B.StaysIn g)(hfr:g.FunFrames B st)(hB:∀b,b∉iw st->(H' b≠none∨∃o,h.get? b=some o)->∃o,B.get? b=some o)(k':B.StaysIn g')(up:g.UpToSlots g'):Un (iw st) [] H H' h g':=by
 have fst:∀b,b∈iw st->∀o,g.get? b=some o->∃sl,g'.get? b=some { o with slots:=sl }:=λb hb o e=>by
  obtain⟨_,o',ho',hd⟩:=hfr.mem hb;rw[e]at ho';cases ho';exact up b o e hd
 refine⟨λb o e n hb hx=>?_,λb o e n hb hx=>?_,un.free,λb o e hx=>?_,un.tups,un.frzs,un.tbls⟩
 .exact ir k k' (hB b hb (.inr ⟨o,e⟩)) (un.keep b o e n hb hx)
 .obtain⟨sl,e1⟩:=un.slot b o e n hb hx
  obtain⟨sl2,e2⟩:=fst b hb _ e1;exact⟨sl2,e2⟩
 .obtain⟨o',e1⟩:=un.there b o e hx
  by_cases hb:b∈iw st
  .obtain⟨sl,e2⟩:=fst b hb _ e1
   exact⟨_,e2⟩
  .exact⟨_,ir k k' (hB b hb (.inr ⟨o,e⟩)) e1⟩
def gY.fly(ok:gY P w H' g)(hf:∀b∈iw st,H' b=none)(k:B.StaysIn g)(hB:∀b,b∉iw st->(H' b≠none∨∃o,h.get? b=some o)->∃o,B.get? b=some o)(k':B.StaysIn g'):gY P w H' g':=λa o e=>by
 refine(ok a o e).stay (λb u hb q=>?_) (λ_ q=>q) λ_ _ q=>q;have hn:H' b≠none:=by
  rcases hb with rfl|hb
  .rw[e];simp
  .rw[hb];simp
 exact ir k k' (hB b (λhm=>hn (hf b hm)) (.inl hn)) q
def gY.ext(ok:gY P w H g){a:SA}{φ:S1->Prop}(hn:H a=none)(p:φ g)(ht:∃o,g.get? a=some o)(hm:∀h1 h2:S1,φ h1->(∀o,h1.get? a=some o->h2.get? a=some o)->φ h2):gY P w (upd H a (.ext φ)) g:=λb u e=>by
 by_cases hb:b=a
 .subst hb;rw[az]at e;cases e;exact⟨p,ht,hm⟩
 .rw[ax hb]at e
  exact(ok b u e).stay (λc v _ q=>q) (λc q=>by rw[ax (bg q hn)];exact q) λc xs q=>by rw[ax (bg q hn)];exact q
def Un.ext{fs:List SA}(un:Un fs [] H H' h g){a:SA}{o:HO}(hn:H' a=none)(ha:h.get? a=none):Un fs [] H (upd H' a o) h g :=
 ⟨un.keep,un.slot,λb ob e n hx=>by rw[ax (λz=>by subst z;rw[ha]at e;cases e)];exact un.free b ob e n hx,un.there,λb xs q=>by rw[ax (bg (un.tups b xs q) hn)];exact un.tups b xs q,
  λb ob u q=>by rw[ax (bg (un.frzs b ob u q) hn)];exact un.frzs b ob u q,λb ps q=>by
   obtain⟨m,e⟩:=un.tbls b ps q;exact⟨m,by rw[ax (bg e hn)];exact e⟩⟩
def CQ{a C:SA}{dc:Option SA}:∀h1 h2:S1,yt a C dc h1->(∀o,h1.get? a=some o->h2.get? a=some o)->yt a C dc h2:=λh1 h2 ⟨o,vs,e,c,d⟩ k=>⟨o,vs,k o e,c,d⟩
end
def hand(X:Cx)(e:SA):Cx:={ X with A:=X.A.mark (some (.ref e)),calm:=false,xe:=λ_ _=>False }
section
variable {X:Cx}{π:List (SA×Obj)}{σ:L2.St}{H:Hp}{s:SI}{e:SA}
def Jm(ok:X.Ok):(hand X e).Ok :=
 ⟨ok.mod,ok.kind,ok.glob,ok.blt,ok.above,ok.inj,ok.has,ok.cab,λz=>Bool.noConfusion z,ok.frames,ok.stk,ok.exf,ok.bs,ok.bsz,ok.noex,ok.exfs,ok.funs,ok.frf⟩
def Inv.hand(I:Inv X π σ H s):Inv (DL.hand X e) π σ H s:=⟨Jm I.ok,I.os,I.bare,I.base,I.loc,I.cell,I.free,I.freeC,I.pin,I.hok,I.len⟩
def iT(ok:X.Ok)(I:Inv (DL.hand X e) π σ H s):Inv X π σ H s:=⟨ok,I.os,I.bare,I.base,I.loc,I.cell,I.free,I.freeC,I.pin,I.hok,I.len⟩
def GY{i:Nat}{x:SH}{m:SH->Option Sy}{v:Option Sy}{h':S1}{t':Nat}(I:Inv X π σ H s)(hN:X.N.Nodup)(hi:X.N[i]?=some x)
  (hm:∀(j:Nat) (y:SH) (v:V),X.N[j]?=some y->σ[j]?=some (some v)->yh X.env.scope y->∃u,bW v u/\Qq X.env s.heap m y u)(hn:h'.Ns X.env.locals (λy=>if y=x then v else m y))(hs:VQ X.env.locals s.heap h') :
  Inv X π (σ.set i none) H { s with heap:=h',toks:=t' }:=by
 have cne:=I.cne;obtain⟨m0,⟨oL,_,_,hoL,_⟩,_⟩:=id I.loc;have tracked:gY X.prog X.w H h':=λb ob e=>by
  refine(I.hok b ob e).stay (λc w' hc q=>(hs.2 c ?_).trans q) (λ_ q=>q) λ_ _ q=>q;rintro rfl;have hfree:=I.free;rcases hc with rfl|hc
  .rw[hfree]at e;cases e
  .rw[hfree]at hc;cases hc
 refine⟨I.ok,I.os,I.bare,⟨λb o e n hb hx=>?_,λb o e n hb hx=>?_,I.base.free,λb o e hx=>?_,I.base.tups,I.base.frzs,I.base.tbls⟩,⟨_,hn,λj y v' e1 e2 e3=>?_⟩,λy c e=>?_,I.free,I.freeC,λp hp=>?_,tracked,by simpa using I.len⟩
 .exact(hs.2 b (Ts (SU (S9 e) I.ok.above))).trans (I.base.keep b o e n hb hx)
 .obtain⟨sl,e1⟩:=I.base.slot b o e n hb hx
  exact⟨sl,(hs.2 b (Ts (SU (S9 e) I.ok.above))).trans e1⟩
 .obtain⟨o',e1⟩:=I.base.there b o e hx
  exact⟨o',(hs.2 b (Ts (SU (S9 e) I.ok.above))).trans e1⟩
 .by_cases hj:j=i
  .subst hj
   have hiσ:j<σ.length:=by rw[I.len];exact(SR.mp hi).1
   rw[TM hiσ]at e2;cases e2
  .rw[SO (TF hj)]at e2
   obtain⟨u',r',q⟩:=hm j y v' e1 e2 e3;refine⟨u',r',?_⟩;rcases q with⟨k,e⟩|⟨k,c,e,z⟩
   .refine .inl ⟨k,?_⟩
    have:y≠x:=λe=>hj (qZ hN e1 (e▸hi));simp[this,e]
   .exact .inr ⟨k,c,e,z.sameBut hs (cne y c e)⟩
 .obtain⟨w',z⟩:=I.cell y c e
  exact⟨w',z.sameBut hs (cne y c e)⟩
 .obtain⟨e,n,ne,nf,d⟩:=I.pin p hp
  exact⟨(hs.2 p.1 ne).trans e,n,ne,nf,d⟩
def NM{H1:Hp}{s1 s':SI}{Ex:XK}{ev:Sy}{c n:SH}{np hpos:Pos}{ba:Ud}{suite:List Ud}{rest:List ExceptHandler}{cv:Sy}{ni:Nat}{D:gV}(hstk:X.stack=X.env::X.outer/\X.env.frame=some X.env.locals)(I:Inv X π σ H1 s1)
  (h:gi X.prog X.w X.stack H1 s1 Ex ev s')(hg:Gl X c)(hm:X.mg c=some cv)(hx:∀C ox H',Ex (.ref C) ox H'->WS X.K (.ref C) cv=some true)
  (hN:X.N.Nodup)(hi:X.N[ni]?=some n)(hlo:X.env.scope.names.lookup n=some .local)
  (hs:∀ea C dc ox H' s2,Ex (.ref C) ox H'->(ox=none∨ox=dc)->H' ea=none->Inv (DL.hand X ea) π (σ.set ni (some (.ref ea))) (upd H' ea (.ext (yt ea C dc))) s2 ->
   Td (Tb X.prog X.w) (X.A.mark (some (.ref ea))) (execs (ba::suite) X.env) (SP (DL.hand X ea) π { nx:=λσ' H=>D.nx (σ'.set ni none) H,rt:=D.rt,bk:=λσ' H=>D.bk (σ'.set ni none) H,ct:=λσ' H=>D.ct (σ'.set ni none) H }) (λ_ _=>False) s2)
  (hdb:(c==("__debug__" : SH))=false:=by decide) :
  Td (Tb X.prog X.w) X.A (noteFrame ev X.env) (λ_ si=>Td (Tb X.prog X.w) X.A (setFlight ev none) (λ_ sj=>
   Td (Tb X.prog X.w) X.A (handleBy ev X.env (.ExceptHandler (some (.Name c np)) (some n) (ba::suite) hpos::rest)) (SP X π D) X.xe sj) X.xe si) X.xe s':=by
 obtain⟨ea,C,a0,B,H',rfl,os,bare,un,hok,hne,fl,hB,ox,⟨dc,hdc,hox⟩,hE⟩:=h;have hA:X.A.frames=some (X.env::X.outer):=by rw[←hstk.1];exact I.ok.frames
 have fl0:=fl;rw[hstk.1]at fl;have hf1:∀b∈iw X.stack,H' b=none:=λb hb=>by
  obtain⟨_,o,ho,_⟩:=I.stack.mem hb;exact un.free b o ho (I.stkFree b hb) (by simp)
 have hnew:s1.heap.get? ea=none:=by
  cases q:s1.heap.get? ea with
  |none=>rfl
  |some o=>
   by_cases hb:ea∈iw X.stack
   .obtain⟨_,o',ho',hd⟩:=fl0.2.2.1.mem hb
    obtain⟨oe,vs,he,_,hd',_⟩:=fl0.first
    rw[ho']at he;cases he;exact absurd hd' (hd vs)
   .obtain⟨u,hu⟩:=hB ea hb (.inr ⟨o,q⟩)
    rw[fl.2.1]at hu;cases hu
 have inv:∀g,B.StaysIn g->s'.heap.UpToSlots g->Inv X π σ H' { s' with heap:=g }:=λg k up=>
  I.call' (ch:=[]) os (Un.fly un fl0.1 fl0.2.2.1 hB k up) (gY.fly hok hf1 fl0.1 hB k) bare (λ_ z=>nomatch z)
 have invx:∀g,B.StaysIn g->s'.heap.UpToSlots g->yt ea C dc g->Inv X π σ (upd H' ea (.ext (yt ea C dc))) { s' with heap:=g }:=λg k up p=>
  I.call' (ch:=[]) os (Un.ext (Un.fly un fl0.1 fl0.2.2.1 hB k up) hne hnew) (gY.ext (gY.fly hok hf1 fl0.1 hB k) hne p (let ⟨o,_,e,_⟩:=p;⟨o,e⟩) CQ) bare (λ_ z=>nomatch z)
 refine xP hA hstk.2 fl hdc λh4 held4 up4 dc4=>?_;refine xQ held4 dc4 λh5 fl5 up5 dc5=>?_;have I5:Inv (DL.hand X ea) π σ H' { s' with heap:=h5 }:=Inv.hand (inv h5 fl5.1 (up4.trans up5));refine wpAny_handleBy_cons (codeAny_handlers_test ?_) (by intro q;cases q);refine ij I5 hg hm ?_ hdb;obtain⟨ob,hob,hoc⟩:=fl5.there;have LT:V1 (Tb X.prog X.w) h5 (typeOf (.ref ea)) (.ref C):=hoc▸(V1.ld hob).andThen .now;refine(W.exm_one I5.kIn LT (hx C ox H' hE)).here ?_;refine codeAny_handlers_suite_as ?_;refine xS fl5 dc5 λh6 fl6 up6 dc6=>?_;obtain⟨oe,vs,he,hc,hd,_⟩:=fl6.first
 have I6:Inv (DL.hand X ea) π σ (upd H' ea (.ext (yt ea C dc))) { s' with heap:=h6 }:=Inv.hand (invx h6 fl6.1 ((up4.trans up5).trans up6) ⟨oe,vs,he,hc,hd,(by obtain⟨o6,e6,d6,_⟩:=dc6;rw[he]at e6;cases e6;exact d6)⟩);refine iA (X:=DL.hand X ea) (v:=.ref ea) I6 hN hi (.inl hlo) rfl (λs7 I7=>?_) (.inr hlo);refine T4 (hs ea C dc ox H' s7 hE hox hne I7) (λf s8 h8=>?_) λ_ _ z=>z.elim;have hcls:(X.env.scope.kind==.class||(X.env.scope.kind==.module&&X.env.locals != X.env.globals))=false:=by rw[I.ok.kind];rfl
 have fin:∀{σ':L2.St}{H2:Hp}{Q:Unit->SI->Prop},Inv (DL.hand X ea) π σ' H2 s8->(∀s9,Inv X π (σ'.set ni none) H2 s9->Q () s9) ->
   Td (Tb X.prog X.w) X.A (do bindName X.env n .none;unbindBehindTheSuite X.env n hpos) Q X.xe s8:=λ{σ' H2 Q} J q=>by
  have J':=iT I.ok J;obtain⟨m,hn,hl⟩:=id J'.loc;exact wpAny_nameGoes_keeps hlo hn hcls λh' v hn' hs'=>q _ (GY J' hN hi hl hn' hs')
 cases f with|next=>obtain⟨σ',H2,J,q⟩:=h8;exact fin J λs9 J9=>⟨_,H2,J9,q⟩|brk=>obtain⟨σ',H2,J,q⟩:=h8;exact fin J λs9 J9=>⟨_,H2,J9,q⟩|cont=>obtain⟨σ',H2,J,q⟩:=h8;exact fin J λs9 J9=>⟨_,H2,J9,q⟩|ret u=>obtain⟨v,σ',H2,J,r,q⟩:=h8;exact fin J λs9 J9=>⟨v,_,H2,J9,r,q⟩
end
def PA.nox{X:Cx}{es:List Tn}{t:TA}(h:PA X.nox es t):PA X es t:=λpos π s σ H Q I hw=>
 T4 (h pos π s σ H Q (I.wish _) hw) (λ_ _ ⟨v,H',I',r,q⟩=>⟨v,H',I'.unwish,r,q⟩) λ_ _ z=>T8 z
section
variable {X:Cx}{π:List (SA×Obj)}{σ:L2.St}{H:Hp}{s:SI}{CX:tT}{k:Nat}{f:SA}{fd:TQ}{ps:ci}{sp:Sp}{Ex:XK}{x:SH}{p pos:Pos}{e:Tn}{es:List Tn}{t:TA}
def v8{Q:VK}{XE:Sy->SI->Prop}(F:FnOk X.prog X.w X.K X.mg X.base CX k f fd ps sp)(hr:dw k X.A)(hg:Gl X x)(hm:X.mg x=some (.ref f))(hk:Vv X.K (.ref f)=true)(hb:gb X.K fd ps [])(ha:PA X.nox (e::es) t)
  (I:Inv X π σ H s)(h:t σ H λvs H1=>sp vs H1 Q Ex)(hx:∀H1 s1 e s',Inv X π σ H1 s1->CX X.stack H1 s1 Ex e s'->XE e s')
  (hdb:(x==("__debug__" : SH))=false:=by decide)(he:SJ (e::es) X.env=(false,eval e X.env)::SJ es X.env:=by exact aF rfl)(hpl:(TZ pos (SJ es X.env)).any (·.1)=false:=by exact bj rfl) :
  Td (Tb X.prog X.w) X.A (eval (.Call (.Name x p) (e::es) [] pos) X.env) (EP X π σ Q) XE s:=by
 refine wpAny_Call_Name_kw (ij I hg hm ?_ hdb);have ha':PA (X.wish XE) (e::es) t:=PA.nox (X:=X.wish XE) ha;refine W.callWith_K (h₀:=X.base) I.ok.mod.kin hk (cX (ha' pos π s σ H _ (I.wish XE) h) λus s1 z9=>?_) he hpl;obtain⟨vs,H1,I1,r,q⟩:=z9;refine⟨I1.unwish.kIn,?_⟩;have I1:=I1.unwish;have hl:us.length=ps.length:=by rw[←r.length];exact F.len _ _ _ _ q
 have hb1:=hb s1 us I1.kIn (by simpa using hl);rw[Ut]at hb1;refine wpAny_call (codeAny_mono (F.run X.A X.stack s1 H1 ⟨us,[]⟩ us vs Q Ex hr I1.env0 hb1 r q) λr s' hq=>?_);cases r with
 |error e=>exact hx H1 s1 e s' I1 hq
 |ok fl=>
  cases fl with|ret u=>exact I1.after hq|next|brk|cont=>exact T8 hq
end
def mv(K:SE)(He η Ha:Hp)(r:ak Fl)(D:gV):Prop:=match r with
 |.exn _=>True
 |r=>bT K E0 He η Ha r D
def Ou(K:SE)(He η Ha:Hp)(σ:L2.St)(ρ:Ev)(r:ak Fl):XK:=λC ox H'=>∃x Ha',r=.exn x/\aD Ha Ha'/\eO K He η Ha' σ H' ρ/\wq K Ha' x C ox
structure TB (X:Cx) (st:Ud) (g:bv):Prop where
 o:∀(π:List (SA×Obj)) (s:SI) (σ:L2.St) (H He η Ha:Hp) (ρ:Ev) (D:gV) (XE:Sy->SI->Prop),Inv X π σ H s->eO X.K He η Ha σ H ρ->mv X.K He η Ha (g ρ) D ->
  (∀H1 s1 e s',Inv X π σ H1 s1->gi X.prog X.w X.stack H1 s1 (Ou X.K He η Ha σ ρ (g ρ)) e s'->XE e s')->Td (Tb X.prog X.w) X.A (exec st X.env) (SP X π D) XE s
def kS(i:Nat)(fa:Ev->ak (ac))(m:ac->ak D):bv:=λρ=>match fa ρ with
 |.ok ds=>(m ds).bind λd=>.ok (.nx (ρ.set i (.sh d)))
 |_=>.stuck
section
variable {X:Cx}{E:XK}{e:Tn}{es:List Tn}{fa:Ev->ak (ac)}{pos:Pos}
def LK{i:Nat}{y:SH}{pos':Pos}{k n:Nat}{fn:SA}{fd:TQ}{ps:ci}{m:ac->ak D}{x:SH}{p cpos:Pos}(hN:X.N.Nodup)(hi:X.N[i]?=some y)(hy:zL X.env.scope y)
  (F:FnOk X.prog X.w X.K X.mg X.base (gi X.prog X.w) k fn fd ps (spD X.K n m))(hr:dw k X.A)(hg:Gl X x)(hm:X.mg x=some (.ref fn))
  (hk:Vv X.K (.ref fn)=true)(hb:gb X.K fd ps [])(ha:DA X.nox E0 (e::es) fa)(hn:(e::es).length=n:=by rfl)(hl:∀ρ ds,fa ρ=.ok ds->ds.length=(e::es).length)
  (hdb:(x==("__debug__" : SH))=false:=by decide)(he:SJ (e::es) X.env=(false,eval e X.env)::SJ es X.env:=by exact aF rfl)(hpl:(TZ cpos (SJ es X.env)).any (·.1)=false:=by exact bj rfl)
  (hs:T1 (.Call (.Name x p) (e::es) [] cpos) (some (.Name y pos')) pos.line X.env=pure false:=by rfl)
  (hf:X.fn y=true∨X.env.scope.names.lookup y=some .local := by first|exact .inl rfl|exact .inr rfl|assumption):TB X (.Assign [.Name y pos'] (.Call (.Name x p) (e::es) [] cpos) pos) (kS i fa m):=by
 refine⟨λπ s σ H He η Ha ρ D XE I h q hx=>?_⟩;refine wpAny_Assign_Name (cX (v8 (Q:=λv H1=>D.nx (σ.set i (some v)) H1) F hr hg hm hk hb ha.o I ?_ hx hdb he hpl) λv s1 ⟨y,H1,I1,r1,q1⟩=>?_) hs
 .refine⟨Ha,ρ,h.g.sub,h.rd,?_⟩
  unfold kS at q ⊢;cases e1:fa ρ with
  |stuck=>rw[e1]at q;exact q|exn x=>rw[e1]at q;exact q.elim
  |ok ds=>
   rw[e1]at q;intro vs H1 H01 g1 r1;refine⟨?_,H01,ds,g1.sub,r1,?_⟩
   .have:=r1.length
    have:=hl ρ ds e1;omega
   .show post _ _ _ _ (m ds) _
    cases e2:m ds with
    |stuck=>simp only[e2]at q;exact q
    |exn x=>exact λC ox H' Ha' g ex=>⟨x,Ha',by simp only[e2];rfl,g1.z.trans g.z,h.grow (g1.trans g),ex⟩
    |ok d=>
     simp only[e2]at q;exact λv H' Ha' g rp=>q _ H' Ha' (g1.z.trans g.z) ((h.grow (g1.trans g)).put rp)
 .exact iA I1 hN hi hy r1 (λs2 I2=>⟨_,H1,I2,q1⟩) hf
def eO.drop{K:SE}{He η Ha H:Hp}{σ:L2.St}{ρ:Ev}(h:eO K He η Ha σ H ρ){i:Nat}:eO K He η Ha (σ.set i none) H (ρ.set i .no):=by
 have key:∀(j:Nat) (s:Sl),(ρ.set i .no)[j]?=some s->s≠.no->j≠i/\ρ[j]?=some s:=λj s e hs=>by
  by_cases hj:i=j
  .subst hj
   rw[UE]at e;cases q:ρ[i]? with|none=>rw[q]at e;cases e|some s'=>rw[q]at e;cases e;exact absurd rfl hs
  .rw[SO hj]at e
   exact⟨λz=>hj z.symm,e⟩
 refine⟨h.g,λj d' e=>?_,λj d' e=>?_,λj k d1 d2 hn e1 e2=>?_,by simp[h.ln],h.ex.upd (λj s e=>?_) (aD.refl _) (λa vs _ e=>e) λp us _ h0 hp _=>⟨hp,h0⟩⟩
 rotate_left 3
 .by_cases hs:s=.no
  .exact .inr (.inr (.inl hs))
  .obtain⟨hj,e'⟩:=key j s e hs
   exact .inl ⟨e',by rw[SO (TF hj)]⟩
 .obtain⟨hj,e'⟩:=key j _ e (by simp)
  obtain⟨v',h1,h2⟩:=h.rd j d' e';exact⟨v',by rw[SO (TF hj)];exact h1,h2⟩
 .obtain⟨hj,e'⟩:=key j _ e (by simp)
  obtain⟨a,h1,h2⟩:=h.ow j d' e';exact⟨a,by rw[SO (TF hj)];exact h1,h2⟩
 .obtain⟨hj,e1'⟩:=key j _ e1 (by simp)
  obtain⟨hk,e2'⟩:=key k _ e2 (by simp);rw[SO (TF hj),SO (TF hk)];exact h.ap j k d1 d2 hn e1' e2'
def Co(ni:Nat)(r:Fl):ak Fl:=match r with
 |.nx ρ=>.ok (.nx (ρ.set ni .no))
 |.rt d=>.ok (.rt d)
 |.bk ρ=>.ok (.bk (ρ.set ni .no))
 |.ct ρ=>.ok (.ct (ρ.set ni .no))
def nX(x:G1):D:=match x.flds with
 |[]=>.exc x.cls
 |f::fs=>if((f::fs).map (·.1)).Nodup then .ob (.exf x.cls ((f::fs).map (·.1))) ((f::fs).map (·.2)) else .exc x.cls
theorem uu{β:Type}:∀{l:List (SH×β)}{f:SH}{d:β},(l.map (·.1)).Nodup->(f,d)∈l->l.lookup f=some d
 |(g,e)::l,f,d,nd,h=>by
  rw[Tv,U5]at nd;rcases SV.mp h with h|h
  .cases h;rw[UC,beq_self_eq_true]
  .have:f≠g:=λz=>nd.1 (z▸Tt.mpr ⟨(f,d),h,rfl⟩)
   rw[UC,beq_eq_false_iff_ne.mpr this];exact uu nd.2 h
theorem xM{K:SE}{H:Hp}{fs:List (SH×V)}:∀(l:List (SH×D)),(∀n d,(n,d)∈l->∃v,fs.lookup n=some v/\Rep K H d v)->∃vs,Reps K H (l.map (·.2)) vs/\l.length=vs.length/\∀(i:Nat) (f:SH) (v:V),(l.map (·.1))[i]?=some f->vs[i]?=some v->fs.lookup f=some v
 |[],_=>⟨[],Reps.nil_iff.mpr rfl,rfl,λi f v e=>by simp at e⟩
 |(n,d)::l,h=>by
  obtain⟨v,h1,h2⟩:=h n d SQ;obtain⟨vs,h3,h4,h5⟩:=xM l λn d hm=>h n d (SM _ hm);refine⟨v::vs,aA.mpr ⟨v,vs,rfl,h2,h3⟩,by simp[h4],λi f w e1 e2=>?_⟩;cases i with|zero=>simp at e1 e2;rw[←e1,←e2];exact h1|succ i=>exact h5 i f w (by simpa using e1) (by simpa using e2)
def FZ{K:SE}{H:Hp}{x:G1}{C ea:SA}{ox dc:Option SA}(xc:XC K x.cls C)(ex:wq K H x (.ref C) ox)(hox:ox=none∨ox=dc)(hne:H ea=none):Rep K (upd H ea (.ext (yt ea C dc))) (nX x) (.ref ea):=by
 have plain:Rep K (upd H ea (.ext (yt ea C dc))) (.exc x.cls) (.ref ea):=gU.mpr ⟨ea,C,dc,rfl,xc,.inl az⟩;have sm:aD H (upd H ea (.ext (yt ea C dc))):=λb o q=>by rw[ax (bg q hne)];exact q
 obtain⟨cls,flds⟩:=x;unfold nX;cases flds with
 |nil=>exact plain
 |cons f fs=>
  show Rep _ _ (if((f::fs).map (·.1)).Nodup then D.ob (.exf cls ((f::fs).map (·.1))) ((f::fs).map (·.2)) else .exc cls) _
  by_cases nd:((f::fs).map (·.1)).Nodup
  .rw[if_pos nd]
   obtain⟨_,hm⟩:=ex;cases ox with
   |none=>cases hm
   |some a=>
    obtain⟨gs,h1,h2⟩:=hm;have hdc:dc=some a:=by
     rcases hox with z|z
     .cases z
     .exact z.symm
    obtain⟨vs,k1,k2,k3⟩:=xM (K:=K) (H:=H) (fs:=gs) (f::fs) λn d hmm=>h2 n d (uu nd hmm);exact bO.mpr ⟨ea,vs,rfl,⟨C,a,gs,xc,hdc▸.inl az,sm _ _ h1,by rw[SD];exact k2,k3⟩,k1.mono sm⟩
  .rw[if_neg nd];exact plain
def yD(g:bv)(hit:SH->Bool)(ni:Nat)(sh:bv):bv:=λρ=>match g ρ with
 |.exn x=>if hit x.cls=true then(sh (ρ.set ni (.sh (nX x)))).bind (Co ni) else .stuck
 |r=>r
def Gn{He η:Hp}{st ba:Ud}{suite:List Ud}{g sh:bv}{hit:SH->Bool}{ni:Nat}{c n:SH}{np hpos:Pos}{cv:Sy}(hstk:X.stack=X.env::X.outer/\X.env.frame=some X.env.locals)(hb:TB X st g)
  (hg:Gl X c)(hm:X.mg c=some cv)(hhit:∀x C,hit x=true->XC X.K x C->WS X.K (.ref C) cv=some true)(hN:X.N.Nodup)(hi:X.N[ni]?=some n)(hlo:X.env.scope.names.lookup n=some .local)
  (hh:∀ea,wt (DL.hand X ea) E He η (ba::suite) sh)(hdb:(c==("__debug__" : SH))=false:=by decide) :
  DS X E He η (.Try [st] [.ExceptHandler (some (.Name c np)) (some n) (ba::suite) hpos] [] [] pos) (yD g hit ni sh):=by
 refine⟨?_⟩;intro π s σ H D I ⟨Ha,ρ,h,q⟩;have hq:mv X.K He η Ha (g ρ) D:=by
  unfold yD at q;cases e1:g ρ with
  |exn x=>trivial|stuck=>rw[e1]at q;exact q
  |ok r=>rw[e1]at q;cases r<;>exact q
 refine wpAny_Try_except (wpAny_execs_cons (cX (hb.o π s σ H He η Ha ρ D _ I h hq λH1 s1 e s' I1 hc=>?_) λf s1 hf=>?_))
 .have hit1:∀x,g ρ=.exn x->hit x.cls=true:=λx e1=>by
   unfold yD at q;rw[e1]at q
   by_cases z:hit x.cls=true
   .exact z
   .simp only[if_neg z]at q;exact q.elim
  refine NM hstk I1 hc hg hm (λC ox H' ⟨x,Ha',e1,_,_,⟨⟨c',ec,xc⟩,_⟩⟩=>?_) hN hi hlo (λea C dc ox H' s2 ⟨x,Ha',e1,sm,srx,⟨⟨c',ec,xc⟩,hm2⟩⟩ hox hne I2=>?_) hdb
  .cases ec;exact hhit _ _ (hit1 x e1) xc
  .cases ec
   refine(hh ea).o π s2 _ _ _ I2 ⟨upd Ha' ea (.ext (yt ea C dc)),ρ.set ni (.sh (nX x)),(srx.grow (aI srx.g.sub hne)).put (FZ xc ⟨⟨C,rfl,xc⟩,hm2⟩ hox (srx.g.sub.free hne)),?_⟩;have sm2:aD Ha (upd Ha' ea (.ext (yt ea C dc))):=sm.trans (aI srx.g.sub hne).z;unfold yD at q;rw[e1]at q;simp only[if_pos (hit1 x e1)]at q;cases e2:sh (ρ.set ni (.sh (nX x))) with
   |stuck|exn z=>rw[e2]at q;exact q
   |ok r=>
    rw[e2]at q;cases r with|nx ρ'=>exact λσ' H2 H02 s2 h2=>q _ H2 H02 (sm2.trans s2) (eO.drop h2)|rt d=>exact q|bk ρ'=>exact λσ' H2 H02 s2 h2=>q _ H2 H02 (sm2.trans s2) (eO.drop h2)|ct ρ'=>exact λσ' H2 H02 s2 h2=>q _ H2 H02 (sm2.trans s2) (eO.drop h2)
 .cases f with
  |next=>exact wpAny_execs_nil (wpAny_execs_nil hf)
  |brk=>exact hf
  |cont=>exact hf
  |ret u=>exact hf
end
structure Ql (k:Nat) (A:TK):Prop where
 dp:A.depth+3*k+5<recursionLimit
 un:A.units+16*k+200<Wu
def dw.h{k:Nat}{A:TK}(r:dw k A):Ql k A:=⟨r.dp,r.un⟩
def vX(tab:SH->Option Bool)(x:D):ak D:=match x with
 |.exc c=>(match tab c with
  |some b=>.ok (.bl b)
  |none=>.stuck)
 |.ob (.exf c _) _=>(match tab c with
  |some b=>.ok (.bl b)
  |none=>.stuck)
 |_=>.stuck
def yi(K:SE)(tab:SH->Option Bool)(cv:Sy):Prop:=∀c C b,tab c=some b->XC K c C->X7 K (.ref C) cv=some b
section
variable {X:Cx}{E:XK}{e a:Tn}{es:List Tn}{f:am}{pos:Pos}{tab:SH->Option Bool}
def Jg{cV:V}{cv:Sy}(hrel:∀u,bW cV u->u=cv)(ht:yi X.K tab cv):iU X (.builtin "isinstance") (λvs H Q=>∃c v b,vs=[v,cV]/\Rep X.K H (.exc c) v/\tab c=some b/\Q (.bl b) H):=by
 intro π s σ H xs us Q I r h;obtain⟨c,v,b,rfl,h1,h2,q⟩:=h;cases r with
 |cons r1 r2=>
  cases r2 with
  |cons r3 r4=>
   cases r4;rename_i u1 u2;obtain rfl:=hrel _ r3;obtain⟨ad,C,dc,rfl,hc,hr⟩:=gU.mp h1;cases (show u1=Tu ad from r1);obtain⟨p,_,_⟩:=hr.ok I.hok;exact UB (rg hc.ek hc.ek.isCls) I.kIn p (ht c C b h2 hc) (λz=>nomatch z) λtk=>⟨.bl b,H,I.tok _,rfl,q⟩
def Fw{cV:V}{σ:L2.St}{H:Hp}{Q:VK}(h:tD X.K E (aS f (vX tab)) σ H Q):tD X.K E f σ H λv H1=>∃c v' b,[v,cV]=[v',cV]/\Rep X.K H1 (.exc c) v'/\tab c=some b/\Q (.bl b) H1:=by
 obtain⟨Ha,ρ,hs,hr,q⟩:=h;refine⟨Ha,ρ,hs,hr,?_⟩;unfold aS at q;cases e1:f ρ with
 |stuck|exn x=>rw[e1]at q;exact q
 |ok d=>
  rw[e1]at q;intro v H1 H01 g1 r1;have q:post X.K E H Ha (vX tab d) Q:=q;cases d with
  |exc c=>
   unfold vX at q;cases e2:tab c with|none=>simp only[e2]at q;exact q.elim|some b=>simp only[e2]at q;exact⟨c,v,b,rfl,r1.mono g1.sub,e2,q _ H1 H01 g1 (rb _)⟩
  |ob k ds=>
   cases k with
   |exf c ks=>
    replace r1:=r1.exf_exc;unfold vX at q;cases e2:tab c with|none=>simp only[e2]at q;exact q.elim|some b=>simp only[e2]at q;exact⟨c,v,b,rfl,r1.mono g1.sub,e2,q _ H1 H01 g1 (rb _)⟩
   |_=>exact q.elim
  |_=>exact q.elim
def NF{x:SH}{p1 p2:Pos}{cV:V}{cv:Sy}(hrel:∀u,bW cV u->u=cv)(ht:yi X.K tab cv)(hc:PE X (.Name x p2) (tC cV))(hgi:Gl X "isinstance")(hmi:X.mg "isinstance"=none)(ha:DE X E a f)
  (he:SJ [a,.Name x p2] X.env=(false,eval a X.env)::SJ [.Name x p2] X.env:=by exact aF rfl)(he2:SJ [.Name x p2] X.env=(false,eval (.Name x p2) X.env)::SJ [] X.env:=by exact aF rfl)(hpl:(TZ pos (SJ [.Name x p2] X.env)).any (·.1)=false:=by exact bj rfl) :
  DE X E (.Call (.Name "isinstance" p1) [a,.Name x p2] [] pos) (aS f (vX tab)):=by
 refine⟨?_⟩;exact bc (qV (Jg hrel ht) hgi hmi PyProof.Rows.Boot.«isinstance» (cG ha.o (cG hc e7 he2) he) (by decide) (by decide) he hpl) λσ H Q h=>Fw h
def CY{x:SH}{p1 p2:Pos}{C:SA}(hg:Gl X x)(hm:X.mg x=some (.ref C))(ht:yi X.K tab (.ref C))(hgi:Gl X "isinstance")(hmi:X.mg "isinstance"=none)(ha:DE X E a f)(hdb:(x==("__debug__" : SH))=false:=by decide)
  (he:SJ [a,.Name x p2] X.env=(false,eval a X.env)::SJ [.Name x p2] X.env:=by exact aF rfl):DE X E (.Call (.Name "isinstance" p1) [a,.Name x p2] [] pos) (aS f (vX tab)) :=
 NF (cV:=.ref C) (λu h=>h) ht (Am hg hm rfl hdb) hgi hmi ha he
end
end DL
namespace DL
open PySem PySem.Spec PyProof.Rows L2 PySem.W
structure lu (K:Frag) (x:SH) (C:SA):Prop where
 ns:nsIn K Te x=some (some (.ref C))
 ty:typeIn K (.ref C)=some (.type "type")
 ob:mroIn K C (.type "object")=some true
 be:subIn K (.ref C) (.type "BaseException")=some true
def lu.isCls{K:Frag}{x:SH}{C:SA}(Z:lu K x C):(clsIn K C).isSome=true:=by
 obtain⟨cd,a,b⟩:=XD.mp Z.ob;rw[a];rfl
def lu.kitCls{K:Frag}{x:SH}{C:SA}(Z:lu K x C){t:Sy}:W.kitCls K t (.ref C)=subIn K t (.ref C):=by
 show(if((clsIn K C).isSome&&typeIn K (.ref C)==some (.type "type"))=true then subIn K t (.ref C) else none)=_;rw[Z.isCls,Z.ty];rfl
def lu.exm{K:Frag}{x:SH}{C:SA}(Z:lu K x C){t:Sy}{b:Bool}(h:subIn K t (.ref C)=some b):exmOne K t (.ref C)=some b:=by
 unfold exmOne;rw[Z.be,if_pos (by decide),Z.kitCls,h]
def lu.kit{K:Frag}{x:SH}{C R:SA}(Z:lu K x C){b:Bool}(hR:subIn K (.ref R) (.ref R)=some true)(h:subIn K (.ref R) (.ref C)=some b):kitOne K (.ref R) (.ref C)=some b:=by
 unfold kitOne
 by_cases e:(Tu R==Tu C)=true
 .rw[if_pos e]
  cases (Tu.inj (beq_iff_eq.mp e));rw[←hR,h]
 .rw[if_neg e,Z.kitCls,h]
def y6{K:Frag}{C:SA}{T:String}{b:Bool}(hm:kitMeta T=true)(h:subIn K (.ref C) (.type T)=some b):kitOne K (.ref C) (.type T)=some b:=by
 unfold kitOne;rw[if_neg (by intro z;cases beq_iff_eq.mp z)];show(if kitMeta T=true then subIn K (.ref C) (.type T) else none)=_;rw[if_pos hm,h]
def kX:∀T∈gA,kitMeta T=true:=by decide +kernel
structure yg (K:Frag) (x:SH) (C:SA):Prop where
 i:lu K x C
 cls:findIn K (.ref C) "__class__"=some (some (.builtin "object.__class__"))
 ga:findIn K (.ref C) "__getattribute__"=some (some (.builtin "BaseException.__getattribute__"))
 gt:findIn K (.ref C) "__getattr__"=some none
 t1:subIn K (.ref C) (.type "NoneType")=some false
 t2:subIn K (.ref C) (.type "bool")=some false
 t3:subIn K (.ref C) (.type "int")=some false
 t4:subIn K (.ref C) (.type "str")=some false
 t5:subIn K (.ref C) (.type "tuple")=some false
 t6:subIn K (.ref C) (.type "list")=some false
 t7:subIn K (.ref C) (.type "dict")=some false
 ve:subIn K (.ref C) (.type "ValueError")=some true
 self:subIn K (.ref C) (.ref C)=some true
 ex:excIn K C [.type "ValueError",.type "Exception",.type "BaseException",.type "object"] "ValueError.__new__"=true
def yg.xcls{K:Frag}{x:SH}{C:SA}(Z:yg K x C):Kw K x C where
 xc:=⟨Z.i.ns,⟨Z.cls,Z.ga,Z.gt,Z.i.ob,Z.i.be⟩,λT hT=>by
  refine y6 (kX T hT) ?_;simp only[gA,SV,Ui,or_false]at hT;rcases hT with rfl|rfl|rfl|rfl|rfl|rfl|rfl
  .exact Z.t1
  .exact Z.t2
  .exact Z.t3
  .exact Z.t4
  .exact Z.t5
  .exact Z.t6
  .exact Z.t7⟩
 ex:=Z.ex
def XC.inj{K:Frag}{x:SH}{C C':SA}(a:XC K x C)(b:XC K x C'):C=C':=by
 have:=a.ns.symm.trans b.ns;simpa using this
def oF:List (SH×Bool)->SH->Option Bool
 |[],_=>none
 |(x,b)::r,c=>if x=c then some b else oF r c
theorem lF{K:Frag}{p:SH->SA->Bool->Prop}:∀{l:List (SH×Bool)},(∀q∈l,∃C,XC K q.1 C/\p q.1 C q.2)->∀c C b,oF l c=some b->XC K c C->p c C b
 |[],_,c,C,b,h,_=>by cases h
 |(x,v)::r,H,c,C,b,h,xc=>by
  unfold oF at h
  by_cases e:x=c
  .subst e
   rw[if_pos rfl]at h;cases h;obtain⟨C',xc',q⟩:=H _ SQ;obtain rfl:=XC.inj xc xc';exact q
  .rw[if_neg e]at h
   exact lF (λq hq=>H q (SM _ hq)) c C b h xc
def gN(l:List (SH×Bool))(c:SH):Bool:=oF l c==some true
def FD{K:Frag}{l:List (SH×Bool)}{cv:Sy}(H:∀q∈l,∃C,XC K q.1 C/\exmOne K (.ref C) cv=some q.2):∀x C,gN l x=true->XC K x C->exmOne K (.ref C) cv=some true:=λx C h xc=>
 lF (p:=λ_ C b=>exmOne K (.ref C) cv=some b) H x C true (by unfold gN at h;exact beq_iff_eq.mp h) xc
end DL
namespace Com
open PySem L2 DL
section
variable {α β:Type}
def bZ{x:G1}{f:α->ak β}:(ak.exn x:ak α).bind f=.exn x:=aU rfl
end
def DM(hit:SH->Bool)(ni:Nat)(sh:bv)(ρ:Ev)(r:ak Fl):ak Fl:=match r with
 |.exn x=>if hit x.cls=true then(sh (ρ.set ni (.sh (nX x)))).bind (Co ni) else .stuck
 |r=>r
def zo{g:bv}{hit:SH->Bool}{ni:Nat}{sh:bv}{ρ:Ev}:yD g hit ni sh ρ=DM hit ni sh ρ (g ρ):=aU rfl
def Jv{hit:SH->Bool}{ni:Nat}{sh:bv}{ρ:Ev}{r:Fl}:DM hit ni sh ρ (.ok r)=.ok r:=aU rfl
def F8{ni:Nat}{ρ:Ev}:Co ni (.nx ρ)=.ok (.nx (ρ.set ni .no)):=aU rfl
def KU(i:Nat)(m:ac->ak D)(ρ:Ev)(r:ak (ac)):ak Fl:=match r with
 |.ok ds=>(m ds).bind (HV i ρ)
 |_=>.stuck
def jd{i:Nat}{fa:Ev->ak (ac)}{m:ac->ak D}{ρ:Ev}:kS i fa m ρ=KU i m ρ (fa ρ):=aU rfl
def gP{i:Nat}{m:ac->ak D}{ρ:Ev}{ds:ac}:KU i m ρ (.ok ds)=(m ds).bind (HV i ρ):=aU rfl
end Com
namespace DL
open PySem PySem.Spec PyProof.Rows L2
def KC(lo st:Int)(n:Nat):It:=⟨λi _=>i<n,λi H x H'=>H'=H/\x=.int (lo+i*st),λi _=>n<=i⟩
def wB{P:Tr}{w:TU}{K:SE}{tg:Tn}(it:SA)(lo sp:Int)(n:Nat):zK P w K tg (KC lo sp n) [it] it (λi h=>IsRangeIter h it (lo+(i:Nat)*sp) ((n:Int)-(i:Nat)) sp) where
 mem:=by simp
 obj:=λi h st b hb=>by
  have e:b=it:=by simpa using hb
  subst e;exact⟨_,st,λv z=>by
   have z':Data.fields _=Data.cell v:=z;cases z'⟩
 keep:=λi h h' st k=>k it (by simp) _ st
 item:=by
  intro X hP hw hK hc i π s σ H E I hf st hg;subst hP hw hK;obtain⟨f0,f1,f2,f3,f4,f5⟩:=hf it (by simp);have W:=Walks.range (prog:=X.prog) (w:=X.w) (I.ok.hd hc) it lo sp n;refine W.item i s _ _ hg st λv h' tk hv st' kk=>?_;obtain⟨t,rfl⟩:=hv;have I1:Inv X π σ H { s with heap:=h',toks:=tk }:=I.turned (λb o hb e=>kk b o (by simpa using hb) e) f0 f1 f3 f4 f5;exact⟨_,rfl,xH (s:={ s with heap:=h',toks:=tk }) (n:="range_iterator") st' rfl rfl (by decide) ⟨.int (lo+i*sp),H,I1,⟨t,rfl⟩,⟨rfl,rfl⟩,st',λb hb=>(hf b hb).1⟩⟩
 done:=by
  intro X hP hw hK hc i π s σ H E I hf st hg;subst hP hw hK;obtain⟨f0,f1,f2,f3,f4,f5⟩:=hf it (by simp);exact wpAny_pyNext_range_end (I.ok.hd hc) st (by have:n<=i:=hg;omega) λh' eb=>⟨rfl,I.turned (t':=s.toks) (λb o hb e=>eb b o hb e) f0 f1 f3 f4 f5⟩
 self:=λ_ _ _ _ _ st h=>wpAny_pyIter_rangeiter st h
def n2(lo hi sp:Int):Nat:=if lo<hi then((hi-lo-1) / sp+1).toNat else 0
def KS{lo hi sp:Int}(h:1<=sp):VL lo hi sp=(n2 lo hi sp:Int):=by
 unfold VL n2;rw[if_pos (show sp > 0 by omega)];split
 .have:0<=(hi-lo-1) / sp:=VE (by omega) (by omega)
  omega
 .rfl
def BL{a b sp:Int}(ha:0<=a)(ha':a<=1000000)(hb:0<=b)(hb':b<=1000000)(hs:1<=sp)(hs':sp<=1000000):Yh a b sp=true:=by
 have hx:0<sp:=by omega
 have e1:(n2 a b sp:Int)<=1000000/\0<=(n2 a b sp:Int):=by
  refine⟨?_,by omega⟩;unfold n2;split
  .have h1:0<=(b-a-1) / sp:=VE (by omega) (by omega)
   have h2:(b-a-1) / sp<=b-a-1:=Int.ediv_le_self _ (by omega);omega
  .decide
 have e2:a<b->(n2 a b sp:Int)=(b-a-1) / sp+1:=λh=>by
  unfold n2;rw[if_pos h];have h1:0<=(b-a-1) / sp:=VE (by omega) (by omega);omega
 have e3:a<b->(b-a-1) / sp*sp<=b-a-1:=λh=>Int.ediv_mul_le _ (by omega);unfold Yh;rw[KS hs];simp only[Builtin.Range.rangeFitsLong,SX,Wv,decide_eq_true_eq,beq_iff_eq,show sp > 0 from hx,if_true];refine⟨⟨⟨⟨⟨by omega,by omega⟩,by omega,by omega⟩,by omega,by omega⟩,by omega,by omega⟩,.inr ⟨by omega,by omega⟩⟩
section
variable {X:Cx}{E:XK}{tg a b c:Tn}{f g:am}
def Ce{π:List (SA×Obj)}{σ:L2.St}{H:Hp}{s:SI}{R:It->Hp->Prop}{E:Sy->SI->Prop}{lo hi sp:Int}{t u v:Tok}{tk:Nat}(I:Inv X π σ H s)(h1:0<=lo)(h2:lo<=1000000)(h3:0<=hi)(h4:hi<=1000000)(h5:1<=sp)(h6:sp<=1000000)
  (q:R (KC lo sp (n2 lo hi sp)) H):Td (Tb X.prog X.w) X.A (XF (.ref s.heap.objs.size)) (QF X π σ tg R) E { s with heap:=s.heap.push { cls:=.type "range",data:=.fields #[.int lo t,.int hi u,.int sp v] },toks:=tk }:=by
 refine wpAny_pyIter_range (IsRange.new ..) (BL h1 h2 h3 h4 h5 h6) ?_;have I1:Inv X π σ H { s with heap:=s.heap.push { cls:=.type "range",data:=.fields #[.int lo t,.int hi u,.int sp v] },toks:=tk }:=I.kept λb o e=>SK _ e;refine⟨(s.heap.push { cls:=.type "range",data:=.fields #[.int lo t,.int hi u,.int sp v] }).objs.size,[(s.heap.push { cls:=.type "range",data:=.fields #[.int lo t,.int hi u,.int sp v] }).objs.size],_,_,H,rfl,
  I1.kept (t':=tk) λb o e=>SK _ e,wB _ lo sp (n2 lo hi sp),?_,λb hb=>?_,q⟩
 .have e1:lo+((0:Nat):Int)*sp=lo:=by simp
  have e2:((n2 lo hi sp:Nat):Int)-((0:Nat):Int)=VL lo hi sp:=by rw[KS h5];simp
  show IsRangeIter _ _ (lo+((0:Nat):Int)*sp) (((n2 lo hi sp:Nat):Int)-((0:Nat):Int)) sp;rw[e1,e2];exact TH _ rfl
 .have e:b=(s.heap.push { cls:=.type "range",data:=.fields #[.int lo t,.int hi u,.int sp v] }).objs.size:=by simpa using hb
  subst e;exact I1.fpOk (Tf _) (I1.hok.fresh (Tf _))
def Pu(ta:TA):TI:=λσ H R=>ta σ H λvs H1=>∃i j k:Int,vs=[.int i,.int j,.int k]/\(0<=i/\i<=1000000/\0<=j/\j<=1000000/\1<=k/\k<=1000000)/\R (KC i k (n2 i j k)) H1
def Cm{ta:TA}{p pos:Pos}(hg:Gl X "range")(hm:X.mg "range"=none)(ha:PA X [a,b,c] ta)(hs:SJ [a,b,c] X.env=(false,eval a X.env)::SJ [b,c] X.env)(hs2:(TZ pos (SJ [b,c] X.env)).any (·.1)=false) :
  PI X tg (.Call (.Name "range" p) [a,b,c] [] pos) (Pu ta):=by
 intro π s σ H R I h;refine Call_ (nT I hg hm boot_range (Vu (cX (ha pos π s σ H _ I h) λus s1 z9=>?_) hs hs2));obtain⟨vs,H1,I1,r1,q1⟩:=z9;obtain⟨i,j,k,e,⟨q1,q2,q3,q4,q5,q6⟩,q⟩:=q1;subst e;cases r1 with
 |cons r rr=>
  cases rr with
  |cons r' rr=>
   cases rr with
   |cons r2 rr=>
    cases rr;obtain⟨t,rfl⟩:=r;obtain⟨t',rfl⟩:=r';obtain⟨t2,rfl⟩:=r2;exact call_range_3 (by omega) (Ce I1 q1 q2 q3 q4 q5 q6 q) (SY (PyProof.noPylong_small (by omega)))
def iy(lo sp:Int)(n:Nat):ac:=(TY n).map λk:Nat=>.int (lo+(k:Int)*sp)
def ze{K:SE}{lo sp:Int}{n:Nat}{H:Hp}:N0 K (iy lo sp n) (KC lo sp n) H:=by
 have hl:(iy lo sp n).length=n:=by unfold iy;simp
 refine⟨λi H' Ha' _ _ hi=>?_,λi H' Ha' x H2 d s1 s2 hd hy=>?_,λi H' Ha' _ _ hi=>?_⟩
 .rw[hl]at hi;exact hi
 .obtain⟨rfl,rfl⟩:=hy
  have:d=.int (lo+i*sp):=by
   unfold iy at hd;rw[Ta]at hd;cases e:(TY n)[i]? with
   |none=>rw[e]at hd;cases hd
   |some k=>
    rw[e]at hd;have hk:k=i:=by
     obtain⟨h1,h2⟩:=SR.mp e;simpa using h2.symm
    subst hk;cases hd;rfl
  subst this;exact⟨Ha',bh.refl s2,ay.mpr rfl⟩
 .rw[hl]at hi;exact hi
def r3(d e c:D):ak (ac):=match d,e,c with
 |.int i,.int j,.int k=>if(1<=k/\k<=1000000)/\(0<=i/\i<=1000000)/\0<=j/\j<=1000000 then .ok (iy i k (n2 i j k)) else .stuck
 |_,_,_=>.stuck
def Sh(ds:ac):ak (ac):=match ds with
 |[d,e,c]=>r3 d e c
 |_=>.stuck
def wG(f g h:am):Ev->ak (ac):=λρ=>(ae f (ae g (ae h au)) ρ).bind Sh
def CU{h:am}{p pos:Pos}(hg:Gl X "range")(hm:X.mg "range"=none)(h1:DE X E a f)(h2:DE X E b g)(h3:DE X E c h)(hn:IH a=true:=by exact rfl)(hn2:IH b=true:=by exact rfl)(hn3:IH c=true:=by exact rfl):DI X E tg (.Call (.Name "range" p) [a,b,c] [] pos) (wG f g h):=by
 refine⟨mO (Cm hg hm (aa h1 (aa h2 (aa h3 aj (hs:=aF hn3)) (hs:=aF hn2)) (hs:=aF hn)).o (aF hn) (bj (by simp[hn2,hn3]))) λσ H R z9=>?_⟩;obtain⟨Ha,ρ,hs,hr,q⟩:=z9;refine⟨Ha,ρ,hs,hr,?_⟩;unfold wG at q;cases e1:ae f (ae g (ae h au)) ρ with
 |stuck|exn x=>rw[e1]at q;exact q
 |ok ds=>
  rw[e1]at q;intro vs H1 H01 g1 r1
  match ds,r1,q with
  |[],_,q=>exact q.elim
  |[_],_,q=>exact q.elim
  |[_,_],_,q=>exact q.elim
  |_::_::_::_::_,_,q=>exact q.elim
  |[x,y,z],r1,q=>
   have q:match r3 x y z with
      |.ok ds=>∀J H' Ha',bh H Ha H' Ha'->N0 X.K ds J Ha'->R J H'
      |.exn x=>∀C ox H' Ha',bh H Ha H' Ha'->wq X.K Ha' x C ox->E C ox H'
      |.stuck=>False:=q
   cases x with
   |int i=>
    cases y with
    |int j=>
     cases z with
     |int k=>
      obtain⟨v1,r,rfl,e1,r1⟩:=aA.mp r1;obtain⟨v2,r,rfl,e2,r1⟩:=aA.mp r1;obtain⟨v3,r,rfl,e3,r1⟩:=aA.mp r1;rw[Reps.nil_iff.mp r1,ay.mp e1,ay.mp e2,ay.mp e3];have q2:match (if(1<=k/\k<=1000000)/\(0<=i/\i<=1000000)/\0<=j/\j<=1000000 then ak.ok (iy i k (n2 i j k)) else .stuck) with
        |.ok ds=>∀J H' Ha',bh H Ha H' Ha'->N0 X.K ds J Ha'->R J H'
        |.exn x=>∀C ox H' Ha',bh H Ha H' Ha'->wq X.K Ha' x C ox->E C ox H'
        |.stuck=>False:=q
      by_cases hj:(1<=k/\k<=1000000)/\(0<=i/\i<=1000000)/\0<=j/\j<=1000000
      .rw[if_pos hj]at q2
       exact⟨i,j,k,rfl,⟨hj.2.1.1,hj.2.1.2,hj.2.2.1,hj.2.2.2,hj.1.1,hj.1.2⟩,q2 _ H1 H01 g1 ze⟩
      .rw[if_neg hj]at q2;exact q2.elim
     |_=>exact q.elim
    |_=>exact q.elim
   |_=>exact q.elim
end
section
variable {X:Cx}{π:List (SA×Obj)}{σ:L2.St}{H:Hp}{s:SI}{h':S1}
def Bz{t':Nat}{fp:List SA}{T:SA}{xs:al}(I:Inv X π σ H s)(k:∀b o,b∉fp->s.heap.get? b=some o->h'.get? b=some o)(hf:∀b∈fp,oA X π H b)(hT:s.heap.objs.size<=T)
  (new:bY X.prog X.w (upd H T (.tup xs)) h' T (.tup xs)):Inv X π σ (upd H T (.tup xs)) { s with heap:=h',toks:=t' }:=by
 have hn:H T=none:=I.hok.fresh hT;have nit:∀b u,H b=some u->b∉fp:=λb u e z=>by rw[(hf b z).1]at e;cases e
 refine I.step (g':=s.gens) (d':=s.drawn) (ch:=fp) (λb hb=>?_) (λb o _ _ hc e _=>k b o hc e) (λb o _ _ hc e _=>⟨o.slots,k b o hc e⟩) (λb o _ e n=>?_)
  (λb o hc e=>⟨o,k b o hc e⟩) (λb xs e=>by rw[ax (bg e hn)];exact e) (λb o u e=>by rw[ax (bg e hn)];exact e) (λb ps e=>⟨#[],by rw[ax (bg e hn),e];simp⟩) (λm hm=>?_) (λb u e=>?_) I.bare
 .obtain⟨_,f1,_,f3,f4,f5⟩:=hf b hb
  exact⟨f3,f1,f4,f5⟩
 .rw[ax (Ts (SU (S9 e) hT))];exact n
 .obtain⟨o,es,ep,ho,r⟩:=hm
  exact⟨o,es,ep,k _ o (λz=>(hf _ z).2.1 rfl) ho,r⟩
 .by_cases hb:b=T
  .subst hb;rw[az]at e;cases e;exact new
  .rw[ax hb]at e
   refine(I.hok b u e).stay (λc v hc q=>k c v ?_ q) (λc q=>by rw[ax (bg q hn)];exact q) λc xs q=>by rw[ax (bg q hn)];exact q
   rcases hc with z|z
   .rw[z];exact nit b u e
   .exact nit c _ z
def HD{t':Nat}{fp:List SA}(I:Inv X π σ H s)(k:∀b o,b∉fp->s.heap.get? b=some o->h'.get? b=some o)(hf:∀b∈fp,oA X π H b):Inv X π σ H { s with heap:=h',toks:=t' }:=by
 have nit:∀b u,H b=some u->b∉fp:=λb u e z=>by rw[(hf b z).1]at e;cases e
 refine I.step (g':=s.gens) (d':=s.drawn) (ch:=fp) (λb hb=>?_) (λb o _ _ hc e _=>k b o hc e) (λb o _ _ hc e _=>⟨o.slots,k b o hc e⟩) (λb o _ e n=>n)
  (λb o hc e=>⟨o,k b o hc e⟩) (λb xs e=>e) (λb o u e=>e) (λb ps e=>⟨#[],by rw[e];simp⟩) (λm hm=>?_) (λb u e=>?_) I.bare
 .obtain⟨_,f1,_,f3,f4,f5⟩:=hf b hb
  exact⟨f3,f1,f4,f5⟩
 .obtain⟨o,es,ep,ho,r⟩:=hm
  exact⟨o,es,ep,k _ o (λz=>(hf _ z).2.1 rfl) ho,r⟩
 .refine(I.hok b u e).stay (λc v hc q=>k c v ?_ q) (λ_ q=>q) λ_ _ q=>q
  rcases hc with z|z
  .rw[z];exact nit b u e
  .exact nit c _ z
end
def RZ(K:SE)(a:SA):It :=
 ⟨λi H=>∃xs x,fM K H a xs/\xs[i]?=some x,λi H x H'=>∃p y,H p=none/\x=.ref p/\(∀xs,fM K H a xs->xs[i]?=some y)/\H'=upd H p (.tup [.int i,y]),λi H=>∃xs,fM K H a xs/\xs.length<=i⟩
def BC{P:Tr}{w:TU}{K:SE}{elts:List Tn}{k:Nat}{pos:Pos}(a it e:SA)(hne:e≠it)(hae:a≠e)(hai:a≠it) :
  zK P w K (.Tuple elts k pos) (RZ K a) [e,it] e (λi h=>(∃old,IsEnum h e it i old)/\h.IsListIter it a i) where
 mem:=by simp
 obj:=λi h st b hb=>by
  obtain⟨⟨old,he⟩,o,h1,h2,h3⟩:=st;rcases SV.mp hb with rfl|hb
  .exact⟨_,he,λv z=>by cases z⟩
  .rcases SV.mp hb with rfl|hb
   .exact⟨o,h1,λv z=>by rw[h3]at z;cases z⟩
   .cases hb
 keep:=λi h h' st k=>by
  obtain⟨⟨old,he⟩,hi⟩:=st;exact⟨⟨old,k e (by simp) _ he⟩,hi.at λo y=>k it (by simp) o y⟩
 item:=by
  intro X hP hw hK hc i π s σ H E I hf st hg;subst hP hw hK;obtain⟨xs,x,hq,hx⟩:=hg;obtain⟨its,rv,p,hz⟩:=I.list hq;obtain⟨u,hu,ru⟩:=rv.get hx;have W:=WalksT.enumerate (prog:=X.prog) (w:=X.w) (I.ok.hd hc) e it a hne hae hai its.toArray;have hil:i<its.toArray.size:=by simpa using (SR.mp hu).1
  refine W.item i s _ _ hil ⟨st.1,st.2,p.isList⟩ λT vals h' tk hPt hT hTup hMid hk=>?_;refine⟨_,rfl,W.go elts k pos i T _ _ _ hMid λh'' st'' hk''=>?_⟩;obtain⟨t,y,hy,rfl⟩:=hPt;have hyu:y=u:=by
   have:its[i]?=some y:=by simpa using hy
   rw[hu]at this;cases this;rfl
  subst hyu;obtain⟨o,ho,hr⟩:=hTup;have ho':=hk'' T o (W.apart i T _ hMid) ho;refine⟨.ref T,upd H T (.tup [.int i,x]),Bz (s:=s) (h':=h'') (t':=tk) I (λb o hb e=>hk'' b o hb (hk b o hb e)) hf hT ⟨by show 2<=sizeLine;decide,[.int i t,y],.cons ⟨t,rfl⟩ (.cons ru .nil),o,ho',hr⟩,rfl,⟨T,x,I.hok.fresh hT,rfl,λys hy=>by rw[I.list_inj hy hq];exact hx,rfl⟩,⟨st''.1,st''.2.1⟩,λb hb=>?_⟩;have hb0:=(hf b hb).1;obtain⟨ob,hob,_⟩:∃o,s.heap.get? b=some o/\∀v,o.data≠.cell v:=by
   obtain⟨⟨old,he⟩,o,h1,h2,h3⟩:=st;rcases SV.mp hb with rfl|hb
   .exact⟨_,he,λv z=>by cases z⟩
   .rcases SV.mp hb with rfl|hb
    .exact⟨o,h1,λv z=>by rw[h3]at z;cases z⟩
    .cases hb
  rw[ax (Ts (SU (S9 hob) hT))];exact hb0
 done:=by
  intro X hP hw hK hc i π s σ H E I hf st hg;subst hP hw hK;obtain⟨xs,hq,hx⟩:=hg;obtain⟨its,rv,p,hz⟩:=I.list hq;have hl:=rv.length;obtain⟨⟨old,he⟩,hi⟩:=st;exact wpAny_pyNext_enum_end (I.ok.hd hc) he hi p.isList (by simp;omega) λh' hx=>⟨rfl,HD (t':=s.toks) I (λb o hb e=>hx b o (λz=>hb (by simp[z])) e) hf⟩
 self:=λ_ _ _ _ _ st h=>by
  obtain⟨⟨old,he⟩,_⟩:=st;exact wpAny_pyIter_enum he h
section
variable {X:Cx}{E:XK}{elts:List Tn}{k:Nat}{tp:Pos}{e a b:Tn}{f g:am}
def Py(K:SE)(ta:TA):TI:=λσ H R=>ta σ H λvs H1=>∃a,vs=[.ref a]/\(∃xs,fM K H1 a xs)/\R (RZ K a) H1
def Ip{ta:TA}{p pos:Pos}(hg:Gl X "enumerate")(hm:X.mg "enumerate"=none)(ha:PA X [a] ta)(hs:SJ [a] X.env=[(false,eval a X.env)]:=by rfl):PI X (.Tuple elts k tp) (.Call (.Name "enumerate" p) [a] [] pos) (Py X.K ta):=by
 intro π s σ H R I h;refine Call_ (nT I hg hm PyProof.Rows.Boot.«enumerate» (Vu (cX (ha pos π s σ H _ I h) λus s1 z9=>?_) hs rfl));obtain⟨vs,H1,I1,r1,q1⟩:=z9;obtain⟨l,e,⟨xs,hq⟩,q⟩:=q1;subst e;cases r1 with
 |cons r rr=>
  cases rr;cases r;obtain⟨its,rv,p,hz⟩:=I1.list hq;have hlt:l<s1.heap.objs.size:=by obtain⟨o,n,e,_⟩:=p;exact S9 e
  refine call_enumerate_list p.isList λh' he hi hsz hk=>?_;refine wpAny_pyIter_enum he ?_;refine⟨s1.heap.objs.size+1,[s1.heap.objs.size+1,s1.heap.objs.size],_,_,H1,rfl,I1.kept (t':=s1.toks) hk,BC l s1.heap.objs.size (s1.heap.objs.size+1) (Nat.succ_ne_self _) (Ts (Nat.lt_succ_of_lt hlt)) (Ts hlt),⟨⟨_,he⟩,hi⟩,λb hb=>?_,q⟩;have hb':s1.heap.objs.size<=b:=by
   rcases SV.mp hb with rfl|hb
   .omega
   .rcases SV.mp hb with rfl|hb
    .exact Tf _
    .cases hb
  exact I1.fpOk hb' (I1.hok.fresh hb')
def numbered(n:Nat):ac->ac
 |[]=>[]
 |d::ds=>.tup [.int n,d]::numbered (n+1) ds
theorem eQ:∀(ds:ac) (n:Nat),(numbered n ds).length=ds.length
 |[],_=>rfl
 |d::ds,n=>by simp[numbered,eQ ds]
theorem kf:∀(ds:ac) (n i:Nat),(numbered n ds)[i]?=(ds[i]?).map λd=>D.tup [.int (n+i:Nat),d]
 |[],_,_=>by simp[numbered]
 |d::ds,n,0=>by simp[numbered]
 |d::ds,n,i+1=>by simp only[numbered,Uq];rw[kf ds (n+1) i,show n+1+i=n+(i+1) by omega]
def sY(f:am):Ev->ak (ac):=λρ=>(f ρ).bind λd=>match d with
 |.lst ds=>.ok (numbered 0 ds)
 |_=>.stuck
def HF{K:SE}{H Ha:Hp}{p:SA}{vs:al}{ds:ac}(hs:aD Ha H)(hp:H p=none)(r:Reps K Ha ds vs):∃H₀2,bh H Ha (upd H p (.tup vs)) H₀2/\Rep K H₀2 (.tup ds) (.ref p) :=
 ⟨upd Ha p (.tup vs),aI hs hp,aC.mpr ⟨p,vs,rfl,j7.of az,r.mono (aI (o:=.tup vs) hs hp).z⟩⟩
def vU{p pos:Pos}(hg:Gl X "enumerate")(hm:X.mg "enumerate"=none)(h:DE X E a f)(hn:IH a=true:=by exact rfl):DI X E (.Tuple elts k tp) (.Call (.Name "enumerate" p) [a] [] pos) (sY f):=by
 refine⟨mO (Ip hg hm (cG h.o e7 (jE hn)) (jE hn)) λσ H R z9=>?_⟩;obtain⟨Ha,ρ,hs,hr,q⟩:=z9;refine⟨Ha,ρ,hs,hr,?_⟩;unfold sY at q;cases e1:f ρ with
 |stuck|exn x=>rw[e1]at q;exact q
 |ok d=>
  rw[e1]at q;intro v H1 H01 g1 r1;cases d with
  |lst ds=>
   obtain⟨l,vs,rfl,hv,hrv⟩:=aB.mp r1;refine⟨l,rfl,⟨vs,aD.sqL g1.sub hv⟩,q _ H1 H01 g1 ⟨λi H' Ha' s1 s2 hi=>?_,λi H' Ha' x H2 d s1 s2 hd hy=>?_,λi H' Ha' s1 s2 hi=>?_⟩⟩
   .rw[eQ]at hi
    exact⟨vs,vs[i]'(by rw[←hrv.length];exact hi),aD.sqL (s1.trans s2) hv,by simp⟩
   .obtain⟨p,y,hp,rfl,hy,rfl⟩:=hy
    rw[kf]at hd;cases ei:ds[i]? with
    |none=>rw[ei]at hd;cases hd
    |some d'=>
     rw[ei]at hd;cases hd;obtain⟨u,k1,k2⟩:=hrv.get ei;have:=hy vs (aD.sqL (s1.trans s2) hv);rw[k1]at this;cases this;exact HF s2 hp (Reps.cons (ay.mpr (by simp)) (Reps.cons (k2.mono s1) Reps.nil))
   .rw[eQ]at hi
    exact⟨vs,aD.sqL (s1.trans s2) hv,by rw[←hrv.length];exact hi⟩
  |_=>exact q.elim
end
def nW(f:SH):ci->ac->Option D
 |k::ks,d::ds=>if f=k then some d else nW f ks ds
 |_,_=>none
theorem vO{K:SE}{H:Hp}{f:SH}:∀{ks:ci}{ds:ac}{vs:al}{d:D},ks.length=vs.length->Reps K H ds vs->nW f ks ds=some d->∃v,(ks.zip vs).lookup f=some v/\Rep K H d v/\f∈ks
 |[],ds,vs,d,_,_,h=>by unfold nW at h;cases h
 |k::ks,[],vs,d,_,_,h=>by unfold nW at h;cases h
 |k::ks,x::ds,vs,d,hl,r,h=>by
  obtain⟨v,r',rfl,r1,r2⟩:=aA.mp r;unfold nW at h
  by_cases c:f=k
  .rw[if_pos c]at h
   cases h;exact⟨v,by rw[Vj,UC,beq_iff_eq.mpr c],r1,by rw[c];exact SQ⟩
  .rw[if_neg c]at h
   obtain⟨u,h1,h2,h3⟩:=vO (by simpa using hl) r2 h;exact⟨u,by rw[Vj,UC,beq_eq_false_iff_ne.mpr c];exact h1,h2,SM _ h3⟩
def iN(f:SH)(x:D):ak D:=match x with
 |.ob (.ins c ks) ds=>match nW f ks ds with
  |some d=>.ok d
  |none=>.stuck
 |_=>.stuck
section
variable {X:Cx}{E:XK}{e a b o:Tn}{es:List Tn}{fe fo:am}{fa:Ev->ak (ac)}{pos:Pos}
def fY{f:SH}(he:DE X E e fe)(hb:Ub e f X.env (eval e X.env)=eval e X.env:=by rfl):DE X E (.Attribute e f pos) (aS fe (iN f)):=by
 refine⟨bc (ET he.o hb) λσ H Q z9=>?_⟩;obtain⟨Ha,ρ,hs,hr,q⟩:=z9;refine⟨Ha,ρ,hs,hr,?_⟩;unfold aS at q;cases e1:fe ρ with
 |stuck|exn x=>rw[e1]at q;exact q
 |ok d=>
  rw[e1]at q;intro v H1 H01 g1 r1;replace q:post X.K E H Ha (iN f d) Q:=q;unfold iN at q;cases d with
  |ob k ds=>
   cases k with
   |ins c ks=>
    replace q:post X.K E H Ha (match nW f ks ds with|some d=>ak.ok d|none=>.stuck) Q:=q;cases e2:nW f ks ds with
    |none=>rw[e2]at q;exact q.elim
    |some d=>
     rw[e2]at q;obtain⟨p,vs,rfl,⟨C,dx,h0,h1,h2,h3⟩,h4⟩:=bO.mp r1;obtain⟨u,k1,k2,k3⟩:=vO h3 h4 e2;exact⟨p,C,dx,_,u,rfl,g1.sub _ _ h2,h1.cls,h1.no f k3,k1,q u H1 H01 g1 k2⟩
   |_=>exact q.elim
  |_=>exact q.elim
def putAll:ci->al->List (SH×V)->List (SH×V)
 |f::fs,v::vs,l=>putAll fs vs (eP f v l)
 |_,_,l=>l
theorem mM{f:SH}{v:V}:∀{l:List (SH×V)},f∉l.map (·.1)->eP f v l=l++[(f,v)]
 |[],_=>rfl
 |(k,x)::l,h=>by
  simp only[Tv,SV,not_or]at h;unfold eP;rw[if_neg (λz=>h.1 z.symm),mM h.2];rfl
theorem qM:∀{fs:ci}{vs:al}{l:List (SH×V)},fs.Nodup->(∀f∈fs,f∉l.map (·.1))->fs.length=vs.length->putAll fs vs l=l++fs.zip vs
 |[],[],l,_,_,_=>by simp[putAll]
 |[],v::vs,l,_,_,h=>by simp at h
 |f::fs,[],l,_,_,h=>by simp at h
 |f::fs,v::vs,l,nd,hn,h=>by
  rw[U5]at nd;unfold putAll;rw[mM (hn f SQ),qM nd.2 (λg hg=>?_) (by simpa using h),Vj,Uk]
  .rfl
  .simp only[T3,Tv,Vk,TX,TC,not_or]
   exact⟨hn g (SM _ hg),λz=>nd.1 (z▸hg)⟩
def wA{H:Hp}{a:SA}{o:HO}(h:H a=some o):upd H a o=H:=by
 funext b
 by_cases hb:b=a
 .subst hb;rw[az,h]
 .rw[ax hb]
def nE{H:Hp}{a:SA}{o u:HO}:upd (upd H a o) a u=upd H a u:=by
 funext b
 by_cases hb:b=a
 .subst hb;rw[az,az]
 .rw[ax hb,ax hb,ax hb]
theorem qL{f:SH}{v:V}:∀{l:List (SH×V)},(eP f v l).length<=l.length+1
 |[]=>by simp[eP]
 |(k,x)::l=>by
  unfold eP;split
  .simp
  .have:=qL (f:=f) (v:=v) (l:=l)
   simp;omega
def kn:ac->Option (List Int)
 |[]=>some []
 |.int x::r=>(kn r).map (x::·)
 |_=>none
theorem rm{K:SE}{H:Hp}:∀{ds:ac}{ys:List Int}{vs:al}{us:List Sy},kn ds=some ys->Reps K H ds vs->bx vs us->IntsAre us ys
 |[],ys,vs,us,h,r,q=>by
  cases h;rw[Reps.nil_iff.mp r]at q;cases q;exact .nil
 |d::ds,ys,vs,us,h,r,q=>by
  obtain⟨v,r',rfl,h1,h2⟩:=aA.mp r;cases q with
  |cons q1 q2=>
   cases d with
   |int x=>
    unfold kn at h;cases e:kn ds with
    |none=>rw[e]at h;cases h
    |some zs=>
     rw[e]at h;cases h;rw[ay.mp h1]at q1;obtain⟨t,rfl⟩:=q1;exact .cons _ _ (rm e h2 q2)
   |_=>cases h
end
structure Qm (K:SE) (x:SH) (ks:ci) (C:SA):Prop where
 ns:Up K Te x=some (some (.ref C))
 recC:NX K ks C
def noL_nil{K:SE}{C:SA}:∀f∈([]:ci),dZ K C f:=λ_ h=>nomatch h
def noL_cons{K:SE}{C:SA}{f:SH}{ks:ci}(h:Uw K (.ref C) f=some none)(r:∀f∈ks,dZ K C f):∀g∈f::ks,dZ K C g:=λg hg=>by
 rcases SV.mp hg with rfl|hg
 .exact h
 .exact r g hg
def Ib{K:SE}{x:SH}{ks:ci}{C:SA}(ns:Up K Te x=some (some (.ref C)))(pg:WE K C Str.empty=true)(hd:Vg K C=true)(po:Xc K C=true)(sa:Uw K (.ref C) "__setattr__"=some (some (.builtin "object.__setattr__")))
  (gc:Uw K (.ref C) "__class__"=some (some (.builtin "object.__class__")))(gn:Wb K (.builtin "object.__class__") "__get__"=some (some (.builtin "getset_descriptor.__get__")))(tk:XA K (.builtin "object.__class__")=some true)(mo:XI K C (.type "object")=some true)
  (t1:UO K (.ref C) (.type "NoneType")=some false)(t2:UO K (.ref C) (.type "bool")=some false)(t3:UO K (.ref C) (.type "int")=some false)(t4:UO K (.ref C) (.type "str")=some false)(t5:UO K (.ref C) (.type "tuple")=some false)
  (t6:UO K (.ref C) (.type "list")=some false)(t7:UO K (.ref C) (.type "dict")=some false)(no:∀f∈ks,dZ K C f):Qm K x ks C :=
 ⟨ns,⟨⟨pg,hd,po,sa⟩,no,gc,gn,tk,mo,λT hT=>by
  refine y6 (kX T hT) ?_;simp only[gA,SV,Ui,or_false]at hT;rcases hT with rfl|rfl|rfl|rfl|rfl|rfl|rfl
  .exact t1
  .exact t2
  .exact t3
  .exact t4
  .exact t5
  .exact t6
  .exact t7⟩⟩
section
variable {X:Cx}{E:XK}{He η:Hp}{e:Tn}{es:List Tn}{f:am}{fa:Ev->ak (ac)}{pos:Pos}
def bh.keeps{H Ha H1 H01:Hp}(g:bh H Ha H1 H01){p:SA}{o:HO}(h:H p=some o)(h0:Ha p=none):H01 p=none:=by
 cases q:H01 p with|none=>rfl|some u=>have:=g.nw p (by rw[q];simp) h0;rw[h]at this;cases this
end
end DL
namespace Com
open PySem L2 DL
def Lc(tg:Ev->D->ak Ev)(s:bv)(ρ:Ev)(ds:ac):ak Fl:=cN tg s ds ρ
def KQ(d:D):ak (ac):=match d with
 |.lst ds=>.ok (numbered 0 ds)
 |_=>.stuck
def KP(d:D):ak (ac):=match d with
 |.lst ds=>.ok ds
 |_=>.stuck
def iO(n:Nat)(fr:cr)(tg:Ev->D->ak Ev)(tt fe:am)(ρ:Ev)(ds:ac):ak D:=if ds.length<=line then match bU (cD n fr ρ) tg tt fe ds with
  |.ok es=>.ok (.lst es)
  |_=>.stuck
 else .stuck
def FQ(tg:Ev->D->ak Ev)(s:bv)(ρ:Ev)(d:D):ak Fl:=match d with
 |.int j=>if -4611686018427387904<=j/\j<4611686018427387904 then cN tg s (intsFrom 0 j.toNat) ρ else .stuck
 |_=>.stuck
section
variable {s t:bv}{f g h:am}{src:Ev->ak (ac)}{fa:Ev->ak (ac)}{ρ r:Ev}{i j n:Nat}{d x y:D}{ds es xs:ac}{a b:Int}{tg:Ev->D->ak Ev}{tt fe:am}{fr:cr}
def A3:kT src tg s ρ=(src ρ).bind (Lc tg s ρ):=aU rfl
def Ga:Lc tg s ρ ds=cN tg s ds ρ:=aU rfl
def Jy:sY f ρ=(f ρ).bind KQ:=aU rfl
def F5:KQ (.lst ds)=.ok (numbered 0 ds):=aU rfl
def Jx:u3 f ρ=(f ρ).bind KP:=aU rfl
def F4:KP (.lst ds)=.ok ds:=aU rfl
def A4:eY n fr src tg tt fe ρ=(src ρ).bind (iO n fr tg tt fe ρ):=aU rfl
def uz{is:cr}(h:(ds.length==is.length)=true):ik is ρ (.tup ds)=.ok (fz ρ is ds):=by
 show(match (if ds.length=is.length then some ds else none) with|some ds=>ak.ok (fz ρ is ds)|none=>.stuck)=_;rw[if_pos (eq_of_beq h)]
def A2:qH f tg s ρ=(f (ka ρ)).bind (FQ tg s ρ):=aU rfl
def xJ{k:Nat}(h:k<=1000000):FQ tg s ρ (.int (k:Int))=cN tg s (intsFrom 0 k) ρ:=by
 unfold FQ;dsimp only;rw[if_pos ⟨by omega,by omega⟩,U9]
def ia{l h:Option Int}(c:(HT.sIx ds.length 0 l==0&&HT.sIx ds.length ds.length h==ds.length)=false):jF (.tup ds) l h=.ok (.tup (mG ds l h)):=by
 show(if _ then _ else _)=_;rw[if_neg (λz=>by rw[z.1,z.2]at c;simp at c)]
def lQ{x y:SH}(h:decide (x.length+y.length<=1000)=true):aZ (.str x) (.str y)=.ok (.str (x++y)):=if_pos (SW (of_decide_eq_true h) (by decide))
def PY:mn (.lst ds)=.ok (.lst ds):=aU rfl
def rW{F:D->D}(hl:ds.length<=1000000)(h:∀d∈ds,∃ρ1,tg (cD n fr ρ) d=.ok ρ1/\tt ρ1=.ok (.bl true)/\fe ρ1=.ok (F d)):iO n fr tg tt fe ρ ds=.ok (.lst (ds.map F)):=by
 unfold iO;rw[if_pos (show ds.length<=line from hl),uE h]
theorem o8{B:Ev}{F:D->D}{p:D->Bool}:∀{ds:ac},(∀d∈ds,∃ρ1,tg B d=.ok ρ1/\tt ρ1=.ok (.bl (p d))/\(p d=true->fe ρ1=.ok (F d)))->bU B tg tt fe ds=.ok ((ds.filter p).map F)
 |[],_=>rfl
 |d::ds,h=>by
  obtain⟨ρ1,h1,h2,h3⟩:=h d SQ;have ih:=o8 (ds:=ds) λd hd=>h d (SM _ hd);unfold bU;rw[h1,GG,h2,GG];cases hp:p d with
  |true=>
   show(fe ρ1).bind _=_;rw[h3 hp,GG,ih,GG,List.filter_cons_of_pos hp];rfl
  |false=>
   show bU B tg tt fe ds=_;rw[ih,List.filter_cons_of_neg (by rw[hp];decide)]
def ya{F:D->D}{p:D->Bool}(hl:ds.length<=1000000)(h:∀d∈ds,∃ρ1,tg (cD n fr ρ) d=.ok ρ1/\tt ρ1=.ok (.bl (p d))/\(p d=true->fe ρ1=.ok (F d))):iO n fr tg tt fe ρ ds=.ok (.lst ((ds.filter p).map F)):=by
 unfold iO;rw[if_pos (show ds.length<=line from hl),o8 h]
end
end Com
def Qv:=(cm (cm (cm @A3 (cm @Ga @Jy)) (cm @F5 (cm @Jx @F4))) (cm (cm @A4 (cm @uz @A2)) (cm @ia (cm @lQ @PY))))
local macro_rules|`(tactic|open_line with[$xs,*])=>`(tactic|simp only[N1,Qv,Tv,Vk,S0,Vn,T6,WB,UL,Uu,Vf,Uq,V5,V6,WZ,Nat.reduceSub,Nat.reduceAdd,XU,Wr,Tx,TJ,decide_true,decide_false,Nat.reduceLeDiff,Nat.reduceBEq,Int.reduceBEq,beq_self_eq_true,DL.dOne,DL.mYes,Int.reduceLT,Int.reduceLE,Int.reduceSub,Int.reduceAdd,Int.reduceMul,Int.reduceNeg,Int.reduceToNat,Xz,$[$xs:term],*])
local macro_rules|`(tactic|open_line with[$xs,*] seeing $h)=>`(tactic|simp only[N1,Qv,Tv,Vk,S0,Vn,T6,WB,UL,Uu,Vf,Uq,V5,V6,WZ,Nat.reduceSub,Nat.reduceAdd,XU,Wr,Tx,TJ,decide_true,decide_false,Nat.reduceLeDiff,Nat.reduceBEq,Int.reduceBEq,beq_self_eq_true,DL.dOne,DL.mYes,Int.reduceLT,Int.reduceLE,Int.reduceSub,Int.reduceAdd,Int.reduceMul,Int.reduceNeg,Int.reduceToNat,Xz,$[$xs:term],*] at $(⟨h⟩):ident)
namespace Com
open PySem L2 DL
noncomputable def nt:bv :=
 (aw (aY 2 (dC (.str "abcdefghijklmnopqrstuvwxyz")))
 (aw (aY 3 (ao (ae (ag 0) (ae (af (af (ao (ae (dC (.int 8)) (ae (dC (.int 8)) (ae (dC (.int 12)) (ae (dC (.int 26)) (ae (dC (.int 2)) au))))) cY) (Cb (ao (ae (dC (.int 26)) au) cY) (dC (.int 8))) aZ) (Cb (ao (ae (dC (.int 8)) au) cY) (dC (.int 8))) aZ) au)) bF))
 (aw (aY 4 (af (ao (ae (dC (.int 1)) (ae (dC (.int 3)) (ae (dC (.int 5)) (ae (dC (.int 7)) (ae (dC (.int 9)) (ae (dC (.int 11)) (ae (dC (.int 15)) (ae (dC (.int 17)) (ae (dC (.int 19)) (ae (dC (.int 21)) (ae (dC (.int 23)) (ae (dC (.int 25)) au)))))))))))) cY) (af (ag 3) (dC (.int 2)) aH) aH))
 (aw (aY 5 (k8 (dC (.str "")) (ae (eY 1 [2] (u3 (iW (ag 3) (dD (dC (.int 5))) (dD (dC (.int 13))))) (dz 0) mYes (af (ag 1) (ag 0) aH)) au)))
 (aw (mx 6 (ao au cY))
 (aw (qH (ag 1) (dz 7)
 (aw (aY 8 (af (dC (.int 1)) (af (ag 3) (dC (.int 0)) aH) aZ))
 (aw (eC (af (af (ag 3) (dC (.int 4)) aH) (dC (.int 1)) fN)
 (aw (aY 8 (af (dC (.int 1)) (af (ag 3) (af (dC (.int 13)) (ag 7) aZ) aH) aZ))
 av)
 av)
 (aw (aY 9 (af (af (ag 3) (dC (.int 1)) aH) (ag 8) dA))
 (aw (aY 10 (af (ag 2) (af (af (af (ag 3) (dC (.int 3)) aH) (af (ag 7) (ag 4) cW) aZ) (dC (.int 26)) dA) aH))
 (aw (cR 6 (af (af (iW (ag 5) gI (dD (ag 9))) (ag 10) aZ) (iW (ag 5) (dD (af (ag 9) (dC (.int 1)) aZ)) (dD (ag 8))) aZ))
 av))))))
 (aw (bI (ag 6))
 av)))))))
def dP:ac->ak D:=cq 11 nt
noncomputable def fv:bv :=
 (aw (HW [2,3,4] (ag 0))
 (aw (eC (af (ag 2) (dC (.int 3)) Gz)
 (aw (bI (ao (ae (af (ag 1) (af (ag 3) (dC (.int 10)) dA) aZ) (ae (dC (.int 1)) au)) dE))
 av)
 av)
 (aw (eC (af (ag 2) (dC (.int 7)) Gz)
 (aw (bI (ao (ae (af (ag 1) (af (ag 3) (dC (.int 24)) dA) aZ) (ae (af (dC (.int 1)) (af (ag 4) (dC (.int 6)) dA) aZ) au)) bP))
 av)
 av)
 (aw (bI (ao (ae (af (ag 1) (ag 3) aZ) (ae (af (dC (.int 1)) (ag 4) aZ) au)) bP))
 av))))
def bX:ac->ak D:=cq 5 fv
noncomputable def mJ:bv :=
 (aw (aY 3 (ao (ae (dC (.int 8)) (ae (ag 2) (ae (ag 2) au))) cY))
 (aw (aY 4 (ao (ae (ag 1) (ae (af (af (ao (ae (ao (ae (ag 0) au) (m1 cC)) (ae (af (ao (ae (ag 0) au) (m1 cC)) (dC (.int 1)) pH) (ae (dC (.int 2)) (ae (dC (.int 5)) au)))) cY) (ag 3) aZ) (ag 3) aZ) au)) bF))
 (aw (aY 5 (dC (.non)))
 (aw (eC (af (af (ag 4) (dC (.int 3)) aH) (dC (.int 0)) G7)
 (aw (aY 5 (ao (ae (iW (ag 4) (dD (dC (.int 7))) (dD (dC (.int 10)))) (ae (dC (.int 1)) au)) bX))
 av)
 av)
 (aw (aY 6 (af (ag 0) (af (ag 4) (dC (.int 0)) aH) aH))
 (aw (aY 7 (af (ag 0) (af (af (af (af (ag 4) (dC (.int 0)) aH) (dC (.int 1)) aZ) (af (ag 4) (dC (.int 1)) aH) aZ) (ao (ae (ag 0) au) (m1 cC)) dA) aH))
 (aw (aY 8 (af (ao (ae (dC (.str "one")) (ae (dC (.str "both")) au)) cY) (af (ag 4) (dC (.int 2)) aH) aH))
 (aw (bI (ao (ae (ag 6) (ae (ag 7) (ae (ag 8) (ae (ao (ae (iW (ag 4) (dD (dC (.int 4))) (dD (dC (.int 7)))) (ae (dC (.int 0)) au)) bX) (ae (ag 5) au))))) dE))
 av))))))))
def eG:ac->ak D:=cq 9 mJ
def y0{a b:Int}(ha:0<=a)(hb:0<b):0<=(vC a b).1:=VE ha (by omega)
def IW{a b:Int}(ha:0<a)(hb:0<b):0<(vC a b).1:=by
 have hg:0<(TN a b:Int):=qg (by omega);have hd:(TN a b:Int)∣a:=Int.gcd_dvd_left ..;exact Int.ediv_pos_of_pos_of_dvd ha (by omega) hd
def CN{a:Int}(h0:0<=a)(h1:a<(dH:Int)):eA (a,1):=⟨⟨by show(1:Int)<=1;decide,by show TN a 1=1;exact Int.gcd_one_right ..⟩,by show a.natAbs<dH;omega,by show(1:Int).natAbs<dH;decide⟩
def Pm{a:Int}(h0:0<=a)(h1:a<(dH:Int)):a.natAbs<wj:=SU (show a.natAbs<dH by omega) we
def oX{w a b l:Int}(ha:0<=a/\a<(dH:Int)-1)(hb:0<=b/\b<(dH:Int)-1)(hl:0<=l/\l<=1):∃x:kO,bX [.lst [.int w,.int a,.int b],.int l]=.ok (fr x)/\eA x/\l<=x.1:=by
 have hN:(100:Int)<(dH:Int):=by decide
 have key:∀p q:Int,0<=p->p+l<(dH:Int)->1<=q->q<(dH:Int)->∃x:kO,bP [.int (l+p),.int q]=.ok (fr x)/\eA x/\l<=x.1:=λp q p0 p1 q0 q1=>by
  refine⟨vC (l+p) q,nR (by omega) (Pm (by omega) (by omega)) (Pm (by omega) (by omega)),Po (by omega) (by omega) (by omega),?_⟩
  by_cases h:l+p=0
  .have:l=0:=by omega
   rw[this];exact y0 (by omega) (by omega)
  .have:=IW (a:=l+p) (b:=q) (by omega) (by omega)
   omega
 by_cases h3:w<3
 .have x:=kI (a:=a) (b:=10) (by decide)
  refine⟨(l+a.fmod 10,1),?_,CN (by omega) (by omega),by show l<=l+a.fmod 10;omega⟩;open_line with[bX,fv,decide_eq_true h3]
  rfl
 .by_cases h7:w<7
  .have x:=kI (a:=a) (b:=24) (by decide)
   have y:=kI (a:=b) (b:=6) (by decide);obtain⟨z,hz,r⟩:=key (a.fmod 24) (1+b.fmod 6) x.1 (by omega) (by omega) (by omega);refine⟨z,?_,r⟩;open_line with[bX,fv,decide_eq_false h3,decide_eq_true h7,hz]
  .obtain⟨z,hz,r⟩:=key a (1+b) ha.1 (by omega) (by omega) (by omega)
   refine⟨z,?_,r⟩;open_line with[bX,fv,decide_eq_false h3,decide_eq_false h7,hz]
def AO{i:Nat}{body:bv}(P:Nat->Ev->Prop){n:Nat}(h:∀k,k<n->∀ρ,P k ρ->∃ρ2,body (ρ.set i (.sh (.int (k:Int))))=.ok (.nx ρ2)/\P (k+1) ρ2){ρ:Ev}(h0:P 0 ρ):∃ρ',cN (dz i) body (intsFrom 0 n) ρ=.ok (.nx ρ')/\P n ρ':=by
 have key:∀(m k:Nat) (ρ:Ev),k+m=n->P k ρ->∃ρ',cN (dz i) body ((intsFrom 0 n).drop k) ρ=.ok (.nx ρ')/\P n ρ':=by
  intro m
  induction m with
  |zero=>
   intro k ρ hk hp;have:k=n:=by omega
   subst this;rw[xE];exact⟨ρ,rfl,hp⟩
  |succ m ih=>
   intro k ρ hk hp;obtain⟨ρ2,h1,h2⟩:=h k (by omega) ρ hp;rw[uw (by omega),qj (tg:=dz i) rfl h1];exact ih (k+1) ρ2 (by omega) h2
 exact key n 0 ρ (by omega) h0
def jc{tg:Ev->D->ak Ev}{body:bv}{ds:ac}(P:Nat->Ev->Prop)(h:∀k d,ds[k]?=some d->∀ρ,P k ρ->∃ρ1 ρ2,tg ρ d=.ok ρ1/\body ρ1=.ok (.nx ρ2)/\P (k+1) ρ2){ρ:Ev}(h0:P 0 ρ):∃ρ',cN tg body ds ρ=.ok (.nx ρ')/\P ds.length ρ':=by
 have key:∀(m k:Nat) (ρ:Ev),k+m=ds.length->P k ρ->∃ρ',cN tg body (ds.drop k) ρ=.ok (.nx ρ')/\P ds.length ρ':=by
  intro m
  induction m with
  |zero=>
   intro k ρ hk hp;have:k=ds.length:=by omega
   subst this;rw[Wn];exact⟨ρ,rfl,hp⟩
  |succ m ih=>
   intro k ρ hk hp;have hlt:k<ds.length:=by omega
   obtain⟨ρ1,ρ2,h1,h2,h3⟩:=h k ds[k] (SS hlt) ρ hp;rw[T7 hlt,qj h1 h2];exact ih (k+1) ρ2 (by omega) h3
 exact key ds.length 0 ρ (by omega) h0
structure Drawn (sz vs:List Int):Prop where
 len:vs.length=sz.length
 bnd:∀(i:Nat) (v s:Int),vs[i]?=some v->sz[i]?=some s->0<=v/\v<s
def Drawn.at{sz vs:List Int}(W:Drawn sz vs)(i:Nat){s:Int}(h:sz[i]?=some s):∃v,vs[i]?=some v/\(0<=v/\v<s)/\aH (.lst (vs.map D.int)) (.int (i:Int))=.ok (.int v):=by
 have hi:i<vs.length:=by rw[W.len];exact(SR.mp h).1
 refine⟨vs[i],SS hi,W.bnd i _ _ (SS hi) h,jy ?_⟩;rw[Ta,SS hi];rfl
def Drawn.ix{sz vs:List Int}(W:Drawn sz vs)(k:Int)(i:Nat){s:Int}(hk:k=(i:Int))(h:sz[i]?=some s):∃v,vs[i]?=some v/\(0<=v/\v<s)/\aH (.lst (vs.map D.int)) (.int k)=.ok (.int v):=by
 subst hk;exact W.at i h
def m7(c:Int)(sz:List Int)(h:(sz.all λs=>decide (0<s)&&decide (s<=(dH:Int)))=true)(hn:sz.length<=1000):∃vs,bF [.int c,.lst (sz.map D.int)]=.ok (.lst (vs.map D.int))/\Drawn sz vs:=by
 obtain⟨vs,h1,h2,h3⟩:=Gq c sz (OL h) hn;exact⟨vs,h3,h1,h2⟩
def Kv:("abcdefghijklmnopqrstuvwxyz" : SH).cps.toList=(TY 26).map (97 + ·):=by decide +kernel
def GN:∀n,n<26->mj (97+n)=true:=by decide +kernel
def GL{v:Int}(h0:0<=v)(h1:v<26):aH (.str "abcdefghijklmnopqrstuvwxyz") (.int v)=.ok (.str ⟨#[97+v.toNat]⟩):=by
 obtain⟨n,rfl⟩:=Uj h0;have hn:n<26:=by omega
 have e:atI ("abcdefghijklmnopqrstuvwxyz" : SH).cps.toList ((n:Nat):Int)=some (97+n):=cT (by rw[Kv];simp[hn]);show(if("abcdefghijklmnopqrstuvwxyz" : SH).length<=line then(match atI ("abcdefghijklmnopqrstuvwxyz" : SH).cps.toList ((n:Nat):Int) with|some c=>ak.ok (D.str ⟨#[c]⟩)|none=>.stuck) else .stuck)=_;rw[if_pos (by decide),e];rfl
theorem AH:∀cs:cr,VC "" (cs.map λc=>(⟨#[c]⟩:SH))=⟨cs.toArray⟩
 |[]=>rfl
 |[c]=>rfl
 |c::d::cs=>by
  show(⟨#[c]⟩:SH)++""++VC "" ((d::cs).map λc=>(⟨#[c]⟩:SH))=_;rw[AH (d::cs)];apply Str.ext';show(#[c]++("" : SH).cps)++(d::cs).toArray=_;have:("" : SH).cps=#[]:=rfl;rw[this];simp
theorem zY:∀cs:cr,gk (cs.map λc=>D.str ⟨#[c]⟩)=some (cs.map λc=>(⟨#[c]⟩:SH))
 |[]=>rfl
 |c::cs=>by
  show(gk (cs.map λc=>D.str ⟨#[c]⟩)).map _=_;rw[zY cs];rfl
def za{cs:cr}(h:cs.length<=1000):i8 "" [.lst (cs.map λc=>D.str ⟨#[c]⟩)]=.ok (.str ⟨cs.toArray⟩):=by
 have AR:gD "" (cs.map λc=>(⟨#[c]⟩:SH))=true:=by
  unfold gD;have e:((cs.map λc=>(⟨#[c]⟩:SH)).map (·.length)).sum=cs.length:=by
   clear h
   induction cs with
   |nil=>rfl
   |cons c cs ih=>
    simp only[Tv,List.sum_cons,S0,ih];show 1+cs.length=_;omega
  rw[e,SX];exact⟨by decide,decide_eq_true (by rw[SD];omega)⟩
 show(match gk (cs.map λc=>D.str ⟨#[c]⟩) with|some ys=>if gD "" ys=true then ak.ok (D.str (TV "" ys)) else .stuck|none=>.stuck)=_;rw[zY];show(if gD "" _=true then ak.ok (D.str (TV "" _)) else .stuck)=_;rw[if_pos AR];show ak.ok (D.str (Builtin.Str.glued "" _))=_;rw[Vs,AH]
def D7{cs:cr}{a b:Nat}(hab:a<=b)(hb:b<=cs.length):Vz ⟨cs.toArray⟩ (some (a:Int)) (some (b:Int))=⟨((cs.drop a).take (b-a)).toArray⟩ :=
 StrLaws.sliceText_nat ⟨cs.toArray⟩ hab (by show b<=cs.toArray.size;simpa using hb)
def D6{cs:cr}{b:Nat}(hb:b<=cs.length):Vz ⟨cs.toArray⟩ none (some (b:Int))=⟨(cs.take b).toArray⟩:=by
 have:=StrLaws.sliceText_to (x:=⟨cs.toArray⟩) (j:=(b:Int)) ⟨by omega,by simpa using hb⟩;refine Eq.trans this ?_;simp
def pW(vs:List Int)(k:Nat):Nat:=if vs[4]?=some 1 then 1+((vs[13+k]?).getD 0).toNat else 1+((vs[0]?).getD 0).toNat
def gJ(vs:List Int)(k:Nat):Nat:=((vs[1]?).getD 0).toNat % pW vs k
def Aw(vs:List Int)(by_:Int)(k:Nat):Nat:=(((vs[3]?).getD 0).toNat+k*by_.toNat) % 26
def yV(vs:List Int)(by_:Int)(B:cr)(k:Nat):cr:=B.take (gJ vs k)++(97+Aw vs by_ k)::(B.drop (gJ vs k+1)).take (pW vs k-(gJ vs k+1))
def qY:List Int:=[8,8,12,26,2,26,26,26,26,26,26,26,26,8,8,8,8,8,8,8,8]
def Ph:List Int:=[1,3,5,7,9,11,15,17,19,21,23,25]
def Cw:∀b∈Ph,∀k,k<8->∀j,j<8->∀d,d<26->(d+k*b.toNat) % 26=(d+j*b.toNat) % 26->k=j:=by
 have key:∀b∈Ph,∀k,k<8->∀j,j<8->(k*b.toNat) % 26=(j*b.toNat) % 26->k=j:=by decide +kernel
 intro b hb k hk j hj d hd h;refine key b hb k hk j hj ?_;omega
structure cM (zs:ci):Prop where
 nd:zs.Nodup
 nm:∀z∈zs,cU z=true
def vz{vs:List Int}{by_:Int}{B:cr}{k:Nat}(hB:B.length=8)(hs:pW vs k<=8)(h1:1<=pW vs k):(yV vs by_ B k).length=pW vs k:=by
 have:gJ vs k<pW vs k:=V4 _ (by omega);unfold yV;simp only[Tc,UD,S0,VV];omega
def E2{vs:List Int}{by_:Int}{B:cr}{k:Nat}(hB:B.length=8)(hs:pW vs k<=8)(h1:1<=pW vs k):(yV vs by_ B k)[gJ vs k]?=some (97+Aw vs by_ k):=by
 have:gJ vs k<pW vs k:=V4 _ (by omega);unfold yV;rw[To (by simp;omega)];have e:gJ vs k-(B.take (gJ vs k)).length=0:=by simp;omega
 rw[e];rfl
def yf{x y:SH}(h:x.length+y.length<=1000):aZ (.str x) (.str y)=.ok (.str (x++y)):=if_pos (SW h (by decide))
def uD(a b:cr):(⟨a.toArray⟩:SH)++⟨b.toArray⟩=⟨(a++b).toArray⟩:=by
 apply Str.ext';show a.toArray++b.toArray=_;simp
def mH(a:cr):(⟨a.toArray⟩:SH).length=a.length:=by show a.toArray.size=_;simp
def z9{z:SH}{l h:Option Int}(hz:z.length<=1000):jF (.str z) l h=.ok (.str (Vz z l h)):=by
 show(if z.length<=line then _ else _)=_;rw[if_pos (SW hz (by decide))]
set_option maxHeartbeats 1000000 in
def E3(c:Int)(n:Nat)(hn:n<=8):∃zs:ci,dP [.int c,.int (n:Int)]=.ok (.lst (zs.map D.str))/\zs.length=n/\cM zs:=by
 obtain⟨vs,hd,W⟩:=m7 c qY (by decide) (by decide);obtain⟨d0,g0,b0,i0⟩:=W.ix 0 0 rfl rfl;obtain⟨d1,g1,b1,i1⟩:=W.ix 1 1 rfl rfl;obtain⟨d2,g2,b2,i2⟩:=W.ix 2 2 rfl rfl;obtain⟨d3,g3,b3,i3⟩:=W.ix 3 3 rfl rfl;obtain⟨d4,g4,b4,i4⟩:=W.ix 4 4 rfl rfl;obtain⟨byD,hby1,hby2⟩:=MO (ds:=Ph.map D.int) (k:=d2) b2.1 (by simpa[Ph] using b2.2);obtain⟨by_,hbm,rfl⟩:=Tt.mp hby1;have hby0:0<=by_/\by_<=25:=by
  have:∀b∈Ph,0<=b/\b<=25:=by decide
  exact this by_ hbm
 have hlen:vs.length=21:=W.len;have hL:(vs.map D.int).length=21:=by rw[SD,hlen]
 have hcut:mG (vs.map D.int) (some 5) (some 13)=((vs.drop 5).take 8).map D.int:=by
  rw[vZ,hlen];rfl
 have hdig:∀v∈(vs.drop 5).take 8,0<=v/\v<26:=λv hv=>by
  obtain⟨j,hj2⟩:=X1.mp hv;have hj:j<8:=by
   have:=(SR.mp hj2).1;simp at this;omega
  rw[UR hj,VH]at hj2;have hs:qY[5+j]?=some 26:=by
   have:∀j,j<8->qY[5+j]?=some 26:=by decide
   exact this j hj
  exact W.bnd _ _ _ hj2 hs
 generalize hBd:((vs.drop 5).take 8).map (λv=>97+v.toNat)=B;have hB:B.length=8:=by rw[←hBd];simp;omega
 have hBin:∀x∈B,mj x=true:=λx hx=>by
  rw[←hBd]at hx;obtain⟨v,hv,rfl⟩:=Tt.mp hx;have:=hdig v hv;exact GN _ (by omega)
 have hcomp:iO 1 [2] (dz 0) mYes (af (ag 1) (ag 0) aH) [.sh (.int c),.sh (.int (n:Int)),.sh (.str "abcdefghijklmnopqrstuvwxyz"),.sh (.lst (vs.map D.int)),.sh (.int by_),.no,.no,.no,.no,.no,.no] (((vs.drop 5).take 8).map D.int)=.ok (.lst (B.map λc=>D.str ⟨#[c]⟩)):=by
  rw[rW (F:=λd=>match d with|.int v=>.str ⟨#[97+v.toNat]⟩|d=>d) (by simp;omega)]
  .rw[←hBd,Uy,Uy];rfl
  .intro d hd'
   obtain⟨v,hv,rfl⟩:=Tt.mp hd';have hv2:=hdig v hv;exact⟨[.sh (.int v),.sh (.str "abcdefghijklmnopqrstuvwxyz")],rfl,rfl,GL hv2.1 hv2.2⟩
 have hsz:∀k,k<n->1<=pW vs k/\pW vs k<=8:=λk hk=>by
  unfold pW;have h13:∀j,j<8->qY[13+j]?=some 8:=by decide
  obtain⟨e,ge,be,_⟩:=W.at (13+k) (h13 k (by omega));rw[ge,g0];simp only[VA];split<;>omega
 obtain⟨ρ',hloop,a1,a2,a3,a4,hρ⟩:=AO (i:=7) (n:=n) (ρ:=[.sh (.int c),.sh (.int (n:Int)),.sh (.str "abcdefghijklmnopqrstuvwxyz"),.sh (.lst (vs.map D.int)),.sh (.int by_),.sh (.str ⟨B.toArray⟩),.ow (.lst []),.no,.no,.no,.no])
  (body:=(aw (aY 8 (af (dC (.int 1)) (af (ag 3) (dC (.int 0)) aH) aZ))
   (aw (eC (af (af (ag 3) (dC (.int 4)) aH) (dC (.int 1)) fN)
   (aw (aY 8 (af (dC (.int 1)) (af (ag 3) (af (dC (.int 13)) (ag 7) aZ) aH) aZ))
   av)
   av)
   (aw (aY 9 (af (af (ag 3) (dC (.int 1)) aH) (ag 8) dA))
   (aw (aY 10 (af (ag 2) (af (af (af (ag 3) (dC (.int 3)) aH) (af (ag 7) (ag 4) cW) aZ) (dC (.int 26)) dA) aH))
   (aw (cR 6 (af (af (iW (ag 5) gI (dD (ag 9))) (ag 10) aZ) (iW (ag 5) (dD (af (ag 9) (dC (.int 1)) aZ)) (dD (ag 8))) aZ))
   av))))))
  (λk ρ=>∃a1 a2 a3 a4,ρ=[.sh (.int c),.sh (.int (n:Int)),.sh (.str "abcdefghijklmnopqrstuvwxyz"),.sh (.lst (vs.map D.int)),.sh (.int by_),.sh (.str ⟨B.toArray⟩),.ow (.lst ((TY k).map λj=>D.str ⟨(yV vs by_ B j).toArray⟩)),a1,a2,a3,a4])
  (by
   rintro k hk ρ ⟨a1,a2,a3,a4,rfl⟩;have h13:∀j,j<8->qY[13+j]?=some 8:=by decide
   obtain⟨e,ge,be,ie⟩:=W.at (13+k) (h13 k (by omega));have ie':aH (.lst (vs.map D.int)) (.int (13+(k:Int)))=.ok (.int e):=by
    have:(13+(k:Int))=((13+k:Nat):Int):=by omega
    rw[this];exact ie
   have hs:=hsz k hk;have hat:gJ vs k<pW vs k:=V4 _ (by omega);have hmul:iG (k:Int) by_=true:=fS (by omega) (by omega);have hsg:Aw vs by_ k<26:=V4 _ (by decide);have hsgI:(d3+(k:Int)*by_).fmod 26=(Aw vs by_ k:Int):=by
    unfold Aw;rw[g3,VA,V9 _ (by decide)];obtain⟨x,rfl⟩:=Uj b3.1;obtain⟨y,rfl⟩:=Uj hby0.1;simp only[U9];omega
   have hsig:=GL (v:=(Aw vs by_ k:Int)) (by omega) (by omega);rw[U9]at hsig;have hz0:((pW vs k:Int)==0)=false:=beq_eq_false_iff_ne.mpr (by omega);have hatI:d1.fmod (pW vs k:Int)=(gJ vs k:Int):=by
    unfold gJ;rw[g1,VA,V9 _ (by omega)];obtain⟨x,rfl⟩:=Uj b1.1;simp only[U9];omega
   have s1:jF (.str ⟨B.toArray⟩) none (some (gJ vs k:Int))=.ok (.str ⟨(B.take (gJ vs k)).toArray⟩):=by
    rw[z9 (by rw[mH];omega),D6 (by omega)]
   have s2:jF (.str ⟨B.toArray⟩) (some ((gJ vs k:Int)+1)) (some (pW vs k:Int))=.ok (.str ⟨((B.drop (gJ vs k+1)).take (pW vs k-(gJ vs k+1))).toArray⟩):=by
    have:((gJ vs k:Int)+1)=((gJ vs k+1:Nat):Int):=by omega
    rw[z9 (by rw[mH];omega),this,D7 (by omega) (by omega)]
   have t1:aZ (.str ⟨(B.take (gJ vs k)).toArray⟩) (.str ⟨#[97+Aw vs by_ k]⟩)=.ok (.str ⟨(B.take (gJ vs k)++[97+Aw vs by_ k]).toArray⟩):=by
    have e1:(⟨#[97+Aw vs by_ k]⟩:SH)=⟨([97+Aw vs by_ k]:cr).toArray⟩:=rfl;rw[e1,yf (by rw[mH,mH];simp;omega),uD]
   have t2:aZ (.str ⟨(B.take (gJ vs k)++[97+Aw vs by_ k]).toArray⟩) (.str ⟨((B.drop (gJ vs k+1)).take (pW vs k-(gJ vs k+1))).toArray⟩)=.ok (.str ⟨(yV vs by_ B k).toArray⟩):=by
    rw[yf (by rw[mH,mH];simp;omega),uD];unfold yV;rw[Uk];rfl
   have happ:((TY k).map λj=>D.str ⟨(yV vs by_ B j).toArray⟩)++[D.str ⟨(yV vs by_ B k).toArray⟩]=(TY (k+1)).map λj=>D.str ⟨(yV vs by_ B j).toArray⟩:=by
    rw[List.range_succ,T3];rfl
   have hlt:decide (((TY k).map λj=>D.str ⟨(yV vs by_ B j).toArray⟩).length<=999)=true:=decide_eq_true (by simp;omega);cases h4:(d4==1) with
   |true=>
    have hz:1+e=(pW vs k:Int):=by unfold pW;rw[g4,eq_of_beq h4,if_pos rfl,ge];simp only[VA];omega
    open_line with[i0,i1,i3,i4,h4,ie',hz,hz0,hatI,kZ hmul,hsgI,hsig,s1,s2,t1,t2,qk hlt,happ]
    exact⟨_,rfl,_,_,_,_,rfl⟩
   |false=>
    have hz:1+d0=(pW vs k:Int):=by unfold pW;rw[g4,if_neg (by intro z;cases z;simp at h4),g0];simp only[VA];omega
    open_line with[i0,i1,i3,i4,h4,hz,hz0,hatI,kZ hmul,hsgI,hsig,s1,s2,t1,t2,qk hlt,happ]
    exact⟨_,rfl,_,_,_,_,rfl⟩)
  ⟨.no,.no,.no,.no,rfl⟩
 subst hρ;have hby3:aH (.lst [.int 1,.int 3,.int 5,.int 7,.int 9,.int 11,.int 15,.int 17,.int 19,.int 21,.int 23,.int 25]) (.int d2)=.ok (.int by_):=hby2;have hd':bF [.int c,.lst [D.int 8,D.int 8,D.int 12,D.int 26,D.int 2,D.int 26,D.int 26,D.int 26,D.int 26,D.int 26,D.int 26,D.int 26,D.int 26,D.int 8,D.int 8,D.int 8,D.int 8,D.int 8,D.int 8,D.int 8,D.int 8]]=.ok (.lst (vs.map D.int)):=hd;refine⟨(TY n).map λj=>⟨(yV vs by_ B j).toArray⟩,?_,by simp,?_⟩
 .rw[dP,nt]
  open_line with[Tc,Ug]
  rw[hd'];open_line with[i2,hby3,hcut]
  rw[hcomp];open_line with[za (show B.length<=1000 by omega),xJ (show n<=1000000 by omega)]
  rw[hloop];open_line with[Uy]
  rfl
 .refine⟨?_,λz hz=>?_⟩
  .rw[List.nodup_iff_pairwise_ne,List.pairwise_map]
   refine List.Pairwise.imp_of_mem ?_ List.pairwise_lt_range;intro k j hk hj hlt heq;rw[V7]at hk hj;have hs:=hsz k hk;have hs':=hsz j hj;have e:yV vs by_ B k=yV vs by_ B j:=by
    have:=congrArg (λs:SH=>s.cps.toList) heq;simpa using this
   have el:pW vs k=pW vs j:=by rw[←vz (by_:=by_) hB hs.2 hs.1,e,vz hB hs'.2 hs'.1]
   have ea:gJ vs k=gJ vs j:=by unfold gJ;rw[el]
   have h1:=E2 (by_:=by_) hB hs.2 hs.1;have h2:=E2 (by_:=by_) hB hs'.2 hs'.1;rw[e,ea,h2]at h1;have h3:Aw vs by_ k=Aw vs by_ j:=by have:=T9 h1;omega
   unfold Aw at h3;have hd3:((vs[3]?).getD 0).toNat<26:=by rw[g3,VA];omega
   have:=Cw by_ hbm k (by omega) j (by omega) _ hd3 h3;omega
  .obtain⟨k,hk,rfl⟩:=Tt.mp hz
   rw[V7]at hk;have hs:=hsz k hk;unfold cU;rw[mH,vz hB hs.2 hs.1];simp only[SX,decide_eq_true_eq];refine⟨hs.1,hs.2,Tp.mpr λx hx=>?_⟩;simp only[yV,TX,SV]at hx;rcases hx with hx|rfl|hx
   .exact hBin x (Yb hx)
   .exact GN _ (V4 _ (by decide))
   .exact hBin x (List.mem_of_mem_drop (Yb hx))
structure kM where
 a:SH
 b:SH
 w:SH
 l:kO
 o:Option kO
def bG:Option kO->D
 |none=>.non
 |some x=>fr x
def aG(t:kM):D:=.tup [.str t.a,.str t.b,.str t.w,fr t.l,bG t.o]
structure kL (zs:ci) (t:kM):Prop where
 a:t.a∈zs
 b:t.b∈zs
 ne:t.a≠t.b
 w:t.w="one"∨t.w="both"
 l:eA t.l
 l0:0<=t.l.1
 o:∀x,t.o=some x->eA x/\0<x.1
def Ov{α:Type}{vs:List α}{i:Nat}{a b c:α}(h0:vs[i]?=some a)(h1:vs[i+1]?=some b)(h2:vs[i+2]?=some c):(vs.drop i).take 3=[a,b,c]:=by
 apply W3;intro j;rcases j with _|_|_|j
 .rw[UR (by decide),VH];simpa using h0
 .rw[UR (by decide),VH];simpa using h1
 .rw[UR (by decide),VH];simpa using h2
 .rw[List.getElem?_eq_none (by simp;omega)];simp
def GA{vs:List Int}{a b:Nat}{x y:Int}(hx:x=(a:Int))(hy:y=(b:Int))(h:b<=vs.length)(hab:a<=b):mG (vs.map D.int) (some x) (some y)=((vs.drop a).take (b-a)).map D.int:=by
 subst hx hy;rw[vZ,HT.sIx_nat,HT.sIx_nat,Xg h,Xg (SW hab h)]
def Qg{vs:List Int}{i:Nat}{x y:Int}{a b c:Int}(hx:x=(i:Int))(hy:y=((i+3:Nat):Int))(h0:vs[i]?=some a)(h1:vs[i+1]?=some b)(h2:vs[i+2]?=some c):mG (vs.map D.int) (some x) (some y)=[.int a,.int b,.int c]:=by
 have hl:i+3<=vs.length:=by have:=(SR.mp h2).1;omega
 rw[GA hx hy hl (by omega),show i+3-i=3 by omega,Ov h0 h1 h2];rfl
def uZ{zs:ci}{k:Int}(h0:0<=k)(h1:k<zs.length):∃z,zs[k.toNat]?=some z/\aH (.lst (zs.map D.str)) (.int k)=.ok (.str z):=by
 obtain⟨n,rfl⟩:=Uj h0;have hn:n<zs.length:=by omega
 refine⟨zs[n],by simp[hn],jy ?_⟩;rw[Ta,SS hn];rfl
def Hw{k:Int}(h0:0<=k)(h1:k<2):∃z:SH,(z="one"∨z="both")/\aH (.lst [.str "one",.str "both"]) (.int k)=.ok (.str z):=by
 have:k=0∨k=1:=by omega
 rcases this with rfl|rfl
 .exact⟨_,.inl rfl,A1⟩
 .exact⟨_,.inr rfl,A0⟩
def uN{n d e:Int}(h2:2<=n)(d0:0<=d)(d1:d<n)(e0:0<=e)(e1:e<n-1):(0<=(d+1+e).fmod n/\(d+1+e).fmod n<n)/\(d+1+e).fmod n≠d:=by
 refine⟨kI (by omega),?_⟩;rw[V9 _ (by omega)]
 by_cases h:d+1+e<n
 .rw[Int.emod_eq_of_lt (by omega) h];omega
 .have:(d+1+e) % n=d+1+e-n:=by
   rw[←Int.sub_emod_right (d+1+e) n,Int.emod_eq_of_lt (by omega) (by omega)]
  rw[this];omega
def q9{α:Type}{zs:List α}(nd:zs.Nodup){i j:Nat}{x y:α}(hi:zs[i]?=some x)(hj:zs[j]?=some y)(hij:i≠j):x≠y:=by
 intro e;subst e;obtain⟨h1,e1⟩:=SR.mp hi;obtain⟨h2,e2⟩:=SR.mp hj;exact hij ((List.getElem_inj nd).mp (e1.trans e2.symm))
def LI{zs:ci}{c bd:Int}(h2:2<=zs.length)(h8:zs.length<=8)(nd:zs.Nodup)(hb:0<bd/\bd<=(dH:Int)-1):∃t,eG [.lst (zs.map D.str),.int c,.int bd]=.ok (aG t)/\kL zs t:=by
 have hN:(100:Int)<(dH:Int):=by decide
 obtain⟨vs,hd,W⟩:=m7 c [(zs.length:Int),(zs.length:Int)-1,2,5,8,bd,bd,8,bd,bd] (by
  simp only[Va,List.all_nil,SX,decide_eq_true_eq,VX];refine⟨?_,?_,?_,?_,?_,?_,?_,?_,?_,?_⟩<;>constructor<;>omega) (by simp)
 obtain⟨d0,g0,b0,i0⟩:=W.ix 0 0 rfl rfl;obtain⟨d1,g1,b1,i1⟩:=W.ix 1 1 rfl rfl;obtain⟨d2,g2,b2,i2⟩:=W.ix 2 2 rfl rfl;obtain⟨d3,g3,b3,i3⟩:=W.ix 3 3 rfl rfl;obtain⟨d4,g4,b4,_⟩:=W.at 4 rfl;obtain⟨d5,g5,b5,_⟩:=W.at 5 rfl;obtain⟨d6,g6,b6,_⟩:=W.at 6 rfl;obtain⟨d7,g7,b7,_⟩:=W.at 7 rfl;obtain⟨d8,g8,b8,_⟩:=W.at 8 rfl;obtain⟨d9,g9,b9,_⟩:=W.at 9 rfl;have c4:=Qg (x:=4) (y:=7) (i:=4) rfl rfl g4 g5 g6;have c7:=Qg (x:=7) (y:=10) (i:=7) rfl rfl g7 g8 g9;obtain⟨hr,hne⟩:=uN (n:=(zs.length:Int)) (d:=d0) (e:=d1) (by omega) b0.1 b0.2 b1.1 b1.2;obtain⟨z1,k1,j1⟩:=uZ (zs:=zs) b0.1 b0.2;obtain⟨z2,k2,j2⟩:=uZ (zs:=zs) hr.1 hr.2;obtain⟨wd,hw,jw⟩:=Hw b2.1 b2.2;obtain⟨x,hx,fx,lx⟩:=oX (w:=d4) (a:=d5) (b:=d6) (l:=0) ⟨b5.1,by omega⟩ ⟨b6.1,by omega⟩ (by decide);obtain⟨y,hy,fy,ly⟩:=oX (w:=d7) (a:=d8) (b:=d9) (l:=1) ⟨b8.1,by omega⟩ ⟨b9.1,by omega⟩ (by decide);have hn0:((zs.length:Int)==0)=false:=beq_eq_false_iff_ne.mpr (by omega);have hz12:z1≠z2:=q9 nd k1 k2 (by omega);have hd':bF [.int c,.lst [.int (zs.length:Int),.int ((zs.length:Int)-1),.int 2,.int 5,.int 8,.int bd,.int bd,.int 8,.int bd,.int bd]]=.ok (.lst (vs.map D.int)):=hd
 by_cases h3:0<d3
 .refine⟨⟨z1,z2,wd,x,some y⟩,?_,S7 k1,S7 k2,hz12,hw,fx,lx,λv hv=>?_⟩
  .open_line with[eG,mJ,SD,hd',i3,decide_eq_true h3,c7,hy,i0,j1,i1,hn0,j2,i2,jw,c4,hx]
   rfl
  .cases hv;exact⟨fy,by omega⟩
 .refine⟨⟨z1,z2,wd,x,none⟩,?_,S7 k1,S7 k2,hz12,hw,fx,lx,λv hv=>nomatch hv⟩
  open_line with[eG,mJ,SD,hd',i3,decide_eq_false h3,i0,j1,i1,hn0,j2,i2,jw,c4,hx]
  rfl
def ju:bv :=
 (aw (bI (gh (ao (ae (ag 0) au) m_is_ratio) (af (af (ag 0) (dC (.int 0)) aH) (dC (.int 0)) NG)))
 av)
def m_is_length:ac->ak D:=cq 1 ju
def iR:bv :=
 (aw (bI (fE (af (ag 0) (dC (.non)) pI) (gh (ao (ae (ag 0) au) m_is_ratio) (af (af (ag 0) (dC (.int 0)) aH) (dC (.int 0)) G7))))
 av)
def m_is_worth:ac->ak D:=cq 1 iR
noncomputable def fj:bv :=
 (aw (eC (fE (bV (aS (ag 0) (dW "tuple"))) (af (ao (ae (ag 0) au) (m1 cC)) (dC (.int 5)) jC))
 (aw (bI (dC (.bl false)))
 av)
 av)
 (aw (eC (fE (bV (ao (ae (af (ag 0) (dC (.int 0)) aH) au) m_is_name)) (fE (bV (ao (ae (af (ag 0) (dC (.int 1)) aH) au) m_is_name)) (af (af (ag 0) (dC (.int 0)) aH) (af (ag 0) (dC (.int 1)) aH) fN)))
 (aw (bI (dC (.bl false)))
 av)
 av)
 (aw (eC (fE (bV (aS (af (ag 0) (dC (.int 2)) aH) (dW "str"))) (af (af (ag 0) (dC (.int 2)) aH) (dC (.tup [(.str "one"),(.str "both")])) c6))
 (aw (bI (dC (.bl false)))
 av)
 av)
 (aw (bI (gh (ao (ae (af (ag 0) (dC (.int 3)) aH) au) m_is_length) (ao (ae (af (ag 0) (dC (.int 4)) aH) au) m_is_worth)))
 av))))
def m_is_tie:ac->ak D:=cq 1 fj
noncomputable def b_look_at_places:bv :=
 (aw (eC (fE (bV (aS (ag 0) (dW "list"))) (bV (ib C0 C0 (dC (.int 2)) (ao (ae (ag 0) au) (m1 cC)) (dC (.int 7)))))
 (aw fQ
 av)
 av)
 (aw (kT (sY (ag 0)) (ik [1,2])
 (aw (eC (fE (bV (ao (ae (ag 2) au) m_is_name)) (af (ag 2) (iW (ag 0) gI (dD (ag 1))) xX))
 (aw fQ
 av)
 av)
 av))
 av))
def m_look_at_places:ac->ak D:=cq 3 b_look_at_places
noncomputable def b_look_at_ties:bv :=
 (aw (eC (fE (bV (aS (ag 0) (dW "list"))) (af (ao (ae (ag 0) au) (m1 cC)) (dC (.int 14)) G7))
 (aw fQ
 av)
 av)
 (aw (kT (sY (ag 0)) (ik [2,3])
 (aw (eC (fE (bV (ao (ae (ag 3) au) m_is_tie)) (fE (af (af (ag 3) (dC (.int 0)) aH) (ag 1) c6) (af (af (ag 3) (dC (.int 1)) aH) (ag 1) c6)))
 (aw fQ
 av)
 av)
 av))
 av))
def m_look_at_ties:ac->ak D:=cq 4 b_look_at_ties
def mI:bv :=
 (aw (bI (gh (ao (ae (ag 0) au) m_is_name) (af (ag 0) (ag 1) xX)))
 av)
def m_is_place:ac->ak D:=cq 2 mI
noncomputable def b_look_at_web:bv :=
 (aw (eC (fE (bV (aS (ag 0) (dW "tuple"))) (af (ao (ae (ag 0) au) (m1 cC)) (dC (.int 4)) jC))
 (aw fQ
 av)
 av)
 (aw (kG (ao (ae (af (ag 0) (dC (.int 0)) aH) au) m_look_at_places))
 (aw (kG (ao (ae (af (ag 0) (dC (.int 1)) aH) (ae (af (ag 0) (dC (.int 0)) aH) au)) m_look_at_ties))
 (aw (eC (bV (ao (ae (af (ag 0) (dC (.int 2)) aH) (ae (af (ag 0) (dC (.int 0)) aH) au)) m_is_place))
 (aw fQ
 av)
 av)
 (aw (eC (fE (bV (ao (ae (af (ag 0) (dC (.int 3)) aH) (ae (af (ag 0) (dC (.int 0)) aH) au)) m_is_place)) (af (af (ag 0) (dC (.int 3)) aH) (af (ag 0) (dC (.int 2)) aH) fN))
 (aw fQ
 av)
 av)
 av)))))
def m_look_at_web:ac->ak D:=cq 1 b_look_at_web
structure l8 where
 ps:ci
 ts:List kM
 fi:SH
 la:SH
def aN(w:l8):D:=.tup [.lst (w.ps.map D.str),.lst (w.ts.map aG),.str w.fi,.str w.la]
structure gj (w:l8):Prop where
 n2:2<=w.ps.length
 n7:w.ps.length<=7
 nm:cM w.ps
 t14:w.ts.length<=14
 ts:∀t∈w.ts,kL w.ps t
 fi:w.fi∈w.ps
 la:w.la∈w.ps
 ne:w.fi≠w.la
def iu{z:SH}(h:cU z=true):m_is_name [.str z]=.ok (.bl true):=by
 have hl:z.length<=8:=by
  unfold cU at h;simp only[SX,decide_eq_true_eq]at h;exact h.2.1
 rw[bN (show AR (.str z)=true from decide_eq_true (SW hl (by decide)))];show ak.ok (D.bl (cU z))=_;rw[h]
def my{x:kO}(h:Low x):m_is_ratio [fr x]=.ok (.bl true):=by
 rw[dS];show ak.ok (D.bl (eZ (.tup [.int x.1,.int x.2])))=_;have h1:=h.q1;have h2:=h.g1;show ak.ok (D.bl (decide (1<=x.2)&&(TN x.1 x.2==1)))=_;rw[decide_eq_true h1,h2];rfl
def oS{x:kO}(h:Low x)(h0:0<=x.1):m_is_length [fr x]=.ok (.bl true):=by
 have e:fr x=.tup [.int x.1,.int x.2]:=rfl;have h1:=my h;rw[e]at h1 ⊢;open_line with[m_is_length,ju,h1,decide_eq_true h0,decide_eq_true (show x.1≥0 from h0)]
def qt{o:Option kO}(h:∀x,o=some x->Low x/\0<x.1):m_is_worth [bG o]=.ok (.bl true):=by
 cases o with
 |none=>rfl
 |some x=>
  obtain⟨hx,h0⟩:=h x rfl;have e:bG (some x)=.tup [.int x.1,.int x.2]:=rfl;have h1:=my hx;rw[show fr x=.tup [.int x.1,.int x.2] from rfl]at h1;rw[e];open_line with[m_is_worth,iR,h1,decide_eq_true h0]
def m6{x y:SH}:fN (.str x) (.str y)=.ok (.bl (x==y)):=by unfold fN;rw[if_pos ⟨rfl,rfl⟩,cS]
def qz{zs:ci}{t:kM}(nm:cM zs)(h:kL zs t):m_is_tie [aG t]=.ok (.bl true):=by
 obtain⟨a,b,w,l,o⟩:=t;obtain⟨ha,hb,hne,hw,hl,hl0,ho⟩:=h;have h1:=iu (nm.nm a ha);have h2:=iu (nm.nm b hb);have h3:=oS hl.toLow hl0;have h4:=qt (o:=o) λx hx=>⟨(ho x hx).1.toLow,(ho x hx).2⟩
 have h5:(a==b)=false:=beq_eq_false_iff_ne.mpr hne;have h6:c6 (.str w) (.tup [.str "one",.str "both"])=.ok (.bl false):=by
  rcases hw with rfl|rfl<;>rfl
 have e:aG ⟨a,b,w,l,o⟩=.tup [.str a,.str b,.str w,fr l,bG o]:=rfl;rw[e];open_line with[m_is_tie,fj,h1,h2,m6,h5,h6,h3,h4]
def Bm{zs:ci}{z:SH}:(zs.map D.str).any (λd=>cS d (.str z))=decide (z∈zs):=by
 induction zs with
 |nil=>rfl
 |cons y zs ih=>
  rw[Tv,Xw,ih];show((y==z)||decide (z∈zs))=_
  by_cases h:y=z
  .subst h;simp
  .have:(y==z)=false:=beq_eq_false_iff_ne.mpr h
   rw[this,Xy];have:z∈y::zs↔z∈zs:=by simp[TF h]
   exact decide_eq_decide.mpr this.symm
def nK{n:Nat}{zs:ci}:(zs.map D.str).all (bf n)=true:=Tp.mpr λd hd=>by
 obtain⟨z,_,rfl⟩:=Tt.mp hd;cases n<;>rfl
def lM{zs:ci}{z:SH}:xX (.str z) (.lst (zs.map D.str))=.ok (.bl (decide (z∈zs))):=by
 have e:G3 (.str z) (.lst (zs.map D.str))=some (decide (z∈zs)):=(if_pos ⟨rfl,nK⟩).trans (congrArg some Bm);unfold xX;rw[e]
def dO{zs:ci}{z:SH}:c6 (.str z) (.lst (zs.map D.str))=.ok (.bl (!(decide (z∈zs)))):=by
 have e:G3 (.str z) (.lst (zs.map D.str))=some (decide (z∈zs)):=(if_pos ⟨rfl,nK⟩).trans (congrArg some Bm);unfold c6;rw[e]
def gp{zs:ci}{z:SH}(h:cU z=true)(hz:z∈zs):m_is_place [.str z,.lst (zs.map D.str)]=.ok (.bl true):=by
 open_line with[m_is_place,mI,iu h,lM,decide_eq_true hz]
def ig{α:Type}{F:α->D}{xs:List α}{k:Nat}{d:D}(h:(numbered 0 (xs.map F))[k]?=some d):∃x,xs[k]?=some x/\d=.tup [.int (k:Int),F x]:=by
 rw[kf,Ta]at h;cases e:xs[k]? with
 |none=>rw[e]at h;cases h
 |some x=>
  rw[e]at h;cases h;exact⟨x,rfl,by simp⟩
def zC{α:Type}{F:α->D}{xs:List α}{k:Nat}(h:k<=xs.length):mG (xs.map F) none (some (k:Int))=(xs.take k).map F:=by
 rw[vZ,HT.sIx_none,HT.sIx_nat,Xg h,List.drop_zero,WZ]
def uf{zs:ci}(h2:2<=zs.length)(h7:zs.length<=7)(nm:cM zs):m_look_at_places [.lst (zs.map D.str)]=.ok .non:=by
 obtain⟨ρ',hl,_⟩:=jc (ds:=numbered 0 (zs.map D.str)) (tg:=ik [1,2]) (ρ:=[.sh (.lst (zs.map D.str)),.no,.no])
  (body:=(aw (eC (fE (bV (ao (ae (ag 2) au) m_is_name)) (af (ag 2) (iW (ag 0) gI (dD (ag 1))) xX)) (aw fQ av) av) av))
  (λk ρ=>∃a b,ρ=[.sh (.lst (zs.map D.str)),a,b]) (by
   rintro k d hd ρ ⟨a,b,rfl⟩;obtain⟨z,hz,rfl⟩:=ig hd;refine⟨_,[.sh (.lst (zs.map D.str)),.sh (.int (k:Int)),.sh (.str z)],uz rfl,?_,_,_,rfl⟩;have hk:k<zs.length:=(SR.mp hz).1;have hnot:decide (z∈zs.take k)=false:=decide_eq_false λhm=>by
    obtain⟨j,hj⟩:=X1.mp hm;have hjk:j<k:=by have:=(SR.mp hj).1;simp at this;omega
    rw[UR hjk]at hj;exact q9 nm.nd hj hz (by omega) rfl
   open_line with[iu (nm.nm z (S7 hz)),zC (Ua hk),lM,hnot]) ⟨.no,.no,rfl⟩
 have e1:decide ((2:Int)<=(zs.length:Int))=true:=decide_eq_true (by omega);have e2:decide ((zs.length:Int)<=7)=true:=decide_eq_true (by omega);open_line with[m_look_at_places,b_look_at_places,SD,e1,e2,hl]
def zW{zs:ci}{ts:List kM}(h14:ts.length<=14)(nm:cM zs)(ht:∀t∈ts,kL zs t):m_look_at_ties [.lst (ts.map aG),.lst (zs.map D.str)]=.ok .non:=by
 obtain⟨ρ',hl,_⟩:=jc (ds:=numbered 0 (ts.map aG)) (tg:=ik [2,3]) (ρ:=[.sh (.lst (ts.map aG)),.sh (.lst (zs.map D.str)),.no,.no])
  (body:=(aw (eC (fE (bV (ao (ae (ag 3) au) m_is_tie)) (fE (af (af (ag 3) (dC (.int 0)) aH) (ag 1) c6) (af (af (ag 3) (dC (.int 1)) aH) (ag 1) c6))) (aw fQ av) av) av))
  (λk ρ=>∃a b,ρ=[.sh (.lst (ts.map aG)),.sh (.lst (zs.map D.str)),a,b]) (by
   rintro k d hd ρ ⟨a,b,rfl⟩;obtain⟨t,ht',rfl⟩:=ig hd;refine⟨_,[.sh (.lst (ts.map aG)),.sh (.lst (zs.map D.str)),.sh (.int (k:Int)),.sh (aG t)],uz rfl,?_,_,_,rfl⟩;have hT:=ht t (S7 ht');have h1:=qz nm hT;rw[show aG t=.tup [.str t.a,.str t.b,.str t.w,fr t.l,bG t.o] from rfl]at h1 ⊢;open_line with[h1,dO,decide_eq_true hT.a,decide_eq_true hT.b]) ⟨.no,.no,rfl⟩
 have e1:decide ((14:Int)<(ts.length:Int))=false:=decide_eq_false (by omega);open_line with[m_look_at_ties,b_look_at_ties,SD,e1,decide_eq_false (show ¬(ts.length:Int) > 14 by omega),hl]
def Ly{w:l8}(h:gj w):m_look_at_web [aN w]=.ok .non:=by
 obtain⟨ps,ts,fi,la⟩:=w;have h1:=uf h.n2 h.n7 h.nm;have h2:=zW h.t14 h.nm h.ts;have h3:=gp (h.nm.nm fi h.fi) h.fi;have h4:=gp (h.nm.nm la h.la) h.la;have h5:(la==fi)=false:=beq_eq_false_iff_ne.mpr (TF h.ne);rw[show aN ⟨ps,ts,fi,la⟩=.tup [.lst (ps.map D.str),.lst (ts.map aG),.str fi,.str la] from rfl];open_line with[m_look_at_web,b_look_at_web,h1,h2,h3,h4,m6,h5]
noncomputable def iS:bv :=
 (aw (eC (af (ag 1) (ao (ae (ag 0) au) (m1 cC)) Gz)
 (aw (bI (af (ag 0) (ag 1) aH))
 av)
 av)
 (aw (bI (af (af (dC (.int 7919)) (ag 1) cW) (af (dC (.int 31)) (ao (ae (ag 0) au) (m1 cC)) cW) aZ))
 av))
def bz:ac->ak D:=cq 2 iS
noncomputable def sJ:bv :=
 (aw (aY 2 (ao (ae (ag 0) (ae (ag 1) au)) bz))
 (aw (aY 3 (ao (ae (ag 2) (ae (ao (ae (dC (.int 6)) (ae (dC (.int 15)) (ae (dC (.int 7)) (ae (dC (.int 6)) au)))) cY) au)) bF))
 (aw (aY 4 (ao (ae (af (ag 2) (dC (.int 3780)) og) (ae (af (dC (.int 2)) (af (ag 3) (dC (.int 0)) aH) aZ) au)) dP))
 (aw (mx 5 (ao au cY))
 (aw (qH (af (ag 3) (dC (.int 1)) aH) (dz 6)
 (aw (aY 7 (af (ao (ae (af (af (dC (.int 10)) (dC (.int 60)) k7) (dC (.int 1)) pH) (ae (af (dC (.int 10)) (dC (.int 9)) k7) au)) cY) (ao (ae (af (af (ag 6) (dC (.int 5)) dA) (dC (.int 0)) G7) au) (m1 oa)) aH))
 (aw (cR 5 (ao (ae (ag 4) (ae (ao (ae (ag 0) (ae (af (af (ag 1) (dC (.int 1)) aZ) (ag 6) aZ) au)) bz) (ae (ag 7) au))) eG))
 av)))
 (aw (aY 8 (af (af (ag 3) (dC (.int 2)) aH) (ao (ae (ag 4) au) (m1 cC)) dA))
 (aw (aY 9 (af (af (af (ag 8) (dC (.int 1)) aZ) (af (af (ag 3) (dC (.int 3)) aH) (af (ao (ae (ag 4) au) (m1 cC)) (dC (.int 1)) pH) dA) aZ) (ao (ae (ag 4) au) (m1 cC)) dA))
 (aw (bI (ao (ae (ag 4) (ae (ag 5) (ae (af (ag 4) (ag 8) aH) (ae (af (ag 4) (ag 9) aH) au)))) dE))
 av))))))))
def eF:ac->ak D:=cq 10 sJ
def v7{ns:List Int}(hn:ns.length<=1000){k:Int}(h0:0<=k)(h1:k<=1000):∃c:Int,bz [.lst (ns.map D.int),.int k]=.ok (.int c):=by
 obtain⟨n,rfl⟩:=Uj h0
 by_cases h:n<ns.length
 .refine⟨ns[n],?_⟩
  have hix:aH (.lst (ns.map D.int)) (.int (n:Int))=.ok (.int ns[n]):=jy (by rw[Ta,SS h];rfl);open_line with[bz,iS,SD,decide_eq_true (show(n:Int)<(ns.length:Int) by omega),hix]
 .refine⟨7919*(n:Int)+31*(ns.length:Int),?_⟩
  open_line with[bz,iS,SD,decide_eq_false (show ¬(n:Int)<(ns.length:Int) by omega),kZ (fS (i:=7919) (j:=(n:Int)) (by decide) (by omega)),kZ (fS (i:=31) (j:=(ns.length:Int)) (by decide) (by omega))]
def GF{k:Int}:∃bd:Int,(0<bd/\bd<=(dH:Int)-1)/\∀(ρ:Ev),ρ[6]?=some (.sh (.int k))->(af (ao (ae (af (af (dC (.int 10)) (dC (.int 60)) k7) (dC (.int 1)) pH) (ae (af (dC (.int 10)) (dC (.int 9)) k7) au)) cY) (ao (ae (af (af (ag 6) (dC (.int 5)) dA) (dC (.int 0)) G7) au) (m1 oa)) aH) ρ=.ok (.int bd):=by
 have p9:k7 (.int 10) (.int 9)=.ok (.int 1000000000):=rfl
 by_cases h:0<k.fmod 5
 .refine⟨1000000000,⟨by decide,by decide⟩,λρ hρ=>?_⟩
  have e:oa (.bl true)=.ok (.int 1):=rfl;open_line with[hρ,p9,decide_eq_true (show k.fmod 5 > 0 from h),decide_eq_true h,e]
 .refine⟨(dH:Int)-1,⟨by decide,by decide⟩,λρ hρ=>?_⟩
  have e:oa (.bl false)=.ok (.int 0):=rfl;open_line with[hρ,p9,decide_eq_false (show ¬k.fmod 5 > 0 from h),decide_eq_false h,e]
def Bw{ns:List Int}(hn:ns.length<=1000){at_:Int}(h0:0<=at_)(h1:at_<=900):∃w,eF [.lst (ns.map D.int),.int at_]=.ok (aN w)/\gj w:=by
 obtain⟨c,hc⟩:=v7 hn (k:=at_) h0 (by omega);obtain⟨vs,hd,W⟩:=m7 c [6,15,7,6] (by decide) (by decide);have hd':bF [.int c,.lst [.int 6,.int 15,.int 7,.int 6]]=.ok (.lst (vs.map D.int)):=hd;obtain⟨d0,g0,b0,i0⟩:=W.ix 0 0 rfl rfl;obtain⟨d1,g1,b1,i1⟩:=W.ix 1 1 rfl rfl;obtain⟨d2,g2,b2,i2⟩:=W.ix 2 2 rfl rfl;obtain⟨d3,g3,b3,i3⟩:=W.ix 3 3 rfl rfl;obtain⟨m,rfl⟩:=Uj b0.1;obtain⟨zs,hz,hzl,nm⟩:=E3 (c.fdiv 3780) (2+m) (by omega);have hz':dP [.int (c.fdiv 3780),.int (2+(m:Int))]=.ok (.lst (zs.map D.str)):=hz;have hdiv:og (.int c) (.int 3780)=.ok (.int (c.fdiv 3780)):=Nl (Gr (by decide) (SU (show(3780:Int).natAbs<dH by decide) NY));obtain⟨tn,rfl⟩:=Uj b1.1;obtain⟨ρ',hl,ts,hts,hall,x,y,rfl⟩:=AO (i:=6) (n:=tn)
  (ρ:=[.sh (.lst (ns.map D.int)),.sh (.int at_),.sh (.int c),.sh (.lst (vs.map D.int)),.sh (.lst (zs.map D.str)),.ow (.lst []),.no,.no,.no,.no])
  (body:=(aw (aY 7 (af (ao (ae (af (af (dC (.int 10)) (dC (.int 60)) k7) (dC (.int 1)) pH) (ae (af (dC (.int 10)) (dC (.int 9)) k7) au)) cY) (ao (ae (af (af (ag 6) (dC (.int 5)) dA) (dC (.int 0)) G7) au) (m1 oa)) aH))
   (aw (cR 5 (ao (ae (ag 4) (ae (ao (ae (ag 0) (ae (af (af (ag 1) (dC (.int 1)) aZ) (ag 6) aZ) au)) bz) (ae (ag 7) au))) eG))
   av)))
  (λk ρ=>∃ts:List kM,ts.length=k/\(∀t∈ts,kL zs t)/\∃x y,ρ=[.sh (.lst (ns.map D.int)),.sh (.int at_),.sh (.int c),.sh (.lst (vs.map D.int)),.sh (.lst (zs.map D.str)),.ow (.lst (ts.map aG)),x,y,.no,.no]) (by
   rintro k hk ρ ⟨ts,rfl,hall,x,y,rfl⟩;obtain⟨bd,hb,hbd⟩:=GF (k:=((ts.length:Nat):Int));obtain⟨c',hc'⟩:=v7 hn (k:=at_+1+(ts.length:Int)) (by omega) (by omega);obtain⟨t,ht,hT⟩:=LI (zs:=zs) (c:=c') (bd:=bd) (by omega) (by omega) nm.nd hb;refine⟨[.sh (.lst (ns.map D.int)),.sh (.int at_),.sh (.int c),.sh (.lst (vs.map D.int)),.sh (.lst (zs.map D.str)),.ow (.lst ((ts++[t]).map aG)),.sh (.int (ts.length:Int)),.sh (.int bd),.no,.no],?_,ts++[t],by simp,λu hu=>?_,_,_,rfl⟩
   .rw[zp,F6,hbd _ rfl]
    open_line with[hc',ht,qk (ds:=ts.map aG) (decide_eq_true (by rw[SD];omega)),T3]
   .rw[TX]at hu
    rcases hu with hu|hu
    .exact hall u hu
    .have:u=t:=by simpa using hu
     subst this;exact hT) ⟨[],rfl,λt ht=>(nomatch ht),_,_,rfl⟩
 have hn0:((zs.length:Int)==0)=false:=beq_eq_false_iff_ne.mpr (by omega);have hn1:((zs.length:Int)-1==0)=false:=beq_eq_false_iff_ne.mpr (by omega);have f1:=kI (a:=d2) (b:=(zs.length:Int)) (by omega);have f2:=kI (a:=d3) (b:=(zs.length:Int)-1) (by omega);obtain⟨hr,hne⟩:=uN (n:=(zs.length:Int)) (d:=d2.fmod (zs.length:Int)) (e:=d3.fmod ((zs.length:Int)-1)) (by omega) f1.1 f1.2 f2.1 f2.2;obtain⟨z1,k1,j1⟩:=uZ (zs:=zs) f1.1 f1.2;obtain⟨z2,k2,j2⟩:=uZ (zs:=zs) hr.1 hr.2;refine⟨⟨zs,ts,z1,z2⟩,?_,⟨by show 2<=zs.length;omega,by show zs.length<=7;omega,nm,by show ts.length<=14;omega,hall,S7 k1,S7 k2,q9 nm.nd k1 k2 (by omega)⟩⟩;open_line with[eF,sJ,hc,hd',hdiv,i0,hz',i1,A2,xJ (k:=tn) (show tn<=1000000 by omega),hl,i2,i3,SD,hn0,hn1,j1,j2]
 rfl
end Com
namespace DL
open PySem PySem.Spec PyProof.Rows L2
section
variable {X:Cx}{E:XK}{He η:Hp}{e a b:Tn}{es:List Tn}{f g:am}{fa:Ev->ak (ac)}{pos:Pos}
def vY(x y:D):ak D:=match x,y with
 |.lst ds,.lst es=>if ds.length+es.length<=line then .ok (.lst (ds++es)) else .stuck
 |_,_=>.stuck
def zy(ha:DE X E a f)(hb:DE X E b g):DF X E (.BinOp a .Add b pos) (af f g vY):=by
 refine⟨?_⟩;refine bc (EN Au ha.o hb.o) λσ H Q z9=>?_;obtain⟨Ha,ρ,hs,hr,q⟩:=z9;refine⟨Ha,ρ,hs,hr,?_⟩
 unfold af at q;cases e1:f ρ with
 |stuck|exn x=>rw[e1]at q;exact q
 |ok x=>
  rw[e1]at q;intro v H1 H01 g1 r1;refine⟨H01,ρ,g1.sub,hr.mono g1.z,?_⟩;cases e2:g ρ with
  |stuck=>simp only[ak.bind,e2]at q|exn y=>simp only[ak.bind,e2]at q;exact λC ox H' Ha' g' ex=>q C ox H' Ha' (g1.trans g') ex
  |ok y=>
   simp only[ak.bind,e2]at q;intro u H2 H02 g2 r2;cases x with
   |lst ds=>
    cases y with
    |lst es=>
     by_cases h:ds.length+es.length<=line
     .simp only[vY,if_pos h]at q
      obtain⟨l,vs,rfl,h1,h2⟩:=aB.mp (r1.mono g2.z);obtain⟨m,us,rfl,k1,k2⟩:=aB.mp r2;refine⟨l,m,vs,us,rfl,rfl,aD.sqL g2.sub h1,aD.sqL g2.sub k1,by rw[←h2.length,←k2.length];exact eg h,λp hp=>?_⟩;have sm:aD H2 (upd H2 p (.lst (vs++us))):=λb o eb=>by rw[ax (by intro z;subst z;rw[hp]at eb;cases eb)];exact eb
      refine q p (vs++us) _ H02 ⟨(g1.s.trans g2.s).trans sm,g1.z.trans g2.z,g2.sub.trans sm,(g1.trans g2).nw⟩ ((g1.s.trans g2.s).free hp) ?_ az (h2.app k2);cases qq:H02 p with|none=>rfl|some o=>have:=g2.sub _ _ qq;rw[hp]at this;cases this
     .simp only[vY,if_neg h]at q
    |_=>simp only[vY]at q
   |_=>simp only[vY]at q
end
def PT.nox{X:Cx}{e:Tn}{t:TT}(h:PT X.nox e t):PT X e t:=λπ s σ H Q I hw=>
 T4 (h π s σ H Q (I.wish _) hw) (λ_ _ ⟨H',I',q⟩=>⟨H',I'.unwish,q⟩) λ_ _ z=>T8 z
section
variable {prog:Tr}{w:TU}{A:TK}{E:Sy->SI->Prop}{h:S1}{g:Array GenState}{d:Drawn}{t:Nat}{os:OsState}
variable {nm q:SH}{C N:SA}{bs bm bmB:List Sy}{hdct:Bool}{sn:ci}{sub:List Sy}{ab:Bool}{col:Option Bool}{dd:Option SA}{k0 k1 k2 k3 k5:Option Sy}{B newId initId:String}{mN:SH->Option Sy}{rest:List Sy}{fI:SA}{oI:Obj}
def Hn{Q:Fin->SI->Prop}(F:ExcBaseFacts B newId initId bmB)(T:OwnTail h bmB bm)(hC:h.get? C=some (excClassObj nm q C N bs bm hdct sn sub ab col dd k0 k1 k2 k3 k5 newId))(hn:h.Ns N mN)(hi:mN "__init__"=some (.ref fI))(hfI:h.get? fI=some oI)(hfc:oI.cls=.type "function")(hrest:rest.length<=sizeLine)
  (hq:∀h' e,WA h h' e (.ref C) rest->Td (Tb prog w) A (call (.ref fI) (.ref e::rest)) (λr s'=>r=.none/\Q (.done (.ret (.ref e))) s') E ⟨h',g,d,t,os⟩):Td (Tb prog w) A (Builtin.«type.__call__» ⟨.ref C::rest,[]⟩) Q E ⟨h,g,d,t,os⟩:=by
 repeat (first|with_reducible refine UH hC ?_|with_reducible refine wpAny_madeBy_exc hC ?_|wp_step)
 refine codeAny_call_builtin_code (WN _ F.quiet) (wpAny_check_new_subT F T hC (codeAny_exc_new_subT F T hC ?_ hrest));generalize hT0:({ cls:=.type "tuple",data:=.seq rest.toArray }:Obj)=o0;generalize hX0:({ cls:=.ref C,data:=.fields #[.ref h.objs.size,.none,.none,.none,.bool false,.none] }:Obj)=o1;have kp:∀b o,h.get? b=some o->((h.push o0).push o1).get? b=some o:=λb o hb=>SK o1 (SK o0 hb);have hget:((h.push o0).push o1).get? (h.objs.size+1)=some o1:=by subst hX0 hT0;heap_get
 have hc1:o1.cls=.ref C:=by subst hX0;rfl
 have hcC:(Tu C::bm).contains (.ref C)=true:=by simp
 show Td _ _ _ _ _ _;unfold isInstance
 repeat (first|(with_reducible refine UH hget ?_;try rw[hc1])|(with_reducible refine wpAny_isSubtype_exc (kp _ _ hC) ?_;rw[hcC])|wp_step)
 show Td _ _ (VR (.ref C) _) _ _ _;refine wpAny_typeLookup_tail (kp _ _ hC) (hn.keeps kp) (T.keeps kp) F.mroIs F.init.lookup ?_;rw[hi];refine UY (SG (show Td _ _ (bindSpecial _ _) _ _ _ from ?_));unfold bindSpecial;refine SG (wpAny_typeOf (T:="function") ⟨_,kp _ _ hfI,hfc⟩ ?_);rw[if_pos (by decide)];refine S5 (SG (T4 (hq _ (h.objs.size+1) ⟨kp,VZ (Nat.le_succ _),h.objs.size,by rw[hX0];exact hget,VZ (Tf _),?_⟩) (λr s' hr=>?_) λ_ _ x=>x))
 .subst hT0;exact SK _ (Heap.get?_push_at rfl rfl)
 .obtain⟨rfl,hQ⟩:=hr
  wp_walk
  exact hQ
def Hr{Q:Sy->SI->Prop}(F:ExcBaseFacts B newId initId bmB)(T:OwnTail h bmB bm)(hC:h.get? C=some (excClassObj nm q C N bs bm hdct sn sub ab col dd k0 k1 k2 k3 k5 newId))(hn:h.Ns N mN)(hi:mN "__init__"=some (.ref fI))(hfI:h.get? fI=some oI)(hfc:oI.cls=.type "function")(hrest:rest.length<=sizeLine)
  (hq:∀h' e,WA h h' e (.ref C) rest->Td (Tb prog w) (A.under (.builtin "type.__call__" ⟨.ref C::rest,[]⟩)) (call (.ref fI) (.ref e::rest)) (λr s'=>r=.none/\Q (.ref e) s') E ⟨h',g,d,t,os⟩):Td (Tb prog w) A (call (.ref C) rest) Q E ⟨h,g,d,t,os⟩:=by
 have f1:=tc_lookup;have f2:=tc_bind (.ref C);have hT:(⟨h,g,d,t,os⟩:SI).TypeIs (.ref C) "type":=⟨_,hC,rfl⟩
 refine wpAny_call (codeAny_of_tree (show Td _ _ (callAny (.ref C) _) _ _ _ from ?_))
 repeat (any_goals (first|assumption|with_reducible refine UH hC ?_|wp_step))
 exact⟨rfl,codeAny_call_builtin_at (WN _ (by decide +kernel)) entry_typeCall (wpAny_check_type_call_sub hC (Hn F T hC hn hi hfI hfc hrest λh' e hm=>hq h' e hm))⟩
end
section
variable {M:Model}{A:TK}{E:Sy->SI->Prop}{env:Uh}
variable {nm q:SH}{C N:SA}{bs bm:List Sy}{hdct:Bool}{sn:ci}{sub:List Sy}{ab:Bool}{col:Option Bool}{dd:Option SA}{k0 k1 k2 k3 k5:Option Sy}{newId:String}
def Dn{s:SI}{x:Sem Sy}{Q:Flow->SI->Prop}(hbase:bm.contains (.type "BaseException")=true)(hh:A.handled=none)
  (h:Td M A x (λv sg=>∃e dc t,v=.ref e/\sg.heap.get? C=some (excClassObj nm q C N bs bm hdct sn sub ab col dd k0 k1 k2 k3 k5 newId)/\sg.heap.get? e=some ⟨.ref C,dc,.fields #[.ref t,.none,.none,.none,.bool false,.none],#[]⟩/\E (.ref e) sg) E s):Td M A (raiseStmt env (some x) none) Q E s:=by
 have hcB:(Tu C::bm).contains (.type "BaseException")=true:=by rw[List.contains_cons,hbase,Bool.or_true]
 unfold raiseStmt;refine SG (T4 h (λv sg ⟨e,dc,t,hv,hC,he,hE⟩=>?_) λ_ _ x=>x);subst hv;obtain⟨hp,g,d,tk,os⟩:=sg
 repeat (first|with_reducible refine UH he ?_|with_reducible refine UH hC ?_|(with_reducible refine wpAny_isSubtype_exc hC ?_;rw[hcB])|wp_step)
 exact wpAny_raiseNew_none hh hE
end
def kP:List Sy->Bool
 |.ref _::r=>kP r
 |l=>l==[.type "ValueError",.type "Exception",.type "BaseException",.type "object"]
theorem ud(self:Sy):∀{l:List Sy},kP l=true->refuseLoop self "__setattr__" l=pure ()
 |[],e=>by cases e
 |x::r,e=>by
  cases x with|ref c=>rw[refuseLoop_ref];exact ud self (l:=r) (by unfold kP at e;exact e)| _=>unfold kP at e;rw[beq_iff_eq.mp e];exact PySem.F.store_ValueError.passes self
theorem Dy:∀{l:List Sy},kP l=true->l.contains (.type "object")=true
 |[],e=>by cases e
 |x::r,e=>by
  cases x with|ref c=>rw[List.contains_cons,Dy (l:=r) (by unfold kP at e;exact e),Bool.or_true]| _=>unfold kP at e;rw[beq_iff_eq.mp e];decide
structure GP (K:SE) (C:SA) (ks:ci):Prop where
 sa:Uw K (.ref C) "__setattr__"=some (some (.builtin "object.__setattr__"))
 hd:Vg K C=true
 mr:(W.clsIn K C).any (λcd=>kP cd.mro)=true
 no:∀f∈ks,dZ K C f
section
variable {prog:Tr}{w:TU}{A:TK}{K:SE}{C x:SA}{s:SI}{R:WH->SI->Prop}
def zS{ox:Obj}{od:Option Obj}{name:SH}{tk:Tok}{v:Sy}{ks:ci}(X:K.In s.heap)(I:Xn s.heap x ox C od)(c:GP K C ks)(hf:name∈ks)
  (h:∀b,Td (Tb prog w) A.in1 (Builtin.ObjectAttr.storeInOwnDict (.ref x) (.ref C) (.str name tk) name v b) (λfin s'=>match fin with|.done f=>R (.ok f) s'|.again c'=>c'.quiet=true/\Vt (Tb prog w) A c' R s') (λe s'=>R (.error e) s') s) :
  Vt (Tb prog w) A (.call (.builtin "object.__setattr__") ⟨[.ref x,.str name tk,v],[]⟩) R s:=by
 have SF:=PySem.F.store_object;obtain⟨cd,hc,ho⟩:=Xm c.mr;have ne:cd.mro.isEmpty=false:=by cases q:cd.mro with|nil=>rw[q]at ho;cases ho|cons _ _=>rfl
 have sub:V1 (Tb prog w) s.heap (isInstance (.ref x) (.type "object")) true:=I.type.andThen (W.looks_mroIn X (by unfold XI;rw[hc,Option.bind_some,if_neg (by rw[ne];decide),Dy ho]));refine codeAny_call_builtin SF.slot.plain SF.entry (@W.check_slot (Tb prog w) _ _ s "object.__setattr__" "object" "__setattr__" (.ref x) [.str name tk,v] [] _ SF.kind SF.split sub (SF.args (.ref x) (.str name tk) v) ?_);have hm:V1 (Tb prog w) s.heap (mroOf (.ref C)) cd.mro:=(WD X hc).andThen .now;rw[W.osa_eq,refuse_eq];refine SG (SG (I.type.here (SG (hm.here ?_))));rw[ud _ ho];refine S5 ?_;have L3:V1 (Tb prog w) s.heap (Builtin.ObjectAttr.storeTaker? none) none:=.now;have L2:V1 (Tb prog w) s.heap (VR (.ref C) name) none:=W.looks_findIn X (c.no name hf);refine SG (I.type.here (SG (L2.here (SG (L3.here ?_)))));exact h _
def Hq{E:Sy->SI->Prop}{Q:Unit->SI->Prop}{name:SH}{v:Sy}{ks:ci}{fs:Array Sy}(X:K.In s.heap)(hx:s.heap.get? x=some ⟨.ref C,none,.fields fs,#[]⟩)(c:GP K C ks)(hf:name∈ks)
  (h:∀h',h'.get? x=some ⟨.ref C,some s.heap.objs.size,.fields fs,#[]⟩->h'.Ns1 s.heap.objs.size (λy=>if y=name then some v else none)->(∀b o,b≠x->s.heap.get? b=some o->h'.get? b=some o)->Q () { s with heap:=h',toks:=s.toks+2 }) :
  Td (Tb prog w) A (setAttr (.ref x) name v) Q E s:=by
 have J:Xn s.heap x ⟨.ref C,none,.fields fs,#[]⟩ C none:=⟨hx,rfl,rfl,trivial⟩
 refine X3 X J c.sa (zS (s:={ s with toks:=s.toks+1 }) X J c hf λb=>?_);obtain⟨cd,hc,hd'⟩:=Xm c.hd;refine SG (S5 (SG (SG (wpAny_loadPart hx (SG (XJ (s:={ s with toks:=s.toks+1 }) (WD X hc) ?_))))));rw[hd'];have hx₁:(s.heap.push UK).get? x=some ⟨.ref C,none,.fields fs,#[]⟩:=SK _ hx;have hxs:x≠s.heap.objs.size:=Ts (S9 hx);have hgd:((s.heap.push UK).update x λo=>{ o with dict:=some s.heap.objs.size }).get? s.heap.objs.size=some UK:=(Yf _ _ _ _ hxs.symm).trans (Heap.get?_push_at rfl rfl);have hnd:((s.heap.push UK).update x λo=>{ o with dict:=some s.heap.objs.size }).Ns s.heap.objs.size (λ_=>none):=⟨_,#[],_,hgd,rfl,λe he=>absurd he (by simp),λ_=>rfl⟩
 have hx2:((s.heap.push UK).update x λo=>{ o with dict:=some s.heap.objs.size }).get? x=some ⟨.ref C,some s.heap.objs.size,.fields fs,#[]⟩:=U4 _ hx₁ rfl;refine SG (wpAny_alloc' (SG (wpAny_update' hx₁ (S5 ?_))));refine SG (S5 (SG (wpAny_nsSet1 (Heap.Ns1.of_empty hnd) λh' hn' hs=>?_)));obtain⟨oD,esD,epD,hoD,hdD,hcD⟩:=hn'.count (WW name v U6.nil);refine SG (wpAny_lookBehind hoD (by rw[hdD];exact pastItsLine_dict (SW hcD (by rw[S0,Vn,sizeLine_eq];omega))) (S5 (h h' ?_ hn' λb o hb e=>?_)))
 .exact(hs.2 x hxs).trans hx2
 .exact(hs.2 b (Ts (S9 e))).trans ((Yf _ _ _ _ hb).trans (SK _ e))
def Ho{E:Sy->SI->Prop}{Q:Unit->SI->Prop}{name:SH}{v:Sy}{ks ns:ci}{fs:Array Sy}{dx:SA}{mA:SH->Option Sy}(X:K.In s.heap)(hx:s.heap.get? x=some ⟨.ref C,some dx,.fields fs,#[]⟩)(hn:s.heap.Ns1 dx mA)(hne:dx≠x)(hw:U6 mA ns)(hsz:ns.length<=sizeLine)(c:GP K C ks)(hf:name∈ks)
  (h:∀h',h'.Ns1 dx (λy=>if y=name then some v else mA y)->VQ dx s.heap h'->Q () { s with heap:=h',toks:=s.toks+2 }):Td (Tb prog w) A (setAttr (.ref x) name v) Q E s:=by
 obtain⟨od,hod,hl⟩:=nS hn;have J:Xn s.heap x ⟨.ref C,some dx,.fields fs,#[]⟩ C (some od):=⟨hx,rfl,rfl,hod⟩
 refine X3 X J c.sa (zS (s:={ s with toks:=s.toks+1 }) X J c hf λb=>?_);obtain⟨cd,hc,hd'⟩:=Xm c.hd;refine SG (S5 (SG (SG (wpAny_loadPart hx (SG (XJ (s:={ s with toks:=s.toks+1 }) (WD X hc) ?_))))));rw[hd'];refine S5 (a:=some dx) (SG (S5 (SG (wpAny_nsSet1 (s:={ s with toks:=s.toks+1 }) hn λh' hn2 hs2=>?_))));obtain⟨oD,esD,epD,hoD,hdD,hcD⟩:=hn2.count (WW name v hw);exact SG (wpAny_lookBehind hoD (by rw[hdD];exact pastItsLine_dict (SW hcD (by rw[S0];omega))) (S5 (h _ hn2 hs2)))
end
def sS(a C:SA)(dc:Option SA)(h:S1):Prop:=∃t,h.get? a=some ⟨.ref C,dc,.fields #[.ref t,.none,.none,.none,.bool false,.none],#[]⟩
def yr(a:SA)(fs:List (SH×V))(h:S1):Prop:=∃mA,h.Ns1 a mA/\(∀f,tP (fs.lookup f) (mA f))/\U6 mA (fs.map (·.1))
def rE{a C:SA}{dc:Option SA}:∀h1 h2:S1,sS a C dc h1->(∀o,h1.get? a=some o->h2.get? a=some o)->sS a C dc h2:=λ_ _ ⟨t,e⟩ k=>⟨t,k _ e⟩
def wy{a:SA}{fs:List (SH×V)}:∀h1 h2:S1,yr a fs h1->(∀o,h1.get? a=some o->h2.get? a=some o)->yr a fs h2:=λ_ _ ⟨m,n,r⟩ k=>⟨m,n.at k,r⟩
def nD{a:SA}{fs:List (SH×V)}{h:S1}(x:yr a fs h):∃o,h.get? a=some o:=let ⟨_,⟨o,_,_,e,_⟩,_⟩:=x;⟨o,e⟩
def pM{a:SA}{fs:List (SH×V)}{h:S1}{mA:SH->Option Sy}{f:SH}{y:V}{u:Sy}(ry:bW y u)(r:∀f,tP (fs.lookup f) (mA f))(wi:U6 mA (fs.map (·.1)))(n:h.Ns1 a (λz=>if z=f then some u else mA z)):yr a (eP f y fs) h:=by
 refine⟨_,n,λg=>?_,λg hg=>?_⟩
 .rw[kW]
  by_cases q:g=f
  .rw[if_pos q];simp only[if_pos q];exact ry
  .rw[if_neg q];simp only[if_neg q];exact r g
 .by_cases q:g=f
  .rw[q];exact(jN f y fs).1
  .exact(jN f y fs).2 g (wi g λz=>hg (by simp only[if_neg q];exact z))
section
variable {X:Cx}{o value:Tn}{f:SH}{pos pos':Pos}{ta tv:TE}
noncomputable def Se(K:SE) (ta tv:TE) (f:SH):TS:=λD σ H=>tv σ H λy H1=>ta σ H1 λx H2=>∃a C dx l ks,x=.ref a/\H2 a=some (.ext (sS a C (some dx)))/\H2 dx=some (.ext (yr dx l))/\dx≠a/\GP K C ks/\f∈ks/\l.length<1000/\D.nx σ (upd H2 dx (.ext (yr dx (eP f y l))))
def Sf(K:SE)(ta tv:TE)(f:SH):TS:=λD σ H=>tv σ H λy H1=>ta σ H1 λx H2=>∃a C ks,x=.ref a/\H2 a=some (.ext (sS a C none))/\GP K C ks/\f∈ks/\∀dx,H2 dx=none->D.nx σ (upd (upd H2 a (.ext (sS a C (some dx)))) dx (.ext (yr dx [(f,y)])))
def O2(ha:PE X o ta)(hv:PE X value tv)(hs:T1 value (some (.Attribute o f pos')) pos.line X.env=pure false):PS X (.Assign [.Attribute o f pos'] value pos) (Se X.K ta tv f):=by
 intro π s σ H D I h;refine plainObj_wpAny_Assign_Attribute (cX (hv π s σ H _ I h) λu s1 ⟨y,H1,I1,ry,q⟩=>cX (ha π s1 σ H1 _ I1 q) λov s2 z9=>?_) hs;obtain⟨x,H2,I2,rx,a,C,dx,l,ks,ex,ea,ed,hne,c,hf,hl,q2⟩:=z9;subst ex;obtain rfl:ov=Tu a:=rx;obtain⟨⟨t,hx⟩,_,_⟩:=(show bY X.prog X.w H2 s2.heap a (.ext _) from I2.hok a _ ea)
 obtain⟨⟨mA,n,r,wi⟩,_,_⟩:=(show bY X.prog X.w H2 s2.heap dx (.ext _) from I2.hok dx _ ed)
 refine Ho I2.kIn hx n hne wi (by rw[SD,sizeLine_eq];omega) c hf λh' n' sb=>⟨σ,_,I2.write (o:=.ext (yr dx (eP f y l))) (x:=dx) (e:=dx) (by rw[ed];exact Vi) (.inl rfl) (λb q hb z=>(sb.2 b hb).trans z) (nD (pM ry r wi n')) ⟨pM ry r wi n',nD (pM ry r wi n'),wy⟩,q2⟩
def O3(ha:PE X o ta)(hv:PE X value tv)(hs:T1 value (some (.Attribute o f pos')) pos.line X.env=pure false):PS X (.Assign [.Attribute o f pos'] value pos) (Sf X.K ta tv f):=by
 intro π s σ H D I h;refine plainObj_wpAny_Assign_Attribute (cX (hv π s σ H _ I h) λu s1 ⟨y,H1,I1,ry,q⟩=>cX (ha π s1 σ H1 _ I1 q) λov s2 z9=>?_) hs;obtain⟨x,H2,I2,rx,a,C,ks,ex,ea,c,hf,q2⟩:=z9;subst ex;obtain rfl:ov=Tu a:=rx;obtain⟨⟨t,hx⟩,_,_⟩:=(show bY X.prog X.w H2 s2.heap a (.ext _) from I2.hok a _ ea)
 have fr:H2 s2.heap.objs.size=none:=I2.hok.fresh (Tf _);have hne:s2.heap.objs.size≠a:=λz=>Vr _ (z▸S9 hx);refine Hq I2.kIn hx c hf λh' e' n' k'=>⟨σ,_,?_,q2 s2.heap.objs.size fr⟩
 have p:yr s2.heap.objs.size [(f,y)] h':=pM (fs:=[]) (mA:=λ_=>none) ry (λ_=>Vi) (λ_ z=>absurd rfl z) n';have mu:N9 (H2 a):=by rw[ea];exact Vi
 have fr':(upd H2 a (.ext (sS a C (some s2.heap.objs.size)))) s2.heap.objs.size=none:=by rw[ax hne];exact fr
 exact I2.un (Un.ext (Un.write mu (.inl rfl) (λb q hb z=>k' b q hb z) ⟨_,e'⟩) fr' (VZ (Tf _))) (gY.ext (I2.hok.write (o':=.ext (sS a C (some s2.heap.objs.size))) mu (.inl rfl) (λb q hb z=>k' b q hb z) ⟨_,e'⟩ ⟨⟨t,e'⟩,⟨_,e'⟩,rE⟩) fr' p (nD p) wy)
end
def Ox(is:cr):TA:=λσ H Q=>∃vs,is.map (λi=>σ[i]?)=vs.map (λv=>some (some v))/\Q vs H
structure PV (X:Cx) (es:List Tn) (is:cr):Prop where
 o:PA X es (Ox is)
section
variable {X:Cx}
def EA:PV X [] []:=⟨λpos π s σ H Q I ⟨vs,e,h⟩=>by
 cases vs with
 |nil=>exact e7 pos π s σ H Q I h
 |cons v vs=>simp at e⟩
def pT{es:List Tn}{is:cr}{i:Nat}{y:SH}{p:Pos}(hN:X.N[i]?=some y)(hv:yh X.env.scope y)(h:PV X es is)(hd:(y==("__debug__" : SH))=false:=by decide)(hcd:(y==("__classdict__" : SH))=false:=by decide):PV X (.Name y p::es) (i::is) :=
 ⟨λpos π s σ H Q I ⟨vs,e,q⟩=>by
  cases vs with
  |nil=>simp at e
  |cons v vs=>
   simp only[Tv,Xi]at e;exact cG (gq hN hv hd hcd) h.o (aF rfl) pos π s σ H Q I ⟨v,e.1,vs,e.2,q⟩⟩
structure GR (K:SE) (CE:SA):Prop where
 rd:W.readsIn K CE (.type "type")=true
 fc:W.findCls K (.ref CE) (.type "type") "__init__"=some (.val (.builtin "ValueError.__init__"))
 sp:Wb K (.ref CE) "__getattribute__"=some (some (.builtin "type.__getattribute__"))
structure Lk (K:SE) (C fn:SA):Prop where
 ex:∃CE nm q N bs hdct sn sub ab col dd k0 k1 k2 k3 k5,K.lookup C=some (excClassObj nm q C N bs [.ref CE,.type "ValueError",.type "Exception",.type "BaseException",.type "object"] hdct sn sub ab col dd k0 k1 k2 k3 k5 "ValueError.__new__")/\W.nsOkIn K N=true/\Up K N "__init__"=some (some (.ref fn)) /\
  WT K CE [.type "ValueError",.type "Exception",.type "BaseException",.type "object"] "ValueError.__new__"=true
def II{K:SE}{h:S1}{N:SA}{mg:SH->Option Sy}{n:SH}{v:Sy}(X:K.In h)(G:h.Ns N mg)(e:Up K N n=some (some v)):mg n=some v:=by
 obtain⟨o,es,ep,ho,hd,_,hf⟩:=G;unfold Up at e;split at e
 .rename_i c d es' n' sl q
  have:=X _ _ q;rw[ho]at this;cases this;cases hd;split at e
  .rename_i en he
   rw[←hf];unfold nsFind findBy;rw[←Array.find?_toList,he];simpa using e
  .split at e<;>cases e
 .cases e
structure RA (h:S1) (C fn:SA):Prop where
 ex:∃bm N nm q bs hdct sn sub ab col dd k0 k1 k2 k3 k5 mN,h.get? C=some (excClassObj nm q C N bs bm hdct sn sub ab col dd k0 k1 k2 k3 k5 "ValueError.__new__")/\h.Ns N mN/\mN "__init__"=some (.ref fn)/\OwnTail h [.type "ValueError",.type "Exception",.type "BaseException",.type "object"] bm
def DZ{K:SE}{CE:SA}{h:S1}(X:K.In h)(q:WT K CE [.type "ValueError",.type "Exception",.type "BaseException",.type "object"] "ValueError.__new__"=true):OwnTail h [.type "ValueError",.type "Exception",.type "BaseException",.type "object"] [.ref CE,.type "ValueError",.type "Exception",.type "BaseException",.type "object"]:=by
 unfold WT at q;split at q
 .rename_i dd cd sl ho
  split at q
  .simp only[SX,beq_iff_eq,W6]at q
   obtain⟨⟨⟨⟨_,_⟩,_⟩,hok⟩,hni⟩:=q;exact .own (X _ _ ho) (.of_isNs (WR X hok)) (W.nsMap_none_of_in X hok hni) .base
  .cases q
 .cases q
def zR{K:SE}{C fn:SA}{h:S1}(X:K.In h)(q:Lk K C fn):RA h C fn:=by
 obtain⟨CE,nm,qn,N,bs,hdct,sn,sub,ab,col,dd,k0,k1,k2,k3,k5,ho,hok,hi,he⟩:=q.ex;exact⟨_,N,nm,qn,bs,hdct,sn,sub,ab,col,dd,k0,k1,k2,k3,k5,_,X _ _ ho,.of_isNs (WR X hok),II X (.of_isNs (WR X hok)) hi,DZ X he⟩
def Sd(K:SE)(t:TA):TE:=λσ H Q=>t σ H λvs H1=>∃a C rest fn,vs=.ref a::rest/\rest.length<=line/\H1 a=some (.ext (sS a C none))/\Lk K C fn/\Q .non (upd H1 a (.ext (sS a C none)))
def O5{ce:SH}{CE:SA}{np apos cpos:Pos}{e:Tn}{es:List Tn}{t:TA}{pl:Sem Bool}(b:GR X.K CE)(hg:Gl X ce)(hm:X.mg ce=some (.ref CE))(ha:PA X (e::es) t)(hdb:(ce==("__debug__" : SH))=false:=by decide)
  (he:SJ (e::es) X.env=(false,eval e X.env)::SJ es X.env:=by exact aF rfl)(hpl:(TZ cpos (SJ es X.env)).any (·.1)=false:=by exact bj rfl)
  (ht:eval (.Call (.Attribute (.Name ce np) "__init__" apos) (e::es) [] cpos) X.env=(do
   let ov ←eval (.Name ce np) X.env
   standAt apos.atName
   let (f,first) ←XG [ov] (getMethod ov "__init__" pl)
   callWith cpos f first (TZ cpos (SJ (e::es) X.env)) (VB cpos (US [] X.env))):=by rfl) :
  PE X (.Call (.Attribute (.Name ce np) "__init__" apos) (e::es) [] cpos) (Sd X.K t):=by
 intro π s σ H Q I h;refine W.methodCall_KW (pl:=pl) (ij I hg hm (W.method_cls I.kIn b.sp (W.cls_value I.kIn b.rd b.fc rfl ?_)) hdb) ht;have I0:=I.tok (s.toks+1);have hA:=ha cpos π _ σ H _ I0 h;rw[he]at hA ⊢;refine Wt (by show(false||(TZ cpos (SJ es X.env)).any (·.1))=false;rw[hpl];rfl) (V0 (cX hA λus s1 ⟨vs,H1,I1,r,a,C,rest,fn,ev,hl,ea,hx,q⟩=>?_));subst ev;obtain⟨_,us',rfl,ra,r'⟩:∃u us',us=u::us'/\bW (.ref a) u/\bx rest us':=by cases r with|cons r1 r2=>exact⟨_,_,rfl,r1,r2⟩
 obtain rfl:_=Tu a:=ra;obtain⟨bm,N,nm,qn,bs,hdct,sn,sub,ab,col,dd,k0,k1,k2,k3,k5,mN,hC,hn,hi,T⟩:=(zR I1.kIn hx).ex;obtain⟨⟨t0,hae⟩,_,_⟩:=(show bY X.prog X.w H1 s1.heap a (.ext _) from I1.hok a _ ea)
 have F:=U1;have hz:us'.length<=sizeLine:=by rw[←r'.length];exact eg hl
 obtain⟨hp,g,d,tk,os⟩:=s1;refine wpAny_call (codeAny_call_builtin F.init.plain F.initEntry (wpAny_check_init_subT F T hC hae rfl ?_))
 wp_walk
 have mu:N9 (H1 a):=by rw[ea];exact Vi
 have hne:a≠hp.objs.size:=Ts (S9 hae);refine⟨.non,upd H1 a (.ext (sS a C none)),I1.write (o:=.ext (sS a C none)) (x:=a) (e:=a) mu (.inl rfl) (λb u hb e=>(UX _ _ (TF hb)).trans (SK _ e)) ⟨_,U4 _ (SK _ hae) rfl⟩ ⟨⟨hp.objs.size,?_⟩,⟨_,U4 _ (SK _ hae) rfl⟩,rE⟩,rfl,q⟩;rw[U4 _ (SK _ hae) rfl];rfl
end
section
variable {X:Cx}
noncomputable def R3(K:SE) (fs:ci) (is:cr):TS:=λD σ H=>∃a C dx l ks vs,σ[0]?=some (some (V.ref a))/\H a=some (.ext (sS a C (some dx)))/\H dx=some (.ext (yr dx l))/\dx≠a/\GP K C ks/\(∀f∈fs,f∈ks)/\l.length+fs.length<1000/\fs.length=vs.length /\
 is.map (λi=>σ[i]?)=vs.map (λv=>some (some v))/\D.nx σ (upd H dx (.ext (yr dx (putAll fs vs l))))
structure XR (X:Cx) (sts:List Ud) (fs:ci) (is:cr):Prop where
 o:ph X sts (R3 X.K fs is)
def Dl:XR X [] [] []:=⟨da kc λD σ H ⟨a,C,dx,l,ks,vs,h1,h2,h3,h4,h5,h6,h7,h8,h9,q⟩=>by
 cases vs with
 |nil=>unfold putAll at q;rw[wA h3]at q;exact q
 |cons v vs=>simp at h8⟩
def Hl{sts:List Ud}{fs:ci}{is:cr}{f:SH}{i:Nat}{x y:SH}{p1 p2 p3 pos:Pos}(hN:X.N[i]?=some y)(hN0:X.N[0]?=some x)(hv:yh X.env.scope y)(hv0:yh X.env.scope x)(h:XR X sts fs is)
  (hd:(y==("__debug__" : SH))=false:=by decide)(hcd:(y==("__classdict__" : SH))=false:=by decide)(hd0:(x==("__debug__" : SH))=false:=by decide)(hcd0:(x==("__classdict__" : SH))=false:=by decide)
  (hs:T1 (.Name y p3) (some (.Attribute (.Name x p1) f p2)) pos.line X.env=pure false:=by rfl):XR X (.Assign [.Attribute (.Name x p1) f p2] (.Name y p3) pos::sts) (f::fs) (i::is):=by
 refine⟨da (cO (O2 (gq hN0 hv0 hd0 hcd0) (gq hN hv hd hcd) hs) h.o) λD σ H z9=>?_⟩;obtain⟨a,C,dx,l,ks,vs,h1,h2,h3,h4,h5,h6,h7,h8,h9,q⟩:=z9;cases vs with
 |nil=>simp at h8
 |cons v vs=>
  simp only[Tv,Xi]at h9;simp only[S0]at h7 h8;refine⟨v,h9.1,.ref a,h1,a,C,dx,l,ks,rfl,h2,h3,h4,h5,h6 f SQ,by omega,a,C,dx,_,ks,vs,h1,?_,az,h4,h5,λg hg=>h6 g (SM _ hg),?_,by omega,h9.2,?_⟩
  .rw[ax h4.symm];exact h2
  .have:=qL (f:=f) (v:=v) (l:=l);omega
  .rw[nE];exact q
noncomputable def R4(K:SE) (ks:ci) (is:cr):TS:=λD σ H=>∃a C fn vs,σ[0]?=some (some (V.ref a))/\H a=some (.ext (sS a C none))/\GP K C ks/\Lk K C fn/\ks.length=vs.length/\ks.length<=60 /\
 is.map (λi=>σ[i]?)=vs.map (λv=>some (some v))/\∀dx,H dx=none->D.nx σ (upd (upd H a (.ext (sS a C (some dx)))) dx (.ext (yr dx (putAll ks vs []))))
structure XB (X:Cx) (sts:List Ud) (ks:ci) (is:cr):Prop where
 o:ph X sts (R4 X.K ks is)
def KH{sts:List Ud}{fs:ci}{is:cr}{f:SH}{i:Nat}{x y ce:SH}{CE:SA}{p1 p2 p3 pos np apos cpos spos sp0:Pos}{es:List Tn}{pl:Sem Bool}(b:GR X.K CE)(hg:Gl X ce)(hm:X.mg ce=some (.ref CE))(hpv:PV X es (i::is))(hN:X.N[i]?=some y)(hN0:X.N[0]?=some x)(hv:yh X.env.scope y)(hv0:yh X.env.scope x)(h:XR X sts fs is)
  (hd:(y==("__debug__" : SH))=false:=by decide)(hcd:(y==("__classdict__" : SH))=false:=by decide)(hd0:(x==("__debug__" : SH))=false:=by decide)(hcd0:(x==("__classdict__" : SH))=false:=by decide)(hdb:(ce==("__debug__" : SH))=false:=by decide)
  (hs:T1 (.Name y p3) (some (.Attribute (.Name x p1) f p2)) pos.line X.env=pure false:=by rfl)(hs0:T1 (.Call (.Attribute (.Name ce np) "__init__" apos) (.Name x sp0::es) [] cpos) none spos.line X.env=pure false:=by rfl)(hpl:(TZ cpos (SJ es X.env)).any (·.1)=false:=by exact bj rfl)
  (ht:eval (.Call (.Attribute (.Name ce np) "__init__" apos) (.Name x sp0::es) [] cpos) X.env=(do
   let ov ←eval (.Name ce np) X.env
   standAt apos.atName
   let (f,first) ←XG [ov] (getMethod ov "__init__" pl)
   callWith cpos f first (TZ cpos (SJ (.Name x sp0::es) X.env)) (VB cpos (US [] X.env))):=by rfl) :
  XB X (.Expr (.Call (.Attribute (.Name ce np) "__init__" apos) (.Name x sp0::es) [] cpos) spos::.Assign [.Attribute (.Name x p1) f p2] (.Name y p3) pos::sts) (f::fs) (i::is):=by
 refine⟨da (cO (kd (O5 b hg hm (pT (p:=sp0) hN0 hv0 hpv hd0 hcd0).o hdb (aF rfl) hpl ht) hs0) (cO (O3 (gq hN0 hv0 hd0 hcd0) (gq hN hv hd hcd) hs) h.o)) λD σ H ⟨a,C,fn,vs,h1,h2,h3,h4,h5,h6,h7,q⟩=>?_⟩;refine⟨.ref a::vs,(show σ[0]?::(i::is).map (λi=>σ[i]?)=some (some (V.ref a))::vs.map (λv=>some (some v)) by rw[h1,h7]),a,C,vs,fn,rfl,?_,h2,h4,?_⟩
 .have:vs.length<=60:=by omega
  exact SW this (by decide)
 .cases vs with
  |nil=>simp at h5
  |cons v vs=>
   simp only[Tv,Xi]at h7;simp only[S0]at h5 h6;rw[wA h2];refine⟨v,h7.1,.ref a,h1,a,C,f::fs,rfl,h2,h3,SQ,λdx hdx=>?_⟩;have hne:dx≠a:=λz=>by subst z;rw[h2]at hdx;cases hdx
   refine⟨a,C,dx,[(f,v)],f::fs,vs,h1,?_,az,hne,h3,λg hg=>SM _ hg,?_,by omega,h7.2,?_⟩
   .rw[ax hne.symm,az]
   .simp only[S0,Vn];omega
   .rw[nE]
    have:=q dx hdx;unfold putAll at this;exact this
end
noncomputable def D5(K:SE) (ks:ci):Sp:=λvs H Q _=>∃a C fn args,vs=.ref a::args/\args.length=ks.length/\H a=some (.ext (sS a C none))/\GP K C ks/\Lk K C fn/\∀dx,H dx=none->Q .non (upd (upd H a (.ext (sS a C (some dx)))) dx (.ext (yr dx (putAll ks args []))))
def Ld{P:Tr}{w:TU}{K:SE}{mg:SH->Option Sy}{base:S1}{x qual:SH}{st:Ud}{f:SA}{fd:TQ}{ps:ci}{ks:ci}(F:Bp K x qual st f fd)(S:eX ps ps (defScope st))(hps:ps.length=ks.length+1)(hf:ks.length<=60)
  (hbody:∀(cdv:Sy) (A:TK) (outer:List Uh) (s0:SI) (H:Hp) (E:XK),XB (dN CX0 P w K mg base ps qual (defScope st) f cdv A outer s0 H E).nox (defBody st) ks ((TY ks.length).map (· + 1))):FnOk P w K mg base CX0 1 f fd ps (D5 K ks):=by
 refine F.ok S (λvs H Q E h=>?_) λcdv A outer s0 H vs Q E hr h=>?_
 .obtain⟨a,C,fn,args,rfl,hl,_⟩:=h
  simp[hl,hps]
 .obtain⟨a,C,fn,args,rfl,hl,hH,hC,hn,q⟩:=h
  refine⟨_,(hbody cdv A outer s0 H E).o,a,C,fn,args,?_,hH,hC,hn,hl.symm,hf,?_,q⟩
  .unfold L2.start;simp
  .unfold L2.start
   apply W3;intro i;simp only[Ta,Uy]
   by_cases hi:i<ks.length
   .have hia:i<args.length:=by omega
    simp[hi,hia,Tg,Uq]
   .have hia:¬i<args.length:=by omega
    simp[hi,hia]
section
variable {prog:Tr}{w:TU}{A:TK}{E:Sy->SI->Prop}{s:SI}{env:Uh}
variable {nm q:SH}{C N:SA}{bs bm bmB:List Sy}{hdct:Bool}{sn:ci}{sub:List Sy}{ab:Bool}{col:Option Bool}{dd:Option SA}{k0 k1 k2 k3 k5:Option Sy}{B newId initId:String}{mN:SH->Option Sy}{fI:SA}{oI:Obj}
def Dp(F:ExcBaseFacts B newId initId bmB){x:SH}{np cpos pos:Pos}{args:List Tn}{Q:Flow->SI->Prop}(hbase:bm.contains (.type "BaseException")=true)(hh:A.handled=none)(hplain:(TZ cpos (SJ args env)).any (·.1)=false)(hi:mN "__init__"=some (.ref fI))
  (h:Td (Tb prog w) A (eval (.Name x np) env) (λf sg=>f=.ref C/\Td (Tb prog w) A (evalArgs (.ref C) true (TZ cpos (SJ args env)) []) (λa si=>a.kw=[]/\a.pos.length<=sizeLine/\si.heap.get? C=some (excClassObj nm q C N bs bm hdct sn sub ab col dd k0 k1 k2 k3 k5 newId)/\si.heap.Ns N mN/\OwnTail si.heap bmB bm/\si.heap.get? fI=some oI/\oI.cls=.type "function" /\
    ∀h' e,WA si.heap h' e (.ref C) a.pos->Td (Tb prog w) (A.under (.builtin "type.__call__" ⟨.ref C::a.pos,[]⟩)) (call (.ref fI) (.ref e::a.pos)) (λr s'=>r=.none/\s'.heap.get? C=some (excClassObj nm q C N bs bm hdct sn sub ab col dd k0 k1 k2 k3 k5 newId)/\(∃dc t,s'.heap.get? e=some ⟨.ref C,dc,.fields #[.ref t,.none,.none,.none,.bool false,.none],#[]⟩)/\E (.ref e) s') E { si with heap:=h' }) E sg) E s) :
  Td (Tb prog w) A (exec (.Raise (some (.Call (.Name x np) args [] cpos)) none pos) env) Q E s:=by
 rw[arm_exec_Raise];refine SG (wpAny_standAt (Dn (C:=C) (nm:=nm) (q:=q) (N:=N) (bs:=bs) (bm:=bm) (hdct:=hdct) (sn:=sn) (sub:=sub) (ab:=ab) (col:=col) (dd:=dd) (k0:=k0) (k1:=k1) (k2:=k2) (k3:=k3) (k5:=k5) (newId:=newId) hbase hh (SG (T4 (wpAny_Call_ofName (T4 h (λf sg h₁=>?_) λ_ _ x=>x)) (λv sj hW=>SG (wpAny_standAt (S5 hW))) λ_ _ x=>x))));obtain⟨rfl,h₁⟩:=h₁;unfold callWith;refine SG (UY (T4 h₁ (λ⟨apos,akw⟩ si ⟨hkw,hlen,hC,hn,T,hf,hfc,hU⟩=>SG (wpAny_standAt ?_)) λ_ _ x=>x));obtain rfl:akw=[]:=hkw;obtain⟨hp,g,d,tk,os⟩:=si;simp only[hplain];refine SG (wpAny_keeperOf_exc hC (SG (Hr F T hC hn hi hf hfc hlen λh' e hm=>T4 (hU h' e hm) (λr s' hr=>?_) λ_ _ z=>z)));obtain⟨rfl,hC',⟨dc,t,he⟩,hE⟩:=hr;exact⟨rfl,SG (UY (wpAny_point (S5 ⟨e,dc,t,rfl,hC',he,hE⟩)))⟩
end
structure sL (K:SE) (x:SH) (C:SA):Prop where
 i:lu K x C
 cls:Uw K (.ref C) "__class__"=some (some (.builtin "object.__class__"))
 ga:Uw K (.ref C) "__getattribute__"=some (some (.builtin "BaseException.__getattribute__"))
 gt:Uw K (.ref C) "__getattr__"=some none
 t1:UO K (.ref C) (.type "NoneType")=some false
 t2:UO K (.ref C) (.type "bool")=some false
 t3:UO K (.ref C) (.type "int")=some false
 t4:UO K (.ref C) (.type "str")=some false
 t5:UO K (.ref C) (.type "tuple")=some false
 t6:UO K (.ref C) (.type "list")=some false
 t7:UO K (.ref C) (.type "dict")=some false
 ve:UO K (.ref C) (.type "ValueError")=some true
 self:UO K (.ref C) (.ref C)=some true
def sL.xc{K:SE}{x:SH}{C:SA}(Z:sL K x C):XC K x C :=
 ⟨Z.i.ns,⟨Z.cls,Z.ga,Z.gt,Z.i.ob,Z.i.be⟩,λT hT=>by
  refine y6 (kX T hT) ?_;simp only[gA,SV,Ui,or_false]at hT;rcases hT with rfl|rfl|rfl|rfl|rfl|rfl|rfl
  all_goals first|exact Z.t1|exact Z.t2|exact Z.t3|exact Z.t4|exact Z.t5|exact Z.t6|exact Z.t7⟩
def Lr{K:SE}{C fn:SA}{ks:ci}(z:Lk K C fn)(sa:Uw K (.ref C) "__setattr__"=some (some (.builtin "object.__setattr__")))(hd:Vg K C=true)(no:∀f∈ks,dZ K C f):GP K C ks:=by
 obtain⟨CE,nm,qn,N,bs,hdct,sn,sub,ab,col,dd,k0,k1,k2,k3,k5,ho,_⟩:=z.ex;refine⟨sa,hd,?_,no⟩;unfold W.clsIn;rw[ho];rfl
section
variable {P:Tr}{w:TU}{K:SE}{mg:SH->Option Sy}{base:S1}{N:ci}{qual:SH}{scope:VN}{f:SA}{cd:Sy}{A:TK}{outer:List Uh}{s0:SI}{H0:Hp}{E:XK}{He η:Hp}
def FA{H:Hp}{h:S1}{e dx:SA}{o1 o2:HO}(ok:gY P w (upd (upd H e o1) dx o2) h)(he:H e=none)(hd:H dx=none)(n1:∀b,o1≠.own b)(n2:∀b,o2≠.own b)(m1:∀b,o1≠.tup b)(m2:∀b,o2≠.tup b):gY P w H h:=λa o q=>by
 have a1:a≠e:=λz=>by subst z;rw[he]at q;cases q
 have a2:a≠dx:=λz=>by subst z;rw[hd]at q;cases q
 refine(ok a o (by rw[ax a2,ax a1];exact q)).stay (λb u _ z=>z) (λb z=>?_) λb xs z=>?_
 .by_cases b2:b=dx
  .subst b2;rw[az]at z;exact absurd (T9 z) (n2 _)
  .rw[ax b2]at z
   by_cases b1:b=e
   .subst b1;rw[az]at z;exact absurd (T9 z) (n1 _)
   .rw[ax b1]at z;exact z
 .by_cases b2:b=dx
  .subst b2;rw[az]at z;exact absurd (T9 z) (m2 _)
  .rw[ax b2]at z
   by_cases b1:b=e
   .subst b1;rw[az]at z;exact absurd (T9 z) (m1 _)
   .rw[ax b1]at z;exact z
def Dc{fs:List SA}{H H2:Hp}{h h2:S1}(u:Un fs [] H H2 h h2):Un fs [] H H h h2:=⟨u.keep,u.slot,λ_ _ _ n _=>n,u.there,λ_ _ q=>q,λ_ _ _ q=>q,λ_ ps q=>⟨#[],by rw[q];simp⟩⟩
end
def K2(e:Xb):Bool:=match e.key with
 |.str _ _=>true
 |_=>false
def Lu{K:SE}{C CE fn N:SA}{nm q:SH}{bs sub:List Sy}{hdct ab:Bool}{sn:ci}{col:Option Bool}{dd dn:Option SA}{k0 k1 k2 k3 k5:Option Sy}{cn:Sy}{es:Array Xb}{ep:Nat}{st:Array (Option Sy)}
  (xl:K.lookup C=some (excClassObj nm q C N bs [.ref CE,.type "ValueError",.type "Exception",.type "BaseException",.type "object"] hdct sn sub ab col dd k0 k1 k2 k3 k5 "ValueError.__new__"))(xn:K.lookup N=some ⟨cn,dn,.dict es ep,st⟩)(xk:es.toList.all K2=true)(xv:Up K N "__init__"=some (some (.ref fn)))
  (xb:WT K CE [.type "ValueError",.type "Exception",.type "BaseException",.type "object"] "ValueError.__new__"=true):Lk K C fn:=by
 refine⟨CE,nm,q,N,bs,hdct,sn,sub,ab,col,dd,k0,k1,k2,k3,k5,xl,?_,xv,xb⟩;unfold W.nsOkIn;rw[xn];rw[Array.all_toList]at xk;exact xk
theorem xK{α β:Type}{f g:α->Option β}:∀{l:List α},(∀x∈l,f x=g x)->l.filterMap f=l.filterMap g
 |[],_=>rfl
 |a::l,h=>by
  rw[UJ,UJ,h a SQ,xK λx hx=>h x (SM _ hx)]
theorem Reps.rev{K:SE}{H:Hp}:∀{ds:ac}{vs:al},Reps K H ds vs->Reps K H ds.reverse vs.reverse
 |[],vs,h=>by rw[Reps.nil_iff.mp h];exact Reps.nil
 |d::ds,vs,h=>by
  obtain⟨v,r,rfl,h1,h2⟩:=aA.mp h;rw[Wf,Wf];exact(Reps.rev h2).app (Reps.cons h1 Reps.nil)
theorem bx.rev:∀{vs:al}{us:List Sy},bx vs us->bx vs.reverse us.reverse
 |_,_,.nil=>.nil
 |_,_,.cons h t=>by rw[Wf,Wf];exact(bx.rev t).append (.cons h .nil)
def cg(x:SH)(ks:ci)(fa:Ev->ak (ac)):bv:=λρ=>(fa (ka ρ)).bind λds=>if ds.length=ks.length then .exn ⟨x,ks.zip ds⟩ else .stuck
theorem wu{K:SE}{H:Hp}:∀{ks:ci}{ds:ac}{vs:al}{n:SH}{d:D},Reps K H ds vs->(ks.zip ds).lookup n=some d->∃v,(ks.zip vs).lookup n=some v/\Rep K H d v
 |[],ds,vs,n,d,r,h=>by rw[List.zip_nil_left]at h;cases h
 |k::ks,[],vs,n,d,r,h=>by rw[List.zip_nil_right]at h;cases h
 |k::ks,e::ds,vs,n,d,r,h=>by
  obtain⟨v,vs',rfl,r1,r2⟩:=aA.mp r;rw[Vj,UC]at h;rw[Vj];cases q:n==k with
  |true=>rw[q]at h;cases h;exact⟨v,by rw[UC,q],r1⟩
  |false=>
   rw[q]at h;obtain⟨u,h1,h2⟩:=wu r2 h;exact⟨u,by rw[UC,q];exact h1,h2⟩
def gY.xd{P:Tr}{w:TU}{H:Hp}{g:S1}(ok:gY P w H g){a:SA}{fs:List (SH×V)}(hn:H a=none)(p:yr a fs g):gY P w (upd H a (.xd fs)) g:=λb u e=>by
 by_cases hb:b=a
 .subst hb;rw[az]at e;cases e;obtain⟨m,n,r,_⟩:=p;exact⟨m,n,r⟩
 .rw[ax hb]at e
  exact(ok b u e).stay (λc v _ q=>q) (λc q=>by rw[ax (bg q hn)];exact q) λc xs q=>by rw[ax (bg q hn)];exact q
section
variable {P:Tr}{w:TU}{K:SE}{mg:SH->Option Sy}{base:S1}{N:ci}{qual:SH}{scope:VN}{f:SA}{cd:Sy}{A:TK}{outer:List Uh}{s0:SI}{H0:Hp}{E:XK}{He η:Hp}
def c8{x:SH}{C fn:SA}{np cpos pos:Pos}{e:Tn}{es:List Tn}{fa:Ev->ak (ac)}{k:Nat}{fd:TQ}{ps ks:ci}(xc:XC K x C)(z:Lk K C fn)(st:GP K C ks)(hfn:W.isFn K (.ref fn)=true)(F:FnOk P w K mg base CX0 k fn fd ps (D5 K ks))(hb:gb K fd ps [])(hks:ks.length<=60)(hnd:ks.Nodup)(hr:dw (k+1) (dN (gi P w) P w K mg base N qual scope f cd A outer s0 H0 E).A)(hm:mg x=some (.ref C))(hh:A.handled=none)
  (hg:Gl (dN (gi P w) P w K mg base N qual scope f cd A outer s0 H0 E) x)(ha:DA (dN (gi P w) P w K mg base N qual scope f cd A outer s0 H0 E) E (e::es) fa)
  (hdb:(x==("__debug__" : SH))=false:=by decide)(he:SJ (e::es) (dN (gi P w) P w K mg base N qual scope f cd A outer s0 H0 E).env=(false,eval e (dN (gi P w) P w K mg base N qual scope f cd A outer s0 H0 E).env)::SJ es (dN (gi P w) P w K mg base N qual scope f cd A outer s0 H0 E).env:=by exact aF rfl)
  (hpl:(TZ cpos (SJ es (dN (gi P w) P w K mg base N qual scope f cd A outer s0 H0 E).env)).any (·.1)=false:=by exact bj rfl) :
  DS (dN (gi P w) P w K mg base N qual scope f cd A outer s0 H0 E) E He η (.Raise (some (.Call (.Name x np) (e::es) [] cpos)) none pos) (cg x ks fa):=by
 refine⟨?_⟩;intro π s σ H D I ⟨Ha,ρ,hr',q⟩;obtain⟨bm,Nn,nm,qn,bs,hdct,sn,sub,ab,col,dd,k0,k1,k2,k3,k5,mN,hC,hN,hi,T⟩:=(zR I.ok.mod.kin z).ex;obtain⟨oI,hoI,hoc⟩:∃oI,base.get? fn=some oI/\oI.cls=.type "function":=by
  have:=beq_iff_eq.mp hfn;obtain⟨o,ho,hc⟩:=Option.map_eq_some_iff.mp this;exact⟨o,I.ok.mod.kin _ _ ho,hc⟩
 refine Dp (C:=C) (nm:=nm) (q:=qn) (N:=Nn) (bs:=bs) (bm:=bm) (hdct:=hdct) (sn:=sn) (sub:=sub) (ab:=ab) (col:=col) (dd:=dd) (k0:=k0) (k1:=k1) (k2:=k2) (k3:=k3) (k5:=k5)
  U1 (mN:=mN) (oI:=oI) (T.hasType U1.hasBase) hh (by rw[he];show(false||(TZ cpos (SJ es (dN (gi P w) P w K mg base N qual scope f cd A outer s0 H0 E).env)).any (·.1))=false;rw[hpl];rfl) hi (ij I hg hm ⟨rfl,?_⟩ hdb)
 have hq:qR K E H (frz He Ha H) (fa (ka ρ)) (λvs H1=>vs.length=ks.length/\∀dx,H1 dx=none->E (.ref C) (some dx) (upd H1 dx (.xd (ks.zip vs)))):=by
  unfold cg at q;cases e1:fa (ka ρ) with
  |stuck=>rw[e1]at q;exact q|exn z=>rw[e1]at q;exact λC ox H' Ha' g ex=>q C ox H' Ha' (hr'.frz_grow.trans g) ex
  |ok ds=>
   rw[e1]at q;intro vs H1 H01 g rp;have q:bT K E He η Ha (if ds.length=ks.length then ak.exn ⟨x,ks.zip ds⟩ else .stuck) D:=q
   by_cases hl:ds.length=ks.length
   .rw[if_pos hl]at q
    refine⟨by rw[←rp.length];exact hl,λdx hdx=>?_⟩;have ga:=aI (o:=.xd (ks.zip vs)) g.sub hdx;refine q (.ref C) (some dx) _ _ (hr'.frz_grow.trans (g.trans ga)) ⟨⟨C,rfl,xc⟩,ks.zip vs,az,λn d hn=>?_⟩;obtain⟨v,k1,k2⟩:=wu rp hn;exact⟨v,k1,k2.mono ga.z⟩
   .rw[if_neg hl]at q;exact q.elim
 have h1:=ha.o cpos π s σ H _ I ⟨frz He Ha H,ka ρ,hr'.frz_le,hr'.looks,hq⟩;rw[he]at h1 ⊢;refine V0 (T4 h1 (λus s2 h2=>?_) λ_ _ y=>y);obtain⟨vs,H1,I1,rv,hl,hE⟩:=h2;have hz:us.length<=sizeLine:=by rw[←rv.length,hl,sizeLine_eq];omega
 refine⟨rfl,hz,I1.bk _ _ hC,hN.keeps I1.bk,T.keeps I1.bk,I1.bk _ _ hoI,hoc,λh' ee hx=>?_⟩;have hn:H1 ee=none:=by
  cases q:H1 ee with|none=>rfl|some o=>obtain⟨u,hu⟩:=bY.there (I1.hok ee o q);rw[hx.new]at hu;cases hu
 obtain⟨t,ht,_,_⟩:=hx.there;have hxn:sS ee C none h':=⟨t,ht⟩
 have un1:Un (iw (dN (gi P w) P w K mg base N qual scope f cd A outer s0 H0 E).stack) [] H1 (upd H1 ee (.ext (sS ee C none))) s2.heap h':=Un.ext (Un.kept hx.keeps) hn hx.new;have I2:Inv (dN (gi P w) P w K mg base N qual scope f cd A outer s0 H0 E) π σ (upd H1 ee (.ext (sS ee C none))) { s2 with heap:=h' } :=
  I1.call' (ch:=[]) rfl un1 (gY.ext (I1.hok.kept hx.keeps) hn hxn ⟨_,ht⟩ rE) I1.bare (λ_ z=>nomatch z)
 have rv2:bx (V.ref ee::vs) (Tu ee::us):=.cons rfl rv;have hsp:D5 K ks (V.ref ee::vs) (upd H1 ee (.ext (sS ee C none))) (λv H2=>v=.non/\∃dx,H1 dx=none/\dx≠ee/\H2=upd (upd (upd H1 ee (.ext (sS ee C none))) ee (.ext (sS ee C (some dx)))) dx (.ext (yr dx (putAll ks vs [])))) E :=
  ⟨ee,C,fn,vs,rfl,hl,az,st,z,λdx hdx=>by
   have c:dx≠ee:=λc=>by rw[c,az]at hdx;cases hdx
   rw[ax c]at hdx;exact⟨rfl,dx,hdx,c,rfl⟩⟩
 have hl2:(Tu ee::us).length=ps.length:=by rw[←rv2.length];exact F.len _ _ _ _ hsp
 have hbb:=hb { s2 with heap:=h' } (Tu ee::us) I2.kIn (by simpa using hl2);rw[Ut]at hbb;refine wpAny_call (codeAny_mono (F.run _ _ { s2 with heap:=h' } _ ⟨Tu ee::us,[]⟩ (Tu ee::us) _ _ E (hr.make C us []) (I2.env0.make C us []) hbb rv2 hsp) λr s3 hq3=>?_);cases r with
 |error e=>exact T8 hq3
 |ok fl=>
  cases fl with
  |next|brk|cont=>exact T8 hq3
  |ret u=>
   obtain⟨v,H2,os3,bare3,un3,hok3,rel3,rfl,dx,hdx,hdne,rfl⟩:=hq3;obtain rfl:u=Uz:=rel3;rw[nE]at hok3 un3;have un4:=Dc (un1.trans un3);have hok4:gY P w H1 s3.heap:=FA hok3 hn hdx (λ_ z=>by cases z) (λ_ z=>by cases z) (λ_ z=>by cases z) (λ_ z=>by cases z);obtain⟨⟨t3,ht3⟩,_,_⟩:=(show bY P w _ s3.heap ee (.ext (sS ee C (some dx))) from hok3 ee _ (by rw[ax hdne.symm,az]))
   have I3:=I1.call' (ch:=[]) os3 un4 hok4 bare3 (λ_ z=>nomatch z);refine⟨rfl,I3.bk _ _ hC,⟨_,t3,ht3⟩,?_⟩;have hin:=AN (l:=envOfC qual scope s0.heap.objs.size f cd::outer);have hfr:s3.heap.FunFrames (Wl s3.heap (ee::iw (envOfC qual scope s0.heap.objs.size f cd::outer))) (envOfC qual scope s0.heap.objs.size f cd::outer):=W.funFrames_hide I3.stack λenv he a hf=>SM _ (hin env he a hf);have hst:(Wl s3.heap (ee::iw (envOfC qual scope s0.heap.objs.size f cd::outer))).StaysIn s3.heap:=λb o q=>Wo _ q;have hen:(Wl s3.heap (ee::iw (envOfC qual scope s0.heap.objs.size f cd::outer))).get? ee=none:=W.hideAll_none _ (.head _);obtain⟨pX,_,_⟩:=(show bY P w _ s3.heap dx (.ext (yr dx (putAll ks vs []))) from hok3 dx _ az)
   rw[qM hnd (λ_ _ z=>by simp at z) hl.symm,UL]at pX;have hok5:=gY.xd hok4 hdx pX;have dfresh:s2.heap.get? dx=none:=by
    cases qd:s2.heap.get? dx with
    |none=>rfl
    |some o=>
     have:=un3.free dx o (hx.keeps dx o qd) (by rw[ax hdne];exact hdx) (by simp);rw[az]at this;cases this
   have un5:=Un.ext (o:=.xd (ks.zip vs)) un4 hdx dfresh;refine rB (a0:=.ref t3) I3.ok.frames hfr rfl ht3 hst hen rfl rfl rfl (λ_=>rfl) λh4 fl4 up4 dc4=>?_;refine FU rfl I1 (s1:=s3) (H1:=upd H1 dx (.xd (ks.zip vs))) os3 bare3 un5 hok5 (by rw[ax hdne.symm];exact hn) hst hfr (λb hb hy=>?_) fl4 up4 ⟨some dx,⟨some dx,dc4,.inr rfl⟩,hE dx hdx⟩;have hbe:b≠ee:=λc=>by
    subst c;rcases hy with hy|⟨o,hy⟩
    .exact hy (by rw[ax hdne.symm];exact hn)
    .rw[hx.new]at hy;cases hy
   have hth:∃o,s3.heap.get? b=some o:=by
    rcases hy with hy|⟨o,hy⟩
    .cases q:(upd H1 dx (.xd (ks.zip vs))) b with
     |none=>exact absurd q hy
     |some o=>exact bY.there (hok5 b o q)
    .exact un4.there b o hy (by simp)
   obtain⟨o,q⟩:=hth;exact⟨o,Xt _ q (List.not_mem_cons_of_ne_of_not_mem hbe hb)⟩
end
end DL
namespace DL
open PySem PySem.Spec PySem.Calls PySem.W PyProof.Rows Builtin Builtin.ObjectAttr Builtin.Getset_descriptor
section
variable {prog:Tr}{w:TU}{A:TK}{E:Sy->SI->Prop}{h:S1}{g:Array GenState}{d:Drawn}{t:Nat}{os:OsState}{a C:SA}{o:Obj}{od:Option Obj}{K:Frag}{name:SH}{v:Sy}
def Dq{tk:Tok}{Q:Fin->SI->Prop}(X:K.In h)(J:InstAt h a o C od)(hf:findObj K C od name=some (.value v))(hq:Q (.done (.ret v)) ⟨h,g,d,t,os⟩) :
  Td (Tb prog w) A (Builtin.«object.__getattribute__» ⟨[.ref a,.str name tk],[]⟩) Q E ⟨h,g,d,t,os⟩:=by
 have L0:=J.type (M:=Tb prog w);have L1:=looks_find (M:=Tb prog w) X J hf;unfold Builtin.«object.__getattribute__»
 repeat (any_goals (first|assumption|(with_reducible refine L0.at ?_)|(with_reducible refine L1.at ?_)|wp_step))
def Hs{tk:Tok}{R:WH->SI->Prop}(X:K.In h)(Z:nC K C)(J:InstAt h a o C od)(hx:h.get? a=some o)(hc:o.cls=.ref C)(hf:findObj K C od name=some (.value v))(hq:R (.ok (.ret v)) ⟨h,g,d,t,os⟩) :
  Vt (Tb prog w) A (.call (.builtin "BaseException.__getattribute__") ⟨[.ref a,.str name tk],[]⟩) R ⟨h,g,d,t,os⟩ :=
 codeAny_call_builtin Wg.ga.plain F.entry_bexc_ga (wz X Z hx hc (Dq X J hf hq))
def Oe{tk:Tok}{b ex:Bool}{Q:Sy->SI->Prop}(X:K.In h)(Z:nC K C)(J:InstAt h a o C od)(hx:h.get? a=some o)(hc:o.cls=.ref C)(hf:findObj K C od name=some (.value v))(hh:handedIn v=true)(hq:Q v ⟨h,g,d,t,os⟩) :
  Td (Tb prog w) A (getAttrBy (.ref a) (.str name tk) b ex) Q E ⟨h,g,d,t,os⟩:=by
 have f3:=Wg.ga.bind (.ref a);have hx2:(Vq "BaseException.__getattribute__"==Vq "object.__getattribute__")=false:=by decide +kernel
 have hx1:(onTheHeap (Tu C)&&Vq "BaseException.__getattribute__"==Vq "object.__getattribute__")=false:=by rw[hx2];rfl
 have L1:Looks (Tb prog w) h (VR (.ref C) "__getattribute__") (some (.builtin "BaseException.__getattribute__")):=looks_findIn X Z.ga;have L2:Looks (Tb prog w) h (VR (.ref C) "__getattr__") none:=looks_findIn X Z.gt;have hho:=handedOut_of hh
 repeat (any_goals (first|assumption|(with_reducible refine UH hx ?_;rw[hc])|(with_reducible refine L1.at ?_)|(with_reducible refine L2.at ?_)|wp_step))
 rw[if_neg (by cases ex<;>decide)]
 repeat (any_goals (first|assumption|wp_step))
 refine Hs X Z J hx hc hf ?_
 repeat (any_goals (first|assumption|wp_step))
def Lv{ex:Bool}{Q:Sy->SI->Prop}(X:K.In h)(Z:nC K C)(J:InstAt h a o C od)(hx:h.get? a=some o)(hc:o.cls=.ref C)(hf:findObj K C od name=some (.value v))(hh:handedIn v=true)(hq:Q v ⟨h,g,d,t+1,os⟩) :
  Td (Tb prog w) A (XH (.ref a) name ex) Q E ⟨h,g,d,t,os⟩:=by
 unfold XH
 repeat (any_goals (first|assumption|with_reducible apply Oe X Z J hx hc hf hh|wp_step))
end
end DL
namespace DL
open PySem PySem.Spec PyProof.Rows L2
def Ln(K:SE)(tab:SH->Option Bool)(f:SH):Prop:=∀c C b,tab c=some b->XC K c C->Vg K C=true/\dZ K C f
def rV(tab:SH->Option Bool)(f:SH)(x:D):ak D:=match x with
 |.ob (.exf c ks) ds=>(match tab c,nW f ks ds with
  |some _,some d=>.ok d
  |_,_=>.stuck)
 |_=>.stuck
theorem Di:∀{ks:ci}{vs:al}{f:SH}{u:V},(ks.zip vs).lookup f=some u->∃i:Nat,ks[i]?=some f/\vs[i]?=some u
 |[],vs,f,u,h=>by rw[List.zip_nil_left]at h;cases h
 |k::ks,[],f,u,h=>by rw[List.zip_nil_right]at h;cases h
 |k::ks,v::vs,f,u,h=>by
  rw[Vj,UC]at h;cases q:f==k with
  |true=>rw[q]at h;cases h;exact⟨0,by rw[beq_iff_eq.mp q];rfl,rfl⟩
  |false=>
   rw[q]at h;obtain⟨i,h1,h2⟩:=Di h;exact⟨i+1,h1,h2⟩
section
variable {X:Cx}{E:XK}{e:Tn}{fe:am}{pos:Pos}{f:SH}{ta:TE}{tab:SH->Option Bool}
def OG(K:SE)(ta:TE)(f:SH):TE:=λσ H Q=>ta σ H λx H1=>∃a C dx fs v,x=.ref a/\Rd H1 a (.ext (yt a C (some dx)))/\H1 dx=some (.xd fs)/\nC K C/\Vg K C=true/\dZ K C f/\fs.lookup f=some v/\Q v H1
def Iv(he:PE X e ta)(hb:Ub e f X.env (eval e X.env)=eval e X.env):PE X (.Attribute e f pos) (OG X.K ta f):=by
 intro π s σ H Q I h;refine Bl hb (cX (he π s σ H _ I h) λu s1 z9=>?_);obtain⟨x,H1,I1,rx,a,C,dx,fs,v,ex,ea,ed,Z,hd,n,l,q⟩:=z9;subst ex;obtain rfl:u=Tu a:=rx;obtain⟨⟨o,vs,ho,hcl,hda,hdi⟩,_,_⟩:=ea.ok I1.hok;obtain⟨mA,hn,r⟩:=(show bY X.prog X.w H1 s1.heap dx (.xd fs) from I1.hok dx _ ed)
 obtain⟨u',hu,ru⟩:=tP.some_of (v:=v) (o:=mA f) (by rw[←l];exact r f);obtain⟨od,hod,hl⟩:=nS hn;have J:Xn s1.heap a o C (some od):=⟨ho,hcl,by unfold W.notCls;rw[hda],by rw[hdi];exact hod⟩
 have I2:=I1.tok (s1.toks+1);have K1:=I1.kIn;obtain⟨hh,g,d,t,os⟩:=s1;exact Lv K1 Z J ho hcl (W.findObj_own hd n rfl (by show X5 f od=_;rw[hl,hu])) (ux ru) ⟨v,H1,I2,ru,q⟩
def Kk(ht:Ln X.K tab f)(he:DE X E e fe)(hb:Ub e f X.env (eval e X.env)=eval e X.env:=by rfl):DE X E (.Attribute e f pos) (aS fe (rV tab f)):=by
 refine⟨bc (Iv he.o hb) λσ H Q z9=>?_⟩;obtain⟨Ha,ρ,hs,hr,q⟩:=z9;refine⟨Ha,ρ,hs,hr,?_⟩;unfold aS at q;cases e1:fe ρ with
 |stuck|exn x=>rw[e1]at q;exact q
 |ok d=>
  rw[e1]at q;intro v H1 H01 g1 r1;replace q:post X.K E H Ha (rV tab f d) Q:=q;unfold rV at q;cases d with
  |ob k ds=>
   cases k with
   |exf c ks=>
    replace q:post X.K E H Ha (match tab c,nW f ks ds with|some _,some d=>ak.ok d|_,_=>.stuck) Q:=q;cases e2:tab c with
    |none=>rw[e2]at q;exact q.elim
    |some b=>
     cases e3:nW f ks ds with
     |none=>rw[e2,e3]at q;exact q.elim
     |some d=>
      rw[e2,e3]at q;obtain⟨p,vs,rfl,⟨C,dx,fs,h1,h2,h3,h4,h5⟩,h6⟩:=bO.mp r1;obtain⟨u,k1,k2,k3⟩:=vO h4 h6 e3;obtain⟨i,i1,i2⟩:=Di k1;obtain⟨m1,m2⟩:=ht c C b e2 h1;exact⟨p,C,dx,fs,u,rfl,aD.rd g1.sub h2,g1.sub _ _ h3,h1.ek,m1,m2,h5 i f u i1 i2,q u H1 H01 g1 k2⟩
   |_=>exact q.elim
  |_=>exact q.elim
end
def Rl{α:Type}{us:List α}(h:us.length=1):∃a,us=[a]:=List.length_eq_one_iff.mp h
def Rk{α:Type}{us:List α}(h:us.length=2):∃a b,us=[a,b]:=by
 cases us with|nil=>cases h|cons a us=>obtain⟨b,rfl⟩:=Rl (Ya.inj h);exact⟨a,b,rfl⟩
def RW{α:Type}{us:List α}(h:us.length=3):∃a b c,us=[a,b,c]:=by
 cases us with|nil=>cases h|cons a us=>obtain⟨b,c,rfl⟩:=Rk (Ya.inj h);exact⟨a,b,c,rfl⟩
end DL
namespace Com
open PySem L2 DL
def PJ{c f:SH}{d:D}:nX ⟨c,[(f,d)]⟩=.ob (.exf c [f]) [d]:=by
 show(if([f]:ci).Nodup then D.ob (.exf c [f]) [d] else .exc c)=_;rw[if_pos (by simp)]
def PH{c f g:SH}{d e:D}(h:f≠g):nX ⟨c,[(f,d),(g,e)]⟩=.ob (.exf c [f,g]) [d,e]:=by
 show(if([f,g]:ci).Nodup then D.ob (.exf c [f,g]) [d,e] else .exc c)=_;rw[if_pos (by simp[h])]
def AW{hit:SH->Bool}{ni:Nat}{sh:bv}{ρ:Ev}{x:G1}(h:hit x.cls=true):DM hit ni sh ρ (.exn x)=(sh (ρ.set ni (.sh (nX x)))).bind (Co ni):=if_pos h
def J2{tab:SH->Option Bool}{c:SH}{ks:ci}{ds:ac}{b:Bool}(h:tab c=some b):vX tab (.ob (.exf c ks) ds)=.ok (.bl b):=by unfold vX;simp only[h]
def pS(x:SH)(ks:ci)(ds:ac):ak Fl:=if ds.length=ks.length then .exn ⟨x,ks.zip ds⟩ else .stuck
def bD{x:SH}{ks:ci}{fa:Ev->ak (ac)}{ρ:Ev}:cg x ks fa ρ=(fa (ka ρ)).bind (pS x ks):=aU rfl
def gr{x f:SH}{d:D}:pS x [f] [d]=.exn ⟨x,[(f,d)]⟩:=if_pos rfl
def zq{x f g:SH}{d e:D}:pS x [f,g] [d,e]=.exn ⟨x,[(f,d),(g,e)]⟩:=if_pos rfl
def Gb{tab:SH->Option Bool}{c f:SH}{d:D}{b:Bool}(h:tab c=some b):rV tab f (.ob (.exf c [f]) [d])=.ok d:=by
 unfold rV;simp only[h];rw[show nW f [f] [d]=some d by unfold nW;rw[if_pos rfl]]
end Com
namespace DL
open PySem PySem.Spec PyProof.Rows L2
section
variable {X:Cx}{E:XK}{e o:Tn}{fe fo:am}{pos:Pos}
def kv(x:D):ak D:=match x with
 |.int i=>if i.natAbs.log2<1920 then .ok (.str (toString i)) else .stuck
 |_=>.stuck
def oo:jx X E (λxs H Q=>∃i,xs=[.int i]/\i.natAbs.log2<1920/\Q (.str (toString i)) H) (m1 kv):=nc λx v H Ha Q hs r q=>by
 unfold kv at q;cases x with
 |int i=>
  by_cases c:i.natAbs.log2<1920
  .simp only[if_pos c]at q
   exact⟨i,by rw[ay.mp r],c,bw hs q (Rep.str_iff.mpr rfl)⟩
  .simp only[if_neg c]at q;exact q.elim
 |_=>exact q.elim
def lV(x:D):ak D:=match x with
 |.str z=>if z.length<=640 then(match Vc z with
  |some n=>.ok (.int n)
  |none=>.stuck) else .stuck
 |.int i=>.ok (.int i)
 |.bl b=>.ok (.int (if b then 1 else 0))
 |_=>.stuck
def uG:iU X (.type "int") (λxs H Q=>((∃i,xs=[.int i]/\Q (.int i) H)∨∃k,xs=[.bl k]/\Q (.int (if k then 1 else 0)) H)∨∃z n,xs=[.str z]/\Vc z=some n/\z.length<=640/\Q (.int n) H):=by
 intro π s σ H xs us Q I r h;rcases h with h|⟨z,n,rfl,h1,h2,q⟩
 .exact uH π s σ H xs us Q I r h
 .obtain⟨u,rfl,t,rfl⟩:=r.one
  exact W.KIN.call_text h1 h2 ⟨.int n,H,I.tok _,⟨_,rfl⟩,q⟩
def Bg:jx X E (λxs H Q=>((∃i,xs=[.int i]/\Q (.int i) H)∨∃k,xs=[.bl k]/\Q (.int (if k then 1 else 0)) H)∨∃z n,xs=[.str z]/\Vc z=some n/\z.length<=640/\Q (.int n) H) (m1 lV):=nc λx v H Ha Q hs r q=>by
 unfold lV at q;cases x with
 |int i=>exact .inl (.inl ⟨i,by rw[ay.mp r],bw hs q (ri _)⟩)|bl k=>exact .inl (.inr ⟨k,by rw[aE.mp r],bw hs q (ri _)⟩)
 |str z=>
  by_cases c:z.length<=640
  .simp only[if_pos c]at q
   cases hn:Vc z with|none=>simp only[hn]at q;exact q.elim|some n=>simp only[hn]at q;exact .inr ⟨z,n,by rw[Rep.str_iff.mp r],hn,c,bw hs q (ri _)⟩
  .simp only[if_neg c]at q;exact q.elim
 |_=>exact q.elim
def sU(m:SH->SH->ak D)(fo fe:am):am:=λρ=>(fo ρ).bind λx=>match x with
 |.str z=>(fe ρ).bind λy=>match y with
  |.str w=>m z w
  |_=>.stuck
 |_=>.stuck
def Lh{name:SH}{id:String}{r:V->al->Hp->VK->Prop}{m:SH->SH->ak D}{apos cpos:Pos}(slot:Slot "str" name id)(hty:typeOf (.builtin id)=pure (.type "method_descriptor"))(hm:Oa X id r)
  (hr:∀z w H Ha Q,aD Ha H->post X.K E H Ha (m z w) Q->r (.str z) [.str w] H Q)(ho:DE X E o fo)(he:DE X E e fe)
  (hbase:Ub o name X.env (eval o X.env)=eval o X.env:=by rfl)
  (hfew:((TZ cpos (SJ [e] X.env)).all (λx=>!x.1)&&(VB cpos (US [] X.env)).all (λx=>x.1.isSome)
  &&decide ([e].length+([]:List U3).length+(if([]:List U3).isEmpty then 0 else 1)<30))=true:=by exact gO rfl)
  (hline:(apos.endLine==cpos.line)=true:=by rfl) (hs:SJ [e] X.env=(false,eval e X.env)::SJ [] X.env:=by exact aF rfl) (hplain:(TZ cpos (SJ [] X.env)).any (·.1)=false:=by exact bj rfl) :
  DE X E (.Call (.Attribute o name apos) [e] [] cpos) (sU m fo fe):=by
 refine⟨bc (uh XN slot hty hm ho.o (cG he.o e7 hs) hbase hfew hline hs hplain) λσ H Q z9=>?_⟩;obtain⟨Ha,ρ,hs,hrd,q⟩:=z9;refine⟨Ha,ρ,hs,hrd,?_⟩;unfold sU at q;cases e1:fo ρ with
 |stuck|exn x=>rw[e1]at q;exact q
 |ok x=>
  rw[e1]at q;intro v H1 H01 g1 r1;cases x with
  |str z=>
   replace q:post X.K E H Ha ((fe ρ).bind λy=>match y with|.str w=>m z w|_=>.stuck) Q:=q;replace q:=q.grow g1;have ev:=Rep.str_iff.mp r1;subst ev;refine⟨(rfl:("str" : String)="str"),H01,ρ,g1.sub,hrd.mono g1.z,?_⟩;cases e2:fe ρ with
   |stuck|exn x=>rw[e2]at q;exact q
   |ok y=>
    rw[e2]at q;intro u H2 H02 g2 r2;cases y with
    |str w=>
     replace q:=post.grow (r:=m z w) q g2;have eu:=Rep.str_iff.mp r2;subst eu;exact hr z w H2 H02 Q g2.sub q
    |_=>exact q.elim
  |_=>exact q.elim
def lK(z w:SH):ak D:=.ok (.bl (VM z w))
def Ie:V->al->Hp->VK->Prop:=λx vs H Q=>∃z w,x=.str z/\vs=[.str w]/\Q (.bl (VM z w)) H
def Cy:Oa X "str.startswith" Ie:=by
 intro π s σ H x vs v us Q I rx rv h;obtain⟨z,w,rfl,rfl,q⟩:=h;obtain⟨u,rfl,t',rfl⟩:=rv.one;obtain⟨t,rfl⟩:=rx;exact SC.startswith ⟨.bl (VM z w),H,I,rfl,q⟩
def CW{apos cpos:Pos}(ho:DE X E o fo)(he:DE X E e fe)(hbase:Ub o "startswith" X.env (eval o X.env)=eval o X.env:=by rfl)(hline:(apos.endLine==cpos.line)=true:=by rfl)
  (hs:SJ [e] X.env=(false,eval e X.env)::SJ [] X.env:=by exact aF rfl)
  (hfew:((TZ cpos (SJ [e] X.env)).all (λx=>!x.1)&&(VB cpos (US [] X.env)).all (λx=>x.1.isSome)
  &&decide ([e].length+([]:List U3).length+(if([]:List U3).isEmpty then 0 else 1)<30))=true:=by exact gO rfl) (hplain:(TZ cpos (SJ [] X.env)).any (·.1)=false:=by exact bj rfl):DE X E (.Call (.Attribute o "startswith" apos) [e] [] cpos) (sU lK fo fe) :=
 Lh PySem.F.slot_str_startswith PySem.F.type_str_startswith Cy (λz w H Ha Q hs q=>⟨z,w,rfl,rfl,bw hs q (rb _)⟩) ho he hbase hfew hline hs hplain
end
end DL
namespace DL
open PySem PySem.Spec PyProof.Rows L2 PySem.Builtin PySem.Builtin.Str
section
variable {prog:Tr}{w:TU}{A:TK}{E:Sy->SI->Prop}{s:SI}{x y:SH}{t u:Tok}{Q:Sy->SI->Prop}
def BJ(hy:(y.length==0)=false)(hx:x.length+2<=sizeLine)
  (h:∀(l:List (SH×Tok)) (k:Nat),l.map (·.1)=Uv x y->Q (.ref s.heap.objs.size) { s with heap:=s.heap.push { cls:=.type "list",data:=.seq (strValues l).toArray },toks:=k }) :
  Td (Tb prog w) A (call (.builtin "str.split") [.str x t,.str y u]) Q E s:=by
 have hn:(partsBetween x (occurrences x y 0 x.length (x.length+1)) y.length).length<=sizeLine:=by
  have:=XZ x y 0 x.length (x.length+1);rw[length_partsBetween];omega
 cases h1:(decide (x.length<y.length)||decide (strKind x<strKind y)) with
 |true=>exact call_meets Xa (typeIs_str _ _ _) W5 (WM _ _) (meets_str_split_cannot_occur x y t u h1) (h [(x,t)] s.toks (if_pos h1).symm)
 |false=>
  cases hf:(occurrences x y 0 x.length (x.length+1)).isEmpty with
  |true=>exact call_meets Xa (typeIs_str _ _ _) W5 (WM _ _) (meets_str_split_not_found x y t u h1 hy hf) (h [(x,t)] s.toks ((if_neg (ne_true_of_eq_false h1)).trans (if_pos hf)).symm)
  |false=>
   refine call_meets Xa (typeIs_str _ _ _) W5 (WM _ _) (meets_str_split_sep x y t u h1 hy hf (by omega) hn) ?_;have:=h (PySem.numbered s.toks _) (s.toks+(partsBetween x (occurrences x y 0 x.length (x.length+1)) y.length).length) ((numbered_texts s.toks _).trans ((if_neg (ne_true_of_eq_false h1)).trans (if_neg (ne_true_of_eq_false hf))).symm);rw[←strsFrom_eq]at this;exact this
def BK:(Uv x y).length<=x.length+2:=by
 unfold Uv;split
 .simp
 .split
  .simp
  .have:=XZ x y 0 x.length (x.length+1)
   rw[length_partsBetween];omega
end
section
variable {X:Cx}{E:XK}{e o:Tn}{fe fo:am}{pos:Pos}
def cA(z w:SH):ak D:=if(w.length==0)=false/\z.length<=1000000 then .ok (.lst ((Uv z w).map D.str)) else .stuck
def Mb:V->al->Hp->VK->Prop:=λx vs H Q=>∃z w,x=.str z/\vs=[.str w]/\(w.length==0)=false/\z.length<=1000000/\∀p,H p=none->Q (.ref p) (upd H p (.lst ((Uv z w).map V.str)))
theorem tU:∀(l:List (SH×Tok)),bx ((l.map (·.1)).map V.str) (strValues l)
 |[]=>.nil
 |(z,t)::l=>.cons ⟨t,rfl⟩ (tU l)
theorem uc{K:SE}{H:Hp}:∀(zs:ci),Reps K H (zs.map D.str) (zs.map V.str)
 |[]=>Reps.nil_iff.mpr rfl
 |z::zs=>aA.mpr ⟨_,_,rfl,Rep.str_iff.mpr rfl,uc zs⟩
def E6:Oa X "str.split" Mb:=by
 intro π s σ H x vs v us Q I rx rv h;obtain⟨z,w,rfl,rfl,hy,hz,q⟩:=h;obtain⟨u,rfl,t',rfl⟩:=rv.one;obtain⟨t,rfl⟩:=rx;refine BJ hy (by rw[sizeLine_eq];omega) λl k hl=>?_;have hn:H s.heap.objs.size=none:=I.hok.fresh (Tf _);refine⟨.ref s.heap.objs.size,_,?_,rfl,q _ hn⟩;rw[←hl];refine I.laid (λb o e=>SK _ e) (Tf _) ⟨?_,strValues l,0,tU l,TH s.heap rfl⟩;rw[SD,hl,sizeLine_eq];have:=BK (x:=z) (y:=w);omega
def rQ{apos cpos:Pos}(ho:DE X E o fo)(he:DE X E e fe)(hbase:Ub o "split" X.env (eval o X.env)=eval o X.env:=by rfl)(hline:(apos.endLine==cpos.line)=true:=by rfl)
  (hs:SJ [e] X.env=(false,eval e X.env)::SJ [] X.env:=by exact aF rfl)
  (hfew:((TZ cpos (SJ [e] X.env)).all (λx=>!x.1)&&(VB cpos (US [] X.env)).all (λx=>x.1.isSome)
  &&decide ([e].length+([]:List U3).length+(if([]:List U3).isEmpty then 0 else 1)<30))=true:=by exact gO rfl) (hplain:(TZ cpos (SJ [] X.env)).any (·.1)=false:=by exact bj rfl):DE X E (.Call (.Attribute o "split" apos) [e] [] cpos) (sU cA fo fe) :=
 Lh PySem.F.slot_str_split PySem.F.type_str_split E6 (λz w H Ha Q hs q=>by
  unfold cA at q
  by_cases c:(w.length==0)=false/\z.length<=1000000
  .rw[if_pos c]at q
   refine⟨z,w,rfl,rfl,c.1,c.2,λp hp=>?_⟩;exact q _ _ _ (aI hs hp) (aB.mpr ⟨p,_,rfl,.inl (.inl az),uc _⟩)
  .rw[if_neg c]at q;exact q.elim) ho he hbase hfew hline hs hplain
end
end DL
namespace DL
open PySem PySem.Spec PyProof.Rows L2
def km(s:Option Sl)(a:SA):Bool:=match s with
 |some (.pt b)=>b==a
 |_=>false
section
variable {X:Cx}{E:XK}{He η:Hp}{a:SA}{st:Ud}{e l b:Tn}{rest es:List Tn}{pos:Pos}{f:am}{fm gm:Ev->ac->ak (D×ac)}{fa:Ev->ac->ak (ac×ac)}{s t:Ev->ac->ak MFl}
def qe{s:Option Sl}{a:SA}(h:km s a=true):s=some (.pt a):=by
 unfold km at h;split at h
 .rw[eq_of_beq h]
 .cases h
end
open Classical in
noncomputable def xx(F:SA->ak Fl):ak Fl:=if h:∃r,∀a,F a=r then h.choose else .stuck
def IU{F:SA->ak Fl}{r:ak Fl}(h:∀a,F a=r):xx F=r:=by
 have hx:∃r,∀a,F a=r:=⟨r,h⟩
 unfold xx;rw[dif_pos hx];exact(hx.choose_spec 0).symm.trans (h 0)
def IT{F:SA->ak Fl}(h:xx F≠.stuck)(a:SA):F a=xx F:=by
 unfold xx at h ⊢
 by_cases hx:∃r,∀a,F a=r
 .rw[dif_pos hx];exact hx.choose_spec a
 .rw[dif_neg hx]at h;exact absurd rfl h
structure FT (K:SE) (mg:SH->Option Sy) (x:SH) (st:Ud) (ps:ci) (a:SA) (d:TQ):Prop where
 F:Bp K x x st a d
 b:gb K d ps []
 g:mg x=some (.ref a)
noncomputable def QA(K:SE) (x:SH) (st:Ud) (a:SA):Prop:=Up K Te x=some (some (.ref a))/\Vv K (.ref a)=true/\∃oc kV dc pm cd ct od an sl,K.lookup a=some ⟨oc,od,.func (VG x x (defArgs st) (defBody st) (defScope st) .none kV dc pm an cd ct),sl⟩/\Xl K cd x=true
def PC{K:SE}{h:S1}{mg:SH->Option Sy}{x:SH}{st:Ud}{ps:ci}{a:SA}(X:K.In h)(G:h.Ns Te mg)(q:QA K x st a)
  (hb:∀(kV doc pm:Sy) (an:Option SA) (cdv ct:Sy) (us:List Sy),us.length=ps.length->bindArgs (VG x x (defArgs st) (defBody st) (defScope st) .none kV doc pm an cdv ct) ⟨us,[]⟩=pure (ps.zip us)) :
  ∃d,FT K mg x st ps a d/\∃kV doc pm an cdv ct,d=VG x x (defArgs st) (defBody st) (defScope st) .none kV doc pm an cdv ct:=by
 obtain⟨e1,e4,oc,kV,dc,pm,cd,ct,od,an,sl,e2,e3⟩:=q;exact⟨_,⟨rq e2 e3 e4,(rq (st:=st) e2 e3 e4).binds hb,UP X G e1⟩,_,_,_,_,_,_,rfl⟩
section
variable {X:Cx}{E:XK}{e:Tn}{es:List Tn}{fa:Ev->ak (ac)}{f g h i j:am}{pos:Pos}{CX:tT}{k n:Nat}{fn:SA}{fd:TQ}{ps:ci}{m:ac->ak D}{x:SH}{p:Pos}{st:Ud}
def N8(ρ:Ev)(ds:ac)(h:ae f au ρ=.ok ds):ds.length=1:=oz (λ_ h=>GO h) h
def N7(ρ:Ev)(ds:ac)(q:ae f (ae g au) ρ=.ok ds):ds.length=2:=oz (N8 ρ) q
def Qk(ρ:Ev)(ds:ac)(q:ae f (ae g (ae h au)) ρ=.ok ds):ds.length=3:=oz (N7 ρ) q
end
def nN(fa:Ev->ak (ac))(m:ac->ak D):bv:=λρ=>match fa ρ with
 |.ok ds=>(m ds).bind λ_=>.ok (.nx ρ)
 |_=>.stuck
section
variable {X:Cx}{e:Tn}{es:List Tn}{fa:Ev->ak (ac)}{pos:Pos}{k n:Nat}{fn:SA}{fd:TQ}{ps:ci}{m:ac->ak D}{x:SH}{p:Pos}{st:Ud}
def HL{cpos:Pos}(F:FnOk X.prog X.w X.K X.mg X.base (gi X.prog X.w) k fn fd ps (spD X.K n m))(hr:dw k X.A)(hg:Gl X x)(hm:X.mg x=some (.ref fn))
  (hk:Vv X.K (.ref fn)=true)(hb:gb X.K fd ps [])(ha:DA X.nox E0 (e::es) fa)(hn:(e::es).length=n:=by rfl)(hl:∀ρ ds,fa ρ=.ok ds->ds.length=(e::es).length)
  (hdb:(x==("__debug__" : SH))=false:=by decide)(he:SJ (e::es) X.env=(false,eval e X.env)::SJ es X.env:=by exact aF rfl)(hpl:(TZ cpos (SJ es X.env)).any (·.1)=false:=by exact bj rfl)
  (hs:T1 (.Call (.Name x p) (e::es) [] cpos) none pos.line X.env=pure false:=by rfl):TB X (.Expr (.Call (.Name x p) (e::es) [] cpos) pos) (nN fa m):=by
 refine⟨λπ s σ H He η Ha ρ D XE I h q hx=>?_⟩;refine wpAny_Expr_any (cX (v8 (Q:=λv H1=>D.nx σ H1) F hr hg hm hk hb ha.o I ?_ hx hdb he hpl) λv s1 ⟨y,H1,I1,r1,q1⟩=>⟨σ,H1,I1,q1⟩) I.quiet hs;refine⟨Ha,ρ,h.g.sub,h.rd,?_⟩;unfold nN at q ⊢;cases e1:fa ρ with
 |stuck=>rw[e1]at q;exact q|exn x=>rw[e1]at q;exact q.elim
 |ok ds=>
  rw[e1]at q;intro vs H1 H01 g1 r1;refine⟨?_,H01,ds,g1.sub,r1,?_⟩
  .have:=r1.length
   have:=hl ρ ds e1;omega
  .show post _ _ _ _ (m ds) _
   cases e2:m ds with
   |stuck=>simp only[e2]at q;exact q
   |exn x=>exact λC ox H' Ha' g ex=>⟨x,Ha',by simp only[e2];rfl,g1.z.trans g.z,h.grow (g1.trans g),ex⟩
   |ok d=>
    simp only[e2]at q;exact λv H' Ha' g rp=>q _ H' Ha' (g1.z.trans g.z) (h.grow (g1.trans g))
end
def gi.imp{P:Tr}{w:TU}{outer:List Uh}{H:Hp}{s s':SI}{E E':XK}{e:Sy}(h:∀C ox H',E C ox H'->E' C ox H')(c:gi P w outer H s E e s'):gi P w outer H s E' e s':=by
 obtain⟨a,C,a0,B,H',h1,h2,h3,h4,h5,h6,h7,h8,h9,h10,hE⟩:=c;exact⟨a,C,a0,B,H',h1,h2,h3,h4,h5,h6,h7,h8,h9,h10,h _ _ _ hE⟩
def Kr{prog:Tr}{w:TU}{A:TK}{E:Sy->SI->Prop}{s:SI}{t b:SA}{ws:List Sy}{Q:Sy->SI->Prop}(ht:IsTup s.heap t ([]:List Sy).toArray)(hb:IsTup s.heap b ws.toArray)
  (h1:Q (.ref b) s):Td (Tb prog w) A (binaryOp .Add (.ref t) (.ref b)) Q E s:=by
 obtain⟨⟨cls,dd,data,sl⟩,ho,hc,n,hd⟩:=id ht;obtain⟨⟨cls2,dd2,data2,sl2⟩,ho2,hc2,n2,hd2⟩:=id hb;simp only at hc hd hc2 hd2;subst hc hd hc2 hd2;exact concat_meets ⟨_,ho,rfl⟩ ⟨_,ho2,rfl⟩ noFill_tuple_add seq_tuple_add Wq Wm (Wj _ _)
   (tuple_addW0 t b _ ws.toArray n n2 dd dd2 sl sl2 (by simp)) ⟨ho,ho2,h1⟩
def OZ(K:SE):R2:=λv u H Q=>∃a b ys,v=.ref a/\u=.ref b/\j7 K H a []/\j7 K H b ys/\Q (.ref b) H
section
variable {X:Cx}{E:XK}{a b:Tn}{f g:am}{pos:Pos}
def ID:gX X (binaryOp .Add) (OZ X.K):=by
 intro π s σ H x y v u Q I rx ry h;obtain⟨a,b,ys,rfl,rfl,ha,hb,q⟩:=h;cases rx;cases ry;obtain⟨its,r1,p1,_⟩:=I.tuple ha;obtain⟨its2,r2,p2,_⟩:=I.tuple hb;obtain rfl:its=[]:=r1.nil_iff.mpr rfl;exact Kr p1 p2 ⟨.ref b,H,I,rfl,q⟩
def gQ(x y:D):ak D:=match x,y with
 |.tup [],.tup es=>.ok (.tup es)
 |.tup ds,.tup es=>if ds.isEmpty=false/\ds.length+es.length<=line then .ok (.tup (ds++es)) else .stuck
 |_,_=>.stuck
def Bc(ha:DE X E a f)(hb:DE X E b g):DE X E (.BinOp a .Add b pos) (af f g gQ):=rR (gX.or ID As) (by
 intro x y v u H Ha Q hs r1 r2 q;unfold gQ at q;cases x with
 |tup ds=>
  cases y with
  |tup es=>
   cases ds with
   |nil=>
    obtain⟨l,vs,rfl,h1,h2⟩:=aC.mp r1;obtain⟨m,us,rfl,k1,k2⟩:=aC.mp r2;obtain rfl:vs=[]:=Reps.nil_iff.mp h2;exact .inl ⟨l,m,us,rfl,rfl,aD.sqT hs h1,aD.sqT hs k1,bw hs q r2⟩
   |cons d ds=>
    simp only at q
    by_cases h:(d::ds).isEmpty=false/\(d::ds).length+es.length<=line
    .simp only[if_pos h]at q
     obtain⟨l,vs,rfl,h1,h2⟩:=aC.mp r1;obtain⟨m,us,rfl,k1,k2⟩:=aC.mp r2;refine .inr ⟨l,m,vs,us,rfl,rfl,aD.sqT hs h1,aD.sqT hs k1,λz=>?_,by rw[←h2.length,←k2.length];exact eg h.2,λz=>?_,λz p hp=>?_⟩
     .have:=h2.length
      rw[z]at this;cases this
     .have:=k2.length
      rw[z]at this;have e:es=[]:=Ve.mp this;rw[e,Ut]at q;exact bw hs q r1
     .exact q _ _ _ (aI hs hp) (aC.mpr ⟨p,_,rfl,j7.of az,(h2.app k2).mono (aI hs hp).z⟩)
    .simp only[if_neg h]at q;exact q.elim
  |_=>cases ds<;>exact q.elim
 |_=>exact q.elim) ha hb
end
structure Rw where
 x:SH
 st:Ud
 N:ci
 n:Nat
abbrev Rw.ps(r:Rw):ci:=r.N.take r.n
instance {N P:ci}{sc:VN}:Decidable (eX N P sc) :=
 decidable_of_iff (sc.kind=.function/\sc.isCoroutine=false/\sc.isGenerator=false/\N.Nodup/\N.take P.length=P/\(∀x∈P,sc.names.lookup x=some .local ∨ sc.names.lookup x=some .cell)/\∀y∈sc.names,y.2≠.free)
  ⟨λ⟨a,b,c,d,e,f,g⟩=>⟨a,b,c,d,e,f,g⟩,λ⟨a,b,c,d,e,f,g⟩=>⟨a,b,c,d,e,f,g⟩⟩
def QE(rows:List Rw):Prop:=∀r∈rows,eX r.N r.ps (defScope r.st)
instance {rows:List Rw}:Decidable (QE rows):=inferInstanceAs (Decidable (∀r∈rows,_))
def TG(rows:List Rw)(K:SE)(mg:SH->Option Sy)(A:Nat->SA)(Q:Nat->TQ):Prop:=∀i r,rows[i]?=some r->FT K mg r.x r.st r.ps (A i) (Q i)
def Qw(r:Rw):Prop:=∀(kV doc pm:Sy) (an:Option SA) (cdv ct:Sy) (us:List Sy),us.length=r.ps.length->bindArgs (VG r.x r.x (defArgs r.st) (defBody r.st) (defScope r.st) .none kV doc pm an cdv ct) ⟨us,[]⟩=pure (r.ps.zip us)
def QAs(K:SE):List Rw->List SA->Prop
 |[],_=>True
 |r::rs,a::as=>QA K r.x r.st a/\QAs K rs as
 |_::_,[]=>False
def QAs.cons{K:SE}{x:SH}{st:Ud}{N:ci}{n:Nat}{rs:List Rw}{a:SA}{as:List SA}(q:QA K x st a)(t:QAs K rs as):QAs K (⟨x,st,N,n⟩::rs) (a::as):=⟨q,t⟩
theorem KN{K:SE}{h:S1}{mg:SH->Option Sy}(X:K.In h)(G:h.Ns Te mg):∀{rows:List Rw}{as:List SA},(∀r∈rows,Qw r)->QAs K rows as ->
  ∃Q:Nat->TQ,∀i r,rows[i]?=some r->FT K mg r.x r.st r.ps (as.getD i 0) (Q i)/\∃kV doc pm an cdv ct,Q i=VG r.x r.x (defArgs r.st) (defBody r.st) (defScope r.st) .none kV doc pm an cdv ct
 |[],as,_,_=>⟨λ_=>default,λi r e=>by simp at e⟩
 |r::rs,[],_,q=>q.elim
 |r::rs,a::as,hb,q=>by
  obtain⟨Q,h⟩:=KN X G (λr hr=>hb r (SM _ hr)) q.2;obtain⟨d,h1,h2⟩:=PC X G q.1 (hb r SQ);refine⟨λi=>match i with|0=>d|i+1=>Q i,λi r' e=>?_⟩;cases i with|zero=>rw[Vf]at e;cases e;exact⟨h1,h2⟩|succ i=>rw[Uq]at e;exact h i r' e
structure fL (P:Tr) (w:TU) (K:SE) (mg:SH->Option Sy) (base:S1) (CX:tT) (k:Nat) (fn:SA) (fd:TQ) (ps:ci) (sp:Sp) (x:SH) (st:Ud):Prop where
 F:FnOk P w K mg base CX k fn fd ps sp
 t:FT K mg x st ps fn fd
section
variable {P:Tr}{w:TU}{K:SE}{mg:SH->Option Sy}{base:S1}{rows:List Rw}{A:Nat->SA}{Q:Nat->TQ}{i k n:Nat}{r:Rw}{s:bv}{sM:SA->Ev->ac->ak MFl}
variable (T:TG rows K mg A Q) (S:QE rows) (h:rows[i]?=some r)
include T S h
theorem oD(b:∀(cdv:Sy) (A':TK) (outer:List Uh) (s0:SI) (H Ha:Hp) (E:XK),dw k (A'.deeper (envOfC r.x (defScope r.st) s0.heap.objs.size (A i) cdv)) ->
   wt (dN CX0 P w K mg base r.N r.x (defScope r.st) (A i) cdv A' outer s0 H E).nox E H Ha (defBody r.st) s):fL P w K mg base CX0 (k+1) (A i) (Q i) r.ps (spD K r.ps.length (cq r.N.length s)) r.x r.st :=
 ⟨CM (T i r h).F (S r (S7 h)) b,T i r h⟩
theorem oE(b:∀(cdv:Sy) (A':TK) (outer:List Uh) (s0:SI) (H Ha:Hp) (E:XK),dw k (A'.deeper (envOfC r.x (defScope r.st) s0.heap.objs.size (A i) cdv)) ->
   wt (dN (gi P w) P w K mg base r.N r.x (defScope r.st) (A i) cdv A' outer s0 H E) E H Ha (defBody r.st) s):fL P w K mg base (gi P w) (k+1) (A i) (Q i) r.ps (spD K r.ps.length (cq r.N.length s)) r.x r.st :=
 ⟨zk (T i r h).F (S r (S7 h)) b,T i r h⟩
end
section
variable {P:Tr}{w:TU}{K:SE}{mg:SH->Option Sy}{base:S1}{CX:tT}{k:Nat}{fn:SA}{fd:TQ}{ps:ci}{n:Nat}{m:ac->ak D}{x:SH}{st:Ud}
def fL.noX(B:fL P w K mg base (gi P w) k fn fd ps (spD K n m) x st):fL P w K mg base CX0 k fn fd ps (spD K n (DL.noX m)) x st:=⟨DL.FnOk.noX B.F,B.t⟩
end
section
variable {X:Cx}{E:XK}{e:Tn}{es:List Tn}{fa:Ev->ak (ac)}{pos:Pos}{CX:tT}{k k0 n:Nat}{fn:SA}{fd:TQ}{ps:ci}{m:ac->ak D}{x:SH}{p:Pos}{st:Ud}
def rC(B:fL X.prog X.w X.K X.mg X.base CX k0 fn fd ps (spD X.K n m) x st)(hr:dw k X.A)(ha:DA X E (e::es) fa)(hle:k0<=k:=by decide)(hx:ic CX X E:=by first|exact K0|exact yQ|exact Ao)(hl:∀ρ ds,fa ρ=.ok ds->ds.length=(e::es).length:=by first|exact N8|exact N7|exact Qk|exact al4|exact al5)(hn:(e::es).length=n:=by rfl)
  (hg:Gl X x:=by exact rfl)(hdb:(x==("__debug__" : SH))=false:=by decide)(he:SJ (e::es) X.env=(false,eval e X.env)::SJ es X.env:=by exact aF rfl)(hpl:(TZ pos (SJ es X.env)).any (·.1)=false:=by exact bj rfl) :
  DE X E (.Call (.Name x p) (e::es) [] pos) (ao fa m):=Kl (B.F.mono hle) hr hg B.t.g B.t.F.kp B.t.b hx ha hn hl hdb he hpl
def rD{cpos:Pos}(B:fL X.prog X.w X.K X.mg X.base (gi X.prog X.w) k0 fn fd ps (spD X.K n m) x st)(hr:dw k X.A)(ha:DA X.nox E0 (e::es) fa)(hle:k0<=k:=by decide)(hl:∀ρ ds,fa ρ=.ok ds->ds.length=(e::es).length:=by first|exact N8|exact N7|exact Qk|exact al4|exact al5)(hn:(e::es).length=n:=by rfl)
  (hg:Gl X x:=by exact rfl)(hdb:(x==("__debug__" : SH))=false:=by decide)(he:SJ (e::es) X.env=(false,eval e X.env)::SJ es X.env:=by exact aF rfl)(hpl:(TZ cpos (SJ es X.env)).any (·.1)=false:=by exact bj rfl)
  (hs:T1 (.Call (.Name x p) (e::es) [] cpos) none pos.line X.env=pure false:=by rfl):TB X (.Expr (.Call (.Name x p) (e::es) [] cpos) pos) (nN fa m):=HL (B.F.mono hle) hr hg B.t.g B.t.F.kp B.t.b ha hn hl hdb he hpl hs
def rT{y:SH}{pos' cpos:Pos}(hN:X.N.Nodup){i:Nat}(hi:X.N[i]?=some y)(hy:zL X.env.scope y)(B:fL X.prog X.w X.K X.mg X.base (gi X.prog X.w) k0 fn fd ps (spD X.K n m) x st)(hr:dw k X.A)(ha:DA X.nox E0 (e::es) fa)(hle:k0<=k:=by decide)(hl:∀ρ ds,fa ρ=.ok ds->ds.length=(e::es).length:=by first|exact N8|exact N7|exact Qk|exact al4|exact al5)(hn:(e::es).length=n:=by rfl)
  (hg:Gl X x:=by exact rfl)(hdb:(x==("__debug__" : SH))=false:=by decide)(he:SJ (e::es) X.env=(false,eval e X.env)::SJ es X.env:=by exact aF rfl)(hpl:(TZ cpos (SJ es X.env)).any (·.1)=false:=by exact bj rfl)
  (hs:T1 (.Call (.Name x p) (e::es) [] cpos) (some (.Name y pos')) pos.line X.env=pure false:=by rfl)
  (hf:X.fn y=true∨X.env.scope.names.lookup y=some .local := by first|exact .inl rfl|exact .inr rfl|assumption):TB X (.Assign [.Name y pos'] (.Call (.Name x p) (e::es) [] cpos) pos) (kS i fa m):=LK hN hi hy (B.F.mono hle) hr hg B.t.g B.t.F.kp B.t.b ha hn hl hdb he hpl hs hf
end
def Su{r:Rw}(hn:r.ps.length=1:=by rfl)(hb:∀(kV doc pm:Sy) (an:Option SA) (cdv ct b:Sy),bindArgs (VG r.x r.x (defArgs r.st) (defBody r.st) (defScope r.st) .none kV doc pm an cdv ct) ⟨[b],[]⟩=pure (r.ps.zip [b]):=by intros;rfl):Qw r:=λ_ _ _ _ _ _ us hl=>by
 obtain⟨b,rfl⟩:=Rl (hl.trans hn);exact hb ..
def Ss{r:Rw}(hn:r.ps.length=2:=by rfl)(hb:∀(kV doc pm:Sy) (an:Option SA) (cdv ct b c:Sy),bindArgs (VG r.x r.x (defArgs r.st) (defBody r.st) (defScope r.st) .none kV doc pm an cdv ct) ⟨[b,c],[]⟩=pure (r.ps.zip [b,c]):=by intros;rfl):Qw r:=λ_ _ _ _ _ _ us hl=>by
 obtain⟨b,c,rfl⟩:=Rk (hl.trans hn);exact hb ..
def Sr{r:Rw}(hn:r.ps.length=3:=by rfl)(hb:∀(kV doc pm:Sy) (an:Option SA) (cdv ct b c d:Sy),bindArgs (VG r.x r.x (defArgs r.st) (defBody r.st) (defScope r.st) .none kV doc pm an cdv ct) ⟨[b,c,d],[]⟩=pure (r.ps.zip [b,c,d]):=by intros;rfl):Qw r:=λ_ _ _ _ _ _ us hl=>by
 obtain⟨b,c,d,rfl⟩:=RW (hl.trans hn);exact hb ..
end DL
namespace DL
open PySem L2
section
variable {α β:Type}
def Rf(a b:ak α):Prop:=a=.stuck∨a=b
def dF{a b:ak α}{f g:α->ak β}(h:Rf a b)(k:∀x,Rf (f x) (g x)):Rf (a.bind f) (b.bind g):=by
 rcases h with rfl|rfl
 .exact .inl rfl
 .cases a with
  |ok x=>exact k x
  |exn x=>exact .inr rfl
  |stuck=>exact .inl rfl
structure lY (f g:Ev->ak α):Prop where
 o:∀ρ,Rf (f ρ) (g ρ)
end
structure Ll (f g:ac->ak D):Prop where
 o:∀ds,Rf (f ds) (g ds)
def Ll.ok{f g:ac->ak D}(h:Ll f g){ds:ac}{d:D}(e:f ds=.ok d):g ds=.ok d:=by
 rcases h.o ds with q|q
 .rw[q]at e;cases e
 .rw[←q];exact e
def rfm_refl{f:ac->ak D}:Ll f f:=⟨λ_=>.inr rfl⟩
def rf_refl{α:Type}{f:Ev->ak α}:lY f f:=⟨λ_=>.inr rfl⟩
section
variable {s s' t t':bv}{c c' f f':am}{fa fa':Ev->ak (ac)}{m m':ac->ak D}
def rf_stuck:lY fQ s:=⟨λ_=>.inl rfl⟩
def rf_seq(h1:lY s s')(h2:lY t t'):lY (aw s t) (aw s' t'):=⟨λρ=>dF (h1.o ρ) λr=>by
 cases r with
 |nx ρ'=>exact h2.o ρ'
 |_=>exact .inr rfl⟩
def rf_if(hc:lY c c')(h1:lY s s')(h2:lY t t'):lY (eC c s t) (eC c' s' t'):=⟨λρ=>dF (hc.o _) λr=>by
 cases r with
 |bl b=>cases b with
  |true=>exact h1.o ρ
  |false=>exact h2.o ρ
 |_=>exact .inr rfl⟩
theorem pR{tg:Ev->D->ak Ev}(h:lY s s'):∀(ds:ac) (ρ:Ev),Rf (cN tg s ds ρ) (cN tg s' ds ρ)
 |[],ρ=>.inr rfl
 |d::r,ρ=>by
  unfold cN;refine dF (.inr rfl) λρ1=>dF (h.o ρ1) λx=>?_;cases x with|nx ρ2|ct ρ2=>exact pR h r ρ2|bk ρ2|rt d=>exact .inr rfl
def rf_for{tg:Ev->D->ak Ev}(hf:lY f f')(h:lY s s'):lY (td f tg s) (td f' tg s'):=⟨λρ=>dF (hf.o ρ) λd=>by
 cases d with
 |lst ds=>exact pR h ds ρ
 |_=>exact .inr rfl⟩
def rf_forI{tg:Ev->D->ak Ev}{src:Ev->ak (ac)}(h:lY s s'):lY (kT src tg s) (kT src tg s'):=⟨λρ=>dF (.inr rfl) λds=>pR h ds ρ⟩
def rf_drop(h:lY f f'):lY (kG f) (kG f'):=⟨λρ=>dF (h.o _) λ_=>.inr rfl⟩
def rf_ret(h:lY f f'):lY (bI f) (bI f'):=⟨λρ=>dF (h.o _) λ_=>.inr rfl⟩
def rf_set{i:Nat}(h:lY f f'):lY (aY i f) (aY i f'):=⟨λρ=>dF (h.o _) λ_=>.inr rfl⟩
def rf_b1{op:D->ak D}(h:lY f f'):lY (aS f op) (aS f' op):=⟨λρ=>dF (h.o _) λ_=>.inr rfl⟩
def rf_not(h:lY f f'):lY (bV f) (bV f'):=rf_b1 h
def rf_b2{op:D->D->ak D}(h:lY f f')(h2:lY c c'):lY (af f c op) (af f' c' op):=⟨λρ=>dF (h.o _) λ_=>dF (h2.o _) λ_=>.inr rfl⟩
def rf_bA(h:lY fa fa')(hm:Ll m m'):lY (ao fa m) (ao fa' m'):=⟨λρ=>dF (h.o _) λds=>hm.o ds⟩
def rf_cons(h:lY f f')(h2:lY fa fa'):lY (ae f fa) (ae f' fa'):=⟨λρ=>dF (h.o _) λ_=>dF (h2.o _) λ_=>.inr rfl⟩
def yI{n:Nat}(h:lY s s'):Ll (cq n s) (cq n s'):=⟨λds=>dF (h.o _) λr=>.inr rfl⟩
end
end DL
local macro_rules|`(tactic|open_line with[rf_go])=>`(tactic|repeat (first|with_reducible exact DL.rf_refl|with_reducible exact DL.rf_stuck|with_reducible assumption|with_reducible exact DL.rfm_refl|with_reducible refine DL.rf_seq ?_ ?_|with_reducible refine DL.rf_if ?_ ?_ ?_|with_reducible refine DL.rf_for ?_ ?_|with_reducible refine DL.rf_forI ?_|with_reducible refine DL.rf_drop ?_|with_reducible refine DL.rf_ret ?_|with_reducible refine DL.rf_set ?_|with_reducible refine DL.rf_not ?_|with_reducible refine DL.rf_bA ?_ ?_|with_reducible refine DL.rf_cons ?_ ?_|with_reducible refine DL.rf_b1 ?_|with_reducible refine DL.rf_b2 ?_ ?_))
namespace Wex
open PySem L2 DL Com
def srcR1K(d:D):ak (ac):=match d with
 |.int j=>if -4611686018427387904<=j/\j<4611686018427387904 then .ok (DL.intsFrom 0 j.toNat) else .stuck
 |_=>.stuck
def ev_srcR1{f:am}{ρ:Ev}:zZ f ρ=(f ρ).bind srcR1K:=aU rfl
def srcR1_nat{k:Nat}(h:k<=1000000):srcR1K (.int (k:Int))=.ok (DL.intsFrom 0 k):=by
 show(if -4611686018427387904<=(k:Int)/\(k:Int)<4611686018427387904 then ak.ok (DL.intsFrom 0 (k:Int).toNat) else .stuck)=_;rw[if_pos (by omega),U9]
def comp_rng{m n:Nat}{fr:cr}{tt fe:am}{ρ:Ev}{q:Nat->Bool}{G:Nat->D}(hn:n<=1000000)(h:∀k,k<n->∃ρ1,dz 0 (cD m fr ρ) (.int (k:Int))=.ok ρ1/\tt ρ1=.ok (.bl (q k))/\(q k=true->fe ρ1=.ok (G k))) :
  iO m fr (dz 0) tt fe ρ (DL.intsFrom 0 n)=.ok (.lst (((TY n).filter q).map G)):=by
 have hi:DL.intsFrom 0 n=(TY n).map λ(k:Nat)=>D.int (k:Int):=by
  unfold DL.intsFrom;exact Ye λk _=>by rw[Int.zero_add]
 rw[hi];rw[ya (F:=λd=>match d with|.int v=>G v.toNat|d=>d) (p:=λd=>match d with|.int v=>q v.toNat|_=>false) (by simpa using hn)]
 .rw[List.filter_map,Uy]
  rfl
 .intro d hd
  obtain⟨k,hk,rfl⟩:=Tt.mp hd;obtain⟨ρ1,h1,h2,h3⟩:=h k (V7.mp hk);exact⟨ρ1,h1,by simpa using h2,λz=>by simpa using h3 (by simpa using z)⟩
end Wex
namespace Cod
open PySem L2 DL Com
def first(es:List Int)(m:Nat):cr:=(TY m).map λj=>97+((es[2+j]?).getD 0).toNat
end Cod
namespace Nwb
open PySem L2 DL Com
noncomputable def b_look_at_places:bv :=
 (aw (eC (fE (bV (aS (ag 0) (dW "list"))) (bV (ib C0 C0 (dC (.int 2)) (ao (ae (ag 0) au) (m1 cC)) (dC (.int 7)))))
 (aw (cg "NoWeb" ["part","number"] (ae (dC (.str "places")) (ae (dC (.non)) au)))
 av)
 av)
 (aw (kT (sY (ag 0)) (ik [1,2])
 (aw (eC (fE (bV (ao (ae (ag 2) au) m_is_name)) (af (ag 2) (iW (ag 0) gI (dD (ag 1))) xX))
 (aw (cg "NoWeb" ["part","number"] (ae (dC (.str "places")) (ae (ag 1) au)))
 av)
 av)
 av))
 av))
def m_look_at_places:ac->ak D:=cq 3 b_look_at_places
noncomputable def b_look_at_ties:bv :=
 (aw (eC (fE (bV (aS (ag 0) (dW "list"))) (af (ao (ae (ag 0) au) (m1 cC)) (dC (.int 14)) G7))
 (aw (cg "NoWeb" ["part","number"] (ae (dC (.str "ties")) (ae (dC (.non)) au)))
 av)
 av)
 (aw (kT (sY (ag 0)) (ik [2,3])
 (aw (eC (fE (bV (ao (ae (ag 3) au) m_is_tie)) (fE (af (af (ag 3) (dC (.int 0)) aH) (ag 1) c6) (af (af (ag 3) (dC (.int 1)) aH) (ag 1) c6)))
 (aw (cg "NoWeb" ["part","number"] (ae (dC (.str "ties")) (ae (ag 2) au)))
 av)
 av)
 av))
 av))
def m_look_at_ties:ac->ak D:=cq 4 b_look_at_ties
noncomputable def b_look_at_web:bv :=
 (aw (eC (fE (bV (aS (ag 0) (dW "tuple"))) (af (ao (ae (ag 0) au) (m1 cC)) (dC (.int 4)) jC))
 (aw (cg "NoWeb" ["part","number"] (ae (dC (.str "web")) (ae (dC (.non)) au)))
 av)
 av)
 (aw (kG (ao (ae (af (ag 0) (dC (.int 0)) aH) au) m_look_at_places))
 (aw (kG (ao (ae (af (ag 0) (dC (.int 1)) aH) (ae (af (ag 0) (dC (.int 0)) aH) au)) m_look_at_ties))
 (aw (eC (bV (ao (ae (af (ag 0) (dC (.int 2)) aH) (ae (af (ag 0) (dC (.int 0)) aH) au)) m_is_place))
 (aw (cg "NoWeb" ["part","number"] (ae (dC (.str "first")) (ae (dC (.non)) au)))
 av)
 av)
 (aw (eC (fE (bV (ao (ae (af (ag 0) (dC (.int 3)) aH) (ae (af (ag 0) (dC (.int 0)) aH) au)) m_is_place)) (af (af (ag 0) (dC (.int 3)) aH) (af (ag 0) (dC (.int 2)) aH) fN))
 (aw (cg "NoWeb" ["part","number"] (ae (dC (.str "last")) (ae (dC (.non)) au)))
 av)
 av)
 av)))))
def m_look_at_web:ac->ak D:=cq 1 b_look_at_web
def exW(p:SH)(n:D):G1:=⟨"NoWeb",[("part",.str p),("number",n)]⟩
def cy{p:SH}{n:D}:pS "NoWeb" ["part","number"] [.str p,n]=.exn (exW p n):=zq
def ub:Ll Com.m_look_at_places m_look_at_places:=yI (by unfold Com.b_look_at_places b_look_at_places;open_line with[rf_go])
def rf_ties:Ll Com.m_look_at_ties m_look_at_ties:=yI (by unfold Com.b_look_at_ties b_look_at_ties;open_line with[rf_go])
def L9:Ll Com.m_look_at_web m_look_at_web:=by
 have h1:=ub;have h2:=rf_ties;exact yI (by unfold Com.b_look_at_web b_look_at_web;open_line with[rf_go])
def webX{w:l8}(W:gj w):m_look_at_web [aN w]=.ok .non:=L9.ok (Ly W)
def placesX{zs:ci}(h2:2<=zs.length)(h7:zs.length<=7)(nm:cM zs):m_look_at_places [.lst (zs.map D.str)]=.ok .non:=ub.ok (uf h2 h7 nm)
def tiesX{zs:ci}{ts:List kM}(h14:ts.length<=14)(nm:cM zs)(ht:∀t∈ts,kL zs t):m_look_at_ties [.lst (ts.map aG),.lst (zs.map D.str)]=.ok .non:=rf_ties.ok (zW h14 nm ht)
def FO{tg:Ev->D->ak Ev}{body:bv}{ds:ac}(P:Nat->Ev->Prop)(X:Nat->G1)(h:∀k d,ds[k]?=some d->∀ρ,P k ρ->∃ρ1,tg ρ d=.ok ρ1/\((∃ρ2,body ρ1=.ok (.nx ρ2)/\P (k+1) ρ2)∨body ρ1=.exn (X k))){ρ:Ev}(h0:P 0 ρ) :
  (∃ρ',cN tg body ds ρ=.ok (.nx ρ')/\P ds.length ρ')∨∃k,k<ds.length/\cN tg body ds ρ=.exn (X k):=by
 have key:∀(m k:Nat) (ρ:Ev),k+m=ds.length->P k ρ->(∃ρ',cN tg body (ds.drop k) ρ=.ok (.nx ρ')/\P ds.length ρ')∨∃k',k' < ds.length/\cN tg body (ds.drop k) ρ=.exn (X k'):=by
  intro m
  induction m with
  |zero=>
   intro k ρ hk hp;have:k=ds.length:=by omega
   subst this;rw[Wn];exact .inl ⟨ρ,rfl,hp⟩
  |succ m ih=>
   intro k ρ hk hp;have hlt:k<ds.length:=by omega
   obtain⟨ρ1,h1,h2⟩:=h k ds[k] (SS hlt) ρ hp;rcases h2 with⟨ρ2,h2,h3⟩|h2
   .rw[T7 hlt,qj h1 h2]
    exact ih (k+1) ρ2 (by omega) h3
   .refine .inr ⟨k,hlt,?_⟩
    rw[T7 hlt];unfold cN;rw[h1,je,h2,bZ]
 exact key ds.length 0 ρ (by omega) h0
def oP{xs:ac}{k:Nat}{d:D}(h:(DL.numbered 0 xs)[k]?=some d):∃x,xs[k]?=some x/\d=.tup [.int (k:Int),x]:=by
 have:=ig (F:=id) (xs:=xs) (k:=k) (d:=d) (by rw[Wy];exact h);exact this
def eQ(xs:ac):∀k,(DL.numbered k xs).length=xs.length:=by
 induction xs with|nil=>intro k;rfl|cons x xs ih=>intro k;unfold DL.numbered;rw[S0,ih,S0]
def NH{xs:ac}{k:Nat}(h:k<=xs.length):mG xs none (some (k:Int))=xs.take k:=by
 have:=zC (F:=id) (xs:=xs) h
 rwa [Wy,Wy]at this
def IL{d:D}(h:AR d=true):(∃z,d=.str z/\cU z=true/\m_is_name [d]=.ok (.bl true))∨(mf d=false/\m_is_name [d]=.ok (.bl false)):=by
 have e:=bN h;cases hn:mf d with
 |false=>rw[hn]at e;exact .inr ⟨rfl,e⟩
 |true=>
  rw[hn]at e;cases d with|str z=>exact .inl ⟨z,rfl,hn,e⟩| _=>cases hn
def places_all{ds:ac}(hf:∀d∈ds,AR d=true)(h2:2<=ds.length)(h7:ds.length<=7) :
  (∃zs,ds=zs.map D.str/\cM zs)∨∃k,k<ds.length/\m_look_at_places [.lst ds]=.exn (exW "places" (.int (k:Int))):=by
 have hl:=FO (ds:=DL.numbered 0 ds) (tg:=ik [1,2]) (ρ:=[.sh (.lst ds),.no,.no])
  (body:=(aw (eC (fE (bV (ao (ae (ag 2) au) m_is_name)) (af (ag 2) (iW (ag 0) gI (dD (ag 1))) xX))
 (aw (cg "NoWeb" ["part","number"] (ae (dC (.str "places")) (ae (ag 1) au)))
 av)
 av)
 av))
  (λk ρ=>(∃a b,ρ=[.sh (.lst ds),a,b])/\∃zs,ds.take k=zs.map D.str/\cM zs) (λk=>exW "places" (.int (k:Int))) (by
   rintro k d hd ρ ⟨⟨a,b,rfl⟩,zs,hz,nm⟩;obtain⟨x,hx,rfl⟩:=oP hd;have hk:k<ds.length:=(SR.mp hx).1;refine⟨[.sh (.lst ds),.sh (.int (k:Int)),.sh x],uz rfl,?_⟩;have hcut:mG ds none (some (k:Int))=zs.map D.str:=by rw[NH (Ua hk),hz]
   rcases IL (hf x (S7 hx)) with⟨z,rfl,hnb,hn⟩|⟨_,hn⟩
   .by_cases hm:z∈zs
    .right
     open_line with[hn,hcut,lM,decide_eq_true hm,bD,cy,bZ]
    .left
     refine⟨[.sh (.lst ds),.sh (.int (k:Int)),.sh (.str z)],?_,⟨_,_,rfl⟩,zs++[z],?_,?_,?_⟩
     .open_line with[hn,hcut,lM,decide_eq_false hm]
     .rw[List.take_succ,hx,hz,T3];rfl
     .rw[W2]
      exact⟨nm.nd,by simp,λa ha b hb=>by rw[TC]at hb;subst hb;exact λe=>hm (e▸ha)⟩
     .intro y hy
      rw[TX,TC]at hy;rcases hy with hy|rfl
      .exact nm.nm y hy
      .exact hnb
   .right
    open_line with[hn,bD,cy,bZ]) ⟨⟨.no,.no,rfl⟩,[],by rw[List.take_zero];rfl,⟨.nil,λ_ h=>nomatch h⟩⟩
 rw[eQ]at hl;have e1:decide ((2:Int)<=(ds.length:Int))=true:=decide_eq_true (by omega);have e2:decide ((ds.length:Int)<=7)=true:=decide_eq_true (by omega);rcases hl with⟨ρ',_,_,zs,hz,nm⟩|⟨k,hk,hl⟩
 .rw[VT]at hz
  exact .inl ⟨zs,hz,nm⟩
 .refine .inr ⟨k,hk,?_⟩
  open_line with[m_look_at_places,b_look_at_places,e1,e2,hl,bZ]
def places_size{ds:ac}(h:ds.length<2∨7<ds.length):m_look_at_places [.lst ds]=.exn (exW "places" .non):=by
 rcases h with h|h
 .have e1:decide ((2:Int)<=(ds.length:Int))=false:=decide_eq_false (by omega)
  open_line with[m_look_at_places,b_look_at_places,e1,bD,cy,bZ]
 .have e1:decide ((2:Int)<=(ds.length:Int))=true:=decide_eq_true (by omega)
  have e2:decide ((ds.length:Int)<=7)=false:=decide_eq_false (by omega);open_line with[m_look_at_places,b_look_at_places,e1,e2,bD,cy,bZ]
def places_kind{d:D}(h:dW "list" d=.ok (.bl false)):m_look_at_places [d]=.exn (exW "places" .non):=by
 open_line with[m_look_at_places,b_look_at_places,h,bD,cy,bZ]
def ties_kind{d p:D}(h:dW "list" d=.ok (.bl false)):m_look_at_ties [d,p]=.exn (exW "ties" .non):=by
 open_line with[m_look_at_ties,b_look_at_ties,h,bD,cy,bZ]
def ties_size{ds:ac}{p:D}(h:14<ds.length):m_look_at_ties [.lst ds,p]=.exn (exW "ties" .non):=by
 open_line with[m_look_at_ties,b_look_at_ties,decide_eq_true (show(ds.length:Int) > 14 by omega),bD,cy,bZ]
def Bn(zs:ci)(d:D):Prop:=∃t,d=aG t/\kL zs t
def GS(zs:ci)(d:D):Prop:=m_is_tie [d]=.ok (.bl false)∨(m_is_tie [d]=.ok (.bl true)/\∃a b r,d=.tup (.str a::.str b::r)/\(a∉zs∨b∉zs))
def ties_all{ds:ac}{zs:ci}(nm:cM zs)(h14:ds.length<=14)(hd:∀d∈ds,Bn zs d∨GS zs d) :
  (∀d∈ds,Bn zs d)∨∃k,k<ds.length/\m_look_at_ties [.lst ds,.lst (zs.map D.str)]=.exn (exW "ties" (.int (k:Int))):=by
 have hl:=FO (ds:=DL.numbered 0 ds) (tg:=ik [2,3]) (ρ:=[.sh (.lst ds),.sh (.lst (zs.map D.str)),.no,.no])
  (body:=(aw (eC (fE (bV (ao (ae (ag 3) au) m_is_tie)) (fE (af (af (ag 3) (dC (.int 0)) aH) (ag 1) c6) (af (af (ag 3) (dC (.int 1)) aH) (ag 1) c6)))
 (aw (cg "NoWeb" ["part","number"] (ae (dC (.str "ties")) (ae (ag 2) au)))
 av)
 av)
 av))
  (λk ρ=>(∃a b,ρ=[.sh (.lst ds),.sh (.lst (zs.map D.str)),a,b])/\∀d∈ds.take k,Bn zs d) (λk=>exW "ties" (.int (k:Int))) (by
   rintro k d hd' ρ ⟨⟨a,b,rfl⟩,hz⟩;obtain⟨x,hx,rfl⟩:=oP hd';have hk:k<ds.length:=(SR.mp hx).1;refine⟨[.sh (.lst ds),.sh (.lst (zs.map D.str)),.sh (.int (k:Int)),.sh x],uz rfl,?_⟩;rcases hd x (S7 hx) with⟨t,rfl,hT⟩|h|⟨h,a',b',r,rfl,hn⟩
   .left
    refine⟨[.sh (.lst ds),.sh (.lst (zs.map D.str)),.sh (.int (k:Int)),.sh (aG t)],?_,⟨_,_,rfl⟩,?_⟩
    .have h1:=qz nm hT
     rw[show aG t=.tup [.str t.a,.str t.b,.str t.w,fr t.l,bG t.o] from rfl]at h1 ⊢;open_line with[h1,dO,decide_eq_true hT.a,decide_eq_true hT.b]
    .intro y hy
     rw[List.take_succ,hx,TX]at hy;rcases hy with hy|hy
     .exact hz y hy
     .have:y=aG t:=by simpa using hy
      subst this;exact⟨t,rfl,hT⟩
   .right
    open_line with[h,bD,cy,bZ]
   .right
    rcases hn with hn|hn
    .open_line with[h,dO,decide_eq_false hn,bD,cy,bZ]
    .by_cases ha:a'∈zs
     .open_line with[h,dO,decide_eq_false hn,decide_eq_true ha,bD,cy,bZ]
     .open_line with[h,dO,decide_eq_false ha,bD,cy,bZ]) ⟨⟨.no,.no,rfl⟩,by rw[List.take_zero];exact λ_ h=>nomatch h⟩
 rw[eQ]at hl;rcases hl with⟨ρ',_,_,hz⟩|⟨k,hk,hl⟩
 .rw[VT]at hz
  exact .inl hz
 .refine .inr ⟨k,hk,?_⟩
  open_line with[m_look_at_ties,b_look_at_ties,decide_eq_false (show ¬(ds.length:Int) > 14 by omega),hl,bZ]
def web_kind{d:D}(h:dW "tuple" d=.ok (.bl false)):m_look_at_web [d]=.exn (exW "web" .non):=by
 open_line with[m_look_at_web,b_look_at_web,h,bD,cy,bZ]
def web_size{ds:ac}(h:ds.length≠4):m_look_at_web [.tup ds]=.exn (exW "web" .non):=by
 have e:jC (.int (ds.length:Int)) (.int 4)=.ok (.bl true):=by
  rw[vy];have:((ds.length:Int)==4)=false:=beq_eq_false_iff_ne.mpr (by omega);rw[this];rfl
 open_line with[m_look_at_web,b_look_at_web,e,bD,cy,bZ]
section
variable {p t f l:D}{x:G1}
def web_places(h:m_look_at_places [p]=.exn x):m_look_at_web [.tup [p,t,f,l]]=.exn x:=by
 open_line with[m_look_at_web,b_look_at_web,h,bZ]
def web_ties(h:m_look_at_places [p]=.ok .non)(h2:m_look_at_ties [t,p]=.exn x):m_look_at_web [.tup [p,t,f,l]]=.exn x:=by
 open_line with[m_look_at_web,b_look_at_web,h,h2,bZ]
def web_first(h:m_look_at_places [p]=.ok .non)(h2:m_look_at_ties [t,p]=.ok .non)(h3:m_is_place [f,p]=.ok (.bl false)):m_look_at_web [.tup [p,t,f,l]]=.exn (exW "first" .non):=by
 open_line with[m_look_at_web,b_look_at_web,h,h2,h3,bD,cy,bZ]
end
def web_same{p t:D}{z:SH}(h:m_look_at_places [p]=.ok .non)(h2:m_look_at_ties [t,p]=.ok .non)(h3:m_is_place [.str z,p]=.ok (.bl true)):m_look_at_web [.tup [p,t,.str z,.str z]]=.exn (exW "last" .non):=by
 open_line with[m_look_at_web,b_look_at_web,h,h2,h3,m6,bD,cy,bZ]
def place_no{d p:D}(h:m_is_name [d]=.ok (.bl false)):m_is_place [d,p]=.ok (.bl false):=by
 open_line with[m_is_place,mI,h]
end Nwb
namespace DL
open PySem PySem.Spec PyProof.Rows L2
mutual
def fA:D->Bool
 |.tup ds=>plainDs ds
 |.lst ds=>plainDs ds
 |.dic _ _=>false
 |.exc _=>false
 |.ob _ _=>false
 |_=>true
def plainDs:ac->Bool
 |[]=>true
 |d::ds=>fA d&&plainDs ds
end
mutual
/-- the cells of a tree -/
def Ft(K:SE)(H:Hp):D->V->SA->Prop
 |.tup ds,v,b=>∃a vs,v=.ref a/\((b=a/\Rd H a (.tup vs))∨(j7 K H a vs/\Fts K H ds vs b))
 |.lst ds,v,b=>∃a vs,v=.ref a/\((b=a/\Rd H a (.lst vs)/\Reps K H ds vs)∨(fM K H a vs/\Reps K H ds vs/\Fts K H ds vs b))
 |_,_,_=>False
def Fts(K:SE)(H:Hp):ac->al->SA->Prop
 |d::ds,v::vs,b=>Ft K H d v b∨Fts K H ds vs b
 |_,_,_=>False
end
open Classical in
noncomputable def rst(H:Hp) (S:SA->Prop):Hp:=λb=>if S b then H b else none
def nO{H:Hp}{S:SA->Prop}{b:SA}(h:S b):rst H S b=H b:=if_pos h
def Ei{H:Hp}{S:SA->Prop}:aD (rst H S) H:=λb o e=>by
 unfold rst at e;split at e
 .exact e
 .cases e
def Ab{H:Hp}{S:SA->Prop}{b:SA}(h:rst H S b≠none):S b:=by
 unfold rst at h;split at h
 .assumption
 .exact absurd rfl h
def Ej{H:Hp}{S:SA->Prop}{b:SA}{u:HO}(h:S b)(r:Rd H b u):Rd (rst H S) b u:=by
 unfold Rd;rw[nO h];exact r
mutual
theorem Rep.rst{K:SE}{H:Hp}{S:SA->Prop}:∀{d:D}{v:V},fA d=true->Rep K H d v->(∀b,Ft K H d v b->S b)->Rep K (rst H S) d v
 |.non,_,_,h,_=>by unfold Rep at h ⊢;exact h
 |.bl _,_,_,h,_=>by unfold Rep at h ⊢;exact h
 |.int _,_,_,h,_=>by unfold Rep at h ⊢;exact h
 |.str _,_,_,h,_=>by unfold Rep at h ⊢;exact h
 |.tup ds,_,p,h,s=>by
  obtain⟨a,vs,rfl,e2,e3⟩:=aC.mp h;unfold fA at p;refine aC.mpr ⟨a,vs,rfl,?_,Reps.rst p e3 λb hb=>s b (by unfold Ft;exact⟨a,vs,rfl,.inr ⟨e2,hb⟩⟩)⟩;rcases e2 with e2|e2
  .exact .inl (Ej (s a (by unfold Ft;exact⟨a,vs,rfl,.inl ⟨rfl,e2⟩⟩)) e2)
  .exact .inr e2
 |.lst ds,_,p,h,s=>by
  obtain⟨a,vs,rfl,e2,e3⟩:=aB.mp h;unfold fA at p;refine aB.mpr ⟨a,vs,rfl,?_,Reps.rst p e3 λb hb=>s b (by unfold Ft;exact⟨a,vs,rfl,.inr ⟨e2,e3,hb⟩⟩)⟩;rcases e2 with e2|e2
  .exact .inl (Ej (s a (by unfold Ft;exact⟨a,vs,rfl,.inl ⟨rfl,e2,e3⟩⟩)) e2)
  .exact .inr e2
 |.dic _ _,_,p,_,_=>by unfold fA at p;cases p
 |.exc _,_,p,_,_=>by unfold fA at p;cases p
 |.ob _ _,_,p,_,_=>by unfold fA at p;cases p
theorem Reps.rst{K:SE}{H:Hp}{S:SA->Prop}:∀{ds:ac}{vs:al},plainDs ds=true->Reps K H ds vs->(∀b,Fts K H ds vs b->S b)->Reps K (rst H S) ds vs
 |[],_,_,h,_=>by rw[Reps.nil_iff.mp h];exact Reps.nil
 |d::ds,_,p,h,s=>by
  obtain⟨v,r,rfl,h1,h2⟩:=aA.mp h;unfold plainDs at p;rw[SX]at p;exact Reps.cons (Rep.rst p.1 h1 λb hb=>s b (by unfold Fts;exact .inl hb)) (Reps.rst p.2 h2 λb hb=>s b (by unfold Fts;exact .inr hb))
end
def Vw(A:SA->Prop)(H H2:Hp):Prop:=∀c,H2 c=H c∨(A c/\∃o u,H c=some (.frz o u)/\H2 c=some u)
def Vw.keep{A:SA->Prop}{H H2:Hp}(v:Vw A H H2){c:SA}{u:HO}(e:H c=some u)(n:∀o w,u≠.frz o w):H2 c=some u:=by
 rcases v c with h|⟨_,o,w,h,_⟩
 .rw[h];exact e
 .rw[e]at h;cases h;exact absurd rfl (n o w)
def Vw.rd{A:SA->Prop}{H H2:Hp}(v:Vw A H H2){c:SA}{u:HO}(r:Rd H c u)(n:∀o w,u≠.frz o w):Rd H2 c u:=by
 rcases r with r|⟨o,r⟩
 .exact .inl (v.keep r n)
 .rcases v c with h|⟨_,o',w,h,h2⟩
  .exact .inr ⟨o,by rw[h];exact r⟩
  .rw[r]at h;cases h;exact .inl h2
def Vw.none{A:SA->Prop}{H H2:Hp}(v:Vw A H H2){c:SA}(e:H c=Xe):H2 c=Xe:=by
 rcases v c with h|⟨_,o',w,h,h2⟩
 .rw[h];exact e
 .rw[e]at h;cases h
theorem tR.view{K:SE}{A:SA->Prop}{H H':Hp}(e:Vw A H H'):∀{k:Kd}{a:SA}{vs:al},tR K H k a vs->tR K H' k a vs
 |.ins c ks,a,vs,⟨C,dx,h0,h1,h2,h3⟩=>⟨C,dx,h0,h1,e.keep h2 (λ_ _ z=>by cases z),h3⟩
 |.dint ks,a,vs,⟨kvs,h1,h2,h3⟩=>⟨kvs,e.rd h1 (λ_ _ z=>by cases z),h2,h3⟩
 |.exf c ks,a,vs,⟨C,dx,fs,h1,h2,h3,h4⟩=>⟨C,dx,fs,h1,e.rd h2 (λ_ _ z=>by cases z),e.keep h3 (λ_ _ z=>by cases z),h4⟩
 |.pl,a,vs,h=>e.keep h (λ_ _ z=>by cases z)
mutual
theorem Rep.view{K:SE}{A:SA->Prop}{H H':Hp}(e:Vw A H H'):∀{d:D}{v:V},Rep K H d v->Rep K H' d v
 |.non,_,h=>by unfold Rep at h ⊢;exact h
 |.bl _,_,h=>by unfold Rep at h ⊢;exact h
 |.int _,_,h=>by unfold Rep at h ⊢;exact h
 |.str _,_,h=>by unfold Rep at h ⊢;exact h
 |.tup ds,_,h=>by
  unfold Rep at h ⊢;obtain⟨a,vs,e1,e2,e3⟩:=h;exact⟨a,vs,e1,e2.imp (λr=>e.rd r (λ_ _ z=>by cases z)) id,Reps.view e e3⟩
 |.lst ds,_,h=>by
  unfold Rep at h ⊢;obtain⟨a,vs,e1,e2,e3⟩:=h;exact⟨a,vs,e1,e2.imp (λr=>e.rd r (λ_ _ z=>by cases z)) id,Reps.view e e3⟩
 |.dic ks ds,_,h=>by
  unfold Rep at h ⊢;obtain⟨a,kvs,vs,e1,e2,e3,e4,e5⟩:=h;exact⟨a,kvs,vs,e1,e.rd e2 (λ_ _ z=>by cases z),e3,e4,Reps.view e e5⟩
 |.exc x,_,h=>by
  unfold Rep at h ⊢;obtain⟨a,C,dc,e1,e2,e3⟩:=h;exact⟨a,C,dc,e1,e2,e.rd e3 (λ_ _ z=>by cases z)⟩
 |.ob k ds,_,h=>by
  unfold Rep at h ⊢;obtain⟨a,vs,e1,e2,e3⟩:=h;exact⟨a,vs,e1,e2.view e,Reps.view e e3⟩
theorem Reps.view{K:SE}{A:SA->Prop}{H H':Hp}(e:Vw A H H'):∀{ds:ac}{vs:al},Reps K H ds vs->Reps K H' ds vs
 |[],_,h=>by unfold Reps at h ⊢;exact h
 |d::ds,_,h=>by
  unfold Reps at h ⊢;obtain⟨v,r,e1,e2,e3⟩:=h;exact⟨v,r,e1,Rep.view e e2,Reps.view e e3⟩
end
def bY.view{P:Tr}{w:TU}{A:SA->Prop}{H H2:Hp}{h:S1}{a:SA}{o:HO}(v:Vw A H H2)(x:bY P w H h a o):bY P w H2 h a o :=
 x.stay (λb u _ q=>q) (λb q=>v.keep q (λ_ _ z=>by cases z)) λb xs q=>v.keep q (λ_ _ z=>by cases z)
def noO(ρ:Ev):Bool:=ρ.all λs=>match s with
 |.ow _=>false
 |.ox _ _=>false
 |_=>true
section
variable {K:SE}{He η Ha H H2:Hp}{σ:L2.St}{ρ:Ev}{a:SA}{st:ac}{vs:al}
def noO.ow(h:noO ρ=true){i:Nat}{d:D}(e:ρ[i]?=some (.ow d)):False:=by
 have:=Tp.mp h _ (S7 e);cases this
def noO.ox(h:noO ρ=true){i j:Nat}{ds:ac}(e:ρ[i]?=some (.ox j ds)):False:=by
 have:=Tp.mp h _ (S7 e);cases this
def eO.poke(h:eO K He η Ha σ H ρ)(n:noO ρ=true)(hs:aD He H2)(hz:aD Ha H2):eO K He η Ha σ H2 ρ :=
 ⟨⟨hs,h.g.z,hz,h.g.nw⟩,h.rd,λi d e=>(noO.ow n e).elim,λi j d d' _ e=>(noO.ow n e).elim,h.ln,⟨λi j ds e=>(noO.ox n e).elim,h.ex.2⟩⟩
def eO.dropT(h:eO K He η Ha σ H ρ){i:Nat}{v:V}:eO K He η Ha (σ.set i (some v)) H (ρ.set i .no):=by
 have key:∀(j:Nat) (s:Sl),(ρ.set i .no)[j]?=some s->s=.no∨(j≠i/\ρ[j]?=some s):=λj s e=>by
  by_cases hj:i=j
  .subst hj
   rw[UE]at e;cases q:ρ[i]? with|none=>rw[q]at e;cases e|some s'=>rw[q]at e;cases e;exact .inl rfl
  .rw[SO hj]at e
   exact .inr ⟨λz=>hj z.symm,e⟩
 refine⟨h.g,λj d' e=>?_,λj d' e=>?_,λj k d1 d2 hn e1 e2=>?_,by simp[h.ln],h.ex.upd (λj s e=>?_) (aD.refl _) (λa vs _ e=>e) λp us _ h0 hp _=>⟨hp,h0⟩⟩
 .rcases key j _ e with e'|⟨hj,e'⟩
  .cases e'
  .obtain⟨v',h1,h2⟩:=h.rd j d' e'
   exact⟨v',by rw[SO (TF hj)];exact h1,h2⟩
 .rcases key j _ e with e'|⟨hj,e'⟩
  .cases e'
  .obtain⟨b,h1,h2⟩:=h.ow j d' e'
   exact⟨b,by rw[SO (TF hj)];exact h1,h2⟩
 .rcases key j _ e1 with e'|⟨hj,e1'⟩
  .cases e'
  rcases key k _ e2 with e'|⟨hk,e2'⟩
  .cases e'
  rw[SO (TF hj),SO (TF hk)];exact h.ap j k d1 d2 hn e1' e2'
 .rcases key j _ e with e'|⟨hj,e'⟩
  .exact .inr (.inr (.inl e'))
  .exact .inl ⟨e',by rw[SO (TF hj)]⟩
end
def FN{He Ha H H':Hp}(s:aD H H'):aD (frz He Ha H) (frz He Ha H'):=λc o e=>by
 unfold frz at e ⊢;cases q:He c with|none=>rw[q]at e;exact s _ _ e|some _=>rw[q]at e;exact e
section
variable {X:Cx}{E:XK}{He η:Hp}{a:SA}{x:Nat}{st:Ud}{rest:List Ud}{e b c:Tn}{pos:Pos}{f fk:am}{g:D->Ev->ac->ak MFl}{s r:Ev->ac->ak MFl}
def mT(js:cr)(ρ:Ev):Ev:=ρ.mapIdx λi s=>if js.contains i then s else .no
def Fm{js:cr}{ρ:Ev}{i:Nat}{d:D}(h:(mT js ρ)[i]?=some (.sh d)):i∈js/\ρ[i]?=some (.sh d):=by
 unfold mT at h;rw[List.getElem?_mapIdx]at h;cases q:ρ[i]? with
 |none=>rw[q]at h;cases h
 |some s=>
  rw[q]at h;simp only[Vm,U7]at h
  by_cases c:js.contains i=true
  .rw[if_pos c]at h;exact⟨by simpa using c,by rw[h]⟩
  .rw[if_neg c]at h;cases h
end
mutual
/-- .. seen as any list -/
def fgt:D->D
 |.tup ds=>.tup (fgts ds)
 |.lst ds=>.lst (fgts ds)
 |.dic ks ds=>.dic ks (fgts ds)
 |.ob k ds=>match k with
  |.pl=>.lst (fgts ds)
  |k=>.ob k (fgts ds)
 |.non=>.non
 |.bl b=>.bl b
 |.int i=>.int i
 |.str x=>.str x
 |.exc x=>.exc x
def fgts:ac->ac
 |[]=>[]
 |d::ds=>fgt d::fgts ds
end
mutual
theorem Rep.fgt{K:SE}{H:Hp}:∀{d:D}{v:V},Rep K H d v->Rep K H (fgt d) v
 |.non,_,h=>by rw[DL.fgt];exact h
 |.bl _,_,h=>by rw[DL.fgt];exact h
 |.int _,_,h=>by rw[DL.fgt];exact h
 |.str _,_,h=>by rw[DL.fgt];exact h
 |.exc _,_,h=>by rw[DL.fgt];exact h
 |.tup ds,_,h=>by
  obtain⟨a,vs,e1,e2,e3⟩:=aC.mp h;rw[DL.fgt];exact aC.mpr ⟨a,vs,e1,e2,Reps.fgt e3⟩
 |.lst ds,_,h=>by
  obtain⟨a,vs,e1,e2,e3⟩:=aB.mp h;rw[DL.fgt];exact aB.mpr ⟨a,vs,e1,e2,Reps.fgt e3⟩
 |.dic ks ds,_,h=>by
  rw[Rep]at h;obtain⟨a,kvs,vs,e1,e2,e3,e4,e5⟩:=h;rw[DL.fgt,Rep];exact⟨a,kvs,vs,e1,e2,e3,e4,Reps.fgt e5⟩
 |.ob k ds,_,h=>by
  obtain⟨a,vs,e1,e2,e3⟩:=bO.mp h;cases k with
  |pl=>rw[DL.fgt];exact aB.mpr ⟨a,vs,e1,fM.of e2,Reps.fgt e3⟩
  |ins c ks=>rw[DL.fgt]<;>first|exact bO.mpr ⟨a,vs,e1,e2,Reps.fgt e3⟩|(intro z;cases z)
  |dint ks=>rw[DL.fgt]<;>first|exact bO.mpr ⟨a,vs,e1,e2,Reps.fgt e3⟩|(intro z;cases z)
  |exf c ks=>rw[DL.fgt]<;>first|exact bO.mpr ⟨a,vs,e1,e2,Reps.fgt e3⟩|(intro z;cases z)
theorem Reps.fgt{K:SE}{H:Hp}:∀{ds:ac}{vs:al},Reps K H ds vs->Reps K H (fgts ds) vs
 |[],_,h=>by rw[fgts];exact h
 |d::ds,_,h=>by
  obtain⟨v,r,rfl,h1,h2⟩:=aA.mp h;rw[fgts];exact Reps.cons (Rep.fgt h1) (Reps.fgt h2)
end
section
variable {X:Cx}{E:XK}{e:Tn}{f:am}
def xY(f:am):am:=λρ=>(f ρ).bind λd=>.ok (fgt d)
def n9(he:DE X E e f):DE X E e (xY f):=⟨bc he.o λσ H Q ⟨Ha,ρ,hs,hr,q⟩=>⟨Ha,ρ,hs,hr,by
 unfold xY at q;cases e1:f ρ with
 |stuck|exn x=>rw[e1]at q;exact q
 |ok d=>rw[e1]at q;exact λv H' Ha' g r=>q v H' Ha' g r.fgt⟩⟩
end
def RF(J Jf:Hp):Prop:=∀c,Jf c=J c∨∃us o,J c=some (.lst us)/\Jf c=some (.frz o (.lst us))
mutual
theorem Rep.frv{K:SE}{J Jf:Hp}(e:RF J Jf):∀{d:D}{v:V},fA d=true->Rep K J d v->Rep K Jf d v
 |.non,_,_,h=>by unfold Rep at h ⊢;exact h
 |.bl _,_,_,h=>by unfold Rep at h ⊢;exact h
 |.int _,_,_,h=>by unfold Rep at h ⊢;exact h
 |.str _,_,_,h=>by unfold Rep at h ⊢;exact h
 |.tup ds,_,p,h=>by
  obtain⟨a,vs,rfl,e2,e3⟩:=aC.mp h;unfold fA at p;refine aC.mpr ⟨a,vs,rfl,e2.imp (λr=>?_) id,Reps.frv e p e3⟩;rcases e a with q|⟨us,o,q,_⟩
  .unfold Rd;rw[q];exact r
  .rcases r with r|⟨_,r⟩<;>rw[q]at r<;>cases r
 |.lst ds,_,p,h=>by
  obtain⟨a,vs,rfl,e2,e3⟩:=aB.mp h;unfold fA at p;refine aB.mpr ⟨a,vs,rfl,e2.imp (λr=>?_) id,Reps.frv e p e3⟩;rcases e a with q|⟨us,o,q,q2⟩
  .unfold Rd;rw[q];exact r
  .rcases r with r|⟨_,r⟩
   .rw[q]at r;cases r;exact .inr ⟨o,q2⟩
   .rw[q]at r;cases r
 |.dic _ _,_,p,_=>by unfold fA at p;cases p
 |.exc _,_,p,_=>by unfold fA at p;cases p
 |.ob _ _,_,p,_=>by unfold fA at p;cases p
theorem Reps.frv{K:SE}{J Jf:Hp}(e:RF J Jf):∀{ds:ac}{vs:al},plainDs ds=true->Reps K J ds vs->Reps K Jf ds vs
 |[],_,_,h=>by rw[Reps.nil_iff.mp h];exact Reps.nil
 |d::ds,_,p,h=>by
  obtain⟨v,r,rfl,h1,h2⟩:=aA.mp h;unfold plainDs at p;rw[SX]at p;exact Reps.cons (Rep.frv e p.1 h1) (Reps.frv e p.2 h2)
end
open Classical in
noncomputable def tK(h:S1) (S:SA->Prop) (H:Hp):Hp:=λc=>match H c with
 |some (.lst us)=>if S c then(match h.get? c with|some o=>some (.frz o (.lst us))|none=>some (.lst us)) else some (.lst us)
 |o=>o
open Classical in
noncomputable def pd(S:SA->Prop) (H H1:Hp):Hp:=λc=>if S c/\∃us,H c=some (.lst us) then H c else H1 c
section
variable {h:S1}{S:SA->Prop}{H H1:Hp}{c:SA}
def AM{us:al}{o:Obj}(hc:S c)(e:H c=some (.lst us))(eo:h.get? c=some o):tK h S H c=some (.frz o (.lst us)):=by
 unfold tK;rw[e];simp only;rw[if_pos hc,eo]
def jQ(hc:¬(S c/\∃us,H c=some (.lst us))):tK h S H c=H c:=by
 unfold tK;cases q:H c with
 |none=>rfl
 |some o=>
  cases o with|lst us=>simp only;rw[if_neg λz=>hc ⟨z,us,q⟩]| _=>rfl
def nq(hc:S c/\∃us,H c=some (.lst us)):pd S H H1 c=H c:=if_pos hc
def jW(hc:¬(S c/\∃us,H c=some (.lst us))):pd S H H1 c=H1 c:=if_neg hc
def Jp{P:Tr}{w:TU}(ok:gY P w H h):gY P w (tK h S H) h:=λa o e=>by
 have st:∀{u:HO},bY P w H h a u->bY P w (tK h S H) h a u:=λx=>x.stay (λb u _ q=>q) (λb q=>by rw[jQ (λz=>by obtain⟨_,us,z⟩:=z;rw[q]at z;cases z)];exact q) λb xs q=>by rw[jQ (λz=>by obtain⟨_,us,z⟩:=z;rw[q]at z;cases z)];exact q
 by_cases hc:S a/\∃us,H a=some (.lst us)
 .obtain⟨h1,us,ea⟩:=hc
  have x:=ok a _ ea;obtain⟨_,its,n,_,eo⟩:=id x;rw[AM h1 ea eo]at e;cases e;exact⟨eo,st x⟩
 .rw[jQ hc]at e;exact st (ok a o e)
end
mutual
theorem Ft.some_of{K:SE}{H:Hp}{b:SA}:∀{d:D}{v:V},Ft K H d v b->H b≠none
 |.non,_,h=>by unfold Ft at h;exact h.elim
 |.bl _,_,h=>by unfold Ft at h;exact h.elim
 |.int _,_,h=>by unfold Ft at h;exact h.elim
 |.str _,_,h=>by unfold Ft at h;exact h.elim
 |.dic _ _,_,h=>by unfold Ft at h;exact h.elim
 |.exc _,_,h=>by unfold Ft at h;exact h.elim
 |.ob _ _,_,h=>by unfold Ft at h;exact h.elim
 |.tup ds,_,h=>by
  unfold Ft at h;obtain⟨a,vs,rfl,⟨rfl,h⟩|⟨_,h⟩⟩:=h
  .rcases h with h|⟨_,h⟩<;>rw[h]<;>simp
  .exact Fts.some_of h
 |.lst ds,_,h=>by
  unfold Ft at h;obtain⟨a,vs,rfl,⟨rfl,h,_⟩|⟨_,_,h⟩⟩:=h
  .rcases h with h|⟨_,h⟩<;>rw[h]<;>simp
  .exact Fts.some_of h
theorem Fts.some_of{K:SE}{H:Hp}{b:SA}:∀{ds:ac}{vs:al},Fts K H ds vs b->H b≠none
 |[],_,h=>by unfold Fts at h;exact h.elim
 |d::ds,[],h=>by unfold Fts at h;exact h.elim
 |d::ds,v::vs,h=>by
  unfold Fts at h;rcases h with h|h
  .exact Ft.some_of h
  .exact Fts.some_of h
end
def RP(r:Fl):ak Fl:=match r with
 |.rt d=>.ok (.rt d)
 |_=>.stuck
section
variable {X:Cx}{π:List (SA×Obj)}{σ:L2.St}{H:Hp}{s:SI}{e:SA}
def Kq{H1:Hp}{s1 s':SI}{Ex:XK}{ev:Sy}{c:SH}{np hpos:Pos}{ba:Ud}{suite:List Ud}{rest:List ExceptHandler}{cv:Sy}{D:gV}(hstk:X.stack=X.env::X.outer/\X.env.frame=some X.env.locals)(I:Inv X π σ H1 s1)
  (h:gi X.prog X.w X.stack H1 s1 Ex ev s')(hg:Gl X c)(hm:X.mg c=some cv)(hx:∀C ox H',Ex (.ref C) ox H'->WS X.K (.ref C) cv=some true)
  (hs:∀ea C dc oc ox H' s2,Ex (.ref C) ox H'->(ox=none∨ox=dc)->H' ea=none->lr s2.heap ea dc->s2.heap.get? ea=some oc->Inv (DL.hand X ea) π σ (upd H' ea (.ext (λg=>g.get? ea=some oc))) s2 ->
   Td (Tb X.prog X.w) (X.A.mark (some (.ref ea))) (execs (ba::suite) X.env) (SP (DL.hand X ea) π D) (notedBy (Tb X.prog X.w) (X.A.mark (some (.ref ea))) X.env λx s3=>cameBackBy (Tb X.prog X.w) X.A X.env X.xe x s3) s2)
  (hdb:(c==("__debug__" : SH))=false:=by decide) :
  Td (Tb X.prog X.w) X.A (noteFrame ev X.env) (λ_ si=>Td (Tb X.prog X.w) X.A (setFlight ev none) (λ_ sj=>
   Td (Tb X.prog X.w) X.A (handleBy ev X.env (.ExceptHandler (some (.Name c np)) none (ba::suite) hpos::rest)) (SP X π D) X.xe sj) X.xe si) X.xe s':=by
 obtain⟨ea,C,a0,B,H',rfl,os,bare,un,hok,hne,fl,hB,ox,⟨dc,hdc,hox⟩,hE⟩:=h;have hA:X.A.frames=some (X.env::X.outer):=by rw[←hstk.1];exact I.ok.frames
 have fl0:=fl;rw[hstk.1]at fl;have hf1:∀b∈iw X.stack,H' b=none:=λb hb=>by
  obtain⟨_,o,ho,_⟩:=I.stack.mem hb;exact un.free b o ho (I.stkFree b hb) (by simp)
 have hnew:s1.heap.get? ea=none:=by
  cases q:s1.heap.get? ea with
  |none=>rfl
  |some o=>
   by_cases hb:ea∈iw X.stack
   .obtain⟨_,o',ho',hd⟩:=fl0.2.2.1.mem hb
    obtain⟨oe,vs,he,_,hd',_⟩:=fl0.first
    rw[ho']at he;cases he;exact absurd hd' (hd vs)
   .obtain⟨u,hu⟩:=hB ea hb (.inr ⟨o,q⟩)
    rw[fl.2.1]at hu;cases hu
 have inv:∀g,B.StaysIn g->s'.heap.UpToSlots g->Inv X π σ H' { s' with heap:=g }:=λg k up=>
  I.call' (ch:=[]) os (Un.fly un fl0.1 fl0.2.2.1 hB k up) (gY.fly hok hf1 fl0.1 hB k) bare (λ_ z=>nomatch z)
 have invx:∀g oc,B.StaysIn g->s'.heap.UpToSlots g->g.get? ea=some oc->Inv X π σ (upd H' ea (.ext (λg=>g.get? ea=some oc))) { s' with heap:=g }:=λg oc k up p=>
  I.call' (ch:=[]) os (Un.ext (Un.fly un fl0.1 fl0.2.2.1 hB k up) hne hnew) (gY.ext (gY.fly hok hf1 fl0.1 hB k) hne p ⟨oc,p⟩ (λg1 g2 x y=>y oc x)) bare (λ_ z=>nomatch z)
 refine xP hA hstk.2 fl hdc λh4 held4 up4 dc4=>?_;refine xQ held4 dc4 λh5 fl5 up5 dc5=>?_;have I5:Inv (DL.hand X ea) π σ H' { s' with heap:=h5 }:=Inv.hand (inv h5 fl5.1 (up4.trans up5));refine wpAny_handleBy_cons (codeAny_handlers_test ?_) (by intro q;cases q);refine ij I5 hg hm ?_ hdb;obtain⟨ob,hob,hoc⟩:=fl5.there;have LT:V1 (Tb X.prog X.w) h5 (typeOf (.ref ea)) (.ref C):=hoc▸(V1.ld hob).andThen .now;refine(W.exm_one I5.kIn LT (hx C ox H' hE)).here ?_;refine codeAny_handlers_suite ?_;refine xS fl5 dc5 λh6 fl6 up6 dc6=>?_;obtain⟨oe,vs,he,hc,hd,_⟩:=fl6.first
 have I6:Inv (DL.hand X ea) π σ (upd H' ea (.ext (λg=>g.get? ea=some oe))) { s' with heap:=h6 }:=Inv.hand (invx h6 oe fl6.1 ((up4.trans up5).trans up6) he);refine T4 (hs ea C dc oe ox H' _ hE hox hne dc6 he I6) (λf s8 h8=>?_) λ_ _ z=>z;cases f with|next|brk|cont=>obtain⟨σ',H2,J,q⟩:=h8;exact⟨σ',H2,iT I.ok J,q⟩|ret u=>obtain⟨v,σ',H2,J,r,q⟩:=h8;exact⟨v,σ',H2,iT I.ok J,r,q⟩
end
section
variable {prog:Tr}{w:TU}{A:TK}{E:Sy->SI->Prop}{s:SI}
def ye{sl:SA}{t:Tok}{n:Nat}{Q:Int×Int×Nat->SI->Prop}(hs:s.heap.IsSliceOf sl .none .none (.int (-1) t))(h:Q ((n:Int)-1,-1,n) s):Td (Tb prog w) A (Vx (.ref sl) (pure (n:Int))) Q E s:=by
 obtain⟨os,hos,hcs,hds⟩:=id hs;unfold Vx Xs;refine SG (SG (wpAny_field hos hds (x:=.none) rfl (SG (wpAny_field hos hds (x:=.none) rfl (SG (wpAny_field hos hds (x:=.int (-1) t) rfl (S5 ?_)))))));refine SG (HT.slicePart_ (.int (-1) t) ?_);show Td _ _ (if((-1:Int)==0)=true then _ else _) _ _ s;rw[if_neg (by decide)];refine SG (HT.slicePart_ .none (SG (HT.slicePart_ .none (SG (S5 ?_)))));show Td _ _ (match UN none none (-1) (n:Int) with|(lo,hi)=>pure (lo,(-1:Int),Ul lo hi (-1))) _ _ s;have e1:UN none none (-1) (n:Int)=((n:Int)-1,-1):=by
  unfold UN;simp
 rw[e1];show Td _ _ (pure ((n:Int)-1,(-1:Int),Ul ((n:Int)-1) (-1) (-1))) _ _ s;have e2:Ul ((n:Int)-1) (-1) (-1)=n:=by
  unfold Ul;simp only[show ¬((-1:Int) > 0) by decide,if_false];rw[show(- -1:Int)=1 from rfl,Int.ediv_one];split<;>omega
 rw[e2];exact S5 h
def Ck(its:List Sy):((TY its.length).filterMap λ(k:Nat)=>its.toArray[((its.length:Int)-1+(k:Int)*(-1)).toNat]?).toArray=its.reverse.toArray:=by
 congr 1
 have hall:∀k∈TY its.length,its.toArray[((its.length:Int)-1+(k:Int)*(-1)).toNat]?=its.reverse[k]?:=λk hk=>by
  have hk:=V7.mp hk;rw[List.getElem?_reverse hk,show((its.length:Int)-1+(k:Int)*(-1)).toNat=its.length-1-k by omega];simp
 rw[xK hall];have hh:=WC (as:=its);generalize its.reverse=r at hh ⊢;rw[←hh];clear hh hall
 induction r with
 |nil=>rfl
 |cons a r ih=>
  rw[S0,VO,UJ];simp only[Vf,List.filterMap_map]
  congr 1
def tI{a sl:SA}{its:List Sy}{t:Tok}{Q:Sy->SI->Prop}(ht:IsTup s.heap a its.toArray)(hs:s.heap.IsSliceOf sl .none .none (.int (-1) t))(hsz:its.length<=sizeLine)
  (h:Q (.ref s.heap.objs.size) { s with heap:=s.heap.push { cls:=.type "tuple",data:=.seq its.reverse.toArray } }):Td (Tb prog w) A (getItem (.ref a) (.ref sl)) Q E s:=by
 obtain⟨os,hos,hcs,hds⟩:=id hs;have hTs:s.TypeIs (.ref sl) "slice":=⟨os,hos,hcs⟩
 have htake:sizeOk (.seq its.reverse.toArray):=by
  show its.reverse.toArray.size<=sizeLine;rw[S8,WC];exact hsz
 unfold getItem
 try with_reducible refine UY ?_
 first|refine SG (S5 ?_)|skip
 refine SG (wpAny_sequenceKey ht.typeIs (by decide) ?_);refine SG (wpAny_callSpecial?_slot (name:=TR "__getitem__") ht.typeIs UM
  (wpAny_call_entry UM ht.typeIs entry_tuple_getitem ?_ (args_tuple_getitem _ _)))
 show Td _ _ (Xq (.ref a) >>= _) _ _ s;refine SG (tupleItemsOf_ ht ?_);refine SG (wpAny_typeOf hTs ?_);rw[if_pos (by decide)];refine SG (ye (n:=its.toArray.size) hs ?_);have hno:¬((((its.toArray.size:Int)-1)==0&&(-1:Int)==1&&its.toArray.size==its.toArray.size)=true):=by
  intro q;rw[SX,SX]at q;exact absurd q.1.2 (by decide)
 show Td _ _ (if((((its.toArray.size:Int)-1)==0&&(-1:Int)==1&&its.toArray.size==its.toArray.size)=true) then _ else _) _ _ s;rw[if_neg hno,S8,Ck]
 first
  |exact SG (m:=Um _) (wpAny_newObj_type (S5 ⟨_,rfl,S5 h⟩) htake)
  |exact SG (m:=Um _) (wpAny_newObj_type (SG (S5 (S5 ⟨_,rfl,S5 h⟩))) htake)
  |exact SG (SG (m:=Um _) (wpAny_newObj_type (S5 (S5 ⟨_,rfl,S5 h⟩)) htake))
  |exact SG (SG (m:=Um _) (wpAny_newObj_type (S5 ⟨_,rfl,S5 h⟩) htake))
end
def Bd(x:D):ak D:=match x with
 |.tup ds=>.ok (.tup ds.reverse)
 |_=>.stuck
section
variable {X:Cx}{E:XK}{e a st:Tn}{f:am}{te:TE}{pos p2:Pos}
def Oz(K:SE)(te:TE):TE:=λσ H Q=>te σ H λx H1=>∃a xs,x=.ref a/\j7 K H1 a xs/\∀p,H1 p=none->Q (.ref p) (upd H1 p (.tup xs.reverse))
def Iu(he:PE X e te)(hst:∀(π:List (SA×Obj)) (s:SI) (σ:L2.St) (H:Hp) (Q:VK),Inv X π σ H s->Q (.int (-1)) H->Td (Tb X.prog X.w) X.A (eval st X.env) (EP X π σ Q) X.xe s):PE X (.Subscript e (.Slice none none (some st) p2) pos) (Oz X.K te):=by
 intro π s σ H Q I h;refine Subscript_ (cX (he π s σ H _ I h) λv s1 ⟨x,H1,I1,r1,a,xs,ex,hx,q⟩=>?_);subst ex;cases r1;refine wpAny_Slice (wpAny_evalPart_none (wpAny_evalPart_none ?_));show Td _ _ (eval st X.env) _ _ _;refine cX (hst π s1 σ H1 (λv H2=>v=.int (-1)/\H2=H1) I1 ⟨rfl,rfl⟩) λvs s3 ⟨u,H3,I3,pu,eu,eh⟩=>?_;subst eu eh;obtain⟨t,rfl⟩:=pu;have I4:Inv X π σ H3 { s3 with heap:=s3.heap.push { cls:=.type "slice",data:=.fields #[.none,.none,.int (-1) t] } }:=I3.kept (t':=s3.toks) λb ob q=>SK _ q;obtain⟨its,r,ht,hz⟩:=I4.tuple hx;have hg:Td (Tb X.prog X.w) X.A (getItem (.ref a) (.ref s3.heap.objs.size)) (EP X π σ Q) X.xe { s3 with heap:=s3.heap.push { cls:=.type "slice",data:=.fields #[.none,.none,.int (-1) t] } }:=by
  refine tI ht (Heap.IsSliceOf.new ..) (by rw[←r.length];exact hz) ?_;refine⟨.ref _,_,I4.laid (t':=s3.toks) (o:=.tup xs.reverse) (λb ob q=>SK _ q) (Tf _) ?_,rfl,q _ (I4.hok.fresh (Tf _))⟩;exact⟨by rw[WC];exact hz,_,bx.rev r,W9 _ _⟩
 exact tail_any (ops:=[.ref a,.ref s3.heap.objs.size]) ht.typeIs slot_tuple_getitem.lookup hg (by with_unfolding_all rfl)
def Ki{p3 p4:Pos}{k:Nat}(ha:DE X E a f):DE X E (.Subscript a (.Slice none none (some (.UnaryOp .USub (.Constant (.int 1) k p3) p4)) p2) pos) (aS f Bd):=by
 refine⟨bc (Iu ha.o λπ s σ H Q I q=>KZ (pos:=p4) DC (nP (i:=1) (j:=k) (pos:=p3)) π s σ H Q I ⟨1,rfl,q⟩) λσ H Q z9=>?_⟩;obtain⟨Ha,ρ,hs,hr,q⟩:=z9;refine⟨Ha,ρ,hs,hr,?_⟩;unfold aS at q;cases e1:f ρ with
 |stuck|exn x=>rw[e1]at q;exact q
 |ok d=>
  rw[e1]at q;intro v H1 H01 g1 r1;cases d with
  |tup ds=>
   obtain⟨b,xs,rfl,h1,h2⟩:=aC.mp r1;refine⟨b,xs,rfl,aD.sqT g1.sub h1,λp hp=>?_⟩;have G:=aI (o:=.tup xs.reverse) g1.sub hp;exact q _ _ _ (g1.trans G) (aC.mpr ⟨p,_,rfl,j7.of az,(Reps.rev h2).mono G.z⟩)
  |_=>exact q.elim
end
def Qu(S:SA->Prop)(H Hf:Hp):Prop:=∀c,((S c/\∃us,H c=some (.lst us))->∃us o,H c=some (.lst us)/\Hf c=some (.frz o (.lst us)))/\(¬(S c/\∃us,H c=some (.lst us))->Hf c=H c)
def MT{P:Tr}{w:TU}{h:S1}{S:SA->Prop}{H:Hp}(ok:gY P w H h):Qu S H (tK h S H):=λc=>
 ⟨λz9=>by
  obtain⟨h1,us,e⟩:=z9;obtain⟨_,its,n,_,eo⟩:=ok c _ e;exact⟨us,_,e,AM h1 e eo⟩,λhc=>jQ hc⟩
def zM{X:Cx}{π:List (SA×Obj)}{σ:List (Option V)}{H:Hp}{s:SI}{S:SA->Prop}(I:Inv X π σ H s):Inv X π σ (tK s.heap S H) s:=by
 have hout:∀c,H c=none->tK s.heap S H c=none:=λc e=>by
  rw[jQ (λz=>by obtain⟨_,us,z⟩:=z;rw[e]at z;cases z)];exact e
 have keep:∀b u,H b=some u->(∀us,u≠.lst us)->tK s.heap S H b=some u:=λb u e n=>by
  rw[jQ (λz=>by obtain⟨_,us,z⟩:=z;rw[e]at z;cases z;exact n us rfl)];exact e
 refine⟨I.ok,I.os,I.bare,⟨I.base.keep,I.base.slot,λb o e n hx=>hout _ (I.base.free b o e n hx),I.base.there,λb xs e=>keep _ _ (I.base.tups b xs e) (λ_ z=>by cases z),λb o u e=>keep _ _ (I.base.frzs b o u e) (λ_ z=>by cases z),λb ps e=>?_⟩,I.loc,I.cell,hout _ I.free,λx c e=>hout _ (I.freeC x c e),λp hp=>?_,Jp I.hok,I.len⟩
 .obtain⟨m,h1⟩:=I.base.tbls b ps e
  exact⟨m,keep _ _ h1 (λ_ z=>by cases z)⟩
 .obtain⟨h1,h2,h3⟩:=I.pin p hp
  exact⟨h1,hout _ h2,h3⟩
def yL{X:Cx}{st:List Ud}{t:TS}(h:ph X st t):ph X st λG σ H=>∃S,∀Hf,Qu S H Hf->t G σ Hf :=
 λπ s σ H G I ⟨S,q⟩=>h π s σ _ G (zM I) (q _ (MT I.hok))
def Dh{X:Cx}{π:List (SA×Obj)}{σ:List (Option V)}{H H2:Hp}{s:SI}(v:Vw (λc=>∀o u,X.Ha c≠some (.frz o u)) H H2)(I:Inv X π σ H s):Inv X π σ H2 s:=by
 refine⟨I.ok,I.os,I.bare,⟨I.base.keep,I.base.slot,λb o e n hx=>v.none (I.base.free b o e n hx),I.base.there,λb xs e=>v.keep (I.base.tups b xs e) (λ_ _ z=>by cases z),λb o u e=>?_,λb ps e=>?_⟩,I.loc,I.cell,v.none I.free,λx c e=>v.none (I.freeC x c e),λp hp=>?_,λa o e=>?_,I.len⟩
 .have h1:=I.base.frzs b o u e
  rcases v b with h|⟨h,_⟩
  .rw[h];exact h1
  .exact absurd e (h o u)
 .obtain⟨m,h1⟩:=I.base.tbls b ps e
  exact⟨m,v.keep h1 (λ_ _ z=>by cases z)⟩
 .obtain⟨h1,h2,h3⟩:=I.pin p hp
  exact⟨h1,v.none h2,h3⟩
 .rcases v a with h|⟨_,ob,u,h,h2⟩
  .rw[h]at e;exact bY.view v (I.hok a o e)
  .rw[h2]at e;obtain rfl:u=o:=T9 e
   obtain⟨_,q⟩:=(show bY X.prog X.w H s.heap a (.frz ob u) from I.hok a _ h)
   exact bY.view v q
def Cf{X:Cx}{st:List Ud}{t:TS}(h:ph X st t):ph X st λG σ H=>∃H2,Vw (λc=>∀o u,X.Ha c≠some (.frz o u)) H H2/\t G σ H2 :=
 λπ s σ H G I ⟨H2,v,q⟩=>h π s σ H2 G (Dh v I) q
structure TP (K:SE) (He Ha:Hp) (σ:L2.St) (H:Hp) (x:Nat) (d:D):Prop where
 p:∃t a0 us0 a1 us1 wr,σ[x]?=some (some (.ref t))/\j7 K H t (.ref a0::.ref a1::wr)/\Rep K (frz He Ha H) d (.ref t)/\H a0=some (.lst us0)/\He a0=none/\Ha a0=none/\H a1=some (.lst us1)/\He a1=none/\Ha a1=none/\us1.length<line
def TP.same{K:SE}{He Ha H H':Hp}{σ:L2.St}{x:Nat}{d:D}(h:TP K He Ha σ H x d)(s:aD H H'):TP K He Ha σ H' x d:=by
 obtain⟨t,a0,us0,a1,us1,wr,h1,h2,h3,h4,h5,h6,h7,h8,h9,hl⟩:=h;exact⟨t,a0,us0,a1,us1,wr,h1,aD.sqT s h2,h3.mono (FN s),s _ _ h4,h5,h6,s _ _ h7,h8,h9,hl⟩
def R6(K:SE)(E:XK)(He η:Hp)(x:Nat)(g:D->bv):TS:=λG σ H=>∃Ha ρ d,eO K He η Ha σ H ρ/\TP K He Ha σ H x d/\bT K E He η Ha (g d ρ) G
structure RY (X:Cx) (E:XK) (He η:Hp) (x:Nat) (st:List Ud) (g:D->bv):Prop where
 o:ph X st (R6 X.K E He η x g)
def Pc(js:cr)(ρ:Ev):Bool:=js.all λj=>match ρ[j]? with
 |some (.sh d)=>fA d
 |_=>true
def Mx(d:D):Bool:=match d with
 |.tup (.ob .pl _::.ob .pl es::_)=>decide (es.length<line)
 |_=>false
section
variable {X:Cx}{E:XK}{He η:Hp}{x:Nat}{st:Ud}{rest:List Ud}{e c:Tn}{pos:Pos}{f:am}{g:D->bv}{s r:bv}
def lD(r:bv):D->bv:=λ_ ρ=>if noO ρ=true then r ρ else .stuck
def DN{y:SH}{k k':Int}{jj jk jn}{p0 p1 p2 p3 p4 p5 q0 q1 q2 q3 q4 q5 q6:Pos}(hk:k=0)(hk':k'=1)(hN:X.N[x]?=some y)(hv:yh X.env.scope y)(hr:wt X E He η rest r)
  (hd:(y==("__debug__" : SH))=false:=by decide)(hcd:(y==("__classdict__" : SH))=false:=by decide)(hix:kF (.Constant (.int k) jj p4):=by exact λ_ _=>rfl)(hix':kF (.Constant (.int k') jk q4):=by exact λ_ _=>rfl)
  (hbase:Ub (.Subscript (.Name y p1) (.Constant (.int k) jj p4) p0) "clear" X.env (eval (.Subscript (.Name y p1) (.Constant (.int k) jj p4) p0) X.env)=eval (.Subscript (.Name y p1) (.Constant (.int k) jj p4) p0) X.env:=by rfl)(hline:(p2.endLine==p3.line)=true:=by rfl)
  (hw:T1 (.Call (.Attribute (.Subscript (.Name y p1) (.Constant (.int k) jj p4) p0) "clear" p2) [] [] p3) none p5.line X.env=pure false:=by rfl)
  (hbase':Ub (.Subscript (.Name y q1) (.Constant (.int k') jk q4) q0) "append" X.env (eval (.Subscript (.Name y q1) (.Constant (.int k') jk q4) q0) X.env)=eval (.Subscript (.Name y q1) (.Constant (.int k') jk q4) q0) X.env:=by rfl)
  (hfew:((TZ q3 (SJ [.Constant .none jn q6] X.env)).all (λx=>!x.1)&&(VB q3 (US [] X.env)).all (λx=>x.1.isSome)
  &&decide ([(.Constant .none jn q6:Tn)].length+([]:List U3).length+(if([]:List U3).isEmpty then 0 else 1)<30))=true:=by exact gO rfl)
  (hline':(q2.endLine==q3.line)=true:=by rfl) (hs:SJ [.Constant .none jn q6] X.env=(false,eval (.Constant .none jn q6) X.env)::SJ [] X.env:=by exact aF rfl) (hplain:(TZ q3 (SJ [] X.env)).any (·.1)=false:=by exact bj rfl)
  (hw':T1 (.Call (.Attribute (.Subscript (.Name y q1) (.Constant (.int k') jk q4) q0) "append" q2) [.Constant .none jn q6] [] q3) none q5.line X.env=pure false:=by rfl) :
  RY X E He η x (.Expr (.Call (.Attribute (.Subscript (.Name y p1) (.Constant (.int k) jj p4) p0) "clear" p2) [] [] p3) p5::.Expr (.Call (.Attribute (.Subscript (.Name y q1) (.Constant (.int k') jk q4) q0) "append" q2) [.Constant .none jn q6] [] q3) q5::rest) (lD r):=by
 refine⟨?_⟩;have h1:=kd (Mq Vd PySem.F.slot_list_clear PySem.F.type_list_clear E7 (w6 zd (gq hN hv hd hcd) nP hix) hbase hline) hw;have h2:=kd (uh Vd Wi Wh lJ (w6 zd (gq hN hv hd hcd) nP hix') (cG (yP (j:=jn) (pos:=q6)) e7 hs) hbase' hfew hline' hs hplain) hw';refine da (cO h1 (cO h2 hr.o)) λG σ H ⟨Ha,ρ,d,h,t,q⟩=>?_;unfold lD at q
 by_cases hn:noO ρ=true
 rotate_left
 .rw[if_neg hn]at q;exact q.elim
 rw[if_pos hn]at q;obtain⟨t,a0,us0,a1,us1,wr,e1,ht,_,c0,n0,m0,c1,n1,m1,hl⟩:=t;refine⟨.ref t,e1,?_⟩;refine⟨t,.ref a0::.ref a1::wr,k,.ref a0,rfl,rfl,ht,by rw[hk];exact cT (j:=0) rfl,.inl ⟨rfl,us0,fM.of c0⟩,a0,us0,rfl,rfl,c0,?_⟩;have htn:j7 X.K (upd H a0 (.lst [])) t (.ref a0::.ref a1::wr):=by
  rcases ht with z|z
  .refine .inl ?_
   rcases z with z|⟨o,z⟩
   .exact .inl (by rw[ax (by intro y;subst y;rw[c0]at z;cases z)];exact z)
   .exact .inr ⟨o,by rw[ax (by intro y;subst y;rw[c0]at z;cases z)];exact z⟩
  .exact .inr z
 obtain⟨us,hu,hul⟩:∃us,upd H a0 (.lst []) a1=some (.lst us)/\us.length<sizeLine:=by
  by_cases c:a1=a0
  .subst c;exact⟨[],az,by decide⟩
  .exact⟨us1,by rw[ax c];exact c1,SU hl (by decide)⟩
 refine⟨.ref t,e1,?_⟩;refine⟨t,.ref a0::.ref a1::wr,k',.ref a1,rfl,rfl,htn,by rw[hk'];exact cT (j:=1) rfl,.inl ⟨rfl,us,fM.of hu⟩,?_⟩;refine⟨a1,us,.non,rfl,rfl,hu,hul,?_⟩;have kp:∀b o,b≠a0->b≠a1->H b=some o->upd (upd H a0 (.lst [])) a1 (.lst (us++[.non])) b=some o:=λb o z0 z1 eb=>by rw[ax z1,ax z0];exact eb
 exact⟨Ha,ρ,h.poke hn (λb o eb=>kp b o (by intro z;subst z;rw[n0]at eb;cases eb) (by intro z;subst z;rw[n1]at eb;cases eb) (h.g.s _ _ eb)) (λb o eb=>kp b o (by intro z;subst z;rw[m0]at eb;cases eb) (by intro z;subst z;rw[m1]at eb;cases eb) (h.g.sub _ _ eb)),q⟩
end
def TP.grow{K:SE}{He Ha H H' Ha':Hp}{σ:L2.St}{x:Nat}{d:D}(h:TP K He Ha σ H x d)(g:bh H Ha H' Ha'):TP K He Ha' σ H' x d:=by
 obtain⟨t,a0,us0,a1,us1,wr,h1,h2,h3,h4,h5,h6,h7,h8,h9,hl⟩:=h;have sF:aD (frz He Ha H) (frz He Ha' H'):=λc o e=>by
  unfold frz at e ⊢;cases q:He c with|none=>rw[q]at e;exact g.s _ _ e|some _=>rw[q]at e;exact g.z _ _ e
 exact⟨t,a0,us0,a1,us1,wr,h1,aD.sqT g.s h2,h3.mono sF,g.s _ _ h4,h5,g.keeps h4 h6,g.s _ _ h7,h8,g.keeps h7 h9,hl⟩
def NW(K:SE)(He Ha:Hp)(σ:L2.St)(H:Hp)(T:List (Nat×D)):Prop:=∀p∈T,TP K He Ha σ H p.1 p.2
def Ed(T:List (Nat×D))(ρ:Ev):Ev:=T.foldl (λr p=>r.set p.1 (.sh p.2)) ρ
def Lz(T:List (Nat×D))(ρ:Ev):Ev:=Ed T (ka ρ)
theorem sN{K:SE}{J:Hp}{σ:L2.St}:∀{T:List (Nat×D)}{r:Ev},ez K J σ r->(∀p∈T,∃v,σ[p.1]?=some (some v)/\Rep K J p.2 v)->ez K J σ (Ed T r)
 |[],r,h,_=>h
 |p::T,r,h,ht=>by
  unfold Ed;rw[List.foldl_cons];refine sN (T:=T) (λi d e=>?_) λq hq=>ht q (SM _ hq)
  by_cases c:p.1=i
  .subst c
   rw[UE]at e;cases q:r[p.1]? with|none=>rw[q]at e;cases e|some s=>rw[q]at e;cases e;exact ht p SQ
  .rw[SO c]at e
   exact h i d e
def NW.looks{K:SE}{He η Ha H:Hp}{σ:L2.St}{ρ:Ev}{T:List (Nat×D)}(t:NW K He Ha σ H T)(h:eO K He η Ha σ H ρ):ez K (frz He Ha H) σ (Lz T ρ) :=
 sN h.looks λp hp=>by
  obtain⟨t,a0,us0,a1,us1,wr,h1,h2,h3,_⟩:=t p hp;exact⟨_,h1,h3⟩
def NW.same{K:SE}{He Ha H H':Hp}{σ:L2.St}{T:List (Nat×D)}(t:NW K He Ha σ H T)(s:aD H H'):NW K He Ha σ H' T:=λp hp=>(t p hp).same s
def QP(K:SE)(E:XK)(He η:Hp)(g:List (Nat×D)->bv):TS:=λG σ H=>∃Ha ρ T,eO K He η Ha σ H ρ/\NW K He Ha σ H T/\bT K E He η Ha (g T ρ) G
structure yj (X:Cx) (E:XK) (He η:Hp) (st:List Ud) (g:List (Nat×D)->bv):Prop where
 o:ph X st (QP X.K E He η g)
section
variable {X:Cx}{E:XK}{He η:Hp}{st:Ud}{rest:List Ud}{e c:Tn}{pos:Pos}{f:am}{g:List (Nat×D)->bv}{s r:bv}
def Kf(h:yj X E He η rest g):wt X E He η rest (g []):=⟨da h.o λG σ H ⟨Ha,ρ,h,q⟩=>⟨Ha,ρ,[],h,(show NW X.K He Ha σ H [] from λp hp=>nomatch hp),q⟩⟩
def BD(f:am)(s:bv)(g:List (Nat×D)->bv):List (Nat×D)->bv:=λT ρ=>(f (Lz T ρ)).bind λb=>match b with
 |.bl true=>(s ρ).bind RP
 |.bl false=>g T ρ
 |_=>.stuck
def Oo{body:List Ud}(hc:DT X E c f)(hb:wt X E He η body s)(hr:yj X E He η rest g):yj X E He η (.If c body [] pos::rest) (BD f s g):=by
 refine⟨?_⟩;refine da (cO (Ai hc.o hb.o kc) hr.o) λG σ H ⟨Ha,ρ,T,h,t,q⟩=>?_;refine⟨frz He Ha H,Lz T ρ,h.frz_le,t.looks h,?_⟩;unfold BD at q;cases e1:f (Lz T ρ) with
 |stuck=>rw[e1]at q;exact q|exn y=>rw[e1]at q;exact λC ox H' Ha' g1 ex=>q C ox H' Ha' (h.frz_grow.trans g1) ex
 |ok y=>
  rw[e1]at q;cases y with
  |bl y=>
   cases y with
   |true=>
    intro H' J g1;show if true=true then _ else _
    rw[if_pos rfl];refine⟨Ha,ρ,h.same g1.s,?_⟩;replace q:bT X.K E He η Ha ((s ρ).bind RP) G:=q;cases e2:s ρ with
    |stuck|exn z=>rw[e2]at q;exact q
    |ok z=>
     rw[e2]at q;cases z with|rt d'=>exact q| _=>exact q.elim
   |false=>
    intro H' J g1;show if false=true then _ else _
    rw[if_neg (by decide)];exact⟨Ha,ρ,T,h.same g1.s,t.same g1.s,q⟩
  |_=>exact q.elim
def tY(i:Nat)(f:am)(g:List (Nat×D)->bv):List (Nat×D)->bv:=λT ρ=>match f ρ with
 |.ok y=>if(T.all λp=>p.1 != i)=true then g T (ρ.set i (.sh y)) else .stuck
 |_=>.stuck
def LD{i:Nat}{y:SH}{pos':Pos}(hN:X.N.Nodup)(hi:X.N[i]?=some y)(hx:zL X.env.scope y)(he:DE X E e f)(hr:yj X E He η rest g)(hs:T1 e (some (.Name y pos')) pos.line X.env=pure false:=by rfl)
  (hf:X.fn y=true∨X.env.scope.names.lookup y=some .local := by first|exact .inl rfl|exact .inr rfl|assumption):yj X E He η (.Assign [.Name y pos'] e pos::rest) (tY i f g):=by
 refine⟨?_⟩;refine da (cO (qO hN hi hx he.o hs hf) hr.o) λG σ H z9=>?_;obtain⟨Ha,ρ,T,h,t,q⟩:=z9;refine⟨Ha,ρ,h.g.sub,h.rd,?_⟩
 unfold tY at q;cases e1:f ρ with
 |stuck|exn z=>rw[e1]at q;exact q.elim
 |ok z=>
  rw[e1]at q;replace q:bT X.K E He η Ha (if(T.all λp=>p.1 != i)=true then g T (ρ.set i (.sh z)) else .stuck) G:=q
  by_cases hT:(T.all λp=>p.1 != i)=true
  rotate_left
  .rw[if_neg hT]at q;exact q.elim
  rw[if_pos hT]at q;intro v H' Ha' g1 rp;refine⟨Ha',ρ.set i (.sh z),T,(h.grow g1).put rp,λp hp=>?_,?_⟩
  .obtain⟨t',a0,us0,a1,us1,wr,h1,h2⟩:=(t p hp).grow g1
   have hne:p.1≠i:=by have:=Tp.mp hT p hp;simpa using this
   exact⟨t',a0,us0,a1,us1,wr,by rw[SO (TF hne)];exact h1,h2⟩
  .cases e2:g T (ρ.set i (.sh z)) with
   |stuck=>rw[e2]at q;exact q
   |exn y=>rw[e2]at q;exact q
   |ok r=>
    rw[e2]at q;cases r with|nx ρ'=>exact λσ2 H2 H02 s2 h2=>q σ2 H2 H02 (g1.z.trans s2) h2|rt d'=>exact q|bk ρ'=>exact λσ2 H2 H02 s2 h2=>q σ2 H2 H02 (g1.z.trans s2) h2|ct ρ'=>exact λσ2 H2 H02 s2 h2=>q σ2 H2 H02 (g1.z.trans s2) h2
noncomputable def nG(x:Nat) (js:cr) (f:am) (g:List (Nat×D)->bv):List (Nat×D)->bv:=λT ρ=>match f (mT js ρ) with
 |.ok d=>if Pc js ρ=true/\Mx d=true/\x<ρ.length/\(T.all λp=>p.1 != x)=true then g (T++[(x,d)]) (ρ.set x .no) else .stuck
 |_=>.stuck
def HJ(js:cr){x:Nat}{y:SH}{pos':Pos}(hN:X.N.Nodup)(hi:X.N[x]?=some y)(hx:zL X.env.scope y)(hE:aD X.Ha He)(he:DE X E e f)(hr:yj X E He η rest g)(hs:T1 e (some (.Name y pos')) pos.line X.env=pure false:=by rfl)
  (hf:X.fn y=true∨X.env.scope.names.lookup y=some .local := by first|exact .inl rfl|exact .inr rfl|assumption):yj X E He η (.Assign [.Name y pos'] e pos::rest) (nG x js f g):=by
 refine⟨?_⟩;refine da (yL (cO (qO hN hi hx he.o hs hf) (Cf hr.o))) λG σ H ⟨Ha,ρ,T,h,t0,q⟩=>?_;unfold nG at q;cases e1:f (mT js ρ) with
 |stuck|exn z=>rw[e1]at q;exact q.elim
 |ok d=>
  rw[e1]at q;replace q:bT X.K E He η Ha (if Pc js ρ=true/\Mx d=true/\x<ρ.length/\(T.all λp=>p.1 != x)=true then g (T++[(x,d)]) (ρ.set x .no) else .stuck) G:=q
  by_cases hc:Pc js ρ=true/\Mx d=true/\x<ρ.length/\(T.all λp=>p.1 != x)=true
  rotate_left
  .rw[if_neg hc]at q;exact q.elim
  rw[if_pos hc]at q;obtain⟨hp,hd,hxl,hT⟩:=hc
  let S:SA->Prop:=λb=>∃j∈js,∃dj v,ρ[j]?=some (.sh dj)/\σ[j]?=some (some v)/\Ft X.K Ha dj v b
  have s0:∀b,S b->Ha b≠none:=λb ⟨_,_,_,_,_,_,hb⟩=>Ft.some_of hb;refine⟨S,λHf hF=>?_⟩;have hfr:RF (rst Ha S) (rst Hf S):=λc=>by
   by_cases sc:S c
   .rw[nO sc,nO sc]
    cases q0:Ha c with
    |none=>exact absurd q0 (s0 c sc)
    |some o=>
     have hH:=h.g.sub _ _ q0
     by_cases hc:S c/\∃us,H c=some (.lst us)
     .obtain⟨us,ob,z,z2⟩:=(hF c).1 hc
      rw[hH]at z;cases z;exact .inr ⟨us,ob,rfl,z2⟩
     .exact .inl (by rw[(hF c).2 hc,hH])
   .left;unfold rst;rw[if_neg sc,if_neg sc]
  have pj:∀j∈js,∀d',ρ[j]?=some (.sh d')->fA d'=true:=λj hj d' ej=>by
   have:=Tp.mp hp j hj;rw[ej]at this;exact this
  refine⟨rst Hf S,mT js ρ,Ei,λi di ei=>?_,?_⟩
  .obtain⟨hj,ei⟩:=Fm ei
   obtain⟨v,h1,h2⟩:=h.rd i di ei;exact⟨v,h1,Rep.frv hfr (pj i hj di ei) (Rep.rst (pj i hj di ei) h2 λb hb=>⟨i,hj,di,v,ei,h1,hb⟩)⟩
  rw[e1];intro v H' Hm g1 rp;have hout:∀c,H c=none->Hf c=none:=λc z=>by rw[(hF c).2 (λy=>by obtain⟨_,us,y⟩:=y;rw[z]at y;cases y)];exact z
  have hin:∀c,Hf c=none->H c=none:=λc z=>by
   by_cases hc:S c/\∃us,H c=some (.lst us)
   .obtain⟨us,ob,z1,z2⟩:=(hF c).1 hc
    rw[z]at z2;cases z2
   .rw[←(hF c).2 hc];exact z
  have vw:∀{J:Hp},(∀c,S c->Hf c≠none->J c=Hf c)->Vw (λc=>∀o u,X.Ha c≠some (.frz o u)) J (pd S H J):=λ{J} hJ c=>by
   by_cases hc:S c/\∃us,H c=some (.lst us)
   .obtain⟨us,ob,z1,z2⟩:=(hF c).1 hc
    refine .inr ⟨λo u z=>?_,ob,.lst us,by rw[hJ c hc.1 (by rw[z2];simp)];exact z2,by rw[nq hc];exact z1⟩;have:=h.g.s _ _ (hE _ _ z);rw[z1]at this;cases this
   .exact .inl (jW hc)
  have sH:aD H (pd S H H'):=λc o z=>by
   by_cases hc:S c/\∃us,H c=some (.lst us)
   .rw[nq hc];exact z
   .rw[jW hc];exact g1.s _ _ (by rw[(hF c).2 hc];exact z)
  have nopl:∀c us,Hm c=some (.lst us)->H c=none/\H' c=some (.lst us):=λc us z=>by
   refine⟨?_,g1.sub _ _ z⟩;cases q0:rst Hf S c with
   |none=>exact hin _ (g1.nw c (by rw[z];simp) q0)
   |some o=>
    exfalso;have y:=g1.z _ _ q0;rw[z]at y;cases y;have sc:S c:=Ab (by rw[q0];simp);rw[nO sc]at q0
    by_cases hc:S c/\∃us,H c=some (.lst us)
    .obtain⟨us',ob,z1,z2⟩:=(hF c).1 hc
     rw[z2]at q0;cases q0
    .exact hc ⟨sc,us,by rw[←(hF c).2 hc];exact q0⟩
  have hback:∀{c:SA},H c=none->∀{J:Hp},pd S H J c=J c:=λ{c} z {J}=>jW (λ⟨_,us,y⟩=>by rw[z]at y;cases y);have h1:=(h.same sH).dropT (i:=x) (v:=v);have hJm:∀c,S c->Hf c≠none->Hm c=Hf c:=λc sc n=>by
   cases q0:Hf c with|none=>exact absurd q0 n|some o=>exact g1.z _ _ (by rw[nO sc];exact q0)
  have hJ':∀c,S c->Hf c≠none->H' c=Hf c:=λc sc n=>by
   cases q0:Hf c with|none=>exact absurd q0 n|some o=>exact g1.s _ _ q0
  have sF:aD (pd S H Hm) (frz He Ha (pd S H H')):=λc o z=>by
   unfold frz
   by_cases hc:S c/\∃us,H c=some (.lst us)
   .rw[nq hc]at z
    cases q1:He c with
    |none=>simp only;rw[nq hc];exact z
    |some o1=>
     simp only;cases q2:Ha c with|none=>exact absurd q2 (s0 c hc.1)|some o2=>rw[←z];exact(h.g.sub _ _ q2).symm
   .rw[jW hc]at z
    cases q1:He c with
    |none=>simp only;rw[jW hc];exact g1.sub _ _ z
    |some o1=>
     simp only;have hH:=h.g.s _ _ q1;cases q2:rst Hf S c with
     |none=>
      have:=hin _ (g1.nw c (by rw[z];simp) q2);rw[hH]at this;cases this
     |some o2=>
      have y:=g1.z _ _ q2;rw[z]at y;cases y;have sc:S c:=Ab (by rw[q2];simp);rw[nO sc,(hF c).2 hc]at q2;cases q3:Ha c with|none=>exact absurd q3 (s0 c sc)|some o3=>rw[←q2];exact(h.g.sub _ _ q3).symm
  have rp2:=(rp.view (vw hJm)).mono sF;unfold Mx at hd;split at hd
  rotate_left
  .cases hd
  rename_i es0 es dr;have hl:es.length<line:=by simpa using hd
  obtain⟨t,ws,rfl,ht,hw⟩:=aC.mp rp;obtain⟨v0,_,rfl,r0,hw⟩:=aA.mp hw;obtain⟨v1,wr,rfl,r1,hw⟩:=aA.mp hw;obtain⟨a0,us0,rfl,c0,_⟩:=bO.mp r0;obtain⟨a1,us1,rfl,c1,rs1⟩:=bO.mp r1;have k0:=nopl a0 us0 c0;have k1:=nopl a1 us1 c1;refine⟨pd S H H',vw hJ',Ha,ρ.set x .no,_,h1,λp hp=>?_,q⟩;rcases TX.mp hp with hp|hp
  .obtain⟨t',b0,vs0,b1,vs1,wr',z1,z2⟩:=(t0 p hp).same sH
   have hne:p.1≠x:=by have:=Tp.mp hT p hp;simpa using this
   exact⟨t',b0,vs0,b1,vs1,wr',by rw[SO (TF hne)];exact z1,z2⟩
  .rw[TC.mp hp]
   refine⟨t,a0,us0,a1,us1,wr,by rw[TM (by rw[←h.ln];exact hxl)],?_,rp2,?_,h.g.s.free k0.1,h.g.sub.free k0.1,?_,h.g.s.free k1.1,h.g.sub.free k1.1,by rw[←rs1.length];exact hl⟩
   .refine ht.imp (λz=>?_) id
    exact(vw hJ').rd (aD.rd g1.sub z) (λ_ _ z=>by cases z)
   .rw[hback k0.1];exact k0.2
   .rw[hback k1.1];exact k1.2
end
end DL
namespace DL
open PySem PySem.Spec PyProof.Rows L2 PySem.W
noncomputable abbrev XQ(K:Frag) (q:SH) (C CE f:SA) (s:Ud) (ks:ci):Prop :=
 ∃(oc kV doc pm cd ct:Sy) (od an:Option SA) (sl:Array (Option Sy)) (nm qn:SH) (n:SA) (bs su:List Sy) (hq ab:Bool) (sn:ci) (col:Option Bool) (dd dn:Option SA) (k0 k1 k2 k3 k5:Option Sy) (cn:Sy) (es:Array Xb) (ep:Nat) (st:Array (Option Sy)),
  K.lookup C=some (excClassObj nm qn C n bs [.ref CE,.type "ValueError",.type "Exception",.type "BaseException",.type "object"] hq sn su ab col dd k0 k1 k2 k3 k5 "ValueError.__new__")/\K.lookup n=some ⟨cn,dn,.dict es ep,st⟩/\es.toList.all K2=true/\nsIn K n "__init__"=some (some (.ref f)) /\
  isFn K (.ref f)=true/\K.lookup f=some ⟨oc,od,.func (fnOf "__init__" q (defArgs s) (defBody s) (defScope s) .none kV doc pm an cd ct),sl⟩/\codeIn K cd q=true/\keepIn K (.ref f)=true /\
  findIn K (.ref C) "__setattr__"=some (some (.builtin "object.__setattr__"))/\hasDictIn K C=true/\∀g∈ks,dZ K C g
structure RB (K:Frag) (q:SH) (C f:SA) (fd:TQ) (s:Ud) (ps ks:ci):Prop where
 Fi:Bp K "__init__" q s f fd
 bi:gb K fd ps []
 xi:Lk K C f
 xs:GP K C ks
 xf:isFn K (.ref f)=true
def RI{K:Frag}{q:SH}{C CE f:SA}{s:Ud}{ps ks:ci}(hb:∀{fd},Bp K "__init__" q s f fd->gb K fd ps [])(x:XQ K q C CE f s ks)
  (be:excIn K CE [.type "ValueError",.type "Exception",.type "BaseException",.type "object"] "ValueError.__new__"=true):∃fd,RB K q C f fd s ps ks:=by
 obtain⟨_,_,_,_,_,_,_,_,_,_,_,_,_,_,_,_,_,_,_,_,_,_,_,_,_,_,_,_,_,a,b,c,d,e,g,h,i,j,k,l⟩:=x;have F:=rq g h i;have I:=Lu a b c d be;exact⟨_,F,hb F,I,Lr I j k l,e⟩
def Sb(K:Frag)(r:SA):List SA->List Bool->Prop
 |[],_=>True
 |_,[]=>False
 |c::cs,b::bs=>subIn K (.ref r) (.ref c)=some b/\Sb K r cs bs
def sb_c{K:Frag}{r c:SA}{b:Bool}{cs:List SA}{bs:List Bool}(h:subIn K (.ref r) (.ref c)=some b)(h':Sb K r cs bs):Sb K r (c::cs) (b::bs):=⟨h,h'⟩
theorem Ee{K:Frag}{r c:SA}:∀{cs:List SA}{bs:List Bool},Sb K r cs bs->∀n:Nat,cs[n]?=some c->subIn K (.ref r) (.ref c)=some (bs.getD n false)
 |[],_,_,_,e=>by cases e
 |_::_,[],h,_,_=>h.elim
 |_::_,_::_,h,0,e=>by cases e;exact h.1
 |_::_,_::_,h,n+1,e=>Ee h.2 n e
structure Rz (K:Frag) (x:SH) (r:SA) (cs:List SA) (bs:List Bool):Prop where
 xc:XC K x r
 self:subIn K (.ref r) (.ref r)=some true
 ve:subIn K (.ref r) (.type "ValueError")=some true
 sb:Sb K r cs bs
def GQ(K:Frag)(cs:List SA)(l:List (SH×SA×List Bool)):Prop:=∀q∈l,Rz K q.1 q.2.1 cs q.2.2
def Ls{K:Frag}{cs:List SA}:GQ K cs []:=λ_ h=>nomatch h
def Od{K:Frag}{cs:List SA}{l:List (SH×SA×List Bool)}{x:SH}{r:SA}{bs:List Bool}(z:Rz K x r cs bs)(h:GQ K cs l):GQ K cs ((x,r,bs)::l):=λq hq=>by
 rcases SV.mp hq with rfl|hq
 .exact z
 .exact h q hq
def R0{K:Frag}{cs:List SA}{l:List (SH×SA×List Bool)}{x:SH}{r:SA}{bs:List Bool}(z:yg K x r)(p:Sb K r cs bs)(h:GQ K cs l):GQ K cs ((x,r,bs)::l):=Od ⟨z.xcls.xc,z.self,z.ve,p⟩ h
def RH{K:Frag}{cs:List SA}{l:List (SH×SA×List Bool)}{x:SH}{r:SA}{bs:List Bool}(z:sL K x r)(p:Sb K r cs bs)(h:GQ K cs l):GQ K cs ((x,r,bs)::l):=Od ⟨z.xc,z.self,z.ve,p⟩ h
def Ac{K:Frag}{cs:List SA}{l:List (SH×SA×List Bool)}(h:GQ K cs l)(g:List Bool->Bool){p:SA->Bool->Prop}(hp:∀{x r bs},Rz K x r cs bs->p r (g bs)):∀q∈l.map λq=>(q.1,g q.2.2),∃C,XC K q.1 C/\p C q.2:=λq hq=>by
 obtain⟨y,hy,rfl⟩:=Tt.mp hq;exact⟨_,(h y hy).xc,hp (h y hy)⟩
def FC{K:Frag}{cs:List SA}{l:List (SH×SA×List Bool)}{x:SH}{C:SA}{l':List (SH×Bool)}(h:GQ K cs l)(z:lu K x C)(n:Nat)(hc:cs[n]?=some C)(hl:l'=l.map λq=>(q.1,q.2.2.getD n false)):∀x D,gN l' x=true->XC K x D->exmOne K (.ref D) (.ref C)=some true :=
 FD (hl▸Ac h (·.getD n false) (p:=λr b=>exmOne K (.ref r) (.ref C)=some b) λy=>z.exm (Ee y.sb n hc))
def LM{K:Frag}{cs:List SA}{l:List (SH×SA×List Bool)}{x:SH}{C:SA}{t:SH->Option Bool}(h:GQ K cs l)(z:lu K x C)(n:Nat)(hc:cs[n]?=some C)(hl:t=oF (l.map λq=>(q.1,q.2.2.getD n false))):yi K t (.ref C) :=
 hl▸lF (p:=λ_ r b=>kitOne K (.ref r) (.ref C)=some b) (Ac h (·.getD n false) (p:=λr b=>kitOne K (.ref r) (.ref C)=some b) λy=>z.kit y.self (Ee y.sb n hc))
end DL
namespace DL
open PySem PySem.Spec PyProof.Rows L2
def fgtE(ρ:Ev):Ev:=ρ.map λs=>match s with
 |.sh d=>.sh (fgt d)
 |x=>x
def ez.fgtE{K:SE}{Ha:Hp}{σ:L2.St}{ρ:Ev}(h:ez K Ha σ ρ):ez K Ha σ (fgtE ρ):=λi d e=>by
 unfold DL.fgtE at e;rw[Ta]at e;cases q:ρ[i]? with
 |none=>rw[q]at e;cases e
 |some s=>
  rw[q]at e;cases s with
  |sh d'=>
   cases e;obtain⟨v,h1,h2⟩:=h i d' q;exact⟨v,h1,h2.fgt⟩
  |_=>cases e
def LJ(x y:Nat)(ρ:Ev)(g:List (Nat×D)->bv)(d:D)(s:SH):ak Fl :=
 if Mx d=true then g [(x,d)] ((ρ.set x .no).set y (.sh (.str s))) else match d with
  |.non=>g [] ((ρ.set x (.sh .non)).set y (.sh (.str s)))
  |_=>.stuck
def Q5(x y:Nat)(js:cr)(f:am)(g:List (Nat×D)->bv):bv:=λρ=>match f (mT js (fgtE ρ)) with
 |.ok (.tup [d,.str s])=>if Pc js (fgtE ρ)=true/\x<ρ.length/\x≠y then LJ x y ρ g d s else .stuck
 |_=>.stuck
section
variable {X:Cx}{E:XK}{He η:Hp}{rest:List Ud}{e:Tn}{es:List Tn}{pos:Pos}{f:am}{g:List (Nat×D)->bv}
def tZ(x:Nat)(g:D->bv):List (Nat×D)->bv:=λT ρ=>match T with
 |[(x',d)]=>if x'=x then g d ρ else .stuck
 |_=>.stuck
def LF{x:Nat}{gd:D->bv}(h:RY X E He η x rest gd):yj X E He η rest (tZ x gd):=⟨da h.o λG σ H z9=>by
 obtain⟨Ha,ρ,T,h',t,q⟩:=z9;unfold tZ at q;split at q
 .rename_i x' d
  by_cases c:x'=x
  .subst c
   rw[if_pos rfl]at q;exact⟨Ha,ρ,d,h',t _ SQ,q⟩
  .rw[if_neg c]at q;exact q.elim
 .exact q.elim⟩
end
structure S3 where
 p:ac
 t:ac
 e:ac
def S3.at(s:S3):Nat->ac
 |0=>s.p
 |1=>s.t
 |_=>s.e
def S3.add(s:S3)(k:Nat)(d:D):S3:=match k with
 |0=>⟨s.p++[d],s.t,s.e⟩
 |1=>⟨s.p,s.t++[d],s.e⟩
 |_=>⟨s.p,s.t,s.e++[d]⟩
def Dd{s:S3}{k j:Nat}{d:D}(hk:k<3)(hj:j<3):(s.add k d).at j=if j=k then s.at k++[d] else s.at j:=by
 rcases(show k=0∨k=1∨k=2 by omega) with rfl|rfl|rfl<;>rcases(show j=0∨j=1∨j=2 by omega) with rfl|rfl|rfl<;>rfl
inductive Hk where
 |ins (c:SH) (ks:ci)|tup
def sR(K:SE)(H:Hp):Hk->SA->al->Prop
 |.ins c ks,a,vs=>tR K H (.ins c ks) a vs
 |.tup,a,vs=>j7 K H a vs
def iJ:Hk->S3->D
 |.ins c ks,s=>.ob (.ins c ks) [.lst s.p,.lst s.t,.lst s.e]
 |.tup,s=>.tup [.lst s.p,.lst s.t,.lst s.e]
theorem sR.mono{K:SE}{H H':Hp}(e:aD H H'):∀{h:Hk}{a:SA}{vs:al},sR K H h a vs->sR K H' h a vs
 |.ins c ks,a,vs,h=>tR.mono (k:=.ins c ks) e h
 |.tup,a,vs,h=>aD.sqT e h
def FE(He:Hp)(q:Nat->SA)(vs:Nat->al):Hp:=λc=>if c=q 0 then some (.lst (vs 0)) else if c=q 1 then some (.lst (vs 1)) else if c=q 2 then some (.lst (vs 2)) else He c
def G5(q:Nat->SA)(H:Hp):Hp:=λc=>if c=q 0∨c=q 1∨c=q 2 then none else H c
structure zN (q:Nat->SA):Prop where
 a:q 0≠q 1
 b:q 0≠q 2
 c:q 1≠q 2
def k3{k:Nat}(h:k<3):k=0∨k=1∨k=2:=by omega
section
variable {He:Hp}{q:Nat->SA}{vs:Nat->al}
def nV(j:zN q){k:Nat}(h:k<3):FE He q vs (q k)=some (.lst (vs k)):=by
 unfold FE;rcases k3 h with rfl|rfl|rfl
 .rw[if_pos rfl]
 .rw[if_neg (TF j.a),if_pos rfl]
 .rw[if_neg (TF j.b),if_neg (TF j.c),if_pos rfl]
def ko{c:SA}(h:∀k,k<3->c≠q k):FE He q vs c=He c:=by
 unfold FE;rw[if_neg (h 0 (by decide)),if_neg (h 1 (by decide)),if_neg (h 2 (by decide))]
def vQ{H:Hp}{c:SA}(h:∀k,k<3->c≠q k):G5 q H c=H c:=by
 unfold G5;exact if_neg (λz=>by rcases z with z|z|z;exact h 0 (by decide) z;exact h 1 (by decide) z;exact h 2 (by decide) z)
def Nx{H:Hp}{k:Nat}(h:k<3):G5 q H (q k)=none:=by
 unfold G5;exact if_pos (by rcases k3 h with rfl|rfl|rfl<;>simp)
def La(q:Nat->SA)(c:SA):(∃k,k<3/\c=q k)∨∀k,k<3->c≠q k:=by
 by_cases h0:c=q 0
 .exact .inl ⟨0,by decide,h0⟩
 by_cases h1:c=q 1
 .exact .inl ⟨1,by decide,h1⟩
 by_cases h2:c=q 2
 .exact .inl ⟨2,by decide,h2⟩
 refine .inr λk hk=>?_;rcases k3 hk with rfl|rfl|rfl<;>assumption
def xG(j:zN q){c:SA}(h:FE He q vs c=none):He c=none/\∀k,k<3->c≠q k:=by
 rcases La q c with⟨k,hk,rfl⟩|h'
 .rw[nV j hk]at h;cases h
 .rw[ko h']at h;exact⟨h,h'⟩
def FG(hn:∀k,k<3->He (q k)=none):aD He (FE He q vs):=λc o e=>by
 rcases La q c with⟨k,hk,rfl⟩|h'
 .rw[hn k hk]at e;cases e
 .rw[ko h'];exact e
end
structure JX (K:SE) (He η Ha:Hp) (σ:L2.St) (H:Hp) (ρ:Ev) (h:Hk) (a:SA) (q:Nat->SA) (st:S3) (vs:Nat->al):Prop where
 j:zN q
 hn:∀k,k<3->He (q k)=none/\η (q k)=none
 kr:sR K Ha h a [.ref (q 0),.ref (q 1),.ref (q 2)]
 r:∀k,k<3->Reps K Ha (st.at k) (vs k)
 s:eO K (FE He q vs) η Ha σ H ρ
section
variable {K:SE}{He η Ha H H' Ha':Hp}{σ σ':L2.St}{ρ ρ':Ev}{h:Hk}{a:SA}{q:Nat->SA}{st st':S3}{vs us:Nat->al}
def JX.hl(x:JX K He η Ha σ H ρ h a q st vs){k:Nat}(hk:k<3):H (q k)=some (.lst (vs k)):=x.s.g.s _ _ (nV x.j hk)
def JX.n0(x:JX K He η Ha σ H ρ h a q st vs){k:Nat}(hk:k<3):Ha (q k)=none:=by
 cases e:Ha (q k) with
 |none=>rfl
 |some o=>
  have:=x.s.g.nw (q k) (by rw[e];simp) (x.hn k hk).2;rw[nV x.j hk]at this;cases this
def JX.back(x:JX K He η Ha σ H ρ h a q st vs)(z:aD Ha Ha')(s':eO K (FE He q vs) η Ha' σ' H' ρ'):JX K He η Ha' σ' H' ρ' h a q st vs :=
 ⟨x.j,x.hn,x.kr.mono z,λk hk=>(x.r k hk).mono z,s'⟩
def JX.same(x:JX K He η Ha σ H ρ h a q st vs)(s:aD H H'):JX K He η Ha σ H' ρ h a q st vs:=x.back (aD.refl _) (x.s.same s)
def JX.frz_sub(x:JX K He η Ha σ H ρ h a q st vs):aD Ha (frz He Ha H):=λb o e=>by
 unfold frz;cases q:He b with|none=>exact x.s.g.sub _ _ e|some _=>exact e
def JX.frz_le(x:JX K He η Ha σ H ρ h a q st vs):aD (frz He Ha H) H:=λb o e=>by
 unfold frz at e;cases q:He b with|none=>rw[q]at e;exact e|some _=>rw[q]at e;exact x.s.g.sub _ _ e
def JX.he(x:JX K He η Ha σ H ρ h a q st vs):aD He H:=(FG λk hk=>(x.hn k hk).1).trans x.s.g.s
def JX.g0(x:JX K He η Ha σ H ρ h a q st vs):bh He η H Ha:=⟨x.he,x.s.g.z,x.s.g.sub,λb h1 h2=>(xG x.j (x.s.g.nw b h1 h2)).1⟩
theorem JX.frz_grow(x:JX K He η Ha σ H ρ h a q st vs):bh He η H (frz He Ha H) :=
 ⟨x.he,x.s.g.z.trans x.frz_sub,x.frz_le,λb h1 h2=>by
  cases q:He b with
  |none=>rfl
  |some o=>
   unfold frz at h1;rw[q]at h1;have:=x.g0.nw b h1 h2;rw[q]at this;cases this⟩
def JX.rep(x:JX K He η Ha σ H ρ h a q st vs):Rep K (frz He Ha H) (iJ h st) (.ref a):=by
 have e:∀k,k<3->Rep K (frz He Ha H) (.lst (st.at k)) (.ref (q k)):=λk hk=>aB.mpr ⟨q k,vs k,rfl,fM.of (by unfold frz;rw[(x.hn k hk).1];exact x.hl hk),(x.r k hk).mono x.frz_sub⟩;have rs:Reps K (frz He Ha H) [.lst st.p,.lst st.t,.lst st.e] [.ref (q 0),.ref (q 1),.ref (q 2)]:=Reps.cons (e 0 (by decide)) (Reps.cons (e 1 (by decide)) (Reps.cons (e 2 (by decide)) Reps.nil));have kr:=x.kr.mono x.frz_sub;cases h with|ins c ks=>exact bO.mpr ⟨a,_,rfl,kr,rs⟩|tup=>exact aC.mpr ⟨a,_,rfl,kr,rs⟩
def AB(h:Hk)(i:Nat)(ρ:Ev)(st:S3):Ev:=(ka ρ).set i (.sh (iJ h st))
def JX.looks(x:JX K He η Ha σ H ρ h a q st vs){i:Nat}(hp:km ρ[i]? a=true)(n:noO ρ=true):ez K (frz He Ha H) σ (AB h i ρ st):=λj d e=>by
 unfold AB at e
 by_cases c:i=j
 .subst c
  rw[UE]at e;cases q:(ka ρ)[i]? with|none=>rw[q]at e;cases e|some s=>rw[q]at e;cases e;exact⟨_,x.s.ex.2 i a (qe hp),x.rep⟩
 .rw[SO c]at e
  unfold ka at e;rw[Ta]at e;cases q:ρ[j]? with
  |none=>rw[q]at e;cases e
  |some s=>
   rw[q]at e;cases s with
   |no|pt a=>cases e
   |sh d'=>
    cases e;obtain⟨v,h1,h2⟩:=x.s.rd j d q;exact⟨v,h1,h2.mono x.frz_sub⟩
   |ow d'=>exact(noO.ow n q).elim|ox _ _=>exact(noO.ox n q).elim
def JX.change(x:JX K He η Ha σ H ρ h a q st vs)(n:noO ρ=true)(s:∀b o,(∀k,k<3->b≠q k)->H b=some o->H' b=some o)(z:aD Ha Ha')(sub:aD Ha' H')(nw:∀b,Ha' b≠none->Ha b=none->He b=none)(n':∀k,k<3->Ha' (q k)=none)(hl:∀k,k<3->H' (q k)=some (.lst (us k)))(r:∀k,k<3->Reps K Ha' (st'.at k) (us k)):JX K He η Ha' σ H' ρ h a q st' us:=by
 refine⟨x.j,x.hn,x.kr.mono z,r,⟨⟨λb o e=>?_,x.s.g.z.trans z,sub,λb h1 h2=>?_⟩,x.s.rd.mono z,λi d e=>(noO.ow n e).elim,λi j d d' _ e=>(noO.ow n e).elim,x.s.ln,⟨λi j ds e=>(noO.ox n e).elim,x.s.ex.2⟩⟩⟩
 .rcases La q b with⟨k,hk,rfl⟩|hb
  .rw[nV x.j hk]at e;cases e;exact hl k hk
  .rw[ko hb]at e
   exact s _ _ hb (x.he _ _ e)
 .rcases La q b with⟨k,hk,rfl⟩|hb
  .exact absurd (n' k hk) h1
  .rw[ko hb]
   cases q2:Ha b with|some u=>exact x.g0.nw b (by rw[q2];simp) h2|none=>exact nw b h1 q2
def JX.changeG(x:JX K He η Ha σ H ρ h a q st vs)(n:noO ρ=true)(g:bh (G5 q H) Ha H' Ha')(n':∀k,k<3->Ha' (q k)=none)(hl:∀k,k<3->H' (q k)=some (.lst (us k)))(r:∀k,k<3->Reps K Ha' (st'.at k) (us k)):JX K He η Ha' σ H' ρ h a q st' us:=by
 refine x.change n (λb o hb e=>g.s _ _ (by rw[vQ hb];exact e)) g.z g.sub (λb h1 h2=>?_) n' hl r;rcases La q b with⟨k,hk,rfl⟩|hb
 .exact absurd (n' k hk) h1
 .have:=g.nw b h1 h2
  rw[vQ hb]at this;exact x.he.free this
end
inductive gf where
 |nx (ρ:Ev) (st:S3)|rt (d:D) (st:S3)|fr (d:D)
structure Qs (K:SE) (He η Ha H:Hp) (q:Nat->SA) (st:S3):Prop where
 g:bh He η H Ha
 n:∀k,k<3->Ha (q k)=none
 l:∀k,k<3->∃us,H (q k)=some (.lst us)/\Reps K Ha (st.at k) us
noncomputable def jI(K:SE) (E:XK) (He η:Hp) (h:Hk) (a:SA) (q:Nat->SA) (Ha:Hp) (r:ak gf) (G:gV):Prop:=match r with
 |.ok (.nx ρ st)=>∀σ H Ha' vs,aD Ha Ha'->JX K He η Ha' σ H ρ h a q st vs->G.nx σ H
 |.ok (.rt d st)=>∀v H Ha',aD Ha Ha'->Qs K He η Ha' H q st->Rep K Ha' d v->G.rt v H
 |.ok (.fr d)=>∀v H Ha',bh He η H Ha'->Rep K Ha' d v->G.rt v H
 |.exn x=>∀C ox H Ha',bh He η H Ha'->wq K Ha' x C ox->E C ox H
 |.stuck=>False
def jI.grow{K:SE}{E:XK}{He η Ha Hb:Hp}{h:Hk}{a:SA}{q:Nat->SA}{r:ak gf}{G:gV}(x:jI K E He η h a q Ha r G)(s:aD Ha Hb):jI K E He η h a q Hb r G:=by
 cases r with
 |ok f=>
  cases f with|nx ρ st=>exact λσ H Ha' vs s'=>x σ H Ha' vs (s.trans s')|rt d st=>exact λv H Ha' s'=>x v H Ha' (s.trans s')|fr d=>exact x
 |exn y=>exact x
 |stuck=>exact x
def tJ(K:SE)(E:XK)(He η:Hp)(h:Hk)(a:SA)(q:Nat->SA)(g:Ev->S3->ak gf):TS:=λG σ H=>∃Ha ρ st vs,JX K He η Ha σ H ρ h a q st vs/\jI K E He η h a q Ha (g ρ st) G
structure JS (X:Cx) (E:XK) (He η:Hp) (h:Hk) (a:SA) (q:Nat->SA) (st:Ud) (g:Ev->S3->ak gf):Prop where
 o:PS X st (tJ X.K E He η h a q g)
structure Hc (X:Cx) (E:XK) (He η:Hp) (h:Hk) (a:SA) (q:Nat->SA) (st:List Ud) (g:Ev->S3->ak gf):Prop where
 o:ph X st (tJ X.K E He η h a q g)
section
variable {X:Cx}{E:XK}{He η:Hp}{h:Hk}{a:SA}{q:Nat->SA}{st:Ud}{rest b1 b2:List Ud}{c e:Tn}{pos:Pos}{f:am}{s t u:Ev->S3->ak gf}
def cu:Ev->S3->ak gf:=λρ st=>.ok (.nx ρ st)
def rk(t:Ev->S3->ak gf)(r:gf):ak gf:=match r with
 |.nx ρ st=>t ρ st
 |r=>.ok r
def cZ(s t:Ev->S3->ak gf):Ev->S3->ak gf:=λρ st=>(s ρ st).bind (rk t)
def cw:Hc X E He η h a q [] cu:=⟨da kc λG σ H ⟨Ha,ρ,st,vs,x,r⟩=>r σ H Ha vs (aD.refl _) x⟩
def bu(h1:JS X E He η h a q st s)(h2:Hc X E He η h a q rest t):Hc X E He η h a q (st::rest) (cZ s t):=by
 refine⟨?_⟩;refine da (cO h1.o h2.o) ?_;rintro G σ H ⟨Ha,ρ,st,vs,x,r⟩;refine⟨Ha,ρ,st,vs,x,?_⟩;unfold cZ at r;generalize s ρ st=z at r;cases z with
 |stuck|exn y=>exact r
 |ok y=>
  cases y with|nx ρ' st'=>exact λσ' H' Ha' vs' s' x'=>⟨Ha',ρ',st',vs',x',jI.grow (r:=t ρ' st') r s'⟩|rt d st'|fr d=>exact r
def zb(st:S3)(r:Fl):ak gf:=match r with
 |.nx ρ=>.ok (.nx ρ st)
 |_=>.stuck
def mi(g:bv):Ev->S3->ak gf:=λρ st=>(g ρ).bind (zb st)
def vG{g:bv}(y:∀He',DS X E He' η st g):JS X E He η h a q st (mi g):=by
 refine⟨?_⟩;rintro π sh σ H D I ⟨Ha,ρ,st,vs,x,r⟩;refine(y (FE He q vs)).o π sh σ H D I ⟨Ha,ρ,x.s,?_⟩;unfold mi at r;generalize g ρ=z at r;cases z with
 |stuck=>exact r|exn y=>exact λC ox H Ha' g=>r C ox H Ha' ⟨(FG λk hk=>(x.hn k hk).1).trans g.s,g.z,g.sub,λb n1 n2=>(xG x.j (g.nw b n1 n2)).1⟩
 |ok y=>
  cases y with|nx ρ'=>exact λσ' H' Ha' z x'=>r σ' H' Ha' vs z (x.back z x')|rt d|bk ρ'|ct ρ'=>exact r.elim
end
section
variable {K:SE}{He η Ha H H' Ha':Hp}{σ:L2.St}{ρ:Ev}{h:Hk}{a:SA}{q:Nat->SA}{st:S3}{vs:Nat->al}
def JX.grow(x:JX K He η Ha σ H ρ h a q st vs)(g:bh H Ha H' Ha'):JX K He η Ha' σ H' ρ h a q st vs:=x.back g.z (x.s.grow g)
def JX.out(x:JX K He η Ha σ H ρ h a q st vs):Qs K He η Ha H q st:=⟨x.g0,λk hk=>x.n0 hk,λk hk=>⟨vs k,x.hl hk,x.r k hk⟩⟩
end
section
variable {X:Cx}{E:XK}{He η:Hp}{h:Hk}{a:SA}{q:Nat->SA}{st:Ud}{rest b1 b2:List Ud}{c e:Tn}{es:List Tn}{pos:Pos}{f:am}{fa:Ev->ak (ac)}{s t u:Ev->S3->ak gf}
def pC(f:am):Ev->S3->ak gf:=λρ st=>(f ρ).bind λd=>.ok (.rt d st)
def kl(he:DE X E e f):JS X E He η h a q (.Return (some e) pos) (pC f):=by
 refine⟨?_⟩;refine cf (qP he.o) ?_;rintro G σ H ⟨Ha,ρ,st,vs,x,r⟩;refine⟨Ha,ρ,x.s.g.sub,x.s.rd,?_⟩;unfold pC at r;generalize f ρ=z at r;cases z with|stuck=>exact r|exn y=>exact λC ox H' Ha' g ex=>r C ox H' Ha' (x.g0.trans g) ex|ok d=>exact λv H' Ha' g rp=>r v H' Ha' g.z (x.grow g).out rp
def wm(h:Hk)(i:Nat)(a:SA)(f:am)(s t:Ev->S3->ak gf):Ev->S3->ak gf:=λρ st=>if km ρ[i]? a=true/\noO ρ=true then(f (AB h i ρ st)).bind λd=>match d with
 |.bl true=>s ρ st
 |.bl false=>t ρ st
 |_=>.stuck
 else .stuck
def mh{i:Nat}(hc:DT X E c f)(h1:Hc X E He η h a q b1 s)(h2:Hc X E He η h a q b2 t):JS X E He η h a q (.If c b1 b2 pos) (wm h i a f s t):=by
 refine⟨?_⟩;refine cf (Ai hc.o h1.o h2.o) ?_;rintro G σ H ⟨Ha,ρ,st,vs,x,r⟩;unfold wm at r
 by_cases hp:km ρ[i]? a=true/\noO ρ=true
 rotate_left
 .rw[if_neg hp]at r;exact r.elim
 rw[if_pos hp]at r;refine⟨frz He Ha H,AB h i ρ st,x.frz_le,x.looks hp.1 hp.2,?_⟩;generalize f (AB h i ρ st)=z at r;cases z with
 |stuck=>exact r|exn y=>exact λC ox H' Ha' g ex=>r C ox H' Ha' (x.frz_grow.trans g) ex
 |ok d=>
  cases d with
  |bl d=>
   intro H' J g;cases d with|true|false=>exact⟨Ha,ρ,st,vs,x.same g.s,r⟩
  |_=>exact r.elim
structure JB (X:Cx) (h:Hk) (a:SA) (q:Nat->SA) (i:Nat) (b:Tn) (k:Nat):Prop where
 o:PE X b λσ H Q=>σ[i]?=some (some (.ref a))/\sR X.K H h a [.ref (q 0),.ref (q 1),.ref (q 2)]/\Q (.ref (q k)) H
 k:k<3
def mz{i k:Nat}{y fl cn:SH}{ks:ci}{p0 p1}(hf:ks[k]?=some fl)(hnd:ks.Nodup)(hl:ks.length=3)(hN:X.N[i]?=some y)(hv:yh X.env.scope y)(hd:(y==("__debug__" : SH))=false:=by decide)(hcd:(y==("__classdict__" : SH))=false:=by decide)
  (hb:Ub (.Name y p1) fl X.env (eval (.Name y p1) X.env)=eval (.Name y p1) X.env:=by rfl) :
  JB X (.ins cn ks) a q i (.Attribute (.Name y p1) fl p0) k:=by
 have hk:k<3:=by rw[←hl];exact(SR.mp hf).1
 refine⟨bc (ET (gq hN hv hd hcd) hb) λσ H Q ⟨e1,e2,e3⟩=>⟨.ref a,e1,?_⟩,hk⟩;obtain⟨C,dx,_,k1,k2,_⟩:=e2;refine⟨a,C,dx,_,.ref (q k),rfl,k2,k1.cls,k1.no fl (S7 hf),?_,e3⟩
 match ks,hl with
 |[f0,f1,f2],_=>
  simp only[U5,SV,Ui,or_false,not_or]at hnd;rcases k3 hk with rfl|rfl|rfl
  .cases hf;simp[List.zip,XW,Vh]
  .cases hf
   have:(fl==f0)=false:=beq_false_of_ne (TF hnd.1.1);simp[List.zip,XW,Vh,this]
  .cases hf
   have h1:(fl==f0)=false:=beq_false_of_ne (TF hnd.1.2);have h2:(fl==f1)=false:=beq_false_of_ne (TF hnd.2.1);simp[List.zip,XW,Vh,h1,h2]
def xA(h:Hk)(i:Nat)(a:SA)(k:Nat)(f:am):Ev->S3->ak gf:=λρ st=>if km ρ[i]? a=true/\noO ρ=true then(f (AB h i ρ st)).bind λd=>if l5 d=true/\(st.at k).length<line then .ok (.nx ρ (st.add k d)) else .stuck
 else .stuck
def C9{Ha J:Hp}{c:SA}{us:al}(h0:Ha c=none)(hj:J c=some (.lst us)):pJ Ha J c=none:=by
 unfold pJ;rw[h0,hj]
def y9{i k:Nat}{b:Tn}{p2 p3 p5:Pos}(hb:JB X h a q i b k)(he:DE X E e f)
  (hbase:Ub b "append" X.env (eval b X.env)=eval b X.env:=by rfl)
  (hfew:((TZ p3 (SJ [e] X.env)).all (λx=>!x.1)&&(VB p3 (US [] X.env)).all (λx=>x.1.isSome)
  &&decide ([e].length+([]:List U3).length+(if([]:List U3).isEmpty then 0 else 1)<30))=true:=by exact gO rfl)
  (hline:(p2.endLine==p3.line)=true:=by rfl) (hs:SJ [e] X.env=(false,eval e X.env)::SJ [] X.env:=by exact aF rfl) (hplain:(TZ p3 (SJ [] X.env)).any (·.1)=false:=by exact bj rfl)
  (hw:T1 (.Call (.Attribute b "append" p2) [e] [] p3) none p5.line X.env=pure false:=by rfl) :
  JS X E He η h a q (.Expr (.Call (.Attribute b "append" p2) [e] [] p3) p5) (xA h i a k f):=by
 refine⟨?_⟩;refine cf (kd (uh Vd Wi Wh lJ hb.o (cG he.o e7 hs) hbase hfew hline hs hplain) hw) ?_;rintro G σ H ⟨Ha,ρ,st,vs,x,r⟩;have hk:=hb.k;unfold xA at r
 by_cases hp:km ρ[i]? a=true/\noO ρ=true
 rotate_left
 .rw[if_neg hp]at r;exact r.elim
 rw[if_pos hp]at r;refine⟨x.s.ex.2 i a (qe hp.1),x.kr.mono x.s.g.sub,.inl ⟨rfl,vs k,fM.of (x.hl hk)⟩,frz He Ha H,AB h i ρ st,x.frz_le,x.looks hp.1 hp.2,?_⟩;generalize f (AB h i ρ st)=z at r;cases z with
 |stuck=>exact r|exn y=>exact λC ox H' Ha' g ex=>r C ox H' Ha' (x.frz_grow.trans g) ex
 |ok d=>
  intro v H' J g rp;replace r:jI X.K E He η h a q Ha (if l5 d=true/\(st.at k).length<line then .ok (.nx ρ (st.add k d)) else .stuck) G:=r
  by_cases hf:l5 d=true/\(st.at k).length<line
  rotate_left
  .rw[if_neg hf]at r;exact r.elim
  rw[if_pos hf]at r;have hJ:aD Ha J:=x.frz_sub.trans g.z;have le:=Ku (Ha:=Ha) (J:=J) hJ;have z:aD Ha (pJ Ha J):=λb o e=>by unfold pJ;rw[e]
  have hH':∀j,j<3->H' (q j)=some (.lst (vs j)):=λj hj=>g.s _ _ (x.hl hj);have hJq:∀j,j<3->J (q j)=some (.lst (vs j)):=λj hj=>g.z _ _ (by unfold frz;rw[(x.hn j hj).1];exact x.hl hj);have n':∀j,j<3->pJ Ha J (q j)=none:=λj hj=>C9 (x.n0 hj) (hJq j hj);refine⟨q k,vs k,v,rfl,rfl,hH' k hk,by rw[←(x.r k hk).length];exact SU hf.2 (by decide),?_⟩;have qi:∀j,j<3->j≠k->q j≠q k:=λj hj hn=>by
   rcases k3 hj with rfl|rfl|rfl<;>rcases k3 hk with rfl|rfl|rfl
   all_goals first|exact absurd rfl hn|exact x.j.a|exact x.j.b|exact x.j.c|exact x.j.a.symm|exact x.j.b.symm|exact x.j.c.symm
  refine r σ _ (pJ Ha J) (λj=>if j=k then vs k++[v] else vs j) z (x.change hp.2 (λb o hb e=>?_) z (λb o e=>?_) (λb h1 h2=>?_) n' (λj hj=>?_) λj hj=>?_)
  .rw[ax (hb k hk)];exact g.s _ _ e
  .rw[ax (by intro zz;subst zz;rw[n' k hk]at e;cases e)]
   exact g.sub _ _ (le b o e)
  .cases q1:He b with
   |none=>rfl
   |some o=>
    have hj:J b≠none:=by
     cases q2:pJ Ha J b with|none=>exact absurd q2 h1|some o=>rw[le b o q2];simp
    have:=g.nw b hj (by unfold frz;rw[q1];exact h2);rw[x.he b o q1]at this;cases this
  .by_cases hjk:j=k
   .subst hjk;rw[az,if_pos rfl]
   .rw[ax (qi j hj hjk),if_neg hjk];exact hH' j hj
  .rw[Dd hk hj]
   by_cases hjk:j=k
   .rw[if_pos hjk,if_pos hjk]
    exact((x.r k hk).mono z).app (Reps.cons (rp.flat_to (Kt hJ) hf.1) Reps.nil)
   .rw[if_neg hjk,if_neg hjk]
    exact(x.r j hj).mono z
structure JE (X:Cx) (E:XK) (He η:Hp) (h:Hk) (a:SA) (q:Nat->SA) (e:Tn) (f:Ev->S3->ak (D×S3)):Prop where
 o:PE X e λσ H Q=>∃Ha ρ st vs,JX X.K He η Ha σ H ρ h a q st vs/\match f ρ st with
  |.ok (d,st')=>∀v H' Ha' us,aD Ha Ha'->JX X.K He η Ha' σ H' ρ h a q st' us->Rep X.K Ha' d v->Q v H'
  |.exn y=>∀C ox H' Ha',bh He η H' Ha'->wq X.K Ha' y C ox->E C ox H'
  |.stuck=>False
noncomputable def KR(K:SE) (n:Nat) (h:Hk) (m:SA->S3->ac->ak (D×S3)):Sp:=λvs H Q E=>vs.length=n+1/\∃(Ha:Hp) (ds:ac) (a:SA) (q:Nat->SA) (st:S3) (us:Nat->al) (vs0:al),vs=.ref a::vs0/\aD Ha H/\Reps K Ha ds vs0/\zN q/\sR K Ha h a [.ref (q 0),.ref (q 1),.ref (q 2)]/\(∀k,k<3->Ha (q k)=none/\H (q k)=some (.lst (us k))/\Reps K Ha (st.at k) (us k))/\match m a st ds with
 |.ok (d,st')=>∀(v:V) (H' Ha':Hp) (us':Nat->al),bh (G5 q H) Ha H' Ha'->(∀k,k<3->Ha' (q k)=none/\H' (q k)=some (.lst (us' k))/\Reps K Ha' (st'.at k) (us' k))->Rep K Ha' d v->Q v H'
 |_=>False
def fV(a:SA)(m:SA->S3->ac->ak (D×S3))(st:S3)(ds:ac):ak (D×S3):=match m a st ds with
 |.ok p=>.ok p
 |_=>.stuck
def i9(i:Nat)(a:SA)(fa:Ev->ak (ac))(m:SA->S3->ac->ak (D×S3)):Ev->S3->ak (D×S3):=λρ st=>if km ρ[i]? a=true/\noO ρ=true then(fa ρ).bind (fV a m st) else .stuck
def Jd{CX:tT}{k n i:Nat}{fn:SA}{fd:TQ}{ps:ci}{m:SA->S3->ac->ak (D×S3)}{x y:SH}{p p1:Pos}(F:FnOk X.prog X.w X.K X.mg X.base CX k fn fd ps (KR X.K n h m))(hr:dw k X.A)(hg:Gl X x)(hm:X.mg x=some (.ref fn))
  (hk:Vv X.K (.ref fn)=true)(hb:gb X.K fd ps [])(hx:ic CX X E)(hN:X.N[i]?=some y)(hv:yh X.env.scope y)(ha:DA X E es fa)(hl:∀ρ ds,fa ρ=.ok ds->ds.length=n)
  (hd:(y==("__debug__" : SH))=false:=by decide)(hcd:(y==("__classdict__" : SH))=false:=by decide)(hdb:(x==("__debug__" : SH))=false:=by decide)(he:SJ (.Name y p1::es) X.env=(false,eval (.Name y p1) X.env)::SJ es X.env:=by exact aF rfl)(hpl:(TZ pos (SJ es X.env)).any (·.1)=false:=by exact bj rfl) :
  JE X E He η h a q (.Call (.Name x p) (.Name y p1::es) [] pos) (i9 i a fa m):=by
 refine⟨?_⟩;refine bc (An F hr hg hm hk hb .nil hx (cG (gq hN hv hd hcd) ha.o he) hdb he hpl) ?_;rintro σ H Q ⟨Ha,ρ,st,vs,x,r⟩;unfold i9 at r
 by_cases hp:km ρ[i]? a=true/\noO ρ=true
 rotate_left
 .rw[if_neg hp]at r;exact r.elim
 rw[if_pos hp]at r;refine⟨.ref a,x.s.ex.2 i a (qe hp.1),Ha,ρ,x.s.g.sub,x.s.rd,?_⟩;cases e1:fa ρ with
 |stuck=>rw[e1]at r;exact r|exn y=>rw[e1]at r;exact λC ox H' Ha' g ex=>r C ox H' Ha' (x.g0.trans g) ex
 |ok ds=>
  rw[e1]at r;intro xs H1 H01 g1 r1;have x1:=x.grow g1;refine⟨?_,H01,ds,a,q,st,vs,xs,by simp,x1.s.g.sub,r1,x1.j,x1.kr,λk hk=>⟨x1.n0 hk,x1.hl hk,x1.r k hk⟩,?_⟩
  .have:=r1.length
   have:=hl ρ ds e1;simp only[Ut,S0]at *;omega
  .replace r:match fV a m st ds with
    |.ok (d,st')=>∀v H' Ha' us,aD Ha Ha'->JX X.K He η Ha' σ H' ρ h a q st' us->Rep X.K Ha' d v->Q v H'
    |.exn y=>∀C ox H' Ha',bh He η H' Ha'->wq X.K Ha' y C ox->E C ox H'
    |.stuck=>False:=r
   unfold fV at r;generalize m a st ds=z at r ⊢;cases z with
   |stuck=>exact r|exn y=>exact r.elim
   |ok pr=>
    obtain⟨d,s2⟩:=pr;exact λv H' Ha' us' g l rp=>r v H' Ha' us' (g1.z.trans g.z) (x1.changeG hp.2 g (λk hk=>(l k hk).1) (λk hk=>(l k hk).2.1) λk hk=>(l k hk).2.2) rp
noncomputable def zc(h:Hk) (i:Nat) (a:SA) (f:am) (g:Ev->S3->ak (D×S3)):Ev->S3->ak (D×S3):=λρ st=>if km ρ[i]? a=true/\noO ρ=true then(f (AB h i ρ st)).bind λd=>match d with
 |.bl true=>g ρ st
 |.bl false=>.ok (.bl false,st)
 |_=>.stuck
 else .stuck
def Fp{i:Nat}{g:Ev->S3->ak (D×S3)}(hc:DE X E c f)(he:JE X E He η h a q e g):JE X E He η h a q (.BoolOp .And [c,e] pos) (zc h i a f g):=by
 refine⟨?_⟩;refine bc (EV hc.o (EO he.o)) ?_;rintro σ H Q ⟨Ha,ρ,st,vs,x,r⟩;unfold zc at r
 by_cases hp:km ρ[i]? a=true/\noO ρ=true
 rotate_left
 .rw[if_neg hp]at r;exact r.elim
 rw[if_pos hp]at r;refine⟨frz He Ha H,AB h i ρ st,x.frz_le,x.looks hp.1 hp.2,?_⟩;generalize f (AB h i ρ st)=z at r;cases z with
 |stuck=>exact r|exn y=>exact λC ox H' Ha' g ex=>r C ox H' Ha' (x.frz_grow.trans g) ex
 |ok d=>
  intro v H' J g1 rp;cases d with
  |bl d=>
   rw[aE.mp rp];cases d with|true=>exact⟨true,rfl,Ha,ρ,st,vs,x.same g1.s,r⟩|false=>exact⟨false,rfl,r (.bl false) H' Ha vs (aD.refl _) (x.same g1.s) (aE.mpr rfl)⟩
  |_=>exact r.elim
def rl(g:Ev->S3->ak (D×S3)):Ev->S3->ak gf:=λρ st=>(g ρ st).bind λp=>.ok (.rt p.1 p.2)
def pZ{g:Ev->S3->ak (D×S3)}(he:JE X E He η h a q e g):JS X E He η h a q (.Return (some e) pos) (rl g):=by
 refine⟨?_⟩;refine cf (qP he.o) ?_;rintro G σ H ⟨Ha,ρ,st,vs,x,r⟩;refine⟨Ha,ρ,st,vs,x,?_⟩;unfold rl at r;generalize g ρ st=z at r;cases z with
 |stuck|exn y=>exact r
 |ok p=>
  obtain⟨d,st'⟩:=p;exact λv H' Ha' us s x' rp=>r v H' Ha' s x'.out rp
def CD(g:Ev->S3->ak (D×S3))(s:Ev->S3->ak gf):Ev->S3->ak gf:=λρ st=>(g ρ st).bind λp=>match p.1 with
 |.bl true=>.ok (.nx ρ p.2)
 |.bl false=>s ρ p.2
 |_=>.stuck
def MK{g:Ev->S3->ak (D×S3)}{p:Pos}(he:JE X E He η h a q e g)(h1:Hc X E He η h a q b1 s)(hw:∀whole,isTrue e X.env whole=(do let v ←whole;standAt e.pos;XG [v] (truthy v)):=by intro _;rfl):JS X E He η h a q (.If (.UnaryOp .Not e p) b1 [] pos) (CD g s):=by
 refine⟨?_⟩;refine cf (Ai (ED (EC he.o hw)) h1.o kc) ?_;rintro G σ H ⟨Ha,ρ,st,vs,x,r⟩;refine⟨Ha,ρ,st,vs,x,?_⟩;unfold CD at r;generalize g ρ st=z at r;cases z with
 |stuck|exn y=>exact r
 |ok p=>
  obtain⟨d,st'⟩:=p;intro v H' Ha' us s' x' rp;cases d with
  |bl d=>
   rw[aE.mp rp];refine⟨d,rfl,?_⟩;cases d with|true=>exact r σ H' Ha' us s' x'|false=>exact⟨Ha',ρ,st',us,x',jI.grow (r:=s ρ st') r s'⟩
  |_=>exact r.elim
end
def rz(tg:Ev->D->ak Ev)(s:Ev->S3->ak gf):ac->Ev->S3->ak gf
 |[],ρ,st=>.ok (.nx ρ st)
 |d::r,ρ,st=>(tg ρ d).bind λρ1=>(s ρ1 st).bind λx=>match x with
  |.nx ρ2 st2=>rz tg s r ρ2 st2
  |y=>.ok y
def CF(src:Ev->ak (ac))(tg:Ev->D->ak Ev)(s:Ev->S3->ak gf):Ev->S3->ak gf:=λρ st=>(src ρ).bind λds=>rz tg s ds ρ st
section
variable {X:Cx}{E:XK}{He η:Hp}{h:Hk}{a:SA}{q:Nat->SA}{pos:Pos}{s:Ev->S3->ak gf}
noncomputable def Lm(K:SE) (E:XK) (He η:Hp) (h:Hk) (a:SA) (q:Nat->SA) (Hb:Hp) (tg:Ev->D->ak Ev) (s:Ev->S3->ak gf) (ds:ac) (D':gV) (i:Nat) (σ:L2.St) (H:Hp):Prop :=
 ∃Ha ρ st vs,aD Hb Ha/\JX K He η Ha σ H ρ h a q st vs/\jI K E He η h a q Ha (rz tg s (ds.drop i) ρ st) D'
def Jc{tgt iter:Tn}{body:List Ud}{tg:Ev->D->ak Ev}{src:Ev->ak (ac)}(hp:PassesOwn (Tb X.prog X.w) X.A X.env X.xe)(hc:X.calm=true)(hi:DI X E tgt iter src)(hg:∀He',DG X E He' η tgt tg)(ht:uP tg)(hb:Hc X E He η h a q body s)
  (hs:∀x,foldedSetIterable iter X.env x=pure x:=by intro _;rfl):JS X E He η h a q (.For tgt iter body [] pos) (CF src tg s):=by
 have hgp:PG X tgt λv σ H Q=>∃He',tG X.K He' η tg v σ H Q:=λπ s σ H v u Q I r z=>z.elim λHe' z=>(hg He').o π s σ H v u Q I r z;refine⟨cf (u9 hp hc hi.o hgp hb.o hs) ?_⟩;rintro D' σ H ⟨Ha,ρ,st,vs,x,r⟩;refine⟨Ha,ρ,x.s.g.sub,x.s.rd,?_⟩;unfold CF at r;generalize src ρ=z at r;cases z with
 |stuck=>exact r|exn y=>exact λC ox H' Ha' g ex=>r C ox H' Ha' (x.g0.trans g) ex
 |ok ds=>
  intro J H1 H01 g it;refine⟨λi m σ' H'=>m+i=ds.length/\Lm X.K E He η h a q H01 tg s ds D' i σ' H',⟨ds.length,rfl,H01,ρ,st,vs,aD.refl _,x.grow g,jI.grow (r:=rz tg s ds ρ st) r g.z⟩,?_⟩;rintro i m σ' H' ⟨hm,Ha',ρ',st',vs',z,x',r'⟩
  by_cases hlt:i<ds.length
  .refine .inr ⟨it.go i H' Ha' z x'.s.g.sub hlt,λσ2 H2=>Lm X.K E He η h a q H01 tg s ds D' (i+1) σ2 H2,λσ2 H2 hl=>⟨m-1,by omega,by omega,hl⟩,λy H2 hy=>?_⟩
   obtain⟨H₀2,g2,rp⟩:=it.yld i H' Ha' y H2 ds[i] z x'.s.g.sub (SS hlt) hy;have hdr:ds.drop i=ds[i]::ds.drop (i+1):=T7 hlt;rw[hdr]at r';replace r':=jI.grow (r:=rz tg s (ds[i]::ds.drop (i+1)) ρ' st') r' g2.z;have x2:=x'.grow g2;refine⟨FE He q vs',H₀2,ρ',ds[i],x2.s,rp,?_⟩;unfold rz at r';rcases ht ρ' ds[i] with e1|⟨ρ1,e1⟩
   .rw[e1]at r';exact r'.elim
   .rw[e1]at r' ⊢
    intro σ3 H3 H₀3 z3 s3;refine⟨H₀3,ρ1,st',vs',x2.back z3 s3,?_⟩;replace r':=jI.grow (r:=(s ρ1 st').bind λx=>match x with
     |.nx ρ2 st2=>rz tg s (ds.drop (i+1)) ρ2 st2
     |y=>.ok y) r' z3
    generalize s ρ1 st'=zz at r' ⊢;cases zz with
    |stuck|exn y=>exact r'
    |ok y=>
     cases y with|nx ρ2 st2=>exact λσ4 H4 H₀4 vs4 z4 x4=>⟨H₀4,ρ2,st2,vs4,(z.trans g2.z).trans (z3.trans z4),x4,jI.grow (r:=rz tg s (ds.drop (i+1)) ρ2 st2) r' z4⟩|rt d st2|fr d=>exact r'
  .have e:i=ds.length:=by omega
   refine .inl ⟨it.stop i H' Ha' z x'.s.g.sub (by omega),?_⟩;subst e;rw[Wn]at r';unfold rz at r';exact r' σ' H' Ha' vs' (aD.refl _) x'
end
def pl2(Ha:Hp)(q:Nat->SA)(vs:Nat->al):Hp:=upd (upd Ha (q 0) (.lst (vs 0))) (q 1) (.lst (vs 1))
def Rv(st:S3)(d0 d1:D):D:=.tup [.ob .pl st.p,.ob .pl st.t,d0,d1]
def Ru(st:S3)(w:Bool):ak gf:=match st.e with
 |d0::d1::_=>.ok (.fr (if w=true then .tup [.non,Rv st d0 d1] else Rv st d0 d1))
 |_=>.stuck
def N6(i:Nat)(a:SA)(w:Bool):Ev->S3->ak gf:=λρ st=>if km ρ[i]? a=true then Ru st w else .stuck
section
variable {X:Cx}{E:XK}{He η:Hp}{h:Hk}{a:SA}{q:Nat->SA}{pos:Pos}
def wY{K:SE}{Ha H:Hp}{σ:L2.St}{ρ:Ev}{st:S3}{vs:Nat->al}(x:JX K He η Ha σ H ρ h a q st vs):bh H Ha H Ha->bh He η H (pl2 Ha q vs)/\aD Ha (pl2 Ha q vs):=λ_=>by
 have z:aD Ha (pl2 Ha q vs):=λb o e=>by
  unfold pl2;rw[ax (by intro zz;subst zz;rw[x.n0 (k:=1) (by decide)]at e;cases e),ax (by intro zz;subst zz;rw[x.n0 (k:=0) (by decide)]at e;cases e)];exact e
 refine⟨⟨x.he,x.s.g.z.trans z,λb o e=>?_,λb h1 h2=>?_⟩,z⟩
 .unfold pl2 at e
  by_cases c1:b=q 1
  .subst c1;rw[az]at e;cases e;exact x.hl (by decide)
  .rw[ax c1]at e
   by_cases c0:b=q 0
   .subst c0;rw[az]at e;cases e;exact x.hl (by decide)
   .rw[ax c0]at e;exact x.s.g.sub _ _ e
 .unfold pl2 at h1
  by_cases c1:b=q 1
  .subst c1;exact(x.hn 1 (by decide)).1
  .rw[ax c1]at h1
   by_cases c0:b=q 0
   .subst c0;exact(x.hn 0 (by decide)).1
   .rw[ax c0]at h1;exact x.g0.nw b h1 h2
def RK(K:SE)(He η:Hp)(h:Hk)(a:SA)(q:Nat->SA)(i:Nat):TE:=λσ H Q=>∃Ha ρ st vs d0 d1 er,JX K He η Ha σ H ρ h a q st vs/\km ρ[i]? a=true/\st.e=d0::d1::er/\∀v H' Ha',bh H (pl2 Ha q vs) H' Ha'->Rep K Ha' (Rv st d0 d1) v->Q v H'
def O7{i:Nat}{b0 b1 b2 b3:Tn}{k0 k1:Int}{kk j0 j1}{p1 p2 p3 p4 p0:Pos}(h0:JB X h a q i b0 0)(h1:JB X h a q i b1 1)(h2:JB X h a q i b2 2)(h3:JB X h a q i b3 2)(e0:k0=0)(e1:k1=1)
  (hx0:kF (.Constant (.int k0) j0 p1):=by exact λ_ _=>rfl)(hx1:kF (.Constant (.int k1) j1 p2):=by exact λ_ _=>rfl)
  (s0:SJ [b0,b1,.Subscript b2 (.Constant (.int k0) j0 p1) p3,.Subscript b3 (.Constant (.int k1) j1 p2) p4] X.env=(false,eval b0 X.env)::SJ [b1,.Subscript b2 (.Constant (.int k0) j0 p1) p3,.Subscript b3 (.Constant (.int k1) j1 p2) p4] X.env:=by exact aF rfl)
  (s1:SJ [b1,.Subscript b2 (.Constant (.int k0) j0 p1) p3,.Subscript b3 (.Constant (.int k1) j1 p2) p4] X.env=(false,eval b1 X.env)::SJ [.Subscript b2 (.Constant (.int k0) j0 p1) p3,.Subscript b3 (.Constant (.int k1) j1 p2) p4] X.env:=by exact aF rfl)
  (s2:SJ [.Subscript b2 (.Constant (.int k0) j0 p1) p3,.Subscript b3 (.Constant (.int k1) j1 p2) p4] X.env=(false,eval (.Subscript b2 (.Constant (.int k0) j0 p1) p3) X.env)::SJ [.Subscript b3 (.Constant (.int k1) j1 p2) p4] X.env:=by exact aF rfl)
  (s3:SJ [.Subscript b3 (.Constant (.int k1) j1 p2) p4] X.env=(false,eval (.Subscript b3 (.Constant (.int k1) j1 p2) p4) X.env)::SJ [] X.env:=by exact aF rfl) :
  PE X (.Tuple [b0,b1,.Subscript b2 (.Constant (.int k0) j0 p1) p3,.Subscript b3 (.Constant (.int k1) j1 p2) p4] kk p0) (RK X.K He η h a q i):=by
 refine bc (EL (cG h0.o (cG h1.o (cG (w6 vH h2.o nP hx0) (cG (w6 vH h3.o nP hx1) e7 s3) s2) s1) s0)) ?_;rintro σ H Q ⟨Ha,ρ,st,vs,d0,d1,er,x,hp,he,r⟩;have hσ:=x.s.ex.2 i a (qe hp);have kr:=x.kr.mono x.s.g.sub;have r2:=x.r 2 (by decide);rw[show st.at 2=st.e from rfl,he]at r2;obtain⟨u0,ur,eu,ru0,r2⟩:=aA.mp r2;obtain⟨u1,ur2,rfl,ru1,r2⟩:=aA.mp r2;have hq2:fM X.K H (q 2) (vs 2):=fM.of (x.hl (by decide));refine⟨hσ,kr,hσ,kr,⟨hσ,kr,q 2,vs 2,k0,u0,rfl,rfl,hq2,by rw[e0,eu];exact cT (j:=0) rfl,?_⟩⟩;refine⟨hσ,kr,q 2,vs 2,k1,u1,rfl,rfl,hq2,by rw[e1,eu];exact cT (j:=1) rfl,?_⟩;refine⟨by show 4<=sizeLine;decide,λp hp0=>?_⟩;obtain⟨g,z⟩:=wY x (bh.refl x.s.g.sub);have A:=aI (o:=.tup [.ref (q 0),.ref (q 1),u0,u1]) g.sub hp0;refine r (.ref p) _ _ A (aC.mpr ⟨p,_,rfl,j7.of az,?_⟩);have l0:pl2 Ha q vs (q 0)=some (.lst (vs 0)):=by unfold pl2;rw[ax x.j.a,az]
 have l1:pl2 Ha q vs (q 1)=some (.lst (vs 1)):=by unfold pl2;rw[az]
 exact Reps.cons (bO.mpr ⟨q 0,vs 0,rfl,A.z _ _ l0,(x.r 0 (by decide)).mono (z.trans A.z)⟩) (Reps.cons (bO.mpr ⟨q 1,vs 1,rfl,A.z _ _ l1,(x.r 1 (by decide)).mono (z.trans A.z)⟩) (Reps.cons (ru0.mono (z.trans A.z)) (Reps.cons (ru1.mono (z.trans A.z)) Reps.nil)))
def Pp{i:Nat}{e:Tn}(he:PE X e (RK X.K He η h a q i)):JS X E He η h a q (.Return (some e) pos) (N6 i a false):=by
 refine⟨cf (qP he) ?_⟩;rintro G σ H ⟨Ha,ρ,st,vs,x,r⟩;unfold N6 at r
 by_cases hp:km ρ[i]? a=true
 rotate_left
 .rw[if_neg hp]at r;exact r.elim
 rw[if_pos hp]at r;unfold Ru at r;split at r
 .next d0 d1 er es=>
  exact⟨Ha,ρ,st,vs,d0,d1,er,x,hp,es,λv H' Ha' g rp=>r v H' Ha' ((wY x (bh.refl x.s.g.sub)).1.trans g) rp⟩
 .exact r.elim
end
def GW{K:SE}{He η Ha H:Hp}{σ:L2.St}{ρ:Ev}{h:Hk}{a:SA}{q:Nat->SA}{i:Nat}(x:eO K He η Ha σ H ρ)(n:noO ρ=true)(hi:i<ρ.length)(j:zN q)(hq:∀k,k<3->He (q k)=none/\Ha (q k)=none/\H (q k)=some (.lst []))
  (kr:sR K Ha h a [.ref (q 0),.ref (q 1),.ref (q 2)]):JX K He η Ha (σ.set i (some (.ref a))) H (ρ.set i (.pt a)) h a q ⟨[],[],[]⟩ λ_=>[]:=by
 have key:∀(j:Nat) (s:Sl),(ρ.set i (.pt a))[j]?=some s->(j=i/\s=.pt a)∨(j≠i/\ρ[j]?=some s):=λj s e=>by
  by_cases hj:i=j
  .subst hj;rw[TM hi]at e;cases e;exact .inl ⟨rfl,rfl⟩
  .rw[SO hj]at e;exact .inr ⟨λz=>hj z.symm,e⟩
 refine⟨j,λk hk=>⟨(hq k hk).1,x.g.z.free (hq k hk).2.1⟩,kr,λk hk=>?_,⟨⟨λb o e=>?_,x.g.z,x.g.sub,λb h1 h2=>?_⟩,λj d e=>?_,λj d e=>?_,λj k d d' hn e1 e2=>?_,by simp[x.ln],⟨λj k es e=>?_,λj b e=>?_⟩⟩⟩
 .rcases k3 hk with rfl|rfl|rfl<;>exact Reps.nil
 .rcases La q b with⟨k,hk,rfl⟩|hb
  .rw[nV j hk]at e;cases e;exact(hq k hk).2.2
  .rw[ko hb]at e;exact x.g.s _ _ e
 .rcases La q b with⟨k,hk,rfl⟩|hb
  .exact absurd (hq k hk).2.1 h1
  .rw[ko hb];exact x.g.nw b h1 h2
 .rcases key j _ e with⟨_,e'⟩|⟨hj,e'⟩
  .cases e'
  .obtain⟨v,h1,h2⟩:=x.rd j d e'
   exact⟨v,by rw[SO (TF hj)];exact h1,h2⟩
 .rcases key j _ e with⟨_,e'⟩|⟨hj,e'⟩
  .cases e'
  .exact(noO.ow n e').elim
 .rcases key j _ e1 with⟨_,e'⟩|⟨hj,e1'⟩
  .cases e'
  .exact(noO.ow n e1').elim
 .rcases key j _ e with⟨_,e'⟩|⟨hj,e'⟩
  .cases e'
  .exact(noO.ox n e').elim
 .rcases key j _ e with⟨rfl,e'⟩|⟨hj,e'⟩
  .cases e'
   rw[TM (by rw[←x.ln];exact hi)]
  .rw[SO (TF hj)];exact x.ex.2 j b e'
def AV(r:ak gf):ak Fl:=match r with
 |.ok (.rt d _)=>.ok (.rt d)
 |.ok (.fr d)=>.ok (.rt d)
 |.exn y=>.exn y
 |_=>.stuck
noncomputable def lI(i:Nat) (g:SA->Ev->S3->ak gf):bv:=λρ=>if noO ρ=true/\i<ρ.length then xx λa=>AV (g a (ρ.set i (.pt a)) ⟨[],[],[]⟩) else .stuck
section
variable {X:Cx}{E:XK}{He η:Hp}{rest:List Ud}{pos:Pos}{g:SA->Ev->S3->ak gf}
def EH{K:SE}{Ha H01:Hp}{h:Hk}{a:SA}{q:Nat->SA}{i:Nat}{ρ:Ev}{G:gV}(r:bT K E He η Ha (xx λa=>AV (g a (ρ.set i (.pt a)) ⟨[],[],[]⟩)) G):jI K E He η h a q H01 (g a (ρ.set i (.pt a)) ⟨[],[],[]⟩) G:=by
 by_cases hs:(xx λa=>AV (g a (ρ.set i (.pt a)) ⟨[],[],[]⟩))=.stuck
 .rw[hs]at r;exact r.elim
 rw[←IT hs a]at r;generalize g a (ρ.set i (.pt a)) ⟨[],[],[]⟩=z at r ⊢;cases z with
 |stuck|exn y=>exact r
 |ok y=>
  cases y with|nx ρ st=>exact r.elim|rt d st=>exact λv H Ha' _ o rp=>r v H Ha' o.g rp|fr d=>exact r
noncomputable def LV(K:SE) (ks:ci):Sp:=λvs H Q _=>∃x dx C,vs=[.ref x]/\H x=some (.ins C dx [])/\KD K C/\(∀f∈ks,dZ K C f) /\
 ∀(q:Nat->SA) (H':Hp),zN q->(∀k,k<3->H (q k)=none/\H' (q k)=some (.lst []))->H' x=some (.ins C dx (ks.zip [.ref (q 0),.ref (q 1),.ref (q 2)]))->(∀b,b≠x->(∀k,k<3->b≠q k)->H' b=H b)->Q .non H'
def FR{P:Tr}{w:TU}{K:SE}{mg:SH->Option Sy}{base:S1}{x qual y f0 f1 f2:SH}{st:Ud}{f:SA}{fd:TQ}{p1 p2 p3 p4 p5 p6 p7 p8 p9 p10 p11 p12:Pos}(F:Bp K x qual st f fd)(S:eX [y] [y] (defScope st))
  (hbody:defBody st=[.Assign [.Attribute (.Name y p1) f0 p2] (.List [] p3) p4,.Assign [.Attribute (.Name y p5) f1 p6] (.List [] p7) p8,.Assign [.Attribute (.Name y p9) f2 p10] (.List [] p11) p12])(hk:[f0,f1,f2].Nodup)
  (hv:yh (defScope st) y)(hd:(y==("__debug__" : SH))=false:=by decide)(hcd:(y==("__classdict__" : SH))=false:=by decide)
  (hs:∀(cdv:Sy) (A:TK) (outer:List Uh) (s0:SI) (H:Hp) (E:XK),(T1 (.List [] p3) (some (.Attribute (.Name y p1) f0 p2)) p4.line (dN CX0 P w K mg base [y] qual (defScope st) f cdv A outer s0 H E).nox.env=pure false/\T1 (.List [] p7) (some (.Attribute (.Name y p5) f1 p6)) p8.line (dN CX0 P w K mg base [y] qual (defScope st) f cdv A outer s0 H E).nox.env=pure false/\T1 (.List [] p11) (some (.Attribute (.Name y p9) f2 p10)) p12.line (dN CX0 P w K mg base [y] qual (defScope st) f cdv A outer s0 H E).nox.env=pure false):=by intro _ _ _ _ _ _;exact⟨rfl,rfl,rfl⟩):FnOk P w K mg base CX0 1 f fd [y] (LV K [f0,f1,f2]):=by
 refine F.ok S (λvs H Q E h=>?_) λcdv A outer s0 H vs Q E hr h=>?_
 .obtain⟨x,dx,C,rfl,_⟩:=h
  rfl
 .obtain⟨x,dx,C,rfl,hH,hC,hn,q⟩:=h
  obtain⟨w0,w1,w2⟩:=hs cdv A outer s0 H E;have hvar:∀p,PE (dN CX0 P w K mg base [y] qual (defScope st) f cdv A outer s0 H E).nox (.Name y p) (Oy 0):=λp=>gq rfl hv hd hcd;have hb:=cO (yM (hvar p1) (qU e7 (pos:=p3)) w0) (cO (yM (hvar p5) (qU e7 (pos:=p7)) w1) (cO (yM (hvar p9) (qU e7 (pos:=p11)) w2) kc));rw[←hbody]at hb;have n0:=hn f0 (by simp);have n1:=hn f1 (by simp);have n2:=hn f2 (by simp);simp only[U5,SV,Ui,or_false,not_or]at hk;refine⟨_,hb,?_⟩;refine⟨by show 0<=sizeLine;decide,λl0 h0=>⟨.ref x,rfl,x,C,dx,[],rfl,?_,hC,n0,by decide,?_⟩⟩
  .rw[ax (by intro z;subst z;rw[hH]at h0;cases h0)];exact hH
  have x0:x≠l0:=by intro z;subst z;rw[hH]at h0;cases h0
  refine⟨by show 0<=sizeLine;decide,λl1 h1=>⟨.ref x,rfl,x,C,dx,eP f0 (.ref l0) [],rfl,?_,hC,n1,by show 1<1000;decide,?_⟩⟩
  .rw[ax (by intro z;subst z;rw[az]at h1;cases h1),az]
  have x1:x≠l1:=by intro z;subst z;rw[az]at h1;cases h1
  rw[ax x1.symm]at h1;have n10:l1≠l0:=by intro z;subst z;rw[az]at h1;cases h1
  rw[ax n10]at h1;refine⟨by show 0<=sizeLine;decide,λl2 h2=>⟨.ref x,rfl,x,C,dx,eP f1 (.ref l1) (eP f0 (.ref l0) []),rfl,?_,hC,n2,(by have:=qL (f:=f1) (v:=V.ref l1) (l:=eP f0 (.ref l0) []);have h':(eP f0 (V.ref l0) []).length=1:=rfl;omega),?_⟩⟩
  .rw[ax (by intro z;subst z;rw[az]at h2;cases h2),az]
  have x2:x≠l2:=by intro z;subst z;rw[az]at h2;cases h2
  rw[ax x2.symm]at h2;have n21:l2≠l1:=by intro z;subst z;rw[az]at h2;cases h2
  rw[ax n21,ax x2.symm]at h2;have n20:l2≠l0:=by intro z;subst z;rw[az]at h2;cases h2
  rw[ax n20]at h2;refine q (λk=>match k with
   |0=>l0
   |1=>l1
   |_=>l2) _ ⟨n10.symm,n20.symm,n21.symm⟩ (λk hk=>?_) ?_ λb hb hq=>?_
  .rcases k3 hk with rfl|rfl|rfl
   .exact⟨h0,by show upd _ _ _ l0=_;rw[ax x0.symm,ax n20.symm,ax x0.symm,ax n10.symm,ax x0.symm,az]⟩
   .exact⟨h1,by show upd _ _ _ l1=_;rw[ax x1.symm,ax n21.symm,ax x1.symm,az]⟩
   .exact⟨h2,by show upd _ _ _ l2=_;rw[ax x2.symm,az]⟩
  .rw[az]
   have q1:eP f1 (V.ref l1) [(f0,V.ref l0)]=[(f0,.ref l0),(f1,.ref l1)]:=mM (by simpa using TF hk.1.1);have q2:eP f2 (V.ref l2) [(f0,V.ref l0),(f1,V.ref l1)]=[(f0,.ref l0),(f1,.ref l1),(f2,.ref l2)]:=mM (by simpa using ⟨TF hk.1.2,TF hk.2.1⟩);show some (HO.ins C dx (eP f2 (V.ref l2) (eP f1 (V.ref l1) [(f0,V.ref l0)])))=_;rw[q1,q2];rfl
  .have b0:b≠l0:=hq 0 (by decide)
   have b1:b≠l1:=hq 1 (by decide);have b2:b≠l2:=hq 2 (by decide);rw[ax hb,ax b2,ax hb,ax b1,ax hb,ax b0]
def zu{k i:Nat}{C fn:SA}{fd:TQ}{ps ks:ci}{x y:SH}{p cpos pos':Pos}(hl3:ks.length=3)(hN:X.N.Nodup)(hi:X.N[i]?=some y)(hx:zL X.env.scope y)(M:Mk X.K C fn)(F:FnOk X.prog X.w X.K X.mg X.base CX0 k fn fd ps (LV X.K ks))(hr:dw (k+1) X.A)(hg:Gl X x)(hm:X.mg x=some (.ref C))(hns:Up X.K Te x=some (some (.ref C)))(hb:gb X.K fd ps [])(hC:NX X.K ks C)(hp:ic CX0 X E)(hrs:∀a q,Hc X E He η (.ins x ks) a q rest (g a))
  (hdb:(x==("__debug__" : SH))=false:=by decide)(hs:T1 (.Call (.Name x p) [] [] cpos) (some (.Name y pos')) pos.line X.env=pure false:=by rfl)
  (hf:X.fn y=true∨X.env.scope.names.lookup y=some .local := by first|exact .inl rfl|exact .inr rfl|assumption) :
  wt X E He η (.Assign [.Name y pos'] (.Call (.Name x p) [] [] cpos) pos::rest) (lI i g):=by
 have hrest:ph X rest λG σ H=>∃a q,tJ X.K E He η (.ins x ks) a q (g a) G σ H:=λπ s σ H G I z=>z.elim λa z=>z.elim λq z=>(hrs a q).o π s σ H G I z;refine⟨da (cO (qO hN hi hx (ER M F hr hg hm hb .nil hp hdb) hs hf) hrest) ?_⟩;rintro G σ H ⟨Ha,ρ,z,r⟩;unfold lI at r
 by_cases hc:noO ρ=true/\i<ρ.length
 rotate_left
 .rw[if_neg hc]at r;exact r.elim
 rw[if_pos hc]at r;intro a dx ha hdx hne;refine⟨a,dx,C,rfl,az,hC.cls,hC.no,λq H4 jq hq e1 e2=>⟨rfl,?_⟩⟩;have qa:∀k,k<3->q k≠a:=λk hk e=>by have:=(hq k hk).1;rw[e,az]at this;cases this
 have qd:∀k,k<3->q k≠dx:=λk hk e=>by have:=(hq k hk).1;rw[e,ax hne,az]at this;cases this
 have hqH:∀k,k<3->H (q k)=none:=λk hk=>by have:=(hq k hk).1;rw[ax (qa k hk),ax (qd k hk)]at this;exact this
 have s4:aD H H4:=λb o e=>by
  have c0:b≠a:=by intro z;subst z;rw[ha]at e;cases e
  have c1:b≠dx:=by intro z;subst z;rw[hdx]at e;cases e
  rw[e2 b c0 (λk hk z=>by subst z;rw[hqH k hk]at e;cases e),ax c0,ax c1];exact e
 have d4:H4 dx=some (.own a):=by rw[e2 dx hne (λk hk z=>qd k hk z.symm),ax hne,az]
 have f0:Ha a=none:=z.g.sub.free ha;have g0:Ha dx=none:=z.g.sub.free hdx;have g4:bh H Ha H4 (upd (upd Ha dx (.own a)) a (.ins C dx (ks.zip [.ref (q 0),.ref (q 1),.ref (q 2)]))):=⟨s4,λb o e=>by rw[ax (by intro z;subst z;rw[f0]at e;cases e),ax (by intro z;subst z;rw[g0]at e;cases e)];exact e,λb o e=>by
  by_cases c:b=a
  .subst c;rw[az]at e;cases e;exact e1
  .rw[ax c]at e
   by_cases c':b=dx
   .subst c';rw[az]at e;cases e;exact d4
   .rw[ax c']at e;exact s4 _ _ (z.g.sub _ _ e),λb n1 n2=>by
  by_cases c:b=a
  .subst c;exact ha
  .rw[ax c]at n1
   by_cases c':b=dx
   .subst c';exact hdx
   .rw[ax c']at n1;exact absurd n2 n1⟩
 exact⟨a,q,_,_,_,_,GW (h:=.ins x ks) (a:=a) (q:=q) (i:=i) (z.grow g4) hc.1 hc.2 jq (λk hk=>⟨z.g.s.free (hqH k hk),by rw[ax (qa k hk),ax (qd k hk)];exact z.g.sub.free (hqH k hk),(hq k hk).2⟩) ⟨C,dx,hns,hC,az,hl3⟩,EH r⟩
end
def wL(r:gf):ak (D×S3):=match r with
 |.nx _ st=>.ok (.non,st)
 |.rt d st=>.ok (d,st)
 |_=>.stuck
def wM(n:Nat)(s:SA->Ev->S3->ak gf)(a:SA)(st:S3)(ds:ac):ak (D×S3):=(s a (.pt a::ds.map Sl.sh++S4 (n-(ds.length+1)) .no) st).bind wL
def Jl{q:Nat->SA}{H:Hp}{us:Nat->al}(j:zN q)(h:∀k,k<3->H (q k)=some (.lst (us k))):FE (G5 q H) q us=H:=by
 funext c;rcases La q c with⟨k,hk,rfl⟩|hb
 .rw[nV j hk,h k hk]
 .rw[ko hb,vQ hb]
def zj{P:Tr}{w:TU}{K:SE}{mg:SH->Option Sy}{base:S1}{x qual:SH}{st:Ud}{f:SA}{fd:TQ}{N ps:ci}{k n:Nat}{h:Hk}{s:SA->Ev->S3->ak gf}(F:Bp K x qual st f fd)(S:eX N ps (defScope st))(hn:ps.length=n+1)
  (hbody:∀(cdv:Sy) (A:TK) (outer:List Uh) (s0:SI) (H He Ha:Hp) (a:SA) (q:Nat->SA) (E:XK),dw k (A.deeper (envOfC qual (defScope st) s0.heap.objs.size f cdv)) ->
   Hc (dN CX0 P w K mg base N qual (defScope st) f cdv A outer s0 H E).nox E0 He Ha h a q (defBody st) (s a)):FnOk P w K mg base CX0 (k+1) f fd ps (KR K n h (wM N.length s)):=by
 have hpl:ps.length<=N.length:=by have:=congrArg VY S.pre;rw[UD]at this;omega
 refine F.ok S (λvs H Q E h=>h.1.trans hn.symm) λcdv A outer s0 H vs Q E hr hh=>?_;obtain⟨hlen,Ha,ds,a,q,sl,us,vs0,rfl,hs,hv,hj,hk,hc,r⟩:=hh;have lv:=hv.length;have hσ:start N (.ref a::vs0)=some (.ref a)::(vs0.map some++S4 (N.length-(vs0.length+1)) none):=by
  unfold L2.start;simp
 have hρ0:∀(i:Nat) (z:Sl),(Sl.pt a::ds.map Sl.sh++S4 (N.length-(ds.length+1)) Sl.no)[i]?=some z->z=.no∨(i=0/\z=.pt a)∨∃j d,i=j+1/\ds[j]?=some d/\z=.sh d:=λi z e=>by
  cases i with
  |zero=>simp at e;exact .inr (.inl ⟨rfl,e.symm⟩)
  |succ j=>
   rw[Uu,Uq]at e
   by_cases hj:j<ds.length
   .rw[Tg (by simpa using hj),Ta,SS hj]at e
    cases e;exact .inr (.inr ⟨j,ds[j],rfl,SS hj,rfl⟩)
   .rw[To (by simpa using hj),Tz]at e
    split at e
    .cases e;exact .inl rfl
    .cases e
 have hhe:=Jl hj λk hk=>(hc k hk).2.1;refine⟨_,(hbody cdv A outer s0 H (G5 q H) Ha a q E hr).o,Ha,.pt a::ds.map Sl.sh++S4 (N.length-(ds.length+1)) .no,sl,us,⟨hj,λk hk=>⟨Nx hk,(hc k hk).1⟩,hk,λk hk=>(hc k hk).2.2,?_⟩,?_⟩
 .rw[hhe]
  refine⟨bh.refl hs,λi d e=>?_,λi d e=>?_,λi j d d' hij e=>?_,?_,⟨λi j es e=>?_,λi b e=>?_⟩⟩
  .rcases hρ0 i _ e with h|⟨_,h⟩|⟨j,d',rfl,hd,h⟩
   .cases h
   .cases h
   .cases h
    obtain⟨v,h1,h2⟩:=hv.get hd;refine⟨v,?_,h2⟩;rw[hσ,Uq,Tg (by rw[SD];exact(SR.mp h1).1),Ta,h1];rfl
  .rcases hρ0 i _ e with h|⟨_,h⟩|⟨j,d',rfl,hd,h⟩<;>cases h
  .rcases hρ0 i _ e with h|⟨_,h⟩|⟨j,d',rfl,hd,h⟩<;>cases h
  .rw[hσ]
   simp only[S0,Tc,SD,Ug];omega
  .rcases hρ0 i _ e with h|⟨_,h⟩|⟨j,d',rfl,hd,h⟩<;>cases h
  .rcases hρ0 i _ e with h|⟨rfl,h⟩|⟨j,d',rfl,hd,h⟩
   .cases h
   .cases h;rw[hσ];rfl
   .cases h
 .unfold wM at r
  generalize s a (.pt a::ds.map Sl.sh++S4 (N.length-(ds.length+1)) .no) sl=z at r ⊢;have wk:∀{H' Ha':Hp},bh (G5 q H) Ha H' Ha'->bh (G5 q H) Ha H' Ha':=λg=>g;cases z with
  |stuck=>exact r|exn y=>exact r.elim
  |ok y=>
   cases y with
   |nx ρ' st'=>exact λσ' H' Ha' vs' _ x'=>r .non H' Ha' vs' x'.g0 (λk hk=>⟨x'.n0 hk,x'.hl hk,x'.r k hk⟩) (aO.mpr rfl)
   |rt d st'=>
    intro v H' Ha' _ o rp;refine r v H' Ha' (λk=>if h:k<3 then(o.l k h).choose else[]) o.g (λk hk=>?_) rp;rw[dif_pos hk];exact⟨o.n k hk,(o.l k hk).choose_spec⟩
   |fr d=>exact r.elim
section
variable {P:Tr}{w:TU}{K:SE}{mg:SH->Option Sy}{base:S1}{rows:List Rw}{A:Nat->SA}{Q:Nat->TQ}{i k n:Nat}{r:Rw}{h:Hk}{s:SA->Ev->S3->ak gf}
def oJ(T:TG rows K mg A Q)(S:QE rows)(hh:rows[i]?=some r)(hn:r.ps.length=n+1)(b:∀(cdv:Sy) (A':TK) (outer:List Uh) (s0:SI) (H He Ha:Hp) (a:SA) (q:Nat->SA) (E:XK),dw k (A'.deeper (envOfC r.x (defScope r.st) s0.heap.objs.size (A i) cdv)) ->
   Hc (dN CX0 P w K mg base r.N r.x (defScope r.st) (A i) cdv A' outer s0 H E).nox E0 He Ha h a q (defBody r.st) (s a)):fL P w K mg base CX0 (k+1) (A i) (Q i) r.ps (KR K n h (wM r.N.length s)) r.x r.st :=
 ⟨zj (T i r hh).F (S r (S7 hh)) hn b,T i r hh⟩
end
def PE.nox{X:Cx}{e:Tn}{t:TE}(h:PE X.nox e t):PE X e t:=λπ s σ H Q I hw=>
 T4 (h π s σ H Q (I.wish _) hw) (λ_ _ ⟨v,H',I',r,q⟩=>⟨v,H',I'.unwish,r,q⟩) λ_ _ z=>T8 z
def Oq(K:SE)(He η Ha:Hp)(σ:L2.St)(r:ak Fl):XK:=λC ox H'=>∃x Ha' ρ',r=.exn x/\aD Ha Ha'/\eO K He η Ha' σ H' ρ'/\wq K Ha' x C ox
structure TL (X:Cx) (sts:List Ud) (g:bv):Prop where
 o:∀(π:List (SA×Obj)) (s:SI) (σ:L2.St) (H He η Ha:Hp) (ρ:Ev) (D:gV) (XE:Sy->SI->Prop),Inv X π σ H s->eO X.K He η Ha σ H ρ->mv X.K He η Ha (g ρ) D ->
  (∀σ1 H1 s1 e s',Inv X π σ1 H1 s1->gi X.prog X.w X.stack H1 s1 (Oq X.K He η Ha σ1 (g ρ)) e s'->XE e s')->Td (Tb X.prog X.w) X.A (execs sts X.env) (SP X π D) XE s
section
variable {X:Cx}{E:XK}{c e e0:Tn}{es:List Tn}{fc f0:am}{f g:bv}{fa:Ev->ak (ac)}{st:Ud}{sts:List Ud}{pos:Pos}
def LG:TL X [] av:=⟨λπ s σ H He η Ha ρ D XE I h q hx=>wpAny_execs_nil ⟨σ,H,I,q σ H Ha (aD.refl _) h⟩⟩
def zV(h1:TB X st f)(h2:TL X sts g):TL X (st::sts) (aw f g):=⟨λπ s σ H He η Ha ρ D XE I h q hx=>by
 have q:mv X.K He η Ha ((f ρ).bind λx=>match x with|.nx ρ'=>g ρ'|r=>.ok r) D:=q;have hx:∀σ1 H1 s1 e s',Inv X π σ1 H1 s1->gi X.prog X.w X.stack H1 s1 (Oq X.K He η Ha σ1 ((f ρ).bind λx=>match x with|.nx ρ'=>g ρ'|r=>.ok r)) e s'->XE e s':=hx;cases e1:f ρ with
 |stuck=>rw[e1]at q;exact q.elim
 |exn x=>
  rw[e1]at hx;refine wpAny_execs_cons (cX (h1.o π s σ H He η Ha ρ ⟨λ_ _=>False,λ_ _=>False,λ_ _=>False,λ_ _=>False⟩ XE I h (by rw[e1];trivial) λH1 s1 e s' I1 hc=>hx σ H1 s1 e s' I1 (gi.imp (λC ox H' ⟨y,Ha',e2,k⟩=>⟨y,Ha',ρ,by rw[e1]at e2;exact e2,k⟩) hc)) λfl s1 hf=>?_);cases fl with|next|brk|cont=>obtain⟨_,_,_,k⟩:=hf;exact k.elim|ret u=>obtain⟨_,_,_,_,_,k⟩:=hf;exact k.elim
 |ok d=>
  rw[e1]at q hx;cases d with
  |nx ρ1=>
   refine wpAny_execs_cons (cX (h1.o π s σ H He η Ha ρ ⟨λσ' H'=>∃Ha',aD Ha Ha'/\eO X.K He η Ha' σ' H' ρ1,λ_ _=>False,λ_ _=>False,λ_ _=>False⟩ XE I h (by rw[e1];exact λσ' H' Ha' z h'=>⟨Ha',z,h'⟩) λH1 s1 e s' I1 hc=>?_) λfl s1 hf=>?_)
   .refine hx σ H1 s1 e s' I1 (gi.imp (λC ox H' ⟨x,Ha',e2,k⟩=>?_) hc)
    rw[e1]at e2;cases e2
   .cases fl with
    |next=>
     obtain⟨σ',H',I',Ha',z,h'⟩:=hf;refine h2.o π s1 σ' H' He η Ha' ρ1 D XE I' h' ?_ λσ1 H1 s2 e s' I1 hc=>hx σ1 H1 s2 e s' I1 (gi.imp (λC ox H2 ⟨x,H02,ρ2,e2,z2,k⟩=>⟨x,H02,ρ2,e2,z.trans z2,k⟩) hc);have q:mv X.K He η Ha (g ρ1) D:=q;cases e2:g ρ1 with
     |stuck=>rw[e2]at q;exact q|exn x=>trivial
     |ok d2=>
      rw[e2]at q;exact bT.grow (r:=.ok d2) q z
    |brk=>obtain⟨_,_,_,k⟩:=hf;exact k.elim
    |cont=>obtain⟨_,_,_,k⟩:=hf;exact k.elim
    |ret u=>obtain⟨_,_,_,_,_,k⟩:=hf;exact k.elim
  |_=>
   refine wpAny_execs_cons (cX (h1.o π s σ H He η Ha ρ ⟨λ_ _=>False,D.rt,D.bk,D.ct⟩ XE I h (by rw[e1];exact q) λH1 s1 e s' I1 hc=>?_) λfl s1 hf=>?_)
   .refine hx σ H1 s1 e s' I1 (gi.imp (λC ox H' ⟨x,Ha',e2,k⟩=>?_) hc)
    rw[e1]at e2;cases e2
   .cases fl with
    |next=>obtain⟨_,_,_,k⟩:=hf;exact k.elim
    |brk=>exact hf
    |cont=>exact hf
    |ret u=>exact hf⟩
def iD(i:Nat)(fc f0:am)(fa:Ev->ak (ac))(m:ac->ak D):bv:=λρ=>match fc ρ with
 |.ok (.bl true)=>match f0 ρ with
  |.ok d=>.ok (.nx (ρ.set i (.sh d)))
  |_=>.stuck
 |.ok (.bl false)=>kS i fa m ρ
 |_=>.stuck
def DY{i:Nat}{y:SH}{pos' ipos:Pos}{k n:Nat}{fn:SA}{fd:TQ}{ps:ci}{m:ac->ak D}{x:SH}{p cpos:Pos}(hN:X.N.Nodup)(hi:X.N[i]?=some y)(hy:zL X.env.scope y)(hc:DT X.nox E0 c fc)(h0:DE X.nox E0 e0 f0)
  (F:FnOk X.prog X.w X.K X.mg X.base (gi X.prog X.w) k fn fd ps (spD X.K n m))(hr:dw k X.A)(hg:Gl X x)(hm:X.mg x=some (.ref fn))
  (hk:Vv X.K (.ref fn)=true)(hb:gb X.K fd ps [])(ha:DA X.nox E0 (e::es) fa)(hn:(e::es).length=n:=by rfl)(hl:∀ρ ds,fa ρ=.ok ds->ds.length=(e::es).length)
  (hdb:(x==("__debug__" : SH))=false:=by decide)(he:SJ (e::es) X.env=(false,eval e X.env)::SJ es X.env:=by exact aF rfl)(hpl:(TZ cpos (SJ es X.env)).any (·.1)=false:=by exact bj rfl)
  (hs:T1 (.IfExp c e0 (.Call (.Name x p) (e::es) [] cpos) ipos) (some (.Name y pos')) pos.line X.env=pure false:=by rfl)
  (hf:X.fn y=true∨X.env.scope.names.lookup y=some .local := by first|exact .inl rfl|exact .inr rfl|assumption):TB X (.Assign [.Name y pos'] (.IfExp c e0 (.Call (.Name x p) (e::es) [] cpos) ipos) pos) (iD i fc f0 fa m):=by
 refine⟨λπ s σ H He η Ha ρ D XE I h q hx=>?_⟩;have hc':=PT.nox (X:=X.wish XE) hc.o;have h0':=PE.nox (X:=X.wish XE) h0.o;refine wpAny_Assign_Name (cX (Q:=EP X π σ λv H1=>D.nx (σ.set i (some v)) H1) (wpAny_IfExp (cX (hc' π s σ H (λb H1=>fc ρ=.ok (.bl b)/\∃H01,bh H Ha H1 H01) (I.wish XE) ⟨Ha,ρ,h.g.sub,h.rd,?_⟩) λd s1 ⟨H1,I1,eb,H01,g1⟩=>?_)) λv s1 ⟨y,H1,I1,r1,q1⟩=>?_) hs
 .unfold iD at q
  cases e1:fc ρ with
  |stuck|exn x=>rw[e1]at q;exact q.elim
  |ok d=>
   rw[e1]at q;cases d with|bl b=>exact λH' Ha' g=>⟨rfl,Ha',g⟩| _=>exact q.elim
 .have I1:=I1.unwish
  have h1:=h.grow g1;cases d with
  |true=>
   refine T4 (h0' π s1 σ H1 _ (I1.wish XE) ⟨H01,ρ,h1.g.sub,h1.rd,?_⟩) (λv s2 ⟨y,H2,I2,r2,q2⟩=>⟨y,H2,I2.unwish,r2,q2⟩) λ_ _ z=>z;unfold iD at q;rw[eb]at q;replace q:mv X.K He η Ha (match f0 ρ with
    |.ok d=>.ok (.nx (ρ.set i (.sh d)))
    |_=>.stuck) D:=q
   cases e2:f0 ρ with
   |stuck|exn x=>rw[e2]at q;exact q.elim
   |ok d=>
    rw[e2]at q;exact λv H' Ha' g rp=>q _ H' Ha' (g1.z.trans g.z) ((h1.grow g).put rp)
  |false=>
   have qq:iD i fc f0 fa m ρ=kS i fa m ρ:=by unfold iD;rw[eb]
   rw[qq]at q hx;refine v8 (Q:=λv H1=>D.nx (σ.set i (some v)) H1) (Ex:=Ou X.K He η Ha σ ρ (kS i fa m ρ)) F hr hg hm hk hb ha.o I1 ?_ hx hdb he hpl;refine⟨H01,ρ,h1.g.sub,h1.rd,?_⟩;unfold kS at q ⊢;cases e1:fa ρ with
   |stuck=>rw[e1]at q;exact q|exn x=>rw[e1]at q;exact q.elim
   |ok ds=>
    rw[e1]at q;intro vs H2 H02 g2 r1;refine⟨?_,H02,ds,g2.sub,r1,?_⟩
    .have:=r1.length
     have:=hl ρ ds e1;omega
    .show post _ _ _ _ (m ds) _
     cases e2:m ds with
     |stuck=>simp only[e2]at q;exact q
     |exn x=>exact λC ox H' Ha' g ex=>⟨x,Ha',by simp only[e2];rfl,(g1.trans g2).z.trans g.z,h.grow ((g1.trans g2).trans g),ex⟩
     |ok d=>
      simp only[e2]at q;exact λv H' Ha' g rp=>q _ H' Ha' ((g1.trans g2).z.trans g.z) ((h.grow ((g1.trans g2).trans g)).put rp)
 .exact iA I1 hN hi hy r1 (λs2 I2=>⟨_,H1,I2,q1⟩) hf
def tW(hit:SH->Bool)(r:ak Fl):ak Fl:=match r with
 |.exn x=>if hit x.cls=true then .ok (.rt .non) else .stuck
 |r=>r
def Ef(g:bv)(hit:SH->Bool):bv:=λρ=>tW hit (g ρ)
def Kg{He η:Hp}{hit:SH->Bool}{c:SH}{np hpos rp cp:Pos}{jn}{cv:Sy}(hstk:X.stack=X.env::X.outer/\X.env.frame=some X.env.locals)(hb:TL X sts g)
  (hg:Gl X c)(hm:X.mg c=some cv)(hhit:∀x C,hit x=true->XC X.K x C->WS X.K (.ref C) cv=some true)(hdb:(c==("__debug__" : SH))=false:=by decide) :
  DS X E He η (.Try sts [.ExceptHandler (some (.Name c np)) none [.Return (some (.Constant .none jn cp)) rp] hpos] [] [] pos) (Ef g hit):=by
 refine⟨?_⟩;rintro π s σ H D I ⟨Ha,ρ,h,q⟩;have q:bT X.K E He η Ha (tW hit (g ρ)) D:=q;have hq:mv X.K He η Ha (g ρ) D:=by
  cases e1:g ρ with
  |exn x=>trivial|stuck=>rw[e1]at q;exact q
  |ok r=>rw[e1]at q;cases r<;>exact q
 have hit1:∀x,g ρ=.exn x->hit x.cls=true/\bT X.K E He η Ha (.ok (.rt .non)) D:=λx e1=>by
  rw[e1]at q;unfold tW at q
  by_cases z:hit x.cls=true
  .simp only[if_pos z]at q;exact⟨z,q⟩
  .simp only[if_neg z]at q;exact q.elim
 refine wpAny_Try_except (cX (hb.o π s σ H He η Ha ρ D _ I h hq λσ1 H1 s1 e s' I1 hc=>?_) λf s1 hf=>?_)
 .refine Kq hstk I1 hc hg hm (λC ox H' ⟨x,Ha',_,e1,_,_,⟨⟨c',ec,xc⟩,_⟩⟩=>?_) (λea C dc oc ox H' s2 ⟨x,Ha',ρ',e1,sm,srx,⟨⟨c',ec,xc⟩,hm2⟩⟩ hox hne hdc hoc I2=>?_) hdb
  .cases ec;exact hhit _ _ (hit1 x e1).1 xc
  .have srx2:=srx.grow (aI (o:=.ext (λg=>g.get? ea=some oc)) srx.g.sub hne)
   have hr:ph (DL.hand X ea) [.Return (some (.Constant .none jn cp)) rp] _:=cO (qP (yP (j:=jn) (pos:=cp))) kc;exact T4 (hr π s2 σ1 _ D I2 ((hit1 x e1).2 .non _ _ srx2.g (aO.mpr rfl))) (λ_ _ z=>z) λ_ _ z=>z.elim
 .cases f with
  |next=>exact wpAny_execs_nil hf
  |brk=>exact hf
  |cont=>exact hf
  |ret u=>exact hf
end
section
variable {X:Cx}{E:XK}{He η:Hp}{h:Hk}{a:SA}{q:Nat->SA}{e:Tn}{es:List Tn}{fa:Ev->ak (ac)}{pos:Pos}{CX:tT}{k k0 n:Nat}{fn:SA}{fd:TQ}{ps:ci}{x:SH}{p:Pos}{ft:Ud}
def rJ(i:Nat){y:SH}{p1:Pos}{m:SA->S3->ac->ak (D×S3)}(B:fL X.prog X.w X.K X.mg X.base CX k0 fn fd ps (KR X.K n h m) x ft)(hr:dw k X.A)(ha:DA X E es fa)(hle:k0<=k:=by decide)(hx:ic CX X E:=by first|exact K0|exact yQ|exact Ao)(hl:∀ρ ds,fa ρ=.ok ds->ds.length=n:=by first|exact N8|exact N7|exact Qk|exact al4|exact al5)
  (hN:X.N[i]?=some y:=by rfl)(hv:yh X.env.scope y:=by first|exact SY rfl|exact WI (SY rfl)|exact WI (WI rfl))(hg:Gl X x:=by exact rfl)
  (hd:(y==("__debug__" : SH))=false:=by decide)(hcd:(y==("__classdict__" : SH))=false:=by decide)(hdb:(x==("__debug__" : SH))=false:=by decide)(he:SJ (.Name y p1::es) X.env=(false,eval (.Name y p1) X.env)::SJ es X.env:=by exact aF rfl)(hpl:(TZ pos (SJ es X.env)).any (·.1)=false:=by exact bj rfl) :
  JE X E He η h a q (.Call (.Name x p) (.Name y p1::es) [] pos) (i9 i a fa m):=Jd (B.F.mono hle) hr hg B.t.g B.t.F.kp B.t.b hx hN hv ha hl hd hcd hdb he hpl
def Sg{y:SH}{pos' ipos cpos:Pos}{m:ac->ak D}{c e0:Tn}{fc f0:am}(hN:X.N.Nodup){i:Nat}(hi:X.N[i]?=some y)(hy:zL X.env.scope y)(hc:DT X.nox E0 c fc)(h0:DE X.nox E0 e0 f0)(B:fL X.prog X.w X.K X.mg X.base (gi X.prog X.w) k0 fn fd ps (spD X.K n m) x ft)(hr:dw k X.A)(ha:DA X.nox E0 (e::es) fa)(hle:k0<=k:=by decide)(hl:∀ρ ds,fa ρ=.ok ds->ds.length=(e::es).length:=by first|exact N8|exact N7|exact Qk|exact al4|exact al5)(hn:(e::es).length=n:=by rfl)
  (hg:Gl X x:=by exact rfl)(hdb:(x==("__debug__" : SH))=false:=by decide)(he:SJ (e::es) X.env=(false,eval e X.env)::SJ es X.env:=by exact aF rfl)(hpl:(TZ cpos (SJ es X.env)).any (·.1)=false:=by exact bj rfl)
  (hs:T1 (.IfExp c e0 (.Call (.Name x p) (e::es) [] cpos) ipos) (some (.Name y pos')) pos.line X.env=pure false:=by rfl)
  (hf:X.fn y=true∨X.env.scope.names.lookup y=some .local := by first|exact .inl rfl|exact .inr rfl|assumption):TB X (.Assign [.Name y pos'] (.IfExp c e0 (.Call (.Name x p) (e::es) [] cpos) ipos) pos) (iD i fc f0 fa m):=DY hN hi hy hc h0 (B.F.mono hle) hr hg B.t.g B.t.F.kp B.t.b ha hn hl hdb he hpl hs hf
end
def CP(i:Nat)(ρ:Ev)(ds:ac)(d:D):ak Fl:=match d with
 |.lst es=>if ds.length+es.length<=line then .ok (.nx (ρ.set i (.ow (.lst (ds++es))))) else .stuck
 |_=>.stuck
def HX(i:Nat)(f:am):bv:=λρ=>xg ρ i λds=>(f ρ).bind (CP i ρ ds)
section
variable {X:Cx}{E:XK}{He η:Hp}{e:Tn}{f:am}{pos:Pos}
def uB{i:Nat}{x:SH}{p1 p2 p3:Pos}(hN:X.N[i]?=some x)(hv:yh X.env.scope x)(he:DF X E e f)
  (hd:(x==("__debug__" : SH))=false:=by decide)(hcd:(x==("__classdict__" : SH))=false:=by decide)
  (hbase:Ub (.Name x p1) "extend" X.env (eval (.Name x p1) X.env)=eval (.Name x p1) X.env:=by rfl)
  (hfew:((TZ p3 (SJ [e] X.env)).all (λx=>!x.1)&&(VB p3 (US [] X.env)).all (λx=>x.1.isSome)
  &&decide ([e].length+([]:List U3).length+(if([]:List U3).isEmpty then 0 else 1)<30))=true:=by exact gO rfl)
  (hline:(p2.endLine==p3.line)=true:=by rfl) (hs:SJ [e] X.env=(false,eval e X.env)::SJ [] X.env:=by exact aF rfl) (hplain:(TZ p3 (SJ [] X.env)).any (·.1)=false:=by exact bj rfl)
  (hw:T1 (.Call (.Attribute (.Name x p1) "extend" p2) [e] [] p3) none pos.line X.env=pure false:=by rfl) :
  DS X E He η (.Expr (.Call (.Attribute (.Name x p1) "extend" p2) [e] [] p3) pos) (HX i f):=by
 refine⟨?_⟩;refine cf (kd (uh Vd PySem.F.slot_list_extend PySem.F.type_list_extend Cz (gq hN hv hd hcd) (cG he.o e7 hs) hbase hfew hline hs hplain) hw) λD σ H ⟨Ha,ρ,h,q⟩=>?_;obtain⟨ds,p,vs,e1,e2,e3,e4,e5,e6,q⟩:=xa h q;refine⟨.ref p,e2,.inl ⟨rfl,vs,fM.of e5⟩,?_⟩;refine⟨Ha,ρ,h.g.sub,h.rd,?_⟩;cases c:f ρ with
 |stuck=>rw[c]at q;exact q|exn x=>rw[c]at q;exact λC ox H' Ha' g ex=>q C ox H' Ha' (h.g.trans g) ex
 |ok d=>
  rw[c]at q;cases d with
  |lst es=>
   intro b zs H' Ha' g hp h0 hv rp;have q:bT X.K E He η Ha (if ds.length+es.length<=line then .ok (.nx (ρ.set i (.ow (.lst (ds++es))))) else .stuck) D:=q
   by_cases hl:ds.length+es.length<=line
   .rw[if_pos hl]at q
    have e5':H' p=some (.lst vs):=g.s _ _ e5;refine⟨p,b,vs,zs,rfl,rfl,e5',hv,by rw[←e6.length,←rp.length];exact SW hl (by decide),?_⟩;exact q σ _ Ha' g.z ((h.grow g).write e1 e2 ((e6.mono g.z).app rp))
   .rw[if_neg hl]at q;exact q.elim
  |_=>exact q
end
def Jk{x y:SH}{l:List (SH×Bool)}(h:gN [(y,true)] x=true)(hl:gN l y=true):gN l x=true:=by
 by_cases c:x=y
 .rw[c];exact hl
 .exfalso
  unfold gN oF at h;rw[if_neg (λz=>c z.symm)]at h;have h:false=true:=h;cases h
def xw:Int->List Int->Int
 |a,[]=>a
 |a,b::r=>xw (if b > a then b else a) r
theorem E5:∀(r:List Int) (a:Int),xw a r∈a::r/\∀x∈a::r,x<=xw a r
 |[],a=>⟨by unfold xw;exact SQ,λx hx=>by unfold xw;rw[TC.mp hx];exact Int.le_refl _⟩
 |b::r,a=>by
  unfold xw;have ih:=E5 r (if b > a then b else a);generalize hm:xw (if b > a then b else a) r=m at ih
  by_cases h:b > a
  .rw[if_pos h]at ih
   refine⟨SM _ ih.1,λx hx=>?_⟩;rcases SV.mp hx with rfl|hx
   .have:=ih.2 b SQ;omega
   .exact ih.2 x hx
  .rw[if_neg h]at ih
   refine⟨?_,λx hx=>?_⟩
   .rcases SV.mp ih.1 with e|e
    .rw[e];exact SQ
    .exact SM _ (SM _ e)
   .have ha:=ih.2 a SQ
    rcases SV.mp hx with rfl|hx
    .exact ha
    .rcases SV.mp hx with rfl|hx
     .omega
     .exact ih.2 x (SM _ hx)
section
variable {prog:Tr}{w:TU}{A:TK}{E:Sy->SI->Prop}{s:SI}{l:SA}{xs:Array (Int×Tok)}
def xB{Q:Sy->SI->Prop}(hl:s.heap.IsTuple l (intItems xs))
  (h:∀si:SI,si={ s with heap:=s.heap.push { cls:=.type "tuple_iterator",data:=.fields #[.ref l,.int 0 0] } } ->
   (si.heap.IsTupleIter s.heap.objs.size l 0/\si.heap.IsTuple l (intItems xs))->(∀b∈[s.heap.objs.size,l],b<si.heap.objs.size)->l≠s.heap.objs.size->Q (.ref s.heap.objs.size) si) :
  Td (Tb prog w) A (XF (.ref l)) Q E s:=by
 have hlt:l<s.heap.objs.size:=by obtain⟨_,e,_⟩:=hl;exact S9 e
 refine wpAny_pyIter_tuple hl (h _ rfl ⟨⟨_,TH _ rfl,rfl,rfl⟩,hl.push _⟩ (λb hb=>?_) (Ts hlt));show b<(s.heap.push _).objs.size;rw[Wz];rcases SV.mp hb with rfl|hb
 .exact U0 _
 .rcases SV.mp hb with rfl|hb
  .exact Nat.lt_succ_of_lt hlt
  .cases hb
def Cr{h':S1}(hk:∀b o,b∉[s.heap.objs.size]->(s.heap.push { cls:=.type "tuple_iterator",data:=.fields #[.ref l,.int 0 0] }).get? b=some o->h'.get? b=some o) :
  ∀b o,s.heap.get? b=some o->h'.get? b=some o:=λb o e=>by
 refine hk b o (λhm=>?_) (SK _ e);rcases SV.mp hm with e1|hm
 .exact absurd (e1▸S9 e) (Vr _)
 .cases hm
def yX{Q:Sy->SI->Prop}(hh:A.handled=none)(hl:s.heap.IsTuple l (intItems xs))(hne:0<xs.size)
  (h:∀v h' tk,(intItems xs)[argBest (λi j=>decide (numAt xs i > numAt xs j)) (xs.size-1)]?=some v->(∀b o,s.heap.get? b=some o->h'.get? b=some o)->Q v { s with heap:=h',toks:=tk }) :
  Td (Tb prog w) A (call (.builtin "max") [.ref l]) Q E s:=by
 refine call_max_walk (xB hl λsi e st hfp hlI=>?_);subst e;refine⟨_,_,_,_,_,_,_,rfl,Walks.tuple (A:=A.in1) hh _ l hlI (intItems xs),st,hfp,by simpa[intItems] using hne,CmpOf.ints_gt (numAt xs) (λ_ _=>intItems_at),λv h' tk hP hk=>?_⟩;exact h v h' tk (by simpa[intItems] using hP) (Cr hk)
end
section
variable {X:Cx}{E:XK}
def xW(x:D):ak D:=match x with
 |.lst ds=>match kn ds with
  |some (n::ns)=>.ok (.int (xw n ns))
  |_=>.stuck
 |.tup ds=>match kn ds with
  |some (n::ns)=>.ok (.int (xw n ns))
  |_=>.stuck
 |_=>.stuck
def KY(K:SE):al->Hp->VK->Prop:=λxs H Q=>∃p ds n ns,xs=[.ref p]/\(Rep K H (.lst ds) (.ref p)∨Rep K H (.tup ds) (.ref p))/\kn ds=some (n::ns)/\Q (.int (xw n ns)) H
def Bi{xs:Array (Int×Tok)}{n:Int}{ns:List Int}(e:n::ns=xs.toList.map (·.1)){v:Sy}(hv:(intItems xs)[argBest (λi j=>decide (numAt xs i > numAt xs j)) (xs.size-1)]?=some v):∃t,v=.int (xw n ns) t:=by
 obtain⟨t,rfl⟩:=intItems_at hv;have hsz:0<xs.size:=by
  have:=congrArg VY e;rw[S0,SD,Uo (xs:=xs)]at this;omega
 obtain⟨h1,h2⟩:=argBest_gt (numAt xs) (xs.size-1);obtain⟨m1,m2⟩:=E5 ns n;have hA:numAt xs (argBest (λi j=>decide (numAt xs i > numAt xs j)) (xs.size-1))∈n::ns:=by
  rw[e,numAt_eq];exact getD_mem (by rw[SD,Uo];omega)
 have hB:xw n ns<=numAt xs (argBest (λi j=>decide (numAt xs i > numAt xs j)) (xs.size-1)):=by
  rw[e]at m1;obtain⟨j,hj,ej⟩:=mem_getD m1;rw[SD,Uo]at hj;have:=h2 j (by omega);rw[numAt_eq (j:=j)]at this;omega
 have:=m2 _ hA;exact⟨t,by congr 1;omega⟩
def C5(hc:X.calm=true):iU X (.builtin "max") (KY X.K):=by
 intro π s σ H xs us Q I r h;obtain⟨p,ds,n,ns,rfl,hr,hi,q⟩:=h;obtain⟨u,rfl,ru⟩:=r.one;rcases hr with hr|hr
 .obtain⟨a,vs,its,ea,rfl,h1,h2,h3,h4,_⟩:=bo I hr ru
  have hI:=rm hi h2 h3;obtain⟨xs,hx⟩:=hI.allInts.items;have hl':s.heap.IsList a (intItems xs):=hx▸h4;have e1:n::ns=xs.toList.map (·.1):=by
   rw[←nums_intItems,←hx];exact(show numsOf its.toArray.toList=n::ns from hI.numsOf).symm
  refine max_intList (I.ok.hd hc) hl' (by have:=congrArg VY e1;rw[S0,SD,Uo (xs:=xs)]at this;omega) λv h' tk hv hk=>?_;obtain⟨t,rfl⟩:=Bi e1 hv;exact⟨.int _,H,I.kept (t':=tk) (λb o e=>hk b o e),⟨_,rfl⟩,q⟩
 .obtain⟨a,vs,its,ea,rfl,h1,h2,h3,h4,_⟩:=br I hr ru
  have hI:=rm hi h2 h3;obtain⟨xs,hx⟩:=hI.allInts.items;have hl':s.heap.IsTuple a (intItems xs):=hx▸(show s.heap.IsTuple a its.toArray from h4);have e1:n::ns=xs.toList.map (·.1):=by
   rw[←nums_intItems,←hx];exact(show numsOf its.toArray.toList=n::ns from hI.numsOf).symm
  refine yX (I.ok.hd hc) hl' (by have:=congrArg VY e1;rw[S0,SD,Uo (xs:=xs)]at this;omega) λv h' tk hv hk=>?_;obtain⟨t,rfl⟩:=Bi e1 hv;exact⟨.int _,H,I.kept (t':=tk) (λb o e=>hk b o e),⟨_,rfl⟩,q⟩
def Kp:jx X E (KY X.K) (m1 xW):=nc λx v H Ha Q hs r q=>by
 cases x with
 |lst ds=>
  unfold xW at q;obtain⟨p,vs,rfl,h1,h2⟩:=aB.mp r;cases e:kn ds with
  |none=>simp only[e]at q;exact q.elim
  |some ns=>
   cases ns with
   |nil=>simp only[e]at q;exact q.elim
   |cons n ns=>
    simp only[e]at q;exact⟨p,ds,n,ns,rfl,.inl (r.mono hs),e,bw hs q (ri _)⟩
 |tup ds=>
  unfold xW at q;obtain⟨p,vs,rfl,h1,h2⟩:=aC.mp r;cases e:kn ds with
  |none=>simp only[e]at q;exact q.elim
  |some ns=>
   cases ns with
   |nil=>simp only[e]at q;exact q.elim
   |cons n ns=>
    simp only[e]at q;exact⟨p,ds,n,ns,rfl,.inr (r.mono hs),e,bw hs q (ri _)⟩
 |_=>exact q.elim
end
end DL
namespace K74
open PySem L2 DL
noncomputable def jB:bv :=
 (aw (eC (af (af (ag 0) (dC (.int 1)) aH) (dC (.int 1)) fN)
 (aw (bI (ao (ae (af (ag 0) (dC (.int 0)) aH) au) (m1 kv)))
 av)
 av)
 (aw (bI (af (af (ao (ae (af (ag 0) (dC (.int 0)) aH) au) (m1 kv)) (dC (.str "/")) aZ) (ao (ae (af (ag 0) (dC (.int 1)) aH) au) (m1 kv)) aZ))
 av))
def m_shown_ratio:ac->ak D:=cq 1 jB
noncomputable def sI:bv :=
 (aw (eC (af (af (ag 0) (dC (.int 1)) aH) (dC (.int 1)) fN)
 (aw (bI (ao (ae (af (ag 0) (dC (.int 0)) aH) au) (m1 kv)))
 av)
 av)
 (aw (bI (af (af (ao (ae (af (ag 0) (dC (.int 0)) aH) au) (m1 kv)) (dC (.str "/")) aZ) (ao (ae (af (ag 0) (dC (.int 1)) aH) au) (m1 kv)) aZ))
 av))
def bL:ac->ak D:=cq 1 sI
noncomputable def gF:bv :=
 (aw (aY 1 (G6 (sU lK (ag 0) (dC (.str "-"))) (iW (ag 0) (dD (dC (.int 1))) gI) (ag 0)))
 (aw (bI (gh (ib C0 C0 (dC (.int 1)) (ao (ae (ag 1) au) (m1 cC)) (dC (.int 60))) (ao (ae (eY 1 [] (BI (ag 1)) (dz 0) mYes (af (ag 0) (dC (.str "0123456789")) xX)) au) (m1 tN))))
 av))
def m_has_figures:ac->ak D:=cq 2 gF
abbrev m_is_ratio:ac->ak D:=Com.m_is_ratio
noncomputable def cL:bv :=
 (aw (aY 1 (G6 (aS (ag 0) (dW "str")) (sU cA (ag 0) (dC (.str "/"))) (ao au cY)))
 (aw (eC (fE (bV (ib C0 C0 (dC (.int 1)) (ao (ae (ag 1) au) (m1 cC)) (dC (.int 2)))) (bV (ao (ae (eY 1 [] (u3 (ag 1)) (dz 0) mYes (ao (ae (ag 0) au) m_has_figures)) au) (m1 tN))))
 (aw (cg "NoText" ["row"] (ae (dC (.int 0)) au))
 av)
 av)
 (aw (aY 2 (ao (ae (ao (ae (af (ag 1) (dC (.int 0)) aH) au) (m1 lV)) (ae (G6 (af (ao (ae (ag 1) au) (m1 cC)) (dC (.int 2)) fN) (ao (ae (af (ag 1) (dC (.int 1)) aH) au) (m1 lV)) (dC (.int 1))) au)) dE))
 (aw (eC (fE (bV (ao (ae (ag 2) au) m_is_ratio)) (af (ao (ae (ag 2) au) m_shown_ratio) (ag 0) jC))
 (aw (cg "NoText" ["row"] (ae (dC (.int 0)) au))
 av)
 av)
 (aw (bI (ag 2))
 av)))))
def m_read_ratio:ac->ak D:=cq 3 cL
end K74
namespace K76
open PySem L2 DL
def gK:List (SH×Bool):=[("NoText",true)]
abbrev bL:ac->ak D:=K74.bL
noncomputable def nu:bv :=
 (aw (mx 1 (eY 1 [] (u3 (af (ag 0) (dC (.int 0)) aH)) (dz 0) mYes (af (dC (.str "place ")) (ag 0) aZ)))
 (aw (td (af (ag 0) (dC (.int 1)) aH) (ik [2,3,4,5,6])
 (aw (aY 7 (dC (.str "-")))
 (aw (eC (af (ag 6) (dC (.non)) jV)
 (aw (aY 7 (ao (ae (ag 6) au) bL))
 av)
 av)
 (aw (cR 1 (k8 (dC (.str " ")) (ae (ao (ae (dC (.str "tie")) (ae (ag 2) (ae (ag 3) (ae (ag 4) (ae (ao (ae (ag 5) au) bL) (ae (ag 7) au)))))) cY) au)))
 av))))
 (aw (bI (af (ag 1) (ao (ae (af (dC (.str "first ")) (af (ag 0) (dC (.int 2)) aH) aZ) (ae (af (dC (.str "last ")) (af (ag 0) (dC (.int 3)) aH) aZ) au)) cY) aZ))
 av)))
def cz:ac->ak D:=cq 8 nu
abbrev m_is_name:ac->ak D:=Com.m_is_name
noncomputable def dB:SA->Ev->S3->ak gf:=λa=>
 (cZ (wm (.ins "Draft" ["places","ties","ends"]) 0 a (fE (af (aS (ag 0) (iN "ties")) (ao au cY) jC) (fE (af (aS (ag 0) (iN "ends")) (ao au cY) jC) (af (ao (ae (aS (ag 0) (iN "places")) au) (m1 cC)) (dC (.int 7)) fN)))
 (cZ (pC (dC (.bl false)))
 cu)
 cu)
 (cZ (wm (.ins "Draft" ["places","ties","ends"]) 0 a (fE (bV (ao (ae (ag 1) au) m_is_name)) (af (ag 1) (aS (ag 0) (iN "places")) xX))
 (cZ (pC (dC (.bl false)))
 cu)
 cu)
 (cZ (xA (.ins "Draft" ["places","ties","ends"]) 0 a 0 (ag 1))
 (cZ (pC (dC (.bl true)))
 cu))))
def m_takes_place:SA->S3->ac->ak (D×S3):=wM 2 dB
noncomputable def eM:SA->Ev->S3->ak gf:=λa=>
 (cZ (wm (.ins "Draft" ["places","ties","ends"]) 0 a (fE (af (ag 1) (dC (.non)) pI) (fE (af (aS (ag 0) (iN "ends")) (ao au cY) jC) (af (ao (ae (aS (ag 0) (iN "ties")) au) (m1 cC)) (dC (.int 14)) fN)))
 (cZ (pC (dC (.bl false)))
 cu)
 cu)
 (cZ (wm (.ins "Draft" ["places","ties","ends"]) 0 a (fE (af (af (ag 1) (dC (.int 0)) aH) (aS (ag 0) (iN "places")) c6) (af (af (ag 1) (dC (.int 1)) aH) (aS (ag 0) (iN "places")) c6))
 (cZ (pC (dC (.bl false)))
 cu)
 cu)
 (cZ (xA (.ins "Draft" ["places","ties","ends"]) 0 a 1 (ag 1))
 (cZ (pC (dC (.bl true)))
 cu))))
def m_takes_tie:SA->S3->ac->ak (D×S3):=wM 2 eM
abbrev m_read_ratio:ac->ak D:=K74.m_read_ratio
abbrev m_is_tie:ac->ak D:=Com.m_is_tie
noncomputable def fF:bv :=
 (aw (Ef (aw (kS 1 (ae (af (ag 0) (dC (.int 4)) aH) au) m_read_ratio)
 (aw (iD 2 (af (af (ag 0) (dC (.int 5)) aH) (dC (.str "-")) fN) (dC (.non)) (ae (af (ag 0) (dC (.int 5)) aH) au) m_read_ratio)
 av)) (gN gK))
 (aw (aY 3 (ao (ae (af (ag 0) (dC (.int 1)) aH) (ae (af (ag 0) (dC (.int 2)) aH) (ae (af (ag 0) (dC (.int 3)) aH) (ae (ag 1) (ae (ag 2) au))))) dE))
 (aw (bI (G6 (ao (ae (ag 3) au) m_is_tie) (ag 3) (dC (.non))))
 av)))
def m_read_tie:ac->ak D:=cq 4 fF
noncomputable def gS:SA->Ev->S3->ak gf:=λa=>
 (cZ (wm (.ins "Draft" ["places","ties","ends"]) 0 a (fE (af (ao (ae (aS (ag 0) (iN "places")) au) (m1 cC)) (dC (.int 2)) Gz) (fE (af (ag 1) (aS (ag 0) (iN "places")) c6) (af (ag 1) (aS (ag 0) (iN "ends")) xX)))
 (cZ (pC (dC (.bl false)))
 cu)
 cu)
 (cZ (xA (.ins "Draft" ["places","ties","ends"]) 0 a 2 (ag 1))
 (cZ (pC (dC (.bl true)))
 cu)))
def m_takes_end:SA->S3->ac->ak (D×S3):=wM 2 gS
noncomputable def pe:SA->Ev->S3->ak gf:=λa=>
 (cZ (wm (.ins "Draft" ["places","ties","ends"]) 0 a (gh (af (af (ag 1) (dC (.int 0)) aH) (dC (.str "place")) fN) (af (ao (ae (ag 1) au) (m1 cC)) (dC (.int 2)) fN))
 (cZ (rl (i9 0 a (ae (af (ag 1) (dC (.int 1)) aH) au) m_takes_place))
 cu)
 cu)
 (cZ (wm (.ins "Draft" ["places","ties","ends"]) 0 a (gh (af (af (ag 1) (dC (.int 0)) aH) (dC (.str "tie")) fN) (af (ao (ae (ag 1) au) (m1 cC)) (dC (.int 6)) fN))
 (cZ (rl (i9 0 a (ae (ao (ae (ag 1) au) m_read_tie) au) m_takes_tie))
 cu)
 cu)
 (cZ (wm (.ins "Draft" ["places","ties","ends"]) 0 a (gh (af (af (ag 1) (dC (.int 0)) aH) (dC (.str "first")) fN) (af (ao (ae (ag 1) au) (m1 cC)) (dC (.int 2)) fN))
 (cZ (rl (zc (.ins "Draft" ["places","ties","ends"]) 0 a (af (aS (ag 0) (iN "ends")) (ao au cY) fN) (i9 0 a (ae (af (ag 1) (dC (.int 1)) aH) au) m_takes_end)))
 cu)
 cu)
 (cZ (wm (.ins "Draft" ["places","ties","ends"]) 0 a (gh (af (af (ag 1) (dC (.int 0)) aH) (dC (.str "last")) fN) (af (ao (ae (ag 1) au) (m1 cC)) (dC (.int 2)) fN))
 (cZ (rl (zc (.ins "Draft" ["places","ties","ends"]) 0 a (af (ao (ae (aS (ag 0) (iN "ends")) au) (m1 cC)) (dC (.int 1)) fN) (i9 0 a (ae (af (ag 1) (dC (.int 1)) aH) au) m_takes_end)))
 cu)
 cu)
 (cZ (pC (dC (.bl false)))
 cu)))))
def m_takes_row:SA->S3->ac->ak (D×S3):=wM 2 pe
noncomputable def b_read_web:bv :=
 (aw (eC (bV (aS (ag 0) (dW "str")))
 (aw (cg "NoText" ["row"] (ae (dC (.int 0)) au))
 av)
 av)
 (lI 1 λa=>(cZ (mi (aY 2 (sU cA (ag 0) (dC (.str "\n")))))
 (cZ (CF (sY (ag 2)) (ik [3,4])
 (cZ (CD (i9 1 a (ae (sU cA (ag 4) (dC (.str " "))) au) m_takes_row)
 (cZ (mi (cg "NoText" ["row"] (ae (ag 3) au)))
 cu))
 cu))
 (cZ (wm (.ins "Draft" ["places","ties","ends"]) 1 a (af (ao (ae (aS (ag 1) (iN "ends")) au) (m1 cC)) (dC (.int 2)) Gz)
 (cZ (mi (cg "NoText" ["row"] (ae (ao (ae (ag 2) au) (m1 cC)) au)))
 cu)
 cu)
 (cZ (N6 1 a false)
 cu))))))
noncomputable def m_read_web:ac->ak D:=cq 5 b_read_web
end K76
namespace K77
open PySem L2 DL
abbrev m_shown_ratio:ac->ak D:=K74.m_shown_ratio
abbrev m_look_at_web:ac->ak D:=Nwb.m_look_at_web
noncomputable def b_shown_tie:bv :=
 (aw (aY 1 (G6 (af (af (ag 0) (dC (.int 4)) aH) (dC (.non)) pI) (dC (.str "-")) (ao (ae (af (ag 0) (dC (.int 4)) aH) au) m_shown_ratio)))
 (aw (bI (k8 (dC (.str " ")) (ae (ao (ae (dC (.str "tie")) (ae (af (ag 0) (dC (.int 0)) aH) (ae (af (ag 0) (dC (.int 1)) aH) (ae (af (ag 0) (dC (.int 2)) aH) (ae (ao (ae (af (ag 0) (dC (.int 3)) aH) au) m_shown_ratio) (ae (ag 1) au)))))) cY) au)))
 av))
def m_shown_tie:ac->ak D:=cq 2 b_shown_tie
noncomputable def b_shown_web:bv :=
 (aw (kG (ao (ae (ag 0) au) m_look_at_web))
 (aw (mx 1 (eY 1 [] (u3 (af (ag 0) (dC (.int 0)) aH)) (dz 0) mYes (af (dC (.str "place ")) (ag 0) aZ)))
 (aw (HX 1 (eY 1 [] (u3 (af (ag 0) (dC (.int 1)) aH)) (dz 0) mYes (ao (ae (ag 0) au) m_shown_tie)))
 (aw (HX 1 (ao (ae (af (dC (.str "first ")) (af (ag 0) (dC (.int 2)) aH) aZ) (ae (af (dC (.str "last ")) (af (ag 0) (dC (.int 3)) aH) aZ) au)) cY))
 (aw (bI (k8 (dC (.str "\n")) (ae (ag 1) au)))
 av)))))
def m_shown_web:ac->ak D:=cq 2 b_shown_web
end K77
namespace K75
open PySem L2 DL
def kj:List (SH×Bool):=[("NoText",true),("NoTurn",true),("NoWeb",true)]
abbrev gK:List (SH×Bool):=K76.gK
def tab_1:SH->Option Bool:=oF [("NoText",false),("NoTurn",false),("NoWeb",true)]
def ft_row:SH->Option Bool:=oF [("NoText",true)]
abbrev bz:ac->ak D:=Com.bz
abbrev bF:ac->ak D:=Com.bF
abbrev dP:ac->ak D:=Com.dP
abbrev eI:ac->ak D:=Com.eI
abbrev bP:ac->ak D:=Com.bP
abbrev bX:ac->ak D:=Com.bX
abbrev eG:ac->ak D:=Com.eG
abbrev eF:ac->ak D:=Com.eF
abbrev bL:ac->ak D:=K74.bL
abbrev cz:ac->ak D:=K76.cz
abbrev m_is_name:ac->ak D:=Com.m_is_name
abbrev m_look_at_places:ac->ak D:=Nwb.m_look_at_places
abbrev m_is_whole:ac->ak D:=Com.m_is_whole
abbrev m_common_divisor:ac->ak D:=Com.m_common_divisor
abbrev m_is_ratio:ac->ak D:=Com.m_is_ratio
abbrev m_is_length:ac->ak D:=Com.m_is_length
abbrev m_is_worth:ac->ak D:=Com.m_is_worth
abbrev m_is_tie:ac->ak D:=Com.m_is_tie
abbrev m_look_at_ties:ac->ak D:=Nwb.m_look_at_ties
abbrev m_is_place:ac->ak D:=Com.m_is_place
abbrev m_look_at_web:ac->ak D:=Nwb.m_look_at_web
abbrev m_shown_ratio:ac->ak D:=K74.m_shown_ratio
abbrev m_shown_tie:ac->ak D:=K77.m_shown_tie
abbrev m_shown_web:ac->ak D:=K77.m_shown_web
abbrev m_takes_place:SA->S3->ac->ak (D×S3):=K76.m_takes_place
abbrev m_takes_tie:SA->S3->ac->ak (D×S3):=K76.m_takes_tie
abbrev m_has_figures:ac->ak D:=K74.m_has_figures
abbrev m_read_ratio:ac->ak D:=K74.m_read_ratio
abbrev m_read_tie:ac->ak D:=K76.m_read_tie
abbrev m_takes_end:SA->S3->ac->ak (D×S3):=K76.m_takes_end
abbrev m_takes_row:SA->S3->ac->ak (D×S3):=K76.m_takes_row
noncomputable abbrev m_read_web:ac->ak D:=K76.m_read_web
noncomputable def nv:bv :=
 (aw (eC (fE (bV (aS (ag 0) (dW "tuple"))) (af (ao (ae (ag 0) au) (m1 cC)) (dC (.int 4)) jC))
 (aw (bI (dC (.bl false)))
 av)
 av)
 (aw (eC (fE (bV (aS (af (ag 0) (dC (.int 0)) aH) (dW "list"))) (bV (aS (af (ag 0) (dC (.int 1)) aH) (dW "list"))))
 (aw (bI (dC (.bl false)))
 av)
 av)
 (aw (td (af (ag 0) (dC (.int 1)) aH) (dz 1)
 (aw (eC (fE (bV (aS (ag 1) (dW "tuple"))) (bV (aS (af (ag 1) (dC (.int 3)) aH) (dW "tuple"))))
 (aw (bI (dC (.bl false)))
 av)
 av)
 av))
 (aw (bI (dC (.bl true)))
 av))))
def eS:ac->ak D:=cq 2 nv
def nr:bv :=
 (aw (bI (ao (ae (af (af (ag 0) (dC (.int 0)) aH) (af (ag 1) (dC (.int 0)) aH) cW) (ae (af (af (ag 0) (dC (.int 1)) aH) (af (ag 1) (dC (.int 1)) aH) cW) au)) bP))
 av)
def df:ac->ak D:=cq 2 nr
def kK:bv :=
 (aw (eC (fE (bV (ao (ae (ag 0) au) m_is_ratio)) (af (af (ag 0) (dC (.int 0)) aH) (dC (.int 0)) C0))
 (aw (yE "NoTurn" (ae (dC (.str "a span, or a cost, is a fraction above 0")) au))
 av)
 av)
 av)
def dX:ac->ak D:=cq 1 kK
abbrev m_ratio:ac->ak D:=Com.m_ratio
def b_times:bv :=
 (aw (bI (ao (ae (af (af (ag 0) (dC (.int 0)) aH) (af (ag 1) (dC (.int 0)) aH) cW) (ae (af (af (ag 0) (dC (.int 1)) aH) (af (ag 1) (dC (.int 1)) aH) cW) au)) m_ratio))
 av)
def m_times:ac->ak D:=cq 2 b_times
noncomputable def kC:bv :=
 (aw (aY 3 (G6 (af (af (ag 0) (dC (.int 4)) aH) (dC (.non)) pI) (dC (.non)) (ao (ae (ag 2) (ae (af (ag 0) (dC (.int 4)) aH) au)) m_times)))
 (aw (bI (ao (ae (af (ag 0) (dC (.int 0)) aH) (ae (af (ag 0) (dC (.int 1)) aH) (ae (af (ag 0) (dC (.int 2)) aH) (ae (ao (ae (ag 1) (ae (af (ag 0) (dC (.int 3)) aH) au)) m_times) (ae (ag 3) au))))) dE))
 av))
def eR:ac->ak D:=cq 4 kC
noncomputable def b_scaled:bv :=
 (aw (kG (ao (ae (ag 0) au) m_look_at_web))
 (aw (kG (ao (ae (ag 1) au) dX))
 (aw (kG (ao (ae (ag 2) au) dX))
 (aw (aY 3 (eY 1 [1,2] (u3 (af (ag 0) (dC (.int 1)) aH)) (dz 0) mYes (ao (ae (ag 0) (ae (ag 1) (ae (ag 2) au))) eR)))
 (aw (bI (ao (ae (ao (ae (af (ag 0) (dC (.int 0)) aH) au) (m1 mn)) (ae (ag 3) (ae (af (ag 0) (dC (.int 2)) aH) (ae (af (ag 0) (dC (.int 3)) aH) au)))) dE))
 av)))))
def m_scaled:ac->ak D:=cq 4 b_scaled
def lj:bv :=
 (aw (bI (gh (af (ag 0) (dC (.non)) jV) (af (ao (ae (ag 0) au) (m1 xW)) (af (dC (.int 10)) (dC (.int 60)) k7) NG)))
 av)
def dk:ac->ak D:=cq 1 lj
abbrev fT:ac->ak D:=Com.fT
noncomputable def kD:bv :=
 (aw (mx 3 (ao au cY))
 (aw (td (af (ag 0) (dC (.int 1)) aH) (ik [4,5,6,7,8])
 (aw (eC (af (ag 8) (dC (.non)) jV)
 (aw (aY 8 (ao (ae (ag 8) (ae (ag 2) au)) df))
 av)
 av)
 (aw (cR 3 (ao (ae (ag 4) (ae (ag 5) (ae (ag 6) (ae (ao (ae (ag 7) (ae (ag 1) au)) df) (ae (ag 8) au))))) dE))
 av)))
 (aw (yG 3 (aY 9 (ao (ae (ao (ae (af (ag 0) (dC (.int 0)) aH) au) (m1 mn)) (ae (ag 3) (ae (af (ag 0) (dC (.int 2)) aH) (ae (af (ag 0) (dC (.int 3)) aH) au)))) dE)))
 (aw (aY 10 (ao (ae (ag 0) (ae (ag 1) (ae (ag 2) au))) (noX m_scaled)))
 (aw (aY 11 (k8 (dC (.str "\n")) (ae (ao (ae (ag 9) au) cz) au)))
 (aw (eC (fE (af (ag 10) (ag 9) jC) (af (ao (ae (ag 10) au) (noX m_shown_web)) (ag 11) jC))
 (aw (bI (dC (.bl false)))
 av)
 av)
 (aw (yG 3 (aY 12 (eY 1 [3] (zZ (ao (ae (ag 3) au) (m1 cC))) (dz 0) (fE (ao (ae (af (af (ag 1) (ag 0) aH) (dC (.int 3)) aH) au) dk) (ao (ae (af (af (ag 1) (ag 0) aH) (dC (.int 4)) aH) au) dk)) (ag 0))))
 (aw (aY 13 (dC (.non)))
 (aw (aY 14 (dC (.non)))
 (aw (yD (kS 14 (ae (ag 11) au) m_read_web) (gN gK) 15
 (aw (aY 13 (aS (ag 15) (rV ft_row "row")))
 av))
 (aw (eC (af (ag 12) (ao au cY) fN)
 (aw (bI (af (xY (ag 14)) (ag 9) fN))
 av)
 av)
 (aw (bI (gh (ao (ae (ag 13) au) fT) (af (ag 13) (af (ao (ae (af (ag 0) (dC (.int 0)) aH) au) (m1 cC)) (af (ag 12) (dC (.int 0)) aH) aZ) fN)))
 av))))))))))))
noncomputable def eT:ac->ak D:=cq 16 kD
def lg:bv :=
 (aw (aY 1 (dC (.bl false)))
 (aw (yD (nN (ae (ag 0) au) m_shown_web) (gN kj) 2
 (aw (aY 1 (aS (ag 2) (vX tab_1)))
 av))
 (aw (bI (ag 1))
 av)))
def dI:ac->ak D:=cq 3 lg
noncomputable def lh:bv :=
 (aw (HW [1,2,3,4] (ag 0))
 (aw (aY 5 (ao (ae (af (ag 1) (dC (.int 0)) aH) (ae (af (ag 1) (dC (.int 1)) aH) (ae (dC (.str "one")) (ae (ao (ae (dC (.int 1)) (ae (dC (.int 1)) au)) dE) (ae (dC (.non)) au))))) dE))
 (aw (mx 6 (ao (ae (dC (.non)) (ae (ao (ae (ag 0) au) (m1 mn)) (ae (iW (ag 0) gI (dD (dC (.int 3)))) (ae (ao (ae (ag 1) (ae (ag 2) (ae (ag 3) (ae (ag 3) au)))) dE) (ae (ao (ae (ag 1) (ae (ag 2) (ae (ag 4) (ae (ag 4) au)))) dE) au))))) cY))
 (aw (yG 6 (mx 6 (af (ag 6) (ao (ae (ao (ae (af (ag 1) (iW (ag 1) gI (dD (dC (.int 1)))) aZ) (ae (ag 2) (ae (ag 3) (ae (ag 4) au)))) dE) (ae (ao (ae (ao (ae (ag 1) au) (m1 rS)) (ae (ag 2) (ae (ag 3) (ae (ag 4) au)))) dE) au)) cY) vY)))
 (aw (yG 6 (mx 6 (af (ag 6) (ao (ae (ao (ae (ag 1) (ae (af (ag 2) (ao (ae (iW (ag 5) gI (dD (dC (.int 4)))) au) cY) aZ) (ae (ag 3) (ae (ag 4) au)))) dE) (ae (ao (ae (ag 1) (ae (ao (ae (ag 2) au) (m1 rS)) (ae (ag 3) (ae (ag 4) au)))) dE) au)) cY) vY)))
 (aw (yG 6 (mx 6 (af (ag 6) (ao (ae (ao (ae (ag 1) (ae (af (ag 2) (Cb (ao (ae (ag 5) au) cY) (dC (.int 15))) aZ) (ae (ag 3) (ae (ag 4) au)))) dE) (ae (ao (ae (ag 1) (ae (ag 2) (ae (dC (.str "")) (ae (ag 4) au)))) dE) au)) cY) vY)))
 (aw (td (ao (ae (ao (ae (dC (.int 0)) (ae (dC (.str "A")) au)) dE) (ae (ao (ae (dC (.int 1)) (ae (af (ag 1) (dC (.int 0)) aH) au)) dE) (ae (ao (ae (dC (.int 2)) (ae (dC (.str "on")) au)) dE) (ae (ao (ae (dC (.int 3)) (ae (ao (ae (aS (dC (.int 1)) Gy) (ae (dC (.int 1)) au)) dE) au)) dE) (ae (ao (ae (dC (.int 3)) (ae (ao (ae (dC (.int 2)) (ae (dC (.int 2)) au)) dE) au)) dE) (ae (ao (ae (dC (.int 4)) (ae (ao (ae (dC (.int 0)) (ae (dC (.int 1)) au)) dE) au)) dE) au)))))) cY) (ik [7,8])
 (aw (cR 6 (ao (ae (ag 1) (ae (af (ag 2) (ao (ae (af (af (iW (ag 5) gI (dD (ag 7))) (ao (ae (ag 8) au) dE) gQ) (iW (ag 5) (dD (af (ag 7) (dC (.int 1)) aZ)) gI) gQ) au) cY) aZ) (ae (ag 3) (ae (ag 4) au)))) dE))
 av))
 (aw (bI (ag 6))
 av))))))))
def eH:ac->ak D:=cq 9 lh
noncomputable def Lj:bv :=
 (aw (kT (wG (dC (.int 0)) (dC (.int 45)) (dC (.int 15))) (dz 1)
 (aw (aY 2 (ao (ae (ag 0) (ae (ag 1) au)) eF))
 (aw (aY 3 (ao (ae (ao (ae (af (ag 2) (dC (.int 0)) aH) au) (m1 mn)) (ae (ao (ae (af (ag 2) (dC (.int 1)) aH) au) (m1 mn)) (ae (af (ag 2) (dC (.int 2)) aH) (ae (af (ag 2) (dC (.int 3)) aH) au)))) dE))
 (aw (aY 4 (k8 (dC (.str "\n")) (ae (ao (ae (ag 2) au) cz) au)))
 (aw (aY 5 (ao (ae (ag 2) au) (noX m_shown_web)))
 (aw (eC (fE (bV (aS (ag 5) (dW "str"))) (fE (af (ag 5) (ag 4) jC) (af (ag 2) (ag 3) jC)))
 (aw (bI (dC (.bl false)))
 av)
 av)
 ((nG 6 [5] (ao (ae (ag 5) au) (noX m_read_web))
 (BD (fE (bV (ao (ae (xY (ag 6)) au) eS)) (af (xY (ag 6)) (ag 3) jC))
 (aw (bI (dC (.bl false)))
 av)
 (tY 7 (xY (ao (ae (ag 4) au) (noX m_read_web)))
 (tZ 6 (lD
 (aw (eC (fE (af (xY (ag 7)) (ag 3) jC) (af (xY (ao (ae (ag 5) au) (noX m_read_web))) (ag 3) jC))
 (aw (bI (dC (.bl false)))
 av)
 av)
 (aw (aY 8 (ao (ae (ao (ae (ag 0) (ae (af (ag 1) (dC (.int 14)) aZ) au)) bz) (ae (ao (ae (dC (.int 2)) (ae (af (af (dC (.int 10)) (dC (.int 60)) k7) (dC (.int 1)) pH) (ae (af (af (dC (.int 10)) (dC (.int 60)) k7) (dC (.int 1)) pH) au))) cY) au)) bF))
 (aw (aY 9 (ao (ae (af (dC (.int 1)) (af (ag 8) (dC (.int 1)) aH) aZ) (ae (af (dC (.int 1)) (af (ag 8) (dC (.int 2)) aH) aZ) au)) bP))
 (aw (eC (bV (ao (ae (ag 2) (ae (ag 9) (ae (af (ao (ae (ao (ae (dC (.int 1)) (ae (dC (.int 3)) au)) dE) (ae (aS (ag 9) Bd) au)) cY) (af (ag 8) (dC (.int 0)) aH) aH) au))) eT))
 (aw (bI (dC (.bl false)))
 av)
 av)
 (aw (td (ao (ae (ag 2) au) eH) (dz 10)
 (aw (eC (bV (ao (ae (ag 10) au) dI))
 (aw (bI (dC (.bl false)))
 av)
 av)
 av))
 av)))))))))) [])))))))
 (aw (bI (dC (.bl true)))
 av))
noncomputable def m_law:ac->ak D:=cq 11 Lj
def top(i:Nat):Ud:=PySem.Challenge.pw_farthestcut_k75_webs_written.main.body.getD i (.Pass ⟨0,0,0,0⟩)
noncomputable def rows:List Rw:=[
 ⟨"_law_cell_at",top 58,["_law_script","_law_k"],2⟩,
 ⟨"_law_draws",top 59,["_law_cell","_law_sizes","_law_number","_law_left","_law_found","_law_k","_law_one"],2⟩,
 ⟨"_law_names",top 63,["_law_cell","_law_many","_law_letters","_law_digits","_law_by","_law_base","_law_found","_law_k","_law_size","_law_at","_law_sign"],2⟩,
 ⟨"_law_divisor",top 61,["_law_one","_law_other"],2⟩,
 ⟨"_law_lowest",top 62,["_law_top","_law_bottom","_law_share"],2⟩,
 ⟨"_law_fraction",top 64,["_law_digits","_law_least","_law_way","_law_above","_law_below"],2⟩,
 ⟨"_law_tie",top 65,["_law_places","_law_cell","_law_bound","_law_big","_law_digits","_law_worth","_law_one","_law_other","_law_word"],3⟩,
 ⟨"_law_web",top 66,["_law_script","_law_at","_law_first","_law_digits","_law_places","_law_ties","_law_k","_law_bound","_law_begin","_law_end"],2⟩,
 ⟨"_law_written",top 67,["_law_one"],1⟩,
 ⟨"_law_lines",top 68,["_law_web_here","_law_lines_here","_law_one","_law_other","_law_word","_law_length","_law_worth","_law_last"],1⟩,
 ⟨"is_name",top 13,["thing"],1⟩,
 ⟨"look_at_places",top 32,["places","number","place"],1⟩,
 ⟨"is_whole",top 11,["thing"],1⟩,
 ⟨"common_divisor",top 7,["one","other","larger","smaller","rest"],2⟩,
 ⟨"is_ratio",top 12,["thing"],1⟩,
 ⟨"is_length",top 29,["thing"],1⟩,
 ⟨"is_worth",top 30,["thing"],1⟩,
 ⟨"is_tie",top 28,["thing"],1⟩,
 ⟨"look_at_ties",top 33,["ties","places","number","tie"],2⟩,
 ⟨"is_place",top 34,["thing","places"],2⟩,
 ⟨"look_at_web",top 31,["thing"],1⟩,
 ⟨"shown_ratio",top 39,["one"],1⟩,
 ⟨"shown_tie",top 43,["tie","worth"],1⟩,
 ⟨"shown_web",top 42,["web","rows"],1⟩,
 ⟨"takes_place",top 46,["draft","name"],2⟩,
 ⟨"takes_tie",top 48,["draft","tie"],2⟩,
 ⟨"has_figures",top 41,["text","figures"],1⟩,
 ⟨"read_ratio",top 40,["text","parts","one"],1⟩,
 ⟨"read_tie",top 47,["words","length","worth","tie"],1⟩,
 ⟨"takes_end",top 49,["draft","name"],2⟩,
 ⟨"takes_row",top 45,["draft","words"],2⟩,
 ⟨"read_web",top 44,["text","draft","rows","number","row"],1⟩,
 ⟨"_law_kinds",top 69,["_law_found","_law_tie_here"],1⟩,
 ⟨"_law_times",top 71,["_law_one","_law_other"],2⟩,
 ⟨"look_at_scale",top 55,["thing"],1⟩,
 ⟨"ratio",top 51,["top","bottom","divisor"],2⟩,
 ⟨"times",top 52,["one","other"],2⟩,
 ⟨"tie_scaled",top 56,["tie","span","cost","worth"],3⟩,
 ⟨"scaled",top 54,["web","span","cost","ties"],3⟩,
 ⟨"_law_long",top 72,["_law_one"],1⟩,
 ⟨"_law_whole",top 60,["_law_thing"],1⟩,
 ⟨"_law_great",top 73,["_law_web_here","_law_span","_law_cost","_law_ties","_law_one","_law_other","_law_word","_law_length","_law_worth","_law_due","_law_told","_law_text","_law_long_here","_law_row","_law_found","e"],3⟩,
 ⟨"_law_refused",top 70,["_law_thing","_law_refused_here","e"],1⟩,
 ⟨"_law_no_webs",top 74,["_law_web_here","_law_places","_law_ties","_law_first","_law_last","_law_one","_law_some","_law_at","_law_odd"],1⟩,
 ⟨"law",top 75,["_law_script","_law_at","_law_web_here","_law_copy","_law_due","_law_text","_law_found","_law_again","_law_digits","_law_great_here","_law_thing"],1⟩]
def sc:QE rows:=by decide +kernel
theorem nd(i:Nat){r:Rw}(h:rows[i]?=some r:=by rfl):r.N.Nodup:=(sc r (S7 h)).nd
def bn:∀r∈rows,Qw r:=by
 unfold rows
 repeat refine List.forall_mem_cons.mpr ⟨by first|exact Su|exact Ss|exact Sr|exact bd4|exact bd5,?_⟩
 exact λ_ h=>nomatch h
abbrev jG:Ud:=vK (top 38) 0
def BP:eX ["self"] ["self"] (defScope jG):=⟨rfl,rfl,rfl,by decide +kernel,rfl,by decide +kernel,by decide +kernel⟩
abbrev nJ:Ud:=vK (top 5) 0
def yC:eX ["self","row"] ["self","row"] (defScope nJ):=⟨rfl,rfl,rfl,by decide +kernel,rfl,by decide +kernel,by decide +kernel⟩
abbrev qD:Ud:=vK (top 4) 0
def BO:eX ["self","part","number"] ["self","part","number"] (defScope qD):=⟨rfl,rfl,rfl,by decide +kernel,rfl,by decide +kernel,by decide +kernel⟩
set_option genInjectivity false in
set_option genSizeOfSpec false in
structure Adr where
 jP:SA
 lN:TQ
 kY:SA
 mX:TQ
 bA:SA
 fW:SA
 rn:TQ
 bM:SA
 cE:SA
 gL:SA
 dQ:SA
 A:Nat->SA
 Q:Nat->TQ
set_option genInjectivity false in
set_option genSizeOfSpec false in
structure Txt (K:SE) (mg:SH->Option Sy) (t:Adr):Prop where
 g:TG rows K mg t.A t.Q
 n_abs:mg "abs"=none
 n_all:mg "all"=none
 n_bool:mg "bool"=none
 n_enumerate:mg "enumerate"=none
 n_int:mg "int"=none
 n_isinstance:mg "isinstance"=none
 n_len:mg "len"=none
 n_list:mg "list"=none
 n_max:mg "max"=none
 n_range:mg "range"=none
 n_str:mg "str"=none
 n_tuple:mg "tuple"=none
 FJ:mg "Draft"=some (.ref t.bA)
 G0:Bp K "__init__" "Draft.__init__" jG t.fW t.rn
 sG:gb K t.rn ["self"] []
 E8:Mk K t.bA t.fW
 wN:Qm K "Draft" ["places","ties","ends"] t.bA
 mB:mg "CutError"=some (.ref t.bM)
 zh:lu K "CutError" t.bM
 iK:mg "NoText"=some (.ref t.cE)
 Fz:lu K "NoText" t.cE
 FK:mg "NoTurn"=some (.ref t.gL)
 Pt:lu K "NoTurn" t.gL
 jb:mg "NoWeb"=some (.ref t.dQ)
 Jj:lu K "NoWeb" t.dQ
 jD:sL K "NoText" t.cE
 Ds:yg K "NoTurn" t.gL
 j8:sL K "NoWeb" t.dQ
 bK:RB K "NoText.__init__" t.cE t.jP t.lN nJ ["self","row"] ["row"]
 bE:RB K "NoWeb.__init__" t.dQ t.kY t.mX qD ["self","part","number"] ["part","number"]
 oB:GR K t.bM
 rs:GQ K [t.bM,t.cE,t.dQ] [("NoText",t.cE,[true,true,false]),("NoTurn",t.gL,[true,false,false]),("NoWeb",t.dQ,[true,false,true])]
 fq:tQ K mg "FEWEST_PLACES" (.int 2)
 oy:tQ K mg "FIGURES" (.str "0123456789")
 lW:tQ K mg "FIRST" (.int 2)
 ou:tQ K mg "LAST" (.int 3)
 k9:tQ K mg "LENGTH" (.int 3)
 ot:tQ K mg "LETTERS" (.str "abcdefghijklmnopqrstuvwxyz")
 iQ:tQ K mg "LONGEST_NAME" (.int 8)
 iP:tQ K mg "MOST_FIGURES" (.int 60)
 gE:tQ K mg "MOST_PLACES" (.int 7)
 jr:tQ K mg "MOST_TIES" (.int 14)
 pb:tQ K mg "ONE" (.int 0)
 jo:tQ K mg "OTHER" (.int 1)
 gR:tQ K mg "PLACES" (.int 0)
 sE:tQ K mg "TIES" (.int 1)
 oq:tQ K mg "WORD" (.int 2)
 v9:tQ K mg "WORDS" (.tup [(.str "one"),(.str "both")])
 kB:tQ K mg "WORTH" (.int 4)
section
variable {P:Tr}{w:TU}{K:SE}{mg:SH->Option Sy}{base:S1}{t:Adr}
def pE(T:Txt K mg t):∀x C,gN kj x=true->XC K x C->WS K (.ref C) (.ref t.bM)=some true:=FC T.rs T.zh 0 rfl rfl
def ml(T:Txt K mg t):∀x C,gN gK x=true->XC K x C->WS K (.ref C) (.ref t.cE)=some true:=λx C h=>FC (l':=[("NoText",true),("NoTurn",false),("NoWeb",false)]) T.rs T.Fz 1 rfl rfl x C (Jk h rfl)
def D0(T:Txt K mg t):yi K tab_1 (.ref t.dQ):=LM T.rs T.Jj 2 rfl rfl
def CJ(T:Txt K mg t):Ln K ft_row "row" :=
 lF (p:=λ_ C _=>Vg K C=true/\dZ K C "row") λq hq=>by
  simp only[SV,Ui,or_false]at hq;rcases hq with rfl
  .exact⟨t.cE,T.jD.xc,T.bK.xs.hd,T.bK.xs.no _ (by decide)⟩
def zg(T:Txt K mg t):FnOk P w K mg base CX0 1 t.fW t.rn ["self"] (LV K ["places","ties","ends"]):=FR T.G0 BP rfl (by decide) (SY rfl)
def gM(T:Txt K mg t):FnOk P w K mg base CX0 1 t.jP t.lN ["self","row"] (D5 K ["row"]) :=
 Ld T.bK.Fi yC rfl (by decide) λcdv A outer s0 H E=>(KH (i:=1) T.oB rfl T.mB (pT (i:=1) rfl (SY rfl) EA) rfl rfl (SY rfl) (SY rfl) Dl)
def fB(T:Txt K mg t):FnOk P w K mg base CX0 1 t.kY t.mX ["self","part","number"] (D5 K ["part","number"]) :=
 Ld T.bE.Fi BO rfl (by decide) λcdv A outer s0 H E=>(KH (i:=1) T.oB rfl T.mB (pT (i:=1) rfl (SY rfl) (pT (i:=2) rfl (SY rfl) EA)) rfl rfl (SY rfl) (SY rfl) (Hl (i:=2) rfl rfl (SY rfl) (SY rfl) Dl))
def gZ(T:Txt K mg t):fL P w K mg base CX0 1 (t.A 0) (t.Q 0) ["_law_script","_law_k"] (spD K 2 bz) "_law_cell_at" (top 58) :=
 oD T.g sc (i:=0) rfl λ_ _ _ _ _ _ _ _=>(
 (ah (ck (aJ uk (de λ_ _ _ _=>rb _) (dv 1) (aM bb cb rfl T.n_len PyProof.Rows.Boot.«len» (aa (dv 0) aj)) nm)
 (ah (aQ (aq (dv 0) (dv 1)))
 ar)
 ar)
 (ah (aQ (aX (gw ai (dv 1)) (gw ai (aM bb cb rfl T.n_len PyProof.Rows.Boot.«len» (aa (dv 0) aj)))))
 ar)))
def gC(T:Txt K mg t):fL P w K mg base CX0 1 (t.A 1) (t.Q 1) ["_law_cell","_law_sizes"] (spD K 2 bF) "_law_draws" (top 59) :=
 oD T.g sc (i:=1) rfl λ_ _ _ _ _ _ _ _=>(
 (ah (aK (i:=2) (nd 1) rfl (SY rfl) (aM (C6 rfl) NK rfl T.n_max PyProof.Rows.Boot.«max» (aa (dv 0) (aa (n6 (zB ai) (dv 0)) aj))))
 (ah (aK (i:=3) (nd 1) rfl (SY rfl) (dv 2))
 (ah (k6 (i:=4) (nd 1) rfl (SY rfl) (ku aj))
 (ah (vR Ux rfl rfl T.n_range (aM bb cb rfl T.n_len PyProof.Rows.Boot.«len» (aa (dv 1) aj)) (dU (i:=5) (nd 1) rfl (SY rfl)) iq
 (ah (ck (DW.dt (rK (aJ Ar (de λ_ _ _ _=>rb _) (dv 2) (n8 ai ai) nm) (iL (aJ xh (de λ_ _ _ _=>rb _) (dv 3) ai nm))))
 (ah (gu (i:=4) rfl (SY rfl) (dY (dv 3) (aq (dv 1) (dv 5))))
 (ah (aK (i:=3) (nd 1) rfl (SY rfl) (mF (dv 3) (aq (dv 1) (dv 5))))
 ar))
 (ah (aK (i:=6) (nd 1) rfl (SY rfl) (dY (gw (aX (aX (aX (dY (dv 2) ai) (gw (gw ai (dv 5)) (dv 5))) (gw ai (dv 5))) ai) ai) ai))
 (ah (aK (i:=6) (nd 1) rfl (SY rfl) (dY (gw (aX (dY (gw (dv 6) (dv 6)) ai) (dv 5)) ai) ai))
 (ah (gu (i:=4) rfl (SY rfl) (dY (mF (dv 6) ai) (aq (dv 1) (dv 5))))
 ar))))
 ar))
 (ah (aQ (dv 4))
 ar))))))
def tw(T:Txt K mg t):fL P w K mg base CX0 2 (t.A 2) (t.Q 2) ["_law_cell","_law_many"] (spD K 2 dP) "_law_names" (top 63) :=
 oD T.g sc (i:=2) rfl λ_ _ _ _ H _ _ hr=>(
 (ah (aK (i:=2) (nd 2) rfl (WI rfl) bq)
 (ah (aK (i:=3) (nd 2) rfl (SY rfl) (rC (gC T) hr (aa (dv 0) (aa (aX (aX (cK (aa ai (aa ai (aa ai (aa ai (aa ai aj)))))) (zA (ku (aa ai aj)) ai)) (zA (ku (aa ai aj)) ai)) aj))))
 (ah (aK (i:=4) (nd 2) rfl (SY rfl) (aq (cK (aa ai (aa ai (aa ai (aa ai (aa ai (aa ai (aa ai (aa ai (aa ai (aa ai (aa ai (aa ai aj))))))))))))) (aq (dv 3) ai)))
 (ah (aK (i:=5) (nd 2) rfl (SY rfl) (lU bq (aa (Bb (vW ["_law_digit","_law_letters"] 1 [2] rfl (lT (c9 (dv 3) (dG ai) (dG ai))) (fP (by decide)) (λs H C fp pn=>⟨λHe η=>(dU (i:=0) (show VI (["_law_digit","_law_letters"]:ci) from by decide) rfl (SY rfl)),jh,(aq (dv 1) (dv 0))⟩) ⟨rfl,rfl⟩ rfl rfl rfl rfl)) aj)))
 (ah (k6 (i:=6) (nd 2) rfl (SY rfl) (ku aj))
 (ah (vR Ux rfl rfl T.n_range (dv 1) (dU (i:=7) (nd 2) rfl (SY rfl)) iq
 (ah (aK (i:=8) (nd 2) rfl (SY rfl) (aX ai (aq (dv 3) ai)))
 (ah (ck (aJ (cH hr.units) ef (aq (dv 3) ai) ai nm)
 (ah (aK (i:=8) (nd 2) rfl (SY rfl) (aX ai (aq (dv 3) (aX ai (dv 7)))))
 ar)
 ar)
 (ah (aK (i:=9) (nd 2) rfl (SY rfl) (dY (aq (dv 3) ai) (dv 8)))
 (ah (aK (i:=10) (nd 2) rfl (SY rfl) (aq (dv 2) (dY (aX (aq (dv 3) ai) (gw (dv 7) (dv 4))) ai)))
 (ah (gu (i:=6) rfl (SY rfl) (aX (aX (c9 (dv 5) jf (dG (dv 9))) (dv 10)) (c9 (dv 5) (dG (aX (dv 9) ai)) (dG (dv 8)))))
 ar))))))
 (ah (aQ (dv 6))
 ar))))))))
def pB(T:Txt K mg t):fL P w K mg base CX0 1 (t.A 3) (t.Q 3) ["_law_one","_law_other"] (spD K 2 eI) "_law_divisor" (top 61) :=
 oD T.g sc (i:=3) rfl λ_ _ _ _ _ _ _ hr=>(
 (ah (xU _ Ux (aJ (eE hr.units) gH (dv 1) ai nm)
 (ah (NA (i:=0) (j:=1) rfl (nd 3) rfl rfl (by decide) rfl rfl (aa (dv 1) (aa (dY (dv 0) (dv 1)) aj)) rfl)
 ar))
 (ah (aQ (aM sD zG rfl T.n_abs PyProof.Rows.Boot.«abs» (aa (dv 0) aj)))
 ar)))
def fR(T:Txt K mg t):fL P w K mg base CX0 2 (t.A 4) (t.Q 4) ["_law_top","_law_bottom"] (spD K 2 bP) "_law_lowest" (top 62) :=
 oD T.g sc (i:=4) rfl λ_ _ _ _ _ _ _ hr=>(
 (ah (aK (i:=2) (nd 4) rfl (SY rfl) (rC (pB T) hr (aa (dv 0) (aa (dv 1) aj))))
 (ah (aQ (bR (aa (mF (dv 0) (dv 2)) (aa (mF (dv 1) (dv 2)) aj))))
 ar)))
def jL(T:Txt K mg t):fL P w K mg base CX0 3 (t.A 5) (t.Q 5) ["_law_digits","_law_least"] (spD K 2 bX) "_law_fraction" (top 64) :=
 oD T.g sc (i:=5) rfl λ_ _ _ _ _ _ _ hr=>(
 (ah (Gm rfl (dv 0) (bC (i:=2) (nd 5) rfl (SY rfl) (bC (i:=3) (nd 5) rfl (SY rfl) (bC (i:=4) (nd 5) rfl (SY rfl) ji))))
 (ah (ck (aJ uk (de λ_ _ _ _=>rb _) (dv 2) ai nm)
 (ah (aQ (bR (aa (aX (dv 1) (dY (dv 3) ai)) (aa ai aj))))
 ar)
 ar)
 (ah (ck (aJ uk (de λ_ _ _ _=>rb _) (dv 2) ai nm)
 (ah (aQ (rC (fR T) hr (aa (aX (dv 1) (dY (dv 3) ai)) (aa (aX ai (dY (dv 4) ai)) aj))))
 ar)
 ar)
 (ah (aQ (rC (fR T) hr (aa (aX (dv 1) (dv 3)) (aa (aX ai (dv 4)) aj))))
 ar)))))
def xq(T:Txt K mg t):fL P w K mg base CX0 4 (t.A 6) (t.Q 6) ["_law_places","_law_cell","_law_bound"] (spD K 3 eG) "_law_tie" (top 65) :=
 oD T.g sc (i:=6) rfl λ_ _ _ _ _ _ _ hr=>(
 (ah (aK (i:=3) (nd 6) rfl (SY rfl) (cK (aa ai (aa (dv 2) (aa (dv 2) aj)))))
 (ah (aK (i:=4) (nd 6) rfl (SY rfl) (rC (gC T) hr (aa (dv 1) (aa (aX (aX (cK (aa (aM bb cb rfl T.n_len PyProof.Rows.Boot.«len» (aa (dv 0) aj)) (aa (n6 (aM bb cb rfl T.n_len PyProof.Rows.Boot.«len» (aa (dv 0) aj)) ai) (aa ai (aa ai aj))))) (dv 3)) (dv 3)) aj))))
 (ah (aK (i:=5) (nd 6) rfl (SY rfl) dJ)
 (ah (ck (aJ xh (de λ_ _ _ _=>rb _) (aq (dv 4) ai) ai nm)
 (ah (aK (i:=5) (nd 6) rfl (SY rfl) (rC (jL T) hr (aa (c9 (dv 4) (dG ai) (dG ai)) (aa ai aj))))
 ar)
 ar)
 (ah (aK (i:=6) (nd 6) rfl (SY rfl) (aq (dv 0) (aq (dv 4) ai)))
 (ah (aK (i:=7) (nd 6) rfl (SY rfl) (aq (dv 0) (dY (aX (aX (aq (dv 4) ai) ai) (aq (dv 4) ai)) (aM bb cb rfl T.n_len PyProof.Rows.Boot.«len» (aa (dv 0) aj)))))
 (ah (aK (i:=8) (nd 6) rfl (SY rfl) (aq (cK (aa bq (aa bq aj))) (aq (dv 4) ai)))
 (ah (aQ (bR (aa (dv 6) (aa (dv 7) (aa (dv 8) (aa (rC (jL T) hr (aa (c9 (dv 4) (dG ai) (dG ai)) (aa ai aj))) (aa (dv 5) aj)))))))
 ar)))))))))
def xp(T:Txt K mg t):fL P w K mg base CX0 5 (t.A 7) (t.Q 7) ["_law_script","_law_at"] (spD K 2 eF) "_law_web" (top 66) :=
 oD T.g sc (i:=7) rfl λ_ _ _ _ _ _ _ hr=>(
 (ah (aK (i:=2) (nd 7) rfl (SY rfl) (rC (gZ T) hr (aa (dv 0) (aa (dv 1) aj))))
 (ah (aK (i:=3) (nd 7) rfl (SY rfl) (rC (gC T) hr (aa (dv 2) (aa (cK (aa ai (aa ai (aa ai (aa ai aj))))) aj))))
 (ah (aK (i:=4) (nd 7) rfl (SY rfl) (rC (tw T) hr (aa (mF (dv 2) ai) (aa (aX ai (aq (dv 3) ai)) aj))))
 (ah (k6 (i:=5) (nd 7) rfl (SY rfl) (ku aj))
 (ah (vR Ux rfl rfl T.n_range (aq (dv 3) ai) (dU (i:=6) (nd 7) rfl (SY rfl)) iq
 (ah (aK (i:=7) (nd 7) rfl (SY rfl) (aq (cK (aa (n6 (n8 ai ai) ai) (aa (n8 ai ai) aj))) (cF uH NL rfl T.n_int PyProof.Rows.Boot.«int» (aa (fD xh (de λ_ _ _ _=>rb _) (dY (dv 6) ai) ai nm) aj))))
 (ah (gu (i:=5) rfl (SY rfl) (rC (xq T) hr (aa (dv 4) (aa (rC (gZ T) hr (aa (dv 0) (aa (aX (aX (dv 1) ai) (dv 6)) aj))) (aa (dv 7) aj)))))
 ar)))
 (ah (aK (i:=8) (nd 7) rfl (SY rfl) (dY (aq (dv 3) ai) (aM bb cb rfl T.n_len PyProof.Rows.Boot.«len» (aa (dv 4) aj))))
 (ah (aK (i:=9) (nd 7) rfl (SY rfl) (dY (aX (aX (dv 8) ai) (dY (aq (dv 3) ai) (n6 (aM bb cb rfl T.n_len PyProof.Rows.Boot.«len» (aa (dv 4) aj)) ai))) (aM bb cb rfl T.n_len PyProof.Rows.Boot.«len» (aa (dv 4) aj))))
 (ah (aQ (bR (aa (dv 4) (aa (dv 5) (aa (aq (dv 4) (dv 8)) (aa (aq (dv 4) (dv 9)) aj))))))
 ar)))))))))
def kH(T:Txt K mg t):fL P w K mg base CX0 1 (t.A 8) (t.Q 8) ["_law_one"] (spD K 1 bL) "_law_written" (top 67) :=
 oD T.g sc (i:=8) rfl λ_ _ _ _ _ _ _ hr=>(
 (ah (ck (aJ (cH hr.units) ef (aq (dv 0) ai) ai nm)
 (ah (aQ (cF eV oo rfl T.n_str PyProof.Rows.Boot.«str» (aa (aq (dv 0) ai) aj)))
 ar)
 ar)
 (ah (aQ (aX (aX (cF eV oo rfl T.n_str PyProof.Rows.Boot.«str» (aa (aq (dv 0) ai) aj)) bq) (cF eV oo rfl T.n_str PyProof.Rows.Boot.«str» (aa (aq (dv 0) ai) aj))))
 ar)))
def me(T:Txt K mg t):fL P w K mg base CX0 2 (t.A 9) (t.Q 9) ["_law_web_here"] (spD K 1 cz) "_law_lines" (top 68) :=
 oD T.g sc (i:=9) rfl λ_ _ _ _ H _ _ hr=>(
 (ah (A8 (i:=1) (nd 9) rfl rfl (vW ["_law_one"] 1 [] rfl (lT (aq (dv 0) ai)) (fP (by decide)) (λs H C fp pn=>⟨λHe η=>(dU (i:=0) (show VI (["_law_one"]:ci) from by decide) rfl (SY rfl)),jh,(aX bq (dv 0))⟩) ⟨rfl,rfl⟩ rfl rfl rfl rfl))
 (ah (rN Ux rfl (aq (dv 0) ai) (nZ rfl (bC (i:=2) (nd 9) rfl (SY rfl) (bC (i:=3) (nd 9) rfl (SY rfl) (bC (i:=4) (nd 9) rfl (SY rfl) (bC (i:=5) (nd 9) rfl (SY rfl) (bC (i:=6) (nd 9) rfl (SY rfl) ji)))))) ip
 (ah (aK (i:=7) (nd 9) rfl (SY rfl) bq)
 (ah (ck (aJ vg vt (dv 6) dJ nm)
 (ah (aK (i:=7) (nd 9) rfl (SY rfl) (rC (kH T) hr (aa (dv 6) aj)))
 ar)
 ar)
 (ah (gu (i:=1) rfl (SY rfl) (lU bq (aa (cK (aa bq (aa (dv 2) (aa (dv 3) (aa (dv 4) (aa (rC (kH T) hr (aa (dv 5) aj)) (aa (dv 7) aj))))))) aj)))
 ar))))
 (ah (aQ (aX (dv 1) (cK (aa (aX bq (aq (dv 0) ai)) (aa (aX bq (aq (dv 0) ai)) aj)))))
 ar))))
def iF(T:Txt K mg t):fL P w K mg base CX0 1 (t.A 10) (t.Q 10) ["thing"] (spD K 1 m_is_name) "is_name" (top 13) :=
 oD T.g sc (i:=10) rfl λ_ _ _ _ H _ _ hr=>(
 (ah (ck (DW.dt (cB (bQ (bH (bS iH rfl T.n_isinstance rfl T.n_str PyProof.Rows.Boot.«str» (dv 0)))) (aW (bQ (rL mP mP (fG λ_ _ _ _=>rb _) (fG λ_ _ _ _=>rb _) fH fH ai (aM bb cb rfl T.n_len PyProof.Rows.Boot.«len» (aa (dv 0) aj)) (aV T.iQ rfl))))))
 (ah (aQ dM)
 ar)
 ar)
 (ah (aQ (aM (sC rfl) zF rfl T.n_all PyProof.Rows.Boot.«all» (aa (Bb (vW ["sign"] 1 [] rfl (Gs (dv 0)) (fP (by decide)) (λs H C fp pn=>⟨λHe η=>(dU (i:=0) (show VI (["sign"]:ci) from by decide) rfl (SY rfl)),jh,(fD (um hr.units) uq (dv 0) (aV T.ot rfl) rfl)⟩) ⟨rfl,rfl⟩ rfl rfl rfl rfl)) aj)))
 ar)))
def mR(T:Txt K mg t):fL P w K mg base (gi P w) 3 (t.A 11) (t.Q 11) ["places"] (spD K 1 m_look_at_places) "look_at_places" (top 32) :=
 oE T.g sc (i:=11) rfl λ_ _ _ _ _ _ _ hr=>(
 (ah (ck (DW.dt (cB (bQ (bH (bS i7 rfl T.n_isinstance rfl T.n_list PyProof.Rows.Boot.«list» (dv 0)))) (aW (bQ (rL mP mP (fG λ_ _ _ _=>rb _) (fG λ_ _ _ _=>rb _) fH fH (aV T.fq rfl) (aM bb cb rfl T.n_len PyProof.Rows.Boot.«len» (aa (dv 0) aj)) (aV T.gE rfl))))))
 (ah (c8 T.j8.xc T.bE.xi T.bE.xs T.bE.xf ((fB T).mono (by decide:1<=1)) T.bE.bi (by decide) (by decide) hr T.jb hr.hd rfl (aa bq (aa dJ aj)))
 ar)
 ar)
 (ah (vS WX rfl (vU rfl T.n_enumerate (dv 0)) (nZ rfl (bC (i:=1) (nd 11) rfl (SY rfl) (bC (i:=2) (nd 11) rfl (SY rfl) ji))) ip
 (ah (ck (DW.dt (cB (bQ (bH (rC (iF T) hr (aa (dv 2) aj)))) (aW (aJ (um hr.units) uq (dv 2) (c9 (dv 0) jf (dG (dv 1))) rfl))))
 (ah (c8 T.j8.xc T.bE.xi T.bE.xs T.bE.xf ((fB T).mono (by decide:1<=1)) T.bE.bi (by decide) (by decide) hr T.jb hr.hd rfl (aa bq (aa (dv 1) aj)))
 ar)
 ar)
 ar))
 ar)))
def iZ(T:Txt K mg t):fL P w K mg base CX0 1 (t.A 12) (t.Q 12) ["thing"] (spD K 1 m_is_whole) "is_whole" (top 11) :=
 oD T.g sc (i:=12) rfl λ_ _ _ _ _ _ _ _=>(
 (ah (aQ (jz (bS rh rfl T.n_isinstance rfl T.n_int PyProof.Rows.Boot.«int» (dv 0)) (iM (Gw (bS oV rfl T.n_isinstance rfl T.n_bool PyProof.Rows.Boot.«bool» (dv 0))))))
 ar))
def i6(T:Txt K mg t):fL P w K mg base CX0 1 (t.A 13) (t.Q 13) ["one","other"] (spD K 2 m_common_divisor) "common_divisor" (top 7) :=
 oD T.g sc (i:=13) rfl λ_ _ _ _ _ _ _ hr=>(
 (ah (aK (i:=2) (nd 13) rfl (SY rfl) (aM sD zG rfl T.n_abs PyProof.Rows.Boot.«abs» (aa (dv 0) aj)))
 (ah (aK (i:=3) (nd 13) rfl (SY rfl) (aM sD zG rfl T.n_abs PyProof.Rows.Boot.«abs» (aa (dv 1) aj)))
 (ah (xU _ Ux (aJ (eE hr.units) gH (dv 3) ai nm)
 (ah (aK (i:=4) (nd 13) rfl (SY rfl) (dY (dv 2) (dv 3)))
 (ah (aK (i:=2) (nd 13) rfl (SY rfl) (dv 3))
 (ah (aK (i:=3) (nd 13) rfl (SY rfl) (dv 4))
 ar))))
 (ah (aQ (dv 2))
 ar)))))
def i5(T:Txt K mg t):fL P w K mg base CX0 2 (t.A 14) (t.Q 14) ["thing"] (spD K 1 m_is_ratio) "is_ratio" (top 12) :=
 oD T.g sc (i:=14) rfl λ_ _ _ _ _ _ _ hr=>(
 (ah (ck (DW.dt (cB (bQ (bH (bS eU rfl T.n_isinstance rfl T.n_tuple PyProof.Rows.Boot.«tuple» (dv 0)))) (aW (aJ (eE hr.units) gH (aM bb cb rfl T.n_len PyProof.Rows.Boot.«len» (aa (dv 0) aj)) ai nm))))
 (ah (aQ dM)
 ar)
 ar)
 (ah (ck (DW.dt (cB (bQ (bH (rC (iZ T) hr (aa (aq (dv 0) ai) aj)))) (aW (bQ (bH (rC (iZ T) hr (aa (aq (dv 0) ai) aj)))))))
 (ah (aQ dM)
 ar)
 ar)
 (ah (aQ (jz (fD Ar (de λ_ _ _ _=>rb _) (aq (dv 0) ai) ai nm) (iM (fD (cH hr.units) ef (rC (i6 T) hr (aa (aq (dv 0) ai) (aa (aq (dv 0) ai) aj))) ai nm))))
 ar))))
def vo(T:Txt K mg t):fL P w K mg base CX0 3 (t.A 15) (t.Q 15) ["thing"] (spD K 1 m_is_length) "is_length" (top 29) :=
 oD T.g sc (i:=15) rfl λ_ _ _ _ _ _ _ hr=>(
 (ah (aQ (jz (rC (i5 T) hr (aa (dv 0) aj)) (iM (fD Ar (de λ_ _ _ _=>rb _) (aq (dv 0) ai) ai nm))))
 ar))
def xo(T:Txt K mg t):fL P w K mg base CX0 3 (t.A 16) (t.Q 16) ["thing"] (spD K 1 m_is_worth) "is_worth" (top 30) :=
 oD T.g sc (i:=16) rfl λ_ _ _ _ _ _ _ hr=>(
 (ah (aQ (Qd (fD vi vv (dv 0) dJ nm) (iM (jz (rC (i5 T) hr (aa (dv 0) aj)) (iM (fD xh (de λ_ _ _ _=>rb _) (aq (dv 0) ai) ai nm))))))
 ar))
def uo(T:Txt K mg t):fL P w K mg base CX0 4 (t.A 17) (t.Q 17) ["thing"] (spD K 1 m_is_tie) "is_tie" (top 28) :=
 oD T.g sc (i:=17) rfl λ_ _ _ _ _ _ _ hr=>(
 (ah (ck (DW.dt (cB (bQ (bH (bS eU rfl T.n_isinstance rfl T.n_tuple PyProof.Rows.Boot.«tuple» (dv 0)))) (aW (aJ (eE hr.units) gH (aM bb cb rfl T.n_len PyProof.Rows.Boot.«len» (aa (dv 0) aj)) ai nm))))
 (ah (aQ dM)
 ar)
 ar)
 (ah (ck (DW.dt (cB (bQ (bH (rC (iF T) hr (aa (aq (dv 0) (aV T.pb rfl)) aj)))) (cB (bQ (bH (rC (iF T) hr (aa (aq (dv 0) (aV T.jo rfl)) aj)))) (aW (aJ (cH hr.units) ef (aq (dv 0) (aV T.pb rfl)) (aq (dv 0) (aV T.jo rfl)) nm)))))
 (ah (aQ dM)
 ar)
 ar)
 (ah (ck (DW.dt (cB (bQ (bH (bS iH rfl T.n_isinstance rfl T.n_str PyProof.Rows.Boot.«str» (aq (dv 0) (aV T.oq rfl))))) (aW (aJ (jJ hr.units) jM (aq (dv 0) (aV T.oq rfl)) (aV T.v9 rfl) rfl))))
 (ah (aQ dM)
 ar)
 ar)
 (ah (aQ (jz (rC (vo T) hr (aa (aq (dv 0) (aV T.k9 rfl)) aj)) (iM (rC (xo T) hr (aa (aq (dv 0) (aV T.kB rfl)) aj)))))
 ar)))))
def pw(T:Txt K mg t):fL P w K mg base (gi P w) 5 (t.A 18) (t.Q 18) ["ties","places"] (spD K 2 m_look_at_ties) "look_at_ties" (top 33) :=
 oE T.g sc (i:=18) rfl λ_ _ _ _ _ _ _ hr=>(
 (ah (ck (DW.dt (cB (bQ (bH (bS i7 rfl T.n_isinstance rfl T.n_list PyProof.Rows.Boot.«list» (dv 0)))) (aW (aJ xh (de λ_ _ _ _=>rb _) (aM bb cb rfl T.n_len PyProof.Rows.Boot.«len» (aa (dv 0) aj)) (aV T.jr rfl) nm))))
 (ah (c8 T.j8.xc T.bE.xi T.bE.xs T.bE.xf ((fB T).mono (by decide:1<=3)) T.bE.bi (by decide) (by decide) hr T.jb hr.hd rfl (aa bq (aa dJ aj)))
 ar)
 ar)
 (ah (vS WX rfl (vU rfl T.n_enumerate (dv 0)) (nZ rfl (bC (i:=2) (nd 18) rfl (SY rfl) (bC (i:=3) (nd 18) rfl (SY rfl) ji))) ip
 (ah (ck (DW.dt (cB (bQ (bH (rC (uo T) hr (aa (dv 3) aj)))) (cB (aJ (jJ hr.units) jM (aq (dv 3) (aV T.pb rfl)) (dv 1) rfl) (aW (aJ (jJ hr.units) jM (aq (dv 3) (aV T.jo rfl)) (dv 1) rfl)))))
 (ah (c8 T.j8.xc T.bE.xi T.bE.xs T.bE.xf ((fB T).mono (by decide:1<=3)) T.bE.bi (by decide) (by decide) hr T.jb hr.hd rfl (aa bq (aa (dv 2) aj)))
 ar)
 ar)
 ar))
 ar)))
def oN(T:Txt K mg t):fL P w K mg base CX0 2 (t.A 19) (t.Q 19) ["thing","places"] (spD K 2 m_is_place) "is_place" (top 34) :=
 oD T.g sc (i:=19) rfl λ_ _ _ _ _ _ _ hr=>(
 (ah (aQ (jz (rC (iF T) hr (aa (dv 0) aj)) (iM (fD (um hr.units) uq (dv 0) (dv 1) rfl))))
 ar))
def kU(T:Txt K mg t):fL P w K mg base (gi P w) 6 (t.A 20) (t.Q 20) ["thing"] (spD K 1 m_look_at_web) "look_at_web" (top 31) :=
 oE T.g sc (i:=20) rfl λ_ _ _ _ _ _ _ hr=>(
 (ah (ck (DW.dt (cB (bQ (bH (bS eU rfl T.n_isinstance rfl T.n_tuple PyProof.Rows.Boot.«tuple» (dv 0)))) (aW (aJ (eE hr.units) gH (aM bb cb rfl T.n_len PyProof.Rows.Boot.«len» (aa (dv 0) aj)) ai nm))))
 (ah (c8 T.j8.xc T.bE.xi T.bE.xs T.bE.xf ((fB T).mono (by decide:1<=4)) T.bE.bi (by decide) (by decide) hr T.jb hr.hd rfl (aa bq (aa dJ aj)))
 ar)
 ar)
 (ah (lS (rC (mR T) hr (aa (aq (dv 0) (aV T.gR rfl)) aj)))
 (ah (lS (rC (pw T) hr (aa (aq (dv 0) (aV T.sE rfl)) (aa (aq (dv 0) (aV T.gR rfl)) aj))))
 (ah (ck (bQ (bH (rC (oN T) hr (aa (aq (dv 0) (aV T.lW rfl)) (aa (aq (dv 0) (aV T.gR rfl)) aj)))))
 (ah (c8 T.j8.xc T.bE.xi T.bE.xs T.bE.xf ((fB T).mono (by decide:1<=4)) T.bE.bi (by decide) (by decide) hr T.jb hr.hd rfl (aa bq (aa dJ aj)))
 ar)
 ar)
 (ah (ck (DW.dt (cB (bQ (bH (rC (oN T) hr (aa (aq (dv 0) (aV T.ou rfl)) (aa (aq (dv 0) (aV T.gR rfl)) aj))))) (aW (aJ (cH hr.units) ef (aq (dv 0) (aV T.ou rfl)) (aq (dv 0) (aV T.lW rfl)) nm))))
 (ah (c8 T.j8.xc T.bE.xi T.bE.xs T.bE.xf ((fB T).mono (by decide:1<=4)) T.bE.bi (by decide) (by decide) hr T.jb hr.hd rfl (aa bq (aa dJ aj)))
 ar)
 ar)
 ar))))))
def iE(T:Txt K mg t):fL P w K mg base CX0 1 (t.A 21) (t.Q 21) ["one"] (spD K 1 m_shown_ratio) "shown_ratio" (top 39) :=
 oD T.g sc (i:=21) rfl λ_ _ _ _ _ _ _ hr=>(
 (ah (ck (aJ (cH hr.units) ef (aq (dv 0) ai) ai nm)
 (ah (aQ (cF eV oo rfl T.n_str PyProof.Rows.Boot.«str» (aa (aq (dv 0) ai) aj)))
 ar)
 ar)
 (ah (aQ (aX (aX (cF eV oo rfl T.n_str PyProof.Rows.Boot.«str» (aa (aq (dv 0) ai) aj)) bq) (cF eV oo rfl T.n_str PyProof.Rows.Boot.«str» (aa (aq (dv 0) ai) aj))))
 ar)))
def vn(T:Txt K mg t):fL P w K mg base CX0 2 (t.A 22) (t.Q 22) ["tie"] (spD K 1 m_shown_tie) "shown_tie" (top 43) :=
 oD T.g sc (i:=22) rfl λ_ _ _ _ _ _ _ hr=>(
 (ah (aK (i:=1) (nd 22) rfl (SY rfl) (jU (aJ vi vv (aq (dv 0) (aV T.kB rfl)) dJ nm) bq (rC (iE T) hr (aa (aq (dv 0) (aV T.kB rfl)) aj))))
 (ah (aQ (lU bq (aa (cK (aa bq (aa (aq (dv 0) (aV T.pb rfl)) (aa (aq (dv 0) (aV T.jo rfl)) (aa (aq (dv 0) (aV T.oq rfl)) (aa (rC (iE T) hr (aa (aq (dv 0) (aV T.k9 rfl)) aj)) (aa (dv 1) aj))))))) aj)))
 ar)))
def ke(T:Txt K mg t):fL P w K mg base (gi P w) 7 (t.A 23) (t.Q 23) ["web"] (spD K 1 m_shown_web) "shown_web" (top 42) :=
 oE T.g sc (i:=23) rfl λ_ _ _ _ H _ _ hr=>(
 (ah (lS (rC (kU T) hr (aa (dv 0) aj)))
 (ah (A8 (i:=1) (nd 23) rfl rfl (vW ["place"] 1 [] rfl (lT (aq (dv 0) (aV T.gR rfl))) (fP (by decide)) (λs H C fp pn=>⟨λHe η=>(dU (i:=0) (show VI (["place"]:ci) from by decide) rfl (SY rfl)),jh,(aX bq (dv 0))⟩) ⟨rfl,rfl⟩ rfl rfl rfl rfl))
 (ah (uB (i:=1) rfl (SY rfl) (Lg (vW ["tie"] 1 [] rfl (lT (aq (dv 0) (aV T.sE rfl))) (fP (by decide)) (λs H C fp pn=>⟨λHe η=>(dU (i:=0) (show VI (["tie"]:ci) from by decide) rfl (SY rfl)),jh,(rC (vn T) hr (aa (dv 0) aj))⟩) ⟨rfl,rfl⟩ rfl rfl rfl rfl)))
 (ah (uB (i:=1) rfl (SY rfl) (ku (aa (aX bq (aq (dv 0) (aV T.lW rfl))) (aa (aX bq (aq (dv 0) (aV T.ou rfl))) aj))))
 (ah (aQ (lU bq (aa (dv 1) aj)))
 ar))))))
def qW(T:Txt K mg t):fL P w K mg base CX0 2 (t.A 24) (t.Q 24) ["draft","name"] (KR K 1 (.ins "Draft" ["places","ties","ends"]) m_takes_place) "takes_place" (top 46) :=
 oJ T.g sc (i:=24) rfl rfl λ_ _ _ _ _ _ _ _ _ _ hr=>(
 (bu (mh (i:=0) (DW.dt (cB (aJ (eE hr.units) gH (fY (dv 0)) (cK aj) nm) (cB (aJ (eE hr.units) gH (fY (dv 0)) (cK aj) nm) (aW (aJ (cH hr.units) ef (aM bb cb rfl T.n_len PyProof.Rows.Boot.«len» (aa (fY (dv 0)) aj)) (aV T.gE rfl) nm)))))
 (bu (kl dM)
 cw)
 cw)
 (bu (mh (i:=0) (DW.dt (cB (bQ (bH (rC (iF T) hr (aa (dv 1) aj)))) (aW (aJ (um hr.units) uq (dv 1) (fY (dv 0)) rfl))))
 (bu (kl dM)
 cw)
 cw)
 (bu (y9 (mz (i:=0) (k:=0) rfl (by decide) rfl rfl (SY rfl)) (dv 1))
 (bu (kl dM)
 cw)))))
def vk(T:Txt K mg t):fL P w K mg base CX0 1 (t.A 25) (t.Q 25) ["draft","tie"] (KR K 1 (.ins "Draft" ["places","ties","ends"]) m_takes_tie) "takes_tie" (top 48) :=
 oJ T.g sc (i:=25) rfl rfl λ_ _ _ _ _ _ _ _ _ _ hr=>(
 (bu (mh (i:=0) (DW.dt (cB (aJ vi vv (dv 1) dJ nm) (cB (aJ (eE hr.units) gH (fY (dv 0)) (cK aj) nm) (aW (aJ (cH hr.units) ef (aM bb cb rfl T.n_len PyProof.Rows.Boot.«len» (aa (fY (dv 0)) aj)) (aV T.jr rfl) nm)))))
 (bu (kl dM)
 cw)
 cw)
 (bu (mh (i:=0) (DW.dt (cB (aJ (jJ hr.units) jM (aq (dv 1) (aV T.pb rfl)) (fY (dv 0)) rfl) (aW (aJ (jJ hr.units) jM (aq (dv 1) (aV T.jo rfl)) (fY (dv 0)) rfl))))
 (bu (kl dM)
 cw)
 cw)
 (bu (y9 (mz (i:=0) (k:=1) rfl (by decide) rfl rfl (SY rfl)) (dv 1))
 (bu (kl dM)
 cw)))))
def qX(T:Txt K mg t):fL P w K mg base CX0 1 (t.A 26) (t.Q 26) ["text"] (spD K 1 m_has_figures) "has_figures" (top 41) :=
 oD T.g sc (i:=26) rfl λ_ _ _ _ H _ _ hr=>(
 (ah (aK (i:=1) (nd 26) rfl (SY rfl) (jU (bH (CW (dv 0) bq)) (c9 (dv 0) (dG ai) jf) (dv 0)))
 (ah (aQ (jz (Gx mP mP (fG λ_ _ _ _=>rb _) (fG λ_ _ _ _=>rb _) fH fH ai (aM bb cb rfl T.n_len PyProof.Rows.Boot.«len» (aa (dv 1) aj)) (aV T.iP rfl)) (iM (aM (sC rfl) zF rfl T.n_all PyProof.Rows.Boot.«all» (aa (Bb (vW ["sign"] 1 [] rfl (Gs (dv 1)) (fP (by decide)) (λs H C fp pn=>⟨λHe η=>(dU (i:=0) (show VI (["sign"]:ci) from by decide) rfl (SY rfl)),jh,(fD (um hr.units) uq (dv 0) (aV T.oy rfl) rfl)⟩) ⟨rfl,rfl⟩ rfl rfl rfl rfl)) aj)))))
 ar)))
def ma(T:Txt K mg t):fL P w K mg base (gi P w) 3 (t.A 27) (t.Q 27) ["text"] (spD K 1 m_read_ratio) "read_ratio" (top 40) :=
 oE T.g sc (i:=27) rfl λ_ _ _ _ H _ _ hr=>(
 (ah (aK (i:=1) (nd 27) rfl (SY rfl) (jU (bH (bS iH rfl T.n_isinstance rfl T.n_str PyProof.Rows.Boot.«str» (dv 0))) (rQ (dv 0) bq) (cK aj)))
 (ah (ck (DW.dt (cB (bQ (rL mP mP (fG λ_ _ _ _=>rb _) (fG λ_ _ _ _=>rb _) fH fH ai (aM bb cb rfl T.n_len PyProof.Rows.Boot.«len» (aa (dv 1) aj)) ai)) (aW (bQ (bH (aM (sC rfl) zF rfl T.n_all PyProof.Rows.Boot.«all» (aa (Bb (vW ["part"] 1 [] rfl (lT (dv 1)) (fP (by decide)) (λs H C fp pn=>⟨λHe η=>(dU (i:=0) (show VI (["part"]:ci) from by decide) rfl (SY rfl)),jh,(rC (qX T) hr (aa (dv 0) aj))⟩) ⟨rfl,rfl⟩ rfl rfl rfl rfl)) aj)))))))
 (ah (c8 T.jD.xc T.bK.xi T.bK.xs T.bK.xf ((gM T).mono (by decide:1<=1)) T.bK.bi (by decide) (by decide) hr T.iK hr.hd rfl (aa ai aj))
 ar)
 ar)
 (ah (aK (i:=2) (nd 27) rfl (SY rfl) (bR (aa (cF uG Bg rfl T.n_int PyProof.Rows.Boot.«int» (aa (aq (dv 1) ai) aj)) (aa (jU (aJ (cH hr.units) ef (aM bb cb rfl T.n_len PyProof.Rows.Boot.«len» (aa (dv 1) aj)) ai nm) (cF uG Bg rfl T.n_int PyProof.Rows.Boot.«int» (aa (aq (dv 1) ai) aj)) ai) aj))))
 (ah (ck (DW.dt (cB (bQ (bH (rC (i5 T) hr (aa (dv 2) aj)))) (aW (aJ (eE hr.units) gH (rC (iE T) hr (aa (dv 2) aj)) (dv 0) nm))))
 (ah (c8 T.jD.xc T.bK.xi T.bK.xs T.bK.xf ((gM T).mono (by decide:1<=1)) T.bK.bi (by decide) (by decide) hr T.iK hr.hd rfl (aa ai aj))
 ar)
 ar)
 (ah (aQ (dv 2))
 ar))))))
def xm(T:Txt K mg t):fL P w K mg base CX0 5 (t.A 28) (t.Q 28) ["words"] (spD K 1 m_read_tie) "read_tie" (top 47) :=
 oD T.g sc (i:=28) rfl λ_ _ _ _ _ _ _ hr=>(
 (ah (Kg ⟨rfl,rfl⟩ (zV (rT (i:=1) (nd 28) rfl (SY rfl) (ma T) hr (aa (aq (dv 0) ai) aj))
 (zV (Sg (i:=2) (nd 28) rfl (SY rfl) (aJ (cH hr.units) ef (aq (dv 0) ai) bq nm) dJ (ma T) hr (aa (aq (dv 0) ai) aj))
 LG)) rfl T.iK (ml T))
 (ah (aK (i:=3) (nd 28) rfl (SY rfl) (bR (aa (aq (dv 0) ai) (aa (aq (dv 0) ai) (aa (aq (dv 0) ai) (aa (dv 1) (aa (dv 2) aj)))))))
 (ah (aQ (jU (bH (rC (uo T) hr (aa (dv 3) aj))) (dv 3) dJ))
 ar))))
def mQ(T:Txt K mg t):fL P w K mg base CX0 1 (t.A 29) (t.Q 29) ["draft","name"] (KR K 1 (.ins "Draft" ["places","ties","ends"]) m_takes_end) "takes_end" (top 49) :=
 oJ T.g sc (i:=29) rfl rfl λ_ _ _ _ _ _ _ _ _ _ hr=>(
 (bu (mh (i:=0) (DW.dt (cB (aJ uk (de λ_ _ _ _=>rb _) (aM bb cb rfl T.n_len PyProof.Rows.Boot.«len» (aa (fY (dv 0)) aj)) (aV T.fq rfl) nm) (cB (aJ (jJ hr.units) jM (dv 1) (fY (dv 0)) rfl) (aW (aJ (um hr.units) uq (dv 1) (fY (dv 0)) rfl)))))
 (bu (kl dM)
 cw)
 cw)
 (bu (y9 (mz (i:=0) (k:=2) rfl (by decide) rfl rfl (SY rfl)) (dv 1))
 (bu (kl dM)
 cw))))
def vm(T:Txt K mg t):fL P w K mg base CX0 6 (t.A 30) (t.Q 30) ["draft","words"] (KR K 1 (.ins "Draft" ["places","ties","ends"]) m_takes_row) "takes_row" (top 45) :=
 oJ T.g sc (i:=30) rfl rfl λ_ _ _ _ _ _ _ _ _ _ hr=>(
 (bu (mh (i:=0) (DW.dt (rK (aJ (cH hr.units) ef (aq (dv 1) ai) bq nm) (iL (aJ (cH hr.units) ef (aM bb cb rfl T.n_len PyProof.Rows.Boot.«len» (aa (dv 1) aj)) ai nm))))
 (bu (pZ (rJ 0 (qW T) hr (aa (aq (dv 1) ai) aj)))
 cw)
 cw)
 (bu (mh (i:=0) (DW.dt (rK (aJ (cH hr.units) ef (aq (dv 1) ai) bq nm) (iL (aJ (cH hr.units) ef (aM bb cb rfl T.n_len PyProof.Rows.Boot.«len» (aa (dv 1) aj)) ai nm))))
 (bu (pZ (rJ 0 (vk T) hr (aa (rC (xm T) hr (aa (dv 1) aj)) aj)))
 cw)
 cw)
 (bu (mh (i:=0) (DW.dt (rK (aJ (cH hr.units) ef (aq (dv 1) ai) bq nm) (iL (aJ (cH hr.units) ef (aM bb cb rfl T.n_len PyProof.Rows.Boot.«len» (aa (dv 1) aj)) ai nm))))
 (bu (pZ (Fp (i:=0) (fD (cH hr.units) ef (fY (dv 0)) (cK aj) nm) (rJ 0 (mQ T) hr (aa (aq (dv 1) ai) aj))))
 cw)
 cw)
 (bu (mh (i:=0) (DW.dt (rK (aJ (cH hr.units) ef (aq (dv 1) ai) bq nm) (iL (aJ (cH hr.units) ef (aM bb cb rfl T.n_len PyProof.Rows.Boot.«len» (aa (dv 1) aj)) ai nm))))
 (bu (pZ (Fp (i:=0) (fD (cH hr.units) ef (aM bb cb rfl T.n_len PyProof.Rows.Boot.«len» (aa (fY (dv 0)) aj)) ai nm) (rJ 0 (mQ T) hr (aa (aq (dv 1) ai) aj))))
 cw)
 cw)
 (bu (kl dM)
 cw))))))
def iY(T:Txt K mg t):fL P w K mg base (gi P w) 7 (t.A 31) (t.Q 31) ["text"] (spD K 1 m_read_web) "read_web" (top 44) :=
 oE T.g sc (i:=31) rfl λ_ _ _ _ _ _ _ hr=>(
 (ah (ck (bQ (bH (bS iH rfl T.n_isinstance rfl T.n_str PyProof.Rows.Boot.«str» (dv 0))))
 (ah (c8 T.jD.xc T.bK.xi T.bK.xs T.bK.xf ((gM T).mono (by decide:1<=5)) T.bK.bi (by decide) (by decide) hr T.iK hr.hd rfl (aa ai aj))
 ar)
 ar)
 (zu (i:=1) rfl (nd 31) rfl (SY rfl) T.E8 ((zg T).mono (by decide:1<=5)) hr rfl T.FJ T.wN.ns T.sG T.wN.recC yQ λa q=>(bu (vG λ_=>(aK (i:=2) (nd 31) rfl (SY rfl) (rQ (dv 0) bq)))
 (bu (Jc WX rfl (vU rfl T.n_enumerate (dv 2)) (λ_=>(nZ rfl (bC (i:=3) (nd 31) rfl (SY rfl) (bC (i:=4) (nd 31) rfl (SY rfl) ji)))) ip
 (bu (MK (rJ 1 (vm T) hr (aa (rQ (dv 4) bq) aj))
 (bu (vG λ_=>(c8 T.jD.xc T.bK.xi T.bK.xs T.bK.xf ((gM T).mono (by decide:1<=5)) T.bK.bi (by decide) (by decide) hr T.iK hr.hd rfl (aa (dv 3) aj)))
 cw))
 cw))
 (bu (mh (i:=1) (aJ uk (de λ_ _ _ _=>rb _) (aM bb cb rfl T.n_len PyProof.Rows.Boot.«len» (aa (fY (dv 1)) aj)) ai nm)
 (bu (vG λ_=>(c8 T.jD.xc T.bK.xi T.bK.xs T.bK.xf ((gM T).mono (by decide:1<=5)) T.bK.bi (by decide) (by decide) hr T.iK hr.hd rfl (aa (aM bb cb rfl T.n_len PyProof.Rows.Boot.«len» (aa (dv 2) aj)) aj)))
 cw)
 cw)
 (bu (Pp (i:=1) (O7 (mz (i:=1) (k:=0) rfl (by decide) rfl rfl (SY rfl)) (mz (i:=1) (k:=1) rfl (by decide) rfl rfl (SY rfl)) (mz (i:=1) (k:=2) rfl (by decide) rfl rfl (SY rfl)) (mz (i:=1) (k:=2) rfl (by decide) rfl rfl (SY rfl)) rfl rfl))
 cw)))))))
def tE(T:Txt K mg t):fL P w K mg base CX0 1 (t.A 32) (t.Q 32) ["_law_found"] (spD K 1 eS) "_law_kinds" (top 69) :=
 oD T.g sc (i:=32) rfl λ_ _ _ _ _ _ _ hr=>(
 (ah (ck (DW.dt (cB (bQ (bH (bS eU rfl T.n_isinstance rfl T.n_tuple PyProof.Rows.Boot.«tuple» (dv 0)))) (aW (aJ (eE hr.units) gH (aM bb cb rfl T.n_len PyProof.Rows.Boot.«len» (aa (dv 0) aj)) ai nm))))
 (ah (aQ dM)
 ar)
 ar)
 (ah (ck (DW.dt (cB (bQ (bH (bS i7 rfl T.n_isinstance rfl T.n_list PyProof.Rows.Boot.«list» (aq (dv 0) ai)))) (aW (bQ (bH (bS i7 rfl T.n_isinstance rfl T.n_list PyProof.Rows.Boot.«list» (aq (dv 0) ai)))))))
 (ah (aQ dM)
 ar)
 ar)
 (ah (rN Ux rfl (aq (dv 0) ai) (dU (i:=1) (nd 32) rfl (SY rfl)) iq
 (ah (ck (DW.dt (cB (bQ (bH (bS eU rfl T.n_isinstance rfl T.n_tuple PyProof.Rows.Boot.«tuple» (dv 1)))) (aW (bQ (bH (bS eU rfl T.n_isinstance rfl T.n_tuple PyProof.Rows.Boot.«tuple» (aq (dv 1) ai)))))))
 (ah (aQ dM)
 ar)
 ar)
 ar))
 (ah (aQ dM)
 ar)))))
def md(T:Txt K mg t):fL P w K mg base CX0 3 (t.A 33) (t.Q 33) ["_law_one","_law_other"] (spD K 2 df) "_law_times" (top 71) :=
 oD T.g sc (i:=33) rfl λ_ _ _ _ _ _ _ hr=>(
 (ah (aQ (rC (fR T) hr (aa (gw (aq (dv 0) ai) (aq (dv 1) ai)) (aa (gw (aq (dv 0) ai) (aq (dv 1) ai)) aj))))
 ar))
def jK(T:Txt K mg t):fL P w K mg base (gi P w) 3 (t.A 34) (t.Q 34) ["thing"] (spD K 1 dX) "look_at_scale" (top 55) :=
 oE T.g sc (i:=34) rfl λ_ _ _ _ _ _ _ hr=>(
 (ah (ck (DW.dt (cB (bQ (bH (rC (i5 T) hr (aa (dv 0) aj)))) (aW (aJ mP (de λ_ _ _ _=>rb _) (aq (dv 0) ai) ai nm))))
 (ah (Gp T.Ds.xcls T.FK hr.hd rfl (aa bq aj))
 ar)
 ar)
 ar))
def EZ(T:Txt K mg t):fL P w K mg base CX0 2 (t.A 35) (t.Q 35) ["top","bottom"] (spD K 2 m_ratio) "ratio" (top 51) :=
 oD T.g sc (i:=35) rfl λ_ _ _ _ _ _ _ hr=>(
 (ah (ck (DW.dt (cB (bQ (bH (rC (iZ T) hr (aa (dv 0) aj)))) (aW (bQ (bH (rC (iZ T) hr (aa (dv 1) aj)))))))
 (ah xV
 ar)
 ar)
 (ah (ck (aJ (cH hr.units) ef (dv 1) ai nm)
 (ah xV
 ar)
 ar)
 (ah (aK (i:=2) (nd 35) rfl (SY rfl) (rC (i6 T) hr (aa (dv 0) (aa (dv 1) aj))))
 (ah (ck (aJ uk (de λ_ _ _ _=>rb _) (dv 1) ai nm)
 (ah (aK (i:=2) (nd 35) rfl (SY rfl) (zB (dv 2)))
 ar)
 ar)
 (ah (aQ (bR (aa (mF (dv 0) (dv 2)) (aa (mF (dv 1) (dv 2)) aj))))
 ar))))))
def xj(T:Txt K mg t):fL P w K mg base CX0 3 (t.A 36) (t.Q 36) ["one","other"] (spD K 2 m_times) "times" (top 52) :=
 oD T.g sc (i:=36) rfl λ_ _ _ _ _ _ _ hr=>(
 (ah (aQ (rC (EZ T) hr (aa (gw (aq (dv 0) ai) (aq (dv 1) ai)) (aa (gw (aq (dv 0) ai) (aq (dv 1) ai)) aj))))
 ar))
def tm(T:Txt K mg t):fL P w K mg base CX0 4 (t.A 37) (t.Q 37) ["tie","span","cost"] (spD K 3 eR) "tie_scaled" (top 56) :=
 oD T.g sc (i:=37) rfl λ_ _ _ _ _ _ _ hr=>(
 (ah (aK (i:=3) (nd 37) rfl (SY rfl) (jU (aJ vi vv (aq (dv 0) (aV T.kB rfl)) dJ nm) dJ (rC (xj T) hr (aa (dv 2) (aa (aq (dv 0) (aV T.kB rfl)) aj)))))
 (ah (aQ (bR (aa (aq (dv 0) (aV T.pb rfl)) (aa (aq (dv 0) (aV T.jo rfl)) (aa (aq (dv 0) (aV T.oq rfl)) (aa (rC (xj T) hr (aa (dv 1) (aa (aq (dv 0) (aV T.k9 rfl)) aj))) (aa (dv 3) aj)))))))
 ar)))
def Cs(T:Txt K mg t):fL P w K mg base (gi P w) 7 (t.A 38) (t.Q 38) ["web","span","cost"] (spD K 3 m_scaled) "scaled" (top 54) :=
 oE T.g sc (i:=38) rfl λ_ _ _ _ H _ _ hr=>(
 (ah (lS (rC (kU T) hr (aa (dv 0) aj)))
 (ah (lS (rC (jK T) hr (aa (dv 1) aj)))
 (ah (lS (rC (jK T) hr (aa (dv 2) aj)))
 (ah (A7 (i:=3) (nd 38) rfl rfl oh (vW ["tie","span","cost"] 1 [1,2] rfl (lT (aq (dv 0) (aV T.sE rfl))) (fP (by decide)) (λs H C fp pn=>⟨λHe η=>(dU (i:=0) (show VI (["tie","span","cost"]:ci) from by decide) rfl (SY rfl)),jh,(rC (tm T) hr (aa (dv 0) (aa (dv 1) (aa (dv 2) aj))))⟩) ⟨rfl,rfl⟩ rfl rfl rfl rfl))
 (ah (aQ (bR (aa (cF fZ m9 rfl T.n_list PyProof.Rows.Boot.«list» (aa (aq (dv 0) (aV T.gR rfl)) aj)) (aa (dv 3) (aa (aq (dv 0) (aV T.lW rfl)) (aa (aq (dv 0) (aV T.ou rfl)) aj))))))
 ar))))))
def mS(T:Txt K mg t):fL P w K mg base CX0 1 (t.A 39) (t.Q 39) ["_law_one"] (spD K 1 dk) "_law_long" (top 72) :=
 oD T.g sc (i:=39) rfl λ_ _ _ _ _ _ _ _=>(
 (ah (aQ (jz (fD vg vt (dv 0) dJ nm) (iM (fD Ar (de λ_ _ _ _=>rb _) (aM (C5 rfl) Kp rfl T.n_max PyProof.Rows.Boot.«max» (aa (dv 0) aj)) (n8 ai ai) nm))))
 ar))
def tu(T:Txt K mg t):fL P w K mg base CX0 1 (t.A 40) (t.Q 40) ["_law_thing"] (spD K 1 fT) "_law_whole" (top 60) :=
 oD T.g sc (i:=40) rfl λ_ _ _ _ _ _ _ _=>(
 (ah (aQ (jz (bS rh rfl T.n_isinstance rfl T.n_int PyProof.Rows.Boot.«int» (dv 0)) (iM (Gw (bS oV rfl T.n_isinstance rfl T.n_bool PyProof.Rows.Boot.«bool» (dv 0))))))
 ar))
def tH(T:Txt K mg t):fL P w K mg base CX0 8 (t.A 41) (t.Q 41) ["_law_web_here","_law_span","_law_cost"] (spD K 3 eT) "_law_great" (top 73) :=
 oD T.g sc (i:=41) rfl λ_ _ _ _ H _ _ hr=>(
 (ah (k6 (i:=3) (nd 41) rfl (WI rfl) (ku aj))
 (ah (rN Ux rfl (aq (dv 0) ai) (nZ rfl (bC (i:=4) (nd 41) rfl (SY rfl) (bC (i:=5) (nd 41) rfl (SY rfl) (bC (i:=6) (nd 41) rfl (SY rfl) (bC (i:=7) (nd 41) rfl (SY rfl) (bC (i:=8) (nd 41) rfl (SY rfl) ji)))))) ip
 (ah (ck (aJ vg vt (dv 8) dJ nm)
 (ah (aK (i:=8) (nd 41) rfl (SY rfl) (rC (md T) hr (aa (dv 8) (aa (dv 2) aj))))
 ar)
 ar)
 (ah (gu (i:=3) rfl (WI (SY rfl)) (bR (aa (dv 4) (aa (dv 5) (aa (dv 6) (aa (rC (md T) hr (aa (dv 7) (aa (dv 1) aj))) (aa (dv 8) aj)))))))
 ar)))
 (ah (rM 3 (aK (i:=9) (nd 41) rfl (SY rfl) (bR (aa (cF fZ m9 rfl T.n_list PyProof.Rows.Boot.«list» (aa (aq (dv 0) ai) aj)) (aa (dv 3) (aa (aq (dv 0) ai) (aa (aq (dv 0) ai) aj)))))))
 (ah (aK (i:=10) (nd 41) rfl (SY rfl) (rC (fL.noX (Cs T)) hr (aa (dv 0) (aa (dv 1) (aa (dv 2) aj)))))
 (ah (aK (i:=11) (nd 41) rfl (SY rfl) (lU bq (aa (rC (me T) hr (aa (dv 9) aj)) aj)))
 (ah (ck (DW.dt (cB (aJ (eE hr.units) gH (dv 10) (dv 9) nm) (aW (aJ (eE hr.units) gH (rC (fL.noX (ke T)) hr (aa (dv 10) aj)) (dv 11) nm))))
 (ah (aQ dM)
 ar)
 ar)
 (ah (rM 3 (A7 (i:=12) (nd 41) rfl rfl oh (vW ["_law_k","_law_ties"] 1 [3] rfl (CV rfl T.n_range (aM bb cb rfl T.n_len PyProof.Rows.Boot.«len» (aa (dv 3) aj))) (fP (by decide)) (λs H C fp pn=>⟨λHe η=>(dU (i:=0) (show VI (["_law_k","_law_ties"]:ci) from by decide) rfl (SY rfl)),(Kh (DW.dt (cB (bH (rC (mS T) hr (aa (aq (aq (dv 1) (dv 0)) ai) aj))) (aW (bH (rC (mS T) hr (aa (aq (aq (dv 1) (dv 0)) ai) aj))))))),(dv 0)⟩) ⟨rfl,rfl⟩ rfl rfl rfl rfl)))
 (ah (aK (i:=13) (nd 41) rfl (SY rfl) dJ)
 (ah (aK (i:=14) (nd 41) rfl (SY rfl) dJ)
 (ah (Gn ⟨rfl,rfl⟩ (rT (i:=14) (nd 41) rfl (SY rfl) (iY T) hr (aa (dv 11) aj)) rfl T.iK (ml T) (nd 41) rfl rfl (λea=>(ah (aK (i:=13) (nd 41) rfl (SY rfl) (Kk (CJ T) (dv 15)))
 ar)))
 (ah (ck (aJ (cH hr.units) ef (dv 12) (cK aj) nm)
 (ah (aQ (fD (cH hr.units) ef (n9 (dv 14)) (dv 9) nm))
 ar)
 ar)
 (ah (aQ (jz (rC (tu T) hr (aa (dv 13) aj)) (iM (fD (cH hr.units) ef (dv 13) (aX (aM bb cb rfl T.n_len PyProof.Rows.Boot.«len» (aa (aq (dv 0) ai) aj)) (aq (dv 12) ai)) nm))))
 ar)))))))))))))
def pz(T:Txt K mg t):fL P w K mg base CX0 8 (t.A 42) (t.Q 42) ["_law_thing"] (spD K 1 dI) "_law_refused" (top 70) :=
 oD T.g sc (i:=42) rfl λ_ _ _ _ _ _ _ hr=>(
 (ah (aK (i:=1) (nd 42) rfl (SY rfl) dM)
 (ah (Gn ⟨rfl,rfl⟩ (rD (ke T) hr (aa (dv 0) aj)) rfl T.mB (pE T) (nd 42) rfl rfl (λea=>(ah (aK (i:=1) (nd 42) rfl (SY rfl) (CY rfl T.jb (D0 T) rfl T.n_isinstance (dv 2)))
 ar)))
 (ah (aQ (dv 1))
 ar))))
def pA(T:Txt K mg t):fL P w K mg base CX0 1 (t.A 43) (t.Q 43) ["_law_web_here"] (spD K 1 eH) "_law_no_webs" (top 74) :=
 oD T.g sc (i:=43) rfl λ_ _ _ _ _ _ _ _=>(
 (ah (Gm rfl (dv 0) (bC (i:=1) (nd 43) rfl (SY rfl) (bC (i:=2) (nd 43) rfl (SY rfl) (bC (i:=3) (nd 43) rfl (SY rfl) (bC (i:=4) (nd 43) rfl (SY rfl) ji)))))
 (ah (aK (i:=5) (nd 43) rfl (SY rfl) (bR (aa (aq (dv 1) ai) (aa (aq (dv 1) ai) (aa bq (aa (bR (aa ai (aa ai aj))) (aa dJ aj)))))))
 (ah (k6 (i:=6) (nd 43) rfl (SY rfl) (ku (aa dJ (aa (cF fZ m9 rfl T.n_list PyProof.Rows.Boot.«list» (aa (dv 0) aj)) (aa (c9 (dv 0) jf (dG ai)) (aa (bR (aa (dv 1) (aa (dv 2) (aa (dv 3) (aa (dv 3) aj))))) (aa (bR (aa (dv 1) (aa (dv 2) (aa (dv 4) (aa (dv 4) aj))))) aj)))))))
 (ah (rM 6 (k6 (i:=6) (nd 43) rfl (SY rfl) (zy (dv 6) (cK (aa (bR (aa (aX (dv 1) (c9 (dv 1) jf (dG ai))) (aa (dv 2) (aa (dv 3) (aa (dv 4) aj))))) (aa (bR (aa (cF mq yc rfl T.n_tuple PyProof.Rows.Boot.«tuple» (aa (dv 1) aj)) (aa (dv 2) (aa (dv 3) (aa (dv 4) aj))))) aj))))))
 (ah (rM 6 (k6 (i:=6) (nd 43) rfl (SY rfl) (zy (dv 6) (cK (aa (bR (aa (dv 1) (aa (aX (dv 2) (cK (aa (c9 (dv 5) jf (dG ai)) aj))) (aa (dv 3) (aa (dv 4) aj))))) (aa (bR (aa (dv 1) (aa (cF mq yc rfl T.n_tuple PyProof.Rows.Boot.«tuple» (aa (dv 2) aj)) (aa (dv 3) (aa (dv 4) aj))))) aj))))))
 (ah (rM 6 (k6 (i:=6) (nd 43) rfl (SY rfl) (zy (dv 6) (cK (aa (bR (aa (dv 1) (aa (aX (dv 2) (zA (ku (aa (dv 5) aj)) ai)) (aa (dv 3) (aa (dv 4) aj))))) (aa (bR (aa (dv 1) (aa (dv 2) (aa bq (aa (dv 4) aj))))) aj))))))
 (ah (rN Ux rfl (cK (aa (bR (aa ai (aa bq aj))) (aa (bR (aa ai (aa (aq (dv 1) ai) aj))) (aa (bR (aa ai (aa bq aj))) (aa (bR (aa ai (aa (bR (aa (zB ai) (aa ai aj))) aj))) (aa (bR (aa ai (aa (bR (aa ai (aa ai aj))) aj))) (aa (bR (aa ai (aa (bR (aa ai (aa ai aj))) aj))) aj))))))) (nZ rfl (bC (i:=7) (nd 43) rfl (SY rfl) (bC (i:=8) (nd 43) rfl (SY rfl) ji))) ip
 (ah (gu (i:=6) rfl (SY rfl) (bR (aa (dv 1) (aa (aX (dv 2) (cK (aa (Bc (Bc (c9 (dv 5) jf (dG (dv 7))) (bR (aa (dv 8) aj))) (c9 (dv 5) (dG (aX (dv 7) ai)) jf)) aj))) (aa (dv 3) (aa (dv 4) aj))))))
 ar))
 (ah (aQ (dv 6))
 ar)))))))))
def ok_law(T:Txt K mg t):fL P w K mg base CX0 9 (t.A 44) (t.Q 44) ["_law_script"] (spD K 1 m_law) "law" (top 75) :=
 oD T.g sc (i:=44) rfl λ_ _ _ _ _ _ _ hr=>(
 (ah (vS Ux rfl (CU rfl T.n_range ai ai ai) (dU (i:=1) (nd 44) rfl (SY rfl)) iq
 (ah (aK (i:=2) (nd 44) rfl (SY rfl) (rC (xp T) hr (aa (dv 0) (aa (dv 1) aj))))
 (ah (aK (i:=3) (nd 44) rfl (SY rfl) (bR (aa (cF fZ m9 rfl T.n_list PyProof.Rows.Boot.«list» (aa (aq (dv 2) ai) aj)) (aa (cF fZ m9 rfl T.n_list PyProof.Rows.Boot.«list» (aa (aq (dv 2) ai) aj)) (aa (aq (dv 2) ai) (aa (aq (dv 2) ai) aj))))))
 (ah (aK (i:=4) (nd 44) rfl (SY rfl) (lU bq (aa (rC (me T) hr (aa (dv 2) aj)) aj)))
 (ah (aK (i:=5) (nd 44) rfl (SY rfl) (rC (fL.noX (ke T)) hr (aa (dv 2) aj)))
 (ah (ck (DW.dt (cB (bQ (bH (bS iH rfl T.n_isinstance rfl T.n_str PyProof.Rows.Boot.«str» (dv 5)))) (cB (aJ (eE hr.units) gH (dv 5) (dv 4) nm) (aW (aJ (eE hr.units) gH (dv 2) (dv 3) nm)))))
 (ah (aQ dM)
 ar)
 ar)
 (Kf (HJ (x:=6) [5] (nd 44) rfl (SY rfl) (λ_ _ h=>h) (rC (fL.noX (iY T)) hr (aa (dv 5) aj))
 (Oo (DW.dt (cB (bQ (bH (rC (tE T) hr (aa (n9 (dv 6)) aj)))) (aW (aJ (eE hr.units) gH (n9 (dv 6)) (dv 3) nm))))
 (ah (aQ dM)
 ar)
 (LD (i:=7) (nd 44) rfl (SY rfl) (n9 (rC (fL.noX (iY T)) hr (aa (dv 4) aj)))
 (LF (x:=6) (DN (x:=6) rfl rfl rfl (SY rfl)
 (ah (ck (DW.dt (cB (aJ (eE hr.units) gH (n9 (dv 7)) (dv 3) nm) (aW (aJ (eE hr.units) gH (n9 (rC (fL.noX (iY T)) hr (aa (dv 5) aj))) (dv 3) nm))))
 (ah (aQ dM)
 ar)
 ar)
 (ah (aK (i:=8) (nd 44) rfl (SY rfl) (rC (gC T) hr (aa (rC (gZ T) hr (aa (dv 0) (aa (aX (dv 1) ai) aj))) (aa (cK (aa ai (aa (n6 (n8 ai ai) ai) (aa (n6 (n8 ai ai) ai) aj)))) aj))))
 (ah (aK (i:=9) (nd 44) rfl (SY rfl) (rC (fR T) hr (aa (aX ai (aq (dv 8) ai)) (aa (aX ai (aq (dv 8) ai)) aj))))
 (ah (ck (bQ (bH (rC (tH T) hr (aa (dv 2) (aa (dv 9) (aa (aq (cK (aa (bR (aa ai (aa ai aj))) (aa (Ki (dv 9)) aj))) (aq (dv 8) ai)) aj))))))
 (ah (aQ dM)
 ar)
 ar)
 (ah (rN Ux rfl (rC (pA T) hr (aa (dv 2) aj)) (dU (i:=10) (nd 44) rfl (SY rfl)) iq
 (ah (ck (bQ (bH (rC (pz T) hr (aa (dv 10) aj))))
 (ah (aQ dM)
 ar)
 ar)
 ar))
 ar)))))))))))))))))
 (ah (aQ dM)
 ar)))
end
def txt_mk{K:SE}{h:S1}{mg:SH->Option Sy}(X:K.In h)(G:h.Ns Te mg){bA fW:SA}{jP:SA}{kY:SA}{bM:SA}{cE:SA}{gL:SA}{dQ:SA}{a0 a1 a2 a3 a4 a5 a6 a7 a8 a9 a10 a11 a12 a13 a14 a15 a16 a17 a18 a19 a20 a21 a22 a23 a24 a25 a26 a27 a28 a29 a30 a31 a32 a33 a34 a35 a36 a37 a38 a39 a40 a41 a42 a43 a44:SA}(qs:QAs K rows [a0,a1,a2,a3,a4,a5,a6,a7,a8,a9,a10,a11,a12,a13,a14,a15,a16,a17,a18,a19,a20,a21,a22,a23,a24,a25,a26,a27,a28,a29,a30,a31,a32,a33,a34,a35,a36,a37,a38,a39,a40,a41,a42,a43,a44])
  {Cv CC CZ Cj uF C1:Sy}{Cu C8:Option SA}{BM:Array (Option Sy)}
  (wX:Up K Te "Draft"=some (some (.ref bA))) (Ez:Uw K (.ref bA) "__init__"=some (some (.ref fW))) (Ey:W.isFn K (.ref fW)=true) (wW:K.lookup fW=some ⟨Cv,Cu,.func (VG "__init__" "Draft.__init__" (defArgs jG) (defBody jG) (defScope jG) .none CC CZ Cj C8 uF C1),BM⟩) (wV:Xl K uF "Draft.__init__"=true) (wU:Vv K (.ref fW)=true) (Ew:W.makesIn K bA=true) (Eu:Vv K (.ref bA)=true) (B3:WE K bA Str.empty=true) (B7:Vg K bA=true) (B2:Xc K bA=true) (B1:Uw K (.ref bA) "__setattr__"=some (some (.builtin "object.__setattr__"))) (Ca:Uw K (.ref bA) "__class__"=some (some (.builtin "object.__class__"))) (B8:Wb K (.builtin "object.__class__") "__get__"=some (some (.builtin "getset_descriptor.__get__"))) (BR:XA K (.builtin "object.__class__")=some true) (B6:XI K bA (.type "object")=some true) (BZ:UO K (.ref bA) (.type "NoneType")=some false) (BY:UO K (.ref bA) (.type "bool")=some false) (BX:UO K (.ref bA) (.type "int")=some false) (BW:UO K (.ref bA) (.type "str")=some false) (BV:UO K (.ref bA) (.type "tuple")=some false) (BU:UO K (.ref bA) (.type "list")=some false) (BS:UO K (.ref bA) (.type "dict")=some false) (pv:Uw K (.ref bA) "places"=some none) (tf:Uw K (.ref bA) "ties"=some none) (tj:Uw K (.ref bA) "ends"=some none)
  (z_abs:Up K Te "abs"=some none)
  (z_all:Up K Te "all"=some none)
  (z_bool:Up K Te "bool"=some none)
  (z_enumerate:Up K Te "enumerate"=some none)
  (z_int:Up K Te "int"=some none)
  (z_isinstance:Up K Te "isinstance"=some none)
  (z_len:Up K Te "len"=some none)
  (z_list:Up K Te "list"=some none)
  (z_max:Up K Te "max"=some none)
  (z_range:Up K Te "range"=some none)
  (z_str:Up K Te "str"=some none)
  (z_tuple:Up K Te "tuple"=some none)
  (oW:lu K "CutError" bM)
  (lA:sL K "NoText" cE)
  (lz:yg K "NoTurn" gL)
  (mK:sL K "NoWeb" dQ)
  (Bu:XQ K "NoText.__init__" cE bM jP nJ ["row"])
  (Dm:XQ K "NoWeb.__init__" dQ bM kY qD ["part","number"])
  (mL:WT K bM [.type "ValueError",.type "Exception",.type "BaseException",.type "object"] "ValueError.__new__"=true) (uS:W.readsIn K bM (.type "type")=true) (uT:W.findCls K (.ref bM) (.type "type") "__init__"=some (.val (.builtin "ValueError.__init__"))) (uR:Wb K (.ref bM) "__getattribute__"=some (some (.builtin "type.__getattribute__")))
  (EX:Sb K cE [bM,cE,dQ] [true,true,false])
  (EW:Sb K gL [bM,cE,dQ] [true,false,false])
  (Iz:Sb K dQ [bM,cE,dQ] [true,false,true])
  {pq:Tok}(pk:Up K Te "FEWEST_PLACES"=some (some (.int 2 pq)))
  {BG:Tok}(Bt:Up K Te "FIGURES"=some (some (.str "0123456789" BG)))
  {HP:Tok}(Hj:Up K Te "FIRST"=some (some (.int 2 HP)))
  {LP:Tok}(Lq:Up K Te "LAST"=some (some (.int 3 LP)))
  {D2:Tok}(Dk:Up K Te "LENGTH"=some (some (.int 3 D2)))
  {BF:Tok}(Bs:Up K Te "LETTERS"=some (some (.str "abcdefghijklmnopqrstuvwxyz" BF)))
  {qB:Tok}(qr:Up K Te "LONGEST_NAME"=some (some (.int 8 qB)))
  {qA:Tok}(qp:Up K Te "MOST_FIGURES"=some (some (.int 60 qA)))
  {sX:Tok}(sV:Up K Te "MOST_PLACES"=some (some (.int 7 sX)))
  {wC:Tok}(wx:Up K Te "MOST_TIES"=some (some (.int 14 wC)))
  {Ow:Tok}(Oc:Up K Te "ONE"=some (some (.int 0 Ow)))
  {HN:Tok}(Hi:Up K Te "OTHER"=some (some (.int 1 HN)))
  {D1:Tok}(Dj:Up K Te "PLACES"=some (some (.int 0 D1)))
  {LO:Tok}(Lp:Up K Te "TIES"=some (some (.int 1 LO)))
  {LN:Tok}(Lo:Up K Te "WORD"=some (some (.int 2 LN)))
  {Ag:SA}{Av:Obj}(Hh:Up K Te "WORDS"=some (some (.ref Ag))) (Hv:K.lookup Ag=some Av) (HB:∃od its n sl vs,Av=⟨.type "tuple",od,.seq its n,sl⟩/\bx vs its.toList/\its.size<=sizeLine/\∀H,Reps K H [.str "one",.str "both"] vs)
  {HM:Tok}(Hg:Up K Te "WORTH"=some (some (.int 4 HM))) :
  ∃t:Adr,Txt K mg t/\t.A 44=a44/\∃kV doc pm an cdv ct,t.Q 44=VG "law" "law" (defArgs (top 75)) (defBody (top 75)) (defScope (top 75)) .none kV doc pm an cdv ct:=by
 obtain⟨lN,GV⟩:=RI (ps:=["self","row"]) (λF=>F.binds λ_ _ _ _ _ _ us hl=>by obtain⟨_,_,rfl⟩:=Rk hl;rfl) Bu mL;obtain⟨mX,Ky⟩:=RI (ps:=["self","part","number"]) (λF=>F.binds λ_ _ _ _ _ _ us hl=>by obtain⟨_,_,_,rfl⟩:=RW hl;rfl) Dm mL;obtain⟨Q,hQ⟩:=KN X G bn qs;have D_law:=(hQ 44 _ rfl).2;refine⟨⟨jP,lN,kY,mX,bA,fW,_,bM,cE,gL,dQ,λi=>[a0,a1,a2,a3,a4,a5,a6,a7,a8,a9,a10,a11,a12,a13,a14,a15,a16,a17,a18,a19,a20,a21,a22,a23,a24,a25,a26,a27,a28,a29,a30,a31,a32,a33,a34,a35,a36,a37,a38,a39,a40,a41,a42,a43,a44].getD i 0,Q⟩,⟨λi r h=>(hQ i r h).1,UQ X G z_abs,UQ X G z_all,UQ X G z_bool,UQ X G z_enumerate,UQ X G z_int,UQ X G z_isinstance,UQ X G z_len,UQ X G z_list,UQ X G z_max,UQ X G z_range,UQ X G z_str,UQ X G z_tuple,UP X G wX,rq wW wV wU,?sG,⟨Ew,Ez,Ey,Eu⟩,Ib wX B3 B7 B2 B1 Ca B8 BR B6 BZ BY BX BW BV BU BS (noL_cons pv ( noL_cons tf ( noL_cons tj (noL_nil)))),UP X G oW.ns,oW,UP X G lA.i.ns,lA.i,UP X G lz.i.ns,lz.i,UP X G mK.i.ns,mK.i,lA,lz,mK,GV,Ky,⟨uS,uT,uR⟩,(RH lA EX (R0 lz EW (RH mK Iz Ls))),?fq,?oy,?lW,?ou,?k9,?ot,?iQ,?iP,?gE,?jr,?pb,?jo,?gR,?sE,?oq,?v9,?kB⟩,rfl,D_law⟩
 case sG=>exact(rq (st:=jG) wW wV wU).binds λ_ _ _ _ _ _ us hl=>by obtain⟨_,rfl⟩:=Rl hl;rfl
 case fq=>exact ey (UP X G pk)
 case oy=>exact AD (UP X G Bt)
 case lW=>exact ey (UP X G Hj)
 case ou=>exact ey (UP X G Lq)
 case k9=>exact ey (UP X G Dk)
 case ot=>exact AD (UP X G Bs)
 case iQ=>exact ey (UP X G qr)
 case iP=>exact ey (UP X G qp)
 case gE=>exact ey (UP X G sV)
 case jr=>exact ey (UP X G wx)
 case pb=>exact ey (UP X G Oc)
 case jo=>exact ey (UP X G Hi)
 case gR=>exact ey (UP X G Dj)
 case sE=>exact ey (UP X G Lp)
 case oq=>exact ey (UP X G Lo)
 case v9=>
  obtain⟨od,its,n,sl,vs,rfl,h1,h2,h3⟩:=HB;exact IZ (UP X G Hh) Hv h1 h2 h3
 case kB=>exact ey (UP X G Hg)
def txt_wr{K:SE}{mg:SH->Option Sy}{a:SA}{R:Adr->Prop}(h:∃t:Adr,Txt K mg t/\t.A 44=a/\R t):∃t:Adr,Txt K mg t/\mg "law"=some (.ref (t.A 44))/\R t:=h.elim λt ⟨T,_,r⟩=>⟨t,T,(T.g 44 _ rfl).g,r⟩
end K75
namespace Tex
open PySem PySem.NumText L2 DL
def yq(m:Nat):cr:=(WY 10 m).map Char.toNat
def A9(m:Nat):digitsVal (yq m)=m:=W.KIN.val_back m
def mE{m:Nat}(h:m<10):yq m=[m+48]:=by
 unfold yq;rw[Nat.toDigits_of_lt_base h];show[(Nat.digitChar m).toNat]=_;have:=W.KIN.digit_back m h;have k:∀d:Nat,d<10->(Nat.digitChar d).toNat=d+48:=by decide
 rw[k m h]
def vV{m:Nat}(h:10<=m):yq m=yq (m / 10)++[m % 10+48]:=by
 have hm:m % 10<10:=V4 m (by decide);have t:WY 10 (m / 10)++WY 10 (m % 10)=WY 10 (10*(m / 10)+m % 10):=Nat.toDigits_append_toDigits (by decide) (by omega) hm;rw[Nat.div_add_mod]at t;have e:=mE hm;unfold yq at e ⊢;rw[←t,T3,e]
def eL(m:Nat):AllDigits (yq m):=by
 induction m using Nat.strongRecOn with
 |_ m ih=>
  by_cases h:m<10
  .rw[mE h]
   intro c hc;rw[TC.mp hc];omega
  .rw[vV (by omega)]
   intro c hc;rcases TX.mp hc with hc|hc
   .exact ih _ (by omega) c hc
   .rw[TC.mp hc]
    have:=V4 m (show 0<10 by decide);omega
def NB(m:Nat):yq m≠[]:=by
 by_cases h:m<10
 .rw[mE h];simp
 .rw[vV (by omega)];simp
def Dz{ds:cr}{c:Nat}:digitsVal (ds++[c])=digitsVal ds*10+(c-48):=by unfold digitsVal;rw[List.foldl_append];rfl
def wr(n:Int):cr:=if n<0 then 45::yq n.natAbs else yq n.natAbs
def lE(n:Int):(TR (toString n)).cps.toList=wr n:=by
 unfold wr;cases n with
 |ofNat m=>rw[if_neg (show ¬(Int.ofNat m<0) from Int.not_lt.mpr (V8 m))];exact W.KIN.signs_num m
 |negSucc m=>
  rw[if_pos (Int.negSucc_lt_zero m),PyProof.Rows.signs_ofString];show("-"++Nat.repr (m+1)).toList.map Char.toNat=_;rw[String.toList_append,T3,Nat.toList_repr];rfl
abbrev cl(z:SH):cr:=z.cps.toList
def NI{a b:SH}(h:cl a=cl b):a=b:=by
 cases a;cases b
 congr 1
 exact Array.toList_inj.mp h
def om(a b:SH):cl (a++b)=cl a++cl b:=by
 show(a.cps++b.cps).toList=_;rw[Array.toList_append]
abbrev mw:SH:=⟨#[47]⟩
def lG:("/" : SH)=mw:=by decide
def K7{y a b:SH}:VC y [a,b]=a++y++b:=rfl
def Pq{y a b:SH}{r:ci}:VC y (a::b::r)=a++y++VC y (b::r):=rfl
end Tex
namespace K74
open PySem PySem.NumText L2 DL Com Tex
def vL(c:Nat):Bool:=N5 ⟨#[c]⟩ "0123456789"
def xF{c:Nat}:vL c=true↔(48<=c/\c<=57):=by
 have key:vL c=true↔c∈cl "0123456789":=by
  rw[PyProof.Rows.mem_iff_at];unfold vL N5;rcases StrLaws.occ_head ("0123456789" : SH) ⟨#[c]⟩ 1 (Tf 1) with⟨h0,hn⟩|⟨i,r,h0,hi,_⟩
  .rw[h0]
   exact⟨λz=>(by cases z),λ⟨i,hi⟩=>absurd hi (hn i)⟩
  .rw[h0]
   exact⟨λ_=>⟨i,hi⟩,λ_=>rfl⟩
 rw[key,show cl "0123456789"=[48,49,50,51,52,53,54,55,56,57] by decide];simp only[SV,Ui,or_false];omega
def Qj{cs:cr}:cs.all vL=true↔AllDigits cs:=by
 rw[Tp];exact⟨λh c hc=>xF.mp (h c hc),λh c hc=>xF.mpr (h c hc)⟩
theorem GD{b:Ev}(hb:b=[.no]):∀(cs:cr),bU b (dz 0) mYes (af (ag 0) (dC (.str "0123456789")) xX) (cs.map λc=>D.str ⟨#[c]⟩)=.ok (cs.map λc=>D.bl (vL c))
 |[]=>rfl
 |c::r=>by
  subst hb;rw[Tv,iz (x:=.bl (vL c)) rfl rfl rfl,GD rfl r];rfl
def OO(z:SH):iC z=(cl z).map λc=>D.str ⟨#[c]⟩:=rfl
def neg(z:SH):Bool:=(cl z).head?==some 45
def BH{z:SH}:VM z "-"=neg z:=by
 have h:=StrLaws.subAt_one z 45 0;have e:(("-" : SH))=⟨#[45]⟩:=by decide
 rw[e];have k:VM z ⟨#[45]⟩=true↔neg z=true:=by
  unfold neg;rw[beq_iff_eq,List.head?_eq_getElem?,←h];show(decide (0+1<=z.length)&&Builtin.Str.subAt z ⟨#[45]⟩ 0)=true↔_;rw[SX,decide_eq_true_eq];exact Xj
 cases a:VM z ⟨#[45]⟩<;>cases b:neg z<;>simp_all
def GB{z:SH}{i:Nat}(h:i<=z.length):cl (Vz z (some (i:Int)) none)=(cl z).drop i:=by
 have:=StrLaws.sliceText_from (x:=z) (i:=(i:Int)) ⟨by omega,by show(i:Int)<=(z.cps.toList.length:Int);rw[Uo];exact Int.ofNat_le.mpr h⟩;have e:Vz z (some (i:Int)) none=_:=this;rw[e];show List.take (((cl z).length:Int)-(i:Int)).toNat (List.drop (i:Int).toNat (cl z))=_;rw[XX (by rw[VV];omega),U9]
def gz{z:SH}:(cl z).length=z.length:=by show z.cps.toList.length=z.length;rw[Uo];rfl
def jm{a b:SH}:fN (.str a) (.str b)=.ok (.bl (decide (a=b))):=by
 have e:fN (.str a) (.str b)=.ok (.bl (cS (.str a) (.str b))):=if_pos ⟨rfl,rfl⟩;rw[e,cS];rfl
def qm{a b:SH}:jC (.str a) (.str b)=.ok (.bl (!(decide (a=b)))):=by
 have e:jC (.str a) (.str b)=.ok (.bl (!(cS (.str a) (.str b)))):=if_pos ⟨rfl,rfl⟩;rw[e,cS];rfl
def len_str{z:SH}(h:z.length<=100000):cC (.str z)=.ok (.int (z.length:Int)):=if_pos (SW h (by decide))
def rA(z:SH):SH:=if neg z=true then Vz z (some 1) none else z
def FW{z:SH}:cl (rA z)=if neg z=true then(cl z).drop 1 else cl z:=by
 unfold rA;cases h:neg z with
 |true=>
  rw[if_pos rfl,if_pos rfl];have:1<=z.length:=by
   rw[←gz];unfold neg at h;cases q:cl z with|nil=>rw[q]at h;cases h|cons c cs=>simp
  exact GB this
 |false=>rw[if_neg (by decide),if_neg (by decide)]
def Js{z:SH}:(rA z).length<=z.length:=by
 rw[←gz,←gz,FW];split
 .rw[VV];omega
 .exact Tf _
def iV(z:SH):Bool:=decide (1<=(rA z).length)&&(decide ((rA z).length<=60)&&(cl (rA z)).all vL)
def GC{f:SH}{A:Sl}(hf:f.length<=100000):eY 1 [] (BI (ag 1)) (dz 0) mYes (af (ag 0) (dC (.str "0123456789")) xX) [A,.sh (.str f)]=.ok (.lst ((cl f).map λc=>.bl (vL c))):=by
 have hl:(iC f).length<=line:=by rw[j9];exact SW hf (by decide)
 unfold eY;show(if(iC f).length<=line then _ else _)=_;rw[if_pos hl,OO];have:=GD (b:=cD 1 [] [A,.sh (.str f)]) rfl (cl f);rw[this]
def NV{g:Nat->Bool}{cs:cr}:tN (.lst (cs.map λc=>.bl (g c)))=.ok (.bl (cs.all g)):=by
 have:fu (cs.map λc=>D.bl (g c))=some (cs.map g):=jt g cs;show(match fu (cs.map λc=>D.bl (g c)) with|some bs=>ak.ok (D.bl (bs.all id))|none=>.stuck)=_;rw[this];simp[Ws,W4]
def MQ{z:SH}(hz:z.length<=100000):m_has_figures [.str z]=.ok (.bl (iV z)):=by
 have hs:sU lK (ag 0) (dC (.str "-")) [.sh (.str z),.no]=.ok (.bl (neg z)):=by
  show lK z "-"=_;unfold lK;rw[BH]
 have hf:=Js (z:=z);have hl:=len_str (z:=rA z) (by omega);have hc:=GC (f:=rA z) (A:=.sh (.str z)) (by omega);have ha:=NV (g:=vL) (cs:=cl (rA z));have hset:(G6 (sU lK (ag 0) (dC (.str "-"))) (iW (ag 0) (dD (dC (.int 1))) gI) (ag 0)) [.sh (.str z),.no]=.ok (.str (rA z)):=by
  unfold rA;cases h:neg z with
  |true=>
   rw[h]at hs;have sl:jF (.str z) (some 1) none=.ok (.str (Vz z (some 1) none)):=by
    show nH (.str z) (some 1) none=_;exact if_pos (SW hz (by decide))
   open_line with[hs,sl,if_true]
  |false=>
   rw[h]at hs;open_line with[hs,if_false,WO]
 rw[F9]at hset;rw[A4]at hc;unfold iV;generalize rA z=F at *
 by_cases h1:1<=F.length
 .by_cases h2:F.length<=60
  .have e1:decide ((1:Int)<=(F.length:Int))=true:=decide_eq_true (by omega)
   have e2:decide ((F.length:Int)<=60)=true:=decide_eq_true (by omega);rw[decide_eq_true h1,decide_eq_true h2];open_line with[m_has_figures,gF,hset,hl,e1,e2,hc,ha,Tj]
  .have e1:decide ((1:Int)<=(F.length:Int))=true:=decide_eq_true (by omega)
   have e2:decide ((F.length:Int)<=60)=false:=decide_eq_false (by omega);rw[decide_eq_true h1,decide_eq_false h2];open_line with[m_has_figures,gF,hset,hl,e1,e2,Tj,S6]
 .have e1:decide ((1:Int)<=(F.length:Int))=false:=decide_eq_false (by omega)
  rw[decide_eq_false h1];open_line with[m_has_figures,gF,hset,hl,e1,S6]
def val(z:SH):Int:=((digitsVal (cl z):Nat):Int)
def e9(z:SH):Int:=if neg z=true then -(val (rA z)) else val (rA z)
def zf{z:SH}(hd:AllDigits (cl z))(hn:cl z≠[])(hl:z.length<=60):lV (.str z)=.ok (.int (val z)):=by
 have h:=intText_digits hd hn (by omega);show(if z.length<=640 then(match Vc z with|some n=>ak.ok (D.int n)|none=>.stuck) else .stuck)=_;rw[if_pos (by omega)];have h':Vc z=some (val z):=h;rw[h']
def Mz{z:SH}(h:neg z=true):cl z=45::cl (rA z):=by
 rw[FW,if_pos h];unfold neg at h;cases q:cl z with
 |nil=>rw[q]at h;cases h
 |cons c cs=>
  rw[q]at h;have t:some c=some 45:=beq_iff_eq.mp h;injection t with t;rw[t];rfl
def vb{z:SH}(h:neg z=false):rA z=z:=by unfold rA;rw[h];rfl
def ro{z:SH}:iV z=true↔AllDigits (cl (rA z))/\cl (rA z)≠[]/\(rA z).length<=60:=by
 unfold iV;rw[SX,SX,decide_eq_true_eq,decide_eq_true_eq,Qj];constructor
 .rintro⟨h1,h2,h3⟩
  exact⟨h3,λe=>by rw[←gz,e]at h1;simp at h1,h2⟩
 .rintro⟨h1,h2,h3⟩
  refine⟨?_,h3,h1⟩;rw[←gz];cases q:cl (rA z) with|nil=>exact absurd q h2|cons c cs=>simp
def vJ{z:SH}(h:iV z=true):lV (.str z)=.ok (.int (e9 z)):=by
 obtain⟨h1,h2,h3⟩:=ro.mp h;unfold e9;cases q:neg z with
 |false=>
  rw[vb q]at h1 h2 h3 ⊢;exact zf h1 h2 h3
 |true=>
  have e:=Mz q;have hl:z.length<=61:=by
   rw[←gz,e,S0,gz];omega
  have k:Vc z=some (-(val (rA z))):=intText_neg e h1 h2 (by omega);show(if z.length<=640 then(match Vc z with|some n=>ak.ok (D.int n)|none=>.stuck) else .stuck)=_;rw[if_pos (by omega),k];rfl
def Og{n:Int}:47∉wr n:=by
 unfold wr;intro h;split at h
 .rcases SV.mp h with h|h
  .exact absurd h (by decide)
  .have:=eL _ _ h;omega
 .have:=eL _ _ h;omega
def gW(p q:Int):SH:=if q=1 then TR (toString p) else TR (toString p)++("/" : SH)++TR (toString q)
def D3{n:Int}(h:n.natAbs<10 ^ 130):kv (.int n)=.ok (.str (TR (toString n))):=by
 show(if n.natAbs.log2<1920 then ak.ok (D.str (toString n)) else .stuck)=_;refine if_pos ?_
 by_cases h0:n.natAbs=0
 .rw[h0];decide
 .exact(Nat.log2_lt h0).mpr (SU h (by decide))
theorem Ba:∀(k m:Nat),m<10 ^ k->(yq m).length<=k+1
 |0,m,h=>by rw[mE (by omega)];simp
 |k+1,m,h=>by
  by_cases c:m<10
  .rw[mE c];simp
  .rw[vV (by omega),Tc]
   have:=Ba k (m / 10) (by rw[XO]at h;omega);simp only[S0,Vn];omega
def lH{n:Int}{k:Nat}(h:n.natAbs<10 ^ k):(TR (toString n)).length<=k+2:=by
 rw[←gz];show(TR (toString n)).cps.toList.length<=_;rw[lE];unfold wr;have:=Ba k n.natAbs h;split
 .rw[S0];omega
 .omega
def qE{p q:Int}(hp:p.natAbs<10 ^ 130)(hq:q.natAbs<10 ^ 130):m_shown_ratio [.tup [.int p,.int q]]=.ok (.str (gW p q)):=by
 have s1:=D3 hp;have s2:=D3 hq;have l1:=lH hp;have l2:=lH hq;unfold gW
 by_cases c:q=1
 .subst c
  rw[if_pos rfl];open_line with[m_shown_ratio,jB,s1]
 .rw[if_neg c]
  have e:(q==1)=false:=beq_eq_false_iff_ne.mpr c;have a1:aZ (.str (TR (toString p))) (.str "/")=.ok (.str (TR (toString p)++("/" : SH))):=lQ (decide_eq_true (by have:("/" : SH).length=1:=rfl;omega));have a2:aZ (.str (TR (toString p)++("/" : SH))) (.str (TR (toString q)))=.ok (.str (TR (toString p)++("/" : SH)++TR (toString q))):=lQ (decide_eq_true (by rw[WV];have:("/" : SH).length=1:=rfl;omega));generalize TR (toString p)=P at *;generalize TR (toString q)=R at *;open_line with[m_shown_ratio,jB,e,s1,s2,a1,a2]
def Lx{p q:Int}:cl (gW p q)=if q=1 then wr p else wr p++47::wr q:=by
 unfold gW;split
 .exact lE p
 .rw[om,om,Uk]
  show cl (TR (toString p))++([47]++cl (TR (toString q)))=_;rw[show cl (TR (toString p))=wr p from lE p,show cl (TR (toString q))=wr q from lE q];rfl
abbrev NT:G1:=⟨"NoText",[("row",.int 0)]⟩
def NU{α:Type}{g:α->Bool}{cs:List α}:tN (.lst (cs.map λc=>.bl (g c)))=.ok (.bl (cs.all g)):=by
 have:fu (cs.map λc=>D.bl (g c))=some (cs.map g):=jt g cs;show(match fu (cs.map λc=>D.bl (g c)) with|some bs=>ak.ok (D.bl (bs.all id))|none=>.stuck)=_;rw[this];simp[Ws,W4]
def rX{ps:ci}{ρ:Ev}(hl:ps.length<=100000)(h:∀y∈ps,y.length<=100000):iO 1 [] (dz 0) mYes (ao (ae (ag 0) au) m_has_figures) ρ (ps.map D.str)=.ok (.lst (ps.map λy=>.bl (iV y))):=by
 rw[rW (F:=λd=>match d with|.str y=>.bl (iV y)|d=>d) (by rw[SD];omega)]
 .rw[Uy];rfl
 .intro d hd
  obtain⟨y,hy,rfl⟩:=Tt.mp hd;have:=MQ (h y hy);refine⟨[.sh (.str y)],rfl,rfl,?_⟩;open_line with[this]
def DB:∀{ds:cr},AllDigits ds->digitsVal ds<10 ^ ds.length:=by
 have key:∀(n:Nat) (ds:cr),ds.length=n->AllDigits ds->digitsVal ds<10 ^ ds.length:=by
  intro n
  induction n with
  |zero=>intro ds hl _;rw[Ve.mp hl];decide
  |succ n ih=>
   intro ds hl hd;rcases List.eq_nil_or_concat ds with rfl|⟨es,c,rfl⟩
   .simp at hl
   .rw[List.concat_eq_append]at *
    have hc:=hd c (by simp);have h1:=ih es (by simpa using hl) (λx hx=>hd x (Wx _ hx));rw[Dz,Tc];show _<10 ^ (es.length+1);rw[XO];omega
 intro ds hd;exact key _ _ rfl hd
def vI{z:SH}(h:iV z=true):(e9 z).natAbs<10 ^ 130:=by
 obtain⟨h1,_,h3⟩:=ro.mp h;have hv:=DB h1;rw[gz]at hv;have h60:10 ^ (rA z).length<=10 ^ 60:=Ur (by decide) h3;have h130:(10:Nat) ^ 60<10 ^ 130:=by decide
 unfold e9 val;split<;>omega
def Ae{z:SH}{ps:ci}(hz:z.length<=100000)(hs:Uv z mw=ps)(hn:ps.length<=100000)(hp:∀y∈ps,y.length<=100000)(h:ps.length=0∨3<=ps.length∨ps.all iV=false):m_read_ratio [.str z]=.exn NT:=by
 have h1:sU cA (ag 0) (dC (.str "/")) [.sh (.str z),.no,.no]=.ok (.lst (ps.map D.str)):=by
  show cA z "/"=_;unfold cA;rw[lG,if_pos ⟨rfl,by omega⟩,hs]
 have hc:=rX (ρ:=[.sh (.str z),.sh (.lst (ps.map D.str)),.no]) hn hp;have ha:=NU (g:=iV) (cs:=ps);have hl:(ps.map D.str).length=ps.length:=SD _;generalize ps.map D.str=P at *;generalize (ps.map λy=>D.bl (iV y))=B at *
 by_cases c1:1<=ps.length
 .have e1:decide ((1:Int)<=(P.length:Int))=true:=decide_eq_true (by omega)
  by_cases c2:ps.length<=2
  .have e2:decide ((P.length:Int)<=2)=true:=decide_eq_true (by omega)
   have e3:ps.all iV=false:=by rcases h with h|h|h<;>first|omega|exact h
   rw[e3]at ha;open_line with[m_read_ratio,cL,h1,e1,e2,hc,ha,bD,gr,bZ]
  .have e2:decide ((P.length:Int)<=2)=false:=decide_eq_false (by omega)
   open_line with[m_read_ratio,cL,h1,e1,e2,bD,gr,bZ]
 .have e1:decide ((1:Int)<=(P.length:Int))=false:=decide_eq_false (by omega)
  open_line with[m_read_ratio,cL,h1,e1,bD,gr,bZ]
def Em{z:SH}(hz:z.length<=100000)(hs:Uv z mw=[z])(hh:iV z=true):m_read_ratio [.str z]=if gW (e9 z) 1=z then .ok (.tup [.int (e9 z),.int 1]) else .exn NT:=by
 have h1:sU cA (ag 0) (dC (.str "/")) [.sh (.str z),.no,.no]=.ok (.lst [.str z]):=by
  show cA z "/"=_;unfold cA;rw[lG,if_pos ⟨rfl,by omega⟩,hs];rfl
 have hc:=rX (ps:=[z]) (ρ:=[.sh (.str z),.sh (.lst [.str z]),.no]) (by simp) (λy hy=>by rw[TC.mp hy];exact hz);rw[show([z].map D.str)=[.str z] from rfl,show([z].map λy=>D.bl (iV y))=[.bl (iV z)] from rfl,hh]at hc;have ha:tN (.lst [.bl true])=.ok (.bl true):=rfl;have hi:=vJ hh;have hr:=dS (.tup [.int (e9 z),.int 1]);rw[show eZ (.tup [.int (e9 z),.int 1])=true by show(decide ((1:Int)<=1)&&(TN (e9 z) 1==1))=true;rw[Int.gcd_one_right];rfl]at hr;have hw:=qE (p:=e9 z) (q:=1) (vI hh) (by decide);have hne:=qm (a:=gW (e9 z) 1) (b:=z);generalize e9 z=p at *;generalize gW p 1=w at *
 by_cases c:w=z
 .rw[decide_eq_true c]at hne
  rw[if_pos c];open_line with[m_read_ratio,cL,h1,hc,ha,hi,hr,hw,hne]
 .rw[decide_eq_false c]at hne
  rw[if_neg c];open_line with[m_read_ratio,cL,h1,hc,ha,hi,hr,hw,hne,bD,gr,bZ]
def El{z p q:SH}(hz:z.length<=100000)(hp:p.length<=100000)(hq:q.length<=100000)(hs:Uv z mw=[p,q])(h1p:iV p=true)(h1q:iV q=true):m_read_ratio [.str z]=if(eZ (.tup [.int (e9 p),.int (e9 q)])=true)/\gW (e9 p) (e9 q)=z then .ok (.tup [.int (e9 p),.int (e9 q)]) else .exn NT:=by
 have h1:sU cA (ag 0) (dC (.str "/")) [.sh (.str z),.no,.no]=.ok (.lst [.str p,.str q]):=by
  show cA z "/"=_;unfold cA;rw[lG,if_pos ⟨rfl,by omega⟩,hs];rfl
 have hc:=rX (ps:=[p,q]) (ρ:=[.sh (.str z),.sh (.lst [.str p,.str q]),.no]) (by simp) (λy hy=>by
  rcases SV.mp hy with rfl|hy
  .exact hp
  .rw[TC.mp hy];exact hq)
 rw[show([p,q].map D.str)=[.str p,.str q] from rfl,show([p,q].map λy=>D.bl (iV y))=[.bl (iV p),.bl (iV q)] from rfl,h1p,h1q]at hc;have ha:tN (.lst [.bl true,.bl true])=.ok (.bl true):=rfl;have hi:=vJ h1p;have hj:=vJ h1q;have hr:=dS (.tup [.int (e9 p),.int (e9 q)]);have hw:=qE (p:=e9 p) (q:=e9 q) (vI h1p) (vI h1q);have hne:=qm (a:=gW (e9 p) (e9 q)) (b:=z);generalize eZ (.tup [.int (e9 p),.int (e9 q)])=R at *;generalize gW (e9 p) (e9 q)=w at *;generalize e9 p=P at *;generalize e9 q=S at *;cases R with
 |false=>
  rw[if_neg (λt=>by cases t.1)];open_line with[m_read_ratio,cL,h1,hc,ha,hi,hj,hr,bD,gr,bZ]
 |true=>
  by_cases c:w=z
  .rw[decide_eq_true c]at hne
   rw[if_pos ⟨rfl,c⟩];open_line with[m_read_ratio,cL,h1,hc,ha,hi,hj,hr,hw,hne]
  .rw[decide_eq_false c]at hne
   rw[if_neg (λt=>c t.2)];open_line with[m_read_ratio,cL,h1,hc,ha,hi,hj,hr,hw,hne,bD,gr,bZ]
def zw{z:SH}(h:AllDigits (cl z)):neg z=false:=by
 unfold neg;cases q:cl z with
 |nil=>rfl
 |cons c cs=>
  rw[q]at h;have:=h.head;rw[beq_eq_false_iff_ne];intro t;have t:some c=some 45:=t;injection t with t;omega
end K74
namespace K68
open PySem L2 DL Com
def HH(p:Int->Bool):D->Bool
 |.tup [.int a,.int _]=>p a
 |_=>false
def lenD(d:D):Bool:=eZ d&&HH (λa=>decide (0<=a)) d
def worthD(d:D):Bool:=mV d||(eZ d&&HH (λa=>decide (0<a)) d)
def wordD:D->Bool
 |.str z=>z=="one"||z=="both"
 |_=>false
def oH{d:D}(h:eZ d=true):∃a b,d=.tup [.int a,.int b]:=by
 cases d with
 |tup xs=>
  rcases DH (xs:=xs) with⟨x,y,rfl⟩|hn
  .rw[qK,SX,SX]at h
   obtain⟨h1,h2,_⟩:=h;cases x<;>first|(cases h1;done)|skip
   cases y<;>first|(cases h2;done)|skip
   exact⟨_,_,rfl⟩
  .rw[wR hn]at h;cases h
 |_=>cases h
def uv(d:D):Com.m_is_length [d]=.ok (.bl (lenD d)):=by
 unfold lenD;cases h:eZ d with
 |false=>open_line with[Com.m_is_length,ju,dS,h,S6]
 |true=>
  obtain⟨a,b,rfl⟩:=oH h;open_line with[Com.m_is_length,ju,dS,h,Tj,HH]
def Dt(d:D):Com.m_is_worth [d]=.ok (.bl (worthD d)):=by
 unfold worthD;cases hn:mV d with
 |true=>open_line with[Com.m_is_worth,iR,kq,hn,Bool.true_or]
 |false=>
  cases h:eZ d with
  |false=>open_line with[Com.m_is_worth,iR,kq,hn,dS,h,S6,Xy]
  |true=>
   obtain⟨a,b,rfl⟩:=oH h;open_line with[Com.m_is_worth,iR,kq,hn,dS,h,Tj,Xy,HH]
open Nwb (Bn GS)
def tie5(a b w l o:D):Bool:=mf a&&(mf b&&(!(cS a b)&&(wordD w&&(lenD l&&worthD o))))
def xu{d:D}(h:mf d=true):∃z,d=.str z:=by cases d<;>first|exact⟨_,rfl⟩|cases h
def rG{x y:SH}:fN (.str x) (.str y)=.ok (.bl (cS (.str x) (.str y))):=by unfold fN;rw[if_pos ⟨rfl,rfl⟩]
def Dw{w:SH}:(([.str "one",.str "both"]:ac).any λd=>cS d (.str w))=wordD (.str w):=by
 show((("one" : SH)==w)||((("both" : SH)==w)||false))=((w=="one")||(w=="both"));rw[Bool.or_false,Bool.beq_comm (a:=("one" : SH)),Bool.beq_comm (a:=("both" : SH))]
def uV{w:SH}:c6 (.str w) (.tup [.str "one",.str "both"])=.ok (.bl (!(wordD (.str w)))):=by
 have e:G3 (.str w) (.tup [.str "one",.str "both"])=some (wordD (.str w)):=by
  show(if bf 40 (.str w)=true/\([.str "one",.str "both"]:ac).all (bf 40)=true then some (([.str "one",.str "both"]:ac).any λd=>cS d (.str w)) else none)=_;rw[if_pos ⟨rfl,rfl⟩,Dw]
 unfold c6;rw[e]
def Dv{d:D}(h:∀z,d≠.str z):wordD d=false:=by cases d<;>first|rfl|exact absurd rfl (h _)
def Sn{d:D}(h:∀z,d≠.str z):dW "str" d=.ok (.bl false):=by
 cases d with
 |str z=>exact absurd rfl (h z)
 |ob k ds=>cases k<;>rfl
 |_=>rfl
def tie_tail{a b w l o:D}(fa:AR a=true)(fb:AR b=true):Com.m_is_tie [.tup [a,b,w,l,o]]=.ok (.bl (tie5 a b w l o)):=by
 unfold tie5;cases ha:mf a with
 |false=>open_line with[Com.m_is_tie,fj,bN fa,ha,S6]
 |true=>
  cases hb:mf b with
  |false=>open_line with[Com.m_is_tie,fj,bN fa,bN fb,ha,hb,S6,Tj]
  |true=>
   obtain⟨x,rfl⟩:=xu ha;obtain⟨y,rfl⟩:=xu hb;cases he:cS (.str x) (.str y) with
   |true=>open_line with[Com.m_is_tie,fj,bN fa,bN fb,ha,hb,rG,he,S6,Tj,Tx]
   |false=>
    by_cases hw:∃z,w=.str z
    .obtain⟨z,rfl⟩:=hw
     cases hz:wordD (.str z) with
     |false=>open_line with[Com.m_is_tie,fj,bN fa,bN fb,ha,hb,rG,he,uV,hz,S6,Tj,TJ]
     |true=>
      cases hl:lenD l with
      |false=>open_line with[Com.m_is_tie,fj,bN fa,bN fb,ha,hb,rG,he,uV,hz,uv,hl,S6,Tj,TJ,Tx]
      |true=>open_line with[Com.m_is_tie,fj,bN fa,bN fb,ha,hb,rG,he,uV,hz,uv,hl,Dt,Tj,TJ,Tx]
    .have hn:∀z,w≠.str z:=λz hz=>hw ⟨z,hz⟩
     open_line with[Com.m_is_tie,fj,bN fa,bN fb,ha,hb,rG,he,Sn hn,Dv hn,S6,Tj,TJ]
end K68
namespace K76
open PySem L2 DL Com Tex K74
def IM{z:SH}(h:z.length<=90000):m_is_name [.str z]=.ok (.bl (cU z)):=bN (d:=.str z) (decide_eq_true (SW h (by decide)))
def lP{g:bv}{hit:SH->Bool}{ρ:Ev}:Ef g hit ρ=tW hit (g ρ):=rfl
def mZ{hit:SH->Bool}{r:Fl}:tW hit (.ok r)=.ok r:=rfl
def xT:tW (gN gK) (.exn NT)=.ok (.rt .non):=rfl
def AY{i:Nat}{fc f0:am}{fa:Ev->ak (ac)}{m:ac->ak D}{ρ:Ev}{d:D}(h:fc ρ=.ok (.bl true))(h0:f0 ρ=.ok d):iD i fc f0 fa m ρ=.ok (.nx (ρ.set i (.sh d))):=by
 unfold iD;rw[h];dsimp only;rw[h0]
def vP{i:Nat}{fc f0:am}{fa:Ev->ak (ac)}{m:ac->ak D}{ρ:Ev}(h:fc ρ=.ok (.bl false)):iD i fc f0 fa m ρ=kS i fa m ρ:=by
 unfold iD;rw[h]
abbrev yn(w0 w1 w2 w3 w4 w5:SH):D:=.lst [.str w0,.str w1,.str w2,.str w3,.str w4,.str w5]
abbrev sW(w1 w2 w3:SH)(L O:D):D:=.tup [.str w1,.str w2,.str w3,L,O]
section
variable {w0 w1 w2 w3 w4 w5:SH}
def s1:aH (yn w0 w1 w2 w3 w4 w5) (.int 1)=.ok (.str w1):=rfl
def s2:aH (yn w0 w1 w2 w3 w4 w5) (.int 2)=.ok (.str w2):=rfl
def s3:aH (yn w0 w1 w2 w3 w4 w5) (.int 3)=.ok (.str w3):=rfl
def s4:aH (yn w0 w1 w2 w3 w4 w5) (.int 4)=.ok (.str w4):=rfl
def s5:aH (yn w0 w1 w2 w3 w4 w5) (.int 5)=.ok (.str w5):=rfl
def s6:cC (yn w0 w1 w2 w3 w4 w5)=.ok (.int 6):=rfl
def Eo(h:m_read_ratio [.str w4]=.exn NT):m_read_tie [yn w0 w1 w2 w3 w4 w5]=.ok .non:=by
 open_line with[m_read_tie,fF,lP,jd,gP,s4,h,bZ,xT]
def En{L:D}(h:m_read_ratio [.str w4]=.ok L)(hw:w5≠"-")(h5:m_read_ratio [.str w5]=.exn NT):m_read_tie [yn w0 w1 w2 w3 w4 w5]=.ok .non:=by
 have e:=jm (a:=w5) (b:="-");rw[decide_eq_false hw]at e;have hc:af (af (ag 0) (dC (.int 5)) aH) (dC (.str "-")) fN [.sh (yn w0 w1 w2 w3 w4 w5),.sh L,.no,.no]=.ok (.bl false):=by open_line with[s5,e]
 open_line with[m_read_tie,fF,lP,jd,gP,s4,h,vP hc,s5,h5,bZ,xT]
def Cd{L:D}(h:m_read_ratio [.str w4]=.ok L)(hw:w5="-")(h1:w1.length<=90000)(h2:w2.length<=90000):m_read_tie [yn w0 w1 w2 w3 w4 w5]=.ok (if K68.tie5 (.str w1) (.str w2) (.str w3) L .non=true then sW w1 w2 w3 L .non else .non):=by
 have e:=jm (a:=w5) (b:="-");rw[decide_eq_true hw]at e;have hc:af (af (ag 0) (dC (.int 5)) aH) (dC (.str "-")) fN [.sh (yn w0 w1 w2 w3 w4 w5),.sh L,.no,.no]=.ok (.bl true):=by open_line with[s5,e]
 have h0:dC D.non [.sh (yn w0 w1 w2 w3 w4 w5),.sh L,.no,.no]=.ok .non:=rfl;have ht:=K68.tie_tail (a:=.str w1) (b:=.str w2) (w:=.str w3) (l:=L) (o:=.non) (decide_eq_true (SW h1 (by decide))) (decide_eq_true (SW h2 (by decide)));cases q:K68.tie5 (.str w1) (.str w2) (.str w3) L .non with
 |true=>
  rw[q]at ht;open_line with[m_read_tie,fF,lP,jd,gP,s4,h,AY hc h0,mZ,s1,s2,s3,ht]
  rfl
 |false=>
  rw[q]at ht;open_line with[m_read_tie,fF,lP,jd,gP,s4,h,AY hc h0,mZ,s1,s2,s3,ht]
  rfl
def Cc{L O:D}(h:m_read_ratio [.str w4]=.ok L)(hw:w5≠"-")(h5:m_read_ratio [.str w5]=.ok O)(h1:w1.length<=90000)(h2:w2.length<=90000):m_read_tie [yn w0 w1 w2 w3 w4 w5]=.ok (if K68.tie5 (.str w1) (.str w2) (.str w3) L O=true then sW w1 w2 w3 L O else .non):=by
 have e:=jm (a:=w5) (b:="-");rw[decide_eq_false hw]at e;have hc:af (af (ag 0) (dC (.int 5)) aH) (dC (.str "-")) fN [.sh (yn w0 w1 w2 w3 w4 w5),.sh L,.no,.no]=.ok (.bl false):=by open_line with[s5,e]
 have ht:=K68.tie_tail (a:=.str w1) (b:=.str w2) (w:=.str w3) (l:=L) (o:=O) (decide_eq_true (SW h1 (by decide))) (decide_eq_true (SW h2 (by decide)));cases q:K68.tie5 (.str w1) (.str w2) (.str w3) L O with
 |true=>
  rw[q]at ht;open_line with[m_read_tie,fF,lP,jd,gP,s4,h,vP hc,s5,h5,mZ,s1,s2,s3,ht]
  rfl
 |false=>
  rw[q]at ht;open_line with[m_read_tie,fF,lP,jd,gP,s4,h,vP hc,s5,h5,mZ,s1,s2,s3,ht]
  rfl
end
def RU:D->Bool
 |.tup [.int p,.int _]=>decide (0<=p)
 |_=>false
def Dg(d:D):Prop:=d=.non∨∃p q,d=.tup [.int p,.int q]
def mW{xs:ac}:mV (.tup xs)=false:=rfl
def Jh:mV .non=true:=rfl
def Sj{p:Int}:Gz (.int p) (.int 0)=.ok (.bl (decide (p<0))):=rfl
def Sm{p:Int}:C0 (.int p) (.int 0)=.ok (.bl (decide (p<=0))):=rfl
def Si:jC (.int 6) (.int 6)=.ok (.bl false):=rfl
section
variable {w0 w1 w2 w3 w4 w5:SH}{ps:ci}
def Ke{a b:SH}:cS (.str a) (.str b)=decide (a=b):=by
 have h1:=jm (a:=a) (b:=b);unfold fN at h1;rw[if_pos ⟨rfl,rfl⟩]at h1;injection h1 with h1;injection h1
def Jr{p q:Int}{O:D}{oO:Bool}(hL:eZ (.tup [.int p,.int q])=true)(hO:K68.worthD O=oO):K68.tie5 (.str w1) (.str w2) (.str w3) (.tup [.int p,.int q]) O=(cU w1&&(cU w2&&(!(decide (w1=w2))&&(K68.wordD (.str w3)&&(RU (.tup [.int p,.int q])&&oO))))):=by
 unfold K68.tie5;rw[Ke,hO];show(cU w1&&(cU w2&&(!(decide (w1=w2))&&(K68.wordD (.str w3)&&((eZ (.tup [.int p,.int q])&&decide (0<=p))&&oO)))))=_;rw[hL,Tj];rfl
end
abbrev DK:Hk:=.ins "Draft" ["places","ties","ends"]
def Fs(s t:Ev->S3->ak gf)(ρ:Ev)(st:S3)(d:D):ak gf:=match d with
 |.bl b=>if b=true then s ρ st else t ρ st
 |_=>.stuck
def Fu(k:Nat)(ρ:Ev)(st:S3)(d:D):ak gf:=if l5 d=true/\(st.at k).length<line then .ok (.nx ρ (st.add k d)) else .stuck
def AK(g:Ev->S3->ak (D×S3))(ρ:Ev)(st:S3)(d:D):ak (D×S3):=match d with
 |.bl b=>if b=true then g ρ st else .ok (.bl false,st)
 |_=>.stuck
section
variable {h:Hk}{i k n:Nat}{a:SA}{f:am}{fa:Ev->ak (ac)}{m:SA->S3->ac->ak (D×S3)}{s t:Ev->S3->ak gf}{g:Ev->S3->ak (D×S3)}{ρ:Ev}{st:S3}{W:D}{b:SA->Ev->S3->ak gf}
def fJ:km (some (.pt a)) a=true:=beq_self_eq_true a
def K5(hp:km ρ[i]? a=true)(hn:noO ρ=true):wm h i a f s t ρ st=(f (AB h i ρ st)).bind (Fs s t ρ st):=by
 unfold wm;rw[if_pos ⟨hp,hn⟩];congr 1;funext d;cases d with
 |bl b=>cases b<;>rfl
 |_=>rfl
def dy:Fs s t ρ st (.bl true)=s ρ st:=rfl
def fU:Fs s t ρ st (.bl false)=t ρ st:=rfl
def MI(hp:km ρ[i]? a=true)(hn:noO ρ=true):xA h i a k f ρ st=(f (AB h i ρ st)).bind (Fu k ρ st):=by
 unfold xA;rw[if_pos ⟨hp,hn⟩];rfl
def vF{d:D}(hf:l5 d=true)(hl:decide ((st.at k).length<100)=true):Fu k ρ st d=.ok (.nx ρ (st.add k d)):=if_pos ⟨hf,SU (of_decide_eq_true hl) (by decide)⟩
def vE(hp:km ρ[i]? a=true)(hn:noO ρ=true):i9 i a fa m ρ st=(fa ρ).bind (fV a m st):=by
 unfold i9;rw[if_pos ⟨hp,hn⟩]
def iI{ds:ac}{p:D×S3}(hm:m a st ds=.ok p):fV a m st ds=.ok p:=by unfold fV;rw[hm]
def MJ(hp:km ρ[i]? a=true)(hn:noO ρ=true):zc h i a f g ρ st=(f (AB h i ρ st)).bind (AK g ρ st):=by
 unfold zc;rw[if_pos ⟨hp,hn⟩];congr 1;funext d;cases d with
 |bl b=>cases b<;>rfl
 |_=>rfl
def AG:AK g ρ st (.bl true)=g ρ st:=rfl
def AF:AK g ρ st (.bl false)=.ok (.bl false,st):=rfl
def cj:cZ s t ρ st=(s ρ st).bind (rk t):=rfl
def dq{ρ':Ev}{st':S3}:rk t (.nx ρ' st')=t ρ' st':=rfl
def cI{d:D}{st':S3}:rk t (.rt d st')=.ok (.rt d st'):=rfl
def dR:cu ρ st=.ok (.nx ρ st):=rfl
def K8(st:S3)(d:D):ak gf:=.ok (.rt d st)
def eK:pC f ρ st=(f ρ).bind (K8 st):=rfl
def du{d:D}:K8 st d=.ok (.rt d st):=rfl
def nU(p:D×S3):ak gf:=.ok (.rt p.1 p.2)
def lL:rl g ρ st=(g ρ st).bind nU:=rfl
def xy{p:D×S3}:nU p=.ok (.rt p.1 p.2):=rfl
def eJ:wM 2 b a st [W]=(b a [.pt a,.sh W] st).bind wL:=rfl
def cJ{d:D}:wL (.rt d st)=.ok (d,st):=rfl
def eD:wm DK 0 a f s t [.pt a,.sh W] st=(f [.sh (iJ DK st),.sh W]).bind (Fs s t [.pt a,.sh W] st):=K5 fJ rfl
def yR:xA DK 0 a k f [.pt a,.sh W] st=(f [.sh (iJ DK st),.sh W]).bind (Fu k [.pt a,.sh W] st):=MI fJ rfl
def pV:i9 0 a fa m [.pt a,.sh W] st=(fa [.pt a,.sh W]).bind (fV a m st):=vE fJ rfl
def vf:zc DK 0 a f g [.pt a,.sh W] st=(f [.sh (iJ DK st),.sh W]).bind (AK g [.pt a,.sh W] st):=MJ fJ rfl
def FH:iN "places" (iJ DK st)=.ok (.lst st.p):=rfl
def G4:iN "ties" (iJ DK st)=.ok (.lst st.t):=rfl
def yp:iN "ends" (iJ DK st)=.ok (.lst st.e):=rfl
end
def wc(t:D):Prop:=∃w1 w2 w3 L O,t=sW w1 w2 w3 L O/\Dg L/\Dg O
def wc.fl{t:D}(h:wc t):l5 t=true:=by
 obtain⟨w1,w2,w3,L,O,rfl,hL,hO⟩:=h;rcases hL with rfl|⟨p,q,rfl⟩<;>rcases hO with rfl|⟨p',q',rfl⟩<;>rfl
def wc.sh{t:D}(h:wc t):bf 39 t=true:=by
 obtain⟨w1,w2,w3,L,O,rfl,hL,hO⟩:=h;rcases hL with rfl|⟨p,q,rfl⟩<;>rcases hO with rfl|⟨p',q',rfl⟩<;>rfl
structure Inv (ps:ci) (ts:ac) (es:ci):Prop where
 n7:ps.length<=7
 nm:∀z∈ps,cU z=true
 n14:ts.length<=14
 ti:∀t∈ts,wc t
 n2:es.length<=2
abbrev S(ps:ci)(ts:ac)(es:ci):S3:=⟨ps.map D.str,ts,es.map D.str⟩
def Gj{xs:ac}(h:∀x∈xs,bf 39 x=true):fN (.lst xs) (.lst [])=.ok (.bl xs.isEmpty):=by
 have e:fN (.lst xs) (.lst [])=.ok (.bl (cS (.lst xs) (.lst []))):=if_pos ⟨Tp.mpr h,rfl⟩;rw[e,cS];cases xs<;>rfl
def yU{xs:ac}(h:∀x∈xs,bf 39 x=true):jC (.lst xs) (.lst [])=.ok (.bl (!xs.isEmpty)):=by
 have e:jC (.lst xs) (.lst [])=.ok (.bl (!(cS (.lst xs) (.lst [])))):=if_pos ⟨Tp.mpr h,rfl⟩;rw[e,cS];cases xs<;>rfl
def u5{zs:ci}:∀x∈zs.map D.str,bf 39 x=true:=λx hx=>by
 obtain⟨z,_,rfl⟩:=Tt.mp hx;rfl
def Gh{n m:Int}:fN (.int n) (.int m)=.ok (.bl (decide (n=m))):=by
 unfold fN;rw[if_pos ⟨rfl,rfl⟩,cS];rfl
section
variable {ps:ci}{ts:ac}{es:ci}{a:SA}{z:SH}
def LA(I:Inv ps ts es)(hz:z.length<=90000):m_takes_place a (S ps ts es) [.str z]=.ok (if(ts.isEmpty&&(es.isEmpty&&(!(decide (ps.length=7))&&(cU z&&!(decide (z∈ps))))))=true then(.bl true,S (ps++[z]) ts es) else(.bl false,S ps ts es)):=by
 have e1:=yU (xs:=ts) λt ht=>(I.ti t ht).sh;have e2:=yU (xs:=es.map D.str) u5;have e3:=Gh (n:=(ps.length:Int)) (m:=7);have e3':decide ((ps.length:Int)=7)=decide (ps.length=7):=by rw[Vp,decide_eq_true_eq,decide_eq_true_eq];omega
 have e4:=IM hz;have e5:=lM (zs:=ps) (z:=z);rw[e3']at e3;rw[show(es.map D.str).isEmpty=es.isEmpty by cases es<;>rfl]at e2;cases c1:ts.isEmpty with
 |false=>
  rw[c1]at e1;open_line with[m_takes_place,dB,eJ,cj,eD,G4,e1,TJ,dy,eK,du,cI,cJ,S6]
  rfl
 |true=>
 rw[c1]at e1;cases c2:es.isEmpty with
 |false=>
  rw[c2]at e2;open_line with[m_takes_place,dB,eJ,cj,eD,G4,yp,e1,e2,TJ,Tx,dy,eK,du,cI,cJ,Tj,S6]
  rfl
 |true=>
 rw[c2]at e2;cases c3:decide (ps.length=7) with
 |true=>
  rw[c3]at e3;open_line with[m_takes_place,dB,eJ,cj,eD,FH,G4,yp,e1,e2,SD,e3,TJ,Tx,dy,eK,du,cI,cJ,Tj,S6]
  rfl
 |false=>
 rw[c3]at e3;cases c4:cU z with
 |false=>
  rw[c4]at e4;open_line with[m_takes_place,dB,eJ,cj,eD,FH,G4,yp,e1,e2,SD,e3,e4,TJ,Tx,dy,fU,dR,dq,eK,du,cI,cJ,Tj,S6]
  rfl
 |true=>
 rw[c4]at e4;cases c5:decide (z∈ps) with
 |true=>
  rw[c5]at e5;open_line with[m_takes_place,dB,eJ,cj,eD,FH,G4,yp,e1,e2,SD,e3,e4,e5,TJ,Tx,dy,fU,dR,dq,eK,du,cI,cJ,Tj,S6]
  rfl
 |false=>
  rw[c5]at e5;have hl:decide (((S ps ts es).at 0).length<100)=true:=decide_eq_true (by show(ps.map D.str).length<100;rw[SD];have:=I.n7;omega);have hf:l5 (D.str z)=true:=rfl;open_line with[m_takes_place,dB,eJ,cj,eD,yR,FH,G4,yp,e1,e2,SD,e3,e4,e5,TJ,Tx,dy,fU,dR,dq,eK,du,cI,cJ,vF hf hl,Tj,S6]
  show ak.ok (D.bl true,(⟨ps.map D.str++[.str z],ts,es.map D.str⟩:S3))=ak.ok (D.bl true,(⟨(ps++[z]).map D.str,ts,es.map D.str⟩:S3));rw[T3];rfl
end
section
variable {ps:ci}{ts:ac}{es:ci}{a:SA}{z w1 w2 w3:SH}{L O:D}
def DJ:m_takes_tie a (S ps ts es) [.non]=.ok (.bl false,S ps ts es):=by
 open_line with[m_takes_tie,eM,eJ,cj,eD,kq,Jh,dy,eK,du,cI,cJ]
def QL(I:Inv ps ts es)(hL:Dg L)(hO:Dg O):m_takes_tie a (S ps ts es) [sW w1 w2 w3 L O]=.ok (if(es.isEmpty&&(!(decide (ts.length=14))&&(decide (w1∈ps)&&decide (w2∈ps))))=true then(.bl true,S ps (ts++[sW w1 w2 w3 L O]) es) else(.bl false,S ps ts es)):=by
 have e2:=yU (xs:=es.map D.str) u5;have e3:=Gh (n:=(ts.length:Int)) (m:=14);have e3':decide ((ts.length:Int)=14)=decide (ts.length=14):=by rw[Vp,decide_eq_true_eq,decide_eq_true_eq];omega
 have e4:=dO (zs:=ps) (z:=w1);have e5:=dO (zs:=ps) (z:=w2);rw[e3']at e3;rw[show(es.map D.str).isEmpty=es.isEmpty by cases es<;>rfl]at e2;cases c2:es.isEmpty with
 |false=>
  rw[c2]at e2;open_line with[m_takes_tie,eM,eJ,cj,eD,kq,mW,yp,e2,TJ,Tx,dy,eK,du,cI,cJ,Tj,S6]
  rfl
 |true=>
 rw[c2]at e2;cases c3:decide (ts.length=14) with
 |true=>
  rw[c3]at e3;open_line with[m_takes_tie,eM,eJ,cj,eD,kq,mW,G4,yp,e2,e3,TJ,Tx,dy,eK,du,cI,cJ,Tj,S6]
  rfl
 |false=>
 rw[c3]at e3;cases c4:decide (w1∈ps) with
 |false=>
  rw[c4]at e4;open_line with[m_takes_tie,eM,eJ,cj,eD,kq,mW,FH,G4,yp,e2,e3,e4,TJ,Tx,dy,fU,dR,dq,eK,du,cI,cJ,Tj,S6]
  rfl
 |true=>
 rw[c4]at e4;cases c5:decide (w2∈ps) with
 |false=>
  rw[c5]at e5;open_line with[m_takes_tie,eM,eJ,cj,eD,kq,mW,FH,G4,yp,e2,e3,e4,e5,TJ,Tx,dy,fU,dR,dq,eK,du,cI,cJ,Tj,S6]
  rfl
 |true=>
  rw[c5]at e5;have hl:decide (((S ps ts es).at 1).length<100)=true:=decide_eq_true (by show ts.length<100;have:=I.n14;omega);have hf:l5 (sW w1 w2 w3 L O)=true:=wc.fl ⟨_,_,_,_,_,rfl,hL,hO⟩;open_line with[m_takes_tie,eM,eJ,cj,eD,yR,kq,mW,FH,G4,yp,e2,e3,e4,e5,TJ,Tx,dy,fU,dR,dq,eK,du,cI,cJ,vF hf hl,Tj,S6]
  rfl
def Ot(I:Inv ps ts es):m_takes_end a (S ps ts es) [.str z]=.ok (if(!(decide (ps.length<2))&&(decide (z∈ps)&&!(decide (z∈es))))=true then(.bl true,S ps ts (es++[z])) else(.bl false,S ps ts es)):=by
 have e3:Gz (.int (ps.length:Int)) (.int 2)=.ok (.bl (decide ((ps.length:Int)<2))):=rfl;have e3':decide ((ps.length:Int)<2)=decide (ps.length<2):=by rw[Vp,decide_eq_true_eq,decide_eq_true_eq];omega
 have e4:=dO (zs:=ps) (z:=z);have e5:=lM (zs:=es) (z:=z);rw[e3']at e3;cases c3:decide (ps.length<2) with
 |true=>
  rw[c3]at e3;open_line with[m_takes_end,gS,eJ,cj,eD,FH,SD,e3,dy,eK,du,cI,cJ,Tx,S6]
  rfl
 |false=>
 rw[c3]at e3;cases c4:decide (z∈ps) with
 |false=>
  rw[c4]at e4;open_line with[m_takes_end,gS,eJ,cj,eD,FH,SD,e3,e4,TJ,dy,eK,du,cI,cJ,Tj,S6]
  rfl
 |true=>
 rw[c4]at e4;cases c5:decide (z∈es) with
 |true=>
  rw[c5]at e5;open_line with[m_takes_end,gS,eJ,cj,eD,FH,yp,SD,e3,e4,e5,TJ,Tx,dy,eK,du,cI,cJ,Tj,S6]
  rfl
 |false=>
  rw[c5]at e5;have hl:decide (((S ps ts es).at 2).length<100)=true:=decide_eq_true (by show(es.map D.str).length<100;rw[SD];have:=I.n2;omega);have hf:l5 (D.str z)=true:=rfl;open_line with[m_takes_end,gS,eJ,cj,eD,yR,FH,yp,SD,e3,e4,e5,TJ,Tx,fU,dR,dq,eK,du,cI,cJ,vF hf hl,Tj,S6]
  show ak.ok (D.bl true,(⟨ps.map D.str,ts,es.map D.str++[.str z]⟩:S3))=ak.ok (D.bl true,(⟨ps.map D.str,ts,(es++[z]).map D.str⟩:S3));rw[T3];rfl
variable {ws:ci}{w0:SH}
def i0:aH (.lst ((w0::ws).map D.str)) (.int 0)=.ok (.str w0):=jy (k:=0) rfl
def i1:aH (.lst ((w0::z::ws).map D.str)) (.int 1)=.ok (.str z):=jy (k:=1) rfl
def lZ(ws:ci)(n:Nat):Bool:=decide (ws.length=n)
def Ff{n:Nat}:fN (.int ((ws.length:Nat):Int)) (.int (n:Int))=.ok (.bl (lZ ws n)):=by
 rw[Gh,lZ];congr 2;rw[Vp,decide_eq_true_eq,decide_eq_true_eq];omega
def HG(I:Inv ps ts es)(hw:ws.head?=some w0)(a:SA):m_takes_row a (S ps ts es) [.lst (ws.map D.str)] =
  if(decide (w0="place")&&lZ ws 2)=true then(ae (af (ag 1) (dC (.int 1)) aH) au [.pt a,.sh (.lst (ws.map D.str))]).bind (λds=>(fV a m_takes_place (S ps ts es) ds))
  else if(decide (w0="tie")&&lZ ws 6)=true then(ae (ao (ae (ag 1) au) m_read_tie) au [.pt a,.sh (.lst (ws.map D.str))]).bind (λds=>(fV a m_takes_tie (S ps ts es) ds))
  else if(decide (w0="first")&&lZ ws 2)=true then(if es.isEmpty=true then(ae (af (ag 1) (dC (.int 1)) aH) au [.pt a,.sh (.lst (ws.map D.str))]).bind (λds=>(fV a m_takes_end (S ps ts es) ds)) else .ok (.bl false,S ps ts es))
  else if(decide (w0="last")&&lZ ws 2)=true then(if decide (es.length=1)=true then(ae (af (ag 1) (dC (.int 1)) aH) au [.pt a,.sh (.lst (ws.map D.str))]).bind (λds=>(fV a m_takes_end (S ps ts es) ds)) else .ok (.bl false,S ps ts es))
  else .ok (.bl false,S ps ts es):=by
 have ih:aH (.lst (ws.map D.str)) (.int 0)=.ok (.str w0):=by
  cases ws with|nil=>cases hw|cons x r=>cases hw;exact i0
 have ff:¬(false=true):=by decide
 have p1:=jm (a:=w0) (b:="place");have p2:=jm (a:=w0) (b:="tie");have p3:=jm (a:=w0) (b:="first");have p4:=jm (a:=w0) (b:="last");have l2:fN (.int ((ws.length:Nat):Int)) (.int 2)=.ok (.bl (lZ ws 2)):=Ff (n:=2);have l6:fN (.int ((ws.length:Nat):Int)) (.int 6)=.ok (.bl (lZ ws 6)):=Ff (n:=6);have ee:=Gj (xs:=es.map D.str) u5;rw[show(es.map D.str).isEmpty=es.isEmpty by cases es<;>rfl]at ee;have en:=Gh (n:=(es.length:Int)) (m:=1);rw[show decide ((es.length:Int)=1)=decide (es.length=1) by rw[Vp,decide_eq_true_eq,decide_eq_true_eq];omega]at en;have fin:∀(x:ak (D×S3)),((x.bind nU).bind (rk cu)).bind wL=x:=λx=>by cases x<;>rfl
 have sq:∀(x:ak (D×S3)) (t:Ev->S3->ak gf),((x.bind nU).bind (rk t))=x.bind nU:=λx t=>by cases x<;>rfl
 have fin2:∀(x:ak (D×S3)),(x.bind nU).bind wL=x:=λx=>by cases x<;>rfl
 unfold m_takes_row;rw[eJ];unfold pe;cases c1:(decide (w0="place")&&lZ ws 2) with
 |true=>
  rw[SX]at c1;rw[c1.1]at p1;rw[c1.2]at l2;rw[if_pos rfl];open_line with[cj,eD,ih,p1,SD,l2,dy,lL,pV,sq,fin2]
 |false=>
 rw[if_neg ff];have c1':gh (af (af (ag 1) (dC (.int 0)) aH) (dC (.str "place")) fN) (af (ao (ae (ag 1) au) (m1 cC)) (dC (.int 2)) fN) [.sh (iJ DK (S ps ts es)),.sh (.lst (ws.map D.str))]=.ok (.bl false):=by
  cases q:decide (w0=("place" : SH)) with
  |false=>rw[q]at p1;open_line with[ih,p1]
  |true=>rw[q]at p1 c1;rw[Tj]at c1;rw[c1]at l2;open_line with[ih,p1,SD,l2]
 open_line with[ih] seeing c1';cases c2:(decide (w0="tie")&&lZ ws 6) with
 |true=>
  rw[SX]at c2;rw[if_pos rfl];rw[c2.1]at p2;rw[c2.2]at l6;open_line with[c1',cj,eD,ih,p2,SD,l6,dy,fU,dR,dq,lL,pV,sq,fin2]
 |false=>
 rw[if_neg ff];have c2':gh (af (af (ag 1) (dC (.int 0)) aH) (dC (.str "tie")) fN) (af (ao (ae (ag 1) au) (m1 cC)) (dC (.int 6)) fN) [.sh (iJ DK (S ps ts es)),.sh (.lst (ws.map D.str))]=.ok (.bl false):=by
  cases q:decide (w0=("tie" : SH)) with
  |false=>rw[q]at p2;open_line with[ih,p2]
  |true=>rw[q]at p2 c2;rw[Tj]at c2;rw[c2]at l6;open_line with[ih,p2,SD,l6]
 open_line with[ih] seeing c2';cases c3:(decide (w0="first")&&lZ ws 2) with
 |true=>
  rw[SX]at c3;rw[if_pos rfl];rw[c3.1]at p3;rw[c3.2]at l2;cases q:es.isEmpty with
  |true=>
   rw[q]at ee;rw[if_pos rfl];open_line with[c1',c2',cj,eD,ih,p3,SD,l2,dy,fU,dR,dq,lL,vf,yp,ee,AG,pV,sq,fin2]
  |false=>
   rw[q]at ee;rw[if_neg ff];open_line with[c1',c2',cj,eD,ih,p3,SD,l2,dy,fU,dR,dq,lL,vf,yp,ee,AF,xy,cI,cJ]
 |false=>
 rw[if_neg ff];have c3':gh (af (af (ag 1) (dC (.int 0)) aH) (dC (.str "first")) fN) (af (ao (ae (ag 1) au) (m1 cC)) (dC (.int 2)) fN) [.sh (iJ DK (S ps ts es)),.sh (.lst (ws.map D.str))]=.ok (.bl false):=by
  cases q:decide (w0=("first" : SH)) with
  |false=>rw[q]at p3;open_line with[ih,p3]
  |true=>rw[q]at p3 c3;rw[Tj]at c3;rw[c3]at l2;open_line with[ih,p3,SD,l2]
 open_line with[ih] seeing c3';cases c4:(decide (w0="last")&&lZ ws 2) with
 |true=>
  rw[SX]at c4;rw[if_pos rfl];rw[c4.1]at p4;rw[c4.2]at l2;cases q:decide (es.length=1) with
  |true=>
   rw[q]at en;rw[if_pos rfl];open_line with[c1',c2',c3',cj,eD,ih,p4,SD,l2,dy,fU,dR,dq,lL,vf,yp,en,AG,pV,sq,fin2]
  |false=>
   rw[q]at en;rw[if_neg ff];open_line with[c1',c2',c3',cj,eD,ih,p4,SD,l2,dy,fU,dR,dq,lL,vf,yp,en,AF,xy,cI,cJ]
 |false=>
 rw[if_neg ff];have c4':gh (af (af (ag 1) (dC (.int 0)) aH) (dC (.str "last")) fN) (af (ao (ae (ag 1) au) (m1 cC)) (dC (.int 2)) fN) [.sh (iJ DK (S ps ts es)),.sh (.lst (ws.map D.str))]=.ok (.bl false):=by
  cases q:decide (w0=("last" : SH)) with
  |false=>rw[q]at p4;open_line with[ih,p4]
  |true=>rw[q]at p4 c4;rw[Tj]at c4;rw[c4]at l2;open_line with[ih,p4,SD,l2]
 open_line with[ih] seeing c4';open_line with[ih,c1',c2',c3',c4',cj,eD,fU,dR,dq,eK,du,cI,cJ]
end
section
variable {k:Nat}{a:SA}{f:am}{s t:Ev->S3->ak gf}{st:S3}{W A R I:D}
def So:aH (iJ .tup st) (.int 0)=.ok (.lst st.p):=rfl
end
section
variable {ps:ci}{ts:ac}{es ws:ci}{z w0 w1 w2 w3 w4 w5:SH}
abbrev cP(ps:ci)(ts:ac)(es:ci)(z:SH):Bool:=ts.isEmpty&&(es.isEmpty&&(!(decide (ps.length=7))&&(cU z&&!(decide (z∈ps)))))
def ff:¬(false=true):=by decide
end
def v5(a b:SH):(a++b).length=a.length+b.length:=by
 rw[←gz,om,Tc,gz,gz]
def D4{x y:SH}:Uv x y≠[]:=by
 intro e;unfold Uv at e;split at e
 .cases e
 .split at e
  .cases e
  .rw[StrLaws.partsBetween_eq]at e
   obtain⟨a,r,q⟩:=StrLaws.partsFrom_ne x y.length 0 (VJ x y 0 x.length (x.length+1));rw[q]at e;cases e
def wH{z w:SH}(hw:(w.length==0)=false)(hz:z.length<=90000):cA z w=.ok (.lst ((Uv z w).map D.str)):=if_pos ⟨hw,by omega⟩
abbrev yl(r:SH):ci:=Uv r " "
def Du{r:SH}(h:r.length<=90000):cA r " "=.ok (.lst ((yl r).map D.str)):=wH rfl h
def Fq(s:Ev->S3->ak gf)(ρ:Ev)(p:D×S3):ak gf:=match p.1 with
 |.bl b=>if b=true then .ok (.nx ρ p.2) else s ρ p.2
 |_=>.stuck
section
variable {s:Ev->S3->ak gf}{g:Ev->S3->ak (D×S3)}{f:bv}{ρ:Ev}{st:S3}
def Fo:CD g s ρ st=(g ρ st).bind (Fq s ρ):=by
 unfold CD;congr 1;funext p;rcases p with⟨d,p⟩;cases d with
 |bl b=>cases b<;>rfl
 |_=>rfl
def Jb:Fq s ρ (.bl true,st)=.ok (.nx ρ st):=rfl
def Ja:Fq s ρ (.bl false,st)=s ρ st:=rfl
def AE:mi f ρ st=(f ρ).bind (zb st):=rfl
def Fn{ρ':Ev}:zb st (.nx ρ')=.ok (.nx ρ' st):=rfl
end
abbrev oM(a:SA):Ev->S3->ak gf :=
 (cZ (CD (i9 1 a (ae (sU cA (ag 4) (dC (.str " "))) au) m_takes_row)
 (cZ (mi (cg "NoText" ["row"] (ae (ag 3) au)))
 cu))
 cu)
abbrev NR(k:Nat):G1:=⟨"NoText",[("row",.int (k:Int))]⟩
section
variable {ps:ci}{ts:ac}{es:ci}{r:SH}{A R:D}{a:SA}{k:Nat}{st':S3}
def Aq(h:r.length<=90000){x:D}:sU cA (ag 4) (dC (.str " ")) [.sh A,.pt a,.sh R,.sh x,.sh (.str r)]=.ok (.lst ((yl r).map D.str)):=Du h
def O9(h:r.length<=90000)(hr:m_takes_row a (S ps ts es) [.lst ((yl r).map D.str)]=.ok (.bl true,st')):oM a [.sh A,.pt a,.sh R,.sh (.int (k:Int)),.sh (.str r)] (S ps ts es)=.ok (.nx [.sh A,.pt a,.sh R,.sh (.int (k:Int)),.sh (.str r)] st'):=by
 have hc:i9 1 a (ae (sU cA (ag 4) (dC (.str " "))) au) m_takes_row [.sh A,.pt a,.sh R,.sh (.int (k:Int)),.sh (.str r)] (S ps ts es)=.ok (.bl true,st'):=by
  rw[vE fJ rfl];have:ae (sU cA (ag 4) (dC (.str " "))) au [.sh A,.pt a,.sh R,.sh (.int (k:Int)),.sh (.str r)]=.ok [.lst ((yl r).map D.str)]:=by open_line with[Aq h]
  rw[this];exact iI hr
 open_line with[oM,cj,Fo,hc,Jb,dq,dR]
def Rg(h:r.length<=90000)(hr:m_takes_row a (S ps ts es) [.lst ((yl r).map D.str)]=.ok (.bl false,st')):oM a [.sh A,.pt a,.sh R,.sh (.int (k:Int)),.sh (.str r)] (S ps ts es)=.exn (NR k):=by
 have hc:i9 1 a (ae (sU cA (ag 4) (dC (.str " "))) au) m_takes_row [.sh A,.pt a,.sh R,.sh (.int (k:Int)),.sh (.str r)] (S ps ts es)=.ok (.bl false,st'):=by
  rw[vE fJ rfl];have:ae (sU cA (ag 4) (dC (.str " "))) au [.sh A,.pt a,.sh R,.sh (.int (k:Int)),.sh (.str r)]=.ok [.lst ((yl r).map D.str)]:=by open_line with[Aq h]
  rw[this];exact iI hr
 have hx:cg "NoText" ["row"] (ae (ag 3) au) [.sh A,.pt a,.sh R,.sh (.int (k:Int)),.sh (.str r)]=.exn (NR k):=rfl;open_line with[oM,cj,Fo,hc,Ja,AE,hx,bZ]
variable {RS:ci}
def Pn(x:Sl):Prop:=x=.no∨∃d,x=.sh d
end
section
variable {A R:D}{x3 x4:Sl}{a:SA}{f:am}{s t:Ev->S3->ak gf}{st:S3}
def Rb{h:Hk}(q3:Pn x3)(q4:Pn x4):wm h 1 a f s t [.sh A,.pt a,.sh R,x3,x4] st=(f [.sh A,.sh (iJ h st),.sh R,x3,x4]).bind (Fs s t [.sh A,.pt a,.sh R,x3,x4] st):=by
 rcases q3 with rfl|⟨d,rfl⟩<;>rcases q4 with rfl|⟨e,rfl⟩<;>exact K5 fJ rfl
def Rc{w:Bool}:N6 1 a w [.sh A,.pt a,.sh R,x3,x4] st=Ru st w:=if_pos fJ
end
def MH{src:Ev->ak (ac)}{tg:Ev->D->ak Ev}{s:Ev->S3->ak gf}{ρ:Ev}{st:S3}{ds:ac}(h:src ρ=.ok ds):CF src tg s ρ st=rz tg s ds ρ st:=by unfold CF;rw[h];rfl
def Sx:(⟨[],[],[]⟩:S3)=S [] [] []:=rfl
abbrev N4(t:SH):ci:=Uv t "\n"
def HY{t:SH}(h:t.length<=90000):cA t "\n"=.ok (.lst ((N4 t).map D.str)):=wH rfl h
noncomputable abbrev EY(a:SA):Ev->S3->ak gf :=
 (cZ (mi (aY 2 (sU cA (ag 0) (dC (.str "\n")))))
 (cZ (CF (sY (ag 2)) (ik [3,4]) (oM a))
 (cZ (wm (.ins "Draft" ["places","ties","ends"]) 1 a (af (ao (ae (aS (ag 1) (iN "ends")) au) (m1 cC)) (dC (.int 2)) Gz)
 (cZ (mi (cg "NoText" ["row"] (ae (ao (ae (ag 2) au) (m1 cC)) au)))
 cu)
 cu)
 (cZ (N6 1 a false)
 cu))))
theorem jR:∀{ts:ac},(∀t∈ts,fgt t=t)->fgts ts=ts
 |[],_=>rfl
 |t::r,h=>by
  show fgt t::fgts r=_;rw[h t SQ,jR λx hx=>h x (SM _ hx)]
def wc.fg{t:D}(h:wc t):fgt t=t:=by
 obtain⟨w1,w2,w3,L,O,rfl,hL,hO⟩:=h;rcases hL with rfl|⟨p,q,rfl⟩<;>rcases hO with rfl|⟨p',q',rfl⟩<;>rfl
def QC{n:Int}:mV (.int n)=false:=rfl
end K76
namespace K74
open PySem PySem.NumText L2 DL Com Tex
def OM:2*(dH*dH)<wj:=by rw[wg];exact SU (show 2*(dH*dH)<2 ^ 500 by decide) (Ur (by decide) (by decide))
def RV:dH<wj:=T2 (show dH<=2*(dH*dH) by decide) OM
def IQ{x y:Int}(h:x.natAbs<=dH)(h':y.natAbs<=dH):iG x y=true:=MB (T2 h (SU RV Br)) (T2 h' (SU RV Br))
def GK{x y:Int}(h:x.natAbs<=dH)(h':y.natAbs<=dH):(x*y).natAbs<=dH*dH:=by rw[Int.natAbs_mul];exact Nat.mul_le_mul h h'
def Pj:dH*dH<10 ^ 130:=by decide
def zT{p q:Int}(hp:p.natAbs<10 ^ 130)(hq:q.natAbs<10 ^ 130):(gW p q).length<=300:=by
 have l1:=lH hp;have l2:=lH hq;unfold gW;split
 .omega
 .rw[WV,WV]
  have:("/" : SH).length=1:=rfl;omega
end K74
namespace K76
open PySem L2 DL Com Tex K74
def tot(zs:ci):Nat:=(zs.map λz=>z.length+1).sum
def pO:tot []=0:=rfl
def e8{z:SH}{zs:ci}:tot (z::zs)=z.length+1+tot zs:=rfl
theorem pP:∀{a b:ci},tot (a++b)=tot a+tot b
 |[],b=>by rw[UL,pO,Wr]
 |z::a,b=>by rw[Uu,e8,e8,pP];omega
theorem uY:∀{a:ci},a.length<=tot a
 |[]=>Tf _
 |z::a=>by rw[S0,e8];have:=uY (a:=a);omega
theorem uX:∀{a:ci},(a.map (·.length)).sum+a.length=tot a
 |[]=>rfl
 |z::a=>by rw[Tv,List.sum_cons,S0,e8,←uX (a:=a)];omega
theorem zX:∀{ys:ci},gk (ys.map D.str)=some ys
 |[]=>rfl
 |y::ys=>by
  show(gk (ys.map D.str)).map _=_;rw[zX];rfl
def mU{z:SH}{ys:ci}(hz:z.length=1)(h:tot ys<=500000):i8 z [.lst (ys.map D.str)]=.ok (.str (TV z ys)):=by
 show(match gk (ys.map D.str) with|some ys=>if gD z ys=true then ak.ok (D.str (TV z ys)) else .stuck|none=>.stuck)=_;rw[zX];dsimp only;rw[if_pos];unfold gD;rw[SX,decide_eq_true_eq,decide_eq_true_eq,uX];omega
def rj{z:SH}{ys:ci}(hz:z.length=1):(TV z ys).length<=tot ys:=by
 show(PySem.Builtin.Str.glued z ys).length<=_;rw[PySem.size_glued,hz,←uX];omega
def GJ{a b:ci}(h:tot a+tot b<=90000):aZ (.lst (a.map D.str)) (.lst (b.map D.str))=.ok (.lst ((a++b).map D.str)):=by
 have ha:=uY (a:=a);have hb:=uY (a:=b);rw[T3];exact if_pos (SW (show(a.map D.str).length+(b.map D.str).length<=90000 by rw[SD,SD];omega) (by decide))
def cQ{z:SH}(h:cU z=true):z.length<=8:=by
 unfold cU at h;simp only[SX,decide_eq_true_eq]at h;exact h.2.1
theorem zU{g:SH->SH}{B:Nat}:∀{zs:ci},(∀z∈zs,(g z).length<=B)->tot (zs.map g)<=(B+1)*zs.length
 |[],_=>Tf _
 |z::zs,h=>by
  have h1:=h z SQ;have h2:=zU (g:=g) (B:=B) λy hy=>h y (SM _ hy);rw[Tv,e8,S0,Nat.mul_succ];omega
noncomputable abbrev pQ:bv :=
 (aw (aY 7 (dC (.str "-")))
 (aw (eC (af (ag 6) (dC (.non)) jV)
 (aw (aY 7 (ao (ae (ag 6) au) bL))
 av)
 av)
 (aw (cR 1 (k8 (dC (.str " ")) (ae (ao (ae (dC (.str "tie")) (ae (ag 2) (ae (ag 3) (ae (ag 4) (ae (ao (ae (ag 5) au) bL) (ae (ag 7) au)))))) cY) au)))
 av)))
end K76
namespace K77
open PySem L2 DL Com Tex K74 K76
section
variable {ps:ci}{ts:ac}{es ws:ci}{z w0 w1 w2 w3 w4 w5:SH}{a:SA}{st':S3}
def NP{W:ac}{x:D}(h:aH (.lst W) (.int 1)=.ok x):ae (af (ag 1) (dC (.int 1)) aH) au [.pt a,.sh (.lst W)]=.ok [x]:=by open_line with[h]
def B4(I:Inv ps ts es)(hz:z.length<=90000):K76.m_takes_row a (S ps ts es) [.lst ([("place" : SH),z].map D.str)]=.ok (if cP ps ts es z=true then(.bl true,S (ps++[z]) ts es) else(.bl false,S ps ts es)):=by
 rw[HG (ws:=[("place" : SH),z]) (w0:="place") I rfl a,show lZ [("place" : SH),z] 2=true from rfl,VX,if_pos (show decide (("place" : SH)="place")=true by decide),NP (i1 (w0:="place") (z:=z) (ws:=[]))];exact iI (LA I hz)
def HZ(I:Inv ps ts es){d:D}(hd:K76.m_read_tie [yn "tie" w1 w2 w3 w4 w5]=.ok d):K76.m_takes_row a (S ps ts es) [.lst ([("tie" : SH),w1,w2,w3,w4,w5].map D.str)]=fV a K76.m_takes_tie (S ps ts es) [d]:=by
 rw[HG (ws:=[("tie" : SH),w1,w2,w3,w4,w5]) (w0:="tie") I rfl a,show decide (("tie" : SH)="place")=false by decide,S6,if_neg ff,show lZ [("tie" : SH),w1,w2,w3,w4,w5] 6=true from rfl,VX,if_pos (show decide (("tie" : SH)="tie")=true by decide)];have:ae (ao (ae (ag 1) au) K76.m_read_tie) au [.pt a,.sh (.lst ([("tie" : SH),w1,w2,w3,w4,w5].map D.str))]=.ok [d]:=by
  have hd':K76.m_read_tie [.lst ([("tie" : SH),w1,w2,w3,w4,w5].map D.str)]=.ok d:=hd;generalize [("tie" : SH),w1,w2,w3,w4,w5].map D.str=W at hd' ⊢;open_line with[hd']
 rw[this];rfl
def B5(I:Inv ps ts es):K76.m_takes_row a (S ps ts es) [.lst ([("first" : SH),z].map D.str)]=(if es.isEmpty=true then fV a K76.m_takes_end (S ps ts es) [.str z] else .ok (.bl false,S ps ts es)):=by
 rw[HG (ws:=[("first" : SH),z]) (w0:="first") I rfl a,show decide (("first" : SH)="place")=false by decide,S6,if_neg ff,show decide (("first" : SH)="tie")=false by decide,S6,if_neg ff,show lZ [("first" : SH),z] 2=true from rfl,VX,if_pos (show decide (("first" : SH)="first")=true by decide),NP (i1 (w0:="first") (z:=z) (ws:=[]))];rfl
def Ek(I:Inv ps ts es):K76.m_takes_row a (S ps ts es) [.lst ([("last" : SH),z].map D.str)]=(if decide (es.length=1)=true then fV a K76.m_takes_end (S ps ts es) [.str z] else .ok (.bl false,S ps ts es)):=by
 rw[HG (ws:=[("last" : SH),z]) (w0:="last") I rfl a,show decide (("last" : SH)="place")=false by decide,S6,if_neg ff,show decide (("last" : SH)="tie")=false by decide,S6,if_neg ff,show decide (("last" : SH)="first")=false by decide,S6,if_neg ff,show lZ [("last" : SH),z] 2=true from rfl,VX,if_pos (show decide (("last" : SH)="last")=true by decide),NP (i1 (w0:="last") (z:=z) (ws:=[]))];rfl
def S_inj{ps':ci}{ts':ac}{es':ci}(h:S ps ts es=S ps' ts' es'):ps=ps'/\ts=ts'/\es=es':=by
 have inj:∀{x y:ci},x.map D.str=y.map D.str->x=y:=λ{x y} e=>by
  have f:(λd:D=>match d with|.str z=>z|_=>"")∘D.str=id:=rfl;have:=congrArg (List.map λd:D=>match d with|.str z=>z|_=>"") e;rw[Uy,Uy]at this;rw[f,Wy,Wy]at this;exact this
 injection h with h1 h2 h3;exact⟨inj h1,h2,inj h3⟩
end
def yo:Option kO->SH
 |none=>"-"
 |some v=>gW v.1 v.2
def iX(t:kM):SH:=TV " " ["tie",t.a,t.b,t.w,gW t.l.1 t.l.2,yo t.o]
def RO:ci->ci
 |[]=>[]
 |[a]=>[("first " : SH)++a]
 |a::b::_=>[("first " : SH)++a,("last " : SH)++b]
def RN(ps:ci)(ts:List kM)(es:ci):ci:=(ps.map λy=>("place " : SH)++y)++ts.map iX++RO es
def ML{a b:SH}:TV " " [a,b]=a++" "++b:=(Vs " " [a,b]).trans K7
def Mh{z:SH}:("place " : SH)++z=("place" : SH)++" "++z:=by rw[show("place " : SH)=("place" : SH)++" " by decide]
def Mj{z:SH}:("first " : SH)++z=("first" : SH)++" "++z:=by rw[show("first " : SH)=("first" : SH)++" " by decide]
def Mi{z:SH}:("last " : SH)++z=("last" : SH)++" "++z:=by rw[show("last " : SH)=("last" : SH)++" " by decide]
def FY{i:Nat}{ρ:Ev}{a b:ci}(h:a.length+b.length<=1000):CP i ρ (a.map D.str) (.lst (b.map D.str))=.ok (.nx (ρ.set i (.ow (.lst ((a++b).map D.str))))):=by
 unfold CP;dsimp only;rw[if_pos (show(a.map D.str).length+(b.map D.str).length<=line by rw[SD,SD];exact SW h (by decide)),T3]
def J6{i:Nat}{f:am}{ρ:Ev}:HX i f ρ=Mr ρ[i]? λds=>(f ρ).bind (CP i ρ ds):=aU rfl
end K77
namespace K75
open PySem PySem.NumText L2 DL Com Tex K74 K76 K77
def jl(c:Nat):List (cr)->cr
 |[]=>[]
 |[a]=>a
 |a::b::r=>a++c::jl c (b::r)
theorem xO{c:Nat}:∀{a b d e:cr},a++c::b=d++c::e->c∉a->c∉d->a=d/\b=e
 |[],b,[],e,h,_,_=>⟨rfl,by simpa using h⟩
 |[],b,x::xs,e,h,_,hc=>by
  rw[UL,Uu]at h;injection h with h1 _;exact absurd (h1▸SQ) hc
 |a::as,b,[],e,h,ha,_=>by
  rw[UL,Uu]at h;injection h with h1 _;exact absurd (h1▸SQ) ha
 |a::as,b,x::xs,e,h,ha,hc=>by
  rw[Uu,Uu]at h;injection h with h1 h2;obtain⟨e1,e2⟩:=xO h2 (λz=>ha (SM _ z)) (λz=>hc (SM _ z));exact⟨by rw[h1,e1],e2⟩
def Fx{c:Nat}{a b d:cr}(h:a++c::b=d):c∈d:=by rw[←h];simp
theorem AI{c:Nat}:∀{as bs:List (cr)},as≠[]->bs≠[]->(∀a∈as,c∉a)->(∀b∈bs,c∉b)->jl c as=jl c bs->as=bs
 |[],_,h,_,_,_,_=>absurd rfl h
 |_,[],_,h,_,_,_=>absurd rfl h
 |[a],[b],_,_,_,_,e=>by rw[show a=b from e]
 |[a],b::b'::r,_,_,ha,_,e=>absurd (Fx (show b++c::jl c (b'::r)=a from e.symm)) (ha a SQ)
 |a::a'::r,[b],_,_,_,hb,e=>absurd (Fx (show a++c::jl c (a'::r)=b from e)) (hb b SQ)
 |a::a'::r,b::b'::q,_,_,ha,hb,e=>by
  obtain⟨e1,e2⟩:=xO (show a++c::jl c (a'::r)=b++c::jl c (b'::q) from e) (ha a SQ) (hb b SQ);rw[e1,AI (by simp) (by simp) (λx hx=>ha x (SM _ hx)) (λx hx=>hb x (SM _ hx)) e2]
theorem qc{c:Nat}:∀{ys:ci},cl (VC ⟨#[c]⟩ ys)=jl c (ys.map cl)
 |[]=>rfl
 |[a]=>rfl
 |a::b::r=>by
  rw[Pq,om,om,qc,Uk];rfl
theorem Be:∀{xs ys:ci},xs.map cl=ys.map cl->xs=ys
 |[],[],_=>rfl
 |[],_::_,h=>by cases h
 |_::_,[],h=>by cases h
 |x::xs,y::ys,h=>by
  rw[Tv,Tv]at h;injection h with h1 h2;rw[NI h1,Be h2]
def iB{c:Nat}{ys:ci}(hn:ys≠[])(h:∀y∈ys,c∉cl y):Uv (TV ⟨#[c]⟩ ys) ⟨#[c]⟩=ys:=by
 have e0:TV ⟨#[c]⟩ ys=VC ⟨#[c]⟩ ys:=Vs _ _;rw[e0];have e:=congrArg cl (StrLaws.join_split (VC ⟨#[c]⟩ ys) ⟨#[c]⟩);rw[qc]at e;have hf:=StrLaws.split_free (VC ⟨#[c]⟩ ys) c;have hne:=D4 (x:=VC ⟨#[c]⟩ ys) (y:=⟨#[c]⟩);generalize Uv (VC ⟨#[c]⟩ ys) ⟨#[c]⟩=zs at *;rw[qc]at e;refine Be (AI (c:=c) (by simpa using hne) (by simpa using hn) (λa ha=>?_) (λa ha=>?_) e)
 .obtain⟨z,hz,rfl⟩:=Tt.mp ha
  exact hf z hz
 .obtain⟨z,hz,rfl⟩:=Tt.mp ha
  exact h z hz
theorem Gu:∀(k m:Nat),m<10 ^ (k+1)->(yq m).length<=k+1
 |0,m,h=>by rw[mE (by omega)];simp
 |k+1,m,h=>by
  by_cases c:m<10
  .rw[mE c];simp
  .rw[vV (by omega),Tc]
   have:=Gu k (m / 10) (by rw[XO]at h;omega);simp only[S0,Vn];omega
def KA:dH=10 ^ 60:=by decide
def NC{m:Nat}:(yq m).length<=60↔m<dH:=by
 rw[KA];constructor
 .intro h
  have:=DB (eL m);rw[A9]at this;exact SU this (Ur (by decide) h)
 .exact λh=>Gu 59 m h
abbrev sh(p:Int):SH:=TR (toString p)
def Aa{p:Int}(h:0<=p):cl (sh p)=yq p.natAbs:=by
 show(TR (toString p)).cps.toList=_;rw[lE];unfold wr;rw[if_neg (by omega)]
def yz{p:Int}(h:0<=p):neg (sh p)=false:=zw (by rw[Aa h];exact eL _)
def Eb{p:Int}(h:0<=p):iV (sh p)=decide (p.natAbs<dH):=by
 have:iV (sh p)=true↔p.natAbs<dH:=by
  rw[ro,vb (yz h),Aa h,←gz,Aa h,NC];exact⟨λt=>t.2.2,λt=>⟨eL _,NB _,t⟩⟩
 rw[Vp,this,decide_eq_true_eq]
def D9{p:Int}(h:0<=p):e9 (sh p)=p:=by
 unfold e9;rw[if_neg (by rw[yz h];decide)];rw[vb (yz h)];unfold val;rw[Aa h,A9];omega
def Ea{p:Int}:47∉cl (sh p):=by
 show 47∉(TR (toString p)).cps.toList;rw[lE];exact Og
def Ic{x:kO}(L:Low x)(h0:0<=x.1)(h1:x.1.natAbs<10 ^ 130)(h2:x.2.natAbs<10 ^ 130):K74.m_read_ratio [.str (gW x.1 x.2)]=if x.1.natAbs<dH/\x.2.natAbs<dH then .ok (fr x) else .exn NT:=by
 obtain⟨p,q⟩:=x;have q1:1<=q:=L.q1;have hl:=zT h1 h2;have hl:(gW p q).length<=300:=hl;have lp:(sh p).length<=132:=lH h1;have lq:(sh q).length<=132:=lH h2;have vp:=D9 (p:=p) h0;have vq:=D9 (p:=q) (by omega);have hp:=Eb (p:=p) h0;have hq:=Eb (p:=q) (by omega)
 by_cases c:q=1
 .subst c
  have e:gW p 1=sh p:=rfl;have s:Uv (sh p) mw=[sh p]:=by
   have:=iB (c:=47) (ys:=[sh p]) (by simp) (λy hy=>by rw[TC.mp hy];exact Ea);exact this
  show K74.m_read_ratio [.str (gW p 1)]=if p.natAbs<dH/\(1:Int).natAbs<dH then _ else _
  rw[show gW p 1=sh p from rfl]at hl ⊢
  by_cases h:p.natAbs<dH
  .rw[decide_eq_true h]at hp
   rw[Em (by omega) s hp,vp,if_pos e,if_pos ⟨h,by decide⟩];rfl
  .rw[decide_eq_false h]at hp
   rw[if_neg (λt=>h t.1)];exact Ae (by omega) s (by simp) (λy hy=>by rw[TC.mp hy];omega) (.inr (.inr (by rw[Va,hp];rfl)))
 .have e:gW p q=TV mw [sh p,sh q]:=by
   unfold gW;rw[if_neg c,lG];exact K7.symm.trans (Vs _ _).symm
  have s:Uv (gW p q) mw=[sh p,sh q]:=by
   rw[e];exact iB (c:=47) (ys:=[sh p,sh q]) (by simp) (λy hy=>by
    rcases SV.mp hy with rfl|hy
    .exact Ea
    .rw[TC.mp hy];exact Ea)
  show K74.m_read_ratio [.str (gW p q)]=if p.natAbs<dH/\q.natAbs<dH then _ else _
  by_cases h:p.natAbs<dH/\q.natAbs<dH
  .rw[decide_eq_true h.1]at hp
   rw[decide_eq_true h.2]at hq;rw[El (by omega) (by omega) (by omega) s hp hq,vp,vq,if_pos h,if_pos]
   .rfl
   .refine⟨?_,rfl⟩
    show(decide ((1:Int)<=q)&&(TN p q==1))=true;rw[decide_eq_true q1,show TN p q=1 from L.g1];rfl
  .rw[if_neg h]
   refine Ae (by omega) s (by simp) (λy hy=>?_) (.inr (.inr ?_))
   .rcases SV.mp hy with rfl|hy
    .omega
    .rw[TC.mp hy];omega
   .rw[Va,Va,hp,hq]
    by_cases a:p.natAbs<dH
    .rw[decide_eq_false (λb=>h ⟨a,b⟩),S6,Wa]
    .rw[decide_eq_false a,S6]
end K75
namespace K75
open PySem L2 DL Com Tex K74 K76 K77
structure zP (x:kO):Prop extends Low x where
 pN:x.1.natAbs<=dH*dH
 qN:x.2.natAbs<=dH*dH
structure j6 (zs:ci) (t:kM):Prop where
 a:t.a∈zs
 b:t.b∈zs
 ne:t.a≠t.b
 w:t.w="one"∨t.w="both"
 l:zP t.l
 l0:0<=t.l.1
 o:∀x,t.o=some x->zP x/\0<x.1
structure jZ (w:l8):Prop where
 n2:2<=w.ps.length
 n7:w.ps.length<=7
 nm:cM w.ps
 t14:w.ts.length<=14
 ts:∀t∈w.ts,j6 w.ps t
 fi:w.fi∈w.ps
 la:w.la∈w.ps
 ne:w.fi≠w.la
def zP.of{x:kO}(h:eA x):zP x:=⟨h.toLow,SW (Ua h.pN) (by decide),SW (Ua h.qN) (by decide)⟩
def j6.of{zs:ci}{t:kM}(h:kL zs t):j6 zs t:=⟨h.a,h.b,h.ne,h.w,zP.of h.l,h.l0,λx e=>⟨zP.of (h.o x e).1,(h.o x e).2⟩⟩
def jZ.of{w:l8}(h:gj w):jZ w:=⟨h.n2,h.n7,h.nm,h.t14,λt ht=>j6.of (h.ts t ht),h.fi,h.la,h.ne⟩
def zP.p130{x:kO}(h:zP x):x.1.natAbs<10 ^ 130:=T2 h.pN Pj
def zP.q130{x:kO}(h:zP x):x.2.natAbs<10 ^ 130:=T2 h.qN Pj
def KI{x:kO}(h:zP x):K74.m_shown_ratio [fr x]=.ok (.str (gW x.1 x.2))/\(gW x.1 x.2).length<=300:=⟨qE h.p130 h.q130,zT h.p130 h.q130⟩
def HK{zs:ci}{t:kM}(nm:cM zs)(h:j6 zs t):Com.m_is_tie [aG t]=.ok (.bl true):=by
 obtain⟨a,b,w,l,o⟩:=t;obtain⟨ha,hb,hne,hw,hl,hl0,ho⟩:=h;have h1:=iu (nm.nm a ha);have h2:=iu (nm.nm b hb);have h3:=oS hl.toLow hl0;have h4:=qt (o:=o) λx hx=>⟨(ho x hx).1.toLow,(ho x hx).2⟩
 have h5:(a==b)=false:=beq_eq_false_iff_ne.mpr hne;have h6:c6 (.str w) (.tup [.str "one",.str "both"])=.ok (.bl false):=by
  rcases hw with rfl|rfl<;>rfl
 have e:aG ⟨a,b,w,l,o⟩=.tup [.str a,.str b,.str w,fr l,bG o]:=rfl;rw[e];open_line with[Com.m_is_tie,fj,h1,h2,m6,h5,h6,h3,h4]
def DU{zs:ci}{ts:List kM}(h14:ts.length<=14)(nm:cM zs)(ht:∀t∈ts,j6 zs t):Nwb.m_look_at_ties [.lst (ts.map aG),.lst (zs.map D.str)]=.ok .non:=by
 refine Nwb.rf_ties.ok ?_;obtain⟨ρ',hl,_⟩:=jc (ds:=numbered 0 (ts.map aG)) (tg:=ik [2,3]) (ρ:=[.sh (.lst (ts.map aG)),.sh (.lst (zs.map D.str)),.no,.no])
  (body:=(aw (eC (fE (bV (ao (ae (ag 3) au) Com.m_is_tie)) (fE (af (af (ag 3) (dC (.int 0)) aH) (ag 1) c6) (af (af (ag 3) (dC (.int 1)) aH) (ag 1) c6))) (aw fQ av) av) av))
  (λk ρ=>∃a b,ρ=[.sh (.lst (ts.map aG)),.sh (.lst (zs.map D.str)),a,b]) (by
   rintro k d hd ρ ⟨a,b,rfl⟩;obtain⟨t,ht',rfl⟩:=ig hd;refine⟨_,[.sh (.lst (ts.map aG)),.sh (.lst (zs.map D.str)),.sh (.int (k:Int)),.sh (aG t)],uz rfl,?_,_,_,rfl⟩;have hT:=ht t (S7 ht');have h1:=HK nm hT;rw[show aG t=.tup [.str t.a,.str t.b,.str t.w,fr t.l,bG t.o] from rfl]at h1 ⊢;open_line with[h1,dO,decide_eq_true hT.a,decide_eq_true hT.b]) ⟨.no,.no,rfl⟩
 have e1:decide ((14:Int)<(ts.length:Int))=false:=decide_eq_false (by omega);open_line with[Com.m_look_at_ties,Com.b_look_at_ties,SD,e1,decide_eq_false (show ¬(ts.length:Int) > 14 by omega),hl]
def Hy{w:l8}(h:jZ w):Nwb.m_look_at_web [aN w]=.ok .non:=by
 obtain⟨ps,ts,fi,la⟩:=w;have h1:=Nwb.placesX h.n2 h.n7 h.nm;have h2:=DU h.t14 h.nm h.ts;have h3:=gp (h.nm.nm fi h.fi) h.fi;have h4:=gp (h.nm.nm la h.la) h.la;have h5:(la==fi)=false:=beq_eq_false_iff_ne.mpr (TF h.ne);rw[show aN ⟨ps,ts,fi,la⟩=.tup [.lst (ps.map D.str),.lst (ts.map aG),.str fi,.str la] from rfl];open_line with[Nwb.m_look_at_web,Nwb.b_look_at_web,h1,h2,h3,h4,m6,h5]
section
variable {w:l8}
def u6(W:jZ w){t:kM}(T:j6 w.ps t):tot ["tie",t.a,t.b,t.w,gW t.l.1 t.l.2,yo t.o]<=640:=by
 have la:=cQ (W.nm.nm _ T.a);have lb:=cQ (W.nm.nm _ T.b);have lw:t.w.length<=4:=by rcases T.w with h|h<;>rw[h]<;>decide
 have l1:=(KI T.l).2;have h3:("tie" : SH).length=3:=rfl;have lo:(yo t.o).length<=300:=by
  cases ho:t.o with|none=>decide|some v=>exact(KI (T.o v ho).1).2
 simp only[e8,pO];omega
def HS(W:jZ w){t:kM}(T:j6 w.ps t):(iX t).length<=640:=SW (rj (z:=" ") rfl) (u6 W T)
def Q4(W:jZ w){t:kM}(T:j6 w.ps t):K77.m_shown_tie [aG t]=.ok (.str (iX t)):=by
 have e1:K77.m_shown_ratio [fr t.l]=.ok (.str (gW t.l.1 t.l.2)):=(KI T.l).1;have i0:aH (aG t) (.int 0)=.ok (.str t.a):=rfl;have i1:aH (aG t) (.int 1)=.ok (.str t.b):=rfl;have i2:aH (aG t) (.int 2)=.ok (.str t.w):=rfl;have i3:aH (aG t) (.int 3)=.ok (fr t.l):=rfl;have i4:aH (aG t) (.int 4)=.ok (bG t.o):=rfl;have ej:=mU (z:=" ") (ys:=["tie",t.a,t.b,t.w,gW t.l.1 t.l.2,yo t.o]) rfl (SW (u6 W T) (by decide));have ej':i8 " " [.lst [.str "tie",.str t.a,.str t.b,.str t.w,.str (gW t.l.1 t.l.2),.str (yo t.o)]]=.ok (.str (iX t)):=ej;cases ho:t.o with
 |none=>
  rw[ho]at i4 ej';have hn:pI (bG none) .non=.ok (.bl true):=rfl;have ej':i8 " " [.lst [.str "tie",.str t.a,.str t.b,.str t.w,.str (gW t.l.1 t.l.2),.str "-"]]=.ok (.str (iX t)):=ej';open_line with[K77.m_shown_tie,K77.b_shown_tie,i0,i1,i2,i3,i4,hn,e1,il,fX,ej']
 |some v=>
  rw[ho]at i4 ej';have hn:pI (bG (some v)) .non=.ok (.bl false):=rfl;have e2:K77.m_shown_ratio [bG (some v)]=.ok (.str (gW v.1 v.2)):=(KI (T.o v ho).1).1;have ej':i8 " " [.lst [.str "tie",.str t.a,.str t.b,.str t.w,.str (gW t.l.1 t.l.2),.str (gW v.1 v.2)]]=.ok (.str (iX t)):=ej';open_line with[K77.m_shown_tie,K77.b_shown_tie,i0,i1,i2,i3,i4,hn,e1,e2,il,fX,ej']
def C2{ρ:Ev}(W:jZ w):iO 1 [] (dz 0) mYes (ao (ae (ag 0) au) K77.m_shown_tie) ρ (w.ts.map aG)=.ok (.lst ((w.ts.map iX).map D.str)):=by
 have hl:=W.t14;have key:∀(ts:List kM),(∀t∈ts,j6 w.ps t)->bU (cD 1 [] ρ) (dz 0) mYes (ao (ae (ag 0) au) K77.m_shown_tie) (ts.map aG)=.ok ((ts.map iX).map D.str):=λts h=>by
  induction ts with
  |nil=>rfl
  |cons t r ih=>
   have e:=Q4 W (h t SQ);have ih:=ih λx hx=>h x (SM _ hx);have ex:ao (ae (ag 0) au) K77.m_shown_tie [.sh (aG t)]=.ok (.str (iX t)):=by open_line with[e]
   show bU (cD 1 [] ρ) (dz 0) mYes (ao (ae (ag 0) au) K77.m_shown_tie) (aG t::r.map aG)=_;unfold bU;rw[show dz 0 (cD 1 [] ρ) (aG t)=.ok [.sh (aG t)] from rfl,je,show mYes [.sh (aG t)]=.ok (.bl true) from rfl,je];dsimp only;rw[ex,je,ih];rfl
 unfold iO;rw[if_pos (show(w.ts.map aG).length<=line by rw[SD];exact SW hl (by decide)),key _ W.ts]
def o5{ρ:Ev}(W:jZ w):iO 1 [] (dz 0) mYes (af (dC (.str "place ")) (ag 0) aZ) ρ (w.ps.map D.str)=.ok (.lst ((w.ps.map λy=>("place " : SH)++y).map D.str)):=by
 rw[rW (F:=λd=>match d with|.str y=>.str (("place " : SH)++y)|d=>d) (by rw[SD];have:=W.n7;omega)]
 .rw[Uy,Uy];rfl
 .intro d hd
  obtain⟨y,hy,rfl⟩:=Tt.mp hd;have l:=cQ (W.nm.nm y hy);have a:aZ (.str "place ") (.str y)=.ok (.str (("place " : SH)++y)):=lQ (decide_eq_true (by have:("place " : SH).length=6:=rfl;omega));refine⟨[.sh (.str y)],rfl,rfl,?_⟩;open_line with[a]
structure Qn (w:l8):Prop where
 tp:K76.tot (w.ps.map λy=>("place " : SH)++y)<=105
 tq:K76.tot (w.ts.map iX)<=8974
 l1:w.fi.length<=8
 l2:w.la.length<=8
 a1:aZ (.str "first ") (.str w.fi)=.ok (.str (("first " : SH)++w.fi))
 a2:aZ (.str "last ") (.str w.la)=.ok (.str (("last " : SH)++w.la))
 m1:(("first " : SH)++w.fi).length<=14
 m2:(("last " : SH)++w.la).length<=13
def w8(W:jZ w):Qn w:=by
 have n7:=W.n7;have n14:=W.t14;have tp:K76.tot (w.ps.map λy=>("place " : SH)++y)<=15*w.ps.length:=zU (B:=14) λz hz=>by
  have l:=cQ (W.nm.nm z hz);have:("place " : SH).length=6:=rfl;rw[v5];omega
 have tq:K76.tot (w.ts.map iX)<=641*w.ts.length:=by
  have key:∀(ts:List kM),(∀t∈ts,j6 w.ps t)->K76.tot (ts.map iX)<=641*ts.length:=λts h=>by
   induction ts with
   |nil=>exact Tf _
   |cons t r ih=>
    have:=HS W (h t SQ);have:=ih λx hx=>h x (SM _ hx);rw[Tv,e8,S0];omega
  exact key _ W.ts
 have l1:=cQ (W.nm.nm _ W.fi);have l2:=cQ (W.nm.nm _ W.la);have c1:("first " : SH).length=6:=rfl;have c2:("last " : SH).length=5:=rfl;exact⟨by omega,by omega,l1,l2,lQ (decide_eq_true (by omega)),lQ (decide_eq_true (by omega)),by rw[v5];omega,by rw[v5];omega⟩
abbrev bJ(w:l8):ci:=RN w.ps w.ts [w.fi,w.la]
def kQ(W:jZ w):tot (bJ w)<=9110:=by
 have p:=w8 W;show tot ((w.ps.map λy=>("place " : SH)++y)++w.ts.map iX++[("first " : SH)++w.fi,("last " : SH)++w.la])<=_;have h1:=p.tp;have h2:=p.tq;have h3:=p.m1;have h4:=p.m2;rw[pP,pP,e8,e8,pO];omega
def D8(W:jZ w):K77.m_shown_web [aN w]=.ok (.str (TV "\n" (bJ w))):=by
 have hl:K77.m_look_at_web [aN w]=.ok .non:=Hy W;have i0:aH (aN w) (.int 0)=.ok (.lst (w.ps.map D.str)):=rfl;have i1:aH (aN w) (.int 1)=.ok (.lst (w.ts.map aG)):=rfl;have i2:aH (aN w) (.int 2)=.ok (.str w.fi):=rfl;have i3:aH (aN w) (.int 3)=.ok (.str w.la):=rfl;have hc:=λρ=>o5 (ρ:=ρ) W;have ht:=λρ=>C2 (ρ:=ρ) W;have n7:=W.n7;have n14:=W.t14;have a1:=(w8 W).a1;have a2:=(w8 W).a2;have tr:=kQ W;have pl:(w.ps.map λy=>("place " : SH)++y).length=w.ps.length:=SD ..;have ql:(w.ts.map iX).length=w.ts.length:=SD ..;have tr:tot ((w.ps.map λy=>("place " : SH)++y)++w.ts.map iX++[("first " : SH)++w.fi,("last " : SH)++w.la])<=9110:=tr;show _=ak.ok (D.str (TV "\n" ((w.ps.map λy=>("place " : SH)++y)++w.ts.map iX++[("first " : SH)++w.fi,("last " : SH)++w.la])));generalize (w.ps.map λy=>("place " : SH)++y)=P at *;generalize w.ts.map iX=Q at *;generalize ("first " : SH)++w.fi=X at *;generalize ("last " : SH)++w.la=Y at *;have x1:∀ρ,CP 1 ρ (P.map D.str) (.lst (Q.map D.str))=.ok (.nx (ρ.set 1 (.ow (.lst ((P++Q).map D.str))))):=λρ=>FY (by omega);have x2:∀ρ,CP 1 ρ ((P++Q).map D.str) (.lst [.str X,.str Y])=.ok (.nx (ρ.set 1 (.ow (.lst ((P++Q++[X,Y]).map D.str))))):=λρ=>FY (b:=[X,Y]) (by rw[Tc];simp;omega);have ej:=mU (z:="\n") (ys:=P++Q++[X,Y]) rfl (by omega);generalize P++Q++[X,Y]=Z at x2 ej ⊢;generalize P++Q=PQ at x1 x2;open_line with[K77.m_shown_web,K77.b_shown_web,hl,i0,i1,i2,i3,hc,ht,a1,a2,J6,x1,x2,il,fX,ej]
def BE(W:jZ w){t:kM}(T:j6 w.ps t){A:D}{LS:ci}(hl:LS.length<=300){x7:Sl} :
  ∃x7',pQ [.sh A,.ow (.lst (LS.map D.str)),.sh (.str t.a),.sh (.str t.b),.sh (.str t.w),.sh (fr t.l),.sh (bG t.o),x7]=.ok (.nx [.sh A,.ow (.lst ((LS++[iX t]).map D.str)),.sh (.str t.a),.sh (.str t.b),.sh (.str t.w),.sh (fr t.l),.sh (bG t.o),x7']):=by
 have e1:K74.bL [fr t.l]=.ok (.str (gW t.l.1 t.l.2)):=(KI T.l).1;have ej:i8 " " [.lst [.str "tie",.str t.a,.str t.b,.str t.w,.str (gW t.l.1 t.l.2),.str (yo t.o)]]=.ok (.str (iX t)):=mU (z:=" ") (ys:=["tie",t.a,t.b,t.w,gW t.l.1 t.l.2,yo t.o]) rfl (SW (u6 W T) (by decide));have hll:decide (LS.length<=999)=true:=decide_eq_true (by omega);have ap:∀z:SH,(LS.map D.str)++[.str z]=(LS++[z]).map D.str:=λz=>by rw[T3];rfl
 cases ho:t.o with
 |none=>
  rw[ho]at ej;have ej:i8 " " [.lst [.str "tie",.str t.a,.str t.b,.str t.w,.str (gW t.l.1 t.l.2),.str "-"]]=.ok (.str (iX t)):=ej;refine⟨.sh (.str "-"),?_⟩;have hn:jV (bG none) .non=.ok (.bl false):=rfl;open_line with[pQ,hn,e1,il,fX,ej,ap,SD,hll]
 |some y=>
  rw[ho]at ej;have ej:i8 " " [.lst [.str "tie",.str t.a,.str t.b,.str t.w,.str (gW t.l.1 t.l.2),.str (gW y.1 y.2)]]=.ok (.str (iX t)):=ej;refine⟨.sh (.str (gW y.1 y.2)),?_⟩;have hn:jV (bG (some y)) .non=.ok (.bl true):=rfl;have e2':K74.bL [bG (some y)]=.ok (.str (gW y.1 y.2)):=(KI (T.o y ho).1).1;open_line with[pQ,hn,e1,e2',il,fX,ej,ap,SD,hll]
def Fe(W:jZ w):K76.cz [aN w]=.ok (.lst ((bJ w).map D.str)):=by
 have hc:=λρ=>o5 (ρ:=ρ) W;have hpl:(w.ps.map λy=>("place " : SH)++y).length=w.ps.length:=SD ..;have n7:=W.n7;have n14:=W.t14;have tr:=kQ W;have a1:=(w8 W).a1;have a2:=(w8 W).a2;have tr:tot ((w.ps.map λy=>("place " : SH)++y)++w.ts.map iX++[("first " : SH)++w.fi,("last " : SH)++w.la])<=9110:=tr;show _=ak.ok (D.lst (((w.ps.map λy=>("place " : SH)++y)++w.ts.map iX++[("first " : SH)++w.fi,("last " : SH)++w.la]).map D.str));generalize (w.ps.map λy=>("place " : SH)++y)=P at *;obtain⟨ρ',hf,x2,x3,x4,x5,x6,x7,rfl⟩:=jc (tg:=ik [2,3,4,5,6]) (body:=pQ) (ds:=w.ts.map aG) (ρ:=[.sh (aN w),.ow (.lst (P.map D.str)),.no,.no,.no,.no,.no,.no])
  (λk ρ=>∃(x2 x3 x4 x5 x6 x7:Sl),ρ=[.sh (aN w),.ow (.lst ((P++(w.ts.take k).map iX).map D.str)),x2,x3,x4,x5,x6,x7]) (by
   rintro k d hd ρ ⟨x2,x3,x4,x5,x6,x7,rfl⟩;rw[Ta]at hd;cases hk:w.ts[k]? with
   |none=>rw[hk]at hd;cases hd
   |some t=>
    rw[hk]at hd;cases hd;obtain⟨hkl,hkt⟩:=SR.mp hk;obtain⟨y7,e⟩:=BE W (W.ts t (S7 hk)) (A:=aN w) (LS:=P++(w.ts.take k).map iX) (by rw[Tc,SD,UD];omega) (x7:=x7);have hq:P++(w.ts.take (k+1)).map iX=P++(w.ts.take k).map iX++[iX t]:=by
     rw[W0 hkl,hkt,T3,Uk];rfl
    rw[←hq]at e;exact⟨_,_,rfl,e,_,_,_,_,_,y7,rfl⟩) ⟨.no,.no,.no,.no,.no,.no,by simp⟩
 rw[SD,VT]at hf;generalize w.ts.map iX=Q at *;generalize ("first " : SH)++w.fi=X at *;generalize ("last " : SH)++w.la=Y at *;have a3:aZ (.lst ((P++Q).map D.str)) (.lst [.str X,.str Y])=.ok (.lst ((P++Q++[X,Y]).map D.str)):=GJ (a:=P++Q) (b:=[X,Y]) (by rw[pP]at tr;omega);generalize P++Q++[X,Y]=Z at a3 ⊢;generalize P++Q=PQ at a3 hf;have i0:aH (aN w) (.int 0)=.ok (.lst (w.ps.map D.str)):=rfl;have i1:aH (aN w) (.int 1)=.ok (.lst (w.ts.map aG)):=rfl;have i2:aH (aN w) (.int 2)=.ok (.str w.fi):=rfl;have i3:aH (aN w) (.int 3)=.ok (.str w.la):=rfl;open_line with[K76.cz,K76.nu,i0,i1,i2,i3,hc,hf,a1,a2,a3]
end
end K75
namespace K75
open PySem PySem.NumText L2 DL Com Tex K74 K76 K77
def a32:mj 32=false:=by decide +kernel
def a10:mj 10=false:=by decide +kernel
def iv{z:SH}{c:Nat}(h:cU z=true)(hc:mj c=false):c∉cl z:=λhm=>by
 unfold cU at h;simp only[SX]at h;have:=Tp.mp h.2.2 c hm;rw[hc]at this;cases this
def rO{ds:cr}{c:Nat}(h:AllDigits ds)(hc:c<47):c∉ds:=λhm=>by have:=(h c hm).1;omega
def uU{p q:Int}{c:Nat}(hp:0<=p)(hq:0<=q)(hc:c<47):c∉cl (gW p q):=by
 rw[Lx];have ep:wr p=yq p.natAbs:=by unfold wr;rw[if_neg (by omega)]
 have eq:wr q=yq q.natAbs:=by unfold wr;rw[if_neg (by omega)]
 rw[ep,eq];split
 .exact rO (eL _) hc
 .intro hm
  rcases TX.mp hm with hm|hm
  .exact rO (eL _) hc hm
  .rcases SV.mp hm with hm|hm
   .omega
   .exact rO (eL _) hc hm
def Bv{w:SH}{c:Nat}(h:w="one"∨w="both")(hc:c<47):c∉cl w:=by
 rcases h with rfl|rfl
 .intro hm
  have:∀x∈cl ("one" : SH),97<=x:=by decide
  have:=this c hm;omega
 .intro hm
  have:∀x∈cl ("both" : SH),97<=x:=by decide
  have:=this c hm;omega
def Ec{zs:ci}{t:kM}(T:j6 zs t){c:Nat}(hc:c<45):c∉cl (yo t.o):=by
 cases ho:t.o with
 |none=>
  intro hm;have:∀x∈cl ("-" : SH),x=45:=by decide
  have:=this c hm;omega
 |some v=>exact uU (p:=v.1) (q:=v.2) (V2 (T.o v ho).2) (by have:=(T.o v ho).1.q1;omega) (by omega)
def qu{zs:ci}{t:kM}(nm:cM zs)(T:j6 zs t){c:Nat}(hc:c<45)(ha:mj c=false):∀y∈([("tie" : SH),t.a,t.b,t.w,gW t.l.1 t.l.2,yo t.o]:ci),c∉cl y:=λy hy=>by
 simp only[SV,Ui,or_false]at hy;rcases hy with rfl|rfl|rfl|rfl|rfl|rfl
 .intro hm
  have:∀x∈cl ("tie" : SH),97<=x:=by decide
  have:=this c hm;omega
 .exact iv (nm.nm _ T.a) ha
 .exact iv (nm.nm _ T.b) ha
 .exact Bv T.w (by omega)
 .exact uU (p:=t.l.1) (q:=t.l.2) T.l0 (by have:=T.l.q1;omega) (by omega)
 .exact Ec T hc
def Bh:(" " : SH)=⟨#[32]⟩:=by decide
def Pg:("\n" : SH)=⟨#[10]⟩:=by decide
def uW{p z:SH}(hp:32∉cl p)(hz:32∉cl z):yl (p++" "++z)=[p,z]:=by
 rw[←ML,Bh];show Uv _ " "=_;rw[Bh];exact iB (by simp) λy hy=>by
  rcases SV.mp hy with rfl|hy
  .exact hp
  .rw[TC.mp hy];exact hz
def Bx{z:SH}(h:cU z=true):yl (("place " : SH)++z)=[("place" : SH),z]:=by
 rw[Mh];exact uW (by decide) (iv h a32)
def By{z:SH}(h:cU z=true):yl (("first " : SH)++z)=[("first" : SH),z]:=by
 rw[Mj];exact uW (by decide) (iv h a32)
def Dx{z:SH}(h:cU z=true):yl (("last " : SH)++z)=[("last" : SH),z]:=by
 rw[Mi];exact uW (by decide) (iv h a32)
def Hz{zs:ci}{t:kM}(nm:cM zs)(T:j6 zs t):yl (iX t)=[("tie" : SH),t.a,t.b,t.w,gW t.l.1 t.l.2,yo t.o]:=by
 show Uv (TV " " _) " "=_;rw[Bh];exact iB (by simp) (qu nm T (by decide) a32)
theorem AJ{c e:Nat}(he:c≠e):∀{as:List (cr)},(∀a∈as,c∉a)->c∉jl e as
 |[],_=>by simp[jl]
 |[a],h=>h a SQ
 |a::b::r,h=>by
  intro hm;rcases TX.mp (show c∈a++e::jl e (b::r) from hm) with hm|hm
  .exact h a SQ hm
  .rcases SV.mp hm with hm|hm
   .exact he hm
   .exact AJ he (λx hx=>h x (SM _ hx)) hm
def DX{zs:ci}{t:kM}(nm:cM zs)(T:j6 zs t):10∉cl (iX t):=by
 have e:iX t=VC ⟨#[32]⟩ [("tie" : SH),t.a,t.b,t.w,gW t.l.1 t.l.2,yo t.o]:=by
  unfold iX;rw[Bh];exact Vs _ _
 rw[e,qc];refine AJ (by decide) λa ha=>?_;obtain⟨y,hy,rfl⟩:=Tt.mp ha;exact qu nm T (by decide) a10 y hy
def qQ{p z:SH}(hp:10∉cl p)(h:cU z=true):10∉cl (p++z):=by
 rw[om];intro hm;rcases TX.mp hm with hm|hm
 .exact hp hm
 .exact iv h a10 hm
def yH{w:l8}(W:jZ w):N4 (TV "\n" (bJ w))=bJ w:=by
 show Uv (TV "\n" _) "\n"=_;rw[Pg];refine iB (by simp[RN,RO]) λy hy=>?_;have hy:y∈(w.ps.map λy=>("place " : SH)++y)++w.ts.map iX++[("first " : SH)++w.fi,("last " : SH)++w.la]:=hy;simp only[TX,Tt,SV,Ui,or_false]at hy;rcases hy with(⟨z,hz,rfl⟩|⟨t,ht,rfl⟩)|rfl|rfl
 .exact qQ (by decide) (W.nm.nm z hz)
 .exact DX W.nm (W.ts t ht)
 .exact qQ (by decide) (W.nm.nm _ W.fi)
 .exact qQ (by decide) (W.nm.nm _ W.la)
def mC(x:kO):Bool:=decide (x.1.natAbs<dH)&&decide (x.2.natAbs<dH)
def FV:Option kO->Bool
 |none=>true
 |some v=>mC v
def pF(t:kM):Bool:=mC t.l&&FV t.o
def wO{x:kO}(L:zP x)(h0:0<=x.1):K74.m_read_ratio [.str (gW x.1 x.2)]=if mC x=true then .ok (.tup [.int x.1,.int x.2]) else .exn NT:=by
 rw[Ic L.toLow h0 L.p130 L.q130];unfold mC
 by_cases h:x.1.natAbs<dH/\x.2.natAbs<dH
 .rw[if_pos h,decide_eq_true h.1,decide_eq_true h.2];rfl
 .rw[if_neg h,if_neg]
  intro e;simp only[SX,decide_eq_true_eq]at e;exact h e
def Af{x:kO}(L:Low x):eZ (.tup [.int x.1,.int x.2])=true:=by
 show(decide ((1:Int)<=x.2)&&(TN x.1 x.2==1))=true;rw[decide_eq_true L.q1,L.g1];rfl
def Km{x:kO}(h0:0<=x.1)(h1:0<=x.2):gW x.1 x.2≠"-":=λe=>by
 have:(45:Nat)∉cl (gW x.1 x.2):=uU h0 h1 (by decide);rw[e]at this;exact this (by decide)
def DV{zs:ci}{t:kM}(nm:cM zs)(T:j6 zs t):K76.m_read_tie [yn "tie" t.a t.b t.w (gW t.l.1 t.l.2) (yo t.o)]=.ok (if pF t=true then aG t else .non):=by
 have na:=nm.nm _ T.a;have nb:=nm.nm _ T.b;have la:t.a.length<=90000:=SW (cQ na) (by decide);have lb:t.b.length<=90000:=SW (cQ nb) (by decide);have r4:=wO T.l T.l0;have hw:K68.wordD (.str t.w)=true:=by rcases T.w with h|h<;>rw[h]<;>decide
 have five:∀(O:D) (oO:Bool),K68.worthD O=oO->K68.tie5 (.str t.a) (.str t.b) (.str t.w) (.tup [.int t.l.1,.int t.l.2]) O=oO:=λO oO hO=>by
  rw[Jr (oO:=oO) (Af T.l.toLow) hO,na,nb,decide_eq_false T.ne,hw];have:RU (.tup [.int t.l.1,.int t.l.2])=true:=decide_eq_true T.l0;rw[this];simp
 unfold pF;cases hf:mC t.l with
 |false=>
  rw[hf,if_neg (by decide)]at r4;rw[Eo r4,S6,if_neg (by decide)]
 |true=>
  rw[hf,if_pos rfl]at r4;rw[Tj];cases ho:t.o with
  |none=>
   have:=Cd (w0:="tie") (w1:=t.a) (w2:=t.b) (w3:=t.w) (w5:="-") r4 rfl la lb;rw[five .non true rfl,if_pos rfl]at this;rw[show yo none="-" from rfl,show FV none=true from rfl,if_pos rfl,this];show ak.ok (sW t.a t.b t.w _ _)=ak.ok (aG t);rw[show aG t=sW t.a t.b t.w (.tup [.int t.l.1,.int t.l.2]) (bG t.o) from rfl,ho];rfl
  |some v=>
   have V:=T.o v ho;have r5:=wO V.1 (V2 V.2);have hd:gW v.1 v.2≠"-":=Km (V2 V.2) (by have:=V.1.q1;omega);rw[show yo (some v)=gW v.1 v.2 from rfl,show FV (some v)=mC v from rfl];cases hv:mC v with
   |false=>
    rw[hv,if_neg (by decide)]at r5;rw[En r4 hd r5,if_neg (by decide)]
   |true=>
    rw[hv,if_pos rfl]at r5;have:=Cc (w0:="tie") (w1:=t.a) (w2:=t.b) (w3:=t.w) r4 hd r5 la lb;rw[five (.tup [.int v.1,.int v.2]) true (by
     unfold K68.worthD;rw[Af V.1.toLow];show(false||(true&&decide (0<v.1)))=true;rw[decide_eq_true V.2];rfl),if_pos rfl]at this
    rw[if_pos rfl,this];show ak.ok (sW t.a t.b t.w _ _)=ak.ok (aG t);rw[show aG t=sW t.a t.b t.w (.tup [.int t.l.1,.int t.l.2]) (bG t.o) from rfl,ho];rfl
end K75
namespace K75
open PySem L2 DL Com Tex K74 K76 K77
abbrev pL(A:D)(a:SA)(R:D)(k:Nat)(rows:ci)(x3 x4:Sl)(st:S3):ak gf:=rz (ik [3,4]) (oM a) (numbered k (rows.map D.str)) [.sh A,.pt a,.sh R,x3,x4] st
section
variable {ps:ci}{ts:ac}{es:ci}{A R:D}{a:SA}{k:Nat}{r:SH}{rest:ci}{x3 x4:Sl}{st':S3}
def vN(h:r.length<=90000)(hr:K76.m_takes_row a (S ps ts es) [.lst ((yl r).map D.str)]=.ok (.bl true,st')):pL A a R k (r::rest) x3 x4 (S ps ts es)=pL A a R (k+1) rest (.sh (.int (k:Int))) (.sh (.str r)) st':=by
 show(oM a [.sh A,.pt a,.sh R,.sh (.int (k:Int)),.sh (.str r)] (S ps ts es)).bind _=_;rw[O9 h hr];rfl
def PB(h:r.length<=90000)(hr:K76.m_takes_row a (S ps ts es) [.lst ((yl r).map D.str)]=.ok (.bl false,st')):pL A a R k (r::rest) x3 x4 (S ps ts es)=.exn (NR k):=by
 show(oM a [.sh A,.pt a,.sh R,.sh (.int (k:Int)),.sh (.str r)] (S ps ts es)).bind _=_;rw[Rg h hr];rfl
end
def va{p z:SH}(hp:p.length<=10)(h:cU z=true):(p++z).length<=90000:=by
 have:=cQ h;rw[v5];omega
theorem KL{A R:D}{a:SA}:∀(qs ps rest:ci) (k:Nat) (x3 x4:Sl),ps.length+qs.length<=7->(ps++qs).Nodup->(∀z∈ps++qs,cU z=true)->Pn x3->Pn x4 ->
  ∃y3 y4,Pn y3/\Pn y4/\pL A a R k ((qs.map λy=>("place " : SH)++y)++rest) x3 x4 (S ps [] [])=pL A a R (k+qs.length) rest y3 y4 (S (ps++qs) [] [])
 |[],ps,rest,k,x3,x4,_,_,_,p3,p4=>⟨x3,x4,p3,p4,by rw[Ut];rfl⟩
 |z::qs,ps,rest,k,x3,x4,hl,nd,hn,p3,p4=>by
  have nz:=hn z (by simp);rw[S0]at hl;have I:Inv ps [] []:=⟨by omega,λy hy=>hn y (by simp[hy]),by decide,by simp,by decide⟩
  have hz:z∉ps:=λhm=>by
   rw[W2]at nd;exact nd.2.2 z hm z SQ rfl
  have c:cP ps [] [] z=true:=by
   unfold cP;rw[nz,decide_eq_false hz,decide_eq_false (show ¬ps.length=7 by omega)];rfl
  have hr:=B4 (a:=a) I (z:=z) (SW (cQ nz) (by decide));rw[if_pos c]at hr;obtain⟨y3,y4,q3,q4,e⟩:=KL qs (ps++[z]) rest (k+1) (.sh (.int (k:Int))) (.sh (.str (("place " : SH)++z))) (by rw[Tc];simp;omega) (by rw[Uk];exact nd) (λy hy=>hn y (by rw[Uk]at hy;exact hy)) (.inr ⟨_,rfl⟩) (.inr ⟨_,rfl⟩);refine⟨y3,y4,q3,q4,?_⟩;rw[Tv,Uu,vN (va (by decide) nz) (by rw[Bx nz];exact hr),e,Uk,S0,show k+1+qs.length=k+(qs.length+1) by omega];rfl
def nk:Nat->List kM->cr
 |_,[]=>[]
 |k,t::r=>if pF t=true then nk (k+1) r else k::nk (k+1) r
def IG{t:kM}:wc (aG t):=⟨t.a,t.b,t.w,fr t.l,bG t.o,rfl,.inr ⟨_,_,rfl⟩,by cases t.o with|none=>exact .inl rfl|some v=>exact .inr ⟨_,_,rfl⟩⟩
def L8{ps:ci}{ts:ac}{t:kM}{a:SA}(nm:cM ps)(I:Inv ps ts [])(h14:ts.length<14)(T:j6 ps t):K76.m_takes_row a (S ps ts []) [.lst ((yl (iX t)).map D.str)]=.ok (if pF t=true then(.bl true,S ps (ts++[aG t]) []) else(.bl false,S ps ts [])):=by
 rw[Hz nm T,HZ I (DV nm T)];cases hf:pF t with
 |false=>
  rw[if_neg (by decide),if_neg (by decide)];exact iI DJ
 |true=>
  rw[if_pos rfl,if_pos rfl];refine iI ?_;have hL:Dg (fr t.l):=.inr ⟨_,_,rfl⟩;have hO:Dg (bG t.o):=by cases t.o with|none=>exact .inl rfl|some v=>exact .inr ⟨_,_,rfl⟩
  have:=QL (a:=a) (w1:=t.a) (w2:=t.b) (w3:=t.w) I hL hO;rw[decide_eq_false (show ¬ts.length=14 by omega),decide_eq_true T.a,decide_eq_true T.b]at this;exact this
theorem KJ{A R:D}{a:SA}{ps:ci}(n7:ps.length<=7)(nm:cM ps):∀(us:List kM) (ts:List kM) (rest:ci) (k:Nat) (x3 x4:Sl),ts.length+us.length<=14->(∀t∈us,j6 ps t)->Pn x3->Pn x4 ->
  match nk k us with
  |[]=>∃y3 y4,Pn y3/\Pn y4/\pL A a R k (us.map iX++rest) x3 x4 (S ps (ts.map aG) [])=pL A a R (k+us.length) rest y3 y4 (S ps ((ts++us).map aG) [])
  |j::_=>pL A a R k (us.map iX++rest) x3 x4 (S ps (ts.map aG) [])=.exn (NR j)
 |[],ts,rest,k,x3,x4,_,_,p3,p4=>⟨x3,x4,p3,p4,by rw[Ut];rfl⟩
 |t::us,ts,rest,k,x3,x4,hl,hT,p3,p4=>by
  rw[S0]at hl;have T:=hT t SQ;have I:Inv ps (ts.map aG) []:=⟨n7,λy hy=>nm.nm y hy,by rw[SD];omega,λd hd=>by obtain⟨u,_,rfl⟩:=Tt.mp hd;exact IG,by decide⟩
  have hr:=L8 (a:=a) nm I (by rw[SD];omega) T;have hlen:(iX t).length<=90000:=by
   have la:=cQ (nm.nm _ T.a);have lb:=cQ (nm.nm _ T.b);have lw:t.w.length<=4:=by rcases T.w with h|h<;>rw[h]<;>decide
   have l1:=(KI T.l).2;have h3:("tie" : SH).length=3:=rfl;have lo:(yo t.o).length<=300:=by
    cases ho:t.o with|none=>decide|some v=>exact(KI (T.o v ho).1).2
   have:=rj (z:=" ") (ys:=["tie",t.a,t.b,t.w,gW t.l.1 t.l.2,yo t.o]) rfl;simp only[e8,pO]at this;unfold iX;omega
  rw[Tv,Uu];unfold nk;cases hf:pF t with
  |false=>
   rw[hf,if_neg (by decide)]at hr;rw[if_neg (by decide)];exact PB hlen hr
  |true=>
   rw[hf,if_pos rfl]at hr;rw[if_pos rfl,vN hlen hr];have ih:=KJ (A:=A) (R:=R) (a:=a) n7 nm us (ts++[t]) rest (k+1) (.sh (.int (k:Int))) (.sh (.str (iX t))) (by rw[Tc];simp;omega) (λx hx=>hT x (SM _ hx)) (.inr ⟨_,rfl⟩) (.inr ⟨_,rfl⟩);rw[show(ts++[t]).map aG=ts.map aG++[aG t] by rw[T3];rfl]at ih;cases hb:nk (k+1) us with
   |nil=>
    rw[hb]at ih;obtain⟨y3,y4,q3,q4,e⟩:=ih;refine⟨y3,y4,q3,q4,?_⟩;rw[e,Uk,S0,show k+1+us.length=k+(us.length+1) by omega];rfl
   |cons j r=>
    rw[hb]at ih;exact ih
def Oh{A R:D}{a:SA}{w:l8}(W:jZ w){k:Nat}{x3 x4:Sl}:∃y3 y4,Pn y3/\Pn y4/\pL A a R k [("first " : SH)++w.fi,("last " : SH)++w.la] x3 x4 (S w.ps (w.ts.map aG) [])=.ok (.nx [.sh A,.pt a,.sh R,y3,y4] (S w.ps (w.ts.map aG) [w.fi,w.la])):=by
 have nf:=W.nm.nm _ W.fi;have nl:=W.nm.nm _ W.la;have I:Inv w.ps (w.ts.map aG) []:=⟨W.n7,λy hy=>W.nm.nm y hy,by rw[SD];exact W.t14,λd hd=>by obtain⟨u,_,rfl⟩:=Tt.mp hd;exact IG,by decide⟩
 have I2:Inv w.ps (w.ts.map aG) [w.fi]:=⟨I.n7,I.nm,I.n14,I.ti,by show 1<=2;decide⟩
 have n2:=W.n2;have h1:K76.m_takes_row a (S w.ps (w.ts.map aG) []) [.lst ((yl (("first " : SH)++w.fi)).map D.str)]=.ok (.bl true,S w.ps (w.ts.map aG) [w.fi]):=by
  rw[By nf,B5 I,if_pos (show([]:ci).isEmpty=true from rfl)];refine iI ?_;have:=Ot (a:=a) (z:=w.fi) I;rw[decide_eq_false (show ¬w.ps.length<2 by omega),decide_eq_true W.fi]at this;exact this
 have h2:K76.m_takes_row a (S w.ps (w.ts.map aG) [w.fi]) [.lst ((yl (("last " : SH)++w.la)).map D.str)]=.ok (.bl true,S w.ps (w.ts.map aG) [w.fi,w.la]):=by
  rw[Dx nl,Ek I2,if_pos (show decide ([w.fi].length=1)=true from rfl)];refine iI ?_;have:=Ot (a:=a) (z:=w.la) I2;rw[decide_eq_false (show ¬w.ps.length<2 by omega),decide_eq_true W.la,decide_eq_false (show ¬w.la∈[w.fi] from λe=>W.ne (TC.mp e).symm)]at this;exact this
 refine⟨.sh (.int ((k+1:Nat):Int)),.sh (.str (("last " : SH)++w.la)),.inr ⟨_,rfl⟩,.inr ⟨_,rfl⟩,?_⟩;rw[vN (va (by decide) nf) h1,vN (va (by decide) nl) h2];rfl
theorem KW{w:l8}(W:jZ w):K76.m_read_web [.str (TV "\n" (bJ w))]=match nk w.ps.length w.ts with
  |[]=>.ok (.tup [.ob .pl (w.ps.map D.str),.ob .pl (w.ts.map aG),.str w.fi,.str w.la])
  |j::_=>.exn (NR j):=by
 have hlen:=rj (z:="\n") (ys:=bJ w) rfl;have htot:=kQ W;have hsp0:=yH W;generalize hT:TV "\n" (bJ w)=t at hlen hsp0 ⊢;have h:t.length<=90000:=by omega
 have nn:noO [.sh (.str t),.no,.no,.no,.no]=true/\1 < [Sl.sh (D.str t),.no,.no,.no,.no].length:=⟨rfl,by show 1<5;decide⟩
 have hp:∀{r:ak Fl},(∀a,AV (EY a [.sh (.str t),.pt a,.no,.no,.no] ⟨[],[],[]⟩)=r)->K76.m_read_web [.str t]=r.bind Eh:=λ{r} e=>by
  have e1:lI 1 EY [.sh (.str t),.no,.no,.no,.no]=r:=by
   unfold lI;rw[if_pos nn];exact IU e
  have e2:K76.m_read_web [.str t]=(K76.b_read_web [.sh (.str t),.no,.no,.no,.no]).bind Eh:=rfl;have e3:K76.b_read_web=aw (eC (bV (aS (ag 0) (dW "str"))) (aw (cg "NoText" ["row"] (ae (dC (.int 0)) au)) av) av) (lI 1 EY):=rfl;rw[e2,e3,zp];have e4:eC (bV (aS (ag 0) (dW "str"))) (aw (cg "NoText" ["row"] (ae (dC (.int 0)) au)) av) av [.sh (.str t),.no,.no,.no,.no]=.ok (.nx [.sh (.str t),.no,.no,.no,.no]):=rfl;rw[e4,je,AX,e1]
 have hsp:∀a,aY 2 (sU cA (ag 0) (dC (.str "\n"))) [.sh (.str t),.pt a,.no,.no,.no]=.ok (.nx [.sh (.str t),.pt a,.sh (.lst ((N4 t).map D.str)),.no,.no]):=λa=>by
  have e:sU cA (ag 0) (dC (.str "\n")) [.sh (.str t),.pt a,.no,.no,.no]=.ok (.lst ((N4 t).map D.str)):=HY h;open_line with[e]
 have he:∀a,sY (ag 2) [.sh (.str t),.pt a,.sh (.lst ((N4 t).map D.str)),.no,.no]=.ok (numbered 0 ((N4 t).map D.str)):=λa=>rfl;rw[hsp0]at hsp he;have key:∀a:SA,match nk w.ps.length w.ts with
   |[]=>∃y3 y4,Pn y3/\Pn y4/\pL (.str t) a (.lst ((bJ w).map D.str)) 0 (bJ w) .no .no (S [] [] [])=.ok (.nx [.sh (.str t),.pt a,.sh (.lst ((bJ w).map D.str)),y3,y4] (S w.ps (w.ts.map aG) [w.fi,w.la]))
   |j::_=>pL (.str t) a (.lst ((bJ w).map D.str)) 0 (bJ w) .no .no (S [] [] [])=.exn (NR j):=λa=>by
  obtain⟨y3,y4,q3,q4,e⟩:=KL (A:=.str t) (R:=.lst ((bJ w).map D.str)) (a:=a) w.ps [] (w.ts.map iX++[("first " : SH)++w.fi,("last " : SH)++w.la]) 0 .no .no (by have:=W.n7;simp;omega) (by rw[UL];exact W.nm.nd) (λz hz=>W.nm.nm z (by simpa using hz)) (.inl rfl) (.inl rfl);rw[Wr,UL]at e;have e:pL (.str t) a (.lst ((bJ w).map D.str)) 0 (bJ w) .no .no (S [] [] [])=pL (.str t) a (.lst ((bJ w).map D.str)) w.ps.length (w.ts.map iX++[("first " : SH)++w.fi,("last " : SH)++w.la]) y3 y4 (S w.ps [] []):=by
   rw[←e];have:bJ w=(w.ps.map λy=>("place " : SH)++y)++(w.ts.map iX++[("first " : SH)++w.fi,("last " : SH)++w.la]):=by
    show(w.ps.map λy=>("place " : SH)++y)++w.ts.map iX++[("first " : SH)++w.fi,("last " : SH)++w.la]=_;rw[Uk]
   rw[this]
  have k:=KJ (A:=.str t) (R:=.lst ((bJ w).map D.str)) (a:=a) W.n7 W.nm w.ts [] [("first " : SH)++w.fi,("last " : SH)++w.la] w.ps.length y3 y4 (by have:=W.t14;simp;omega) W.ts q3 q4;cases hb:nk w.ps.length w.ts with
  |nil=>
   rw[hb]at k;obtain⟨z3,z4,r3,r4,e2⟩:=k;obtain⟨v3,v4,s3,s4,e3⟩:=Oh (A:=.str t) (R:=.lst ((bJ w).map D.str)) (a:=a) W (k:=w.ps.length+w.ts.length) (x3:=z3) (x4:=z4);exact⟨v3,v4,s3,s4,by rw[e];exact e2.trans e3⟩
  |cons j r=>
   rw[hb]at k;rw[e];exact k
 have pr:∀a,EY a [.sh (.str t),.pt a,.no,.no,.no] ⟨[],[],[]⟩=(pL (.str t) a (.lst ((bJ w).map D.str)) 0 (bJ w) .no .no (S [] [] [])).bind (rk (cZ (wm DK 1 a (af (ao (ae (aS (ag 1) (iN "ends")) au) (m1 cC)) (dC (.int 2)) Gz) (cZ (mi (cg "NoText" ["row"] (ae (ao (ae (ag 2) au) (m1 cC)) au))) cu) cu) (cZ (N6 1 a false) cu))):=λa=>by
  unfold EY;rw[cj,AE,hsp a,je,Fn,je,dq,cj,MH (he a),Sx]
 cases hb:nk w.ps.length w.ts with
 |cons j r=>
  have key:=λa=>by have:=key a;rw[hb]at this;exact this
  exact(hp (r:=.exn (NR j)) λa=>by rw[pr a,key a];rfl)
 |nil=>
  have key:=λa=>by have:=key a;rw[hb]at this;exact this
  refine hp (r:=.ok (.rt (.tup [.ob .pl (w.ps.map D.str),.ob .pl (w.ts.map aG),.str w.fi,.str w.la]))) λa=>?_;obtain⟨y3,y4,q3,q4,e⟩:=key a;have cP:af (ao (ae (aS (ag 1) (iN "ends")) au) (m1 cC)) (dC (.int 2)) Gz [.sh (.str t),.sh (iJ DK (S w.ps (w.ts.map aG) [w.fi,w.la])),.sh (.lst ((bJ w).map D.str)),y3,y4]=.ok (.bl false):=rfl;rw[pr a,e,je,dq,cj,Rb q3 q4,cP,je,fU,dR,je,dq,cj,Rc];rfl
def kN(x y:kO):kO:=vC (x.1*y.1) (x.2*y.2)
def tX{x y:kO}:kN x y=kN y x:=by unfold kN;rw[Int.mul_comm x.1,Int.mul_comm x.2]
section
variable {x y:kO}
def qw(X:eA x)(Y:eA y):0<x.2*y.2:=Yc (by have:=X.q1;omega) (by have:=Y.q1;omega)
def DR(X:eA x)(Y:eA y):(x.1*y.1).natAbs<=dH*dH:=GK (Ua X.pN) (Ua Y.pN)
def DQ(X:eA x)(Y:eA y):(x.2*y.2).natAbs<=dH*dH:=GK (Ua X.qN) (Ua Y.qN)
def Qz{n:Nat}(h:n<=dH*dH):n<wj:=T2 h (T2 (by omega) OM)
def DP(X:eA x)(Y:eA y):zP (kN x y):=⟨pY (qw X Y),SW vB (DR X Y),SW vA (DQ X Y)⟩
def Fd{a b:Int}(ha:0<=a)(hb:0<b):0<=(vC a b).1:=VE ha (V8 _)
def Fc{a b:Int}(ha:0<a)(hb:0<b):0<(vC a b).1:=by
 have h:=IV (a:=a) (b:=b);have h2:=(pY (a:=a) hb).q1;have h0:=Fd (V2 ha) hb;rcases Int.lt_or_eq_of_le h0 with h3|h3
 .exact h3
 .rw[←h3,Int.zero_mul]at h
  have:0<a*(vC a b).2:=Yc ha (by omega);omega
def Om(X:eA x)(Y:eA y)(h:0<=x.1)(h':0<=y.1):0<=(kN x y).1:=Fd (Xo h h') (qw X Y)
def Ol(X:eA x)(Y:eA y)(h:0<x.1)(h':0<y.1):0<(kN x y).1:=Fc (Yc h h') (qw X Y)
def Fy:aH (fr x) (.int 0)=.ok (.int x.1):=rfl
def Lb:aH (fr x) (.int 1)=.ok (.int x.2):=rfl
def Fb(X:eA x)(Y:eA y):df [fr x,fr y]=.ok (fr (kN x y)):=by
 have m1:=kZ (IQ (Ua X.pN) (Ua Y.pN));have m2:=kZ (IQ (Ua X.qN) (Ua Y.qN));have h:=nR (qw X Y) (Qz (DR X Y)) (Qz (DQ X Y));open_line with[df,nr,Fy,Lb,m1,m2,h]
 rfl
def EB(X:eA x)(Y:eA y):K75.m_times [fr x,fr y]=.ok (fr (kN x y)):=by
 have m1:=kZ (IQ (Ua X.pN) (Ua Y.pN));have m2:=kZ (IQ (Ua X.qN) (Ua Y.qN));have h:=Ep (qw X Y) (Qz (DR X Y)) (Qz (DQ X Y));open_line with[K75.m_times,K75.b_times,Fy,Lb,m1,m2,h]
 rfl
end
def sT(s c:kO)(t:kM):kM:=⟨t.a,t.b,t.w,kN t.l s,t.o.map λo=>kN o c⟩
def nM(s c:kO)(w:l8):l8:=⟨w.ps,w.ts.map (sT s c),w.fi,w.la⟩
structure gT (s:kO):Prop where
 f:eA s
 p:0<s.1
section
variable {w:l8}{s c:kO}
def L4{zs:ci}{t:kM}(T:kL zs t)(S:gT s)(C:gT c):j6 zs (sT s c t):=by
 refine⟨T.a,T.b,T.ne,T.w,DP T.l S.f,Om T.l S.f T.l0 (V2 S.p),λx hx=>?_⟩;cases ho:t.o with
 |none=>rw[show(sT s c t).o=t.o.map _ from rfl,ho]at hx;cases hx
 |some v=>
  rw[show(sT s c t).o=t.o.map _ from rfl,ho]at hx;have hx:kN v c=x:=by injection hx
  rw[←hx];exact⟨DP (T.o v ho).1 C.f,Ol (T.o v ho).1 C.f (T.o v ho).2 C.p⟩
def LZ(W:gj w)(S:gT s)(C:gT c):jZ (nM s c w):=⟨W.n2,W.n7,W.nm,by show(w.ts.map _).length<=14;rw[SD];exact W.t14,λt ht=>by obtain⟨u,hu,rfl⟩:=Tt.mp ht;exact L4 (W.ts u hu) S C,W.fi,W.la,W.ne⟩
def LH{zs:ci}{t:kM}(T:kL zs t)(S:gT s)(C:gT c):eR [aG t,fr s,fr c]=.ok (aG (sT s c t)):=by
 have i0:aH (aG t) (.int 0)=.ok (.str t.a):=rfl;have i1:aH (aG t) (.int 1)=.ok (.str t.b):=rfl;have i2:aH (aG t) (.int 2)=.ok (.str t.w):=rfl;have i3:aH (aG t) (.int 3)=.ok (fr t.l):=rfl;have i4:aH (aG t) (.int 4)=.ok (bG t.o):=rfl;have h1:=EB S.f T.l;rw[tX]at h1;have e:aG (sT s c t)=.tup [.str t.a,.str t.b,.str t.w,fr (kN t.l s),bG (t.o.map λo=>kN o c)]:=rfl;rw[e];cases ho:t.o with
 |none=>
  rw[ho]at i4;have hn:pI (bG none) .non=.ok (.bl true):=rfl;open_line with[eR,kC,i0,i1,i2,i3,i4,hn,h1]
  rfl
 |some v=>
  rw[ho]at i4;have hn:pI (bG (some v)) .non=.ok (.bl false):=rfl;have h2:K75.m_times [fr c,bG (some v)]=.ok (fr (kN v c)):=by rw[tX];exact EB C.f (T.o v ho).1
  open_line with[eR,kC,i0,i1,i2,i3,i4,hn,h1,h2]
  rfl
def Az(S:gT s):dX [fr s]=.ok .non:=by
 have h1:=my S.f.toLow;have h2:C0 (.int s.1) (.int 0)=.ok (.bl false):=by
  show ak.ok (D.bl (decide (s.1<=0)))=_;rw[decide_eq_false (by have:=S.p;omega)]
 open_line with[dX,kK,h1,Fy,h2]
def C3{α:Type}{n:Nat}{fr:cr}{tg:Ev->D->ak Ev}{fe:am}{ρ:Ev}{F G:α->D}{xs:List α}(hl:xs.length<=1000000)(h:∀x∈xs,∃ρ1,tg (cD n fr ρ) (F x)=.ok ρ1/\fe ρ1=.ok (G x)):iO n fr tg mYes fe ρ (xs.map F)=.ok (.lst (xs.map G)):=by
 have key:∀(ys:List α),(∀x∈ys,x∈xs)->bU (cD n fr ρ) tg mYes fe (ys.map F)=.ok (ys.map G):=λys hy=>by
  induction ys with
  |nil=>rfl
  |cons y r ih=>
   obtain⟨ρ1,h1,h2⟩:=h y (hy y SQ);have ih:=ih λx hx=>hy x (SM _ hx);show bU (cD n fr ρ) tg mYes fe (F y::r.map F)=_;unfold bU;rw[h1,je,show mYes ρ1=.ok (.bl true) from rfl,je];dsimp only;rw[h2,je,ih];rfl
 unfold iO;rw[if_pos (show(xs.map F).length<=line by rw[SD];exact hl),key xs λ_ h=>h]
def BQ(W:gj w)(S:gT s)(C:gT c):K75.m_scaled [aN w,fr s,fr c]=.ok (aN (nM s c w)):=by
 have hl:K75.m_look_at_web [aN w]=.ok .non:=Nwb.webX W;have h1:=Az S;have h2:=Az C;have i0:aH (aN w) (.int 0)=.ok (.lst (w.ps.map D.str)):=rfl;have i1:aH (aN w) (.int 1)=.ok (.lst (w.ts.map aG)):=rfl;have i2:aH (aN w) (.int 2)=.ok (.str w.fi):=rfl;have i3:aH (aN w) (.int 3)=.ok (.str w.la):=rfl;have hc:iO 1 [1,2] (dz 0) mYes (ao (ae (ag 0) (ae (ag 1) (ae (ag 2) au))) eR) [.sh (aN w),.sh (fr s),.sh (fr c),.no] (w.ts.map aG)=.ok (.lst (w.ts.map λt=>aG (sT s c t))):=C3 (by have:=W.t14;omega) λt ht=>by
  have e:=LH (W.ts t ht) S C;refine⟨[.sh (aG t),.sh (fr s),.sh (fr c)],rfl,?_⟩;open_line with[e]
 have e:aN (nM s c w)=.tup [.lst (w.ps.map D.str),.lst (w.ts.map λt=>aG (sT s c t)),.str w.fi,.str w.la]:=by
  show D.tup [.lst (w.ps.map D.str),.lst ((w.ts.map (sT s c)).map aG),.str w.fi,.str w.la]=_;rw[Uy];rfl
 rw[e];open_line with[K75.m_scaled,K75.b_scaled,hl,h1,h2,i0,i1,i2,i3,hc]
end
def jH{w:l8}:bf 40 (aN w)=true:=by
 show(bf 39 (.lst (w.ps.map D.str))&&(bf 39 (.lst (w.ts.map aG))&&(bf 39 (.str w.fi)&&(bf 39 (.str w.la)&&true))))=true;have h1:bf 39 (.lst (w.ps.map D.str))=true:=nK (n:=38);have h2:bf 39 (.lst (w.ts.map aG))=true:=by
  show(w.ts.map aG).all (bf 38)=true;refine Tp.mpr λd hd=>?_;obtain⟨t,_,rfl⟩:=Tt.mp hd;cases ho:t.o<;>(show bf 38 (.tup [.str t.a,.str t.b,.str t.w,fr t.l,bG t.o])=true;rw[ho];rfl)
 rw[h1,h2];rfl
def vx{w:l8}:jC (aN w) (aN w)=.ok (.bl false):=by
 unfold jC;rw[if_pos ⟨jH,jH⟩,jS 40 _ jH];rfl
def Ny{w:l8}:fN (aN w) (aN w)=.ok (.bl true):=by
 unfold fN;rw[if_pos ⟨jH,jH⟩,jS 40 _ jH]
def IK{m:ac->ak D}{ds:ac}{d:D}(h:m ds=.ok d):noX m ds=.ok d:=by unfold noX;rw[h]
def AS{f:am}{ρ:Ev}:xY f ρ=(f ρ).bind λd=>.ok (fgt d):=aU rfl
def AA{x:kO}(X:zP x)(h0:0<=x.1):dk [fr x]=.ok (.bl (!(mC x))):=by
 have hm:xW (fr x)=.ok (.int (xw x.1 [x.2])):=rfl;have hn:jV (fr x) .non=.ok (.bl true):=rfl;have q1:=X.q1;have hg:NG (.int (xw x.1 [x.2])) (.int (dH:Int))=.ok (.bl (!(mC x))):=by
  show ak.ok (D.bl (decide (xw x.1 [x.2]≥(dH:Int))))=_
  congr 2
  rw[Vp,decide_eq_true_eq,W6];unfold mC;rw[Ww,decide_eq_false_iff_not,decide_eq_false_iff_not];unfold xw xw;split<;>omega
 open_line with[dk,lj,hn,hm,zr,hg]
def MC{o:Option kO}(h:∀x,o=some x->zP x/\0<x.1):dk [bG o]=.ok (.bl (!(FV o))):=by
 cases o with
 |none=>
  have hn:jV (bG none) .non=.ok (.bl false):=rfl;open_line with[dk,lj,hn]
  rfl
 |some v=>exact AA (h v rfl).1 (V2 (h v rfl).2)
noncomputable abbrev AL:bv :=
 (aw (eC (af (ag 8) (dC (.non)) jV)
 (aw (aY 8 (ao (ae (ag 8) (ae (ag 2) au)) df))
 av)
 av)
 (aw (cR 3 (ao (ae (ag 4) (ae (ag 5) (ae (ag 6) (ae (ao (ae (ag 7) (ae (ag 1) au)) df) (ae (ag 8) au))))) dE))
 av))
section
variable {w:l8}{s c:kO}
def MR{zs:ci}{t:kM}(T:kL zs t)(S:gT s)(C:gT c){A:D}{TS:ac}(hl:TS.length<=300){r:List Sl} :
  AL ([.sh A,.sh (fr s),.sh (fr c),.ow (.lst TS),.sh (.str t.a),.sh (.str t.b),.sh (.str t.w),.sh (fr t.l),.sh (bG t.o)]++r)=.ok (.nx ([.sh A,.sh (fr s),.sh (fr c),.ow (.lst (TS++[aG (sT s c t)])),.sh (.str t.a),.sh (.str t.b),.sh (.str t.w),.sh (fr t.l),.sh (bG (t.o.map λo=>kN o c))]++r)):=by
 have h1:=Fb T.l S.f;have hll:decide (TS.length<=999)=true:=decide_eq_true (by omega);have e:aG (sT s c t)=.tup [.str t.a,.str t.b,.str t.w,fr (kN t.l s),bG (t.o.map λo=>kN o c)]:=rfl;rw[e];cases ho:t.o with
 |none=>
  have hn:jV (bG none) .non=.ok (.bl false):=rfl;open_line with[AL,hn,h1,hll]
  rfl
 |some v=>
  have hn:jV (bG (some v)) .non=.ok (.bl true):=rfl;have h2:df [bG (some v),fr c]=.ok (fr (kN v c)):=Fb (T.o v ho).1 C.f;open_line with[AL,hn,h1,h2,hll]
  rfl
def l9(ts:List kM)(i:Nat):Bool:=match ts[i]? with
 |some t=>!(pF t)
 |none=>false
theorem Bk:∀{ts:List kM}{k:Nat},nk k ts=((TY ts.length).filter (l9 ts)).map (k + ·)
 |[],k=>rfl
 |t::r,k=>by
  have ih:=Bk (ts:=r) (k:=k+1);rw[S0,VO,List.filter_cons,List.filter_map];have hq:(l9 (t::r))∘Ya=l9 r:=rfl;have h0:l9 (t::r) 0=!(pF t):=rfl;rw[hq,h0];unfold nk;have hm:((List.map Ya (List.filter (l9 r) (TY r.length))).map (k + ·))=((List.filter (l9 r) (TY r.length)).map (k+1 + ·)):=by
   rw[Uy];refine Ye λx _=>?_;show k+(x+1)=k+1+x;omega
  cases pF t with|true=>rw[if_pos rfl,ih,←hm];rfl|false=>rw[if_neg (by decide),ih,←hm];rfl
def zm{w:l8}:fgt (.tup [.ob .pl (w.ps.map D.str),.ob .pl (w.ts.map aG),.str w.fi,.str w.la])=aN w:=by
 show D.tup [.lst (fgts (w.ps.map D.str)),.lst (fgts (w.ts.map aG)),.str w.fi,.str w.la]=_;rw[jR (ts:=w.ts.map aG) λt h=>by obtain⟨u,_,rfl⟩:=Tt.mp h;exact IG.fg,jR (ts:=w.ps.map D.str) λt h=>by obtain⟨z,_,rfl⟩:=Tt.mp h;rfl];rfl
def QI(v:Int):K75.fT [.int v]=.ok (.bl true):=rfl
def CB{w:l8}(W:jZ w){ρ:Ev}(h3:ρ[3]?=some (.sh (.lst (w.ts.map aG)))):iO 1 [3] (dz 0) (fE (ao (ae (af (af (ag 1) (ag 0) aH) (dC (.int 3)) aH) au) dk) (ao (ae (af (af (ag 1) (ag 0) aH) (dC (.int 4)) aH) au) dk)) (ag 0) ρ (DL.intsFrom 0 w.ts.length)=.ok (.lst (((TY w.ts.length).filter (l9 w.ts)).map λ(k:Nat)=>D.int (k:Int))):=by
 have h14:=W.t14;refine Wex.comp_rng (by omega) λk hk=>?_;have ht:w.ts[k]?=some w.ts[k]:=SS hk;have T:=W.ts _ (VW hk);have ix:aH (.lst (w.ts.map aG)) (.int (k:Int))=.ok (aG w.ts[k]):=jy (by rw[Ta,ht];rfl);have hq:l9 w.ts k=!(pF w.ts[k]):=by unfold l9;rw[ht]
 rw[hq];generalize w.ts[k]=t at *;have i3:aH (aG t) (.int 3)=.ok (fr t.l):=rfl;have i4:aH (aG t) (.int 4)=.ok (bG t.o):=rfl;have l3:=AA T.l T.l0;have l4:=MC T.o;have hb:cD 1 [3] ρ=[.no,.sh (.lst (w.ts.map aG))]:=by
  unfold cD;simp only[Tv,Vk,h3];rfl
 refine⟨[.sh (.int (k:Int)),.sh (.lst (w.ts.map aG))],by rw[hb];rfl,?_,λ_=>rfl⟩;unfold pF;cases h:mC t.l with
 |false=>
  rw[h]at l3;open_line with[ix,i3,i4,l3,TJ,S6]
 |true=>
  rw[h]at l3;open_line with[ix,i3,i4,l3,l4,Tx,Tj]
def FI(W:gj w)(S:gT s)(C:gT c):eT [aN w,fr s,fr c]=.ok (.bl true):=by
 have B:=LZ W S C;have h14:=W.t14;obtain⟨ρ',hf,x4,x5,x6,x7,x8,rfl⟩:=jc (tg:=ik [4,5,6,7,8]) (body:=AL) (ds:=w.ts.map aG) (ρ:=[.sh (aN w),.sh (fr s),.sh (fr c),.ow (.lst []),.no,.no,.no,.no,.no,.no,.no,.no,.no,.no,.no,.no])
  (λk ρ=>∃(x4 x5 x6 x7 x8:Sl),ρ=[.sh (aN w),.sh (fr s),.sh (fr c),.ow (.lst ((w.ts.take k).map λt=>aG (sT s c t))),x4,x5,x6,x7,x8,.no,.no,.no,.no,.no,.no,.no]) (by
   rintro k d hd ρ ⟨x4,x5,x6,x7,x8,rfl⟩;rw[Ta]at hd;cases hk:w.ts[k]? with
   |none=>rw[hk]at hd;cases hd
   |some t=>
    rw[hk]at hd;cases hd;obtain⟨hkl,hkt⟩:=SR.mp hk;have e:=MR (W.ts t (S7 hk)) S C (A:=aN w) (TS:=(w.ts.take k).map λt=>aG (sT s c t)) (by rw[SD,UD];omega) (r:=[.no,.no,.no,.no,.no,.no,.no]);have hq:(w.ts.take (k+1)).map (λt=>aG (sT s c t))=((w.ts.take k).map λt=>aG (sT s c t))++[aG (sT s c t)]:=by
     rw[W0 hkl,hkt,T3];rfl
    rw[←hq]at e;exact⟨_,_,rfl,e,_,_,_,_,_,rfl⟩) ⟨.no,.no,.no,.no,.no,rfl⟩
 rw[SD,VT]at hf;have e:aN (nM s c w)=.tup [.lst (w.ps.map D.str),.lst (w.ts.map λt=>aG (sT s c t)),.str w.fi,.str w.la]:=by
  show D.tup [.lst (w.ps.map D.str),.lst ((w.ts.map (sT s c)).map aG),.str w.fi,.str w.la]=_;rw[Uy];rfl
 have et:(nM s c w).ts.map aG=w.ts.map λt=>aG (sT s c t):=by
  show(w.ts.map (sT s c)).map aG=_;rw[Uy];rfl
 have el:(nM s c w).ts.length=w.ts.length:=SD ..;have ep:(nM s c w).ps=w.ps:=rfl;have hll:=λ(ρ:Ev) h=>CB B (ρ:=ρ) h;have hsc:noX K75.m_scaled [aN w,fr s,fr c]=.ok (aN (nM s c w)):=IK (BQ W S C);have hli:K75.cz [aN (nM s c w)]=.ok (.lst ((bJ (nM s c w)).map D.str)):=Fe B;have hj:=mU (z:="\n") (ys:=bJ (nM s c w)) rfl (SW (kQ B) (by decide));have hsh:noX K75.m_shown_web [aN (nM s c w)]=.ok (.str (TV "\n" (bJ (nM s c w)))):=IK (D8 B);have hrd:K75.m_read_web [.str (TV "\n" (bJ (nM s c w)))]=_:=KW B;have hn:=vx (w:=nM s c w);have hq:=Ny (w:=nM s c w);have hfg:=zm (w:=nM s c w);have hbl:=Bk (ts:=(nM s c w).ts) (k:=(nM s c w).ps.length);rw[et,el]at hll;rw[el]at hbl;generalize (TY w.ts.length).filter (l9 (nM s c w).ts)=LL at hll hbl;generalize hJ:TV "\n" (bJ (nM s c w))=J at hj hsh hrd;generalize (bJ (nM s c w)).map D.str=RR at hli hj;rw[hbl]at hrd;generalize hX:(D.tup [.ob .pl ((nM s c w).ps.map D.str),.ob .pl ((nM s c w).ts.map aG),.str (nM s c w).fi,.str (nM s c w).la])=X at hfg hrd;generalize hV:aN (nM s c w)=V at *;have hne:=qm (a:=J) (b:=J);rw[decide_eq_true rfl]at hne;have i0:aH (aN w) (.int 0)=.ok (.lst (w.ps.map D.str)):=rfl;have i1:aH (aN w) (.int 1)=.ok (.lst (w.ts.map aG)):=rfl;have i2:aH (aN w) (.int 2)=.ok (.str w.fi):=rfl;have i3:aH (aN w) (.int 3)=.ok (.str w.la):=rfl;have hr1:Wex.srcR1K (.int (w.ts.length:Int))=.ok (DL.intsFrom 0 w.ts.length):=Wex.srcR1_nat (by omega);have hTL:(w.ts.map λt=>aG (sT s c t)).length=w.ts.length:=SD ..;generalize (w.ts.map λt=>aG (sT s c t))=TL at *;cases LL with
 |nil=>
  rw[Vk]at hrd;have hrd:K75.m_read_web [.str J]=.ok X:=hrd;have hem:fN (.lst []) (.lst [])=.ok (.bl true):=rfl;have hll:∀ρ:Ev,ρ[3]?=some (.sh (.lst TL))->_:=hll;have e:=e.symm;open_line with[eT,kD,i0,i1,i2,i3,hf,e,hsc,hli,il,fX,hj,hn,hsh,hne,Wex.ev_srcR1,hTL,hr1,hll,zo,jd,gP,hrd,Jv,hem,AS,hfg,hq]
 |cons j r=>
  rw[Tv]at hrd;have hrd:K75.m_read_web [.str J]=.exn (NR (w.ps.length+j)):=hrd;have hem:fN (.lst ((j::r).map λ(k:Nat)=>D.int (k:Int))) (.lst [])=.ok (.bl false):=Gj (xs:=(j::r).map λ(k:Nat)=>D.int (k:Int)) λx hx=>by obtain⟨v,_,rfl⟩:=Tt.mp hx;rfl
  have ix:aH (.lst ((j::r).map λ(k:Nat)=>D.int (k:Int))) (.int 0)=.ok (.int (j:Int)):=jy (k:=0) rfl;generalize ((j::r).map λ(k:Nat)=>D.int (k:Int))=Z at hll hem ix;have hll:∀ρ:Ev,ρ[3]?=some (.sh (.lst TL))->_:=hll;have e:=e.symm;have t3:K75.ft_row "NoText"=some true:=rfl;have ht:∀(ni:Nat) (sh:bv) (ρ:Ev),DM (gN K75.gK) ni sh ρ (.exn (NR (w.ps.length+j)))=(sh (ρ.set ni (.sh (nX (NR (w.ps.length+j)))))).bind (Co ni):=λ_ _ _=>AW (x:=NR (w.ps.length+j)) (show gN K75.gK "NoText"=true from rfl);have he:nX (NR (w.ps.length+j))=.ob (.exf "NoText" ["row"]) [.int ((w.ps.length+j:Nat):Int)]:=PJ;have hff:rV K75.ft_row "row" (.ob (.exf "NoText" ["row"]) [.int ((w.ps.length+j:Nat):Int)])=.ok (.int ((w.ps.length+j:Nat):Int)):=Gb t3;have hj2:fN (.int ((w.ps.length+j:Nat):Int)) (.int ((w.ps.length:Int)+(j:Int)))=.ok (.bl true):=by rw[Gh,decide_eq_true (by omega)]
  have had:aZ (.int (w.ps.length:Int)) (.int (j:Int))=.ok (.int ((w.ps.length:Int)+(j:Int))):=rfl;have hw:=QI ((w.ps.length+j:Nat):Int);generalize ((w.ps.length+j:Nat):Int)=R at *;open_line with[eT,kD,i0,i1,i2,i3,hf,e,hsc,hli,il,fX,hj,hn,hsh,hne,Wex.ev_srcR1,hTL,hr1,hll,zo,jd,gP,hrd,bZ,ht,he,hff,F8,hem,hw,ix,SD,had,hj2]
end
end K75
namespace Nwb
open PySem L2 DL Com
def sl0{a b c d e:D}:jF (.tup [a,b,c,d,e]) none (some 0)=.ok (.tup []):=(ia (by rfl)).trans rfl
def sl1{a b c d e:D}:jF (.tup [a,b,c,d,e]) none (some 1)=.ok (.tup [a]):=(ia (by rfl)).trans rfl
def sl2{a b c d e:D}:jF (.tup [a,b,c,d,e]) none (some 2)=.ok (.tup [a,b]):=(ia (by rfl)).trans rfl
def sl3{a b c d e:D}:jF (.tup [a,b,c,d,e]) none (some 3)=.ok (.tup [a,b,c]):=(ia (by rfl)).trans rfl
def sl4{a b c d e:D}:jF (.tup [a,b,c,d,e]) none (some 4)=.ok (.tup [a,b,c,d]):=(ia (by rfl)).trans rfl
def sh1{a b c d e:D}:jF (.tup [a,b,c,d,e]) (some 1) none=.ok (.tup [b,c,d,e]):=(ia (by rfl)).trans rfl
def sh2{a b c d e:D}:jF (.tup [a,b,c,d,e]) (some 2) none=.ok (.tup [c,d,e]):=(ia (by rfl)).trans rfl
def sh3{a b c d e:D}:jF (.tup [a,b,c,d,e]) (some 3) none=.ok (.tup [d,e]):=(ia (by rfl)).trans rfl
def sh4{a b c d e:D}:jF (.tup [a,b,c,d,e]) (some 4) none=.ok (.tup [e]):=(ia (by rfl)).trans rfl
def sh5{a b c d e:D}:jF (.tup [a,b,c,d,e]) (some 5) none=.ok (.tup []):=(ia (by rfl)).trans rfl
def at0{es:ac}:gQ (.tup []) (.tup es)=.ok (.tup es):=rfl
def at1{d:D}{ds es:ac}(h:decide ((d::ds).length+es.length<=1000)=true):gQ (.tup (d::ds)) (.tup es)=.ok (.tup (d::ds++es)):=if_pos ⟨rfl,SW (of_decide_eq_true h) (by decide)⟩
end Nwb
namespace K75
open PySem L2 DL Com Tex K74 K76 K77
def Qx(d:D):Prop:=∃p n,Nwb.m_look_at_web [d]=.exn (Nwb.exW p n)
def yJ{d:D}(h:Qx d):dI [d]=.ok (.bl true):=by
 obtain⟨p,n,h⟩:=h;have hl:K75.m_look_at_web [d]=.exn (Nwb.exW p n):=h;have hs:K75.m_shown_web [d]=.exn (Nwb.exW p n):=by
  have e1:(K77.m_look_at_web [d])=.exn (Nwb.exW p n):=h;open_line with[K75.m_shown_web,K77.m_shown_web,K77.b_shown_web,e1,bZ]
 have t1:K75.tab_1 "NoWeb"=some true:=rfl;have ht:∀(ni:Nat) (sh:bv) (ρ:Ev),DM (gN K75.kj) ni sh ρ (.exn (Nwb.exW p n))=(sh (ρ.set ni (.sh (nX (Nwb.exW p n))))).bind (Co ni):=λ_ _ _=>AW (x:=Nwb.exW p n) (show gN K75.kj "NoWeb"=true from rfl);have he:nX (Nwb.exW p n)=.ob (.exf "NoWeb" ["part","number"]) [.str p,n]:=PH (by decide);have hd:nN (ae (ag 0) au) K75.m_shown_web [.sh d,.sh (.bl false),.no]=.exn (Nwb.exW p n):=by
  have ha:ae (ag 0) au [.sh d,.sh (.bl false),.no]=.ok [d]:=rfl;unfold nN;rw[ha];show(K75.m_shown_web [d]).bind _=_;rw[hs];rfl
 open_line with[dI,lg,zo,hd,ht,he,J2 t1,F8]
section
variable {w:l8}
abbrev PD(w:l8):D:=.lst (w.ps.map D.str)
abbrev TD(w:l8):D:=.lst (w.ts.map aG)
def Ml(W:gj w):Nwb.m_look_at_places [PD w]=.ok .non:=Nwb.placesX W.n2 W.n7 W.nm
def QM(W:gj w):Nwb.m_look_at_ties [TD w,PD w]=.ok .non:=Nwb.tiesX W.t14 W.nm W.ts
def Bj(W:gj w){X F L:D}(hX:Com.m_is_tie [X]=.ok (.bl false)):Qx (.tup [PD w,.lst (w.ts.map aG++[X]),F,L]):=by
 by_cases h:w.ts.length+1<=14
 .rcases Nwb.ties_all (ds:=w.ts.map aG++[X]) (zs:=w.ps) W.nm (by rw[Tc,SD];exact h) (λd hd=>by
   rcases TX.mp hd with hd|hd
   .obtain⟨t,ht,rfl⟩:=Tt.mp hd
    exact .inl ⟨t,rfl,W.ts t ht⟩
   .rw[TC.mp hd];exact .inr (.inl hX)) with h1|⟨k,_,h2⟩
  .obtain⟨t,e,T⟩:=h1 X (by simp)
   rw[e,qz W.nm T]at hX;cases hX
  .exact⟨_,_,Nwb.web_ties (Ml W) h2⟩
 .exact⟨_,_,Nwb.web_ties (Ml W) (Nwb.ties_size (by rw[Tc,SD,U2];omega))⟩
def CT(W:gj w){p0:SH}(h:p0∈w.ps){T F L:D}:Qx (.tup [.lst (w.ps.map D.str++[.str p0]),T,F,L]):=by
 have e:w.ps.map D.str++[.str p0]=(w.ps++[p0]).map D.str:=by rw[T3];rfl
 rw[e]
 by_cases h7:w.ps.length+1<=7
 .rcases Nwb.places_all (ds:=(w.ps++[p0]).map D.str) (λd hd=>by
   obtain⟨z,hz,rfl⟩:=Tt.mp hd;have:cU z=true:=by
    rcases TX.mp hz with hz|hz
    .exact W.nm.nm z hz
    .rw[TC.mp hz];exact W.nm.nm _ h
   exact decide_eq_true (SW (cQ this) (by decide))) (by rw[SD,Tc];have:=W.n2;omega) (by rw[SD,Tc,U2];omega) with⟨zs,e2,nm⟩|⟨k,_,h2⟩
  .have:zs=w.ps++[p0]:=(K77.S_inj (ps:=zs) (ps':=w.ps++[p0]) (ts:=[]) (ts':=[]) (es:=[]) (es':=[]) (by show S3.mk (zs.map D.str) [] []=S3.mk ((w.ps++[p0]).map D.str) [] [];rw[e2])).1
   have nd:=nm.nd;rw[this,W2]at nd;exact absurd rfl (nd.2.2 p0 h p0 (by simp))
  .exact⟨_,_,Nwb.web_places h2⟩
 .exact⟨_,_,Nwb.web_places (Nwb.places_size (.inr (by rw[SD,Tc,U2];omega)))⟩
def t8{a b k l o:D}(fa:AR a=true)(fb:AR b=true)(h:mf a=false∨cS a b=true∨K68.wordD k=false∨K68.lenD l=false∨K68.worthD o=false):Com.m_is_tie [.tup [a,b,k,l,o]]=.ok (.bl false):=by
 rw[K68.tie_tail fa fb];unfold K68.tie5;rcases h with h|h|h|h|h<;>rw[h]<;>simp
def Jq{a b c d:D}:Com.m_is_tie [.tup [a,b,c,d]]=.ok (.bl false):=rfl
abbrev vj(p0 p1:SH):ac:=[.str p0,.str p1,.str "one",.tup [.int 1,.int 1],.non]
abbrev Rj(p0:SH):ac:=[.tup [.int 0,.str "A"],.tup [.int 1,.str p0],.tup [.int 2,.str "on"],.tup [.int 3,.tup [.int (-1),.int 1]],.tup [.int 3,.tup [.int 2,.int 2]],.tup [.int 4,.tup [.int 0,.int 1]]]
noncomputable abbrev oQ:bv :=
 (aw (cR 6 (ao (ae (ag 1) (ae (af (ag 2) (ao (ae (af (af (iW (ag 5) gI (dD (ag 7))) (ao (ae (ag 8) au) dE) gQ) (iW (ag 5) (dD (af (ag 7) (dC (.int 1)) aZ)) gI) gQ) au) cY) aZ) (ae (ag 3) (ae (ag 4) au)))) dE))
 av)
noncomputable def GU(p0 p1:SH) (k:Nat) (x:D) (ys:ac):Prop:=k=0/\ys=[x,.str p1,.str "one",.tup [.int 1,.int 1],.non]∨k=1/\ys=[.str p0,x,.str "one",.tup [.int 1,.int 1],.non]∨k=2/\ys=[.str p0,.str p1,x,.tup [.int 1,.int 1],.non]∨k=3/\ys=[.str p0,.str p1,.str "one",x,.non]∨k=4/\ys=[.str p0,.str p1,.str "one",.tup [.int 1,.int 1],x]
def MA{A F L:D}{P T:ac}{p0 p1:SH}{k:Nat}{x:D}{ys:ac}{LS:ac}(hl:LS.length<=300)(hT:T.length<=14)(h:GU p0 p1 k x ys) :
  oQ [.sh A,.sh (.lst P),.sh (.lst T),.sh F,.sh L,.sh (.tup (vj p0 p1)),.ow (.lst LS),.sh (.int (k:Int)),.sh x]=.ok (.nx [.sh A,.sh (.lst P),.sh (.lst T),.sh F,.sh L,.sh (.tup (vj p0 p1)),.ow (.lst (LS++[.tup [.lst P,.lst (T++[.tup ys]),F,L]])),.sh (.int (k:Int)),.sh x]):=by
 have hll:decide (LS.length<=999)=true:=decide_eq_true (by omega);have aL:∀X:D,aZ (.lst T) (.lst [X])=.ok (.lst (T++[X])):=λX=>m5 (decide_eq_true (by simp;omega));rcases h with⟨rfl,e⟩|⟨rfl,e⟩|⟨rfl,e⟩|⟨rfl,e⟩|⟨rfl,e⟩<;>rw[e]
 .have d2:gQ (.tup [x]) (.tup [.str p1,.str "one",.tup [.int 1,.int 1],.non])=.ok (.tup [x,.str p1,.str "one",.tup [.int 1,.int 1],.non]):=Nwb.at1 rfl
  open_line with[oQ,Nwb.sl0,Nwb.sh1,Nwb.at0,d2,aL,hll,Int.zero_add,Int.ofNat_zero]
 .have d1:gQ (.tup [.str p0]) (.tup [x])=.ok (.tup [.str p0,x]):=Nwb.at1 rfl
  have d2:gQ (.tup [.str p0,x]) (.tup [.str "one",.tup [.int 1,.int 1],.non])=.ok (.tup [.str p0,x,.str "one",.tup [.int 1,.int 1],.non]):=Nwb.at1 rfl;open_line with[oQ,Nwb.sl1,Nwb.sh2,d1,d2,aL,hll]
 .have d1:gQ (.tup [.str p0,.str p1]) (.tup [x])=.ok (.tup [.str p0,.str p1,x]):=Nwb.at1 rfl
  have d2:gQ (.tup [.str p0,.str p1,x]) (.tup [.tup [.int 1,.int 1],.non])=.ok (.tup [.str p0,.str p1,x,.tup [.int 1,.int 1],.non]):=Nwb.at1 rfl;open_line with[oQ,Nwb.sl2,Nwb.sh3,d1,d2,aL,hll]
 .have d1:gQ (.tup [.str p0,.str p1,.str "one"]) (.tup [x])=.ok (.tup [.str p0,.str p1,.str "one",x]):=Nwb.at1 rfl
  have d2:gQ (.tup [.str p0,.str p1,.str "one",x]) (.tup [.non])=.ok (.tup [.str p0,.str p1,.str "one",x,.non]):=Nwb.at1 rfl;open_line with[oQ,Nwb.sl3,Nwb.sh4,d1,d2,aL,hll]
 .have d1:gQ (.tup [.str p0,.str p1,.str "one",.tup [.int 1,.int 1]]) (.tup [x])=.ok (.tup [.str p0,.str p1,.str "one",.tup [.int 1,.int 1],x]):=Nwb.at1 rfl
  have d2:gQ (.tup [.str p0,.str p1,.str "one",.tup [.int 1,.int 1],x]) (.tup [])=.ok (.tup [.str p0,.str p1,.str "one",.tup [.int 1,.int 1],x]):=Nwb.at1 rfl;open_line with[oQ,Nwb.sl4,Nwb.sh5,d1,d2,aL,hll]
def CL{tg:Ev->D->ak Ev}{b:bv}{d:D}{ds:ac}{ρ ρ1 ρ2:Ev}(h:tg ρ d=.ok ρ1)(h2:b ρ1=.ok (.nx ρ2)):cN tg b (d::ds) ρ=cN tg b ds ρ2:=by
 show(tg ρ d).bind _=_;rw[h];show(b ρ1).bind _=_;rw[h2];rfl
theorem E4{A F L:D}{P T:ac}{p0 p1:SH}(hT:T.length<=14):∀(its:List (Nat×D×ac)),(∀i∈its,GU p0 p1 i.1 i.2.1 i.2.2)->∀(LS:ac) (z7 z8:Sl),LS.length+its.length<=300->∃y7 y8,
  cN (ik [7,8]) oQ (its.map λi=>.tup [.int (i.1:Int),i.2.1]) [.sh A,.sh (.lst P),.sh (.lst T),.sh F,.sh L,.sh (.tup (vj p0 p1)),.ow (.lst LS),z7,z8]=.ok (.nx [.sh A,.sh (.lst P),.sh (.lst T),.sh F,.sh L,.sh (.tup (vj p0 p1)),.ow (.lst (LS++its.map λi=>.tup [.lst P,.lst (T++[.tup i.2.2]),F,L])),y7,y8])
 |[],_,LS,z7,z8,_=>⟨z7,z8,by rw[Vk,Vk,Ut];rfl⟩
 |i::its,h,LS,z7,z8,hl=>by
  rw[S0]at hl;obtain⟨y7,y8,e⟩:=E4 hT its (λx hx=>h x (SM _ hx)) (LS++[.tup [.lst P,.lst (T++[.tup i.2.2]),F,L]]) (.sh (.int (i.1:Int))) (.sh i.2.1) (by rw[Tc];simp;omega);refine⟨y7,y8,?_⟩;rw[Tv,Tv,CL (ρ1:=[.sh A,.sh (.lst P),.sh (.lst T),.sh F,.sh L,.sh (.tup (vj p0 p1)),.ow (.lst LS),.sh (.int (i.1:Int)),.sh i.2.1]) rfl (MA (by omega) hT (h i SQ)),e,Uk];rfl
end
def Nr{ds es:ac}(h:decide (ds.length+es.length<=1000)=true):vY (.lst ds) (.lst es)=.ok (.lst (ds++es)):=if_pos (SW (of_decide_eq_true h) (by decide))
noncomputable abbrev IP(p0 p1:SH):List (Nat×D×ac):=[(0,.str "A",[.str "A",.str p1,.str "one",.tup [.int 1,.int 1],.non]),(1,.str p0,[.str p0,.str p0,.str "one",.tup [.int 1,.int 1],.non]),(2,.str "on",[.str p0,.str p1,.str "on",.tup [.int 1,.int 1],.non]),(3,.tup [.int (-1),.int 1],[.str p0,.str p1,.str "one",.tup [.int (-1),.int 1],.non]),(3,.tup [.int 2,.int 2],[.str p0,.str p1,.str "one",.tup [.int 2,.int 2],.non]),(4,.tup [.int 0,.int 1],[.str p0,.str p1,.str "one",.tup [.int 1,.int 1],.tup [.int 0,.int 1]])]
def nA:mf (.str "A")=false:=by decide +kernel
def Ax{p0 p1:SH}(f0:AR (.str p0)=true)(f1:AR (.str p1)=true):∀i∈IP p0 p1,GU p0 p1 i.1 i.2.1 i.2.2/\Com.m_is_tie [.tup i.2.2]=.ok (.bl false):=λi hi=>by
 simp only[SV,Ui,or_false]at hi;rcases hi with rfl|rfl|rfl|rfl|rfl|rfl
 .exact⟨.inl ⟨rfl,rfl⟩,t8 (by decide) f1 (.inl nA)⟩
 .exact⟨.inr (.inl ⟨rfl,rfl⟩),t8 f0 f0 (.inr (.inl (by rw[cS];exact beq_self_eq_true p0)))⟩
 .exact⟨.inr (.inr (.inl ⟨rfl,rfl⟩)),t8 f0 f1 (.inr (.inr (.inl (by decide))))⟩
 .exact⟨.inr (.inr (.inr (.inl ⟨rfl,rfl⟩))),t8 f0 f1 (.inr (.inr (.inr (.inl (by decide)))))⟩
 .exact⟨.inr (.inr (.inr (.inl ⟨rfl,rfl⟩))),t8 f0 f1 (.inr (.inr (.inr (.inl (by decide)))))⟩
 .exact⟨.inr (.inr (.inr (.inr ⟨rfl,rfl⟩))),t8 f0 f1 (.inr (.inr (.inr (.inr (by decide)))))⟩
def IJ{w:l8}(W:gj w):∃XS:ac,eH [aN w]=.ok (.lst XS)/\XS.length<=1000/\∀d∈XS,Qx d:=by
 have two:∃p0 p1 r,w.ps=p0::p1::r:=by
  have:=W.n2
  match h:w.ps with
  |[]=>rw[h]at this;simp at this
  |[_]=>rw[h]at this;simp at this
  |p0::p1::r=>exact⟨p0,p1,r,rfl⟩
 obtain⟨p0,p1,r,hp⟩:=two;have h0:p0∈w.ps:=by rw[hp];simp
 have h1:p1∈w.ps:=by rw[hp];simp
 have n0:=W.nm.nm _ h0;have n1:=W.nm.nm _ h1;have f0:AR (.str p0)=true:=decide_eq_true (SW (cQ n0) (by decide));have f1:AR (.str p1)=true:=decide_eq_true (SW (cQ n1) (by decide));have ny:=W.nm.nm _ W.fi;have nl:=W.nm.nm _ W.la;have h7:=W.n7;have h14:=W.t14;have i0:aH (PD w) (.int 0)=.ok (.str p0):=jy (k:=0) (by rw[hp];rfl);have i1:aH (PD w) (.int 1)=.ok (.str p1):=jy (k:=1) (by rw[hp];rfl);have c1:mG (w.ps.map D.str) none (some 1)=[.str p0]:=by
  have:=zC (F:=D.str) (xs:=w.ps) (k:=1) (by have:=W.n2;omega);rw[hp]at this ⊢;exact this
 have aP:aZ (PD w) (.lst [.str p0])=.ok (.lst (w.ps.map D.str++[.str p0])):=m5 (decide_eq_true (by rw[SD,U2];omega));have aT:∀X:D,aZ (TD w) (.lst [X])=.ok (.lst (w.ts.map aG++[X])):=λX=>m5 (decide_eq_true (by rw[SD,U2];omega));have aR:∀X:D,aZ (TD w) (.lst (S4 15 X))=.ok (.lst (w.ts.map aG++S4 15 X)):=λX=>m5 (decide_eq_true (by rw[SD,Ug];omega));have rp:∀X:D,tM (.lst [X]) (.int 15)=.ok (.lst (S4 15 X)):=λX=>AZ (by decide);have w3:jF (aN w) none (some 3)=.ok (.tup [PD w,TD w,.str w.fi]):=(ia (by rfl)).trans rfl;have o4:jF (.tup (vj p0 p1)) none (some 4)=.ok (.tup [.str p0,.str p1,.str "one",.tup [.int 1,.int 1]]):=Nwb.sl4;have wl:mn (aN w)=.ok (.lst [PD w,TD w,.str w.fi,.str w.la]):=rfl;have tp:rS (PD w)=.ok (.tup (w.ps.map D.str)):=rfl;have tt:rS (TD w)=.ok (.tup (w.ts.map aG)):=rfl;have ng:Gy (.int 1)=.ok (.int (-1)):=rfl;have un:HC [1,2,3,4] [.sh (aN w),.no,.no,.no,.no,.no,.no,.no,.no] (aN w)=.ok (.nx [.sh (aN w),.sh (PD w),.sh (TD w),.sh (.str w.fi),.sh (.str w.la),.no,.no,.no,.no]):=rfl;obtain⟨R,hR⟩:∃R:ac,R=S4 15 (.tup (vj p0 p1)):=⟨_,rfl⟩
 have lR:R.length=15:=by rw[hR,Ug]
 obtain⟨B,hB⟩:∃B:ac,B=[.non,.lst [PD w,TD w,.str w.fi,.str w.la],.tup [PD w,TD w,.str w.fi],.tup [PD w,TD w,.str w.fi,.str w.fi],.tup [PD w,TD w,.str w.la,.str w.la],.tup [.lst (w.ps.map D.str++[.str p0]),TD w,.str w.fi,.str w.la],.tup [.tup (w.ps.map D.str),TD w,.str w.fi,.str w.la],.tup [PD w,.lst (w.ts.map aG++[.tup [.str p0,.str p1,.str "one",.tup [.int 1,.int 1]]]),.str w.fi,.str w.la],.tup [PD w,.tup (w.ts.map aG),.str w.fi,.str w.la],.tup [PD w,.lst (w.ts.map aG++R),.str w.fi,.str w.la],.tup [PD w,TD w,.str "",.str w.la]]:=⟨_,rfl⟩
 have lB:B.length=11:=by rw[hB];rfl
 obtain⟨y7,y8,hf⟩:=E4 (A:=aN w) (F:=.str w.fi) (L:=.str w.la) (P:=w.ps.map D.str) (T:=w.ts.map aG) (p0:=p0) (p1:=p1) (by rw[SD];exact h14) (IP p0 p1) (λi hi=>(Ax f0 f1 i hi).1) B .no .no (by rw[lB];show 11+6<=300;decide);have hf:cN (ik [7,8]) oQ (Rj p0) [.sh (aN w),.sh (PD w),.sh (TD w),.sh (.str w.fi),.sh (.str w.la),.sh (.tup (vj p0 p1)),.ow (.lst B),.no,.no]=_:=hf;have bB:∀d∈B,Qx d:=λd hd=>by
  have hp:=Ml W;have ht:=QM W;rw[hB]at hd;simp only[SV,Ui,or_false]at hd;rcases hd with rfl|rfl|rfl|rfl|rfl|rfl|rfl|rfl|rfl|rfl|rfl
  .exact⟨_,_,Nwb.web_kind rfl⟩
  .exact⟨_,_,Nwb.web_kind rfl⟩
  .exact⟨_,_,Nwb.web_size (by show ¬3=4;decide)⟩
  .exact⟨_,_,Nwb.web_same hp ht (gp ny W.fi)⟩
  .exact⟨_,_,Nwb.web_same hp ht (gp nl W.la)⟩
  .exact CT W h0
  .exact⟨_,_,Nwb.web_places (Nwb.places_kind rfl)⟩
  .exact Bj W Jq
  .exact⟨_,_,Nwb.web_ties hp (Nwb.ties_kind rfl)⟩
  .exact⟨_,_,Nwb.web_ties hp (Nwb.ties_size (by rw[Tc,lR];omega))⟩
  .exact⟨_,_,Nwb.web_first hp ht (Nwb.place_no (by rw[bN (by decide)];rfl))⟩
 refine⟨B++(IP p0 p1).map λi=>.tup [PD w,.lst (w.ts.map aG++[.tup i.2.2]),.str w.fi,.str w.la],?_,by rw[Tc,SD,lB];show 11+6<=1000;decide,λd hd=>?_⟩
 .generalize hX:(B++(IP p0 p1).map λi=>D.tup [PD w,.lst (w.ts.map aG++[.tup i.2.2]),.str w.fi,.str w.la])=XS at hf
  rw[hB]at hf;have rp:tM (.lst [.tup (vj p0 p1)]) (.int 15)=.ok (.lst R):=by rw[hR];exact rp _
  have aR:aZ (TD w) (.lst R)=.ok (.lst (w.ts.map aG++R)):=by rw[hR];exact aR _
  open_line with[eH,lh,un,i0,i1,wl,w3,Nr,c1,aP,tp,o4,aT,tt,F7,rp,aR,ng,hf]
 .rcases TX.mp hd with hd|hd
  .exact bB d hd
  .obtain⟨i,hi,rfl⟩:=Tt.mp hd
   exact Bj W (Ax f0 f1 i hi).2
def Pl(x:Sl):Prop:=x=.no∨∃d,x=.sh d
def Pl.noO{xs:List Sl}(h:∀x∈xs,Pl x):noO xs=true:=Tp.mpr λx hx=>by
 rcases h x hx with rfl|⟨d,rfl⟩<;>rfl
abbrev qv(w:l8):D:=.tup [.ob .pl (w.ps.map D.str),.ob .pl (w.ts.map aG),.str w.fi,.str w.la]
def Ri{u:l8}(U:gj u):Mx (qv u)=true:=by
 show decide ((u.ts.map aG).length<line)=true;have:=U.t14;exact decide_eq_true (by rw[SD];exact T2 this (by decide))
def CS{x:Nat}{js:cr}{f:am}{g:List (Nat×D)->bv}{T:List (Nat×D)}{ρ:Ev}{d:D}(h:f (mT js ρ)=.ok d)(hc:Pc js ρ=true/\Mx d=true/\x<ρ.length/\(T.all λp=>p.1 != x)=true):nG x js f g T ρ=g (T++[(x,d)]) (ρ.set x .no):=by
 unfold nG;rw[h];exact if_pos hc
def F3{f:am}{s:bv}{g:List (Nat×D)->bv}{T:List (Nat×D)}{ρ:Ev}(h:f (Lz T ρ)=.ok (.bl false)):BD f s g T ρ=g T ρ:=by
 unfold BD;rw[h];rfl
def F0{f:am}{g:List (Nat×D)->bv}{T:List (Nat×D)}{ρ:Ev}{i:Nat}{d:D}(h:f ρ=.ok d)(hT:(T.all λp=>p.1 != i)=true):tY i f g T ρ=g T (ρ.set i (.sh d)):=by
 unfold tY;rw[h];exact if_pos hT
def F1{x:Nat}{g:D->bv}{d:D}{ρ:Ev}:tZ x g [(x,d)] ρ=g d ρ:=if_pos rfl
def Jw{r:bv}{d:D}{ρ:Ev}(h:noO ρ=true):lD r d ρ=r ρ:=if_pos h
def Jn{w:l8}(W:gj w):nk w.ps.length w.ts=[]:=by
 have key:∀(ts:List kM) (k:Nat),(∀t∈ts,kL w.ps t)->nk k ts=[]:=λts=>by
  induction ts with
  |nil=>exact λ_ _=>rfl
  |cons t r ih=>
   intro k h;have T:=h t SQ;have f1:mC t.l=true:=by unfold mC;rw[decide_eq_true T.l.pN,decide_eq_true T.l.qN];rfl
   have f2:FV t.o=true:=by
    cases ho:t.o with
    |none=>rfl
    |some v=>
     have V:=(T.o v ho).1;show mC v=true;unfold mC;rw[decide_eq_true V.pN,decide_eq_true V.qN];rfl
   unfold nk;rw[if_pos (by unfold pF;rw[f1,f2];rfl)];exact ih _ λx hx=>h x (SM _ hx)
 exact key _ _ W.ts
def ue{w:l8}(W:gj w):noX K75.m_read_web [.str (TV "\n" (bJ w))]=.ok (qv w):=by
 refine IK ?_;have:=KW (jZ.of W);rw[Jn W]at this;exact this
def Fj{w:l8}(W:gj w):eS [aN w]=.ok (.bl true):=by
 have i0:aH (aN w) (.int 0)=.ok (.lst (w.ps.map D.str)):=rfl;have i1:aH (aN w) (.int 1)=.ok (.lst (w.ts.map aG)):=rfl;have t0:dW "tuple" (aN w)=.ok (.bl true):=rfl;have l0:cC (aN w)=.ok (.int 4):=rfl;obtain⟨ρ',hf,x1,rfl⟩:=jc (tg:=dz 1) (ds:=w.ts.map aG) (ρ:=[.sh (aN w),.no]) (body:=(aw (eC (fE (bV (aS (ag 1) (dW "tuple"))) (bV (aS (af (ag 1) (dC (.int 3)) aH) (dW "tuple")))) (aw (bI (dC (.bl false))) av) av) av))
  (λk ρ=>∃x1,ρ=[.sh (aN w),x1]) (by
   rintro k d hd ρ ⟨x1,rfl⟩;have hd:=S7 hd;obtain⟨t,_,rfl⟩:=Tt.mp hd;have i3:aH (aG t) (.int 3)=.ok (fr t.l):=rfl;have k1:dW "tuple" (aG t)=.ok (.bl true):=rfl;have k2:dW "tuple" (fr t.l)=.ok (.bl true):=rfl;refine⟨[.sh (aN w),.sh (aG t)],[.sh (aN w),.sh (aG t)],rfl,?_,_,rfl⟩;open_line with[i3,k1,k2,Tx]) ⟨_,rfl⟩
 open_line with[eS,nv,i0,i1,t0,l0,Tx,hf]
noncomputable abbrev RS:bv :=
 (aw (eC (fE (af (xY (ag 7)) (ag 3) jC) (af (xY (ao (ae (ag 5) au) (noX m_read_web))) (ag 3) jC))
 (aw (bI (dC (.bl false)))
 av)
 av)
 (aw (aY 8 (ao (ae (ao (ae (ag 0) (ae (af (ag 1) (dC (.int 14)) aZ) au)) bz) (ae (ao (ae (dC (.int 2)) (ae (af (af (dC (.int 10)) (dC (.int 60)) k7) (dC (.int 1)) pH) (ae (af (af (dC (.int 10)) (dC (.int 60)) k7) (dC (.int 1)) pH) au))) cY) au)) bF))
 (aw (aY 9 (ao (ae (af (dC (.int 1)) (af (ag 8) (dC (.int 1)) aH) aZ) (ae (af (dC (.int 1)) (af (ag 8) (dC (.int 2)) aH) aZ) au)) bP))
 (aw (eC (bV (ao (ae (ag 2) (ae (ag 9) (ae (af (ao (ae (ao (ae (dC (.int 1)) (ae (dC (.int 3)) au)) dE) (ae (aS (ag 9) Bd) au)) cY) (af (ag 8) (dC (.int 0)) aH) aH) au))) eT))
 (aw (bI (dC (.bl false)))
 av)
 av)
 (aw (td (ao (ae (ag 2) au) eH) (dz 10)
 (aw (eC (bV (ao (ae (ag 10) au) dI))
 (aw (bI (dC (.bl false)))
 av)
 av)
 av))
 av)))))
noncomputable abbrev TL:List (Nat×D)->bv :=
 (nG 6 [5] (ao (ae (ag 5) au) (noX m_read_web))
 (BD (fE (bV (ao (ae (xY (ag 6)) au) eS)) (af (xY (ag 6)) (ag 3) jC))
 (aw (bI (dC (.bl false)))
 av)
 (tY 7 (xY (ao (ae (ag 4) au) (noX m_read_web)))
 (tZ 6 (lD RS)))))
def Ia{ns:List Int}(hn:ns.length<=63){w:l8}(W:gj w){at_:Int}(h0:0<=at_)(h1:at_<=30){x8 x9 x10:Sl}(p10:Pl x10):∃d8 d9 y10,Pl y10/\RS [.sh (.lst (ns.map D.int)),.sh (.int at_),.sh (aN w),.sh (aN w),.sh (.str (TV "\n" (bJ w))),.sh (.str (TV "\n" (bJ w))),.no,.sh (aN w),x8,x9,x10]=.ok (.nx [.sh (.lst (ns.map D.int)),.sh (.int at_),.sh (aN w),.sh (aN w),.sh (.str (TV "\n" (bJ w))),.sh (.str (TV "\n" (bJ w))),.no,.sh (aN w),.sh d8,.sh d9,y10]):=by
 have hr:=ue W;generalize TV "\n" (bJ w)=J at hr ⊢;have fg:fgt (aN w)=aN w:=by
  show D.tup [.lst (fgts (w.ps.map D.str)),.lst (fgts (w.ts.map aG)),.str w.fi,.str w.la]=_;rw[jR (ts:=w.ts.map aG) λt h=>by obtain⟨u,_,rfl⟩:=Tt.mp h;exact IG.fg,jR (ts:=w.ps.map D.str) λt h=>by obtain⟨z,_,rfl⟩:=Tt.mp h;rfl];rfl
 have fw:=zm (w:=w);have hne:=vx (w:=w);obtain⟨c,hc⟩:=v7 (ns:=ns) (by omega) (k:=at_+14) (by omega) (by omega);have hc:K75.bz [.lst (ns.map D.int),.int (at_+14)]=.ok (.int c):=hc;obtain⟨vs,hd,V⟩:=m7 c [2,(dH:Int)-1,(dH:Int)-1] (by decide) (by decide);have hd:K75.bF [.int c,.lst [.int 2,.int ((dH:Int)-1),.int ((dH:Int)-1)]]=.ok (.lst (vs.map D.int)):=hd;obtain⟨v0,_,b0,j0⟩:=V.at 0 rfl;obtain⟨v1,_,b1,j1⟩:=V.at 1 rfl;obtain⟨v2,_,b2,j2⟩:=V.at 2 rfl;have j0:aH (.lst (vs.map D.int)) (.int 0)=.ok (.int v0):=j0;have j1:aH (.lst (vs.map D.int)) (.int 1)=.ok (.int v1):=j1;have j2:aH (.lst (vs.map D.int)) (.int 2)=.ok (.int v2):=j2;have ps:0<1+v2:=by omega
 have m1:(1+v1).natAbs<dH:=by omega
 have m2:(1+v2).natAbs<dH:=by omega
 have hl:=nR (a:=1+v1) (b:=1+v2) ps (SU m1 we) (SU m2 we);have S:gT (vC (1+v1) (1+v2)):=⟨⟨pY ps,T2 vB m1,T2 vA m2⟩,Fc (by omega) ps⟩
 have hl:K75.bP [.int (1+v1),.int (1+v2)]=.ok (fr (vC (1+v1) (1+v2))):=hl;generalize vC (1+v1) (1+v2)=s at hl S;have S2:gT (s.2,s.1):=⟨⟨⟨S.p,by rw[Int.gcd_comm];exact S.f.g1⟩,S.f.qN,S.f.pN⟩,by have:=S.f.q1;show 0<s.2;omega⟩
 have S3:gT (1,3):=⟨⟨⟨by decide,by decide⟩,by decide,by decide⟩,by decide⟩
 have hrv:Bd (fr s)=.ok (fr (s.2,s.1)):=rfl;have pick:∃c:kO,gT c/\aH (.lst [.tup [.int 1,.int 3],fr (s.2,s.1)]) (.int v0)=.ok (fr c):=by
  rcases(show v0=0∨v0=1 by omega) with rfl|rfl
  .exact⟨(1,3),S3,rfl⟩
  .exact⟨(s.2,s.1),S2,rfl⟩
 obtain⟨cc,C,hk⟩:=pick;have hg:=FI W S C;obtain⟨XS,hx,hxl,hbad⟩:=IJ W;obtain⟨ρ',hf,y10,q10,rfl⟩:=jc (tg:=dz 10) (ds:=XS) (ρ:=[.sh (.lst (ns.map D.int)),.sh (.int at_),.sh (aN w),.sh (aN w),.sh (.str J),.sh (.str J),.no,.sh (aN w),.sh (.lst (vs.map D.int)),.sh (fr s),x10]) (body:=(aw (eC (bV (ao (ae (ag 10) au) dI)) (aw (bI (dC (.bl false))) av) av) av))
  (λk ρ=>∃y10,Pl y10/\ρ=[.sh (.lst (ns.map D.int)),.sh (.int at_),.sh (aN w),.sh (aN w),.sh (.str J),.sh (.str J),.no,.sh (aN w),.sh (.lst (vs.map D.int)),.sh (fr s),y10]) (by
   rintro k d hd ρ ⟨y10,_,rfl⟩;have hr:=yJ (hbad d (S7 hd));refine⟨[.sh (.lst (ns.map D.int)),.sh (.int at_),.sh (aN w),.sh (aN w),.sh (.str J),.sh (.str J),.no,.sh (aN w),.sh (.lst (vs.map D.int)),.sh (fr s),.sh d],_,rfl,?_,.sh d,.inr ⟨d,rfl⟩,rfl⟩;open_line with[hr,Tx]) ⟨x10,p10,rfl⟩
 refine⟨.lst (vs.map D.int),fr s,y10,q10,?_⟩;have ad:aZ (.int at_) (.int 14)=.ok (.int (at_+14)):=rfl;have a1:aZ (.int 1) (.int v1)=.ok (.int (1+v1)):=rfl;have a2:aZ (.int 1) (.int v2)=.ok (.int (1+v2)):=rfl;have sb:pH (.int (dH:Int)) (.int 1)=.ok (.int ((dH:Int)-1)):=rfl;generalize (dH:Int)-1=M at hd sb;generalize vs.map D.int=VS at *;open_line with[RS,AS,fg,fw,hne,hr,ad,hc,zr,sb,hd,j0,j1,j2,a1,a2,hl,hrv,hk,hg,Tx,hx,hf]
def HI{ns:List Int}(hn:ns.length<=63){w:l8}(W:gj w){at_:Int}(h0:0<=at_)(h1:at_<=30){x6 x7 x8 x9 x10:Sl}(p8:Pl x8)(p9:Pl x9)(p10:Pl x10):∃d8 d9 y10,Pl y10/\TL [] [.sh (.lst (ns.map D.int)),.sh (.int at_),.sh (aN w),.sh (aN w),.sh (.str (TV "\n" (bJ w))),.sh (.str (TV "\n" (bJ w))),x6,x7,x8,x9,x10]=.ok (.nx [.sh (.lst (ns.map D.int)),.sh (.int at_),.sh (aN w),.sh (aN w),.sh (.str (TV "\n" (bJ w))),.sh (.str (TV "\n" (bJ w))),.no,.sh (aN w),.sh d8,.sh d9,y10]):=by
 obtain⟨d8,d9,y10,q10,e⟩:=Ia hn W h0 h1 (x8:=x8) (x9:=x9) p10;refine⟨d8,d9,y10,q10,?_⟩;rw[←e];have hr:=ue W;have hk:=Fj W;have hne:=vx (w:=w);have fw:=zm (w:=w);generalize TV "\n" (bJ w)=J at hr ⊢;have e1:ao (ae (ag 5) au) (noX K75.m_read_web) (mT [5] [.sh (.lst (ns.map D.int)),.sh (.int at_),.sh (aN w),.sh (aN w),.sh (.str J),.sh (.str J),x6,x7,x8,x9,x10])=.ok (qv w):=by
  have:mT [5] [.sh (.lst (ns.map D.int)),.sh (.int at_),.sh (aN w),.sh (aN w),.sh (.str J),.sh (.str J),x6,x7,x8,x9,x10]=[.no,.no,.no,.no,.no,.sh (.str J),.no,.no,.no,.no,.no]:=rfl;rw[this];open_line with[hr]
 rw[TL,CS e1 ⟨rfl,Ri W,by show 6<11;decide,rfl⟩];have e2:(fE (bV (ao (ae (xY (ag 6)) au) eS)) (af (xY (ag 6)) (ag 3) jC)) (Lz ([]++[(6,qv w)]) ([Sl.sh (.lst (ns.map D.int)),.sh (.int at_),.sh (aN w),.sh (aN w),.sh (.str J),.sh (.str J),x6,x7,x8,x9,x10].set 6 .no))=.ok (.bl false):=by
  have:Lz ([]++[(6,qv w)]) ([Sl.sh (.lst (ns.map D.int)),.sh (.int at_),.sh (aN w),.sh (aN w),.sh (.str J),.sh (.str J),x6,x7,x8,x9,x10].set 6 .no)=[.sh (.lst (ns.map D.int)),.sh (.int at_),.sh (aN w),.sh (aN w),.sh (.str J),.sh (.str J),.sh (qv w),wJ x7,wJ x8,wJ x9,wJ x10]:=rfl;rw[this];open_line with[AS,fw,hk,Tx,hne]
 rw[F3 e2];have e3:xY (ao (ae (ag 4) au) (noX K75.m_read_web)) ([Sl.sh (.lst (ns.map D.int)),.sh (.int at_),.sh (aN w),.sh (aN w),.sh (.str J),.sh (.str J),x6,x7,x8,x9,x10].set 6 .no)=.ok (aN w):=by
  have:[Sl.sh (.lst (ns.map D.int)),.sh (.int at_),.sh (aN w),.sh (aN w),.sh (.str J),.sh (.str J),x6,x7,x8,x9,x10].set 6 .no=[Sl.sh (.lst (ns.map D.int)),.sh (.int at_),.sh (aN w),.sh (aN w),.sh (.str J),.sh (.str J),.no,x7,x8,x9,x10]:=rfl;rw[this];open_line with[AS,hr,fw]
 rw[F0 e3 rfl];show tZ 6 (lD RS) [(6,qv w)] _=_;rw[F1,Jw]
 .rfl
 .refine Pl.noO λx hx=>?_
  simp only[V6,V5,SV,Ui,or_false]at hx;rcases hx with rfl|rfl|rfl|rfl|rfl|rfl|rfl|rfl|rfl|rfl|rfl
  all_goals first|exact .inr ⟨_,rfl⟩|exact .inl rfl|assumption
noncomputable abbrev LB:bv :=
 (aw (aY 2 (ao (ae (ag 0) (ae (ag 1) au)) eF))
 (aw (aY 3 (ao (ae (ao (ae (af (ag 2) (dC (.int 0)) aH) au) (m1 mn)) (ae (ao (ae (af (ag 2) (dC (.int 1)) aH) au) (m1 mn)) (ae (af (ag 2) (dC (.int 2)) aH) (ae (af (ag 2) (dC (.int 3)) aH) au)))) dE))
 (aw (aY 4 (k8 (dC (.str "\n")) (ae (ao (ae (ag 2) au) cz) au)))
 (aw (aY 5 (ao (ae (ag 2) au) (noX m_shown_web)))
 (aw (eC (fE (bV (aS (ag 5) (dW "str"))) (fE (af (ag 5) (ag 4) jC) (af (ag 2) (ag 3) jC)))
 (aw (bI (dC (.bl false)))
 av)
 av)
 (TL []))))))
def HE{ns:List Int}(hn:ns.length<=63){at_:Int}(h0:0<=at_)(h1:at_<=30){x2 x3 x4 x5 x6 x7 x8 x9 x10:Sl}(p8:Pl x8)(p9:Pl x9)(p10:Pl x10):∃y2 y3 y4 y5 y7 d8 d9 y10,Pl y10/\LB [.sh (.lst (ns.map D.int)),.sh (.int at_),x2,x3,x4,x5,x6,x7,x8,x9,x10]=.ok (.nx [.sh (.lst (ns.map D.int)),.sh (.int at_),y2,y3,y4,y5,.no,y7,.sh d8,.sh d9,y10]):=by
 obtain⟨w,hw,W⟩:=Bw (ns:=ns) (by omega) (at_:=at_) h0 (by omega);obtain⟨d8,d9,y10,q10,e⟩:=HI hn W h0 h1 (x6:=x6) (x7:=x7) p8 p9 p10;have B:=jZ.of W;have hw:K75.eF [.lst (ns.map D.int),.int at_]=.ok (aN w):=hw;have hli:K75.cz [aN w]=.ok (.lst ((bJ w).map D.str)):=Fe B;have hj:=mU (z:="\n") (ys:=bJ w) rfl (SW (kQ B) (by decide));have hsh:noX K75.m_shown_web [aN w]=.ok (.str (TV "\n" (bJ w))):=IK (D8 B);have hn:=vx (w:=w);have i0:aH (aN w) (.int 0)=.ok (.lst (w.ps.map D.str)):=rfl;have i1:aH (aN w) (.int 1)=.ok (.lst (w.ts.map aG)):=rfl;have i2:aH (aN w) (.int 2)=.ok (.str w.fi):=rfl;have i3:aH (aN w) (.int 3)=.ok (.str w.la):=rfl;have ew:D.tup [.lst (w.ps.map D.str),.lst (w.ts.map aG),.str w.fi,.str w.la]=aN w:=rfl;refine⟨.sh (aN w),.sh (aN w),.sh (.str (TV "\n" (bJ w))),.sh (.str (TV "\n" (bJ w))),.sh (aN w),d8,d9,y10,q10,?_⟩;rw[LB];generalize TL []=G at e ⊢;generalize (bJ w).map D.str=RR at hli hj;generalize TV "\n" (bJ w)=J at hj hsh e;have hne:=qm (a:=J) (b:=J);rw[decide_eq_true rfl]at hne;have st:dW "str" (.str J)=.ok (.bl true):=rfl;generalize w.ps.map D.str=P at i0 ew;generalize w.ts.map aG=T at i1 ew;open_line with[hw,i0,i1,i2,i3,ew,hli,il,fX,hj,hsh,st,hne,hn,Tx,e]
def Fg(ns:List Int)(hn:ns.length<=63):m_law [.lst (ns.map D.int)]=.ok (.bl true):=by
 have hsrc:∀ρ,wG (dC (.int 0)) (dC (.int 45)) (dC (.int 15)) ρ=.ok [.int 0,.int 15,.int 30]:=λρ=>rfl;obtain⟨ρ',hf,x2,x3,x4,x5,x6,x7,x8,x9,x10,x1,_,rfl⟩:=jc (tg:=dz 1) (ds:=[.int 0,.int 15,.int 30]) (ρ:=[.sh (.lst (ns.map D.int)),.no,.no,.no,.no,.no,.no,.no,.no,.no,.no]) (body:=LB)
  (λk ρ=>∃x2 x3 x4 x5 x6 x7 x8 x9 x10 x1,(Pl x8/\Pl x9/\Pl x10)/\ρ=[.sh (.lst (ns.map D.int)),x1,x2,x3,x4,x5,x6,x7,x8,x9,x10]) (by
   rintro k d hd ρ ⟨x2,x3,x4,x5,x6,x7,x8,x9,x10,x1,⟨p8,p9,p10⟩,rfl⟩;have hd:=S7 hd;have:∃v:Int,d=.int v/\0<=v/\v<=30:=by
    simp only[SV,Ui,or_false]at hd;rcases hd with rfl|rfl|rfl
    .exact⟨0,rfl,by decide,by decide⟩
    .exact⟨15,rfl,by decide,by decide⟩
    .exact⟨30,rfl,by decide,by decide⟩
   obtain⟨v,rfl,h0,h1⟩:=this;obtain⟨y2,y3,y4,y5,y7,d8,d9,y10,q10,e⟩:=HE hn h0 h1 (x2:=x2) (x3:=x3) (x4:=x4) (x5:=x5) (x6:=x6) (x7:=x7) p8 p9 p10;exact⟨_,_,rfl,e,y2,y3,y4,y5,.no,y7,.sh d8,.sh d9,y10,.sh (.int v),⟨.inr ⟨_,rfl⟩,.inr ⟨_,rfl⟩,q10⟩,rfl⟩) ⟨.no,.no,.no,.no,.no,.no,.no,.no,.no,.no,⟨.inl rfl,.inl rfl,.inl rfl⟩,rfl⟩
 have hb:Lj=aw (kT (wG (dC (.int 0)) (dC (.int 45)) (dC (.int 15))) (dz 1) LB) (aw (bI (dC (.bl true))) av):=rfl;generalize LB=B at hf hb;open_line with[m_law,hb,A3,hsrc,hf]
end K75
namespace K75
open PySem L2 DL
def sp_law(K:SE)(H:Hp)(a:SA)(ns:List Int)(hl:ns.length<=63)(hS:fM K H a (ns.map V.int)):spD K 1 m_law [.ref a] H (λv _=>v=.bl true) λ_ _ _=>False:=by
 refine⟨rfl,H,[.lst (ns.map D.int)],aD.refl _,Reps.cons (aB.mpr ⟨a,_,rfl,hS,uQ ns⟩) Reps.nil,?_⟩;rw[Fg ns hl];exact λv H' Ha' _ r=>aE.mp r
end K75
structure PySem.W.Fast:Prop where(tw15440681298698498454 tw16806638161593869400 tw17614640895016215590 tw12984606495154498552 tw17437554817684999818 tw8747498669394469022 tw12618865167533537678 tw3028742963251898030 tw11300338790895158885 tw624388431966458333 tw13111309997429448136 tw628923787179821448 tw13153571384346137134 tw978019647836373350 tw6810540431035617044 tw9171758239675390013 tw2197944479739583479 tw10857914101728427385 tw13705381174071816129 tw15455750396204958863 tw8858887587954820065 tw11835991573643302692 tw11174240676955073332 tw3595967912694761344 tw5883200417917213012 tw11393258061352207445 tw9980283406971023724 tw11170055037310823661 tw9292052473407039888 tw10674597508000386101 tw13212136712082040748 tw7845604420309977300 tw3423032854542099643 tw7333970200144716011 tw6304026300898723388 tw16335747294679364837 tw1108594140211622307 tw1889833801776916687 tw1670446164209383249 tw2159310163958585990 tw1889780694427480197 tw11518185405206778277 tw8478442416364076625 tw12092418741404186203 tw6681227591922494585 tw8234176300848463466 tw7052455729263392463 tw5213992407834274103 tw9820810184227533607 tw11855652138879322652 tw10830578691891461091 tw16328643869819827091 tw12973612213434470965 tw469162154301394299 tw17270333281525651731 tw5804572575701826365 tw11522194230220580318 tw14536666096880473543 tw14268032729401082638 tw17013203944821283718 tw11189299428823476184 tw12491535628574022618 tw13177969852551166477 tw5616914725510593548 tw12046872626636707539 tw11786532856247135744 tw9963120805126529344 tw18216644862843860275 tw2987265944853764729 tw11108112662479484389 tw13904265475816184168 tw4520696227329765774 tw16496616369793188539 tw8136738040551652655 tw11968540147165363027 tw16310222614449545479 tw7677983781518641744 tw253302465571024036 tw12115320497979954482 tw6674715106426859197 tw11064835491647811333 tw12735102131481970494 tw420683669363241927 tw8140983747937214774 tw10242856435843685503 tw17741098205822227039 tw8841591125538695481 tw9515329233386043859 tw6849338894646394845 tw3031600582331697234 tw15930372264923532486 tw7259096232239004671 tw4202881551542434565 tw13494154685328789736 tw14741764320442585538 tw11668287628138187262 tw9617182842411787425 tw9881971401389701728 tw9697620271235161648 tw10694240531354597228 tw15451169795537618044 tw15179224452697712876 tw7976309284180252435 tw10008363989018898795 tw9142641948146872903 tw5473963281075318325 tw7904163038004765767 tw4673342030661729073 tw5663021594159482537 tw14610537693182369026 tw12466735155351959138 tw1467235994002750318 tw2307036980853668666 tw7979053127811508720 tw963550340754623022 tw3242377604482375497 tw11391683661214939708 tw5270761582637331898 tw8882046558689620047 tw13350474409551146006 tw5927671814019420901 tw563177670864791125:True)
open PySem PySem.W PyProof.Rows
set_option maxRecDepth 100000 in
set_option maxHeartbeats 0 in
theorem PySem.Challenge.cw_farthestcut_k75_webs_written_holds : PySem.Challenge.rw_farthestcut_k75_webs_written.Holds := by
 w_on;o_law;k_head;(case hw=>w_witness2)
 k_fill
 refine L2.walk_ofK (l:=PySem.Challenge.rw_farthestcut_k75_webs_written) (n:=63) (k:=9) (x:="_law_script") (CX:=L2.CX0) (sp:=fun K=>DL.spD K 1 K75.m_law) ?I rfl (by decide) rfl ⟨rfl,by decide,by decide,rfl⟩ (fun w h Y=>W.kIn_of Y) ?F ?S ?C
 case S=>exact fun K H a ns hl _ hS=>K75.sp_law K H a ns hl hS
 case C=>exact fun _ _ _ _ h=>h
 case I=>rfl
 case F =>
  intro w mg fa h KX G hmg;have T:∃ t:K75.Adr,K75.Txt (L2.KOf KX) mg t/\mg "law"=some (.ref (t.A 44))/\∃ kV doc pm an cdv ct,t.Q 44=VG "law" "law" (L2.defArgs (K75.top 75)) (L2.defBody (K75.top 75)) (L2.defScope (K75.top 75)) .none kV doc pm an cdv ct:=by
   dsimp only[L2.KOf];refine' K75.txt_wr (K75.txt_mk KX G ?QS ?_ ?_ ?_ ?_ ?_ ?_ ?_ ?_ ?_ ?_ ?_ ?_ ?_ ?_ ?_ ?_ ?_ ?_ ?_ ?_ ?_ ?_ ?_ ?_ ?_ ?_ ?_ ?_ ?_ ?_ ?_ ?_ ?_ ?_ ?_ ?_ ?_ ?_ ⟨?_,?_,?_,?_⟩ ⟨⟨?_,?_,?_,?_⟩,?_,?_,?_,?_,?_,?_,?_,?_,?_,?_,?_,?_⟩ ⟨⟨?_,?_,?_,?_⟩,?_,?_,?_,?_,?_,?_,?_,?_,?_,?_,?_,?_,?_⟩ ⟨⟨?_,?_,?_,?_⟩,?_,?_,?_,?_,?_,?_,?_,?_,?_,?_,?_,?_⟩ ⟨_,_,_,_,_,_,_,_,_,_,_,_,_,_,_,_,_,_,_,_,_,_,_,_,_,_,_,_,_,?_,?_,?_,?_,?_,?_,?_,?_,?_,?_,(DL.noL_cons ?_ DL.noL_nil)⟩ ⟨_,_,_,_,_,_,_,_,_,_,_,_,_,_,_,_,_,_,_,_,_,_,_,_,_,_,_,_,_,?_,?_,?_,?_,?_,?_,?_,?_,?_,?_,(DL.noL_cons ?_ (DL.noL_cons ?_ DL.noL_nil))⟩ ?_ ?_ ?_ ?_ (DL.sb_c ?_ (DL.sb_c ?_ (DL.sb_c ?_ trivial))) (DL.sb_c ?_ (DL.sb_c ?_ (DL.sb_c ?_ trivial))) (DL.sb_c ?_ (DL.sb_c ?_ (DL.sb_c ?_ trivial))) ?_ ?_ ?_ ?_ ?_ ?_ ?_ ?_ ?_ ?_ ?_ ?_ ?_ ?_ ?_ ?_ ?_ ?_ ?_)
   case' QS=>iterate 45 refine DL.QAs.cons ⟨by k_is,by k_is,_,_,_,_,_,_,_,_,_,by k_is,by k_is⟩ ?_
   case QS=>trivial
   all_goals try first |k_is |k_exc |rfl
   exact⟨_,_,_,_,[.str "one",.str "both"],rfl,.cons ⟨_,rfl⟩ (.cons ⟨_,rfl⟩ (.nil)),by decide,fun H=>DL.Reps.cons (DL.Rep.str_iff.mpr rfl) (DL.Reps.cons (DL.Rep.str_iff.mpr rfl) (DL.Reps.nil))⟩
  obtain⟨t,T,e0,kV,doc,pm,an,cdv,ct,ed⟩:=T;have e1:=hmg.symm.trans e0;cases e1;refine⟨t.Q 44,fun s u=>?_,fun base kb nb=>(K75.ok_law T).F⟩;rw[ed];exact .of_eq rfl
