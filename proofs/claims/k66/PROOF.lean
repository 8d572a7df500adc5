import PyProof.Rows.All
import Wide.All
import OpenK.ZHead
import KE.KDictList
import KE.KEqDict
import KE.KFromBytes
import KE.KItem
import KE.KxBytes
import OpenK.KCall
import OpenK.KCls
import OpenK.KDescr
import OpenK.KFacts
import OpenK.KGet
import OpenK.KLine
import OpenK.KMake
import OpenK.KMore
import OpenK.KOps
import OpenK.KRaise
import OpenK.KWalk
import OpenK.Peek
import Wide.FinOn
import Lean
import PyProof.EqAt
import PyProof.EqKinds
import PyProof.TupleCall
import PySem.Str
import PyProof.ZipIter
import PyProof.IsiBase
import KE.KItemsList
import KE.KIsAll
import OpenK.KOwn
import KE.KSortAsk
import PyProof.StrBlockI
import PyProof.Rows.EqDataRows
import PyProof.Rows.InDataRows
import PyProof.SumWalkG
import PyProof.ConsumeWalk
import PyProof.WalksMore
import KE.KSortTup
import PyProof.ListMulRoad
import PyProof.EnumFor
import PyProof.Rows.EnumRows
import PyProof.StrBlockL
import PyProof.JoinWalk
import PyProof.NsDelKeeps
import KE.KTryDeep
import PyProof.InstStoreFacts
import PyProof.NsCount
import PyProof.ExcClass2
import PyProof.Rows.FStr
import PyProof.StationsW
import PyProof.Rows.Catch
import KE.KRevIter
import PyProof.CollectIter
import PyProof.TupleOfGen
import PyProof.Rows.Tup
import PyProof.Draws
import PyProof.EnumMake
import PyProof.StrWalks
import PyProof.SliceStr2
import PyProof.ListNew
import KE.KDictOf
import PyProof.ListRange
import PyProof.Rows.GenSrcRange
import PyProof.ListCopy
import PyProof.AttrMissHeap
import PyProof.DictWalks
import PyProof.FactsDict
import KE.KSortKey
import KE.IntText
import PyProof.TableCode
import PyProof.Rows.KernelRfl
import PyProof.StrLawsTight
import PyProof.StrLawsChain
import PyProof.Rows.StrItems
import KE.KIntText
import PyProof.SliceList
import PySem.Challenge.RW_barsplit_k66_ways_and_layings_at_the_des
section
open Lean
local macro_rules|`(#check $_)=>do
 let mut a:=#[]
 for(s,l)in[("env",[41]),("heap",[39,46,1183]),("o",List.range' 43 1140),("sts",[49,64,79,94,109,124,139,154,169,184,199,214,236,258,307,385,464,541,622,659,688,736,811,890,965,1014,1066,1123]),("tree",[47,63,78,93,108,123,138,153,168,183,198,213,235,257,306,384,463,540,621,658,687,735,810,889,964,1011,1065,1122,1182]),("view",[39])]do
  for i in l do a:=a.push (←`(command|noncomputable def $(mkIdent (.str `PySem.W.Fast s!"tw{(Name.mkStr `hd0 s!"{s}_{i}").hash}")):ident:=0))
 return mkNullNode a
#check 0
end
def PySem.W.Fast.tw13531481842921593703:=0
def PySem.W.Fast.tw13246607517791655837:=0
section
set_option Elab.async false
open PySem PySem.W PyProof.Rows
set_option maxRecDepth 100000 in
set_option maxHeartbeats 0 in
open_top hd0 for PySem.Challenge.rw_barsplit_k66_ways_and_layings_at_the_des
end
open Classical renaming byContradiction->dt,axiomOfChoice->PZ
open PySem.W renaming Frag->SD,findIn->Um,keepIn->UY,fnOf->UZ,kia_tup->C8,kia_one->C9,kitOne->Dd,emptyDict->Hw,nsIn->C4,mg_of->DD,instObj->G9,cellsFrom_some->Pt,codeIn->F5,plainGet->MW,kitx_dict->Rg,hasDictIn->Rh,isFn->M8,lookIn->T4,plainGet_of->_c,plainOver->V_
open PySem renaming wpAny_bind->SE,wpAny_pure->SM,wpAny_callSpecial?_slot->TU,wpAny_field->TX,wpAny_call_entry->Uk,wpAny_setField_rec->Ux,wpAny_newObj_type->UB,wpAny_holding->tx,wpAny_truthy_bool->UH,wpAny_seqItems->UM,wpAny_loadPart'->UX,wpAny_mono->rN,wpAny_Call_Name_kw->C6,call_meets->tN,wpAny_attempt->z3,sizeLine_eq->wo,mem_of_lookup->MI,Builtin->zaZ,wpAny_getItem_str_slice->Rn,wpAny_rule->z4,wpAny_typeOf->DI,builtinLookup_eq_fast->Rp,intText?->MN,wpAny_passesOwn->MT,pushCells_keeps->MU,wpAny_pyIter_tuple->P9,codeAny_mono->HB,wpAny_newTuple->M7,typeIs_str->DN,wpAny_letGo->IJ,wpAny_isInstance->T6,wpAny_updateSeq->Sj,wpAny_execs_nil->Sy,typeLookup_type->Sz,post_val_or_str->S0,codeAny_builtin->S2,wpAny_updateSeq_pair->Y_,isSubtype_stop->R4,Within->R5,wpAny_standAt->U0,wpAny_onRaise->U1,wpAny_newList->U2,wpAny_pyIter_list->_j,typeIs_int->Ni,strKind_is->Nj,slot_list_getitem->_k,concat_meets->U3,wpAny_pyIter_zip->_m,noFill_tuple_add->_n,Addr->dj,Value->dn,Expr->dv,eval->dy,model->d8,Shared->ea,starEach->eA,sizeLine->eK,Heap->eL,Pos->eU,World->fA,Scope->f6,Program->gg,Stmt->hB,Around->kb,Obj->l6,compareOp->m3,FuncData->nf,IsPair->ni,mainGlobals->n0,backTo->oe,Env->ow,foldedSetIterable->oI,Builtin->pa,behindInMarks->pk,Tok->qd,holding->rn,Keyword->tr,binaryOp->tF,swapsWith->tG,cellsFrom->uf,NameKind->ur,assignEach->uv,pyNext->uG,relabel->uH,sysModules->uJ,IsPart->uR,IsZip->uS,ZipApart->uY,assign->uZ,bootBuiltins->u0,cLine->u3,getItem->u9,attributeBase->x8,backToKw->yg,standAt->y6,IsEnum->A2,callerA->A6,isTrue->B0,pushCells->B7,sliceBounds->B8,strIterType->B9,bindC->Dm,bindL->Dn,Meets->DU,atKey->D5,bindArgs->D6,letOwnedTupleGo->E3,truthy->FI,typeLookup->FT,valueAt->FX,BindsTo->IK,PassesOwn->Lw,hashStr->L1,pyIter->Mp,swapsWithSole->My,DictEntry->N1,getMethod->OD,lastMarks->OJ,ownMembersOf->OP,setItem->OR,slicePick->OT,spliced->OU,subscripted->OX,swappedStores->OY,updateSeq->O4,builtinsNs->d_,callType_new->e_,seqIndex_neg->q_,seqIndex_of->r_,seq_tuple_add->s_,tupleKind->D_,wpAny_Name->F_,wpAny_call->G_,getattributeRaised->E?,tupleKind_room_in1->zdG,wpAny_Tuple_spliced->zek,wpAny_assign_Name->zel,wpAny_binaryOp_repeat_ref->zem,wpAny_getItem_list_slice->zen,wpAny_isTrue_Compare1->zeo,wpAny_letOwnedTupleGo_enum->zep,wpAny_pyNext_enum_endD->zeq,wpAny_pyNext_enum_itemD->zer
open List renaming range->SF,getElem?_eq_getElem->SH,replicate->SI,mem_range->SJ,getElem?_set_ne->SK,getD_eq_getElem?_getD->kr,mem_cons_self->SO,mem_cons_of_mem->SQ,mem_cons->SS,size_toArray->SW,getElem?_eq_some_iff->nt,length_map->Ta,mem_map->Tb,getElem?_set_self->Te,not_mem_nil->Th,mem_append_right->Tj,map_map->Tn,map_congr_left->Tp,length_append->Tt,map_cons->Tw,getElem?_append_left->Tz,getElem?_append_right->TC,mem_of_getElem?->TN,length_cons->TQ,mem_filter->TR,getElem?_map->TV,count_eq_zero_of_not_mem->Ud,map_append->Ue,mem_append->Uo,eq_nil_of_length_eq_zero->Up,length_range->Ut,mem_singleton->Uu,countP_eq_length_filter->Uv,all_eq_true->Uz,nodup_cons->UJ,drop_eq_getElem_cons->UN,range_succ->UO,length_singleton->UP,getElem?_eq_none->UQ,filterMap_cons_some->D4,lookup_cons->UW,countP_congr->C7,find?_cons->zt,take_of_length_le->Ht,pairwise_iff_getElem->MJ,filterMap_cons_none->MK,drop_eq_nil_of_le->MM,zip_cons_cons->Hv,append_nil->DC,ext_getElem?->F8,any_eq_false->F9,Pairwise->zaI,drop_length->GN,zip_map'->DB,nil_append->F0,length_nil->F3,getElem?_replicate->Px,getElem?_cons_zero->Pz,pairwise_lt_range->Rm,pairwise_map->MV,length_filter_le->Ro,getElem_mem->MZ,perm_iff_count->R0,length->DM,forIn_cons->M1,filter_sublist->R1,countP_map->M3,countP_eq_zero->Rb,toArray->H8,find?_eq_none->Ri,filter_append->Rj,range_add->MP,mem_of_find?_eq_some->L_,getElem?_set->P4,nodup_range->S5,length_take->S6,cons_append->S7,any_eq_true->S8,find?_cons_of_neg->_a,filter_eq_nil_iff->_b,any_map->Nc,mem_append_left->_d,getElem?_of_mem->_e,forIn_nil->R8,getElem_of_mem->T_,getElem?_range->U',filterMap_cons->U_,pairwise_cons->X_,forIn_toArray->Y',any_cons->S3,all_cons->S4,length_eq_countP_add_countP->zcZ,head?_filter->Q_,append_assoc->R_,map_nil->R6,countP_cons->_g
open PySem.Heap renaming get?_push_of_some->SG,get?_push_size->SV,lt_size->SY,push->Tr,get?_update_other->Tu,size_push->TH,get?_update_self->UR,SameBut->wV,get?_push_ne->Gx,size_update->S9,get?_update_ne->V'
open Nat renaming le_refl->SN,ne_of_lt->Tc,le_trans->Tf,lt_of_lt_of_le->Ti,lt_or_ge->To,le_add_right->Tv,lt_succ_of_lt->TY,zero_le->Uc,lt_irrefl->Uh,not_lt_zero->Uj,lt_succ_self->Ur,add_sub_cancel_left->UK,ne_of_gt->uq,zero_add->zp,lt_trichotomy->MX,le_succ->Df,le_succ_of_le->P6,add_assoc->M9,min_eq_left->T5,mul_le_mul_left->W_,le_of_lt->T7,add_zero->T8
open Option renaming bind_some->SR,some->Us,isSome_iff_exists->US,map_some->zr,map->DF,getD_some->P5,bind->Nh,some->bB,none->cI
open Int renaming mul_emod->SU,emod_lt_of_pos->Tx,emod_nonneg->TK,emod_emod->TZ,add_emod->Ub,mul_comm->Ui,emod_eq_of_lt->UG,mul_assoc->UL,sub_emod->UT,emod_eq_emod_iff_emod_sub_eq_zero->P0,mul_zero->w5,eq_ofNat_of_zero_le->ML,mul_left_comm->MY,toNat_of_nonneg->Rc,mul_add->DE,toNat_natCast->P7,mul_one->H9,zero_mul->Nf,add_zero->Ng,one_mul->M5,add_mul->M6,add_assoc->R3,zero_add->T9
open Bool renaming and_eq_true->Td,false_ne_true->TL,false_eq_true->UC,or_eq_true->Dc,not_eq_true'->GG,eq_iff_iff->F4,true->cm,false->cT
open Ne renaming symm->Tq
open PySem.Str renaming ofString->Ts,join->r0,empty->xg
open Option.some renaming inj->TJ
open PyProof.Rows renaming callWith_type1->TM,slot_tuple_getitem->Uw,callWith_builtin1->I_,listUpdate_at->DH,boot_list->K',boot_int->L',slot_tupleiter_next->Rl,tupleItemsOf_->Nd,boot_isinstance->zcA,get?_update_seq->S1,seqEpoch_at->M4,seqObj->hL,AllBare->xr,Call_->A1,IsTup->DS,IntsAre->I7,envOfC->LP,Subscript_->N4,size_push'->OS,boot_enumerate->c_,args_tuple_getitem->u?,args_tupleiter_next->v?,entry_tupleiter_next->B?,listItems_at->N?,subscriptTail_builtinR->zaa
open PySem.Obj renaming mapSeq->Ua,data_mapFields->Z_
open PySem.Challenge renaming rw_barsplit_k66_ways_and_layings_at_the_des->Ug
open PySem.SeqAt renaming EqAt->Ul
open PySem.Value renaming none->Uq,type->wy,ref->w8,int->DO
open Array renaming length_toList->Uy,getD_eq_getD_getElem?->P_
open PySem.Builtin.SmallTypes renaming ownedTupleIsFree->UA,nextOf->P1,ownedTupleHandOut->zbD,ownedTupleFields->zbG
open PySem.NameKind renaming free->UD,cell->MO
open PySem.F renaming slot_zip_next->UE,slot_enumerate_next->MG,args_zip_next_1->GK,entry_zip_next->Hg,slot_list_getattribute->PX,slot_tuple_mul->M0,args_tuple_add_2->K_,plainAttrs_list->M',entry_tuple_add->M_,slot_tuple_add->J',plainAttrs_str->J_,slot_int_rmul->R9,args_tuple_mul_2->S',args_str_split_2->S_,entry_tuple_mul->_h,entry_str_split->_i,slot_str_split->_l
open PySem.Calls renaming spliced_cons->UI,spliced_nil->F7
open PySem.Builtin.Str renaming occurrences->UU,strSliceIndices->P2
open True renaming intro->tI
open PySem.PyData renaming eqv->uM,depth->C5,canLay0->F6,depthAll->T3,eqvAll->Si,canLayAll0->X'
open Sum renaming inl->o8
open PySem.Builtin.List renaming listTooLong->PY
open PySem.SeqAt.EqAt renaming int_int->MH
open PySem.Txt renaming slice->xb,split->De,slice_le->R7
open PySem.Builtin.Slice renaming slicePlaces->O',sliceAdjust->O_
open List.Pairwise renaming imp_of_mem->P',filter->N_
open Function renaming comp_def->Rf
open False renaming elim->DG
open ForInStep renaming yield->P8
local macro_rules| `(⋯) => `(by first|decide +kernel|lia|omega|simp)
set_option autoImplicit true
noncomputable section
set_option Elab.async false
set_option linter.all false
set_option maxRecDepth 100000
set_option maxHeartbeats 4000000
abbrev EQ:=PySem.Value->PySem.Shared->Prop
abbrev TW:=List (PySem.Addr×PySem.Obj)
abbrev DQ:=Nat->Nat->Nat->Int
abbrev DW:=Nat->Nat->Int
abbrev DV:=Nat->Bool
abbrev DX:=Nat->Nat
abbrev DZ:=PySem.Str->Option PySem.Value
theorem DJ{c:Prop}{h:Decidable c}(z:c){α}{a b:α}:ite c a b=a:=if_pos z
theorem DY{c:Prop}{h:Decidable c}(z:¬c){α}{a b:α}:ite c a b=b:=if_neg z
namespace L2
open PySem PySem.Spec PyProof.Rows
abbrev Key:=Sum Int Str
noncomputable def lV:Key->dn->Bool
 |.inl k,v=>Value.isInt k v
 |.inr x,v=>Value.isStrOf x v
noncomputable def RZ(w:fA):Key->Int
 |.inl k=>hashInt k
 |.inr x=>L1 w x
theorem qg:∀{k:Key} {v:dn},lV k v=cm->(∃i t,k=o8 i/\v=DO i t)\/(∃x t,k=Sum.inr x/\v=Value.str x t)
 |.inl i,v,h=>by obtain⟨t,e⟩:=Value.isInt_shape h;exact .inl ⟨i,t,rfl,e⟩
 |.inr x,v,h=>by obtain⟨t,e⟩:=Value.isStrOf_shape h;exact .inr ⟨x,t,rfl,e⟩
theorem rj(i:Int)(t:qd):lV (.inl i) (.int i t)=cm:=by simp[lV,Value.isInt]
theorem rh(x:Str)(t:qd):lV (.inr x) (.str x t)=cm:=by simp[lV,Value.isStrOf]
theorem IW(a b:Int):decide ((o8 a:Key)=o8 b)=(a==b):=⋯
theorem IT(a b:Str):decide ((Sum.inr a:Key)=Sum.inr b)=decide (a=b):=⋯
theorem IV(a:Int)(b:Str):decide ((o8 a)=Sum.inr b)=cT:=decide_eq_false<|λq=>nomatch q
theorem IU(a:Str)(b:Int):decide ((Sum.inr a)=o8 b)=cT:=decide_eq_false<|λq=>nomatch q
noncomputable def kf(prog:gg)(w:fA):PySem.KeyKind prog w Key where
 is:=lV
 hash:=RZ w
 inj:=λv a b ha J=>by
  rcases qg ha with⟨i,t,rfl,rfl⟩|⟨x,t,rfl,rfl⟩
  ·rcases qg J with⟨j,u,rfl,e⟩|⟨y,u,rfl,e⟩
   ·injection e with e1 _;rw[e1]
   ·exact nomatch e
  ·rcases qg J with⟨j,u,rfl,e⟩|⟨y,u,rfl,e⟩
   ·exact nomatch e
   ·injection e with e1 _;rw[e1]
 byValue:=λk v h=>by rcases qg h with⟨i,t,rfl,rfl⟩|⟨x,t,rfl,rfl⟩<;>rfl
 pyHash:=λI h=>by
  rcases qg I with⟨i,t,rfl,rfl⟩|⟨x,t,rfl,rfl⟩
  ·exact wpAny_pyHash_int h
  ·exact wpAny_pyHash_str h
 eqBool:=λO I h=>by
  rcases qg O with⟨i,t,rfl,rfl⟩|⟨x,t,rfl,rfl⟩
  ·rcases qg I with⟨j,u,rfl,rfl⟩|⟨y,u,rfl,rfl⟩
   ·rw[IW]at h;exact wpAny_eqBool_int h
   ·rw[IV]at h;exact Ul.int_str i t y u _ _ _ _ h
  ·rcases qg I with⟨j,u,rfl,rfl⟩|⟨y,u,rfl,rfl⟩
   ·rw[IU]at h;exact Ul.str_int x t j u _ _ _ _ h
   ·rw[IT]at h;exact wpAny_eqBool_str h
 «strs» :=λk x t v h=>by
  rcases qg h with⟨i,u,rfl,e⟩|⟨y,u,rfl,e⟩
  ·exact nomatch e
  ·injection e with e1 _
   subst e1;cases v<;>rfl
theorem de(prog:gg)(w:fA)(i:Int)(t:qd):(kf prog w).is (.inl i) (.int i t)=cm:=rj i t
theorem dc(prog:gg)(w:fA)(x:Str)(t:qd):(kf prog w).is (.inr x) (.str x t)=cm:=rh x t
inductive V where
 |d9|bl (b:Bool)|int (i:Int)|str (x:Str)|Dp (b:Array UInt8)|L0 (b:UInt64)|ref (a:dj)|ty (n:String)
 deriving DecidableEq
noncomputable def RelV:V->dn->Prop
 |.d9,u=>u=Uq
 |.bl b,u=>u=Value.bool b
 |.int i,u=>∃t,u=DO i t
 |.str x,u=>∃t,u=Value.str x t
 |.Dp b,u=>∃t,u=Value.bytes b t
 |.L0 b,u=>∃t,u=Value.float b t
 |.ref a,u=>u=w8 a
 |.ty n,u=>u=wy n
abbrev ez:List V->List dn->Prop:=Paired RelV
theorem ez.length(r:ez xs us):xs.length=us.length:=Paired.length r
theorem ez.get:∀{xs:List V} {j:List dn} {i:Nat} {x:V},ez xs j->xs[i]? = bB x->∃u,j[i]? = bB u/\RelV x u
 |_,_,_,_,.nil,e=>by simp at e
 |_,_,0,_,.cons r _,e=>by simp at e;subst e;exact⟨_,rfl,r⟩
 |_,_,i+1,x,.cons _ t,e=>by obtain⟨u,a,I⟩:=ez.get t (by simpa using e);exact⟨u,by simpa using a,I⟩
theorem ez.set(r:RelV x u):∀{xs:List V} {e:List dn} i,ez xs e->ez (xs.set i x) (e.set i u)
 |_,_,_,.nil=>.nil
 |_,_,0,.cons _ t=>.cons r t
 |_,_,i+1,.cons q t=>.cons q (ez.set r i t)
theorem ez.append:∀{xs ys:List V} {e ws:List dn},ez xs e->ez ys ws->ez (xs++ys) (e++ws)
 |_,_,_,_,.nil,s=>s
 |_,_,_,_,.cons r t,s=>.cons r (ez.append t s)
theorem ez.take:∀{xs:List V} {e:List dn} n,ez xs e->ez (xs.take n) (e.take n)
 |_,_,0,_=>.nil
 |_,_,_+1,.nil=>.nil
 |_,_,n+1,.cons r t=>.cons r (ez.take n t)
theorem ez.drop:∀{xs:List V} {e:List dn} n,ez xs e->ez (xs.drop n) (e.drop n)
 |_,_,0,r=>r
 |_,_,_+1,.nil=>.nil
 |_,_,n+1,.cons _ t=>ez.drop n t
noncomputable def p9:Option V->Option dn->Prop
 |some v,bB u=>RelV v u
 |none,cI=>True
 |_,_=>False
noncomputable def KV{e:Type}:List (e×V)->List (e×dn)->Prop:=Paired λ(p:e×V) (q:e×dn)=>p.1=q.1/\RelV p.2 q.2
noncomputable def kV:Key->V
 |.inl i=>.int i
 |.inr x=>.str x
inductive HO where
 |lst (xs:List V)
 |tup (xs:List V)
 |dK (l9:List (Key×V))|dT (l9:List (List Key×V))
 |set (S:Int->Bool) (n:Nat)
 |ins (C dx:dj) (fs:List (Str×V))
 |own (x:dj)
 |xd (fs:List (Str×V))
 |met (f x:dj)
 |l4 (lo hi:Int)
 |t6 (o:l6) (u:HO)
 |C1 (ps:Array dn)
 |ext (φ:eL->Prop)
abbrev Hp:=dj->Option HO
noncomputable def upd(H:Hp)(a:dj)(o:HO):Hp:=λb=>if b=a then bB o else H b
theorem zC:upd H a o a=bB o:=by unfold upd;rw[DJ rfl]
theorem zE(h:b≠a):upd H a o b=H b:=by unfold upd;rw[DY h]
theorem Zm{H:Hp}{a:dj}{o u:HO}:upd (upd H a o) a u=upd H a u:=by funext b;unfold upd;split<;>rfl
theorem qa{H:Hp}{a b:dj}{o:HO}(h:H a=bB o)(h':H b=cI):a≠b:=⋯
noncomputable def ub(h:eL)(a:dj)(I:Array dn):Prop:=∃o,h.get? a=bB o/\(o.cls,o.dict)=(wy "tuple",cI)/\∃n,o.data=.seq I n
theorem ub.new(h:eL)(I:Array dn):ub (h.push {cls:=.type "tuple",data:=.seq I}) h.objs.size I:=⟨_,SV _ rfl,rfl,_,rfl⟩
theorem ub.tup(x:ub h a items):DS h a items:=let ⟨o,e,c,r⟩:=x;⟨o,e,(Prod.mk.inj c).1,r⟩
section
variable(P:gg)(w:fA)
noncomputable def n5(H:Hp)(h:eL)(a:dj):HO->Prop
 |.lst e=>e.length<=eK/\∃(b:List dn) (n:Nat),ez e b/\h.get? a=bB {cls:=.type "list",data:=.seq b.toArray n}
 |.tup e=>e.length<=eK/\∃b:List dn,ez e b/\ub h a b.toArray
 |.dK d=>d.length<=eK/\(a==uJ)=cT/\∃l,KV d l/\h.DictOf (kf P w) a l
 |.dT d=>d.length<=eK/\(a==uJ)=cT/\∃e:List (List Key×dj×dn),
  Paired (λ(p:List Key×V) (q:List Key×dj×dn)=>p.1=q.1/\H q.2.1=bB (.tup<|p.1.map kV)/\RelV p.2 q.2.2) d e/\
  ∃o j m,h.get? a=bB o/\o.ExactDict/\o.data=.dict j m/\j.toList=e.map (entryOfKey<|tupleKind<|kf P w)/\(e.map (·.1)).Nodup
 |.set S n=>h.SetOf (intKind P w) a S n
 |.ins C g fs=>H g=bB (.own a)/\fs.length<=1000/\g≠a/\h.get? a=bB (G9 C g)/\
  ∃mA,h.Ns1 g mA/\(∀f,p9 (fs.lookup f)<|mA f)/\R5 mA (fs.map (·.1))
 |.own _=>∃o,h.get? a=bB o
 |.xd fs=>∃mA,h.Ns1 a mA/\∀f,p9 (fs.lookup f)<|mA f
 |.l4 lo r=>∃t u v,h.get? a=bB {cls:=.type "range",data:=.fields #[.int lo t,.int r u,.int 1 v]}
 |.t6 o u=>h.get? a=bB o/\n5 H h a u
 |.C1 s=>h.get? a=bB {cls:=.none,data:=.fields s}
 |.met f x=>h.get? a=bB (PySem.W.methodObj (.ref f)<|.ref x)
 |.ext i=>i h/\(∃o,h.get? a=bB o)/\∀k I:eL,i k->(∀o,k.get? a=bB o->I.get? a=bB o)->i I
noncomputable def k3(H:Hp)(h:eL):Prop:=∀a o,H a=bB o->n5 P w H h a o
end
section
variable{P:gg}{w:fA}{H H':Hp}{h h':eL}{a:dj}{o:HO}
theorem n5.lt(x:n5 P w H h a o):a<h.objs.size:=by
 cases o with
 |lst d=>obtain⟨_,_,_,_,e⟩:=x;exact SY e
 |tup d=>obtain⟨_,_,_,p⟩:=x;exact p.tup.lt
 |dK b=>obtain⟨_,_,_,_,o,_,_,e,_⟩:=x;exact SY e
 |dT b=>obtain⟨_,_,_,_,o,_,_,e,_⟩:=x;exact SY e
 |set S n=>obtain⟨o,_,_,_,e,_⟩:=x;exact SY e
 |ins C g fs=>obtain⟨_,_,_,e,_⟩:=x;exact SY e
 |own y=>obtain⟨_,e⟩:=x;exact SY e
 |xd fs=>obtain⟨_,⟨_,_,_,e,_⟩,_⟩:=x;exact SY e
 |l4 lo i=>obtain⟨_,_,_,e⟩:=x;exact SY e
 |t6 I u=>obtain⟨e,_⟩:=x;exact SY e
 |C1 j=>exact SY x
 |met f y=>exact SY x
 |ext k=>obtain⟨_,⟨_,e⟩,_⟩:=x;exact SY e
theorem Paired.n_:∀{I:List α} {J:List β},Paired F I J->(∀a b,F a b->G a b)->Paired G I J
 |_,_,.nil,_=>.nil
 |_,_,.cons r t,f=>.cons (f _ _ r) (Paired.n_ t f)
theorem n5.y7(x:n5 P w H h a o)(k:∀b u,(b=a\/H b=bB (.own a))->h.get? b=bB u->h'.get? b=bB u)
 (J:∀b,H b=bB (.own a)->H' b=bB (.own a)) (O:∀b xs,H b=bB (.tup xs)->H' b=bB (.tup xs)):n5 P w H' h' a o:=by
 induction o with
 |lst xs=>obtain⟨z,j,n,r,e⟩:=x;exact⟨z,j,n,r,k _ _ (.inl rfl) e⟩
 |tup xs=>obtain⟨z,j,r,I,e,c⟩:=x;exact⟨z,j,r,I,k _ _ (.inl rfl) e,c⟩
 |dK l=>obtain⟨z,y,B,r,I,i,g,e,c⟩:=x;exact⟨z,y,B,r,I,i,g,k _ _ (.inl rfl) e,c⟩
 |dT l=>
  obtain⟨z,y,xs,r,I,i,g,e,c⟩:=x;exact⟨z,y,xs,Paired.n_ r λp q z=>⟨z.1,O _ _ z.2.1,z.2.2⟩,I,i,g,k _ _ (.inl rfl) e,c⟩
 |set S n=>obtain⟨I,i,g,t,e,c⟩:=x;exact⟨I,i,g,t,k _ _ (.inl rfl) e,c⟩
 |ins C E fs=>
  obtain⟨d,z,A,e,m,⟨s,i,g,Q,c⟩,r⟩:=x;exact⟨J _ d,z,A,k _ _ (.inl rfl) e,m,⟨s,i,g,k _ _ (.inr d) Q,c⟩,r⟩
 |own y=>obtain⟨I,e⟩:=x;exact⟨I,k _ _ (.inl rfl) e⟩
 |xd fs=>obtain⟨m,⟨s,i,g,e,c⟩,r⟩:=x;exact⟨m,⟨s,i,g,k _ _ (.inl rfl) e,c⟩,r⟩
 |l4 lo F=>obtain⟨t,u,v,e⟩:=x;exact⟨t,u,v,k _ _ (.inl rfl) e⟩
 |t6 I u U=>obtain⟨e,q⟩:=x;exact⟨k _ _ (.inl rfl) e,U q⟩
 |C1 G=>
  have e:=x;exact k a _ (.inl rfl) e
 |met f y=>
  have e:=x;exact k a _ (.inl rfl) e
 |ext K=>obtain⟨p,⟨o,e⟩,st⟩:=x;exact⟨st _ _ p λo q=>k _ _ (.inl rfl) q,⟨o,k _ _ (.inl rfl) e⟩,st⟩
theorem k3.lt(x:k3 P w H h)(e:H a=bB o):a<h.objs.size:=(x a o e).lt
theorem k3.fresh(x:k3 P w H h)(e:h.objs.size<=a):H a=cI:=by
 cases q:H a with
 |none=>rfl
 |some u=>exact absurd (Ti (x.lt q) e)<|Uh _
theorem k3.kept(x:k3 P w H h)(k:∀b u,h.get? b=bB u->h'.get? b=bB u):k3 P w H h':=λa o e=>
 (x a o e).y7 (λb u _ q=>k b u q) (λ_ q=>q) λ_ _ q=>q
theorem k3.laid(x:k3 P w H h)(k:∀b u,h.get? b=bB u->h'.get? b=bB u)(j:h.objs.size<=a)(new:n5 P w (upd H a o) h' a o):k3 P w (upd H a o) h':=λb u e=>by
 have I:=x.fresh j;by_cases J:b=a
 ·subst J;rw[zC]at e;lia
 ·rw[zE J]at e
  exact(x b u e).y7 (λc v _ q=>k c v q) (λc q=>by rw[zE (qa q I)];exact q) λc d q=>by rw[zE (qa q I)];exact q
end
noncomputable def Rd(H:Hp)(a:dj)(u:HO):Prop:=H a=bB u\/∃o,H a=bB (.t6 o u)
theorem Rd.ok(r:Rd H a u)(x:k3 P w H h):n5 P w H h a u:=by
 rcases r with r|⟨o,r⟩
 ·exact x a u r
 ·obtain⟨_,q⟩:=x a _ r
  exact q
noncomputable def D1:Option HO->Prop
 |some (.lst _)=>True
 |some (.dK _)=>True
 |some (.dT _)=>True
 |some (.set _ _)=>True
 |some (.ins _ _ _)=>True
 |some (.ext _)=>True
 |_=>False
section
variable{P:gg}{w:fA}{H:Hp}{h h':eL}{x e:dj}{o':HO}
theorem k3.write(ok:k3 P w H h)(I:D1 (H x))(j:e=x\/H e=bB (.own x))(k:∀b u,b≠e->h.get? b=bB u->h'.get? b=bB u)(Q:∃u,h'.get? e=bB u)
 (new:n5 P w (upd H x o') h' x o'):k3 P w (upd H x o') h':=λb u q=>by
 have U c y:H c=bB (.own y)->c≠x:=λr z=>by subst z;rw[r]at I;exact I
 have Y c a:H c=bB (.tup a)->c≠x:=λr z=>by subst z;rw[r]at I;exact I
 by_cases J:b=x
 ·subst J;rw[zC]at q;lia
 ·rw[zE J]at q
  by_cases Z:b=e
  ·have O:H b=bB (.own x):=by
    lia
   rw[q]at O;cases O;obtain⟨v,d⟩:=Q;exact⟨v,by rw[Z];exact d⟩
  ·refine(ok b u q).y7 (λc v f r=>k c v ?_ r) (λc r=>by rw[zE (U c b r)];exact r) λc a r=>by rw[zE (Y c a r)];exact r
   grind
end
structure Un(fs ex:List dj)(H H':Hp)(h h':eL):Prop where
 keep:∀b o,h.get? b=bB o->H b=cI->b∉fs->b∉ex->h'.get? b=bB o
 slot:∀b o,h.get? b=bB o->H b=cI->b∈fs->b∉ex->∃sl,h'.get? b=bB {o with slots:=sl}
 free:∀b o,h.get? b=bB o->H b=cI->b∉ex->H' b=cI
 there:∀b o,h.get? b=bB o->b∉ex->∃o',h'.get? b=bB o'
 C2:∀b xs,H b=bB (.tup xs)->H' b=bB (.tup xs)
 yu:∀b o u,H b=bB (.t6 o u)->H' b=bB (.t6 o u)
 zj:∀b ps,H b=bB (.C1 ps)->∃more,H' b=bB (.C1<|ps++more)
section
variable{fs ex:List dj}{H H1:Hp}{h h1 h':eL}{a x e:dj}{o:HO}
theorem Un.any(u:Un fs ex H H1 h h1)(q:h.get? b=bB ob)(n:H b=cI)(I:b∉ex):∃j,h1.get? b=bB {ob with slots:=j}:=by
 by_cases J:b∈fs
 ·exact u.slot b ob q n J I
 ·exact⟨ob.slots,u.keep b ob q n J I⟩
theorem Un.kept(k:∀b u,h.get? b=bB u->h'.get? b=bB u):Un fs ex H H h h':=
 ⟨λb I q _ _ _=>k b I q,λb I q _ _ _=>⟨I.slots,k b I q⟩,λ_ _ _ n _=>n,λb I q _=>⟨I,k b I q⟩,λ_ _ q=>q,λ_ _ _ q=>q,λ_ a q=>⟨#[],by rw[q];simp⟩⟩
theorem Un.refl:Un fs ex H H h h:=Un.kept λ_ _ q=>q
theorem Un.laid(k:∀b u,h.get? b=bB u->h'.get? b=bB u)(hp:h.objs.size<=a)(I:H a=cI):Un fs ex H (upd H a o) h h' where
 keep:=λb u q _ _ _=>k b u q
 slot:=λb u q _ _ _=>⟨u.slots,k b u q⟩
 free:=λb u q n _=>by rw[zE (Tc<|Ti (SY q) hp)];exact n
 there:=λb u q _=>⟨u,k b u q⟩
 C2:=λb xs q=>by rw[zE (qa q I)];exact q
 yu:=λb u xs q=>by rw[zE (qa q I)];exact q
 zj:=λb ps q=>⟨#[],by rw[zE (qa q I),q];simp⟩
theorem Un.write(J:D1 (H x))(j:e=x\/H e=bB (.own x))(k:∀b u,b≠e->h.get? b=bB u->h'.get? b=bB u)(U:∃u,h'.get? e=bB u):Un fs ex H (upd H x o) h h':=by
 have Q b:H b=cI->b≠x:=λn z=>by subst z;rw[n]at J;exact J
 have O b:H b=cI->b≠e:=λn z=>by lia
 have I b u:H b=bB u->¬D1 (bB u)->b≠x:=λq nm z=>by lia
 refine⟨λb u q n _ _=>k b u (O b n) q,λb u q n _ _=>⟨u.slots,k b u (O b n) q⟩,λb u q n _=>by rw[zE (Q b n)];exact n,λb u q _=>?_,
  λb a q=>by rw[zE (I b _ q λz=>z)];exact q,λb u a q=>by rw[zE (I b _ q λz=>z)];exact q,λb d q=>⟨#[],by rw[zE (I b _ q λz=>z),q];simp⟩⟩
 grind
end
noncomputable def MD(h:eL)(H:Hp):List dj:=(SF h.objs.size).filter λa=>(H a).isSome
noncomputable def GI(h:eL)(H:Hp):eL:=PySem.W.hideAll h<|MD h H
theorem rH(h:eL)(H:Hp):(GI h H).objs.size=h.objs.size:=PySem.W.hideAll_size _ _
theorem AJ(e:h.get? b=bB o)(n:H b=cI):(GI h H).get? b=bB o:=
 PySem.W.hideAll_get _ e λI=>by have q:=(TR.mp I).2;rw[n]at q;simp at q
theorem Fc(e:(GI h H).get? b=bB o):h.get? b=bB o/\H b=cI:=by
 have I:=PySem.W.of_hideAll (MD h H) e;refine⟨I,?_⟩;cases q:H b with
 |none=>rfl
 |some x=>
  have J:b∈MD h H:=TR.mpr ⟨SJ.mpr<|SY I,by simp[q]⟩;have z:(GI h H).get? b=cI:=PySem.W.hideAll_none (MD h H) J;lia
noncomputable def Gs(g h:eL)(L:dj):List (dj×l6):=(SF h.objs.size).filterMap λa=>if a=L\/(g.get? a).isSome=cm then cI else (h.get? a).map λo=>(a,o)
noncomputable def k8(g h:eL)(L d:dj):List (dj×l6):=(Gs g h L).filter λp=>decide<|p.1≠d
structure Mod(K:SD)(mg:DZ)(base:eL):Prop where
 L3:K.In base
 glob:base.Ns n0 mg
 blt:∃mb,base.Ns d_ mb/\∀x:Str,x ≠ "__name__"->mb x=u0 x
 nolimit:base.NoLimit
structure Cx where
 prog:gg
 w:fA
 K:SD
 mg:Str->Option dn
 base:eL
 A:kb
 N:List Str
 n9:ea
 DR:Hp
 env:ow
 outer:List ow
 stack:List ow
 ex:List dj
 fn:Str->Bool
 calm:Bool
 pn:List (dj×l6)
 xe:dn->ea->Prop
noncomputable def ui(l:List ow):List dj:=l.filterMap (·.frame)
abbrev Cx.fs(X:Cx):List dj:=ui X.outer
noncomputable def N7(e:f6)(x:Str):Prop:=e.names.lookup x=bB .local\/e.names.lookup x=bB .cell\/e.names.lookup x=bB .free
noncomputable def Loc(e:f6)(x:Str):Prop:=e.names.lookup x=bB .local\/e.names.lookup x=bB .cell
noncomputable def Sr(env:ow)(h:eL)(m:DZ)(x:Str)(u:dn):Prop:=
 (env.kindOf x=bB .local/\m x=bB u)\/((env.kindOf x=bB .cell\/env.kindOf x=bB .free)/\∃c,env.cells.lookup x=bB c/\h.IsCell c (bB u))
structure Cx.Ok(X:Cx):Prop where
 mod:Mod X.K X.mg X.base
 kind:X.env.scope.kind=.function
 glob:X.env.globals=n0
 blt:X.env.builtins=d_
 above:X.n9.heap.objs.size<=X.env.locals
 inj:∀x y c,X.env.cells.lookup x=bB c->X.env.cells.lookup y=bB c->x=y
 has:∀x,(X.env.kindOf x=bB .cell\/X.env.kindOf x=bB .free)->∃c,X.env.cells.lookup x=bB c
 D7:∀x c,X.fn x=cm->X.env.cells.lookup x=bB c->X.n9.heap.objs.size<=c
 hd:X.calm=cm->X.A.handled=cI
 frames:X.A.frames=bB X.stack
 Mx:X.stack=X.outer\/(X.stack=X.env::X.outer/\X.env.frame=bB X.env.locals)
 LV:∀b∈X.ex,b≠X.env.locals/\∀x c,X.env.cells.lookup x=bB c->c≠b
 bs:∀b o,X.base.get? b=bB o->X.n9.heap.get? b=bB o/\X.DR b=cI
 ue:X.base.objs.size<=X.n9.heap.objs.size
 E7:∀b o,X.base.get? b=bB o->b∉X.ex
 E1:∀b∈X.ex,b∉X.fs
 s8:X.n9.heap.FunFrames X.base X.outer
 u7:∀b∈X.fs,X.DR b=cI
structure Inv(X:Cx)(pins:TW)(σ:List (Option V))(H:Hp)(s:ea):Prop where
 ok:X.Ok
 os:s.os=X.n9.os
 bare:xr s.gens
 base:Un X.fs X.ex X.DR H X.n9.heap s.heap
 loc:∃m,s.heap.Ns X.env.locals m/\∀(i:Nat) (x:Str) (v:V),X.N[i]? = bB x->σ[i]? = bB (bB v)->N7 X.env.scope x->∃u,RelV v u/\Sr X.env s.heap m x u
 cell:∀x c,X.env.cells.lookup x=bB c->∃v,s.heap.IsCell c v
 free:H X.env.locals=cI
 uh:∀x c,X.env.cells.lookup x=bB c->H c=cI
 pin:∀p∈X.pn++pins,s.heap.get? p.1=bB p.2/\H p.1=cI/\p.1≠X.env.locals/\p.1∉X.fs/\∀v,p.2.data ≠ .cell v
 eI:k3 X.prog X.w H s.heap
 len:σ.length=X.N.length
section
variable{X:Cx}{pins:TW}{σ:List (Option V)}{H H':Hp}{s:ea}{h':eL}
theorem Cx.Ok.R?(ok:X.Ok)(e:X.base.get? b=bB o):b∉X.fs:=λI=>by have:=(ok.s8.mem I).1;lia
theorem Inv.bs(I:Inv X pins σ H s):∀b o,X.base.get? b=bB o->s.heap.get? b=bB o/\H b=cI:=λb o e=>
 ⟨I.base.keep b o (I.ok.bs b o e).1 (I.ok.bs b o e).2 (I.ok.R? e) (I.ok.E7 b o e),I.base.free b o (I.ok.bs b o e).1 (I.ok.bs b o e).2 (I.ok.E7 b o e)⟩
theorem Inv.bk(I:Inv X pins σ H s):∀b o,X.base.get? b=bB o->s.heap.get? b=bB o:=λb o e=>(I.bs b o e).1
theorem Inv.mod(I:Inv X pins σ H s):Mod X.K X.mg X.base:=I.ok.mod
theorem Inv.i8(I:Inv X pins σ H s):X.K.In s.heap:=I.ok.mod.L3.keeps I.bk
theorem Inv.lt(I:Inv X pins σ H s):X.env.locals<s.heap.objs.size:=let ⟨_,J,_⟩:=I.loc;J.lt
theorem Inv.sz(I:Inv X pins σ H s):X.n9.heap.objs.size<=s.heap.objs.size:=Tf I.ok.above<|T7 I.lt
theorem Inv.T?(I:Inv X pins σ H s)(h:s.heap.objs.size<=a):a∉X.fs:=λJ=>by obtain⟨_,o,O,_⟩:=I.ok.s8.mem J;exact absurd (Ti (SY O)<|Tf I.sz h)<|Uh _
theorem Inv.A8(I:Inv X pins σ H s):∀x c,X.env.cells.lookup x=bB c->c≠X.env.locals:=λx c e z=>by obtain⟨v,o,J,d⟩:=I.cell x c e;obtain⟨m,⟨f,b,a,O,Q,_⟩,_⟩:=I.loc;lia
theorem Inv.s8(I:Inv X pins σ H s):s.heap.FunFrames X.base X.outer:=by
 have all:∀l,(∀b∈ui l,b∈X.fs)->X.n9.heap.FunFrames X.base l->s.heap.FunFrames X.base l:=by
  intro l
  induction l with
  |nil=>intro _ _;trivial
  |cons d r U=>
   intro a Y;obtain⟨Z,⟨L,o,J,g,h,f⟩,i⟩:=Y;have O:=a L (by unfold ui;rw[U_,J];exact SO);obtain⟨j,e⟩:=I.base.slot L o h (I.ok.u7 L O) O λz=>I.ok.E1 L z O;exact⟨Z,⟨L,_,J,g,e,f⟩,U (λb Q=>a b<|by unfold ui;rw[U_,J];exact SQ _ Q) i⟩
 exact all X.outer (λ_ Q=>Q) I.ok.s8
theorem Inv.stack(I:Inv X pins σ H s):s.heap.FunFrames X.base X.stack:=by
 rcases I.ok.Mx with e|⟨e,J⟩
 ·rw[e];exact I.s8
 ·rw[e]
  obtain⟨m,O,_⟩:=I.loc;refine .cons (by rw[I.ok.kind];decide) J O ?_ I.s8;exact Heap.get?_none_of_le<|Tf I.ok.ue I.ok.above
theorem Inv.OW(I:Inv X pins σ H s):∀b∈ui X.stack,b∈X.env.locals::X.fs:=λb J=>by
 rcases I.ok.Mx with e|⟨e,O⟩
 ·rw[e]at J;exact SQ _ J
 ·rw[e]at J
  unfold ui at J;rw[U_,O]at J;exact J
theorem Inv.v_(I:Inv X pins σ H s):∀b∈ui X.stack,H b=cI:=λb J=>by
 rcases SS.mp (I.OW b J)with e|J
 ·rw[e];exact I.free
 ·obtain⟨_,o,O,_⟩:=I.ok.s8.mem J
  exact I.base.free b o O (I.ok.u7 b J) λz=>I.ok.E1 b z J
theorem Inv.step{g':Array GenState}{t':Nat}{d':Drawn}{ch:List dj}(I:Inv X pins σ H s)
 (U:∀b∈ch,(b∈X.ex\/X.n9.heap.objs.size<=b)/\b≠X.env.locals/\(∀x c,X.env.cells.lookup x=bB c->c≠b)/\∀p∈X.pn++pins,p.1≠b)
 (keep:∀b o,b≠X.env.locals->b∉X.fs->b∉ch->s.heap.get? b=bB o->H b=cI->h'.get? b=bB o)
 (j:∀b o,b≠X.env.locals->b∈X.fs->b∉ch->s.heap.get? b=bB o->H b=cI->∃sl,h'.get? b=bB {o with slots:=sl}) (free:∀b o,b∉ch->s.heap.get? b=bB o->H b=cI->H' b=cI)
 (E:∀b o,b∉ch->s.heap.get? b=bB o->∃M,h'.get? b=bB M)
 (S:∀b xs,H b=bB (.tup xs)->H' b=bB (.tup xs)) (L:∀b o u,H b=bB (.t6 o u)->H' b=bB (.t6 o u)) (zj:∀b ps,H b=bB (.C1 ps)->∃more,H' b=bB (.C1<|ps++more))
 (ns:∀m,s.heap.Ns X.env.locals m->h'.Ns X.env.locals m) (eI:k3 X.prog X.w H' h') (hg:xr g'):
 Inv X pins σ H' {s with heap:=h',gens:=g',drawn:=d',toks:=t'}:=by
 have h:∀b o,_=bB o->b≠X.env.locals:=λb o e=>Tc<|Ti (SY e) I.ok.above;have Z:∀b o,_=bB o->b∉X.ex->b∉ch:=λb o e J O=>by
  rcases (U b O).1 with z|z
  ·exact J z
  ·exact absurd (Ti (SY e) z)<|Uh _
 have t:∀x c,_=bB c->∀v,s.heap.IsCell c v->h'.IsCell c v:=λx c e v K=>by
  obtain⟨o,Q,g⟩:=K;have Y:=λz=>(U c z).2.2.1 x c e rfl;by_cases y:c∈X.fs
  ·obtain⟨sl,q⟩:=j c o (I.A8 x c e) y Y Q (I.uh x c e)
   exact⟨_,q,g⟩
  ·exact⟨o,keep c o (I.A8 x c e) y Y Q<|I.uh x c e,g⟩
 refine⟨I.ok,I.os,hg,⟨λb o e n O J=>?_,λb o e n O J=>?_,λb o e n J=>?_,λb o e J=>?_,λb xs e=>S b xs<|I.base.C2 b xs e,λb o xs e=>L b o xs<|I.base.yu b o xs e,λb ps e=>?_⟩,?_,λx c e=>?_,?_,λx c e=>?_,λp A=>?_,eI,I.len⟩
 ·exact keep b o (h b o e) O (Z b o e J) (I.base.keep b o e n O J)<|I.base.free b o e n J
 ·obtain⟨sl,a⟩:=I.base.slot b o e n O J
  obtain⟨F,f⟩:=j b _ (h b o e) O (Z b o e J) a<|I.base.free b o e n J;exact⟨F,f⟩
 ·obtain⟨M,a⟩:=I.base.there b o e J
  exact free b M (Z b o e J) a<|I.base.free b o e n J
 ·obtain⟨M,a⟩:=I.base.there b o e J
  exact E b M (Z b o e J) a
 ·obtain⟨R,a⟩:=I.base.zj b ps e
  grind
 ·obtain⟨m,P,N⟩:=I.loc
  refine⟨m,ns m P,λi x v a f G=>?_⟩;obtain⟨u,r,l⟩:=N i x v a f G;refine⟨u,r,?_⟩;rcases l with l|⟨k,c,e,z⟩
  ·exact .inl l
  ·exact .inr ⟨k,c,e,t x c e _ z⟩
 ·obtain⟨v,z⟩:=I.cell x c e
  exact⟨v,t x c e v z⟩
 ·obtain⟨m,⟨o,_,_,Q,_⟩,_⟩:=I.loc
  exact free _ o (λz=>(U _ z).2.1 rfl) Q I.free
 ·obtain⟨v,o,Q,g⟩:=I.cell x c e
  exact free c o (λz=>(U c z).2.2.1 x c e rfl) Q<|I.uh x c e
 ·obtain⟨e,n,B,C,d⟩:=I.pin p A
  have Y:=λz=>(U p.1 z).2.2.2 p A rfl;exact⟨keep p.1 p.2 B C Y e n,free p.1 p.2 Y e n,B,C,d⟩
theorem Inv.un{t':Nat}(I:Inv X pins σ H s)(u:Un X.fs [] H H' s.heap h')(j:k3 X.prog X.w H' h'):Inv X pins σ H' {s with heap:=h',toks:=t'}:=by
 obtain⟨m,⟨o,g,f,O,r⟩,_⟩:=id I.loc;obtain⟨k,U⟩:=u.any O I.free ⋯;exact I.step (ch:=[]) (λ_ z=>nomatch z) (λb o _ J _ e n=>u.keep b o e n J ⋯) (λb o _ J _ e n=>u.slot b o e n J ⋯) (λb o _ e n=>u.free b o e n ⋯) (λb o _ e=>u.there b o e ⋯) u.C2 u.yu u.zj (λh Y=>by obtain⟨i,Z,a,Q,d⟩:=Y;rw[O]at Q;cases Q;exact⟨_,Z,a,U,d⟩) j I.bare
theorem Inv.call{E:Array GenState}{t':Nat}{d':Drawn}{ch:List dj}(I:Inv X pins σ H s)(u:Un (ui X.stack) ch H H' s.heap h')(j:k3 X.prog X.w H' h')(Z:xr E)
 (Q:∀b∈ch,(b∈X.ex\/X.n9.heap.objs.size<=b)/\b≠X.env.locals/\(∀x c,X.env.cells.lookup x=bB c->c≠b)/\∀p∈X.pn++pins,p.1≠b):
 Inv X pins σ H' {s with heap:=h',gens:=E,drawn:=d',toks:=t'}:=by
 obtain⟨m,⟨o,k,i,U,r⟩,_⟩:=id I.loc;obtain⟨y,O⟩:=u.any U I.free λz=>(Q _ z).2.1 rfl;exact I.step Q (λb o O f J e n=>u.keep b o e n (λz=>(SS.mp<|I.OW b z).elim O f) J) (λb o _ _ J e n=>u.any e n J) (λb o J e n=>u.free b o e n J) (λb o J e=>u.there b o e J) u.C2 u.yu u.zj (λl g=>by obtain⟨t,a,d,Y,h⟩:=g;rw[U]at Y;cases Y;exact⟨_,a,d,O,h⟩) j Z
theorem Inv.turned{t':Nat}{j:dj}(I:Inv X pins σ H s)(k:∀b o,b≠j->s.heap.get? b=bB o->h'.get? b=bB o)(L:H j=cI)(O:j≠X.env.locals)
 (E:j∈X.ex\/X.n9.heap.objs.size<=j) (Q:∀x c,X.env.cells.lookup x=bB c->c≠j) (U:∀p∈X.pn++pins,p.1≠j):Inv X pins σ H {s with heap:=h',toks:=t'}:=by
 refine I.step (ch:=[j]) (λb Y=>?_) (λb o _ _ J e _=>k b o (λz=>J<|by simp[z]) e) (λb o _ _ J e _=>⟨o.slots,k b o (λz=>J<|by simp[z]) e⟩) (λ_ _ _ _ n=>n)
  (λb o J e=>⟨o,k b o (λz=>J<|by simp[z]) e⟩) (λ_ _ e=>e) (λ_ _ _ e=>e) (λb g e=>⟨#[],by rw[e];simp⟩) (λm Z=>?_) (λb u e=>?_) I.bare
 ·have e:=by simpa using Y
  subst e;exact⟨E,O,Q,U⟩
 ·obtain⟨o,d,a,f,r⟩:=Z
  exact⟨o,d,a,k _ o (Tq O) f,r⟩
 ·refine(I.eI b u e).y7 (λc v J q=>k c v ?_ q) (λ_ q=>q) λ_ _ q=>q
  lia
theorem Inv.tok(I:Inv X pins σ H s)(t:Nat):Inv X pins σ H {s with toks:=t}:=I.un Un.refl I.eI
theorem Inv.kept(I:Inv X pins σ H s)(k:∀b u,s.heap.get? b=bB u->h'.get? b=bB u):Inv X pins σ H {s with heap:=h',toks:=t'}:=I.un (Un.kept k)<|I.eI.kept k
theorem Inv.laid(I:Inv X pins σ H s)(k:∀b u,s.heap.get? b=bB u->h'.get? b=bB u)(e:s.heap.objs.size<=a)(new:n5 X.prog X.w (upd H a o) h' a o):
 Inv X pins σ (upd H a o) {s with heap:=h',toks:=t'}:=I.un (Un.laid k e<|I.eI.fresh e)<|I.eI.laid k e new
theorem Inv.write(I:Inv X pins σ H s)(J:D1 (H x))(j:e=x\/H e=bB (.own x))(k:∀b u,b≠e->s.heap.get? b=bB u->h'.get? b=bB u)(O:∃u,h'.get? e=bB u)
 (new:n5 X.prog X.w (upd H x o) h' x o):Inv X pins σ (upd H x o) {s with heap:=h',toks:=t'}:=I.un (Un.write J j k O)<|I.eI.write J j k O new
theorem Inv.L9(I:Inv X pins σ H s)(h:∀p∈J,s.heap.get? p.1=bB p.2/\H p.1=cI/\p.1≠X.env.locals/\p.1∉X.fs/\∀v,p.2.data ≠ .cell v):Inv X J σ H s:=
 ⟨I.ok,I.os,I.bare,I.base,I.loc,I.cell,I.free,I.uh,λp a=>(Uo.mp a).elim (λz=>I.pin p<|_d _ z) (h p),I.eI,I.len⟩
theorem gr{N:List Str}(I:N.Nodup){i j:Nat}{x:Str}(a:N[i]? = bB x)(b:N[j]? = bB x):i=j:=by obtain⟨e,d⟩:=nt.mp a;obtain⟨O,J⟩:=nt.mp b;exact(List.getElem_inj I).mp (d.trans J.symm)
theorem WD{M:Model}{A:kb}{E:EQ}{i:Nat}{x:Str}{v:V}{u:dn}{Q:Unit->ea->Prop}(I:Inv X pins σ H s)(hN:X.N.Nodup)(L:X.N[i]? = bB x)(J:Loc X.env.scope x)(r:RelV v u)
 (h:∀s',Inv X pins (σ.set i<|some v) H s'->(∃a,wV a s.heap s'.heap/\(a=X.env.locals\/X.env.cells.lookup x=bB a))->Q () s') (hf:X.fn x=cm\/X.env.scope.names.lookup x=bB .local:=by first|exact .inl rfl|exact .inr rfl|assumption):wpAny M A (storeName X.env x u) Q E s:=by
 obtain⟨m,G,hl⟩:=id I.loc;have an:(X.env.scope.kind ==.class || (X.env.scope.kind ==.module&&X.env.locals != X.env.globals))=cT:=by rw[I.ok.kind];rfl
 have ac:i<σ.length:=by rw[I.len];exact(nt.mp L).1
 have A8:=I.A8;have ad:∀{a:dj} {h':eL},(∃o,s.heap.get? a=bB o/\H a=cI)->wV a s.heap h'->k3 X.prog X.w H h':=λ{a h'} ha f b ob e=>by obtain⟨_,_,b4⟩:=ha;refine(I.eI b ob e).y7 (λc B O q=>(f.2 c ?_).trans q) (λ_ q=>q) λ_ _ q=>q;lia
 rcases J with hk|hk
 ·refine wpAny_storeName_local hk G (λh' ap f=>?_) an
  refine dt λkZ=>?_;obtain⟨oL,_,_,ax,_⟩:=id G;refine kZ ?_;refine h _ ⟨I.ok,I.os,I.bare,⟨λb o e n Y J=>?_,λb o e n Y J=>?_,I.base.free,λb o e J=>?_,I.base.C2,I.base.yu,I.base.zj⟩,⟨_,ap,λj y v' g U F=>?_⟩,λy c e=>?_,I.free,I.uh,λp K=>?_,ad ⟨oL,ax,I.free⟩ f,by simpa using I.len⟩ ⟨_,f,.inl rfl⟩
  ·exact(f.2 b<|Tc<|Ti (SY e) I.ok.above).trans (I.base.keep b o e n Y J)
  ·obtain⟨T,g⟩:=I.base.slot b o e n Y J
   exact⟨T,(f.2 b<|Tc<|Ti (SY e) I.ok.above).trans g⟩
  ·obtain⟨R,g⟩:=I.base.there b o e J
   exact⟨R,(f.2 b<|Tc<|Ti (SY e) I.ok.above).trans g⟩
  ·by_cases Z:j=i
   ·subst Z
    rw[L]at g;cases g;rw[Te ac]at U;cases U;exact⟨u,r,.inl ⟨hk,by simp⟩⟩
   ·rw[SK (Tq Z)]at U
    obtain⟨W,S,q⟩:=hl j y v' g U F;refine⟨W,S,?_⟩;rcases q with⟨k,e⟩|⟨k,c,e,z⟩
    ·refine .inl ⟨k,?_⟩
     have:y≠x:=λe=>Z<|gr hN g<|e ▸ L;simp[this,e]
    ·exact .inr ⟨k,c,e,z.sameBut f<|A8 y c e⟩
  ·obtain⟨B,z⟩:=I.cell y c e
   exact⟨B,z.sameBut f<|A8 y c e⟩
  ·obtain⟨e,n,t,P,d⟩:=I.pin p K
   exact⟨(f.2 p.1 t).trans e,n,t,P,d⟩
 ·have C:X.fn x=cm:=by
   lia
  obtain⟨c,O⟩:=I.ok.has x<|.inl hk;obtain⟨B,z⟩:=I.cell x c O;refine wpAny_storeName_cell I.ok.kind hk O z<|λh' ak f=>?_;obtain⟨oc,al,b0⟩:=id z;refine h _ ⟨I.ok,I.os,I.bare,⟨λb o e n Y J=>?_,λb o e n Y J=>?_,I.base.free,λb o e J=>?_,I.base.C2,I.base.yu,I.base.zj⟩,⟨m,G.sameBut f<|Tq<|A8 x c O,λj y v' g U F=>?_⟩,λy l e=>?_,I.free,I.uh,λp K=>?_,ad ⟨oc,al,I.uh x c O⟩ f,by simpa using I.len⟩ ⟨c,f,.inr O⟩
  ·exact(f.2 b<|Tc<|Ti (SY e)<|I.ok.D7 x c C O).trans (I.base.keep b o e n Y J)
  ·obtain⟨T,g⟩:=I.base.slot b o e n Y J
   exact⟨T,(f.2 b<|Tc<|Ti (SY e)<|I.ok.D7 x c C O).trans g⟩
  ·obtain⟨R,g⟩:=I.base.there b o e J
   exact⟨R,(f.2 b<|Tc<|Ti (SY e)<|I.ok.D7 x c C O).trans g⟩
  ·by_cases Z:j=i
   ·subst Z
    rw[L]at g;cases g;rw[Te ac]at U;cases U;exact⟨u,r,.inr ⟨.inl hk,c,O,ak⟩⟩
   ·rw[SK (Tq Z)]at U
    obtain⟨W,S,q⟩:=hl j y v' g U F;refine⟨W,S,?_⟩;rcases q with q|⟨k,l,e,z'⟩
    ·exact .inl q
    ·refine .inr ⟨k,l,e,z'.sameBut f ?_⟩
     rintro rfl;exact Z<|gr hN g<|I.ok.inj _ _ _ e O ▸ L
  ·by_cases am:l=c
   ·subst am;exact⟨_,ak⟩
   ·obtain⟨w2,z2⟩:=I.cell y l e
    exact⟨w2,z2.sameBut f am⟩
  ·obtain⟨e,n,t,P,d⟩:=I.pin p K
   refine⟨(f.2 p.1 ?_).trans e,n,t,P,d⟩;intro q;rw[q,al]at e;have q':=TJ e;exact d B (by rw[<-q'];exact b0)
theorem fv(I:Inv X pins σ H s)(J:X.N.Nodup)(j:X.N[i]? = bB x)(O:Loc X.env.scope x)(r:RelV v u)
 (h:∀e,Inv X pins (σ.set i<|some v) H e->Q () e) (U:X.fn x=cm\/X.env.scope.names.lookup x=bB .local:=by first|exact .inl rfl|exact .inr rfl|assumption):wpAny M A (storeName X.env x u) Q E s:=
 WD I J j O r (λe Y _=>h e Y) U
theorem Inv.y?(I:Inv X pins σ H s)(J:s'.os=s.os)(u:Un (ui X.stack) ch H H' s.heap s'.heap)(j:k3 X.prog X.w H' s'.heap)(O:xr s'.gens)
 (Q:∀b∈ch,(b∈X.ex\/X.n9.heap.objs.size<=b)/\b≠X.env.locals/\(∀x c,X.env.cells.lookup x=bB c->c≠b)/\∀p∈X.pn++pins,p.1≠b):Inv X pins σ H' s':=by
 obtain⟨h',d,a,g,f⟩:=s';have e:=J;subst e;exact I.call u j O Q
end
abbrev XK:=dn->Option dj->Hp->Prop
abbrev St:=List (Option V)
abbrev VK:=V->Hp->Prop
abbrev TE:=St->Hp->VK->Prop
abbrev TT:=St->Hp->(Bool->Hp->Prop)->Prop
abbrev TA:=St->Hp->(List V->Hp->Prop)->Prop
structure Ends where
 nx:St->Hp->Prop
 rt:VK
 bk:St->Hp->Prop:=λ_ _=>False
 ct:St->Hp->Prop:=λ_ _=>False
abbrev TS:=Ends->St->Hp->Prop
noncomputable def EP(X:Cx)(e:TW)(z:St)(Q:VK)(u:dn)(j:ea):Prop:=∃v a,Inv X e z a j/\RelV v u/\Q v a
noncomputable def TP(X:Cx)(e:TW)(z:St)(Q:Bool->Hp->Prop)(b:Bool)(j:ea):Prop:=∃a,Inv X e z a j/\Q b a
noncomputable def AP(X:Cx)(e:TW)(E:St)(Q:List V->Hp->Prop)(z:List dn)(j:ea):Prop:=∃b a,Inv X e E a j/\ez b z/\Q b a
noncomputable def SP(X:Cx)(e:TW)(D:Ends)(f:Flow)(j:ea):Prop:=
 match f with
 |.next=>∃I a,Inv X e I a j/\D.nx I a
 |.brk=>∃I a,Inv X e I a j/\D.bk I a
 |.cont=>∃I a,Inv X e I a j/\D.ct I a
 |.ret u=>∃v I a,Inv X e I a j/\RelV v u/\D.rt v a
noncomputable def PE(X:Cx)(e:dv)(t:TE):Prop:=
 ∀(a:TW) (s:ea) (b:St) (H:Hp) (Q:VK),Inv X a b H s->t b H Q->wpAny (d8 X.prog X.w) X.A (dy e X.env) (EP X a b Q) X.xe s
noncomputable def PT(X:Cx)(e:dv)(t:TT):Prop:=
 ∀(a:TW) (s:ea) (b:St) (H:Hp) (Q:Bool->Hp->Prop),Inv X a b H s->t b H Q->wpAny (d8 X.prog X.w) X.A (B0 e X.env<|eval e X.env) (TP X a b Q) X.xe s
noncomputable def PW(X:Cx)(e:dv)(t:TT):Prop:=
 ∀(I:Sem dn) (a:TW) (s:ea) (b:St) (H:Hp) (Q:Bool->Hp->Prop),Inv X a b H s->t b H Q->wpAny (d8 X.prog X.w) X.A (B0 e X.env I) (TP X a b Q) X.xe s
theorem PW.pt(h:PW X e t):PT X e t:=h _
noncomputable def PA(X:Cx)(es:List dv)(t:TA):Prop:=
 ∀(pos:eU) (a:TW) (s:ea) (b:St) (H:Hp) (Q:List V->Hp->Prop),Inv X a b H s->t b H Q->wpAny (d8 X.prog X.w) X.A (OU<|backTo pos<|starEach es X.env) (AP X a b Q) X.xe s
noncomputable def PS(X:Cx)(st:hB)(t:TS):Prop:=
 ∀(a:TW) (s:ea) (b:St) (H:Hp) (D:Ends),Inv X a b H s->t D b H->wpAny (d8 X.prog X.w) X.A (exec st X.env) (SP X a D) X.xe s
noncomputable def mm(X:Cx)(st:List hB)(t:TS):Prop:=
 ∀(a:TW) (s:ea) (b:St) (H:Hp) (D:Ends),Inv X a b H s->t D b H->wpAny (d8 X.prog X.w) X.A (execs st X.env) (SP X a D) X.xe s
theorem ed(h:wpAny M A t Q E s)(I:∀a s,Q a s->Q' a s):wpAny M A t Q' E s:=rN h I λ_ _ x=>x
section
variable{X:Cx}
noncomputable def tK(i:Nat):TE:=λa H Q=>∃v,a[i]? = bB (bB v)/\Q v H
noncomputable def tC(v:V):TE:=λ_ H Q=>Q v H
theorem Im(Z:X.N[i]? = bB x)(E:N7 X.env.scope x)(j:(x==("__debug__"))=cT:=by decide)(z:(x==("__classdict__"))=cT:=by decide):PE X (.Name x pos) (tK i):=by
 intro a s g H Q I h;obtain⟨v,e,h⟩:=h;obtain⟨m,f,b⟩:=I.loc;obtain⟨u,r,l⟩:=b i x v Z e E;have O:EP X a g Q u s:=⟨v,H,I,r,h⟩;rcases l with⟨J,d⟩|⟨J,c,U,Y⟩
 ·exact F_ (wpAny_loadName_local I.ok.kind J f d O) j
 ·rcases J with J|J
  ·exact F_ (wpAny_loadName_cell I.ok.kind J U Y O) j
  ·exact F_ (wpAny_loadName_free I.ok.kind J U Y O z) j
theorem Iw:PE X (.Constant (.int i) j pos) (tC<|.int i):=λ_ _ _ H _ I h=>wpAny_Constant_int ⟨.int i,H,I.tok _,⟨_,rfl⟩,h⟩
theorem ER:PE X (.Constant (.bool b) j pos) (tC<|.bl b):=λ_ _ _ H _ I h=>Constant_bool ⟨.bl b,H,I,rfl,h⟩
theorem ph:PE X (.Constant .none j pos) (tC .d9):=λ_ _ _ H _ I h=>Constant_none ⟨.d9,H,I,rfl,h⟩
theorem Ip:PE X (.Constant (.str x) j pos) (tC<|.str x):=λ_ _ _ H _ I h=>Calls.Constant_str ⟨.str x,H,I.tok _,⟨_,rfl⟩,h⟩
noncomputable def Gl(X:Cx)(x:Str):Prop:=X.env.kindOf x=bB .globalImplicit
theorem Kr(I:Inv X pins σ H s)(J:Gl X x)(O:X.mg x=bB u)(h:Q u s)
 (e:(x==("__debug__"))=cT:=by decide):wpAny (d8 X.prog X.w) X.A (dy (.Name x pos) X.env) Q E s:=
 Calls.Name_function_global I.ok.kind J (Calls.loadGlobal_global (by rw[I.ok.glob];exact I.mod.glob.keeps I.bk) O h) e
theorem xU(I:Inv X pins σ H s)(J:Gl X x)(O:X.mg x=cI)(U:u0 x=bB u)(h:Q u s)
 (Y:x ≠ "__name__":=by decide) (e:(x==("__debug__"))=cT:=by decide):wpAny (d8 X.prog X.w) X.A (dy (.Name x pos) X.env) Q E s:=by
 obtain⟨b,a,Z⟩:=I.mod.blt;exact Calls.Name_function_global I.ok.kind J (Calls.loadGlobal_builtin (by rw[I.ok.glob];exact I.mod.glob.keeps I.bk) O (by rw[I.ok.blt];exact a.keeps I.bk) ((Z x Y).trans U) h) e
variable{a b:dv}{ta tb:TE}{pos:eU}
noncomputable def PC(X:Cx)(I:CmpOp)(a b:dv)(t:TE):Prop:=
 ∀(d:TW) (s:ea) (e:St) (H:Hp) (Q:VK),Inv X d e H s->t e H Q->
  wpAny (d8 X.prog X.w) X.A (dy a X.env) (λv J=>wpAny (d8 X.prog X.w) X.A (dy b X.env) (λu O=>wpAny (d8 X.prog X.w) X.A (m3 I v u) (EP X d e Q) X.xe O) X.xe J) X.xe s
theorem Al(b:dv)(h:op ≠ .In)(I:op ≠ .NotIn):pk op b=cT:=by
 have a:(op==CmpOp.In)=cT:=by cases op<;>first|rfl|exact absurd rfl h
 have J:(op==CmpOp.NotIn)=cT:=by cases op<;>first|rfl|exact absurd rfl I
 cases b<;>simp[pk,a,J]
noncomputable def tB(t:TE):TT:=λb H Q=>t b H λx a=>∃c,x=.bl c/\Q c a
theorem HX(h:PC X op a b t)(j:pk op b=cT:=by first|exact Al _ ⋯ ⋯ |rfl):PT X (.Compare a [op] [b] pos) (tB t):=by intro e s i H Q I g;refine zeo (ed (h e s i H _ I g) λv k j=>ed j λu l J=>ed J λc m O=>?_) j;obtain⟨x,f,U,Y,Z⟩:=O;obtain⟨d,rfl,q⟩:=Z;cases Y;exact UH ⟨f,U,q⟩
theorem HV(h:PE X e t)(he:∀J,B0 e X.env J=(do let v<-J;y6 e.pos;rn [v] (FI v)):=by intro _;rfl):PT X e (tB t):=by intro a s g H Q I f;refine isTrue_plain (ed (h a s g H _ I f) λv i O=>?_)<|he _;obtain⟨x,b,U,Y,Z⟩:=O;obtain⟨d,rfl,q⟩:=Z;cases Y;exact UH ⟨b,U,q⟩
variable{tA Mz:TT}{k8:List dv}
noncomputable def Pl(t u:TT):TT:=λb H Q=>t b H λc a=>if c=cm then u b a Q else Q cT a
noncomputable def tOr(t u:TT):TT:=λb H Q=>t b H λc a=>if c=cm then Q cm a else u b a Q
noncomputable def RF(t:TT):TT:=λb H Q=>t b H λc a=>Q (!c) a
theorem oC(j:PT X a tA):PW X (.BoolOp .And [a] pos) tA:=by
 intro J b s d H Q I h;refine isTrue_and<|ed (j b s d H Q I h) λc f e=>?_;cases c with
 |true=>exact isTrue_and_nil e
 |false=>exact e
theorem BG(j:PT X a tA):PW X (.BoolOp .Or [a] pos) tA:=by
 intro J b s d H Q I h;refine isTrue_or<|ed (j b s d H Q I h) λc f e=>?_;cases c with
 |false=>exact isTrue_or_nil e
 |true=>exact e
theorem BH(j:PT X a tA)(U:PW X (.BoolOp .And (b::k8) pos) Mz):PW X (.BoolOp .And (a::b::k8) pos) (Pl tA Mz):=by
 intro Y d s f H Q I h;refine isTrue_and<|ed (j d s f H _ I h) λc g Z=>?_;obtain⟨e,J,O⟩:=Z;cases c with
 |true=>exact U Y d g f e Q J O
 |false=>exact⟨e,J,O⟩
theorem HJ(j:PT X a tA)(U:PW X (.BoolOp .Or (b::k8) pos) Mz):PW X (.BoolOp .Or (a::b::k8) pos) (tOr tA Mz):=by
 intro Y d s f H Q I h;refine isTrue_or<|ed (j d s f H _ I h) λc g Z=>?_;obtain⟨e,J,O⟩:=Z;cases c with
 |true=>exact⟨e,J,O⟩
 |false=>exact U Y d g f e Q J O
theorem HW(ha:PT X a tA):PT X (.UnaryOp .Not a pos) (RF tA):=by intro b s d H Q I h;exact isTrue_not<|ha b s d H _ I h
noncomputable def NI(ta tb:TE):TE:=λb H Q=>ta b H λx a=>∃c,x=.bl c/\if c=cm then tb b a Q else Q (.bl cT) a
noncomputable def NB(ta:TE):TE:=λb H Q=>ta b H λx a=>∃c,x=.bl c/\Q (.bl<|!c) a
theorem Iq(h:PE X a t):PE X (.BoolOp op [a] pos) t:=λb s e H Q I d=>BoolOp_one<|h b s e H Q I d
theorem Iy(j:PE X a ta)(U:PE X (.BoolOp .And (b::k8) pos) tb):PE X (.BoolOp .And (a::b::k8) pos) (NI ta tb):=by
 intro d s f H Q I h;refine BoolOp_and<|ed (j d s f H _ I h) λv g Y=>?_;obtain⟨x,e,O,Z,J⟩:=Y;obtain⟨c,rfl,J⟩:=J;cases Z;refine UH ?_;cases c with
 |true=>exact U d g f e Q O J
 |false=>exact⟨.bl cT,e,O,rfl,J⟩
theorem Ir(e:PE X a ta):PE X (.UnaryOp .Not a pos) (NB ta):=by intro b s f H Q I h;refine UnaryOp_<|ed (e b s f H _ I h) λv g O=>?_;obtain⟨x,d,U,Y,J⟩:=O;obtain⟨c,rfl,J⟩:=J;cases Y;exact not_of<|UH ⟨.bl<|!c,d,U,rfl,J⟩
noncomputable def O0(t:TT)(ta tb:TE):TE:=λa H Q=>t a H λc b=>if c=cm then ta a b Q else tb a b Q
theorem zdY(U:PT X c tA)(j:PE X a ta)(Y:PE X b tb):PE X (.IfExp c a b pos) (O0 tA ta tb):=by
 intro e s f H Q I h;refine wpAny_IfExp<|ed (U e s f H _ I h) λd i Z=>?_;obtain⟨g,J,O⟩:=Z;cases d with
 |true=>exact j e i f g Q J O
 |false=>exact Y e i f g Q J O
end
noncomputable def fy(K:SD)(H:Hp)(a:dj)(xs:List V):Prop:=
 Rd H a (.lst xs)\/
  ∃(o:l6) (b:Array dn) (n:Nat),K.lookup a=bB o/\o.cls=.type "list"/\o.dict=cI/\o.data=.seq b n/\b.size<=eK/\ez xs b.toList
noncomputable def hH(K:SD)(H:Hp)(a:dj)(xs:List V):Prop:=
 Rd H a (.tup xs)\/
  ∃(o:l6) (b:Array dn) (n:Nat),K.lookup a=bB o/\(o.cls,o.dict)=(wy "tuple",cI)/\o.data=.seq b n/\b.size<=eK/\ez xs b.toList
noncomputable def Sm:dn->Option V
 |.none=>bB .d9
 |.bool b=>bB (.bl b)
 |.int i _=>bB (.int i)
 |.str x _=>bB (.str x)
 |.bytes b _=>bB (.Dp b)
 |.float b _=>bB (.L0 b)
 |.ref a=>bB (.ref a)
 |.type n=>bB (.ty n)
 |_=>cI
theorem RelV.abs(r:RelV x u):Sm u=bB x:=by
 cases x with
 |d9=>cases r;rfl
 |bl _=>cases r;rfl
 |int _=>obtain⟨t,rfl⟩:=r;rfl
 |str _=>obtain⟨t,rfl⟩:=r;rfl
 |Dp _=>obtain⟨t,rfl⟩:=r;rfl
 |L0 _=>obtain⟨t,rfl⟩:=r;rfl
 |ref _=>cases r;rfl
 |ty _=>cases r;rfl
theorem RelV.inj(r:RelV x u)(q:RelV y u):x=y:=TJ<|r.abs.symm.trans q.abs
theorem ez.inj:∀{xs ys:List V} {e:List dn},ez xs e->ez ys e->xs=ys
 |_,_,_,.nil,.nil=>rfl
 |_,_,_,.cons r t,.cons r' t'=>by rw[r.inj r',ez.inj t t']
section
variable{X:Cx}{pins:TW}{σ:St}{H:Hp}{s:ea}{a:dj}{xs ys:List V}
theorem fy.of{K:SD}(h:H a=bB (.lst xs)):fy K H a xs:=.inl (.inl h)
theorem hH.of{K:SD}(h:H a=bB (.tup xs)):hH K H a xs:=.inl (.inl h)
theorem Inv.list(I:Inv X pins σ H s)(h:fy X.K H a xs):∃its,ez xs its/\PlainL s.heap a its.toArray/\xs.length<=eK:=by
 rcases h with h|⟨o,its,n,J,O,hd,hs,hz,r⟩
 ·obtain⟨z,its,n,r,e⟩:=h.ok I.eI
  exact⟨its,r,⟨_,n,e,rfl,rfl,rfl⟩,z⟩
 ·refine⟨its.toList,r,⟨o,n,I.i8 a o J,O,hd,by simpa using hs⟩,?_⟩
  have e:=r.length;simp only[Uy]at e;lia
theorem Inv.tuple(I:Inv X pins σ H s)(h:hH X.K H a xs):∃its,ez xs its/\DS s.heap a its.toArray/\xs.length<=eK:=by
 rcases h with h|⟨o,its,n,J,O,hs,hz,r⟩
 ·obtain⟨z,its,r,p⟩:=h.ok I.eI
  exact⟨its,r,p.tup,z⟩
 ·refine⟨its.toList,r,⟨o,I.i8 a o J,(Prod.mk.inj O).1,n,by simpa using hs⟩,?_⟩
  have e:=r.length;simp only[Uy]at e;lia
theorem Inv.OL(I:Inv X pins σ H s)(h:fy X.K H a xs)(h':fy X.K H a ys):xs=ys:=by
 obtain⟨g,r,⟨o,n,e,_,_,d⟩,_⟩:=I.list h;obtain⟨f,i,⟨k,j,J,_,_,b⟩,_⟩:=I.list h';rw[e]at J;cases J;rw[d]at b;injection b with O _;have:=by simpa using congrArg Array.toList O
 subst this;exact r.inj i
theorem Inv.E'(I:Inv X pins σ H s)(h:hH X.K H a xs)(h':hH X.K H a ys):xs=ys:=by
 obtain⟨g,r,⟨o,e,_,n,d⟩,_⟩:=I.tuple h;obtain⟨f,i,⟨k,J,_,j,b⟩,_⟩:=I.tuple h';rw[e]at J;cases J;rw[d]at b;injection b with O _;have:=by simpa using congrArg Array.toList O
 subst this;exact r.inj i
end
abbrev Cx.ti(X:Cx)(E:EQ):Cx:={X with xe:=E}
abbrev Cx.Du(X:Cx):Cx:=X.ti λ_ _=>False
theorem Cx.Ok.ti{X:Cx}(ok:X.Ok)(E:EQ):(X.ti E).Ok:=
 ⟨ok.mod,ok.kind,ok.glob,ok.blt,ok.above,ok.inj,ok.has,ok.D7,ok.hd,ok.frames,ok.Mx,ok.LV,ok.bs,ok.ue,ok.E7,ok.E1,ok.s8,ok.u7⟩
theorem Cx.Ok.v3{X:Cx}{E:EQ}(ok:(X.ti E).Ok):X.Ok:=
 ⟨ok.mod,ok.kind,ok.glob,ok.blt,ok.above,ok.inj,ok.has,ok.D7,ok.hd,ok.frames,ok.Mx,ok.LV,ok.bs,ok.ue,ok.E7,ok.E1,ok.s8,ok.u7⟩
section
variable{X:Cx}{pins:TW}{σ:St}{H:Hp}{s:ea}{E:EQ}
theorem Inv.ti(I:Inv X pins σ H s)(E:EQ):Inv (X.ti E) pins σ H s:=⟨I.ok.ti E,I.os,I.bare,I.base,I.loc,I.cell,I.free,I.uh,I.pin,I.eI,I.len⟩
theorem Inv.v3(I:Inv (X.ti E) pins σ H s):Inv X pins σ H s:=⟨I.ok.v3,I.os,I.bare,I.base,I.loc,I.cell,I.free,I.uh,I.pin,I.eI,I.len⟩
theorem SP.v3(h:SP (X.ti E) pins D f s'):SP X pins D f s':=by
 cases f with
 |next=>obtain⟨J,a,I,q⟩:=h;exact⟨J,a,I.v3,q⟩
 |brk=>obtain⟨J,a,I,q⟩:=h;exact⟨J,a,I.v3,q⟩
 |cont=>obtain⟨J,a,I,q⟩:=h;exact⟨J,a,I.v3,q⟩
 |ret u=>obtain⟨v,J,a,I,r,q⟩:=h;exact⟨v,J,a,I.v3,r,q⟩
theorem mm.Du{st:List hB}{t:TS}(h:mm X.Du st t):mm X st t:=λpins s σ H D I a=>
 rN (h pins s σ H D (I.ti _) a) (λ_ _ q=>q.v3) λ_ _ z=>DG z
end
section
variable{X:Cx}{st:hB}{k8:List hB}{t u:TS}{e:dv}{te:TE}{pos:eU}
noncomputable def uk:TS:=λD a H=>D.nx a H
noncomputable def GC(t u:TS):TS:=λD a H=>t {D with nx:=u D} a H
theorem X7:mm X [] uk:=λ_ _ a H _ I h=>Sy ⟨a,H,I,h⟩
theorem yf(j:PS X st t)(J:mm X k8 u):mm X (st::k8) (GC t u):=by
 intro a s e H D I h;refine wpAny_execs_cons<|ed (j a s e H _ I h) λf d q=>?_;cases f with
 |next=>
  obtain⟨O,b,Q,q⟩:=q;exact J a d O b D Q q
 |ret v=>exact q
 |brk=>exact q
 |cont=>exact q
theorem vM(j:PS X st t):mm X [st] t:=by
 intro a s b H D I h;refine wpAny_execs_cons<|ed (j a s b H D I h) λf d q=>?_;cases f with
 |next=>exact Sy q
 |ret v=>exact q
 |brk=>exact q
 |cont=>exact q
noncomputable def NH:TS:=λD a H=>D.ct a H
theorem cH:PS X (.Continue pos) NH:=λ_ _ a H _ I h=>wpAny_Continue ⟨a,H,I,h⟩
theorem Inv.quiet(I:Inv X pins σ H s):interactive X.env=cT:=by simp[interactive,I.ok.kind]
noncomputable def NF(te:TE):TS:=λD a H=>te a H λ_ b=>D.nx a b
theorem Vn(j:PE X e te)(hs:tG e cI pos.line X.env=pure cT:=by rfl):PS X (.Expr e pos) (NF te):=by intro a s b H D I h;exact wpAny_Expr_any (ed (j a s b H _ I h) λv f ⟨x,d,J,Q,O⟩=>⟨b,d,J,O⟩) I.quiet hs
noncomputable def Mr(te:TE):TS:=λD a H=>te a H D.rt
theorem QB(j:PE X e te):PS X (.Return (bB e) pos) (Mr te):=by intro a s b H D I h;exact wpAny_Return_some<|ed (j a s b H _ I h) λv f ⟨x,d,J,O,Q⟩=>⟨x,b,d,J,O,Q⟩
noncomputable def Ms(c:TT)(t u:TS):TS:=λD a H=>c a H λb d=>if b=cm then t D a d else u D a d
theorem oP(Q:PT X c tc)(j:mm X a t)(U:mm X b u):PS X (.If c a b pos) (Ms tc t u):=by
 intro e s f H D I h;refine wpAny_If<|ed (Q e s f H _ I h) λd i Y=>?_;obtain⟨g,J,O⟩:=Y;cases d with
 |true=>exact j e i f g D J O
 |false=>exact U e i f g D J O
noncomputable def Ys:TS:=λ_ _ _=>False
theorem zdP:PS X st Ys:=λ_ _ _ _ _ _ h=>h.elim
theorem X8{j:List hB}:mm X j Ys:=λ_ _ _ _ _ _ h=>h.elim
end
abbrev TG:=V->St->Hp->(St->Hp->Prop)->Prop
abbrev Dl:=List V->St->Hp->(St->Hp->Prop)->Prop
noncomputable def PG(X:Cx)(J:dv)(t:TG):Prop:=
 ∀(a:TW) (s:ea) (d:St) (H:Hp) (v:V) (u:dn) (Q:St->Hp->Prop),Inv X a d H s->RelV v u->t v d H Q->
  wpAny (d8 X.prog X.w) X.A (uZ J X.env u) (λ_ e=>∃I b,Inv X a I b e/\Q I b) X.xe s
noncomputable def D2(X:Cx)(j:List dv)(t:Dl):Prop:=
 ∀(a:TW) (s:ea) (f:St) (H:Hp) (e:List V) (d:List dn) (Q:St->Hp->Prop),Inv X a f H s->ez e d->t e f H Q->
  wpAny (d8 X.prog X.w) X.A (assignInOrder ((uv j X.env).map (·.2)) d) (λ_ g=>∃I b,Inv X a I b g/\Q I b) X.xe s
abbrev Rr:=V->V->V->Hp->(Hp->Prop)->Prop
noncomputable def Ru(X:Cx)(t:Rr):Prop:=
 ∀(a:TW) (s:ea) (d:St) (H:Hp) (o i v:V) (I J u:dn) (Q:Hp->Prop),Inv X a d H s->RelV o I->RelV i J->RelV v u->t o i v H Q->
  wpAny (d8 X.prog X.w) X.A (OR I J u) (λ_ e=>∃b,Inv X a d b e/\Q b) X.xe s
section
variable{X:Cx}{pos:eU}
noncomputable def vd(i:Nat):TG:=λv a H Q=>Q (a.set i<|some v) H
theorem pb(J:X.N.Nodup)(e:X.N[i]? = bB x)(O:Loc X.env.scope x)(U:X.fn x=cm\/X.env.scope.names.lookup x=bB .local:=by first|exact .inl rfl|exact .inr rfl|assumption):PG X (.Name x pos) (vd i):=by intro a s d H v u Q I r h;exact zel<|fv I J e O r (λb Y=>⟨_,H,Y,h⟩) U
noncomputable def PN:Dl:=λa b H Q=>a=[]/\Q b H
noncomputable def Lo(t:TG)(u:Dl):Dl:=λb d H Q=>∃v r,b=v::r/\t v d H λI a=>u r I a Q
theorem oZ:D2 X [] PN:=by intro a s b H f d Q I r h;obtain⟨e,h⟩:=h;subst e;cases r;exact assignInOrder_nil ⟨b,H,I,h⟩
theorem ZP(j:PG X e t)(J:D2 X es u)
 (hs:(uv (e::es) X.env).map (·.2)=uZ e X.env::(uv es X.env).map (·.2):=by rfl):D2 X (e::es) (Lo t u):=by
 intro a s i H m k Q I r h;obtain⟨v,l,d,h⟩:=h;subst d;cases r with
 |cons r O=>
  rw[hs];refine assignInOrder_cons<|ed (j a s i H _ _ _ I r h) λ_ g U=>?_;obtain⟨Y,b,Z,f⟩:=U;exact J a g Y b _ _ Q Z O f
noncomputable def PM(K:SD)(n:Nat)(t:Dl):TG:=λv d H Q=>∃a b,v=.ref a/\hH K H a b/\b.length=n/\t b d H Q
theorem Il(O:X.calm=cm)(h:D2 X es t)
 (U:(uv es X.env).length=n:=by rfl) (Y:(uv es X.env).findIdx? (·.1)=cI:=by rfl):PG X (.Tuple es k pos) (PM X.K n t):=by
 intro d s x H v u Q I r f;obtain⟨a,w,i,Z,j,f⟩:=f;subst i;cases r;obtain⟨p,J,l,z⟩:=I.tuple Z;refine assign_Tuple_tuple (I.ok.hd O) l (by simp[U,<-j,J.length]) Y λy m=>?_;have g:=I.kept (t':=s.toks) λb o e=>m b o (Tc<|SY e) e;exact h d _ x H w _ Q g (by simpa using J) f
noncomputable def Sf(to I:TE)(t:Rr):TG:=λv a H Q=>to a H λo b=>I a b λi d=>t o i v d λJ=>Q a J
theorem BN(Z:PE X o to)(E:PE X i zdE)(hs:Ru X t)
 (z:∀v,uZ (.Subscript o i pos) X.env v=(do
   let J<-rn [v] (dy o X.env);let O<-rn [v,J] (dy i X.env)
   y6 pos
   rn [v,J,O] (OR J O v)
   release [v,J,O] []):=by intro _;rfl):PG X (.Subscript o i pos) (Sf to zdE t):=by
 intro a s b H v u Q I r h;rw[z];refine SE<|tx<|ed (Z a s b H _ I h) λJ A U=>?_;refine dt λY=>?_;obtain⟨x,d,g,p,l⟩:=U;refine Y ?_;refine SE<|tx<|ed (E a A b d _ g l) λO B U=>?_;refine dt λY=>?_;obtain⟨y,e,j,w,m⟩:=U;refine Y ?_;refine SE<|U0<|SE<|tx<|ed (hs a B b e x y v J O u _ j p w r m) λ_ C U=>?_;obtain⟨f,k,n⟩:=U;exact wpAny_release ⟨b,f,k,n⟩
noncomputable def bG(te:TE)(g:TG):TS:=λD a H=>te a H λx b=>g x a b D.nx
theorem fW(z:PE X e te)(J:PG X tg g)(hs:My [tg] e pos.line X.env=pure cT:=by rfl)(E:OY [tg] e X.env=pure cI:=by rfl)
 (j:(uv [tg] X.env).map (·.2)=[uZ tg X.env]:=by rfl):PS X (.Assign [tg] e pos) (bG te g):=by
 intro a s b H D I h;refine wpAny_Assign_stores (ed (z a s b H _ I h) λv f O=>?_) hs E;obtain⟨x,d,Q,U,Y⟩:=O;rw[j];exact ed (J a f b d x v _ Q U Y) λ_ i q=>q
theorem Ia(J:X.N.Nodup)(z:X.N[i]? = bB x)(O:Loc X.env.scope x)(j:PE X e te)(hs:tG e (bB (.Name x pos')) pos.line X.env=pure cT:=by rfl)(Q:X.fn x=cm\/X.env.scope.names.lookup x=bB .local:=by first|exact .inl rfl|exact .inr rfl|assumption):
 PS X (.Assign [.Name x pos'] e pos) (bG te<|vd i):=by
 intro a s g H D I h;refine wpAny_Assign_Name (ed (j a s g H _ I h) λv k U=>?_) hs;obtain⟨y,b,Y,Z,f⟩:=U;exact fv Y J z O Z (λl d=>⟨_,b,d,f⟩) Q
end
structure It where
 go:Nat->Hp->Prop
 uo:Nat->Hp->V->Hp->Prop
 stop:Nat->Hp->Prop
noncomputable def Jt(X:Cx)(e:TW)(H:Hp)(b:dj):Prop:=
 H b=cI/\b≠X.env.locals/\b∉X.fs/\(b∈X.ex\/X.n9.heap.objs.size<=b)/\(∀x c,X.env.cells.lookup x=bB c->c≠b)/\∀p∈X.pn++e,p.1≠b
theorem Inv.ug(I:Inv X pins σ H s)(J:s.heap.objs.size<=b)(O:H' b=cI):Jt X pins H' b:=by
 refine⟨O,uq<|Ti I.lt J,I.T? J,.inr<|Tf I.sz J,λx c e z=>?_,λp a z=>?_⟩
 ·obtain⟨v,q⟩:=I.cell x c e
  exact absurd (Ti q.lt<|by rw[z];exact J)<|Uh _
 ·exact absurd (Ti (SY (I.pin p a).1)<|by rw[z];exact J)<|Uh _
structure Turn(P:gg)(w:fA)(K:SD)(tg:dv)(J:It)(fp:List dj)(it:dj)(tn:Nat->eL->Prop):Prop where
 mem:it∈fp
 obj:∀i h,tn i h->∀b∈fp,∃o,h.get? b=bB o/\∀v,o.data ≠ .cell v
 keep:∀i h h',tn i h->(∀b∈fp,∀o,h.get? b=bB o->h'.get? b=bB o)->tn i h'
 item:∀(X:Cx),X.prog=P->X.w=w->X.K=K->X.calm=cm->∀(i:Nat) (pins:TW) (s:ea) (σ:St) (H:Hp) (E:EQ),Inv X pins σ H s->(∀b∈fp,Jt X pins H b)->tn i s.heap->J.go i H->
  wpAny (d8 P w) X.A (uG<|.ref it) (λr s1=>∃u,r=bB u/\
   wpAny (d8 P w) X.A (E3 tg (.ref it) u) (λ_ s2=>∃x H',Inv X pins σ H' s2/\RelV x u/\J.uo i H x H'/\tn (i+1) s2.heap/\∀b∈fp,H' b=cI) E s1) E s
 done:∀(X:Cx),X.prog=P->X.w=w->X.K=K->X.calm=cm->∀(i:Nat) (pins:TW) (s:ea) (σ:St) (H:Hp) (E:EQ),Inv X pins σ H s->(∀b∈fp,Jt X pins H b)->tn i s.heap->J.stop i H->
  wpAny (d8 P w) X.A (uG<|.ref it) (λr s1=>r=cI/\Inv X pins σ H s1) E s
 self:∀(A:kb) (i:Nat) (s:ea) (Q:EQ) (E:EQ),tn i s.heap->Q (.ref it) s->wpAny (d8 P w) A (Mp<|.ref it) Q E s
abbrev TI:=St->Hp->(It->Hp->Prop)->Prop
noncomputable def YP(X:Cx)(e:TW)(E:St)(z:dv)(R:It->Hp->Prop)(I:dn)(j:ea):Prop:=
 ∃(f:dj) (d:List dj) (g:Nat->eL->Prop) (J:It) (a:Hp),I=.ref f/\Inv X e E a j/\Turn X.prog X.w X.K z J d f g/\g 0 j.heap/\(∀b∈d,Jt X e a b)/\R J a
noncomputable def PI(X:Cx)(j e:dv)(z:TI):Prop:=
 ∀(a:TW) (s:ea) (b:St) (H:Hp) (R:It->Hp->Prop),Inv X a b H s->z b H R->
  wpAny (d8 X.prog X.w) X.A (dy e X.env) (λv d=>wpAny (d8 X.prog X.w) X.A (Mp v) (YP X a b j R) X.xe d) X.xe s
theorem AM(J:s.heap.get? it=bB o)(O:o.cls=.type n)(e:o.data=.fields vs)
 (U:["enumerate","zip","dict_itemiterator","dict_reverseitemiterator","odict_iterator","itertools.zip_longest","itertools.pairwise"].contains n=cT) (I:Q () s):wpAny M A (E3 tg (.ref it) u) Q E s:=by
 unfold E3;cases tg<;>first
  |exact SM I
  |(cases u<;>first
      |exact SM I
      | (refine SE (wpAny_load J ?_)
         rw[O,e];show wpAny M A (if _=cm then _ else _) Q E s;rw[DY (by intro h;rw[U,Bool.false_and]at h;cases h)];exact SM I))
noncomputable def U8(K:SD)(a:dj):It:=
 ⟨λi H=>∃b x,fy K H a b/\b[i]? = bB x,λi H x d=>d=H/\∀b,fy K H a b->b[i]? = bB x,λi H=>∃b,fy K H a b/\b.length<=i⟩
noncomputable def U9(K:SD)(a:dj):It:=
 ⟨λi H=>∃b x,hH K H a b/\b[i]? = bB x,λi H x d=>d=H/\∀b,hH K H a b->b[i]? = bB x,λi H=>∃b,hH K H a b/\b.length<=i⟩
noncomputable def DT(lo:Int)(n:Nat):It:=⟨λi _=>i<n,λi H x a=>a=H/\x=.int (lo+i),λi _=>n<=i⟩
theorem mZ{P:gg}{w:fA}{K:SD}{tg:dv}(a it:dj):Turn P w K tg (U8 K a) [it] it (λi h=>h.IsListIter it a i) where
 mem:=by simp
 obj:=λi h st b J=>by
  have e:b=it:=by simpa using J
  subst e;obtain⟨o,e,c,d⟩:=st;exact⟨o,e,λv z=>by rw[d]at z;cases z⟩
 keep:=λi h h' st k=>st.at λo e=>k it ⋯ o e
 item:=by intro X U hw Y hc i pins s σ H E I O st Z;subst U hw Y;obtain⟨xs,x,Q,hx⟩:=Z;obtain⟨its,rv,p,hz⟩:=I.list Q;obtain⟨u,hu,ru⟩:=rv.get hx;obtain⟨f0,f1,f2,f3,f4,f5⟩:=O it ⋯;refine wpAny_pyNext_list_item st p.isList (x:=u) (by simpa using hu) λh' a7 sb=>?_;have I1:Inv X pins σ H {s with heap:=h'}:=I.turned (t':=s.toks) (λb o J e=>(sb.2 b J).trans e) f0 f1 f3 f4 f5;obtain⟨o,e,c,d⟩:=id a7;exact⟨u,rfl,AM (s:={s with heap:=h'}) e c d ⋯ ⟨x,H,I1,ru,⟨rfl,λys hy=>by rw[I.OL hy Q];exact hx⟩,a7,λb J=>(O b J).1⟩⟩
 done:=by intro X U hw Y hc i pins s σ H E I O st Z;subst U hw Y;obtain⟨xs,Q,hx⟩:=Z;obtain⟨its,rv,p,hz⟩:=I.list Q;obtain⟨f0,f1,f2,f3,f4,f5⟩:=O it ⋯;have hl:=rv.length;exact wpAny_pyNext_list_end (I.ok.hd hc) st p.isList (by simp;lia) λh' eb=>⟨rfl,I.turned (t':=s.toks) (λb o J e=>eb b o J e) f0 f1 f3 f4 f5⟩
 self:=λ_ _ _ _ _ st h=>wpAny_pyIter_listiter st h
theorem iz{P:gg}{w:fA}{K:SD}{tg:dv}(a it:dj):Turn P w K tg (U9 K a) [it] it (λi h=>h.IsTupleIter it a i) where
 mem:=by simp
 obj:=λi h st b J=>by
  have e:b=it:=by simpa using J
  subst e;obtain⟨o,e,c,d⟩:=st;exact⟨o,e,λv z=>by rw[d]at z;cases z⟩
 keep:=λi h h' st k=>st.at λo e=>k it ⋯ o e
 item:=by intro X U hw Y hc i pins s σ H E I O st Z;subst U hw Y;obtain⟨xs,x,Q,hx⟩:=Z;obtain⟨its,rv,p,hz⟩:=I.tuple Q;obtain⟨u,hu,ru⟩:=rv.get hx;obtain⟨f0,f1,f2,f3,f4,f5⟩:=O it ⋯;refine wpAny_pyNext_tuple_item st (show s.heap.IsTuple a its.toArray from p) (x:=u) (by simpa using hu) λh' a7 sb=>?_;have I1:Inv X pins σ H {s with heap:=h'}:=I.turned (t':=s.toks) (λb o J e=>(sb.2 b J).trans e) f0 f1 f3 f4 f5;obtain⟨o,e,c,d⟩:=id a7;exact⟨u,rfl,AM (s:={s with heap:=h'}) e c d ⋯ ⟨x,H,I1,ru,⟨rfl,λys hy=>by rw[I.E' hy Q];exact hx⟩,a7,λb J=>(O b J).1⟩⟩
 done:=by intro X U hw Y hc i pins s σ H E I O st Z;subst U hw Y;obtain⟨xs,Q,hx⟩:=Z;obtain⟨its,rv,p,hz⟩:=I.tuple Q;obtain⟨f0,f1,f2,f3,f4,f5⟩:=O it ⋯;have hl:=rv.length;exact wpAny_pyNext_tuple_end (I.ok.hd hc) st (show s.heap.IsTuple a its.toArray from p) (by simp;lia) λh' eb=>⟨rfl,I.turned (t':=s.toks) (λb o J e=>eb b o J e) f0 f1 f3 f4 f5⟩
 self:=λ_ _ _ _ _ st h=>wpAny_pyIter_tupleiter st h
theorem iA{P:gg}{w:fA}{K:SD}{tg:dv}(it:dj)(lo:Int)(n:Nat):Turn P w K tg (DT lo n) [it] it (λi h=>IsRangeIter h it (lo+(i:Nat)*1) ((n:Int)-(i:Nat)) 1) where
 mem:=by simp
 obj:=λi h st b J=>by
  have e:b=it:=by simpa using J
  subst e;exact⟨_,st,λv z=>by have z':Data.fields _=Data.cell v:=z;cases z'⟩
 keep:=λi h h' st k=>k it ⋯ _ st
 item:=by intro X Q hw U Y i pins s σ H E I O st Z;subst Q hw U;obtain⟨f0,f1,f2,f3,f4,f5⟩:=O it ⋯;have W:=Walks.range (prog:=X.prog) (w:=X.w) (I.ok.hd Y) it lo 1 n;refine W.item i s _ _ Z st λv h' tk hv a5 kk=>?_;obtain⟨t,rfl⟩:=hv;have I1:Inv X pins σ H {s with heap:=h',toks:=tk}:=I.turned (λb o J e=>kk b o (by simpa using J) e) f0 f1 f3 f4 f5;refine⟨_,rfl,AM (s:={s with heap:=h',toks:=tk}) (n:="range_iterator") a5 rfl rfl ⋯ ⟨.int (lo+i),H,I1,⟨t,?_⟩,⟨rfl,rfl⟩,a5,λb J=>(O b J).1⟩⟩;rw[H9]
 done:=by intro X Q hw U Y i pins s σ H E I O st Z;subst Q hw U;obtain⟨f0,f1,f2,f3,f4,f5⟩:=O it ⋯;exact wpAny_pyNext_range_end (I.ok.hd Y) st (by have:n<=i:=Z;lia) λh' eb=>⟨rfl,I.turned (t':=s.toks) (λb o J e=>eb b o J e) f0 f1 f3 f4 f5⟩
 self:=λ_ _ _ _ _ st h=>wpAny_pyIter_rangeiter st h
section
variable{X:Cx}{tg:dv}
theorem fP{j:TW}{L:St}{H:Hp}{s:ea}{R:It->Hp->Prop}{E:EQ}{lo z:Int}{t u v:qd}{O:Nat}(I:Inv X j L H s)(M : -(2^62)<=lo)(Q:lo<2^62)(U : -(2^62)<=z)(Y:z<2^62)
 (q:R (DT lo (z-lo).toNat) H):wpAny (d8 X.prog X.w) X.A (Mp (.ref s.heap.objs.size)) (YP X j L tg R) E {s with heap:=s.heap.push {cls:=.type "range",data:=.fields #[.int lo t,.int z u,.int 1 v]},toks:=O}:=by
 refine wpAny_pyIter_range (IsRange.new ..) (small_one M Q U Y) ?_;have J:Inv X j L H {s with heap:=s.heap.push {cls:=.type "range",data:=.fields #[.int lo t,.int z u,.int 1 v]},toks:=O}:=I.kept λb o e=>SG _ e;refine⟨_,_,_,_,H,rfl,
  J.kept λb o e=>SG _ e,iA _ lo _,?_,λb Z=>?_,q⟩
 ·have a:lo+((0:Nat))*1=lo:=by simp
  have d:(((z-lo).toNat:Nat))-((0:Nat))=Builtin.Range.rangeSize lo z 1:=by rw[rangeSize_one];lia
  rw[a,d];exact SV _ rfl
 ·have e:b=(s.heap.push {cls:=.type "range",data:=.fields #[.int lo t,.int z u,.int 1 v]}).objs.size:=by simpa using Z
  subst e;exact J.ug (SN _)<|J.eI.fresh<|SN _
noncomputable def Om(e:TA):TI:=λd H R=>e d H λb a=>∃j:Int,b=[.int j]/\ -(2^62)<=j/\j<2^62/\R (DT 0 j.toNat) a
noncomputable def Ol(e:TA):TI:=λd H R=>e d H λb a=>∃i j:Int,b=[.int i,.int j]/\(-(2^62)<=i/\i<2^62/\ -(2^62)<=j/\j<2^62)/\R (DT i (j-i).toNat) a
theorem oY{a:dv}{z:TA}{p pos:eU}(O:Gl X "range")(Q:X.mg "range" = cI)(E:PA X [a] z)(hs:eA [a] X.env=[(cT,dy a X.env)]:=by rfl):PI X tg (.Call (.Name "range" p) [a] [] pos) (Om z):=by
 intro b s g H R I h;refine A1<|xU I O Q boot_range<|TM (ed (E pos b s g H _ I h) λl k U=>?_) hs rfl;obtain⟨m,i,Y,Z,J⟩:=U;obtain⟨j,e,J,d,q⟩:=J;subst e;cases Z with
 |cons r f=>
  cases f;obtain⟨t,rfl⟩:=r;exact call_range_1 (fP Y ⋯ ⋯ J d<|by simpa using q)
theorem oX(U:Gl X "range")(Y:X.mg "range" = cI)(z:PA X [a,b] ta)(hs:eA [a,b] X.env=[(cT,dy a X.env),(cT,dy b X.env)]:=by rfl)(Q:eA [b] X.env=[(cT,dy b X.env)]:=by rfl):
 PI X tg (.Call (.Name "range" p) [a,b] [] pos) (Ol ta):=by
 intro d s o H R I h;refine A1 (xU I U Y boot_range<|TM (ed (z pos d s o H _ I h) λy w Z=>?_) (by rw[hs,Q])<|by rw[Q];rfl);obtain⟨A,u,f,n,J⟩:=Z;obtain⟨i,j,e,⟨J,g,k,l⟩,q⟩:=J;subst e;cases n with
 | cons r O=>
  cases O with
  |cons m O=>
   cases O;obtain⟨t,rfl⟩:=r;obtain⟨x,rfl⟩:=m;exact call_range_2<|fP f J g k l q
noncomputable def RH(z:TI)(g:TG)(j:TS):TS:=λD a H=>z a H λJ e=>∃W:Nat->Nat->St->Hp->Prop,(∃m,W 0 m a e)/\∀i m a H,W i m a H->
 (J.stop i H/\D.nx a H)\/(J.go i H/\∃N:St->Hp->Prop,(∀I b,N I b->∃d,d<m/\W (i+1) d I b)/\∀x b,J.uo i H x b->g x a b λO f=>j {D with nx:=N,ct:=N,bk:=D.nx} O f)
noncomputable def oU(fp:List dj)(h:eL):List (dj×l6):=fp.filterMap λb=>(h.get? b).map λo=>(b,o)
theorem wI(I:b∈fp)(e:h.get? b=bB o):(b,o)∈oU fp h:=List.mem_filterMap.mpr ⟨b,I,by rw[e];rfl⟩
theorem pG(j:p∈oU fp h):p.1∈fp/\h.get? p.1=bB p.2:=by
 obtain⟨b,I,e⟩:=List.mem_filterMap.mp j;cases q:h.get? b with
 |none=>grind
 |some o=>
  grind
theorem Inv.pinned(I:Inv X pins σ H s)(J:∀b∈fp,Jt X pins H b)(Q:∀b∈fp,∃o,s.heap.get? b=bB o/\∀v,o.data ≠ .cell v):Inv X (pins++oU fp s.heap) σ H s:=
 I.L9 λp a=>(Uo.mp a).elim (λz=>I.pin p<|Tj _ z) λz=>by
  refine dt λU=>?_;obtain⟨O,e⟩:=pG z;obtain⟨Y,f1,Z,_⟩:=J p.1 O
  grind
theorem Inv.FV(I:Inv X (pins++pl) σ H s):Inv X pins σ H s:=I.L9 λp a=>I.pin p<|Tj _<|_d _ a
theorem oQ(z:Lw (d8 X.prog X.w) X.A X.env X.xe)(hc:X.calm=cm)(hi:PI X tg iter wi)(hg:PG X tg g)(O:mm X body tb)
 (hs:∀x,oI iter X.env x=pure x:=by intro _;rfl):PS X (.For tg iter body [] pos) (RH wi g tb):=by
 intro a s σ H D I h;refine wpAny_For (ed (hi a s σ H _ I h) λv s1 h1=>ed h1 λca s2 h2=>?_) hs;refine dt λt=>?_;obtain⟨it,E,tn,J,H2,e,I2,T,ax,f2,W,⟨m0,w0⟩,b2⟩:=h2;refine t ?_;subst e;have F:∀{l:Hp},(∀b∈E,l b=cI)->∀b∈E,Jt X a l b:=λhn b O=>⟨hn b O,(f2 b O).2⟩;refine codeAny_forLoop_any (λn s'=>∃i j l,Inv X a j l s'/\tn i s'.heap/\(∀b∈E,l b=cI)/\W i n j l) ?_ m0 ⟨0,σ,H2,I2,ax,λb O=>(f2 b O).1,w0⟩;rintro n s3 ⟨i,k,C,R,S,an,w3⟩;rcases b2 i n k C w3 with⟨B,qn⟩|⟨go,N,hN,step⟩
 ·refine MT z (ed (T.done X rfl rfl rfl hc i a s3 k C X.xe R (F an) S B) λr s4 p=>?_)
  obtain⟨K,I4⟩:=p;subst K;exact Sy ⟨k,C,I4,qn⟩
 ·refine MT z (ed (T.item X rfl rfl rfl hc i a s3 k C X.xe R (F an) S go) λr s4 p=>?_)
  obtain⟨u,K,h4⟩:=p;subst K;refine MT z<|ed h4 λ_ s5 p=>?_;refine dt λt=>?_;obtain⟨x,P,I5,r5,y5,G,bg⟩:=p;refine t ?_;have bi:=I5.pinned (F bg)<|T.obj _ _ G;refine MT z<|ed (hg _ s5 k P x u _ bi r5<|step x P y5) λ_ s6 p=>?_;refine dt λt=>?_;obtain⟨M,H6,I6,q6⟩:=p;refine t ?_;refine MT z<|ed (O _ s6 M H6 _ I6 q6) λf L Z=>?_;have again:∀{Q:St} {U:Hp},Inv X _ Q U L->N Q U->∃m,m<n/\∃i j l,Inv X a j l L/\tn i L.heap/\(∀b∈E,l b=cI)/\W i m j l:=λ{Q U} Y y=>by obtain⟨m',hm,w7⟩:=hN Q U y;refine⟨m',hm,i+1,Q,U,Y.FV,T.keep _ _ _ G λb O o e=>(Y.pin (b,o)<|Tj _<|Tj _<|wI O e).1,λb O=>?_,w7⟩;obtain⟨o,e,d⟩:=T.obj _ _ G b O;exact(Y.pin (b,o)<|Tj _<|Tj _<|wI O e).2.1
  cases f with
  |next=>obtain⟨Q,U,Y,y⟩:=Z;exact again Y y
  |cont=>obtain⟨Q,U,Y,y⟩:=Z;exact again Y y
  |brk=>obtain⟨Q,U,Y,Z⟩:=Z;exact⟨Q,U,Y.FV,Z⟩
  |ret v=>refine dt λt=>?_;obtain⟨zes,Q,U,Y,r7,Z⟩:=Z;refine t ?_;exact⟨zes,Q,U,Y.FV,r7,Z⟩
end
abbrev R2:=V->V->Hp->VK->Prop
noncomputable def h6(X:Cx)(f:dn->dn->Sem dn)(r:R2):Prop:=
 ∀(a:TW) (s:ea) (b:St) (H:Hp) (x y:V) (v u:dn) (Q:VK),Inv X a b H s->RelV x v->RelV y u->r x y H Q->
  wpAny (d8 X.prog X.w) X.A (f v u) (EP X a b Q) X.xe s
noncomputable def N6(X:Cx)(f:dn->Sem dn)(r:V->Hp->VK->Prop):Prop:=
 ∀(a:TW) (s:ea) (b:St) (H:Hp) (x:V) (v:dn) (Q:VK),Inv X a b H s->RelV x v->r x H Q->
  wpAny (d8 X.prog X.w) X.A (f v) (EP X a b Q) X.xe s
noncomputable def Zz(X:Cx)(f:dn)(r:List V->Hp->VK->Prop):Prop:=
 ∀(a:TW) (s:ea) (e:St) (H:Hp) (d:List V) (b:List dn) (Q:VK),Inv X a e H s->ez d b->r d H Q->
  wpAny (d8 X.prog X.w) X.A (call f b) (EP X a e Q) X.xe s
noncomputable def So(X:Cx)(r:V->Hp->(Bool->Hp->Prop)->Prop):Prop:=
 ∀(a:TW) (s:ea) (b:St) (H:Hp) (x:V) (v:dn) (Q:Bool->Hp->Prop),Inv X a b H s->RelV x v->r x H Q->
  wpAny (d8 X.prog X.w) X.A (FI v) (TP X a b Q) X.xe s
noncomputable def Dy(r:R2)(e j:TE):TE:=λa H Q=>e a H λx b=>j a b λy d=>r x y d Q
noncomputable def tUn(r:V->Hp->VK->Prop)(e:TE):TE:=λb H Q=>e b H λx a=>r x a Q
noncomputable def rI(C:Int->Int->Prop)(g:Int->Int->V):R2:=λx y H Q=>∃i j,x=.int i/\y=.int j/\C i j/\Q (g i j) H
noncomputable def rr(g:Int->Int->V):R2:=λx y H Q=>∃i j,x=.int i/\y=.int j/\Q (g i j) H
noncomputable def rU(g:Int->V):V->Hp->VK->Prop:=λx H Q=>∃i,x=.int i/\Q (g i) H
section
variable{X:Cx}{a b:dv}{ta tb:TE}{pos:eU}
theorem OF(M:PE X a ta)(O:PE X b tb){e:TW}{s:ea}{z:St}{H:Hp}{R:V->V->Hp->Prop}(I:Inv X e z H s)
 (h:ta z H λx L=>tb z L λy j=>R x y j) {Q:EQ} {f:dn->dn->Sem dn}
 (U:∀v u E x y j,Inv X e z j E->RelV x v->RelV y u->R x y j->wpAny (d8 X.prog X.w) X.A (f v u) Q X.xe E):
 wpAny (d8 X.prog X.w) X.A (dy a X.env) (λv Y=>wpAny (d8 X.prog X.w) X.A (dy b X.env) (λu Z=>wpAny (d8 X.prog X.w) X.A (f v u) Q X.xe Z) X.xe Y) X.xe s:=by
 refine ed (M e s z H _ I h) λv n J=>?_;obtain⟨x,L,d,l,i⟩:=J;refine ed (O e n z L _ d i) λu E J=>?_;obtain⟨y,j,g,m,k⟩:=J;exact U v u E x y j g l m k
theorem uW{J:Operator}{r:R2}(O:h6 X (tF J) r)(j:PE X a ta)(U:PE X b tb):PE X (.BinOp a J b pos) (Dy r ta tb):=by intro d s i H Q I h;exact wpAny_BinOp<|OF j U I h λv u g x y e Y Z f q=>O d g i e x y v u Q Y Z f q
theorem Oa(J:N6 X (unaryOp op) r)(j:PE X a ta):PE X (.UnaryOp op a pos) (tUn r ta):=by intro b s d H Q I h;exact UnaryOp_<|ed (j b s d H _ I h) λv f ⟨x,e,O,U,Y⟩=>J b f d e x v Q O U Y
theorem L8{f:dn->dn->Sem dn}{C:Int->Int->Prop}{g:Int->Int->Int}
 (rule:∀i j t u s Q E,C i j->Q (.int (g i j) s.toks) {s with toks:=s.toks+1}->wpAny (d8 X.prog X.w) X.A (f (.int i t)<|.int j u) Q E s):
 h6 X f (rI C λi j=>.int (g i j)):=by
 intro a s d H x y v u Q I J O h;obtain⟨i,j,rfl,rfl,U,q⟩:=h;obtain⟨t,rfl⟩:=J;obtain⟨b,rfl⟩:=O;exact rule i j t b s _ _ U ⟨.int<|g i j,H,I.tok _,⟨_,rfl⟩,q⟩
theorem Py{f:dn->dn->Sem dn}{g:Int->Int->Int}
 (rule:∀i j t u s Q E,Q (.int (g i j) s.toks) {s with toks:=s.toks+1}->wpAny (d8 X.prog X.w) X.A (f (.int i t)<|.int j u) Q E s):
 h6 X f (rr λi j=>.int (g i j)):=by
 intro a s d H x y v u Q I J O h;obtain⟨i,j,rfl,rfl,q⟩:=h;obtain⟨t,rfl⟩:=J;obtain⟨b,rfl⟩:=O;exact rule i j t b s _ _ ⟨.int<|g i j,H,I.tok _,⟨_,rfl⟩,q⟩
theorem MA{f:dn->dn->Sem dn}{g:Int->Int->Bool}
 (rule:∀i j t u s Q E,Q (.bool<|g i j) s->wpAny (d8 X.prog X.w) X.A (f (.int i t)<|.int j u) Q E s):
 h6 X f (rr λi j=>.bl (g i j)):=by
 intro a s d H x y v u Q I J O h;obtain⟨i,j,rfl,rfl,q⟩:=h;obtain⟨t,rfl⟩:=J;obtain⟨b,rfl⟩:=O;exact rule i j t b s _ _ ⟨.bl<|g i j,H,I,rfl,q⟩
noncomputable def Rx(i j:Int):Prop:=0<j/\j<1073741824
noncomputable def Rw(i j:Int):Prop:=0<=j/\j<=1000000/\i.natAbs<2^64
noncomputable def Dg(i j:Int):Prop:=(-(2^64)<i/\i<2^64)\/(-(2^64)<j/\j<2^64)
theorem Dg.ok(h:Dg i j):IntMulOk i j:=by
 rcases h with⟨a,I⟩|⟨a,I⟩
 ·exact .of_left<|intBits_le_64 a I
 ·exact .of_right<|intBits_le_64 a I
theorem U?:h6 X (tF .Add) (rr λi j=>.int (i+j)):=Py λ_ _ _ _ _ _ _ q=>add_int q
theorem IB:h6 X (tF .Sub) (rr λi j=>.int (i-j)):=Py λ_ _ _ _ _ _ _ q=>sub_int q
theorem V?:h6 X (tF .Mult) (rI Dg λi j=>.int (i*j)):=L8 λ_ _ _ _ _ _ _ I q=>mul_int q I.ok
theorem EW:h6 X (tF .FloorDiv) (rI Rx λi j=>.int (i/j)):=L8 λi j _ _ _ _ _ I q=>by have a:=I.1;have J:=I.2;exact floordiv_int ⋯ (by rw[Int.fdiv_eq_ediv_of_nonneg i ⋯];exact q)<|.inl<|PyProof.noPylong_small ⋯
theorem IE:h6 X (tF .Mod) (rI (λ_ j=>0<j) λi j=>.int (i%j)):=L8 λi j _ _ _ _ _ I q=>by have a:=I;exact mod_int' ⋯ (by rw[Int.fmod_eq_emod_of_nonneg i ⋯];exact q)
theorem ID:h6 X (tF .Pow) (rI Rw λi j=>.int (i^j.toNat)):=L8 λ_ _ _ _ _ _ _ I q=>pow_int_small I.1 I.2.1 I.2.2 q
theorem unI{f:dn->Sem dn}{g:Int->Int}
 (rule:∀i t s Q E,Q (.int (g i) s.toks) {s with toks:=s.toks+1}->wpAny (d8 X.prog X.w) X.A (f<|.int i t) Q E s):
 N6 X f (rU λi=>.int (g i)):=by
 intro a s b H x v Q I J h;obtain⟨i,rfl,q⟩:=h;obtain⟨t,rfl⟩:=J;exact rule i t s _ _ ⟨.int<|g i,H,I.tok _,⟨_,rfl⟩,q⟩
theorem GY:N6 X (unaryOp .USub) (rU λi=>.int (-i)):=unI λ_ _ _ _ _ q=>neg_int q
end
section
variable{X:Cx}{a b c:dv}{ta tb tc:TE}{pos:eU}
theorem Cm(I:Inv X pins σ H s)(q:Q (.bl k) H)(e:k=k'):EP X pins σ Q (.bool k') s:=by subst e;exact⟨.bl k,H,I,rfl,q⟩
theorem EV:h6 X (m3 .Lt) (rr λi j=>.bl (decide<|i<j)):=MA λ_ _ _ _ _ _ _ q=>lt_int q
theorem W7:h6 X (m3 .LtE) (rr λi j=>.bl (decide<|i<=j)):=MA λ_ _ _ _ _ _ _ q=>le_int q
theorem IF:h6 X (m3 .Gt) (rr λi j=>.bl (decide<|j<i)):=MA λ_ _ _ _ _ _ _ q=>gt_int q
theorem Ob:h6 X (m3 .GtE) (rr λi j=>.bl (decide<|j<=i)):=MA λ_ _ _ _ _ _ _ q=>ge_int q
theorem pA:h6 X (m3 .In) (λx y H Q=>∃i j,x=.str i/\y=.str j/\Q (.bl<|!(UU j i 0 j.length 1).isEmpty) H):=by intro a s d H x y v u Q I J O h;obtain⟨i,j,rfl,rfl,q⟩:=h;obtain⟨t,rfl⟩:=J;obtain⟨b,rfl⟩:=O;exact in_str<|Cm I q rfl
theorem BO:h6 X (m3 .Is) (λx y H Q=>y=.d9/\Q (.bl<|decide<|x=.d9) H):=by
 intro a s b H x y v u Q I J O h;obtain⟨rfl,q⟩:=h;cases O;refine is_none_gen<|Cm I q ?_;cases x<;>first
  |(cases J;rfl)
  |(obtain⟨t,rfl⟩:=J;rfl)
theorem h6.or(h:h6 X f r)(h':h6 X f r'):h6 X f (λx y H Q=>r x y H Q\/r' x y H Q):=by
 intro a s b H x y v u Q I J O q;rcases q with q|q
 ·exact h a s b H x y v u Q I J O q
 ·exact h' a s b H x y v u Q I J O q
theorem yI(b:dv)(h:op ≠ .In:=by decide)(J:op ≠ .NotIn:=by decide):pk op b=cT:=by
 have a:(op==CmpOp.In)=cT:=⋯
 have I:(op==CmpOp.NotIn)=cT:=⋯
 cases b<;>simp[pk,a,I]
theorem Vu{J:CmpOp}{r:R2}(O:h6 X (m3 J) r)(j:PE X a ta)(U:PE X b tb)(Y:pk J b=cT):PE X (.Compare a [J] [b] pos) (Dy r ta tb):=by intro d s k H Q I h;exact wpAny_Compare1 (OF j U I h λv u i x y e Z f g q=>O d i k e x y v u Q Z f g q) Y
noncomputable def CN(t:TE):TT:=λb H Q=>t b H λx a=>∃k,x=.bl k/\Q k a
theorem Zq(J:h6 X (m3 op) r)(E:PE X a ta)(O:PE X b tb)(U:pk op b=cT):PT X (.Compare a [op] [b] pos) (CN<|Dy r ta tb):=by
 intro d s f H Q I h;refine zeo (ed (E d s f H _ I h) λv A ⟨x,g,Y,Z,n⟩=>ed (O d A f g _ Y n) λu B ⟨y,i,l,t,o⟩=>
  ed (J d B f i x y v u _ l Z t o) λc C ⟨z,j,m,w,k,e,p⟩=>?_) U
 subst e;cases w;exact UH ⟨j,m,p⟩
noncomputable def Bx(r e:R2)(ta tb tc:TE):TE:=λa H Q=>ta a H λx b=>tb a b λy d=>r x y d λz I=>∃k,z=.bl k/\
 (if k=cm then tc a I λf J=>e y f J Q else Q (.bl cT) I)
theorem zdZ(Y:h6 X (m3 op) r)(Z:h6 X (m3 E8) r')(E:PE X a ta)(L:PE X b tb)(M:PE X c tc)
 (S:OJ [op,E8] [b,c]=cT:=by with_unfolding_all rfl):PE X (.Compare a [op,E8] [b,c] pos) (Bx r r' ta tb tc):=by
 intro f s g H Q I h;refine Compare_chain (ed (E f s g H _ I h) λv G ⟨x,j,n,B,t⟩=>chain_link (ed (L f G g j _ n t) λu K ⟨y,l,o,i,w⟩=>
  ed (Y f K g l x y v u _ o B i w) λd N ⟨z,J,O,C,k,e,U⟩=>?_)) S
 subst e;cases C;refine UH ?_;cases k with
 |false=>exact ite_ff ⟨.bl cT,J,O,rfl,U⟩
 |true=>exact ite_tt<|chain_last<|ed (M f N g J _ O U) λR P ⟨T,m,p,F,A⟩=>Z f P g m y T u R Q p i F A
theorem zdL{J O:CmpOp}{r j:R2}(ho:h6 X (m3 J) r)(E:h6 X (m3 O) j)(L:PE X a ta)(M:PE X b tb)(S:PE X c tc)
 (hm:OJ [J,O] [b,c]=cT:=by with_unfolding_all rfl):PT X (.Compare a [J,O] [b,c] pos) (CN<|Bx r j ta tb tc):=by
 intro f s g H Q I h;refine isTrue_chain (ed (L f s g H _ I h) λv s1 ⟨x,l,p,R,G⟩=>test_link (ed (M f s1 g l _ p G) λu s2 ⟨y,m,t,i,K⟩=>
  ed (ho f s2 g m x y v u _ t R i K) λd s3 ⟨z,U,Y,T,k,e,Z⟩=>?_)) hm
 subst e;cases T;refine UH ?_;cases k with
 |false=>
  obtain⟨k',B,F⟩:=Z;cases B;exact ite_ff ⟨U,Y,F⟩
 |true=>
  refine ite_tt<|test_last<|ed (S f s3 g U _ Y Z) λw' s4 ⟨z',n,w,W,N⟩=>ed (E f s4 g n y z' u w' _ w i W N) λd' s5 ⟨z2,o,A,r5,k2,C,P⟩=>?_;subst C;cases r5;exact UH ⟨o,A,P⟩
noncomputable def Rq(K:SD)(x:V)(H:Hp)(k:Bool):Prop:=
 match x with
 |.d9=>k=cT
 |.bl b=>k=b
 |.int i=>k=(i != 0)
 |.str y=>y.length<=eK/\k=((y.length:Int) != 0)
 |.Dp y=>y.size<=eK/\k=((y.size:Int) != 0)
 |.ref p=>(∃d,fy K H p d/\k = !d.isEmpty)\/(∃d,hH K H p d/\k = !d.isEmpty)\/∃a,H p=bB (.dK a)/\k = !a.isEmpty
 |_=>False
theorem lW(r:KV l9 vs):(!vs.isEmpty) = !l9.isEmpty:=by cases r<;>rfl
theorem YO(r:ez xs its):(!its.toArray.isEmpty) = !xs.isEmpty:=by cases r<;>simp
theorem Ko:(eK:Nat)<2^63:=by rw[wo];decide
theorem Hc:So X (λx H Q=>∃k,Rq X.K x H k/\Q k H):=by
 intro g s z H x v Q I O h;obtain⟨k,e,q⟩:=h;have o:=Ko;have u:=wo;cases x with
 |d9=>
  cases O;have J:=e;subst J;exact truthy_none ⟨H,I,q⟩
 |bl b=>
  cases O;have J:=e;subst J;exact UH ⟨H,I,q⟩
 |int i=>
  obtain⟨t,rfl⟩:=O;have J:=e;subst J;exact PySem.P.truthy_int ⟨H,I,q⟩
 |str y=>
  obtain⟨t,rfl⟩:=O;obtain⟨Z,J⟩:_/\_:=e;subst J;exact PySem.P.truthy_str ⋯ ⟨H,I.tok _,q⟩
 |Dp y=>
  obtain⟨t,rfl⟩:=O;obtain⟨Z,J⟩:_/\_:=e;subst J;exact PySem.W.truthy_bytes ⋯ ⟨H,I.tok _,q⟩
 | ref p=>
  cases O;have J:=e;rcases J with⟨n,U,J⟩|⟨n,U,J⟩|⟨l,U,J⟩
  ·subst J
   obtain⟨a,r,d,f⟩:=I.list U;have Y:=r.length;exact wpAny_truthy_list d.isList (by simp only[SW];lia) ⟨H,I.tok _,by rw[YO r];exact q⟩
  ·subst J
   obtain⟨a,r,d,f⟩:=I.tuple U;have Y:=r.length;exact truthy_tuple d (by simp only[SW];lia) ⟨H,I.tok _,by rw[YO r];exact q⟩
  ·subst J
   obtain⟨f,j,w,r,m⟩:_/\_:=I.eI p _ U;have Y:=Paired.length r;exact wpAny_truthy_dict j m ⋯ ⟨H,I.tok _,by rw[lW r];exact q⟩
 |_=>exact(e).elim
theorem zdK(z:PE X a ta)(he:∀J,B0 a X.env J=(do let v<-J;y6 a.pos;rn [v] (FI v))):
 PT X a (λe H Q=>ta e H λx j=>∃k,Rq X.K x j k/\Q k j):=by
 intro b s e H Q I h;exact isTrue_plain (ed (z b s e H _ I h) λv f ⟨x,d,O,U,Y⟩=>Hc b f e d x v Q O U Y)<|he _
theorem ly:h6 X (tF .Add) (λx y H Q=>∃i j,x=.str i/\y=.str j/\i.length+j.length<=eK/\Q (.str<|i++j) H):=by intro a s e H x y v u Q I J O h;obtain⟨i,j,rfl,rfl,b,q⟩:=h;obtain⟨t,rfl⟩:=J;obtain⟨d,rfl⟩:=O;exact add_str (λd U=>⟨.str<|i++j,H,I.tok _,⟨_,rfl⟩,q⟩) b
theorem kF(r:ez [x] us):∃u,us=[u]/\RelV x u:=by
 cases r with
 |cons I a=>cases a;exact⟨_,rfl,I⟩
theorem ud(r:ez [x,y] us):∃u w',us=[u,w']/\RelV x u/\RelV y w':=by
 cases r with
 |cons I a=>
  cases a with
  |cons J O=>cases O;exact⟨_,_,rfl,I,J⟩
theorem sD(O:X.calm=cm):Zz X (.builtin "max") (λxs H Q=>∃i j,xs=[.int i,.int j]/\Q (.int (if j>i then j else i)) H):=by
 intro a s g H xs e Q I r h;obtain⟨i,j,rfl,q⟩:=h;obtain⟨u,f,rfl,⟨t,rfl⟩,⟨d,rfl⟩⟩:=ud r;refine max_two_ints (I.ok.hd O) λb U k=>⟨_,H,I.kept k,?_,q⟩;by_cases J:j>i
 ·rw[DJ J,DJ J];exact⟨_,rfl⟩
 ·rw[DY J,DY J];exact⟨_,rfl⟩
theorem sC(O:X.calm=cm):Zz X (.builtin "min") (λxs H Q=>∃i j,xs=[.int i,.int j]/\Q (.int (if j<i then j else i)) H):=by
 intro a s g H xs e Q I r h;obtain⟨i,j,rfl,q⟩:=h;obtain⟨u,f,rfl,⟨t,rfl⟩,⟨d,rfl⟩⟩:=ud r;refine min_two_ints (I.ok.hd O) λb U k=>⟨_,H,I.kept k,?_,q⟩;by_cases J:j<i
 ·rw[DJ J,DJ J];exact⟨_,rfl⟩
 ·rw[DY J,DY J];exact⟨_,rfl⟩
theorem sF:Zz X (.type "int") (λxs H Q=>(∃i,xs=[.int i]/\Q (.int i) H)\/∃k,xs=[.bl k]/\Q (.int (if k then 1 else 0)) H):=by
 intro a s d H xs b Q I r h;rcases h with⟨i,rfl,q⟩|⟨k,rfl,q⟩
 ·obtain⟨u,rfl,t,rfl⟩:=kF r
  exact call_int_int ⟨.int i,H,I,⟨_,rfl⟩,q⟩
 ·obtain⟨u,rfl,J⟩:=kF r
  cases J;exact call_int_bool ⟨.int _,H,I.tok _,⟨_,rfl⟩,q⟩
theorem aX:Zz X (.type "str") (λxs H Q=>∃i,xs=[.int i]/\i.natAbs.log2<1920/\Q (.str (toString i)) H):=by intro a s e H xs d Q I r h;obtain⟨i,rfl,b,q⟩:=h;obtain⟨u,rfl,t,rfl⟩:=kF r;exact PySem.P.str_of_int b ⟨.str _,H,I.tok _,⟨_,rfl⟩,q⟩
end
structure A4(h:eL)(x dx C:dj)(mA:DZ):Prop where
 obj:h.get? x=bB (G9 C dx)
 ns:h.Ns1 dx mA
 ne:dx≠x
theorem pU{h:eL}{j:dj}{E:DZ}(n:h.Ns1 j E):∃H,h.get? j=bB H/\∀name,T4 name H=bB (E name):=by
 obtain⟨o,b,f,I,d,J,_,O⟩:=n;refine⟨o,I,λname=>?_⟩;have e:=O name;unfold nsFind findBy at e;rw[<-Array.find?_toList]at e;unfold T4;rw[d];dsimp only;split
 ·rename_i y q
  rw[q]at e;exact congrArg bB e
 ·rename_i q
  rw[q]at e;have a:b.toList.any (·.refKey)=cT:=by rw[F9];intro y Q;obtain⟨z,t,U⟩:=J y<|Array.mem_toList_iff.mp Q;simp[DictEntry.refKey,U]
  grind
theorem A4.look(I:A4 h x dx C mA):∃e,PySem.W.InstAt h x (G9 C dx) C (bB e)/\∀name,T4 name e=bB (mA name):=
 let ⟨e,J,O⟩:=pU I.ns
 ⟨e,⟨I.obj,rfl,rfl,J⟩,O⟩
section
variable{prog:gg}{w:fA}{A:kb}{E:EQ}{s:ea}{K:SD}{x dx C f:dj}{mA:DZ}{name:Str}{v:dn}
theorem Fw(X:K.In s.heap)(I:A4 s.heap x dx C mA)(O:MW K C name=cm)(U:Rh K C=cm)
 (e:Um K (.ref C) name=bB cI) (Y:mA name=bB v) (Z:PySem.W.handedIn v=cm) (h:Q v {s with toks:=s.toks+1}):
 wpAny (d8 prog w) A (getAttr (.ref x) name expr) Q E s:=by
 obtain⟨b,J,a⟩:=I.look;exact PySem.W.get_value X J (_c O).1 (PySem.W.findObj_own U e rfl<|by rw[a,Y]) Z h
theorem AN(X:K.In s.heap)(I:A4 s.heap x dx C mA)(O:MW K C name=cm)
 (U:Um K (.ref C) name=bB (bB (.ref f))) (Y:M8 K (.ref f)=cm) (Z:mA name=cI) (h:Q (.ref f,[.ref x]) s):
 wpAny (d8 prog w) A (OD (.ref x) name pl) Q E s:=by
 obtain⟨b,J,a⟩:=I.look;exact PySem.W.method_fn X J (_c O).1 (_c O).2 U (beq_iff_eq.mp Y) (by show(T4 name b).map (·.isSome)=bB cT;rw[a,Z];rfl) h
theorem Ei(X:K.In s.heap)(I:A4 s.heap x dx C mA)
 (hs:Um K (.ref C) "__setattr__" = bB (bB (.builtin "object.__setattr__"))) (j:V_ K C=cm) (Y:PySem.W.takerIn K C name=bB cI) (Z:Rh K C=cm)
 (z:R5 mA ns) (hsz:ns.length<=eK)
 (h:∀h',A4 h' x dx C (λy=>if y=name then bB v else mA y)->wV dx s.heap h'->Q () {s with heap:=h',toks:=s.toks+2}):
 wpAny (d8 prog w) A (setAttr (.ref x) name v) Q E s:=by
 obtain⟨o,J,n⟩:=I.look;refine PySem.W.set_plain X J hs<|PySem.W.osa_open X J j Y λb=>?_;obtain⟨m,g,a⟩:=PySem.W.any_some Z;have i:=I.obj;refine SE<|SM<|SE<|SE<|wpAny_loadPart i<|SE<|PySem.W.Looks.here (PySem.W.looks_clsIn X g) ?_;rw[a];refine SM<|SE<|SM<|SE ?_;refine wpAny_nsSet1 I.ns λh' O U=>?_;obtain⟨oD,k,l,d,e,f⟩:=O.count<|R5.cons name v z;refine SE<|wpAny_lookBehind d (by rw[e];exact pastItsLine_dict<|Tf f<|by rw[TQ];lia) ?_;exact SM<|h _ ⟨(U.2 _<|Tq I.ne).trans I.obj,O,I.ne⟩ U
theorem As(X:K.In s.heap)(I:PySem.W.makesIn K C=cm)
 (e:Um K (.ref C) "__init__" = bB (bB (.ref f))) (J:PySem.W.typeIn K (.ref f)=bB (.type "function"))
 (h:codeAny (d8 prog w) (A.under (.builtin "type.__call__" ⟨.ref C::vs,kw⟩)) (.call (.ref f) ⟨.ref (s.heap.objs.size+1)::vs,kw⟩) (PySem.W.InitBack (s.heap.objs.size+1) R)
   {s with heap:=(s.heap.push Hw).push (G9 C s.heap.objs.size)}):
 codeAny (d8 prog w) A (.call (.ref C) ⟨vs,kw⟩) R s:=by
 obtain⟨O,g,d,t,os⟩:=s;exact PySem.W.make_core (PySem.W.makes_of X I) (PySem.W.looks_findIn X e) (λa=>PySem.W.bind_fn X a J) (.inl rfl) h
end
noncomputable def bI(f:Str)(v:V):List (Str×V)->List (Str×V)
 |[]=>[(f,v)]
 |(g,x)::r=>if g=f then (g,v)::r else (g,x)::bI f v r
theorem Zs(f g:Str)(v:V):∀fs,(bI f v fs).lookup g=if g=f then bB v else fs.lookup g
 | []=>by
  show List.lookup g [(f,v)]=_;by_cases h:g=f
  ·have I:=beq_iff_eq.mpr h
   simp only[List.lookup,I,DJ h]
  ·have I:=beq_eq_false_iff_ne.mpr h
   simp only[List.lookup,I,DY h]
 |(k,x)::r=>by
  have J:=Zs f g v r;rw[show bI f v _=(if k=f then (k,v)::r else (k,x)::bI f v r)from rfl]
  grind
theorem Ks(f:Str)(v:V):∀fs,f∈(bI f v fs).map (·.1)/\∀g,g∈fs.map (·.1)->g∈(bI f v fs).map (·.1)
 |[]=>⟨by simp[bI],λg h=>by simp at h⟩
 |(k,x)::r=>by
  obtain⟨a,b⟩:=Ks f v r;rw[show bI f v _=(if k=f then (k,v)::r else (k,x)::bI f v r)from rfl]
  grind
theorem Kq(f:Str)(v:V):∀fs,(bI f v fs).length<=fs.length+1
 |[]=>by simp[bI]
 |(k,x)::r=>by
  have J:=Kq f v r;rw[show bI f v _=(if k=f then (k,v)::r else (k,x)::bI f v r)from rfl];by_cases I:k=f
  ·rw[DJ I,TQ,TQ];lia
  ·rw[DY I,TQ,TQ];lia
theorem p9.some_of(r:p9 (bB v) o):∃u,o=bB u/\RelV v u:=by
 cases o with
 |none=>exact(r).elim
 |some u=>exact⟨u,rfl,r⟩
theorem p9.none_of(r:p9 cI o):o=cI:=by
 cases o with
 |none=>rfl
 |some u=>exact(r).elim
theorem rK(r:RelV v u):PySem.W.handedIn u=cm:=by
 cases v with
 |d9=>cases r;rfl
 |bl b=>cases r;rfl
 |int i=>obtain⟨t,e⟩:=(r);cases e;rfl
 |str x=>obtain⟨t,e⟩:=(r);cases e;rfl
 |Dp b=>obtain⟨t,e⟩:=(r);cases e;rfl
 |L0 b=>obtain⟨t,e⟩:=(r);cases e;rfl
 |ref a=>cases r;rfl
 |ty n=>cases r;rfl
section
variable{P:gg}{w:fA}{H:Hp}{h:eL}{a C dx:dj}{fs:List (Str×V)}
theorem dA(j:k3 P w H h)(e:H a=bB (.ins C dx fs)):∃mA,A4 h a dx C mA/\(∀f,p9 (fs.lookup f)<|mA f)/\R5 mA (fs.map (·.1))/\fs.length<=1000/\H dx=bB (.own a):=by refine dt λI=>?_;obtain⟨d,z,b,J,mA,n,r,q⟩:=(j a _ e);refine I ?_;exact⟨mA,⟨J,n,b⟩,r,q,z,d⟩
end
structure uQ(K:SD)(C:dj):Prop where
 pg:MW K C xg=cm
 hd:Rh K C=cm
 po:V_ K C=cm
 sa:Um K (.ref C) "__setattr__" = bB (bB (.builtin "object.__setattr__"))
theorem uQ.get{K:SD}{C:dj}(c:uQ K C)(f:Str):MW K C f=cm:=c.pg
noncomputable def A3(K:SD)(C:dj)(f:Str):Prop:=Um K (.ref C) f=bB cI
theorem A3.zdC{K:SD}{C:dj}{f:Str}(n:A3 K C f):PySem.W.takerIn K C f=bB cI:=by unfold PySem.W.takerIn;rw[n];rfl
structure KX(K:SD)(C:dj)(m:Str)(f:dj):Prop where
 at_:Um K (.ref C) m=bB (bB (.ref f))
 fn:M8 K (.ref f)=cm
 kp:UY K (.ref f)=cm
section
variable{X:Cx}{pins:TW}{σ:St}{H:Hp}{s:ea}{a C dx:dj}{fs:List (Str×V)}{f:Str}{v:V}{A:kb}{E:EQ}
theorem me(I:Inv X pins σ H s)(e:H a=bB (.ins C dx fs))(c:uQ X.K C)(n:A3 X.K C f)(l:fs.lookup f=bB v)
 (h:∀u j,Inv X pins σ H j->RelV v u->Q u j):wpAny (d8 X.prog X.w) A (getAttr (.ref a) f b) Q E s:=by
 obtain⟨d,O,r,_,_,_⟩:=dA I.eI e;obtain⟨u,U,J⟩:=p9.some_of (by rw[<-l];exact r f);exact Fw I.i8 O (c.get f) c.hd n U (rK J)<|h u _ (I.tok _) J
theorem ma(I:Inv X pins σ H s)(e:H a=bB (.ins C dx fs))(c:uQ X.K C)(k:KX X.K C m g)(l:fs.lookup m=cI)
 (h:Q (.ref g,[.ref a]) s):wpAny (d8 X.prog X.w) A (OD (.ref a) m pl) Q E s:=by
 obtain⟨b,O,r,_,_,_⟩:=dA I.eI e;have J:=p9.none_of (by rw[<-l];exact r m);exact AN I.i8 O (c.get m) k.at_ k.fn J h
theorem iM(I:Inv X pins σ H s)(e:H a=bB (.ins C dx fs))(c:uQ X.K C)(n:A3 X.K C f)(L:fs.length<1000)(Y:RelV y u)
 (h:∀j,Inv X pins σ (upd H a<|.ins C dx<|bI f y fs) j->Q () j):wpAny (d8 X.prog X.w) A (setAttr (.ref a) f u) Q E s:=by
 obtain⟨x,O,r,d,_,U⟩:=dA I.eI e;have t:(fs.map (·.1)).length<=eK:=by rw[Ta,wo];lia
 refine Ei I.i8 O c.sa c.po n.zdC c.hd d t λk J Z=>h _ ?_;have m:∃o,k.get? dx=bB o:=let ⟨o,_,_,i,_⟩:=J.ns;⟨o,i⟩;refine I.write (by rw[e];exact tI) (.inr U) (λb q l z=>(Z.2 b l).trans z) m ?_;refine⟨by rw[zE O.ne];exact U,?_,O.ne,J.obj,_,J.ns,λg=>?_,λg p=>?_⟩
 ·have:=Kq f y fs;lia
 ·rw[Zs]
  by_cases q:g=f
  ·rw[DJ q,DJ q];exact Y
  ·rw[DY q,DY q];exact r g
 ·by_cases q:g=f
  ·rw[q];exact(Ks f y fs).1
  ·refine(Ks f y fs).2 g (d g λz=>p ?_)
   lia
theorem Inv.made(I:Inv X pins σ H s):Inv X pins σ (upd (upd H s.heap.objs.size<|.own<|s.heap.objs.size+1) (s.heap.objs.size+1)<|.ins C s.heap.objs.size [])
 {s with heap:=(s.heap.push Hw).push (G9 C s.heap.objs.size)}:=by
 have a:_=bB Hw:=SV s.heap rfl;have J:=by
  have:=SV (s.heap.push Hw) (o:=G9 C s.heap.objs.size) rfl
  rwa [TH]at this
 have O:(s.heap.push Hw).Ns _ _:=⟨Hw,#[],_,a,rfl,(λe f=>absurd f ⋯),λ_=>rfl⟩;have Q:=I.laid (o:=.own (s.heap.objs.size+1)) (t':=s.toks) (λb u q=>SG _ q) (SN _) ⟨_,a⟩;refine Q.laid (λb u q=>SG _ q) (Nat.le_of_eq<|TH _ _) ?_;have d:_≠s.heap.objs.size+1:=Tc<|Ur _;refine⟨by rw[zE d,zC],Uc _,d,J,λ_=>cI,(Heap.Ns1.of_empty O).at λo q=>SG _ q,λ_=>tI,λy U=>absurd rfl U⟩
theorem Gf(I:x8 e f env (dy e env)=dy e env)
 (h:wpAny (d8 prog w) A (dy e env) (λo J=>wpAny (d8 prog w) A (getAttr o f cm) Q E J) E s):wpAny (d8 prog w) A (dy (.Attribute e f pos) env) Q E s:=
 Attribute_any_ h (by simp only[arm_eval_Attribute,I])
end
noncomputable def Pk(K:SD)(e:TE)(f:Str):TE:=λg H Q=>e g H λx b=>∃a C d fs v,x=.ref a/\b a=bB (.ins C d fs)/\uQ K C/\A3 K C f/\fs.lookup f=bB v/\Q v b
noncomputable def NN(K:SD)(j z:TE)(f:Str):TS:=λD b H=>z b H λy g=>j b g λx d=>∃a C e fs,x=.ref a/\d a=bB (.ins C e fs)/\uQ K C/\A3 K C f/\fs.length<1000/\
 D.nx b (upd d a<|.ins C e<|bI f y fs)
section
variable{X:Cx}{o e value:dv}{f:Str}{pos pos':eU}{ta tv:TE}
theorem gc(z:PE X e ta)(J:x8 e f X.env (dy e X.env)=dy e X.env):PE X (.Attribute e f pos) (Pk X.K ta f):=by intro b s m H Q I h;refine Gf J<|ed (z b s m H _ I h) λu p O=>?_;refine dt λU=>?_;obtain⟨x,d,Y,Z,a,C,o,fs,v,j,i,c,n,l,q⟩:=O;subst j;obtain rfl:u=w8 a:=Z;refine U ?_;exact me Y i c n l λt r g k=>⟨v,d,g,k,q⟩
theorem BK(z:PE X o ta)(J:PE X value tv)(hs:tG value (bB (.Attribute o f pos')) pos.line X.env=pure cT):PS X (.Assign [.Attribute o f pos'] value pos) (NN X.K ta tv f):=by intro b s d H D I h;refine plainObj_wpAny_Assign_Attribute (ed (J b s d H _ I h) λu m ⟨y,e,O,Q,q⟩=>ed (z b m d e _ O q) λU t ⟨x,p,Y,Z,a,C,r,fs,j,i,c,n,l,k⟩=>?_) hs;subst j;obtain rfl:U=w8 a:=Z;exact iM Y i c n l Q λw g=>⟨d,_,g,k⟩
end
structure kA(k:Nat)(A:kb):Prop where
 hd:A.handled=cI
 dp:A.depth+3*k+5<recursionLimit
 un:A.units+16*k+200<u3
theorem kA.mono(r:kA k A)(h:j<=k):kA j A:=⟨r.hd,by have:=r.dp;lia,by have:=r.un;lia⟩
theorem kA.deeper(r:kA (k+1) A)(env:ow):kA k (A.deeper env):=
 ⟨r.hd,by have:=r.dp;show A.depth+1+3*k+5<_;lia,by have:=r.un;show A.units+3+16*k+200<_;lia⟩
theorem kA.in1(r:kA (k+1) A):kA k A.in1:=
 ⟨r.hd,by have:=r.dp;lia,by have:=r.un;lia⟩
theorem lM{A:kb}{C:dj}{e:List dn}{I:List (Str×dn)}:(A.under (.builtin "type.__call__" ⟨.ref C::e,I⟩)).depth=A.depth+1:=by rfl
theorem lL{A:kb}{C:dj}{e:List dn}{I:List (Str×dn)}:(A.under (.builtin "type.__call__" ⟨.ref C::e,I⟩)).units=A.units+1:=by rfl
theorem kA.make(r:kA (k+1) A)(C:dj)(e:List dn)(I:List (Str×dn)):kA k (A.under (.builtin "type.__call__" ⟨.ref C::e,I⟩)):=
 ⟨r.hd,by have:=r.dp;rw[lM];lia,by have:=r.un;rw[lL];lia⟩
theorem kA.depth(r:kA k A):A.depth<recursionLimit:=by have:=r.dp;lia
noncomputable def Bw:TA:=λ_ H Q=>Q [] H
noncomputable def bP(e:TE)(I:TA):TA:=λa H Q=>e a H λx b=>I a b λf d=>Q (x::f) d
section
variable{X:Cx}{e:dv}{es:List dv}{te:TE}{t:TA}{pos:eU}
theorem jM:PA X [] Bw:=λ_ _ _ _ H Q I h=>F7 ⟨[],H,I,.nil,h⟩
theorem z9(j:PE X e te)(J:PA X es t)(hs:eA (e::es) X.env=(cT,dy e X.env)::eA es X.env:=by rfl):PA X (e::es) (bP te t):=by intro pos a s b H Q I h;rw[hs];refine UI<|ed (j a s b H _ I h) λu l O=>?_;obtain⟨x,d,U,Y,Z⟩:=O;exact ed (J pos a l b d _ U Z) λo n ⟨m,f,g,k,i⟩=>⟨x::m,f,g,.cons Y k,i⟩
noncomputable def RD(t:TA):TE:=λd H Q=>t d H λb a=>b.length<=eK/\∀p,a p=cI->Q (.ref p) (upd a p<|.tup b)
noncomputable def RG(t:TA):TE:=λd H Q=>t d H λb a=>b.length<=eK/\∀p,a p=cI->Q (.ref p) (upd a p<|.lst b)
theorem Io(h:PA X es t):PE X (.Tuple es x1 pos) (RD t):=by intro a s f H Q I O;refine zek<|ed (h pos a s f H _ I O) λd i ⟨j,g,J,r,z,q⟩=>⟨by rw[<-r.length];exact z,?_⟩;have U:=J.eI.fresh<|SN _;refine⟨.ref _,_,J.laid (λb u e=>SG _ e) (SN _) ?_,rfl,q _ U⟩;exact⟨z,d,r,⟨_,SV _ rfl,rfl,_,rfl⟩⟩
theorem Iu(h:PA X es t):PE X (.List es pos) (RG t):=by intro a s f H Q I O;refine wpAny_List_spliced<|ed (h pos a s f H _ I O) λd i ⟨j,g,J,r,z,q⟩=>⟨by rw[<-r.length];exact z,?_⟩;have U:=J.eI.fresh<|SN _;refine⟨.ref _,_,J.laid (λb u e=>SG _ e) (SN _) ?_,rfl,q _ U⟩;exact⟨z,d,0,r,SV _ rfl⟩
end
abbrev Sp:=List V->Hp->VK->XK->Prop
abbrev tP:=List ow->Hp->ea->XK->dn->ea->Prop
structure t9(P:gg)(w:fA)(K:SD)(mg:DZ)(base:eL)(A:kb)(outer:List ow)(s:ea)(H:Hp):Prop where
 frames:A.frames=bB outer
 mod:Mod K mg base
 bs:∀b o,base.get? b=bB o->s.heap.get? b=bB o/\H b=cI
 ue:base.objs.size<=s.heap.objs.size
 s8:s.heap.FunFrames base outer
 u7:∀b∈ui outer,H b=cI
 eI:k3 P w H s.heap
 bare:xr s.gens
noncomputable def CE(outer:List ow)(P:gg)(w:fA)(H:Hp)(s:ea)(Q:VK)(u:dn)(e:ea):Prop:=
 ∃v a,e.os=s.os/\xr e.gens/\Un (ui outer) [] H a s.heap e.heap/\k3 P w a e.heap/\RelV v u/\Q v a
noncomputable def CR(CX:tP)(outer:List ow)(P:gg)(w:fA)(H:Hp)(s:ea)(Q:VK)(E:XK)(r:Result)(j:ea):Prop:=
 match r with
 |.ok (.ret u)=>CE outer P w H s Q u j
 |.ok _=>False
 |.error e=>CX outer H s E e j
structure ml(P:gg)(w:fA)(K:SD)(mg:DZ)(base:eL)(CX:tP)(k:Nat)(f:dj)(fd:nf)(ps:List Str)(sp:Sp):Prop where
 len:∀vs H Q E,sp vs H Q E->vs.length=ps.length
 run:∀(A:kb) (outer:List ow) (s:ea) (H:Hp) (args:Args) (us:List dn) (vs:List V) (Q:VK) (E:XK),kA k A->t9 P w K mg base A outer s H->IK s fd args (ps.zip us)->ez vs us->sp vs H Q E->
  codeAny (d8 P w) A (.call (.ref f) args) (CR CX outer P w H s Q E) s
theorem t9.make{P:gg}{w:fA}{K:SD}{j:DZ}{base:eL}{A:kb}{outer:List ow}{s:ea}{H:Hp}(e:t9 P w K j base A outer s H)(C:dj)(z:List dn)(I:List (Str×dn)):
 t9 P w K j base (A.under (.builtin "type.__call__" ⟨.ref C::z,I⟩)) outer s H:=⟨by first|exact e.frames|(simpa[Around.under,Code.envs,Code.isFrame,pushEnvs]using e.frames),e.mod,e.bs,e.ue,e.s8,e.u7,e.eI,e.bare⟩
theorem t9.in1{P:gg}{w:fA}{K:SD}{j:DZ}{base:eL}{A:kb}{outer:List ow}{s:ea}{H:Hp}(e:t9 P w K j base A outer s H):
 t9 P w K j base A.in1 outer s H:=⟨e.frames,e.mod,e.bs,e.ue,e.s8,e.u7,e.eI,e.bare⟩
section
variable{X:Cx}{pins:TW}{σ:St}{H:Hp}{s s':ea}
theorem Inv.uB(I:Inv X pins σ H s):t9 X.prog X.w X.K X.mg X.base X.A X.stack s H:=
 ⟨I.ok.frames,I.ok.mod,I.bs,Tf I.ok.ue I.sz,I.stack,I.v_,I.eI,I.bare⟩
theorem Inv.after(I:Inv X pins σ H s)(h:CE X.stack X.prog X.w H s Q u s'):EP X pins σ Q u s':=by obtain⟨v,f,os,a,un,e,r,q⟩:=h;obtain⟨O,g,d,t,J⟩:=s';obtain rfl:J=s.os:=os;exact⟨v,f,I.call un e a<|λb z=>absurd z ⋯,r,q⟩
end
noncomputable def bQ(sp:Sp)(e:List V)(E:XK)(t:TA):TE:=λd H Q=>t d H λb a=>sp (b++e) a Q E
noncomputable def ND(C:dj)(m:Str)(sp:Sp)(e:List V)(E:XK)(j:TE)(t:TA):TE:=λd H Q=>j d H λx b=>∃a g fs,x=.ref a/\b a=bB (.ins C g fs)/\fs.lookup m=cI/\
 t d b λh f=>sp (x::(h++e)) f Q E
noncomputable def CQ(C:dj)(sp:Sp)(e:List V)(E:XK)(t:TA):TE:=λg H Q=>t g H λf b=>∀x a,b x=cI->b a=cI->a≠x->
 sp (.ref x::(f++e)) (upd (upd b a<|.own x) x<|.ins C a []) (λv d=>v=.d9/\Q (.ref x) d) E
noncomputable def Binds(K:SD)(e:nf)(ps:List Str)(ds:List dn):Prop:=
 ∀(s:ea) (a:List dn),K.In s.heap->(a++ds).length=ps.length->IK s e ⟨a,[]⟩ (ps.zip<|a++ds)
theorem Binds.all{K:SD}{j:nf}{ps:List Str}(h:∀e,e.length=ps.length->D6 j ⟨e,[]⟩=pure (ps.zip e)):Binds K j ps []:=λs e _ I=>by rw[DC]at I ⊢;exact .of_eq<|h e I
noncomputable def YY(CX:tP)(X:Cx)(E:XK):Prop:=∀(a:TW) (d:St) (H:Hp) (s:ea) (e:dn) (b:ea),Inv X a d H s->CX X.stack H s E e b->X.xe e b
section
variable{X:Cx}{CX:tP}{k:Nat}{f C:dj}{fd:nf}{ps:List Str}{sp:Sp}{t5:List V}{ds:List dn}{E:XK}{x m:Str}{p pos apos:eU}{e o:dv}{es:List dv}{ta:TE}{t:TA}
theorem BD(F:ml X.prog X.w X.K X.mg X.base CX k f fd ps sp)(O:kA k X.A)(U:Binds X.K fd ps ds)(j:ez t5 ds)(Y:YY CX X E)
 (I:Inv X pins σ H s) (r:ez vs us) (h:sp (vs++t5) H Q E):wpAny (d8 X.prog X.w) X.A (call (.ref f) us) (EP X pins σ Q) X.xe s:=by
 have a:=r.append j;have Z:(us++ds).length=ps.length:=by rw[<-a.length];exact F.len _ _ _ _ h
 refine G_<|HB (F.run X.A X.stack s H _ (us++ds) (vs++t5) Q E O I.uB (U s us I.i8 Z) a h) λr d J=>?_;cases r with
 |error e=>exact Y pins σ H s e d I J
 |ok b=>
  cases b with
  |ret u=>exact I.after J
  |next=>assumption
  |brk=>assumption
  |cont=>assumption
theorem cM(F:ml X.prog X.w X.K X.mg X.base CX k f fd ps sp)(O:kA k X.A)(U:Gl X x)(Y:X.mg x=bB (.ref f))(Z:UY X.K (.ref f)=cm)(M:Binds X.K fd ps ds)(S:ez t5 ds)(hx:YY CX X E)
 (L:PA X (e::es) t) (j:(x==("__debug__"))=cT:=by decide) (he:eA (e::es) X.env=(cT,dy e X.env)::eA es X.env:=by rfl) (z:(oe pos (eA es X.env)).any (·.1)=cT:=by rfl):
 PE X (.Call (.Name x p) (e::es) [] pos) (bQ sp t5 E t):=by
 intro a s b H Q I h;refine C6<|Kr I U Y ?_ j;refine PySem.W.callWith_K I.ok.mod.L3 Z (ed (L pos a s b H _ I h) λi g ⟨l,d,J,r,q⟩=>⟨J.i8,?_⟩) he z;exact BD F O M S hx J r q
theorem EM(he:PE X o ta)(c:uQ X.K C)(J:KX X.K C m f)(F:ml X.prog X.w X.K X.mg X.base CX k f fd ps sp)(Z:kA k X.A)(M:Binds X.K fd ps ds)(S:ez t5 ds)(hx:YY CX X E)(L:PA X (e::es) t)
 (j:eA (e::es) X.env=(cT,dy e X.env)::eA es X.env:=by rfl) (z:(oe pos<|starEach es X.env).any (·.1)=cT:=by rfl)
 (ht:dy (.Call (.Attribute o m apos) (e::es) [] pos) X.env=(do
   let O<-dy o X.env
   y6 apos.atName
   let (f,first)<-rn [O] (OD O m pl)
   callWith pos f first (oe pos<|starEach (e::es) X.env) (yg pos<|keywordEach [] X.env)):=by rfl):
 PE X (.Call (.Attribute o m apos) (e::es) [] pos) (ND C m sp t5 E ta t):=by
 intro b s d H Q I h;refine PySem.W.methodCall_KW (ed (he b s d H _ I h) λu N p=>?_) ht;refine dt λy=>?_;obtain⟨x,g,U,G,a,R,fs,n,i,l,q⟩:=p;subst n;obtain rfl:u=w8 a:=G;refine y ?_;refine ma U i c J l ?_;refine PySem.W.callWith_K I.ok.mod.L3 J.kp (ed (L pos b N d g _ U q) λus T ⟨vs,P,Y,r,B⟩=>⟨Y.i8,?_⟩) j z;exact BD (vs:=.ref a::vs) F Z M S hx Y (.cons rfl r) B
structure Mk(K:SD)(C f:dj):Prop where
 makes:PySem.W.makesIn K C=cm
 init:Um K (.ref C) "__init__" = bB (bB (.ref f))
 fn:M8 K (.ref f)=cm
 kp:UY K (.ref C)=cm
theorem zdH(M:Mk X.K C f)(F:ml X.prog X.w X.K X.mg X.base CX k f fd ps sp)(Y:kA (k+1) X.A)(Z:Binds X.K fd ps ds)(L:ez t5 ds)
 (S:YY CX X E) (I:Inv X pins σ H s) (r:ez vs us)
 (h:∀x j,H x=cI->H j=cI->j≠x->sp (.ref x::(vs++t5)) (upd (upd H j<|.own x) x<|.ins C j []) (λv z=>v=.d9/\Q (.ref x) z) E):
 wpAny (d8 X.prog X.w) X.A (call (.ref C) us) (EP X pins σ Q) X.xe s:=by
 have O:=h _ _ (I.eI.fresh<|Df _) (I.eI.fresh<|SN _)<|Tc<|Ur _;have J:=Inv.made (C:=C) I;have a:ez (V.ref (s.heap.objs.size+1)::(vs++t5)) _:=.cons rfl (r.append L);have l:=by have e:=a.length;rw[F.len _ _ _ _ O]at e;exact e.symm
 refine G_ (As I.i8 M.makes M.init (beq_iff_eq.mp M.fn) (HB (F.run _ X.stack _ _ _ _ _ _ E (Y.make C us [])
  (J.uB.make C us []) (Z _ _ J.i8 l) a O) λr o U=>?_))
 cases r with
 |error e=>exact S pins σ _ _ e o J U
 | ok i=>
  cases i with
  |ret u=>
   obtain⟨v,b,d,n,g,m⟩:=J.after U;subst g;exact⟨n,⟨V.ref _,b,d,rfl,m⟩⟩
  |next=>assumption
  |brk=>assumption
  |cont=>assumption
theorem zdX(M:Mk X.K C f)(F:ml X.prog X.w X.K X.mg X.base CX k f fd ps sp)(J:kA (k+1) X.A)(O:Gl X x)(U:X.mg x=bB (.ref C))(Y:Binds X.K fd ps ds)(z:ez t5 ds)(Z:YY CX X E)
 (j:(x==("__debug__"))=cT:=by decide):PE X (.Call (.Name x p) [] [] pos) (CQ C sp t5 E Bw):=by
 intro a s b H Q I h;refine C6<|Kr I O U ?_ j;exact PySem.W.callWith_K0 I.i8 M.kp<|zdH M F J Y z Z I .nil h
end
structure DP(N P:List Str)(sc:f6):Prop where
 kind:sc.kind=.function
 co:sc.isCoroutine=cT
 gen:sc.isGenerator=cT
 nd:N.Nodup
 pre:N.take P.length=P
 par:∀x∈P,sc.names.lookup x=bB .local\/sc.names.lookup x=bB .cell
 S?:∀y∈sc.names,y.2 ≠ .free
theorem bo{kindOf:Str->Option ur}{x:Str}:∀{binds:List (Str×dn)} {m:DZ},(∀v,(x,v)∉binds)->Dn kindOf binds m x=m x
 |[],_,_=>rfl
 |(n,v)::r,m,h=>by
  unfold Dn;rw[bo λw a=>h w (SQ _ a)];split
  ·grind
  ·rfl
theorem br{kindOf:Str->Option ur}{x:Str}:∀{binds:List (Str×dn)} {m:DZ},(∀v,(x,v)∉binds)->Dm kindOf binds m x=m x
 |[],_,_=>rfl
 |(n,v)::r,m,h=>by
  unfold Dm;rw[br λw a=>h w (SQ _ a)];split
  ·rfl
  grind
theorem bp{kindOf:Str->Option ur}{x:Str}{v:dn}:∀{P:List Str} {vs:List dn} {i:Nat} {m:DZ},P.Nodup->P[i]? = bB x->vs[i]? = bB v->kindOf x=bB .local->
 Dn kindOf (P.zip vs) m x=bB v
 |[],_,_,_,_,h,_,_=>by simp at h
 |_::_,[],_,_,_,_,h,_=>by simp at h
 |p::P,w::vs,0,m,nd,h1,h2,hk=>by simp at h1 h2;subst h1;subst h2;show Dn kindOf ((p,w)::P.zip vs) m p=_;unfold Dn;rw[bo λv I=>(UJ.mp nd).1 (List.of_mem_zip I).1,DJ hk];simp
 |p::P,w::vs,i+1,m,nd,h1,h2,hk=>by unfold Dn;exact bp (UJ.mp nd).2 (by simpa using h1) (by simpa using h2) hk
theorem bt{kindOf:Str->Option ur}{x:Str}{v:dn}:∀{P:List Str} {vs:List dn} {i:Nat} {m:DZ},P.Nodup->P[i]? = bB x->vs[i]? = bB v->kindOf x≠bB .local->
 Dm kindOf (P.zip vs) m x=bB v
 |[],_,_,_,_,h,_,_=>by simp at h
 |_::_,[],_,_,_,_,h,_=>by simp at h
 |p::P,w::vs,0,m,nd,h1,h2,hk=>by simp at h1 h2;subst h1;subst h2;show Dm kindOf ((p,w)::P.zip vs) m p=_;unfold Dm;rw[br λv I=>(UJ.mp nd).1 (List.of_mem_zip I).1,DY hk];simp
 |p::P,w::vs,i+1,m,nd,h1,h2,hk=>by unfold Dm;exact bt (UJ.mp nd).2 (by simpa using h1) (by simpa using h2) hk
noncomputable def Ve(N:List Str)(vs:List V):St:=vs.map bB++SI (N.length-vs.length) cI
noncomputable def FN(CX:tP)(P:gg)(w:fA)(K:SD)(mg:DZ)(base:eL)(N:List Str)(qual:Str)(scope:f6)(f:dj)(I:dn)(A:kb)(outer:List ow)(s:ea)(H:Hp)(E:XK):Cx where
 prog:=P
 w:=w
 K:=K
 mg:=mg
 base:=base
 A:=A.deeper<|envOfC qual scope s.heap.objs.size f I
 N:=N
 n9:=s
 DR:=H
 env:=LP qual scope s.heap.objs.size f I
 outer:=outer
 stack:=LP qual scope s.heap.objs.size f I::outer
 ex:=[]
 calm:=cm
 fn:=λ_=>cm
 pn:=[]
 xe:=λe s'=>wpAny (d8 P w) (A.deeper<|envOfC qual scope s.heap.objs.size f I) (leaving (LP qual scope s.heap.objs.size f I) e) (λ_ J=>CX outer H s E e J) (λO J=>CX outer H s E O J) s'
theorem hJ{e:f6}{n:Nat}{x:Str}(h:e.names.lookup x=bB .cell):∃c,(uf n e.names []).lookup x=bB c:=by have q:=Pt e.names n [] (.inl h);exact US.mp q
theorem rE{CX:tP}{P:gg}{w:fA}{K:SD}{L:DZ}{base:eL}{N ps:List Str}{qual:Str}{scope:f6}{f:dj}{Q:dn}{A:kb}{outer:List ow}{s X:ea}{H:Hp}{E:XK}{M:List dn}{vs:List V}
 (S:DP N ps scope) (hd:A.handled=cI) (J:t9 P w K L base A outer s H) (hl:vs.length=ps.length) (r:ez vs M)
 (x:InCallC s s.heap.objs.size (Dn (LP qual scope s.heap.objs.size f Q).kindOf (ps.zip M) λ_=>cI) (uf (s.heap.objs.size+1) scope.names []) (Dm (LP qual scope s.heap.objs.size f Q).kindOf (ps.zip M) λ_=>cI) X):
 Inv (FN CX P w K L base N qual scope f Q A outer s H E) [] (Ve N vs) H X:=by
 have o:ps.length<=N.length:=by have:=congrArg DM S.pre;rw[S6]at this;lia
 obtain⟨g,B,rfl,Y⟩:=x.done;have U b:b∉(FN CX P w K L base N qual scope f Q A outer s H E).ex:=λz=>absurd (show b∈([])from z) ⋯;refine⟨⟨J.mod,S.kind,rfl,rfl,SN _,λy z c g I=>?_,λy O=>?_,λy c _ h=>?_,λ_=>hd,Around.frames_deeper J.frames,.inr ⟨rfl,rfl⟩,λb z=>absurd z<|U b,J.bs,J.ue,λb _ _=>U b,λb z=>absurd z<|U b,J.s8,J.u7⟩,
  rfl,J.bare,Un.kept Y,⟨_,x.toInCall.ns,λi y v g I t=>?_⟩,λy c h=>⟨_,x.cell y c h⟩,J.eI.fresh<|SN _,λy c h=>?_,λp d=>absurd (show p∈([])from d) ⋯,J.eI.kept Y,?_⟩
 ·exact name_of_addr x.apart (MI g)<|MI I
 ·have O:=O
  rcases O with O|O
  ·exact hJ O
  ·exact absurd rfl<|S.S? _<|MI O
 ·exact T7<|x.above y c<|MI h
 ·have j:i<vs.length:=by
   unfold Ve at I;by_cases j:i<vs.length
   ·exact j
   ·rw[TC (by simpa using j)]at I
    rw[Px]at I;split at I<;>cases I
  have m:vs[i]? = bB v:=by
   unfold Ve at I;rw[Tz (by simpa using j),TV]at I;cases e:vs[i]? with
   |none=>rw[e]at I;cases I
   |some a=>rw[e]at I;cases I;rfl
  obtain⟨u,Z,n⟩:=r.get m;have d:ps[i]? = bB y:=by rw[<-S.pre,List.getElem?_take_of_lt ⋯];exact g
  have l:ps.Nodup:=by rw[<-S.pre];exact S.nd.sublist<|List.take_sublist _ _
  refine⟨u,n,?_⟩;rcases S.par y (TN d)with k|k
  ·exact .inl ⟨k,bp l d Z k⟩
  ·obtain⟨c,e⟩:=hJ k
   refine .inr ⟨.inl k,c,e,?_⟩;have q:=x.cell y c e;rw[bt l d Z (by show scope.names.lookup y≠_;rw[k];decide)]at q;exact q
 ·exact J.eI.fresh<|T7<|x.above y c<|MI h
 ·unfold Ve
  show _=N.length;simp only[Tt,Ta,List.length_replicate];lia
theorem Os{CX:tP}{P:gg}{w:fA}{K:SD}{X:DZ}{base:eL}{k:Nat}{f:dj}{name qual:Str}{a0:Arguments}{z:List hB}{scope:f6}{dV kV M pm j ct oc:dn}{an od:Option dj}
 {OO:Array (Option dn)} {N ps:List Str} {sp:Sp} (lk:K.lookup f=bB ⟨oc,od,.func<|UZ name qual a0 z scope dV kV M pm an j ct,OO⟩) (a5:F5 K j qual=cm) (S:DP N ps scope)
 (len:∀vs H Q E,sp vs H Q E->vs.length=ps.length)
 (a6:∀A outer s H vs Q E,kA k (A.deeper<|envOfC qual scope s.heap.objs.size f j)->sp vs H Q E->
   ∃t,mm (FN CX P w K X base N qual scope f j A outer s H E) z t/\t {nx:=λ_ L=>Q .d9 L,rt:=Q} (Ve N vs) H):
 ml P w K X base CX (k+1) f (UZ name qual a0 z scope dV kV M pm an j ct) ps sp:=by
 refine⟨len,λA outer s H l us vs Q E Y O hb r h=>?_⟩;have G:=len _ _ _ _ h;have g:=O.mod.L3.keeps λb o e=>(O.bs b o e).1;have lim:=O.mod.nolimit.keeps λb o e=>(O.bs b o e).1;have p:∀y∈ps.zip us,scope.names.lookup y.1=bB .local\/(scope.names.lookup y.1=bB .cell/\((uf (s.heap.objs.size+1) scope.names []).lookup y.1).isSome=cm):=λ⟨n,v⟩ hy=>by
  rcases S.par n (List.of_mem_zip hy).1 with q|q
  ·exact .inl q
  ·exact .inr ⟨q,Pt _ _ _<|.inl q⟩
 refine codeAny_call_function Y.depth (g _ _ lk) rfl S.co S.gen rfl (PySem.W.codeRec_of g a5)<|hb _ _ _ _ ?_;refine wpAny_newFunctionEnv_cells S.kind p λB F m x=>?_;subst F;refine⟨lim.keeps x.toInCall.keep,codeAny_func ?_⟩;obtain⟨t,T,R⟩:=a6 A outer s H vs Q E (Y.deeper _) h;have I:Inv (FN CX P w K X base N qual scope f j A outer s H E) [] _ H m:=rE S Y.hd O G r x;refine rN (T [] m _ H _ I R) (λC d a=>?_) λe d a=>a;have i:∀{U:St} {L:Hp} {v:V} {u:dn},Inv (FN CX P w K X base N qual scope f j A outer s H E) [] U L d->RelV v u->Q v L->CE outer P w H s Q u d:=
  λ{U L v u} J Z q=>⟨v,L,J.os,J.bare,J.base,J.eI,Z,q⟩
 cases C with
 |ret u=>
  obtain⟨v,U,L,J,Z,q⟩:=a;exact i J Z q
 |next=>
  obtain⟨U,L,J,q⟩:=a;exact i (v:=V.d9) J rfl q
 |brk=>
  obtain⟨_,_,_,q⟩:=a;exact DG q
 |cont=>
  obtain⟨_,_,_,q⟩:=a;exact DG q
section
variable{X:Cx}{x:Str}{p pos:eU}{e:dv}{es:List dv}{t:TA}{id T:String}{r:List V->Hp->VK->Prop}
noncomputable def x'(r:List V->Hp->VK->Prop)(t:TA):TE:=λd H Q=>t d H λb a=>r b a Q
theorem yh(J:Zz X (.builtin id) r)(O:Gl X x)(U:X.mg x=cI)(Y:u0 x=bB (.builtin id))(E:PA X (e::es) t)(Z:x ≠ "__name__":=by decide)(j:(x==("__debug__"))=cT:=by decide)
 (L:eA (e::es) X.env=(cT,dy e X.env)::eA es X.env:=by rfl) (z:(oe pos<|starEach es X.env).any (·.1)=cT:=by rfl):PE X (.Call (.Name x p) (e::es) [] pos) (x' r t):=by
 intro a s b H Q I h;refine C6<|xU I O U Y ?_ Z j;exact I_ (ed (E pos a s b H _ I h) λl k ⟨m,d,f,i,g⟩=>J a k b d m l Q f i g) L z
theorem vO(J:Zz X (.type T) r)(O:Gl X x)(U:X.mg x=cI)(Y:u0 x=bB (.type T))(E:PA X (e::es) t)(Z:x ≠ "__name__":=by decide)(j:(x==("__debug__"))=cT:=by decide)
 (L:eA (e::es) X.env=(cT,dy e X.env)::eA es X.env:=by rfl) (z:(oe pos<|starEach es X.env).any (·.1)=cT:=by rfl):PE X (.Call (.Name x p) (e::es) [] pos) (x' r t):=by
 intro a s b H Q I h;refine C6<|xU I O U Y ?_ Z j;exact TM (ed (E pos a s b H _ I h) λl k ⟨m,d,f,i,g⟩=>J a k b d m l Q f i g) L z
end
end L2
namespace HT
open PySem PyProof.Rows
section
variable{prog:gg}{w:fA}{A:kb}{E:EQ}{s:ea}
theorem OE(L:DS s.heap t vs.toArray)(H:DS s.heap b ws.toArray)(O:vs ≠ [])
 (j:ws=[]->Q (.ref t) s) (z:ws ≠ []->Q (.ref s.heap.objs.size) {s with heap:=s.heap.push {cls:=.type "tuple",data:=.seq (vs++ws).toArray}})
 (hsz:vs.length+ws.length<=eK):wpAny (d8 prog w) A (tF .Add (.ref t)<|.ref b) Q E s:=by
 refine dt λl=>?_;obtain⟨⟨cls,U,data,f⟩,I,i,n,k⟩:=id L;obtain⟨⟨m,Y,data2,Z⟩,J,g,d,h⟩:=id H;refine l ?_;subst i k g h;have e:vs.toArray++ws.toArray=(vs++ws).toArray:=by simp
 by_cases a:ws=[]
 ·exact U3 ⟨_,I,rfl⟩ ⟨_,J,rfl⟩ _n s_ J' M_ (K_ _ _)
   (tuple_addW1 t b vs.toArray ws.toArray n d U Y f Z (by simpa using O)<|by simp[a]) ⟨I,J,j a⟩
 ·refine U3 ⟨_,I,rfl⟩ ⟨_,J,rfl⟩ _n s_ J' M_ (K_ _ _)
   (tuple_addW2 t b vs.toArray ws.toArray n d U Y f Z (by simpa using O) (by simpa using a)<|by assumption) ⟨I,J,?_⟩
  rw[e];exact z a
noncomputable def di(n d:Nat):Option Int->Nat
 |none=>d
 |some v=>if v<0 then (v+(n:Int)).toNat else min v.toNat n
theorem su(v:Int)(n d:Nat):(if v<0 then max (v+n) 0 else min v n)=((di n d (bB v):Nat)):=by
 show(if v<0 then max (v+n) 0 else min v n)=(((if v<0 then (v+(n:Int)).toNat else min v.toNat n):Nat));by_cases I:v<0
 ·simp only[DJ I];lia
 ·simp only[DY I];lia
theorem mH(lo e:Option Int)(n:Nat):O_ lo e 1 n=(((di n 0 lo):Int),((di n n e):Int)):=by
 have a:¬(1<0):=⋯
 unfold O_;simp only[a,if_false];refine Prod.ext ?_ ?_
 ·cases lo with
  |none=>rfl
  |some v=>exact su v n 0
 ·cases e with
  |none=>rfl
  |some v=>exact su v n n
theorem lj(i j:Nat):O' i j 1=j-i:=by
 unfold O';have a:(1:Int)>0:=⋯
 simp only[a,if_true,Int.ediv_one];split<;>lia
theorem Yu(p:uR v o)(h:Q o s):wpAny (d8 prog w) A (Builtin.Slice.slicePartIndex v) Q E s:=by
 cases p with
 |none=>exact slicePart_none h
 |int i t=>exact slicePart_int h
theorem QN{j:dj}{I J:dn}{lo e:Option Int}{n:Nat}{Q:Int×Int×Nat->ea->Prop}(hs:s.heap.IsSliceOf j I J .none)(pl:uR I lo)(Y:uR J e)
 (h:Q (((di n 0 lo:Nat)),1,di n n e-di n 0 lo) s):wpAny (d8 prog w) A (Builtin.Slice.sliceApplied (.ref j)<|pure n) Q E s:=by
 obtain⟨os,O,Z,U⟩:=id hs;refine SE<|SE<|TX O U (x:=I) rfl<|SE<|TX O U (x:=J) rfl<|SE<|TX O U rfl<|SM ?_;refine SE<|slicePart_none ?_;rw[DY ⋯];refine SE<|Yu pl<|SE<|Yu Y<|SE<|SM ?_;show wpAny _ _ (match O_ lo e 1 n with|(lo,e)=>pure (lo,(1:Int),O' lo e 1)) _ _ s;rw[mH lo e n];show wpAny _ _ (pure _) _ _ s;rw[lj];exact SM h
theorem zdU(xs:Array dn)(i k:Nat):((SF k).filterMap λ(m:Nat)=>xs[(i+(m:Int)*1).toNat]?).toArray=((xs.toList.drop i).take k).toArray:=by
 have e:(λ(m:Nat)=>xs[(i+(m:Int)*1).toNat]?)=λm=>xs[i+m]? :=by
  funext m;have:(i+(m:Int)*1).toNat=i+m:=⋯
  rw[this]
 rw[e];have:=pick_run xs i k;rw[List.filterMap_map]at this;have I:(_∘_)=λm=>xs[i+m]? :=rfl;rw[I]at this;rw[this]
theorem mf{t j:dj}{I:Array dn}{U Y:dn}{lo e:Option Int}{Q:EQ}(J:DS s.heap t I)(hs:s.heap.IsSliceOf j U Y .none)(pl:uR U lo)(Z:uR Y e)
 (z:¬(di I.size 0 lo=0/\di I.size I.size e=I.size))
 (h:Q (.ref s.heap.objs.size) {s with heap:=s.heap.push {cls:=.type "tuple",data:=.seq ((I.toList.drop (di I.size 0 lo)).take (di I.size I.size e-di I.size 0 lo)).toArray}})
 (hsz:I.size<=eK):wpAny (d8 prog w) A (u9 (.ref t)<|.ref j) Q E s:=by
 have O:=by show((I.toList.drop<|di I.size 0 lo).take (di I.size I.size e-di I.size 0 lo)).toArray.size<=eK;simp only[SW,S6,List.length_drop,Uy];lia
 obtain⟨os,a,b,g⟩:=id hs;have d:s.TypeIs (.ref j) "slice":=⟨os,a,b⟩;unfold u9
 try with_reducible refine tx ?_
 first|refine SE (SM ?_)|skip
 refine SE<|wpAny_sequenceKey J.typeIs ⋯ ?_;refine SE (TU J.typeIs Uw
  (Uk Uw J.typeIs entry_tuple_getitem ?_ (u? _ _)))
 show wpAny _ _ (Builtin.Tuple.tupleItemsOf (.ref t) >>= _) _ _ s;refine SE<|Nd J ?_;refine SE<|DI d ?_;rw[DJ ⋯];refine SE<|QN hs pl Z ?_;have f:¬((((di I.size 0 lo):Int)==0&&(1:Int)==1&&(di I.size I.size e-di I.size 0 lo)==I.size)=cm):=⋯
 show wpAny _ _ (if _=cm then _ else _) _ _ s;rw[DY f,zdU]
 first
  |exact SE<|UB (SM ⟨_,rfl,SM h⟩) O
  |exact SE<|UB (SE<|SM<|SM ⟨_,rfl,SM h⟩) O
  |exact SE<|SE<|UB (SM<|SM ⟨_,rfl,SM h⟩) O
  |exact SE<|SE<|UB (SM ⟨_,rfl,SM h⟩) O
end
end HT
namespace L2
open PySem PySem.Spec PyProof.Rows
abbrev TO:=St->Hp->(Option Int->Hp->Prop)->Prop
noncomputable def PO(X:Cx)(e:Option dv)(t:TO):Prop:=
 ∀(a:TW) (s:ea) (b:St) (H:Hp) (Q:Option Int->Hp->Prop),Inv X a b H s->t b H Q->
  wpAny (d8 X.prog X.w) X.A (evalPart e X.env) (λu f=>∃o d,Inv X a b d f/\uR u o/\Q o d) X.xe s
noncomputable def CP:TO:=λ_ H Q=>Q cI H
noncomputable def NA(t:TE):TO:=λb H Q=>t b H λx a=>∃i,x=.int i/\Q (bB i) a
section
variable{X:Cx}{e:dv}{te:TE}{lo hi:Option dv}{tl th:TO}{pos p2:eU}
theorem EF:PO X cI CP:=by intro a s b H Q I h;rw[evalPart_none];exact SM ⟨cI,H,I,.none,h⟩
theorem EE(h:PE X e te):PO X (bB e) (NA te):=by intro a s f H Q I d;rw[evalPart_some];refine ed (h a s f H _ I d) λu g J=>?_;obtain⟨x,b,O,U,Y⟩:=J;obtain⟨i,rfl,q⟩:=Y;obtain⟨t,rfl⟩:=U;exact⟨bB i,b,O,.int i t,q⟩
noncomputable def D3(X:Cx)(r:V->Option Int->Option Int->Hp->VK->Prop):Prop:=
 ∀(a:TW) (s:ea) (d:St) (H:Hp) (x:V) (v I J:dn) (lo hi:Option Int) (b:dj) (Q:VK),Inv X a d H s->RelV x v->s.heap.IsSliceOf b I J .none->uR I lo->uR J hi->r x lo hi H Q->
  ∃T id,FT (.type T) "__getitem__" = pure (bB (.builtin id))/\s.TypeIs v T/\wpAny (d8 X.prog X.w) X.A (u9 v (.ref b)) (EP X a d Q) X.xe s
noncomputable def tSl(r:V->Option Int->Option Int->Hp->VK->Prop)(te:TE)(tl th:TO):TE:=λa H Q=>te a H λx b=>tl a b λl d=>th a d λu I=>r x l u I Q
theorem Vt(Z:D3 X r)(z:PE X e te)(E:PO X lo tl)(L:PO X hi th):PE X (.Subscript e (.Slice lo hi cI p2) pos) (tSl r te tl th):=by intro a s d H Q I h;refine N4 (ed (z a s d H _ I h) λv G o=>?_);obtain⟨x,f,i,F,A⟩:=o;refine wpAny_Slice (ed (E a G d f _ i A) λJ K ⟨l,g,j,w,B⟩=>ed (L a K d g _ j B) λO U ⟨u,Y,k,y,C⟩=>?_);rw[evalPart_none];refine SM ?_;have m:Inv X a d Y {U with heap:=U.heap.push {cls:=.type "slice",data:=.fields #[J,O,.none]}}:=k.kept λb M q=>SG _ q;obtain⟨T,id,n,t,p⟩:=Z a _ d Y x v J O l u _ Q m F (Heap.IsSliceOf.new ..) w y C;exact tail_any t n p (by rfl)
noncomputable def FQ(xs:List V)(lo hi:Option Int):List V:=(xs.drop<|HT.di xs.length 0 lo).take (HT.di xs.length xs.length hi-HT.di xs.length 0 lo)
theorem KL(xs:List V)(lo hi:Option Int):(FQ xs lo hi).length<=xs.length:=by unfold FQ;rw[S6,List.length_drop];lia
noncomputable def RJ(K:SD):V->Option Int->Option Int->Hp->VK->Prop:=λx lo hi H Q=>∃a b,x=.ref a/\hH K H a b/\
 ¬(HT.di b.length 0 lo=0/\HT.di b.length b.length hi=b.length)/\∀p,H p=cI->Q (.ref p) (upd H p<|.tup<|FQ b lo hi)
theorem Hr:D3 X (RJ X.K):=by
 intro f s p H x v n o lo hi m Q I U i k Y h;obtain⟨a,g,rfl,Z,j,q⟩:=h;cases U;obtain⟨d,r,O,e⟩:=I.tuple Z;have J:d.toArray.size=g.length:=by rw[SW];exact r.length.symm
 refine⟨"tuple",_,Uw.lookup,O.typeIs,?_⟩;refine HT.mf O i k Y (by rw[J];exact j) ?_ (by rw[J];exact e);rw[J];refine⟨.ref _,_,I.laid (λb l q=>SG _ q) (SN _) ?_,rfl,q _ (I.eI.fresh (SN _))⟩;exact⟨Tf (KL g lo hi) e,_,(r.drop _).take _,ub.new _ _⟩
theorem ez.ON(r:ez xs us):us=[]↔xs=[]:=by
 cases r with
 |nil=>simp
 |cons _ _=>simp
end
noncomputable def B1(n:Nat)(i:Int):Option Nat:=if 0<=i then (if i<n then bB i.toNat else cI)else if -(n:Int)<=i then bB (i+n).toNat else cI
noncomputable def x7{e:Type}(xs:List e)(i:Int):Option e:=(B1 xs.length i).bind λj=>xs[j]?
theorem rA(h:B1 n i=bB j):seqIndex? i n=bB j/\j<n/\ -n<=i/\i<n:=by
 unfold B1 at h;by_cases b:0<=i
 ·rw[DJ b]at h
  by_cases a:i<n
  ·rw[DJ a]at h
   have e:=TJ h;exact⟨by rw[r_ b a,e],⋯,⋯,a⟩
  ·rw[DY a]at h;cases h
 ·rw[DY b]at h
  by_cases a : -n<=i
  ·rw[DJ a]at h
   have e:=TJ h;exact⟨by rw[q_ ⋯ a,e],⋯,a,⋯⟩
  ·rw[DY a]at h;cases h
theorem dX(h:x7 xs i=bB v):∃j,seqIndex? i xs.length=bB j/\xs[j]? = bB v/\j<xs.length/\ -(xs.length)<=i/\i<xs.length:=by
 unfold x7 at h;cases e:B1 xs.length i with
 |none=>rw[e]at h;cases h
 |some j=>
  rw[e]at h;obtain⟨a,I,J,O⟩:=rA e;exact⟨j,a,h,I,J,O⟩
noncomputable def eD(b:dv):Prop:=∀o i,OX b cT o i=operate [o,i] (u9 o i)
noncomputable def xv(X:Cx)(r:R2):Prop:=
 ∀(b I:dv) (a:TW) (s:ea) (d:St) (H:Hp) (x y:V) (v u:dn) (Q:VK),Inv X a d H s->RelV x v->RelV y u->r x y H Q->
  OX I cT v u=operate [v,u] (u9 v u)->wpAny (d8 X.prog X.w) X.A (subscriptTail b I v u) (EP X a d Q) X.xe s
noncomputable def D0(X:Cx)(id:String)(r:V->List V->Hp->VK->Prop):Prop:=
 ∀(a:TW) (s:ea) (e:St) (H:Hp) (x:V) (d:List V) (v:dn) (b:List dn) (Q:VK),Inv X a e H s->RelV x v->ez d b->r x d H Q->
  wpAny (d8 X.prog X.w) X.A (call (.builtin id) (v::b)) (EP X a e Q) X.xe s
section
variable{X:Cx}{a b:dv}{ta tb:TE}{pos:eU}
theorem xv.or(h:xv X r)(h':xv X r'):xv X (λx y H Q=>r x y H Q\/r' x y H Q):=by
 intro a J b s e H x y v u Q I O U q d;rcases q with q|q
 ·exact h a J b s e H x y v u Q I O U q d
 ·exact h' a J b s e H x y v u Q I O U q d
theorem Iv(J:xv X r)(j:PE X a ta)(O:PE X b tb)(hs:eD b):PE X (.Subscript a b pos) (Dy r ta tb):=by intro d s g H Q I h;exact N4<|OF j O I h λv u f x y e U Y Z q=>J a b d f g e x y v u Q U Y Z q<|hs _ _
noncomputable def RO(K:SD):R2:=λx y H Q=>∃p a i v,x=.ref p/\y=.int i/\fy K H p a/\x7 a i=bB v/\Q v H
noncomputable def RM(K:SD):R2:=λx y H Q=>∃p a i v,x=.ref p/\y=.int i/\hH K H p a/\x7 a i=bB v/\Q v H
noncomputable def RN:R2:=λx y H Q=>∃z i c,x=.str z/\y=.int i/\z.length<=eK/\x7 z.cps.toList i=bB c/\Q (.str ⟨#[c]⟩) H
theorem K?:xv X (RO X.K):=by
 intro f G a s F H x y v u Q I Y Z h k;obtain⟨p,P,i,z,rfl,rfl,C,A,q⟩:=h;cases Y;refine dt λE=>?_;obtain⟨t,rfl⟩:=Z;obtain⟨d,r,e,N⟩:=I.list C;obtain⟨j,b,m,L,n,o⟩:=dX A;obtain⟨w,O,l⟩:=r.get m;refine E ?_;have B:=r.length;have M:=Ko;have U:EP X a F Q w s:=⟨z,H,I,l,q⟩;by_cases g:0<=i
 ·have J:=by
   rw[r_ g o]at b;exact TJ b
  exact item_listR e.isList g ⋯ (by rw[J];simpa using O) U k
 ·have J:(i+(d.toArray.size)).toNat=j:=by
   rw[q_ ⋯ n]at b;rw[SW,<-B];exact TJ b
  exact zaa e.isList.typeIs _k.lookup
   (wpAny_getItem_list_neg e.isList ⋯ (by rw[SW]<;>lia) ⋯ (by rw[J];simpa using O) ⟨rfl,U⟩) k
theorem Lb:xv X (RM X.K):=by
 intro b B a s A H x y v u Q I J O h n;obtain⟨p,M,i,z,rfl,rfl,U,l,q⟩:=h;cases J;refine dt λY=>?_;obtain⟨t,rfl⟩:=O;obtain⟨o,r,d,L⟩:=I.tuple U;obtain⟨j,k,Z,C,E,F⟩:=dX l;obtain⟨w,g,e⟩:=r.get Z;refine Y ?_;have m:=r.length;have G:=Ko;have f:EP X a A Q w s:=⟨z,H,I,e,q⟩;exact zaa d.typeIs slot_tuple_getitem.lookup
  (getItem_tuple d ⋯ ⋯ (by rw[SW,<-m];exact k) (by simpa using g) ⟨rfl,f⟩) n
theorem Lc:xv X RN:=by
 intro a l d s r H x y v u Q I J O h k;refine dt λU=>?_;obtain⟨z,i,c,rfl,rfl,o,f,q⟩:=h;obtain⟨t,rfl⟩:=J;obtain⟨p,rfl⟩:=O;obtain⟨j,b,Y,m,Z,e⟩:=dX f;refine U ?_;have g:z.cps.toList.length=z.length:=by rfl
 rw[g]at b Z e;have n:=Ko;exact tail_any (DN s z t) slot_str_getitem.lookup (getItem_str (by
  lia) (by rw[b];simpa using Y) ⟨.str _,H,I.tok _,⟨_,rfl⟩,q⟩) k
theorem lJ(its:List dn)(n j:Nat)(u:dn):Ua (·.setIfInBounds j u) {cls:=.type "list",data:=.seq its.toArray n} = {cls:=.type "list",data:=.seq (its.set j u).toArray n}:=by simp[Ua]
theorem Inv.lst(I:Inv X pins σ H s)(h:H p=bB (.lst xs)):
 ∃its n,ez xs its/\s.heap.get? p=bB {cls:=.type "list",data:=.seq its.toArray n}/\xs.length<=eK:=by
 obtain⟨z,its,n,r,e⟩:=I.eI p _ h;exact⟨its,n,r,e,z⟩
theorem Inv.O?{j:TW}{z:St}{H:Hp}{s:ea}{p:dj}{xs ys:List V}{its its':List dn}{n n':Nat}{f:l6->l6}(I:Inv X j z H s)(h:H p=bB (.lst xs))
 (O:s.heap.get? p=bB {cls:=.type "list",data:=.seq its.toArray n}) (J:f {cls:=.type "list",data:=.seq its.toArray n} = {cls:=.type "list",data:=.seq its'.toArray n'}) (r:ez ys its') (hz:ys.length<=eK) (t:Nat):
 Inv X j z (upd H p<|.lst ys) {s with heap:=s.heap.update p f,toks:=t}:=by
 have e:(s.heap.update p f).get? p=bB {cls:=.type "list",data:=.seq its'.toArray n'}:=by rw[UR f O (by rw[J]<;>rfl),J]
 refine I.write (by rw[h];trivial) (.inl rfl) (λb u Q q=>(Tu _ _<|Tq Q).trans q) ⟨_,e⟩ ?_;exact⟨hz,its',n',r,e⟩
noncomputable def NP:V->V->V->Hp->(Hp->Prop)->Prop:=λo i v H Q=>∃p a k j,o=.ref p/\i=.int k/\H p=bB (.lst a)/\B1 a.length k=bB j/\Q (upd H p<|.lst<|a.set j v)
theorem fD:Ru X NP:=by
 intro g s G H o i v E C u Q I y x z h;obtain⟨p,F,k,j,rfl,rfl,f,l,q⟩:=h;cases y;refine dt λw=>?_;obtain⟨t,rfl⟩:=x;obtain⟨a,n,r,J,m⟩:=I.lst f;obtain⟨b,A,Y,Z⟩:=rA l;refine w ?_;have O:=r.length;have B:=Ko;have d:=
  I.O? f J (lJ a n j u) (r.set z j) (by rw[List.length_set];exact m) s.toks
 by_cases e:0<=k
 ·have U:=by
   rw[r_ e Z]at b;exact TJ b
  exact PySem.W.ki_setAt J e ⋯ (by rw[SW,<-O];exact Z) (by rw[U];exact⟨_,d,q⟩)
 ·have U:(k+(a.toArray.size)).toNat=j:=by
   rw[q_ ⋯ Y]at b;rw[SW,<-O];exact TJ b
  exact PySem.W.ki_setBack J ⋯ (by rw[SW,<-O];exact Y) ⋯ (by rw[U];exact⟨_,d,q⟩)
theorem WL(lo e:Option Int)(n:Nat):(B8 lo e cI n).1=((HT.di n 0 lo:Nat))/\(B8 lo e cI n).2.1=((HT.di n n e:Nat))/\(B8 lo e cI n).2.2=1:=by
 refine⟨?_,?_,rfl⟩
 ·cases lo with
  |none=>rfl
  |some i=>
   simp only[B8,HT.di,Option.getD_none,show 1>0 by decide,if_true];by_cases h:i<0
   ·simp only[h,if_true]<;>lia
   ·simp only[h,if_false]<;>lia
 ·cases e with
  |none=>rfl
  |some i=>
   simp only[B8,HT.di,Option.getD_none,show 1>0 by decide,if_true];by_cases h:i<0
   ·simp only[h,if_true]<;>lia
   ·simp only[h,if_false]<;>lia
theorem Vh(its:List dn)(lo e:Option Int):OT its.toArray lo e cI=((its.drop<|HT.di its.length 0 lo).take (HT.di its.length its.length e-HT.di its.length 0 lo)).toArray:=by obtain⟨a,I,J⟩:=WL lo e its.toArray.size;unfold OT;simp only[a,I,J];simp only[sliceRange_one,pick_run,SW]<;>rfl
noncomputable def RK(K:SD):V->Option Int->Option Int->Hp->VK->Prop:=λx lo d H Q=>∃a b,x=.ref a/\fy K H a b/\∀p,H p=cI->Q (.ref p) (upd H p<|.lst<|FQ b lo d)
theorem Eg:D3 X (RK X.K):=by intro d s p H x v n o lo e m Q I O f j U h;obtain⟨a,k,rfl,Y,q⟩:=h;cases O;obtain⟨i,r,J,g⟩:=I.list Y;have Z:=r.length;refine⟨"list",_,_k.lookup,J.isList.typeIs,?_⟩;refine zen J.isList f j U .none ⋯ ?_ (by rw[SW]<;>lia);rw[Vh,<-Z];refine⟨.ref _,_,I.laid (λb l q=>SG _ q) (SN _) ?_,rfl,q _ (I.eI.fresh (SN _))⟩;exact⟨Tf (KL k lo e) g,_,0,(r.drop _).take _,SV _ rfl⟩
noncomputable def Yl:V->Bool
 |.d9=>cm
 |.bl _=>cm
 |.int _=>cm
 |.str _=>cm
 |_=>cT
noncomputable def u6:V->V->Bool
 |.d9,.d9=>cm
 |.bl a,.bl b=>a==b
 |.bl a,.int b=>(if a then 1 else 0)==b
 |.int a,.bl b=>a==(if b then 1 else 0)
 |.int a,.int b=>a==b
 |.str a,.str b=>a==b
 |_,_=>cT
theorem Lv(J:RelV y u)(I:RelV x v)(Q:Yl y=cm)(O:Yl x=cm):Ul A s u v (u6 y x):=by
 cases y with
 |d9=>
  cases J;cases x with
  |d9=>cases I;exact Ul.same _
  |bl b=>cases I;exact Ul.none_bool b
  |int b=>obtain⟨t,rfl⟩:=I;exact Ul.none_int b t
  |str b=>obtain⟨t,rfl⟩:=I;exact Ul.none_str b t
  |_=>exact absurd O TL
 |bl a=>
  cases J;cases x with
  |d9=>cases I;exact Ul.bool_none a
  |bl b=>cases I;exact Ul.bool_bool a b
  |int b=>obtain⟨t,rfl⟩:=I;exact Ul.bool_int a b t
  |str b=>obtain⟨t,rfl⟩:=I;exact Ul.bool_str a b t
  |_=>exact absurd O TL
 |int a=>
  obtain⟨d,rfl⟩:=J;cases x with
  |d9=>cases I;exact Ul.int_none a d
  |bl b=>cases I;exact Ul.int_bool a d b
  |int b=>obtain⟨t,rfl⟩:=I;exact MH a d b t
  |str b=>obtain⟨t,rfl⟩:=I;exact Ul.int_str a d b t
  |_=>exact absurd O TL
 |str a=>
  obtain⟨d,rfl⟩:=J;cases x with
  |d9=>cases I;exact Ul.str_none a d
  |bl b=>cases I;exact Ul.str_bool a d b
  |int b=>obtain⟨t,rfl⟩:=I;exact Ul.str_int a d b t
  |str b=>obtain⟨t,rfl⟩:=I;exact Ul.str_str a d b t
  |_=>exact absurd O TL
 |_=>exact absurd Q TL
noncomputable def ri(x:V)(u:dn):Bool:=match u with
 |.none=>u6 .d9 x
 |.bool b=>u6 (.bl b) x
 |.int i _=>u6 (.int i) x
 |.str z _=>u6 (.str z) x
 |_=>cT
theorem Cn(r:RelV y u)(f:Yl y=cm):ri x u=u6 y x:=by
 cases y with
 |d9=>cases r;rfl
 |bl b=>cases r;rfl
 |int i=>obtain⟨t,rfl⟩:=r;rfl
 |str z=>obtain⟨t,rfl⟩:=r;rfl
 |_=>exact absurd f TL
theorem KW:∀{xs:List V} {e:List dn},ez xs e->xs.all Yl=cm->e.any (ri x)=xs.any λy=>u6 y x
 |_,_,.nil,_=>rfl
 |y::xs,u::e,.cons r t,f=>by simp only[S4,Td]at f;simp only[S3,S3,Cn r f.1,KW t f.2]
theorem Jc(J:RelV x v)(O:Yl x=cm):∀{xs:List V} {e:List dn},ez xs e->xs.all Yl=cm->∀u∈e,Ul A s u v (ri x u)
 |_,_,.nil,_=>λu I=>by grind
 |y::xs,u::e,.cons r t,f=>λQ I=>by
  simp only[S4,Td]at f;rcases SS.mp I with rfl|I
  ·rw[Cn r f.1];exact Lv r J f.1 O
  ·exact Jc J O t f.2 Q I
noncomputable def uC(x:V)(xs:List V):Bool:=xs.any λy=>u6 y x
noncomputable def o_(K:SD)(I:Bool):R2:=λx y H Q=>∃p a,y=.ref p/\(fy K H p a\/hH K H p a)/\Yl x=cm/\a.all Yl=cm/\Q (.bl<|if I then !uC x a else uC x a) H
theorem Kb:h6 X (m3 .In) (o_ X.K cT):=by
 intro e s i H x y v u Q I O Y h;obtain⟨p,g,rfl,J,U,fs,q⟩:=h;cases Y;rcases J with J|J
 ·obtain⟨a,r,d,f⟩:=I.list J
  refine SeqAt.in_listAt (ri x) d.isList (λw b=>Jc O U r fs w<|by simpa using b) ⟨.bl _,H,I,rfl,?_⟩;rw[show a.toArray.any (ri x)=a.any (ri x)by simp,KW r fs];exact q
 ·obtain⟨a,r,d,f⟩:=I.tuple J
  refine SeqAt.in_tupleAt (ri x) d (λw b=>Jc O U r fs w<|by simpa using b) ⟨.bl _,H,I,rfl,?_⟩;rw[show a.toArray.any (ri x)=a.any (ri x)by simp,KW r fs];exact q
theorem QD:h6 X (m3 .NotIn) (o_ X.K cm):=by
 intro e s i H x y v u Q I O Y h;obtain⟨p,g,rfl,J,U,fs,q⟩:=h;cases Y;rcases J with J|J
 ·obtain⟨a,r,d,f⟩:=I.list J
  refine SeqAt.notIn_listAt (ri x) d.isList (λw b=>Jc O U r fs w<|by simpa using b) ⟨.bl _,H,I,rfl,?_⟩;rw[show a.toArray.any (ri x)=a.any (ri x)by simp,KW r fs];exact q
 ·obtain⟨a,r,d,f⟩:=I.tuple J
  refine SeqAt.notIn_tupleAt (ri x) d (λw b=>Jc O U r fs w<|by simpa using b) ⟨.bl _,H,I,rfl,?_⟩;rw[show a.toArray.any (ri x)=a.any (ri x)by simp,KW r fs];exact q
theorem bc:Zz X (.builtin "len") (λxs H Q=>∃p ys,xs=[.ref p]/\(fy X.K H p ys\/hH X.K H p ys)/\Q (.int ys.length) H):=by
 intro e s i H xs g Q I r h;obtain⟨p,ys,rfl,J,q⟩:=h;obtain⟨u,rfl,U⟩:=kF r;cases U;have Y:=Ko;rcases J with J|J
 ·obtain⟨a,d,b,f⟩:=I.list J
  have O:=d.length;exact Calls.call_len_list b.isList (by simp only[SW]<;>lia) ⟨.int ys.length,H,I.tok _,⟨s.toks+1,by rw[SW,O]⟩,q⟩
 ·obtain⟨a,d,b,f⟩:=I.tuple J
  have O:=d.length;exact len_tuple b (by simp only[SW]<;>lia) ⟨.int ys.length,H,I.tok _,⟨s.toks+1,by rw[SW,O]⟩,q⟩
theorem ba:Zz X (.builtin "len") (λxs H Q=>∃z,xs=[.str z]/\z.length<=eK/\Q (.int z.length) H):=by intro a s e H xs d Q I r h;obtain⟨z,rfl,b,q⟩:=h;obtain⟨u,rfl,t,rfl⟩:=kF r;have J:=Ko;exact len_str ⋯ ⟨.int z.length,H,I.tok _,⟨_,rfl⟩,q⟩
theorem aZ:Zz X (.type "list") (λxs H Q=>∃p ys,xs=[.ref p]/\(fy X.K H p ys\/hH X.K H p ys)/\∀l,H l=cI->Q (.ref l) (upd H l (.lst ys))):=by
 intro g s z H xs A Q I r h;obtain⟨p,ys,rfl,J,q⟩:=h;obtain⟨u,rfl,y⟩:=kF r;cases y;have Y:∀a,ez ys a->ys.length<=eK->∀i Z,(∀b m,_=bB m->i.get? b=bB m)->
  _=_->EP X g z Q _ {s with heap:=i}:=λa d f i Z x e=>
  ⟨.ref _,_,I.laid x (SN _) (show n5 X.prog X.w _ i _ (.lst ys)from⟨f,a,Z,d,e⟩),rfl,q _<|I.eI.fresh<|SN _⟩
 rcases J with J|J
 ·obtain⟨a,d,k,f⟩:=I.list J
  have t:=d.length;obtain⟨o,O,U,n,j⟩:=k.isList;exact call_list_seq p (.inl rfl) O U j ((Y a d f)) (by simp only[SW]<;>lia)
 ·obtain⟨a,d,k,f⟩:=I.tuple J
  have t:=d.length;obtain⟨o,O,U,n,j⟩:=k;exact call_list_seq p (.inr rfl) O U j ((Y a d f)) (by simp only[SW]<;>lia)
theorem V4:Zz X (.type "tuple") (λxs H Q=>∃p ys,xs=[.ref p]/\((fy X.K H p ys/\∀l,H l=cI->Q (.ref l) (upd H l (.tup ys)))\/(hH X.K H p ys/\Q (.ref p) H))):=by
 intro i s n H xs m Q I r h;obtain⟨p,ys,rfl,h⟩:=h;obtain⟨u,rfl,U⟩:=kF r;cases U;rcases h with⟨J,q⟩|⟨J,q⟩
 ·obtain⟨a,f,d,g⟩:=I.list J
  have Z:=f.length;refine call_tuple_list d.isList (λj k=>?_) (by simp only[SW]<;>lia);have O:=I.kept (t':=s.toks) k;have Y:=
   O.laid (t':=s.toks) (λb o e=>SG _ e) (SN _) (show n5 X.prog X.w _ _ _ (.tup ys)from⟨g,a,f,ub.new _ _⟩)
  exact⟨.ref j.objs.size,_,Y,rfl,q _<|O.eI.fresh<|SN _⟩
 ·obtain⟨a,f,d,g⟩:=I.tuple J
  exact call_tuple_same d ⟨.ref p,H,I,rfl,q⟩
noncomputable def E_(K:SD)(T:String)(x:V)(H:Hp):Prop:=match x with
 |.str _=>T = "str"
 |.int _=>T = "int"
 |.ref p=>(T = "list"/\∃b,fy K H p b)\/(T = "tuple"/\∃o,K.lookup p=bB o/\o.cls=.type "tuple"/\o.dict=cI)\/
  (T = "dict"/\((∃a,H p=bB (.dK a))\/∃a,H p=bB (.dT a)))\/(T = "set"/\∃S n,H p=bB (.set S n))
 |_=>False
theorem GZ(I:Inv X pins σ H s)(r:RelV x v)(ty:E_ X.K T x H):
 s.TypeIs v T/\∀a,v=.ref a->∃Q,s.heap.get? a=bB Q/\Q.dict=cI:=by
 cases x with
 |str z=>
  obtain⟨t,rfl⟩:=r;cases ty;exact⟨DN s z t,λ_ e=>nomatch e⟩
 |int i=>
  obtain⟨t,rfl⟩:=r;cases ty;exact⟨Ni s i t,λ_ e=>nomatch e⟩
 | ref p=>
  cases r;rcases ty with⟨rfl,j,U⟩|⟨rfl,o,J,Y,d⟩|⟨rfl,J⟩|⟨rfl,S,n,J⟩
  ·obtain⟨h,_,g,_⟩:=I.list U
   refine⟨g.isList.typeIs,λa e=>?_⟩;cases e;obtain⟨o,n,e,c,d,_⟩:=g;exact⟨o,e,d⟩
  ·refine⟨⟨o,I.i8 p o J,Y⟩,λa e=>?_⟩
   cases e;exact⟨o,I.i8 _ o J,d⟩
  ·have z:∃o,s.heap.get? p=bB o/\o.ExactDict:=by
    rcases J with⟨f,J⟩|⟨f,J⟩
    ·obtain⟨_,_,_,_,o,_,_,e,b,_⟩:=I.eI p _ J
     exact⟨o,e,b⟩
    ·obtain⟨_,_,_,_,o,_,_,e,b,_⟩:=I.eI p _ J
     exact⟨o,e,b⟩
   obtain⟨o,e,b⟩:=z;refine⟨⟨o,e,b.1⟩,λa O=>?_⟩;cases O;exact⟨o,e,b.2.1⟩
  ·obtain⟨o,_,_,_,e,b,_⟩:=I.eI p _ J
   refine⟨⟨o,e,b.1⟩,λa O=>?_⟩;cases O;exact⟨o,e,b.2.1⟩
 |_=>exact DG ty
noncomputable def w_(K:SD)(T:String)(r:V->List V->Hp->VK->Prop)(to:TE)(t:TA):TE:=λb H Q=>to b H λx a=>E_ K T x a/\t b a λe d=>r x e d Q
variable{o e:dv}{es:List dv}{to:TE}{t:TA}{name:Str}{apos cpos:eU}{T id:String}{r:V->List V->Hp->VK->Prop}
theorem lu(Y:PlainAttrs T)(j:Slot T name id)(Z:typeOf (.builtin id)=pure (.type "method_descriptor"))(S:D0 X id r)(ho:PE X o to)(M:PA X (e::es) t)
 (z:x8 o name X.env (dy o X.env)=dy o X.env:=by rfl)
 (E:((oe cpos<|starEach (e::es) X.env).all (λx=> !x.1)&&(yg cpos<|keywordEach [] X.env).all (λx=>x.1.isSome)
   &&decide ((e::es).length+([]:List tr).length+(if ([]:List tr).isEmpty then 0 else 1)<30))=cm:=by rfl)
 (L:(apos.endLine==cpos.line)=cm:=by rfl) (hs:eA (e::es) X.env=(cT,dy e X.env)::eA es X.env:=by rfl) (ad:(oe cpos<|starEach es X.env).any (·.1)=cT:=by rfl):
 PE X (.Call (.Attribute o name apos) (e::es) [] cpos) (w_ X.K T r to t):=by
 intro a s b H Q I h;refine wpAny_Call_method_late z E L rfl<|ed (ho a s b H _ I h) λv w l=>?_;refine dt λm=>?_;obtain⟨x,d,J,O,ty,n⟩:=l;obtain⟨i,k⟩:=GZ J O ty;refine m ?_;refine⟨T,id,Y,j,Z,i,k,?_⟩;have U:=M cpos a w b d _ J n;rw[hs]at U ⊢;refine Calls.callWith_builtin (by assumption)<|Calls.evalArgs_plain ?_;exact ed U λA y ⟨B,f,g,u,p⟩=>S a y b f x B v A Q g O u p
end
noncomputable def XP(X:Cx)(id:String)(r:V->List V->Hp->VK->Prop):Prop:=
 ∀(a:TW) (s:ea) (e:St) (H:Hp) (x:V) (d:List V) (v:dn) (b:List dn) (Q:VK),Inv X a e H s->RelV x v->ez d b->r x d H Q->
  wpAny (d8 X.prog X.w) X.A (call (.builtin id) (v::b)) (EP X a e Q) X.xe s
theorem ez.one:∀{x:V} {e:List dn},ez [x] e->∃u,e=[u]/\RelV x u
 |_,_,.cons r .nil=>⟨_,rfl,r⟩
theorem ez.rep(h:ez xs us):∀k,ez (SI k xs).flatten (SI k us).flatten
 |0=>.nil
 |k+1=>by exact ez.append h<|ez.rep h k
theorem KC(its:List dn):∀k j,
 List.foldl (λz I=>z++I) j.toArray (SI k its.toArray)=(j++(SI k its).flatten).toArray
 |0,j=>by simp
 |k+1,j=>by
  have e:j.toArray++its.toArray=(j++its).toArray:=by simp
  have J:(j++its)++(SI k its).flatten=j++(SI (k+1) its).flatten:=by simp only[List.replicate_succ,List.flatten_cons,R_]
  rw[<-J,<-KC its k (j++its),<-e,List.replicate_succ,List.foldl_cons]
section
variable{X:Cx}{pins:TW}{σ:St}{H:Hp}{s:ea}{l:dj}{xs ys:List V}
theorem Inv.B3{its its':List dn}{n:Nat}{f:Array dn->Array dn}{t':Nat}(I:Inv X pins σ H s)(J:H l=bB (.lst xs))
 (e:s.heap.get? l=bB {cls:=.type "list",data:=.seq its.toArray n}) (O:f its.toArray=its'.toArray) (Q:ez ys its') (hz:ys.length<=eK):
 Inv X pins σ (upd H l<|.lst ys) {s with heap:=s.heap.update l<|Ua f,toks:=t'}:=by
 have q:=PySem.IsL.update e f;rw[O]at q;refine I.write (by rw[J];exact trivial) (.inl rfl) (λZ u U Y=>(Tu s.heap _<|Tq U).trans Y) ⟨_,q⟩ ?_;exact⟨hz,its',_,Q,q⟩
theorem Inv.E5(I:Inv X pins σ H s)(J:ez ys its)(hz:ys.length<=eK):
 Inv X pins σ (upd H s.heap.objs.size (.lst ys)) {s with heap:=s.heap.push {cls:=.type "list",data:=.seq its.toArray},toks:=t'}:=
 I.laid (λ_ _ q=>SG _ q) (SN _) ⟨hz,its,0,J,SV _ rfl⟩
theorem Inv.fresh(I:Inv X pins σ H s):H s.heap.objs.size=cI:=I.eI.fresh<|SN _
theorem Inv.vl(I:Inv X pins σ H s)(J:H l=bB (.lst xs)):xs.length<=eK/\∃its n,ez xs its/\xs.length=its.length/\s.heap.get? l=bB {cls:=.type "list",data:=.seq its.toArray n}:=by obtain⟨z,its,n,r,e⟩:=I.eI l _ J;exact⟨z,its,n,r,r.length,e⟩
theorem gp(h:n<=eK):PY n=cT:=by unfold PY;exact decide_eq_false ⋯
end
section
variable{X:Cx}
noncomputable def oB:V->List V->Hp->VK->Prop:=λx b H Q=>∃l a y,x=.ref l/\b=[y]/\H l=bB (.lst a)/\a.length<eK/\Q .d9 (upd H l<|.lst<|a++[y])
theorem pQ:XP X "list.append" oB:=by intro b s j H x g v f Q I O U h;obtain⟨l,i,y,rfl,rfl,J,d,q⟩:=h;cases O;obtain⟨u,rfl,Y⟩:=U.one;obtain⟨z,a,n,r,Z,e⟩:=I.vl J;refine tN F.slot_list_append ⟨_,e,rfl⟩ F.entry_list_append (F.args_list_append_2 _ _) (PySem.list_append l a.toArray n u (by rw[SW];lia)) ⟨e,?_⟩;refine⟨.d9,_,I.B3 J e ⋯ (r.append (.cons Y .nil)) ?_,rfl,q⟩;rw[Tt,UP];lia
noncomputable def Ep:V->List V->Hp->VK->Prop:=λx e H Q=>∃l b a d,x=.ref l/\e=[.ref b]/\H l=bB (.lst a)/\H b=bB (.lst d)/\a.length+d.length<=eK/\Q .d9 (upd H l<|.lst<|a++d)
theorem pM:XP X "list.extend" Ep:=by
 intro f s G H x A v y Q I U Y h;obtain⟨l,b,B,E,rfl,rfl,O,Z,w,q⟩:=h;cases U;obtain⟨u,rfl,o⟩:=Y.one;cases o;refine dt λj=>?_;obtain⟨z,a,n,r,t,e⟩:=I.vl O;obtain⟨C,J,k,m,p,i⟩:=I.vl Z;refine j ?_;have d:a.toArray.size+J.toArray.size<=eK:=by rw[SW,SW];lia
 have g:¬(!a.toArray.isEmpty&&PY (a.toArray.size+J.toArray.size))=cm:=by rw[gp d,Bool.and_false];exact TL
 refine tN F.slot_list_extend ⟨_,e,rfl⟩ F.entry_list_extend (F.args_list_extend_2 _ _)
  (AutoSeq1.list_extend_list_list_0 l a.toArray n b J.toArray k g ⋯ ⋯) ⟨e,i,?_⟩
 refine⟨.d9,_,I.B3 O e ⋯ (r.append m) ?_,rfl,q⟩;rw[Tt];lia
noncomputable def RL:R2:=λx y H Q=>∃l k a,x=.ref l/\y=.int k/\H l=bB (.lst a)/\ -(2^63)<=k/\k<2^63/\a.length*k.toNat<=eK/\
 ∀p,H p=cI->Q (.ref p) (upd H p<|.lst (SI k.toNat a).flatten)
theorem dg(xs:List α)(k:Nat):(SI k xs).flatten.length=k*xs.length:=by simp_all
theorem IC:h6 X (tF .Mult) RL:=by
 intro f s L H x y v u Q I J O h;obtain⟨l,k,K,rfl,rfl,U,A,Y,d,q⟩:=h;cases J;obtain⟨t,rfl⟩:=O;obtain⟨z,b,n,r,Z,e⟩:=I.vl U;have g:b.toArray.size*k.toNat<=eK:=by rw[SW,<-Z];exact d
 have i:¬b.toArray.size*k.toNat>(2^63-1)/8:=by
  have:eK<=(2^63-1)/8:=by decide
  lia
 have j:¬(!Builtin.List.listFitsIndex k)=cm:=by rw[fitsIndex_both A Y];exact TL
 have o:¬PY (b.toArray.size*k.toNat)=cm:=by rw[gp g];exact TL
 have p:List.foldl (λC E=>C++E) #[] (SI (if b.toArray.isEmpty=cm then 0 else k.toNat) b.toArray)=(SI k.toNat b).flatten.toArray:=by
  have w:=λm=>by have:=KC b m [];rw[F0]at this;exact this
  rw[w];cases b with
  |nil=>simp
  |cons a G=>rfl
 refine zem ⋯ ⟨_,e,rfl⟩ (λB=>Ni B k t) noFill_list_mul F.fills_int_mul R9 repeat_list F.slot_int_index.lookup
  (tN R9 (Ni s k t) F.entry_int_rmul (F.args_int_rmul_2 _ _) (int___rmul___int_list k t l b.toArray n)
    ⟨e,rfl,⟨_,e,rfl⟩,tN F.slot_list_mul ⟨_,e,rfl⟩ F.entry_list_mul (F.args_list_mul_2 _ _) (AutoListH.list___mul___list_int_3 l b.toArray n k t j i o) ⟨e,?_⟩⟩)
 rw[p];exact⟨.ref _,_,I.E5 (r.rep k.toNat) (by rw[dg,Nat.mul_comm];exact d),rfl,q _ I.fresh⟩
end
end L2
namespace Att
open PySem PySem.W PySem.Calls PyProof.Rows
theorem Ku:∀e vs,WellAll P h vs (e.map WData.int)->I7 vs e:=by
 intro e
 induction e with
 |nil=>
  intro vs w;rw[R6]at w;cases w;exact .nil
 | cons n e I=>
  intro vs w;rw[Tw]at w;cases w with
  |cons a b=>
   cases a;exact .cons _ _<|I _ b
theorem nN{l:OpenLaw}{n:Nat}(U:l.most=bB n){P:Params}{h:eL}{args:List WData}{J:List dn}
 (O:l.row.toRowW.claim.pre args=cm) (Y:WellAll P h J args):
 ∃a vs e,J=[w8 a]/\args=[WData.list (e.map WData.int)]/\h.get? a=bB {cls:=.type "list",data:=.seq vs.toArray}/\I7 vs e/\e.length<=n:=by
 have Z:WShape.hasAll [] args [.list .int]=cm:=(pre_splitW O).1;have Q:l.pre.holds [] {args:=args}=cm:=(pre_splitW O).2;obtain⟨d,r,rfl,g,i⟩:=hasAllW_cons Z;obtain rfl:=hasAllW_nil i;obtain⟨s,rfl,j⟩:=hasW_list g;obtain⟨e,rfl⟩:=items_int j;have b:e.length<=n:=by
  unfold OpenLaw.pre at Q;have I:=by have I:=(holds_andW Q).1;rw[U]at I;exact I
  have p:=condW_of I<|w_not<|w_lt w_lit<|w_len_list<|w_arg rfl
  grind
 cases Y with
 |cons m o=>
  cases o;cases m with
  |list k f=>exact⟨_,_,e,rfl,rfl,k,Ku e _ f,b⟩
theorem oR(l:OpenLaw)(args:List WData):l.row.toRowW.claim.post args (.bool cm) args=cm:=
 postW_of
  (by rfl)
  (w_eq_bool (w_res rfl) w_lit) rfl
theorem Gg{l:OpenLaw}{n:Nat}{q:gg}{O:List Str}{Q:(Str->Option dn)->eL->Prop}{U:fA->eL->Prop}{d:DefRec}
 (X:l.most=bB n) (S:d.params.defaults=[])
 (call:∀w n9 I z L j o M J e a vs E,
   Ground q O [] Q w n9 z L I.heap->U w I.heap->
   I.heap.get? j=bB o->o.data=.func (docDef d.name d.params d.body d.scope M J e)->I.heap.CodeRec J d.name->z d.name=bB (.ref j)->
   I.heap.get? a=bB {cls:=.type "list",data:=.seq vs.toArray}->I7 vs E->E.length<=n->I.gens = #[]->
   codeAny (d8 l.prog w) A6 (.call (.ref j) ⟨[.ref a],[]⟩) (λr H=>r=.ok (.ret<|.bool cm)/\OldK I.heap H.heap/\H.os=I.os/\xr H.gens) I):
 WalkO q O Q U l.row.toRowW d [] (λf vs=>PySem.call f vs):=by
 intro w n9 I z L G Y j o M J e s kV C y g Z h A b K as i N P k R;obtain rfl:s=.none:=Dflts.none Z S;obtain rfl:kV=.none:=Dflts.noKw Z;obtain⟨a,vs,E,rfl,rfl,m,p,ad⟩:=nN X i k;refine enter_call<|HB (call w n9 I z L j o M J e a vs E G Y C (fd_plain y) g h m p ad A) λr H F=>?_;obtain⟨rfl,t,u,x⟩:=F;exact⟨.inl ⟨.bool cm,.bool cm,[],rfl,λ_=>rfl,.bool cm,oR l _,λ_=>⟨zaI.nil,λ_ B=>(nomatch B)⟩⟩,t,u,x⟩
end Att
namespace L2
open PySem PySem.Spec PyProof.Rows
theorem Ws:∀{vs:List dn} {e:List Int},I7 vs e->ez (e.map V.int) vs
 |_,_,.nil=>.nil
 |_,_,.cons n t h=>.cons ⟨t,rfl⟩ (Ws h)
noncomputable def Nq(H:Hp):Prop:=∀b,H b=cI\/∃o a,H b=bB (.t6 o<|.lst a)
theorem Az{P:gg}{w:fA}{K:SD}{E X:DZ}{CX:tP}{k:Nat}{M a:dj}{fd:nf}{x:Str}{sp:Sp}{I:ea}{vs:List dn}{L:List Int}
 (U:K.In I.heap) (Y:I.heap.Ns n0 E) (J:I.heap.Ns d_ X) (a4:∀x:Str,x ≠ "__name__"->X x=u0 x) (a5:I.heap.NoLimit) (hg:I.gens = #[])
 (S:I.heap.get? a=bB {cls:=.type "list",data:=.seq vs.toArray}) (hi:I7 vs L) (Z:L.length<=eK) (hr:kA k A6)
 (F:∀base,K.In base->base.Ns n0 E->ml P w K E base CX k M fd [x] sp) (a8:∀s u,IK s fd ⟨[u],[]⟩ [(x,u)])
 (a9:∀H,Nq H->fy K H a (L.map V.int)->sp [.ref a] H (λv _=>v=.bl cm) λ_ _ _=>False)
 (ac:∀H e j,CX [] H I (λ_ _ _=>False) e j->False):
 codeAny (d8 P w) A6 (.call (.ref M) ⟨[.ref a],[]⟩) (λr j=>r=.ok (.ret<|.bool cm)/\OldK I.heap j.heap/\j.os=I.os/\xr j.gens) I:=by
 have A:=Ws hi;have ad:=hi.length;have p:∀H,Nq H->fy K H a (L.map V.int)->k3 P w H I.heap->(∀b,H b≠cI->b=a)->(H a≠cI->K.lookup a=cI)->
  codeAny (d8 P w) A6 (.call (.ref M) ⟨[.ref a],[]⟩) (λr j=>r=.ok (.ret<|.bool cm)/\OldK I.heap j.heap/\j.os=I.os/\xr j.gens) I:=by
  intro H y W i hA hK;have f:∀{b:dj} {o:l6},_=bB o->H b=cI->(GI I.heap H).get? b=bB o:=AJ;have al:∀{b:dj} {o:l6} {n:Array N1} {l:Nat},I.heap.get? b=bB o->o.data=.dict n l->H b=cI:=λ{b o n l} e d=>by grind
  have O:∀{b:dj} {m:DZ},I.heap.Ns b m->(GI I.heap H).Ns b m:=λ{b m} ⟨o,n,l,e,d,r⟩=>⟨o,n,l,f e<|al e d,d,r⟩;have t:=λb o e=>f (U b o e) (by
   grind)
  have T:Mod K E _:=⟨t,O Y,⟨X,O J,a4⟩,let ⟨mc,N,R⟩:=a5;⟨mc,O N,R⟩⟩;have C:t9 P w K E _ A6 [] I H:=⟨rfl,T,λb o e=>Fc e,Nat.le_of_eq<|rH _ _,trivial,λb J=>absurd (show b∈([])from J) ⋯,i,.of_eq hg⟩;refine HB ((F _ t<|O Y).run A6 [] I H _ [.ref a] [.ref a] _ _ hr C (a8 I<|.ref a) (.cons rfl .nil) (a9 H y W)) λr j h=>?_;cases r with
  |error e=>exact(ac H e j h).elim
  | ok G=>
   cases G with
   |next=>exact DG h
   |brk=>exact DG h
   |cont=>exact DG h
   | ret u=>
    obtain⟨v,H',os,g,un,B,r',q⟩:=h;have q':=q;subst q';obtain rfl:u=Value.bool cm:=r';refine⟨rfl,OldK.of_keep λb o e=>?_,os,g⟩;cases q:H b with
    |none=>exact un.keep b o e q (by intro z;exact absurd (show b∈([])from z) ⋯) ⋯
    | some u=>
     rcases y b with z|⟨ob,xs,z⟩
     ·lia
     ·have z2:=un.yu b ob _ z
      obtain⟨e1,_⟩:=i b _ z;obtain⟨e2,_⟩:=B b _ z2;lia
 cases hk:K.lookup a with
 |some o=>
  have e:=U a o hk;rw[S]at e;cases e;refine p _ (λ_=>.inl rfl) (.inr ⟨_,vs.toArray,_,hk,rfl,rfl,rfl,by rw[SW,ad];exact Z,by simpa using A⟩) (λb u z=>by lia) (λb z=>absurd rfl z)<|absurd rfl
 | none=>
  refine p (λb=>if b=a then bB (.t6 {cls:=.type "list",data:=.seq vs.toArray} _)else cI) (λb=>?_) (.inl (.inr ⟨_,DJ rfl⟩)) (λb u z=>?_) (λb z=>?_) λ_=>hk
  ·by_cases J:b=a
   ·exact .inr ⟨_,_,DJ J⟩
   ·exact .inl<|DY J
  ·by_cases J:b=a
   ·have Q:=(DJ J).symm.trans z
    cases Q;subst J;exact⟨S,by rw[Ta];exact Z,vs,_,A,S⟩
   ·have Q:=(DY J).symm.trans z
    cases Q
  ·by_cases J:b=a
   ·exact J
   ·exact absurd (DY J) z
abbrev l5{K:SD}{h:eL}(_:K.In h):SD:=K
theorem CF{l:PySem.W.OpenLaw}{n k:Nat}{q:gg}{Q:List Str}{U:(Str->Option dn)->eL->Prop}{I:fA->eL->Prop}{d:DefRec}{K:Params->SD}{CX:fA->tP}{sp:fA->Sp}{x:Str}
 (Z:l.most=bB n) (S:n<=eK) (X:d.params.defaults=[]) (hr:kA k A6)
 (hY:∀w h,I w h->(K w.params).In h)
 (F : ∀w j z h,(K w.params).In h->h.Ns n0 j->j d.name=bB (.ref z)->
   ∃L,(∀s u,IK s L ⟨[u],[]⟩ [(x,u)])/\
    ∀base,(K w.params).In base->base.Ns n0 j->ml l.prog w (K w.params) j base (CX w) k z L [x] (sp w))
 (a4:∀w H a (E:List Int),E.length<=n->Nq H->fy (K w.params) H a (E.map V.int)->sp w [.ref a] H (λv _=>v=.bl cm) λ_ _ _=>False)
 (a5:∀w H s e M,CX w [] H s (λ_ _ _=>False) e M->False):
 PySem.W.WalkO q Q U I l.row.toRowW d [] (λf vs=>PySem.call f vs):=by
 refine Att.Gg Z X λw m i j mb z o pm cd y a vs E G Y ho hd R p r t J P=>?_;have O:=hY w _ Y;obtain⟨L,N,A⟩:=F w j z _ O G.T.g p;exact Az O G.T.g G.T.b G.T.builtins G.T.nolimit P r t (Tf J S) hr A N (λH B C=>a4 w H a E J B C) λH e M=>a5 w H i e M
theorem Mm{l:PySem.W.OpenLaw}{n k:Nat}{q:gg}{J:List Str}{O:(Str->Option dn)->eL->Prop}{I:fA->eL->Prop}{d:DefRec}{K:Params->SD}{CX:tP}{sp:SD->Sp}{x:Str}
 (Q:l.most=bB n) (U:n<=eK) (Y:d.params.defaults=[]) (Z:kA k A6)
 (hY:∀w h,I w h->(K w.params).In h)
 (F : ∀w j L h,(K w.params).In h->h.Ns n0 j->j d.name=bB (.ref L)->
   ∃M,(∀s u,IK s M ⟨[u],[]⟩ [(x,u)])/\
    ∀base,(K w.params).In base->base.Ns n0 j->ml l.prog w (K w.params) j base CX k L M [x] (sp<|K w.params))
 (S:∀K H a (z:List Int),z.length<=n->Nq H->fy K H a (z.map V.int)->sp K [.ref a] H (λv _=>v=.bl cm) λ_ _ _=>False)
 (X:∀H s e E,CX [] H s (λ_ _ _=>False) e E->False):
 PySem.W.WalkO q J O I l.row.toRowW d [] (λf vs=>PySem.call f vs):=
 CF Q U Y Z hY F (λw H a z b g i=>S (K w.params) H a z b g i) λ_ H s e E=>X H s e E
noncomputable def yA(s:hB):Arguments:=match s with
 |.FunctionDef _ a _ _ _ _ _ _ _ _=>a
 |_=>{posonlyargs:=[],args:=[],vararg:=cI,kwonlyargs:=[],kw_defaults:=[],kwarg:=cI,defaults:=[]}
noncomputable def qv(s:hB):List hB:=match s with
 |.FunctionDef _ _ b _ _ _ _ _ _ _=>b
 |_=>[]
noncomputable def jh(s:hB):f6:=match s with
 |.FunctionDef _ _ _ _ _ _ a _ _ _=>a
 |_=>{kind:=.function,names:=[],isGenerator:=cT,isCoroutine:=cT}
abbrev n4:tP:=λ_ _ _ _ _ _=>False
abbrev E0:XK:=λ_ _ _=>False
theorem pv:YY n4 X E0:=λ_ _ _ _ _ _ _ h=>h.elim
structure p8(K:SD)(x qual:Str)(st:hB)(f:dj)(fd:nf):Prop where
 ex:∃(oc:dn) (od:Option dj) (kV doc pm:dn) (an:Option dj) (Oz ct:dn) (OO:Array (Option dn)),
  fd=UZ x qual (yA st) (qv st) (jh st) .none kV doc pm an Oz ct/\K.lookup f=bB ⟨oc,od,.func fd,OO⟩/\F5 K Oz qual=cm
 kp:UY K (.ref f)=cm
section
variable{P:gg}{w:fA}{K:SD}{mg:DZ}{base:eL}
theorem p8.ok{x qual:Str}{st:hB}{f:dj}{j:nf}{N ps:List Str}{k:Nat}{sp:Sp}(F:p8 K x qual st f j)(S:DP N ps (jh st))(len:∀vs H Q E,sp vs H Q E->vs.length=ps.length)
 (I:∀e A outer s H vs Q E,kA k (A.deeper<|envOfC qual (jh st) s.heap.objs.size f e)->sp vs H Q E->
   ∃t,mm (FN n4 P w K mg base N qual (jh st) f e A outer s H E).Du (qv st) t/\t {nx:=λ_ z=>Q .d9 z,rt:=Q} (Ve N vs) H):ml P w K mg base n4 (k+1) f j ps sp:=by
 obtain⟨i,l,kV,a,m,d,e,g,b,rfl,lk,J⟩:=F.ex;refine Os lk J S len λA outer s H vs Q E O U=>?_;obtain⟨t,h,q⟩:=I e A outer s H vs Q E O U;exact⟨t,h.Du,q⟩
theorem p8.binds{x qual:Str}{st:hB}{f:dj}{J:nf}{ps:List Str}(F:p8 K x qual st f J)
 (h:∀kV j E z e ct H,H.length=ps.length->D6 (UZ x qual (yA st) (qv st) (jh st) .none kV j E z e ct) ⟨H,[]⟩=pure (ps.zip H)):Binds K J ps []:=by
 obtain⟨b,d,kV,j,E,z,e,ct,a,rfl,lk,I⟩:=F.ex;exact .all<|h kV j E z e ct
theorem rM{x qual:Str}{st:hB}{f:dj}{I:dn}{J E:Option dj}{z:Array (Option dn)}{kV j H e ct:dn}(l:K.lookup f=bB ⟨I,J,.func<|UZ x qual (yA st) (qv st) (jh st) .none kV j H E e ct,z⟩)
 (c:F5 K e qual=cm) (k:UY K (.ref f)=cm):p8 K x qual st f (UZ x qual (yA st) (qv st) (jh st) .none kV j H E e ct):=⟨⟨I,J,kV,j,H,E,e,ct,z,rfl,l,c⟩,k⟩
end
noncomputable def ft(H e:Hp):Prop:=∀b o,H b=bB o->e b=bB o
theorem ft.refl(H:Hp):ft H H:=λ_ _ h=>h
theorem ft.trans(a:ft H H1)(b:ft H1 H2):ft H H2:=λc o h=>b c o<|a c o h
theorem ft.free(e:ft H H')(h:H' l=Option.none):H l=Option.none:=by
 cases q:H l with
 |none=>rfl
 |some o=>
  rw[e l o q]at h;cases h
theorem ft.seq{K:SD}{H j:Hp}{a:dj}{xs:List V}(e:ft H j)(h:fy K H a xs):fy K j a xs:=by
 rcases h with(h|⟨o,h⟩)|h
 ·exact .inl<|.inl<|e _ _ h
 ·exact .inl<|.inr ⟨o,e _ _ h⟩
 ·exact .inr h
noncomputable def mP(cells:List (Str×dj)):List (Str×ur)->List (Str×dj)->List (Str×dj)
 |[],acc=>acc
 |(n,k)::r,acc=>mP cells r<|if k==UD then (match cells.lookup n with|some c=>(n,c)::acc|none=>acc)else acc
theorem wa(f:Str×ur->List (Str×dj)->Sem (ForInStep<|List<|Str×dj))
 (I:∀name kind J,f (name,kind) J=if kind==UD then (do let a<-cellOf env name;pure (.yield ((name,a)::J)))else pure (.yield J)):
 ∀names j,(∀n,(n,UD)∈names->∃c,env.cells.lookup n=bB c)->
  forIn names j f=(pure<|mP env.cells names j)
 |[],j,_=>by rfl
 | (n,k)::r,j,h=>by
  rw[M1,I];have Q:=λm Y=>h m<|SQ _ Y;unfold mP;by_cases O:(k==UD)=cm
  ·have Z:=by simpa using O
   subst Z;obtain⟨c,U⟩:=h n SO;have e:cellOf env n=pure c:=by unfold cellOf;rw[U]
   rw[e,U];exact wa f I r _ Q
  ·rw[DY O,DY O]
   exact wa f I r j Q
theorem V2(h:∀n,(n,UD)∈scope.names->∃c,env.cells.lookup n=bB c):
 closureFor scope env=pure (mP env.cells scope.names []):=by
 simp only[closureFor];rw[wa _ (λb a I=>by rfl) scope.names [] h];rfl
theorem zeu
 (I:Q {scope:=scope,locals:=s.heap.objs.size,globals:=globals,cells:=uf (s.heap.objs.size+1) scope.names cl,qual:=qual,func:=cI,code:=env.code,frame:=env.frame,builtins:=env.builtins}
   {s with heap:=B7 (s.heap.push {cls:=.type "dict",data:=.dict #[]}) scope.names}):
 wpAny M A (newFunctionEnv scope globals cl [] qual cI .none (bB env)) Q E s:=by
 refine SE<|wpAny_alloc ?_;refine SE<|wpAny_layCells _ (λb a cells=>by rfl) _ _ _ _ ?_;rw[TH ..];exact SE<|SM<|SM I
theorem gw:∀{names:List (Str×ur)} {e:List (Str×dj)},(n,c)∈mP cells names e->(n,c)∈e\/((n,UD)∈names/\cells.lookup n=bB c)
 |[],e,h=>.inl h
 |(m,k)::r,e,h=>by
  unfold mP at h;rcases gw h with g|⟨h1,I⟩
  ·grind
  ·exact .inr ⟨SQ _ h1,I⟩
theorem Kl:∀{names:List (Str×ur)} {j:List (Str×dj)},((j.lookup n).isSome=cm\/((n,UD)∈names/\(cells.lookup n).isSome=cm))->((mP cells names j).lookup n).isSome=cm
 |[],j,h=>by
  rcases h with h|⟨h,_⟩
  ·exact h
  grind
 | (m,k)::r,j,h=>by
  unfold mP;apply Kl;by_cases J:(k==UD)=cm
  ·rw[DJ J]
   have Q:=by simpa using J
   subst Q;cases e:cells.lookup m with
   | none=>
    rcases h with h|⟨h1,I⟩
    ·exact .inl h
    ·rcases SS.mp h1 with h1|h1
     ·cases h1;rw[e]at I;cases I
     ·exact .inr ⟨h1,I⟩
   | some U=>
    dsimp only;by_cases O:n=m
    ·subst O;left;simp
    ·rcases h with h|⟨h1,I⟩
     ·left;rw[UW];split<;>simp_all
     ·rcases SS.mp h1 with h1|h1
      ·cases h1;exact absurd rfl O
      ·exact .inr ⟨h1,I⟩
  ·rw[DY J]
   rcases h with h|⟨h1,I⟩
   ·exact .inl h
   ·rcases SS.mp h1 with h1|h1
    ·cases h1;exact absurd rfl J
    ·exact .inr ⟨h1,I⟩
theorem kn:∀{names:List (Str×ur)} {k:Nat} {e:List (Str×dj)},(n,c)∈uf k names e->(n,c)∈e\/(k<=c/\(n,MO)∈names)
 |[],_,_,h=>.inl h
 | (m,kd)::r,k,e,h=>by
  unfold uf at h;split at h
  ·rename_i J
   have O:=by simpa using J
   subst O;rcases kn h with h|⟨h1,I⟩
   ·grind
   ·exact .inr ⟨⋯,SQ _ I⟩
  ·rcases kn h with h|⟨h1,I⟩
   ·exact .inl h
   ·exact .inr ⟨h1,SQ _ I⟩
theorem vb:∀{names:List (Str×ur)} {k:Nat} {j:List (Str×dj)},(∀p∈j,∀q∈j,p.2=q.2->p.1=q.1)->(∀p∈j,p.2<k)->
 ∀p∈uf k names j,∀q∈uf k names j,p.2=q.2->p.1=q.1
 |[],_,_,h,_=>h
 | (m,kd)::r,k,j,h,hl=>by
  unfold uf;split
  ·refine vb (λp hp q I e=>?_) (λp hp=>?_)
   ·rcases SS.mp hp with rfl|hp<;>rcases SS.mp I with rfl|I
    ·rfl
    ·exact absurd (e ▸ hl q I)<|Uh _
    ·exact absurd (e ▸ hl p hp)<|Uh _
    ·exact h p hp q I e
   ·rcases SS.mp hp with rfl|hp
    ·exact Ur _
    ·exact TY<|hl p hp
  ·exact vb h hl
theorem KM:∀{names:List (Str×ur)} {h:eL} {e:List (Str×dj)} {n:Str} {c:dj},(n,c)∈uf h.objs.size names e->(n,c)∈e\/(B7 h names).IsCell c cI
 |[],_,_,_,_,I=>.inl I
 | (m,kd)::r,h,e,n,c,I=>by
  unfold uf at I;unfold B7;split at I
  ·rename_i J
   rw[DJ J];rw[((TH ..).symm)]at I;rcases KM I with I|I
   ·rcases SS.mp I with I|I
    ·cases I
     have O:(h.push _).IsCell h.objs.size cI:=⟨{cls:=.type "cell",data:=.cell cI},SV _ rfl,rfl⟩;exact .inr (O.keeps (MU _ _))
    ·exact .inl I
   ·exact .inr I
  ·rename_i J
   rw[DY J];exact KM I
theorem wJ{e:Type}{l:List (Str×e)}(j:(l.map (·.1)).Nodup):∀{n:Str} {a:e},(n,a)∈l->l.lookup n=bB a:=by
 induction l with
 |nil=>grind
 |cons p r I=>
  grind
theorem Zi(scope:f6)(env:ow)(x:Str):(uH scope env).names.lookup x =
 (scope.names.lookup x).map λk=>if (k==UD&&env.scope.kind ==.function&&env.kindOf x==bB .cell)then MO else k:=by
 unfold uH;dsimp only;generalize scope.names=l
 induction l with
 |nil=>rfl
 |cons p r I=>
  grind
noncomputable def gY(scope:f6)(env:ow)(L:dj):ow:=
 {scope:=uH scope env,locals:=L,globals:=env.globals,cells:=uf (L+1) scope.names<|mP env.cells scope.names [],qual:=env.qual,func:=cI,code:=env.code,frame:=env.frame,builtins:=env.builtins}
noncomputable def jF(X:Cx)(scope:f6)(z:List Str)(fp:List dj)(e:ea)(j:Hp):Cx:=
 {X with N:=z,n9:=e,DR:=j,env:=gY scope X.env<|e.heap.objs.size+1,outer:=X.stack,stack:=X.stack,ex:=fp,fn:=λx=>scope.names.lookup x==bB .cell,pn:=[],xe:=λ_ _=>False}
structure r6(X:Cx)(scope:f6)(fr:List (Str×Nat)):Prop where
 kind:scope.kind=.function
 nd:(scope.names.map (·.1)).Nodup
 free:∀p∈scope.names,p.2=UD->X.env.kindOf p.1=bB .cell\/X.env.kindOf p.1=bB .free
 fr:∀p∈fr,scope.names.lookup p.1=bB .free/\X.N[p.2]? = bB p.1
noncomputable def uE(own:List Str)(e:List (Str×Nat))(j:St):St:=own.map (λ_=>cI)++e.map λp=>(j[p.2]?).join
abbrev GH:l6:={cls:=.type "list",data:=.seq #[]}
abbrev Lz:l6:={cls:=.type "dict",data:=.dict #[]}
theorem AH{X:Cx}{H:TW}{M:St}{L:Hp}{j:ea}{scope:f6}{own:List Str}{E:List (Str×Nat)}{fp:List dj}(I:Inv X H M L j)(ok:r6 X scope E)
 (S:∀b∈fp,Jt X H L b) (am:∀b∈fp,∃o,j.heap.get? b=bB o):
 Inv (jF X scope (own++E.map (·.1)) fp j L) [] (uE own E M) (upd L j.heap.objs.size<|.lst []) {j with heap:=B7 ((j.heap.push GH).push Lz) scope.names}:=by
 have z2:((j.heap.push GH).push Lz).objs.size=j.heap.objs.size+2:=by simp_all
 have Q:∀n c,(n,c)∈mP X.env.cells scope.names []->_/\_:=λn c h=>(gw h).resolve_left ⋯;have a8:∀n c,_=bB c->c<_:=λn c h=>by obtain⟨v,q⟩:=I.cell n c h;exact q.lt
 have a:∀x c,_=bB c->_\/(j.heap.objs.size+2<=c/\(x,MO)∈scope.names):=λx c h=>by
  rcases kn (mem_of_lookup h)with h|h
  ·exact .inl<|Q x c h
  ·exact .inr h
 have A:∀x,_∈scope.names->∃c,_/\_:=λx Y=>by
  obtain⟨c,U⟩:=I.ok.has x<|ok.free (x,.free) Y rfl;have r:((mP X.env.cells scope.names []).lookup x).isSome=cm:=Kl<|.inr ⟨Y,by rw[U];rfl⟩;obtain⟨C,ad⟩:=US.mp<|Pt scope.names (j.heap.objs.size+2) _<|.inr r;refine⟨c,U,?_⟩;rcases a x C ad with⟨_,q⟩|⟨_,q⟩
  ·rw[U]at q;cases q;exact ad
  ·exact absurd ((wJ ok.nd q).symm.trans (wJ ok.nd Y)) ⋯
 have keep:∀b o,_=bB o->(B7 ((j.heap.push GH).push Lz) scope.names).get? b=bB o:=λb o e=>
  MU _ _ b o (SG _<|SG _ e)
 have ak:∀b∈fp,b<_:=λb J=>by obtain⟨o,e⟩:=am b J;exact SY e
 have B:∀c,_<c->(upd L j.heap.objs.size<|.lst []) c=cI:=λc U=>by rw[zE (uq U)];exact I.eI.fresh<|T7 U
 obtain⟨m0,F⟩:∃m,(B7 _ scope.names).Ns _ m:=by have q:=(Heap.Ns.new (j.heap.push GH) (.type "dict")).keeps ((MU scope.names _));rw[(TH ..)]at q;exact⟨_,q⟩
 refine⟨⟨I.ok.mod,ok.kind,I.ok.glob,I.ok.blt,Df _,λx y c r s=>(vb (names:=scope.names) (λp d q hq e=>I.ok.inj p.1 q.1 p.2 (Q _ _ d).2 (by rw[e];exact(Q _ _ hq).2)) (λp d=>by
  exact TY<|TY<|a8 p.1 p.2 (Q p.1 p.2 d).2)) (x,c) (mem_of_lookup r) (y,c) (mem_of_lookup s) rfl,λx Y=>?_,λx c W h=>?_,I.ok.hd,I.ok.frames,.inl rfl,λb J=>⟨Tc<|TY<|ak b J,λx c h z=>?_⟩,I.bs,Tf I.ok.ue I.sz,λb o e J=>?_,λb J hs=>?_,I.stack,I.v_⟩,
  rfl,I.bare,Un.laid keep (SN _)<|I.eI.fresh<|SN _,⟨m0,F,λi x v T O e3=>?_⟩,λx c h=>?_,B _<|Ur _,λx c h=>?_,λp d=>absurd (show p∈([])from d) ⋯,?_,?_⟩
 ·have g:(uH scope X.env).names.lookup x=bB .cell\/(uH scope X.env).names.lookup x=bB .free:=Y
  have:scope.names.lookup x=bB .cell\/scope.names.lookup x=bB .free:=by
   rw[Zi]at g;cases e:scope.names.lookup x with
   |none=>rw[e]at g;simp at g
   |some k=>
    grind
  rcases this with h|h
  ·exact US.mp<|Pt scope.names _ _<|.inl h
  ·obtain⟨c,_,s⟩:=A x<|mem_of_lookup h;exact⟨c,s⟩
 ·have G:(scope.names.lookup x==bB .cell)=cm:=W
  rcases a x c h with⟨q,_⟩|⟨q,_⟩
  ·exact absurd ((wJ ok.nd q).symm.trans (by simpa using G)) ⋯
  ·exact Tf (Tv _ 2) q
 ·rcases a x c h with⟨_,q⟩|⟨q,_⟩
  ·exact(S b J).2.2.2.2.1 x c q z
  ·exact absurd (Ti (ak b J)<|Tf (Tv _ 2)<|z ▸ q)<|Uh _
 ·rcases (S b J).2.2.2.1 with q|q
  ·exact I.ok.E7 b o e q
  ·exact absurd (Ti (SY e)<|Tf I.ok.ue q)<|Uh _
 ·rcases SS.mp (I.OW b hs)with q|q
  ·exact(S b J).2.1 q
  ·exact(S b J).2.2.1 q
 ·by_cases l:i<own.length
  ·unfold uE at O
   rw[Tz (by simpa using l)]at O;simp[TV,l]at O
  ·have hj:∃p,E[i-own.length]? = bB p/\p.1=x/\(M[p.2]?).join=bB v:=by
    unfold uE at O;have Z:(own++E.map (·.1))[i]? = bB x:=T;rw[TC ⋯,TV]at Z;rw[TC (by simpa using l),TV,Ta]at O;cases q:E[i-own.length]? with
    |none=>rw[q]at Z;cases Z
    |some p=>
     rw[q]at Z O;exact⟨p,rfl,by simpa using Z,by simpa using O⟩
   refine dt λt=>?_;obtain⟨p,d,K,f⟩:=hj;obtain⟨g1,g2⟩:=ok.fr p<|TN d;refine t ?_;rw[K]at g1 g2;have N:=ok.free (x,.free) (mem_of_lookup g1) rfl;obtain⟨m,hn,hl⟩:=I.loc;obtain⟨u,ru,lk⟩:=hl p.2 x v g2 (by
    cases q:M[p.2]? with
    |none=>rw[q]at f;cases f
    |some o=>rw[q]at f;simpa using f) (by rcases N with k|k;exact .inr<|.inl k;exact .inr<|.inr k)
   refine⟨u,ru,.inr ?_⟩;refine dt λt=>?_;obtain⟨c,b8,P⟩:=A x<|mem_of_lookup g1;refine t ?_;have R:j.heap.IsCell c (bB u):=by
    rcases lk with⟨k,_⟩|⟨_,C,e,z⟩
    ·lia
    lia
   refine⟨?_,c,P,R.keeps keep⟩;show(uH scope X.env).names.lookup x=bB .cell\/(uH scope X.env).names.lookup x=bB .free;rw[Zi,g1];dsimp only[DF];split
   ·exact .inl rfl
   ·exact .inr rfl
 ·rcases kn (mem_of_lookup h)with q|q
  ·obtain⟨v,w⟩:=I.cell x c (Q x c q).2
   exact⟨v,w.keeps keep⟩
  ·rcases KM (by rw[z2];exact(mem_of_lookup h))with q4|q4
   ·obtain⟨v,w⟩:=I.cell x c (Q x c q4).2
    exact⟨v,w.keeps keep⟩
   ·exact⟨cI,q4⟩
 ·rcases a x c h with⟨_,q⟩|⟨q,_⟩
  ·rw[zE (Tc<|a8 x c q)];exact I.uh x c q
  ·exact B c<|Ti (TY<|Ur _) q
 ·refine I.eI.laid keep (SN _) ⟨Uc _,[],0,.nil,?_⟩
  exact MU _ _ _ _<|SG _<|SV _ rfl
 ·show(uE own E M).length=(own++E.map (·.1)).length
  simp[uE]
theorem zej(I:Nat->ea->Prop)
 (j : ∀n s,I n s->wpAny (d8 prog w) A (uG it) (λr J=>match r with
   |none=>R (.ok .next) J
   | some v=>wpAny (d8 prog w) A (E3 target it v) (λ_ J=>wpAny (d8 prog w) A (uZ target env v) (λ_ Q=>
    wpAny (d8 prog w) A (forIn ifs cm λc r=>if r=cm then do let ok<-B0 c env (dy c env);pure (P8 ok)else pure (P8 r)) (λok O=>
     if ok=cm then wpAny (d8 prog w) A (dy elt env) (λx U=>
      wpAny (d8 prog w) A (call (.builtin "list.append") [acc,x]) (λ_ Y=>∃m,m<n/\I m Y) (λ_ _=>False) U) (λ_ _=>False) O
     else ∃m,m<n/\I m O) (λ_ _=>False) Q) (λ_ _=>False) J) (λ_ _=>False) J) (λ_ _=>False) s)
 (n:Nat) (h:I n s):
 codeAny (d8 prog w) A (.compLoop (.ListComp elt [⟨target,iter,ifs,0⟩] scope pos) 0 it acc env) R s:=by
 refine codeAny_loop rfl I (λn s i=>?_) n h;refine wpAny_noted ?_;rw[compTurn_list];refine SE<|U0<|SE<|rN (j n s i) (λr J Z=>?_) λ_ _ a=>a.elim;cases r with
 |none=>exact SM Z
 | some v=>
  refine SE<|rN Z (λ_ k g=>?_) λ_ _ a=>a.elim;refine SE<|rN g (λ_ Q d=>SE<|rN d (λok O b=>?_) λ_ _ a=>a.elim) λ_ _ a=>a.elim;cases ok with
  |false=>exact SM ⟨rfl,b⟩
  |true=>
   exact SE<|SE<|rN b (λx U e=>SE<|rN e (λ_ Y f=>SM<|SM ⟨rfl,f⟩) λ_ _ a=>a.elim) λ_ _ a=>a.elim
noncomputable def GP(X:Cx)(e:List dv)(t:TT):Prop:=
 ∀(a:TW) (s:ea) (b:St) (H:Hp) (Q:Bool->Hp->Prop),Inv X a b H s->t b H Q->
  wpAny (d8 X.prog X.w) X.A (forIn e cm λc r=>if r=cm then do let ok<-B0 c X.env (dy c X.env);pure (P8 ok)else pure (P8 r)) (TP X a b Q) X.xe s
noncomputable def NC:TT:=λ_ H Q=>Q cm H
theorem Vr:GP X [] NC:=λ_ _ _ H _ I h=>wpAny_tests_nil ⟨H,I,h⟩
theorem fZ(h:PT X c t):GP X [c] t:=λa s b H Q I J=>wpAny_tests_one<|h a s b H Q I J
noncomputable def CW(J:It)(g:TG)(j:TT)(te:TE)(D:dj)(Q:VK)(W:Nat->Nat->List V->St->Hp->Prop):Prop:=
 ∀i m a f H,W i m a f H->H D=bB (.lst a)/\((J.stop i H/\Q (.ref D) H)\/(J.go i H/\a.length<eK/\∀x e,J.uo i H x e->g x f e λI h=>j I h λb O=>
  if b=cm then te I O λv U=>U D=bB (.lst a)/\∃d,d<m/\W (i+1) d (a++[v]) I (upd U D<|.lst<|a++[v])else ∃d,d<m/\W (i+1) d a I O))
noncomputable def Gy(X:Cx)(e:TW)(H:Hp)(L:dj):Prop:=
 H L=cI/\L≠X.env.locals/\X.n9.heap.objs.size<=L/\(∀x c,X.env.cells.lookup x=bB c->c≠L)/\∀p∈X.pn++e,p.1≠L
theorem Bg
 (hc:X.calm=cm) (I:Inv X pins σ H2 s2) (ok:r6 X scope fr) (T:Turn X.prog X.w X.K tg J fp it tn) (st:tn 0 s2.heap) (Z:∀b∈fp,Jt X pins H2 b)
 (hg:PG (jF X scope (own++fr.map (·.1)) fp s2 H2) tg g) (ht:GP (jF X scope (own++fr.map (·.1)) fp s2 H2) ifs tt) (he:PE (jF X scope (own++fr.map (·.1)) fp s2 H2) elt te)
 (hW:∀D,H2 D=cI->∃W,(∃m,W 0 m [] (uE own fr σ) (upd H2 D<|.lst []))/\CW J g tt te D Q W):
 wpAny (d8 X.prog X.w) X.A (newList []) (λL M=>wpAny (d8 X.prog X.w) X.A (newFunctionEnv scope X.env.globals (mP X.env.cells scope.names []) [] X.env.qual cI .none (bB X.env)) (λa9 S=>
  codeAny (d8 X.prog X.w) X.A (.compStart (.ListComp elt [⟨tg,iter,ifs,0⟩] scope pos) 0 (.ref it) L {a9 with scope:=uH scope X.env})
   (λr H=>(∃f,r=.ok f)/\∃D j,L=.ref D/\Inv X pins σ j H/\Q (.ref D) j/\(∃m,H.heap.Ns a9.locals m)/\Gy X pins j a9.locals) S) E M) E s2:=by
 have as:∀b∈fp,∃o,_=bB o:=λb O=>by obtain⟨o,e,_⟩:=T.obj 0 _ st b O;exact⟨o,e⟩
 have N:=AH (own:=own) I ok Z as;refine dt λY=>?_;obtain⟨W,⟨m0,w0⟩,cw⟩:=hW _ I.fresh;refine Y ?_;refine UB<|zeu ?_;rw[(TH ..)];have aw:tn 0 (B7 ((s2.heap.push GH).push Lz) scope.names):=T.keep 0 _ _ st λb _ o e=>MU _ _ b o<|SG _<|SG _ e;have bv:∀b∈fp,b<_:=λb O=>by obtain⟨o,e⟩:=as b O;exact SY e
 have ac:∀{j:Hp},(∀b∈fp,j b=cI)->∀b∈fp,Jt _ [] j b:=λhn b O=>
  ⟨hn b O,(N.ok.LV b O).1,N.ok.E1 b O,.inl O,(N.ok.LV b O).2,λp hp=>absurd (show p∈([])from hp) ⋯⟩
 have ax:codeAny (d8 X.prog X.w) X.A (.compLoop (.ListComp elt [⟨tg,iter,ifs,0⟩] scope pos) 0 (.ref it) (.ref s2.heap.objs.size)<|gY scope X.env<|s2.heap.objs.size+1)
  (λr H=>(∃f,r=.ok f)/\∃D j,w8 s2.heap.objs.size=.ref D/\Inv X pins σ j H/\Q (.ref D) j/\(∃m,H.heap.Ns (s2.heap.objs.size+1) m)/\Gy X pins j (s2.heap.objs.size+1)) {s2 with heap:=B7 ((s2.heap.push GH).push Lz) scope.names}:=by
  refine zej (λn H=>∃i t y j,Inv _ [] y j H/\tn i H.heap/\(∀b∈fp,j b=cI)/\W i n t y j) ?_ m0
   ⟨0,[],_,_,N,aw,λb O=>by rw[zE (Tc<|bv b O)];exact(Z b O).1,w0⟩
  rintro n s3 ⟨i,t,a,C,I3,b3,b4,w3⟩;obtain⟨hD,c4⟩:=cw i n t a C w3;rcases c4 with⟨s,qn⟩|⟨go,hz,step⟩
  ·refine ed (T.done (jF X scope _ fp s2 H2) rfl rfl rfl hc i [] s3 a C _ I3 (ac b4) b3 s) λr s4 U=>?_
   obtain⟨hr,k⟩:=U;subst hr;refine⟨⟨_,rfl⟩,_,C,rfl,I.y? k.os k.base k.eI k.bare<|λb O=>⟨(Z b O).2.2.2.1,(Z b O).2.1,(Z b O).2.2.2.2.1,(Z b O).2.2.2.2.2⟩,qn,?_,k.free,uq<|TY I.lt,P6 I.sz,?_,?_⟩
   ·obtain⟨m,hn,_⟩:=k.loc
    exact⟨m,hn⟩
   ·intro x c e z
    obtain⟨v,q⟩:=I.cell x c e;exact absurd (TY q.lt) (by rw[z];exact Uh _)
   ·intro p hp z
    exact absurd (TY<|SY (I.pin p hp).1) (by rw[z];exact Uh _)
  ·refine ed (T.item (jF X scope _ fp s2 H2) rfl rfl rfl hc i [] s3 a C _ I3 (ac b4) b3 go) λr s4 U=>?_
   obtain⟨u,hr,h4⟩:=U;subst hr;refine ed h4 λ_ s5 U=>?_;refine dt λY=>?_;obtain⟨x,H5,I5,r5,y5,al,ch⟩:=U;refine Y ?_;refine ed (hg _ s5 a H5 x u _ (I5.pinned (ac ch)<|T.obj _ _ al) r5<|step x H5 y5) λ_ s6 U=>?_;refine dt λY=>?_;obtain⟨h,H6,I6,q6⟩:=U;refine Y ?_;refine ed (ht _ s6 h H6 _ I6 q6) λb s7 U=>?_;obtain⟨H7,P,q7⟩:=U;have after:∀{B:St} {G:Hp} {R:ea},Inv (jF X scope (own++fr.map (·.1)) fp s2 H2) ([]++_) B G R->_/\∀b∈fp,G b=cI:=λ{B G R} l=>by refine⟨T.keep _ _ _ al λb O o e=>(l.pin (b,o)<|Tj _<|Tj _<|wI O e).1,λb O=>?_⟩;obtain⟨o,e,d⟩:=T.obj _ _ al b O;exact(l.pin (b,o)<|Tj _<|Tj _<|wI O e).2.1
   cases b with
   |false=>
    obtain⟨m',hm,w7⟩:=q7;exact⟨m',hm,i+1,t,h,H7,P.FV,(after P).1,(after P).2,w7⟩
   |true=>
    refine ed (he _ s7 h H7 _ P q7) λv8 R U=>?_;refine dt λY=>?_;obtain⟨zet,G,l,r8,bb,m',hm,zei⟩:=U;obtain⟨zgH,its,n8,rv,d1,e8⟩:=l.vl bb;refine Y ?_;refine tN F.slot_list_append ⟨_,e8,rfl⟩ F.entry_list_append (F.args_list_append_2 _ _) (PySem.list_append _ its.toArray n8 v8<|by rw[SW];lia) ⟨e8,?_⟩;have I9:=l.B3 (f:=(·.push v8)) (t':=R.toks) bb e8 ⋯ (rv.append<|.cons r8 .nil) (by rw[Tt,UP];lia);exact⟨m',hm,i+1,t++[zet],h,_,I9.FV,(after I9).1,(after I9).2,zei⟩
 exact codeAny_compStart_list ax<|T.self _ 0 _ _ _ aw ax
noncomputable def nB(z:TI)(own:List Str)(e:List (Str×Nat))(g:TG)(j:TT)(te:TE):TE:=λb H Q=>z b H λJ a=>∀D,a D=cI->
 ∃W:Nat->Nat->List V->St->Hp->Prop,(∃m,W 0 m [] (uE own e b) (upd a D<|.lst []))/\CW J g j te D Q W
section
variable{X:Cx}{scope:f6}{own:List Str}{fr:List (Str×Nat)}{elt tg iter:dv}{ifs:List dv}{pos:eU}{wi:TI}{g:TG}{tt:TT}{te:TE}
theorem gX
 (U:X.calm=cm) (ok:r6 X scope fr) (hi:PI X tg iter wi) (Y:∀fp z j,PG (jF X scope (own++fr.map (·.1)) fp z j) tg g)
 (Z:∀fp z j,GP (jF X scope (own++fr.map (·.1)) fp z j) ifs tt) (he:∀fp z j,PE (jF X scope (own++fr.map (·.1)) fp z j) elt te)
 (I:Inv X pins σ H s) (h:nB wi own fr g tt te σ H Q)
 (S:∀D E M L,Inv X pins σ E M->Q (.ref D) E->(∃m,M.heap.Ns L m)->Gy X pins E L->
   compPost (d8 X.prog X.w) X.A X.xe use R (.ref D) L (.ok .next) M)
 (hs:∀x,oI iter X.env x=pure x:=by intro _;rfl):
 wpAny (d8 X.prog X.w) X.A (comprehension (.ListComp elt [⟨tg,iter,ifs,0⟩] scope pos) scope X.env (firstIterPos [⟨tg,iter,ifs,0⟩] pos) (newList []) cT (dy iter X.env) use) R X.xe s:=by
 refine wpAny_comprehension_free rfl hs (V2 λn O=>I.ok.has n<|ok.free (n,.free) O rfl) ok.kind (λx G e=>by rw[<-e];exact wJ ok.nd G) ?_;refine ed (hi pins s σ H _ I h) λv W o=>ed o λN z p=>?_;refine dt λK=>?_;obtain⟨P,fp,tn,J,j,e,b,T,d,f2,C⟩:=p;refine K ?_;subst e;refine ed (Bg U b ok T d f2 (Y fp z j) (Z fp z j) (he fp z j) C) λk s3 t=>ed t λi s4 u=>HB u λr M B=>?_;obtain⟨⟨f,F⟩,D,E,l,a,q,O,y⟩:=B;subst F;subst l;cases use<;>exact(S D E M i.locals a q O y)
theorem cL(J:X.calm=cm)(ok:r6 X scope fr)(E:PI X tg iter wi)(O:∀fp j e,PG (jF X scope (own++fr.map (·.1)) fp j e) tg g)
 (U:∀fp j e,GP (jF X scope (own++fr.map (·.1)) fp j e) ifs tt) (z:∀fp j e,PE (jF X scope (own++fr.map (·.1)) fp j e) elt te)
 (hs:∀x,oI iter X.env x=pure x:=by intro _;rfl):
 PE X (.ListComp elt [⟨tg,iter,ifs,0⟩] scope pos) (nB wi own fr g tt te):=by
 intro a s t H Q I h;rw[eval_ListComp];refine gX J ok E O U z I h (λD b r L Y q Z y=>?_) hs;obtain⟨m,d⟩:=Z;obtain⟨i,k,l,n,o⟩:=y;refine⟨m,d,λp f=>⟨.ref D,b,Y.turned f.extBut i k (.inr l) n o,rfl,q⟩⟩
theorem JG(O:X.N.Nodup)(Q:X.N[i]? = bB y)(U:Loc X.env.scope y)(Y:X.fn y=cm\/X.env.scope.names.lookup y=bB .local)
 (Z:X.calm=cm) (ok:r6 X scope fr) (S:PI X tg iter wi) (M:∀fp z j,PG (jF X scope (own++fr.map (·.1)) fp z j) tg g)
 (ht:∀fp z j,GP (jF X scope (own++fr.map (·.1)) fp z j) ifs tt) (E:∀fp z j,PE (jF X scope (own++fr.map (·.1)) fp z j) elt te)
 (hs:∀x,oI iter X.env x=pure x:=by intro _;rfl):
 PS X (.Assign [.Name y py] (.ListComp elt [⟨tg,iter,ifs,0⟩] scope pos) spos) (bG (nB wi own fr g tt te)<|vd i):=by
 have J:∃b,tG (.ListComp elt [⟨tg,iter,ifs,0⟩] scope pos) (bB (.Name y py)) spos.line X.env=pure b:=⟨_,rfl⟩;obtain⟨b,J⟩:=J;cases b with
 |false=>
  have r:My [.Name y py] (.ListComp elt [⟨tg,iter,ifs,0⟩] scope pos) spos.line X.env=_:=rfl;exact fW (cL Z ok S M ht E hs) (pb O Q U Y) (by rw[r];exact J)
 | true=>
  intro d s σ H D I h;rw[exec_Assign_Name_used _ _ _ _ J];refine SE<|U0<|SE ?_;refine SE<|ed (gX Z ok S M ht E I h (λk R B L l q w P=>?_) hs) λ_ B q=>SM<|SM q;refine dt λA=>?_;obtain⟨F,f,G,y4,K⟩:=P;obtain⟨m,u⟩:=w;refine A ?_;refine zel<|WD l O Q U (v:=.ref k) rfl (λT n o=>?_) Y;obtain⟨a,C,t⟩:=o;refine⟨m,u.sameBut C (by
   rcases t with e|e
   ·rw[e];exact f
   ·exact Tq<|y4 _ _ e),λW p=>⟨_,_,n.turned p.extBut F f (.inr G) y4 K,q⟩⟩
end
inductive Sk where
 |L|T
 deriving DecidableEq
end L2
namespace DL
open PySem L2
inductive D where
 |d9|bl (b:Bool)|int (i:Int)|str (x:Str)|tup (xs:List D)|lst (xs:List D)
 |lp (ks vs:List D)
 |mr (ks:List (List Int)) (vs:List D)
inductive Cell where
 |no|val (d:D)|own (ds:List D)|nest (rows:List (List D))
abbrev Ctx:=List Cell
abbrev CO (a : Type) := Ctx -> Option a
abbrev vI(n:Int):Cell:=.val (.int n)
noncomputable def lim:Nat:=2500
noncomputable def j6:D->Option (Sk×List D)
 |.tup a=>bB (.T,a)
 |.lst a=>bB (.L,a)
 |_=>cI
noncomputable def zJ(f:CO D)(γ:Ctx):Option (Sk×List D):=(f γ).bind j6
noncomputable def j5(f:CO (List D))(γ:Ctx):Option D:=(f γ).map D.lst
noncomputable def je(f:CO (List D))(γ:Ctx):Option (Sk×List D):=(f γ).map λa=>(Sk.L,a)
noncomputable def sx:Option Cell->Option D
 |some (.val d)=>bB d
 |_=>cI
noncomputable def Zw:Option Cell->Option (Sk×List D)
 |some (.val d)=>j6 d
 |some (.own ds)=>bB (.L,ds)
 |_=>cI
noncomputable def zf(i:Nat)(γ:Ctx):Option D:=sx γ[i]?
noncomputable def zk(i:Nat)(γ:Ctx):Option (Sk×List D):=Zw γ[i]?
noncomputable def jn(d:D):CO D:=λ_=>bB d
abbrev sI(n:Int):CO D:=jn (.int n)
noncomputable def zD(F:D->D->Option D)(e j:CO D)(γ:Ctx):Option D:=(e γ).bind λx=>(j γ).bind λy=>F x y
noncomputable def uu:D->Option Bool
 |.bl b=>bB b
 |_=>cI
noncomputable def l7:D->Option Int
 |.int i=>bB i
 |_=>cI
noncomputable def sB(f:CO D)(γ:Ctx):Option Bool:=(f γ).bind uu
noncomputable def QP(f g:CO Bool)(γ:Ctx):Option Bool:=(f γ).bind λb=>if b=cm then g γ else bB cT
noncomputable def tL(f g:CO Bool)(γ:Ctx):Option Bool:=(f γ).bind λb=>if b=cm then bB cm else g γ
noncomputable def kc(f:CO Bool)(γ:Ctx):Option Bool:=(f γ).map λb=> !b
noncomputable def uz(f g:CO D)(γ:Ctx):Option D:=((f γ).bind uu).bind λb=>if b=cm then g γ else bB (.bl cT)
noncomputable def NM(f:CO D)(γ:Ctx):Option D:=((f γ).bind uu).map λb=>.bl (!b)
noncomputable def ck(c:CO Bool)(f g:CO D)(γ:Ctx):Option D:=(c γ).bind λb=>if b=cm then f γ else g γ
noncomputable def zG:CO (List D):=λ_=>bB []
noncomputable def zc(f:CO D)(g:CO (List D))(γ:Ctx):Option (List D):=(f γ).bind λx=>(g γ).map λr=>x::r
noncomputable def kH(f:CO (List D))(γ:Ctx):Option D:=(f γ).bind λa=>if a.length<=lim then bB (.tup a)else cI
noncomputable def vx(f:CO (List D))(γ:Ctx):Option (List D):=(f γ).bind λa=>if a.length<=lim then bB a else cI
inductive Res where
 |val (d:D)|own (ds:List D)
inductive Fl where
 |next (γ:Ctx)|brk (γ:Ctx)|cont (γ:Ctx)|ret (r:Res)
noncomputable def jU(γ:Ctx):Option Fl:=bB (.next γ)
noncomputable def zV(F G:CO Fl):CO Fl:=λb=>(F b).bind λI=>match I with
 |.next a=>G a
 |f=>bB f
noncomputable def jO(f:CO D)(γ:Ctx):Option Fl:=(f γ).map λd=>.ret (.val d)
noncomputable def yb(f:CO (List D))(γ:Ctx):Option Fl:=(f γ).map λd=>.ret (.own d)
noncomputable def dQ:Option Cell->Option Fl
 |some (.val d)=>bB (.ret<|.val d)
 |some (.own ds)=>bB (.ret<|.own ds)
 |_=>cI
noncomputable def Vj(i:Nat)(γ:Ctx):Option Fl:=dQ γ[i]?
noncomputable def HA(γ:Ctx):Option Fl:=bB (.cont γ)
noncomputable def xQ:CO Fl:=λ_=>cI
noncomputable def g8(k:CO Bool)(F G:CO Fl)(γ:Ctx):Option Fl:=(k γ).bind λb=>if b=cm then F γ else G γ
noncomputable def jy(i:Nat)(f:CO D)(γ:Ctx):Option Fl:=(f γ).map λd=>.next (γ.set i<|.val d)
noncomputable def vH(i:Nat)(f:CO (List D))(γ:Ctx):Option Fl:=(f γ).map λa=>.next (γ.set i<|.own a)
noncomputable def og(f:CO D)(γ:Ctx):Option Fl:=(f γ).map λ_=>.next γ
noncomputable def Zx:Option Cell->Option (List D)
 |some (.own ds)=>bB ds
 |_=>cI
noncomputable def qf(i:Nat)(f:CO D)(γ:Ctx):Option Fl:=(Zx γ[i]?).bind λa=>(f γ).bind λd=>if a.length<lim then bB (.next<|γ.set i<|.own<|a++[d])else cI
noncomputable def zZ(n:Nat)(ds:List D):Ctx:=ds.map Cell.val++SI (n-ds.length) Cell.no
noncomputable def jf(n:Nat)(F:CO Fl)(ds:List D):Option Res:=(F<|zZ n ds).bind λI=>match I with
 |.ret r=>bB r
 |.next _=>bB (.val .d9)
 |_=>cI
noncomputable def iR:Res->D
 |.val d=>d
 |.own a=>.lst a
noncomputable def zA(F:List D->Option Res)(g:CO (List D))(γ:Ctx):Option D:=(g γ).bind λa=>(F a).map iR
noncomputable def Pu:Res->Option (List D)
 |.own a=>bB a
 |_=>cI
noncomputable def jo(F:List D->Option Res)(g:CO (List D))(γ:Ctx):Option (List D):=(g γ).bind λa=>(F a).bind Pu
noncomputable def J9(lo:Int)(n:Nat):List D:=(SF n).map λ(i:Nat)=>D.int<|lo+(i:Int)
noncomputable def ZA(ds es:List D):List D:=(ds.zip es).map λp=>D.tup [p.1,p.2]
noncomputable def zH(f:CO (Sk×List D))(γ:Ctx):Option (List D):=(f γ).map (·.2)
noncomputable def inR(i:Int):Bool:=decide<|i.natAbs<2^62
noncomputable def jr(f:CO D)(γ:Ctx):Option (List D):=((f γ).bind l7).bind λn=>if inR n=cm then bB (J9 0 n.toNat)else cI
noncomputable def Vk(f g:CO D)(γ:Ctx):Option (List D):=((f γ).bind l7).bind λm=>((g γ).bind l7).bind λn=>if inR m=cm/\inR n=cm then bB (J9 m (n-m).toNat)else cI
noncomputable def bH(f g:CO D)(γ:Ctx):Option (List D):=((f γ).bind j6).bind λm=>((g γ).bind j6).map λn=>ZA m.2 n.2
inductive Tg where
 |nm (i:Nat)|tp (is:List Nat)
noncomputable def q9:List Nat->List D->Ctx->Ctx
 |i::is,d::ds,γ=>q9 is ds<|γ.set i<|.val d
 |_,_,γ=>γ
noncomputable def qx:Tg->D->CO Ctx
 |.nm i,d,γ=>bB (γ.set i<|.val d)
 |.tp is,.tup ds,γ=>if ds.length=is.length then bB (q9 is ds γ)else cI
 |_,_,_=>cI
noncomputable def yd(T:Tg)(F:CO Fl):List D->CO Fl
 |[],a=>bB (.next a)
 |d::e,a=>(qx T d a).bind λb=>(F b).bind λJ=>match J with
  |.next I=>yd T F e I
  |.cont I=>yd T F e I
  |.brk I=>bB (.next I)
  |.ret r=>bB (.ret r)
noncomputable def J5(e:CO (List D))(T:Tg)(F:CO Fl)(γ:Ctx):Option Fl:=(e γ).bind λa=>yd T F a γ
noncomputable def yc:Cell->Cell
 |.own _=>.no
 |.nest _=>.no
 |c=>c
noncomputable def z7(n:Nat)(e:List Nat)(γ:Ctx):Ctx:=SI n Cell.no++e.map λj=>yc<|γ[j]?.getD .no
noncomputable def zI(T:Tg)(k:CO Bool)(f:CO D)(γ:Ctx):List D->Option (List D)
 |[]=>bB []
 |d::ds=>(qx T d γ).bind λa=>(k a).bind λb=>if b=cm then (f a).bind λe=>(zI T k f γ ds).map λr=>e::r else zI T k f γ ds
noncomputable def zM(e:CO (List D))(T:Tg)(n:Nat)(j:List Nat)(k:CO Bool)(f:CO D)(γ:Ctx):Option (List D):=(e γ).bind λa=>if a.length<=lim then zI T k f (z7 n j γ) a else cI
noncomputable def ja:CO Bool:=λ_=>bB cm
noncomputable def Tg.idx:Tg->List Nat
 |.nm i=>[i]
 |.tp is=>is
noncomputable def dI(g:Int->Int->D):D->D->Option D
 |.int i,.int j=>bB (g i j)
 |_,_=>cI
noncomputable def D9(c:Int->Int->Bool)(g:Int->Int->D):D->D->Option D
 |.int i,.int j=>if c i j=cm then bB (g i j)else cI
 |_,_=>cI
noncomputable def QI:D->D->Option D:=dI λi j=>.int (i-j)
noncomputable def bK(i j:Int):Bool:=decide (i.natAbs<2^64) || decide (j.natAbs<2^64)
noncomputable def LD(_ j:Int):Bool:=decide (0<j)&&decide (j.natAbs<1073741824)
noncomputable def VX:D->D->Option D:=D9 LD λi j=>.int (i/j)
noncomputable def Nb(_ j:Int):Bool:=decide<|0<j
noncomputable def yi:D->D->Option D:=D9 Nb λi j=>.int (i%j)
noncomputable def LC(i j:Int):Bool:=decide (0<=j)&&decide (j.natAbs<=1000000)&&decide (i.natAbs<2^64)
noncomputable def FM:D->D->Option D:=D9 LC λi j=>.int (i^j.toNat)
noncomputable def sv:D->D->Option D:=dI λi j=>.bl (decide<|i<j)
noncomputable def qs:D->D->Option D:=dI λi j=>.bl (decide<|i<=j)
noncomputable def o6:D->D->Option D:=dI λi j=>.bl (decide<|j<i)
noncomputable def D8:D->D->Option D:=dI λi j=>.bl (decide<|j<=i)
noncomputable def qw:D->D->Option D
 |.int i,.int j=>bB (.int<|i+j)
 |.tup xs,.tup ys=>if xs.length+ys.length<=lim then bB (.tup<|xs++ys)else cI
 |_,_=>cI
noncomputable def ve:D->D->Option D
 |.int i,.int j=>if bK i j=cm then bB (.int<|i*j)else cI
 |.tup xs,.int j=>if xs.length*j.toNat<=lim/\inR j=cm then bB (.tup (SI j.toNat xs).flatten)else cI
 |_,_=>cI
noncomputable def WQ(f g:CO (Sk×List D))(γ:Ctx):Option (List D):=(f γ).bind λa=>(g γ).bind λb=>
 match a.1,b.1 with
 |.L,.L=>if a.2.length+b.2.length<=lim then bB (a.2++b.2)else cI
 |_,_=>cI
noncomputable def Ek(f:CO (Sk×List D))(g:CO D)(γ:Ctx):Option (List D):=(f γ).bind λa=>((g γ).bind l7).bind λj=>
 match a.1 with
 |.L=>if a.2.length*j.toNat<=lim/\inR j=cm then bB (SI j.toNat a.2).flatten else cI
 |_=>cI
noncomputable def g5(n:Nat)(i:Int):Option Nat:=if 0<=i/\i<n then bB i.toNat else if i<0/\0<=i+n then bB (i+n).toNat else cI
noncomputable def di(f:CO (Sk×List D))(g:CO D)(γ:Ctx):Option D:=(f γ).bind λa=>((g γ).bind l7).bind λi=>(g5 a.2.length i).bind λk=>a.2[k]?
noncomputable def fF(i:Nat)(g f:CO D)(γ:Ctx):Option Fl:=(f γ).bind λd=>(Zx γ[i]?).bind λa=>((g γ).bind l7).bind λk=>(g5 a.length k).map λj=>.next (γ.set i<|.own<|a.set j d)
noncomputable def VY(n dflt:Nat):Option Int->Nat
 |none=>dflt
 |some i=>if i<0 then (i+n).toNat else min i.toNat n
noncomputable def gW(xs:List D)(lo e:Option Int):List D:=(xs.drop<|VY xs.length 0 lo).take (VY xs.length xs.length e-VY xs.length 0 lo)
noncomputable def Xa:CO (Option Int):=λ_=>bB cI
noncomputable def h9(f:CO D)(γ:Ctx):Option (Option Int):=((f γ).bind l7).map bB
noncomputable def nT(f:CO D)(l h:CO (Option Int))(γ:Ctx):Option D:=(f γ).bind λd=>(l γ).bind λlo=>(h γ).bind λa=>match d with
 |.tup b=>bB (.tup<|gW b lo a)
 |_=>cI
noncomputable def XN(f:CO (Sk×List D))(γ:Ctx):Option D:=(f γ).map λa=>.int a.2.length
inductive Ty where
 |int|bool|str|tuple|list
 deriving DecidableEq
@[simp] noncomputable def Ce:D->Bool
 |.int _=>cm
 |.bl _=>cm
 |_=>cT
@[simp] noncomputable def Ld:D->Bool
 |.bl _=>cm
 |_=>cT
@[simp] noncomputable def Cb:D->Bool
 |.str _=>cm
 |_=>cT
@[simp] noncomputable def Ca:D->Bool
 |.tup _=>cm
 |_=>cT
@[simp] noncomputable def Cd:D->Bool
 |.lst _=>cm
 |_=>cT
noncomputable def AG:Ty->D->Bool
 |.int=>Ce
 |.bool=>Ld
 |.str=>Cb
 |.tuple=>Ca
 |.list=>Cd
noncomputable def Dw(T:Ty)(f:CO D)(γ:Ctx):Option D:=(f γ).map λd=>.bl (AG T d)
@[simp] noncomputable def LS:D->Bool
 |.d9=>cm
 |_=>cT
@[simp] noncomputable def eqB(a:Bool):D->Bool
 |.bl b=>a==b
 |.int b=>(if a then 1 else 0)==b
 |_=>cT
@[simp] noncomputable def i'(a:Int):D->Bool
 |.bl b=>a==(if b then 1 else 0)
 |.int b=>a==b
 |_=>cT
@[simp] noncomputable def i_(a:Str):D->Bool
 |.str b=>a==b
 |_=>cT
@[simp] noncomputable def eqX(a:Str)(i:Option Int):D->Bool
 |_=>cT
mutual
def ip:D->D->Bool
 |.d9,y=>LS y
 |.bl a,y=>eqB a y
 |.int a,y=>i' a y
 |.str a,y=>i_ a y
 |.tup xs,y=>match y with
  |.tup e=>p5 xs e
  |_=>cT
 |.lst xs,y=>match y with
  |.lst e=>p5 xs e
  |_=>cT
 |.lp a b,y=>match y with
  |.lp c d=>p5 a c&&p5 b d
  |_=>cT
 |.mr a b,y=>match y with
  |.mr c d=>a==c&&p5 b d
  |_=>cT
def p5:List D->List D->Bool
 |[],[]=>cm
 |x::xs,y::ys=>ip x y&&p5 xs ys
 |_,_=>cT
end
mutual
def deep:D->Nat
 |.tup a=>t4 a+1
 |.lst a=>t4 a+1
 |_=>0
def t4:List D->Nat
 |[]=>0
 |x::xs=>max (deep x)<|t4 xs
end
mutual
def ji:D->Bool
 |.str x=>x.cps.all (· < 0x110000)
 |.lp _ _=>cT
 |.mr _ _=>cT
 |.tup a=>oo a
 |.lst a=>oo a
 |_=>cm
def oo:List D->Bool
 |[]=>cm
 |x::xs=>ji x&&oo xs
end
noncomputable def i5(d:D):Bool:=decide (deep d<=20)&&ji d
noncomputable def fh(x y:D):Option D:=if i5 x=cm/\i5 y=cm then bB (.bl<|ip x y)else cI
noncomputable def h8(x y:D):Option D:=if i5 x=cm/\i5 y=cm then bB (.bl<|!ip x y)else cI
noncomputable def LA:D->D->Option D
 |x,.d9=>bB (.bl<|match x with|.d9=>cm|_=>cT)
 |_,_=>cI
noncomputable def jg(f:CO (Sk×List D))(γ:Ctx):Option D:=(f γ).map λa=>.tup a.2
noncomputable def nX(f:CO (Sk×List D))(γ:Ctx):Option (List D):=(f γ).map λa=>a.2
noncomputable def fu:List D->Option Int
 |[]=>bB 0
 |.int i::r=>(fu r).map λs=>i+s
 |_::_=>cI
noncomputable def iN(f:CO (Sk×List D))(γ:Ctx):Option D:=(f γ).bind λa=>(fu a.2).map D.int
noncomputable def Mo:D->Option Bool
 |.d9=>bB cT
 |.bl b=>bB b
 |.int i=>bB (i != 0)
 |_=>cI
noncomputable def QM:List D->Option (List Bool)
 |[]=>bB []
 |d::r=>(Mo d).bind λb=>(QM r).map λs=>b::s
noncomputable def uA(f:CO (Sk×List D))(γ:Ctx):Option D:=(f γ).bind λa=>(QM a.2).map λs=>.bl (s.all id)
noncomputable def GF(f:CO (Sk×List D))(γ:Ctx):Option D:=(f γ).bind λa=>(QM a.2).map λs=>.bl (s.any id)
noncomputable def ZM(f:CO D)(γ:Ctx):Option D:=(f γ).bind λd=>match d with
 |.int i=>bB (.int i)
 |.bl b=>bB (.int<|if b then 1 else 0)
 |_=>cI
noncomputable def nV(f g:CO D)(γ:Ctx):Option D:=((f γ).bind l7).bind λi=>((g γ).bind l7).map λj=>.int (if j>i then j else i)
noncomputable def Hx(f:CO (Sk×List D))(γ:Ctx):Option Bool:=(f γ).map λa=> !a.2.isEmpty
noncomputable def fG(f:CO D):CO D:=λa=>((f a).bind l7).map λi=>.int (-i)
noncomputable def wZ(F G:D->D->Option D)(e j E:CO D):CO D:=λa=>(e a).bind λx=>(j a).bind λy=>((F x y).bind uu).bind λb=>if b=cm then (E a).bind λz=>G y z else bB (.bl cT)
noncomputable def Ej(T:Tg)(f:CO D)(γ:Ctx):Option Fl:=(f γ).bind λd=>(qx T d γ).map .next
end DL
namespace L2
open PySem PySem.Spec PyProof.Rows
noncomputable def ij(k:Sk)(h:eL)(i l:dj)(n:Nat):Prop:=match k with
 |.L=>h.IsListIter i l n
 |.T=>h.IsTupleIter i l n
noncomputable def lK(k:Sk)(h:eL)(l:dj)(xs:Array dn):Prop:=match k with
 |.L=>h.IsList l xs
 |.T=>h.IsTuple l xs
noncomputable def i0(k:Sk)(l:dj):l6:=match k with
 |.L=>{cls:=.type "list_iterator",data:=.fields #[.ref l,.int 0 0]}
 |.T=>{cls:=.type "tuple_iterator",data:=.fields #[.ref l,.int 0 0]}
theorem ij.at(x:ij k h i l n)(e:∀o,h.get? i=bB o->h'.get? i=bB o):ij k h' i l n:=by cases k<;>exact let ⟨o,I,r⟩:=x;⟨o,e _ I,r⟩
theorem lK.at(x:lK k h l xs)(e:∀o,h.get? l=bB o->h'.get? l=bB o):lK k h' l xs:=by cases k<;>exact let ⟨o,I,r⟩:=x;⟨o,e _ I,r⟩
theorem ij.obj(x:ij k h i l n):∃o,h.get? i=bB o/\∀v,o.data ≠ .cell v:=by cases k<;>exact let ⟨o,I,_,d⟩:=x;⟨o,I,λv z=>by rw[d]at z;cases z⟩
theorem lK.lt(x:lK k h l xs):l<h.objs.size:=by cases k<;>exact let ⟨o,I,_⟩:=x;SY I
theorem QF(k:Sk)(h:eL)(l:dj):ij k (h.push<|i0 k l) h.objs.size l 0:=by cases k<;>exact⟨_,SV _ rfl,rfl,rfl⟩
section
variable{prog:gg}{w:fA}{A:kb}{E:EQ}{s:ea}
theorem aE(I:lK k s.heap l xs)(J:Q (.ref s.heap.objs.size) {s with heap:=s.heap.push (i0 k l)}):wpAny (d8 prog w) A (Mp<|.ref l) Q E s:=by
 cases k
 ·exact _j I J
 ·exact P9 I J
theorem kO(O:ij k s.heap it l i)(U:lK k s.heap l items)(Y:items[i]? = bB x)
 (Z:∀h',ij k h' it l (i+1)->wV it s.heap h'->Q x {s with heap:=h'}):wpAny (d8 prog w) A (P1<|.ref it) Q E s:=by
 cases k with
 |L=>exact wpAny_nextOf_list_item O U Y Z
 |T=>
  have J:=O;obtain⟨o,I,e,a⟩:=id J;obtain⟨g,b,_,f,d⟩:=(U);unfold P1;refine SE<|TU J.typeIs Rl<|Uk Rl J.typeIs B? ?_ (v? _);refine SE (m:=field (.ref it) 0)<|TX I a (x:=.ref l) rfl ?_;refine SE<|TX I a rfl ?_;refine SE<|UM b d ?_;simp only[P7,Y];exact SE<|wpAny_setField I a ⋯<|SM ⟨x,rfl,SM<|Z _ ⟨_,UR _ I<|Obj.isFreed_of_fields<|Z_ a _,(Obj.cls_mapFields ..).trans e,by rw[Z_ a];rfl⟩<|wV.update ..⟩
theorem Jb(I:A.handled=cI)(U:ij k s.heap it l i)(Y:lK k s.heap l items)(Z:items[i]? = cI)
 (hE:∀h' e,Heap.ExtBut it s.heap h'->(∃o,h'.get? e=bB o/\o.cls=.type "StopIteration")->E (.ref e) {s with heap:=h'}):wpAny (d8 prog w) A (P1 (.ref it)) Q E s:=by
 cases k with
 |L=>exact wpAny_nextOf_list_end I U Y Z hE
 |T=>
  have J:=U;obtain⟨o,O,f,a⟩:=id J;obtain⟨h,b,_,g,d⟩:=(Y);unfold P1;refine SE<|TU J.typeIs Rl<|Uk Rl J.typeIs B? ?_ (v? _);refine SE (m:=field (.ref it) 0)<|TX O a (x:=.ref l) rfl ?_;refine SE<|TX O a rfl ?_;refine SE<|UM b d ?_;simp only[P7,Z];refine SE<|z4<|SE<|wpAny_setField O a ⋯ ?_;refine SE ?_;simp only[newExc,newTuple];refine SE<|UB ?_ (by size_fits);refine SE<|wpAny_of_eq (by rfl) ?_;refine UB ?_ (by size_fits);simp only[raiseNew];refine SE<|wpAny_handled ?_
  first|rw[I]|rw[I]
  exact SE<|SM<|wpAny_throw<|hE _ _ (((wV.update ..).extBut.push _).push _) ⟨_,SV _ rfl,rfl⟩
theorem Wn{k1 k2:Sk}{z TI TO j H L M:dj}{S X:Nat}{xs ys:Array dn}{x y a b:dn}{Q:EQ}(D:uY z TI TO j H L M)
 (hz:uS s.heap z TI TO .none) (ap:ni s.heap TI (.ref j) (.ref H)) (as:ni s.heap TO a b)
 (h1:ij k1 s.heap j L S) (h2:ij k2 s.heap H M X) (ax:lK k1 s.heap L xs) (b0:lK k2 s.heap M ys) (hx:xs[S]? = bB x) (hy:ys[X]? = bB y)
 (hQ:∀h',uS h' z TI TO (rawInt s.heap.objs.size)->ni h' TO x y->ij k1 h' j L (S+1)->ij k2 h' H M (X+1)->ni h' s.heap.objs.size x y->h'.objs.size=s.heap.objs.size+1->
   (∀c o,c≠z->c≠TO->c≠j->c≠H->s.heap.get? c=bB o->h'.get? c=bB o)->Q (.ref s.heap.objs.size) {s with heap:=h'}):
 wpAny (d8 prog w) A (pa.«zip.__next__» ⟨[.ref z],[]⟩) (λb4 s'=>∃v,b4=.done (.ret v)/\Q v s') E s:=by
 refine SE (m:=field (.ref z) 2)<|TX hz rfl (x:=.bool cT) rfl ?_;refine SE<|TX hz rfl rfl ?_;refine SE<|UM ap rfl ?_;refine SE ?_;unfold UA;refine SE<|TX hz rfl rfl<|SM ?_;simp only[if_true];refine SE<|z4<|SE<|TX hz rfl rfl ?_;refine SE<|Ux hz ⋯ λg1 l I=>?_;replace l:=l;refine SE ?_;simp only[List.zipIdx_cons,List.zipIdx_nil,M1,R8];refine SE<|SE<|U1 ?_;refine SE<|kO (h1.at λo e=>I.extBut _ _ D.i1z e) (ax.at λo e=>I.extBut _ _ D.l1z e) hx λg2 R J=>SM ?_;have ad:=J.extBut _ _ D.TOi1<|I.extBut _ _ D.TOz as;refine SE<|UM ad rfl<|SE<|Y_ ad λg3 n O=>?_;replace n:=n;refine SE<|IJ<|SM<|SE<|SE<|U1 ?_;refine SE<|kO (h2.at λo e=>O.extBut _ _ D.TOi2.symm<|J.extBut _ _ D.i12.symm<|I.extBut _ _ D.i2z e) (b0.at λo e=>O.extBut _ _ D.l2TO<|J.extBut _ _ D.l2i1<|I.extBut _ _ D.l2z e) hy λg4 T Y=>SM ?_;have F:=Y.extBut _ _ D.TOi2 n;refine SE<|UM F rfl<|SE<|Y_ F λU g Z=>?_;replace g:ni U TO x y:=g;refine SE<|IJ<|SM<|SM<|SE<|UM g rfl<|SE<|M7 ?_;have f:U.objs.size=s.heap.objs.size:=by simp only[Z.1,Y.1,O.1,J.1,I.1]
 have G:=Z.extBut _ _ D.TOz.symm (Y.extBut _ _ D.i2z.symm (O.extBut _ _ D.TOz.symm (J.extBut _ _ D.i1z.symm l)));have K:=SY G;refine SE ?_;unfold zbD;have W:uS (U.push {cls:=.type "tuple",data:=.seq #[x,y]}) z TI TO .ellipsis:=SG _ G;refine SE (Ux W ⋯ λg7 p r=>?_);replace p:uS g7 z TI TO (rawInt U.objs.size):=p;refine Ux p ⋯ λC h t=>?_;replace h:=h;have k c o:c≠z->U.get? c=bB o->C.get? c=bB o:=λd e=>t.extBut _ _ d (r.extBut _ _ d (SG _ e));have N:=t.extBut _ _ (uq K) (r.extBut _ _ (uq K) (SV _ rfl));have P:C.objs.size=U.objs.size+1:=by rw[t.1,r.1,TH]
 rw[f]at h N P;refine SM ⟨_,rfl,?_⟩;rw[f];exact hQ C h (k _ _ D.TOz g) ((R.at λo e=>Z.extBut _ _ D.TOi1.symm<|Y.extBut _ _ D.i12<|O.extBut _ _ D.TOi1.symm e).at λo e=>k _ o D.i1z e) ((T.at λo e=>Z.extBut _ _ D.TOi2.symm e).at λo e=>k _ o D.i2z e) N P λc o d i u B e=>k c o d<|(λc o d i u B e=>Z.extBut _ _ i<|Y.extBut _ _ B<|O.extBut _ _ i<|J.extBut _ _ u<|I.extBut _ _ d e) c o d i u B e
theorem eH{k1 k2:Sk}{z TI TO j H L M:dj}{S n2:Nat}{xs ys:Array dn}{a b:dn}{Q:Fin->ea->Prop}(hh:A.handled=cI)(D:uY z TI TO j H L M)
 (hz:uS s.heap z TI TO .none) (a9:ni s.heap TI (.ref j) (.ref H)) (ac:ni s.heap TO a b)
 (h1:ij k1 s.heap j L S) (h2:ij k2 s.heap H M n2) (X:lK k1 s.heap L xs) (ak:lK k2 s.heap M ys) (an:xs[S]? = cI\/ys[n2]? = cI)
 (hE:∀h' e,(∀c o,c≠z->c≠TO->c≠j->c≠H->s.heap.get? c=bB o->h'.get? c=bB o)->(∃o,h'.get? e=bB o/\o.cls=.type "StopIteration")->E (.ref e) {s with heap:=h'}):
 wpAny (d8 prog w) A (pa.«zip.__next__» ⟨[.ref z],[]⟩) Q E s:=by
 refine SE (m:=field (.ref z) 2) (TX hz rfl (x:=.bool cT) rfl ?_);refine SE (TX hz rfl rfl ?_);refine SE (UM a9 rfl ?_);refine SE ?_;unfold UA;refine SE (TX hz rfl rfl (SM ?_));simp only[if_true];refine SE (z4 (SE (TX hz rfl rfl ?_)));refine SE (Ux hz ⋯ λg1 h I=>?_);replace h:=h;refine SE ?_;simp only[List.zipIdx_cons,List.zipIdx_nil,M1,R8];refine SE (SE (U1 ?_));have p:∀{g e:_} {U:l6},uS g z TI TO .ellipsis->(∀c o,c≠z->c≠TO->c≠j->c≠H->_=bB o->g.get? c=bB o)->g.get? e=bB U->U.cls=.type "StopIteration"->
  wpAny (d8 prog w) A (setField (.ref z) 0 .none) (λ_ u=>E (.ref e) u) E {s with heap:=g}:=λ{g e U} n hk Y Z=>by
  exact Ux n ⋯ λg3 _ O=>hE g3 e (λc o d i f k q=>O.extBut _ _ d<|hk c o d i f k q) ⟨U,O.extBut _ _ (λq=>by lia) Y,Z⟩
 cases hx:xs[S]? with
 |none=>
  refine SE<|Jb hh (h1.at λo e=>I.extBut _ _ D.i1z e) (X.at λo e=>I.extBut _ _ D.l1z e) hx λg2 e J l=>?_;obtain⟨U,Y,Z⟩:=l;exact p (J _ _ D.i1z.symm h) (λc o d _ f _ q=>J _ _ f<|I.extBut _ _ d q) Y Z
 |some x=>
  refine SE<|kO (h1.at λo e=>I.extBut _ _ D.i1z e) (X.at λo e=>I.extBut _ _ D.l1z e) hx λg2 y J=>SM ?_;have r:=J.extBut _ _ D.TOi1<|I.extBut _ _ D.TOz ac;refine SE<|UM r rfl<|SE<|Y_ r λg3 as O=>?_;refine SE<|IJ<|SM<|SE<|SE<|U1 ?_;refine SE<|Jb hh (h2.at λo e=>O.extBut _ _ D.TOi2.symm<|J.extBut _ _ D.i12.symm<|I.extBut _ _ D.i2z e) (ak.at λo e=>O.extBut _ _ D.l2TO<|J.extBut _ _ D.l2i1<|I.extBut _ _ D.l2z e) ⋯ λB e t l=>?_;obtain⟨U,Y,Z⟩:=l;exact p (t _ _ D.i2z.symm<|O.extBut _ _ D.TOz.symm<|J.extBut _ _ D.i1z.symm h) (λc o d i f k q=>t _ _ k<|O.extBut _ _ i<|J.extBut _ _ f<|I.extBut _ _ d q) Y Z
end
noncomputable def yW(a b:dn):l6:={cls:=.type "tuple",data:=.seq #[a,b]}
noncomputable def Mf(TI TO:dj):l6:={cls:=.type "zip",data:=.fields #[.none,.bool cT,.bool cT,.ref TI,.ref TO]}
noncomputable def QK(k1 k2:Sk)(h:eL)(I e:dj):eL:=
 Tr (Tr (Tr (Tr (Tr h<|i0 k1 I)<|i0 k2 e)<|yW (.ref h.objs.size)<|.ref<|h.objs.size+1)<|yW .none .none) (Mf (h.objs.size+2)<|h.objs.size+3)
theorem eG(k1 k2:Sk)(I j:dj)(xs ys:Array dn):
 DU (pa.«zip.__new__» ⟨[.type "zip",.ref I,.ref j],[]⟩) (λ_ R s=>lK k1 s.heap I xs/\lK k2 s.heap j ys/\
  R (.ok<|.ret<|.ref<|s.heap.objs.size+4) {s with heap:=QK k1 k2 s.heap I j}):=
 .of_wp λa w A R s h=>by
  obtain⟨b,g,d,Q,os⟩:=s;obtain⟨J,O,h⟩:=h;have U:=sub_zip
  wp_walk using aE J,aE<|O.at λo e=>SG _ e
  refine⟨_,rfl,?_⟩;simp only[QK,yW,Mf,TH]at h ⊢;exact h
section
variable{X:Cx}{pins:TW}{σ:St}{H:Hp}{s:ea}{h':eL}
theorem Inv.O3{t':Nat}{fp:List dj}{a:dj}{o:HO}(I:Inv X pins σ H s)(k:∀b u,b∉fp->s.heap.get? b=bB u->h'.get? b=bB u)(Q:∀b∈fp,Jt X pins H b)
 (j:s.heap.objs.size<=a) (new:n5 X.prog X.w (upd H a o) h' a o):Inv X pins σ (upd H a o) {s with heap:=h',toks:=t'}:=by
 have d:=I.eI.fresh j;have Y b u:H b=bB u->b∉fp:=λe z=>by rw[(Q b z).1]at e;cases e
 refine I.step (λb J=>⟨(Q b J).2.2.2.1,(Q b J).2.1,(Q b J).2.2.2.2.1,(Q b J).2.2.2.2.2⟩) (λb u _ _ O e _=>k b u O e) (λb u _ _ O e _=>⟨u.slots,k b u O e⟩)
  (λb u _ e n=>by rw[zE ((λb u e=>Tc<|Ti (SY e) j) b u e)];exact n) (λb u O e=>⟨u,k b u O e⟩) (λb f e=>by rw[zE (qa e d)];exact e) (λb U f e=>by rw[zE (qa e d)];exact e)
  (λb l e=>⟨#[],by rw[zE (qa e d),e];simp⟩) (λm Z=>?_) (λb u e=>?_) I.bare
 ·obtain⟨U,h,g,i,r⟩:=Z
  refine⟨U,h,g,k _ U (λz=>(Q _ z).2.1 rfl) i,r⟩
 ·by_cases J:b=a
  ·subst J;rw[zC]at e;lia
  ·rw[zE J]at e
   refine(I.eI b u e).y7 (λc v O q=>k c v ?_ q) (λc q=>by rw[zE (qa q d)];exact q) λc f q=>by rw[zE (qa q d)];exact q
   rcases O with z|z
   ·rw[z];exact Y b u e
   ·exact Y c _ z
theorem Inv.um{t':Nat}{fp:List dj}(I:Inv X pins σ H s)(k:∀b u,b∉fp->s.heap.get? b=bB u->h'.get? b=bB u)(O:∀b∈fp,Jt X pins H b):Inv X pins σ H {s with heap:=h',toks:=t'}:=by
 have Y b u:H b=bB u->b∉fp:=λe z=>by rw[(O b z).1]at e;cases e
 refine I.step (λb Q=>⟨(O b Q).2.2.2.1,(O b Q).2.1,(O b Q).2.2.2.2.1,(O b Q).2.2.2.2.2⟩) (λb u _ _ J e _=>k b u J e) (λb u _ _ J e _=>⟨u.slots,k b u J e⟩)
  (λb u _ e n=>n) (λb u J e=>⟨u,k b u J e⟩) (λb a e=>e) (λb U a e=>e)
  (λb h e=>⟨#[],by rw[e];simp⟩) (λm Z=>?_) (λb u e=>?_) I.bare
 ·obtain⟨U,f,d,g,r⟩:=Z
  refine⟨U,f,d,k _ U (λz=>(O _ z).2.1 rfl) g,r⟩
 ·refine(I.eI b u e).y7 (λc v J q=>k c v ?_ q) (λc q=>q) λc a q=>q
  rcases J with z|z
  ·rw[z];exact Y b u e
  ·exact Y c _ z
end
noncomputable def i4(k:Sk)(K:SD)(H:Hp)(a:dj)(xs:List V):Prop:=match k with
 |.L=>fy K H a xs
 |.T=>hH K H a xs
theorem Inv.sq(I:Inv X pins σ H s)(h:i4 k X.K H a xs):
 ∃its,ez xs its/\lK k s.heap a its.toArray/\xs.length<=eK:=by
 cases k with
 |L=>obtain⟨its,r,p,z⟩:=I.list h;exact⟨its,r,p.isList,z⟩
 |T=>obtain⟨its,r,p,z⟩:=I.tuple h;exact⟨its,r,p,z⟩
theorem Inv.OV(I:Inv X pins σ H s)(h:i4 k X.K H a xs)(h':i4 k X.K H a ys):xs=ys:=by
 cases k with
 |L=>exact I.OL h h'
 |T=>exact I.E' h h'
noncomputable def N3(k1 k2:Sk)(K:SD)(a b:dj):It:=
 ⟨λi H=>∃d e,i4 k1 K H a d/\i4 k2 K H b e/\i<d.length/\i<e.length,
  λi H x f=>∃p u v,x=.ref p/\H p=cI/\f=upd H p (.tup [u,v])/\(∀d,i4 k1 K H a d->d[i]? = bB u)/\(∀e,i4 k2 K H b e->e[i]? = bB v),
  λi H=>∃d e,i4 k1 K H a d/\i4 k2 K H b e/\(d.length<=i\/e.length<=i)⟩
theorem zd3{P:gg}{w:fA}{K:SD}{elts:List dv}{x1:Nat}{tH:eU}(k1 k2:Sk){z TI TO i1 i2 a b:dj}(D:uY z TI TO i1 i2 a b):
 Turn P w K (.Tuple elts x1 tH) (N3 k1 k2 K a b) [z,TI,TO,i1,i2] z (λi h=>uS h z TI TO .none/\ni h TI (.ref i1) (.ref i2)/\(∃c d,ni h TO c d)/\ij k1 h i1 a i/\ij k2 h i2 b i) where
 mem:=by simp
 obj:=λi h ⟨hz,Q,⟨c,d,U⟩,h1,Y⟩ y hy=>by
  simp only[SS,Th,or_false]at hy;rcases hy with rfl|rfl|rfl|rfl|rfl
  ·exact⟨_,hz,λv q=>by cases q⟩
  ·exact⟨_,Q,λv q=>by cases q⟩
  ·exact⟨_,U,λv q=>by cases q⟩
  ·exact h1.obj
  ·exact Y.obj
 keep:=λi h h' ⟨hz,Q,⟨c,d,U⟩,h1,Y⟩ k=>
  ⟨k z ⋯ _ hz,k TI ⋯ _ Q,⟨c,d,k TO ⋯ _ U⟩,h1.at λo e=>k i1 ⋯ o e,Y.at λo e=>k i2 ⋯ o e⟩
 item:=by
  rintro X hP hw hK hc i pins s σ H E I hf ⟨hz,Q,⟨c,d,U⟩,h1,Y⟩ ⟨xs,ys,ac,ad,b0,b1⟩;subst hP hw hK;obtain⟨b2,am,p1,z1⟩:=I.sq ac;obtain⟨b3,ao,p2,z2⟩:=I.sq ad;have hx:xs[i]? = bB xs[i]:=SH b0;have hy:ys[i]? = bB ys[i]:=SH b1;obtain⟨u1,b4,b5⟩:=am.get hx;obtain⟨u2,b6,b7⟩:=ao.get hy;have hT:s.TypeIs (.ref z) "zip":=⟨_,hz,rfl⟩;unfold uG;refine SE (z3 (TU (name:=Ts "__next__") hT UE (Uk UE hT Hg
   (Wn D hz Q U h1 Y p1 p2 (x:=u1) (y:=u2) (by simpa using b4) (by simpa using b6) λg a1 a2 a3 a4 a5 a6 a7=>SM ⟨_,rfl,?_⟩) (GK _))))
  refine wpAny_letOwnedTupleGo_zip a1 λg2 OG Z=>?_;have lt:∀{c o},s.heap.get? c=bB o->s.heap.objs.size≠c:=λe=>uq<|SY e;have bf:ni g2 s.heap.objs.size u1 u2:=Z.extBut _ _ (lt hz) a5;have kk O u:O ∉ [z,TI,TO,i1,i2]->s.heap.get? O=bB u->g2.get? O=bB u:=λJ e=>by simp only[SS,Th,or_false,not_or]at J;exact Z.extBut _ _ J.1<|a7 O u J.1 J.2.2.1 J.2.2.2.1 J.2.2.2.2 e
  have I1:Inv X pins σ (upd H s.heap.objs.size<|.tup [xs[i],ys[i]]) {s with heap:=g2,toks:=s.toks}:=
   I.O3 (fp:=[z,TI,TO,i1,i2]) kk hf (SN _) ⟨by show 2<=eK;decide,[u1,u2],.cons b5<|.cons b7 .nil,⟨_,bf,rfl,_,rfl⟩⟩
  have bi:H s.heap.objs.size=cI:=I.fresh;refine⟨.ref s.heap.objs.size,_,I1,rfl,⟨_,_,_,rfl,bi,rfl,λc4 ap=>by rw[I.OV ap ac];exact hx,λc6 ap=>by rw[I.OV ap ad];exact hy⟩,?_,λO J=>?_⟩
  ·exact⟨OG,Z.extBut _ _ D.TIz<|a7 _ _ D.TIz D.TITO D.TIi1 D.TIi2 Q,⟨_,_,Z.extBut _ _ D.TOz a2⟩,a3.at λo e=>Z.extBut _ _ D.i1z e,a4.at λo e=>Z.extBut _ _ D.i2z e⟩
  ·have bl:O≠s.heap.objs.size:=by
    simp only[SS,Th,or_false]at J;rcases J with rfl|rfl|rfl|rfl|rfl
    ·exact(lt hz).symm
    ·exact(lt Q).symm
    ·exact(lt U).symm
    ·obtain⟨o,e,_⟩:=h1.obj;exact(lt e).symm
    ·obtain⟨o,e,_⟩:=Y.obj;exact(lt e).symm
   rw[zE bl];exact(hf O J).1
 done:=by
  rintro X hP hw hK hc i pins s σ H E I hf ⟨hz,Q,⟨c,d,U⟩,h1,Y⟩ ⟨xs,ys,ac,ad,hi⟩;subst hP hw hK;obtain⟨b2,am,p1,z1⟩:=I.sq ac;obtain⟨b3,ao,p2,z2⟩:=I.sq ad;have hT:s.TypeIs (.ref z) "zip":=⟨_,hz,rfl⟩;have l1:=am.length;have l2:=ao.length;unfold uG;refine SE (z3 (TU (name:=Ts "__next__") hT UE (Uk UE hT Hg
   (eH (show X.A.handled=cI from I.ok.hd hc) D hz Q U h1 Y p1 p2 (by rcases hi with q|q;left;simp;lia;right;simp;lia) λg e hk he=>?_) (GK _))))
  obtain⟨o,ho,bv⟩:=he;refine SE (T6 (T:="StopIteration") (b:=cm) ⟨o,ho,bv⟩ R4 (SM ⟨rfl,?_⟩));refine I.um (t':=s.toks) (fp:=[z,TI,TO,i1,i2]) (λO u J e=>?_) hf;simp only[SS,Th,or_false,not_or]at J;exact hk O u J.1 J.2.2.1 J.2.2.2.1 J.2.2.2.2 e
 self:=λ_ _ _ _ _ st h=>_m st.1 h
noncomputable def Sa(K:SD)(j:TA):TI:=λk H R=>j k H λg d=>∃e f a b,g=[.ref a,.ref b]/\(∃h,i4 e K d a h)/\(∃i,i4 f K d b i)/\R (N3 e f K a b) d
theorem Ij{X:Cx}{L J:dv}{S:TA}{p pos:eU}{z:List dv}{x1:Nat}{E:eU}(hg:Gl X "zip")(hm:X.mg "zip" = cI)(ha:PA X [L,J] S)
 (hv:u0 "zip" = bB (.type "zip")) (hs:eA [L,J] X.env=[(cT,dy L X.env),(cT,dy J X.env)]:=by rfl) (M:eA [J] X.env=[(cT,dy J X.env)]:=by rfl):
 PI X (.Tuple z x1 E) (.Call (.Name "zip" p) [L,J] [] pos) (Sa X.K S):=by
 intro j s A H R I h;refine A1 (xU I hg hm hv<|TM (ed (ha pos j s A H _ I h) λus d hZ=>?_) (by rw[hs,M])<|by rw[M];rfl);refine dt λY=>?_;obtain⟨vs,k,O,r1,q1⟩:=hZ;obtain⟨f,g,a,b,e,⟨xs,C⟩,⟨ys,G⟩,q⟩:=q1;subst e;obtain⟨w1,w2,W,N,P⟩:=ud r1;refine Y ?_;subst W;cases N;cases P;refine dt λY=>?_;obtain⟨as,b3,t,z1⟩:=O.sq C;obtain⟨T,b4,u,z2⟩:=O.sq G;refine Y ?_;refine e_ F.called_zip ⋯ (F.typeCall_zip_2 _ _) (F.newCall_zip_2 _ _) (λobj=>F.args_object_init_3 obj _ _) F.entry_zip_new (eG f g a b as.toArray T.toArray) ⟨t,u,?_⟩;have w:(Tr d.heap<|i0 f a).objs.size=_:=TH ..;have x:(Tr (Tr d.heap<|i0 f a)<|i0 g b).objs.size=d.heap.objs.size+2:=by rw[TH,w]
 have y:(Tr (Tr (Tr d.heap<|i0 f a)<|i0 g b)<|yW (.ref d.heap.objs.size)<|.ref<|d.heap.objs.size+1).objs.size=d.heap.objs.size+3:=by rw[TH,x]
 have y4:(Tr (Tr (Tr (Tr d.heap<|i0 f a)<|i0 g b)<|yW (.ref d.heap.objs.size)<|.ref<|d.heap.objs.size+1)<|yW .none .none).objs.size=d.heap.objs.size+4:=by rw[TH,y]
 have g0:ij f (QK f g d.heap a b) d.heap.objs.size a 0:=(QF f d.heap a).at λo e=>SG _<|SG _<|SG _<|SG _ e;have g1:ij g (QK f g d.heap a b) (d.heap.objs.size+1) b 0:=by have q:=QF g (Tr d.heap<|i0 f a) b;rw[w]at q;exact q.at λo e=>SG _<|SG _<|SG _ e
 have g2:ni (QK f g d.heap a b) (d.heap.objs.size+2) (.ref d.heap.objs.size) (.ref<|d.heap.objs.size+1):=by have q:=SV (Tr (Tr d.heap<|i0 f a)<|i0 g b) (o:=yW (.ref d.heap.objs.size)<|.ref<|d.heap.objs.size+1) rfl;rw[x]at q;exact SG _<|SG _ q
 have g3:ni (QK f g d.heap a b) (d.heap.objs.size+3) .none .none:=by have q:=SV (Tr (Tr (Tr d.heap<|i0 f a)<|i0 g b)<|yW (.ref d.heap.objs.size)<|.ref<|d.heap.objs.size+1) (o:=yW .none .none) rfl;rw[y]at q;exact SG _ q
 have Z:=by have q:=SV (Tr (Tr (Tr (Tr d.heap<|i0 f a)<|i0 g b)<|yW (.ref d.heap.objs.size)<|.ref<|d.heap.objs.size+1)<|yW .none .none) (o:=Mf (d.heap.objs.size+2)<|d.heap.objs.size+3) rfl;rw[y4]at q;exact q
 refine⟨⟨_,Z,rfl⟩,_m Z ?_⟩;have B:Inv X j A k {d with heap:=QK f g d.heap a b,toks:=d.toks}:=O.kept (λc o e=>
  SG _ (SG _<|SG _<|SG _<|SG _ e))
 have Q:=λm=>Tc<|Ti t.lt<|Tv _ m;have U:=λm=>Tc<|Ti u.lt<|Tv _ m;have i m n:m≠n->(d.heap.objs.size+m)≠d.heap.objs.size+n:=λh=>by lia
 refine⟨_,[d.heap.objs.size+4,d.heap.objs.size+2,d.heap.objs.size+3,d.heap.objs.size,d.heap.objs.size+1],_,_,k,rfl,B,zd3 f g ⟨i 2 4 ⋯,i 3 4 ⋯,i 0 4 ⋯,i 1 4 ⋯,i 2 3 ⋯,i 2 0 ⋯,i 2 1 ⋯,i 3 0 ⋯,i 3 1 ⋯,i 0 1 ⋯,
  Q 4,Q 3,Q 0,Q 1,U 4,U 3,U 0,U 1⟩,⟨Z,g2,⟨_,_,g3⟩,g0,g1⟩,λc r=>?_,q⟩
 have l:d.heap.objs.size<=c:=by
  simp only[SS,Th,or_false]at r;rcases r with rfl|rfl|rfl|rfl|rfl
  ·exact Tv _ _
  ·exact Tv _ _
  ·exact Tv _ _
  ·exact SN _
  ·exact Tv _ _
 exact O.ug l<|O.eI.fresh l
noncomputable def U7(k:Sk)(K:SD)(a:dj):It:=match k with
 |.L=>U8 K a
 |.T=>U9 K a
noncomputable def Sd(K:SD)(e:TE):TI:=λf H R=>e f H λx b=>∃a k,x=.ref a/\(∃d,i4 k K b a d)/\R (U7 k K a) b
theorem oW(Q:PE X l tl):PI X tg l (Sd X.K tl):=by
 intro d s n H R I h;refine ed (Q d s n H _ I h) λv m U=>?_;obtain⟨x,f,J,Y,Z⟩:=U;obtain⟨a,k,e,⟨u,i⟩,q⟩:=Z;subst e;cases Y;have O:∀b ∈ [m.heap.objs.size],Jt X d f b:=λb g=>by
  have e:=by simpa using g
  subst e;exact J.ug (SN _)<|J.eI.fresh<|SN _
 obtain⟨j,t,p,r⟩:=J.sq i;cases k with
 |L=>exact _j p ⟨_,_,_,_,f,rfl,J.kept λb o e=>SG _ e,mZ a _,⟨_,SV _ rfl,rfl,rfl⟩,O,q⟩
 |T=>exact P9 p ⟨_,_,_,_,f,rfl,J.kept λb o e=>SG _ e,iz a _,⟨_,SV _ rfl,rfl,rfl⟩,O,q⟩
end L2
namespace DL
open PySem PySem.Spec PyProof.Rows L2
noncomputable def iq(I:dj)(b:Bool)(TI TO:dj):l6:={cls:=.type "zip",dict:=cI,data:=.fields #[rawInt I,.bool b,.bool cT,.ref TI,.ref TO],slots:=#[]}
section
variable{prog:gg}{w:fA}{A:kb}{E:EQ}{s:ea}
theorem Wo{z I TI TO:dj}{b:Bool}{O:l6}{Q:Bool->ea->Prop}(hz:s.heap.get? z=bB (iq I b TI TO))(e:s.heap.get? I=bB O)
 (J:∀h',h'.get? z=bB (iq I cm TI TO)->wV z s.heap h'->Q cT {s with heap:=h'}):wpAny (d8 prog w) A (UA<|.ref z) Q E s:=by
 unfold UA;refine SE<|TX hz rfl rfl ?_;show wpAny _ _ (_ >>= _) _ _ _;rw[P7];refine SE<|PySem.W.kdx_alive e ?_;refine SE<|TX hz rfl (x:=.bool b) rfl ?_;cases b with
 |true=>
  rw[DY ⋯];exact SM<|J _ hz ⟨rfl,λ_ _=>rfl⟩
 |false=>
  rw[DJ ⋯];exact SE<|Ux hz ⋯ λg U a=>SM<|J g U a
theorem mQ{k1 k2:Sk}{z TI TO j H O L M:dj}{b:Bool}{oa:l6}{S X:Nat}{xs ys:Array dn}{x y:dn}{Q:EQ}(D:uY z TI TO j H O L)
 (hz:s.heap.get? z=bB (iq M b TI TO)) (ha:s.heap.get? M=bB oa) (a3:ni s.heap TI (.ref j) (.ref H))
 (h1:ij k1 s.heap j O S) (h2:ij k2 s.heap H L X) (a5:lK k1 s.heap O xs) (a6:lK k2 s.heap L ys) (hx:xs[S]? = bB x) (hy:ys[X]? = bB y)
 (hQ:∀h',h'.get? z=bB (iq M cm TI TO)->ij k1 h' j O (S+1)->ij k2 h' H L (X+1)->ni h' s.heap.objs.size x y->h'.objs.size=s.heap.objs.size+1->
   (∀c o,c≠z->c≠j->c≠H->s.heap.get? c=bB o->h'.get? c=bB o)->Q (.ref s.heap.objs.size) {s with heap:=h'}):
 wpAny (d8 prog w) A (pa.«zip.__next__» ⟨[.ref z],[]⟩) (λac s'=>∃v,ac=.done (.ret v)/\Q v s') E s:=by
 refine SE (m:=field (.ref z) 2)<|TX hz rfl (x:=.bool cT) rfl ?_;refine SE<|TX hz rfl rfl ?_;refine SE<|UM a3 rfl ?_;refine SE<|Wo hz ha λg1 ad I=>?_;simp only[UC,if_false];simp only[show _=_ from rfl,Y'];simp only[M1,R8];refine SE<|SE<|SE ?_;refine SE<|kO (h1.at λo e=>I.extBut _ _ D.i1z e) (a5.at λo e=>I.extBut _ _ D.l1z e) hx λg2 a J=>SM ?_;refine SM<|SE<|SE<|tx ?_;refine SE<|kO (h2.at λo e=>J.extBut _ _ D.i12.symm<|I.extBut _ _ D.i2z e) (a6.at λo e=>J.extBut _ _ D.l2i1<|I.extBut _ _ D.l2z e) hy λU d Y=>SM ?_;refine SM<|SM ?_;have hsz:U.objs.size=s.heap.objs.size:=by rw[Y.1,J.1,I.1]
 refine SE (M7 (hsz:=by show 2<=eK;decide) ?_);refine SM ⟨_,rfl,?_⟩;rw[hsz];have Z c o:U.get? c=bB o->(U.push {cls:=.type "tuple",data:=.seq #[x,y]}).get? c=bB o:=λe=>SG _ e;refine hQ _ (Z _ _ (Y.extBut _ _ D.i2z.symm (J.extBut _ _ D.i1z.symm ad))) ((a.at λo e=>Z _ o (Y.extBut _ _ D.i12 e))) (d.at (Z _)) ?_ ?_ λc o f g h e=>Z c o (Y.extBut _ _ h (J.extBut _ _ g (I.extBut _ _ f e)))
 ·have:=SV U (o:={cls:=.type "tuple",data:=.seq #[x,y]}) rfl
  rw[hsz]at this;exact this
 ·rw[TH,hsz]
theorem zdB{k1 k2:Sk}{z TI TO j H O L U:dj}{b:Bool}{oa:l6}{M Y:Nat}{xs ys:Array dn}{Q:Fin->ea->Prop}(Z:A.handled=cI)(D:uY z TI TO j H O L)
 (hz:s.heap.get? z=bB (iq U b TI TO)) (ha:s.heap.get? U=bB oa) (a3:ni s.heap TI (.ref j) (.ref H))
 (X:ij k1 s.heap j O M) (h2:ij k2 s.heap H L Y) (S:lK k1 s.heap O xs) (a5:lK k2 s.heap L ys) (a8:xs[M]? = cI\/ys[Y]? = cI)
 (hE:∀h' e,(∀c o,c≠z->c≠j->c≠H->s.heap.get? c=bB o->h'.get? c=bB o)->(∃o,h'.get? e=bB o/\o.cls=.type "StopIteration")->E (.ref e) {s with heap:=h'}):
 wpAny (d8 prog w) A (pa.«zip.__next__» ⟨[.ref z],[]⟩) Q E s:=by
 refine SE (m:=field (.ref z) 2)<|TX hz rfl (x:=.bool cT) rfl ?_;refine SE<|TX hz rfl rfl ?_;refine SE<|UM a3 rfl ?_;refine SE<|Wo hz ha λg1 i I=>?_;simp only[UC,if_false];simp only[show _=_ from rfl,Y'];simp only[M1,R8];refine SE<|SE<|SE ?_;cases hx:xs[M]? with
 |none=>
  exact SE<|Jb Z (X.at λo e=>I.extBut _ _ D.i1z e) (S.at λo e=>I.extBut _ _ D.l1z e) hx λg2 e J f=>hE g2 e (λc o a d _ q=>J _ _ d<|I.extBut _ _ a q) f
 |some x=>
  refine SE<|kO (X.at λo e=>I.extBut _ _ D.i1z e) (S.at λo e=>I.extBut _ _ D.l1z e) hx λg2 ad J=>SM ?_;exact SM<|SE<|SE<|tx<|SE<|Jb Z (h2.at λo e=>J.extBut _ _ D.i12.symm<|I.extBut _ _ D.i2z e) (a5.at λo e=>J.extBut _ _ D.l2i1<|I.extBut _ _ D.l2z e) ⋯ λg3 e g f=>hE g3 e (λc o a d h q=>g _ _ h<|J.extBut _ _ d<|I.extBut _ _ a q) f
end
end DL
namespace L2
open PySem PySem.Spec PyProof.Rows
section
variable{κ:Type} [DecidableEq κ]
noncomputable def eM(e:List (κ×V))(k:κ):Option V:=(e.find? λa=>decide<|a.1=k).map (·.2)
noncomputable def mO(e:List (κ×V))(k:κ)(v:V):List (κ×V):=
 if (e.any λa=>decide<|a.1=k)=cm then e.map (λa=>if a.1=k then (a.1,v)else a)else e++[(k,v)]
theorem Y6{p:κ×V}{r:List (κ×V)}{k:κ}(e:p.1=k):eM (p::r) k=bB p.2:=by simp[eM,zt,e]
theorem eJ{p:κ×V}{r:List (κ×V)}{k:κ}(e:¬p.1=k):eM (p::r) k=eM r k:=by simp[eM,zt,e]
theorem Kp(e:List (κ×V))(k:κ)(v:V):(mO e k v).length<=e.length+1:=by
 unfold mO;split
 ·rw[Ta];lia
 ·simp only[Tt,TQ,F3];lia
theorem p9.l_(r:p9 o u):o.isSome=u.isSome:=by
 cases o with
 |none=>cases u with
  |none=>rfl
  |some _=>exact(r).elim
 |some _=>cases u with
  |none=>exact(r).elim
  |some _=>rfl
theorem KV.val{j:List (κ×V)}{vs:List (κ×dn)}(r:KV j vs)(k:κ):p9 (eM j k) (FX vs k):=by
 unfold KV at r
 induction r with
 |nil=>exact tI
 | @cons p q d I h t O=>
  obtain⟨a,Q⟩:=h;by_cases e:p.1=k
  ·have J:=a.symm.trans e
   have b:FX (q::I) k=bB q.2:=by simp[FX,zt,J]
   rw[Y6 e,b];exact Q
  ·have J:¬q.1=k:=λz=>e (a.trans z)
   have b:FX (q::I) k=FX I k:=by simp[FX,zt,J]
   rw[eJ e,b];exact O
theorem KV.any(r:KV l9 vs)(k:κ):(l9.any λe=>decide<|e.1=k)=vs.any λe=>decide (e.1=k):=by
 unfold KV at r
 induction r with
 |nil=>rfl
 |cons h t I=>simp only[S3,S3,I,h.1]
theorem KV.X?(r:KV l9 vs)(k:κ)(J:RelV y u):
 KV (l9.map λe=>if e.1=k then (e.1,y)else e) (vs.map λe=>if e.1=k then (e.1,u)else e):=by
 unfold KV at r ⊢
 induction r with
 |nil=>exact .nil
 |@cons p q a O h t I=>
  refine .cons ?_ I;lia
theorem KV.put(r:KV l9 vs)(k:κ)(I:RelV y u):KV (mO l9 k y) (stored vs k u):=by
 unfold mO stored;rw[r.any k];by_cases e:(vs.any λa=>decide<|a.1=k)=cm
 ·rw[DJ e,DJ e];exact r.X? k I
 ·rw[DY e,DY e];exact Paired.snoc r ⟨rfl,I⟩
theorem KV.length(r:KV l9 vs):l9.length=vs.length:=Paired.length r
end
theorem AC(r:RelV (kV k) u):(kf P w).is k u=cm:=by
 cases k with
 |inl i=>obtain⟨t,e⟩:=(r);subst e;exact de P w i t
 |inr x=>obtain⟨t,e⟩:=(r);subst e;exact dc P w x t
theorem aF:∀{e:List Key} {j:List dn},ez (e.map kV) j->ItemsAre (kf P w) e j
 |[],_,r=>by rw[R6]at r;cases r;exact .nil
 |k::e,_,r=>by
  rw[Tw]at r;cases r with
  |cons h t=>exact .cons (AC h)<|aF t
abbrev KT(H:Hp):List (List Key×V)->List (List Key×dj×dn)->Prop:=Paired λp q=>p.1=q.1/\H q.2.1=bB (.tup (p.1.map kV))/\RelV p.2 q.2.2
theorem KT.val{H:Hp}{j:List (List Key×V)}{xs:List (List Key×dj×dn)}(r:KT H j xs)(k:List Key):p9 (eM j k) ((D5 xs k).map (·.2)):=by
 induction r with
 |nil=>exact tI
 | @cons p q d I h t O=>
  obtain⟨a,_,Q⟩:=h;by_cases e:p.1=k
  ·have J:=a.symm.trans e
   have b:D5 (q::I) k=bB q.2:=by simp[D5,zt,J]
   rw[Y6 e,b];exact Q
  ·have J:¬q.1=k:=λz=>e (a.trans z)
   have b:D5 (q::I) k=D5 I k:=by simp[D5,zt,J]
   rw[eJ e,b];exact O
section
variable{P:gg}{w:fA}{H:Hp}{h:eL}{a:dj}
theorem HF(ok:k3 P w H h)(e:Rd H a u):n5 P w H h a u:=e.ok ok
theorem sd(ok:k3 P w H h)(e:Rd H a (.dK l9)):l9.length<=eK/\(a==uJ)=cT/\∃vs,KV l9 vs/\h.DictOf (kf P w) a vs:=
 HF ok e
theorem Ow(ok:k3 P w H h)(e:H a=bB (.dK l9)):l9.length<=eK/\(a==uJ)=cT/\∃vs,KV l9 vs/\h.DictOf (kf P w) a vs:=sd ok<|.inl e
theorem rf(ok:k3 P w H h)(e:H a=bB (.tup<|ks.map kV)):(D_<|kf P w).is h ks a:=by obtain⟨_,b,r,o,d,I,n,J⟩:=(ok a _ e);exact⟨o,b.toArray,n,d,(Prod.mk.inj I).1,J,by simpa using aF r⟩
theorem FJ(ok:k3 P w H h)(e:Rd H a (.dT l9)):l9.length<=eK/\(a==uJ)=cT/\
 ∃xs,KT H l9 xs/\h.DictOfH (D_<|kf P w) a xs:=by
 refine dt λO=>?_;obtain⟨z,y,xs,r,o,d,b,f,Q,U,Y,Z⟩:=(HF ok e);refine O ?_;refine⟨z,y,xs,r,o,d,b,f,Q,U,Y,λx I=>?_,Z⟩;have all:∀{l:List _} {m:List _},KT H l m->∀x∈m,(D_<|kf P w).is h x.1 x.2.1:=by
  intro l m q
  induction q with
  |nil=>intro x I;exact nomatch I
  | @cons p q i j J t g=>
   intro x I;rcases SS.mp I with e|I
   ·subst e
    exact rf ok (by rw[<-J.1];exact J.2.1)
   ·exact g x I
 exact all r x I
end
noncomputable def Md(H:Hp)(a:dj)(y:V)(r:Option V):Prop:=
 (∃d k,Rd H a (.dK d)/\y=kV k/\r=eM d k)\/∃d k b,Rd H a (.dT d)/\y=.ref b/\H b=bB (.tup<|k.map kV)/\r=eM d k
section
variable{X:Cx}{pins:TW}{σ:St}{H:Hp}{s:ea}{a:dj}{y v:V}{u:dn}{o:Option V}{A:kb}{E:EQ}
theorem Inv.big(I:Inv X pins σ H s):uJ<s.heap.objs.size:=by have h:=(I.mod.glob.keeps I.bk).lt;exact Nat.lt_trans ⋯ h
theorem sg(L:A.units+1<u3)(I:Inv X pins σ H s)(g:Md H a y (bB v))(Z:RelV y u)(h:∀w' j,Inv X pins σ H j->RelV v w'->Q w' j):
 wpAny (d8 X.prog X.w) A (u9 (.ref a) u) Q E s:=by
 rcases g with⟨f,k,e,J,l⟩|⟨f,k,b,e,J,m,l⟩
 ·subst J
  obtain⟨z,n,r,O,U⟩:=sd I.eI e;obtain⟨w',d,Y⟩:=p9.some_of (by rw[l];exact O.val k);exact wpAny_getItem_of (AC Z) U.mapOf d<|h w' _ (I.tok _) Y
 ·subst J
  cases Z;obtain⟨z,n,t,O,U⟩:=FJ I.eI e;obtain⟨w',d,Y⟩:=p9.some_of (by rw[l];exact O.val k);obtain⟨p,o,i⟩:=Option.map_eq_some_iff.mp d;refine wpAny_getItem_heap (zdG L) (rf I.eI m) U o ?_;rw[i];exact h w' _ (I.tok _) Y
theorem Sh(Z:A.units+1<u3)(I:Inv X pins σ H s)(g:Md H a y o)(Y:RelV y u)(h:∀j,Inv X pins σ H j->Q (.bool o.isSome) j):
 wpAny (d8 X.prog X.w) A (m3 .In u<|.ref a) Q E s:=by
 rcases g with⟨f,k,e,J,l⟩|⟨f,k,b,e,J,i,l⟩
 ·subst J
  obtain⟨z,d,m,O,U⟩:=sd I.eI e;refine wpAny_in_of (AC Y) d U.mapOf ?_;rw[<-(O.val k).l_,<-l];exact h _<|I.tok _
 ·subst J
  cases Y;obtain⟨z,d,n,O,U⟩:=FJ I.eI e;refine wpAny_in_heap (zdG Z) (rf I.eI i) d U ?_;have q:=(O.val k).l_;rw[Option.isSome_map]at q;simp only[<-q,<-l];exact h _<|I.tok _
theorem FL(I:Inv X pins σ H s)(J:D1 (H a))(hs:wV a s.heap h')(e:∃q,h'.get? a=bB q)(new:n5 X.prog X.w (upd H a ob) h' a ob):
 Inv X pins σ (upd H a ob) {s with heap:=h',toks:=t'}:=
 I.write J (.inl rfl) (λb q O z=>(hs.2 b O).trans z) e new
theorem Lx(z:l9.length<=eK)(e:(a==uJ)=cT)(I:KV l9 vs)(J:h'.DictOf (kf P w) a vs):
 n5 P w H' h' a (.dK l9):=⟨z,e,vs,I,J⟩
end
noncomputable def Nr(i:dv):Prop:=∀I J,OX i cT I J=operate [I,J] (u9 I J)
theorem nE{prog:gg}{w:fA}{A:kb}{E:EQ}{s:ea}{env:ow}{e I:dv}{pos:eU}{T id:String}{Q:EQ}
 (j:FT (.type T) "__getitem__" = pure (bB (.builtin id))) (hs:Nr I)
 (h:wpAny (d8 prog w) A (dy e env) (λo Y=>wpAny (d8 prog w) A (dy I env) (λi J=>J.TypeIs o T/\wpAny (d8 prog w) A (u9 o i) Q E J) E Y) E s):
 wpAny (d8 prog w) A (dy (.Subscript e I pos) env) Q E s:=by
 refine N4<|rN h (λo Y b=>rN b (λi J O=>?_) λ_ _ x=>x) λ_ _ x=>x;obtain⟨Z,O⟩:=O;unfold subscriptTail;refine SE ?_;rw[getitemInPython_of_ne Z.not_modules];refine SE<|wpAny_specialOf Z j ?_;have U:wpAny (d8 prog w) A (OX I cT o i) (λr a=>wpAny (d8 prog w) A (letTemporaryGo e o r >>= λ_=>pure r) Q E a) E J:=by rw[hs o i];exact wpAny_operating<|rN O (λr a d=>SE<|wpAny_letTemporaryGo<|SM d) λ_ _ x=>x
 first
  |exact SM<|SE U
  |exact SE<|SM<|SE U
  |exact SE U
theorem dN(I:Inv X pins σ H s)(g:Md H a y o):s.TypeIs (.ref a) "dict":=by
 rcases g with⟨d,k,e,_,_⟩|⟨d,k,b,e,_,_,_⟩
 ·obtain⟨_,_,f,_,J⟩:=sd I.eI e
  exact J.typeIs
 ·obtain⟨_,_,h,_,J⟩:=FJ I.eI e
  exact J.typeIs
noncomputable def NG(j ty:TE):TE:=λd H Q=>j d H λx e=>ty d e λy b=>∃a v,x=.ref a/\Md b a y (bB v)/\Q v b
noncomputable def RI(ty j:TE):TE:=λd H Q=>ty d H λy e=>j d e λx b=>∃a o,x=.ref a/\Md b a y o/\Q (.bl o.isSome) b
section
variable{X:Cx}{o i:dv}{pos:eU}{td ty:TE}
theorem EN(O:X.A.units+1<u3)(U:PE X o td)(z:PE X i ty)(hs:Nr i):PE X (.Subscript o i pos) (NG td ty):=by intro b s d H Q I h;refine nE PySem.F.slot_dict_getitem.lookup hs<|ed (U b s d H _ I h) λu r ⟨x,e,Y,Z,m⟩=>ed (z b r d e _ Y m) λt w ⟨y,f,J,p,a,v,l,g,n⟩=>?_;subst l;obtain rfl:u=w8 a:=Z;exact⟨dN J g,sg O J g p λC B j k=>⟨v,f,j,k,n⟩⟩
theorem Iz(J:X.A.units+1<u3)(z:PE X i ty)(O:PE X o td):PC X .In i o (RI ty td):=by intro b s d H Q I h;refine ed (z b s d H _ I h) λt r ⟨y,e,U,Y,Z⟩=>ed (O b r d e _ U Z) λu w ⟨x,f,j,p,a,m,l,g,n⟩=>?_;subst l;obtain rfl:u=w8 a:=p;exact Sh J j g Y λB k=>⟨.bl m.isSome,f,k,rfl,n⟩
end
theorem AX(h:eL)(I:uJ<h.objs.size):n5 P w H (h.push {cls:=.type "dict",data:=.dict #[]}) h.objs.size (.dK []):=
 ⟨Uc _,beq_eq_false_iff_ne.mpr<|Tq<|Tc I,[],.nil,Heap.DictOf.new h⟩
end L2
namespace DL
open PySem PySem.Spec PyProof.Rows L2
noncomputable def Pb:List Str:=["NoPrime","Nought","NoTable","NoWidths","NoRow","Unlike","TooMany","NoTurn","NoLine","Nothing","NoArrow","NoText","NoRoom"]
noncomputable def Ml(K:SD)(c:Str):Option dj:=match C4 K n0 c with
 |some (bB (.ref C))=>bB C
 |_=>cI
noncomputable def RA(K:SD)(C:dj):Bool:=
 ["int","bool","str","tuple","list"].all (λt=>Dd K (.ref C) (.type t)==bB cT)&&Dd K (.ref C) (.type "ValueError")==bB cm&&
 Um K (.ref C) "__getattribute__" == bB (bB (.builtin "BaseException.__getattribute__"))&&Um K (.ref C) "__getattr__" == bB cI&&
 Um K (.ref C) "__class__" == bB (bB (.builtin "object.__class__"))&&PySem.W.mroIn K C (.type "object")==bB cm&&PySem.W.mroIn K C (.type "BaseException")==bB cm&&
 PySem.W.specialIn K (.builtin "object.__class__") "__get__" == bB (bB (.builtin "getset_descriptor.__get__"))&&PySem.W.takesIn K (.builtin "object.__class__")==bB cm&&
 (PySem.W.clsIn K C).any (λI=> !I.hasDel)&&PySem.W.typeIn K (.ref C)==bB (.type "type")
noncomputable def RB(K:SD):Bool:=match Ml K "SplitError" with
 | some S=>Pb.all λc=>match Ml K c with
  |some C=>RA K C&&Dd K (.ref C) (.ref S)==bB cm&&Pb.all λI=>match Ml K I with
   |some J=>Dd K (.ref C) (.ref J)==bB (c==I)
   |none=>cT
  |none=>cT
 |none=>cT
noncomputable def Sn(h:eL)(a:dj)(C:dj):Prop:=∃o b,h.get? a=bB o/\o.cls=.ref C/\o.data=.fields b
structure N8(K:SD)(H:Hp)(c:Str)(n:Option Int)(a:dj):Prop where
 all:RB K=cm
 mem:c∈Pb
 ex:∃C φ,Ml K c=bB C/\H a=bB (.ext φ)/\(∀h,φ h->Sn h a C)/\
  match n with
  |none=>True
  |some i=>∃d,(∀h,φ h->∃o,h.get? a=bB o/\o.dict=bB d)/\H d=bB (.xd [(if c==("NoRoom" : Str)then "room" else "at",.int i)])
theorem N8.mono{K:SD}{H j:Hp}{c:Str}{n:Option Int}{a:dj}(e:∀b o,H b=bB o->j b=bB o)(h:N8 K H c n a):N8 K j c n a:=by
 obtain⟨f,J,C,g,O,g2,Q,I⟩:=h;refine⟨f,J,C,g,O,e _ _ g2,Q,?_⟩;cases n with
 |none=>exact I
 |some i=>obtain⟨d,f1,U⟩:=I;exact⟨d,f1,e _ _ U⟩
abbrev St:=L2.St
noncomputable def IY:D->Option Key
 |.int i=>bB (.inl i)
 |.str x=>bB (.inr x)
 |_=>cI
noncomputable def gD:List D->Option (List Key)
 |[]=>bB []
 |d::ds=>(IY d).bind λk=>(gD ds).map λr=>k::r
noncomputable def Nm(H:Hp)(a:dj)(e:List D)(xs:List V):Prop:=∃b,gD e=bB b/\b.length=xs.length/\∃o,H a=bB (.t6 o<|.dK<|b.zip xs)
noncomputable def Ny(k:List Int):Int:=reduceHash<|Builtin.Tuple.tupleHashOf<|k.map hashInt
noncomputable def Ss(o:l6)(xs:List (List Int×dj×dn)):Prop:=o.ExactDict/\∃a b,o.data=.dict a b/\a.toList=xs.map (λx=>⟨Ny x.1,.ref x.2.1,x.2.2⟩)/\(xs.map (·.1)).Nodup
noncomputable def w?(a:dj)(o:l6):HO:=.ext λh=>h.get? a=bB o
noncomputable def Nn(K:SD)(H:Hp)(a:dj)(e:List (List Int))(ys:List V):Prop:=
 (a==uJ)=cT/\∃o b,H a=bB (w? a o)/\Ss o b/\b.map (·.1)=e/\b.length<=eK/\(∀x∈b,hH K H x.2.1<|x.1.map V.int)/\ez ys (b.map (·.2.2))
mutual
def Rep(K:SD)(H:Hp):D->V->Prop
 |.d9,v=>v=.d9
 |.bl b,v=>v=.bl b
 |.int i,v=>v=.int i
 |.str x,v=>v=.str x
 |.tup ds,v=>∃a d,v=.ref a/\hH K H a d/\dr K H ds d
 |.lst ds,v=>∃a d,v=.ref a/\fy K H a d/\dr K H ds d
 |.lp ks vs,v=>∃a d,v=.ref a/\Nm H a ks d/\dr K H vs d
 |.mr ks vs,v=>∃a d,v=.ref a/\Nn K H a ks d/\dr K H vs d
def dr(K:SD)(H:Hp):List D->List V->Prop
 |[],xs=>xs=[]
 |d::ds,xs=>∃x r,xs=x::r/\Rep K H d x/\dr K H ds r
end
theorem md{K:SD}{H j:Hp}{a:dj}{xs:List V}(e:ft H j)(h:hH K H a xs):hH K j a xs:=by
 rcases h with(h|⟨o,h⟩)|h
 ·exact .inl<|.inl<|e _ _ h
 ·exact .inl<|.inr ⟨o,e _ _ h⟩
 ·exact .inr h
theorem wU{k:Sk}{K:SD}{H j:Hp}{a:dj}{xs:List V}(e:ft H j)(h:i4 k K H a xs):i4 k K j a xs:=by
 cases k
 ·exact e.seq h
 ·exact md e h
mutual
theorem Rep.mono{K:SD}{H j:Hp}(e:ft H j):∀{d:D} {v:V},Rep K H d v->Rep K j d v
 |.d9,_,h=>h
 |.bl _,_,h=>h
 |.int _,_,h=>h
 |.str _,_,h=>h
 |.tup ds,v,h=>by obtain⟨a,b,f,g,I⟩:=(show ∃a b,v=.ref a/\hH K H a b/\dr K H ds b from h);exact(show ∃a b,v=.ref a/\hH K j a b/\dr K j ds b from⟨a,b,f,md e g,dr.mono e I⟩)
 |.lst ds,v,h=>by obtain⟨a,b,f,g,I⟩:=(show ∃a b,v=.ref a/\fy K H a b/\dr K H ds b from h);exact(show ∃a b,v=.ref a/\fy K j a b/\dr K j ds b from⟨a,b,f,e.seq g,dr.mono e I⟩)
 |.lp ks vs,v,h=>by obtain⟨a,b,f,⟨i,J,g2,o,O⟩,I⟩:=(show ∃a b,v=.ref a/\Nm H a ks b/\dr K H vs b from h);exact(show ∃a b,v=.ref a/\Nm j a ks b/\dr K j vs b from⟨a,b,f,⟨i,J,g2,o,e _ _ O⟩,dr.mono e I⟩)
 |.mr ks vs,v,h=>by obtain⟨a,b,f,⟨J,o,k,g2,O,Q,U,g6,Y⟩,I⟩:=(show ∃a b,v=.ref a/\Nn K H a ks b/\dr K H vs b from h);exact(show ∃a b,v=.ref a/\Nn K j a ks b/\dr K j vs b from⟨a,b,f,⟨J,o,k,e _ _ g2,O,Q,U,λx Z=>md e<|g6 x Z,Y⟩,dr.mono e I⟩)
theorem dr.mono{K:SD}{H j:Hp}(e:ft H j):∀{ds:List D} {xs:List V},dr K H ds xs->dr K j ds xs
 |[],_,h=>h
 |d::ds,xs,h=>by obtain⟨x,r,a,b,I⟩:=(show ∃x r,xs=x::r/\Rep K H d x/\dr K H ds r from h);exact(show ∃x r,xs=x::r/\Rep K j d x/\dr K j ds r from⟨x,r,a,Rep.mono e b,dr.mono e I⟩)
end
section
variable{K:SD}{H:Hp}
theorem dr.nil:dr K H [] []:=(show([]:List V)=[]from rfl)
theorem dr.cons(h:Rep K H d x)(t:dr K H ds xs):dr K H (d::ds) (x::xs):=⟨x,xs,rfl,h,t⟩
theorem dr.ro(h:dr K H [] xs):xs=[]:=h
theorem dr.n6(h:dr K H (d::ds) xs):∃x r,xs=x::r/\Rep K H d x/\dr K H ds r:=h
theorem dr.length:∀{ds:List D} {xs:List V},dr K H ds xs->xs.length=ds.length
 |[],xs,h=>by rw[h.ro];rfl
 |d::ds,xs,h=>by obtain⟨x,r,e,_,t⟩:=h.n6;simp only[e,TQ,TQ,dr.length t]
theorem dr.get:∀{ds:List D} {xs:List V} {i:Nat} {d:D},dr K H ds xs->ds[i]? = bB d->∃x,xs[i]? = bB x/\Rep K H d x
 |[],_,_,_,_,e=>by simp at e
 |c::ds,xs,0,d,h,e=>by obtain⟨x,r,a,b,_⟩:=h.n6;simp at e;subst e;exact⟨x,by rw[a];rfl,b⟩
 |c::ds,xs,i+1,d,h,e=>by obtain⟨x,r,a,_,t⟩:=h.n6;obtain⟨y,I,g2⟩:=dr.get t (by simpa using e);exact⟨y,by rw[a];simpa using I,g2⟩
theorem dr.Bi{ds:List D}{xs:List V}{i:Nat}{x:V}(h:dr K H ds xs)(e:xs[i]? = bB x):∃d,ds[i]? = bB d/\Rep K H d x:=by
 have b:i<ds.length:=by rw[<-h.length];exact(nt.mp e).1
 obtain⟨y,a,r⟩:=h.get<|SH b;rw[e]at a;cases a;exact⟨_,SH b,r⟩
theorem dr.append:∀{ds es:List D} {xs ys:List V},dr K H ds xs->dr K H es ys->dr K H (ds++es) (xs++ys)
 |[],_,xs,_,h,g=>by rw[h.ro];exact g
 |d::ds,es,xs,ys,h,g=>by obtain⟨x,r,e,a,t⟩:=h.n6;rw[e];exact dr.cons a<|dr.append t g
theorem dr.drop:∀{ds:List D} {xs:List V} n,dr K H ds xs->dr K H (ds.drop n) (xs.drop n)
 |_,_,0,h=>h
 |[],xs,n+1,h=>by rw[h.ro];exact dr.nil
 |d::ds,xs,n+1,h=>by obtain⟨x,r,e,_,t⟩:=h.n6;rw[e];exact dr.drop n t
theorem dr.take:∀{ds:List D} {xs:List V} n,dr K H ds xs->dr K H (ds.take n) (xs.take n)
 |_,_,0,h=>by rfl
 |[],xs,n+1,h=>by rw[h.ro];exact dr.nil
 |d::ds,xs,n+1,h=>by obtain⟨x,r,e,a,t⟩:=h.n6;rw[e];exact dr.cons a<|dr.take n t
theorem dr.set:∀{ds:List D} {xs:List V} {d:D} {x:V} i,dr K H ds xs->Rep K H d x->dr K H (ds.set i d) (xs.set i x)
 |[],xs,_,_,_,h,_=>by rw[h.ro];rfl
 |c::ds,xs,d,x,0,h,g=>by obtain⟨y,r,e,_,t⟩:=h.n6;rw[e];exact dr.cons g t
 |c::ds,xs,d,x,i+1,h,g=>by obtain⟨y,r,e,a,t⟩:=h.n6;rw[e];exact dr.cons a<|dr.set i t g
end
structure Ext(H0 H sf H':Hp):Prop where
 s0:ft H0 sf
 s1:ft H H'
 sub:ft sf H'
 new:∀a,H0 a=cI->H a≠cI->sf a=cI
theorem Ext.refl(s:ft H0 H):Ext H0 H H0 H:=⟨ft.refl _,ft.refl _,s,λ_ h _=>h⟩
theorem Ext.trans(a:Ext H0 H H1 G1)(b:Ext H1 G1 H2 G2):Ext H0 H H2 G2:=
 ⟨a.s0.trans b.s0,a.s1.trans b.s1,b.sub,λc d I=>b.new c (a.new c d I) (by
  cases q:H c with
  |none=>exact absurd q I
  |some o=>rw[a.s1 c o q];simp)⟩
theorem jj(h:H p=cI)(o:HO):ft H (upd H p o):=λb u q=>by rw[zE (qa q h)];exact q
theorem jd(s:ft H0 H)(h:H p=cI):H0 p=cI:=s.free h
theorem nQ(s:ft H0 H):ft (upd H0 p o) (upd H p o):=λb u q=>by
 by_cases e:b=p
 ·subst e;rw[zC]at q ⊢;exact q
 ·rw[zE e]at q ⊢;exact s b u q
theorem Ext.alloc(s:ft H0 H)(h:H p=cI)(o:HO):Ext H0 H (upd H0 p o) (upd H p o):=
 ⟨jj (jd s h) o,jj h o,nQ s,λa b I=>by rw[zE (λe=>I<|by rw[e];exact h)];exact b⟩
theorem Ext.hide(s:ft H0 H)(h:H p=cI)(o:HO):Ext H0 H H0 (upd H p o):=
 ⟨ft.refl _,jj h o,s.trans<|jj h o,λa b _=>b⟩
theorem Ext.show(e:Ext H0 H sf H')(j:H a=cI)(J:sf a=cI)(O:H' a=bB o)(s:ft H0 H):Ext H0 H (upd sf a o) H':=
 ⟨e.s0.trans<|jj J o,e.s1,λb u q=>by
  by_cases z:b=a
  ·subst z;rw[zC]at q;rw[O];exact q
  ·rw[zE z]at q;exact e.sub b u q,λb Q I=>by
  rw[zE (λz=>I<|by rw[z];exact j)];exact e.new b Q I⟩
structure uc(K:SD)(H0 H:Hp)(rows:List (List D))(a:dj)(bs:List dj):Prop where
 a0:H0 a=cI
 ha:H a=bB (.lst<|bs.map V.ref)
 nd:(a::bs).Nodup
 len:bs.length=rows.length
 row:∀(k:Nat) b row,bs[k]? = bB b->rows[k]? = bB row->H0 b=cI/\∃xs,H b=bB (.lst xs)/\dr K H0 row xs
theorem uc.at{K:SD}{j H:Hp}{e:List (List D)}{a:dj}{bs:List dj}(n:uc K j H e a bs){b:dj}(I:b∈a::bs):j b=cI/\∃xs,H b=bB (.lst xs):=by
 rcases SS.mp I with rfl|I
 ·exact⟨n.a0,_,n.ha⟩
 ·obtain⟨k,J⟩:=_e I
  have O:=(nt.mp J).1;rw[n.len]at O;obtain⟨d,xs,Q,_⟩:=n.row k b _ J<|SH O;exact⟨d,xs,Q⟩
theorem uc.move{K:SD}{E H j z:Hp}{e:List (List D)}{a:dj}{bs:List dj}(n:uc K E H e a bs)(s:ft E j)(L:∀b∈a::bs,j b=cI)(h:∀b∈a::bs,z b=H b):uc K j z e a bs:=
 ⟨L a SO,by rw[h a SO];exact n.ha,n.nd,n.len,λk b row I O=>by obtain⟨_,d,Q,U⟩:=n.row k b row I O;have J:b∈a::bs:=SQ _<|TN I;exact⟨L b J,d,by rw[h b J];exact Q,U.mono s⟩⟩
noncomputable def oz(K:SD)(z H:Hp)(e:St)(γ:Ctx):Prop:=
 (∀(i:Nat) b,γ[i]? = bB (.nest b)->∃a bs,e[i]? = bB (bB (.ref a))/\uc K z H b a bs/\∀(j:Nat) d c,γ[j]? = bB (.own d)->e[j]? = bB (bB (.ref c))->c∉a::bs)/\
 ∀(i j:Nat) I f,γ[i]? = bB (.nest I)->γ[j]? = bB (.nest f)->i=j
theorem oz.B5{K:SD}{E H:Hp}{J:St}{γ:Ctx}(h:∀(i:Nat) z,γ[i]? ≠ bB (.nest z)):oz K E H J γ:=⟨λi z e=>absurd e<|h i z,λi j I a e=>absurd e<|h i I⟩
theorem oz.move{K:SD}{M H E S:Hp}{L:St}{γ:Ctx}(n:oz K M H L γ)(s:ft M E)(h:∀(i:Nat) z a bs,γ[i]? = bB (.nest z)->L[i]? = bB (bB (.ref a))->uc K M H z a bs->(∀(j:Nat) ds c,γ[j]? = bB (.own ds)->L[j]? = bB (bB (.ref c))->c∉a::bs)->∀b∈a::bs,E b=cI/\S b=H b):oz K E S L γ:=
 ⟨λi z e=>by obtain⟨a,bs,d,I,J⟩:=n.1 i z e;exact⟨a,bs,d,I.move s (λb O=>(h i z a bs e d I J b O).1)<|λb O=>(h i z a bs e d I J b O).2,J⟩,n.2⟩
theorem oz.ext{K:SD}{E H j z:Hp}{L:St}{γ:Ctx}(n:oz K E H L γ)(e:Ext E H j z):oz K j z L γ:=
 n.move e.s0 λi d a bs _ _ I _ b J=>by obtain⟨O,f,g2⟩:=I.at J;exact⟨e.new b O ⋯,by rw[e.s1 b _ g2,g2]⟩
structure RC(K:SD)(H0 H:Hp)(σ:St)(γ:Ctx):Prop where
 sub:ft H0 H
 len:σ.length=γ.length
 val:∀(i:Nat) d,γ[i]? = bB (.val d)->∃v,σ[i]? = bB (bB v)/\Rep K H0 d v
 own:∀(i:Nat) ds,γ[i]? = bB (.own ds)->∃a xs,σ[i]? = bB (bB (.ref a))/\H0 a=cI/\H a=bB (.lst xs)/\dr K H0 ds xs
 ne:∀(i j:Nat) a ds es,γ[i]? = bB (.own ds)->γ[j]? = bB (.own es)->σ[i]? = bB (bB (.ref a))->σ[j]? = bB (bB (.ref a))->i=j
 m9:oz K H0 H σ γ
theorem RC.ext{K:SD}{E H j z:Hp}{L:St}{γ:Ctx}(r:RC K E H L γ)(e:Ext E H j z):RC K j z L γ:=
 ⟨e.sub,r.len,λi d h=>let ⟨v,b,I⟩:=r.val i d h;⟨v,b,I.mono e.s0⟩,
  λi f h=>let ⟨a,g,b,I,J,O⟩:=r.own i f h;⟨a,g,b,e.new a I ⋯,e.s1 _ _ J,O.mono e.s0⟩,r.ne,r.m9.ext e⟩
noncomputable def tV(K:SD)(f:CO D):TE:=λh H Q=>∃e g d,RC K e H h g/\f g=bB d/\∀v b a,Ext e H a b->Rep K a d v->Q v b
noncomputable def zdy(K:SD)(f:CO (Sk×List D)):TE:=λj H Q=>∃g i k h,RC K g H j i/\f i=bB (k,h)/\∀a e d b,Ext g H b d->i4 k K d a e->(k=.T->hH K b a e)->dr K b h e->Q (.ref a) d
noncomputable def tO(K:SD)(f:CO (List D)):TE:=λj H Q=>∃e i g,RC K e H j i/\f i=bB g/\
 ∀a h d b,Ext e H b d->H a=cI->b a=cI->d a=bB (.lst h)->dr K b g h->Q (.ref a) d
noncomputable def tT(K:SD)(f:CO Bool):TT:=λh H Q=>∃e g b,RC K e H h g/\f g=bB b/\∀d a,Ext e H a d->Q b d
noncomputable def tA(K:SD)(f:CO (List D)):TA:=λi H Q=>∃d h e,RC K d H i h/\f h=bB e/\∀g b a,Ext d H a b->dr K a e g->Q g b
abbrev PV(X:Cx)(e:dv)(f:CO D):Prop:=PE X e (tV X.K f)
abbrev PQ(X:Cx)(e:dv)(f:CO (Sk×List D)):Prop:=PE X e (zdy X.K f)
abbrev PO(X:Cx)(e:dv)(f:CO (List D)):Prop:=PE X e (tO X.K f)
abbrev k4(X:Cx)(e:dv)(f:CO Bool):Prop:=PT X e (tT X.K f)
abbrev A5(X:Cx)(e:dv)(f:CO Bool):Prop:=PW X e (tT X.K f)
abbrev uU(X:Cx)(es:List dv)(f:CO (List D)):Prop:=PA X es (tA X.K f)
theorem jK(h:PE X e t)(i:∀j H Q,t' j H Q->t j H Q):PE X e t':=λa s j H Q I q=>h a s j H Q I<|i j H Q q
theorem X6(h:PT X e t)(i:∀j H Q,t' j H Q->t j H Q):PT X e t':=λa s j H Q I q=>h a s j H Q I<|i j H Q q
theorem Et(h:PW X e t)(i:∀j H Q,t' j H Q->t j H Q):PW X e t':=λJ a s j H Q I q=>h J a s j H Q I<|i j H Q q
theorem IA(h:PA X es t)(i:∀e H Q,t' e H Q->t e H Q):PA X es t':=λpos a s e H Q I q=>h pos a s e H Q I<|i e H Q q
theorem xS{X:Cx}{st:hB}{t t':TS}(h:PS X st t)(i:∀D e H,t' D e H->t D e H):PS X st t':=λa s e H D I q=>h a s e H D I<|i D e H q
theorem BJ{X:Cx}{st:List hB}{t t':TS}(h:mm X st t)(i:∀D e H,t' D e H->t D e H):mm X st t':=λa s e H D I q=>h a s e H D I<|i D e H q
theorem Yc(h:PI X tg e t)(i:∀j H R,t' j H R->t j H R):PI X tg e t':=λa s j H R I q=>h a s j H R I<|i j H R q
theorem y9(h:n<=lim):n<=eK:=Tf h ⋯
section
variable{X:Cx}{e a b c:dv}{pos:eU}
theorem PV.q(h:PV X e f):PQ X e (zJ f):=jK h λs H Q Y=>by
 obtain⟨o,n,k,m,p,I,q⟩:=Y;unfold zJ at I;cases e1:f n with
 |none=>grind
 | some d=>
  rw[e1]at I;refine⟨o,n,d,p,e1,λv l b ext r=>?_⟩;cases d with
  |tup i=>
   obtain⟨J,O⟩:k=.T/\m=i:=by simp[j6]at I;exact⟨I.1.symm,I.2.symm⟩
   subst J O;obtain⟨a,j,rfl,g,U⟩:=(r);exact q a j l b ext (md ext.sub g) (λ_=>g) U
  |lst i=>
   obtain⟨J,O⟩:k=.L/\m=i:=by simp[j6]at I;exact⟨I.1.symm,I.2.symm⟩
   subst J O;obtain⟨a,j,rfl,g,U⟩:=(r);exact q a j l b ext (ext.sub.seq g) (λz=>nomatch z) U
  |_=>simp[j6]at I
theorem PO.v(h:PO X e f):PV X e (j5 f):=jK h λo H Q O=>by
 obtain⟨i,g,d,b,I,q⟩:=O;unfold j5 at I;cases e1:f g with
 |none=>grind
 |some k=>
  rw[e1]at I;cases I;exact⟨i,g,k,b,e1,λa m n j ext l J U r=>q _ _ _ (ext.show l J U b.sub)<|⟨a,m,rfl,fy.of zC,r.mono<|jj J _⟩⟩
theorem PO.q(h:PO X e f):PQ X e (je f):=jK h λp H Q J=>by
 obtain⟨i,d,k,m,j,I,q⟩:=J;unfold je at I;cases e1:f d with
 |none=>grind
 |some n=>
  rw[e1]at I;cases I;exact⟨i,d,_,j,e1,λa l g b ext o U O r=>q a l g b ext (fy.of O) (λz=>nomatch z) r⟩
theorem HK(i:Nat)(h:PE X e (tK i)):PV X e (zf i):=jK h λm H Q J=>by
 obtain⟨f,j,d,a,I,q⟩:=J;unfold zf at I;cases e1:j[i]? with
 |none=>rw[e1]at I;cases I
 | some c=>
  rw[e1]at I;cases c with
  |val k=>
   cases I;obtain⟨v,g,O⟩:=a.val i d e1;exact⟨v,g,q v H f (Ext.refl a.sub) O⟩
  |no=>cases I
  |own l=>cases I
  |nest b=>cases I
theorem Ie(i:Nat)(h:PE X e (tK i)):PQ X e (zk i):=jK h λs H Q Z=>by
 obtain⟨j,r,k,l,b,I,q⟩:=Z;unfold zk at I;cases e1:r[i]? with
 |none=>rw[e1]at I;cases I
 | some c=>
  rw[e1]at I;cases c with
  |no=>cases I
  |nest n=>cases I
  |own g=>
   cases I;obtain⟨a,f,m,O,o,p⟩:=b.own i l e1;exact⟨_,m,q a f H j (Ext.refl b.sub) (fy.of o) (λz=>nomatch z) p⟩
  | val d=>
   obtain⟨v,m,O⟩:=b.val i d e1;refine⟨v,m,?_⟩;cases d with
   |tup g=>
    obtain⟨U,Y⟩:k=.T/\l=g:=by simp[Zw,j6]at I;exact⟨I.1.symm,I.2.symm⟩
    subst U Y;obtain⟨a,f,rfl,J,g2⟩:=(O);exact q a f H j (Ext.refl b.sub) (md b.sub J) (λ_=>J) g2
   |lst g=>
    obtain⟨U,Y⟩:k=.L/\l=g:=by simp[Zw,j6]at I;exact⟨I.1.symm,I.2.symm⟩
    subst U Y;obtain⟨a,f,rfl,J,g2⟩:=(O);exact q a f H j (Ext.refl b.sub) (b.sub.seq J) (λz=>nomatch z) g2
   |_=>simp[Zw,j6]at I
theorem Xb(h:PE X e (tC v))(r:∀H,Rep X.K H d v):PV X e (jn d):=jK h λi H Q I=>by obtain⟨a,g,f,b,J,q⟩:=I;cases J;exact q v H a (Ext.refl b.sub)<|r a
theorem zg:PV X (.Constant (.int i) j pos) (sI i):=Xb Iw λ_=>(rfl)
theorem cF:PV X (.Constant (.bool x) j pos) (jn<|.bl x):=Xb ER λ_=>(rfl)
theorem WY:PV X (.Constant .none j pos) (jn .d9):=Xb ph λ_=>(rfl)
theorem zR:PV X (.Constant (.str x) j pos) (jn<|.str x):=Xb Ip λ_=>(rfl)
noncomputable def m6(K:SD)(r:R2)(F:D->D->Option D):Prop:=∀b H x y f I d Q,ft b H->Rep K b f x->Rep K b I y->F f I=bB d->(∀v e a,Ext b H a e->Rep K a d v->Q v e)->r x y H Q
theorem za(h:o.bind f=bB y):∃x,o=bB x/\f x=bB y:=by
 cases o with
 |none=>cases h
 |some x=>exact⟨x,rfl,h⟩
theorem cN{K:SD}{r:R2}{F:D->D->Option D}{z E:CO D}(hs:m6 K r F):∀j H Q,tV K (zD F z E) j H Q->Dy r (tV K z) (tV K E) j H Q:=λj H Q O=>by obtain⟨h,f,d,b,I,q⟩:=O;obtain⟨x,l,I⟩:=za I;obtain⟨y,U,I⟩:=za I;exact⟨h,f,x,b,l,λY t Z e m=>⟨Z,f,y,b.ext e,U,λp i k J n=>hs k i Y p x y d Q J.sub (m.mono J.s0) n I λv g a s o=>q v g a (e.trans<|J.trans s) o⟩⟩
theorem YC(I:h6 X (tF op) r)(hs:m6 X.K r F)(j:PV X a fa)(J:PV X b fb):PV X (.BinOp a op b pos) (zD F fa fb):=
 jK (uW I j J) (cN hs)
theorem YB(I:h6 X (m3 op) r)(hs:m6 X.K r F)(j:PV X a fa)(J:PV X b fb)(O:pk op b=cT):PV X (.Compare a [op] [b] pos) (zD F fa fb):=
 jK (Vu I j J O) (cN hs)
theorem Jr{d:D}{b:Bool}(h:uu d=bB b):d=.bl b:=by cases d<;>simp[uu]at h;rw[h]
theorem X5(J:h6 X (m3 op) r)(hs:m6 X.K r F)(j:PV X a fa)(O:PV X b fb)(U:pk op b=cT):k4 X (.Compare a [op] [b] pos) (sB<|zD F fa fb):=
 X6 (Zq J j O U) λm H Q Y=>by obtain⟨g,l,k,i,I,q⟩:=Y;obtain⟨d,h,I⟩:=za I;refine cN hs m H _ ⟨g,l,d,i,h,λv f e x r=>?_⟩;rw[Jr I]at r;exact⟨k,r,q f e x⟩
theorem jP{f:CO D}(h:PV X e f)(j:∀J,B0 e X.env J=(do let v<-J;y6 e.pos;rn [v] (FI v)):=by intro _;rfl):k4 X e (sB f):=
 X6 (HV h j) λn H Q O=>by obtain⟨g,m,k,l,I,q⟩:=O;obtain⟨d,i,I⟩:=za I;refine⟨g,m,d,l,i,λv b a x r=>?_⟩;rw[Jr I]at r;exact⟨k,r,q b a x⟩
theorem yS(h:k4 X a f):A5 X (.BoolOp .And [a] pos) f:=oC h
theorem Zo(h:k4 X a f):A5 X (.BoolOp .Or [a] pos) f:=BG h
theorem Zp{f g:CO Bool}{k8:List dv}(z:k4 X a f)(J:A5 X (.BoolOp .And (b::k8) pos) g):A5 X (.BoolOp .And (a::b::k8) pos) (QP f g):=
 Et (BH z J) λn H Q O=>by
  obtain⟨i,h,k,e,I,q⟩:=O;obtain⟨c,l,I⟩:=za I;refine⟨i,h,c,e,l,λm d x=>?_⟩;cases c with
  |true=>exact⟨d,h,k,e.ext x,I,λj U Y=>q j U<|x.trans Y⟩
  |false=>grind
theorem XW{f g:CO Bool}{k8:List dv}(z:k4 X a f)(J:A5 X (.BoolOp .Or (b::k8) pos) g):A5 X (.BoolOp .Or (a::b::k8) pos) (tL f g):=
 Et (HJ z J) λn H Q O=>by
  obtain⟨i,h,k,e,I,q⟩:=O;obtain⟨c,l,I⟩:=za I;refine⟨i,h,c,e,l,λm d x=>?_⟩;cases c with
  |true=>grind
  |false=>exact⟨d,h,k,e.ext x,I,λj U Y=>q j U<|x.trans Y⟩
theorem qu(j:k4 X a f):k4 X (.UnaryOp .Not a pos) (kc f):=
 X6 (HW j) λg H Q J=>by
  obtain⟨d,b,k,e,I,q⟩:=J;unfold kc at I;cases e1:f b with
  |none=>grind
  |some c=>rw[e1]at I;cases I;exact⟨d,b,c,e,e1,q⟩
theorem ZO(h:A5 X e f):k4 X e f:=h.pt
theorem XX(h:PV X a f):PV X (.BoolOp op [a] pos) f:=Iq h
theorem X0{f g:CO D}{k8:List dv}(z:PV X a f)(J:PV X (.BoolOp .And (b::k8) pos) g):PV X (.BoolOp .And (a::b::k8) pos) (uz f g):=
 jK (Iy z J) λs H Q O=>by
  obtain⟨l,j,d,i,I,q⟩:=O;obtain⟨c,h,I⟩:=za I;obtain⟨U,Y,h⟩:=za h;refine⟨l,j,U,i,Y,λv k e x r=>?_⟩;rw[Jr h]at r;refine⟨c,r,?_⟩;cases c with
  |true=>exact⟨e,j,d,i.ext x,I,λZ m n p o=>q Z m n (x.trans p) o⟩
  |false=>cases I;exact q _ k e x rfl
theorem HL(j:PV X a f):PV X (.UnaryOp .Not a pos) (NM f):=
 jK (Ir j) λk H Q O=>by
  obtain⟨h,e,d,i,I,q⟩:=O;unfold NM at I;cases e1:f e with
  |none=>grind
  |some J=>
   rw[e1]at I;refine⟨h,e,J,i,e1,λv g b x r=>?_⟩;cases J with
   |bl c=>cases I;exact⟨c,r,q _ g b x rfl⟩
   |_=>cases I
theorem qz(Y:k4 X c k)(z:PV X a f)(Z:PV X b g):PV X (.IfExp c a b pos) (ck k f g):=
 jK (zdY Y z Z) λr H Q o=>by
  obtain⟨m,l,d,j,I,q⟩:=o;obtain⟨t,n,I⟩:=za I;refine⟨m,l,t,j,n,λp e x=>?_⟩;cases t with
  |true=>exact⟨e,l,d,j.ext x,I,λJ h O U i=>q J h O (x.trans U) i⟩
  |false=>exact⟨e,l,d,j.ext x,I,λJ h O U i=>q J h O (x.trans U) i⟩
theorem ET:uU X [] zG:=IA jM λf H Q I=>by obtain⟨a,e,d,b,J,q⟩:=I;cases J;exact q [] H a (Ext.refl b.sub) dr.nil
theorem Ac(z:PV X e f)(U:uU X es g)(hs:eA (e::es) X.env=(cT,dy e X.env)::eA es X.env:=by rfl):uU X (e::es) (zc f g):=
 IA (z9 z U hs) λs H Q Y=>by
  obtain⟨h,a,p,b,I,q⟩:=Y;obtain⟨x,k,I⟩:=za I;cases J:g a with
  |none=>grind
  |some r=>
   rw[J]at I;cases I;exact⟨h,a,x,b,k,λv o Z d l=>⟨Z,a,r,b.ext d,J,λn i j O m=>q (v::n) i j (d.trans O)<|dr.cons (l.mono O.s0) m⟩⟩
theorem jH(h:uU X es f):PV X (.Tuple es j pos) (kH f):=
 jK (Io h) λn H Q U=>by
  obtain⟨e,l,d,i,I,q⟩:=U;obtain⟨a,g,I⟩:=za I;by_cases J:a.length<=lim
  ·rw[DJ J]at I;cases I
   exact⟨e,l,a,i,g,λk m Y j O=>⟨y9 (by rw[O.length];exact J),λp b=>q _ _ _ (j.trans<|Ext.alloc j.sub b _)<|⟨p,k,rfl,hH.of zC,O.mono<|jj (jd j.sub b) _⟩⟩⟩
  ·rw[DY J]at I;cases I
theorem kL(h:uU X es f):PO X (.List es pos) (vx f):=
 jK (Iu h) λn H Q U=>by
  obtain⟨e,l,d,j,I,q⟩:=U;obtain⟨g,i,I⟩:=za I;by_cases J:g.length<=lim
  ·rw[DJ J]at I;cases I
   exact⟨e,l,_,j,i,λk m Y a O=>⟨y9 (by rw[O.length];exact J),λp b=>q p k _ Y (a.trans<|Ext.hide a.sub b _) (by
    cases z:H p with
    |none=>rfl
    |some o=>rw[a.s1 p o z]at b;lia) (jd a.sub b) zC O⟩⟩
  ·rw[DY J]at I;cases I
end
noncomputable def uX(k1 k2:Sk)(z TI TO j E J H:dj)(n:Nat)(h:eL):Prop:=
 (uS h z TI TO .none\/∃I b O,h.get? z=bB (iq I b TI TO)/\h.get? I=bB O)/\ni h TI (.ref j) (.ref E)/\(∃c e,ni h TO c e)/\ij k1 h j J n/\ij k2 h E H n
section
variable{prog:gg}{w:fA}{A:kb}{E:EQ}{s:ea}
theorem GQ{k1 k2:Sk}{z TI TO j H O L:dj}{n:Nat}{xs ys:Array dn}{Q:Option dn->ea->Prop}(hh:A.handled=cI)(D:uY z TI TO j H O L)
 (Z:uX k1 k2 z TI TO j H O L n s.heap) (M:lK k1 s.heap O xs) (S:lK k2 s.heap L ys) (X:xs[n]? = cI\/ys[n]? = cI)
 (hQ:∀h',(∀c o,c ∉ [z,TI,TO,j,H]->s.heap.get? c=bB o->h'.get? c=bB o)->Q cI {s with heap:=h'}):wpAny (d8 prog w) A (uG<|.ref z) Q E s:=by
 obtain⟨a,h,⟨c,e,l⟩,i,k⟩:=Z;unfold uG;rcases a with a|⟨al,b,oa,a,ha⟩
 ·have J:s.TypeIs (.ref z) "zip":=⟨_,a,rfl⟩
  refine SE (z3 (TU J UE (Uk UE J Hg
   (eH hh D a h l i k M S X λg e U f=>?_) (GK _))))
  obtain⟨o,Y,d⟩:=f;refine SE<|T6 ⟨o,Y,d⟩ R4<|SM ?_;refine hQ g λc o I q=>?_;simp only[SS,Th,or_false,not_or]at I;exact U c o I.1 I.2.2.1 I.2.2.2.1 I.2.2.2.2 q
 ·have J:s.TypeIs (.ref z) "zip":=⟨_,a,rfl⟩
  refine SE (z3 (TU J UE (Uk UE J Hg
   (zdB hh D a ha h i k M S X λg e U f=>?_) (GK _))))
  obtain⟨o,Y,d⟩:=f;refine SE<|T6 ⟨o,Y,d⟩ R4<|SM ?_;refine hQ g λc o I q=>?_;simp only[SS,Th,or_false,not_or]at I;exact U c o I.1 I.2.2.2.1 I.2.2.2.2 q
end
noncomputable def uD(e:List (Key×V))(ps:List (Key×V)):List (Key×V):=ps.foldl (λa b=>mO a b.1 b.2) e
theorem v7:entryFor table "dict.update.loop" = bB pa.«dict.update.loop» :=entryFor_of_tree (by kernel_rfl)
theorem vK(args:Args):(Code.builtin "dict.update.loop" args).quiet=cm:=Code.quiet_builtin _ ⋯
noncomputable def qB(ds:List D):List D:=(SF ds.length).map λ(i:Nat)=>D.tup [.int i,ds[i]?.getD .d9]
noncomputable def WN(f:CO D)(γ:Ctx):Option (List D):=(f γ).bind λd=>match d with
 |.tup a=>bB (qB a)
 |_=>cI
noncomputable def du:List D->Option (List Int)
 |[]=>bB []
 |.int i::r=>(du r).map λl=>i::l
 |_::_=>cI
noncomputable def Po(f:CO D)(g:CO (Sk×List D))(γ:Ctx):Option D:=(f γ).bind λd=>(g γ).bind λa=>(l7 d).bind λi=>(du a.2).map λl=>.bl (decide<|i∈l)
noncomputable def Zv(T:Tg)(f:CO (List D))(γ:Ctx):List D->Option (List<|List D)
 |[]=>bB []
 |d::ds=>(qx T d γ).bind λa=>(f a).bind λe=>(Zv T f γ ds).map λr=>e::r
noncomputable def fH(e:CO (List D))(T:Tg)(n:Nat)(j:List Nat)(f:CO (List D))(γ:Ctx):Option (List<|List D):=(e γ).bind λa=>if a.length<=lim then Zv T f (z7 n j γ) a else cI
noncomputable def aG:Cell->Bool
 |.nest _=>cm
 |_=>cT
noncomputable def uw(i:Nat)(f:CO (List<|List D)):CO Fl:=λb=>(f b).bind λa=>if b.any aG=cT then bB (.next<|b.set i<|.nest a)else cI
noncomputable def Xo:Option Cell->Option (List<|List D)
 |some (.nest rows)=>bB rows
 |_=>cI
noncomputable def vq(γ:Ctx)(j i:Nat)(r:List D):Ctx:=(γ.set j .no).set i (.own r)
noncomputable def ku(j i:Nat)(g f:CO D)(γ:Ctx):List (List D)->Option (List<|List D)
 |[]=>bB []
 |r::rs=>(f<|vq γ j i r).bind λd=>((g<|vq γ j i r).bind l7).bind λk=>(g5 r.length k).bind λm=>(ku j i g f γ rs).map λt=>r.set m d::t
noncomputable def cn(j i:Nat)(g f:CO D)(γ:Ctx):Option Fl:=(Xo γ[j]?).bind λa=>if i=j\/γ.length<=i then cI else (ku j i g f γ a).map λI=>.next ((γ.set j<|.nest I).set i .no)
noncomputable def Pp(i:Nat)(F:CO Fl)(γ:Ctx):Option Fl:=(Zx γ[i]?).bind λa=>F<|γ.set i<|.val<|.lst a
noncomputable def Hy(i:Nat)(F:CO Fl)(γ:Ctx):Option Fl:=(Xo γ[i]?).bind λa=>F<|γ.set i<|.val<|.lst<|a.map D.lst
noncomputable def WC:List D->Option (List Str)
 |[]=>bB []
 |.str x::r=>(WC r).map λl=>x::l
 |_::_=>cI
noncomputable def zU(x:Str):Bool:=decide<|x.length<=1000
noncomputable def Zn(f:CO D)(g:CO (Sk×List D))(γ:Ctx):Option D:=(f γ).bind λd=>(g γ).bind λa=>match d,a.1 with
 |.str sep,.L=>(WC a.2).bind λl=>if l.length<=lim/\l.all zU=cm/\zU sep=cm then bB (.str<|r0 sep l)else cI
 |_,_=>cI
noncomputable def xc(f g:CO D)(γ:Ctx):Option D:=(f γ).bind λd=>((g γ).bind l7).bind λi=>match d with
 |.str z=>if zU z=cm then (g5 z.cps.toList.length i).bind λk=>z.cps.toList[k]?.map λc=>.str ⟨#[c]⟩else cI
 |_=>cI
noncomputable def iP(f:CO D)(γ:Ctx):Option D:=(f γ).bind λd=>match d with
 |.str z=>if zU z=cm then bB (.int z.length)else cI
 |_=>cI
noncomputable def iO(f g:CO D)(γ:Ctx):Option D:=((f γ).bind l7).bind λi=>((g γ).bind l7).map λj=>.int (if j<i then j else i)
abbrev Xn:=Str×Option Int
noncomputable def I':CO Xn:=λ_=>cI
noncomputable def Pg(c:Str):CO Xn:=λ_=>bB (c,cI)
noncomputable def H_(k:CO Bool)(G H:CO Xn):CO Xn:=λa=>(k a).bind λb=>if b=cm then G a else H a
noncomputable def Rz(G:CO Xn)(F:CO Fl)(H:CO Xn):CO Xn:=λb=>match G b with
 |some c=>bB c
 |none=>(F b).bind λI=>match I with
  |.next a=>H a
  |_=>cI
noncomputable def Pq(n:Nat)(G:CO Xn)(ds:List D):Option Xn:=G<|zZ n ds
noncomputable def cg(f:CO D)(g:CO (Sk×List D)):CO D:=λb=>(f b).bind λd=>(g b).bind λa=>(l7 d).bind λi=>(du a.2).map λl=>.bl (!decide (i∈l))
end DL
namespace DL
open PySem L2
open PySem.W (KasT kas_sort)
noncomputable def qZ(z:Str):List D:=z.cps.toList.map λc=>D.str ⟨#[c]⟩
noncomputable def Yy(f:CO D)(γ:Ctx):Option (List D):=(f γ).bind λd=>match d with
 |.str z=>if zU z=cm then bB (qZ z)else cI
 |_=>cI
noncomputable def Yz(f:CO D)(γ:Ctx):Option (List D):=(f γ).bind λd=>match d with
 |.str z=>if zU z=cm then bB (qB<|qZ z)else cI
 |_=>cI
noncomputable def J6(f:CO D)(γ:Ctx):Option (List D):=(f γ).bind λd=>match d with
 |.lst a=>bB (qB a)
 |_=>cI
noncomputable def uy(f:CO D)(g:CO (Sk×List D))(γ:Ctx):Option D:=(f γ).bind λd=>(g γ).bind λa=>match d with
 |.str x=>(WC a.2).map λl=>.bl (l.any λy=>y==x)
 |_=>cI
noncomputable def xR(f g:CO D)(γ:Ctx):Option D:=(f γ).bind λd=>(g γ).bind λe=>match d,e with
 |.str x,.str y=>if zU x=cm/\zU y=cm then bB (.str<|x++y)else cI
 |_,_=>cI
noncomputable def mL(f:CO D)(l h:CO (Option Int))(γ:Ctx):Option D:=(f γ).bind λd=>(l γ).bind λlo=>(h γ).bind λa=>match d with
 |.str z=>if zU z=cm then bB (.str<|xb z lo a)else cI
 |_=>cI
noncomputable def Mu(f:CO (Sk×List D))(γ:Ctx):Option (List D):=(f γ).bind λa=>match a.1 with
 |.L=>if a.2.length<=lim then bB a.2.reverse else cI
 |_=>cI
noncomputable def Ab:D->Option (Int×Int)
 |.tup [.int a,.int b]=>bB (a,b)
 |_=>cI
noncomputable def QC:List D->Option (List<|Int×Int)
 |[]=>bB []
 |d::r=>(Ab d).bind λp=>(QC r).map λl=>p::l
noncomputable def Jx(x y:Int×Int):Bool:=if x.1=y.1 then decide (x.2<y.2)else decide (x.1<y.1)
noncomputable def yw{e:Type}(lt:Nat->Nat->Bool):KasT e->e
 |.ret a=>a
 |.ask i j k=>yw lt<|k<|lt i j
noncomputable def qS(ps:List (Int×Int)):List Nat:=if ps.length<2 then SF ps.length else (yw (λi j=>Jx (ps.getD i (0,0))<|ps.getD j (0,0))<|kas_sort ps.length).toList
noncomputable def nH(ds:List D):Option (List D):=(QC ds).bind λa=>if ds.length<64 then bB ((qS a).map λi=>ds.getD i .d9)else cI
noncomputable def fE(f:CO (Sk×List D))(γ:Ctx):Option (List D):=(f γ).bind λa=>match a.1 with
 |.L=>nH a.2
 |_=>cI
end DL
namespace DL
open PySem L2
noncomputable def nZ(i:Nat)(f:CO (List D))(γ:Ctx):Option Fl:=(Zx γ[i]?).bind λa=>(f γ).bind λb=>if a.length+b.length<=lim then bB (.next<|γ.set i<|.own<|a++b)else cI
noncomputable def VR:List D->Option (List Int)
 |[]=>bB []
 |.int i::r=>(VR r).map λl=>i::l
 |_::_=>cI
noncomputable def AZ(ds es:List D):Option D:=match VR ds with
 |some a=>if ds.length=es.length/\a.Nodup/\ds.length<=lim then bB (.lp ds es)else cI
 |none=>cI
noncomputable def gN:List D->List D->Int->Option D
 |k::ks,v::vs,i=>match k with
  |.int j=>if j=i then bB v else gN ks vs i
  |_=>gN ks vs i
 |_,_,_=>cI
open PySem.Spec PyProof.Rows
structure RS(K:SD)(E0 E H0 H:Hp)(σ:St)(γ:Ctx):Prop where
 rc:RC K H0 H σ γ
 ext:Ext E0 E H0 H
 fresh:∀(i:Nat) ds a,γ[i]? = bB (.own ds)->σ[i]? = bB (bB (.ref a))->E a=cI
 sy:∀(i:Nat) rows a xs,γ[i]? = bB (.nest rows)->σ[i]? = bB (bB (.ref a))->H a=bB (.lst xs)->E a=cI/\∀b,V.ref b∈xs->E b=cI
noncomputable def Sat(K:SD)(E0 E:Hp)(D:Ends):Fl->Prop
 |.next f=>∀e H b,RS K E0 E b H e f->D.nx e H
 |.brk f=>∀e H b,RS K E0 E b H e f->D.bk e H
 |.cont f=>∀e H b,RS K E0 E b H e f->D.ct e H
 |.ret (.val d)=>∀v H b,Ext E0 E b H->Rep K b d v->D.rt v H
 |.ret (.own es)=>∀a g H b,Ext E0 E b H->E a=cI->b a=cI->H a=bB (.lst g)->dr K b es g->D.rt (.ref a) H
noncomputable def tS(K:SD)(F:CO Fl):TS:=λD d H=>∃E0 E b a I,RS K E0 E b H d a/\F a=bB I/\Sat K E0 E D I
abbrev i6(X:Cx)(st:hB)(F:CO Fl):Prop:=PS X st (tS X.K F)
abbrev ik(X:Cx)(sts:List hB)(F:CO Fl):Prop:=mm X sts (tS X.K F)
section
variable{K:SD}{E0 E H0 H sf H':Hp}{σ:St}{γ:Ctx}
theorem RS.step(r:RS K E0 E H0 H σ γ)(e:Ext H0 H sf H'):RS K E0 E sf H' σ γ:=⟨r.rc.ext e,r.ext.trans e,r.fresh,λi b a f d I O=>by obtain⟨Q,bs,J,g2,_⟩:=r.rc.m9.1 i b d;rw[I]at J;cases J;have:=e.s1 a _ g2.ha;rw[O]at this;cases this;exact r.sy i b a _ d I g2.ha⟩
theorem zF{z:Type}{l:List z}{i j:Nat}{x y:z}(h:(l.set i x)[j]? = bB y):(j=i/\y=x/\i<l.length)\/(j≠i/\l[j]? = bB y):=by
 by_cases e:i=j
 ·subst e
  by_cases I:i<l.length
  ·rw[Te I]at h;cases h;exact .inl ⟨rfl,rfl,I⟩
  ·rw[List.set_eq_of_length_le ⋯]at h
   exact absurd (nt.mp h).1 I
 ·rw[SK e]at h;exact .inr ⟨Tq e,h⟩
theorem oz.t8{i:Nat}{d:D}{v:V}(n:oz K H0 H σ γ):oz K H0 H (σ.set i<|some v) (γ.set i<|.val d):=
 ⟨λj b e=>by
  rcases zF e with⟨_,z,_⟩|⟨J,z⟩
  ·cases z
  ·obtain⟨a,bs,l,O,Q⟩:=n.1 j b z
   refine⟨a,bs,by rw[SK (Tq J)];exact l,O,λk h c f I=>?_⟩;rcases zF f with⟨_,z,_⟩|⟨U,g⟩
   ·cases z
   ·rw[SK (Tq U)]at I;exact Q k h c g I,
 λj k Y m f I=>by
  rcases zF f with⟨_,z,_⟩|⟨_,g⟩
  ·cases z
  ·rcases zF I with⟨_,z,_⟩|⟨_,o⟩
   ·cases z
   ·exact n.2 j k Y m g o⟩
theorem RC.t8{i:Nat}{d:D}{v:V}(r:RC K H0 H σ γ)(h:Rep K H0 d v):RC K H0 H (σ.set i<|some v) (γ.set i<|.val d):=by
 refine⟨r.sub,by simp[r.len],λj f e=>?_,λj b e=>?_,λj k a b l g Y O Q=>?_,r.m9.t8⟩
 ·rcases zF e with⟨rfl,z,U⟩|⟨I,z⟩
  ·cases z;exact⟨v,Te (by rw[r.len];exact U),h⟩
  ·obtain⟨Z,J,g2⟩:=r.val j f z
   exact⟨Z,by rw[SK (Tq I)];exact J,g2⟩
 ·rcases zF e with⟨rfl,z,U⟩|⟨I,z⟩
  ·cases z
  ·obtain⟨a,n,J,g2⟩:=r.own j b z
   exact⟨a,n,by rw[SK (Tq I)];exact J,g2⟩
 ·rcases zF g with⟨_,z,_⟩|⟨I,o⟩
  ·cases z
  ·rcases zF Y with⟨_,z,_⟩|⟨m,p⟩
   ·cases z
   ·rw[SK (Tq I)]at O
    rw[SK (Tq m)]at Q;exact r.ne j k a b l o p O Q
theorem RS.t8{i:Nat}{d:D}{v:V}(r:RS K E0 E H0 H σ γ)(h:Rep K H0 d v):RS K E0 E H0 H (σ.set i<|some v) (γ.set i<|.val d):=
 ⟨r.rc.t8 h,r.ext,λj f a e I=>by
  rcases zF e with⟨_,z,_⟩|⟨J,z⟩
  ·cases z
  ·rw[SK (Tq J)]at I;exact r.fresh j f a z I,
 λj b a g e I O=>by
  rcases zF e with⟨_,z,_⟩|⟨J,z⟩
  ·cases z
  ·rw[SK (Tq J)]at I;exact r.sy j b a g z I O⟩
theorem y8:∀{I bs:List dj},I.map V.ref=bs.map V.ref->I=bs
 |[],[],_=>rfl
 |[],_::_,h=>by cases h
 |_::_,[],h=>by cases h
 |a::I,b::bs,h=>by injection h with h1 J;injection h1 with h1;rw[h1,y8 J]
theorem RS.Z?{i:Nat}{es:List D}{a:dj}{xs:List V}{L G:Hp}(r:RS K E0 E L G σ γ)(e:Ext L G H0 H)(M:G a=cI)(S:H0 a=cI)(X:H a=bB (.lst xs))(h4:dr K H0 es xs):
 RS K E0 E H0 H (σ.set i<|some (.ref a)) (γ.set i<|.own es):=by
 have f:=r.rc.ext e;have no:∀(j:Nat) h,γ[j]? = _->¬σ[j]? = bB (bB (.ref a)):=λj h g z=>by obtain⟨b,s,I,g2,g3,_⟩:=r.rc.own j h g;lia
 refine⟨⟨f.sub,by simp[f.len],λj t g=>?_,λj h g=>?_,λj k b h fs n Q U Y=>?_,⟨λj d g=>?_,λj k A B I g2=>?_⟩⟩,r.ext.trans e,λj h b I g2=>?_,λj d b xs I g2 g3=>?_⟩
 ·rcases zF g with⟨_,z,_⟩|⟨J,z⟩
  ·cases z
  ·obtain⟨C,I,g2⟩:=f.val j t z
   exact⟨C,by rw[SK (Tq J)];exact I,g2⟩
 ·rcases zF g with⟨rfl,z,O⟩|⟨J,z⟩
  ·cases z;exact⟨a,xs,Te (by rw[f.len];exact O),S,X,h4⟩
  ·obtain⟨b,s,I,g2⟩:=f.own j h z
   exact⟨b,s,by rw[SK (Tq J)];exact I,g2⟩
 ·rcases zF n with⟨rfl,z,O⟩|⟨J,l⟩
  ·rcases zF Q with⟨rfl,_,_⟩|⟨Z,m⟩
   ·rfl
   ·rw[Te (by rw[f.len];exact O)]at U
    rw[SK (Tq Z)]at Y;cases U;exact absurd Y<|no k fs m
  ·rcases zF Q with⟨rfl,z,O⟩|⟨Z,m⟩
   ·rw[Te (by rw[f.len];exact O)]at Y
    rw[SK (Tq J)]at U;cases Y;exact absurd U<|no j h l
   ·rw[SK (Tq J)]at U
    rw[SK (Tq Z)]at Y;exact f.ne j k b h fs l m U Y
 ·rcases zF g with⟨_,z,_⟩|⟨J,z⟩
  ·cases z
  ·refine dt λy=>?_;obtain⟨b,bs,I,g2,g3⟩:=r.rc.m9.1 j d z
   obtain⟨N,p,f1,f2,w⟩:=f.m9.1 j d z;refine y ?_;rw[I]at f1;cases f1;have u:p.map V.ref=bs.map V.ref:=by have:=e.s1 b _ g2.ha;rw[f2.ha]at this;injection this with this;injection this
   have ad:=y8 u;subst ad;refine⟨b,p,by rw[SK (Tq J)];exact I,f2,λk h c n Q=>?_⟩;rcases zF n with⟨rfl,_,O⟩|⟨Z,l⟩
   ·rw[Te (by rw[f.len];exact O)]at Q;cases Q
    intro x;obtain⟨_,F,q⟩:=g2.at x;lia
   ·rw[SK (Tq Z)]at Q;exact w k h c l Q
 ·rcases zF I with⟨_,z,_⟩|⟨_,l⟩
  ·cases z
  ·rcases zF g2 with⟨_,z,_⟩|⟨_,m⟩
   ·cases z
   ·exact f.m9.2 j k A B l m
 ·rcases zF I with⟨rfl,z,O⟩|⟨J,z⟩
  ·rw[Te (by rw[f.len];exact O)]at g2;cases g2
   cases q:E a with
   |none=>rfl
   |some o=>rw[r.ext.s1 a o q]at M;lia
  ·rw[SK (Tq J)]at g2;exact r.fresh j h b z g2
 ·rcases zF I with⟨_,z,_⟩|⟨J,z⟩
  ·cases z
  ·rw[SK (Tq J)]at g2;exact(r.step e).sy j d b xs z g2 g3
theorem RS.rewrite{i:Nat}{ds es:List D}{a:dj}{xs ys:List V}(r:RS K E0 E H0 H σ γ)(L:γ[i]? = bB (.own ds))(hs:σ[i]? = bB (bB (.ref a)))(M:dr K H0 es ys):
 RS K E0 E H0 (upd H a<|.lst ys) σ (γ.set i<|.own es):=by
 obtain⟨y,A,g1,g2,g3,C⟩:=r.rc.own i ds L;rw[hs]at g1;cases g1;refine⟨⟨λb o q=>?_,by simp[r.rc.len],λj s g=>?_,λj fs g=>?_,λj k b fs gs e I Q t=>?_,⟨λj d g=>?_,λj k w x e I=>?_⟩⟩,⟨r.ext.s0,λb o q=>?_,λb o q=>?_,r.ext.new⟩,λj fs b e I=>?_,λj d b l e I Q=>?_⟩
 ·rw[zE (λz=>by lia)];exact r.rc.sub b o q
 ·rcases zF g with⟨_,z,_⟩|⟨U,z⟩
  ·cases z
  ·exact r.rc.val j s z
 ·rcases zF g with⟨rfl,z,F⟩|⟨U,z⟩
  ·cases z;exact⟨a,ys,hs,g2,zC,M⟩
  ·obtain⟨b,l,f1,J,O,u⟩:=r.rc.own j fs z
   refine⟨b,l,f1,J,?_,u⟩;rw[zE (λq=>U<|r.rc.ne j i a fs ds z L (by rw[f1,q]) hs)];exact O
 ·have n:∃Y,γ[j]? = bB (.own Y):=by
   rcases zF e with⟨q,_,_⟩|⟨_,z⟩
   ·exact⟨ds,by rw[q];exact L⟩
   ·exact⟨fs,z⟩
  have p:∃Y,γ[k]? = bB (.own Y):=by
   rcases zF I with⟨q,_,_⟩|⟨_,z⟩
   ·exact⟨ds,by rw[q];exact L⟩
   ·exact⟨gs,z⟩
  obtain⟨f1,f⟩:=n;obtain⟨J,h⟩:=p;exact r.rc.ne j k b f1 J f h Q t
 ·rcases zF g with⟨_,z,_⟩|⟨U,z⟩
  ·cases z
  ·obtain⟨b,bs,f1,J,O⟩:=r.rc.m9.1 j d z
   have m:=O i ds a L hs;refine⟨b,bs,f1,J.move (ft.refl _) (λc Z=>(J.at Z).1)<|λc Z=>zE λq=>m<|q ▸ Z,λk fs c e I=>?_⟩;rcases zF e with⟨q,_,_⟩|⟨_,f⟩
   ·rw[q,hs]at I;cases I;exact m
   ·exact O k fs c f I
 ·rcases zF e with⟨_,z,_⟩|⟨_,f⟩
  ·cases z
  ·rcases zF I with⟨_,z,_⟩|⟨_,h⟩
   ·cases z
   ·exact r.rc.m9.2 j k w x f h
 ·rw[zE (λz=>by rw[z,r.fresh i ds a L hs]at q;cases q)];exact r.ext.s1 b o q
 ·rw[zE (λz=>by lia)];exact r.ext.sub b o q
 ·rcases zF e with⟨q,_,_⟩|⟨_,z⟩
  ·rw[q]at I;exact r.fresh i ds b L I
  ·exact r.fresh j fs b z I
 ·rcases zF e with⟨_,z,_⟩|⟨U,z⟩
  ·cases z
  ·obtain⟨B,bs,f1,J,O⟩:=r.rc.m9.1 j d z
   rw[I]at f1;cases f1;rw[zE (λq=>O i ds a L hs<|by rw[q];exact SO)]at Q;exact r.sy j d b l z I Q
end
section
variable{X:Cx}{e a c:dv}{pos:eU}{st:hB}{k8:List hB}
theorem zO:ik X [] jU:=BJ X7 λD d H I=>by obtain⟨E0,E,a,e,Q,b,J,O⟩:=I;cases J;exact O d H a b
theorem ze{F G:CO Fl}(j:i6 X st F)(O:ik X k8 G):ik X (st::k8) (zV F G):=BJ (yf j O) λD i H Q=>by
 obtain⟨E0,E,d,g,U,f,I,J⟩:=Q;obtain⟨f1,e,I⟩:=za I;refine⟨E0,E,d,g,f1,f,e,?_⟩;cases f1 with
 |next a=>exact λZ h b Y=>⟨E0,E,b,a,U,Y,I,J⟩
 |brk a=>cases I;exact J
 |cont a=>cases I;exact J
 |ret r=>cases I;cases r<;>exact J
theorem zh(j:i6 X st F):ik X [st] F:=vM j
theorem zq(h:o.map f=bB y):∃x,o=bB x/\f x=y:=by simp_all
theorem zx{f:CO D}(h:PV X e f):i6 X (.Return (bB e) pos) (jO f):=xS (QB h) λD l H J=>by obtain⟨E0,E,i,k,Q,b,I,O⟩:=J;obtain⟨d,j,I⟩:=zq I;subst I;exact⟨i,k,d,b.rc,j,λv g a x r=>O v g a (b.ext.trans x) r⟩
theorem jY{f:CO (List D)}(h:PO X e f):i6 X (.Return (bB e) pos) (yb f):=xS (QB h) λD p H J=>by
 obtain⟨E0,E,i,n,Y,d,I,O⟩:=J;obtain⟨j,k,I⟩:=zq I;subst I;refine⟨i,n,j,d.rc,k,λa m g b x l Q U r=>O a m g b (d.ext.trans x) ?_ Q U r⟩;cases q:E a with
 |none=>rfl
 |some o=>rw[d.ext.s1 a o q]at l;lia
theorem wF(i:Nat)(h:PE X e (tK i)):i6 X (.Return (bB e) pos) (Vj i):=xS (QB h) λD o H Q=>by
 obtain⟨E0,E,j,n,Z,f,I,O⟩:=Q;unfold Vj at I;cases b:n[i]? with
 |none=>rw[b]at I;cases I
 | some c=>
  rw[b]at I;cases c with
  |no=>cases I
  |val d=>
   cases I;obtain⟨v,g,J⟩:=f.rc.val i d b;exact⟨v,g,O v H j f.ext J⟩
  |nest l=>cases I
  |own k=>
   cases I;obtain⟨a,m,g,J,U,Y⟩:=f.rc.own i k b;exact⟨_,g,O a m H j f.ext (f.fresh i k a b g) J U Y⟩
theorem W1:i6 X (.Continue pos) HA:=xS cH λD d H I=>by obtain⟨E0,E,a,e,Q,b,J,O⟩:=I;cases J;exact O d H a b
theorem qJ:i6 X st xQ:=xS zdP λD e H I=>by obtain⟨E0,E,a,d,O,b,J,Q⟩:=I;cases J
theorem jl{k:CO Bool}{F G:CO Fl}{x y:List hB}(Q:k4 X c k)(j:ik X x F)(U:ik X y G):i6 X (.If c x y pos) (g8 k F G):=xS (oP Q j U) λD h H Y=>by
 obtain⟨E0,E,e,d,J,b,I,O⟩:=Y;obtain⟨t,f,I⟩:=za I;refine⟨e,d,t,b.rc,f,λg a x=>?_⟩;cases t with
 |true=>exact⟨E0,E,a,d,J,b.step x,I,O⟩
 |false=>exact⟨E0,E,a,d,J,b.step x,I,O⟩
theorem oO(i:Nat){f:CO D}(h:PS X st (bG (tV X.K f)<|vd i)):i6 X st (jy i f):=xS h λD l H J=>by obtain⟨E0,E,e,j,Q,b,I,O⟩:=J;obtain⟨d,g,I⟩:=zq I;subst I;exact⟨e,j,d,b.rc,g,λv k a x r=>O _ _ a<|(b.step x).t8 r⟩
theorem fV(i:Nat){f:CO (List D)}(h:PS X st (bG (tO X.K f)<|vd i)):i6 X st (vH i f):=xS h λD o H J=>by obtain⟨E0,E,e,l,Y,d,I,O⟩:=J;obtain⟨g,j,I⟩:=zq I;subst I;exact⟨e,l,g,d.rc,j,λa n m b x k Q U r=>O _ _ b<|d.Z? x k Q U r⟩
theorem yj(h:Zx o=bB ds):o=bB (.own ds):=by
 cases o with
 |none=>cases h
 |some c=>cases c<;>simp[Zx]at h;rw[h]
theorem lb(i:Nat){f:CO D}(h:PE X e (w_ X.K "list" oB (tK i) (bP (tV X.K f) Bw)))(hs:tG e cI pos.line X.env=pure cT:=by rfl):i6 X (.Expr e pos) (qf i f):=
 xS (Vn h hs) λD u H U=>by
  refine dt λY=>?_;obtain⟨E0,E,m,o,s,j,I,Z⟩:=U;obtain⟨k,b,I⟩:=za I;obtain⟨d,n,I⟩:=za I;refine Y ?_;have b:=yj b;by_cases J:k.length<lim
  ·rw[DJ J]at I;cases I
   obtain⟨a,xs,l,t,O,Q⟩:=j.rc.own i k b;exact⟨_,l,.inl ⟨rfl,_,fy.of O⟩,m,o,d,j.rc,n,λv p g x r=>⟨a,xs,v,rfl,rfl,x.s1 _ _ O,Ti (by rw[Q.length];exact J)<|y9<|SN _,Z _ _ g<|(j.step x).rewrite (xs:=xs) b l ((Q.mono x.s0).append (dr.cons r dr.nil))⟩⟩
  ·rw[DY J]at I;cases I
end
noncomputable def Rt(K:SD)(j H:Hp)(Q:VK):Res->Prop
 |.val d=>∀v e b,Ext j H b e->Rep K b d v->Q v e
 |.own g=>∀a f e b,Ext j H b e->H a=cI->b a=cI->e a=bB (.lst f)->dr K b g f->Q (.ref a) e
noncomputable def o3(K:SD)(n:Nat)(F:List D->Option Res):Sp:=λd H Q _=>∃a b r,ft a H/\dr K a b d/\b.length=n/\F b=bB r/\Rt K a H Q r
theorem o3.len{K:SD}{n:Nat}{F:List D->Option Res}{ps:List Str}(I:ps.length=n):∀vs H Q E,o3 K n F vs H Q E->vs.length=ps.length:=λvs H Q E h=>by obtain⟨b,d,r,_,a,J,_⟩:=h;rw[a.length,J,I]
section
variable{P:gg}{w:fA}{K:SD}{mg:DZ}{base:eL}
theorem fJ(s:ft H0 H)(h:dr K H0 ds vs)(O:ds.length<=N.length):RS K H0 H H0 H (Ve N vs) (zZ N.length ds):=by
 have I:=h.length;refine⟨⟨s,by simp[L2.Ve,zZ,I],λi d e=>?_,λi g e=>?_,λi j a g fs e _ _ _=>?_,oz.B5 λi f e=>?_⟩,Ext.refl s,λi g a e _=>?_,λi f a l e _ _=>?_⟩
 all_goals unfold zZ at e
 ·by_cases b:i<ds.length
  ·rw[Tz (by simpa using b),TV]at e
   cases e1:ds[i]? with
   |none=>rw[e1]at e;cases e
   |some k=>
    rw[e1]at e;cases e;obtain⟨x,J,g2⟩:=h.get e1;refine⟨x,?_,g2⟩;unfold L2.Ve;rw[Tz (by simp;lia),TV,J];rfl
  ·rw[TC (by simpa using b),Px]at e
   split at e<;>cases e
 all_goals
  by_cases b:i<ds.length
  ·rw[Tz (by simpa using b),TV]at e
   cases e1:ds[i]? with
   |none=>rw[e1]at e;cases e
   |some k=>rw[e1]at e;cases e
  ·rw[TC (by simpa using b),Px]at e
   split at e<;>cases e
theorem Lp{x qual:Str}{st:hB}{f:dj}{j:nf}{N ps:List Str}{k:Nat}{F:CO Fl}(U:L2.p8 K x qual st f j)(S:DP N ps (jh st))
 (Y:∀e A outer s H E,kA k (A.deeper<|envOfC qual (jh st) s.heap.objs.size f e)->ik (FN n4 P w K mg base N qual (jh st) f e A outer s H E).Du (qv st) F):
 ml P w K mg base n4 (k+1) f j ps (o3 K ps.length<|jf N.length F):=by
 refine U.ok S (o3.len rfl)<|λe A outer s H C Q E Z h=>⟨_,Y e A outer s H E Z,?_⟩;refine dt λn=>?_;obtain⟨b,y,r,p,l,z,m,J⟩:=h;obtain⟨O,i,I⟩:=za m;refine n ?_;have u:ps.length<=N.length:=by have:=congrArg DM S.pre;grind
 refine⟨b,H,b,_,O,fJ p l ⋯,i,?_⟩;cases O with
 |ret B=>cases I;cases r<;>exact J
 |next d=>cases I;exact λt g a o=>J .d9 g a o.ext rfl
 |brk d=>cases I
 |cont d=>cases I
end
section
variable{X:Cx}{es:List dv}{pos p:eU}{k:Nat}{f:dj}{fd:nf}{ps:List Str}{x:Str}{F:List D->Option Res}{g:CO (List D)}
theorem Ew{A0:List dv}(G:ml X.prog X.w X.K X.mg X.base n4 k f fd ps (o3 X.K ps.length F))(z:uU X es g)(U:∀γ ds,g γ=bB ds->ds.length=ps.length)
 (Y:∀{t:TA},PA X es t->PE X (.Call (.Name x p) es [] pos) (bQ (o3 X.K ps.length F) [] E0 t)):PV X (.Call (.Name x p) es [] pos) (zA F g):=
 jK (Y z) λL H Q Z=>by
  refine dt λu=>?_;obtain⟨l,γ,d,A,I,q⟩:=Z;obtain⟨ds,j,I⟩:=za I;obtain⟨r,n,I⟩:=zq I;refine u ?_;refine⟨l,γ,ds,A,j,λE C m e y=>⟨m,ds,r,e.sub,by simpa using y,U γ ds j,n,?_⟩⟩;subst I;cases r with
  |val d=>exact λv h b J i=>q v h b (e.trans J) i
  |own fs=>
   exact λa B h b J o O s i=>q _ h _ (e.trans<|J.show o O s e.sub)<|⟨a,B,rfl,fy.of zC,i.mono<|jj O _⟩
theorem EI(G:ml X.prog X.w X.K X.mg X.base n4 k f fd ps (o3 X.K ps.length F))(E:uU X es g)(J:∀γ ds,g γ=bB ds->ds.length=ps.length)
 (O:∀{t:TA},PA X es t->PE X (.Call (.Name x p) es [] pos) (bQ (o3 X.K ps.length F) [] E0 t)):PO X (.Call (.Name x p) es [] pos) (jo F g):=
 jK (O E) λN H Q U=>by
  refine dt λY=>?_;obtain⟨j,γ,fs,A,I,q⟩:=U;obtain⟨ds,h,I⟩:=za I;obtain⟨r,Z,I⟩:=za I;refine Y ?_;refine⟨j,γ,ds,A,h,λM L l e u=>⟨l,ds,r,e.sub,by simpa using u,J γ ds h,Z,?_⟩⟩;cases r with
  |val d=>cases I
  | own gs=>
   cases I;exact λa C i b B m n s y=>q a C i b (e.trans B) (by
    cases z:H a with
    |none=>rfl
    |some o=>rw[e.s1 a o z]at m;lia) n s y
end
structure Walk(K:SD)(H0 Hs:Hp)(J:It)(ds:List D):Prop where
 go:∀i H1,ft Hs H1->i<ds.length->J.go i H1
 stop:∀H1,ft Hs H1->J.stop ds.length H1
 uo:∀i H1 x U6,ft Hs H1->i<ds.length->J.uo i H1 x U6->∃d,ds[i]? = bB d/\∀G0,ft H0 G0->ft G0 H1->∃U5,Ext G0 H1 U5 U6/\Rep K U5 d x
theorem Walk.weak{K:SD}{e j I:Hp}{J:It}{ds:List D}(w:Walk K e j J ds)(s:ft j I):Walk K e I J ds:=
 ⟨λi a h=>w.go i a<|s.trans h,λa h=>w.stop a<|s.trans h,λi a x b h=>w.uo i a x b<|s.trans h⟩
theorem Y5{k:Sk}{K:SD}{j z:Hp}{a:dj}{xs:List V}{ds:List D}(h:i4 k K z a xs)(r:dr K j ds xs):Walk K j z (U7 k K a) ds:=by
 have Q:=r.length;refine⟨λi b s n=>?_,λb s=>?_,λi b x f s n y=>?_⟩
 ·have I:i<xs.length:=⋯
  cases k with
  |L=>exact⟨xs,xs[i],s.seq h,SH I⟩
  |T=>exact⟨xs,xs[i],md s h,SH I⟩
 ·cases k with
  |L=>exact⟨xs,s.seq h,⋯⟩
  |T=>exact⟨xs,md s h,⋯⟩
 ·have e:f=b/\xs[i]? = bB x:=by
   cases k with
   |L=>exact⟨y.1,y.2 xs<|s.seq h⟩
   |T=>exact⟨y.1,y.2 xs<|md s h⟩
  obtain⟨l,J⟩:=e;subst l;obtain⟨d,m,O⟩:=r.Bi J;exact⟨d,m,λg o p=>⟨g,Ext.refl p,O.mono o⟩⟩
theorem JD(lo:Int)(n:Nat):(J9 lo n).length=n:=by simp[J9]
theorem Yo{K:SD}{e j:Hp}(lo:Int)(n:Nat):Walk K e j (DT lo n) (J9 lo n):=by
 refine⟨λi b s a=>?_,λb s=>?_,λi b x f s a y=>?_⟩
 ·rw[JD]at a;exact a
 ·rw[JD];exact SN _
 ·rw[JD]at a
  obtain⟨g,I⟩:=y;subst g I;exact⟨.int<|lo+i,by simp[J9,a],λd k h=>⟨d,Ext.refl h,(rfl)⟩⟩
theorem zd0{k1 k2:Sk}{K:SD}{e j:Hp}{a b:dj}{xs ys:List V}{ds es:List D}(z:i4 k1 K j a xs)(J:dr K e ds xs)(I:i4 k2 K j b ys)(E:dr K e es ys):
 Walk K e j (N3 k1 k2 K a b) (ZA ds es):=by
 have B:=J.length;have C:=E.length;have A:(ZA ds es).length=min ds.length es.length:=by simp[ZA]
 refine⟨λi h s w=>⟨xs,ys,wU s z,wU s I,⋯,⋯⟩,λh s=>?_,λi h x m s w y=>?_⟩
 ·refine⟨xs,ys,wU s z,wU s I,?_⟩
  lia
 ·refine dt λO=>?_;obtain⟨p,u,v,r,f,Q,U,g2⟩:=y
  obtain⟨d,t,Y⟩:=J.Bi<|U xs<|wU s z;obtain⟨c,Z,n⟩:=E.Bi<|g2 ys<|wU s I;refine O ?_;refine⟨.tup [d,c],?_,λl k g=>⟨upd l p<|.tup [u,v],?_,?_⟩⟩
  ·have o:_=bB (d,c):=List.getElem?_zip_eq_some.mpr ⟨t,Z⟩
   simp[ZA,o]
  ·rw[Q];exact Ext.alloc g f _
  ·rw[r]
   exact(⟨p,[u,v],rfl,hH.of zC,dr.cons ((Y.mono k).mono (jj (jd g f) _))<|dr.cons ((n.mono k).mono (jj (jd g f) _)) dr.nil⟩)
noncomputable def OZ(K:SD)(e:CO (List D)):TI:=λh H R=>∃d g f,RC K d H h g/\e g=bB f/\∀J b a,Ext d H a b->Walk K a b J f->R J b
noncomputable def O0(K:SD)(e:CO (List D)):TI:=λh H R=>∃d g f,RC K d H h g/\e g=bB f/\∀J b a,Ext d H a b->Walk K a a J f->R J b
abbrev sm(X:Cx)(tg e:dv)(src:CO (List D)):Prop:=PI X tg e (OZ X.K src)
abbrev g9(X:Cx)(tg e:dv)(src:CO (List D)):Prop:=PI X tg e (O0 X.K src)
section
variable{X:Cx}{tg e a b:dv}{pos p:eU}
theorem g9.c(h:g9 X tg e src):sm X tg e src:=Yc h λj H R I=>by obtain⟨d,i,f,g,O,q⟩:=I;exact⟨d,i,f,g,O,λJ b a x w=>q J b a x<|w.weak x.sub⟩
theorem zS(h:PQ X e f):sm X tg e (zH f):=Yc (oW h) λs H R I=>by obtain⟨i,o,p,m,J,q⟩:=I;obtain⟨⟨k,l⟩,j,O⟩:=zq J;subst O;exact⟨i,o,k,l,m,j,λa n g b x d _ r=>⟨a,k,rfl,⟨n,d⟩,q _ g b x<|Y5 d r⟩⟩
theorem JH(h:PV X e f):g9 X tg e (zH<|zJ f):=Yc (oW h) λt H R Q=>by
 obtain⟨n,p,s,o,U,q⟩:=Q;obtain⟨⟨k,m⟩,b,I⟩:=zq U;subst I;obtain⟨d,Y,b⟩:=za b;refine⟨n,p,d,o,Y,λv l g x r=>?_⟩;cases d with
 |tup fs=>
  obtain⟨I,J⟩:k=.T/\m=fs:=by simp[j6]at b;exact⟨b.1.symm,b.2.symm⟩
  subst I J;obtain⟨a,j,rfl,i,O⟩:=(r);exact⟨a,.T,rfl,⟨j,md x.sub i⟩,q _ l g x<|Y5 i O⟩
 |lst fs=>
  obtain⟨I,J⟩:k=.L/\m=fs:=by simp[j6]at b;exact⟨b.1.symm,b.2.symm⟩
  subst I J;obtain⟨a,j,rfl,i,O⟩:=(r);exact⟨a,.L,rfl,⟨j,x.sub.seq i⟩,q _ l g x<|Y5 i O⟩
 |_=>simp[j6]at b
theorem jD(h:l7 d=bB i):d=.int i:=by cases d<;>simp[l7]at h;rw[h]
theorem Kw(h:inR i=cm): -(2^62)<=i/\i<2^62:=by
 unfold inR at h
 grind
theorem lr(O:Gl X "range")(Q:X.mg "range" = cI)(j:PV X a f)(hs:eA [a] X.env=[(cT,dy a X.env)]:=by rfl):g9 X tg (.Call (.Name "range" p) [a] [] pos) (jr f):=
 Yc (oY O Q (z9 j jM hs) hs) λo H R U=>by
  obtain⟨h,l,m,k,I,q⟩:=U;obtain⟨n,e,I⟩:=za I;obtain⟨d,Y,e⟩:=za e;by_cases J:inR n=cm
  ·rw[DJ J]at I;cases I
   refine⟨h,l,d,k,Y,λv g b x r=>?_⟩;rw[jD e]at r;obtain⟨i,Z⟩:=Kw J;exact⟨n,by rw[r],i,Z,q _ g b x<|Yo 0 n.toNat⟩
  lia
theorem lq(U:Gl X "range")(Y:X.mg "range" = cI)(E:PV X a f)(Z:PV X b g)(hs:eA [a,b] X.env=[(cT,dy a X.env),(cT,dy b X.env)]:=by rfl)(O:eA [b] X.env=[(cT,dy b X.env)]:=by rfl):
 g9 X tg (.Call (.Name "range" p) [a,b] [] pos) (Vk f g):=
 Yc (oX U Y (z9 E (z9 Z jM O)<|by rw[hs,O]) hs O) λM H R B=>by
  refine dt λC=>?_;obtain⟨l,k,K,j,I,q⟩:=B;obtain⟨m,h,I⟩:=za I;obtain⟨d,t,h⟩:=za h;obtain⟨n,Q,I⟩:=za I;obtain⟨c,u,Q⟩:=za Q;refine C ?_;by_cases J:inR m=cm/\inR n=cm
  ·rw[DJ J]at I;cases I
   refine⟨l,k,d,j,t,λv G e x r=>⟨e,k,c,j.ext x,u,λL o s F i=>?_⟩⟩;rw[jD h]at r;rw[jD Q]at i;obtain⟨w,y⟩:=Kw J.1;obtain⟨z,A⟩:=Kw J.2;exact⟨m,n,by rw[r,i],⟨w,y,z,A⟩,q _ o s (x.trans F)<|Yo m (n-m).toNat⟩
  ·rw[DY J]at I;cases I
theorem Vi{K:SD}{H:Hp}{d:D}{v:V}{k:Sk}{ds:List D}(r:Rep K H d v)(e:j6 d=bB (k,ds)):∃a xs,v=.ref a/\i4 k K H a xs/\dr K H ds xs:=by
 cases d with
 |tup fs=>simp[j6]at e;obtain⟨b,I⟩:=e;subst b I;exact r
 |lst fs=>simp[j6]at e;obtain⟨b,I⟩:=e;subst b I;exact r
 |_=>simp[j6]at e
theorem EK{f g:CO D}{j:List dv}{S:Nat}{z:eU}(Z:Gl X "zip")(M:X.mg "zip" = cI)(E:PV X a f)(L:PV X b g)(hs:eA [a,b] X.env=[(cT,dy a X.env),(cT,dy b X.env)]:=by rfl)(O:eA [b] X.env=[(cT,dy b X.env)]:=by rfl):
 g9 X (.Tuple j S z) (.Call (.Name "zip" p) [a,b] [] pos) (bH f g):=
 Yc (Ij Z M (z9 E (z9 L jM O)<|by rw[hs,O]) PyProof.Rows.boot_zip hs O) λσ H R B=>by refine dt λG=>?_;obtain⟨l,k,W,i,I,q⟩:=B;obtain⟨⟨C,m⟩,h,I⟩:=za I;obtain⟨d,w,h⟩:=za h;obtain⟨⟨F,n⟩,Q,I⟩:=zq I;obtain⟨c,y,Q⟩:=za Q;refine G ?_;subst I;refine⟨l,k,d,i,w,λv T e x r=>⟨e,k,c,i.ext x,y,λv2 o u J K=>?_⟩⟩;obtain⟨s,N,rfl,U,g2⟩:=Vi (r.mono J.s0) h;obtain⟨t,P,rfl,Y,A⟩:=Vi K Q;exact⟨C,F,s,t,rfl,⟨N,wU J.sub U⟩,⟨P,wU J.sub Y⟩,q _ o u (x.trans J)<|zd0 U g2 Y A⟩
end
noncomputable def Yx:List Nat->List V->St->St
 |i::is,v::vs,σ=>Yx is vs<|σ.set i<|some v
 |_,_,σ=>σ
noncomputable def gs:List Nat->Dl
 |[]=>PN
 |i::is=>Lo (vd i)<|gs is
noncomputable def oT(K:SD):Tg->TG
 |.nm i=>vd i
 |.tp is=>PM K is.length<|gs is
theorem dD:∀{is:List Nat} {vs:List V} {e:St} {H:Hp} {Q:St->Hp->Prop},vs.length=is.length->Q (Yx is vs e) H->gs is vs e H Q
 |[],[],_,_,_,_,q=>⟨rfl,q⟩
 |i::is,v::vs,e,H,Q,hl,q=>⟨v,vs,rfl,dD (by simpa using hl) q⟩
 |[],_::_,_,_,_,hl,_=>by simp at hl
 |_::_,[],_,_,_,hl,_=>by simp at hl
theorem RS.Dx{K:SD}{E0 E z H:Hp}:∀{is:List Nat} {ds:List D} {vs:List V} {j:St} {γ:Ctx},RS K E0 E z H j γ->dr K z ds vs->RS K E0 E z H (Yx is vs j) (q9 is ds γ)
 |[],ds,vs,j,γ,r,h=>by assumption
 |i::is,[],vs,j,γ,r,h=>by rw[h.ro];exact r
 |i::is,d::ds,vs,j,γ,r,h=>by obtain⟨x,t,e,a,I⟩:=h.n6;subst e;show RS K E0 E z H _ (q9 is ds _);exact RS.Dx (r.t8 a) I
theorem RC.Dx{K:SD}{z H:Hp}:∀{is:List Nat} {ds:List D} {vs:List V} {j:St} {γ:Ctx},RC K z H j γ->dr K z ds vs->RC K z H (Yx is vs j) (q9 is ds γ)
 |[],ds,vs,j,γ,r,h=>by assumption
 |i::is,[],vs,j,γ,r,h=>by rw[h.ro];exact r
 |i::is,d::ds,vs,j,γ,r,h=>by obtain⟨x,t,e,a,I⟩:=h.n6;subst e;show RC K z H _ (q9 is ds _);exact RC.Dx (r.t8 a) I
theorem Jo{K:SD}{j H:Hp}{T:Tg}{d:D}{v:V}{z:St}{γ γ1:Ctx}{Q:St->Hp->Prop}(s:ft j H)(h:Rep K j d v)(e:qx T d γ=bB γ1)
 (q:∀I,(RC K j H z γ->RC K j H I γ1)->(∀E0 E,RS K E0 E j H z γ->RS K E0 E j H I γ1)->Q I H):oT K T v z H Q:=by
 cases T with
 |nm i=>cases e;exact q _ (λr=>r.t8 h) λE0 E r=>r.t8 h
 | tp is=>
  cases d with
  | tup f=>
   simp only[qx]at e;by_cases J:f.length=is.length
   ·rw[DJ J]at e;cases e
    obtain⟨a,b,rfl,g,O⟩:=(h);have U:b.length=is.length:=by rw[O.length,J]
    exact⟨a,b,rfl,md s g,U,dD U<|q _ (λr=>r.Dx O) λE0 E r=>r.Dx O⟩
   ·rw[DY J]at e;cases e
  |_=>simp[qx]at e
theorem Ext.rebase{E0 E I j H B:Hp}(e:Ext E0 E I B)(x:Ext I E j H):Ext E0 E j H:=
 ⟨e.s0.trans x.s0,x.s1,x.sub,λa b J=>x.new a (e.new a b J) J⟩
theorem Ext.base{E0 E I B:Hp}(e:Ext E0 E I B):Ext I E I B:=⟨ft.refl _,e.s1,e.sub,λa h _=>h⟩
theorem Sat.rebase{K:SD}{E0 E J B:Hp}{D:Ends}{I:Fl}(e:Ext E0 E J B)(h:Sat K E0 E D I):Sat K J E D I:=by
 cases I with
 |next g=>exact λf H b r=>h f H b ⟨r.rc,e.rebase r.ext,r.fresh,r.sy⟩
 |brk g=>exact λf H b r=>h f H b ⟨r.rc,e.rebase r.ext,r.fresh,r.sy⟩
 |cont g=>exact λf H b r=>h f H b ⟨r.rc,e.rebase r.ext,r.fresh,r.sy⟩
 |ret r=>
  cases r with
  |val d=>exact λv H b x q=>h v H b (e.rebase x) q
  |own k=>exact λa j H b x i O Q q=>h a j H b (e.rebase x) i O Q q
section
variable{X:Cx}{tg iter:dv}{body:List hB}{pos:eU}
theorem EB{j:CO (List D)}{T:Tg}{F:CO Fl}(hp:Lw (d8 X.prog X.w) X.A X.env X.xe)(hc:X.calm=cm)(L:g9 X tg iter j)(hg:PG X tg (oT X.K T))(hb:ik X body F)
 (hs:∀x,oI iter X.env x=pure x:=by intro _;rfl):i6 X (.For tg iter body [] pos) (J5 j T F):=
 xS (oQ hp hc L hg hb hs) λD k H hZ=>by
  obtain⟨E0,E,g,h,O,a,I,Q⟩:=hZ;obtain⟨f,W,I⟩:=za I;refine⟨g,h,f,a.rc,W,λJ H1 U x1 t=>?_⟩;have Z:=a.step x1;have C:=Z.ext;refine⟨λi m k H=>m=f.length-i/\i<=f.length/\∃g h O,RS X.K U E g H k h/\yd T F (f.drop i) h=bB O/\Sat X.K U E D O,⟨_,rfl,Uc _,U,h,O,⟨Z.rc,C.base,Z.fresh,Z.sy⟩,I,Q.rebase C⟩,?_⟩;rintro i m k H ⟨rfl,L,g,h,O,a,I,Q⟩;have l:=a.ext.s0.trans a.ext.sub;by_cases Y:i<f.length
  ·refine .inr ⟨t.go i H l Y,λk H=>_/\_,λzeB B n=>⟨_,⋯,rfl,n.1,n.2⟩,λx B y=>?_⟩
   refine dt λp=>?_;obtain⟨d,G,hx⟩:=t.uo i H x B l Y y;obtain⟨N,M,rg⟩:=hx g a.ext.s0 a.rc.sub;refine p ?_;have R:f.drop i=d::f.drop (i+1):=by
    have as:=by rw[SH Y]at G;exact(TJ G).symm
    simp_all
   rw[R]at I;simp only[yd]at I;refine dt λp=>?_;obtain⟨u,eb,I⟩:=za I;obtain⟨f1,eF,I⟩:=za I;refine p ?_;refine Jo M.sub rg eb λNk _ S=>⟨U,E,N,u,f1,S U E<|a.step M,eF,?_⟩;cases f1 with
   |next b=>exact λz P o s=>⟨Y,o,b,O,s,I,Q⟩
   |cont b=>exact λz P o s=>⟨Y,o,b,O,s,I,Q⟩
   |brk b=>cases I;exact Q
   |ret r=>cases I;cases r<;>exact Q
  ·have e:i=f.length:=⋯
   subst e;rw[GN]at I;cases I;exact .inl ⟨t.stop H l,Q k H g a⟩
end
theorem qI(h:(z7 n fr γ)[i]? = bB c):c=.no\/(∃d j,c=.val d/\n<=i/\fr[i-n]? = bB j/\γ[j]? = bB (.val d)):=by
 unfold z7 at h;by_cases b:i<n
 ·rw[Tz (by simpa using b),Px,DJ b]at h
  exact .inl (TJ h).symm
 ·rw[TC (by simpa using b),TV,List.length_replicate]at h
  cases e:fr[i-n]? with
  |none=>rw[e]at h;cases h
  | some j=>
   rw[e]at h;have a:=by simpa using h
   cases e2:γ[j]? with
   |none=>rw[e2]at a;exact .inl a.symm
   |some I=>
    rw[e2]at a;cases I with
    |no=>exact .inl a.symm
    |own g=>exact .inl a.symm
    |nest f=>exact .inl a.symm
    |val d=>exact .inr ⟨d,j,a.symm,⋯,rfl,e2⟩
theorem RC.pull{K:SD}{E H:Hp}{L:St}{γ:Ctx}{own:List Str}{e:List (Str×Nat)}(r:RC K E H L γ):RC K E H (L2.uE own e L) (z7 own.length (e.map (·.2)) γ):=by
 refine⟨r.sub,by simp[L2.uE,z7],λi d h=>?_,λi f h=>?_,λi j a f k h _ _ _=>?_,oz.B5 λi b h=>?_⟩
 ·rcases qI h with z|⟨d',j,z,hi,I,J⟩
  ·cases z
  ·cases z
   obtain⟨v,g,O⟩:=r.val j d J;refine⟨v,?_,O⟩;rw[TV]at I;cases q:e[i-own.length]? with
   |none=>rw[q]at I;cases I
   |some p=>
    rw[q]at I;unfold L2.uE;rw[TC (by simpa using hi),TV,Ta,q];simp[(by simpa using I),g]
 ·rcases qI h with z|⟨d',j,z,_⟩<;>cases z
 ·rcases qI h with z|⟨d',j,z,_⟩<;>cases z
 ·rcases qI h with z|⟨d',j,z,_⟩<;>cases z
theorem RC.weak{K:SD}{z H:Hp}{E:St}{γ γ':Ctx}(r:RC K z H E γ)(J:γ'.length=γ.length)(O:∀(i:Nat) d,γ'[i]? = bB (.val d)->γ[i]? = bB (.val d))(I:∀(i:Nat) ds,γ'[i]? ≠ bB (.own ds))(Q:∀(i:Nat) e,γ'[i]? ≠ bB (.nest e)):RC K z H E γ':=
 ⟨r.sub,by rw[J];exact r.len,λi d h=>r.val i d<|O i d h,λi ds h=>absurd h<|I i ds,λi j a ds b h _ _ _=>absurd h<|I i ds,oz.B5 Q⟩
theorem RC.upd{K:SD}{E H:Hp}{L:St}{γ:Ctx}{D:dj}{o:HO}(r:RC K E H L γ)(M:E D=cI)(I:∀(i:Nat) ds,γ[i]? ≠ bB (.own ds))(J:∀(i:Nat) e,γ[i]? ≠ bB (.nest e)):RC K E (upd H D o) L γ:=
 ⟨λb u q=>by rw[zE (λz=>by lia)];exact r.sub b u q,r.len,r.val,λi ds h=>absurd h<|I i ds,λi j a ds d h _ _ _=>absurd h<|I i ds,oz.B5 J⟩
theorem XJ:∀{is:List Nat} {ds:List D} {γ:Ctx},(q9 is ds γ).length=γ.length
 |[],ds,γ=>by rfl
 |i::is,[],γ=>rfl
 |i::is,d::ds,γ=>by show(q9 is ds _).length=_;rw[XJ];simp
theorem XM:∀{is:List Nat} {ds:List D} {γ:Ctx} {i:Nat},i∉is->(q9 is ds γ)[i]? = γ[i]?
 |[],ds,γ,i,_=>by rfl
 |j::is,[],γ,i,_=>rfl
 |j::is,d::ds,γ,i,h=>by show(q9 is ds _)[i]? = _;rw[XM (λz=>h<|SQ _ z),SK (λz=>h<|by rw[<-z];exact SO)]
theorem bq(h:qx T d γ=bB γ1):γ1.length=γ.length/\∀i,i∉T.idx->γ1[i]? = γ[i]? :=by
 cases T with
 |nm j=>cases h;exact⟨by simp,λi a=>SK<|λz=>a<|by simp[Tg.idx,z]⟩
 | tp is=>
  cases d with
  |tup b=>
   simp only[qx]at h;by_cases I:b.length=is.length
   ·rw[DJ I]at h;cases h;exact⟨XJ,λi a=>XM a⟩
   ·rw[DY I]at h;cases h
  |_=>simp[qx]at h
section
variable{K:SD}{own:List Str}{fr:List (Str×Nat)}{src:CO (List D)}{T:Tg}{k:CO Bool}{f:CO D}
theorem Jl(hT:∀i∈T.idx,i<own.length)(b9:∀E H Q,tT K k E H Q->tt E H Q):∀E H Q,tO K (zM src T own.length (fr.map (·.2)) k f) E H Q->nB (OZ K src) own fr (oT K T) tt (tV K f) E H Q:=λE H Q hZ=>by
 obtain⟨H0,C,ds,rc,M,q⟩:=hZ;obtain⟨O,e1,M⟩:=za M;by_cases hl:O.length<=lim
 ·rw[DJ hl]at M
  refine⟨H0,C,O,rc,e1,λJ H1 al u wk D hD=>?_⟩;have P:∀(i:Nat) X,(z7 own.length (fr.map (·.2)) C)[i]? ≠ bB (.own X):=λi X h=>by rcases qI h with z|⟨d',j,z,_⟩<;>cases z
  have R:∀(i:Nat) t,(z7 own.length (fr.map (·.2)) C)[i]? ≠ bB (.nest t):=λi X h=>by rcases qI h with z|⟨d',j,z,_⟩<;>cases z
  have am:=jd u.sub hD;refine⟨λi m B F g=>m=O.length-i/\i<=O.length/\B.length<=i/\g D=bB (.lst B)/\∃a p L,RC K a g F (z7 own.length (fr.map (·.2)) C)/\a D=cI/\Ext al H1 a g/\dr K a p B/\zI T k f (z7 own.length (fr.map (·.2)) C) (O.drop i)=bB L/\ds=p++L,
   ⟨_,rfl,Uc _,SN _,zC,al,[],ds,((rc.ext u).pull).upd am P R,am,Ext.hide u.sub hD _,dr.nil,M,rfl⟩,?_⟩
  rintro i m B F g ⟨rfl,hi,hy,S,a,p,L,ad,ao,Y,r',I,rfl⟩;refine⟨S,?_⟩;by_cases Z:i<O.length
  ·refine .inr ⟨wk.go i g Y.s1 Z,?_,λx ap y=>?_⟩
   ·have:=y9<|SN lim;lia
   refine dt λs=>?_;obtain⟨d,hd,hx⟩:=wk.uo i g x ap Y.s1 Z y;obtain⟨G0,U,rg⟩:=hx a Y.s0 ad.sub;refine s ?_;have bi:O.drop i=d::O.drop (i+1):=by
    have bm:=by rw[SH Z]at hd;exact(TJ hd).symm
    rw[bm];exact UN Z
   rw[bi]at I;simp only[zI]at I;refine dt λs=>?_;obtain⟨l,eb,I⟩:=za I;obtain⟨b,ek,I⟩:=za I;have bv:=U.s1 _ _ S;obtain⟨bl,bg⟩:=bq eb;refine s ?_;have aw:∀{G:St} {G2 H2:Hp},RC K G2 H2 G l->RC K G2 H2 G _:=λr=>r.weak bl.symm (λj d' hj=>by
    by_cases hm:j∈T.idx
    ·rcases qI hj with z|⟨d2,j2,_,hn,_⟩
     ·cases z
     ·exact absurd (hT j hm) ⋯
    ·rw[bg j hm];exact hj) P R
   refine Jo U.sub rg eb λNk b2 _=>b9 Nk ap _ ⟨G0,l,b,b2<|ad.ext U,ek,λH3 b3 n=>?_⟩;have W:=(b2<|ad.ext U).ext n;have xa:=Y.trans<|U.trans n;have b5:=n.new D (U.new D ao ⋯) ⋯;have b6:=n.s1 _ _ bv;cases b with
   |true=>
    dsimp only;refine dt λs=>?_;obtain⟨e,ee,I⟩:=za I;obtain⟨k8,er,I⟩:=zq I;refine s ?_;refine⟨b3,l,e,W,ee,λv H4 c9 A r4=>?_⟩;have b7:=A.new D b5 ⋯;have cb:=A.s1 _ _ b6;have N:=xa.trans A;refine⟨cb,_,⋯,rfl,Z,by rw[Tt,UP];lia,zC,c9,p++[e],k8,(aw<|W.ext A).upd b7 P R,b7,⟨N.s0,λc o z=>by rw[zE (λw=>by lia)];exact N.s1 c o z,λc o z=>by rw[zE (λw=>by lia)];exact N.sub c o z,N.new⟩,(r'.mono<|(U.trans<|n.trans A).s0).append (dr.cons r4 dr.nil),er,?_⟩
    ·rw[<-I];simp
   |false=>
    dsimp only;exact⟨_,⋯,rfl,Z,⋯,b6,b3,p,L,aw W,b5,xa,r'.mono<|(U.trans n).s0,I,rfl⟩
  ·have e:i=O.length:=⋯
   subst e;rw[GN]at I;cases I;rw[DC]at q;exact .inl ⟨wk.stop g Y.s1,q D B g a (u.trans Y) (by
   cases z:H D with
   |none=>rfl
   |some o=>rw[u.s1 D o z]at hD;lia) ao S r'⟩
 lia
end
section
variable{X:Cx}{scope:f6}{own:List Str}{fr:List (Str×Nat)}{elt tg iter c:dv}{pos:eU}{src:CO (List D)}{T:Tg}{k:CO Bool}{f:CO D}
theorem EH(I:X.calm=cm)(ok:r6 X scope fr)(J:∀i∈T.idx,i<own.length)(E:sm X tg iter src)(O:∀fp j e,PG (jF X scope (own++fr.map (·.1)) fp j e) tg<|oT X.K T)
 (z:∀fp j e,PV (jF X scope (own++fr.map (·.1)) fp j e) elt f) (hs:∀x,oI iter X.env x=pure x:=by intro _;rfl):
 PO X (.ListComp elt [⟨tg,iter,[],0⟩] scope pos) (zM src T own.length (fr.map (·.2)) ja f):=
 jK (cL I ok E O (λ_ _ _=>Vr) z hs) (Jl J λh H Q U=>by obtain⟨a,g,b,d,Y,q⟩:=U;cases Y;exact q H a<|Ext.refl d.sub)
theorem oS(I:X.calm=cm)(ok:r6 X scope fr)(J:∀i∈T.idx,i<own.length)(E:sm X tg iter src)(O:∀fp j e,PG (jF X scope (own++fr.map (·.1)) fp j e) tg<|oT X.K T)
 (U:∀fp j e,k4 (jF X scope (own++fr.map (·.1)) fp j e) c k) (z:∀fp j e,PV (jF X scope (own++fr.map (·.1)) fp j e) elt f) (hs:∀x,oI iter X.env x=pure x:=by intro _;rfl):
 PO X (.ListComp elt [⟨tg,iter,[c],0⟩] scope pos) (zM src T own.length (fr.map (·.2)) k f):=
 jK (cL I ok E O (λfp j e=>fZ<|U fp j e) z hs) (Jl J λa H Q h=>h)
theorem zdQ(I:X.N.Nodup)(J:X.N[i]? = bB y)(O:Loc X.env.scope y)(U:X.fn y=cm\/X.env.scope.names.lookup y=bB .local)
 (Y:X.calm=cm) (ok:r6 X scope fr) (Z:∀i∈T.idx,i<own.length) (L:sm X tg iter src) (E:∀fp j e,PG (jF X scope (own++fr.map (·.1)) fp j e) tg<|oT X.K T)
 (z:∀fp j e,PV (jF X scope (own++fr.map (·.1)) fp j e) elt f) (hs:∀x,oI iter X.env x=pure x:=by intro _;rfl):
 PS X (.Assign [.Name y py] (.ListComp elt [⟨tg,iter,[],0⟩] scope pos) spos) (bG (tO X.K<|zM src T own.length (fr.map (·.2)) ja f)<|vd i):=
 xS (JG I J O U Y ok L E (λ_ _ _=>Vr) z hs) λD a H h=>Jl Z (λa H Q k=>by obtain⟨d,m,b,l,g,q⟩:=k;cases g;exact q H d<|Ext.refl l.sub) a H _ h
theorem lg(I:X.N.Nodup)(J:X.N[i]? = bB y)(O:Loc X.env.scope y)(U:X.fn y=cm\/X.env.scope.names.lookup y=bB .local)
 (Y:X.calm=cm) (ok:r6 X scope fr) (Z:∀i∈T.idx,i<own.length) (L:sm X tg iter src) (E:∀fp j e,PG (jF X scope (own++fr.map (·.1)) fp j e) tg<|oT X.K T)
 (hk:∀fp j e,k4 (jF X scope (own++fr.map (·.1)) fp j e) c k) (z:∀fp j e,PV (jF X scope (own++fr.map (·.1)) fp j e) elt f) (hs:∀x,oI iter X.env x=pure x:=by intro _;rfl):
 PS X (.Assign [.Name y py] (.ListComp elt [⟨tg,iter,[c],0⟩] scope pos) spos) (bG (tO X.K<|zM src T own.length (fr.map (·.2)) k f)<|vd i):=
 xS (JG I J O U Y ok L E (λfp j e=>fZ<|hk fp j e) z hs) λD a H h=>Jl Z (λa H Q h=>h) a H _ h
end
theorem jv{K:SD}{H:Hp}{i:Int}{v:V}(h:Rep K H (.int i) v):v=.int i:=h
theorem nK{K:SD}{g:Int->Int->D}{J:Int->Int->V}(O:∀H i j,Rep K H (g i j)<|J i j):m6 K (rr J) (dI g):=λa H x y b Z d Q s U Y I q=>by unfold dI at I;split at I<;>cases I;exact⟨_,_,jv U,jv Y,q _ H a (Ext.refl s)<|O a _ _⟩
theorem nJ{K:SD}{C:Int->Int->Prop}{c:Int->Int->Bool}{g:Int->Int->D}{J:Int->Int->V}(O:∀i j,c i j=cm->C i j)(U:∀H i j,Rep K H (g i j)<|J i j):m6 K (rI C J) (D9 c g):=λa H x y b e d Q s Y Z I q=>by
 unfold D9 at I;split at I
 ·split at I<;>cases I
  exact⟨_,_,jv Y,jv Z,O _ _ ‹_›,q _ H a (Ext.refl s)<|U a _ _⟩
 ·cases I
theorem CY{K:SD}:m6 K (rr λi j=>.int (i-j)) QI:=nK λ_ _ _=>rfl
theorem Bj(h:bK i j=cm):Dg i j:=by unfold bK at h;unfold Dg;lia
theorem Ed{K:SD}:m6 K (rI Rx λi j=>.int (i/j)) VX:=nJ (λi j h=>by unfold LD at h;simp only[Td,decide_eq_true_eq,decide_eq_true_eq]at h;exact⟨h.1,⋯⟩) λ_ _ _=>rfl
theorem Eb{K:SD}:m6 K (rI (λ_ j=>0<j) λi j=>.int (i%j)) yi:=nJ (λi j h=>by unfold Nb at h;exact of_decide_eq_true h) λ_ _ _=>rfl
theorem CZ{K:SD}:m6 K (rI Rw λi j=>.int (i^j.toNat)) FM:=nJ (λi j h=>by unfold LC at h;simp only[Td,Td,decide_eq_true_eq,decide_eq_true_eq,decide_eq_true_eq]at h;exact⟨h.1.1,⋯,h.2⟩) λ_ _ _=>rfl
theorem nI{K:SD}:m6 K (rr λi j=>.bl (decide<|i<j)) sv:=nK λ_ _ _=>rfl
theorem J3{K:SD}:m6 K (rr λi j=>.bl (decide<|i<=j)) qs:=nK λ_ _ _=>rfl
theorem BB{K:SD}:m6 K (rr λi j=>.bl (decide<|j<i)) o6:=nK λ_ _ _=>rfl
theorem Hq{K:SD}:m6 K (rr λi j=>.bl (decide<|j<=i)) D8:=nK λ_ _ _=>rfl
section
variable{X:Cx}
noncomputable def BF(K:SD):R2:=λx y H Q=>∃a b d e,x=.ref a/\y=.ref b/\hH K H a d/\hH K H b e/\d.length+e.length<=eK/\
 (d=[]->Q (.ref b) H)/\(e=[]->Q (.ref a) H)/\∀p,H p=cI->Q (.ref p) (upd H p<|.tup<|d++e)
theorem Ad:h6 X (tF .Add) (BF X.K):=by
 intro j s σ H x y v u Q I Z N h;obtain⟨a,b,R,W,rfl,rfl,w,A,i,G,L,M⟩:=h;cases Z;cases N;obtain⟨e,r,J,z1⟩:=I.tuple w;obtain⟨k,f,O,z2⟩:=I.tuple A;by_cases d:R=[]
 ·refine dt λE=>?_;obtain⟨⟨p,t,g,P⟩,U,B,n,C⟩:=id J
  obtain⟨⟨S,l,data2,m⟩,Y,ad,F,o⟩:=id O;refine E ?_;subst B C ad o;exact U3 ⟨_,U,rfl⟩ ⟨_,Y,rfl⟩ _n s_ J' M_ (K_ _ _)
   (tuple_addW0 a b e.toArray k.toArray n F t l P m<|by simp[((r.ON).mpr d)]) ⟨U,Y,⟨.ref b,H,I,rfl,G d⟩⟩
 ·refine HT.OE J O (λz=>d<|(r.ON).mp z) (λz=>⟨.ref a,H,I,rfl,L<|(f.ON).mp z⟩) (λ_=>?_) (by rw[<-r.length,<-f.length];exact i)
  refine⟨.ref _,_,I.laid (λc T q=>SG _ q) (SN _) ?_,rfl,M _<|I.eI.fresh<|SN _⟩;exact⟨by rw[Tt];exact i,_,r.append f,ub.new _ _⟩
noncomputable def HI(K:SD):R2:=λx y H Q=>∃l b a d,x=.ref l/\y=.ref b/\fy K H l a/\fy K H b d/\a.length+d.length<=eK/\∀p,H p=cI->Q (.ref p) (upd H p<|.lst<|a++d)
theorem Ae:h6 X (tF .Add) (HI X.K):=by
 intro i s σ H x y v u Q I C E h;obtain⟨l,b,T,zs,rfl,rfl,w,t,P,q⟩:=h;cases C;cases E;refine dt λz=>?_;obtain⟨a,r,⟨o,n,e,d,f,g⟩,W⟩:=I.list w;obtain⟨J,j,⟨B,A,O,U,Y,Z⟩,z2⟩:=I.list t;have R:=r.length;have S:=j.length;obtain⟨m,mr,N,G⟩:=o;obtain⟨ad,L,M,k⟩:=B;refine z ?_;simp only at d f g U Y Z;subst d f g U Y Z;have p:a.toArray++J.toArray=(a++J).toArray:=by simp
 refine U3 ⟨_,e,rfl⟩ ⟨_,O,rfl⟩ noFill_list_add seq_list_add PySem.F.slot_list_add PySem.F.entry_list_add (PySem.F.args_list_add_2 _ _)
  (list_addW l b a.toArray J.toArray n A cI cI G k<|by rw[SW,SW];lia) ⟨e,O,?_⟩
 rw[p];exact⟨.ref _,_,I.E5 (r.append j) (by rw[Tt];omega),rfl,q _ I.fresh⟩
end
noncomputable def yR(scope e:f6):f6:={scope with names:=scope.names.map λp=>if p.2==UD&&e.kind ==.function&&e.names.lookup p.1==bB .cell then (p.1,MO)else (p.1,p.2)}
theorem iT(scope:f6)(env:ow):uH scope env=yR scope env.scope:=by unfold uH yR;rfl
structure SX(X:Cx)(sc:f6)(N T:List Str)(k:Nat):Prop where
 A9:X.env.scope=sc
 eN:X.N=N
 nd:N.Nodup
 calm:X.calm=cm
 room:kA k X.A
 fn:∀x∈T,X.fn x=cm\/sc.names.lookup x=bB .local
noncomputable def vz(e:f6)(N:List Str)(i:Nat)(x:Str):Bool:=
 decide (N[i]? = bB x)&&(decide (e.names.lookup x=bB .local) || decide (e.names.lookup x=bB .cell) || decide (e.names.lookup x=bB .free))&&!(x==("__debug__" : Str))&&!(x==("__classdict__" : Str))
noncomputable def yC(e:f6)(N T:List Str)(i:Nat)(x:Str):Bool:=decide (x∈T)&&decide (N[i]? = bB x)&&(decide (e.names.lookup x=bB .local) || decide (e.names.lookup x=bB .cell))
noncomputable def k9(e:f6)(x:Str):Bool:=decide (e.names.lookup x=bB .globalImplicit)&&!(x==("__name__" : Str))&&!(x==("__debug__" : Str))
section
variable{X:Cx}{sc:f6}{N T:List Str}{k:Nat}{i:Nat}{x:Str}{pos:eU}
theorem SX.var(h:SX X sc N T k)(c:vz sc N i x=cm):PE X (.Name x pos) (tK i):=by unfold vz at c;simp only[Td,Dc,decide_eq_true_eq,GG]at c;obtain⟨⟨⟨a,O⟩,I⟩,J⟩:=c;refine Im (by rw[h.eN];exact a) ?_ I J;unfold N7;rw[h.A9];lia
theorem SX.loc(h:SX X sc N T k)(c:yC sc N T i x=cm):X.N[i]? = bB x/\L2.Loc X.env.scope x/\(X.fn x=cm\/X.env.scope.names.lookup x=bB .local):=by
 unfold yC at c;simp only[Td,Dc,decide_eq_true_eq]at c;refine⟨by rw[h.eN];exact c.1.2,?_,?_⟩
 ·unfold L2.Loc;rw[h.A9];exact c.2
 ·rw[h.A9];exact h.fn x c.1.1
theorem SX.E6(h:SX X sc N T k):X.N.Nodup:=by rw[h.eN];exact h.nd
theorem SX.uL(h:SX X sc N T k)(i:Nat)(c:yC sc N T i x=cm):PG X (.Name x pos) (vd i):=by obtain⟨a,I,J⟩:=h.loc c;exact pb h.E6 a I J
theorem SX.x_(h:SX X sc N T k)(g:D2 X es (gs is))(I:(uv es X.env).length=is.length:=by rfl)(J:(uv es X.env).findIdx? (·.1)=cI:=by rfl):PG X (.Tuple es j pos) (oT X.K<|.tp is):=
 Il h.calm g I J
theorem SX.set(h:SX X sc N T k)(i:Nat)(c:yC sc N T i x=cm)(j:PE X e te)(hs:tG e (bB (.Name x pos')) pos.line X.env=pure cT:=by rfl):PS X (.Assign [.Name x pos'] e pos) (bG te<|vd i):=by obtain⟨a,I,J⟩:=h.loc c;exact Ia h.E6 a I j hs J
theorem SX.gl(h:SX X sc N T k)(c:k9 sc x=cm):Gl X x/\x ≠ "__name__"/\(x==("__debug__"))=cT:=by
 unfold k9 at c;simp only[Td,decide_eq_true_eq,GG]at c;refine⟨?_,?_,c.2⟩
 ·show X.env.scope.names.lookup x=_
  rw[h.A9];exact c.1.1
 lia
noncomputable def dP(sc scope:f6)(N:List Str)(e:List (Str×Nat)):Bool:=
 decide (scope.kind=.function)&&decide ((scope.names.map (·.1)).Nodup)&&scope.names.all (λp=> !(p.2==UD) || decide (sc.names.lookup p.1=bB .cell) || decide (sc.names.lookup p.1=bB .free))&&
 e.all λp=>decide (scope.names.lookup p.1=bB .free)&&decide (N[p.2]? = bB p.1)
noncomputable def NJ(own:List Str)(scope:f6)(e:List (Str×Nat)):Bool:=decide ((own++e.map (·.1)).Nodup)&&own.all (λx=>decide (scope.names.lookup x=bB .local) || decide (scope.names.lookup x=bB .cell))
theorem SX.z?(h:SX X sc N T k)(c:dP sc scope N fr=cm):r6 X scope fr:=by
 unfold dP at c;simp only[Td,decide_eq_true_eq,Uz,Dc,GG]at c;obtain⟨⟨⟨d,f⟩,g⟩,b⟩:=c;refine⟨d,f,λp a I=>?_,λp a=>⟨(b p a).1,by rw[h.eN];exact(b p a).2⟩⟩;have e:X.env.kindOf p.1=sc.names.lookup p.1:=by show X.env.scope.names.lookup p.1=_;rw[h.A9]
 rw[e];rcases g p a with(q|q)|q
 ·rw[I]at q;exact absurd q ⋯
 ·exact .inl q
 ·exact .inr q
theorem Kk(scope sc:f6)(x:Str):(yR scope sc).names.lookup x=(scope.names.lookup x).map λk=>if (k==UD&&sc.kind ==.function&&sc.names.lookup x==bB .cell)then MO else k:=by
 unfold yR;dsimp only;generalize scope.names=l
 induction l with
 |nil=>rfl
 | cons p r J=>
  obtain⟨n,O⟩:=p;rw[Tw];cases hx:x==n with
  |true=>
   have e:=by simpa using hx
   subst e;dsimp only;split
   ·rename_i I;simp only[UW,UW,beq_self_eq_true];dsimp only[DF];rw[DJ I]
   ·rename_i I;simp only[UW,UW,beq_self_eq_true];dsimp only[DF];rw[DY I]
  |false=>
   dsimp only;split
   ·rw[UW,UW,hx];exact J
   ·rw[UW,UW,hx];exact J
theorem SX.comp(h:SX X sc N T k)(c:NJ own scope fr=cm):
 SX (jF X scope (own++fr.map (·.1)) fp s2 H2) (yR scope sc) (own++fr.map (·.1)) own k:=by
 unfold NJ at c;simp only[Td,decide_eq_true_eq,Uz,Dc]at c;refine⟨?_,rfl,c.1,h.calm,h.room,λx I=>?_⟩
 ·show uH scope X.env=_
  rw[iT,h.A9]
 ·rcases c.2 x I with q|q
  ·right;simp only[Kk,q];rfl
  ·left
   show(scope.names.lookup x==bB .cell)=cm;rw[q];rfl
end
mutual
def js:D->PyData
 |.d9=>.none
 |.bl b=>.bool b
 |.int i=>.int i
 |.str x=>.str x
 |.tup a=>.tuple (o4 a)
 |.lst a=>.list (o4 a)
 |.lp _ _=>.none
 |.mr _ _=>.none
def o4:List D->List PyData
 |[]=>[]
 |d::ds=>js d::o4 ds
end
theorem vv(h:ji (.lp ks vs)=cm):False:=by simp[ji]at h
theorem vu(h:ji (.mr ks vs)=cm):False:=by simp[ji]at h
mutual
theorem LU:∀x y:D,ji x=cm->ji y=cm->uM (js x) (js y)=ip x y
 |.d9,y,_,h=>by cases y<;>first|exact(vv h).elim|exact(vu h).elim|simp[js,uM,ip]
 |.bl a,y,_,h=>by cases y<;>first|exact(vv h).elim|exact(vu h).elim|simp[js,uM,ip]
 |.int a,y,_,h=>by cases y<;>first|exact(vv h).elim|exact(vu h).elim|simp[js,uM,ip]
 |.str a,y,_,h=>by cases y<;>first|exact(vv h).elim|exact(vu h).elim|simp[js,uM,ip]
 |.lp c n,y,h,_=>(vv h).elim
 |.mr c n,y,h,_=>(vu h).elim
 |.tup xs,y,h1,h2=>by
  cases y with
  |tup b=>simp only[ji]at h1 h2;simp only[js,uM,ip];exact OC xs b h1 h2
  |lp c n=>exact(vv h2).elim
  |mr c n=>exact(vu h2).elim
  |_=>simp[js,uM,ip]
 |.lst xs,y,h1,h2=>by
  cases y with
  |lst b=>simp only[ji]at h1 h2;simp only[js,uM,ip];exact OC xs b h1 h2
  |lp c n=>exact(vv h2).elim
  |mr c n=>exact(vu h2).elim
  |_=>simp[js,uM,ip]
theorem OC:∀xs ys:List D,oo xs=cm->oo ys=cm->Si (o4 xs) (o4 ys)=p5 xs ys
 |[],ys,_,_=>by cases ys<;>simp[o4,Si,p5]
 | x::xs,ys,h1,h2=>by
  cases ys with
  |nil=>simp[o4,Si,p5]
  |cons y ys=>
   simp only[oo,Td]at h1 h2;simp only[o4,Si,p5];rw[LU x y h1.1 h2.1,OC xs ys h1.2 h2.2]
end
mutual
theorem OK:∀x:D,ji x=cm->(js x).canLay0=cm
 |.d9,_=>by simp[js,F6]
 |.bl a,_=>by simp[js,F6]
 |.int a,_=>by simp[js,F6]
 |.str a,h=>by simpa[js,F6,ji,PyData.strOk]using h
 |.tup xs,h=>by simp only[ji]at h;simp only[js,F6];exact L4 xs h
 |.lst xs,h=>by simp only[ji]at h;simp only[js,F6];exact L4 xs h
 |.lp c n,h=>(vv h).elim
 |.mr c n,h=>(vu h).elim
theorem L4:∀xs:List D,oo xs=cm->X' (o4 xs)=cm
 |[],_=>by simp[o4,X']
 |x::xs,h=>by simp only[oo,Td]at h;simp only[o4,X'];rw[OK x h.1,L4 xs h.2];rfl
end
mutual
theorem h_:∀x:D,(js x).depth=deep x
 |.d9=>by simp[js,C5,deep]
 |.bl a=>by simp[js,C5,deep]
 |.int a=>by simp[js,C5,deep]
 |.str a=>by simp[js,C5,deep]
 |.lp c n=>by simp[js,C5,deep]
 |.mr c n=>by simp[js,C5,deep]
 |.tup b=>by simp only[js,C5,deep];rw[OB b]
 |.lst b=>by simp only[js,C5,deep];rw[OB b]
theorem OB:∀xs:List D,T3 (o4 xs)=t4 xs
 |[]=>by simp[o4,T3,t4]
 |x::xs=>by simp only[o4,T3,t4];rw[h_ x,OB xs]
end
theorem kN(h:i5 d=cm):ji d=cm:=by unfold i5 at h;rw[Td]at h;exact h.2
theorem vF(h:i5 d=cm):SeqAt.shaped (js d)=cm:=by unfold i5 at h;rw[Td,decide_eq_true_eq]at h;unfold SeqAt.shaped;rw[OK d h.2,Bool.true_and,h_];lia
section
variable{X:Cx}{pins:TW}{σ:St}{H0 H:Hp}{s:ea}
mutual
theorem Dv(I:Inv X pins σ H s)(sub:ft H0 H):∀{d:D} {v:V} {u:dn},ji d=cm->Rep X.K H0 d v->RelV v u->∃J,Reads s.heap u (js d) J
 |.d9,v,u,_,h,r=>by cases (show v=.d9 from h);cases r;exact⟨_,.none⟩
 |.bl b,v,u,_,h,r=>by cases (show v=.bl b from h);cases r;exact⟨_,.bool b⟩
 |.int i,v,u,_,h,r=>by cases (show v=.int i from h);obtain⟨t,rfl⟩:=r;exact⟨_,.int i t⟩
 |.str x,v,u,_,h,r=>by cases (show v=.str x from h);obtain⟨t,rfl⟩:=r;exact⟨_,.str x t⟩
 |.lp c n,v,u,o,_,_=>(vv o).elim
 |.mr c n,v,u,o,_,_=>(vu o).elim
 |.tup ds,v,u,o,h,r=>by obtain⟨a,e,rfl,f,O⟩:=(show ∃a e,v=.ref a/\hH X.K H0 a e/\dr X.K H0 ds e from h);cases r;simp only[ji]at o;obtain⟨j,Q,⟨l,U,Y,n,g⟩,k⟩:=I.tuple<|md sub f;obtain⟨J,Z⟩:=Mw I sub o O Q;exact⟨J,.tuple U Y g<|by simpa using Z⟩
 |.lst ds,v,u,o,h,r=>by obtain⟨a,e,rfl,f,O⟩:=(show ∃a e,v=.ref a/\fy X.K H0 a e/\dr X.K H0 ds e from h);cases r;simp only[ji]at o;obtain⟨j,Q,p,k⟩:=I.list<|sub.seq f;obtain⟨l,U,Y,n,g⟩:=p.isList;obtain⟨J,Z⟩:=Mw I sub o O Q;exact⟨_,.list U Y g<|by simpa using Z⟩
theorem Mw(I:Inv X pins σ H s)(sub:ft H0 H):∀{ds:List D} {xs:List V} {j:List dn},oo ds=cm->dr X.K H0 ds xs->ez xs j->∃J,ReadsAll s.heap j (o4 ds) J
 |[],xs,j,_,h,r=>by rw[h.ro]at r;cases r;exact⟨_,.nil⟩
 | d::ds,xs,j,o,h,r=>by
  obtain⟨x,t,e,a,O⟩:=h.n6;subst e;simp only[oo,Td]at o;cases r with
  |cons Q b=>
   obtain⟨J,U⟩:=Dv I sub o.1 a Q;obtain⟨bs,Y⟩:=Mw I sub o.2 O b;exact⟨_,.cons U Y⟩
end
end
noncomputable def Pw(K:SD):R2:=λx y H Q=>∃a b I,ft a H/\Rep K a b x/\Rep K a I y/\i5 b=cm/\i5 I=cm/\Q (.bl<|ip b I) H
noncomputable def Pv(K:SD):R2:=λx y H Q=>∃a b I,ft a H/\Rep K a b x/\Rep K a I y/\i5 b=cm/\i5 I=cm/\Q (.bl<|!ip b I) H
theorem BP(U:X.A.units+64<u3):h6 X (m3 .Eq) (Pw X.K):=by intro a s l H x y v u Q I Y Z h;refine dt λb=>?_;obtain⟨i,j,k,sub,d,e,J,O,q⟩:=h;obtain⟨as,f⟩:=Dv I sub (kN J) d Y;obtain⟨bs,g⟩:=Dv I sub (kN O) e Z;exact b<|eq_dataH f g (vF J) (vF O) U ⟨.bl _,H,I,by rw[LU _ _ (kN J) (kN O)];rfl,q⟩
theorem pz(U:X.A.units+64<u3):h6 X (m3 .NotEq) (Pv X.K):=by intro a s l H x y v u Q I Y Z h;refine dt λb=>?_;obtain⟨i,j,k,sub,d,e,J,O,q⟩:=h;obtain⟨as,f⟩:=Dv I sub (kN J) d Y;obtain⟨bs,g⟩:=Dv I sub (kN O) e Z;exact b<|ne_dataH f g (vF J) (vF O) U ⟨.bl _,H,I,by rw[LU _ _ (kN J) (kN O)];rfl,q⟩
theorem nL{K:SD}:m6 K (Pw K) fh:=λa H x y b J d Q s O U I q=>by
 unfold fh at I;split at I
 ·rename_i h;cases I;exact⟨a,b,J,s,O,U,h.1,h.2,q _ H a (Ext.refl s) rfl⟩
 lia
theorem bX{K:SD}:m6 K (Pv K) h8:=λa H x y b J d Q s O U I q=>by
 unfold h8 at I;split at I
 ·rename_i h;cases I;exact⟨a,b,J,s,O,U,h.1,h.2,q _ H a (Ext.refl s) rfl⟩
 lia
theorem SX.C3(h:SX X sc N T k):X.A.units+64<u3:=by have:=h.room.un;lia
section
variable{X:Cx}{sc:f6}{N T:List Str}{k:Nat}{a b c:dv}{pos p:eU}{fa fb:CO D}
theorem kh(e:PV X a fa)(I:PV X b fb):PV X (.BinOp a .Sub b pos) (zD QI fa fb):=YC IB CY e I
theorem w4(e:PV X a fa)(I:PV X b fb):PV X (.BinOp a .FloorDiv b pos) (zD VX fa fb):=YC EW Ed e I
theorem j8(e:PV X a fa)(I:PV X b fb):PV X (.BinOp a .Mod b pos) (zD yi fa fb):=YC IE Eb e I
theorem oF(e:PV X a fa)(I:PV X b fb):PV X (.BinOp a .Pow b pos) (zD FM fa fb):=YC ID CZ e I
theorem NS(e:PV X a fa)(I:PV X b fb):PV X (.Compare a [.Lt] [b] pos) (zD sv fa fb):=YB EV nI e I<|yI b
theorem NT(e:PV X a fa)(I:PV X b fb):PV X (.Compare a [.LtE] [b] pos) (zD qs fa fb):=YB W7 J3 e I<|yI b
theorem NU(e:PV X a fa)(I:PV X b fb):PV X (.Compare a [.Gt] [b] pos) (zD o6 fa fb):=YB IF BB e I<|yI b
theorem NV(e:PV X a fa)(I:PV X b fb):PV X (.Compare a [.GtE] [b] pos) (zD D8 fa fb):=YB Ob Hq e I<|yI b
theorem JE(h:SX X sc N T k)(e:PV X a fa)(I:PV X b fb):PV X (.Compare a [.Eq] [b] pos) (zD fh fa fb):=YB (BP h.C3) nL e I<|yI b
theorem NR(h:SX X sc N T k)(e:PV X a fa)(I:PV X b fb):PV X (.Compare a [.NotEq] [b] pos) (zD h8 fa fb):=YB (pz h.C3) bX e I<|yI b
theorem oN(e:PV X a fa)(I:PV X b fb):k4 X (.Compare a [.Lt] [b] pos) (sB<|zD sv fa fb):=X5 EV nI e I<|yI b
theorem X4(e:PV X a fa)(I:PV X b fb):k4 X (.Compare a [.Gt] [b] pos) (sB<|zD o6 fa fb):=X5 IF BB e I<|yI b
theorem jT(h:SX X sc N T k)(e:PV X a fa)(I:PV X b fb):k4 X (.Compare a [.Eq] [b] pos) (sB<|zD fh fa fb):=X5 (BP h.C3) nL e I<|yI b
theorem yG(h:SX X sc N T k)(e:PV X a fa)(I:PV X b fb):k4 X (.Compare a [.NotEq] [b] pos) (sB<|zD h8 fa fb):=X5 (pz h.C3) bX e I<|yI b
theorem XU{K:SD}{H:Hp}{d:D}(h:Rep K H d .d9):d=.d9:=by
 cases d with
 |d9=>rfl
 |bl b=>exact V.noConfusion h
 |int b=>exact V.noConfusion h
 |str b=>exact V.noConfusion h
 |tup b=>obtain⟨a,f,e,_⟩:=h;cases e
 |lst b=>obtain⟨a,f,e,_⟩:=h;cases e
 |lp c n=>obtain⟨a,f,e,_⟩:=h;cases e
 |mr c n=>obtain⟨a,f,e,_⟩:=h;cases e
theorem Ec{K:SD}:m6 K (λx y H Q=>y=.d9/\Q (.bl<|decide<|x=.d9) H) LA:=λa H x y b U d Q s I O J q=>by
 unfold LA at J;split at J<;>cases J;refine⟨O,q _ H a (Ext.refl s) ?_⟩;split
 ·rw[I];rfl
 ·rw[decide_eq_false (λe=>‹b=.d9->False› (by rw[e]at I;exact(XU I)))];rfl
theorem Ex(e:PV X a fa)(I:PV X b fb):k4 X (.Compare a [.Is] [b] pos) (sB<|zD LA fa fb):=X5 BO Ec e I<|yI b
theorem yv{K:SD}{H:Hp}{ds:List D}{v:V}(h:Rep K H (.tup ds) v):∃a xs,v=.ref a/\hH K H a xs/\dr K H ds xs:=h
theorem df{K:SD}{H:Hp}{ds:List D}{v:V}(h:Rep K H (.lst ds) v):∃a xs,v=.ref a/\fy K H a xs/\dr K H ds xs:=h
theorem kK{K:SD}{H:Hp}{ds:List D}{a:dj}{xs:List V}(e:hH K H a xs)(I:dr K H ds xs):Rep K H (.tup ds) (.ref a):=⟨a,xs,rfl,e,I⟩
theorem XT{K:SD}{H:Hp}{ds:List D}{a:dj}{xs:List V}(e:fy K H a xs)(I:dr K H ds xs):Rep K H (.lst ds) (.ref a):=⟨a,xs,rfl,e,I⟩
theorem Ee{K:SD}:m6 K (λx y H Q=>rr (λi j=>.int (i+j)) x y H Q\/BF K x y H Q) qw:=λf H x y r t d Q s Y Z I q=>by
 unfold qw at I;split at I
 ·cases I;exact .inl ⟨_,_,jv Y,jv Z,q _ H f (Ext.refl s) rfl⟩
 ·rename_i o u
  split at I<;>cases I
  rename_i l
  obtain⟨a,m,rfl,g,J⟩:=yv Y;obtain⟨b,n,rfl,h,O⟩:=yv Z;refine .inr ⟨a,b,m,n,rfl,rfl,md s g,md s h,y9 (by rw[J.length,O.length];exact l),λe=>?_,λe=>?_,λp k=>q _ _ _ (Ext.alloc s k _)<|kK (hH.of zC)<|(J.append O).mono (jj (jd s k) _)⟩
  ·have U:=by
    have:=J.length;rw[e]at this;exact Up this.symm
   subst U;exact q _ H f (Ext.refl s)<|kK h O
  ·have U:=by
    have:=O.length;rw[e]at this;exact Up this.symm
   subst U;exact q _ H f (Ext.refl s) (by rw[DC];exact kK g J)
 ·cases I
theorem jt(e:PV X a fa)(I:PV X b fb):PV X (.BinOp a .Add b pos) (zD qw fa fb):=YC (U?.or Ad) Ee e I
end
theorem Y4(Q:A.handled=cI)(k:Sk)(I J:dj)(U:J≠I)(O:Array dn):
 Walks P w A I [I,J] [I] O.size (λi v=>O[i]? = bB v) (λi h=>ij k h I J i/\lK k h J O):=by
 cases k
 ·exact Walks.list Q I J U O
 ·exact Walks.tuple Q I J U O
theorem Ka(e:List Int):∀n,preSum (λi=>e.getD i 0) n=(e.take n).sum
 |0=>by rfl
 | n+1=>by
  simp only[preSum,(Ka e n)];by_cases h:n<e.length
  ·rw[List.take_succ_eq_append_getElem h,List.sum_append]
   simp[h]
  ·rw[Ht ⋯,Ht ⋯]
   simp[h]
section
variable{X:Cx}{pins:TW}{σ:St}{H:Hp}{s:ea}
theorem sA(Z:X.calm=cm):Zz X (.builtin "sum") (λxs H Q=>∃p k ys j,xs=[.ref p]/\i4 k X.K H p ys/\ys=(j:List Int).map V.int/\Q (.int j.sum) H):=by
 intro pins s σ H F E Q I w h;obtain⟨p,k,ys,j,rfl,m,rfl,q⟩:=h;obtain⟨u,rfl,J⟩:=kF w;cases J;obtain⟨a,r,d,B⟩:=I.sq m;have lt:=d.lt;have O:=r.length;rw[Ta]at O;refine call_sum_walkG<|aE d ⟨_,[_,p],[_],a.toArray.size,_,_,λi=>j.getD i 0,rfl,Y4 (A:=X.A.in1) (I.ok.hd Z) k _ p (Tc lt) a.toArray,⟨QF k _ p,d.at λo e=>SG _ e⟩,?_,?_,?_⟩
 ·intro b U
  rw[TH];simp only[SS,Th,or_false]at U;rcases U with rfl|rfl
  ·exact Ur _
  ·exact TY lt
 ·intro i v n
  have Y:=by simpa using n
  have g:i<j.length:=by rw[O];exact(nt.mp Y).1
  obtain⟨u,f,J⟩:=r.get (i:=i) (x:=.int j[i]) (by simp[g]);rw[Y]at f;cases f;obtain⟨t,rfl⟩:=J;exact⟨t,by simp[g]⟩
 ·intro z C y l
  have e:preSum (λi=>j.getD i 0) a.toArray.size=j.sum:=by rw[Ka,Ht (by rw[SW,O];exact SN _)]
  refine⟨.int j.sum,H,I.kept<|λb u e=>l b u ?_ (SG _ e),⟨y,by rw[e]⟩,q⟩;simp only[SS,Th,or_false];exact Tc<|SY e
noncomputable def Hd:V->Option Bool
 |.d9=>bB cT
 |.bl b=>bB b
 |.int i=>bB (i != 0)
 |_=>cI
theorem eY(r:RelV x u)(e:Hd x=bB b)(q:Q b s):wpAny (d8 P w) A (FI u) Q E s:=by
 cases x with
 |d9=>cases r;cases e;exact λ_ _ _=>q
 |bl c=>cases r;cases e;exact UH q
 |int i=>obtain⟨t,rfl⟩:=r;cases e;exact PyProof.Rows.truthy_int q
 |_=>cases e
noncomputable def nj:List V->Option (List Bool)
 |[]=>bB []
 |x::r=>(Hd x).bind λb=>(nj r).map λl=>b::l
theorem XC:∀{xs:List V} {bs:List Bool},nj xs=bB bs->bs.length=xs.length/\∀i x,xs[i]? = bB x->Hd x=bB (bs.getD i cT)
 |[],bs,h=>by cases h;exact⟨rfl,λi x e=>by simp at e⟩
 |y::xs,bs,h=>by
  obtain⟨b,a,h⟩:=za h;obtain⟨l,I,h⟩:=zq h;subst h;obtain⟨d,J⟩:=XC I;refine⟨by simp[d],λi x e=>?_⟩;cases i with
  |zero=>simp at e;subst e;simpa using a
  |succ i=>simpa using J i x (by simpa using e)
theorem zdD(bs:List Bool):(SF bs.length).all (λi=>bs.getD i cT)=bs.all id:=by
 rw[F4];simp only[Uz,SJ,id_eq];constructor
 ·intro h b I
  obtain⟨i,a,e⟩:=List.mem_iff_getElem.mp I;have:=h i a;rw[kr,SH a]at this;rw[<-e];exact this
 ·intro h i a
  rw[kr,SH a];exact h _<|MZ a
theorem sZ(bs:List Bool):(SF bs.length).any (λi=>bs.getD i cT)=bs.any id:=by
 rw[F4];simp only[S8,SJ,id_eq];constructor
 ·rintro⟨i,a,h⟩
  rw[kr,SH a]at h;exact⟨_,MZ a,h⟩
 ·rintro⟨b,I,h⟩
  obtain⟨i,a,e⟩:=List.mem_iff_getElem.mp I;refine⟨i,a,?_⟩;rw[kr,SH a,P5,e];exact h
theorem sH(Y:X.calm=cm):Zz X (.builtin "all") (λxs H Q=>∃p k ys bs,xs=[.ref p]/\i4 k X.K H p ys/\nj ys=bB bs/\Q (.bl (bs.all id)) H):=by
 intro pins s σ H M L Q I Z h;obtain⟨p,k,ys,bs,rfl,t,w,q⟩:=h;obtain⟨u,rfl,J⟩:=kF Z;cases J;obtain⟨a,r,d,E⟩:=I.sq t;have O:=r.length;obtain⟨j,l⟩:=XC w;refine call_all_walk<|aE d ⟨_,[_,p],[_],a.toArray.size,_,_,λi=>bs.getD i cT,rfl,Y4 (A:=X.A.in1) (I.ok.hd Y) k _ p (Tc d.lt) a.toArray,⟨QF k _ p,d.at λo e=>SG _ e⟩,?_,?_⟩
 ·intro i v F B z y m
  have U:=by simpa using y
  have g:i<ys.length:=by rw[O];exact(nt.mp U).1
  obtain⟨u,f,J⟩:=r.get (i:=i) (x:=ys[i]) (by simp[g]);rw[U]at f;cases f;exact eY J (l i ys[i] (by simp[g])) m
 ·intro C G n
  have e:(SF a.toArray.size).all (λi=>bs.getD i cT)=bs.all id:=by rw[SW,<-O,<-j];exact zdD bs
  refine⟨_,H,I.kept<|λb u e=>n b u ?_ (SG _ e),by rw[e];rfl,q⟩;simp only[SS,Th,or_false];exact Tc<|SY e
theorem sG(Y:X.calm=cm):Zz X (.builtin "any") (λxs H Q=>∃p k ys bs,xs=[.ref p]/\i4 k X.K H p ys/\nj ys=bB bs/\Q (.bl (bs.any id)) H):=by
 intro pins s σ H M L Q I Z h;obtain⟨p,k,ys,bs,rfl,t,w,q⟩:=h;obtain⟨u,rfl,J⟩:=kF Z;cases J;obtain⟨a,r,d,E⟩:=I.sq t;have O:=r.length;obtain⟨j,l⟩:=XC w;refine call_any_walk<|aE d ⟨_,[_,p],[_],a.toArray.size,_,_,λi=>bs.getD i cT,rfl,Y4 (A:=X.A.in1) (I.ok.hd Y) k _ p (Tc d.lt) a.toArray,⟨QF k _ p,d.at λo e=>SG _ e⟩,?_,?_⟩
 ·intro i v F B z y m
  have U:=by simpa using y
  have g:i<ys.length:=by rw[O];exact(nt.mp U).1
  obtain⟨u,f,J⟩:=r.get (i:=i) (x:=ys[i]) (by simp[g]);rw[U]at f;cases f;exact eY J (l i ys[i] (by simp[g])) m
 ·intro C G n
  have e:(SF a.toArray.size).any (λi=>bs.getD i cT)=bs.any id:=by rw[SW,<-O,<-j];exact sZ bs
  refine⟨_,H,I.kept<|λb u e=>n b u ?_ (SG _ e),by rw[e];rfl,q⟩;simp only[SS,Th,or_false];exact Tc<|SY e
end
section
variable{X:Cx}{sc:f6}{N T:List Str}{k:Nat}{e a b c:dv}{pos p:eU}{f g:CO D}{fq:CO (Sk×List D)}
theorem Hn{K:SD}{H:Hp}{k:Sk}{a:dj}{xs:List V}(h:i4 k K H a xs):fy K H a xs\/hH K H a xs:=by
 cases k
 ·exact .inl h
 ·exact .inr h
theorem qU(h:SX X sc N T k)(c:k9 sc "len" = cm)(z:X.mg "len" = cI)(I:PQ X e fq)(hs:eA [e] X.env=[(cT,dy e X.env)]:=by rfl):PV X (.Call (.Name "len" p) [e] [] pos) (XN fq):=
 jK (yh bc (h.gl c).1 z PySem.boot_len (z9 I jM hs) ⋯ ⋯ hs rfl) λt H Q J=>by refine dt λO=>?_;obtain⟨g,s,d,n,U,q⟩:=J;obtain⟨⟨m,i⟩,j,Y⟩:=zq U;refine O ?_;subst Y;exact⟨g,s,m,i,n,j,λa o f b ext l Z r=>⟨a,o,rfl,Hn l,q _ f b ext (show _=_ by rw[r.length])⟩⟩
theorem jx(h:SX X sc N T k)(c:k9 sc "tuple" = cm)(z:X.mg "tuple" = cI)(J:PQ X e fq)(hs:eA [e] X.env=[(cT,dy e X.env)]:=by rfl):PV X (.Call (.Name "tuple" p) [e] [] pos) (jg fq):=
 jK (vO V4 (h.gl c).1 z PyProof.Rows.boot_tuple (z9 J jM hs) ⋯ ⋯ hs rfl) λw H Q O=>by
  refine dt λU=>?_;obtain⟨j,u,d,s,Y,q⟩:=O;obtain⟨⟨g,m⟩,n,Z⟩:=zq Y;refine U ?_;subst Z;refine⟨j,u,g,m,s,n,λa t i b ext f o r=>⟨a,t,rfl,?_⟩⟩;cases g with
  |L=>exact .inl ⟨f,λl I=>q _ _ _ (ext.trans<|Ext.alloc ext.sub I _)<|kK (hH.of zC)<|r.mono<|jj (jd ext.sub I) _⟩
  |T=>exact .inr ⟨f,q _ i b ext (kK (o rfl) r)⟩
theorem xj{H j:Hp}(s:ft H j){a:dj}(h:j a=cI):H a=cI:=by
 cases z:H a with
 |none=>rfl
 |some o=>rw[s a o z]at h;cases h
theorem EG(h:SX X sc N T k)(c:k9 sc "list" = cm)(z:X.mg "list" = cI)(J:PQ X e fq)(hs:eA [e] X.env=[(cT,dy e X.env)]:=by rfl):PO X (.Call (.Name "list" p) [e] [] pos) (nX fq):=
 jK (vO aZ (h.gl c).1 z K' (z9 J jM hs) ⋯ ⋯ hs rfl) λw H Q O=>by refine dt λU=>?_;obtain⟨g,s,d,o,Y,q⟩:=O;obtain⟨⟨n,i⟩,j,Z⟩:=zq Y;refine U ?_;subst Z;exact⟨g,s,n,i,o,j,λa f t b ext m u r=>⟨a,f,rfl,Hn m,λl I=>q l f _ b (ext.trans<|Ext.hide ext.sub I _) (xj ext.s1 I) (jd ext.sub I) zC r⟩⟩
theorem WB:∀{ds:List D} {n:Int},fu ds=bB n->∃j:List Int,ds=j.map D.int/\n=j.sum
 |[],n,h=>by cases h;exact⟨[],rfl,rfl⟩
 | d::ds,n,h=>by
  cases d with
  |int i=>
   obtain⟨s,e,h⟩:=zq h;obtain⟨j,rfl,rfl⟩:=WB e;exact⟨i::j,rfl,by rw[<-h];simp⟩
  |_=>cases h
theorem WU{K:SD}{H:Hp}:∀{j:List Int} {xs:List V},dr K H (j.map D.int) xs->xs=j.map V.int
 |[],xs,h=>h.ro
 |z::j,xs,h=>by obtain⟨x,r,e,a,I⟩:=dr.n6 h;rw[e,jv a,WU I];rfl
theorem QA(h:SX X sc N T k)(c:k9 sc "sum" = cm)(z:X.mg "sum" = cI)(J:PQ X e fq)(hs:eA [e] X.env=[(cT,dy e X.env)]:=by rfl):PV X (.Call (.Name "sum" p) [e] [] pos) (iN fq):=
 jK (yh (sA h.calm) (h.gl c).1 z PyProof.Rows.boot_sum (z9 J jM hs) ⋯ ⋯ hs rfl) λy H Q O=>by refine dt λU=>?_;obtain⟨i,u,d,o,I,q⟩:=O;obtain⟨⟨f,w⟩,j,I⟩:=za I;obtain⟨n,Y,Z⟩:=zq I;subst Z;obtain⟨t,l,rfl⟩:=WB Y;refine U ?_;subst l;exact⟨i,u,f,_,o,j,λa s g b ext m x r=>⟨a,f,s,t,rfl,m,WU r,q _ g b ext rfl⟩⟩
theorem CI{K:SD}{H:Hp}{d:D}{x:V}{b:Bool}(h:Rep K H d x)(e:Mo d=bB b):Hd x=bB b:=by
 cases d with
 |d9=>cases h;exact e
 |bl c=>cases h;exact e
 |int i=>cases h;exact e
 |_=>cases e
theorem Y9{K:SD}{H:Hp}:∀{ds:List D} {xs:List V} {bs:List Bool},dr K H ds xs->QM ds=bB bs->nj xs=bB bs
 |[],xs,bs,h,e=>by rw[h.ro];exact e
 |d::ds,xs,bs,h,e=>by obtain⟨x,r,I,f,J⟩:=h.n6;obtain⟨b,a,e⟩:=za e;obtain⟨l,O,e⟩:=zq e;subst I e;show(Hd x).bind _=_;rw[CI f a];rw[Y9 J O];rfl
theorem X3(h:SX X sc N T k)(c:k9 sc "all" = cm)(z:X.mg "all" = cI)(J:PQ X e fq)(hs:eA [e] X.env=[(cT,dy e X.env)]:=by rfl):PV X (.Call (.Name "all" p) [e] [] pos) (uA fq):=
 jK (yh (sH h.calm) (h.gl c).1 z PyProof.Rows.boot_all (z9 J jM hs) ⋯ ⋯ hs rfl) λu H Q O=>by refine dt λU=>?_;obtain⟨i,o,d,m,I,q⟩:=O;obtain⟨⟨f,s⟩,j,I⟩:=za I;obtain⟨bs,Y,Z⟩:=zq I;refine U ?_;subst Z;exact⟨i,o,f,_,m,j,λa n g b ext l t r=>⟨a,f,n,bs,rfl,l,Y9 r Y,q _ g b ext rfl⟩⟩
theorem BI(h:SX X sc N T k)(c:k9 sc "any" = cm)(z:X.mg "any" = cI)(J:PQ X e fq)(hs:eA [e] X.env=[(cT,dy e X.env)]:=by rfl):PV X (.Call (.Name "any" p) [e] [] pos) (GF fq):=
 jK (yh (sG h.calm) (h.gl c).1 z PyProof.Rows.boot_any (z9 J jM hs) ⋯ ⋯ hs rfl) λu H Q O=>by refine dt λU=>?_;obtain⟨i,o,d,m,I,q⟩:=O;obtain⟨⟨f,s⟩,j,I⟩:=za I;obtain⟨bs,Y,Z⟩:=zq I;refine U ?_;subst Z;exact⟨i,o,f,_,m,j,λa n g b ext l t r=>⟨a,f,n,bs,rfl,l,Y9 r Y,q _ g b ext rfl⟩⟩
theorem vL(h:SX X sc N T k)(c:k9 sc "int" = cm)(z:X.mg "int" = cI)(O:PV X e f)(hs:eA [e] X.env=[(cT,dy e X.env)]:=by rfl):PV X (.Call (.Name "int" p) [e] [] pos) (ZM f):=
 jK (vO sF (h.gl c).1 z L' (z9 O jM hs) ⋯ ⋯ hs rfl) λo H Q U=>by
  obtain⟨j,n,d,m,I,q⟩:=U;obtain⟨J,l,I⟩:=za I;refine⟨j,n,J,m,l,λv g a ext r=>?_⟩;cases J with
  |int i=>cases I;exact .inl ⟨i,by rw[jv r],q _ g a ext rfl⟩
  |bl b=>cases I;exact .inr ⟨b,by rw[r],q _ g a ext rfl⟩
  |_=>cases I
theorem oG(h:SX X sc N T k)(c:k9 sc "max" = cm)(z:X.mg "max" = cI)(E:PV X a f)(U:PV X b g)(hs:eA [a,b] X.env=[(cT,dy a X.env),(cT,dy b X.env)]:=by rfl)(J:eA [b] X.env=[(cT,dy b X.env)]:=by rfl):
 PV X (.Call (.Name "max" p) [a,b] [] pos) (nV f g):=
 jK (yh (sD h.calm) (h.gl c).1 z PyProof.Rows.boot_max (z9 E (z9 U jM J)<|by rw[hs,J]) ⋯ ⋯ (by rw[hs,J]) (by rw[J];rfl)) λK H Q Y=>by refine dt λZ=>?_;obtain⟨s,o,d,n,I,q⟩:=Y;obtain⟨i,l,I⟩:=za I;obtain⟨w,A,l⟩:=za l;obtain⟨j,O,I⟩:=zq I;obtain⟨y,B,O⟩:=za O;refine Z ?_;subst I;refine⟨s,o,w,n,A,λv F e x r=>⟨e,o,y,n.ext x,B,λG t u C m=>⟨i,j,?_,q _ t u (x.trans C) rfl⟩⟩⟩;rw[jD l]at r;rw[jD O]at m;rw[jv r,jv m]
end
section
variable{X:Cx}{sc:f6}{N T:List Str}{k:Nat}{e a b c:dv}{pos p p2:eU}{f g:CO D}{fq:CO (Sk×List D)}
theorem gJ(h:g5 n i=bB j):B1 n i=bB j:=by
 unfold g5 at h;unfold B1;split at h
 ·rename_i a;rw[DJ a.1,DJ a.2];exact h
 ·split at h
  ·rename_i a I;rw[DY ⋯,DJ ⋯];exact h
  ·cases h
theorem zv(E:PQ X a fq)(Z:PV X b g)(hs:eD b:=by intro _ _;rfl):PV X (.Subscript a b pos) (di fq g):=
 jK (Iv (K?.or Lb) E Z hs) λP H Q B=>by
  refine dt λF=>?_;obtain⟨o,n,d,m,I,q⟩:=B;obtain⟨⟨l,w⟩,y,I⟩:=za I;obtain⟨i,O,I⟩:=za I;obtain⟨u,z,O⟩:=za O;obtain⟨j,A,I⟩:=za I;refine F ?_;refine⟨o,n,l,w,m,y,λp h K e ext k M r=>⟨e,n,u,m.ext ext,z,λN s t J f=>?_⟩⟩;rw[jD O]at f;obtain⟨x,C,G⟩:=r.get I;have U:x7 h i=bB x:=by unfold x7;rw[r.length,gJ A];exact C
  have Y:=q x s t (ext.trans J)<|G.mono J.s0;cases l with
  |L=>exact .inl ⟨p,h,i,x,rfl,jv f,J.s1.seq k,U,Y⟩
  |T=>exact .inr ⟨p,h,i,x,rfl,jv f,md J.s1 k,U,Y⟩
theorem JT{P:gg}{w:fA}{A:kb}{E:EQ}{s:ea}{t H:dj}{I:Array dn}{O U:dn}{lo j:Option Int}{Q:EQ}(J:DS s.heap t I)(hs:s.heap.IsSliceOf H O U .none)(pl:uR O lo)(Y:uR U j)
 (z:HT.di I.size 0 lo=0/\HT.di I.size I.size j=I.size) (h:Q (.ref t) s):wpAny (d8 P w) A (u9 (.ref t)<|.ref H) Q E s:=by
 obtain⟨os,Z,a,b⟩:=id hs;unfold u9
 try with_reducible refine tx ?_
 first|refine SE (SM ?_)|skip
 refine SE<|wpAny_sequenceKey J.typeIs ⋯ ?_;refine SE (TU J.typeIs Uw
  (Uk Uw J.typeIs entry_tuple_getitem ?_ (u? _ _)))
 show wpAny _ _ (Builtin.Tuple.tupleItemsOf (.ref t) >>= _) _ _ s;refine SE<|Nd J ?_;refine SE<|DI ⟨os,Z,a⟩ ?_;rw[DJ ⋯];refine SE<|HT.QN hs pl Y ?_;show wpAny _ _ (if _=cm then _ else _) _ _ s;rw[DJ (by
  rw[z.1,z.2];simp)]
 refine SE ?_;unfold Builtin.Tuple.tupleIsExact;refine SE<|DI J.typeIs<|SM ?_;rw[DJ ⋯];exact SE<|z4<|SM ⟨_,rfl,SM h⟩
noncomputable def NO(K:SD):V->Option Int->Option Int->Hp->VK->Prop:=λx lo d H Q=>∃a b,x=.ref a/\hH K H a b/\(HT.di b.length 0 lo=0/\HT.di b.length b.length d=b.length->Q (.ref a) H)/\∀p,H p=cI->Q (.ref p) (upd H p<|.tup<|FQ b lo d)
theorem Ef:D3 X (NO X.K):=by
 intro d s p H x v Z o lo g n Q I J i j O h;obtain⟨a,b,rfl,U,l,m⟩:=h;by_cases e:HT.di b.length 0 lo=0/\HT.di b.length b.length g=b.length
 ·cases J
  obtain⟨f,r,Y,t⟩:=I.tuple U;have k:f.toArray.size=b.length:=by rw[SW];exact r.length.symm
  exact⟨"tuple",_,Uw.lookup,Y.typeIs,JT Y i j O (by rw[k];exact e) ⟨.ref a,H,I,rfl,l e⟩⟩
 ·exact Hr d s p H (.ref a) v Z o lo g n Q I J i j O ⟨a,b,rfl,U,e,m⟩
theorem Xl(n d:Nat)(o:Option Int):VY n d o=HT.di n d o:=by cases o<;>rfl
theorem fO{K:SD}{H:Hp}{ds:List D}{xs:List V}(r:dr K H ds xs)(lo j:Option Int):dr K H (gW ds lo j) (FQ xs lo j):=by unfold gW FQ;rw[<-Xl,<-Xl,r.length];exact(r.drop _).take _
theorem sk{ds:List D}{lo j:Option Int}(h:HT.di ds.length 0 lo=0/\HT.di ds.length ds.length j=ds.length):gW ds lo j=ds:=by unfold gW;simp only[Xl,Xl,h.1,h.2];simp
noncomputable def tB(K:SD)(f:CO (Option Int)):TO:=λg H Q=>∃d e o,RC K d H g e/\f e=bB o/\∀b a,Ext d H a b->Q o b
theorem ke:L2.PO X cI (tB X.K Xa):=λa s e H Q I J=>by obtain⟨b,f,o,d,O,q⟩:=J;exact EF a s e H Q I (by cases O;exact q H b<|Ext.refl d.sub)
theorem qm(h:PV X e f):L2.PO X (bB e) (tB X.K<|h9 f):=λa s n H Q I ⟨k,m,o,l,J,q⟩=>EE h a s n H Q I (by
 obtain⟨i,g,O⟩:=zq J;obtain⟨d,U,g⟩:=za g;subst O;refine⟨k,m,d,l,U,λv j b x r=>?_⟩;rw[jD g]at r;exact⟨i,jv r,q j b x⟩)
theorem WW{lo j:Option dv}{U Y:CO (Option Int)}(E:PV X a f)(M:L2.PO X lo (tB X.K U))(L:L2.PO X j (tB X.K Y)):PV X (.Subscript a (.Slice lo j cI p2) pos) (nT f U Y):=
 jK (Vt Ef E M L) λS H Q C=>by
  refine dt λF=>?_;obtain⟨o,h,d,g,I,q⟩:=C;obtain⟨Z,z,I⟩:=za I;obtain⟨l,A,I⟩:=za I;obtain⟨u,B,I⟩:=za I;refine F ?_;refine⟨o,h,Z,g,z,λv N e x r=>⟨e,h,l,g.ext x,A,λP w J=>⟨w,h,u,(g.ext x).ext J,B,λs y b=>?_⟩⟩⟩;have n:=x.trans<|J.trans b;cases Z with
  | tup R=>
   cases I;obtain⟨t,G,rfl,i,O⟩:=yv<|r.mono (J.trans b).s0;refine⟨t,G,rfl,md b.sub i,λm=>?_,λp k=>q _ _ _ (n.trans<|Ext.alloc b.sub k _)<|kK (hH.of zC)<|(fO O _ _).mono (jj (jd b.sub k) _)⟩
   ·rw[O.length]at m
    exact q _ s y n (by rw[sk m];exact kK i O)
  |_=>cases I
theorem Vm{K:SD}{H:Hp}{ds:List D}{xs:List V}(r:dr K H ds xs):∀n,dr K H (SI n ds).flatten (SI n xs).flatten
 |0=>dr.nil
 |n+1=>by exact r.append<|Vm r n
theorem YF(z:PQ X a fq)(E:PQ X b gq):PO X (.BinOp a .Add b pos) (WQ fq gq):=
 jK (uW Ae z E) λM H Q w=>by
  refine dt λA=>?_;obtain⟨k,j,F,g,I,q⟩:=w;obtain⟨⟨x,U⟩,r,I⟩:=za I;obtain⟨⟨y,Y⟩,s,I⟩:=za I;refine A ?_;cases x<;>cases y<;>try (simp at I;done)
  dsimp only at I;by_cases O:U.length+Y.length<=lim
  ·rw[DJ O]at I;cases I
   exact⟨k,j,.L,U,g,r,λl h B n e t G Z=>⟨n,j,.L,Y,g.ext e,s,λm i C o J u K f=>⟨l,m,h,i,rfl,rfl,J.s1.seq t,u,y9 (by rw[Z.length,f.length];exact O),λp d=>q p (h++i) _ o (e.trans<|J.trans<|Ext.hide J.sub d _) (xj (e.trans J).s1 d) (jd J.sub d) zC<|(Z.mono J.s0).append f⟩⟩⟩
  ·rw[DY O]at I;cases I
theorem Ig(z:PO X a gn)(E:PV X b g):PO X (.BinOp a .Mult b pos) (Ek (je gn) g):=
 jK (uW IC z E) λN H Q w=>by
  obtain⟨l,k,C,i,I,q⟩:=w;obtain⟨⟨K,Y⟩,d,I⟩:=za I;obtain⟨B,s,d⟩:=zq d;cases d;obtain⟨j,U,I⟩:=za I;obtain⟨r,t,U⟩:=za U;dsimp only at I;by_cases O:Y.length*j.toNat<=lim/\inR j=cm
  ·rw[DJ O]at I;cases I
   refine⟨l,k,Y,i,s,λm x y n f F G u Z=>⟨n,k,r,i.ext f,t,λv A o J h=>?_⟩⟩;rw[jD U]at h;obtain⟨L,M⟩:=Kw O.2;exact⟨m,j,x,rfl,jv h,J.s1 _ _ u,⋯,⋯,y9 (by rw[Z.length];exact O.1),λp e=>q p _ _ o (f.trans<|J.trans<|Ext.hide J.sub e _) (xj (f.trans J).s1 e) (jd J.sub e) zC<|(Vm Z _).mono J.s0⟩
  ·rw[DY O]at I;cases I
theorem IR{K:SD}{t c:String}{b:Bool}(h:(if ((wy t) ==.type c)=cm then bB cm else if PySem.W.kitMeta c=cm then (fastBuiltinMro t).map (·.contains (.type c))else cI)=bB b):Dd K (.type t) (.type c)=bB b:=h
noncomputable def ME:Ty->String
 |.int=>"int"
 |.bool=>"bool"
 |.str=>"str"
 |.tuple=>"tuple"
 |.list=>"list"
noncomputable def IS:D->String
 |.d9=>"NoneType"
 |.bl _=>"bool"
 |.int _=>"int"
 |.str _=>"str"
 |.tup _=>"tuple"
 |.lst _=>"list"
 |.lp _ _=>"dict"
 |.mr _ _=>"dict"
theorem ko{K:SD}(T:Ty)(d:D):Dd K (.type<|IS d) (.type<|ME T)=bB (AG T d):=by cases d<;>cases T<;>(dsimp only[IS,ME,AG,Ce,Ld,Cb,Ca,Cd];exact IR ⋯)
theorem AF{j:TW}{M:St}{L H:Hp}{s:ea}{A:kb}{E:EQ}{Q:EQ}{d:D}{x:V}{u:dn}(I:Inv X j M H s)(sub:ft L H)(J:RelV x u)(r:Rep X.K L d x)(T:Ty)
 (h:∀Z,Q (.bool (AG T d)) {s with toks:=Z}):wpAny (d8 X.prog X.w) A (call (.builtin "isinstance") [u,.type (ME T)]) Q E s:=by
 cases d with
 |d9=>cases r;cases J;exact C9 PySem.W.kitx_none I.i8 tI (ko (K:=X.K) T .d9) (λz=>nomatch z) h
 |bl y=>cases r;cases J;exact C9 PySem.W.kitx_bool I.i8 tI (ko (K:=X.K) T<|.bl y) (λz=>nomatch z) h
 |int i=>cases r;obtain⟨t,q⟩:=(J);cases q;exact C9 PySem.W.kitx_int I.i8 tI (ko (K:=X.K) T<|.int i) (λz=>nomatch z) h
 |str y=>cases r;obtain⟨t,q⟩:=(J);cases q;exact C9 PySem.W.kitx_str I.i8 tI (ko (K:=X.K) T<|.str y) (λz=>nomatch z) h
 |tup f=>
  have e:=ko (K:=X.K) T<|.tup f;obtain⟨a,m,rfl,b,U⟩:=yv r;cases (show u=w8 a from J);obtain⟨g,F,⟨o,O,Y,_⟩,B⟩:=I.tuple<|md sub b;exact C9 PySem.W.kitx_tuple I.i8 ⟨o,O,Y⟩ e (λz=>nomatch z) h
 |lst f=>
  have e:=ko (K:=X.K) T<|.lst f;obtain⟨a,m,rfl,b,U⟩:=df r;cases J;refine dt λC=>?_;obtain⟨g,F,p,B⟩:=I.list<|sub.seq b;obtain⟨o,O,Y,_⟩:=p.isList;exact C<|C9 PySem.W.kitx_list I.i8 ⟨o,O,Y⟩ e (λz=>nomatch z) h
 |lp k l=>
  obtain⟨a,m,rfl,⟨G,_,_,o,b⟩,_⟩:=(r);cases J;obtain⟨_,_,_,_,_,n⟩:=(I.eI a _<|sub _ _ b);exact C9 Rg I.i8 n.typeIs (ko (K:=X.K) T<|.lp k l) (λz=>nomatch z) h
 |mr k l=>
  obtain⟨a,m,rfl,⟨_,o,N,b,U,_⟩,_⟩:=(r);cases J;obtain⟨O,_⟩:=(I.eI a _<|sub _ _ b);exact C9 Rg I.i8 ⟨o,O,U.1.1⟩ (ko (K:=X.K) T<|.mr k l) (λz=>nomatch z) h
theorem HN(T:Ty)(h:SX X sc N L k)(c:k9 sc "isinstance" = cm)(z:X.mg "isinstance" = cI)(c2:k9 sc ty=cm)(M:X.mg ty=cI)(U:u0 ty=bB (.type (ME T)))(E:PV X a f)
 (hs:eA [a,.Name ty p2] X.env=[(cT,dy a X.env),(cT,dy (.Name ty p2) X.env)]:=by rfl):PV X (.Call (.Name "isinstance" p) [a,.Name ty p2] [] pos) (Dw T f):=by
 intro e s F H Q I ⟨i,C,d,y,Y,q⟩;obtain⟨O,n,Z⟩:=zq Y;subst Z;refine C6<|xU I (h.gl c).1 z zcA ?_ ⋯ ⋯;refine I_ ?_ (by rw[hs];rfl) rfl;rw[hs];refine UI<|ed (E e s F H _ I ⟨i,C,O,y,n,λv g b x r=>(show(λv g=>∃b,Ext i H b g/\Rep X.K b O v) v g from⟨b,x,r⟩)⟩) λu G o=>?_;refine dt λt=>?_;obtain⟨x,j,J,w,m,l,A⟩:=o;refine t ?_;exact UI<|xU J (h.gl c2).1 M U (F7<|AF J l.sub w A T λB=>⟨.bl _,j,J.tok B,rfl,q _ j m l rfl⟩) (h.gl c2).2.1 (h.gl c2).2.2
end
section
variable{X:Cx}{sc:f6}{N L:List Str}{k:Nat}{e a b c:dv}{pos p p2:eU}{f g:CO D}{fq:CO (Sk×List D)}
theorem jC(h:SX X sc N L k)(c:k9 sc "range" = cm)(z:X.mg "range" = cI)(j:PV X a f)(hs:eA [a] X.env=[(cT,dy a X.env)]:=by rfl):g9 X tg (.Call (.Name "range" p) [a] [] pos) (jr f):=lr (h.gl c).1 z j hs
theorem gb(h:SX X sc N L k)(c:k9 sc "range" = cm)(z:X.mg "range" = cI)(j:PV X a f)(I:PV X b g)(hs:eA [a,b] X.env=[(cT,dy a X.env),(cT,dy b X.env)]:=by rfl)(J:eA [b] X.env=[(cT,dy b X.env)]:=by rfl):
 g9 X tg (.Call (.Name "range" p) [a,b] [] pos) (Vk f g):=lq (h.gl c).1 z j I hs J
theorem w6(h:SX X sc N L k)(c:k9 sc "zip" = cm)(z:X.mg "zip" = cI)(j:PV X a f)(I:PV X b g)(hs:eA [a,b] X.env=[(cT,dy a X.env),(cT,dy b X.env)]:=by rfl)(J:eA [b] X.env=[(cT,dy b X.env)]:=by rfl):
 g9 X (.Tuple elts x1 tH) (.Call (.Name "zip" p) [a,b] [] pos) (bH f g):=EK (h.gl c).1 z j I hs J
theorem oH(h:SX X sc N L k)(c:k9 sc "isinstance" = cm)(z:X.mg "isinstance" = cI)(c2:k9 sc "int" = cm)(E:X.mg "int" = cI)(j:PV X a f)
 (hs:eA [a,.Name "int" p2] X.env=[(cT,dy a X.env),(cT,dy (.Name "int" p2) X.env)]:=by rfl):PV X (.Call (.Name "isinstance" p) [a,.Name "int" p2] [] pos) (Dw .int f):=HN .int h c z c2 E L' j hs
theorem iW(h:SX X sc N L k)(c:k9 sc "isinstance" = cm)(z:X.mg "isinstance" = cI)(c2:k9 sc "bool" = cm)(E:X.mg "bool" = cI)(j:PV X a f)
 (hs:eA [a,.Name "bool" p2] X.env=[(cT,dy a X.env),(cT,dy (.Name "bool" p2) X.env)]:=by rfl):PV X (.Call (.Name "isinstance" p) [a,.Name "bool" p2] [] pos) (Dw .bool f):=HN .bool h c z c2 E PyProof.Rows.boot_bool j hs
theorem zdJ(z:PQ X a fq)(E:∀I,B0 a X.env I=(do let v<-I;y6 a.pos;rn [v] (FI v)):=by intro _;rfl):k4 X a (Hx fq):=
 X6 (zdK z E) λn H Q J=>by
  refine dt λO=>?_;obtain⟨j,m,t,l,U,q⟩:=J;obtain⟨⟨h,b⟩,k,Y⟩:=zq U;refine O ?_;subst Y;refine⟨j,m,h,b,l,k,λp d i f ext g Z r=>⟨!b.isEmpty,?_,q i f ext⟩⟩;have e:d.isEmpty=b.isEmpty:=by have:=r.length;cases d<;>cases b<;>simp_all
  rw[<-e];cases h with
  |L=>exact .inl ⟨d,g,rfl⟩
  |T=>exact .inr<|.inl ⟨d,g,rfl⟩
theorem WZ(j:PV X a f):PV X (.UnaryOp .USub a pos) (fG f):=
 jK (Oa GY j) λm H Q I=>by obtain⟨h,l,d,k,J,q⟩:=I;obtain⟨i,e,O⟩:=zq J;obtain⟨U,Y,e⟩:=za e;subst O;refine⟨h,l,U,k,Y,λv g b x r=>?_⟩;rw[jD e]at r;exact⟨i,jv r,q _ g b x rfl⟩
theorem yz(i:Nat)(h:SX X sc N L k)(c:vz sc N i x=cm)(j:PV X a f)(hs:eA [a] X.env=[(cT,dy a X.env)]:=by rfl)
 (I:x8 (.Name x np) "append" X.env (dy (.Name x np) X.env)=dy (.Name x np) X.env:=by rfl)
 (J:((oe cpos<|starEach [a] X.env).all (λx=> !x.1)&&(yg cpos<|keywordEach [] X.env).all (λx=>x.1.isSome)
   &&decide ([a].length+([]:List tr).length+(if ([]:List tr).isEmpty then 0 else 1)<30))=cm:=by rfl)
 (O:(apos.endLine==cpos.line)=cm:=by rfl) (Q:tG (.Call (.Attribute (.Name x np) "append" apos) [a] [] cpos) cI pos.line X.env=pure cT:=by rfl):
 i6 X (.Expr (.Call (.Attribute (.Name x np) "append" apos) [a] [] cpos) pos) (qf i f):=
 lb i (lu M' PySem.F.slot_list_append PySem.F.type_list_append pQ (h.var c) (z9 j jM hs) I J O hs rfl) Q
theorem jA(i:Nat){st:hB}{f:CO (List D)}(h:PS X st (bG (tO X.K f)<|vd i)):i6 X st (jy i<|j5 f):=xS h λD p H O=>by obtain⟨E0,E,g,m,Z,e,I,Q⟩:=O;obtain⟨d,b,I⟩:=zq I;obtain⟨k,U,b⟩:=zq b;subst I b;exact⟨g,m,k,e.rc,U,λa o n j x l J Y r=>Q _ _ _<|(e.step<|x.show l J Y e.rc.sub).t8 (XT (fy.of zC)<|r.mono<|jj J _)⟩
theorem W?(i:Nat)(h:SX X sc N L k)(c:yC sc N L i y=cm)
 (I:X.calm=cm) (ok:r6 X scope fr) (J:∀i∈T.idx,i<own.length) (H:sm X tg iter src) (O:∀fp z j,PG (jF X scope (own++fr.map (·.1)) fp z j) tg<|oT X.K T)
 (E:∀fp z j,PV (jF X scope (own++fr.map (·.1)) fp z j) elt f) (hs:∀x,oI iter X.env x=pure x:=by intro _;rfl):
 PS X (.Assign [.Name y py] (.ListComp elt [⟨tg,iter,[],0⟩] scope cpos) spos) (bG (tO X.K<|zM src T own.length (fr.map (·.2)) ja f)<|vd i):=by
 obtain⟨a,Q,U⟩:=h.loc c;exact zdQ h.E6 a Q U I ok J H O E hs
theorem NY(i:Nat)(h:SX X sc N L k)(c:yC sc N L i y=cm)
 (I:X.calm=cm) (ok:r6 X scope fr) (J:∀i∈T.idx,i<own.length) (H:sm X tg iter src) (O:∀fp z j,PG (jF X scope (own++fr.map (·.1)) fp z j) tg<|oT X.K T)
 (Q:∀fp z j,k4 (jF X scope (own++fr.map (·.1)) fp z j) Dq kk) (E:∀fp z j,PV (jF X scope (own++fr.map (·.1)) fp z j) elt f) (hs:∀x,oI iter X.env x=pure x:=by intro _;rfl):
 PS X (.Assign [.Name y py] (.ListComp elt [⟨tg,iter,[Dq],0⟩] scope cpos) spos) (bG (tO X.K<|zM src T own.length (fr.map (·.2)) kk f)<|vd i):=by
 obtain⟨a,U,Y⟩:=h.loc c;exact lg h.E6 a U Y I ok J H O Q E hs
theorem X9(i:Nat)(h:SX X sc N L k)(c:vz sc N i x=cm)(hi:PV X b g)(S:PV X e f)
 (M:∀v,uZ (.Subscript (.Name x np) b p) X.env v=(do
   let J<-rn [v] (dy (.Name x np) X.env);let U<-rn [v,J] (dy b X.env)
   y6 p
   rn [v,J,U] (OR J U v)
   release [v,J,U] []):=by intro _;rfl)
 (hs:My [.Subscript (.Name x np) b p] e pos.line X.env=pure cT:=by rfl) (hw:OY [.Subscript (.Name x np) b p] e X.env=pure cI:=by rfl)
 (z:(uv [.Subscript (.Name x np) b p] X.env).map (·.2)=[uZ (.Subscript (.Name x np) b p) X.env]:=by rfl):
 i6 X (.Assign [.Subscript (.Name x np) b p] e pos) (fF i g f):=
 xS (fW S (BN (h.var c) hi fD M) hs hw z) λD σ H K=>by refine dt λP=>?_;obtain⟨E0,E,t,s,fl,o,I,u⟩:=K;obtain⟨d,B,I⟩:=za I;obtain⟨A,O,I⟩:=za I;obtain⟨R,Y,I⟩:=za I;obtain⟨y,C,Y⟩:=za Y;obtain⟨j,F,I⟩:=zq I;refine P ?_;subst I;have O:=yj O;refine⟨t,s,d,o.rc,B,λv T l x r=>?_⟩;have Z:=o.step x;obtain⟨a,xs,z,h2,G,m⟩:=Z.rc.own i A O;refine⟨_,z,l,s,y,Z.rc,C,λv2 W w Q n=>?_⟩;rw[jD Y]at n;exact⟨a,xs,R,j,rfl,jv n,Q.s1 _ _ G,by rw[m.length];exact gJ F,u _ _ w<|(Z.step Q).rewrite (xs:=xs) O z ((m.mono Q.s0).set j (r.mono Q.s0))⟩
theorem fU(J:PG X tg (oT X.K T))(z:PV X e f)(hs:My [tg] e pos.line X.env=pure cT:=by rfl)(M:OY [tg] e X.env=pure cI:=by rfl)
 (j:(uv [tg] X.env).map (·.2)=[uZ tg X.env]:=by rfl):i6 X (.Assign [tg] e pos) (Ej T f):=
 xS (fW z J hs M j) λD n H O=>by obtain⟨E0,E,h,k,m,b,I,Q⟩:=O;obtain⟨d,i,I⟩:=za I;obtain⟨l,U,I⟩:=zq I;subst I;exact⟨h,k,d,b.rc,i,λv g a x r=>Jo x.sub r U λY _ Z=>Q Y g a<|Z E0 E<|b.step x⟩
end
structure eg(P:gg)(w:fA)(K:SD)(mg:DZ)(base:eL)(k:Nat)(x:Str)(n:Nat)(F:List D->Option Res):Prop where
 ex:∃(f:dj) (fd:nf) (ps:List Str),ps.length=n/\ml P w K mg base n4 k f fd ps (o3 K ps.length F)/\mg x=bB (.ref f)/\UY K (.ref f)=cm/\Binds K fd ps []
structure ej(K:SD)(mg:DZ)(x:Str)(st:hB)(ps:List Str):Prop where
 ex:∃(f:dj) (fd:nf),L2.p8 K x x st f fd/\(∀us:List dn,us.length=ps.length->D6 fd ⟨us,[]⟩=pure (ps.zip us))/\mg x=bB (.ref f)
noncomputable def tQ(X:Cx)(es:List dv)(n:Nat)(g:CO (List D)):Prop:=uU X es g/\∀b a,g b=bB a->a.length=n
section
variable{X:Cx}{sc:f6}{N L:List Str}{k:Nat}{e:dv}{es:List dv}{f:CO D}{g:CO (List D)}{n:Nat}{pos p:eU}{x:Str}
theorem zw:tQ X [] 0 zG:=⟨ET,λb a h=>by cases h;rfl⟩
theorem zb(j:PV X e f)(I:tQ X es n g)(hs:eA (e::es) X.env=(cT,dy e X.env)::eA es X.env:=by rfl):tQ X (e::es) (n+1) (zc f g):=
 ⟨Ac j I.1 hs,λa b h=>by obtain⟨y,d,h⟩:=za h;obtain⟨r,J,h⟩:=zq h;subst h;rw[TQ,I.2 a r J]⟩
variable{j:Nat}{F:List D->Option Res}
theorem HQ(I:eg X.prog X.w X.K X.mg X.base j x n F)(J:j<=k)(h:SX X sc N L k)(c:k9 sc x=cm)(z:tQ X (e::es) n g)
 (E:eA (e::es) X.env=(cT,dy e X.env)::eA es X.env:=by rfl) (O:(oe pos<|starEach es X.env).any (·.1)=cT:=by rfl):PV X (.Call (.Name x p) (e::es) [] pos) (zA F g):=by
 obtain⟨b,d,f,Q,G,U,Y,Z⟩:=I.ex;subst Q;exact Ew (A0:=[]) G z.1 z.2 λ{t} a=>cM G (h.room.mono J) (h.gl c).1 U Y Z .nil pv a (h.gl c).2.2 E O
theorem NZ(I:eg X.prog X.w X.K X.mg X.base j x n F)(J:j<=k)(h:SX X sc N L k)(c:k9 sc x=cm)(z:tQ X (e::es) n g)
 (E:eA (e::es) X.env=(cT,dy e X.env)::eA es X.env:=by rfl) (O:(oe pos<|starEach es X.env).any (·.1)=cT:=by rfl):PO X (.Call (.Name x p) (e::es) [] pos) (jo F g):=by
 obtain⟨b,d,f,Q,G,U,Y,Z⟩:=I.ex;subst Q;exact EI G z.1 z.2 λ{t} a=>cM G (h.room.mono J) (h.gl c).1 U Y Z .nil pv a (h.gl c).2.2 E O
end
section
variable{P:gg}{w:fA}{K:SD}{mg:DZ}{base:eL}
noncomputable def dO(N ps:List Str)(st:hB):Bool:=
 decide ((jh st).kind=.function)&&decide ((jh st).isCoroutine=cT)&&decide ((jh st).isGenerator=cT)&&decide N.Nodup&&decide (N.take ps.length=ps)&&
 ps.all (λx=>decide ((jh st).names.lookup x=bB .local) || decide ((jh st).names.lookup x=bB .cell))&&(jh st).names.all (λy=> !(y.2==UD))
theorem QZ{N ps:List Str}{st:hB}(h:dO N ps st=cm):DP N ps (jh st):=by unfold dO at h;simp only[Td,decide_eq_true_eq,Uz,Dc,GG]at h;obtain⟨⟨⟨⟨⟨⟨a,I⟩,J⟩,O⟩,Q⟩,U⟩,Y⟩:=h;exact⟨a,I,J,O,Q,U,λy Z e=>by have:=Y y Z;rw[e]at this;exact absurd this ⋯⟩
theorem W4{X:Cx}(I:X.xe=λ_ _=>False):Lw (d8 X.prog X.w) X.A X.env X.xe:=by rw[I];exact PassesOwn.never
theorem PP{x:Str}{st:hB}{N ps:List Str}{k:Nat}{F:CO Fl}(A:ej K mg x st ps)(e:dO N ps st=cm)
 (J:∀X,X.prog=P->X.w=w->X.K=K->X.mg=mg->X.base=base->SX X (jh st) N N k->X.xe=(λ_ _=>False)->ik X (qv st) F):
 eg P w K mg base (k+1) x ps.length (jf N.length F):=by
 obtain⟨f,d,I,O,Q⟩:=A.ex;have S:=QZ e;exact⟨f,d,ps,rfl,Lp I S λb A a s H E U=>J _ rfl rfl rfl rfl rfl ⟨rfl,rfl,S.nd,rfl,U,λ_ _=>.inl rfl⟩ rfl,Q,I.kp,.all O⟩
theorem PU{h:eL}{x:Str}{st:hB}{ps:List Str}{f:dj}{M:dn}{O z:Option dj}{H:Array (Option dn)}{kV j E e ct:dn}(I:K.In h)(G:h.Ns n0 mg)
 (a:C4 K n0 x=bB (bB (.ref f))) (l:K.lookup f=bB ⟨M,O,.func<|UZ x x (yA st) (qv st) (jh st) .none kV j E z e ct,H⟩)
 (c:F5 K e x=cm) (L:UY K (.ref f)=cm)
 (b:∀kV j E z e ct J,J.length=ps.length->D6 (UZ x x (yA st) (qv st) (jh st) .none kV j E z e ct) ⟨J,[]⟩=pure (ps.zip J)):ej K mg x st ps:=
 ⟨f,_,rM l c L,b kV j E z e ct,DD I G a⟩
theorem Ot{x:Str}{st:hB}{f:dj}{e:nf}{N ps:List Str}{k:Nat}{F:CO Fl}(I:L2.p8 K x x st f e)(j:dO N ps st=cm)
 (J:∀X,X.prog=P->X.w=w->X.K=K->X.mg=mg->X.base=base->SX X (jh st) N N k->X.xe=(λ_ _=>False)->ik X (qv st) F):
 ml P w K mg base n4 (k+1) f e ps (o3 K ps.length<|jf N.length F):=by
 have S:=QZ j;exact Lp I S λb A a s H E O=>J _ rfl rfl rfl rfl rfl ⟨rfl,rfl,S.nd,rfl,O,λ_ _=>.inl rfl⟩ rfl
theorem MQ{F:List D->Option Res}{H:Hp}{a:dj}{e:List Int}(I:fy K H a (e.map V.int))(J:F [.lst (e.map D.int)]=bB (.val<|.bl cm)):
 o3 K 1 F [.ref a] H (λv _=>v=.bl cm) λ_ _ _=>False:=by
 refine⟨H,_,_,ft.refl _,dr.cons (XT I ?_) dr.nil,rfl,J,λv d b _ r=>r⟩;clear J I
 induction e with
 |nil=>rfl
 |cons n e O=>exact dr.cons rfl O
end
end DL
namespace DL
open PySem PySem.Spec PyProof.Rows L2
open PySem.W (KasT kas_sort kas_ask kat_run kat_snds kat_lt kat_cons kat_no kat_kind KatTups KatGo)
noncomputable def Ma(h:eL)(v:dn)(k:Int):Prop:=∃x o a m t,v=.ref x/\h.get? x=bB o/\o.cls=.type "tuple"/\o.data=.seq a m/\a[0]? = bB (.int k t)
theorem rk:∀{vs:List dn} {e:Nat->Int},(∀i j,Ma h vs[i] (e i))->∃fs,KatTups h vs fs/\fs.length=vs.length/\∀f∈fs,∃k t,f=DO k t
 |[],e,_=>⟨[],KatTups.nil,rfl,λf I=>by cases I⟩
 | v::vs,e,H=>by
  obtain⟨fs,b,J,O⟩:=rk λi j=>H (i+1) (by simpa using j);obtain⟨x,o,d,m,t,a,Q,U,Y,Z⟩:=H 0 ⋯;subst a;exact⟨_,KatTups.cons Q U Y Z b,by simp[J],λf I=>by
   rcases SS.mp I with rfl|I
   ·exact⟨_,_,rfl⟩
   ·exact O f I⟩
end DL
namespace DL
open PySem PySem.Spec PyProof.Rows L2
open AutoSeq1 (wpAny_loadPart')
theorem QT:fillsNumberSlot (.type "tuple") "mul" = pure cT:=
 PySem.fillsNumberSlot_seq M0.lookup ⋯ F.slot_tuple_rmul.lookup ⋯
theorem WV:seqRepeat? (.type "tuple")=pure (bB (.builtin "tuple.__mul__")):=by unfold seqRepeat?;rw[PySem.seqSlot_of (name:="__mul__") M0.lookup ⋯,PySem.seqSlot_of (name:="__rmul__") F.slot_tuple_rmul.lookup ⋯];rfl
theorem Yj(a:Int)(t:qd)(l:dj)(I:Array dn)(n:Nat)(J:Option dj)(e:Array (Option dn)):
 DU (pa.«int.__rmul__» ⟨[.int a t,.ref l],[]⟩) (λ_ R s=>s.heap.get? l=bB {cls:=.type "tuple",dict:=J,data:=.seq I n,slots:=e}/\R (.ok (.ret Value.notImplemented)) s):=
 .of_wp λb w A R s h=>by obtain⟨f,g,d,O,os⟩:=s;obtain⟨Q,h⟩:=h;wp_walk;exact⟨_,rfl,h⟩
theorem Y8(a:Int)(t:qd)(l:dj)(I:Array dn)(n:Nat)(O:Option dj)(j:Array (Option dn))(e:¬(decide (a < -(2^63)) || decide (a>=2^63))=cm)(Q:¬(I.isEmpty || a==1)=cm)
 (U:¬(decide (a<=0) || I.isEmpty)=cm) (Y:¬((I.size)*a>(2^63-1)/8)) (Z:¬Builtin.Tuple.tupleTooMany ((I.size)*a)=cm) (hz:((SI a.toNat I).foldl (· ++ ·) #[]).size<=eK):
 DU (pa.«tuple.__mul__» ⟨[.ref l,.int a t],[]⟩) (λ_ R s=>s.heap.get? l=bB {cls:=.type "tuple",dict:=O,data:=.seq I n,slots:=j}/\
  R (.ok (.ret (.ref s.heap.objs.size))) {s with heap:=s.heap.push {cls:=.type "tuple",data:=.seq ((SI a.toNat I).foldl (· ++ ·) #[])}}):=
 .of_wp λb w A R s h=>by
  obtain⟨f,g,d,i,os⟩:=s;obtain⟨J,h⟩:=h
  wp_walk using UX J
  rw[DY e];refine SE<|Nd ⟨_,J,rfl,n,rfl⟩ ?_;dsimp only;rw[DY Q,DY U,DY Y,DY Z];exact SE<|UB (SM ⟨_,rfl,h⟩) hz
theorem Yb(a:Int)(t:qd)(l:dj)(I:Array dn)(n:Nat)(O:Option dj)(j:Array (Option dn))(e:¬(decide (a < -(2^63)) || decide (a>=2^63))=cm)(Q:¬(I.isEmpty || a==1)=cm)
 (U:(decide (a<=0) || I.isEmpty)=cm):
 DU (pa.«tuple.__mul__» ⟨[.ref l,.int a t],[]⟩) (λ_ R s=>s.heap.get? l=bB {cls:=.type "tuple",dict:=O,data:=.seq I n,slots:=j}/\
  R (.ok (.ret (.ref s.heap.objs.size))) {s with heap:=s.heap.push {cls:=.type "tuple",data:=.seq #[]}}):=
 .of_wp λb w A R s h=>by
  obtain⟨f,g,d,Y,os⟩:=s;obtain⟨J,h⟩:=h
  wp_walk using UX J
  rw[DY e];refine SE<|Nd ⟨_,J,rfl,n,rfl⟩ ?_;dsimp only;rw[DY Q,DJ U];exact SE<|UB (SM ⟨_,rfl,h⟩)<|Uc _
theorem Ya(a:Int)(t:qd)(l:dj)(J:Array dn)(n:Nat)(O:Option dj)(j:Array (Option dn))(e:¬(decide (a < -(2^63)) || decide (a>=2^63))=cm)(Q:(J.isEmpty || a==1)=cm):
 DU (pa.«tuple.__mul__» ⟨[.ref l,.int a t],[]⟩) (λ_ R s=>s.heap.get? l=bB {cls:=.type "tuple",dict:=O,data:=.seq J n,slots:=j}/\R (.ok (.ret (.ref l))) s):=
 .of_wp λb w A R s h=>by
  obtain⟨f,g,d,U,os⟩:=s;obtain⟨I,h⟩:=h
  wp_walk using UX I
  rw[DY e];refine SE<|Nd ⟨_,I,rfl,n,rfl⟩ ?_;dsimp only;rw[DJ Q];refine SE ?_;unfold Builtin.Tuple.tupleIsExact;refine SE<|DI ⟨_,I,rfl⟩<|SM ?_;rw[DJ ⋯];exact SE<|z4<|SM ⟨_,rfl,h⟩
section
variable{X:Cx}
noncomputable def HH(K:SD):R2:=λx y H Q=>∃l k a,x=.ref l/\y=.int k/\hH K H l a/\ -(2^62)<=k/\k<2^62/\a.length*k.toNat<=eK/\(a=[]\/k=1->Q (.ref l) H)/\
 ∀p,H p=cI->Q (.ref p) (upd H p<|.tup (SI k.toNat a).flatten)
theorem EU:h6 X (tF .Mult) (HH X.K):=by
 intro i s σ H x y v u Q I G L h;obtain⟨l,k,T,rfl,rfl,z,R,S,g,E,Y⟩:=h;cases G;refine dt λB=>?_;obtain⟨t,rfl⟩:=L;obtain⟨a,r,A,W⟩:=I.tuple z;obtain⟨⟨p,O,d,b⟩,J,Z,n,f⟩:=id A;refine B ?_;simp only at Z f;subst Z f;have j:=r.length;have U:¬(decide (k < -(2^63)) || decide (k>=2^63))=cm:=⋯
 refine zem ⋯ ⟨_,J,rfl⟩ (λM=>Ni M k t) QT F.fills_int_mul R9 WV F.slot_int_index.lookup
  (tN R9 (Ni s k t) F.entry_int_rmul (F.args_int_rmul_2 _ _) (Yj k t l a.toArray n O b) ⟨J,rfl,⟨_,J,rfl⟩,?_⟩)
 have e:=λm=>by have:=KC a m [];rw[F0]at this;exact this
 by_cases g2:(a.toArray.isEmpty || k==1)=cm
 ·refine tN M0 ⟨_,J,rfl⟩ _h (S' _ _) (Ya k t l a.toArray n O b U g2) ⟨J,⟨.ref l,H,I,rfl,E ?_⟩⟩
  grind
 ·have o:=g2
  simp only[Dc,not_or]at o;by_cases g3:(decide (k<=0) || a.toArray.isEmpty)=cm
  ·have w:k.toNat=0:=by
    lia
   refine tN M0 ⟨_,J,rfl⟩ _h (S' _ _) (Yb k t l a.toArray n O b U g2 g3) ⟨J,?_⟩;refine⟨.ref _,_,I.laid (λc C q=>SG _ q) (SN _) ?_,rfl,Y _<|I.eI.fresh<|SN _⟩;rw[w];exact⟨Uc _,[],.nil,ub.new _ _⟩
  ·have N:((a.toArray.size:Nat))*k<=eK:=by
    grind
   have P:=wo;refine tN M0 ⟨_,J,rfl⟩ _h (S' _ _) (Y8 k t l a.toArray n O b U g2 g3 ⋯ (by unfold Builtin.Tuple.tupleTooMany;lia) (by
    rw[e,SW,dg,Nat.mul_comm];exact(by rw[<-j];exact g))) ⟨J,?_⟩
   rw[e];refine⟨.ref _,_,I.laid (λc C q=>SG _ q) (SN _) ?_,rfl,Y _<|I.eI.fresh<|SN _⟩;exact⟨by rw[dg,Nat.mul_comm];exact g,_,r.rep k.toNat,ub.new _ _⟩
theorem Ea{K:SD}:m6 K (λx y H Q=>rI Dg (λi j=>.int (i*j)) x y H Q\/HH K x y H Q) ve:=λb H x y o r d Q s O U I q=>by
 unfold ve at I;split at I
 ·split at I<;>cases I
  exact .inl ⟨_,_,jv O,jv U,Bj ‹_›,q _ H b (Ext.refl s) rfl⟩
 ·rename_i n j
  split at I<;>cases I
  rename_i Y
  obtain⟨Z,h⟩:=Y;obtain⟨a,m,rfl,g,J⟩:=yv O;obtain⟨k,l⟩:=Kw h;refine .inr ⟨a,j,m,rfl,jv U,md s g,k,l,y9 (by rw[J.length];exact Z),λe=>?_,λp f=>q _ _ _ (Ext.alloc s f _)<|kK (hH.of zC)<|(Vm J _).mono (jj (jd s f) _)⟩
  ·refine q _ H b (Ext.refl s) ?_
   rcases e with e|e
   ·have t:=by
     have:=J.length;rw[e]at this;exact Up this.symm
    simp_all
   simp_all
 ·cases I
theorem qG(e:PV X a fa)(I:PV X b fb):PV X (.BinOp a .Mult b pos) (zD ve fa fb):=YC (V?.or EU) Ea e I
end
end DL
namespace DL
open PySem PySem.Spec PyProof.Rows L2
theorem RC.M?{K:SD}{E H:Hp}{M:St}{γ:Ctx}{i:Nat}{ds:List D}{a:dj}{xs:List V}(r:RC K E H M γ)(e:γ[i]? = bB (.own ds))(L:M[i]? = bB (bB (.ref a)))(J:E a=cI)(S:H a=bB (.lst xs))(X:dr K E ds xs):RC K (L2.upd E a<|.lst xs) H M (γ.set i<|.val<|.lst ds):=by
 refine⟨λb o q=>?_,by simp[r.len],λj d g=>?_,λj m g=>?_,λj k b m fs f I p s=>?_,⟨λj h g=>?_,λj k u w f I=>?_⟩⟩
 ·by_cases z:b=a
  ·subst z;rw[zC]at q;rw[S];exact q
  ·rw[zE z]at q;exact r.sub b o q
 ·rcases zF g with⟨rfl,z,A⟩|⟨O,z⟩
  ·cases z;exact⟨_,L,XT (fy.of zC)<|X.mono<|jj J _⟩
  ·obtain⟨v,Q,g2⟩:=r.val j d z
   exact⟨v,Q,g2.mono<|jj J _⟩
 ·rcases zF g with⟨_,z,_⟩|⟨O,z⟩
  ·cases z
  ·obtain⟨b,x,Q,g2,g3,t⟩:=r.own j m z
   refine⟨b,x,Q,?_,g3,t.mono<|jj J _⟩;rw[zE (λq=>O<|r.ne j i a m ds z e (by rw[Q,q]) L)];exact g2
 ·rcases zF f with⟨_,z,_⟩|⟨O,l⟩
  ·cases z
  ·rcases zF I with⟨_,z,_⟩|⟨y,n⟩
   ·cases z
   ·exact r.ne j k b m fs l n p s
 ·rcases zF g with⟨_,z,_⟩|⟨O,z⟩
  ·cases z
  ·obtain⟨b,bs,f1,Y,Z⟩:=r.m9.1 j h z
   refine⟨b,bs,f1,Y.move (jj J _) (λc U=>by rw[zE (λq=>(Z i ds a e L)<|by rw[<-q];exact U)];exact(Y.at U).1)<|λc U=>rfl,λk fs c f I=>?_⟩;rcases zF f with⟨_,z,_⟩|⟨_,l⟩
   ·cases z
   ·exact Z k fs c l I
 ·rcases zF f with⟨_,z,_⟩|⟨_,l⟩
  ·cases z
  ·rcases zF I with⟨_,z,_⟩|⟨_,n⟩
   ·cases z
   ·exact r.m9.2 j k u w l n
end DL
namespace L2
open PySem PySem.Spec PyProof.Rows
open AutoSeq1 (wpAny_loadPart')
section
variable{prog:gg}{w:fA}{A:kb}{E:EQ}{s:ea}
theorem mj{z j l:dj}{n:Nat}{xs:Array dn}{x H:dn}{Q:EQ}(hz:A2 s.heap z j n H)(M:ij .T s.heap j l n)(X:lK .T s.heap l xs)(hx:xs[n]? = bB x)(I:z≠j)
 (S:∀g,IsEnumOut g z j (n+1) x s.heap.objs.size->ij .T g j l (n+1)->ni g s.heap.objs.size (.int n s.toks) x->g.objs.size=s.heap.objs.size+1->
   (∀c o,c≠z->c≠j->s.heap.get? c=bB o->g.get? c=bB o)->Q (.ref s.heap.objs.size) {s with heap:=g,toks:=s.toks+1}):
 wpAny (d8 prog w) A (pa.«enumerate.__next__» ⟨[.ref z],[]⟩) (λL s'=>∃v,L=.done (.ret v)/\Q v s') E s:=by
 refine SE (m:=field (.ref z) 2) (TX hz rfl rfl ?_);refine SE (kO M X hx λg1 F Y=>?_);have Z:=Y.extBut _ _ I hz;refine SE (TX Z rfl rfl ?_);refine SE (TX Z rfl rfl ?_);refine SE (wpAny_mkInt ?_);refine SE (Ux Z ⋯ λg2 d f=>?_);replace d:=d;refine SE (Ux d ⋯ λg3 h i=>?_);replace h:=h;refine SE (M7 ?_);have J:A2 (g3.push {cls:=.type "tuple",data:=.seq #[.int n s.toks,x]}) z j (n+1) H:=SG _ h;generalize O:g3.push _=U at J;have b:g3.objs.size=s.heap.objs.size:=by rw[(i.1),f.1,(Y.1)]
 have R:U.objs.size=s.heap.objs.size+1:=by rw[<-O,TH,b]
 have G:ij .T U j l (n+1):=F.at λo e=>by rw[<-O];exact SG _<|i.extBut _ _ I.symm<|f.extBut _ _ I.symm e
 refine SE ?_;unfold UA;refine SE<|TX J rfl rfl<|SM ?_;simp only[if_true];refine SE<|z4<|SE<|TX J rfl rfl ?_;refine SE<|Ux J ⋯ λzgs k B=>?_;replace k:=k;rw[b];refine SE ?_;unfold zbD;refine SE<|Ux k ⋯ λg6 p ad=>?_;replace p:=p;refine Ux p ⋯ λu r C=>?_;replace r:=r;have y c o:c≠z->U.get? c=bB o->u.get? c=bB o:=λa e=>C.extBut _ _ a<|ad.extBut _ _ a<|B.extBut _ _ a e;have W:u.objs.size=s.heap.objs.size+1:=by have K:=B.1;have N:=ad.1;have P:=C.1;simp only[P,N,K,R]
 exact SE (IJ (SM ⟨_,rfl,S u r (G.at λo e=>y _ o I.symm e) (y _ _ (uq<|SY hz) (by
  show U.get? _=_;rw[<-O,<-b];exact SV _ rfl)) W λc o a t e=>y c o a ((λc o a t e=>by
  rw[<-O];exact SG _<|i.extBut _ _ a<|f.extBut _ _ a<|Y.extBut _ _ t e) c o a t e)⟩))
theorem rT{z j l:dj}{n:Nat}{xs:Array dn}{I:dn}{Q:Fin->ea->Prop}(J:A.handled=cI)(hz:A2 s.heap z j n I)(H:ij .T s.heap j l n)(O:lK .T s.heap l xs)(U:xs[n]? = cI)
 (Y:∀g e,Heap.ExtBut j s.heap g->(∃o,g.get? e=bB o/\o.cls=.type "StopIteration")->E (.ref e) {s with heap:=g}):
 wpAny (d8 prog w) A (pa.«enumerate.__next__» ⟨[.ref z],[]⟩) Q E s:=
 SE (m:=field (.ref z) 2) (TX hz rfl rfl<|SE<|Jb J H O U Y)
end
noncomputable def FE(i:dj):l6:={cls:=.type "enumerate",data:=.fields #[.none,.bool cT,.ref i,rawInt 0,.none,.none]}
noncomputable def Co(h:eL)(l:dj):eL:=Tr (Tr h<|i0 .T l)<|FE h.objs.size
theorem rS(l:dj)(xs:Array dn):
 DU (pa.«enumerate.__new__» ⟨[.type "enumerate",.ref l],[]⟩) (λ_ R s=>lK .T s.heap l xs/\R (.ok (.ret (.ref (s.heap.objs.size+1)))) {s with heap:=Co s.heap l}):=
 .of_wp λb w A R s h=>by
  refine dt λQ=>?_;obtain⟨i,g,d,Y,os⟩:=s;obtain⟨U,h⟩:=h;have Z:=sub_enumerate;have I:Heap.IsTuple _ l xs:=U;obtain⟨o,J,O,m,a⟩:=id I;obtain⟨e,mr,f,j⟩:=o;refine Q ?_;simp only at O a;subst O a;simp only[Co,FE,i0,TH]at h
  wp_walk using UX J
  refine wpAny_stack_any λst=>SM ?_;split
  ·rename_i c _ _ _ _ _
   cases (c==_)<;>(wp_walk using UX J,P9 I;exact⟨_,rfl,by simpa[TH,zbG]using h⟩)
  ·wp_walk using UX J,P9 I
   exact⟨_,rfl,by simpa[TH,zbG]using h⟩
noncomputable def N2(K:SD)(a:dj):It:=
 ⟨λi H=>∃b,i4 .T K H a b/\i<b.length,
  λi H x d=>∃p u,x=.ref p/\H p=cI/\d=upd H p (.tup [.int i,u])/\(∀b,i4 .T K H a b->b[i]? = bB u),
  λi H=>∃b,i4 .T K H a b/\b.length<=i⟩
theorem yJ(hz:A2 s.heap z it n old)(h:Q (.ref z) s):wpAny (d8 prog w) A (Mp (.ref z)) Q E s:=by have I:s.TypeIs (.ref z) "enumerate":=⟨_,hz,rfl⟩;exact wpAny_pyIter_slot I F.slot_enumerate_iter (Uk F.slot_enumerate_iter I F.entry_enumerate_iter (SM ⟨_,rfl,"enumerate",_,I,MG.lookup,h⟩) (F.args_enumerate_iter_1 _))
theorem nc{P:gg}{w:fA}{K:SD}{elts:List dv}{x1:Nat}{tH:eU}{z it a:dj}(ac:z≠it):
 Turn P w K (.Tuple elts x1 tH) (N2 K a) [z,it] z (λi h=>(∃Q,A2 h z it i Q)/\ij .T h it a i) where
 mem:=by simp
 obj:=λi h ⟨⟨Q,hz⟩,h1⟩ y hy=>by
  simp only[SS,Th,or_false]at hy;rcases hy with rfl|rfl
  ·exact⟨_,hz,λv q=>by cases q⟩
  ·exact h1.obj
 keep:=λi h h' ⟨⟨Q,hz⟩,h1⟩ k=>⟨⟨Q,k z ⋯ _ hz⟩,h1.at λo e=>k it ⋯ o e⟩
 item:=by
  rintro X hP hw hK hc i pins s σ H E I Y ⟨⟨Q,hz⟩,h1⟩ ⟨xs,Z,am⟩;subst hP hw hK;obtain⟨an,a7,p1,z1⟩:=I.sq Z;have hx:xs[i]? = bB xs[i]:=SH am;obtain⟨u1,ao,ap⟩:=a7.get hx;have U:s.TypeIs (.ref z) "enumerate":=⟨_,hz,rfl⟩;unfold uG;refine SE (z3 (TU (name:=Ts "__next__") U MG (Uk MG U F.entry_enumerate_next
   (mj hz h1 p1 (x:=u1) (by simpa using ao) ac λg a1 a2 a3 a4 a5=>SM ⟨_,rfl,?_⟩) (F.args_enumerate_next_1 _))))
  refine zep a1 λg2 OG a9=>?_;have lt:∀{c o},s.heap.get? c=bB o->s.heap.objs.size≠c:=λe=>uq<|SY e;have b1:ni g2 s.heap.objs.size (.int i s.toks) u1:=a9.extBut _ _ (lt hz) a3;have kk O u:O ∉ [z,it]->s.heap.get? O=bB u->g2.get? O=bB u:=λJ e=>by simp only[SS,Th,or_false,not_or]at J;exact a9.extBut _ _ J.1<|a5 O u J.1 J.2 e
  have I1:Inv X pins σ (upd H s.heap.objs.size<|.tup [.int i,xs[i]]) {s with heap:=g2,toks:=s.toks+1}:=
   I.O3 (fp:=[z,it]) kk Y (SN _) ⟨by show 2<=eK;decide,[.int i s.toks,u1],.cons ⟨_,rfl⟩<|.cons ap .nil,⟨_,b1,rfl,_,rfl⟩⟩
  have b3:H s.heap.objs.size=cI:=I.fresh;refine⟨.ref s.heap.objs.size,_,I1,rfl,⟨_,_,rfl,b3,rfl,λbb b4=>by rw[I.OV b4 Z];exact hx⟩,?_,λO J=>?_⟩
  ·exact⟨⟨_,by have:=OG;rwa [show((i:Int)+1)=((i+1:Nat):Int)by lia]at this⟩,a2.at λo e=>a9.extBut _ _ ac.symm e⟩
  ·have b5:O≠s.heap.objs.size:=by
    simp only[SS,Th,or_false]at J;rcases J with rfl|rfl
    ·exact(lt hz).symm
    ·obtain⟨o,e,_⟩:=h1.obj;exact(lt e).symm
   rw[zE b5];exact(Y O J).1
 done:=by
  rintro X hP hw hK hc i pins s σ H E I Y ⟨⟨Q,hz⟩,h1⟩ ⟨xs,Z,hi⟩;subst hP hw hK;obtain⟨an,a7,p1,z1⟩:=I.sq Z;have U:s.TypeIs (.ref z) "enumerate":=⟨_,hz,rfl⟩;have l1:=a7.length;unfold uG;refine SE (z3 (TU (name:=Ts "__next__") U MG (Uk MG U F.entry_enumerate_next
   (rT (show X.A.handled=cI from I.ok.hd hc) hz h1 p1 (by simp;lia) λg e hk he=>?_) (F.args_enumerate_next_1 _))))
  obtain⟨o,ho,b8⟩:=he;refine SE (T6 (T:="StopIteration") (b:=cm) ⟨o,ho,b8⟩ R4 (SM ⟨rfl,?_⟩));refine I.um (t':=s.toks) (fp:=[z,it]) (λO u J e=>?_) Y;simp only[SS,Th,or_false,not_or]at J;exact hk O u J.2 e
 self:=λ_ _ _ _ _ st h=>yJ st.1.choose_spec h
noncomputable def On(K:SD)(e:TA):TI:=λg H R=>e g H λd b=>∃a,d=[.ref a]/\(∃f,i4 .T K b a f)/\R (N2 K a) b
theorem EL{X:Cx}{E:dv}{L:TA}{p pos:eU}{j:List dv}{x1:Nat}{z:eU}(Y:Gl X "enumerate")(Z:X.mg "enumerate" = cI)(M:PA X [E] L)
 (S:u0 "enumerate" = bB (.type "enumerate")) (hs:eA [E] X.env=[(cT,dy E X.env)]:=by rfl):
 PI X (.Tuple j x1 z) (.Call (.Name "enumerate" p) [E] [] pos) (On X.K L):=by
 intro b s w H R I h;refine A1<|xU I Y Z S<|TM (ed (M pos b s w H _ I h) λy d m=>?_) (by rw[hs];rfl) rfl;refine dt λn=>?_;obtain⟨A,f,J,u,t⟩:=m;obtain⟨a,e,⟨C,g⟩,q⟩:=t;subst e;obtain⟨B,l,i⟩:=kF u;refine n ?_;subst l;cases i;obtain⟨k,x,r,G⟩:=J.sq g;refine e_ F.called_enumerate ⋯ (F.typeCall_enumerate_1 _) (F.newCall_enumerate_1 _) (λobj=>F.args_object_init_2 obj _) F.entry_enumerate_new (rS a k.toArray) ⟨r,?_⟩;have O:=by have q:=SV (Tr d.heap<|i0 .T a) (o:=FE d.heap.objs.size) rfl;rw[(TH ..)]at q;exact q
 refine⟨⟨_,O,rfl⟩,yJ O ?_⟩;refine⟨_,_,_,_,f,rfl,J.kept<|λc o e=>SG _<|SG _ e,nc<|uq<|Ur _,⟨⟨_,O⟩,(QF .T d.heap a).at λo e=>SG _ e⟩,λc Q=>?_,q⟩;have U:d.heap.objs.size<=c:=by
  simp only[SS,Th,or_false]at Q;rcases Q with rfl|rfl
  ·exact Tv _ _
  ·exact SN _
 exact J.ug U<|J.eI.fresh U
end L2
namespace DL
open PySem PySem.Spec PyProof.Rows L2
theorem Kt{K:SD}{H:Hp}:∀{ds:List D} {xs:List V} {l:List Int},dr K H ds xs->du ds=bB l->xs=l.map V.int
 |[],xs,l,r,e=>by cases e;rw[r];rfl
 | d::ds,xs,l,r,e=>by
  obtain⟨x,g,rfl,I,b⟩:=(r);cases d with
  |int i=>
   obtain⟨f,a,rfl⟩:=zq e;rw[Kt b a,I];rfl
  |_=>cases e
theorem KD:∀l:List Int,(l.map V.int).all Yl=cm
 |[]=>rfl
 |i::l=>by simp only[Tw,S4,KD l,Bool.and_true];rfl
theorem dB(i:Int):∀l:List Int,uC (.int i) (l.map V.int)=decide (i∈l)
 |[]=>rfl
 |j::l=>by
  have I:=dB i l;unfold uC at I ⊢;have e:u6 (.int j) (.int i)=(j==i):=rfl
  grind
theorem mU{K:SD}{e j:Hp}{a:dj}{xs:List V}{ds:List D}(h:hH K j a xs)(r:dr K e ds xs):Walk K e j (N2 K a) (qB ds):=by
 have Y:=r.length;have w:(qB ds).length=ds.length:=by simp[qB]
 refine⟨λi b s o=>⟨xs,md s h,⋯⟩,λb s=>⟨xs,md s h,⋯⟩,λi b x l s o y=>?_⟩
 ·refine dt λI=>?_;obtain⟨p,u,m,f,J,O⟩:=y
  obtain⟨d,n,Q⟩:=r.Bi<|O xs<|md s h;refine I ?_;refine⟨.tup [.int i,d],?_,λk t g=>⟨upd k p<|.tup [.int i,u],?_,?_⟩⟩
  ·have U:i<ds.length:=⋯
   unfold qB;simp only[TV,U' U,zr,n];rfl
  ·rw[J];exact Ext.alloc g f _
  ·rw[m]
   exact kK (hH.of zC)<|dr.cons rfl<|dr.cons ((Q.mono t).mono (jj (jd g f) _)) dr.nil
section
variable{X:Cx}{sc:f6}{N L:List Str}{k:Nat}{a b c:dv}{pos p:eU}{f fa fb fc:CO D}
theorem YG(h:SX X sc N L k)(c:k9 sc "enumerate" = cm)(z:X.mg "enumerate" = cI)(j:PV X a f)(hs:eA [a] X.env=[(cT,dy a X.env)]:=by rfl):
 g9 X (.Tuple elts x1 tH) (.Call (.Name "enumerate" p) [a] [] pos) (WN f):=
 Yc (EL (h.gl c).1 z (z9 j jM hs) c_ hs) λs H R O=>by
  obtain⟨g,m,n,i,I,q⟩:=O;obtain⟨d,Q,I⟩:=za I;cases d with
  |tup o=>
   cases I;refine⟨g,m,_,i,Q,λv e b x r=>?_⟩;obtain⟨U,l,rfl,J,g2⟩:=yv r;exact⟨U,rfl,⟨l,md x.sub J⟩,q _ e b x<|mU J g2⟩
  |_=>cases I
theorem fR(ho:h6 X (m3 op) r)(E:h6 X (m3 E8) r')(s1:m6 X.K r F)(s2:m6 X.K r' G)(S:PV X a fa)(hb:PV X b fb)(hc:PV X c fc)
 (hm:OJ [op,E8] [b,c]=cT:=by with_unfolding_all rfl):PV X (.Compare a [op,E8] [b,c] pos) (wZ F G fa fb fc):=
 jK (zdZ ho E S hb hc hm) λσ H Q P=>by
  refine dt λR=>?_;obtain⟨l,h,d,g,I,q⟩:=P;obtain⟨x,A,I⟩:=za I;obtain⟨y,B,I⟩:=za I;obtain⟨k,C,I⟩:=za I;obtain⟨U,L,Y⟩:=za C;refine R ?_;refine⟨l,h,x,g,A,λv1 H1 s e T=>⟨s,h,y,g.ext e,B,λZ m t J j=>s1 t m v1 Z x y U _ J.sub (T.mono J.s0) j L λzed n i f W=>?_⟩⟩;cases U with
  | bl k'=>
   cases Y;refine⟨k,W,?_⟩;cases k with
   |true=>
    rw[DJ rfl];rw[DJ rfl]at I;obtain⟨z,M,N⟩:=za I;exact⟨i,h,z,((g.ext e).ext J).ext f,M,λv4 o u O r4=>s2 u o Z v4 y z d _ O.sub ((j.mono f.s0).mono O.s0) r4 N λv5 p w x5 r5=>q v5 p w (((e.trans J).trans f).trans (O.trans x5)) r5⟩
   |false=>
    rw[DY ⋯];cases I;exact q _ n i ((e.trans J).trans f) rfl
  |_=>cases Y
theorem HP(E:PV X a fa){g:CO (Sk×List D)}(O:PQ X b g)(U:pk .In b=cT:=by with_unfolding_all rfl):PV X (.Compare a [.In] [b] pos) (Po fa g):=
 jK (Vu Kb E O U) λM H Q Y=>by
  refine dt λZ=>?_;obtain⟨m,k,d,h,I,q⟩:=Y;obtain⟨x,u,I⟩:=za I;obtain⟨⟨f,t⟩,w,I⟩:=za I;obtain⟨i,y,I⟩:=za I;obtain⟨l,z,rfl⟩:=zq I;refine Z ?_;refine⟨m,k,x,h,u,λG C o j J=>⟨o,k,f,t,h.ext j,w,λp K n s B e F r=>?_⟩⟩;rw[jD y]at J;have A:=Kt r z;subst A;refine⟨p,_,rfl,by
   cases f with
   |L=>exact .inl e
   |T=>exact .inr e,by rw[J];rfl,KD l,?_⟩
  rw[J,dB];exact q _ n s (j.trans B) rfl
end
theorem Jm(h:Xo o=bB rows):o=bB (.nest rows):=by
 cases o with
 |none=>cases h
 |some c=>cases c<;>first|cases h;rfl|cases h
noncomputable def zdw(K:SD)(f:CO (List<|List D)):TE:=λj H Q=>∃h i d,RC K h H j i/\f i=bB d/\
 ∀a bs g e,Ext h H e g->(∀b∈a::bs,H b=cI)->uc K e g d a bs->Q (.ref a) g
noncomputable def tR(K:SD)(j H:Hp)(e:List (List D))(bs:List dj):Prop:=bs.length=e.length/\∀(k:Nat) b row,bs[k]? = bB b->e[k]? = bB row->j b=cI/\∃a,H b=bB (.lst a)/\dr K j row a
theorem tR.at{K:SD}{j H:Hp}{e:List (List D)}{bs:List dj}(n:tR K j H e bs){b:dj}(O:b∈bs):j b=cI/\∃xs,H b=bB (.lst xs):=by obtain⟨k,I⟩:=_e O;have J:=(nt.mp I).1;rw[n.1]at J;obtain⟨a,xs,Q,_⟩:=n.2 k b _ I<|SH J;exact⟨a,xs,Q⟩
theorem tR.ext{K:SD}{L H z E:Hp}{j:List (List D)}{bs:List dj}(n:tR K L H j bs)(e:Ext L H z E):tR K z E j bs:=
 ⟨n.1,λk b row a I=>by obtain⟨J,d,g2,O⟩:=n.2 k b row a I;exact⟨e.new b J ⋯,d,e.s1 _ _ g2,O.mono e.s0⟩⟩
theorem tR.add{K:SD}{j H:Hp}{e:List (List D)}{bs:List dj}{b:dj}{row:List D}{xs:List V}(n:tR K j H e bs)(E:j b=cI)(O:H b=bB (.lst xs))(Q:dr K j row xs):tR K j H (e++[row]) (bs++[b]):=
 ⟨by simp[n.1],λk c r a I=>by
  rcases To k bs.length with z|z
  ·rw[Tz z]at a
   rw[Tz (by rw[<-n.1];exact z)]at I;exact n.2 k c r a I
  ·rw[TC z]at a
   rw[TC (by rw[<-n.1];exact z)]at I;have J:k-bs.length=0:=by have:=(nt.mp a).1;simp at this;lia
   rw[J]at a;rw[<-n.1,J]at I;cases a;cases I;exact⟨E,xs,O,Q⟩⟩
theorem tR.hide{K:SD}{j H:Hp}{e:List (List D)}{bs:List dj}{I:dj}{o:HO}(n:tR K j H e bs)(h:I∉bs):tR K j (upd H I o) e bs:=
 ⟨n.1,λk b row a J=>by obtain⟨O,d,g2,Q⟩:=n.2 k b row a J;exact⟨O,d,by rw[zE (λq=>h<|by rw[<-q];exact TN a)];exact g2,Q⟩⟩
section
variable{K:SD}{own:List Str}{fr:List (Str×Nat)}{src:CO (List D)}{T:Tg}{f:CO (List D)}
theorem my(hT:∀i∈T.idx,i<own.length){tt:TT}(bi:∀E H Q,tT K ja E H Q->tt E H Q):∀E H Q,zdw K (fH src T own.length (fr.map (·.2)) f) E H Q->nB (OZ K src) own fr (oT K T) tt (tO K f) E H Q:=λE H Q hZ=>by
 obtain⟨H0,s,l,rc,N,q⟩:=hZ;obtain⟨O,e1,N⟩:=za N;by_cases hl:O.length<=lim
 ·rw[DJ hl]at N
  refine⟨H0,s,O,rc,e1,λJ t as C wk D P=>?_⟩;have ad:∀(i:Nat) B,(z7 own.length (fr.map (·.2)) s)[i]? ≠ bB (.own B):=λi B h=>by rcases qI h with z|⟨d',j,z,_⟩<;>cases z
  have ak:∀(i:Nat) B,(z7 own.length (fr.map (·.2)) s)[i]? ≠ bB (.nest B):=λi B h=>by rcases qI h with z|⟨d',j,z,_⟩<;>cases z
  have aw:=jd C.sub P;have ax c:t c=cI->H c=cI:=λhc=>by
   cases z:H c with
   |none=>rfl
   |some o=>rw[C.s1 c o z]at hc;omega
  refine⟨λi m X G g=>m=O.length-i/\i<=O.length/\X.length<=i/\g D=bB (.lst X)/\∃a bs S r2,X=bs.map V.ref/\RC K a g G (z7 own.length (fr.map (·.2)) s)/\a D=cI/\Ext as t a g/\tR K a g S bs/\(D::bs).Nodup/\(∀b∈bs,t b=cI)/\Zv T f (z7 own.length (fr.map (·.2)) s) (O.drop i)=bB r2/\l=S++r2,
   ⟨_,rfl,Uc _,SN _,zC,as,[],[],l,rfl,((rc.ext C).pull).upd aw ad ak,aw,Ext.hide C.sub P _,⟨rfl,λk b row h=>by simp at h⟩,by simp,λb Y=>by simp at Y,N,rfl⟩,?_⟩
  rintro i m X G g ⟨rfl,hi,hy,am,a,bs,S,r2,bv,an,b1,Z,M,nd,b2,I,rfl⟩;subst bv;refine⟨am,?_⟩;by_cases u:i<O.length
  ·refine .inr ⟨wk.go i g Z.s1 u,?_,λx b3 y=>?_⟩
   ·have:=y9<|SN lim;lia
   refine dt λkZ=>?_;obtain⟨d,hd,hx⟩:=wk.uo i g x b3 Z.s1 u y;obtain⟨G0,U,rg⟩:=hx a Z.s0 an.sub;refine kZ ?_;have c6:O.drop i=d::O.drop (i+1):=by
    have c9:=by rw[SH u]at hd;exact(TJ hd).symm
    rw[c9];exact UN u
   rw[c6]at I;simp only[Zv]at I;refine dt λkZ=>?_;obtain⟨n,eb,I⟩:=za I;obtain⟨e,ee,I⟩:=za I;obtain⟨k8,er,I⟩:=zq I;have cc:=U.s1 _ _ am;obtain⟨bl,bg⟩:=bq eb;refine kZ ?_;have cd:∀{L:St} {G2 H2:Hp},RC K G2 H2 L n->RC K G2 H2 L (z7 own.length (fr.map (·.2)) s):=λr=>r.weak bl.symm (λj d' hj=>by
    by_cases R:j∈T.idx
    ·rcases qI hj with z|⟨d2,j2,_,hn,_⟩
     ·cases z
     ·exact absurd (hT j R) ⋯
    ·rw[bg j R];exact hj) ad ak
   refine Jo U.sub rg eb λNk b7 _=>bi Nk b3 _ ⟨G0,n,cm,b7<|an.ext U,rfl,λH3 ch p=>?_⟩;have b8:=(b7<|an.ext U).ext p;have xa:=Z.trans<|U.trans p;have ci:=p.s1 _ _ cc;dsimp only;rw[DJ rfl];refine⟨ch,n,e,b8,ee,λA cz H4 cj F g1 g2 g3 g4=>?_⟩;have ap:=F.new D (p.new D (U.new D b1 ⋯) ⋯) ⋯;have W:=xa.trans F;have bd:=(UJ.mp nd).1;have be:D≠A:=λz=>by lia
   have co:A∉bs:=λR=>by obtain⟨_,d1,z⟩:=((M.ext U).ext p).at R;lia
   have cq:t A=cI:=by
    cases z:t A with
    |none=>rfl
    |some o=>rw[xa.s1 _ _ z]at g1;cases g1
   refine⟨F.s1 _ _ ci,O.length-(i+1),⋯,rfl,u,by rw[Tt,UP];lia,zC,cj,bs++[A],S++[e],k8,by simp,(cd<|b8.ext F).upd ap ad ak,ap,⟨W.s0,λc o z=>by rw[zE (λw=>by rw[w,P]at z;cases z)];exact W.s1 c o z,λc o z=>by rw[zE (λw=>by rw[w,ap]at z;cases z)];exact W.sub c o z,W.new⟩,((((M.ext U).ext p).ext F).add g2 g3 g4).hide (by simp[bd,be]),?_,?_,er,?_⟩
   ·refine UJ.mpr ⟨by simp[bd,be],List.nodup_append.mpr ⟨(UJ.mp nd).2,by simp,λc hc c' cr=>?_⟩⟩
    have:=by simpa using cr
    subst this;exact λz=>co (by rw[<-z];exact hc)
   ·intro b Y
    rcases Uo.mp Y with z|z
    ·exact b2 b z
    ·have:=by simpa using z
     subst this;exact cq
   ·rw[<-I];simp
  ·have e:i=O.length:=⋯
   subst e;rw[GN]at I;cases I;rw[DC]at q;refine .inl ⟨wk.stop g Z.s1,q D bs g a (C.trans Z) (λb Y=>?_) ⟨b1,am,nd,M.1,M.2⟩⟩;rcases SS.mp Y with rfl|Y
   ·exact ax _ P
   ·exact ax b<|b2 b Y
 lia
end
section
variable{K:SD}{E0 E H0 H:Hp}{σ:St}{γ:Ctx}
theorem Xu(h:γ.any aG=cT)(i:Nat)(j:List (List D)):γ[i]? ≠ bB (.nest j):=λe=>by exact(F9.mp h _<|TN e) rfl
theorem RS.Y?(r:RS K E0 E G0 G σ γ)(e:Ext G0 G H0 H)(L:∀b∈a::bs,G b=cI)(n:uc K H0 H rows a bs)(Q:γ.any aG=cT):
 RS K E0 E H0 H (σ.set i<|some (.ref a)) (γ.set i<|.nest rows):=by
 have f:=r.rc.ext e;have w:∀b∈a::bs,E b=cI:=λb U=>by
  cases q:E b with
  |none=>rfl
  |some o=>have:=L b U;rw[r.ext.s1 b o q]at this;lia
 refine⟨⟨f.sub,by simp[f.len],λj y g=>?_,λj d g=>?_,λj k b d fs l Y t u=>?_,⟨λj Z g=>?_,λj k B C I g2=>?_⟩⟩,r.ext.trans e,λj d b I g2=>?_,λj Z b N I g2 O=>?_⟩
 ·rcases zF g with⟨_,z,_⟩|⟨J,z⟩
  ·cases z
  ·obtain⟨F,I,g2⟩:=f.val j y z
   exact⟨F,by rw[SK (Tq J)];exact I,g2⟩
 ·rcases zF g with⟨_,z,_⟩|⟨J,z⟩
  ·cases z
  ·obtain⟨b,x,I,g2⟩:=f.own j d z
   exact⟨b,x,by rw[SK (Tq J)];exact I,g2⟩
 ·rcases zF l with⟨_,z,_⟩|⟨J,h⟩
  ·cases z
  ·rcases zF Y with⟨_,z,_⟩|⟨m,s⟩
   ·cases z
   ·rw[SK (Tq J)]at t
    rw[SK (Tq m)]at u;exact f.ne j k b d fs h s t u
 ·rcases zF g with⟨rfl,z,p⟩|⟨J,z⟩
  ·cases z
   refine⟨a,bs,Te (by rw[f.len];exact p),n,λk d c l Y=>?_⟩;rcases zF l with⟨_,z,_⟩|⟨m,h⟩
   ·cases z
   ·rw[SK (Tq m)]at Y
    obtain⟨M,x,I,g2,O,_⟩:=r.rc.own k d h
    grind
  ·exact absurd z<|Xu Q j Z
 ·rcases zF I with⟨rfl,_,_⟩|⟨_,h⟩
  ·rcases zF g2 with⟨rfl,_,_⟩|⟨_,s⟩
   ·rfl
   ·exact absurd s<|Xu Q k C
  ·exact absurd h<|Xu Q j B
 ·rcases zF I with⟨_,z,_⟩|⟨J,z⟩
  ·cases z
  ·rw[SK (Tq J)]at g2;exact r.fresh j d b z g2
 ·rcases zF I with⟨rfl,z,p⟩|⟨J,z⟩
  ·rw[Te (by rw[f.len];exact p)]at g2;cases g2
   rw[n.ha]at O;injection O with O;injection O with O;subst O;refine⟨w a SO,λb U=>?_⟩;obtain⟨c,A,q⟩:=Tb.mp U;cases q;exact w b<|SQ _ A
  ·exact absurd z<|Xu Q j Z
theorem RS.forget(r:RS K E0 E H0 H σ γ):RS K E0 E H0 H (σ.set i v) (γ.set i .no):=by
 have J:∀{j:Nat} {e:List D} {b:dj},(γ.set i .no)[j]? = bB (.own e)->_/\(σ.set i v)[j]? = σ[j]? :=λ{j e b} g=>by
  rcases zF g with⟨_,z,_⟩|⟨O,z⟩
  ·cases z
  ·exact⟨z,SK<|Tq O⟩
 have Q:∀{j:Nat} {d:List (List D)},(γ.set i .no)[j]? = bB (.nest d)->_/\(σ.set i v)[j]? = σ[j]? :=λ{j d} g=>by
  rcases zF g with⟨_,z,_⟩|⟨O,z⟩
  ·cases z
  ·exact⟨z,SK<|Tq O⟩
 refine⟨⟨r.rc.sub,by simp[r.rc.len],λj o g=>?_,λj e g=>?_,λj k b e fs l U m n=>?_,⟨λj d g=>?_,λj k w x I g2=>r.rc.m9.2 j k w x (Q I).1 (Q g2).1⟩⟩,r.ext,λj e b I g2=>?_,λj d b A I g2 g3=>?_⟩
 ·rcases zF g with⟨_,z,_⟩|⟨O,z⟩
  ·cases z
  ·obtain⟨y,I,g2⟩:=r.rc.val j o z
   exact⟨y,by rw[SK (Tq O)];exact I,g2⟩
 ·obtain⟨f,h⟩:=J (b:=0) g
  rw[h];exact r.rc.own j e f
 ·obtain⟨f,h⟩:=J (b:=0) l
  obtain⟨Y,Z⟩:=J (b:=0) U;rw[h]at m;rw[Z]at n;exact r.rc.ne j k b e fs f Y m n
 ·refine dt λu=>?_;obtain⟨f,h⟩:=Q g
  obtain⟨a,bs,p,s,t⟩:=r.rc.m9.1 j d f;refine u ?_;refine⟨a,bs,by rw[h];exact p,s,λk e c l U=>?_⟩;obtain⟨Y,Z⟩:=J (b:=0) l;rw[Z]at U;exact t k e c Y U
 ·obtain⟨f,h⟩:=J (b:=0) I
  rw[h]at g2;exact r.fresh j e b f g2
 ·obtain⟨f,h⟩:=Q I
  rw[h]at g2;exact r.sy j d b A f g2 g3
theorem aj:∀{l:List dj} {m t:Nat} {b:dj},l.Nodup->l[m]? = bB b->l[t]? = bB b->m=t
 |[],m,t,b,_,h,_=>by simp at h
 | c::l,m,t,b,nd,h1,h2=>by
  obtain⟨a,I⟩:=UJ.mp nd;cases m with
  | zero=>
   cases t with
   |zero=>rfl
   |succ t=>
    have e1:=by simpa using h1
    exact absurd (TN<|by simpa using h2)<|e1 ▸ a
  | succ m=>
   cases t with
   |zero=>
    have J:=by simpa using h1
    exact absurd (TN J)<|(by simpa using h2) ▸ a
   |succ t=>exact congrArg (· + 1) (aj I (by simpa using h1)<|by simpa using h2)
theorem RC.row{j i t:Nat}{R:List (List D)}{a b:dj}{bs:List dj}{row:List D}(r:RC K H0 H σ γ)(M:γ[j]? = bB (.nest R))(hs:σ[j]? = bB (bB (.ref a)))(S:uc K H0 H R a bs)
 (Y:∀(k:Nat) ds c,γ[k]? = bB (.own ds)->σ[k]? = bB (bB (.ref c))->c∉a::bs) (Z:bs[t]? = bB b) (X:R[t]? = bB row) (L:i<γ.length):
 RC K H0 H (σ.set i<|some (.ref b)) ((γ.set j .no).set i (.own row)):=by
 obtain⟨p,y,s,u⟩:=S.row t b row Z X;have l:b∈a::bs:=SQ _<|TN Z;have J:∀{k:Nat} {c:Cell},c ≠ .no->_=bB c->γ[k]? = bB c/\k≠j:=λ{k c} x g=>by
  rcases zF g with⟨_,z,_⟩|⟨I,z⟩
  ·exact absurd z x
  ·exact⟨z,I⟩
 refine⟨r.sub,by simp[r.len],λk d g=>?_,λk ds g=>?_,λk m c ds o w n O Q=>?_,oz.B5 λk h g=>?_⟩
 ·rcases zF g with⟨_,z,_⟩|⟨I,z⟩
  ·cases z
  ·obtain⟨e,_⟩:=J ⋯ z
   rw[SK (Tq I)];exact r.val k d e
 ·rcases zF g with⟨rfl,z,A⟩|⟨I,z⟩
  ·cases z
   exact⟨b,y,Te (by rw[r.len];exact L),p,s,u⟩
  ·obtain⟨e,_⟩:=J ⋯ z
   rw[SK (Tq I)];exact r.own k ds e
 ·rcases zF w with⟨rfl,_,_⟩|⟨I,e⟩
  ·rcases zF n with⟨rfl,_,_⟩|⟨U,f⟩
   ·rfl
   ·obtain⟨f,_⟩:=J ⋯ f
    rw[Te (by rw[r.len];exact L)]at O;rw[SK (Tq U)]at Q;cases O;exact absurd l<|Y m o b f Q
  ·obtain⟨e,_⟩:=J ⋯ e
   rcases zF n with⟨rfl,_,_⟩|⟨U,f⟩
   ·rw[Te (by rw[r.len];exact L)]at Q
    rw[SK (Tq I)]at O;cases Q;exact absurd l<|Y k ds b e O
   ·obtain⟨f,_⟩:=J ⋯ f
    rw[SK (Tq I)]at O;rw[SK (Tq U)]at Q;exact r.ne k m c ds o e f O Q
 ·rcases zF g with⟨_,z,_⟩|⟨I,z⟩
  ·cases z
  ·obtain⟨e,f⟩:=J ⋯ z
   exact f<|r.m9.2 k j h R e M
theorem RS.Q?(r:RS K E0 E H0 H σ γ)(O:γ[j]? = bB (.nest R))(hs:σ[j]? = bB (bB (.ref a)))(I:uc K H0 H R a bs)
 (M:∀(k:Nat) ds c,γ[k]? = bB (.own ds)->σ[k]? = bB (bB (.ref c))->c∉a::bs) (L:bs[t]? = bB b) (S:dr K H0 p_ ys):
 RS K E0 E H0 (upd H b<|.lst ys) σ (γ.set j<|.nest<|R.set t p_):=by
 have h:=TN L;have u:b≠a:=λq=>(UJ.mp I.nd).1 (by rw[<-q];exact h);obtain⟨x,_⟩:=I.at<|SQ a h;obtain⟨F,w⟩:=r.sy j R a _ O hs I.ha;have W:=w b<|Tb.mpr ⟨b,h,rfl⟩;have Q:∀{k:Nat} {c:Cell},(∀e,c ≠ .nest e)->(γ.set j<|.nest<|R.set t p_)[k]? = bB c->γ[k]? = bB c:=λ{k c} U g=>by
  rcases zF g with⟨_,z,_⟩|⟨i,z⟩
  ·exact absurd z<|U _
  ·exact z
 refine⟨⟨λc o q=>?_,by simp[r.rc.len],λk d g=>r.rc.val k d<|Q ⋯ g,λk ds g=>?_,λk m c ds G y A B C=>r.rc.ne k m c ds G (Q ⋯ y) (Q ⋯ A) B C,⟨λk e g=>?_,λk m P T J g2=>?_⟩⟩,⟨r.ext.s0,λc o q=>?_,λc o q=>?_,r.ext.new⟩,λk ds c J g2=>r.fresh k ds c (Q ⋯ J) g2,λk e c n J g2 Y=>?_⟩
 ·rw[zE (λz=>by lia)];exact r.rc.sub c o q
 ·have z:=Q ⋯ g
  obtain⟨c,n,f,Z,p,N⟩:=r.rc.own k ds z;refine⟨c,n,f,Z,?_,N⟩;rw[zE (λq=>M k ds c z f<|by rw[q];exact SQ _ h)];exact p
 ·have i:k=j:=by
   rcases zF g with⟨z,_,_⟩|⟨_,z⟩
   ·exact z
   ·exact r.rc.m9.2 k j e R z O
  subst i;rw[Te ((nt.mp O).1)]at g;cases g;refine⟨a,bs,hs,⟨I.a0,by rw[zE (Tq u)];exact I.ha,I.nd,by simp[I.len],λm c row U l=>?_⟩,λm ds c J g2=>M m ds c (Q ⋯ J) g2⟩;by_cases s:m=t
  ·subst s
   rw[L]at U;cases U;have:m<R.length:=by rw[<-I.len];exact(nt.mp L).1
   rw[Te this]at l;cases l;exact⟨x,ys,zC,S⟩
  ·rw[SK (Tq s)]at l
   obtain⟨f,n,Z,p⟩:=I.row m c row U l;exact⟨f,n,by rw[zE (λq=>by subst q;exact s<|aj ((UJ.mp I.nd).2) U L)];exact Z,p⟩
 ·have f:k=j:=by
   rcases zF J with⟨z,_,_⟩|⟨_,z⟩
   ·exact z
   ·exact r.rc.m9.2 k j P R z O
  have Z:m=j:=by
   rcases zF g2 with⟨z,_,_⟩|⟨_,z⟩
   ·exact z
   ·exact r.rc.m9.2 m j T R z O
  rw[f,Z]
 ·rw[zE (λz=>by lia)];exact r.ext.s1 c o q
 ·rw[zE (λz=>by lia)];exact r.ext.sub c o q
 ·have i:k=j:=by
   rcases zF J with⟨z,_,_⟩|⟨_,z⟩
   ·exact z
   ·exact r.rc.m9.2 k j e R z O
  subst i;rw[hs]at g2;cases g2;rw[zE (Tq u),I.ha]at Y;injection Y with Y;injection Y with Y;subst Y;exact⟨F,w⟩
end
section
variable{K:SD}{E0 E H0 H:Hp}{σ:St}{γ:Ctx}
theorem RS.freeze(r:RS K E0 E H0 H σ γ)(e:γ[i]? = bB (.own ds)):∃L,RS K E0 E L H σ (γ.set i<|.val<|.lst ds):=by
 obtain⟨a,k,f,J,Q,U⟩:=r.rc.own i ds e;have m:=r.fresh i ds a e f;obtain⟨L,h,O⟩:∃L,L=upd H0 a (.lst k)/\_:=by exact⟨_,rfl,RC.M? r.rc e f J Q U⟩
 subst h;refine⟨_,O,⟨r.ext.s0.trans<|jj J _,r.ext.s1,O.sub,λc Y Z=>?_⟩,λj g b I g2=>?_,λj d b l I g2 g3=>?_⟩
 ·rw[zE (λz=>by lia)];exact r.ext.new c Y Z
 ·rcases zF I with⟨_,z,_⟩|⟨_,z⟩
  ·cases z
  ·exact r.fresh j g b z g2
 ·rcases zF I with⟨_,z,_⟩|⟨_,z⟩
  ·cases z
  ·exact r.sy j d b l z g2 g3
open Classical in
noncomputable def lR(H0 H:Hp)(L:List dj):Hp:=λc=>if c∈L then H c else H0 c
theorem VO(h:c∈L):lR H0 H L c=H c:=by unfold lR;rw[DJ h]
theorem Jg(h:c∉L):lR H0 H L c=H0 c:=by unfold lR;rw[DY h]
theorem WT:∀{e:List (List D)} {bs:List dj},bs.length=e.length->(∀(k:Nat) b row,bs[k]? = bB b->e[k]? = bB row->∃xs,G b=bB (.lst xs)/\dr K G row xs)->dr K G (e.map D.lst) (bs.map V.ref)
 |[],[],_,_=>dr.nil
 |[],_::_,h,_=>by simp at h
 |_::_,[],h,_=>by simp at h
 |row::e,b::bs,h,f=>by obtain⟨xs,I,g2⟩:=f 0 b row rfl rfl;exact dr.cons (XT (fy.of I) g2) (WT (by simpa using h) λk c r a J=>f (k+1) c r (by simpa using a)<|by simpa using J)
theorem RS.C?(r:RS K E0 E H0 H σ γ)(e:γ[i]? = bB (.nest rows)):∃L,RS K E0 E L H σ (γ.set i<|.val<|.lst<|rows.map D.lst):=by
 obtain⟨a,bs,n,O,t⟩:=r.rc.m9.1 i rows e;obtain⟨A,B⟩:=r.sy i rows a _ e n O.ha;have ef:∀b∈a::bs,E b=cI:=λb Z=>by
  rcases SS.mp Z with rfl|Z
  ·exact A
  ·exact B b<|Tb.mpr ⟨b,Z,rfl⟩
 have h:ft H0 (lR H0 H (a::bs)):=λc o q=>by rw[Jg (λJ=>by rw[(O.at J).1]at q;cases q)];exact q
 have sub:ft (lR H0 H (a::bs)) H:=λc o q=>by
  by_cases J:c∈a::bs
  ·rw[VO J]at q;exact q
  ·rw[Jg J]at q;exact r.rc.sub c o q
 have p:∀{j:Nat} {Q:List (List D)},(γ.set i<|.val<|.lst<|rows.map D.lst)[j]? ≠ bB (.nest Q):=λ{j Q} g=>by
  rcases zF g with⟨_,z,_⟩|⟨l,z⟩
  ·cases z
  ·exact l<|r.rc.m9.2 j i Q rows z e
 have U:∀{j:Nat} {f:List D},(γ.set i<|.val<|.lst<|rows.map D.lst)[j]? = bB (.own f)->γ[j]? = _:=λ{j f} g=>by
  rcases zF g with⟨_,z,_⟩|⟨l,z⟩
  ·cases z
  ·exact z
 refine⟨_,⟨sub,by simp[r.rc.len],λj d g=>?_,λj f g=>?_,λj k c f C u w x y=>r.rc.ne j k c f C (U u) (U w) x y,oz.B5 λj Q=>p⟩,⟨r.ext.s0.trans h,r.ext.s1,sub,λc m Y=>?_⟩,λj f b I g2=>r.fresh j f b (U I) g2,λj Q b s I=>absurd I p⟩
 ·rcases zF g with⟨rfl,z,M⟩|⟨l,z⟩
  ·cases z;exact⟨_,n,XT (fy.of<|by rw[VO SO];exact O.ha) (WT O.len λk b row I g2=>by
  obtain⟨_,G,m,Y⟩:=O.row k b row I g2;exact⟨G,by rw[VO (SQ _<|TN I)];exact m,Y.mono h⟩)⟩
  ·obtain⟨v,I,g2⟩:=r.rc.val j d z
   exact⟨v,I,g2.mono h⟩
 ·obtain⟨b,s,I,g2,g3,F⟩:=r.rc.own j f (U g)
  exact⟨b,s,I,by rw[Jg (t j f b (U g) I)];exact g2,g3,F.mono h⟩
 ·rw[Jg (λJ=>Y<|ef c J)];exact r.ext.new c m Y
end
section
variable{X:Cx}{st:hB}{F:CO Fl}
theorem EA(i:Nat)(h:i6 X st F):i6 X st (Pp i F):=xS h λD j H J=>by obtain⟨E0,E,e,g,O,d,I,Q⟩:=J;obtain⟨f,b,I⟩:=za I;obtain⟨a,U⟩:=d.freeze<|yj b;exact⟨E0,E,a,_,O,U,I,Q⟩
theorem zdO(i:Nat)(h:i6 X st F):i6 X st (Hy i F):=xS h λD j H J=>by obtain⟨E0,E,f,g,O,e,I,Q⟩:=J;obtain⟨b,d,I⟩:=za I;obtain⟨a,U⟩:=e.C?<|Jm d;exact⟨E0,E,a,_,O,U,I,Q⟩
end
section
variable{X:Cx}{sc:f6}{N L:List Str}{k:Nat}
theorem zdN(i:Nat)(h:SX X sc N L k)(c:yC sc N L i y=cm)
 (U:X.calm=cm) (ok:r6 X scope fr) (Y:∀i∈T.idx,i<own.length) (S:sm X tg iter src) (Z:∀fp z j,PG (jF X scope (own++fr.map (·.1)) fp z j) tg<|oT X.K T)
 (M:∀fp z j,PO (jF X scope (own++fr.map (·.1)) fp z j) elt f) (hs:∀x,oI iter X.env x=pure x:=by intro _;rfl):
 i6 X (.Assign [.Name y py] (.ListComp elt [⟨tg,iter,[],0⟩] scope cpos) spos) (uw i<|fH src T own.length (fr.map (·.2)) f):=by
 obtain⟨s,t,u⟩:=h.loc c;refine xS (JG (te:=tO X.K f) h.E6 s t u U ok S Z (λ_ _ _=>Vr) M hs) λD o H J=>?_;refine dt λA=>?_;obtain⟨E0,E,e,l,F,m,I,p⟩:=J;obtain⟨d,r,I⟩:=za I;refine A ?_;by_cases O:l.any aG=cT
 ·rw[DJ O]at I;cases I
  exact my Y (λo H Q J=>by obtain⟨e,l,b,B,I,q⟩:=J;cases I;exact q H e<|Ext.refl B.sub) o H _ ⟨e,l,d,m.rc,r,λa bs C g x w n=>p _ _ g<|m.Y? x w n O⟩
 lia
theorem om(J:i≠j)(c:Cell)(r:List D):((((γ.set j c).set i .no).set j .no).set i (.own r))=vq γ j i r:=by
 unfold vq;apply F8;intro m;simp only[P4,List.length_set];by_cases a:i=m
 ·subst a;simp
 ·by_cases I:j=m
  ·subst I;simp[a]
  ·simp[a,I]
theorem cZ{γ:Ctx}{j i:Nat}(I:i≠j)(c J:Cell):(((γ.set j c).set i .no).set j J)=(γ.set j J).set i .no:=by rw[List.set_comm _ _ (Tq I),List.set_set,List.set_comm _ _ I]
theorem YE(j i:Nat){x y:Str}{b5 U b6:eU}{Q e:dv}{g f:CO D}{p pos c4:eU}(hp:Lw (d8 X.prog X.w) X.A X.env X.xe)(hc:X.calm=cm)(h:SX X sc N L k)(cj:vz sc N j x=cm)(ci:vz sc N i y=cm)
 (hg:PG X (.Name y b5) (vd i)) (hi:PV X Q g) (he:PV X e f)
 (ha:∀v,uZ (.Subscript (.Name y U) Q p) X.env v=(do
   let ov<-rn [v] (dy (.Name y U) X.env);let iv<-rn [v,ov] (dy Q X.env)
   y6 p
   rn [v,ov,iv] (OR ov iv v)
   release [v,ov,iv] []):=by intro _;rfl)
 (hs:My [.Subscript (.Name y U) Q p] e pos.line X.env=pure cT:=by rfl) (hw:OY [.Subscript (.Name y U) Q p] e X.env=pure cI:=by rfl)
 (h1:(uv [.Subscript (.Name y U) Q p] X.env).map (·.2)=[uZ (.Subscript (.Name y U) Q p) X.env]:=by rfl)
 (hf:∀z,oI (.Name x b6) X.env z=pure z:=by intro _;rfl):
 i6 X (.For (.Name y b5) (.Name x b6) [.Assign [.Subscript (.Name y U) Q p] e pos] [] c4) (cn j i g f):=
 xS (oQ hp hc (oW<|h.var cj) hg (vM<|fW he (BN (h.var ci) hi fD ha) hs hw h1) hf) λD B H hZ=>by
  refine dt λY=>?_;obtain⟨E0,E,H0,r,fl,rs,G,b7⟩:=hZ;obtain⟨l,T,G⟩:=za G;refine Y ?_;have T:=Jm T;by_cases b8:i=j\/r.length<=i
  ·lia
  rw[DY b8]at G;have Z:=λz=>b8<|.inl z;have ad:i<r.length:=⋯
  have ce:=(nt.mp T).1;obtain⟨ao,e2,G⟩:=zq G;subst G;have es:B.set i (B[i]?.getD cI)=B:=by simp[show i<B.length by rw[rs.rc.len];exact ad]
  obtain⟨a,bs,g1,hn,dd⟩:=rs.rc.m9.1 j l T;refine⟨_,g1,a,.L,rfl,⟨_,fy.of hn.ha⟩,?_⟩;refine⟨λt m C H'=>m=l.length-t/\t<=l.length/\∃o I k8 O,I.length=t/\O[j]? = bB (bB (V.ref a))/\(∃v,C=O.set i v)/\H' a=bB (.lst<|bs.map V.ref)/\RS X.K E0 E o H' C ((r.set j<|.nest<|I++l.drop t).set i .no)/\ku j i g f r (l.drop t)=bB k8/\ao=I++k8,
   ⟨_,rfl,Uc _,H0,[],ao,B,rfl,g1,⟨B[i]?.getD cI,?_⟩,hn.ha,?_,e2,rfl⟩,?_⟩
  ·exact es.symm
  ·have:=rs.forget (i:=i) (v:=B[i]?.getD cI)
   rw[es]at this;have ec:r.set j (.nest l)=r:=by simp[<-(nt.mp T).2]
   simpa[ec]using this
  rintro t m C H' ⟨rfl,ht,o,I,k8,O,bd,P,⟨v0,rfl⟩,R,S,J,er⟩;have ak:((r.set j<|.nest<|I++l.drop t).set i .no)[j]? = bB (.nest<|I++l.drop t):=by rw[SK Z,Te ce]
  obtain⟨a',s,q1,as,co⟩:=S.rc.m9.1 j _ ak;rw[SK Z,P]at q1;cases q1;have cq:s=bs:=by have:=as.ha;rw[R]at this;injection this with this;injection this with this;exact(y8 this).symm
  subst cq;have cr:s.length=l.length:=by rw[as.len];simp;grind
  by_cases bg:t<l.length
  ·have M:s[t]? = bB (s[t]'⋯):=SH ⋯
   generalize s[t]'⋯=b at M;have aw:=UN bg;refine .inr ⟨⟨_,.ref b,fy.of R,by rw[TV,M];rfl⟩,λF H2=>t+1<=l.length/\∃(o:Hp) (I k8:List (List DL.D)) (O:L2.St),I.length=t+1/\O[j]? = bB (bB (V.ref a))/\(∃v,F=O.set i v)/\H2 a=bB (.lst<|s.map V.ref)/\RS X.K E0 E o H2 F ((r.set j<|.nest<|I++l.drop (t+1)).set i .no)/\ku j i g f r (l.drop<|t+1)=bB k8/\ao=I++k8,λF H2 n=>⟨l.length-(t+1),⋯,rfl,n.1,n.2⟩,λzgF H2 yl=>?_⟩;obtain⟨rfl,yl⟩:=yl;have cs:=by have:=yl _<|fy.of R;rw[TV,M]at this;exact(TJ this).symm
   subst cs;rw[aw]at J;simp only[ku]at J;refine dt λY=>?_;obtain⟨d,f1,J⟩:=za J;obtain⟨kk,f2,J⟩:=za J;obtain⟨dk,f3,f2⟩:=za f2;obtain⟨W,f4,J⟩:=za J;obtain⟨cy,f5,J⟩:=zq J;refine Y ?_;have d0:(I++l.drop t)[t]? = bB l[t]:=by rw[aw,TC ⋯,bd];simp
   have u:(O.set i v0).set i (bB (.ref b))=O.set i (bB (.ref b)):=List.set_set ..;have al:=S.rc.row ak (by rw[SK Z];exact P) as co M d0 (by simp;exact ad);simp only[om Z,u]at al;show ∃_,_;refine⟨o,vq r j i l[t],d,?_,f1,λv H3 d1 x3 r3=>?_⟩
   ·rw[u];exact al
   have bi:=al.ext x3;refine dt λY=>?_;obtain⟨b',xs,p1,p2,p3,p4⟩:=bi.own i l[t] (by unfold vq;rw[Te (by simpa using ad)]);refine Y ?_;have d4:b'=b:=by
    rw[Te (by
     have:=al.len;simp[vq]at this;rw[this];exact ad)]at p1
    cases p1;rfl
   subst d4;refine⟨_,by rw[u];exact p1,d1,vq r j i l[t],dk,by rw[u];exact bi,f3,λv2 H4 d5 x4 r4=>?_⟩;rw[jD f2]at r4;refine⟨b',xs,kk,W,rfl,jv r4,x4.s1 _ _ p3,by rw[p4.length];exact gJ f4,?_⟩;have b3:=((S.step x3).step x4).forget (i:=i) (v:=bB (.ref b'));simp only[(List.set_set ..),u]at b3;refine dt λY=>?_;obtain⟨a2,gm,w1,b4,d6⟩:=b3.rc.m9.1 j _ ak;refine Y ?_;rw[SK Z,P]at w1;cases w1;have bn:=x4.s1 _ _<|x3.s1 _ _ R;have d7:gm=s:=by have:=b4.ha;rw[bn]at this;injection this with this;injection this with this;exact(y8 this).symm
   subst d7;have bv:=b3.Q? ak (by rw[SK Z];exact P) b4 d6 M<|(p4.mono x4.s0).set W (r3.mono x4.s0);refine⟨bg,d5,I++[l[t].set W d],cy,O,by simp[bd],P,⟨bB (.ref b'),u⟩,by rw[zE (λq=>(UJ.mp b4.nd).1 (by rw[q];exact TN M))];exact bn,?_,f5,by rw[er,<-J];simp⟩;rw[u];have eR:(I++l.drop t).set t (l[t].set W d)=(I++[l[t].set W d])++l.drop (t+1):=by rw[aw,List.set_append_right _ _ ⋯,show t-I.length=0 by lia,R_];rfl
   rw[eR,cZ Z]at bv;exact bv
  ·have et:t=l.length:=⋯
   subst et;rw[GN]at J;cases J;rw[GN]at S;refine .inl ⟨⟨_,fy.of R,by simp[cr]⟩,?_⟩;rw[er]at b7;exact b7 _ _ o S
end
end DL
namespace L2
open PySem PySem.Spec PyProof.Rows
noncomputable def NQ(K:SD):V->List V->Hp->VK->Prop:=λx d H Q=>∃I p b,x=.str I/\d=[.ref p]/\fy K H p (b.map V.str)/\Builtin.Str.tooLong (b.toArray.foldl (λa p=>a+p.length+I.length) 0)=cT/\Q (.str<|r0 I b) H
theorem Wq:∀{j:List Str} {e:List dn},ez (j.map V.str) e->∃l,strValues l=e/\l.map (·.1)=j
 |[],e,r=>by cases r;exact⟨[],rfl,rfl⟩
 |z::j,u::e,.cons r t=>by obtain⟨I,rfl⟩:=r;obtain⟨l,rfl,h⟩:=Wq t;exact⟨(z,I)::l,rfl,by simp[h]⟩
theorem Fd{X:Cx}:D0 X "str.join" (NQ X.K):=by intro a s y H x n v m Q I U Y h;obtain⟨J,p,w,rfl,rfl,Z,O,q⟩:=h;obtain⟨t,rfl⟩:=U;obtain⟨u,rfl,rw⟩:=kF Y;cases rw;refine dt λg=>?_;obtain⟨f,r,i,j⟩:=I.list Z;obtain⟨l,rfl,e⟩:=Wq r;refine g ?_;subst e;refine tN F.slot_str_join (DN _ _ _) F.entry_str_join (F.args_str_join_2 _ _) (meets_str_join_list J t p l O) ⟨i.isList,post_join l ⟨joinFit_length O,λd k=>?_⟩⟩;refine⟨.str _,H,(I.kept λb o e=>e),⟨d,?_⟩,q⟩;show Value.str (Builtin.Str.glued J _) d=_;rw[StrLaws.glued_eq_join]
end L2
namespace DL
open PySem PySem.Spec PyProof.Rows L2
theorem vD{K:SD}{H:Hp}:∀{ds:List D} {xs:List V} {l:List Str},dr K H ds xs->WC ds=bB l->xs=l.map V.str
 |[],xs,l,r,e=>by cases e;rw[r];rfl
 | d::ds,xs,l,r,e=>by
  obtain⟨x,g,rfl,I,b⟩:=(r);cases d with
  |str i=>
   obtain⟨f,a,rfl⟩:=zq e;rw[vD b a,I];rfl
  |_=>cases e
section
variable{X:Cx}{sc:f6}{N L:List Str}{k:Nat}{o e a b:dv}{apos cpos pos p:eU}{f g:CO D}{q:CO (Sk×List D)}
theorem wC(h:zU x=cm):x.length<=1000:=of_decide_eq_true h
theorem wB(h:zU x=cm):x.length<=eK:=Tf (wC h) ⋯
theorem yU(U:PV X o f)(E:PQ X e q)(Y:x8 o "join" X.env (dy o X.env)=dy o X.env:=by rfl)
 (Z:((oe cpos<|starEach [e] X.env).all (λx=> !x.1)&&(yg cpos<|keywordEach [] X.env).all (λx=>x.1.isSome)&&decide ([e].length+([]:List tr).length+(if ([]:List tr).isEmpty then 0 else 1)<30))=cm:=by rfl)
 (z:(apos.endLine==cpos.line)=cm:=by rfl) (hs:eA [e] X.env=[(cT,dy e X.env)]:=by rfl):PV X (.Call (.Attribute o "join" apos) [e] [] cpos) (Zn f q):=
 jK (lu J_ PySem.F.slot_str_join PySem.F.type_str_join Fd U (z9 E jM hs) Y Z z hs rfl) λW H Q A=>by
  refine dt λC=>?_;obtain⟨i,h,d,g,I,K⟩:=A;obtain⟨m,p,I⟩:=za I;obtain⟨⟨G,n⟩,s,I⟩:=za I;refine C ?_;cases m with
  | str O=>
   cases G with
   | L=>
    obtain⟨l,t,I⟩:=za I;by_cases J:l.length<=lim/\l.all zU=cm/\zU O=cm
    ·rw[DJ J]at I;cases I
     refine⟨i,h,_,g,p,λv P b x r=>?_⟩;rw[r];refine⟨rfl,b,h,.L,n,g.ext x,s,λa S j k N w R M=>?_⟩;have u:=vD M t;subst u;refine⟨O,a,l,rfl,rfl,w,StrLaws.joinFits (λy B=>wC<|Uz.mp J.2.1 y B) ?_,K _ j k (x.trans N) rfl⟩;have:lim=2500:=rfl;have:l.length*O.length<=2500*1000:=Nat.mul_le_mul ⋯<|wC J.2.2;lia
    ·rw[DY J]at I;cases I
   |T=>cases I
  |_=>cases I
theorem yT(E:PV X a f)(U:PV X b g)(hs:eD b:=by intro _ _;rfl):PV X (.Subscript a b pos) (xc f g):=
 jK (Iv Lc E U hs) λC H Q Y=>by
  obtain⟨m,l,d,k,I,q⟩:=Y;obtain⟨Z,s,I⟩:=za I;obtain⟨i,J,I⟩:=za I;obtain⟨p,t,J⟩:=za J;cases Z with
  | str z=>
   by_cases O:zU z=cm
   ·have I:(if zU z=cm then (g5 _ i).bind _ else cI)=bB d:=I
    rw[DJ O]at I;obtain⟨j,u,I⟩:=za I;obtain⟨c,w,rfl⟩:=zq I;refine⟨m,l,_,k,s,λv A e x r=>⟨e,l,p,k.ext x,t,λB n o y h=>?_⟩⟩;rw[jD J]at h;refine⟨z,i,c,r,jv h,wB O,?_,q _ n o (x.trans y) rfl⟩;unfold x7;rw[gJ u];exact w
   lia
  |_=>cases I
theorem cD(h:SX X sc N L k)(c:k9 sc "len" = cm)(z:X.mg "len" = cI)(j:PV X e f)(hs:eA [e] X.env=[(cT,dy e X.env)]:=by rfl):PV X (.Call (.Name "len" p) [e] [] pos) (iP f):=
 jK (yh ba (h.gl c).1 z PySem.boot_len (z9 j jM hs) ⋯ ⋯ hs rfl) λn H Q O=>by
  obtain⟨g,m,d,l,I,q⟩:=O;obtain⟨U,i,I⟩:=za I;cases U with
  | str z=>
   by_cases J:zU z=cm
   ·have I:(if zU z=cm then bB _ else cI)=bB d:=I
    rw[DJ J]at I;cases I;refine⟨g,m,_,l,i,λv b a x r=>⟨z,by rw[r],wB J,q _ b a x rfl⟩⟩
   lia
  |_=>cases I
end
section
variable{X:Cx}{sc:f6}{N L:List Str}{k:Nat}{b:dv}{f:CO D}
theorem fQ(h:SX X sc N L k)(c:k9 sc "min" = cm)(z:X.mg "min" = cI)(E:PV X a f)(U:PV X b g)(hs:eA [a,b] X.env=[(cT,dy a X.env),(cT,dy b X.env)]:=by rfl)(J:eA [b] X.env=[(cT,dy b X.env)]:=by rfl):
 PV X (.Call (.Name "min" p) [a,b] [] pos) (iO f g):=
 jK (yh (sC h.calm) (h.gl c).1 z PyProof.Rows.boot_min (z9 E (z9 U jM J)<|by rw[hs,J]) ⋯ ⋯ (by rw[hs,J]) (by rw[J];rfl)) λK H Q Y=>by refine dt λZ=>?_;obtain⟨s,o,d,n,I,q⟩:=Y;obtain⟨i,l,I⟩:=za I;obtain⟨w,A,l⟩:=za l;obtain⟨j,O,I⟩:=zq I;obtain⟨y,B,O⟩:=za O;refine Z ?_;subst I;refine⟨s,o,w,n,A,λv F e x r=>⟨e,o,y,n.ext x,B,λG t u C m=>⟨i,j,?_,q _ t u (x.trans C) rfl⟩⟩⟩;rw[jD l]at r;rw[jD O]at m;rw[jv r,jv m]
end
section
variable{X:Cx}{sc:f6}{N L:List Str}{k:Nat}
theorem SX.ti(h:SX X sc N L k)(E:EQ):SX (X.ti E) sc N L k:=⟨h.A9,h.eN,h.nd,h.calm,h.room,h.fn⟩
end
section ap
variable(γ:Ctx)
@[simp] noncomputable def Bn:=@zJ.eq_1
@[simp] noncomputable def LN:=@j5.eq_1
@[simp] noncomputable def yB:=@je.eq_1
@[simp] noncomputable def Ct:=@zf.eq_1
@[simp] noncomputable def sS:=@zk.eq_1
@[simp] theorem LO(d):jn d γ=bB d:=rfl
@[simp] noncomputable def yM:=@zD.eq_1
@[simp] noncomputable def ie:=@sB.eq_1
@[simp] noncomputable def V8:=@QP.eq_1
@[simp] noncomputable def Cu:=@tL.eq_1
@[simp] noncomputable def Gj:=@kc.eq_1
@[simp] noncomputable def zgj:=@uz.eq_1
@[simp] noncomputable def zgb:=@NM.eq_1
@[simp] noncomputable def zgg:=@ck.eq_1
@[simp] theorem sW:zG γ=bB []:=rfl
@[simp] noncomputable def wc:=@zc.eq_1
@[simp] noncomputable def LK:=@kH.eq_1
@[simp] noncomputable def zfQ:=@vx.eq_1
@[simp] noncomputable def zfM:=@jU.eq_1
@[simp] noncomputable def vw:=@jO.eq_1
@[simp] noncomputable def sU:=@yb.eq_1
@[simp] noncomputable def zfK:=@Vj.eq_1
@[simp] noncomputable def zfW:=@HA.eq_1
@[simp] noncomputable def JX:=@g8.eq_1
@[simp] noncomputable def ib:=@jy.eq_1
@[simp] noncomputable def zfI:=@vH.eq_1
@[simp] noncomputable def zfV:=@og.eq_1
@[simp] noncomputable def zeY:=@qf.eq_1
@[simp] noncomputable def eC:=@zA.eq_1
@[simp] noncomputable def zfz:=@jo.eq_1
@[simp] noncomputable def ic:=@zH.eq_1
@[simp] noncomputable def sV:=@jr.eq_1
@[simp] noncomputable def zeT:=@Vk.eq_1
@[simp] noncomputable def zf8:=@bH.eq_1
@[simp] noncomputable def KU:=@J5.eq_1
@[simp] noncomputable def kR:=@zM.eq_1
@[simp] theorem zf9:ja γ=bB cm:=rfl
@[simp] noncomputable def zf5:=@WQ.eq_1
@[simp] noncomputable def zfL:=@Ek.eq_1
@[simp] noncomputable def Gk:=@di.eq_1
@[simp] noncomputable def zfs:=@fF.eq_1
@[simp] theorem zgc:Xa γ=bB cI:=rfl
@[simp] noncomputable def zgn:=@h9.eq_1
@[simp] noncomputable def Re:=@nT.eq_1
@[simp] noncomputable def zgd:=@XN.eq_1
@[simp] noncomputable def zgm:=@Dw.eq_1
@[simp] noncomputable def GM:=@jg.eq_1
@[simp] noncomputable def zeU:=@nX.eq_1
@[simp] noncomputable def ia:=@iN.eq_1
@[simp] noncomputable def LW:=@uA.eq_1
@[simp] noncomputable def zgi:=@GF.eq_1
@[simp] noncomputable def zfS:=@ZM.eq_1
@[simp] noncomputable def zfP:=@nV.eq_1
@[simp] noncomputable def zfF:=@Hx.eq_1
theorem zW(F G):zV F G γ=(F γ).bind λI=>match I with
 |.next a=>G a
 |f=>bB f:=rfl
end ap
@[simp] theorem LJ(ds):j6 (.tup ds)=bB (.T,ds):=rfl
@[simp] theorem zf1(ds):j6 (.lst ds)=bB (.L,ds):=rfl
@[simp] theorem KN(d):sx (bB (.val d))=bB d:=rfl
@[simp] theorem KO(d):Zw (bB (.val d))=j6 d:=rfl
@[simp] theorem zeE(d):Zw (bB (.own d))=bB (.L,d):=rfl
@[simp] theorem zeH(d):Zx (bB (.own d))=bB d:=rfl
@[simp] theorem zeF(d):dQ (bB (.val d))=bB (.ret<|.val d):=rfl
@[simp] theorem zeG(d):dQ (bB (.own d))=bB (.ret<|.own d):=rfl
@[simp] theorem zf3(b):uu (.bl b)=bB b:=rfl
@[simp] theorem sN(b):l7 (.int b)=bB b:=rfl
@[simp] theorem zfn(d):iR (.val d)=d:=rfl
@[simp] theorem zfo(d):iR (.own d)=.lst d:=rfl
@[simp] theorem zfm(d):Pu (.own d)=bB d:=rfl
@[simp] theorem zfe(i j):QI (.int i) (.int j)=bB (.int<|i-j):=rfl
@[simp] theorem zfj(i j):qw (.int i) (.int j)=bB (.int<|i+j):=rfl
@[simp] theorem zfh(i j):yi (.int i) (.int j)=if 0<j then bB (.int<|i%j)else cI:=by show(if Nb i j=cm then _ else _)=_;simp[Nb]
@[simp] theorem zfi(i j):VX (.int i) (.int j)=if 0<j/\j<1073741824 then bB (.int<|i/j)else cI:=by
 show(if LD i j=cm then _ else _)=_;have e:(LD i j=cm)=(0<j/\j<1073741824):=by unfold LD;simp only[Td,decide_eq_true_eq,decide_eq_true_eq];apply propext;constructor<;>intro h<;>exact⟨h.1,⋯⟩
 simp only[e]
@[simp] theorem zfg(i j):ve (.int i) (.int j)=if bK i j=cm then bB (.int<|i*j)else cI:=rfl
@[simp] theorem zff(i j):FM (.int i) (.int j)=if LC i j=cm then bB (.int<|i^j.toNat)else cI:=rfl
@[simp] theorem zf0(i j):sv (.int i) (.int j)=bB (.bl<|decide<|i<j):=rfl
@[simp] theorem zfA(i j):qs (.int i) (.int j)=bB (.bl<|decide<|i<=j):=rfl
@[simp] theorem zfB(i j):o6 (.int i) (.int j)=bB (.bl<|decide<|j<i):=rfl
@[simp] theorem zfC(i j):D8 (.int i) (.int j)=bB (.bl<|decide<|j<=i):=rfl
@[simp] theorem zfD(i j):fh (.int i) (.int j)=bB (.bl<|decide<|i=j):=by unfold fh;exact congrArg (λb=>bB (D.bl b)) (by rw[F4];simp[ip])
@[simp] theorem zfZ(i j):h8 (.int i) (.int j)=bB (.bl<|!decide (i=j)):=by rfl
@[simp] theorem zeO(i is d ds γ):q9 (i::is) (d::ds) γ=q9 is ds (γ.set i<|.val d):=rfl
@[simp] theorem zeN(ds γ):q9 [] ds γ=γ:=by cases ds<;>rfl
@[simp] theorem zfp(i d γ):qx (.nm i) d γ=bB (γ.set i<|.val d):=rfl
@[simp] theorem zeS(i j a b γ):qx (.tp [i,j]) (.tup [a,b]) γ=bB ((γ.set i<|.val a).set j (.val b)):=rfl
@[simp] theorem zgD(γ:Ctx)(G:CO Fl):(bB (Fl.next γ)).bind (λI=>match I with
 |.next γ'=>G γ'
 |f=>bB f)=G γ:=rfl
theorem bh(i j:Int)(e : -(2^64)<j)(I:j<2^64):bK i j=cm:=by unfold bK;lia
theorem vt(i j:Int)(e : -(2^64)<i)(I:i<2^64):bK i j=cm:=by unfold bK;rw[Dc];left;exact decide_eq_true ⋯
theorem yK(e : -(2^62)<i)(I:i<2^62):inR i=cm:=by unfold inR;lia
@[simp] theorem kg(n k:Nat):g5 n k=if k<n then bB k else cI:=by
 unfold g5;by_cases h:k<n
 ·rw[DJ ⟨Int.natCast_nonneg k,⋯⟩,DJ h];simp
 ·rw[DY ⋯,DY ⋯,DY h]
theorem jb:lim=2500:=rfl
@[simp] theorem zfc:0<=lim:=Uc _
@[simp] theorem zfb:1<=lim:=by decide
@[simp] theorem zfa:2<=lim:=by decide
@[simp] theorem ze9:3<=lim:=by decide
@[simp] theorem ze8:4<=lim:=by decide
@[simp] theorem ze7:5<=lim:=by decide
@[simp] theorem ze6:6<=lim:=by decide
@[simp] theorem ze5:7<=lim:=by decide
@[simp] theorem ze4:8<=lim:=by decide
@[simp] theorem ze2:0<lim:=by decide
@[simp] theorem Ft(h:n<=lim):inR n=cm:=yK ⋯ (by have:=jb;lia)
@[simp] theorem ix0(n:Nat):g5 (n+1) 0=bB 0:=kg (n+1) 0 ▸ rfl
@[simp] theorem ix1(n:Nat):g5 (n+2) 1=bB 1:=by have:=kg (n+2) 1;simpa using this
@[simp] theorem J?(n:Nat):g5 (n+3) 2=bB 2:=by have:=kg (n+3) 2;simpa using this
theorem zl(r:α->D):∀(l:List α),(∀x∈l,zI T k f γ [g x]=bB [r x])->zI T k f γ (l.map g)=bB (l.map r)
 |[],_=>rfl
 | x::l,h=>by
  have a:=h x SO;simp only[Tw,zI]at a ⊢;cases e1:qx T (g x) γ with
  |none=>grind
  | some d=>
   rw[e1]at a;simp only[SR]at a ⊢;cases e2:k d with
   |none=>grind
   | some b=>
    rw[e2]at a;simp only[SR]at a ⊢;cases b with
    |false=>simp at a
    | true=>
     cases e3:f d with
     |none=>grind
     |some e=>
      rw[e3]at a;simp at a;rw[(zl r l λy I=>h y<|SQ _ I)];simp[a]
theorem zo(j:qx T d γ=bB γ1)(I:k γ1=bB cm)(J:f γ1=bB e):zI T k f γ [d]=bB [e]:=by simp[zI,j,I,J]
theorem xI(T F d ds γ):yd T F (d::ds) γ=(qx T d γ).bind λγ1=>(F γ1).bind λJ=>match J with
 |.next I=>yd T F ds I
 |.cont I=>yd T F ds I
 |.brk I=>bB (.next I)
 |.ret r=>bB (.ret r):=rfl
theorem KB(P:Nat->Ctx->Prop):∀ds k γ,P k γ->(∀i d γ,ds[i]? = bB d->P (k+i) γ->∃γ',((qx T d γ).bind F=bB (.next γ')\/(qx T d γ).bind F=bB (.cont γ'))/\P (k+i+1) γ')->
 ∃γ',yd T F ds γ=bB (.next γ')/\P (k+ds.length) γ'
 |[],k,γ,h,_=>⟨γ,rfl,h⟩
 | d::ds,k,γ,h,step=>by
  obtain⟨a,e,f⟩:=step 0 d γ rfl h;obtain⟨γ',I,J⟩:=KB P ds (k+1) a (by simpa using f) (λi b O g j=>by have:=step (i+1) b O (by simpa using g) ⋯;rw[show k+(i+1)+1=k+1+i+1 by lia]at this;exact this)
  refine⟨γ',?_,by rw[show k+_=k+1+ds.length by simp;lia];exact J⟩;rw[xI];cases eb:qx T d γ with
  |none=>rw[eb]at e;simp at e
  |some Q=>
   rw[eb]at e;simp only[SR]at e ⊢;rcases e with e|e<;>rw[e]<;>exact I
noncomputable def zX(n:Nat)(f:Nat->Int):List D:=(SF n).map λi=>D.int<|f i
theorem z6(n f):zX n f=(SF n).map λi=>D.int (f i):=rfl
noncomputable def jm(h w:Nat)(f:DW):List D:=(SF h).map λi=>D.tup<|zX w<|f i
noncomputable def qk(h w:Nat)(f:DW):D:=.tup [.int h,.int w,.tup (jm h w f)]
@[simp] theorem zfd(n f):(zX n f).length=n:=by simp[zX]
@[simp] theorem AW(h w f):(jm h w f).length=h:=by simp[jm]
@[simp] theorem zfX(f)(h:i<(zX n f).length):(zX n f)[i]=.int (f i):=by simp[zX]
@[simp] theorem zfY(f)(e:i<(jm h w f).length):(jm h w f)[i]=.tup (zX w<|f i):=by simp[jm]
theorem Jk(h:∀i,i<n->f i=g i):zX n f=zX n g:=by unfold zX;simp_all
theorem VV(e:∀i j,i<h->j<w->f i j=g i j):jm h w f=jm h w g:=by unfold jm;apply Tp;intro i a;rw[Jk λj I=>e i j (SJ.mp a) I]
theorem AV{h w:Nat}{f g:DW}(e:∀i j,i<h->j<w->f i j=g i j):qk h w f=qk h w g:=by unfold qk;rw[VV e]
theorem j9(n:Nat):J9 0 n=zX n λi=>(i:Int):=by simp[J9,zX]
theorem ZE(n:Nat)(f g:Nat->Int):ZA (zX n f) (zX n g)=(SF n).map λi=>D.tup [.int (f i),.int (g i)]:=by unfold ZA zX;rw[DB];simp
theorem zdz(n w:Nat)(f g:DW):ZA (jm n w f) (jm n w g)=(SF n).map λi=>D.tup [.tup (zX w<|f i),.tup (zX w<|g i)]:=by unfold ZA jm;rw[DB];simp
noncomputable def zm(f:Nat->Int):Nat->Int
 |0=>0
 |n+1=>zm f n+f n
theorem XE:∀(xs:List Int) y,fu (xs.map D.int++[.int y])=(fu<|xs.map D.int).map λs=>s+y
 |[],y=>by simp[fu]
 |x::xs,y=>by simp only[Tw,S7,fu];rw[XE xs y];cases e:fu _<;>simp[R3]
theorem vC(f:Nat->Int):∀n,fu (zX n f)=bB (zm f n)
 |0=>rfl
 |n+1=>by
  have I:=vC f n;have e m:zX m f=((SF m).map f).map D.int:=by simp[zX]
  rw[e]at I ⊢;simp only[UO,Ue,Ue,List.map_singleton,List.map_singleton,XE,I];simp[zm]
noncomputable def xJ:=jf 2<|jO<|jg<|je<|zM (zH<|zk 1) (.nm 0) 1 [0] ja (zD yi (zf 0)<|zf 1)
noncomputable def mJ:=jf 3<|jO<|zA xJ<|zc (zf 0)<|zc (j5<|zM (zH<|zJ<|di (zk 1)<|sI 2) (.nm 0) 1 [2] ja (iN<|je<|zM (bH (zf 0)<|zf 1) (.tp [0,1]) 2 [] ja (zD ve (zf 0)<|zf 1))) zG
noncomputable def qi:=jf 2<|zV (jy 1<|j5<|zM (jr<|di (zk 0)<|sI 1) (.nm 0) 1 [0] ja (jg<|je<|zM (zH<|zJ<|di (zk 1)<|sI 2) (.nm 0) 1 [0] ja (di (zk 0)<|zf 1)))<|jO<|kH<|zc (di (zk 0)<|sI 1)<|zc (di (zk 0)<|sI 0)<|zc (jg<|zk 1) zG
noncomputable def wj:=jf 4<|zV (jy 3<|zA qi<|zc (zf 2) zG)<|jO<|kH<|zc (di (zk 1)<|sI 0)<|zc (di (zk 2)<|sI 1)<|zc (jg<|je<|zM (zH<|zJ<|di (zk 1)<|sI 2) (.nm 0) 1 [0,3] ja (zA mJ<|zc (zf 1)<|zc (zf 2)<|zc (zf 0) zG)) zG
noncomputable def qy:=jf 2<|zV (jy 1<|j5<|zM (jr<|zf 0) (.nm 0) 1 [0] ja (jg<|je<|zM (jr<|zf 1) (.nm 0) 1 [0] ja (ck (sB<|zD fh (zf 1)<|zf 0) (sI 1)<|sI 0)))<|jO<|kH<|zc (zf 0)<|zc (zf 0)<|zc (jg<|zk 1) zG
noncomputable def K5:=jf 3<|zV (J5 (Vk (sI 1)<|zf 0) (.nm 2)<|g8 (sB<|zD fh (zD yi (zD ve (zf 1)<|zf 2)<|zf 0)<|sI 1) (Vj 2) jU) xQ
noncomputable def k5:=jf 5<|zV (jy 4<|di (zk 1)<|zf 3)<|zV (g8 (sB<|zD fh (zf 4)<|sI 0) (Vj 1) jU)<|jO<|zA xJ<|zc (zf 0)<|zc (j5<|zM (bH (zf 1)<|zf 2) (.tp [0,1]) 2 [4] ja (zD QI (zf 0)<|zD ve (zf 2)<|zf 1)) zG
noncomputable def Jn:=(zV (jy 6<|j5<|zM (zH<|zk 3) (.nm 0) 1 [5] (sB<|zD h8 (di (zk 0)<|zf 1)<|sI 0) (zf 0))<|zV (g8 (kc<|Hx<|zk 6) HA jU)<|zV (jy 7<|zA K5<|zc (zf 0)<|zc (di (zJ<|di (zk 6)<|sI 0)<|zf 5) zG)<|zV (jy 8<|zA xJ<|zc (zf 0)<|zc (j5<|zM (zH<|zJ<|di (zk 6)<|sI 0) (.nm 0) 1 [7] ja (zD ve (zf 1)<|zf 0)) zG)<|zV (jy 3<|j5<|zM (zH<|zk 3) (.nm 0) 1 [0,5,8] ja (zA k5<|zc (zf 1)<|zc (zf 0)<|zc (zf 3)<|zc (zf 2) zG))<|vH 4<|WQ (je<|zM (zH<|zk 4) (.nm 0) 1 [0,5,8] ja (zA k5<|zc (zf 1)<|zc (zf 0)<|zc (zf 3)<|zc (zf 2) zG))<|je<|vx<|zc (zf 8) zG)
noncomputable def xu:=jf 9<|zV (jy 3<|j5<|zM (zH<|zk 2) (.nm 0) 1 [0] ja (zA xJ<|zc (zf 1)<|zc (zf 0) zG))<|zV (vH 4<|vx zG)<|zV (J5 (jr<|zf 1) (.nm 5) Jn)<|Vj 4
noncomputable def qP:=jf 2<|yb<|zM (zH<|zk 1) (.nm 0) 1 [0] (kc<|sB<|GF<|zJ<|nT (zf 0) Xa<|h9<|zf 1) (nT (zf 0) (h9<|zf 1) Xa)
noncomputable def kB:=jf 5<|zV (jy 3<|j5<|zM (bH (di (zJ<|zA qi<|zc (zf 1) zG)<|sI 2)<|di (zJ<|zA qy<|zc (di (zk 1)<|sI 1) zG)<|sI 2) (.tp [0,1]) 2 [] ja (zD qw (zf 0)<|zf 1))<|zV (jy 4<|j5<|zM (zH<|zk 2) (.nm 0) 1 [1] ja (zD qw (zf 0)<|zD ve (kH<|zc (sI 0) zG)<|di (zk 1)<|sI 1))<|yb<|jo qP<|zc (di (zk 1)<|sI 0)<|zc (j5<|jo xu<|zc (zf 0)<|zc (zD qw (di (zk 1)<|sI 0)<|di (zk 1)<|sI 1)<|zc (j5<|WQ (zk 3)<|zk 4) zG) zG
noncomputable def vh:=jf 2<|yb<|jo kB<|zc (zf 0)<|zc (zf 1)<|zc (j5<|vx zG) zG
noncomputable def J0:=jf 2<|yb<|jo xu<|zc (zf 0)<|zc (di (zk 1)<|sI 0)<|zc (di (zJ<|zA qi<|zc (zf 1) zG)<|sI 2) zG
noncomputable def xn:=jf 1<|jO<|di (je<|zM (WN<|zf 0) (.tp [0,1]) 2 [] (sB<|zD h8 (zf 1)<|sI 0) (zf 0))<|sI 0
noncomputable def kQ:=(zV (jy 6<|zA xn<|zc (zf 5) zG)<|zV (g8 (sB<|zD fh (zf 6)<|zf 3) (jO<|jn .d9) jU)<|fF 4 (zf 6)<|di (zk 5)<|zf 3)
noncomputable def wO:=jf 7<|zV (jy 3<|di (zk 1)<|sI 1)<|zV (vH 4<|Ek (je<|vx<|zc (sI 0) zG)<|zf 3)<|zV (J5 (zH<|zJ<|j5<|jo xu<|zc (zf 0)<|zc (zD qw (zf 3)<|sI 1)<|zc (j5<|zM (bH (di (zk 1)<|sI 2)<|zf 2) (.tp [0,1]) 2 [] ja (zD qw (zf 0)<|kH<|zc (zf 1) zG)) zG) (.nm 5) kQ)<|jO<|jg<|zk 4
section
variable(γ:Ctx)
@[simp] noncomputable def zfU:=@WN.eq_1
@[simp] noncomputable def zgf:=@Po.eq_1
@[simp] theorem zfx(F G a b c):wZ F G a b c γ=(a γ).bind λx=>(b γ).bind λy=>((F x y).bind uu).bind λk=>if k=cm then (c γ).bind λz=>G y z else bB (.bl cT):=rfl
@[simp] noncomputable def zfH:=@Ej.eq_1
end
noncomputable def k6:=jf 5<|zV (jy 2<|di (zk 1)<|sI 0)<|zV (g8 (sB<|zD h8 (di (zk 1)<|sI 1)<|zf 2) (jO<|jn .d9) jU)<|zV (jy 3<|di (zJ<|zA qy<|zc (zf 2) zG)<|sI 2)<|zV (jy 4<|j5<|jo xu<|zc (zf 0)<|zc (zD qw (zf 2)<|zf 2)<|zc (j5<|zM (bH (di (zk 1)<|sI 2)<|zf 3) (.tp [0,1]) 2 [] ja (zD qw (zf 0)<|zf 1)) zG)<|zV (g8 (sB<|zD h8 (j5<|zM (zH<|zk 4) (.nm 0) 1 [2] ja (nT (zf 0) Xa<|h9<|zf 1))<|j5<|nX<|zk 3) (jO<|jn .d9) jU)<|jO<|kH<|zc (zf 2)<|zc (zf 2)<|zc (jg<|je<|zM (zH<|zk 4) (.nm 0) 1 [2] ja (nT (zf 0) (h9<|zf 1) Xa)) zG
section
variable(γ:Ctx)
@[simp] theorem zfJ(i f):uw i f γ=(f γ).bind λe=>if γ.any aG=cT then bB (.next<|γ.set i<|.nest e)else cI:=rfl
@[simp] noncomputable def zfw:=@fH.eq_1
@[simp] noncomputable def zeV:=@cn.eq_1
@[simp] noncomputable def zgh:=@Pp.eq_1
@[simp] noncomputable def zfT:=@Hy.eq_1
end
@[simp] theorem zeC(r):Xo (bB (.nest r))=bB r:=rfl
section
variable(γ:Ctx)
@[simp] noncomputable def Xt:=@xc.eq_1
@[simp] noncomputable def zfR:=@iP.eq_1
@[simp] noncomputable def sY:=@Zn.eq_1
end
noncomputable def ql:=jf 2 (jO (ck (sB (zD fh (zf 1) (jn (.str "r")))) (zf 0) (zD qw (zf 0) (sI 1))))
noncomputable def vi:=jf 2 (jO (ck (sB (zD fh (zf 1) (jn (.str "r")))) (zD qw (zf 0) (sI 1)) (zf 0)))
noncomputable def nY(f:CO D):CO D:=λa=>(f a).map λd=>.bl (AG .list d || AG .tuple d)
noncomputable def qF:=jf 1<|jO<|uz (Dw .int<|zf 0)<|NM<|Dw .bool<|zf 0
noncomputable def JZ:=jf 1<|jO<|uz (zA qF<|zc (zf 0) zG)<|Po (zf 0)<|zJ<|jn<|.tup [.int 2,.int 3,.int 5,.int 7]
noncomputable def wt:=jf 1<|jO<|uz (zA qF<|zc (zf 0) zG)<|wZ qs qs (sI 0) (zf 0)<|sI 30
noncomputable def qT:=jf 2<|jO<|uz (nY<|zf 0)<|zD fh (XN<|zk 0)<|zf 1
noncomputable def wu:=jf 2<|jO<|uz (zA qT<|zc (zf 1)<|zc (zf 0) zG)<|uA<|je<|zM (zH<|zk 1) (.nm 0) 1 [] ja (zA qF<|zc (zf 0) zG)
noncomputable def wN:=jf 4<|zV (g8 (kc<|sB<|zA JZ<|zc (zf 0) zG) xQ jU)<|zV (g8 (tL (kc<|sB<|zA wt<|zc (zf 1) zG)<|kc<|sB<|zA wt<|zc (zf 2) zG) xQ jU)<|zV (g8 (tL (kc<|sB<|zA qT<|zc (zf 3)<|zc (zf 1) zG)<|kc<|sB<|uA<|je<|zM (zH<|zk 3) (.nm 0) 1 [2] ja (zA wu<|zc (zf 1)<|zc (zf 0) zG)) xQ jU)<|jO<|kH<|zc (zf 1)<|zc (zf 2)<|zc (jg<|je<|zM (zH<|zk 3) (.nm 0) 1 [0] ja (zA xJ<|zc (zf 1)<|zc (zf 0) zG)) zG
noncomputable def GD(f:CO (Sk×List D))(l h:CO (Option Int)):CO (List D):=λb=>(f b).bind λa=>(l b).bind λlo=>(h b).bind λd=>match a.1 with
 |.L=>bB (gW a.2 lo d)
 |.T=>cI
noncomputable def xl:=jf 1 (jO (Zn (jn (.str "")) (je (zM (zH (zJ (di (zk 0) (sI 2)))) (.nm 0) 1 [] ja (di (zk 0) (sI 0))))))
noncomputable def kz:=jf 2<|jO<|uz (zD fh (di (zk 0)<|sI 0)<|di (zk 1)<|sI 0)<|zD fh (zA xl<|zc (zf 0) zG)<|zA xl<|zc (zf 1) zG
noncomputable def j7:=jf 2<|g8 (kc<|sB<|zA kz<|zc (zf 0)<|zc (zf 1) zG) xQ jU
noncomputable def Zj:List D->Option Xn:=Pq 2 (H_ (kc (sB (zA kz (zc (zf 0) (zc (zf 1) zG))))) (Pg "Unlike") I')
section
variable{X:Cx}{sc:f6}{N L:List Str}{k:Nat}{a e:dv}{es:List dv}{f:CO D}{pos p p2:eU}
theorem Xc(j:PV X e f)(hs:tG e cI pos.line X.env=pure cT:=by rfl):i6 X (.Expr e pos) (og f):=xS (Vn j hs) λD l H J=>by obtain⟨E0,E,h,k,Q,b,I,O⟩:=J;obtain⟨d,i,I⟩:=zq I;subst I;exact⟨h,k,d,b.rc,i,λv g a x r=>O l g a<|b.step x⟩
structure GL(K:SD)(mg:DZ)(x:Str)(d:D):Prop where
 ex:∃u v,mg x=bB u/\RelV v u/\∀H,Rep K H d v
theorem XY{x:Str}{d:D}(h:SX X sc N L k)(c:k9 sc x=cm)(J:GL X.K X.mg x d):PV X (.Name x pos) (jn d):=by intro b s j H Q I ⟨a,i,g,f,O,q⟩;cases O;obtain⟨u,v,e,U,Y⟩:=J.ex;exact Kr I (h.gl c).1 e ⟨v,H,I,U,q v H a (Ext.refl f.sub)<|Y a⟩ (h.gl c).2.2
theorem oJ{Z p4:eU}{j:Nat}(h:SX X sc N L k)(c:k9 sc "isinstance" = cm)(z:X.mg "isinstance" = cI)(c2:k9 sc "list" = cm)(z2:X.mg "list" = cI)(c3:k9 sc "tuple" = cm)(zew:X.mg "tuple" = cI)(ha:PV X a f)
 (hs:eA [a,.Tuple [.Name "list" p2,.Name "tuple" Z] j p4] X.env=[(cT,dy a X.env),(cT,dy (.Tuple [.Name "list" p2,.Name "tuple" Z] j p4) X.env)]:=by rfl)
 (a9:eA [.Name "list" p2,.Name "tuple" Z] X.env=[(cT,dy (.Name "list" p2) X.env),(cT,dy (.Name "tuple" Z) X.env)]:=by rfl):
 PV X (.Call (.Name "isinstance" p) [a,.Tuple [.Name "list" p2,.Name "tuple" Z] j p4] [] pos) (nY f):=by
 intro g s σ H Q I ⟨H0,γ,d,rc,ef,q⟩;obtain⟨d1,e1,e2⟩:=zq ef;subst e2;refine C6 (xU I (h.gl c).1 z zcA ?_ ⋯ ⋯);refine I_ ?_ (by rw[hs];rfl) rfl;rw[hs];refine UI (ed (ha g s σ H (λv H'=>∃m,_/\_) I ⟨H0,γ,d1,rc,e1,λv H' m x r=>⟨m,x,r⟩⟩) λu B hZ=>?_);obtain⟨x,M,P,O,al,E,U⟩:=hZ;show wpAny _ _ (OU ((cT,dy _ X.env)::[])) _ _ B;refine UI (zek ?_);rw[a9];refine UI (xU P (h.gl c2).1 z2 K' ?_ (h.gl c2).2.1 (h.gl c2).2.2);refine UI (xU P (h.gl c3).1 zew PyProof.Rows.boot_tuple ?_ (h.gl c3).2.1 (h.gl c3).2.2);refine F7 ⟨⋯,?_⟩;refine F7 ?_;have J:L2.Inv X g σ M {B with heap:=B.heap.push {cls:=.type "tuple",data:=.seq #[.type "list",.type "tuple"]},toks:=B.toks}:=P.kept λb u e=>SG _ e;have tp:(B.heap.push {cls:=.type "tuple",data:=.seq #[.type "list",.type "tuple"]}).get? _=_:=SV _ rfl;have Y:∀tk,EP X g σ Q _ _:=λtk=>⟨.bl _,M,J.tok tk,rfl,q _ M al E rfl⟩;have any:∀{t:dn} {F G:Bool},Dd X.K t _=bB F->Dd X.K t _=bB G->PySem.W.kitAny X.K t [.type "list",.type "tuple"]=bB (F || G):=λ{t F G} g1 g2=>by
  unfold PySem.W.kitAny;rw[g1];cases F with
  |true=>rfl
  |false=>
   dsimp only;unfold PySem.W.kitAny;rw[g2];cases G<;>rfl
 cases d1 with
 |d9=>cases U;cases O;exact C8 PySem.W.kitx_none J.i8 tI tp (any (ko .list .d9)<|ko .tuple .d9) (λz=>nomatch z) Y
 |bl y=>cases U;cases O;exact C8 PySem.W.kitx_bool J.i8 tI tp (any (ko .list<|.bl y)<|ko .tuple<|.bl y) (λz=>nomatch z) Y
 |int i=>cases U;obtain⟨t,qq⟩:=(O);cases qq;exact C8 PySem.W.kitx_int J.i8 tI tp (any (ko .list<|.int i)<|ko .tuple<|.int i) (λz=>nomatch z) Y
 |str y=>cases U;obtain⟨t,qq⟩:=(O);cases qq;exact C8 PySem.W.kitx_str J.i8 tI tp (any (ko .list<|.str y)<|ko .tuple<|.str y) (λz=>nomatch z) Y
 |tup n=>
  obtain⟨a,xs,rfl,l,R⟩:=yv U;cases O;obtain⟨T,rv,⟨o,w,S,_⟩,hz⟩:=J.tuple<|md E.sub l;exact C8 PySem.W.kitx_tuple J.i8 ⟨o,w,S⟩ tp (any (ko .list<|.tup n)<|ko .tuple<|.tup n) (λz=>nomatch z) Y
 |lst n=>
  obtain⟨a,xs,rfl,l,R⟩:=df U;cases O;obtain⟨T,rv,p,hz⟩:=J.list<|E.sub.seq l;obtain⟨o,w,S,_⟩:=p.isList;exact C8 PySem.W.kitx_list J.i8 ⟨o,w,S⟩ tp (any (ko .list<|.lst n)<|ko .tuple<|.lst n) (λz=>nomatch z) Y
 |lp A C=>
  obtain⟨a,xs,rfl,⟨kk,_,_,o,l⟩,_⟩:=(U);cases O;obtain⟨_,_,ap,_,dd⟩:=sd J.eI<|.inr ⟨o,E.sub _ _ l⟩;exact C8 Rg J.i8 dd.typeIs tp (any (ko .list<|.lp A C)<|ko .tuple<|.lp A C) (λz=>nomatch z) Y
 |mr A C=>
  obtain⟨a,xs,rfl,⟨_,o,zs,l,R,_⟩,_⟩:=(U);cases O;obtain⟨w,_⟩:=(J.eI a _<|E.sub _ _ l);exact C8 Rg J.i8 ⟨o,w,R.1.1⟩ tp (any (ko .list<|.mr A C)<|ko .tuple<|.mr A C) (λz=>nomatch z) Y
theorem BL{lo z:Option dv}{j:CO (Sk×List D)}{O U:CO (Option Int)}(E:PQ X a j)(Z:L2.PO X lo (tB X.K O))(M:L2.PO X z (tB X.K U)):PO X (.Subscript a (.Slice lo z cI p2) pos) (GD j O U):=
 jK (Vt Eg E Z M) λR H Q t=>by
  refine dt λw=>?_;obtain⟨i,h,N,g,I,q⟩:=t;obtain⟨⟨y,es⟩,n,I⟩:=za I;obtain⟨l,o,I⟩:=za I;obtain⟨u,p,I⟩:=za I;refine w ?_;cases y with
  |T=>cases I
  |L=>
   cases I;refine⟨i,h,.L,es,g,n,λb B C e x s P r=>⟨e,h,l,g.ext x,o,λF k J=>⟨k,h,u,(g.ext x).ext J,p,λG m d=>?_⟩⟩⟩;have Y:=x.trans<|J.trans d;exact⟨b,B,rfl,(J.trans d).s1.seq s,λA f=>q A _ _ m (Y.trans<|Ext.hide d.sub f _) (xj Y.s1 f) (jd d.sub f) zC<|fO (r.mono (J.trans d).s0) _ _⟩
end
section
variable{K:SD}{mg:DZ}{h:eL}
theorem PH{x:Str}{n:Int}{t:qd}(I:K.In h)(G:h.Ns n0 mg)(a:C4 K n0 x=bB (bB (.int n t))):GL K mg x (.int n):=
 ⟨_,.int n,DD I G a,⟨t,rfl⟩,λ_=>(rfl)⟩
noncomputable def dz:List dn->Option (List Int)
 |[]=>bB []
 |.int i _::r=>(dz r).map λl=>i::l
 |_::_=>cI
theorem QG:∀{z:List dn} {j:List Int},dz z=bB j->ez (j.map V.int) z
 |[],j,e=>by cases e;exact .nil
 | u::z,j,e=>by
  cases u with
  |int i t=>
   obtain⟨l,a,I⟩:=zq e;subst I;exact .cons ⟨t,rfl⟩<|QG a
  |_=>cases e
theorem J8{H:Hp}:∀e:List Int,dr K H (e.map D.int) (e.map V.int)
 |[]=>dr.nil
 |n::e=>dr.cons rfl<|J8 e
theorem Oq{x:Str}{ad:dj}{its:Array dn}{m:Nat}{j:Array (Option dn)}(e:List Int)(I:K.In h)(G:h.Ns n0 mg)(a:C4 K n0 x=bB (bB (.ref ad)))
 (l:K.lookup ad=bB ⟨.type "tuple",cI,.seq its m,j⟩) (v:dz its.toList=bB e) (z:its.size<=eK):GL K mg x (.tup (e.map D.int)):=
 ⟨_,.ref ad,DD I G a,rfl,λH=>(⟨ad,_,rfl,.inr ⟨_,its,m,l,rfl,rfl,z,QG v⟩,J8 e⟩)⟩
end
theorem ki(h:tQ X es n g):uU X es g:=h.1
section
variable{X:Cx}{L:List Str}{a:dv}{pos p:eU}
theorem iX{c:dv}{e:CO D}(E:PV X a e){O:CO (Sk×List D)}(U:PQ X c O)(Y:pk .NotIn c=cT:=by with_unfolding_all rfl):k4 X (.Compare a [.NotIn] [c] pos) (sB<|cg e O):=
 X6 (Zq QD E U Y) λR H Q Z=>by
  refine dt λC=>?_;obtain⟨k,j,d,g,I,q⟩:=Z;obtain⟨K,t,A⟩:=za I;obtain⟨x,u,I⟩:=za t;obtain⟨⟨f,s⟩,w,I⟩:=za I;obtain⟨i,y,I⟩:=za I;obtain⟨l,z,rfl⟩:=zq I;refine C ?_;cases A;refine⟨k,j,x,g,u,λN G n h J=>⟨n,j,f,s,g.ext h,w,λp P m o F b M r=>?_⟩⟩;rw[jD y]at J;have B:=Kt r z;subst B;refine⟨p,_,rfl,by
   cases f with
   |L=>exact .inl b
   |T=>exact .inr b,by rw[J];rfl,KD l,?_⟩
  rw[J,dB];exact⟨_,rfl,q m o<|h.trans F⟩
end
end DL
namespace L2
open PySem PySem.Spec PyProof.Rows
noncomputable def I8(z:Str):It:=⟨λi _=>i<z.cps.size,λi H x a=>a=H/\∃c,z.cps[i]? = bB c/\x=.str ⟨#[c]⟩,λi _=>z.cps.size<=i⟩
theorem rC(z:Str):B9 z = "str_ascii_iterator"\/B9 z = "str_iterator":=by unfold B9;split<;>simp
theorem zd4{P:gg}{w:fA}{K:SD}{tg:dv}(z:Str)(t:qd)(it:dj):Turn P w K tg (I8 z) [it] it (λi h=>h.IsStrIter it (B9 z) z t i) where
 mem:=by simp
 obj:=λi h st b J=>by
  have e:b=it:=by simpa using J
  subst e;obtain⟨o,e,c,d⟩:=st;exact⟨o,e,λv q=>by rw[d]at q;cases q⟩
 keep:=λi h h' st k=>by obtain⟨o,e,r⟩:=st;exact⟨o,k it ⋯ o e,r⟩
 item:=by
  rintro X rfl rfl rfl hc i pins s σ H E I Z st hg;obtain⟨f0,f1,f2,f3,f4,f5⟩:=Z it ⋯;have hi:i<z.cps.size:=hg;have O:z.cps[i]? = bB z.cps[i]:=by simp[hi]
  have a7:∀h',h'.IsStrIter it (B9 z) z t (i+1)->wV it s.heap h'->wpAny (d8 X.prog X.w) X.A (E3 tg (.ref it)<|.str ⟨#[z.cps[i]]⟩ s.toks)
   (λ_ s2=>∃x H',Inv X pins σ H' s2/\RelV x (.str ⟨#[z.cps[i]]⟩ s.toks)/\(I8 z).uo i H x H'/\s2.heap.IsStrIter it (B9 z) z t (i+1)/\∀b ∈ [it],H' b=cI) E {s with heap:=h',toks:=s.toks+1}:=λh' U Y=>by
   have I1:Inv X pins σ H {s with heap:=h',toks:=s.toks+1}:=I.turned (λb o J e=>(Y.2 b J).trans e) f0 f1 f3 f4 f5;obtain⟨o,e,c,d⟩:=id U;refine AM (s:={s with heap:=h',toks:=s.toks+1}) e c d ?_ ⟨.str ⟨#[z.cps[i]]⟩,H,I1,⟨_,rfl⟩,⟨rfl,_,O,rfl⟩,U,λb J=>(Z b J).1⟩;rcases rC z with q|q<;>rw[q]<;>decide
  rcases rC z with q|q
  ·rw[q]at st
   exact wpAny_pyNext_ascii_item st O λh' U Y=>⟨_,rfl,a7 h' (by rw[q];exact U) Y⟩
  ·rw[q]at st
   exact wpAny_pyNext_wide_item st O λh' U Y=>⟨_,rfl,a7 h' (by rw[q];exact U) Y⟩
 done:=by
  rintro X rfl rfl rfl hc i pins s σ H E I Z st hg;obtain⟨f0,f1,f2,f3,f4,f5⟩:=Z it ⋯;have hi:z.cps.size<=i:=hg;have O:z.cps[i]? = cI:=by simp[hi]
  have hh:=I.ok.hd hc;rcases rC z with q|q
  ·rw[q]at st
   exact wpAny_pyNext_ascii_end hh st O λh' eb=>⟨rfl,I.turned (t':=s.toks) (λb o J e=>eb b o J e) f0 f1 f3 f4 f5⟩
  ·rw[q]at st
   exact wpAny_pyNext_wide_end hh st O λh' eb=>⟨rfl,I.turned (t':=s.toks) (λb o J e=>eb b o J e) f0 f1 f3 f4 f5⟩
 self:=λA i s Q E st h=>by
  rcases rC z with q|q
  ·rw[q]at st;exact wpAny_pyIter_striter_ascii st h
  ·rw[q]at st;exact wpAny_pyIter_striter_wide st h
noncomputable def Sb(e:TE):TI:=λb H R=>e b H λx a=>∃z,x=.str z/\R (I8 z) a
theorem Ik{X:Cx}{E l:dv}{j:TE}(O:PE X l j):PI X E l (Sb j):=by
 intro a s f H R I h;refine ed (O a s f H _ I h) λv g Q=>?_;obtain⟨x,d,J,U,Y⟩:=Q;obtain⟨z,rfl,q⟩:=Y;obtain⟨t,rfl⟩:=U;refine wpAny_pyIter_strU ?_;refine⟨_,_,_,_,d,rfl,J.kept λb o e=>SG _ e,zd4 z t _,⟨_,SV _ rfl,rfl,rfl⟩,λb Z=>?_,q⟩;have e:=by simpa using Z
 subst e;exact J.ug (SN _)<|J.eI.fresh<|SN _
theorem gQ{X:Cx}{j:TW}{σ:St}{H:Hp}{s:ea}{E:EQ}{z L:dj}{i O:Nat}{x:dn}{v:V}{g:eL}{M:List dv}{x1:Nat}{S:eU}{Q:Unit->ea->Prop}
 (I:Inv X j σ H s) (Z:∀b ∈ [z,L],Jt X j H b) (hz:z<s.heap.objs.size) (hi:L<s.heap.objs.size) (a1:IsEnumOut g z L (i+1) x s.heap.objs.size)
 (a3:ni g s.heap.objs.size (.int i O) x) (a5:∀b o,b≠z->b≠L->s.heap.get? b=bB o->g.get? b=bB o) (rx:RelV v x)
 (a7:∀g2,A2 g2 z L ((i+1:Nat)) x->wV z g g2->Inv X j σ (upd H s.heap.objs.size<|.tup [.int i,v]) {s with heap:=g2,toks:=O+1}->H s.heap.objs.size=cI->
   (∀b ∈ [z,L],upd H s.heap.objs.size (.tup [.int i,v]) b=cI)->Q () {s with heap:=g2,toks:=O+1}):
 wpAny (d8 X.prog X.w) X.A (E3 (.Tuple M x1 S) (.ref z)<|.ref s.heap.objs.size) Q E {s with heap:=g,toks:=O+1}:=by
 refine zep a1 λg2 a U=>?_;refine a7 g2 (by rwa [show(i+1)=((i+1):Int)by lia]at a) U (I.O3 (λY u J e=>by simp only[SS,Th,or_false,not_or]at J;exact U.extBut _ _ J.1<|a5 Y u J.1 J.2 e) Z (SN _) ⟨by show 2<=eK;decide,_,.cons ⟨_,rfl⟩<|.cons rx .nil,⟨_,U.extBut _ _ (uq hz) a3,rfl,_,rfl⟩⟩) I.fresh λY J=>?_
 rw[zE (by
  grind)];exact(Z Y J).1
noncomputable def Pe(K:SD)(a:dj):It:=
 ⟨λi H=>∃b,fy K H a b/\i<b.length,
  λi H x d=>∃p u,x=.ref p/\H p=cI/\d=upd H p (.tup [.int i,u])/\(∀b,fy K H a b->b[i]? = bB u),
  λi H=>∃b,fy K H a b/\b.length=i⟩
theorem iD{P:gg}{w:fA}{K:SD}{elts:List dv}{x1:Nat}{tH:eU}{z it a:dj}(a6:z≠it):
 Turn P w K (.Tuple elts x1 tH) (Pe K a) [z,it] z (λi h=>(∃J,A2 h z it i J)/\h.IsListIter it a i) where
 mem:=by simp
 obj:=λi h ⟨⟨J,hz⟩,h1⟩ y hy=>by
  simp only[SS,Th,or_false]at hy;rcases hy with rfl|rfl
  ·exact⟨_,hz,λv q=>by cases q⟩
  ·obtain⟨o,e,c,d⟩:=h1
   exact⟨o,e,λv q=>by rw[d]at q;cases q⟩
 keep:=λi h h' ⟨⟨J,hz⟩,h1⟩ k=>⟨⟨J,k z ⋯ _ hz⟩,h1.at λo e=>k it ⋯ o e⟩
 item:=by
  rintro X rfl rfl rfl hc i pins s σ H E I hf ⟨⟨J,hz⟩,h1⟩ ⟨xs,U,ao⟩;obtain⟨Y,Z,p1,z1⟩:=I.list U;have O:=p1.isList;have hx:xs[i]? = bB xs[i]:=SH ao;have l1:=Z.length;have ac:a≠it:=λe=>by obtain⟨o,e1,c1,_⟩:=O;obtain⟨o2,Q,c2,_⟩:=h1;rw[e,Q]at e1;cases e1;rw[c2]at c1;exact absurd c1 ⋯
  have as:z≠a:=λe=>by obtain⟨o,e1,c1,_⟩:=O;have am:s.heap.get? z=bB _:=hz;rw[e,e1]at am;cases am;exact absurd c1 ⋯
  have aw:it<s.heap.objs.size:=by obtain⟨o2,Q,_⟩:=h1;exact SY Q
  have Dr:=Draws.list (prog:=X.prog) (w:=X.w) (A:=X.A.in1) (show X.A.in1.handled=cI from I.ok.hd hc) it a ac Y.toArray;refine zer Dr hz ⟨h1,O⟩ (by simp;lia) a6 (by simp;exact⟨a6,as⟩) λx g tk hP a1 a2 a3 a4 a5=>⟨_,rfl,?_⟩;obtain⟨u1,b6,b7⟩:=Z.get hx;obtain rfl:u1=x:=by have:=hP;simp[b6]at this;exact this
  refine gQ I hf (SY hz) aw a1 a3 a5 b7 λg2 b1 b2 I1 b9 hn=>⟨.ref s.heap.objs.size,_,I1,rfl,⟨_,_,rfl,b9,rfl,λbm bd=>by rw[I.OL bd U];exact hx⟩,⟨⟨_,b1⟩,a2.1.at λo e=>b2.extBut _ _ a6.symm e⟩,hn⟩
 done:=by
  rintro X rfl rfl rfl hc i pins s σ H E I hf ⟨⟨J,hz⟩,h1⟩ ⟨xs,U,hi⟩;obtain⟨Y,Z,p1,z1⟩:=I.list U;have O:=p1.isList;have l1:=Z.length;have ac:a≠it:=λe=>by obtain⟨o,e1,c1,_⟩:=O;obtain⟨o2,Q,c2,_⟩:=h1;rw[e,Q]at e1;cases e1;rw[c2]at c1;exact absurd c1 ⋯
  have Dr:=Draws.list (prog:=X.prog) (w:=X.w) (A:=X.A.in1) (show X.A.in1.handled=cI from I.ok.hd hc) it a ac Y.toArray;have en:Y.toArray.size=i:=by simp;lia
  rw[en]at Dr;refine zeq Dr hz ⟨h1,O⟩ λg hk=>⟨rfl,?_⟩;refine I.um (t':=s.toks) (fp:=[z,it]) (λb' u hb e=>?_) hf;simp only[SS,Th,or_false,not_or]at hb;exact hk b' u hb.2 e
 self:=λ_ _ _ _ _ st h=>yJ st.1.choose_spec h
noncomputable def Pd(z:Str):It:=
 ⟨λi _=>i<z.cps.size,λi H x a=>∃p c,x=.ref p/\H p=cI/\a=upd H p (.tup [.int i,.str ⟨#[c]⟩])/\z.cps[i]? = bB c,λi _=>i=z.cps.size⟩
theorem aV{prog:gg}{w:fA}{A:kb}(I:A.handled=cI)(e:dj)(x:Str)(t:qd):
 Draws prog w A e [e] x.cps.size (λi v=>∃c u,x.cps[i]? = bB c/\v=.str ⟨#[c]⟩ u) (λi h=>h.IsStrIter e (B9 x) x t i):=by
 rcases rC x with q|q
 ·rw[q];exact Draws.strAscii I e x t
 ·rw[q];exact Draws.strWide I e x t
theorem iB{P:gg}{w:fA}{K:SD}{elts:List dv}{x1:Nat}{tH:eU}{z it:dj}(x:Str)(t:qd)(O:z≠it):
 Turn P w K (.Tuple elts x1 tH) (Pd x) [z,it] z (λi h=>(∃J,A2 h z it i J)/\h.IsStrIter it (B9 x) x t i) where
 mem:=by simp
 obj:=λi h ⟨⟨J,hz⟩,h1⟩ y Z=>by
  simp only[SS,Th,or_false]at Z;rcases Z with rfl|rfl
  ·exact⟨_,hz,λv q=>by cases q⟩
  ·obtain⟨o,e,c,d⟩:=h1
   exact⟨o,e,λv q=>by rw[d]at q;cases q⟩
 keep:=λi h h' ⟨⟨J,hz⟩,h1⟩ k=>⟨⟨J,k z ⋯ _ hz⟩,by obtain⟨o,e,r⟩:=h1;exact⟨o,k it ⋯ o e,r⟩⟩
 item:=by
  rintro X rfl rfl rfl Q i pins s σ H E I U ⟨⟨J,hz⟩,h1⟩ a6;have a7:it<s.heap.objs.size:=by obtain⟨o2,e2,_⟩:=h1;exact SY e2
  have Y:=aV (prog:=X.prog) (w:=X.w) (A:=X.A.in1) (show X.A.in1.handled=cI from I.ok.hd Q) it x t;refine zer Y hz h1 a6 O (by simp;exact O) λu g tk hP a1 a2 a3 a4 a5=>⟨_,rfl,?_⟩;obtain⟨c,tu,am,rfl⟩:=hP;refine gQ (v:=.str ⟨#[c]⟩) I U (SY hz) a7 a1 a3 a5 ⟨_,rfl⟩ λg2 b1 b2 I1 ao hn=>⟨.ref s.heap.objs.size,_,I1,rfl,⟨_,_,rfl,ao,rfl,am⟩,⟨⟨_,b1⟩,?_⟩,hn⟩;obtain⟨o,e,r⟩:=a2;exact⟨o,b2.extBut _ _ O.symm e,r⟩
 done:=by rintro X rfl rfl rfl Q i pins s σ H E I U ⟨⟨J,hz⟩,h1⟩ hi;have hi:i=x.cps.size:=hi;subst hi;have Y:=aV (prog:=X.prog) (w:=X.w) (A:=X.A.in1) (show X.A.in1.handled=cI from I.ok.hd Q) it x t;refine zeq Y hz h1 λg hk=>⟨rfl,?_⟩;refine I.um (t':=s.toks) (fp:=[z,it]) (λb' u hb e=>?_) U;simp only[SS,Th,or_false,not_or]at hb;exact hk b' u hb.2 e
 self:=λ_ _ _ _ _ st h=>yJ st.1.choose_spec h
noncomputable def Li(K:SD)(e:TA):TI:=λg H R=>e g H λd b=>∃a,d=[.ref a]/\(∃f,fy K b a f)/\R (Pe K a) b
noncomputable def Lh(e:TA):TI:=λd H R=>e d H λb a=>∃z,b=[.str z]/\R (Pd z) a
section
variable{X:Cx}{e1:dv}{ta:TA}{p pos:eU}{elts:List dv}{x1:Nat}{tH:eU}
theorem zdW(U:Gl X "enumerate")(Y:X.mg "enumerate" = cI)(z:PA X [e1] ta)
 (Z:u0 "enumerate" = bB (.type "enumerate")) (hs:eA [e1] X.env=[(cT,dy e1 X.env)]:=by rfl):
 PI X (.Tuple elts x1 tH) (.Call (.Name "enumerate" p) [e1] [] pos) (Li X.K ta):=by
 intro b s u H R I h;refine A1<|xU I U Y Z<|TM (ed (z pos b s u H _ I h) λA t l=>?_) (by rw[hs];rfl) rfl;refine dt λm=>?_;obtain⟨B,e,J,r,o⟩:=l;obtain⟨a,rfl,⟨E,f⟩,q⟩:=o;obtain⟨C,rfl,i⟩:=kF r;refine m ?_;cases i;obtain⟨w,x,n,F⟩:=J.list f;refine call_enumerate_list n.isList λg d j y k=>yJ d ?_;refine⟨_,_,_,_,e,rfl,J.kept k,iD<|uq<|Ur _,⟨⟨_,d⟩,j⟩,λc O=>?_,q⟩;have Q:t.heap.objs.size<=c:=by
  simp only[SS,Th,or_false]at O;rcases O with rfl|rfl
  ·exact Tv _ _
  ·exact SN _
 exact J.ug Q<|J.eI.fresh Q
theorem zdV(U:Gl X "enumerate")(Y:X.mg "enumerate" = cI)(E:PA X [e1] ta)
 (Z:u0 "enumerate" = bB (.type "enumerate")) (hs:eA [e1] X.env=[(cT,dy e1 X.env)]:=by rfl):
 PI X (.Tuple elts x1 tH) (.Call (.Name "enumerate" p) [e1] [] pos) (Lh ta):=by
 intro a s o H R I h;refine A1<|xU I U Y Z<|TM (ed (E pos a s o H _ I h) λu n j=>?_) (by rw[hs];rfl) rfl;refine dt λk=>?_;obtain⟨w,d,J,m,l⟩:=j;obtain⟨z,rfl,q⟩:=l;obtain⟨x,rfl,e⟩:=kF m;obtain⟨t,rfl⟩:=e;refine k ?_;refine call_enumerate_str λg b f r i=>yJ b ?_;refine⟨_,_,_,_,d,rfl,J.kept i,iB z t<|uq<|Ur _,⟨⟨_,b⟩,f⟩,λc O=>?_,q⟩;have Q:n.heap.objs.size<=c:=by
  simp only[SS,Th,or_false]at O;rcases O with rfl|rfl
  ·exact Tv _ _
  ·exact SN _
 exact J.ug Q<|J.eI.fresh Q
end
theorem Hu{X:Cx}:D3 X (λx lo e H Q=>∃z,x=.str z/\z.length<=eK/\Q (.str<|xb z lo e) H):=by
 rintro a s h H x v j m lo e i Q I Y ⟨o,J,O,b⟩ g Z ⟨z,rfl,d,q⟩;obtain⟨t,rfl⟩:=Y;have U:∀f k,EP X a h Q (.str _ f) _:=λf k=>⟨.str _,H,I.tok k,⟨_,rfl⟩,q⟩;refine⟨"str",_,F.slot_str_getitem.lookup,DN _ _ _,?_⟩;cases g<;>cases Z
 ·exact Rn (l:=cI) (u:=cI) (st:=cI) ⟨o,J,O,b⟩ rfl<|S0 ⟨Tf (R7 z _ _) d,U⟩
 ·exact Rn (l:=cI) (u:=bB (_,_)) (st:=cI) ⟨o,J,O,b⟩ rfl<|S0 ⟨Tf (R7 z _ _) d,U⟩
 ·exact Rn (l:=bB (_,_)) (u:=cI) (st:=cI) ⟨o,J,O,b⟩ rfl<|S0 ⟨Tf (R7 z _ _) d,U⟩
 ·exact Rn (l:=bB (_,_)) (u:=bB (_,_)) (st:=cI) ⟨o,J,O,b⟩ rfl<|S0 ⟨Tf (R7 z _ _) d,U⟩
end L2
namespace DL
open PySem PySem.Spec PyProof.Rows L2
theorem ZL(z:Str):(qZ z).length=z.cps.size:=by simp[qZ]
theorem fB(z:Str){i c:Nat}(h:z.cps[i]? = bB c):(qZ z)[i]? = bB (.str ⟨#[c]⟩):=by simp[qZ,h]
theorem zd1{K:SD}{e j:Hp}(z:Str):Walk K e j (I8 z) (qZ z):=by
 refine⟨λi b s a=>?_,λb s=>?_,λi b x f s a y=>?_⟩
 ·rw[ZL]at a;exact a
 ·rw[ZL];exact SN _
 ·obtain⟨rfl,c,I,rfl⟩:=y
  exact⟨_,fB z I,λd h g=>⟨d,Ext.refl g,rfl⟩⟩
theorem iu{K:SD}{e j:Hp}(z:Str):Walk K e j (Pd z) (qB<|qZ z):=by
 have d:(qB<|qZ z).length=z.cps.size:=by simp[qB,ZL]
 refine⟨λi b s a=>?_,λb s=>?_,λi b x f s a y=>?_⟩
 ·rw[d]at a;exact a
 ·assumption
 ·obtain⟨p,c,rfl,g,rfl,I⟩:=y
  refine⟨.tup [.int i,.str ⟨#[c]⟩],?_,λk l h=>⟨_,Ext.alloc h g _,kK (hH.of zC)<|dr.cons rfl<|dr.cons rfl dr.nil⟩⟩
  ·rw[d]at a
   unfold qB;rw[TV,U' (by rw[ZL];exact a),zr,fB z I];rfl
theorem iw{K:SD}{e j:Hp}{a:dj}{xs:List V}{ds:List D}(h:fy K j a xs)(r:dr K e ds xs):Walk K e j (Pe K a) (qB ds):=by
 have O:=r.length;have t:(qB ds).length=ds.length:=by simp[qB]
 refine⟨λi b s m=>⟨xs,s.seq h,⋯⟩,λb s=>⟨xs,s.seq h,⋯⟩,λi b x k s m y=>?_⟩
 ·obtain⟨p,u,rfl,f,rfl,I⟩:=y
  obtain⟨d,l,J⟩:=r.Bi<|I xs<|s.seq h;refine⟨.tup [.int i,d],?_,λo n g=>⟨_,Ext.alloc g f _,kK (hH.of zC)<|dr.cons rfl<|dr.cons ((J.mono n).mono (jj (jd g f) _)) dr.nil⟩⟩
  ·unfold qB
   rw[TV,U' ⋯,zr,l];rfl
theorem ZJ:∀l:List Str,(l.map V.str).all Yl=cm
 |[]=>rfl
 |i::l=>by simp only[Tw,S4,ZJ l,Bool.and_true];rfl
section
variable{X:Cx}{sc:f6}{N L:List Str}{k:Nat}{a b:dv}{pos p p2:eU}{f fa fb:CO D}
theorem oV{E:dv}(j:PV X a f):g9 X E a (Yy f):=
 Yc (Ik j) λl H R J=>by
  obtain⟨g,k,h,i,I,q⟩:=J;obtain⟨d,O,I⟩:=za I;cases d with
  | str z=>
   by_cases Q:zU z=cm
   ·have I:(if zU z=cm then bB (qZ z)else cI)=bB h:=I
    rw[DJ Q]at I;cases I;exact⟨g,k,_,i,O,λv e b x r=>⟨z,r,q _ e b x<|zd1 z⟩⟩
   lia
  |_=>cases I
theorem cJ{e:List dv}{M:Nat}{j:eU}(h:SX X sc N L k)(c:k9 sc "enumerate" = cm)(z:X.mg "enumerate" = cI)(E:PV X a f)(hs:eA [a] X.env=[(cT,dy a X.env)]:=by rfl):
 g9 X (.Tuple e M j) (.Call (.Name "enumerate" p) [a] [] pos) (Yz f):=
 Yc (zdV (h.gl c).1 z (z9 E jM hs) c_ hs) λo H R J=>by
  obtain⟨i,n,l,m,I,q⟩:=J;obtain⟨d,O,I⟩:=za I;cases d with
  | str z=>
   by_cases Q:zU z=cm
   ·have I:(if zU z=cm then bB _ else cI)=bB l:=I
    rw[DJ Q]at I;cases I;exact⟨i,n,_,m,O,λv g b x r=>⟨z,by rw[r],q _ g b x<|iu z⟩⟩
   lia
  |_=>cases I
theorem Vs(h:SX X sc N L k)(c:k9 sc "enumerate" = cm)(z:X.mg "enumerate" = cI)(j:PV X a f)(hs:eA [a] X.env=[(cT,dy a X.env)]:=by rfl):
 g9 X (.Tuple elts x1 tH) (.Call (.Name "enumerate" p) [a] [] pos) (J6 f):=
 Yc (zdW (h.gl c).1 z (z9 j jM hs) c_ hs) λs H R O=>by
  obtain⟨g,m,n,i,I,q⟩:=O;obtain⟨d,Q,I⟩:=za I;cases d with
  |lst o=>
   cases I;refine⟨g,m,_,i,Q,λv e b x r=>?_⟩;obtain⟨U,l,rfl,J,g2⟩:=df r;exact⟨U,rfl,⟨l,x.sub.seq J⟩,q _ e b x<|iw J g2⟩
  |_=>cases I
theorem oK(E:PV X a fa){g:CO (Sk×List D)}(J:PQ X b g)(O:pk .In b=cT:=by with_unfolding_all rfl):PV X (.Compare a [.In] [b] pos) (uy fa g):=
 jK (Vu Kb E J O) λM H Q U=>by
  refine dt λY=>?_;obtain⟨k,j,d,h,I,q⟩:=U;obtain⟨x,t,I⟩:=za I;obtain⟨⟨f,s⟩,Z,I⟩:=za I;refine Y ?_;cases x with
  | str w=>
   obtain⟨l,u,rfl⟩:=zq I;refine⟨k,j,_,h,t,λG C n i A=>⟨n,j,f,s,h.ext i,Z,λp K m o B e F r=>?_⟩⟩;have z:=vD r u;subst z;subst A;refine⟨p,_,rfl,by
    cases f with
    |L=>exact .inl e
    |T=>exact .inr e,rfl,ZJ l,?_⟩
   have:uC (.str w) (l.map V.str)=l.any λy=>y==w:=by unfold uC;rw[Nc];rfl
   rw[DY TL,this];exact q _ m o (i.trans B) rfl
  |_=>cases I
theorem xh(z:PV X a fa)(O:PV X b fb):PV X (.BinOp a .Add b pos) (xR fa fb):=
 jK (uW ly z O) λA H Q U=>by
  obtain⟨h,g,d,e,I,q⟩:=U;obtain⟨x,k,I⟩:=za I;obtain⟨y,Y,I⟩:=za I;cases x with
  | str u=>
   cases y with
   | str w=>
    by_cases J:zU u=cm/\zU w=cm
    ·have I:(if zU u=cm/\zU w=cm then bB _ else cI)=bB d:=I
     rw[DJ J]at I;cases I;refine⟨h,g,_,e,k,λs o Z f l=>⟨Z,g,_,e.ext f,Y,λt i j n m=>⟨u,w,l,m,?_,q _ i j (f.trans n) rfl⟩⟩⟩;have p:=wC J.1;have r:=wC J.2;have:2000<=eK:=by decide
     lia
    lia
   |_=>cases I
  |_=>cases I
theorem WX{lo j:Option dv}{J O:CO (Option Int)}(E:PV X a f)(S:L2.PO X lo (tB X.K J))(M:L2.PO X j (tB X.K O)):PV X (.Subscript a (.Slice lo j cI p2) pos) (mL f J O):=
 jK (Vt Hu E S M) λB H Q s=>by
  refine dt λt=>?_;obtain⟨h,g,d,e,I,q⟩:=s;obtain⟨U,n,I⟩:=za I;obtain⟨l,o,I⟩:=za I;obtain⟨u,p,I⟩:=za I;refine t ?_;refine⟨h,g,U,e,n,λv y b x r=>⟨b,g,l,e.ext x,o,λA k Y=>⟨k,g,u,(e.ext x).ext Y,p,λi m w=>?_⟩⟩⟩;cases U with
  | str z=>
   by_cases Z:zU z=cm
   ·have I:(if zU z=cm then bB _ else cI)=bB d:=I
    rw[DJ Z]at I;cases I;exact⟨z,r,wB Z,q _ i m (x.trans<|Y.trans w) rfl⟩
   lia
  |_=>cases I
end
section
variable{K:SD}{mg:DZ}{h:eL}
noncomputable def bU:List dn->Option (List Str)
 |[]=>bB []
 |.str i _::r=>(bU r).map λl=>i::l
 |_::_=>cI
theorem J2:∀{z:List dn} {j:List Str},bU z=bB j->ez (j.map V.str) z
 |[],j,e=>by cases e;exact .nil
 | u::z,j,e=>by
  cases u with
  |str i t=>
   obtain⟨l,a,I⟩:=zq e;subst I;exact .cons ⟨t,rfl⟩<|J2 a
  |_=>cases e
theorem vJ{H:Hp}:∀e:List Str,dr K H (e.map D.str) (e.map V.str)
 |[]=>dr.nil
 |n::e=>dr.cons rfl<|vJ e
theorem Oo{x:Str}{ad:dj}{its:Array dn}{m:Nat}{j:Array (Option dn)}(e:List Str)(I:K.In h)(G:h.Ns n0 mg)(a:C4 K n0 x=bB (bB (.ref ad)))
 (l:K.lookup ad=bB ⟨.type "tuple",cI,.seq its m,j⟩) (v:bU its.toList=bB e) (z:its.size<=eK):GL K mg x (.tup (e.map D.str)):=
 ⟨_,.ref ad,DD I G a,rfl,λH=>(⟨ad,_,rfl,.inr ⟨_,its,m,l,rfl,rfl,z,J2 v⟩,vJ e⟩)⟩
end
end DL
namespace DL
open PySem L2 PyProof.Rows
open PySem.W (KasT kas_sort kas_asc kas_desc kas_tail3 kas_descPart kas_count kas_place kas_bin kas_rev)
noncomputable def Good{e:Type}(n:Nat)(P:e->Prop):KasT e->Prop
 |.ret a=>P a
 |.ask i j k=>i<n/\j<n/\∀b,Good n P<|k b
theorem Good.mono{e:Type}{n:Nat}{P I:e->Prop}(h:∀a,P a->I a):∀{t:KasT e},Good n P t->Good n I t
 |.ret a,g=>h a g
 |.ask i j k,g=>⟨g.1,g.2.1,λb=>(g.2.2 b).mono h⟩
theorem Good.bind{e β:Type}{n:Nat}{P:e->Prop}{I:β->Prop}{f:e->KasT β}(J:∀a,P a->Good n I (f a)):∀{t:KasT e},Good n P t->Good n I (t.bind f)
 |.ret a,g=>J a g
 |.ask i j k,g=>⟨g.1,g.2.1,λb=>(g.2.2 b).bind J⟩
theorem Good.run:∀{t:KasT α},Good n P t->P (yw lt t)
 |.ret a,g=>g
 |.ask i j k,g=>(g.2.2 _).run
noncomputable def Pm(n:Nat)(p:Array Nat):Prop:=p.toList.Perm<|SF n
theorem Pm.lt(h:Pm n p)(I:0<n)(i:Nat):p.getD i 0<n:=by
 by_cases a:i<p.size
 ·have e:p.getD i 0=p[i]:=by simp[Array.getD,a]
  rw[e];exact SJ.mp<|h.mem_iff.mp ⋯
 ·have e:p.getD i 0=0:=by simp[Array.getD,a]
  rw[e];exact I
theorem Pm.rev(h:Pm n p)(i j:Nat):Pm n (kas_rev p i j):=(Array.perm_iff_toList_perm.mp<|mirror_perm p i j _).trans h
theorem Pm.x?(h:Pm n p)(i j:Nat):Pm n (bubble p i j):=(Array.perm_iff_toList_perm.mp<|bubble_perm p i j).trans h
theorem VS(h:Pm n p)(I:0<n):∀f m,Good n (λ_=>True) (kas_asc p f m)
 |0,m=>trivial
 |f+1,m=>⟨h.lt I _,h.lt I _,λb=>by
  cases b with
  |true=>exact trivial
  |false=>exact VS h I f<|m+1⟩
theorem Jj(I:0<n):∀f p m q,Pm n p->Good n (λr=>Pm n r.1) (kas_desc f p m q)
 |0,p,m,q,h=>h
 | f+1,p,m,q,h=>⟨h.lt I _,h.lt I _,λb=>by
  cases b with
  |true=>
   split
   ·exact Jj I f _ _ _<|h.rev _ _
   ·exact Jj I f _ _ _ h
  |false=>exact⟨h.lt I _,h.lt I _,λd=>by
   cases d with
   |true=>exact h
   |false=>exact Jj I f _ _ _ h⟩⟩
theorem aL{n:Nat}(I:0<n)(m r:Nat){p:Array Nat}(h:Pm n p):Good n (λr=>Pm n r.2) (kas_tail3 m r p):=by unfold kas_tail3;refine Good.bind (λa _=>?_)<|VS (h.rev _ _) I _ _;exact(h.rev _ _)
theorem aM{n:Nat}(I:0<n)(m r:Nat){p:Array Nat}(h:Pm n p):Good n (λr=>Pm n r.2) (kas_descPart m r p):=
 (Jj I _ _ _ _ h).bind λa b=>by
   split
   ·exact aL I _ _<|Pm.rev b _ _
   ·exact aL I _ _ b
theorem lZ{n:Nat}(I:0<n)(r:Nat){p:Array Nat}(h:Pm n p):Good n (λr=>Pm n r.2) (kas_count r p):=
 (VS h I _ _).bind λm _=>by
   split
   ·exact h
   ·split
    ·exact⟨h.lt I _,h.lt I _,λc=>by
      cases c with
      |true=>exact h
      |false=>exact aM I _ _<|h.rev _ _⟩
    ·exact aM I _ _ h
theorem JS(I:0<n)(h:Pm n p)(k:Nat):∀f l r,Good n (λ_=>True) (kas_place p k f l r)
 |0,l,r=>trivial
 |f+1,l,r=>by
  show Good n _ (if l>=r then _ else _);split
  ·exact trivial
  ·exact⟨h.lt I _,h.lt I _,λc=>by
    cases c with
    |true=>exact JS I h k f _ _
    |false=>exact JS I h k f _ _⟩
theorem gK{n:Nat}(I:0<n):∀f p k,Pm n p->Good n (Pm n) (kas_bin f p k)
 |0,p,k,h=>h
 |f+1,p,k,h=>(JS I h k k 0 k).bind λl _=>gK I f _ _<|h.x? _ _
theorem Kx{n:Nat}(I:0<n):Good n (Pm n) (kas_sort n):=
 (lZ I n<|List.Perm.refl _).bind λr J=>by
   split
   ·exact gK I _ _ _ J
   ·exact J
theorem jN(ps:List (Int×Int)):(qS ps).Perm (SF ps.length):=by
 unfold qS;split
 ·rfl
 ·exact(Kx ⋯).run
theorem W5:∀{ds:List D} {ps:List (Int×Int)},QC ds=bB ps->ps.length=ds.length
 |[],ps,h=>by cases h;rfl
 | d::ds,ps,h=>by
  unfold QC at h;cases e1:Ab d with
  |none=>grind
  |some x=>
   cases e2:QC ds with
   |none=>grind
   |some l=>rw[e1,e2]at h;cases h;simp[W5 e2]
theorem ju(d:α):∀ds,(SF ds.length).map (λi=>ds.getD i d)=ds:=λds=>by
 apply F8;intro i;by_cases a:i<ds.length
 ·simp[a]
 ·simp[a,Nat.not_lt.mp a]
end DL
namespace DL
open PySem PySem.Spec PyProof.Rows L2
open PySem.W (KasT kas_sort kas_ask kat_run kat_snds kat_lt kat_cons kat_no kat_yes kat_nil kat_go kat_one kat_kind KatTups KatGo)
theorem dE(I:∀i j C,i<n->j<n->C (lt i j) s->cmp i j C s):
 ∀{t:KasT α},Good n P t->Q (yw lt t) s->t.kasWp cmp Q s
 |.ret _,_,q=>q
 |.ask i j k,g,q=>I i j _ g.1 g.2.1<|dE I (g.2.2 _) q
noncomputable def uV(h:eL)(v:dn)(k l:Int):Prop:=∃x o a m t u,v=.ref x/\h.get? x=bB o/\o.cls=.type "tuple"/\o.data=.seq a m/\a.toList=[.int k t,.int l u]
theorem uV.keep{h h':eL}{v:dn}{k l:Int}(a:uV h v k l)(e:∀b o,h.get? b=bB o->o.cls=.type "tuple"->h'.get? b=bB o):uV h' v k l:=by obtain⟨x,o,f,m,t,u,d,J,I,O,Q⟩:=a;exact⟨x,o,f,m,t,u,d,e x o J I,I,O,Q⟩
theorem uV.one(a:uV h v k l):Ma h v k:=by obtain⟨x,o,d,m,t,u,b,I,J,O,Q⟩:=a;exact⟨x,o,d,m,t,b,I,J,O,by rw[<-Array.getElem?_toList,Q];rfl⟩
section
variable{prog:gg}{w:fA}{A:kb}{E:EQ}{s:ea}
theorem Km{a:dj}{vs:List dn}{ps:List (Int×Int)}{n:Nat}{P:PySem.Fin->ea->Prop}(O:s.heap.get? a=bB (hL "list" vs.toArray n))(Z:ps.length=vs.length)(am:vs.length<64)
 (hT:∀i H,uV s.heap vs[i] (ps.getD i (0,0)).1 (ps.getD i (0,0)).2)
 (h:P (.done<|.ret .none) {s with heap:=sortedHeap s.heap a vs (H8<|(qS ps).map λi=>vs.getD i Uq)}):
 wpAny (d8 prog w) A (pa.«list.sort» ⟨[.ref a],[]⟩) P E s:=by
 rw[list_sort_plain];have X:=SY O;have K:vs.length<=eK:=by rw[wo];lia
 refine SE (N? O rfl ?_);refine SE (DH O rfl ?_ (by assumption) (Uc _));obtain⟨d,M⟩:∃d,(s.heap.update a (Ua λ_=>#[])).get? a=bB (hL "list" #[] d):=⟨_,S1 O (λ_=>#[])⟩;refine SE (M4 M rfl ?_);refine SE (M7 ?_ (by show vs.length<=_;exact K));refine SE (U2 ?_ (Uc _));refine tx ?_;have J:(((s.heap.update a (Ua λ_=>#[])).push (hL "tuple" vs.toArray 0)).push (hL "list" #[] 0)).get? a=bB (hL "list" #[] d):=by rw[Gx _ _ _ (by rw[OS,S9];exact Tc (TY X)),Gx _ _ _ (by rw[S9];exact Tc X)];exact M
 dsimp only;have F:vs.toArray.size=vs.length:=by simp
 by_cases U:vs.toArray.size<2
 ·rw[DJ U,DJ U]
  refine SE<|SM ?_;rw[StateT.run_pure];refine SE<|SM ?_;dsimp only;refine SE<|M4 J rfl ?_;have S:Array.map (λx=>x.snd) (arrOf<|SortSt.mk' general' (vs.toArray.zip vs.toArray) #[] 7 cI)=vs.toArray:=by apply Array.ext';simp[Array.toList_map,Array.toList_zip];rw[List.map_snd_zip (SN _)]
  have ev:(qS ps).map (λi=>vs.getD i Uq)=vs:=by unfold qS;rw[DJ ⋯,Z];exact ju _ _
  rw[ev]at h;refine SE (DH J rfl ?_ (Uc _) (by rw[S,F];exact P6 K));simp only[bne_self_eq_false,UC,if_false];have e8:({s with heap:=(((s.heap.update a (Ua λx=>#[])).push (hL "tuple" vs.toArray 0)).push (hL "list" #[] 0)).update a (Ua λx=>Array.map (λx=>x.snd) (arrOf (SortSt.mk' general' (vs.toArray.zip vs.toArray) #[] 7 cI)))}) = {s with heap:=sortedHeap s.heap a vs vs.toArray}:=by rw[S];rfl
  refine SM ?_;rw[<-e8]at h;exact h
 ·rw[DY U,DY U]
  have keep b o:s.heap.get? b=bB o->o.cls=.type "tuple"->(((s.heap.update a (Ua λ_=>#[])).push (hL "tuple" vs.toArray 0)).push (hL "list" #[] 0)).get? b=bB o:=λe hc=>by exact SG _ (SG _ ((V' _ _ _ _ (λz=>by lia)).trans e))
  generalize hg:((s.heap.update a (Ua λ_=>#[])).push (hL "tuple" vs.toArray 0)).push (hL "list" #[] 0)=g at J keep ⊢;have r:=λi H=>(hT i H).keep keep;obtain⟨fs,f1,f2,f3⟩:=rk λi H=>(r i H).one;refine SE (kat_kind (T:=wy "int") f1 ⋯ (λv hv=>?_) ⋯ ?_)
  ·obtain⟨k,t,rfl⟩:=f3 v hv
   exact PySem.W.Looks.of_pure rfl
  refine SE (rN (kat_run (Q:=λY f=>∃p,arrOf Y=p.map (PySem.W.kas_item<|vs.toArray.zip vs.toArray)/\failedOf Y=cI/\p.toList=qS ps/\f = {s with heap:=g})
   (G:=λp f=>p.toList=qS ps/\f = {s with heap:=g})
   rfl ⋯ am (λp Y f a1 a2 a3 L=>⟨p,a2,a3,L.1,L.2⟩) (dE (λi j C H hj I=>?_) (Kx ⋯) ⟨by
   unfold qS;rw[DY ⋯,Z],rfl⟩)) ?_ λ_ _ e=>e)
  ·show wpAny _ _ (keyLt' _ (vs.getD i Uq)<|vs.getD j Uq) C _ _
   rw[show vs.getD i Uq=vs[i]by simp[H],show vs.getD j Uq=vs[j]by simp[hj]];refine dt λkZ=>?_;obtain⟨x,ox,xs,m,t,u,d,e2,e3,e4,R⟩:=r i H;obtain⟨y,oy,ys,m',t',u',d1,d2,d3,d4,N⟩:=r j hj;refine kZ ?_;rw[d,d1];refine kat_lt e2 e4 d2 d4 ?_;have b9:xs.size=2:=by rw[<-Uy,R];rfl
   have bb:ys.size=2:=by rw[<-Uy,N];rfl
   simp only[R,N,b9,bb,Hv,Hv];unfold Jx at I;generalize ps.getD i (0,0)=X1 at I ⊢;generalize ps.getD j (0,0)=X2 at I ⊢;refine kat_cons<|MH X1.1 t X2.1 t' _ _ _ _ ?_;refine kat_go (λB=>?_) λB=>?_
   ·rw[DJ (by simpa using B)]at I
    refine kat_yes<|kat_cons<|MH X1.2 u X2.2 u' _ _ _ _<|kat_go (λl=>?_) λl=>kat_no<|kat_one _ _<|lt_int I
    ·have l:=by simpa using l
     refine kat_yes<|kat_nil ?_;rw[show decide (X1.2<X2.2)=cT by rw[l];simp]at I;exact I
   ·rw[DY (by simpa using B)]at I
    exact kat_no<|oneLt_int I
  rintro⟨⟨⟩,Y⟩ f ⟨p,bd,hf,hp,rfl⟩;dsimp only;have bf:((qS ps).map λi=>vs.getD i Uq).length=vs.length:=by rw[Ta,(jN ps).length_eq,Ut,Z]
  rw[(kat_snds rfl bd),hp];refine SE<|M4 J rfl ?_;refine SE<|DH J rfl ?_ (Uc _) (by rw[SW];show((qS ps).map λi=>vs.getD i Uq).length<=_;rw[bf];exact P6 K);rw[hf];simp only[bne_self_eq_false,UC,if_false];subst hg;exact SM h
theorem WH{l:dj}{vs:List dn}{ps:List (Int×Int)}{Q:EQ}(O:s.heap.IsList l vs.toArray)(U:ps.length=vs.length)(Y:vs.length<64)
 (Z:∀i j,uV s.heap vs[i] (ps.getD i (0,0)).1 (ps.getD i (0,0)).2)
 (h:Q (.ref<|s.heap.objs.size+1) {s with heap:=sortedAll s.heap vs (H8<|(qS ps).map λi=>vs.getD i Uq)}):
 wpAny (d8 prog w) A (call (.builtin "sorted") [.ref l]) Q E s:=by
 have d:vs.length<=eK:=by rw[wo];lia
 refine Calls.call_function_entry kind_sorted plain_sorted entry_sorted (args_sorted1 _) ?_;unfold pa.«sorted»;refine SE (SM ?_);refine SE (collect_list O ?_ d);refine SE (U2 ?_ d);have a:((s.heap.push (hL "list" #[] 0)).update s.heap.objs.size (Ua (· ++ vs.toArray))).objs.size=s.heap.objs.size+1:=by simp_all
 have J:(((s.heap.push (hL "list" #[] 0)).update s.heap.objs.size (Ua (· ++ vs.toArray))).push (hL "list" vs.toArray 0)).get? (s.heap.objs.size+1)=bB (hL "list" vs.toArray 0):=by rw[<-a];exact SV _ rfl
 have keep:∀b o,s.heap.get? b=bB o->(((s.heap.push _).update _ _).push (hL "list" vs.toArray 0)).get? b=bB o:=λb o q=>by have I:=SY q;rw[Gx _ _ _ (by rw[a];exact Tc (TY I)),V' _ _ _ _ (Tc I),Gx _ _ _ (Tc I)];exact q
 rw[a];exact SE<|tx<|Uk slot_list_sort ⟨_,J,rfl⟩ entry_list_sort (Km J U Y (λi j=>(Z i j).keep λb o e _=>keep b o e) ⟨_,rfl,SM ⟨_,rfl,h⟩⟩)<|args_list_sort _
end
section
variable{X:Cx}
noncomputable def HG(K:SD):List V->Hp->VK->Prop:=λe H Q=>∃l b d,e=[.ref l]/\fy K H l b/\d.length=b.length/\b.length<64/\
 (∀i (f:i<b.length),∃a,b[i]=V.ref a/\hH K H a [.int ((d:List (Int×Int)).getD i (0,0)).1,.int (d.getD i (0,0)).2])/\∀p,H p=cI->Q (.ref p) (upd H p<|.lst<|(qS d).map λi=>b.getD i .d9)
theorem aY:Zz X (.builtin "sorted") (HG X.K):=by
 intro x s σ H vs us Q I rv h;obtain⟨l,k,ps,rfl,L,m,ap,B,y⟩:=h;obtain⟨u,rfl,ru⟩:=kF rv;cases ru;obtain⟨g,r,S,N⟩:=I.list L;have as:=r.length;refine WH (ps:=ps) S.isList ⋯ ⋯ (λi d=>?_) ?_
 ·obtain⟨a,z,A⟩:=B i ⋯
  obtain⟨v,J,g2⟩:=r.get (i:=i) (by rw[SH ⋯,z]);have M:=by rw[SH d]at J;exact TJ J
  rw[M];cases g2;refine dt λR=>?_;obtain⟨ad,W,⟨o,G,C,n,E⟩,_⟩:=I.tuple A;obtain⟨O,U,rfl,Y,Z⟩:∃O U,ad=O::U/\RelV _ O/\ez _ U:=by
   cases W with
   |cons Y Z=>exact⟨_,_,rfl,Y,Z⟩
  obtain⟨v2,rfl,T⟩:=kF Z;obtain⟨t,rfl⟩:=Y;obtain⟨u,rfl⟩:=T;exact R ⟨a,o,_,n,t,u,rfl,G,C,E,rfl⟩
 ·obtain⟨e,w⟩:=sortedAll_at s.heap g _
  have p:((qS ps).map λi=>k.getD i V.d9).length=k.length:=by rw[Ta,(jN ps).length_eq,Ut,m]
  refine⟨.ref _,_,I.laid (λb o q=>sortedAll_old q) (Df _) ?_,rfl,y _<|I.eI.fresh<|Df _⟩;refine⟨by rw[p];exact N,_,e,?_,w⟩;have f:∀i∈qS ps,i<k.length:=λi d=>by have:=(jN ps).mem_iff.mp d;rw[m]at this;exact SJ.mp this
  generalize qS ps=o at f;clear p w
  induction o with
  |nil=>exact .nil
  |cons i o P=>
   have d:=f i SO;refine .cons ?_ (P λj F=>f j<|SQ _ F);obtain⟨v,J,g2⟩:=r.get<|SH d;simp only[kr,kr,SH d,J];exact g2
theorem gd:∀{ds:List D} {ps:List (Int×Int)},QC ds=bB ps->∀(i:Nat) d,ds[i]? = bB d->d=.tup [.int (ps.getD i (0,0)).1,.int (ps.getD i (0,0)).2]
 |[],ps,h,i,d,hd=>by grind
 | c::ds,ps,h,i,d,hd=>by
  obtain⟨k,a,h⟩:=za h;obtain⟨l,I,h⟩:=zq h;subst h;cases i with
  |zero=>
   simp at hd;subst hd;unfold Ab at a;split at a
   ·cases a;rfl
   ·cases a
  |succ i=>simpa using gd I i d (by simpa using hd)
theorem XS{K:SD}{H:Hp}{ds:List D}{xs:List V}(r:dr K H ds xs):∀(o:List Nat),(∀i∈o,i<xs.length)->dr K H (o.map λi=>ds.getD i .d9) (o.map λi=>xs.getD i .d9)
 |[],_=>dr.nil
 |i::o,h=>by have a:=h i SO;obtain⟨d,b,I⟩:=r.Bi<|SH a;refine dr.cons ?_ (XS r o λj J=>h j<|SQ _ J);simp only[kr,kr,SH a,b];exact I
theorem fX{M:f6}{N L:List Str}{k:Nat}{e:dv}{pos p:eU}{E:CO (Sk×List D)}(h:SX X M N L k)(c:k9 M "sorted" = cm)(z:X.mg "sorted" = cI)(S:PQ X e E)(hs:eA [e] X.env=[(cT,dy e X.env)]:=by rfl):
 PO X (.Call (.Name "sorted" p) [e] [] pos) (fE E):=
 jK (yh aY (h.gl c).1 z ⋯ (z9 S jM hs) ⋯ ⋯ hs rfl) λσ H Q G=>by
  obtain⟨n,γ,ds,R,I,q⟩:=G;obtain⟨⟨P,j⟩,o,I⟩:=za I;cases P with
  |T=>cases I
  | L=>
   unfold nH at I;obtain⟨m,O,I⟩:=za I;by_cases U:j.length<64
   ·rw[DJ U]at I
    cases I;have ad:=W5 O;refine⟨n,γ,.L,j,R,o,λa xs H' f ext w h2 r=>?_⟩;have al:=r.length;refine⟨a,xs,m,rfl,w,⋯,⋯,λi g=>?_,λl J=>?_⟩
    ·obtain⟨d,K,W⟩:=r.Bi (SH g)
     have u:=gd O i d K;subst u;obtain⟨b,zs,t,Y,x⟩:=yv W;refine⟨b,t,?_⟩;obtain⟨y,zgG,s,A,B⟩:=x.n6;obtain⟨y2,ao,Z,C,F⟩:=B.n6;rw[F.ro]at Z;rw[s,Z,jv A,jv C]at Y;exact md ext.sub Y
    ·refine q l _ _ f (ext.trans<|Ext.hide ext.sub J _) (xj ext.s1 J) (jd ext.sub J) zC ?_
     refine XS r _ λi g=>?_;have:=SJ.mp<|(jN m).mem_iff.mp g;lia
   ·rw[DY U]at I;cases I
end
section
variable{X:Cx}{a b c:dv}{pos:eU}{fa fb fc:CO D}
theorem W0{O U:CmpOp}{r E:R2}{F G:D->D->Option D}(ho:h6 X (m3 O) r)(L:h6 X (m3 U) E)(s1:m6 X.K r F)(s2:m6 X.K E G)(ha:PV X a fa)(hb:PV X b fb)(hc:PV X c fc)
 (hm:OJ [O,U] [b,c]=cT:=by with_unfolding_all rfl):k4 X (.Compare a [O,U] [b,c] pos) (sB<|wZ F G fa fb fc):=
 X6 (zdL ho L ha hb hc hm) λσ H Q hZ=>by
  refine dt λkZ=>?_;obtain⟨l,j,kq,i,B,q0⟩:=hZ;obtain⟨d,I,e9⟩:=za B;have q v f e:Ext l H e f->Rep X.K e d v->∃k,v=.bl k/\Q k f:=λx Z=>by rw[Jr e9]at Z;exact⟨kq,Z,q0 f e x⟩
  obtain⟨x,R,I⟩:=za I;obtain⟨y,S,I⟩:=za I;obtain⟨k,T,I⟩:=za I;obtain⟨n,W,o⟩:=za T;refine kZ ?_;refine⟨l,j,x,i,R,λv1 H1 C g r1=>⟨C,j,y,i.ext g,S,λs t M J p=>s1 M t v1 s x y n _ J.sub (r1.mono J.s0) p W λzed u m h r3=>?_⟩⟩;cases n with
  | bl k'=>
   cases o;refine⟨k,r3,?_⟩;cases k with
   |true=>
    rw[DJ rfl];rw[DJ rfl]at I;obtain⟨z,e6,e7⟩:=za I;exact⟨m,j,z,((i.ext g).ext J).ext h,e6,λv4 w N Y r4=>s2 N w s v4 y z d _ Y.sub ((p.mono h.s0).mono Y.s0) r4 e7 λv5 A P x5 r5=>q v5 A P (((g.trans J).trans h).trans (Y.trans x5)) r5⟩
   |false=>
    rw[DY ⋯];cases I;exact q _ u m ((g.trans J).trans h) rfl
  |_=>cases o
end
end DL
namespace DL
open PySem PySem.Spec PyProof.Rows L2
theorem Zm{H:Hp}{x:dj}{o e:HO}:upd (upd H x o) x e=upd H x e:=by
 funext b;by_cases h:b=x
 ·subst h;rw[zC,zC]
 ·rw[zE h,zE h,zE h]
section
variable{X:Cx}{sc:f6}{N L:List Str}{k:Nat}{a:dv}{pos:eU}{f:CO (List D)}
theorem EC(i:Nat)(h:SX X sc N L k)(c:vz sc N i x=cm)(S:PO X a f)(hs:eA [a] X.env=[(cT,dy a X.env)]:=by rfl)
 (Y:x8 (.Name x np) "extend" X.env (dy (.Name x np) X.env)=dy (.Name x np) X.env:=by rfl)
 (Z:((oe cpos<|starEach [a] X.env).all (λx=> !x.1)&&(yg cpos<|keywordEach [] X.env).all (λx=>x.1.isSome)
   &&decide ([a].length+([]:List tr).length+(if ([]:List tr).isEmpty then 0 else 1)<30))=cm:=by rfl)
 (z:(apos.endLine==cpos.line)=cm:=by rfl) (M:tG (.Call (.Attribute (.Name x np) "extend" apos) [a] [] cpos) cI pos.line X.env=pure cT:=by rfl):
 i6 X (.Expr (.Call (.Attribute (.Name x np) "extend" apos) [a] [] cpos) pos) (nZ i f):=
 xS (Vn (lu M' PySem.F.slot_list_extend PySem.F.type_list_extend pM (h.var c) (z9 S jM hs) Y Z z hs rfl) M) λD C H s=>by
  refine dt λt=>?_;obtain⟨E0,E,n,w,A,e,I,p⟩:=s;obtain⟨g,d,I⟩:=za I;obtain⟨j,r,I⟩:=za I;refine t ?_;have d:=yj d;by_cases J:g.length+j.length<=lim
  ·rw[DJ J]at I;cases I
   obtain⟨l,xs,m,B,O,Q⟩:=e.rc.own i g d;refine⟨_,m,.inl ⟨rfl,_,fy.of O⟩,n,w,j,e.rc,r,λb u y o x g1 g2 g3 U=>?_⟩;exact⟨l,b,xs,u,rfl,rfl,x.s1 _ _ O,g3,by
    rw[Q.length,U.length];have:lim<=eK:=by decide
    lia,p _ _ _<|(e.step x).rewrite (xs:=xs) d m ((Q.mono x.s0).append U)⟩
  ·rw[DY J]at I;cases I
end
noncomputable def FS:hB->List hB
 |.ClassDef _ _ _ b _ _ _ _ _ _ _=>b
 |_=>[]
noncomputable def Lf(st:hB)(j:Nat):hB:=(FS st).getD j (.Pass ⟨0,0,0,0⟩)
section
variable{X:Cx}{pins:TW}{σ:St}{H:Hp}{s:ea}
theorem AU{ta:TA}{E J:dv}{p pos:eU}{Q:EQ}{xs ys:List V}(I:Inv X pins σ H s)(hg:Gl X "zip")(hm:X.mg "zip" = cI)(ha:PA X [E,J] ta)
 (h:ta σ H λvs j=>∃k1 k2 a b,vs=[.ref a,.ref b]/\(∃xs,i4 k1 X.K j a xs)/\(∃ys,i4 k2 X.K j b ys)/\
   ∀L z TI TO M S,Inv X pins σ j L->uY z TI TO M S a b->uX k1 k2 z TI TO M S a b 0 L.heap->uS L.heap z TI TO .none->(∀c ∈ [z,TI,TO,M,S],Jt X pins j c)->Q (.ref z) L)
 (hs:eA [E,J] X.env=[(cT,dy E X.env),(cT,dy J X.env)]:=by rfl) (a0:eA [J] X.env=[(cT,dy J X.env)]:=by rfl):
 wpAny (d8 X.prog X.w) X.A (dy (.Call (.Name "zip" p) [E,J] [] pos) X.env) Q X.xe s:=by
 refine A1 (xU I hg hm PyProof.Rows.boot_zip<|TM (ed (ha pos pins s σ H _ I h) λus d T=>?_) (by rw[hs,a0])<|by rw[a0];rfl);refine dt λW=>?_;obtain⟨vs,j,O,r1,q1⟩:=T;obtain⟨k1,k2,a,b,e,⟨xs,y⟩,⟨ys,B⟩,q⟩:=q1;subst e;obtain⟨w1,w2,P,C,G⟩:=ud r1;refine W ?_;subst P;cases C;cases G;obtain⟨as,b3,k,z1⟩:=O.sq y;obtain⟨N,b4,l,z2⟩:=O.sq B;refine e_ F.called_zip ⋯ (F.typeCall_zip_2 _ _) (F.newCall_zip_2 _ _) (λobj=>F.args_object_init_3 obj _ _) F.entry_zip_new (eG k1 k2 a b as.toArray N.toArray) ⟨k,l,?_⟩;have r:(Tr d.heap<|i0 k1 a).objs.size=_:=TH ..;have t:(Tr (Tr d.heap<|i0 k1 a)<|i0 k2 b).objs.size=d.heap.objs.size+2:=by rw[TH,r]
 have u:(Tr (Tr (Tr d.heap<|i0 k1 a)<|i0 k2 b)<|yW (.ref d.heap.objs.size)<|.ref<|d.heap.objs.size+1).objs.size=d.heap.objs.size+3:=by rw[TH,t]
 have y4:(Tr (Tr (Tr (Tr d.heap<|i0 k1 a)<|i0 k2 b)<|yW (.ref d.heap.objs.size)<|.ref<|d.heap.objs.size+1)<|yW .none .none).objs.size=d.heap.objs.size+4:=by rw[TH,u]
 have R:ij k1 (QK k1 k2 d.heap a b) _ a 0:=(QF k1 d.heap a).at λo e=>SG _<|SG _<|SG _<|SG _ e;have g1:ij k2 (QK k1 k2 d.heap a b) (d.heap.objs.size+1) b 0:=by have q:=QF k2 (Tr d.heap<|i0 k1 a) b;rw[r]at q;exact q.at λo e=>SG _<|SG _<|SG _ e
 have g2:ni (QK k1 k2 d.heap a b) (d.heap.objs.size+2) (.ref d.heap.objs.size) (.ref<|d.heap.objs.size+1):=by have q:=SV (Tr (Tr d.heap<|i0 k1 a)<|i0 k2 b) (o:=yW (.ref d.heap.objs.size)<|.ref<|d.heap.objs.size+1) rfl;rw[t]at q;exact SG _<|SG _ q
 have g3:ni (QK k1 k2 d.heap a b) (d.heap.objs.size+3) .none .none:=by have q:=SV (Tr (Tr (Tr d.heap<|i0 k1 a)<|i0 k2 b)<|yW (.ref d.heap.objs.size)<|.ref<|d.heap.objs.size+1) (o:=yW .none .none) rfl;rw[u]at q;exact SG _ q
 have Z:=by have q:=SV (Tr (Tr (Tr (Tr d.heap<|i0 k1 a)<|i0 k2 b)<|yW (.ref d.heap.objs.size)<|.ref<|d.heap.objs.size+1)<|yW .none .none) (o:=Mf (d.heap.objs.size+2)<|d.heap.objs.size+3) rfl;rw[y4]at q;exact q
 refine⟨⟨_,Z,rfl⟩,?_⟩;have x:Inv X pins σ j {d with heap:=QK k1 k2 d.heap a b,toks:=d.toks}:=O.kept (λc o e=>
  SG _ (SG _<|SG _<|SG _<|SG _ e))
 have U:=λm=>Tc<|Ti k.lt<|Tv _ m;have Y:=λm=>Tc<|Ti l.lt<|Tv _ m;have f m n:m≠n->(d.heap.objs.size+m)≠d.heap.objs.size+n:=λh=>by lia
 refine q _ _ _ _ _ _ x ⟨f 2 4 ⋯,f 3 4 ⋯,f 0 4 ⋯,f 1 4 ⋯,f 2 3 ⋯,f 2 0 ⋯,f 2 1 ⋯,f 3 0 ⋯,f 3 1 ⋯,f 0 1 ⋯,
  U 4,U 3,U 0,U 1,Y 4,Y 3,Y 0,Y 1⟩ ⟨.inl Z,g2,⟨_,_,g3⟩,R,g1⟩ Z λc i=>?_
 have g:d.heap.objs.size<=c:=by
  simp only[SS,Th,or_false]at i;rcases i with rfl|rfl|rfl|rfl|rfl
  ·exact Tv _ _
  ·exact Tv _ _
  ·exact Tv _ _
  ·exact SN _
  ·exact Tv _ _
 exact O.ug g<|O.eI.fresh g
theorem KA{o:HO}{c p:dj}(h:Jt X pins H c)(e:c≠p):Jt X pins (upd H p o) c:=⟨by rw[zE e];exact h.1,h.2⟩
end
theorem YR:∀{ds:List D} {j:List Int},VR ds=bB j->gD ds=bB (j.map o8)
 |[],j,e=>by cases e;rfl
 | d::ds,j,e=>by
  cases d with
  |int i=>
   obtain⟨l,a,I⟩:=zq e;subst I;show((IY<|.int i).bind _)=_;rw[YR a];rfl
  |_=>cases e
theorem YD:∀ps e,((e++ps).map (·.1)).Nodup->uD e ps=e++ps
 |[],e,_=>by simp[uD]
 |(k,v)::ps,e,h=>by
  show uD (mO e k v) ps=_;rw[show mO e k v=_ by unfold mO;rw[DY (λq=>by obtain⟨a,b,I⟩:=S8.mp q;rw[Ue,Tw]at h;exact((List.nodup_append.mp h).2.2 a.1 (Tb.mpr ⟨a,b,rfl⟩) k ⋯)<|of_decide_eq_true I)]]
  rw[YD ps _ (by simpa using h)];simp
theorem pH:∀{e:List Int},e.Nodup->(e.map<|o8 (β:=Str)).Nodup
 |[],_=>by simp
 |n::e,h=>by grind
section
variable{X:Cx}{pins:TW}{σ:St}{H:Hp}{s:ea}{p:dj}{l9:List (Key×V)}
theorem Inv.D?(I:Inv X pins σ H s)(j:H p=bB (.dK l9)):∃o,Inv X pins σ (upd H p<|.t6 o<|.dK l9) s:=by
 have J:=(I.eI p _ j);obtain⟨o,O⟩:∃o,_=bB o:=by obtain⟨_,_,_,_,o,_,_,e,_⟩:=J;exact⟨_,e⟩
 exact⟨o,I.write (by rw[j];exact tI) (.inl rfl) (λb q Q z=>z) ⟨_,O⟩ ⟨O,J⟩⟩
end
theorem VT{K:SD}{H:Hp}{i:Int}:∀{E vs:List D} {z:List Key} {xs:List V},gD E=bB z->z.length=xs.length->dr K H vs xs->
 (∀d,gN E vs i=bB d->∃v,eM (z.zip xs) (o8 i)=bB v/\Rep K H d v)/\(gN E vs i=cI->eM (z.zip xs) (o8 i)=cI)
 |[],vs,z,xs,e,l,r=>by cases e;exact⟨(λd q=>by cases q),λ_=>rfl⟩
 |k::E,[],z,xs,e,l,r=>by rw[r.ro]at l ⊢;rw[List.length_eq_zero_iff.mp l];exact⟨(λd q=>by cases q),λ_=>rfl⟩
 | k::E,v::vs,z,xs,e,l,r=>by
  obtain⟨J,a,U⟩:=za e;obtain⟨O,Y,Z⟩:=zq U;subst Z;obtain⟨x,Q,rfl,f,g⟩:=r.n6;have m:=VT (i:=i) Y (by simpa using l) g;have step:J≠o8 i->eM ((J::O).zip (x::Q)) (o8 i)=eM (O.zip Q) (o8 i):=λh=>by rw[Hv];simp[eM,zt,h]
  cases k with
  | int j=>
   cases a;by_cases I:j=i
   ·subst I
    refine⟨λd q=>⟨x,?_,(by simpa[gN]using q) ▸ f⟩,λq=>?_⟩
    ·rw[Hv];exact Y6 rfl
    ·simp[gN]at q
   ·rw[step (λq=>I<|o8.inj q)]
    have b:gN (.int j::E) (v::vs) i=gN E vs i:=by simp[gN,I]
    rw[b];exact m
  |str y=>
   cases a;assumption
  |_=>cases a
noncomputable def qR(g:CO (Sk×List D))(e:CO D):CO D:=λb=>(g b).bind λa=>(e b).bind λx=>match a.1 with
 |.L=>if i5 x=cm/\oo a.2=cm then bB (.int (a.2.countP λd=>ip d x:Nat))else cI
 |.T=>cI
theorem iV(I:Inv X pins σ H s)(sub:ft H0 H)(O:fy X.K H p xs)(r:dr X.K H0 ds xs)(o:oo ds=cm):∃J,Reads s.heap (.ref p) (.list<|o4 ds) J:=by obtain⟨b,Q,q,d⟩:=I.list O;obtain⟨e,U,Y,n,a⟩:=q.isList;obtain⟨J,Z⟩:=Mw I sub o r Q;exact⟨_,.list U Y a<|by simpa using Z⟩
section
variable{X:Cx}{sc:f6}{N L:List Str}{k:Nat}
theorem SX.u66(h:SX X sc N L k):X.A.units+66<u3:=by have:=h.room.un;lia
end
noncomputable def Er(K:SD):V->List V->Hp->VK->Prop:=λx g H Q=>∃a e v p f b,ft a H/\x=.ref p/\g=[v]/\Rep K a e v/\fy K H p f/\dr K a b f/\i5 e=cm/\oo b=cm/\Q (.int (b.countP λd=>ip d e:Nat)) H
theorem YW(I:ji x=cm):∀ds,oo ds=cm->(o4 ds).countP (λy=>uM y<|js x)=ds.countP λd=>ip d x
 |[],_=>by rfl
 |d::ds,h=>by simp only[oo,Td]at h;simp only[o4,_g];rw[LU d x h.1 I,YW I ds h.2]
theorem pP(S:X.A.units+66<u3):D0 X "list.count" (Er X.K):=by
 intro j s W H x R v P Q I Z C h;refine dt λo=>?_;obtain⟨G,f,y,p,T,b,sub,rfl,rfl,u,m,w,J,O,q⟩:=h;refine o ?_;cases Z;obtain⟨E,rfl,rw⟩:=kF C;obtain⟨as,z⟩:=Dv I sub (kN J) u rw;obtain⟨bs,B⟩:=iV I sub m w O;have M:=PySem.SeqAt.depth_of_shaped<|vF J;have U:=L4 b O;cases B with
 | list i k l Y=>
  rename_i r a n ad
  obtain⟨N,t,L,g⟩:=r;subst k l;refine tN F.slot_list_count ⟨_,i,rfl⟩ F.entry_list_count (F.args_list_count_2 _ _) (PySem.SeqAt.list_countAt p a n t g E _) ⟨i,PySem.SeqAt.items_eqAt Y z U (OK f<|kN J) ?_,?_⟩
  ·have:min (T3<|o4 b) (js f).depth<=_:=Nat.min_le_right _ _
   lia
  ·have e:a.toList.countP (λy=>uM (PySem.SeqAt.readOf s.heap y)<|js f)=b.countP λd=>ip d f:=by
    rw[<-YW (kN J) b O,<-PySem.SeqAt.readsAll_map _ _ _ U Y,M3];rfl
   rw[e];exact⟨.int _,H,I.tok _,⟨_,rfl⟩,q⟩
section
variable{X:Cx}{sc:f6}{N L:List Str}{k:Nat}{o e:dv}{apos cpos:eU}{fa:CO D}{g:CO (Sk×List D)}
theorem yF(h:SX X sc N L k)(Y:PQ X o g)(M:PV X e fa)(Z:x8 o "count" X.env (dy o X.env)=dy o X.env:=by rfl)
 (z:((oe cpos<|starEach [e] X.env).all (λx=> !x.1)&&(yg cpos<|keywordEach [] X.env).all (λx=>x.1.isSome)&&decide ([e].length+([]:List tr).length+(if ([]:List tr).isEmpty then 0 else 1)<30))=cm:=by rfl)
 (E:(apos.endLine==cpos.line)=cm:=by rfl) (hs:eA [e] X.env=[(cT,dy e X.env)]:=by rfl):PV X (.Call (.Attribute o "count" apos) [e] [] cpos) (qR g fa):=
 jK (lu M' PySem.F.slot_list_count PySem.F.type_list_count (pP h.u66) Y (z9 M jM hs) Z z E hs rfl) λP H Q w=>by
  refine dt λy=>?_;obtain⟨m,l,d,f,I,q⟩:=w;obtain⟨⟨A,a⟩,u,I⟩:=za I;obtain⟨x,t,I⟩:=za I;refine y ?_;cases A with
  |T=>lia
  | L=>
   have I:=I;by_cases J:i5 x=cm/\oo a=cm
   ·rw[DJ J]at I;cases I
    exact⟨m,l,.L,a,f,u,λp j G s i b K r=>⟨.inl ⟨rfl,j,b⟩,s,l,x,f.ext i,t,λC n U O B=>⟨U,x,C,p,j,a,O.sub,rfl,rfl,B,O.s1.seq b,r.mono O.s0,J.1,J.2,q _ n U (i.trans O) rfl⟩⟩⟩
   ·rw[DY J]at I;cases I
end
noncomputable def nW(f g:CO D)(γ:Ctx):Option (List D):=((f γ).bind j6).bind λm=>((g γ).bind j6).bind λn=>if m.2.length<=lim then bB (ZA m.2 n.2)else cI
@[simp] noncomputable def zft:=@nW.eq_1
section
variable{prog:gg}{w:fA}{A:kb}{E:EQ}{s:ea}
theorem Cw{k1 k2:Sk}{z TI TO j H Y L:dj}{n:Nat}{xs ys:Array dn}{x y:dn}{Q:Option dn->ea->Prop}(D:uY z TI TO j H Y L)
 (Z:uX k1 k2 z TI TO j H Y L n s.heap) (M:lK k1 s.heap Y xs) (S:lK k2 s.heap L ys) (hx:xs[n]? = bB x) (hy:ys[n]? = bB y)
 (X:∀h',uX k1 k2 z TI TO j H Y L (n+1) h'->ni h' s.heap.objs.size x y->(∀c o,c ∉ [z,TI,TO,j,H]->s.heap.get? c=bB o->h'.get? c=bB o)->Q (bB (.ref s.heap.objs.size)) {s with heap:=h'}):
 wpAny (d8 prog w) A (uG<|.ref z) Q E s:=by
 obtain⟨a,d,⟨c,e,p⟩,r,t⟩:=Z;unfold uG;rcases a with a|⟨O,b,oa,a,ha⟩
 ·have U:s.TypeIs (.ref z) "zip":=⟨_,a,rfl⟩
  refine SE (z3 (TU U UE (Uk UE U Hg
   (Wn D a d p r t M S hx hy λg f F h i k G J=>SM ?_) (GK _))))
  refine X g ⟨.inr ⟨_,cT,_,f,k⟩,J _ _ D.TIz D.TITO D.TIi1 D.TIi2 d,⟨_,_,F⟩,h,i⟩ k λc o I q=>?_;simp only[SS,Th,or_false,not_or]at I;exact J c o I.1 I.2.2.1 I.2.2.2.1 I.2.2.2.2 q
 ·have U:s.TypeIs (.ref z) "zip":=⟨_,a,rfl⟩
  refine SE (z3 (TU U UE (Uk UE U Hg
   (mQ D a ha d r t M S hx hy λg f h i k G J=>SM ?_) (GK _))))
  have l:∃m,g.get? O=bB m:=by
   by_cases u:O=z
   ·exact⟨_,(congrArg g.get? u).trans f⟩
   ·by_cases B:O=j
    ·obtain⟨o,e,_⟩:=h.obj;exact⟨o,B ▸ e⟩
    ·by_cases C:O=H
     ·obtain⟨o,e,_⟩:=i.obj;exact⟨o,C ▸ e⟩
     ·exact⟨oa,J O oa u B C ha⟩
  obtain⟨m,l⟩:=l;refine X g ⟨.inr ⟨O,cm,m,f,l⟩,J _ _ D.TIz D.TIi1 D.TIi2 d,⟨_,_,J _ _ D.TOz D.TOi1 D.TOi2 p⟩,h,i⟩ k λc o I q=>?_;simp only[SS,Th,or_false,not_or]at I;exact J c o I.1 I.2.2.2.1 I.2.2.2.2 q
end
theorem uX.keep{k1 k2:Sk}{z TI TO j E a b:dj}{n:Nat}{h h':eL}(Z:uX k1 k2 z TI TO j E a b n h)(k:∀c ∈ [z,TI,TO,j,E],∀o,h.get? c=bB o->h'.get? c=bB o)(e:∀c o,h.get? c=bB o->∃H,h'.get? c=bB H):uX k1 k2 z TI TO j E a b n h':=by
 obtain⟨I,O,⟨c,d,Q⟩,U,Y⟩:=Z;refine⟨?_,k TI ⋯ _ O,⟨c,d,k TO ⋯ _ Q⟩,U.at<|k j ⋯,Y.at<|k E ⋯⟩;rcases I with I|⟨J,bb,oa,I,a2⟩
 ·exact .inl<|k z ⋯ _ I
 ·obtain⟨f,g⟩:=e J oa a2
  exact .inr ⟨J,bb,f,k z ⋯ _ I,g⟩
theorem oM{h:eL}{o e:l6}{c:dj}(I:c≠h.objs.size)(q:(h.push o).get? c=bB e):h.get? c=bB e:=by unfold Heap.get? Tr at q;unfold Heap.get?;simp only[Array.getElem?_push,DY I]at q;exact q
theorem AS{e j L H:Hp}{S p:dj}{o U:HO}(E:Ext e j L H)(O:j S=cI)(Q:L S=cI)(M:H p=cI)(J:p≠S):Ext e j (upd L p o) (upd (upd H p o) S U):=by
 refine⟨E.s0.trans<|jj (jd E.sub M) o,λb u q=>?_,λb u q=>?_,λb a I=>?_⟩
 ·have a:=E.s1 b u q
  rw[zE (λz=>by lia),zE (λz=>by lia)];exact a
 ·by_cases z:b=p
  ·subst z
   rw[zC]at q;rw[zE J,zC];exact q
  ·rw[zE z]at q
   rw[zE (λy=>by lia),zE z];exact E.sub b u q
 ·rw[zE (λz=>by
   cases q:j b with
   |none=>exact I q
   |some u=>have:=E.s1 b u q;lia)]
  exact E.new b a I
section
variable{X:Cx}{pins:TW}{σ:St}{A:kb}{R:Result->ea->Prop}{I0 Hb:Hp}{k1 k2:Sk}{z TI TO i1 i2 a b S:dj}{xs ys:List V}{ds es:List D}{res:dn}
theorem ot{K:SD}{H:Hp}{d e:D}{x y:V}{p:dj}(j:Rep K H d x)(I:Rep K H e y)(E:H p=bB (.tup [x,y])):Rep K H (.tup [d,e]) (.ref p):=
 ⟨p,[x,y],rfl,.inl<|.inl E,.cons j<|.cons I .nil⟩
theorem pW(hh:A.handled=cI)(DA:uY z TI TO i1 i2 a b)(hS:Hb S=cI):∀m n s H j M vs,n+m=(ds.zip es).length->
 Inv X pins σ H s->Ext I0 Hb j H->j S=cI->i4 k1 X.K j a xs->i4 k2 X.K j b ys->dr X.K j ds xs->dr X.K j es ys->dr X.K j M vs->(∀c ∈ [z,TI,TO,i1,i2],Jt X pins H c)->uX k1 k2 z TI TO i1 i2 a b n s.heap->H S=bB (.lst vs)->vs.length+m<=eK->
 (∀s' H' L U,Inv X pins σ H' s'->Ext I0 Hb L H'->L S=cI->H' S=bB (.lst U)->dr X.K L (M++(ZA ds es).drop n) U->R (.ok<|.ret res) s')->
 codeAny (d8 X.prog X.w) A (.builtin "list.extend.loop" ⟨[.ref S,.ref z,res],[]⟩) R s:=by
 intro m
 induction m with
 |zero=>
  intro n s H j M vs P I E Y g h l p ra i Z N hz hR;obtain⟨b1,r,T,z1⟩:=I.sq<|wU E.sub g;obtain⟨b2,t,W,z2⟩:=I.sq<|wU E.sub h;have l1:=r.length;have l2:=t.length;have l3:=l.length;have zgw:=p.length;simp only[List.length_zip,T8]at P;refine S2 F.entry_extend_loop ?_;refine SE<|GQ hh DA Z T W (by rw[P];rcases Nat.le_total ds.length es.length with q|q;left;simp;lia;right;simp;lia) λh' k=>?_;refine SM<|hR _ H j vs (I.um k i) E Y N ?_;rw[MM (by unfold ZA;grind),DC];exact ra
 | succ m ih=>
  intro n s H j M vs P I E Y g h l p ra i Z N hz hR;obtain⟨b1,r,T,z1⟩:=I.sq<|wU E.sub g;obtain⟨b2,t,W,z2⟩:=I.sq<|wU E.sub h;have al:n<(ds.zip es).length:=⋯
  simp only[List.length_zip]at al;have hk:ds[n]? = bB ds[n]:=SH ⋯;have hy:es[n]? = bB es[n]:=SH ⋯;obtain⟨x,ex,rx⟩:=l.get hk;obtain⟨y,ey,ry⟩:=p.get hy;obtain⟨u1,b9,bb⟩:=r.get ex;obtain⟨u2,bd,be⟩:=t.get ey;have am:=I.fresh;have u:s.heap.objs.size≠S:=λq=>by lia
  refine S2 F.entry_extend_loop ?_;refine SE<|Cw DA Z T W (by simpa using b9) (by simpa using bd) λh' Z' hP k=>?_;have np:∀c ∈ [z,TI,TO,i1,i2],c≠s.heap.objs.size:=λc J q=>by
   obtain⟨Q,bi,⟨c',e',bl⟩,g1,g2⟩:=Z;obtain⟨o1,B,_⟩:=g1.obj;obtain⟨o2,e2,_⟩:=g2.obj;have G:∃o,s.heap.get? z=bB o:=by
    rcases Q with Q|⟨_,_,_,Q,_⟩
    ·exact⟨_,Q⟩
    ·exact⟨_,Q⟩
   obtain⟨zgy,G⟩:=G;simp only[SS,Th,or_false]at J;rcases J with rfl|rfl|rfl|rfl|rfl
   ·exact absurd q<|Tc<|SY G
   ·exact absurd q<|Tc<|SY bi
   ·exact absurd q<|Tc<|SY bl
   ·exact absurd q<|Tc<|SY B
   ·exact absurd q<|Tc<|SY e2
  have an:∀c ∈ [z,TI,TO,i1,i2],Jt X pins (upd H s.heap.objs.size<|.tup [x,y]) c:=λc J=>KA (i c J)<|np c J;have I2:=(I.laid (t':=s.toks) (λb o e=>SG _ e) (SN _)<|show n5 X.prog X.w _ _ _ (.tup [x,y])from⟨(show 2<=eK by decide),[u1,u2],.cons bb<|.cons be .nil,ub.new _ _⟩).um (h':=h') (t':=s.toks) (fp:=[z,TI,TO,i1,i2]) (λc o J q=>by
   by_cases e:c=s.heap.objs.size
   ·rw[e]at q ⊢
    rw[SV _ rfl]at q;lia
   ·exact k c o J<|oM e q) an
  have ap:upd H s.heap.objs.size (.tup [x,y]) S=bB (.lst vs):=by rw[zE (Tq u)];exact N
  refine dt λkZ=>?_;obtain⟨zz,d,c0,rl,ll,C⟩:=I2.vl ap;refine kZ ?_;show wpAny _ A.in1 (O4 S (·.push (.ref s.heap.objs.size)) >>= _) _ _ _;refine SE ?_;refine Sj C rfl (SM ⟨plainId_quiet F.plain_extend_loop _,?_⟩) (by rw[SW];lia) (by show(d.toArray.push _).size<=eK+1;rw[Array.size_push,SW];lia);have nS:∀c ∈ [z,TI,TO,i1,i2],c≠S:=λc J q=>by have:=(i c J).1;lia
  have O:ft j (upd j s.heap.objs.size<|.tup [x,y]):=jj (jd E.sub am) _;refine ih (n+1) _ _ _ (M++[.tup [ds[n],es[n]]]) (vs++[.ref s.heap.objs.size]) ⋯ (I2.B3 (t':=s.toks) (f:=(·.push (.ref s.heap.objs.size))) (its':=d++[.ref s.heap.objs.size]) (ys:=vs++[.ref s.heap.objs.size]) ap C ⋯ (rl.append<|.cons (show L2.RelV (.ref s.heap.objs.size) (.ref s.heap.objs.size)from rfl) .nil)<|by rw[Tt,UP];lia) (AS E hS Y am u) (by rw[zE (Tq u)];exact Y) (wU O g) (wU O h) (l.mono O) (p.mono O) ((ra.mono O).append (.cons (ot (rx.mono O) (ry.mono O) zC) .nil)) (λc J=>KA (an c J)<|nS c J) ?_ zC (by rw[Tt,UP];lia) λs' H' L U I4 E4 y1 y2 y3=>hR s' H' L U I4 E4 y1 y2 ?_
  ·refine Z'.keep (λc J o q=>(Tu _ _<|Tq<|nS c J).trans q) λc o q=>?_
   by_cases e:c=S
   ·exact⟨_,by rw[e];exact UR _ C rfl⟩
   ·exact⟨o,(Tu _ _<|Tq e).trans q⟩
  ·have B:(ZA ds es).drop n=.tup [ds[n],es[n]]::(ZA ds es).drop (n+1):=by
    rw[UN (by unfold ZA;simpa using al)];congr 1;simp[ZA]
   rw[B];rw[R_]at y3;exact y3
theorem il:FT (.type "zip") "__len__" = pure cI:=by rw[Sz,Rp];kernel_rfl
theorem bM:FT (.type "zip") "__length_hint__" = pure cI:=by rw[Sz,Rp];kernel_rfl
theorem mz{Q:EQ}{L H:Hp}{s:ea}(I:Inv X pins σ H s)(hh:X.A.handled=cI)(E:Ext I0 Hb L H)(DA:uY z TI TO i1 i2 a b)
 (h1:i4 k1 X.K L a xs) (h2:i4 k2 X.K L b ys) (r1:dr X.K L ds xs) (r2:dr X.K L es ys) (Z:uX k1 k2 z TI TO i1 i2 a b 0 s.heap) (hz:uS s.heap z TI TO .none) (hf:∀c ∈ [z,TI,TO,i1,i2],Jt X pins H c) (hl:(ds.zip es).length<=eK)
 (hQ:∀s' M j S U,Hb S=cI->Inv X pins σ M s'->Ext I0 Hb j M->j S=cI->M S=bB (.lst U)->dr X.K j (ZA ds es) U->Q (.ref S) s'):wpAny (d8 X.prog X.w) X.A (call (.type "list") [.ref z]) Q X.xe s:=by
 have Y:=I.fresh;have t:=xj E.s1 Y;refine callType_codes (Q₁:=λobj g=>obj=.ref s.heap.objs.size/\g = {s with heap:=s.heap.push {cls:=.type "list",data:=.seq #[]}}) F.called_list (F.typeCall_list_1 _) F.entry_list_init (code_list_new _ ⟨rfl,rfl⟩) ?_;rintro obj g ⟨rfl,rfl⟩;have O:(s.heap.push {cls:=.type "list",data:=.seq #[]}).get? s.heap.objs.size=bB {cls:=.type "list",data:=.seq #[]}:=SV _ rfl;have nd:∀c ∈ [z,TI,TO,i1,i2],c≠s.heap.objs.size:=λc J q=>by
  obtain⟨P,B,⟨R,W,as⟩,g1,g2⟩:=Z;obtain⟨o1,l,_⟩:=g1.obj;obtain⟨o2,m,_⟩:=g2.obj;simp only[SS,Th,or_false]at J;rcases J with rfl|rfl|rfl|rfl|rfl
  ·exact absurd q<|Tc<|SY hz
  ·exact absurd q<|Tc<|SY B
  ·exact absurd q<|Tc<|SY as
  ·exact absurd q<|Tc<|SY l
  ·exact absurd q<|Tc<|SY m
 refine⟨⟨_,O,rfl⟩,F.args_list_init_2 _ _,?_⟩;refine SE ?_;unfold Builtin.List.listItems;refine SE (UM O rfl (SM ?_));show wpAny _ _ (O4 s.heap.objs.size (λ_=>#[]) >>= λ_=>letGo (#[]).toList.reverse >>= λ_=>Builtin.List.listExtendWith (.ref s.heap.objs.size) (.ref z) .none) _ _ _;refine SE (Sj O rfl ?_);have n:=(I.E5 (t':=s.toks) .nil (Uc _)).B3 (t':=s.toks) (f:=λ_=>#[]) (its:=[]) (its':=[]) (xs:=[]) (ys:=[]) zC O rfl .nil (Uc _);rw[Zm]at n;have h:=UR (Ua (λ_=>(#[]:Array dn))) O rfl;refine SE (IJ ?_);unfold Builtin.List.listExtendWith;have i c o:c≠s.heap.objs.size->s.heap.get? c=bB o->((s.heap.push {cls:=.type "list",data:=.seq #[]}).update s.heap.objs.size (Ua (λ_=>(#[]:Array dn)))).get? c=bB o:=λJ q=>(Tu _ _ (Tq J)).trans (SG _ q);have d:=i z _ (nd z ⋯) hz;refine SE (DI (T:="zip") ⟨_,d,rfl⟩ ?_);have l:Builtin.List.listSameRef (.ref s.heap.objs.size) (.ref z)=cT:=by have:=nd z ⋯;simp[Builtin.List.listSameRef,Tq this]
 have m:(wy "zip" == wy "list")=cT:=by decide
 have C:(wy "zip" == wy "tuple")=cT:=by decide
 simp only[l,m,C,Bool.or_false,UC,if_false];refine SE (_m d ?_);refine SE (tx ?_);unfold Builtin.List.listLengthHint;refine SE (wpAny_specialOf (T:="zip") ⟨_,d,rfl⟩ il ?_);show wpAny _ _ (specialOf (w8 z) (Ts "__length_hint__") >>= _) _ _ _;refine SE (wpAny_specialOf (T:="zip") ⟨_,d,rfl⟩ bM ?_);refine SM ?_;show wpAny _ _ (rule "list.extend.makes-room" >>= λ_=>Builtin.List.listTouch (.ref s.heap.objs.size) >>= λ_=>
  again (.builtin "list.extend.loop" ⟨[.ref s.heap.objs.size,.ref z,.none],[]⟩)) _ _ _
 refine SE<|z4 ?_;refine SE ?_;show wpAny _ _ (O4 s.heap.objs.size (·.push .none) >>= λ_=>O4 s.heap.objs.size (·.pop)) _ _ _;refine SE<|Sj h rfl ?_;have k:=UR (Ua (·.push Uq)) h rfl;have p:=n.B3 (t':=s.toks) (f:=(·.push Uq)) (its:=[]) (its':=[.none]) (xs:=[]) (ys:=[.d9]) zC h rfl (.cons (show L2.RelV .d9 .none from rfl) .nil) ⋯;rw[Zm]at p;refine Sj (hz:=by seq_fits) k rfl ?_;have r:=p.B3 (t':=s.toks) (f:=(·.pop)) (its:=[.none]) (its':=[]) (xs:=[.d9]) (ys:=[]) zC k rfl .nil ⋯;rw[Zm]at r;refine SM ⟨plainId_quiet F.plain_extend_loop _,?_⟩;refine pW (A:=X.A.in1) (ds:=ds) (es:=es) (xs:=xs) (ys:=ys) (k1:=k1) (k2:=k2) (show X.A.in1.handled=cI from hh) DA t (ds.zip es).length 0 _ (upd H s.heap.objs.size<|.lst []) L [] [] (zp _) r (E.trans<|Ext.hide E.sub Y _) (jd E.sub Y) h1 h2 r1 r2 .nil (λc J=>KA (hf c J)<|nd c J) ?_ zC (by simpa using hl) λs' M j U y x G N u=>?_
 ·refine Z.keep (λc J o q=>(Tu _ _<|Tq<|nd c J).trans ((Tu _ _<|Tq<|nd c J).trans (i c o (nd c J) q))) λc o q=>?_
  ·by_cases e:c=s.heap.objs.size
   ·exact⟨_,by rw[e];exact(UR (Ua (·.pop)) k rfl)⟩
   ·exact⟨o,(Tu _ _<|Tq e).trans ((Tu _ _<|Tq e).trans (i c o e q))⟩
 ·rw[F0,List.drop_zero]at u
  exact⟨rfl,hQ s' M j _ U t y x G N u⟩
end
section
variable{X:Cx}{sc:f6}{N L:List Str}{k:Nat}{a b:dv}{f g:CO D}{p p2 pos OQ:eU}
theorem zdS(h:SX X sc N L k)(M:k9 sc "list" = cm)(zd:X.mg "list" = cI)(cz:k9 sc "zip" = cm)(zz:X.mg "zip" = cI)(ha:PV X a f)(hb:PV X b g)
 (hs:eA [.Call (.Name "zip" p2) [a,b] [] OQ] X.env=[(cT,dy (.Call (.Name "zip" p2) [a,b] [] OQ) X.env)]:=by rfl)
 (j:eA [a,b] X.env=[(cT,dy a X.env),(cT,dy b X.env)]:=by rfl) (U:eA [b] X.env=[(cT,dy b X.env)]:=by rfl):
 PO X (.Call (.Name "list" p) [.Call (.Name "zip" p2) [a,b] [] OQ] [] pos) (nW f g):=by
 intro m s σ H Q I hZ;refine dt λY=>?_;obtain⟨u,o,d,n,J,q⟩:=hZ;obtain⟨⟨k1,K⟩,B,J⟩:=za J;obtain⟨G,P,T⟩:=za B;obtain⟨⟨k2,es⟩,C,J⟩:=za J;obtain⟨F,R,W⟩:=za C;refine Y ?_;dsimp only at J;by_cases l:K.length<=lim
 ·rw[DJ l]at J
  cases J;refine C6<|xU I (h.gl M).1 zd K' (TM ?_ (by rfl) rfl) ⋯ ⋯;rw[hs];show wpAny _ _ (OU (_::[])) _ _ s;refine UI<|AU (xs:=[]) (ys:=[]) I (h.gl cz).1 zz (z9 ha (z9 hb jM U)<|by rw[j,U]) ?_ j U;refine⟨u,o,G,n,P,λv i e x r=>⟨e,o,F,n.ext x,R,λv2 H2 bd O r2=>?_⟩⟩;refine dt λY=>?_;obtain⟨y,xs,rfl,g1,g2⟩:=Vi (r.mono O.s0) T;obtain⟨A,ys,rfl,g3,g4⟩:=Vi r2 W;refine Y ?_;refine⟨k1,k2,y,A,rfl,⟨xs,wU O.sub g1⟩,⟨ys,wU O.sub g3⟩,λs2 z TI TO i1 i2 w t Z hz hf=>F7 ?_⟩;refine mz w (I.ok.hd h.calm) (x.trans O) t g1 g3 g2 g4 Z hz hf ?_ λs' i e S E y0 y1 y2 y3 y4 y5=>⟨.ref S,i,y1,rfl,q S E i e y2 y0 y3 y4 y5⟩
  ·have:lim<=eK:=by decide
   grind
 ·rw[DY l]at J;cases J
end
theorem az:FT (.type "list") "keys" = pure cI:=by rw[Sz,Rp];kernel_rfl
theorem Ym:entryFor table "list.__getattribute__" = bB pa.«object.__getattribute__» :=
 entryFor_alias (id':="object.__getattribute__") (by kernel_rfl) (by rfl) ⋯ (by kernel_rfl)
section
variable{prog:gg}{w:fA}{A:kb}{E:EQ}{h:eL}{g:Array GenState}{d:Drawn}{t:Nat}{os:OsState}{a:dj}
theorem Kn(U:h.get? a=bB ⟨.type "list",cI,.seq vs nk,sl⟩)(Y:A.handled=cI)
 (Z:∀h' e t',(∀b u,h.get? b=bB u->h'.get? b=bB u)->(∃J,h'.get? e=bB J/\J.cls=.type "AttributeError")->E (.ref e) ⟨h',g,d,t',os⟩):
 wpAny (d8 prog w) A (pa.«object.__getattribute__» ⟨[.ref a,.str "keys" tk],[]⟩) Q E ⟨h,g,d,t,os⟩:=by
 have n:(⟨h,g,d,t,os⟩:ea).TypeIs (.ref a) "list":=⟨_,U,rfl⟩;have k:=az
 repeat (any_goals (first|assumption|wp_step))
 unfold raiseAttrError;have i:((Ts (toString "'" ++ toString ((Manifest.find? "list").elim "list" λx=>x.tpName)++toString "' object has no attribute '")++Ts "keys" ++ Ts "'"):Str).length<=eK:=by decide +kernel
 generalize (Ts (toString "'" ++ toString ((Manifest.find? "list").elim "list" λx=>x.tpName)++toString "' object has no attribute '")++Ts "keys" ++ Ts "'")=I at i ⊢;refine SE (wpAny_mkStr ?_);refine SE ?_;unfold newExc newTuple;refine SE (UB ?_ (by size_fits));refine SE (m:=firstArgMember _ _) (wpAny_of_eq (a:=Uq) (by rfl) ?_);refine UB ?_ (by size_fits);simp only[TH];have f:((h.push {cls:=.type "tuple",data:=.seq #[.str I t]}).push {cls:=.type "AttributeError",data:=.fields (#[.ref h.objs.size,.none,.none,.none,.bool cT,.none]++OP (.type "AttributeError") [.str I t])}).get? (h.objs.size+1) =
  bB {cls:=.type "AttributeError",data:=.fields (#[.ref h.objs.size,.none,.none,.none,.bool cT,.none]++OP (.type "AttributeError") [.str I t])}:=by heap_get
 have O b u:h.get? b=bB u->((h.push {cls:=.type "tuple",data:=.seq #[.str I t]}).push {cls:=.type "AttributeError",data:=.fields (#[.ref h.objs.size,.none,.none,.none,.bool cT,.none]++OP (.type "AttributeError") [.str I t])}).get? b=bB u:=λe=>SG _ (SG _ e);generalize ((h.push {cls:=.type "tuple",data:=.seq #[.str I t]}).push {cls:=.type "AttributeError",data:=.fields (#[.ref h.objs.size,.none,.none,.none,.bool cT,.none]++OP (.type "AttributeError") [.str I t])})=h2 at f O ⊢;refine SE (wpAny_mkText ?_);unfold noteAttr lacksNameAndObj;have j:(⟨h2,g,d,t+1+1,os⟩:ea).TypeIs (.ref (h.objs.size+1)) "AttributeError":=⟨_,f,rfl⟩;have l:isSubtype (.type "AttributeError") (.type "AttributeError")=pure cm:=by rfl
 repeat (any_goals (first|assumption|with_reducible refine wpAny_loadPart_at f ?_|with_reducible refine wpAny_load f ?_|wp_step))
 refine wpAny_raiseNew_none Y<|Z _ _ _ (λb u e=>?_) ⟨_,UR _ f<|Obj.isFreed_of_fields<|Z_ rfl _,Obj.cls_mapFields ..⟩;rw[Tu _ _ (λq=>by rw[<-q]at e;rw[(Heap.get?_none_of_le<|Df _)]at e;cases e)];exact O b u e
theorem Yi(I:h.get? a=bB ⟨.type "list",cI,.seq vs nk,sl⟩)(O:A.handled=cI)
 (Q:∀h' e t',(∀b u,h.get? b=bB u->h'.get? b=bB u)->(∃J,h'.get? e=bB J/\J.cls=.type "AttributeError")->R (.error (.ref e)) ⟨h',g,d,t',os⟩):
 codeAny (d8 prog w) A (.call (.builtin "list.__getattribute__") ⟨[.ref a,.str "keys" tk],[]⟩) R ⟨h,g,d,t,os⟩:=
 codeAny_call_builtin PX.plain Ym (PX.check _ _ _ _ _ _ _ _ (⟨_,I,rfl⟩) (F.args_list_getattribute_2 _ _)<|Kn I O Q)
theorem lO:FT (.type "list") "__getattr__" = pure cI:=by rw[Sz,Rp];kernel_rfl
theorem pX(I:h.get? a=bB ⟨.type "list",cI,.seq vs nk,sl⟩)(J:A.handled=cI)
 (O:∀h' t',(∀b u,h.get? b=bB u->h'.get? b=bB u)->Q cI ⟨h',g,d,t',os⟩):wpAny (d8 prog w) A (getAttr? (.ref a) "keys") Q E ⟨h,g,d,t,os⟩:=by
 have f2:=PX.lookup;have k:=PX.bind (.ref a);have l:=lO;have m:isSubtype (.type "AttributeError") (.type "AttributeError")=pure cm:=by rfl
 unfold getAttr? getAttrBy? getAttrBy
 repeat (any_goals (first|assumption|wp_step))
 refine Yi I J λh' e t' U f=>?_;obtain⟨Y,f,Z⟩:=f;have i:(⟨h',g,d,t',os⟩:ea).TypeIs (.ref e) "AttributeError":=⟨Y,f,Z⟩;have j:=O h' t' U;show wpAny _ _ (E? _ _ _ _ _ _ _) _ _ _;unfold E? hookOrError attributeErrorLeaves
 repeat (any_goals (first|assumption|wp_step))
end
noncomputable def J1:List D->Option (List D×List D)
 |[]=>bB ([],[])
 | d::r=>match d with
  |.tup a=>match a with
   |[k,v]=>(J1 r).map λp=>(k::p.1,v::p.2)
   |_=>cI
  |_=>cI
noncomputable def BC(f:CO (List D))(γ:Ctx):Option D:=(f γ).bind λa=>(J1 a).bind λp=>AZ p.1 p.2
@[simp] noncomputable def zfv:=@BC.eq_1
noncomputable def Mv(e j:CO D):CO D:=λa=>(e a).bind λd=>(j a).bind λk=>match d with
 |.lp b f=>(l7 k).bind λi=>gN b f i
 |_=>cI
noncomputable def Hz(j e:CO D):CO D:=λa=>(j a).bind λk=>(e a).bind λd=>match d with
 |.lp b f=>(l7 k).map λi=>.bl (gN b f i).isSome
 |_=>cI
section
variable{X:Cx}{pins:TW}{σ:St}{A:kb}{R:Result->ea->Prop}{H0:Hp}{l it d:dj}{ks:List Key}{ys xs:List V}
theorem mw(hh:A.handled=cI)(hx:xs.length=ks.length)(hy:ys.length=ks.length)(hp:∀n h1 (h2:n<ks.length) (h3:n<ys.length),∃p,xs[n]=.ref p/\hH X.K H0 p [kV ks[n],ys[n]])(bg:H0 d=cI)(S:l≠d):∀m n s H j i t,n+m=ks.length->
 Inv X pins σ H s->ft H0 H->H l=bB (.lst xs)->s.heap.IsListIter it l n->Jt X pins H it->H d=bB (.dK j)->j.length+m<=eK->
 (∀z,Inv X pins σ (upd H d<|.dK<|uD j<|(ks.zip ys).drop n) z->R (.ok<|.ret .none) z)->
 codeAny (d8 X.prog X.w) A (.builtin "dict.update.loop" ⟨[.ref d,.ref it,.int i t,.none],[]⟩) R s:=by
 intro m
 induction m with
 | zero=>
  intro n s H j i t hn I sub Q st O f hz U;obtain⟨z1,g,c,L,ll,Y⟩:=I.vl Q;refine S2 v7 ?_;refine SE<|wpAny_pyNext_list_end hh st ⟨_,Y,rfl,_,rfl⟩ (by simp;lia) λh' eb=>?_;refine SE<|SM ?_;have e0:upd H d (.dK<|uD j<|(ks.zip ys).drop n)=H:=by
   rw[MM (by grind)];funext c;by_cases q:c=d
   ·rw[q,zC,f];rfl
   ·rw[zE q]
  rw[e0]at U;exact SM (U _<|I.um (fp:=[it]) (λb o J e=>eb b o (by simpa using J) e)<|λb J=>by rw[Uu.mp J];exact O)
 | succ m ih=>
  intro n s H j i t hn I sub Q st O f hz U;obtain⟨z1,g,c,L,ll,Y⟩:=I.vl Q;have P:n<ks.length:=by grind
  obtain⟨p,ep,T⟩:=hp n ⋯ P ⋯;obtain⟨u,hu,G⟩:=L.get (SH<|show n<xs.length by lia);rw[ep]at G;subst G;refine S2 v7 ?_;refine SE<|wpAny_pyNext_list_item (s:=s) st ⟨_,Y,rfl,_,rfl⟩ (x:=.ref p) (by simpa using hu) λh' as sb=>?_;have Z:=I.um (h':=h') (t':=s.toks) (fp:=[it]) (λb o J e=>(sb.2 b<|by simpa using J).trans e) (λb J=>by rw[Uu.mp J];exact O);refine dt λh=>?_;obtain⟨ts,rt,⟨o,C,co,nn,W⟩,zgI⟩:=Z.tuple<|md sub T;obtain⟨a,r,rfl,b0,k⟩:∃a r,ts=a::r/\RelV (kV ks[n]) a/\ez [ys[n]] r:=by
   cases rt with
   |cons q1 k=>exact⟨_,_,rfl,q1,k⟩
  obtain⟨M,rfl,b2⟩:=kF k;refine h ?_;refine SE<|tx<|SE<|wpAny_tryCatch ?_;unfold Builtin.Dict.pairItems;refine SE<|DI ⟨_,C,co⟩ ?_;rw[DJ ⋯];refine SE<|UM C W<|SM ?_;show wpAny _ _ (rn [a,M] (dictSet d a M)) _ _ _;refine dt λh=>?_;obtain⟨zz,b4,vs,y,dd⟩:=Ow Z.eI f;refine h ?_;have b6:(mO j ks[n] ys[n]).length<=eK:=by have:=Kp j ks[n] ys[n];lia
  refine tx<|wpAny_dictSet_pairs (hsz:=(by rw[<-y.length];exact zz)) (AC b0) dd λbl B E=>?_;have F:it≠d:=λq=>by have:=O.1;lia
  refine SM ⟨vK _,ih (n+1) _ _ (mO j ks[n] ys[n]) (i+1) 0 ⋯ (FL (t':=s.toks+1) Z (by rw[f];exact tI) E (let ⟨q,_,_,hq,_⟩:=B;⟨q,hq⟩)<|Lx b6 b4 (y.put ks[n] b2) B) (λc o e=>?_) (by rw[zE S];exact Q) (as.at λo q=>(E.2 it F).trans q) ⟨by rw[zE F];exact O.1,O.2⟩ zC (by have:=Kp j ks[n] ys[n];lia) λz N=>U z ?_⟩
  ·rw[zE (λq=>by lia)];exact sub _ _ e
  ·have e1:(ks.zip ys).drop n=(ks[n],ys[n])::(ks.zip ys).drop (n+1):=by
    rw[UN (by simp;lia)];simp
   have e2:upd (upd H d<|.dK<|mO j ks[n] ys[n]) d (.dK<|uD (mO j ks[n] ys[n])<|(ks.zip ys).drop (n+1))=upd H d (.dK<|uD j<|(ks.zip ys).drop n):=by
    funext c;by_cases q:c=d
    ·simp only[q,zC,zC,e1];rfl
    ·simp only[zE q,zE q,zE q]
   rw[<-e2];exact N
theorem mB(I:Inv X pins σ H s)(Y:X.A.handled=cI)(sub:ft H0 H)(Z:H l=bB (.lst xs))(L:xs.length=ks.length)(M:ys.length=ks.length)
 (E:∀n S (h2:n<ks.length) (h3:n<ys.length),∃p,xs[n]=.ref p/\hH X.K H0 p [kV ks[n],ys[n]]) (hz:ks.length<=eK)
 (z:∀j p,H p=cI->Inv X pins σ (upd H p (.dK (uD [] (ks.zip ys)))) j->Q (.ref p) j):wpAny (d8 X.prog X.w) X.A (call (.type "dict") [.ref l]) Q X.xe s:=by
 have J:=I.fresh;have f:l≠s.heap.objs.size:=λq=>by lia
 refine callType_codes (Q₁:=λobj a=>obj=_/\a=_) F.kt_called_dict (F.kt_typeCall_dict_1 _) F.entry_dict_init (kt_code_dict_new _ ⟨rfl,rfl⟩) ?_;rintro obj a ⟨rfl,rfl⟩;have g:({s with heap:=s.heap.push {cls:=.type "dict",data:=.dict #[]}}).TypeIs (.ref _) "dict":=⟨_,SV _ rfl,rfl⟩;refine dt λm=>?_;obtain⟨u,i,c,t,r,h⟩:=I.vl Z;refine m ?_;have O:(s.heap.push {cls:=.type "dict",data:=.dict #[]}).get? l=_:=SG _ h;refine⟨g,F.args_dict_init_2 _ _,?_⟩;refine SE ?_;unfold Builtin.Dict.selfAndRest;refine SE (wpAny_notOrdered_dict g ?_);refine SM ?_;show wpAny _ _ (Builtin.Dict.updateFrom "dict.__init__" _ (.ref l) [] .none) _ _ _;unfold Builtin.Dict.updateFrom;refine SE (DI ⟨_,O,rfl⟩ ?_);rw[DJ ⋯];refine SE (pX O Y λh' t' k=>?_);have U:Inv X pins σ _ {s with heap:=h',toks:=t'}:=(I.laid (t':=s.toks) (λ_ _ q=>SG _ q) (SN _) (AX s.heap I.big)).kept k;refine SE (z4 (SE (_j ⟨_,k _ _ O,rfl,_,rfl⟩ ?_)));refine SM ⟨vK _,?_⟩;refine mw (show X.A.in1.handled=cI from Y) L M E (jd sub J) f ks.length 0 _ _ [] 0 0 (zp _) (U.kept (h':=h'.push {cls:=.type "list_iterator",data:=.fields #[.ref l,.int 0 0]}) (t':=t') λb o e=>SG _ e) (sub.trans (jj J _)) (by rw[zE f];exact Z) ⟨_,SV _ rfl,rfl,rfl⟩ (U.ug (SN _) U.fresh) zC (by simpa using hz) λj d=>?_;rw[Zm,List.drop_zero]at d;exact⟨rfl,z j _ J d⟩
end
theorem Wv:∀{ps e vs:List D},J1 ps=bB (e,vs)->e.length=ps.length/\vs.length=ps.length
 |[],e,vs,h=>by cases h;exact⟨rfl,rfl⟩
 | d::r,e,vs,h=>by
  unfold J1 at h;split at h
  ·split at h
   ·obtain⟨⟨a,b⟩,f,I⟩:=zq h
    cases I;obtain⟨g,i⟩:=Wv f;exact⟨by simp[g],by simp[i]⟩
   lia
  lia
theorem Yq{K:SD}{H:Hp}:∀{ps E vs:List D} {xs:List V} {e:List Int},J1 ps=bB (E,vs)->dr K H ps xs->VR E=bB e->
 ∃ys,dr K H vs ys/\ys.length=e.length/\xs.length=e.length/\∀n z (J:n<e.length) (I:n<ys.length),∃p,xs[n]=.ref p/\hH K H p [.int e[n],ys[n]]
 |[],E,vs,xs,e,h,r,hi=>by cases h;cases hi;rw[r.ro];exact⟨[],dr.nil,rfl,rfl,λn z=>by cases z⟩
 | d::ps,E,vs,xs,e,h,r,hi=>by
  unfold J1 at h;split at h
  ·split at h
   ·rename_i k v
    obtain⟨⟨a,b⟩,f,O⟩:=zq h;cases O;obtain⟨x,B,rfl,z,J⟩:=r.n6;cases k with
    |int j=>
     refine dt λQ=>?_;obtain⟨A,U,Y⟩:=zq hi;subst Y;obtain⟨ys,s,t,Z,u⟩:=Yq f J U;obtain⟨q,G,rfl,I,g⟩:=yv z;obtain⟨C,F,rfl,i,l⟩:=g.n6;obtain⟨w,y,rfl,m,o⟩:=l.n6;refine Q ?_;rw[o.ro,jv i]at I;refine⟨w::ys,dr.cons m s,by simp[t],by simp[Z],λn g1 g2 g3=>?_⟩;cases n with
     |zero=>exact⟨q,rfl,I⟩
     |succ n=>exact u n (by simpa using g1) (by simpa using g2) (by simpa using g3)
    |_=>cases hi
   lia
  ·cases h
section
variable{X:Cx}{sc:f6}{N L:List Str}{k:Nat}{a o i:dv}{f:CO (List D)}{fd fk:CO D}{p pos:eU}
theorem zdI(h:SX X sc N L k)(M:k9 sc "dict" = cm)(zd:X.mg "dict" = cI)(ha:PO X a f)(hs:eA [a] X.env=[(cT,dy a X.env)]:=by rfl):
 PV X (.Call (.Name "dict" p) [a] [] pos) (BC f):=by
 intro i s σ H Q I Z;refine dt λu=>?_;obtain⟨x,γ,d,C,J,q⟩:=Z;obtain⟨B,G,J⟩:=za J;obtain⟨⟨e,P⟩,z,J⟩:=za J;refine u ?_;unfold AZ at J;cases hi:VR e with
 |none=>simp only[show _=e from rfl,hi]at J;cases J
 | some g=>
  rw[show _=e from rfl,hi]at J;dsimp only at J;by_cases r:e.length=P.length/\g.Nodup/\e.length<=lim
  ·rw[DJ r]at J
   cases J;refine A1<|xU I (h.gl M).1 zd PyProof.Rows.boot_dict (TM ?_ (by rw[hs];rfl) rfl);rw[hs];show wpAny _ _ (OU (_::[])) _ _ s;refine UI<|ed (ha i s σ H (λv m=>∃l j O,v=.ref l/\Ext x H O m/\O l=cI/\m l=bB (.lst j)/\dr X.K O B j) I ⟨x,γ,B,C,G,λl j m O b g1 g2 g3 Y=>⟨l,j,O,rfl,b,g2,g3,Y⟩⟩) λv s1 Z=>?_;refine dt λu=>?_;obtain⟨y,m,E,ry,l,j,O,rfl,b,g2,g3,Y⟩:=Z;refine u ?_;cases ry;refine F7 ?_;obtain⟨w,W,r2,r3,r4⟩:=Yq z Y hi;have A:(g.map<|o8 (β:=Str)).length=g.length:=by simp
   have nl:g.length=e.length:=by have:=(Wv z).1;have:=Y.length;lia
   refine mB E (I.ok.hd h.calm) b.sub g3 (by rw[A];exact r3) (by rw[A];exact r2) (λn R S T=>?_) ?_ λs' p o U=>?_
   ·obtain⟨t,t1,t2⟩:=r4 n R (by simpa using S) T
    refine⟨t,t1,?_⟩;simpa[kV]using t2
   ·have:lim<=eK:=by decide
    lia
   ·have F:uD [] ((g.map o8).zip w)=(g.map o8).zip w:=by
     rw[YD _ []]
     ·simp
     ·rw[F0,List.map_fst_zip ⋯]
      exact pH r.2.1
    rw[F]at U;obtain⟨of,U⟩:=Inv.D? U zC;rw[Zm]at U;exact⟨.ref p,_,U,rfl,q (.ref p) _ _ ((b.trans<|Ext.hide b.sub o _).show (xj b.s1 o) (jd b.sub o) zC C.sub)
     (⟨p,w,rfl,⟨_,YR hi,⋯,of,zC⟩,W.mono<|jj (jd b.sub o) _⟩)⟩
  ·rw[DY r]at J;cases J
theorem HR(h:SX X sc N L k)(U:PV X o fd)(E:PV X i fk)(hs:Nr i:=by intro _ _;rfl):PV X (.Subscript o i pos) (Mv fd fk):=
 jK (EN (by have:=h.C3;lia) U E hs) λP H Q Y=>by
  obtain⟨f,e,d,b,I,q⟩:=Y;obtain⟨Z,s,I⟩:=za I;obtain⟨C,t,I⟩:=za I;cases Z with
  |lp G K=>
   obtain⟨j,u,w⟩:=za I;refine⟨f,e,_,b,s,λv B l x r=>⟨l,e,_,b.ext x,t,λy g m J a=>?_⟩⟩;obtain⟨ad,M,rfl,⟨F,g1,g2,A,g3⟩,z⟩:=(r);rw[jD u]at a;obtain⟨O,n,p⟩:=(VT g1 g2<|z.mono J.s0).1 d w;refine⟨ad,O,rfl,?_,q O g m (x.trans J) p⟩;rw[a,<-n];exact .inl ⟨_,o8 j,.inr ⟨A,J.s1 _ _<|x.sub _ _ g3⟩,rfl,rfl⟩
  |_=>cases I
theorem Ez(h:SX X sc N L k)(M:PV X i fk)(ho:PV X o fd)(S:pk .In o=cT:=by with_unfolding_all rfl):k4 X (.Compare i [.In] [o] pos) (sB<|Hz fk fd):=
 X6 (HX (Iz (by have:=h.C3;lia) M ho) S) λσ H Q F=>by
  obtain⟨g,f,b,e,I,q⟩:=F;obtain⟨db,u,C⟩:=za I;obtain⟨k1,w,I⟩:=za u;obtain⟨s,z,I⟩:=za I;cases s with
  | lp K P=>
   obtain⟨j,A,B⟩:=zq I;subst B;cases C;refine⟨g,f,_,e,w,λy T l x O=>⟨l,f,_,e.ext x,z,λv a U J r=>?_⟩⟩;refine dt λG=>?_;obtain⟨ad,xs,rfl,⟨kk,g1,g2,Y,Z⟩,E⟩:=(r);refine G ?_;rw[jD A]at O;have d:=O;obtain⟨m,n⟩:=VT g1 g2 E;cases hv:gN K P j with
   | none=>
    refine⟨ad,cI,rfl,?_,_,rfl,?_⟩
    ·rw[d,<-n hv]
     exact .inl ⟨_,o8 j,.inr ⟨Y,J.sub _ _ Z⟩,rfl,rfl⟩
    ·rw[hv]at q;exact q a U<|x.trans J
   | some t=>
    obtain⟨R,p,W⟩:=m t hv;refine⟨ad,bB R,rfl,?_,_,rfl,?_⟩
    ·rw[d,<-p]
     exact .inl ⟨_,o8 j,.inr ⟨Y,J.sub _ _ Z⟩,rfl,rfl⟩
    ·rw[hv]at q;exact q a U<|x.trans J
  |_=>cases I
end
noncomputable def PK:List (List Int)->List Int->List Int->Option Int
 |k::ks,n::ns,i=>if k=i then bB n else PK ks ns i
 |_,_,_=>cI
noncomputable def eqT(e:List (List Int))(j:List Int)(I:List (List Int))(J:List Int):Bool:=decide (e.length=I.length)&&(e.zip j).all λx=>decide<|PK I J x.1=bB x.2
noncomputable def PR(d e:D):Option Bool:=match d with
 |.mr a f=>match e with
  |.mr I J=>(VR f).bind λb=>(VR J).map λO=>eqT a b I O
  |_=>cI
 |_=>cI
@[simp] noncomputable def zgp(d e:D):Option D:=(PR d e).map D.bl
@[simp] noncomputable def zgo(d e:D):Option D:=(PR d e).map λb=>D.bl<|!b
noncomputable def kP:Cell->Bool
 |.nest _=>cm
 |_=>cT
noncomputable def iE(i:Nat):Tg->Bool
 |.nm j=>decide<|j≠i
 |.tp I=>decide<|i∉I
theorem pJ{γ:Ctx}(h:γ.any kP=cT):∀(i:Nat) j,γ[i]? ≠ bB (.nest j):=λi j e=>by exact(F9.mp h _<|TN e) rfl
theorem fC{γ:Ctx}(h:γ.any kP=cT)(j:Nat)(d:D):(γ.set j<|.val d).any kP=cT:=by
 refine F9.mpr λc I z=>?_;rcases List.mem_or_eq_of_mem_set I with I|I
 ·exact F9.mp h c I z
 ·rw[I]at z;cases z
theorem XI:∀is ds {γ:Ctx},γ.any kP=cT->(q9 is ds γ).any kP=cT
 |[],ds,γ,h=>by assumption
 |i::is,[],γ,h=>h
 |i::is,d::ds,γ,h=>XI is ds<|fC h i d
theorem bj{T:Tg}{d:D}{γ γ1:Ctx}(e:qx T d γ=bB γ1)(h:γ.any kP=cT):γ1.any kP=cT:=by
 cases T with
 |nm j=>cases e;exact fC h j d
 | tp is=>
  cases d with
  |tup a=>
   simp only[qx]at e;split at e
   ·cases e;exact XI is a h
   lia
  |_=>simp[qx]at e
theorem Yw{i:Nat}:∀{is:List Nat} {vs:List V} {e:St},i∉is->(Yx is vs e)[i]? = e[i]?
 |[],vs,e,_=>by rfl
 |j::is,[],e,_=>rfl
 |j::is,v::vs,e,h=>by show(Yx is vs _)[i]? = _;rw[Yw (λz=>h<|SQ _ z),SK (λz=>h<|by rw[z];exact SO)]
theorem YX{K:SD}{z H:Hp}{T:Tg}{d:D}{v:V}{L:St}{γ γ1:Ctx}{i:Nat}{Q:St->Hp->Prop}(s:ft z H)(h:Rep K z d v)(e:qx T d γ=bB γ1)(O:iE i T=cm)
 (q:∀I,I[i]? = L[i]? ->(∀E0 E,RS K E0 E z H L γ->RS K E0 E z H I γ1)->Q I H):oT K T v L H Q:=by
 cases T with
 |nm j=>cases e;exact q _ (SK<|of_decide_eq_true O) λE0 E r=>r.t8 h
 | tp is=>
  cases d with
  | tup f=>
   simp only[qx]at e;by_cases J:f.length=is.length
   ·rw[DJ J]at e;cases e
    obtain⟨a,b,rfl,g,U⟩:=(h);have Y:b.length=is.length:=by rw[U.length,J]
    exact⟨a,b,rfl,md s g,Y,dD Y<|q _ (Yw<|of_decide_eq_true O) λE0 E r=>r.Dx U⟩
   ·rw[DY J]at e;cases e
  |_=>simp[qx]at e
abbrev TT:=List (List (List Int))
section
theorem IH{E H:Hp}{c:dj}(s:ft E H)(h:H c=cI):E c=cI:=by
 cases q:E c with
 |none=>rfl
 |some o=>rw[s c o q]at h;cases h
end
end DL
namespace DL
open PySem PySem.Spec PyProof.Rows L2
open PySem.W (KasT kas_sort kas_ask kat_run kat_snds kat_lt kat_cons kat_no kat_yes kat_nil kat_go kat_one kat_kind KatTups KatGo)
section
variable{prog:gg}{w:fA}{A:kb}{E:EQ}{s:ea}
theorem gF{a I:dj}{z:List dn}{J:List dn}{e j:Nat}{P:PySem.Fin->ea->Prop}{st:SortSt}(Q:s.heap.get? I=bB (hL "list" z.toArray e))(H:s.heap.get? a=bB (hL "list" #[] j))(U:I≠a)(M:z.length<=eK)(Y:J.length<=eK)
 (Z:(arrOf st).map (·.2)=J.toArray) (L:failedOf st=cI)
 (h:∀h' c,h'.objs.size=s.heap.objs.size->(∀b o,b≠a->b≠I->s.heap.get? b=bB o->h'.get? b=bB o)->h'.get? a=bB (hL "list" J.toArray c)->P (.done (.ret .none)) {s with heap:=h'}):
 wpAny (d8 prog w) A (ksk_tail a cT j (.ref I) st) P E s:=by
 unfold ksk_tail;refine SE (DH Q rfl ?_ (by assumption) (Uc _));refine SE (IJ ?_);have O:(s.heap.update I (Ua λ_=>(#[]))).get? a=_:=(Tu _ _ U).trans H;refine SE (M4 O rfl ?_);rw[Z];refine SE (DH O rfl ?_ (Uc _) (by rw[SW];exact P6 Y));rw[L];simp only[bne_self_eq_false,UC,if_false];obtain⟨c,g⟩:∃c,((s.heap.update I _).update a (Ua λ_=>J.toArray)).get? a=bB (hL "list" J.toArray c):=⟨_,S1 O _⟩;exact SM (h _ c (by simp_all) (λb o d f q=>(Tu _ _ (Tq d)).trans ((Tu _ _ (Tq f)).trans q)) g)
theorem Fj{a J:dj}{vs z:List dn}{ps:List (Int×Int)}{e H:Nat}{P:PySem.Fin->ea->Prop}(hk:s.heap.get? J=bB (hL "list" z.toArray e))(X:s.heap.get? a=bB (hL "list" #[] H))(M:J≠a)(S:z.length=vs.length)(Y:ps.length=vs.length)(ao:vs.length<64)
 (Z:∀i L,uV s.heap z[i] (ps.getD i (0,0)).1 (ps.getD i (0,0)).2)
 (h:∀h' c,h'.objs.size=s.heap.objs.size->(∀b o,b≠a->b≠J->s.heap.get? b=bB o->h'.get? b=bB o)->h'.get? a=bB (hL "list" (H8 ((qS ps).map λi=>vs.getD i Uq)) c)->P (.done (.ret .none)) {s with heap:=h'}):
 wpAny (d8 prog w) A (ksk_end a cT vs.toArray H (.ref J) z.toArray) P E s:=by
 have hz:vs.length<=eK:=by rw[wo];lia
 have hsz:vs.toArray.size=vs.length:=by simp
 have bf:((qS ps).map λi=>vs.getD i Uq).length=vs.length:=by rw[Ta,(jN ps).length_eq,Ut,Y]
 unfold ksk_end
 try dsimp only
 refine(λt ht=>ht) _ ?_;by_cases O:vs.toArray.size<2
 ·rw[DJ O,DJ O]
  refine SE<|SM ?_;rw[StateT.run_pure];refine SE<|SM ?_;dsimp only;have ev:(qS ps).map (λi=>vs.getD i Uq)=vs:=by unfold qS;rw[DJ ⋯,Y];exact ju _ _
  exact gF hk X M ⋯ ⋯ (by
   rw[ev];apply Array.ext';simp[Array.toList_map,Array.toList_zip];rw[List.map_snd_zip ⋯]) rfl h
 ·rw[DY O,DY O]
  obtain⟨fs,f1,f2,f3⟩:=rk λi L=>(Z i L).one;refine SE (kat_kind (T:=wy "int") f1 ⋯ (λv hv=>?_) ⋯ ?_)
  ·obtain⟨k,t,rfl⟩:=f3 v hv
   exact PySem.W.Looks.of_pure rfl
  refine SE (rN (kat_run (Q:=λU d=>∃p,arrOf U=p.map (PySem.W.kas_item<|z.toArray.zip vs.toArray)/\failedOf U=cI/\p.toList=qS ps/\d=s)
   (G:=λp d=>p.toList=qS ps/\d=s)
   S ⋯ ao (λp U d a1 K N l=>⟨p,K,N,l.1,l.2⟩) (dE (λi j C L hj I=>?_) (Kx ⋯) ⟨by
   unfold qS;rw[DY ⋯,Y],rfl⟩)) ?_ λ_ _ e=>e)
  ·show wpAny _ _ (keyLt' _ (z.getD i Uq)<|z.getD j Uq) C _ _
   have ad:i<z.length:=⋯
   have n:j<z.length:=⋯
   rw[show z.getD i Uq=z[i]by simp[ad],show z.getD j Uq=z[j]by simp[n]];refine dt λkZ=>?_;obtain⟨x,ox,xs,m,t,u,H,e2,e3,e4,F⟩:=Z i ad;obtain⟨y,oy,ys,m',t',u',d1,d2,d3,d4,B⟩:=Z j n;refine kZ ?_;rw[H,d1];refine kat_lt e2 e4 d2 d4 ?_;have R:xs.size=2:=by rw[<-Uy,F];rfl
   have bb:ys.size=2:=by rw[<-Uy,B];rfl
   simp only[F,B,R,bb,Hv,Hv];unfold Jx at I;generalize ps.getD i (0,0)=X1 at I ⊢;generalize ps.getD j (0,0)=X2 at I ⊢;refine kat_cons<|MH X1.1 t X2.1 t' _ _ _ _ ?_;refine kat_go (λg=>?_) λg=>?_
   ·rw[DJ (by simpa using g)]at I
    refine kat_yes<|kat_cons<|MH X1.2 u X2.2 u' _ _ _ _<|kat_go (λf=>?_) λf=>kat_no<|kat_one _ _<|lt_int I
    ·have f:=by simpa using f
     refine kat_yes<|kat_nil ?_;rw[show decide (X1.2<X2.2)=cT by rw[f];simp]at I;exact I
   ·rw[DY (by simpa using g)]at I
    exact kat_no<|oneLt_int I
  rintro⟨⟨⟩,U⟩ d ⟨p,bd,hf,hp,rfl⟩;dsimp only;have r:=kat_snds S bd;rw[hp]at r;exact gF hk X M ⋯ ⋯ r hf h
end
end DL
namespace DL
open PySem PySem.Spec PyProof.Rows L2
section
variable{X:Cx}{pins:TW}{σ:St}{H:Hp}{s:ea}{a:dj}{o:HO}
theorem rD(I:Inv X pins σ H s)(f:Jt X pins H a)(new:n5 X.prog X.w (upd H a o) s.heap a o):Inv X pins σ (upd H a o) s:=by
 obtain⟨f1,U,k,Y,Z,i⟩:=f;have d b u:H b=bB u->b≠a:=λq z=>by lia
 refine⟨I.ok,I.os,I.bare,⟨I.base.keep,I.base.slot,λb J q n O=>?_,I.base.there,λb h q=>?_,λb J u q=>?_,λb j q=>?_⟩,I.loc,I.cell,?_,λx c e=>?_,λp g=>?_,λb u e=>?_,I.len⟩
 ·rw[zE (λz=>by
   rcases Y with z1|z1
   ·exact O<|z ▸ z1
   ·have:=SY q
    rw[z]at this;exact absurd this<|Nat.not_lt_of_le z1)];exact I.base.free b J q n O
 ·have:=I.base.C2 b h q
  rw[zE (d b _ this)];exact this
 ·have:=I.base.yu b J u q
  rw[zE (d b _ this)];exact this
 ·obtain⟨m,this⟩:=I.base.zj b j q
  exact⟨m,by rw[zE (d b _ this)];exact this⟩
 ·rw[zE (Tq U)];exact I.free
 ·rw[zE (Z x c e)];exact I.uh x c e
 ·obtain⟨e,n,r⟩:=I.pin p g
  exact⟨e,by rw[zE (i p g)];exact n,r⟩
 ·by_cases Q:b=a
  ·subst Q;rw[zC]at e;lia
  ·rw[zE Q]at e
   exact(I.eI b u e).y7 (λ_ _ _ q=>q) (λc q=>by rw[zE (d c _ q)];exact q) λc h q=>by rw[zE (d c _ q)];exact q
theorem El{A:kb}{Q:VK}{j:List dn}{vs:List V}{CX:tP}{k:Nat}{f:dj}{z:nf}{ps:List Str}{sp:Sp}(F:ml X.prog X.w X.K X.mg X.base n4 k f z ps sp)(O:kA k A)(E:t9 X.prog X.w X.K X.mg X.base A X.stack s H)(U:Binds X.K z ps [])
 (I:Inv X pins σ H s) (r:ez vs j) (h:sp vs H Q E0):wpAny (d8 X.prog X.w) A (call (.ref f) j) (EP X pins σ Q) (λ_ _=>False) s:=by
 refine G_<|HB (F.run A X.stack s H _ j vs Q E0 O E (by simpa using U s j I.i8 (by simpa using (by rw[<-r.length];exact F.len _ _ _ _ h))) r h) λr a J=>?_;cases r with
 |error e=>exact J.elim
 |ok Y=>
  cases Y with
  |ret u=>exact I.after J
  |next=>assumption
  |brk=>assumption
  |cont=>assumption
theorem HE(I:Inv X pins σ H s)(j:Jt X pins H kS)(e:Jt X pins H a)(J:s.heap.get? kS=bB ok)(z:s.heap.get? a=bB oa)(O:∀v,ok.data ≠ .cell v)(Q:∀v,oa.data ≠ .cell v):Inv X (pins++[(kS,ok),(a,oa)]) σ H s:=
 I.L9 λp hp=>by
  rcases Uo.mp hp with hp|hp
  ·exact I.pin p<|Tj _ hp
  ·rcases SS.mp hp with rfl|hp
   ·exact⟨J,j.1,j.2.1,j.2.2.1,O⟩
   ·rw[Uu.mp hp];exact⟨z,e.1,e.2.1,e.2.2.1,Q⟩
theorem GX(I:Inv X (pins++more) σ H s):Inv X pins σ H s:=I.L9 λp a=>I.pin p<|Tj _<|_d _ a
end
noncomputable def W6(ps:List (Int×Int)):List D:=ps.map λp=>D.tup [.int p.1,.int p.2]
section
variable{X:Cx}{pins:TW}{σ:St}{F:List D->Option Res}{k:Nat}{f:dj}{fd:nf}{pr:List Str}{A:kb}{E:EQ}
theorem CH(I:Inv X pins σ H s)(sub:ft H0 H)(r:Rep X.K H0 (.tup [.int i,.int j]) v)(z:RelV v u):uV s.heap u i j:=by
 obtain⟨b,F,rfl,Y,e⟩:=yv r;obtain⟨y,E,d,f,g⟩:=e.n6;obtain⟨C,A,Z,h,k⟩:=g.n6;rw[k.ro]at Z;rw[d,Z,jv f,jv h]at Y;cases z;obtain⟨a,x,⟨o,p,l,n,m⟩,_⟩:=I.tuple<|md sub Y;obtain⟨J,O,rfl,Q,U⟩:∃J O,a=J::O/\RelV (.int i) J/\ez [.int j] O:=by
  cases x with
  |cons Q U=>exact⟨_,_,rfl,Q,U⟩
 obtain⟨B,rfl,w⟩:=kF U;obtain⟨t,rfl⟩:=Q;obtain⟨u,rfl⟩:=w;exact⟨b,o,_,n,t,u,rfl,p,l,m,rfl⟩
theorem AA{a J:dj}{vs:List dn}{xs:List V}{ds:List D}{ps:List (Int×Int)}{e1:Nat}{P:PySem.Fin->ea->Prop}{H0 H:Hp}{s:ea}
 (G:ml X.prog X.w X.K X.mg X.base n4 k f fd pr (o3 X.K pr.length F)) (h1:pr.length=1) (hr:kA k A) (b4:A.frames=bB X.stack) (Y:Binds X.K fd pr [])
 (I:Inv X pins σ H s) (sub:ft H0 H) (rv:ez xs vs) (rd:dr X.K H0 ds xs) (an:ps.length=vs.length) (b5:vs.length<64)
 (hF:∀(i:Nat) d p,ds[i]? = bB d->ps[i]? = bB p->F [d]=bB (.val<|.tup [.int p.1,.int p.2]))
 (hk:s.heap.get? J=bB (hL "list" #[] 0)) (ha:s.heap.get? a=bB (hL "list" #[] e1)) (ao:J≠a) (fk:Jt X pins H J) (fa:Jt X pins H a)
 (h:∀M S L c,Inv X pins σ S M->Ext H0 H L S->M.heap.get? a=bB (hL "list" (H8 ((qS ps).map λi=>vs.getD i Uq)) c)->Jt X pins S a->P (.done (.ret .none)) M):
 wpAny (d8 X.prog X.w) A (ksk_rest a (.ref f) cT vs.toArray e1<|.ref J) P E s:=by
 have bv:=rv.length;have bx:=rd.length;unfold ksk_rest;refine SE (z4 ?_);rw[Y'];refine SE (ksk_fold (λj M=>∃l m O e,Inv X (pins++[(J,hL "list" O e),(a,hL "list" #[] e1)]) σ l M/\Ext H0 H m l/\∃g,ez g O.toList/\dr X.K m (W6 (ps.take j)) g) vs 0 s
  ⟨H,H0,#[],0,HE I fk fa hk ha (λv z=>by cases z) (λv z=>by cases z),Ext.refl sub,[],.nil,dr.nil⟩ ?step ?done)
 case step=>
  rintro j x M hx ⟨l,m,O,e,U,r,g,t,Z⟩;simp only[zp]at Z ⊢;have hj:=(nt.mp hx).1;have hd:ds[j]? = bB ds[j]:=SH ⋯;have as:xs[j]? = bB xs[j]:=SH ⋯;obtain⟨u',aw,b7⟩:=rv.get as;rw[hx]at aw;cases aw;obtain⟨zgE,ax,b8⟩:=rd.get hd;rw[as]at ax;cases ax;refine SE (z3 (rN (El (CX:=n4) (Q:=λv S=>∃L,Ext m l L S/\Rep X.K L (.tup [.int ps[j].1,.int ps[j].2]) v) G hr ⟨b4,U.uB.mod,U.uB.bs,U.uB.ue,U.uB.s8,U.uB.u7,U.uB.eI,U.uB.bare⟩ Y U (.cons b7 .nil)
   ⟨m,[ds[j]],_,r.sub,dr.cons (b8.mono r.s0) dr.nil,by rw[h1];rfl,hF j _ _ hd<|SH ⋯,λv S L B r2=>⟨L,B,r2⟩⟩) (λv N he=>?_) λ_ _ hF=>hF.elim))
  refine dt λkZ=>?_;obtain⟨zeh,H2,C,bb,bd,B,r2⟩:=he;refine kZ ?_;try dsimp only
  refine dt λkZ=>?_;obtain⟨n,R,_⟩:=C.pin (J,hL "list" O e) (Tj _ (Tj _ (.head _)));obtain⟨na,T,_⟩:=C.pin (a,hL "list" #[] e1) (Tj _ (Tj _ (.tail _ (.head _))));refine kZ ?_;have ad:Jt X pins H2 J:=⟨R,fk.2⟩;have kl:O.size=j:=by have:=t.length;have:=Z.length;simp only[W6,Ta,S6,Uy]at *;lia
  refine SE (DH n rfl ?_ (by rw[kl,wo];lia) (Tf (Nat.le_of_eq (Array.size_push ..)) (by rw[kl,wo];lia)));obtain⟨W,be⟩:∃W,(N.heap.update J (Ua (·.push v))).get? J=bB (hL "list" (O.push v) W):=⟨_,S1 n (·.push v)⟩;refine SM ⟨rfl,H2,bd,O.push v,W,HE ((GX C).um (h':=N.heap.update J (Ua (·.push v))) (t':=N.toks) (fp:=[J]) (λb o Y q=>(Tu _ _ (λz=>Y (by rw[z];exact List.mem_singleton_self _))).trans q) (λb Y=>by rw[Uu.mp Y];exact ad)) ad ⟨T,fa.2⟩ be ((Tu _ _ ao).trans na) (λv z=>by cases z) (λv z=>by cases z),r.trans B,g++[zeh],?_,?_⟩
  ·rw[Array.toList_push];exact t.append<|.cons bb .nil
  ·have ek:ps.take (j+1)=ps.take j++[ps[j]]:=by simp_all
   rw[ek];unfold W6 at Z ⊢;rw[Ue];exact(Z.mono B.s0).append (dr.cons r2 dr.nil)
 case done=>
  rintro M ⟨l,m,O,e,U,r,g,t,Z⟩;rw[zp,<-an,List.take_length]at Z;obtain⟨n,R,_⟩:=U.pin (J,hL "list" O e) (Tj _ (Tj _ (.head _)));obtain⟨na,T,_⟩:=U.pin (a,hL "list" #[] e1) (Tj _ (Tj _ (.tail _ (.head _))));have b1:=GX U;have ad:Jt X pins l J:=⟨R,fk.2⟩;have bf:Jt X pins l a:=⟨T,fa.2⟩
  try dsimp only
  refine SE<|listItems_at n rfl ?_;have l1:=t.length;have l2:=Z.length;simp only[W6,Ta]at l2;have ek:O=O.toList.toArray:=by simp
  rw[ek]at n ⊢;refine Fj n na ao ⋯ an b5 (λi hi=>?_) λh' c hsz kp hA=>h _ l m c (b1.um (h':=h') (t':=M.toks) (fp:=[a,J]) (λb o Y q=>kp b o (λz=>Y<|by rw[z];simp) (λz=>Y<|by rw[z];simp) q)<|λb Y=>by grind) r hA bf
  ·have bi:i<ps.length:=⋯
   obtain⟨y,ey,ry⟩:=Z.get (i:=i) (d:=.tup [.int (ps.getD i (0,0)).1,.int (ps.getD i (0,0)).2]) (by unfold W6;simp[bi]);obtain⟨u,hu,ru⟩:=t.get ey;have:O.toList[i]=u:=by rw[SH hi]at hu;exact TJ hu
   rw[this];exact CH b1 r.sub ry ru
end
noncomputable def ES:Res->Option (Int×Int)
 | .val d=>match d with
  |.tup a=>match a with
   |[x,y]=>(l7 x).bind λi=>(l7 y).map λj=>(i,j)
   |_=>cI
  |_=>cI
 |.own _=>cI
noncomputable def dq(F:List D->Option Res):List D->Option (List<|Int×Int)
 |[]=>bB []
 |d::r=>((F [d]).bind ES).bind λp=>(dq F r).map λl=>p::l
noncomputable def nR(F:List D->Option Res)(f:CO (Sk×List D)):CO (List D):=λd=>(f d).bind λa=>match a.1 with
 |.L=>(dq F a.2).bind λb=>if a.2.length<64 then bB ((qS b).map λi=>a.2.getD i .d9)else cI
 |_=>cI
theorem Wr(I:ez xs vs):∀(o:List Nat),(∀i∈o,i<xs.length)->ez (o.map λi=>xs.getD i .d9) (o.map λi=>vs.getD i Uq)
 |[],_=>.nil
 |i::o,h=>by have a:=h i SO;refine .cons ?_ (Wr I o λj J=>h j<|SQ _ J);obtain⟨v,O,g2⟩:=I.get<|SH a;simp only[kr,kr,SH a,O];exact g2
section
variable{X:Cx}{pins:TW}{σ:St}{F:List D->Option Res}{k:Nat}{f:dj}{fd:nf}{pr:List Str}
theorem lU
 (G:ml X.prog X.w X.K X.mg X.base n4 k f fd pr (o3 X.K pr.length F)) (S:pr.length=1) (hr:kA (k+1+1) X.A) (J:Binds X.K fd pr [])
 (I:Inv X pins σ H s) (sub:ft H0 H) (hl:s.heap.IsList l vs.toArray) (U:ez xs vs) (rd:dr X.K H0 ds xs) (Z:ps.length=vs.length) (M:vs.length<64)
 (hF:∀(i:Nat) d p,ds[i]? = bB d->ps[i]? = bB p->F [d]=bB (.val<|.tup [.int p.1,.int p.2]))
 (h:∀L j e D,H D=cI->j D=cI->Ext H0 H e j->Inv X pins σ (upd j D<|.lst<|(qS ps).map λi=>xs.getD i .d9) L->Q (.ref D) L):
 wpAny (d8 X.prog X.w) X.A (call (.builtin "sorted") [.ref l] [(Ts "key",.ref f)]) Q E s:=by
 have ad:=U.length;have m:vs.length<=eK:=by rw[wo];lia
 refine call_function_entry_kw kind_sorted plain_sorted entry_sorted (ksk_s1 _ _) ?_;unfold pa.«sorted»;refine SE (SM ?_);refine SE (collect_list hl ?_ m);refine SE (U2 ?_ m);have a:((s.heap.push (hL "list" #[] 0)).update s.heap.objs.size (Ua (· ++ vs.toArray))).objs.size=s.heap.objs.size+1:=by rw[S9,OS]
 have O:(((s.heap.push (hL "list" #[] 0)).update s.heap.objs.size (Ua (· ++ vs.toArray))).push (hL "list" vs.toArray 0)).get? (s.heap.objs.size+1)=bB (hL "list" vs.toArray 0):=by rw[<-a];exact SV _ rfl
 have keep b o:s.heap.get? b=bB o->(((s.heap.push (hL "list" #[] 0)).update s.heap.objs.size (Ua (· ++ vs.toArray))).push (hL "list" vs.toArray 0)).get? b=bB o:=λq=>by have Y:=SY q;rw[Gx _ _ _ (by rw[a];exact Tc (TY Y)),V' _ _ _ _ (Tc Y),Gx _ _ _ (Tc Y)];exact q
 have n:(((s.heap.push (hL "list" #[] 0)).update s.heap.objs.size (Ua (· ++ vs.toArray))).push (hL "list" vs.toArray 0)).objs.size=s.heap.objs.size+2:=by rw[OS,a]
 rw[a];generalize ((s.heap.push (hL "list" #[] 0)).update s.heap.objs.size (Ua (· ++ vs.toArray))).push (hL "list" vs.toArray 0)=g at O keep n ⊢;have x:=I.ug (Df _) (I.eI.fresh (Df _));refine SE (tx (wpAny_call_entry_kw slot_list_sort ⟨_,O,rfl⟩ entry_list_sort ?body (ksk_l1 _ _)))
 case body=>
  rw[ksk_t1];unfold ksk_tree;refine SE (N? O rfl ?_);refine SE (DH O rfl ?_ (by assumption) (Uc _));obtain⟨t,r⟩:∃t,(g.update (s.heap.objs.size+1) (Ua λ_=>(#[]))).get? (s.heap.objs.size+1)=bB (hL "list" #[] t):=⟨_,S1 O λ_=>#[]⟩;refine SE (M4 r rfl ?_);refine SE (M7 ?_ (by show vs.length<=_;exact m));refine SE (U2 ?_ (Uc _));refine tx ?_;have y:((g.update (s.heap.objs.size+1) (Ua λ_=>(#[]))).push (hL "tuple" vs.toArray 0)).objs.size=s.heap.objs.size+3:=by rw[OS,S9,n]
  refine AA
   G S hr.in1.in1 I.uB.in1.in1.frames J (((I.kept (t':=s.toks) keep).um (h':=g.update (s.heap.objs.size+1) (Ua λ_=>(#[]))) (t':=s.toks) (fp:=[s.heap.objs.size+1]) (λb o J q=>(Tu _ _ (λz=>J (by rw[z];exact List.mem_singleton_self _))).trans q) (λb J=>by rw[Uu.mp J];exact x)).kept (h':=((g.update (s.heap.objs.size+1) (Ua λ_=>(#[]))).push (hL "tuple" vs.toArray 0)).push (hL "list" #[] 0)) (t':=s.toks) (λb o q=>SG _ (SG _ q))) sub U rd Z M hF (SV _ rfl) (SG _ (SG _ r)) (by rw[y];exact λz=>absurd (Nat.add_left_cancel z) ⋯) (by rw[y];exact(I.ug (Tv _ _) (I.eI.fresh (Tv _ _)))) x λL j e c B R N u=>⟨_,rfl,?_⟩
  refine SM ⟨_,rfl,h L j e _ (I.eI.fresh<|Df _) u.1 R<|rD B u ?_⟩;have C:((qS ps).map λi=>xs.getD i V.d9).length=vs.length:=by rw[Ta,(jN ps).length_eq,Ut,Z]
  exact⟨by rw[C];exact m,(qS ps).map λi=>vs.getD i Uq,c,Wr U _ (λi P=>by have:=SJ.mp<|(jN ps).mem_iff.mp P;lia),N⟩
end
theorem aD:∀{ds:List D} {ps:List (Int×Int)},dq F ds=bB ps->ps.length=ds.length
 |[],ps,h=>by cases h;rfl
 |d::r,ps,h=>by obtain⟨p,_,I⟩:=za h;obtain⟨l,J,O⟩:=zq I;subst O;simp[aD J]
theorem lx(h:ES r=bB p):r=.val (.tup [.int p.1,.int p.2]):=by
 unfold ES at h;split at h
 ·split at h
  ·split at h
   ·obtain⟨i,a,I⟩:=za h
    obtain⟨j,J,O⟩:=zq I;subst O;rw[jD a,jD J]
   lia
  lia
 lia
theorem gE:∀{ds:List D} {ps:List (Int×Int)},dq F ds=bB ps->∀(i:Nat) d p,ds[i]? = bB d->ps[i]? = bB p->F [d]=bB (.val<|.tup [.int p.1,.int p.2])
 |[],ps,h,i,d,p,hd,hp=>by grind
 | c::r,ps,h,i,d,p,hd,hp=>by
  obtain⟨q,b,I⟩:=za h;obtain⟨l,J,O⟩:=zq I;subst O;cases i with
  |zero=>
   simp at hd hp;subst hd hp;obtain⟨e,a,Q⟩:=za b;rw[a,lx Q]
  |succ i=>exact gE J i d p (by simpa using hd) (by simpa using hp)
section
variable{X:Cx}{sc:f6}{N L:List Str}{k j:Nat}{e:dv}{fq:CO (Sk×List D)}{F:List D->Option Res}{x:Str}{p p2 pos L?:eU}
theorem zdR(S:eg X.prog X.w X.K X.mg X.base j x 1 F)(h:SX X sc N L k)(hj:j+1+1<=k)(c:k9 sc "sorted" = cm)(z:X.mg "sorted" = cI)(c2:k9 sc x=cm)(hq:PQ X e fq)
 (hs:eA [e] X.env=[(cT,dy e X.env)]:=by rfl):
 PO X (.Call (.Name "sorted" p) [e] [⟨bB "key",.Name x p2,L?⟩] pos) (nR F fq):=by
 intro b s σ H Q I Z;refine dt λo=>?_;obtain⟨t,γ,ao,rc,J,q⟩:=Z;obtain⟨⟨kk,n⟩,M,J⟩:=za J;obtain⟨fa,fd,pr,hn,G,hm,hk,R⟩:=S.ex;refine o ?_;cases kk with
 |T=>cases J
 | L=>
  have J:=J;obtain⟨ps,A,J⟩:=za J;by_cases B:n.length<64
  ·rw[DJ B]at J
   cases J;refine C6 (xU (u:=.builtin "sorted") I (h.gl c).1 z ⋯ (callWith_kw ?_ (by rw[hs];rfl) (by rw[hs];rfl)) ⋯ ⋯);refine ed ((z9 hq jM hs) pos b s σ H (λC g=>∃a f O,C=[.ref a]/\Ext t H O g/\fy X.K g a f/\dr X.K O n f) I ⟨t,γ,.L,n,rc,M,λa f g O d g1 g2 U=>⟨a,f,O,rfl,d,g1,U⟩⟩) λus s1 Z=>?_;refine dt λo=>?_;obtain⟨C,g,m,rv,a,f,O,rfl,d,g1,U⟩:=Z;obtain⟨u,rfl,ru⟩:=kF rv;refine o ?_;cases ru;refine wpAny_evalAll_cons (SE (Kr m (h.gl c2).1 hm (SE (U0 (SM ?_))) (h.gl c2).2.2));refine wpAny_evalAll_nil ?_;obtain⟨its,r,pl,hz⟩:=m.list g1;have l1:=r.length;have l2:=U.length;have l3:=aD A;refine lU G hn (h.room.mono hj) R m d.sub pl.isList r U ⋯ ⋯ (gE A) λs' H' l D P y Y E=>?_;refine⟨.ref D,_,E,rfl,q D _ _ l (d.trans (Y.trans (Ext.hide Y.sub y _))) (xj d.s1 P) (jd Y.sub y) zC ?_⟩;refine XS (U.mono Y.s0) _ λi W=>?_;have:=SJ.mp ((jN ps).mem_iff.mp W);lia
  ·rw[DY B]at J;cases J
end
section
variable{c:dv}{p:eU}
open Classical in
end
noncomputable def kJ(f:CO D)(g:CO (Sk×List D)):CO D:=λb=>(f b).bind λd=>(g b).bind λa=>match d with
 |.str x=>(WC a.2).map λl=>.bl (!l.any λy=>y==x)
 |_=>cI
section
variable{X:Cx}{a:dv}{st:hB}{body:List hB}{F:List D->Option Res}
theorem zdM{j:ExceptHandler}{O:List ExceptHandler}{e:eU}{F:CO Fl}(h:i6 X.Du st F):i6 X (.Try [st] (j::O) [] [] e) F:=by
 intro a s i H D I ⟨Q,b,d,g,J,f,U,Y⟩;refine wpAny_Try_except ?_;refine rN (zh h a s i H D (I.ti _) ⟨Q,b,d,g,_,f,U,Y⟩) (λJ k z=>?_) λ_ _ z=>z.elim;have z:=z.v3;cases J with
 |next=>exact Sy z
 |ret v=>exact z
 |brk=>exact z
 |cont=>exact z
end
open Classical in
section
variable{X:Cx}{L:List Str}{a c:dv}{p pos:eU}{x:Str}
theorem JF{c:dv}{e:CO D}(E:PV X a e){J:CO (Sk×List D)}(O:PQ X c J)(U:pk .NotIn c=cT:=by with_unfolding_all rfl):k4 X (.Compare a [.NotIn] [c] pos) (sB<|kJ e J):=
 X6 (Zq QD E O U) λR H Q Y=>by
  refine dt λZ=>?_;obtain⟨j,i,d,g,I,q⟩:=Y;obtain⟨K,s,A⟩:=za I;obtain⟨x,t,I⟩:=za s;obtain⟨⟨f,o⟩,u,I⟩:=za I;refine Z ?_;cases x with
  | str w=>
   obtain⟨l,z,rfl⟩:=zq I;cases A;refine⟨j,i,_,g,t,λN G m h C=>⟨m,i,f,o,g.ext h,u,λp P k n F b M r=>?_⟩⟩;have B:=vD r z;subst B;subst C;refine⟨p,_,rfl,by
    cases f with
    |L=>exact .inl b
    |T=>exact .inr b,rfl,ZJ l,?_⟩
   have:uC (.str w) (l.map V.str)=l.any λy=>y==w:=by unfold uC;rw[Nc];rfl
   rw[this];exact⟨_,rfl,q k n<|h.trans F⟩
  |_=>cases I
end
noncomputable def vr(e:dv):Str:=match e with|.Name x _=>x|_=>""
noncomputable def uK(e:dv):List Str:=match e with|.Tuple a _ _=>a.map vr|e=>[vr e]
noncomputable def yr(N:List Str)(fs:List Nat):List (Str×Nat):=fs.map λi=>(N.getD i "",i)
theorem Kz(N:List Str)(fs:List Nat):(yr N fs).map (·.2)=fs:=by unfold yr;rw[Tn];exact List.map_id fs
noncomputable def Cc(e:dv):Bool:=match e with|.Name _ _=>cm|_=>cT
theorem lG{e:dv}(h:Cc e=cm):∃p,e=.Name (vr e) p:=by
 unfold Cc at h;split at h
 ·exact⟨_,rfl⟩
 lia
noncomputable def Pi(e:f6)(N L:List Str)(is:List Nat)(es:List dv):Bool:=match is with
 |[i,j]=>(match es with|[a,b]=>Cc a&&(yC e N L i (vr a)&&(Cc b&&yC e N L j (vr b)))|_=>cT)
 |[i,j,l]=>(match es with|[a,b,c]=>Cc a&&(yC e N L i (vr a)&&(Cc b&&(yC e N L j (vr b)&&(Cc c&&yC e N L l (vr c)))))|_=>cT)
 |_=>cT
noncomputable def E9(j:f6)(N L:List Str)(e:dv)(T:Tg):Bool:=match T with
 |.nm i=>Cc e&&yC j N L i (vr e)
 |.tp is=>(match e with|.Tuple a _ _=>Pi j N L is a|_=>cT)
theorem CL{X:Cx}{z:f6}{N L:List Str}{k:Nat}(h:SX X z N L k){e:dv}{T:Tg}(c:E9 z N L e T=cm):PG X e (oT X.K T):=by
 cases T with
 |nm i=>
  have c:=Bool.and_eq_true_iff.mp c;obtain⟨p,q⟩:=lG c.1;rw[q];exact h.uL _ c.2
 | tp is=>
  unfold E9 at c;dsimp only at c;split at c
  ·next l j pos=>
   unfold Pi at c;split at c
   ·split at c
    ·simp only[Td]at c
     obtain⟨I,J,a,b⟩:=c;obtain⟨p,q⟩:=lG I;obtain⟨g,O⟩:=lG a;rw[q,O];exact h.x_<|ZP (h.uL _ J)<|ZP (h.uL _ b) oZ
    ·cases c
   ·split at c
    ·simp only[Td]at c
     obtain⟨I,J,a,b,d,f⟩:=c;obtain⟨p,q⟩:=lG I;obtain⟨g,O⟩:=lG a;obtain⟨m,Q⟩:=lG d;rw[q,O,Q];exact h.x_<|ZP (h.uL _ J)<|ZP (h.uL _ b)<|ZP (h.uL _ f) oZ
    ·cases c
   ·cases c
  ·cases c
noncomputable def cB(j scope:f6)(N:List Str)(e:dv)(T:Tg)(n:Nat)(fs:List Nat):Bool:=
 dP j scope N (yr N fs)&&(NJ (uK e) scope (yr N fs)&&(decide (∀i∈T.idx,i<(uK e).length)&&(decide ((uK e).length=n)&&E9 (yR scope j) (uK e++(yr N fs).map (·.1)) (uK e) e T)))
abbrev u5(X:Cx)(scope:f6)(N:List Str)(tg:dv)(fs:List Nat):=jF X scope (uK tg++(yr N fs).map (·.1))
abbrev SA(X:Cx)(sc scope:f6)(N:List Str)(tg:dv)(fs:List Nat)(k:Nat)(fp:List dj)(s2:ea)(H2:Hp):Prop:=SX (u5 X scope N tg fs fp s2 H2) (yR scope sc) (uK tg++(yr N fs).map (·.1)) (uK tg) k
section
variable{X:Cx}{sc scope:f6}{N L:List Str}{k n i:Nat}{fs:List Nat}{T:Tg}{e elt tg iter Dq:dv}{es:List dv}{pos p py spos cpos:eU}{x y:Str}{f:CO D}{fo:CO (List D)}{src gl:CO (List D)}{kk:CO Bool}
theorem cA(h:SX X sc N L k)(c:cB sc scope N tg T n fs=cm):r6 X scope (yr N fs)/\(∀i∈T.idx,i<(uK tg).length)/\(uK tg).length=n/\(∀fp z j,SA X sc scope N tg fs k fp z j)/\∀fp z j,PG (u5 X scope N tg fs fp z j) tg (oT X.K T):=by unfold cB at c;simp only[Td,decide_eq_true_eq]at c;refine dt λI=>?_;obtain⟨a,b,d,e,f⟩:=c;refine I ?_;have s fp z j:SA X sc scope N tg fs k fp z j:=h.comp b;exact⟨h.z? a,d,e,s,λfp z j=>CL (s fp z j) f⟩
theorem jB(h:SX X sc N L k)(H:sm X tg iter src)(E:∀fp z j,SA X sc scope N tg fs k fp z j->PV (u5 X scope N tg fs fp z j) elt f)(c:cB sc scope N tg T n fs=cm:=by decide +kernel)(hs:∀x,oI iter X.env x=pure x:=by intro _;rfl):
 PO X (.ListComp elt [⟨tg,iter,[],0⟩] scope pos) (zM src T n fs ja f):=by
 obtain⟨a,b,d,s,q⟩:=cA h c;have r:=EH (pos:=pos) h.calm a b H q (λfp z j=>E fp z j<|s fp z j) hs;rw[d,Kz]at r;exact r
theorem Vp(h:SX X sc N L k)(H:sm X tg iter src)(I:∀fp z j,SA X sc scope N tg fs k fp z j->k4 (u5 X scope N tg fs fp z j) Dq kk)(E:∀fp z j,SA X sc scope N tg fs k fp z j->PV (u5 X scope N tg fs fp z j) elt f)(c:cB sc scope N tg T n fs=cm:=by decide +kernel)(hs:∀x,oI iter X.env x=pure x:=by intro _;rfl):
 PO X (.ListComp elt [⟨tg,iter,[Dq],0⟩] scope pos) (zM src T n fs kk f):=by
 obtain⟨a,b,d,s,q⟩:=cA h c;have r:=oS (pos:=pos) h.calm a b H q (λfp z j=>I fp z j<|s fp z j) (λfp z j=>E fp z j<|s fp z j) hs;rw[d,Kz]at r;exact r
theorem yV(h:SX X sc N L k)(H:sm X tg iter src)(E:∀fp z j,SA X sc scope N tg fs k fp z j->PV (u5 X scope N tg fs fp z j) elt f)(ct:yC sc N L i y=cm:=by decide +kernel)(c:cB sc scope N tg T n fs=cm:=by decide +kernel)(hs:∀x,oI iter X.env x=pure x:=by intro _;rfl):
 PS X (.Assign [.Name y py] (.ListComp elt [⟨tg,iter,[],0⟩] scope cpos) spos) (bG (tO X.K<|zM src T n fs ja f)<|vd i):=by
 obtain⟨a,b,d,s,q⟩:=cA h c;have r:=W? (cpos:=cpos) (spos:=spos) (py:=py) i h ct h.calm a b H q (λfp z j=>E fp z j<|s fp z j) hs;rw[d,Kz]at r;exact r
theorem ED(h:SX X sc N L k)(H:sm X tg iter src)(I:∀fp z j,SA X sc scope N tg fs k fp z j->k4 (u5 X scope N tg fs fp z j) Dq kk)(E:∀fp z j,SA X sc scope N tg fs k fp z j->PV (u5 X scope N tg fs fp z j) elt f)(ct:yC sc N L i y=cm:=by decide +kernel)(c:cB sc scope N tg T n fs=cm:=by decide +kernel)(hs:∀x,oI iter X.env x=pure x:=by intro _;rfl):
 PS X (.Assign [.Name y py] (.ListComp elt [⟨tg,iter,[Dq],0⟩] scope cpos) spos) (bG (tO X.K<|zM src T n fs kk f)<|vd i):=by
 obtain⟨a,b,d,s,q⟩:=cA h c;have r:=NY (cpos:=cpos) (spos:=spos) (py:=py) i h ct h.calm a b H q (λfp z j=>I fp z j<|s fp z j) (λfp z j=>E fp z j<|s fp z j) hs;rw[d,Kz]at r;exact r
theorem HY(h:SX X sc N L k)(H:sm X tg iter src)(E:∀fp z j,SA X sc scope N tg fs k fp z j->PO (u5 X scope N tg fs fp z j) elt fo)(ct:yC sc N L i y=cm:=by decide +kernel)(c:cB sc scope N tg T n fs=cm:=by decide +kernel)(hs:∀x,oI iter X.env x=pure x:=by intro _;rfl):
 i6 X (.Assign [.Name y py] (.ListComp elt [⟨tg,iter,[],0⟩] scope cpos) spos) (uw i<|fH src T n fs fo):=by
 obtain⟨a,b,d,s,q⟩:=cA h c;have r:=zdN (cpos:=cpos) (spos:=spos) (py:=py) i h ct h.calm a b H q (λfp z j=>E fp z j<|s fp z j) hs;simp only[d,Kz]at r;exact r
theorem fS(h:SX X sc N L k)(c:vz sc N i x=cm:=by decide +kernel):PV X (.Name x pos) (zf i):=HK i<|h.var c
theorem RQ(h:SX X sc N L k)(c:vz sc N i x=cm:=by decide +kernel):PQ X (.Name x pos) (zk i):=Ie i<|h.var c
theorem Pj(h:SX X sc N L k)(c:E9 sc N L e T=cm:=by decide +kernel):PG X e (oT X.K T):=CL h c
theorem NX(h:SX X sc N L k)(j:PV X e f)(c:yC sc N L i x=cm:=by decide +kernel)(hs:tG e (bB (.Name x py)) pos.line X.env=pure cT:=by rfl):i6 X (.Assign [.Name x py] e pos) (jy i f):=oO i<|h.set i c j hs
theorem HZ(h:SX X sc N L k)(j:PO X e fo)(c:yC sc N L i x=cm:=by decide +kernel)(hs:tG e (bB (.Name x py)) pos.line X.env=pure cT:=by rfl):i6 X (.Assign [.Name x py] e pos) (vH i fo):=fV i<|h.set i c j hs
theorem xi{j:List hB}{F:CO Fl}(I:X.xe=λ_ _=>False)(h:SX X sc N L k)(z:g9 X tg iter src)(J:ik X j F)(c:E9 sc N L tg T=cm:=by decide +kernel)(hs:∀x,oI iter X.env x=pure x:=by intro _;rfl):i6 X (.For tg iter j [] pos) (J5 src T F):=EB (W4 I) h.calm z (CL h c) J hs
theorem zy(h:SX X sc N L k:=by assumption)(c:vz sc N i x=cm:=by decide +kernel):PV X (.Name x pos) (zf i):=fS h c
theorem zK(h:SX X sc N L k:=by assumption)(c:vz sc N i x=cm:=by decide +kernel):PQ X (.Name x pos) (zk i):=RQ h c
theorem f9{i:Nat}{x:Str}{pos:eU}(h:SX X sc N L k:=by assumption)(c:vz sc N i x=cm:=by decide +kernel):tQ X [.Name x pos] 1 (zc (zf i) zG):=zb (fS h c) zw
theorem hM{i z:Nat}{x I:Str}{pos j:eU}(h:SX X sc N L k:=by assumption)(c:vz sc N i x=cm:=by decide +kernel)(c2:vz sc N z I=cm:=by decide +kernel):tQ X [.Name x pos,.Name I j] 2 (zc (zf i)<|zc (zf z) zG):=zb (fS h c)<|f9 h c2
theorem o7{i z I:Nat}{x J E:Str}{pos j O:eU}(h:SX X sc N L k:=by assumption)(c:vz sc N i x=cm:=by decide +kernel)(c2:vz sc N z J=cm:=by decide +kernel)(c3:vz sc N I E=cm:=by decide +kernel):tQ X [.Name x pos,.Name J j,.Name E O] 3 (zc (zf i)<|zc (zf z)<|zc (zf I) zG):=zb (fS h c)<|hM h c2 c3
theorem jc(j:PV X e f)(h:SX X sc N L k:=by assumption)(c:yC sc N L i x=cm:=by decide +kernel)(hs:tG e (bB (.Name x py)) pos.line X.env=pure cT:=by rfl):i6 X (.Assign [.Name x py] e pos) (jy i f):=NX h j c hs
theorem vN(j:PO X e fo)(h:SX X sc N L k:=by assumption)(c:yC sc N L i x=cm:=by decide +kernel)(hs:tG e (bB (.Name x py)) pos.line X.env=pure cT:=by rfl):i6 X (.Assign [.Name x py] e pos) (vH i fo):=HZ h j c hs
variable{j:Nat}{F:List D->Option Res}
theorem NW(I:eg X.prog X.w X.K X.mg X.base j x n F)(h:SX X sc N L k)(z:tQ X (e::es) n gl)(J:j<=k:=by decide)(c:k9 sc x=cm:=by decide +kernel)
 (E:eA (e::es) X.env=(cT,dy e X.env)::eA es X.env:=by rfl) (O:(oe pos<|starEach es X.env).any (·.1)=cT:=by rfl):PV X (.Call (.Name x p) (e::es) [] pos) (zA F gl):=HQ I J h c z E O
theorem zL(I:eg X.prog X.w X.K X.mg X.base j x n F)(z:tQ X (e::es) n gl)(h:SX X sc N L k:=by assumption)(J:j<=k:=by decide)(c:k9 sc x=cm:=by decide +kernel)
 (E:eA (e::es) X.env=(cT,dy e X.env)::eA es X.env:=by rfl) (O:(oe pos<|starEach es X.env).any (·.1)=cT:=by rfl):PV X (.Call (.Name x p) (e::es) [] pos) (zA F gl):=HQ I J h c z E O
theorem qA(I:eg X.prog X.w X.K X.mg X.base j x n F)(z:tQ X (e::es) n gl)(h:SX X sc N L k:=by assumption)(J:j<=k:=by decide)(c:k9 sc x=cm:=by decide +kernel)
 (E:eA (e::es) X.env=(cT,dy e X.env)::eA es X.env:=by rfl) (O:(oe pos<|starEach es X.env).any (·.1)=cT:=by rfl):PO X (.Call (.Name x p) (e::es) [] pos) (jo F gl):=NZ I J h c z E O
end
theorem j4{P:gg}{w:fA}{K:SD}{e:DZ}{base:eL}{Q:SD->(Str->Option dn)->Prop}{x:Str}{st:hB}{N ps:List Str}{k:Nat}{F:CO Fl}(E:Q K e)(A:∀{K:SD} {e:DZ},Q K e->ej K e x st ps)(j:dO N ps st=cm)
 (I:∀X,Q X.K X.mg->SX X (jh st) N N k->X.xe=(λ_ _=>False)->ik X (qv st) F):eg P w K e base (k+1) x ps.length (jf N.length F):=
 PP (A E) j λX J b O U Y a Z=>by subst J b O U Y;exact I X E a Z
noncomputable def ye(i:Int):Str:=Ts<|toString i
noncomputable def qt(f:CO D):CO D:=λa=>((f a).bind l7).bind λi=>if inR i=cm then bB (.str<|ye i)else cI
noncomputable def cf(f g:CO D):CO D:=λa=>(f a).bind λd=>(g a).bind λe=>match d,e with
 |.str x,.str y=>bB (.bl<|Txt.startswith x y)
 |_,_=>cI
noncomputable def MS(d:D):Option Str:=match d with
 |.int i=>if inR i=cm then bB (ye i)else cI
 |.str x=>if zU x=cm then bB x else cI
 |_=>cI
noncomputable def mN(f:CO D):CO D:=λa=>((f a).bind MS).map .str
noncomputable def Na(d:D):Option Str:=match d with
 |.str x=>if zU x=cm then bB x else cI
 |_=>cI
noncomputable def iQ(fs:List (CO D))(I:Str):CO D:=λa=>match fs with
 |[]=>bB (.str I)
 |f::r=>((f a).bind Na).bind λx=>iQ r (I++x) a
noncomputable def QO(fs:List (CO D)):CO D:=λa=>if fs.length<=10 then iQ fs xg a else cI
noncomputable def cK(n:Nat)(lo e st:Option Int):List Nat:=sliceRange (B8 lo e st n).1 (B8 lo e st n).2.1 (B8 lo e st n).2.2
noncomputable def JJ{e:Type}(xs:List e)(lo j st:Option Int):List e:=(cK xs.length lo j st).filterMap λi=>xs[i]?
noncomputable def Mt(f:CO (Sk×List D))(l h s:CO (Option Int)):CO (List D):=λb=>(f b).bind λa=>(l b).bind λlo=>(h b).bind λd=>(s b).bind λst=>match a.1 with
 |.L=>if st=bB 0 then cI else if (JJ a.2 lo d st).length<=lim then bB (JJ a.2 lo d st)else cI
 |.T=>cI
noncomputable def J4(f g:CO D):CO (List D):=λa=>(f a).bind λd=>(g a).bind λe=>match d,e with
 |.str x,.str y=>if x.length<=20000/\(y.length==0)=cT then bB ((De x y).map D.str)else cI
 |_,_=>cI
noncomputable def WM(f:CO D):CO D:=λa=>(f a).bind λd=>match d with
 |.str x=>if x.length<=640 then (MN x).map D.int else cI
 |_=>cI
noncomputable def ux(f g:CO D):CO D:=λa=>(f a).bind λd=>(g a).bind λe=>match d,e with
 |.str x,.str y=>bB (.bl<|!(UU y x 0 y.length 1).isEmpty)
 |_,_=>cI
end DL
namespace L2
open PySem PySem.Spec PyProof.Rows
theorem pL{X:Cx}:D0 X "str.startswith" (λx vs H Q=>∃z y,x=.str z/\vs=[.str y]/\Q (.bl (Txt.startswith z y)) H):=by intro a s d H x vs v b Q I J O h;obtain⟨z,y,rfl,rfl,q⟩:=h;obtain⟨t,rfl⟩:=J;obtain⟨u,rfl,U,rfl⟩:=kF O;exact PySem.SC.startswith ⟨.bl _,H,I,rfl,q⟩
theorem Yp:∀l,ez ((l.map (·.1)).map V.str) (strValues l)
 |[]=>.nil
 |(z,t)::l=>.cons ⟨t,rfl⟩ (Yp l)
theorem Ao{X:Cx}:D0 X "str.split" (λx vs H Q=>∃z y,x=.str z/\vs=[.str y]/\(y.length==0)=cT/\z.length<=20000/\∀l,H l=cI->Q (.ref l) (upd H l (.lst ((De z y).map V.str)))):=by
 intro a s i H x vs v n Q I g f h;obtain⟨z,y,rfl,rfl,U,m,q⟩:=h;obtain⟨t,rfl⟩:=g;obtain⟨u,rfl,J,rfl⟩:=kF f;have big:30000<=eK:=by decide
 have O:∀l k,l.map (·.1)=_->l.length<=eK->EP X a i Q _ {s with heap:=s.heap.push {cls:=.type "list",data:=.seq (strValues l).toArray},toks:=k}:=λl k e d=>by have Y:=Yp l;rw[e]at Y;exact⟨.ref _,_,I.E5 Y (by rw[<-e];simpa using d),rfl,q _ (I.eI.fresh (SN _))⟩
 cases c1:(_ || _)with
 |true=>
  have b:De z y=[z]:=DJ c1;exact tN _l (DN _ _ _) _i (S_ _ _) (meets_str_split_cannot_occur z y t J c1)<|O [(z,t)] s.toks (by rw[b];rfl) (by simp;lia)
 | false=>
  cases c2:(UU z y 0 z.length<|z.length+1).isEmpty with
  |true=>
   have b:De z y=[z]:=(DY<|by rw[c1];simp).trans (DJ c2);exact tN _l (DN _ _ _) _i (S_ _ _) (meets_str_split_not_found z y t J c1 U c2)<|O [(z,t)] s.toks (by rw[b];rfl) (by simp;lia)
  | false=>
   have Z:(Builtin.Str.partsBetween z (UU z y 0 z.length<|z.length+1) y.length).length<=eK:=by have j:=StrLaws.occ_length_le z y 0 z.length<|z.length+1;rw[length_partsBetween];lia
   refine tN _l (DN _ _ _) _i (S_ _ _) (meets_str_split_sep z y t J c1 U c2 ⋯ Z) ?_;rw[strsFrom_eq];exact O _ _ ((numbered_texts _ _).trans ((DY<|by rw[c1];simp).trans (DY<|by rw[c2];simp)).symm) (by
    have:=congrArg DM<|numbered_texts s.toks<|Builtin.Str.partsBetween z (UU z y 0 z.length<|z.length+1) y.length;rw[Ta]at this;rw[this];exact Z)
end L2
namespace DL
open PySem PySem.Spec PyProof.Rows L2
theorem ay{i:Int}(h:inR i=cm):i.natAbs.log2<1920:=by
 unfold inR at h;by_cases z:i.natAbs=0
 ·rw[z];decide
 ·exact(Nat.log2_lt z).mpr (Ti (of_decide_eq_true h)<|Nat.pow_le_pow_right ⋯ ⋯)
section
variable{X:Cx}{sc:f6}{N L:List Str}{k:Nat}{a b e o:dv}{f g:CO D}{p pos:eU}
theorem xf(h:SX X sc N L k)(c:k9 sc "str" = cm)(z:X.mg "str" = cI)(J:PV X e f)(hs:eA [e] X.env=[(cT,dy e X.env)]:=by rfl):PV X (.Call (.Name "str" p) [e] [] pos) (qt f):=
 jK (vO aX (h.gl c).1 z PyProof.Rows.boot_str (z9 J jM hs) ⋯ ⋯ hs rfl) λo H Q O=>by
  obtain⟨l,n,d,m,I,q⟩:=O;obtain⟨i,b,I⟩:=za I;obtain⟨U,Y,b⟩:=za b;by_cases g:inR i=cm
  ·rw[DJ g]at I;cases I
   refine⟨l,n,U,m,Y,λv j a x r=>?_⟩;rw[jD b]at r;exact⟨i,by rw[jv r],ay g,q _ j a x rfl⟩
  lia
theorem oE{j cpos:eU}(J:PV X o f)(E:PV X e g)(O:x8 o "startswith" X.env (dy o X.env)=dy o X.env:=by rfl)
 (U:((oe cpos<|starEach [e] X.env).all (λx=> !x.1)&&(yg cpos<|keywordEach [] X.env).all (λx=>x.1.isSome)&&decide ([e].length+([]:List tr).length+(if ([]:List tr).isEmpty then 0 else 1)<30))=cm:=by rfl)
 (Y:(j.endLine==cpos.line)=cm:=by rfl) (hs:eA [e] X.env=[(cT,dy e X.env)]:=by rfl):PV X (.Call (.Attribute o "startswith" j) [e] [] cpos) (cf f g):=
 jK (lu J_ PySem.F.slot_str_startswith PySem.F.type_str_startswith pL J (z9 E jM hs) O U Y hs rfl) λC H Q Z=>by
  refine dt λt=>?_;obtain⟨i,h,d,b,I,q⟩:=Z;obtain⟨m,p,I⟩:=za I;obtain⟨n,s,I⟩:=za I;refine t ?_;cases m with
  | str z=>
   cases n with
   |str y=>
    cases I;refine⟨i,h,_,b,p,λv A a x r=>?_⟩;rw[r];refine⟨rfl,a,h,_,b.ext x,s,λB k l w u=>?_⟩;rw[u];exact⟨z,y,rfl,rfl,q _ k l (x.trans w) rfl⟩
   |_=>cases I
  |_=>cases I
theorem YA{j:Int}(M:j = -1)(E:PV X a f):PV X (.FormattedValue a j cI pos) (mN f):=by
 subst M;intro l s K H Q I O;refine dt λC=>?_;obtain⟨w,G,d,F,B,q⟩:=O;obtain⟨y,g,rfl⟩:=zq B;obtain⟨U,A,g⟩:=za g;refine C ?_;refine FormattedValue_plain<|ed (E l s K H (λv u=>∃h,_/\_) I ⟨w,G,U,F,A,λv u h x r=>⟨h,x,r⟩⟩) λv L O=>?_;obtain⟨x,m,Y,J,Z,p,n⟩:=O;cases U with
 | int i=>
  have g:(if inR i=cm then bB (ye i)else cI)=bB y:=g;by_cases k:inR i=cm
  ·rw[DJ k]at g;cases g
   rw[n]at J;obtain⟨t,rfl⟩:=J;exact formatField_int_small (ay k) ⟨.str _,m,(Y.tok _).tok _,⟨_,rfl⟩,q _ m Z p rfl⟩
  lia
 | str z=>
  have g:(if zU z=cm then bB z else cI)=bB y:=g;by_cases k:zU z=cm
  ·rw[DJ k]at g;cases g
   rw[n]at J;obtain⟨t,rfl⟩:=J;exact formatField_str (λN P=>⟨.str _,m,(Y.kept λb o e=>e),⟨_,rfl⟩,q _ m Z p rfl⟩)<|wB k
  lia
 |_=>cases g
theorem Gh(x y:Str):(x++y).length=x.length+y.length:=by
 show(x++y).cps.size=x.cps.size+y.cps.size;simpa using (congrArg DM (show(x++y).cps.toList=x.cps.toList++y.cps.toList from by
  show(x.cps++y.cps).toList=_;simp))
noncomputable def PJ(X:Cx)(es:List dv)(fs:List (CO D)):Prop:=∀(I:Str) (m:Nat) a s e H Q,I.length<=1000*m->m+fs.length<=10->Inv X a e H s->(∃g h d,RC X.K g H e h/\iQ fs I h=bB d/\∀v f b,Ext g H b f->Rep X.K b d v->Q v f)->
 wpAny (d8 X.prog X.w) X.A (joinParts I<|evalEach es X.env) (EP X a e Q) X.xe s
theorem W3:PJ X [] []:=λJ m a s g H Q O Z I U=>by obtain⟨b,f,d,e,Y,q⟩:=U;cases Y;exact joinParts_nilE<|joinParts_nil ⟨.str J,H,I.tok _,⟨_,rfl⟩,q _ H b (Ext.refl e.sub) rfl⟩<|Tf O<|Tf (W_ 1000<|by assumption) ⋯
theorem xG{es:List dv}{fs:List (CO D)}(E:PV X e f)(M:PJ X es fs):PJ X (e::es) (f::fs):=λU m b s n H Q T F I O=>by
 refine dt λK=>?_;obtain⟨o,l,d,j,J,q⟩:=O;have J:=J;obtain⟨y,g,J⟩:=za J;obtain⟨Y,B,g⟩:=za g;have C:Y=.str y/\zU y=cm:=by
  cases Y with
  |str z=>
   have g:(if zU z=cm then bB z else cI)=bB y:=g;lia
  |_=>cases g
 obtain⟨rfl,G⟩:=C;refine K ?_;have S:=wC G;have w:m+1+fs.length<=10:=by simp at F;lia
 have Z:(U++y).length<=1000*(m+1):=by rw[Gh];lia
 refine joinParts_consE<|joinParts_cons<|ed (E b s n H (λv h=>∃a,_/\_) I ⟨o,l,_,j,B,λv h a x r=>⟨a,x,r⟩⟩) λv P O=>?_;obtain⟨x,p,u,i,A,k,N⟩:=O;rw[N]at i;obtain⟨t,rfl⟩:=i;exact⟨Tf Z<|Tf (W_ 1000<|show m+1<=10 by lia) ⋯,M (U++y) (m+1) b P n p Q Z w u ⟨A,l,d,j.ext k,J,λv h a R L=>q v h a (k.trans R) L⟩⟩
theorem XZ{j O:dv}{es:List dv}{fs:List (CO D)}(h:PJ X (j::O::es) fs):PV X (.JoinedStr (j::O::es) pos) (QO fs):=by
 intro a s g H Q I U;obtain⟨b,f,d,e,J,q⟩:=U;unfold QO at J;by_cases Y:fs.length<=10
 ·rw[DJ Y]at J
  exact JoinedStr_many<|h xg 0 a s g H Q (SN _) ⋯ I ⟨b,f,d,e,J,q⟩
 lia
theorem Vo{j cpos:eU}(Y:PV X o f)(S:PV X e g)(Z:x8 o "split" X.env (dy o X.env)=dy o X.env:=by rfl)
 (E:((oe cpos<|starEach [e] X.env).all (λx=> !x.1)&&(yg cpos<|keywordEach [] X.env).all (λx=>x.1.isSome)&&decide ([e].length+([]:List tr).length+(if ([]:List tr).isEmpty then 0 else 1)<30))=cm:=by rfl)
 (M:(j.endLine==cpos.line)=cm:=by rfl) (hs:eA [e] X.env=[(cT,dy e X.env)]:=by rfl):PO X (.Call (.Attribute o "split" j) [e] [] cpos) (J4 f g):=
 jK (lu J_ PySem.F.slot_str_split PySem.F.type_str_split Ao Y (z9 S jM hs) Z E M hs rfl) λG H Q t=>by
  refine dt λu=>?_;obtain⟨h,d,n,b,I,q⟩:=t;obtain⟨k,p,I⟩:=za I;obtain⟨m,s,I⟩:=za I;refine u ?_;cases k with
  | str z=>
   cases m with
   | str y=>
    have I:(if _/\_ then bB _ else cI)=bB n:=I;by_cases J:z.length<=20000/\(y.length==0)=cT
    ·rw[DJ J]at I;cases I
     refine⟨h,d,_,b,p,λv A a x r=>?_⟩;rw[r];refine⟨rfl,a,d,_,b.ext x,s,λC B i O w=>?_⟩;rw[w];exact⟨z,y,rfl,rfl,J.2,J.1,λl U=>q l _ _ i ((x.trans O).trans (Ext.hide O.sub U _)) (IH (x.trans O).s1 U) (jd O.sub U) zC<|vJ _⟩
    ·rw[DY J]at I;cases I
   |_=>cases I
  |_=>cases I
theorem sE{X:Cx}:Zz X (.type "int") (λxs H Q=>∃z n,xs=[.str z]/\MN z=bB n/\z.length<=640/\Q (.int n) H):=by intro a s e H xs d Q I r h;obtain⟨z,n,rfl,J,b,q⟩:=h;obtain⟨u,rfl,t,rfl⟩:=kF r;exact PySem.W.KIN.call_text J b ⟨.int n,H,I.tok _,⟨_,rfl⟩,q⟩
theorem cE(h:SX X sc N L k)(c:k9 sc "int" = cm)(z:X.mg "int" = cI)(U:PV X e f)(hs:eA [e] X.env=[(cT,dy e X.env)]:=by rfl):PV X (.Call (.Name "int" p) [e] [] pos) (WM f):=
 jK (vO sE (h.gl c).1 z L' (z9 U jM hs) ⋯ ⋯ hs rfl) λm H Q Y=>by
  obtain⟨g,l,d,j,I,q⟩:=Y;obtain⟨O,i,I⟩:=za I;refine⟨g,l,O,j,i,λv b a ext r=>?_⟩;cases O with
  | str w=>
   have I:(if w.length<=640 then (MN w).map D.int else cI)=bB d:=I;by_cases J:w.length<=640
   ·rw[DJ J]at I
    obtain⟨n,Z,rfl⟩:=zq I;exact⟨w,n,by rw[r],Z,J,q _ b a ext rfl⟩
   ·rw[DY J]at I;cases I
  |_=>cases I
theorem Eu(E:PV X a f)(J:PV X b g)(O:pk .In b=cT:=by with_unfolding_all rfl):PV X (.Compare a [.In] [b] pos) (ux f g):=
 jK (Vu pA E J O) λu H Q U=>by
  obtain⟨j,i,d,h,I,q⟩:=U;obtain⟨Y,m,I⟩:=za I;obtain⟨Z,n,I⟩:=za I;cases Y with
  | str z=>
   cases Z with
   |str y=>
    cases I;exact⟨j,i,_,h,m,λv s e x r=>⟨e,i,_,h.ext x,n,λt k l p o=>⟨z,y,r,o,q _ k l (x.trans p) rfl⟩⟩⟩
   |_=>cases I
  |_=>cases I
end
theorem bN{xs:List V}{j:List dn}(h:ez xs j):∀l:List Nat,ez (l.filterMap λi=>xs[i]?) (l.filterMap λi=>j[i]?)
 |[]=>.nil
 | i::l=>by
  by_cases a:i<xs.length
  ·obtain⟨u,e,r⟩:=h.get (SH a)
   rw[D4 (SH a),D4 e];exact .cons r<|bN h l
  ·have I:¬i<j.length:=by rw[<-h.length];exact a
   rw[MK (UQ ⋯),MK (UQ ⋯)];exact bN h l
theorem cx{K:SD}{H:Hp}{ds:List D}{xs:List V}(h:dr K H ds xs):∀l:List Nat,dr K H (l.filterMap λi=>ds[i]?) (l.filterMap λi=>xs[i]?)
 |[]=>dr.nil
 | i::l=>by
  by_cases a:i<ds.length
  ·obtain⟨u,e,r⟩:=h.get (SH a)
   rw[D4 (SH a),D4 e];exact dr.cons r<|cx h l
  ·have I:¬i<xs.length:=by rw[h.length];exact a
   rw[MK (UQ ⋯),MK (UQ ⋯)];exact cx h l
noncomputable def RE(K:SD)(te:TE)(z j E:TO):TE:=λb H Q=>te b H λx e=>z b e λl f=>j b f λu J=>E b J λk I=>k≠bB 0/\∃a d,x=.ref a/\fy K I a d/\(JJ d l u k).length<=eK/\∀p,I p=cI->Q (.ref p) (upd I p<|.lst<|JJ d l u k)
section
variable{X:Cx}{a e:dv}{p2 pos:eU}
theorem pe{lo j:Option dv}{st:dv}{te:TE}{E z L:TO}(M:PE X e te)(Z:L2.PO X lo E)(hu:L2.PO X j z)(S:L2.PO X (bB st) L):PE X (.Subscript e (.Slice lo j (bB st) p2) pos) (RE X.K te E z L):=by
 intro a s f H Q I h;refine N4 (ed (M a s f H _ I h) λv s1 B=>?_);obtain⟨x,i,o,r1,W⟩:=B;refine wpAny_Slice (ed (Z a s1 f i _ o W) λzef s2 ⟨l,k,p,R,q2⟩=>ed (hu a s2 f k _ p q2) λzeg s3 ⟨u,m,t,T,q3⟩=>ed (S a s3 f m _ t q3) λzee U ⟨g,n,w,P,q4⟩=>?_);refine dt λJ=>?_;obtain⟨N,b,xs,rfl,G,y,q⟩:=q4;refine J ?_;cases r1;have O:Inv X a f n {U with heap:=U.heap.push {cls:=.type "slice",data:=.fields #[zef,zeg,zee]}}:=w.kept λb ob q=>SG _ q;refine dt λJ=>?_;obtain⟨d,r,Y,F⟩:=O.list G;refine J ?_;have C:=r.length;refine tail_any Y.isList.typeIs _k.lookup ?_ (by rfl);refine zen Y.isList (Heap.IsSliceOf.new ..) R T P N ?_ (by rw[SW];lia);have A:OT d.toArray l u g=(JJ d l u g).toArray:=by unfold OT JJ cK;simp
 rw[A];exact⟨.ref _,_,O.E5 (by
  unfold JJ;rw[C];exact bN r _) y,rfl,q _<|O.eI.fresh<|SN _⟩
theorem BM{lo M:Option dv}{st:dv}{E:CO (Sk×List D)}{Z z fs:CO (Option Int)}(S:PQ X a E)(hl:L2.PO X lo (tB X.K Z))(hh:L2.PO X M (tB X.K z))(hk:L2.PO X (bB st) (tB X.K fs)):PO X (.Subscript a (.Slice lo M (bB st) p2) pos) (Mt E Z z fs):=
 jK (pe S hl hh hk) λσ H Q C=>by
  refine dt λF=>?_;obtain⟨o,f,ds,d,I,q⟩:=C;obtain⟨⟨G,h⟩,t,I⟩:=za I;obtain⟨l,w,I⟩:=za I;obtain⟨u,y,I⟩:=za I;obtain⟨c,A,I⟩:=za I;refine F ?_;cases G with
  |T=>cases I
  | L=>
   have I:=I;by_cases U:c=bB 0
   ·rw[DJ U]at I;cases I
   rw[DY U]at I;by_cases Y:(JJ h l u c).length<=lim
   ·rw[DJ Y]at I;cases I
    refine⟨o,f,.L,h,d,t,λb n P g x B h2 r=>⟨g,f,l,d.ext x,w,λR p J=>⟨p,f,u,(d.ext x).ext J,y,λW s e=>⟨s,f,c,((d.ext x).ext J).ext e,A,λH4 j O=>?_⟩⟩⟩⟩;have m:=x.trans<|J.trans<|e.trans O;have k:dr X.K j (JJ h l u c) (JJ n l u c):=by unfold JJ;rw[r.length];exact cx (r.mono (J.trans<|e.trans O).s0) _
    exact⟨U,b,n,rfl,(J.trans<|e.trans O).s1.seq B,Tf (by rw[k.length];exact Y) ⋯,λN i=>q N _ _ j (m.trans<|Ext.hide O.sub i _) (xj m.s1 i) (jd O.sub i) zC k⟩
   ·rw[DY Y]at I;cases I
end
theorem PF{K:SD}{e:DZ}{h:eL}{x z:Str}{t:qd}(I:K.In h)(G:h.Ns n0 e)(a:C4 K n0 x=bB (bB (.str z t))):GL K e x (.str z):=
 ⟨_,.str z,DD I G a,⟨t,rfl⟩,λ_=>(rfl)⟩
abbrev ZF:=List D->Option (D×D)
noncomputable def Hf(f1:CO D)(tA tB tC:CO Bool)(j z E:List D->Option Res):ZF:=λf=>match f with
 |[d,l]=>(f1 [.no,.val l,.no]).bind λe=>(tA [.no,.val l,.val e]).bind λa=>if a=cm then cI else
  (if LS d=cm then tB [.no,.val l,.val e]else bB cT).bind λb=>if b=cm then cI else
  (tC [.no,.val l,.val e]).bind λc=>if c=cm then (j [d,e]).map λr=>(iR r,d)else (z [d,e]).bind λr=>(E [iR r]).map λq=>(iR q,iR r)
 |_=>cI
abbrev ZT:=Ctx->D->Option (Bool×D)
noncomputable def FY(t u:ZT):ZT:=λa d=>(t a d).bind λr=>if r.1=cm then bB (cm,r.2)else u a r.2
noncomputable def nU(e:List Str)(f:CO D):CO D:=λa=>(f a).bind λd=>match d with
 |.str x=>bB (.bl<|!decide (x∈e))
 |_=>cI
noncomputable def Pn(e:List (Str×Int))(f:CO D):CO D:=λa=>(f a).bind λd=>match d with
 |.str x=>(e.lookup x).map D.int
 |_=>cI
noncomputable def sX(v:V):List (Str×V):=bI "row" v []
theorem VU(v:V):(sX v).lookup ("row" : Str)=bB v:=by unfold sX;rw[Zs,DJ rfl]
theorem AO(v:V):(sX v).lookup ("tell" : Str)=cI:=by rfl
structure Dh(K:SD)(C:dj):Prop where
 cls:uQ K C
 nr:A3 K C "row"
noncomputable def aC(H:Hp)(p:dj):Hp:=λb=>if b=p then cI else H b
theorem Xe{H:Hp}{p:dj}:aC H p p=cI:=DJ rfl
theorem Jd{H:Hp}{p b:dj}(h:b≠p):aC H p b=H b:=DY h
theorem pY{H:Hp}{p:dj}:ft (aC H p) H:=λb o e=>by
 by_cases z:b=p
 ·rw[z,Xe]at e;cases e
 ·rw[Jd z]at e;exact e
theorem Fo{C e:dj}{fs:List (Str×V)}:∀xs,HO.ins C e fs ≠ .lst xs:=λxs z=>by cases z
section
variable{K:SD}{E0 E H0 H sf H':Hp}{σ:St}{γ:Ctx}{p:dj}{u:HO}
theorem RS.less(r:RS K E0 E H0 H σ γ)(I:γ.any kP=cT)(j:H p=bB u)(Q:∀xs,u ≠ .lst xs)(L:H0 p=cI)(M:E p=cI):RS K E0 E H0 (aC H p) σ γ:=by
 have J:ft H0 (aC H p):=λb o e=>by rw[Jd (λz=>by lia)];exact r.rc.sub b o e
 refine⟨⟨J,r.rc.len,r.rc.val,λi f e=>?_,r.rc.ne,oz.B5<|pJ I⟩,⟨r.ext.s0,λb o e=>by rw[Jd (λz=>by lia)];exact r.ext.s1 b o e,J,r.ext.new⟩,r.fresh,λi d a xs e=>absurd e<|pJ I i d⟩;obtain⟨a,xs,g,U,O,Y⟩:=r.rc.own i f e;exact⟨a,xs,g,U,by rw[Jd ((λe z=>by rw[z,j]at e;exact Q _<|TJ e) O)];exact O,Y⟩
theorem nO{Q:VK}{r:Res}(s:ft H0 H)(q:∀v H' sf,Ext H0 H sf H'->Rep K sf (iR r) v->Q v H'):Rt K H0 H Q r:=by
 cases r with
 |val d=>exact q
 |own fs=>exact λa f H' sf J b I O e=>q _ H' _ (J.show b I O s)<|⟨a,f,rfl,fy.of zC,e.mono<|jj I _⟩
theorem Eo{d:D}{v:V}(h:Rep K H d v):decide (v=.d9)=LS d:=by
 by_cases z:d=.d9
 ·subst z
  rw[h];rfl
 ·rw[decide_eq_false (λq=>z<|XU<|q ▸ h)]
  cases d with
  |d9=>exact absurd rfl z
  |_=>rfl
end
noncomputable def NL(K:SD)(C:dj)(F:ZF):Sp:=λh H Q _=>∃b p g v d l I o f,h=[.ref p,I]/\ft b H/\b p=cI/\H p=bB (.ins C g<|sX v)/\Rep K b d v/\Rep K b l I/\F [d,l]=bB (o,f)/\
 ∀u J e a,Ext b (aC H p) a e->e p=bB (.ins C g<|sX J)->a p=cI->Rep K a o u->Rep K a f J->Q u e
noncomputable def Ys:TS:=λ_ _ _=>False
theorem X8{X:Cx}{e:List hB}:mm X e Ys:=λ_ _ _ _ _ _ h=>h.elim
abbrev Mq(K:SD):TE:=Pk K (tK 0) "row"
abbrev RP:R2:=λx y H Q=>y=.d9/\Q (.bl (decide (x=.d9))) H
abbrev nA(K:SD)(tB:CO Bool):L2.TT:=Pl (CN (Dy RP (Mq K) (tC .d9))) (tT K tB)
noncomputable def Nz(K:SD)(f1:CO D)(tA tB tC:CO Bool)(e j z:List D->Option Res):TS:=
 GC (bG (tV K f1)<|vd 2) (GC (Ms (tT K tA) Ys uk) (GC (Ms (nA K tB) Ys uk) (GC (Ms (tT K tC) (Mr<|bQ (o3 K 2 e) [] E0 (bP (Mq K)<|bP (tV K<|zf 2) Bw)) uk)
  (GC (NN K (tK 0) (bQ (o3 K 2 j) [] E0 (bP (Mq K) (bP (tV K (zf 2)) Bw))) "row") (Mr (bQ (o3 K 1 z) [] E0 (bP (Mq K) Bw)))))))
theorem Em{K:SD}{e H:Hp}{p:dj}{l:D}{I:V}(j:ft e H)(J:Rep K e l I):RS K e H e H (Ve ["self","line","words"] [.ref p,I]) [.no,.val l,.no]:=
 (fJ (N:=["self","line","words"]) j (dr.cons (d:=D.d9) rfl (dr.cons J dr.nil)) (show 2<=3 by decide)).forget (i:=0)
theorem OI{A B:Prop}(h:B):if (cT=cm)then A else B:=by rw[DY TL];exact h
theorem H?{A B:Prop}(h:A):if (cm=cm)then A else B:=by rw[DJ rfl];exact h
section
variable{P:gg}{w:fA}{K:SD}{mg:DZ}{base:eL}{k:Nat}{q:Str}{st:hB}{f C:dj}{fd:nf}{f1:CO D}{tA tB tC:CO Bool}{FA FC FR:List D->Option Res}
theorem AQ(Fu:L2.p8 K "tell" q st f fd)(hd:dO ["self","line","words"] ["self","line"] st=cm)(c:Dh K C)
 (bd:∀X,X.prog=P->X.w=w->X.K=K->X.mg=mg->X.base=base->SX X (jh st) ["self","line","words"] ["self","line","words"] k->mm X (qv st) (Nz X.K f1 tA tB tC FA FC FR)):
 ml P w K mg base n4 (k+1) f fd ["self","line"] (NL K C (Hf f1 tA tB tC FA FC FR)):=by
 have S:=QZ hd;refine Fu.ok S (λvs H Q E h=>by obtain⟨L,p,g,v,d,l,lv,o,d',rfl,_⟩:=h;rfl) λOz A outer s H vs Q E hr bf=>⟨_,bd _ rfl rfl rfl rfl rfl ⟨rfl,rfl,S.nd,rfl,hr,λ_ _=>.inl rfl⟩,?_⟩;refine dt λkZ=>?_;obtain⟨L,p,g,v,d,l,lv,o,d',rfl,s0,h0,hp,rv,rl,I,qq⟩:=bf;obtain⟨m,e1,I⟩:=za I;obtain⟨a,e2,I⟩:=za I;refine kZ ?_;have ap:=Em (p:=p) s0 rl;cases a with
 |true=>cases I
 | false=>
  obtain⟨b,e3,I⟩:=za I;cases b with
  |true=>cases I
  | false=>
   obtain⟨cc,e4,I⟩:=za I;refine⟨L,_,m,ap.rc,e1,λwv H1 bv x1 r1=>?_⟩;have ax:=(ap.rc.ext x1).t8 (i:=2) r1;refine⟨bv,_,cT,ax,e2,λN W x2=>OI ?_⟩;have Z:=x1.trans x2;have b1:=ax.ext x2;have T:∀D,(∀H' M,Ext W N M H'->D cT H')->nA K tB ((Ve _ [.ref p,lv]).set 2 (bB wv)) N D:=λD hD=>by
    refine⟨.ref p,rfl,p,C,g,sX v,v,rfl,Z.s1 _ _ hp,c.cls,c.nr,VU v,rfl,_,rfl,?_⟩;rw[Eo (rv.mono Z.s0)];cases hn:LS d with
    |true=>
     rw[hn,DJ rfl]at e3;rw[DJ rfl];exact⟨W,_,cT,b1,e3,hD⟩
    |false=>
     rw[DY TL];exact hD N W<|Ext.refl Z.sub
   refine T _ λH3 c4 x3=>OI ?_;have b3:=b1.ext x3;refine⟨c4,_,cc,b3,e4,λH4 a5 x4=>?_⟩;have n:=(Z.trans x3).trans x4;have b5:=b3.ext x4;have t:=n.s1 _ _ hp;have a6:=rv.mono n.s0;have b6:=n.new p h0 ⋯;have E4:∀{G F},Ext a5 H4 F G->Ext L (aC H p) F G:=λ{G F} y=>by
    have z:=n.trans y;exact⟨z.s0,λb o e=>z.s1 b o<|pY b o e,z.sub,λb q1 U=>by
     by_cases hb:b=p
     ·subst hb;exact absurd Xe U
     ·rw[Jd hb]at U;exact z.new b q1 U⟩
   cases cc with
   |true=>
    rw[DJ rfl]at I;obtain⟨r,e5,e6⟩:=zq I;cases e6;refine H? ⟨.ref p,rfl,p,C,g,sX v,v,rfl,t,c.cls,c.nr,VU v,a5,_,m,b5,rfl,λc9 H5 ac J r5=>?_⟩;refine⟨ac,[d,m],r,J.sub,dr.cons (a6.mono J.s0)<|dr.cons r5 dr.nil,rfl,e5,nO J.sub λu R x x6 B=>?_⟩;have O:=J.trans x6;exact qq u v R x (E4 O) (O.s1 _ _ t) (O.new p b6 ⋯) B<|a6.mono O.s0
   | false=>
    obtain⟨r,e5,I⟩:=za I;obtain⟨r2,e6,e7⟩:=zq I;cases e7;refine OI ⟨.ref p,rfl,p,C,g,sX v,v,rfl,t,c.cls,c.nr,VU v,a5,_,m,b5,rfl,λc9 H5 ac J r5=>?_⟩;refine⟨ac,[d,m],r,J.sub,dr.cons (a6.mono J.s0)<|dr.cons r5 dr.nil,rfl,e5,nO J.sub λu R x x6 B=>?_⟩;have O:=J.trans x6;have cd:=O.new p b6 ⋯;refine⟨.ref p,rfl,p,C,g,sX v,rfl,O.s1 _ _ t,c.cls,c.nr,by show 1<1000;decide,?_⟩;have s6:ft x (upd R p<|.ins C g<|sX u):=λb Y e=>by rw[zE (λz=>by lia)];exact O.sub b Y e
    refine⟨.ref p,rfl,p,C,g,sX u,u,rfl,zC,c.cls,c.nr,VU u,?_⟩;refine⟨x,[iR r],r2,s6,dr.cons B dr.nil,rfl,e6,nO s6 λu2 H7 ch j r7=>?_⟩;have z:=E4 O;refine qq u2 u H7 ch ⟨z.s0.trans j.s0,λb Y e=>j.s1 b Y (by rw[zE (λy=>by rw[y,Xe]at e;cases e)];exact z.s1 b Y e),j.sub,λb q1 U=>?_⟩ (j.s1 _ _ zC) (j.new p cd<|by rw[zC];simp) r7<|B.mono j.s0
    ·refine j.new b (z.new b q1 U) ?_
     rw[zE (λy=>by rw[y,Xe]at U;exact U rfl)];cases y:aC H p b with
     |none=>exact absurd y U
     |some Y=>rw[z.s1 b Y y];simp
end
noncomputable def Ho(C:dj):Sp:=λb H Q _=>∃x a,b=[.ref x]/\H x=bB (.ins C a [])/\Q .d9 (upd H x<|.ins C a<|sX .d9)
section
variable{P:gg}{w:fA}{K:SD}{mg:DZ}{base:eL}{k:Nat}{q:Str}{st:hB}{f C:dj}{fd:nf}
theorem AR(I:L2.p8 K "__init__" q st f fd)(e:dO ["self"] ["self"] st=cm)(c:Dh K C)
 (J:∀X,X.prog=P->X.w=w->X.K=K->X.mg=mg->X.base=base->SX X (jh st) ["self"] ["self"] k->mm X (qv st) (NN X.K (tK 0) (tC .d9) "row")):
 ml P w K mg base n4 (k+1) f fd ["self"] (Ho C):=by
 have S:=QZ e;refine I.ok S (λg H Q E h=>by obtain⟨x,b,rfl,_⟩:=h;rfl) λd A a s H g Q E O U=>⟨_,J _ rfl rfl rfl rfl rfl ⟨rfl,rfl,S.nd,rfl,O,λ_ _=>.inl rfl⟩,?_⟩;obtain⟨x,b,rfl,Y,Z⟩:=U;exact⟨.ref x,rfl,x,C,b,[],rfl,Y,c.cls,c.nr,⋯,Z⟩
end
structure ZS(K:SD)(i:Nat)(C p dx:dj)(E0 E H0 H:Hp)(σ:St)(γ:Ctx)(d:D):Prop where
 rs:RS K E0 E H0 H σ γ
 nn:γ.any kP=cT
 sl:σ[i]? = bB (bB (.ref p))
 h0:H0 p=cI
 he:E p=cI
 hp:∃v,H p=bB (.ins C dx<|sX v)/\Rep K H0 d v
theorem ZS.step{K:SD}{i:Nat}{C p M:dj}{E0 E L H j J:Hp}{O:St}{γ:Ctx}{d:D}(z:ZS K i C p M E0 E L H O γ d)(e:Ext L H j J):ZS K i C p M E0 E j J O γ d:=by obtain⟨v,a,I⟩:=z.hp;exact⟨z.rs.step e,z.nn,z.sl,e.new p z.h0 ⋯,z.he,v,e.s1 _ _ a,I.mono e.s0⟩
noncomputable def C0(K:SD)(i:Nat)(C:dj)(t:ZT):L2.TT:=λg H Q=>∃p f E0 E h b d r,ZS K i C p f E0 E h H g b d/\t b d=bB r/\∀e a,ZS K i C p f E0 E a e g b r.2->Q r.1 e
section
variable{X:Cx}{i:Nat}{C:dj}{c c2:dv}{t u:ZT}{pos:eU}
theorem Es(e:PT X c (C0 X.K i C t)):PW X (.BoolOp .Or [c] pos) (C0 X.K i C t):=BG e
theorem HU(E:PT X c (C0 X.K i C t))(L:PW X (.BoolOp .Or [c2] pos) (C0 X.K i C u)):PT X (.BoolOp .Or [c,c2] pos) (C0 X.K i C<|FY t u):=by
 refine(Et (HJ E L) λn H Q k=>?_).pt;refine dt λl=>?_;obtain⟨p,b,O,a,g,f,d,m,z,I,U⟩:=k;obtain⟨J,j,I⟩:=za I;refine l ?_;refine⟨p,b,O,a,g,f,d,J,z,j,λh Y e=>?_⟩;by_cases Z:J.1=cm
 ·rw[DJ Z]at I ⊢
  cases I;exact U h Y e
 ·rw[DY Z]at I ⊢
  exact⟨p,b,O,a,Y,f,J.2,m,e,I,U⟩
end
abbrev GE:=Str×qd×Int×qd
structure Di(w:fA)(K:SD)(mg:DZ)(x:Str)(kv:List (Str×Int)):Prop where
 ex:∃a o es ep,∃zs:List GE,mg x=bB (.ref a)/\(a==uJ)=cT/\K.lookup a=bB o/\o.ExactDict/\o.data=.dict es ep/\es.toList=zs.map (λz=>⟨L1 w z.1,.str z.1 z.2.1,.int z.2.2.1 z.2.2.2⟩)/\zs.map (λz=>(z.1,z.2.2.1))=kv
theorem Cj{P:gg}{w:fA}(k:Str):∀j:List GE,(((j.map λz=>(⟨L1 w z.1,.str z.1 z.2.1,.int z.2.2.1 z.2.2.2⟩:N1)).find? λe=>(strKind P w).is k e.key).map (·.val))=(j.find? λz=>z.1==k).map λz=>DO z.2.2.1 z.2.2.2
 |[]=>rfl
 | z::j=>by
  rw[Tw];by_cases h:z.1=k
  ·rw[List.find?_cons_of_pos (by exact(by rw[h];exact Nj P w k _)),List.find?_cons_of_pos (by simpa using h)]
   rfl
  ·rw[_a (by exact(λq=>h<|(strKind P w).inj _ _ _ (Nj P w z.1 z.2.1) q)),_a (by simpa using h)]
   exact(Cj (P:=P) (w:=w) k j)
theorem Ln{P:gg}{w:fA}{h:eL}{a:dj}{o:l6}{es:Array N1}{E:Nat}{j:List GE}(J:h.get? a=bB o)(O:o.ExactDict)(L:o.data=.dict es E)(H:es.toList=j.map (λz=>⟨L1 w z.1,.str z.1 z.2.1,.int z.2.2.1 z.2.2.2⟩)):
 h.MapOf (strKind P w) a (λk=>(j.find? λz=>z.1==k).map λz=>DO z.2.2.1 z.2.2.2):=by
 refine⟨o,es,E,J,O,L,λe I=>?_,λk=>?_⟩
 ·have I:e∈es.toList:=by simpa using I
  rw[H]at I;obtain⟨z,_,rfl⟩:=Tb.mp I;exact⟨z.1,Nj P w z.1 _,rfl⟩
 ·unfold findBy
  have:=Cj (P:=P) (w:=w) k j;rw[<-H,Array.find?_toList]at this;exact this
theorem Lm(k:Str):∀e:List GE,((e.find? λz=>z.1==k).map λz=>DO z.2.2.1 z.2.2.2).isSome=decide (k∈(e.map λz=>(z.1,z.2.2.1)).map (·.1))
 |[]=>by simp
 |z::e=>by grind
theorem PL{k:Str}{i:Int}:∀{j:List GE},(j.map λz=>(z.1,z.2.2.1)).lookup k=bB i->∃t,((j.find? λz=>z.1==k).map λz=>DO z.2.2.1 z.2.2.2)=bB (.int i t)
 |[],e=>by cases e
 | z::j,e=>by
  by_cases h:z.1=k
  ·simp_all
  ·rw[_a (by simpa using h)]
   simp only[Tw,List.lookup,(beq_eq_false_iff_ne.mpr λq=>h q.symm)]at e;exact PL e
section
variable{X:Cx}{sc:f6}{N L:List Str}{k:Nat}{a:dv}{f:CO D}{pos p:eU}{x:Str}{kv:List (Str×Int)}
theorem pj{b:dj}(h:SX X sc N L k)(c:k9 sc x=cm)(J:X.mg x=bB (.ref b)):PE X (.Name x p) (tC<|.ref b):=λa s d H Q I O=>Kr I (h.gl c).1 J ⟨.ref b,H,I,rfl,O⟩ (h.gl c).2.2
theorem iY(G:Di X.w X.K X.mg x kv)(h:SX X sc N L k)(M:PV X a f)(c:k9 sc x=cm:=by decide +kernel)(U:pk .NotIn (.Name x p)=cT:=by with_unfolding_all rfl):k4 X (.Compare a [.NotIn] [.Name x p] pos) (sB<|nU (kv.map (·.1)) f):=by
 refine dt λO=>?_;obtain⟨b,o,es,ep,zs,Y,g2,Z,A,B,C,E⟩:=G.ex;refine O ?_;have S:h6 X (m3 .NotIn) (λx y H Q=>∃k,x=.str k/\y=.ref b/\Q (.bl<|!decide (k∈kv.map (·.1))) H):=by intro g s σ H x y v u Q I W ry P;obtain⟨R,rfl,rfl,q⟩:=P;obtain⟨t,rfl⟩:=W;cases ry;refine wpAny_notIn_of (Nj X.prog X.w R t) g2 (Ln (I.i8 _ _ Z) A B C) ⟨.bl _,H,I.tok _,rfl,?_⟩;rw[Lm,E];exact q
 refine X6 (Zq S M (pj h c Y) U) λσ H Q F=>?_;refine dt λO=>?_;obtain⟨j,γ,t,T,J,q⟩:=F;obtain⟨db,l,n⟩:=za J;obtain⟨d,m,J⟩:=za l;refine O ?_;cases d with
 |str z=>
  cases J;cases n;exact⟨j,γ,_,T,m,λv i e x r=>⟨z,r,rfl,_,rfl,q i e x⟩⟩
 |_=>cases J
theorem HM(G:Di X.w X.K X.mg x kv)(h:SX X sc N L k)(ha:PV X a f)(c:k9 sc x=cm:=by decide +kernel)(hs:Nr a:=by intro _ _;rfl):PV X (.Subscript (.Name x p) a pos) (Pn kv f):=by
 obtain⟨b,o,es,ep,zs,g1,g2,g3,R,S,T,W⟩:=G.ex;intro e s u H Q I hZ;refine dt λkZ=>?_;obtain⟨A,γ,d,rc,J,q⟩:=hZ;obtain⟨C,E,J⟩:=za J;refine kZ ?_;cases C with
 |str z=>
  obtain⟨i,Y,rfl⟩:=zq J;rw[<-W]at Y;obtain⟨t,M⟩:=PL Y;refine nE PySem.F.slot_dict_getitem.lookup hs<|ed (pj h c g1 e s u H (λy j=>y=.ref b/\j=H) I ⟨rfl,rfl⟩) λu1 s1 O=>?_;obtain⟨y,j,B,U,rfl,rfl⟩:=O;cases U;refine ed (ha e s1 u j (λy l=>∃Z,_/\y=.str z) B ⟨A,γ,_,rc,E,λv H' g x r=>⟨g,x,r⟩⟩) λu2 s2 O=>?_;obtain⟨y,l,m,U,Z,x2,rfl⟩:=O;obtain⟨t2,rfl⟩:=U;have n:=Ln (P:=X.prog) (m.i8 _ _ g3) R S T;exact⟨n.typeIs,wpAny_getItem_of (Nj X.prog X.w z t2) n M ⟨.int i,l,m.tok _,⟨t,rfl⟩,q _ l Z x2 rfl⟩⟩
 |_=>cases J
end
theorem wD{X:Cx}{e:List hB}:ik X e xQ:=λa s g H D I h=>by refine dt λJ=>?_;obtain⟨E0,E,b,f,Q,d,O,U⟩:=h;refine J ?_;cases O
section
variable{X:Cx}{sc:f6}{N L:List Str}{k j n:Nat}{e:dv}{es:List dv}{F:List D->Option Res}{x:Str}{p pos:eU}{t:TA}
theorem pq(I:eg X.prog X.w X.K X.mg X.base j x n F)(h:SX X sc N L k)(z:PA X (e::es) t)(J:j<=k:=by decide)(c:k9 sc x=cm:=by decide +kernel)
 (E:eA (e::es) X.env=(cT,dy e X.env)::eA es X.env:=by rfl) (O:(oe pos<|starEach es X.env).any (·.1)=cT:=by rfl):PE X (.Call (.Name x p) (e::es) [] pos) (bQ (o3 X.K n F) [] E0 t):=by
 obtain⟨a,b,d,Q,G,U,Y,Z⟩:=I.ex;subst Q;exact cM G (h.room.mono J) (h.gl c).1 U Y Z .nil pv z (h.gl c).2.2 E O
end
section
variable{X:Cx}{a:dv}{pos:eU}
theorem Ey{c:dv}{e:CO D}(E:PV X a e){J:CO (Sk×List D)}(O:PQ X c J)(U:pk .In c=cT:=by with_unfolding_all rfl):k4 X (.Compare a [.In] [c] pos) (sB<|uy e J):=
 X6 (Zq Kb E O U) λR H Q Y=>by
  refine dt λZ=>?_;obtain⟨j,i,d,g,I,q⟩:=Y;obtain⟨K,s,A⟩:=za I;obtain⟨x,t,I⟩:=za s;obtain⟨⟨f,o⟩,u,I⟩:=za I;refine Z ?_;cases x with
  | str w=>
   obtain⟨l,z,rfl⟩:=zq I;cases A;refine⟨j,i,_,g,t,λN G m h C=>⟨m,i,f,o,g.ext h,u,λp P k n F b M r=>?_⟩⟩;have B:=vD r z;subst B;subst C;refine⟨p,_,rfl,by
    cases f with
    |L=>exact .inl b
    |T=>exact .inr b,rfl,ZJ l,?_⟩
   have:uC (.str w) (l.map V.str)=l.any λy=>y==w:=by unfold uC;rw[Nc];rfl
   rw[this];exact⟨_,rfl,q k n<|h.trans F⟩
  |_=>cases I
end
section
variable{X:Cx}{sc:f6}{N L:List Str}{k:Nat}{p pos:eU}{C:dj}
structure N0(P:gg)(w:fA)(K:SD)(mg:DZ)(base:eL)(C:dj):Prop where
 ex:∃(f:dj) (fd:nf),Mk K C f/\ml P w K mg base n4 1 f fd ["self"] (Ho C)/\mg "Desk" = bB (.ref C)/\Binds K fd ["self"] []
theorem EO(I:N0 X.prog X.w X.K X.mg X.base C)(J:2<=k)(h:SX X sc N L k)(c:k9 sc "Desk" = cm):PE X (.Call (.Name "Desk" p) [] [] pos) (CQ C (Ho C) [] E0 Bw):=by obtain⟨f,a,M,F,O,Q⟩:=I.ex;exact zdX M F (h.room.mono J) (h.gl c).1 O Q .nil pv (h.gl c).2.2
end
structure U4(K:SD)(mg:DZ)(sI sT:hB):Prop where
 ex:∃(C fI fT:dj) (dI dT:nf),mg "Desk" = bB (.ref C)/\Mk K C fI/\Dh K C/\KX K C "tell" fT/\L2.p8 K "__init__" "Desk.__init__" sI fI dI/\L2.p8 K "tell" "Desk.tell" sT fT dT/\Binds K dI ["self"] []/\Binds K dT ["self","line"] []
noncomputable def LB(K:SD)(C:dj):Bool:=PySem.W.makesIn K C&&UY K (.ref C)&&MW K C xg&&Rh K C&&V_ K C&&
 Um K (.ref C) "__setattr__" == bB (bB (.builtin "object.__setattr__"))&&Um K (.ref C) "row" == bB cI
section
variable{K:SD}{mg:DZ}{h:eL}
theorem Ox{sI z:hB}{C H fT:dj}{U Y:dn}{Z eT aI aT:Option dj}{lI lT:Array (Option dn)}{kI dI pI I zdv kT dT pT J tT:dn}(X:K.In h)(G:h.Ns n0 mg)
 (nC:C4 K n0 "Desk" = bB (bB (.ref C))) (iC:Um K (.ref C) "__init__" = bB (bB (.ref H))) (mC:Um K (.ref C) "tell" = bB (bB (.ref fT)))
 (uI:K.lookup H=bB ⟨U,Z,.func (UZ "__init__" "Desk.__init__" (yA sI) (qv sI) (jh sI) .none kI dI pI aI I zdv),lI⟩)
 (uT:K.lookup fT=bB ⟨Y,eT,.func (UZ "tell" "Desk.tell" (yA z) (qv z) (jh z) .none kT dT pT aT J tT),lT⟩)
 (vI:F5 K I "Desk.__init__" = cm) (vT:F5 K J "Desk.tell" = cm) (w1:UY K (.ref H)=cm) (S:UY K (.ref fT)=cm)
 (z1:M8 K (.ref H)=cm) (z2:M8 K (.ref fT)=cm) (b:LB K C=cm)
 (gI:∀kV j M L e ct E,E.length=1->D6 (UZ "__init__" "Desk.__init__" (yA sI) (qv sI) (jh sI) .none kV j M L e ct) ⟨E,[]⟩=pure ((["self"]:List Str).zip E))
 (gT:∀kV j M L e ct E,E.length=2->D6 (UZ "tell" "Desk.tell" (yA z) (qv z) (jh z) .none kV j M L e ct) ⟨E,[]⟩=pure ((["self","line"]:List Str).zip E)):U4 K mg sI z:=by
 unfold LB at b;simp only[Td,beq_iff_eq]at b;obtain⟨⟨⟨⟨⟨⟨a,d⟩,f⟩,g⟩,i⟩,k⟩,l⟩:=b;have O:=rM uI vI w1;have Q:=rM uT vT S;exact⟨C,H,fT,_,_,DD X G nC,⟨a,iC,z1,d⟩,⟨⟨f,g,i,k⟩,l⟩,⟨mC,z2,S⟩,O,Q,O.binds gI,Q.binds gT⟩
theorem MR{w:fA}{x:Str}{H:List (Str×Int)}{a:dj}{o:l6}{es:Array N1}{E:Nat}(j:List GE)(I:K.In h)(G:h.Ns n0 mg)(n:C4 K n0 x=bB (bB (.ref a)))(l:K.lookup a=bB o)(s:(a==uJ)=cT)(e:o.ExactDict)(d:o.data=.dict es E)
 (z:es.toList=j.map (λz=>⟨L1 w z.1,.str z.1 z.2.1,.int z.2.2.1 z.2.2.2⟩)) (k:j.map (λz=>(z.1,z.2.2.1))=H):Di w K mg x H:=⟨a,o,es,E,j,DD I G n,s,l,e,d,z,k⟩
end
abbrev ZC:=Ctx->D->Option (Fl×D)
abbrev ZV:=Ctx->D->Option (D×D)
noncomputable def Wj(a b:ZC):ZC:=λg d=>(a g d).bind λr=>match r.1 with
 |.next e=>b e r.2
 |f=>bB (f,r.2)
noncomputable def mK(i:Nat)(T:Tg)(f:CO D):ZC:=λb d=>if iE i T=cm then (f b).bind λv=>(qx T v b).map λa=>(.next a,d)else cI
noncomputable def Nv(f:CO D):ZC:=λa d=>(f a).map λv=>(.ret<|.val v,d)
noncomputable def wh(t:ZT):ZC:=λa d=>(t a d).map λr=>(if r.1=cm then .ret (.val<|.bl cT)else .next a,r.2)
noncomputable def QL(e:ZF)(j:CO D):ZV:=λa d=>(j a).bind λl=>e [d,l]
noncomputable def MF(v:ZV):ZC:=λa d=>(v a d).map λo=>(.next a,o.2)
noncomputable def tX(v:ZV)(e:CO D):ZT:=λa d=>(v a d).bind λo=>(e a).bind λr=>((h8 o.1 r).bind uu).map λb=>(b,o.2)
noncomputable def ZG(T:Tg)(F:ZC):List D->ZC
 |[],a,d=>bB (.next a,d)
 |x::e,a,d=>(qx T x a).bind λb=>(F b d).bind λr=>match r.1 with
  |.next I=>ZG T F e I r.2
  |.ret q=>bB (.ret q,r.2)
  |_=>cI
noncomputable def tY(i:Nat)(e:CO (List D))(T:Tg)(F:ZC):ZC:=λa d=>if iE i T=cm then (e a).bind λb=>ZG T F b a d else cI
noncomputable def WO(i:Nat)(z:ZC):CO Fl:=λa=>if (a.set i .no).any kP=cT/\i<a.length then (z (a.set i .no) .d9).bind λr=>match r.1 with
 |.ret q=>bB (.ret q)
 |_=>cI else cI
noncomputable def Sq(K:SD)(i:Nat)(C p e:dj)(E0 E:Hp)(Q:Ends):Fl×D->Prop
 |(.next f,d)=>∀a H b,ZS K i C p e E0 E b H a f d->Q.nx a H
 |(.ret q,_)=>Sat K E0 E Q<|.ret q
 |_=>False
noncomputable def tZ(K:SD)(i:Nat)(C:dj)(z:ZC):TS:=λQ f H=>∃p a E0 E e b d r,ZS K i C p a E0 E e H f b d/\z b d=bB r/\Sq K i C p a E0 E Q r
noncomputable def O1(K:SD)(i:Nat)(C:dj)(v:ZV):TE:=λg H Q=>∃p f E0 E h b d r,ZS K i C p f E0 E h H g b d/\v b d=bB r/\∀u e a,ZS K i C p f E0 E a e g b r.2->Rep K a r.1 u->Q u e
theorem ZS.names{K:SD}{i:Nat}{C p j:dj}{E0 E e H:Hp}{z I:St}{γ γ':Ctx}{d:D}(x:ZS K i C p j E0 E e H z γ d)(r:RS K E0 E e H I γ')(n:γ'.any kP=cT)(s:I[i]? = z[i]?):ZS K i C p j E0 E e H I γ' d:=⟨r,n,by rw[s];exact x.sl,x.h0,x.he,x.hp⟩
structure N5(P:gg)(w:fA)(K:SD)(mg:DZ)(base:eL)(j:Nat)(C:dj)(TF:ZF):Prop where
 ex:∃(f:dj) (fd:nf),Dh K C/\KX K C "tell" f/\ml P w K mg base n4 j f fd ["self","line"] (NL K C TF)/\Binds K fd ["self","line"] []
section
variable{X:Cx}{sc:f6}{N L:List Str}{k j i:Nat}{C:dj}{TF:ZF}{e r o c:dv}{fe fr f:CO D}{t u:ZT}{v:ZV}{a b F:ZC}{pos apos:eU}{x:Str}{st:hB}{k8 body:List hB}{T:Tg}
theorem Jy(M:PS X st (tZ X.K i C a))(U:mm X k8 (tZ X.K i C b)):mm X (st::k8) (tZ X.K i C<|Wj a b):=λf s o H Q I Y=>by
 refine(yf M U) f s o H Q I ?_;refine dt λZ=>?_;obtain⟨p,h,E0,E,j,n,d,r,z,J,O⟩:=Y;obtain⟨⟨f1,k⟩,l,J⟩:=za J;refine Z ?_;refine⟨p,h,E0,E,j,n,d,_,z,l,?_⟩;cases f1 with
 |next e=>exact λt u g m=>⟨p,h,E0,E,g,e,k,r,m,J,O⟩
 |ret q=>cases J;cases q<;>exact O
 |brk e=>cases J;exact O
 |cont e=>cases J;exact O
theorem mR(z:PS X st (tZ X.K i C a)):mm X [st] (tZ X.K i C a):=vM z
theorem CA(h:PS X st (bG (tV X.K f)<|oT X.K T)):PS X st (tZ X.K i C<|mK i T f):=xS h λQ w H O=>by
 obtain⟨p,t,E0,E,g,o,d,r,z,I,U⟩:=O;unfold mK at I;split at I
 ·next Y=>
  obtain⟨v,k,I⟩:=za I;obtain⟨s,J,rfl⟩:=zq I;refine⟨g,o,v,z.rs.rc,k,λu j Z e n=>?_⟩;have a:=z.step e;exact YX e.sub n J Y λb m l=>U b j Z<|a.names (l E0 E a.rs) (bj J a.nn) m
 lia
theorem Nu(h:PV X e f):PS X (.Return (bB e) pos) (tZ X.K i C<|Nv f):=xS (QB h) λQ m H I=>by obtain⟨p,l,E0,E,a,k,d,r,z,J,O⟩:=I;obtain⟨v,g,rfl⟩:=zq J;exact⟨a,k,v,z.rs.rc,g,λu b U j Y=>O u b U (z.rs.ext.trans j) Y⟩
theorem Pf(U:PT X c (C0 X.K i C t))(I:mm X body (Mr<|tC<|.bl cT)):PS X (.If c body [] pos) (tZ X.K i C<|wh t):=xS (oP U I X7) λQ k H Y=>by
 refine dt λZ=>?_;obtain⟨p,f,E0,E,e,j,d,r,z,h,J⟩:=Y;obtain⟨q,g,rfl⟩:=zq h;refine Z ?_;refine⟨p,f,E0,E,e,j,d,q,z,g,λa O b=>?_⟩;by_cases I:q.1=cm
 ·rw[DJ I]at J ⊢
  exact J (.bl cT) a O b.rs.ext rfl
 ·rw[DY I]at J ⊢
  exact J k a O b
theorem Ry(h:PE X e (O1 X.K i C v))(hs:tG e cI pos.line X.env=pure cT:=by rfl):PS X (.Expr e pos) (tZ X.K i C<|MF v):=xS (Vn h hs) λQ l H I=>by obtain⟨p,f,E0,E,a,k,d,r,z,J,O⟩:=I;obtain⟨q,g,rfl⟩:=zq J;exact⟨p,f,E0,E,a,k,d,q,z,g,λu b U j _=>O l b U j⟩
theorem Xd{pl:Sem Bool}(Y:N5 X.prog X.w X.K X.mg X.base j C TF)(Z:j<=k)(h:SX X sc N L k)(ho:PE X o (tK i))(S:PV X e fe)
 (hs:eA [e] X.env=(cT,dy e X.env)::eA [] X.env:=by rfl) (E:(oe pos<|starEach [] X.env).any (·.1)=cT:=by rfl)
 (ht:dy (.Call (.Attribute o "tell" apos) [e] [] pos) X.env=(do
   let I<-dy o X.env
   y6 apos.atName
   let (f,first)<-rn [I] (OD I "tell" pl)
   callWith pos f first (oe pos<|starEach [e] X.env) (yg pos<|keywordEach [] X.env)):=by rfl):
 PE X (.Call (.Attribute o "tell" apos) [e] [] pos) (O1 X.K i C (QL TF fe)):=by
 obtain⟨f,fd,c,T,G,R⟩:=Y.ex;refine jK (EM ho c.cls T G (h.room.mono Z) R .nil pv (z9 S jM hs) hs E ht) λσ H Q P=>?_;refine dt λW=>?_;obtain⟨p,b,zeD,F1,m,γ,d,J,z,F,r⟩:=P;obtain⟨l,A,B⟩:=za F;obtain⟨O,M,_⟩:=z.hp;refine W ?_;refine⟨.ref p,z.sl,p,b,sX O,rfl,M,AO O,m,γ,l,z.rs.rc,A,λlv H1 ad g r1=>?_⟩;have a:=z.step g;obtain⟨v,U,g2⟩:=a.hp;exact⟨ad,p,b,v,d,l,lv,J.1,J.2,rfl,g.sub,a.h0,U,g2,r1,B,λu v' n s x2 t x ru y=>r u n s ⟨(a.rs.less a.nn U Fo a.h0 a.he).step x2,z.nn,z.sl,x,z.he,v',t,y⟩ ru⟩
theorem cG(h:SX X sc N L k)(U:PE X e (O1 X.K i C v))(Y:PV X r fr):PT X (.Compare e [.NotEq] [r] pos) (C0 X.K i C<|tX v fr):=by refine X6 (Zq (pz h.C3) U Y<|yI r) λσ H Q Z=>?_;refine dt λS=>?_;obtain⟨p,E,l,m,n,j,d,zgC,z,I,t⟩:=Z;obtain⟨f,F,I⟩:=za I;obtain⟨J,G,I⟩:=za I;obtain⟨b,M,I⟩:=zq I;obtain⟨B,P,R⟩:=za M;refine S ?_;subst I;refine⟨p,E,l,m,n,j,d,f,z,F,λu H2 x g W=>?_⟩;refine⟨x,j,J,g.rs.rc,G,λrv o y a T=>?_⟩;refine bX y o u rv f.1 J B _ a.sub (W.mono a.s0) T P λw s A x4 O=>?_;rw[Jr R]at O;exact⟨b,O,t s A<|g.step<|a.trans x4⟩
theorem GR{tg M:dv}{S:CO (List D)}(hp:Lw (d8 X.prog X.w) X.A X.env X.xe)(hc:X.calm=cm)(hi:g9 X tg M S)(hg:PG X tg (oT X.K T))(hb:mm X body (tZ X.K i C F))
 (hs:∀x,oI M X.env x=pure x:=by intro _;rfl):PS X (.For tg M body [] pos) (tZ X.K i C<|tY i S T F):=xS (oQ hp hc hi hg hb hs) λQ t H hZ=>by
 refine dt λkZ=>?_;obtain⟨p,N,E0,E,g,b,d,r,z,O,G⟩:=hZ;refine kZ ?_;unfold tY at O;split at O
 ·next al=>
  obtain⟨a,e1,O⟩:=za O;refine⟨g,b,a,z.rs.rc,e1,λJ H1 U x1 l=>?_⟩;have y:=z.step x1;have j:=y.rs.ext;refine⟨λn m t H=>m=a.length-n/\n<=a.length/\∃g b d,ZS X.K i C p N U E g H t b d/\ZG T F (a.drop n) b d=bB r,⟨_,rfl,Uc _,U,b,d,⟨⟨y.rs.rc,j.base,y.rs.fresh,y.rs.sy⟩,y.nn,y.sl,y.h0,y.he,y.hp⟩,O⟩,?_⟩;rintro n m u Y ⟨rfl,b5,L,zgJ,d3,z,I⟩;have h:=z.rs.ext.s0.trans z.rs.ext.sub;by_cases Z:n<a.length
  ·refine .inr ⟨l.go n Y h Z,λt H=>_/\_,λzeB B q=>⟨_,⋯,rfl,q.1,q.2⟩,λx B yy=>?_⟩
   obtain⟨d,R,ap⟩:=l.uo n Y x B h Z yy;obtain⟨G0,W,rg⟩:=ap L z.rs.ext.s0 z.rs.rc.sub;have aw:a.drop n=d::a.drop (n+1):=by
    have b8:=by rw[SH Z]at R;exact(TJ R).symm
    simp_all
   rw[aw]at I;obtain⟨s,P,I⟩:=za I;obtain⟨⟨f4,d4⟩,eF,I⟩:=za I;refine YX W.sub rg P al λzgK k b3=>?_;have o:=z.step W;refine⟨p,N,U,E,G0,s,d3,_,o.names (b3 U E o.rs) (bj P o.nn) k,eF,?_⟩;cases f4 with
   |next f=>exact λzgL H5 b4 q=>⟨Z,b4,_,_,q,I⟩
   |ret q=>
    cases I;have s2:=(G).rebase j;cases q<;>exact s2
   |brk f=>cases I
   |cont f=>cases I
  ·have e:n=a.length:=⋯
   subst e;rw[GN]at I;cases I;exact .inl ⟨l.stop Y h,G u Y L<|(λz=>⟨⟨z.rs.rc,j.rebase z.rs.ext,z.rs.fresh,z.rs.sy⟩,z.nn,z.sl,z.h0,z.he,z.hp⟩) z⟩
 lia
theorem iZ(i:Nat){z:ZC}(E:PS X st (bG (CQ C (Ho C) [] E0 Bw)<|vd i))(U:mm X k8 (tZ X.K i C z)):ik X (st::k8) (WO i z):=by
 intro a s w H Q I Y;refine(yf E U) a s w H Q I ?_;refine dt λZ=>?_;obtain⟨h,j,e,y,x,b,J,k⟩:=Y;refine Z ?_;unfold WO at J;split at J
 ·next t=>
  obtain⟨u,l⟩:=t;obtain⟨⟨f1,o⟩,r,J⟩:=za J;intro p f O m n;refine⟨p,f,rfl,zC,rfl,?_⟩;rw[Zm];have g:Ext e H e (upd H f<|.own p):=Ext.hide b.rc.sub m _;refine⟨p,f,h,j,e,_,.d9,(f1,o),⟨(b.forget (i:=i) (v:=bB (.ref p))).step (g.trans<|Ext.hide g.sub (by rw[zE (Tq n)];exact O) _),u,by rw[Te (by rw[b.rc.len];exact l)],jd b.rc.sub O,jd b.ext.s1 O,.d9,zC,rfl⟩,r,?_⟩;cases f1 with
  |next d=>cases J
  |ret q=>
   cases J;exact k
  |brk d=>cases J
  |cont d=>cases J
 lia
end
noncomputable def Jw:=jf 2<|yb<|zM (J6<|zf 0) (.tp [0,1]) 2 [1] (sB<|wZ qs qs (di (zk 1)<|sI 0) (zf 2)<|di (zk 1)<|sI 1) (zf 0)
noncomputable def A7:=g8 (QP (sB<|zD o6 (XN<|zk 0)<|sI 1)<|sB<|zD fh (zD yi (di (zk 0)<|sI 0)<|sI 2)<|sI 1) (zV (jy 2<|di (zk 0)<|zD qw (sI 1)<|zD yi (zf 1)<|zD QI (XN<|zk 0)<|sI 1)<|zV (J5 (jr<|iO (sI 60)<|zD VX (zf 1)<|zD QI (XN<|zk 0)<|sI 1) (.nm 3)<|jy 2<|zD VX (zf 2)<|zD FM (sI 10)<|sI 9)<|jO<|zD yi (zf 2)<|zD FM (sI 10)<|sI 9) jU
noncomputable def LL:=g8 (sB<|zD o6 (XN<|zk 0)<|sI 0) (jy 4<|di (zk 0)<|zD yi (zf 1)<|XN<|zk 0) jU
noncomputable def OA:=jO<|zD yi (zD ve (zD yi (zD qw (zD qw (zD qw (zD ve (zD yi (zf 4)<|zD FM (sI 10)<|sI 30)<|sI 48271)<|zD ve (zD ve (sI 7)<|zf 1)<|zf 1)<|zD ve (sI 13)<|zf 1)<|sI 5)<|sI 2147483647)<|sI 69621)<|sI 1000000007
noncomputable def jI:=jf 5<|zV A7<|zV (jy 4<|zf 1)<|zV LL OA
noncomputable def xN:=jf 3 (jO (Zn (jn (.str "")) (je (zM (jr (zD QI (zf 2) (sI 1))) (.nm 0) 1 [0,1] ja (xc (jn (.str "rl")) (zD yi (zD VX (zA jI (zc (zf 1) (zc (zD qw (zf 2) (zf 0)) zG))) (sI 8)) (sI 2)))))))
noncomputable def qO:=jf 8<|zV (vH 4<|vx zG)<|zV (J5 (jr<|zf 3) (.nm 5)<|zV (jy 6<|zA jI<|zc (zf 0)<|zc (zD qw (zf 1)<|zf 5) zG)<|zV (jy 7<|zD yi (zf 6)<|zf 2)<|qf 4<|kH<|zc (zf 7)<|zc (zD qw (zf 7)<|zD yi (zD VX (zf 6)<|sI 16)<|zD QI (zf 2)<|zf 7) zG)<|yb<|fE<|zk 4
noncomputable def jq:=jf 2<|yb<|zM (J6<|zf 0) (.tp [0,1]) 2 [1] (sB<|wZ qs qs (di (zk 1)<|sI 0) (zf 2)<|di (zk 1)<|sI 1) (zf 0)
noncomputable def pS:=(zV (jy 7 (zD qw (zf 5) (ZM (zD fh (zf 6) (jn (.str "l")))))) (zV (jy 8 (zD qw (zf 5) (ZM (zD fh (zf 6) (jn (.str "r")))))) (zV (jy 9 (j5 (zM (zH (je (jo jq (zc (zf 2) (zc (zf 8) zG))))) (.nm 0) 1 [2,7] ja (jg (je (zM (zH (je (jo jq (zc (zf 1) (zc (zf 2) zG))))) (.nm 0) 1 [0] ja (ZM (zD fh (zf 1) (zf 0))))))))) (qf 4 (kH (zc (zf 6) (zc (kH (zc (di (zk 3) (zf 8)) (zc (di (zk 3) (zf 7)) (zc (jg (zk 9)) zG)))) zG)))))))
noncomputable def qE:=jf 10<|zV (jy 3<|j5<|zM (jr<|zD qw (iP<|zf 1)<|sI 1) (.nm 0) 1 [2] ja (XN<|je<|jo jq<|zc (zf 1)<|zc (zf 0) zG))<|zV (vH 4<|vx zG)<|zV (J5 (Yz<|zf 1) (.tp [5,6]) pS)<|jO<|kH<|zc (zf 0)<|zc (jg<|zk 3)<|zc (jg<|zk 4) zG
noncomputable def xW:=jf 3 (zV (g8 (sB (zD fh (di (zk 1) (sI 0)) (di (zk 2) (sI 0)))) (jO (jn (.bl cm))) jU) (jO (zD fh (xc (zf 0) (zD QI (nV (di (zk 1) (sI 0)) (di (zk 2) (sI 0))) (sI 1))) (ck (sB (zD sv (di (zk 1) (sI 0)) (di (zk 2) (sI 0)))) (jn (.str "l")) (jn (.str "r"))))))
noncomputable def xm:=jf 3 (zV (g8 (sB (zD fh (di (zk 1) (sI 1)) (di (zk 2) (sI 1)))) (jO (jn (.bl cm))) jU) (jO (zD fh (xc (zf 0) (iO (di (zk 1) (sI 1)) (di (zk 2) (sI 1)))) (ck (sB (zD o6 (di (zk 1) (sI 1)) (di (zk 2) (sI 1)))) (jn (.str "r")) (jn (.str "l"))))))
noncomputable def kE:=jf 3<|zV (g8 (sB<|zD o6 (nV (di (zk 1)<|sI 0)<|di (zk 2)<|sI 0)<|iO (di (zk 1)<|sI 1)<|di (zk 2)<|sI 1) (jO<|sI 0) jU)<|jO<|ck (QP (sB<|zA xW<|zc (zf 0)<|zc (zf 1)<|zc (zf 2) zG)<|sB<|zA xm<|zc (zf 0)<|zc (zf 1)<|zc (zf 2) zG) (sI 1)<|sI 0
noncomputable def qK:=jf 3<|zV (vH 1<|vx zG)<|zV (J5 (jr<|zf 0) (.nm 2)<|nZ 1<|zM (Vk (zf 2)<|zf 0) (.nm 0) 1 [2] ja (kH<|zc (zf 1)<|zc (zf 0) zG))<|Vj 1
abbrev p0(k:Sk)(xs:List D):D:=match k with|.T=>D.tup xs|.L=>D.lst xs
@[simp] theorem zf2(k xs):j6 (p0 k xs)=bB (k,xs):=by cases k<;>rfl
theorem YZ(k:Sk)(f:Nat->Int)(e:0<p)(I:n<=lim):
 xJ [.int p,p0 k (zX n f)]=bB (.val<|.tup<|zX n λi=>f i%p):=by
 simp[xJ,jf,zZ,z7,I,yc];unfold zX;rw[zl (r:=λi=>D.int<|f i%p)]
 ·simp
 ·intro i a
  refine zo rfl rfl ?_;simp[e]
theorem zds(f:Nat->Int)(e:0<p)(I:n<=lim):
 xJ [.int p,.tup (zX n f)]=bB (.val<|.tup<|zX n λi=>f i%p):=YZ .T f e I
theorem Ju(f:Nat->Int)(e:0<p)(I:n<=lim):
 xJ [.int p,.lst (zX n f)]=bB (.val<|.tup<|zX n λi=>f i%p):=YZ .L f e I
theorem We(k:Sk)(f:DW)(g:Nat->Int)(e:0<p)(I:h<=lim)(z:w<=lim)(J:∀i j,i<h->j<w->0<=f i j/\f i j<100):
 mJ [.int p,qk h w f,p0 k (zX w g)]=bB (.val<|.tup<|zX h λi=>zm (λj=>f i j*g j) w%p):=by
 simp[mJ,jf,zZ,z7,I,yc,qk,SI];unfold jm;rw[zl]
 ·simp
  rw[show(List.map _ _)=zX h _ from rfl,Ju _ e I];rfl
 ·intro i a
  refine zo rfl rfl ?_;simp[z7,ZE,z];rw[zl]
  ·simp
   rw[show(List.map _ _)=zX w _ from rfl,vC]
  ·intro j O
   refine zo rfl rfl ?_;have:=J i j (SJ.mp a)<|SJ.mp O;simp[vt (f i j) (g j) ⋯ ⋯]
theorem wm(f:DW)(I:h<=lim)(e:w<=lim):qi [qk h w f]=bB (.val<|qk w h λi j=>f j i):=by
 simp[qi,jf,zZ,z7,I,e,yc,qk,SI,zW,j9];rw[z6 w λi=>i];rw[zl]
 ·rfl
 ·intro j J
  refine zo rfl rfl ?_;simp[z7,I,yc];unfold jm;rw[zl]
  ·rfl
  ·intro i a
   refine zo rfl rfl ?_
   simp_all
theorem bz{p:Int}{h m w:Nat}(f g:DW)(E:0<p)(J:h<=lim)(I:m<=lim)(z:w<=lim)(O:∀i j,i<m->j<w->0<=g i j/\g i j<100):
 wj [.int p,qk h m f,qk m w g]=bB (.val<|qk h w λi j=>zm (λk=>g k j*f i k) m%p):=by
 simp[wj,jf,zZ,zW,wm g I z];simp[z7,J,I,z,yc,qk];rw[show jm h m f=(SF h).map _ from rfl];rw[zl]
 ·rfl
 ·intro i l
  refine zo rfl rfl ?_;have e:=We .T _ (f i) E z I<|λa b d Q=>O b a Q d;simp[qk]at e ⊢;rw[e];simp
theorem we(I:n<=lim):qy [.int n]=bB (.val<|qk n n λi j=>if i=j then 1 else 0):=by
 simp[qy,jf,zZ,zW,I,z7,yc,SI,j9];rw[z6 n λi=>i];rw[zl]
 ·rfl
 ·intro i a
  refine zo rfl rfl ?_;simp[I,z7,SI,j9,yc];rw[z6 n λi=>i];rw[zl]
  ·rfl
  ·intro j J
   refine zo rfl rfl ?_;simp;lia
theorem ou(d:D)(w:Nat):SI w d=(SF w).map λ_=>d:=by
 induction w with
 |zero=>rfl
 |succ n I=>simp only[List.replicate_succ',I,UO,Ue];simp
noncomputable def Wm(e:List Int):D:=.lst (e.map D.int)
mutual
theorem LR:∀d:D,ip d d=cm
 |.d9=>rfl
 |.bl b=>by simp[ip]
 |.int i=>by simp[ip]
 |.str x=>by simp[ip]
 |.tup e=>by simp only[ip];exact Ds e
 |.lst e=>by simp only[ip];exact Ds e
 |.lp a b=>by simp only[ip];rw[Ds a,Ds b];rfl
 |.mr a b=>by simp only[ip];rw[Ds b];simp
theorem Ds:∀ds:List D,p5 ds ds=cm
 |[]=>rfl
 |d::ds=>by simp only[p5,LR d,Ds ds,Bool.and_self]
end
theorem Xi:∀{l:List D} {n:Nat},(∀d∈l,deep d<=n)->t4 l<=n
 |[],n,_=>Uc n
 |d::ds,n,h=>by simp only[t4];exact Nat.max_le.mpr ⟨h d SO,Xi λe a=>h e<|SQ _ a⟩
theorem Ba(n f):deep (.tup<|zX n f)<=1:=by
 simp only[deep];have:t4 (zX n f)<=0:=Xi λd a=>by simp[zX]at a;obtain⟨i,_,rfl⟩:=a;exact SN _
 lia
theorem Bb(h w f):deep (.tup<|jm h w f)<=2:=by
 simp only[deep];have:t4 (jm h w f)<=1:=Xi λd a=>by simp[jm]at a;obtain⟨i,_,rfl⟩:=a;exact Ba _ _
 lia
theorem VF:∀{l:List D},(∀d∈l,ji d=cm)->oo l=cm
 |[],_=>rfl
 |d::ds,h=>by simp only[oo,h d SO,VF λe a=>h e<|SQ _ a,Bool.and_self]
theorem gi(h:deep d<=n)(I:n<=20)(J:ji d=cm):i5 d=cm:=by unfold i5;rw[J,Bool.and_true];exact decide_eq_true<|Tf h I
theorem EY(n f):ji (.tup<|zX n f)=cm:=by
 simp only[ji];exact VF λd a=>by simp[zX]at a;obtain⟨i,_,rfl⟩:=a;rfl
theorem EZ(h w f):ji (.tup<|jm h w f)=cm:=by
 simp only[ji];exact VF λd a=>by simp[jm]at a;obtain⟨i,_,rfl⟩:=a;exact EY _ _
theorem Bc(h:i5 d=cm):fh d d=bB (.bl cm):=by unfold fh;rw[DJ ⟨h,h⟩,LR]
theorem gR{d:D}(h:i5 d=cm):h8 d d=bB (.bl cT):=by unfold h8;rw[DJ ⟨h,h⟩,LR];rfl
theorem vB{e:Type}(l:List e):QM (l.map λ_=>D.bl cm)=bB (l.map λ_=>cm):=by
 induction l with
 |nil=>rfl
 |cons a l I=>simp[QM,Mo,I]
theorem Js{e:Type}(l:List e):((l.map λ_=>cm).all id)=cm:=by
 induction l with
 |nil=>rfl
 |cons a l I=>simp[I]
theorem YK(k:Int)(I:0<k):∃n:Nat,m%k=n/\n<k:=by have O:=Tx m I;obtain⟨n,J⟩:=ML (TK m<|show k≠0 by lia);exact⟨n,J,⋯⟩
noncomputable def fL(b:Bool):Nat:=if b then 108 else 114
noncomputable def jw(c:Nat):Str:=⟨#[c]⟩
theorem JQ:∀l,(r0 "" (l.map jw)).cps.toList=l
 |[]=>rfl
 |[c]=>rfl
 |c::d::l=>by
  show(_++r0 "" _).cps.toList=_;have e:∀a b:Str,(a++b).cps.toList=a.cps.toList++b.cps.toList:=λa b=>by show(a.cps++b.cps).toList=_;simp
  simp only[e,e,(JQ (d::l))];rfl
noncomputable def x9(m:Nat)(w:DV):Str:=r0 "" ((SF m).map λk=>jw (fL (w k)))
theorem xB(m w):(x9 m w).cps.toList=(SF m).map λk=>fL (w k):=by have:=JQ<|(SF m).map λk=>fL<|w k;rw[Tn]at this;exact this
theorem QW(m w):(x9 m w).length=m:=by show(x9 m w).cps.size=m;rw[<-Uy,xB];simp
theorem ky{m:Nat}(w)(I:m<=1000):zU (x9 m w)=cm:=decide_eq_true (by rw[QW];exact I)
theorem wA{e:Type}(g:e->Str):∀l:List e,WC (l.map λx=>D.str<|g x)=bB (l.map g)
 |[]=>rfl
 |a::l=>by simp[WC,wA g l]
noncomputable def f7(w:DV)(wd:DX)(k:Nat):Nat:=if w k then wd k else wd (k+1)
noncomputable def fM(w:DV)(wd:DX)(k:Nat):Nat:=if w k then wd (k+1)else wd k
noncomputable def wW(w:DV)(wd:DX)(T:DQ)(k:Nat):D:=.tup [.str (jw<|fL<|w k),qk (f7 w wd k) (fM w wd k) (T k)]
noncomputable def xx(m:Nat)(w:DV)(wd:DX)(T:DQ):List D:=(SF m).map (wW w wd T)
noncomputable def jX(p:Int)(m:Nat)(w:DV)(wd:DX)(T:DQ):D:=.tup [.int p,.tup<|zX (m+1) λk=>(wd k:Int),.tup (xx m w wd T)]
@[simp] theorem sQ(m w wd T):(xx m w wd T).length=m:=by simp[xx]
theorem ZK{m k:Nat}(w)(I:m<=1000)(J:k<m)(γ:Ctx)(f g:CO D)(O:f γ=bB (.str<|x9 m w))(Q:g γ=bB (.int k)):xc f g γ=bB (.str<|jw<|fL<|w k):=by rw[Xt,O,Q];simp only[SR,sN];rw[DJ (ky w I),xB];simp[J,jw]
theorem aR(b:Bool):fh (.str (jw (fL b))) (.str "l")=bB (.bl b):=by
 have e:∀b,(jw (fL b)==(Ts "l"))=b:=by decide +kernel
 have I:∀b,i5 (.str<|jw<|fL b)=cm:=by decide +kernel
 unfold fh;rw[DJ ⟨I b,by decide +kernel⟩];show bB (D.bl (jw (fL b)==Ts "l"))=_;rw[e]
theorem IG(b:Bool):i5 (.str<|jw<|fL b)=cm:=by cases b<;>decide +kernel
theorem KG(b:Bool):fh (.str (jw (fL b))) (.str "r")=bB (.bl (!b)):=by
 have e:∀b,(jw (fL b)==(Ts "r")) = !b:=by decide +kernel
 unfold fh;rw[DJ ⟨IG b,by decide +kernel⟩];show bB (D.bl (jw (fL b)==Ts "r"))=_;rw[e]
theorem Yn(i:Int):qF [.int i]=bB (.val<|.bl cm):=by simp[qF,jf,zZ,AG]
section
variable{p:Int}
theorem Wf(e:p=2\/p=3\/p=5\/p=7):JZ [.int p]=bB (.val<|.bl cm):=by rcases e with rfl|rfl|rfl|rfl<;>kernel_rfl
theorem QJ{n:Nat}(h:n<=30):wt [.int n]=bB (.val<|.bl cm):=by
 have I:(n:Int)<=30:=⋯
 simp[wt,jf,zZ,Yn,wZ,⋯,I]
noncomputable def v9(h w:Nat)(f:DW):List D:=(SF h).map λi=>D.lst<|zX w<|f i
@[simp] theorem zeZ(h w f):(v9 h w f).length=h:=by simp[v9]
theorem Jv{n:Nat}(l:List D)(h:l.length=n):qT [.lst l,.int n]=bB (.val<|.bl cm):=by simp[qT,jf,zZ,nY,AG,h]
theorem bC{w:Nat}(f:Nat->Int)(e:w<=lim):wu [.int w,.lst (zX w f)]=bB (.val<|.bl cm):=by
 have a:zI (.nm 0) ja (zA qF<|zc (zf 0) zG) [Cell.no] (zX w f)=bB ((SF w).map λ_=>D.bl cm):=by rw[z6];refine zl _ _ λj I=>zo rfl rfl ?_;rfl
 simp[wu,jf,zZ,Jv (n:=w) (zX w f) ⋯,e,z7,a,vB,Js,SI]
theorem Wa{h w:Nat}(e:p=2\/p=3\/p=5\/p=7)(J:h<=30)(z:w<=30)(f:DW):wN [.int p,.int h,.int w,.lst (v9 h w f)]=bB (.val<|qk h w λi j=>f i j%p):=by
 have Y:=jb;have O:h<=lim:=⋯
 have I:w<=lim:=⋯
 have Q:zI (.nm 0) ja (zA wu<|zc (zf 1)<|zc (zf 0) zG) [Cell.no,vI w] (v9 h w f)=bB ((SF h).map λ_=>D.bl cm):=by unfold v9;refine zl _ _ λj U=>zo rfl rfl ?_;simp[bC (f j) I]
 have g2:zI (.nm 0) ja (zA xJ<|zc (zf 1)<|zc (zf 0) zG) [Cell.no,vI p] (v9 h w f)=bB (jm h w λi j=>f i j%p):=by unfold v9 jm;refine zl _ _ λj U=>zo rfl rfl ?_;simp[Ju (f j) (⋯:0<p) I]
 simp[wN,jf,zZ,zW,Wf e,QJ J,QJ z,Jv (n:=h) (v9 h w f) ⋯,O,z7,yc,Q,g2,vB,Js,SI];rfl
end
theorem zB:∀{n:Nat},(∀k,k<n->f k=g k)->zm f n=zm g n
 |0,_=>rfl
 |n+1,h=>by simp only[zm];rw[zB λk I=>h k ⋯,h n ⋯]
theorem z5(n:Nat):zm (λ_=>0) n=0:=by
 induction n with
 |zero=>rfl
 |succ n I=>simp[zm,I]
theorem zY(j:i<n)(h:∀k,k<n->k≠i->f k=0):zm f n=f i:=by
 induction n with
 |zero=>lia
 | succ n I=>
  simp only[zm];by_cases e:i=n
  ·subst e
   rw[zB (λk J=>h k ⋯ ⋯),z5];lia
  ·rw[I ⋯ λk J=>h k ⋯,h n ⋯ ⋯]
   lia
theorem jE(f g:Nat->Int)(n:Nat):zm (λk=>f k+g k) n=zm f n+zm g n:=by
 induction n with
 |zero=>rfl
 |succ n I=>simp only[zm,I];lia
theorem xD(f:Nat->Int)(c:Int)(n:Nat):zm (λk=>f k*c) n=zm f n*c:=by
 induction n with
 |zero=>simp[zm]
 |succ n I=>simp only[zm,I,M6]
theorem jz(f:Nat->Int)(c:Int)(n:Nat):zm (λk=>c*f k) n=c*zm f n:=by
 induction n with
 |zero=>simp[zm]
 |succ n I=>simp only[zm,I,DE]
theorem xC(f:DW)(n m:Nat):zm (λi=>zm (λj=>f i j) m) n=zm (λj=>zm (λi=>f i j) n) m:=by
 induction n with
 |zero=>simp[zm,z5]
 |succ n I=>simp only[zm];rw[I,<-jE]
theorem zT:∀{n:Nat},(∀k,k<n->f k%p=g k%p)->zm f n%p=zm g n%p
 |0,_=>rfl
 |n+1,h=>by simp only[zm];rw[Ub,zT<|λk I=>h k ⋯,h n ⋯,<-Ub]
theorem au(p x y:Int):(x*(y%p))%p=(x*y)%p:=by rw[SU,TZ,<-SU]
abbrev Vc:=Nat->Int
noncomputable def Pr(p:Int):Prop:=p=2\/p=3\/p=5\/p=7
theorem Pr.pos(h:Pr p):0<p:=by unfold Pr at h;lia
theorem Pr.two(h:Pr p):2<=p:=by unfold Pr at h;lia
theorem Pr.le(h:Pr p):p<=7:=by unfold Pr at h;lia
theorem Pr.one(h:Pr p):1%p=1:=UG ⋯ (by have:=h.two;lia)
inductive Span(p:Int)(n:Nat)(G:Vc->Prop):Vc->Prop where
 |zero {v:Vc}:(∀i,i<n->v i%p=0)->Span p n G v
 |step {v w g:Vc} {c:Int}:G g->Span p n G w->(∀i,i<n->v i%p=(w i+c*g i)%p)->Span p n G v
section
variable{p:Int}{n:Nat}{G G':Vc->Prop}
theorem Span.congr(h:Span p n G v)(e:∀i,i<n->v' i%p=v i%p):Span p n G v':=by
 cases h with
 |zero h=>exact .zero λi a=>by rw[e i a,h i a]
 |step I b h=>exact .step I b λi a=>by rw[e i a,h i a]
theorem Span.gen(h:G g):Span p n G g:=.step (c:=1) h (.zero (v:=λ_=>0) λi _=>by simp) λi _=>by simp
theorem Span.add(J:Span p n G v)(j:Span p n G w):∀c,Span p n G λi=>w i+c*v i:=by
 induction J with
 |zero h=>
  intro c;refine j.congr λi a=>?_;rw[Ub,SU,h i a];simp
 |@step v b g I O U h Q=>
  intro c;refine .step (c:=c*I) O (Q c) λi a=>?_;have e:(c*v i)%p=(c*(b i+I*g i))%p:=by rw[SU,h i a,<-SU]
  rw[Ub,e,<-Ub];congr 1;rw[DE,<-UL,R3]
theorem Span.smul(I:Span p n G v)(c:Int):Span p n G λi=>c*v i:=
 (I.add (w:=λ_=>0) (.zero λi _=>by simp) c).congr λi _=>by simp
theorem Span.le(h:Span p n G v)(I:∀g,G g->Span p n G' g):Span p n G' v:=by
 induction h with
 |zero h=>exact .zero h
 |step J a h O=>exact((I _ J).add O _).congr h
end
structure gB(p:Int)(n r:Nat)(B:Nat->Vc)(l:DX):Prop where
 lt:∀k,k<r->l k<n
 mono:∀k m,k<m->m<r->l k<l m
 one:∀k,k<r->B k (l k)=1
 l8:∀k j,k<r->j<l k->B k j=0
 rp:∀k m,k<r->m<r->m≠k->B k (l m)=0
 l4:∀k i,k<r->i<n->0<=B k i/\B k i<p
noncomputable def el(r:Nat)(B:Nat->Vc):Vc->Prop:=λv=>∃k,k<r/\v=B k
section
variable{p:Int}{n r r':Nat}{B B':Nat->Vc}{l l':DX}
theorem QU(J:gB p n r B l)(h:Span p n (el r B) v):∀i,i<n->v i%p=zm (λk=>v (l k)*B k i) r%p:=by
 induction h with
 |@zero v h=>
  intro i a;rw[h i a];have:zm (λk=>v (l k)*B k i) r%p=zm (λ_=>0) r%p:=zT λk I=>by rw[SU,h _ (J.lt k I)];simp
  rw[this,z5];rfl
 |@step v w g c Q d h U=>
  intro i a;obtain⟨m,O,rfl⟩:=Q;rw[h i a];have b:zm (λk=>v (l k)*B k i) r%p=zm (λk=>_+_) r%p:=zT λk I=>by rw[SU,h _<|J.lt k I,<-SU,M6]
  have Y:zm (λk=>c*B m (l k)*B k i) r=c*B m i:=by rw[zY O λk I Z=>by rw[J.rp m k O I Z];simp,J.one m O];simp
  rw[b,jE,Y,Ub,U i a,<-Ub]
theorem dm(I:gB p n r B l)(h:Span p n (el r B) v)(O:j<n)(z:v j%p≠0)(hz:∀i,i<j->v i%p=0):∃k,k<r/\l k=j:=by
 apply dt;intro Q;apply z;rw[QU I h j O];have:zm (λk=>v (l k)*B k j) r%p=zm (λ_=>0) r%p:=zT λk J=>by
  have U:l k≠j:=λe=>Q ⟨k,J,e⟩;rcases To (l k) j with q|q
  ·rw[SU,hz _ q];simp
  ·rw[I.l8 k j J ⋯];simp
 rw[this,z5];rfl
theorem gC(Q:∀k m,k<m->m<r->l k<l m)(U:∀k m,k<m->m<r'->l' k<l' m)(e:∀k,k<r->∃m,m<r'/\l' m=l k)(j:∀k,k<r'->∃m,m<r/\l m=l' k):
 ∀k,k<r->k<r'/\l k=l' k:=by
 intro k
 induction k using Nat.strongRecOn with
 | ind k J=>
  intro O;obtain⟨m,Y,Z⟩:=e k O;have a:k<=m:=by
   rcases To m k with q|q
   ·have:=(J m q ⋯).2
    have:=Q m k q O;lia
   ·exact q
  have I:k<r':=⋯
  refine⟨I,?_⟩;obtain⟨q,d,eq⟩:=j k I;have b:k<=q:=by
   rcases To q k with z|z
   ·have:=(J q z ⋯).2
    have:=U q k z I;lia
   ·exact z
  rcases To k m with z|z
  ·grind
  grind
theorem KP(j:Pr p)(J:gB p n r B l)(O:gB p n r' B' l')(e:∀v,Span p n (el r B) v->Span p n (el r' B') v)(Z:∀v,Span p n (el r' B') v->Span p n (el r B) v):
 r=r'/\(∀k,k<r->l k=l' k)/\∀k i,k<r->i<n->B k i=B' k i:=by
 have one:=j.one;have d:=λk I=>dm O (e _<|.gen ⟨k,I,rfl⟩) (J.lt k I) (by rw[J.one k I,one];decide) λi a=>by rw[J.l8 k i I a];simp
 have f:=λk I=>dm J (Z _<|.gen ⟨k,I,rfl⟩) (O.lt k I) (by rw[O.one k I,one];decide) λi a=>by rw[O.l8 k i I a];simp
 have b:=gC J.mono O.mono d f;have h:r=r':=by
  rcases MX r r' with q|q|q
  ·exact absurd ((gC O.mono J.mono f d) r q).1 (Uh _)
  ·exact q
  ·exact absurd (b r' q).1 (Uh _)
 subst h;refine⟨rfl,λk I=>(b k I).2,λk i I a=>?_⟩;have c:=QU O (e _<|.gen ⟨k,I,rfl⟩) i a;rw[zY I λm Q g=>by rw[<-(b m Q).2,J.rp k m I Q g];simp,<-(b k I).2,J.one k I,M5]at c;have U:=J.l4 k i I a;have Y:=O.l4 k i I a;rw[UG U.1 U.2,UG Y.1 Y.2]at c;exact c
end
theorem jk(q:α->Bool)(r:α->D):∀(l:List α),(∀x∈l,∃γ1,qx T (g x) γ=bB γ1/\k γ1=bB (q x)/\(q x=cm->f γ1=bB (r x)))->
 zI T k f γ (l.map g)=bB ((l.filter q).map r)
 |[],_=>rfl
 |x::l,h=>by
  obtain⟨γ1,a,I,O⟩:=h x SO;have Q:=jk q r l λy J=>h y<|SQ _ J;simp only[Tw,zI,a,I,SR]
  grind
theorem Cf(e:Pr p)(j:0<x)(z:x<p):∃y:Nat,1<=y/\y<p/\y*x%p=1:=by
 rcases e with rfl|rfl|rfl|rfl
 ·obtain rfl:x=1:=⋯
  exact⟨1,⋯,⋯,⋯⟩
 ·rcases (⋯:x=1\/x=2)with rfl|rfl
  ·exact⟨1,⋯,⋯,⋯⟩
  ·exact⟨2,⋯,⋯,⋯⟩
 ·rcases (⋯:x=1\/x=2\/x=3\/x=4)with rfl|rfl|rfl|rfl
  ·exact⟨1,⋯,⋯,⋯⟩
  ·exact⟨3,⋯,⋯,⋯⟩
  ·exact⟨2,⋯,⋯,⋯⟩
  ·exact⟨4,⋯,⋯,⋯⟩
 ·rcases (⋯:x=1\/x=2\/x=3\/x=4\/x=5\/x=6)with rfl|rfl|rfl|rfl|rfl|rfl
  ·exact⟨1,⋯,⋯,⋯⟩
  ·exact⟨4,⋯,⋯,⋯⟩
  ·exact⟨5,⋯,⋯,⋯⟩
  ·exact⟨2,⋯,⋯,⋯⟩
  ·exact⟨3,⋯,⋯,⋯⟩
  ·exact⟨6,⋯,⋯,⋯⟩
theorem QH{q:DV}{n a:Nat}{k8:List Nat}(h:(SF n).filter q=a::k8):a<n/\q a=cm/\∀i,i<a->q i=cT:=by
 have I:a∈(SF n).filter q:=by rw[h];exact SO
 refine⟨SJ.mp (TR.mp I).1,(TR.mp I).2,λi b=>?_⟩;apply dt;intro O;have J:i∈a::k8:=by grind
 rcases SS.mp J with e|e
 ·lia
 ·have:=(X_.mp<|by rw[<-h];exact N_ _ Rm).1 i e;lia
theorem bD(e:Pr p)(j:0<x)(z:x<p):∃y,K5 [.int p,.int x]=bB (.val<|.int y)/\1<=y/\y<p/\x*y%p=1:=by
 rcases e with rfl|rfl|rfl|rfl
 ·have:x=1:=⋯
  subst this;exact⟨1,rfl,⋯,⋯,⋯⟩
 ·have:x=1\/x=2:=⋯
  rcases this with rfl|rfl
  ·exact⟨1,rfl,⋯,⋯,⋯⟩
  ·exact⟨2,rfl,⋯,⋯,⋯⟩
 ·have:x=1\/x=2\/x=3\/x=4:=⋯
  rcases this with rfl|rfl|rfl|rfl
  ·exact⟨1,rfl,⋯,⋯,⋯⟩
  ·exact⟨3,rfl,⋯,⋯,⋯⟩
  ·exact⟨2,rfl,⋯,⋯,⋯⟩
  ·exact⟨4,rfl,⋯,⋯,⋯⟩
 ·have:x=1\/x=2\/x=3\/x=4\/x=5\/x=6:=⋯
  rcases this with rfl|rfl|rfl|rfl|rfl|rfl
  ·exact⟨1,rfl,⋯,⋯,⋯⟩
  ·exact⟨4,rfl,⋯,⋯,⋯⟩
  ·exact⟨5,rfl,⋯,⋯,⋯⟩
  ·exact⟨2,rfl,⋯,⋯,⋯⟩
  ·exact⟨3,rfl,⋯,⋯,⋯⟩
  ·exact⟨6,rfl,⋯,⋯,⋯⟩
theorem bF(j:Pr p)(J:n<=lim)(I:t<n)(w P:Nat->Int)(e:∀i,i<n->0<=w i/\w i<p):
 k5 [.int p,.tup<|zX n w,.tup<|zX n P,.int t]=bB (.val<|.tup<|zX n λi=>(w i-w t*P i)%p):=by
 have Q:=e t I;have U:=j.le;have O x:bK (w t) x=cm:=vt _ _ ⋯ ⋯;by_cases b:w t=0
 ·simp[k5,jf,zZ,zW,I,b]
  apply Jk;intro i a;rw[UG (e i a).1 (e i a).2]
 ·simp[k5,jf,zZ,zW,I,b,ZE,J,z7,yc,SI]
  rw[zl (r:=λi=>D.int<|w i-w t*P i)]
  ·rw[<-z6]
   simp[Ju _ j.pos J]
  ·intro i a
   refine zo rfl rfl ?_;simp[O]
theorem VG{l:DX}{r t:Nat}(I:∀k m,k<m->m<r->l k<l m)(O:∀k,k<r->l k<t):r<=t:=by
 have a:∀k,k<r->k<=l k:=by
  intro k
  induction k with
  |zero=>intro _;exact Uc _
  |succ k Q=>
   intro J;have U:=I k (k+1) ⋯ J;lia
 grind
noncomputable def Un(r:Nat)(B:Nat->Vc)(m:Nat)(W:Nat->Vc):Vc->Prop:=λv=>el r B v\/el m W v
structure uN(p:Int)(n m:Nat)(W:Nat->Vc)(t r:Nat)(B:Nat->Vc)(l:DX)(Wt:Nat->Vc):Prop where
 l4:∀j i,j<m->i<n->0<=Wt j i/\Wt j i<p
 z8:∀j i,j<m->i<t->Wt j i=0
 vk:gB p n r B l
 lt:∀k,k<r->l k<t
 span:∀v,Span p n (Un r B m Wt) v↔Span p n (el m W) v
section
variable{p:Int}{n m:Nat}{W:Nat->Vc}{t r:Nat}{B:Nat->Vc}{l:DX}{Wt:Nat->Vc}
theorem uN.skip(h:uN p n m W t r B l Wt)(hz:∀j,j<m->Wt j t=0):uN p n m W (t+1) r B l Wt:=
 ⟨h.l4,λj i I a=>by
  rcases To i t with q|q
  ·exact h.z8 j i I q
  ·have:i=t:=⋯
   subst this;exact hz j I,h.vk,λk J=>TY<|h.lt k J,h.span⟩
noncomputable def i7(p:Int)(P:Vc)(t:Nat)(w:Vc):Vc:=λi=>(w i-w t*P i)%p
noncomputable def lH(p:Int)(P:Vc)(t r:Nat)(B:Nat->Vc):Nat->Vc:=λk=>if k<r then i7 p P t (B k)else P
noncomputable def BS(t r:Nat)(l:DX):Nat->Nat:=λk=>if k<r then l k else t
theorem Xm(I:Span p n G P)(e:Span p n G w):Span p n G (i7 p P t w):=
 (I.add e (-(w t))).congr λi _=>by unfold i7;rw[TZ];congr 1;rw[Int.neg_mul];lia
theorem eQ(I:Span p n G P)(e:Span p n G (i7 p P t w)):Span p n G w:=
 (I.add e<|w t).congr λi _=>by
   unfold i7
   simp_all
theorem uN.next(H:Pr p)(h:uN p n m W t r B l Wt)(L:t<n)(E:j0<m)(S:Wt j0 t*y%p=1)(Q:∀i,i<n->P i=y*Wt j0 i%p):
 uN p n m W (t+1) (r+1) (lH p P t r B) (BS t r l) (λj=>i7 p P t<|Wt j):=by
 have x:=H.pos;have A:P t=1:=by rw[Q t L,Ui];exact S
 have U i:i<t->P i=0:=λa=>by rw[Q i ⋯,h.z8 j0 i E a];simp
 have C i:i<n->0<=P i/\P i<p:=λa=>by rw[Q i a];exact⟨TK _ ⋯,Tx _ x⟩
 have s w i:0<=i7 p P t w i/\i7 p P t w i<p:=⟨TK _ ⋯,Tx _ x⟩;have O w i:i<t->0<=w i->w i<p->i7 p P t w i=w i:=λa K M=>by unfold i7;rw[U i a,w5,Int.sub_zero];exact UG K M
 have u w:i7 p P t w t=0:=by unfold i7;simp_all
 refine⟨λj i J a=>s _ _,λj i J a=>?_,⟨λk I=>?_,λk q F N=>?_,λk I=>?_,λk j I J=>?_,λk q I N G=>?_,λk i I a=>?_⟩,λk I=>?_,λv=>?_⟩
 ·rcases To i t with q|q
  ·have e:=h.z8 j i J q
   rw[O _ i q ⋯ ⋯];exact e
  ·have:i=t:=⋯
   subst this;exact u _
 ·unfold BS;split
  ·rename_i q;exact h.vk.lt k q
  ·exact L
 ·unfold BS
  have I:k<r:=⋯
  rw[DJ I];split
  ·rename_i z;exact h.vk.mono k q F z
  ·exact h.lt k I
 ·unfold BS lH;split
  ·rename_i q
   have e:=h.vk.one k q;rw[O _ _ (h.lt k q) ⋯ (by have:=H.two;lia)];exact e
  ·exact A
 ·unfold lH;unfold BS at J;split at J
  ·rename_i q
   have e:=h.vk.l8 k j q J;have R:=h.lt k q;rw[DJ q,O _ _ ⋯ ⋯ ⋯];exact e
  ·rename_i q
   rw[DY q];exact U j J
 ·unfold lH BS
  by_cases f:k<r
  ·rw[DJ f]
   by_cases b:q<r
   ·rw[DJ b]
    have e:=h.vk.rp k q f b G;rw[O _ _ (h.lt q b) ⋯ ⋯];exact e
   ·rw[DY b];exact u _
  ·rw[DY f]
   have b:q<r:=⋯
   rw[DJ b];exact U _<|h.lt q b
 ·unfold lH;split
  ·exact s _ _
  ·exact C i a
 ·unfold BS;split
  ·rename_i q;exact TY<|h.lt k q
  ·exact Ur _
 ·rw[<-h.span v]
  have Y:Span p n (Un r B m Wt) P:=((Span.gen<|.inr ⟨j0,E,rfl⟩).smul y).congr λi a=>by simp_all
  have o:Span p n (Un (r+1) (lH p P t r B) m λj=>i7 p P t<|Wt j) P:=.gen (.inl ⟨r,Ur r,by unfold lH;rw[DY (Uh r)]⟩);constructor
  ·refine λZ=>Z.le λg d=>?_
   rcases d with⟨k,I,rfl⟩|⟨j,J,rfl⟩
   ·unfold lH;split
    ·rename_i q;exact Xm Y<|.gen<|.inl ⟨k,q,rfl⟩
    ·exact Y
   ·exact Xm Y<|.gen<|.inr ⟨j,J,rfl⟩
  ·refine λZ=>Z.le λg d=>?_
   rcases d with⟨k,I,rfl⟩|⟨j,J,rfl⟩
   ·refine eQ (t:=t) o (.gen<|.inl ⟨k,TY I,?_⟩)
    unfold lH;rw[DJ I]
   ·exact eQ o<|.gen<|.inr ⟨j,J,rfl⟩
theorem uN.done(h:uN p n m W n r B l Wt)(v:Vc):Span p n (el r B) v↔Span p n (el m W) v:=by
 rw[<-h.span v];constructor
 ·exact λJ=>J.le λg I=>.gen (.inl I)
 ·refine λJ=>J.le λg I=>?_
  rcases I with I|⟨j,O,rfl⟩
  ·exact .gen I
  ·exact .zero λi a=>by rw[h.z8 j i O a];simp
theorem rZ(J:True)(P:Vc):jm (r+1) n (lH p P t r B)=jm r n (λk=>i7 p P t<|B k)++[.tup (zX n P)]:=by
 unfold jm;simp only[UO,Ue];congr 1
 ·apply Tp
  intro k I;simp[lH,(SJ.mp I)]
 ·simp[lH]
end
theorem vm{p:Int}(e:Pr p){n m:Nat}(hn:n<=200)(Z:m<=lim)(z:Sk)(W:Nat->Vc):
 ∃r B l,xu [.int p,.int n,p0 z (jm m n W)]=bB (.own<|jm r n B)/\gB p n r B l/\∀v,Span p n (el r B) v↔Span p n (el m W) v:=by
 have hl:=jb;have U:n<=lim:=⋯
 have w:=e.pos;refine dt λkZ=>?_;obtain⟨γ',X,r,B,l,Wt,f,h,a,b,rfl,I⟩:=(KB (T:=.nm 5) (F:=Jn)
  (λt G=>∃r B l Wt f h a b,G=[vI p,vI n,.val<|p0 z<|jm m n W,.val<|.lst<|jm m n Wt,.own<|jm r n B,f,h,a,b]/\uN p n m W t r B l Wt)
  ((SF n).map λ(i:Nat)=>D.int i) 0 [vI p,vI n,.val<|p0 z<|jm m n W,.val<|.lst<|jm m n λj i=>W j i%p,.own [],.no,.no,.no,.no]
  ⟨0,λ_ _=>0,λ_=>0,λj i=>W j i%p,.no,.no,.no,.no,rfl,λj i _ _=>⟨TK _ ⋯,Tx _ w⟩,nofun,
   ⟨nofun,nofun,nofun,nofun,nofun,nofun⟩,
   nofun,λv=>⟨λu=>u.le λg s=>by
    rcases s with⟨k,hk,_⟩|⟨j,O,rfl⟩
    ·exact absurd hk<|Uj _
    ·exact(Span.gen ⟨j,O,rfl⟩).congr λi _=>TZ _ _,λu=>u.le λg s=>by
    obtain⟨j,O,rfl⟩:=s;exact(Span.gen<|.inr ⟨j,O,rfl⟩).congr λi _=>(TZ _ _).symm⟩⟩ (by
   rintro t d G o ⟨r,B,l,Wt,f,h,a,b,rfl,I⟩;rw[zp]at I ⊢;have Q:=by simpa using ((nt.mp o).1)
   have H:=by simp[Q]at o;exact o.symm
   subst H;have Y:zI (.nm 0) (sB<|zD h8 (di (zk 0)<|zf 1)<|sI 0) (zf 0) [Cell.no,vI t] (jm m n Wt)=bB (((SF m).filter λj=> !decide (Wt j t=0)).map λj=>D.tup<|zX n<|Wt j):=by unfold jm;refine jk _ _ _ λj O=>⟨_,rfl,?_,λ_=>rfl⟩;simp[Q]
   have hr:=VG I.vk.mono I.lt;have K:r<=lim:=⋯
   cases hf:(SF m).filter λj=> !decide (Wt j t=0)with
   |nil=>
    have hz:=λj O=>by simpa using _b.mp hf j (SJ.mpr O)
    rw[hf]at Y;refine⟨_,.inr ?_,r,B,l,Wt,vI t,.val<|.lst [],a,b,rfl,I.skip hz⟩;simp[Jn];rw[zW];simp[zW,z7,yc,SI,Y,Z]
   |cons J k8=>
    obtain⟨A,b0⟩:J<m/\Wt J t≠0:=by have:=TR.mp (by rw[hf];exact SO);simpa using this
    have L:=I.l4 J t A Q;obtain⟨y,ey,y1,y2,yy⟩:=bD e ⋯ L.2;rw[hf]at Y;refine⟨_,.inl ?_,r+1,lH p (λi=>y*Wt J i%p) t r B,BS t r l,λj=>i7 p (λi=>y*Wt J i%p) t<|Wt j,vI t,.val<|.lst<|(J::k8).map λj=>D.tup<|zX n<|Wt j,vI y,.val<|.tup<|zX n λi=>y*Wt J i%p,rfl,I.next e Q A yy λi _=>rfl⟩;have b3:=e.le;have R x:bK y x=cm:=vt _ _ ⋯ ⋯;have M:zI (.nm 0) ja (zD ve (zf 1)<|zf 0) [Cell.no,vI y] (zX n<|Wt J)=bB (zX n λi=>y*Wt J i):=by simp only[z6,z6];refine zl _ _ λi E=>zo rfl rfl ?_;simp[R]
    have C q V:(∀j i,j<q->i<n->0<=V j i/\V j i<p)->zI (.nm 0) ja (zA k5<|zc (zf 1)<|zc (zf 0)<|zc (zf 3)<|zc (zf 2) zG) [Cell.no,vI p,vI t,Cell.val (.tup<|zX n λi=>y*Wt J i%p)] (jm q n V)=bB (jm q n λj=>i7 p (λi=>y*Wt J i%p) t<|V j):=λhV=>by unfold jm;refine zl _ _ λj O=>zo rfl rfl ?_;simp[bF e U Q (V j) (λi=>y*Wt J i%p) λi E=>hV j i (SJ.mp O) E];rfl
    have N:r+1<=lim:=⋯
    rw[rZ trivial];simp[Jn];rw[zW];simp[zW,z7,yc,SI,Y,Z,U,Q,ey,M,Ju _ w U,C m Wt I.l4,C r B I.vk.l4,K,N]))
 refine kZ ?_;simp only[Ta,Ut,zp]at I;refine⟨r,B,l,?_,I.vk,I.done⟩;have P:zI (.nm 0) ja (zA xJ<|zc (zf 1)<|zc (zf 0) zG) [Cell.no,vI p] (jm m n W)=bB (jm m n λj i=>W j i%p):=by unfold jm;refine zl _ _ λj O=>zo rfl rfl ?_;simp[zds _ w U]
 have S:xu [.int p,.int n,p0 z (jm m n W)]=jf 9 (zV (jy 3<|j5<|zM (zH<|zk 2) (.nm 0) 1 [0] ja (zA xJ<|zc (zf 1)<|zc (zf 0) zG))<|zV (vH 4<|vx zG)<|zV (J5 (jr<|zf 1) (.nm 5) Jn)<|Vj 4) [.int p,.int n,p0 z (jm m n W)]:=rfl;rw[S];simp[jf,zZ,zW,Z,z7,yc,SI,P,U,j9];simp only[z6 n λi=>i,X];simp
theorem wx{p:Int}(j:Pr p){n m:Nat}(J:n<=100)(I:m<=lim)(e:Sk)(W:Nat->Vc):
 ∃r B l,xu [.int p,.int n,p0 e (jm m n W)]=bB (.own<|jm r n B)/\gB p n r B l/\∀v,Span p n (el r B) v↔Span p n (el m W) v:=vm j ⋯ I e W
noncomputable def Yk{e:Type}(q:Nat)(x:e)(f:Nat->e):Nat->e:=λk=>if k<q then f k else if k=q then x else f (k-1)
noncomputable def V1(l:DX)(r x:Nat):Nat:=((SF r).filter λk=>decide<|l k<x).length
theorem VZ:∀{r:Nat},(∀k m,k<m->m<r->l k<l m)->(∀k,k<r->l k≠x)->V1 l r x<=r/\(∀k,k<V1 l r x->l k<x)/\∀k,V1 l r x<=k->k<r->x<l k
 |0,_,_=>⟨SN _,λk I=>absurd I (by simp[V1]),λk _ I=>absurd I<|Uj _⟩
 | r+1,hm,j_=>by
  refine dt λQ=>?_;obtain⟨d,J,O⟩:=VZ (r:=r) (λk m a b=>hm k m a ⋯) λk I=>j_ k ⋯;refine Q ?_;have e:V1 l (r+1) x=V1 l r x+if l r<x then 1 else 0:=by unfold V1;rw[UO,Rj,Tt];by_cases q:l r<x<;>simp[q]
  by_cases q:l r<x
  ·rw[e,DJ q]
   have U:V1 l r x=r:=by
    rcases To _ r with z|z
    ·have Y:=O _ (SN _) z
     have Z:=hm _ r z<|Ur r;lia
    ·lia
   rw[U];refine⟨SN _,λk I=>?_,λk a b=>absurd b ⋯⟩;rcases To k r with z|z
   ·exact J k ⋯
   ·have:k=r:=⋯
    subst this;exact q
  ·rw[e,DY q,T8]
   refine⟨⋯,J,λk a b=>?_⟩;rcases To k r with z|z
   ·exact O k a z
   ·have:k=r:=⋯
    subst this;have:=j_ k b;lia
section
variable{p:Int}{n r:Nat}{B:Nat->Vc}{l:DX}{w:Vc}
structure Dk(p:Int)(n r:Nat)(B:Nat->Vc)(l:DX)(w:Vc)(k:Nat)(R:Vc):Prop where
 l4:∀i,i<n->0<=R i/\R i<p
 z8:∀q,q<k->R (l q)=0
 eqv:∀G,(∀k,k<r->Span p n G (B k))->(Span p n G w↔Span p n G R)
theorem Dk.next(e:Pr p)(O:gB p n r B l)(h:Dk p n r B l w k R)(I:k<r):Dk p n r B l w (k+1) (i7 p (B k) (l k) R):=by
 have Q:=e.pos;refine⟨λi _=>⟨TK _ ⋯,Tx _ Q⟩,λq U=>?_,λG J=>?_⟩
 ·unfold i7
  rcases To q k with z|z
  ·rw[h.z8 q z,O.rp k q I ⋯ ⋯];simp
  ·have:q=k:=⋯
   subst this;rw[O.one q I];simp
 ·rw[h.eqv G J]
  exact⟨(Xm<|J k I),(eQ<|J k I)⟩
theorem aJ(J:q<=r)(O:k<r+1):(k=q/\Yk q x f k=x)\/∃I,I<r/\Yk q x f k=f I/\((k<q/\I=k)\/(q<k/\I+1=k)):=by
 unfold Yk
 grind
theorem k_:Yk q x f q=x:=by unfold Yk;rw[DY (Uh _),DJ rfl]
theorem Fn:∃I,(I<q/\I=k\/q<I/\I=k+1)/\Yk q x f I=f k:=by
 rcases To k q with z|z
 ·exact⟨k,.inl ⟨z,rfl⟩,by unfold Yk;rw[DJ z]⟩
 ·exact⟨k+1,.inr ⟨⋯,rfl⟩,by unfold Yk;rw[DY ⋯,DY ⋯];rfl⟩
theorem Fp(L:Pr p)(U:gB p n r B l)(S:a<n)(E:R a=1)(hz:∀i,i<a->R i=0)(H:∀k,k<r->R (l k)=0)(M:∀i,i<n->0<=R i/\R i<p):
 gB p n (r+1) (Yk (V1 l r a) R λk=>i7 p R a<|B k) (Yk (V1 l r a) a l):=by
 have N:=L.pos;obtain⟨K,P,T⟩:=VZ U.mono (λk J e=>by have:=H k J;rw[e,E]at this;lia);have C w i:0<=i7 p R a w i/\i7 p R a w i<p:=⟨TK _ ⋯,Tx _ N⟩;have y w:i7 p R a w a=0:=by unfold i7;simp_all
 have t w k:k<r->0<=w (l k)->w (l k)<p->i7 p R a w (l k)=w (l k):=λJ E F=>by unfold i7;simp only[H k J,w5,Int.sub_zero];exact UG E F
 have A k j:k<r->j<l k->i7 p R a (B k) j=0:=λJ Z=>by
  unfold i7;rw[U.l8 k j J Z];rcases To a (l k)with z|z
  ·rw[U.l8 k a J z];simp
  ·rw[hz j ⋯];simp
 have two:=L.two;have Q:∀k,k<r+1->(k=V1 l r a/\Yk (V1 l r a) R (λk=>i7 p R a<|B k) k=R/\Yk (V1 l r a) a l k=a)\/
  ∃I,I<r/\Yk (V1 l r a) R (λk=>i7 p R a<|B k) k=i7 p R a (B I)/\Yk (V1 l r a) a l k=l I/\((k<V1 l r a/\I=k)\/(V1 l r a<k/\I+1=k)):=by
  intro k J;rcases aJ K J with⟨b,g⟩|⟨I,O,b,g⟩
  ·left;refine⟨b,g,?_⟩;subst b;exact k_
  ·right
   refine⟨I,O,b,?_,g⟩;rcases g with⟨u,x⟩|⟨u,x⟩
   ·unfold Yk;rw[DJ u,x]
   ·unfold Yk;rw[DY ⋯,DY ⋯];congr 1;lia
 refine⟨λk J=>?_,λk m W h=>?_,λk J=>?_,λk j J Z=>?_,λk m J h X=>?_,λk i J G=>?_⟩
 ·rcases Q k J with⟨_,_,e⟩|⟨I,O,_,e,_⟩
  ·rw[e];exact S
  ·rw[e];exact U.lt I O
 ·rcases Q k ⋯with⟨z,_,e⟩|⟨I,O,_,e,z⟩<;>rcases Q m h with⟨s,_,f⟩|⟨d,Y,_,f,s⟩<;>simp only[e,f]
  ·lia
  ·exact T d ⋯ Y
  ·exact P I ⋯
  ·exact U.mono I d ⋯ Y
 ·rcases Q k J with⟨_,b,e⟩|⟨I,O,b,e,_⟩<;>rw[b,e]
  ·exact E
  ·have o:=U.one I O
   rw[t _ I O ⋯ ⋯];exact o
 ·rcases Q k J with⟨_,b,e⟩|⟨I,O,b,e,_⟩<;>rw[b]<;>rw[e]at Z
  ·exact hz j Z
  ·exact A I j O Z
 ·rcases Q k J with⟨z,b,_⟩|⟨I,O,b,_,z⟩<;>rcases Q m h with⟨s,_,f⟩|⟨d,Y,_,f,s⟩<;>rw[b,f]
  ·lia
  ·exact H d Y
  ·exact y _
  ·have o:=U.rp I d O Y ⋯
   rw[t _ d Y ⋯ ⋯];exact o
 ·rcases Q k J with⟨_,b,_⟩|⟨I,O,b,_,_⟩<;>rw[b]
  ·exact M i G
  ·exact C _ _
theorem Fq(I:q<=r)(J:Span p n G R)(O:∀k,k<r->Span p n G (F k)):∀g,el (r+1) (Yk q R F) g->Span p n G g:=by
 rintro g ⟨k,Q,rfl⟩;rcases aJ I Q with⟨_,e⟩|⟨U,Y,e,_⟩<;>rw[e]
 ·exact J
 ·exact O U Y
theorem Fe(J:q<=r):el (r+1) (Yk q R F) R/\∀k,k<r->el (r+1) (Yk q R F) (F k):=by refine⟨⟨q,⋯,k_.symm⟩,λk O=>?_⟩;obtain⟨I,h,e⟩:=Fn;exact⟨I,⋯,e.symm⟩
theorem AI(S:Pr p)(M:gB p n r B l)(L:a<n)(hs:∀v,Span p n (el r B) v↔Span p n (el j W) v)(O:Dk p n r B l (W j) r R)(H:y*R a%p=1)(E:∀i,i<n->R' i=y*R i%p)(Q:V1 l r a<=r)(v:Vc):
 Span p n (el (r+1)<|Yk (V1 l r a) R' λk=>i7 p R' a<|B k) v↔Span p n (el (j+1) W) v:=by
 have o v:Span p n (el j W) v->Span p n (el (j+1) W) v:=λJ=>J.le λg f=>by obtain⟨i,b,e⟩:=f;exact .gen ⟨i,⋯,e⟩
 have U:=λk I=>o _<|(hs _).mp (.gen ⟨k,I,rfl⟩);have Y:Span p n _ R':=(((O.eqv _ U).mp (.gen ⟨j,⋯,rfl⟩)).smul y).congr λi b=>by simp_all
 obtain⟨m,m2⟩:=Fe Q;have Z:Span p n (el (r+1)<|Yk _ R' λk=>i7 p R' a<|B k) R':=.gen m;have d:=λk I=>eQ Z<|.gen<|m2 k I;constructor
 ·exact λJ=>J.le<|Fq Q Y λk I=>Xm Y<|U k I
 ·refine λJ=>J.le ?_
  rintro g ⟨i,b,rfl⟩;rcases To i j with z|z
  ·exact((hs _).mpr (.gen ⟨i,z,rfl⟩)).le λg h=>by obtain⟨k,I,e⟩:=h;rw[e];exact d k I
  ·have:i=j:=⋯
   subst this;exact(O.eqv _ d).mpr ((Z.smul<|R a).congr λi b=>by
  rw[E i b,au,<-UL,Ui (R a) y,SU,H,M5,TZ])
theorem nP(hs:∀v,Span p n (el r B) v↔Span p n (el j W) v)(J:Dk p n r B l (W j) r R)(E:∀i,i<n->R i=0)(v:Vc):Span p n (el r B) v↔Span p n (el (j+1) W) v:=by
 constructor
 ·exact λI=>((hs v).mp I).le λg ⟨i,a,e⟩=>.gen ⟨i,⋯,e⟩
 ·refine λI=>I.le ?_
  rintro g ⟨i,a,rfl⟩;rcases To i j with z|z
  ·exact(hs _).mpr (.gen ⟨i,z,rfl⟩)
  ·have:i=j:=⋯
   subst this;exact(J.eqv _ λk O=>.gen ⟨k,O,rfl⟩).mpr (.zero λi a=>by simp_all)
end
theorem se(h w f):deep (.lst<|jm h w f)<=2:=Bb h w f
theorem Aj(h w f):ji (.lst<|jm h w f)=cm:=EZ h w f
theorem gj(h w f):i5 (.lst<|jm h w f)=cm:=gi (se h w f) ⋯<|Aj h w f
@[simp] theorem zeJ(h w f):(v9 h w f).length=h:=by simp[v9]
section
variable{p:Int}{n m r:Nat}{G:Vc->Prop}
theorem Span.sum{u:Nat->Vc}(c:Nat->Int):∀{m:Nat},(∀k,k<m->Span p n G (u k))->Span p n G λi=>zm (λk=>c k*u k i) m
 |0,_=>.zero λi _=>by simp[zm]
 |m+1,h=>(((h m ⋯).add (Span.sum c (m:=m) λk I=>h k ⋯) (c m))).congr λi _=>by rfl
noncomputable def Rk(p:Int)(n m:Nat)(W:Nat->Vc)(r:Nat):Prop:=∃B l,gB p n r B l/\∀v,Span p n (el r B) v↔Span p n (el m W) v
theorem JC(e:Pr p)(h:Rk p n m W r)(h':Rk p n m W r'):r=r':=by obtain⟨B,l,O,a⟩:=h;obtain⟨b,d,Q,J⟩:=h';exact(KP e O Q (λv I=>(J v).mpr ((a v).mp I))<|λv I=>(a v).mpr ((J v).mp I)).1
theorem fN(e:Pr p)(I:gB p n r B l)(j:∀i,i<n->0<=w i/\w i<p):∀k,k<=r->∃R,Dk p n r B l w k R
 |0,_=>⟨w,j,λq J=>absurd J<|Uj _,λG _=>Iff.rfl⟩
 |k+1,h=>by obtain⟨R,O⟩:=fN e I j k ⋯;exact⟨_,O.next e I ⋯⟩
theorem gO:∀n (R:Vc),(∀i,i<n->R i=0)\/∃a,a<n/\R a≠0/\∀i,i<a->R i=0
 |0,R=>.inl λi b=>absurd b<|Uj _
 | n+1,R=>by
  rcases gO n R with h|⟨a,h1,I,J⟩
  ·by_cases e:R n=0
   ·exact .inl λi b=>by rcases To i n with z|z;exact h i z;rw[show i=n by lia];exact e
   ·exact .inr ⟨n,⋯,e,h⟩
  ·exact .inr ⟨a,⋯,I,J⟩
theorem BE(z:Pr p)(W:Nat->Vc)(U:∀j i,0<=W j i/\W j i<p):∀m,∃r,r<=m/\Rk p n m W r
 |0=>⟨0,SN _,λ_ _=>0,λ_=>0,⟨λk I=>absurd I<|Uj _,λk q _ I=>absurd I<|Uj _,λk I=>absurd I<|Uj _,λk j I=>absurd I<|Uj _,λk q I=>absurd I<|Uj _,λk i I=>absurd I<|Uj _⟩,
  λv=>⟨λQ=>Q.le λg ⟨k,I,_⟩=>absurd I<|Uj _,λQ=>Q.le λg ⟨k,I,_⟩=>absurd I<|Uj _⟩⟩
 | m+1=>by
  obtain⟨r,h,B,l,J,b⟩:=BE z W U m;have Z:=z.pos;obtain⟨R,O⟩:=fN z J (λi _=>U m i) r<|SN _;rcases gO n R with h0|⟨a,ha,a0,a1⟩
  ·exact⟨r,⋯,B,l,J,nP b O h0⟩
  ·have d:=O.l4 a ha
   obtain⟨y,_,_,Y⟩:=Cf z ⋯ d.2;exact⟨r+1,⋯,_,_,Fp z J ha Y (λi f=>by rw[a1 i f];simp) (λk I=>by rw[O.z8 k I];simp) λi _=>⟨TK _ ⋯,Tx _ Z⟩,
    AI z J ha b O Y (λi _=>rfl) (VZ J.mono (λk I e=>by have:=O.z8 k I;rw[e]at this;exact a0 this)).1⟩
theorem XR(z:Pr p)(m:Nat)(W:Nat->Vc):∃r,r<=m/\Rk p n m W r:=by
 obtain⟨r,J,B,l,O,a⟩:=BE z (λj i=>W j i%p) (λj i=>⟨TK _ (by have:=z.pos;lia),Tx _ z.pos⟩) m;refine⟨r,J,B,l,O,λv=>(a v).trans ⟨λh=>h.le λg ⟨k,I,e⟩=>?_,λh=>h.le λg ⟨k,I,e⟩=>?_⟩⟩
 ·subst e;exact(Span.gen ⟨k,I,rfl⟩).congr λi _=>by rw[TZ]
 ·subst e;exact(Span.gen ⟨k,I,rfl⟩).congr λi _=>by rw[TZ]
theorem En(e:Pr p){b:Nat}(_:n<=100)(_:m<=b)(W:Nat->Vc):∃r,r<=m/\Rk p n m W r:=XR e m W
theorem HC(E:Pr p)(h:Rk p n m W r)(h':Rk p n m' W' r')(H:∀j,j<m->Span p n (el m' W') (W j)):r<=r':=by
 obtain⟨B,l,J,d⟩:=h;obtain⟨u,s,Q,Y⟩:=h';have t:=λk I=>dm Q ((Y _).mpr (((d _).mp (.gen ⟨k,I,rfl⟩)).le λg ⟨j,Z,e⟩=>e ▸ H j Z)) (J.lt k I) (by rw[J.one k I,E.one];decide) λi b=>by rw[J.l8 k i I b];simp
 have o:∀k,k<r->∀q,q<r'->s q=l k->k<=q:=by
  intro k
  induction k with
  |zero=>intro _ q _ _;exact Uc _
  | succ k f=>
   intro I q A e;obtain⟨O,U,a⟩:=t k ⋯;have w:=f ⋯ O U a;have x:=J.mono k (k+1) ⋯ I;rcases To O q with z|z
   ·lia
   ·rcases To q O with y|y
    ·have:=Q.mono q O y U
     lia
    grind
 grind
end
section
variable{p:Int}{n m r h w:Nat}
theorem QY{l:DX}(h:Nat):∀{r:Nat},(∀k m,k<m->m<r->l k<l m)->∃s,s<=r/\(∀k,k<s->l k<h)/\∀k,s<=k->k<r->h<=l k
 |0,_=>⟨0,SN _,λk I=>absurd I<|Uj _,λk _ I=>absurd I<|Uj _⟩
 | r+1,hm=>by
  obtain⟨s,a,J,O⟩:=QY h (r:=r) λk m I Q=>hm k m I ⋯;by_cases e:l r<h
  ·refine⟨r+1,SN _,λk I=>?_,λk a J=>by lia⟩
   rcases To k r with z|z
   ·have:=hm k r z ⋯;lia
   ·have:k=r:=⋯
    subst this;exact e
  ·refine⟨s,⋯,J,λk I U=>?_⟩
   rcases To k r with z|z
   ·exact O k I z
   ·have:k=r:=⋯
    subst this;lia
theorem dF(hs:s<=r)(e:∀k,k<s->q k=cT)(J:∀k,s<=k->k<r->q k=cm):(SF r).filter q=(SF<|r-s).map (s + ·):=by
 obtain⟨d,rfl⟩:∃d,r=s+d:=⟨r-s,⋯⟩;rw[MP,Rj];have a:(SF s).filter q=[]:=_b.mpr λk I=>by rw[e k (SJ.mp I)];decide
 have O:_=(SF d).map (s + ·):=List.filter_eq_self.mpr λk I=>by obtain⟨i,b,rfl⟩:=Tb.mp I;exact J _ ⋯ (by have:=SJ.mp b;lia)
 simp only[a,O,UK];rfl
noncomputable def ZD(h:Nat)(u v:Vc):Vc:=λi=>if i<h then u i else v (i-h)
noncomputable def qo(j:Nat):Vc:=λk=>if j=k then 1 else 0
theorem qb(e:i<h):ZD h u v i=u i:=DJ e
theorem qr(i:Nat):ZD h u v (h+i)=v i:=by unfold ZD;rw[DY ⋯,UK]
theorem Xh(h w:Nat)(u v:Vc):zX h u++zX w v=zX (h+w) (ZD h u v):=by
 unfold zX;rw[MP,Ue];congr 1
 ·exact Tp λi a=>by rw[qb (SJ.mp a)]
 ·rw[Tn]
  exact Tp λi _=>by simp only[Function.comp];rw[qr]
theorem rW(h w:Nat)(v:Vc):(zX (h+w) v).take h=zX h v:=by unfold zX;rw[<-List.map_take,List.take_range,T5 (Tv h w)]
theorem rX(h w:Nat)(v:Vc):(zX (h+w) v).drop h=zX w λj=>v (h+j):=by unfold zX;rw[MP,Ue,List.drop_append_of_le_length ⋯,MM ⋯,Tn];rfl
theorem gV(h w:Nat)(v:Vc):gW (zX (h+w) v) cI (bB h)=zX h v:=by
 have c:¬((h:Int)<0):=⋯
 simp[gW,VY,c,T5<|Tv h w,rW]
theorem gU(h w:Nat)(v:Vc):gW (zX (h+w) v) (bB h) cI=zX w λj=>v (h+j):=by
 have c:¬((h:Int)<0):=⋯
 have t g:(zX w g).take w=zX w g:=Ht ⋯;simp[gW,VY,c,T5<|Tv h w,rX,t]
theorem eZ(v:Vc):∀n,QM (zX n v)=bB ((SF n).map λi=>v i != 0)
 |0=>rfl
 | n+1=>by
  have b:∀l:List Nat,QM (l.map λi=>D.int<|v i)=bB (l.map λi=>v i != 0):=by
   intro l
   induction l with
   |nil=>rfl
   |cons a l I=>simp[QM,Mo,I]
  exact b _
theorem K7(J:gB p (h+w) r B l)(O:r<=lim)(hs:s<=r)(z:∀k,k<s->l k<h)(Q:∀k,s<=k->k<r->h<=l k):
 qP [.int h,.lst (jm r (h+w) B)]=bB (.own<|jm (r-s) w λk j=>B (s+k)<|h+j):=by
 have d:zI (.nm 0) (kc<|sB<|GF<|zJ<|nT (zf 0) Xa<|h9<|zf 1) (nT (zf 0) (h9<|zf 1) Xa) [Cell.no,vI h] (jm r (h+w) B)=bB (((SF r).filter λk=>decide<|h<=l k).map λk=>D.tup<|zX w λj=>B k<|h+j):=by
  unfold jm;refine jk _ _ _ λk I=>⟨_,rfl,?_,λU=>?_⟩
  ·have I:=SJ.mp I
   simp[gV,eZ];by_cases e:h<=l k
   ·simp[e]
    intro i f;simp[(J.l8 k i I ⋯)]
   ·simp[e]
    exact⟨l k,⋯,by rw[J.one k I];decide⟩
  ·simp[gU]
 rw[dF hs (λk I=>decide_eq_false (by have:=z k I;lia)) (λk a b=>decide_eq_true<|Q k a b)]at d;simp[qP,jf,zZ,O,z7,yc,SI,d];rfl
noncomputable def Dj(p:Int)(h w:Nat)(f:DW)(v:Vc):Prop:=∀i,i<h->zm (λj=>f i j*v j) w%p=0
theorem Aa{f:DW}{v:Vc}(I:Span p (h+w) (el w λj=>ZD h (λi=>f i j)<|qo j) v):∀i,i<h->v i%p=zm (λj=>f i j*v (h+j)) w%p:=by
 induction I with
 |@zero v d=>
  intro i a;rw[d i ⋯];have:zm (λj=>f i j*v (h+j)) w%p=zm (λ_=>0) w%p:=zT λj J=>by rw[SU,d (h+j) ⋯];simp
  rw[this,z5];rfl
 |@step v u g c O Z b Q=>
  intro i a;obtain⟨m,U,rfl⟩:=O;rw[b i ⋯,Ub,Q i a,<-Ub];have e:zm (λj=>f i j*v (h+j)) w%p=zm (λj=>_+_) w%p:=zT λj J=>by rw[SU,b (h+j) ⋯,<-SU];simp only[qr];rw[DE,MY]
  simp only[e,jE,jz,zY (f:=λj=>f i j*qo m j) U λj _ Y=>by simp[qo,Tq Y]];simp[qo,qb a]
theorem eP(hp:Pr p)(w:Nat):gB p w w qo id where
 lt:=λk I=>I
 mono:=λk m I _=>I
 one:=λk _=>DJ rfl
 l8:=λk j _ J=>DY (by simp only[id]at J;lia)
 rp:=λk m _ _ O=>DY (by simp only[id];lia)
 l4:=λk i _ _=>by have:=hp.two;unfold qo;split<;>lia
theorem Span.map(t:DX)(I:∀i,i<n'->t i<n)(J:∀g,G g->Span p n' G' λi=>g<|t i)(O:Span p n G v):Span p n' G' λi=>v (t i):=by
 induction O with
 |@zero v d=>exact .zero λi a=>d _<|I i a
 |@step v u g c Q Y b U=>exact((J _ Q).add U c).congr λi a=>b _<|I i a
theorem bA(E:Pr p)(hh:h<=100)(hw:w<=100)(f:DW):
 ∃q K l s,vh [.int p,qk h w f]=bB (.own<|jm q w K)/\gB p w q K l/\(∀v,Span p w (el q K) v↔Dj p h w f v)/\Rk p h w (λj i=>f i j) s/\q+s=w:=by
 have hl:=jb;have P:h<=lim:=⋯
 have Z:w<=lim:=⋯
 have R:h+w<=lim:=⋯
 obtain⟨r,B,l,e,J,Y⟩:=vm E (⋯:h+w<=200) Z .L λj=>ZD h (λi=>f i j)<|qo j;have S:w<=r:=by obtain⟨r',o,x⟩:=XR E r λk j=>B k<|h+j;refine Tf (HC E ⟨qo,id,eP E w,λv=>Iff.rfl⟩ x λj O=>?_) o;exact(Span.map (n':=w) (G':=el r λk j=>B k<|h+j) (λi=>h+i) (λi a=>by lia) (λg ⟨k,I,Q⟩=>.gen ⟨k,I,by rw[Q]⟩)<|(Y<|ZD h (λi=>f i j)<|qo j).mpr (.gen ⟨j,O,rfl⟩)).congr λi _=>by rw[qr]
 have er:=Nat.le_antisymm (by
  obtain⟨r',o,x⟩:=XR E w λj=>ZD h (λi=>f i j)<|qo j;rw[JC E ⟨B,l,J,Y⟩ x];exact o) S
 subst er;obtain⟨s,hs,G,b⟩:=QY h J.mono;have ad:gB p r (r-s) (λk j=>B (s+k)<|h+j) (λk=>l (s+k)-h):={
  lt:=λk I=>by have:=J.lt (s+k) ⋯;have:=b (s+k) ⋯ ⋯;lia
  mono:=λk m I y=>by have:=J.mono (s+k) (s+m) ⋯ ⋯;have:=b (s+k) ⋯ ⋯;lia
  one:=λk I=>by have:=b (s+k) ⋯ ⋯;rw[show h+(l (s+k)-h)=l (s+k)by lia];exact J.one _ ⋯
  l8:=λk j I O=>J.l8 _ _ ⋯ ⋯
  rp:=λk m I y n=>by have:=b (s+m) ⋯ ⋯;rw[show h+(l (s+m)-h)=l (s+m)by lia];exact J.rp _ _ ⋯ ⋯ ⋯
  l4:=λk i I a=>J.l4 _ _ ⋯ ⋯}
 refine⟨r-s,_,_,s,?_,ad,λv=>⟨λU=>?_,λU=>?_⟩,?_,⋯⟩
 ·have M:=wm f P Z
  have N:=we Z;have C:zI (.tp [0,1]) ja (zD qw (zf 0)<|zf 1) [Cell.no,Cell.no] ((SF r).map λj=>D.tup [.tup (zX h λi=>f i j),.tup (zX r λk=>if j=k then 1 else 0)])=bB (jm r (h+r) λj=>ZD h (λi=>f i j)<|qo j):=by unfold jm;refine zl _ _ λj O=>zo rfl rfl ?_;simp[qw,R,Xh];rfl
  have zez:ZA (jm r h λi j=>f j i) (jm r r λi j=>if i=j then 1 else 0)=(SF r).map λj=>D.tup [.tup (zX h λi=>f i j),.tup (zX r λk=>if j=k then 1 else 0)]:=by unfold ZA jm;rw[DB];simp
  have c1:((h:Int)+(r:Int))=((h+r:Nat):Int):=⋯
  simp only[p0]at e;rw[<-c1]at e;unfold qk at M N ⊢;have nl:∀T t f γ,zI T t f γ []=bB []:=λ_ _ _ _=>rfl;simp[vh,kB,jf,zZ,zW,M,N,zez,Z,z7,SI,C,nl,e,(K7 J Z hs G b)]
 ·intro i a
  induction U with
  |@zero v hz=>
   have:zm (λj=>f i j*v j) r%p=zm (λ_=>0) r%p:=zT λj O=>by rw[SU,hz j O];simp
   rw[this,z5];rfl
  |@step v u g c hg hu he A=>
   obtain⟨k,I,rfl⟩:=hg;have e1:zm (λj=>f i j*v j) r%p=zm (λj=>f i j*u j+c*(f i j*B (s+k) (h+j))) r%p:=zT λj O=>by rw[SU,he j O,<-SU,DE,MY]
   have H:=(λv U=>Aa<|(Y v).mp U) (B<|s+k) (.gen ⟨s+k,⋯,rfl⟩) i a;rw[(J.l8 _ _ ⋯ (by have:=b (s+k) ⋯ ⋯;lia))]at H;rw[e1,jE,jz,Ub,A,SU,<-H];simp
 ·
  have W:Span p (h+r) (el r B) (ZD h (λ_=>0) v):=by
   refine(Y _).mpr ((Span.sum (u:=λj=>ZD h (λi=>f i j)<|qo j) v (m:=r) λj O=>.gen ⟨j,O,rfl⟩).congr λi a=>?_);rcases To i h with z|z
   ·simp only[qb z]
    rw[zB (g:=λj=>f i j*v j) λj _=>Ui _ _,U i z];simp
   ·obtain⟨k,rfl⟩:∃k,i=h+k:=⟨i-h,⋯⟩
    simp only[qr];rw[zY (f:=λj=>v j*qo j k) (i:=k) ⋯ λj _ n=>by simp[qo,n]];simp[qo]
  refine(Span.sum (u:=λk j=>B (s+k)<|h+j) (λk=>ZD h (λ_=>0) v<|l<|s+k) (m:=r-s) λk I=>.gen ⟨k,I,rfl⟩).congr λj O=>?_;have:=(QU J W) (h+j) ⋯;rw[qr]at this;rw[this];obtain⟨d,rfl⟩:∃d,r=s+d:=⟨r-s,⋯⟩;rw[UK];have sp:∀(F:Nat->Int) (d:Nat),(∀k,k<s->F k=0)->zm F (s+d)=zm (λk=>F<|s+k) d:=by
   intro F d hF
   induction d with
   |zero=>
    show zm F s=0;rw[zB (g:=λ_=>0) hF,z5]
   |succ d A=>rw[<-M9];simp only[zm];rw[A]
  rw[sp _ d λk I=>by rw[qb (G k I)];simp]
 ·
  refine⟨λk i=>B k i,l,⟨λk I=>G k I,λk m I y=>J.mono k m I ⋯,λk I=>J.one k ⋯,λk j I O=>J.l8 k j ⋯ O,λk m I y n=>J.rp k m ⋯ ⋯ n,λk i I a=>J.l4 k i ⋯ ⋯⟩,λv=>⟨λU=>U.le λg ⟨k,I,Q⟩=>?_,λU=>U.le λg ⟨j,O,Q⟩=>?_⟩⟩
  ·subst Q
   exact Span.map (n':=h) (G':=el r λj i=>f i j) (λi=>i) (λi a=>by lia) (λg X=>by obtain⟨j,O,Q⟩:=X;exact(Span.gen (g:=λi=>f i j) ⟨j,O,rfl⟩).congr λi a=>by rw[Q];simp only[qb a])<|(Y<|B k).mp (.gen ⟨k,⋯,rfl⟩)
  ·subst Q
   exact(Span.map (n':=h) (G':=el s λk i=>B k i) (λi=>i) (λi a=>by lia) (λg hZ=>by
    obtain⟨k,I,Q⟩:=hZ;subst Q;rcases To k s with z|z
    ·exact .gen ⟨k,z,rfl⟩
    ·exact .zero λi a=>by rw[J.l8 k i I (by have:=b k z I;lia)];simp) ((Y<|ZD h (λi=>f i j)<|qo j).mpr (.gen ⟨j,O,rfl⟩))).congr λi a=>by rw[qb a]
theorem vg(e:Pr p)(I:h<=20)(z:w<=20)(f:DW):
 ∃q K l s,vh [.int p,qk h w f]=bB (.own<|jm q w K)/\gB p w q K l/\(∀v,Span p w (el q K) v↔Dj p h w f v)/\Rk p h w (λj i=>f i j) s/\q+s=w:=bA e ⋯ ⋯ f
end
section
variable{p:Int}{h w r:Nat}
noncomputable def app(f:DW)(w:Nat)(v:Vc):Vc:=λi=>zm (λj=>f i j*v j) w
theorem eB(z:∀j,j<w->v j%p=(u j+c*g j)%p)(i:Nat):app f w v i%p=(app f w u i+c*app f w g i)%p:=by
 unfold app;have e:zm (λj=>f i j*v j) w%p=zm (λj=>_+_) w%p:=zT λj I=>by rw[SU,z j I,<-SU,DE,MY]
 simp only[e,jE,jz]
theorem Xq(hz:∀j,j<w->v j%p=0)(i:Nat):app f w v i%p=0:=by
 unfold app;have:zm (λj=>f i j*v j) w%p=zm (λ_=>0) w%p:=zT λj I=>by rw[SU,hz j I];simp
 rw[this,z5];rfl
theorem jR(e:∀j,j<w->v j%p=u j%p)(i:Nat):app f w v i%p=app f w u i%p:=by unfold app;exact zT λj I=>by rw[SU,e j I,<-SU]
theorem iG(J:gB p (h+w) r B l)(hs:s<=r)(E:∀k,k<s->l k<h)(e:∀k,s<=k->k<r->h<=l k):
 gB p w (r-s) (λk j=>B (s+k)<|h+j) (λk=>l (s+k)-h)/\∀v,Span p w (el (r-s) λk j=>B (s+k)<|h+j) v↔Span p (h+w) (el r B) (ZD h (λ_=>0) v):=by
 refine⟨{
  lt:=λk I=>by have:=J.lt (s+k) (by grind);have:=e (s+k) ⋯ (by grind);lia
  mono:=λk m I U=>by have:=J.mono (s+k) (s+m) ⋯ ⋯;have:=e (s+k) ⋯ (by grind);grind
  one:=λk I=>by have:=e (s+k) ⋯ ⋯;rw[show h+_=l (s+k)by grind];exact J.one _ ⋯
  l8:=λk j I Y=>J.l8 _ _ ⋯ ⋯
  rp:=λk m I U t=>by have:=e (s+m) ⋯ ⋯;rw[show h+_=l (s+m)by lia];exact J.rp _ _ ⋯ ⋯ ⋯
  l4:=λk i I a=>J.l4 _ _ ⋯ ⋯},λv=>⟨λO=>?_,λO=>?_⟩⟩
 ·induction O with
  | @zero v n=>
   refine .zero λi a=>?_;rcases To i h with z|z
   ·rw[qb z];simp
   ·obtain⟨k,rfl⟩:∃k,i=h+k:=⟨i-h,⋯⟩
    rw[qr];exact n k ⋯
  | @step v u g c Z x f Q=>
   obtain⟨k,I,rfl⟩:=Z;refine .step (c:=c) ⟨s+k,⋯,rfl⟩ Q λi a=>?_;rcases To i h with z|z
   ·rw[qb z,qb z,J.l8 (s+k) i ⋯ (by have:=e (s+k) ⋯ ⋯;lia)];simp
   ·obtain⟨j,rfl⟩:∃k,i=h+k:=⟨i-h,⋯⟩
    rw[qr,qr];exact f j ⋯
 ·refine(Span.sum (λk=>ZD h (λ_=>0) v<|l<|s+k) λk I=>.gen ⟨k,I,rfl⟩).congr λj Y=>?_
  have:=(QU J O) (h+j) ⋯;rw[qr]at this;rw[this];obtain⟨d,rfl⟩:∃d,r=s+d:=⟨r-s,⋯⟩;rw[UK];have o:∀F d,(∀k,k<s->F k=0)->zm F (s+d)=zm (λk=>F<|s+k) d:=by
   intro F d b
   induction d with
   |zero=>
    show zm F s=0;rw[zB b,z5]
   |succ d Q=>rw[<-M9];simp only[zm];rw[Q]
  rw[o _ d λk I=>by rw[qb (E k I)];simp]
end
section
variable{p:Int}{h w q:Nat}
noncomputable def xH(h w:Nat)(f:DW)(g:Nat->Vc):Nat->Vc:=λm=>if m<w then ZD h (λi=>f i m) (qo m)else ZD h (g<|m-w) (λ_=>0)
theorem rY(f:DW)(g:Nat->Vc):jm w (h+w) (λj=>ZD h (λi=>f i j)<|qo j)++jm q (h+w) (λk=>ZD h (g k) λ_=>0)=jm (w+q) (h+w) (xH h w f g):=by
 unfold jm;simp only[MP,Ue,Tn];congr 1
 ·refine Tp λm I=>?_
  unfold xH;rw[DJ (SJ.mp I)]
 ·refine Tp λm I=>?_
  simp only[Function.comp];unfold xH;rw[DY ⋯,UK]
theorem Xr(f:DW)(I:j<w)(i:Nat):app f w (qo j) i=f i j:=by unfold app;rw[zY I λk _ J=>by simp[qo,Tq J]];simp[qo]
theorem px(hz:Span p (h+w) (el (w+q)<|xH h w f g) z):Span p h (el q g) λi=>z i-app f w (λj=>z<|h+j) i:=by
 induction hz with
 |@zero z hz=>
  refine .zero λi a=>?_;rw[UT,hz i ⋯,Xq (λj Q=>hz (h+j) ⋯) i];simp
 | @step z u e c U Y d O=>
  obtain⟨m,Z,rfl⟩:=U;have b:∀i,i<h->(z i-app f w _ i)%p=((u i-app f w (λj=>u<|h+j) i)+c*(xH h w f g m i-app f w (λj=>xH h w f g m<|h+j) i))%p:=λi a=>by rw[UT,d i ⋯,(eB (p:=p) (w:=w) (f:=f) (u:=λj=>u<|h+j) (g:=λj=>xH h w f g m<|h+j) (v:=λj=>z<|h+j) (c:=c)<|λj Q=>d (h+j) ⋯) i,<-UT];congr 1;rw[Int.mul_sub];lia
  rcases To m w with I|I
  ·refine O.congr λi a=>?_
   rw[b i a];have t:app f w (λj=>xH h w f g m<|h+j) i=f i m:=by
    have:(λj=>xH h w f g m<|h+j)=qo m:=by funext j;unfold xH;rw[DJ I,qr]
    rw[this,Xr f I]
   have J:xH h w f g m i=f i m:=by unfold xH;rw[DJ I,qb a]
   rw[t,J];simp
  ·refine .step (c:=c) ⟨m-w,⋯,rfl⟩ O λi a=>?_
   rw[b i a];have t:app f w (λj=>xH h w f g m<|h+j) i=0:=by
    have:(λj=>xH h w f g m<|h+j)=λ_=>0:=by funext j;unfold xH;rw[DY ⋯,qr]
    rw[this];unfold app;simp[z5]
   have J:xH h w f g m i=g (m-w) i:=by unfold xH;rw[DY ⋯,qb a]
   rw[t,J];simp
theorem Fy(I:Span p h (el q g) y):Span p (h+w) (el (w+q)<|xH h w f g) (ZD h y λ_=>0):=by
 induction I with
 | @zero y d=>
  refine .zero λi b=>?_;rcases To i h with z|z
  ·rw[qb z];exact d i z
  ·obtain⟨k,rfl⟩:∃k,i=h+k:=⟨i-h,by grind⟩
   rw[qr];simp
 | @step y u l c J Q a O=>
  obtain⟨k,U,rfl⟩:=J;refine .step (c:=c) ⟨w+k,⋯,rfl⟩ O λi b=>?_;have e:xH h w f g (w+k)=ZD h (g k) λ_=>0:=by unfold xH;rw[DY ⋯,UK]
  rw[e];rcases To i h with z|z
  ·rw[qb z,qb z,qb z];exact a i z
  ·obtain⟨j,rfl⟩:∃k,i=h+k:=⟨i-h,⋯⟩
   rw[qr,qr,qr];simp
theorem Wd(X:Pr p)(hh:h<=20)(hw:w<=20)(hq:q<=100)(f:DW)(g:Nat->Vc):
 ∃r B l,kB [.int p,qk h w f,.lst (jm q h g)]=bB (.own<|jm r w B)/\gB p w r B l/\∀v,Span p w (el r B) v↔Span p h (el q g) (app f w v):=by
 have hl:=jb;have M:h<=lim:=⋯
 have I:w<=lim:=⋯
 have O:h+w<=lim:=⋯
 have N:q<=lim:=⋯
 have Q:w+q<=lim:=⋯
 obtain⟨r,B,l,e,J,u⟩:=wx X (⋯:h+w<=100) Q .L<|xH h w f g;have P:=VG J.mono J.lt;obtain⟨s,d,o,t⟩:=QY h J.mono;have A:=K7 J ⋯ d o t;obtain⟨x,H⟩:=iG J d o t;refine⟨r-s,_,_,?_,x,λv=>(H v).trans ((u _).trans ⟨λU=>?_,λU=>?_⟩)⟩
 ·have Y:=wm f M I
  have Z:=we I;have a:zI (.tp [0,1]) ja (zD qw (zf 0)<|zf 1) [Cell.no,Cell.no] ((SF w).map λj=>D.tup [.tup (zX h λi=>f i j),.tup (zX w λk=>if j=k then 1 else 0)])=bB (jm w (h+w) λj=>ZD h (λi=>f i j)<|qo j):=by unfold jm;refine zl _ _ λj b=>zo rfl rfl ?_;simp[qw,O,Xh];rfl
  have K:ZA (jm w h λi j=>f j i) (jm w w λi j=>if i=j then 1 else 0)=(SF w).map λj=>D.tup [.tup (zX h λi=>f i j),.tup (zX w λk=>if j=k then 1 else 0)]:=by unfold ZA jm;rw[DB];simp
  have y:=Ft I;have zeA:ve (.tup [.int 0]) (.int w)=bB (.tup<|zX w λ_=>0):=by
   show(if [D.int 0].length*(w:Int).toNat<=lim/\inR w=cm then bB (D.tup (SI (w:Int).toNat [D.int 0]).flatten)else cI)=_;rw[DJ ⟨by simpa using I,y⟩];congr 2;rw[P7];clear a K Z Y A x H u J e y Q O I hw hq o t d P
   induction w with
   |zero=>rfl
   |succ w W=>rw[List.replicate_succ',List.flatten_append,W];unfold zX;rw[UO,Ue];rfl
  have C:zI (.nm 0) ja (zD qw (zf 0)<|zD ve (kH<|zc (sI 0) zG)<|di (zk 1)<|sI 1) [Cell.no,Cell.val (qk h w f)] (jm q h g)=bB (jm q (h+w) λk=>ZD h (g k) λ_=>0):=by unfold jm;refine zl _ _ λk F=>zo rfl rfl ?_;have sq:j6 (qk h w f)=bB (.T,[.int h,.int w,.tup (jm h w f)]):=rfl;simp[sq,zeA,qw,O,Xh]
  have S:(h+w)=((h+w:Nat):Int):=⋯
  simp only[p0]at e;rw[<-S,<-rY]at e;unfold qk at Y Z C ⊢;simp[kB,jf,zZ,zW,Y,Z,K,I,N,Q,z7,yc,SI,a,C,e,A]
 ·refine((px U).smul (-1)).congr λi E=>?_
  congr 1;rw[qb E,funext qr];lia
 ·refine((Fy (w:=w) (f:=f) U).add (Span.sum (p:=p) (n:=h+w) (G:=el (w+q)<|xH h w f g) v (m:=w) λj b=>.gen ⟨j,⋯,rfl⟩) (-1)).congr λi E=>?_
  congr 1;rcases To i h with z|z
  ·rw[qb z,qb z]
   have:zm (λk=>v k*xH h w f g k i) w=app f w v i:=by unfold app;exact zB λk F=>by unfold xH;rw[DJ F,qb z,Ui]
   rw[this];lia
  ·obtain⟨k,rfl⟩:∃k,i=h+k:=⟨i-h,⋯⟩
   rw[qr,qr];have:zm (λj=>v j*xH h w f g j (h+k)) w=v k:=by rw[zY (i:=k) ⋯ λj b R=>by unfold xH;rw[DJ b,qr];simp[qo,R]];unfold xH;rw[DJ ⋯,qr];simp[qo]
   rw[this];simp
end
@[simp] noncomputable def zfO:=@iO.eq_1
theorem CC{a b:Bool}(h:fL a=fL b):a=b:=by cases a<;>cases b<;>first|rfl|exact absurd h ⋯
noncomputable def Bq(m e:Nat)(w w':DV):Prop:=m=e/\∀k,k<m->w k=w' k
instance (m m':Nat) (w w':DV):Decidable (Bq m m' w w'):=inferInstanceAs (Decidable (m=m'/\∀k,k<m->w k=w' k))
theorem CD{m e:Nat}{w w':DV}:x9 m w=x9 e w'↔Bq m e w w':=by
 constructor
 ·intro h
  have a:=xB m w;rw[h,xB]at a;have J:=by simpa using (congrArg DM a).symm
  subst J;refine⟨rfl,λk I=>?_⟩;have:=congrArg (λl=>l[k]?) a;simp[I]at this;exact(CC this).symm
 ·rintro⟨rfl,h⟩
  unfold x9;rw[Tp λk I=>by rw[h k (SJ.mp I)]]
theorem pE(m w):i5 (.str<|x9 m w)=cm:=by refine gi (n:=0) (by simp[deep]) ⋯ ?_;show(x9 m w).cps.all (· < 0x110000)=cm;rw[<-Array.all_toList,xB];simp only[Uz];intro c I;obtain⟨k,_,rfl⟩:=Tb.mp I;unfold fL;split<;>decide
section
variable{p p':Int}{m m':Nat}{w w':DV}{wd wd':DX}{T T':DQ}
theorem XQ:j6 (jX p m w wd T)=bB (.T,[.int p,.tup<|zX (m+1) λk=>(wd k),.tup (xx m w wd T)]):=rfl
theorem dZ(k):j6 (wW w wd T k)=bB (.T,[.str (jw<|fL<|w k),qk (f7 w wd k) (fM w wd k) (T k)]):=rfl
theorem mT:zI (.nm 0) ja (di (zk 0)<|sI 0) [Cell.no] (xx m w wd T)=bB ((SF m).map λk=>D.str<|jw<|fL<|w k):=by unfold xx;refine zl _ _ λk I=>zo rfl rfl ?_;rfl
theorem xV(O:m<=900):xl [jX p m w wd T]=bB (.val<|.str<|x9 m w):=by
 have Q:=jb;have I:m<=lim:=⋯
 simp only[xl,jf,zZ];simp only[vw,sY,LO,yB,kR,ic,Bn,Gk,sS,Tw,R6,TQ,F3,SI,DC,Pz,KO,XQ,SR,zr,sN,J?,List.getElem?_cons_succ,LJ,Nat.sub_self,zp];rw[sQ,DJ I,show z7 1 [] _=[Cell.no]from rfl,mT];simp only[zr,SR,(wA _ _)];rw[DJ ⟨by simpa using I,by
  simp only[Uz];intro x J;obtain⟨k,_,rfl⟩:=Tb.mp J;rfl,by rfl⟩]
 rfl
theorem Wb(I:m<=900)(J:m'<=900):kz [jX p m w wd T,jX p' m' w' wd' T']=bB (.val<|.bl<|decide<|p=p'/\Bq m m' w w'):=by
 have f1:=xV (p:=p) (wd:=wd) (T:=T) (w:=w) I;have d:fh (.str<|x9 m w) (.str<|x9 m' w')=bB (.bl<|decide<|Bq m m' w w'):=by unfold fh;rw[DJ ⟨pE m w,pE m' w'⟩];congr 2;rw[F4];simp only[ip,i_,beq_iff_eq,decide_eq_true_eq];exact CD
 by_cases q:p=p'
 ·simp[kz,jf,zZ,XQ,q,f1,xV (p:=p') (wd:=wd') (T:=T') (w:=w') J,d]
  simp_all
 ·simp[kz,jf,zZ,XQ,q]
end
section
variable{p p':Int}{m:Nat}{w w':DV}{wd wd':DX}{T T':DQ}
theorem Jq(I:m<=900):Zj [jX p m w wd T,jX p m w wd' T']=cI/\j7 [jX p m w wd T,jX p m w wd' T']=bB (.val .d9):=by
 have a:=Wb (p:=p) (p':=p) (w:=w) (w':=w) (wd:=wd) (wd':=wd') (T:=T) (T':=T') I I;rw[decide_eq_true ⟨rfl,rfl,λ_ _=>rfl⟩]at a;constructor
 ·simp[Zj,Pq,zZ,Rz,H_,Pg,I',a,SI]
 ·simp[j7,jf,zZ,a,SI]
end
section
theorem Wy(F:Nat->Int)(s:Nat):∀d,zm F (s+d)=zm F s+zm (λk=>F<|s+k) d
 |0=>by simp[zm]
 |d+1=>by rw[<-M9];simp only[zm];rw[Wy F s d];omega
end
@[simp] noncomputable def zeW:=@nZ.eq_1
section
variable{p:Int}{m:Nat}{w:DV}{wd:DX}{T:DQ}
theorem J7:j6 (jX p m w wd T)=bB (.T,[.int p,.tup<|zX (m+1) λk=>(wd k:Int),.tup (xx m w wd T)]):=rfl
end
theorem zu(h:F γ=bB (.next γ'))(g:G γ'=r):zV F G γ=r:=by rw[zW,h];exact g
theorem zQ(h:F (zZ n ds)=bB (.ret r)):jf n F ds=bB r:=by show(F _).bind _=_;rw[h];rfl
theorem rO{T:Tg}{F:CO Fl}(P:Nat->Ctx->Prop)(n:Nat){γ:Ctx}(j:P 0 γ)(step:∀s,s<n->∀γ,P s γ->∃γ1 I,qx T (.int s) γ=bB γ1/\F γ1=bB (.next I)/\P (s+1) I):
 ∃γ',yd T F ((SF n).map λ(i:Nat)=>D.int i) γ=bB (.next γ')/\P n γ':=by
 have b:∀k s γ,s+k=n->P s γ->∃γ',yd T F ((List.range' s k).map λ(i:Nat)=>D.int i) γ=bB (.next γ')/\P n γ':=by
  intro k
  induction k with
  |zero=>
   intro s γ e a;obtain rfl:s=n:=⋯
   exact⟨γ,rfl,a⟩
  |succ k J=>
   intro s γ e a;obtain⟨γ1,I,d,O,Q⟩:=step s ⋯ γ a;obtain⟨γ',U,Y⟩:=J (s+1) I ⋯ Q;refine⟨γ',?_,Y⟩;simp only[List.range'_succ,Tw,xI,d];simp only[SR,O];exact U
 have:=b n 0 γ ⋯ j;rw[<-List.range_eq_range']at this;exact this
theorem JP(P:Nat->Ctx->Prop)(n:Nat)(O:n<=lim)(J:f γ=bB (.int n))(j:P 0 γ)(step:∀s,s<n->∀γ,P s γ->∃γ1 I,qx T (.int s) γ=bB γ1/\F γ1=bB (.next I)/\P (s+1) I):
 ∃γ',J5 (jr f) T F γ=bB (.next γ')/\P n γ':=by
 obtain⟨γ',e,a⟩:=rO P n j step;refine⟨γ',?_,a⟩;have Q:=jb;have r:inR n=cm:=yK ⋯ ⋯;simp only[KU,sV,J];simp[r,j9];assumption
theorem vZ{T:Tg}{F:CO Fl}{g:Nat->D}(P:Nat->Ctx->Prop)(n:Nat){γ:Ctx}(j:P 0 γ)(step:∀s,s<n->∀γ,P s γ->∃γ1 I,qx T (g s) γ=bB γ1/\F γ1=bB (.next I)/\P (s+1) I):
 ∃γ',yd T F ((SF n).map g) γ=bB (.next γ')/\P n γ':=by
 have b:∀k s γ,s+k=n->P s γ->∃γ',yd T F ((List.range' s k).map g) γ=bB (.next γ')/\P n γ':=by
  intro k
  induction k with
  |zero=>
   intro s γ e a;obtain rfl:s=n:=⋯
   exact⟨γ,rfl,a⟩
  |succ k J=>
   intro s γ e a;obtain⟨γ1,I,d,O,Q⟩:=step s ⋯ γ a;obtain⟨γ',U,Y⟩:=J (s+1) I ⋯ Q;refine⟨γ',?_,Y⟩;simp only[List.range'_succ,Tw,xI,d];simp only[SR,O,U]
 obtain⟨γ',e,a⟩:=b n 0 γ ⋯ j;rw[<-List.range_eq_range']at e;exact⟨γ',e,a⟩
theorem Ra{i:Nat}{γ:Ctx}{L:List D}{f:CO D}{d:D}(I:γ[i]? = bB (.own L))(J:f γ=bB d)(O:L.length<lim):qf i f γ=bB (.next<|γ.set i<|.own<|L++[d]):=by simp_all
theorem zdr(xs:List D)(n:Nat)(I:xs.length=n)(J:∀i (h:i<n),∃z,xs[i]'(I ▸ h)=.int z)(ax:n<=63)(k:Int)(M:0<=k)(b0:k<100000):
 ∃m,jI [.lst xs,.int k]=bB (.val<|.int m)/\0<=m/\m<1000000007:=by
 have Q:LC 10 9=cm:=by decide
 have U:∀(z:Int) (a:Nat),z=a->a<n->g5 n z=bB a:=λz a e h=>by rw[e,kg,DJ h]
 let γ:Cell->Cell->Cell->Ctx:=λa b c=>[.val (.lst xs),vI k,a,b,c];have X:∀g:Int,∃m,OA (γ .no .no<|vI g)=bB (.ret<|.val<|.int m)/\0<=m/\m<1000000007:=λg=>⟨_,by
  simp[OA,γ,bh _ 48271 ⋯ ⋯,vt 7 k ⋯ ⋯,vt 13 k ⋯ ⋯,bh _ 69621 ⋯ ⋯,bh (7*k) k ⋯ ⋯,show LC 10 30=cm by decide];rfl,⋯,⋯⟩
 have W:∃g:Int,LL (γ .no .no<|vI k)=bB (.next<|γ .no .no<|vI g):=by
  by_cases H:n=0
  ·exact⟨k,by simp[LL,γ,I,H]⟩
  ·obtain⟨i,K⟩:=ML (TK k<|show(n:Int)≠0 by lia)
   have Y:i<n:=by have:=Tx k (show(0:Int)<n by lia);lia
   obtain⟨zex,E⟩:=J i Y;exact⟨zex,by simp[LL,γ,I,show 0<n by lia,K,kg,Y,E]⟩
 have f:A7 (γ .no .no .no)=bB (.next<|γ .no .no .no)->∃m,jI [.lst xs,.int k]=bB (.val<|.int m)/\0<=m/\m<1000000007:=λh=>by obtain⟨g,B⟩:=W;obtain⟨m,C,N⟩:=X g;exact⟨m,zQ<|zu h<|zu rfl<|zu B C,N⟩
 by_cases l:1<n
 ·obtain⟨z0,Z⟩:=J 0 ⋯
  have r:g5 n 0=bB 0:=U _ 0 rfl ⋯;have x:(1:Int)<(n:Int):=⋯
  have p:0<n:=⋯
  by_cases o:z0%2=1
  ·have w:(0:Int)<(n:Int)-1:=⋯
   have S:(n:Int)-1<1073741824:=⋯
   obtain⟨j,L⟩:=ML (TK k<|show(n:Int)-1≠0 by lia);have O:1+j<n:=by have:=Tx k w;lia
   obtain⟨zey,G⟩:=J (1+j) O;have R:g5 n (1+(j:Int))=bB (1+j):=U _ _ ⋯ O;obtain⟨t,P⟩:=ML (show 0<=k/((n:Int)-1)from Int.ediv_nonneg M ⋯);obtain⟨d,as,b1⟩:∃d:Nat,(if (t:Int)<60 then (t:Int)else 60)=d/\d<=60:=by
    split
    ·exact⟨t,rfl,⋯⟩
    ·exact⟨60,rfl,⋯⟩
   obtain⟨_,u,y,c',rfl⟩:=vZ (T:=.nm 3) (F:=jy 2<|zD VX (zf 2)<|zD FM (sI 10)<|sI 9) (g:=λ(i:Nat)=>D.int i) (λ_ δ=>∃(v:Int) (c:Cell),δ=γ (vI v) c .no) d (γ:=γ (vI zey) .no .no) ⟨_,_,rfl⟩ (by
    rintro s _ _ ⟨v,c,rfl⟩;exact⟨_,γ (vI<|v/10^9) (.val<|.int s) .no,rfl,by simp[γ,Q],_,_,rfl⟩)
   rw[<-z6 d λi=>(i:Int)]at u;have A:inR (d:Int)=cm:=yK ⋯ ⋯;refine⟨y%10^9,?_,⋯,⋯⟩;have:A7 (γ .no .no .no)=bB (.ret<|.val<|.int<|y%10^9):=by simp[A7,zW,γ,I,l,p,x,O,Z,r,o,w,S,L,R,G,P,as,A,j9,u,Q]
   refine zQ ?_;show zV A7 _ (γ .no .no .no)=_;rw[zW,this];rfl
  ·exact f (by simp[A7,γ,I,l,p,x,Z,r,o])
 ·exact f (by simp[A7,γ,I,show ¬(1:Int)<(n:Int)by lia])
theorem FU(e:List Int)(I:e.length<=63)(k:Int)(J:0<=k)(O:k<100000):∃m,jI [Wm e,.int k]=bB (.val<|.int m)/\0<=m/\m<1000000007:=
 zdr _ e.length ⋯ (λi a=>⟨e[i],by simp⟩) I k J O
noncomputable def JW(e:List Int)(k:Int):Int:=match jI [Wm e,.int k]with
 |some (.val<|.int m)=>m
 |_=>0
theorem V3(I:ns.length<=63)(J:0<=k)(O:k<100000):jI [Wm ns,.int k]=bB (.val<|.int<|JW ns k)/\0<=JW ns k/\JW ns k<1000000007:=by
 obtain⟨m,h,a,Q⟩:=FU ns I k J O;have e:JW ns k=m:=by unfold JW;rw[h]
 rw[e];exact⟨h,a,Q⟩
theorem GT{e:List Int}(O:e.length<=63){m:Nat}(U:m<=5):∃w,xN [Wm e,.int 1,.int (1+m)]=bB (.val<|.str<|x9 m w):=by
 have Y:=jb;have I:m<=lim:=⋯
 refine⟨λk=>decide (JW e (1+k)/8%2=1),?_⟩;have b:zI (.nm 0) ja (xc (jn (.str "rl")) (zD yi (zD VX (zA jI (zc (zf 1) (zc (zD qw (zf 2) (zf 0)) zG))) (sI 8)) (sI 2))) [Cell.no,Cell.val (Wm e),vI 1] ((SF m).map λ(i:Nat)=>D.int i) =
  bB ((SF m).map λ(k:Nat)=>D.str<|jw<|fL<|decide<|JW e (1+k)/8%2=1):=by
  refine zl _ _ λk J=>zo rfl rfl ?_;have J:=SJ.mp J;obtain⟨a,Z,d⟩:=V3 O (k:=1+k) ⋯ ⋯;have Q:zD yi (zD VX (zA jI<|zc (zf 1)<|zc (zD qw (zf 2)<|zf 0) zG)<|sI 8) (sI 2) [vI k,Cell.val<|Wm e,vI 1]=bB (.int<|JW e (1+k)/8%2):=by simp[a]
  show xc _ _ [_,_,_]=_;rw[Xt,Q];have q:JW e (1+k)/8%2=0\/JW e (1+k)/8%2=1:=⋯
  rcases q with q|q
  ·rw[q];rfl
  ·rw[q];rfl
 have a:1+m-1=(m:Int):=⋯
 simp[xN,jf,zZ,zW,a,I,j9,z7,yc,SI];rw[z6 m λi=>i,b];simp only[zr,SR,Function.comp];rw[wA];simp only[SR];rw[DJ ⟨by simpa using I,Uz.mp (by
  rw[List.all_map];exact Uz.mpr λk _=>by rfl),rfl⟩]
 rfl
noncomputable def zN(bs:List (Int×Int)):List D:=bs.map λb=>D.tup [.int b.1,.int b.2]
@[simp] theorem bu(bs):(zN bs).length=bs.length:=by simp[zN]
theorem YH:∀bs,QC (zN bs)=bB bs
 |[]=>rfl
 |b::bs=>by have I:=YH bs;unfold zN at I;simp[zN,QC,Ab,I]
noncomputable def ya(bs:List (Int×Int)):List (Int×Int):=(qS bs).map λi=>bs.getD i (0,0)
theorem xF(bs):(ya bs).Perm bs:=by have:=(jN bs).map λi=>bs.getD i (0,0);rw[ju]at this;exact this
theorem WJ{bs:List (Int×Int)}(h:bs.length<64):nH (zN bs)=bB (zN<|ya bs):=by unfold nH;rw[YH];show(if _<64 then bB _ else cI)=_;rw[bu,DJ h];unfold ya;congr 1;unfold zN;rw[Tn];refine Tp λi a=>?_;simp[(SJ.mp<|(jN bs).mem_iff.mp a)]
noncomputable def xA(n:Int)(b:Int×Int):Prop:=0<=b.1/\b.1<=b.2/\b.2<n
@[simp] noncomputable def zfr:=@fE.eq_1
noncomputable def mu(i j:Nat):Int:=if i=j then 1 else 0
noncomputable def Xv(p:Int)(n:Nat)(f g:DW):Prop:=∀i j,i<n->j<n->zm (λk=>f i k*g k j) n%p=mu i j%p
theorem Kj{p x y X Y:Int}(e:x%p=X%p)(I:y%p=Y%p):(x*y)%p=(X*Y)%p:=by rw[SU,e,I,<-SU]
section
variable{p:Int}{n:Nat}{f g f' g':DW}
theorem iy{a b:Int}{u:Nat}(Q:a*b%p=1%p)(z:Xv p n f g)(U:∀i k,i<n->k<n->f' i k%p=((if i=u then a else 1)*f i k)%p)(Y:∀k j,k<n->j<n->g' k j%p=((if j=u then b else 1)*g k j)%p):Xv p n f' g':=by
 intro i j d I;rw[zT (g:=λk=>_*(f i k*g k j)) λk J=>by rw[Kj (U i k d J) (Y k j J I)];congr 1;rw[UL,UL];congr 1;rw[MY],jz,SU,z i j d I,<-SU]
 unfold mu;by_cases e:i=j
 ·subst e
  by_cases O:i=u
  ·simp only[DJ O,if_true,H9];exact Q
  ·simp only[DY O,if_true];rfl
 ·simp only[DY e,w5]
theorem bO{a b:Int}{u:Nat}(Q:b*a%p=1%p)(e:Xv p n g f)(U:∀i k,i<n->k<n->f' i k%p=((if i=u then a else 1)*f i k)%p)(Y:∀k j,k<n->j<n->g' k j%p=((if j=u then b else 1)*g k j)%p):Xv p n g' f':=by
 intro i j d I;rw[<-e i j d I];refine zT λk J=>?_;rw[Kj (Y i k d J) (U k j J I)];by_cases O:k=u
 ·simp only[DJ O]
  rw[show b*g i k*_=(b*a)*(g i k*f k j)by grind,SU,Q,<-SU,M5]
 ·simp only[DY O,M5]
theorem zd2{t:Int}{u o:Nat}(Q:u<n)(U:o<n)(E:u≠o)(h1:Xv p n f g)(Z:∀i k,i<n->k<n->f' i k%p=(f i k+(if i=u then t else 0)*f o k)%p)(z:∀k j,k<n->j<n->g' k j%p=(g k j+(if j=o then -t else 0)*g k u)%p):Xv p n f' g':=by
 intro i j e J;generalize zgr:(if i=u then t else 0)=a at Z;have l:=λk I=>by exact(Z i k e I)
 rw[zT (g:=λk=>f i k*g k j+(if j=o then -t else 0)*(f i k*g k u)+((if i=u then t else 0)*(f o k*g k j)+((if i=u then t else 0)*(if j=o then -t else 0))*(f o k*g k u))) λk I=>by
  rw[Kj (l k I) (z k j I J)]
  grind]
 simp only[jE,jE,jE,jz,jz,jz];have m:=h1 o u U Q;have O c S d:S%p=d%p->(c*S)%p=(c*d)%p:=λh=>Kj rfl h;have ad x y X Y:x%p=X%p->y%p=Y%p->(x+y)%p=(X+Y)%p:=λa b=>by rw[Ub,a,b,<-Ub]
 rw[ad _ _ _ _ (ad _ _ _ _ (h1 i j e J)<|O _ _ _<|h1 i u e Q) (ad _ _ _ _ (O _ _ _<|h1 o j U J)<|O _ _ _ m)];congr 1;unfold mu;lia
theorem mW{t:Int}{u o:Nat}(Q:u<n)(U:o<n)(Y:u≠o)(e:Xv p n g f)(Z:∀i k,i<n->k<n->f' i k%p=(f i k+(if i=u then t else 0)*f o k)%p)(z:∀k j,k<n->j<n->g' k j%p=(g k j+(if j=o then -t else 0)*g k u)%p):Xv p n g' f':=by
 intro i j b J;rw[<-e i j b J];rw[zT (g:=λk=>g i k*f k j+((if k=u then t*_ else 0)+(if k=o then -t*_ else 0))) λk I=>by
  rw[Kj (z i k b I) (Z k j I J)];congr 1;by_cases a:k=u
  ·subst a
   simp only[DY Y,if_true,Nf,Ng,DE];rw[MY]
  ·by_cases O:k=o
   ·subst O
    simp only[DY a,if_true,Nf,Ng,T9,M6];rw[UL]
   ·simp only[DY a,DY O,Nf,Ng]]
 rw[jE,jE,zY Q λk _ I=>DY I,zY U λk _ I=>DY I];simp only[if_true];congr 1;rw[Int.neg_mul];lia
end
noncomputable def xw(n:Nat)(f:DW):List D:=(SF n).map λi=>D.lst<|zX n<|f i
noncomputable def yx(n:Nat)(f:DW):List (List D):=(SF n).map λi=>zX n<|f i
theorem oh(n f):(yx n f).map D.lst=xw n f:=by simp[yx,xw]
@[simp] theorem oi(n f):(xw n f).length=n:=by simp[xw]
@[simp] theorem zfl(f)(e:i<(xw n f).length):(xw n f)[i]=.lst (zX n<|f i):=by simp[xw]
@[simp] theorem zeI(r):yc (.nest r)=.no:=rfl
@[simp] theorem zeQ(r):yc (.own r)=.no:=rfl
@[simp] theorem zeP(d):yc (.val d)=.val d:=rfl
@[simp] theorem ze0:yc .no=.no:=rfl
theorem KJ(z:a<n)(v I:Vc)(x:Int)(j:I a=x)(J:∀i,i<n->i≠a->I i=v i):(zX n v).set a (.int x)=zX n I:=by
 apply F8;intro i;rw[P4];by_cases b:i<n
 ·by_cases e:a=i
  ·simp_all
  ·have:=J i b (Tq e)
   simp_all
 simp_all
theorem WS(J:u<n)(f z:DW)(v:Vc)(E:∀j,j<n->z u j=v j)(O:∀i j,i<n->i≠u->j<n->z i j=f i j):(xw n f).set u (.lst<|zX n v)=xw n z:=by
 apply F8;intro i;rw[P4];by_cases a:i<n
 ·by_cases e:u=i
  ·subst e;simp[J,xw];exact Jk λj I=>(E j I).symm
  ·simp[e,xw,a];exact Jk λj I=>(O i j a (Tq e) I).symm
 simp_all
theorem JU:∀(l:List Nat),(∀k∈l,∃d e m,fx (vq γ j i<|R k)=bB d/\gx (vq γ j i<|R k)=bB (.int e)/\g5 (R k).length e=bB m/\(R k).set m d=R' k)->ku j i gx fx γ (l.map R)=bB (l.map R')
 |[],_=>rfl
 |k::l,h=>by obtain⟨d,e,m,a,I,J,O⟩:=h k SO;simp[ku,a,I,J,O,(JU l λx Q=>h x<|SQ _ Q)]
theorem aW:∀(l:List Nat),(∀k∈l,∃γ1,qx T (g k) γ=bB γ1/\f γ1=bB (R k))->Zv T f γ (l.map g)=bB (l.map R)
 |[],_=>rfl
 |k::l,h=>by obtain⟨γ1,a,I⟩:=h k SO;simp[Zv,a,I,(aW l λx J=>h x<|SQ _ J)]
section
variable{p:Int}{n:Nat}
structure Pair(p:Int)(n:Nat)(f g:DW):Prop where
 bf:∀i j,i<n->j<n->0<=f i j/\f i j<p
 bg:∀i j,i<n->j<n->0<=g i j/\g i j<p
 fg:Xv p n f g
 gf:Xv p n g f
end
@[simp] theorem zeL(n f):(yx n f).length=n:=by simp[yx]
noncomputable def jV(w:DV)(k:Nat):Nat:=if w k then k+1 else k
noncomputable def jS(w:DV)(k:Nat):Nat:=if w k then k else k+1
theorem vY(w:DV)(wd:DX)(k):f7 w wd k=wd (jS w k):=by unfold f7 jS;split<;>rfl
theorem wY(w:DV)(wd:DX)(k):fM w wd k=wd (jV w k):=by unfold fM jV;split<;>rfl
theorem dU(w:DV)(h:k<m):jV w k<m+1:=by unfold jV;lia
theorem rV(w:DV)(h:k<m):jS w k<m+1:=by unfold jS;lia
theorem Zl(w:DV)(k:Nat):ql [.int k,.str (jw<|fL<|w k)]=bB (.val<|.int<|jV w k):=by have q:=KG<|w k;cases h:w k<;>rw[h]at q<;>simp[ql,jf,zZ,jV,q,h]
theorem Wh(w:DV)(k:Nat):vi [.int k,.str (jw<|fL<|w k)]=bB (.val<|.int<|jS w k):=by have q:=KG<|w k;cases h:w k<;>rw[h]at q<;>simp[vi,jf,zZ,jS,q,h]
noncomputable def qH(m:Nat)(wd:DX)(f:DQ):List D:=(SF m).map λk=>qk (wd k) (wd k)<|f k
@[simp] theorem zeM(m wd f):(qH m wd f).length=m:=by simp[qH]
@[simp] theorem zfk(wd f)(h:k<(qH m wd f).length):(qH m wd f)[k]=qk (wd k) (wd k) (f k):=by simp[qH]
noncomputable def XA(p:Int)(w:DV)(wd:DX)(f g T:DQ)(k i j:Nat):Int:=
 zm (λb=>g (jV w k) b j*(zm (λa=>T k a b*f (jS w k) i a) (wd<|jS w k)%p)) (wd<|jV w k)%p
section
variable{m:Nat}
theorem yL(m:Nat)(F:Nat->D):qB ((SF m).map F)=(SF m).map λ(k:Nat)=>D.tup [.int k,F k]:=by
 unfold qB
 simp_all
end
@[simp] theorem zeX(γ:Ctx)(f):Yz f γ=(f γ).bind λd=>match d with
 |.str z=>if zU z=cm then bB (qB<|qZ z)else cI
 |_=>cI:=rfl
@[simp] theorem zfy(γ:Ctx)(f g):xR f g γ=(f γ).bind λd=>(g γ).bind λe=>match d,e with
 |.str x,.str y=>if zU x=cm/\zU y=cm then bB (.str<|x++y)else cI
 |_,_=>cI:=rfl
theorem mi(m:Nat)(w:DV):qB (qZ<|x9 m w)=(SF m).map λ(k:Nat)=>D.tup [.int k,.str (jw<|fL<|w k)]:=by
 have e:qZ (x9 m w)=(SF m).map λk=>D.str (jw<|fL<|w k):=by unfold qZ;rw[xB,Tn];rfl
 unfold qB
 simp_all
theorem av{e β:Type}{f g:e->β}{xs:List e}(h:xs.map f=xs.map g){a:e}(j:a∈xs):f a=g a:=List.map_inj_left.mp h a j
noncomputable def vn:=jf 3<|zV (jy 2<|zA xl<|zc (zf 0) zG)<|yb<|zM (Yz<|zf 2) (.tp [0,1]) 2 [0,1] ja (kH<|zc (di (zJ<|di (zk 3)<|sI 1)<|zA vi<|zc (zf 0)<|zc (zf 1) zG)<|zc (di (zJ<|di (zk 2)<|sI 1)<|zA ql<|zc (zf 0)<|zc (zf 1) zG) zG)
noncomputable def Oi:=(jy 3<|j5<|zM (jr<|di (zk 2)<|sI 1) (.nm 0) 1 [2] ja (j5<|zM (zH<|zJ<|di (zk 1)<|sI 2) (.nm 0) 1 [0] ja (di (zk 0)<|zf 1)))
noncomputable def RX:=(vH 4<|vx zG)
noncomputable def ltB:=(qf 4<|jg<|je<|zM (zH<|zk 3) (.nm 0) 1 [0,5] ja (zD yi (iN<|je<|zM (bH (zf 2)<|zf 0) (.tp [0,1]) 2 [] ja (zD ve (zf 0)<|zf 1))<|zf 1))
noncomputable def RW:=(J5 (zH<|zJ<|di (zk 1)<|sI 2) (.nm 5) ltB)
noncomputable def RV:=(jO<|kH<|zc (di (zk 1)<|sI 0)<|zc (di (zk 2)<|sI 1)<|zc (jg<|zk 4) zG)
noncomputable def qM:=jf 6<|zV Oi<|zV RX<|zV RW RV
noncomputable def A_:=(vH 4<|zM (jr<|zf 3) (.nm 0) 1 [3] ja (j5<|zM (jr<|zf 1) (.nm 0) 1 [0] ja (ZM<|zD fh (zf 1)<|zf 0)))
noncomputable def O2:=(uw 5<|fH (jr<|zf 3) (.nm 0) 1 [3] (zM (jr<|zf 1) (.nm 0) 1 [0] ja (ZM<|zD fh (zf 1)<|zf 0)))
noncomputable def D':=(zV (fF 4 (zf 8)<|j5<|zM (zH<|zJ<|di (zk 4)<|zf 8) (.nm 0) 1 [2,10] ja (zD yi (zD ve (zf 2)<|zf 0)<|zf 1))<|zV (jy 11<|di (je<|zM (jr<|zf 2) (.nm 0) 1 [2,10] (sB<|zD fh (zD yi (zD ve (zf 0)<|zf 2)<|zf 1)<|sI 1) (zf 0))<|sI 0)<|cn 5 12 (zf 8)<|zD yi (zD ve (di (zk 12)<|zf 8)<|zf 11)<|zf 2)
noncomputable def C':=(zV (fF 4 (zf 9)<|j5<|zM (bH (di (zk 4)<|zf 9)<|di (zk 4)<|zf 8) (.tp [0,1]) 2 [2,10] ja (zD yi (zD qw (zf 0)<|zD ve (zf 3)<|zf 1)<|zf 2))<|cn 5 12 (zf 8)<|zD yi (zD QI (di (zk 12)<|zf 8)<|zD ve (zf 10)<|di (zk 12)<|zf 9)<|zf 2)
noncomputable def FG:=(g8 (sB<|zD fh (zf 8)<|zf 9) D' C')
noncomputable def B_:=(J5 (jr<|zD ve (sI 3)<|zf 3) (.nm 6)<|zV (jy 7<|zA jI<|zc (zf 0)<|zc (zD qw (zf 1)<|zf 6) zG)<|zV (jy 8<|zD yi (zf 7)<|zf 3)<|zV (jy 9<|zD yi (zD VX (zf 7)<|zf 3)<|zf 3)<|zV (jy 10<|zD qw (sI 1)<|zD yi (zD VX (zf 7)<|sI 97)<|zD QI (zf 2)<|sI 1) FG)
noncomputable def tn4:=(vH 13<|vx zG)
noncomputable def tn5:=(Hy 5<|Pp 4<|J5 (zH<|zJ<|j5<|vx<|zc (zf 4)<|zc (zf 5) zG) (.nm 14)<|qf 13<|kH<|zc (zf 3)<|zc (zf 3)<|zc (jg<|je<|zM (zH<|zk 14) (.nm 0) 1 [] ja (jg<|zk 0)) zG)
noncomputable def tn6:=(Vj 13)
noncomputable def xo:=jf 15<|zV A_<|zV O2<|zV B_<|zV tn4<|zV tn5 tn6
noncomputable def RU:=(Ej (.tp [3,4,5])<|zf 0)
noncomputable def RT:=(vH 6<|vx zG)
noncomputable def OM:=(zV (jy 9 (zD qw (zf 7) (ZM (zD fh (di (zk 8) (sI 0)) (jn (.str "l")))))) (zV (jy 10 (zD qw (zf 7) (ZM (zD fh (di (zk 8) (sI 0)) (jn (.str "r")))))) (qf 6 (kH (zc (di (zk 8) (sI 0)) (zc (zA qM (zc (zf 3) (zc (zA qM (zc (zf 3) (zc (di (zk 1) (zf 10)) (zc (di (zk 8) (sI 1)) zG)))) (zc (di (zk 2) (zf 9)) zG)))) zG))))))
noncomputable def PD:=(J5 (WN<|zf 5) (.tp [7,8]) OM)
noncomputable def RR:=(jO<|kH<|zc (zf 3)<|zc (zf 4)<|zc (jg<|zk 6) zG)
noncomputable def qD:=jf 11<|zV RU<|zV RT<|zV PD RR
noncomputable def wg:=jf 2<|yb<|nW (di (zk 1)<|sI 1)<|di (zk 0)<|sI 1
noncomputable def ym:=jf 1<|jO<|iN<|je<|zM (zH<|zk 0) (.tp [0,1]) 2 [] ja (zD ve (zf 0)<|zf 1)
noncomputable def j1:=jf 1<|jO<|kH<|zc (di (zk 0)<|sI 0)<|zc (zD QI (zD qw (di (zk 0)<|sI 0)<|XN<|zJ<|di (zk 0)<|sI 1)<|sI 1) zG
noncomputable def jW:=jf 2<|jO<|wZ qs sv (di (zk 0)<|sI 0) (zf 1)<|zD qw (di (zk 0)<|sI 0)<|XN<|zJ<|di (zk 0)<|sI 1
noncomputable def qW:=jf 2<|yb<|zM (zH<|zk 0) (.nm 0) 1 [1] (sB<|zA jW<|zc (zf 0)<|zc (zf 1) zG) (di (zJ<|di (zk 0)<|sI 1)<|zD QI (zf 1)<|di (zk 0)<|sI 0)
noncomputable def kY:=jf 2<|jO<|zA qi<|zc (kH<|zc (XN<|zk 1)<|zc (zf 0)<|zc (jg<|zk 1) zG) zG
noncomputable def yn:=jf 5<|zV (jy 4<|j5<|zM (bH (zf 2)<|zf 1) (.tp [0,1]) 2 [3] (sB<|zA jW<|zc (zf 1)<|zc (zf 2) zG) (zf 0))<|jO<|zA mJ<|zc (di (zk 0)<|sI 0)<|zc (zA kY<|zc (di (zJ<|di (zk 0)<|sI 1)<|zf 3)<|zc (j5<|jo qW<|zc (zf 1)<|zc (zf 3) zG) zG)<|zc (zf 4) zG
noncomputable def Wc:=jf 5<|zV (jy 3<|di (zk 1)<|zA xn<|zc (zf 2) zG)<|zV (jy 4<|j5<|zM (jr<|XN<|zJ<|di (zk 3)<|sI 1) (.nm 0) 1 [0,1,2,3] ja (zA yn<|zc (zf 1)<|zc (zf 2)<|zc (zf 3)<|zc (zD qw (di (zk 4)<|sI 0)<|zf 0) zG))<|jO<|kH<|zc (di (zk 3)<|sI 0)<|zc (jg<|zk 4) zG
noncomputable def K3:=jf 8 (zV (jy 3 (di (zJ (di (zJ (di (zk 0) (sI 2))) (zf 1))) (sI 0))) (zV (jy 4 (di (zJ (di (zJ (di (zk 0) (sI 2))) (zf 1))) (sI 1))) (zV (jy 5 (ck (sB (zD fh (zf 3) (jn (.str "r")))) (j5 (jo vh (zc (di (zk 0) (sI 0)) (zc (zf 4) zG)))) (j5 (jo J0 (zc (di (zk 0) (sI 0)) (zc (zf 4) zG)))))) (zV (jy 6 (j5 (jo kB (zc (di (zk 0) (sI 0)) (zc (zA kY (zc (di (zJ (di (zk 0) (sI 1))) (zf 1)) (zc (j5 (jo qW (zc (zf 2) (zc (zf 1) zG)))) zG))) (zc (zf 5) zG)))))) (zV (jy 7 (BC (zM (zH (zk 6)) (.nm 0) 1 [] ja (kH (zc (zA xn (zc (zf 0) zG)) (zc (zf 0) zG)))))) (yb (zM (J6 (zf 2)) (.tp [0,1]) 2 [0,2,7] ja (ck (sB (Hz (zf 0) (zf 4))) (zA Wc (zc (zf 2) (zc (zf 3) (zc (Mv (zf 4) (zf 0)) zG)))) (zf 1)))))))))
noncomputable def kX:=jf 4 (zV (g8 (sB (zD fh (di (zk 1) (sI 0)) (jn (.str "l")))) (jO (zA wO (zc (zf 0) (zc (di (zk 1) (sI 1)) (zc (zf 2) zG))))) jU) (zV (jy 3 (zA mJ (zc (zf 0) (zc (di (zk 1) (sI 1)) (zc (zf 2) zG))))) (jO (ck (sB (GF (zk 3))) (zf 3) (jn .d9)))))
noncomputable def y_:=(jy 3<|zA kX<|zc (zf 0)<|zc (zf 1)<|zc (di (zJ<|di (zk 2)<|sI 1)<|fG<|sI 1) zG)
noncomputable def z_:=(jO<|ck (sB<|zD LA (zf 3)<|jn .d9) (zf 2)<|kH<|zc (di (zk 2)<|sI 0)<|zc (zD qw (di (zk 2)<|sI 1)<|kH<|zc (zf 3) zG) zG)
noncomputable def yN:=jf 4<|zV y_ z_
noncomputable def Zy:=jf 3 (zV (g8 (sB (zD fh (di (zk 1) (sI 0)) (jn (.str "l")))) (yb (jo vh (zc (zf 0) (zc (di (zk 1) (sI 1)) zG)))) jU) (zV (jy 2 (j5 (zM (zH (je (jo J0 (zc (zf 0) (zc (di (zk 1) (sI 1)) zG))))) (.nm 0) 1 [] ja (zA xn (zc (zf 0) zG))))) (yb (zM (WN (di (zJ (zA qy (zc (di (zJ (di (zk 1) (sI 1))) (sI 0)) zG))) (sI 2))) (.tp [0,1]) 2 [2] (sB (cg (zf 0) (zk 2))) (zf 1)))))
noncomputable def Wg:=jf 9 (zV (jy 3 (di (zk 0) (sI 0))) (zV (jy 4 (di (zJ (di (zk 0) (sI 2))) (zf 1))) (zV (jy 5 (j5 (zM (zH (zk 2)) (.nm 0) 1 [1] (kc (sB (zA jW (zc (zf 0) (zc (zf 1) zG))))) (zf 0)))) (zV (jy 6 (j5 (jo K3 (zc (zf 0) (zc (zf 1) (zc (j5 (zM (zH (zk 2)) (.nm 0) 1 [1] (sB (zA jW (zc (zf 0) (zc (zf 1) zG)))) (zf 0))) zG)))))) (zV (jy 7 (j5 (zM (zH (zk 6)) (.nm 0) 1 [3,4] ja (zA yN (zc (zf 1) (zc (zf 2) (zc (zf 0) zG))))))) (zV (jy 8 (j5 (zM (zH (je (jo Zy (zc (zf 3) (zc (zf 4) zG))))) (.nm 0) 1 [1] ja (kH (zc (zD qw (zf 1) (sI 1)) (zc (kH (zc (zf 0) zG)) zG)))))) (jO (j5 (WQ (zk 5) (zJ (ck (sB (zD fh (di (zk 4) (sI 0)) (jn (.str "r")))) (j5 (WQ (zk 8) (zk 7))) (j5 (WQ (zk 7) (zk 8))))))))))))))
noncomputable def N9:=(jy 1<|j5<|zM (zH<|zJ<|di (zJ<|zA qy<|zc (di (zJ<|di (zk 0)<|sI 1)<|sI 0) zG)<|sI 2) (.nm 0) 1 [] ja (kH<|zc (sI 0)<|zc (kH<|zc (zf 0) zG) zG))
noncomputable def t?:=(J5 (jr<|XN<|zJ<|di (zk 0)<|sI 2) (.nm 2)<|jy 1<|zA Wg<|zc (zf 0)<|zc (zf 2)<|zc (zf 1) zG)
noncomputable def a_:=(yb<|nR j1<|zk 1)
noncomputable def vo:=jf 3<|zV N9<|zV t? a_
noncomputable def jJ:=jf 4<|zV (jy 1<|j5<|jo vo<|zc (zf 0) zG)<|zV (jy 2<|j5<|zM (WN<|di (zk 0)<|sI 1) (.tp [0,1]) 2 [1] ja (zA kY<|zc (zf 1)<|zc (j5<|jo qW<|zc (zf 2)<|zc (zf 0) zG) zG))<|zV (jy 3<|j5<|zM (zH<|zk 2) (.nm 0) 1 [0] ja (zA k6<|zc (di (zk 1)<|sI 0)<|zc (zf 0) zG))<|jO<|kH<|zc (j5<|zM (zH<|zk 1) (.nm 0) 1 [] ja (zA j1<|zc (zf 0) zG))<|zc (zf 3)<|zc (zf 2) zG
noncomputable def rJ:CO D:=j5<|jo xo<|zc (zf 2)<|zc (zD qw (zf 3)<|zD ve (sI 20)<|zf 0)<|zc (di (zk 4)<|sI 0)<|zc (zf 1) zG
noncomputable def qX:=jf 4<|zV (jy 3<|j5<|zM (WN<|di (zk 2)<|sI 1) (.tp [0,1]) 2 [0,1,2] ja rJ)<|jO<|zA qD<|zc (zf 2)<|zc (j5<|zM (zH<|zk 3) (.nm 0) 1 [] ja (di (zk 0)<|sI 0))<|zc (j5<|zM (zH<|zk 3) (.nm 0) 1 [] ja (di (zk 0)<|sI 1)) zG
noncomputable def yq:=jf 1<|zV (g8 (tL (kc<|sB<|nY<|zf 0)<|kc<|sB<|wZ qs qs (sI 1) (XN<|zk 0)<|sI 6) (jO<|jn<|.bl cT) jU)<|zV (g8 (kc<|sB<|uA<|je<|zM (zH<|zk 0) (.nm 0) 1 [] ja (uz (zA qF<|zc (zf 0) zG)<|zD D8 (zf 0)<|sI 0)) (jO<|jn<|.bl cT) jU)<|jO<|zD qs (iN<|zk 0)<|sI 30
noncomputable def vf:=jf 1<|zV (g8 (kc<|sB<|zA yq<|zc (zf 0) zG) xQ jU)<|jO<|jg<|zk 0
noncomputable def wR:=jf 6 (zV (g8 (tL (kc (sB (zA qT (zc (zf 3) (zc (sI 2) zG))))) (sB (kJ (di (zk 3) (sI 0)) (zJ (jn (.tup [.str "r",.str "l"])))))) xQ jU) (zV (jy 4 (di (zk 3) (sI 0))) (zV (jy 5 (zA wN (zc (zf 0) (zc (di (zk 1) (zA vi (zc (zf 2) (zc (zf 4) zG)))) (zc (di (zk 1) (zA ql (zc (zf 2) (zc (zf 4) zG)))) (zc (di (zk 3) (sI 1)) zG)))))) (jO (kH (zc (zf 4) (zc (zf 5) zG)))))))
noncomputable def yk:=jf 1 (jO (Zn (jn (.str "/")) (je (zM (zH (zJ (di (zk 0) (sI 2)))) (.nm 0) 1 [] ja (Zn (jn (.str "")) (je (zM (zH (zk 0)) (.nm 0) 1 [] ja (qt (zf 0)))))))))
noncomputable def xZ:=jf 2 (zV (jy 1 (zA yk (zc (di (zk 0) (sI 1)) zG))) (jO (ck (sB (zD fh (di (zk 0) (sI 0)) (jn (.str "r")))) (QO [jn (.str "-"),mN (zf 1),jn (.str ">")]) (QO [jn (.str "<"),mN (zf 1),jn (.str "-")]))))
noncomputable def wQ:=jf 5 (zV (jy 1 (di (zk 0) (sI 0))) (zV (vH 2 (vx (zc (QO [mN (zf 1),jn (.str ":")]) (zc (qt (di (zJ (di (zk 0) (sI 1))) (sI 0))) zG)))) (zV (J5 (bH (di (zk 0) (sI 2)) (nT (di (zk 0) (sI 1)) (h9 (sI 1)) Xa)) (.tp [3,4]) (zV (qf 2 (zA xZ (zc (zf 3) zG))) (qf 2 (qt (zf 4))))) (jO (Zn (jn (.str " ")) (zk 2))))))
noncomputable def xq:=jf 1 (jO (uy (zf 0) (je (zM (zH (zJ (jn (.tup [.int 2,.int 3,.int 5,.int 7])))) (.nm 0) 1 [] ja (QO [mN (zf 0),jn (.str ":")])))))
noncomputable def xp:=jf 1<|jO<|uy (zf 0)<|je<|zM (jr<|zD qw (sI 30)<|sI 1) (.nm 0) 1 [] ja (qt<|zf 0)
noncomputable def xt:=jf 1 (zV (g8 (sB (kJ (xR (mL (zf 0) Xa (h9 (sI 1))) (mL (zf 0) (h9 (fG (sI 1))) Xa)) (zJ (kH (zc (jn (.str "->")) (zc (jn (.str "<-")) zG)))))) (jO (jn (.bl cT))) jU) (jO (uA (je (zM (Yy (mL (zf 0) (h9 (sI 1)) (h9 (fG (sI 1))))) (.nm 0) 1 [] ja (ux (zf 0) (jn (.str "0123456789/"))))))))
noncomputable def kC:=jf 2<|zV (g8 (sB<|zD fh (zf 0)<|sI 0) (jO<|zA xq<|zc (zf 1) zG) jU)<|zV (g8 (sB<|zD fh (zD yi (zf 0)<|sI 2)<|sI 1) (jO<|zA xp<|zc (zf 1) zG) jU)<|jO<|zA xt<|zc (zf 1) zG
noncomputable def vj:=jf 3<|zV (J5 (J6<|zf 0) (.tp [1,2])<|g8 (kc<|sB<|zA kC<|zc (zf 1)<|zc (zf 2) zG) xQ jU)<|g8 (sB<|zD fh (zD yi (XN<|zk 0)<|sI 2)<|sI 1) xQ jU
noncomputable def xX:=jf 1<|yb<|zM (Yy<|zf 0) (.nm 0) 1 [] ja (WM<|zf 0)
noncomputable def kU:=jf 2 (zV (g8 (QP (sB (zD fh (zf 0) (jn (.str "")))) (sB (zD fh (zf 1) (sI 0)))) (yb (vx zG)) jU) (yb (zM (zH (je (J4 (zf 0) (jn (.str "/"))))) (.nm 0) 1 [] ja (j5 (jo xX (zc (zf 0) zG))))))
noncomputable def k7:=jf 2<|jO<|uA<|je<|zM (zH<|zk 1) (.nm 0) 1 [0] ja (zD sv (zf 0)<|zf 1)
noncomputable def yp:=jf 6 (zV (jy 4 (ck (sB (cf (zf 3) (jn (.str "-")))) (jn (.str "r")) (jn (.str "l")))) (zV (jy 5 (j5 (jo kU (zc (mL (zf 3) (h9 (sI 1)) (h9 (fG (sI 1)))) (zc (di (zk 1) (zA vi (zc (zf 2) (zc (zf 4) zG)))) zG))))) (zV (g8 (kc (sB (uA (je (zM (zH (zk 5)) (.nm 0) 1 [0] ja (zA k7 (zc (zf 1) (zc (zf 0) zG)))))))) xQ jU) (jO (zA wR (zc (zf 0) (zc (zf 1) (zc (zf 2) (zc (kH (zc (zf 4) (zc (zf 5) zG))) zG)))))))))
noncomputable def JY:=jf 5 (zV (jy 1 (j5 (J4 (zf 0) (jn (.str " "))))) (zV (og (zA vj (zc (zf 1) zG))) (zV (jy 2 (WM (mL (di (zk 1) (sI 0)) Xa (h9 (fG (sI 1)))))) (zV (jy 3 (zA vf (zc (j5 (zM (zH (je (Mt (zk 1) (h9 (sI 1)) Xa (h9 (sI 2))))) (.nm 0) 1 [] ja (WM (zf 0)))) zG))) (zV (jy 4 (j5 (zM (J6 (j5 (Mt (zk 1) (h9 (sI 2)) Xa (h9 (sI 2))))) (.tp [0,1]) 2 [2,3] ja (zA yp (zc (zf 2) (zc (zf 3) (zc (zf 0) (zc (zf 1) zG)))))))) (jO (kH (zc (zf 2) (zc (zf 3) (zc (jg (zk 4)) zG))))))))))
noncomputable def E2:List (Str×Int):=[("cut",2),("mirror",0),("opposite",0),("about",1),("split",0),("bars",0),("kept",2),("widths",0)]
noncomputable def xO:=jf 2 (zV (jy 1 (di (zk 0) (sI 0))) (zV (g8 (sB (uy (zf 1) (zJ (jn (.tup [.str "row",.str "beside",.str "ways",.str "upon",.str "alike"]))))) (jO (zD o6 (XN (zk 0)) (sI 1))) jU) (zV (g8 (tL (sB (nU (E2.map (·.1)) (zf 1))) (sB (zD h8 (XN (zk 0)) (zD qw (Pn E2 (zf 1)) (sI 1))))) (jO (jn (.bl cT))) jU) (jO (uA (je (zM (zH (je (GD (zk 0) (h9 (sI 1)) Xa))) (.nm 0) 1 [] ja (uy (zf 0) (zJ (jn (.tup [.str "0",.str "1",.str "2",.str "3",.str "4",.str "5"])))))))))))
noncomputable def Zk:=jf 3 (zV (jy 1 (di (zk 0) (sI 0))) (zV (jy 2 (di (zk 0) (sI 1))) (jO (QO [mN (zf 1),jn (.str "-"),mN (zf 2)]))))
noncomputable def jG:=jf 1 (jO (zA JY (zc (Zn (jn (.str " ")) (je (GD (zk 0) (h9 (sI 1)) Xa))) zG)))
noncomputable def K6:=jf 4 (zV (jy 2 (di (zk 1) (sI 0))) (zV (g8 (sB (zD fh (zf 2) (jn (.str "row")))) (jO (zA jG (zc (zf 1) zG))) jU) xQ))
noncomputable def qh:=jf 3<|jO<|iN<|je<|zM (zH<|zk 1) (.nm 0) 1 [0,2] ja (zA kE<|zc (zf 1)<|zc (zf 0)<|zc (zf 2) zG)
noncomputable def qe:=jf 3<|zV (og<|zA j7<|zc (zf 0)<|zc (zf 1) zG)<|zV (jy 2<|di (zJ<|zA jJ<|zc (zf 0) zG)<|sI 0)<|jO<|iN<|je<|zM (zH<|zJ<|di (zJ<|zA jJ<|zc (zf 1) zG)<|sI 0) (.nm 0) 1 [0,2] ja (zA qh<|zc (zA xl<|zc (zf 1) zG)<|zc (zf 2)<|zc (zf 0) zG)
noncomputable def kW:=jf 2<|zV (og<|zA j7<|zc (zf 0)<|zc (zf 1) zG)<|jO<|zD QI (zA ym<|zc (j5<|jo wg<|zc (zf 0)<|zc (zf 1) zG) zG)<|zA ym<|zc (j5<|jo vn<|zc (zf 0)<|zc (zf 1) zG) zG
noncomputable def xY:=jf 2<|jO<|zD QI (zA qe<|zc (zf 0)<|zc (zf 1) zG)<|zA kW<|zc (zf 0)<|zc (zf 1) zG
noncomputable def qj:=jf 5 (zV (jy 3 (nV (di (zk 1) (sI 0)) (di (zk 2) (sI 0)))) (zV (jy 4 (iO (di (zk 1) (sI 1)) (di (zk 2) (sI 1)))) (zV (g8 (sB (zD o6 (zf 3) (zf 4))) (jO (sI 0)) jU) (zV (g8 (tL (QP (sB (zD sv (di (zk 1) (sI 0)) (zf 3))) (sB (zD h8 (xc (zf 0) (zD QI (zf 3) (sI 1))) (jn (.str "l"))))) (QP (sB (zD sv (di (zk 2) (sI 0)) (zf 3))) (sB (zD h8 (xc (zf 0) (zD QI (zf 3) (sI 1))) (jn (.str "r")))))) (jO (sI 0)) jU) (zV (g8 (tL (QP (sB (zD o6 (di (zk 1) (sI 1)) (zf 4))) (sB (zD h8 (xc (zf 0) (zf 4)) (jn (.str "r"))))) (QP (sB (zD o6 (di (zk 2) (sI 1)) (zf 4))) (sB (zD h8 (xc (zf 0) (zf 4)) (jn (.str "l")))))) (jO (sI 0)) jU) (jO (sI 1)))))))
noncomputable def qL:=jf 3<|yb<|zM (bH (zf 1)<|zf 2) (.tp [0,1]) 2 [0] ja (zA wj<|zc (zf 2)<|zc (zf 0)<|zc (zf 1) zG)
noncomputable def qQ:=jf 4<|jO<|zD h8 (zA qh<|zc (zf 0)<|zc (zf 1)<|zc (zf 3) zG)<|zA qh<|zc (zf 0)<|zc (zf 2)<|zc (zf 3) zG
noncomputable def Pc:CO Bool:=sB<|zD h8 (qR (zk 1)<|zf 0)<|qR (zk 2)<|zf 0
noncomputable def Np:CO Bool:=sB<|zA qQ<|zc (zf 1)<|zc (zf 2)<|zc (zf 3)<|zc (zf 0) zG
noncomputable def K8:=jf 6 (zV (jy 3 (j5 (jo qK (zc (zD qw (iP (zf 0)) (sI 1)) zG)))) (zV (jy 4 (di (je (zM (zH (zk 3)) (.nm 0) 1 [1,2] Pc (zf 0))) (sI 0))) (zV (jy 5 (di (je (zM (zH (zk 3)) (.nm 0) 1 [0,1,2] Np (zf 0))) (sI 0))) (jO (kH (zc (jn (.str "apart")) (zc (zf 4) (zc (qR (zk 1) (zf 4)) (zc (qR (zk 2) (zf 4)) (zc (zf 5) zG))))))))))
noncomputable def K9:=jf 6 (zV (og (zA j7 (zc (zf 0) (zc (zf 1) zG)))) (zV (jy 2 (zA jJ (zc (zf 0) zG))) (zV (jy 3 (zA jJ (zc (zf 1) zG))) (zV (g8 (sB (zD h8 (di (zk 2) (sI 0)) (di (zk 3) (sI 0)))) (jO (zA K8 (zc (zA xl (zc (zf 0) zG)) (zc (di (zk 2) (sI 0)) (zc (di (zk 3) (sI 0)) zG))))) jU) (zV (jy 4 (j5 (jo qL (zc (di (zk 0) (sI 0)) (zc (di (zk 3) (sI 2)) (zc (di (zk 2) (sI 1)) zG)))))) (zV (jy 5 (j5 (jo qL (zc (di (zk 0) (sI 0)) (zc (di (zk 2) (sI 2)) (zc (di (zk 3) (sI 1)) zG)))))) (jO (kH (zc (jn (.str "alike")) (zc (zf 4) (zc (zf 5) zG)))))))))))
noncomputable def Ou:CO D:=xR (jn (.str "apart ")) (zA Zk (zc (di (zk 2) (sI 1)) zG))
noncomputable def yt:=jf 3 (zV (jy 2 (zA K9 (zc (zf 0) (zc (zf 1) zG)))) (zV (g8 (sB (zD fh (di (zk 2) (sI 0)) (jn (.str "alike")))) (jO (jn (.str "alike"))) jU) (jO Ou)))
noncomputable def j3:=jf 3 (zV (jy 2 (di (zk 1) (sI 0))) (zV (g8 (sB (zD fh (zf 2) (jn (.str "bars")))) xQ jU) (zV (g8 (sB (zD fh (zf 2) (jn (.str "kept")))) xQ jU) (zV (g8 (sB (zD fh (zf 2) (jn (.str "widths")))) xQ jU) (zV (g8 (sB (zD fh (zf 2) (jn (.str "ways")))) (jO (qt (zA qe (zc (zf 0) (zc (zA jG (zc (zf 1) zG)) zG))))) jU) (zV (g8 (sB (zD fh (zf 2) (jn (.str "upon")))) (jO (qt (zA xY (zc (zf 0) (zc (zA jG (zc (zf 1) zG)) zG))))) jU) (jO (zA yt (zc (zf 0) (zc (zA jG (zc (zf 1) zG)) zG))))))))))
noncomputable def P?:=(Ej (.tp [1,2,3])<|zf 0)
noncomputable def m_:=(vH 4 (vx (zc (xR (qt (zf 1)) (jn (.str ":"))) (zc (qt (di (zk 2) (sI 0))) zG))))
noncomputable def Oh:=(jy 7 (Zn (jn (.str "/")) (je (zM (zH (zJ (di (zJ (di (zk 6) (sI 1))) (sI 2)))) (.nm 0) 1 [] ja (Zn (jn (.str "")) (je (zM (zH (zk 0)) (.nm 0) 1 [] ja (qt (zf 0)))))))))
noncomputable def Og:=(g8 (sB (zD fh (di (zk 6) (sI 0)) (jn (.str "r")))) (qf 4 (xR (xR (jn (.str "-")) (zf 7)) (jn (.str ">")))) (qf 4 (xR (xR (jn (.str "<")) (zf 7)) (jn (.str "-")))))
noncomputable def Of:=(qf 4<|qt<|di (zk 2)<|zD qw (zf 5)<|sI 1)
noncomputable def qC:=jf 8 (zV P? (zV m_ (zV (J5 (WN (zf 3)) (.tp [5,6]) (zV Oh (zV Og Of))) (jO (Zn (jn (.str " ")) (zk 4))))))
noncomputable def b_:CO D:=xR (xR (xR (jn (.str "apart ")) (qt (di (zk 2) (sI 0)))) (jn (.str "-"))) (qt (di (zk 2) (sI 1)))
noncomputable def Lr:=g8 (sB<|zD h8 (qR (zk 0)<|zf 2)<|qR (zk 1)<|zf 2) (jO b_) jU
noncomputable def qN:=jf 3 (zV (J5 (zH (zJ (j5 (fE (zJ (j5 (WQ (zk 0) (zk 1)))))))) (.nm 2) Lr) (jO (jn (.str "alike"))))
noncomputable def Mn:=jy 3<|zD qw (zf 3)<|iN<|je<|zM (zH<|zk 2) (.nm 0) 1 [0,4] ja (zA qj<|zc (zf 1)<|zc (zf 2)<|zc (zf 0) zG)
noncomputable def Nx:=jy 3<|zD QI (zf 3)<|zD ve (XN<|je<|jo jq<|zc (zf 1)<|zc (zf 5) zG)<|XN<|je<|jo jq<|zc (zf 2)<|zc (zf 5) zG
noncomputable def Ph:=zV (jy 8 (zD qw (zf 6) (ZM (zD fh (zf 7) (jn (.str "l")))))) (jy 3 (zD qw (zf 3) (zD ve (XN (je (jo jq (zc (zf 1) (zc (zf 8) zG))))) (XN (je (jo jq (zc (zf 2) (zc (zD QI (zD qw (zD ve (sI 2) (zf 6)) (sI 1)) (zf 8)) zG))))))))
noncomputable def yO:=jf 9<|zV (jy 3<|sI 0)<|zV (J5 (zH<|zJ<|zf 1) (.nm 4) Mn)<|zV (J5 (jr<|zD qw (iP<|zf 0)<|sI 1) (.nm 5) Nx)<|zV (J5 (Yz<|zf 0) (.tp [6,7]) Ph)<|Vj 3
noncomputable def jZ:ZF:=Hf (j5 (J4 (zf 1) (jn (.str " ")))) (kc (sB (zA xO (zc (zf 2) zG)))) (sB (zD h8 (di (zk 2) (sI 0)) (jn (.str "row")))) (sB (kJ (di (zk 2) (sI 0)) (zJ (jn (.tup [.str "row",.str "beside",.str "cut",.str "mirror",.str "opposite",.str "about",.str "split"]))))) j3 K6 wQ
noncomputable def O5:=jy 1<|zA jI<|zc (zf 0)<|zc (sI 0) zG
noncomputable def O6:=jy 2<|di (je<|vx<|zc (sI 2)<|zc (sI 3)<|zc (sI 5)<|zc (sI 7) zG)<|zD yi (zf 1)<|sI 4
noncomputable def O7:=jy 3<|zD qw (sI 1)<|zD yi (zD VX (zf 1)<|sI 4)<|sI 5
noncomputable def O8:=jy 4<|zA xN<|zc (zf 0)<|zc (sI 1)<|zc (zf 3) zG
noncomputable def O9:=jy 5<|j5<|jo qO<|zc (zf 0)<|zc (sI 10)<|zc (zf 3)<|zc (zD yi (zD VX (zf 1)<|sI 20)<|sI 6) zG
noncomputable def Pa:=jy 6<|j5<|jo qO<|zc (zf 0)<|zc (sI 130)<|zc (zf 3)<|zc (zD yi (zD VX (zf 1)<|sI 120)<|sI 6) zG
noncomputable def FW:=g8 (sB<|zD fh (zD yi (zD VX (zf 1)<|sI 720)<|sI 3)<|sI 0) (jy 6<|zf 5) jU
noncomputable def K4:=jf 12 (zV O5 (zV O6 (zV O7 (zV O8 (zV O9 (zV Pa (zV FW (WO 7 (Wj (MF (QL jZ (xR (jn (.str "row ")) (zA qC (zc (zA qX (zc (zf 0) (zc (sI 20) (zc (zA qE (zc (zf 2) (zc (zf 4) (zc (zf 5) zG)))) zG)))) zG))))) (Wj (mK 7 (.nm 8) (zA qC (zc (zA qX (zc (zf 0) (zc (sI 140) (zc (zA qE (zc (zf 2) (zc (zf 4) (zc (zf 6) zG)))) zG)))) zG))) (Wj (mK 7 (.nm 9) (sI 0)) (Wj (tY 7 (zH (zJ (zf 5))) (.nm 10) (mK 7 (.nm 9) (zD qw (zf 9) (iN (je (zM (zH (zk 6)) (.nm 0) 1 [4,10] ja (zA qj (zc (zf 1) (zc (zf 2) (zc (zf 0) zG)))))))))) (Wj (tY 7 (jr (sI 2)) (.nm 11) (Wj (wh (FY (tX (QL jZ (xR (jn (.str "ways ")) (zf 8))) (qt (zf 9))) (tX (QL jZ (xR (jn (.str "upon ")) (zf 8))) (qt (zA yO (zc (zf 4) (zc (zf 5) (zc (zf 6) zG)))))))) (wh (tX (QL jZ (xR (jn (.str "alike ")) (zf 8))) (zA qN (zc (zf 5) (zc (zf 6) zG))))))) (Nv (jn (.bl cm))))))))))))))))
section ap
variable(γ:Ctx)
@[simp] noncomputable def zfq:=@Yy.eq_1
@[simp] noncomputable def zfu:=@Yz.eq_1
@[simp] noncomputable def Bo:=@J6.eq_1
@[simp] noncomputable def zge:=@uy.eq_1
end ap
noncomputable def Cg(b:Int×Int)(r:Int):Bool:=decide (b.1<=r)&&decide (r<=b.2)
noncomputable def qV(bs:List (Int×Int))(r:Int):List Nat:=(SF bs.length).filter λi=>Cg (bs.getD i (0,0)) r
noncomputable def BV(l:List Nat):List D:=l.map λ(i:Nat)=>D.int i
@[simp] theorem ze1(l):(BV l).length=l.length:=by simp[BV]
theorem W2(bs r):(qV bs r).length<=bs.length:=by simpa[qV]using (Ro (λi=>Cg (bs.getD i (0,0)) r)<|SF bs.length)
theorem rR(bs:List (Int×Int)):qB (zN bs)=(SF bs.length).map λ(i:Nat)=>D.tup [.int i,.tup [.int (bs.getD i (0,0)).1,.int (bs.getD i (0,0)).2]]:=by unfold qB;rw[bu];refine Tp λi a=>?_;simp[zN,(SJ.mp a)]
theorem yo{bs:List (Int×Int)}(I:bs.length<=lim)(r:Int):Jw [.lst (zN bs),.int r]=bB (.own<|BV<|qV bs r):=by
 have a:zI (.tp [0,1]) (sB<|wZ qs qs (di (zk 1)<|sI 0) (zf 2)<|di (zk 1)<|sI 1) (zf 0) [Cell.no,Cell.no,vI r] ((SF bs.length).map λ(i:Nat)=>D.tup [.int i,.tup [.int (bs.getD i (0,0)).1,.int (bs.getD i (0,0)).2]]) =
  bB (((SF bs.length).filter λi=>Cg (bs.getD i (0,0)) r).map λ(i:Nat)=>D.int i):=by
  refine jk (λi=>Cg _ r) _ _ λi e=>⟨_,rfl,?_,λ_=>rfl⟩;generalize bs.getD i (0,0)=b;by_cases h:b.1<=r
  ·simp[Cg,h]
  ·simp[Cg,h]
 have d:(qB<|zN bs).length=bs.length:=by simp[qB]
 simp only[Jw,jf,zZ,sU,kR,Bo,Ct,Tw,R6,TQ,F3,SI,DC,S7,F0,Pz,KN,SR,d,I,if_true];simp only[show z7 2 [1] (_::Cell.val (D.int r)::_)=[Cell.no,Cell.no,vI r]from rfl,rR,a];rfl
theorem Wp:jq=Jw:=rfl
noncomputable def Hh(e b:List Nat):D:=.tup [.int e.length,.int b.length,.tup (e.map λx=>D.tup<|b.map λy=>D.int<|if x=y then 1 else 0)]
section
variable{w:DV}{wd:DX}{S:DQ}
noncomputable def Ic(w:DV)(wd:DX)(S:DQ)(k:Nat):D:=.tup [.str (jw<|fL<|w k),.lst (v9 (f7 w wd k) (fM w wd k)<|S k)]
theorem lP(a b:D):qT [.tup [a,b],.int 2]=bB (.val<|.bl cm):=by rfl
theorem Ak(b:Bool)(γ:Ctx)(f:CO D)(I:f γ=bB (.str (jw (fL b)))):kJ f (zJ (jn (.tup [.str "r",.str "l"]))) γ=bB (.bl cT):=by
 show(f γ).bind _=_;rw[I];have e:∀b,((!([("r" : Str),"l"].any λy=>y==jw (fL b))))=cT:=by decide +kernel
 show bB (D.bl _)=_;rw[e]
end
noncomputable def h7(x:Str):List Nat:=x.cps.toList
theorem vp(a b:Str):h7 (a++b)=h7 a++h7 b:=by show(a.cps++b.cps).toList=_;simp[h7]
theorem Yv{a b:Str}(h:h7 a=h7 b):a=b:=by
 obtain⟨a⟩:=a;obtain⟨b⟩:=b;have h:a.toList=b.toList:=h
 simp_all
theorem qp(a:Str):a.length=(h7 a).length:=by show a.cps.size=_;simp[h7]
theorem KI(a:Str):xg++a=a:=Yv (by rw[vp];rfl)
noncomputable def Ky(c:Nat):List (List Nat)->List Nat
 |[]=>[]
 |[a]=>a
 |a::b::r=>a++c::Ky c (b::r)
theorem xk(c:Nat):∀l,h7 (r0 (jw c) l)=Ky c (l.map h7)
 |[]=>rfl
 |[a]=>rfl
 |a::b::l=>by show h7 (_++_)=_;simp only[vp,vp,(xk c (b::l))];show(h7 a++[c])++_=h7 a++c::_;simp
theorem gS{c:Nat}:∀{a J x I:List Nat},c∉a->c∉J->a++c::x=J++c::I->a=J/\x=I
 |[],[],x,I,_,_,h=>by injection h with _ h;exact⟨rfl,h⟩
 |[],b::J,x,I,_,h2,h=>by injection h with h _;exact absurd (by rw[h];exact SO) h2
 |b::a,[],x,I,h1,_,h=>by injection h with h _;exact absurd (by rw[<-h];exact SO) h1
 |b::a,b'::J,x,I,h1,h2,h=>by injection h with e h;obtain⟨d,O⟩:=gS (λz=>h1<|SQ _ z) (λz=>h2<|SQ _ z) h;exact⟨by rw[e,d],O⟩
theorem aN{c:Nat}:∀{l e:List (List Nat)},l ≠ []->e ≠ []->(∀a∈l,c∉a)->(∀a∈e,c∉a)->Ky c l=Ky c e->l=e
 |[],_,h,_,_,_,_=>absurd rfl h
 |_,[],_,h,_,_,_=>absurd rfl h
 |[a],[a'],_,_,_,_,h=>by rw[show a=a' from h]
 |[a],a'::b'::r',_,_,h1,_,h=>by have h:a=a'++_:=h;exact absurd (by rw[h];simp)<|h1 a SO
 |a::b::r,[a'],_,_,_,h2,h=>by have h:a++_=a':=h;exact absurd (by rw[<-h];simp)<|h2 a' SO
 |a::b::r,a'::b'::r',_,_,h1,h2,h=>by obtain⟨d,J⟩:=gS (h1 a SO) (h2 a' SO) h;rw[d,aN (List.cons_ne_nil b r) (List.cons_ne_nil b' r') (λx I=>h1 x<|SQ _ I) (λx I=>h2 x<|SQ _ I) J]
theorem JB{c:Nat}{l:List Str}(O:l ≠ [])(h:∀a∈l,c∉h7 a):De (r0 (jw c) l) (jw c)=l:=by
 have J:=congrArg h7<|StrLaws.join_split (r0 (jw c) l)<|jw c;rw[xk,xk]at J;exact List.map_inj_right (λ_ _ z=>Yv z) |>.mp (aN (by simpa using (λz=>by
  have:=PyProof.Rows.split_pos (r0 (jw c) l)<|jw c;rw[z]at this;simp at this)) (by simpa using O) (λa b=>by
  obtain⟨x,I,rfl⟩:=Tb.mp b;exact StrLaws.split_free _ c x I) (λa b=>by
  obtain⟨x,I,rfl⟩:=Tb.mp b;exact h x I) J)
theorem Y7{n:Int}(j:0<=n)(h:n<10):ye n=jw (48+n.toNat):=by
 have:∀k:Fin 10,ye ((k:Nat))=jw (48+k):=by decide +kernel
 have e:=this ⟨n.toNat,⋯⟩
 grind
theorem oA{n:Int}(e:0<=n)(j:n<10^10):MN (ye n)=bB n:=PySem.W.KIN.num_reads e j
theorem JI{j:Type}(xs:List j):∀c a,((SF c).map (a + ·)).filterMap (λi=>xs[i]?)=(xs.drop a).take c
 |0,a=>by simp
 | c+1,a=>by
  rw[List.range_succ_eq_map,Tw,Tn];have e:(SF c).map ((a + ·)∘Nat.succ)=(SF c).map (a+1 + ·):=Tp λk _=>by lia
  rw[e];by_cases h:a<xs.length
  ·rw[D4 (by show xs[a+0]? = _;rw[T8,SH h]),JI xs c<|a+1,UN h,List.take_succ_cons]
  ·rw[MK (by show xs[a+0]? = _;rw[T8,UQ ⋯]),JI xs c<|a+1,MM ⋯,MM ⋯]
   simp
theorem Vg{x:Str}{lo j:Option Int}{a b:Nat}(h:P2 lo j 1 x.length=sliceRange a b 1)(J:b<=x.length):h7 (xb x lo j)=((h7 x).drop a).take (b-a):=by
 have e:=sliceRange_one a b;unfold xb;split
 ·next I=>
  rw[h,e]at I;simp only[BEq.rfl,Bool.true_and,beq_iff_eq,Ta,Ut]at I;have:a=0\/x.length=0:=⋯
  have O:=qp x
  grind
 ·rw[h,e]
  rw[<-(JI (h7 x) (b-a) a)];simp[h7]
section
variable{x:Str}{c d:Nat}{t:List Nat}
theorem bY(h:h7 x=c::(t++[d])):xb x cI (bB 1)=jw c:=by
 have I:=qp x;rw[h]at I;simp at I;refine Yv ?_;rw[Vg (a:=0) (b:=1) ?_ ⋯,h]
 ·rfl
 ·unfold P2
  lia
theorem iK(h:h7 x=c::(t++[d])):xb x (bB (-1)) cI=jw d:=by
 have I:=qp x;rw[h]at I;simp at I;refine Yv ?_;rw[Vg (b:=t.length+2) ?_ ⋯,h]
 ·rw[List.drop_succ_cons,List.drop_left];rw[show t.length+2-(t.length+1)=1 by lia];rfl
 ·unfold P2
  simp;congr 1<;>grind
theorem WK(h:h7 x=c::(t++[d])):h7 (xb x (bB 1)<|some (-1))=t:=by
 have I:=qp x;rw[h]at I;simp at I;rw[Vg (a:=1) (b:=t.length+1) ?_ ⋯,h]
 ·grind
 ·unfold P2
  simp;congr 1<;>lia
end
theorem aA:("/" : Str)=jw 47:=by decide +kernel
theorem vX:(" " : Str)=jw 32:=by decide +kernel
theorem VL:("-" : Str)=jw 45:=by decide +kernel
theorem BX:(">" : Str)=jw 62:=by decide +kernel
theorem BW:("<" : Str)=jw 60:=by decide +kernel
theorem aB:(":" : Str)=jw 58:=by decide +kernel
theorem wK{γ:Ctx}{f:CO D}{q:CO (Sk×List D)}{I:Str}{l:List Str}(J:f γ=bB (.str I))(O:q γ=bB (.L,l.map D.str))(Q:l.length<=lim)(U:∀x∈l,zU x=cm)(hs:zU I=cm):Zn f q γ=bB (.str<|r0 I l):=by
 rw[sY,J,O];have st:=by
  have:=wA (λx=>x) l
  rwa [List.map_id']at this
 grind
section
variable{v h:Nat}{g:Nat->Int}{f:DW}
noncomputable def aQ(v:Nat)(g:Nat->Int):Str:=r0 "" ((SF v).map λj=>ye (g j))
noncomputable def fi(h v:Nat)(f:DW):Str:=r0 (jw 47)<|(SF h).map λi=>aQ v<|f i
theorem YS(I:∀j,0<=g j/\g j<10):h7 (aQ v g)=(SF v).map λj=>48+(g j).toNat:=by have:=JQ<|(SF v).map λj=>48+(g j).toNat;rw[Tn]at this;unfold aQ;rw[Tp λj _=>Y7 (I j).1 (I j).2];exact this
theorem KF(I:∀j,0<=g j/\g j<10)(J:v<=1000):zU (aQ v g)=cm:=decide_eq_true (by rw[qp,YS I];simpa using J)
theorem nv:h7 (fi h v f)=Ky 47 ((SF h).map λi=>h7<|aQ v<|f i):=by unfold fi;rw[xk,Tn];rfl
theorem gL{c:Nat}:∀{l:List (List Nat)} {x:Nat},x∈Ky c l->x=c\/∃a∈l,x∈a
 |[],x,h=>by cases h
 |[a],x,h=>.inr ⟨a,SO,h⟩
 | a::b::r,x,h=>by
  rcases Uo.mp (h)with h|h
  ·exact .inr ⟨a,SO,h⟩
  ·rcases SS.mp h with h|h
   ·exact .inl h
   ·rcases gL h with h|⟨y,h1,I⟩
    ·exact .inl h
    ·exact .inr ⟨y,SQ _ h1,I⟩
theorem wL{c n:Nat}:∀{l:List (List Nat)},(∀a∈l,a.length<=n)->(Ky c l).length<=l.length*(n+1)
 |[],_=>by simp[Ky]
 |[a],h=>by have:=h a SO;simp[Ky];lia
 |a::b::r,h=>by have d:=h a SO;have I:=wL (c:=c) λx J=>h x<|SQ _ J;simp only[Ky,Tt,TQ]at I ⊢;lia
theorem XD(J:∀i j,0<=f i j/\f i j<10){x:Nat}(I:x∈h7 (fi h v f)):47<=x/\x<=57:=by
 rw[nv]at I;rcases gL I with e|⟨a,ha,I⟩
 ·lia
 ·obtain⟨i,_,rfl⟩:=Tb.mp ha
  rw[YS (J i)]at I;obtain⟨j,_,rfl⟩:=Tb.mp I;have:=J i j;lia
theorem yD(I:∀i j,0<=f i j/\f i j<10)(O:h<=30)(J:v<=30):(fi h v f).length<=930:=by
 rw[qp,nv];have:=wL (c:=47) (l:=(SF h).map λi=>h7 _) λa b=>by obtain⟨i,_,rfl⟩:=Tb.mp b;rw[YS (I i)];simpa using J
 grind
theorem KZ(I:∀i j,0<=f i j/\f i j<10)(U:h<=30)(Y:v<=30):yk [qk h v f]=bB (.val<|.str<|fi h v f):=by
 have Z:=jb;have O:v<=lim:=⋯
 have Q:h<=lim:=⋯
 have b:∀i,zI (.nm 0) ja (qt<|zf 0) [.no] (zX v<|f i)=bB (((SF v).map _).map D.str):=λi=>by simp only[z6,Tn];refine zl _ _ λj _=>zo rfl rfl ?_;have:=I i j;show(bB (f i j)).bind _=_;rw[SR,DJ (yK ⋯ ⋯)];rfl
 have row i:Zn (jn (.str "")) (je (zM (zH (zk 0)) (.nm 0) 1 [] ja (qt (zf 0)))) [.val (.tup (zX v (f i)))]=bB (.str (aQ v (f i))):=by
  refine wK rfl ?_ (by simpa using O) (λx J=>?_) (by rfl)
  ·simp[O,z7,SI,b]
  ·obtain⟨j,_,rfl⟩:=Tb.mp J
   rw[Y7 (I i j).1 (I i j).2];rfl
 have a:zI (.nm 0) ja (Zn (jn (.str "")) (je (zM (zH (zk 0)) (.nm 0) 1 [] ja (qt (zf 0))))) [.no] (jm h v f)=bB (((SF h).map λi=>aQ v (f i)).map D.str):=by unfold jm;rw[Tn];exact zl _ _ λi _=>zo rfl rfl (row i)
 have d:j6 (qk h v f)=_:=rfl;have j:=wK (γ:=[.val (qk h v f)]) (f:=jn (.str "/")) (q:=je (zM (zH (zJ (di (zk 0) (sI 2)))) (.nm 0) 1 [] ja _)) rfl
  (by
   show(DF _<|if _<=lim then zI _ _ _ [.no] _ else cI)=_;rw[DJ (by simp_all),a];rfl) (by simpa using Q) (λx J=>by obtain⟨i,_,rfl⟩:=Tb.mp J;exact KF (I i) ⋯) (by rfl)
 show(jO _ _).bind _=_;rw[vw];refine(congrArg (λo=>(DF _ o).bind _)<|show _=bB _ from ?_).trans rfl;assumption
end
section
variable{p:Int}{w:DV}{wd:DX}{T:DQ}
noncomputable def Wx(w:DV)(wd:DX)(T:DQ)(k:Nat):Str:=fi (f7 w wd k) (fM w wd k)<|T k
noncomputable def KQ(w:DV)(wd:DX)(T:DQ)(k:Nat):Str:=if w k=cm then (jw 60++Wx w wd T k)++jw 45 else (jw 45++Wx w wd T k)++jw 62
theorem AK(h:∀k,wd k<=30)(k:Nat):f7 w wd k<=30:=by rw[vY];exact h _
theorem ua(h:∀k,wd k<=30)(k:Nat):fM w wd k<=30:=by rw[wY];exact h _
theorem Sg(b:Bool):fh (.str (jw (fL b))) (.str "r")=bB (.bl (!b)):=by
 have e:∀b,(jw (fL b)==(Ts "r")) = !b:=by decide +kernel
 have I:∀b,i5 (.str<|jw<|fL b)=cm:=by decide +kernel
 unfold fh;rw[DJ ⟨I b,by decide +kernel⟩];show bB (D.bl (jw (fL b)==Ts "r"))=_;rw[e]
theorem Yr(I:∀k i j,0<=T k i j/\T k i j<10)(h:∀k,wd k<=30)(k:Nat):zU (Wx w wd T k)=cm:=decide_eq_true<|Tf (yD (I k) (AK h k)<|ua h k) ⋯
theorem V6(J:∀k i j,0<=T k i j/\T k i j<10)(h:∀k,wd k<=30)(k:Nat):xZ [wW w wd T k]=bB (.val<|.str<|KQ w wd T k):=by
 have t:yk _=bB (.val (.str (Wx w wd T k))):=KZ (J k) (AK h k) (ua h k);have b:=Yr (w:=w) J h k;have I:=Sg (w k);have a:zU (Ts "-")=cm:=by rfl
 have d:zU (Ts ">")=cm:=by rfl
 have O:zU (Ts "<")=cm:=by rfl
 unfold KQ;rw[<-VL,<-BX,<-BW];unfold xZ;refine zQ<|zu (γ':=[.val (wW w wd T k),.val (.str<|Wx w wd T k)]) ?_ ?_
 ·simp[zZ,SI,dZ,t]
 ·cases hw:w k
  ·rw[hw]at I
   simp[dZ,hw,I,QO,iQ,mN,MS,Na,b,a,d,(KI (Ts "-"))]
  ·rw[hw]at I
   simp[dZ,hw,I,QO,iQ,mN,MS,Na,b,a,O,(KI (Ts "<"))]
noncomputable def qc(p:Int)(w:DV)(wd:DX)(T:DQ):Nat->List Str
 |0=>[ye p++jw 58,ye (wd 0:Int)]
 |s+1=>qc p w wd T s++[KQ w wd T s,ye (wd (s+1):Int)]
theorem jL(s:Nat):(qc p w wd T s).length=2*s+2:=by
 induction s with
 |zero=>rfl
 |succ s I=>simp[qc,I];lia
theorem Y3:∀s k,k<=s->(qc p w wd T s)[2*k+1]? = bB (ye<|wd k)
 |0,k,h=>by
  obtain rfl:k=0:=⋯
  rfl
 | s+1,k,h=>by
  by_cases I:k<=s
  ·rw[qc,Tz (by rw[jL];lia)]
   exact Y3 s k I
  ·obtain rfl:k=s+1:=⋯
   rw[qc,TC (by rw[jL];lia),jL,show _-(2*s+2)=1 by lia];rfl
theorem Xx:∀s k,k<s->(qc p w wd T s)[2*k+2]? = bB (KQ w wd T k)
 |0,k,h=>by lia
 | s+1,k,h=>by
  by_cases I:k<s
  ·rw[qc,Tz (by rw[jL];lia)]
   exact Xx s k I
  ·obtain rfl:k=s:=⋯
   rw[qc,TC (by rw[jL];lia),jL,show 2*k+2-(2*k+2)=0 by lia];rfl
end
section
variable{p:Int}{m:Nat}{w:DV}{wd:DX}{T:DQ}
noncomputable def vy(p:Int)(m:Nat)(w:DV)(wd:DX)(T:DQ):Str:=r0 (jw 32)<|qc p w wd T m
theorem FP(g:Nat->Int):gW (zX (m+1) g) (bB 1) cI=zX m λk=>g (k+1):=by simp only[z6,z6,List.range_succ_eq_map,Tw,Tn];unfold gW VY;simp;exact Ht ⋯
theorem Cz:ZA (xx m w wd T) (zX m λk=>(wd<|k+1))=(SF m).map λk=>D.tup [wW w wd T k,.int (wd<|k+1)]:=by unfold ZA xx;simp only[z6,DB,Tn];rfl
theorem ZH{n:Int}(j:0<=n)(h:n<=30):zU (ye n)=cm:=by
 have:∀k:Fin 31,zU (ye<|(k:Nat))=cm:=by decide +kernel
 have e:=this ⟨n.toNat,⋯⟩
 grind
theorem dY(I:∀k i j,0<=T k i j/\T k i j<10)(h:∀k,wd k<=30)(k:Nat):(KQ w wd T k).length<=932:=by
 have:=yD (I k) (AK (w:=w) h k)<|ua (w:=w) h k;have e:(KQ w wd T k).length=(Wx w wd T k).length+2:=by rw[qp,qp];unfold KQ;split<;>rw[vp,vp]<;>simp[h7,jw]<;>lia
 rw[e];unfold Wx;lia
theorem kx(e:p=2\/p=3\/p=5\/p=7)(J:∀k i j,0<=T k i j/\T k i j<10)(h:∀k,wd k<=30):∀s,∀x∈qc p w wd T s,zU x=cm
 | 0,x,I=>by
  rcases SS.mp I with rfl|I
  ·rcases e with rfl|rfl|rfl|rfl<;>decide +kernel
  ·rw[Uu.mp I]
   exact ZH ⋯ (by have:=h 0;lia)
 | s+1,x,I=>by
  rcases Uo.mp I with I|I
  ·exact kx e J h s x I
  ·rcases SS.mp I with rfl|I
   ·exact decide_eq_true<|Tf (dY J h s) ⋯
   ·rw[Uu.mp I]
    exact ZH ⋯ (by have:=h<|s+1;lia)
theorem Vd{γ:Ctx}{f:CO D}{n:Int}(I:f γ=bB (.int n))(e:0<=n)(h:n<=30):qt f γ=bB (.str<|ye n):=by
 have r:inR n=cm:=yK ⋯ ⋯;show((f γ).bind l7).bind _=_
 simp_all
theorem cp(z:p=2\/p=3\/p=5\/p=7)(U:m<=5)(I:∀k i j,0<=T k i j/\T k i j<10)(h:∀k,wd k<=30):wQ [jX p m w wd T]=bB (.val<|.str<|vy p m w wd T):=by
 have Y:=jb;let γ:Cell->Cell->Cell->Ctx:=λa b c=>[.val (jX p m w wd T),vI p,a,b,c];let W:=λs=>(qc p w wd T s).map D.str;have e:bH (di (zk 0)<|sI 2) (nT (di (zk 0)<|sI 1) (h9<|sI 1) Xa) (γ (.own<|W 0) .no .no)=bB ((SF m).map λk=>D.tup [wW w wd T k,.int (wd<|k+1)]):=by rw[<-Cz,<-FP (λk=>(wd k))];rfl
 obtain⟨_,J,l,o,rfl⟩:=vZ (T:=.tp [3,4]) (F:=zV (qf 2<|zA xZ<|zc (zf 3) zG)<|qf 2 _) (g:=λk=>D.tup [_,_]) (λs d=>∃a b,d=γ (.own<|W s) a b) m ⟨_,_,rfl⟩ (by
  rintro s y _ ⟨l,o,rfl⟩;let d:=λL=>γ (.own L) (.val<|wW w wd T s)<|vI<|wd<|s+1;have O:(W s).length=2*s+2:=by rw[Ta,jL]
  exact⟨d<|W s,d<|W<|s+1,rfl,zu (Ra rfl (by simp[γ,d,V6 I h s]) ⋯)<|(Ra rfl (Vd (γ:=d<|W s++[.str (KQ w wd T s)]) (f:=zf 4) rfl ⋯ (by have:=h<|s+1;lia))<|by rw[Tt,O];simp;lia).trans (by simp[qc,γ,d,W]),_,_,rfl⟩)
 refine zQ<|zu (γ':=γ .no .no .no) rfl<|zu ?_ (zu (by rw[KU,e];exact J) ?_)
 ·have Q:QO [mN (zf 1),jn (.str ":")] (γ .no .no .no)=bB (.str (ye p++jw 58)):=by
   have u:zU (Ts ":")=cm:=by rfl
   have x:zU (ye p)=cm:=ZH ⋯ ⋯;have r:inR p=cm:=yK ⋯ ⋯;rw[<-aB];simp[γ,QO,iQ,mN,MS,Na,r,u,x,KI]
  have t:2<=lim:=⋯
  simp[(Vd (γ:=γ .no .no .no) (f:=di (zJ<|di (zk 0)<|sI 1)<|sI 0) (n:=(wd 0)) (by simp[γ,XQ]) ⋯ (by have:=h 0;lia)),Q,t,qc,W];rfl
 ·rw[vw]
  refine(congrArg _ (wK (γ:=γ (.own (W m)) l o) (f:=jn (.str " ")) (q:=zk 2) rfl rfl (by rw[jL];lia) (kx z I h m) (by rfl))).trans ?_;rfl
end
theorem rB{n k:Nat}{i:Int}(h:i=(k:Int))(I:k<n):g5 n i=bB k:=by rw[h,kg,DJ I]
theorem zd7{h v:Nat}{f:DW}(I:∀i j,0<=f i j/\f i j<10)(Q:v<=30):zI (.nm 0) ja (Zn (jn (.str "")) (je (zM (zH (zk 0)) (.nm 0) 1 [] ja (qt (zf 0))))) [.no] (jm h v f)=bB (((SF h).map λi=>aQ v (f i)).map D.str):=by
 have U:=jb;have J:v<=lim:=⋯
 have a:∀i,zI (.nm 0) ja (qt<|zf 0) [.no] (zX v<|f i)=bB (((SF v).map _).map D.str):=λi=>by simp only[z6,Tn];refine zl _ _ λj _=>zo rfl rfl ?_;have:=I i j;exact Vd rfl ⋯ ⋯
 have row i:Zn (jn (.str "")) (je (zM (zH (zk 0)) (.nm 0) 1 [] ja (qt (zf 0)))) [.val (.tup (zX v (f i)))]=bB (.str (aQ v (f i))):=by
  refine wK rfl ?_ (by simpa using J) (λx O=>?_) (by rfl)
  ·simp[J,z7,SI,a]
  ·obtain⟨j,_,rfl⟩:=Tb.mp O
   rw[Y7 (I i j).1 (I i j).2];rfl
 unfold jm;rw[Tn];exact zl _ _ λi _=>zo rfl rfl<|row i
section
theorem dR{γ:Ctx}{f g:CO D}{x y:Str}(I:f γ=bB (.str x))(J:g γ=bB (.str y))(O:zU x=cm)(Q:zU y=cm):xR f g γ=bB (.str<|x++y):=by show(f γ).bind _=_;rw[I];show _=_;rw[J];show(if zU x=cm/\zU y=cm then bB _ else cI)=_;rw[DJ ⟨O,Q⟩]
end
theorem aU(m:Nat)(w:DV):qB (qZ<|x9 m w)=(SF m).map λ(k:Nat)=>D.tup [.int k,.str (jw<|fL<|w k)]:=by
 have e:qZ (x9 m w)=(SF m).map λk=>D.str (jw<|fL<|w k):=by unfold qZ;rw[xB,Tn];rfl
 unfold qB
 simp_all
noncomputable def Xy(m:Nat)(bs:List (Int×Int)):List D:=zX (m+1) λr=>((qV bs r).length:Int)
noncomputable def V5(m:Nat)(w:DV)(bs:List (Int×Int)):List D:=(SF m).map λk=>D.tup [.str (jw<|fL<|w k),Hh (qV bs<|jS w k) (qV bs<|jV w k)]
noncomputable def BR(p:Int)(m:Nat)(w:DV)(bs:List (Int×Int)):D:=.tup [.int p,.tup<|Xy m bs,.tup (V5 m w bs)]
section
variable{p:Int}{m:Nat}{w:DV}{bs:List (Int×Int)}
theorem sJ(w:DV)(k:Nat):(k+if w k=cm then 1 else 0)=((jV w k):Int):=by unfold jV;split<;>lia
theorem FF(w:DV)(k:Nat):(k+if (!w k)=cm then 1 else 0)=((jS w k):Int):=by unfold jS;cases w k<;>simp
theorem Fm{b:List Nat}(x:Nat):zI (.nm 0) ja (ZM<|zD fh (zf 1)<|zf 0) [Cell.no,vI x] (BV b)=bB (b.map λy=>D.int<|if x=y then 1 else 0):=by
 unfold BV;refine zl _ _ λy I=>zo rfl rfl ?_;by_cases h:x=y
 ·simp[h]
 ·have a:¬(x=(y:Int)):=⋯
  simp[h,a]
abbrev lc(p:Int)(m:Nat)(w:DV)(bs:List (Int×Int))(acc:List D)(c5 c6 c7 c8 c9:Cell):Ctx:=[vI p,.val (.str (x9 m w)),.val (.lst (zN bs)),.val (.lst (Xy m bs)),.own acc,c5,c6,c7,c8,c9]
noncomputable def hU(w:DV)(bs:List (Int×Int))(k:Nat):D:=D.tup [.str (jw<|fL<|w k),Hh (qV bs<|jS w k) (qV bs<|jV w k)]
theorem QV(E:m<=5)(z:bs.length<64):qE [.int p,.str<|x9 m w,.lst (zN bs)]=bB (.val<|BR p m w bs):=by
 have A:=jb;have I:bs.length<=lim:=⋯
 have Q:m+1<=lim:=⋯
 have n:=ky w (⋯:m<=1000);have j:∀r:Int,(qV bs r).length<=lim:=λr=>by have:=W2 bs r;lia
 have o:zI (.nm 0) ja (XN<|je<|jo jq<|zc (zf 1)<|zc (zf 0) zG) [Cell.no,Cell.val (.lst<|zN bs)] (zX (m+1) λi=>(i:Int))=bB (Xy m bs):=by unfold Xy;rw[z6,z6];exact zl _ _ λr B=>zo rfl rfl (by simp[Wp,yo I])
 obtain⟨_,J,b,d,e,f,h,rfl⟩:=vZ (T:=.tp [5,6]) (F:=pS) (g:=λ(k:Nat)=>D.tup [.int k,.str (jw<|fL<|w k)]) (λs u=>∃b d e f h,u=lc p m w bs ((SF s).map (hU w bs)) b d e f h) m (γ:=lc p m w bs [] .no .no .no .no .no) ⟨_,_,_,_,_,rfl⟩ (by
  rintro k O _ ⟨b,d,e,f,h,rfl⟩;have l:=rV w O;have U:=dU w O;have Y:k<lim:=⋯
  have Z:(k:Int)+(if w k=cT then 1 else 0)=((jS w k:Nat):Int):=by unfold jS;cases w k<;>simp
  have a:zI (.nm 0) ja (jg<|je<|zM (zH<|je<|jo Jw<|zc (zf 1)<|zc (zf 2) zG) (.nm 0) 1 [0] ja (ZM<|zD fh (zf 1)<|zf 0)) [Cell.no,Cell.val<|.lst<|zN bs,vI (jV w k)] (BV<|qV bs<|jS w k)=bB ((qV bs<|jS w k).map λx=>D.tup<|(qV bs<|jV w k).map λy=>D.int<|if x=y then 1 else 0):=by rw[BV];exact zl _ _ λx C=>zo rfl rfl (by simp[yo I,j,z7,SI,Fm])
  refine⟨_,lc p m w bs ((SF<|k+1).map (hU w bs)) (vI k) (.val<|.str<|jw<|fL<|w k) (vI<|jV w k) (.val<|.int ((jS w k:Nat):Int))<|.val<|.lst<|(qV bs<|jS w k).map λx=>D.tup<|(qV bs<|jV w k).map λy=>D.int<|if x=y then 1 else 0,rfl,?_,_,_,_,_,_,rfl⟩;rw[UO,Ue];simp[zW,pS,lc,aR,KG,sJ,Z,Wp,yo I,j,z7,a,Xy,kg,l,U,zX,Y,hU,Hh])
 have t:inR ((m:Int)+1)=cm:=yK ⋯ ⋯;unfold lc pS at J;exact zQ (by simp[pS,zW,zZ,SI,n,QW,t,j9,Q,z7,o,aU,J,BR,V5,hU])
end
end DL
namespace DL
open PySem L2 PySem.W PyProof.Rows
noncomputable def k0(x y:Int×Int):Prop:=Jx y x=cT
theorem va(x):k0 x x:=by unfold k0 Jx;simp
theorem VN:k0 x y↔x.1<y.1\/(x.1=y.1/\x.2<=y.2):=by
 unfold k0 Jx
 grind
theorem pR:Jx x y=cm↔x.1<y.1\/(x.1=y.1/\x.2<y.2):=by
 unfold Jx
 grind
theorem Je(a:k0 x y)(b:k0 y z):k0 x z:=by rw[VN]at *;lia
theorem Jf(a:Jx x y=cm):k0 x y:=by rw[pR]at a;rw[VN];grind
theorem IP(a:Jx x y=cm)(b:k0 y z):Jx x z=cm:=by rw[pR]at *;rw[VN]at b;lia
theorem Xf(a:k0 x y)(b:k0 y x):x=y:=by
 rw[VN]at *
 grind
section
variable(key:Nat->Int×Int)
noncomputable def vA(p:Array Nat)(i:Nat):Int×Int:=key<|p.getD i 0
noncomputable def i9(i j:Nat):Bool:=Jx (key i)<|key j
noncomputable def tU(p:Array Nat)(n:Nat):Prop:=∀i j,i<=j->j<n->k0 (vA key p i) (vA key p j)
noncomputable def Dec(p:Array Nat)(n:Nat):Prop:=∀i j,i<=j->j<n->k0 (vA key p j) (vA key p i)
variable{key}
theorem yE(f:α->KasT β):∀t,yw lt (t.bind f)=yw lt (f<|yw lt t)
 |.ret a=>rfl
 |.ask i j k=>yE f<|k<|lt i j
theorem yQ(p:Array Nat)(i j):(kas_rev p i j).size=p.size:=mirror_size _ _ _ _
theorem Nw(p:Array Nat)(i:Nat):vA key p i=key (p[i]?.getD 0):=by unfold vA;rw[P_]
theorem mV(I:j<=p.size)(k:Nat):vA key (kas_rev p i j) k=if i<=k/\k<j then vA key p (i+j-1-k)else vA key p k:=by unfold vA kas_rev;rw[P_,(getElem?_mirror_all (i:=i) I k)];split<;>rw[P_]
theorem Xz(I:j<=p.size)(e:∀k,i<=k->k<j->vA key p k=vA key p (j-1))(k:Nat):vA key (kas_rev p i j) k=vA key p k:=by
 rw[mV I];split
 ·rename_i h
  rw[e _ ⋯ ⋯,e k h.1 h.2]
 ·rfl
theorem Bt(I:k<p.size)(J:l<=k)(i:Nat):vA key (bubble p k<|k-l) i=if i=l then vA key p k else if l<i/\i<=k then vA key p (i-1)else vA key p i:=by
 have:=getElem?_bubble I (k-l) (by grind) i;rw[show k-(k-l)=l by lia]at this;simp only[Nw];rw[this];split
 ·rfl
 ·split<;>rfl
theorem zea(O:1<=n)(hs:tU key p n)(h:k0 (vA key p<|n-1) (vA key p n)):tU key p (n+1):=λi j I Q=>by
 by_cases e:j=n
 ·subst e
  by_cases J:i=j
  ·subst J;exact va _
  ·exact Je (hs i (j-1) ⋯ ⋯) h
 ·exact hs i j I ⋯
theorem Xj(O:1<=n)(hs:Dec key p n)(h:k0 (vA key p n) (vA key p<|n-1)):Dec key p (n+1):=λi j I Q=>by
 by_cases e:j=n
 ·subst e
  by_cases J:i=j
  ·subst J;exact va _
  ·exact Je h<|hs i (j-1) ⋯ ⋯
 ·exact hs i j I ⋯
theorem sL(p:Array Nat):∀f n,1<=n->tU key p n->n<=yw (i9 key) (kas_asc p f n)/\yw (i9 key) (kas_asc p f n)<=n+f/\tU key p (yw (i9 key)<|kas_asc p f n)/\(yw (i9 key) (kas_asc p f n)=n+f\/Jx (vA key p<|yw (i9 key)<|kas_asc p f n) (vA key p<|yw (i9 key) (kas_asc p f n)-1)=cm)
 |0,n,hn,hs=>⟨SN _,SN _,hs,.inl rfl⟩
 | f+1,n,hn,hs=>by
  have e:yw (i9 key) (kas_asc p (f+1) n)=yw (i9 key) (if Jx (vA key p n) (vA key p<|n-1)=cm then .ret n else kas_asc p f (n+1)):=rfl;rw[e];by_cases c:Jx (vA key p n) (vA key p<|n-1)=cm
  ·rw[DJ c]
   exact⟨SN _,by show n<=n+(f+1);lia,hs,.inr c⟩
  ·rw[DY c]
   obtain⟨O,Q,I,J⟩:=sL p f (n+1) ⋯ (zea hn hs<|by unfold k0;simpa using c);exact⟨⋯,⋯,I,J.imp (λh=>by lia) id⟩
noncomputable def Nl(key:Nat->Int×Int)(p:Array Nat)(n q:Nat):Prop:=q+1<=n/\∀i,n-(q+1)<=i->i<n->vA key p i=vA key p (n-1)
theorem dS(p:Array Nat)(I:1<=n):Nl key p n 0:=⟨I,λi a J=>by grind⟩
theorem VW:∀f p n q,Dec key p n->Nl key p n q->n+f<=p.size->
 ∃p' n' I,yw (i9 key) (kas_desc f p n q)=(p',n',I)/\p'.size=p.size/\n<=n'/\n'<=n+f/\Dec key p' n'/\Nl key p' n' I
 |0,p,n,q,hd,hb,_=>⟨p,n,q,rfl,rfl,SN _,SN _,hd,hb⟩
 | f+1,p,n,q,hd,hb,hs=>by
  have U:1<=n:=by have:=hb.1;lia
  have e:yw (i9 key) (kas_desc (f+1) p n q)=yw (i9 key) (if Jx (vA key p n) (vA key p<|n-1)=cm then (if q>0 then kas_desc f _ (n+1) 0 else kas_desc f p (n+1) 0)
   else .ask _ _ _):=rfl
  rw[e];by_cases c:Jx (vA key p n) (vA key p<|n-1)=cm
  ·rw[DJ c]
   by_cases Y:q>0
   ·rw[DJ Y]
    have Z:=Xz ⋯ hb.2;have k:Dec key _ (n+1):=λi j l r=>by rw[Z,Z];exact Xj U hd (Jf c) i j l r
    obtain⟨p',n',I,a,J,b,g,O,Q⟩:=VW f _ (n+1) 0 k (dS _ ⋯) (by rw[yQ];lia);exact⟨p',n',I,a,by rw[J,yQ],⋯,⋯,O,Q⟩
   ·rw[DY Y]
    obtain⟨p',n',I,a,J,b,g,O,Q⟩:=VW f p (n+1) 0 (Xj U hd<|Jf c) (dS _ ⋯) ⋯;exact⟨p',n',I,a,J,⋯,⋯,O,Q⟩
  ·rw[DY c]
   have m:yw (i9 key) (.ask _ _ λd=>if d=cm then .ret (p,n,q)else kas_desc f p (n+1) (q+1))=yw (i9 key) (if Jx (vA key p<|n-1) (vA key p n)=cm then .ret (p,n,q)else kas_desc f p (n+1) (q+1)):=rfl;rw[m];by_cases d:Jx (vA key p<|n-1) (vA key p n)=cm
   ·rw[DJ d]
    exact⟨p,n,q,rfl,rfl,SN _,⋯,hd,hb⟩
   ·rw[DY d]
    have h:k0 (vA key p n) (vA key p<|n-1):=by unfold k0;simpa using d
    refine dt λs=>?_;obtain⟨p',n',I,a,J,b,g,O,Q⟩:=VW f p (n+1) (q+1) (Xj U hd h) ⟨by have:=hb.1;lia,λi t u=>by
     rw[Nat.add_sub_cancel];by_cases o:i=n
     ·rw[o]
     ·rw[hb.2 i ⋯ ⋯,(Xf (by unfold k0;simpa using c) h)]⟩ ⋯
    exact s ⟨p',n',I,a,J,⋯,⋯,O,Q⟩
noncomputable def GA(key:Nat->Int×Int)(e nrem:Nat)(r:Nat×Array Nat):Prop:=1<=r.1/\r.1<=nrem/\r.2.size=e/\tU key r.2 r.1
theorem ff(I:1<=n)(Q:n<=nrem)(hs:nrem<=p.size)(e:Dec key p n):GA key p.size nrem (yw (i9 key)<|kas_tail3 n nrem p):=by
 have J:tU key (kas_rev p 0 n) n:=λi j U Y=>by rw[mV ⋯,mV ⋯,DJ ⟨⋯,⋯⟩,DJ ⟨⋯,⋯⟩];exact e _ _ ⋯ ⋯
 obtain⟨Z,a,O,_⟩:=sL _ (nrem-n) n I J;unfold kas_tail3;rw[yE];exact⟨by show 1<=yw _ _;lia,by show yw _ _<=nrem;lia,yQ _ _ _,O⟩
theorem pw(Z:1<=n)(z:n<nrem)(hs:nrem<=p.size)(J:∀i,i<n->vA key p i=vA key p (n-1))(e:Jx (vA key p n) (vA key p<|n-1)=cm):GA key p.size nrem (yw (i9 key)<|kas_descPart n nrem p):=by
 obtain⟨f,a,g,b,O,h,k,Q,d⟩:=VW (nrem-(n+1)) p (n+1) 0 (Xj Z (λi j U I=>by rw[J i ⋯,J j I];exact va _)<|Jf e) (dS _ ⋯) ⋯;unfold kas_descPart;rw[yE,b];split
 ·have Y:=Xz ⋯ d.2
  have:=ff (p:=kas_rev f (a-(g+1)) a) (n:=a) (nrem:=nrem) ⋯ (by grind) (by rw[yQ];lia) (λi j U I=>by rw[Y,Y];exact Q i j U I);rw[yQ,O]at this;exact this
 ·have:=ff (nrem:=nrem) ⋯ ⋯ ⋯ Q
  rw[O]at this;exact this
theorem Be(z:1<=nrem)(hs:nrem<=p.size):GA key p.size nrem (yw (i9 key)<|kas_count nrem p):=by
 obtain⟨I,Z,J,Q⟩:=sL p (nrem-1) 1 (SN _) (λi j d f=>by rw[show i=j by lia];exact va _);unfold kas_count;rw[yE];generalize yw (i9 key) _=n at I Z J Q;split
 ·rename_i h
  have:=eq_of_beq h;exact⟨I,by show n<=nrem;lia,rfl,J⟩
 ·rename_i h
  have U:=Q.resolve_left ⋯;split
  ·have e:yw (i9 key) (.ask _ _ λc=>if c=cm then .ret (n,p)else kas_descPart n nrem (kas_rev p 0 n))=yw (i9 key) (if Jx (vA key p 0) (vA key p<|n-1)=cm then .ret (n,p)else kas_descPart n nrem _):=rfl
   rw[e];split
   ·exact⟨I,by show n<=nrem;lia,rfl,J⟩
   ·rename_i c
    have Y:=λi a=>Xf (J i (n-1) ⋯ ⋯)<|Je (by unfold k0;simpa using c)<|J 0 i ⋯ a;have O:=Xz (i:=0) ⋯<|λk _ b=>Y k b;have:=pw (p:=kas_rev p 0 n) (nrem:=nrem) I ⋯ (by rw[yQ];omega) (λi a=>by rw[O,O];exact Y i a) (by rw[O,O];exact U);rw[yQ]at this;exact this
  ·exact pw I ⋯ hs (λi a=>by rw[show i=n-1 by lia]) U
theorem Vq(hs:tU key p k):∀f l r,l<=r->r<=k->r-l<=f->(∀i,i<l->k0 (vA key p i) (vA key p k))->(∀i,r<=i->i<k->Jx (vA key p k) (vA key p i)=cm)->
 yw (i9 key) (kas_place p k f l r)<=k/\(∀i,i<yw (i9 key) (kas_place p k f l r)->k0 (vA key p i) (vA key p k))/\∀i,yw (i9 key) (kas_place p k f l r)<=i->i<k->Jx (vA key p k) (vA key p i)=cm
 |0,l,r,h1,h2,h3,h4,h5=>⟨by show l<=k;lia,h4,λi a I=>h5 i (by have:l<=i:=a;lia) I⟩
 | f+1,l,r,h1,h2,h3,h4,h5=>by
  have e:yw (i9 key) (kas_place p k (f+1) l r)=yw (i9 key) (if l>=r then .ret l else .ask _ _ _):=rfl;rw[e];by_cases J:l>=r
  ·rw[DJ J]
   exact⟨by show l<=k;grind,h4,λi a I=>h5 i (by have:l<=i:=a;lia) I⟩
  ·rw[DY J]
   have O:yw (i9 key) (.ask _ _ λc=>if c=cm then kas_place p k f l ((l+r)/2)else kas_place p k f ((l+r)/2+1) r)=yw (i9 key) (if Jx (vA key p k) (vA key p<|(l+r)/2)=cm then kas_place p k f l _ else kas_place p k f _ r):=rfl;rw[O];by_cases c:Jx (vA key p k) (vA key p<|(l+r)/2)=cm
   ·rw[DJ c]
    exact Vq hs f l _ ⋯ ⋯ (by grind) h4 λi a I=>IP c<|hs _ _ a I
   ·rw[DY c]
    have Q:k0 (vA key p<|(l+r)/2) (vA key p k):=by unfold k0;simpa using c
    exact Vq hs f _ r ⋯ h2 (by grind) (λi a=>Je (hs i _ ⋯ ⋯) Q) h5
theorem HS(J:k<p.size)(O:l<=k)(hs:tU key p k)(e:∀i,i<l->k0 (vA key p i) (vA key p k))(Y:∀i,l<=i->i<k->Jx (vA key p k) (vA key p i)=cm):tU key (bubble p k<|k-l) (k+1):=λi j Z b=>by
 rw[Bt J O,Bt J O];by_cases a:i=l
 ·subst a
  rw[DJ rfl];by_cases I:j=i
  ·rw[DJ I];exact va _
  ·rw[DY I,DJ ⟨⋯,⋯⟩]
   exact Jf<|Y _ ⋯ ⋯
 ·rw[DY a]
  by_cases Q:l<i/\i<=k
  ·rw[DJ Q,DY ⋯,DJ ⟨⋯,⋯⟩]
   exact hs _ _ ⋯ ⋯
  ·rw[DY Q]
   by_cases I:j=l
   ·rw[DJ I];exact e i ⋯
   ·rw[DY I]
    by_cases U:l<j/\j<=k
    ·rw[DJ U];exact hs _ _ (by grind) ⋯
    ·rw[DY U];exact hs _ _ Z ⋯
theorem Cr:∀f p k n,k+f=n->p.size=n->tU key p k->tU key (yw (i9 key)<|kas_bin f p k) n/\(yw (i9 key)<|kas_bin f p k).size=n
 |0,p,k,n,h1,h2,hs=>by
  obtain rfl:k=n:=⋯
  exact⟨hs,h2⟩
 |f+1,p,k,n,h1,h2,hs=>by obtain⟨I,J,O⟩:=Vq hs k 0 k ⋯ (SN _) ⋯ (λi a=>by lia) (λi Q U=>by lia);unfold kas_bin;rw[yE];exact Cr f _ (k+1) n ⋯ (by rw[bubble_size];exact h2)<|HS ⋯ I hs J O
theorem CV(I:1<=n):tU key (yw (i9 key)<|kas_sort n) n/\(yw (i9 key)<|kas_sort n).size=n:=by
 have f:(H8<|SF n).size=n:=by simp
 obtain⟨b,d,e,a⟩:=Be (p:=H8<|SF n) I ⋯;unfold kas_sort;rw[yE];generalize yw (i9 key) _=r at b d e a;rw[show max r.1 1=r.1 by lia];split
 ·exact Cr (n-r.1) r.2 r.1 n ⋯ ⋯ a
 ·have:r.1=n:=⋯
  rw[this]at a;exact⟨a,by show r.2.size=n;lia⟩
end
theorem vE(bs:List (Int×Int)):(ya bs).Pairwise k0:=by
 unfold ya qS;by_cases h:bs.length<2
 ·rw[DJ h]
  rcases bs with _|⟨a,_|⟨b,bs⟩⟩
  ·exact zaI.nil
  ·exact List.pairwise_singleton _ _
  ·simp only[TQ]at h;lia
 ·rw[DY h]
  obtain⟨d,g⟩:=CV (n:=bs.length) ⋯;have e:(yw (λi j=>Jx _ _) _)=yw (i9 λi=>bs.getD i (0,0)) (kas_sort bs.length):=rfl;rw[e];generalize yw _ _=p at d g;rw[MJ];intro i j f I J;simp only[Ta,Uy]at f I;have:=d i j ⋯ ⋯;unfold vA at this
  simp_all
theorem XG:∀{a b:List (Int×Int)},a.Perm b->a.Pairwise k0->b.Pairwise k0->a=b
 |[],b,h,_,_=>by rw[h.nil_eq]
 |x::a,[],h,_,_=>by simp_all
 | x::a,y::b,h,ha,hb=>by
  have e:x=y:=by
   rcases SS.mp (h.mem_iff.mp SO)with e|e
   ·exact e
   ·rcases SS.mp (h.mem_iff.mpr SO)with I|I
    ·exact I.symm
    ·exact Xf (List.rel_of_pairwise_cons ha I)<|List.rel_of_pairwise_cons hb e
  subst e;rw[XG (List.Perm.cons_inv h) ha.of_cons hb.of_cons]
theorem yP(h:a.Perm b):ya a=ya b:=
 XG ((xF a).trans (h.trans (xF b).symm)) (vE a) (vE b)
end DL
namespace DL
open PySem L2
noncomputable def pr(a b:Nat):D:=.tup [.int a,.int b]
@[simp] theorem zf6(a b):j6 (pr a b)=bB (.T,[.int (a:Int),.int (b:Int)]):=rfl
theorem VJ(a c:Nat):(if a<c then (c:Int)else a)=((max a c:Nat)):=by
 by_cases h:c>a
 ·rw[DJ h,Nat.max_eq_right ⋯]
 ·rw[DY h,Nat.max_eq_left ⋯]
theorem VI(a c:Nat):(if c<a then (c:Int)else a)=((min a c:Nat)):=by
 by_cases h:c<a
 ·rw[DJ h,Nat.min_eq_right ⋯]
 ·rw[DY h,T5 ⋯]
noncomputable def s9(w:DV)(a c:Nat):Bool:=decide (a=c) || (w (max a c-1)==decide (a<c))
noncomputable def tf(w:DV)(b d:Nat):Bool:=decide (b=d) || (w (min b d)==decide (b<d))
section
variable{m a b c d:Nat}{w:DV}
theorem zdt(O:m<=5)(e:a<=m)(Q:c<=m):xW [.str (x9 m w),pr a b,pr c d]=bB (.val<|.bl<|s9 w a c):=by
 by_cases q:a=c
 ·subst q
  simp[xW,jf,zZ,zW,s9]
 ·have I:¬(a=(c:Int)):=⋯
  have J:xc (zf 0) (zD QI (nV (di (zk 1)<|sI 0)<|di (zk 2)<|sI 0)<|sI 1) [Cell.val (.str<|x9 m w),Cell.val<|pr a b,Cell.val (pr c d)]=bB (.str<|jw<|fL<|w<|max a c-1):=by refine ZK w ⋯ ⋯ _ _ _ rfl ?_;simp[VJ];lia
  simp only[xW,jf,zZ,zW,SI,TQ,F3];simp[-Xt,I,J];by_cases l:a<c
  ·simp[l,aR,s9,q]
  ·simp[l,KG,s9,q]
theorem mI(O:m<=5)(j:b<=m)(Q:d<=m):xm [.str (x9 m w),pr a b,pr c d]=bB (.val<|.bl<|tf w b d):=by
 by_cases q:b=d
 ·subst q
  simp[xm,jf,zZ,zW,tf]
 ·have I:¬(b=(d:Int)):=⋯
  have J:xc (zf 0) (iO (di (zk 1)<|sI 1)<|di (zk 2)<|sI 1) [Cell.val (.str<|x9 m w),Cell.val<|pr a b,Cell.val (pr c d)]=bB (.str<|jw<|fL<|w<|min b d):=by refine ZK w ⋯ ⋯ _ _ _ rfl ?_;simp[VI]
  simp only[xm,jf,zZ,zW,SI,TQ,F3];simp[-Xt,I,J];by_cases l:d<b
  ·have e:¬b<d:=⋯
   simp[l,e,KG,tf,q]
  ·have e:b<d:=⋯
   simp[l,e,aR,tf,q]
noncomputable def tW(w:DV)(a b c d:Nat):Bool:=decide (max a c<=min b d)&&(s9 w a c&&tf w b d)
theorem Wi(J:m<=5)(e:a<=m)(O:b<=m)(Q:c<=m)(j:d<=m):kE [.str (x9 m w),pr a b,pr c d]=bB (.val<|.int<|if tW w a b c d=cm then 1 else 0):=by
 simp only[kE,jf,zZ,zW,SI,TQ,F3];by_cases q:max a c<=min b d
 ·have I:¬((min b d:Nat))<((max a c:Nat)):=⋯
  simp[VJ,VI,I,zdt (b:=b) (d:=d) (w:=w) J e Q,tW,q];cases h1:s9 w a c
  ·rfl
  ·simp[h1,(mI (a:=a) (c:=c) (w:=w) J O j)]
   cases h2:tf w b d<;>simp[h2]
 ·have I:((min b d:Nat))<((max a c:Nat)):=⋯
  simp[VJ,VI,I,tW,q]
end
noncomputable def Ff(h w:Nat)(f:DW):List D:=(SF h).map λi=>D.lst<|zX w<|f i
@[simp] theorem ze3(h w f):(Ff h w f).length=h:=by simp[Ff]
theorem sM(ds:List D):j6 (.lst ds)=bB (.L,ds):=rfl
theorem mF(ds:List D):j6 (.tup ds)=bB (.T,ds):=rfl
theorem fK(s:Nat)(f:Nat->α):(SF<|s+1).map f=(SF s).map f++[f s]:=by simp only[UO,Ue];rfl
theorem Fv(w:DV)(wd:DX)(k:Nat):wd (jS w k)=f7 w wd k:=by unfold jS f7;split<;>rfl
theorem CB(w:DV)(wd:DX)(k:Nat):wd (jV w k)=fM w wd k:=by unfold jV fM;split<;>rfl
theorem FH{w:DV}{k m:Nat}(h:k<m):jS w k<m+1:=by unfold jS;lia
theorem Gb{w:DV}{k m:Nat}(h:k<m):jV w k<m+1:=by unfold jV;lia
theorem sP(s w wd T):xx (s+1) w wd T=xx s w wd T++[wW w wd T s]:=fK _ _
section
variable{p:Int}{m:Nat}{w:DV}{wd wd':DX}{T T':DQ}
theorem XO(p m w wd T):j6 (jX p m w wd T)=bB (.T,[.int p,.tup<|zX (m+1) λk=>(wd k),.tup (xx m w wd T)]):=rfl
noncomputable def fz(m:Nat)(w:DV)(wd wd':DX):List D:=(SF m).map λk=>D.tup [.int (f7 w wd k:Nat),.int (fM w wd' k:Nat)]
theorem Eh(O:m<=4):vn [jX p m w wd' T',jX p m w wd T]=bB (.own<|fz m w wd wd'):=by
 have Q:=jb;have J:m<=lim:=⋯
 have b:2<=lim:=⋯
 have a:zI (.tp [0,1]) ja (kH<|zc (di (zJ<|di (zk 3)<|sI 1)<|zA vi<|zc (zf 0)<|zc (zf 1) zG)<|zc (di (zJ<|di (zk 2)<|sI 1)<|zA ql<|zc (zf 0)<|zc (zf 1) zG) zG) [Cell.no,Cell.no,Cell.val<|jX p m w wd' T',Cell.val (jX p m w wd T)] ((SF m).map λ(k:Nat)=>D.tup [.int k,.str (jw<|fL<|w k)])=bB (fz m w wd wd'):=by unfold fz;refine zl _ _ λk I=>zo rfl rfl ?_;have I:=SJ.mp I;simp[XO,Wh,Zl,kg,FH (w:=w) I,Gb (w:=w) I,zX,Fv,CB,b]
 exact zQ (by simp[zW,zZ,SI,xV (⋯:m<=900),ky w (⋯:m<=1000),mi,J,z7,a])
end
section
variable{bs:List (Int×Int)}
theorem YU(a b c d:Int):ip (.tup [.int a,.int b]) (.tup [.int c,.int d])=(a==c&&b==d):=by simp[ip,p5,i']
theorem aS:∀a b,p5 (zN a) (zN b)=decide (a=b)
 |[],[]=>rfl
 |[],_::_=>rfl
 |_::_,[]=>rfl
 |(x1,x2)::a,(y1,y2)::b=>by show(_&&p5 (zN a) (zN b))=_;simp only[(aS a b),YU];lia
end
section ap
variable(γ:Ctx)
@[simp] noncomputable def zf4:=@xR.eq_1
@[simp] noncomputable def zga:=@mL.eq_1
@[simp] theorem zfN(f):fG f γ=((f γ).bind l7).map λi=>.int (-i):=rfl
@[simp] theorem zfG(f l h):GD f l h γ=(f γ).bind λa=>(l γ).bind λlo=>(h γ).bind λe=>match a.1 with
 |.L=>bB (gW a.2 lo e)
 |.T=>cI:=rfl
@[simp] noncomputable def zeK:=@Mu.eq_1
end ap
theorem rF{γ:Ctx}{f:CO D}{q:CO (Sk×List D)}{x:Str}{l:List Str}(I:f γ=bB (.str x))(J:q γ=bB (.L,l.map D.str))(O:x∈l):uy f q γ=bB (.bl cm):=by
 have st:=by
  have:=wA (λx=>x) l
  rwa [List.map_id']at this
 show(f γ).bind _=_;rw[I];show _=_;rw[J];show(WC _).map _=_;rw[st];show bB (D.bl _)=_;rw[S8.mpr ⟨x,O,by simp⟩]
theorem lh{p:Int}(e:p=2\/p=3\/p=5\/p=7):xq [.str (ye p++jw 58)]=bB (.val<|.bl cm):=by
 have I:=jb;have a:zM (zH (zJ (jn (.tup [.int 2,.int 3,.int 5,.int 7])))) (.nm 0) 1 [] ja (QO [mN (zf 0),jn (.str ":")]) [.val (.str (ye p++jw 58))]=bB (([2,3,5,7].map λq=>ye q++jw 58).map D.str):=by rfl
 have:=rF (f:=zf 0) (q:=je<|zM _ (.nm 0) 1 [] ja _) rfl (by rw[yB,a];rfl)<|Tb.mpr ⟨p,by grind,rfl⟩;unfold xq;exact zQ (by rw[vw];exact congrArg _ this)
theorem ir{n:Int}(e:0<=n)(h:n<=30):xp [.str (ye n)]=bB (.val<|.bl cm):=by
 have I:=jb;have a:zM (jr<|zD qw (sI 30)<|sI 1) (.nm 0) 1 [] ja (qt<|zf 0) [.val (.str<|ye n)]=bB (((SF 31).map λ(q:Nat)=>ye q).map D.str):=by rfl
 have:=rF (f:=zf 0) (q:=je<|zM _ (.nm 0) 1 [] ja _) rfl (by rw[yB,a];rfl)<|Tb.mpr ⟨n.toNat,SJ.mpr ⋯,by rw[show((n.toNat:Nat))=n by lia]⟩;unfold xp;exact zQ (by rw[vw];exact congrArg _ this)
theorem bZ{γ:Ctx}{f:CO D}{l h:CO (Option Int)}{x:Str}{lo e:Option Int}(I:f γ=bB (.str x))(J:zU x=cm)(j:l γ=bB lo)(O:h γ=bB e):mL f l h γ=bB (.str<|xb x lo e):=by simp_all
section
variable{w:DV}{wd:DX}{T:DQ}
theorem sO(k:Nat):h7 (KQ w wd T k)=(if w k=cm then 60 else 45)::(h7 (Wx w wd T k)++[if w k=cm then 45 else 62]):=by unfold KQ;split<;>rw[vp,vp]<;>rfl
theorem mG(I:∀k i j,0<=T k i j/\T k i j<10)(h:∀k,wd k<=30)(k:Nat):xt [.str (KQ w wd T k)]=bB (.val<|.bl cm):=by
 have z:=jb;have d:zU (KQ w wd T k)=cm:=decide_eq_true<|Tf (dY I h k) ⋯;have O:=sO (w:=w) (wd:=wd) (T:=T) k;let γ:Ctx:=[.val (.str<|KQ w wd T k)];have f1:=bZ (γ:=γ) (f:=zf 0) (l:=Xa) (h:=h9<|sI 1) rfl d rfl rfl;have Q:=bZ (γ:=γ) (f:=zf 0) (l:=h9<|fG<|sI 1) (h:=Xa) rfl d rfl rfl;have U:=bZ (γ:=γ) (f:=zf 0) (l:=h9<|sI 1) (h:=h9<|fG<|sI 1) rfl d rfl rfl;rw[bY O]at f1;rw[iK O]at Q;have J:=WK O;generalize xb _ (bB 1) (bB (-1))=y at U J;have Z:zU y=cm:=decide_eq_true (by
  have:=yD (I k) (AK (w:=w) h k)<|ua (w:=w) h k;rw[qp,J,<-qp];unfold Wx;lia)
 have s:kJ (xR (mL (zf 0) Xa (h9 (sI 1))) (mL (zf 0) (h9 (fG (sI 1))) Xa)) (zJ (kH (zc (jn (.str "->")) (zc (jn (.str "<-")) zG)))) γ=bB (.bl cT):=by
  show(xR _ _ γ).bind _=_;rw[(dR f1 Q rfl rfl),SR];simp[⋯];exact⟨_,rfl,by
   have e:∀b,jw (if b=cm then 60 else 45)++jw (if b=cm then 45 else 62) ∈ [("->" : Str),"<-"]:=by decide +kernel
   exact e<|w k⟩
 have o c:47<=c->c<=57->ux (zf 0) (jn (.str "0123456789/")) [.val (.str ⟨#[c]⟩)]=bB (.bl cm):=λu x=>by
  have e:∀c:Fin 11,(!(UU ("0123456789/") ⟨#[47+c]⟩ 0 ("0123456789/" : Str).length 1).isEmpty)=cm:=by decide +kernel
  have:=e ⟨c-47,⋯⟩;rw[show 47+_=c by show 47+(c-47)=c;omega]at this;show bB _=_;rw[this]
 have p:uA (je (zM (Yy (mL (zf 0) (h9 (sI 1)) (h9 (fG (sI 1))))) (.nm 0) 1 [] ja (ux (zf 0) (jn (.str "0123456789/"))))) γ=bB (.bl cm):=by
  have g:Yy (mL (zf 0) (h9<|sI 1)<|h9<|fG<|sI 1) γ=bB ((h7 y).map λc=>D.str ⟨#[c]⟩):=by show(mL _ _ _ γ).bind _=_;rw[U,SR];show(if zU y=cm then bB (qZ y)else cI)=_;rw[DJ Z];rfl
  have ty:=yD (I k) (AK (w:=w) h k)<|ua (w:=w) h k;rw[LW,yB,kR,g,SR,DJ (by
   rw[Ta,J,<-qp];unfold Wx;lia)]
  show((zI _ _ _ [.no] _).map _).bind _=_;rw[(zl _ _ λc Y=>zo rfl rfl (by
   rw[J]at Y;obtain⟨m,n⟩:=XD (I k) Y;exact o c m n))]
  show(QM _).map _=_;have t:∀l:List Nat,QM (l.map λ_=>D.bl cm)=bB (l.map λ_=>cm):=λl=>by
   induction l with
   |nil=>rfl
   |cons a l r=>simp[QM,r];rfl
  rw[t];simp
 unfold xt;refine zQ<|zu (γ':=γ) ?_ ?_
 ·show g8 _ _ _ γ=_
  simp only[JX,ie,s];rfl
 ·rw[vw]
  exact congrArg _ p
end
section
variable{p:Int}{m:Nat}{w:DV}{wd:DX}{T:DQ}
theorem dC(E:p=2\/p=3\/p=5\/p=7)(O:∀k i j,0<=T k i j/\T k i j<10)(h:∀k,wd k<=30){i:Nat}{x:Str}(I:(qc p w wd T m)[i]? = bB x):kC [.int i,.str x]=bB (.val<|.bl cm):=by
 have f:=by have:=(nt.mp I).1;rw[jL]at this;exact this
 by_cases b:i=0
 ·subst b
  have e:=by
   have:∀s,(qc p w wd T s)[0]? = bB _:=λs=>by
    induction s with
    |zero=>rfl
    |succ s Q=>rw[qc,Tz (by rw[jL];lia)];exact Q
   exact this m
  rw[e]at I;cases I;have:=lh E;assumption
 ·by_cases d:i%2=1
  ·obtain⟨k,rfl⟩:∃k,i=2*k+1:=⟨i/2,⋯⟩
   rw[Y3 m k ⋯]at I;cases I;have a:¬(((2*k+1:Nat):Int)=0):=⋯
   have J:((2*k+1:Nat):Int)%2=1:=⋯
   generalize ((2*k+1:Nat):Int)=z at a J;simp[kC,jf,zZ,zW,SI,ir (n:=(wd k)) ⋯ (by have:=h k;lia),a,J]
  ·obtain⟨k,rfl⟩:∃k,i=2*k+2:=⟨i/2-1,⋯⟩
   rw[Xx m k ⋯]at I;cases I;have a:¬(((2*k+2:Nat):Int)=0):=⋯
   have J:¬(((2*k+2:Nat):Int)%2=1):=⋯
   generalize ((2*k+2:Nat):Int)=z at a J;simp[kC,jf,zZ,zW,SI,mG (w:=w) O h k,a,J]
theorem Bh(E:p=2\/p=3\/p=5\/p=7)(H:m<=5)(Q:∀k i j,0<=T k i j/\T k i j<10)(h:∀k,wd k<=30):vj [.lst ((qc p w wd T m).map D.str)]=bB (.val .d9):=by
 have y:=jb;let W:=qc p w wd T m;have J:W.length=2*m+2:=jL m;have U:W.map D.str=(SF<|2*m+2).map λi=>D.str (W.getD i xg):=by refine List.ext_getElem (by simp[J]) λi n x=>?_;simp[kr,(by simpa using n)]
 have Y:J6 (zf 0) [.val (.lst<|W.map D.str),.no,.no]=bB ((SF<|2*m+2).map λ(i:Nat)=>D.tup [.int i,.str (W.getD i xg)]):=by show bB _=_;rw[U,yL]
 obtain⟨u,Z,I⟩:=KB (T:=.tp [1,2]) (F:=g8 (kc<|sB<|zA kC<|zc (zf 1)<|zc (zf 2) zG) xQ jU) (λ_ f=>∃a b,f=[.val (.lst<|W.map D.str),a,b]) ((SF<|2*m+2).map λ(i:Nat)=>D.tup [.int i,_]) 0 _ ⟨_,_,rfl⟩ (by
  intro s d f e I;obtain⟨a,b,rfl⟩:=I;have r:=by simpa using ((nt.mp e).1)
  have g:=by simp[r]at e;exact e.symm
  subst g;refine⟨[_,vI s,.val (.str<|W.getD s xg)],.inl ?_,_,_,rfl⟩;have t:W[s]? = bB (W.getD s xg):=by rw[kr,SH ⋯];rfl
  show g8 _ _ _ [_,_,.val (.str<|W.getD s xg)]=_;simp only[JX,Gj,ie,eC,wc,sW,Ct,Pz,List.getElem?_cons_succ,KN,SR,zr,(dC E Q h t)];rfl)
 obtain⟨a,b,rfl⟩:=I;have O:¬((((2*m+2:Nat):Int))%2=1):=⋯
 show((zV _ _ [.val (.lst<|W.map D.str),.no,.no]).bind _)=_;rw[zW];refine(congrArg (λo=>(Nh o _).bind _)<|show _=bB (Fl.next [.val (.lst<|W.map D.str),a,b])from ?_).trans ?_
 ·simp only[KU,Y,SR];exact Z
 ·rw[SR]
  have l:(W.map D.str).length=2*m+2:=by rw[Ta,J]
  generalize hz:((2*m+2:Nat))=z at O;simp[l,hz,O]
end
section
variable{h v:Nat}{g:Nat->Int}{f:DW}
theorem VQ{γ:Ctx}{q:CO D}{n:Int}(I:q γ=bB (.str<|ye n))(j:0<=n)(J:n<=30):WM q γ=bB (.int n):=by
 show(q γ).bind _=_;rw[I,SR];show(if _<=640 then (MN<|ye n).map D.int else cI)=_;rw[DJ (by
  have:∀k:Fin 31,(ye<|(k:Nat)).length<=640:=by decide +kernel
  have e:=this ⟨n.toNat,⋯⟩;rw[show(((⟨n.toNat,⋯⟩:Fin 31):Nat))=n by lia]at e;exact e),oA j ⋯]
 rfl
theorem mh(I:∀j,0<=g j/\g j<10)(J:v<=30):xX [.str (aQ v g)]=bB (.own<|zX v g):=by
 have O:=jb;have a:Yy (zf 0) [.val (.str<|aQ v g)]=bB ((SF v).map λj=>D.str<|ye<|g j):=by show(if _=cm then bB _ else cI)=_;rw[DJ (KF (v:=v) I ⋯)];show bB ((h7<|aQ v g).map _)=_;rw[YS I,Tn];congr 1;exact Tp λj _=>by rw[Y7 (I j).1 (I j).2];rfl
 have b:zI (.nm 0) ja (WM<|zf 0) [.no] ((SF v).map λj=>D.str<|ye<|g j)=bB (zX v g):=by rw[z6];refine zl _ _ λj _=>zo rfl rfl ?_;have:=I j;exact VQ rfl ⋯ ⋯
 unfold xX;refine zQ ?_;show yb _ [_]=_;rw[sU,kR,a,SR,DJ (by simpa using ⋯)];show(zI _ _ _ [.no] _).map _=_;rw[b];rfl
theorem WR(I:∀i j,0<=f i j/\f i j<10)(Y:h<=30)(O:v<=30):kU [.str (fi h v f),.int h]=bB (.own<|v9 h v f):=by
 have p:=jb;have ok x:(∀c∈h7 x,c<0x110000)->i5 (.str x)=cm:=λZ=>gi (n:=0) (by simp[deep]) ⋯ (by
  show x.cps.all (· < 0x110000)=cm;rw[<-Array.all_toList];exact Uz.mpr λc J=>decide_eq_true<|Z c J)
 have Q:i5 (.str (Ts ""))=cm:=by decide +kernel
 have U:fh (.str (fi h v f)) (.str "")=bB (.bl (fi h v f==Ts "")):=by unfold fh;rw[DJ ⟨ok _ λc J=>by have:=XD I J;lia,Q⟩];rfl
 have o:=yD I Y O;by_cases b:h=0
 ·subst b
  have e:fi 0 v f=Ts "":=rfl;simp[kU,jf,zZ,zW,SI,e,(Bc Q)];rfl
 ·have J:=⋯
  have m:De (fi h v f) (jw 47)=_:=JB (by simp;omega) λa l=>by obtain⟨i,_,rfl⟩:=Tb.mp l;rw[YS (I i)];intro z;obtain⟨j,_,e⟩:=Tb.mp z;lia
  have k:zI (.nm 0) ja (j5<|jo xX<|zc (zf 0) zG) [.no] ((SF h).map (D.str∘λi=>aQ v<|f i))=bB (v9 h v f):=by unfold v9;exact zl _ _ λi _=>zo rfl rfl (by simp[mh (I i) O])
  have d:(fi h v f).length<=20000:=⋯
  have z:(jw 47).length≠0:=by decide +kernel
  have g:h<=lim:=⋯
  refine zQ ?_;cases q:fi h v f==Ts "" <;> rw[q]at U<;>simp[zW,zZ,SI,U,b,J4,d,z,aA,m,z7,g,k]
end
section
variable{p:Int}{m:Nat}{w:DV}{wd:DX}{T:DQ}
theorem mS(Y:m<=5)(J:zm (λk=>(wd k)) (m+1)<=30):vf [.lst (zX (m+1) λk=>(wd k))]=bB (.val<|.tup<|zX (m+1) λk=>(wd k)):=by
 have Z:=jb;have I:m+1<=lim:=⋯
 have a:zI (.nm 0) ja (uz (zA qF<|zc (zf 0) zG)<|zD D8 (zf 0)<|sI 0) [Cell.no] (zX (m+1) λk=>(wd k))=bB ((SF<|m+1).map λ_=>D.bl cm):=by rw[z6];refine zl _ _ λj b=>zo rfl rfl ?_;rfl
 have O:(m:Int)+1<=6:=⋯
 have Q:1<=(m:Int)+1:=⋯
 have U:yq [.lst (zX (m+1) λk=>(wd k))]=bB (.val<|.bl cm):=by simp[yq,jf,zZ,zW,z7,SI,I,a,vB,Js,vC,J,nY,AG,O,Q]
 simp[vf,jf,zZ,zW,SI,U,I]
theorem Bm(e:p=2\/p=3\/p=5\/p=7)(h:∀k,wd k<=30){k:Nat}(J:k<m)(I:∀k i j,0<=T k i j/\T k i j<p):
 wR [.int p,.tup<|zX (m+1) λk=>(wd k),.int k,Ic w wd T k]=bB (.val<|wW w wd T k):=by
 have a:jS w k<m+1:=by unfold jS;split<;>lia
 have b:jV w k<m+1:=by unfold jV;split<;>lia
 have t:=Wa e (by have:=AK (w:=w) h k;omega) (by have:=ua (w:=w) h k;omega)<|T k;simp only[funext λi=>funext λj=>UG (I k i j).1 (I k i j).2,vY,wY]at t;exact zQ (by simp[zW,zZ,SI,Ic,Ak<|w k,lP,Wh,Zl,kg,a,b,wW,vY,wY,t])
theorem V7(z:p=2\/p=3\/p=5\/p=7)(h:∀k,wd k<=30){k:Nat}(Q:k<m)(I:∀k i j,0<=T k i j/\T k i j<p):
 yp [.int p,.tup<|zX (m+1) λk=>(wd k),.int k,.str (KQ w wd T k)]=bB (.val<|wW w wd T k):=by
 have r:=jb;have J:∀k i j,_/\T k i j<10:=λk i j=>⟨(I k i j).1,by have:=(I k i j).2;lia⟩;have f:zU (KQ w wd T k)=cm:=decide_eq_true (Tf (dY J h k) ⋯);have O:=sO (w:=w) (wd:=wd) (T:=T) k;have g:Txt.startswith (KQ w wd T k) "-" = !w k:=by have e:(KQ w wd T k).cps.toList[0]? = bB _:=congrArg (λl=>l[0]?) O;rw[F4,VL];show(decide (0+(⟨#[45]⟩:Str).length<=(KQ w wd T k).length)&&Builtin.Str.subAt (KQ w wd T k) ⟨#[45]⟩ 0)=cm↔_;rw[Td,decide_eq_true_eq,StrLaws.subAt_one,e];cases w k<;>simp
 have d:jS w k<m+1:=by unfold jS;split<;>lia
 have U:kU [.str (Wx w wd T k),.int (wd<|jS w k)]=bB (.own<|v9 (f7 w wd k) (fM w wd k)<|T k):=by rw[<-vY w wd k];exact WR (J k) (AK h k)<|ua h k
 have o:=AK (w:=w) h k;have Y:f7 w wd k<=lim:=⋯
 have s:=ua (w:=w) h k;have Z:fM w wd k<=lim:=⋯
 have k8 i:k7 [.int p,.lst (zX (fM w wd k)<|T k i)]=bB (.val<|.bl cm):=by
  have a:zI (.nm 0) ja (zD sv (zf 0)<|zf 1) [.no,vI p] (zX (fM w wd k)<|T k i)=bB ((SF<|fM w wd k).map λ_=>D.bl cm):=by rw[z6];exact zl _ _ λj _=>zo rfl rfl (by simp[(I k i j).2])
  simp[k7,jf,zZ,SI,Z,z7,a,vB,Js]
 have a:zI (.nm 0) ja (zA k7<|zc (zf 1)<|zc (zf 0) zG) [.no,vI p] (v9 (f7 w wd k) (fM w wd k)<|T k)=bB ((SF<|f7 w wd k).map λ_=>D.bl cm):=by unfold v9;exact zl _ _ λi _=>zo rfl rfl (by simp[k8 i])
 have b:wR [.int p,_,.int k,.tup [.str (jw (fL (w k))),.lst _]]=_:=Bm z h Q I;have n:(if w k=cT then bB (D.str (Ts "r"))else bB (D.str (Ts "l")))=bB (D.str (jw (fL (w k)))):=by cases w k<;>rfl
 refine zQ ?_;simp[zW,zZ,SI,cf,g,n,f,Yv<|WK O,Wh,kg,d,U,Y,z7,a,vB,Js,⋯,b]
end
theorem Ck{e β:Type}{F:Nat->e}{g:e->Option β}{G:Nat->β}:∀{l:List Nat},(∀k∈l,g (F k)=bB (G k))->(l.map F).filterMap g=l.map G
 |[],_=>rfl
 |k::l,h=>by rw[Tw,D4<|h k SO,Ck λx I=>h x (SQ _ I)];rfl
theorem Ih{m:Nat}(I:m<=5):cK (2*m+2) (bB 1) cI (bB 2)=(SF<|m+1).map λk=>2*k+1:=by
 have:∀m:Fin 6,cK (2*m+2) (bB 1) cI (bB 2)=(SF<|m+1).map λk=>2*k+1:=by decide +kernel
 exact this ⟨m,⋯⟩
theorem EJ{m:Nat}(I:m<=5):cK (2*m+2) (bB 2) cI (bB 2)=(SF m).map λk=>2*k+2:=by
 have:∀m:Fin 6,cK (2*m+2) (bB 2) cI (bB 2)=(SF m).map λk=>2*k+2:=by decide +kernel
 exact this ⟨m,⋯⟩
section
variable{p:Int}{m:Nat}{w:DV}{wd:DX}{T:DQ}
theorem eV{n:Int}(j:0<=n)(h:n<=30):32∉h7 (ye n):=by
 have:∀k:Fin 31,32∉h7 (ye<|(k:Nat)):=by decide +kernel
 have e:=this ⟨n.toNat,⋯⟩
 grind
theorem Xw(e:p=2\/p=3\/p=5\/p=7)(J:∀k i j,0<=T k i j/\T k i j<10)(h:∀k,wd k<=30):∀s,∀x∈qc p w wd T s,32∉h7 x
 | 0,x,I=>by
  rcases SS.mp I with rfl|I
  ·rcases e with rfl|rfl|rfl|rfl<;>decide +kernel
  ·rw[Uu.mp I]
   exact eV ⋯ (by have:=h 0;lia)
 | s+1,x,I=>by
  rcases Uo.mp I with I|I
  ·exact Xw e J h s x I
  ·rcases SS.mp I with rfl|I
   ·rw[sO]
    intro z;rcases SS.mp z with z|z
    ·split at z<;>lia
    ·rcases Uo.mp z with z|z
     ·have:=XD (J s) z;lia
     ·have:=Uu.mp z
      split at this<;>lia
   ·rw[Uu.mp I]
    exact eV ⋯ (by have:=h<|s+1;lia)
theorem cv(e:p=2\/p=3\/p=5\/p=7)(I:m<=5)(O:∀k i j,0<=T k i j/\T k i j<p)(h:∀k,wd k<=30)(hs:zm (λk=>(wd k)) (m+1)<=30):JY [.str (vy p m w wd T)]=bB (.val<|jX p m w wd T):=by
 have M:=jb;have Q:∀k i j,_/\T k i j<10:=λk i j=>⟨(O k i j).1,by have:=(O k i j).2;lia⟩;let W:=qc p w wd T m;have U:W.length=2*m+2:=jL m;have len:(vy p m w wd T).length<=20000:=by
  rw[qp];unfold vy;rw[xk];have:=wL (c:=32) (l:=W.map h7) λa r=>by obtain⟨x,Z,rfl⟩:=Tb.mp r;have:=of_decide_eq_true<|kx e Q h m x Z;assumption
  grind
 have H:De (vy p m w wd T) (jw 32)=W:=JB (λz=>by grind)<|Xw e Q h m;have w0 s:(qc p w wd T s)[0]? = bB (ye p++jw 58):=by
  induction s with
  |zero=>rfl
  |succ s t=>rw[qc,Tz (by rw[jL];lia)];exact t
 have E:zU (ye p++jw 58)=cm/\xb (ye p++jw 58) cI (bB (-1))=ye p:=by rcases e with rfl|rfl|rfl|rfl<;>decide +kernel
 have u:∀b q,q b=_->WM q b=bB (.int p):=λ_ _ h=>VQ h ⋯ ⋯;have Y:∀F (G:Nat->Str) n a,n<=lim->cK (2*m+2) (bB a) cI (bB 2)=(SF n).map F->(∀k,k<n->W[F k]? = bB (G k))->JJ (W.map D.str) (bB a) cI (bB 2)=(SF n).map λk=>D.str (G k):=λF G n a N d f=>by unfold JJ;rw[Ta,U,d];exact Ck λk J=>by rw[TV,f k (SJ.mp J)];rfl
 have A:3<=lim:=⋯
 have g:zI (.nm 0) ja (WM<|zf 0) [.no] ((SF<|m+1).map λk=>D.str<|ye<|wd k)=bB (zX (m+1) λk=>(wd k)):=by rw[z6];exact zl _ _ λk _=>zo rfl rfl<|VQ rfl ⋯ (by have:=h k;lia)
 have o:zI (.tp [0,1]) ja (zA yp<|zc (zf 2)<|zc (zf 3)<|zc (zf 0)<|zc (zf 1) zG) [.no,.no,vI p,.val (.tup<|zX (m+1) λk=>(wd k:Int))] ((SF m).map λ(k:Nat)=>D.tup [.int k,.str (KQ w wd T k)])=bB (xx m w wd T):=by unfold xx;exact zl _ _ λk J=>zo rfl rfl (by simp[V7 e h (SJ.mp J) O])
 have L:=Y (λk=>2*k+1) (λk=>ye<|wd k) (m+1) 1 ⋯ (Ih I) λk J=>Y3 m k ⋯;have B:m+1<=lim:=⋯
 have C:m<=lim:=⋯
 have z:(jw 32).length≠0:=by decide +kernel
 dsimp only[W]at *;have y:g5 (2*m+2) 0=bB 0:=rB rfl ⋯;have K:=(nt.mp<|w0 m).2;refine zQ ?_;simp[zW,zZ,SI,J4,len,z,vX,H,Bh (w:=w) e I Q h,y,U,K,E,u,Mt,L,B,z7,g,mS I hs,J6,Y (λk=>2*k+2) (KQ w wd T) m 2 ⋯ (EJ I)<|Xx m,yL,C,o,A,jX]
end
section
variable{p:Int}{m:Nat}{w:DV}{wd:DX}{T:DQ}
theorem Jh(z:p=2\/p=3\/p=5\/p=7)(H:m<=5)(J:∀k i j,0<=T k i j/\T k i j<10)(h:∀k,wd k<=30):qC [jX p m w wd T]=bB (.val<|.str<|vy p m w wd T):=by
 have E:=jb;let I:Cell->Cell->Cell->Cell->Ctx:=λB a b c=>[.val (jX p m w wd T),vI p,.val<|.tup<|zX (m+1) λk=>(wd k),.val<|.tup<|xx m w wd T,B,a,b,c];let W:Nat->Cell:=λs=>.own ((qc p w wd T s).map D.str);have q:∀c,zU (jw c)=cm:=λ_=>rfl;have rI k:inR (wd k:Int)=cm:=yK ⋯ (by have:=h k;lia);have O:inR p=cm:=yK ⋯ ⋯;have d:2<=lim:=⋯
 obtain⟨_,Q,U,Y,Z,rfl⟩:=vZ (T:=.tp [5,6]) (F:=zV Oh<|zV Og Of) (g:=λ(k:Nat)=>D.tup [.int k,wW w wd T k])
  (λs γ=>∃a b c,γ=I (W s) a b c) m ⟨_,_,_,rfl⟩ (by
    rintro s r _ ⟨a,b,c,rfl⟩;have e:=ua (w:=w) h s;have o:=AK (w:=w) h s;have lt:=yD (J s) o e;have y x:zU (jw x++Wx w wd T s)=cm:=decide_eq_true (by
     rw[qp,vp,Tt,<-qp,<-qp];show 1+(Wx w wd T s).length<=1000;unfold Wx;lia)
    have fs i:zU (aQ (fM w wd s)<|T s i)=cm:=KF (J s i) ⋯;have dl:f7 w wd s<=lim:=⋯
    have C:g5 (m+1) ((s:Int)+1)=bB (s+1):=rB ⋯ ⋯;have u:2*s+2<lim:=⋯
    have d:2*s+2+1<lim:=⋯
    have as:j6 (wW w wd T s)=bB (.T,[.str (jw (fL (w s))),qk (f7 w wd s) (fM w wd s) (T s)]):=rfl;have n:j6 (qk (f7 w wd s) (fM w wd s) (T s))=bB (.T,[.int _,.int _,.tup (jm (f7 w wd s) (fM w wd s) (T s))]):=rfl;have eq b:fh (.str (jw (fL b))) (.str "r")=bB (.bl (!b)):=by cases b<;>kernel_rfl
    refine⟨_,I (W<|s+1) (vI s) (.val<|wW w wd T s)<|.val<|.str<|Wx w wd T s,rfl,?_,_,_,_,rfl⟩;have A:r0 (jw 47) ((SF<|f7 w wd s).map λi=>aQ (fM w wd s)<|T s i)=Wx w wd T s:=rfl;have t:g5 2 0=bB 0/\g5 2 1=bB 1/\g5 3 2=bB 2:=⟨rfl,rfl,rfl⟩;cases hw:w s<;>simp[zW,Oh,Og,Of,I,W,aA,as,n,t,dl,z7,zd7 (h:=f7 w wd s) (J s) e,Rf,wA (λi=>aQ (fM w wd s)<|T s i)<|SF<|f7 w wd s,fs,A,hw,eq,xR,VL,BX,BW,q,y,Yr (w:=w) J h s,jL,u,d,qt,C,r,rI,qc,KQ])
 rw[qC,vX];refine zQ (zu (γ':=I .no .no .no .no) rfl<|zu (γ':=I (W 0) .no .no .no) (by simp[m_,I,W,xR,qt,O,rI,ZH (⋯:0<=p) ⋯,aB,q,d,qc])<|zu (by rw[KU];exact(congrArg (Nh · _)<|congrArg bB (yL m _)).trans Q)<|by rw[vw,(wK (γ:=I (W m) U Y Z) (f:=jn<|.str<|jw 32) (q:=zk 4) (l:=qc p w wd T m) rfl rfl (by rw[jL];lia) (kx z J h m)<|q _)];rfl)
end
noncomputable def t7:List Str:=["row","beside","ways","upon","alike"]
section
variable{p:Int}{m:Nat}{w:DV}{wd:DX}{T:DQ}{P:Str}
theorem Fg(P:Str){W:List Str}(h:W ≠ []):(P++jw 32)++r0 (jw 32) W=r0 (jw 32) (P::W):=Yv (by
 simp only[vp,vp,xk,xk];cases W with
 |nil=>exact absurd rfl h
 |cons a r=>simp[Ky,h7,jw])
theorem Mb:t7.all (λP=>decide (32∉h7 P)&&decide (P.length<=10))=cm:=by decide +kernel
theorem YL(U:P∈t7)(E:p=2\/p=3\/p=5\/p=7)(Y:m<=5)(O:∀k i j,0<=T k i j/\T k i j<10)(h:∀k,wd k<=30)(a b:Cell):
 j5 (J4 (zf 1) (jn (.str " "))) [a,.val (.str ((P++jw 32)++vy p m w wd T)),b]=bB (.lst ((P::qc p w wd T m).map D.str)):=by
 have Q:=Uz.mp Mb P U;simp only[Td,decide_eq_true_eq,decide_eq_true_eq]at Q;have J:(qc p w wd T m).length=2*m+2:=jL m;have e:_++vy p m w wd T=_:=Fg P (λz=>by rw[z]at J;simp at J);have f:De ((P++jw 32)++vy p m w wd T) (jw 32)=P::qc p w wd T m:=by
  rw[e];refine JB ⋯ λx I=>?_;rcases SS.mp I with rfl|I
  ·exact Q.1
  ·exact Xw E O h m x I
 have:J4 (zf 1) (jn (.str " ")) [a,.val (.str ((P++jw 32)++vy p m w wd T)),b]=bB ((P::qc p w wd T m).map D.str):=by
  show(if _/\_ then bB _ else cI)=_;rw[DJ ⟨by
  rw[e,qp,xk];have:=wL (c:=32) (n:=1000) (l:=(P::qc p w wd T m).map h7) λa d=>by
   obtain⟨x,I,rfl⟩:=Tb.mp d;rcases SS.mp I with rfl|I
   ·rw[<-qp];lia
   ·have:=of_decide_eq_true (kx E O h m x I)
    assumption
  rw[Ta,TQ,J]at this;lia,by decide +kernel⟩,vX,f]
 rw[LN,this];rfl
theorem ZN(e:p=2\/p=3\/p=5\/p=7)(J:m<=5)(I:∀k i j,0<=T k i j/\T k i j<p)(h:∀k,wd k<=30)(hs:zm (λk=>(wd k)) (m+1)<=30):jG [.lst ((P::qc p w wd T m).map D.str)]=bB (.val<|jX p m w wd T):=by
 have O:=jb;have Q:(qc p w wd T m).length=2*m+2:=jL m;have j:=wK (γ:=[.val (.lst ((P::qc p w wd T m).map D.str))]) (f:=jn (.str " ")) (q:=je (GD (zk 0) (h9 (sI 1)) Xa)) rfl
  (by
    have:((qc p w wd T m).map D.str).length<=lim:=by rw[Ta];lia
    simp[GD,gW,this];have a n:VY (n+1) 0 (bB 1)=1:=by rfl
    rw[a];simp[VY];exact Ht ⋯) ⋯ (kx e (λk i j=>⟨(I k i j).1,by have:=(I k i j).2;lia⟩) h m) (by rfl)
 rw[vX]at j;refine zQ ?_;show(jO _) [_]=_;rw[vX]at *;simp only[vw,eC,wc,j];simp;exact⟨_,cv (w:=w) e J I h hs,rfl⟩
end
section
variable{P:Str}{X:List D}
theorem vG{F G:CO Fl}{γ:Ctx}{r:Res}(e:F γ=bB (.ret r)):zV F G γ=bB (.ret r):=by rw[zW,e];rfl
theorem I?(c0:Cell):t7.map (λP=>uy (zf 1) (zJ (jn (.tup [.str "row",.str "beside",.str "ways",.str "upon",.str "alike"]))) [c0,.val (.str P)])=t7.map λ_=>bB (.bl cm):=by kernel_rfl
theorem YV(I:P∈t7)(J:X ≠ []):xO [.lst (.str P::X)]=bB (.val<|.bl cm):=by
 have O:1<X.length+1:=by grind
 have a:1<(X.length:Int)+1:=⋯
 refine zQ<|zu (γ':=[.val (.lst (.str P::X)),.val (.str P)]) ?_ ?_
 ·simp[zZ,SI,g5]
 ·refine vG ?_
  rw[JX];have:sB (uy (zf 1) (zJ (jn (.tup [.str "row",.str "beside",.str "ways",.str "upon",.str "alike"])))) [.val (.lst (.str P::X)),.val (.str P)]=bB cm:=by unfold sB;rw[(av (I? (.val (.lst (.str P::X)))) I)];rfl
  rw[this];simp[a]
noncomputable def g_:Str->Bool:=λP=> !(P == "row" || P == "beside")
theorem f_(c0 c1 c2:Cell):t7.map (λP=>sB (kJ (jn (.str P)) (zJ (jn (.tup [.str "row",.str "beside",.str "cut",.str "mirror",.str "opposite",.str "about",.str "split"])))) [c0,c1,c2])=t7.map λP=>bB (g_ P):=by kernel_rfl
theorem gH(c0 c1:Cell)(P:Str)(X:List D):di (zk 2) (sI 0) [c0,c1,.val (.lst (.str P::X))]=bB (.str P):=by simp[g5]
end
structure eW where
 s:Nat
 n:Nat
 v:Nat->Vc
noncomputable def eW.has(b:eW)(r:Nat):Bool:=decide (b.s<=r)&&decide (r<b.s+b.n)
theorem ix{b:eW}{r:Nat}:b.has r=cm↔b.s<=r/\r<b.s+b.n:=by simp[eW.has]
noncomputable def tJ:eW:=⟨0,0,λ_ _=>0⟩
structure o9(p:Int)(w:DV)(wd:DX)(T:DQ)(k:Nat)(b:eW):Prop where
 n1:1<=b.n
 le:b.s+b.n<=k+1
 l4:∀r i,b.has r=cm->i<wd r->0<=b.v r i/\b.v r i<p
 arr:∀j,j<k->b.has (jV w j)=cm->∀i,i<wd (jS w j)->app (T j) (wd<|jV w j) (b.v<|jV w j) i%p=(if b.has (jS w j)=cm then b.v (jS w j) i else 0)%p
noncomputable def Ord(w:DV)(a b:eW):Prop:=(a.s<b.s->w (b.s-1)=cm)/\(b.s<a.s->w (a.s-1)=cT)
noncomputable def Rv(e:List eW)(r:Nat):Vc->Prop:=λg=>∃b,b∈e/\b.has r=cm/\g=b.v r
noncomputable def n7(p:Int)(A:Nat->eW)(N:Nat)(t:Vc)(r:Nat):Vc:=λc=>zm (λj=>if (A j).has r=cm then t j*(A j).v r c else 0) N%p
noncomputable def L6(p:Int)(A:Nat->eW)(N:Nat)(t:Vc)(i:Nat):eW:=⟨(A i).s,(A i).n,n7 p A N t⟩
section
variable{p:Int}{w:DV}{wd:DX}{T:DQ}{k N:Nat}{A:Nat->eW}
theorem wb(f:DW)(h:Nat)(t:Vc)(u:Nat->Vc)(n:Nat)(i:Nat):app f h (λc=>zm (λj=>t j*u j c) n) i=zm (λj=>t j*app f h (u j) i) n:=by
 unfold app;have e:zm (λj=>f i j*zm (λk=>t k*u k j) n) h=zm (λj=>zm (λk=>t k*_) n) h:=zB λj _=>by rw[<-jz];exact zB λk _=>by rw[<-UL,<-UL,Ui (f i j)]
 rw[e,xC];exact zB λj _=>jz ..
theorem Fk(c:Prop) [Decidable c](x y:Int):(if c then x*y else 0)=x*(if c then y else 0):=by split<;>simp
theorem sR(f:DW)(h r:Nat)(t:Vc)(i:Nat):app f h (n7 p A N t r) i%p=zm (λj=>t j*(if (A j).has r=cm then app f h ((A j).v r) i else 0)) N%p:=by
 have e:app f h (n7 p A N t r) i%p=app f h (λc=>zm (λj=>t j*_) N) i%p:=jR (λc _=>by unfold n7;rw[TZ];congr 1;exact zB λj _=>Fk ..) i
 rw[e,wb];congr 1;refine zB λj _=>?_;congr 1;by_cases I:(A j).has r=cm
 ·simp_all
 ·simp only[DY I]
  unfold app;simp[z5]
theorem IM(H:0<p)(Z:∀j,j<N->o9 p w wd T k (A j))(hk:∀j,j<N->(A j).has k=cm){t:Vc}{i:Nat}(e:i<N)(E:∀c,i<c->c<N->Ord w (A i) (A c))(tz:∀c,c<i->t c=0):
 o9 p w wd T k (L6 p A N t i):=by
 refine⟨(Z i e).n1,(Z i e).le,λr c _ _=>⟨TK _ ⋯,Tx _ H⟩,λj h J c g=>?_⟩;have J:(A i).has (jV w j)=cm:=J;show app (T j) _ (n7 p A N t<|jV w j) c%p=(if (A i).has (jS w j)=cm then n7 p A N t (jS w j) c else 0)%p;rw[sR];have f I:I<N->t I≠0->((A i).has (jS w j)=cm->(A I).has (jS w j)=cm->(A I).has (jV w j)=cm)/\((A i).has (jS w j)=cT->(A I).has (jV w j)=cm->(A I).has (jS w j)=cT):=λO a=>by
  have u:=ix.mp<|hk i e;have x:=ix.mp<|hk I O;have Q:=Nat.not_lt.mp λz=>a<|tz I z;rcases Nat.lt_or_eq_of_le Q with Q|Q
  ·obtain⟨n,o⟩:=E I Q O
   have J:=ix.mp J;cases hw:w j with
   | false=>
    have U:jV w j=j:=by unfold jV;rw[hw];rfl
    have b:jS w j=j+1:=by unfold jS;rw[hw];rfl
    rw[U]at J;rw[U,b];refine⟨λ_ q=>ix.mpr ?_,λq _=>?_⟩
    ·have q:=ix.mp q
     refine⟨Nat.not_lt.mp λz=>?_,⋯⟩;have d:(A I).s=j+1:=⋯
     have:=n ⋯;rw[d]at this;simp[hw]at this
    ·exfalso
     have:(A i).has (j+1)=cm:=ix.mpr ⋯;lia
   | true=>
    have U:jV w j=j+1:=by unfold jV;rw[hw];rfl
    have b:jS w j=j:=by unfold jS;rw[hw];rfl
    rw[U]at J;rw[U,b];refine⟨λ_ q=>ix.mpr ?_,λq _=>?_⟩
    ·have q:=ix.mp q
     lia
    ·cases Y:(A I).has j with
     |false=>rfl
     | true=>
      exfalso;have Y:=ix.mp Y;have d:(A i).s=j+1:=by
       have:¬((A i).s<=j):=λz=>by have:(A i).has j=cm:=ix.mpr ⋯;lia
       lia
      have:=o ⋯;rw[d]at this;simp[hw]at this
  ·subst Q
   exact⟨λ_ _=>J,λq _=>q⟩
 have l:zm (λI=>t I*(if (A I).has (jV w j)=cm then app (T j) _ _ c else 0)) N%p
  = zm (λI=>if (A i).has (jS w j)=cm then (if (A I).has (jS w j)=cm then t I*(A I).v (jS w j) c else 0)else 0) N%p:=zT λI O=>by
  by_cases a:t I=0
  ·simp[a]
  obtain⟨y,m⟩:=f I O a;cases Y:(A i).has (jS w j)with
  | false=>
   cases hy:(A I).has (jV w j)with
   |false=>simp
   |true=>
    have q:=(Z I O).arr j h hy c g;rw[m Y hy]at q;simp only[if_true];rw[SU,q];simp
  | true=>
   cases hy:(A I).has (jV w j)with
   |false=>
    lia
   |true=>
    have q:=(Z I O).arr j h hy c g;simp only[if_true];rw[SU,q,<-SU];congr 1;cases hz:(A I).has (jS w j)<;>simp
 rw[l];cases Y:(A i).has (jS w j)with
 |false=>simp[z5]
 |true=>
  simp only[if_true];unfold n7;rw[TZ]
theorem Aq{G':Vc->Prop}{r n:Nat}{e:Nat->eW}(t:Nat->Vc)(Z:∀i,i<N->t i i=1)(hz:∀i c,i<N->c<i->t i c=0)
 (E:∀i,i<N->(A i).has r=cm->Span p n G' ((e i).v r)) (H:∀i,i<N->(A i).has r=cm->∀c,c<n->(e i).v r c%p=n7 p A N (t i) r c%p):
 ∀i,i<N->(A i).has r=cm->Span p n G' ((A i).v r):=by
 have a : ∀d i,N - i<=d->i<N->(A i).has r=cm->Span p n G' ((A i).v r):=by
  intro d
  induction d with
  |zero=>lia
  | succ d s=>
   intro i b J Q;have o:=by
    have gen:∀M,M<=N->Span p n G' λc=>zm (λj=>(if j=i then 0 else if (A j).has r=cm then t i j else 0)*(A j).v r c) M:=by
     intro M
     induction M with
     |zero=>intro _;exact .zero λc _=>by simp[zm]
     | succ M f=>
      intro u;have q:=f ⋯;by_cases I:M=i\/¬((A M).has r=cm)\/M<i
      ·refine q.congr λc _=>?_
       show(zm _ M+_)%p=_;rcases I with I|I|I
       ·simp[I]
       ·simp[I]
       ·simp only[(hz i M J I)];simp
      ·have g:M≠i/\(A M).has r=cm/\¬M<i:=by
        refine⟨λz=>I<|.inl z,?_,λz=>I<|.inr<|.inr z⟩;cases O:(A M).has r with
        |true=>rfl
        |false=>exact absurd (.inr<|.inl<|by rw[O];decide) I
       exact((s M (by grind) ⋯ g.2.1).add q _).congr λc _=>rfl
    exact gen N<|SN _
   refine(o.add (E i J Q) (-1)).congr λc I=>?_;have h:zm (λj=>if (A j).has r=cm then t i j*(A j).v r c else 0) N=(A i).v r c+zm (λj=>(if j=i then 0 else if (A j).has r=cm then t i j else 0)*(A j).v r c) N:=by
    have l:(A i).v r c=zm (λj=>if j=i then (A i).v r c else 0) N:=by rw[zY J λk _ m=>by simp[m]];simp
    rw[l,<-jE];refine zB λj w=>?_;by_cases Y:j=i
    ·subst Y;simp[Q,Z j J]
    ·simp only[DY Y]
     by_cases O:(A j).has r=cm
     ·simp[O]
     ·simp[O]
   have U:=H i J Q c I;unfold n7 at U;rw[TZ,h]at U;rw[Ub,U,<-Ub];lia
 exact λi b J=>a N i ⋯ b J
end
section
variable{p:Int}{n m N h r r2 q:Nat}{B B2 K:Nat->Vc}{l l2:DX}{M f:DW}
theorem WG(I:Span p n (el m U) v):∃t:Vc,∀i,i<n->v i%p=zm (λj=>t j*U j i) m%p:=by
 induction I with
 |zero h=>exact⟨λ_=>0,λi a=>by rw[h i a];simp[z5]⟩
 |@step v w g c J d b O=>
  obtain⟨t,Q⟩:=O;obtain⟨k,Y,rfl⟩:=J;refine⟨λj=>t j+if j=k then c else 0,λi a=>?_⟩;rw[b i a,Ub,Q i a,<-Ub];congr 1;have e:zm (λj=>(t j+if j=k then c else 0)*U j i) m=zm (λj=>t j*U j i) m+zm (λj=>(if j=k then c else 0)*U j i) m:=by rw[<-jE];exact zB λj _=>M6 ..
  rw[e,zY (f:=λj=>(if j=k then c else 0)*U j i) Y λj _ Z=>by simp[Z]];simp
theorem xE(a b:Nat->Int)(n:Nat):zm (λj=>a j*b j) n=zm (λj=>b j*a j) n:=zB λj _=>Ui ..
theorem u4:Span p h (el N λj i=>M i j) u ↔ ∃x,∀i,i<h->u i%p=app M N x i%p:=by
 constructor
 ·intro q
  obtain⟨t,I⟩:=WG q;exact⟨t,λi a=>by rw[I i a];unfold app;rw[xE]⟩
 ·rintro⟨x,J⟩
  refine(Span.sum x λj O=>.gen ⟨j,O,rfl⟩).congr λi a=>?_;rw[J i a];unfold app;rw[xE]
theorem aO(n:Nat)(v:Vc):Span p n (el n qo) v:=by refine(Span.sum v λj I=>.gen ⟨j,I,rfl⟩).congr λi a=>?_;rw[zY a λk _ J=>by simp[qo,J]];simp[qo]
theorem Zu(e:Pr p)(Y:N<=16)(hs:∀v:Vc,∃t,∀i,i<N->v i%p=app f N t i%p)(J:∀i,i<N->app f N t i%p=0):∀j,j<N->t j%p=0:=by
 obtain⟨q,K,l,s,_,Z,I,O,b⟩:=vg e (h:=N) (w:=N) ⋯ ⋯ f;have:=JC e O ⟨qo,id,eP e N,λv=>⟨λ_=>u4.mpr<|hs v,λ_=>aO N v⟩⟩;have Q:q=0:=⋯
 subst Q;have:=(I t).mpr λi a=>by have:=J i a;assumption
 cases this with
 |zero h=>exact h
 |step U _ _=>obtain⟨k,I,_⟩:=U;lia
noncomputable def VM(r:Nat)(B:Nat->Vc)(l:DX)(t:Vc):Vc:=λi=>t i-zm (λj=>t (l j)*B j i) r
theorem YM(J:gB p N r B l)(t:Vc)(I:j<r):VM r B l t (l j)=0:=by unfold VM;rw[zY I λk O Q=>by rw[J.rp k j O I (Tq Q)];simp];rw[J.one j I];lia
theorem gA(t:Vc):Span p N (el r B) λi=>zm (λj=>t (l j)*B j i) r:=Span.sum _ λj I=>.gen ⟨j,I,rfl⟩
theorem Fs(I:gB p N r B l)(h:Span p N (el r B) t)(hz:∀j,j<r->t (l j)%p=0):∀i,i<N->t i%p=0:=λi a=>by
 rw[QU I h i a];have e:zm (λk=>t (l k)*B k i) r%p=zm (λ_=>0) r%p:=zT λk J=>by rw[SU,hz k J];simp
 rw[e,z5];simp
theorem eO(z:Pr p)(I:gB p N r B l)(e:i<N)(J:∀j,j<r->l j≠i):¬Span p N (el r B) (qo i):=λh=>by have:=Fs I h (λj O=>by unfold qo;rw[DY (Tq<|J j O)];simp) i e;unfold qo at this;rw[DJ rfl,z.one]at this;lia
theorem KS(g:DW)(w:Nat)(u v:Vc)(i:Nat):app g w (λj=>u j-v j) i=app g w u i-app g w v i:=by
 have e:app g w u i=app g w (λj=>u j-v j) i+app g w v i:=by unfold app;rw[<-jE];exact zB λj _=>by dsimp only;rw[<-DE];congr 1;lia
 lia
noncomputable def Ib(M f:DW)(N:Nat):Nat->Nat->Int:=λi j=>zm (λk=>M i k*f k j) N
theorem Xs(t:Vc)(i:Nat):app (Ib M f N) N t i=app M N (app f N t) i:=by
 unfold app Ib;have e:zm (λj=>_*t j) N=zm (λj=>zm (λk=>M i k*(f k j*t j)) N) N:=zB λj _=>by rw[<-xD];exact zB λk _=>UL ..
 rw[e,xC];exact zB λk _=>jz ..
theorem Hk(E:Pr p)(hN:N<=16)(hh:h<=16)(hs:∀v:Vc,∃t,∀i,i<N->v i%p=app f N t i%p)(Z:gB p N r B l)(Q:∀t,Span p N (el r B) t↔Dj p h N M (app f N t))
 (H:gB p h r2 B2 l2) (L:∀v,Span p h (el r2 B2) v↔Span p h (el N λj i=>M i j) v):
 (∀j,j<r->∀i,i<h->app M N (app f N<|B j) i%p=0)/\(∀c,c<N->(∀j,j<r->l j≠c)->∃i,i<h/\app M N (λa=>f a c) i%p≠0)/\r+r2=N/\
   ∀O,(∀c,c<N->(∀j,j<r->l j≠c)->Span p h O (app M N λa=>f a c))->(∀c,c<h->(∀j,j<r2->l2 j≠c)->Span p h O (qo c))->∀v,Span p h O v:=by
 have d:∀t,_ ↔ ∀i,i<h->app M N (app f N t) i%p=0:=λt=>Iff.rfl;refine⟨λj J=>(d _).mp ((Q<|B j).mp (.gen ⟨j,J,rfl⟩)),λc I R=>?_,?_,λO F G v=>?_⟩
 ·refine dt λz=>eO E Z I R ((Q _).mpr ((d _).mpr λi b=>?_))
  rw[<-(λc I i=>jR (λa _=>by rw[Xr f I]) i) c I i];exact dt λy=>z ⟨i,b,y⟩
 ·obtain⟨q',zeR,l',s',_,n,m,o,ax⟩:=vg E (h:=h) (w:=N) ⋯ ⋯ _
  have e1:=(KP E n Z (λv g=>(Q v).mpr λi b=>by
   have:=(m v).mp g i b;rw[show zm _ N=app _ N v i from rfl,Xs]at this;exact this) λv g=>(m v).mpr λi b=>by
   rw[show zm _ N=app _ N v i from rfl,Xs];exact((Q v).mp g i b)).1
  have e2:=by
   refine JC E o ⟨B2,l2,H,λv=>(L v).trans ⟨λz=>?_,λz=>?_⟩⟩
   ·obtain⟨x,k⟩:=u4.mp z
    obtain⟨t,U⟩:=hs x;refine u4.mpr ⟨t,λi b=>?_⟩;rw[k i b,Xs];exact jR U i
   ·obtain⟨t,U⟩:=u4.mp z
    exact u4.mpr ⟨app f N t,λi b=>by rw[U i b,Xs]⟩
  lia
 ·
  have T:∀t,Span p h O _:=λt=>by
   have e i:i<h->app M N (app f N t) i%p=app M N (app f N<|VM r B l t) i%p:=λb=>by
    have A:app M N (app f N<|VM r B l t) i=app M N (app f N t) i-app M N (app f N λi=>zm (λj=>t (l j)*B j i) r) i:=by rw[<-KS];congr 1;funext a;exact KS ..
    rw[A,UT,((d _).mp ((Q _).mp (gA (l:=l) t))) i b];simp
   refine Span.congr ?_ e;have C i:app M N (app f N<|VM r B l t) i=zm (λc=>VM r B l t c*app M N (λa=>f a c) i) N:=by rw[<-wb];congr 1;funext a;unfold app;exact xE ..
   have W:∀K,K<=N->Span p h O λi=>zm (λc=>VM r B l t c*app M N (λa=>f a c) i) K:=by
    intro K
    induction K with
    |zero=>intro _;exact .zero λi _=>by simp[zm]
    | succ K Y=>
     intro P;by_cases I:∃j,j<r/\l j=K
     ·obtain⟨j,J,rfl⟩:=I
      refine(Y ⋯).congr λi _=>?_;show(zm _ (l j)+_)%p=_;have z:=YM Z t J
      simp_all
     ·exact((F K ⋯ λj J z=>I ⟨j,J,z⟩).add (Y ⋯) _).congr λi _=>rfl
   exact(W N<|SN _).congr λi _=>by rw[C]
  have s:∀u,Span p h _ u->Span p h O u:=λu S=>by obtain⟨x,k⟩:=u4.mp<|(L u).mp S;obtain⟨t,U⟩:=hs x;exact(T t).congr λi b=>by rw[k i b];exact jR U i
  have X:∀K,K<=h->Span p h O λi=>zm (λc=>VM r2 B2 l2 v c*qo c i) K:=by
   intro K
   induction K with
   |zero=>intro _;exact .zero λi _=>by simp[zm]
   | succ K Y=>
    intro P;by_cases I:∃j,j<r2/\l2 j=K
    ·obtain⟨j,J,rfl⟩:=I
     refine(Y ⋯).congr λi _=>?_;show(zm _ (l2 j)+_)%p=_;simp only[(YM H v J)];simp
    ·exact((G K ⋯ λj J z=>I ⟨j,J,z⟩).add (Y ⋯) _).congr λi _=>rfl
  refine((s _<|gA (l:=l2) v).add (X h<|SN _) 1).congr λi b=>?_;congr 1;rw[zY b λc _ I=>by simp[qo,I]];simp only[qo,if_true,VM];lia
theorem Hl(E:Pr p)(hN:N<=16)(hh:h<=16)(hs:∀v:Vc,∃t,∀i,i<N->v i%p=app f N t i%p)(O:gB p N r B l)(H:∀t,Span p N (el r B) t↔Span p N (el h λj i=>M i j) (app f N t))
 (L:∀v,Span p h (el q K) v↔Dj p N h M v) (X:Rk p N h (λj i=>M i j) s) (b3:q+s=h):
 (∀j,j<r->∃y,∀i,i<N->app M h y i%p=app f N (B j) i%p)/\(∀c,c<N->(∀j,j<r->l j≠c)->¬∃y,∀i,i<N->app M h y i%p=f i c%p)/\r+q=h/\
   ∀U (x:Nat->Vc),(∀j,j<r->Span p h U (x j)/\∀i,i<N->app M h (x j) i%p=app f N (B j) i%p)->(∀j,j<q->Span p h U (K j))->∀v,Span p h U v:=by
 have d:=λt=>(H t).trans u4;refine⟨λj I=>?_,λc S hn z=>?_,?_,λU x P h2 v=>?_⟩
 ·obtain⟨y,Y⟩:=(d<|B j).mp (.gen ⟨j,I,rfl⟩)
  exact⟨y,λi b=>(Y i b).symm⟩
 ·obtain⟨y,Y⟩:=z
  exact eO E O S hn<|(d _).mpr ⟨y,λi b=>by rw[Xr f S,Y i b]⟩
 ·have G:s<=16/\r<=16:=by
   obtain⟨F,b4,b5⟩:=En E (n:=N) ⋯ hh λj i=>M i j;refine⟨⋯,?_⟩;have:∀o,o<=r->o<=N:=by
    intro o;have mono:∀k,k<r->k<=l k:=by
     intro k
     induction k with
     |zero=>lia
     |succ k ih=>intro L;have:=ih ⋯;have:=O.mono k (k+1) ⋯ L;lia
    intro b6;cases o with
    |zero=>lia
    |succ ad=>have:=mono ad ⋯;have:=O.lt ad ⋯;lia
   have:=this r<|SN _;lia
  have b7:s<=r:=by
   obtain⟨F,W,w⟩:=En E (n:=N) ⋯ G.2 λj=>app f N<|B j;have e:s=F:=by
    obtain⟨C,Q,A,m⟩:=X;refine JC E ⟨C,Q,A,m⟩ ?_;obtain⟨T,aw,ax,b0⟩:=w;refine⟨T,aw,ax,λv=>(b0 v).trans ⟨λz=>z.le λg J=>by obtain⟨j,I,rfl⟩:=J;exact(H<|B j).mp (.gen ⟨j,I,rfl⟩),λz=>?_⟩⟩
    ·obtain⟨y,Y⟩:=u4.mp z
     obtain⟨t,Z⟩:=hs v;refine(Span.sum (λj=>t<|l j) λj I=>.gen ⟨j,I,rfl⟩).congr λi b=>?_;rw[Z i b,<-wb];exact jR ((QU O<|(d t).mpr ⟨y,λi b=>by rw[<-Z i b,Y i b]⟩)) i
   lia
  have b8:r<=s:=by
   obtain⟨C,Q,A,m⟩:=X;have J:∃g:Nat->Vc,∀j i,i<N->C j i%p=app f N (g j) i%p:=⟨_,λj=>Classical.choose_spec<|(λj=>hs<|C j) j⟩;obtain⟨g,J⟩:=J;obtain⟨F,W,w⟩:=En E (n:=N) ⋯ G.1 g;have e:=by
    refine JC E ⟨B,l,O,λv=>⟨λz=>?_,λz=>?_⟩⟩ w
    ·refine(Span.sum (λj=>app f N v<|Q j) λj I=>.gen ⟨j,I,rfl⟩).congr λi b=>?_
     have z0 a:a<N->app f N (λi=>v i-zm (λj=>app f N v (Q j)*g j i) s) a%p=0:=λR=>by
      rw[KS,wb,UT,QU A ((m _).mpr ((H v).mp z)) a R];have e:zm (λk=>app f N v (Q k)*C k a) s%p=zm (λk=>app f N v (Q k)*app f N (g k) a) s%p:=zT λk _=>by rw[SU,J k a R,<-SU]
      rw[e];simp
     exact(Int.emod_emod_of_dvd _<|Int.dvd_refl p).symm.trans (by
      rw[TZ];exact P0.mpr<|(Zu E hN hs) z0 i b)
    ·refine z.le λu hu=>?_
     obtain⟨j,I,rfl⟩:=hu;refine(H _).mpr (((m<|C j).mp (.gen ⟨j,I,rfl⟩)).congr λi b=>(J j i b).symm)
   lia
  lia
 ·obtain⟨t,Z⟩:=hs (app M h v)
  have hd:Span p h U λc=>v c-zm (λj=>t (l j)*x j c) r:=by
   refine((L _).mpr λi b=>?_).le λg J=>by obtain⟨j,I,rfl⟩:=J;exact h2 j I
   show app M h (λc=>v c-zm (λj=>t (l j)*x j c) r) i%p=0;rw[KS,wb,UT];have e:zm (λj=>t (l j)*app M h (x j) i) r%p=app M h v i%p:=by rw[Z i b,jR ((QU O<|(d t).mpr ⟨v,λi b=>(Z i b).symm⟩)) i,wb];exact zT λj I=>by rw[SU,(P j I).2 i b,<-SU]
   rw[e];simp
  refine((Span.sum (λj=>t<|l j) λj I=>(P j I).1).add hd 1).congr λc _=>?_;lia
end
structure uP(p:Int)(w:DV)(wd:DX)(T:DQ)(k:Nat)(m7:List eW):Prop where
 ok:∀b,b∈m7->o9 p w wd T k b
 sp:∀r,r<=k->∀v,Span p (wd r) (Rv m7 r) v
 ct:∀r,r<=k->m7.countP (λb=>b.has r)=wd r
 od:(m7.filter λb=>b.has k).Pairwise (Ord w)
noncomputable def l0(r:Nat)(l:DX)(i:Nat):Option Nat:=(SF r).find? λj=>l j==i
theorem xM(h:l0 r l i=bB j):j<r/\l j=i:=by exact⟨SJ.mp<|L_ h,by simpa using (List.find?_some h)⟩
theorem Xg(h:l0 r l i=cI):∀j,j<r->l j≠i:=λj I=>by simpa using (Ri.mp h j<|SJ.mpr I)
noncomputable def hO(p:Int)(A:Nat->eW)(N r:Nat)(B:Nat->Vc)(l:DX)(i:Nat):eW:=match l0 r l i with
 |some j=>L6 p A N (B j) i
 |none=>A i
noncomputable def lC(k:Nat)(b:eW):Option Vc->eW
 |none=>b
 |some y=>⟨b.s,b.n+1,λr=>if r=k+1 then y else b.v r⟩
noncomputable def p6(k:Nat)(y:Vc):eW:=⟨k+1,1,λ_=>y⟩
noncomputable def Dz(r:Nat)(B:Nat->Vc)(l:DX)(i:Nat):Vc:=match l0 r l i with
 |some j=>B j
 |none=>qo i
theorem nG(p A N r B l i):(hO p A N r B l i).s=(A i).s:=by unfold hO;split<;>rfl
theorem Hm(p A N r B l i):(hO p A N r B l i).n=(A i).n:=by unfold hO;split<;>rfl
theorem bV(p A N r B l i rm):(hO p A N r B l i).has rm=(A i).has rm:=by unfold eW.has;rw[nG,Hm]
theorem JO:(p6 k y).has r=decide (r=k+1):=by
 unfold p6 eW.has;by_cases h:r=k+1
 ·simp[h]
 ·simp[h];intro;lia
section
variable{p:Int}{w:DV}{wd:DX}{T:DQ}{k N r:Nat}{A:Nat->eW}{B:Nat->Vc}{l:DX}
theorem Bv(I:gB p N r B l)(e:i<N):Dz r B l i i=1/\∀c,c<i->Dz r B l i c=0:=by
 unfold Dz;cases hj:l0 r l i with
 |some j=>
  obtain⟨a,O⟩:=xM hj;subst O;exact⟨I.one j a,λc J=>I.l8 j c a J⟩
 |none=>exact⟨by simp[qo],λc J=>by simp only[qo];rw[DY ⋯]⟩
theorem CU(e:i<N)(J:(A i).has rm=cm):(hO p A N r B l i).v rm c%p=n7 p A N (Dz r B l i) rm c%p:=by
 unfold hO Dz;cases I:l0 r l i with
 |some j=>rfl
 |none=>
  unfold n7;rw[TZ];congr 1;rw[zY (f:=λj=>if _=cm then qo i j*_ else 0) e λj _ I=>by unfold qo;rw[DY (Tq I)];simp];simp[qo,J]
theorem BA(J:0<p)(O:gB p N r B l)(I:∀j,j<N->o9 p w wd T k (A j))(Q:∀j,j<N->(A j).has k=cm)(U:∀i c,i<c->c<N->Ord w (A i) (A c))(e:i<N):o9 p w wd T k (hO p A N r B l i):=by
 unfold hO;split
 ·next j Y=>
  obtain⟨a,Z⟩:=xM Y;subst Z;exact IM J I Q e ((U _)) λc b=>O.l8 j c a b
 ·exact I i e
theorem YT(I:rm<=k)(e:b.s+b.n=k+1):(lC k b o).has rm=b.has rm/\(lC k b o).v rm=b.v rm:=by
 cases o with
 |none=>exact⟨rfl,rfl⟩
 |some y=>
  refine⟨?_,by simp only[lC];rw[DY ⋯]⟩;unfold lC eW.has;simp only;congr 1;exact decide_eq_decide.mpr (by grind)
theorem dG(e:b.s+b.n=k+1):(lC k b o).has (k+1)=o.isSome:=by
 cases o with
 |none=>unfold lC eW.has;simp;lia
 |some y=>unfold lC eW.has;simp;lia
theorem FB(k b o):(lC k b o).s=b.s:=by cases o<;>rfl
theorem Ls(S:0<p)(z:b.s+b.n=k+1)(U:o9 p w wd T k b)(M:∀y,o=bB y->∀c,c<wd (k+1)->0<=y c/\y c<p)
 (E:o=cI->w k=cT->∀c,c<wd (k+1)->app (T k) (wd k) (b.v k) c%p=0) (H:∀y,o=bB y->w k=cT->∀c,c<wd (k+1)->app (T k) (wd k) (b.v k) c%p=y c%p)
 (L:∀y,o=bB y->w k=cm->∀c,c<wd k->app (T k) (wd<|k+1) y c%p=b.v k c%p):o9 p w wd T (k+1) (lC k b o):=by
 have ad:=U.n1;refine⟨?_,?_,λO c f I=>?_,λj r Y c I=>?_⟩
 ·cases o with
  |none=>exact U.n1
  |some y=>show 1<=b.n+1;lia
 ·cases o with
  |none=>show b.s+b.n<=k+1+1;lia
  |some y=>show b.s+(b.n+1)<=k+1+1;lia
 ·by_cases i:O<=k
  ·obtain⟨a,J⟩:=YT i z
   rw[a]at f;rw[J];exact U.l4 O c f I
  ·have g:=ix.mp f
   cases o with
   |none=>exact absurd g.2 (by show ¬(O<b.s+b.n);lia)
   |some y=>
    have:O=k+1:=by have:O<b.s+(b.n+1):=g.2;lia
    subst this;have e:(lC k b<|some y).v (k+1)=y:=by simp[lC]
    rw[e];exact M y rfl c I
 ·by_cases d:j<k
  ·have g1:jV w j<=k:=by unfold jV;split<;>lia
   have g2:jS w j<=k:=by unfold jS;split<;>lia
   obtain⟨a,J⟩:=YT g1 z;obtain⟨l,m⟩:=YT g2 z;rw[a]at Y;rw[J,l,m];exact U.arr j d Y c I
  ·have d:j=k:=⋯
   subst d;obtain⟨a,J⟩:=YT (SN j) z;have h:=dG (o:=o) z;cases hw:w j with
   |false=>
    have Z:jV w j=j:=by unfold jV;rw[hw];rfl
    have Q:jS w j=j+1:=by unfold jS;rw[hw];rfl
    rw[Q]at I;rw[Z,Q,J,h];cases o with
    |none=>rw[E rfl hw c I];simp
    |some y=>rw[H y rfl hw c I];simp[lC]
   | true=>
    have Z:jV w j=j+1:=by unfold jV;rw[hw];rfl
    have Q:jS w j=j:=by unfold jS;rw[hw];rfl
    rw[Q]at I;rw[Z,h]at Y;rw[Z,Q,a,J,(ix.mpr ⋯)];cases o with
    |none=>cases Y
    |some y=>
     have e:(lC j b<|some y).v (j+1)=y:=by simp[lC]
     rw[e,L y rfl hw c I];simp
theorem IL(Y:∀c,c<wd (k+1)->0<=y c/\y c<p)(Z:w k=cm->∀c,c<wd k->app (T k) (wd<|k+1) y c%p=0):o9 p w wd T (k+1) (p6 k y):=by
 refine⟨SN _,by show k+1+1<=k+1+1;lia,λe c O I=>?_,λj d J c I=>?_⟩
 ·rw[JO]at O
  have:=of_decide_eq_true O;subst this;exact Y c I
 ·rw[JO]at J
  have J:=of_decide_eq_true J;cases hw:w j with
  |false=>
   have Q:jV w j=j:=by unfold jV;rw[hw];rfl
   lia
  |true=>
   have Q:jV w j=j+1:=by unfold jV;rw[hw];rfl
   have U:jS w j=j:=by unfold jS;rw[hw];rfl
   have a:j=k:=⋯
   subst a;rw[U]at I;have b:(p6 j y).has (jS w j)=cT:=by rw[JO,U];simp
   rw[b,Q];show app (T j) _ y c%p=_;rw[Z hw c I];simp
noncomputable def Ji(p:Int)(k:Nat)(w:DV)(e:List eW)(A:Nat->eW)(N r:Nat)(B:Nat->Vc)(l:DX)(nx:Nat->Option Vc)(I:List Vc):List eW:=
 (e.filter λb=> !b.has k)++(if w k then (SF N).map (λi=>lC k (hO p A N r B l i)<|nx i)++I.map (p6 k)else I.map (p6 k)++(SF N).map λi=>lC k (hO p A N r B l i)<|nx i)
theorem rL(X:0<p)(I:uP p w wd T k m7)(hN:(m7.filter λb=>b.has k).length=N)(U:∀j,A j=(m7.filter λb=>b.has k).getD j tJ)(O:gB p N r B l)
 (c1 : ∀i y,i<N->nx i=bB y->∀c,c<wd (k+1)->0<=y c/\y c<p) (c2 : ∀y,y∈news->∀c,c<wd (k+1)->0<=y c/\y c<p)
   (d0:∀i,i<N->nx i=cI->w k=cT->∀c,c<wd (k+1)->app (T k) (wd k) ((hO p A N r B l i).v k) c%p=0)
   (d1:∀i y,i<N->nx i=bB y->w k=cT->∀c,c<wd (k+1)->app (T k) (wd k) ((hO p A N r B l i).v k) c%p=y c%p)
   (d2:∀i y,i<N->nx i=bB y->w k=cm->∀c,c<wd k->app (T k) (wd<|k+1) y c%p=(hO p A N r B l i).v k c%p)
   (d3:∀y,y∈news->w k=cm->∀c,c<wd k->app (T k) (wd<|k+1) y c%p=0)
   (s1:∀v,Span p (wd<|k+1) (λg=>(∃i,i<N/\nx i=bB g)\/g∈news) v) (n1:(SF N).countP (λi=>(nx i).isSome)+news.length=wd (k+1)):
   uP p w wd T (k+1) (Ji p k w m7 A N r B l nx news):=by
  have E j:j<N->A j∈m7/\(A j).has k=cm:=λY=>by
   have:A j∈m7.filter λb=>b.has k:=by rw[U j,kr,SH ⋯];exact MZ _
   grind
  have R:=λj Y=>I.ok _ (E j Y).1;have S i c:i<c->c<N->Ord w (A i) (A c):=λd J=>by rw[U i,U c,kr,SH ⋯,kr,SH ⋯];exact(MJ.mp I.od i c ⋯ ⋯ d)
  have Z i:i<N->(hO p A N r B l i).s+(hO p A N r B l i).n=k+1:=λm=>by rw[nG,Hm];have d:=ix.mp (E i m).2;have J:=(R i m).le;lia
  have F b:b∈m7->b.has k=cT->b.s+b.n<=k:=λO hk=>by have d:=(I.ok b O).le;have J:=(I.ok b O).n1;refine Nat.not_lt.mp λz=>?_;have:b.has k=cm:=ix.mpr ⋯;lia
  have u b:b∈Ji p k w m7 A N r B l nx news↔(b∈m7/\b.has k=cT)\/(∃i,i<N/\b=lC k (hO p A N r B l i) (nx i))\/∃y,y∈news/\b=p6 k y:=by
   unfold Ji;rw[Uo,TR];refine or_congr ⋯ ?_;cases w k<;>simp only[UC,if_false,if_true,Uo,Tb,SJ]
   ·constructor
    ·rintro(⟨y,d,J⟩|⟨i,d,J⟩)
     ·exact .inr ⟨y,d,J.symm⟩
     ·exact .inl ⟨i,d,J.symm⟩
    ·rintro(⟨i,d,J⟩|⟨y,d,J⟩)
     ·exact .inr ⟨i,d,J.symm⟩
     ·exact .inl ⟨y,d,J.symm⟩
   ·constructor
    ·rintro(⟨i,d,J⟩|⟨y,d,J⟩)
     ·exact .inl ⟨i,d,J.symm⟩
     ·exact .inr ⟨y,d,J.symm⟩
    ·rintro(⟨i,d,J⟩|⟨y,d,J⟩)
     ·exact .inl ⟨i,d,J.symm⟩
     ·exact .inr ⟨y,d,J.symm⟩
  have cnt:∀P:eW->Bool,(Ji p k w m7 A N r B l nx news).countP P=(m7.filter λb=> !b.has k).countP P+(SF N).countP (λi=>P<|lC k (hO p A N r B l i)<|nx i)+(news.map<|p6 k).countP P:=λP=>by
   unfold Ji;rw[List.countP_append];cases w k<;>simp only[UC,if_false,if_true,List.countP_append,M3 (f:=λi=>lC k (hO p A N r B l i)<|nx i)]
   ·rw[M9,Nat.add_comm (List.countP P<|List.map (p6 k) news)];rfl
   ·rw[M9];rfl
  refine⟨λb b1=>?_,λQ hr v=>?_,λQ hr=>?_,?_⟩
  ·rcases (u b).mp b1 with⟨d,J⟩|⟨i,m,rfl⟩|⟨y,W,rfl⟩
   ·have hk:=F b d J
    have M:=I.ok b d;refine⟨M.n1,⋯,M.l4,λj Y ad c K=>?_⟩;have b7:=ix.mp ad;refine M.arr j ?_ ad c K;have:jV w j>=j:=by unfold jV;split<;>lia
    lia
   ·exact Ls X (Z i m) ((λi m=>BA X O R (λj Y=>(E j Y).2) S m) i m) (λy e=>c1 i y m e) ((d0 i m)) (λy e=>d1 i y m e) λy e=>d2 i y m e
   ·exact IL (c2 y W)<|d3 y W
  ·by_cases x:Q<=k
   ·refine(I.sp Q x v).le λg hg=>?_
    obtain⟨b,d,J,rfl⟩:=hg;cases j':b.has k with
    |false=>exact .gen ⟨b,(u b).mpr (.inl ⟨d,j'⟩),J,rfl⟩
    |true=>
     have b3:b∈m7.filter λb=>b.has k:=TR.mpr ⟨d,by simpa using j'⟩;obtain⟨i,m,e⟩:=T_ b3;have ei:A i=b:=by rw[U i,kr,SH m];exact e
     rw[<-ei]at J ⊢;refine Aq (t:=λi=>Dz r B l i) (λi m=>(Bv O m).1) (λi c m K=>(Bv O m).2 c K) (λi m L=>?_) (λi m L c _=>CU m L) i ⋯ J;obtain⟨x1,x2⟩:=YT (o:=nx i) x<|Z i m;exact .gen ⟨_,(u _).mpr (.inr<|.inl ⟨i,m,rfl⟩),by rw[x1,bV];exact L,by rw[x2]⟩
   ·have:Q=k+1:=⋯
    subst this;refine(s1 v).le λg hg=>?_;rcases hg with⟨i,m,e⟩|hg
    ·refine .gen ⟨_,(u _).mpr (.inr<|.inl ⟨i,m,rfl⟩),?_,?_⟩
     ·rw[dG (Z i m),e];rfl
     ·rw[e];simp[lC]
    ·exact .gen ⟨_,(u _).mpr (.inr<|.inr ⟨g,hg,rfl⟩),by rw[JO];simp,rfl⟩
  ·rw[cnt]
   by_cases x:Q<=k
   ·have G:(news.map<|p6 k).countP (λb=>b.has Q)=0:=Rb.mpr λb O=>by
     obtain⟨y,_,rfl⟩:=Tb.mp O;rw[JO];simp;lia
    have H:(SF N).countP (λi=>(lC k (hO p A N r B l i)<|nx i).has Q)=(m7.filter λb=>b.has k).countP λb=>b.has Q:=by
     have:(m7.filter λb=>b.has k)=(SF N).map A:=by rw[<-ju tJ (m7.filter λb=>b.has k),hN];exact Tp λj _=>(U j).symm
     rw[this,M3];refine C7 λi m=>?_;rw[(YT (o:=nx i) x<|Z i<|SJ.mp m).1,bV];rfl
    simp only[G,H,<-I.ct Q x,List.countP_eq_countP_filter_add m7 (λb=>b.has Q) λb=>b.has k];lia
   ·have:Q=k+1:=⋯
    subst this;have e0:(m7.filter λb=> !b.has k).countP (λb=>b.has<|k+1)=0:=Rb.mpr λb O=>by obtain⟨d,J⟩:=TR.mp O;have:=F b d ⋯;intro z;have:=ix.mp z;lia
    have G:(news.map<|p6 k).countP (λb=>b.has<|k+1)=news.length:=by rw[List.countP_eq_length.mpr λb O=>?_,Ta];obtain⟨y,_,rfl⟩:=Tb.mp O;rw[JO];simp
    have H:(SF N).countP (λi=>(lC k (hO p A N r B l i)<|nx i).has (k+1))=(SF N).countP λi=>(nx i).isSome:=C7 λi m=>by rw[dG (Z i<|SJ.mp m)]
    simp only[e0,G,H];lia
  ·have pO:((SF N).map λi=>lC k (hO p A N r B l i)<|nx i).Pairwise (Ord w):=by
    rw[MV];refine P' (λ{a b} C O h=>?_)<|Rm (n:=N);unfold Ord;simp only[FB,FB,nG,nG];exact(S a b h<|SJ.mp O)
   have pN:(news.map<|p6 k).Pairwise (Ord w):=by rw[MV];exact MJ.mpr λ_ _ _ _ _=>⟨λz=>absurd z<|Uh<|k+1,λz=>absurd z<|Uh<|k+1⟩
   have so b:b∈(SF N).map (λi=>lC k (hO p A N r B l i)<|nx i)->b.s<=k:=λO=>by obtain⟨i,m,rfl⟩:=Tb.mp O;rw[FB,nG];exact(ix.mp (E i<|SJ.mp m).2).1
   have sn b:b∈news.map (p6 k)->b.s=k+1:=λO=>by obtain⟨y,_,rfl⟩:=Tb.mp O;rfl
   unfold Ji;rw[Rj,_b.mpr λb O=>by obtain⟨d,J⟩:=TR.mp O;have:=F b d (by simpa using J);intro z;have:=ix.mp z;lia,F0]
   refine N_ _ ?_;cases hw:w k with
   |false=>
    simp only[UC,if_false];refine List.pairwise_append.mpr ⟨pN,pO,λa C b O=>?_⟩;have d:=sn a C;have J:=so b O;exact⟨λz=>by lia,λ_=>by rw[d];exact hw⟩
   |true=>
    simp only[if_true];refine List.pairwise_append.mpr ⟨pO,pN,λa C b O=>?_⟩;have d:=sn b O;have J:=so a C;exact⟨λ_=>by rw[d];exact hw,λz=>by lia⟩
end
theorem Y0(E:Pr p)(I:h<=100)(z:w<=lim)(f:DW):
 ∃r B l,J0 [.int p,qk h w f]=bB (.own<|jm r h B)/\gB p h r B l/\∀v,Span p h (el r B) v↔Span p h (el w λj i=>f i j) v:=by
 refine dt λJ=>?_;obtain⟨r,B,l,e,O,a⟩:=wx E I z .T _;refine J ?_;have Q:=jb;refine⟨r,B,l,?_,O,a⟩;simp only[p0]at e;have o:=wm f (⋯:h<=lim) z;unfold qk at o ⊢;simp[J0,jf,zZ,o,e]
theorem aP(P:Nat->Ctx->Prop):∀ds es k γ,P k γ->(∀i d γ,ds[i]? = bB d->P (k+i) γ->∃γ',(qx T d γ).bind F=bB (.next γ')/\P (k+i+1) γ')->
 ∃γ',P (k+ds.length) γ'/\yd T F (ds++es) γ=yd T F es γ'
 |[],es,k,γ,h,_=>⟨γ,h,rfl⟩
 | d::ds,es,k,γ,h,step=>by
  obtain⟨a,e,f⟩:=step 0 d γ rfl h;obtain⟨γ',I,J⟩:=aP P ds es (k+1) a (by simpa using f) (λi b O g j=>by have:=step (i+1) b O (by simpa using g) ⋯;rw[show k+(i+1)+1=k+1+i+1 by lia]at this;exact this)
  refine⟨γ',by rw[show k+_=k+1+ds.length by simp;lia];exact I,?_⟩;simp only[S7,xI];cases eb:qx T d γ with
  |none=>rw[eb]at e;simp at e
  |some Q=>
   rw[eb]at e;simp only[SR]at e ⊢;rw[e];exact J
theorem gP(n:Nat)(v:Vc):qB (zX n v)=(SF n).map λ(i:Nat)=>D.tup [.int i,.int (v i)]:=by
 unfold qB
 simp_all
theorem wq(I:n<=lim)(v:Vc)(H:a<n)(j:∀i,i<a->v i=0)(E:v a≠0):xn [.tup (zX n v)]=bB (.val<|.int a):=by
 have d:zI (.tp [0,1]) (sB<|zD h8 (zf 1)<|sI 0) (zf 0) [Cell.no,Cell.no] ((SF n).map λ(i:Nat)=>D.tup [.int i,.int (v i)])=bB (((SF n).filter λi=> !decide (v i=0)).map λ(i:Nat)=>D.int i):=by refine jk _ _ _ λi f=>⟨_,rfl,?_,λ_=>rfl⟩;simp
 cases hf:(SF n).filter λi=> !decide (v i=0)with
 |nil=>simp_all
 | cons b k8=>
  obtain⟨Q,J,O⟩:=QH hf;have e:b=a:=by
   rcases MX a b with z|z|z
   ·exact absurd (by simpa using (O a z)) E
   ·exact z.symm
   ·exact absurd (j b z) (by simpa using J)
  subst e;rw[hf]at d;simp[xn,jf,zZ,gP,I,z7,SI,d]
theorem mn(z:a<n)(v I:Vc)(x:Int)(j:I a=x)(J:∀i,i<n->i≠a->I i=v i):(zX n v).set a (.int x)=zX n I:=by
 apply F8;intro i;rw[P4];by_cases b:i<n
 ·by_cases e:a=i
  ·simp_all
  ·have:=J i b (Tq e)
   simp_all
 simp_all
noncomputable def ig(w:Nat)(B:Nat->Vc)(l:DX)(r:Nat):Vc:=λj=>zm (λk=>if l k=j then B k w else 0) r
section
variable{p:Int}{h w r:Nat}
theorem gu{l:DX}(I:∀k m,k<m->m<r->l k<l m){k m:Nat}(J:k<r)(O:m<r)(e:l k=l m):k=m:=by
 rcases MX k m with z|z|z
 ·have:=I k m z O;lia
 ·exact z
 ·have:=I m k z J;lia
noncomputable def aug(w:Nat)(f:DW)(b:Vc):Nat->Vc:=λi j=>if j<w then f i j else b i
theorem iI(E:w+1<=lim)(O:gB p (w+1) r B l)(hs:s<=r)(H:∀k,k<s->l k<w)(es:List D)(z I J:Cell):
 ∃c5 j,yd (.nm 5) kQ (jm s (w+1) B++es) [z,I,J,vI w,.own<|zX w λ_=>0,.no,.no]=yd (.nm 5) kQ es [z,I,J,vI w,.own<|zX w<|ig w B l s,c5,j]:=by
 refine dt λu=>?_;obtain⟨x,⟨c5,j,rfl⟩,e⟩:=aP (T:=.nm 5) (F:=kQ) (λt f=>∃c5 j,f=[z,I,J,vI w,.own<|zX w<|ig w B l t,c5,j]) (jm s (w+1) B) es 0 [z,I,J,_,.own<|zX w λ_=>0,.no,.no]
  ⟨.no,.no,by rfl⟩ (by
   rintro k d f a ⟨c5,j,rfl⟩;rw[zp];have U:=by simpa using ((nt.mp a).1)
   have g:=by simp[U]at a;exact a.symm
   subst g;have Q:k<r:=⋯
   have Y:=H k U;refine⟨_,?_,.val<|.tup<|zX (w+1)<|B k,vI<|l k,rfl⟩;have Z:¬((l k)=(w:Int)):=⋯
   have h:¬l k=w:=⋯
   have o:w<w+1:=⋯
   simp[kQ,zW,wq E (B k) ⋯ (λi b=>O.l8 k i Q b) (by rw[O.one k Q];decide),Z,h,Y,o,(mn Y (ig w B l k) (ig w B l<|k+1) (B k w) (by
    unfold ig;simp only[zm,if_true];rw[zB λm n=>by rw[DY λe=>by have:=O.mono m k n Q;lia],z5]
    lia) (λi b Z=>by
    unfold ig;simp only[zm];lia))])
 refine u ?_;rw[AW]at e;refine⟨c5,j,?_⟩;rw[e];rw[zp]
theorem Ge(w:Nat)(f:DW)(b:Vc)(i:Nat):zX w (f i)++[.int (b i)]=zX (w+1) (aug w f b i):=by
 unfold zX;simp only[UO,Ue];congr 1
 ·exact Tp λj I=>by simp[aug,SJ.mp I]
 ·simp[aug]
theorem K0(E:Pr p)(S:h<=190)(X:w<=190)(f:DW)(b:Vc):
 ∃r B l s,gB p (w+1) r B l/\(∀v,Span p (w+1) (el r B) v↔Span p (w+1) (el h<|aug w f b) v)/\s<=r/\(∀k,k<s->l k<w)/\(∀k,s<=k->k<r->w<=l k)/\
  wO [.int p,qk h w f,.tup (zX h b)]=bB (.val<|if s<r then .d9 else .tup (zX w<|ig w B l s)):=by
 have R:=jb;have O:h<=lim:=⋯
 have Q:w<=lim:=⋯
 have J:w+1<=lim:=⋯
 obtain⟨r,B,l,e,I,U⟩:=vm E (⋯:w+1<=200) O .L _;obtain⟨s,j,m,g⟩:=QY w I.mono;refine⟨r,B,l,s,I,U,j,m,g,?_⟩;have a:zI (.tp [0,1]) ja (zD qw (zf 0)<|kH<|zc (zf 1) zG) [Cell.no,Cell.no] ((SF h).map λi=>D.tup [.tup (zX w<|f i),.int (b i)])=bB (jm h (w+1)<|aug w f b):=by unfold jm;refine zl _ _ λi y=>zo rfl rfl ?_;simp[qw,J,Ge]
 have Y:ZA (jm h w f) (zX h b)=(SF h).map λi=>D.tup [.tup (zX w<|f i),.int (b i)]:=by unfold ZA jm zX;rw[DB];simp
 have Z:SI w (D.int 0)=zX w λ_=>0:=by rw[ou];rfl
 have t:((w+1:Nat))=(w:Int)+1:=⋯
 simp only[p0]at e;rw[t]at e;obtain⟨d,x⟩:∃d,r=s+d:=⟨r-s,⋯⟩;have C:jm r (w+1) B=jm s (w+1) B++jm d (w+1) λk=>B (s+k):=by unfold jm;simp only[x,MP,Ue,Tn];rfl
 obtain⟨H,K,A⟩:=iI J I j m _ _ _ _;have F:j6 (qk h w f)=bB _:=rfl;have u:wO=jf 7 (zV _<|zV (vH 4<|Ek (je<|vx<|zc (sI 0) zG)<|zf 3)<|zV (J5 (zH<|zJ<|j5<|jo xu<|zc (zf 0)<|zc (zD qw (zf 3)<|sI 1)<|zc (j5<|zM (bH (di (zk 1)<|sI 2)<|zf 2) (.tp [0,1]) 2 [] ja (zD qw (zf 0)<|kH<|zc (zf 1) zG)) zG) (.nm 5) kQ)<|jO<|jg<|zk 4):=rfl;rw[u];simp[jf,zZ,zW,F,Q,Y,O,z7,SI,a,e];rw[Z,C,A];by_cases z:s<r
 ·
  have n:d=1:=by
   rcases To 1 d with q|q
   ·have M:=I.mono s (s+1) ⋯ ⋯
    have N:=g s (SN _) z;have P:=I.lt (s+1) ⋯;lia
   ·lia
  subst n;have G:l s=w:=by have:=g s (SN _) z;have:=I.lt s z;lia
  have one:jm 1 (w+1) (λk=>B<|s+k)=[_]:=rfl;simp only[one,xI];simp[kQ,zW,wq J (B s) (⋯:w<w+1) (λi y=>I.l8 s i z ⋯) (by have:=I.one s z;lia),z]
 ·have o:d=0:=⋯
  subst o;have zero:jm 0 (w+1) (λk=>B<|s+k)=[]:=rfl;rw[zero];simp[yd,z]
end
section
variable{w:DV}{T:DQ}
theorem ny(h w f):j6 (qk h w f)=bB (.T,[.int (h:Int),.int (w:Int),.tup (jm h w f)]):=rfl
theorem mv(h w f):(jm h w f).length=h:=by simp[jm]
theorem dM(s w:Nat)(f:DW):jm (s+1) w f=jm s w f++[.tup (zX w<|f s)]:=fK _ _
end
noncomputable def off(hs ws:DX):Nat->Nat
 |0=>0
 |k+1=>off hs ws k+hs k*ws k
noncomputable def zi(n:Nat)(hs ws:DX):List D:=(SF n).map λk=>D.tup [.int (hs k:Nat),.int (ws k:Nat)]
section
variable{hs ws:DX}{T:DQ}
theorem mq(n f):(zX n f).length=n:=by simp[zX]
theorem CS(n hs ws):(zi n hs ws).length=n:=by simp[zi]
theorem pF(hs ws:DX):∀n,zm (λk=>(hs k)*(ws k)) n=(off hs ws n)
 |0=>rfl
 |n+1=>by show zm _ n+_=((_+_:Nat));simp only[pF hs ws n,Int.natCast_add,Int.natCast_mul]
theorem Ja{n:Nat}(J:n<=100)(e:∀k,ws k<=100):ym [.lst (zi n hs ws)]=bB (.val<|.int<|off hs ws n):=by
 have O:=jb;have I:n<=lim:=⋯
 have a:zI (.tp [0,1]) ja (zD ve (zf 0)<|zf 1) [Cell.no,Cell.no] (zi n hs ws)=bB (zX n λk=>(hs k)*(ws k)):=by
  unfold zi;refine zl _ _ λk Q=>zo rfl rfl ?_;have U:bK (hs k) (ws k)=cm:=bh _ _ ⋯ (by have:=e k;lia)
  simp_all
 refine zQ ?_;show((iN _) [_]).map _=_;simp only[ia,yB,kR,ic,sS,Pz,KO,sM,zr,SR,CS n hs ws,I,if_true];rw[show z7 2 [] _=[Cell.no,Cell.no]from rfl,a];simp only[zr,SR,vC (λk=>(hs k)*(ws k)) n,pF]
end
section
variable{p:Int}{m:Nat}{w:DV}{wd wd':DX}{T T':DQ}
theorem Vl(J:m<=4):wg [jX p m w wd' T',jX p m w wd T]=bB (.own<|zi (m+1) wd wd'):=by
 have O:=jb;have I:m+1<=lim:=⋯
 have a:g5 3 1=bB 1:=rfl;have z:_=zi (m+1) wd wd':=ZE (m+1) _ _;refine zQ ?_;show((nW _ _) [_,_]).map _=_;simp[(XO p m w wd T),XO p m w wd' T',a,mF,mq,I,z]
end
theorem Gq(h:∀k,k<r->l k≠j):ig w B l r j=0:=by unfold ig;rw[zB λk I=>DY<|h k I,z5]
theorem LY{p:Int}{w n r:Nat}{B:Nat->Vc}{l:DX}(J:gB p n r B l){k:Nat}(I:k<r):ig w B l r (l k)=B k w:=by unfold ig;rw[zY I λm O Q=>DY λe=>Q<|gu J.mono O I e,DJ rfl]
theorem zeb{p:Int}{h w:Nat}{f:DW}{b y:Vc}(O:∀i,i<h->zm (λj=>f i j*y j) w%p=b i%p){v:Vc}(Q:Span p (w+1) (el h<|aug w f b) v):(v w-zm (λj=>v j*y j) w)%p=0:=by
 induction Q with
 |@zero v a=>
  have e:zm (λj=>v j*y j) w%p=zm (λ_=>0) w%p:=zT λj J=>by rw[SU,a j ⋯];simp
  rw[UT,e,a w ⋯,z5];simp
 | @step v I g c U o d Y=>
  obtain⟨i,n,rfl⟩:=U;have k:zm (λj=>v j*y j) w%p=(zm (λj=>I j*y j) w+c*zm (λj=>f i j*y j) w)%p:=by
   rw[<-jz,<-jE];refine zT λj J=>?_;rw[SU,d j ⋯,<-SU];have:aug w f b i j=f i j:=by simp[aug,J]
   simp only[this,M6,UL]
  have Z:v w%p=(I w+c*b i)%p:=by
   rw[d w ⋯];have:aug w f b i w=b i:=by simp[aug]
   rw[this]
  have l:(c*zm (λj=>f i j*y j) w)%p=(c*b i)%p:=by rw[SU,O i n,<-SU]
  rw[UT,k,Z,<-UT];have m:(I w+c*b i-(zm (λj=>I j*y j) w+c*zm (λj=>f i j*y j) w))=(I w-zm (λj=>I j*y j) w)+(c*b i-c*zm (λj=>f i j*y j) w):=⋯
  rw[m,Ub,Y,UT,l];simp
theorem zec(E:Pr p)(Y:h<=190)(L:w<=190)(f:DW)(b y:Vc)(O:∀i,i<h->0<=b i/\b i<p)(Z:∀i,i<h->zm (λj=>f i j*y j) w%p=b i):
 ∃x:Vc,wO [.int p,qk h w f,.tup (zX h b)]=bB (.val<|.tup<|zX w x)/\(∀j,0<=x j/\x j<p)/\∀i,i<h->zm (λj=>f i j*x j) w%p=b i:=by
 refine dt λK=>?_;obtain⟨r,B,l,s,J,Q,R,n,M,U⟩:=K0 E Y L f b;refine K ?_;have o:¬s<r:=λz=>by
  have N:=J.lt s z;have P:=M s (SN _) z;have C:l s=w:=⋯
  have q:=zeb (λi a=>by rw[Z i a,UG (O i a).1 (O i a).2])<|(Q<|B s).mp (.gen ⟨s,z,rfl⟩);have m:=J.one s z;rw[C]at m;have G:zm (λj=>B s j*y j) w=0:=by rw[zB (g:=λ_=>0) λj H=>by rw[J.l8 s j z ⋯];simp];exact z5 _
  simp only[m,G,Int.sub_zero,E.one]at q;lia
 rw[DY o]at U;have F:s=r:=⋯
 subst F;refine⟨_,U,λj=>?_,λi a=>?_⟩
 ·by_cases e:∃k,k<s/\l k=j
  ·obtain⟨k,I,rfl⟩:=e
   rw[LY J I];exact J.l4 k w I ⋯
  ·rw[Gq λk I A=>e ⟨k,I,A⟩];exact⟨Int.le_refl _,E.pos⟩
 ·have d:=QU J ((Q _).mpr (.gen ⟨i,a,rfl⟩)) w ⋯
  have t:aug w f b i w=b i:=by simp[aug]
  rw[t,UG (O i a).1 (O i a).2]at d;rw[d];congr 1;unfold ig;rw[zB λj _=>(jz _ _ _).symm,xC];refine zB λk I=>?_;rw[zY (n k I) λj H u=>by rw[DY (Tq u)];simp,DJ rfl];simp only[aug,DJ (n k I)]
noncomputable def vW(wd:DX)(b:eW):List D:=(SF b.n).map λi=>D.tup<|zX (wd<|b.s+i)<|b.v<|b.s+i
noncomputable def qY(wd:DX)(b:eW):D:=.tup [.int b.s,.tup (vW wd b)]
@[simp] theorem lN(wd b):(vW wd b).length=b.n:=by simp[vW]
theorem gz(h:i<b.n):(vW wd b)[i]? = bB (.tup<|zX (wd<|b.s+i)<|b.v<|b.s+i):=by simp[vW,h]
@[simp] theorem zfE(wd b):j6 (qY wd b)=bB (.T,[.int b.s,.tup (vW wd b)]):=rfl
section
variable{wd:DX}{b:eW}
theorem Yt(e:1<=b.n)(I:b.s+b.n<=100):j1 [qY wd b]=bB (.val<|.tup [.int b.s,.int ((b.s+b.n-1:Nat))]):=by simp[j1,jf,zZ,qY,SI];omega
theorem vc(J:b.s+b.n<=100)(r:Nat):jW [qY wd b,.int r]=bB (.val<|.bl<|b.has r):=by
 by_cases h:b.s<=r
 ·by_cases I:r<b.s+b.n
  ·have:r<(b.s:Int)+b.n:=⋯
   simp[jW,jf,zZ,qY,SI,eW.has,h,I,this]
  ·have:¬(r<(b.s:Int)+b.n):=⋯
   simp[jW,jf,zZ,qY,SI,eW.has,h,I,this]
 ·simp[jW,jf,zZ,qY,SI,eW.has,h]
theorem Zt{N:Nat}{A:Nat->eW}(J:∀j,j<N->(A j).s+(A j).n<=100)(O:N<=lim)(r:Nat):
 qW [.lst ((SF N).map λj=>qY wd<|A j),.int r]=bB (.own<|((SF N).filter λj=>(A j).has r).map λj=>D.tup<|zX (wd r)<|(A j).v r):=by
 simp[qW,jf,zZ,SI,S7,Zw,j6,O];rw[jk _ _ _ λj Q=>⟨_,rfl,?_,λU=>?_⟩]
 ·rfl
 ·simp[z7,(vc (wd:=wd) (J j<|SJ.mp Q) r)]
 ·obtain⟨b,Y⟩:=ix.mp U
  obtain⟨i,rfl⟩:=Nat.exists_eq_add_of_le b;have a:i<(A j).n:=⋯
  have I:=gz (wd:=wd) a;simp[z7,qY,a,I];rw[show _-_=(i:Int)by lia,kg,DJ a];exact I
theorem JV(g:Nat->Vc)(I:q<=lim)(J:h<=lim):kY [.int h,.lst (jm q h g)]=bB (.val<|qk h q λi j=>g j i):=by have e:=wm g I J;unfold qk at e;simp[kY,jf,zZ,SI,I,e];rfl
theorem gy(h:Nat)(u:Nat->Vc)(L:List Nat):(L.map λj=>D.tup<|zX h<|u j)=jm L.length h λi=>u (L.getD i 0):=by
 unfold jm
 conv=>lhs;rw[<-ju 0 L]
 rw[Tn];rfl
theorem Ar(u:Nat->Int)(L:List Nat):(L.map λj=>D.int<|u j)=zX L.length λi=>u (L.getD i 0):=by
 unfold zX
 conv=>lhs;rw[<-ju 0 L]
 rw[Tn];rfl
theorem wz(P:DV)(g:Nat->Int):∀N,zm (λi=>g<|((SF N).filter P).getD i 0) ((SF N).filter P).length=zm (λj=>if P j=cm then g j else 0) N
 |0=>rfl
 | N+1=>by
  rw[UO,Rj];show _=zm _ N+_;rw[<-(wz P g N)];cases hP:P N with
  |false=>simp[hP]
  | true=>
   have e:([N].filter P)=[N]:=by simp[hP]
   simp only[e,Tt,UP];show zm _ _+_=_;simp only[if_true];congr 1
   ·refine zB λi a=>?_
    simp[kr,Tz a]
   ·simp[kr,hP]
end
section
variable{wd:DX}{N m:Nat}{A:Nat->eW}{p:Int}{w:DV}{T:DQ}{t:Vc}
theorem zdA:ZA (zX N t) ((SF N).map λj=>qY wd<|A j)=(SF N).map λj=>D.tup [.int (t j),qY wd (A j)]:=by
 unfold ZA zX;rw[List.zip_map,Tn];have e:(SF N).zip (SF N)=(SF N).map λi=>(i,i):=by rw[List.zip_eq_zipWith,List.zipWith_self]
 simp only[e,Tn];rfl
theorem VH(e:Pr p)(O:∀j,j<N->(A j).s+(A j).n<=100)(z:N<=60)(E:m<=5)(U:∀k,wd k<=60)(H:r<=m)(Y:∀j i,j<N->(A j).has r=cm->i<wd r->0<=(A j).v r i/\(A j).v r i<p):
 yn [jX p m w wd T,.lst<|(SF N).map λj=>qY wd<|A j,.tup<|zX N t,.int r]=bB (.val<|.tup<|zX (wd r)<|n7 p A N t r):=by
 have u:=jb;have x:=e.le;have o:=U r;have a:=Zt (wd:=wd) O ⋯ r;have Z:=λi=>wz (λj=>(A j).has r) (λj=>(A j).v r i*t j) N;have f:∀j∈(SF N).filter (λj=>(A j).has r),j<N/\_:=λj h=>by simpa using h
 have l:=Ro (λj=>(A j).has r)<|SF N;have Q:zI (.tp [0,1]) (sB<|zA jW<|zc (zf 1)<|zc (zf 2) zG) (zf 0) [.no,.no,vI r] ((SF N).map λj=>D.tup [.int (t j),qY wd (A j)])=_:=jk (λj=>(A j).has r) _ _ λj I=>⟨_,rfl,by simp[vc (O j<|SJ.mp I) r],λ_=>rfl⟩;rw[gy (wd r) _]at a;rw[Ar]at Q;generalize (SF N).filter _=F at *;rw[Ut]at l;have J:=We (h:=wd r) (w:=F.length) .L (λi j=>(A<|F.getD j 0).v r i) (λi=>t<|F.getD i 0) e.pos ⋯ ⋯ λi j g I=>by obtain⟨b,d⟩:=f (F.getD j 0) (by simp[I]);have:=Y _ i b d g;lia
 rw[show(λi=>_%p)=n7 p A N t r from funext λi=>by rw[Z];unfold n7;congr 1;exact zB λj _=>by rw[Ui]]at J
 simp only[p0]at J;exact zQ (by simp[-kr,zW,zZ,z7,SI,zdA,Q,show N<=lim by lia,jX,a,JV (q:=F.length) (h:=wd r) _ ⋯ ⋯,J,show r<m+1 by lia])
theorem Ap(E:Pr p)(J:∀j,j<N->(A j).s+(A j).n<=m+1)(Q:N<=60)(U:m<=5)(Y:∀k,wd k<=60)(Z:∀j r i,j<N->(A j).has r=cm->i<wd r->0<=(A j).v r i/\(A j).v r i<p)(z:a<N)(H:∀i,i<a->t i=0)(L:t a≠0):
 Wc [jX p m w wd T,.lst<|(SF N).map λj=>qY wd<|A j,.tup (zX N t)]=bB (.val<|qY wd<|L6 p A N t a):=by
 have u:=jb;have o:=J a z;have b:zI (.nm 0) ja (zA yn<|zc (zf 1)<|zc (zf 2)<|zc (zf 3)<|zc (zD qw (di (zk 4)<|sI 0)<|zf 0) zG) [.no,.val<|jX p m w wd T,.val<|.lst<|(SF N).map λj=>qY wd<|A j,.val<|.tup<|zX N t,.val (qY wd<|A a)] ((SF (A a).n).map λ(i:Nat)=>D.int i)=bB (vW wd<|L6 p A N t a):=by
  unfold vW;refine zl _ _ λi d=>zo rfl rfl ?_;have d:=SJ.mp d;have e:=VH (T:=T) (w:=w) (t:=t) E (λj I=>by have:=J j I;lia) Q U Y (r:=(A a).s+i) ⋯ λj c I h g=>Z j _ c I h g;have f:(((A a).s+i:Nat))=((A a).s)+(i:Int):=⋯
  rw[f]at e;simp[e];rfl
 have O:(A a).n<=lim:=⋯
 have l:inR ((A a).n)=cm:=decide_eq_true ⋯;rw[show((SF (A a).n).map _)=zX (A a).n λi=>i from rfl]at b;refine zQ ?_;simp[zW,zZ,SI,wq ⋯ t z H L,z,z7,j9,l,O,b,lN,O];rfl
end
theorem nq(f g:DW)(z:0<p)(E:h<=400)(H:m<=400)(L:w<=400)(Q:∀i j,i<m->j<w->0<=g i j/\g i j<100):
 qM [.int p,qk h m f,qk m w g]=bB (.val<|qk h w λi j=>zm (λk=>f i k*g k j) m%p):=by
 have y:=jb;have d:m<=lim:=⋯
 have J:w<=lim:=⋯
 have O:=ny m w g;let γ:Cell->Cell->Cell->Ctx:=λa b c=>[vI p,.val<|qk h m f,.val<|qk m w g,a,b,c];let N:D:=.lst (Ff w m λj k=>g k j);let R:=λi j=>zm (λk=>f i k*g k j) m%p;have l j:j<w->zI (.nm 0) ja (di (zk 0)<|zf 1) [Cell.no,vI j] (jm m w g)=bB (zX m λk=>g k j):=λI=>by rw[z6];unfold jm;exact zl _ _ λi x=>zo rfl rfl (by simp[I,zX])
 have n:zI (.nm 0) ja (j5<|zM (zH<|zJ<|di (zk 1)<|sI 2) (.nm 0) 1 [0] ja (di (zk 0)<|zf 1)) [Cell.no,Cell.val (qk m w g)] (zX w λi=>i)=bB (Ff w m λj k=>g k j):=by unfold Ff;exact zl _ _ λj I=>zo rfl rfl (by simp[O,g5,d,z7,l j (SJ.mp I)])
 have o:Oi (zZ 6 [.int p,qk h m f,qk m w g])=bB (.next<|γ (.val N) .no .no):=by have U:inR w=cm:=yK ⋯ ⋯;simp[Oi,zZ,SI,O,g5,U,j9,J,z7,n,γ,N]
 have Y i:zI (.nm 0) ja (zD yi (iN<|je<|zM (bH (zf 2)<|zf 0) (.tp [0,1]) 2 [] ja (zD ve (zf 0)<|zf 1))<|zf 1) [Cell.no,vI p,Cell.val (.tup<|zX m<|f i)] (Ff w m λj k=>g k j)=bB (zX w<|R i):=by
  rw[z6 w];unfold Ff;refine zl _ _ λj I=>zo rfl rfl ?_;have Z:zI (.tp [0,1]) ja (zD ve (zf 0)<|zf 1) [Cell.no,Cell.no] ((SF m).map λk=>D.tup [.int (f i k),.int (g k j)])=bB (zX m λk=>f i k*g k j):=by
   exact zl _ _ λk e=>zo rfl rfl (by
    have b:=Q k j (SJ.mp e)<|SJ.mp I;have c:bK (f i k) (g k j)=cm:=bh _ _ ⋯ ⋯;simp[c])
  simp[(ZE m (f i) λk=>g k j),d,z7,Z,vC _ m,z,R]
 obtain⟨_,q,u,rfl⟩:=vZ (T:=.nm 5) (F:=ltB) (g:=λi=>D.tup<|zX m<|f i) (λs t=>∃c,t=γ (.val N) (.own<|jm s w R) c) h ⟨_,rfl⟩ (by
  rintro s A _ ⟨c,rfl⟩;have r:s<lim:=⋯
  exact⟨_,γ (.val N) (.own<|jm (s+1) w R)<|.val<|.tup<|zX m<|f s,rfl,by simp[ltB,γ,N,J,z7,Y,mv,r,dM],_,rfl⟩)
 rw[qM];exact zQ (zu o (zu rfl (zu (by
  assumption) (by rfl))))
theorem dH(b:Bool):fh (.str (jw (fL b))) (.str "r")=bB (.bl (!b)):=by cases b<;>kernel_rfl
section
variable{p:Int}{m:Nat}{w:DV}{wd:DX}{T f g:DQ}
abbrev L5(p:Int)(m:Nat)(w:DV)(wd:DX)(T f g:DQ)(c6 c7 c8 c9 Oy:Cell):Ctx:=[.val (jX p m w wd T),.val (.lst (qH (m+1) wd f)),.val (.lst (qH (m+1) wd g)),vI p,.val (.tup (zX (m+1) λk=>(wd k:Int))),.val (.tup (xx m w wd T)),c6,c7,c8,c9,Oy]
theorem nu(h:k<n)(wd:DX)(f:DQ):(qH n wd f)[k]? = bB (qk (wd k) (wd k)<|f k):=by unfold qH;simp[h]
theorem lX(O:0<p)(M:p<=7)(L:m<=5)(Q:∀k,wd k<=60)(Z:∀k i j,k<m->i<f7 w wd k->j<fM w wd k->0<=T k i j/\T k i j<p)(z:∀k i j,k<m+1->i<wd k->j<wd k->0<=g k i j/\g k i j<p):
 qD [jX p m w wd T,.lst<|qH (m+1) wd f,.lst (qH (m+1) wd g)]=bB (.val<|jX p m w wd<|XA p w wd f g T):=by
 have H:=jb;have A:2<=lim:=⋯
 let V:=XA p w wd f g T;let γ:=L5 p m w wd T f g;refine dt λy=>?_;obtain⟨_,q,n,o,l,d,rfl⟩:=vZ (T:=.tp [7,8]) (F:=OM) (g:=λk=>D.tup [.int k,wW w wd T k]) (λs e=>∃n o l d,e=γ (.own<|xx s w wd V) n o l d) m ⟨_,_,_,_,rfl⟩ (by
  rintro s x _ ⟨n,o,l,d,rfl⟩;have U:=dU w x;have r:j6 (wW w wd T s)=bB (.T,[.str (jw<|fL<|w s),qk (f7 w wd s) (fM w wd s) (T s)]):=rfl;have E:s<lim:=⋯
  have bE:=Q<|jS w s;have G:=Q<|jV w s;have t:=vY w wd s;have I:=wY w wd s;have B:=nq (h:=wd<|jS w s) (m:=wd<|jS w s) (w:=wd<|jV w s) (f<|jS w s) (T s) O ⋯ ⋯ ⋯ λi j u J=>by have:=Z s i j x (by rw[t];exact u) (by rw[I];exact J);lia
  have Y:=nq (h:=wd<|jS w s) (m:=wd<|jV w s) (w:=wd<|jV w s) (λi b=>zm (λa=>f (jS w s) i a*T s a b) (wd<|jS w s)%p) (g<|jV w s) O ⋯ ⋯ ⋯ λi j u J=>by have:=z (jV w s) i j U u J;lia
  rw[show(λi j=>zm (λb=>(zm (λa=>f (jS w s) i a*T s a b) (wd<|jS w s)%p)*g (jV w s) b j) (wd<|jV w s)%p)=V s by
   funext i j;simp only[V,XA,Ui]]at Y
  let e:=γ (.own<|xx s w wd V) (vI s)<|.val<|wW w wd T s;refine⟨e l d,γ (.own<|xx (s+1) w wd V) (vI s) (.val<|wW w wd T s) (vI<|jV w s)<|.val<|.int<|jS w s,rfl,zu (γ':=e (vI<|jV w s) d) ?_ (zu (γ':=e (vI<|jV w s)<|.val<|.int<|jS w s) ?_ ?_),_,_,_,_,rfl⟩
  ·rw[<-(sJ w s)]
   simp[e,γ,L5,r,g5,aR]
  ·rw[<-(FF w s)]
   simp[e,γ,L5,r,g5,dH]
  ·rw[sP,show wW w wd V s=.tup [.str (jw<|fL<|w s),qk (wd<|jS w s) (wd<|jV w s) (V s)]by unfold wW;rw[t,I]]
   simp[e,γ,L5,r,kg,show g5 2 0=bB 0 from rfl,show g5 2 1=bB 1 from rfl,rV w x,U,nu,t,I,B,Y,A,E])
 refine y ?_;have C:PD (γ (.own []) .no .no .no .no)=bB (.next<|γ (.own<|xx m w wd V) n o l d):=by show J5 _ _ OM _=_;simp only[KU,show WN (zf 5) (γ (.own []) .no .no .no .no)=bB ((SF m).map λ(k:Nat)=>D.tup [.int k,wW w wd T k])from congrArg bB (yL m _)];exact q
 rw[qD];exact zQ (zu rfl<|zu rfl<|zu C<|by rfl)
end
section
variable{wd:DX}{N m k r:Nat}{A:Nat->eW}{p:Int}{w:DV}{T:DQ}{B:Nat->Vc}{l:DX}
theorem gM(l:DX)(g:Nat->D)(i:Nat):∀(L:List Nat),gN (L.map λj=>D.int<|(l j:Nat)) (L.map g) i=(L.find? λj=>l j==i).map g
 |[]=>rfl
 | j::L=>by
  simp only[Tw,gN,zt];by_cases h:l j=i
  ·simp[h]
  ·rw[DY ⋯,(gM l g i L)]
   have:(l j==i)=cT:=by simpa using h
   rw[this]
theorem aH(l:DX):∀L:List Nat,VR (L.map λj=>D.int<|(l j:Nat))=bB (L.map λj=>((l j):Int))
 |[]=>rfl
 |j::L=>by simp[VR,aH l L]
theorem lQ(I:gB p N r B l)(J:r<=lim):AZ ((SF r).map λj=>D.int<|(l j:Nat)) ((SF r).map λj=>D.tup<|zX N<|B j)=bB (.lp ((SF r).map λj=>D.int<|(l j:Nat))<|(SF r).map λj=>D.tup<|zX N<|B j):=by unfold AZ;rw[aH];dsimp only;rw[DJ];refine⟨by simp,?_,by simpa using J⟩;rw[List.nodup_iff_pairwise_ne,MV];refine P' (λ{a b} d O h=>?_) Rm;have:=I.mono a b h<|SJ.mp O;lia
theorem Wu(f g:Nat->D):∀L:List Nat,J1 (L.map λj=>D.tup [f j,g j])=bB (L.map f,L.map g)
 |[]=>rfl
 |j::L=>by simp[J1,Wu f g L]
theorem bw(h:k<(xx m w wd T).length):(xx m w wd T)[k]=wW w wd T k:=by simp[xx]
theorem KR(w wd T k):j6 (wW w wd T k)=bB (.T,[.str (jw<|fL<|w k),qk (f7 w wd k) (fM w wd k) (T k)]):=rfl
theorem dJ:qB ((SF N).map λj=>qY wd<|A j)=(SF N).map λ(i:Nat)=>D.tup [.int i,qY wd (A i)]:=by
 unfold qB
 simp_all
noncomputable def Gz(p:Int)(w:DV)(wd:DX)(T:DQ)(k:Nat)(u:Vc):Prop:=if w k=cm then Span p (wd k) (el (wd<|k+1) λj i=>T k i j) u else Dj p (wd<|k+1) (wd k) (T k) u
theorem iH(j:Pr p)(O:∀k,wd k<=16)(w)(T)(k:Nat):∃q g,q<=100/\(∀u,Span p (wd k) (el q g) u↔Gz p w wd T k u)/\
 (if w k=cm then J0 [.int p,qk (f7 w wd k) (fM w wd k) (T k)]=bB (.own<|jm q (wd k) g)else vh [.int p,qk (f7 w wd k) (fM w wd k) (T k)]=bB (.own<|jm q (wd k) g)):=by
 have f:=jb;have Q:=O k;have d:=O<|k+1;have Y:∀{r n:Nat} {B:Nat->Vc} {l:DX},gB p n r B l->r<=n:=λ{r n B l} I=>by
  have mono:∀k,k<r->k<=l k:=by
   intro k
   induction k with
   |zero=>lia
   |succ k Z=>intro Q;have:=Z ⋯;have:=I.mono k (k+1) ⋯ Q;lia
  cases r with
  |zero=>lia
  |succ U=>have:=mono U ⋯;have:=I.lt U ⋯;lia
 cases hw:w k with
 |true=>
  have a:f7 w wd k=wd k:=by unfold f7;rw[hw];rfl
  have J:fM w wd k=wd (k+1):=by unfold fM;rw[hw];rfl
  obtain⟨r,B,l,e,I,b⟩:=Y0 j (h:=wd k) (w:=wd<|k+1) ⋯ ⋯<|T k;refine⟨r,B,by have:=Y I;lia,λu=>by unfold Gz;rw[hw,DJ rfl];exact b u,?_⟩;rw[DJ rfl,a,J];exact e
 |false=>
  have a:f7 w wd k=wd (k+1):=by unfold f7;rw[hw];rfl
  have J:fM w wd k=wd k:=by unfold fM;rw[hw];rfl
  obtain⟨q,K,l,s,e,I,b,_⟩:=vg j (h:=wd<|k+1) (w:=wd k) ⋯ ⋯<|T k;refine⟨q,K,⋯,λu=>by unfold Gz;rw[hw,DY ⋯];exact b u,?_⟩;rw[DY ⋯,a,J];exact e
theorem iL(z:Pr p)(Y:∀j,j<N->(A j).s+(A j).n<=m+1)(M:∀j,j<N->(A j).has k=cm)(E:k<m)(hN:N<=16)(S:m<=5)(U:∀k,wd k<=16)(X:∀j r i,j<N->(A j).has r=cm->i<wd r->0<=(A j).v r i/\(A j).v r i<p):
 ∃r B l,gB p N r B l/\(∀t,Span p N (el r B) t↔Gz p w wd T k (app (λi j=>(A j).v k i) N t))/\
  K3 [jX p m w wd T,.int k,.lst ((SF N).map λj=>qY wd<|A j)]=bB (.own<|(SF N).map λi=>qY wd<|hO p A N r B l i):=by
 have hl:=jb;refine dt λR=>?_;obtain⟨q,g,K,x,Z⟩:=iH z U w T k;have as:=U k;obtain⟨r,B,l,F,I,P⟩:=Wd z (h:=wd k) (w:=N) ⋯ ⋯ K _ g;refine R ?_;refine⟨r,B,l,I,λt=>(P t).trans (x _),?_⟩;have Q:N<=lim:=⋯
 have ad:k<m+1:=⋯
 have zgB:=VG I.mono I.lt;have d:r<=lim:=⋯
 have f:=Zt (wd:=wd) (A:=A) (λj J=>by have:=Y j J;lia) Q k;rw[(List.filter_eq_self.mpr λj J=>M j<|SJ.mp J)]at f;have y:qW [.lst ((SF N).map λj=>qY wd<|A j),.int k]=bB (.own<|jm N (wd k) λj=>(A j).v k):=f;have G:zI (.nm 0) ja (kH<|zc (zA xn<|zc (zf 0) zG)<|zc (zf 0) zG) [.no] (jm r N B)=bB ((SF r).map λj=>D.tup [.int ((l j:Nat)),.tup (zX N<|B j)]):=by unfold jm;refine zl _ _ λj J=>zo rfl rfl ?_;have J:=SJ.mp J;simp[(wq Q (B j) (I.lt j J) (λi a=>I.l8 j i J a)<|by rw[I.one j J];decide)]
 let b:D:=.lp ((SF r).map λj=>D.int<|(l j:Nat)) ((SF r).map λj=>D.tup<|zX N<|B j);let L:D:=.lst ((SF N).map λj=>qY wd<|A j);have o:zI (.tp [0,1]) ja (ck (sB<|Hz (zf 0)<|zf 4) (zA Wc<|zc (zf 2)<|zc (zf 3)<|zc (Mv (zf 4)<|zf 0) zG)<|zf 1) [.no,.no,.val<|jX p m w wd T,.val L,.val b] ((SF N).map λ(i:Nat)=>D.tup [.int i,qY wd (A i)])=bB ((SF N).map λi=>qY wd<|hO p A N r B l i):=by
  refine zl _ _ λi a=>zo rfl rfl ?_;have a:=SJ.mp a;have O:=gM l (λj=>D.tup<|zX N<|B j) i<|SF r;have C:(SF r).find? (λj=>l j==i)=l0 r l i:=rfl;rw[C]at O;unfold hO;cases hx:l0 r l i with
  |none=>
   rw[hx]at O;simp[b,Hz,O]
  |some j=>
   rw[hx]at O;obtain⟨u,H⟩:=xM hx;have e:=Ap (T:=T) (w:=w) z Y ⋯ S (λk=>by have:=U k;lia) X a (λc W=>I.l8 j c u ⋯) (by rw[<-H,I.one j u];decide);simp[b,Hz,Mv,O,L,e]
 dsimp only[L,b]at o;have eq:=dH<|w k;refine zQ ?_;cases hw:w k<;>simp[hw]at Z eq<;>simp[zW,zZ,SI,J7,KR,bw,E,hw,eq,Z,ad,y,JV (h:=wd k) (λj=>(A j).v k) Q ⋯,F,z7,G,d,Wu (λj=>D.int<|(l j:Nat)) (λj=>D.tup<|zX N<|B j)<|SF r,lQ I d,dJ,Q,o]
end
noncomputable def oD(n:Nat):Option Vc->D
 |none=>.d9
 |some y=>.tup (zX n y)
theorem iJ(E:Pr p)(O:h<=190)(H:w<=190)(f:DW)(b:Vc)(J:∀i,i<h->0<=b i/\b i<p):
 ∃o,wO [.int p,qk h w f,.tup (zX h b)]=bB (.val<|oD w o)/\(∀x,o=bB x->(∀j,0<=x j/\x j<p)/\∀i,i<h->app f w x i%p=b i%p)/\(o=cI->¬∃y,∀i,i<h->app f w y i%p=b i%p):=by
 have Q:=λi a=>UG (J i a).1 (J i a).2;by_cases I:∃y,∀i,i<h->app f w y i%p=b i%p
 ·obtain⟨y,I⟩:=I
  obtain⟨x,e,C,Z⟩:=zec E O H f b y J λi a=>by rw[<-Q i a,<-I i a];rfl
  refine⟨bB x,e,λP u=>?_,λz=>by cases z⟩;cases u;exact⟨C,λi a=>by rw[Q i a];exact Z i a⟩
 ·refine dt λG=>?_;obtain⟨r,B,l,s,F,m,M,g,N,U⟩:=K0 E O H f b
  refine G ?_;rw[DJ (by
   refine dt λK=>I ?_;have A:s=r:=⋯
   subst A;refine⟨ig w B l s,λi a=>?_⟩;have d:=QU F ((m _).mpr (.gen ⟨i,a,rfl⟩)) w ⋯;have n:aug w f b i w=b i:=by simp[aug]
   rw[n]at d;rw[d];congr 1;unfold app ig;rw[zB λj _=>(jz _ _ _).symm,xC];refine zB λk Y=>?_;rw[zY (g k Y) λj L t=>by rw[DY (Tq t)];simp,DJ rfl];simp only[aug,DJ (g k Y)])]at U
  exact⟨cI,U,nofun,λ_=>I⟩
section
variable{wd:DX}{k:Nat}{p:Int}{w:DV}{T:DQ}
theorem KH(b:Bool):fh (.str (jw (fL b))) (.str "l")=bB (.bl b):=by cases b<;>kernel_rfl
theorem aq(z:Pr p)(Q:∀k,wd k<=16)(U:∀i j,i<f7 w wd k->j<fM w wd k->0<=T k i j/\T k i j<p)(u:Vc)(Y:∀i,i<wd k->0<=u i/\u i<p):
 ∃o,kX [.int p,wW w wd T k,.tup (zX (wd k) u)]=bB (.val<|oD (wd<|k+1) o)/\(∀y,o=bB y->∀c,c<wd (k+1)->0<=y c/\y c<p)/\
  (w k=cT->(o=cI->∀c,c<wd (k+1)->app (T k) (wd k) u c%p=0)/\∀y,o=bB y->(∀c,c<wd (k+1)->app (T k) (wd k) u c%p=y c%p)/\∃c,c<wd (k+1)/\y c%p≠0)/\
  (w k=cm->(o=cI->¬∃y,∀c,c<wd k->app (T k) (wd<|k+1) y c%p=u c%p)/\∀y,o=bB y->∀c,c<wd k->app (T k) (wd<|k+1) y c%p=u c%p):=by
 have r:=jb;have s:=z.le;have n:=Q k;have m:=Q<|k+1;cases hw:w k with
 |true=>
  have a:f7 w wd k=wd k:=by unfold f7;rw[hw];rfl
  have I:fM w wd k=wd (k+1):=by unfold fM;rw[hw];rfl
  obtain⟨o,Z,b,J⟩:=iJ z (w:=wd<|k+1) ⋯ ⋯ (T k) u Y;exact⟨o,zQ (by simp[zW,zZ,SI,KR,hw,KH cm,a,I,Z]),λy e c _=>(b y e).1 c,nofun,λ_=>⟨J,λy e=>(b y e).2⟩⟩
 | false=>
  have a:f7 w wd k=wd (k+1):=by unfold f7;rw[hw];rfl
  have I:fM w wd k=wd k:=by unfold fM;rw[hw];rfl
  rw[a,I]at U;let V:=λi=>zm (λj=>T k i j*u j) (wd k)%p;have O:=We (h:=wd<|k+1) (w:=wd k) .T (T k) u z.pos ⋯ ⋯ λi j g l=>by have:=U i j g l;lia
  simp only[p0]at O;have d:=eZ V<|wd<|k+1;cases hb:(SF<|wd<|k+1).any λi=>V i != 0 with
  |true=>
   obtain⟨c,b,J⟩:=S8.mp hb;exact⟨bB V,zQ (by simp[zW,zZ,SI,KR,hw,KH cT,a,I,O,GF,d,Nc,Rf,hb,V,oD]),(λy e c _=>by cases e;exact⟨TK _ (by have:=z.pos;lia),Tx _ z.pos⟩),λ_=>⟨nofun,(λy e=>by cases e;exact⟨(λc _=>by simp only[V,TZ];rfl),c,SJ.mp b,by simpa[V]using J⟩)⟩,nofun⟩
  |false=>
   exact⟨cI,zQ (by simp[zW,zZ,SI,KR,hw,KH cT,a,I,O,GF,d,Nc,Rf,hb,V,oD]),nofun,λ_=>⟨(λ_ c f=>by simpa[V,app]using (F9.mp hb c<|SJ.mpr f)),nofun⟩,nofun⟩
end
section
variable{wd:DX}{k:Nat}{p:Int}{w:DV}{T:DQ}
theorem AE(h:1<=n):g5 n (-1)=bB (n-1):=by
 unfold g5
 grind
theorem pV(e:b.s+b.n=k+1)(y:Vc):vW wd (lC k b<|some y)=vW wd b++[D.tup (zX (wd<|k+1) y)]:=by
 unfold vW lC;dsimp only;simp only[UO,Ue];congr 1
 ·refine Tp λi a=>?_
  have a:=SJ.mp a;rw[DY ⋯]
 ·simp[e]
theorem zd6(j:1<=b.n)(z:b.s+b.n=k+1)(Q:k<=20)(e:kX [.int p,wW w wd T k,.tup (zX (wd k)<|b.v k)]=bB (.val<|oD (wd<|k+1) o)):
 yN [.int p,wW w wd T k,qY wd b]=bB (.val<|qY wd<|lC k b o):=by
 have U:=jb;have I:=gz (wd:=wd) (b:=b) (i:=b.n-1) ⋯;rw[show b.s+(b.n-1)=k by lia]at I;rw[yN];refine zQ<|zu (γ':=[vI p,.val<|wW w wd T k,.val<|qY wd b,.val (oD (wd<|k+1) o)]) ?_ ?_
 ·unfold y_
  have a:di (zJ<|di (zk 2)<|sI 1) (fG<|sI 1) (zZ 4 [.int p,wW w wd T k,qY wd b])=bB (.tup<|zX (wd k)<|b.v k):=by have J:∀d,fG (sI 1) d=bB _:=λ_=>rfl;simp[zZ,SI,AE j,J];exact I
  simp only[ib,eC,wc,sW,a];simp[zZ,SI,e]
 ·cases o with
  |none=>rfl
  |some y=>
   have O:b.n+1<=lim:=⋯
   simp[z_,oD,LA,O,qw];unfold qY;rw[(pV (wd:=wd) z y)];rfl
noncomputable def tq(p:Int)(w:DV)(wd:DX)(T:DQ)(k:Nat)(L:List Vc):Prop:=
 if w k=cm then ∃q K l s,L=(SF q).map K/\gB p (wd<|k+1) q K l/\(∀v,Span p (wd<|k+1) (el q K) v↔Dj p (wd k) (wd<|k+1) (T k) v)/\Rk p (wd k) (wd<|k+1) (λj i=>T k i j) s/\q+s=wd (k+1)
 else ∃r B l,gB p (wd<|k+1) r B l/\(∀v,Span p (wd<|k+1) (el r B) v↔Span p (wd<|k+1) (el (wd k) λj i=>T k i j) v)/\L=((SF<|wd<|k+1).filter λ(c:Nat)=> !decide ((c:Int)∈(SF r).map λj=>((l j:Nat):Int))).map qo
theorem YQ(l:DX):∀L:List Nat,du (L.map λj=>D.int<|(l j:Nat))=bB (L.map λj=>((l j):Int))
 |[]=>rfl
 |j::L=>by simp[du,YQ l L]
theorem cC(I:gB p n r B l):r<=n:=by
 have mono:∀k,k<r->k<=l k:=by
  intro k
  induction k with
  |zero=>lia
  |succ k O=>intro Q;have:=O ⋯;have:=I.mono k (k+1) ⋯ Q;lia
 cases r with
 |zero=>lia
 |succ J=>have:=mono J ⋯;have:=I.lt J ⋯;lia
theorem rQ(n:Nat):qB (jm n n λi j=>if i=j then 1 else 0)=(SF n).map λ(i:Nat)=>D.tup [.int i,.tup (zX n<|qo i)]:=by unfold qB jm;simp only[Ta,Ut];refine Tp λi a=>?_;simp[(SJ.mp a)];rfl
theorem ar(z:Pr p)(U:∀k,wd k<=16):∃L,tq p w wd T k L/\Zy [.int p,wW w wd T k]=bB (.own<|L.map λy=>D.tup<|zX (wd<|k+1) y):=by
 have u:=jb;have t:=U k;have n:=U<|k+1;unfold tq;cases hw:w k with
 |true=>
  have a:f7 w wd k=wd k:=by unfold f7;rw[hw];rfl
  have O:fM w wd k=wd (k+1):=by unfold fM;rw[hw];rfl
  obtain⟨q,K,l,s,e,I,b,Y,Z⟩:=vg z (h:=wd k) (w:=wd<|k+1) ⋯ ⋯<|T k;exact⟨_,by rw[DJ rfl];exact⟨q,K,l,s,rfl,I,b,Y,Z⟩,zQ<|by simp[zW,zZ,SI,KR,hw,KH cm,a,O,e,jm]⟩
 | false=>
  have a:f7 w wd k=wd (k+1):=by unfold f7;rw[hw];rfl
  have O:fM w wd k=wd k:=by unfold fM;rw[hw];rfl
  obtain⟨r,B,l,e,I,b⟩:=Y0 z (h:=wd<|k+1) (w:=wd k) ⋯ ⋯<|T k;have x:=cC I;have f:r<=lim:=⋯
  have Q:wd (k+1)<=lim:=⋯
  refine⟨_,by rw[DY ⋯];exact⟨r,B,l,I,b,rfl⟩,?_⟩;have g:zI (.nm 0) ja (zA xn<|zc (zf 0) zG) [.no] (jm r (wd<|k+1) B)=bB ((SF r).map λj=>D.int<|(l j:Nat)):=by unfold jm;refine zl _ _ λj J=>zo rfl rfl ?_;have J:=SJ.mp J;simp[(wq Q (B j) (I.lt j J) (λi d=>I.l8 j i J d)<|by rw[I.one j J];decide)]
  have o:zI (.tp [0,1]) (sB<|cg (zf 0)<|zk 2) (zf 1) [.no,.no,.val (.lst<|(SF r).map λj=>D.int<|(l j:Nat))] ((SF<|wd<|k+1).map λ(i:Nat)=>D.tup [.int i,.tup (zX (wd<|k+1)<|qo i)]) =
   bB (((SF<|wd<|k+1).filter λ(c:Nat)=> !decide ((c:Int)∈(SF r).map λj=>((l j):Int))).map λi=>D.tup<|zX (wd<|k+1)<|qo i):=by
   refine jk _ _ _ λi d=>⟨_,rfl,?_,λ_=>rfl⟩;show((du _).map _).bind uu=_;rw[(YQ l _)];rfl
  have m:=we Q;refine zQ ?_;simp[zW,zZ,SI,KR,hw,KH cT,z7,a,O,e,f,g,ny,m,rQ,Q]
  simp_all
end
section
variable{wd:DX}{k r N:Nat}{p:Int}{w:DV}{T:DQ}{B:Nat->Vc}{l:DX}{A:Nat->eW}
theorem BY(J:gB p N r B l){j:Nat}(I:j<r):l0 r l (l j)=bB j:=by
 cases h:l0 r l (l j)with
 |none=>exact absurd rfl<|Xg h j I
 |some i=>
  obtain⟨a,O⟩:=xM h;rw[gu J.mono a I O]
theorem dh{a b:List Nat}(e:a.Nodup)(I:b.Nodup)(h:∀x,x∈a↔x∈b):a.length=b.length:=((List.perm_ext_iff_of_nodup e I).mpr h).length_eq
theorem V0(I:gB p N r B l):(SF N).countP (λi=>(l0 r l i).isSome)=r:=by
 rw[Uv];have e:((SF N).filter λi=>(l0 r l i).isSome).length=((SF r).map l).length:=by
  refine dh (S5.sublist R1) ?_ λx=>?_
  ·rw[List.nodup_iff_pairwise_ne,MV]
   refine P' (λ{a b} f O h=>?_) Rm;have:=I.mono a b h<|SJ.mp O;lia
  ·rw[TR,Tb]
   constructor
   ·rintro⟨d,J⟩
    obtain⟨j,Q⟩:=US.mp J;obtain⟨U,Y⟩:=xM Q;exact⟨j,SJ.mpr U,Y⟩
   ·rintro⟨j,d,J⟩
    have d:=SJ.mp d;subst J;exact⟨SJ.mpr<|I.lt j d,by rw[BY I d];rfl⟩
 rw[e];simp
theorem sr(q:DV)(N:Nat):(SF N).countP q+(SF N).countP (λi=> !q i)=N:=by
 have:=zcZ q (l:=SF N);rw[Ut]at this;rw[this];congr 1
 ·rw[<-this]
 ·rw[<-this]
  exact C7 λi _=>by simp
theorem Oe(I:∀j,j<N->(A j).has k=cm)(t:Vc)(c:Nat):n7 p A N t k c%p=app (λi j=>(A j).v k i) N t c%p:=by unfold n7 app;rw[TZ];congr 1;exact zB λj J=>by rw[DJ (I j J),Ui]
theorem JA(I:∀j,j<N->(A j).has k=cm)(h:l0 r l i=bB j)(c:Nat):(hO p A N r B l i).v k c%p=app (λi j=>(A j).v k i) N (B j) c%p:=by unfold hO;rw[h];exact Oe I (B j) c
theorem Vf(h:l0 r l i=cI):hO p A N r B l i=A i:=by unfold hO;rw[h]
theorem lY(S:Pr p)(H:∀k,wd k<=16)(L:∀j,j<wd k->(A j).has k=cm)(hs:∀v:Vc,∃t,∀i,i<wd k->v i%p=app (λi j=>(A j).v k i) (wd k) t i%p)
 (E:gB p (wd k) r B l) (hW:∀t,Span p (wd k) (el r B) t↔Gz p w wd T k (app (λi j=>(A j).v k i) (wd k) t)) {Z:List Vc} (Q:tq p w wd T k Z) {nx:Nat->Option Vc}
 (X:∀i,i<wd k->w k=cT->(nx i=cI->∀c,c<wd (k+1)->app (T k) (wd k) ((hO p A (wd k) r B l i).v k) c%p=0)/\∀y,nx i=bB y->(∀c,c<wd (k+1)->app (T k) (wd k) ((hO p A (wd k) r B l i).v k) c%p=y c%p)/\∃c,c<wd (k+1)/\y c%p≠0)
 (M:∀i,i<wd k->w k=cm->(nx i=cI->¬∃y,∀c,c<wd k->app (T k) (wd<|k+1) y c%p=(hO p A (wd k) r B l i).v k c%p)/\∀y,nx i=bB y->∀c,c<wd k->app (T k) (wd<|k+1) y c%p=(hO p A (wd k) r B l i).v k c%p):
 (∀y,y∈Z->∀c,c<wd (k+1)->0<=y c/\y c<p)/\(∀y,y∈Z->w k=cm->∀c,c<wd k->app (T k) (wd<|k+1) y c%p=0)/\
   (∀v,Span p (wd<|k+1) (λg=>(∃i,i<wd k/\nx i=bB g)\/g∈Z) v)/\(SF<|wd k).countP (λi=>(nx i).isSome)+Z.length=wd (k+1):=by
 have two:=S.two;cases hw:w k with
 | false=>
  have o:=λt=>by have:=hW t;unfold Gz at this;rw[hw,DY ⋯]at this;exact this
  unfold tq at Q;rw[hw,DY ⋯]at Q;obtain⟨n,B2,m,F,hI,U⟩:=Q;obtain⟨g1,g2,g3,C⟩:=Hk S (H k) (H<|k+1) hs E o F hI;have aw c:c<wd (k+1)->(∀j,j<n->m j≠c)->qo c∈Z:=λO Q=>by rw[U];refine Tb.mpr ⟨c,TR.mpr ⟨SJ.mpr O,?_⟩,rfl⟩;simp only[GG,decide_eq_false_iff_not,Tb,SJ];rintro⟨j,d,h⟩;exact Q j d ⋯
  have on i:i<wd k->(nx i).isSome=(l0 r l i).isNone:=λb=>by
   cases J:l0 r l i with
   | none=>
    obtain⟨c,d,h⟩:=g2 i b<|Xg J;cases I:nx i with
    |some y=>rfl
    |none=>
     have:=(X i b hw).1 I c d;rw[Vf J]at this;exact absurd this h
   | some j=>
    obtain⟨d,h⟩:=xM J;cases I:nx i with
    |none=>rfl
    |some y=>
     obtain⟨e,c,N,h4⟩:=(X i b hw).2 y I;have z:=g1 j d c N;rw[<-jR (λa _=>JA L J a) c,e c N]at z;exact absurd z h4
  refine⟨λy I c O=>?_,(λy I z=>by cases z),(C _ (λc O ad=>?_)<|λc O ad=>.gen (.inr<|aw c O ad)),?_⟩
  ·rw[U]at I
   obtain⟨i,_,rfl⟩:=Tb.mp I;unfold qo;lia
  ·have J:l0 r l c=cI:=by
    cases J:l0 r l c with
    |none=>rfl
    |some j=>exact absurd (xM J).2 (ad j (xM J).1)
   have f:=on c O;rw[J]at f;obtain⟨y,I⟩:=US.mp f;refine(Span.gen<|.inl ⟨c,O,I⟩).congr λi b=>?_;have:=((X c O hw).2 y I).1 i b;rw[Vf J]at this;exact this
  ·have x:(SF<|wd k).countP (λi=>(nx i).isSome)=(SF<|wd k).countP λi=> !(l0 r l i).isSome:=C7 λi b=>by
    rw[on i (SJ.mp b)];cases l0 r l i<;>simp
   have e2:=sr (λi=>(l0 r l i).isSome)<|wd k;rw[V0 E]at e2;have e3:=sr (λi=>(l0 n m i).isSome)<|wd<|k+1;rw[V0 F]at e3;have e4:Z.length=(SF<|wd<|k+1).countP λi=> !(l0 n m i).isSome:=by
    rw[U,Ta,<-Uv];refine C7 λi b=>?_;cases J:l0 n m i with
    |none=>
     have:=Xg J
     grind
    |some j=>
     obtain⟨d,h⟩:=xM J
     grind
   rw[x,e4];lia
 | true=>
  have o:=λt=>by have:=hW t;unfold Gz at this;rw[hw,DJ rfl]at this;exact this
  unfold tq at Q;rw[hw,DJ rfl]at Q;obtain⟨q,K,zgx,s,U,P,G,R,W⟩:=Q;obtain⟨g1,g2,g3,C⟩:=Hl S (H k) (H<|k+1) hs E o G R W;have on i:i<wd k->(nx i).isSome=(l0 r l i).isSome:=λb=>by
   cases J:l0 r l i with
   | none=>
    cases I:nx i with
    |none=>rfl
    |some y=>
     have:=(M i b hw).2 y I;rw[Vf J]at this;exact absurd ⟨y,this⟩<|g2 i b<|Xg J
   | some j=>
    obtain⟨d,h⟩:=xM J;cases I:nx i with
    |some y=>rfl
    |none=>
     obtain⟨y,b6⟩:=g1 j d;exact absurd ⟨y,λc O=>by rw[b6 c O,JA L J c]⟩<|(M i b hw).1 I
  refine⟨λy I c O=>?_,λy I _ c O=>?_,λv=>C _ (λj=>(nx<|l j).getD λ_=>0) (λj Y=>?_) (λj Y=>?_) v,?_⟩
  ·rw[U]at I
   obtain⟨j,Y,rfl⟩:=Tb.mp I;exact P.l4 j c (SJ.mp Y) O
  ·rw[U]at I
   obtain⟨j,Y,rfl⟩:=Tb.mp I;exact(G<|K j).mp (.gen ⟨j,SJ.mp Y,rfl⟩) c O
  ·have J:=BY E Y
   have u:=E.lt j Y;have f:=on (l j) u;rw[J]at f;obtain⟨y,I⟩:=US.mp f;rw[I];refine⟨.gen<|.inl ⟨l j,u,I⟩,λc O=>?_⟩;have:=(M (l j) u hw).2 y I c O;rw[JA L J c]at this;exact this
  ·refine .gen (.inr ?_)
   rw[U];exact Tb.mpr ⟨j,SJ.mpr Y,rfl⟩
  ·have x:(SF<|wd k).countP (λi=>(nx i).isSome)=(SF<|wd k).countP λi=>(l0 r l i).isSome:=C7 λi b=>by
    rw[on i (SJ.mp b)]
   simp only[x,V0 E,U,Ta,Ut];omega
end
section
variable{wd:DX}{m k:Nat}{p:Int}{w:DV}{T:DQ}
theorem Od(y:Vc):qY wd (p6 k y)=.tup [.int (k+1),.tup [.tup (zX (wd<|k+1) y)]]:=by rfl
theorem AL(H:Pr p)(O:∀k,wd k<=16)(hm:m<=5)(S:k<m)(hT:∀i j,i<f7 w wd k->j<fM w wd k->0<=T k i j/\T k i j<p){E:List eW}(I:uP p w wd T k E)(X:E.length<=100):
 ∃M,uP p w wd T (k+1) M/\M.length<=E.length+wd (k+1)/\Wg [jX p m w wd T,.int k,.lst (E.map<|qY wd)]=bB (.val<|.lst<|M.map<|qY wd):=by
 have hl:=jb;have K:=H.pos;have P:E.length<=lim:=⋯
 have n:(E.filter λb=>b.has k).length=wd k:=by rw[<-Uv];exact I.ct k<|SN _
 let A:=λj=>(E.filter λb=>b.has k).getD j tJ;have F:(E.filter λb=>b.has k)=(SF<|wd k).map A:=by rw[<-n];exact(ju tJ _).symm
 have G j:j<wd k->A j∈E/\(A j).has k=cm:=λJ=>by
  have:A j∈E.filter λb=>b.has k:=by show(E.filter λb=>b.has k).getD j tJ∈_;rw[kr,SH ⋯];exact MZ _
  have:=TR.mp this;exact⟨this.1,by simpa using this.2⟩
 have s:=λj J=>I.ok _ (G j J).1;have Y:=λj J=>(G j J).2;refine dt λkZ=>?_;obtain⟨r,B,l,u,hW,eS⟩:=iL (T:=T) (w:=w) (A:=A) (N:=wd k) (k:=k) H (λj J=>by have:=(s j J).le;lia) Y S (O k) hm O λj rm i J hh a=>(s j J).l4 rm i hh a;have ji i:i<wd k->o9 p w wd T k (hO p A (wd k) r B l i):=λa=>BA K u s Y (λi c f Z=>by show Ord w ((E.filter λb=>b.has k).getD i tJ) ((E.filter λb=>b.has k).getD c tJ);rw[kr,SH ⋯,kr,SH ⋯];exact(MJ.mp I.od i c ⋯ ⋯ f)) a
 have a8 i:i<wd k->(hO p A (wd k) r B l i).has k=cm:=λa=>by rw[bV];exact Y i a
 have ex:∀i,∃o:Option Vc,i<wd k->(kX [.int p,wW w wd T k,.tup (zX (wd k)<|(hO p A (wd k) r B l i).v k)]=bB (.val<|oD (wd<|k+1) o)/\(∀y,o=bB y->∀c,c<wd (k+1)->0<=y c/\y c<p)/\
  (w k=cT->(o=cI->∀c,c<wd (k+1)->app (T k) (wd k) ((hO p A (wd k) r B l i).v k) c%p=0)/\∀y,o=bB y->(∀c,c<wd (k+1)->app (T k) (wd k) ((hO p A (wd k) r B l i).v k) c%p=y c%p)/\∃c,c<wd (k+1)/\y c%p≠0)/\
  (w k=cm->(o=cI->¬∃y:Vc,∀c,c<wd k->app (T k) (wd<|k+1) y c%p=(hO p A (wd k) r B l i).v k c%p)/\∀y,o=bB y->∀c,c<wd k->app (T k) (wd<|k+1) y c%p=(hO p A (wd k) r B l i).v k c%p)):=λi=>by
  by_cases a:i<wd k
  ·obtain⟨o,h⟩:=aq (T:=T) (w:=w) (k:=k) H O hT ((hO p A (wd k) r B l i).v k) λc hc=>(ji i a).l4 k c (a8 i a) hc
   exact⟨o,λ_=>h⟩
  ·exact⟨cI,λz=>absurd z a⟩
 obtain⟨nx,U⟩:=PZ ex;obtain⟨Q,hN,eN⟩:=ar (T:=T) (w:=w) (k:=k) H O;obtain⟨f1,f2,f3,f4⟩:=lY (T:=T) (w:=w) (A:=A) H O Y (λv=>by
  obtain⟨t,ht⟩:=WG ((I.sp k (SN _) v).le λg hg=>by obtain⟨b,f,Z,rfl⟩:=hg;have C:b∈E.filter λb=>b.has k:=TR.mpr ⟨f,by simpa using Z⟩;rw[F]at C;obtain⟨j,J,rfl⟩:=Tb.mp C;exact .gen ⟨j,SJ.mp J,rfl⟩)
  exact⟨t,λi a=>by rw[ht i a];unfold app;rw[xE]⟩) u hW hN (nx:=nx) (λi a=>(U i a).2.2.1) λi a=>(U i a).2.2.2
 refine kZ ?_;refine⟨Ji p k w E A (wd k) r B l nx Q,rL K I n (λ_=>rfl) u (λi y a e=>(U i a).2.1 y e) f1 (λi a e d=>((U i a).2.2.1 d).1 e) (λi y a e d=>(((U i a).2.2.1 d).2 y e).1) (λi y a e d=>((U i a).2.2.2 d).2 y e) f2 f3 f4,?_,?_⟩
 ·have f:(E.filter λb=> !b.has k).length+wd k=E.length:=by
   rw[<-n,<-Uv,<-Uv,(zcZ (λb:eW=>b.has k) (l:=E))];have e:E.countP (λb=> !b.has k)=E.countP λb=>decide (¬b.has k=cm):=C7 λb _=>by simp
   rw[e];lia
  unfold Ji;rw[Tt];cases w k<;>simp<;>lia
 ·
  let L:D:=.lst (E.map<|qY wd);have e3:zI (.nm 0) (kc<|sB<|zA jW<|zc (zf 0)<|zc (zf 1) zG) (zf 0) [.no,vI k] (E.map<|qY wd)=bB ((E.filter λb=> !b.has k).map (qY wd)):=by refine jk (g:=qY wd) (λb=> !b.has k) (qY wd) E λb x=>⟨[.val (qY wd b),vI k],rfl,?_,λ_=>by rfl⟩;have e:=vc (wd:=wd) (b:=b) (by have:=(I.ok b x).le;lia) k;simp[e]
  have e4:zI (.nm 0) (sB<|zA jW<|zc (zf 0)<|zc (zf 1) zG) (zf 0) [.no,vI k] (E.map<|qY wd)=bB ((SF<|wd k).map λj=>qY wd<|A j):=by
   have:((E.filter λb=>b.has k).map (qY wd))=(SF<|wd k).map λj=>qY wd (A j):=by rw[F,Tn];rfl
   rw[<-this];refine jk (g:=qY wd) (λb=>b.has k) (qY wd) E λb x=>⟨[.val (qY wd b),vI k],rfl,?_,λ_=>by rfl⟩;have e:=vc (wd:=wd) (b:=b) (by have:=(I.ok b x).le;lia) k;simp[e]
  have e5:zI (.nm 0) ja (zA yN<|zc (zf 1)<|zc (zf 2)<|zc (zf 0) zG) [.no,vI p,.val (wW w wd T k)] ((SF<|wd k).map λi=>qY wd<|hO p A (wd k) r B l i)=bB ((SF<|wd k).map λi=>qY wd<|lC k (hO p A (wd k) r B l i)<|nx i):=by refine zl _ _ λi a=>zo rfl rfl ?_;have a:=SJ.mp a;have f:=ix.mp<|a8 i a;have e:=zd6 (p:=p) (ji i a).n1 (by have:=(ji i a).le;lia) (⋯:k<=20) (U i a).1;simp[e]
  have e6:zI (.nm 0) ja (kH<|zc (zD qw (zf 1)<|sI 1)<|zc (kH<|zc (zf 0) zG) zG) [.no,vI k] (Q.map λy=>D.tup<|zX (wd<|k+1) y)=bB ((Q.map<|p6 k).map (qY wd)):=by rw[Tn];refine zl _ _ λy hy=>zo rfl rfl ?_;show _=bB (qY wd<|p6 k y);rw[Od];rfl
  have R:Q.length<=lim:=by have:=O<|k+1;lia
  have W:wd k<=lim:=by have:=O k;lia
  have bl:(E.filter λb=> !b.has k).length<=100:=Tf (Ro _ _) X;have q1:=O k;have q2:=O<|k+1;have f:Q.length+wd k<=lim:=⋯
  have Z:(E.filter λb=> !b.has k).length+(Q.length+wd k)<=lim:=⋯
  have h3:wd k+Q.length<=lim:=⋯
  have h4:(E.filter λb=> !b.has k).length+(wd k+Q.length)<=lim:=⋯
  have eq:=dH<|w k;refine zQ ?_;simp[zW,zZ,SI,J7,bw,S,z7,P,e3,e4,eS,W,e5,eN,R,e6];cases d:w k<;>simp[d]at eq<;>simp[KR,d,eq,Ji,f,Z,h3,h4]
end
section
variable{wd:DX}{m k:Nat}{p:Int}{w:DV}{T:DQ}
noncomputable def GJ(c:Nat):eW:=⟨0,1,λ_=>qo c⟩
theorem Fx(e:Pr p):uP p w wd T 0 ((SF<|wd 0).map GJ):=by
 have two:=e.two;have a:∀b,b∈_ ↔ ∃c,c<wd 0/\b=GJ c:=λb=>by rw[Tb];exact⟨λI=>by obtain⟨c,d,J⟩:=I;exact⟨c,SJ.mp d,J.symm⟩,λI=>by obtain⟨c,d,J⟩:=I;exact⟨c,SJ.mpr d,J.symm⟩⟩
 have U c:(GJ c).has 0=cm:=ix.mpr ⟨SN _,by show 0<0+1;lia⟩;refine⟨λb O=>?_,λr Y v=>?_,λr Y=>?_,?_⟩
 ·obtain⟨c,Q,rfl⟩:=(a b).mp O
  exact⟨SN _,by show 0+1<=0+1;lia,λr i _ _=>by show 0<=qo c i/\qo c i<p;unfold qo;lia,λj f=>by lia⟩
 ·have:r=0:=⋯
  subst this;refine(aO (wd 0) v).le λg Z=>?_;obtain⟨c,Q,rfl⟩:=Z;exact .gen ⟨GJ c,(a _).mpr ⟨c,Q,rfl⟩,U c,rfl⟩
 ·have:r=0:=⋯
  subst this;rw[List.countP_eq_length.mpr λb O=>?_]
  ·simp
  grind
 ·refine N_ _ ?_
  rw[MV];exact MJ.mpr λ_ _ _ _ _=>⟨λz=>absurd z<|Uh 0,λz=>absurd z<|Uh 0⟩
noncomputable def Wl(b:eW):Int×Int:=((b.s:Int),((b.s+b.n-1:Nat):Int))
theorem pZ:∀e:List eW,(∀b,b∈e->1<=b.n/\b.s+b.n<=100)->dq j1 (e.map<|qY wd)=bB (e.map Wl)
 |[],_=>rfl
 |b::e,h=>by have a:=h b SO;simp only[Tw,dq,Yt (wd:=wd) a.1 a.2,pZ e λb I=>h b<|SQ _ I,SR];rfl
noncomputable def kG(e:List eW):List eW:=(qS<|e.map Wl).map λi=>e.getD i tJ
theorem XH(e:List eW):(kG e).Perm e:=by have h:=jN<|e.map Wl;rw[Ta]at h;have:=h.map λi=>e.getD i tJ;rw[ju]at this;exact this
theorem WI(e:List eW):(kG e).map Wl=ya (e.map Wl):=by unfold kG ya;rw[Tn];refine Tp λi a=>?_;have a:=SJ.mp<|(jN<|e.map Wl).mem_iff.mp a;rw[Ta]at a;simp[a]
theorem V9{b:Nat}(E:Pr p)(J:b<=16)(H:b*(m+1)<=48)(O:∀k,wd k<=b)(U:m<=5)(Y:∀k i j,k<m->i<f7 w wd k->j<fM w wd k->0<=T k i j/\T k i j<p):
 ∃z,uP p w wd T m z/\z.length<=48/\vo [jX p m w wd T]=bB (.own<|(kG z).map (qY wd)):=by
 have G:=jb;have C:=O 0;have Q:wd 0<=lim:=⋯
 have Z:j6 (qk (wd 0) (wd 0) λi j=>if i=j then 1 else 0)=bB _:=rfl;have t:zI (.nm 0) ja (kH<|zc (sI 0)<|zc (kH<|zc (zf 0) zG) zG) [.no] (jm (wd 0) (wd 0) λi j=>if i=j then 1 else 0)=bB (((SF<|wd 0).map GJ).map (qY wd)):=by rw[Tn];unfold jm;refine zl _ _ λi a=>zo rfl rfl ?_;rfl
 have u:N9 (zZ 3 [jX p m w wd T])=bB (.next [.val (jX p m w wd T),.val<|.lst<|((SF<|wd 0).map GJ).map (qY wd),.no]):=by simp[N9,zZ,SI,J7,we Q,Z,z7,Q];rw[t];simp
 obtain⟨y,x,z,c,I,n,rfl⟩:=JP (T:=.nm 2) (F:=jy 1<|zA Wg<|zc (zf 0)<|zc (zf 2)<|zc (zf 1) zG) (f:=XN<|zJ<|di (zk 0)<|sI 2)
  (λj h=>∃z c,uP p w wd T j z/\z.length<=b*(j+1)/\h=[.val (jX p m w wd T),.val<|.lst<|z.map<|qY wd,c]) m ⋯
  (by simp[J7]) ⟨_,_,Fx E,by simp;omega,rfl⟩ λs g h d=>by obtain⟨z,c,I,n,rfl⟩:=d;obtain⟨o,l,B,e⟩:=AL E (λk=>Tf (O k) J) U g (Y s · · g) I (by have:=W_ b (⋯:s+1<=m+1);lia);refine⟨_,[_,_,vI s],rfl,?_,o,_,l,by grind,rfl⟩;simp[e]
 refine⟨z,I,⋯,?_⟩;rw[vo];refine zQ<|zu u<|zu x ?_;have r:z.length<64:=⋯
 unfold a_;have A:nR j1 (zk 1) [.val (jX p m w wd T),.val<|.lst<|z.map<|qY wd,c]=bB ((kG z).map (qY wd)):=by show((dq j1 _).bind _)=_;rw[(pZ (wd:=wd) z λb J=>⟨(I.ok b J).n1,by have:=(I.ok b J).le;lia⟩)];simp only[SR,Ta,r,if_true];congr 1;unfold kG;rw[Tn];refine Tp λi a=>?_;have a:=SJ.mp<|(jN<|z.map Wl).mem_iff.mp a;rw[Ta]at a;simp[a]
 simp_all
theorem uP.perm(h:Ov.Perm m7)(I:uP p w wd T k m7):(∀b,b∈Ov->o9 p w wd T k b)/\(∀r,r<=k->∀v,Span p (wd r) (Rv Ov r) v)/\∀r,r<=k->Ov.countP (λb=>b.has r)=wd r:=by
 refine⟨λb O=>I.ok b<|h.mem_iff.mp O,λr J v=>(I.sp r J v).le λg Q=>?_,λr J=>?_⟩
 ·obtain⟨b,a,U,Y⟩:=Q
  exact .gen ⟨b,h.mem_iff.mpr a,U,Y⟩
 ·rw[h.countP_eq];exact I.ct r J
end
abbrev TB:=Nat×Nat×(Nat->Nat->Int)
noncomputable def tD(t:TB):D:=qk t.1 t.2.1 t.2.2
theorem JN(bs):i5 (.lst<|zN bs)=cm:=gi (n:=2) (by
 simp only[deep];have:t4 (zN bs)<=1:=Xi λd a=>by simp only[zN,Tb]at a;obtain⟨b,_,rfl⟩:=a;simp[deep,t4]
 lia) ⋯ (by
 simp only[ji];exact VF λd a=>by simp only[zN,Tb]at a;obtain⟨b,_,rfl⟩:=a;rfl)
noncomputable def A?:TB:=(0,0,λ_ _=>0)
noncomputable def xT(bs:List (Int×Int))(e j:List TB):D:=.tup [.lst (zN bs),.lst<|e.map tD,.lst (j.map tD)]
section
variable{ts:List TB}
noncomputable def fT(ts:List TB)(k:Nat):Nat->Nat->Int:=(ts.getD k A?).2.2
end
noncomputable def C_:=(zV (jy 7<|zA jI<|zc (zf 0)<|zc (zD qw (zf 1)<|zf 6) zG)<|zV (jy 8<|zD yi (zf 7)<|zf 3)<|zV (jy 9<|zD yi (zD VX (zf 7)<|zf 3)<|zf 3)<|zV (jy 10<|zD qw (sI 1)<|zD yi (zD VX (zf 7)<|sI 97)<|zD QI (zf 2)<|sI 1) FG)
theorem CK:B_=J5 (jr<|zD ve (sI 3)<|zf 3) (.nm 6) C_:=rfl
section
variable{p:Int}{n:Nat}
theorem mY(H:Pr p)(L:n<=60)(h:Pair p n f g)(I:u<n)(U:o<n)(ht:1<=tm/\tm<p)(e Z E M S:Cell):
 ∃X g' c11 am,Pair p n X g'/\FG [e,Z,vI p,vI n,.own<|xw n f,.nest<|yx n g,E,vI cell,vI u,vI o,vI tm,M,S,.no,.no]=bB (.next [e,Z,vI p,vI n,.own<|xw n X,.nest<|yx n g',E,vI cell,vI u,vI o,vI tm,c11,am,.no,.no]):=by
 have W:=jb;have L:n<=lim:=⋯
 have Q:=H.pos;have p7:=H.le;have one:=H.one;have l:∀z:Int,0<=z%p/\z%p<p:=λz=>⟨TK _ ⋯,Tx _ Q⟩;have r x:bK tm x=cm:=vt _ _ ⋯ ⋯;by_cases d:u=o
 ·subst d
  have w:zI (.nm 0) (sB<|zD fh (zD yi (zD ve (zf 0)<|zf 2)<|zf 1)<|sI 1) (zf 0) [Cell.no,vI p,vI tm] (zX p.toNat λi=>(i:Int))=bB (((SF p.toNat).filter λ(i:Nat)=>decide<|(i:Int)*tm%p=1).map λ(i:Nat)=>D.int (i:Int)):=by rw[z6];refine jk _ _ _ λi a=>⟨_,rfl,?_,λ_=>rfl⟩;have F:=SJ.mp a;simp[vt i tm ⋯ ⋯,Q]
  obtain⟨y0,G,K,N⟩:=Cf H ⋯ ht.2;cases hg:(SF p.toNat).filter λ(i:Nat)=>decide (i*tm%p=1)with
  |nil=>
   simp_all
  | cons b P=>
   obtain⟨R,A,_⟩:=QH hg;rw[hg]at w;have ad:=by simpa using A
   have T:=⋯
   refine⟨λi j=>if i=u then tm*f u j%p else f i j,λi j=>if j=u then g i u*b%p else g i j,vI b,.no,⟨λi j a J=>?_,λi j a J=>?_,?_,?_⟩,?_⟩
   ·split
    exact l _;exact h.bf i j a J
   ·split
    exact l _;exact h.bg i j a J
   ·refine iy (u:=u) (by rw[Ui,ad,one]) h.fg (λi k _ _=>?_) (λk j _ _=>?_)<;>split<;>simp_all[Ui]
   ·refine bO (u:=u) (by rw[ad,one]) h.gf (λi k _ _=>?_) (λk j _ _=>?_)<;>split<;>simp_all[Ui]
   ·have m:zI (.nm 0) ja (zD yi (zD ve (zf 2)<|zf 0)<|zf 1) [Cell.no,vI p,vI tm] (zX n<|f u)=bB (zX n λj=>tm*f u j%p):=by
     simp only[z6,z6];exact zl _ _ λj J=>zo rfl rfl (by simp[r,Q])
    have s:∀Y:Cell,ku 5 12 (zf 8) (zD yi (zD ve (di (zk 12)<|zf 8)<|zf 11)<|zf 2) [e,Z,vI p,vI n,Y,.nest<|yx n g,E,vI cell,vI u,vI u,vI tm,vI b,S,.no,.no] (yx n g)=bB (yx n λi j=>if j=u then g i u*(b:Int)%p else g i j):=λY=>by
     unfold yx;refine JU _ λk y=>⟨.int<|g k u*b%p,u,u,?_,rfl,?_,KJ I _ _ _ ⋯ λi _ O=>by simp[O]⟩
     ·have q:=h.bg k u (SJ.mp y) I
      simp[vq,I,vt (g k u) b ⋯ ⋯,Q]
     ·simp[I]
    have B:inR p=cm:=yK ⋯ ⋯;have C:p.toNat<=lim:=⋯
    simp[FG,D',zW,I,L,z7,SI,m,WS I f (λi j=>if i=u then tm*f u j%p else f i j) (λj=>tm*f u j%p) (λj _=>by simp) (λi j _ O _=>by simp[O]),s,B,j9,C,w]
 ·refine⟨λi j=>if i=o then (f o j+tm*f u j)%p else f i j,λi j=>if j=u then (g i u-tm*g i o)%p else g i j,M,.no,⟨λi j a J=>?_,λi j a J=>?_,?_,?_⟩,?_⟩
  ·split
   exact l _;exact h.bf i j a J
  ·split
   exact l _;exact h.bg i j a J
  ·refine zd2 (t:=tm) U I (Tq d) h.fg (λi k _ _=>?_) (λk j _ _=>?_)<;>split<;>simp_all[Int.sub_eq_add_neg,Int.neg_mul]
  ·refine mW (t:=tm) U I (Tq d) h.gf (λi k _ _=>?_) (λk j _ _=>?_)<;>split<;>simp_all[Int.sub_eq_add_neg,Int.neg_mul]
  ·have m:zI (.tp [0,1]) ja (zD yi (zD qw (zf 0)<|zD ve (zf 3)<|zf 1)<|zf 2) [Cell.no,Cell.no,vI p,vI tm] ((SF n).map λj=>D.tup [.int (f o j),.int (f u j)])=bB (zX n λj=>(f o j+tm*f u j)%p):=by
    rw[z6];exact zl _ _ λj J=>zo rfl rfl (by simp[r,Q])
   have s:∀Y:Cell,ku 5 12 (zf 8) (zD yi (zD QI (di (zk 12)<|zf 8)<|zD ve (zf 10)<|di (zk 12)<|zf 9)<|zf 2) [e,Z,vI p,vI n,Y,.nest<|yx n g,E,vI cell,vI u,vI o,vI tm,M,S,.no,.no] (yx n g)=bB (yx n λi j=>if j=u then (g i u-tm*g i o)%p else g i j):=λY=>by
    unfold yx;refine JU _ λk y=>⟨.int<|(g k u-tm*g k o)%p,u,u,?_,rfl,?_,KJ I _ _ _ ⋯ λi _ O=>by simp[O]⟩
    ·simp[vq,I,U,r,Q]
    ·simp[I]
   have as:¬((u:Int)=(o:Int)):=⋯
   simp[FG,C',zW,d,as,I,U,L,z7,SI,ZE,m,WS U f (λi j=>if i=o then (f o j+tm*f u j)%p else f i j) (λj=>(f o j+tm*f u j)%p) (λj _=>by simp) (λi j _ O _=>by simp[O]),s]
end
section
variable{p:Int}{n:Nat}
theorem Ha(M:ns.length<=63)(E:Pr p)(hn:n<=60)(h0:0<=at')(h1:at'<=10000):
 ∃f g,Pair p n f g/\xo [Wm ns,.int at',.int p,.int n]=bB (.own [qk n n f,qk n n g]):=by
 have hl:=jb;have J:n<=lim:=⋯
 have zgz:=E.pos;have two:=E.two;have p7:=E.le;have one:=E.one;have Y:∀i:Nat,zI (.nm 0) ja (ZM<|zD fh (zf 1)<|zf 0) [Cell.no,vI i] ((SF n).map λ(j:Nat)=>D.int j)=bB (zX n<|mu i):=λi=>by
  rw[z6];refine zl _ _ λj hj=>zo rfl rfl ?_;by_cases e:i=j
  ·subst e;simp[mu]
  ·have e':¬((i:Int)=(j:Int)):=⋯
   simp[mu,e,e']
 have b6:zI (.nm 0) ja (j5<|zM (jr<|zf 1) (.nm 0) 1 [0] ja (ZM<|zD fh (zf 1)<|zf 0)) [Cell.no,vI n] ((SF n).map λ(j:Nat)=>D.int j)=bB (xw n mu):=by unfold xw;refine zl _ _ λi B=>zo rfl rfl ?_;simp[J,j9,z7,SI];rw[z6 n λi=>i,Y]
 have N:Zv (.nm 0) (zM (jr<|zf 1) (.nm 0) 1 [0] ja (ZM<|zD fh (zf 1)<|zf 0)) [Cell.no,vI n] ((SF n).map λ(j:Nat)=>D.int j)=bB (yx n mu):=by unfold yx;refine aW _ λi B=>⟨_,rfl,?_⟩;simp[J,j9,z7,SI];rw[z6 n λi=>i,Y]
 let γ:Cell->Cell->Cell->Cell->Cell->Cell->Cell->Cell->Cell->Cell->Cell->Ctx:=λa b c d e f g h i j k=>[.val (Wm ns),vI at',vI p,vI n,a,b,c,d,e,f,g,h,i,j,k];have s2:O2 (γ (.own<|xw n mu) .no .no .no .no .no .no .no .no .no .no)=bB (.next<|γ (.own<|xw n mu) (.nest<|yx n mu) .no .no .no .no .no .no .no .no .no):=by simp[O2,J,j9,z7,SI,γ];simp only[z6 n λi=>i,N];rfl
 have X:bK 3 (n:Int)=cm:=vt _ _ ⋯ ⋯;refine dt λkZ=>?_;obtain⟨_,Z,f,g,A,z,y,w,l,r,I,O,rfl⟩:=JP (T:=.nm 6) (F:=C_) (f:=zD ve (sI 3)<|zf 3)
  (λt x=>∃f g A z y w l r I,Pair p n f g/\x=γ (.own<|xw n f) (.nest<|yx n g) A z y w l r I .no .no)
  (3*n) ⋯ (by
    have:((3*n:Nat):Int)=3*(n:Int):=⋯
    rw[this];simp[X,γ]) ⟨mu,mu,_,_,_,_,_,_,_,by
  have b:∀i j:Nat,i<n->j<n->0<=mu i j/\mu i j<p:=λi j _ _=>by unfold mu;split<;>lia
  have u:Xv p n mu mu:=λi j B hj=>by rw[zY B λk _ P=>by unfold mu;rw[DY (Tq P)];simp];simp[mu]
  exact⟨b,b,u,u⟩,rfl⟩ (by
   rintro t ht _ ⟨f,g,A,z,y,w,l,r,I,O,rfl⟩;have H:(0:Int)<(n:Int):=⋯
   obtain⟨G,L,W⟩:=V3 M (k:=at'+(t:Int)) ⋯ ⋯;generalize JW ns (at'+t)=cell at G L W;obtain⟨u,eu,hu⟩:=YK (m:=cell) (n:Int) H;obtain⟨o,eo,ho⟩:=YK (m:=cell/(n:Int)) (n:Int) H;have bb:=TK (cell/97) (⋯:p-1≠0);have bd:=Tx (cell/97) (⋯:0<p-1);obtain⟨f',g',be,bf,R,es⟩:=mY E hn O (u:=u) (o:=o) (tm:=1+cell/97%(p-1)) (cell:=cell) ⋯ ⋯ ⋯ (.val<|Wm ns) (vI at') (.val<|.int t) r I;have C:0<n:=⋯
   have nb:(n:Int)<1073741824:=⋯
   have pm:1<p:=⋯
   let x:Cell->Cell->Cell->Cell->Ctx:=λa b c d=>γ (.own<|xw n f) (.nest<|yx n g) (vI t) a b c d r I .no .no;exact⟨x z y w l,_,rfl,zu (γ':=x (vI cell) y w l) (by simp[x,γ,G])<|zu (γ':=x (vI cell) (.val<|.int u) w l) (by simp[x,γ,C,eu])<|zu (γ':=x (vI cell) (.val<|.int u) (vI o) l) (by simp[x,γ,C,nb,eo])<|zu (γ':=x (vI cell) (.val<|.int u) (vI o)<|.val<|.int<|1+cell/97%(p-1)) (by simp[x,γ,pm]) es,f',g',_,_,_,_,_,_,_,R,rfl⟩)
 refine kZ ?_;rw[<-CK]at Z;refine⟨f,g,O,?_⟩;have S:∀h:DW,zI (.nm 0) ja (jg<|zk 0) [Cell.no] (xw n h)=bB (jm n n h):=λh=>by unfold xw jm;refine zl _ _ λi B=>zo rfl rfl ?_;simp
 have K:∀(s:List D) (h:DW) (Q U:Cell),s.length<=1->(qf 13<|kH<|zc (zf 3)<|zc (zf 3)<|zc (jg<|je<|zM (zH<|zk 14) (.nm 0) 1 [] ja (jg<|zk 0)) zG) (γ Q U A z y w l r I (.own s)<|.val<|.lst<|xw n h)=bB (.next<|γ Q U A z y w l r I (.own<|s++[qk n n h])<|.val<|.lst<|xw n h):=λs h Q U ha=>by
  have la:s.length<lim:=⋯
  have rl:(xw n h).length<=lim:=by rw[oi];lia
  have l3:3<=lim:=⋯
  simp[γ,rl,J,z7,S,l3,la,qk]
 rw[xo];exact zQ (zu (by
  simp[A_,zZ,J,j9,z7,SI,γ];assumption) (zu s2 (zu Z (zu rfl (zu (by
  show yd (.nm 14) _ [.lst (xw n f),.lst ((yx n g).map D.lst)] (γ (.val<|.lst<|xw n f) (.val<|.lst<|(yx n g).map D.lst) A z y w l r I (.own []) .no)=_;rw[oh,xI];show Nh (qf 13 _<|γ _ _ A z y w l r I (.own [])<|.val<|.lst<|xw n f) _=_;rw[K [] f _ _ ⋯];show Nh (qf 13 _<|γ _ _ A z y w l r I (.own [qk n n f])<|.val<|.lst<|xw n g) _=_;rw[K [qk n n f] g _ _ (SN 1)];rfl) rfl)))))
end
noncomputable def hC(bs:List (Int×Int))(k:Nat):Nat:=(qV bs k).length
noncomputable def LH(w:DV)(bs:List (Int×Int))(k i j:Nat):Int:=if (qV bs<|jS w k).getD i 0=(qV bs<|jV w k).getD j 0 then 1 else 0
theorem nz(e b:List Nat):Hh e b=qk e.length b.length λi j=>if e.getD i 0=b.getD j 0 then 1 else 0:=by
 have h:∀{a:Type} (g:Nat->a) (l:List Nat),l.map g=(SF l.length).map λi=>g _:=λg l=>by
  conv=>lhs;rw[<-ju 0 l]
  rw[Tn];rfl
 unfold Hh qk jm zX
 grind
theorem Me(p:Int)(m:Nat)(w:DV)(bs:List (Int×Int)):BR p m w bs=jX p m w (hC bs) (LH w bs):=by
 have e:V5 m w bs=xx m w (hC bs) (LH w bs):=by unfold V5 xx;refine Tp λk _=>?_;rw[nz];unfold wW;simp only[vY,wY];rfl
 unfold BR jX;rw[e];rfl
theorem eX(I:0<p)(w:DV)(wd:DX)(f g T:DQ)(k i j:Nat):0<=XA p w wd f g T k i j/\XA p w wd f g T k i j<p:=
 ⟨TK _ ⋯,Tx _ I⟩
noncomputable def xP(m:Nat)(wd:DX)(f:DQ):List TB:=(SF<|m+1).map λk=>(wd k,wd k,f k)
theorem Vb(m wd f):(xP m wd f).map tD=qH (m+1) wd f:=by unfold xP qH;rw[Tn];rfl
section
variable{p:Int}{n:Nat}
theorem zdu(z:Pr p)(E:n<=20)(f:DW):∃r B l,gB p (n+n) r B l/\(∀v,Span p (n+n) (el r B) v↔Span p (n+n) (el n λi=>ZD n (f i)<|qo i) v)/\
 k6 [.int p,qk n n f]=bB (.val<|if ip (.lst<|jm r n B) (.lst<|jm n n qo)=cm then .tup [.int n,.int n,.tup (jm r n λk j=>B k<|n+j)]else .d9):=by
 have y:=jb;have I:n<=lim:=⋯
 have d:n+n<=lim:=⋯
 refine dt λt=>?_;obtain⟨r,B,l,e,J,g⟩:=wx z (⋯:n+n<=100) I .L _;refine t ?_;refine⟨r,B,l,J,g,?_⟩;have O:r<=lim:=by have:=VG J.mono J.lt;lia
 have Q:=we I;have a:zI (.tp [0,1]) ja (zD qw (zf 0)<|zf 1) [Cell.no,Cell.no] ((SF n).map λi=>D.tup [.tup (zX n<|f i),.tup (zX n λk=>if i=k then 1 else 0)])=bB (jm n (n+n) λi=>ZD n (f i)<|qo i):=by unfold jm;refine zl _ _ λj x=>zo rfl rfl ?_;simp[qw,d,Xh];rfl
 have U:=zdz n n f λi j=>if i=j then 1 else 0;have o:(n+n)=((n+n:Nat):Int):=⋯
 simp only[p0]at e;rw[<-o]at e;have Y:zI (.nm 0) ja (nT (zf 0) Xa<|h9<|zf 1) [Cell.no,vI n] (jm r (n+n) B)=bB (jm r n B):=by unfold jm;refine zl _ _ λk s=>zo rfl rfl ?_;simp[gV]
 have m:zI (.nm 0) ja (nT (zf 0) (h9<|zf 1) Xa) [Cell.no,vI n] (jm r (n+n) B)=bB (jm r n λk j=>B k<|n+j):=by unfold jm;refine zl _ _ λk s=>zo rfl rfl ?_;simp[gU]
 have b:h8 (.lst<|jm r n B) (.lst<|jm n n λi j=>if i=j then 1 else 0)=bB (.bl<|!ip (.lst<|jm r n B) (.lst<|jm n n qo)):=by unfold h8;rw[DJ ⟨gj _ _ _,gj _ _ _⟩];rfl
 have Z:∀h w f,j6 (qk h w f)=bB _:=λ_ _ _=>rfl;by_cases q:ip (.lst<|jm r n B) (.lst<|jm n n qo)=cm
 ·rw[q]at b
  rw[DJ q];simp[k6,jf,zZ,zW,Z,Q,U,I,O,z7,yc,SI,a,e,Y,m,b]
 ·have u:=by simpa using q
  rw[u]at b;rw[DY q];simp[k6,jf,zZ,zW,Z,Q,U,I,O,z7,yc,SI,a,e,Y,b]
theorem eE(E:Pr p)(Z:n<=20)(L:Xv p n f g)(M:Xv p n g f)(H:∀i j,i<n->j<n->0<=g i j/\g i j<p):k6 [.int p,qk n n f]=bB (.val<|qk n n g):=by
 obtain⟨r,B,l,t,Y,e⟩:=zdu E Z f;have two:=E.two;have o:gB p (n+n) n (λk=>ZD n (qo k)<|g k) id:={
  lt:=λk I=>by simp only[id];lia
  mono:=λk m I _=>I
  one:=λk I=>by simp only[id];rw[qb I];exact DJ rfl
  l8:=λk j I O=>by simp only[id]at O;rw[qb ⋯];exact DY ⋯
  rp:=λk m I w Q=>by simp only[id];rw[qb w];exact DY ⋯
  l4:=λk i I a=>by
   rcases To i n with z|z
   ·rw[qb z];unfold qo;lia
   ·obtain⟨j,rfl⟩:∃j,i=n+j:=⟨i-n,by grind⟩
    rw[qr];exact H k j I ⋯}
 have d v:Span p (n+n) (el n λk=>ZD n (qo k)<|g k) v->Span p (n+n) (el n λi=>ZD n (f i)<|qo i) v:=λJ=>J.le λs U=>by
  obtain⟨k,I,b⟩:=U;subst b;refine(Span.sum ((g k)) λi a=>.gen ⟨i,a,rfl⟩).congr λj O=>?_;rcases To j n with z|z
  ·simp only[qb z]
   exact(M k j I z).symm
  ·obtain⟨m,rfl⟩:∃m,j=n+m:=⟨j-n,⋯⟩
   simp only[qr];rw[zY (i:=m) ⋯ λi _ Q=>by simp[qo,Q]];simp[qo]
 have h v:Span p (n+n) (el n λi=>ZD n (f i)<|qo i) v->Span p (n+n) (el n λk=>ZD n (qo k)<|g k) v:=λJ=>J.le λs U=>by
  obtain⟨i,a,b⟩:=U;subst b;refine(Span.sum ((f i)) λk I=>.gen ⟨k,I,rfl⟩).congr λj O=>?_;rcases To j n with z|z
  ·simp only[qb z]
   rw[zY z λk _ Q=>by simp[qo,Q]];simp[qo]
  ·obtain⟨m,rfl⟩:∃m,j=n+m:=⟨j-n,⋯⟩
   simp only[qr];exact(L i m a ⋯).symm
 obtain⟨rfl,_,u⟩:=KP E t o (λv J=>h v<|(Y v).mp J)<|λv J=>(Y v).mpr (d v J);rw[e,VV λk i I a=>by rw[u k i I ⋯,qb a],DJ<|LR _,(VV λk j I O=>by rw[u k (r+j) I ⋯,qr])];rfl
end
section
variable{wd:DX}{m k N:Nat}{p:Int}{w:DV}{T:DQ}{A:Nat->eW}
noncomputable def m8(A:Nat->eW)(N r:Nat):List Nat:=(SF N).filter λj=>(A j).has r
noncomputable def Jp(A:Nat->eW)(N r:Nat):Nat->Nat->Int:=λi j=>(A<|(m8 A N r).getD j 0).v r i
theorem Ww(E:Pr p)(O:n<=16)(hs:∀v:Vc,∃t,∀i,i<n->v i%p=app f n t i%p):∃g,Xv p n f g/\Xv p n g f/\∀i j,0<=g i j/\g i j<p:=by
 have Q:=E.pos;obtain⟨t,I⟩:=PZ λj=>hs<|qo j;refine⟨λi j=>t j i%p,?_,?_,λi j=>⟨TK _ ⋯,Tx _ Q⟩⟩
 ·intro i j d J
  have e:_=app f n (t j) i%p:=zT λk _=>au p _ _;rw[e,<-I j i d];unfold qo mu;simp only[eq_comm]
 ·intro i j d J
  have z:∀a,a<n->app f n (λb=>zm _ n-qo j b) a%p=0:=λa h=>by
   rw[KS,Xr f J,UT];have e:app f n (λb=>zm (λk=>(t k b%p)*f k j) n) a%p=f a j%p:=by
    have l:app f n (λb=>zm (λk=>(t k b%p)*f k j) n) a=zm (λk=>f k j*app f n (λb=>t k b%p) a) n:=by rw[<-wb];congr 1;funext b;exact xE ..
    rw[l];have U:zm (λk=>f k j*app f n _ a) n%p=zm (λk=>f k j*qo k a) n%p:=zT λk _=>by rw[SU,jR (λb _=>TZ _ _) a,<-I k a h,<-SU]
    rw[U,zY h λk _ Y=>by simp[qo,Y]];simp[qo]
   rw[e];simp
  rw[(P0.mpr<|Zu E O hs z i d)];unfold qo mu;simp only[eq_comm]
theorem mD{b:Nat}(H:Pr p)(M:b<=16)(S:b*(m+1)<=48)(Q:∀k,wd k<=b)(hm:m<=5)(hT:∀k i j,k<m->i<f7 w wd k->j<fM w wd k->0<=T k i j/\T k i j<p):
 ∃N A g,N<=48/\(∀j,j<N->o9 p w wd T m (A j))/\(∀r,r<=m->(m8 A N r).length=wd r)/\(∀r,r<=m->Xv p (wd r) (Jp A N r) (g r)/\Xv p (wd r) (g r) (Jp A N r)/\∀i j,0<=g r i j/\g r i j<p)/\
  (∃E,((SF N).map λj=>Wl<|A j)=(kG E).map Wl)/\
  jJ [jX p m w wd T]=bB (.val<|xT ((SF N).map λj=>Wl<|A j) (xP m wd g)<|xP m wd λr=>Jp A N r):=by
 have hl:=jb;refine dt λkZ=>?_;obtain⟨E,I,y,u⟩:=V9 H M S Q hm hT;obtain⟨ok,sp,K⟩:=I.perm<|XH E;refine kZ ?_;let A:=λj=>(kG E).getD j tJ;have U:kG E=(SF E.length).map A:=by rw[<-((XH E).length_eq)];exact(ju tJ _).symm
 have Z:=λj O=>ok _ (by
  rw[U];exact Tb.mpr ⟨j,SJ.mpr O,rfl⟩)
 have cnt r:r<=m->(m8 A E.length r).length=wd r:=λJ=>by have:=K r J;rw[U,M3,Uv]at this;exact this
 have ad:=λr J v=>by
  have hv:Span p (wd r) (el (wd r) λj i=>Jp A E.length r i j) v:=(sp r J v).le λzgt Y=>by obtain⟨b,a,d,rfl⟩:=Y;rw[U]at a;obtain⟨j,O,rfl⟩:=Tb.mp a;have B:j∈m8 A E.length r:=TR.mpr ⟨O,by simpa using d⟩;obtain⟨i,x,e⟩:=T_ B;refine .gen ⟨i,by rw[<-cnt r J];exact x,?_⟩;funext c;show(A j).v r c=(A<|(m8 A E.length r).getD i 0).v r c;rw[kr,SH x];simp[e]
  exact u4.mp hv
 have C r:∃g,r<=m->Xv p (wd r) (Jp A E.length r) g/\Xv p (wd r) g (Jp A E.length r)/\∀i j,0<=g i j/\g i j<p:=by
  by_cases J:r<=m
  ·obtain⟨g,h⟩:=Ww H (Tf (Q r) M) (ad r J)
   exact⟨g,λ_=>h⟩
  ·exact⟨λ_ _=>0,λz=>absurd z J⟩
 obtain⟨g,Y⟩:=PZ C;have W:(kG E).map Wl=(SF E.length).map λj=>Wl (A j):=by simp_all
 refine⟨E.length,A,g,y,Z,cnt,Y,⟨E,W.symm⟩,?_⟩
 ·have f:E.length<=lim:=⋯
  have X:((kG E).map (qY wd))=(SF E.length).map λj=>qY wd (A j):=by
   conv=>lhs;rw[U,Tn]
   rfl
  rw[X]at u;let L:D:=.lst ((SF E.length).map λj=>qY wd<|A j);have l j:j<E.length->(A j).s+(A j).n<=100:=λO=>by have:=(Z j O).le;lia
  have t:zI (.tp [0,1]) ja (zA kY<|zc (zf 1)<|zc (j5<|jo qW<|zc (zf 2)<|zc (zf 0) zG) zG) [.no,.no,.val L] ((SF<|m+1).map λ(i:Nat)=>D.tup [.int i,.int (wd i:Nat)])=bB (qH (m+1) wd λr=>Jp A E.length r):=by unfold qH;refine zl _ _ λr J=>zo rfl rfl ?_;have J:=SJ.mp J;have o:=Zt (wd:=wd) l f r;simp only[gy (wd r) (λj=>(A j).v r),show((SF E.length).filter λj=>(A j).has r)=m8 A E.length r from rfl,cnt r ⋯]at o;have b3:=Q r;simp[-kr,L,o,(JV (q:=wd r) (h:=wd r) (λi=>(A<|(m8 A E.length r).getD i 0).v r) ⋯ ⋯)];rfl
  have P:zI (.nm 0) ja (zA k6<|zc (di (zk 1)<|sI 0)<|zc (zf 0) zG) [.no,.val (jX p m w wd T)] (qH (m+1) wd λr=>Jp A E.length r)=bB (qH (m+1) wd g):=by unfold qH;refine zl _ _ λr J=>zo rfl rfl ?_;have J:=SJ.mp J;obtain⟨a,d,h3⟩:=Y r ⋯;simp[J7,(eE H (by have:=Q r;lia) a d λi j _ _=>h3 i j)]
  have R:zI (.nm 0) ja (zA j1<|zc (zf 0) zG) [.no] ((SF E.length).map λj=>qY wd<|A j)=bB (zN<|(SF E.length).map λj=>Wl<|A j):=by unfold zN;rw[Tn];refine zl _ _ λj O=>zo rfl rfl ?_;have O:=SJ.mp O;simp[(Yt (wd:=wd) (Z j O).n1 (l j O))];exact⟨rfl,rfl⟩
  have F:m+1<=lim:=⋯
  have G:∀g:DQ,(qH (m+1) wd g).length=m+1:=λg=>by simp[qH]
  dsimp only[L]at t;unfold xT;rw[Vb,Vb];exact zQ (by simp[zW,zZ,SI,u,z7,J7,gP _ _,F,t,G,P,f,R])
theorem mE{b:Nat}(z:Pr p)(I:b<=16)(J:b*(m+1)<=48)(O:∀k,wd k<=b)(Q:m<=5)(U:∀k i j,k<m->i<f7 w wd k->j<fM w wd k->0<=T k i j/\T k i j<p):
 ∃N A g,N<=48/\(∀j,j<N->o9 p w wd T m (A j))/\(∀r,r<=m->(m8 A N r).length=wd r)/\(∀r,r<=m->Xv p (wd r) (Jp A N r) (g r)/\Xv p (wd r) (g r) (Jp A N r)/\∀i j,0<=g r i j/\g r i j<p)/\
  ya ((SF N).map λj=>Wl<|A j)=((SF N).map λj=>Wl<|A j)/\
  jJ [jX p m w wd T]=bB (.val<|xT ((SF N).map λj=>Wl<|A j) (xP m wd g)<|xP m wd λr=>Jp A N r):=by
 refine dt λY=>?_;obtain⟨N,A,g,d,Z,f,h,⟨a,e⟩,l⟩:=mD z I J O Q U;refine Y ?_;refine⟨N,A,g,d,Z,f,h,?_,l⟩;have:=(XH a).map Wl;rw[WI]at this;rw[e,WI];exact yP this
end
section
variable{N:Nat}{A:Nat->eW}
noncomputable def lS(A:Nat->eW)(N:Nat):List (Int×Int):=(SF N).map λj=>Wl<|A j
theorem rz(A N r):(m8 A N r).Nodup:=S5.sublist R1
end
structure r9(p:Int)(w:DV)(wd:DX)(T:DQ)(m N:Nat)(A:Nat->eW):Prop where
 ok:∀j,j<N->o9 p w wd T m (A j)
 sp:∀r,r<=m->∀v:Vc,∃t:Vc,∀i,i<wd r->v i%p=zm (λj=>if (A j).has r=cm then t j*(A j).v r i else 0) N%p
 inj:∀r,r<=m->∀t:Vc,(∀i,i<wd r->zm (λj=>if (A j).has r=cm then t j*(A j).v r i else 0) N%p=0)->∀j,j<N->(A j).has r=cm->t j%p=0
 cnt:∀r,r<=m->(m8 A N r).length=wd r
noncomputable def Lk(p:Int)(w:DV)(wd:DX)(T:DQ)(k:Nat)(y z:Vc):Prop:=
 if w k=cm then ∀i,i<wd k->y i%p=app (T k) (wd<|k+1) z i%p else ∀i,i<wd (k+1)->z i%p=app (T k) (wd k) y i%p
noncomputable def Wk(p:Int)(w:DV)(wd:DX)(T:DQ)(d:Nat):Nat->Vc->Vc->Prop
 |0,u,z=>∀i,i<wd d->u i%p=z i%p
 |n+1,u,z=>∃y,Wk p w wd T d n u y/\Lk p w wd T (d+n) y z
section
variable{p:Int}{w:DV}{wd:DX}{T:DQ}{m N:Nat}{A:Nat->eW}{d:Nat}
theorem da(e:a%p=b%p)(I:a'%p=b'%p):(a+c*a')%p=(b+c*b')%p:=by rw[Ub,e,SU,I,<-SU,<-Ub]
theorem Mc(c:Int)(h:Lk p w wd T k y z)(h':Lk p w wd T k y' z'):Lk p w wd T k (λi=>y i+c*y' i) λi=>z i+c*z' i:=by
 unfold Lk at *;split
 ·next b=>
  rw[DJ b]at h h';intro i a;rw[da (h i a) (h' i a)];exact(eB (λ_ _=>rfl) i).symm
 ·next b=>
  rw[DY b]at h h';intro i a;rw[da (h i a) (h' i a)];exact(eB (λ_ _=>rfl) i).symm
theorem tj:∀n {u z I J:Vc} c,Wk p w wd T d n u z->Wk p w wd T d n I J->Wk p w wd T d n (λi=>u i+c*I i) λi=>z i+c*J i
 |0,u,z,I,J,c,h,h'=>λi a=>da (h i a)<|h' i a
 |n+1,u,z,I,J,c,⟨y,h1,h2⟩,⟨y',F?,G?⟩=>⟨_,tj n c h1 F?,Mc c h2 G?⟩
theorem tE(k:Nat):Lk p w wd T k (λ_=>0) λ_=>0:=by unfold Lk;split<;>exact λi _=>by rw[Xq (λ_ _=>by simp) i];simp
theorem KY:∀n,Wk p w wd T d n (λ_=>0) λ_=>0
 |0=>λ_ _=>rfl
 |n+1=>⟨_,KY n,tE _⟩
theorem Br(h:Lk p w wd T k y z)(hz:∀i,i<wd (k+1)->z' i%p=z i%p):Lk p w wd T k y z':=by
 unfold Lk at *;split
 ·next b=>rw[DJ b]at h;intro i a;rw[h i a];exact(jR hz i).symm
 ·next b=>rw[DY b]at h;intro i a;rw[hz i a,h i a]
theorem LZ:∀{n:Nat} {u z I:Vc},Wk p w wd T d n u z->(∀i,i<wd (d+n)->I i%p=z i%p)->Wk p w wd T d n u I
 |0,u,z,I,h,hz=>λi a=>by rw[h i a,hz i a]
 |n+1,u,z,I,⟨y,h1,h2⟩,hz=>⟨y,h1,Br h2 hz⟩
theorem Bp:∀{n:Nat} {u I z:Vc},Wk p w wd T d n u z->(∀i,i<wd d->I i%p=u i%p)->Wk p w wd T d n I z
 |0,u,I,z,h,hu=>λi a=>by rw[hu i a,h i a]
 |n+1,u,I,z,⟨y,h1,h2⟩,hu=>⟨y,Bp h1 hu,h2⟩
theorem Cv(t:Vc)(u z:Nat->Vc):∀K,(∀j,j<K->Wk p w wd T d n (u j) (z j))->Wk p w wd T d n (λi=>zm (λj=>t j*u j i) K) λi=>zm (λj=>t j*z j i) K
 |0,_=>KY n
 |K+1,h=>tj n (t K) (Cv t u z K λj I=>h j ⋯)<|h K ⋯
theorem Bk(O:o9 p w wd T m b)(Q:k<m)(e:b.has k=cm)(U:b.has (k+1)=cm):Lk p w wd T k (b.v k) (b.v<|k+1):=by
 unfold Lk;cases hw:w k with
 |true=>
  have I:jV w k=k+1:=by unfold jV;rw[hw];rfl
  have J:jS w k=k:=by unfold jS;rw[hw];rfl
  rw[DJ rfl];intro i a;have:=O.arr k Q (by rw[I];exact U) i (by rw[J];exact a);rw[I,J,e,DJ rfl]at this;exact this.symm
 |false=>
  have I:jV w k=k:=by unfold jV;rw[hw];rfl
  have J:jS w k=k+1:=by unfold jS;rw[hw];rfl
  rw[DY ⋯];intro i a;have:=O.arr k Q (by rw[I];exact e) i (by rw[J];exact a);rw[I,J,U,DJ rfl]at this;exact this.symm
theorem Xp(I:o9 p w wd T m b)(e:b.has d=cm):∀n,d+n<=m->b.has (d+n)=cm->Wk p w wd T d n (b.v d) (b.v<|d+n)
 |0,_,_=>λ_ _=>rfl
 |n+1,hn,h2=>by have J:b.has (d+n)=cm:=ix.mpr (by have:=ix.mp e;have:=ix.mp h2;grind);exact⟨_,Xp I e n ⋯ J,Bk I ⋯ J h2⟩
theorem dW(I:o9 p w wd T m b)(j:b.has d=cm)(e:w (b.s+b.n-1)=cT):∀n,d+n<=m->b.has (d+n)=cT->Wk p w wd T d n (b.v d) λ_=>0
 |0,_,h2=>by lia
 | n+1,hn,h2=>by
  cases h3:b.has (d+n)with
  |false=>exact⟨_,dW I j e n ⋯ h3,tE _⟩
  |true=>
   refine⟨_,Xp I j n ⋯ h3,?_⟩;have U:=ix.mp h3;have Y:¬(d+n+1<b.s+b.n):=λz=>by have:b.has (d+(n+1))=cm:=ix.mpr ⋯;lia
   have J:b.s+b.n-1=d+n:=⋯
   rw[J]at e;have O:jV w (d+n)=d+n:=by unfold jV;rw[e];rfl
   have Q:jS w (d+n)=d+n+1:=by unfold jS;rw[e];rfl
   have:=I.arr (d+n) ⋯;rw[O,Q]at this;unfold Lk;rw[e,DY ⋯];intro i a;rw[this h3 i a,show b.has (d+n+1)=cT from h2];simp
theorem Jz(D:r9 p w wd T m N A):∀n,d+n<=m->∀{u z:Vc},Wk p w wd T d n u z->∀{a b:Vc},(∀i,i<wd d->u i%p=zm (λj=>if (A j).has d=cm then a j*(A j).v d i else 0) N%p)->(∀i,i<wd (d+n)->z i%p=zm (λj=>if (A j).has (d+n)=cm then b j*(A j).v (d+n) i else 0) N%p)->
 ∀j,j<N->(A j).has d=cm->((A j).has (d+n)=cm->a j%p=b j%p)/\((A j).has (d+n)=cT->w ((A j).s+(A j).n-1)=cm->a j%p=0):=by
 have Y r:r<=m->∀{v:Vc} {a b:Vc},(∀i,i<wd r->v i%p=zm (λj=>if (A j).has r=cm then a j*(A j).v r i else 0) N%p)->(∀i,i<wd r->v i%p=zm (λj=>if (A j).has r=cm then b j*(A j).v r i else 0) N%p)->∀j,j<N->(A j).has r=cm->a j%p=b j%p:=λS v a b B O j J Q=>by
  exact P0.mpr (D.inj r S (λj=>a j-b j) (λi f=>by
   have e:zm (λj=>if (A j).has r=cm then (a j-b j)*(A j).v r i else 0) N=zm (λj=>if (A j).has r=cm then a j*(A j).v r i else 0) N+zm (λj=>(if (A j).has r=cm then b j*(A j).v r i else 0)*(-1)) N:=by
    rw[<-jE];refine zB λj _=>?_;split
    ·rw[Int.sub_mul];lia
    ·simp
   rw[e,xD,Ub,<-B i f,SU,<-O i f,<-SU,<-Ub,show v i+v i * -1=0 by lia];simp) j J Q)
 have G k:k<m->∀(c:Vc) (r l:Nat),r=jV w k->l=jS w k->∀i,i<wd l->app (T k) (wd r) (n7 p A N c r) i%p=zm (λj=>if (A j).has l=cm then (if (A j).has r=cm then c j else 0)*(A j).v l i else 0) N%p:=λP c r l H K i f=>by
  rw[sR];refine zT λj J=>?_;cases hx:(A j).has r with
  |false=>simp
  |true=>
   have q:=(D.ok j J).arr k P (by rw[<-H];exact hx) i (by rw[<-K];exact f);rw[<-H,<-K]at q;simp only[if_true];rw[SU,q,<-SU];cases hy:(A j).has l<;>simp
 intro n
 induction n with
 |zero=>
  intro R u z Z a b C U j J Q;refine⟨λ_=>Y d ⋯ C (λi f=>by rw[Z i f];exact U i f) j J Q,λh=>?_⟩;lia
 | succ n W=>
  intro R u z Z a b C U j J Q;obtain⟨y,B,O⟩:=Z;obtain⟨c,E⟩:=D.sp (d+n) ⋯ y;obtain⟨F,L⟩:=W ⋯ B C E j J Q;have M i:i<wd (d+n)->y i%p=n7 p A N c (d+n) i%p:=λf=>by rw[E i f];unfold n7;rw[TZ]
  have ad i:i<wd (d+n+1)->z i%p=n7 p A N b (d+n+1) i%p:=λf=>by rw[U i f];unfold n7;rw[TZ];rfl
  have zgA:=ix.mp Q;cases hw:w (d+n)with
  | false=>
   have t:jV w (d+n)=d+n:=by unfold jV;rw[hw];rfl
   have x:jS w (d+n)=d+n+1:=by unfold jS;rw[hw];rfl
   unfold Lk at O;rw[hw,DY ⋯]at O;have g:=Y (d+n+1) ⋯ U λi f=>by rw[O i f,jR M i];exact G (d+n) ⋯ c (d+n) (d+n+1) t.symm x.symm i f
   refine⟨λh=>?_,λh o=>?_⟩
   ·have I:(A j).has (d+n)=cm:=ix.mpr (by have:=ix.mp h;lia)
    have:=g j J h;rw[I,DJ rfl]at this;rw[F I,this]
   ·cases I:(A j).has (d+n)with
    |false=>exact L I o
    |true=>
     have q3:=ix.mp I;have X:¬(d+n+1<(A j).s+(A j).n):=λz=>by have:(A j).has (d+(n+1))=cm:=ix.mpr ⋯;lia
     grind
  | true=>
   have t:jV w (d+n)=d+n+1:=by unfold jV;rw[hw];rfl
   have x:jS w (d+n)=d+n:=by unfold jS;rw[hw];rfl
   unfold Lk at O;rw[hw,DJ rfl]at O;have g:=Y (d+n) ⋯ E λi f=>by rw[O i f,jR ad i];exact G (d+n) ⋯ b (d+n+1) (d+n) t.symm x.symm i f
   refine⟨λh=>?_,λh o=>?_⟩
   ·have I:(A j).has (d+n)=cm:=ix.mpr (by have:=ix.mp h;lia)
    have:=g j J I;rw[show(A j).has (d+n+1)=cm from h,DJ rfl]at this;rw[F I,this]
   ·cases I:(A j).has (d+n)with
    |false=>exact L I o
    |true=>
     have:=g j J I;rw[show(A j).has (d+n+1)=cT from h,DY ⋯]at this;rw[F I,this];simp
end
section
variable{p:Int}{n:Nat}
theorem Ci{l:DX}:∀{r:Nat},(∀k m,k<m->m<r->l k<l m)->∃j,j<=r/\∀k,k<r->l k≠j
 |0,_=>⟨0,SN _,λk I=>absurd I<|Uj _⟩
 | r+1,h=>by
  obtain⟨j,d,J⟩:=Ci (r:=r) λk m a b=>h k m a ⋯;by_cases e:l r=j
  ·refine⟨r+1,SN _,λk I=>?_⟩
   rcases To k r with z|z
   ·have:=h k r z ⋯;lia
   ·rw[show k=r by lia];lia
  ·refine⟨j,⋯,λk I=>?_⟩
   rcases To k r with z|z
   ·exact J k z
   ·rw[show k=r by lia];exact e
theorem Le(E:Pr p){h N:Nat}{f:DW}(inj:∀t,(∀i,i<h->app f N t i%p=0)->∀j,j<N->t j%p=0):N<=h:=by
 rcases To h N with a5|a2
 ·exfalso
  obtain⟨r,u,B,l,Q,o⟩:=XR (n:=N) E h f;obtain⟨J,s,a3⟩:=Ci Q.mono;have Z:J<N:=⋯
  let t:=λj=>if j=J then 1 else zm (λk=>if l k=j then B k J*(-1)else 0) r;have d:t J=1:=DJ rfl;have a:∀k,k<r->zm _ N=0:=λk U=>by
   have e:zm (λj=>B k j*t j) N=zm (λj=>(if j=J then B k J else 0)+zm (λI=>if l I=j then B k (l I)*(B I J*(-1))else 0) r) N:=zB λj b=>by
    by_cases z:j=J
    ·subst z
     rw[d,DJ rfl,zB λI O=>DY<|a3 I O,z5];simp
    ·show B k j*(if j=J then _ else _)=_
     rw[DY z,DY z,T9,Ui,<-xD];refine zB λI O=>?_;by_cases e:l I=j
     ·rw[DJ e,DJ e,<-e,Ui]
     ·rw[DY e,DY e];simp
   rw[e,jE,zY Z<|λj _ Y=>DY Y,DJ rfl,xC];rw[(zB λI O=>by rw[zY (Q.lt I O) λj _ Y=>DY<|Tq Y,DJ rfl]),zY U λI O Y=>by rw[Q.rp k I U O Y];simp]
   rw[Q.one k U];lia
  have:=inj t (λi m=>by
   unfold app;have e:zm (λj=>f i j*t j) N%p=zm (λj=>zm _ r*t j) N%p:=zT λj b=>by rw[SU,(QU Q<|(o<|f i).mpr (.gen ⟨i,m,rfl⟩)) j b,<-SU]
   rw[e];have g:zm (λj=>zm (λk=>f i (l k)*B k j) r*t j) N=zm (λk=>f i (l k)*zm (λj=>B k j*t j) N) r:=by rw[zB λj _=>(xD _ _ _).symm,xC];refine zB λk _=>?_;rw[<-jz];exact zB λj _=>UL _ _ _
   rw[g,zB λk U=>by rw[a k U,w5],z5];simp) J Z
  rw[d,E.one]at this;lia
 ·exact a2
theorem fj(W:Nat->Vc)(t:Vc):Span p n (el m W) λi=>zm (λj=>t j*W j i) m:=Span.sum t λj I=>.gen ⟨j,I,rfl⟩
theorem Ly(e:Pr p)(I:gB p n s B l)(sp:∀v,Span p n (el s B) v↔Span p n (el m W) v)(J:∀t:Vc,(∀i,i<n->zm (λj=>t j*W j i) m%p=0)->∀j,j<m->t j%p=0):m=s:=by
 have b:s<=m:=by obtain⟨r,Y,O⟩:=XR e m W;have:=JC e ⟨B,l,I,sp⟩ O;lia
 have d:=cC I;have Z:=Le e λt Q=>J t λi a=>by
  rw[(QU I ((sp _).mpr (fj W t)) i a)];have:zm (λk=>zm (λj=>t j*W j (l k)) m*B k i) s%p=zm (λ_=>0) s%p:=zT λk U=>by have:=Q k U;unfold app at this;rw[xE]at this;rw[SU,this];simp
  rw[this,z5];simp
 lia
theorem AY(hp:Pr p){s q c:Nat}{B E V:Nat->Vc}{l L:DX}(hX:gB p n s B l)(O:gB p n q E L)(S:∀j,j<c->Span p n (el s B) (V j))(M:∀v,Span p n (el q E) v->Span p n (el s B) v)
 (H:∀v,Span p n (el s B) v->∃t:Vc,Span p n (el q E) λi=>v i-zm (λj=>t j*V j i) c) (X:∀t:Vc,Span p n (el q E) (λi=>zm (λj=>t j*V j i) c)->∀j,j<c->t j%p=0):q+c=s:=by
 let W:=λj=>if j<q then E j else V (j-q);have d j:j<q->W j=E j:=λI=>DJ I;have f j:W (q+j)=V j:=by show(if q+j<q then _ else _)=_;rw[DY ⋯,UK]
 have Y:∀t:Vc,∀i,zm (λj=>t j*W j i) (q+c)=zm (λj=>t j*E j i) q+zm (λj=>t (q+j)*V j i) c:=λt i=>by
  rw[Wy];congr 1
  ·exact zB λj I=>by rw[d j I]
  ·exact zB λj I=>by rw[f j]
 refine Ly hp hX (W:=W) (λv=>⟨λQ=>?_,λQ=>Q.le λg U=>?_⟩) λt Z=>?_
 ·obtain⟨t,h⟩:=H v Q
  have u:Span p n (el (q+c) W) λi=>zm (λj=>t j*V j i) c:=Span.sum t λj I=>by rw[<-f j];exact .gen ⟨q+j,⋯,rfl⟩
  exact(u.add (h.le λg U=>by obtain⟨k,J,rfl⟩:=U;rw[<-d k J];exact .gen ⟨k,⋯,rfl⟩) 1).congr λi _=>by lia
 ·obtain⟨k,J,rfl⟩:=U
  rcases To k q with z|z
  ·rw[d k z];exact M _<|.gen ⟨k,z,rfl⟩
  ·obtain⟨j,rfl⟩:∃j,k=q+j:=⟨k-q,⋯⟩
   rw[f j];exact S j ⋯
 ·have m:=X (λj=>t<|q+j) ((fj E _).congr λi b=>by
   have:=Z i b;rw[Y]at this;have e:zm (λj=> -1*t j*E j i) q=zm (λj=>t j*E j i) q * -1:=by rw[<-xD];exact zB λj _=>by simp only[Ui (-1),UL,Ui (-1),UL]
   rw[e];refine P0.mpr ?_;lia)
  intro j I;rcases To j q with z|z
  ·have r:=λi b=>by
    have:=Z i b;rw[Y,Ub]at this;have e:zm (λj=>t (q+j)*V j i) c%p=zm (λ_=>0) c%p:=zT λj I=>by rw[SU,m j I];simp
    rw[e,z5]at this;simpa using this
   have a:=r (L j)<|O.lt j z;rw[zY z λk J o=>by rw[O.rp k j J z (Tq o)];simp]at a;rw[O.one j z,H9]at a;exact a
  ·obtain⟨k,rfl⟩:∃k,j=q+k:=⟨j-q,⋯⟩
   exact m k ⋯
end
noncomputable def o5(A:Nat->eW)(N d e:Nat):List Nat:=(SF N).filter λj=>(A j).has d&&(A j).has e
section
variable{p:Int}{w:DV}{wd:DX}{T:DQ}{m N n:Nat}{A:Nat->eW}{d:Nat}
theorem sj(J:k<(o5 A N d e).length):(o5 A N d e).getD k 0<N/\(A<|(o5 A N d e).getD k 0).has d=cm/\(A<|(o5 A N d e).getD k 0).has e=cm:=by
 have O:(o5 A N d e).getD k 0∈o5 A N d e:=by rw[kr,SH J];exact MZ _
 obtain⟨a,I⟩:=TR.mp O;simp only[Td]at I;exact⟨SJ.mp a,I.1,I.2⟩
theorem Bd(d e:Nat)(t:Vc):∃a:Vc,∀k,k<(o5 A N d e).length->a ((o5 A N d e).getD k 0)=t k:=by refine⟨λj=>t<|(o5 A N d e).idxOf j,λk I=>?_⟩;have b:(o5 A N d e).Nodup:=S5.sublist R1;show t _=_;rw[kr,SH I,P5,b.idxOf_getElem _ I]
theorem si(d e:Nat)(a:Vc)(i:Nat):zm (λk=>a ((o5 A N d e).getD k 0)*(A<|(o5 A N d e).getD k 0).v d i) (o5 A N d e).length=zm (λj=>if (A j).has d=cm then (if (A j).has e=cm then a j else 0)*(A j).v d i else 0) N:=by refine(wz (λj=>(A j).has d&&(A j).has e) (λj=>a j*(A j).v d i) N).trans (zB λj _=>?_);lia
theorem gG(S:Pr p)(D:r9 p w wd T m N A)(E:d+n<=m){s q:Nat}{B H:Nat->Vc}{l X:DX}(M:gB p (wd d) s B l)(Q:∀u,Span p (wd d) (el s B) u ↔ ∃z,Wk p w wd T d n u z)
 (L:gB p (wd d) q H X) (U:∀u,Span p (wd d) (el q H) u↔Wk p w wd T d n u λ_=>0):q+(o5 A N d<|d+n).length=s:=by
 have C:=cC L;refine AY S M L (V:=λk=>(A<|(o5 A N d<|d+n).getD k 0).v d) (λk I=>?_) (λv Y=>(Q v).mpr ⟨_,(U v).mp Y⟩) (λv Y=>?_) λt x=>?_
 ·obtain⟨f,O,J⟩:=sj I
  exact(Q _).mpr ⟨_,Xp (D.ok _ f) O n E J⟩
 ·obtain⟨z,y⟩:=(Q v).mp Y
  obtain⟨a,g⟩:=D.sp d ⋯ v;obtain⟨b,r⟩:=D.sp (d+n) E z;refine⟨λk=>a<|(o5 A N d<|d+n).getD k 0,(U _).mpr ?_⟩;let u:=λj=>if (A j).has d=cm/\(A j).has (d+n)=cT/\w ((A j).s+(A j).n-1)=cT then (A j).v d else λ_=>0;refine LZ (Bp (Cv a u _ N (λj Z=>by
   show Wk p w wd T d n (if _ then _ else _) _;split
   ·next h=>exact dW (D.ok j Z) h.1 h.2.2 n E h.2.1
   ·exact KY n)) λi o=>?_) λi _=>by simp[z5]
  rw[si d (d+n) a i];rw[UT,g i o,<-UT];have e:zm (λj=>if (A j).has d=cm then a j*(A j).v d i else 0) N-zm (λj=>if (A j).has d=cm then (if (A j).has (d+n)=cm then a j else 0)*(A j).v d i else 0) N=zm (λj=>(if (A j).has d=cm then a j*(A j).v d i else 0)+(if (A j).has d=cm then (if (A j).has (d+n)=cm then a j else 0)*(A j).v d i else 0) * -1) N:=by rw[jE,xD];lia
  rw[e];refine zT λj Z=>?_;show _=a j*(if _ then (A j).v d else λ_=>0) i%p;cases f:(A j).has d with
  |false=>simp
  | true=>
   cases O:(A j).has (d+n)with
   |true=>
    lia
   | false=>
    cases J:w _ with
    |false=>simp
    |true=>
     simp only[if_true,UC,if_false,Nf,Ng,w5,Bool.true_eq_false,and_false];rw[SU,(((Jz D n E y g r) j Z f).2 O J)];simp
 ·obtain⟨a,g⟩:=Bd d (d+n) t
  intro k I;obtain⟨f,O,J⟩:=sj I;have:=((Jz D n E ((U _).mp x) (λi o=>by
   rw[<-si d (d+n) a i];congr 1;exact zB λk I=>by rw[g k I]) (λi _=>by
   have:zm (λj=>if (A j).has (d+n)=cm then 0*(A j).v (d+n) i else 0) N=zm (λ_=>0) N:=zB λj _=>by simp
   rw[this,z5])) _ f O).1 J
  rw[J,DJ rfl,g k I]at this;simpa using this
end
section
variable{p:Int}{w:DV}{wd:DX}{T:DQ}{m N:Nat}{A:Nat->eW}
theorem AD(r:Nat)(t:Vc):∃a:Vc,∀k,k<(m8 A N r).length->a ((m8 A N r).getD k 0)=t k:=by refine⟨λj=>t<|(m8 A N r).idxOf j,λk I=>?_⟩;show t _=_;rw[kr,SH I,P5,(rz A N r).idxOf_getElem _ I]
theorem rq(r:Nat)(a:Vc)(i:Nat):zm (λj=>if (A j).has r=cm then a j*(A j).v r i else 0) N=app (Jp A N r) (m8 A N r).length (λk=>a<|(m8 A N r).getD k 0) i:=by rw[<-(wz (λj=>(A j).has r) (λj=>a j*(A j).v r i) N)];unfold app;rw[xE];rfl
theorem La(I:j<N)(J:(A j).has r=cm):∃k,k<(m8 A N r).length/\(m8 A N r).getD k 0=j:=by have O:j∈m8 A N r:=TR.mpr ⟨SJ.mpr I,by simpa using J⟩;obtain⟨i,a,e⟩:=T_ O;exact⟨i,a,by rw[kr,SH a];simpa using e⟩
theorem FK(hp:Pr p)(U:∀k,wd k<=16)(ok:∀j,j<N->o9 p w wd T m (A j))(cnt:∀r,r<=m->(m8 A N r).length=wd r)(Q:∀r,r<=m->∀v:Vc,∃t,∀i,i<wd r->v i%p=app (Jp A N r) (wd r) t i%p):r9 p w wd T m N A where
 ok:=ok
 cnt:=cnt
 sp:=λr I v=>by obtain⟨t,J⟩:=Q r I v;obtain⟨a,ha⟩:=AD (A:=A) (N:=N) r t;refine⟨a,λi hi=>?_⟩;rw[J i hi,rq,cnt r I];unfold app;congr 1;exact zB λk O=>by show _=_*a _;rw[ha k (by rw[cnt r I];exact O)]
 inj:=λr I t J j Y Z=>by
  obtain⟨k,O,e⟩:=La Y Z;have:=Zu hp (U r) (Q r I) (t:=λk=>t<|(m8 A N r).getD k 0) (λi hi=>by have:=J i hi;rw[rq,cnt r I]at this;exact this) k (by rw[<-cnt r I];exact O)
  rw[e]at this;exact this
end
section
variable{p:Int}{w:DV}{wd:DX}{T f g:DQ}{m N:Nat}{A:Nat->eW}
theorem eh(F G:DW)(n k:Nat)(u:Vc)(i:Nat):app F n (app G k u) i=zm (λj=>zm (λb=>F i b*G b j) n*u j) k:=by
 unfold app;have e:zm (λb=>F i b*_) n=zm (λb=>zm (λj=>F i b*G b j*u j) k) n:=zB λb _=>by rw[<-jz];exact zB λj _=>(UL _ _ _).symm
 rw[e,xC];exact zB λj _=>xD _ _ _
theorem QX(h:Xv p n F G)(u:Vc)(z:i<n):app F n (app G n u) i%p=u i%p:=by
 rw[eh];have e:zm (λj=>zm _ n*u j) n%p=zm (λj=>mu i j*u j) n%p:=zT λj I=>by rw[SU,h i j z I,<-SU]
 rw[e,zY z λj _ J=>by unfold mu;rw[DY (Tq J),Nf]];unfold mu;rw[DJ rfl,M5]
theorem zd5(k:Nat)(u:Vc)(i:Nat):app (XA p w wd f g T k) (wd<|jV w k) u i%p=app (f<|jS w k) (wd<|jS w k) (app (T k) (wd<|jV w k)<|app (g<|jV w k) (wd<|jV w k) u) i%p:=by
 rw[eh];show _=app (λi b=>zm (λa=>f (jS w k) i a*T k a b) _) _ _ i%p;rw[eh];exact(by
  unfold app;refine zT λj _=>?_;rw[SU];have I:XA p w wd f g T k i j%p=zm (λb=>zm (λa=>f (jS w k) i a*T k a b) (wd<|jS w k)*g (jV w k) b j) (wd<|jV w k)%p:=by unfold XA;rw[TZ];refine zT λb _=>?_;rw[SU,TZ,<-SU,Ui,zB λa _=>Ui _ _]
  rw[I,<-SU])
noncomputable def nh(p:Int)(wd:DX)(f:DQ)(x:eW):eW:=⟨x.s,x.n,λr i=>app (f r) (wd r) (x.v r) i%p⟩
theorem XB(x:eW)(r i:Nat):(nh p wd f x).v r i%p=app (f r) (wd r) (x.v r) i%p:=TZ _ _
theorem Hi(q:DV)(t:Vc)(F:DW)(n r i:Nat)(X:Nat->eW):zm (λj=>if q j=cm then t j*app F n ((X j).v r) i else 0) N=app F n (λi=>zm (λj=>if q j=cm then t j*(X j).v r i else 0) N) i:=by
 have a:(λi=>zm (λj=>if q j=cm then t j*(X j).v r i else 0) N)=λi=>zm (λj=>(if q j=cm then t j else 0)*(X j).v r i) N:=by funext i;exact zB λj _=>by split<;>simp
 rw[a,wb F n _ _ N i];exact zB λj _=>by split<;>simp
theorem ng(H:0<p)(E:∀r,r<=m->Xv p (wd r) (f r) (g r))(e:∀r,r<=m->Xv p (wd r) (g r) (f r))(D:r9 p w wd T m N A):r9 p w wd (XA p w wd f g T) m N λj=>nh p wd f (A j):=by
 have l z:0<=z%p/\z%p<p:=⟨TK _ ⋯,Tx _ H⟩;have Y:∀r i (t:Vc),zm (λj=>if (A j).has r=cm then t j*(nh p wd f<|A j).v r i else 0) N%p=app (f r) (wd r) (λi=>zm (λj=>if (A j).has r=cm then t j*_ else 0) N) i%p:=λr i t=>by
  rw[<-Hi _ t (f r) (wd r) r i A];refine zT λj _=>?_;split
  ·rw[SU,XB,<-SU]
  ·rfl
 refine⟨λj O=>?_,λr J v=>?_,λr J t Q j O U=>?_,D.cnt⟩
 ·have b:=D.ok j O
  refine⟨b.n1,b.le,λr i _ _=>l _,λk Z U i a=>?_⟩;rw[zd5];have d:∀x,x<_->app _ _ ((nh p wd f<|A j).v (jV w k)) x%p=_:=λx I=>by rw[jR (λy _=>XB _ _ _),QX (e _ (by have:=dU w Z;lia)) _ I]
  have h:∀x,x<_->_%p=(if _=cm then (A j).v (jS w k) x else 0)%p:=λx I=>by rw[jR d];exact b.arr k Z U x I
  rw[jR h];show _=(if (A j).has (jS w k)=cm then (nh p wd f<|A j).v (jS w k) i else 0)%p;by_cases I:(A j).has (jS w k)=cm
  ·simp only[I,if_true]
   exact(XB _ _ _).symm
  ·simp only[I,if_false]
   rw[Xq (λ_ _=>by simp) i];simp
 ·obtain⟨t,Q⟩:=D.sp r J _
  refine⟨t,λi a=>?_⟩;show _=zm (λj=>if (A j).has r=cm then t j*_ else 0) N%p;simp only[Y,<-QX (E r J) v a];exact jR Q i
 ·refine D.inj r J t (λi a=>?_) j O U
  rw[<-QX (e r J) (λi=>zm (λj=>if (A j).has r=cm then t j*(A j).v r i else 0) N) a];exact Xq (λx I=>by rw[<-Y];exact Q x I) i
end
noncomputable def RY(S E:DX)(j:Nat):eW:=⟨S j,E j-S j+1,λ_ _=>0⟩
noncomputable def xy(S E:DX)(N r:Nat):List Nat:=m8 (RY S E) N r
noncomputable def BZ(S E:DX)(N j:Nat):eW:=⟨S j,E j-S j+1,λr i=>if (xy S E N r).getD i N=j then 1 else 0⟩
noncomputable def Aw(S E:DX)(N r:Nat):Nat:=(xy S E N r).length
noncomputable def Ay(w:DV)(S E:DX)(N k i j:Nat):Int:=if (xy S E N<|jS w k).getD i N=(xy S E N<|jV w k).getD j (N+1)then 1 else 0
section
variable{S E:DX}{N r:Nat}{w:DV}{p:Int}{m:Nat}
theorem zd8:(xy S E N r).Nodup:=List.Nodup.sublist R1 S5
theorem u_{j:Nat}:j∈xy S E N r↔j<N/\(BZ S E N j).has r=cm:=by unfold xy m8;rw[TR,SJ];rfl
theorem fw{j:Nat}(h:j<N)(J:(BZ S E N j).has r=cm):∃c,c<Aw S E N r/\(xy S E N r)[c]? = bB j:=by obtain⟨c,I⟩:=_e<|u_.mpr ⟨h,J⟩;exact⟨c,(nt.mp I).1,I⟩
theorem XF{c d:Nat}(h:c<Aw S E N r):∃j,(xy S E N r)[c]? = bB j/\(xy S E N r).getD c d=j/\j<N/\(BZ S E N j).has r=cm:=by have e:=SH h;obtain⟨a,I⟩:=u_.mp<|TN e;exact⟨_,e,by rw[kr,e];rfl,a,I⟩
theorem WE{c I j:Nat}(e:(xy S E N r)[c]? = bB j)(J:(xy S E N r)[I]? = bB j):c=I:=by exact(List.getElem?_inj (nt.mp e).1 zd8).mp (e.trans J.symm)
theorem YN{c j:Nat}(h:c<Aw S E N r):(BZ S E N j).v r c=if (xy S E N r)[c]? = bB j then 1 else 0:=by
 obtain⟨I,a,J,_⟩:=XF h;show(if _=j then 1 else 0)=_;rw[a,J];by_cases z:I=j
 ·rw[DJ z,DJ (by rw[z])]
 ·rw[DY z,DY (λq=>z<|TJ q)]
theorem Av(L:Pr p)(H:∀j,j<N->S j<=E j/\E j<=m):r9 p w (Aw S E N) (Ay w S E N) m N (BZ S E N):=by
 have two:=L.two;refine⟨λj J=>⟨by show 1<=_+1;lia,by show S j+(E j-S j+1)<=m+1;have:=H j J;lia,λr i _ _=>?_,λk B U i a=>?_⟩,λr n v=>?_,λr n t u j J U=>?_,λr n=>rfl⟩
 ·show 0<=(if _ then (1:Int)else 0)/\(if _ then 1 else 0)<p
  split<;>lia
 ·refine dt λY=>?_;obtain⟨g,O,Q⟩:=fw J U
  obtain⟨y,b,o,s,Z⟩:=XF a;refine Y ?_;have e:app (Ay w S E N k) (Aw S E N<|jV w k) ((BZ S E N j).v (jV w k)) i=Ay w S E N k i g:=by
   unfold app;rw[zY O λc l I=>by rw[YN l,DY<|λq=>I<|WE q Q,w5]]
   rw[YN O,DJ Q,H9]
  rw[e];congr 1;unfold Ay;rw[show(xy S E N<|jV w k).getD g (N+1)=j by rw[kr,Q];rfl];by_cases h:(BZ S E N j).has (jS w k)=cm
  ·rw[DJ h];rfl
  ·rw[DY h,o,DY (λz=>h<|by rw[<-z];exact Z)]
 ·refine⟨λj=>zm (λc=>if (xy S E N r)[c]? = bB j then v c else 0)<|Aw S E N r,λi a=>?_⟩
  refine dt λY=>?_;obtain⟨y,b,o,s,Z⟩:=XF (d:=N) a;refine Y ?_;rw[zY (f:=λj=>if _=cm then _*_ else 0) s λj J I=>by rw[YN a,show(if _=bB j then (1:Int)else 0)=0 from DY<|λq=>I<|TJ<|q.symm.trans b,w5,ite_self]]
  rw[DJ Z,YN a,DJ b,H9,zY a λc l I=>DY λq=>I<|WE q b,DJ b]
 ·obtain⟨g,O,Q⟩:=fw J U
  have:=u g O;rw[zY J λx A I=>by rw[YN O,show(if _=bB x then (1:Int)else 0)=0 from DY<|λq=>I<|TJ<|q.symm.trans Q,w5,ite_self]]at this
  rw[DJ U,YN O,DJ Q,H9]at this;exact this
theorem Ax(e:Pr p):∀k x y,0<=Ay w S E N k x y/\Ay w S E N k x y<p:=λk x y=>by have:=e.two;unfold Ay;split<;>lia
end
noncomputable def stN(M:Nat):List (Nat×Nat):=(SF M).flatMap λi=>(List.range' i<|M-i).map λj=>(i,j)
noncomputable def kI(s:Nat×Nat):List Int:=[(s.1:Int),(s.2:Int)]
noncomputable def kD(s:Nat×Nat):D:=.tup [.int s.1,.int s.2]
theorem B4:s∈stN M↔s.1<=s.2/\s.2<M:=by
 unfold stN;simp only[List.mem_flatMap,SJ,Tb,List.mem_range'_1];constructor
 ·rintro⟨i,a,j,I,rfl⟩
  exact⟨I.1,by show j<M;lia⟩
 ·intro h
  exact⟨s.1,⋯,s.2,⟨h.1,by grind⟩,rfl⟩
theorem zd9:∀M:Fin 7,(stN M.val).Nodup/\((stN M.val).map kI).Nodup/\(stN M.val).length<=21:=by decide +kernel
theorem NK:∀M:Fin 7,qK [.int M.val]=bB (.own<|(stN M.val).map kD)
 |⟨0,_⟩=>by kernel_rfl
 |⟨1,_⟩=>by kernel_rfl
 |⟨2,_⟩=>by kernel_rfl
 |⟨3,_⟩=>by kernel_rfl
 |⟨4,_⟩=>by kernel_rfl
 |⟨5,_⟩=>by kernel_rfl
 |⟨6,_⟩=>by kernel_rfl
noncomputable def ka:List Int->Int
 |[]=>0
 |x::r=>x+ka r
theorem ZI:∀L,fu (L.map D.int)=bB (ka L)
 |[]=>rfl
 |x::L=>by show(fu _).map _=_;rw[ZI L];rfl
noncomputable def pf(K:List (Nat×Nat))(a b:Int):Nat:=K.countP λx=>decide ((x.1:Int)<=a)&&decide (b<=(x.2:Int))
noncomputable def uF(K:List (Nat×Nat))(s:Nat×Nat):Nat:=K.countP λx=>decide<|x=s
theorem Xk(x:Nat×Nat)(K:List (Nat×Nat))(a b:Int):(pf (x::K) a b)=(pf K a b:Int)+if (x.1)<=a/\b<=(x.2)then 1 else 0:=by
 unfold pf
 grind
theorem An(x s:Nat×Nat)(K:List (Nat×Nat)):(uF (x::K) s)=(uF K s:Int)+if (x.1=s.1/\x.2=s.2)then 1 else 0:=by
 unfold uF;rw[_g];by_cases h:x=s
 ·rw[DJ (decide_eq_true h),DJ (by rw[h];exact⟨rfl,rfl⟩)];rfl
 ·rw[DY (by simpa using h),DY λz=>h (Prod.ext z.1 z.2)];rfl
theorem Lg{p p' q I e f:Prop} [Decidable p] [Decidable p'] [Decidable q] [Decidable I] [Decidable e] [Decidable f]{A B C E M:Int}(j:p'->p)(J:I->q)(O:e↔p/\¬p')(Q:f↔q/\¬I)(U:A-(B+C)+E=M):A+(if p/\q then 1 else 0)-(B+(if p'/\q then 1 else 0)+(C+if p/\I then 1 else 0))+(E+if p'/\I then 1 else 0)=M+if e/\f then 1 else 0:=by
 by_cases p'<;>by_cases I<;>simp_all<;>try split
 all_goals lia
theorem Kv(s:Nat×Nat):∀K,(pf K s.1 s.2)-((pf K ((s.1:Int)-1) s.2)+(pf K s.1<|(s.2:Int)+1))+(pf K ((s.1:Int)-1)<|(s.2:Int)+1)=(uF K s:Int)
 |[]=>rfl
 |x::K=>by rw[Xk,Xk,Xk,Xk,An];exact Lg ⋯ ⋯ ⋯ ⋯<|Kv s K
section
variable{p:Int}{w:DV}{wd:DX}{T:DQ}{m N:Nat}{A:Nat->eW}
noncomputable def AB(A:Nat->eW)(N:Nat):List (Nat×Nat):=(SF N).map λj=>((A j).s,(A j).s+(A j).n-1)
theorem VP(D:r9 p w wd T m N A):∀x,x∈AB A N->x∈stN (m+1):=λx J=>by obtain⟨j,I,rfl⟩:=Tb.mp J;have a:=(D.ok j<|SJ.mp I).n1;have O:=(D.ok j<|SJ.mp I).le;exact B4.mpr ⋯
theorem Cp(D:r9 p w wd T m N A)(J:i<=j):(o5 A N i j).length=pf (AB A N) i j:=by unfold o5 pf AB;rw[<-Uv,M3];refine C7 λk I=>?_;have a:=(D.ok k<|SJ.mp I).n1;simp only[Td,Rf,decide_eq_true_eq];rw[ix,ix];omega
end
theorem Ii{c:Int}(h:0<=c):∃q:Nat,Pr q/\([D.int 2,.int 3,.int 5,.int 7])[(c%4).toNat]? = bB (.int q)/\g5 4 (c%4)=bB (c%4).toNat:=by
 obtain⟨r,I⟩:=ML (TK c<|show 4≠0 by decide);rw[I];have J:r<4:=⋯
 rcases (⋯:r=0\/r=1\/r=2\/r=3)with e|e|e|e<;>subst e
 ·exact⟨2,.inl rfl,rfl,rfl⟩
 ·exact⟨3,.inr<|.inl rfl,rfl,rfl⟩
 ·exact⟨5,.inr<|.inr<|.inl rfl,rfl,rfl⟩
 ·exact⟨7,.inr<|.inr<|.inr rfl,rfl,rfl⟩
noncomputable def bS(bs:List (Int×Int))(j:Nat):Nat:=(bs.getD j (0,0)).1.toNat
noncomputable def bE(bs:List (Int×Int))(j:Nat):Nat:=(bs.getD j (0,0)).2.toNat
abbrev bW(bs:List (Int×Int)):Nat->Nat:=Aw (bS bs) (bE bs) bs.length
abbrev bT(w:DV)(bs:List (Int×Int)):Nat->Nat->Nat->Int:=Ay w (bS bs) (bE bs) bs.length
abbrev bL(bs:List (Int×Int))(r:Nat):List Nat:=xy (bS bs) (bE bs) bs.length r
section
variable{bs:List (Int×Int)}{m:Nat}
theorem Bl(h:∀b∈bs,xA ((m+1:Nat)) b){j:Nat}(I:j<bs.length):bs[j]? = bB ((bS bs j:Int),(bE bs j:Int))/\bS bs j<=bE bs j/\bE bs j<=m:=by
 have e:=SH I;obtain⟨a,J,O⟩:=(h _<|TN e);unfold bS bE
 grind
end
section
variable{bs:List (Int×Int)}{m:Nat}
theorem Gc(h:∀b∈bs,xA ((m+1:Nat)) b):bs=(SF bs.length).map λj=>((bS bs j:Int),(bE bs j:Int)):=by
 apply F8;intro j;by_cases I:j<bs.length
 ·rw[(Bl h I).1];simp[I]
 ·rw[UQ ⋯,UQ (by simpa using I)]
end
theorem ai:∀bs:List (Int×Int),oo (zN bs)=cm
 |[]=>rfl
 |b::bs=>by have I:=ai bs;unfold zN at I ⊢;rw[Tw];show(ji _&&oo _)=cm;rw[I];rfl
section
theorem Am{M:Nat}{K I:List (Nat×Nat)}(e:∀x,x∈K->x∈stN M)(O:∀x,x∈I->x∈stN M)(h:∀a b,a<=b->b<M->pf K a b=pf I a b){s:Nat×Nat}(hs:s.1<=s.2):uF K s=uF I s:=by
 have z:∀{L:List (Nat×Nat)} {a b:Int},(∀x,x∈L->x∈stN M)->a<0\/M<=b->pf L a b=0:=λ{L a b} Q U=>by unfold pf;rw[Rb];intro x Y q;have:=B4.mp<|Q x Y;simp only[Td,decide_eq_true_eq]at q;lia
 have J:∀{a b:Int},a<=b->pf K a b=pf I a b:=λ{a b} U=>by
  by_cases c:a<0\/M<=b
  ·rw[z e c,z O c]
  ·have:=h a.toNat b.toNat ⋯ ⋯
   rw[Rc ⋯,Rc ⋯]at this;exact this
 have d:=Kv s K;have f:=Kv s I;rw[J ⋯,J ⋯,J ⋯,J ⋯]at d;lia
end
section
variable{p:Int}{w:DV}{wd:DX}{T:DQ}{m N N':Nat}{A A':Nat->eW}{d n:Nat}
noncomputable def B6(w:DV)(A:Nat->eW)(d n:Nat)(z:Bool)(j:Nat):Bool:=(A j).has d&&((!z&&(A j).has (d+n)) || (!(A j).has (d+n)&&!w ((A j).s+(A j).n-1)))
noncomputable def L7(w:DV)(A:Nat->eW)(d n:Nat)(z:Bool)(j:Nat):Vc:=if B6 w A d n z j=cm then (A j).v d else λ_=>0
theorem EX(D:r9 p w wd T m N A)(e:d+n<=m){z:Bool}{j:Nat}(J:j<N):∃y,Wk p w wd T d n (L7 w A d n z j) y/\(z=cm->∀i,y i=0):=by
 unfold L7;by_cases h:B6 w A d n z j=cm
 ·rw[DJ h]
  unfold B6 at h;simp only[Td,Dc,GG]at h;obtain⟨a,O⟩:=h;rcases O with⟨b,I⟩|⟨I,Q⟩
  ·exact⟨_,Xp (D.ok j J) a n e I,λq=>by lia⟩
  ·exact⟨_,dW (D.ok j J) a Q n e I,λ_ _=>rfl⟩
 ·rw[DY h];exact⟨_,KY n,λ_ _=>rfl⟩
theorem pB(D:r9 p w wd T m N A)(E:d+n<=m)(z:Bool)(u:Vc):Span p (wd d) (el N<|L7 w A d n z) u ↔ ∃y,Wk p w wd T d n u y/\(z=cm->∀i,y i%p=0):=by
 constructor
 ·intro h
  induction h with
  |zero h=>exact⟨_,Bp (KY n) λi l=>by simp_all,λ_ _=>by simp⟩
  |step Y _ e Z=>
   obtain⟨y,f,Q⟩:=Z;obtain⟨j,I,rfl⟩:=Y;obtain⟨t,g1,g2⟩:=EX D E I;refine⟨_,Bp (tj n _ f g1) e,λq i=>?_⟩;simp only[g2 q i,w5,Ng];exact Q q i
 ·rintro⟨y,f,Q⟩
  obtain⟨a,k⟩:=D.sp d ⋯ u;obtain⟨b,U,o⟩:∃b:Vc,(∀i,i<wd (d+n)->y i%p=zm (λj=>if (A j).has (d+n)=cm then b j*(A j).v (d+n) i else 0) N%p)/\(z=cm->∀j,b j=0):=by
   cases z with
   |false=>
    obtain⟨b,U⟩:=D.sp (d+n) E y;exact⟨b,U,λq=>nomatch q⟩
   |true=>exact⟨λ_=>0,λi _=>by rw[Q rfl i,zB (g:=λ_=>0) λj _=>by simp,z5];simp,λ_ _=>rfl⟩
  refine(Span.sum a λj I=>.gen ⟨j,I,rfl⟩).congr λi l=>?_;rw[k i l];refine zT λj I=>?_;unfold L7;by_cases J:(A j).has d=cm
  ·obtain⟨r,s⟩:=(Jz D n E f k U) j I J
   rw[DJ J];by_cases O:B6 w A d n z j=cm
   ·rw[DJ O]
   ·rw[DY O,w5]
    have:a j%p=0:=by
     unfold B6 at O;rw[J]at O;cases h4:(A j).has (d+n)with
     |true=>
      simp_all
     |false=>
      lia
    rw[SU,this];simp
  ·have:B6 w A d n z j=cT:=by unfold B6;rw[Bool.not_eq_true]at J;rw[J];rfl
   simp_all
theorem FO(e:Pr p)(D:r9 p w wd T m N A)(O:r9 p w wd T m N' A'){a b:Nat}(Q:a<=b)(I:b<=m):pf (AB A N) a b=pf (AB A' N') a b:=by refine dt λk=>?_;obtain⟨n,rfl⟩:∃n,b=a+n:=⟨b-a,by grind⟩;obtain⟨s,_,B,l,U,j⟩:=XR e N _;obtain⟨q,_,o,x,Y,g⟩:=XR e N _;refine k ?_;have Z:∀u,_ ↔ ∃z,Wk p w wd T a n u z:=λu=>(j u).trans ((pB D I cT u).trans ⟨λJ=>by obtain⟨y,h,_⟩:=J;exact⟨y,h⟩,λ⟨y,h⟩=>⟨y,h,λq=>nomatch q⟩⟩);have d:∀u,_↔Wk p w wd T a n u λ_=>0:=λu=>(g u).trans ((pB D I cm u).trans ⟨λJ=>by obtain⟨y,h,f⟩:=J;exact LZ h λi _=>by rw[f rfl i];simp,λh=>⟨_,h,λ_ _=>by simp⟩⟩);have r:=gG e D I U Z Y d;have t:=gG e O I U Z Y d;simp only[<-Cp D Q,<-Cp O Q];lia
theorem pd(j:Pr p)(D:r9 p w wd T m N A)(I:r9 p w wd T m N' A'):(AB A N).Perm (AB A' N'):=by
 refine R0.mpr λs=>?_;have e K:K.count s=uF K s:=by unfold uF List.count;lia
 rw[e,e];by_cases d:s.1<=s.2
 ·exact Am (VP D) (VP I) (λa b f O=>FO j D I f ⋯) d
 ·have z K:(∀x,x∈K->x∈stN (m+1))->uF K s=0:=λh=>by
   unfold uF;rw[Rb];intro x J q;have:=(B4.mp<|h x J).1;rw[(of_decide_eq_true q)]at this;exact d this
  rw[z _ (VP D),z _ (VP I)]
theorem fY{bs:List (Int×Int)}(h:∀b∈bs,xA ((m+1:Nat)) b)(r:Nat):qV bs r=bL bs r:=by
 unfold qV bL xy m8;refine List.filter_congr λj I=>?_;obtain⟨e,a,O⟩:=Bl h<|SJ.mp I;have J:bs.getD j (0,0)=((bS bs j:Int),(bE bs j:Int)):=by rw[kr,e];rfl
 rw[J];show Cg _ _=(decide (bS bs j<=r)&&decide (r<bS bs j+(_+1)));unfold Cg;dsimp only;congr 1
 ·exact decide_eq_decide.mpr ⋯
 ·exact decide_eq_decide.mpr ⋯
theorem LG{bs:List (Int×Int)}(h:∀b∈bs,xA ((m+1:Nat)) b)(p:Int)(w:DV):BR p m w bs=jX p m w (bW bs) (bT w bs):=by
 have a:=fY h;rw[Me];unfold jX;congr 1;have I r:hC bs r=bW bs r:=by unfold hC bW Aw;rw[a]
 have d:(zX (m+1) λk=>(hC bs k))=_:=Jk λr _=>by rw[I]
 have J:xx m w (hC bs) (LH w bs)=xx m w (bW bs) (bT w bs):=by unfold xx;refine Tp λk _=>?_;unfold wW;simp only[vY,wY,vY,wY,I,I];congr 2;congr 1;refine AV λi j e O=>?_;unfold LH bT Ay;simp only[a,a];simp only[kr,SH e,SH O,P5]
 simp only[d,J]
end
theorem Gd{j:List Int}(J:j.length<=63){a:Int}(z:0<=a)(E:a<=1000){r n:Nat}(O:0<r)(H:r<=6)(L:n<=60):∃bs,qO [Wm j,.int a,.int r,.int n]=bB (.own<|zN<|ya bs)/\(∀b∈ya bs,xA r b)/\(ya bs).length=n:=by
 have G:=jb;have Q:n<=lim:=⋯
 refine dt λU=>?_;obtain⟨_,h,bs,f,l,m,Y,g2,rfl⟩:=vZ (T:=.nm 5) (F:=zV (jy 6<|zA jI<|zc (zf 0)<|zc (zD qw (zf 1)<|zf 5) zG)<|zV (jy 7<|zD yi (zf 6)<|zf 2)<|qf 4<|kH<|zc (zf 7)<|zc (zD qw (zf 7)<|zD yi (zD VX (zf 6)<|sI 16)<|zD QI (zf 2)<|zf 7) zG) (g:=λi=>D.int i)
  (λs y=>∃bs f l m,(∀b∈bs,xA r b)/\bs.length=s/\y=[.val (Wm j),vI a,vI r,vI n,.own<|zN bs,f,l,m]) n (γ:=[_,_,_,_,.own [],.no,.no,.no]) ⟨[],_,_,_,by simp,rfl,rfl⟩ (by
    rintro s K _ ⟨d,f,l,m,Z,u,rfl⟩;obtain⟨t,B,C⟩:=V3 J (k:=a+s) ⋯ ⋯;generalize JW j (a+s)=x at *;have o:=Tx x (show(0:Int)<r by lia);have ad:=TK (x/16) (⋯:r-x%r≠0);have A:=Tx (x/16) (⋯:0<r-x%r);have p:d.length<lim:=⋯
    have w:(0:Int)<r:=⋯
    refine⟨_,_,rfl,by simp[zW,t,w,O,o,p];rfl,d++[(x%r,x%r+x/16%(r-x%r))],_,_,_,λb I=>?_,by simp[u],by simp[zN];exact⟨rfl,rfl,rfl⟩⟩;rcases Uo.mp I with I|I
    ·exact Z b I
    ·have e:=Uu.mp I
     subst e;exact⟨TK x (show(r:Int)≠0 by lia),⋯,⋯⟩)
 refine U ?_;refine⟨bs,?_,λb I=>Y b<|(xF bs).mem_iff.mp I,by rw[(xF bs).length_eq,g2]⟩;rw[<-z6 n λi=>i]at h;exact zQ (by simp[zZ,zW,Q,j9,SI,h,WJ (⋯:bs.length<64)])
theorem Cs{e:List Int}(I:e.length<=63){a:Int}(J:0<=a)(O:a<=1000){r n:Nat}(Q:0<r)(U:r<=6)(Y:n<=60):∃bs,qO [Wm e,.int a,.int r,.int n]=bB (.own<|zN bs)/\(∀b∈bs,xA r b)/\bs.length=n/\ya bs=bs:=by obtain⟨bs,d,Z,f⟩:=Gd I J O Q U Y;exact⟨_,d,Z,f,yP<|xF bs⟩
section
variable{ns:List Int}{p:Int}{m:Nat}{w:DV}{wd:DX}{T:DQ}
theorem rG{a:Int}(E:0<=a)(H:a<=1000)(U:ns.length<=63)(e:Pr p)(M:m<=5)(Q:∀k,wd k<=7)(Y:∀k x y,0<=T k x y/\T k x y<p):
 ∃f g,(∀k,k<m+1->Pair p (wd k) (f k) (g k))/\qX [Wm ns,.int a,jX p m w wd T]=bB (.val<|jX p m w wd<|XA p w wd f g T):=by
 have C:=jb;have Z:m+1<=lim:=⋯
 have l:∀k,∃b:_×_,k<m+1->Pair p (wd k) b.1 b.2/\xo _=bB (.own [qk (wd k) (wd k) b.1,qk (wd k) (wd k) b.2]):=λk=>by
  by_cases I:k<m+1
  ·obtain⟨f,g,t,u⟩:=Ha U e (n:=wd k) (by have:=Q k;lia) (⋯:0<=a+20*k) ⋯
   exact⟨(f,g),λ_=>⟨t,u⟩⟩
  ·exact⟨(λ_ _=>0,λ_ _=>0),λh=>absurd h I⟩
 obtain⟨J,O⟩:=PZ l;refine⟨_,_,λk I=>(O k I).1,?_⟩;let L:=(SF<|m+1).map λk=>D.lst [qk (wd k) (wd k) (J k).1,qk (wd k) (wd k) (J k).2];have d:zI (.tp [0,1]) ja rJ [.no,.no,.val<|Wm ns,vI a,.val (jX p m w wd T)] ((SF<|m+1).map λ(k:Nat)=>D.tup [.int k,.int (wd k)])=bB L:=zl _ _ λk I=>zo rfl rfl (by
  simp[rJ,J7,vt 20 k ⋯ ⋯,(O k<|SJ.mp I).2,g5])
 have o:zI (.nm 0) ja (di (zk 0)<|sI 0) [Cell.no] L=bB (qH (m+1) wd _):=zl _ _ λk _=>zo rfl rfl rfl;have r:zI (.nm 0) ja (di (zk 0)<|sI 1) [Cell.no] L=bB (qH (m+1) wd _):=zl _ _ λk _=>zo rfl rfl rfl;have z:L.length<=lim:=by simp[L];lia
 have s:qB (zX (m+1) λk=>(wd k))=_:=yL (m+1) _;unfold rJ at d;exact zQ (by simp[rJ,zW,zZ,SI,J7,s,Z,z7,d,z,o,r,(lX (f:=λk=>(J k).1) (w:=w) e.pos e.le ⋯ (λk=>by have:=Q k;lia) (λk i j _ _ _=>Y k i j)<|λk i j I A B=>(O k I).1.bg i j A B)])
end
theorem BU(b:Bool):h8 (.str (jw (fL b))) (.str "l")=bB (.bl (!b)):=by
 have e:∀b,(jw (fL b)==(Ts "l"))=b:=by decide +kernel
 have I:∀b,i5 (.str<|jw<|fL b)=cm:=by decide +kernel
 unfold h8;rw[DJ ⟨I b,by decide +kernel⟩];exact congrArg (λb=>bB (D.bl !b))<|e b
theorem pK(b:Bool):h8 (.str (jw (fL b))) (.str "r")=bB (.bl b):=by
 have e:∀b,(!(jw (fL b)==(Ts "r")))=b:=by decide +kernel
 have I:∀b,i5 (.str<|jw<|fL b)=cm:=by decide +kernel
 unfold h8;rw[DJ ⟨I b,by decide +kernel⟩];exact congrArg (λb=>bB (D.bl b))<|e b
section
variable{m a b c d:Nat}{w:DV}
theorem Fi(Z:m<=5)(j:a<=b)(E:b<=m)(z:c<=d)(H:d<=m):qj [.str (x9 m w),pr a b,pr c d]=bB (.val<|.int<|if tW w a b c d=cm then 1 else 0):=by
 let e:=[Cell.val (.str<|x9 m w),Cell.val<|pr a b,Cell.val<|pr c d,vI<|(max a c:Nat),vI ((min b d:Nat))];have f:0<max a c->xc (zf 0) (zD QI (zf 3)<|sI 1) e=bB (.str<|jw<|fL<|w<|max a c-1):=λh=>by refine ZK w ⋯ ⋯ _ _ _ rfl ?_;simp[e];lia
 have Q:min b d<m->xc (zf 0) (zf 4) e=_:=λh=>ZK w ⋯ h _ _ _ rfl rfl;have U:tL (QP (sB (zD sv (di (zk 1) (sI 0)) (zf 3))) (sB (zD h8 (xc (zf 0) (zD QI (zf 3) (sI 1))) (jn (.str "l"))))) (QP (sB (zD sv (di (zk 2) (sI 0)) (zf 3))) (sB (zD h8 (xc (zf 0) (zD QI (zf 3) (sI 1))) (jn (.str "r"))))) e=bB (!s9 w a c):=by
  have J:zD sv (di (zk 1)<|sI 0) (zf 3) e=bB (.bl<|decide<|a<max a c):=by simp[e,g5]
  have O:zD sv (di (zk 2)<|sI 0) (zf 3) e=bB (.bl<|decide<|c<max a c):=by simp[e,g5]
  simp only[Cu,V8,V8,ie,ie,ie,ie,J,O];rcases MX a c with l|l|l
  ·have I:max a c=c:=⋯
   rw[yM,yM,f ⋯,I];simp[l,BU,s9,I];cases w (c-1)<;>simp<;>lia
  ·subst l
   simp[s9]
  ·have I:max a c=a:=⋯
   rw[yM,yM,f ⋯,I];simp[l,pK,s9,I];cases w (a-1)<;>simp<;>lia
 have Y:tL (QP (sB (zD o6 (di (zk 1) (sI 1)) (zf 4))) (sB (zD h8 (xc (zf 0) (zf 4)) (jn (.str "r"))))) (QP (sB (zD o6 (di (zk 2) (sI 1)) (zf 4))) (sB (zD h8 (xc (zf 0) (zf 4)) (jn (.str "l"))))) e=bB (!tf w b d):=by
  have J:zD o6 (di (zk 1)<|sI 1) (zf 4) e=bB (.bl<|decide<|min b d<b):=by simp[e,g5]
  have O:zD o6 (di (zk 2)<|sI 1) (zf 4) e=bB (.bl<|decide<|min b d<d):=by simp[e,g5]
  simp only[Cu,V8,V8,ie,ie,ie,ie,J,O];rcases MX b d with l|l|l
  ·have I:min b d=b:=⋯
   rw[yM,yM,Q ⋯,I];simp[l,BU,tf,I];lia
  ·subst l
   simp[tf]
  ·have I:min b d=d:=⋯
   rw[yM,yM,Q ⋯,I];simp[l,pK,tf,I];cases w d<;>simp<;>lia
 unfold qj;refine zQ<|zu (γ':=[Cell.val (.str<|x9 m w),Cell.val<|pr a b,Cell.val<|pr c d,vI<|(max a c:Nat),.no]) (by simp[zZ,VJ,g5])<|zu (γ':=e) (by simp[e,VI,g5]) ?_;by_cases q:max a c<=min b d
 ·have g:=⋯
  refine zu (by simp only[JX,ie,show zD o6 (zf 3) (zf 4) e=bB (.bl cT)by simp[e];lia];rfl) ?_;cases h1:s9 w a c with
  |false=>
   rw[zW,JX,U,h1];simp[tW,h1]
  | true=>
   refine zu (by rw[JX,U,h1];rfl) ?_;cases h2:tf w b d with
   |false=>
    simp only[zW,JX,Y,h2];simp[tW,h2]
   |true=>
    refine zu (by simp only[JX,Y,h2];rfl) ?_;simp[tW,h1,h2];lia
 ·rw[zW,JX,ie,show zD o6 (zf 3) (zf 4) e=bB (.bl cm)by simp[e];lia]
  simp[tW,q]
end
section
variable{α β:Type}
theorem WA(f g:α->Int):∀L:List α,ka (L.map λx=>f x+g x)=ka (L.map f)+ka (L.map g)
 |[]=>rfl
 |x::L=>by simp only[Tw,ka,WA f g L];lia
theorem fm:∀L:List α,ka (L.map λ_=>0)=0
 |[]=>rfl
 |x::L=>by simp only[Tw,ka,fm L];lia
theorem Wz(f:α->β->Int):∀(K:List α) (L:List β),ka (K.map λa=>ka<|L.map λb=>f a b)=ka (L.map λb=>ka<|K.map λa=>f a b)
 |[],L=>(fm L).symm
 |a::K,L=>by simp only[Tw,ka];simp only[Wz f K L,WA]
theorem nD{K L:List Int}(h:K.Perm L):ka K=ka L:=by
 induction h with
 |nil=>rfl
 |cons x _ I=>simp only[ka,I]
 |swap x y l=>simp only[ka];lia
 |trans _ _ a J=>exact a.trans J
end
noncomputable def i3(w:DV)(b c:Int×Int):Int:=if tW w b.1.toNat b.2.toNat c.1.toNat c.2.toNat=cm then 1 else 0
theorem uO{n:Int}{b:Int×Int}(h:xA n b):D.tup [.int b.1,.int b.2]=pr b.1.toNat b.2.toNat:=by obtain⟨a,I,_⟩:=h;unfold pr;rw[Rc a,Rc ⋯]
section
variable{p:Int}{m:Nat}{w:DV}{m1 m4:DX}{T1 T2:DQ}{bs gv gm:List (Int×Int)}{c:Int×Int}{ts1 ts2 us1 us2:List TB}
theorem OH(O:m<=5){b:Int×Int}(I:xA ((m+1:Nat)) b)(J:xA ((m+1:Nat)) c):kE [.str (x9 m w),.tup [.int b.1,.int b.2],.tup [.int c.1,.int c.2]]=bB (.val<|.int<|i3 w b c):=by rw[uO I,uO J];obtain⟨a,Q,U⟩:=I;obtain⟨Y,g2,Z⟩:=J;exact Wi O ⋯ ⋯ ⋯ ⋯
theorem Fh(O:m<=5){b:Int×Int}(I:xA ((m+1:Nat)) b)(J:xA ((m+1:Nat)) c):qj [.str (x9 m w),.tup [.int b.1,.int b.2],.tup [.int c.1,.int c.2]]=bB (.val<|.int<|i3 w b c):=by rw[uO I,uO J];refine dt λQ=>?_;obtain⟨a,U,Y⟩:=I;obtain⟨Z,g2,g3⟩:=J;exact Q<|Fi O ⋯ ⋯ ⋯ ⋯
theorem dw(I:m<=5)(h:∀b∈bs,xA ((m+1:Nat)) b)(J:bs.length<=lim)(O:xA ((m+1:Nat)) c):qh [.str (x9 m w),.lst<|zN bs,.tup [.int c.1,.int c.2]]=bB (.val<|.int<|ka<|bs.map λb=>i3 w b c):=by
 have d:zI (.nm 0) ja (zA kE<|zc (zf 1)<|zc (zf 0)<|zc (zf 2) zG) [Cell.no,.val<|.str<|x9 m w,.val (.tup [.int c.1,.int c.2])] (zN bs)=bB (bs.map λb=>D.int<|i3 w b c):=by unfold zN;exact zl _ _ λb Q=>zo rfl rfl (by simp[OH I (h b Q) O])
 have U:(zN bs).length<=lim:=by simpa using J
 have Y:fu (bs.map λb=>D.int<|i3 w b c)=bB (ka<|bs.map λb=>i3 w b c):=by rw[<-ZI,Tn];rfl
 unfold qh;refine zQ ?_;have a:zH (zk 1) [Cell.val (.str<|x9 m w),.val<|.lst<|zN bs,.val (.tup [.int c.1,.int c.2])]=bB (zN bs):=rfl;show jO _ [_,_,_]=_;simp only[vw,ia,yB,kR,a];simp only[SR,U,if_true];rw[show z7 1 [0,2] _=[Cell.no,.val _,.val _]from rfl,d];simp[Y]
theorem Bf(J:m<=5)(j:∀b∈gv,xA ((m+1:Nat)) b)(O:∀b∈gm,xA ((m+1:Nat)) b)(Q:gv.length<=lim)(z:gm.length<=lim)(e:jJ [jX p m w m1 T1]=bB (.val<|xT gv ts1 us1))(U:jJ [jX p m w m4 T2]=bB (.val<|xT gm ts2 us2)):
 qe [jX p m w m1 T1,jX p m w m4 T2]=bB (.val<|.int<|ka<|gm.map λc=>ka<|gv.map λb=>i3 w b c):=by
 let I:=jX p m w m1 T1;let R2:=jX p m w m4 T2;have f:zI (.nm 0) ja (zA qh<|zc (zA xl<|zc (zf 1) zG)<|zc (zf 2)<|zc (zf 0) zG) [Cell.no,.val I,.val (.lst<|zN gv)] (zN gm)=bB (gm.map λc=>D.int<|ka<|gv.map λb=>i3 w b c):=by
  conv=>lhs;unfold zN
  exact zl _ _ λc Y=>zo (γ1:=[_,.val I,.val (.lst<|zN gv)]) rfl rfl (by simp[I,xV (p:=p) (w:=w) (wd:=m1) (T:=T1) (⋯:m<=900),dw J j Q (O c Y)])
 have Z:(zN gm).length<=lim:=by simpa using z
 have i:fu (gm.map λc=>D.int<|ka<|gv.map λb=>i3 w b c)=bB (ka<|gm.map λc=>ka<|gv.map λb=>i3 w b c):=by rw[<-ZI,Tn];rfl
 have g:jJ [I]=_:=e;have h:jJ [R2]=_:=U;have d:j7 [I,R2]=_:=((Jq (p:=p) (w:=w) (wd:=m1) (T:=T1) (wd':=m4) (T':=T2)<|show m<=900 by lia).2);show qe [I,R2]=_
 clear_value I R2
 unfold qe;refine zQ<|zu (γ':=[.val I,.val R2,.no]) (by simp[zZ,d])<|zu (γ':=[.val I,.val R2,.val (.lst<|zN gv)]) (by simp[g,xT,g5]) ?_;have a:zH (zJ<|di (zJ<|zA jJ<|zc (zf 1) zG)<|sI 0) [Cell.val I,.val R2,.val (.lst<|zN gv)]=bB (zN gm):=by simp[h,xT,g5]
 simp only[vw,ia,yB,kR,a];simp only[SR,Z,if_true];rw[show z7 1 [0,2] _=[Cell.no,.val I,.val _]from rfl,f];simp[i]
theorem zdT(O:m<=4)(Q:∀k,m1 k<=100)(Z:∀k,m4 k<=100):kW [jX p m w m1 T1,jX p m w m4 T2]=bB (.val<|.int<|(off m4 m1<|m+1)-(off (f7 w m4) (fM w m1) m)):=by
 have I:=(Jq (p:=p) (w:=w) (wd:=m1) (T:=T1) (wd':=m4) (T':=T2)<|show m<=900 by lia).2;have U:=Vl (p:=p) (w:=w) (wd:=m4) (T:=T2) (wd':=m1) (T':=T1) O;have J:=Eh (p:=p) (w:=w) (wd:=m4) (T:=T2) (wd':=m1) (T':=T1) O;have a:=Ja (hs:=m4) (n:=m+1) ⋯ Q;have b:=Ja (hs:=f7 w m4) (ws:=fM w m1) (n:=m) ⋯ (λk=>by unfold fM;split<;>exact Q _);have e:fz m w m4 m1=zi m _ _:=rfl;rw[e]at J;generalize jX p m w m1 T1=Y at I U J;generalize jX p m w m4 T2=R2 at I U J;unfold kW;refine zQ<|zu (γ':=[.val Y,.val R2]) (by simp[zZ,I]) ?_
 simp_all
theorem CG(O:m<=4){x y:Int}{I R2:D}(e:qe [I,R2]=bB (.val<|.int x))(J:kW [I,R2]=bB (.val<|.int y)):xY [I,R2]=bB (.val<|.int<|x-y):=by unfold xY;refine zQ ?_;simp[zZ,e,J]
end
noncomputable def IZ(w:DV)(a:Nat):Int:=if w (a-1)=cm then (a:Int)else -(a:Int)
noncomputable def IX(w:DV)(m b:Nat):Int:=if w b=cm then (b:Int)-m else (m:Int)-b
theorem IQ{w:DV}{a c:Nat}(h:s9 w a c=cm):a=c\/IZ w a<IZ w c:=by
 by_cases q:a=c
 ·exact .inl q
 ·right
  unfold s9 at h;simp only[q,decide_false,Bool.false_or,beq_iff_eq]at h;unfold IZ;by_cases l:a<c
  ·rw[show max a c=c by omega,decide_eq_true l]at h
   rw[DJ h];split<;>omega
  ·rw[show max a c=a by omega,decide_eq_false l]at h
   rw[DY (by rw[h];decide)];split<;>omega
theorem HD{w:DV}{m b d:Nat}(I:b<=m)(e:d<=m)(h:tf w b d=cm):b=d\/IX w m b<IX w m d:=by
 by_cases q:b=d
 ·exact .inl q
 ·right
  unfold tf at h;simp only[q,decide_false,Bool.false_or,beq_iff_eq]at h;unfold IX;lia
noncomputable def bJ(w:DV)(m:Nat)(b:Int×Int):Int:=IZ w b.1.toNat+IX w m b.2.toNat
theorem LF{w:DV}{m:Nat}{b c:Int×Int}(I:xA ((m+1:Nat)) b)(J:xA ((m+1:Nat)) c)(h:i3 w b c≠0):b=c\/bJ w m b<bJ w m c:=by
 obtain⟨d,e,f⟩:=I;obtain⟨g,i,j⟩:=J;have a:tW w b.1.toNat b.2.toNat c.1.toNat c.2.toNat=cm:=by unfold i3 at h;lia
 unfold tW at a;simp only[Td]at a;have l:=IQ a.2.1;have r:=HD (m:=m) ⋯ ⋯ a.2.2;unfold bJ;rcases l with l|l<;>rcases r with r|r
 ·left
  refine Prod.ext ?_ ?_<;>lia
 ·rw[l];right;lia
 ·rw[r];right;lia
 ·right;lia
theorem FZ{w:DV}{n:Int}{b:Int×Int}(I:xA n b):i3 w b b=1:=by obtain⟨a,J,O⟩:=I;unfold i3 tW s9 tf;rw[DJ];simp;lia
theorem JR{w:DV}{m:Nat}{c:Int×Int}(I:xA ((m+1:Nat)) c):∀bs:List (Int×Int),(∀b∈bs,xA ((m+1:Nat)) b)->ka (bs.map λb=>i3 w b c)=(bs.count c)+ka ((bs.filter λb=>decide<|bJ w m b<bJ w m c).map λb=>i3 w b c)
 |[],_=>rfl
 | b::bs,h=>by
  have J:=h b SO;rw[Tw];show i3 w b c+_=_;rw[(JR (w:=w) I bs λx O=>h x<|SQ _ O)];by_cases e:b=c
  ·subst e
   rw[List.filter_cons_of_neg ⋯,FZ J,List.count_cons_self];lia
  ·rw[List.count_cons_of_ne e]
   by_cases k:bJ w m b<bJ w m c
   ·rw[List.filter_cons_of_pos (by simpa using k)]
    show _=_+(i3 w b c+ka _);lia
   ·rw[List.filter_cons_of_neg (by simpa using k)]
    have z:=Decidable.byContradiction λQ=>(LF J I Q).elim e k;lia
theorem He{w:DV}{m:Nat}{j z:List (Int×Int)}(h1:∀b∈j,xA ((m+1:Nat)) b)(J:∀b∈z,xA ((m+1:Nat)) b)
 (e:∀c,xA ((m+1:Nat)) c->ka (j.map λb=>i3 w b c)=ka (z.map λb=>i3 w b c)):j.Perm z:=by
 have d:∀n c,(bJ w m c+100+4*m).toNat<n->j.count c=z.count c:=by
  intro n
  induction n with
  |zero=>lia
  | succ n Q=>
   intro c Y;by_cases a:xA ((m+1:Nat)) c
   ·have i:=JR (w:=w) a j h1
    have l:=JR (w:=w) a z J;have lo b:xA ((m+1:Nat)) b->0<=bJ w m b+100+4*m:=λI=>by obtain⟨f,g,h⟩:=I;unfold bJ IZ IX;split<;>split<;>lia
    have U:(j.filter λb=>decide<|bJ w m b<bJ w m c).Perm (z.filter λb=>decide<|bJ w m b<bJ w m c):=by
     rw[R0];intro b;by_cases k:bJ w m b<bJ w m c
     ·rw[List.count_filter (by simpa using k),List.count_filter (by simpa using k)]
      by_cases O:xA ((m+1:Nat)) b
      ·have:=lo b O
       exact Q b ⋯
      ·rw[Ud λI=>O<|h1 b I,Ud λI=>O (J b I)]
     ·rw[Ud (by simp[k]),Ud (by simp[k])]
    have:=nD<|U.map λb=>i3 w b c;have:=e c a;lia
   ·rw[Ud λI=>a<|h1 c I,Ud λI=>a (J c I)]
 rw[R0];exact λc=>d _ c<|Ur _
noncomputable def mM(p:Int)(n:Nat)(f g:DW):Nat->Nat->Int:=λi j=>zm (λk=>f i k*g k j) n%p
section
variable{p:Int}{m:Nat}{w:DV}{wd:DX}{f g T1 T2 F1 G1 F2 G2:DQ}{bs:List (Int×Int)}
theorem zdx(n:Nat)(f g:Nat->D):ZA ((SF n).map f) ((SF n).map g)=(SF n).map λi=>D.tup [f i,g i]:=by unfold ZA;rw[DB,Tn];rfl
theorem oq(I:0<p)(Z:p<=7)(z:m<=60)(J:∀k,wd k<=60)(O:∀k i j,k<m->i<wd k->j<wd k->0<=g k i j/\g k i j<p):qL [.int p,.lst<|qH m wd f,.lst (qH m wd g)]=bB (.own<|qH m wd λk=>mM p (wd k) (f k)<|g k):=by
 have n:=jb;have Q:m<=lim:=⋯
 have b:zI (.tp [0,1]) ja (zA wj<|zc (zf 2)<|zc (zf 0)<|zc (zf 1) zG) [Cell.no,.no,vI p] ((SF m).map λk=>D.tup [qk (wd k) (wd k) (f k),qk (wd k) (wd k) (g k)])=bB (qH m wd λk=>mM p (wd k) (f k)<|g k):=by
  unfold qH;refine zl _ _ λk U=>zo rfl rfl ?_;have o:=J k;have e:=bz (h:=wd k) (m:=wd k) (w:=wd k) (f k) (g k) I ⋯ ⋯ ⋯ (λi j d Y=>by have:=O k i j (SJ.mp U) d Y;lia);have l:(qk (wd k) (wd k) λi j=>zm (λx=>g k x j*f k i x) (wd k)%p)=qk (wd k) (wd k) (mM p (wd k) (f k)<|g k):=by congr 1;funext i j;unfold mM;rw[zB λx _=>Ui _ _]
  simp_all
 unfold qL;refine zQ ?_;show yb _ [_,_,_]=_;have a:bH (zf 1) (zf 2) [vI p,.val<|.lst<|qH m wd f,.val (.lst<|qH m wd g)]=bB ((SF m).map λk=>D.tup [qk (wd k) (wd k) (f k),qk (wd k) (wd k) (g k)]):=by show bB (ZA _ _)=_;unfold qH;rw[zdx]
 simp only[show yb _ _=(zM _ _ 2 [0] ja _ _).map _ from rfl,kR,a];simp only[SR,Ta,Ut,Q,if_true];rw[show z7 2 [0] _=[Cell.no,.no,vI p]from rfl,b];rfl
theorem Gw(J:0<p)(O:p<=7)(Z:m<=50)(Q:∀k,wd k<=60)(z:∀k i j,k<m+1->i<wd k->j<wd k->0<=G1 k i j/\G1 k i j<p)(E:∀k i j,k<m+1->i<wd k->j<wd k->0<=G2 k i j/\G2 k i j<p)
 (e:jJ [jX p m w wd T1]=bB (.val<|xT bs (xP m wd G1)<|xP m wd F1)) (I:jJ [jX p m w wd T2]=bB (.val<|xT bs (xP m wd G2)<|xP m wd F2)):
 K9 [jX p m w wd T1,jX p m w wd T2]=bB (.val (.tup [.str "alike",.lst (qH (m+1) wd λk=>mM p (wd k) (F2 k) (G1 k)),.lst (qH (m+1) wd λk=>mM p (wd k) (F1 k) (G2 k))])):=by
 have b:=jb;have U:=(Jq (p:=p) (w:=w) (wd:=wd) (T:=T1) (wd':=wd) (T':=T2)<|show m<=900 by omega).2;unfold xT at e I;rw[Vb,Vb]at e I;have a:=XQ (p:=p) (m:=m) (w:=w) (wd:=wd) (T:=T1);generalize jX p m w wd T1=zf7 at *;generalize jX p m w wd T2=R2 at *;have Y:=⋯
 exact zQ (by simp[zW,zZ,U,e,I,g5,gR<|JN bs,a,oq (f:=F2) J O ⋯ Q z,oq (f:=F1) J O ⋯ Q E,Y])
end
section
variable{m:Nat}{bs:List (Int×Int)}{b:Int×Int}
theorem Au(h:∀b∈bs,xA ((m+1:Nat)) b):lS (BZ (bS bs) (bE bs) bs.length) bs.length=bs:=by
 conv=>rhs;rw[Gc h]
 unfold lS;refine Tp λj I=>?_;have:=(Bl h<|SJ.mp I).2.1;show((bS bs j:Int),((bS bs j+(_+1)-1:Nat):Int))=_
 grind
theorem Ga(bs:List (Int×Int))(k:Nat):bW bs k<=bs.length:=by unfold bW Aw xy;exact Tf (Ro _ _) ⋯
end
abbrev zP(s:Nat×Nat):Int×Int:=((s.1:Int),(s.2:Int))
theorem Lu(x b:Int×Int):ip (.tup [.int x.1,.int x.2]) (.tup [.int b.1,.int b.2])=(x==b):=by rw[YU,F4];rfl
theorem gZ(b:Int×Int):∀bs,((zN bs).countP λd=>ip d<|.tup [.int b.1,.int b.2])=bs.count b
 |[]=>rfl
 |x::bs=>by show((_::zN bs).countP _)=_;simp only[_g,List.count_cons,(gZ b bs)];rw[Lu x b]
theorem wM{γ:Ctx}{g:CO (Sk×List D)}{f:CO D}{bs:List (Int×Int)}{b:Int×Int}(e:g γ=bB (.L,zN bs))(I:f γ=bB (.tup [.int b.1,.int b.2])):qR g f γ=bB (.int<|bs.count b):=by unfold qR;rw[e,I];show(if _/\_ then bB _ else cI)=_;rw[DJ ⟨rfl,ai bs⟩,gZ]
noncomputable def mx(e j:List (Int×Int))(s:Nat×Nat):Bool:=decide<|e.count (zP s)≠j.count (zP s)
section
variable{m:Nat}{w:DV}{gv gm:List (Int×Int)}
theorem aK{P:Nat×Nat->Bool}{g:Nat×Nat->D}{L:List (Nat×Nat)}{s:Nat×Nat}(h:L.find? P=bB s):((g5 ((L.filter P).map g).length 0).bind λk=>((L.filter P).map g)[k]?)=bB (g s):=by
 rw[<-Q_]at h;obtain⟨t,e⟩:∃t,L.filter P=s::t:=by
  cases q:L.filter P with
  |nil=>rw[q]at h;cases h
  |cons a t=>grind
 simp_all
noncomputable def Bu(w:DV)(gv gm:List (Int×Int))(s:Nat×Nat):Bool:=decide<|ka (gv.map λb=>i3 w b<|zP s)≠ka (gm.map λb=>i3 w b<|zP s)
noncomputable def LX(gv gm:List (Int×Int))(s t:Nat×Nat):D:=.tup [.str "apart",kD s,.int (gv.count (zP s):Nat),.int (gm.count (zP s):Nat),kD t]
theorem Bz{M:Nat}{s:Nat×Nat}(h:s∈stN M):xA M (zP s):=by obtain⟨a,I⟩:=B4.mp h;exact⟨⋯,⋯,⋯⟩
theorem CJ(I:m<=5)(e:∀b∈gv,xA ((m+1:Nat)) b)(J:∀b∈gm,xA ((m+1:Nat)) b)(O:gv.length<=lim)(j:gm.length<=lim){s:Nat×Nat}(hs:s∈stN (m+1)):qQ [.str (x9 m w),.lst<|zN gv,.lst<|zN gm,kD s]=bB (.val<|.bl<|Bu w gv gm s):=by
 have a:qh [.str (x9 m w),_,kD s]=_:=dw (c:=zP s) I e O<|Bz hs;have Q:qh [.str (x9 m w),_,kD s]=_:=dw (c:=zP s) I J j<|Bz hs;unfold qQ;refine zQ ?_;show jO _ [_,_,_,_]=_;unfold Bu
 simp_all
theorem Gi(Q:m<=5)(j:∀b∈gv,xA ((m+1:Nat)) b)(U:∀b∈gm,xA ((m+1:Nat)) b)(Y:gv.length<=lim)(z:gm.length<=lim){s t:Nat×Nat}(hs:(stN<|m+1).find? (mx gv gm)=bB s)(Z:(stN<|m+1).find? (Bu w gv gm)=bB t):
 K8 [.str (x9 m w),.lst<|zN gv,.lst (zN gm)]=bB (.val<|LX gv gm s t):=by
 have r:=jb;have I:=NK ⟨m+1,⋯⟩;have p:=(zd9 ⟨m+1,⋯⟩).2.2;dsimp only at I p;have J:((stN<|m+1).map kD).length<=lim:=by rw[Ta];lia
 let γ:Cell->Cell->Cell->Ctx:=λg h i=>[.val (.str<|x9 m w),.val<|.lst<|zN gv,.val<|.lst<|zN gm,g,h,i];let S:=Cell.val<|.lst<|(stN<|m+1).map kD;have n:jy 3 (j5<|jo qK<|zc (zD qw (iP<|zf 0)<|sI 1) zG) (γ .no .no .no)=bB (.next<|γ S .no .no):=by
  have f:qK [.int (m+1)]=bB (.own<|(stN<|m+1).map kD):=by rw[<-I];rfl
  simp[γ,S,QW,f,(ky (m:=m) w ⋯)]
 have o:jy 5 (di (je<|zM (zH<|zk 3) (.nm 0) 1 [0,1,2] Np (zf 0))<|sI 0) (γ S (.val<|kD s) .no)=bB (.next<|γ S (.val<|kD s)<|.val<|kD t):=by
  have e:zI (.nm 0) Np (zf 0) [Cell.no,.val<|.str<|x9 m w,.val<|.lst<|zN gv,.val (.lst<|zN gm)] ((stN<|m+1).map kD)=bB (((stN<|m+1).filter (Bu w gv gm)).map kD):=jk _ _ _ λx O=>⟨[.val (kD x),.val<|.str<|x9 m w,.val<|.lst<|zN gv,.val (.lst<|zN gm)],rfl,by
   simp[Np,(CJ (w:=w) Q j U Y z O)],λ_=>rfl⟩
  simp only[ib,Gk,yB,kR,show zH (zk 3) (γ S (.val<|kD s) .no)=bB ((stN<|m+1).map kD)from rfl,SR,DJ J,show z7 1 [0,1,2] (γ S (.val<|kD s) .no)=[Cell.no,.val<|.str<|x9 m w,.val<|.lst<|zN gv,.val (.lst<|zN gm)]from rfl,e];show DF _ ((g5 (((stN<|m+1).filter (Bu w gv gm)).map kD).length 0).bind λk=>(((stN<|m+1).filter (Bu w gv gm)).map kD)[k]?)=_;rw[aK Z];rfl
 rw[K8];refine zQ (zu n (zu (by
  have e:zI (.nm 0) Pc (zf 0) [Cell.no,.val<|.lst<|zN gv,.val (.lst<|zN gm)] ((stN<|m+1).map kD)=bB (((stN<|m+1).filter (mx gv gm)).map kD):=jk _ _ _ λx O=>⟨[.val (kD x),.val<|.lst<|zN gv,.val (.lst<|zN gm)],rfl,by
   have a:qR (zk 1) (zf 0) [.val (kD x),.val<|.lst<|zN gv,.val (.lst<|zN gm)]=bB (.int<|gv.count<|zP x):=wM rfl rfl;have d:qR (zk 2) (zf 0) [.val (kD x),.val<|.lst<|zN gv,.val (.lst<|zN gm)]=bB (.int<|gm.count<|zP x):=wM rfl rfl;unfold Pc mx;simp only[ie,yM,a,d];by_cases q:gv.count (zP x)=gm.count (zP x)
   ·simp[q]
   ·have l:¬((gv.count (zP x):Nat))=((gm.count<|zP x):Int):=⋯
    simp[q,l],λ_=>rfl⟩
  simp only[ib,Gk,yB,kR,show zH (zk 3) (γ S .no .no)=bB ((stN<|m+1).map kD)from rfl,SR,DJ J,show z7 1 [1,2] (γ S .no .no)=[Cell.no,.val<|.lst<|zN gv,.val (.lst<|zN gm)]from rfl,e];show DF _ ((g5 (((stN<|m+1).filter (mx gv gm)).map kD).length 0).bind λk=>(((stN<|m+1).filter (mx gv gm)).map kD)[k]?)=_;rw[aK hs];rfl) (zu o ?_)))
 have a:qR (zk 1) (zf 4) (γ S (.val<|kD s)<|.val<|kD t)=bB (.int<|gv.count<|zP s):=wM rfl rfl;have d:qR (zk 2) (zf 4) (γ S (.val<|kD s)<|.val<|kD t)=bB (.int<|gm.count<|zP s):=wM rfl rfl;simp only[vw,LK,wc,wc,wc,wc,wc,sW,a,d];rfl
end
theorem nM{F G:CO Fl}{γ:Ctx}{r:Res}(e:F γ=bB (.ret r)):zV F G γ=bB (.ret r):=by rw[zW,e];rfl
section
variable{m:Nat}{w:DV}{gv gm:List (Int×Int)}
theorem gk{c:Int×Int}(h:xA ((m+1:Nat)) c):∃s,s∈stN (m+1)/\zP s=c:=by
 obtain⟨a,I,J⟩:=h;refine⟨(c.1.toNat,c.2.toNat),B4.mpr ⟨by grind,⋯⟩,?_⟩
 grind
theorem FD(h1:∀b∈gv,xA ((m+1:Nat)) b)(J:∀b∈gm,xA ((m+1:Nat)) b)(O:¬gv.Perm gm):(∃s,(stN<|m+1).find? (mx gv gm)=bB s)/\∃t,(stN<|m+1).find? (Bu w gv gm)=bB t:=by
 constructor
 ·cases q:(stN<|m+1).find? _ with
  |some s=>exact⟨s,rfl⟩
  | none=>
   refine absurd (R0.mpr λc=>?_) O;by_cases a:xA ((m+1:Nat)) c
   ·obtain⟨s,d,rfl⟩:=gk a
    simpa[mx]using (Ri.mp q s d)
   ·rw[Ud λI=>a<|h1 c I,Ud λI=>a (J c I)]
 ·cases q:(stN<|m+1).find? _ with
  |some s=>exact⟨s,rfl⟩
  |none=>
   refine absurd (He (w:=w) h1 J λc a=>?_) O;obtain⟨s,d,rfl⟩:=gk a;simpa[Bu]using (Ri.mp q s d)
theorem II(e:gv.Perm gm):(stN<|m+1).find? (mx gv gm)=cI:=
 Ri.mpr λs _=>by simp[mx,e.count_eq]
end
section
variable{p:Int}{m:Nat}{w:DV}{wd m1 m4:DX}{T1 T2 F1 G1 F2 G2:DQ}{K1 K2:List (Int×Int)}
theorem Gv(z:m<=5)(e:jJ [jX p m w m1 T1]=bB (.val<|xT K1 (xP m m1 G1)<|xP m m1 F1))(Q:jJ [jX p m w m4 T2]=bB (.val<|xT K2 (xP m m4 G2)<|xP m m4 F2))(j:K1≠K2){d:D}(U:K8 [.str (x9 m w),.lst<|zN K1,.lst (zN K2)]=bB (.val d)):
 K9 [jX p m w m1 T1,jX p m w m4 T2]=bB (.val d):=by
 have Y:=(Jq (p:=p) (w:=w) (wd:=m1) (T:=T1) (wd':=m4) (T':=T2)<|show m<=900 by lia).2;have Z:=xV (p:=p) (w:=w) (wd:=m1) (T:=T1) (⋯:m<=900);unfold xT at e Q;generalize jX p m w m1 T1=J at *;generalize jX p m w m4 T2=R2 at *;have a:h8 (.lst<|zN K1) (.lst<|zN K2)=bB (.bl cm):=by unfold h8;rw[DJ ⟨JN _,JN _⟩];show bB (D.bl<|!p5 (zN K1) (zN K2))=_;rw[(aS K1 K2),decide_eq_false j];rfl
 unfold K9;generalize (xP m m1 G1)=X1 at *;generalize (xP m m1 F1)=Y1 at *;generalize (xP m m4 G2)=X2 at *;generalize (xP m m4 F2)=Y2 at *;let I:D:=.tup [.lst (zN K1),.lst<|X1.map tD,.lst (Y1.map tD)];let O:D:=.tup [.lst (zN K2),.lst<|X2.map tD,.lst (Y2.map tD)];refine zQ<|zu (γ':=[.val J,.val R2,.no,.no,.no,.no]) (by simp[zZ,Y])<|zu (γ':=[.val J,.val R2,.val I,.no,.no,.no]) (by simp[e,I])<|zu (γ':=[.val J,.val R2,.val I,.val O,.no,.no]) (by simp[Q,O])<|nM ?_;simp[I,O,g5,a,Z,U]
end
noncomputable def GO(s:Nat×Nat):Str:="apart " ++ (ye s.1++jw 45++ye s.2)
theorem LQ(x y:Cell):(stN 5).map (λs=>b_ [x,y,.val (kD s)])=(stN 5).map λs=>bB (.str<|GO s):=by kernel_rfl
theorem LM(x y:Cell)(A B C E:D):(stN 5).map (λs=>Ou [x,y,.val (.tup [A,kD s,B,C,E])])=(stN 5).map λs=>bB (.str<|GO s):=by kernel_rfl
theorem CT{m:Nat}(I:m<=4){s:Nat×Nat}(h:s∈stN (m+1)):s∈stN 5:=by obtain⟨a,b⟩:=B4.mp h;exact B4.mpr ⟨a,⋯⟩
theorem rP{P:Int×Int->Bool}{L M:List (Int×Int)}(I:L.Pairwise k0)(J:M.Pairwise k0)(h:∀b,P b=cm->(b∈L↔b∈M)):L.find? P=M.find? P:=by
 rw[<-Q_,<-Q_];have O:=I.filter P;have Q:=J.filter P;have e b:b∈L.filter P↔b∈M.filter P:=by rw[TR,TR];exact⟨λx=>⟨(h b x.2).mp x.1,x.2⟩,λx=>⟨(h b x.2).mpr x.1,x.2⟩⟩
 generalize L.filter P=A at *;generalize M.filter P=B at *;cases A with
 |nil=>cases B with
  |nil=>rfl
  |cons b B=>exact absurd ((e b).mpr SO) ⋯
 | cons a A=>cases B with
  |nil=>exact absurd ((e a).mp SO) ⋯
  |cons b B=>
   rw[Xf ((SS.mp<|(e b).mpr SO).elim (λq=>q ▸ va _) (((X_.mp O).1) _)) ((SS.mp<|(e a).mp SO).elim (λq=>q ▸ va _) (((X_.mp Q).1) _))];rfl
theorem nF:∀M:Fin 6,((stN M.val).map zP).Pairwise λx y=>Jx y x=cT:=by decide +kernel
section
variable{m:Nat}{w:DV}{K1 K2:List (Int×Int)}
noncomputable def Dt(K1 K2:List (Int×Int))(m:Nat):Str:=((stN (m+1)).find? (mx K1 K2)).elim "alike" GO
theorem Lq(J:m<=4)(e:∀b∈K1,xA ((m+1:Nat)) b)(I:∀b∈K2,xA ((m+1:Nat)) b):(ya<|K1++K2).find? (λb=>decide<|K1.count b≠K2.count b)=((stN<|m+1).find? (mx K1 K2)).map zP:=by
 rw[show mx K1 K2=(λb=>decide<|K1.count b≠K2.count b)∘zP from rfl,<-List.find?_map];refine rP (vE _) (nF ⟨m+1,⋯⟩) λb O=>?_;rw[(xF _).mem_iff,Uo,Tb];refine⟨λh=>gk<|h.elim (e b)<|I b,λ_=>?_⟩
 grind
theorem Se(O:m<=4)(L:List (Int×Int)):∀c,(∀b∈L,xA ((m+1:Nat)) b)->∃I,yd (.nm 2) Lr (zN L) [.val (.lst<|zN K1),.val<|.lst<|zN K2,c]=match L.find? (λb=>decide<|K1.count b≠K2.count b)with
 |some b=>bB (.ret<|.val<|.str<|GO (b.1.toNat,b.2.toNat))
 |none=>bB (.next [.val (.lst<|zN K1),.val<|.lst<|zN K2,I]):=by
 induction L with
 |nil=>exact λc _=>⟨c,rfl⟩
 | cons b L J=>
  intro c h;obtain⟨I,J⟩:=J (.val<|.tup [.int b.1,.int b.2]) λx Q=>h x<|SQ _ Q;refine⟨I,?_⟩;have U:=h b SO;obtain⟨s,f,rfl⟩:=gk U;let a:Ctx:=[.val (.lst<|zN K1),.val<|.lst<|zN K2,.val (kD s)];have d:qR (zk 0) (zf 2) a=bB (.int<|K1.count<|zP s):=wM rfl rfl;have e:qR (zk 1) (zf 2) a=bB (.int<|K2.count<|zP s):=wM rfl rfl;rw[show zN _=kD s::zN L from rfl,xI,zt];show((Lr a).bind _)=_;have Y:Lr a=if K1.count (zP s)=K2.count (zP s)then bB (.next a)else bB (.ret<|.val<|.str<|GO s):=by
   unfold Lr;rw[JX,ie,yM,d,e,vw,av (LQ _ _) (CT O f)];by_cases q:K1.count (zP s)=K2.count (zP s)
   ·simp[q]
   ·have Z:¬((K1.count (zP s):Nat))=((K2.count<|zP s):Int):=⋯
    simp[q,Z]
  rw[Y];by_cases q:K1.count (zP s)=K2.count (zP s)
  ·rw[DJ q,decide_eq_false λz=>z q]
   exact J
  ·rw[DY q,decide_eq_true q]
   rfl
theorem Fz(I:m<=4)(j:∀b∈K1,xA ((m+1:Nat)) b)(J:∀b∈K2,xA ((m+1:Nat)) b)(U:K1.length<=5)(z:K2.length<=5):qN [.lst (zN K1),.lst (zN K2)]=bB (.val<|.str<|Dt K1 K2 m):=by
 have Y:=jb;obtain⟨Z,e⟩:=Se I _ .no λb O=>(Uo.mp<|(xF _).mem_iff.mp O).elim (j b) (J b);have Q:nH (zN K1++zN K2)=bB (zN<|ya<|K1++K2):=by rw[<-WJ (by rw[Tt];lia)];unfold zN;rw[Ue]
 have a:zH (zJ<|j5<|fE<|zJ<|j5<|WQ (zk 0)<|zk 1) [.val (.lst<|zN K1),.val<|.lst<|zN K2,.no]=bB (zN<|ya<|K1++K2):=by
  have:K1.length+K2.length<=lim:=⋯
  simp[this,Q,j6]
 rw[Lq I j J]at e;rw[qN];refine zQ ?_;show zV _ _ [_,_,.no]=_;rw[zW,KU,a,SR,e];unfold Dt;cases (stN<|m+1).find? _<;>rfl
theorem Gu{p:Int}{e E:DX}{T1 T2 F1 F2 H L:DQ}(hp:Pr p)(U:m<=4)(S:∀b∈K1,xA ((m+1:Nat)) b)(O:∀b∈K2,xA ((m+1:Nat)) b)(l1:K1.length<=5)(l2:K2.length<=5)(s1:ya K1=K1)(s2:ya K2=K2)(hw:K1=K2->e=E)(Z:∀k,e k<=60)
 (b1:∀k i j,k<m+1->i<e k->j<e k->0<=H k i j/\H k i j<p) (b2:∀k i j,k<m+1->i<E k->j<E k->0<=L k i j/\L k i j<p)
 (M:jJ [jX p m w e T1]=bB (.val<|xT K1 (xP m e H)<|xP m e F1)) (Q:jJ [jX p m w E T2]=bB (.val<|xT K2 (xP m E L)<|xP m E F2)):
 yt [jX p m w e T1,jX p m w E T2]=bB (.val<|.str<|Dt K1 K2 m):=by
 have h:=jb;by_cases q:K1=K2
 ·obtain rfl:=hw q
  subst q;have I:=Gw hp.pos hp.le ⋯ Z b1 b2 M Q;generalize jX p m w e T1=J at *;generalize jX p m w e T2=R2 at *;unfold Dt;rw[(II (m:=m) (List.Perm.refl K1))];generalize (D.lst _)=X at I;generalize (D.lst _)=Y at I;refine zQ (zu (γ':=[.val J,.val R2,.val (.tup [.str "alike",X,Y])]) (by simp[zZ,SI,I]) (vG ?_))
  kernel_rfl
 ·have f:=λz=>q (by rw[<-s1,<-s2,yP z])
  obtain⟨⟨s,a⟩,t,d⟩:=FD S O f;have I:=Gv ⋯ M Q q (Gi ⋯ S O ⋯ ⋯ a d);have g:=av (LM (.val (jX p m w e T1)) (.val (jX p m w E T2)) (.str "apart") (.int (K1.count (zP s))) (.int (K2.count (zP s))) (kD t)) (CT U (L_ a));generalize jX p m w e T1=J at *;generalize jX p m w E T2=R2 at *;unfold Dt;rw[a];refine zQ (zu (γ':=[.val J,.val R2,.val (LX K1 K2 s t)]) (by simp[zZ,SI,I]) (zu (γ':=[.val J,.val R2,.val (LX K1 K2 s t)]) (by unfold LX;kernel_rfl) ?_));show(Ou _).map _=_;unfold LX;rw[g];rfl
end
section
variable{m:Nat}{w:DV}{K1 K2:List (Int×Int)}
theorem Bs{bs:List (Int×Int)}(h:bs.length<=lim)(r:Nat):jq [.lst (zN bs),.int r]=bB (.own<|BV<|qV bs r):=yo h _
theorem Hj(I:m<=5){b:Int×Int}(J:xA ((m+1:Nat)) b)(O:∀c∈K2,xA ((m+1:Nat)) c)(e:K2.length<=lim){γ:Ctx}{i:Nat}{pl:List Nat}(s:zH (zk i) γ=bB (zN K2))(Q:z7 1 pl γ=[Cell.no,.val<|.str<|x9 m w,.val (.tup [.int b.1,.int b.2])]):
 iN (je<|zM (zH<|zk i) (.nm 0) 1 pl ja<|zA qj<|zc (zf 1)<|zc (zf 2)<|zc (zf 0) zG) γ=bB (.int<|ka<|K2.map λc=>i3 w b c):=by
 have a:zI (.nm 0) ja (zA qj<|zc (zf 1)<|zc (zf 2)<|zc (zf 0) zG) [Cell.no,.val<|.str<|x9 m w,.val (.tup [.int b.1,.int b.2])] (zN K2)=bB (K2.map λc=>D.int<|i3 w b c):=by unfold zN;exact zl _ _ λc U=>zo rfl rfl (by simp[Fh I J (O c U)])
 have Y:fu (K2.map λc=>D.int<|i3 w b c)=bB (ka<|K2.map<|i3 w b):=by rw[<-ZI,Tn];rfl
 have Z:(zN K2).length<=lim:=by simpa using e
 simp only[ia,yB,kR,s];simp only[SR,Z,if_true];rw[Q,a];simp[Y]
abbrev uj(m:Nat)(w:DV)(K1 K2:List (Int×Int))(x:Int)(c4 c5 c6 c7 c8:Cell):Ctx:=[.val (.str (x9 m w)),.val (.lst (zN K1)),.val (.lst (zN K2)),vI x,c4,c5,c6,c7,c8]
theorem Ll(I:m<=5)(J:∀c∈K2,xA ((m+1:Nat)) c)(z:K2.length<=lim):∀L x j,(∀b∈L,xA ((m+1:Nat)) b)->∃O,yd (.nm 4) Mn (zN L) (uj m w K1 K2 x j .no .no .no .no)=bB (.next<|uj m w K1 K2 (x+ka (L.map λb=>ka<|K2.map λc=>i3 w b c)) O .no .no .no .no)
 |[],x,j,_=>⟨j,by simp[zN,yd,ka]⟩
 |b::L,x,j,h=>by obtain⟨Q,e⟩:=Ll I J z L _ _ λy U=>h y<|SQ _ U;refine⟨Q,?_⟩;show((Mn<|uj m w K1 K2 x _ .no .no .no .no).bind _)=_;unfold Mn at e ⊢;rw[ib,yM,Hj (γ:=uj m w K1 K2 x (.val _) .no .no .no .no) (i:=2) (pl:=[0,4]) I (h b SO) J z rfl rfl,Tw,ka,<-R3,<-e];rfl
theorem GW(H:m<=4)(z:∀b∈K1,xA ((m+1:Nat)) b)(O:∀b∈K2,xA ((m+1:Nat)) b)(Q:K1.length<=5)(L:K2.length<=5):
 yO [.str (x9 m w),.lst<|zN K1,.lst (zN K2)]=bB (.val<|.int<|ka (K1.map λb=>ka<|K2.map λc=>i3 w b c)-((off (hC K2) (hC K1)<|m+1)-(off (f7 w<|hC K2) (fM w<|hC K1) m))):=by
 have E:=jb;have G:=Bs (bs:=K1) ⋯;have K:=Bs (bs:=K2) ⋯;have l k:hC K1 k<=5:=Tf (W2 K1 k) Q;generalize U:ka _=S;obtain⟨I,A⟩:=Ll ⋯ O ⋯ K1 0 .no z;rw[T9,U]at A;have u:∀(k:Nat) (y:Int),bK (hC K1 k:Int) y=cm:=λk y=>vt _ _ ⋯ (by have:=l k;lia);refine dt λY=>?_;obtain⟨p,B,a,rfl⟩:=JP (T:=.nm 5) (F:=Nx) (f:=zD qw (iP<|zf 0)<|sI 1) (λs γ=>∃c,γ=uj m w K1 K2 (S-(off (hC K2) (hC K1) s)) I c .no .no .no) (m+1) ⋯ (γ:=uj m w K1 K2 S I .no .no .no .no) (by simp[QW,ky w (⋯:m<=1000)]) ⟨.no,by simp[off]⟩ λs o γ J=>by
  obtain⟨c,rfl⟩:=J;refine⟨_,_,rfl,?_,vI s,rfl⟩;unfold Nx;have e:S-(off (hC K2) (hC K1) s:Int)-(hC K1 s:Int)*(hC K2 s:Int)=S-(off (hC K2) (hC K1) (s+1):Int):=by simp only[off,Int.natCast_add,Int.natCast_mul,Ui];lia
  unfold hC at *
  simp_all
 obtain⟨r,C,d,h,i,rfl⟩:=vZ (T:=.tp [6,7]) (F:=Ph) (g:=λ(k:Nat)=>D.tup [.int k,.str (jw<|fL<|w k)]) (λs γ=>∃d h i,γ=uj m w K1 K2 (S-(off (hC K2) (hC K1)<|m+1)+(off (f7 w<|hC K2) (fM w<|hC K1) s)) I a d h i) m (γ:=uj m w K1 K2 (S-(off (hC K2) (hC K1) (m+1):Int)) I a .no .no .no) ⟨.no,.no,.no,by simp[off]⟩ λs o γ J=>by
  obtain⟨d,h,i,rfl⟩:=J;generalize S-_=Z;refine⟨_,_,rfl,?_,vI s,.val<|.str<|jw<|fL<|w s,vI<|jV w s,rfl⟩;have e:Z+(off (f7 w<|hC K2) (fM w<|hC K1) s:Int)+(hC K1 (jV w s):Int)*(hC K2 (jS w s):Int)=Z+(off (f7 w<|hC K2) (fM w<|hC K1) (s+1):Int):=by simp only[off,vY,wY,Int.natCast_add,Int.natCast_mul,Ui];lia
  have n:(s:Int)+(if w s=cm then 1 else 0)=(jV w s:Nat):=by unfold jV;split<;>lia
  have x:(2:Int)*s+1-(jV w s:Nat)=(jS w s:Nat):=by unfold jV jS;split<;>lia
  have t:bK 2 (s:Int)=cm:=vt _ _ ⋯ ⋯;refine zu (γ':=uj m w K1 K2 (Z+(off (f7 w<|hC K2) (fM w<|hC K1) s:Int)) I a (vI s) (.val<|.str<|jw<|fL<|w s)<|vI (jV w s:Nat)) ?_ ?_
  ·simp[aR,<-n]
  ·unfold hC at *
   simp_all
 refine Y ?_;have j:Yz (zf 0) (uj m w K1 K2 (S-(off (hC K2) (hC K1) (m+1):Int)) I a .no .no .no)=bB (qB<|qZ<|x9 m w):=by simp[ky w (⋯:m<=1000)]
 simp only[yO,show S-((off (hC K2) (hC K1) (m+1):Int)-(off (f7 w<|hC K2) (fM w<|hC K1) m:Int))=S-(off (hC K2) (hC K1) (m+1):Int)+(off (f7 w<|hC K2) (fM w<|hC K1) m:Int)by lia];exact zQ<|zu (γ':=uj m w K1 K2 0 .no .no .no .no .no) rfl<|zu A<|zu B<|zu (by simp only[KU,j,aU];exact C) rfl
end
theorem Cq{m:Nat}{bs:List (Int×Int)}(h:∀b∈bs,xA ((m+1:Nat)) b):hC bs=bW bs:=funext λr=>congrArg DM<|fY h r
theorem LI{p:Int}{m:Nat}{w:DV}{bs:List (Int×Int)}(z:Pr p)(U:m<=5)(h:∀b∈bs,xA ((m+1:Nat)) b)(Y:ya bs=bs)(E:bs.length<=8){f g:DQ}(J:∀k,k<m+1->Pair p (bW bs k) (f k) (g k)):
 ∃G F,(∀k i j,k<m+1->0<=G k i j/\G k i j<p)/\jJ [jX p m w (bW bs) (XA p w (bW bs) f g<|bT w bs)]=bB (.val<|xT bs (xP m (bW bs) G)<|xP m (bW bs) F):=by
 have O:=z.pos;have a k:bW bs k<=8:=by have:=Ga bs k;lia
 refine dt λZ=>?_;obtain⟨N,A,G,_,d,cnt,Q,st,l⟩:=mE z ⋯ ⋯ a U λk i j _ _ _=>eX O w (bW bs) f g (bT w bs) k i j;refine Z ?_;have e X M:lS X M=(AB X M).map zP:=by unfold lS AB;rw[Tn];rfl
 have s:(lS A N).Perm bs:=by rw[<-(Au h),e,e];exact(pd z (FK z (λk=>Tf (a k) ⋯) d cnt λr I v=>⟨_,λi n=>(QX (Q r I).1 v n).symm⟩)<|ng O (λr I=>(J r ⋯).fg) (λr I=>(J r ⋯).gf)<|Av (w:=w) z λj o=>(Bl h o).2).map _
 refine⟨G,(Jp A N),λk i j t=>(Q k ⋯).2.2 i j,?_⟩;rw[l,<-st,show((SF N).map _)=lS A N from rfl,yP s,Y]
section
variable{q:Int}{m:Nat}{w:DV}{wd:DX}{T:DQ}{P:Str}
abbrev wX(q:Int)(m:Nat)(w:DV)(wd:DX)(T:DQ):List D:=(qc q w wd T m).map D.str
theorem GU:wX q m w wd T ≠ []:=λz=>by have:=congrArg DM z;rw[Ta,jL]at this;simp at this
theorem iF(I:q=2\/q=3\/q=5\/q=7)(J:m<=5)(O:∀k i j,0<=T k i j/\T k i j<q)(h:∀k,wd k<=30)(hs:zm (λk=>(wd k)) (m+1)<=30):jZ [.d9,.str (("row" ++ jw 32)++vy q m w wd T)]=bB (.str (vy q m w wd T),jX q m w wd T):=by
 have U:∀k i j,_/\T k i j<10:=λk i j=>⟨(O k i j).1,by have:=(O k i j).2;lia⟩;have Q:("row" : Str)∈t7:=by decide +kernel
 have a:j5 _ _=bB (.lst (.str "row" :: wX q m w wd T)):=YL Q I J U h .no .no;have Z:jG [.lst (.str "row" :: wX q m w wd T)]=_:=ZN I J O h hs;have b:=YV Q (GU (q:=q) (m:=m) (w:=w) (wd:=wd) (T:=T));generalize D.str (_++_)=l at a;generalize wX q m w wd T=X at *;have d:K6 [.d9,.lst (.str "row" :: X)]=bB (.val (jX q m w wd T)):=by refine zQ (zu (γ':=[.val .d9,.val (.lst (.str "row" :: X)),.val (.str "row"),.no]) (by simp[zZ,SI,g5]) (vG ?_));rw[JX,show sB _ _=bB cm from by kernel_rfl];simp[Z,iR]
 show(j5 _ _).bind _=_;have tA:kc (sB (zA xO (zc (zf 2) zG))) [.no,.val l,.val (.lst (.str "row" :: X))]=bB cT:=by simp[kc,b]
 have Y:=gH .no (.val l) "row" X;have tB:sB (zD h8 (di (zk 2) (sI 0)) (jn (.str "row"))) [.no,.val l,.val (.lst (.str "row" :: X))]=bB cT:=by
  unfold sB;rw[yM,Y]
  kernel_rfl
 have tC:sB (kJ (di (zk 2) (sI 0)) (zJ (jn (.tup [.str "row",.str "beside",.str "cut",.str "mirror",.str "opposite",.str "about",.str "split"])))) [.no,.val l,.val (.lst (.str "row" :: X))]=bB cT:=by refine Eq.trans ?_ (av (f_ .no (.val l) (.val (.lst (.str "row" :: X)))) Q);unfold sB kJ;rw[Y];rfl
 simp only[a,SR,tA,SR,DY TL];show(Nh (sB _ _) _)=_;rw[tB,SR,DY TL,tC,SR,DY TL,d,SR];show(wQ [jX q m w wd T]).map _=_;rw[(cp (w:=w) I J U h)];rfl
theorem Va(I:P∈t7)(c7:g_ P=cm)(J:q=2\/q=3\/q=5\/q=7)(O:m<=5)(Q:∀k i j,0<=T k i j/\T k i j<10)(h:∀k,wd k<=30){a b c:D}{t:Str}(z:j3 [.tup [a,b,c],.lst (.str P::wX q m w wd T)]=bB (.val<|.str t)):jZ [.tup [a,b,c],.str ((P++jw 32)++vy q m w wd T)]=bB (.str t,.tup [a,b,c]):=by
 have d:j5 _ _=bB (.lst (.str P::wX q m w wd T)):=YL I J O Q h .no .no;have e:=YV I (GU (q:=q) (m:=m) (w:=w) (wd:=wd) (T:=T));generalize D.str (_++_)=l at d;generalize wX q m w wd T=X at *;have tC:sB (kJ (di (zk 2) (sI 0)) (zJ (jn (.tup [.str "row",.str "beside",.str "cut",.str "mirror",.str "opposite",.str "about",.str "split"])))) [.no,.val l,.val (.lst (.str P::X))]=bB cm:=by refine Eq.trans ?_ (c7 ▸ av (f_ .no (.val l) (.val (.lst (.str P::X)))) I);unfold sB kJ;rw[gH];rfl
 show(j5 _ _).bind _=_
 simp_all
theorem Gr{R:D}{X:List D}(P:Str){f:CO Fl}{r:Res}(e:j3=jf 3 (zV (jy 2<|di (zk 1)<|sI 0) f))(h:f [.val R,.val<|.lst (.str P::X),.val (.str P)]=bB (.ret r)):j3 [R,.lst (.str P::X)]=bB r:=by rw[e];exact zQ<|zu (by simp[zZ,SI,g5]) h
theorem Gm{R S:D}{X:List D}{x:Int}{t:Str}(J:jG [.lst (.str "ways" :: X)]=bB (.val S))(e:qe [R,S]=bB (.val (.int x)))(I:qt (sI x) []=bB (.str t)):j3 [R,.lst (.str "ways" :: X)]=bB (.val (.str t)):=by refine Gr "ways" rfl ?_;let a:Ctx:=[.val R,.val (.lst (.str "ways" :: X)),.val (.str "ways")];refine zu (γ':=a) (by kernel_rfl) (zu (γ':=a) (by kernel_rfl) (zu (γ':=a) (by kernel_rfl) (vG ?_)));rw[JX,show sB _ a=bB cm from by kernel_rfl];unfold qt at *;simp at I;simp[a,J,e,iR,qt,I]
theorem Gn{R S:D}{X:List D}{x:Int}{t:Str}(J:jG [.lst (.str "upon" :: X)]=bB (.val S))(e:xY [R,S]=bB (.val (.int x)))(I:qt (sI x) []=bB (.str t)):j3 [R,.lst (.str "upon" :: X)]=bB (.val (.str t)):=by refine Gr "upon" rfl ?_;let a:Ctx:=[.val R,.val (.lst (.str "upon" :: X)),.val (.str "upon")];refine zu (γ':=a) (by kernel_rfl) (zu (γ':=a) (by kernel_rfl) (zu (γ':=a) (by kernel_rfl) (zu (γ':=a) (by kernel_rfl) (vG ?_))));rw[JX,show sB _ a=bB cm from by kernel_rfl];unfold qt at *;simp at I;simp[a,J,e,iR,qt,I]
theorem Gp{R S:D}{X:List D}{t:Str}(I:jG [.lst (.str "alike" :: X)]=bB (.val S))(e:yt [R,S]=bB (.val (.str t))):j3 [R,.lst (.str "alike" :: X)]=bB (.val (.str t)):=by refine Gr "alike" rfl ?_;let a:Ctx:=[.val R,.val (.lst (.str "alike" :: X)),.val (.str "alike")];refine zu (γ':=a) (by kernel_rfl) (zu (γ':=a) (by kernel_rfl) (zu (γ':=a) (by kernel_rfl) (zu (γ':=a) (by kernel_rfl) (zu (γ':=a) (by kernel_rfl) ?_))));simp[a,I,e,iR]
end
section
variable{m:Nat}{wd:DX}
theorem By(I:m<=5)(h:∀k,wd k<=5):zm (λk=>(wd k)) (m+1)<=30:=by
 have:∀n,zm (λk=>(wd k)) n<=5*n:=λn=>by
  induction n with
  |zero=>simp[zm]
  |succ n J=>have:=h n;simp only[zm];lia
 have:=this<|m+1;lia
end
section
variable{p:Int}{m:Nat}{w:DV}{wd:DX}{T:DQ}
theorem CM{h v:Nat}{f:DW}(I:∀i j,0<=f i j/\f i j<10):(fi h v f).length<=h*(v+1):=by
 rw[qp,nv];have:=wL (c:=47) (n:=v) (l:=(SF h).map λi=>h7<|aQ v<|f i) λa b=>by obtain⟨i,_,rfl⟩:=Tb.mp b;rw[YS (I i)];simp
 rwa [Ta,Ut]at this
theorem mX{n:Nat}(h:n<=30):(ye n).length<=2:=by
 have:∀i:Fin 31,(ye<|(i.val:Nat)).length<=2:=by decide +kernel
 exact this ⟨n,⋯⟩
theorem oj(e:p=2\/p=3\/p=5\/p=7)(U:m<=5)(J:∀k i j,0<=T k i j/\T k i j<10)(h:∀k,wd k<=30)(hs:∀k,f7 w wd k*(fM w wd k+1)<=70):zU (vy p m w wd T)=cm:=by
 have O s:∀x∈qc p w wd T s,x.length<=72:=by
  induction s with
  |zero=>
   intro x I;simp only[qc,SS,List.mem_nil_iff,or_false]at I;rcases I with rfl|rfl
   ·rcases e with rfl|rfl|rfl|rfl<;>decide +kernel
   ·have:=mX<|h 0;lia
  | succ s Q=>
   intro x I;rw[qc]at I;rcases Uo.mp I with I|I
   ·exact Q x I
   ·simp only[SS,List.mem_nil_iff,or_false]at I
    rcases I with rfl|rfl
    ·have t:=CM (h:=f7 w wd s) (v:=fM w wd s) (J s)
     have:=hs s;have o c:(jw c).length=1:=rfl;unfold KQ Wx;split<;>(rw[qp,vp,vp,Tt,Tt,<-qp,<-qp,<-qp,o,o];lia)
    ·have:=mX<|h<|s+1;lia
 refine decide_eq_true ?_;rw[qp];unfold vy;rw[xk];have:=wL (c:=32) λa b=>by obtain⟨x,I,rfl⟩:=Tb.mp b;rw[<-qp];exact O m x I
 rw[Ta,jL]at this;lia
end
noncomputable def GS(i:Nat)(k:Int):CO D:=zA qC<|zc (zA qX<|zc (zf 0)<|zc (sI k)<|zc (zA qE<|zc (zf 2)<|zc (zf 4)<|zc (zf i) zG) zG) zG
noncomputable def Mi:ZC:=mK 7 (.nm 9)<|zD qw (zf 9)<|iN<|je<|zM (zH<|zk 6) (.nm 0) 1 [4,10] ja (zA qj<|zc (zf 1)<|zc (zf 2)<|zc (zf 0) zG)
noncomputable def Mg:ZT:=tX (QL jZ (xR (jn (.str "ways ")) (zf 8))) (qt (zf 9))
noncomputable def Mh:ZT:=tX (QL jZ (xR (jn (.str "upon ")) (zf 8))) (qt (zA yO (zc (zf 4) (zc (zf 5) (zc (zf 6) zG)))))
noncomputable def Mj:ZT:=tX (QL jZ (xR (jn (.str "alike ")) (zf 8))) (zA qN (zc (zf 5) (zc (zf 6) zG)))
noncomputable def F':=WO 7 (Wj (MF (QL jZ (xR (jn (.str "row ")) (GS 5 20)))) (Wj (mK 7 (.nm 8) (GS 6 140)) (Wj (mK 7 (.nm 9) (sI 0)) (Wj (tY 7 (zH (zJ (zf 5))) (.nm 10) Mi) (Wj (tY 7 (jr (sI 2)) (.nm 11) (Wj (wh (FY Mg Mh)) (wh Mj))) (Nv (jn (.bl cm))))))))
theorem GV:K4=jf 12 (zV O5<|zV O6<|zV O7<|zV O8<|zV O9<|zV Pa<|zV FW F'):=rfl
theorem GB{A B:ZC}{γ γ':Ctx}{d d':D}(e:A γ d=bB (.next γ',d')):Wj A B γ d=B γ' d':=by unfold Wj;rw[e];rfl
theorem Nt{i:Nat}{T:Tg}{f:CO D}{γ γ':Ctx}{d v:D}(I:iE i T=cm)(e:f γ=bB v)(b:qx T v γ=bB γ'):mK i T f γ d=bB (.next γ',d):=by unfold mK;rw[DJ I,e,SR,b];rfl
theorem Cy{t:Str}{γ:Ctx}{R:D}{P x:Str}{j:CO D}(c:zU (P++jw 32)=cm)(s:zU x=cm)(I:zf 8 γ=bB (.str x))(e:jZ [R,.str ((P++jw 32)++x)]=bB (.str t,R))(r:j γ=bB (.str t))(ok:i5 (.str t)=cm):tX (QL jZ<|xR (jn<|.str<|P++jw 32)<|zf 8) j γ R=bB (cT,R):=by unfold tX QL;rw[dR rfl I c s,SR,e,SR,r,SR,gR ok];rfl
theorem Oc:∀i:Fin 401,i5 (.str<|ye<|(i.val:Int)-200)=cm:=by decide +kernel
theorem BQ{x:Int}(e : -200<=x)(I:x<=200):i5 (.str<|ye x)=cm:=by
 have:=Oc ⟨(x+200).toNat,⋯⟩
 rwa [show(((x+200).toNat:Nat))-200=x by lia]at this
theorem Sl:(stN 5).all (λs=>i5<|.str<|GO s)=cm:=by decide +kernel
theorem bR{e:Type}{f:e->Int}{B:Int}:∀L:List e,(∀x∈L,0<=f x/\f x<=B)->0<=ka (L.map f)/\ka (L.map f)<=L.length*B
 |[],_=>by simp[ka]
 |x::L,h=>by have:=bR L λy I=>h y<|SQ _ I;have J:=h x SO;simp only[Tw,ka,TQ];lia
theorem Fb{hs ws:DX}(e:∀k,hs k<=5)(I:∀k,ws k<=5):∀n,off hs ws n<=n*25
 |0=>by simp[off]
 |n+1=>by have:=Fb e I n;have:=Nat.mul_le_mul (e n)<|I n;rw[off];lia
section
variable{m:Nat}{w:DV}{K2:List (Int×Int)}{c0 c1 c2 c3 c5 c7 c8 c11:Cell}{R:D}
theorem Lj(I:m<=5)(J:∀c∈K2,xA ((m+1:Nat)) c)(z:K2.length<=lim):∀L x j,(∀b∈L,xA ((m+1:Nat)) b)->∃O,ZG (.nm 10) Mi (zN L) [c0,c1,c2,c3,.val<|.str<|x9 m w,c5,.val<|.lst<|zN K2,c7,c8,vI x,j,c11] R=bB (.next [c0,c1,c2,c3,.val<|.str<|x9 m w,c5,.val<|.lst<|zN K2,c7,c8,vI<|x+ka (L.map λb=>ka<|K2.map λc=>i3 w b c),O,c11],R)
 |[],x,j,_=>⟨j,by simp[zN,ZG,ka]⟩
 |b::L,x,j,h=>by obtain⟨Q,e⟩:=Lj I J z L _ _ λy U=>h y<|SQ _ U;refine⟨Q,?_⟩;let γ:=λx=>[c0,c1,c2,c3,.val<|.str<|x9 m w,c5,.val<|.lst<|zN K2,c7,c8,vI x,.val<|.tup [.int b.1,.int b.2],c11];have s:Mi (γ x) R=_:=Nt rfl (by rw[yM,(Hj (γ:=γ x) (i:=6) (pl:=[4,10]) I (h b SO) J z rfl rfl)];rfl) rfl;rw[show zN (b::L)=_::zN L from rfl,ZG,show qx (.nm 10) _ _=bB (γ x)from rfl,SR,s,Tw,ka,<-R3,<-e];rfl
end
theorem Oj(ns:List Int)(a9:ns.length<=63):K4 [Wm ns]=bB (.val<|.bl cm):=by
 have hl:=jb;refine dt λkZ=>?_;obtain⟨e1,a1,b1⟩:=V3 a9 (k:=0) ⋯ ⋯;generalize JW ns 0=c at e1 a1 b1;obtain⟨q,hp,ep,b9⟩:=Ii a1;have A:(q:Int)=2\/(q:Int)=3\/(q:Int)=5\/(q:Int)=7:=hp;obtain⟨m,em,X⟩:∃m:Nat,1+c/4%5=1+m/\m<=4:=⟨(c/4%5).toNat,⋯,⋯⟩;obtain⟨n1,be,d5⟩:∃n:Nat,c/20%6=n/\n<=5:=⟨(c/20%6).toNat,⋯,⋯⟩;obtain⟨n2,bf,d6⟩:∃n:Nat,c/120%6=(n:Int)/\n<=5:=⟨(c/120%6).toNat,⋯,⋯⟩;obtain⟨w,ew⟩:=GT a9 (m:=m) ⋯;have O:m<=5:=⋯
 have bi:((m+1:Nat):Int)=1+(m:Int):=⋯
 obtain⟨d,r1,C,Y,H⟩:=Cs a9 (a:=10) ⋯ ⋯ (r:=m+1) (n:=n1) ⋯ ⋯ ⋯;obtain⟨K,r2,st,l,so⟩:=Cs a9 (a:=130) ⋯ ⋯ (r:=m+1) (n:=n2) ⋯ ⋯ ⋯;refine kZ ?_;rw[bi]at r1 r2;let γ:Cell->Cell->Cell->Cell->Cell->Cell->Cell->Cell->Cell->Ctx:=λc2 c3 c4 c5 c6 c8 c9 Oy c11=>[.val (Wm ns),vI c,c2,c3,c4,c5,c6,.no,c8,c9,Oy,c11];let B:List (Int×Int)->Cell:=λK=>.val (.lst<|zN K);let Q:Cell:=.val (.int q);let M:Cell:=.val (.int<|1+(m:Int));let W:Cell:=.val (.str<|x9 m w);obtain⟨K2,E,o,t_,s7⟩:∃K2:List (Int×Int),(∀b∈K2,xA ((m+1:Nat):Int) b)/\K2.length<=5/\ya K2=K2/\FW (γ Q M W (B d) (B K) .no .no .no .no)=bB (.next<|γ Q M W (B d) (B K2) .no .no .no .no):=by
  by_cases z:c/720%3=0
  ·exact⟨d,C,⋯,H,by simp[FW,γ,B,z]⟩
  ·exact⟨K,st,⋯,so,by simp[FW,γ,B,z]⟩
 have Y:d.length<=5:=⋯
 have am:∀(bs:List (Int×Int)) (a:Int),0<=a->a<=1000->(∀b∈bs,xA ((m+1:Nat):Int) b)->bs.length<=5->ya bs=bs->∃T G F:DQ,(∀k i j,0<=T k i j/\T k i j<q)/\(∀k i j,k<m+1->0<=G k i j/\G k i j<(q:Int))/\jJ [jX q m w (bW bs) T]=bB (.val<|xT bs (xP m (bW bs) G)<|xP m (bW bs) F)/\∃R,qE [.int q,.str<|x9 m w,.lst (zN bs)]=bB (.val R)/\qX [Wm ns,.int a,R]=bB (.val<|jX q m w (bW bs) T):=λbs a h0 h1 st l so=>by refine dt λkZ=>?_;obtain⟨f,g,fg,hd⟩:=rG h0 h1 (w:=w) (wd:=bW bs) (T:=bT w bs) a9 hp O (λk=>by have:=Ga bs k;lia)<|Ax hp;obtain⟨G,F,hG,eb⟩:=LI (w:=w) hp O st so ⋯ fg;exact kZ ⟨_,G,F,eX hp.pos w (bW bs) f g<|bT w bs,hG,eb,_,by rw[QV ⋯ ⋯,LG st],hd⟩
 obtain⟨T1,G1,F1,an,bx,b0,zgk,ca,cb⟩:=am d 20 ⋯ ⋯ C Y H;obtain⟨T2,G2,F2,L,cc,b2,zgl,cd,ce⟩:=am K2 140 ⋯ ⋯ E o t_;clear am;have Z:∀{bs:List (Int×Int)},bs.length<=5->∀k,bW bs k<=5:=λ{bs} h k=>by have:=Ga bs k;lia
 have a4:∀{bs:List (Int×Int)},bs.length<=5->∀k,bW bs k<=30:=λh k=>by have:=Z h k;lia
 have N:∀{T:DQ},(∀k i j,0<=T k i j/\T k i j<(q:Int))->∀k i j,0<=T k i j/\T k i j<10:=λh k i j=>⟨(h k i j).1,by have:=(h k i j).2;lia⟩;have sh:∀{bs:List (Int×Int)} {T:DQ},bs.length<=5->(∀k i j,0<=T k i j/\T k i j<(q:Int))->zU (vy q m w (bW bs) T)=cm:=λh hT=>oj A O (N hT) (a4 h) λk=>by rw[vY,wY];exact Tf (Nat.mul_le_mul (Z h _)<|Nat.add_le_add_right (Z h _) 1) ⋯
 have ci:=Jh (w:=w) A O (N an)<|a4 Y;have cj:=Jh (w:=w) A O (N L)<|a4 o;have zdF:=iF (w:=w) A O an (a4 Y)<|By O<|Z Y;have rb:∀P:Str,jG [.lst (.str P::wX q m w (bW K2) T2)]=bB (.val<|jX q m w (bW K2) T2):=λP=>ZN (P:=P) A O L (a4 o)<|By O<|Z o;have cw:=Bf O C E ⋯ ⋯ b0 b2;rw[Wz]at cw;have cu:=CG X cw<|zdT (p:=(q:Int)) (w:=w) (T1:=T1) (T2:=T2) X (λk=>Tf (Z Y k) ⋯)<|λk=>Tf (Z o k) ⋯;have up:=GW (w:=w) X C E Y o;rw[Cq C,Cq E]at up;have o1:=Fb (Z o) (Z Y)<|m+1;have o2:off (f7 w<|bW K2) (fM w<|bW d) m<=m*25:=Fb (λk=>by rw[vY];exact Z o _) (λk=>by rw[wY];exact Z Y _) m;have sb:=bR (f:=λb=>ka<|K2.map λc=>i3 w b c) (B:=5) d λb _=>by
  have:=bR (f:=λc=>i3 w b c) (B:=1) K2 λc _=>by unfold i3;split<;>lia
  lia
 generalize eS:ka (d.map λb=>ka<|K2.map λc=>i3 w b c)=S at *;generalize zgq:S-((off (bW K2) (bW d) (m+1):Int)-(off (f7 w<|bW K2) (fM w<|bW d) m:Int))=U at *;have iS:inR S=cm:=yK ⋯ ⋯;have iU:inR U=cm:=yK ⋯ ⋯;have ac:∀{x:Int} {f:CO D} {γ:Ctx},inR x=cm->f γ=bB (.int x)->qt f γ=bB (.str<|ye x):=λh e=>by unfold qt;simp_all
 have m5:("ways" : Str)∈t7/\("upon" : Str)∈t7/\("alike" : Str)∈t7:=by decide +kernel
 have tw:=Va (t:=ye S) m5.1 ⋯ A O (N L) (a4 o)<|Gm (rb _) cw<|ac iS rfl;have tu:=Va (t:=ye U) m5.2.1 ⋯ A O (N L) (a4 o)<|Gn (rb _) cu<|ac iU rfl;have ta:=Va m5.2.2 ⋯ A O (N L) (a4 o)<|Gp (rb _)<|Gu (w:=w) hp X C E Y o H t_ (λh=>by rw[h]) (λk=>Tf (Z Y k) ⋯) (λk i j h _ _=>bx k i j h) (λk i j h _ _=>cc k i j h) b0 b2;have s1:=sh Y an;have s2:=sh o L;generalize vy q m w (bW d) T1=X1 at *;generalize vy q m w (bW K2) T2=J at *;obtain⟨u,gn⟩:=Lj (w:=w) (K2:=K2) (c0:=.val (Wm ns)) (c1:=.val (.int c)) (c2:=Q) (c3:=M) (c5:=B d) (c7:=.no) (c8:=.val (.str J)) (c11:=.no) (R:=jX q m w (bW d) T1) O E ⋯ d 0 .no C;rw[T9,eS]at gn;let I:Cell->Cell->Cell->Cell->Ctx:=γ Q M W (B d)<|B K2;let R:=jX q m w (bW d) T1;have d2:mK 7 (.nm 8) (GS 6 140) (I .no .no .no .no) R=bB (.next<|I (.val<|.str J) .no .no .no,R):=Nt rfl (v:=.str J) (by simp[GS,I,γ,Q,W,B,cd,ce,cj]) rfl;have d3:mK 7 (.nm 9) (sI 0) (I (.val<|.str J) .no .no .no) R=bB (.next<|I (.val<|.str J) (vI 0) .no .no,R):=Nt rfl rfl rfl;have d4:tY 7 (zH<|zJ<|zf 5) (.nm 10) Mi (I (.val<|.str J) (vI 0) .no .no) R=bB (.next<|I (.val<|.str J) (vI S) u .no,R):=by unfold tY;rw[DJ (show iE 7 (.nm 10)=cm from rfl),show zH (zJ<|zf 5) (I (.val<|.str J) (vI 0) .no .no)=bB (zN d)from rfl,SR];exact gn
 have bd:∀c11:Cell,Wj (wh<|FY Mg Mh) (wh Mj) (I (.val<|.str J) (vI S) u c11) R=bB (.next<|I (.val<|.str J) (vI S) u c11,R):=λc11=>by
  have n1:Mg (I (.val (.str J)) (vI S) u c11) R=bB (cT,R):=by unfold Mg;rw[show("ways " : Str) = "ways" ++ jw 32 by decide +kernel];exact Cy ⋯ s2 rfl tw (ac iS rfl) (BQ ⋯ ⋯)
  have n2:Mh (I (.val (.str J)) (vI S) u c11) R=bB (cT,R):=by unfold Mh;rw[show("upon " : Str) = "upon" ++ jw 32 by decide +kernel];exact Cy ⋯ s2 rfl tu (ac iU (by simp[I,γ,W,B,up])) (BQ ⋯ ⋯)
  have n3:Mj (I (.val<|.str J) (vI S) u c11) R=bB (cT,R):=by
   unfold Mj;rw[show("alike " : Str) = "alike" ++ jw 32 by decide +kernel];exact Cy ⋯ s2 rfl ta (by simp[I,γ,W,B,(Fz X C E Y o)]) (by
  unfold Dt;cases hf:(stN<|m+1).find? (mx d K2)with
  |none=>decide +kernel
  |some s=>exact Uz.mp Sl s<|CT X<|L_ hf)
  rw[GB (γ':=I (.val<|.str J) (vI S) u c11) (d':=R) (by unfold wh FY;rw[n1,SR,DY TL,n2];rfl)];unfold wh;rw[n3];rfl
 rw[GV];exact zQ (zu (γ':=γ .no .no .no .no .no .no .no .no .no) (by simp[O5,zZ,e1,γ]) (zu (γ':=γ Q .no .no .no .no .no .no .no .no) (by simp[O6,γ,b9,ep,Q]) (zu (γ':=γ Q M .no .no .no .no .no .no .no) (by simp[O7,γ,em,M]) (zu (γ':=γ Q M W .no .no .no .no .no .no) (by simp[O8,γ,ew,M,W]) (zu (γ':=γ Q M W (B d) .no .no .no .no .no) (by simp[O9,γ,be,r1,M,B]) (zu (γ':=γ Q M W (B d) (B K) .no .no .no .no) (by simp[Pa,γ,bf,r2,M,B]) (zu s7 (by
  unfold F' WO;rw[DJ ⟨rfl,show 7<12 by decide⟩,show(I .no .no .no .no).set 7 .no=I .no .no .no .no from rfl,GB (by
  unfold MF QL;rw[show("row " : Str) = "row" ++ jw 32 by decide +kernel,dR (x:="row" ++ jw 32) (y:=X1) rfl (by simp[GS,I,γ,Q,W,B,ca,cb,ci]) ⋯ s1,SR,zdF];rfl),GB d2,GB d3,GB d4,GB (by
  unfold tY;rw[DJ (show iE 7 (.nm 11)=cm from rfl),show jr (sI 2) (I (.val<|.str J) (vI S) u .no)=bB [.int 0,.int 1]from by kernel_rfl,SR,ZG];show((Wj _ _ (I (.val<|.str J) (vI S) u<|vI 0) R).bind _)=_;rw[bd,SR];show ZG _ _ [.int 1] (I (.val<|.str J) (vI S) u<|vI 0) R=_;rw[ZG];show((Wj _ _ (I (.val<|.str J) (vI S) u<|vI 1) R).bind _)=_;rw[bd];rfl)]
  rfl))))))))
open PySem.Spec PyProof.Rows
noncomputable def top(i:Nat):PySem.Stmt:=PySem.Challenge.pw_barsplit_k66_ways_and_layings_at_the_des.main.body.getD i<|.Pass ⟨0,0,0,0⟩
section
variable{CR:PySem.Addr}{P:PySem.Program}{w:PySem.World}{K:SD}{mg:PySem.Str->Option PySem.Value}{base:PySem.Heap}
theorem tM(h:us.length=n+1):∃a t,us=a::t/\t.length=n:=by
 cases us with
 |nil=>exact absurd h<|Nat.zero_ne_add_one n
 |cons a t=>exact⟨a,t,rfl,Nat.succ.inj h⟩
theorem Sx(h:us.length=1):∃a,us=[a]:=by obtain⟨a,I,rfl,b⟩:=tM h;rw[Up b];exact⟨a,rfl⟩
theorem Sw(h:us.length=2):∃a b,us=[a,b]:=by obtain⟨a,I,rfl,d⟩:=tM h;obtain⟨b,J,rfl,e⟩:=tM d;rw[Up e];exact⟨a,b,rfl⟩
theorem Sv(h:us.length=3):∃a b c,us=[a,b,c]:=by obtain⟨a,J,rfl,d⟩:=tM h;obtain⟨b,O,rfl,e⟩:=tM d;obtain⟨c,Q,rfl,I⟩:=tM e;rw[Up I];exact⟨a,b,c,rfl⟩
theorem Su(h:us.length=4):∃a b c d,us=[a,b,c,d]:=by obtain⟨a,O,rfl,e⟩:=tM h;obtain⟨b,Q,rfl,f⟩:=tM e;obtain⟨c,U,rfl,I⟩:=tM f;obtain⟨d,Y,rfl,J⟩:=tM I;rw[Up J];exact⟨a,b,c,d,rfl⟩
structure E0(K:SD)(mg:PySem.Str->Option PySem.Value):Prop where
 Q0:ej K mg "is_desk_line" (top 147) ["words"]
 Q1:ej K mg "is_arrow_word" (top 131) ["word"]
 Q2:ej K mg "is_prime_word" (top 129) ["word"]
 Q3:ej K mg "is_width_word" (top 130) ["word"]
 Q4:ej K mg "has_form" (top 132) ["place","word"]
 Q5:ej K mg "check_forms" (top 133) ["words"]
 Q6:ej K mg "is_whole" (top 18) ["x"]
 Q7:ej K mg "are_widths" (top 64) ["widths"]
 Q8:ej K mg "widths_of" (top 65) ["widths"]
 Q9:ej K mg "figures_of" (top 134) ["line"]
 Qa:ej K mg "rows_read" (top 135) ["signs","high"]
 Qb:ej K mg "is_prime" (top 19) ["p"]
 Qc:ej K mg "is_side" (top 22) ["many"]
 Qd:ej K mg "is_listed" (top 23) ["things","many"]
 Qe:ej K mg "rests" (top 20) ["p","numbers"]
 Qf:ej K mg "is_line" (top 24) ["wide","row"]
 Qg:ej K mg "table_of" (top 25) ["p","high","wide","rows"]
 Qh:ej K mg "end_of" (top 61) ["k","way"]
 Qi:ej K mg "beginning_of" (top 60) ["k","way"]
 Qj:ej K mg "arrow_of" (top 66) ["p","widths","k","pair"]
 Qk:ej K mg "are_rests" (top 136) ["p","numbers"]
 Ql:ej K mg "arrow_read" (top 137) ["p","widths","k","word"]
 Qm:ej K mg "row_read" (top 138) ["text"]
 Qn:ej K mg "row_behind" (top 148) ["words"]
 Qo:ej K mg "ways_of" (top 67) ["row"]
 Qp:ej K mg "one_kind" (top 68) ["one","other"]
 Qq:ej K mg "ask_one_kind" (top 69) ["one","other"]
 Qr:ej K mg "behind_noughts" (top 35) ["many","base"]
 Qs:ej K mg "inverse" (top 21) ["p","x"]
 Qt:ej K mg "cleared" (top 33) ["p","load","pivot","place"]
 Qu:ej K mg "base_of" (top 34) ["p","long","loads"]
 Qv:ej K mg "turned_over" (top 28) ["table"]
 Qw:ej K mg "same_table" (top 29) ["many"]
 Qx:ej K mg "led_into" (top 37) ["p","table","base"]
 Qy:ej K mg "kernel" (top 38) ["p","table"]
 Qz:ej K mg "image" (top 39) ["p","table"]
 _o:ej K mg "columns" (top 46) ["high","loads"]
 _p:ej K mg "has_room" (top 44) ["bar","room"]
 _q:ej K mg "loads_in" (top 45) ["bars","room"]
 _r:ej K mg "lead_of" (top 32) ["load"]
 _s:ej K mg "led" (top 26) ["p","table","load"]
 _t:ej K mg "mixed_load" (top 47) ["row","bars","times","room"]
 _u:ej K mg "mixed" (top 48) ["row","bars","times"]
 _v:ej K mg "settled" (top 49) ["row","k","bars"]
 _w:ej K mg "solved" (top 40) ["p","table","load"]
 _x:ej K mg "next_load" (top 50) ["p","arrow","load"]
 _y:ej K mg "taken_on" (top 51) ["p","arrow","bar"]
 _z:ej K mg "new_loads" (top 52) ["p","arrow"]
 _A:ej K mg "grown" (top 53) ["row","k","bars"]
 _B:ej K mg "stretch_of" (top 43) ["bar"]
 _C:ej K mg "all_grown" (top 54) ["row"]
 _D:ej K mg "back_of" (top 41) ["p","table"]
 _E:ej K mg "barred" (top 55) ["row"]
 _F:ej K mg "left_holds" (top 107) ["ways","one","other"]
 _G:ej K mg "right_holds" (top 108) ["ways","one","other"]
 _H:ej K mg "bar_ways" (top 109) ["ways","one","other"]
 _I:ej K mg "ways_into" (top 110) ["ways","bars","bar"]
 _J:ej K mg "count_ways" (top 111) ["one","other"]
 _K:ej K mg "numbers_in" (top 106) ["sizes"]
 _L:ej K mg "room_sizes" (top 104) ["one","other"]
 _M:ej K mg "arrow_sizes" (top 105) ["one","other"]
 _N:ej K mg "plain_sum" (top 140) ["upper","under"]
 _O:ej K mg "count_upon" (top 141) ["upper","under"]
 _P:ej K mg "product" (top 27) ["p","one","other"]
 _Q:ej K mg "room_by_room" (top 113) ["p","ones","others"]
 _R:ej K mg "stretches_of" (top 102) ["many"]
 _S:ej K mg "are_told_apart" (top 114) ["ways","ones","others","bar"]
 _T:ej K mg "apart" (top 115) ["ways","ones","others"]
 _U:ej K mg "alike" (top 116) ["one","other"]
 _V:ej K mg "stretch_text" (top 150) ["stretch"]
 _W:ej K mg "alike_text" (top 155) ["row","other"]
 _X:ej K mg "answered" (top 156) ["row","words"]
 _Y:ej K mg "changed" (top 152) ["row","words"]
 _Z:ej K mg "table_text" (top 126) ["table"]
 b?:ej K mg "arrow_text" (top 127) ["arrow"]
 d?:ej K mg "row_text" (top 128) ["row"]
 e?:ej K mg "_law_cell" (top 159) ["_law_script","_law_k"]
 f?:ej K mg "_law_ways" (top 163) ["_law_script","_law_at","_law_many"]
 g?:ej K mg "_law_bars" (top 164) ["_law_script","_law_at","_law_rooms","_law_many"]
 i?:ej K mg "_law_text" (top 169) ["_law_told"]
 j?:ej K mg "_law_times" (top 160) ["_law_p","_law_one","_law_other"]
 k?:ej K mg "_law_in_turns" (top 167) ["_law_told","_law_turns","_law_backs"]
 l?:ej K mg "_law_turn" (top 162) ["_law_script","_law_at","_law_p","_law_many"]
 m?:ej K mg "_law_hidden" (top 168) ["_law_script","_law_at","_law_told"]
 n?:ej K mg "_law_with" (top 165) ["_law_found","_law_room"]
 o?:ej K mg "_law_bar_row" (top 166) ["_law_p","_law_ways_here","_law_found"]
 p?:ej K mg "_law_first" (top 172) ["_law_ones","_law_others"]
 q?:ej K mg "_law_leads" (top 170) ["_law_ways_here","_law_one","_law_other"]
 r?:ej K mg "_law_upon" (top 171) ["_law_ways_here","_law_ones","_law_others"]
 s?:ej K mg "law" (top 173) ["_law_script"]
 Z0:mg "all" = cI
 Z1:mg "len" = cI
 Z2:mg "range" = cI
 Z3:mg "str" = cI
 Z4:mg "enumerate" = cI
 Z5:mg "bool" = cI
 Z6:mg "int" = cI
 Z7:mg "isinstance" = cI
 Z8:mg "list" = cI
 Z9:mg "sum" = cI
 Za:mg "tuple" = cI
 Zb:mg "any" = cI
 Zc:mg "zip" = cI
 Zd:mg "dict" = cI
 Ze:mg "sorted" = cI
 Zf:mg "max" = cI
 Zg:mg "min" = cI
 G0:GL K mg "LINES_WITH_A_ROW" (.tup [.str "row",.str "beside",.str "ways",.str "upon",.str "alike"])
 G1:GL K mg "ROOM_WORDS" (.tup [.str "0",.str "1",.str "2",.str "3",.str "4",.str "5"])
 G2:GL K mg "TABLE_SIGNS" (.str "0123456789/")
 G3:GL K mg "PRIMES" (.tup [.int 2,.int 3,.int 5,.int 7])
 G4:GL K mg "MOST_TOGETHER" (.int 30)
 G5:GL K mg "MOST_ROOMS" (.int 6)
 G6:GL K mg "MOST_HIGH_OR_WIDE" (.int 30)
 G7:GL K mg "WAYS" (.tup [.str "r",.str "l"])
 G8:GL K mg "CHANGING_LINES" (.tup [.str "row",.str "beside",.str "cut",.str "mirror",.str "opposite",.str "about",.str "split"])
theorem Kh(E:E0 K mg)(I:Di w K mg "ROOMS_BEHIND" E2):eg P w K mg base 1 "is_desk_line" 1 xO:=
 PP (N:=["words","first"]) E.Q0 ⋯ λX J d O Q U a Y=>by subst J d O Q U;exact by refine ze (jc (zv zK zg)) ?_;refine ze (jl (Ey zy (PV.q (XY a ⋯ E.G0))) (zh (zx (NU (qU a ⋯ E.Z1 zK) zg))) zO) ?_;refine ze (jl (ZO (XW (iY I a zy) (Zo (yG a (qU a ⋯ E.Z1 zK) (jt (HM I a zy) zg))))) (zh (zx cF)) zO) ?_;exact(zh (zx (X3 a ⋯ E.Z0 (PO.q (jB a (zS (PO.q (BL zK (qm zg) ke))) (λ_ _ _ b=>oK zy (PV.q (XY b ⋯ E.G1))))))))
theorem QS(E:E0 K mg):eg P w K mg base 1 "is_arrow_word" 1 xt:=
 j4 (N:=["word"]) E (·.Q1) ⋯ λX E a I=>by refine ze (jl (JF (xh (WX zy ke (qm zg)) (WX zy (qm (WZ zg)) ke)) (PV.q (jH (ki (zb zR (zb zR zw)))))) (zh (zx cF)) zO) ?_;exact(zh (zx (X3 a ⋯ E.Z0 (PO.q (jB a (g9.c (oV (WX zy (qm zg) (qm (WZ zg))))) (λ_ _ _ b=>Eu zy (XY b ⋯ E.G2)))))))
theorem QR(E:E0 K mg):eg P w K mg base 1 "is_prime_word" 1 xq:=
 j4 (N:=["word"]) E (·.Q2) ⋯ λX E a I=>zh (zx (oK zy (PO.q (jB a (zS (PV.q (XY a ⋯ E.G3))) (λ_ _ _ b=>XZ (xG (YA rfl zy) (xG zR W3)))))))
theorem QQ(E:E0 K mg):eg P w K mg base 1 "is_width_word" 1 xp:=
 j4 (N:=["word"]) E (·.Q3) ⋯ λX E a I=>zh (zx (oK zy (PO.q (jB a (g9.c (jC a ⋯ E.Z2 (jt (XY a ⋯ E.G4) zg))) (λ_ _ _ b=>xf b ⋯ E.Z3 zy)))))
theorem cW(E:E0 K mg):eg P w K mg base 2 "has_form" 2 kC:=
 j4 (N:=["place","word"]) E (·.Q4) ⋯ λX E a I=>by refine ze (jl (jT a zy zg) (zh (zx (zL (QR E) f9))) zO) ?_;refine ze (jl (jT a (j8 zy zg) zg) (zh (zx (zL (QQ E) f9))) zO) ?_;exact(zh (zx (zL (QS E) f9)))
theorem Yf(E:E0 K mg):eg P w K mg base 3 "check_forms" 1 vj:=
 j4 (N:=["words","place","word"]) E (·.Q5) ⋯ λX E a I=>by refine ze (xi I a (Vs a ⋯ E.Z4 zy) (zh (jl (qu (jP (zL (cW E) hM))) (zh qJ) zO))) ?_;exact(zh (jl (jT a (j8 (qU a ⋯ E.Z1 zK) zg) zg) (zh qJ) zO))
theorem yY(E:E0 K mg):eg P w K mg base 1 "is_whole" 1 qF:=
 j4 (N:=["x"]) E (·.Q6) ⋯ λX E a I=>zh (zx (X0 (oH a ⋯ E.Z7 ⋯ E.Z6 zy) (XX (HL (iW a ⋯ E.Z7 ⋯ E.Z5 zy)))))
theorem VD(E:E0 K mg):eg P w K mg base 2 "are_widths" 1 yq:=
 j4 (N:=["widths"]) E (·.Q7) ⋯ λX E a I=>by refine ze (jl (ZO (XW (qu (jP (oJ a ⋯ E.Z7 ⋯ E.Z8 ⋯ E.Za zy))) (Zo (qu (W0 W7 W7 J3 J3 zg (qU a ⋯ E.Z1 zK) (XY a ⋯ E.G5)))))) (zh (zx cF)) zO) ?_;refine ze (jl (qu (jP (X3 a ⋯ E.Z0 (PO.q (jB a (zS zK) (λ_ _ _ b=>X0 (zL (yY E) f9) (XX (NV zy zg)))))))) (zh (zx cF)) zO) ?_;exact(zh (zx (NT (QA a ⋯ E.Z9 zK) (XY a ⋯ E.G4))))
theorem W8(E:E0 K mg):eg P w K mg base 3 "widths_of" 1 vf:=
 j4 (N:=["widths"]) E (·.Q8) ⋯ λX E a I=>by refine ze (jl (qu (jP (zL (VD E) f9))) (zh qJ) zO) ?_;exact(zh (zx (jx a ⋯ E.Za zK)))
theorem Vz(E:E0 K mg):eg P w K mg base 1 "figures_of" 1 xX:=
 j4 (N:=["line"]) E (·.Q9) ⋯ λX E a I=>zh (jY (jB a (g9.c (oV zy)) (λ_ _ _ b=>cE b ⋯ E.Z6 zy)))
theorem W9(E:E0 K mg):eg P w K mg base 2 "rows_read" 2 kU:=
 j4 (N:=["signs","high"]) E (·.Qa) ⋯ λX E a I=>by refine ze (jl (ZO (Zp (jT a zy zR) (yS (jT a zy zg)))) (zh (jY (kL (ki zw)))) zO) ?_;exact(zh (jY (jB a (zS (PO.q (Vo zy zR))) (λ_ _ _ b=>PO.v (qA (Vz E) f9)))))
theorem cV(E:E0 K mg):eg P w K mg base 2 "is_prime" 1 JZ:=
 j4 (N:=["p"]) E (·.Qb) ⋯ λX E a I=>zh (zx (X0 (zL (yY E) f9) (XX (HP zy (PV.q (XY a ⋯ E.G3))))))
theorem YI(E:E0 K mg):eg P w K mg base 2 "is_side" 1 wt:=
 j4 (N:=["many"]) E (·.Qc) ⋯ λX E a I=>zh (zx (X0 (zL (yY E) f9) (XX (fR W7 W7 J3 J3 zg zy (XY a ⋯ E.G6)))))
theorem vU(E:E0 K mg):eg P w K mg base 1 "is_listed" 2 qT:=
 j4 (N:=["things","many"]) E (·.Qd) ⋯ λX E a I=>zh (zx (X0 (oJ a ⋯ E.Z7 ⋯ E.Z8 ⋯ E.Za zy) (XX (JE a (qU a ⋯ E.Z1 zK) zy))))
theorem ZR(E:E0 K mg):eg P w K mg base 1 "rests" 2 xJ:=
 j4 (N:=["p","numbers"]) E (·.Qe) ⋯ λX E a I=>zh (zx (jx a ⋯ E.Za (PO.q (jB a (zS zK) (λ_ _ _ b=>j8 zy zy)))))
theorem lB(E:E0 K mg):eg P w K mg base 2 "is_line" 2 wu:=
 j4 (N:=["wide","row"]) E (·.Qf) ⋯ λX E a I=>zh (zx (X0 (zL (vU E) hM) (XX (X3 a ⋯ E.Z0 (PO.q (jB a (zS zK) (λ_ _ _ b=>zL (yY E) f9)))))))
theorem cP(E:E0 K mg):eg P w K mg base 3 "table_of" 4 wN:=
 j4 (N:=["p","high","wide","rows"]) E (·.Qg) ⋯ λX E a I=>by refine ze (jl (qu (jP (zL (cV E) f9))) (zh qJ) zO) ?_;refine ze (jl (ZO (XW (qu (jP (zL (YI E) f9))) (Zo (qu (jP (zL (YI E) f9)))))) (zh qJ) zO) ?_;refine ze (jl (ZO (XW (qu (jP (zL (vU E) hM))) (Zo (qu (jP (X3 a ⋯ E.Z0 (PO.q (jB a (zS zK) (λ_ _ _ b=>zL (lB E) hM))))))))) (zh qJ) zO) ?_;exact(zh (zx (jH (ki (zb zy (zb zy (zb (jx a ⋯ E.Za (PO.q (jB a (zS zK) (λ_ _ _ b=>zL (ZR E) hM)))) zw)))))))
theorem Ki(E:E0 K mg):eg P w K mg base 1 "end_of" 2 vi:=
 j4 (N:=["k","way"]) E (·.Qh) ⋯ λX E a I=>zh (zx (qz (jT a zy zR) (jt zy zg) zy))
theorem vV(E:E0 K mg):eg P w K mg base 1 "beginning_of" 2 ql:=
 j4 (N:=["k","way"]) E (·.Qi) ⋯ λX E a I=>zh (zx (qz (jT a zy zR) zy (jt zy zg)))
theorem cY(E:E0 K mg):eg P w K mg base 4 "arrow_of" 4 wR:=
 j4 (N:=["p","widths","k","pair","way","table"]) E (·.Qj) ⋯ λX E a J=>by refine ze (jl (ZO (XW (qu (jP (zL (vU E) (zb zy (zb zg zw))))) (Zo (JF (zv zK zg) (PV.q (XY a ⋯ E.G7)))))) (zh qJ) zO) ?_;refine ze (jc (zv zK zg)) ?_;refine ze (zdM (have I:=a.ti (λ_ _=>False);oO 5 (I.set 5 ⋯ (zL (cP E) (zb zy (zb (zv zK (zL (Ki E) hM)) (zb (zv zK (zL (vV E) hM)) (zb (zv zK zg) zw)))))))) ?_;exact(zh (zx (jH (ki hM))))
theorem ag(E:E0 K mg):eg P w K mg base 1 "are_rests" 2 k7:=
 j4 (N:=["p","numbers"]) E (·.Qk) ⋯ λX E a I=>zh (zx (X3 a ⋯ E.Z0 (PO.q (jB a (zS zK) (λ_ _ _ b=>NS zy zy)))))
theorem VC(E:E0 K mg):eg P w K mg base 5 "arrow_read" 4 yp:=
 j4 (N:=["p","widths","k","word","way","rows"]) E (·.Ql) ⋯ λX E a I=>by refine ze (jc (qz (jP (oE zy zR)) zR zR)) ?_;refine ze (jc (PO.v (qA (W9 E) (zb (WX zy (qm zg) (qm (WZ zg))) (zb (zv zK (zL (Ki E) hM)) zw))))) ?_;refine ze (jl (qu (jP (X3 a ⋯ E.Z0 (PO.q (jB a (zS zK) (λ_ _ _ b=>zL (ag E) hM)))))) (zh qJ) zO) ?_;exact(zh (zx (zL (cY E) (zb zy (zb zy (zb zy (zb (jH (ki hM)) zw)))))))
theorem cR(E:E0 K mg):eg P w K mg base 6 "row_read" 1 JY:=
 j4 (N:=["text","words","p","widths","arrows"]) E (·.Qm) ⋯ λX E a I=>by refine ze (jc (PO.v (Vo zy zR))) ?_;refine ze (Xc (zL (Yf E) f9)) ?_;refine ze (jc (cE a ⋯ E.Z6 (WX (zv zK zg) ke (qm (WZ zg))))) ?_;refine ze (jc (zL (W8 E) (zb (PO.v (jB a (zS (PO.q (BM zK (qm zg) ke (qm zg)))) (λ_ _ _ b=>cE b ⋯ E.Z6 zy))) zw))) ?_;refine ze (jA 4 (yV a (g9.c (Vs a ⋯ E.Z4 (PO.v (BM zK (qm zg) ke (qm zg))))) (λ_ _ _ b=>zL (VC E) (zb zy o7)))) ?_;exact(zh (zx (jH (ki (zb zy (zb zy (zb (jx a ⋯ E.Za zK) zw)))))))
theorem km(E:E0 K mg):eg P w K mg base 7 "row_behind" 1 jG:=
 j4 (N:=["words"]) E (·.Qn) ⋯ λX E a I=>zh (zx (zL (cR E) (zb (yU zR (PO.q (BL zK (qm zg) ke))) zw)))
theorem yH(E:E0 K mg):eg P w K mg base 1 "ways_of" 1 xl:=
 j4 (N:=["row"]) E (·.Qo) ⋯ λX E a I=>zh (zx (yU zR (PO.q (jB a (zS (PV.q (zv zK zg))) (λ_ _ _ b=>zv zK zg)))))
theorem cS(E:E0 K mg):eg P w K mg base 2 "one_kind" 2 kz:=
 j4 (N:=["one","other"]) E (·.Qp) ⋯ λX E a I=>zh (zx (X0 (JE a (zv zK zg) (zv zK zg)) (XX (JE a (zL (yH E) f9) (zL (yH E) f9)))))
theorem kM(E:E0 K mg):eg P w K mg base 3 "ask_one_kind" 2 j7:=
 j4 (N:=["one","other"]) E (·.Qq) ⋯ λX E a I=>zh (jl (qu (jP (zL (cS E) hM))) (zh qJ) zO)
theorem JL(E:E0 K mg):eg P w K mg base 1 "behind_noughts" 2 qP:=
 j4 (N:=["many","base"]) E (·.Qr) ⋯ λX E b I=>zh (jY (Vp b (zS zK) (λ_ _ _ a=>qu (jP (BI a ⋯ E.Zb (PV.q (WW zy ke (qm zy)))))) (λ_ _ _ a=>WW zy (qm zy) ke)))
theorem lD(E:E0 K mg):eg P w K mg base 1 "inverse" 2 K5:=
 j4 (N:=["p","x","y"]) E (·.Qs) ⋯ λX E a I=>by refine ze (xi I a (gb a ⋯ E.Z2 zg zy) (zh (jl (jT a (j8 (qG zy zy) zy) zg) (zh (wF 2 (a.var ⋯))) zO))) ?_;exact(zh qJ)
theorem YJ(E:E0 K mg):eg P w K mg base 2 "cleared" 4 k5:=
 j4 (N:=["p","load","pivot","place","much"]) E (·.Qt) ⋯ λX E a I=>by refine ze (jc (zv zK zy)) ?_;refine ze (jl (jT a zy zg) (zh (wF 1 (a.var ⋯))) zO) ?_;exact(zh (zx (zL (ZR E) (zb zy (zb (PO.v (jB a (g9.c (w6 a ⋯ E.Zc zy zy)) (λ_ _ _ b=>kh zy (qG zy zy)))) zw)))))
theorem wH(E:E0 K mg):eg P w K mg base 3 "base_of" 3 xu:=
 j4 (N:=["p","long","loads","left","base","place","leading","times","pivot"]) E (·.Qu) ⋯ λX E a I=>by refine ze (jA 3 (yV a (zS zK) (λ_ _ _ b=>zL (ZR E) hM))) ?_;refine ze (vN (kL (ki zw))) ?_;refine ze (xi I a (jC a ⋯ E.Z2 zy) (by refine ze (jA 6 (ED a (zS zK) (λ_ _ _ b=>yG b (zv zK zy) zg) (λ_ _ _ b=>fS b))) ?_;refine ze (jl (qu (zdJ zK)) (zh W1) zO) ?_;refine ze (jc (zL (lD E) (zb zy (zb (zv (PV.q (zv zK zg)) zy) zw)))) ?_;refine ze (jc (zL (ZR E) (zb zy (zb (PO.v (jB a (zS (PV.q (zv zK zg))) (λ_ _ _ b=>qG zy zy))) zw)))) ?_;refine ze (jA 3 (yV a (zS zK) (λ_ _ _ b=>zL (YJ E) (zb zy o7)))) ?_;exact(zh (vN (YF (PO.q (jB a (zS zK) (λ_ _ _ b=>zL (YJ E) (zb zy o7)))) (PO.q (kL (ki f9)))))))) ?_;exact(zh (wF 4 (a.var ⋯)))
theorem xK(E:E0 K mg):eg P w K mg base 1 "turned_over" 1 qi:=
 j4 (N:=["table","columns"]) E (·.Qv) ⋯ λX E a I=>by refine ze (jA 1 (yV a (g9.c (jC a ⋯ E.Z2 (zv zK zg))) (λ_ _ _ b=>jx b ⋯ E.Za (PO.q (jB b (zS (PV.q (zv zK zg))) (λ_ _ _ J=>zv zK zy)))))) ?_;exact(zh (zx (jH (ki (zb (zv zK zg) (zb (zv zK zg) (zb (jx a ⋯ E.Za zK) zw)))))))
theorem kj(E:E0 K mg):eg P w K mg base 1 "same_table" 1 qy:=
 j4 (N:=["many","rows"]) E (·.Qw) ⋯ λX E a J=>by refine ze (jA 1 (yV a (g9.c (jC a ⋯ E.Z2 zy)) (λ_ _ _ b=>jx b ⋯ E.Za (PO.q (jB b (g9.c (jC b ⋯ E.Z2 zy)) (λ_ _ _ I=>qz (jT I zy zy) zg zg)))))) ?_;exact(zh (zx (jH (ki (zb zy (zb zy (zb (jx a ⋯ E.Za zK) zw)))))))
theorem Ke(E:E0 K mg):eg P w K mg base 4 "led_into" 3 kB:=
 j4 (N:=["p","table","base","pairs","free"]) E (·.Qx) ⋯ λX E a I=>by refine ze (jA 3 (yV a (g9.c (w6 a ⋯ E.Zc (zv (PV.q (zL (xK E) f9)) zg) (zv (PV.q (zL (kj E) (zb (zv zK zg) zw))) zg))) (λ_ _ _ b=>jt zy zy))) ?_;refine ze (jA 4 (yV a (zS zK) (λ_ _ _ b=>jt zy (qG (jH (ki (zb zg zw))) (zv zK zg))))) ?_;exact(zh (jY (qA (JL E) (zb (zv zK zg) (zb (PO.v (qA (wH E) (zb zy (zb (jt (zv zK zg) (zv zK zg)) (zb (PO.v (YF zK zK)) zw))))) zw)))))
theorem af(E:E0 K mg):eg P w K mg base 5 "kernel" 2 vh:=
 j4 (N:=["p","table"]) E (·.Qy) ⋯ λX E a I=>zh (jY (qA (Ke E) (zb zy (zb zy (zb (PO.v (kL (ki zw))) zw)))))
theorem gh(E:E0 K mg):eg P w K mg base 4 "image" 2 J0:=
 j4 (N:=["p","table"]) E (·.Qz) ⋯ λX E a I=>zh (jY (qA (wH E) (zb zy (zb (zv zK zg) (zb (zv (PV.q (zL (xK E) f9)) zg) zw)))))
theorem JK(E:E0 K mg):eg P w K mg base 2 "columns" 2 kY:=
 j4 (N:=["high","loads"]) E (·._o) ⋯ λX E a I=>zh (zx (zL (xK E) (zb (jH (ki (zb (qU a ⋯ E.Z1 zK) (zb zy (zb (jx a ⋯ E.Za zK) zw))))) zw)))
theorem yZ(E:E0 K mg):eg P w K mg base 1 "has_room" 2 jW:=
 j4 (N:=["bar","room"]) E (·._p) ⋯ λX E a I=>zh (zx (fR W7 EV J3 nI (zv zK zg) zy (jt (zv zK zg) (qU a ⋯ E.Z1 (PV.q (zv zK zg))))))
theorem Zr(E:E0 K mg):eg P w K mg base 2 "loads_in" 2 qW:=
 j4 (N:=["bars","room"]) E (·._q) ⋯ λX E a I=>zh (jY (Vp a (zS zK) (λ_ _ _ b=>jP (zL (yZ E) hM)) (λ_ _ _ b=>zv (PV.q (zv zK zg)) (kh zy (zv zK zg)))))
theorem wG(E:E0 K mg):eg P w K mg base 1 "lead_of" 1 xn:=
 j4 (N:=["load"]) E (·._r) ⋯ λX E b I=>zh (zx (zv (PO.q (Vp b (g9.c (YG b ⋯ E.Z4 zy)) (λ_ _ _ a=>yG a zy zg) (λ_ _ _ a=>fS a))) zg))
theorem pD(E:E0 K mg):eg P w K mg base 2 "led" 3 mJ:=
 j4 (N:=["p","table","load"]) E (·._s) ⋯ λX E b I=>zh (zx (zL (ZR E) (zb zy (zb (PO.v (jB b (zS (PV.q (zv zK zg))) (λ_ _ _ a=>QA a ⋯ E.Z9 (PO.q (jB a (g9.c (w6 a ⋯ E.Zc zy zy)) (λ_ _ _ J=>qG zy zy)))))) zw))))
theorem Vx(E:E0 K mg):eg P w K mg base 3 "mixed_load" 4 yn:=
 j4 (N:=["row","bars","times","room","there"]) E (·._t) ⋯ λX E a I=>by refine ze (jA 4 (ED a (g9.c (w6 a ⋯ E.Zc zy zy)) (λ_ _ _ b=>jP (zL (yZ E) hM)) (λ_ _ _ b=>fS b))) ?_;exact(zh (zx (zL (pD E) (zb (zv zK zg) (zb (zL (JK E) (zb (zv (PV.q (zv zK zg)) zy) (zb (PO.v (qA (Zr E) hM)) zw))) f9)))))
theorem Af(E:E0 K mg):eg P w K mg base 4 "mixed" 3 Wc:=
 j4 (N:=["row","bars","times","first","loads"]) E (·._u) ⋯ λX E a I=>by refine ze (jc (zv zK (zL (wG E) f9))) ?_;refine ze (jA 4 (yV a (g9.c (jC a ⋯ E.Z2 (qU a ⋯ E.Z1 (PV.q (zv zK zg))))) (λ_ _ _ b=>zL (Vx E) (zb zy (zb zy (zb zy (zb (jt (zv zK zg) zy) zw))))))) ?_;exact(zh (zx (jH (ki (zb (zv zK zg) (zb (jx a ⋯ E.Za zK) zw))))))
theorem lz(E:E0 K mg):eg P w K mg base 6 "settled" 3 K3:=
 j4 (N:=["row","k","bars","way","table","special","base","leads"]) E (·._v) ⋯ λX E a I=>by refine ze (jc (zv (PV.q (zv (PV.q (zv zK zg)) zy)) zg)) ?_;refine ze (jc (zv (PV.q (zv (PV.q (zv zK zg)) zy)) zg)) ?_;refine ze (jc (qz (jT a zy zR) (PO.v (qA (af E) (zb (zv zK zg) f9))) (PO.v (qA (gh E) (zb (zv zK zg) f9))))) ?_;refine ze (jc (PO.v (qA (Ke E) (zb (zv zK zg) (zb (zL (JK E) (zb (zv (PV.q (zv zK zg)) zy) (zb (PO.v (qA (Zr E) hM)) zw))) f9))))) ?_;refine ze (jc (zdI a ⋯ E.Zd (jB a (zS zK) (λ_ _ _ b=>jH (ki (zb (zL (wG E) f9) f9)))))) ?_;exact(zh (jY (jB a (g9.c (Vs a ⋯ E.Z4 zy)) (λ_ _ _ b=>qz (Ez b zy zy) (zL (Af E) (zb zy (zb zy (zb (HR b zy zy) zw)))) zy))))
theorem pC(E:E0 K mg):eg P w K mg base 4 "solved" 3 wO:=
 j4 (N:=["p","table","load","wide","answer","line","place"]) E (·._w) ⋯ λX E a I=>by refine ze (jc (zv zK zg)) ?_;refine ze (vN (Ig (kL (ki (zb zg zw))) zy)) ?_;refine ze (xi I a (JH (PO.v (qA (wH E) (zb zy (zb (jt zy zg) (zb (PO.v (jB a (g9.c (w6 a ⋯ E.Zc (zv zK zg) zy)) (λ_ _ _ b=>jt zy (jH (ki f9))))) zw)))))) (by refine ze (jc (zL (wG E) f9)) ?_;refine ze (jl (jT a zy zy) (zh (zx WY)) zO) ?_;exact(zh (X9 4 a ⋯ zy (zv zK zy))))) ?_;exact(zh (zx (jx a ⋯ E.Za zK)))
theorem ab(E:E0 K mg):eg P w K mg base 5 "next_load" 3 kX:=
 j4 (N:=["p","arrow","load","there"]) E (·._x) ⋯ λX E a I=>by refine ze (jl (jT a (zv zK zg) zR) (zh (zx (zL (pC E) (zb zy (zb (zv zK zg) f9))))) zO) ?_;refine ze (jc (zL (pD E) (zb zy (zb (zv zK zg) f9)))) ?_;exact(zh (zx (qz (jP (BI a ⋯ E.Zb zK)) zy WY)))
theorem cO(E:E0 K mg):eg P w K mg base 6 "taken_on" 3 yN:=
 j4 (N:=["p","arrow","bar","load"]) E (·._y) ⋯ λX E a I=>by refine ze (jc (zL (ab E) (zb zy (zb zy (zb (zv (PV.q (zv zK zg)) (WZ zg)) zw))))) ?_;exact(zh (zx (qz (Ex zy WY) zy (jH (ki (zb (zv zK zg) (zb (jt (zv zK zg) (jH (ki f9))) zw)))))))
theorem ae(E:E0 K mg):eg P w K mg base 6 "new_loads" 2 Zy:=
 j4 (N:=["p","arrow","leads"]) E (·._z) ⋯ λX E a I=>by refine ze (jl (jT a (zv zK zg) zR) (zh (jY (qA (af E) (zb zy (zb (zv zK zg) zw))))) zO) ?_;refine ze (jA 2 (yV a (zS (PO.q (qA (gh E) (zb zy (zb (zv zK zg) zw))))) (λ_ _ _ b=>zL (wG E) f9))) ?_;exact(zh (jY (Vp a (g9.c (YG a ⋯ E.Z4 (zv (PV.q (zL (kj E) (zb (zv (PV.q (zv zK zg)) zg) zw))) zg))) (λ_ _ _ b=>iX zy zK) (λ_ _ _ b=>fS b))))
theorem Ag(E:E0 K mg):eg P w K mg base 7 "grown" 3 Wg:=
 j4 (N:=["row","k","bars","p","arrow","ended","here","old","new"]) E (·._A) ⋯ λX E b I=>by refine ze (jc (zv zK zg)) ?_;refine ze (jc (zv (PV.q (zv zK zg)) zy)) ?_;refine ze (jA 5 (ED b (zS zK) (λ_ _ _ a=>qu (jP (zL (yZ E) hM))) (λ_ _ _ a=>fS a))) ?_;refine ze (jc (PO.v (qA (lz E) (zb zy (zb zy (zb (PO.v (Vp b (zS zK) (λ_ _ _ a=>jP (zL (yZ E) hM)) (λ_ _ _ a=>fS a))) zw)))))) ?_;refine ze (jA 7 (yV b (zS zK) (λ_ _ _ a=>zL (cO E) o7))) ?_;refine ze (jA 8 (yV b (zS (PO.q (qA (ae E) hM))) (λ_ _ _ a=>jH (ki (zb (jt zy zg) (zb (jH (ki f9)) zw)))))) ?_;exact(zh (zx (PO.v (YF zK (PV.q (qz (jT b (zv zK zg) zR) (PO.v (YF zK zK)) (PO.v (YF zK zK))))))))
theorem ZQ(E:E0 K mg):eg P w K mg base 1 "stretch_of" 1 j1:=
 j4 (N:=["bar"]) E (·._B) ⋯ λX E a I=>zh (zx (jH (ki (zb (zv zK zg) (zb (kh (jt (zv zK zg) (qU a ⋯ E.Z1 (PV.q (zv zK zg)))) zg) zw)))))
theorem ah(E:E0 K mg):eg P w K mg base 9 "all_grown" 1 vo:=
 j4 (N:=["row","bars","k"]) E (·._C) ⋯ λX E a I=>by refine ze (jA 1 (yV a (zS (PV.q (zv (PV.q (zL (kj E) (zb (zv (PV.q (zv zK zg)) zg) zw))) zg))) (λ_ _ _ b=>jH (ki (zb zg (zb (jH (ki f9)) zw)))))) ?_;refine ze (xi I a (jC a ⋯ E.Z2 (qU a ⋯ E.Z1 (PV.q (zv zK zg)))) (zh (jc (zL (Ag E) o7)))) ?_;exact(zh (jY (zdR (ZQ E) a ⋯ ⋯ E.Ze ⋯ zK)))
theorem lF(E:E0 K mg):eg P w K mg base 4 "back_of" 2 k6:=
 j4 (N:=["p","table","many","same","base"]) E (·._D) ⋯ λX E a I=>by refine ze (jc (zv zK zg)) ?_;refine ze (jl (yG a (zv zK zg) zy) (zh (zx WY)) zO) ?_;refine ze (jc (zv (PV.q (zL (kj E) f9)) zg)) ?_;refine ze (jc (PO.v (qA (wH E) (zb zy (zb (jt zy zy) (zb (PO.v (jB a (g9.c (w6 a ⋯ E.Zc (zv zK zg) zy)) (λ_ _ _ b=>jt zy zy))) zw)))))) ?_;refine ze (jl (yG a (PO.v (jB a (zS zK) (λ_ _ _ b=>WW zy ke (qm zy)))) (PO.v (EG a ⋯ E.Z8 zK))) (zh (zx WY)) zO) ?_;exact(zh (zx (jH (ki (zb zy (zb zy (zb (jx a ⋯ E.Za (PO.q (jB a (zS zK) (λ_ _ _ b=>WW zy (qm zy) ke)))) zw)))))))
theorem ZZ(E:E0 K mg):eg P w K mg base 10 "barred" 1 jJ:=
 j4 (N:=["row","bars","backs","turns"]) E (·._E) ⋯ λX E a I=>by refine ze (jc (PO.v (qA (ah E) f9))) ?_;refine ze (jA 2 (yV a (g9.c (YG a ⋯ E.Z4 (zv zK zg))) (λ_ _ _ b=>zL (JK E) (zb zy (zb (PO.v (qA (Zr E) hM)) zw))))) ?_;refine ze (jA 3 (yV a (zS zK) (λ_ _ _ b=>zL (lF E) (zb (zv zK zg) f9)))) ?_;exact(zh (zx (jH (ki (zb (PO.v (jB a (zS zK) (λ_ _ _ b=>zL (ZQ E) f9))) hM)))))
theorem Vy(E:E0 K mg):eg P w K mg base 1 "left_holds" 3 xW:=
 j4 (N:=["ways","one","other"]) E (·._F) ⋯ λX E a I=>by refine ze (jl (jT a (zv zK zg) (zv zK zg)) (zh (zx cF)) zO) ?_;exact(zh (zx (JE a (yT zy (kh (oG a ⋯ E.Zf (zv zK zg) (zv zK zg)) zg)) (qz (oN (zv zK zg) (zv zK zg)) zR zR))))
theorem Yd(E:E0 K mg):eg P w K mg base 1 "right_holds" 3 xm:=
 j4 (N:=["ways","one","other"]) E (·._G) ⋯ λX E a I=>by refine ze (jl (jT a (zv zK zg) (zv zK zg)) (zh (zx cF)) zO) ?_;exact(zh (zx (JE a (yT zy (fQ a ⋯ E.Zg (zv zK zg) (zv zK zg))) (qz (X4 (zv zK zg) (zv zK zg)) zR zR))))
theorem cX(E:E0 K mg):eg P w K mg base 2 "bar_ways" 3 kE:=
 j4 (N:=["ways","one","other"]) E (·._H) ⋯ λX E a I=>by refine ze (jl (X4 (oG a ⋯ E.Zf (zv zK zg) (zv zK zg)) (fQ a ⋯ E.Zg (zv zK zg) (zv zK zg))) (zh (zx zg)) zO) ?_;exact(zh (zx (qz (ZO (Zp (jP (zL (Vy E) o7)) (yS (jP (zL (Yd E) o7))))) zg zg)))
theorem vP(E:E0 K mg):eg P w K mg base 3 "ways_into" 3 qh:=
 j4 (N:=["ways","bars","bar"]) E (·._I) ⋯ λX E a I=>zh (zx (QA a ⋯ E.Z9 (PO.q (jB a (zS zK) (λ_ _ _ b=>zL (cX E) o7)))))
theorem ZY(E:E0 K mg):eg P w K mg base 11 "count_ways" 2 qe:=
 j4 (N:=["one","other","bars"]) E (·._J) ⋯ λX E a I=>by refine ze (Xc (zL (kM E) hM)) ?_;refine ze (jc (zv (PV.q (zL (ZZ E) f9)) zg)) ?_;exact(zh (zx (QA a ⋯ E.Z9 (PO.q (jB a (zS (PV.q (zv (PV.q (zL (ZZ E) f9)) zg))) (λ_ _ _ b=>zL (vP E) (zb (zL (yH E) f9) hM)))))))
theorem ZU(E:E0 K mg):eg P w K mg base 1 "numbers_in" 1 ym:=
 j4 (N:=["sizes"]) E (·._K) ⋯ λX E a I=>zh (zx (QA a ⋯ E.Z9 (PO.q (jB a (zS zK) (λ_ _ _ b=>qG zy zy)))))
theorem Vw(E:E0 K mg):eg P w K mg base 1 "room_sizes" 2 wg:=
 j4 (N:=["one","other"]) E (·._L) ⋯ λX E a I=>zh (jY (zdS a ⋯ E.Z8 ⋯ E.Zc (zv zK zg) (zv zK zg)))
theorem Yg(E:E0 K mg):eg P w K mg base 2 "arrow_sizes" 2 vn:=
 j4 (N:=["one","other","ways"]) E (·._M) ⋯ λX E a I=>by refine ze (jc (zL (yH E) f9)) ?_;exact(zh (jY (jB a (g9.c (cJ a ⋯ E.Z4 zy)) (λ_ _ _ b=>jH (ki (zb (zv (PV.q (zv zK zg)) (zL (Ki E) hM)) (zb (zv (PV.q (zv zK zg)) (zL (vV E) hM)) zw)))))))
theorem aa(E:E0 K mg):eg P w K mg base 4 "plain_sum" 2 kW:=
 j4 (N:=["upper","under"]) E (·._N) ⋯ λX E a I=>by refine ze (Xc (zL (kM E) hM)) ?_;exact(zh (zx (kh (zL (ZU E) (zb (PO.v (qA (Vw E) hM)) zw)) (zL (ZU E) (zb (PO.v (qA (Yg E) hM)) zw)))))
theorem VA(E:E0 K mg):eg P w K mg base 12 "count_upon" 2 xY:=
 j4 (N:=["upper","under"]) E (·._O) ⋯ λX E a I=>zh (zx (kh (zL (ZY E) hM) (zL (aa E) hM)))
theorem lA(E:E0 K mg):eg P w K mg base 3 "product" 3 wj:=
 j4 (N:=["p","one","other","over"]) E (·._P) ⋯ λX E a I=>by refine ze (jc (zL (xK E) f9)) ?_;exact(zh (zx (jH (ki (zb (zv zK zg) (zb (zv zK zg) (zb (jx a ⋯ E.Za (PO.q (jB a (zS (PV.q (zv zK zg))) (λ_ _ _ b=>zL (pD E) o7)))) zw)))))))
theorem vQ(E:E0 K mg):eg P w K mg base 4 "room_by_room" 3 qL:=
 j4 (N:=["p","ones","others"]) E (·._Q) ⋯ λX E a I=>zh (jY (jB a (g9.c (w6 a ⋯ E.Zc zy zy)) (λ_ _ _ b=>zL (lA E) o7)))
theorem Kc(E:E0 K mg):eg P w K mg base 1 "stretches_of" 1 qK:=
 j4 (N:=["many","found","i"]) E (·._R) ⋯ λX E a I=>by refine ze (vN (kL (ki zw))) ?_;refine ze (xi I a (jC a ⋯ E.Z2 zy) (zh (EC 1 a ⋯ (jB a (g9.c (gb a ⋯ E.Z2 zy zy)) (λ_ _ _ b=>jH (ki hM)))))) ?_;exact(zh (wF 1 (a.var ⋯)))
theorem JM(E:E0 K mg):eg P w K mg base 4 "are_told_apart" 4 qQ:=
 j4 (N:=["ways","ones","others","bar"]) E (·._S) ⋯ λX E a I=>zh (zx (NR a (zL (vP E) o7) (zL (vP E) o7)))
theorem Ah(E:E0 K mg):eg P w K mg base 5 "apart" 3 K8:=
 j4 (N:=["ways","ones","others","stretches","stretch","told"]) E (·._T) ⋯ λX E b I=>by refine ze (jc (PO.v (qA (Kc E) (zb (jt (cD b ⋯ E.Z1 zy) zg) zw)))) ?_;refine ze (jc (zv (PO.q (Vp b (zS zK) (λ_ _ _ a=>yG a (yF a zK zy) (yF a zK zy)) (λ_ _ _ a=>fS a))) zg)) ?_;refine ze (jc (zv (PO.q (Vp b (zS zK) (λ_ _ _ a=>jP (zL (JM E) (zb zy o7))) (λ_ _ _ a=>fS a))) zg)) ?_;exact(zh (zx (jH (ki (zb zR (zb zy (zb (yF b zK zy) (zb (yF b zK zy) f9))))))))
theorem Ai(E:E0 K mg):eg P w K mg base 11 "alike" 2 K9:=
 j4 (N:=["one","other","first","second","there","back"]) E (·._U) ⋯ λX E a I=>by refine ze (Xc (zL (kM E) hM)) ?_;refine ze (jc (zL (ZZ E) f9)) ?_;refine ze (jc (zL (ZZ E) f9)) ?_;refine ze (jl (yG a (zv zK zg) (zv zK zg)) (zh (zx (zL (Ah E) (zb (zL (yH E) f9) (zb (zv zK zg) (zb (zv zK zg) zw)))))) zO) ?_;refine ze (jc (PO.v (qA (vQ E) (zb (zv zK zg) (zb (zv zK zg) (zb (zv zK zg) zw)))))) ?_;refine ze (jc (PO.v (qA (vQ E) (zb (zv zK zg) (zb (zv zK zg) (zb (zv zK zg) zw)))))) ?_;exact(zh (zx (jH (ki (zb zR hM)))))
theorem Kd(E:E0 K mg):eg P w K mg base 1 "stretch_text" 1 Zk:=
 j4 (N:=["stretch","i","j"]) E (·._V) ⋯ λX E a I=>by refine ze (jc (zv zK zg)) ?_;refine ze (jc (zv zK zg)) ?_;exact(zh (zx (XZ (xG (YA rfl zy) (xG zR (xG (YA rfl zy) W3))))))
theorem VE(E:E0 K mg):eg P w K mg base 12 "alike_text" 2 yt:=
 j4 (N:=["row","other","told"]) E (·._W) ⋯ λX E a I=>by refine ze (jc (zL (Ai E) hM)) ?_;refine ze (jl (jT a (zv zK zg) zR) (zh (zx zR)) zO) ?_;exact(zh (zx (xh zR (zL (Kd E) (zb (zv zK zg) zw)))))
theorem Yh(E:E0 K mg):eg P w K mg base 13 "answered" 2 j3:=
 j4 (N:=["row","words","first"]) E (·._X) ⋯ λX E a I=>by refine ze (jc (zv zK zg)) ?_;refine ze (jl (jT a zy zR) wD zO) ?_;refine ze (jl (jT a zy zR) wD zO) ?_;refine ze (jl (jT a zy zR) wD zO) ?_;refine ze (jl (jT a zy zR) (zh (zx (xf a ⋯ E.Z3 (zL (ZY E) (zb zy (zb (zL (km E) f9) zw)))))) zO) ?_;refine ze (jl (jT a zy zR) (zh (zx (xf a ⋯ E.Z3 (zL (VA E) (zb zy (zb (zL (km E) f9) zw)))))) zO) ?_;exact zh (zx (zL (VE E) (zb zy (zb (zL (km E) f9) zw))))
theorem lE(E:E0 K mg):eg P w K mg base 8 "changed" 2 K6:=
 j4 (N:=["row","words","first","rooms"]) E (·._Y) ⋯ λX E a I=>by refine ze (jc (zv zK zg)) ?_;refine ze (jl (jT a zy zR) (zh (zx (zL (km E) f9))) zO) ?_;exact wD
theorem Vv(E:E0 K mg):eg P w K mg base 1 "table_text" 1 yk:=
 j4 (N:=["table"]) E (·._Z) ⋯ λX E a J=>zh (zx (yU zR (PO.q (jB a (zS (PV.q (zv zK zg))) (λ_ _ _ b=>yU zR (PO.q (jB b (zS zK) (λ_ _ _ I=>xf I ⋯ E.Z3 zy))))))))
theorem VB(E:E0 K mg):eg P w K mg base 2 "arrow_text" 1 xZ:=
 j4 (N:=["arrow","table"]) E (·.b?) ⋯ λX E a I=>by refine ze (jc (zL (Vv E) (zb (zv zK zg) zw))) ?_;exact(zh (zx (qz (jT a (zv zK zg) zR) (XZ (xG zR (xG (YA rfl zy) (xG zR W3)))) (XZ (xG zR (xG (YA rfl zy) (xG zR W3)))))))
theorem cQ(E:E0 K mg):eg P w K mg base 3 "row_text" 1 wQ:=
 j4 (N:=["row","prime","words","arrow","width"]) E (·.d?) ⋯ λX E a I=>by refine ze (jc (zv zK zg)) ?_;refine ze (vN (kL (ki (zb (XZ (xG (YA rfl zy) (xG zR W3))) (zb (xf a ⋯ E.Z3 (zv (PV.q (zv zK zg)) zg)) zw))))) ?_;refine ze (xi I a (w6 a ⋯ E.Zc (zv zK zg) (WW (zv zK zg) (qm zg) ke)) (by refine ze (yz 2 a ⋯ (zL (VB E) f9)) ?_;exact(zh (yz 2 a ⋯ (xf a ⋯ E.Z3 zy))))) ?_;exact(zh (zx (yU zR zK)))
theorem yX(E:E0 K mg):eg P w K mg base 1 "_law_cell" 2 jI:=
 j4 (N:=["_law_script","_law_k","_law_cell_here","_law_turn_here","_law_given"]) E (·.e?) ⋯ λX E a I=>by refine ze (jl (ZO (Zp (X4 (qU a ⋯ E.Z1 zK) zg) (yS (jT a (j8 (zv zK zg) zg) zg)))) (by refine ze (jc (zv zK (jt zg (j8 zy (kh (qU a ⋯ E.Z1 zK) zg))))) ?_;refine ze (xi I a (jC a ⋯ E.Z2 (fQ a ⋯ E.Zg zg (w4 zy (kh (qU a ⋯ E.Z1 zK) zg)))) (zh (jc (w4 zy (oF zg zg))))) ?_;exact(zh (zx (j8 zy (oF zg zg))))) zO) ?_;refine ze (jc zy) ?_;refine ze (jl (X4 (qU a ⋯ E.Z1 zK) zg) (zh (jc (zv zK (j8 zy (qU a ⋯ E.Z1 zK))))) zO) ?_;exact(zh (zx (j8 (qG (j8 (jt (jt (jt (qG (j8 zy (oF zg zg)) zg) (qG (qG zg zy) zy)) (qG zg zy)) zg) zg) zg) zg)))
theorem Kf(E:E0 K mg):eg P w K mg base 2 "_law_ways" 3 xN:=
 j4 (N:=["_law_script","_law_at","_law_many"]) E (·.f?) ⋯ λX E a I=>zh (zx (yU zR (PO.q (jB a (g9.c (jC a ⋯ E.Z2 (kh zy zg))) (λ_ _ _ b=>yT zR (j8 (w4 (zL (yX E) (zb zy (zb (jt zy zy) zw))) zg) zg))))))
theorem vS(E:E0 K mg):eg P w K mg base 2 "_law_bars" 4 qO:=
 j4 (N:=["_law_script","_law_at","_law_rooms","_law_many","_law_found","_law_k","_law_cell_here","_law_i"]) E (·.g?) ⋯ λX E a I=>by refine ze (vN (kL (ki zw))) ?_;refine ze (xi I a (jC a ⋯ E.Z2 zy) (by refine ze (jc (zL (yX E) (zb zy (zb (jt zy zy) zw)))) ?_;refine ze (jc (j8 zy zy)) ?_;exact(zh (yz 4 a ⋯ (jH (ki (zb zy (zb (jt zy (j8 (w4 zy zg) (kh zy zy))) zw)))))))) ?_;exact(zh (jY (fX a ⋯ E.Ze zK)))
theorem w9(E:E0 K mg):eg P w K mg base 1 "_law_text" 1 qC:=
 j4 (N:=["_law_told","_law_p","_law_widths","_law_arrows","_law_words","_law_k","_law_pair","_law_rows"]) E (·.i?) ⋯ λX E a I=>by refine ze (fU (Pj a) zy) ?_;refine ze (vN (kL (ki (zb (xh (xf a ⋯ E.Z3 zy) zR) (zb (xf a ⋯ E.Z3 (zv zK zg)) zw))))) ?_;refine ze (xi I a (YG a ⋯ E.Z4 zy) (by refine ze (jc (yU zR (PO.q (jB a (zS (PV.q (zv (PV.q (zv zK zg)) zg))) (λ_ _ _ b=>yU zR (PO.q (jB b (zS zK) (λ_ _ _ J=>xf J ⋯ E.Z3 zy)))))))) ?_;refine ze (jl (jT a (zv zK zg) zR) (zh (yz 4 a ⋯ (xh (xh zR zy) zR))) (zh (yz 4 a ⋯ (xh (xh zR zy) zR)))) ?_;exact(zh (yz 4 a ⋯ (xf a ⋯ E.Z3 (zv zK (jt zy zg))))))) ?_;exact(zh (zx (yU zR zK)))
theorem vR(E:E0 K mg):eg P w K mg base 1 "_law_times" 3 qM:=
 j4 (N:=["_law_p","_law_one","_law_other","_law_columns_told","_law_rows","_law_row"]) E (·.j?) ⋯ λX E a I=>by refine ze (jA 3 (yV a (g9.c (jC a ⋯ E.Z2 (zv zK zg))) (λ_ _ _ b=>PO.v (jB b (zS (PV.q (zv zK zg))) (λ_ _ _ J=>zv zK zy))))) ?_;refine ze (vN (kL (ki zw))) ?_;refine ze (xi I a (JH (zv zK zg)) (zh (yz 4 a ⋯ (jx a ⋯ E.Za (PO.q (jB a (zS zK) (λ_ _ _ b=>j8 (QA b ⋯ E.Z9 (PO.q (jB b (g9.c (w6 b ⋯ E.Zc zy zy)) (λ_ _ _ J=>qG zy zy)))) zy))))))) ?_;exact(zh (zx (jH (ki (zb (zv zK zg) (zb (zv zK zg) (zb (jx a ⋯ E.Za zK) zw)))))))
theorem ZW(E:E0 K mg):eg P w K mg base 2 "_law_in_turns" 3 qD:=
 j4 (N:=["_law_told","_law_turns","_law_backs","_law_p","_law_widths","_law_arrows","_law_made","_law_k","_law_pair","_law_begin","_law_end"]) E (·.k?) ⋯ λX E a I=>by refine ze (fU (Pj a) zy) ?_;refine ze (vN (kL (ki zw))) ?_;refine ze (xi I a (YG a ⋯ E.Z4 zy) (by refine ze (jc (jt zy (vL a ⋯ E.Z6 (JE a (zv zK zg) zR)))) ?_;refine ze (jc (jt zy (vL a ⋯ E.Z6 (JE a (zv zK zg) zR)))) ?_;exact(zh (yz 6 a ⋯ (jH (ki (zb (zv zK zg) (zb (zL (vR E) (zb zy (zb (zL (vR E) (zb zy (zb (zv zK zy) (zb (zv zK zg) zw)))) (zb (zv zK zy) zw)))) zw)))))))) ?_;exact(zh (zx (jH (ki (zb zy (zb zy (zb (jx a ⋯ E.Za zK) zw)))))))
theorem Ye(E:E0 K mg):eg P w K mg base 2 "_law_turn" 4 xo:=
 j4 (N:=["_law_script","_law_at","_law_p","_law_many","_law_turn_here","_law_back","_law_step","_law_cell_here","_law_a","_law_b","_law_by","_law_undo","_law_row","_law_told","_law_rows"]) E (·.l?) ⋯ λX E a J=>by refine ze (fV 4 (yV a (g9.c (jC a ⋯ E.Z2 zy)) (λ_ _ _ b=>PO.v (jB b (g9.c (jC b ⋯ E.Z2 zy)) (λ_ _ _ I=>vL I ⋯ E.Z6 (JE I zy zy)))))) ?_;refine ze (HY a (g9.c (jC a ⋯ E.Z2 zy)) (λ_ _ _ b=>jB b (g9.c (jC b ⋯ E.Z2 zy)) (λ_ _ _ I=>vL I ⋯ E.Z6 (JE I zy zy)))) ?_;refine ze (xi J a (jC a ⋯ E.Z2 (qG zg zy)) (by refine ze (jc (zL (yX E) (zb zy (zb (jt zy zy) zw)))) ?_;refine ze (jc (j8 zy zy)) ?_;refine ze (jc (j8 (w4 zy zy) zy)) ?_;refine ze (jc (jt zg (j8 (w4 zy zg) (kh zy zg)))) ?_;exact(zh (jl (jT a zy zy) (by refine ze (X9 4 a ⋯ zy (PO.v (jB a (zS (PV.q (zv zK zy))) (λ_ _ _ b=>j8 (qG zy zy) zy)))) ?_;refine ze (jc (zv (PO.q (Vp a (g9.c (jC a ⋯ E.Z2 zy)) (λ_ _ _ b=>jT b (j8 (qG zy zy) zy) zg) (λ_ _ _ b=>fS b))) zg)) ?_;exact(zh (YE 5 12 (W4 J) a.calm a ⋯ ⋯ (a.uL 12 ⋯) zy (j8 (qG (zv zK zy) zy) zy)))) (by refine ze (X9 4 a ⋯ zy (PO.v (jB a (g9.c (w6 a ⋯ E.Zc (zv zK zy) (zv zK zy))) (λ_ _ _ b=>j8 (jt zy (qG zy zy)) zy)))) ?_;exact(zh (YE 5 12 (W4 J) a.calm a ⋯ ⋯ (a.uL 12 ⋯) zy (j8 (kh (zv zK zy) (qG zy (zv zK zy))) zy)))))))) ?_;refine ze (vN (kL (ki zw))) ?_;refine ze (zdO 5 (EA 4 (xi J a (JH (PO.v (kL (ki hM)))) (zh (yz 13 a ⋯ (jH (ki (zb zy (zb zy (zb (jx a ⋯ E.Za (PO.q (jB a (zS zK) (λ_ _ _ b=>jx b ⋯ E.Za zK)))) zw)))))))))) ?_;exact(zh (wF 13 (a.var ⋯)))
theorem ZX(E:E0 K mg):eg P w K mg base 3 "_law_hidden" 3 qX:=
 j4 (N:=["_law_script","_law_at","_law_told","_law_pairs"]) E (·.m?) ⋯ λX E a I=>by refine ze (jA 3 (yV a (g9.c (YG a ⋯ E.Z4 (zv zK zg))) (λ_ _ _ b=>PO.v (qA (Ye E) (zb zy (zb (jt zy (qG zg zy)) (zb (zv zK zg) f9))))))) ?_;exact(zh (zx (zL (ZW E) (zb zy (zb (PO.v (jB a (zS zK) (λ_ _ _ b=>zv zK zg))) (zb (PO.v (jB a (zS zK) (λ_ _ _ b=>zv zK zg))) zw))))))
theorem jQ(E:E0 K mg):eg P w K mg base 1 "_law_with" 2 jq:=
 j4 (N:=["_law_found","_law_room"]) E (·.n?) ⋯ λX E a I=>zh (jY (Vp a (g9.c (Vs a ⋯ E.Z4 zy)) (λ_ _ _ b=>W0 W7 W7 J3 J3 (zv zK zg) zy (zv zK zg)) (λ_ _ _ b=>fS b)))
theorem Zh(E:E0 K mg):eg P w K mg base 2 "_law_bar_row" 3 qE:=
 j4 (N:=["_law_p","_law_ways_here","_law_found","_law_widths","_law_arrows","_law_k","_law_way","_law_begin","_law_end","_law_rows"]) E (·.o?) ⋯ λX E a J=>by refine ze (jA 3 (yV a (g9.c (jC a ⋯ E.Z2 (jt (cD a ⋯ E.Z1 zy) zg))) (λ_ _ _ b=>qU b ⋯ E.Z1 (PO.q (qA (jQ E) hM))))) ?_;refine ze (vN (kL (ki zw))) ?_;refine ze (xi J a (cJ a ⋯ E.Z4 zy) (by refine ze (jc (jt zy (vL a ⋯ E.Z6 (JE a zy zR)))) ?_;refine ze (jc (jt zy (vL a ⋯ E.Z6 (JE a zy zR)))) ?_;refine ze (jA 9 (yV a (zS (PO.q (qA (jQ E) hM))) (λ_ _ _ b=>jx b ⋯ E.Za (PO.q (jB b (zS (PO.q (qA (jQ E) hM))) (λ_ _ _ I=>vL I ⋯ E.Z6 (JE I zy zy))))))) ?_;exact(zh (yz 4 a ⋯ (jH (ki (zb zy (zb (jH (ki (zb (zv zK zy) (zb (zv zK zy) (zb (jx a ⋯ E.Za zK) zw))))) zw)))))))) ?_;exact(zh (zx (jH (ki (zb zy (zb (jx a ⋯ E.Za zK) (zb (jx a ⋯ E.Za zK) zw)))))))
theorem Kg(E:E0 K mg):eg P w K mg base 1 "_law_first" 2 qN:=
 j4 (N:=["_law_ones","_law_others","_law_bar"]) E (·.p?) ⋯ λX E a I=>by refine ze (xi I a (JH (PO.v (fX a ⋯ E.Ze (PV.q (PO.v (YF zK zK)))))) (zh (jl (yG a (yF a zK zy) (yF a zK zy)) (zh (zx (xh (xh (xh zR (xf a ⋯ E.Z3 (zv zK zg))) zR) (xf a ⋯ E.Z3 (zv zK zg))))) zO))) ?_;exact(zh (zx zR))
theorem QE(E:E0 K mg):eg P w K mg base 1 "_law_leads" 3 qj:=
 j4 (N:=["_law_ways_here","_law_one","_law_other","_law_begin","_law_end"]) E (·.q?) ⋯ λX E a I=>by refine ze (jc (oG a ⋯ E.Zf (zv zK zg) (zv zK zg))) ?_;refine ze (jc (fQ a ⋯ E.Zg (zv zK zg) (zv zK zg))) ?_;refine ze (jl (X4 zy zy) (zh (zx zg)) zO) ?_;refine ze (jl (ZO (XW (ZO (Zp (oN (zv zK zg) zy) (yS (yG a (yT zy (kh zy zg)) zR)))) (Zo (ZO (Zp (oN (zv zK zg) zy) (yS (yG a (yT zy (kh zy zg)) zR))))))) (zh (zx zg)) zO) ?_;refine ze (jl (ZO (XW (ZO (Zp (X4 (zv zK zg) zy) (yS (yG a (yT zy zy) zR)))) (Zo (ZO (Zp (X4 (zv zK zg) zy) (yS (yG a (yT zy zy) zR))))))) (zh (zx zg)) zO) ?_;exact(zh (zx zg))
theorem cU(E:E0 K mg):eg P w K mg base 2 "_law_upon" 3 yO:=
 j4 (N:=["_law_ways_here","_law_ones","_law_others","_law_number","_law_one","_law_room","_law_k","_law_way","_law_begin"]) E (·.r?) ⋯ λX E a I=>by refine ze (jc zg) ?_;refine ze (xi I a (JH zy) (zh (jc (jt zy (QA a ⋯ E.Z9 (PO.q (jB a (zS zK) (λ_ _ _ b=>zL (QE E) o7)))))))) ?_;refine ze (xi I a (jC a ⋯ E.Z2 (jt (cD a ⋯ E.Z1 zy) zg)) (zh (jc (kh zy (qG (qU a ⋯ E.Z1 (PO.q (qA (jQ E) hM))) (qU a ⋯ E.Z1 (PO.q (qA (jQ E) hM)))))))) ?_;refine ze (xi I a (cJ a ⋯ E.Z4 zy) (by refine ze (jc (jt zy (vL a ⋯ E.Z6 (JE a zy zR)))) ?_;exact(zh (jc (jt zy (qG (qU a ⋯ E.Z1 (PO.q (qA (jQ E) hM))) (qU a ⋯ E.Z1 (PO.q (qA (jQ E) (zb zy (zb (kh (jt (qG zg zy) zg) zy) zw))))))))))) ?_;exact(zh (wF 3 (a.var ⋯)))
theorem MC{f C:dj}{e:nf}(I:L2.p8 K "__init__" "Desk.__init__" (Lf (top 157) 0) f e)(c:Dh K C):ml P w K mg base n4 1 f e ["self"] (Ho C):=
 AR (k:=0) I ⋯ c λX J b O Q U a=>by subst J b O Q U;exact vM<|BK (a.var ⋯) ph rfl
theorem MB{f C:dj}{e:nf}(I:L2.p8 K "tell" "Desk.tell" (Lf (top 157) 1) f e)(c:Dh K C)(E:E0 K mg)(J:Di w K mg "ROOMS_BEHIND" E2):ml P w K mg base n4 14 f e ["self","line"] (NL K C jZ):=
 AQ (k:=13) I ⋯ c λX O b Q U Y a=>by subst O b Q U Y;exact yf (a.set 2 ⋯<|PO.v<|Vo zy zR)<|yf (oP (qu<|jP<|NW (Kh E J) a f9) X8 X7)<|yf (oP (PW.pt<|BH (Zq BO (gc (a.var ⋯) rfl) ph<|yI _)<|oC<|yG a (zv zK zg) zR) X8 X7)<|yf (oP (JF (zv zK zg)<|PV.q<|XY a ⋯ E.G8) (vM<|QB<|pq (Yh E) a<|z9 (gc (a.var ⋯) rfl)<|z9 zy jM) X7)<|yf (BK (a.var ⋯) (pq (lE E) a<|z9 (gc (a.var ⋯) rfl)<|z9 zy jM) rfl)<|vM<|QB<|pq (cQ E) a<|z9 (gc (a.var ⋯) rfl) jM
theorem PB(D:L2.p8 K "law" "law" (top 173) f fd)(E:E0 K mg)(O:N0 P w K mg base CR)(I:N5 P w K mg base 14 CR jZ):ml P w K mg base n4 15 f fd ["_law_script"] (o3 K 1 K4):=
 Ot (N:=["_law_script","_law_cell_here","_law_p","_law_rooms","_law_ways_here","_law_ones","_law_others","_law_desk","_law_text_here","_law_number","_law_one","_law_turn_here"]) D ⋯ λX Q b U Y Z a J=>by subst Q b U Y Z;exact by refine ze (jc (zL (yX E) (zb zy (zb zg zw)))) ?_;refine ze (jc (zv (PO.q (kL (ki (zb zg (zb zg (zb zg (zb zg zw))))))) (j8 zy zg))) ?_;refine ze (jc (jt zg (j8 (w4 zy zg) zg))) ?_;refine ze (jc (zL (Kf E) (zb zy (zb zg f9)))) ?_;refine ze (jc (PO.v (qA (vS E) (zb zy (zb zg (zb zy (zb (j8 (w4 zy zg) zg) zw))))))) ?_;refine ze (jc (PO.v (qA (vS E) (zb zy (zb zg (zb zy (zb (j8 (w4 zy zg) zg) zw))))))) ?_;refine ze (jl (jT a (j8 (w4 zy zg) zg) zg) (zh (jc zy)) zO) ?_;exact(iZ 7 (a.set 7 ⋯ (EO O ⋯ a ⋯)) (Jy (Ry (Xd I ⋯ a (a.var ⋯) (xh zR (zL (w9 E) (zb (zL (ZX E) (zb zy (zb zg (zb (zL (Zh E) o7) zw)))) zw))))) (Jy (CA (T:=.nm 8) (a.set 8 ⋯ (zL (w9 E) (zb (zL (ZX E) (zb zy (zb zg (zb (zL (Zh E) o7) zw)))) zw)))) (Jy (CA (T:=.nm 9) (a.set 9 ⋯ zg)) (Jy (GR (T:=.nm 10) (W4 J) a.calm (JH zy) (a.uL 10 ⋯) (mR (CA (T:=.nm 9) (a.set 9 ⋯ (jt zy (QA a ⋯ E.Z9 (PO.q (jB a (zS zK) (λ_ _ _ d=>zL (QE E) o7))))))))) (Jy (GR (T:=.nm 11) (W4 J) a.calm (jC a ⋯ E.Z2 zg) (a.uL 11 ⋯) (Jy (Pf (HU (cG a (Xd I ⋯ a (a.var ⋯) (xh zR zy)) (xf a ⋯ E.Z3 zy)) (Es (cG a (Xd I ⋯ a (a.var ⋯) (xh zR zy)) (xf a ⋯ E.Z3 (zL (cU E) o7))))) (vM (QB ER))) (mR (Pf (cG a (Xd I ⋯ a (a.var ⋯) (xh zR zy)) (zL (Kg E) hM)) (vM (QB ER)))))) (mR (Nu cF))))))))
end
end DL
open PySem PySem.W PyProof.Rows
set_option maxRecDepth 100000 in
set_option maxHeartbeats 0 in
theorem PySem.Challenge.cw_barsplit_k66_ways_and_layings_at_the_des_holds : PySem.Challenge.rw_barsplit_k66_ways_and_layings_at_the_des.Holds := by
 refine hd0 ?_
 k_fill
 refine L2.Mm (l:=Ug) (n:=63) (k:=15) (x:="_law_script") (CX:=L2.n4) (sp:=λK=>DL.o3 K 1 DL.K4) rfl ⋯ rfl ⟨rfl,by decide,by decide⟩ (λw h Y=>PySem.W.kIn_of Y) ?F ?S ?C
 case S=>exact λK H a ns J zgu Q=>DL.MQ Q (DL.Oj ns J)
 case C=>exact λ_ _ _ _ z=>z
 case F=>
  intro w mg fa h I G U;have an:DL.GL (L2.l5 I) mg "CHANGING_LINES" (.tup [.str "row",.str "beside",.str "cut",.str "mirror",.str "opposite",.str "about",.str "split"]):=by
   dsimp only[L2.l5];refine' DL.Oo ["row","beside","cut","mirror","opposite","about","split"] I G ?a ?l ?v ?z
   (case a=>k_is);(case l=>k_is);(case v=>rfl);(case z=>decide)
  have ao:DL.GL (L2.l5 I) mg "LINES_WITH_A_ROW" (.tup [.str "row",.str "beside",.str "ways",.str "upon",.str "alike"]):=by
   dsimp only[L2.l5];refine' DL.Oo ["row","beside","ways","upon","alike"] I G ?a ?l ?v ?z
   (case a=>k_is);(case l=>k_is);(case v=>rfl);(case z=>decide)
  have ap:DL.GL (L2.l5 I) mg "MOST_HIGH_OR_WIDE" (.int 30):=by
   dsimp only[L2.l5];refine' DL.PH I G ?a
   (case a=>k_is)
  have as:DL.GL (L2.l5 I) mg "MOST_ROOMS" (.int 6):=by
   dsimp only[L2.l5];refine' DL.PH I G ?a
   (case a=>k_is)
  have aw:DL.GL (L2.l5 I) mg "MOST_TOGETHER" (.int 30):=by
   dsimp only[L2.l5];refine' DL.PH I G ?a
   (case a=>k_is)
  have ax:DL.GL (L2.l5 I) mg "PRIMES" (.tup [.int 2,.int 3,.int 5,.int 7]):=by
   dsimp only[L2.l5];refine' DL.Oq [2,3,5,7] I G ?a ?l ?v ?z
   (case a=>k_is);(case l=>k_is);(case v=>rfl);(case z=>decide)
  have Z:DL.Di w (L2.l5 I) mg "ROOMS_BEHIND" DL.E2:=by
   dsimp only[L2.l5];refine' DL.MR [("cut",_,2,_),("mirror",_,0,_),("opposite",_,0,_),("about",_,1,_),("split",_,0,_),("bars",_,0,_),("kept",_,2,_),("widths",_,0,_)] I G ?a ?l ?s ?e ?d ?z ?k
   (case a=>k_is)
   (case l=>k_is)
   (case s=>decide)
   (case e=>exact⟨rfl,rfl,rfl⟩)
   (case d=>rfl)
   (case z=>rfl)
   (case k=>rfl)
  have b0:DL.GL (L2.l5 I) mg "ROOM_WORDS" (.tup [.str "0",.str "1",.str "2",.str "3",.str "4",.str "5"]):=by
   dsimp only[L2.l5];refine' DL.Oo ["0","1","2","3","4","5"] I G ?a ?l ?v ?z
   (case a=>k_is);(case l=>k_is);(case v=>rfl);(case z=>decide)
  have b1:DL.GL (L2.l5 I) mg "TABLE_SIGNS" (.str "0123456789/"):=by
   dsimp only[L2.l5];refine' DL.PF I G ?a
   (case a=>k_is)
  have b2:DL.GL (L2.l5 I) mg "WAYS" (.tup [.str "r",.str "l"]):=by
   dsimp only[L2.l5];refine' DL.Oo ["r","l"] I G ?a ?l ?v ?z
   (case a=>k_is);(case l=>k_is);(case v=>rfl);(case z=>decide)
  have DK:DL.U4 (L2.l5 I) mg (DL.Lf (DL.top 157) 0) (DL.Lf (DL.top 157) 1):=by
   dsimp only[L2.l5];refine' DL.Ox I G ?nC ?iC ?mC ?uI ?uT ?vI ?vT ?w1 ?w2 ?z1 ?z2 ?b ?gI ?gT
   (case nC=>k_is)
   (case iC=>k_is)
   (case mC=>k_is)
   (case uI=>k_is)
   (case uT=>k_is)
   (case vI=>k_is)
   (case vT=>k_is)
   (case w1=>k_is)
   (case w2=>k_is)
   (case z1=>k_is)
   (case z2=>k_is)
   (case b=>kernel_rfl)
   (case gI=>intro _ _ _ _ _ _ us J;obtain⟨_,rfl⟩:=DL.Sx J;rfl)
   (case gT=>intro _ _ _ _ _ _ us J;obtain⟨_,_,rfl⟩:=DL.Sw J;rfl)
  have E:DL.E0 (L2.l5 I) mg:=by
   constructor
   all_goals first
    |assumption
    |exact PySem.W.mg_none_of I G (by k_is)
    |(dsimp only[L2.l5];refine' DL.PU I G ?a ?l ?c ?k ?b;(case a=>k_is);(case l=>k_is);(case c=>k_is);(case k=>k_is);(case b=>intro _ _ _ _ _ _ us J;first|(obtain⟨_,rfl⟩:=DL.Sx J;rfl)|(obtain⟨_,_,rfl⟩:=DL.Sw J;rfl)|(obtain⟨_,_,_,rfl⟩:=DL.Sv J;rfl)|(obtain⟨_,_,_,_,rfl⟩:=DL.Su J;rfl)))
  obtain⟨f,fd,Fu,hb,hm⟩:=E.s?.ex;have e0:=U.symm.trans hm;cases e0;refine⟨fd,λs u=>.of_eq (hb [u] rfl),λbase zgv nb=>?_⟩;obtain⟨CR,fI,fT,dI,dT,q1,q2,O,q4,q5,q6,q7,q8⟩:=DK.ex;have ak:DL.N0 (Ug).prog w (L2.l5 I) mg base CR:=⟨fI,dI,q2,DL.MC q5 O,q1,q7⟩;have al:DL.N5 (Ug).prog w (L2.l5 I) mg base 14 CR DL.jZ:=⟨fT,dT,O,q4,DL.MB q6 O E Z,q8⟩;exact DL.PB Fu E ak al
