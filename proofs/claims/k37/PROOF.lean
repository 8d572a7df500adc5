import PyProof.Rows.All
import Wide.All
import OpenK.ZHead
import KE.KDictList
import KE.KEqDict
import KE.KFromBytes
import KE.KIntText
import KE.KItem
import KE.KxBytes
import OpenK.KCall
import OpenK.KCls
import OpenK.KDescr
import OpenK.KFacts
import OpenK.KGet
import OpenK.KLine
import OpenK.KMake
import OpenK.KMore
import OpenK.KOps
import OpenK.KRaise
import OpenK.KWalk
import OpenK.Peek
import Wide.FinOn
import Lean
import PyProof.EqAt
import PyProof.EqKinds
import PyProof.TupleCall
import PySem.Str
import PyProof.ZipIter
import PyProof.IsiBase
import KE.KItemsList
import KE.KIsAll
import OpenK.KOwn
import KE.KSortAsk
import PyProof.StrBlockI
import PyProof.Rows.EqDataRows
import PyProof.Rows.InDataRows
import PyProof.SumWalkG
import PyProof.ConsumeWalk
import PyProof.WalksMore
import KE.KSortTup
import PyProof.ListMulRoad
import PyProof.EnumFor
import PyProof.Rows.EnumRows
import PyProof.StrBlockL
import PyProof.JoinWalk
import PyProof.NsDelKeeps
import KE.KTryDeep
import PyProof.InstStoreFacts
import PyProof.NsCount
import PyProof.ExcClass2
import PyProof.Rows.FStr
import PyProof.StationsW
import PyProof.Rows.Catch
import KE.KRevIter
import PyProof.CollectIter
import PyProof.TupleOfGen
import PyProof.Rows.Tup
import PyProof.Draws
import PyProof.EnumMake
import PyProof.StrWalks
import PyProof.SliceStr2
import PyProof.ListNew
import KE.KDictOf
import PyProof.ListRange
import PyProof.Rows.GenSrcRange
import PyProof.ListCopy
import PyProof.AttrMissHeap
import PyProof.DictWalks
import PyProof.FactsDict
import KE.KSortKey
import KE.IntText
import PyProof.TableCode
import PyProof.Rows.KernelRfl
import PySem.Challenge.RW_barsplit_k37_ways_refused
open PySem.W renaming Frag->Iy,kia_one->Lu,kitOne->Mh,mroIn->ML,findIn->Ny,hideAll_get->NB,cellsFrom_some->NO,keepIn->NZ,fnOf->Ob,hideAll->Ot,nsIn->OC,kitx_dict->OL,clsIn->Pa,typeIn->Pw,codeIn->Py,of_hideAll->PU,Looks->PX,specialIn->Rl,methodObj->Rm,kitx_list->Rn,plainGet->Rx,clsIn->Sn,looks_findIn->UH
open PySem renaming wpAny_bind->Iz,wpAny_pure->IH,wpAny_mono->Lq,wpAny_callSpecial?_slot->LC,wpAny_field->LI,wpAny_call_entry->Me,wpAny_setField_rec->Mi,wpAny_seqItems->Mn,wpAny_newObj_type->Mp,wpAny_holding->Mq,wpAny_Call_Name_kw->MC,wpAny_loadPart'->MK,wpAny_attempt->MV,wpAny_truthy_bool->MW,call_meets->Nm,mem_of_lookup->NF,Builtin->NL,wpAny_execs_cons->NM,wpAny_typeOf->NY,wpAny_getItem_str_slice->Og,wpAny_rule->Oq,sizeLine_eq->E5,builtinLookup_eq_fast->Oz,wpAny_updateSeq->OV,wpAny_passesOwn->OW,pushCells_keeps->OY,codeAny_builtin->OZ,wpAny_pyIter_tuple->Pg,codeAny_mono->Ph,wpAny_letGo->PD,wpAny_isInstance->PM,wpAny_execs_nil->Rf,typeLookup_type->Rg,post_val_or_str->Rh,wpAny_updateSeq_pair->Rv,codeAny_call_builtin->Rw,wpAny_newTuple->RD,isSubtype_stop->RE,wpAny_standAt->RN,wpAny_onRaise->RO,wpAny_pyIter_list->RW,wpAny_call->RX,typeIs_str->RY,typeIs_int->RZ,concat_meets->Sa,wpAny_pyIter_zip->Sb,noFill_tuple_add->Sd,Addr->dv,Value->dy,Shared->d6,eval->d8,model->d9,Expr->ec,Heap->eh,sizeLine->el,starEach->eA,Pos->fh,World->f7,Scope->gB,Program->g8,Stmt->h9,Around->i5,Obj->jn,Env->lp,IsPair->m4,Sem->m5,backTo->ow,Tok->qs,mainGlobals->q7,FuncData->rh,compareOp->ri,IsZip->t6,Keyword->t7,foldedSetIterable->u0,swapsWith->u4,cellsFrom->vl,binaryOp->xg,IsEnum->y6,pyNext->A6,NameKind->B4,ZipApart->B8,relabel->C5,assign->C9,behindInMarks->Dc,bootBuiltins->Dd,cLine->Df,holding->Dj,rawInt->Dl,IsPart->Dv,assignEach->Dy,getItem->DF,spliced->DP,sysModules->DR,Model->DW,pushCells->D2,backToKw->E9,bindC->F3,bindL->F4,callerA->F5,isTrue->F6,leaving->F8,Meets->Ig,atKey->L1,attributeBase->L3,standAt->M8,typeLookup->N3,valueAt->N5,setField->R0,truthy->R5,BindsTo->R7,letOwnedTupleGo->Sy,noteFrame->SG,pyIter->SM,setFlight->SQ,strIterType->SS,updateSeq->SY,IsEnumOut->S4,firstArgMember->Ts,getAttr?->Tt,ownMembersOf->TR,seqItems?->T3,subscripted->T5,swapsWithSole->T6,GenState->Ud,PassesOwn->Ul,bindArgs->Ut,builtinsNs->Uv,entryPlaceOf->Uy,isInstance->UD,isSubtype->UG,newFunctionEnv->UM,seqIndex_neg->UN,seqIndex_of->UO,seq_tuple_add->UP,swappedStores->UT,tupleKind->U5,wpAny_Name->a_,boundAndCalled->E_,checkBuiltinCall->G_,getAttrByItsOwn->L_,getattributeRaised->M',tupleKind_room_in1->Z_,underTheClaimsCaller->_b,wpAny_Expr_any->_d,wpAny_assign_Name->_e,wpAny_binaryOp_repeat_ref->_g,wpAny_isTrue_Compare1->_h,wpAny_letOwnedTupleGo_enum->_i,wpAny_mkText->_j,wpAny_pyNext_enum_endD->_k,wpAny_pyNext_enum_itemD->_l,wpAny_sequenceKey->_m,wpAny_specialOf->_n
open List renaming range->IA,mem_range->IC,getElem?_eq_getElem->ID,replicate->IE,getD_eq_getElem?_getD->IG,getElem?_cons_zero->IJ,size_toArray->IL,mem_cons->IM,getElem?_cons_succ->n7,getElem?_set_ne->IT,not_mem_nil->IW,mem_append_right->IZ,mem_cons_self->La,length_map->Lc,mem_cons_of_mem->Ld,map_congr_left->Lf,mem_filter->Li,map_cons->Lk,getElem?_eq_some_iff->Ll,length_cons->Lm,mem_map->Lv,map_map->Ly,length_append->Lz,eq_nil_of_length_eq_zero->LF,length_nil->LH,getElem?_map->LO,count_eq_zero_of_not_mem->LP,map_append->LQ,getElem?_set_self->LW,lookup_cons->LY,set_cons_zero->Ma,set_cons_succ->Mb,length_range->Md,getElem?_append_right->Mo,getElem?_append_left->Mt,all_eq_true->Mu,countP_eq_length_filter->Mx,range_succ->MA,getElem_mem->MB,replicate_succ->MU,length_singleton->MY,pairwise_iff_getElem->Nc,find?_cons->Nh,countP_congr->Ni,mem_singleton->Nr,flatten_cons->Nw,Pairwise->Nx,range_eq_range'->NA,drop_eq_getElem_cons->ND,length_take->NG,nodup_cons->NP,nil_append->NQ,getElem?_replicate->NR,filter_append->NS,append_nil->NT,take_of_length_le->Od,pairwise_lt_range->Oe,pairwise_map->Of,range_add->Oi,range'_succ->Oo,zip_map'->Ox,mem_append->OD,idxOf_lt_length_of_mem->OE,getElem?_range->OF,forIn_cons->OG,zip_cons_cons->ON,toArray->OO,mem_filterMap->OP,forIn_nil->OU,range'->O1,any_cons->Pj,all_cons->Pk,nodup_range->Pn,drop_eq_nil_of_le->Pu,countP_map->PB,mem_of_getElem?->PN,mem_append_left->Uk,perm_iff_count->Ra,length->Rb,getElem_of_mem->Rc,filterMap_cons->Uq,getElem_idxOf->Rq,forIn_toArray->Rr,find?_eq_none->Rt,length_eq_countP_add_countP->RB,foldl->RF,map_nil->RH,cons_append->RL,any_eq_true->RM
open PySem.Heap renaming get?_push_of_some->IB,lt_size->IP,get?_push_size->IS,get?_update_other->Le,push->Lj,size_push->Lx,get?_update_self->Mj,FlyingW->MZ,SameBut->NI,size_update->Pq
open Option renaming bind_some->IF,map_some->IU,isSome_iff_exists->LX,some->My,map->OS,some->cq
open Nat renaming le_refl->II,lt_of_lt_of_le->IV,ne_of_lt->IX,lt_or_ge->Lg,le_add_right->Ln,not_lt_zero->Lo,le_trans->LG,lt_irrefl->LL,zero_add->LS,lt_succ_of_lt->LZ,zero_le->Mr,lt_succ_self->Mv,reduceAdd->MQ,add_sub_cancel_left->MR,ne_of_gt->MS,mul_comm->Nb,lt_trichotomy->Oh,mul_le_mul_right->Ow,succ_mul->OT,min_eq_left->PH,le_of_lt->PJ,add_zero->PK,le_succ->Ro,eq_zero_or_pos->Rz,add_assoc->RA,add_comm->RK,mod_eq_of_lt->RQ,min_le_right->RR,div_eq_of_lt->RT
open Bool renaming and_eq_true->IK,false_ne_true->Lb,false_eq_true->LR,or_eq_true->Mk,not_eq_true'->MH,false_or->NV,eq_iff_iff->NW,and_true->Ru,true->da,false->di
open Int renaming mul_emod->IQ,emod_lt_of_pos->LB,emod_emod->LJ,emod_eq_of_lt->LK,emod_nonneg->LU,add_emod->Ml,toNat_natCast->Mm,mul_comm->Ms,emod_eq_emod_iff_emod_sub_eq_zero->MM,sub_emod->MT,emod_emod_of_dvd->Nj,mul_assoc->Nn,eq_ofNat_of_zero_le->Np,mul_zero->NJ,natCast_mul->NX,toNat_of_nonneg->OH,natCast_add->OI,mul_left_comm->Pe,mul_one->Po,mul_add->Pp,dvd_refl->PL
open PySem.Builtin.SmallTypes renaming nextOf->IY,ownedTupleIsFree->Lh,ownedTupleHandOut->ME,ownedTupleFields->OK
open PySem.NameKind renaming free->Lp,cell->Ng
open PySem.Value renaming ref->Lr,none->LV,type->MI,str->Ri,int->Rj
open PySem.Str renaming ofString->Lw,join->RV
open PyProof.Rows renaming callWith_type1->LA,slot_tuple_getitem->Mg,callWith_builtin1->Na,boot_isinstance->Oa,boot_list->OJ,slot_tupleiter_next->OX,tupleItemsOf_->PF,listUpdate_at->RP,seqObj->i9,AllBare->Dn,Call_->D8,IsTup->N7,IntsAre->Sf,envOfC->So,Subscript_->Ur,boot_enumerate->Uu,get?_update_seq->Uz,size_push'->UR,subscriptTail->US,args_tuple_getitem->D',args_tupleiter_next->D_,entry_tupleiter_next->I_,subscriptTail_builtinR->X'
open Ne renaming symm->LD
open PySem.Obj renaming mapSeq->LM,data_mapFields->Ry
open Option.some renaming inj->LN
open Classical renaming byContradiction->Mc,axiomOfChoice->OR
open PySem.SeqAt renaming EqAt->Mf,readOf->Om,readsAll_map->OA
open PySem.F renaming slot_zip_next->Mw,plainAttrs_list->Nk,slot_enumerate_next->Nz,args_zip_next_1->NC,entry_zip_next->NK,slot_list_getattribute->NU,slot_tuple_mul->OB,args_tuple_add_2->OM,plain_extend_loop->OQ,entry_tuple_add->Pb,slot_tuple_add->Pd,slot_int_rmul->PY,args_tuple_mul_2->RI,entry_tuple_mul->RU
open PySem.Calls renaming spliced_cons->Mz,spliced_nil->Nv
open PySem.Builtin.Tuple renaming tupleExact->MD,tupleIsExact->Nq
open PySem.Builtin.List renaming listTooLong->MF,listExtendWith->MJ,listItems->NH,listSameRef->Oy
open Array renaming length_toList->MG,getElem?_setIfInBounds->MN,getD_eq_getD_getElem?->Nu
open PySem.PyData renaming eqv->MO,depth->Nl,canLay0->Oc,depthAll->Ov,eqvAll->PZ,canLayAll0->Rp
open Sum renaming inl->MP,inr->RG
open PySem.Sem renaming wp->MX
open False renaming elim->Nd
open True renaming intro->Nf
open PySem.Builtin.Slice renaming slicePlaces->Nt,sliceAdjust->Oj
open PySem.Challenge renaming rw_barsplit_k37_ways_refused->_o
open List.Pairwise renaming imp_of_mem->Ou,filter->Pc
open ForInStep renaming yield->Pf
open PySem.SeqAt.EqAt renaming int_int->Um
open Function renaming comp->PR
open PySem.Txt renaming slice_le->RJ
local macro_rules| `(⋯) => `(by first|decide +kernel|omega|simp)
set_option autoImplicit true
noncomputable section
set_option Elab.async false
set_option linter.all false
set_option maxRecDepth 100000
set_option maxHeartbeats 4000000
abbrev EQ:=PySem.Value->PySem.Shared->Prop
abbrev UQ:=List (PySem.Addr×PySem.Obj)
abbrev UW:=Nat->Nat->Nat->Int
abbrev UV:=Nat->Nat->Int
abbrev UK:=Nat->Bool
abbrev UX:=Nat->Nat
abbrev UZ:=PySem.Str->Option PySem.Value
theorem UJ{c:Prop}{h:Decidable c}(z:c){α}{a b:α}:ite c a b=a:=if_pos z
theorem UY{c:Prop}{h:Decidable c}(z:¬c){α}{a b:α}:ite c a b=b:=if_neg z
namespace L2
open PySem PySem.Spec PyProof.Rows
abbrev Key:=Sum Int Str
noncomputable def cg:Key->dy->Bool
 |.inl k,v=>Value.isInt k v
 |.inr x,v=>Value.isStrOf x v
noncomputable def HZ(w:f7):Key->Int
 |.inl k=>hashInt k
 |.inr x=>hashStr w x
theorem qe:∀{k:Key} {v:dy},cg k v=da->(∃i t,k=MP i/\v=Rj i t)\/(∃x t,k=RG x/\v=Ri x t)
 |.inl i,v,h=>by obtain⟨t,e⟩:=Value.isInt_shape (k:=i) (v:=v) h;exact .inl ⟨i,t,rfl,e⟩
 |.inr x,v,h=>by obtain⟨t,e⟩:=Value.isStrOf_shape (x:=x) (v:=v) h;exact .inr ⟨x,t,rfl,e⟩
theorem fX(i:Int)(t:qs):cg (.inl i) (.int i t)=da:=by simp[cg,Value.isInt]
theorem fW(x:Str)(t:qs):cg (.inr x) (.str x t)=da:=by simp[cg,Value.isStrOf]
theorem BV(a b:Int):decide ((MP a:Key)=MP b)=(a==b):=by
 by_cases e:a=b
 ·subst e;simp
 ·have h:¬(MP a:Key)=MP b:=λq=>e (MP.inj q)
  rw[decide_eq_false h];exact(beq_eq_false_iff_ne.mpr e).symm
theorem BR(a b:Str):decide ((RG a:Key)=RG b)=decide (a=b):=by
 by_cases e:a=b
 ·subst e;simp
 ·have h:¬(RG a:Key)=RG b:=λq=>e (RG.inj q)
  rw[decide_eq_false h,decide_eq_false e]
theorem BU(a:Int)(b:Str):decide ((MP a:Key)=RG b)=di:=decide_eq_false<|λq=>nomatch q
theorem BS(a:Str)(b:Int):decide ((RG a:Key)=MP b)=di:=decide_eq_false<|λq=>nomatch q
noncomputable def xM(prog:g8)(w:f7):PySem.KeyKind prog w Key where
 is:=cg
 hash:=HZ w
 inj:=λv a b ha O=>by
  rcases qe ha with⟨i,t,rfl,rfl⟩|⟨x,t,rfl,rfl⟩
  ·rcases qe O with⟨j,u,rfl,e⟩|⟨y,u,rfl,e⟩
   ·injection e with e1 _;rw[e1]
   ·exact nomatch e
  ·rcases qe O with⟨j,u,rfl,e⟩|⟨y,u,rfl,e⟩
   ·exact nomatch e
   ·injection e with e1 _;rw[e1]
 byValue:=λk v h=>by rcases qe h with⟨i,t,rfl,rfl⟩|⟨x,t,rfl,rfl⟩<;>rfl
 pyHash:=λI h=>by
  rcases qe I with⟨i,t,rfl,rfl⟩|⟨x,t,rfl,rfl⟩
  ·exact wpAny_pyHash_int h
  ·exact wpAny_pyHash_str h
 eqBool:=λU I h=>by
  rcases qe U with⟨i,t,rfl,rfl⟩|⟨x,t,rfl,rfl⟩
  ·rcases qe I with⟨j,u,rfl,rfl⟩|⟨y,u,rfl,rfl⟩
   ·rw[BV]at h;exact wpAny_eqBool_int h
   ·rw[BU]at h;exact Mf.int_str i t y u _ _ _ _ h
  ·rcases qe I with⟨j,u,rfl,rfl⟩|⟨y,u,rfl,rfl⟩
   ·rw[BS]at h;exact Mf.str_int x t j u _ _ _ _ h
   ·rw[BR]at h;exact wpAny_eqBool_str h
 «strs» :=λk x t v h=>by
  rcases qe h with⟨i,u,rfl,e⟩|⟨y,u,rfl,e⟩
  ·exact nomatch e
  ·injection e with e1 _
   subst e1;cases v<;>rfl
theorem VT(prog:g8)(w:f7)(i:Int)(t:qs):(xM prog w).is (.inl i) (.int i t)=da:=fX i t
theorem VS(prog:g8)(w:f7)(x:Str)(t:qs):(xM prog w).is (.inr x) (.str x t)=da:=fW x t
inductive V where
 |d7|bl (b:Bool)|int (i:Int)|str (x:Str)|O6 (b:Array UInt8)|L9 (b:UInt64)|ref (a:dv)|ty (n:String)
 deriving DecidableEq
noncomputable def RelV:V->dy->Prop
 |.d7,u=>u=LV
 |.bl b,u=>u=Value.bool b
 |.int i,u=>∃t,u=Rj i t
 |.str x,u=>∃t,u=Ri x t
 |.O6 b,u=>∃t,u=Value.bytes b t
 |.L9 b,u=>∃t,u=Value.float b t
 |.ref a,u=>u=Lr a
 |.ty n,u=>u=MI n
abbrev eL:List V->List dy->Prop:=Paired RelV
theorem eL.length(r:eL xs us):xs.length=us.length:=Paired.length r
theorem eL.get:∀{xs:List V} {us:List dy} {i:Nat} {x:V},eL xs us->xs[i]? = cq x->∃u,us[i]? = cq u/\RelV x u
 |_,_,_,_,.nil,e=>by simp at e
 |_,_,0,_,.cons r _,e=>by simp at e;subst e;exact⟨_,rfl,r⟩
 |_,_,i+1,x,.cons _ t,e=>by obtain⟨u,a,b⟩:=eL.get (i:=i) (x:=x) t (by simpa using e);exact⟨u,by simpa using a,b⟩
theorem eL.set(r:RelV x u):∀{xs:List V} {us:List dy} (i:Nat),eL xs us->eL (xs.set i x) (us.set i u)
 |_,_,_,.nil=>.nil
 |_,_,0,.cons _ t=>.cons r t
 |_,_,i+1,.cons q t=>.cons q (eL.set r i t)
theorem eL.append:∀{xs ys:List V} {us ws:List dy},eL xs us->eL ys ws->eL (xs++ys) (us++ws)
 |_,_,_,_,.nil,s=>s
 |_,_,_,_,.cons r t,s=>.cons r (eL.append t s)
theorem eL.take:∀{xs:List V} {us:List dy} (n:Nat),eL xs us->eL (xs.take n) (us.take n)
 |_,_,0,_=>.nil
 |_,_,_+1,.nil=>.nil
 |_,_,n+1,.cons r t=>.cons r (eL.take n t)
theorem eL.drop:∀{xs:List V} {us:List dy} (n:Nat),eL xs us->eL (xs.drop n) (us.drop n)
 |_,_,0,r=>r
 |_,_,_+1,.nil=>.nil
 |_,_,n+1,.cons _ t=>eL.drop n t
noncomputable def B6:Option V->Option dy->Prop
 |some v,cq u=>RelV v u
 |none,none=>True
 |_,_=>False
noncomputable def KV{z:Type}:List (z×V)->List (z×dy)->Prop:=Paired λ(p:z×V) (q:z×dy)=>p.1=q.1/\RelV p.2 q.2
noncomputable def kV:Key->V
 |.inl i=>.int i
 |.inr x=>.str x
inductive HO where
 |lst (xs:List V)
 |tup (xs:List V)
 |dK (l0:List (Key×V))|dT (l0:List (List Key×V))
 |set (S:Int->Bool) (n:Nat)
 |ins (C dx:dv) (fs:List (Str×V))
 |own (x:dv)
 |xd (fs:List (Str×V))
 |met (f x:dv)
 |m9 (lo hi:Int)
 |p8 (o:jn) (u:HO)
 |D4 (ps:Array dy)
 |ext (φ:eh->Prop)
abbrev Hp:=dv->Option HO
noncomputable def upd(H:Hp)(a:dv)(o:HO):Hp:=λb=>if b=a then cq o else H b
theorem zM:upd H a o a=cq o:=by unfold upd;rw[UJ rfl]
theorem zK(h:b≠a):upd H a o b=H b:=by unfold upd;rw[UY h]
theorem w9{H:Hp}{a:dv}{o u:HO}:upd (upd H a o) a u=upd H a u:=by funext b;unfold upd;split<;>rfl
theorem ju{H:Hp}{a b:dv}{o:HO}(h:H a=cq o)(h':H b=none):a≠b:=by intro e;subst e;rw[h]at h';cases h'
noncomputable def B0(h:eh)(a:dv)(items:Array dy):Prop:=∃o,h.get? a=cq o/\(o.cls,o.dict)=(MI "tuple",none)/\∃n,o.data=.seq items n
theorem B0.new(h:eh)(items:Array dy):B0 (h.push {cls:=.type "tuple",data:=.seq items}) h.objs.size items:=⟨_,IS _ rfl,rfl,_,rfl⟩
theorem B0.tup(x:B0 h a items):N7 h a items:=let ⟨o,e,c,r⟩:=x;⟨o,e,(Prod.mk.inj c).1,r⟩
section
variable(P:g8)(w:f7)
noncomputable def j1(H:Hp)(h:eh)(a:dv):HO->Prop
 |.lst e=>e.length<=el/\∃(b:List dy) (n:Nat),eL e b/\h.get? a=cq {cls:=.type "list",data:=.seq b.toArray n}
 |.tup e=>e.length<=el/\∃b:List dy,eL e b/\B0 h a b.toArray
 |.dK d=>d.length<=el/\(a==DR)=di/\∃m,KV d m/\h.DictOf (xM P w) a m
 |.dT d=>d.length<=el/\(a==DR)=di/\∃e:List (List Key×dv×dy),
  Paired (λ(p:List Key×V) (q:List Key×dv×dy)=>p.1=q.1/\H q.2.1=cq (.tup<|p.1.map kV)/\RelV p.2 q.2.2) d e/\
  ∃o j I,h.get? a=cq o/\o.ExactDict/\o.data=.dict j I/\j.toList=e.map (entryOfKey<|tupleKind<|xM P w)/\(e.map (·.1)).Nodup
 |.set S n=>h.SetOf (intKind P w) a S n
 |.ins C g fs=>H g=cq (.own a)/\fs.length<=1000/\g≠a/\h.get? a=cq (PySem.W.instObj C g)/\
  ∃mA,h.Ns1 g mA/\(∀f,B6 (fs.lookup f)<|mA f)/\PySem.Within mA (fs.map (·.1))
 |.own _=>∃o,h.get? a=cq o
 |.xd fs=>∃mA,h.Ns1 a mA/\∀f,B6 (fs.lookup f)<|mA f
 |.m9 lo r=>∃t u v,h.get? a=cq {cls:=.type "range",data:=.fields #[.int lo t,.int r u,.int 1 v]}
 |.p8 o u=>h.get? a=cq o/\j1 H h a u
 |.D4 s=>h.get? a=cq {cls:=.none,data:=.fields s}
 |.met f x=>h.get? a=cq (Rm (.ref f)<|.ref x)
 |.ext i=>i h/\(∃o,h.get? a=cq o)/\∀k l:eh,i k->(∀o,k.get? a=cq o->l.get? a=cq o)->i l
noncomputable def kA(H:Hp)(h:eh):Prop:=∀a o,H a=cq o->j1 P w H h a o
end
section
variable{P:g8}{w:f7}{H H':Hp}{h h':eh}{a:dv}{o:HO}
theorem j1.lt(x:j1 P w H h a o):a<h.objs.size:=by
 cases o with
 |lst d=>obtain⟨_,_,_,_,e⟩:=x;exact IP e
 |tup d=>obtain⟨_,_,_,p⟩:=x;exact p.tup.lt
 |dK b=>obtain⟨_,_,_,_,o,_,_,e,_⟩:=x;exact IP e
 |dT b=>obtain⟨_,_,_,_,o,_,_,e,_⟩:=x;exact IP e
 |set S n=>obtain⟨o,_,_,_,e,_⟩:=x;exact IP e
 |ins C g fs=>obtain⟨_,_,_,e,_⟩:=x;exact IP e
 |own y=>obtain⟨_,e⟩:=x;exact IP e
 |xd fs=>obtain⟨_,⟨_,_,_,e,_⟩,_⟩:=x;exact IP e
 |m9 lo i=>obtain⟨_,_,_,e⟩:=x;exact IP e
 |p8 I u=>obtain⟨e,_⟩:=x;exact IP e
 |D4 j=>exact IP (show h.get? a=cq _ from x)
 |met f y=>exact IP (show h.get? a=cq _ from x)
 |ext k=>obtain⟨_,⟨_,e⟩,_⟩:=x;exact IP e
theorem Paired.UI:∀{I:List α} {O:List β},Paired F I O->(∀a b,F a b->G a b)->Paired G I O
 |_,_,.nil,_=>.nil
 |_,_,.cons r t,f=>.cons (f _ _ r) (Paired.UI t f)
theorem j1.A8(x:j1 P w H h a o)(k:∀b u,(b=a\/H b=cq (.own a))->h.get? b=cq u->h'.get? b=cq u)
 (U:∀b,H b=cq (.own a)->H' b=cq (.own a)) (Y:∀b xs,H b=cq (.tup xs)->H' b=cq (.tup xs)):j1 P w H' h' a o:=by
 induction o with
 |lst xs=>obtain⟨z,i,n,r,e⟩:=x;exact⟨z,i,n,r,k _ _ (.inl rfl) e⟩
 |tup xs=>obtain⟨z,i,r,I,e,c⟩:=x;exact⟨z,i,r,I,k _ _ (.inl rfl) e,c⟩
 |dK j=>obtain⟨z,y,F,r,I,g,O,e,c⟩:=x;exact⟨z,y,F,r,I,g,O,k _ _ (.inl rfl) e,c⟩
 |dT j=>
  obtain⟨z,y,xs,r,I,g,O,e,c⟩:=x;exact⟨z,y,xs,Paired.UI r λp q z=>⟨z.1,Y _ _ z.2.1,z.2.2⟩,I,g,O,k _ _ (.inl rfl) e,c⟩
 |set S n=>obtain⟨I,g,O,t,e,c⟩:=x;exact⟨I,g,O,t,k _ _ (.inl rfl) e,c⟩
 |ins C G fs=>
  obtain⟨d,z,E,e,l,⟨m,g,O,A,c⟩,r⟩:=x;exact⟨U _ d,z,E,k _ _ (.inl rfl) e,l,⟨m,g,O,k _ _ (.inr d) A,c⟩,r⟩
 |own y=>obtain⟨I,e⟩:=x;exact⟨I,k _ _ (.inl rfl) e⟩
 |xd fs=>obtain⟨l,⟨m,g,O,e,c⟩,r⟩:=x;exact⟨l,⟨m,g,O,k _ _ (.inl rfl) e,c⟩,r⟩
 |m9 lo J=>obtain⟨t,u,v,e⟩:=x;exact⟨t,u,v,k _ _ (.inl rfl) e⟩
 |p8 I u B=>obtain⟨e,q⟩:=x;exact⟨k _ _ (.inl rfl) e,B q⟩
 |D4 s=>
  have e:h.get? a=cq {cls:=.none,data:=.fields s}:=x;show h'.get? a=cq {cls:=.none,data:=.fields s};exact k a _ (.inl rfl) e
 |met f y=>
  have e:h.get? a=cq (Rm (.ref f)<|.ref y):=x;show h'.get? a=cq (Rm (.ref f)<|.ref y);exact k a _ (.inl rfl) e
 |ext K=>obtain⟨p,⟨o,e⟩,st⟩:=x;exact⟨st _ _ p λo q=>k _ _ (.inl rfl) q,⟨o,k _ _ (.inl rfl) e⟩,st⟩
theorem kA.lt(x:kA P w H h)(e:H a=cq o):a<h.objs.size:=(x a o e).lt
theorem kA.fresh(x:kA P w H h)(e:h.objs.size<=a):H a=none:=by
 cases q:H a with
 |none=>rfl
 |some u=>exact absurd (IV (x.lt q) e)<|LL _
theorem kA.kept(x:kA P w H h)(k:∀b u,h.get? b=cq u->h'.get? b=cq u):kA P w H h':=λa o e=>
 (x a o e).A8 (λb u _ q=>k b u q) (λ_ q=>q) λ_ _ q=>q
theorem kA.laid(x:kA P w H h)(k:∀b u,h.get? b=cq u->h'.get? b=cq u)(O:h.objs.size<=a)(new:j1 P w (upd H a o) h' a o):kA P w (upd H a o) h':=λb u e=>by
 have d:=x.fresh O;by_cases I:b=a
 ·subst I;rw[zM]at e;cases e;exact new
 ·rw[zK I]at e
  exact(x b u e).A8 (λc v _ q=>k c v q) (λc q=>by rw[zK (ju q d)];exact q) λc f q=>by rw[zK (ju q d)];exact q
end
noncomputable def Rd(H:Hp)(a:dv)(u:HO):Prop:=H a=cq u\/∃o,H a=cq (.p8 o u)
theorem Rd.ok(r:Rd H a u)(x:kA P w H h):j1 P w H h a u:=by
 rcases r with r|⟨o,r⟩
 ·exact x a u r
 ·obtain⟨_,q⟩:=x a _ r
  exact q
noncomputable def Ol:Option HO->Prop
 |some (.lst _)=>True
 |some (.dK _)=>True
 |some (.dT _)=>True
 |some (.set _ _)=>True
 |some (.ins _ _ _)=>True
 |some (.ext _)=>True
 |_=>False
section
variable{P:g8}{w:f7}{H:Hp}{h h':eh}{x e:dv}{o':HO}
theorem kA.write(ok:kA P w H h)(I:Ol (H x))(J:e=x\/H e=cq (.own x))(k:∀b u,b≠e->h.get? b=cq u->h'.get? b=cq u)(L:∃u,h'.get? e=cq u)
 (new:j1 P w (upd H x o') h' x o'):kA P w (upd H x o') h':=λb u q=>by
 have d:∀c y,H c=cq (.own y)->c≠x:=λc y r z=>by subst z;rw[r]at I;exact I
 have g:∀c a,H c=cq (.tup a)->c≠x:=λc a r z=>by subst z;rw[r]at I;exact I
 by_cases O:b=x
 ·subst O;rw[zM]at q;cases q;exact new
 ·rw[zK O]at q
  by_cases U:b=e
  ·have f:H b=cq (.own x):=by
    rcases J with z|z
    ·exact absurd (U.trans z) O
    ·rw[U];exact z
   rw[q]at f;cases f;obtain⟨v,i⟩:=L;exact⟨v,by rw[U];exact i⟩
  ·refine(ok b u q).A8 (λc v Y r=>k c v ?_ r) (λc r=>by rw[zK (d c b r)];exact r) λc a r=>by rw[zK (g c a r)];exact r
   rcases Y with rfl|Y
   ·exact U
   ·rintro rfl
    rcases J with z|z
    ·exact d c b Y z
    ·rw[Y]at z;cases z;exact O rfl
end
structure Un(fs ex:List dv)(H H':Hp)(h h':eh):Prop where
 keep:∀b o,h.get? b=cq o->H b=none->b∉fs->b∉ex->h'.get? b=cq o
 slot:∀b o,h.get? b=cq o->H b=none->b∈fs->b∉ex->∃sl,h'.get? b=cq {o with slots:=sl}
 free:∀b o,h.get? b=cq o->H b=none->b∉ex->H' b=none
 there:∀b o,h.get? b=cq o->b∉ex->∃o',h'.get? b=cq o'
 u6:∀b xs,H b=cq (.tup xs)->H' b=cq (.tup xs)
 vr:∀b o u,H b=cq (.p8 o u)->H' b=cq (.p8 o u)
 u5:∀b ps,H b=cq (.D4 ps)->∃more,H' b=cq (.D4<|ps++more)
section
variable{fs L' ex _p:List dv}{H H1 H2:Hp}{h h1 h2 h':eh}{a x e:dv}{o:HO}
theorem Un.any(u:Un fs ex H H1 h h1)(q:h.get? b=cq ob)(n:H b=none)(hx:b∉ex):∃z,h1.get? b=cq {ob with slots:=z}:=by
 by_cases I:b∈fs
 ·exact u.slot b ob q n I hx
 ·exact⟨ob.slots,u.keep b ob q n I hx⟩
theorem Un.kept(k:∀b u,h.get? b=cq u->h'.get? b=cq u):Un fs ex H H h h':=
 ⟨λb I q _ _ _=>k b I q,λb I q _ _ _=>⟨I.slots,k b I q⟩,λ_ _ _ n _=>n,λb I q _=>⟨I,k b I q⟩,λ_ _ q=>q,λ_ _ _ q=>q,λ_ a q=>⟨#[],by rw[q];simp⟩⟩
theorem Un.refl:Un fs ex H H h h:=Un.kept λ_ _ q=>q
theorem Un.laid(k:∀b u,h.get? b=cq u->h'.get? b=cq u)(I:h.objs.size<=a)(hn:H a=none):Un fs ex H (upd H a o) h h' where
 keep:=λb u q _ _ _=>k b u q
 slot:=λb u q _ _ _=>⟨u.slots,k b u q⟩
 free:=λb u q n _=>by rw[zK (IX<|IV (IP q) I)];exact n
 there:=λb u q _=>⟨u,k b u q⟩
 u6:=λb xs q=>by rw[zK (ju q hn)];exact q
 vr:=λb u xs q=>by rw[zK (ju q hn)];exact q
 u5:=λb ps q=>⟨#[],by rw[zK (ju q hn),q];simp⟩
theorem Un.write(I:Ol (H x))(Y:e=x\/H e=cq (.own x))(k:∀b u,b≠e->h.get? b=cq u->h'.get? b=cq u)(J:∃u,h'.get? e=cq u):Un fs ex H (upd H x o) h h':=by
 have d:∀b,H b=none->b≠x:=λb n z=>by subst z;rw[n]at I;exact I
 have O:∀b,H b=none->b≠e:=λb n z=>by
  subst z;rcases Y with r|r
  ·exact d b n r
  ·rw[n]at r;cases r
 have a:∀b u,H b=cq u->¬Ol (cq u)->b≠x:=λb u q nm z=>by subst z;rw[q]at I;exact nm I
 refine⟨λb u q n _ _=>k b u (O b n) q,λb u q n _ _=>⟨u.slots,k b u (O b n) q⟩,λb u q n _=>by rw[zK (d b n)];exact n,λb u q _=>?_,
  λb f q=>by rw[zK (a b _ q λz=>z)];exact q,λb u f q=>by rw[zK (a b _ q λz=>z)];exact q,λb g q=>⟨#[],by rw[zK (a b _ q λz=>z),q];simp⟩⟩
 by_cases U:b=e
 ·subst U;exact J
 ·exact⟨u,k b u U q⟩
end
noncomputable def SW(h:eh)(H:Hp):List dv:=(IA h.objs.size).filter λa=>(H a).isSome
noncomputable def mO(h:eh)(H:Hp):eh:=Ot h<|SW h H
theorem gx(h:eh)(H:Hp):(mO h H).objs.size=h.objs.size:=PySem.W.hideAll_size _ _
theorem mL(e:h.get? b=cq o)(n:H b=none):(mO h H).get? b=cq o:=
 NB _ e λa=>by have q:(H b).isSome=da:=(Li.mp a).2;rw[n]at q;simp at q
theorem tf(e:(mO h H).get? b=cq o):h.get? b=cq o/\H b=none:=by
 have I:h.get? b=cq o:=PU (SW h H) e;refine⟨I,?_⟩;cases q:H b with
 |none=>rfl
 |some x=>
  have a:b∈SW h H:=Li.mpr ⟨IC.mpr<|IP I,by simp[q]⟩;have z:(mO h H).get? b=none:=PySem.W.hideAll_none (SW h H) a;rw[z]at e;cases e
noncomputable def uK(g h:eh)(L:dv):List (dv×jn):=(IA h.objs.size).filterMap λa=>if a=L\/(g.get? a).isSome=da then none else (h.get? a).map λo=>(a,o)
noncomputable def yR(g h:eh)(L d:dv):List (dv×jn):=(uK g h L).filter λp=>decide<|p.1≠d
structure Mod(K:Iy)(mg:UZ)(base:eh):Prop where
 M3:K.In base
 glob:base.Ns q7 mg
 blt:∃mb,base.Ns Uv mb/\∀x:Str,x ≠ "__name__"->mb x=Dd x
 nolimit:base.NoLimit
structure Cx where
 prog:g8
 w:f7
 K:Iy
 mg:Str->Option dy
 base:eh
 A:i5
 N:List Str
 h7:d6
 DU:Hp
 env:lp
 outer:List lp
 stack:List lp
 ex:List dv
 fn:Str->Bool
 calm:Bool
 pn:List (dv×jn)
 xe:dy->d6->Prop
noncomputable def m7(l:List lp):List dv:=l.filterMap (·.frame)
abbrev Cx.fs(X:Cx):List dv:=m7 X.outer
noncomputable def O3(z:gB)(x:Str):Prop:=z.names.lookup x=cq .local\/z.names.lookup x=cq .cell\/z.names.lookup x=cq .free
noncomputable def Loc(z:gB)(x:Str):Prop:=z.names.lookup x=cq .local\/z.names.lookup x=cq .cell
noncomputable def Io(env:lp)(h:eh)(m:UZ)(x:Str)(u:dy):Prop:=
 (env.kindOf x=cq .local/\m x=cq u)\/((env.kindOf x=cq .cell\/env.kindOf x=cq .free)/\∃c,env.cells.lookup x=cq c/\h.IsCell c (cq u))
structure Cx.Ok(X:Cx):Prop where
 mod:Mod X.K X.mg X.base
 kind:X.env.scope.kind=.function
 glob:X.env.globals=q7
 blt:X.env.builtins=Uv
 above:X.h7.heap.objs.size<=X.env.locals
 inj:∀x y c,X.env.cells.lookup x=cq c->X.env.cells.lookup y=cq c->x=y
 has:∀x,(X.env.kindOf x=cq .cell\/X.env.kindOf x=cq .free)->∃c,X.env.cells.lookup x=cq c
 L4:∀x c,X.fn x=da->X.env.cells.lookup x=cq c->X.h7.heap.objs.size<=c
 hd:X.calm=da->X.A.handled=none
 frames:X.A.frames=cq X.stack
 DQ:X.stack=X.outer\/(X.stack=X.env::X.outer/\X.env.frame=cq X.env.locals)
 Pt:∀b∈X.ex,b≠X.env.locals/\∀x c,X.env.cells.lookup x=cq c->c≠b
 bs:∀b o,X.base.get? b=cq o->X.h7.heap.get? b=cq o/\X.DU b=none
 B9:X.base.objs.size<=X.h7.heap.objs.size
 M6:∀b o,X.base.get? b=cq o->b∉X.ex
 L8:∀b∈X.ex,b∉X.fs
 p4:X.h7.heap.FunFrames X.base X.outer
 C0:∀b∈X.fs,X.DU b=none
structure Inv(X:Cx)(pins:UQ)(σ:List (Option V))(H:Hp)(s:d6):Prop where
 ok:X.Ok
 os:s.os=X.h7.os
 bare:Dn s.gens
 base:Un X.fs X.ex X.DU H X.h7.heap s.heap
 loc:∃m,s.heap.Ns X.env.locals m/\∀(i:Nat) (x:Str) (v:V),X.N[i]? = cq x->σ[i]? = cq (cq v)->O3 X.env.scope x->∃u,RelV v u/\Io X.env s.heap m x u
 cell:∀x c,X.env.cells.lookup x=cq c->∃v,s.heap.IsCell c v
 free:H X.env.locals=none
 vp:∀x c,X.env.cells.lookup x=cq c->H c=none
 pin:∀p∈X.pn++pins,s.heap.get? p.1=cq p.2/\H p.1=none/\p.1≠X.env.locals/\p.1∉X.fs/\∀v,p.2.data ≠ .cell v
 ej:kA X.prog X.w H s.heap
 len:σ.length=X.N.length
section
variable{X:Cx}{pins:UQ}{σ:List (Option V)}{H H':Hp}{s:d6}{h':eh}
theorem Cx.Ok.Q_(ok:X.Ok)(e:X.base.get? b=cq o):b∉X.fs:=λI=>by have:=(ok.p4.mem I).1;rw[e]at this;cases this
theorem Inv.bs(I:Inv X pins σ H s):∀b o,X.base.get? b=cq o->s.heap.get? b=cq o/\H b=none:=λb o e=>
 ⟨I.base.keep b o (I.ok.bs b o e).1 (I.ok.bs b o e).2 (I.ok.Q_ e) (I.ok.M6 b o e),I.base.free b o (I.ok.bs b o e).1 (I.ok.bs b o e).2 (I.ok.M6 b o e)⟩
theorem Inv.bk(I:Inv X pins σ H s):∀b o,X.base.get? b=cq o->s.heap.get? b=cq o:=λb o e=>(I.bs b o e).1
theorem Inv.mod(I:Inv X pins σ H s):Mod X.K X.mg X.base:=I.ok.mod
theorem Inv.l7(I:Inv X pins σ H s):X.K.In s.heap:=I.ok.mod.M3.keeps I.bk
theorem Inv.lt(I:Inv X pins σ H s):X.env.locals<s.heap.objs.size:=let ⟨_,a,_⟩:=I.loc;a.lt
theorem Inv.sz(I:Inv X pins σ H s):X.h7.heap.objs.size<=s.heap.objs.size:=LG I.ok.above<|PJ I.lt
theorem Inv.S'(I:Inv X pins σ H s)(h:s.heap.objs.size<=a):a∉X.fs:=λO=>by obtain⟨_,o,U,_⟩:=I.ok.p4.mem O;exact absurd (IV (IP U)<|LG I.sz h)<|LL _
theorem Inv.Dz(I:Inv X pins σ H s):∀x c,X.env.cells.lookup x=cq c->c≠X.env.locals:=λx c e z=>by obtain⟨v,o,O,a⟩:=I.cell x c e;obtain⟨m,⟨f,d,b,U,Y,_⟩,_⟩:=I.loc;rw[z,U]at O;cases O;rw[Y]at a;cases a
theorem Inv.p4(I:Inv X pins σ H s):s.heap.FunFrames X.base X.outer:=by
 have all:∀(l:List lp),(∀b∈m7 l,b∈X.fs)->X.h7.heap.FunFrames X.base l->s.heap.FunFrames X.base l:=by
  intro l
  induction l with
  |nil=>intro _ _;trivial
  |cons f r Y=>
   intro d i;obtain⟨h,⟨L,o,a,j,k,g⟩,m⟩:=i;have O:L∈X.fs:=d L (by unfold m7;rw[Uq,a];exact La);obtain⟨n,e⟩:=I.base.slot L o k (I.ok.C0 L O) O λz=>I.ok.L8 L z O;exact⟨h,⟨L,_,a,j,e,g⟩,Y (λb U=>d b<|by unfold m7;rw[Uq,a];exact Ld _ U) m⟩
 exact all X.outer (λ_ U=>U) I.ok.p4
theorem Inv.stack(I:Inv X pins σ H s):s.heap.FunFrames X.base X.stack:=by
 rcases I.ok.DQ with e|⟨e,hf⟩
 ·rw[e];exact I.p4
 ·rw[e]
  obtain⟨m,a,_⟩:=I.loc;refine .cons (by rw[I.ok.kind];decide) hf a ?_ I.p4;exact Heap.get?_none_of_le<|LG I.ok.B9 I.ok.above
theorem Inv.NN(I:Inv X pins σ H s):∀b∈m7 X.stack,b∈X.env.locals::X.fs:=λb O=>by
 rcases I.ok.DQ with e|⟨e,hf⟩
 ·rw[e]at O;exact Ld _ O
 ·rw[e]at O
  unfold m7 at O;rw[Uq,hf]at O;exact O
theorem Inv.M9(I:Inv X pins σ H s):∀b∈m7 X.stack,H b=none:=λb O=>by
 rcases IM.mp (I.NN b O)with e|O
 ·rw[e];exact I.free
 ·obtain⟨_,o,U,_⟩:=I.ok.p4.mem O
  exact I.base.free b o U (I.ok.C0 b O) λz=>I.ok.L8 b z O
theorem Inv.step{g':Array Ud}{t':Nat}{d':Drawn}{ch:List dv}(I:Inv X pins σ H s)
 (Y:∀b∈ch,(b∈X.ex\/X.h7.heap.objs.size<=b)/\b≠X.env.locals/\(∀x c,X.env.cells.lookup x=cq c->c≠b)/\∀p∈X.pn++pins,p.1≠b)
 (keep:∀b o,b≠X.env.locals->b∉X.fs->b∉ch->s.heap.get? b=cq o->H b=none->h'.get? b=cq o)
 (J:∀b o,b≠X.env.locals->b∈X.fs->b∉ch->s.heap.get? b=cq o->H b=none->∃sl,h'.get? b=cq {o with slots:=sl}) (free:∀b o,b∉ch->s.heap.get? b=cq o->H b=none->H' b=none)
 (L:∀b o,b∉ch->s.heap.get? b=cq o->∃o',h'.get? b=cq o')
 (u6:∀b xs,H b=cq (.tup xs)->H' b=cq (.tup xs)) (Z:∀b o u,H b=cq (.p8 o u)->H' b=cq (.p8 o u)) (u5:∀b ps,H b=cq (.D4 ps)->∃more,H' b=cq (.D4<|ps++more))
 (ns:∀m,s.heap.Ns X.env.locals m->h'.Ns X.env.locals m) (ej:kA X.prog X.w H' h') (hg:Dn g'):
 Inv X pins σ H' {s with heap:=h',gens:=g',drawn:=d',toks:=t'}:=by
 have y:∀b o,X.h7.heap.get? b=cq o->b≠X.env.locals:=λb o e=>IX<|IV (IP e) I.ok.above;have j:∀b o,X.h7.heap.get? b=cq o->b∉X.ex->b∉ch:=λb o e a O=>by
  rcases (Y b O).1 with z|z
  ·exact a z
  ·exact absurd (IV (IP e) z)<|LL _
 have A:∀x c,X.env.cells.lookup x=cq c->∀v,s.heap.IsCell c v->h'.IsCell c v:=λx c e v M=>by
  obtain⟨o,U,t⟩:=M;have g:c∉ch:=λz=>(Y c z).2.2.1 x c e rfl;by_cases B:c∈X.fs
  ·obtain⟨sl,q⟩:=J c o (I.Dz x c e) B g U (I.vp x c e)
   exact⟨_,q,t⟩
  ·exact⟨o,keep c o (I.Dz x c e) B g U<|I.vp x c e,t⟩
 refine⟨I.ok,I.os,hg,⟨λb o e n O a=>?_,λb o e n O a=>?_,λb o e n a=>?_,λb o e a=>?_,λb xs e=>u6 b xs<|I.base.u6 b xs e,λb o xs e=>Z b o xs<|I.base.vr b o xs e,λb ps e=>?_⟩,?_,λx c e=>?_,?_,λx c e=>?_,λp C=>?_,ej,I.len⟩
 ·exact keep b o (y b o e) O (j b o e a) (I.base.keep b o e n O a)<|I.base.free b o e n a
 ·obtain⟨sl,f⟩:=I.base.slot b o e n O a
  obtain⟨G,h⟩:=J b _ (y b o e) O (j b o e a) f<|I.base.free b o e n a;exact⟨G,h⟩
 ·obtain⟨o',f⟩:=I.base.there b o e a
  exact free b o' (j b o e a) f<|I.base.free b o e n a
 ·obtain⟨o',f⟩:=I.base.there b o e a
  exact L b o' (j b o e a) f
 ·obtain⟨Q,f⟩:=I.base.u5 b ps e
  obtain⟨R,h⟩:=u5 b _ f;exact⟨Q++R,by rw[h,Array.append_assoc]⟩
 ·obtain⟨m,P,N⟩:=I.loc
  refine⟨m,ns m P,λi x v f h K=>?_⟩;obtain⟨u,r,l⟩:=N i x v f h K;refine⟨u,r,?_⟩;rcases l with l|⟨k,c,e,z⟩
  ·exact .inl l
  ·exact .inr ⟨k,c,e,A x c e _ z⟩
 ·obtain⟨v,z⟩:=I.cell x c e
  exact⟨v,A x c e v z⟩
 ·obtain⟨m,⟨o,_,_,U,_⟩,_⟩:=I.loc
  exact free _ o (λz=>(Y _ z).2.1 rfl) U I.free
 ·obtain⟨v,o,U,t⟩:=I.cell x c e
  exact free c o (λz=>(Y c z).2.2.1 x c e rfl) U<|I.vp x c e
 ·obtain⟨e,n,E,F,d⟩:=I.pin p C
  have g:p.1∉ch:=λz=>(Y p.1 z).2.2.2 p C rfl;exact⟨keep p.1 p.2 E F g e n,free p.1 p.2 g e n,E,F,d⟩
theorem Inv.un{t':Nat}(I:Inv X pins σ H s)(u:Un X.fs [] H H' s.heap h')(J:kA X.prog X.w H' h'):Inv X pins σ H' {s with heap:=h',toks:=t'}:=by
 obtain⟨m,⟨o,j,i,U,r⟩,_⟩:=id I.loc;obtain⟨p,f⟩:=u.any U I.free ⋯;exact I.step (g':=s.gens) (d':=s.drawn) (ch:=[]) (λ_ z=>nomatch z) (λb o _ O _ e n=>u.keep b o e n O ⋯) (λb o _ O _ e n=>u.slot b o e n O ⋯) (λb o _ e n=>u.free b o e n ⋯) (λb o _ e=>u.there b o e ⋯) u.u6 u.vr u.u5 (λk g=>by obtain⟨l,a,d,Y,h⟩:=g;rw[U]at Y;cases Y;exact⟨_,a,d,f,h⟩) J I.bare
theorem Inv.call{g':Array Ud}{t':Nat}{d':Drawn}{ch:List dv}(I:Inv X pins σ H s)(u:Un (m7 X.stack) ch H H' s.heap h')(J:kA X.prog X.w H' h')(L:Dn g')
 (Y:∀b∈ch,(b∈X.ex\/X.h7.heap.objs.size<=b)/\b≠X.env.locals/\(∀x c,X.env.cells.lookup x=cq c->c≠b)/\∀p∈X.pn++pins,p.1≠b):
 Inv X pins σ H' {s with heap:=h',gens:=g',drawn:=d',toks:=t'}:=by
 obtain⟨m,⟨o,l,k,d,r⟩,_⟩:=id I.loc;obtain⟨A,U⟩:=u.any d I.free λz=>(Y _ z).2.1 rfl;exact I.step (ch:=ch) Y (λb o U h O e n=>u.keep b o e n (λz=>(IM.mp<|I.NN b z).elim U h) O) (λb o _ _ O e n=>u.any e n O) (λb o O e n=>u.free b o e n O) (λb o O e=>u.there b o e O) u.u6 u.vr u.u5 (λt i=>by obtain⟨y,f,g,a,j⟩:=i;rw[d]at a;cases a;exact⟨_,f,g,U,j⟩) J L
theorem Inv.turned{t':Nat}{it:dv}(I:Inv X pins σ H s)(k:∀b o,b≠it->s.heap.get? b=cq o->h'.get? b=cq o)(hn:H it=none)(U:it≠X.env.locals)
 (J:it∈X.ex\/X.h7.heap.objs.size<=it) (L:∀x c,X.env.cells.lookup x=cq c->c≠it) (Z:∀p∈X.pn++pins,p.1≠it):Inv X pins σ H {s with heap:=h',toks:=t'}:=by
 have Y:∀b u,H b=cq u->b≠it:=λb u e z=>by rw[z,hn]at e;cases e
 refine I.step (g':=s.gens) (d':=s.drawn) (ch:=[it]) (λb f=>?_) (λb o _ _ O e _=>k b o (λz=>O<|by simp[z]) e) (λb o _ _ O e _=>⟨o.slots,k b o (λz=>O<|by simp[z]) e⟩) (λ_ _ _ _ n=>n)
  (λb o O e=>⟨o,k b o (λz=>O<|by simp[z]) e⟩) (λ_ _ e=>e) (λ_ _ _ e=>e) (λb i e=>⟨#[],by rw[e];simp⟩) (λm g=>?_) (λb u e=>?_) I.bare
 ·have e:b=it:=by simpa using f
  subst e;exact⟨J,U,L,Z⟩
 ·obtain⟨o,d,a,h,r⟩:=g
  exact⟨o,d,a,k _ o (LD U) h,r⟩
 ·refine(I.ej b u e).A8 (λc v O q=>k c v ?_ q) (λ_ q=>q) λ_ _ q=>q
  rcases O with z|z
  ·rw[z];exact Y b u e
  ·exact Y c _ z
theorem Inv.tok(I:Inv X pins σ H s)(t:Nat):Inv X pins σ H {s with toks:=t}:=I.un (h':=s.heap) (t':=t) Un.refl I.ej
theorem Inv.kept(I:Inv X pins σ H s)(k:∀b u,s.heap.get? b=cq u->h'.get? b=cq u):Inv X pins σ H {s with heap:=h',toks:=t'}:=I.un (Un.kept k)<|I.ej.kept k
theorem Inv.laid(I:Inv X pins σ H s)(k:∀b u,s.heap.get? b=cq u->h'.get? b=cq u)(O:s.heap.objs.size<=a)(new:j1 X.prog X.w (upd H a o) h' a o):
 Inv X pins σ (upd H a o) {s with heap:=h',toks:=t'}:=I.un (Un.laid k O<|I.ej.fresh O)<|I.ej.laid k O new
theorem Inv.write(I:Inv X pins σ H s)(O:Ol (H x))(U:e=x\/H e=cq (.own x))(k:∀b u,b≠e->s.heap.get? b=cq u->h'.get? b=cq u)(Y:∃u,h'.get? e=cq u)
 (new:j1 X.prog X.w (upd H x o) h' x o):Inv X pins σ (upd H x o) {s with heap:=h',toks:=t'}:=I.un (Un.write O U k Y)<|I.ej.write O U k Y new
theorem Inv.SJ(I:Inv X pins σ H s)(h:∀p∈O,s.heap.get? p.1=cq p.2/\H p.1=none/\p.1≠X.env.locals/\p.1∉X.fs/\∀v,p.2.data ≠ .cell v):Inv X O σ H s:=
 ⟨I.ok,I.os,I.bare,I.base,I.loc,I.cell,I.free,I.vp,λp U=>(OD.mp U).elim (λz=>I.pin p<|Uk _ z) (h p),I.ej,I.len⟩
theorem Km{N:List Str}(I:N.Nodup){i j:Nat}{x:Str}(a:N[i]? = cq x)(b:N[j]? = cq x):i=j:=by obtain⟨e,d⟩:=Ll.mp a;obtain⟨f,O⟩:=Ll.mp b;exact(List.getElem_inj I).mp (d.trans O.symm)
theorem Ym{M:DW}{A:i5}{E:EQ}{i:Nat}{x:Str}{v:V}{u:dy}{Q:Unit->d6->Prop}(I:Inv X pins σ H s)(hN:X.N.Nodup)(J:X.N[i]? = cq x)(hx:Loc X.env.scope x)(r:RelV v u)
 (h:∀s',Inv X pins (σ.set i<|some v) H s'->(∃a,NI a s.heap s'.heap/\(a=X.env.locals\/X.env.cells.lookup x=cq a))->Q () s') (hf:X.fn x=da\/X.env.scope.names.lookup x=cq .local:=by first|exact .inl rfl|exact .inr rfl|assumption):wpAny M A (storeName X.env x u) Q E s:=by
 obtain⟨m,L,hl⟩:=id I.loc;have ap:(X.env.scope.kind ==.class || (X.env.scope.kind ==.module&&X.env.locals != X.env.globals))=di:=by rw[I.ok.kind];rfl
 have ac:i<σ.length:=by rw[I.len];exact(Ll.mp J).1
 have Dz:=I.Dz;have ae:∀{a:dv} {h':eh},(∃o,s.heap.get? a=cq o/\H a=none)->NI a s.heap h'->kA X.prog X.w H h':=λ{a h'} ha f b ob e=>by
  obtain⟨_,_,ak⟩:=ha;refine(I.ej b ob e).A8 (λc F O q=>(f.2 c ?_).trans q) (λ_ q=>q) λ_ _ q=>q;rintro rfl;rcases O with rfl|O
  ·rw[ak]at e;cases e
  ·rw[ak]at O;cases O
 rcases hx with Y|Y
 ·refine wpAny_storeName_local Y L (λh' ax f=>?_) ap
  obtain⟨oL,_,_,b1,_⟩:=id L;refine h _ ⟨I.ok,I.os,I.bare,⟨λb o e n l hx=>?_,λb o e n l hx=>?_,I.base.free,λb o e hx=>?_,I.base.u6,I.base.vr,I.base.u5⟩,⟨_,ax,λj y v' g U K=>?_⟩,λy c e=>?_,I.free,I.vp,λp P=>?_,ae ⟨oL,b1,I.free⟩ f,by simpa using I.len⟩ ⟨_,f,.inl rfl⟩
  ·exact(f.2 b<|IX<|IV (IP e) I.ok.above).trans (I.base.keep b o e n l hx)
  ·obtain⟨W,g⟩:=I.base.slot b o e n l hx
   exact⟨W,(f.2 b<|IX<|IV (IP e) I.ok.above).trans g⟩
  ·obtain⟨S,g⟩:=I.base.there b o e hx
   exact⟨S,(f.2 b<|IX<|IV (IP e) I.ok.above).trans g⟩
  ·by_cases t:j=i
   ·subst t
    rw[J]at g;cases g;rw[LW ac]at U;cases U;exact⟨u,r,.inl ⟨Y,by simp⟩⟩
   ·rw[IT (LD t)]at U
    obtain⟨Z,T,q⟩:=hl j y v' g U K;refine⟨Z,T,?_⟩;rcases q with⟨k,e⟩|⟨k,c,e,z⟩
    ·refine .inl ⟨k,?_⟩
     have:y≠x:=λe=>t<|Km hN g<|e ▸ J;simp[this,e]
    ·exact .inr ⟨k,c,e,z.sameBut f<|Dz y c e⟩
  ·obtain⟨F,z⟩:=I.cell y c e
   exact⟨F,z.sameBut f<|Dz y c e⟩
  ·obtain⟨e,n,C,R,d⟩:=I.pin p P
   exact⟨(f.2 p.1 C).trans e,n,C,R,d⟩
 ·have G:X.fn x=da:=by
   rcases hf with z|z
   ·exact z
   ·rw[z]at Y;cases Y
  obtain⟨c,O⟩:=I.ok.has x<|.inl Y;obtain⟨F,z⟩:=I.cell x c O;refine wpAny_storeName_cell I.ok.kind Y O z<|λh' al f=>?_;obtain⟨oc,am,b2⟩:=id z;refine h {s with heap:=h'} ⟨I.ok,I.os,I.bare,⟨λb o e n l hx=>?_,λb o e n l hx=>?_,I.base.free,λb o e hx=>?_,I.base.u6,I.base.vr,I.base.u5⟩,⟨m,L.sameBut f<|LD<|Dz x c O,λj y v' g U K=>?_⟩,λy B e=>?_,I.free,I.vp,λp P=>?_,ae ⟨oc,am,I.vp x c O⟩ f,by simpa using I.len⟩ ⟨c,f,.inr O⟩
  ·exact(f.2 b<|IX<|IV (IP e)<|I.ok.L4 x c G O).trans (I.base.keep b o e n l hx)
  ·obtain⟨W,g⟩:=I.base.slot b o e n l hx
   exact⟨W,(f.2 b<|IX<|IV (IP e)<|I.ok.L4 x c G O).trans g⟩
  ·obtain⟨S,g⟩:=I.base.there b o e hx
   exact⟨S,(f.2 b<|IX<|IV (IP e)<|I.ok.L4 x c G O).trans g⟩
  ·by_cases t:j=i
   ·subst t
    rw[J]at g;cases g;rw[LW ac]at U;cases U;exact⟨u,r,.inr ⟨.inl Y,c,O,al⟩⟩
   ·rw[IT (LD t)]at U
    obtain⟨Z,T,q⟩:=hl j y v' g U K;refine⟨Z,T,?_⟩;rcases q with q|⟨k,B,e,z'⟩
    ·exact .inl q
    ·refine .inr ⟨k,B,e,z'.sameBut f ?_⟩
     rintro rfl;exact t<|Km hN g<|I.ok.inj _ _ _ e O ▸ J
  ·by_cases an:B=c
   ·subst an;exact⟨_,al⟩
   ·obtain⟨w2,z2⟩:=I.cell y B e
    exact⟨w2,z2.sameBut f an⟩
  ·obtain⟨e,n,C,R,d⟩:=I.pin p P
   refine⟨(f.2 p.1 ?_).trans e,n,C,R,d⟩;intro q;rw[q,am]at e;have q':oc=p.2:=LN e;exact d F (by rw[<-q'];exact b2)
theorem XU(I:Inv X pins σ H s)(O:X.N.Nodup)(J:X.N[i]? = cq x)(hx:Loc X.env.scope x)(r:RelV v u)
 (h:∀s',Inv X pins (σ.set i<|some v) H s'->Q () s') (z:X.fn x=da\/X.env.scope.names.lookup x=cq .local:=by first|exact .inl rfl|exact .inr rfl|assumption):wpAny M A (storeName X.env x u) Q E s:=
 Ym I O J hx r (λs' U _=>h s' U) z
theorem Inv.Uw(I:Inv X pins σ H s)(O:s'.os=s.os)(u:Un (m7 X.stack) ch H H' s.heap s'.heap)(z:kA X.prog X.w H' s'.heap)(U:Dn s'.gens)
 (Y:∀b∈ch,(b∈X.ex\/X.h7.heap.objs.size<=b)/\b≠X.env.locals/\(∀x c,X.env.cells.lookup x=cq c->c≠b)/\∀p∈X.pn++pins,p.1≠b):Inv X pins σ H' s':=by
 obtain⟨h',g',d',t',a⟩:=s';have e:a=s.os:=O;subst e;exact I.call (g':=g') (t':=t') (d':=d') u z U Y
end
abbrev XK:=dy->Option dv->Hp->Prop
abbrev St:=List (Option V)
abbrev VK:=V->Hp->Prop
abbrev TE:=St->Hp->VK->Prop
abbrev TT:=St->Hp->(Bool->Hp->Prop)->Prop
abbrev TA:=St->Hp->(List V->Hp->Prop)->Prop
structure Ends where
 nx:St->Hp->Prop
 rt:VK
 bk:St->Hp->Prop:=λ_ _=>False
 ct:St->Hp->Prop:=λ_ _=>False
abbrev TS:=Ends->St->Hp->Prop
noncomputable def EP(X:Cx)(z:UQ)(I:St)(Q:VK)(u:dy)(s':d6):Prop:=∃v a,Inv X z I a s'/\RelV v u/\Q v a
noncomputable def TP(X:Cx)(z:UQ)(I:St)(Q:Bool->Hp->Prop)(b:Bool)(s':d6):Prop:=∃a,Inv X z I a s'/\Q b a
noncomputable def AP(X:Cx)(z:UQ)(I:St)(Q:List V->Hp->Prop)(us:List dy)(s':d6):Prop:=∃b a,Inv X z I a s'/\eL b us/\Q b a
noncomputable def SP(X:Cx)(z:UQ)(D:Ends)(f:Flow)(s':d6):Prop:=
 match f with
 |.next=>∃I a,Inv X z I a s'/\D.nx I a
 |.brk=>∃I a,Inv X z I a s'/\D.bk I a
 |.cont=>∃I a,Inv X z I a s'/\D.ct I a
 |.ret u=>∃v I a,Inv X z I a s'/\RelV v u/\D.rt v a
noncomputable def PE(X:Cx)(e:ec)(t:TE):Prop:=
 ∀(a:UQ) (s:d6) (b:St) (H:Hp) (Q:VK),Inv X a b H s->t b H Q->wpAny (d9 X.prog X.w) X.A (d8 e X.env) (EP X a b Q) X.xe s
noncomputable def PT(X:Cx)(e:ec)(t:TT):Prop:=
 ∀(a:UQ) (s:d6) (b:St) (H:Hp) (Q:Bool->Hp->Prop),Inv X a b H s->t b H Q->wpAny (d9 X.prog X.w) X.A (F6 e X.env<|eval e X.env) (TP X a b Q) X.xe s
noncomputable def PW(X:Cx)(e:ec)(t:TT):Prop:=
 ∀(I:m5 dy) (a:UQ) (s:d6) (b:St) (H:Hp) (Q:Bool->Hp->Prop),Inv X a b H s->t b H Q->wpAny (d9 X.prog X.w) X.A (F6 e X.env I) (TP X a b Q) X.xe s
theorem PW.pt(h:PW X e t):PT X e t:=h _
noncomputable def PA(X:Cx)(es:List ec)(t:TA):Prop:=
 ∀(pos:fh) (a:UQ) (s:d6) (b:St) (H:Hp) (Q:List V->Hp->Prop),Inv X a b H s->t b H Q->wpAny (d9 X.prog X.w) X.A (DP<|backTo pos<|starEach es X.env) (AP X a b Q) X.xe s
noncomputable def PS(X:Cx)(st:h9)(t:TS):Prop:=
 ∀(a:UQ) (s:d6) (b:St) (H:Hp) (D:Ends),Inv X a b H s->t D b H->wpAny (d9 X.prog X.w) X.A (exec st X.env) (SP X a D) X.xe s
noncomputable def t9(X:Cx)(st:List h9)(t:TS):Prop:=
 ∀(a:UQ) (s:d6) (b:St) (H:Hp) (D:Ends),Inv X a b H s->t D b H->wpAny (d9 X.prog X.w) X.A (execs st X.env) (SP X a D) X.xe s
theorem eK(h:wpAny M A t Q E s)(I:∀a s,Q a s->Q' a s):wpAny M A t Q' E s:=Lq h I λ_ _ x=>x
section
variable{X:Cx}
noncomputable def nR(i:Nat):TE:=λa H Q=>∃v,a[i]? = cq (cq v)/\Q v H
noncomputable def tC(v:V):TE:=λ_ H Q=>Q v H
theorem oF(L:X.N[i]? = cq x)(Z:O3 X.env.scope x)(z:(x==("__debug__" : Str))=di:=by decide)(J:(x==("__classdict__" : Str))=di:=by decide):PE X (.Name x pos) (nR i):=by
 intro a s j H Q I h;obtain⟨v,e,h⟩:=h;obtain⟨m,g,d⟩:=I.loc;obtain⟨u,r,l⟩:=d i x v L e Z;have U:EP X a j Q u s:=⟨v,H,I,r,h⟩;rcases l with⟨O,f⟩|⟨O,c,Y,b⟩
 ·exact a_ (wpAny_loadName_local I.ok.kind O g f U) z
 ·rcases O with O|O
  ·exact a_ (wpAny_loadName_cell I.ok.kind O Y b U) z
  ·exact a_ (wpAny_loadName_free I.ok.kind O Y b U J) z
theorem Bk:PE X (.Constant (.int i) j pos) (tC<|.int i):=λ_ _ _ H _ I h=>wpAny_Constant_int ⟨.int i,H,I.tok _,⟨_,rfl⟩,h⟩
theorem Fy:PE X (.Constant (.bool b) j pos) (tC<|.bl b):=λ_ _ _ H _ I h=>Constant_bool ⟨.bl b,H,I,rfl,h⟩
theorem Bh:PE X (.Constant .none j pos) (tC .d7):=λ_ _ _ H _ I h=>Constant_none ⟨.d7,H,I,rfl,h⟩
theorem Be:PE X (.Constant (.str x) j pos) (tC<|.str x):=λ_ _ _ H _ I h=>Calls.Constant_str ⟨.str x,H,I.tok _,⟨_,rfl⟩,h⟩
noncomputable def Gl(X:Cx)(x:Str):Prop:=X.env.kindOf x=cq .globalImplicit
theorem vZ(I:Inv X pins σ H s)(O:Gl X x)(J:X.mg x=cq u)(h:Q u s)
 (z:(x==("__debug__" : Str))=di:=by decide):wpAny (d9 X.prog X.w) X.A (d8 (.Name x pos) X.env) Q E s:=
 Calls.Name_function_global I.ok.kind O (Calls.loadGlobal_global (by rw[I.ok.glob];exact I.mod.glob.keeps I.bk) J h) z
theorem xX(I:Inv X pins σ H s)(O:Gl X x)(J:X.mg x=none)(U:Dd x=cq u)(h:Q u s)
 (L:x ≠ "__name__":=by decide) (z:(x==("__debug__" : Str))=di:=by decide):wpAny (d9 X.prog X.w) X.A (d8 (.Name x pos) X.env) Q E s:=by
 obtain⟨d,a,b⟩:=I.mod.blt;exact Calls.Name_function_global I.ok.kind O (Calls.loadGlobal_builtin (by rw[I.ok.glob];exact I.mod.glob.keeps I.bk) J (by rw[I.ok.blt];exact a.keeps I.bk) ((b x L).trans U) h) z
variable{a b:ec}{ta tb:TE}{pos:fh}
noncomputable def PC(X:Cx)(I:CmpOp)(a b:ec)(t:TE):Prop:=
 ∀(d:UQ) (s:d6) (e:St) (H:Hp) (Q:VK),Inv X d e H s->t e H Q->
  wpAny (d9 X.prog X.w) X.A (d8 a X.env) (λv O=>wpAny (d9 X.prog X.w) X.A (d8 b X.env) (λu U=>wpAny (d9 X.prog X.w) X.A (ri I v u) (EP X d e Q) X.xe U) X.xe O) X.xe s
theorem mq(b:ec)(h:op ≠ .In)(z:op ≠ .NotIn):Dc op b=di:=by
 have a:(op==CmpOp.In)=di:=by cases op<;>first|rfl|exact absurd rfl h
 have I:(op==CmpOp.NotIn)=di:=by cases op<;>first|rfl|exact absurd rfl z
 cases b<;>simp[Dc,a,I]
noncomputable def tB(t:TE):TT:=λb H Q=>t b H λx a=>∃c,x=.bl c/\Q c a
theorem AV(h:PC X op a b t)(z:Dc op b=di:=by first|exact mq _ ⋯ ⋯ |rfl):PT X (.Compare a [op] [b] pos) (tB t):=by intro e s k H Q I i;refine _h (eK (h e s k H _ I i) λv l z=>eK z λu m g=>eK g λc n O=>?_) z;obtain⟨x,f,U,Y,j⟩:=O;obtain⟨d,rfl,q⟩:=j;cases Y;exact MW ⟨f,U,q⟩
theorem AS(h:PE X e t)(U:∀O,F6 e X.env O=(do let v<-O;M8 e.pos;Dj [v] (R5 v)):=by intro _;rfl):PT X e (tB t):=by intro a s k H Q I g;refine isTrue_plain (eK (h a s k H _ I g) λv l Y=>?_)<|U _;obtain⟨x,b,f,j,i⟩:=Y;obtain⟨d,rfl,q⟩:=i;cases j;exact MW ⟨b,f,q⟩
variable{tA SU:TT}{yR:List ec}
noncomputable def HQ(t u:TT):TT:=λb H Q=>t b H λc a=>if c=da then u b a Q else Q di a
noncomputable def X_(t u:TT):TT:=λb H Q=>t b H λc a=>if c=da then Q da a else u b a Q
noncomputable def HK(t:TT):TT:=λb H Q=>t b H λc a=>Q (!c) a
theorem rY(z:PT X a tA):PW X (.BoolOp .And [a] pos) tA:=by
 intro O b s d H Q I h;refine isTrue_and<|eK (z b s d H Q I h) λc f e=>?_;cases c with
 |true=>exact isTrue_and_nil e
 |false=>exact e
theorem AK(z:PT X a tA):PW X (.BoolOp .Or [a] pos) tA:=by
 intro O b s d H Q I h;refine isTrue_or<|eK (z b s d H Q I h) λc f e=>?_;cases c with
 |false=>exact isTrue_or_nil e
 |true=>exact e
theorem AL(z:PT X a tA)(Y:PW X (.BoolOp .And (b::yR) pos) SU):PW X (.BoolOp .And (a::b::yR) pos) (HQ tA SU):=by
 intro j d s f H Q I h;refine isTrue_and<|eK (z d s f H _ I h) λc i g=>?_;obtain⟨e,O,U⟩:=g;cases c with
 |true=>exact Y j d i f e Q O U
 |false=>exact⟨e,O,U⟩
theorem Fo(z:PT X a tA)(Y:PW X (.BoolOp .Or (b::yR) pos) SU):PW X (.BoolOp .Or (a::b::yR) pos) (X_ tA SU):=by
 intro j d s f H Q I h;refine isTrue_or<|eK (z d s f H _ I h) λc i g=>?_;obtain⟨e,O,U⟩:=g;cases c with
 |true=>exact⟨e,O,U⟩
 |false=>exact Y j d i f e Q O U
theorem AU(ha:PT X a tA):PT X (.UnaryOp .Not a pos) (HK tA):=by intro b s e H Q I h;exact isTrue_not<|ha b s e H (λc d=>Q (!c) d) I h
noncomputable def Fd(ta tb:TE):TE:=λb H Q=>ta b H λx a=>∃c,x=.bl c/\if c=da then tb b a Q else Q (.bl di) a
noncomputable def EW(ta:TE):TE:=λb H Q=>ta b H λx a=>∃c,x=.bl c/\Q (.bl<|!c) a
theorem Bf(h:PE X a t):PE X (.BoolOp op [a] pos) t:=λb s e H Q I d=>BoolOp_one<|h b s e H Q I d
theorem Bl(z:PE X a ta)(Y:PE X (.BoolOp .And (b::yR) pos) tb):PE X (.BoolOp .And (a::b::yR) pos) (Fd ta tb):=by
 intro d s f H Q I h;refine BoolOp_and<|eK (z d s f H _ I h) λv j g=>?_;obtain⟨x,e,U,i,O⟩:=g;obtain⟨c,rfl,O⟩:=O;cases i;refine MW ?_;cases c with
 |true=>exact Y d j f e Q U O
 |false=>exact⟨.bl di,e,U,rfl,O⟩
theorem Bg(z:PE X a ta):PE X (.UnaryOp .Not a pos) (EW ta):=by intro b s f H Q I h;refine UnaryOp_<|eK (z b s f H _ I h) λv g U=>?_;obtain⟨x,d,Y,e,O⟩:=U;obtain⟨c,rfl,O⟩:=O;cases e;exact not_of<|MW ⟨.bl<|!c,d,Y,rfl,O⟩
noncomputable def T7(t:TT)(ta tb:TE):TE:=λa H Q=>t a H λc b=>if c=da then ta a b Q else tb a b Q
theorem lW(Y:PT X c tA)(z:PE X a ta)(J:PE X b tb):PE X (.IfExp c a b pos) (T7 tA ta tb):=by
 intro e s f H Q I h;refine wpAny_IfExp<|eK (Y e s f H _ I h) λd i j=>?_;obtain⟨g,O,U⟩:=j;cases d with
 |true=>exact z e i f g Q O U
 |false=>exact J e i f g Q O U
end
noncomputable def gv(K:Iy)(H:Hp)(a:dv)(xs:List V):Prop:=
 Rd H a (.lst xs)\/
  ∃(o:jn) (b:Array dy) (n:Nat),K.lookup a=cq o/\o.cls=.type "list"/\o.dict=none/\o.data=.seq b n/\b.size<=el/\eL xs b.toList
noncomputable def gR(K:Iy)(H:Hp)(a:dv)(xs:List V):Prop:=
 Rd H a (.tup xs)\/
  ∃(o:jn) (b:Array dy) (n:Nat),K.lookup a=cq o/\(o.cls,o.dict)=(MI "tuple",none)/\o.data=.seq b n/\b.size<=el/\eL xs b.toList
noncomputable def Ik:dy->Option V
 |.none=>cq .d7
 |.bool b=>cq (.bl b)
 |.int i _=>cq (.int i)
 |.str x _=>cq (.str x)
 |.bytes b _=>cq (.O6 b)
 |.float b _=>cq (.L9 b)
 |.ref a=>cq (.ref a)
 |.type n=>cq (.ty n)
 |_=>none
theorem RelV.abs(r:RelV x u):Ik u=cq x:=by
 cases x with
 |d7=>cases r;rfl
 |bl _=>cases r;rfl
 |int _=>obtain⟨t,rfl⟩:=r;rfl
 |str _=>obtain⟨t,rfl⟩:=r;rfl
 |O6 _=>obtain⟨t,rfl⟩:=r;rfl
 |L9 _=>obtain⟨t,rfl⟩:=r;rfl
 |ref _=>cases r;rfl
 |ty _=>cases r;rfl
theorem RelV.inj(r:RelV x u)(q:RelV y u):x=y:=LN<|r.abs.symm.trans q.abs
theorem eL.inj:∀{xs ys:List V} {us:List dy},eL xs us->eL ys us->xs=ys
 |_,_,_,.nil,.nil=>rfl
 |_,_,_,.cons r t,.cons r' t'=>by rw[r.inj r',eL.inj t t']
section
variable{X:Cx}{pins:UQ}{σ:St}{H:Hp}{s:d6}{a:dv}{xs ys:List V}
theorem gv.of{K:Iy}(h:H a=cq (.lst xs)):gv K H a xs:=.inl (.inl h)
theorem gR.of{K:Iy}(h:H a=cq (.tup xs)):gR K H a xs:=.inl (.inl h)
theorem Inv.list(I:Inv X pins σ H s)(h:gv X.K H a xs):∃its:List dy,eL xs its/\PlainL s.heap a its.toArray/\xs.length<=el:=by
 rcases h with h|⟨o,its,n,O,U,hd,hs,hz,r⟩
 ·obtain⟨z,its,n,r,e⟩:=h.ok I.ej
  exact⟨its,r,⟨_,n,e,rfl,rfl,rfl⟩,z⟩
 ·refine⟨its.toList,r,⟨o,n,I.l7 a o O,U,hd,by simpa using hs⟩,?_⟩
  have e:=r.length;simp only[MG]at e;omega
theorem Inv.tuple(I:Inv X pins σ H s)(h:gR X.K H a xs):∃its:List dy,eL xs its/\N7 s.heap a its.toArray/\xs.length<=el:=by
 rcases h with h|⟨o,its,n,O,U,hs,hz,r⟩
 ·obtain⟨z,its,r,p⟩:=h.ok I.ej
  exact⟨its,r,p.tup,z⟩
 ·refine⟨its.toList,r,⟨o,I.l7 a o O,(Prod.mk.inj U).1,n,by simpa using hs⟩,?_⟩
  have e:=r.length;simp only[MG]at e;omega
theorem Inv.TK(I:Inv X pins σ H s)(h:gv X.K H a xs)(h':gv X.K H a ys):xs=ys:=by
 obtain⟨f,r,⟨o,n,e,_,_,d⟩,_⟩:=I.list h;obtain⟨b,i,⟨k,j,O,_,_,g⟩,_⟩:=I.list h';rw[e]at O;cases O;rw[d]at g;injection g with U _;have:f=b:=by simpa using congrArg Array.toList U
 subst this;exact r.inj i
theorem Inv.U6(I:Inv X pins σ H s)(h:gR X.K H a xs)(h':gR X.K H a ys):xs=ys:=by
 obtain⟨f,r,⟨o,e,_,n,d⟩,_⟩:=I.tuple h;obtain⟨b,i,⟨k,O,_,j,g⟩,_⟩:=I.tuple h';rw[e]at O;cases O;rw[d]at g;injection g with U _;have:f=b:=by simpa using congrArg Array.toList U
 subst this;exact r.inj i
end
abbrev Cx.ng(X:Cx)(E:EQ):Cx:={X with xe:=E}
abbrev Cx.qq(X:Cx):Cx:=X.ng λ_ _=>False
theorem Cx.Ok.ng{X:Cx}(ok:X.Ok)(E:EQ):(X.ng E).Ok:=
 ⟨ok.mod,ok.kind,ok.glob,ok.blt,ok.above,ok.inj,ok.has,ok.L4,ok.hd,ok.frames,ok.DQ,ok.Pt,ok.bs,ok.B9,ok.M6,ok.L8,ok.p4,ok.C0⟩
theorem Cx.Ok.r0{X:Cx}{E:EQ}(ok:(X.ng E).Ok):X.Ok:=
 ⟨ok.mod,ok.kind,ok.glob,ok.blt,ok.above,ok.inj,ok.has,ok.L4,ok.hd,ok.frames,ok.DQ,ok.Pt,ok.bs,ok.B9,ok.M6,ok.L8,ok.p4,ok.C0⟩
section
variable{X:Cx}{pins:UQ}{σ:St}{H:Hp}{s:d6}{E:EQ}
theorem Inv.ng(I:Inv X pins σ H s)(E:EQ):Inv (X.ng E) pins σ H s:=⟨I.ok.ng E,I.os,I.bare,I.base,I.loc,I.cell,I.free,I.vp,I.pin,I.ej,I.len⟩
theorem Inv.r0(I:Inv (X.ng E) pins σ H s):Inv X pins σ H s:=⟨I.ok.r0,I.os,I.bare,I.base,I.loc,I.cell,I.free,I.vp,I.pin,I.ej,I.len⟩
theorem SP.r0(h:SP (X.ng E) pins D f s'):SP X pins D f s':=by
 cases f with
 |next=>obtain⟨O,a,I,q⟩:=h;exact⟨O,a,I.r0,q⟩
 |brk=>obtain⟨O,a,I,q⟩:=h;exact⟨O,a,I.r0,q⟩
 |cont=>obtain⟨O,a,I,q⟩:=h;exact⟨O,a,I.r0,q⟩
 |ret u=>obtain⟨v,O,a,I,r,q⟩:=h;exact⟨v,O,a,I.r0,r,q⟩
theorem t9.qq{st:List h9}{t:TS}(h:t9 X.qq st t):t9 X st t:=λpins s σ H D I a=>
 Lq (h pins s σ H D (I.ng _) a) (λ_ _ q=>q.r0) λ_ _ z=>Nd z
end
section
variable{X:Cx}{st:h9}{yR:List h9}{t u:TS}{e:ec}{te:TE}{pos:fh}
noncomputable def EY:TS:=λD a H=>D.nx a H
noncomputable def HI(t u:TS):TS:=λD a H=>t {D with nx:=u D} a H
theorem sr:t9 X [] EY:=λ_ _ a H _ I h=>Rf ⟨a,H,I,h⟩
theorem lI(z:PS X st t)(J:t9 X yR u):t9 X (st::yR) (HI t u):=by
 intro a s e H D I h;refine NM<|eK (z a s e H {D with nx:=u D} I h) λf d q=>?_;cases f with
 |next=>
  obtain⟨O,b,U,q⟩:=q;exact J a d O b D U q
 |ret v=>exact q
 |brk=>exact q
 |cont=>exact q
theorem eR(z:PS X st t):t9 X [st] t:=by
 intro a s b H D I h;refine NM<|eK (z a s b H D I h) λf d q=>?_;cases f with
 |next=>exact Rf q
 |ret v=>exact q
 |brk=>exact q
 |cont=>exact q
noncomputable def Fc:TS:=λD a H=>D.ct a H
theorem VG:PS X (.Continue pos) Fc:=λ_ _ a H _ I h=>wpAny_Continue ⟨a,H,I,h⟩
theorem Inv.quiet(I:Inv X pins σ H s):interactive X.env=di:=by simp[interactive,I.ok.kind]
noncomputable def EZ(te:TE):TS:=λD a H=>te a H λ_ b=>D.nx a b
theorem Ka(O:PE X e te)(hs:u4 e none pos.line X.env=pure di:=by rfl):PS X (.Expr e pos) (EZ te):=by intro a s b H D I h;exact _d (eK (O a s b H _ I h) λv g ⟨x,d,U,f,Y⟩=>⟨b,d,U,Y⟩) I.quiet hs
noncomputable def HJ(te:TE):TS:=λD a H=>te a H D.rt
theorem eU(O:PE X e te):PS X (.Return (cq e) pos) (HJ te):=by intro a s b H D I h;exact wpAny_Return_some<|eK (O a s b H _ I h) λv g ⟨x,d,U,Y,f⟩=>⟨x,b,d,U,Y,f⟩
noncomputable def HM(c:TT)(t u:TS):TS:=λD a H=>c a H λb d=>if b=da then t D a d else u D a d
theorem Fv(Y:PT X c tc)(z:t9 X a t)(J:t9 X b u):PS X (.If c a b pos) (HM tc t u):=by
 intro e s f H D I h;refine wpAny_If<|eK (Y e s f H _ I h) λd i j=>?_;obtain⟨g,O,U⟩:=j;cases d with
 |true=>exact z e i f g D O U
 |false=>exact J e i f g D O U
noncomputable def Ag:TS:=λ_ _ _=>False
theorem lN:PS X st Ag:=λ_ _ _ _ _ _ h=>h.elim
end
abbrev TG:=V->St->Hp->(St->Hp->Prop)->Prop
abbrev I8:=List V->St->Hp->(St->Hp->Prop)->Prop
noncomputable def PG(X:Cx)(O:ec)(t:TG):Prop:=
 ∀(a:UQ) (s:d6) (d:St) (H:Hp) (v:V) (u:dy) (Q:St->Hp->Prop),Inv X a d H s->RelV v u->t v d H Q->
  wpAny (d9 X.prog X.w) X.A (C9 O X.env u) (λ_ e=>∃I b,Inv X a I b e/\Q I b) X.xe s
noncomputable def O0(X:Cx)(O:List ec)(t:I8):Prop:=
 ∀(a:UQ) (s:d6) (f:St) (H:Hp) (e:List V) (d:List dy) (Q:St->Hp->Prop),Inv X a f H s->eL e d->t e f H Q->
  wpAny (d9 X.prog X.w) X.A (assignInOrder ((Dy O X.env).map (·.2)) d) (λ_ g=>∃I b,Inv X a I b g/\Q I b) X.xe s
abbrev Hz:=V->V->V->Hp->(Hp->Prop)->Prop
noncomputable def HA(X:Cx)(t:Hz):Prop:=
 ∀(a:UQ) (s:d6) (d:St) (H:Hp) (o i v:V) (I O u:dy) (Q:Hp->Prop),Inv X a d H s->RelV o I->RelV i O->RelV v u->t o i v H Q->
  wpAny (d9 X.prog X.w) X.A (setItem I O u) (λ_ e=>∃b,Inv X a d b e/\Q b) X.xe s
section
variable{X:Cx}{pos:fh}
noncomputable def vf(i:Nat):TG:=λv a H Q=>Q (a.set i<|some v) H
theorem fi(O:X.N.Nodup)(J:X.N[i]? = cq x)(hx:Loc X.env.scope x)(z:X.fn x=da\/X.env.scope.names.lookup x=cq .local:=by first|exact .inl rfl|exact .inr rfl|assumption):PG X (.Name x pos) (vf i):=by intro a s d H v u Q I r h;exact _e<|XU I O J hx r (λb U=>⟨_,H,U,h⟩) z
noncomputable def Hg:I8:=λa b H Q=>a=[]/\Q b H
noncomputable def Ck(t:TG)(u:I8):I8:=λb d H Q=>∃v r,b=v::r/\t v d H λI a=>u r I a Q
theorem ff:O0 X [] Hg:=by intro a s b H f d Q I r h;obtain⟨e,h⟩:=h;subst e;cases r;exact assignInOrder_nil ⟨b,H,I,h⟩
theorem wA(z:PG X e t)(J:O0 X es u)
 (hs:(Dy (e::es) X.env).map (·.2)=C9 e X.env::(Dy es X.env).map (·.2):=by rfl):O0 X (e::es) (Ck t u):=by
 intro a s j H m k Q I r h;obtain⟨v,l,f,h⟩:=h;subst f;cases r with
 |cons r O=>
  rw[hs];refine assignInOrder_cons<|eK (z a s j H _ _ _ I r h) λ_ i U=>?_;obtain⟨Y,b,d,g⟩:=U;exact J a i Y b _ _ Q d O g
noncomputable def Hf(K:Iy)(n:Nat)(t:I8):TG:=λv d H Q=>∃a b,v=.ref a/\gR K H a b/\b.length=n/\t b d H Q
theorem Bb(U:X.calm=da)(h:O0 X es t)
 (z:(Dy es X.env).length=n:=by rfl) (Y:(Dy es X.env).findIdx? (·.1)=none:=by rfl):PG X (.Tuple es k pos) (Hf X.K n t):=by
 intro d s g H v u Q I r f;obtain⟨a,A,j,p,m,f⟩:=f;subst j;cases r;obtain⟨y,O,w,B⟩:=I.tuple p;refine assign_Tuple_tuple (I.ok.hd U) w (by simp[z,<-m,O.length]) Y λl x=>?_;have i:Inv X d g H {s with heap:=l}:=I.kept (t':=s.toks) λb o e=>x b o (IX<|IP e) e;exact h d _ g H A _ Q i (by simpa using O) f
noncomputable def Ic(to I:TE)(t:Hz):TG:=λv a H Q=>to a H λo b=>I a b λi d=>t o i v d λO=>Q a O
theorem Bc(L:PE X o to)(J:PE X i ti)(hs:HA X t)
 (z:∀v,C9 (.Subscript o i pos) X.env v=(do
   let O<-Dj [v] (d8 o X.env);let U<-Dj [v,O] (d8 i X.env)
   M8 pos
   Dj [v,O,U] (setItem O U v)
   release [v,O,U] []):=by intro _;rfl):PG X (.Subscript o i pos) (Ic to ti t):=by
 intro a s b H v u Q I r h;rw[z];refine Iz<|Mq<|eK (L a s b H _ I h) λO A Y=>?_;obtain⟨x,d,g,p,l⟩:=Y;refine Iz<|Mq<|eK (J a A b d _ g l) λU B Y=>?_;obtain⟨y,e,j,w,m⟩:=Y;refine Iz<|RN<|Iz<|Mq<|eK (hs a B b e x y v O U u _ j p w r m) λ_ C Y=>?_;obtain⟨f,k,n⟩:=Y;exact wpAny_release ⟨b,f,k,n⟩
noncomputable def WE(z:TE)(g:TG):TS:=λD a H=>z a H λx b=>g x a b D.nx
theorem eV(O:PE X e te)(U:PG X tg g)(hs:T6 [tg] e pos.line X.env=pure di:=by rfl)(J:UT [tg] e X.env=pure none:=by rfl)
 (z:(Dy [tg] X.env).map (·.2)=[C9 tg X.env]:=by rfl):PS X (.Assign [tg] e pos) (WE te g):=by
 intro a s b H D I h;refine wpAny_Assign_stores (eK (O a s b H _ I h) λv k Y=>?_) hs J;obtain⟨x,d,f,j,i⟩:=Y;rw[z];exact eK (U a k b d x v _ f j i) λ_ l q=>q
theorem oC(O:X.N.Nodup)(J:X.N[i]? = cq x)(hx:Loc X.env.scope x)(U:PE X e te)(hs:u4 e (cq (.Name x pos')) pos.line X.env=pure di:=by rfl)(z:X.fn x=da\/X.env.scope.names.lookup x=cq .local:=by first|exact .inl rfl|exact .inr rfl|assumption):
 PS X (.Assign [.Name x pos'] e pos) (WE te<|vf i):=by
 intro a s k H D I h;refine wpAny_Assign_Name (eK (U a s k H _ I h) λv l Y=>?_) hs;obtain⟨y,b,d,j,g⟩:=Y;exact XU d O J hx j (λm f=>⟨_,b,f,g⟩) z
end
structure It where
 go:Nat->Hp->Prop
 D6:Nat->Hp->V->Hp->Prop
 stop:Nat->Hp->Prop
noncomputable def vR(X:Cx)(z:UQ)(H:Hp)(b:dv):Prop:=
 H b=none/\b≠X.env.locals/\b∉X.fs/\(b∈X.ex\/X.h7.heap.objs.size<=b)/\(∀x c,X.env.cells.lookup x=cq c->c≠b)/\∀p∈X.pn++z,p.1≠b
theorem Inv.Di(I:Inv X pins σ H s)(O:s.heap.objs.size<=b)(J:H' b=none):vR X pins H' b:=by
 refine⟨J,MS<|IV I.lt O,I.S' O,.inr<|LG I.sz O,λx c e z=>?_,λp U z=>?_⟩
 ·obtain⟨v,q⟩:=I.cell x c e
  exact absurd (IV q.lt<|by rw[z];exact O)<|LL _
 ·exact absurd (IV (IP (I.pin p U).1)<|by rw[z];exact O)<|LL _
structure Turn(P:g8)(w:f7)(K:Iy)(tg:ec)(J:It)(fp:List dv)(it:dv)(tn:Nat->eh->Prop):Prop where
 mem:it∈fp
 obj:∀i h,tn i h->∀b∈fp,∃o,h.get? b=cq o/\∀v,o.data ≠ .cell v
 keep:∀i h h',tn i h->(∀b∈fp,∀o,h.get? b=cq o->h'.get? b=cq o)->tn i h'
 item:∀(X:Cx),X.prog=P->X.w=w->X.K=K->X.calm=da->∀(i:Nat) (pins:UQ) (s:d6) (σ:St) (H:Hp) (E:EQ),Inv X pins σ H s->(∀b∈fp,vR X pins H b)->tn i s.heap->J.go i H->
  wpAny (d9 P w) X.A (A6<|.ref it) (λr s1=>∃u,r=cq u/\
   wpAny (d9 P w) X.A (Sy tg (.ref it) u) (λ_ s2=>∃x H',Inv X pins σ H' s2/\RelV x u/\J.D6 i H x H'/\tn (i+1) s2.heap/\∀b∈fp,H' b=none) E s1) E s
 done:∀(X:Cx),X.prog=P->X.w=w->X.K=K->X.calm=da->∀(i:Nat) (pins:UQ) (s:d6) (σ:St) (H:Hp) (E:EQ),Inv X pins σ H s->(∀b∈fp,vR X pins H b)->tn i s.heap->J.stop i H->
  wpAny (d9 P w) X.A (A6<|.ref it) (λr s1=>r=none/\Inv X pins σ H s1) E s
 self:∀(A:i5) (i:Nat) (s:d6) (Q:EQ) (E:EQ),tn i s.heap->Q (.ref it) s->wpAny (d9 P w) A (SM<|.ref it) Q E s
abbrev TI:=St->Hp->(It->Hp->Prop)->Prop
noncomputable def Uj(X:Cx)(z:UQ)(Y:St)(O:ec)(R:It->Hp->Prop)(I:dy)(L:d6):Prop:=
 ∃(e:dv) (d:List dv) (f:Nat->eh->Prop) (J:It) (a:Hp),I=.ref e/\Inv X z Y a L/\Turn X.prog X.w X.K O J d e f/\f 0 L.heap/\(∀b∈d,vR X z a b)/\R J a
noncomputable def PI(X:Cx)(I z:ec)(J:TI):Prop:=
 ∀(a:UQ) (s:d6) (b:St) (H:Hp) (R:It->Hp->Prop),Inv X a b H s->J b H R->
  wpAny (d9 X.prog X.w) X.A (d8 z X.env) (λv d=>wpAny (d9 X.prog X.w) X.A (SM v) (Uj X a b I R) X.xe d) X.xe s
theorem tY(O:s.heap.get? it=cq o)(U:o.cls=.type n)(z:o.data=.fields vs)
 (J:["enumerate","zip","dict_itemiterator","dict_reverseitemiterator","odict_iterator","itertools.zip_longest","itertools.pairwise"].contains n=di) (I:Q () s):wpAny M A (Sy tg (.ref it) u) Q E s:=by
 unfold Sy;cases tg<;>first
  |exact IH I
  |(cases u<;>first
      |exact IH I
      | (refine Iz (wpAny_load O ?_)
         rw[U,z];show wpAny M A (if (["enumerate","zip","dict_itemiterator","dict_reverseitemiterator","odict_iterator","itertools.zip_longest","itertools.pairwise"].contains n&&vs[0]? == cq (Dl _))=da then _ else _) Q E s;rw[UY (by intro h;rw[J,Bool.false_and]at h;cases h)];exact IH I))
noncomputable def Uh(K:Iy)(a:dv):It:=
 ⟨λi H=>∃b x,gv K H a b/\b[i]? = cq x,λi H x d=>d=H/\∀b,gv K H a b->b[i]? = cq x,λi H=>∃b,gv K H a b/\b.length<=i⟩
noncomputable def Ui(K:Iy)(a:dv):It:=
 ⟨λi H=>∃b x,gR K H a b/\b[i]? = cq x,λi H x d=>d=H/\∀b,gR K H a b->b[i]? = cq x,λi H=>∃b,gR K H a b/\b.length<=i⟩
noncomputable def N8(lo:Int)(n:Nat):It:=⟨λi _=>i<n,λi H x a=>a=H/\x=.int (lo+i),λi _=>n<=i⟩
theorem dn{P:g8}{w:f7}{K:Iy}{tg:ec}(a it:dv):Turn P w K tg (Uh K a) [it] it (λi h=>h.IsListIter it a i) where
 mem:=by simp
 obj:=λi h st b O=>by
  have e:b=it:=by simpa using O
  subst e;obtain⟨o,e,c,d⟩:=st;exact⟨o,e,λv z=>by rw[d]at z;cases z⟩
 keep:=λi h h' st k=>st.at λo e=>k it ⋯ o e
 item:=by intro X Y hw hK hc i pins s σ H E I hf st hg;subst Y hw hK;obtain⟨xs,x,U,hx⟩:=hg;obtain⟨its,rv,p,hz⟩:=I.list U;obtain⟨u,hu,ru⟩:=rv.get hx;obtain⟨f0,f1,f2,f3,f4,f5⟩:=hf it ⋯;refine wpAny_pyNext_list_item st p.isList (x:=u) (by simpa using hu) λh' aa sb=>?_;have I1:Inv X pins σ H {s with heap:=h'}:=I.turned (t':=s.toks) (λb o O e=>(sb.2 b O).trans e) f0 f1 f3 f4 f5;obtain⟨o,e,c,d⟩:=id aa;exact⟨u,rfl,tY (s:={s with heap:=h'}) e c d ⋯ ⟨x,H,I1,ru,⟨rfl,λys hy=>by rw[I.TK hy U];exact hx⟩,aa,λb O=>(hf b O).1⟩⟩
 done:=by intro X Y hw hK hc i pins s σ H E I hf st hg;subst Y hw hK;obtain⟨xs,U,hx⟩:=hg;obtain⟨its,rv,p,hz⟩:=I.list U;obtain⟨f0,f1,f2,f3,f4,f5⟩:=hf it ⋯;have hl:=rv.length;exact wpAny_pyNext_list_end (I.ok.hd hc) st p.isList (by simp;omega) λh' eb=>⟨rfl,I.turned (t':=s.toks) (λb o O e=>eb b o O e) f0 f1 f3 f4 f5⟩
 self:=λ_ _ _ _ _ st h=>wpAny_pyIter_listiter st h
theorem aV{P:g8}{w:f7}{K:Iy}{tg:ec}(a it:dv):Turn P w K tg (Ui K a) [it] it (λi h=>h.IsTupleIter it a i) where
 mem:=by simp
 obj:=λi h st b O=>by
  have e:b=it:=by simpa using O
  subst e;obtain⟨o,e,c,d⟩:=st;exact⟨o,e,λv z=>by rw[d]at z;cases z⟩
 keep:=λi h h' st k=>st.at λo e=>k it ⋯ o e
 item:=by intro X Y hw hK hc i pins s σ H E I hf st hg;subst Y hw hK;obtain⟨xs,x,U,hx⟩:=hg;obtain⟨its,rv,p,hz⟩:=I.tuple U;obtain⟨u,hu,ru⟩:=rv.get hx;obtain⟨f0,f1,f2,f3,f4,f5⟩:=hf it ⋯;refine wpAny_pyNext_tuple_item st (show s.heap.IsTuple a its.toArray from p) (x:=u) (by simpa using hu) λh' aa sb=>?_;have I1:Inv X pins σ H {s with heap:=h'}:=I.turned (t':=s.toks) (λb o O e=>(sb.2 b O).trans e) f0 f1 f3 f4 f5;obtain⟨o,e,c,d⟩:=id aa;exact⟨u,rfl,tY (s:={s with heap:=h'}) e c d ⋯ ⟨x,H,I1,ru,⟨rfl,λys hy=>by rw[I.U6 hy U];exact hx⟩,aa,λb O=>(hf b O).1⟩⟩
 done:=by intro X Y hw hK hc i pins s σ H E I hf st hg;subst Y hw hK;obtain⟨xs,U,hx⟩:=hg;obtain⟨its,rv,p,hz⟩:=I.tuple U;obtain⟨f0,f1,f2,f3,f4,f5⟩:=hf it ⋯;have hl:=rv.length;exact wpAny_pyNext_tuple_end (I.ok.hd hc) st (show s.heap.IsTuple a its.toArray from p) (by simp;omega) λh' eb=>⟨rfl,I.turned (t':=s.toks) (λb o O e=>eb b o O e) f0 f1 f3 f4 f5⟩
 self:=λ_ _ _ _ _ st h=>wpAny_pyIter_tupleiter st h
theorem aW{P:g8}{w:f7}{K:Iy}{tg:ec}(it:dv)(lo:Int)(n:Nat):Turn P w K tg (N8 lo n) [it] it (λi h=>IsRangeIter h it (lo+(i:Nat)*1) ((n:Int)-(i:Nat)) 1) where
 mem:=by simp
 obj:=λi h st b O=>by
  have e:b=it:=by simpa using O
  subst e;exact⟨_,st,λv z=>by have z':Data.fields _=Data.cell v:=z;cases z'⟩
 keep:=λi h h' st k=>k it ⋯ _ st
 item:=by intro X U hw Y hc i pins s σ H E I hf st hg;subst U hw Y;obtain⟨f0,f1,f2,f3,f4,f5⟩:=hf it ⋯;have W:=Walks.range (prog:=X.prog) (w:=X.w) (I.ok.hd hc) it lo 1 n;refine W.item i s _ _ hg st λv h' tk hv a8 kk=>?_;obtain⟨t,rfl⟩:=hv;have I1:Inv X pins σ H {s with heap:=h',toks:=tk}:=I.turned (λb o O e=>kk b o (by simpa using O) e) f0 f1 f3 f4 f5;refine⟨_,rfl,tY (s:={s with heap:=h',toks:=tk}) (n:="range_iterator") a8 rfl rfl ⋯ ⟨.int (lo+i),H,I1,⟨t,?_⟩,⟨rfl,rfl⟩,a8,λb O=>(hf b O).1⟩⟩;rw[Po]
 done:=by intro X U hw Y hc i pins s σ H E I hf st hg;subst U hw Y;obtain⟨f0,f1,f2,f3,f4,f5⟩:=hf it ⋯;exact wpAny_pyNext_range_end (I.ok.hd hc) st (by have:n<=i:=hg;omega) λh' eb=>⟨rfl,I.turned (t':=s.toks) (λb o O e=>eb b o O e) f0 f1 f3 f4 f5⟩
 self:=λ_ _ _ _ _ st h=>wpAny_pyIter_rangeiter st h
section
variable{X:Cx}{tg:ec}
theorem WT{J:UQ}{Z:St}{H:Hp}{s:d6}{R:It->Hp->Prop}{E:EQ}{lo z:Int}{t u v:qs}{L:Nat}(I:Inv X J Z H s)(h1 : -(2^62)<=lo)(h2:lo<2^62)(U : -(2^62)<=z)(Y:z<2^62)
 (q:R (N8 lo (z-lo).toNat) H):wpAny (d9 X.prog X.w) X.A (SM (.ref s.heap.objs.size)) (Uj X J Z tg R) E {s with heap:=s.heap.push {cls:=.type "range",data:=.fields #[.int lo t,.int z u,.int 1 v]},toks:=L}:=by
 refine wpAny_pyIter_range (IsRange.new ..) (small_one h1 h2 U Y) ?_;have O:Inv X J Z H {s with heap:=s.heap.push {cls:=.type "range",data:=.fields #[.int lo t,.int z u,.int 1 v]},toks:=L}:=I.kept λb o e=>IB _ e;refine⟨(s.heap.push {cls:=.type "range",data:=.fields #[.int lo t,.int z u,.int 1 v]}).objs.size,[(s.heap.push {cls:=.type "range",data:=.fields #[.int lo t,.int z u,.int 1 v]}).objs.size],_,_,H,rfl,
  O.kept (t':=L) λb o e=>IB _ e,aW _ lo (z-lo).toNat,?_,λb f=>?_,q⟩
 ·have a:lo+((0:Nat):Int)*1=lo:=by simp
  have d:(((z-lo).toNat:Nat):Int)-((0:Nat):Int)=Builtin.Range.rangeSize lo z 1:=by rw[rangeSize_one];split<;>omega
  show IsRangeIter _ _ (lo+((0:Nat):Int)*1) ((((z-lo).toNat:Nat):Int)-((0:Nat):Int)) 1;rw[a,d];exact IS _ rfl
 ·have e:b=(s.heap.push {cls:=.type "range",data:=.fields #[.int lo t,.int z u,.int 1 v]}).objs.size:=by simpa using f
  subst e;exact O.Di (II _)<|O.ej.fresh<|II _
noncomputable def FM(z:TA):TI:=λd H R=>z d H λb a=>∃j:Int,b=[.int j]/\ -(2^62)<=j/\j<2^62/\R (N8 0 j.toNat) a
noncomputable def FL(z:TA):TI:=λd H R=>z d H λb a=>∃i j:Int,b=[.int i,.int j]/\(-(2^62)<=i/\i<2^62/\ -(2^62)<=j/\j<2^62)/\R (N8 i (j-i).toNat) a
theorem fe{a:ec}{z:TA}{p pos:fh}(U:Gl X "range")(L:X.mg "range" = none)(J:PA X [a] z)(hs:eA [a] X.env=[(di,d8 a X.env)]:=by rfl):PI X tg (.Call (.Name "range" p) [a] [] pos) (FM z):=by
 intro b s k H R I h;refine D8<|xX I U L boot_range<|LA (eK (J pos b s k H _ I h) λn m Y=>?_) hs rfl;obtain⟨o,l,d,g,O⟩:=Y;obtain⟨j,e,O,f,q⟩:=O;subst e;cases g with
 |cons r i=>
  cases i;obtain⟨t,rfl⟩:=r;exact call_range_1 (WT d ⋯ ⋯ O f<|by simpa using q)
theorem eZ(J:Gl X "range")(L:X.mg "range" = none)(z:PA X [a,b] ta)(hs:eA [a,b] X.env=[(di,d8 a X.env),(di,d8 b X.env)]:=by rfl)(Y:eA [b] X.env=[(di,d8 b X.env)]:=by rfl):
 PI X tg (.Call (.Name "range" p) [a,b] [] pos) (FL ta):=by
 intro d s u H R I h;refine D8 (xX I J L boot_range<|LA (eK (z pos d s u H _ I h) λA x g=>?_) (by rw[hs,Y])<|by rw[Y];rfl);obtain⟨B,w,f,o,O⟩:=g;obtain⟨i,j,e,⟨O,k,l,m⟩,q⟩:=O;subst e;cases o with
 | cons r U=>
  cases U with
  |cons n U=>
   cases U;obtain⟨t,rfl⟩:=r;obtain⟨y,rfl⟩:=n;exact call_range_2<|WT f O k l m q
noncomputable def HN(L:TI)(g:TG)(z:TS):TS:=λD a H=>L a H λJ e=>∃W:Nat->Nat->St->Hp->Prop,(∃m,W 0 m a e)/\∀i m a H,W i m a H->
 (J.stop i H/\D.nx a H)\/(J.go i H/\∃N:St->Hp->Prop,(∀I b,N I b->∃d,d<m/\W (i+1) d I b)/\∀x b,J.D6 i H x b->g x a b λO f=>z {D with nx:=N,ct:=N,bk:=D.nx} O f)
noncomputable def YA(fp:List dv)(h:eh):List (dv×jn):=fp.filterMap λb=>(h.get? b).map λo=>(b,o)
theorem vD(I:b∈fp)(e:h.get? b=cq o):(b,o)∈YA fp h:=OP.mpr ⟨b,I,by rw[e];rfl⟩
theorem fE(I:p∈YA fp h):p.1∈fp/\h.get? p.1=cq p.2:=by
 obtain⟨b,O,e⟩:=OP.mp I;cases q:h.get? b with
 |none=>rw[q]at e;cases e
 |some o=>
  rw[q]at e;have U:(b,o)=p:=LN e;subst U;exact⟨O,q⟩
theorem Inv.pinned(I:Inv X pins σ H s)(J:∀b∈fp,vR X pins H b)(Y:∀b∈fp,∃o,s.heap.get? b=cq o/\∀v,o.data ≠ .cell v):Inv X (pins++YA fp s.heap) σ H s:=
 I.SJ λp f=>(OD.mp f).elim (λz=>I.pin p<|IZ _ z) λz=>by obtain⟨O,e⟩:=fE z;obtain⟨a,f1,f2,_⟩:=J p.1 O;obtain⟨o,U,d⟩:=Y p.1 O;rw[e]at U;cases U;exact⟨e,a,f1,f2,d⟩
theorem Inv.R6(I:Inv X (pins++pl) σ H s):Inv X pins σ H s:=I.SJ λp O=>I.pin p<|IZ _<|Uk _ O
theorem AW(L:Ul (d9 X.prog X.w) X.A X.env X.xe)(hc:X.calm=da)(hi:PI X tg iter wi)(hg:PG X tg g)(O:t9 X body tb)
 (hs:∀x,u0 iter X.env x=pure x:=by intro _;rfl):PS X (.For tg iter body [] pos) (HN wi g tb):=by
 intro a s σ H D I h;refine wpAny_For (eK (hi a s σ H _ I h) λv s1 h1=>eK h1 λc1 s2 h2=>?_) hs;obtain⟨it,z,tn,J,H2,e,I2,T,b1,f2,W,⟨m0,w0⟩,b4⟩:=h2;subst e;have G:∀{p:Hp},(∀b∈z,p b=none)->∀b∈z,vR X a p b:=λhn b O=>⟨hn b O,(f2 b O).2⟩;refine codeAny_forLoop_any (λn s'=>∃i k p,Inv X a k p s'/\tn i s'.heap/\(∀b∈z,p b=none)/\W i n k p) ?_ m0 ⟨0,σ,H2,I2,b1,λb O=>(f2 b O).1,w0⟩;rintro n s3 ⟨i,l,F,S,C,Z,w3⟩;rcases b4 i n l F w3 with⟨E,qn⟩|⟨go,N,hN,step⟩
 ·refine OW L (eK (T.done X rfl rfl rfl hc i a s3 l F X.xe S (G Z) C E) λr s4 y=>?_)
  obtain⟨M,I4⟩:=y;subst M;exact Rf ⟨l,F,I4,qn⟩
 ·refine OW L (eK (T.item X rfl rfl rfl hc i a s3 l F X.xe S (G Z) C go) λr s4 y=>?_)
  obtain⟨u,M,h4⟩:=y;subst M;refine OW L<|eK h4 λ_ s5 y=>?_;obtain⟨x,R,I5,r5,y5,K,bg⟩:=y;have bi:=I5.pinned (G bg)<|T.obj _ _ K;refine OW L<|eK (hg _ s5 l R x u _ bi r5<|step x R y5) λ_ s6 y=>?_;obtain⟨Q,H6,I6,q6⟩:=y;refine OW L<|eK (O _ s6 Q H6 _ I6 q6) λf P t=>?_;have again:∀{U:St} {Y:Hp},Inv X (a++YA z s5.heap) U Y P->N U Y->∃m,m<n/\∃i k p,Inv X a k p P/\tn i P.heap/\(∀b∈z,p b=none)/\W i m k p:=λ{U Y} j B=>by obtain⟨m',hm,w7⟩:=hN U Y B;refine⟨m',hm,i+1,U,Y,j.R6,T.keep _ _ _ K λb O o e=>(j.pin (b,o)<|IZ _<|IZ _<|vD O e).1,λb O=>?_,w7⟩;obtain⟨o,e,d⟩:=T.obj _ _ K b O;exact(j.pin (b,o)<|IZ _<|IZ _<|vD O e).2.1
  cases f with
  |next=>obtain⟨U,Y,j,B⟩:=t;exact again j B
  |cont=>obtain⟨U,Y,j,B⟩:=t;exact again j B
  |brk=>obtain⟨U,Y,j,t⟩:=t;exact⟨U,Y,j.R6,t⟩
  |ret v=>obtain⟨x7,U,Y,j,r7,t⟩:=t;exact⟨x7,U,Y,j.R6,r7,t⟩
end
abbrev R2:=V->V->Hp->VK->Prop
noncomputable def kr(X:Cx)(f:dy->dy->m5 dy)(r:R2):Prop:=
 ∀(a:UQ) (s:d6) (b:St) (H:Hp) (x y:V) (v u:dy) (Q:VK),Inv X a b H s->RelV x v->RelV y u->r x y H Q->
  wpAny (d9 X.prog X.w) X.A (f v u) (EP X a b Q) X.xe s
noncomputable def S9(X:Cx)(f:dy->m5 dy)(r:V->Hp->VK->Prop):Prop:=
 ∀(a:UQ) (s:d6) (b:St) (H:Hp) (x:V) (v:dy) (Q:VK),Inv X a b H s->RelV x v->r x H Q->
  wpAny (d9 X.prog X.w) X.A (f v) (EP X a b Q) X.xe s
noncomputable def QM(X:Cx)(f:dy)(r:List V->Hp->VK->Prop):Prop:=
 ∀(a:UQ) (s:d6) (e:St) (H:Hp) (d:List V) (b:List dy) (Q:VK),Inv X a e H s->eL d b->r d H Q->
  wpAny (d9 X.prog X.w) X.A (call f b) (EP X a e Q) X.xe s
noncomputable def Il(X:Cx)(r:V->Hp->(Bool->Hp->Prop)->Prop):Prop:=
 ∀(a:UQ) (s:d6) (b:St) (H:Hp) (x:V) (v:dy) (Q:Bool->Hp->Prop),Inv X a b H s->RelV x v->r x H Q->
  wpAny (d9 X.prog X.w) X.A (R5 v) (TP X a b Q) X.xe s
noncomputable def R3(r:R2)(z I:TE):TE:=λa H Q=>z a H λx b=>I a b λy d=>r x y d Q
noncomputable def Y_(r:V->Hp->VK->Prop)(z:TE):TE:=λb H Q=>z b H λx a=>r x a Q
noncomputable def rI(C:Int->Int->Prop)(g:Int->Int->V):R2:=λx y H Q=>∃i j,x=.int i/\y=.int j/\C i j/\Q (g i j) H
noncomputable def yr(g:Int->Int->V):R2:=λx y H Q=>∃i j,x=.int i/\y=.int j/\Q (g i j) H
noncomputable def rU(g:Int->V):V->Hp->VK->Prop:=λx H Q=>∃i,x=.int i/\Q (g i) H
section
variable{X:Cx}{a b c:ec}{ta tb tc:TE}{pos:fh}
theorem Gi(ha:PE X a ta)(U:PE X b tb){z:UQ}{s:d6}{L:St}{H:Hp}{R:V->V->Hp->Prop}(I:Inv X z L H s)
 (h:ta L H λx H1=>tb L H1 λy J=>R x y J) {Q:EQ} {f:dy->dy->m5 dy}
 (hf:∀v u s2 x y J,Inv X z L J s2->RelV x v->RelV y u->R x y J->wpAny (d9 X.prog X.w) X.A (f v u) Q X.xe s2):
 wpAny (d9 X.prog X.w) X.A (d8 a X.env) (λv Y=>wpAny (d9 X.prog X.w) X.A (d8 b X.env) (λu Z=>wpAny (d9 X.prog X.w) X.A (f v u) Q X.xe Z) X.xe Y) X.xe s:=by
 refine eK (ha z s L H _ I h) λv l O=>?_;obtain⟨x,H1,d,j,g⟩:=O;refine eK (U z l L H1 _ d g) λu s2 O=>?_;obtain⟨y,J,e,k,i⟩:=O;exact hf v u s2 x y J e j k i
theorem lV{O:Operator}{r:R2}(U:kr X (xg O) r)(z:PE X a ta)(Y:PE X b tb):PE X (.BinOp a O b pos) (R3 r ta tb):=by intro d s k H Q I h;exact wpAny_BinOp<|Gi z Y I h λv u j x y e f g i q=>U d j k e x y v u Q f g i q
theorem Fx(O:S9 X (unaryOp op) r)(z:PE X a ta):PE X (.UnaryOp op a pos) (Y_ r ta):=by intro b s d H Q I h;exact UnaryOp_<|eK (z b s d H _ I h) λv g ⟨x,e,U,Y,f⟩=>O b g d e x v Q U Y f
theorem SH{f:dy->dy->m5 dy}{C:Int->Int->Prop}{g:Int->Int->Int}
 (rule:∀(i j:Int) (t u:qs) (s:d6) (Q:EQ) (E:EQ),C i j->Q (.int (g i j) s.toks) {s with toks:=s.toks+1}->wpAny (d9 X.prog X.w) X.A (f (.int i t)<|.int j u) Q E s):
 kr X f (rI C λi j=>.int (g i j)):=by
 intro a s d H x y v u Q I O U h;obtain⟨i,j,rfl,rfl,Y,q⟩:=h;obtain⟨t,rfl⟩:=O;obtain⟨b,rfl⟩:=U;exact rule i j t b s _ _ Y ⟨.int<|g i j,H,I.tok _,⟨_,rfl⟩,q⟩
theorem Ha{f:dy->dy->m5 dy}{g:Int->Int->Int}
 (rule:∀(i j:Int) (t u:qs) (s:d6) (Q:EQ) (E:EQ),Q (.int (g i j) s.toks) {s with toks:=s.toks+1}->wpAny (d9 X.prog X.w) X.A (f (.int i t)<|.int j u) Q E s):
 kr X f (yr λi j=>.int (g i j)):=by
 intro a s d H x y v u Q I O U h;obtain⟨i,j,rfl,rfl,q⟩:=h;obtain⟨t,rfl⟩:=O;obtain⟨b,rfl⟩:=U;exact rule i j t b s _ _ ⟨.int<|g i j,H,I.tok _,⟨_,rfl⟩,q⟩
theorem FC{f:dy->dy->m5 dy}{g:Int->Int->Bool}
 (rule:∀(i j:Int) (t u:qs) (s:d6) (Q:EQ) (E:EQ),Q (.bool<|g i j) s->wpAny (d9 X.prog X.w) X.A (f (.int i t)<|.int j u) Q E s):
 kr X f (yr λi j=>.bl (g i j)):=by
 intro a s d H x y v u Q I O U h;obtain⟨i,j,rfl,rfl,q⟩:=h;obtain⟨t,rfl⟩:=O;obtain⟨b,rfl⟩:=U;exact rule i j t b s _ _ ⟨.bl<|g i j,H,I,rfl,q⟩
noncomputable def HD(i j:Int):Prop:=0<j/\j<1073741824
noncomputable def HC(i j:Int):Prop:=0<=j/\j<=1000000/\i.natAbs<2^64
noncomputable def H9(i j:Int):Prop:=(-(2^64)<i/\i<2^64)\/(-(2^64)<j/\j<2^64)
theorem H9.ok(h:H9 i j):IntMulOk i j:=by
 rcases h with⟨a,b⟩|⟨a,b⟩
 ·exact .of_left<|intBits_le_64 a b
 ·exact .of_right<|intBits_le_64 a b
theorem S_:kr X (xg .Add) (yr λi j=>.int (i+j)):=Ha λ_ _ _ _ _ _ _ q=>add_int q
theorem Bw:kr X (xg .Sub) (yr λi j=>.int (i-j)):=Ha λ_ _ _ _ _ _ _ q=>sub_int q
theorem T_:kr X (xg .Mult) (rI H9 λi j=>.int (i*j)):=SH λ_ _ _ _ _ _ _ I q=>mul_int q I.ok
theorem sV:kr X (xg .FloorDiv) (rI HD λi j=>.int (i/j)):=SH λi j _ _ _ _ _ I q=>by have a:(0:Int)<j:=I.1;have b:j<1073741824:=I.2;exact floordiv_int ⋯ (by rw[Int.fdiv_eq_ediv_of_nonneg i ⋯];exact q)<|.inl<|PyProof.noPylong_small ⋯
theorem Bz:kr X (xg .Mod) (rI (λ_ j=>0<j) λi j=>.int (i%j)):=SH λi j _ _ _ _ _ I q=>by have a:(0:Int)<j:=I;exact mod_int' ⋯ (by rw[Int.fmod_eq_emod_of_nonneg i ⋯];exact q)
theorem By:kr X (xg .Pow) (rI HC λi j=>.int (i^j.toNat)):=SH λ_ _ _ _ _ _ _ I q=>pow_int_small I.1 I.2.1 I.2.2 q
theorem _a{f:dy->m5 dy}{g:Int->Int}
 (rule:∀(i:Int) (t:qs) (s:d6) (Q:EQ) (E:EQ),Q (.int (g i) s.toks) {s with toks:=s.toks+1}->wpAny (d9 X.prog X.w) X.A (f<|.int i t) Q E s):
 S9 X f (rU λi=>.int (g i)):=by
 intro a s b H x v Q I O h;obtain⟨i,rfl,q⟩:=h;obtain⟨t,rfl⟩:=O;exact rule i t s _ _ ⟨.int<|g i,H,I.tok _,⟨_,rfl⟩,q⟩
theorem Aa:S9 X (unaryOp .USub) (rU λi=>.int (-i)):=_a λ_ _ _ _ _ q=>neg_int q
end
section
variable{X:Cx}{a b c:ec}{ta tb tc:TE}{pos:fh}
theorem pe(I:Inv X pins σ H s)(q:Q (.bl k) H)(e:k=k'):EP X pins σ Q (.bool k') s:=by subst e;exact⟨.bl k,H,I,rfl,q⟩
theorem BA:kr X (ri .Lt) (yr λi j=>.bl (decide<|i<j)):=FC λ_ _ _ _ _ _ _ q=>lt_int q
theorem Fz:kr X (ri .LtE) (yr λi j=>.bl (decide<|i<=j)):=FC λ_ _ _ _ _ _ _ q=>le_int q
theorem FA:kr X (ri .Gt) (yr λi j=>.bl (decide<|j<i)):=FC λ_ _ _ _ _ _ _ q=>gt_int q
theorem BB:kr X (ri .Is) (λx y H Q=>y=.d7/\Q (.bl<|decide<|x=.d7) H):=by
 intro a s b H x y v u Q I O U h;obtain⟨rfl,q⟩:=h;cases U;refine is_none_gen<|pe I q ?_;cases x<;>first
  |(cases O;rfl)
  |(obtain⟨t,rfl⟩:=O;rfl)
theorem sU:kr X (ri .IsNot) (λx y H Q=>y=.d7/\Q (.bl<|!decide (x=.d7)) H):=by
 intro a s b H x y v u Q I O U h;obtain⟨rfl,q⟩:=h;cases U;refine isnot_none_gen<|pe I q ?_;cases x<;>first
  |(cases O;rfl)
  |(obtain⟨t,rfl⟩:=O;rfl)
noncomputable def FK:HO->Bool
 |.lst _=>da
 |.ins _ _ _=>da
 |_=>di
theorem wG{J:UQ}{s:d6}{L:St}{H:Hp}{a:dv}{o:HO}(I:Inv X J L H s)(h:H a=cq o)(p:FK o=da):∃O,s.heap.get? a=cq O/\O.cls ≠ .type "tuple":=by
 cases o with
 |lst d=>
  obtain⟨_,b,n,_,e⟩:d.length<=el/\∃(b:List dy) (n:Nat),eL d b/\s.heap.get? a=cq {cls:=.type "list",data:=.seq b.toArray n}:=I.ej a _ h;exact⟨_,e,(by show MI "list" ≠ .type "tuple";decide +kernel)⟩
 |ins C f fs=>
  have x:=I.ej a _ h;obtain⟨_,_,_,e,_⟩:=x;exact⟨_,e,(by show Lr C ≠ .type "tuple";exact λz=>by cases z)⟩
 |_=>exact absurd (show di=da from p) Lb
theorem kr.or(h:kr X f r)(h':kr X f r'):kr X f (λx y H Q=>r x y H Q\/r' x y H Q):=by
 intro a s b H x y v u Q I O U q;rcases q with q|q
 ·exact h a s b H x y v u Q I O U q
 ·exact h' a s b H x y v u Q I O U q
theorem ZN(b:ec)(h:op ≠ .In:=by decide)(z:op ≠ .NotIn:=by decide):Dc op b=di:=by
 have a:(op==CmpOp.In)=di:=by cases op<;>first|rfl|exact absurd rfl h
 have I:(op==CmpOp.NotIn)=di:=by cases op<;>first|rfl|exact absurd rfl z
 cases b<;>simp[Dc,a,I]
theorem sO{O:CmpOp}{r:R2}(U:kr X (ri O) r)(z:PE X a ta)(Y:PE X b tb)(J:Dc O b=di):PE X (.Compare a [O] [b] pos) (R3 r ta tb):=by intro d s k H Q I h;exact wpAny_Compare1 (Gi z Y I h λv u j x y e f g i q=>U d j k e x y v u Q f g i q) J
noncomputable def EU(t:TE):TT:=λb H Q=>t b H λx a=>∃k,x=.bl k/\Q k a
theorem eQ(O:kr X (ri op) r)(J:PE X a ta)(U:PE X b tb)(L:Dc op b=di):PT X (.Compare a [op] [b] pos) (EU<|R3 r ta tb):=by
 intro d s f H Q I h;refine _h (eK (J d s f H _ I h) λv B ⟨x,g,Y,t,n⟩=>eK (U d B f g _ Y n) λu C ⟨y,i,l,w,o⟩=>
  eK (O d C f i x y v u _ l t w o) λc E ⟨z,j,m,A,k,e,p⟩=>?_) L
 subst e;cases A;exact MW ⟨j,m,p⟩
noncomputable def Ai(r J:R2)(ta tb tc:TE):TE:=λa H Q=>ta a H λx b=>tb a b λy d=>r x y d λz I=>∃k,z=.bl k/\
 (if k=da then tc a I λe O=>J y e O Q else Q (.bl di) I)
theorem lX(ho:kr X (ri op) r)(J:kr X (ri P6) r')(L:PE X a ta)(Z:PE X b tb)(hc:PE X c tc)
 (hm:lastMarks [op,P6] [b,c]=di:=by with_unfolding_all rfl):PE X (.Compare a [op,P6] [b,c] pos) (Ai r r' ta tb tc):=by
 intro f s g H Q I h;refine Compare_chain (eK (L f s g H _ I h) λv F ⟨x,j,n,B,t⟩=>chain_link (eK (Z f F g j _ n t) λu G ⟨y,l,o,i,w⟩=>
  eK (ho f G g l x y v u _ o B i w) λd K ⟨z,O,U,C,k,e,Y⟩=>?_)) hm
 subst e;cases C;refine MW ?_;cases k with
 |false=>exact ite_ff ⟨.bl di,O,U,rfl,Y⟩
 |true=>exact ite_tt<|chain_last<|eK (hc f K g O _ U Y) λN M ⟨P,m,p,E,A⟩=>J f M g m y P u N Q p i E A
noncomputable def Hy(K:Iy)(x:V)(H:Hp)(k:Bool):Prop:=
 match x with
 |.d7=>k=di
 |.bl b=>k=b
 |.int i=>k=(i != 0)
 |.str y=>y.length<=el/\k=((y.length:Int) != 0)
 |.O6 y=>y.size<=el/\k=((y.size:Int) != 0)
 |.ref p=>(∃d,gv K H p d/\k = !d.isEmpty)\/(∃d,gR K H p d/\k = !d.isEmpty)\/∃a,H p=cq (.dK a)/\k = !a.isEmpty
 |_=>False
theorem cj(r:KV l0 vs):(!vs.isEmpty) = !l0.isEmpty:=by cases r<;>rfl
theorem Xv(r:eL xs its):(!its.toArray.isEmpty) = !xs.isEmpty:=by cases r<;>simp
theorem JW:(el:Nat)<2^63:=by rw[E5];decide
theorem Ac:Il X (λx H Q=>∃k,Hy X.K x H k/\Q k H):=by
 intro o s C H x v Q I U h;obtain⟨k,e,q⟩:=h;have A:=JW;have B:el=16777216:=E5;cases x with
 |d7=>
  cases U;have O:k=di:=e;subst O;exact truthy_none ⟨H,I,q⟩
 |bl b=>
  cases U;have O:k=b:=e;subst O;exact MW ⟨H,I,q⟩
 |int i=>
  obtain⟨t,rfl⟩:=U;have O:k=(i != 0):=e;subst O;exact PySem.P.truthy_int ⟨H,I,q⟩
 |str y=>
  obtain⟨t,rfl⟩:=U;obtain⟨z,O⟩:y.length<=el/\k=((y.length:Int) != 0):=e;subst O;exact PySem.P.truthy_str ⋯ ⟨H,I.tok _,q⟩
 |O6 y=>
  obtain⟨t,rfl⟩:=U;obtain⟨z,O⟩:y.size<=el/\k=((y.size:Int) != 0):=e;subst O;exact PySem.W.truthy_bytes ⋯ ⟨H,I.tok _,q⟩
 | ref p=>
  cases U;have O:(∃d,gv X.K H p d/\k = !d.isEmpty)\/(∃d,gR X.K H p d/\k = !d.isEmpty)\/∃a,H p=cq (.dK a)/\k = !a.isEmpty:=e;rcases O with⟨d,f,O⟩|⟨d,f,O⟩|⟨a,f,O⟩
  ·subst O
   obtain⟨j,r,Y,n⟩:=I.list f;have l:=r.length;exact wpAny_truthy_list Y.isList (by simp only[IL];omega) ⟨H,I.tok _,by rw[Xv r];exact q⟩
  ·subst O
   obtain⟨j,r,Y,n⟩:=I.tuple f;have l:=r.length;exact truthy_tuple Y (by simp only[IL];omega) ⟨H,I.tok _,by rw[Xv r];exact q⟩
  ·subst O
   obtain⟨n,u,g,r,m⟩:a.length<=el/\(p==DR)=di/\∃g,KV a g/\s.heap.DictOf (xM X.prog X.w) p g:=I.ej p _ f;have l:a.length=g.length:=Paired.length r;exact wpAny_truthy_dict u m ⋯ ⟨H,I.tok _,by rw[cj r];exact q⟩
 |_=>exact(show False from e).elim
theorem lH(J:PE X a ta)(U:∀O,F6 a X.env O=(do let v<-O;M8 a.pos;Dj [v] (R5 v))):
 PT X a (λz H Q=>ta z H λx H'=>∃k,Hy X.K x H' k/\Q k H'):=by
 intro b s z H Q I h;exact isTrue_plain (eK (J b s z H _ I h) λv g ⟨x,d,Y,f,e⟩=>Ac b g z d x v Q Y f e)<|U _
theorem bK:kr X (xg .Add) (λx y H Q=>∃i j,x=.str i/\y=.str j/\i.length+j.length<=el/\Q (.str<|i++j) H):=by intro a s f H x y v u Q I O U h;obtain⟨i,j,rfl,rfl,b,q⟩:=h;obtain⟨t,rfl⟩:=O;obtain⟨d,rfl⟩:=U;exact add_str (λd e=>⟨.str<|i++j,H,I.tok _,⟨_,rfl⟩,q⟩) b
theorem yx(r:eL [x] us):∃u,us=[u]/\RelV x u:=by
 cases r with
 |cons I a=>cases a;exact⟨_,rfl,I⟩
theorem iO(r:eL [x,y] us):∃u w',us=[u,w']/\RelV x u/\RelV y w':=by
 cases r with
 |cons I a=>
  cases a with
  |cons O U=>cases U;exact⟨_,_,rfl,I,O⟩
theorem hU(U:X.calm=da):QM X (.builtin "max") (λxs H Q=>∃i j,xs=[.int i,.int j]/\Q (.int (if j>i then j else i)) H):=by
 intro a s l H xs f Q I r h;obtain⟨i,j,rfl,q⟩:=h;obtain⟨u,g,rfl,⟨t,rfl⟩,⟨d,rfl⟩⟩:=iO r;refine max_two_ints (I.ok.hd U) λb e k=>⟨_,H,I.kept k,?_,q⟩;by_cases O:j>i
 ·rw[UJ O,UJ O];exact⟨_,rfl⟩
 ·rw[UY O,UY O];exact⟨_,rfl⟩
theorem hJ(U:X.calm=da):QM X (.builtin "min") (λxs H Q=>∃i j,xs=[.int i,.int j]/\Q (.int (if j<i then j else i)) H):=by
 intro a s l H xs f Q I r h;obtain⟨i,j,rfl,q⟩:=h;obtain⟨u,g,rfl,⟨t,rfl⟩,⟨d,rfl⟩⟩:=iO r;refine min_two_ints (I.ok.hd U) λb e k=>⟨_,H,I.kept k,?_,q⟩;by_cases O:j<i
 ·rw[UJ O,UJ O];exact⟨_,rfl⟩
 ·rw[UY O,UY O];exact⟨_,rfl⟩
theorem hV:QM X (.type "int") (λxs H Q=>(∃i,xs=[.int i]/\Q (.int i) H)\/∃k,xs=[.bl k]/\Q (.int (if k then 1 else 0)) H):=by
 intro a s d H xs b Q I r h;rcases h with⟨i,rfl,q⟩|⟨k,rfl,q⟩
 ·obtain⟨u,rfl,t,rfl⟩:=yx r
  exact call_int_int ⟨.int i,H,I,⟨_,rfl⟩,q⟩
 ·obtain⟨u,rfl,O⟩:=yx r
  cases O;exact call_int_bool ⟨.int<|if k then 1 else 0,H,I.tok _,⟨_,rfl⟩,q⟩
end
structure S8(h:eh)(x dx C:dv)(mA:UZ):Prop where
 obj:h.get? x=cq (PySem.W.instObj C dx)
 ns:h.Ns1 dx mA
 ne:dx≠x
theorem fP{h:eh}{J:dv}{L:UZ}(n:h.Ns1 J L):∃od,h.get? J=cq od/\∀name,PySem.W.lookIn name od=cq (L name):=by
 obtain⟨o,b,i,I,f,O,_,g⟩:=n;refine⟨o,I,λname=>?_⟩;have e:=g name;unfold nsFind findBy at e;rw[<-Array.find?_toList]at e;unfold PySem.W.lookIn;rw[f];dsimp only;split
 ·rename_i y q
  rw[q]at e;exact congrArg cq e
 ·rename_i q
  rw[q]at e;have a:b.toList.any (·.refKey)=di:=by rw[List.any_eq_false];intro y U;obtain⟨z,t,Y⟩:=O y<|Array.mem_toList_iff.mp U;simp[DictEntry.refKey,Y]
  have d:¬b.toList.any (·.refKey)=da:=by rw[a];exact Lb
  rw[UY d];exact congrArg cq e
theorem S8.look(I:S8 h x dx C mA):∃od,PySem.W.InstAt h x (PySem.W.instObj C dx) C (cq od)/\∀name,PySem.W.lookIn name od=cq (mA name):=
 let ⟨od,O,U⟩:=fP I.ns
 ⟨od,⟨I.obj,rfl,rfl,O⟩,U⟩
noncomputable def Fs(f:Str)(v:V):List (Str×V)->List (Str×V)
 |[]=>[(f,v)]
 |(g,x)::r=>if g=f then (g,v)::r else (g,x)::Fs f v r
theorem B6.some_of(r:B6 (cq v) o):∃u,o=cq u/\RelV v u:=by
 cases o with
 |none=>exact(show False from r).elim
 |some u=>exact⟨u,rfl,r⟩
section
variable{P:g8}{w:f7}{H H':Hp}{h h':eh}{a C dx:dv}{fs L':List (Str×V)}
theorem tM(J:kA P w H h)(e:H a=cq (.ins C dx fs)):∃mA,S8 h a dx C mA/\(∀f,B6 (fs.lookup f)<|mA f)/\PySem.Within mA (fs.map (·.1))/\fs.length<=1000/\H dx=cq (.own a):=by obtain⟨d,z,b,I,mA,n,r,q⟩:=(show j1 P w H h a (.ins C dx fs)from J a _ e);exact⟨mA,⟨I,n,b⟩,r,q,z,d⟩
end
structure R9(K:Iy)(C:dv):Prop where
 pg:Rx K C Str.empty=da
 hd:PySem.W.hasDictIn K C=da
 po:PySem.W.plainOver K C=da
 sa:Ny K (.ref C) "__setattr__" = cq (cq (.builtin "object.__setattr__"))
theorem R9.get{K:Iy}{C:dv}(c:R9 K C)(f:Str):Rx K C f=da:=c.pg
section
variable{X:Cx}{pins:UQ}{σ:St}{H:Hp}{s:d6}{A:i5}{E:EQ}{Q:EQ}{c:dy}{b:Bool}
inductive xb(K:Iy)(H:Hp):V->dy->Prop where
 |d7:xb K H .d7 (.type "NoneType")
 |bl (x:Bool):xb K H (.bl x) (.type "bool")
 |int (i:Int):xb K H (.int i) (.type "int")
 |str (x:Str):xb K H (.str x) (.type "str")
 |L9 (x:UInt64):xb K H (.L9 x) (.type "float")
 |lst {a:dv} {xs:List V} (e:H a=cq (.lst xs)):xb K H (.ref a) (.type "list")
 |p8 {a:dv} {o:jn} {xs:List V} (e:H a=cq (.p8 o (.lst xs))):xb K H (.ref a) (.type "list")
 |tup {a:dv} {xs:List V} (e:H a=cq (.tup xs)):xb K H (.ref a) (.type "tuple")
 |dK {a:dv} {l0:List (Key×V)} (e:H a=cq (.dK l0)):xb K H (.ref a) (.type "dict")
 |dT {a:dv} {l0:List (List Key×V)} (e:H a=cq (.dT l0)):xb K H (.ref a) (.type "dict")
 |ins {a C dx:dv} {fs:List (Str×V)} (e:H a=cq (.ins C dx fs)) (cl:R9 K C) (ha:Ny K (.ref C) "__class__" = cq (cq (.builtin "object.__class__")))
  (hn:Rl K (.builtin "object.__class__") "__get__" = cq (cq (.builtin "getset_descriptor.__get__"))) (_q:PySem.W.takesIn K (.builtin "object.__class__")=cq da)
  (hm:ML K C (.type "object")=cq da):xb K H (.ref a) (.ref C)
theorem gc(I:Inv X pins σ H s)(U:RelV x u)(ty:xb X.K H x t)(e:Mh X.K t c=cq b)(h:∀Z,Q (.bool b) {s with toks:=Z}):
 wpAny (d9 X.prog X.w) A (call (.builtin "isinstance") [u,c]) Q E s:=by
 cases ty with
 |d7=>cases (show u=LV from U);exact Lu PySem.W.kitx_none I.l7 Nf e (λz=>nomatch z) h
 |bl y=>cases (show u=Value.bool y from U);exact Lu PySem.W.kitx_bool I.l7 Nf e (λz=>nomatch z) h
 |int i=>obtain⟨t,q⟩:=(show ∃t,u=Rj i t from U);cases q;exact Lu PySem.W.kitx_int I.l7 Nf e (λz=>nomatch z) h
 |str y=>obtain⟨t,q⟩:=(show ∃t,u=Ri y t from U);cases q;exact Lu PySem.W.kitx_str I.l7 Nf e (λz=>nomatch z) h
 |L9 y=>obtain⟨t,q⟩:=(show ∃t,u=Value.float y t from U);cases q;exact Lu PySem.W.kitx_float I.l7 Nf e (λz=>nomatch z) h
 |@lst a g Y=>
  cases (show u=Lr a from U);obtain⟨_,_,n,_,d⟩:=(show j1 X.prog X.w H s.heap a (.lst g)from I.ej a _ Y);exact Lu Rn I.l7 ⟨_,d,rfl⟩ e (λz=>nomatch z) h
 |@p8 a L g Y=>
  cases (show u=Lr a from U);obtain⟨_,_,_,n,_,d⟩:=(show j1 X.prog X.w H s.heap a (.p8 L<|.lst g)from I.ej a _ Y);exact Lu Rn I.l7 ⟨_,d,rfl⟩ e (λz=>nomatch z) h
 |@tup a g Y=>
  cases (show u=Lr a from U);obtain⟨_,_,_,p⟩:=(show j1 X.prog X.w H s.heap a (.tup g)from I.ej a _ Y);obtain⟨o,d,j,_⟩:=p;exact Lu PySem.W.kitx_tuple I.l7 ⟨o,d,(Prod.mk.inj j).1⟩ e (λz=>nomatch z) h
 |@dK a f Y=>
  cases (show u=Lr a from U);obtain⟨_,_,R,_,p⟩:=(show j1 X.prog X.w H s.heap a (.dK f)from I.ej a _ Y);obtain⟨o,r,m,d,j,_⟩:=p;exact Lu OL I.l7 ⟨o,d,j.1⟩ e (λz=>nomatch z) h
 |@dT a f Y=>
  cases (show u=Lr a from U);obtain⟨_,_,g,_,o,r,m,d,j,_⟩:=(show j1 X.prog X.w H s.heap a (.dT f)from I.ej a _ Y);exact Lu OL I.l7 ⟨o,d,j.1⟩ e (λz=>nomatch z) h
 |@ins a C M fs Y l B G k F=>
  cases (show u=Lr a from U);obtain⟨N,O,_⟩:=tM I.ej Y;obtain⟨P,J,_⟩:=O.look;exact Lu (PySem.W.kitx_own (l.get _) l.hd B G k F) I.l7 J e (λz=>nomatch z) h
end
structure n9(k:Nat)(A:i5):Prop where
 hd:A.handled=none
 dp:A.depth+3*k+5<recursionLimit
 un:A.units+16*k+200<Df
theorem n9.mono(r:n9 k A)(h:j<=k):n9 j A:=⟨r.hd,by have:=r.dp;omega,by have:=r.un;omega⟩
theorem n9.deeper(r:n9 (k+1) A)(env:lp):n9 k (A.deeper env):=
 ⟨r.hd,by have:=r.dp;show A.depth+1+3*k+5<_;omega,by have:=r.un;show A.units+3+16*k+200<_;omega⟩
theorem n9.in1(r:n9 (k+1) A):n9 k A.in1:=
 ⟨r.hd,by have:=r.dp;show A.depth+3*k+5<_;omega,by have:=r.un;show A.units+1+16*k+200<_;omega⟩
theorem n9.depth(r:n9 k A):A.depth<recursionLimit:=by have:=r.dp;omega
noncomputable def GU:TA:=λ_ H Q=>Q [] H
noncomputable def Ah(z:TE)(I:TA):TA:=λa H Q=>z a H λx b=>I a b λe d=>Q (x::e) d
section
variable{X:Cx}{e:ec}{es:List ec}{te:TE}{t:TA}{pos:fh}
theorem qc:PA X [] GU:=λ_ _ _ _ H Q I h=>Nv ⟨[],H,I,.nil,h⟩
theorem jm(z:PE X e te)(O:PA X es t)(hs:eA (e::es) X.env=(di,d8 e X.env)::eA es X.env:=by rfl):PA X (e::es) (Ah te t):=by intro pos a s b H Q I h;rw[hs];show wpAny _ _ (DP ((di,d8 e X.env)::ow pos (eA es X.env))) _ _ s;refine Mz<|eK (z a s b H _ I h) λu m U=>?_;obtain⟨x,d,Y,k,i⟩:=U;exact eK (O pos a m b d _ Y i) λp o ⟨n,f,g,l,j⟩=>⟨x::n,f,g,.cons k l,j⟩
noncomputable def HH(t:TA):TE:=λd H Q=>t d H λb a=>b.length<=el/\∀p,a p=none->Q (.ref p) (upd a p<|.tup b)
noncomputable def HL(t:TA):TE:=λd H Q=>t d H λb a=>b.length<=el/\∀p,a p=none->Q (.ref p) (upd a p<|.lst b)
theorem Bd(h:PA X es t):PE X (.Tuple es x1 pos) (HH t):=by intro a s k H Q I U;refine wpAny_Tuple_spliced<|eK (h pos a s k H _ I U) λi d ⟨j,f,O,r,z,q⟩=>⟨by rw[<-r.length];exact z,?_⟩;have g:f d.heap.objs.size=none:=O.ej.fresh<|II _;refine⟨.ref d.heap.objs.size,upd f d.heap.objs.size<|.tup j,O.laid (t':=d.toks) (λb u e=>IB _ e) (II _) ?_,rfl,q _ g⟩;exact⟨z,i,r,⟨_,IS _ rfl,rfl,_,rfl⟩⟩
theorem Bi(h:PA X es t):PE X (.List es pos) (HL t):=by intro a s k H Q I U;refine wpAny_List_spliced<|eK (h pos a s k H _ I U) λi d ⟨j,f,O,r,z,q⟩=>⟨by rw[<-r.length];exact z,?_⟩;have g:f d.heap.objs.size=none:=O.ej.fresh<|II _;refine⟨.ref d.heap.objs.size,upd f d.heap.objs.size<|.lst j,O.laid (t':=d.toks) (λb u e=>IB _ e) (II _) ?_,rfl,q _ g⟩;exact⟨z,i,0,r,IS _ rfl⟩
end
abbrev Sp:=List V->Hp->VK->XK->Prop
abbrev wh:=List lp->Hp->d6->XK->dy->d6->Prop
structure Ds(P:g8)(w:f7)(K:Iy)(mg:UZ)(base:eh)(A:i5)(outer:List lp)(s:d6)(H:Hp):Prop where
 frames:A.frames=cq outer
 mod:Mod K mg base
 bs:∀b o,base.get? b=cq o->s.heap.get? b=cq o/\H b=none
 B9:base.objs.size<=s.heap.objs.size
 p4:s.heap.FunFrames base outer
 C0:∀b∈m7 outer,H b=none
 ej:kA P w H s.heap
 bare:Dn s.gens
noncomputable def CE(outer:List lp)(P:g8)(w:f7)(H:Hp)(s:d6)(Q:VK)(u:dy)(s':d6):Prop:=
 ∃v a,s'.os=s.os/\Dn s'.gens/\Un (m7 outer) [] H a s.heap s'.heap/\kA P w a s'.heap/\RelV v u/\Q v a
noncomputable def CR(CX:wh)(outer:List lp)(P:g8)(w:f7)(H:Hp)(s:d6)(Q:VK)(E:XK)(r:Result)(s':d6):Prop:=
 match r with
 |.ok (.ret u)=>CE outer P w H s Q u s'
 |.ok _=>False
 |.error e=>CX outer H s E e s'
structure rb(P:g8)(w:f7)(K:Iy)(mg:UZ)(base:eh)(CX:wh)(k:Nat)(f:dv)(fd:rh)(ps:List Str)(sp:Sp):Prop where
 len:∀vs H Q E,sp vs H Q E->vs.length=ps.length
 run:∀(A:i5) (outer:List lp) (s:d6) (H:Hp) (args:Args) (us:List dy) (vs:List V) (Q:VK) (E:XK),n9 k A->Ds P w K mg base A outer s H->R7 s fd args (ps.zip us)->eL vs us->sp vs H Q E->
  codeAny (d9 P w) A (.call (.ref f) args) (CR CX outer P w H s Q E) s
theorem Ds.in1{P:g8}{w:f7}{K:Iy}{z:UZ}{base:eh}{A:i5}{outer:List lp}{s:d6}{H:Hp}(e:Ds P w K z base A outer s H):
 Ds P w K z base A.in1 outer s H:=⟨e.frames,e.mod,e.bs,e.B9,e.p4,e.C0,e.ej,e.bare⟩
section
variable{X:Cx}{pins:UQ}{σ:St}{H:Hp}{s s':d6}
theorem Inv.Dg(I:Inv X pins σ H s):Ds X.prog X.w X.K X.mg X.base X.A X.stack s H:=
 ⟨I.ok.frames,I.ok.mod,I.bs,LG I.ok.B9 I.sz,I.stack,I.M9,I.ej,I.bare⟩
theorem Inv.after(I:Inv X pins σ H s)(h:CE X.stack X.prog X.w H s Q u s'):EP X pins σ Q u s':=by obtain⟨v,f,os,a,un,e,r,q⟩:=h;obtain⟨O,g,d,t,U⟩:=s';obtain rfl:U=s.os:=os;exact⟨v,f,I.call (h':=O) (g':=g) (d':=d) (t':=t) (ch:=[]) un e a<|λb z=>absurd z ⋯,r,q⟩
end
noncomputable def rj(sp:Sp)(z:List V)(E:XK)(t:TA):TE:=λd H Q=>t d H λb a=>sp (b++z) a Q E
noncomputable def Binds(K:Iy)(z:rh)(ps:List Str)(ds:List dy):Prop:=
 ∀(s:d6) (a:List dy),K.In s.heap->(a++ds).length=ps.length->R7 s z ⟨a,[]⟩ (ps.zip<|a++ds)
theorem Binds.all{K:Iy}{z:rh}{ps:List Str}(h:∀us:List dy,us.length=ps.length->Ut z ⟨us,[]⟩=pure (ps.zip us)):Binds K z ps []:=λs us _ I=>by rw[NT]at I ⊢;exact .of_eq<|h us I
noncomputable def iz(CX:wh)(X:Cx)(E:XK):Prop:=∀(a:UQ) (d:St) (H:Hp) (s:d6) (e:dy) (b:d6),Inv X a d H s->CX X.stack H s E e b->X.xe e b
section
variable{X:Cx}{CX:wh}{k:Nat}{f C:dv}{fd:rh}{ps:List Str}{sp:Sp}{L6:List V}{ds:List dy}{E:XK}{x m:Str}{p pos apos:fh}{e o:ec}{es:List ec}{ta:TE}{t:TA}
theorem AA(F:rb X.prog X.w X.K X.mg X.base CX k f fd ps sp)(U:n9 k X.A)(Y:Binds X.K fd ps ds)(z:eL L6 ds)(hx:iz CX X E)
 (I:Inv X pins σ H s) (r:eL vs us) (h:sp (vs++L6) H Q E):wpAny (d9 X.prog X.w) X.A (call (.ref f) us) (EP X pins σ Q) X.xe s:=by
 have a:eL (vs++L6) (us++ds):=r.append z;have d:(us++ds).length=ps.length:=by rw[<-a.length];exact F.len _ _ _ _ h
 refine RX<|Ph (F.run X.A X.stack s H ⟨us,[]⟩ (us++ds) (vs++L6) Q E U I.Dg (Y s us I.l7 d) a h) λr g O=>?_;cases r with
 |error e=>exact hx pins σ H s e g I O
 |ok b=>
  cases b with
  |ret u=>exact I.after O
  |next=>exact Nd O
  |brk=>exact Nd O
  |cont=>exact Nd O
theorem fj(F:rb X.prog X.w X.K X.mg X.base CX k f fd ps sp)(U:n9 k X.A)(Y:Gl X x)(hm:X.mg x=cq (.ref f))(hk:NZ X.K (.ref f)=da)(Z:Binds X.K fd ps ds)(hd:eL L6 ds)(hx:iz CX X E)
 (L:PA X (e::es) t) (z:(x==("__debug__" : Str))=di:=by decide) (he:eA (e::es) X.env=(di,d8 e X.env)::eA es X.env:=by rfl) (J:(ow pos (eA es X.env)).any (·.1)=di:=by rfl):
 PE X (.Call (.Name x p) (e::es) [] pos) (rj sp L6 E t):=by
 intro a s b H Q I h;refine MC<|vZ I Y hm ?_ z;refine PySem.W.callWith_K (h₀:=X.base) I.ok.mod.M3 hk (eK (L pos a s b H _ I h) λi g ⟨j,d,O,r,q⟩=>⟨O.l7,?_⟩) he J;exact AA F U Z hd hx O r q
end
structure N6(N P:List Str)(sc:gB):Prop where
 kind:sc.kind=.function
 co:sc.isCoroutine=di
 gen:sc.isGenerator=di
 nd:N.Nodup
 pre:N.take P.length=P
 par:∀x∈P,sc.names.lookup x=cq .local\/sc.names.lookup x=cq .cell
 R_:∀y∈sc.names,y.2 ≠ .free
theorem Vl{kindOf:Str->Option B4}{x:Str}:∀{I:List (Str×dy)} {m:UZ},(∀v,(x,v)∉I)->F4 kindOf I m x=m x
 |[],_,_=>rfl
 | (n,v)::r,m,h=>by
  unfold F4;rw[Vl λw a=>h w (Ld _ a)];split
  ·have:x≠n:=by rintro rfl;exact h v La
   simp[this]
  ·rfl
theorem Vn{kindOf:Str->Option B4}{x:Str}:∀{I:List (Str×dy)} {m:UZ},(∀v,(x,v)∉I)->F3 kindOf I m x=m x
 |[],_,_=>rfl
 | (n,v)::r,m,h=>by
  unfold F3;rw[Vn λw a=>h w (Ld _ a)];split
  ·rfl
  ·have:x≠n:=by rintro rfl;exact h v La
   simp[this]
theorem Vm{kindOf:Str->Option B4}{x:Str}{v:dy}:∀{P:List Str} {vs:List dy} {i:Nat} {m:UZ},P.Nodup->P[i]? = cq x->vs[i]? = cq v->kindOf x=cq .local->
 F4 kindOf (P.zip vs) m x=cq v
 |[],_,_,_,_,h,_,_=>by simp at h
 |_::_,[],_,_,_,_,h,_=>by simp at h
 |p::P,w::vs,0,m,nd,h1,h2,hk=>by simp at h1 h2;subst h1;subst h2;show F4 kindOf ((p,w)::P.zip vs) m p=_;unfold F4;rw[Vl λv I=>(NP.mp nd).1 (List.of_mem_zip I).1,UJ hk];simp
 |p::P,w::vs,i+1,m,nd,h1,h2,hk=>by show F4 kindOf ((p,w)::P.zip vs) m x=_;unfold F4;exact Vm (i:=i) (NP.mp nd).2 (by simpa using h1) (by simpa using h2) hk
theorem Vo{kindOf:Str->Option B4}{x:Str}{v:dy}:∀{P:List Str} {vs:List dy} {i:Nat} {m:UZ},P.Nodup->P[i]? = cq x->vs[i]? = cq v->kindOf x≠cq .local->
 F3 kindOf (P.zip vs) m x=cq v
 |[],_,_,_,_,h,_,_=>by simp at h
 |_::_,[],_,_,_,_,h,_=>by simp at h
 |p::P,w::vs,0,m,nd,h1,h2,hk=>by simp at h1 h2;subst h1;subst h2;show F3 kindOf ((p,w)::P.zip vs) m p=_;unfold F3;rw[Vn λv I=>(NP.mp nd).1 (List.of_mem_zip I).1,UY hk];simp
 |p::P,w::vs,i+1,m,nd,h1,h2,hk=>by show F3 kindOf ((p,w)::P.zip vs) m x=_;unfold F3;exact Vo (i:=i) (NP.mp nd).2 (by simpa using h1) (by simpa using h2) hk
noncomputable def QQ(N:List Str)(vs:List V):St:=vs.map cq++IE (N.length-vs.length) none
noncomputable def Vg(CX:wh)(P:g8)(w:f7)(K:Iy)(mg:UZ)(base:eh)(N:List Str)(qual:Str)(scope:gB)(f:dv)(cd:dy)(A:i5)(outer:List lp)(s:d6)(H:Hp)(E:XK):Cx where
 prog:=P
 w:=w
 K:=K
 mg:=mg
 base:=base
 A:=A.deeper<|envOfC qual scope s.heap.objs.size f cd
 N:=N
 h7:=s
 DU:=H
 env:=So qual scope s.heap.objs.size f cd
 outer:=outer
 stack:=So qual scope s.heap.objs.size f cd::outer
 ex:=[]
 calm:=da
 fn:=λ_=>da
 pn:=[]
 xe:=λe s'=>wpAny (d9 P w) (A.deeper<|envOfC qual scope s.heap.objs.size f cd) (F8 (So qual scope s.heap.objs.size f cd) e) (λ_ I=>CX outer H s E e I) (λO I=>CX outer H s E O I) s'
theorem aK{z:gB}{n:Nat}{x:Str}(h:z.names.lookup x=cq .cell):∃c,(vl n z.names []).lookup x=cq c:=by have q:=NO z.names n [] (.inl h);exact LX.mp q
theorem gi{CX:wh}{P:g8}{w:f7}{K:Iy}{L:UZ}{base:eh}{N ps:List Str}{qual:Str}{scope:gB}{f:dv}{J:dy}{A:i5}{outer:List lp}{s Z:d6}{H:Hp}{E:XK}{us:List dy}{vs:List V}
 (S:N6 N ps scope) (hd:A.handled=none) (I:Ds P w K L base A outer s H) (hl:vs.length=ps.length) (r:eL vs us)
 (x:InCallC s s.heap.objs.size (F4 (So qual scope s.heap.objs.size f J).kindOf (ps.zip us) λ_=>none) (vl (s.heap.objs.size+1) scope.names []) (F3 (So qual scope s.heap.objs.size f J).kindOf (ps.zip us) λ_=>none) Z):
 Inv (Vg CX P w K L base N qual scope f J A outer s H E) [] (QQ N vs) H Z:=by
 have C:ps.length<=N.length:=by have:=congrArg Rb S.pre;rw[NG]at this;omega
 obtain⟨g,G,rfl,m⟩:=x.done;have Y:∀b:dv,b∉(Vg CX P w K L base N qual scope f J A outer s H E).ex:=λb z=>absurd (show b∈([]:List dv)from z) ⋯;refine⟨⟨I.mod,S.kind,rfl,rfl,II _,λy z c g d=>?_,λy O=>?_,λy c _ h=>?_,λ_=>hd,Around.frames_deeper I.frames,.inr ⟨rfl,rfl⟩,λb z=>absurd z<|Y b,I.bs,I.B9,λb _ _=>Y b,λb z=>absurd z<|Y b,I.p4,I.C0⟩,
  rfl,I.bare,Un.kept m,⟨_,x.toInCall.ns,λi y v g d F=>?_⟩,λy c h=>⟨_,x.cell y c h⟩,I.ej.fresh<|II _,λy c h=>?_,λp U=>absurd (show p∈([]:UQ)from U) ⋯,I.ej.kept m,?_⟩
 ·exact name_of_addr x.apart (NF g)<|NF d
 ·have O:scope.names.lookup y=cq .cell\/scope.names.lookup y=cq .free:=O
  rcases O with O|O
  ·exact aK O
  ·exact absurd rfl<|S.R_ _<|NF O
 ·exact PJ<|x.above y c<|NF h
 ·have j:i<vs.length:=by
   unfold QQ at d;by_cases j:i<vs.length
   ·exact j
   ·rw[Mo (by simpa using j)]at d
    rw[NR]at d;split at d<;>cases d
  have t:vs[i]? = cq v:=by
   unfold QQ at d;rw[Mt (by simpa using j),LO]at d;cases e:vs[i]? with
   |none=>rw[e]at d;cases d
   |some a=>rw[e]at d;cases d;rfl
  obtain⟨u,o,B⟩:=r.get t;have U:ps[i]? = cq y:=by rw[<-S.pre,List.getElem?_take_of_lt ⋯];exact g
  have l:ps.Nodup:=by rw[<-S.pre];exact S.nd.sublist<|List.take_sublist _ _
  refine⟨u,B,?_⟩;rcases S.par y (PN U)with k|k
  ·exact .inl ⟨k,Vm l U o k⟩
  ·obtain⟨c,e⟩:=aK (n:=s.heap.objs.size+1) k
   refine .inr ⟨.inl k,c,e,?_⟩;have q:=x.cell y c e;rw[Vo l U o (by show scope.names.lookup y≠_;rw[k];decide)]at q;exact q
 ·exact I.ej.fresh<|PJ<|x.above y c<|NF h
 ·unfold QQ
  show _=N.length;rw[Lz,Lc,List.length_replicate];omega
theorem Cn{CX:wh}{P:g8}{w:f7}{K:Iy}{mg:UZ}{base:eh}{k:Nat}{f:dv}{name qual:Str}{a2:Arguments}{L:List h9}{scope:gB}{dV kV Z pm z ct oc:dy}{an od:Option dv}
 {SI:Array (Option dy)} {N ps:List Str} {sp:Sp} (lk:K.lookup f=cq ⟨oc,od,.func<|Ob name qual a2 L scope dV kV Z pm an z ct,SI⟩) (a7:Py K z qual=da) (S:N6 N ps scope)
 (len:∀vs H Q E,sp vs H Q E->vs.length=ps.length)
 (a8:∀(A:i5) (outer:List lp) (s:d6) (H:Hp) (vs:List V) (Q:VK) (E:XK),n9 k (A.deeper<|envOfC qual scope s.heap.objs.size f z)->sp vs H Q E->
   ∃t,t9 (Vg CX P w K mg base N qual scope f z A outer s H E) L t/\t {nx:=λ_ H'=>Q .d7 H',rt:=Q} (QQ N vs) H):
 rb P w K mg base CX (k+1) f (Ob name qual a2 L scope dV kV Z pm an z ct) ps sp:=by
 refine⟨len,λA outer s H l X vs Q E Y O hb r i=>?_⟩;have G:=len _ _ _ _ i;have h:K.In s.heap:=O.mod.M3.keeps λb o e=>(O.bs b o e).1;have lim:s.heap.NoLimit:=O.mod.nolimit.keeps λb o e=>(O.bs b o e).1;have p:∀y∈ps.zip X,scope.names.lookup y.1=cq .local\/(scope.names.lookup y.1=cq .cell/\((vl (s.heap.objs.size+1) scope.names []).lookup y.1).isSome=da):=λ⟨n,v⟩ T=>by
  rcases S.par n (List.of_mem_zip T).1 with q|q
  ·exact .inl q
  ·exact .inr ⟨q,NO _ _ _<|.inl q⟩
 refine codeAny_call_function Y.depth (h _ _ lk) rfl S.co S.gen rfl (PySem.W.codeRec_of h a7)<|hb _ _ _ _ ?_;refine wpAny_newFunctionEnv_cells S.kind p λB F m x=>?_;subst F;refine⟨lim.keeps x.toInCall.keep,codeAny_func ?_⟩;obtain⟨t,R,M⟩:=a8 A outer s H vs Q E (Y.deeper _) i;have I:Inv (Vg CX P w K mg base N qual scope f z A outer s H E) [] (QQ N vs) H m:=gi S Y.hd O G r x;refine Lq (R [] m (QQ N vs) H _ I M) (λC g a=>?_) λe g a=>a;have j:∀{U:St} {H':Hp} {v:V} {u:dy},Inv (Vg CX P w K mg base N qual scope f z A outer s H E) [] U H' g->RelV v u->Q v H'->CE outer P w H s Q u g:=
  λ{U H' v u} J d q=>⟨v,H',J.os,J.bare,J.base,J.ej,d,q⟩
 cases C with
 |ret u=>
  obtain⟨v,U,H',J,d,q⟩:=a;exact j J d q
 |next=>
  obtain⟨U,H',J,q⟩:=a;exact j (v:=V.d7) (u:=LV) J rfl q
 |brk=>
  obtain⟨_,_,_,q⟩:=a;exact Nd q
 |cont=>
  obtain⟨_,_,_,q⟩:=a;exact Nd q
section
variable{X:Cx}{x:Str}{p pos:fh}{e:ec}{es:List ec}{t:TA}{id T:String}{r:List V->Hp->VK->Prop}
noncomputable def U0(r:List V->Hp->VK->Prop)(t:TA):TE:=λd H Q=>t d H λb a=>r b a Q
theorem vz(O:QM X (.builtin id) r)(U:Gl X x)(hm:X.mg x=none)(Y:Dd x=cq (.builtin id))(L:PA X (e::es) t)(hn:x ≠ "__name__":=by decide)(z:(x==("__debug__" : Str))=di:=by decide)
 (Z:eA (e::es) X.env=(di,d8 e X.env)::eA es X.env:=by rfl) (J:(ow pos<|starEach es X.env).any (·.1)=di:=by rfl):PE X (.Call (.Name x p) (e::es) [] pos) (U0 r t):=by
 intro a s b H Q I h;refine MC<|xX I U hm Y ?_ hn z;exact Na (eK (L pos a s b H _ I h) λk j ⟨l,d,f,i,g⟩=>O a j b d l k Q f i g) Z J
theorem JK(O:QM X (.type T) r)(U:Gl X x)(hm:X.mg x=none)(Y:Dd x=cq (.type T))(L:PA X (e::es) t)(hn:x ≠ "__name__":=by decide)(z:(x==("__debug__" : Str))=di:=by decide)
 (Z:eA (e::es) X.env=(di,d8 e X.env)::eA es X.env:=by rfl) (J:(ow pos<|starEach es X.env).any (·.1)=di:=by rfl):PE X (.Call (.Name x p) (e::es) [] pos) (U0 r t):=by
 intro a s b H Q I h;refine MC<|xX I U hm Y ?_ hn z;exact LA (eK (L pos a s b H _ I h) λk j ⟨l,d,f,i,g⟩=>O a j b d l k Q f i g) Z J
end
end L2
namespace HT
open PySem PyProof.Rows
section
variable{prog:g8}{w:f7}{A:i5}{E:EQ}{s:d6}
theorem Gh(Z:N7 s.heap t vs.toArray)(L:N7 s.heap b ws.toArray)(U:vs ≠ [])
 (z:ws=[]->Q (.ref t) s) (J:ws ≠ []->Q (.ref s.heap.objs.size) {s with heap:=s.heap.push {cls:=.type "tuple",data:=.seq (vs++ws).toArray}})
 (hsz:vs.length+ws.length<=el):wpAny (d9 prog w) A (xg .Add (.ref t)<|.ref b) Q E s:=by
 obtain⟨⟨cls,i,data,l⟩,I,Y,n,j⟩:=id Z;obtain⟨⟨m,d,data2,f⟩,O,g,k,h⟩:=id L;simp only at Y j g h;subst Y j g h;have e:vs.toArray++ws.toArray=(vs++ws).toArray:=by simp
 by_cases a:ws=[]
 ·exact Sa ⟨_,I,rfl⟩ ⟨_,O,rfl⟩ Sd UP Pd Pb (OM _ _)
   (tuple_addW1 t b vs.toArray ws.toArray n k i d l f (by simpa using U)<|by simp[a]) ⟨I,O,z a⟩
 ·refine Sa ⟨_,I,rfl⟩ ⟨_,O,rfl⟩ Sd UP Pd Pb (OM _ _)
   (tuple_addW2 t b vs.toArray ws.toArray n k i d l f (by simpa using U) (by simpa using a)<|by rw[IL,IL];exact hsz) ⟨I,O,?_⟩
  rw[e];exact J a
noncomputable def dj(n d:Nat):Option Int->Nat
 |none=>d
 |some v=>if v<0 then (v+(n:Int)).toNat else min v.toNat n
theorem Aw(n d:Nat)(z:d<=n)(o:Option Int):dj n d o<=n:=by
 cases o with
 |none=>exact z
 |some v=>
  show(if v<0 then (v+(n:Int)).toNat else min v.toNat n)<=n;by_cases I:v<0
  ·rw[UJ I];omega
  ·rw[UY I];exact RR _ _
theorem gW(v:Int)(n d:Nat):(if v<0 then max (v+(n:Int)) 0 else min v (n:Int))=((dj n d (cq v):Nat):Int):=by
 show(if v<0 then max (v+(n:Int)) 0 else min v (n:Int))=(((if v<0 then (v+(n:Int)).toNat else min v.toNat n):Nat):Int);by_cases I:v<0
 ·simp only[UJ I];omega
 ·simp only[UY I];omega
theorem cO(lo z:Option Int)(n:Nat):Oj lo z 1 (n:Int)=(((dj n 0 lo:Nat):Int),((dj n n z:Nat):Int)):=by
 have a:¬((1:Int)<0):=by omega
 unfold Oj;simp only[a,if_false];refine Prod.ext ?_ ?_
 ·cases lo with
  |none=>rfl
  |some v=>exact gW v n 0
 ·cases z with
  |none=>rfl
  |some v=>exact gW v n n
theorem bF(i j:Nat):Nt (i:Int) (j:Int) 1=j-i:=by
 unfold Nt;have a:(1:Int)>0:=by omega
 simp only[a,if_true,Int.ediv_one];split<;>omega
theorem Xk(p:Dv v o)(h:Q o s):wpAny (d9 prog w) A (Builtin.Slice.slicePartIndex v) Q E s:=by
 cases p with
 |none=>exact slicePart_none h
 |int i t=>exact slicePart_int h
theorem ZU{J:dv}{I O:dy}{lo z:Option Int}{n:Nat}{Q:Int×Int×Nat->d6->Prop}(hs:s.heap.IsSliceOf J I O .none)(L:Dv I lo)(Z:Dv O z)
 (h:Q (((dj n 0 lo:Nat):Int),1,dj n n z-dj n 0 lo) s):wpAny (d9 prog w) A (Builtin.Slice.sliceApplied (.ref J)<|pure (n:Int)) Q E s:=by
 obtain⟨os,U,a,Y⟩:=id hs;unfold Builtin.Slice.sliceApplied Builtin.Slice.sliceFields;refine Iz<|Iz<|LI U Y (x:=I) rfl<|Iz<|LI U Y (x:=O) rfl<|Iz<|LI U Y (x:=.none) rfl<|IH ?_;refine Iz<|slicePart_none ?_;show wpAny _ _ (if ((1:Int)==0)=da then _ else _) _ _ s;rw[UY ⋯];refine Iz<|Xk L<|Iz<|Xk Z<|Iz<|IH ?_;show wpAny _ _ (match Oj lo z 1 (n:Int)with|(lo,z)=>pure (lo,(1:Int),Nt lo z 1)) _ _ s;rw[cO lo z n];show wpAny _ _ (pure (((dj n 0 lo:Nat):Int),(1:Int),Nt ((dj n 0 lo:Nat):Int) ((dj n n z:Nat):Int) 1)) _ _ s;rw[bF];exact IH h
theorem lS(xs:Array dy)(i k:Nat):((IA k).filterMap λ(m:Nat)=>xs[((i:Int)+(m:Int)*1).toNat]?).toArray=((xs.toList.drop i).take k).toArray:=by
 have e:(λ(m:Nat)=>xs[((i:Int)+(m:Int)*1).toNat]?)=λm=>xs[i+m]? :=by
  funext m;have:((i:Int)+(m:Int)*1).toNat=i+m:=by omega
  rw[this]
 rw[e];have:=pick_run xs i k;rw[List.filterMap_map]at this;have I:((λx=>xs[x]?)∘λx=>i+x)=λm=>xs[i+m]? :=rfl;rw[I]at this;rw[this]
theorem cu{t J:dv}{items:Array dy}{U Y:dy}{lo z:Option Int}{Q:EQ}(I:N7 s.heap t items)(hs:s.heap.IsSliceOf J U Y .none)(Z:Dv U lo)(pu:Dv Y z)
 (L:¬(dj items.size 0 lo=0/\dj items.size items.size z=items.size))
 (h:Q (.ref s.heap.objs.size) {s with heap:=s.heap.push {cls:=.type "tuple",data:=.seq ((items.toList.drop (dj items.size 0 lo)).take (dj items.size items.size z-dj items.size 0 lo)).toArray}})
 (hsz:items.size<=el):wpAny (d9 prog w) A (DF (.ref t)<|.ref J) Q E s:=by
 have O:sizeOk (.seq ((items.toList.drop<|dj items.size 0 lo).take (dj items.size items.size z-dj items.size 0 lo)).toArray):=by show((items.toList.drop<|dj items.size 0 lo).take (dj items.size items.size z-dj items.size 0 lo)).toArray.size<=el;rw[IL,NG,List.length_drop,MG];omega
 have g:dj items.size items.size z<=items.size:=Aw _ _ (II _) z;obtain⟨os,a,b,f⟩:=id hs;have d:s.TypeIs (.ref J) "slice":=⟨os,a,b⟩;unfold DF
 try with_reducible refine Mq ?_
 first|refine Iz (IH ?_)|skip
 refine Iz (_m I.typeIs ⋯ ?_);refine Iz (LC (name:=Lw "__getitem__") I.typeIs Mg
  (Me Mg I.typeIs entry_tuple_getitem ?_ (D' _ _)))
 show wpAny _ _ (Builtin.Tuple.tupleItemsOf (.ref t) >>= _) _ _ s;refine Iz<|PF I ?_;refine Iz<|NY d ?_;rw[UJ ⋯];refine Iz<|ZU hs Z pu ?_;have e:¬((((dj items.size 0 lo:Nat):Int)==0&&(1:Int)==1&&(dj items.size items.size z-dj items.size 0 lo)==items.size)=da):=by intro q;rw[IK,IK]at q;have i:((dj items.size 0 lo:Nat):Int)=0:=eq_of_beq q.1.1;have j:dj items.size items.size z-dj items.size 0 lo=items.size:=eq_of_beq q.2;exact L ⟨by omega,by omega⟩
 show wpAny _ _ (if (((dj items.size 0 lo:Nat):Int)==0&&(1:Int)==1&&(dj items.size items.size z-dj items.size 0 lo)==items.size)=da then _ else _) _ _ s;rw[UY e,lS]
 first
  |exact Iz (m:=MD _)<|Mp (IH ⟨_,rfl,IH h⟩) O
  |exact Iz (m:=MD _)<|Mp (Iz<|IH<|IH ⟨_,rfl,IH h⟩) O
  |exact Iz<|Iz (m:=MD _)<|Mp (IH<|IH ⟨_,rfl,IH h⟩) O
  |exact Iz<|Iz (m:=MD _)<|Mp (IH ⟨_,rfl,IH h⟩) O
end
end HT
namespace L2
open PySem PySem.Spec PyProof.Rows
abbrev TO:=St->Hp->(Option Int->Hp->Prop)->Prop
noncomputable def PO(X:Cx)(e:Option ec)(t:TO):Prop:=
 ∀(a:UQ) (s:d6) (b:St) (H:Hp) (Q:Option Int->Hp->Prop),Inv X a b H s->t b H Q->
  wpAny (d9 X.prog X.w) X.A (evalPart e X.env) (λu f=>∃o d,Inv X a b d f/\Dv u o/\Q o d) X.xe s
noncomputable def rf:TO:=λ_ H Q=>Q none H
noncomputable def EV(t:TE):TO:=λb H Q=>t b H λx a=>∃i,x=.int i/\Q (cq i) a
section
variable{X:Cx}{e:ec}{te:TE}{lo hi:Option ec}{tl th:TO}{pos p2:fh}
theorem sD:PO X none rf:=by intro a s b H Q I h;rw[evalPart_none];exact IH ⟨none,H,I,.none,h⟩
theorem sC(h:PE X e te):PO X (cq e) (EV te):=by intro a s g H Q I d;rw[evalPart_some];refine eK (h a s g H _ I d) λu j O=>?_;obtain⟨x,b,U,Y,f⟩:=O;obtain⟨i,rfl,q⟩:=f;obtain⟨t,rfl⟩:=Y;exact⟨cq i,b,U,.int i t,q⟩
noncomputable def Sg(X:Cx)(r:V->Option Int->Option Int->Hp->VK->Prop):Prop:=
 ∀(a:UQ) (s:d6) (d:St) (H:Hp) (x:V) (v I O:dy) (lo hi:Option Int) (b:dv) (Q:VK),Inv X a d H s->RelV x v->s.heap.IsSliceOf b I O .none->Dv I lo->Dv O hi->r x lo hi H Q->
  ∃T id,N3 (.type T) "__getitem__" = pure (cq (.builtin id))/\s.TypeIs v T/\wpAny (d9 X.prog X.w) X.A (DF v (.ref b)) (EP X a d Q) X.xe s
noncomputable def Y'(r:V->Option Int->Option Int->Hp->VK->Prop)(te:TE)(tl th:TO):TE:=λa H Q=>te a H λx b=>tl a b λl d=>th a d λu I=>r x l u I Q
theorem W1(L:Sg X r)(z:PE X e te)(J:PO X lo tl)(Z:PO X hi th):PE X (.Subscript e (.Slice lo hi none p2) pos) (Y' r te tl th):=by intro a s d H Q I h;refine Ur (eK (z a s d H _ I h) λv M p=>?_);obtain⟨x,g,j,K,E⟩:=p;refine wpAny_Slice (eK (J a M d g _ j E) λU N ⟨l,i,k,B,F⟩=>eK (Z a N d i _ k F) λY O ⟨u,f,m,C,G⟩=>?_);rw[evalPart_none];refine IH ?_;have n:Inv X a d f {O with heap:=O.heap.push {cls:=.type "slice",data:=.fields #[U,Y,.none]}}:=m.kept (t':=O.toks) λb P q=>IB _ q;obtain⟨T,id,o,y,t⟩:=L a {O with heap:=O.heap.push {cls:=.type "slice",data:=.fields #[U,Y,.none]}} d f x v U Y l u O.heap.objs.size Q n K (Heap.IsSliceOf.new ..) B C G;show wpAny (d9 X.prog X.w) X.A (US e (.Slice lo hi none p2) v (.ref O.heap.objs.size)) (EP X a d Q) X.xe {O with heap:=O.heap.push {cls:=.type "slice",data:=.fields #[U,Y,.none]}};exact tail_any (ops:=[.ref O.heap.objs.size,v]) y o t (by with_unfolding_all rfl)
noncomputable def uo(xs:List V)(lo hi:Option Int):List V:=(xs.drop<|HT.dj xs.length 0 lo).take (HT.dj xs.length xs.length hi-HT.dj xs.length 0 lo)
theorem Wb(xs:List V)(lo hi:Option Int):(uo xs lo hi).length<=xs.length:=by unfold uo;rw[NG,List.length_drop];omega
noncomputable def HR(K:Iy):V->Option Int->Option Int->Hp->VK->Prop:=λx lo hi H Q=>∃a b,x=.ref a/\gR K H a b/\
 ¬(HT.dj b.length 0 lo=0/\HT.dj b.length b.length hi=b.length)/\∀p,H p=none->Q (.ref p) (upd H p<|.tup<|uo b lo hi)
theorem Ap:Sg X (HR X.K):=by
 intro g s w H x v t u lo hi p Q I Y i l m h;obtain⟨a,d,rfl,k,j,q⟩:=h;cases Y;obtain⟨e,r,U,f⟩:=I.tuple k;have O:e.toArray.size=d.length:=by rw[IL];exact r.length.symm
 refine⟨"tuple",_,Mg.lookup,U.typeIs,?_⟩;refine HT.cu U i l m (by rw[O];exact j) ?_ (by rw[O];exact f);rw[O];refine⟨.ref s.heap.objs.size,_,I.laid (t':=s.toks) (o:=.tup (uo d lo hi)) (λb n q=>IB _ q) (II _) ?_,rfl,q _ (I.ej.fresh (II _))⟩;exact⟨LG (Wb d lo hi) f,_,(r.drop (HT.dj d.length 0 lo)).take (HT.dj d.length d.length hi-HT.dj d.length 0 lo),B0.new _ _⟩
theorem eL.SD(r:eL xs us):us=[]↔xs=[]:=by
 cases r with
 |nil=>simp
 |cons _ _=>simp
end
noncomputable def F7(n:Nat)(i:Int):Option Nat:=if 0<=i then (if i<n then cq i.toNat else none)else if -(n:Int)<=i then cq (i+n).toNat else none
noncomputable def DX{z:Type}(xs:List z)(i:Int):Option z:=(F7 xs.length i).bind λj=>xs[j]?
theorem fZ(h:F7 n i=cq j):seqIndex? i n=cq j/\j<n/\ -(n:Int)<=i/\i<n:=by
 unfold F7 at h;by_cases b:0<=i
 ·rw[UJ b]at h
  by_cases a:i<n
  ·rw[UJ a]at h
   have e:i.toNat=j:=LN h;exact⟨by rw[UO b a,e],by omega,by omega,a⟩
  ·rw[UY a]at h;cases h
 ·rw[UY b]at h
  by_cases a : -(n:Int)<=i
  ·rw[UJ a]at h
   have e:(i+n).toNat=j:=LN h;exact⟨by rw[UN ⋯ a,e],by omega,a,by omega⟩
  ·rw[UY a]at h;cases h
theorem Wg(h:DX xs i=cq v):∃j,seqIndex? i xs.length=cq j/\xs[j]? = cq v/\j<xs.length/\ -(xs.length:Int)<=i/\i<xs.length:=by
 unfold DX at h;cases e:F7 xs.length i with
 |none=>rw[e]at h;cases h
 |some j=>
  rw[e]at h;obtain⟨a,b,I,O⟩:=fZ e;exact⟨j,a,h,b,I,O⟩
noncomputable def Wk(b:ec):Prop:=∀o i,T5 b di o i=operate [o,i] (DF o i)
noncomputable def DV(X:Cx)(r:R2):Prop:=
 ∀(b I:ec) (a:UQ) (s:d6) (d:St) (H:Hp) (x y:V) (v u:dy) (Q:VK),Inv X a d H s->RelV x v->RelV y u->r x y H Q->
  T5 I di v u=operate [v,u] (DF v u)->wpAny (d9 X.prog X.w) X.A (US b I v u) (EP X a d Q) X.xe s
noncomputable def N9(X:Cx)(id:String)(r:V->List V->Hp->VK->Prop):Prop:=
 ∀(a:UQ) (s:d6) (e:St) (H:Hp) (x:V) (d:List V) (v:dy) (b:List dy) (Q:VK),Inv X a e H s->RelV x v->eL d b->r x d H Q->
  wpAny (d9 X.prog X.w) X.A (call (.builtin id) (v::b)) (EP X a e Q) X.xe s
section
variable{X:Cx}{a b:ec}{ta tb:TE}{pos:fh}
theorem DV.or(h:DV X r)(h':DV X r'):DV X (λx y H Q=>r x y H Q\/r' x y H Q):=by
 intro a O b s e H x y v u Q I U Y q d;rcases q with q|q
 ·exact h a O b s e H x y v u Q I U Y q d
 ·exact h' a O b s e H x y v u Q I U Y q d
theorem Bj(O:DV X r)(z:PE X a ta)(U:PE X b tb)(hs:Wk b):PE X (.Subscript a b pos) (R3 r ta tb):=by intro d s j H Q I h;exact Ur<|Gi z U I h λv u i x y e Y f g q=>O a b d i j e x y v u Q Y f g q<|hs _ _
noncomputable def HW(K:Iy):R2:=λx y H Q=>∃p a i v,x=.ref p/\y=.int i/\gv K H p a/\DX a i=cq v/\Q v H
noncomputable def HU(K:Iy):R2:=λx y H Q=>∃p a i v,x=.ref p/\y=.int i/\gR K H p a/\DX a i=cq v/\Q v H
noncomputable def HV:R2:=λx y H Q=>∃z i c,x=.str z/\y=.int i/\z.length<=el/\DX z.cps.toList i=cq c/\Q (.str ⟨#[c]⟩) H
theorem O':DV X (HW X.K):=by
 intro e L a s l H x y v u Q I F G h k;obtain⟨p,R,i,z,rfl,rfl,E,B,q⟩:=h;cases F;obtain⟨t,rfl⟩:=G;obtain⟨d,r,O,P⟩:=I.list E;obtain⟨j,b,n,M,o,A⟩:=Wg B;obtain⟨w,Y,m⟩:=r.get n;have C:=r.length;have N:=JW;have f:EP X a l Q w s:=⟨z,H,I,m,q⟩;by_cases g:0<=i
 ·have U:i.toNat=j:=by
   rw[UO g A]at b;exact LN b
  exact item_listR O.isList g ⋯ (by rw[U];simpa using Y) f k
 ·have U:(i+(d.toArray.size:Int)).toNat=j:=by
   rw[UN ⋯ o]at b;rw[IL,<-C];exact LN b
  exact X' (x:=w) O.isList.typeIs slot_list_getitem.lookup
   (wpAny_getItem_list_neg (Q:=λr J=>r=w/\EP X a l Q r J) O.isList ⋯ (by rw[IL]<;>omega) ⋯ (by rw[U];simpa using Y) ⟨rfl,f⟩) k
theorem Ca:DV X (HU X.K):=by
 intro b E a s d H x y v u Q I U Y h A;obtain⟨p,N,i,z,rfl,rfl,o,m,q⟩:=h;cases U;obtain⟨t,rfl⟩:=Y;obtain⟨B,r,O,M⟩:=I.tuple o;obtain⟨j,k,l,F,G,J⟩:=Wg m;obtain⟨w,g,e⟩:=r.get l;have n:=r.length;have L:=JW;have f:EP X a d Q w s:=⟨z,H,I,e,q⟩;exact X' (x:=w) O.typeIs slot_tuple_getitem.lookup
  (getItem_tuple (j:=j) (Q:=λr C=>r=w/\EP X a d Q r C) O ⋯ ⋯ (by rw[IL,<-n];exact k) (by simpa using g) ⟨rfl,f⟩) A
theorem Cb:DV X HV:=by
 intro a o d s B H x y v u Q I O U h n;obtain⟨z,i,c,rfl,rfl,w,Y,q⟩:=h;obtain⟨t,rfl⟩:=O;obtain⟨A,rfl⟩:=U;obtain⟨j,b,g,p,k,l⟩:=Wg Y;have m:z.cps.toList.length=z.length:=by simp[Str.length]
 rw[m]at b k l;have r:=JW;exact tail_any (RY s z t) slot_str_getitem.lookup (getItem_str (c:=c) (by
  have e:decide (i < -(2^63:Int))=di:=decide_eq_false ⋯;have f:decide (i>=2^63)=di:=decide_eq_false ⋯;rw[e,f,Bool.or_false]) (by rw[b];simpa using g) ⟨.str ⟨#[c]⟩,H,I.tok _,⟨_,rfl⟩,q⟩) n
theorem bT(its:List dy)(n j:Nat)(u:dy):LM (·.setIfInBounds j u) {cls:=.type "list",data:=.seq its.toArray n} = {cls:=.type "list",data:=.seq (its.set j u).toArray n}:=by simp[LM]
theorem Inv.lst(I:Inv X pins σ H s)(h:H p=cq (.lst xs)):
 ∃(its:List dy) (n:Nat),eL xs its/\s.heap.get? p=cq {cls:=.type "list",data:=.seq its.toArray n}/\xs.length<=el:=by
 obtain⟨z,its,n,r,e⟩:=I.ej p _ h;exact⟨its,n,r,e,z⟩
theorem Inv.P'{z:UQ}{L:St}{H:Hp}{s:d6}{p:dv}{xs ys:List V}{its its':List dy}{n n':Nat}{f:jn->jn}(I:Inv X z L H s)(h:H p=cq (.lst xs))
 (O:s.heap.get? p=cq {cls:=.type "list",data:=.seq its.toArray n}) (J:f {cls:=.type "list",data:=.seq its.toArray n} = {cls:=.type "list",data:=.seq its'.toArray n'}) (r:eL ys its') (hz:ys.length<=el) (t:Nat):
 Inv X z L (upd H p<|.lst ys) {s with heap:=s.heap.update p f,toks:=t}:=by
 have e:(s.heap.update p f).get? p=cq {cls:=.type "list",data:=.seq its'.toArray n'}:=by rw[Mj f O (by rw[J]<;>rfl),J]
 refine I.write (x:=p) (e:=p) (by rw[h];trivial) (.inl rfl) (λb u U q=>(Le _ _<|LD U).trans q) ⟨_,e⟩ ?_;exact⟨hz,its',n',r,e⟩
noncomputable def Fi:V->V->V->Hp->(Hp->Prop)->Prop:=λo i v H Q=>∃p a k j,o=.ref p/\i=.int k/\H p=cq (.lst a)/\F7 a.length k=cq j/\Q (upd H p<|.lst<|a.set j v)
theorem lq:HA X Fi:=by
 intro b s C H o i v J G u Q I z y A h;obtain⟨p,B,k,j,rfl,rfl,m,w,q⟩:=h;cases z;obtain⟨t,rfl⟩:=y;obtain⟨a,n,r,O,x⟩:=I.lst m;obtain⟨d,E,g,l⟩:=fZ w;have U:=r.length;have F:=JW;have e:Inv X b C (upd H p<|.lst<|B.set j v) {s with heap:=s.heap.update p (LM (·.setIfInBounds j u))}:=
  I.P' m O (bT a n j u) (r.set A j) (by rw[List.length_set];exact x) s.toks
 by_cases f:0<=k
 ·have Y:k.toNat=j:=by
   rw[UO f l]at d;exact LN d
  exact PySem.W.ki_setAt O f ⋯ (by rw[IL,<-U];exact l) (by rw[Y];exact⟨_,e,q⟩)
 ·have Y:(k+(a.toArray.size:Int)).toNat=j:=by
   rw[UN ⋯ g]at d;rw[IL,<-U];exact LN d
  exact PySem.W.ki_setBack O ⋯ (by rw[IL,<-U];exact g) ⋯ (by rw[Y];exact⟨_,e,q⟩)
noncomputable def Kx:V->Bool
 |.d7=>da
 |.bl _=>da
 |.int _=>da
 |.str _=>da
 |_=>di
noncomputable def DD:V->V->Bool
 |.d7,.d7=>da
 |.bl a,.bl b=>a==b
 |.bl a,.int b=>(if a then 1 else 0)==b
 |.int a,.bl b=>a==(if b then 1 else 0)
 |.int a,.int b=>a==b
 |.str a,.str b=>a==b
 |_,_=>di
theorem Cr(O:RelV y u)(I:RelV x v)(U:Kx y=da)(z:Kx x=da):Mf A s u v (DD y x):=by
 cases y with
 |d7=>
  cases O;cases x with
  |d7=>cases I;exact Mf.same _
  |bl b=>cases I;exact Mf.none_bool b
  |int b=>obtain⟨t,rfl⟩:=I;exact Mf.none_int b t
  |str b=>obtain⟨t,rfl⟩:=I;exact Mf.none_str b t
  |_=>exact absurd (show di=da from z) Lb
 |bl a=>
  cases O;cases x with
  |d7=>cases I;exact Mf.bool_none a
  |bl b=>cases I;exact Mf.bool_bool a b
  |int b=>obtain⟨t,rfl⟩:=I;exact Mf.bool_int a b t
  |str b=>obtain⟨t,rfl⟩:=I;exact Mf.bool_str a b t
  |_=>exact absurd (show di=da from z) Lb
 |int a=>
  obtain⟨d,rfl⟩:=O;cases x with
  |d7=>cases I;exact Mf.int_none a d
  |bl b=>cases I;exact Mf.int_bool a d b
  |int b=>obtain⟨t,rfl⟩:=I;exact Um a d b t
  |str b=>obtain⟨t,rfl⟩:=I;exact Mf.int_str a d b t
  |_=>exact absurd (show di=da from z) Lb
 |str a=>
  obtain⟨d,rfl⟩:=O;cases x with
  |d7=>cases I;exact Mf.str_none a d
  |bl b=>cases I;exact Mf.str_bool a d b
  |int b=>obtain⟨t,rfl⟩:=I;exact Mf.str_int a d b t
  |str b=>obtain⟨t,rfl⟩:=I;exact Mf.str_str a d b t
  |_=>exact absurd (show di=da from z) Lb
 |_=>exact absurd (show di=da from U) Lb
noncomputable def DC(x:V)(u:dy):Bool:=match u with
 |.none=>DD .d7 x
 |.bool b=>DD (.bl b) x
 |.int i _=>DD (.int i) x
 |.str z _=>DD (.str z) x
 |_=>di
theorem pk(r:RelV y u)(f:Kx y=da):DC x u=DD y x:=by
 cases y with
 |d7=>cases r;rfl
 |bl b=>cases r;rfl
 |int i=>obtain⟨t,rfl⟩:=r;rfl
 |str z=>obtain⟨t,rfl⟩:=r;rfl
 |_=>exact absurd (show di=da from f) Lb
theorem Wi:∀{xs:List V} {us:List dy},eL xs us->xs.all Kx=da->us.any (DC x)=xs.any λy=>DD y x
 |_,_,.nil,_=>rfl
 |y::xs,u::us,.cons r t,f=>by rw[Pk,IK]at f;rw[Pj,Pj,pk r f.1,Wi t f.2]
theorem Ko(O:RelV x v)(z:Kx x=da):∀{xs:List V} {us:List dy},eL xs us->xs.all Kx=da->∀u∈us,Mf A s u v (DC x u)
 |_,_,.nil,_=>λu I=>by cases I
 |y::xs,u::us,.cons r t,f=>λU I=>by
  rw[Pk,IK]at f;rcases IM.mp I with rfl|I
  ·rw[pk r f.1];exact Cr r O f.1 z
  ·exact Ko O z t f.2 U I
noncomputable def Sv(x:V)(xs:List V):Bool:=xs.any λy=>DD y x
noncomputable def U_(K:Iy)(I:Bool):R2:=λx y H Q=>∃p a,y=.ref p/\(gv K H p a\/gR K H p a)/\Kx x=da/\a.all Kx=da/\Q (.bl<|if I then !Sv x a else Sv x a) H
theorem YC:kr X (ri .NotIn) (U_ X.K da):=by
 intro e s j H x y v u Q I Y g h;obtain⟨p,i,rfl,O,d,fs,q⟩:=h;cases g;rcases O with O|O
 ·obtain⟨a,r,U,f⟩:=I.list O
  refine SeqAt.notIn_listAt (DC x) U.isList (λw b=>Ko Y d r fs w<|by simpa using b) ⟨.bl _,H,I,rfl,?_⟩;rw[show a.toArray.any (DC x)=a.any (DC x)by simp,Wi r fs];exact q
 ·obtain⟨a,r,U,f⟩:=I.tuple O
  refine SeqAt.notIn_tupleAt (DC x) U (λw b=>Ko Y d r fs w<|by simpa using b) ⟨.bl _,H,I,rfl,?_⟩;rw[show a.toArray.any (DC x)=a.any (DC x)by simp,Wi r fs];exact q
theorem Vk:QM X (.builtin "len") (λxs H Q=>∃p ys,xs=[.ref p]/\(gv X.K H p ys\/gR X.K H p ys)/\Q (.int ys.length) H):=by
 intro d s j H xs i Q I r h;obtain⟨p,ys,rfl,O,q⟩:=h;obtain⟨u,rfl,f⟩:=yx r;cases f;have g:=JW;rcases O with O|O
 ·obtain⟨a,b,U,e⟩:=I.list O
  have Y:=b.length;exact Calls.call_len_list U.isList (by simp only[IL]<;>omega) ⟨.int ys.length,H,I.tok _,⟨s.toks+1,by rw[IL,Y]⟩,q⟩
 ·obtain⟨a,b,U,e⟩:=I.tuple O
  have Y:=b.length;exact len_tuple U (by simp only[IL]<;>omega) ⟨.int ys.length,H,I.tok _,⟨s.toks+1,by rw[IL,Y]⟩,q⟩
theorem Vj:QM X (.builtin "len") (λxs H Q=>∃z,xs=[.str z]/\z.length<=el/\Q (.int z.length) H):=by intro a s f H xs e Q I r h;obtain⟨z,rfl,d,q⟩:=h;obtain⟨u,rfl,t,rfl⟩:=yx r;have b:=JW;exact len_str ⋯ ⟨.int z.length,H,I.tok _,⟨_,rfl⟩,q⟩
theorem Vi:QM X (.type "list") (λxs H Q=>∃p ys,xs=[.ref p]/\(gv X.K H p ys\/gR X.K H p ys)/\∀l,H l=none->Q (.ref l) (upd H l (.lst ys))):=by
 intro j s B H xs C Q I r h;obtain⟨p,ys,rfl,U,q⟩:=h;obtain⟨u,rfl,A⟩:=yx r;cases A;have x:∀(a:List dy),eL ys a->ys.length<=el->∀(d:eh) (O:Nat),(∀b y,s.heap.get? b=cq y->d.get? b=cq y)->
  d.get? s.heap.objs.size=cq {cls:=.type "list",dict:=none,data:=.seq a.toArray O,slots:=#[]}->EP X j B Q (.ref s.heap.objs.size) {s with heap:=d}:=λa f g d O i e=>
  ⟨.ref s.heap.objs.size,_,I.laid (t':=s.toks) i (II _) (show j1 X.prog X.w _ d _ (.lst ys)from⟨g,a,O,f,e⟩),rfl,q _<|I.ej.fresh<|II _⟩
 rcases U with U|U
 ·obtain⟨a,f,Y,g⟩:=I.list U
  have z:=f.length;obtain⟨o,t,k,n,m⟩:=Y.isList;exact call_list_seq p (.inl rfl) t k m (λd O i e=>x a f g d O i e) (by simp only[IL]<;>omega)
 ·obtain⟨a,f,Y,g⟩:=I.tuple U
  have z:=f.length;obtain⟨o,t,k,n,m⟩:=Y;exact call_list_seq p (.inr rfl) t k m (λd O i e=>x a f g d O i e) (by simp only[IL]<;>omega)
theorem KL:QM X (.type "tuple") (λxs H Q=>∃p ys,xs=[.ref p]/\((gv X.K H p ys/\∀l,H l=none->Q (.ref l) (upd H l (.tup ys)))\/(gR X.K H p ys/\Q (.ref p) H))):=by
 intro a s j H xs x Q I r h;obtain⟨p,ys,rfl,h⟩:=h;obtain⟨u,rfl,n⟩:=yx r;cases n;rcases h with⟨O,q⟩|⟨O,q⟩
 ·obtain⟨d,g,U,i⟩:=I.list O
  have t:=g.length;refine call_tuple_list U.isList (λf m=>?_) (by simp only[IL]<;>omega);have Y:Inv X a j H {s with heap:=f}:=I.kept (t':=s.toks) m;have k:Inv X a j (upd H f.objs.size (.tup ys)) {s with heap:=f.push {cls:=.type "tuple",data:=.seq d.toArray}}:=
   Y.laid (t':=s.toks) (λb o e=>IB _ e) (II _) (show j1 X.prog X.w _ _ _ (.tup ys)from⟨i,d,g,B0.new _ _⟩)
  exact⟨.ref f.objs.size,_,k,rfl,q _<|Y.ej.fresh<|II _⟩
 ·obtain⟨d,g,U,i⟩:=I.tuple O
  exact call_tuple_same U ⟨.ref p,H,I,rfl,q⟩
noncomputable def U7(K:Iy)(T:String)(x:V)(H:Hp):Prop:=match x with
 |.str _=>T = "str"
 |.int _=>T = "int"
 |.ref p=>(T = "list"/\∃b,gv K H p b)\/(T = "tuple"/\∃o,K.lookup p=cq o/\o.cls=.type "tuple"/\o.dict=none)\/
  (T = "dict"/\((∃a,H p=cq (.dK a))\/∃a,H p=cq (.dT a)))\/(T = "set"/\∃S n,H p=cq (.set S n))
 |_=>False
theorem Ab(I:Inv X pins σ H s)(r:RelV x v)(ty:U7 X.K T x H):
 s.TypeIs v T/\∀a,v=.ref a->∃Y,s.heap.get? a=cq Y/\Y.dict=none:=by
 cases x with
 |str z=>
  obtain⟨t,rfl⟩:=r;cases (show T = "str" from ty);exact⟨RY s z t,λ_ e=>nomatch e⟩
 |int i=>
  obtain⟨t,rfl⟩:=r;cases (show T = "int" from ty);exact⟨RZ s i t,λ_ e=>nomatch e⟩
 | ref p=>
  cases r;rcases ty with⟨rfl,l,j⟩|⟨rfl,o,O,h,d⟩|⟨rfl,O⟩|⟨rfl,S,n,O⟩
  ·obtain⟨k,_,g,_⟩:=I.list j
   refine⟨g.isList.typeIs,λa e=>?_⟩;cases e;obtain⟨o,n,e,c,d,_⟩:=g;exact⟨o,e,d⟩
  ·refine⟨⟨o,I.l7 p o O,h⟩,λa e=>?_⟩
   cases e;exact⟨o,I.l7 _ o O,d⟩
  ·have z:∃o,s.heap.get? p=cq o/\o.ExactDict:=by
    rcases O with⟨f,O⟩|⟨f,O⟩
    ·obtain⟨_,_,_,_,o,_,_,e,b,_⟩:=I.ej p _ O
     exact⟨o,e,b⟩
    ·obtain⟨_,_,_,_,o,_,_,e,b,_⟩:=I.ej p _ O
     exact⟨o,e,b⟩
   obtain⟨o,e,b⟩:=z;refine⟨⟨o,e,b.1⟩,λa U=>?_⟩;cases U;exact⟨o,e,b.2.1⟩
  ·obtain⟨o,_,_,_,e,b,_⟩:=I.ej p _ O
   refine⟨⟨o,e,b.1⟩,λa U=>?_⟩;cases U;exact⟨o,e,b.2.1⟩
 |_=>exact Nd ty
noncomputable def UU(K:Iy)(T:String)(r:V->List V->Hp->VK->Prop)(to:TE)(t:TA):TE:=λb H Q=>to b H λx a=>U7 K T x a/\t b a λe d=>r x e d Q
variable{o e:ec}{es:List ec}{to:TE}{t:TA}{name:Str}{apos cpos:fh}{T id:String}{r:V->List V->Hp->VK->Prop}
theorem VL(pa:PlainAttrs T)(z:Slot T name id)(J:typeOf (.builtin id)=pure (.type "method_descriptor"))(hm:N9 X id r)(ho:PE X o to)(ha:PA X (e::es) t)
 (L:L3 o name X.env (d8 o X.env)=d8 o X.env:=by rfl)
 (Z:((ow cpos<|starEach (e::es) X.env).all (λx=> !x.1)&&(E9 cpos<|keywordEach [] X.env).all (λx=>x.1.isSome)
   &&decide ((e::es).length+([]:List t7).length+(if ([]:List t7).isEmpty then 0 else 1)<30))=da:=by rfl)
 (a6:(apos.endLine==cpos.line)=da:=by rfl) (hs:eA (e::es) X.env=(di,d8 e X.env)::eA es X.env:=by rfl) (a7:(ow cpos<|starEach es X.env).any (·.1)=di:=by rfl):
 PE X (.Call (.Attribute o name apos) (e::es) [] cpos) (UU X.K T r to t):=by
 intro a s b H Q I h;refine wpAny_Call_method_late L Z a6 rfl<|eK (ho a s b H _ I h) λv p k=>?_;obtain⟨x,d,O,U,ty,l⟩:=k;obtain⟨i,j⟩:=Ab O U ty;refine⟨T,id,pa,z,J,i,j,?_⟩;have Y:=ha cpos a p b d _ O l;rw[hs]at Y ⊢;refine Calls.callWith_builtin (by show(di || (ow cpos<|starEach es X.env).any (·.1))=di;rw[a7]<;>rfl)<|Calls.evalArgs_plain ?_;exact eK Y λw u ⟨y,f,g,n,m⟩=>hm a u b f x y v w Q g U n m
end
noncomputable def S7(X:Cx)(id:String)(r:V->List V->Hp->VK->Prop):Prop:=
 ∀(a:UQ) (s:d6) (e:St) (H:Hp) (x:V) (d:List V) (v:dy) (b:List dy) (Q:VK),Inv X a e H s->RelV x v->eL d b->r x d H Q->
  wpAny (d9 X.prog X.w) X.A (call (.builtin id) (v::b)) (EP X a e Q) X.xe s
theorem eL.one:∀{x:V} {us:List dy},eL [x] us->∃u,us=[u]/\RelV x u
 |_,_,.cons r .nil=>⟨_,rfl,r⟩
theorem eL.rep(h:eL xs us):∀k:Nat,eL (IE k xs).flatten (IE k us).flatten
 |0=>.nil
 |k+1=>by rw[MU,MU,Nw,Nw];exact eL.append h<|eL.rep h k
theorem J6(its:List dy):∀(k:Nat) (acc:List dy),
 RF (λz I=>z++I) acc.toArray (IE k its.toArray)=(acc++(IE k its).flatten).toArray
 |0,acc=>by simp
 |k+1,acc=>by
  have e:acc.toArray++its.toArray=(acc++its).toArray:=by simp
  have O:(acc++its)++(IE k its).flatten=acc++(IE (k+1) its).flatten:=by rw[MU,Nw,List.append_assoc]
  rw[<-O,<-J6 its k (acc++its),<-e,MU,List.foldl_cons]
section
variable{X:Cx}{pins:UQ}{σ:St}{H:Hp}{s:d6}{l b:dv}{xs ys zs:List V}
theorem Inv.D1{its its':List dy}{n:Nat}{f:Array dy->Array dy}{t':Nat}(I:Inv X pins σ H s)(O:H l=cq (.lst xs))
 (e:s.heap.get? l=cq {cls:=.type "list",data:=.seq its.toArray n}) (z:f its.toArray=its'.toArray) (U:eL ys its') (hz:ys.length<=el):
 Inv X pins σ (upd H l<|.lst ys) {s with heap:=s.heap.update l<|LM f,toks:=t'}:=by
 have q:=PySem.IsL.update e f;rw[z]at q;refine I.write (x:=l) (e:=l) (by rw[O];exact trivial) (.inl rfl) (λb u Y a=>(Le s.heap (LM f)<|LD Y).trans a) ⟨_,q⟩ ?_;exact⟨hz,its',_,U,q⟩
theorem Inv.TL(I:Inv X pins σ H s)(O:eL ys its)(hz:ys.length<=el):
 Inv X pins σ (upd H s.heap.objs.size (.lst ys)) {s with heap:=s.heap.push {cls:=.type "list",data:=.seq its.toArray},toks:=t'}:=
 I.laid (λ_ _ q=>IB _ q) (II _) ⟨hz,its,0,O,IS _ rfl⟩
theorem Inv.fresh(I:Inv X pins σ H s):H s.heap.objs.size=none:=I.ej.fresh<|II _
theorem Inv.Dk(I:Inv X pins σ H s)(O:H l=cq (.lst xs)):xs.length<=el/\∃(its:List dy) (n:Nat),eL xs its/\xs.length=its.length/\s.heap.get? l=cq {cls:=.type "list",data:=.seq its.toArray n}:=by obtain⟨z,its,n,r,e⟩:=I.ej l _ O;exact⟨z,its,n,r,r.length,e⟩
theorem Kl(h:n<=el):MF n=di:=by unfold MF;exact decide_eq_false ⋯
end
section
variable{X:Cx}
noncomputable def eB:V->List V->Hp->VK->Prop:=λx b H Q=>∃l a y,x=.ref l/\b=[y]/\H l=cq (.lst a)/\a.length<el/\Q .d7 (upd H l<|.lst<|a++[y])
theorem fJ:S7 X "list.append" eB:=by intro b s m H x j v i Q I U Y h;obtain⟨l,k,y,rfl,rfl,O,g,q⟩:=h;cases U;obtain⟨u,rfl,d⟩:=Y.one;obtain⟨z,a,n,r,f,e⟩:=I.Dk O;refine Nm F.slot_list_append ⟨_,e,rfl⟩ F.entry_list_append (F.args_list_append_2 _ _) (PySem.list_append l a.toArray n u (by rw[IL];omega)) ⟨e,?_⟩;refine⟨.d7,_,I.D1 (its':=a++[u]) O e ⋯ (r.append (.cons d .nil)) ?_,rfl,q⟩;rw[Lz,MY];omega
noncomputable def rV:V->List V->Hp->VK->Prop:=λx e H Q=>∃l b a d,x=.ref l/\e=[.ref b]/\H l=cq (.lst a)/\H b=cq (.lst d)/\a.length+d.length<=el/\Q .d7 (upd H l<|.lst<|a++d)
theorem fH:S7 X "list.extend" rV:=by
 intro f s J H x B v A Q I Y p h;obtain⟨l,b,C,G,rfl,rfl,U,j,y,q⟩:=h;cases Y;obtain⟨u,rfl,o⟩:=p.one;cases o;obtain⟨z,a,n,r,w,e⟩:=I.Dk U;obtain⟨E,O,k,m,t,i⟩:=I.Dk j;have d:a.toArray.size+O.toArray.size<=el:=by rw[IL,IL];omega
 have g:¬(!a.toArray.isEmpty&&MF (a.toArray.size+O.toArray.size))=da:=by rw[Kl d,Bool.and_false];exact Lb
 refine Nm F.slot_list_extend ⟨_,e,rfl⟩ F.entry_list_extend (F.args_list_extend_2 _ _)
  (AutoSeq1.list_extend_list_list_0 l a.toArray n b O.toArray k g (by rw[IL];omega) ⋯) ⟨e,i,?_⟩
 refine⟨.d7,_,I.D1 (its':=a++O) U e ⋯ (r.append m) ?_,rfl,q⟩;rw[Lz];omega
noncomputable def HS:R2:=λx y H Q=>∃l k a,x=.ref l/\y=.int k/\H l=cq (.lst a)/\ -(2^63)<=k/\k<2^63/\a.length*k.toNat<=el/\
 ∀p,H p=none->Q (.ref p) (upd H p<|.lst (IE k.toNat a).flatten)
theorem VX(xs:List α)(k:Nat):(IE k xs).flatten.length=k*xs.length:=by
 induction k with
 |zero=>simp
 |succ k I=>rw[MU,Nw,Lz,I,OT,RK]
theorem Bx:kr X (xg .Mult) HS:=by
 intro g s N H x y v u Q I Y J h;obtain⟨l,k,M,rfl,rfl,E,B,C,f,q⟩:=h;cases Y;obtain⟨t,rfl⟩:=J;obtain⟨z,b,n,r,G,e⟩:=I.Dk E;have i:b.toArray.size*k.toNat<=el:=by rw[IL,<-G];exact f
 have j:¬b.toArray.size*k.toNat>(2^63-1)/8:=by
  have:(el:Nat)<=(2^63-1)/8:=by decide
  omega
 have o:¬(!Builtin.List.listFitsIndex k)=da:=by rw[fitsIndex_both B C];exact Lb
 have p:¬MF (b.toArray.size*k.toNat)=da:=by rw[Kl i];exact Lb
 have w:RF (λd O=>d++O) #[] (IE (if b.toArray.isEmpty=da then 0 else k.toNat) b.toArray)=(IE k.toNat b).flatten.toArray:=by
  have A:∀m:Nat,RF (λd O=>d++O) #[] (IE m b.toArray)=(IE m b).flatten.toArray:=λm=>by have:=J6 b m [];rw[NQ]at this;exact this
  rw[A];cases b with
  |nil=>simp
  |cons a L=>rw[UY ⋯]
 refine _g (T:="list") (U:="int") ⋯ ⟨_,e,rfl⟩ (λK=>RZ K k t) noFill_list_mul F.fills_int_mul PY repeat_list F.slot_int_index.lookup
  (Nm PY (RZ s k t) F.entry_int_rmul (F.args_int_rmul_2 _ _) (int___rmul___int_list k t l b.toArray n)
    ⟨e,rfl,⟨_,e,rfl⟩,Nm F.slot_list_mul ⟨_,e,rfl⟩ F.entry_list_mul (F.args_list_mul_2 _ _) (AutoListH.list___mul___list_int_3 l b.toArray n k t o j p) ⟨e,?_⟩⟩)
 rw[w];exact⟨.ref _,_,I.TL (t':=s.toks) (r.rep k.toNat) (by rw[VX,Nb];exact f),rfl,q _ I.fresh⟩
end
end L2
namespace Att
open PySem PySem.W PySem.Calls PyProof.Rows
theorem J0:∀(ns:List Int) (vs:List dy),WellAll P h vs (ns.map WData.int)->Sf vs ns:=by
 intro ns
 induction ns with
 |nil=>
  intro vs w;rw[RH]at w;cases w;exact .nil
 | cons n ns I=>
  intro vs w;rw[Lk]at w;cases w with
  |cons a b=>
   cases a;exact .cons _ _<|I _ b
theorem dE{l:OpenLaw}{n:Nat}(J:l.most=cq n){P:Params}{h:eh}{args:List WData}{U:List dy}
 (Y:l.row.toRowW.claim.pre args=da) (z:WellAll P h U args):
 ∃a vs ns,U=[Lr a]/\args=[WData.list (ns.map WData.int)]/\h.get? a=cq {cls:=.type "list",data:=.seq vs.toArray}/\Sf vs ns/\ns.length<=n:=by
 have e:WShape.hasAll [] args [.list .int]=da:=(pre_splitW Y).1;have b:l.pre.holds [] {args:=args}=da:=(pre_splitW Y).2;obtain⟨d,r,rfl,i,j⟩:=hasAllW_cons e;obtain rfl:=hasAllW_nil j;obtain⟨t,rfl,k⟩:=hasW_list i;obtain⟨ns,rfl⟩:=items_int k;have f:ns.length<=n:=by
  unfold OpenLaw.pre at b;have I:(WTm.not<|.lt (.lit<|.int (n:Int))<|.len<|.arg 0).holds [] {args:=[.list (ns.map .int)]}=da:=by have I:=(holds_andW b).1;rw[J]at I;exact I
  have O:=condW_of I<|w_not<|w_lt w_lit<|w_len_list<|w_arg rfl;rw[Lc]at O;refine Nat.le_of_not_lt λq=>?_;have o:(n:Int)<((ns.length:Nat):Int):=by omega
  first
   |(rw[decide_eq_true o]at O;exact absurd O ⋯)
   |(simp at O;omega)
 cases z with
 |cons p s=>
  cases s;cases p with
  |list m g=>exact⟨_,_,ns,rfl,rfl,m,J0 ns _ g,f⟩
theorem eW(l:OpenLaw)(args:List WData):l.row.toRowW.claim.post args (.bool da) args=da:=
 postW_of (r:=l.row.toRowW) (X:=(da==da))
  (show WShape.has [] (.bool da) .bool=da by first|rfl|decide|simp[WShape.has,WShape.arms,WShape.armsAll])
  (show(WTm.eq .res<|.lit<|.bool da).value [] {args:=args,res:=cq (.bool da),after:=args}=cq (.bool<|true==da)from w_eq_bool (w_res rfl) w_lit) rfl
theorem uB{l:OpenLaw}{n:Nat}{q:g8}{O:List Str}{U:(Str->Option dy)->eh->Prop}{YP:f7->eh->Prop}{d:DefRec}
 (hn:l.most=cq n) (a3:d.params.defaults=[])
 (call:∀(w:f7) (h7 I:d6) (Z mb:UZ) (J:dv) (o:jn) (pm L z:dy) (a:dv) (vs:List dy) (ns:List Int),
   Ground q O [] U w h7 Z mb I.heap->YP w I.heap->
   I.heap.get? J=cq o->o.data=.func (docDef d.name d.params d.body d.scope pm L z)->I.heap.CodeRec L d.name->Z d.name=cq (.ref J)->
   I.heap.get? a=cq {cls:=.type "list",data:=.seq vs.toArray}->Sf vs ns->ns.length<=n->I.gens = #[]->
   codeAny (d9 l.prog w) F5 (.call (.ref J) ⟨[.ref a],[]⟩) (λr s'=>r=.ok (.ret<|.bool da)/\OldK I.heap s'.heap/\s'.os=I.os/\Dn s'.gens) I):
 WalkO q O U YP l.row.toRowW d [] (λf vs=>PySem.call f vs):=by
 intro w h7 I Z mb G Y J o pm L z s kV C y g e h A b F as i H K j M;obtain rfl:s=.none:=Dflts.none e a3;obtain rfl:kV=.none:=Dflts.noKw e;obtain⟨a,vs,ns,rfl,rfl,k,m,p⟩:=dE hn i j;refine enter_call<|Ph (call w h7 I Z mb J o pm L z a vs ns G Y C (fd_plain y) g h k m p A) λr s' E=>?_;obtain⟨rfl,t,u,x⟩:=E;exact⟨.inl ⟨.bool da,.bool da,[],rfl,λ_=>rfl,.bool da,eW l _,λ_=>⟨Nx.nil,λ_ B=>(nomatch B)⟩⟩,t,u,x⟩
end Att
namespace L2
open PySem PySem.Spec PyProof.Rows
theorem K7:∀{vs:List dy} {ns:List Int},Sf vs ns->eL (ns.map V.int) vs
 |_,_,.nil=>.nil
 |_,_,.cons n t h=>.cons ⟨t,rfl⟩ (K7 h)
noncomputable def EM(H:Hp):Prop:=∀b,H b=none\/∃o a,H b=cq (.p8 o<|.lst a)
theorem mD{P:g8}{w:f7}{K:Iy}{J mb:UZ}{CX:wh}{k:Nat}{Z a:dv}{fd:rh}{x:Str}{sp:Sp}{I:d6}{vs:List dy}{ns:List Int}
 (KX:K.In I.heap) (a4:I.heap.Ns q7 J) (O:I.heap.Ns Uv mb) (ab:∀x:Str,x ≠ "__name__"->mb x=Dd x) (ac:I.heap.NoLimit) (hg:I.gens = #[])
 (L:I.heap.get? a=cq {cls:=.type "list",data:=.seq vs.toArray}) (hi:Sf vs ns) (hl:ns.length<=el) (hr:n9 k F5)
 (F:∀base:eh,K.In base->base.Ns q7 J->rb P w K J base CX k Z fd [x] sp) (al:∀(s:d6) (u:dy),R7 s fd ⟨[u],[]⟩ [(x,u)])
 (am:∀H:Hp,EM H->gv K H a (ns.map V.int)->sp [.ref a] H (λv _=>v=.bl da) λ_ _ _=>False)
 (an:∀H e s',CX [] H I (λ_ _ _=>False) e s'->False):
 codeAny (d9 P w) F5 (.call (.ref Z) ⟨[.ref a],[]⟩) (λr s'=>r=.ok (.ret<|.bool da)/\OldK I.heap s'.heap/\s'.os=I.os/\Dn s'.gens) I:=by
 have C:=K7 hi;have E:=hi.length;have p:∀H:Hp,EM H->gv K H a (ns.map V.int)->kA P w H I.heap->(∀b,H b≠none->b=a)->(H a≠none->K.lookup a=none)->
  codeAny (d9 P w) F5 (.call (.ref Z) ⟨[.ref a],[]⟩) (λr s'=>r=.ok (.ret<|.bool da)/\OldK I.heap s'.heap/\s'.os=I.os/\Dn s'.gens) I:=by
  intro H B hS j A W;have f:∀{b:dv} {o:jn},I.heap.get? b=cq o->H b=none->(mO I.heap H).get? b=cq o:=λe n=>mL e n;have b0:∀{b:dv} {o:jn} {i:Array DictEntry} {U:Nat},I.heap.get? b=cq o->o.data=.dict i U->H b=none:=λ{b o i U} e d=>by
   cases q:H b with
   |none=>rfl
   |some u=>
    have l:b=a:=A b (by rw[q];simp);subst l;rw[L]at e;cases e;have M:Data.seq vs.toArray _=Data.dict i U:=d;cases M
  have a1:∀{b:dv} {m:UZ},I.heap.Ns b m->(mO I.heap H).Ns b m:=λ{b m} ⟨o,i,U,e,d,r⟩=>⟨o,i,U,f e<|b0 e d,d,r⟩;have t:K.In (mO I.heap H):=λb o e=>f (KX b o e) (by
   cases q:H b with
   |none=>rfl
   |some u=>
    have l:b=a:=A b (by rw[q];simp);subst l;rw[W (by rw[q];simp)]at e;cases e)
  have X:Mod K J (mO I.heap H):=⟨t,a1 a4,⟨mb,a1 O,ab⟩,let ⟨mc,S,T⟩:=ac;⟨mc,a1 S,T⟩⟩;have N:Ds P w K J (mO I.heap H) F5 [] I H:=⟨rfl,X,λb o e=>tf e,Nat.le_of_eq<|gx _ _,trivial,λb O=>absurd (show b∈([]:List dv)from O) ⋯,j,.of_eq hg⟩;refine Ph ((F _ t<|a1 a4).run F5 [] I H ⟨[.ref a],[]⟩ [.ref a] [.ref a] _ _ hr N (al I<|.ref a) (.cons rfl .nil) (am H B hS)) λr s' h=>?_;cases r with
  |error e=>exact(an H e s' h).elim
  | ok R=>
   cases R with
   |next=>exact Nd h
   |brk=>exact Nd h
   |cont=>exact Nd h
   | ret u=>
    obtain⟨v,H',os,g,un,G,r',q⟩:=h;have q':v=.bl da:=q;subst q';obtain rfl:u=Value.bool da:=r';refine⟨rfl,OldK.of_keep λb o e=>?_,os,g⟩;cases q:H b with
    |none=>exact un.keep b o e q (by intro z;exact absurd (show b∈([]:List dv)from z) ⋯) ⋯
    | some u=>
     rcases B b with z|⟨ob,xs,z⟩
     ·rw[q]at z;cases z
     ·have z2:=un.vr b ob _ z
      obtain⟨y,_⟩:=j b _ z;obtain⟨Q,_⟩:=G b _ z2;rw[e]at y;cases y;exact Q
 cases hk:K.lookup a with
 |some o=>
  have e:=KX a o hk;rw[L]at e;cases e;refine p (λ_=>none) (λ_=>.inl rfl) (.inr ⟨_,vs.toArray,_,hk,rfl,rfl,rfl,by rw[IL,E];exact hl,by simpa using C⟩) (λb u z=>by have Y:(none:Option HO)=cq u:=z;cases Y) (λb z=>absurd rfl z) λz=>absurd rfl z
 | none=>
  refine p (λb=>if b=a then cq (.p8 {cls:=.type "list",data:=.seq vs.toArray} (.lst (ns.map V.int)))else none) (λb=>?_) (.inl (.inr ⟨{cls:=.type "list",data:=.seq vs.toArray},UJ rfl⟩)) (λb u z=>?_) (λb z=>?_) λ_=>hk
  ·by_cases O:b=a
   ·exact .inr ⟨_,_,UJ O⟩
   ·exact .inl<|UY O
  ·by_cases O:b=a
   ·have Y:=(UJ O).symm.trans z
    cases Y;subst O;exact⟨L,by rw[Lc];exact hl,vs,_,C,L⟩
   ·have Y:=(UY O).symm.trans z
    cases Y
  ·by_cases O:b=a
   ·exact O
   ·exact absurd (UY O) z
abbrev o8{K:Iy}{h:eh}(_:K.In h):Iy:=K
theorem pK{l:PySem.W.OpenLaw}{n k:Nat}{q:g8}{a1:List Str}{Z:(Str->Option dy)->eh->Prop}{I:f7->eh->Prop}{d:DefRec}{K:Params->Iy}{CX:f7->wh}{sp:f7->Sp}{x:Str}
 (hn:l.most=cq n) (a3:n<=el) (a4:d.params.defaults=[]) (hr:n9 k F5)
 (hY:∀(w:f7) (h:eh),I w h->(K w.params).In h)
 (F : ∀(w:f7) (z:UZ) (J:dv) (h:eh),(K w.params).In h->h.Ns q7 z->z d.name=cq (.ref J)->
   ∃L:rh,(∀(s:d6) (u:dy),R7 s L ⟨[u],[]⟩ [(x,u)])/\
    ∀base:eh,(K w.params).In base->base.Ns q7 z->rb l.prog w (K w.params) z base (CX w) k J L [x] (sp w))
 (a7:∀(w:f7) (H:Hp) (a:dv) (ns:List Int),ns.length<=n->EM H->gv (K w.params) H a (ns.map V.int)->sp w [.ref a] H (λv _=>v=.bl da) λ_ _ _=>False)
 (a8:∀(w:f7) (H:Hp) (s:d6) (e:dy) (s':d6),CX w [] H s (λ_ _ _=>False) e s'->False):
 PySem.W.WalkO q a1 Z I l.row.toRowW d [] (λf vs=>PySem.call f vs):=by
 refine Att.uB hn a4 λw j i z Q J o R M t a vs ns G Y P N as m p r O E=>?_;have U:=hY w _ Y;obtain⟨L,C,y⟩:=F w z J _ U G.T.g m;exact mD U G.T.g G.T.b G.T.builtins G.T.nolimit E p r (LG O a3) hr y C (λH A B=>a7 w H a ns O A B) λH e s'=>a8 w H i e s'
theorem Ed{l:PySem.W.OpenLaw}{n k:Nat}{q:g8}{O:List Str}{U:(Str->Option dy)->eh->Prop}{I:f7->eh->Prop}{d:DefRec}{K:Params->Iy}{CX:wh}{sp:Iy->Sp}{x:Str}
 (hn:l.most=cq n) (Y:n<=el) (Z:d.params.defaults=[]) (hr:n9 k F5)
 (hY:∀(w:f7) (h:eh),I w h->(K w.params).In h)
 (F : ∀(w:f7) (z:UZ) (J:dv) (h:eh),(K w.params).In h->h.Ns q7 z->z d.name=cq (.ref J)->
   ∃L:rh,(∀(s:d6) (u:dy),R7 s L ⟨[u],[]⟩ [(x,u)])/\
    ∀base:eh,(K w.params).In base->base.Ns q7 z->rb l.prog w (K w.params) z base CX k J L [x] (sp<|K w.params))
 (a4:∀(K:Iy) (H:Hp) (a:dv) (ns:List Int),ns.length<=n->EM H->gv K H a (ns.map V.int)->sp K [.ref a] H (λv _=>v=.bl da) λ_ _ _=>False)
 (a5:∀(H:Hp) (s:d6) (e:dy) (s':d6),CX [] H s (λ_ _ _=>False) e s'->False):
 PySem.W.WalkO q O U I l.row.toRowW d [] (λf vs=>PySem.call f vs):=
 pK (K:=K) (CX:=λ_=>CX) (sp:=λw=>sp<|K w.params) hn Y Z hr hY F (λw H a ns b g i=>a4 (K w.params) H a ns b g i) λ_ H s e s'=>a5 H s e s'
noncomputable def J9(s:h9):Arguments:=match s with
 |.FunctionDef _ a _ _ _ _ _ _ _ _=>a
 |_=>{posonlyargs:=[],args:=[],vararg:=none,kwonlyargs:=[],kw_defaults:=[],kwarg:=none,defaults:=[]}
noncomputable def kK(s:h9):List h9:=match s with
 |.FunctionDef _ _ b _ _ _ _ _ _ _=>b
 |_=>[]
noncomputable def jy(s:h9):gB:=match s with
 |.FunctionDef _ _ _ _ _ _ a _ _ _=>a
 |_=>{kind:=.function,names:=[],isGenerator:=di,isCoroutine:=di}
abbrev t5:wh:=λ_ _ _ _ _ _=>False
abbrev E0:XK:=λ_ _ _=>False
theorem Bo:iz t5 X E0:=λ_ _ _ _ _ _ _ h=>h.elim
structure E1(K:Iy)(x qual:Str)(st:h9)(f:dv)(fd:rh):Prop where
 ex:∃(oc:dy) (od:Option dv) (kV doc pm:dy) (an:Option dv) (To ct:dy) (SI:Array (Option dy)),
  fd=Ob x qual (J9 st) (kK st) (jy st) .none kV doc pm an To ct/\K.lookup f=cq ⟨oc,od,.func fd,SI⟩/\Py K To qual=da
 kp:NZ K (.ref f)=da
section
variable{P:g8}{w:f7}{K:Iy}{mg:UZ}{base:eh}
theorem E1.ok{x qual:Str}{st:h9}{f:dv}{J:rh}{N ps:List Str}{k:Nat}{sp:Sp}(F:E1 K x qual st f J)(S:N6 N ps (jy st))(len:∀vs H Q E,sp vs H Q E->vs.length=ps.length)
 (I:∀(z:dy) (A:i5) (outer:List lp) (s:d6) (H:Hp) (vs:List V) (Q:VK) (E:XK),n9 k (A.deeper<|envOfC qual (jy st) s.heap.objs.size f z)->sp vs H Q E->
   ∃t,t9 (Vg t5 P w K mg base N qual (jy st) f z A outer s H E).qq (kK st) t/\t {nx:=λ_ H'=>Q .d7 H',rt:=Q} (QQ N vs) H):rb P w K mg base t5 (k+1) f J ps sp:=by
 obtain⟨g,i,kV,a,j,d,z,e,b,rfl,lk,O⟩:=F.ex;refine Cn lk O S len λA outer s H vs Q E U Y=>?_;obtain⟨t,h,q⟩:=I z A outer s H vs Q E U Y;exact⟨t,h.qq,q⟩
theorem Cm{x qual:Str}{st:h9}{f:dv}{Y:dy}{od L:Option dv}{J:Array (Option dy)}{kV I O z ct:dy}(l:K.lookup f=cq ⟨Y,od,.func<|Ob x qual (J9 st) (kK st) (jy st) .none kV I O L z ct,J⟩)
 (c:Py K z qual=da) (k:NZ K (.ref f)=da):E1 K x qual st f (Ob x qual (J9 st) (kK st) (jy st) .none kV I O L z ct):=⟨⟨Y,od,kV,I,O,L,z,ct,J,rfl,l,c⟩,k⟩
end
noncomputable def f6(H H':Hp):Prop:=∀b o,H b=cq o->H' b=cq o
theorem f6.refl(H:Hp):f6 H H:=λ_ _ h=>h
theorem f6.trans(a:f6 H H1)(b:f6 H1 H2):f6 H H2:=λc o h=>b c o<|a c o h
theorem f6.free(e:f6 H H')(h:H' l=Option.none):H l=Option.none:=by
 cases q:H l with
 |none=>rfl
 |some o=>
  rw[e l o q]at h;cases h
theorem f6.seq{K:Iy}{H H':Hp}{a:dv}{xs:List V}(e:f6 H H')(h:gv K H a xs):gv K H' a xs:=by
 rcases h with(h|⟨o,h⟩)|h
 ·exact .inl<|.inl<|e _ _ h
 ·exact .inl<|.inr ⟨o,e _ _ h⟩
 ·exact .inr h
noncomputable def KZ(cells:List (Str×dv)):List (Str×B4)->List (Str×dv)->List (Str×dv)
 |[],acc=>acc
 |(n,k)::r,acc=>KZ cells r<|if k==Lp then (match cells.lookup n with|some c=>(n,c)::acc|none=>acc)else acc
theorem vi(f:Str×B4->List (Str×dv)->m5 (ForInStep<|List<|Str×dv))
 (z:∀name kind O,f (name,kind) O=if kind==Lp then (do let a<-cellOf env name;pure (.yield ((name,a)::O)))else pure (.yield O)):
 ∀(names:List (Str×B4)) (acc:List (Str×dv)),(∀n,(n,Lp)∈names->∃c,env.cells.lookup n=cq c)->
  forIn names acc f=(pure (KZ env.cells names acc):m5 _)
 |[],acc,_=>by rw[OU];rfl
 | (n,k)::r,acc,h=>by
  rw[OG,z];have U:∀n,(n,Lp)∈r->∃c,env.cells.lookup n=cq c:=λm d=>h m<|Ld _ d;unfold KZ;by_cases I:(k==Lp)=da
  ·rw[UJ I,UJ I]
   have b:k=Lp:=by simpa using I
   subst b;obtain⟨c,Y⟩:=h n La;have e:cellOf env n=pure c:=by unfold cellOf;rw[Y]
   rw[e,Y];exact vi f z r _ U
  ·rw[UY I,UY I]
   exact vi f z r acc U
theorem KH(h:∀n,(n,Lp)∈scope.names->∃c,env.cells.lookup n=cq c):
 closureFor scope env=pure (KZ env.cells scope.names []):=by
 simp only[closureFor];rw[vi (env:=env) _ (λb a I=>by cases hk:a==Lp<;>simp[hk]) scope.names [] h];rfl
theorem k9
 (I:Q {scope:=scope,locals:=s.heap.objs.size,globals:=globals,cells:=vl (s.heap.objs.size+1) scope.names cl,qual:=qual,func:=none,code:=env.code,frame:=env.frame,builtins:=env.builtins}
   {s with heap:=D2 (s.heap.push {cls:=.type "dict",data:=.dict #[]}) scope.names}):
 wpAny M A (UM scope globals cl [] qual none .none (cq env)) Q E s:=by
 simp only[UM,Option.isSome_some,if_true];refine Iz (wpAny_alloc ?_);refine Iz (wpAny_layCells _ (λb a cells=>by cases M_:a==Ng<;>simp[M_]) _ _ _ _ ?_);rw[show({s with heap:=s.heap.push {cls:=.type "dict",data:=.dict #[]}}:d6).heap.objs.size=s.heap.objs.size+1 from Lx ..];exact Iz (IH (IH I))
theorem W7:∀{names:List (Str×B4)} {acc:List (Str×dv)},(n,c)∈KZ cells names acc->(n,c)∈acc\/((n,Lp)∈names/\cells.lookup n=cq c)
 |[],acc,h=>.inl h
 | (m,k)::r,acc,h=>by
  unfold KZ at h;rcases W7 h with g|⟨h1,h2⟩
  ·clear h
   by_cases I:(k==Lp)=da
   ·rw[UJ I]at g
    have O:k=Lp:=by simpa using I
    subst O;cases e:cells.lookup m with
    |none=>rw[e]at g;exact .inl g
    |some U=>
     rw[e]at g;rcases IM.mp g with g|g
     ·cases g;exact .inr ⟨La,e⟩
     ·exact .inl g
   ·rw[UY I]at g;exact .inl g
  ·exact .inr ⟨Ld _ h1,h2⟩
theorem JU:∀{names:List (Str×B4)} {acc:List (Str×dv)},((acc.lookup n).isSome=da\/((n,Lp)∈names/\(cells.lookup n).isSome=da))->((KZ cells names acc).lookup n).isSome=da
 |[],acc,h=>by
  rcases h with h|⟨h,_⟩
  ·exact h
  ·cases h
 | (m,k)::r,acc,h=>by
  unfold KZ;apply JU;by_cases I:(k==Lp)=da
  ·rw[UJ I]
   have U:k=Lp:=by simpa using I
   subst U;cases e:cells.lookup m with
   | none=>
    rcases h with h|⟨h1,h2⟩
    ·exact .inl h
    ·rcases IM.mp h1 with h1|h1
     ·cases h1;rw[e]at h2;cases h2
     ·exact .inr ⟨h1,h2⟩
   | some Y=>
    dsimp only;by_cases O:n=m
    ·subst O;left;simp
    ·rcases h with h|⟨h1,h2⟩
     ·left;rw[LY];split<;>simp_all
     ·rcases IM.mp h1 with h1|h1
      ·cases h1;exact absurd rfl O
      ·exact .inr ⟨h1,h2⟩
  ·rw[UY I]
   rcases h with h|⟨h1,h2⟩
   ·exact .inl h
   ·rcases IM.mp h1 with h1|h1
    ·cases h1;exact absurd rfl I
    ·exact .inr ⟨h1,h2⟩
theorem kj:∀{names:List (Str×B4)} {k:Nat} {acc:List (Str×dv)},(n,c)∈vl k names acc->(n,c)∈acc\/(k<=c/\(n,Ng)∈names)
 |[],_,_,h=>.inl h
 | (m,kd)::r,k,acc,h=>by
  unfold vl at h;split at h
  ·rename_i I
   have O:kd=Ng:=by simpa using I
   subst O;rcases kj h with h|⟨h1,h2⟩
   ·rcases IM.mp h with h|h
    ·cases h;exact .inr ⟨II _,La⟩
    ·exact .inl h
   ·exact .inr ⟨by omega,Ld _ h2⟩
  ·rcases kj h with h|⟨h1,h2⟩
   ·exact .inl h
   ·exact .inr ⟨h1,Ld _ h2⟩
theorem yG:∀{names:List (Str×B4)} {k:Nat} {acc:List (Str×dv)},(∀p∈acc,∀q∈acc,p.2=q.2->p.1=q.1)->(∀p∈acc,p.2<k)->
 ∀p∈vl k names acc,∀q∈vl k names acc,p.2=q.2->p.1=q.1
 |[],_,_,h,_=>h
 | (m,kd)::r,k,acc,h,hl=>by
  unfold vl;split
  ·refine yG (λp I q O e=>?_) (λp I=>?_)
   ·rcases IM.mp I with rfl|I<;>rcases IM.mp O with rfl|O
    ·rfl
    ·have U:k=q.2:=e
     exact absurd (U ▸ hl q O)<|LL _
    ·have U:p.2=k:=e
     exact absurd (U ▸ hl p I)<|LL _
    ·exact h p I q O e
   ·rcases IM.mp I with rfl|I
    ·exact Mv _
    ·exact LZ<|hl p I
  ·exact yG h hl
theorem QB:∀{names:List (Str×B4)} {h:eh} {acc:List (Str×dv)} {n:Str} {c:dv},(n,c)∈vl h.objs.size names acc->(n,c)∈acc\/(D2 h names).IsCell c none
 |[],_,_,_,_,hm=>.inl hm
 | (m,kd)::r,h,acc,n,c,hm=>by
  unfold vl at hm;unfold D2;split at hm
  ·rename_i I
   rw[UJ I];have e:h.objs.size+1=(h.push {cls:=.type "cell",data:=.cell none}).objs.size:=(Lx ..).symm;rw[e]at hm;rcases QB hm with hm|hm
   ·rcases IM.mp hm with hm|hm
    ·cases hm
     have O:(h.push {cls:=.type "cell",data:=.cell none}).IsCell h.objs.size none:=⟨{cls:=.type "cell",data:=.cell none},IS _ rfl,rfl⟩;exact .inr (O.keeps λb o q=>OY _ _ b o q)
    ·exact .inl hm
   ·exact .inr hm
  ·rename_i I
   rw[UY I];exact QB hm
theorem vE{J:Type}{l:List (Str×J)}(z:(l.map (·.1)).Nodup):∀{n:Str} {a:J},(n,a)∈l->l.lookup n=cq a:=by
 induction l with
 |nil=>intro n a h;cases h
 | cons p r I=>
  intro n a h;obtain⟨m,b⟩:=p;rw[Lk,NP]at z;rw[LY];rcases IM.mp h with h|h
  ·cases h;simp
  ·have O:(n==m)=di:=by
    have:n≠m:=λe=>z.1 (by rw[<-e];exact Lv.mpr ⟨(n,a),h,rfl⟩);simpa using this
   rw[O];exact I z.2 h
theorem vP(scope:gB)(env:lp)(x:Str):(C5 scope env).names.lookup x =
 (scope.names.lookup x).map λk=>if (k==Lp&&env.scope.kind ==.function&&env.kindOf x==cq .cell)then Ng else k:=by
 unfold C5;dsimp only;generalize scope.names=l
 induction l with
 |nil=>rfl
 | cons p r O=>
  obtain⟨n,k⟩:=p;rw[Lk];cases hx:x==n with
  |true=>
   have e:x=n:=by simpa using hx
   subst e;rw[LY,LY];dsimp only;by_cases I:(k==Lp&&env.scope.kind ==.function&&env.kindOf x==cq .cell)=da
   ·rw[UJ I,beq_self_eq_true];dsimp only[OS];rw[UJ I]
   ·rw[UY I,beq_self_eq_true];dsimp only[OS];rw[UY I]
  |false=>
   have:∀U,List.lookup x ((n,U)::(r.map λx=>match x with|(n,k)=>if (k==Lp&&env.scope.kind ==.function&&env.kindOf n==cq .cell)=da then (n,Ng)else (n,k)))=List.lookup x (r.map λx=>match x with|(n,k)=>if (k==Lp&&env.scope.kind ==.function&&env.kindOf n==cq .cell)=da then (n,Ng)else (n,k)):=λU=>by rw[LY,hx]
   rw[LY (k:=n),hx];dsimp only;split
   ·rw[this];exact O
   ·rw[this];exact O
noncomputable def wU(scope:gB)(env:lp)(L:dv):lp:=
 {scope:=C5 scope env,locals:=L,globals:=env.globals,cells:=vl (L+1) scope.names<|KZ env.cells scope.names [],qual:=env.qual,func:=none,code:=env.code,frame:=env.frame,builtins:=env.builtins}
noncomputable def jF(X:Cx)(scope:gB)(I:List Str)(fp:List dv)(z:d6)(J:Hp):Cx:=
 {X with N:=I,h7:=z,DU:=J,env:=wU scope X.env<|z.heap.objs.size+1,outer:=X.stack,stack:=X.stack,ex:=fp,fn:=λx=>scope.names.lookup x==cq .cell,pn:=[],xe:=λ_ _=>False}
structure wo(X:Cx)(scope:gB)(fr:List (Str×Nat)):Prop where
 kind:scope.kind=.function
 nd:(scope.names.map (·.1)).Nodup
 free:∀p∈scope.names,p.2=Lp->X.env.kindOf p.1=cq .cell\/X.env.kindOf p.1=cq .free
 fr:∀p∈fr,scope.names.lookup p.1=cq .free/\X.N[p.2]? = cq p.1
noncomputable def ou(own:List Str)(z:List (Str×Nat))(I:St):St:=own.map (λ_=>none)++z.map λp=>(I[p.2]?).join
abbrev VW:jn:={cls:=.type "list",data:=.seq #[]}
abbrev pw:jn:={cls:=.type "dict",data:=.dict #[]}
theorem mI{X:Cx}{Z:UQ}{σ:St}{H2:Hp}{J:d6}{scope:gB}{own:List Str}{L:List (Str×Nat)}{fp:List dv}(I:Inv X Z σ H2 J)(ok:wo X scope L)
 (a5:∀b∈fp,vR X Z H2 b) (as:∀b∈fp,∃o,J.heap.get? b=cq o):
 Inv (jF X scope (own++L.map (·.1)) fp J H2) [] (ou own L σ) (upd H2 J.heap.objs.size<|.lst []) {J with heap:=D2 ((J.heap.push VW).push pw) scope.names}:=by
 have K:(J.heap.push VW).objs.size=J.heap.objs.size+1:=Lx ..;have z2:((J.heap.push VW).push pw).objs.size=J.heap.objs.size+2:=by rw[Lx,K]
 have a1:∀n c,(n,c)∈KZ X.env.cells scope.names []->(n,Lp)∈scope.names/\X.env.cells.lookup n=cq c:=λn c h=>(W7 h).resolve_left ⋯;have ac:∀n c,X.env.cells.lookup n=cq c->c<J.heap.objs.size:=λn c h=>by obtain⟨v,q⟩:=I.cell n c h;exact q.lt
 have M:∀p∈KZ X.env.cells scope.names [],p.2<J.heap.objs.size+1+1:=λp U=>by exact LZ<|LZ<|ac p.1 p.2 (a1 p.1 p.2 U).2
 have hC:(wU scope X.env<|J.heap.objs.size+1).cells=vl (J.heap.objs.size+2) scope.names (KZ X.env.cells scope.names []):=rfl;have a:∀x c,(wU scope X.env<|J.heap.objs.size+1).cells.lookup x=cq c->((x,Lp)∈scope.names/\X.env.cells.lookup x=cq c)\/(J.heap.objs.size+2<=c/\(x,Ng)∈scope.names):=λx c h=>by
  rcases kj (mem_of_lookup h)with h|h
  ·exact .inl<|a1 x c h
  ·exact .inr h
 have B:∀x,(x,Lp)∈scope.names->∃c,X.env.cells.lookup x=cq c/\(wU scope X.env<|J.heap.objs.size+1).cells.lookup x=cq c:=λx l=>by
  obtain⟨c,d⟩:=I.ok.has x<|ok.free (x,.free) l rfl;have t:((KZ X.env.cells scope.names []).lookup x).isSome=da:=JU<|.inr ⟨l,by rw[d];rfl⟩;have j:=NO scope.names (J.heap.objs.size+2) (KZ X.env.cells scope.names [])<|.inr t;obtain⟨G,C⟩:=LX.mp j;refine⟨c,d,?_⟩;rcases a x G C with⟨_,q⟩|⟨_,q⟩
  ·rw[d]at q;cases q;exact C
  ·exact absurd ((vE ok.nd q).symm.trans (vE ok.nd l)) ⋯
 have keep:∀b o,J.heap.get? b=cq o->(D2 ((J.heap.push VW).push pw) scope.names).get? b=cq o:=λb o e=>
  OY _ _ b o (IB _<|IB _ e)
 have am:∀b∈fp,b<J.heap.objs.size:=λb O=>by obtain⟨o,e⟩:=as b O;exact IP e
 have fresh:H2 J.heap.objs.size=none:=I.ej.fresh<|II _;have E:∀c,J.heap.objs.size<c->(upd H2 J.heap.objs.size<|.lst []) c=none:=λc d=>by rw[zK (MS d)];exact I.ej.fresh<|PJ d
 obtain⟨m0,N⟩:∃m,(D2 ((J.heap.push VW).push pw) scope.names).Ns (J.heap.objs.size+1) m:=by have q:=(Heap.Ns.new (J.heap.push VW) (.type "dict")).keeps (λb o e=>OY scope.names _ b o e);rw[K]at q;exact⟨_,q⟩
 refine⟨⟨I.ok.mod,ok.kind,I.ok.glob,I.ok.blt,Ro _,λx y c t j=>?_,λx l=>?_,λx c hf h=>?_,I.ok.hd,I.ok.frames,.inl rfl,λb O=>⟨?_,λx c h z=>?_⟩,λb o e=>I.bs b o e,?_,λb o e O=>?_,λb O hs=>?_,I.stack,I.M9⟩,
  rfl,I.bare,Un.laid keep (II _) fresh,⟨m0,N,λi x v H Y e3=>?_⟩,λx c h=>?_,?_,λx c h=>?_,λp U=>?_,?_,?_⟩
 ·have q:=yG (names:=scope.names) (k:=J.heap.objs.size+2) (acc:=KZ X.env.cells scope.names []) (λp U q hq e=>I.ok.inj p.1 q.1 p.2 (a1 _ _ U).2 (by rw[e];exact(a1 _ _ hq).2)) M
  exact q (x,c) (mem_of_lookup t) (y,c) (mem_of_lookup j) rfl
 ·have f:(C5 scope X.env).names.lookup x=cq .cell\/(C5 scope X.env).names.lookup x=cq .free:=l
  have:scope.names.lookup x=cq .cell\/scope.names.lookup x=cq .free:=by
   rw[vP]at f;cases e:scope.names.lookup x with
   |none=>rw[e]at f;simp at f
   |some k=>
    rw[e]at f;cases k<;>simp at f ⊢
  rcases this with h|h
  ·exact LX.mp<|NO scope.names _ _<|.inl h
  ·obtain⟨c,_,j⟩:=B x<|mem_of_lookup h;exact⟨c,j⟩
 ·have P:(scope.names.lookup x==cq .cell)=da:=hf
  have Q:scope.names.lookup x=cq .cell:=by simpa using P
  rcases a x c h with⟨q,_⟩|⟨q,_⟩
  ·exact absurd ((vE ok.nd q).symm.trans Q) ⋯
  ·exact LG (Ln _ 2) q
 ·exact IX<|LZ<|am b O
 ·rcases a x c h with⟨_,q⟩|⟨q,_⟩
  ·exact(a5 b O).2.2.2.2.1 x c q z
  ·exact absurd (IV (am b O)<|LG (Ln _ 2)<|z ▸ q)<|LL _
 ·exact LG I.ok.B9 I.sz
 ·rcases (a5 b O).2.2.2.1 with q|q
  ·exact I.ok.M6 b o e q
  ·exact absurd (IV (IP e)<|LG I.ok.B9 q)<|LL _
 ·rcases IM.mp (I.NN b hs)with q|q
  ·exact(a5 b O).2.1 q
  ·exact(a5 b O).2.2.1 q
 ·have hi:i<(own++L.map (·.1)).length:=(Ll.mp H).1
  by_cases s:i<own.length
  ·unfold ou at Y
   rw[Mt (by simpa using s)]at Y;simp[LO,s]at Y
  ·have hj:∃p,L[i-own.length]? = cq p/\p.1=x/\(σ[p.2]?).join=cq v:=by
    unfold ou at Y;have g:(own++L.map (·.1))[i]? = cq x:=H;rw[Mo ⋯,LO]at g;rw[Mo (by simpa using s),LO,Lc]at Y;cases q:L[i-own.length]? with
    |none=>rw[q]at g;cases g
    |some p=>
     rw[q]at g Y;exact⟨p,rfl,by simpa using g,by simpa using Y⟩
   obtain⟨p,U,R,r⟩:=hj;obtain⟨g1,g2⟩:=ok.fr p<|PN U;rw[R]at g1 g2;have w:σ[p.2]? = cq (cq v):=by
    cases q:σ[p.2]? with
    |none=>rw[q]at r;cases r
    |some o=>rw[q]at r;simpa using r
   have F:=ok.free (x,.free) (mem_of_lookup g1) rfl;obtain⟨m,hn,hl⟩:=I.loc;obtain⟨u,ru,lk⟩:=hl p.2 x v g2 w (by rcases F with k|k;exact .inr<|.inl k;exact .inr<|.inr k);refine⟨u,ru,.inr ?_⟩;obtain⟨c,S,T⟩:=B x<|mem_of_lookup g1;have W:J.heap.IsCell c (cq u):=by
    rcases lk with⟨k,_⟩|⟨_,G,e,z⟩
    ·rcases F with k'|k'<;>rw[k]at k'<;>cases k'
    ·rw[S]at e;cases e;exact z
   refine⟨?_,c,T,W.keeps keep⟩;show(C5 scope X.env).names.lookup x=cq .cell\/(C5 scope X.env).names.lookup x=cq .free;rw[vP,g1];dsimp only[OS];split
   ·exact .inl rfl
   ·exact .inr rfl
 ·rcases kj (mem_of_lookup h)with q|q
  ·obtain⟨v,A⟩:=I.cell x c (a1 x c q).2
   exact⟨v,A.keeps keep⟩
  ·have q2:=mem_of_lookup h
   have q3:(x,c)∈vl ((J.heap.push VW).push pw).objs.size scope.names (KZ X.env.cells scope.names []):=by rw[z2];exact q2
   rcases QB q3 with q4|q4
   ·obtain⟨v,A⟩:=I.cell x c (a1 x c q4).2
    exact⟨v,A.keeps keep⟩
   ·exact⟨none,q4⟩
 ·exact E _<|Mv _
 ·rcases a x c h with⟨_,q⟩|⟨q,_⟩
  ·rw[zK (IX<|ac x c q)];exact I.vp x c q
  ·exact E c<|IV (LZ<|Mv _) q
 ·exact absurd (show p∈([]:UQ)from U) ⋯
 ·refine I.ej.laid keep (II _) ⟨Mr _,[],0,.nil,?_⟩
  exact OY _ _ _ _<|IB _<|IS _ rfl
 ·show(ou own L σ).length=(own++L.map (·.1)).length
  simp[ou]
theorem vK(I:Nat->d6->Prop)
 (L : ∀n s,I n s->wpAny (d9 prog w) A (A6 it) (λr O=>match r with
   |none=>R (.ok .next) O
   | some v=>wpAny (d9 prog w) A (Sy target it v) (λ_ O=>wpAny (d9 prog w) A (C9 target env v) (λ_ Y=>
    wpAny (d9 prog w) A (forIn ifs da λc r=>if r=da then do let ok<-F6 c env (d8 c env);pure (Pf ok)else pure (Pf r)) (λok U=>
     if ok=da then wpAny (d9 prog w) A (d8 elt env) (λx z=>
      wpAny (d9 prog w) A (call (.builtin "list.append") [acc,x]) (λ_ J=>∃m,m<n/\I m J) (λ_ _=>False) z) (λ_ _=>False) U
     else ∃m,m<n/\I m U) (λ_ _=>False) Y) (λ_ _=>False) O) (λ_ _=>False) O) (λ_ _=>False) s)
 (n:Nat) (h:I n s):
 codeAny (d9 prog w) A (.compLoop (.ListComp elt [⟨target,iter,ifs,0⟩] scope pos) 0 it acc env) R s:=by
 refine codeAny_loop rfl I (λn s j=>?_) n h;show wpAny _ A ((compTurn (.ListComp elt [⟨target,iter,ifs,0⟩] scope pos) 0 it acc env).onRaise (λx=>do SG x env;theTreesLotGoes x)) _ _ s;refine wpAny_noted ?_;rw[compTurn_list];refine Iz<|RN<|Iz<|Lq (L n s j) (λr O b=>?_) λ_ _ a=>a.elim;cases r with
 |none=>exact IH b
 | some v=>
  refine Iz<|Lq b (λ_ k i=>?_) λ_ _ a=>a.elim;refine Iz<|Lq i (λ_ Y e=>Iz<|Lq e (λok U d=>?_) λ_ _ a=>a.elim) λ_ _ a=>a.elim;cases ok with
  |false=>exact IH ⟨rfl,d⟩
  |true=>
   exact Iz<|Iz<|Lq d (λx z f=>Iz<|Lq f (λ_ J g=>IH<|IH ⟨rfl,g⟩) λ_ _ a=>a.elim) λ_ _ a=>a.elim
noncomputable def uS(X:Cx)(z:List ec)(t:TT):Prop:=
 ∀(a:UQ) (s:d6) (b:St) (H:Hp) (Q:Bool->Hp->Prop),Inv X a b H s->t b H Q->
  wpAny (d9 X.prog X.w) X.A (forIn z da λc r=>if r=da then do let ok<-F6 c X.env (d8 c X.env);pure (Pf ok)else pure (Pf r)) (TP X a b Q) X.xe s
noncomputable def EX:TT:=λ_ H Q=>Q da H
theorem WZ:uS X [] EX:=λ_ _ _ H _ I h=>wpAny_tests_nil ⟨H,I,h⟩
theorem WY(h:PT X c t):uS X [c] t:=λa s b H Q I O=>wpAny_tests_one<|h a s b H Q I O
noncomputable def CW(J:It)(g:TG)(L:TT)(z:TE)(D:dv)(Q:VK)(W:Nat->Nat->List V->St->Hp->Prop):Prop:=
 ∀i m a f H,W i m a f H->H D=cq (.lst a)/\((J.stop i H/\Q (.ref D) H)\/(J.go i H/\a.length<el/\∀x e,J.D6 i H x e->g x f e λI h=>L I h λb O=>
  if b=da then z I O λv U=>U D=cq (.lst a)/\∃d,d<m/\W (i+1) d (a++[v]) I (upd U D<|.lst<|a++[v])else ∃d,d<m/\W (i+1) d a I O))
noncomputable def nI(X:Cx)(z:UQ)(H:Hp)(L:dv):Prop:=
 H L=none/\L≠X.env.locals/\X.h7.heap.objs.size<=L/\(∀x c,X.env.cells.lookup x=cq c->c≠L)/\∀p∈X.pn++z,p.1≠L
theorem nD
 (hc:X.calm=da) (I:Inv X pins σ H2 s2) (ok:wo X scope fr) (T:Turn X.prog X.w X.K tg J fp it tn) (st:tn 0 s2.heap) (Y:∀b∈fp,vR X pins H2 b)
 (hg:PG (jF X scope (own++fr.map (·.1)) fp s2 H2) tg g) (ht:uS (jF X scope (own++fr.map (·.1)) fp s2 H2) ifs tt) (he:PE (jF X scope (own++fr.map (·.1)) fp s2 H2) elt te)
 (hW:∀D,H2 D=none->∃W:Nat->Nat->List V->St->Hp->Prop,(∃m,W 0 m [] (ou own fr σ) (upd H2 D<|.lst []))/\CW J g tt te D Q W):
 wpAny (d9 X.prog X.w) X.A (newList []) (λacc L=>wpAny (d9 X.prog X.w) X.A (UM scope X.env.globals (KZ X.env.cells scope.names []) [] X.env.qual none .none (cq X.env)) (λab Z=>
  codeAny (d9 X.prog X.w) X.A (.compStart (.ListComp elt [⟨tg,iter,ifs,0⟩] scope pos) 0 (.ref it) acc {ab with scope:=C5 scope X.env})
   (λr s'=>(∃f,r=.ok f)/\∃D H',acc=.ref D/\Inv X pins σ H' s'/\Q (.ref D) H'/\(∃m,s'.heap.Ns ab.locals m)/\nI X pins H' ab.locals) Z) E L) E s2:=by
 have ax:∀b∈fp,∃o,s2.heap.get? b=cq o:=λb O=>by obtain⟨o,e,_⟩:=T.obj 0 _ st b O;exact⟨o,e⟩
 have N:=mI (own:=own) I ok Y ax;obtain⟨W,⟨m0,w0⟩,cw⟩:=hW _ I.fresh;refine Mp<|k9 ?_;have z1:(s2.heap.push VW).objs.size=s2.heap.objs.size+1:=Lx ..;show codeAny _ _ (.compStart _ 0 (.ref it) (.ref s2.heap.objs.size) {scope:=C5 scope X.env,locals:=(s2.heap.push VW).objs.size,globals:=X.env.globals,cells:=vl ((s2.heap.push VW).objs.size+1) scope.names<|KZ X.env.cells scope.names [],qual:=X.env.qual,func:=none,code:=X.env.code,frame:=X.env.frame,builtins:=X.env.builtins})
  (λr s'=>(∃f,r=.ok f)/\∃D H',Lr s2.heap.objs.size=.ref D/\Inv X pins σ H' s'/\Q (.ref D) H'/\(∃m,s'.heap.Ns (s2.heap.push VW).objs.size m)/\nI X pins H' (s2.heap.push VW).objs.size) {s2 with heap:=D2 ((s2.heap.push VW).push pw) scope.names}
 rw[z1];have b0:tn 0 (D2 ((s2.heap.push VW).push pw) scope.names):=T.keep 0 _ _ st λb _ o e=>OY _ _ b o<|IB _<|IB _ e;have bv:∀b∈fp,b<s2.heap.objs.size:=λb O=>by obtain⟨o,e⟩:=ax b O;exact IP e
 have ac:∀{H':Hp},(∀b∈fp,H' b=none)->∀b∈fp,vR (jF X scope (own++fr.map (·.1)) fp s2 H2) [] H' b:=λhn b O=>
  ⟨hn b O,(N.ok.Pt b O).1,N.ok.L8 b O,.inl O,(N.ok.Pt b O).2,λp hp=>absurd (show p∈([]:UQ)from hp) ⋯⟩
 have b1:codeAny (d9 X.prog X.w) X.A (.compLoop (.ListComp elt [⟨tg,iter,ifs,0⟩] scope pos) 0 (.ref it) (.ref s2.heap.objs.size)<|wU scope X.env<|s2.heap.objs.size+1)
  (λr s'=>(∃f,r=.ok f)/\∃D H',Lr s2.heap.objs.size=.ref D/\Inv X pins σ H' s'/\Q (.ref D) H'/\(∃m,s'.heap.Ns (s2.heap.objs.size+1) m)/\nI X pins H' (s2.heap.objs.size+1)) {s2 with heap:=D2 ((s2.heap.push VW).push pw) scope.names}:=by
  refine vK (λn s'=>∃i B C H',Inv (jF X scope (own++fr.map (·.1)) fp s2 H2) [] C H' s'/\tn i s'.heap/\(∀b∈fp,H' b=none)/\W i n B C H') ?_ m0
   ⟨0,[],_,_,N,b0,λb O=>by rw[zK (IX<|bv b O)];exact(Y b O).1,w0⟩
  rintro n s3 ⟨i,B,a,H,I3,t,b5,w3⟩;obtain⟨hD,c1⟩:=cw i n B a H w3;rcases c1 with⟨y,qn⟩|⟨go,hz,step⟩
  ·refine eK (T.done (jF X scope (own++fr.map (·.1)) fp s2 H2) rfl rfl rfl hc i [] s3 a H _ I3 (ac b5) t y) λr s4 U=>?_
   obtain⟨hr,j⟩:=U;subst hr;refine⟨⟨_,rfl⟩,_,H,rfl,I.Uw (ch:=fp) j.os j.base j.ej j.bare<|λb O=>⟨(Y b O).2.2.2.1,(Y b O).2.1,(Y b O).2.2.2.2.1,(Y b O).2.2.2.2.2⟩,qn,?_,j.free,?_,?_,?_,?_⟩
   ·obtain⟨m,hn,_⟩:=j.loc
    exact⟨m,hn⟩
   ·exact MS<|LZ I.lt
   ·exact Nat.le_succ_of_le I.sz
   ·intro x c e z
    obtain⟨v,q⟩:=I.cell x c e;exact absurd (LZ q.lt) (by rw[z];exact LL _)
   ·intro p hp z
    exact absurd (LZ<|IP (I.pin p hp).1) (by rw[z];exact LL _)
  ·refine eK (T.item (jF X scope (own++fr.map (·.1)) fp s2 H2) rfl rfl rfl hc i [] s3 a H _ I3 (ac b5) t go) λr s4 U=>?_
   obtain⟨u,hr,h4⟩:=U;subst hr;refine eK h4 λ_ s5 U=>?_;obtain⟨x,H5,I5,r5,y5,al,c8⟩:=U;have c9:=I5.pinned (ac c8)<|T.obj _ _ al;refine eK (hg _ s5 a H5 x u _ c9 r5<|step x H5 y5) λ_ s6 U=>?_;obtain⟨h,H6,I6,q6⟩:=U;refine eK (ht _ s6 h H6 _ I6 q6) λb s7 U=>?_;obtain⟨H7,P,R⟩:=U;have after:∀{G:St} {M:Hp} {s:d6},Inv (jF X scope (own++fr.map (·.1)) fp s2 H2) ([]++YA fp s5.heap) G M s->tn (i+1) s.heap/\∀b∈fp,M b=none:=λ{G M s} k=>by refine⟨T.keep _ _ _ al λb O o e=>(k.pin (b,o)<|IZ _<|IZ _<|vD O e).1,λb O=>?_⟩;obtain⟨o,e,d⟩:=T.obj _ _ al b O;exact(k.pin (b,o)<|IZ _<|IZ _<|vD O e).2.1
   cases b with
   |false=>
    rw[UY Lb]at R ⊢;obtain⟨m',hm,w7⟩:=R;exact⟨m',hm,i+1,B,h,H7,P.R6,(after P).1,(after P).2,w7⟩
   |true=>
    rw[UJ rfl]at R ⊢;refine eK (he _ s7 h H7 _ P R) λv8 s U=>?_;obtain⟨x8,M,k,r8,bb,m',hm,w8⟩:=U;obtain⟨z8,l,n8,rv,ct,e8⟩:=k.Dk bb;refine Nm F.slot_list_append ⟨_,e8,rfl⟩ F.entry_list_append (F.args_list_append_2 _ _) (PySem.list_append _ l.toArray n8 v8<|by rw[IL];omega) ⟨e8,?_⟩;have S:=k.D1 (its':=l++[v8]) (f:=(·.push v8)) (t':=s.toks) bb e8 ⋯ (rv.append<|.cons r8 .nil) (by rw[Lz,MY];omega);exact⟨m',hm,i+1,B++[x8],h,_,S.R6,(after S).1,(after S).2,w8⟩
 exact codeAny_compStart_list b1<|T.self _ 0 _ _ _ b0 b1
noncomputable def iW(O:TI)(own:List Str)(z:List (Str×Nat))(g:TG)(L:TT)(I:TE):TE:=λb H Q=>O b H λJ a=>∀D,a D=none->
 ∃W:Nat->Nat->List V->St->Hp->Prop,(∃m,W 0 m [] (ou own z b) (upd a D<|.lst []))/\CW J g L I D Q W
section
variable{X:Cx}{scope:gB}{own:List Str}{fr:List (Str×Nat)}{elt tg iter:ec}{ifs:List ec}{pos:fh}{wi:TI}{g:TG}{tt:TT}{te:TE}
theorem aI
 (O:X.calm=da) (ok:wo X scope fr) (hi:PI X tg iter wi) (U:∀fp Z z,PG (jF X scope (own++fr.map (·.1)) fp Z z) tg g)
 (Y:∀fp Z z,uS (jF X scope (own++fr.map (·.1)) fp Z z) ifs tt) (he:∀fp Z z,PE (jF X scope (own++fr.map (·.1)) fp Z z) elt te)
 (I:Inv X pins σ H s) (h:iW wi own fr g tt te σ H Q)
 (hR:∀D H' s' L,Inv X pins σ H' s'->Q (.ref D) H'->(∃m,s'.heap.Ns L m)->nI X pins H' L->
   compPost (d9 X.prog X.w) X.A X.xe use R (.ref D) L (.ok .next) s')
 (hs:∀x,u0 iter X.env x=pure x:=by intro _;rfl):
 wpAny (d9 X.prog X.w) X.A (comprehension (.ListComp elt [⟨tg,iter,ifs,0⟩] scope pos) scope X.env (firstIterPos [⟨tg,iter,ifs,0⟩] pos) (newList []) di (d8 iter X.env) use) R X.xe s:=by
 refine wpAny_comprehension_free rfl hs (KH λn a=>I.ok.has n<|ok.free (n,.free) a rfl) ok.kind (λx F e=>by rw[<-e];exact vE ok.nd<|show(x.1,x.2)∈scope.names from F) ?_;refine eK (hi pins s σ H _ I h) λv N l=>eK l λK Z o=>?_;obtain⟨M,fp,W,J,z,e,d,T,i,f2,B⟩:=o;subst e;refine eK (nD (own:=own) (Q:=Q) (E:=X.xe) O d ok T i f2 (U fp Z z) (Y fp Z z) (he fp Z z) B) λacc P p=>eK p λj S t=>Ph t λr s' u=>?_;obtain⟨⟨f,C⟩,D,H',k,b,q,a,y⟩:=u;subst C;subst k;have G:=hR D H' s' j.locals b q a y;cases use<;>exact G
theorem VJ(O:X.calm=da)(ok:wo X scope fr)(hi:PI X tg iter wi)(U:∀fp J z,PG (jF X scope (own++fr.map (·.1)) fp J z) tg g)
 (Y:∀fp J z,uS (jF X scope (own++fr.map (·.1)) fp J z) ifs tt) (Z:∀fp J z,PE (jF X scope (own++fr.map (·.1)) fp J z) elt te)
 (hs:∀x,u0 iter X.env x=pure x:=by intro _;rfl):
 PE X (.ListComp elt [⟨tg,iter,ifs,0⟩] scope pos) (iW wi own fr g tt te):=by
 intro a s B H Q I h;rw[eval_ListComp];refine aI (use:=none) O ok hi U Y Z I h (λD d l L f q k y=>?_) hs;obtain⟨m,j⟩:=k;obtain⟨p,r,t,u,w⟩:=y;refine⟨m,j,λA n=>⟨.ref D,d,f.turned (t':=l.toks) (it:=L) (λb o i e=>n.extBut b o i e) p r (.inr t) u w,rfl,q⟩⟩
theorem Xp(U:X.N.Nodup)(Y:X.N[i]? = cq y)(hy:Loc X.env.scope y)(hf:X.fn y=da\/X.env.scope.names.lookup y=cq .local)
 (Z:X.calm=da) (ok:wo X scope fr) (hi:PI X tg iter wi) (hg:∀fp J z,PG (jF X scope (own++fr.map (·.1)) fp J z) tg g)
 (ht:∀fp J z,uS (jF X scope (own++fr.map (·.1)) fp J z) ifs tt) (he:∀fp J z,PE (jF X scope (own++fr.map (·.1)) fp J z) elt te)
 (hs:∀x,u0 iter X.env x=pure x:=by intro _;rfl):
 PS X (.Assign [.Name y py] (.ListComp elt [⟨tg,iter,ifs,0⟩] scope pos) spos) (WE (iW wi own fr g tt te)<|vf i):=by
 have O:∃b:Bool,u4 (.ListComp elt [⟨tg,iter,ifs,0⟩] scope pos) (cq (.Name y py)) spos.line X.env=pure b:=⟨_,rfl⟩;obtain⟨b,O⟩:=O;cases b with
 |false=>
  have u:T6 [.Name y py] (.ListComp elt [⟨tg,iter,ifs,0⟩] scope pos) spos.line X.env=u4 (.ListComp elt [⟨tg,iter,ifs,0⟩] scope pos) (cq (.Name y py)) spos.line X.env:=rfl;exact eV (VJ Z ok hi hg ht he hs) (fi U Y hy hf) (by rw[u];exact O)
 | true=>
  intro d s S H D I h;rw[exec_Assign_Name_used _ _ _ _ O];refine Iz<|RN<|Iz ?_;show wpAny _ X.A (do let _<-comprehension (.ListComp elt [⟨tg,iter,ifs,0⟩] scope pos) scope X.env _ (newList []) di (d8 iter X.env) (cq (C9 (.Name y py) X.env))) _ _ s;refine Iz<|eK (aI (R:=λ_ f=>SP X d D .next f) (use:=cq (C9 (.Name y py) X.env)) Z ok hi hg ht he I h (λj P f L l q C M=>?_) hs) λ_ f q=>IH<|IH q;obtain⟨F,k,G,y4,K⟩:=M;obtain⟨m,B⟩:=C;show wpAny _ _ (C9 (.Name y py) X.env<|.ref j) _ _ _;refine _e<|Ym l U Y hy (v:=.ref j) rfl (λn p r=>?_) hf;obtain⟨a,E,w⟩:=r;have t:L≠a:=by
   rcases w with e|e
   ·rw[e];exact k
   ·exact LD<|y4 _ _ e
  refine⟨m,B.sameBut E t,λQ as=>⟨_,_,p.turned (t':=n.toks) (it:=L) (λb o O e=>as.extBut b o O e) F k (.inr G) y4 K,q⟩⟩
end
inductive Sk where
 |L|T
 deriving DecidableEq
end L2
namespace DL
open PySem L2
inductive D where
 |d7|bl (b:Bool)|int (i:Int)|str (x:Str)|tup (xs:List D)|lst (xs:List D)
 |exc (c:Str) (n:Option Int)
 |nr (ks vs:List D)
 |ov (ks:List (List Int)) (vs:List D)
 |ins (c:Str) (p t:D)
inductive Cell where
 |no|val (d:D)|own (ds:List D)|nest (rows:List (List D))
abbrev Ctx:=List Cell
abbrev CO (a : Type) := Ctx -> Option a
noncomputable def lim:Nat:=2500
noncomputable def jA:D->Option (Sk×List D)
 |.tup a=>cq (.T,a)
 |.lst a=>cq (.L,a)
 |_=>none
noncomputable def zJ(f:CO D)(γ:Ctx):Option (Sk×List D):=(f γ).bind jA
noncomputable def jG(f:CO (List D))(γ:Ctx):Option D:=(f γ).map D.lst
noncomputable def jz(f:CO (List D))(γ:Ctx):Option (Sk×List D):=(f γ).map λa=>(Sk.L,a)
noncomputable def gY:Option Cell->Option D
 |some (.val d)=>cq d
 |_=>none
noncomputable def v9:Option Cell->Option (Sk×List D)
 |some (.val d)=>jA d
 |some (.own ds)=>cq (.L,ds)
 |_=>none
noncomputable def zh(i:Nat)(γ:Ctx):Option D:=gY γ[i]?
noncomputable def zk(i:Nat)(γ:Ctx):Option (Sk×List D):=v9 γ[i]?
noncomputable def zy(d:D):CO D:=λ_=>cq d
noncomputable def zI(F:D->D->Option D)(z I:CO D)(γ:Ctx):Option D:=(z γ).bind λx=>(I γ).bind λy=>F x y
noncomputable def C8:D->Option Bool
 |.bl b=>cq b
 |_=>none
noncomputable def o6:D->Option Int
 |.int i=>cq i
 |_=>none
noncomputable def sB(f:CO D)(γ:Ctx):Option Bool:=(f γ).bind C8
noncomputable def X5(f g:CO Bool)(γ:Ctx):Option Bool:=(f γ).bind λb=>if b=da then g γ else cq di
noncomputable def rM(f g:CO Bool)(γ:Ctx):Option Bool:=(f γ).bind λb=>if b=da then cq da else g γ
noncomputable def Zi(f:CO Bool)(γ:Ctx):Option Bool:=(f γ).map λb=> !b
noncomputable def rR(f g:CO D)(γ:Ctx):Option D:=((f γ).bind C8).bind λb=>if b=da then g γ else cq (.bl di)
noncomputable def Ef(f:CO D)(γ:Ctx):Option D:=((f γ).bind C8).map λb=>.bl (!b)
noncomputable def bq(c:CO Bool)(f g:CO D)(γ:Ctx):Option D:=(c γ).bind λb=>if b=da then f γ else g γ
noncomputable def zF:CO (List D):=λ_=>cq []
noncomputable def zb(f:CO D)(g:CO (List D))(γ:Ctx):Option (List D):=(f γ).bind λx=>(g γ).map λr=>x::r
noncomputable def xF(f:CO (List D))(γ:Ctx):Option D:=(f γ).bind λa=>if a.length<=lim then cq (.tup a)else none
noncomputable def jH(f:CO (List D))(γ:Ctx):Option (List D):=(f γ).bind λa=>if a.length<=lim then cq a else none
inductive Res where
 |val (d:D)|own (ds:List D)
inductive Fl where
 |next (γ:Ctx)|brk (γ:Ctx)|cont (γ:Ctx)|ret (r:Res)
noncomputable def qF(γ:Ctx):Option Fl:=cq (.next γ)
noncomputable def zS(F G:CO Fl):CO Fl:=λb=>(F b).bind λI=>match I with
 |.next a=>G a
 |f=>cq f
noncomputable def qt(f:CO D)(γ:Ctx):Option Fl:=(f γ).map λd=>.ret (.val d)
noncomputable def yQ(f:CO (List D))(γ:Ctx):Option Fl:=(f γ).map λd=>.ret (.own d)
noncomputable def We:Option Cell->Option Fl
 |some (.val d)=>cq (.ret<|.val d)
 |some (.own ds)=>cq (.ret<|.own ds)
 |_=>none
noncomputable def XZ(i:Nat)(γ:Ctx):Option Fl:=We γ[i]?
noncomputable def rQ(γ:Ctx):Option Fl:=cq (.cont γ)
noncomputable def WM:CO Fl:=λ_=>none
noncomputable def kv(k:CO Bool)(F G:CO Fl)(γ:Ctx):Option Fl:=(k γ).bind λb=>if b=da then F γ else G γ
noncomputable def jr(i:Nat)(f:CO D)(γ:Ctx):Option Fl:=(f γ).map λd=>.next (γ.set i<|.val d)
noncomputable def kB(i:Nat)(f:CO (List D))(γ:Ctx):Option Fl:=(f γ).map λa=>.next (γ.set i<|.own a)
noncomputable def dS(f:CO D)(γ:Ctx):Option Fl:=(f γ).map λ_=>.next γ
noncomputable def ya:Option Cell->Option (List D)
 |some (.own ds)=>cq ds
 |_=>none
noncomputable def yz(i:Nat)(f:CO D)(γ:Ctx):Option Fl:=(ya γ[i]?).bind λa=>(f γ).bind λd=>if a.length<lim then cq (.next<|γ.set i<|.own<|a++[d])else none
noncomputable def z7(n:Nat)(ds:List D):Ctx:=ds.map Cell.val++IE (n-ds.length) Cell.no
noncomputable def jq(n:Nat)(F:CO Fl)(ds:List D):Option Res:=(F<|z7 n ds).bind λI=>match I with
 |.ret r=>cq r
 |.next _=>cq (.val .d7)
 |_=>none
noncomputable def WS:Res->D
 |.val d=>d
 |.own a=>.lst a
noncomputable def zE(F:List D->Option Res)(g:CO (List D))(γ:Ctx):Option D:=(g γ).bind λa=>(F a).map WS
noncomputable def AD:Res->Option (List D)
 |.own a=>cq a
 |_=>none
noncomputable def jg(F:List D->Option Res)(g:CO (List D))(γ:Ctx):Option (List D):=(g γ).bind λa=>(F a).bind AD
noncomputable def ZK(lo:Int)(n:Nat):List D:=(IA n).map λ(i:Nat)=>D.int<|lo+(i:Int)
noncomputable def yW(ds es:List D):List D:=(ds.zip es).map λp=>D.tup [p.1,p.2]
noncomputable def zR(f:CO (Sk×List D))(γ:Ctx):Option (List D):=(f γ).map (·.2)
noncomputable def inR(i:Int):Bool:=decide<|i.natAbs<2^62
noncomputable def jK(f:CO D)(γ:Ctx):Option (List D):=((f γ).bind o6).bind λn=>if inR n=da then cq (ZK 0 n.toNat)else none
noncomputable def X0(f g:CO D)(γ:Ctx):Option (List D):=((f γ).bind o6).bind λm=>((g γ).bind o6).bind λn=>if inR m=da/\inR n=da then cq (ZK m (n-m).toNat)else none
noncomputable def QR(f g:CO D)(γ:Ctx):Option (List D):=((f γ).bind jA).bind λm=>((g γ).bind jA).map λn=>yW m.2 n.2
inductive Tg where
 |nm (i:Nat)|tp (is:List Nat)
noncomputable def xI:List Nat->List D->Ctx->Ctx
 |i::is,d::ds,γ=>xI is ds<|γ.set i<|.val d
 |_,_,γ=>γ
noncomputable def kL:Tg->D->CO Ctx
 |.nm i,d,γ=>cq (γ.set i<|.val d)
 |.tp is,.tup ds,γ=>if ds.length=is.length then cq (xI is ds γ)else none
 |_,_,_=>none
noncomputable def kW(T:Tg)(F:CO Fl):List D->CO Fl
 |[],a=>cq (.next a)
 |d::e,a=>(kL T d a).bind λb=>(F b).bind λO=>match O with
  |.next I=>kW T F e I
  |.cont I=>kW T F e I
  |.brk I=>cq (.next I)
  |.ret r=>cq (.ret r)
noncomputable def ZV(z:CO (List D))(T:Tg)(F:CO Fl)(γ:Ctx):Option Fl:=(z γ).bind λa=>kW T F a γ
noncomputable def kf:Cell->Cell
 |.own _=>.no
 |.nest _=>.no
 |c=>c
noncomputable def jk(n:Nat)(z:List Nat)(γ:Ctx):Ctx:=IE n Cell.no++z.map λj=>kf<|γ[j]?.getD .no
noncomputable def zY(T:Tg)(k:CO Bool)(f:CO D)(γ:Ctx):List D->Option (List D)
 |[]=>cq []
 |d::ds=>(kL T d γ).bind λa=>(k a).bind λb=>if b=da then (f a).bind λe=>(zY T k f γ ds).map λr=>e::r else zY T k f γ ds
noncomputable def zU(z:CO (List D))(T:Tg)(n:Nat)(I:List Nat)(k:CO Bool)(f:CO D)(γ:Ctx):Option (List D):=(z γ).bind λa=>if a.length<=lim then zY T k f (jk n I γ) a else none
noncomputable def jw:CO Bool:=λ_=>cq da
noncomputable def Tg.idx:Tg->List Nat
 |.nm i=>[i]
 |.tp is=>is
noncomputable def dI(g:Int->Int->D):D->D->Option D
 |.int i,.int j=>cq (g i j)
 |_,_=>none
noncomputable def O7(c:Int->Int->Bool)(g:Int->Int->D):D->D->Option D
 |.int i,.int j=>if c i j=da then cq (g i j)else none
 |_,_=>none
noncomputable def cU:D->D->Option D:=dI λi j=>.int (i-j)
noncomputable def XF(i j:Int):Bool:=decide (i.natAbs<2^64) || decide (j.natAbs<2^64)
noncomputable def CA(_ j:Int):Bool:=decide (0<j)&&decide (j.natAbs<1073741824)
noncomputable def Xc:D->D->Option D:=O7 CA λi j=>.int (i/j)
noncomputable def EE(_ j:Int):Bool:=decide<|0<j
noncomputable def yT:D->D->Option D:=O7 EE λi j=>.int (i%j)
noncomputable def Cz(i j:Int):Bool:=decide (0<=j)&&decide (j.natAbs<=1000000)&&decide (i.natAbs<2^64)
noncomputable def uk:D->D->Option D:=O7 Cz λi j=>.int (i^j.toNat)
noncomputable def DZ:D->D->Option D:=dI λi j=>.bl (decide<|i<j)
noncomputable def Tp:D->D->Option D:=dI λi j=>.bl (decide<|i<=j)
noncomputable def p7:D->D->Option D:=dI λi j=>.bl (decide<|j<i)
noncomputable def qu:D->D->Option D
 |.int i,.int j=>cq (.int<|i+j)
 |.tup xs,.tup ys=>if xs.length+ys.length<=lim then cq (.tup<|xs++ys)else none
 |_,_=>none
noncomputable def yw:D->D->Option D
 |.int i,.int j=>if XF i j=da then cq (.int<|i*j)else none
 |.tup xs,.int j=>if xs.length*j.toNat<=lim/\inR j=da then cq (.tup (IE j.toNat xs).flatten)else none
 |_,_=>none
noncomputable def JF(f g:CO (Sk×List D))(γ:Ctx):Option (List D):=(f γ).bind λa=>(g γ).bind λb=>
 match a.1,b.1 with
 |.L,.L=>if a.2.length+b.2.length<=lim then cq (a.2++b.2)else none
 |_,_=>none
noncomputable def Yq(f:CO (Sk×List D))(g:CO D)(γ:Ctx):Option (List D):=(f γ).bind λa=>((g γ).bind o6).bind λj=>
 match a.1 with
 |.L=>if a.2.length*j.toNat<=lim/\inR j=da then cq (IE j.toNat a.2).flatten else none
 |_=>none
noncomputable def hH(n:Nat)(i:Int):Option Nat:=if 0<=i/\i<n then cq i.toNat else if i<0/\0<=i+n then cq (i+n).toNat else none
noncomputable def dj(f:CO (Sk×List D))(g:CO D)(γ:Ctx):Option D:=(f γ).bind λa=>((g γ).bind o6).bind λi=>(hH a.2.length i).bind λk=>a.2[k]?
noncomputable def dM(i:Nat)(g f:CO D)(γ:Ctx):Option Fl:=(f γ).bind λd=>(ya γ[i]?).bind λa=>((g γ).bind o6).bind λk=>(hH a.length k).map λj=>.next (γ.set i<|.own<|a.set j d)
noncomputable def Wc(n dflt:Nat):Option Int->Nat
 |none=>dflt
 |some i=>if i<0 then (i+n).toNat else min i.toNat n
noncomputable def cV(xs:List D)(lo z:Option Int):List D:=(xs.drop<|Wc xs.length 0 lo).take (Wc xs.length xs.length z-Wc xs.length 0 lo)
noncomputable def cS:CO (Option Int):=λ_=>cq none
noncomputable def p5(f:CO D)(γ:Ctx):Option (Option Int):=((f γ).bind o6).map cq
noncomputable def WL(f:CO D)(l h:CO (Option Int))(γ:Ctx):Option D:=(f γ).bind λd=>(l γ).bind λlo=>(h γ).bind λa=>match d with
 |.tup b=>cq (.tup<|cV b lo a)
 |_=>none
noncomputable def VC(f:CO (Sk×List D))(γ:Ctx):Option D:=(f γ).map λa=>.int a.2.length
inductive Ty where
 |int|bool|str|tuple|list
 deriving DecidableEq
@[simp] noncomputable def oZ:D->Bool
 |.int _=>da
 |.bl _=>da
 |_=>di
@[simp] noncomputable def Cc:D->Bool
 |.bl _=>da
 |_=>di
@[simp] noncomputable def oW:D->Bool
 |.str _=>da
 |_=>di
@[simp] noncomputable def oV:D->Bool
 |.tup _=>da
 |_=>di
@[simp] noncomputable def oY:D->Bool
 |.lst _=>da
 |_=>di
noncomputable def oU:Ty->D->Bool
 |.int=>oZ
 |.bool=>Cc
 |.str=>oW
 |.tuple=>oV
 |.list=>oY
noncomputable def DO(T:Ty)(f:CO D)(γ:Ctx):Option D:=(f γ).map λd=>.bl (oU T d)
@[simp] noncomputable def J':D->Bool
 |.d7=>da
 |_=>di
@[simp] noncomputable def eqB(a:Bool):D->Bool
 |.bl b=>a==b
 |.int b=>(if a then 1 else 0)==b
 |_=>di
@[simp] noncomputable def Sq(a:Int):D->Bool
 |.bl b=>a==(if b then 1 else 0)
 |.int b=>a==b
 |_=>di
@[simp] noncomputable def Sr(a:Str):D->Bool
 |.str b=>a==b
 |_=>di
@[simp] noncomputable def J_(a:Str)(i:Option Int):D->Bool
 |.exc b j=>a==b&&i==j
 |_=>di
mutual
def hB:D->D->Bool
 |.d7,y=>J' y
 |.bl a,y=>eqB a y
 |.int a,y=>Sq a y
 |.str a,y=>Sr a y
 |.tup xs,y=>match y with
  |.tup e=>sk xs e
  |_=>di
 |.lst xs,y=>match y with
  |.lst e=>sk xs e
  |_=>di
 |.exc a i,y=>J_ a i y
 |.nr a b,y=>match y with
  |.nr c d=>sk a c&&sk b d
  |_=>di
 |.ov a b,y=>match y with
  |.ov c d=>a==c&&sk b d
  |_=>di
 |.ins a b c,y=>match y with
  |.ins I O U=>a==I&&(hB b O&&hB c U)
  |_=>di
def sk:List D->List D->Bool
 |[],[]=>da
 |x::xs,y::ys=>hB x y&&sk xs ys
 |_,_=>di
end
mutual
def deep:D->Nat
 |.tup a=>xr a+1
 |.lst a=>xr a+1
 |_=>0
def xr:List D->Nat
 |[]=>0
 |x::xs=>max (deep x)<|xr xs
end
mutual
def ir:D->Bool
 |.str x=>x.cps.all (· < 0x110000)
 |.exc _ _=>di
 |.nr _ _=>di
 |.ov _ _=>di
 |.ins _ _ _=>di
 |.tup a=>m3 a
 |.lst a=>m3 a
 |_=>da
def m3:List D->Bool
 |[]=>da
 |x::xs=>ir x&&m3 xs
end
noncomputable def l8(d:D):Bool:=decide (deep d<=20)&&ir d
noncomputable def gw(x y:D):Option D:=if l8 x=da/\l8 y=da then cq (.bl<|hB x y)else none
noncomputable def l5(x y:D):Option D:=if l8 x=da/\l8 y=da then cq (.bl<|!hB x y)else none
noncomputable def Cv:D->D->Option D
 |x,.d7=>cq (.bl<|match x with|.d7=>da|_=>di)
 |_,_=>none
noncomputable def QA:D->D->Option D
 |x,.d7=>cq (.bl<|match x with|.d7=>di|_=>da)
 |_,_=>none
noncomputable def jb(f:CO (Sk×List D))(γ:Ctx):Option D:=(f γ).map λa=>.tup a.2
noncomputable def dP(f:CO (Sk×List D))(γ:Ctx):Option (List D):=(f γ).map λa=>a.2
noncomputable def ba:List D->Option Int
 |[]=>cq 0
 |.int i::r=>(ba r).map λs=>i+s
 |_::_=>none
noncomputable def iH(f:CO (Sk×List D))(γ:Ctx):Option D:=(f γ).bind λa=>(ba a.2).map D.int
noncomputable def ES:D->Option Bool
 |.d7=>cq di
 |.bl b=>cq b
 |.int i=>cq (i != 0)
 |_=>none
noncomputable def Yb:List D->Option (List Bool)
 |[]=>cq []
 |d::r=>(ES d).bind λb=>(Yb r).map λs=>b::s
noncomputable def uQ(f:CO (Sk×List D))(γ:Ctx):Option D:=(f γ).bind λa=>(Yb a.2).map λs=>.bl (s.any id)
noncomputable def dQ(f:CO D)(γ:Ctx):Option D:=(f γ).bind λd=>match d with
 |.int i=>cq (.int i)
 |.bl b=>cq (.int<|if b then 1 else 0)
 |_=>none
noncomputable def lu(f g:CO D)(γ:Ctx):Option D:=((f γ).bind o6).bind λi=>((g γ).bind o6).map λj=>.int (if j>i then j else i)
noncomputable def rK(f:CO (Sk×List D))(γ:Ctx):Option Bool:=(f γ).map λa=> !a.2.isEmpty
noncomputable def rO(f:CO D):CO D:=λa=>((f a).bind o6).map λi=>.int (-i)
noncomputable def dU(F G:D->D->Option D)(I J L:CO D):CO D:=λa=>(I a).bind λx=>(J a).bind λy=>((F x y).bind C8).bind λb=>if b=da then (L a).bind λz=>G y z else cq (.bl di)
noncomputable def rL(T:Tg)(f:CO D)(γ:Ctx):Option Fl:=(f γ).bind λd=>(kL T d γ).map .next
end DL
namespace L2
open PySem PySem.Spec PyProof.Rows
noncomputable def i4(k:Sk)(h:eh)(i l:dv)(n:Nat):Prop:=match k with
 |.L=>h.IsListIter i l n
 |.T=>h.IsTupleIter i l n
noncomputable def m6(k:Sk)(h:eh)(l:dv)(xs:Array dy):Prop:=match k with
 |.L=>h.IsList l xs
 |.T=>h.IsTuple l xs
noncomputable def i7(k:Sk)(l:dv):jn:=match k with
 |.L=>{cls:=.type "list_iterator",data:=.fields #[.ref l,.int 0 0]}
 |.T=>{cls:=.type "tuple_iterator",data:=.fields #[.ref l,.int 0 0]}
theorem i4.at(x:i4 k h i l n)(e:∀o,h.get? i=cq o->h'.get? i=cq o):i4 k h' i l n:=by cases k<;>exact let ⟨o,I,r⟩:=x;⟨o,e _ I,r⟩
theorem m6.at(x:m6 k h l xs)(e:∀o,h.get? l=cq o->h'.get? l=cq o):m6 k h' l xs:=by cases k<;>exact let ⟨o,I,r⟩:=x;⟨o,e _ I,r⟩
theorem i4.obj(x:i4 k h i l n):∃o,h.get? i=cq o/\∀v,o.data ≠ .cell v:=by cases k<;>exact let ⟨o,I,_,d⟩:=x;⟨o,I,λv z=>by rw[d]at z;cases z⟩
theorem m6.lt(x:m6 k h l xs):l<h.objs.size:=by cases k<;>exact let ⟨o,I,_⟩:=x;IP I
theorem JZ(k:Sk)(h:eh)(l:dv):i4 k (h.push<|i7 k l) h.objs.size l 0:=by cases k<;>exact⟨_,IS _ rfl,rfl,rfl⟩
section
variable{prog:g8}{w:f7}{A:i5}{E:EQ}{s:d6}
theorem aq(I:m6 k s.heap l xs)(O:Q (.ref s.heap.objs.size) {s with heap:=s.heap.push (i7 k l)}):wpAny (d9 prog w) A (SM<|.ref l) Q E s:=by
 cases k
 ·exact RW I O
 ·exact Pg I O
theorem kJ(U:i4 k s.heap it l i)(Y:m6 k s.heap l items)(hx:items[i]? = cq x)
 (z:∀h',i4 k h' it l (i+1)->NI it s.heap h'->Q x {s with heap:=h'}):wpAny (d9 prog w) A (IY<|.ref it) Q E s:=by
 cases k with
 |L=>exact wpAny_nextOf_list_item U Y hx z
 |T=>
  have O:s.heap.IsTupleIter it l i:=U;obtain⟨o,I,e,a⟩:=id O;obtain⟨g,b,_,f,d⟩:=(show s.heap.IsTuple l items from Y);unfold IY;refine Iz (LC (name:=Lw "__next__") O.typeIs OX (Me OX O.typeIs I_ ?_ (D_ _)));refine Iz (m:=field (.ref it) 0) (LI I a (x:=.ref l) rfl ?_);show wpAny _ _ (if (Lr l==LV)=da then _ else _) _ _ s;rw[UY (show ¬((Lr l==LV)=da)from Lb)];refine Iz (m:=field (.ref it) 1) (LI I a (x:=.int i 0) rfl ?_);refine Iz (m:=T3 (.ref l)) (Mn b d ?_);simp only[Mm,hx];refine Iz (wpAny_setField I a ⋯ (IH ⟨x,rfl,IH (z _ ?_ (NI.update ..))⟩));show Heap.IsTupleIter _ it l (i+1);exact⟨_,Mj _ I (Obj.isFreed_of_fields (Ry a _)),(Obj.cls_mapFields ..).trans e,by rw[Ry a];simp[Dl]⟩
theorem wH(I:A.handled=none)(Y:i4 k s.heap it l i)(z:m6 k s.heap l items)(hx:items[i]? = none)
 (hE:∀h' e,Heap.ExtBut it s.heap h'->(∃o,h'.get? e=cq o/\o.cls=.type "StopIteration")->E (.ref e) {s with heap:=h'}):wpAny (d9 prog w) A (IY (.ref it)) Q E s:=by
 cases k with
 |L=>exact wpAny_nextOf_list_end I Y z hx hE
 |T=>
  have O:s.heap.IsTupleIter it l i:=Y;obtain⟨o,U,g,b⟩:=id O;obtain⟨j,d,_,h,f⟩:=(show s.heap.IsTuple l items from z);unfold IY;refine Iz (LC (name:=Lw "__next__") O.typeIs OX (Me OX O.typeIs I_ ?_ (D_ _)));refine Iz (m:=field (.ref it) 0) (LI U b (x:=.ref l) rfl ?_);show wpAny _ _ (if (Lr l==LV)=da then _ else _) _ _ s;rw[UY (show ¬((Lr l==LV)=da)from Lb)];refine Iz (m:=field (.ref it) 1) (LI U b (x:=.int i 0) rfl ?_);refine Iz (m:=T3 (.ref l)) (Mn d f ?_);simp only[Mm,hx];refine Iz (Oq (Iz (wpAny_setField U b ⋯ ?_)));refine Iz (m:=newExc (.type "StopIteration") []) ?_;simp only[newExc,newTuple];refine Iz (Mp ?_ (by size_fits));refine Iz (m:=Ts _ _) (wpAny_of_eq (a:=LV) (by first|rfl|(simp only[Ts];rfl)) ?_);refine Mp ?_ (by size_fits);simp only[raiseNew];refine Iz (wpAny_handled ?_)
  first|rw[show A.in1.handled=none from I]|rw[I]
  exact Iz<|IH<|wpAny_throw<|hE _ _ (((NI.update ..).extBut.push _).push _) ⟨_,IS _ rfl,rfl⟩
theorem K0{k1 k2:Sk}{z TI TO J L Z l2:dv}{n1 n2:Nat}{xs ys:Array dy}{x y a b:dy}{Q:EQ}(D:B8 z TI TO J L Z l2)
 (hz:t6 s.heap z TI TO .none) (b2:m4 s.heap TI (.ref J) (.ref L)) (b3:m4 s.heap TO a b)
 (h1:i4 k1 s.heap J Z n1) (h2:i4 k2 s.heap L l2 n2) (b4:m6 k1 s.heap Z xs) (b5:m6 k2 s.heap l2 ys) (hx:xs[n1]? = cq x) (hy:ys[n2]? = cq y)
 (hQ:∀h',t6 h' z TI TO (Dl s.heap.objs.size)->m4 h' TO x y->i4 k1 h' J Z (n1+1)->i4 k2 h' L l2 (n2+1)->m4 h' s.heap.objs.size x y->h'.objs.size=s.heap.objs.size+1->
   (∀c o,c≠z->c≠TO->c≠J->c≠L->s.heap.get? c=cq o->h'.get? c=cq o)->Q (.ref s.heap.objs.size) {s with heap:=h'}):
 wpAny (d9 prog w) A (Builtin.«zip.__next__» ⟨[.ref z],[]⟩) (λb8 s'=>∃v,b8=.done (.ret v)/\Q v s') E s:=by
 refine Iz (m:=field (.ref z) 2)<|LI hz rfl (x:=.bool di) rfl ?_;refine Iz (m:=field (.ref z) 3)<|LI hz rfl (x:=.ref TI) rfl ?_;refine Iz<|Mn b2 rfl ?_;refine Iz (m:=Lh<|.ref z) ?_;unfold Lh;refine Iz<|LI hz rfl (x:=.none) rfl<|IH ?_;simp only[if_true];refine Iz<|Oq<|Iz<|LI hz rfl (x:=.ref TO) rfl ?_;refine Iz<|Mi hz ⋯ λg1 p O=>?_;replace p:t6 g1 z TI TO .ellipsis:=p;refine Iz ?_;simp only[List.zipIdx_cons,List.zipIdx_nil,OG,OU];refine Iz<|Iz<|RO ?_;refine Iz (m:=IY<|.ref J)<|kJ (h1.at λo e=>O.extBut _ _ D.i1z e) (b4.at λo e=>O.extBut _ _ D.l1z e) hx λg2 P Y=>IH ?_;have G:m4 g2 TO a b:=Y.extBut _ _ D.TOi1<|O.extBut _ _ D.TOz b3;refine Iz<|Mn G rfl<|Iz<|Rv G λg3 r d=>?_;replace r:m4 g3 TO x b:=r;refine Iz<|PD<|IH<|Iz<|Iz<|RO ?_;refine Iz (m:=IY<|.ref L)<|kJ (h2.at λo e=>d.extBut _ _ D.TOi2.symm<|Y.extBut _ _ D.i12.symm<|O.extBut _ _ D.i2z e) (b5.at λo e=>d.extBut _ _ D.l2TO<|Y.extBut _ _ D.l2i1<|O.extBut _ _ D.l2z e) hy λW R f=>IH ?_;have H:m4 W TO x b:=f.extBut _ _ D.TOi2 r;refine Iz<|Mn H rfl<|Iz<|Rv H λI j g=>?_;replace j:m4 I TO x y:=j;refine Iz<|PD<|IH<|IH<|Iz<|Mn j rfl<|Iz<|RD ?_;have i:I.objs.size=s.heap.objs.size:=by rw[g.1,f.1,d.1,Y.1,O.1]
 have as:t6 I z TI TO .ellipsis:=g.extBut _ _ D.TOz.symm (f.extBut _ _ D.i2z.symm (d.extBut _ _ D.TOz.symm (Y.extBut _ _ D.i1z.symm p)));have bg:∀c o,c≠z->c≠TO->c≠J->c≠L->s.heap.get? c=cq o->I.get? c=cq o:=λc o U l C F e=>g.extBut _ _ l (f.extBut _ _ F (d.extBut _ _ l (Y.extBut _ _ C (O.extBut _ _ U e))));have S:i4 k1 I J Z (n1+1):=P.at λo e=>g.extBut _ _ D.TOi1.symm (f.extBut _ _ D.i12 (d.extBut _ _ D.TOi1.symm e));have bl:i4 k2 I L l2 (n2+1):=R.at λo e=>g.extBut _ _ D.TOi2.symm e;have K:z<I.objs.size:=IP as;refine Iz (m:=ME (.ref z) (.ref I.objs.size)) ?_;unfold ME;have T:t6 (I.push {cls:=.type "tuple",data:=.seq #[x,y]}) z TI TO .ellipsis:=IB _ as;refine Iz (Mi T ⋯ λX t u=>?_);replace t:t6 X z TI TO (Dl I.objs.size):=t;refine Mi t ⋯ λh k B=>?_;replace k:t6 h z TI TO (Dl I.objs.size):=k;have n:∀c o,c≠z->I.get? c=cq o->h.get? c=cq o:=λc o U e=>B.extBut _ _ U (u.extBut _ _ U (IB _ e));have M:m4 h I.objs.size x y:=B.extBut _ _ (MS K) (u.extBut _ _ (MS K) (IS _ rfl));have N:h.objs.size=I.objs.size+1:=by rw[B.1,u.1,Lx]
 rw[i]at k M N;refine IH ⟨_,rfl,?_⟩;show Q (.ref I.objs.size) _;rw[i];exact hQ h k (n _ _ D.TOz j) (S.at λo e=>n _ o D.i1z e) (bl.at λo e=>n _ o D.i2z e) M N λc o U l C F e=>n c o U<|bg c o U l C F e
theorem Wq{k1 k2:Sk}{z TI TO J L Z l2:dv}{n1 n2:Nat}{xs ys:Array dy}{a b:dy}{Q:Fin->d6->Prop}(hh:A.handled=none)(D:B8 z TI TO J L Z l2)
 (hz:t6 s.heap z TI TO .none) (am:m4 s.heap TI (.ref J) (.ref L)) (an:m4 s.heap TO a b)
 (h1:i4 k1 s.heap J Z n1) (h2:i4 k2 s.heap L l2 n2) (ab:m6 k1 s.heap Z xs) (ap:m6 k2 s.heap l2 ys) (as:xs[n1]? = none\/ys[n2]? = none)
 (hE:∀h' e,(∀c o,c≠z->c≠TO->c≠J->c≠L->s.heap.get? c=cq o->h'.get? c=cq o)->(∃o,h'.get? e=cq o/\o.cls=.type "StopIteration")->E (.ref e) {s with heap:=h'}):
 wpAny (d9 prog w) A (Builtin.«zip.__next__» ⟨[.ref z],[]⟩) Q E s:=by
 refine Iz (m:=field (.ref z) 2) (LI hz rfl (x:=.bool di) rfl ?_);refine Iz (m:=field (.ref z) 3) (LI hz rfl (x:=.ref TI) rfl ?_);refine Iz (Mn am rfl ?_);refine Iz (m:=Lh (.ref z)) ?_;unfold Lh;refine Iz (LI hz rfl (x:=.none) rfl (IH ?_));simp only[if_true];refine Iz (Oq (Iz (LI hz rfl (x:=.ref TO) rfl ?_)));refine Iz (Mi hz ⋯ λg1 l I=>?_);replace l:t6 g1 z TI TO .ellipsis:=l;refine Iz ?_;simp only[List.zipIdx_cons,List.zipIdx_nil,OG,OU];refine Iz (Iz (RO ?_));have t:∀{g e:_} {i:jn},t6 g z TI TO .ellipsis->(∀c o,c≠z->c≠TO->c≠J->c≠L->s.heap.get? c=cq o->g.get? c=cq o)->g.get? e=cq i->i.cls=.type "StopIteration"->
  wpAny (d9 prog w) A (R0 (.ref z) 0 .none) (λ_ F=>E (.ref e) F) E {s with heap:=g}:=λ{g e i} k hk U d=>by
  have B:e≠z:=λq=>by subst q;rw[k]at U;cases U;simp at d
  exact Mi k ⋯ λg3 _ Y=>hE g3 e (λc o f n j p q=>Y.extBut _ _ f<|hk c o f n j p q) ⟨i,Y.extBut _ _ B U,d⟩
 cases hx:xs[n1]? with
 |none=>
  refine Iz (m:=IY<|.ref J)<|wH hh (h1.at λo e=>I.extBut _ _ D.i1z e) (ab.at λo e=>I.extBut _ _ D.l1z e) hx λg2 e O r=>?_;obtain⟨i,U,d⟩:=r;exact t (O _ _ D.i1z.symm l) (λc o f _ j _ q=>O _ _ j<|I.extBut _ _ f q) U d
 |some x=>
  have C:ys[n2]? = none:=by rcases as with h|h;rw[hx]at h;cases h;exact h
  refine Iz (m:=IY<|.ref J)<|kJ (h1.at λo e=>I.extBut _ _ D.i1z e) (ab.at λo e=>I.extBut _ _ D.l1z e) hx λg2 G O=>IH ?_;have u:m4 g2 TO a b:=O.extBut _ _ D.TOi1<|I.extBut _ _ D.TOz an;refine Iz<|Mn u rfl<|Iz<|Rv u λg3 H Y=>?_;refine Iz<|PD<|IH<|Iz<|Iz<|RO ?_;refine Iz (m:=IY<|.ref L)<|wH hh (h2.at λo e=>Y.extBut _ _ D.TOi2.symm<|O.extBut _ _ D.i12.symm<|I.extBut _ _ D.i2z e) (ap.at λo e=>Y.extBut _ _ D.l2TO<|O.extBut _ _ D.l2i1<|I.extBut _ _ D.l2z e) C λK e y r=>?_;obtain⟨i,U,d⟩:=r;exact t (y _ _ D.i2z.symm<|Y.extBut _ _ D.TOz.symm<|O.extBut _ _ D.i1z.symm l) (λc o f n j p q=>y _ _ p<|Y.extBut _ _ n<|O.extBut _ _ j<|I.extBut _ _ f q) U d
end
noncomputable def kG(a b:dy):jn:={cls:=.type "tuple",data:=.seq #[a,b]}
noncomputable def Eb(TI TO:dv):jn:={cls:=.type "zip",data:=.fields #[.none,.bool di,.bool di,.ref TI,.ref TO]}
noncomputable def yV(k1 k2:Sk)(h:eh)(I z:dv):eh:=
 Lj (Lj (Lj (Lj (Lj h<|i7 k1 I)<|i7 k2 z)<|kG (.ref h.objs.size)<|.ref<|h.objs.size+1)<|kG .none .none) (Eb (h.objs.size+2)<|h.objs.size+3)
theorem Wp(k1 k2:Sk)(I z:dv)(xs ys:Array dy):
 Ig (Builtin.«zip.__new__» ⟨[.type "zip",.ref I,.ref z],[]⟩) (λ_ R s=>m6 k1 s.heap I xs/\m6 k2 s.heap z ys/\
  R (.ok<|.ret<|.ref<|s.heap.objs.size+4) {s with heap:=yV k1 k2 s.heap I z}):=
 .of_wp λa w A R s h=>by
  obtain⟨O,g,d,b,os⟩:=s;obtain⟨U,Y,h⟩:=h;have j:=sub_zip;have f:m6 k1 (Shared.heap ⟨O,g,d,b,os⟩) I xs:=U;have i:m6 k2 (Shared.heap ⟨O.push<|i7 k1 I,g,d,b,os⟩) z ys:=Y.at λo e=>IB _ e
  wp_walk using aq f,aq i
  refine⟨_,rfl,?_⟩;simp only[yV,kG,Eb,Lx]at h ⊢;exact h
section
variable{X:Cx}{pins:UQ}{σ:St}{H:Hp}{s:d6}{h':eh}
theorem Inv.Ua{t':Nat}{fp:List dv}{a:dv}{o:HO}(I:Inv X pins σ H s)(k:∀b u,b∉fp->s.heap.get? b=cq u->h'.get? b=cq u)(J:∀b∈fp,vR X pins H b)
 (L:s.heap.objs.size<=a) (new:j1 X.prog X.w (upd H a o) h' a o):Inv X pins σ (upd H a o) {s with heap:=h',toks:=t'}:=by
 have d:H a=none:=I.ej.fresh L;have f:∀b u,H b=cq u->b∉fp:=λb u e z=>by rw[(J b z).1]at e;cases e
 have h:∀b u,s.heap.get? b=cq u->b≠a:=λb u e=>IX<|IV (IP e) L;refine I.step (g':=s.gens) (d':=s.drawn) (ch:=fp) (λb O=>⟨(J b O).2.2.2.1,(J b O).2.1,(J b O).2.2.2.2.1,(J b O).2.2.2.2.2⟩) (λb u _ _ U e _=>k b u U e) (λb u _ _ U e _=>⟨u.slots,k b u U e⟩)
  (λb u _ e n=>by rw[zK (h b u e)];exact n) (λb u U e=>⟨u,k b u U e⟩) (λb g e=>by rw[zK (ju e d)];exact e) (λb Y g e=>by rw[zK (ju e d)];exact e)
  (λb t e=>⟨#[],by rw[zK (ju e d),e];simp⟩) (λm l=>?_) (λb u e=>?_) I.bare
 ·obtain⟨Y,j,i,p,r⟩:=l
  refine⟨Y,j,i,k _ Y (λz=>(J _ z).2.1 rfl) p,r⟩
 ·by_cases O:b=a
  ·subst O;rw[zM]at e;cases e;exact new
  ·rw[zK O]at e
   refine(I.ej b u e).A8 (λc v U q=>k c v ?_ q) (λc q=>by rw[zK (ju q d)];exact q) λc g q=>by rw[zK (ju q d)];exact q
   rcases U with z|z
   ·rw[z];exact f b u e
   ·exact f c _ z
theorem Inv.C7{t':Nat}{fp:List dv}(I:Inv X pins σ H s)(k:∀b u,b∉fp->s.heap.get? b=cq u->h'.get? b=cq u)(J:∀b∈fp,vR X pins H b):Inv X pins σ H {s with heap:=h',toks:=t'}:=by
 have a:∀b u,H b=cq u->b∉fp:=λb u e z=>by rw[(J b z).1]at e;cases e
 refine I.step (g':=s.gens) (d':=s.drawn) (ch:=fp) (λb U=>⟨(J b U).2.2.2.1,(J b U).2.1,(J b U).2.2.2.2.1,(J b U).2.2.2.2.2⟩) (λb u _ _ O e _=>k b u O e) (λb u _ _ O e _=>⟨u.slots,k b u O e⟩)
  (λb u _ e n=>n) (λb u O e=>⟨u,k b u O e⟩) (λb d e=>e) (λb Y d e=>e)
  (λb j e=>⟨#[],by rw[e];simp⟩) (λm h=>?_) (λb u e=>?_) I.bare
 ·obtain⟨Y,g,f,i,r⟩:=h
  refine⟨Y,g,f,k _ Y (λz=>(J _ z).2.1 rfl) i,r⟩
 ·refine(I.ej b u e).A8 (λc v O q=>k c v ?_ q) (λc q=>q) λc d q=>q
  rcases O with z|z
  ·rw[z];exact a b u e
  ·exact a c _ z
end
noncomputable def l9(k:Sk)(K:Iy)(H:Hp)(a:dv)(xs:List V):Prop:=match k with
 |.L=>gv K H a xs
 |.T=>gR K H a xs
theorem Inv.sq(I:Inv X pins σ H s)(h:l9 k X.K H a xs):
 ∃its:List dy,eL xs its/\m6 k s.heap a its.toArray/\xs.length<=el:=by
 cases k with
 |L=>obtain⟨its,r,p,z⟩:=I.list h;exact⟨its,r,p.isList,z⟩
 |T=>obtain⟨its,r,p,z⟩:=I.tuple h;exact⟨its,r,p,z⟩
theorem Inv.T4(I:Inv X pins σ H s)(h:l9 k X.K H a xs)(h':l9 k X.K H a ys):xs=ys:=by
 cases k with
 |L=>exact I.TK h h'
 |T=>exact I.U6 h h'
noncomputable def S6(k1 k2:Sk)(K:Iy)(a b:dv):It:=
 ⟨λi H=>∃d e,l9 k1 K H a d/\l9 k2 K H b e/\i<d.length/\i<e.length,
  λi H x f=>∃p u v,x=.ref p/\H p=none/\f=upd H p (.tup [u,v])/\(∀d,l9 k1 K H a d->d[i]? = cq u)/\(∀e,l9 k2 K H b e->e[i]? = cq v),
  λi H=>∃d e,l9 k1 K H a d/\l9 k2 K H b e/\(d.length<=i\/e.length<=i)⟩
theorem iQ{P:g8}{w:f7}{K:Iy}{elts:List ec}{x1:Nat}{tx:fh}(k1 k2:Sk){z TI TO i1 i2 a b:dv}(D:B8 z TI TO i1 i2 a b):
 Turn P w K (.Tuple elts x1 tx) (S6 k1 k2 K a b) [z,TI,TO,i1,i2] z (λi h=>t6 h z TI TO .none/\m4 h TI (.ref i1) (.ref i2)/\(∃c d,m4 h TO c d)/\i4 k1 h i1 a i/\i4 k2 h i2 b i) where
 mem:=by simp
 obj:=λi h ⟨hz,Y,⟨c,d,a8⟩,h1,h2⟩ y hy=>by
  simp only[IM,IW,or_false]at hy;rcases hy with rfl|rfl|rfl|rfl|rfl
  ·exact⟨_,hz,λv q=>by cases q⟩
  ·exact⟨_,Y,λv q=>by cases q⟩
  ·exact⟨_,a8,λv q=>by cases q⟩
  ·exact h1.obj
  ·exact h2.obj
 keep:=λi h h' ⟨hz,Y,⟨c,d,a8⟩,h1,h2⟩ k=>
  ⟨k z ⋯ _ hz,k TI ⋯ _ Y,⟨c,d,k TO ⋯ _ a8⟩,h1.at λo e=>k i1 ⋯ o e,h2.at λo e=>k i2 ⋯ o e⟩
 item:=by
  rintro X hP hw hK hc i pins s σ H E I hf ⟨hz,Y,⟨c,d,a8⟩,h1,h2⟩ ⟨xs,ys,ac,ae,b1,b2⟩;subst hP hw hK;obtain⟨b3,am,p1,z1⟩:=I.sq ac;obtain⟨b5,ap,p2,z2⟩:=I.sq ae;have hx:xs[i]? = cq xs[i]:=ID b1;have hy:ys[i]? = cq ys[i]:=ID b2;obtain⟨u1,b7,b8⟩:=am.get hx;obtain⟨u2,b9,bb⟩:=ap.get hy;have hT:s.TypeIs (.ref z) "zip":=⟨_,hz,rfl⟩;unfold A6;refine Iz (MV (LC (name:=Lw "__next__") hT Mw (Me Mw hT NK
   (K0 D hz Y a8 h1 h2 p1 p2 (x:=u1) (y:=u2) (by simpa using b7) (by simpa using b9) λg a1 a2 a3 a4 a5 a6 a7=>IH ⟨_,rfl,?_⟩) (NC _))))
  refine wpAny_letOwnedTupleGo_zip a1 λg2 TH a9=>?_;have lt:∀{c o},s.heap.get? c=cq o->s.heap.objs.size≠c:=λe=>MS<|IP e;have bl:m4 g2 s.heap.objs.size u1 u2:=a9.extBut _ _ (lt hz) a5;have kk:∀U u,U ∉ [z,TI,TO,i1,i2]->s.heap.get? U=cq u->g2.get? U=cq u:=λU u O e=>by simp only[IM,IW,or_false,not_or]at O;exact a9.extBut _ _ O.1<|a7 U u O.1 O.2.2.1 O.2.2.2.1 O.2.2.2.2 e
  have I1:Inv X pins σ (upd H s.heap.objs.size<|.tup [xs[i],ys[i]]) {s with heap:=g2,toks:=s.toks}:=
   I.Ua (fp:=[z,TI,TO,i1,i2]) kk hf (II _) ⟨by show 2<=el;decide,[u1,u2],.cons b8<|.cons bb .nil,⟨_,bl,rfl,_,rfl⟩⟩
  have bn:H s.heap.objs.size=none:=I.fresh;refine⟨.ref s.heap.objs.size,_,I1,rfl,⟨_,_,_,rfl,bn,rfl,λc3 as=>by rw[I.T4 as ac];exact hx,λc4 as=>by rw[I.T4 as ae];exact hy⟩,?_,λU O=>?_⟩
  ·exact⟨TH,a9.extBut _ _ D.TIz<|a7 _ _ D.TIz D.TITO D.TIi1 D.TIi2 Y,⟨_,_,a9.extBut _ _ D.TOz a2⟩,a3.at λo e=>a9.extBut _ _ D.i1z e,a4.at λo e=>a9.extBut _ _ D.i2z e⟩
  ·have br:U≠s.heap.objs.size:=by
    simp only[IM,IW,or_false]at O;rcases O with rfl|rfl|rfl|rfl|rfl
    ·exact(lt hz).symm
    ·exact(lt Y).symm
    ·exact(lt a8).symm
    ·obtain⟨o,e,_⟩:=h1.obj;exact(lt e).symm
    ·obtain⟨o,e,_⟩:=h2.obj;exact(lt e).symm
   rw[zK br];exact(hf U O).1
 done:=by
  rintro X hP hw hK hc i pins s σ H E I hf ⟨hz,Y,⟨c,d,a8⟩,h1,h2⟩ ⟨xs,ys,ac,ae,hi⟩;subst hP hw hK;obtain⟨b3,am,p1,z1⟩:=I.sq ac;obtain⟨b5,ap,p2,z2⟩:=I.sq ae;have hT:s.TypeIs (.ref z) "zip":=⟨_,hz,rfl⟩;have l1:=am.length;have l2:=ap.length;unfold A6;refine Iz (MV (LC (name:=Lw "__next__") hT Mw (Me Mw hT NK
   (Wq (show X.A.handled=none from I.ok.hd hc) D hz Y a8 h1 h2 p1 p2 (by rcases hi with q|q;left;simp;omega;right;simp;omega) λg e hk he=>?_) (NC _))))
  obtain⟨o,ho,c1⟩:=he;refine Iz (PM (T:="StopIteration") (b:=da) ⟨o,ho,c1⟩ RE (IH ⟨rfl,?_⟩));refine I.C7 (t':=s.toks) (fp:=[z,TI,TO,i1,i2]) (λU u O e=>?_) hf;simp only[IM,IW,or_false,not_or]at O;exact hk U u O.1 O.2.2.1 O.2.2.2.1 O.2.2.2.2 e
 self:=λ_ _ _ _ _ st h=>Sb st.1 h
noncomputable def Ia(K:Iy)(z:TA):TI:=λj H R=>z j H λg d=>∃e f a b,g=[.ref a,.ref b]/\(∃h,l9 e K d a h)/\(∃i,l9 f K d b i)/\R (S6 e f K a b) d
theorem Ba{X:Cx}{L O:ec}{ta:TA}{p pos:fh}{z:List ec}{x1:Nat}{J:fh}(hg:Gl X "zip")(hm:X.mg "zip" = none)(ha:PA X [L,O] ta)
 (hv:Dd "zip" = cq (.type "zip")) (hs:eA [L,O] X.env=[(di,d8 L X.env),(di,d8 O X.env)]:=by rfl) (Z:eA [O] X.env=[(di,d8 O X.env)]:=by rfl):
 PI X (.Tuple z x1 J) (.Call (.Name "zip" p) [L,O] [] pos) (Ia X.K ta):=by
 intro j s C H R I h;refine D8 (xX I hg hm hv<|LA (eK (ha pos j s C H _ I h) λus d W=>?_) (by rw[hs,Z])<|by rw[Z];rfl);obtain⟨vs,r,U,r1,q1⟩:=W;obtain⟨f,g,a,b,e,⟨xs,G⟩,⟨ys,M⟩,q⟩:=q1;subst e;obtain⟨w1,w2,S,N,as⟩:=iO r1;subst S;cases N;cases as;obtain⟨P,b9,w,z1⟩:=U.sq G;obtain⟨Q,bd,x,z2⟩:=U.sq M;have la:=w.lt;have lb:=x.lt;refine callType_new F.called_zip ⋯ (F.typeCall_zip_2 _ _) (F.newCall_zip_2 _ _) (λobj=>F.args_object_init_3 obj _ _) F.entry_zip_new (Wp f g a b P.toArray Q.toArray) ⟨w,x,?_⟩;have keep:∀c o,d.heap.get? c=cq o->(yV f g d.heap a b).get? c=cq o:=λc o e=>
  IB _ (IB _<|IB _<|IB _<|IB _ e)
 have y:(Lj d.heap<|i7 f a).objs.size=d.heap.objs.size+1:=Lx ..;have A:(Lj (Lj d.heap<|i7 f a)<|i7 g b).objs.size=d.heap.objs.size+2:=by rw[Lx,y]
 have B:(Lj (Lj (Lj d.heap<|i7 f a)<|i7 g b)<|kG (.ref d.heap.objs.size)<|.ref<|d.heap.objs.size+1).objs.size=d.heap.objs.size+3:=by rw[Lx,A]
 have y4:(Lj (Lj (Lj (Lj d.heap<|i7 f a)<|i7 g b)<|kG (.ref d.heap.objs.size)<|.ref<|d.heap.objs.size+1)<|kG .none .none).objs.size=d.heap.objs.size+4:=by rw[Lx,B]
 have T:i4 f (yV f g d.heap a b) d.heap.objs.size a 0:=(JZ f d.heap a).at λo e=>IB _<|IB _<|IB _<|IB _ e;have g1:i4 g (yV f g d.heap a b) (d.heap.objs.size+1) b 0:=by have q:=JZ g (Lj d.heap<|i7 f a) b;rw[y]at q;exact q.at λo e=>IB _<|IB _<|IB _ e
 have g2:m4 (yV f g d.heap a b) (d.heap.objs.size+2) (.ref d.heap.objs.size) (.ref<|d.heap.objs.size+1):=by have q:_=cq (kG (.ref d.heap.objs.size)<|.ref<|d.heap.objs.size+1):=IS (Lj (Lj d.heap<|i7 f a)<|i7 g b) (o:=kG (.ref d.heap.objs.size)<|.ref<|d.heap.objs.size+1) rfl;rw[A]at q;exact IB _<|IB _ q
 have g3:m4 (yV f g d.heap a b) (d.heap.objs.size+3) .none .none:=by have q:_=cq (kG .none .none):=IS (Lj (Lj (Lj d.heap<|i7 f a)<|i7 g b)<|kG (.ref d.heap.objs.size)<|.ref<|d.heap.objs.size+1) (o:=kG .none .none) rfl;rw[B]at q;exact IB _ q
 have l:t6 (yV f g d.heap a b) (d.heap.objs.size+4) (d.heap.objs.size+2) (d.heap.objs.size+3) .none:=by have q:=IS (Lj (Lj (Lj (Lj d.heap<|i7 f a)<|i7 g b)<|kG (.ref d.heap.objs.size)<|.ref<|d.heap.objs.size+1)<|kG .none .none) (o:=Eb (d.heap.objs.size+2)<|d.heap.objs.size+3) rfl;rw[y4]at q;exact q
 refine⟨⟨_,l,rfl⟩,Sb (s:={d with heap:=yV f g d.heap a b}) l ?_⟩;have E:Inv X j C r {d with heap:=yV f g d.heap a b,toks:=d.toks}:=U.kept keep;have nn:∀m:Nat,d.heap.objs.size≠d.heap.objs.size+m+1:=λm=>by omega
 have Y:∀m:Nat,a≠d.heap.objs.size+m:=λm=>IX<|IV la<|Ln _ m;have k:∀m:Nat,b≠d.heap.objs.size+m:=λm=>IX<|IV lb<|Ln _ m;have i:∀m n:Nat,m≠n->(d.heap.objs.size+m:Nat)≠d.heap.objs.size+n:=λm n h=>by omega
 have D:B8 (d.heap.objs.size+4) (d.heap.objs.size+2) (d.heap.objs.size+3) d.heap.objs.size (d.heap.objs.size+1) a b:=
  ⟨i 2 4 ⋯,i 3 4 ⋯,i 0 4 ⋯,i 1 4 ⋯,i 2 3 ⋯,i 2 0 ⋯,i 2 1 ⋯,i 3 0 ⋯,i 3 1 ⋯,i 0 1 ⋯,
   Y 4,Y 3,Y 0,Y 1,k 4,k 3,k 0,k 1⟩
 refine⟨_,[d.heap.objs.size+4,d.heap.objs.size+2,d.heap.objs.size+3,d.heap.objs.size,d.heap.objs.size+1],_,_,r,rfl,E,iQ f g D,⟨l,g2,⟨_,_,g3⟩,T,g1⟩,λc u=>?_,q⟩;have t:d.heap.objs.size<=c:=by
  simp only[IM,IW,or_false]at u;rcases u with rfl|rfl|rfl|rfl|rfl
  ·exact Ln _ _
  ·exact Ln _ _
  ·exact Ln _ _
  ·exact II _
  ·exact Ln _ _
 exact U.Di t<|U.ej.fresh t
noncomputable def Ug(k:Sk)(K:Iy)(a:dv):It:=match k with
 |.L=>Uh K a
 |.T=>Ui K a
noncomputable def Ib(K:Iy)(z:TE):TI:=λe H R=>z e H λx b=>∃a k,x=.ref a/\(∃d,l9 k K b a d)/\R (Ug k K a) b
theorem oE(Y:PE X l tl):PI X tg l (Ib X.K tl):=by
 intro d s u H R I h;refine eK (Y d s u H _ I h) λv f i=>?_;obtain⟨x,g,O,t,r⟩:=i;obtain⟨a,k,e,⟨z,m⟩,q⟩:=r;subst e;cases t;have U:∀b ∈ [f.heap.objs.size],vR X d g b:=λb j=>by
  have e:b=f.heap.objs.size:=by simpa using j
  subst e;exact O.Di (II _)<|O.ej.fresh<|II _
 obtain⟨n,y,p,w⟩:=O.sq m;cases k with
 |L=>exact RW p ⟨f.heap.objs.size,[f.heap.objs.size],_,_,g,rfl,O.kept (t':=f.toks) λb o e=>IB _ e,dn a _,⟨_,IS _ rfl,rfl,rfl⟩,U,q⟩
 |T=>exact Pg p ⟨f.heap.objs.size,[f.heap.objs.size],_,_,g,rfl,O.kept (t':=f.toks) λb o e=>IB _ e,aV a _,⟨_,IS _ rfl,rfl,rfl⟩,U,q⟩
end L2
namespace DL
open PySem PySem.Spec PyProof.Rows L2
noncomputable def Vx(I:dv)(b:Bool)(TI TO:dv):jn:={cls:=.type "zip",dict:=none,data:=.fields #[Dl I,.bool b,.bool di,.ref TI,.ref TO],slots:=#[]}
section
variable{prog:g8}{w:f7}{A:i5}{E:EQ}{s:d6}
theorem K3{z I TI TO:dv}{b:Bool}{U:jn}{Q:Bool->d6->Prop}(hz:s.heap.get? z=cq (Vx I b TI TO))(J:s.heap.get? I=cq U)
 (O:∀h',h'.get? z=cq (Vx I da TI TO)->NI z s.heap h'->Q di {s with heap:=h'}):wpAny (d9 prog w) A (Lh<|.ref z) Q E s:=by
 unfold Lh;refine Iz<|LI hz rfl (x:=Dl I) rfl ?_;show wpAny _ _ (loadIfAlive ((I:Int).toNat) >>= _) _ _ _;rw[Mm];refine Iz<|PySem.W.kdx_alive J ?_;simp only[Option.isNone_some,LR,if_false];refine Iz<|LI hz rfl (x:=.bool b) rfl ?_;cases b with
 |true=>
  rw[UY ⋯];exact IH<|O _ hz ⟨rfl,λ_ _=>rfl⟩
 |false=>
  rw[UJ ⋯];refine Iz<|Mi hz ⋯ λg Y a=>?_;exact IH<|O g Y a
theorem cX{k1 k2:Sk}{z TI TO J L Y l2 Z:dv}{b:Bool}{oa:jn}{n1 n2:Nat}{xs ys:Array dy}{x y:dy}{Q:EQ}(D:B8 z TI TO J L Y l2)
 (hz:s.heap.get? z=cq (Vx Z b TI TO)) (ha:s.heap.get? Z=cq oa) (a5:m4 s.heap TI (.ref J) (.ref L))
 (h1:i4 k1 s.heap J Y n1) (h2:i4 k2 s.heap L l2 n2) (a6:m6 k1 s.heap Y xs) (a7:m6 k2 s.heap l2 ys) (hx:xs[n1]? = cq x) (hy:ys[n2]? = cq y)
 (hQ:∀h',h'.get? z=cq (Vx Z da TI TO)->i4 k1 h' J Y (n1+1)->i4 k2 h' L l2 (n2+1)->m4 h' s.heap.objs.size x y->h'.objs.size=s.heap.objs.size+1->
   (∀c o,c≠z->c≠J->c≠L->s.heap.get? c=cq o->h'.get? c=cq o)->Q (.ref s.heap.objs.size) {s with heap:=h'}):
 wpAny (d9 prog w) A (Builtin.«zip.__next__» ⟨[.ref z],[]⟩) (λaa s'=>∃v,aa=.done (.ret v)/\Q v s') E s:=by
 refine Iz (m:=field (.ref z) 2)<|LI hz rfl (x:=.bool di) rfl ?_;refine Iz (m:=field (.ref z) 3)<|LI hz rfl (x:=.ref TI) rfl ?_;refine Iz<|Mn a5 rfl ?_;refine Iz (m:=Lh<|.ref z)<|K3 hz ha λg1 f I=>?_;simp only[LR,if_false];rw[show(#[Lr J,Lr L]:Array dy)=[Lr J,Lr L].toArray from rfl,Rr];simp only[OG,OU];refine Iz<|Iz<|Iz ?_;refine Iz (m:=IY<|.ref J)<|kJ (h1.at λo e=>I.extBut _ _ D.i1z e) (a6.at λo e=>I.extBut _ _ D.l1z e) hx λg2 g U=>IH ?_;refine IH<|Iz<|Iz<|Mq ?_;refine Iz (m:=IY<|.ref L)<|kJ (h2.at λo e=>U.extBut _ _ D.i12.symm<|I.extBut _ _ D.i2z e) (a7.at λo e=>U.extBut _ _ D.l2i1<|I.extBut _ _ D.l2z e) hy λO h a=>IH ?_;refine IH<|IH ?_;have hsz:O.objs.size=s.heap.objs.size:=by rw[a.1,U.1,I.1]
 refine Iz (RD (hsz:=by show 2<=el;decide) ?_);refine IH ⟨_,rfl,?_⟩;show Q (.ref O.objs.size) _;rw[hsz];have d:∀c o,O.get? c=cq o->(O.push {cls:=.type "tuple",data:=.seq #[x,y]}).get? c=cq o:=λc o e=>IB _ e;have i:O.get? z=cq (Vx Z da TI TO):=a.extBut _ _ D.i2z.symm (U.extBut _ _ D.i1z.symm f);refine hQ _ (d _ _ i) ((g.at λo e=>d _ o (a.extBut _ _ D.i12 e))) (h.at λo e=>d _ o e) ?_ ?_ λc o j k l e=>d c o (a.extBut _ _ l (U.extBut _ _ k (I.extBut _ _ j e)))
 ·have:=IS O (o:={cls:=.type "tuple",data:=.seq #[x,y]}) rfl
  rw[hsz]at this;exact this
 ·rw[Lx,hsz]
theorem iL{k1 k2:Sk}{z TI TO J L U Z al:dv}{b:Bool}{oa:jn}{n1 n2:Nat}{xs ys:Array dy}{Q:Fin->d6->Prop}(hh:A.handled=none)(D:B8 z TI TO J L U Z)
 (hz:s.heap.get? z=cq (Vx al b TI TO)) (ha:s.heap.get? al=cq oa) (a8:m4 s.heap TI (.ref J) (.ref L))
 (h1:i4 k1 s.heap J U n1) (h2:i4 k2 s.heap L Z n2) (a5:m6 k1 s.heap U xs) (a9:m6 k2 s.heap Z ys) (aa:xs[n1]? = none\/ys[n2]? = none)
 (hE:∀h' e,(∀c o,c≠z->c≠J->c≠L->s.heap.get? c=cq o->h'.get? c=cq o)->(∃o,h'.get? e=cq o/\o.cls=.type "StopIteration")->E (.ref e) {s with heap:=h'}):
 wpAny (d9 prog w) A (Builtin.«zip.__next__» ⟨[.ref z],[]⟩) Q E s:=by
 refine Iz (m:=field (.ref z) 2)<|LI hz rfl (x:=.bool di) rfl ?_;refine Iz (m:=field (.ref z) 3)<|LI hz rfl (x:=.ref TI) rfl ?_;refine Iz<|Mn a8 rfl ?_;refine Iz (m:=Lh<|.ref z)<|K3 hz ha λg1 j I=>?_;simp only[LR,if_false];rw[show(#[Lr J,Lr L]:Array dy)=[Lr J,Lr L].toArray from rfl,Rr];simp only[OG,OU];refine Iz<|Iz<|Iz ?_;cases hx:xs[n1]? with
 |none=>
  refine Iz (m:=IY<|.ref J)<|wH hh (h1.at λo e=>I.extBut _ _ D.i1z e) (a5.at λo e=>I.extBut _ _ D.l1z e) hx λg2 e O Y=>?_;exact hE g2 e (λc o a d _ q=>O _ _ d<|I.extBut _ _ a q) Y
 |some x=>
  have i:ys[n2]? = none:=by rcases aa with h|h;rw[hx]at h;cases h;exact h
  refine Iz (m:=IY<|.ref J)<|kJ (h1.at λo e=>I.extBut _ _ D.i1z e) (a5.at λo e=>I.extBut _ _ D.l1z e) hx λg2 k O=>IH ?_;refine IH<|Iz<|Iz<|Mq ?_;refine Iz (m:=IY<|.ref L)<|wH hh (h2.at λo e=>O.extBut _ _ D.i12.symm<|I.extBut _ _ D.i2z e) (a9.at λo e=>O.extBut _ _ D.l2i1<|I.extBut _ _ D.l2z e) i λg3 e f Y=>?_;exact hE g3 e (λc o a d g q=>f _ _ g<|O.extBut _ _ d<|I.extBut _ _ a q) Y
end
end DL
namespace L2
open PySem PySem.Spec PyProof.Rows
section
variable{κ:Type} [DecidableEq κ]
noncomputable def Wv(z:List (κ×V))(k:κ):Option V:=(z.find? λI=>decide<|I.1=k).map (·.2)
noncomputable def cT(z:List (κ×V))(k:κ)(v:V):List (κ×V):=
 if (z.any λI=>decide<|I.1=k)=da then z.map (λI=>if I.1=k then (I.1,v)else I)else z++[(k,v)]
theorem XO{p:κ×V}{r:List (κ×V)}{k:κ}(e:p.1=k):Wv (p::r) k=cq p.2:=by simp[Wv,Nh,e]
theorem Wu{p:κ×V}{r:List (κ×V)}{k:κ}(e:¬p.1=k):Wv (p::r) k=Wv r k:=by simp[Wv,Nh,e]
theorem JX(z:List (κ×V))(k:κ)(v:V):(cT z k v).length<=z.length+1:=by
 unfold cT;split
 ·rw[Lc];omega
 ·rw[Lz,Lm,LH];omega
theorem B6.UE(r:B6 o u):o.isSome=u.isSome:=by
 cases o with
 |none=>cases u with
  |none=>rfl
  |some _=>exact(show False from r).elim
 |some _=>cases u with
  |none=>exact(show False from r).elim
  |some _=>rfl
theorem KV.val{J:List (κ×V)}{vs:List (κ×dy)}(r:KV J vs)(k:κ):B6 (Wv J k) (N5 vs k):=by
 unfold KV at r
 induction r with
 |nil=>exact Nf
 | @cons p q f I h t U=>
  obtain⟨a,d⟩:=h;by_cases e:p.1=k
  ·have O:q.1=k:=a.symm.trans e
   have b:N5 (q::I) k=cq q.2:=by simp[N5,Nh,O]
   rw[XO e,b];exact d
  ·have O:¬q.1=k:=λz=>e (a.trans z)
   have b:N5 (q::I) k=N5 I k:=by simp[N5,Nh,O]
   rw[Wu e,b];exact U
theorem KV.any(r:KV l0 vs)(k:κ):(l0.any λI=>decide<|I.1=k)=vs.any λI=>decide (I.1=k):=by
 unfold KV at r
 induction r with
 |nil=>rfl
 |cons h t O=>rw[Pj,Pj,O,h.1]
theorem KV.V'(r:KV l0 vs)(k:κ)(O:RelV y u):
 KV (l0.map λI=>if I.1=k then (I.1,y)else I) (vs.map λI=>if I.1=k then (I.1,u)else I):=by
 unfold KV at r ⊢
 induction r with
 |nil=>exact .nil
 |@cons p q d Y h t U=>
  rw[Lk,Lk];refine .cons ?_ U;obtain⟨a,b⟩:=h;by_cases e:p.1=k
  ·rw[UJ e,UJ (a.symm.trans e)];exact⟨a,O⟩
  ·rw[UY e,UY (λz=>e<|a.trans z)];exact⟨a,b⟩
theorem KV.put(r:KV l0 vs)(k:κ)(I:RelV y u):KV (cT l0 k y) (stored vs k u):=by
 unfold cT stored;rw[r.any k];by_cases e:(vs.any λO=>decide<|O.1=k)=da
 ·rw[UJ e,UJ e];exact r.V' k I
 ·rw[UY e,UY e];exact Paired.snoc r ⟨rfl,I⟩
theorem KV.length(r:KV l0 vs):l0.length=vs.length:=Paired.length r
end
theorem mF(r:RelV (kV k) u):(xM P w).is k u=da:=by
 cases k with
 |inl i=>obtain⟨t,e⟩:=(show ∃t,u=Rj i t from r);subst e;exact VT P w i t
 |inr x=>obtain⟨t,e⟩:=(show ∃t,u=Ri x t from r);subst e;exact VS P w x t
theorem YW:∀{ks:List Key} {us:List dy},eL (ks.map kV) us->ItemsAre (xM P w) ks us
 |[],_,r=>by rw[RH]at r;cases r;exact .nil
 |k::ks,_,r=>by
  rw[Lk]at r;cases r with
  |cons h t=>exact .cons (mF h)<|YW t
abbrev KT(H:Hp):List (List Key×V)->List (List Key×dv×dy)->Prop:=Paired λp q=>p.1=q.1/\H q.2.1=cq (.tup (p.1.map kV))/\RelV p.2 q.2.2
theorem KT.val{H:Hp}{J:List (List Key×V)}{xs:List (List Key×dv×dy)}(r:KT H J xs)(k:List Key):B6 (Wv J k) ((L1 xs k).map (·.2)):=by
 induction r with
 |nil=>exact Nf
 | @cons p q f I h t U=>
  obtain⟨a,_,d⟩:=h;by_cases e:p.1=k
  ·have O:q.1=k:=a.symm.trans e
   have b:L1 (q::I) k=cq q.2:=by simp[L1,Nh,O]
   rw[XO e,b];exact d
  ·have O:¬q.1=k:=λz=>e (a.trans z)
   have b:L1 (q::I) k=L1 I k:=by simp[L1,Nh,O]
   rw[Wu e,b];exact U
section
variable{P:g8}{w:f7}{H:Hp}{h:eh}{a:dv}
theorem AF(ok:kA P w H h)(e:Rd H a u):j1 P w H h a u:=e.ok ok
theorem nj(ok:kA P w H h)(e:Rd H a (.dK l0)):l0.length<=el/\(a==DR)=di/\∃vs,KV l0 vs/\h.DictOf (xM P w) a vs:=
 show j1 P w H h a (.dK l0)from AF ok e
theorem FS(ok:kA P w H h)(e:H a=cq (.dK l0)):l0.length<=el/\(a==DR)=di/\∃vs,KV l0 vs/\h.DictOf (xM P w) a vs:=nj ok<|.inl e
theorem fV(ok:kA P w H h)(e:H a=cq (.tup<|ks.map kV)):(U5<|xM P w).is h ks a:=by obtain⟨_,b,r,o,d,f,n,I⟩:=(show j1 P w H h a (.tup<|ks.map kV)from ok a _ e);exact⟨o,b.toArray,n,d,(Prod.mk.inj f).1,I,by simpa using YW r⟩
theorem uh(ok:kA P w H h)(e:Rd H a (.dT l0)):l0.length<=el/\(a==DR)=di/\
 ∃xs,KT H l0 xs/\h.DictOfH (U5<|xM P w) a xs:=by
 obtain⟨z,y,xs,r,o,b,O,d,f,U,Y,g⟩:=(show j1 P w H h a (.dT l0)from AF ok e);refine⟨z,y,xs,r,o,b,O,d,f,U,Y,λx hx=>?_,g⟩;have all:∀{l:List (List Key×V)} {m:List (List Key×dv×dy)},KT H l m->∀x∈m,(U5<|xM P w).is h x.1 x.2.1:=by
  intro l m q
  induction q with
  |nil=>intro x hx;exact nomatch hx
  | @cons p q j k I t i=>
   intro x hx;rcases IM.mp hx with e|hx
   ·subst e
    exact fV ok (by rw[<-I.1];exact I.2.1)
   ·exact i x hx
 exact all r x hx
end
noncomputable def Ea(H:Hp)(a:dv)(y:V)(r:Option V):Prop:=
 (∃d k,Rd H a (.dK d)/\y=kV k/\r=Wv d k)\/∃d k b,Rd H a (.dT d)/\y=.ref b/\H b=cq (.tup<|k.map kV)/\r=Wv d k
section
variable{X:Cx}{pins:UQ}{σ:St}{H:Hp}{s:d6}{a:dv}{y v:V}{u r:dy}{o:Option V}{A:i5}{E:EQ}
theorem Inv.big(I:Inv X pins σ H s):DR<s.heap.objs.size:=by have h:q7<s.heap.objs.size:=(I.mod.glob.keeps I.bk).lt;exact Nat.lt_trans ⋯ h
theorem gS(L:A.units+1<Df)(I:Inv X pins σ H s)(g:Ea H a y (cq v))(J:RelV y u)(h:∀w' s',Inv X pins σ H s'->RelV v w'->Q w' s'):
 wpAny (d9 X.prog X.w) A (DF (.ref a) u) Q E s:=by
 rcases g with⟨i,k,e,O,l⟩|⟨i,k,b,e,O,m,l⟩
 ·subst O
  obtain⟨z,n,t,U,d⟩:=nj I.ej e;obtain⟨w',f,Y⟩:=B6.some_of (v:=v) (o:=N5 t k) (by rw[l];exact U.val k);exact wpAny_getItem_of (mF J) d.mapOf f<|h w' _ (I.tok _) Y
 ·subst O
  cases (show u=Lr b from J);obtain⟨z,n,x,U,d⟩:=uh I.ej e;obtain⟨w',f,Y⟩:=B6.some_of (v:=v) (o:=(L1 x k).map (·.2)) (by rw[l];exact U.val k);obtain⟨p,r,j⟩:=Option.map_eq_some_iff.mp f;refine wpAny_getItem_heap (Z_ L) (fV I.ej m) d r ?_;rw[j];exact h w' _ (I.tok _) Y
theorem Ie(J:A.units+1<Df)(I:Inv X pins σ H s)(g:Ea H a y o)(Y:RelV y u)(h:∀s',Inv X pins σ H s'->Q (.bool o.isSome) s'):
 wpAny (d9 X.prog X.w) A (ri .In u<|.ref a) Q E s:=by
 rcases g with⟨i,k,e,O,l⟩|⟨i,k,b,e,O,j,l⟩
 ·subst O
  obtain⟨z,f,m,U,d⟩:=nj I.ej e;refine wpAny_in_of (mF Y) f d.mapOf ?_;rw[<-(U.val k).UE,<-l];exact h _<|I.tok _
 ·subst O
  cases (show u=Lr b from Y);obtain⟨z,f,n,U,d⟩:=uh I.ej e;refine wpAny_in_heap (Z_ J) (fV I.ej j) f d ?_;have q:=(U.val k).UE;rw[Option.isSome_map]at q;rw[<-q,<-l];exact h _<|I.tok _
theorem uj(I:Inv X pins σ H s)(O:Ol (H a))(hs:NI a s.heap h')(U:∃q,h'.get? a=cq q)(new:j1 X.prog X.w (upd H a ob) h' a ob):
 Inv X pins σ (upd H a ob) {s with heap:=h',toks:=t'}:=
 I.write (x:=a) (e:=a) O (.inl rfl) (λb q Y z=>(hs.2 b Y).trans z) U new
theorem Ct(z:l0.length<=el)(J:(a==DR)=di)(I:KV l0 vs)(dd:h'.DictOf (xM P w) a vs):
 j1 P w H' h' a (.dK l0):=⟨z,J,vs,I,dd⟩
end
noncomputable def GP(i:ec):Prop:=∀I O,T5 i di I O=operate [I,O] (DF I O)
theorem rp{prog:g8}{w:f7}{A:i5}{E:EQ}{s:d6}{env:lp}{z I:ec}{pos:fh}{T id:String}{Q:EQ}
 (L:N3 (.type T) "__getitem__" = pure (cq (.builtin id))) (hs:GP I)
 (h:wpAny (d9 prog w) A (d8 z env) (λo J=>wpAny (d9 prog w) A (d8 I env) (λi O=>O.TypeIs o T/\wpAny (d9 prog w) A (DF o i) Q E O) E J) E s):
 wpAny (d9 prog w) A (d8 (.Subscript z I pos) env) Q E s:=by
 refine Ur<|Lq h (λo J b=>Lq b (λi O U=>?_) λ_ _ x=>x) λ_ _ x=>x;obtain⟨e,U⟩:=U;unfold US;refine Iz ?_;rw[getitemInPython_of_ne e.not_modules];refine Iz<|wpAny_specialOf e L ?_;have Y:wpAny (d9 prog w) A (T5 I di o i) (λr a=>wpAny (d9 prog w) A (letTemporaryGo z o r >>= λ_=>pure r) Q E a) E O:=by rw[hs o i];exact wpAny_operating<|Lq U (λr a d=>Iz<|wpAny_letTemporaryGo<|IH d) λ_ _ x=>x
 first
  |exact IH<|Iz Y
  |exact Iz<|IH<|Iz Y
  |exact Iz Y
theorem Wa(I:Inv X pins σ H s)(g:Ea H a y o):s.TypeIs (.ref a) "dict":=by
 rcases g with⟨f,k,e,_,_⟩|⟨f,k,b,e,_,_,_⟩
 ·obtain⟨_,_,h,_,d⟩:=nj I.ej e
  exact d.typeIs
 ·obtain⟨_,_,i,_,d⟩:=uh I.ej e
  exact d.typeIs
noncomputable def Fb(z ty:TE):TE:=λd H Q=>z d H λx e=>ty d e λy b=>∃a v,x=.ref a/\Ea b a y (cq v)/\Q v b
noncomputable def HP(ty z:TE):TE:=λd H Q=>ty d H λy e=>z d e λx b=>∃a o,x=.ref a/\Ea b a y o/\Q (.bl o.isSome) b
section
variable{X:Cx}{o i e value:ec}{pos pos' tx:fh}{td ty tv:TE}
theorem sN(U:X.A.units+1<Df)(Y:PE X o td)(z:PE X i ty)(hs:GP i):PE X (.Subscript o i pos) (Fb td ty):=by intro b s d H Q I h;refine rp PySem.F.slot_dict_getitem.lookup hs<|eK (Y b s d H _ I h) λu w ⟨x,e,j,r,n⟩=>eK (z b w d e _ j n) λB C ⟨y,f,O,t,a,v,m,g,p⟩=>?_;subst m;obtain rfl:u=Lr a:=r;exact⟨Wa O g,gS U O g t λG E k l=>⟨v,f,k,l,p⟩⟩
theorem Bm(O:X.A.units+1<Df)(z:PE X i ty)(U:PE X o td):PC X .In i o (HP ty td):=by intro b s d H Q I h;refine eK (z b s d H _ I h) λB w ⟨y,e,Y,t,n⟩=>eK (U b w d e _ Y n) λu C ⟨x,f,j,r,a,m,l,g,p⟩=>?_;subst l;obtain rfl:u=Lr a:=r;exact Ie O j g t λE k=>⟨.bl m.isSome,f,k,rfl,p⟩
end
theorem nq(h:eh)(I:DR<h.objs.size):j1 P w H (h.push {cls:=.type "dict",data:=.dict #[]}) h.objs.size (.dK []):=
 ⟨Mr _,beq_eq_false_iff_ne.mpr<|LD<|IX I,[],.nil,Heap.DictOf.new h⟩
end L2
namespace DL
open PySem PySem.Spec PyProof.Rows L2
noncomputable def t4:List Str:=["NoPrime","Nought","NoTable","NoWidths","NoRow","Unlike","TooMany","NoTurn","NoLine","Nothing","NoArrow","NoText","NoRoom"]
noncomputable def Tn:List dy:=[.type "ValueError",.type "Exception",.type "BaseException",.type "object"]
noncomputable def QN(K:Iy)(c:Str):Option dv:=match OC K q7 c with
 |some (cq (.ref C))=>cq C
 |_=>none
noncomputable def nN(K:Iy)(C:dv):Bool:=
 ["int","bool","str","tuple","list"].all (λt=>Mh K (.ref C) (.type t)==cq di)&&Mh K (.ref C) (.type "ValueError")==cq da&&
 Ny K (.ref C) "__getattribute__" == cq (cq (.builtin "BaseException.__getattribute__"))&&Ny K (.ref C) "__getattr__" == cq none&&
 Ny K (.ref C) "__class__" == cq (cq (.builtin "object.__class__"))&&ML K C (.type "object")==cq da&&ML K C (.type "BaseException")==cq da&&
 Rl K (.builtin "object.__class__") "__get__" == cq (cq (.builtin "getset_descriptor.__get__"))&&PySem.W.takesIn K (.builtin "object.__class__")==cq da&&
 (Pa K C).any (λa=> !a.hasDel)&&Pw K (.ref C)==cq (.type "type")
noncomputable def Wr(K:Iy):Bool:=match QN K "SplitError" with
 | some S=>t4.all λc=>match QN K c with
  |some C=>nN K C&&Mh K (.ref C) (.ref S)==cq da&&t4.all λI=>match QN K I with
   |some O=>Mh K (.ref C) (.ref O)==cq (c==I)
   |none=>di
  |none=>di
 |none=>di
noncomputable def cP(h:eh)(a:dv)(C:dv):Prop:=∃o b,h.get? a=cq o/\o.cls=.ref C/\o.data=.fields b
structure B7(K:Iy)(H:Hp)(c:Str)(n:Option Int)(a:dv):Prop where
 all:Wr K=da
 mem:c∈t4
 ex:∃C φ,QN K c=cq C/\H a=cq (.ext φ)/\(∀h,φ h->cP h a C)/\
  match n with
  |none=>True
  |some i=>∃d,(∀h,φ h->∃o,h.get? a=cq o/\o.dict=cq d)/\H d=cq (.xd [(if c==("NoRoom" : Str)then "room" else "at",.int i)])
theorem B7.mono{K:Iy}{H H':Hp}{c:Str}{n:Option Int}{a:dv}(e:∀b o,H b=cq o->H' b=cq o)(h:B7 K H c n a):B7 K H' c n a:=by
 obtain⟨f,g,C,j,O,g2,U,I⟩:=h;refine⟨f,g,C,j,O,e _ _ g2,U,?_⟩;cases n with
 |none=>exact I
 |some i=>obtain⟨d,Y,f2⟩:=I;exact⟨d,Y,e _ _ f2⟩
theorem Jt{K:Iy}{c:Str}{C:dv}(h:Wr K=da)(U:c∈t4)(e:QN K c=cq C):∃S,QN K "SplitError" = cq S/\nN K C=da/\Mh K (.ref C) (.ref S)=cq da/\
 ∀I O,I∈t4->QN K I=cq O->Mh K (.ref C) (.ref O)=cq (c==I):=by
 unfold Wr at h;split at h
 ·rename_i S Y
  have a:=Mu.mp h c U;rw[e]at a;simp only[IK,beq_iff_eq]at a;refine⟨S,Y,a.1.1,a.1.2,λI O d f=>?_⟩;have b:=Mu.mp a.2 I d;rw[f]at b;exact beq_iff_eq.mp b
 ·cases h
abbrev St:=L2.St
noncomputable def BX:D->Option Key
 |.int i=>cq (.inl i)
 |.str x=>cq (.inr x)
 |_=>none
noncomputable def YT:List D->Option (List Key)
 |[]=>cq []
 |d::ds=>(BX d).bind λk=>(YT ds).map λr=>k::r
noncomputable def D9(H:Hp)(a:dv)(ks:List D)(xs:List V):Prop:=∃b,YT ks=cq b/\b.length=xs.length/\∃o,H a=cq (.p8 o<|.dK<|b.zip xs)
noncomputable def ET(k:List Int):Int:=reduceHash<|Builtin.Tuple.tupleHashOf<|k.map hashInt
noncomputable def Ip(o:jn)(xs:List (List Int×dv×dy)):Prop:=o.ExactDict/\∃a I,o.data=.dict a I/\a.toList=xs.map (λx=>⟨ET x.1,.ref x.2.1,x.2.2⟩)/\(xs.map (·.1)).Nodup
noncomputable def Us(a:dv)(o:jn):HO:=.ext λh=>h.get? a=cq o
noncomputable def Se(K:Iy)(H:Hp)(a:dv)(ks:List (List Int))(ys:List V):Prop:=
 (a==DR)=di/\∃o b,H a=cq (Us a o)/\Ip o b/\b.map (·.1)=ks/\b.length<=el/\(∀x∈b,gR K H x.2.1<|x.1.map V.int)/\eL ys (b.map (·.2.2))
noncomputable def Ss(I O:V):List (Str×V):=Fs "table" O (Fs "p" I [])
noncomputable def Y0(K:Iy)(C:dv):Bool:=Rx K C Str.empty&&(PySem.W.hasDictIn K C&&(PySem.W.plainOver K C&&(Ny K (.ref C) "__setattr__" == cq (cq (.builtin "object.__setattr__"))&&(Ny K (.ref C) "__class__" == cq (cq (.builtin "object.__class__"))&&
 (Rl K (.builtin "object.__class__") "__get__" == cq (cq (.builtin "getset_descriptor.__get__"))&&(PySem.W.takesIn K (.builtin "object.__class__")==cq da&&(ML K C (.type "object")==cq da&&["int","bool","str","tuple","list"].all λt=>Mh K (.ref C) (.type t)==cq di)))))))
noncomputable def M1(K:Iy)(c:Str):Option dv:=match OC K q7 c with
 |some (cq (.ref C))=>if Y0 K C=da then cq C else none
 |_=>none
theorem ar{K:Iy}{c:Str}{C:dv}(h:M1 K c=cq C):Y0 K C=da:=by
 unfold M1 at h;split at h
 ·split at h
  ·rename_i I;cases h;exact I
  ·cases h
 ·cases h
mutual
def Rep(K:Iy)(H:Hp):D->V->Prop
 |.d7,v=>v=.d7
 |.bl b,v=>v=.bl b
 |.int i,v=>v=.int i
 |.str x,v=>v=.str x
 |.tup ds,v=>∃a d,v=.ref a/\gR K H a d/\d5 K H ds d
 |.lst ds,v=>∃a d,v=.ref a/\gv K H a d/\d5 K H ds d
 |.exc c n,v=>∃a,v=.ref a/\B7 K H c n a
 |.nr ks vs,v=>∃a d,v=.ref a/\D9 H a ks d/\d5 K H vs d
 |.ov ks vs,v=>∃a d,v=.ref a/\Se K H a ks d/\d5 K H vs d
 |.ins c p t,v=>∃a C e I O,v=.ref a/\M1 K c=cq C/\H a=cq (.ins C e<|Ss I O)/\Rep K H p I/\Rep K H t O
def d5(K:Iy)(H:Hp):List D->List V->Prop
 |[],xs=>xs=[]
 |d::ds,xs=>∃x r,xs=x::r/\Rep K H d x/\d5 K H ds r
end
theorem o4{K:Iy}{H H':Hp}{a:dv}{xs:List V}(e:f6 H H')(h:gR K H a xs):gR K H' a xs:=by
 rcases h with(h|⟨o,h⟩)|h
 ·exact .inl<|.inl<|e _ _ h
 ·exact .inl<|.inr ⟨o,e _ _ h⟩
 ·exact .inr h
theorem vI{k:Sk}{K:Iy}{H H':Hp}{a:dv}{xs:List V}(e:f6 H H')(h:l9 k K H a xs):l9 k K H' a xs:=by
 cases k
 ·exact e.seq h
 ·exact o4 e h
mutual
theorem Rep.mono{K:Iy}{H H':Hp}(e:f6 H H'):∀{d:D} {v:V},Rep K H d v->Rep K H' d v
 |.d7,_,h=>h
 |.bl _,_,h=>h
 |.int _,_,h=>h
 |.str _,_,h=>h
 |.tup ds,v,h=>by obtain⟨a,b,f,i,g⟩:=(show ∃a b,v=.ref a/\gR K H a b/\d5 K H ds b from h);exact(show ∃a b,v=.ref a/\gR K H' a b/\d5 K H' ds b from⟨a,b,f,o4 e i,d5.mono e g⟩)
 |.lst ds,v,h=>by obtain⟨a,b,f,i,g⟩:=(show ∃a b,v=.ref a/\gv K H a b/\d5 K H ds b from h);exact(show ∃a b,v=.ref a/\gv K H' a b/\d5 K H' ds b from⟨a,b,f,e.seq i,d5.mono e g⟩)
 |.exc c n,v,h=>by obtain⟨a,f,i⟩:=(show ∃a,v=.ref a/\B7 K H c n a from h);exact(show ∃a,v=.ref a/\B7 K H' c n a from⟨a,f,i.mono e⟩)
 |.nr ks vs,v,h=>by obtain⟨a,b,f,⟨w,U,g2,o,Y⟩,g⟩:=(show ∃a b,v=.ref a/\D9 H a ks b/\d5 K H vs b from h);exact(show ∃a b,v=.ref a/\D9 H' a ks b/\d5 K H' vs b from⟨a,b,f,⟨w,U,g2,o,e _ _ Y⟩,d5.mono e g⟩)
 |.ov ks vs,v,h=>by obtain⟨a,b,f,⟨U,o,y,g2,Y,k,l,g6,m⟩,g⟩:=(show ∃a b,v=.ref a/\Se K H a ks b/\d5 K H vs b from h);exact(show ∃a b,v=.ref a/\Se K H' a ks b/\d5 K H' vs b from⟨a,b,f,⟨U,o,y,e _ _ g2,Y,k,l,λx u=>o4 e<|g6 x u,m⟩,d5.mono e g⟩)
 |.ins c p t,v,h=>by obtain⟨a,C,j,I,O,f,i,g,r,s⟩:=(show ∃a C j I O,v=.ref a/\M1 K c=cq C/\H a=cq (.ins C j<|Ss I O)/\Rep K H p I/\Rep K H t O from h);exact(show ∃a C j I O,v=.ref a/\M1 K c=cq C/\H' a=cq (.ins C j<|Ss I O)/\Rep K H' p I/\Rep K H' t O from⟨a,C,j,I,O,f,i,e _ _ g,Rep.mono e r,Rep.mono e s⟩)
theorem d5.mono{K:Iy}{H H':Hp}(e:f6 H H'):∀{ds:List D} {xs:List V},d5 K H ds xs->d5 K H' ds xs
 |[],_,h=>h
 |d::ds,xs,h=>by obtain⟨x,r,a,b,f⟩:=(show ∃x r,xs=x::r/\Rep K H d x/\d5 K H ds r from h);exact(show ∃x r,xs=x::r/\Rep K H' d x/\d5 K H' ds r from⟨x,r,a,Rep.mono e b,d5.mono e f⟩)
end
section
variable{K:Iy}{H:Hp}
theorem d5.nil:d5 K H [] []:=(show([]:List V)=[]from rfl)
theorem d5.cons(h:Rep K H d x)(t:d5 K H ds xs):d5 K H (d::ds) (x::xs):=⟨x,xs,rfl,h,t⟩
theorem d5.vu(h:d5 K H [] xs):xs=[]:=h
theorem d5.p9(h:d5 K H (d::ds) xs):∃x r,xs=x::r/\Rep K H d x/\d5 K H ds r:=h
theorem d5.length:∀{ds:List D} {xs:List V},d5 K H ds xs->xs.length=ds.length
 |[],xs,h=>by rw[h.vu];rfl
 |d::ds,xs,h=>by obtain⟨x,r,e,_,t⟩:=h.p9;rw[e,Lm,Lm,d5.length t]
theorem d5.get:∀{ds:List D} {xs:List V} {i:Nat} {d:D},d5 K H ds xs->ds[i]? = cq d->∃x,xs[i]? = cq x/\Rep K H d x
 |[],_,_,_,_,e=>by simp at e
 |c::ds,xs,0,d,h,e=>by obtain⟨x,r,a,b,_⟩:=h.p9;simp at e;subst e;exact⟨x,by rw[a];rfl,b⟩
 |c::ds,xs,i+1,d,h,e=>by obtain⟨x,r,a,_,t⟩:=h.p9;obtain⟨y,I,g2⟩:=d5.get (i:=i) (d:=d) t (by simpa using e);exact⟨y,by rw[a];simpa using I,g2⟩
theorem d5.M0{ds:List D}{xs:List V}{i:Nat}{x:V}(h:d5 K H ds xs)(e:xs[i]? = cq x):∃d,ds[i]? = cq d/\Rep K H d x:=by
 have b:i<ds.length:=by rw[<-h.length];exact(Ll.mp e).1
 obtain⟨y,a,r⟩:=h.get<|ID b;rw[e]at a;cases a;exact⟨_,ID b,r⟩
theorem d5.append:∀{ds es:List D} {xs ys:List V},d5 K H ds xs->d5 K H es ys->d5 K H (ds++es) (xs++ys)
 |[],_,xs,_,h,g=>by rw[h.vu];exact g
 |d::ds,es,xs,ys,h,g=>by obtain⟨x,r,e,a,t⟩:=h.p9;rw[e];exact d5.cons a<|d5.append t g
theorem d5.drop:∀{ds:List D} {xs:List V} (n:Nat),d5 K H ds xs->d5 K H (ds.drop n) (xs.drop n)
 |_,_,0,h=>h
 |[],xs,n+1,h=>by rw[h.vu];exact d5.nil
 |d::ds,xs,n+1,h=>by obtain⟨x,r,e,_,t⟩:=h.p9;rw[e];exact d5.drop n t
theorem d5.take:∀{ds:List D} {xs:List V} (n:Nat),d5 K H ds xs->d5 K H (ds.take n) (xs.take n)
 |_,_,0,h=>by simp;exact d5.nil
 |[],xs,n+1,h=>by rw[h.vu];exact d5.nil
 |d::ds,xs,n+1,h=>by obtain⟨x,r,e,a,t⟩:=h.p9;rw[e];exact d5.cons a<|d5.take n t
theorem d5.set:∀{ds:List D} {xs:List V} {d:D} {x:V} (i:Nat),d5 K H ds xs->Rep K H d x->d5 K H (ds.set i d) (xs.set i x)
 |[],xs,_,_,_,h,_=>by rw[h.vu];exact d5.nil
 |c::ds,xs,d,x,0,h,g=>by obtain⟨y,r,e,_,t⟩:=h.p9;rw[e];exact d5.cons g t
 |c::ds,xs,d,x,i+1,h,g=>by obtain⟨y,r,e,a,t⟩:=h.p9;rw[e];exact d5.cons a<|d5.set i t g
end
structure Ext(H0 H Dt H':Hp):Prop where
 s0:f6 H0 Dt
 s1:f6 H H'
 sub:f6 Dt H'
 new:∀a,H0 a=none->H a≠none->Dt a=none
theorem Ext.refl(s:f6 H0 H):Ext H0 H H0 H:=⟨f6.refl _,f6.refl _,s,λ_ h _=>h⟩
theorem Ext.trans(a:Ext H0 H H1 G1)(b:Ext H1 G1 H2 G2):Ext H0 H H2 G2:=
 ⟨a.s0.trans b.s0,a.s1.trans b.s1,b.sub,λc e d=>b.new c (a.new c e d) (by
  cases q:H c with
  |none=>exact absurd q d
  |some o=>rw[a.s1 c o q];simp)⟩
theorem jC(h:H p=none)(o:HO):f6 H (upd H p o):=λb u q=>by rw[zK (ju q h)];exact q
theorem jx(s:f6 H0 H)(h:H p=none):H0 p=none:=s.free h
theorem dG(s:f6 H0 H):f6 (upd H0 p o) (upd H p o):=λb u q=>by
 by_cases e:b=p
 ·subst e;rw[zM]at q ⊢;exact q
 ·rw[zK e]at q ⊢;exact s b u q
theorem Ext.alloc(s:f6 H0 H)(h:H p=none)(o:HO):Ext H0 H (upd H0 p o) (upd H p o):=
 ⟨jC (jx s h) o,jC h o,dG s,λa b d=>by rw[zK (λe=>d<|by rw[e];exact h)];exact b⟩
theorem Ext.hide(s:f6 H0 H)(h:H p=none)(o:HO):Ext H0 H H0 (upd H p o):=
 ⟨f6.refl _,jC h o,s.trans<|jC h o,λa b _=>b⟩
theorem Ext.show(e:Ext H0 H Dt H')(J:H a=none)(L:Dt a=none)(O:H' a=cq o)(s:f6 H0 H):Ext H0 H (upd Dt a o) H':=
 ⟨e.s0.trans<|jC L o,e.s1,λb u q=>by
  by_cases z:b=a
  ·subst z;rw[zM]at q;rw[O];exact q
  ·rw[zK z]at q;exact e.sub b u q,λb U I=>by
  rw[zK (λz=>I<|by rw[z];exact J)];exact e.new b U I⟩
structure E2(K:Iy)(H0 H:Hp)(rows:List (List D))(a:dv)(bs:List dv):Prop where
 a0:H0 a=none
 ha:H a=cq (.lst<|bs.map V.ref)
 nd:(a::bs).Nodup
 len:bs.length=rows.length
 row:∀(k:Nat) b row,bs[k]? = cq b->rows[k]? = cq row->H0 b=none/\∃xs,H b=cq (.lst xs)/\d5 K H0 row xs
theorem E2.at{K:Iy}{H0 H:Hp}{z:List (List D)}{a:dv}{bs:List dv}(n:E2 K H0 H z a bs){b:dv}(I:b∈a::bs):H0 b=none/\∃xs,H b=cq (.lst xs):=by
 rcases IM.mp I with rfl|I
 ·exact⟨n.a0,_,n.ha⟩
 ·obtain⟨k,O⟩:=List.getElem?_of_mem I
  have U:=(Ll.mp O).1;rw[n.len]at U;obtain⟨d,xs,e,_⟩:=n.row k b _ O<|ID U;exact⟨d,xs,e⟩
theorem E2.move{K:Iy}{H0 H J H':Hp}{z:List (List D)}{a:dv}{bs:List dv}(n:E2 K H0 H z a bs)(s:f6 H0 J)(L:∀b∈a::bs,J b=none)(h:∀b∈a::bs,H' b=H b):E2 K J H' z a bs:=
 ⟨L a La,by rw[h a La];exact n.ha,n.nd,n.len,λk b row I U=>by obtain⟨_,e,d,Y⟩:=n.row k b row I U;have O:b∈a::bs:=Ld _<|PN I;exact⟨L b O,e,by rw[h b O];exact d,Y.mono s⟩⟩
noncomputable def r3(K:Iy)(H0 H:Hp)(z:St)(γ:Ctx):Prop:=
 (∀(i:Nat) b,γ[i]? = cq (.nest b)->∃a bs,z[i]? = cq (cq (.ref a))/\E2 K H0 H b a bs/\∀(j:Nat) d c,γ[j]? = cq (.own d)->z[j]? = cq (cq (.ref c))->c∉a::bs)/\
 ∀(i j:Nat) I e,γ[i]? = cq (.nest I)->γ[j]? = cq (.nest e)->i=j
theorem r3.Sz{K:Iy}{H0 H:Hp}{J:St}{γ:Ctx}(h:∀(i:Nat) z,γ[i]? ≠ cq (.nest z)):r3 K H0 H J γ:=⟨λi z e=>absurd e<|h i z,λi j I a e=>absurd e<|h i I⟩
theorem r3.move{K:Iy}{H0 H J H':Hp}{L:St}{γ:Ctx}(n:r3 K H0 H L γ)(s:f6 H0 J)(h:∀(i:Nat) z a bs,γ[i]? = cq (.nest z)->L[i]? = cq (cq (.ref a))->E2 K H0 H z a bs->(∀(j:Nat) ds c,γ[j]? = cq (.own ds)->L[j]? = cq (cq (.ref c))->c∉a::bs)->∀b∈a::bs,J b=none/\H' b=H b):r3 K J H' L γ:=
 ⟨λi z e=>by obtain⟨a,bs,d,f,I⟩:=n.1 i z e;exact⟨a,bs,d,f.move s (λb O=>(h i z a bs e d f I b O).1)<|λb O=>(h i z a bs e d f I b O).2,I⟩,n.2⟩
theorem r3.ext{K:Iy}{H0 H z H':Hp}{J:St}{γ:Ctx}(n:r3 K H0 H J γ)(e:Ext H0 H z H'):r3 K z H' J γ:=
 n.move e.s0 λi d a bs _ _ f _ b I=>by obtain⟨O,g,g2⟩:=f.at I;exact⟨e.new b O (by rw[g2];simp),by rw[e.s1 b _ g2,g2]⟩
structure RC(K:Iy)(H0 H:Hp)(σ:St)(γ:Ctx):Prop where
 sub:f6 H0 H
 len:σ.length=γ.length
 val:∀(i:Nat) d,γ[i]? = cq (.val d)->∃v,σ[i]? = cq (cq v)/\Rep K H0 d v
 own:∀(i:Nat) ds,γ[i]? = cq (.own ds)->∃a xs,σ[i]? = cq (cq (.ref a))/\H0 a=none/\H a=cq (.lst xs)/\d5 K H0 ds xs
 ne:∀(i j:Nat) a ds es,γ[i]? = cq (.own ds)->γ[j]? = cq (.own es)->σ[i]? = cq (cq (.ref a))->σ[j]? = cq (cq (.ref a))->i=j
 C3:r3 K H0 H σ γ
theorem RC.ext{K:Iy}{H0 H z H':Hp}{J:St}{γ:Ctx}(r:RC K H0 H J γ)(e:Ext H0 H z H'):RC K z H' J γ:=
 ⟨e.sub,r.len,λi d h=>let ⟨v,b,f⟩:=r.val i d h;⟨v,b,f.mono e.s0⟩,
  λi g h=>let ⟨a,j,b,f,I,O⟩:=r.own i g h;⟨a,j,b,e.new a f (by rw[I];simp),e.s1 _ _ I,O.mono e.s0⟩,r.ne,r.C3.ext e⟩
noncomputable def tV(K:Iy)(f:CO D):TE:=λh H Q=>∃e g d,RC K e H h g/\f g=cq d/\∀v b a,Ext e H a b->Rep K a d v->Q v b
noncomputable def tQ(K:Iy)(f:CO (Sk×List D)):TE:=λj H Q=>∃g i k h,RC K g H j i/\f i=cq (k,h)/\∀a e d b,Ext g H b d->l9 k K d a e->(k=.T->gR K b a e)->d5 K b h e->Q (.ref a) d
noncomputable def tO(K:Iy)(f:CO (List D)):TE:=λj H Q=>∃e i g,RC K e H j i/\f i=cq g/\
 ∀a h d b,Ext e H b d->H a=none->b a=none->d a=cq (.lst h)->d5 K b g h->Q (.ref a) d
noncomputable def tT(K:Iy)(f:CO Bool):TT:=λh H Q=>∃e g b,RC K e H h g/\f g=cq b/\∀d a,Ext e H a d->Q b d
noncomputable def tA(K:Iy)(f:CO (List D)):TA:=λi H Q=>∃d h e,RC K d H i h/\f h=cq e/\∀g b a,Ext d H a b->d5 K a e g->Q g b
abbrev PV(X:Cx)(e:ec)(f:CO D):Prop:=PE X e (tV X.K f)
abbrev PQ(X:Cx)(e:ec)(f:CO (Sk×List D)):Prop:=PE X e (tQ X.K f)
abbrev PO(X:Cx)(e:ec)(f:CO (List D)):Prop:=PE X e (tO X.K f)
abbrev ni(X:Cx)(e:ec)(f:CO Bool):Prop:=PT X e (tT X.K f)
abbrev E6(X:Cx)(e:ec)(f:CO Bool):Prop:=PW X e (tT X.K f)
abbrev Dw(X:Cx)(es:List ec)(f:CO (List D)):Prop:=PA X es (tA X.K f)
theorem qb(h:PE X e t)(i:∀z H Q,t' z H Q->t z H Q):PE X e t':=λa s z H Q I q=>h a s z H Q I<|i z H Q q
theorem bB(h:PT X e t)(i:∀z H Q,t' z H Q->t z H Q):PT X e t':=λa s z H Q I q=>h a s z H Q I<|i z H Q q
theorem AM(h:PW X e t)(i:∀z H Q,t' z H Q->t z H Q):PW X e t':=λO a s z H Q I q=>h O a s z H Q I<|i z H Q q
theorem Bp(h:PA X es t)(i:∀z H Q,t' z H Q->t z H Q):PA X es t':=λpos a s z H Q I q=>h pos a s z H Q I<|i z H Q q
theorem yS{X:Cx}{st:h9}{t t':TS}(h:PS X st t)(i:∀D z H,t' D z H->t D z H):PS X st t':=λa s z H D I q=>h a s z H D I<|i D z H q
theorem oB{X:Cx}{st:List h9}{t t':TS}(h:t9 X st t)(i:∀D z H,t' D z H->t D z H):t9 X st t':=λa s z H D I q=>h a s z H D I<|i D z H q
theorem Kc(h:PI X tg e t)(i:∀z H R,t' z H R->t z H R):PI X tg e t':=λa s z H R I q=>h a s z H R I<|i z H R q
theorem ve(h:n<=lim):n<=el:=LG h ⋯
section
variable{X:Cx}{e a b c:ec}{pos:fh}
theorem PV.q(h:PV X e f):PQ X e (zJ f):=qb h λs H Q Y=>by
 obtain⟨p,o,k,i,rc,I,q⟩:=Y;unfold zJ at I;cases e1:f o with
 |none=>rw[e1]at I;cases I
 | some d=>
  rw[e1]at I;refine⟨p,o,d,rc,e1,λv n b ext r=>?_⟩;cases d with
  |tup l=>
   obtain⟨O,U⟩:k=.T/\i=l:=by simp[jA]at I;exact⟨I.1.symm,I.2.symm⟩
   subst O U;obtain⟨a,g,rfl,j,m⟩:=(show ∃a g,v=.ref a/\gR X.K b a g/\d5 X.K b i g from r);exact q a g n b ext (o4 ext.sub j) (λ_=>j) m
  |lst l=>
   obtain⟨O,U⟩:k=.L/\i=l:=by simp[jA]at I;exact⟨I.1.symm,I.2.symm⟩
   subst O U;obtain⟨a,g,rfl,j,m⟩:=(show ∃a g,v=.ref a/\gv X.K b a g/\d5 X.K b i g from r);exact q a g n b ext (ext.sub.seq j) (λz=>nomatch z) m
  |_=>simp[jA]at I
theorem PO.v(h:PO X e f):PV X e (jG f):=qb h λp H Q Y=>by
 obtain⟨j,i,d,rc,I,q⟩:=Y;unfold jG at I;cases e1:f i with
 |none=>rw[e1]at I;cases I
 |some b=>
  rw[e1]at I;cases I;refine⟨j,i,b,rc,e1,λa n o k ext l g m r=>?_⟩;exact q _ _ _ (ext.show l g m rc.sub) (show ∃O U,V.ref a=.ref O/\gv X.K _ O U/\d5 X.K _ b U from⟨a,n,rfl,gv.of zM,r.mono<|jC g _⟩)
theorem PO.q(h:PO X e f):PQ X e (jz f):=qb h λp H Q O=>by
 obtain⟨i,d,k,l,rc,I,q⟩:=O;unfold jz at I;cases e1:f d with
 |none=>rw[e1]at I;cases I
 |some m=>
  rw[e1]at I;cases I;exact⟨i,d,_,rc,e1,λa j g b ext n o U r=>q a j g b ext (gv.of U) (λz=>nomatch z) r⟩
theorem AN(i:Nat)(h:PE X e (nR i)):PV X e (zh i):=qb h λm H Q O=>by
 obtain⟨b,j,d,rc,I,q⟩:=O;unfold zh at I;cases e1:j[i]? with
 |none=>rw[e1]at I;cases I
 | some c=>
  rw[e1]at I;cases c with
  |val k=>
   cases I;obtain⟨v,f,g⟩:=rc.val i d e1;exact⟨v,f,q v H b (Ext.refl rc.sub) g⟩
  |no=>cases I
  |own l=>cases I
  |nest a=>cases I
theorem AY(i:Nat)(h:PE X e (nR i)):PQ X e (zk i):=qb h λt H Q r=>by
 obtain⟨f,s,k,g,rc,I,q⟩:=r;unfold zk at I;cases e1:s[i]? with
 |none=>rw[e1]at I;cases I
 | some c=>
  rw[e1]at I;cases c with
  |no=>cases I
  |nest n=>cases I
  |own j=>
   cases I;obtain⟨a,b,l,m,o,p⟩:=rc.own i g e1;exact⟨_,l,q a b H f (Ext.refl rc.sub) (gv.of o) (λz=>nomatch z) p⟩
  | val d=>
   obtain⟨v,l,m⟩:=rc.val i d e1;refine⟨v,l,?_⟩;cases d with
   |tup j=>
    obtain⟨U,Y⟩:k=.T/\g=j:=by simp[v9,jA]at I;exact⟨I.1.symm,I.2.symm⟩
    subst U Y;obtain⟨a,b,rfl,O,g2⟩:=(show ∃a b,v=.ref a/\gR X.K f a b/\d5 X.K f g b from m);exact q a b H f (Ext.refl rc.sub) (o4 rc.sub O) (λ_=>O) g2
   |lst j=>
    obtain⟨U,Y⟩:k=.L/\g=j:=by simp[v9,jA]at I;exact⟨I.1.symm,I.2.symm⟩
    subst U Y;obtain⟨a,b,rfl,O,g2⟩:=(show ∃a b,v=.ref a/\gv X.K f a b/\d5 X.K f g b from m);exact q a b H f (Ext.refl rc.sub) (rc.sub.seq O) (λz=>nomatch z) g2
   |_=>simp[v9,jA]at I
theorem Jg(h:PE X e (tC v))(r:∀H,Rep X.K H d v):PV X e (zy d):=qb h λg H Q I=>by obtain⟨a,f,b,rc,O,q⟩:=I;cases O;exact q v H a (Ext.refl rc.sub)<|r a
theorem ze:PV X (.Constant (.int i) j pos) (zy<|.int i):=Jg Bk λ_=>(show V.int i=.int i from rfl)
theorem sg:PV X (.Constant (.bool x) j pos) (zy<|.bl x):=Jg Fy λ_=>(show V.bl x=.bl x from rfl)
theorem wt:PV X (.Constant .none j pos) (zy .d7):=Jg Bh λ_=>(show V.d7=.d7 from rfl)
theorem j4:PV X (.Constant (.str x) j pos) (zy<|.str x):=Jg Be λ_=>(show V.str x=.str x from rfl)
noncomputable def o9(K:Iy)(r:R2)(F:D->D->Option D):Prop:=∀b H x y f I d Q,f6 b H->Rep K b f x->Rep K b I y->F f I=cq d->(∀v e a,Ext b H a e->Rep K a d v->Q v e)->r x y H Q
theorem zg(h:o.bind f=cq y):∃x,o=cq x/\f x=cq y:=by
 cases o with
 |none=>cases h
 |some x=>exact⟨x,rfl,h⟩
theorem VM{K:Iy}{r:R2}{F:D->D->Option D}{J L:CO D}(hs:o9 K r F):∀z H Q,tV K (zI F J L) z H Q->R3 r (tV K J) (tV K L) z H Q:=λz H Q U=>by obtain⟨g,e,d,rc,I,q⟩:=U;obtain⟨x,k,I⟩:=zg I;obtain⟨y,Y,I⟩:=zg I;refine⟨g,e,x,rc,k,λo t i b l=>⟨i,e,y,rc.ext b,Y,λp h j O m=>?_⟩⟩;exact hs j h o p x y d Q O.sub (l.mono O.s0) m I λv f a s n=>q v f a (b.trans<|O.trans s) n
theorem Xm(I:kr X (xg op) r)(hs:o9 X.K r F)(z:PV X a fa)(O:PV X b fb):PV X (.BinOp a op b pos) (zI F fa fb):=
 qb (lV I z O) (VM hs)
theorem oq(I:kr X (ri op) r)(hs:o9 X.K r F)(z:PV X a fa)(O:PV X b fb)(J:Dc op b=di):PV X (.Compare a [op] [b] pos) (zI F fa fb):=
 qb (sO I z O J) (VM hs)
theorem KN{d:D}{b:Bool}(h:C8 d=cq b):d=.bl b:=by cases d<;>simp[C8]at h;rw[h]
theorem Zn(O:kr X (ri op) r)(hs:o9 X.K r F)(z:PV X a fa)(U:PV X b fb)(J:Dc op b=di):ni X (.Compare a [op] [b] pos) (sB<|zI F fa fb):=
 bB (eQ O z U J) λj H Q Y=>by obtain⟨g,i,k,rc,I,q⟩:=Y;obtain⟨d,h,I⟩:=zg I;refine VM hs j H _ ⟨g,i,d,rc,h,λv f e x r=>?_⟩;rw[KN I]at r;exact⟨k,r,q f e x⟩
theorem xl{f:CO D}(h:PV X e f)(U:∀O,F6 e X.env O=(do let v<-O;M8 e.pos;Dj [v] (R5 v)):=by intro _;rfl):ni X e (sB f):=
 bB (AS h U) λl H Q Y=>by obtain⟨g,j,k,rc,I,q⟩:=Y;obtain⟨d,i,I⟩:=zg I;refine⟨g,j,d,rc,i,λv b a x r=>?_⟩;rw[KN I]at r;exact⟨k,r,q b a x⟩
theorem Jf(h:ni X a f):E6 X (.BoolOp .And [a] pos) f:=rY h
theorem rX(h:ni X a f):E6 X (.BoolOp .Or [a] pos) f:=AK h
theorem X8{f g:CO Bool}{yR:List ec}(z:ni X a f)(O:E6 X (.BoolOp .And (b::yR) pos) g):E6 X (.BoolOp .And (a::b::yR) pos) (X5 f g):=
 AM (AL z O) λn H Q U=>by
  obtain⟨i,e,k,rc,I,q⟩:=U;obtain⟨c,l,I⟩:=zg I;refine⟨i,e,c,rc,l,λh d x=>?_⟩;cases c with
  |true=>rw[UJ rfl]at I ⊢;exact⟨d,e,k,rc.ext x,I,λj Y m=>q j Y<|x.trans m⟩
  |false=>rw[UY Lb]at I ⊢;cases I;exact q h d x
theorem eD{f g:CO Bool}{yR:List ec}(z:ni X a f)(O:E6 X (.BoolOp .Or (b::yR) pos) g):E6 X (.BoolOp .Or (a::b::yR) pos) (rM f g):=
 AM (Fo z O) λn H Q U=>by
  obtain⟨i,e,k,rc,I,q⟩:=U;obtain⟨c,l,I⟩:=zg I;refine⟨i,e,c,rc,l,λh d x=>?_⟩;cases c with
  |true=>rw[UJ rfl]at I ⊢;cases I;exact q h d x
  |false=>rw[UY Lb]at I ⊢;exact⟨d,e,k,rc.ext x,I,λj Y m=>q j Y<|x.trans m⟩
theorem Zm(z:ni X a f):ni X (.UnaryOp .Not a pos) (Zi f):=
 bB (AU z) λh H Q O=>by
  obtain⟨g,d,k,rc,I,q⟩:=O;unfold Zi at I;cases e1:f d with
  |none=>rw[e1]at I;cases I
  |some c=>rw[e1]at I;cases I;exact⟨g,d,c,rc,e1,λe b x=>q e b x⟩
theorem eP(h:E6 X e f):ni X e f:=h.pt
theorem eH(h:PV X a f):PV X (.BoolOp op [a] pos) f:=Bf h
theorem WW{f g:CO D}{yR:List ec}(z:PV X a f)(O:PV X (.BoolOp .And (b::yR) pos) g):PV X (.BoolOp .And (a::b::yR) pos) (rR f g):=
 qb (Bl z O) λt H Q U=>by
  obtain⟨k,i,d,rc,I,q⟩:=U;obtain⟨c,h,I⟩:=zg I;obtain⟨Y,n,h⟩:=zg h;refine⟨k,i,Y,rc,n,λv j e x r=>?_⟩;rw[KN h]at r;refine⟨c,r,?_⟩;cases c with
  |true=>rw[UJ rfl]at I ⊢;exact⟨e,i,d,rc.ext x,I,λp l m s o=>q p l m (x.trans s) o⟩
  |false=>rw[UY Lb]at I ⊢;cases I;exact q _ j e x (show V.bl di=.bl di from rfl)
theorem oj(z:PV X a f):PV X (.UnaryOp .Not a pos) (Ef f):=
 qb (Bg z) λi H Q U=>by
  obtain⟨h,e,d,rc,I,q⟩:=U;unfold Ef at I;cases e1:f e with
  |none=>rw[e1]at I;cases I
  |some O=>
   rw[e1]at I;refine⟨h,e,O,rc,e1,λv g b x r=>?_⟩;cases O with
   |bl c=>cases I;exact⟨c,r,q _ g b x<|show V.bl (!c)=.bl (!c)from rfl⟩
   |_=>cases I
theorem xk(L:ni X c k)(z:PV X a f)(J:PV X b g):PV X (.IfExp c a b pos) (bq k f g):=
 qb (lW L z J) λp H Q n=>by
  obtain⟨l,j,d,rc,I,q⟩:=n;obtain⟨t,m,I⟩:=zg I;refine⟨l,j,t,rc,m,λo e x=>?_⟩;cases t with
  |true=>rw[UJ rfl]at I ⊢;exact⟨e,j,d,rc.ext x,I,λO h U Y i=>q O h U (x.trans Y) i⟩
  |false=>rw[UY Lb]at I ⊢;exact⟨e,j,d,rc.ext x,I,λO h U Y i=>q O h U (x.trans Y) i⟩
theorem sR:Dw X [] zF:=Bp qc λe H Q I=>by obtain⟨a,d,b,rc,O,q⟩:=I;cases O;exact q [] H a (Ext.refl rc.sub) d5.nil
theorem lZ(z:PV X e f)(Y:Dw X es g)(hs:eA (e::es) X.env=(di,d8 e X.env)::eA es X.env:=by rfl):Dw X (e::es) (zb f g):=
 Bp (jm z Y hs) λt H Q l=>by
  obtain⟨d,a,s,rc,I,q⟩:=l;obtain⟨x,k,I⟩:=zg I;cases O:g a with
  |none=>rw[O]at I;cases I
  |some r=>
   rw[O]at I;cases I;exact⟨d,a,x,rc,k,λv p i b m=>⟨i,a,r,rc.ext b,O,λo h j U n=>q (v::o) h j (b.trans U)<|d5.cons (m.mono U.s0) n⟩⟩
theorem jI(h:Dw X es f):PV X (.Tuple es z pos) (xF f):=
 qb (Bd h) λo H Q j=>by
  obtain⟨g,l,d,rc,I,q⟩:=j;obtain⟨b,i,I⟩:=zg I;by_cases O:b.length<=lim
  ·rw[UJ O]at I;cases I
   refine⟨g,l,b,rc,i,λk m n z U=>⟨ve (by rw[U.length];exact O),λp Y=>?_⟩⟩;exact q _ _ _ (z.trans<|Ext.alloc z.sub Y _) (show ∃a e,V.ref p=.ref a/\gR X.K _ a e/\d5 X.K _ b e from⟨p,k,rfl,gR.of zM,U.mono<|jC (jx z.sub Y) _⟩)
  ·rw[UY O]at I;cases I
theorem jE(h:Dw X es f):PO X (.List es pos) (jH f):=
 qb (Bi h) λn H Q j=>by
  obtain⟨b,l,d,rc,I,q⟩:=j;obtain⟨g,i,I⟩:=zg I;by_cases U:g.length<=lim
  ·rw[UJ U]at I;cases I
   refine⟨b,l,_,rc,i,λk m e a Y=>⟨ve (by rw[Y.length];exact U),λp O=>?_⟩⟩;exact q p k _ e (a.trans<|Ext.hide a.sub O _) (by
    cases z:H p with
    |none=>rfl
    |some o=>rw[a.s1 p o z]at O;cases O) (jx a.sub O) zM Y
  ·rw[UY U]at I;cases I
end
noncomputable def Dx(k1 k2:Sk)(z TI TO J L O Y:dv)(n:Nat)(h:eh):Prop:=
 (t6 h z TI TO .none\/∃I b U,h.get? z=cq (Vx I b TI TO)/\h.get? I=cq U)/\m4 h TI (.ref J) (.ref L)/\(∃c e,m4 h TO c e)/\i4 k1 h J O n/\i4 k2 h L Y n
section
variable{prog:g8}{w:f7}{A:i5}{E:EQ}{s:d6}
theorem uU{k1 k2:Sk}{z TI TO J L U l2:dv}{n:Nat}{xs ys:Array dy}{Q:Option dy->d6->Prop}(hh:A.handled=none)(D:B8 z TI TO J L U l2)
 (Z:Dx k1 k2 z TI TO J L U l2 n s.heap) (a5:m6 k1 s.heap U xs) (a6:m6 k2 s.heap l2 ys) (a7:xs[n]? = none\/ys[n]? = none)
 (hQ:∀h',(∀c o,c ∉ [z,TI,TO,J,L]->s.heap.get? c=cq o->h'.get? c=cq o)->Q none {s with heap:=h'}):wpAny (d9 prog w) A (A6<|.ref z) Q E s:=by
 obtain⟨a,i,⟨c,e,l⟩,j,k⟩:=Z;unfold A6;rcases a with a|⟨al,b,oa,a,ha⟩
 ·have O:s.TypeIs (.ref z) "zip":=⟨_,a,rfl⟩
  refine Iz (MV (LC (name:=Lw "__next__") O Mw (Me Mw O NK
   (Wq (show A.in1.handled=none from hh) D a i l j k a5 a6 a7 λg e Y f=>?_) (NC _))))
  obtain⟨o,h,d⟩:=f;refine Iz (PM (T:="StopIteration") (b:=da) ⟨o,h,d⟩ RE (IH ?_));refine hQ g λc o I q=>?_;simp only[IM,IW,or_false,not_or]at I;exact Y c o I.1 I.2.2.1 I.2.2.2.1 I.2.2.2.2 q
 ·have O:s.TypeIs (.ref z) "zip":=⟨_,a,rfl⟩
  refine Iz (MV (LC (name:=Lw "__next__") O Mw (Me Mw O NK
   (iL (show A.in1.handled=none from hh) D a ha i j k a5 a6 a7 λg e Y f=>?_) (NC _))))
  obtain⟨o,h,d⟩:=f;refine Iz (PM (T:="StopIteration") (b:=da) ⟨o,h,d⟩ RE (IH ?_));refine hQ g λc o I q=>?_;simp only[IM,IW,or_false,not_or]at I;exact Y c o I.1 I.2.2.2.1 I.2.2.2.2 q
end
noncomputable def lF(z:List (Key×V))(ps:List (Key×V)):List (Key×V):=ps.foldl (λacc I=>cT acc I.1 I.2) z
theorem vg:entryFor table "dict.update.loop" = cq Builtin.«dict.update.loop» :=entryFor_of_tree (by kernel_rfl)
theorem y8(args:Args):(Code.builtin "dict.update.loop" args).quiet=da:=Code.quiet_builtin _ ⋯
noncomputable def xw(ds:List D):List D:=(IA ds.length).map λ(i:Nat)=>D.tup [.int i,ds[i]?.getD .d7]
noncomputable def lz(f:CO D)(γ:Ctx):Option (List D):=(f γ).bind λd=>match d with
 |.tup a=>cq (xw a)
 |_=>none
noncomputable def V4:List D->Option (List Int)
 |[]=>cq []
 |.int i::r=>(V4 r).map λl=>i::l
 |_::_=>none
noncomputable def Vz:List D->Option (List Str)
 |[]=>cq []
 |.str x::r=>(Vz r).map λl=>x::l
 |_::_=>none
noncomputable def jo(x:Str):Bool:=decide<|x.length<=1000
noncomputable def rP(f:CO D)(g:CO (Sk×List D))(γ:Ctx):Option D:=(f γ).bind λd=>(g γ).bind λa=>match d,a.1 with
 |.str sep,.L=>(Vz a.2).bind λl=>if l.length<=lim/\l.all jo=da/\jo sep=da then cq (.str<|RV sep l)else none
 |_,_=>none
noncomputable def qS(f g:CO D)(γ:Ctx):Option D:=(f γ).bind λd=>((g γ).bind o6).bind λi=>match d with
 |.str z=>if jo z=da then (hH z.cps.toList.length i).bind λk=>z.cps.toList[k]?.map λc=>.str ⟨#[c]⟩else none
 |_=>none
noncomputable def vJ(f:CO D)(γ:Ctx):Option D:=(f γ).bind λd=>match d with
 |.str z=>if jo z=da then cq (.int z.length)else none
 |_=>none
noncomputable def dN(f g:CO D)(γ:Ctx):Option D:=((f γ).bind o6).bind λi=>((g γ).bind o6).map λj=>.int (if j<i then j else i)
abbrev Xn:=Str×Option Int
noncomputable def D5:CO Xn:=λ_=>none
noncomputable def pH(c:Str):CO Xn:=λ_=>cq (c,none)
noncomputable def wb(k:CO Bool)(G H:CO Xn):CO Xn:=λa=>(k a).bind λb=>if b=da then G a else H a
noncomputable def nM(G:CO Xn)(F:CO Fl)(H:CO Xn):CO Xn:=λb=>match G b with
 |some c=>cq c
 |none=>(F b).bind λI=>match I with
  |.next a=>H a
  |_=>none
noncomputable def yb(G:List D->Option Xn)(g:CO (List D)):CO Xn:=λa=>(g a).bind G
noncomputable def WO(n:Nat)(G:CO Xn)(ds:List D):Option Xn:=G<|z7 n ds
noncomputable def WN(c:Str)(f:CO D):CO D:=λa=>(f a).bind λd=>match d with
 |.exc I _=>cq (.bl<|I==c)
 |_=>none
noncomputable def Ax(f:CO D):CO D:=λa=>(f a).bind λd=>match d with
 |.exc _ _=>cq (.bl da)
 |_=>none
noncomputable def Ih(c:Str):Str:=if c==("NoRoom" : Str)then "room" else "at"
noncomputable def X3(f:CO D)(g:CO (Sk×List D)):CO D:=λb=>(f b).bind λd=>(g b).bind λa=>(o6 d).bind λi=>(V4 a.2).map λl=>.bl (!decide (i∈l))
end DL
namespace DL
open PySem L2
open PySem.W (KasT kas_sort)
noncomputable def kg(z:Str):List D:=z.cps.toList.map λc=>D.str ⟨#[c]⟩
noncomputable def GV(f:CO D)(γ:Ctx):Option (List D):=(f γ).bind λd=>match d with
 |.str z=>if jo z=da then cq (kg z)else none
 |_=>none
noncomputable def Yr(f:CO D)(γ:Ctx):Option (List D):=(f γ).bind λd=>match d with
 |.str z=>if jo z=da then cq (xw<|kg z)else none
 |_=>none
noncomputable def nX(f:CO D)(γ:Ctx):Option (List D):=(f γ).bind λd=>match d with
 |.lst a=>cq (xw a)
 |_=>none
noncomputable def X4(f g:CO D)(γ:Ctx):Option D:=(f γ).bind λd=>(g γ).bind λe=>match d,e with
 |.str x,.str y=>if jo x=da/\jo y=da then cq (.str<|x++y)else none
 |_,_=>none
noncomputable def Fg(f:CO D)(l h:CO (Option Int))(γ:Ctx):Option D:=(f γ).bind λd=>(l γ).bind λlo=>(h γ).bind λa=>match d with
 |.str z=>if jo z=da then cq (.str<|Txt.slice z lo a)else none
 |_=>none
noncomputable def wJ(x y:Int×Int):Bool:=if x.1=y.1 then decide (x.2<y.2)else decide (x.1<y.1)
noncomputable def ku{z:Type}(lt:Nat->Nat->Bool):KasT z->z
 |.ret a=>a
 |.ask i j k=>ku lt<|k<|lt i j
noncomputable def kT(ps:List (Int×Int)):List Nat:=if ps.length<2 then IA ps.length else (ku (λi j=>wJ (ps.getD i (0,0))<|ps.getD j (0,0))<|kas_sort ps.length).toList
end DL
namespace DL
open PySem L2
noncomputable def dR(i:Nat)(f:CO (List D))(γ:Ctx):Option Fl:=(ya γ[i]?).bind λa=>(f γ).bind λb=>if a.length+b.length<=lim then cq (.next<|γ.set i<|.own<|a++b)else none
noncomputable def Ks:List D->Option (List Int)
 |[]=>cq []
 |.int i::r=>(Ks r).map λl=>i::l
 |_::_=>none
noncomputable def nu(ds es:List D):Option D:=match Ks ds with
 |some a=>if ds.length=es.length/\a.Nodup/\ds.length<=lim then cq (.nr ds es)else none
 |none=>none
noncomputable def aw:List D->List D->Int->Option D
 |k::ks,v::vs,i=>match k with
  |.int j=>if j=i then cq v else aw ks vs i
  |_=>aw ks vs i
 |_,_,_=>none
open PySem.Spec PyProof.Rows
structure RS(K:Iy)(E0 E H0 H:Hp)(σ:St)(γ:Ctx):Prop where
 rc:RC K H0 H σ γ
 ext:Ext E0 E H0 H
 fresh:∀(i:Nat) ds a,γ[i]? = cq (.own ds)->σ[i]? = cq (cq (.ref a))->E a=none
 DE:∀(i:Nat) rows a xs,γ[i]? = cq (.nest rows)->σ[i]? = cq (cq (.ref a))->H a=cq (.lst xs)->E a=none/\∀b,V.ref b∈xs->E b=none
noncomputable def Sat(K:Iy)(E0 E:Hp)(D:Ends):Fl->Prop
 |.next f=>∀e H b,RS K E0 E b H e f->D.nx e H
 |.brk f=>∀e H b,RS K E0 E b H e f->D.bk e H
 |.cont f=>∀e H b,RS K E0 E b H e f->D.ct e H
 |.ret (.val d)=>∀v H b,Ext E0 E b H->Rep K b d v->D.rt v H
 |.ret (.own es)=>∀a g H b,Ext E0 E b H->E a=none->b a=none->H a=cq (.lst g)->d5 K b es g->D.rt (.ref a) H
noncomputable def tS(K:Iy)(F:CO Fl):TS:=λD d H=>∃E0 E b a I,RS K E0 E b H d a/\F a=cq I/\Sat K E0 E D I
abbrev n5(X:Cx)(st:h9)(F:CO Fl):Prop:=PS X st (tS X.K F)
abbrev cW(X:Cx)(W_:List h9)(F:CO Fl):Prop:=t9 X W_ (tS X.K F)
section
variable{K:Iy}{E0 E H0 H Dt H':Hp}{σ:St}{γ:Ctx}
theorem RS.step(r:RS K E0 E H0 H σ γ)(e:Ext H0 H Dt H'):RS K E0 E Dt H' σ γ:=⟨r.rc.ext e,r.ext.trans e,r.fresh,λi b a g d f O=>by obtain⟨U,bs,I,g2,_⟩:=r.rc.C3.1 i b d;rw[f]at I;cases I;have:=e.s1 a _ g2.ha;rw[O]at this;cases this;exact r.DE i b a _ d f g2.ha⟩
theorem jd{z:Type}{l:List z}{i j:Nat}{x y:z}(h:(l.set i x)[j]? = cq y):(j=i/\y=x/\i<l.length)\/(j≠i/\l[j]? = cq y):=by
 by_cases e:i=j
 ·subst e
  by_cases I:i<l.length
  ·rw[LW I]at h;cases h;exact .inl ⟨rfl,rfl,I⟩
  ·rw[List.set_eq_of_length_le ⋯]at h
   exact absurd (Ll.mp h).1 I
 ·rw[IT e]at h;exact .inr ⟨LD e,h⟩
theorem r3.A7{i:Nat}{d:D}{v:V}(n:r3 K H0 H σ γ):r3 K H0 H (σ.set i<|some v) (γ.set i<|.val d):=
 ⟨λj b e=>by
  rcases jd e with⟨_,z,_⟩|⟨U,z⟩
  ·cases z
  ·obtain⟨a,bs,h,l,Y⟩:=n.1 j b z
   refine⟨a,bs,by rw[IT (LD U)];exact h,l,λk g c f I=>?_⟩;rcases jd f with⟨_,z,_⟩|⟨m,O⟩
   ·cases z
   ·rw[IT (LD m)]at I;exact Y k g c O I,
 λj k o p f I=>by
  rcases jd f with⟨_,z,_⟩|⟨_,O⟩
  ·cases z
  ·rcases jd I with⟨_,z,_⟩|⟨_,r⟩
   ·cases z
   ·exact n.2 j k o p O r⟩
theorem RC.A7{i:Nat}{d:D}{v:V}(r:RC K H0 H σ γ)(h:Rep K H0 d v):RC K H0 H (σ.set i<|some v) (γ.set i<|.val d):=by
 refine⟨r.sub,by simp[r.len],λj g e=>?_,λj b e=>?_,λj k a b n l m U Y=>?_,r.C3.A7⟩
 ·rcases jd e with⟨rfl,z,f⟩|⟨I,z⟩
  ·cases z;exact⟨v,LW (by rw[r.len];exact f),h⟩
  ·obtain⟨p,O,g2⟩:=r.val j g z
   exact⟨p,by rw[IT (LD I)];exact O,g2⟩
 ·rcases jd e with⟨rfl,z,f⟩|⟨I,z⟩
  ·cases z
  ·obtain⟨a,s,O,g2⟩:=r.own j b z
   exact⟨a,s,by rw[IT (LD I)];exact O,g2⟩
 ·rcases jd l with⟨_,z,_⟩|⟨I,t⟩
  ·cases z
  ·rcases jd m with⟨_,z,_⟩|⟨o,u⟩
   ·cases z
   ·rw[IT (LD I)]at U
    rw[IT (LD o)]at Y;exact r.ne j k a b n t u U Y
theorem RS.A7{i:Nat}{d:D}{v:V}(r:RS K E0 E H0 H σ γ)(h:Rep K H0 d v):RS K E0 E H0 H (σ.set i<|some v) (γ.set i<|.val d):=
 ⟨r.rc.A7 h,r.ext,λj f a e I=>by
  rcases jd e with⟨_,z,_⟩|⟨O,z⟩
  ·cases z
  ·rw[IT (LD O)]at I;exact r.fresh j f a z I,
 λj b a g e I U=>by
  rcases jd e with⟨_,z,_⟩|⟨O,z⟩
  ·cases z
  ·rw[IT (LD O)]at I;exact r.DE j b a g z I U⟩
theorem JR:∀{I bs:List dv},I.map V.ref=bs.map V.ref->I=bs
 |[],[],_=>rfl
 |[],_::_,h=>by cases h
 |_::_,[],h=>by cases h
 |a::I,b::bs,h=>by rw[Lk,Lk]at h;injection h with h1 h2;injection h1 with h1;rw[h1,JR h2]
theorem RS.V_{i:Nat}{es:List D}{a:dv}{xs:List V}{L G:Hp}(r:RS K E0 E L G σ γ)(e:Ext L G H0 H)(J:G a=none)(Z:H0 a=none)(h3:H a=cq (.lst xs))(h4:d5 K H0 es xs):
 RS K E0 E H0 H (σ.set i<|some (.ref a)) (γ.set i<|.own es):=by
 have rc:=r.rc.ext e;have no:∀(j:Nat) f,γ[j]? = cq (.own f)->¬σ[j]? = cq (cq (.ref a)):=λj f g z=>by obtain⟨b,u,I,g2,g3,_⟩:=r.rc.own j f g;rw[z]at I;cases I;rw[J]at g3;cases g3
 refine⟨⟨rc.sub,by simp[rc.len],λj x g=>?_,λj f g=>?_,λj k b f fs t Y h l=>?_,⟨λj d g=>?_,λj k C F I g2=>?_⟩⟩,r.ext.trans e,λj f b I g2=>?_,λj d b xs I g2 g3=>?_⟩
 ·rcases jd g with⟨_,z,_⟩|⟨O,z⟩
  ·cases z
  ·obtain⟨M,I,g2⟩:=rc.val j x z
   exact⟨M,by rw[IT (LD O)];exact I,g2⟩
 ·rcases jd g with⟨rfl,z,U⟩|⟨O,z⟩
  ·cases z;exact⟨a,xs,LW (by rw[rc.len];exact U),Z,h3,h4⟩
  ·obtain⟨b,u,I,g2⟩:=rc.own j f z
   exact⟨b,u,by rw[IT (LD O)];exact I,g2⟩
 ·rcases jd t with⟨rfl,z,U⟩|⟨O,m⟩
  ·rcases jd Y with⟨rfl,_,_⟩|⟨n,p⟩
   ·rfl
   ·rw[LW (by rw[rc.len];exact U)]at h
    rw[IT (LD n)]at l;cases h;exact absurd l<|no k fs p
  ·rcases jd Y with⟨rfl,z,U⟩|⟨n,p⟩
   ·rw[LW (by rw[rc.len];exact U)]at l
    rw[IT (LD O)]at h;cases l;exact absurd h<|no j f m
   ·rw[IT (LD O)]at h
    rw[IT (LD n)]at l;exact rc.ne j k b f fs m p h l
 ·rcases jd g with⟨_,z,_⟩|⟨O,z⟩
  ·cases z
  ·obtain⟨b,bs,I,g2,g3⟩:=r.rc.C3.1 j d z
   obtain⟨P,s,f1,f2,A⟩:=rc.C3.1 j d z;rw[I]at f1;cases f1;have y:s.map V.ref=bs.map V.ref:=by have:=e.s1 b _ g2.ha;rw[f2.ha]at this;injection this with this;injection this
   have w:s=bs:=JR y;subst w;refine⟨b,s,by rw[IT (LD O)];exact I,f2,λk f c t Y=>?_⟩;rcases jd t with⟨rfl,_,U⟩|⟨n,m⟩
   ·rw[LW (by rw[rc.len];exact U)]at Y;cases Y
    intro B;obtain⟨_,N,q⟩:=g2.at B;rw[J]at q;cases q
   ·rw[IT (LD n)]at Y;exact A k f c m Y
 ·rcases jd I with⟨_,z,_⟩|⟨_,m⟩
  ·cases z
  ·rcases jd g2 with⟨_,z,_⟩|⟨_,p⟩
   ·cases z
   ·exact rc.C3.2 j k C F m p
 ·rcases jd I with⟨rfl,z,U⟩|⟨O,z⟩
  ·rw[LW (by rw[rc.len];exact U)]at g2;cases g2
   cases q:E a with
   |none=>rfl
   |some o=>rw[r.ext.s1 a o q]at J;cases J
  ·rw[IT (LD O)]at g2;exact r.fresh j f b z g2
 ·rcases jd I with⟨_,z,_⟩|⟨O,z⟩
  ·cases z
  ·rw[IT (LD O)]at g2;exact(r.step e).DE j d b xs z g2 g3
theorem RS.rewrite{i:Nat}{ds es:List D}{a:dv}{xs ys:List V}(r:RS K E0 E H0 H σ γ)(J:γ[i]? = cq (.own ds))(hs:σ[i]? = cq (cq (.ref a)))(L:d5 K H0 es ys):
 RS K E0 E H0 (upd H a<|.lst ys) σ (γ.set i<|.own es):=by
 obtain⟨F,G,g1,g2,g3,P⟩:=r.rc.own i ds J;rw[hs]at g1;cases g1;have M:i<γ.length:=(Ll.mp J).1;refine⟨⟨λb o q=>?_,by simp[r.rc.len],λj x g=>?_,λj fs g=>?_,λj k b fs gs e I l y=>?_,⟨λj d g=>?_,λj k B C e I=>?_⟩⟩,⟨r.ext.s0,λb o q=>?_,λb o q=>?_,r.ext.new⟩,λj fs b e I=>?_,λj d b s e I l=>?_⟩
 ·rw[zK (λz=>by rw[z,g2]at q;cases q)];exact r.rc.sub b o q
 ·rcases jd g with⟨_,z,_⟩|⟨m,z⟩
  ·cases z
  ·exact r.rc.val j x z
 ·rcases jd g with⟨rfl,z,Q⟩|⟨m,z⟩
  ·cases z;exact⟨a,ys,hs,g2,zM,L⟩
  ·obtain⟨b,s,O,U,Y,A⟩:=r.rc.own j fs z
   refine⟨b,s,O,U,?_,A⟩;rw[zK (λq=>m<|r.rc.ne j i a fs ds z J (by rw[O,q]) hs)];exact Y
 ·have u:∃f,γ[j]? = cq (.own f):=by
   rcases jd e with⟨q,_,_⟩|⟨_,z⟩
   ·exact⟨ds,by rw[q];exact J⟩
   ·exact⟨fs,z⟩
  have w:∃f,γ[k]? = cq (.own f):=by
   rcases jd I with⟨q,_,_⟩|⟨_,z⟩
   ·exact⟨ds,by rw[q];exact J⟩
   ·exact⟨gs,z⟩
  obtain⟨O,h⟩:=u;obtain⟨U,p⟩:=w;exact r.rc.ne j k b O U h p l y
 ·rcases jd g with⟨_,z,_⟩|⟨m,z⟩
  ·cases z
  ·obtain⟨b,bs,O,U,Y⟩:=r.rc.C3.1 j d z
   have t:=Y i ds a J hs;refine⟨b,bs,O,U.move (f6.refl _) (λc n=>(U.at n).1)<|λc n=>zK λq=>t<|q ▸ n,λk fs c e I=>?_⟩;rcases jd e with⟨q,_,_⟩|⟨_,h⟩
   ·rw[q,hs]at I;cases I;exact t
   ·exact Y k fs c h I
 ·rcases jd e with⟨_,z,_⟩|⟨_,h⟩
  ·cases z
  ·rcases jd I with⟨_,z,_⟩|⟨_,p⟩
   ·cases z
   ·exact r.rc.C3.2 j k B C h p
 ·rw[zK (λz=>by rw[z,r.fresh i ds a J hs]at q;cases q)];exact r.ext.s1 b o q
 ·rw[zK (λz=>by rw[z,g2]at q;cases q)];exact r.ext.sub b o q
 ·rcases jd e with⟨q,_,_⟩|⟨_,z⟩
  ·rw[q]at I;exact r.fresh i ds b J I
  ·exact r.fresh j fs b z I
 ·rcases jd e with⟨_,z,_⟩|⟨m,z⟩
  ·cases z
  ·obtain⟨N,bs,O,U,Y⟩:=r.rc.C3.1 j d z
   rw[I]at O;cases O;rw[zK (show b≠a from λq=>Y i ds a J hs<|by rw[q];exact La)]at l;exact r.DE j d b s z I l
end
section
variable{X:Cx}{e a b c:ec}{pos:fh}{st:h9}{yR:List h9}
theorem jh:cW X [] qF:=oB sr λD b H I=>by obtain⟨E0,E,a,e,d,O,U,Y⟩:=I;cases U;exact Y b H a O
theorem zf{F G:CO Fl}(z:n5 X st F)(J:cW X yR G):cW X (st::yR) (zS F G):=oB (lI z J) λD l H Y=>by
 obtain⟨E0,E,d,i,g,h,I,O⟩:=Y;obtain⟨U,f,I⟩:=zg I;refine⟨E0,E,d,i,U,h,f,?_⟩;cases U with
 |next a=>exact λj k b e=>⟨E0,E,b,a,g,e,I,O⟩
 |brk a=>cases I;exact O
 |cont a=>cases I;exact O
 |ret r=>cases I;cases r<;>exact O
theorem zo(z:n5 X st F):cW X [st] F:=eR z
theorem zH(h:o.map f=cq y):∃x,o=cq x/\f x=y:=by
 cases o with
 |none=>cases h
 |some x=>exact⟨x,rfl,by simpa using h⟩
theorem zL{f:CO D}(h:PV X e f):n5 X (.Return (cq e) pos) (qt f):=yS (eU h) λD l H U=>by obtain⟨E0,E,g,j,k,O,I,Y⟩:=U;obtain⟨d,i,I⟩:=zH I;subst I;exact⟨g,j,d,O.rc,i,λv b a x r=>Y v b a (O.ext.trans x) r⟩
theorem qo{f:CO (List D)}(h:PO X e f):n5 X (.Return (cq e) pos) (yQ f):=yS (eU h) λD t H U=>by
 obtain⟨E0,E,i,p,s,I,O,Y⟩:=U;obtain⟨j,k,O⟩:=zH O;subst O;refine⟨i,p,j,I.rc,k,λa n g b x d l m r=>Y a n g b (I.ext.trans x) ?_ l m r⟩;cases q:E a with
 |none=>rfl
 |some o=>rw[I.ext.s1 a o q]at d;cases d
theorem vy(i:Nat)(h:PE X e (nR i)):n5 X (.Return (cq e) pos) (XZ i):=yS (eU h) λD s H Y=>by
 obtain⟨E0,E,j,p,r,O,I,U⟩:=Y;unfold XZ at I;cases b:p[i]? with
 |none=>rw[b]at I;cases I
 | some c=>
  rw[b]at I;cases c with
  |no=>cases I
  |val d=>
   cases I;obtain⟨v,f,g⟩:=O.rc.val i d b;exact⟨v,f,U v H j O.ext g⟩
  |nest l=>cases I
  |own k=>
   cases I;obtain⟨a,o,f,g,m,n⟩:=O.rc.own i k b;exact⟨_,f,U a o H j O.ext (O.fresh i k a b f) g m n⟩
theorem Yz:n5 X (.Continue pos) rQ:=yS VG λD b H ⟨E0,E,a,d,Y,I,O,U⟩=>by cases O;exact U b H a I
theorem JH:n5 X st WM:=yS lN λD d H ⟨E0,E,a,b,O,U,I,Y⟩=>by cases I
theorem j5{k:CO Bool}{F G:CO Fl}{x y:List h9}(L:ni X c k)(z:cW X x F)(J:cW X y G):n5 X (.If c x y pos) (kv k F G):=yS (Fv L z J) λD h H f=>by
 obtain⟨E0,E,d,b,U,O,I,Y⟩:=f;obtain⟨t,e,I⟩:=zg I;refine⟨d,b,t,O.rc,e,λg a x=>?_⟩;cases t with
 |true=>rw[UJ rfl]at I ⊢;exact⟨E0,E,a,b,U,O.step x,I,Y⟩
 |false=>rw[UY Lb]at I ⊢;exact⟨E0,E,a,b,U,O.step x,I,Y⟩
theorem su(i:Nat){f:CO D}(h:PS X st (WE (tV X.K f)<|vf i)):n5 X st (jr i f):=yS h λD l H U=>by obtain⟨E0,E,b,g,k,O,I,Y⟩:=U;obtain⟨d,e,I⟩:=zH I;subst I;exact⟨b,g,d,O.rc,e,λv j a x r=>Y _ _ a<|(O.step x).A7 r⟩
theorem lL(i:Nat){f:CO (List D)}(h:PS X st (WE (tO X.K f)<|vf i)):n5 X st (kB i f):=yS h λD s H U=>by obtain⟨E0,E,d,m,o,O,I,Y⟩:=U;obtain⟨e,g,I⟩:=zH I;subst I;exact⟨d,m,e,O.rc,g,λa p n b x j k l r=>Y _ _ b<|O.V_ x j k l r⟩
theorem k4(h:ya o=cq ds):o=cq (.own ds):=by
 cases o with
 |none=>cases h
 |some c=>cases c<;>simp[ya]at h;rw[h]
theorem bC(i:Nat){f:CO D}(h:PE X e (UU X.K "list" eB (nR i) (Ah (tV X.K f) GU)))(hs:u4 e none pos.line X.env=pure di:=by rfl):n5 X (.Expr e pos) (yz i f):=
 yS (Ka h hs) λD A H t=>by
  obtain⟨E0,E,m,u,y,O,I,n⟩:=t;obtain⟨j,b,I⟩:=zg I;obtain⟨d,s,I⟩:=zg I;have b:=k4 b;by_cases U:j.length<lim
  ·rw[UJ U]at I;cases I
   obtain⟨a,xs,k,z,Y,l⟩:=O.rc.own i j b;refine⟨_,k,.inl ⟨rfl,_,gv.of Y⟩,m,u,d,O.rc,s,λv w g x r=>?_⟩;have o:=O.step x;have p:=x.s1 _ _ Y;refine⟨a,xs,v,rfl,rfl,p,?_,?_⟩
   ·exact IV (by rw[l.length];exact U)<|ve<|II _
   ·exact n _ _ g<|o.rewrite (xs:=xs) b k<|(l.mono x.s0).append (d5.cons r d5.nil)
  ·rw[UY U]at I;cases I
end
noncomputable def Im(K:Iy)(H0 H:Hp)(Q:VK):Res->Prop
 |.val d=>∀v e b,Ext H0 H b e->Rep K b d v->Q v e
 |.own g=>∀a f e b,Ext H0 H b e->H a=none->b a=none->e a=cq (.lst f)->d5 K b g f->Q (.ref a) e
noncomputable def u3(K:Iy)(n:Nat)(F:List D->Option Res):Sp:=λd H Q _=>∃a b r,f6 a H/\d5 K a b d/\b.length=n/\F b=cq r/\Im K a H Q r
theorem u3.len{K:Iy}{n:Nat}{F:List D->Option Res}{ps:List Str}(z:ps.length=n):∀vs H Q E,u3 K n F vs H Q E->vs.length=ps.length:=λvs H Q E h=>by obtain⟨d,e,r,_,a,b,_⟩:=h;rw[a.length,b,z]
section
variable{P:g8}{w:f7}{K:Iy}{mg:UZ}{base:eh}
theorem WQ(s:f6 H0 H)(h:d5 K H0 ds vs)(z:ds.length<=N.length):RS K H0 H H0 H (QQ N vs) (z7 N.length ds):=by
 have I:=h.length;refine⟨⟨s,by simp[L2.QQ,z7,I],λi d e=>?_,λi g e=>?_,λi j a g fs e _ _ _=>?_,r3.Sz λi f e=>?_⟩,Ext.refl s,λi g a e _=>?_,λi f a l e _ _=>?_⟩
 all_goals unfold z7 at e
 ·by_cases b:i<ds.length
  ·rw[Mt (by simpa using b),LO]at e
   cases e1:ds[i]? with
   |none=>rw[e1]at e;cases e
   |some k=>
    rw[e1]at e;cases e;obtain⟨x,O,g2⟩:=h.get e1;refine⟨x,?_,g2⟩;unfold L2.QQ;rw[Mt (by simp;omega),LO,O];rfl
  ·rw[Mo (by simpa using b),NR]at e
   split at e<;>cases e
 all_goals
  by_cases b:i<ds.length
  ·rw[Mt (by simpa using b),LO]at e
   cases e1:ds[i]? with
   |none=>rw[e1]at e;cases e
   |some k=>rw[e1]at e;cases e
  ·rw[Mo (by simpa using b),NR]at e
   split at e<;>cases e
theorem ud{x qual:Str}{st:h9}{f:dv}{J:rh}{N ps:List Str}{k:Nat}{F:CO Fl}(Y:L2.E1 K x qual st f J)(S:N6 N ps (jy st))
 (L:∀(z:dy) (A:i5) (outer:List lp) (s:d6) (H:Hp) (E:XK),n9 k (A.deeper<|envOfC qual (jy st) s.heap.objs.size f z)->cW (Vg t5 P w K mg base N qual (jy st) f z A outer s H E).qq (kK st) F):
 rb P w K mg base t5 (k+1) f J ps (u3 K ps.length<|jq N.length F):=by
 refine Y.ok S (u3.len rfl)<|λz A outer s H B Q E m h=>⟨_,L z A outer s H E m,?_⟩;obtain⟨b,g,r,o,j,u,l,O⟩:=h;obtain⟨U,i,I⟩:=zg l;have t:ps.length<=N.length:=by have:=congrArg Rb S.pre;rw[NG]at this;omega
 refine⟨b,H,b,z7 N.length g,U,WQ o j ⋯,i,?_⟩;cases U with
 |ret y=>cases I;cases r<;>exact O
 |next d=>cases I;exact λp e a n=>O .d7 e a n.ext (show V.d7=.d7 from rfl)
 |brk d=>cases I
 |cont d=>cases I
end
section
variable{X:Cx}{es:List ec}{pos p:fh}{k:Nat}{f:dv}{fd:rh}{ps:List Str}{x:Str}{F:List D->Option Res}{g:CO (List D)}
theorem sf{A0:List ec}(G:rb X.prog X.w X.K X.mg X.base t5 k f fd ps (u3 X.K ps.length F))(z:Dw X es g)(L:∀γ ds,g γ=cq ds->ds.length=ps.length)
 (J:∀{t:TA},PA X es t->PE X (.Call (.Name x p) es [] pos) (rj (u3 X.K ps.length F) [] E0 t)):PV X (.Call (.Name x p) es [] pos) (zE F g):=
 qb (J z) λM H Q y=>by
  obtain⟨m,γ,d,rc,I,q⟩:=y;obtain⟨ds,j,I⟩:=zg I;obtain⟨r,o,I⟩:=zH I;refine⟨m,γ,ds,rc,j,λE C n e A=>⟨n,ds,r,e.sub,by simpa using A,L γ ds j,o,?_⟩⟩;subst I;cases r with
  |val d=>exact λv h b O i=>q v h b (e.trans O) i
  |own fs=>
   refine λa B h b O s l u i=>q _ h _ (e.trans<|O.show s l u e.sub) ?_;exact(show ∃U Y,V.ref a=.ref U/\gv X.K _ U Y/\d5 X.K _ fs Y from⟨a,B,rfl,gv.of zM,i.mono<|jC l _⟩)
theorem sG(G:rb X.prog X.w X.K X.mg X.base t5 k f fd ps (u3 X.K ps.length F))(J:Dw X es g)(O:∀γ ds,g γ=cq ds->ds.length=ps.length)
 (U:∀{t:TA},PA X es t->PE X (.Call (.Name x p) es [] pos) (rj (u3 X.K ps.length F) [] E0 t)):PO X (.Call (.Name x p) es [] pos) (jg F g):=
 qb (U J) λM H Q Y=>by
  obtain⟨l,γ,fs,rc,I,q⟩:=Y;obtain⟨ds,h,I⟩:=zg I;obtain⟨r,n,I⟩:=zg I;refine⟨l,γ,ds,rc,h,λL E m e y=>⟨m,ds,r,e.sub,by simpa using y,O γ ds h,n,?_⟩⟩;cases r with
  |val d=>cases I
  | own gs=>
   cases I;exact λa C j b B i s u A=>q a C j b (e.trans B) (by
    cases z:H a with
    |none=>rfl
    |some o=>rw[e.s1 a o z]at i;cases i) s u A
end
structure Walk(K:Iy)(H0 Hs:Hp)(J:It)(ds:List D):Prop where
 go:∀i H1,f6 Hs H1->i<ds.length->J.go i H1
 stop:∀H1,f6 Hs H1->J.stop ds.length H1
 D6:∀i H1 x Ue,f6 Hs H1->i<ds.length->J.D6 i H1 x Ue->∃d,ds[i]? = cq d/\∀G0,f6 H0 G0->f6 G0 H1->∃Uc,Ext G0 H1 Uc Ue/\Rep K Uc d x
theorem Walk.weak{K:Iy}{H0 z I:Hp}{J:It}{ds:List D}(w:Walk K H0 z J ds)(s:f6 z I):Walk K H0 I J ds:=
 ⟨λi a h=>w.go i a<|s.trans h,λa h=>w.stop a<|s.trans h,λi a x b h=>w.D6 i a x b<|s.trans h⟩
theorem XN{k:Sk}{K:Iy}{H0 z:Hp}{a:dv}{xs:List V}{ds:List D}(h:l9 k K z a xs)(r:d5 K H0 ds xs):Walk K H0 z (Ug k K a) ds:=by
 have U:=r.length;refine⟨λi b s n=>?_,λb s=>?_,λi b x f s n y=>?_⟩
 ·have g:i<xs.length:=by omega
  cases k with
  |L=>exact⟨xs,xs[i],s.seq h,ID g⟩
  |T=>exact⟨xs,xs[i],o4 s h,ID g⟩
 ·cases k with
  |L=>exact⟨xs,s.seq h,by omega⟩
  |T=>exact⟨xs,o4 s h,by omega⟩
 ·have e:f=b/\xs[i]? = cq x:=by
   cases k with
   |L=>exact⟨y.1,y.2 xs<|s.seq h⟩
   |T=>exact⟨y.1,y.2 xs<|o4 s h⟩
  obtain⟨l,I⟩:=e;subst l;obtain⟨d,m,O⟩:=r.M0 I;exact⟨d,m,λj o p=>⟨j,Ext.refl p,O.mono o⟩⟩
theorem Zk(lo:Int)(n:Nat):(ZK lo n).length=n:=by simp[ZK]
theorem Xe{K:Iy}{H0 z:Hp}(lo:Int)(n:Nat):Walk K H0 z (N8 lo n) (ZK lo n):=by
 refine⟨λi b s a=>?_,λb s=>?_,λi b x e s a y=>?_⟩
 ·rw[Zk]at a;exact a
 ·rw[Zk];exact II _
 ·rw[Zk]at a
  obtain⟨f,I⟩:=y;subst f I;exact⟨.int<|lo+i,by simp[ZK,a],λd h g=>⟨d,Ext.refl g,(show V.int (lo+i)=.int (lo+i)from rfl)⟩⟩
theorem iN{k1 k2:Sk}{K:Iy}{H0 z:Hp}{a b:dv}{xs ys:List V}{ds es:List D}(J:l9 k1 K z a xs)(O:d5 K H0 ds xs)(L:l9 k2 K z b ys)(Z:d5 K H0 es ys):
 Walk K H0 z (S6 k1 k2 K a b) (yW ds es):=by
 have B:=O.length;have C:=Z.length;have A:(yW ds es).length=min ds.length es.length:=by simp[yW]
 refine⟨λi f s t=>?_,λf s=>?_,λi f x j s t y=>?_⟩
 ·exact⟨xs,ys,vI s J,vI s L,by omega,by omega⟩
 ·refine⟨xs,ys,vI s J,vI s L,?_⟩
  rw[A];omega
 ·obtain⟨p,u,v,m,I,n,g1,g2⟩:=y
  obtain⟨d,r,w⟩:=O.M0<|g1 xs<|vI s J;obtain⟨c,o,k⟩:=Z.M0<|g2 ys<|vI s L;refine⟨.tup [d,c],?_,λh g e=>⟨upd h p<|.tup [u,v],?_,?_⟩⟩
  ·have l:(ds.zip es)[i]? = cq (d,c):=List.getElem?_zip_eq_some.mpr ⟨r,o⟩
   simp[yW,l]
  ·rw[n];exact Ext.alloc e I _
  ·rw[m]
   exact(show ∃U Y,V.ref p=.ref U/\gR K _ U Y/\d5 K _ [d,c] Y from⟨p,[u,v],rfl,gR.of zM,d5.cons ((w.mono g).mono (jC (jx e I) _))<|d5.cons ((k.mono g).mono (jC (jx e I) _)) d5.nil⟩)
noncomputable def U1(K:Iy)(z:CO (List D)):TI:=λg H R=>∃d f e,RC K d H g f/\z f=cq e/\∀J b a,Ext d H a b->Walk K a b J e->R J b
noncomputable def T7(K:Iy)(z:CO (List D)):TI:=λg H R=>∃d f e,RC K d H g f/\z f=cq e/\∀J b a,Ext d H a b->Walk K a a J e->R J b
abbrev A4(X:Cx)(tg e:ec)(src:CO (List D)):Prop:=PI X tg e (U1 X.K src)
abbrev i3(X:Cx)(tg e:ec)(src:CO (List D)):Prop:=PI X tg e (T7 X.K src)
section
variable{X:Cx}{tg e a b:ec}{pos p:fh}
theorem i3.c(h:i3 X tg e src):A4 X tg e src:=Kc h λi H R ⟨d,g,f,rc,I,q⟩=>⟨d,g,f,rc,I,λJ b a x w=>q J b a x<|w.weak x.sub⟩
theorem ji(h:PQ X e f):A4 X tg e (zR f):=Kc (oE h) λp H R I=>by obtain⟨i,n,o,rc,O,q⟩:=I;obtain⟨⟨k,l⟩,j,U⟩:=zH O;subst U;exact⟨i,n,k,l,rc,j,λa m g b x d _ r=>⟨a,k,rfl,⟨m,d⟩,q _ g b x<|XN d r⟩⟩
theorem y9(h:PV X e f):i3 X tg e (zR<|zJ f):=Kc (oE h) λu H R U=>by
 obtain⟨o,s,t,rc,Y,q⟩:=U;obtain⟨⟨k,l⟩,g,I⟩:=zH Y;subst I;obtain⟨d,p,g⟩:=zg g;refine⟨o,s,d,rc,p,λv n b x r=>?_⟩;cases d with
 |tup fs=>
  obtain⟨I,O⟩:k=.T/\l=fs:=by simp[jA]at g;exact⟨g.1.symm,g.2.symm⟩
  subst I O;obtain⟨a,i,rfl,j,m⟩:=(show ∃a i,v=.ref a/\gR X.K b a i/\d5 X.K b l i from r);exact⟨a,.T,rfl,⟨i,o4 x.sub j⟩,q _ n b x<|XN (k:=.T) j m⟩
 |lst fs=>
  obtain⟨I,O⟩:k=.L/\l=fs:=by simp[jA]at g;exact⟨g.1.symm,g.2.symm⟩
  subst I O;obtain⟨a,i,rfl,j,m⟩:=(show ∃a i,v=.ref a/\gv X.K b a i/\d5 X.K b l i from r);exact⟨a,.L,rfl,⟨i,x.sub.seq j⟩,q _ n b x<|XN (k:=.L) j m⟩
 |_=>simp[jA]at g
theorem jW(h:o6 d=cq i):d=.int i:=by cases d<;>simp[o6]at h;rw[h]
theorem J4(h:inR i=da): -(2^62)<=i/\i<2^62:=by unfold inR at h;have h:=of_decide_eq_true h;omega
theorem bH(O:Gl X "range")(J:X.mg "range" = none)(z:PV X a f)(hs:eA [a] X.env=[(di,d8 a X.env)]:=by rfl):i3 X tg (.Call (.Name "range" p) [a] [] pos) (jK f):=
 Kc (fe O J (jm z qc hs) hs) λo H R U=>by
  obtain⟨i,l,m,rc,I,q⟩:=U;obtain⟨n,e,I⟩:=zg I;obtain⟨d,Y,e⟩:=zg e;by_cases g:inR n=da
  ·rw[UJ g]at I;cases I
   refine⟨i,l,d,rc,Y,λv h b x r=>?_⟩;rw[jW e]at r;obtain⟨j,k⟩:=J4 g;exact⟨n,by rw[show v=.int n from r],j,k,q _ h b x<|Xe 0 n.toNat⟩
  ·rw[UY g]at I;cases I
theorem bG(Y:Gl X "range")(Z:X.mg "range" = none)(J:PV X a f)(L:PV X b g)(hs:eA [a,b] X.env=[(di,d8 a X.env),(di,d8 b X.env)]:=by rfl)(O:eA [b] X.env=[(di,d8 b X.env)]:=by rfl):
 i3 X tg (.Call (.Name "range" p) [a,b] [] pos) (X0 f g):=
 Kc (eZ Y Z (jm J (jm L qc O)<|by rw[hs,O]) hs O) λK H R B=>by
  obtain⟨l,k,G,rc,I,q⟩:=B;obtain⟨m,i,I⟩:=zg I;obtain⟨d,t,i⟩:=zg i;obtain⟨n,U,I⟩:=zg I;obtain⟨c,u,U⟩:=zg U;by_cases e:inR m=da/\inR n=da
  ·rw[UJ e]at I;cases I
   refine⟨l,k,d,rc,t,λv F h x r=>⟨h,k,c,rc.ext x,u,λC o s E j=>?_⟩⟩;rw[jW i]at r;rw[jW U]at j;obtain⟨w,y⟩:=J4 e.1;obtain⟨z,A⟩:=J4 e.2;exact⟨m,n,by rw[show v=.int m from r,show C=.int n from j],⟨w,y,z,A⟩,q _ o s (x.trans E)<|Xe m (n-m).toNat⟩
  ·rw[UY e]at I;cases I
theorem XY{K:Iy}{H:Hp}{d:D}{v:V}{k:Sk}{ds:List D}(r:Rep K H d v)(e:jA d=cq (k,ds)):∃a xs,v=.ref a/\l9 k K H a xs/\d5 K H ds xs:=by
 cases d with
 |tup fs=>simp[jA]at e;obtain⟨b,I⟩:=e;subst b I;exact r
 |lst fs=>simp[jA]at e;obtain⟨b,I⟩:=e;subst b I;exact r
 |_=>simp[jA]at e
theorem sI{f g:CO D}{z:List ec}{x1:Nat}{J:fh}(hg:Gl X "zip")(hm:X.mg "zip" = none)(L:PV X a f)(Z:PV X b g)(hs:eA [a,b] X.env=[(di,d8 a X.env),(di,d8 b X.env)]:=by rfl)(U:eA [b] X.env=[(di,d8 b X.env)]:=by rfl):
 i3 X (.Tuple z x1 J) (.Call (.Name "zip" p) [a,b] [] pos) (QR f g):=
 Kc (Ba hg hm (jm L (jm Z qc U)<|by rw[hs,U]) PyProof.Rows.boot_zip hs U) λN H R y=>by obtain⟨j,i,K,rc,I,q⟩:=y;obtain⟨⟨A,m⟩,h,I⟩:=zg I;obtain⟨d,t,h⟩:=zg h;obtain⟨⟨B,n⟩,Y,I⟩:=zH I;obtain⟨c,u,Y⟩:=zg Y;subst I;refine⟨j,i,d,rc,t,λv G e x r=>⟨e,i,c,rc.ext x,u,λM k s O C=>?_⟩⟩;obtain⟨l,E,rfl,g1,g2⟩:=XY (r.mono O.s0) h;obtain⟨o,F,rfl,g3,w⟩:=XY C Y;exact⟨A,B,l,o,rfl,⟨E,vI O.sub g1⟩,⟨F,vI O.sub g3⟩,q _ k s (x.trans O)<|iN g1 g2 g3 w⟩
end
noncomputable def WK:List Nat->List V->St->St
 |i::is,v::vs,σ=>WK is vs<|σ.set i<|some v
 |_,_,σ=>σ
noncomputable def gs:List Nat->I8
 |[]=>Hg
 |i::is=>Ck (vf i)<|gs is
noncomputable def vt(K:Iy):Tg->TG
 |.nm i=>vf i
 |.tp is=>Hf K is.length<|gs is
theorem gy:∀{is:List Nat} {vs:List V} {z:St} {H:Hp} {Q:St->Hp->Prop},vs.length=is.length->Q (WK is vs z) H->gs is vs z H Q
 |[],[],_,_,_,_,q=>⟨rfl,q⟩
 |i::is,v::vs,z,H,Q,hl,q=>⟨v,vs,rfl,gy (by simpa using hl) q⟩
 |[],_::_,_,_,_,hl,_=>by simp at hl
 |_::_,[],_,_,_,hl,_=>by simp at hl
theorem RS.P9{K:Iy}{E0 E H0 H:Hp}:∀{is:List Nat} {ds:List D} {vs:List V} {z:St} {γ:Ctx},RS K E0 E H0 H z γ->d5 K H0 ds vs->RS K E0 E H0 H (WK is vs z) (xI is ds γ)
 |[],ds,vs,z,γ,r,h=>by cases ds<;>cases vs<;>exact r
 |i::is,[],vs,z,γ,r,h=>by rw[h.vu];exact r
 |i::is,d::ds,vs,z,γ,r,h=>by obtain⟨x,t,e,a,b⟩:=h.p9;subst e;show RS K E0 E H0 H (DL.WK is t<|z.set i<|some x) (xI is ds<|γ.set i<|.val d);exact RS.P9 (r.A7 a) b
theorem RC.P9{K:Iy}{H0 H:Hp}:∀{is:List Nat} {ds:List D} {vs:List V} {z:St} {γ:Ctx},RC K H0 H z γ->d5 K H0 ds vs->RC K H0 H (WK is vs z) (xI is ds γ)
 |[],ds,vs,z,γ,r,h=>by cases ds<;>cases vs<;>exact r
 |i::is,[],vs,z,γ,r,h=>by rw[h.vu];exact r
 |i::is,d::ds,vs,z,γ,r,h=>by obtain⟨x,t,e,a,b⟩:=h.p9;subst e;show RC K H0 H (DL.WK is t<|z.set i<|some x) (xI is ds<|γ.set i<|.val d);exact RC.P9 (r.A7 a) b
theorem QC{K:Iy}{H0 H:Hp}{T:Tg}{d:D}{v:V}{z:St}{γ γ1:Ctx}{Q:St->Hp->Prop}(s:f6 H0 H)(h:Rep K H0 d v)(e:kL T d γ=cq γ1)
 (q:∀I,(RC K H0 H z γ->RC K H0 H I γ1)->(∀E0 E,RS K E0 E H0 H z γ->RS K E0 E H0 H I γ1)->Q I H):vt K T v z H Q:=by
 cases T with
 |nm i=>cases e;exact q _ (λr=>r.A7 h) λE0 E r=>r.A7 h
 | tp is=>
  cases d with
  | tup g=>
   simp only[kL]at e;by_cases O:g.length=is.length
   ·rw[UJ O]at e;cases e
    obtain⟨a,b,rfl,k,f⟩:=(show ∃a b,v=.ref a/\gR K H0 a b/\d5 K H0 g b from h);have j:b.length=is.length:=by rw[f.length,O]
    exact⟨a,b,rfl,o4 s k,j,gy j<|q _ (λr=>r.P9 f) λE0 E r=>r.P9 f⟩
   ·rw[UY O]at e;cases e
  |_=>simp[kL]at e
theorem Ext.rebase{E0 E I H0 H B:Hp}(e:Ext E0 E I B)(x:Ext I E H0 H):Ext E0 E H0 H:=
 ⟨e.s0.trans x.s0,x.s1,x.sub,λa d b=>x.new a (e.new a d b) b⟩
theorem Ext.base{E0 E I B:Hp}(e:Ext E0 E I B):Ext I E I B:=⟨f6.refl _,e.s1,e.sub,λa h _=>h⟩
theorem Sat.rebase{K:Iy}{E0 E O B:Hp}{D:Ends}{I:Fl}(e:Ext E0 E O B)(h:Sat K E0 E D I):Sat K O E D I:=by
 cases I with
 |next g=>exact λf H b r=>h f H b ⟨r.rc,e.rebase r.ext,r.fresh,r.DE⟩
 |brk g=>exact λf H b r=>h f H b ⟨r.rc,e.rebase r.ext,r.fresh,r.DE⟩
 |cont g=>exact λf H b r=>h f H b ⟨r.rc,e.rebase r.ext,r.fresh,r.DE⟩
 |ret r=>
  cases r with
  |val d=>exact λv H b x q=>h v H b (e.rebase x) q
  |own l=>exact λa k H b x i j U q=>h a k H b (e.rebase x) i j U q
section
variable{X:Cx}{tg iter:ec}{body:List h9}{pos:fh}
theorem sv{z:CO (List D)}{T:Tg}{F:CO Fl}(hp:Ul (d9 X.prog X.w) X.A X.env X.xe)(hc:X.calm=da)(Z:i3 X tg iter z)(hg:PG X tg (vt X.K T))(hb:cW X body F)
 (hs:∀x,u0 iter X.env x=pure x:=by intro _;rfl):n5 X (.For tg iter body [] pos) (ZV z T F):=
 yS (AW hp hc Z hg hb hs) λD k H hZ=>by
  obtain⟨E0,E,g,b,O,U,I,h⟩:=hZ;obtain⟨a,W,I⟩:=zg I;refine⟨g,b,a,U.rc,W,λJ H1 Y x1 t=>?_⟩;have l:=U.step x1;have G:=l.ext;refine⟨λi m k H=>m=a.length-i/\i<=a.length/\∃g b O,RS X.K Y E g H k b/\kW T F (a.drop i) b=cq O/\Sat X.K Y E D O,⟨_,rfl,Mr _,Y,b,O,⟨l.rc,G.base,l.fresh,l.DE⟩,I,h.rebase G⟩,?_⟩;rintro i m k H ⟨rfl,Z,g,b,O,U,I,h⟩;have o:f6 Y H:=U.ext.s0.trans U.ext.sub;by_cases j:i<a.length
  ·refine .inr ⟨t.go i H o j,λk H=>i+1<=a.length/\∃g b O,RS X.K Y E g H k b/\kW T F (a.drop<|i+1) b=cq O/\Sat X.K Y E D O,λd_ C n=>⟨a.length-(i+1),by omega,rfl,n.1,n.2⟩,λx C y=>?_⟩
   obtain⟨d,L,hx⟩:=t.D6 i H x C o j y;obtain⟨N,M,rg⟩:=hx g U.ext.s0 U.rc.sub;have Q:a.drop i=d::a.drop (i+1):=by
    have R:d=a[i]:=by rw[ID j]at L;exact(LN L).symm
    rw[R];exact ND j
   rw[Q]at I;simp only[kW]at I;obtain⟨u,eb,I⟩:=zg I;obtain⟨f1,eF,I⟩:=zg I;refine QC M.sub rg eb λe_ _ S=>⟨Y,E,N,u,f1,S Y E<|U.step M,eF,?_⟩;cases f1 with
   |next f=>exact λB P p s=>⟨j,p,f,O,s,I,h⟩
   |cont f=>exact λB P p s=>⟨j,p,f,O,s,I,h⟩
   |brk f=>cases I;exact h
   |ret r=>cases I;cases r<;>exact h
  ·have e:i=a.length:=by omega
   subst e;rw[List.drop_length]at I;cases I;exact .inl ⟨t.stop H o,h k H g U⟩
end
theorem kE(h:(jk n fr γ)[i]? = cq c):c=.no\/(∃d j,c=.val d/\n<=i/\fr[i-n]? = cq j/\γ[j]? = cq (.val d)):=by
 unfold jk at h;by_cases b:i<n
 ·rw[Mt (by simpa using b),NR,UJ b]at h
  exact .inl (LN h).symm
 ·rw[Mo (by simpa using b),LO,List.length_replicate]at h
  cases e:fr[i-n]? with
  |none=>rw[e]at h;cases h
  | some j=>
   rw[e]at h;have a:kf (γ[j]?.getD .no)=c:=by simpa using h
   cases e2:γ[j]? with
   |none=>rw[e2]at a;exact .inl a.symm
   |some I=>
    rw[e2]at a;cases I with
    |no=>exact .inl a.symm
    |own g=>exact .inl a.symm
    |nest f=>exact .inl a.symm
    |val d=>exact .inr ⟨d,j,a.symm,by omega,rfl,e2⟩
theorem RC.pull{K:Iy}{H0 H:Hp}{L:St}{γ:Ctx}{own:List Str}{J:List (Str×Nat)}(r:RC K H0 H L γ):RC K H0 H (L2.ou own J L) (jk own.length (J.map (·.2)) γ):=by
 refine⟨r.sub,by simp[L2.ou,jk],λi d h=>?_,λi e h=>?_,λi j a e k h _ _ _=>?_,r3.Sz λi b h=>?_⟩
 ·rcases kE h with z|⟨d',j,z,hi,I,O⟩
  ·cases z
  ·cases z
   obtain⟨v,f,g⟩:=r.val j d O;refine⟨v,?_,g⟩;rw[LO]at I;cases q:J[i-own.length]? with
   |none=>rw[q]at I;cases I
   |some p=>
    rw[q]at I;have U:p.2=j:=by simpa using I
    unfold L2.ou;rw[Mo (by simpa using hi),LO,Lc,q];simp[U,f]
 ·rcases kE h with z|⟨d',j,z,_⟩<;>cases z
 ·rcases kE h with z|⟨d',j,z,_⟩<;>cases z
 ·rcases kE h with z|⟨d',j,z,_⟩<;>cases z
theorem RC.weak{K:Iy}{H0 H:Hp}{J:St}{γ γ':Ctx}(r:RC K H0 H J γ)(O:γ'.length=γ.length)(U:∀(i:Nat) d,γ'[i]? = cq (.val d)->γ[i]? = cq (.val d))(I:∀(i:Nat) ds,γ'[i]? ≠ cq (.own ds))(Y:∀(i:Nat) z,γ'[i]? ≠ cq (.nest z)):RC K H0 H J γ':=
 ⟨r.sub,by rw[O];exact r.len,λi d h=>r.val i d<|U i d h,λi ds h=>absurd h<|I i ds,λi j a ds b h _ _ _=>absurd h<|I i ds,r3.Sz Y⟩
theorem RC.upd{K:Iy}{H0 H:Hp}{L:St}{γ:Ctx}{D:dv}{o:HO}(r:RC K H0 H L γ)(Y:H0 D=none)(I:∀(i:Nat) ds,γ[i]? ≠ cq (.own ds))(O:∀(i:Nat) J,γ[i]? ≠ cq (.nest J)):RC K H0 (upd H D o) L γ:=
 ⟨λb u q=>by rw[zK (λz=>by rw[z,Y]at q;cases q)];exact r.sub b u q,r.len,r.val,λi ds h=>absurd h<|I i ds,λi j a ds d h _ _ _=>absurd h<|I i ds,r3.Sz O⟩
theorem JC:∀{is:List Nat} {ds:List D} {γ:Ctx},(xI is ds γ).length=γ.length
 |[],ds,γ=>by cases ds<;>rfl
 |i::is,[],γ=>rfl
 |i::is,d::ds,γ=>by show(xI is ds<|γ.set i<|.val d).length=_;rw[JC];simp
theorem JD:∀{is:List Nat} {ds:List D} {γ:Ctx} {i:Nat},i∉is->(xI is ds γ)[i]? = γ[i]?
 |[],ds,γ,i,_=>by cases ds<;>rfl
 |j::is,[],γ,i,_=>rfl
 |j::is,d::ds,γ,i,h=>by show(xI is ds<|γ.set j<|.val d)[i]? = _;rw[JD (λz=>h<|Ld _ z),IT (λz=>h<|by rw[<-z];exact La)]
theorem ib(h:kL T d γ=cq γ1):γ1.length=γ.length/\∀i,i∉T.idx->γ1[i]? = γ[i]? :=by
 cases T with
 |nm j=>cases h;exact⟨by simp,λi a=>IT<|λz=>a<|by simp[Tg.idx,z]⟩
 | tp is=>
  cases d with
  |tup b=>
   simp only[kL]at h;by_cases I:b.length=is.length
   ·rw[UJ I]at h;cases h;exact⟨JC,λi a=>JD a⟩
   ·rw[UY I]at h;cases h
  |_=>simp[kL]at h
section
variable{K:Iy}{own:List Str}{fr:List (Str×Nat)}{src:CO (List D)}{T:Tg}{k:CO Bool}{f:CO D}
theorem wR(hT:∀i∈T.idx,i<own.length)(bb:∀L H Q,tT K k L H Q->tt L H Q):∀L H Q,tO K (zU src T own.length (fr.map (·.2)) k f) L H Q->iW (U1 K src) own fr (vt K T) tt (tV K f) L H Q:=λL H Q hZ=>by
 obtain⟨H0,u,ds,rc,U,q⟩:=hZ;obtain⟨a,e1,U⟩:=zg U;by_cases hl:a.length<=lim
 ·rw[UJ hl]at U
  refine⟨H0,u,a,rc,e1,λJ H1 S E wk D B=>?_⟩;have W:∀(i:Nat) es,(jk own.length (fr.map (·.2)) u)[i]? ≠ cq (.own es):=λi es h=>by rcases kE h with z|⟨d',j,z,_⟩<;>cases z
  have X:∀(i:Nat) C,(jk own.length (fr.map (·.2)) u)[i]? ≠ cq (.nest C):=λi es h=>by rcases kE h with z|⟨d',j,z,_⟩<;>cases z
  have as:S D=none:=jx E.sub B;have be:H D=none:=by
   cases z:H D with
   |none=>rfl
   |some o=>rw[E.s1 D o z]at B;cases B
  refine⟨λi m n G l=>m=a.length-i/\i<=a.length/\n.length<=i/\l D=cq (.lst n)/\∃g A N,RC K g l G (jk own.length (fr.map (·.2)) u)/\g D=none/\Ext S H1 g l/\d5 K g A n/\zY T k f (jk own.length (fr.map (·.2)) u) (a.drop i)=cq N/\ds=A++N,
   ⟨_,rfl,Mr _,II _,zM,S,[],ds,((rc.ext E).pull).upd as W X,as,Ext.hide E.sub B _,d5.nil,U,rfl⟩,?_⟩
  rintro i m n G l ⟨rfl,hi,hy,P,g,A,N,Z,b0,Y,r',I,rfl⟩;refine⟨P,?_⟩;by_cases s:i<a.length
  ·refine .inr ⟨wk.go i l Y.s1 s,?_,λx ae y=>?_⟩
   ·have:=ve<|II lim;omega
   obtain⟨d,hd,hx⟩:=wk.D6 i l x ae Y.s1 s y;obtain⟨G0,O,rg⟩:=hx g Y.s0 Z.sub;have bf:a.drop i=d::a.drop (i+1):=by
    have bi:d=a[i]:=by rw[ID s]at hd;exact(LN hd).symm
    rw[bi];exact ND s
   rw[bf]at I;simp only[zY]at I;obtain⟨p,eb,I⟩:=zg I;obtain⟨b,ek,I⟩:=zg I;have bn:G0 D=none:=O.new D b0 (by rw[P];simp);have b1:ae D=cq (.lst n):=O.s1 _ _ P;obtain⟨bl,bg⟩:=ib eb;have b2:∀{M:St} {G2 H2:Hp},RC K G2 H2 M p->RC K G2 H2 M (jk own.length (fr.map (·.2)) u):=λr=>r.weak bl.symm (λj d' hj=>by
    by_cases hm:j∈T.idx
    ·rcases kE hj with z|⟨d2,j2,_,hn,_⟩
     ·cases z
     ·exact absurd (hT j hm) ⋯
    ·rw[bg j hm];exact hj) W X
   refine QC O.sub rg eb λe_ b5 _=>bb e_ ae _ ⟨G0,p,b,b5<|Z.ext O,ek,λH3 ak t=>?_⟩;have al:=(b5<|Z.ext O).ext t;have xa:=Y.trans<|O.trans t;have b7:ak D=none:=t.new D bn (by rw[b1];simp);have am:H3 D=cq (.lst n):=t.s1 _ _ b1;cases b with
   |true=>
    dsimp only;rw[UJ rfl]at I ⊢;obtain⟨e,ee,I⟩:=zg I;obtain⟨yR,er,I⟩:=zH I;refine⟨ak,p,e,al,ee,λv H4 b8 F r4=>?_⟩;have an:b8 D=none:=F.new D b7 (by rw[am];simp);have c3:H4 D=cq (.lst n):=F.s1 _ _ am;have R:=xa.trans F;refine⟨c3,a.length-(i+1),by omega,rfl,s,by rw[Lz,MY];omega,zM,b8,A++[e],yR,(b2<|al.ext F).upd an W X,an,?_,(r'.mono<|(O.trans<|t.trans F).s0).append (d5.cons r4 d5.nil),er,?_⟩
    ·exact⟨R.s0,λc o z=>by rw[zK (λw=>by rw[w,B]at z;cases z)];exact R.s1 c o z,λc o z=>by rw[zK (λw=>by rw[w,an]at z;cases z)];exact R.sub c o z,R.new⟩
    ·rw[<-I];simp
   |false=>
    dsimp only;rw[UY Lb]at I ⊢;exact⟨a.length-(i+1),by omega,rfl,s,by omega,am,ak,A,N,b2 al,b7,xa,r'.mono<|(O.trans t).s0,I,rfl⟩
  ·have e:i=a.length:=by omega
   subst e;rw[List.drop_length]at I;cases I;rw[NT]at q;exact .inl ⟨wk.stop l Y.s1,q D n l g (E.trans Y) be b0 P r'⟩
 ·rw[UY hl]at U;cases U
end
section
variable{X:Cx}{scope:gB}{own:List Str}{fr:List (Str×Nat)}{elt tg iter c:ec}{pos:fh}{src:CO (List D)}{T:Tg}{k:CO Bool}{f:CO D}
theorem sF(I:X.calm=da)(ok:wo X scope fr)(O:∀i∈T.idx,i<own.length)(L:A4 X tg iter src)(U:∀fp J z,PG (jF X scope (own++fr.map (·.1)) fp J z) tg<|vt X.K T)
 (Y:∀fp J z,PV (jF X scope (own++fr.map (·.1)) fp J z) elt f) (hs:∀x,u0 iter X.env x=pure x:=by intro _;rfl):
 PO X (.ListComp elt [⟨tg,iter,[],0⟩] scope pos) (zU src T own.length (fr.map (·.2)) jw f):=
 qb (VJ I ok L U (λ_ _ _=>WZ) Y hs) (wR O λg H Q ⟨a,e,b,rc,d,q⟩=>by cases d;exact q H a<|Ext.refl rc.sub)
theorem eX(I:X.calm=da)(ok:wo X scope fr)(O:∀i∈T.idx,i<own.length)(Z:A4 X tg iter src)(U:∀fp J z,PG (jF X scope (own++fr.map (·.1)) fp J z) tg<|vt X.K T)
 (Y:∀fp J z,ni (jF X scope (own++fr.map (·.1)) fp J z) c k) (L:∀fp J z,PV (jF X scope (own++fr.map (·.1)) fp J z) elt f) (hs:∀x,u0 iter X.env x=pure x:=by intro _;rfl):
 PO X (.ListComp elt [⟨tg,iter,[c],0⟩] scope pos) (zU src T own.length (fr.map (·.2)) k f):=
 qb (VJ I ok Z U (λfp J z=>WY<|Y fp J z) L hs) (wR O λa H Q h=>h)
theorem lO(I:X.N.Nodup)(O:X.N[i]? = cq y)(U:Loc X.env.scope y)(hf:X.fn y=da\/X.env.scope.names.lookup y=cq .local)
 (Y:X.calm=da) (ok:wo X scope fr) (L:∀i∈T.idx,i<own.length) (hi:A4 X tg iter src) (hg:∀fp J z,PG (jF X scope (own++fr.map (·.1)) fp J z) tg<|vt X.K T)
 (Z:∀fp J z,PV (jF X scope (own++fr.map (·.1)) fp J z) elt f) (hs:∀x,u0 iter X.env x=pure x:=by intro _;rfl):
 PS X (.Assign [.Name y py] (.ListComp elt [⟨tg,iter,[],0⟩] scope pos) spos) (WE (tO X.K<|zU src T own.length (fr.map (·.2)) jw f)<|vf i):=
 yS (Xp I O U hf Y ok hi hg (λ_ _ _=>WZ) Z hs) λD a H h=>wR L (λa H Q g=>by obtain⟨d,j,b,rc,e,q⟩:=g;cases e;exact q H d<|Ext.refl rc.sub) a H _ h
theorem bE(I:X.N.Nodup)(O:X.N[i]? = cq y)(U:Loc X.env.scope y)(hf:X.fn y=da\/X.env.scope.names.lookup y=cq .local)
 (Y:X.calm=da) (ok:wo X scope fr) (L:∀i∈T.idx,i<own.length) (hi:A4 X tg iter src) (hg:∀fp J z,PG (jF X scope (own++fr.map (·.1)) fp J z) tg<|vt X.K T)
 (hk:∀fp J z,ni (jF X scope (own++fr.map (·.1)) fp J z) c k) (Z:∀fp J z,PV (jF X scope (own++fr.map (·.1)) fp J z) elt f) (hs:∀x,u0 iter X.env x=pure x:=by intro _;rfl):
 PS X (.Assign [.Name y py] (.ListComp elt [⟨tg,iter,[c],0⟩] scope pos) spos) (WE (tO X.K<|zU src T own.length (fr.map (·.2)) k f)<|vf i):=
 yS (Xp I O U hf Y ok hi hg (λfp J z=>WY<|hk fp J z) Z hs) λD a H h=>wR L (λa H Q h=>h) a H _ h
end
theorem jL{K:Iy}{H:Hp}{i:Int}{v:V}(h:Rep K H (.int i) v):v=.int i:=h
theorem lh{K:Iy}{g:Int->Int->D}{I:Int->Int->V}(U:∀H i j,Rep K H (g i j)<|I i j):o9 K (yr I) (dI g):=λa H x y b Y d Q s e f O q=>by cases b<;>cases Y<;>simp[dI]at O;subst O;exact⟨_,_,jL e,jL f,q _ H a (Ext.refl s)<|U a _ _⟩
theorem dC{K:Iy}{C:Int->Int->Prop}{c:Int->Int->Bool}{g:Int->Int->D}{I:Int->Int->V}(U:∀i j,c i j=da->C i j)(Y:∀H i j,Rep K H (g i j)<|I i j):o9 K (rI C I) (O7 c g):=λa H x y b e d Q s k l O q=>by cases b<;>cases e<;>simp[O7]at O;obtain⟨f,h⟩:=O;subst h;exact⟨_,_,jL k,jL l,U _ _ f,q _ H a (Ext.refl s)<|Y a _ _⟩
theorem rA{K:Iy}:o9 K (yr λi j=>.int (i-j)) cU:=lh λ_ _ _=>rfl
theorem nF(h:XF i j=da):H9 i j:=by unfold XF at h;rw[Mk,decide_eq_true_eq,decide_eq_true_eq]at h;unfold H9;omega
theorem rF{K:Iy}:o9 K (rI HD λi j=>.int (i/j)) Xc:=dC (λi j h=>by unfold CA at h;rw[IK,decide_eq_true_eq,decide_eq_true_eq]at h;exact⟨h.1,by omega⟩) λ_ _ _=>rfl
theorem rD{K:Iy}:o9 K (rI (λ_ j=>0<j) λi j=>.int (i%j)) yT:=dC (λi j h=>by unfold EE at h;exact of_decide_eq_true h) λ_ _ _=>rfl
theorem rB{K:Iy}:o9 K (rI HC λi j=>.int (i^j.toNat)) uk:=dC (λi j h=>by unfold Cz at h;rw[IK,IK,decide_eq_true_eq,decide_eq_true_eq,decide_eq_true_eq]at h;exact⟨h.1.1,by omega,h.2⟩) λ_ _ _=>rfl
theorem nV{K:Iy}:o9 K (yr λi j=>.bl (decide<|i<j)) DZ:=lh λ_ _ _=>rfl
theorem An{K:Iy}:o9 K (yr λi j=>.bl (decide<|i<=j)) Tp:=lh λ_ _ _=>rfl
theorem Ao{K:Iy}:o9 K (yr λi j=>.bl (decide<|j<i)) p7:=lh λ_ _ _=>rfl
section
variable{X:Cx}
noncomputable def og(K:Iy):R2:=λx y H Q=>∃a b d e,x=.ref a/\y=.ref b/\gR K H a d/\gR K H b e/\d.length+e.length<=el/\
 (d=[]->Q (.ref b) H)/\(e=[]->Q (.ref a) H)/\∀p,H p=none->Q (.ref p) (upd H p<|.tup<|d++e)
theorem me:kr X (xg .Add) (og X.K):=by
 intro w s σ H x y v u Q I S T h;obtain⟨a,b,A,Z,rfl,rfl,J,L,t,N,P,R⟩:=h;cases S;cases T;obtain⟨d,r,U,z1⟩:=I.tuple J;obtain⟨B,f,Y,z2⟩:=I.tuple L;by_cases O:A=[]
 ·have e:d=[]:=(r.SD).mpr O
  obtain⟨⟨F,G,k,W⟩,p,l,n,m⟩:=id U;obtain⟨⟨an,C,data2,E⟩,g,i,M,j⟩:=id Y;simp only at l m i j;subst l m i j;exact Sa ⟨_,p,rfl⟩ ⟨_,g,rfl⟩ Sd UP Pd Pb (OM _ _)
   (tuple_addW0 a b d.toArray B.toArray n M G C W E<|by simp[e]) ⟨p,g,⟨.ref b,H,I,rfl,N O⟩⟩
 ·have e:d ≠ []:=λz=>O ((r.SD).mp z)
  refine HT.Gh U Y e (λz=>⟨.ref a,H,I,rfl,P<|(f.SD).mp z⟩) (λ_=>?_) (by rw[<-r.length,<-f.length];exact t);refine⟨.ref s.heap.objs.size,_,I.laid (t':=s.toks) (o:=.tup (A++Z)) (λc ob q=>IB _ q) (II _) ?_,rfl,R _<|I.ej.fresh<|II _⟩;exact⟨by rw[Lz];exact t,_,r.append f,B0.new _ _⟩
noncomputable def AI(K:Iy):R2:=λx y H Q=>∃l b a d,x=.ref l/\y=.ref b/\gv K H l a/\gv K H b d/\a.length+d.length<=el/\∀p,H p=none->Q (.ref p) (upd H p<|.lst<|a++d)
theorem mf:kr X (xg .Add) (AI X.K):=by
 intro d s L H x y v u Q I E G h;obtain⟨l,b,W,zs,rfl,rfl,A,z,R,q⟩:=h;cases E;cases G;obtain⟨a,r,⟨o,n,e,U,Y,f⟩,Z⟩:=I.list A;obtain⟨O,m,⟨C,B,k,g,i,j⟩,z2⟩:=I.list z;have S:=r.length;have T:=m.length;obtain⟨cls,ov,P,J⟩:=o;obtain⟨M,as,N,p⟩:=C;simp only at U Y f g i j;subst U Y f g i j;have t:EP X d L Q (.ref s.heap.objs.size) {s with heap:=s.heap.push {cls:=.type "list",data:=.seq (a++O).toArray}}:=
  ⟨.ref _,_,I.TL (t':=s.toks) (r.append m) (by rw[Lz];omega),rfl,q _ I.fresh⟩
 have w:a.toArray++O.toArray=(a++O).toArray:=by simp
 refine Sa ⟨_,e,rfl⟩ ⟨_,k,rfl⟩ noFill_list_add seq_list_add PySem.F.slot_list_add PySem.F.entry_list_add (PySem.F.args_list_add_2 _ _)
  (list_addW l b a.toArray O.toArray n B none none J p<|by rw[IL,IL];omega) ⟨e,k,?_⟩
 rw[w];exact t
end
noncomputable def yC(scope z:gB):gB:={scope with names:=scope.names.map λp=>if p.2==Lp&&z.kind ==.function&&z.names.lookup p.1==cq .cell then (p.1,Ng)else (p.1,p.2)}
theorem bt(scope:gB)(env:lp):C5 scope env=yC scope env.scope:=by unfold C5 yC;rfl
structure SX(X:Cx)(sc:gB)(N T:List Str)(k:Nat):Prop where
 Dh:X.env.scope=sc
 eN:X.N=N
 nd:N.Nodup
 calm:X.calm=da
 room:n9 k X.A
 fn:∀x∈T,X.fn x=da\/sc.names.lookup x=cq .local
noncomputable def Ju(z:gB)(N:List Str)(i:Nat)(x:Str):Bool:=
 decide (N[i]? = cq x)&&(decide (z.names.lookup x=cq .local) || decide (z.names.lookup x=cq .cell) || decide (z.names.lookup x=cq .free))&&!(x==("__debug__" : Str))&&!(x==("__classdict__" : Str))
noncomputable def yd(z:gB)(N T:List Str)(i:Nat)(x:Str):Bool:=decide (x∈T)&&decide (N[i]? = cq x)&&(decide (z.names.lookup x=cq .local) || decide (z.names.lookup x=cq .cell))
noncomputable def kU(z:gB)(x:Str):Bool:=decide (z.names.lookup x=cq .globalImplicit)&&!(x==("__name__" : Str))&&!(x==("__debug__" : Str))
section
variable{X:Cx}{sc:gB}{N T:List Str}{k:Nat}{i:Nat}{x:Str}{pos:fh}
theorem SX.var(h:SX X sc N T k)(c:Ju sc N i x=da):PE X (.Name x pos) (nR i):=by
 unfold Ju at c;simp only[IK,Mk,decide_eq_true_eq,MH]at c;obtain⟨⟨⟨a,h2⟩,I⟩,O⟩:=c;refine oF (by rw[h.eN];exact a) ?_ I O;unfold O3;rw[h.Dh];rcases h2 with(h2|h2)|h2
 ·exact .inl h2
 ·exact .inr<|.inl h2
 ·exact .inr<|.inr h2
theorem SX.loc(h:SX X sc N T k)(c:yd sc N T i x=da):X.N[i]? = cq x/\L2.Loc X.env.scope x/\(X.fn x=da\/X.env.scope.names.lookup x=cq .local):=by
 unfold yd at c;simp only[IK,Mk,decide_eq_true_eq]at c;refine⟨by rw[h.eN];exact c.1.2,?_,?_⟩
 ·unfold L2.Loc;rw[h.Dh];exact c.2
 ·rw[h.Dh];exact h.fn x c.1.1
theorem SX.Gx(h:SX X sc N T k):X.N.Nodup:=by rw[h.eN];exact h.nd
theorem SX.N1(h:SX X sc N T k)(i:Nat)(c:yd sc N T i x=da):PG X (.Name x pos) (vf i):=by obtain⟨a,b,I⟩:=h.loc c;exact fi h.Gx a b I
theorem SX.U2(h:SX X sc N T k)(g:O0 X es (gs is))(z:(Dy es X.env).length=is.length:=by rfl)(I:(Dy es X.env).findIdx? (·.1)=none:=by rfl):PG X (.Tuple es j pos) (vt X.K<|.tp is):=
 Bb h.calm g z I
theorem SX.set(h:SX X sc N T k)(i:Nat)(c:yd sc N T i x=da)(I:PE X e te)(hs:u4 e (cq (.Name x pos')) pos.line X.env=pure di:=by rfl):PS X (.Assign [.Name x pos'] e pos) (WE te<|vf i):=by obtain⟨a,b,O⟩:=h.loc c;exact oC h.Gx a b I hs O
theorem SX.gl(h:SX X sc N T k)(c:kU sc x=da):Gl X x/\x ≠ "__name__"/\(x==("__debug__" : Str))=di:=by
 unfold kU at c;simp only[IK,decide_eq_true_eq,MH]at c;refine⟨?_,?_,c.2⟩
 ·show X.env.scope.names.lookup x=_
  rw[h.Dh];exact c.1.1
 ·intro e;rw[e]at c;simp at c
noncomputable def Wd(sc scope:gB)(N:List Str)(z:List (Str×Nat)):Bool:=
 decide (scope.kind=.function)&&decide ((scope.names.map (·.1)).Nodup)&&scope.names.all (λp=> !(p.2==Lp) || decide (sc.names.lookup p.1=cq .cell) || decide (sc.names.lookup p.1=cq .free))&&
 z.all λp=>decide (scope.names.lookup p.1=cq .free)&&decide (N[p.2]? = cq p.1)
noncomputable def Fe(own:List Str)(scope:gB)(z:List (Str×Nat)):Bool:=decide ((own++z.map (·.1)).Nodup)&&own.all (λx=>decide (scope.names.lookup x=cq .local) || decide (scope.names.lookup x=cq .cell))
theorem SX.H_(h:SX X sc N T k)(c:Wd sc scope N fr=da):wo X scope fr:=by
 unfold Wd at c;simp only[IK,decide_eq_true_eq,Mu,Mk,MH]at c;obtain⟨⟨⟨U,Y⟩,a⟩,O⟩:=c;refine⟨U,Y,λp I b=>?_,λp I=>⟨(O p I).1,by rw[h.eN];exact(O p I).2⟩⟩;have e:X.env.kindOf p.1=sc.names.lookup p.1:=by show X.env.scope.names.lookup p.1=_;rw[h.Dh]
 rw[e];rcases a p I with(q|q)|q
 ·rw[b]at q;exact absurd q ⋯
 ·exact .inl q
 ·exact .inr q
theorem JT(scope sc:gB)(x:Str):(yC scope sc).names.lookup x=(scope.names.lookup x).map λk=>if (k==Lp&&sc.kind ==.function&&sc.names.lookup x==cq .cell)then Ng else k:=by
 unfold yC;dsimp only;generalize scope.names=l
 induction l with
 |nil=>rfl
 | cons p r O=>
  obtain⟨n,a⟩:=p;rw[Lk];cases hx:x==n with
  |true=>
   have e:x=n:=by simpa using hx
   subst e;dsimp only;split
   ·rename_i I;rw[LY,LY,beq_self_eq_true];dsimp only[OS];rw[UJ I]
   ·rename_i I;rw[LY,LY,beq_self_eq_true];dsimp only[OS];rw[UY I]
  |false=>
   dsimp only;split
   ·rw[LY,LY,hx];exact O
   ·rw[LY,LY,hx];exact O
theorem SX.comp(h:SX X sc N T k)(c:Fe own scope fr=da):
 SX (jF X scope (own++fr.map (·.1)) fp s2 H2) (yC scope sc) (own++fr.map (·.1)) own k:=by
 unfold Fe at c;simp only[IK,decide_eq_true_eq,Mu,Mk]at c;refine⟨?_,rfl,c.1,h.calm,h.room,λx a=>?_⟩
 ·show C5 scope X.env=_
  rw[bt,h.Dh]
 ·rcases c.2 x a with q|q
  ·right;rw[JT,q];rfl
  ·left
   show(scope.names.lookup x==cq .cell)=da;rw[q];rfl
end
mutual
def i0:D->PyData
 |.d7=>.none
 |.bl b=>.bool b
 |.int i=>.int i
 |.str x=>.str x
 |.tup a=>.tuple (n0 a)
 |.lst a=>.list (n0 a)
 |.exc _ _=>.none
 |.nr _ _=>.none
 |.ov _ _=>.none
 |.ins _ _ _=>.none
def n0:List D->List PyData
 |[]=>[]
 |d::ds=>i0 d::n0 ds
end
theorem DM(h:ir (.exc c n)=da):False:=by simp[ir]at h
theorem DK(h:ir (.nr ks vs)=da):False:=by simp[ir]at h
theorem DN{c:Str}{p t:D}(h:ir (.ins c p t)=da):False:=by simp[ir]at h
theorem DJ(h:ir (.ov ks vs)=da):False:=by simp[ir]at h
mutual
theorem O9:∀x y:D,ir x=da->ir y=da->MO (i0 x) (i0 y)=hB x y
 |.d7,y,_,h=>by cases y<;>first|exact(DM h).elim|exact(DK h).elim|exact(DJ h).elim|exact(DN h).elim|simp[i0,MO,hB]
 |.bl a,y,_,h=>by cases y<;>first|exact(DM h).elim|exact(DK h).elim|exact(DJ h).elim|exact(DN h).elim|simp[i0,MO,hB]
 |.int a,y,_,h=>by cases y<;>first|exact(DM h).elim|exact(DK h).elim|exact(DJ h).elim|exact(DN h).elim|simp[i0,MO,hB]
 |.str a,y,_,h=>by cases y<;>first|exact(DM h).elim|exact(DK h).elim|exact(DJ h).elim|exact(DN h).elim|simp[i0,MO,hB]
 |.exc c n,y,h,_=>(DM h).elim
 |.nr c n,y,h,_=>(DK h).elim
 |.ov c n,y,h,_=>(DJ h).elim
 |.ins c p t,y,h,_=>(DN h).elim
 |.tup xs,y,h1,h2=>by
  cases y with
  |tup b=>simp only[ir]at h1 h2;simp only[i0,MO,hB];exact Tr xs b h1 h2
  |exc c n=>exact(DM h2).elim
  |nr c n=>exact(DK h2).elim
  |ov c n=>exact(DJ h2).elim
  |ins c p t=>exact(DN h2).elim
  |_=>simp[i0,MO,hB]
 |.lst xs,y,h1,h2=>by
  cases y with
  |lst b=>simp only[ir]at h1 h2;simp only[i0,MO,hB];exact Tr xs b h1 h2
  |exc c n=>exact(DM h2).elim
  |nr c n=>exact(DK h2).elim
  |ov c n=>exact(DJ h2).elim
  |ins c p t=>exact(DN h2).elim
  |_=>simp[i0,MO,hB]
theorem Tr:∀xs ys:List D,m3 xs=da->m3 ys=da->PZ (n0 xs) (n0 ys)=sk xs ys
 |[],ys,_,_=>by cases ys<;>simp[n0,PZ,sk]
 | x::xs,ys,h1,h2=>by
  cases ys with
  |nil=>simp[n0,PZ,sk]
  |cons y ys=>
   simp only[m3,IK]at h1 h2;simp only[n0,PZ,sk];rw[O9 x y h1.1 h2.1,Tr xs ys h1.2 h2.2]
end
mutual
theorem Sw:∀x:D,ir x=da->(i0 x).canLay0=da
 |.d7,_=>by simp[i0,Oc]
 |.bl a,_=>by simp[i0,Oc]
 |.int a,_=>by simp[i0,Oc]
 |.str a,h=>by simpa[i0,Oc,ir,PyData.strOk]using h
 |.tup xs,h=>by simp only[ir]at h;simp only[i0,Oc];exact P0 xs h
 |.lst xs,h=>by simp only[ir]at h;simp only[i0,Oc];exact P0 xs h
 |.exc c n,h=>(DM h).elim
 |.nr c n,h=>(DK h).elim
 |.ov c n,h=>(DJ h).elim
 |.ins c p t,h=>(DN h).elim
theorem P0:∀xs:List D,m3 xs=da->Rp (n0 xs)=da
 |[],_=>by simp[n0,Rp]
 |x::xs,h=>by simp only[m3,IK]at h;simp only[n0,Rp];rw[Sw x h.1,P0 xs h.2];rfl
end
mutual
theorem Ux:∀x:D,(i0 x).depth=deep x
 |.d7=>by simp[i0,Nl,deep]
 |.bl a=>by simp[i0,Nl,deep]
 |.int a=>by simp[i0,Nl,deep]
 |.str a=>by simp[i0,Nl,deep]
 |.exc c n=>by simp[i0,Nl,deep]
 |.nr c n=>by simp[i0,Nl,deep]
 |.ov c n=>by simp[i0,Nl,deep]
 |.ins c p t=>by simp[i0,Nl,deep]
 |.tup b=>by simp only[i0,Nl,deep];rw[Tq b]
 |.lst b=>by simp only[i0,Nl,deep];rw[Tq b]
theorem Tq:∀xs:List D,Ov (n0 xs)=xr xs
 |[]=>by simp[n0,Ov,xr]
 |x::xs=>by simp only[n0,Ov,xr];rw[Ux x,Tq xs]
end
theorem xq(h:l8 d=da):ir d=da:=by unfold l8 at h;rw[IK]at h;exact h.2
theorem ye(h:l8 d=da):SeqAt.shaped (i0 d)=da:=by unfold l8 at h;rw[IK,decide_eq_true_eq]at h;unfold SeqAt.shaped;rw[Sw d h.2,Bool.true_and,Ux];exact decide_eq_true ⋯
section
variable{X:Cx}{pins:UQ}{σ:St}{H0 H:Hp}{s:d6}
mutual
theorem Ht(I:Inv X pins σ H s)(sub:f6 H0 H):∀{d:D} {v:V} {u:dy},ir d=da->Rep X.K H0 d v->RelV v u->∃O,Reads s.heap u (i0 d) O
 |.d7,v,u,_,h,r=>by cases (show v=.d7 from h);cases r;exact⟨_,.none⟩
 |.bl b,v,u,_,h,r=>by cases (show v=.bl b from h);cases r;exact⟨_,.bool b⟩
 |.int i,v,u,_,h,r=>by cases (show v=.int i from h);obtain⟨t,rfl⟩:=r;exact⟨_,.int i t⟩
 |.str x,v,u,_,h,r=>by cases (show v=.str x from h);obtain⟨t,rfl⟩:=r;exact⟨_,.str x t⟩
 |.exc c n,v,u,o,_,_=>(DM o).elim
 |.nr c n,v,u,o,_,_=>(DK o).elim
 |.ov c n,v,u,o,_,_=>(DJ o).elim
 |.ins c p t,v,u,o,_,_=>(DN o).elim
 |.tup ds,v,u,o,h,r=>by obtain⟨a,e,rfl,f,g⟩:=(show ∃a e,v=.ref a/\gR X.K H0 a e/\d5 X.K H0 ds e from h);cases r;simp only[ir]at o;obtain⟨l,U,⟨y,Y,j,n,k⟩,w⟩:=I.tuple<|o4 sub f;obtain⟨O,m⟩:=SN I sub o g U;exact⟨O,.tuple Y j k<|by simpa using m⟩
 |.lst ds,v,u,o,h,r=>by obtain⟨a,e,rfl,f,g⟩:=(show ∃a e,v=.ref a/\gv X.K H0 a e/\d5 X.K H0 ds e from h);cases r;simp only[ir]at o;obtain⟨l,U,p,w⟩:=I.list<|sub.seq f;obtain⟨y,Y,j,n,k⟩:=p.isList;obtain⟨O,m⟩:=SN I sub o g U;exact⟨_,.list Y j k<|by simpa using m⟩
theorem SN(I:Inv X pins σ H s)(sub:f6 H0 H):∀{ds:List D} {xs:List V} {us:List dy},m3 ds=da->d5 X.K H0 ds xs->eL xs us->∃O,ReadsAll s.heap us (n0 ds) O
 |[],xs,us,_,h,r=>by rw[h.vu]at r;cases r;exact⟨_,.nil⟩
 | d::ds,xs,us,o,h,r=>by
  obtain⟨x,t,e,a,b⟩:=h.p9;subst e;simp only[m3,IK]at o;cases r with
  |cons U f=>
   obtain⟨O,Y⟩:=Ht I sub o.1 a U;obtain⟨bs,g⟩:=SN I sub o.2 b f;exact⟨_,.cons Y g⟩
end
end
noncomputable def GX(K:Iy):R2:=λx y H Q=>∃a b I,f6 a H/\Rep K a b x/\Rep K a I y/\l8 b=da/\l8 I=da/\Q (.bl<|hB b I) H
noncomputable def GW(K:Iy):R2:=λx y H Q=>∃a b I,f6 a H/\Rep K a b x/\Rep K a I y/\l8 b=da/\l8 I=da/\Q (.bl<|!hB b I) H
theorem oH(Y:X.A.units+64<Df):kr X (ri .Eq) (GX X.K):=by intro a s m H x y v u Q I g i h;obtain⟨j,k,l,sub,b,d,O,U,q⟩:=h;obtain⟨as,e⟩:=Ht I sub (xq O) b g;obtain⟨bs,f⟩:=Ht I sub (xq U) d i;exact eq_dataH e f (ye O) (ye U) Y ⟨.bl _,H,I,by rw[O9 _ _ (xq O) (xq U)];rfl,q⟩
theorem oG(Y:X.A.units+64<Df):kr X (ri .NotEq) (GW X.K):=by intro a s m H x y v u Q I g i h;obtain⟨j,k,l,sub,b,d,O,U,q⟩:=h;obtain⟨as,e⟩:=Ht I sub (xq O) b g;obtain⟨bs,f⟩:=Ht I sub (xq U) d i;exact ne_dataH e f (ye O) (ye U) Y ⟨.bl _,H,I,by rw[O9 _ _ (xq O) (xq U)];rfl,q⟩
theorem dD{K:Iy}:o9 K (GX K) gw:=λa H x y b O d Q s U Y I q=>by
 unfold gw at I;split at I
 ·rename_i h;cases I;exact⟨a,b,O,s,U,Y,h.1,h.2,q _ H a (Ext.refl s) rfl⟩
 ·cases I
theorem dB{K:Iy}:o9 K (GW K) l5:=λa H x y b O d Q s U Y I q=>by
 unfold l5 at I;split at I
 ·rename_i h;cases I;exact⟨a,b,O,s,U,Y,h.1,h.2,q _ H a (Ext.refl s) rfl⟩
 ·cases I
theorem SX.N4(h:SX X sc N T k):X.A.units+64<Df:=by have:=h.room.un;omega
section
variable{X:Cx}{sc:gB}{N T:List Str}{k:Nat}{a b c:ec}{pos p:fh}{fa fb fc:CO D}
theorem ZL(z:PV X a fa)(I:PV X b fb):PV X (.BinOp a .Sub b pos) (zI cU fa fb):=Xm Bw rA z I
theorem vM(z:PV X a fa)(I:PV X b fb):PV X (.BinOp a .FloorDiv b pos) (zI Xc fa fb):=Xm sV rF z I
theorem qT(z:PV X a fa)(I:PV X b fb):PV X (.BinOp a .Mod b pos) (zI yT fa fb):=Xm Bz rD z I
theorem eE(z:PV X a fa)(I:PV X b fb):PV X (.BinOp a .Pow b pos) (zI uk fa fb):=Xm By rB z I
theorem Yy(h:SX X sc N T k)(z:PV X a fa)(I:PV X b fb):PV X (.Compare a [.Eq] [b] pos) (zI gw fa fb):=oq (oH h.N4) dD z I<|ZN b
theorem Fp(h:SX X sc N T k)(z:PV X a fa)(I:PV X b fb):PV X (.Compare a [.NotEq] [b] pos) (zI l5 fa fb):=oq (oG h.N4) dB z I<|ZN b
theorem oA(z:PV X a fa)(I:PV X b fb):ni X (.Compare a [.Lt] [b] pos) (sB<|zI DZ fa fb):=Zn BA nV z I<|ZN b
theorem wy(z:PV X a fa)(I:PV X b fb):ni X (.Compare a [.Gt] [b] pos) (sB<|zI p7 fa fb):=Zn FA Ao z I<|ZN b
theorem qC(h:SX X sc N T k)(z:PV X a fa)(I:PV X b fb):ni X (.Compare a [.Eq] [b] pos) (sB<|zI gw fa fb):=Zn (oH h.N4) dD z I<|ZN b
theorem wx(h:SX X sc N T k)(z:PV X a fa)(I:PV X b fb):ni X (.Compare a [.NotEq] [b] pos) (sB<|zI l5 fa fb):=Zn (oG h.N4) dB z I<|ZN b
theorem JG{K:Iy}{H:Hp}{d:D}(h:Rep K H d .d7):d=.d7:=by
 cases d with
 |d7=>rfl
 |bl b=>exact V.noConfusion (show V.d7=.bl b from h)
 |int b=>exact V.noConfusion (show V.d7=.int b from h)
 |str b=>exact V.noConfusion (show V.d7=.str b from h)
 |tup b=>obtain⟨a,f,e,_⟩:=h;cases e
 |lst b=>obtain⟨a,f,e,_⟩:=h;cases e
 |exc c n=>obtain⟨a,e,_⟩:=h;cases e
 |nr c n=>obtain⟨a,f,e,_⟩:=h;cases e
 |ov c n=>obtain⟨a,f,e,_⟩:=h;cases e
 |ins c p t=>obtain⟨a,C,g,I,O,e,_⟩:=h;cases e
theorem rE{K:Iy}:o9 K (λx y H Q=>y=.d7/\Q (.bl<|decide<|x=.d7) H) Cv:=λa H x y b U d Q s I Y O q=>by
 cases U with
 | d7=>
  refine⟨Y,?_⟩;cases b with
  |d7=>cases O;rw[show x=V.d7 from I];exact q _ H a (Ext.refl s) (by simp;rfl)
  |_=>
   cases O;refine q _ H a (Ext.refl s) ?_;have:¬x=V.d7:=λe=>by rw[e]at I;exact D.noConfusion<|JG I
   rw[decide_eq_false this];rfl
 |_=>cases b<;>cases O
theorem bo{K:Iy}:o9 K (λx y H Q=>y=.d7/\Q (.bl<|!decide (x=.d7)) H) QA:=λa H x y b U d Q s I Y O q=>by
 cases U with
 | d7=>
  refine⟨Y,?_⟩;cases b with
  |d7=>cases O;rw[show x=V.d7 from I];exact q _ H a (Ext.refl s) (by simp;rfl)
  |_=>
   cases O;refine q _ H a (Ext.refl s) ?_;have:¬x=V.d7:=λe=>by rw[e]at I;exact D.noConfusion<|JG I
   rw[decide_eq_false this];rfl
 |_=>cases b<;>cases O
theorem si(z:PV X a fa)(I:PV X b fb):ni X (.Compare a [.Is] [b] pos) (sB<|zI Cv fa fb):=Zn BB rE z I<|ZN b
theorem bA(z:PV X a fa)(I:PV X b fb):ni X (.Compare a [.IsNot] [b] pos) (sB<|zI QA fa fb):=Zn sU bo z I<|ZN b
theorem yY{K:Iy}{H:Hp}{ds:List D}{v:V}(h:Rep K H (.tup ds) v):∃a xs,v=.ref a/\gR K H a xs/\d5 K H ds xs:=h
theorem fO{K:Iy}{H:Hp}{ds:List D}{v:V}(h:Rep K H (.lst ds) v):∃a xs,v=.ref a/\gv K H a xs/\d5 K H ds xs:=h
theorem xK{K:Iy}{H:Hp}{ds:List D}{a:dv}{xs:List V}(z:gR K H a xs)(I:d5 K H ds xs):Rep K H (.tup ds) (.ref a):=⟨a,xs,rfl,z,I⟩
theorem dZ{K:Iy}{H:Hp}{ds:List D}{a:dv}{xs:List V}(z:gv K H a xs)(I:d5 K H ds xs):Rep K H (.lst ds) (.ref a):=⟨a,xs,rfl,z,I⟩
theorem rG{K:Iy}:o9 K (λx y H Q=>yr (λi j=>.int (i+j)) x y H Q\/og K x y H Q) qu:=λg H x y o r d Q s Y m O q=>by
 cases o<;>cases r<;>simp[qu]at O
 ·subst O;exact .inl ⟨_,_,jL Y,jL m,q _ H g (Ext.refl s) rfl⟩
 ·rename_i n t
  obtain⟨u,rfl⟩:=O;obtain⟨a,w,rfl,h,f⟩:=yY Y;obtain⟨b,z,rfl,k,I⟩:=yY m;refine .inr ⟨a,b,w,z,rfl,rfl,o4 s h,o4 s k,ve (by rw[f.length,I.length];exact u),λe=>?_,λe=>?_,λp l=>?_⟩
  ·have U:n=[]:=by
    have:=f.length;rw[e]at this;exact LF this.symm
   subst U;exact q _ H g (Ext.refl s)<|xK k I
  ·have U:t=[]:=by
    have:=I.length;rw[e]at this;exact LF this.symm
   subst U;exact q _ H g (Ext.refl s) (by rw[NT];exact xK h f)
  ·exact q _ _ _ (Ext.alloc s l _)<|xK (gR.of zM)<|(f.append I).mono (jC (jx s l) _)
theorem jJ(z:PV X a fa)(I:PV X b fb):PV X (.BinOp a .Add b pos) (zI qu fa fb):=Xm (S_.or me) rG z I
end
theorem Ws(U:A.handled=none)(k:Sk)(I O:dv)(Y:O≠I)(items:Array dy):
 Walks P w A I [I,O] [I] items.size (λi v=>items[i]? = cq v) (λi h=>i4 k h I O i/\m6 k h O items):=by
 cases k
 ·exact Walks.list U I O Y items
 ·exact Walks.tuple U I O Y items
theorem JJ(z:List Int):∀n,preSum (λi=>z.getD i 0) n=(z.take n).sum
 |0=>by simp[preSum]
 | n+1=>by
  have I:=JJ z n;simp only[preSum,I];by_cases h:n<z.length
  ·rw[List.take_succ_eq_append_getElem h,List.sum_append]
   simp[h]
  ·rw[Od ⋯,Od ⋯]
   simp[h]
section
variable{X:Cx}{pins:UQ}{σ:St}{H:Hp}{s:d6}
theorem gZ(J:X.calm=da):QM X (.builtin "sum") (λxs H Q=>∃p k ys z,xs=[.ref p]/\l9 k X.K H p ys/\ys=(z:List Int).map V.int/\Q (.int z.sum) H):=by
 intro pins s σ H F E Q I w h;obtain⟨p,k,ys,z,rfl,m,rfl,q⟩:=h;obtain⟨u,rfl,O⟩:=yx w;cases O;obtain⟨a,r,d,C⟩:=I.sq m;have lt:=d.lt;have U:=r.length;rw[Lc]at U;refine call_sum_walkG<|aq d ⟨_,[_,p],[_],a.toArray.size,_,_,λi=>z.getD i 0,rfl,Ws (A:=X.A.in1) (I.ok.hd J) k _ p (IX lt) a.toArray,⟨JZ k _ p,d.at λo e=>IB _ e⟩,?_,?_,?_⟩
 ·intro b Y
  rw[Lx];simp only[IM,IW,or_false]at Y;rcases Y with rfl|rfl
  ·exact Mv _
  ·exact LZ lt
 ·intro i v n
  have f:a[i]? = cq v:=by simpa using n
  have j:i<z.length:=by rw[U];exact(Ll.mp f).1
  obtain⟨u,g,O⟩:=r.get (i:=i) (x:=.int z[i]) (by simp[j]);rw[f]at g;cases g;obtain⟨t,rfl⟩:=O;exact⟨t,by simp[j]⟩
 ·intro B y t' l
  have e:preSum (λi=>z.getD i 0) a.toArray.size=z.sum:=by rw[JJ,Od (by rw[IL,U];exact II _)]
  refine⟨.int z.sum,H,I.kept (t':=y)<|λb u e=>l b u ?_ (IB _ e),⟨t',by rw[e]⟩,q⟩;simp only[IM,IW,or_false];exact IX<|IP e
noncomputable def Ad:V->Option Bool
 |.d7=>cq di
 |.bl b=>cq b
 |.int i=>cq (i != 0)
 |_=>none
theorem iT(r:RelV x u)(e:Ad x=cq b)(q:Q b s):wpAny (d9 P w) A (R5 u) Q E s:=by
 cases x with
 |d7=>cases r;cases e;exact λ_ _ _=>q
 |bl c=>cases r;cases e;exact MW q
 |int i=>obtain⟨t,rfl⟩:=r;cases e;exact PyProof.Rows.truthy_int q
 |_=>cases e
noncomputable def dr:List V->Option (List Bool)
 |[]=>cq []
 |x::r=>(Ad x).bind λb=>(dr r).map λl=>b::l
theorem Yc:∀{xs:List V} {bs:List Bool},dr xs=cq bs->bs.length=xs.length/\∀(i:Nat) x,xs[i]? = cq x->Ad x=cq (bs.getD i di)
 |[],bs,h=>by cases h;exact⟨rfl,λi x e=>by simp at e⟩
 |y::xs,bs,h=>by
  obtain⟨b,a,h⟩:=zg h;obtain⟨l,I,h⟩:=zH h;subst h;obtain⟨d,f⟩:=Yc I;refine⟨by simp[d],λi x e=>?_⟩;cases i with
  |zero=>simp at e;subst e;simpa using a
  |succ i=>simpa using f i x (by simpa using e)
theorem iy(bs:List Bool):(IA bs.length).any (λi=>bs.getD i di)=bs.any id:=by
 rw[NW];simp only[RM,IC,id_eq];constructor
 ·rintro⟨i,a,h⟩
  rw[IG,ID a]at h;exact⟨_,MB a,h⟩
 ·rintro⟨b,I,h⟩
  obtain⟨i,a,e⟩:=List.mem_iff_getElem.mp I;refine⟨i,a,?_⟩;rw[IG,ID a,Option.getD_some,e];exact h
theorem ia(z:X.calm=da):QM X (.builtin "any") (λxs H Q=>∃p k ys bs,xs=[.ref p]/\l9 k X.K H p ys/\dr ys=cq bs/\Q (.bl (bs.any id)) H):=by
 intro pins s σ H N M Q I B h;obtain⟨p,k,ys,bs,rfl,t,w,q⟩:=h;obtain⟨u,rfl,O⟩:=yx B;cases O;obtain⟨a,r,d,J⟩:=I.sq t;have lt:=d.lt;have U:=r.length;obtain⟨j,l⟩:=Yc w;refine call_any_walk<|aq d ⟨_,[_,p],[_],a.toArray.size,_,_,λi=>bs.getD i di,rfl,Ws (A:=X.A.in1) (I.ok.hd z) k _ p (IX lt) a.toArray,⟨JZ k _ p,d.at λo e=>IB _ e⟩,?_,?_⟩
 ·intro i v L F E y m
  have Y:a[i]? = cq v:=by simpa using y
  have g:i<ys.length:=by rw[U];exact(Ll.mp Y).1
  obtain⟨u,f,O⟩:=r.get (i:=i) (x:=ys[i]) (by simp[g]);rw[Y]at f;cases f;exact iT O (l i ys[i] (by simp[g])) m
 ·intro G C n
  have e:(IA a.toArray.size).any (λi=>bs.getD i di)=bs.any id:=by rw[IL,<-U,<-j];exact iy bs
  refine⟨.bl<|bs.any id,H,I.kept (t':=C)<|λb u e=>n b u ?_ (IB _ e),by rw[e];rfl,q⟩;simp only[IM,IW,or_false];exact IX<|IP e
end
section
variable{X:Cx}{sc:gB}{N T:List Str}{k:Nat}{e a b c:ec}{pos p p2:fh}{f g:CO D}{fq:CO (Sk×List D)}
theorem Am{K:Iy}{H:Hp}{k:Sk}{a:dv}{xs:List V}(h:l9 k K H a xs):gv K H a xs\/gR K H a xs:=by
 cases k
 ·exact .inl h
 ·exact .inr h
theorem yO(h:SX X sc N T k)(c:kU sc "len" = da)(z:X.mg "len" = none)(I:PQ X e fq)(hs:eA [e] X.env=[(di,d8 e X.env)]:=by rfl):PV X (.Call (.Name "len" p) [e] [] pos) (VC fq):=
 qb (vz Vk (h.gl c).1 z PySem.boot_len (jm I qc hs) ⋯ ⋯ hs rfl) λt H Q O=>by obtain⟨j,o,d,rc,U,q⟩:=O;obtain⟨⟨n,f⟩,l,Y⟩:=zH U;subst Y;refine⟨j,o,n,f,rc,l,λa g i b ext m s r=>⟨a,g,rfl,Am m,?_⟩⟩;exact q _ i b ext (show V.int g.length=.int f.length by rw[r.length])
theorem jV(h:SX X sc N T k)(c:kU sc "tuple" = da)(z:X.mg "tuple" = none)(O:PQ X e fq)(hs:eA [e] X.env=[(di,d8 e X.env)]:=by rfl):PV X (.Call (.Name "tuple" p) [e] [] pos) (jb fq):=
 qb (JK KL (h.gl c).1 z PyProof.Rows.boot_tuple (jm O qc hs) ⋯ ⋯ hs rfl) λw H Q U=>by
  obtain⟨j,u,d,rc,Y,q⟩:=U;obtain⟨⟨g,m⟩,n,o⟩:=zH Y;subst o;refine⟨j,u,g,m,rc,n,λa t i b ext f s r=>⟨a,t,rfl,?_⟩⟩;cases g with
  |L=>exact .inl ⟨f,λl I=>q _ _ _ (ext.trans<|Ext.alloc ext.sub I _)<|xK (gR.of zM)<|r.mono<|jC (jx ext.sub I) _⟩
  |T=>exact .inr ⟨f,q _ i b ext (xK (s rfl) r)⟩
theorem ym{H H':Hp}(s:f6 H H'){a:dv}(h:H' a=none):H a=none:=by
 cases z:H a with
 |none=>rfl
 |some o=>rw[s a o z]at h;cases h
theorem sE(h:SX X sc N T k)(c:kU sc "list" = da)(z:X.mg "list" = none)(O:PQ X e fq)(hs:eA [e] X.env=[(di,d8 e X.env)]:=by rfl):PO X (.Call (.Name "list" p) [e] [] pos) (dP fq):=
 qb (JK Vi (h.gl c).1 z OJ (jm O qc hs) ⋯ ⋯ hs rfl) λw H Q U=>by obtain⟨g,s,d,rc,Y,q⟩:=U;obtain⟨⟨o,i⟩,j,m⟩:=zH Y;subst m;refine⟨g,s,o,i,rc,j,λa f t b ext n u r=>⟨a,f,rfl,Am n,λl I=>?_⟩⟩;exact q l f _ b (ext.trans<|Ext.hide ext.sub I _) (ym ext.s1 I) (jx ext.sub I) zM r
theorem Yj:∀{ds:List D} {n:Int},ba ds=cq n->∃z:List Int,ds=z.map D.int/\n=z.sum
 |[],n,h=>by cases h;exact⟨[],rfl,rfl⟩
 | d::ds,n,h=>by
  cases d with
  |int i=>
   obtain⟨s,e,h⟩:=zH h;obtain⟨z,rfl,rfl⟩:=Yj e;exact⟨i::z,rfl,by rw[<-h];simp⟩
  |_=>cases h
theorem Yu{K:Iy}{H:Hp}:∀{I:List Int} {xs:List V},d5 K H (I.map D.int) xs->xs=I.map V.int
 |[],xs,h=>h.vu
 |z::I,xs,h=>by obtain⟨x,r,e,a,b⟩:=d5.p9 h;rw[e,jL a,Yu b];rfl
theorem Yw(h:SX X sc N T k)(c:kU sc "sum" = da)(z:X.mg "sum" = none)(U:PQ X e fq)(hs:eA [e] X.env=[(di,d8 e X.env)]:=by rfl):PV X (.Call (.Name "sum" p) [e] [] pos) (iH fq):=
 qb (vz (gZ h.calm) (h.gl c).1 z PyProof.Rows.boot_sum (jm U qc hs) ⋯ ⋯ hs rfl) λy H Q Y=>by obtain⟨j,w,d,rc,I,q⟩:=Y;obtain⟨⟨f,l⟩,m,I⟩:=zg I;obtain⟨n,o,s⟩:=zH I;subst s;obtain⟨g,O,rfl⟩:=Yj o;have O:l=g.map D.int:=O;subst O;exact⟨j,w,f,_,rc,m,λa u i b ext t x r=>⟨a,f,u,g,rfl,t,Yu r,q _ i b ext rfl⟩⟩
theorem pW{K:Iy}{H:Hp}{d:D}{x:V}{b:Bool}(h:Rep K H d x)(e:ES d=cq b):Ad x=cq b:=by
 cases d with
 |d7=>cases (show x=.d7 from h);exact e
 |bl c=>cases (show x=.bl c from h);exact e
 |int i=>cases (show x=.int i from h);exact e
 |_=>cases e
theorem WC{K:Iy}{H:Hp}:∀{ds:List D} {xs:List V} {bs:List Bool},d5 K H ds xs->Yb ds=cq bs->dr xs=cq bs
 |[],xs,bs,h,e=>by rw[h.vu];exact e
 |d::ds,xs,bs,h,e=>by obtain⟨x,r,I,f,g⟩:=h.p9;obtain⟨b,a,e⟩:=zg e;obtain⟨l,O,e⟩:=zH e;subst I e;show(Ad x).bind _=_;rw[pW f a];show((dr r).map λl=>b::l)=_;rw[WC g O];rfl
theorem ot(h:SX X sc N T k)(c:kU sc "any" = da)(z:X.mg "any" = none)(O:PQ X e fq)(hs:eA [e] X.env=[(di,d8 e X.env)]:=by rfl):PV X (.Call (.Name "any" p) [e] [] pos) (uQ fq):=
 qb (vz (ia h.calm) (h.gl c).1 z PyProof.Rows.boot_any (jm O qc hs) ⋯ ⋯ hs rfl) λu H Q U=>by obtain⟨i,o,d,rc,I,q⟩:=U;obtain⟨⟨f,s⟩,j,I⟩:=zg I;obtain⟨bs,Y,l⟩:=zH I;subst l;exact⟨i,o,f,_,rc,j,λa n g b ext m t r=>⟨a,f,n,bs,rfl,m,WC r Y,q _ g b ext rfl⟩⟩
theorem X9(h:SX X sc N T k)(c:kU sc "int" = da)(z:X.mg "int" = none)(U:PV X e f)(hs:eA [e] X.env=[(di,d8 e X.env)]:=by rfl):PV X (.Call (.Name "int" p) [e] [] pos) (dQ f):=
 qb (JK hV (h.gl c).1 z PyProof.Rows.boot_int (jm U qc hs) ⋯ ⋯ hs rfl) λn H Q Y=>by
  obtain⟨j,m,d,rc,I,q⟩:=Y;obtain⟨O,l,I⟩:=zg I;refine⟨j,m,O,rc,l,λv g a ext r=>?_⟩;cases O with
  |int i=>cases I;exact .inl ⟨i,by rw[jL r],q _ g a ext rfl⟩
  |bl b=>cases I;exact .inr ⟨b,by rw[show v=.bl b from r],q _ g a ext rfl⟩
  |_=>cases I
theorem oo(h:SX X sc N T k)(c:kU sc "max" = da)(z:X.mg "max" = none)(J:PV X a f)(Y:PV X b g)(hs:eA [a,b] X.env=[(di,d8 a X.env),(di,d8 b X.env)]:=by rfl)(O:eA [b] X.env=[(di,d8 b X.env)]:=by rfl):
 PV X (.Call (.Name "max" p) [a,b] [] pos) (lu f g):=
 qb (vz (hU h.calm) (h.gl c).1 z PyProof.Rows.boot_max (jm J (jm Y qc O)<|by rw[hs,O]) ⋯ ⋯ (by rw[hs,O]) (by rw[O];rfl)) λG H Q B=>by obtain⟨o,n,d,rc,I,q⟩:=B;obtain⟨i,l,I⟩:=zg I;obtain⟨u,y,l⟩:=zg l;obtain⟨j,U,I⟩:=zH I;obtain⟨w,A,U⟩:=zg U;subst I;refine⟨o,n,u,rc,y,λv E e x r=>⟨e,n,w,rc.ext x,A,λF s t C m=>⟨i,j,?_,q _ s t (x.trans C) rfl⟩⟩⟩;rw[jW l]at r;rw[jW U]at m;rw[jL r,jL m]
end
end DL
namespace DL
open PySem PySem.Spec PySem.Calls PyProof.Rows PySem.W PySem.Builtin PySem.Builtin.ObjectAttr PySem.Builtin.Getset_descriptor
section
variable{prog:g8}{w:f7}{A:i5}{E:EQ}{s:d6}{K:Frag}{x C:dv}
theorem wO(x:cP h a C):Looks M h (typeOf<|.ref a) (.ref C):=by obtain⟨o,d,I,O,b⟩:=x;exact O ▸ (Looks.ld I).andThen .now
structure Ls(K:Frag)(C:dv):Prop where
 ga:findIn K (.ref C) "__getattribute__" = cq (cq (.builtin "BaseException.__getattribute__"))
 gn:findIn K (.ref C) "__getattr__" = cq none
 ca:findIn K (.ref C) "__class__" = cq (cq (.builtin "object.__class__"))
 gt:specialIn K (.builtin "object.__class__") "__get__" = cq (cq (.builtin "getset_descriptor.__get__"))
 tk:takesIn K (.builtin "object.__class__")=cq da
 mo:mroIn K C (.type "object")=cq da
 mb:mroIn K C (.type "BaseException")=cq da
theorem mU(X:K.In h)(G:Ls K C):Looks M h (find (.ref x) (.ref C) "__class__") (.bind (.builtin "getset_descriptor.__get__") (.builtin "object.__class__")):=by have I:=UH (M:=M) X G.ca;have O:Looks M h (getOf (cq (.builtin "object.__class__"))) (cq (.builtin "getset_descriptor.__get__")):=looks_specialIn X G.gt;have U:=looks_takesIn (M:=M) X G.tk;have Y:Looks M h (dataDescriptor? (cq (.builtin "object.__class__")) (cq (.builtin "getset_descriptor.__get__"))) (cq (.builtin "getset_descriptor.__get__",.builtin "object.__class__")):=U.andThen .now;exact I.andThen (O.andThen (Y.andThen (Looks.tag .now)))
theorem mV(X:K.In s.heap)(I:cP s.heap x C)(G:Ls K C)(h:R (.ok<|.ret<|.ref C) s):
 codeAny (d9 prog w) A (.call (.builtin "getset_descriptor.__get__") ⟨[.builtin "object.__class__",.ref x,tp],[]⟩) R s:=by
 obtain⟨e,d,O,U,Y⟩:=s;have a:=wO (M:=d9 prog w) I;have b:=looks_mroIn (M:=d9 prog w) X G.mo;refine Rw KF.slot_gs.plain KF.entry_gs<|KF.slot_gs.check _ _ _ _ _ _ _ _ KF.type_class (KF.args_gs _ _ _) ?_;unfold Builtin.«getset_descriptor.__get__» descrGet;rw[dga_obj];refine Iz<|IH ?_;unfold descrGetter descrCheckInstance descrNameAndClass UD;simp only[KF.owner_class]
 repeat lk
 refine And.intro (Code.quiet_builtin _ ⋯)<|OZ KF.entry_class ?_;unfold Builtin.«object.__class__» shownTypeOf
 repeat lk
 exact h
theorem gF(X:K.In s.heap)(I:cP s.heap x C)(G:Ls K C)(O:Q () s):wpAny M A (G_ "BaseException.__getattribute__" ⟨[.ref x,P_],[]⟩) Q E s:=by
 obtain⟨h,g,f,j,i⟩:=s;have U:=wO (M:=M) I;have Y:=looks_mroIn (M:=M) X G.mb;have d:builtinKind "BaseException.__getattribute__" = cq .slot:=by decide +kernel
 have b:splitId "BaseException.__getattribute__" = cq ("BaseException","__getattribute__"):=by decide +kernel
 have a:=PySem.F.args_bexc_ga (.ref x) P_;simp only[G_,d,b];refine Iz (show wpAny _ _ (UD (.ref x) (.type "BaseException")) _ _ _ from ?_);refine(U.andThen Y).at ?_;rw[UY ⋯];unfold argsOk at a;cases hs:Manifest.signature? "BaseException.__getattribute__" with
 |none=>exact IH O
 |some e=>
  rw[hs]at a;exact wpAny_of_eq a O
theorem gE(X:K.In s.heap)(I:cP s.heap x C)(G:Ls K C)(h:Q (cq (.ref C)) {s with toks:=s.toks+1}):wpAny (d9 prog w) A (Tt (.ref x) "__class__") Q E s:=by obtain⟨d,b,O,U,Y⟩:=s;have a:=wO (M:=d9 prog w) I;have e:=UH (M:=d9 prog w) X G.ga;have f:=UH (M:=d9 prog w) X G.gn;have g:=mU (M:=d9 prog w) (x:=x) X G;have B:=PySem.F.attr_ValueError.ga.bind (.ref x);unfold Tt getAttrBy? getAttrBy;refine Iz (_j (Iz (MV (Mq (Iz (a.at (Iz (e.at ?_))))))));show wpAny _ _ (L_ _ _ _ _ _ _) _ _ _;unfold L_;refine Iz (f.at ?_);refine Iz (MV (Mq ?_));show wpAny _ _ (E_ (.builtin "BaseException.__getattribute__") (.ref x) _) _ _ _;unfold E_;refine Iz (wpAny_of_eq B ?_);refine RX (Rw PySem.F.attr_ValueError.ga.plain PySem.F.entry_bexc_ga (gF (s:=⟨d,b,O,U+1,Y⟩) X I G ?_));refine Iz (IH ?_);refine Iz (IH ?_);refine Iz (a.at (Iz (g.at ?_)));show wpAny _ _ (bindTo _ _ _ _) _ _ _;unfold bindTo;refine Iz (Mq (RX (mV (s:=⟨d,b,O,U+1,Y⟩) X I G ?_)));refine IH ?_;exact IH (IH h)
theorem cY(h:nN K C=da):Ls K C:=by unfold nN at h;simp only[IK,beq_iff_eq]at h;exact⟨h.1.1.1.1.1.1.1.1.2,h.1.1.1.1.1.1.1.2,h.1.1.1.1.1.1.2,h.1.1.1.2,h.1.1.2,h.1.1.1.1.1.2,h.1.1.1.1.2⟩
theorem ai(G:Ls K C)(Y:(Sn K C).isSome=da):KitX K (.ref x) (.ref C) (λh=>cP h x C) where
 ty:=λ_ _ _ I=>wO I
 it:=λ_ _ X _=>by
  obtain⟨cd,O⟩:=LX.mp Y;unfold Sn at O;split at O
  ·rename_i c' d' a2 a3 U
   intro A' Q' E' s' k q;unfold isType loadHead;exact Iz<|wpAny_loadPart (k _ _<|X _ _ U)<|IH q
  ·cases O
 ne:=λh tp dd its n sl X a4=>by
  obtain⟨cd,O⟩:=LX.mp Y;refine Bool.eq_false_iff.mpr λq=>?_;have e:C=tp:=Lr.inj<|beq_iff_eq.mp q;subst e;unfold Sn at O;split at O
  ·rename_i c' d' a2 a3 U
   have z:=(X _ _ U).symm.trans a4;cases z
  ·cases O
 ca:=λX I k=>gE X I G k
theorem cZ(h:nN K C=da):(Sn K C).isSome=da:=by
 unfold nN at h;simp only[IK]at h;have:=h.1.2;cases q:Sn K C with
 |none=>rw[q]at this;cases this
 |some a=>rfl
end
end DL
namespace DL
open PySem PySem.Spec PyProof.Rows L2
section
variable{X:Cx}{sc:gB}{N T:List Str}{k:Nat}{e a b c:ec}{pos p p2:fh}{f g:CO D}{fq:CO (Sk×List D)}
theorem gb(h:hH n i=cq j):F7 n i=cq j:=by
 unfold hH at h;unfold F7;split at h
 ·rename_i a;rw[UJ a.1,UJ a.2];exact h
 ·split at h
  ·rename_i a b;rw[UY ⋯,UJ ⋯];exact h
  ·cases h
theorem zD(J:PQ X a fq)(Z:PV X b g)(hs:Wk b:=by intro _ _;rfl):PV X (.Subscript a b pos) (dj fq g):=
 qb (Bj (O'.or Ca) J Z hs) λM H Q B=>by
  obtain⟨o,n,d,rc,I,q⟩:=B;obtain⟨⟨m,w⟩,y,I⟩:=zg I;obtain⟨i,U,I⟩:=zg I;obtain⟨u,z,U⟩:=zg U;obtain⟨j,A,I⟩:=zg I;refine⟨o,n,m,w,rc,y,λp h F e ext l G r=>⟨e,n,u,rc.ext ext,z,λK s t O f=>?_⟩⟩;rw[jW U]at f;obtain⟨x,C,E⟩:=r.get I;have Y:DX h i=cq x:=by unfold DX;rw[r.length,gb A];exact C
  have k:=q x s t (ext.trans O)<|E.mono O.s0;cases m with
  |L=>exact .inl ⟨p,h,i,x,rfl,jL f,O.s1.seq l,Y,k⟩
  |T=>exact .inr ⟨p,h,i,x,rfl,jL f,o4 O.s1 l,Y,k⟩
theorem ZA{P:g8}{w:f7}{A:i5}{E:EQ}{s:d6}{t J:dv}{items:Array dy}{O U:dy}{lo z:Option Int}{Q:EQ}(I:N7 s.heap t items)(hs:s.heap.IsSliceOf J O U .none)(Y:Dv O lo)(Z:Dv U z)
 (L:HT.dj items.size 0 lo=0/\HT.dj items.size items.size z=items.size) (h:Q (.ref t) s):wpAny (d9 P w) A (DF (.ref t)<|.ref J) Q E s:=by
 obtain⟨os,a,b,f⟩:=id hs;have d:s.TypeIs (.ref J) "slice":=⟨os,a,b⟩;unfold DF
 try with_reducible refine Mq ?_
 first|refine Iz (IH ?_)|skip
 refine Iz (_m I.typeIs ⋯ ?_);refine Iz (LC (name:=Lw "__getitem__") I.typeIs Mg
  (Me Mg I.typeIs entry_tuple_getitem ?_ (D' _ _)))
 show wpAny _ _ (Builtin.Tuple.tupleItemsOf (.ref t) >>= _) _ _ s;refine Iz<|PF I ?_;refine Iz<|NY d ?_;rw[UJ ⋯];refine Iz<|HT.ZU hs Y Z ?_;have e:(((HT.dj items.size 0 lo:Nat):Int)==0&&(1:Int)==1&&(HT.dj items.size items.size z-HT.dj items.size 0 lo)==items.size)=da:=by rw[L.1,L.2];simp
 show wpAny _ _ (if (((HT.dj items.size 0 lo:Nat):Int)==0&&(1:Int)==1&&(HT.dj items.size items.size z-HT.dj items.size 0 lo)==items.size)=da then _ else _) _ _ s;rw[UJ e];refine Iz (m:=Nq _) ?_;unfold Nq;refine Iz<|NY I.typeIs<|IH ?_;rw[UJ ⋯];exact Iz<|Oq<|IH ⟨_,rfl,IH h⟩
noncomputable def Fh(K:Iy):V->Option Int->Option Int->Hp->VK->Prop:=λx lo d H Q=>∃a b,x=.ref a/\gR K H a b/\(HT.dj b.length 0 lo=0/\HT.dj b.length b.length d=b.length->Q (.ref a) H)/\∀p,H p=none->Q (.ref p) (upd H p<|.tup<|uo b lo d)
theorem rH:Sg X (Fh X.K):=by
 intro d s u H x v p t lo g o Q I O i U Y h;obtain⟨a,b,rfl,k,m,n⟩:=h;by_cases e:HT.dj b.length 0 lo=0/\HT.dj b.length b.length g=b.length
 ·cases O
  obtain⟨f,r,j,w⟩:=I.tuple k;have l:f.toArray.size=b.length:=by rw[IL];exact r.length.symm
  refine⟨"tuple",_,Mg.lookup,j.typeIs,?_⟩;exact ZA j i U Y (by rw[l];exact e) ⟨.ref a,H,I,rfl,m e⟩
 ·exact Ap d s u H (.ref a) v p t lo g o Q I O i U Y ⟨a,b,rfl,k,e,n⟩
theorem Jn(n d:Nat)(o:Option Int):Wc n d o=HT.dj n d o:=by cases o<;>rfl
theorem lA{K:Iy}{H:Hp}{ds:List D}{xs:List V}(r:d5 K H ds xs)(lo z:Option Int):d5 K H (cV ds lo z) (uo xs lo z):=by unfold cV uo;rw[<-Jn,<-Jn,r.length];exact(r.drop _).take _
theorem gT{ds:List D}{lo z:Option Int}(h:HT.dj ds.length 0 lo=0/\HT.dj ds.length ds.length z=ds.length):cV ds lo z=ds:=by unfold cV;rw[Jn,Jn,h.1,h.2];simp
noncomputable def tB(K:Iy)(f:CO (Option Int)):TO:=λg H Q=>∃d e o,RC K d H g e/\f e=cq o/\∀b a,Ext d H a b->Q o b
theorem Zo:L2.PO X none (tB X.K cS):=λa s d H Q I ⟨b,e,o,rc,O,q⟩=>sD a s d H Q I (by cases O;exact q H b<|Ext.refl rc.sub)
theorem va(h:PV X e f):L2.PO X (cq e) (tB X.K<|p5 f):=λa s m H Q I ⟨k,l,o,rc,O,q⟩=>sC h a s m H Q I (by
 obtain⟨i,g,U⟩:=zH O;obtain⟨d,Y,g⟩:=zg g;subst U;refine⟨k,l,d,rc,Y,λv j b x r=>?_⟩;rw[jW g]at r;exact⟨i,jL r,q j b x⟩)
theorem Yx{lo z:Option ec}{U Y:CO (Option Int)}(J:PV X a f)(Z:L2.PO X lo (tB X.K U))(L:L2.PO X z (tB X.K Y)):PV X (.Subscript a (.Slice lo z none p2) pos) (WL f U Y):=
 qb (W1 rH J Z L) λR H Q F=>by
  obtain⟨o,h,d,rc,I,q⟩:=F;obtain⟨i,B,I⟩:=zg I;obtain⟨l,C,I⟩:=zg I;obtain⟨u,E,I⟩:=zg I;refine⟨o,h,i,rc,B,λv M e x r=>⟨e,h,l,rc.ext x,C,λN w O=>⟨w,h,u,(rc.ext x).ext O,E,λs y b=>?_⟩⟩⟩;have n:=x.trans<|O.trans b;cases i with
  | tup P=>
   cases I;obtain⟨t,G,rfl,j,g⟩:=yY<|r.mono (O.trans b).s0;have A:=g.length;refine⟨t,G,rfl,o4 b.sub j,λm=>?_,λp k=>?_⟩
   ·rw[A]at m
    exact q _ s y n (by rw[gT m];exact xK j g)
   ·exact q _ _ _ (n.trans<|Ext.alloc b.sub k _)<|xK (gR.of zM)<|(lA g _ _).mono (jC (jx b.sub k) _)
  |_=>cases I
theorem X7{K:Iy}{H:Hp}{ds:List D}{xs:List V}(r:d5 K H ds xs):∀n:Nat,d5 K H (IE n ds).flatten (IE n xs).flatten
 |0=>d5.nil
 |n+1=>by rw[MU,MU,Nw,Nw];exact r.append<|X7 r n
theorem wz(z:PQ X a fq)(J:PQ X b gq):PO X (.BinOp a .Add b pos) (JF fq gq):=
 qb (lV mf z J) λK H Q x=>by
  obtain⟨l,k,E,rc,I,q⟩:=x;obtain⟨⟨y,e⟩,s,I⟩:=zg I;obtain⟨⟨A,f⟩,t,I⟩:=zg I;cases y<;>cases A<;>try (simp at I;done)
  dsimp only at I;by_cases U:e.length+f.length<=lim
  ·rw[UJ U]at I;cases I
   refine⟨l,k,.L,e,rc,s,λm i B o d u F g=>⟨o,k,.L,f,rc.ext d,t,λn j C r O w G h=>⟨m,n,i,j,rfl,rfl,O.s1.seq u,w,ve (by rw[g.length,h.length];exact U),λp Y=>?_⟩⟩⟩;exact q p (i++j) _ r (d.trans<|O.trans<|Ext.hide O.sub Y _) (ym (d.trans O).s1 Y) (jx O.sub Y) zM<|(g.mono O.s0).append h
  ·rw[UY U]at I;cases I
theorem Xq(z:PO X a gn)(J:PV X b g):PO X (.BinOp a .Mult b pos) (Yq (jz gn) g):=
 qb (lV Bx z J) λN H Q x=>by
  obtain⟨m,l,E,rc,I,q⟩:=x;obtain⟨⟨K,h⟩,d,I⟩:=zg I;obtain⟨C,t,d⟩:=zH d;cases d;obtain⟨j,Y,I⟩:=zg I;obtain⟨s,u,Y⟩:=zg Y;dsimp only at I;by_cases U:h.length*j.toNat<=lim/\inR j=da
  ·rw[UJ U]at I;cases I
   refine⟨m,l,h,rc,t,λn y A o f F G w i=>⟨o,l,s,rc.ext f,u,λv B r O k=>?_⟩⟩;rw[jW Y]at k;obtain⟨L,M⟩:=J4 U.2;refine⟨n,j,y,rfl,jL k,O.s1 _ _ w,by omega,by omega,ve (by rw[i.length];exact U.1),λp e=>?_⟩;exact q p _ _ r (f.trans<|O.trans<|Ext.hide O.sub e _) (ym (f.trans O).s1 e) (jx O.sub e) zM<|(X7 i _).mono O.s0
  ·rw[UY U]at I;cases I
theorem BP{K:Iy}{t c:String}{b:Bool}(h:(if ((MI t) ==.type c)=da then cq da else if PySem.W.kitMeta c=da then (fastBuiltinMro t).map (·.contains (.type c))else none)=cq b):Mh K (.type t) (.type c)=cq b:=h
noncomputable def N2:Ty->String
 |.int=>"int"
 |.bool=>"bool"
 |.str=>"str"
 |.tuple=>"tuple"
 |.list=>"list"
noncomputable def BQ:D->String
 |.d7=>"NoneType"
 |.bl _=>"bool"
 |.int _=>"int"
 |.str _=>"str"
 |.tup _=>"tuple"
 |.lst _=>"list"
 |.exc _ _=>""
 |.nr _ _=>"dict"
 |.ov _ _=>"dict"
 |.ins _ _ _=>""
theorem YS{K:Iy}(T:Ty)(d:D)(hx:∀c n,d ≠ .exc c n)(I:∀c p t,d ≠ .ins c p t:=by intro _ _ _ z;exact nomatch z):Mh K (.type<|BQ d) (.type<|N2 T)=cq (oU T d):=by cases d<;>cases T<;>first|exact absurd rfl (hx _ _)|exact absurd rfl (I _ _ _)|(dsimp only[BQ,N2,oU,oZ,Cc,oW,oV,oY];exact BP ⋯)
theorem tP{K:Iy}{C:dv}(b:Y0 K C=da):R9 K C:=by unfold Y0 at b;simp only[IK,beq_iff_eq]at b;exact⟨b.1,b.2.1,b.2.2.1,b.2.2.2.1⟩
theorem Ce{K:Iy}{H:Hp}{a C z:dv}{fs:List (Str×V)}(b:Y0 K C=da)(e:H a=cq (.ins C z fs)):xb K H (.ref a) (.ref C):=by have c:=tP b;unfold Y0 at b;simp only[IK,beq_iff_eq]at b;obtain⟨_,_,_,_,d,f,g,h,_⟩:=b;exact .ins e c d f g h
theorem tK{K:Iy}{C:dv}{c:Str}{p t:D}(b:Y0 K C=da)(T:Ty):Mh K (.ref C) (.type<|N2 T)=cq (oU T<|.ins c p t):=by
 unfold Y0 at b;simp only[IK,beq_iff_eq,Pk,List.all_nil]at b;obtain⟨_,_,_,_,_,_,_,_,a,d,e,f,g,_⟩:=b;cases T
 ·exact a
 ·exact d
 ·exact e
 ·exact f
 ·exact g
theorem mH{J:UQ}{σ:St}{H0 H:Hp}{s:d6}{A:i5}{E:EQ}{Q:EQ}{d:D}{x:V}{u:dy}(I:Inv X J σ H s)(sub:f6 H0 H)(O:RelV x u)(r:Rep X.K H0 d x)(T:Ty)
 (h:∀tk,Q (.bool (oU T d)) {s with toks:=tk}):wpAny (d9 X.prog X.w) A (call (.builtin "isinstance") [u,.type (N2 T)]) Q E s:=by
 cases d with
 |d7=>have e:=YS (K:=X.K) T .d7<|λ_ _ z=>nomatch z;cases (show x=.d7 from r);cases (show u=LV from O);exact Lu PySem.W.kitx_none I.l7 Nf e (λz=>nomatch z) h
 |bl y=>have e:=YS (K:=X.K) T (.bl y)<|λ_ _ z=>nomatch z;cases (show x=.bl y from r);cases (show u=Value.bool y from O);exact Lu PySem.W.kitx_bool I.l7 Nf e (λz=>nomatch z) h
 |int i=>have e:=YS (K:=X.K) T (.int i)<|λ_ _ z=>nomatch z;cases (show x=.int i from r);obtain⟨t,q⟩:=(show ∃t,u=Rj i t from O);cases q;exact Lu PySem.W.kitx_int I.l7 Nf e (λz=>nomatch z) h
 |str y=>have e:=YS (K:=X.K) T (.str y)<|λ_ _ z=>nomatch z;cases (show x=.str y from r);obtain⟨t,q⟩:=(show ∃t,u=Ri y t from O);cases q;exact Lu PySem.W.kitx_str I.l7 Nf e (λz=>nomatch z) h
 |tup m=>
  have e:=YS (K:=X.K) T (.tup m)<|λ_ _ z=>nomatch z;obtain⟨a,f,rfl,b,g⟩:=yY r;cases (show u=Lr a from O);obtain⟨B,Z,⟨o,U,Y,_⟩,P⟩:=I.tuple<|o4 sub b;exact Lu PySem.W.kitx_tuple I.l7 ⟨o,U,Y⟩ e (λz=>nomatch z) h
 |lst m=>
  have e:=YS (K:=X.K) T (.lst m)<|λ_ _ z=>nomatch z;obtain⟨a,f,rfl,b,g⟩:=fO r;cases (show u=Lr a from O);obtain⟨B,Z,p,P⟩:=I.list<|sub.seq b;obtain⟨o,U,Y,_⟩:=p.isList;exact Lu Rn I.l7 ⟨o,U,Y⟩ e (λz=>nomatch z) h
 | exc c n=>
  obtain⟨a,rfl,L⟩:=(show ∃a,x=.ref a/\B7 X.K H0 c n a from r);cases (show u=Lr a from O);obtain⟨C,φ,g1,g2,g3,_⟩:=L.ex;obtain⟨S,_,l,_,_⟩:=Jt L.all L.mem g1;obtain⟨p,_,_⟩:=(show j1 X.prog X.w H s.heap a (.ext φ)from I.ej a _<|sub _ _ g2);have e:Mh X.K (.ref C) (.type<|N2 T)=cq (oU T<|.exc c n):=by
   unfold nN at l;simp only[IK,Pk,List.all_nil,beq_iff_eq]at l;have t:=l.1.1.1.1.1.1.1.1.1.1;cases T
   ·exact t.1
   ·exact t.2.1
   ·exact t.2.2.1
   ·exact t.2.2.2.1
   ·exact t.2.2.2.2.1
  exact Lu (ai (cY l)<|cZ l) I.l7 (g3 _ p) e (λz=>nomatch z) h
 |nr j k=>
  have e:=YS (K:=X.K) T (.nr j k)<|λ_ _ z=>nomatch z;obtain⟨a,f,rfl,⟨R,_,_,o,b⟩,_⟩:=(show ∃a f,x=.ref a/\D9 H0 a j f/\d5 X.K H0 k f from r);cases (show u=Lr a from O);obtain⟨_,_,_,_,_,N⟩:=(show j1 X.prog X.w H s.heap a (.p8 o<|.dK<|R.zip f)from I.ej a _<|sub _ _ b);exact Lu OL I.l7 N.typeIs e (λz=>nomatch z) h
 |ov j k=>
  have e:=YS (K:=X.K) T (.ov j k)<|λ_ _ z=>nomatch z;obtain⟨a,f,rfl,⟨_,o,zs,b,g,_⟩,_⟩:=(show ∃a f,x=.ref a/\Se X.K H0 a j f/\d5 X.K H0 k f from r);cases (show u=Lr a from O);obtain⟨U,_⟩:=(show j1 X.prog X.w H s.heap a (Us a o)from I.ej a _<|sub _ _ b);exact Lu OL I.l7 ⟨o,U,g.1.1⟩ e (λz=>nomatch z) h
 |ins c p t=>
  obtain⟨a,C,M,F,G,rfl,b,g,_,_⟩:=(show ∃a C M F G,x=.ref a/\M1 X.K c=cq C/\H0 a=cq (.ins C M<|Ss F G)/\Rep X.K H0 p F/\Rep X.K H0 t G from r);exact gc I O (Ce (ar b)<|sub _ _ g) (tK (ar b) T) h
theorem sd(T:Ty)(h:SX X sc N L k)(c:kU sc "isinstance" = da)(z:X.mg "isinstance" = none)(O:kU sc ty=da)(z2:X.mg ty=none)(Z:Dd ty=cq (.type (N2 T)))(J:PV X a f)
 (hs:eA [a,.Name ty p2] X.env=[(di,d8 a X.env),(di,d8 (.Name ty p2) X.env)]:=by rfl):PV X (.Call (.Name "isinstance" p) [a,.Name ty p2] [] pos) (DO T f):=by
 intro e s F H Q I ⟨i,E,d,rc,t,q⟩;obtain⟨Y,n,o⟩:=zH t;subst o;refine MC<|xX I (h.gl c).1 z Oa ?_ ⋯ ⋯;refine Na ?_ (by rw[hs];rfl) rfl;rw[hs];show wpAny _ _ (DP ((di,d8 a X.env)::ow pos [(di,d8 (.Name ty p2) X.env)])) _ _ s;refine Mz<|eK (J e s F H _ I ⟨i,E,Y,rc,n,λv g b x r=>(show(λv g=>∃b,Ext i H b g/\Rep X.K b Y v) v g from⟨b,x,r⟩)⟩) λu B w=>?_;obtain⟨x,j,U,y,m,l,A⟩:=w;show wpAny _ _ (DP ((di,d8 (.Name ty p2) X.env)::[])) _ _ B;refine Mz<|xX U (h.gl O).1 z2 Z ?_ (h.gl O).2.1 (h.gl O).2.2;refine Nv ?_;exact mH U l.sub y A T λC=>⟨.bl _,j,U.tok C,rfl,q _ j m l rfl⟩
end
section
variable{X:Cx}{sc:gB}{N L:List Str}{k:Nat}{e a b c:ec}{pos p p2:fh}{f g:CO D}{fq:CO (Sk×List D)}
theorem j9(h:SX X sc N L k)(c:kU sc "range" = da)(z:X.mg "range" = none)(I:PV X a f)(hs:eA [a] X.env=[(di,d8 a X.env)]:=by rfl):i3 X tg (.Call (.Name "range" p) [a] [] pos) (jK f):=bH (h.gl c).1 z I hs
theorem W0(h:SX X sc N L k)(c:kU sc "range" = da)(z:X.mg "range" = none)(J:PV X a f)(I:PV X b g)(hs:eA [a,b] X.env=[(di,d8 a X.env),(di,d8 b X.env)]:=by rfl)(O:eA [b] X.env=[(di,d8 b X.env)]:=by rfl):
 i3 X tg (.Call (.Name "range" p) [a,b] [] pos) (X0 f g):=bG (h.gl c).1 z J I hs O
theorem vO(h:SX X sc N L k)(c:kU sc "zip" = da)(z:X.mg "zip" = none)(J:PV X a f)(I:PV X b g)(hs:eA [a,b] X.env=[(di,d8 a X.env),(di,d8 b X.env)]:=by rfl)(O:eA [b] X.env=[(di,d8 b X.env)]:=by rfl):
 i3 X (.Tuple elts x1 tx) (.Call (.Name "zip" p) [a,b] [] pos) (QR f g):=sI (h.gl c).1 z J I hs O
theorem eM(h:SX X sc N L k)(c:kU sc "isinstance" = da)(z:X.mg "isinstance" = none)(I:kU sc "int" = da)(O:X.mg "int" = none)(J:PV X a f)
 (hs:eA [a,.Name "int" p2] X.env=[(di,d8 a X.env),(di,d8 (.Name "int" p2) X.env)]:=by rfl):PV X (.Call (.Name "isinstance" p) [a,.Name "int" p2] [] pos) (DO .int f):=sd .int h c z I O PyProof.Rows.boot_int J hs
theorem bx(h:SX X sc N L k)(c:kU sc "isinstance" = da)(z:X.mg "isinstance" = none)(I:kU sc "bool" = da)(O:X.mg "bool" = none)(J:PV X a f)
 (hs:eA [a,.Name "bool" p2] X.env=[(di,d8 a X.env),(di,d8 (.Name "bool" p2) X.env)]:=by rfl):PV X (.Call (.Name "isinstance" p) [a,.Name "bool" p2] [] pos) (DO .bool f):=sd .bool h c z I O PyProof.Rows.boot_bool J hs
theorem bw(h:SX X sc N L k)(c:kU sc "isinstance" = da)(z:X.mg "isinstance" = none)(I:kU sc "list" = da)(O:X.mg "list" = none)(J:PV X a f)
 (hs:eA [a,.Name "list" p2] X.env=[(di,d8 a X.env),(di,d8 (.Name "list" p2) X.env)]:=by rfl):PV X (.Call (.Name "isinstance" p) [a,.Name "list" p2] [] pos) (DO .list f):=sd .list h c z I O OJ J hs
theorem lG(z:PQ X a fq)(O:∀I,F6 a X.env I=(do let v<-I;M8 a.pos;Dj [v] (R5 v)):=by intro _;rfl):ni X a (rK fq):=
 bB (lH z O) λo H Q U=>by
  obtain⟨j,m,t,rc,Y,q⟩:=U;obtain⟨⟨h,b⟩,k,l⟩:=zH Y;subst l;refine⟨j,m,h,b,rc,k,λp d i f ext g n r=>⟨!b.isEmpty,?_,q i f ext⟩⟩;have e:d.isEmpty=b.isEmpty:=by have:=r.length;cases d<;>cases b<;>simp_all
  rw[<-e];cases h with
  |L=>exact .inl ⟨d,g,rfl⟩
  |T=>exact .inr<|.inl ⟨d,g,rfl⟩
theorem om(z:PV X a f):PV X (.UnaryOp .USub a pos) (rO f):=
 qb (Fx Aa z) λl H Q I=>by obtain⟨h,k,d,rc,O,q⟩:=I;obtain⟨i,e,U⟩:=zH O;obtain⟨Y,j,e⟩:=zg e;subst U;refine⟨h,k,Y,rc,j,λv g b x r=>?_⟩;rw[jW e]at r;exact⟨i,jL r,q _ g b x rfl⟩
theorem JI(i:Nat)(h:SX X sc N L k)(c:Ju sc N i x=da)(z:PV X a f)(hs:eA [a] X.env=[(di,d8 a X.env)]:=by rfl)
 (I:L3 (.Name x np) "append" X.env (d8 (.Name x np) X.env)=d8 (.Name x np) X.env:=by rfl)
 (O:((ow cpos<|starEach [a] X.env).all (λx=> !x.1)&&(E9 cpos<|keywordEach [] X.env).all (λx=>x.1.isSome)
   &&decide ([a].length+([]:List t7).length+(if ([]:List t7).isEmpty then 0 else 1)<30))=da:=by rfl)
 (U:(apos.endLine==cpos.line)=da:=by rfl) (Y:u4 (.Call (.Attribute (.Name x np) "append" apos) [a] [] cpos) none pos.line X.env=pure di:=by rfl):
 n5 X (.Expr (.Call (.Attribute (.Name x np) "append" apos) [a] [] cpos) pos) (yz i f):=
 bC i (VL Nk PySem.F.slot_list_append PySem.F.type_list_append fJ (h.var c) (jm z qc hs) I O U hs rfl) Y
theorem js(i:Nat){st:h9}{f:CO (List D)}(h:PS X st (WE (tO X.K f)<|vf i)):n5 X st (jr i<|jG f):=yS h λD u H U=>by obtain⟨E0,E,g,o,s,I,O,Y⟩:=U;obtain⟨d,b,O⟩:=zH O;obtain⟨k,l,b⟩:=zH b;subst O b;exact⟨g,o,k,I.rc,l,λa t p j x m e n r=>Y _ _ _<|(I.step<|x.show m e n I.rc.sub).A7 (dZ (gv.of zM)<|r.mono<|jC e _)⟩
theorem U'(i:Nat)(h:SX X sc N L k)(c:yd sc N L i y=da)
 (I:X.calm=da) (ok:wo X scope fr) (O:∀i∈T.idx,i<own.length) (Z:A4 X tg iter src) (U:∀fp J z,PG (jF X scope (own++fr.map (·.1)) fp J z) tg<|vt X.K T)
 (Y:∀fp J z,PV (jF X scope (own++fr.map (·.1)) fp J z) elt f) (hs:∀x,u0 iter X.env x=pure x:=by intro _;rfl):
 PS X (.Assign [.Name y py] (.ListComp elt [⟨tg,iter,[],0⟩] scope cpos) spos) (WE (tO X.K<|zU src T own.length (fr.map (·.2)) jw f)<|vf i):=by
 obtain⟨a,b,d⟩:=h.loc c;exact lO h.Gx a b d I ok O Z U Y hs
theorem Ft(i:Nat)(h:SX X sc N L k)(c:yd sc N L i y=da)
 (I:X.calm=da) (ok:wo X scope fr) (O:∀i∈T.idx,i<own.length) (hi:A4 X tg iter src) (U:∀fp J z,PG (jF X scope (own++fr.map (·.1)) fp J z) tg<|vt X.K T)
 (Y:∀fp J z,ni (jF X scope (own++fr.map (·.1)) fp J z) L5 kk) (Z:∀fp J z,PV (jF X scope (own++fr.map (·.1)) fp J z) elt f) (hs:∀x,u0 iter X.env x=pure x:=by intro _;rfl):
 PS X (.Assign [.Name y py] (.ListComp elt [⟨tg,iter,[L5],0⟩] scope cpos) spos) (WE (tO X.K<|zU src T own.length (fr.map (·.2)) kk f)<|vf i):=by
 obtain⟨a,b,d⟩:=h.loc c;exact bE h.Gx a b d I ok O hi U Y Z hs
theorem eT(i:Nat)(h:SX X sc N L k)(c:Ju sc N i x=da)(hi:PV X b g)(he:PV X e f)
 (Z:∀v,C9 (.Subscript (.Name x np) b p) X.env v=(do
   let O<-Dj [v] (d8 (.Name x np) X.env);let iv<-Dj [v,O] (d8 b X.env)
   M8 p
   Dj [v,O,iv] (setItem O iv v)
   release [v,O,iv] []):=by intro _;rfl)
 (hs:T6 [.Subscript (.Name x np) b p] e pos.line X.env=pure di:=by rfl) (hw:UT [.Subscript (.Name x np) b p] e X.env=pure none:=by rfl)
 (z:(Dy [.Subscript (.Name x np) b p] X.env).map (·.2)=[C9 (.Subscript (.Name x np) b p) X.env]:=by rfl):
 n5 X (.Assign [.Subscript (.Name x np) b p] e pos) (dM i g f):=
 yS (eV he (Bc (h.var c) hi lq Z) hs hw z) λD σ H P=>by obtain⟨E0,E,w,u,T,t,I,y⟩:=P;obtain⟨d,G,I⟩:=zg I;obtain⟨F,U,I⟩:=zg I;obtain⟨Q,n,I⟩:=zg I;obtain⟨C,J,n⟩:=zg n;obtain⟨j,K,I⟩:=zH I;subst I;have U:=k4 U;refine⟨w,u,d,t.rc,G,λv R l x r=>?_⟩;have m:=t.step x;obtain⟨a,xs,z,W,M,o⟩:=m.rc.own i F U;refine⟨_,z,l,u,C,m.rc,J,λv2 S A Y s=>?_⟩;rw[jW n]at s;have B:=m.step Y;refine⟨a,xs,Q,j,rfl,jL s,Y.s1 _ _ M,by rw[o.length];exact gb K,?_⟩;exact y _ _ A<|B.rewrite (xs:=xs) U z<|(o.mono Y.s0).set j (r.mono Y.s0)
theorem WX(U:PG X tg (vt X.K T))(Y:PV X e f)(hs:T6 [tg] e pos.line X.env=pure di:=by rfl)(J:UT [tg] e X.env=pure none:=by rfl)
 (z:(Dy [tg] X.env).map (·.2)=[C9 tg X.env]:=by rfl):n5 X (.Assign [tg] e pos) (rL T f):=
 yS (eV Y U hs J z) λD p H l=>by obtain⟨E0,E,h,m,o,O,I,i⟩:=l;obtain⟨d,j,I⟩:=zg I;obtain⟨n,k,I⟩:=zH I;subst I;refine⟨h,m,d,O.rc,j,λv g a x r=>?_⟩;exact QC x.sub r k λb _ a5=>i b g a<|a5 E0 E<|O.step x
end
structure fx(P:g8)(w:f7)(K:Iy)(mg:UZ)(base:eh)(k:Nat)(x:Str)(n:Nat)(F:List D->Option Res):Prop where
 ex:∃(f:dv) (fd:rh) (ps:List Str),ps.length=n/\rb P w K mg base t5 k f fd ps (u3 K ps.length F)/\mg x=cq (.ref f)/\NZ K (.ref f)=da/\Binds K fd ps []
structure fy(K:Iy)(mg:UZ)(x:Str)(st:h9)(ps:List Str):Prop where
 ex:∃(f:dv) (fd:rh),L2.E1 K x x st f fd/\(∀us:List dy,us.length=ps.length->Ut fd ⟨us,[]⟩=pure (ps.zip us))/\mg x=cq (.ref f)
noncomputable def B5(X:Cx)(es:List ec)(n:Nat)(g:CO (List D)):Prop:=Dw X es g/\∀b a,g b=cq a->a.length=n
section
variable{X:Cx}{sc:gB}{N L:List Str}{k:Nat}{e:ec}{es:List ec}{f:CO D}{g:CO (List D)}{n:Nat}{pos p:fh}{x:Str}
theorem zc:B5 X [] 0 zF:=⟨sR,λb a h=>by cases h;rfl⟩
theorem za(z:PV X e f)(I:B5 X es n g)(hs:eA (e::es) X.env=(di,d8 e X.env)::eA es X.env:=by rfl):B5 X (e::es) (n+1) (zb f g):=
 ⟨lZ z I.1 hs,λa b h=>by obtain⟨y,d,h⟩:=zg h;obtain⟨r,O,h⟩:=zH h;subst h;rw[Lm,I.2 a r O]⟩
variable{j:Nat}{F:List D->Option Res}
theorem Fq(J:fx X.prog X.w X.K X.mg X.base j x n F)(I:j<=k)(h:SX X sc N L k)(c:kU sc x=da)(z:B5 X (e::es) n g)
 (O:eA (e::es) X.env=(di,d8 e X.env)::eA es X.env:=by rfl) (U:(ow pos<|starEach es X.env).any (·.1)=di:=by rfl):PV X (.Call (.Name x p) (e::es) [] pos) (zE F g):=by
 obtain⟨i,l,m,f,G,d,Y,b⟩:=J.ex;subst f;exact sf (A0:=[]) G z.1 z.2 λ{t} a=>fj G (h.room.mono I) (h.gl c).1 d Y b .nil Bo a (h.gl c).2.2 O U
theorem Fw(J:fx X.prog X.w X.K X.mg X.base j x n F)(I:j<=k)(h:SX X sc N L k)(c:kU sc x=da)(z:B5 X (e::es) n g)
 (O:eA (e::es) X.env=(di,d8 e X.env)::eA es X.env:=by rfl) (U:(ow pos<|starEach es X.env).any (·.1)=di:=by rfl):PO X (.Call (.Name x p) (e::es) [] pos) (jg F g):=by
 obtain⟨i,l,m,f,G,d,Y,b⟩:=J.ex;subst f;exact sG G z.1 z.2 λ{t} a=>fj G (h.room.mono I) (h.gl c).1 d Y b .nil Bo a (h.gl c).2.2 O U
end
section
variable{P:g8}{w:f7}{K:Iy}{mg:UZ}{base:eh}
noncomputable def cI(N ps:List Str)(st:h9):Bool:=
 decide ((jy st).kind=.function)&&decide ((jy st).isCoroutine=di)&&decide ((jy st).isGenerator=di)&&decide N.Nodup&&decide (N.take ps.length=ps)&&
 ps.all (λx=>decide ((jy st).names.lookup x=cq .local) || decide ((jy st).names.lookup x=cq .cell))&&(jy st).names.all (λy=> !(y.2==Lp))
theorem Je{N ps:List Str}{st:h9}(h:cI N ps st=da):N6 N ps (jy st):=by unfold cI at h;simp only[IK,decide_eq_true_eq,Mu,Mk,MH]at h;obtain⟨⟨⟨⟨⟨⟨a,b⟩,I⟩,O⟩,U⟩,Y⟩,d⟩:=h;exact⟨a,b,I,O,U,Y,λy f e=>by have:=d y f;rw[e]at this;exact absurd this ⋯⟩
theorem Bn{X:Cx}(hx:X.xe=λ_ _=>False):Ul (d9 X.prog X.w) X.A X.env X.xe:=by rw[hx];exact PassesOwn.never
theorem qX{x:Str}{st:h9}{N ps:List Str}{k:Nat}{F:CO Fl}(A:fy K mg x st ps)(z:cI N ps st=da)
 (O:∀X:Cx,X.prog=P->X.w=w->X.K=K->X.mg=mg->X.base=base->SX X (jy st) N N k->X.xe=(λ_ _=>False)->cW X (kK st) F):
 fx P w K mg base (k+1) x ps.length (jq N.length F):=by
 obtain⟨f,d,I,U,e⟩:=A.ex;have S:=Je z;refine⟨f,d,ps,rfl,ud I S λb A a s H E Y=>?_,e,I.kp,.all U⟩;exact O _ rfl rfl rfl rfl rfl ⟨rfl,rfl,S.nd,rfl,Y,λ_ _=>.inl rfl⟩ rfl
theorem Hj{h:eh}{x:Str}{st:h9}{ps:List Str}{f:dv}{oc:dy}{od L:Option dv}{Y:Array (Option dy)}{kV J O z ct:dy}(I:K.In h)(G:h.Ns q7 mg)
 (a:OC K q7 x=cq (cq (.ref f))) (l:K.lookup f=cq ⟨oc,od,.func<|Ob x x (J9 st) (kK st) (jy st) .none kV J O L z ct,Y⟩)
 (c:Py K z x=da) (Z:NZ K (.ref f)=da)
 (b:∀(kV J O:dy) (L:Option dv) (z ct:dy) (us:List dy),us.length=ps.length->Ut (Ob x x (J9 st) (kK st) (jy st) .none kV J O L z ct) ⟨us,[]⟩=pure (ps.zip us)):fy K mg x st ps:=
 ⟨f,_,Cm l c Z,b kV J O L z ct,PySem.W.mg_of I G a⟩
theorem FP{x:Str}{st:h9}{f:dv}{z:rh}{N ps:List Str}{k:Nat}{F:CO Fl}(I:L2.E1 K x x st f z)(J:cI N ps st=da)
 (O:∀X:Cx,X.prog=P->X.w=w->X.K=K->X.mg=mg->X.base=base->SX X (jy st) N N k->X.xe=(λ_ _=>False)->cW X (kK st) F):
 rb P w K mg base t5 (k+1) f z ps (u3 K ps.length<|jq N.length F):=by
 have S:=Je J;exact ud I S λb A a s H E U=>O _ rfl rfl rfl rfl rfl ⟨rfl,rfl,S.nd,rfl,U,λ_ _=>.inl rfl⟩ rfl
theorem Ey{F:List D->Option Res}{H:Hp}{a:dv}{ns:List Int}(I:gv K H a (ns.map V.int))(O:F [.lst (ns.map D.int)]=cq (.val<|.bl da)):
 u3 K 1 F [.ref a] H (λv _=>v=.bl da) λ_ _ _=>False:=by
 refine⟨H,[.lst (ns.map D.int)],.val<|.bl da,f6.refl _,d5.cons (dZ I ?_) d5.nil,rfl,O,λv d b _ r=>r⟩;clear O I
 induction ns with
 |nil=>exact d5.nil
 |cons n ns U=>exact d5.cons rfl U
end
end DL
namespace DL
open PySem PySem.Spec PyProof.Rows L2
open PySem.W (KasT kas_sort kas_ask kat_run kat_snds kat_lt kat_cons kat_no kat_kind KatTups KatGo)
noncomputable def CZ(h:eh)(v:dy)(k:Int):Prop:=∃x o a m t,v=.ref x/\h.get? x=cq o/\o.cls=.type "tuple"/\o.data=.seq a m/\a[0]? = cq (.int k t)
theorem oS:∀{vs:List dy} {ks:Nat->Int},(∀i (z:i<vs.length),CZ h vs[i] (ks i))->∃fs,KatTups h vs fs/\fs.length=vs.length/\∀f∈fs,∃k t,f=Rj k t
 |[],ks,_=>⟨[],KatTups.nil,rfl,λf hf=>by cases hf⟩
 | v::vs,ks,H=>by
  obtain⟨fs,d,e,I⟩:=oS (vs:=vs) (ks:=λi=>ks<|i+1) λi z=>H (i+1) (by simpa using z);obtain⟨x,o,g,m,t,a,O,U,Y,b⟩:=H 0 ⋯;have a:v=.ref x:=a;subst a;exact⟨.int (ks 0) t::fs,KatTups.cons O U Y b d,by simp[e],λf hf=>by
   rcases IM.mp hf with rfl|hf
   ·exact⟨_,_,rfl⟩
   ·exact I f hf⟩
end DL
namespace DL
open PySem PySem.Spec PyProof.Rows L2
open AutoSeq1 (wpAny_loadPart')
theorem ZX:fillsNumberSlot (.type "tuple") "mul" = pure di:=
 PySem.fillsNumberSlot_seq (id:="tuple.__mul__") (r:=cq (.builtin "tuple.__rmul__")) OB.lookup ⋯ F.slot_tuple_rmul.lookup ⋯
theorem Yv:seqRepeat? (.type "tuple")=pure (cq (.builtin "tuple.__mul__")):=by unfold seqRepeat?;rw[PySem.seqSlot_of (T:="tuple") (name:="__mul__") (id:="tuple.__mul__") OB.lookup ⋯,PySem.seqSlot_of (T:="tuple") (name:="__rmul__") (id:="tuple.__rmul__") F.slot_tuple_rmul.lookup ⋯];rfl
theorem Xa(a:Int)(t:qs)(l:dv)(items:Array dy)(n:Nat)(dd:Option dv)(z:Array (Option dy)):
 Ig (Builtin.«int.__rmul__» ⟨[.int a t,.ref l],[]⟩) (λ_ R s=>s.heap.get? l=cq {cls:=.type "tuple",dict:=dd,data:=.seq items n,slots:=z}/\R (.ok (.ret Value.notImplemented)) s):=
 .of_wp λb w A R s h=>by obtain⟨I,g,d,e,os⟩:=s;obtain⟨O,h⟩:=h;wp_walk;exact⟨_,rfl,h⟩
theorem XQ(a:Int)(t:qs)(l:dv)(items:Array dy)(n:Nat)(dd:Option dv)(L:Array (Option dy))(z:¬(decide (a < -(2^63)) || decide (a>=2^63))=da)(J:¬(items.isEmpty || a==1)=da)
 (O:¬(decide (a<=0) || items.isEmpty)=da) (U:¬((items.size:Int)*a>(2^63-1)/8)) (Y:¬Builtin.Tuple.tupleTooMany ((items.size:Int)*a)=da) (hz:((IE a.toNat items).foldl (· ++ ·) #[]).size<=el):
 Ig (Builtin.«tuple.__mul__» ⟨[.ref l,.int a t],[]⟩) (λ_ R s=>s.heap.get? l=cq {cls:=.type "tuple",dict:=dd,data:=.seq items n,slots:=L}/\
  R (.ok (.ret (.ref s.heap.objs.size))) {s with heap:=s.heap.push {cls:=.type "tuple",data:=.seq ((IE a.toNat items).foldl (· ++ ·) #[])}}):=
 .of_wp λb w A R s h=>by
  obtain⟨e,g,d,f,os⟩:=s;obtain⟨I,h⟩:=h
  wp_walk using MK I
  rw[UY z];refine Iz<|PF (s:=⟨e,g,d,f,os⟩) ⟨_,I,rfl,n,rfl⟩ ?_;dsimp only;rw[UY J,UY O,UY U,UY Y];refine Iz (m:=MD _)<|Mp ?_ hz;exact IH ⟨_,rfl,h⟩
theorem QP(a:Int)(t:qs)(l:dv)(items:Array dy)(n:Nat)(dd:Option dv)(L:Array (Option dy))(z:¬(decide (a < -(2^63)) || decide (a>=2^63))=da)(J:¬(items.isEmpty || a==1)=da)
 (O:(decide (a<=0) || items.isEmpty)=da):
 Ig (Builtin.«tuple.__mul__» ⟨[.ref l,.int a t],[]⟩) (λ_ R s=>s.heap.get? l=cq {cls:=.type "tuple",dict:=dd,data:=.seq items n,slots:=L}/\
  R (.ok (.ret (.ref s.heap.objs.size))) {s with heap:=s.heap.push {cls:=.type "tuple",data:=.seq #[]}}):=
 .of_wp λb w A R s h=>by
  obtain⟨U,g,d,e,os⟩:=s;obtain⟨I,h⟩:=h
  wp_walk using MK I
  rw[UY z];refine Iz<|PF (s:=⟨U,g,d,e,os⟩) ⟨_,I,rfl,n,rfl⟩ ?_;dsimp only;rw[UY J,UJ O];refine Iz (m:=MD _)<|Mp ?_ (Mr _);exact IH ⟨_,rfl,h⟩
theorem QO(a:Int)(t:qs)(l:dv)(items:Array dy)(n:Nat)(dd:Option dv)(L:Array (Option dy))(z:¬(decide (a < -(2^63)) || decide (a>=2^63))=da)(J:(items.isEmpty || a==1)=da):
 Ig (Builtin.«tuple.__mul__» ⟨[.ref l,.int a t],[]⟩) (λ_ R s=>s.heap.get? l=cq {cls:=.type "tuple",dict:=dd,data:=.seq items n,slots:=L}/\R (.ok (.ret (.ref l))) s):=
 .of_wp λb w A R s h=>by
  obtain⟨O,g,d,e,os⟩:=s;obtain⟨I,h⟩:=h
  wp_walk using MK I
  rw[UY z];refine Iz (PF (s:=⟨O,g,d,e,os⟩) ⟨_,I,rfl,n,rfl⟩ ?_);dsimp only;rw[UJ J];refine Iz (m:=Nq _) ?_;unfold Nq;refine Iz (NY (T:="tuple") ⟨_,I,rfl⟩ (IH ?_));rw[UJ ⋯];exact Iz (Oq (IH ⟨_,rfl,h⟩))
section
variable{X:Cx}
noncomputable def AG(K:Iy):R2:=λx y H Q=>∃l k a,x=.ref l/\y=.int k/\gR K H l a/\ -(2^62)<=k/\k<2^62/\a.length*k.toNat<=el/\(a=[]\/k=1->Q (.ref l) H)/\
 ∀p,H p=none->Q (.ref p) (upd H p<|.tup (IE k.toNat a).flatten)
theorem sT:kr X (xg .Mult) (AG X.K):=by
 intro G s σ H x y v u Q I rx ry h;obtain⟨l,k,L,rfl,rfl,S,h1,h2,E,q1,J⟩:=h;cases rx;obtain⟨t,rfl⟩:=ry;obtain⟨a,r,W,z1⟩:=I.tuple S;obtain⟨⟨R,b,w,d⟩,O,A,n,B⟩:=id W;simp only at A B;subst A B;have M:=r.length;have g1:¬(decide (k < -(2^63)) || decide (k>=2^63))=da:=by simp;omega
 refine _g (T:="tuple") (U:="int") ⋯ ⟨_,O,rfl⟩ (λs'=>RZ s' k t) ZX F.fills_int_mul PY Yv F.slot_int_index.lookup
  (Nm PY (RZ s k t) F.entry_int_rmul (F.args_int_rmul_2 _ _) (Xa k t l a.toArray n b d) ⟨O,rfl,⟨_,O,rfl⟩,?_⟩)
 have z:∀m:Nat,RF (λj p=>j++p) #[] (IE m a.toArray)=(IE m a).flatten.toArray:=λm=>by have:=J6 a m [];rw[NQ]at this;exact this
 by_cases g2:(a.toArray.isEmpty || k==1)=da
 ·refine Nm OB ⟨_,O,rfl⟩ RU (RI _ _) (QO k t l a.toArray n b d g1 g2) ⟨O,⟨.ref l,H,I,rfl,q1 ?_⟩⟩
  rw[Mk]at g2;rcases g2 with g|g
  ·left
   have:a=[]:=by simpa using g
   exact(r.SD).mp this
  ·right;simpa using g
 ·have f:=g2
  simp only[Mk,not_or]at f;have N:a ≠ []:=by intro e;exact f.1 (by rw[e];rfl)
  have ap:0<a.length:=List.length_pos_iff.mpr N;by_cases Y:(decide (k<=0) || a.toArray.isEmpty)=da
  ·have C:k.toNat=0:=by
    rw[Mk]at Y;rcases Y with g|g
    ·have:=of_decide_eq_true g;omega
    ·exact absurd g f.1
   refine Nm OB ⟨_,O,rfl⟩ RU (RI _ _) (QP k t l a.toArray n b d g1 g2 Y) ⟨O,?_⟩;refine⟨.ref s.heap.objs.size,_,I.laid (t':=s.toks) (o:=.tup (IE k.toNat L).flatten) (λc Z q=>IB _ q) (II _) ?_,rfl,J _<|I.ej.fresh<|II _⟩;rw[C];exact⟨Mr _,[],.nil,B0.new _ _⟩
  ·have C:¬k<=0:=by intro g;exact Y (by rw[Mk];exact .inl<|decide_eq_true g)
   have i:a.length*k.toNat<=el:=by rw[<-M];exact E
   have as:((a.toArray.size:Nat):Int)*k<=(el:Int):=by
    rw[IL];have e:((a.length*k.toNat:Nat):Int)=(a.length:Int)*k:=by rw[NX,OH ⋯]
    omega
   have ax:el=16777216:=E5;have P:(RF (λj p=>j++p) #[] (IE k.toNat a.toArray)).size<=el:=by rw[z,IL,VX,Nb];exact i
   refine Nm OB ⟨_,O,rfl⟩ RU (RI _ _) (XQ k t l a.toArray n b d g1 g2 Y ⋯ (by unfold Builtin.Tuple.tupleTooMany;simp only[decide_eq_true_eq];omega) P) ⟨O,?_⟩;rw[z];refine⟨.ref s.heap.objs.size,_,I.laid (t':=s.toks) (o:=.tup (IE k.toNat L).flatten) (λc Z q=>IB _ q) (II _) ?_,rfl,J _<|I.ej.fresh<|II _⟩;exact⟨by rw[VX,Nb];exact E,_,r.rep k.toNat,B0.new _ _⟩
theorem rC{K:Iy}:o9 K (λx y H Q=>rI H9 (λi j=>.int (i*j)) x y H Q\/AG K x y H Q) yw:=λh H x y l m d Q s U Y I q=>by
 cases l<;>cases m<;>simp[yw]at I
 ·obtain⟨n,O⟩:=I
  subst O;exact .inl ⟨_,_,jL U,jL Y,nF n,q _ H h (Ext.refl s) rfl⟩
 ·rename_i f j
  obtain⟨⟨r,o⟩,rfl⟩:=I;obtain⟨a,w,rfl,g,b⟩:=yY U;obtain⟨t,u⟩:=J4 o;refine .inr ⟨a,j,w,rfl,jL Y,o4 s g,t,u,ve (by rw[b.length];exact r),λe=>?_,λp k=>?_⟩
  ·refine q _ H h (Ext.refl s) ?_
   rcases e with e|e
   ·have O:f=[]:=by
     have:=b.length;rw[e]at this;exact LF this.symm
    subst O;rw[show(IE j.toNat ([]:List D)).flatten=[]by simp];exact xK g b
   ·subst e
    rw[show(IE (1:Int).toNat f).flatten=f by simp];exact xK g b
  ·exact q _ _ _ (Ext.alloc s k _)<|xK (gR.of zM)<|(X7 b _).mono (jC (jx s k) _)
theorem xV(z:PV X a fa)(I:PV X b fb):PV X (.BinOp a .Mult b pos) (zI yw fa fb):=Xm (T_.or sT) rC z I
end
end DL
namespace L2
open PySem PySem.Spec PyProof.Rows
open AutoSeq1 (wpAny_loadPart')
section
variable{prog:g8}{w:f7}{A:i5}{E:EQ}{s:d6}
theorem cD{z it l:dv}{n:Nat}{xs:Array dy}{x U:dy}{Q:EQ}(hz:y6 s.heap z it n U)(Z:i4 .T s.heap it l n)(hl:m6 .T s.heap l xs)(hx:xs[n]? = cq x)(J:z≠it)
 (hQ:∀g,S4 g z it ((n:Int)+1) x s.heap.objs.size->i4 .T g it l (n+1)->m4 g s.heap.objs.size (.int n s.toks) x->g.objs.size=s.heap.objs.size+1->
   (∀c o,c≠z->c≠it->s.heap.get? c=cq o->g.get? c=cq o)->Q (.ref s.heap.objs.size) {s with heap:=g,toks:=s.toks+1}):
 wpAny (d9 prog w) A (Builtin.«enumerate.__next__» ⟨[.ref z],[]⟩) (λL s'=>∃v,L=.done (.ret v)/\Q v s') E s:=by
 refine Iz (m:=field (.ref z) 2) (LI hz rfl (x:=.ref it) rfl ?_);refine Iz (m:=IY (.ref it)) (kJ Z hl hx λg1 K h=>?_);have i:y6 g1 z it n U:=h.extBut _ _ J hz;refine Iz (m:=field (.ref z) 3) (LI i rfl (x:=Dl n) rfl ?_);refine Iz (m:=field (.ref z) 4) (LI i rfl (x:=.none) rfl ?_);refine Iz (m:=mkInt n) (wpAny_mkInt ?_);refine Iz (m:=R0 (.ref z) 3 (Dl ((n:Int)+1))) (Mi i ⋯ λg2 b j=>?_);replace b:y6 g2 z it ((n:Int)+1) U:=b;refine Iz (m:=R0 (.ref z) 4 .none) (Mi b ⋯ λY k p=>?_);replace k:y6 Y z it ((n:Int)+1) U:=k;refine Iz (m:=newTuple [.int n s.toks,x]) (RD ?_);have f:y6 (Y.push {cls:=.type "tuple",data:=.seq #[.int n s.toks,x]}) z it ((n:Int)+1) U:=IB _ k;generalize a4:Y.push {cls:=.type "tuple",data:=.seq #[.int n s.toks,x]}=O at f;have X:g1.objs.size=s.heap.objs.size:=h.1;have y2:g2.objs.size=g1.objs.size:=j.1;have y3:Y.objs.size=g2.objs.size:=p.1;have a:Y.objs.size=s.heap.objs.size:=by rw[y3,y2,X]
 have M:z<s.heap.objs.size:=IP hz;have N:m4 O s.heap.objs.size (.int n s.toks) x:=by show O.get? _=_;rw[<-a4,<-a];exact IS _ rfl
 have y4:O.objs.size=s.heap.objs.size+1:=by rw[<-a4,Lx,a]
 have b9:∀c o,c≠z->c≠it->s.heap.get? c=cq o->O.get? c=cq o:=λc o I y e=>by rw[<-a4];exact IB _<|p.extBut _ _ I<|j.extBut _ _ I<|h.extBut _ _ y e
 have P:i4 .T O it l (n+1):=K.at λo e=>by rw[<-a4];exact IB _<|p.extBut _ _ J.symm<|j.extBut _ _ J.symm e
 refine Iz (m:=Lh<|.ref z) ?_;unfold Lh;refine Iz<|LI f rfl (x:=.none) rfl<|IH ?_;simp only[if_true];refine Iz<|Oq<|Iz<|LI f rfl (x:=U) rfl ?_;refine Iz<|Mi f ⋯ λB r G=>?_;replace r:y6 B z it ((n:Int)+1) x:=r;rw[a];refine Iz (m:=ME (.ref z)<|.ref s.heap.objs.size) ?_;unfold ME;refine Iz<|Mi r ⋯ λC t H=>?_;replace t:S4 C z it ((n:Int)+1) x s.heap.objs.size:=t;refine Mi t ⋯ λd u as=>?_;replace u:S4 d z it ((n:Int)+1) x s.heap.objs.size:=u;have F:∀c o,c≠z->O.get? c=cq o->d.get? c=cq o:=λc o I e=>as.extBut _ _ I<|H.extBut _ _ I<|G.extBut _ _ I e;have y7:d.objs.size=s.heap.objs.size+1:=by have R:B.objs.size=O.objs.size:=G.1;have S:C.objs.size=B.objs.size:=H.1;have W:d.objs.size=C.objs.size:=as.1;rw[W,S,R,y4]
 exact Iz<|PD<|IH ⟨_,rfl,hQ d u (P.at λo e=>F _ o J.symm e) (F _ _ (MS M) N) y7 λc o I y e=>F c o I<|b9 c o I y e⟩
theorem gI{z it l:dv}{n:Nat}{xs:Array dy}{I:dy}{Q:Fin->d6->Prop}(O:A.handled=none)(hz:y6 s.heap z it n I)(J:i4 .T s.heap it l n)(U:m6 .T s.heap l xs)(hx:xs[n]? = none)
 (Y:∀g e,Heap.ExtBut it s.heap g->(∃o,g.get? e=cq o/\o.cls=.type "StopIteration")->E (.ref e) {s with heap:=g}):
 wpAny (d9 prog w) A (Builtin.«enumerate.__next__» ⟨[.ref z],[]⟩) Q E s:=
 Iz (m:=field (.ref z) 2) (LI hz rfl (x:=.ref it) rfl<|Iz (m:=IY<|.ref it)<|wH O J U hx Y)
end
noncomputable def ug(i:dv):jn:={cls:=.type "enumerate",data:=.fields #[.none,.bool di,.ref i,Dl 0,.none,.none]}
noncomputable def J8(h:eh)(l:dv):eh:=Lj (Lj h<|i7 .T l)<|ug h.objs.size
theorem gH(l:dv)(xs:Array dy):
 Ig (Builtin.«enumerate.__new__» ⟨[.type "enumerate",.ref l],[]⟩) (λ_ R s=>m6 .T s.heap l xs/\R (.ok (.ret (.ref (s.heap.objs.size+1)))) {s with heap:=J8 s.heap l}):=
 .of_wp λb w A R s h=>by
  obtain⟨Y,g,d,i,os⟩:=s;obtain⟨f,h⟩:=h;have j:=sub_enumerate;have I:Heap.IsTuple (Shared.heap ⟨Y,g,d,i,os⟩) l xs:=f;obtain⟨o,O,U,m,a⟩:=id I;obtain⟨e,ov,k,n⟩:=o;simp only at U a;subst U a;simp only[J8,ug,i7,Lx]at h
  wp_walk using MK O
  refine wpAny_stack_any λst=>IH ?_;split
  ·rename_i c _ _ _ _ _
   cases (c==MI "enumerate")<;>(wp_walk using MK O,Pg I;exact⟨_,rfl,by simpa[Lx,OK]using h⟩)
  ·wp_walk using MK O,Pg I
   exact⟨_,rfl,by simpa[Lx,OK]using h⟩
noncomputable def S5(K:Iy)(a:dv):It:=
 ⟨λi H=>∃b,l9 .T K H a b/\i<b.length,
  λi H x d=>∃p u,x=.ref p/\H p=none/\d=upd H p (.tup [.int i,u])/\(∀b,l9 .T K H a b->b[i]? = cq u),
  λi H=>∃b,l9 .T K H a b/\b.length<=i⟩
theorem yn(hz:y6 s.heap z it n old)(h:Q (.ref z) s):wpAny (d9 prog w) A (SM (.ref z)) Q E s:=by have I:s.TypeIs (.ref z) "enumerate":=⟨_,hz,rfl⟩;refine wpAny_pyIter_slot I F.slot_enumerate_iter (Me F.slot_enumerate_iter I F.entry_enumerate_iter ?_ (F.args_enumerate_iter_1 _));have O:wpAny (d9 prog w) A.in1 (ret (.ref z)) (λO a=>∃v,O=.done (.ret v)/\∃T m,a.TypeIs v T/\N3 (.type T) "__next__" = pure (cq m)/\Q v a) E s:=IH ⟨_,rfl,"enumerate",_,I,Nz.lookup,h⟩;exact O
theorem dq{P:g8}{w:f7}{K:Iy}{elts:List ec}{x1:Nat}{tx:fh}{z it a:dv}(ae:z≠it):
 Turn P w K (.Tuple elts x1 tx) (S5 K a) [z,it] z (λi h=>(∃Y,y6 h z it i Y)/\i4 .T h it a i) where
 mem:=by simp
 obj:=λi h ⟨⟨Y,hz⟩,h1⟩ y hy=>by
  simp only[IM,IW,or_false]at hy;rcases hy with rfl|rfl
  ·exact⟨_,hz,λv q=>by cases q⟩
  ·exact h1.obj
 keep:=λi h h' ⟨⟨Y,hz⟩,h1⟩ k=>⟨⟨Y,k z ⋯ _ hz⟩,h1.at λo e=>k it ⋯ o e⟩
 item:=by
  rintro X hP hw hK hc i pins s σ H E I hf ⟨⟨Y,hz⟩,h1⟩ ⟨xs,a7,am⟩;subst hP hw hK;obtain⟨an,aa,p1,z1⟩:=I.sq a7;have hx:xs[i]? = cq xs[i]:=ID am;obtain⟨u1,as,ax⟩:=aa.get hx;have hT:s.TypeIs (.ref z) "enumerate":=⟨_,hz,rfl⟩;unfold A6;refine Iz (MV (LC (name:=Lw "__next__") hT Nz (Me Nz hT F.entry_enumerate_next
   (cD hz h1 p1 (x:=u1) (by simpa using as) ae λg a1 a2 a3 a4 a5=>IH ⟨_,rfl,?_⟩) (F.args_enumerate_next_1 _))))
  refine _i a1 λg2 TH ac=>?_;have lt:∀{c o},s.heap.get? c=cq o->s.heap.objs.size≠c:=λe=>MS<|IP e;have b4:m4 g2 s.heap.objs.size (.int i s.toks) u1:=ac.extBut _ _ (lt hz) a3;have kk:∀U u,U ∉ [z,it]->s.heap.get? U=cq u->g2.get? U=cq u:=λU u O e=>by simp only[IM,IW,or_false,not_or]at O;exact ac.extBut _ _ O.1<|a5 U u O.1 O.2 e
  have I1:Inv X pins σ (upd H s.heap.objs.size<|.tup [.int i,xs[i]]) {s with heap:=g2,toks:=s.toks+1}:=
   I.Ua (fp:=[z,it]) kk hf (II _) ⟨by show 2<=el;decide,[.int i s.toks,u1],.cons ⟨_,rfl⟩<|.cons ax .nil,⟨_,b4,rfl,_,rfl⟩⟩
  have b6:H s.heap.objs.size=none:=I.fresh;refine⟨.ref s.heap.objs.size,_,I1,rfl,⟨_,_,rfl,b6,rfl,λbg b7=>by rw[I.T4 b7 a7];exact hx⟩,?_,λU O=>?_⟩
  ·exact⟨⟨_,by have:=TH;rwa [show((i:Int)+1)=((i+1:Nat):Int)by omega]at this⟩,a2.at λo e=>ac.extBut _ _ ae.symm e⟩
  ·have b8:U≠s.heap.objs.size:=by
    simp only[IM,IW,or_false]at O;rcases O with rfl|rfl
    ·exact(lt hz).symm
    ·obtain⟨o,e,_⟩:=h1.obj;exact(lt e).symm
   rw[zK b8];exact(hf U O).1
 done:=by
  rintro X hP hw hK hc i pins s σ H E I hf ⟨⟨Y,hz⟩,h1⟩ ⟨xs,a7,hi⟩;subst hP hw hK;obtain⟨an,aa,p1,z1⟩:=I.sq a7;have hT:s.TypeIs (.ref z) "enumerate":=⟨_,hz,rfl⟩;have l1:=aa.length;unfold A6;refine Iz (MV (LC (name:=Lw "__next__") hT Nz (Me Nz hT F.entry_enumerate_next
   (gI (show X.A.handled=none from I.ok.hd hc) hz h1 p1 (by simp;omega) λg e hk he=>?_) (F.args_enumerate_next_1 _))))
  obtain⟨o,ho,be⟩:=he;refine Iz (PM (T:="StopIteration") (b:=da) ⟨o,ho,be⟩ RE (IH ⟨rfl,?_⟩));refine I.C7 (t':=s.toks) (fp:=[z,it]) (λU u O e=>?_) hf;simp only[IM,IW,or_false,not_or]at O;exact hk U u O.2 e
 self:=λ_ _ _ _ _ st h=>yn st.1.choose_spec h
noncomputable def FN(K:Iy)(z:TA):TI:=λf H R=>z f H λd b=>∃a,d=[.ref a]/\(∃e,l9 .T K b a e)/\R (S5 K a) b
theorem sM{X:Cx}{L:ec}{Z:TA}{p pos:fh}{z:List ec}{x1:Nat}{J:fh}(hg:Gl X "enumerate")(hm:X.mg "enumerate" = none)(ha:PA X [L] Z)
 (hv:Dd "enumerate" = cq (.type "enumerate")) (hs:eA [L] X.env=[(di,d8 L X.env)]:=by rfl):
 PI X (.Tuple z x1 J) (.Call (.Name "enumerate" p) [L] [] pos) (FN X.K Z):=by
 intro d s j H R I h;refine D8<|xX I hg hm hv<|LA (eK (ha pos d s j H _ I h) λC b u=>?_) (by rw[hs];rfl) rfl;obtain⟨E,f,O,x,w⟩:=u;obtain⟨a,e,⟨M,l⟩,q⟩:=w;subst e;obtain⟨G,r,m⟩:=yx x;subst r;cases m;obtain⟨n,A,Y,N⟩:=O.sq l;have B:=Y.lt;refine callType_new F.called_enumerate ⋯ (F.typeCall_enumerate_1 _) (F.newCall_enumerate_1 _) (λobj=>F.args_object_init_2 obj _) F.entry_enumerate_new (gH a n.toArray) ⟨Y,?_⟩;have keep:∀c o,b.heap.get? c=cq o->(J8 b.heap a).get? c=cq o:=λc o e=>IB _<|IB _ e;have y:(Lj b.heap<|i7 .T a).objs.size=b.heap.objs.size+1:=Lx ..;have t:i4 .T (J8 b.heap a) b.heap.objs.size a 0:=(JZ .T b.heap a).at λo e=>IB _ e;have U:y6 (J8 b.heap a) (b.heap.objs.size+1) b.heap.objs.size 0 .none:=by have q:=IS (Lj b.heap<|i7 .T a) (o:=ug b.heap.objs.size) rfl;rw[y]at q;exact q
 refine⟨⟨_,U,rfl⟩,yn (s:={b with heap:=J8 b.heap a}) U ?_⟩;have k:Inv X d j f {b with heap:=J8 b.heap a,toks:=b.toks}:=O.kept keep;refine⟨_,[b.heap.objs.size+1,b.heap.objs.size],_,_,f,rfl,k,dq<|MS<|Mv _,⟨⟨_,U⟩,t⟩,λc i=>?_,q⟩;have g:b.heap.objs.size<=c:=by
  simp only[IM,IW,or_false]at i;rcases i with rfl|rfl
  ·exact Ln _ _
  ·exact II _
 exact O.Di g<|O.ej.fresh g
end L2
namespace DL
open PySem PySem.Spec PyProof.Rows L2
theorem YX{K:Iy}{H:Hp}:∀{ds:List D} {xs:List V} {l:List Int},d5 K H ds xs->V4 ds=cq l->xs=l.map V.int
 |[],xs,l,r,e=>by cases e;rw[show xs=[]from r];rfl
 | d::ds,xs,l,r,e=>by
  obtain⟨x,g,rfl,I,b⟩:=(show ∃x r,xs=x::r/\Rep K H d x/\d5 K H ds r from r);cases d with
  |int i=>
   obtain⟨f,a,rfl⟩:=zH (show(V4 ds).map (λl=>i::l)=cq l from e);rw[YX b a,show x=.int i from I];rfl
  |_=>cases e
theorem Va:∀l:List Int,(l.map V.int).all Kx=da
 |[]=>rfl
 |i::l=>by simp only[Lk,Pk,Va l,Ru];rfl
theorem gk(i:Int):∀l:List Int,Sv (.int i) (l.map V.int)=decide (i∈l)
 |[]=>rfl
 | j::l=>by
  have I:=gk i l;unfold Sv at I ⊢;rw[Lk,Pj,I];have e:DD (.int j) (.int i)=(j==i):=rfl;rw[e];by_cases h:i=j
  ·subst h
   rw[beq_self_eq_true,Bool.true_or];exact(decide_eq_true La).symm
  ·rw[beq_false_of_ne (LD h),NV]
   exact decide_eq_decide.mpr ⟨λq=>Ld _ q,λq=>(IM.mp q).resolve_left h⟩
theorem de{K:Iy}{H0 z:Hp}{a:dv}{xs:List V}{ds:List D}(h:gR K z a xs)(r:d5 K H0 ds xs):Walk K H0 z (S5 K a) (xw ds):=by
 have o:=r.length;have t:(xw ds).length=ds.length:=by simp[xw]
 refine⟨λi b s m=>?_,λb s=>?_,λi b x g s m y=>?_⟩
 ·exact⟨xs,o4 s h,by omega⟩
 ·exact⟨xs,o4 s h,by omega⟩
 ·obtain⟨p,u,k,I,O,U⟩:=y
  obtain⟨d,l,Y⟩:=r.M0<|U xs<|o4 s h;refine⟨.tup [.int i,d],?_,λf n e=>⟨upd f p<|.tup [.int i,u],?_,?_⟩⟩
  ·have j:i<ds.length:=by omega
   unfold xw;rw[LO,OF j,IU,l];rfl
  ·rw[O];exact Ext.alloc e I _
  ·rw[k]
   exact xK (gR.of zM)<|d5.cons (show V.int i=.int i from rfl)<|d5.cons ((Y.mono n).mono (jC (jx e I) _)) d5.nil
section
variable{X:Cx}{sc:gB}{N L:List Str}{k:Nat}{a b c:ec}{pos p:fh}{f fa fb fc:CO D}
theorem eY(h:SX X sc N L k)(c:kU sc "enumerate" = da)(z:X.mg "enumerate" = none)(J:PV X a f)(hs:eA [a] X.env=[(di,d8 a X.env)]:=by rfl):
 i3 X (.Tuple elts x1 tx) (.Call (.Name "enumerate" p) [a] [] pos) (lz f):=
 Kc (sM (h.gl c).1 z (jm J qc hs) Uu hs) λo H R U=>by
  obtain⟨g,l,m,rc,I,q⟩:=U;obtain⟨d,Y,I⟩:=zg I;cases d with
  |tup n=>
   cases I;refine⟨g,l,_,rc,Y,λv e b x r=>?_⟩;obtain⟨i,j,rfl,O,g2⟩:=yY r;exact⟨i,rfl,⟨j,o4 x.sub O⟩,q _ e b x<|de O g2⟩
  |_=>cases I
theorem lE(ho:kr X (ri op) r)(J:kr X (ri P6) r')(s1:o9 X.K r F)(s2:o9 X.K r' G)(Z:PV X a fa)(hb:PV X b fb)(hc:PV X c fc)
 (hm:lastMarks [op,P6] [b,c]=di:=by with_unfolding_all rfl):PV X (.Compare a [op,P6] [b,c] pos) (dU F G fa fb fc):=
 qb (lX ho J Z hb hc hm) λσ H Q P=>by
  obtain⟨m,g,d,rc,I,q⟩:=P;obtain⟨x,B,I⟩:=zg I;obtain⟨y,C,I⟩:=zg I;obtain⟨k,E,I⟩:=zg I;obtain⟨Y,L,i⟩:=zg E;refine⟨m,g,x,rc,B,λv1 H1 t e R=>⟨t,g,y,rc.ext e,C,λl n u O j=>s1 u n v1 l x y Y _ O.sub (R.mono O.s0) j L λv3 o h f S=>?_⟩⟩;cases Y with
  | bl k'=>
   cases i;refine⟨k,show v3=.bl k from S,?_⟩;cases k with
   |true=>
    rw[UJ rfl];rw[UJ rfl]at I;obtain⟨z,M,N⟩:=zg I;exact⟨h,g,z,((rc.ext e).ext O).ext f,M,λv4 p w U T=>s2 w p l v4 y z d _ U.sub ((j.mono f.s0).mono U.s0) T N λv5 s A x5 W=>q v5 s A (((e.trans O).trans f).trans (U.trans x5)) W⟩
   |false=>
    rw[UY ⋯];rw[UY ⋯]at I;cases I;exact q _ o h ((e.trans O).trans f) rfl
  |_=>cases i
end
section
variable{K:Iy}{E0 E H0 H:Hp}{σ:St}{γ:Ctx}
theorem RS.forget(r:RS K E0 E H0 H σ γ):RS K E0 E H0 H (σ.set i v) (γ.set i .no):=by
 have Y:∀{j:Nat} {e:List D} {b:dv},(γ.set i .no)[j]? = cq (.own e)->γ[j]? = cq (.own e)/\(σ.set i v)[j]? = σ[j]? :=λ{j e b} g=>by
  rcases jd g with⟨_,z,_⟩|⟨f,z⟩
  ·cases z
  ·exact⟨z,IT<|LD f⟩
 have l:∀{j:Nat} {d:List (List D)},(γ.set i .no)[j]? = cq (.nest d)->γ[j]? = cq (.nest d)/\(σ.set i v)[j]? = σ[j]? :=λ{j d} g=>by
  rcases jd g with⟨_,z,_⟩|⟨f,z⟩
  ·cases z
  ·exact⟨z,IT<|LD f⟩
 refine⟨⟨r.rc.sub,by simp[r.rc.len],λj t g=>?_,λj e g=>?_,λj k b e fs m h p s=>?_,⟨λj d g=>?_,λj k y A U g2=>r.rc.C3.2 j k y A (l U).1 (l g2).1⟩⟩,r.ext,λj e b U g2=>?_,λj d b C U g2 g3=>?_⟩
 ·rcases jd g with⟨_,z,_⟩|⟨f,z⟩
  ·cases z
  ·obtain⟨B,U,g2⟩:=r.rc.val j t z
   exact⟨B,by rw[IT (LD f)];exact U,g2⟩
 ·obtain⟨I,O⟩:=Y (b:=0) g
  rw[O];exact r.rc.own j e I
 ·obtain⟨I,O⟩:=Y (b:=0) m
  obtain⟨n,o⟩:=Y (b:=0) h;rw[O]at p;rw[o]at s;exact r.rc.ne j k b e fs I n p s
 ·obtain⟨I,O⟩:=l g
  obtain⟨a,bs,u,w,x⟩:=r.rc.C3.1 j d I;refine⟨a,bs,by rw[O];exact u,w,λk e c m h=>?_⟩;obtain⟨n,o⟩:=Y (b:=0) m;rw[o]at h;exact x k e c n h
 ·obtain⟨I,O⟩:=Y (b:=0) U
  rw[O]at g2;exact r.fresh j e b I g2
 ·obtain⟨I,O⟩:=l U
  rw[O]at g2;exact r.DE j d b C I g2 g3
end
end DL
namespace L2
open PySem PySem.Spec PyProof.Rows
noncomputable def Fj(K:Iy):V->List V->Hp->VK->Prop:=λx d H Q=>∃I p b,x=.str I/\d=[.ref p]/\gv K H p (b.map V.str)/\Builtin.Str.tooLong (b.toArray.foldl (λa p=>a+p.length+I.length) 0)=di/\Q (.str<|RV I b) H
theorem K5:∀{I:List Str} {us:List dy},eL (I.map V.str) us->∃l:List (Str×qs),strValues l=us/\l.map (·.1)=I
 |[],us,r=>by cases r;exact⟨[],rfl,rfl⟩
 |z::I,u::us,.cons r t=>by obtain⟨a,rfl⟩:=r;obtain⟨l,rfl,h⟩:=K5 t;exact⟨(z,a)::l,rfl,by simp[h]⟩
theorem tm{X:Cx}:N9 X "str.join" (Fj X.K):=by intro a s y H x n v m Q I Y i h;obtain⟨O,p,w,rfl,rfl,d,U,q⟩:=h;obtain⟨t,rfl⟩:=Y;obtain⟨u,rfl,rw⟩:=yx i;cases rw;obtain⟨f,r,g,j⟩:=I.list d;obtain⟨l,rfl,e⟩:=K5 r;subst e;refine Nm F.slot_str_join (RY _ _ _) F.entry_str_join (F.args_str_join_2 _ _) (meets_str_join_list O t p l U) ⟨g.isList,post_join l ⟨joinFit_length U,λt' k=>?_⟩⟩;refine⟨.str (RV O (l.map (·.1))),H,(I.kept (h':=s.heap) (t':=k) λb o e=>e),⟨t',?_⟩,q⟩;show Ri (Builtin.Str.glued O (l.map (·.1))) t'=_;rw[StrLaws.glued_eq_join]
end L2
namespace DL
open PySem PySem.Spec PyProof.Rows L2
theorem Yk{K:Iy}{H:Hp}:∀{ds:List D} {xs:List V} {l:List Str},d5 K H ds xs->Vz ds=cq l->xs=l.map V.str
 |[],xs,l,r,e=>by cases e;rw[show xs=[]from r];rfl
 | d::ds,xs,l,r,e=>by
  obtain⟨x,g,rfl,I,b⟩:=(show ∃x r,xs=x::r/\Rep K H d x/\d5 K H ds r from r);cases d with
  |str i=>
   obtain⟨f,a,rfl⟩:=zH (show(Vz ds).map (λl=>i::l)=cq l from e);rw[Yk b a,show x=.str i from I];rfl
  |_=>cases e
section
variable{X:Cx}{sc:gB}{N L:List Str}{k:Nat}{o e a b:ec}{apos cpos pos p:fh}{f g:CO D}{q:CO (Sk×List D)}
theorem wq(h:jo x=da):x.length<=1000:=of_decide_eq_true h
theorem Zh(h:jo x=da):x.length<=el:=LG (wq h) ⋯
theorem eJ(Y:PV X o f)(he:PQ X e q)(z:L3 o "join" X.env (d8 o X.env)=d8 o X.env:=by rfl)
 (J:((ow cpos<|starEach [e] X.env).all (λx=> !x.1)&&(E9 cpos<|keywordEach [] X.env).all (λx=>x.1.isSome)&&decide ([e].length+([]:List t7).length+(if ([]:List t7).isEmpty then 0 else 1)<30))=da:=by rfl)
 (Z:(apos.endLine==cpos.line)=da:=by rfl) (hs:eA [e] X.env=[(di,d8 e X.env)]:=by rfl):PV X (.Call (.Attribute o "join" apos) [e] [] cpos) (rP f q):=
 qb (VL PySem.F.plainAttrs_str PySem.F.slot_str_join PySem.F.type_str_join tm Y (jm he qc hs) z J Z hs rfl) λW H Q A=>by
  obtain⟨h,g,d,rc,I,G⟩:=A;obtain⟨k,n,I⟩:=zg I;obtain⟨⟨E,m⟩,p,I⟩:=zg I;cases k with
  | str U=>
   cases E with
   | L=>
    obtain⟨l,s,I⟩:=zg I;by_cases O:l.length<=lim/\l.all jo=da/\jo U=da
    ·rw[UJ O]at I;cases I
     refine⟨h,g,_,rc,n,λv N b x r=>?_⟩;rw[show v=.str U from r];refine⟨rfl,b,g,.L,m,rc.ext x,p,λa S i j M u P K=>?_⟩;have t:=Yk K s;subst t;refine⟨U,a,l,rfl,rfl,u,StrLaws.joinFits (B:=1000) (λy C=>wq<|Mu.mp O.2.1 y C) ?_,G _ i j (x.trans M) rfl⟩;have R:=O.1;have:lim=2500:=rfl;have w:=wq O.2.2;have:l.length*U.length<=2500*1000:=Nat.mul_le_mul ⋯ w;omega
    ·rw[UY O]at I;cases I
   |T=>cases I
  |_=>cases I
theorem kX(J:PV X a f)(Y:PV X b g)(hs:Wk b:=by intro _ _;rfl):PV X (.Subscript a b pos) (qS f g):=
 qb (Bj Cb J Y hs) λF H Q A=>by
  obtain⟨m,l,d,rc,I,q⟩:=A;obtain⟨p,t,I⟩:=zg I;obtain⟨i,O,I⟩:=zg I;obtain⟨s,u,O⟩:=zg O;cases p with
  | str z=>
   by_cases U:jo z=da
   ·have I:(if jo z=da then (hH z.cps.toList.length i).bind λk=>z.cps.toList[k]?.map λc=>D.str ⟨#[c]⟩else none)=cq d:=I
    rw[UJ U]at I;obtain⟨j,w,I⟩:=zg I;obtain⟨c,y,rfl⟩:=zH I;refine⟨m,l,_,rc,t,λv C e x r=>⟨e,l,s,rc.ext x,u,λE n o B h=>?_⟩⟩;rw[jW O]at h;refine⟨z,i,c,r,jL h,Zh U,?_,q _ n o (x.trans B) rfl⟩;unfold DX;rw[gb w];exact y
   ·have I:(if jo z=da then (hH z.cps.toList.length i).bind λk=>z.cps.toList[k]?.map λc=>D.str ⟨#[c]⟩else none)=cq d:=I
    rw[UY U]at I;cases I
  |_=>cases I
theorem Zl(h:SX X sc N L k)(c:kU sc "len" = da)(z:X.mg "len" = none)(J:PV X e f)(hs:eA [e] X.env=[(di,d8 e X.env)]:=by rfl):PV X (.Call (.Name "len" p) [e] [] pos) (vJ f):=
 qb (vz Vj (h.gl c).1 z PySem.boot_len (jm J qc hs) ⋯ ⋯ hs rfl) λl H Q U=>by
  obtain⟨g,j,d,rc,I,q⟩:=U;obtain⟨Y,i,I⟩:=zg I;cases Y with
  | str z=>
   by_cases O:jo z=da
   ·have I:(if jo z=da then cq (D.int z.length)else none)=cq d:=I
    rw[UJ O]at I;cases I;refine⟨g,j,_,rc,i,λv b a x r=>⟨z,by rw[show v=.str z from r],Zh O,q _ b a x rfl⟩⟩
   ·have I:(if jo z=da then cq (D.int z.length)else none)=cq d:=I
    rw[UY O]at I;cases I
  |_=>cases I
end
section
variable{X:Cx}{sc:gB}{N L:List Str}{k:Nat}{b:ec}{f:CO D}
theorem eI(h:SX X sc N L k)(c:kU sc "min" = da)(z:X.mg "min" = none)(J:PV X a f)(Y:PV X b g)(hs:eA [a,b] X.env=[(di,d8 a X.env),(di,d8 b X.env)]:=by rfl)(O:eA [b] X.env=[(di,d8 b X.env)]:=by rfl):
 PV X (.Call (.Name "min" p) [a,b] [] pos) (dN f g):=
 qb (vz (hJ h.calm) (h.gl c).1 z PyProof.Rows.boot_min (jm J (jm Y qc O)<|by rw[hs,O]) ⋯ ⋯ (by rw[hs,O]) (by rw[O];rfl)) λG H Q B=>by obtain⟨o,n,d,rc,I,q⟩:=B;obtain⟨i,l,I⟩:=zg I;obtain⟨u,y,l⟩:=zg l;obtain⟨j,U,I⟩:=zH I;obtain⟨w,A,U⟩:=zg U;subst I;refine⟨o,n,u,rc,y,λv E e x r=>⟨e,n,w,rc.ext x,A,λF s t C m=>⟨i,j,?_,q _ s t (x.trans C) rfl⟩⟩⟩;rw[jW l]at r;rw[jW U]at m;rw[jL r,jL m]
end
end DL
namespace DL
open PySem PySem.Spec PySem.Calls PyProof.Rows PySem.W
noncomputable def Hh(C:dv)(dd:Option dv)(a0:dv):jn:=⟨.ref C,dd,.fields #[.ref a0,.none,.none,.none,.bool di,.none],#[]⟩
end DL
namespace DL
open PySem PySem.Spec PySem.Calls PyProof.Rows
noncomputable def QL(e d:dv)(h:eh):Prop:=∃o,h.get? e=cq o/\o.dict=cq d
noncomputable def nL(e:dv)(h:eh):Prop:=∃o a,h.get? e=cq o/\o.data=.fields a/\a[2]? = cq LV
inductive DS{α:Type}:m5 α->Prop
 |pure (a:α):DS (.pure a)
 |raise (e:dy):DS (.raise e)
 |A9 (w:String):DS (.unsupported w)
 |rule {t:String} {k:Unit->m5 α} (h:∀u,DS<|k u):DS (.rule t k)
 |at {p:fh} {k:Unit->m5 α} (h:∀u,DS<|k u):DS (.at p k)
 |load {a:dv} {p:Option dy} {k:jn->m5 α} (h:∀o,DS<|k o):DS (.load a p k)
 |update {a:dv} {p:Option dy} {f:jn->jn} {k:Unit->m5 α} (hf:∀o,(f o).dict=o.dict/\(o.isFreed=di->(f o).isFreed=di)/\∀vs,o.data=.fields vs->∃a',(f o).data=.fields a'/\a'[2]? = vs[2]?) (h:∀u,DS<|k u):DS (.update a p f k)
 |alloc {o:jn} {k:dv->m5 α} (h:∀a,DS<|k a):DS (.alloc o k)
 |register {a:dv} {k:Unit->m5 α}:DS (.register a k)
 |fresh {k:qs->m5 α} (h:∀a,DS<|k a):DS (.fresh k)
 |ask {k:Setting->m5 α} (h:∀a,DS<|k a):DS (.ask k)
 |stack {k:List (Code×fh)->m5 α} (h:∀a,DS<|k a):DS (.stack k)
 |handled {b:Bool} {k:Option dy->m5 α} (h:∀a,DS<|k a):DS (.handled b k)
 |point {l:List dy} {k:Unit->m5 α} (h:∀a,DS<|k a):DS (.point l k)
theorem EO{z:Type}{M:DW}{Γ:PySem.Ctx}{e d:dv}{t:m5 z}(h:DS t):∀{Q:z->fh->d6->Prop} {E:dy->fh->d6->Prop} {p:fh} {s:d6},QL e d s.heap->MX M Γ t Q E p s->
 MX M Γ t (λa p' s'=>Q a p' s'/\QL e d s'.heap) (λx p' s'=>E x p' s'/\QL e d s'.heap) p s:=by
 induction h with
 |pure a=>intro Q E p s b w;rw[MX]at w ⊢;exact⟨w,b⟩
 |raise x=>intro Q E p s b w;rw[MX]at w ⊢;exact⟨w,b⟩
 |A9 x=>intro Q E p s b w;rw[MX]at w;exact w.elim
 |rule h I=>intro Q E p s b w;rw[MX]at w ⊢;exact I _ b w
 |«at» h I=>intro Q E p s b w;rw[MX]at w ⊢;exact I _ b w
 |load h I=>intro Q E p s b w;rw[MX]at w ⊢;obtain⟨o,O,w⟩:=w;exact⟨o,O,I _ b w⟩
 | @update a p f k g h I=>
  intro Q E p s b w;rw[MX]at w ⊢;obtain⟨i,w⟩:=w;refine⟨i,I _ ?_ w⟩;obtain⟨o,O,U⟩:=b;by_cases q:a=e
  ·subst q
   exact⟨f o,Mj _ O<|(g o).2.1 (Heap.get?_some_iff.mp O).2,by rw[(g o).1];exact U⟩
  ·exact⟨o,(Le _ _ q).trans O,U⟩
 |alloc h I=>intro Q E p s b w;rw[MX]at w ⊢;obtain⟨o,O,U⟩:=b;exact I _ ⟨o,IB _ O,U⟩ w
 |register=>intro Q E p s b w;rw[MX]at w;exact w.elim
 |fresh h I=>intro Q E p s b w;rw[MX]at w ⊢;exact I _ b w
 |ask h I=>intro Q E p s b w;rw[MX]at w ⊢;exact I _ b w
 |stack h I=>intro Q E p s b w;rw[MX]at w ⊢;exact I _ b w
 |handled h I=>intro Q E p s b w;rw[MX]at w ⊢;exact I _ b w
 |point h I=>intro Q E p s b w;rw[MX]at w ⊢;exact I _ b w
theorem uV{z:Type}{M:DW}{Γ:PySem.Ctx}{e:dv}{t:m5 z}(h:DS t):∀{Q:z->fh->d6->Prop} {E:dy->fh->d6->Prop} {p:fh} {s:d6},nL e s.heap->MX M Γ t Q E p s->
 MX M Γ t (λa p' s'=>Q a p' s'/\nL e s'.heap) (λx p' s'=>E x p' s'/\nL e s'.heap) p s:=by
 induction h with
 |pure a=>intro Q E p s b w;rw[MX]at w ⊢;exact⟨w,b⟩
 |raise x=>intro Q E p s b w;rw[MX]at w ⊢;exact⟨w,b⟩
 |A9 x=>intro Q E p s b w;rw[MX]at w;exact w.elim
 |rule h I=>intro Q E p s b w;rw[MX]at w ⊢;exact I _ b w
 |«at» h I=>intro Q E p s b w;rw[MX]at w ⊢;exact I _ b w
 |load h I=>intro Q E p s b w;rw[MX]at w ⊢;obtain⟨o,O,w⟩:=w;exact⟨o,O,I _ b w⟩
 | @update a p f k j h I=>
  intro Q E p s b w;rw[MX]at w ⊢;obtain⟨l,w⟩:=w;refine⟨l,I _ ?_ w⟩;obtain⟨o,d,O,U,i⟩:=b;by_cases q:a=e
  ·subst q
   obtain⟨g,Y,m⟩:=(j o).2.2 d U;exact⟨f o,g,Mj _ O<|(j o).2.1 (Heap.get?_some_iff.mp O).2,Y,m.trans i⟩
  ·exact⟨o,d,(Le _ _ q).trans O,U,i⟩
 |alloc h I=>intro Q E p s b w;rw[MX]at w ⊢;obtain⟨o,d,O,U⟩:=b;exact I _ ⟨o,d,IB _ O,U⟩ w
 |register=>intro Q E p s b w;rw[MX]at w;exact w.elim
 |fresh h I=>intro Q E p s b w;rw[MX]at w ⊢;exact I _ b w
 |ask h I=>intro Q E p s b w;rw[MX]at w ⊢;exact I _ b w
 |stack h I=>intro Q E p s b w;rw[MX]at w ⊢;exact I _ b w
 |handled h I=>intro Q E p s b w;rw[MX]at w ⊢;exact I _ b w
 |point h I=>intro Q E p s b w;rw[MX]at w ⊢;exact I _ b w
theorem iM{z:Type}{M:DW}{A:i5}{e d:dv}{t:m5 z}{Q:z->d6->Prop}{E:EQ}{s:d6}(h:DS t)(J:QL e d s.heap)(w:wpAny M A t Q E s):
 wpAny M A t (λa s'=>Q a s'/\QL e d s'.heap) (λx s'=>E x s'/\QL e d s'.heap) s:=λΓ p I=>EO h J<|w Γ p I
theorem K4{z:Type}{M:DW}{A:i5}{e:dv}{t:m5 z}{Q:z->d6->Prop}{E:EQ}{s:d6}(h:DS t)(J:nL e s.heap)(w:wpAny M A t Q E s):
 wpAny M A t (λa s'=>Q a s'/\nL e s'.heap) (λx s'=>E x s'/\nL e s'.heap) s:=λΓ p I=>uV h J<|w Γ p I
theorem DS.bind{z β:Type}{t:m5 z}{k:z->m5 β}(h:DS t)(O:∀a,DS<|k a):DS (t >>= k):=by
 show DS (Sem.bind t k)
 induction h with
 |pure a=>exact O a
 |raise x=>exact .raise x
 |A9 x=>exact .A9 x
 |rule h I=>exact .rule I
 |«at» h I=>exact .at I
 |load h I=>exact .load I
 |update b h I=>exact .update b I
 |alloc h I=>exact .alloc I
 |register=>exact .register
 |fresh h I=>exact .fresh I
 |ask h I=>exact .ask I
 |stack h I=>exact .stack I
 |handled h I=>exact .handled I
 |point h I=>exact .point I
theorem JS(g:Array dy->Array dy)(I:∀vs,(g vs)[2]? = vs[2]?)(o:jn):(Obj.mapFields g o).dict=o.dict/\(o.isFreed=di->(Obj.mapFields g o).isFreed=di)/\∀vs,o.data=.fields vs->∃z,(Obj.mapFields g o).data=.fields z/\z[2]? = vs[2]? :=by obtain⟨c,d,O,a⟩:=o;cases O<;>first|exact⟨rfl,λh=>h,λvs q=>by cases q;exact⟨_,rfl,I _⟩⟩|exact⟨rfl,λh=>h,λvs q=>nomatch q⟩
theorem Jk(v:dy)(i:Nat):DS (field v i):=by
 unfold field fieldsOf load
 repeat (first|exact DS.A9 _|exact DS.pure _|exact DS.raise _|exact DS.register|refine DS.bind ?_ λ_=>?_|refine DS.load λ_=>?_|refine DS.rule λ_=>?_|refine DS.alloc λ_=>?_|refine DS.stack λ_=>?_|refine DS.update (λo=>⟨rfl,λh=>h,λa q=>⟨a,q,rfl⟩⟩) λ_=>?_|refine DS.update (JS _<|by intro a;simp[MN,TF]) λ_=>?_|split)
theorem v7(v:dy)(i:Nat)(x:dy)(I:i≠2:=by decide):DS (R0 v i x):=by
 unfold R0 updateField update load
 repeat (first|exact DS.A9 _|exact DS.pure _|exact DS.raise _|exact DS.register|refine DS.bind ?_ λ_=>?_|refine DS.load λ_=>?_|refine DS.rule λ_=>?_|refine DS.alloc λ_=>?_|refine DS.stack λ_=>?_|refine DS.update (λo=>⟨rfl,λh=>h,λa q=>⟨a,q,rfl⟩⟩) λ_=>?_|refine DS.update (JS _<|by intro a;simp[MN,I]) λ_=>?_|split)
theorem vh(e:dy)(f:Option dv):DS (SQ e f):=by
 unfold SQ;refine DS.bind (Jk _ _) λ_=>?_;split
 ·exact v7 _ _ _
 ·exact DS.pure _
theorem Cs(ty:String)(vs:List dy):DS (newFields ty vs):=by
 unfold newFields newObj newObjAsIs
 repeat (first|exact DS.A9 _|exact DS.pure _|exact DS.raise _|exact DS.register|refine DS.bind ?_ λ_=>?_|refine DS.load λ_=>?_|refine DS.rule λ_=>?_|refine DS.alloc λ_=>?_|refine DS.stack λ_=>?_|refine DS.update (λo=>⟨rfl,λh=>h,λvs q=>⟨vs,q,rfl⟩⟩) λ_=>?_|refine DS.update (JS _<|by intro vs;simp[MN,TF]) λ_=>?_|split)
theorem mZ(f:dv)(b:Bool):DS (Uy f b):=by
 unfold Uy stack
 repeat (first|exact DS.A9 _|exact DS.pure _|exact DS.raise _|exact DS.register|refine DS.bind ?_ λ_=>?_|refine DS.load λ_=>?_|refine DS.rule λ_=>?_|refine DS.alloc λ_=>?_|refine DS.stack λ_=>?_|refine DS.update (λo=>⟨rfl,λh=>h,λa q=>⟨a,q,rfl⟩⟩) λ_=>?_|refine DS.update (JS _<|by intro a;simp[MN,TF]) λ_=>?_|split)
theorem gM:DS _b:=by
 unfold _b
 repeat (first|exact DS.A9 _|exact DS.pure _|exact DS.raise _|exact DS.register|refine DS.bind ?_ λ_=>?_|refine DS.load λ_=>?_|refine DS.rule λ_=>?_|refine DS.alloc λ_=>?_|refine DS.stack λ_=>?_|refine DS.update (λo=>⟨rfl,λh=>h,λa q=>⟨a,q,rfl⟩⟩) λ_=>?_|refine DS.update (JS _<|by intro a;simp[MN,TF]) λ_=>?_|split)
theorem gN(env:lp)(outer:List lp):DS (behindIsImport env outer):=by
 unfold behindIsImport;split
 ·exact DS.pure _
 ·split
  ·exact DS.pure _
  ·exact DS.bind (Jk _ _) λ_=>DS.pure _
theorem ui(env:lp)(b:Bool)(outer:List lp):DS (keptBack env b outer):=by
 unfold keptBack;split
 ·split
  ·exact DS.pure _
  ·exact DS.bind gM λ_=>DS.pure _
 ·exact DS.pure _
theorem aB:∀l:List lp,DS (readyFrames l)
 |[]=>DS.pure _
 | env::outer=>by
  unfold readyFrames;split
  ·unfold load update
   refine DS.bind (DS.load λ_=>DS.pure _) λo=>?_;split
   ·exact DS.pure _
   ·refine DS.bind (gN _ _) λ_=>DS.bind (ui _ _ _) λ_=>DS.bind (DS.update (λo=>⟨rfl,λh=>by obtain⟨c,d,I,a⟩:=o;cases I<;>exact h,λb q=>⟨b,by obtain⟨c,d,I,a⟩:=o;cases q;rfl,rfl⟩⟩) λ_=>DS.pure _) λ_=>aB outer
  ·exact DS.A9 _
theorem nc(env:lp):DS (PySem.frameOf env):=by
 unfold PySem.frameOf frameEnvs stack;refine DS.bind (DS.bind (DS.stack λ_=>DS.pure _) λ_=>DS.pure _) λl=>DS.bind ?_ λ_=>?_
 ·unfold frameObject
  split
  ·exact DS.pure _
  ·exact DS.bind (aB _) λ_=>DS.pure _
 ·split
  ·exact DS.pure _
  ·exact DS.A9 _
theorem gL(e:dy)(env:lp):DS (SG e env):=by
 unfold SG;split
 ·refine DS.bind (Jk _ _) λa=>?_
  have I:∀f:dv,∀b:Bool,DS (do R0 e 1 (<-EntryCells.newEntry a (<-PySem.frameOf env) .none (Dl f) .none (<-Uy f b))):=λf b=>by refine DS.bind (nc _) λ_=>DS.bind (mZ _ _) λ_=>?_;unfold EntryCells.newEntry;exact DS.bind (Cs _ _) λ_=>v7 _ _ _
  split
  ·refine DS.bind (Jk _ _) λ_=>?_
   split
   ·exact DS.pure _
   ·exact DS.bind (v7 _ _ _) λ_=>I _ _
  ·exact I _ _
 ·exact DS.A9 _
theorem ZD(env:lp)(e:dy):DS (F8 env e):=by unfold F8;exact DS.bind (gL _ _) λ_=>vh _ _
noncomputable def o7(od:Option dv)(e:dv)(h:eh):Prop:=(∀d,od=cq d->QL e d h)/\(od=none->nL e h)
theorem o7.obj{od:Option dv}{e:dv}{I g2:eh}(x:o7 od e I)(k:∀o,I.get? e=cq o->g2.get? e=cq o):o7 od e g2:=
 ⟨λd q=>by obtain⟨o,z,r⟩:=x.1 d q;exact⟨o,k o z,r⟩,λq=>by obtain⟨o,a,z,r⟩:=x.2 q;exact⟨o,a,k o z,r⟩⟩
theorem yX{J:Type}{M:DW}{A:i5}{e:dv}{od:Option dv}{t:m5 J}{Q:J->d6->Prop}{E:EQ}{s:d6}(h:DS t)(I:o7 od e s.heap)(w:wpAny M A t Q E s):
 wpAny M A t (λa s'=>Q a s'/\o7 od e s'.heap) E s:=by
 cases od with
 |none=>exact Lq (K4 h (I.2 rfl) w) (λa s' z=>⟨z.1,(λd q=>nomatch q),λ_=>z.2⟩) λ_ _ z=>z.1
 |some d=>exact Lq (iM h (I.1 d rfl) w) (λa s' z=>⟨z.1,(λb q=>by cases q;exact z.2),λq=>nomatch q⟩) λ_ _ z=>z.1
section
variable{M:DW}{A:i5}{E:EQ}{s:d6}{base:eh}{env:lp}{l outer:List lp}{L e:dv}{cls a0:dy}{od:Option dv}{Q:Unit->d6->Prop}
theorem BL(I:A.frames=cq (env::outer))(Y:env.frame=cq L)(O:MZ base (env::outer) e cls a0 s.heap)(J:o7 od e s.heap)
 (U:∀h',Heap.HeldW base (env::outer) e cls a0 L h'->s.heap.UpToSlots h'->o7 od e h'->Q () {s with heap:=h'}):wpAny M A (SG (.ref e) env) Q E s:=by
 refine Lq (yX (gL _ _) J<|wpAny_looks_onW (Q:=λ_ a=>∃h',a = {s with heap:=h'}/\Heap.HeldW base (env::outer) e cls a0 L h'/\s.heap.UpToSlots h') I Y O λh' x y=>⟨h',rfl,x,y⟩) (λ_ a z=>?_) λ_ _ z=>z;obtain⟨⟨h',rfl,x,y⟩,w⟩:=z;exact U h' x y w
theorem BO(I:Heap.HeldW base l e cls a0 L s.heap)(J:o7 od e s.heap)(O:∀h',MZ base l e cls a0 h'->s.heap.UpToSlots h'->o7 od e h'->Q () {s with heap:=h'}):wpAny M A (SQ (.ref e) none) Q E s:=by refine Lq (yX (vh _ _) J<|wpAny_landsW (Q:=λ_ a=>∃h',a = {s with heap:=h'}/\MZ base l e cls a0 h'/\s.heap.UpToSlots h') I λh' x y=>⟨h',rfl,x,y⟩) (λ_ a z=>?_) λ_ _ z=>z;obtain⟨⟨h',rfl,x,y⟩,w⟩:=z;exact O h' x y w
theorem CU(I:MZ base l e cls a0 s.heap)(J:o7 od e s.heap)(O:∀h',MZ base l e cls a0 h'->s.heap.UpToSlots h'->o7 od e h'->Q () {s with heap:=h'}):wpAny M A (SQ (.ref e) none) Q E s:=by refine Lq (yX (vh _ _) J<|lands_againW (Q:=λ_ a=>∃h',a = {s with heap:=h'}/\MZ base l e cls a0 h'/\s.heap.UpToSlots h') I λh' x y=>⟨h',rfl,x,y⟩) (λ_ a z=>?_) λ_ _ z=>z;obtain⟨⟨h',rfl,x,y⟩,w⟩:=z;exact O h' x y w
theorem tG(I:A.frames=cq (env::outer))(Y:env.frame=cq L)(O:MZ base (env::outer) e cls a0 s.heap)(J:o7 od e s.heap)
 (U:∀h',MZ base outer e cls a0 h'->s.heap.UpToSlots h'->o7 od e h'->Q () {s with heap:=h'}):wpAny M A (F8 env<|.ref e) Q E s:=by
 refine Lq (yX (ZD _ _) J<|wpAny_leaves_onW (Q:=λ_ a=>∃h',a = {s with heap:=h'}/\MZ base outer e cls a0 h'/\s.heap.UpToSlots h') I Y O λh' x y=>⟨h',rfl,x,y⟩) (λ_ a z=>?_) λ_ _ z=>z;obtain⟨⟨h',rfl,x,y⟩,w⟩:=z;exact U h' x y w
theorem Co{I:jn}{vs:Array dy}(O:A.frames=cq (env::outer))(U:s.heap.FunFrames base (env::outer))(hf:env.frame=cq L)(Y:s.heap.get? e=cq I)(J:base.StaysIn s.heap)(Z:base.get? e=none)(a3:I.data=.fields vs)
 (h1:vs[1]? = cq .none) (h0:vs[0]? = cq a0) (hd:o7 od e s.heap) (hQ:∀h',Heap.LeftW base (env::outer) e I.cls a0 s.heap h'->o7 od e h'->Q () {s with heap:=h'}):wpAny M A (F8 env<|.ref e) Q E s:=by
 refine Lq (yX (ZD _ _) hd<|wpAny_leaving_firstW (Q:=λ_ a=>∃h',a = {s with heap:=h'}/\Heap.LeftW base (env::outer) e I.cls a0 s.heap h') O U hf Y J Z a3 h1 h0 λh' x=>⟨h',rfl,x⟩) (λ_ a z=>?_) λ_ _ z=>z;obtain⟨⟨h',rfl,x⟩,w⟩:=z;exact hQ h' x w
end
end DL
namespace DL
open PySem PySem.Spec PyProof.Rows L2
theorem wG{P:g8}{w:f7}{H:Hp}{h:eh}{a:dv}{o:HO}(x:j1 P w H h a o):∃I,h.get? a=cq I:=by
 induction o with
 |lst d=>obtain⟨_,_,_,_,e⟩:=x;exact⟨_,e⟩
 |tup d=>obtain⟨_,_,_,I,e,_⟩:=x;exact⟨_,e⟩
 |dK b=>obtain⟨_,_,_,_,o,_,_,e,_⟩:=x;exact⟨_,e⟩
 |dT b=>obtain⟨_,_,_,_,o,_,_,e,_⟩:=x;exact⟨_,e⟩
 |set S n=>obtain⟨o,_,_,_,e,_⟩:=x;exact⟨_,e⟩
 |ins C g fs=>obtain⟨_,_,_,e,_⟩:=x;exact⟨_,e⟩
 |own y=>obtain⟨_,e⟩:=x;exact⟨_,e⟩
 |xd fs=>obtain⟨_,⟨_,_,_,e,_⟩,_⟩:=x;exact⟨_,e⟩
 |m9 lo i=>obtain⟨_,_,_,e⟩:=x;exact⟨_,e⟩
 |p8 I u _=>obtain⟨e,_⟩:=x;exact⟨_,e⟩
 |D4 j=>exact⟨_,(show h.get? a=cq _ from x)⟩
 |met f y=>exact⟨_,(show h.get? a=cq _ from x)⟩
 |ext k=>obtain⟨_,⟨_,e⟩,_⟩:=x;exact⟨_,e⟩
theorem yH{P:g8}{w:f7}{H:Hp}{h h':eh}(x:kA P w H h)(k:∀b u,H b≠none->h.get? b=cq u->h'.get? b=cq u):kA P w H h':=λa o e=>
 (x a o e).A8 (λb u I q=>k b u (by
   rcases I with rfl|I
   ·rw[e];simp
   ·rw[I];simp) q) (λ_ q=>q) λ_ _ q=>q
theorem tW{P:g8}{w:f7}{H:Hp}{h:eh}{a:dv}{z:eh->Prop}(x:kA P w H h)(J:H a=none)(L:z h)(Y:∃o,h.get? a=cq o)
 (U:∀I g2:eh,z I->(∀o,I.get? a=cq o->g2.get? a=cq o)->z g2):kA P w (upd H a<|.ext z) h:=λb o e=>by
 by_cases O:b=a
 ·subst O;rw[zM]at e;cases e;exact⟨L,Y,U⟩
 ·rw[zK O]at e
  exact(x b o e).A8 (λ_ _ _ q=>q) (λc q=>by rw[zK (ju q J)];exact q) λc d q=>by rw[zK (ju q J)];exact q
structure f_(l:List lp)(a C:dv)(H':Hp)(h0 h:eh):Prop where
 ex:∃B t,MZ B l a (.ref C) (.ref t) h/\(∀b o,h.get? b=cq o->H' b≠none->B.get? b=cq o)/\∀b o,h.get? b=cq o->h0.get? b≠none->b∉m7 l->B.get? b=cq o
noncomputable def o5(P:g8)(w:f7):wh:=λb H s E e d=>∃a C f g,e=.ref a/\E (.ref C) g f/\o7 g a d.heap/\d.os=s.os/\Dn d.gens/\Un (m7 b) [] H f s.heap d.heap/\kA P w f d.heap/\f a=none/\s.heap.get? a=none/\f_ b a C f s.heap d.heap
section
variable{P:g8}{w:f7}{K:Iy}{mg:UZ}{base:eh}{N:List Str}{qual:Str}{scope:gB}{f:dv}{cd:dy}{A:i5}{outer:List lp}{s:d6}{H:Hp}{E:XK}
theorem bW{Z:UQ}{σ:St}{L:Hp}{J:d6}{h':eh}{a C:dv}{vs:List dy}(I:Inv (Vg (o5 P w) P w K mg base N qual scope f cd A outer s H E) Z σ L J)
 (hx:Heap.MadeExcOf J.heap h' a (.ref C) vs) (hE:E (.ref C) none L):(Vg (o5 P w) P w K mg base N qual scope f cd A outer s H E).xe (.ref a) {J with heap:=h'}:=by
 generalize U:Vg (o5 P w) P w K mg base N qual scope f cd A outer s H E=X at I;have F:X.stack=X.env::X.outer:=by rw[<-U];rfl
 have an:X.env.frame=cq X.env.locals:=by rw[<-U];rfl
 have k:X.ex=[]:=by rw[<-U];rfl
 have ap:=I.stack;have DQ:=I.M9;have as:∀env∈X.stack,∀b,env.frame=cq b->b∈m7 X.stack:=λenv he b O=>OP.mpr ⟨env,he,O⟩;have r:∀b o,X.h7.heap.get? b=cq o->∃i,J.heap.get? b=cq i:=λb o q=>I.base.there b o q (by rw[k];simp);have b0:∀b o,X.h7.heap.get? b=cq o->b≠X.env.locals:=λb o q=>IX<|IV (IP q) I.ok.above;have a6:∀b o,X.h7.heap.get? b=cq o->b∉X.fs->b∉m7 X.stack:=λb o q n j=>by
  rcases IM.mp (I.NN b j)with z|z
  ·exact b0 b o q z
  ·exact n z
 have M:wpAny (d9 P w) X.A (F8 X.env<|.ref a) (λ_ Y=>o5 P w outer H s E (.ref a) Y) (λx Y=>o5 P w outer H s E x Y) {J with heap:=h'}:=by
  have f2:nL a h':=by obtain⟨t,q,_⟩:=hx.there;exact⟨_,_,q,rfl,rfl⟩
  refine Lq (K4 (e:=a) (s:={J with heap:=h'}) (ZD X.env<|.ref a) f2 (Q:=λ_ Y=>nL a Y.heap->o5 P w outer H s E (.ref a) Y) (E:=λx Y=>o5 P w outer H s E x Y) ?_) (λ_ _ z=>z.1 z.2) λ_ _ z=>z.1;refine wpAny_leaves_madeW (base:=Ot J.heap<|m7 X.stack) (h:=J.heap) (env:=X.env) (outer:=X.outer) (by rw[<-F];exact I.ok.frames) an (λb o q=>PU _ q)
   (by rw[<-F];exact PySem.W.funFrames_hide ap as) hx λb2 t T x2 x3 x4 b3=>?_
  have g:∀b o,J.heap.get? b=cq o->b∉m7 X.stack->b2.get? b=cq o:=λb o q n=>T.1 b o<|NB _ q n;have e1:X.outer=outer:=by rw[<-U];rfl
  have e2:X.DU=H:=by rw[<-U];rfl
  have e3:X.h7=s:=by rw[<-U];rfl
  have e4:X.prog=P:=by rw[<-U];rfl
  have e5:X.w=w:=by rw[<-U];rfl
  have S:∀b u,L b=cq u->∃o,J.heap.get? b=cq o:=λb u q=>wG<|I.ej b u q;have ae:∀b u,L b=cq u->b∉m7 X.stack:=λb u q j=>by rw[DQ b j]at q;cases q
  have b8:L a=none:=by
   cases q:L a with
   |none=>rfl
   |some u=>obtain⟨o,z⟩:=S a u q;rw[hx.new]at z;cases z
  have b9:X.h7.heap.get? a=none:=by
   cases q:X.h7.heap.get? a with
   |none=>rfl
   |some o=>obtain⟨i,z⟩:=r a o q;rw[hx.new]at z;cases z
  rw[<-e3]at *;rw[<-e2]at *;subst e1;refine⟨a,C,L,none,rfl,hE,⟨(λd q=>nomatch q),λ_=>b3⟩,?_,I.bare,⟨λb o q n O _=>?_,λb o q n O _=>?_,λb o q n _=>?_,λb o q _=>?_,I.base.u6,I.base.vr,I.base.u5⟩,?_,b8,b9,⟨_,t,T,λb o q n=>?_,λb o q n O=>?_⟩⟩
  ·exact I.os
  ·exact g b o (I.base.keep b o q n O<|by rw[k];simp)<|a6 b o q O
  ·obtain⟨sl,z⟩:=I.base.slot b o q n O (by rw[k];simp)
   have l:∀vs,o.data ≠ .fields vs:=by obtain⟨_,i,p,B⟩:=I.ok.p4.mem O;rw[q]at p;cases p;exact B
   obtain⟨G,y⟩:=x4 b _ (hx.keeps b _ z) l;exact⟨G,y⟩
  ·exact I.base.free b o q n (by rw[k];simp)
  ·obtain⟨i,z⟩:=r b o q
   by_cases O:b∈X.fs
   ·obtain⟨_,m,p,B⟩:=I.p4.mem O
    obtain⟨G,y⟩:=x4 b _ (hx.keeps b _ p) B;exact⟨_,y⟩
   ·exact⟨i,g b i z<|a6 b o q O⟩
  ·rw[<-e4,<-e5]
   exact yH I.ej λb u n q=>g b u q λj=>n<|DQ b j
  ·cases q1:L b with
   |none=>exact absurd q1 n
   |some u=>
    obtain⟨m,z⟩:=S b u q1;have:=g b m z<|ae b u q1;rw[q]at this;cases this;exact NB _ z<|ae b u q1
  ·cases q1:X.h7.heap.get? b with
   |none=>exact absurd q1 n
   |some R=>
    obtain⟨m,z⟩:=r b R q1;have l:=a6 b R q1 O;have:=g b m z l;rw[q]at this;cases this;exact NB _ z l
 rw[<-U]at M ⊢;exact M
theorem V0{J:UQ}{σ:St}{Z:Hp}{L s':d6}{e:dy}{E':XK}(I:Inv (Vg (o5 P w) P w K mg base N qual scope f cd A outer s H E) J σ Z L)
 (hx:o5 P w (Vg (o5 P w) P w K mg base N qual scope f cd A outer s H E).stack Z L E' e s') (hE:∀c o H',E' c o H'->E c o H'):(Vg (o5 P w) P w K mg base N qual scope f cd A outer s H E).xe e s':=by
 generalize hX:Vg (o5 P w) P w K mg base N qual scope f cd A outer s H E=X at I hx;have x:X.stack=X.env::X.outer:=by rw[<-hX];rfl
 have as:X.env.frame=cq X.env.locals:=by rw[<-hX];rfl
 have Y:X.ex=[]:=by rw[<-hX];rfl
 have DQ:=I.M9;have i:∀b o,X.h7.heap.get? b=cq o->∃k,L.heap.get? b=cq k:=λb o q=>I.base.there b o q (by rw[Y];simp);have T:∀b o,X.h7.heap.get? b=cq o->b≠X.env.locals:=λb o q=>IX<|IV (IP q) I.ok.above;have a6:∀b o,X.h7.heap.get? b=cq o->b∉X.fs->b∉m7 X.stack:=λb o q n hm=>by
  rcases IM.mp (I.NN b hm)with z|z
  ·exact T b o q z
  ·exact n z
 obtain⟨a,C,H',od,rfl,hC,W,b2,b3,un,ej,b4,b5,⟨B,t,y,ak,a9⟩⟩:=hx;have F:wpAny (d9 P w) X.A (F8 X.env<|.ref a) (λ_ p=>o5 P w outer H s E (.ref a) p) (λe' p=>o5 P w outer H s E e' p) s':=by
  rw[x]at y;refine tG (by rw[<-x];exact I.ok.frames) as y W λb7 M Q b8=>?_;have st:∀b o,B.get? b=cq o->b7.get? b=cq o:=λb o q=>M.1 b o q;have e1:X.outer=outer:=by rw[<-hX];rfl
  have e2:X.DU=H:=by rw[<-hX];rfl
  have e3:X.h7=s:=by rw[<-hX];rfl
  have tr:∀b u,H' b=cq u->∃o,s'.heap.get? b=cq o:=λb u q=>wG<|ej b u q;have be:X.h7.heap.get? a=none:=by
   cases q:X.h7.heap.get? a with
   |none=>rfl
   |some o=>obtain⟨k,z⟩:=i a o q;rw[b5]at z;cases z
  rw[<-e3]at *;rw[<-e2]at *;subst e1;refine⟨a,C,H',od,rfl,hE _ _ _ hC,b8,?_,b3,⟨λb o q n O _=>?_,λb o q n O _=>?_,λb o q n _=>?_,λb o q _=>?_,λb R q=>un.u6 b R<|I.base.u6 b R q,λb o u q=>un.vr b o u<|I.base.vr b o u q,λb ps q=>?_⟩,?_,b4,be,⟨B,t,M,λb o q n=>?_,λb o q n O=>?_⟩⟩
  ·exact b2.trans I.os
  ·have j:=I.base.keep b o q n O (by rw[Y];simp)
   have k2:=un.keep b o j (I.base.free b o q n<|by rw[Y];simp) (a6 b o q O) ⋯;exact st b o<|a9 b o k2 (by rw[j];simp)<|a6 b o q O
  ·obtain⟨sl,z⟩:=I.base.slot b o q n O (by rw[Y];simp)
   have r:∀vs,o.data ≠ .fields vs:=by obtain⟨_,k,l,U⟩:=I.ok.p4.mem O;rw[q]at l;cases l;exact U
   obtain⟨bf,U⟩:=un.any z (I.base.free b o q n<|by rw[Y];simp) ⋯;obtain⟨bg,z'⟩:=Q b _ U r;exact⟨bg,z'⟩
  ·obtain⟨d,j⟩:=i b o q
   exact un.free b d j (I.base.free b o q n<|by rw[Y];simp) ⋯
  ·obtain⟨d,z⟩:=i b o q
   obtain⟨h,U⟩:=un.there b d z ⋯;by_cases O:b∈X.fs
   ·obtain⟨_,k,S,y2⟩:=I.ok.p4.mem O
    rw[q]at S;cases S;obtain⟨sl,g⟩:=I.base.any q (I.ok.C0 b O) (by rw[Y];simp);obtain⟨bf,m⟩:=un.any g (I.base.free b o q (I.ok.C0 b O)<|by rw[Y];simp) ⋯;obtain⟨bu,z5⟩:=Q b _ m y2;exact⟨_,z5⟩
   ·exact⟨h,st b h<|a9 b h U (by rw[z];simp)<|a6 b o q O⟩
  ·obtain⟨m1,l⟩:=I.base.u5 b ps q
   obtain⟨m2,U⟩:=un.u5 b _ l;exact⟨m1++m2,by rw[U,Array.append_assoc]⟩
  ·exact yH ej λb u n q=>st b u<|ak b u q n
  ·cases q1:H' b with
   |none=>exact absurd q1 n
   |some u=>
    obtain⟨d,z⟩:=tr b u q1;have U:=ak b d z (by rw[q1];simp);have g:=st b d U;rw[q]at g;cases g;exact U
  ·cases q1:X.h7.heap.get? b with
   |none=>exact absurd q1 n
   |some G=>
    obtain⟨d,z⟩:=i b G q1;obtain⟨h,U⟩:=un.there b d z ⋯;have r:=a6 b G q1 O;have g:=a9 b h U (by rw[z];simp) r;have m:=st b h g;rw[q]at m;cases m;exact g
 rw[<-hX]at F ⊢;exact F
theorem bX{pins:UQ}{σ:St}{L:Hp}{J:d6}{a C d t:dv}{Z:eh->Prop}(I:Inv (Vg (o5 P w) P w K mg base N qual scope f cd A outer s H E) pins σ L J)
 (N':L a=cq (.ext Z)) (he:J.heap.get? a=cq (Hh C (cq d) t)) (hs:s.heap.get? a=none) (hE:E (.ref C) (cq d) (λb=>if b=a then none else L b)):(Vg (o5 P w) P w K mg base N qual scope f cd A outer s H E).xe (.ref a) J:=by
 generalize U:Vg (o5 P w) P w K mg base N qual scope f cd A outer s H E=X at I;have Q:X.stack=X.env::X.outer:=by rw[<-U];rfl
 have b1:X.env.frame=cq X.env.locals:=by rw[<-U];rfl
 have j:X.ex=[]:=by rw[<-U];rfl
 have b2:=I.stack;have B:=I.M9;have b3:∀env∈X.stack,∀b,env.frame=cq b->b∈a::m7 X.stack:=λenv he b O=>Ld _<|OP.mpr ⟨env,he,O⟩;have R:∀b o,X.h7.heap.get? b=cq o->∃i,J.heap.get? b=cq i:=λb o q=>I.base.there b o q (by rw[j];simp);have b4:∀b o,X.h7.heap.get? b=cq o->b≠X.env.locals:=λb o q=>IX<|IV (IP q) I.ok.above;have a8:∀b o,X.h7.heap.get? b=cq o->b∉X.fs->b∉m7 X.stack:=λb o q n y=>by
  rcases IM.mp (I.NN b y)with z|z
  ·exact b4 b o q z
  ·exact n z
 have e1:X.outer=outer:=by rw[<-U];rfl
 have e2:X.DU=H:=by rw[<-U];rfl
 have e3:X.h7=s:=by rw[<-U];rfl
 have e4:X.prog=P:=by rw[<-U];rfl
 have e5:X.w=w:=by rw[<-U];rfl
 have off:∀b o,L b=cq o->(∀Z,o ≠ .ext Z)->(if b=a then none else L b)=cq o:=λb o q z=>by rw[UY (λw=>by rw[w,N']at q;cases q;exact z _ rfl),q]
 have S:X.h7.heap.get? a=none:=by rw[e3];exact hs
 have b8:kA X.prog X.w (λb=>if b=a then none else L b) J.heap:=λb o q=>by
  have q:(if b=a then none else L b)=cq o:=q;by_cases O:b=a
  ·rw[UJ O]at q;cases q
  ·rw[UY O]at q
   exact(I.ej b o q).A8 (λ_ _ _ z=>z) (λc z=>off c _ z<|λZ w=>nomatch w) λc xs z=>off c _ z<|λZ w=>nomatch w
 have go:wpAny (d9 P w) X.A (F8 X.env<|.ref a) (λ_ x=>o5 P w outer H s E (.ref a) x) (λe' x=>o5 P w outer H s E e' x) J:=by
  have T:(Ot J.heap (a::m7 X.stack)).get? a=none:=PySem.W.hideAll_none _ ⋯;refine Co (od:=cq d) (base:=Ot J.heap (a::m7 X.stack)) (env:=X.env) (outer:=X.outer) (a0:=.ref t) (by rw[<-Q];exact I.ok.frames) (by rw[<-Q];exact PySem.W.funFrames_hide b2 b3) b1 he (λb o q=>PU _ q) T rfl rfl rfl
   ⟨(λd' q=>by cases q;exact⟨_,he,rfl⟩),λq=>nomatch q⟩ λbb hL be=>?_
  obtain⟨k1,⟨_,_,k2⟩,k3,x4⟩:=hL;have TJ:∀b o,J.heap.get? b=cq o->b≠a->b∉m7 X.stack->(Ot J.heap (a::m7 X.stack)).get? b=cq o:=λb o q e g=>NB _ q (by simp[e];exact g);have Y:∀b o,J.heap.get? b=cq o->b≠a->b∉m7 X.stack->bb.get? b=cq o:=λb o q e g=>k1 b o<|TJ b o q e g;rw[<-e3]at *;rw[<-e2]at *;subst e1;have h:∀b o,X.h7.heap.get? b=cq o->b≠a:=λb o q z=>by rw[z,S]at q;cases q
  have F:∀b,(if b=a then none else L b)≠none->b≠a/\b∉m7 X.stack/\∃o,J.heap.get? b=cq o:=λb n=>by
   by_cases O:b=a
   ·rw[UJ O]at n;exact absurd rfl n
   ·rw[UY O]at n
    cases q:L b with
    |none=>exact absurd q n
    |some u=>exact⟨O,(λy=>by rw[B b y]at q;cases q),wG<|I.ej b u q⟩
  refine⟨a,C,_,cq d,rfl,hE,be,I.os,I.bare,⟨λb o q n O _=>?_,λb o q n O _=>?_,λb o q n _=>?_,λb o q _=>?_,λb xs q=>off b _ (I.base.u6 b xs q)<|λZ w=>(nomatch w),λb o u q=>off b _ (I.base.vr b o u q)<|λZ w=>(nomatch w),λb ps q=>?_⟩,?_,UJ rfl,S,⟨_,t,⟨k1,T,k2,k3⟩,λb o q n=>?_,λb o q n O=>?_⟩⟩
  ·exact Y b o (I.base.keep b o q n O<|by rw[j];simp) (h b o q)<|a8 b o q O
  ·obtain⟨sl,z⟩:=I.base.slot b o q n O (by rw[j];simp)
   have k:∀vs,o.data ≠ .fields vs:=by obtain⟨_,i,r,M⟩:=I.ok.p4.mem O;rw[q]at r;cases r;exact M
   obtain⟨as,G⟩:=x4 b _ z k;exact⟨as,G⟩
  ·rw[UY (h b o q)];exact I.base.free b o q n (by rw[j];simp)
  ·obtain⟨i,z⟩:=R b o q
   by_cases O:b∈X.fs
   ·obtain⟨_,p,r,M⟩:=I.p4.mem O
    obtain⟨as,G⟩:=x4 b _ r M;exact⟨_,G⟩
   ·exact⟨i,Y b i z (h b o q)<|a8 b o q O⟩
  ·obtain⟨m,z⟩:=I.base.u5 b ps q
   exact⟨m,off b _ z<|λZ w=>nomatch w⟩
  ·rw[<-e4,<-e5]
   exact yH b8 λb u n q=>Y b u q (F b n).1 (F b n).2.1
  ·obtain⟨e,g,p,z⟩:=F b n
   have:=Y b p z e g;rw[q]at this;cases this;exact TJ b o z e g
  ·cases q1:X.h7.heap.get? b with
   |none=>exact absurd q1 n
   |some l=>
    obtain⟨p,z⟩:=R b l q1;have k:=a8 b l q1 O;have:=Y b p z (h b l q1) k;rw[q]at this;cases this;exact TJ b o z (h b l q1) k
 rw[<-U]at go ⊢;exact go
end
noncomputable def FZ(o:jn):Option ClassData:=match o.data with
 |.cls a=>cq a
 |_=>none
noncomputable def EN(K:Iy)(C:dv):Bool:=match K.lookup C with
 |some o=>o.cls==MI "type"&&o.slots.size==6&&(o.slots.toList.drop 4).take 1 == [cq (Value.builtin "ValueError.__new__")]&&(match FZ o with
  |some a=>a.mro.take 1 == [Lr C]&&!a.hasDel&&PySem.W.tailIn K Tn (a.mro.drop 1)&&PySem.W.nsOkIn K a.ns&&OC K a.ns "__init__" == cq none
  |none=>di)
 |none=>di
theorem Ar{Y:Type}{l:List Y}{a:Y}(h:l.length=6)(e:(l.drop 4).take 1=[a]):∃I z J L O,l=[I,z,J,L,a,O]:=by
 cases l with
 |nil=>cases h
 | cons I l=>cases l with
  |nil=>cases h
  | cons z l=>cases l with
   |nil=>cases h
   | cons J l=>cases l with
    |nil=>cases h
    | cons L l=>cases l with
     |nil=>cases h
     | cons b l=>cases l with
      |nil=>cases h
      | cons O l=>cases l with
       |nil=>
        cases e;exact⟨I,z,J,L,O,rfl⟩
       |cons d l=>simp at h
theorem BC{z:Type}{l:List z}{a:z}(e:l.take 1=[a]):l=a::l.drop 1:=by
 cases l with
 |nil=>cases e
 |cons b l=>cases e;rfl
structure XC(K:Iy)(mg:UZ)(c:Str):Prop where
 all:Wr K=da
 mem:c∈t4
 ex:∃C,QN K c=cq C/\mg c=cq (.ref C)/\EN K C=da
noncomputable def YL(c:Xn)(od:Option dv)(H0:Hp):Prop:=match c.2 with
 |none=>od=none
 |some i=>∃d,od=cq d/\H0 d=cq (.xd [(Ih c.1,.int i)])
noncomputable def XW(X:Cx)(U z:Hp)(c:Xn):Prop:=(∀(f:UQ) (O:St) (g I:Hp) (h:d6) (k:eh) (a C:dv) (o:List dy),Inv X f O g h->Ext U z I g->Wr X.K=da->c.1∈t4->QN X.K c.1=cq C->c.2=none->
 Heap.MadeExcOf h.heap k a (.ref C) o->X.xe (.ref a) {h with heap:=k})/\
 (∀(f:UQ) (O:St) (g I:Hp) (h:d6) (e:dy) (l:d6),Inv X f O g h->Ext U z I g->
   o5 X.prog X.w X.stack g h (λj n m=>∃C i,j=.ref C/\Wr X.K=da/\c.1∈t4/\QN X.K c.1=cq C/\YL c n i/\Ext I g i m) e l->X.xe e l)/\
 ∀(f:UQ) (O:St) (g I:Hp) (h:d6) (a C d t:dv) (p:eh->Prop),Inv X f O g h->g a=cq (.ext p)->h.heap.get? a=cq (Hh C (cq d) t)->(X.ex=[]->X.h7.heap.get? a=none)->
  Ext U z I (λb=>if b=a then none else g b)->Wr X.K=da->c.1∈t4->QN X.K c.1=cq C->YL c (cq d) I->X.xe (.ref a) h
noncomputable def Px(X:Cx)(st:h9)(G:CO Xn):Prop:=∀(a:UQ) (s:d6) (e:St) (H I b f:Hp) (d:Ctx) (c:Xn),Inv X a e H s->RS X.K I b f H e d->G d=cq c->XW X I b c->
 wpAny (d9 X.prog X.w) X.A (exec st X.env) (λ_ _=>False) X.xe s
noncomputable def E8(X:Cx)(z:List h9)(G:CO Xn):Prop:=∀(a:UQ) (s:d6) (e:St) (H I b f:Hp) (d:Ctx) (c:Xn),Inv X a e H s->RS X.K I b f H e d->G d=cq c->XW X I b c->
 wpAny (d9 X.prog X.w) X.A (execs z X.env) (λ_ _=>False) X.xe s
section
variable{X:Cx}{sc:gB}{N L:List Str}{k:Nat}{st:h9}{yR:List h9}{G G':CO Xn}{F:CO Fl}
theorem SX.ng(h:SX X sc N L k)(E:EQ):SX (X.ng E) sc N L k:=⟨h.Dh,h.eN,h.nd,h.calm,h.room,h.fn⟩
theorem Fn:Px X st D5:=λa s g H O b d f c I U e _=>by cases e
theorem oh{z:List h9}:E8 X z D5:=λa s g H O b d f c I U e _=>by cases e
theorem vW{yR:List h9}(h:Px X st G):E8 X (st::yR) G:=λa s g H O b d f c I U e w=>
 NM (Lq (h a s g H O b d f c I U e w) (λ_ _ z=>z.elim) λ_ _ z=>z)
theorem WU(J:Px X st G)(Z:n5 X.qq st F)(h3:E8 X yR G'):E8 X (st::yR) (nM G F G'):=λb s m H O g k j c I l e w=>by
 unfold nM at e;cases q:G j with
 |some t=>
  rw[q]at e;cases e;exact vW J b s m H O g k j c I l q w
 | none=>
  rw[q]at e;obtain⟨p,o,U⟩:=zg e;cases p with
  | next d=>
   have U:G' d=cq c:=U;refine NM<|Lq (Z b s m H {nx:=λY h=>∃a,RS X.K O g a h Y d,rt:=λ_ _=>False} (I.ng _) ⟨O,g,k,j,.next d,l,o,λY h a i=>⟨a,i⟩⟩) (λf r z=>?_) λ_ _ z=>z.elim;cases f with
   |next=>
    obtain⟨Y,h,n,a,i⟩:=z;exact h3 b r Y h O g a d c n.r0 i U w
   |ret v=>obtain⟨_,_,_,_,_,z⟩:=z;exact z.elim
   |brk=>obtain⟨_,_,_,z⟩:=z;exact z.elim
   |cont=>obtain⟨_,_,_,z⟩:=z;exact z.elim
  |_=>cases U
theorem AJ{J:CO Bool}{c:ec}{x y:List h9}{pos:fh}(hc:ni X.qq c J)(Z:E8 X x G)(hb:E8 X y G'):Px X (.If c x y pos) (wb J G G'):=λa s g H Y h j f n I U e w=>by
 obtain⟨t,r,O⟩:=zg e;refine wpAny_If<|Lq (hc a s g H (λb i=>b=t/\∃d,Ext j H d i) (I.ng _) ⟨j,f,t,U.rc,r,λi d x=>⟨rfl,d,x⟩⟩) (λb o z=>?_) λ_ _ z=>z.elim;obtain⟨k,l,rfl,m,p⟩:=z;cases b with
 |true=>rw[UJ rfl]at O;exact Z a o g k Y h m f n l.r0 (U.step p) O w
 |false=>rw[UY Lb]at O;exact hb a o g k Y h m f n l.r0 (U.step p) O w
theorem WV{a:ec}{f:CO D}{c:Str}{np cpos pos:fh}(h:SX X.qq sc N L k)(hc:kU sc c=da)(x:XC X.K X.mg c)(ha:PV X.qq a f)(hf:∀γ,∃d,f γ=cq d:=by intro γ;exact⟨_,rfl⟩)
 (hs:eA [a] X.env=[(di,d8 a X.env)]:=by rfl):Px X (.Raise (cq (.Call (.Name c np) [a] [] cpos)) none pos) (pH c):=λi s σ H F0 F1 S γ cc I rs e w=>by
 cases e;obtain⟨C,x1,x2,m⟩:=x.ex;have R:=PySem.F.excBase_ValueError;have hh:X.A.handled=none:=I.ok.hd (show X.calm=da from h.calm);have aa:=h.gl hc;obtain⟨d,j⟩:=hf γ;have KI:=I.l7;have cls:∃nm q N bs bm hdct sn sub ab col dd k0 k1 k2 k3 k5,X.K.lookup C=cq (excClassObj nm q C N bs bm hdct sn sub ab col dd k0 k1 k2 k3 k5 "ValueError.__new__")/\PySem.W.tailIn X.K Tn bm=da/\PySem.W.nsOkIn X.K N=da/\OC X.K N "__init__" = cq none:=by
  unfold EN at m;cases B:X.K.lookup C with
  |none=>rw[B]at m;cases m
  | some o=>
   rw[B]at m;obtain⟨oc,dd,M,P⟩:=o;simp only[IK,beq_iff_eq]at m;obtain⟨⟨⟨y1,y2⟩,y3⟩,U⟩:=m;subst y1;obtain⟨k0,k1,k2,k3,k5,hs⟩:=Ar (by simpa using y2) y3;cases j:FZ ⟨.type "type",dd,M,P⟩with
   |none=>rw[j]at U;cases U
   | some cd=>
    rw[j]at U;have b2:M=.cls cd:=by
     unfold FZ at j;cases M with
     |cls bg=>cases j;rfl
     |_=>cases j
    subst b2;simp only[IK,beq_iff_eq,MH]at U;obtain⟨⟨⟨⟨y5,ae⟩,p⟩,b⟩,t⟩:=U;obtain⟨nm,bs,b3,ns,qn,b5,sn,sub,ab,col,bi⟩:=cd;dsimp only at y5 ae p b t;subst ae;have b6:P = #[k0,k1,k2,k3,cq (.builtin "ValueError.__new__"),k5]:=by obtain⟨l⟩:=P;simp only at hs;rw[hs]
    subst b6;have y:=BC y5;generalize b3.drop 1=bm at y p;subst y;exact⟨nm,qn,ns,bs,bm,b5,sn,sub,ab,col,dd,k0,k1,k2,k3,k5,rfl,p,b,t⟩
 obtain⟨nm,q,O,bs,bm,hdct,sn,sub,ab,col,dd,k0,k1,k2,k3,k5,B,p,b,t⟩:=cls;have Z:∀{g:eh},X.K.In g->OwnTail g Tn bm:=λY=>PySem.W.tail_of_in Y p;refine wpAny_Raise_call_subT (C:=C) (nm:=nm) (q:=q) (N:=O) (bs:=bs) (bm:=bm) (hdct:=hdct) (sn:=sn) (sub:=sub) (ab:=ab) (col:=col) (dd:=dd) (k0:=k0) (k1:=k1) (k2:=k2) (k3:=k3) (k5:=k5)
  R (mN:=X.base.nsMap O) ((Z KI).hasType R.hasBase) hh (by rw[hs];rfl) (PySem.W.nsMap_none_of_in I.ok.mod.M3 b t) (vZ I (show Gl X c from aa.1) x2 ⟨rfl,?_⟩ aa.2.2)
 have b7:PA X.qq [a] _:=jm ha qc (show eA [a] X.qq.env=[(di,d8 a X.qq.env)]from hs);have r:=b7 cpos i s σ H (λvs G=>∃v,vs=[v]/\∃J,Ext S H J G) (I.ng _) ⟨S,γ,d,rs.rc,j,λv H' E Q rr=>⟨v,rfl,E,Q⟩⟩;rw[hs];rw[show eA [a] X.qq.env=[(di,d8 a X.env)]from hs]at r;refine Calls.evalArgs_plain<|Lq r (λus s2 hZ=>?_) λ_ _ z=>z.elim;obtain⟨vs,G,n,rv,v,ev,J,Q⟩:=hZ;subst ev;obtain⟨u,rfl,ru⟩:=yx rv;have n:=n.r0;have T:=n.l7;have n1:X.base.Ns O (X.base.nsMap O):=.of_isNs (PySem.W.isNs_of_in I.ok.mod.M3 b);have bd:s2.heap.Ns O (X.base.nsMap O):=n1.keeps n.bk;exact⟨rfl,by show 1<=el;decide,T _ _ B,bd,Z T,λh' e y=>w.1 i σ G J s2 h' e C _ n (rs.ext.trans Q) x.all x.mem x1 rfl y⟩
end
noncomputable def SR(K:Iy)(n:Nat)(G:List D->Option Xn):Sp:=λg H _ E=>∃b d c,f6 b H/\d5 K b d g/\d.length=n/\G d=cq c/\
 ∀C e a f,Wr K=da->c.1∈t4->QN K c.1=cq C->YL c f a->Ext b H a e->E (.ref C) f e
theorem SR.len{K:Iy}{n:Nat}{G:List D->Option Xn}{ps:List Str}(z:ps.length=n):∀vs H Q E,SR K n G vs H Q E->vs.length=ps.length:=λvs H Q E h=>by obtain⟨d,e,c,_,a,b,_⟩:=h;rw[a.length,b,z]
structure DT(P:g8)(w:f7)(K:Iy)(mg:UZ)(base:eh)(k:Nat)(x:Str)(n:Nat)(G:List D->Option Xn):Prop where
 ex:∃(f:dv) (fd:rh) (ps:List Str),ps.length=n/\rb P w K mg base (o5 P w) k f fd ps (SR K ps.length G)/\mg x=cq (.ref f)/\NZ K (.ref f)=da/\Binds K fd ps []
theorem mR{P:g8}{w:f7}{K:Iy}{J:UZ}{base:eh}{x:Str}{st:h9}{N ps:List Str}{k:Nat}{G:CO Xn}(A:fy K J x st ps)(hd:cI N ps st=da)
 (a9:∀X:Cx,X.prog=P->X.w=w->X.K=K->X.mg=J->X.base=base->SX X (jy st) N N k->E8 X (kK st) G):DT P w K J base (k+1) x ps.length (WO N.length G):=by
 obtain⟨f,fd,F,hb,hm⟩:=A.ex;have S:=Je hd;have b4:ps.length<=N.length:=by have:=congrArg Rb S.pre;rw[NG]at this;omega
 refine⟨f,fd,ps,rfl,?_,hm,F.kp,.all hb⟩;obtain⟨oc,T,kV,doc,pm,an,To,ct,SI,rfl,lk,ab⟩:=F.ex;refine Cn lk ab S (SR.len rfl) λA p s H vs Q E hr ae=>⟨λ_ Z g=>Z=QQ N vs/\g=H,λh s1 Z M D I n=>?_,rfl,rfl⟩;obtain⟨rfl,rfl⟩:=n;obtain⟨L,ds,c,s0,h1,h2,h3,h4⟩:=ae;refine Lq (a9 _ rfl rfl rfl rfl rfl ⟨rfl,rfl,S.nd,rfl,hr,λ_ _=>.inl rfl⟩ h s1 _ M L M L (z7 N.length ds) c I (WQ s0 h1 ⋯) h3 ⟨λR i j O W h' a C us U Y r y u B m=>?_,λR i j O W e s' U Y m=>?_,λR i j O W a C d t φ U y1 y2 y3 Y r y u B=>?_⟩) (λ_ _ z=>z.elim) λ_ _ z=>z
 ·exact bW U m<|h4 C j O none r y u (by unfold YL;rw[B]) Y
 ·refine V0 (E':=λl T g=>∃C b,l=.ref C/\Wr K=da/\c.1∈t4/\QN K c.1=cq C/\YL c T b/\Ext O j b g) U m λcc o g z=>?_
  obtain⟨C,b,rfl,z1,z2,z3,z4,z5⟩:=z;exact h4 C g b o z1 z2 z3 z4<|Y.trans z5
 ·exact bX U y1 y2 (y3 rfl)<|h4 C _ O (cq d) r y u B Y
section
variable{X:Cx}{sc:gB}{N L:List Str}{k j n:Nat}{e:ec}{es:List ec}{g:CO (List D)}{G:List D->Option Xn}{x:Str}{p pos:fh}
noncomputable def uT(X:Cx)(z:UQ)(J:St)(H0 H:Hp)(I:Xn)(e:dy)(s':d6):Prop:=∃b O f,Inv X z J b f/\Ext H0 H O b/\
 o5 X.prog X.w X.stack b f (λd h g=>∃C a,d=.ref C/\Wr X.K=da/\I.1∈t4/\QN X.K I.1=cq C/\YL I h a/\Ext O b a g) e s'
theorem ph{J:UQ}{Z:St}{H H0:Hp}{γ:Ctx}{ds:List D}{O:Xn}{s:d6}(hf:DT X.prog X.w X.K X.mg X.base j x n G)(hj:j<=k)(h:SX X sc N L k)(c:kU sc x=da)(ha:B5 X.qq (e::es) n g)
 (I:Inv X J Z H s) (rc:RC X.K H0 H Z γ) (eg:g γ=cq ds) (eG:G ds=cq O)
 (he:eA (e::es) X.env=(di,d8 e X.env)::eA es X.env:=by rfl) (a8:(ow pos<|starEach es X.env).any (·.1)=di:=by rfl):
 wpAny (d9 X.prog X.w) X.A (d8 (.Call (.Name x p) (e::es) [] pos) X.env) (λ_ _=>False) (uT X J Z H0 H O) s:=by
 obtain⟨fa,fd,y,hn,F,hm,S,R⟩:=hf.ex;subst hn;refine MC<|vZ I (h.gl c).1 hm ?_ (h.gl c).2.2;refine PySem.W.callWith_K (h₀:=X.base) I.ok.mod.M3 S (Lq (ha.1 pos J s Z H (λf b=>∃U,Ext H0 H U b/\d5 X.K U ds f) (I.ng _) ⟨H0,γ,ds,rc,eg,λf l a x r=>⟨a,x,r⟩⟩) (λi o ⟨f,b,Y,E,U,M,B⟩=>⟨Y.r0.l7,?_⟩) λ_ _ z=>z.elim) he a8;have Y:=Y.r0;have P:f.length=y.length:=by rw[B.length];exact ha.2 γ ds eg
 have T:i.length=y.length:=by rw[<-E.length];exact P
 refine RX (Ph (F.run X.A X.stack o b ⟨i,[]⟩ i f (λ_ _=>False) (λm t l=>∃C a,m=.ref C/\Wr X.K=da/\O.1∈t4/\QN X.K O.1=cq C/\YL O t a/\Ext U b a l) (h.room.mono hj) Y.Dg
  (by simpa using R o i Y.l7 (by simpa using T)) E ⟨U,ds,O,M.sub,B,ha.2 γ ds eg,eG,λC l a t xa xm xc xn xx=>⟨C,a,rfl,xa,xm,xc,xn,xx⟩⟩) λr s' d=>?_)
 cases r with
 |error e=>exact⟨b,U,o,Y,M,d⟩
 |ok Q=>
  cases Q with
  |ret u=>obtain⟨_,_,_,_,_,_,_,z⟩:=d;exact z.elim
  |next=>exact d.elim
  |brk=>exact d.elim
  |cont=>exact d.elim
theorem VE{spos:fh}(hf:DT X.prog X.w X.K X.mg X.base j x n G)(U:j<=k)(h:SX X.qq sc N L k)(c:kU sc x=da)(Z:B5 X.qq (e::es) n g)
 (Y:eA (e::es) X.env=(di,d8 e X.env)::eA es X.env:=by rfl) (J:(ow pos<|starEach es X.env).any (·.1)=di:=by rfl)
 (hs:u4 (.Call (.Name x p) (e::es) [] pos) none spos.line X.env=pure di:=by rfl):
 Px X (.Expr (.Call (.Name x p) (e::es) [] pos) spos) (yb G g):=λa s y H A B C M E I O eq w=>by
 obtain⟨F,l,m⟩:=zg eq;refine _d (Lq (ph hf U (⟨h.Dh,h.eN,h.nd,h.calm,h.room,h.fn⟩:SX X sc N L k) c Z I O.rc l m Y J) (λ_ _ z=>z.elim) λo r z=>?_) I.quiet hs;obtain⟨b,f,t,d,u,i⟩:=z;exact w.2.1 a y b f t o r d (O.ext.trans u) i
end
noncomputable def F9(X:Cx)(e:dy):Cx:={X with A:=X.A.mark<|some e,calm:=di,xe:=λ_ _=>False}
theorem gj{X:Cx}{J:UQ}{L:St}{H:Hp}{s:d6}(I:L2.Inv X J L H s)(e:dy):L2.Inv (F9 X e) J L H s:=
 ⟨⟨I.ok.mod,I.ok.kind,I.ok.glob,I.ok.blt,I.ok.above,I.ok.inj,I.ok.has,I.ok.L4,(λz=>nomatch z),I.ok.frames,I.ok.DQ,I.ok.Pt,I.ok.bs,I.ok.B9,I.ok.M6,I.ok.L8,I.ok.p4,I.ok.C0⟩,I.os,I.bare,I.base,I.loc,I.cell,I.free,I.vp,I.pin,I.ej,I.len⟩
theorem gd{X:Cx}{z:UQ}{J:St}{H:Hp}{s:d6}{e:dy}(ok:X.Ok)(I:L2.Inv (F9 X e) z J H s):L2.Inv X z J H s:=
 ⟨ok,I.os,I.bare,I.base,I.loc,I.cell,I.free,I.vp,I.pin,I.ej,I.len⟩
theorem fG{X:Cx}{J:UQ}{L:St}{H:Hp}{s:d6}{M:DW}{A:i5}{E:EQ}{Q:Unit->d6->Prop}{i:Nat}{n:Str}{pos:fh}(I:L2.Inv X J L H s)(Z:X.N.Nodup)(hi:X.N[i]? = cq n)(hl:X.env.scope.names.lookup n=cq .local)
 (h:∀s',L2.Inv X J (L.set i none) H s'->Q () s'):wpAny M A (do bindName X.env n .none;unbindBehindTheSuite X.env n pos) Q E s:=by
 obtain⟨m,C,G⟩:=id I.loc;have u:(X.env.scope.kind ==.class || (X.env.scope.kind ==.module&&X.env.locals != X.env.globals))=di:=by rw[I.ok.kind];rfl
 refine wpAny_nameGoes_keeps hl C u λh' v w a=>h _ ?_;have U:∀b o,X.h7.heap.get? b=cq o->b≠X.env.locals:=λb o e=>IX<|IV (IP e) I.ok.above;refine⟨I.ok,I.os,I.bare,⟨λb o e n Y f=>?_,λb o e n Y f=>?_,I.base.free,λb o e f=>?_,I.base.u6,I.base.vr,I.base.u5⟩,⟨_,w,λj y v' l g x=>?_⟩,λy c e=>?_,I.free,I.vp,λp F=>?_,λb R e=>?_,by simpa using I.len⟩
 ·exact(a.2 b<|U b o e).trans (I.base.keep b o e n Y f)
 ·obtain⟨T,z⟩:=I.base.slot b o e n Y f
  exact⟨T,(a.2 b<|U b o e).trans z⟩
 ·obtain⟨P,z⟩:=I.base.there b o e f
  exact⟨P,(a.2 b<|U b o e).trans z⟩
 ·rcases jd g with⟨_,z,_⟩|⟨B,g⟩
  ·cases z
  ·obtain⟨W,S,q⟩:=G j y v' l g x
   refine⟨W,S,?_⟩;rcases q with⟨k,e⟩|⟨k,c,e,z⟩
   ·refine .inl ⟨k,?_⟩
    have:y≠n:=λe=>B<|Km Z l<|e ▸ hi;simp[this,e]
   ·exact .inr ⟨k,c,e,z.sameBut a<|I.Dz y c e⟩
 ·obtain⟨t,z⟩:=I.cell y c e
  exact⟨t,z.sameBut a<|I.Dz y c e⟩
 ·obtain⟨e,n,r,K,d⟩:=I.pin p F
  exact⟨(a.2 p.1 r).trans e,n,r,K,d⟩
 ·refine(I.ej b R e).A8 (λc t O q=>(a.2 c ?_).trans q) (λ_ q=>q) λ_ _ q=>q
  rintro rfl;rcases O with O|O
  ·rw[<-O,I.free]at e;cases e
  ·rw[I.free]at O;cases O
structure XS(K:Iy)(mg:UZ):Prop where
 ex:∃S,QN K "SplitError" = cq S/\mg "SplitError" = cq (.ref S)/\Pw K (.ref S)=cq (.type "type")/\ML K S (.type "BaseException")=cq da/\(Pa K S).isSome=da/\ML K S (.ref S)=cq da
theorem V8{M:DW}{h:eh}{K:Iy}{a C S:dv}(X:K.In h)(I:cP h a C)(z:Pw K (.ref S)=cq (.type "type"))(J:ML K S (.type "BaseException")=cq da)(U:(Pa K S).isSome=da)(Y:ML K C (.ref S)=cq da):
 PX M h (excMatches (.ref a)<|.ref S) da:=by
 have b:=wO (M:=M) I;have d:=PySem.W.looks_typeIn (M:=M) X z;have e:=PySem.W.looks_mroIn (M:=M) X J;have f:PX M h (isType<|.ref S) da:=by
  obtain⟨F,O⟩:=LX.mp U;unfold Pa at O;split at O
  ·rename_i B G x y j
   intro t w u R k q;unfold isType loadHead;exact Iz<|wpAny_loadPart (k _ _<|X _ _ j)<|IH q
  ·cases O
 have g:=PySem.W.looks_mroIn (M:=M) X Y;have i:PX M h (UG (.type "type") (.type "tuple")) di:=.of_pure tc_notTuple;intro A Q E s k q;obtain⟨N,L,H,T,P⟩:=s;have l:=b.keeps k;have m:=d.keeps k;have n:=e.keeps k;have o:=f.keeps k;have p:=g.keeps k;have r:=i.keeps k;unfold excMatches isExcClass UD
 repeat (first|with_reducible refine m.at ?_|with_reducible refine r.at ?_|with_reducible refine o.at ?_|with_reducible refine n.at ?_|with_reducible refine l.at ?_|with_reducible refine p.at ?_|wp_step)
 exact q
section
variable{X:Cx}{sc:gB}{N L:List Str}{k:Nat}
theorem nE{J:UQ}{Z:St}{H H0:Hp}{γ:Ctx}{O:Xn}{ev:dy}{s':d6}{D:Ends}{F0 F1:Hp}{I j:Nat}{nx zx:Str}{np pz pn a9 bm:fh}(h:SX X sc N L k)(aa:X.stack=X.env::X.outer/\X.env.frame=cq X.env.locals)
 (x:XS X.K X.mg) (b0:kU sc "SplitError" = da) (cn:yd sc N L I nx=da) (cl:decide (sc.names.lookup nx=cq .local)=da) (cv:Ju sc N I nx=da) (cz:yd sc N L j zx=da) (bu:I≠j)
 (rs:RS X.K F0 F1 H0 H Z γ) (lf:uT X J Z H0 H O ev s') (c1:Sat X.K F0 F1 D (.next<|(γ.set j<|.val<|.exc O.1 O.2).set I .no))
 (hs:u4 (.Name nx pn) (cq (.Name zx pz)) a9.line X.env=pure di:=by rfl):
 wpAny (d9 X.prog X.w) X.A (SG ev X.env) (λ_ s2=>wpAny (d9 X.prog X.w) X.A (SQ ev none) (λ_ s3=>
  wpAny (d9 X.prog X.w) X.A (handleBy ev X.env [.ExceptHandler (cq (.Name "SplitError" np)) (cq nx) [.Assign [.Name zx pz] (.Name nx pn) a9] bm]) (SP X J D) X.xe s3) X.xe s2) X.xe s':=by
 obtain⟨H1,e8,s1,s,x1,a,C,H',G,rfl,⟨U,P,eC,xa,xm,xc,xn,x2⟩,c4,c5,c6,un,ej,y,c7,⟨B,t,fl,c8,b5⟩⟩:=lf;obtain rfl:U=C:=(Lr.inj eC).symm;have c9:X.A.frames=cq (X.env::X.outer):=by rw[<-aa.1];exact s.ok.frames
 rw[aa.1]at fl;obtain⟨S,ca,cb,ce,cf,ci,cm⟩:=x.ex;obtain⟨M,b6,y1,l,y3⟩:=Jt xa xm xc;obtain rfl:M=S:=by rw[ca]at b6;exact(LN b6).symm
 have b7:∀m:eh,MZ B (X.env::X.outer) a (.ref U) (.ref t) m->s'.heap.UpToSlots m->o7 G a m->L2.Inv X J Z (upd H' a<|.ext λg=>cP g a U/\o7 G a g) {s' with heap:=m}:=λm f sm dk=>by
  have obj:cP m a U:=by obtain⟨oe,p,_,_,_,E,⟨T,_⟩,e3,_⟩:=f.2.2.2;exact⟨oe,p,E,T,e3⟩
  have ne:∀b o,s1.heap.get? b=cq o->b≠a:=λb o q z=>by rw[z,c7]at q;cases q
  have b8:∀b,b∈m7 X.stack->∃o,s1.heap.get? b=cq o/\(∀p,o.data ≠ .fields p)/\∃sl,m.get? b=cq {o with slots:=sl}:=λb Y=>by obtain⟨_,o,q,nf⟩:=s.stack.mem Y;obtain⟨sl,z⟩:=un.slot b o q (s.M9 b Y) Y ⋯;obtain⟨cr,z'⟩:=sm b _ z nf;exact⟨o,q,nf,cr,z'⟩
  refine s.Uw (s':={s' with heap:=m}) (ch:=[]) c5 ⟨λb o q n Y _=>?_,λb o q n Y _=>?_,λb o q n _=>?_,λb o q _=>?_,λb xs q=>?_,λb o u q=>?_,λb ps q=>?_⟩ ?_ c6 (λ_ z=>nomatch z)
  ·exact f.1 b o<|b5 b o (un.keep b o q n Y ⋯) (by rw[q];simp) Y
  ·obtain⟨F,q',_,z⟩:=b8 b Y
   rw[q]at q';cases q';exact z
  ·rw[zK (ne b o q)];exact un.free b o q n ⋯
  ·by_cases Y:b∈m7 X.stack
   ·obtain⟨F,_,_,sl,z⟩:=b8 b Y
    exact⟨_,z⟩
   ·obtain⟨F,z⟩:=un.there b o q ⋯
    exact⟨F,f.1 b F<|b5 b F z (by rw[q];simp) Y⟩
  ·have z:=un.u6 b xs q
   rw[zK (ju z y)];exact z
  ·have z:=un.vr b o u q
   rw[zK (ju z y)];exact z
  ·obtain⟨more,z⟩:=un.u5 b ps q
   exact⟨more,by rw[zK (ju z y)];exact z⟩
  ·refine tW (yH ej λb u n q=>f.1 b u<|c8 b u q n) y ⟨obj,dk⟩ ?_ ?_
   ·obtain⟨o,_,e,_⟩:=obj;exact⟨o,e⟩
   ·rintro g1 g2 ⟨⟨o,p,e,r⟩,ct⟩ kk
    exact⟨⟨o,p,kk o e,r⟩,ct.obj kk⟩
 refine BL c9 aa.2 fl c4 λh4 cw bd cx=>?_;refine BO cw cx λh5 R bf bg=>?_;have I5:=gj (b7 h5 R (bd.trans bf) bg)<|.ref a;have cy:cP h5 a U:=by obtain⟨oe,p,_,_,_,E,⟨T,_⟩,e3,_⟩:=R.2.2.2;exact⟨oe,p,E,T,e3⟩
 have mS:ML X.K U (.ref M)=cq da:=by
  have l:=l;unfold Mh at l;by_cases z:(Lr U==Lr M)=da
  ·have e:U=M:=Lr.inj (beq_iff_eq.mp z)
   subst e;exact cm
  ·rw[UY z]at l
   unfold PySem.W.kitCls at l;dsimp only at l;split at l
   ·exact l
   ·cases l
 refine wpAny_handleBy_cons (codeAny_handlers_test<|vZ (X:=F9 X<|.ref a) I5 (show Gl X _ from(h.gl b0).1) cb ?_ (h.gl b0).2.2) (by intro q;cases q);refine(V8 I5.l7 cy ce cf ci mS) _ _ _ _ (λ_ _ z=>z) ?_;refine codeAny_handlers_suite_as<|CU R bg λh6 d2 d3 d4=>?_;have I6:=gj (b7 h6 d2 ((bd.trans bf).trans d3) d4)<|.ref a;obtain⟨n1,n2,n3⟩:=h.loc cn;obtain⟨z1,z2,z3⟩:=h.loc cz;refine XU (X:=F9 X<|.ref a) (v:=.ref a) I6 (show X.N.Nodup from h.Gx) n1 n2 rfl (λs7 I7=>?_) n3;have hv:PE (F9 X<|.ref a) (.Name nx pn) (nR I):=by
  unfold Ju at cv;simp only[IK,Mk,decide_eq_true_eq,MH]at cv;obtain⟨⟨⟨v1,v2⟩,v3⟩,v4⟩:=cv;refine oF (by show X.N[I]? = cq nx;rw[h.eN];exact v1) ?_ v3 v4;show O3 X.env.scope nx;unfold O3;rw[h.Dh];rcases v2 with(v2|v2)|v2
  ·exact .inl v2
  ·exact .inr<|.inl v2
  ·exact .inr<|.inr v2
 have dp:PS (F9 X<|.ref a) (.Assign [.Name zx pz] (.Name nx pn) a9) (WE (nR I)<|vf j):=oC (X:=F9 X<|.ref a) (show X.N.Nodup from h.Gx) z1 z2 hv hs z3;have dt:I<Z.length:=by rw[s.len];exact(Ll.mp n1).1
 have run:=(eR dp) J s7 (Z.set I<|some (.ref a)) _ {nx:=λd_ Hn=>d_=(Z.set I<|some (.ref a)).set j (cq (.ref a))/\Hn=upd H' a (.ext λg=>cP g a U/\o7 G a g),rt:=λ_ _=>False} I7
  ⟨.ref a,LW dt,rfl,rfl⟩
 refine Lq run (λf s8 z=>?_) λ_ _ z=>z.elim;cases f with
 | next=>
  obtain⟨_v,H8,Q,rfl,rfl⟩:=z;have Q:=gd s.ok Q;refine fG Q h.Gx n1 (by rw[h.Dh];exact of_decide_eq_true cl) λs9 I9=>⟨_,_,I9,?_⟩;have xt:=x1.trans<|x2.trans<|Ext.alloc x2.sub y<|.ext λg=>cP g a U/\o7 G a g;have rep:Rep X.K (upd P a<|.ext λg=>cP g a U/\o7 G a g) (.exc O.1 O.2) (.ref a):=by
   refine(show ∃b,V.ref a=.ref b/\B7 X.K _ O.1 O.2 b from⟨a,rfl,xa,xm,U,_,xc,zM,λ_ z=>z.1,?_⟩);unfold YL at xn;cases hc:O.2 with
   |none=>trivial
   |some i=>
    rw[hc]at xn;obtain⟨d,e5,as⟩:=xn;have e6:d≠a:=λq=>by rw[q,x2.sub.free y]at as;cases as
    exact⟨d,λg z=>z.2.1 d e5,by rw[zK e6];exact as⟩
  have r1:=((rs.step xt).A7 (i:=I) rep).A7 (i:=j) rep;have r2:=r1.forget (i:=I) (v:=none);have E:((γ.set I<|.val<|.exc O.1 O.2).set j (.val<|.exc O.1 O.2)).set I .no=(γ.set j<|.val<|.exc O.1 O.2).set I .no:=by rw[List.set_comm _ _ bu,List.set_set]
  rw[E]at r2;exact c1 _ _ _ r2
 |ret v=>obtain⟨_,_,_,_,_,z⟩:=z;exact z.elim
 |brk=>obtain⟨_,_,_,z⟩:=z;exact z.elim
 |cont=>obtain⟨_,_,_,z⟩:=z;exact z.elim
end
section ap
variable(γ:Ctx)
@[simp] noncomputable def xT:=@zJ.eq_1
@[simp] noncomputable def ZQ:=@jG.eq_1
@[simp] noncomputable def wc:=@jz.eq_1
@[simp] noncomputable def qY:=@zh.eq_1
@[simp] noncomputable def ql:=@zk.eq_1
@[simp] theorem vn(d):zy d γ=cq d:=rfl
@[simp] noncomputable def aN:=@zI.eq_1
@[simp] noncomputable def GN:=@sB.eq_1
@[simp] noncomputable def GM:=@X5.eq_1
@[simp] noncomputable def ix:=@rM.eq_1
@[simp] noncomputable def Gw:=@Zi.eq_1
@[simp] noncomputable def Hx:=@rR.eq_1
@[simp] noncomputable def Hu:=@Ef.eq_1
@[simp] noncomputable def pE:=@bq.eq_1
@[simp] theorem kN:zF γ=cq []:=rfl
@[simp] noncomputable def jM:=@zb.eq_1
@[simp] noncomputable def Vq:=@xF.eq_1
@[simp] noncomputable def GC:=@jH.eq_1
@[simp] noncomputable def Gy:=@qF.eq_1
@[simp] noncomputable def ZP:=@qt.eq_1
@[simp] noncomputable def iw:=@yQ.eq_1
@[simp] noncomputable def Gu:=@XZ.eq_1
@[simp] noncomputable def GH:=@rQ.eq_1
@[simp] noncomputable def vL:=@kv.eq_1
@[simp] noncomputable def xY:=@jr.eq_1
@[simp] noncomputable def Gs:=@kB.eq_1
@[simp] noncomputable def GG:=@dS.eq_1
@[simp] noncomputable def QG:=@yz.eq_1
@[simp] noncomputable def xN:=@zE.eq_1
@[simp] noncomputable def KO:=@jg.eq_1
@[simp] noncomputable def km:=@zR.eq_1
@[simp] noncomputable def wW:=@jK.eq_1
@[simp] noncomputable def CM:=@X0.eq_1
@[simp] noncomputable def Ho:=@QR.eq_1
@[simp] noncomputable def aM:=@ZV.eq_1
@[simp] noncomputable def qm:=@zU.eq_1
@[simp] theorem Hq:jw γ=cq da:=rfl
@[simp] noncomputable def GJ:=@JF.eq_1
@[simp] noncomputable def Gv:=@Yq.eq_1
@[simp] noncomputable def wX:=@dj.eq_1
@[simp] noncomputable def EG:=@dM.eq_1
@[simp] theorem Hv:cS γ=cq none:=rfl
@[simp] noncomputable def GK:=@p5.eq_1
@[simp] noncomputable def CK:=@WL.eq_1
@[simp] noncomputable def CP:=@VC.eq_1
@[simp] noncomputable def Ii:=@DO.eq_1
@[simp] noncomputable def XH:=@jb.eq_1
@[simp] noncomputable def CN:=@dP.eq_1
@[simp] noncomputable def aL:=@iH.eq_1
@[simp] noncomputable def Hw:=@uQ.eq_1
@[simp] noncomputable def GE:=@dQ.eq_1
@[simp] noncomputable def GB:=@lu.eq_1
@[simp] noncomputable def Gq:=@rK.eq_1
theorem jO(F G):zS F G γ=(F γ).bind λI=>match I with
 |.next a=>G a
 |f=>cq f:=rfl
end ap
@[simp] theorem CI(ds):jA (.tup ds)=cq (.T,ds):=rfl
@[simp] theorem Hk(ds):jA (.lst ds)=cq (.L,ds):=rfl
@[simp] theorem ja(d):gY (cq (.val d))=cq d:=rfl
@[simp] theorem jf(d):v9 (cq (.val d))=jA d:=rfl
@[simp] theorem uu(d):v9 (cq (.own d))=cq (.L,d):=rfl
@[simp] theorem ux(d):ya (cq (.own d))=cq d:=rfl
@[simp] theorem uv(d):We (cq (.val d))=cq (.ret<|.val d):=rfl
@[simp] theorem uw(d):We (cq (.own d))=cq (.ret<|.own d):=rfl
@[simp] theorem Hm(b):C8 (.bl b)=cq b:=rfl
@[simp] theorem qE(b):o6 (.int b)=cq b:=rfl
@[simp] theorem Ei(d):WS (.val d)=d:=rfl
@[simp] theorem Ej(d):WS (.own d)=.lst d:=rfl
@[simp] theorem Eh(d):AD (.own d)=cq d:=rfl
@[simp] theorem EA(i j):cU (.int i) (.int j)=cq (.int<|i-j):=rfl
@[simp] theorem aE(i j):qu (.int i) (.int j)=cq (.int<|i+j):=rfl
@[simp] theorem EC(i j):yT (.int i) (.int j)=if 0<j then cq (.int<|i%j)else none:=by show(if EE i j=da then _ else _)=_;simp[EE]
@[simp] theorem ED(i j):Xc (.int i) (.int j)=if 0<j/\j<1073741824 then cq (.int<|i/j)else none:=by
 show(if CA i j=da then _ else _)=_;have e:(CA i j=da)=(0<j/\j<1073741824):=by unfold CA;rw[IK,decide_eq_true_eq,decide_eq_true_eq];apply propext;constructor<;>intro h<;>exact⟨h.1,by omega⟩
 simp only[e]
@[simp] theorem aD(i j):yw (.int i) (.int j)=if XF i j=da then cq (.int<|i*j)else none:=rfl
@[simp] theorem EB(i j):uk (.int i) (.int j)=if Cz i j=da then cq (.int<|i^j.toNat)else none:=rfl
@[simp] theorem FV(i j):DZ (.int i) (.int j)=cq (.bl<|decide<|i<j):=rfl
@[simp] theorem FW(i j):Tp (.int i) (.int j)=cq (.bl<|decide<|i<=j):=rfl
@[simp] theorem FX(i j):p7 (.int i) (.int j)=cq (.bl<|decide<|j<i):=rfl
@[simp] theorem FY(i j):gw (.int i) (.int j)=cq (.bl<|decide<|i=j):=by unfold gw;rw[UJ ⟨rfl,rfl⟩];exact congrArg (λb=>cq (D.bl b)) (by rw[NW];simp[hB])
@[simp] theorem FU(i j):l5 (.int i) (.int j)=cq (.bl<|!decide (i=j)):=by unfold l5;rw[UJ ⟨rfl,rfl⟩];exact congrArg (λb=>cq (D.bl !b)) (by rw[NW];simp[hB])
@[simp] theorem Au(i is d ds γ):xI (i::is) (d::ds) γ=xI is ds (γ.set i<|.val d):=rfl
@[simp] theorem As(ds γ):xI [] ds γ=γ:=by cases ds<;>rfl
@[simp] theorem Jr(i d γ):kL (.nm i) d γ=cq (γ.set i<|.val d):=rfl
@[simp] theorem CC(i j a b γ):kL (.tp [i,j]) (.tup [a,b]) γ=cq ((γ.set i<|.val a).set j (.val b)):=rfl
@[simp] theorem lr(γ:Ctx)(G:CO Fl):(cq (Fl.next γ)).bind (λI=>match I with
 |.next γ'=>G γ'
 |f=>cq f)=G γ:=rfl
theorem XE(i j:Int)(z : -(2^64)<j)(I:j<2^64):XF i j=da:=by unfold XF;rw[Mk];right;exact decide_eq_true ⋯
theorem ZO(i j:Int)(z : -(2^64)<i)(I:i<2^64):XF i j=da:=by unfold XF;rw[Mk];left;exact decide_eq_true ⋯
theorem J3(z : -(2^62)<i)(I:i<2^62):inR i=da:=by unfold inR;exact decide_eq_true ⋯
@[simp] theorem qP(n k:Nat):hH n (k:Int)=if k<n then cq k else none:=by
 unfold hH;by_cases h:k<n
 ·rw[UJ ⟨Int.natCast_nonneg k,by omega⟩,UJ h];simp
 ·rw[UY ⋯,UY ⋯,UY h]
theorem jj:lim=2500:=rfl
@[simp] theorem Ex:0<=lim:=Mr _
@[simp] theorem Ew:1<=lim:=by decide
@[simp] theorem Eu:2<=lim:=by decide
@[simp] theorem Et:3<=lim:=by decide
@[simp] theorem Es:4<=lim:=by decide
@[simp] theorem Er:5<=lim:=by decide
@[simp] theorem Ep:6<=lim:=by decide
@[simp] theorem Eo:7<=lim:=by decide
@[simp] theorem Em:8<=lim:=by decide
@[simp] theorem El:0<lim:=by decide
@[simp] theorem tU(h:n<=lim):inR (n:Int)=da:=J3 ⋯ (by have:=jj;omega)
@[simp] theorem _r(n:Nat):hH (n+1) 0=cq 0:=qP (n+1) 0 ▸ rfl
@[simp] theorem _s(n:Nat):hH (n+2) 1=cq 1:=by have:=qP (n+2) 1;simpa using this
@[simp] theorem N_(n:Nat):hH (n+3) 2=cq 2:=by have:=qP (n+3) 2;simpa using this
theorem zC(r:α->D):∀(l:List α),(∀x∈l,zY T k f γ [g x]=cq [r x])->zY T k f γ (l.map g)=cq (l.map r)
 |[],_=>rfl
 | x::l,h=>by
  have a:=h x La;have i:=zC r l λy I=>h y<|Ld _ I;simp only[Lk,zY]at a ⊢;cases e1:kL T (g x) γ with
  |none=>rw[e1]at a;simp at a
  | some d=>
   rw[e1]at a;simp only[IF]at a ⊢;cases e2:k d with
   |none=>rw[e2]at a;simp at a
   | some b=>
    rw[e2]at a;simp only[IF]at a ⊢;cases b with
    |false=>simp at a
    | true=>
     simp only[UJ]at a ⊢;cases e3:f d with
     |none=>rw[e3]at a;simp at a
     |some e=>
      rw[e3]at a;simp at a;rw[i];simp[a]
theorem zB(z:kL T d γ=cq γ1)(J:k γ1=cq da)(I:f γ1=cq e):zY T k f γ [d]=cq [e]:=by simp[zY,z,J,I]
theorem qW(T F d ds γ):kW T F (d::ds) γ=(kL T d γ).bind λγ1=>(F γ1).bind λO=>match O with
 |.next I=>kW T F ds I
 |.cont I=>kW T F ds I
 |.brk I=>cq (.next I)
 |.ret r=>cq (.ret r):=rfl
theorem Y9(P:Nat->Ctx->Prop):∀(ds:List D) (k:Nat) (γ:Ctx),P k γ->(∀i d γ,ds[i]? = cq d->P (k+i) γ->∃γ',((kL T d γ).bind F=cq (.next γ')\/(kL T d γ).bind F=cq (.cont γ'))/\P (k+i+1) γ')->
 ∃γ',kW T F ds γ=cq (.next γ')/\P (k+ds.length) γ'
 |[],k,γ,h,_=>⟨γ,rfl,h⟩
 | d::ds,k,γ,h,step=>by
  obtain⟨a,e,f⟩:=step 0 d γ rfl h;obtain⟨γ',I,g⟩:=Y9 P ds (k+1) a (by simpa using f) (λi b O j U=>by have:=step (i+1) b O (by simpa using j) (by rw[show k+(i+1)=k+1+i by omega];exact U);rw[show k+(i+1)+1=k+1+i+1 by omega]at this;exact this)
  refine⟨γ',?_,by rw[show k+(d::ds).length=k+1+ds.length by simp;omega];exact g⟩;rw[qW];cases eb:kL T d γ with
  |none=>rw[eb]at e;simp at e
  |some Y=>
   rw[eb]at e;simp only[IF]at e ⊢;rcases e with e|e<;>rw[e]<;>exact I
noncomputable def zG(n:Nat)(f:Nat->Int):List D:=(IA n).map λi=>D.int<|f i
theorem qp(n f):zG n f=(IA n).map λi=>D.int (f i):=rfl
noncomputable def zX(h w:Nat)(f:UV):List D:=(IA h).map λi=>D.tup<|zG w<|f i
noncomputable def j8(h w:Nat)(f:UV):D:=.tup [.int h,.int w,.tup (zX h w f)]
@[simp] theorem kZ(n f):(zG n f).length=n:=by simp[zG]
@[simp] theorem nh(h w f):(zX h w f).length=h:=by simp[zX]
@[simp] theorem FQ(f)(h:i<(zG n f).length):(zG n f)[i]=.int (f i):=by simp[zG]
theorem mX(f)(h:i<n):(zG n f)[i]? = cq (.int<|f i):=by simp[zG,h]
@[simp] theorem FR(f)(z:i<(zX h w f).length):(zX h w f)[i]=.tup (zG w<|f i):=by simp[zX]
theorem wQ(h:∀i,i<n->f i=g i):zG n f=zG n g:=by unfold zG;apply Lf;intro i a;rw[h i (IC.mp a)]
theorem aC(e:∀i j,i<h->j<w->f i j=g i j):zX h w f=zX h w g:=by unfold zX;apply Lf;intro i a;rw[wQ λj I=>e i j (IC.mp a) I]
theorem qL(n:Nat):ZK 0 n=zG n λi=>(i:Int):=by simp[ZK,zG]
theorem wg(n:Nat)(f g:Nat->Int):yW (zG n f) (zG n g)=(IA n).map λi=>D.tup [.int (f i),.int (g i)]:=by unfold yW zG;rw[Ox];simp
theorem Wo(n w:Nat)(f g:UV):yW (zX n w f) (zX n w g)=(IA n).map λi=>D.tup [.tup (zG w<|f i),.tup (zG w<|g i)]:=by unfold yW zX;rw[Ox];simp
noncomputable def zm(f:Nat->Int):Nat->Int
 |0=>0
 |n+1=>zm f n+f n
theorem Jy:∀(xs:List Int) (y:Int),ba (xs.map D.int++[.int y])=(ba<|xs.map D.int).map λs=>s+y
 |[],y=>by simp[ba]
 |x::xs,y=>by simp only[Lk,RL,ba];rw[Jy xs y];cases e:ba (xs.map D.int)<;>simp[Int.add_assoc]
theorem wj(f:Nat->Int):∀n,ba (zG n f)=cq (zm f n)
 |0=>rfl
 |n+1=>by
  have I:=wj f n;have e:∀m,zG m f=((IA m).map f).map D.int:=λm=>by simp[zG]
  rw[e]at I ⊢;rw[MA,LQ,LQ,List.map_singleton,List.map_singleton,Jy,I];simp[zm]
noncomputable def xO:=jq 2<|qt<|jb<|jz<|zU (zR<|zk 1) (.nm 0) 1 [0] jw (zI yT (zh 0)<|zh 1)
noncomputable def cR:=jq 3<|qt<|zE xO<|zb (zh 0)<|zb (jG<|zU (zR<|zJ<|dj (zk 1)<|zy<|.int 2) (.nm 0) 1 [2] jw (iH<|jz<|zU (QR (zh 0)<|zh 1) (.tp [0,1]) 2 [] jw (zI yw (zh 0)<|zh 1))) zF
noncomputable def jP:=jq 2<|zS (jr 1<|jG<|zU (jK<|dj (zk 0)<|zy<|.int 1) (.nm 0) 1 [0] jw (jb<|jz<|zU (zR<|zJ<|dj (zk 1)<|zy<|.int 2) (.nm 0) 1 [0] jw (dj (zk 0)<|zh 1)))<|qt<|xF<|zb (dj (zk 0)<|zy<|.int 1)<|zb (dj (zk 0)<|zy<|.int 0)<|zb (jb<|zk 1) zF
noncomputable def qw:=jq 4<|zS (jr 3<|zE jP<|zb (zh 2) zF)<|qt<|xF<|zb (dj (zk 1)<|zy<|.int 0)<|zb (dj (zk 2)<|zy<|.int 1)<|zb (jb<|jz<|zU (zR<|zJ<|dj (zk 1)<|zy<|.int 2) (.nm 0) 1 [0,3] jw (zE cR<|zb (zh 1)<|zb (zh 2)<|zb (zh 0) zF)) zF
noncomputable def xE:=jq 5<|zS (jr 4<|jG<|zU (QR (dj (zk 1)<|zy<|.int 2)<|dj (zk 3)<|zy<|.int 2) (.tp [0,1]) 2 [0,2] jw (zE xO<|zb (zh 2)<|zb (jG<|zU (QR (zh 0)<|zh 1) (.tp [0,1]) 2 [3] jw (zI qu (zh 0)<|zI yw (zh 2)<|zh 1)) zF))<|qt<|xF<|zb (dj (zk 1)<|zy<|.int 0)<|zb (dj (zk 1)<|zy<|.int 1)<|zb (jb<|zk 4) zF
noncomputable def j7:=jq 2<|zS (jr 1<|jG<|zU (jK<|zh 0) (.nm 0) 1 [0] jw (jb<|jz<|zU (jK<|zh 1) (.nm 0) 1 [0] jw (bq (sB<|zI gw (zh 1)<|zh 0) (zy<|.int 1)<|zy<|.int 0)))<|qt<|xF<|zb (zh 0)<|zb (zh 0)<|zb (jb<|zk 1) zF
noncomputable def xQ:=jq 1<|qt<|rR (DO .int<|zh 0)<|Ef<|DO .bool<|zh 0
noncomputable def w6:=jq 3<|zS (ZV (X0 (zy<|.int 1)<|zh 0) (.nm 2)<|kv (sB<|zI gw (zI yT (zI yw (zh 1)<|zh 2)<|zh 0)<|zy<|.int 1) (XZ 2) qF) WM
noncomputable def qK:=jq 5<|zS (jr 4<|dj (zk 1)<|zh 3)<|zS (kv (sB<|zI gw (zh 4)<|zy<|.int 0) (XZ 1) qF)<|qt<|zE xO<|zb (zh 0)<|zb (jG<|zU (QR (zh 1)<|zh 2) (.tp [0,1]) 2 [4] jw (zI cU (zh 0)<|zI yw (zh 2)<|zh 1)) zF
noncomputable def xD:=jq 9<|zS (jr 3<|jG<|zU (zR<|zk 2) (.nm 0) 1 [0] jw (zE xO<|zb (zh 1)<|zb (zh 0) zF))<|zS (kB 4<|jH zF)<|zS (ZV (jK<|zh 1) (.nm 5)<|zS (jr 6<|jG<|zU (zR<|zk 3) (.nm 0) 1 [5] (sB<|zI l5 (dj (zk 0)<|zh 1)<|zy<|.int 0) (zh 0))<|zS (kv (Zi<|rK<|zk 6) rQ qF)<|zS (jr 7<|zE w6<|zb (zh 0)<|zb (dj (zJ<|dj (zk 6)<|zy<|.int 0)<|zh 5) zF)<|zS (jr 8<|zE xO<|zb (zh 0)<|zb (jG<|zU (zR<|zJ<|dj (zk 6)<|zy<|.int 0) (.nm 0) 1 [7] jw (zI yw (zh 1)<|zh 0)) zF)<|zS (jr 3<|jG<|zU (zR<|zk 3) (.nm 0) 1 [0,5,8] jw (zE qK<|zb (zh 1)<|zb (zh 0)<|zb (zh 3)<|zb (zh 2) zF))<|kB 4<|JF (jz<|zU (zR<|zk 4) (.nm 0) 1 [0,5,8] jw (zE qK<|zb (zh 1)<|zb (zh 0)<|zb (zh 3)<|zb (zh 2) zF))<|jz<|jH<|zb (zh 8) zF)<|XZ 4
noncomputable def qM:=jq 2<|yQ<|zU (zR<|zk 1) (.nm 0) 1 [0] (Zi<|sB<|uQ<|zJ<|WL (zh 0) cS<|p5<|zh 1) (WL (zh 0) (p5<|zh 1) cS)
noncomputable def ky:=jq 5<|zS (jr 3<|jG<|zU (QR (dj (zJ<|zE jP<|zb (zh 1) zF)<|zy<|.int 2)<|dj (zJ<|zE j7<|zb (dj (zk 1)<|zy<|.int 1) zF)<|zy<|.int 2) (.tp [0,1]) 2 [] jw (zI qu (zh 0)<|zh 1))<|zS (jr 4<|jG<|zU (zR<|zk 2) (.nm 0) 1 [1] jw (zI qu (zh 0)<|zI yw (xF<|zb (zy<|.int 0) zF)<|dj (zk 1)<|zy<|.int 1))<|yQ<|jg qM<|zb (dj (zk 1)<|zy<|.int 0)<|zb (jG<|jg xD<|zb (zh 0)<|zb (zI qu (dj (zk 1)<|zy<|.int 0)<|dj (zk 1)<|zy<|.int 1)<|zb (jG<|JF (zk 3)<|zk 4) zF) zF
noncomputable def kn:=jq 2<|yQ<|jg ky<|zb (zh 0)<|zb (zh 1)<|zb (jG<|jH zF) zF
noncomputable def ZG:=jq 2<|yQ<|jg xD<|zb (zh 0)<|zb (dj (zk 1)<|zy<|.int 0)<|zb (dj (zJ<|zE jP<|zb (zh 1) zF)<|zy<|.int 2) zF
noncomputable def qJ:=jq 1<|qt<|dj (jz<|zU (lz<|zh 0) (.tp [0,1]) 2 [] (sB<|zI l5 (zh 1)<|zy<|.int 0) (zh 0))<|zy<|.int 0
noncomputable def vG:=jq 7<|zS (jr 3<|dj (zk 1)<|zy<|.int 1)<|zS (kB 4<|Yq (jz<|jH<|zb (zy<|.int 0) zF)<|zh 3)<|zS (ZV (zR<|zJ<|jG<|jg xD<|zb (zh 0)<|zb (zI qu (zh 3)<|zy<|.int 1)<|zb (jG<|zU (QR (dj (zk 1)<|zy<|.int 2)<|zh 2) (.tp [0,1]) 2 [] jw (zI qu (zh 0)<|xF<|zb (zh 1) zF)) zF) (.nm 5)<|zS (jr 6<|zE qJ<|zb (zh 5) zF)<|zS (kv (sB<|zI gw (zh 6)<|zh 3) (qt<|zy .d7) qF)<|dM 4 (zh 6)<|dj (zk 5)<|zh 3)<|qt<|jb<|zk 4
section
variable(γ:Ctx)
@[simp] noncomputable def GF:=@lz.eq_1
@[simp] theorem EK(F G a b c):dU F G a b c γ=(a γ).bind λx=>(b γ).bind λy=>((F x y).bind C8).bind λk=>if k=da then (c γ).bind λz=>G y z else cq (.bl di):=rfl
@[simp] noncomputable def Gr:=@rL.eq_1
end
noncomputable def kP:=jq 5<|zS (jr 2<|dj (zk 1)<|zy<|.int 0)<|zS (kv (sB<|zI l5 (dj (zk 1)<|zy<|.int 1)<|zh 2) (qt<|zy .d7) qF)<|zS (jr 3<|dj (zJ<|zE j7<|zb (zh 2) zF)<|zy<|.int 2)<|zS (jr 4<|jG<|jg xD<|zb (zh 0)<|zb (zI qu (zh 2)<|zh 2)<|zb (jG<|zU (QR (dj (zk 1)<|zy<|.int 2)<|zh 3) (.tp [0,1]) 2 [] jw (zI qu (zh 0)<|zh 1)) zF)<|zS (kv (sB<|zI l5 (jG<|zU (zR<|zk 4) (.nm 0) 1 [2] jw (WL (zh 0) cS<|p5<|zh 1))<|jG<|dP<|zk 3) (qt<|zy .d7) qF)<|qt<|xF<|zb (zh 2)<|zb (zh 2)<|zb (jb<|jz<|zU (zR<|zk 4) (.nm 0) 1 [2] jw (WL (zh 0) (p5<|zh 1) cS)) zF
section
variable(γ:Ctx)
@[simp] noncomputable def vF:=@qS.eq_1
@[simp] noncomputable def GD:=@vJ.eq_1
@[simp] noncomputable def uG:=@rP.eq_1
end
noncomputable def jT:=jq 2 (qt (bq (sB (zI gw (zh 1) (zy (.str "r")))) (zh 0) (zI qu (zh 0) (zy (.int 1)))))
noncomputable def k8:=jq 2 (qt (bq (sB (zI gw (zh 1) (zy (.str "r")))) (zI qu (zh 0) (zy (.int 1))) (zh 0)))
noncomputable def qH:=jq 1 (qt (rP (zy (.str "")) (jz (zU (zR (zJ (dj (zk 0) (zy (.int 2))))) (.nm 0) 1 [] jw (dj (zk 0) (zy (.int 0)))))))
noncomputable def kx:=jq 2<|qt<|rR (zI gw (dj (zk 0)<|zy<|.int 0)<|dj (zk 1)<|zy<|.int 0)<|zI gw (zE qH<|zb (zh 0) zF)<|zE qH<|zb (zh 1) zF
noncomputable def jU:=jq 2<|kv (Zi<|sB<|zE kx<|zb (zh 0)<|zb (zh 1) zF) WM qF
noncomputable def jR:List D->Option Xn:=WO 2 (wb (Zi (sB (zE kx (zb (zh 0) (zb (zh 1) zF))))) (pH "Unlike") D5)
section
variable{X:Cx}{sc:gB}{N L:List Str}{k:Nat}{a e:ec}{es:List ec}{f:CO D}{g:CO (List D)}{pos p p2:fh}
theorem Jh(U:PV X e f)(hs:u4 e none pos.line X.env=pure di:=by rfl):n5 X (.Expr e pos) (dS f):=yS (Ka U hs) λD k H Y=>by obtain⟨E0,E,g,j,l,O,I,h⟩:=Y;obtain⟨d,i,I⟩:=zH I;subst I;exact⟨g,j,d,O.rc,i,λv b a x r=>h k b a<|O.step x⟩
theorem FO{P:g8}{w:f7}{K:Iy}{z:UZ}{base:eh}{x:Str}{st:h9}{N ps:List Str}{k:Nat}{F:CO Fl}(A:fy K z x st ps)(J:cI N ps st=da)
 (O:∀X:Cx,X.prog=P->X.w=w->X.K=K->X.mg=z->X.base=base->SX X (jy st) N N k->X.xe=(λ_ _=>False)->(X.stack=X.env::X.outer/\X.env.frame=cq X.env.locals)->cW X (kK st) F):
 fx P w K z base (k+1) x ps.length (jq N.length F):=by
 obtain⟨f,b,I,U,d⟩:=A.ex;have S:=Je J;refine⟨f,b,ps,rfl,ud I S λa A outer s H E Y=>?_,d,I.kp,.all U⟩;exact O _ rfl rfl rfl rfl rfl ⟨rfl,rfl,S.nd,rfl,Y,λ_ _=>.inl rfl⟩ rfl ⟨rfl,rfl⟩
structure XI(K:Iy)(mg:UZ)(c:Str):Prop where
 mem:c∈t4
 ex:∃C,QN K c=cq C/\mg c=cq (.ref C)
theorem oT{J:UQ}{σ:St}{H:Hp}{s:d6}{A:i5}{E:EQ}{Q:EQ}{b:dv}{t:dy}{c:Str}{n:Option Int}{H0:Hp}{r:Bool}(I:L2.Inv X J σ H s)(sub:f6 H0 H)(O:B7 X.K H0 c n b)
 (Y:∀C,QN X.K c=cq C->Mh X.K (.ref C) t=cq r) (h:∀Z,Q (.bool r) {s with toks:=Z}):wpAny (d9 X.prog X.w) A (call (.builtin "isinstance") [.ref b,t]) Q E s:=by
 obtain⟨C,d,U,g2,g3,_⟩:=O.ex;obtain⟨S,_,a,_,_⟩:=Jt O.all O.mem U;obtain⟨p,_,_⟩:=(show j1 X.prog X.w H s.heap b (.ext d)from I.ej b _<|sub _ _ g2);exact Lu (ai (cY a)<|cZ a) I.l7 (g3 _ p) (Y C U) (λz=>nomatch z) h
theorem yh{c:Str}(h:SX X sc N L k)(Z:kU sc "isinstance" = da)(z:X.mg "isinstance" = none)(J:kU sc c=da)(x:XI X.K X.mg c)(ha:PV X a f)
 (hs:eA [a,.Name c p2] X.env=[(di,d8 a X.env),(di,d8 (.Name c p2) X.env)]:=by rfl):PV X (.Call (.Name "isinstance" p) [a,.Name c p2] [] pos) (WN c f):=by
 intro g s W H Q I ⟨l,T,d,rc,O,q⟩;obtain⟨w,y,O⟩:=zg O;obtain⟨C,M,P⟩:=x.ex;cases w with
 |exc U n=>
  cases O;refine MC<|xX I (h.gl Z).1 z Oa ?_ ⋯ ⋯;refine Na ?_ (by rw[hs];rfl) rfl;rw[hs];show wpAny _ _ (DP ((di,d8 a X.env)::ow pos [(di,d8 (.Name c p2) X.env)])) _ _ s;refine Mz<|eK (ha g s W H (λv j=>∃e,Ext l H e j/\Rep X.K e (.exc U n) v) I ⟨l,T,_,rc,y,λv j e x r=>⟨e,x,r⟩⟩) λu F A=>?_;obtain⟨v,m,Y,B,o,t,E⟩:=A;obtain⟨b,rfl,i⟩:=(show ∃b,v=.ref b/\B7 X.K o U n b from E);cases (show u=Lr b from B);show wpAny _ _ (DP ((di,d8 (.Name c p2) X.env)::[])) _ _ F;refine Mz<|vZ Y (h.gl J).1 P ?_ (h.gl J).2.2;refine Nv ?_;refine oT Y t.sub i (λC2 g1=>?_) λG=>⟨.bl<|U==c,m,Y.tok G,rfl,q _ m o t rfl⟩;obtain⟨S,_,_,_,R⟩:=Jt i.all i.mem g1;exact R c C x.mem M
 |_=>cases O
theorem uz:Dd "ValueError" = cq (.type "ValueError"):=by decide +kernel
theorem rZ(h:SX X sc N L k)(J:kU sc "isinstance" = da)(z:X.mg "isinstance" = none)(U:kU sc "ValueError" = da)(zv:X.mg "ValueError" = none)(Z:PV X a f)
 (hs:eA [a,.Name "ValueError" p2] X.env=[(di,d8 a X.env),(di,d8 (.Name "ValueError" p2) X.env)]:=by rfl):PV X (.Call (.Name "isinstance" p) [a,.Name "ValueError" p2] [] pos) (Ax f):=by
 intro g s R H Q I ⟨m,P,d,rc,O,q⟩;obtain⟨A,B,O⟩:=zg O;cases A with
 |exc y n=>
  cases O;refine MC (xX I (h.gl J).1 z Oa ?_ ⋯ ⋯);refine Na ?_ (by rw[hs];rfl) rfl;rw[hs];show wpAny _ _ (DP ((di,d8 a X.env)::ow pos [(di,d8 (.Name "ValueError" p2) X.env)])) _ _ s;refine Mz (eK (Z g s R H (λv l=>∃e,Ext m H e l/\Rep X.K e (.exc y n) v) I ⟨m,P,_,rc,B,λv l e x r=>⟨e,x,r⟩⟩) λu G C=>?_);obtain⟨v,o,Y,E,t,w,F⟩:=C;obtain⟨b,rfl,i⟩:=(show ∃b,v=.ref b/\B7 X.K t y n b from F);cases (show u=Lr b from E);show wpAny _ _ (DP ((di,d8 (.Name "ValueError" p2) X.env)::[])) _ _ G;refine Mz (xX Y (h.gl U).1 zv uz ?_ (h.gl U).2.1 (h.gl U).2.2);refine Nv ?_;refine oT (r:=da) Y w.sub i (λT g1=>?_) λM=>⟨.bl da,o,Y.tok M,rfl,q _ o t w rfl⟩;obtain⟨S,_,j,_,_⟩:=Jt i.all i.mem g1;unfold nN at j;simp only[IK,beq_iff_eq]at j;exact j.1.1.1.1.1.1.1.1.1.2
 |_=>cases O
structure GL(K:Iy)(mg:UZ)(x:Str)(d:D):Prop where
 ex:∃u v,mg x=cq u/\RelV v u/\∀H,Rep K H d v
theorem AO{x:Str}{d:D}(h:SX X sc N L k)(c:kU sc x=da)(O:GL X.K X.mg x d):PV X (.Name x pos) (zy d):=by intro b s j H Q I ⟨a,i,g,rc,U,q⟩;cases U;obtain⟨u,v,e,f,Y⟩:=O.ex;exact vZ I (h.gl c).1 e ⟨v,H,I,f,q v H a (Ext.refl rc.sub)<|Y a⟩ (h.gl c).2.2
end
section
variable{K:Iy}{mg:UZ}{h:eh}
theorem fL{c:Str}{C:dv}(I:K.In h)(G:h.Ns q7 mg)(e:QN K c=cq C):mg c=cq (.ref C):=by
 unfold QN at e;split at e
 ·rename_i O q
  cases e;exact PySem.W.mg_of I G q
 ·cases e
noncomputable def c_(K:Iy):Bool:=match QN K "SplitError" with
 |some S=>Pw K (.ref S)==cq (.type "type")&&ML K S (.type "BaseException")==cq da&&(Pa K S).isSome&&ML K S (.ref S)==cq da
 |none=>di
noncomputable def b_(K:Iy)(c:Str):Bool:=match QN K c with
 |some C=>EN K C
 |none=>di
theorem HE(I:K.In h)(G:h.Ns q7 mg)(e:c_ K=da):XS K mg:=by
 unfold c_ at e;split at e
 ·rename_i S q
  simp only[IK,beq_iff_eq]at e;exact⟨S,q,fL I G q,e.1.1.1,e.1.1.2,e.1.2,e.2⟩
 ·cases e
theorem HF{c:Str}(I:K.In h)(G:h.Ns q7 mg)(e:Wr K=da)(z:c∈t4):XI K mg c:=by
 unfold Wr at e;split at e
 ·have a:=Mu.mp e c z
  split at a
  ·rename_i C q
   exact⟨z,C,q,fL I G q⟩
  ·cases a
 ·cases e
theorem HG{c:Str}(I:K.In h)(G:h.Ns q7 mg)(e:Wr K=da)(z:c∈t4)(b:b_ K c=da):XC K mg c:=by
 unfold b_ at b;split at b
 ·rename_i C q
  exact⟨e,z,C,q,fL I G q,b⟩
 ·cases b
theorem Hd{x:Str}{n:Int}{t:qs}(I:K.In h)(G:h.Ns q7 mg)(a:OC K q7 x=cq (cq (.int n t))):GL K mg x (.int n):=
 ⟨_,.int n,PySem.W.mg_of I G a,⟨t,rfl⟩,λ_=>(show V.int n=.int n from rfl)⟩
end
theorem qz(h:B5 X es n g):Dw X es g:=h.1
section
variable{X:Cx}{sc:gB}{N L:List Str}{k:Nat}{a b e:ec}{pos p p2:fh}{f g:CO D}
theorem bz{c:ec}{z:CO D}(J:PV X a z){U:CO (Sk×List D)}(Z:PQ X c U)(hm:Dc .NotIn c=di:=by with_unfolding_all rfl):ni X (.Compare a [.NotIn] [c] pos) (sB<|X3 z U):=
 bB (eQ YC J Z hm) λP H Q B=>by
  obtain⟨j,h,d,rc,I,q⟩:=B;obtain⟨G,o,y⟩:=zg I;obtain⟨x,s,I⟩:=zg o;obtain⟨⟨f,n⟩,t,I⟩:=zg I;obtain⟨i,u,I⟩:=zg I;obtain⟨l,w,rfl⟩:=zH I;cases y;refine⟨j,h,x,rc,s,λY F k g O=>⟨k,h,f,n,rc.ext g,t,λp N b m E e M r=>?_⟩⟩;rw[jW u]at O;have A:=YX r w;subst A;have C:gv X.K b p (l.map V.int)\/gR X.K b p (l.map V.int):=by
   cases f with
   |L=>exact .inl e
   |T=>exact .inr e
  refine⟨p,_,rfl,C,by rw[show Y=.int i from O];rfl,Va l,?_⟩;rw[show Y=.int i from O,gk];exact⟨_,rfl,q b m<|g.trans E⟩
end
end DL
namespace L2
open PySem PySem.Spec PyProof.Rows
theorem FJ(z:Str):SS z = "str_ascii_iterator"\/SS z = "str_iterator":=by unfold SS;split<;>simp
theorem aA{X:Cx}{J:UQ}{σ:St}{H:Hp}{s:d6}{E:EQ}{z it:dv}{i L:Nat}{x:dy}{v:V}{g:eh}{Z:List ec}{x1:Nat}{tx:fh}{Q:Unit->d6->Prop}
 (I:Inv X J σ H s) (hf:∀b ∈ [z,it],vR X J H b) (hz:z<s.heap.objs.size) (hi:it<s.heap.objs.size) (a1:S4 g z it ((i:Int)+1) x s.heap.objs.size)
 (a3:m4 g s.heap.objs.size (.int i L) x) (a5:∀b o,b≠z->b≠it->s.heap.get? b=cq o->g.get? b=cq o) (rx:RelV v x)
 (a8:∀g2,y6 g2 z it ((i+1:Nat):Int) x->NI z g g2->Inv X J σ (upd H s.heap.objs.size<|.tup [.int i,v]) {s with heap:=g2,toks:=L+1}->H s.heap.objs.size=none->
   (∀b ∈ [z,it],upd H s.heap.objs.size (.tup [.int i,v]) b=none)->Q () {s with heap:=g2,toks:=L+1}):
 wpAny (d9 X.prog X.w) X.A (Sy (.Tuple Z x1 tx) (.ref z)<|.ref s.heap.objs.size) Q E {s with heap:=g,toks:=L+1}:=by
 refine _i a1 λg2 a Y=>?_;have d:m4 g2 s.heap.objs.size (.int i L) x:=Y.extBut _ _ (MS hz) a3;have h:∀O u,O ∉ [z,it]->s.heap.get? O=cq u->g2.get? O=cq u:=λO u U e=>by simp only[IM,IW,or_false,not_or]at U;exact Y.extBut _ _ U.1<|a5 O u U.1 U.2 e
 refine a8 g2 (by have:=a;rwa [show((i:Int)+1)=((i+1:Nat):Int)by omega]at this) Y (I.Ua (fp:=[z,it]) h hf (II _) ⟨by show 2<=el;decide,[.int i L,x],.cons ⟨_,rfl⟩<|.cons rx .nil,⟨_,d,rfl,_,rfl⟩⟩) I.fresh λO U=>?_;have f:O≠s.heap.objs.size:=by
  simp only[IM,IW,or_false]at U;rcases U with rfl|rfl
  ·exact IX hz
  ·exact IX hi
 rw[zK f];exact(hf O U).1
noncomputable def GR(K:Iy)(a:dv):It:=
 ⟨λi H=>∃b,gv K H a b/\i<b.length,
  λi H x d=>∃p u,x=.ref p/\H p=none/\d=upd H p (.tup [.int i,u])/\(∀b,gv K H a b->b[i]? = cq u),
  λi H=>∃b,gv K H a b/\b.length=i⟩
theorem aY{P:g8}{w:f7}{K:Iy}{elts:List ec}{x1:Nat}{tx:fh}{z it a:dv}(ab:z≠it):
 Turn P w K (.Tuple elts x1 tx) (GR K a) [z,it] z (λi h=>(∃U,y6 h z it i U)/\h.IsListIter it a i) where
 mem:=by simp
 obj:=λi h ⟨⟨U,hz⟩,h1⟩ y hy=>by
  simp only[IM,IW,or_false]at hy;rcases hy with rfl|rfl
  ·exact⟨_,hz,λv q=>by cases q⟩
  ·obtain⟨o,e,c,d⟩:=h1
   exact⟨o,e,λv q=>by rw[d]at q;cases q⟩
 keep:=λi h h' ⟨⟨U,hz⟩,h1⟩ k=>⟨⟨U,k z ⋯ _ hz⟩,h1.at λo e=>k it ⋯ o e⟩
 item:=by
  rintro X rfl rfl rfl hc i pins s σ H E I hf ⟨⟨U,hz⟩,h1⟩ ⟨xs,a7,ax⟩;obtain⟨a8,a9,p1,z1⟩:=I.list a7;have Y:=p1.isList;have hx:xs[i]? = cq xs[i]:=ID ax;have l1:=a9.length;have ak:a≠it:=λe=>by obtain⟨o,e1,O,_⟩:=Y;obtain⟨o2,e2,c2,_⟩:=h1;rw[e,e2]at e1;cases e1;rw[c2]at O;exact absurd O ⋯
  have b4:z≠a:=λe=>by obtain⟨o,e1,O,_⟩:=Y;have ap:s.heap.get? z=cq _:=hz;rw[e,e1]at ap;cases ap;exact absurd O ⋯
  have b5:it<s.heap.objs.size:=by obtain⟨o2,e2,_⟩:=h1;exact IP e2
  have Dr:=Draws.list (prog:=X.prog) (w:=X.w) (A:=X.A.in1) (show X.A.in1.handled=none from I.ok.hd hc) it a ak a8.toArray;refine _l Dr hz ⟨h1,Y⟩ (by simp;omega) ab (by simp;exact⟨ab,b4⟩) λx g tk hP a1 a2 a3 a4 a5=>⟨_,rfl,?_⟩;obtain⟨u1,bd,be⟩:=a9.get hx;obtain rfl:u1=x:=by have:=hP;simp[bd]at this;exact this
  refine aA I hf (IP hz) b5 a1 a3 a5 be λg2 b1 b2 I1 bg hn=>⟨.ref s.heap.objs.size,_,I1,rfl,⟨_,_,rfl,bg,rfl,λbu bi=>by rw[I.TK bi a7];exact hx⟩,⟨⟨_,b1⟩,a2.1.at λo e=>b2.extBut _ _ ab.symm e⟩,hn⟩
 done:=by
  rintro X rfl rfl rfl hc i pins s σ H E I hf ⟨⟨U,hz⟩,h1⟩ ⟨xs,a7,hi⟩;obtain⟨a8,a9,p1,z1⟩:=I.list a7;have Y:=p1.isList;have l1:=a9.length;have ak:a≠it:=λe=>by obtain⟨o,e1,O,_⟩:=Y;obtain⟨o2,e2,c2,_⟩:=h1;rw[e,e2]at e1;cases e1;rw[c2]at O;exact absurd O ⋯
  have Dr:=Draws.list (prog:=X.prog) (w:=X.w) (A:=X.A.in1) (show X.A.in1.handled=none from I.ok.hd hc) it a ak a8.toArray;have en:a8.toArray.size=i:=by simp;omega
  rw[en]at Dr;refine _k Dr hz ⟨h1,Y⟩ λg hk=>⟨rfl,?_⟩;refine I.C7 (t':=s.toks) (fp:=[z,it]) (λb' u hb e=>?_) hf;simp only[IM,IW,or_false,not_or]at hb;exact hk b' u hb.2 e
 self:=λ_ _ _ _ _ st h=>yn st.1.choose_spec h
noncomputable def GQ(z:Str):It:=
 ⟨λi _=>i<z.cps.size,λi H x a=>∃p c,x=.ref p/\H p=none/\a=upd H p (.tup [.int i,.str ⟨#[c]⟩])/\z.cps[i]? = cq c,λi _=>i=z.cps.size⟩
theorem Vf{prog:g8}{w:f7}{A:i5}(I:A.handled=none)(it:dv)(x:Str)(t:qs):
 Draws prog w A it [it] x.cps.size (λi v=>∃c u,x.cps[i]? = cq c/\v=.str ⟨#[c]⟩ u) (λi h=>h.IsStrIter it (SS x) x t i):=by
 rcases FJ x with q|q
 ·rw[q];exact Draws.strAscii I it x t
 ·rw[q];exact Draws.strWide I it x t
theorem aX{P:g8}{w:f7}{K:Iy}{elts:List ec}{x1:Nat}{tx:fh}{z it:dv}(x:Str)(t:qs)(U:z≠it):
 Turn P w K (.Tuple elts x1 tx) (GQ x) [z,it] z (λi h=>(∃O,y6 h z it i O)/\h.IsStrIter it (SS x) x t i) where
 mem:=by simp
 obj:=λi h ⟨⟨O,hz⟩,h1⟩ y hy=>by
  simp only[IM,IW,or_false]at hy;rcases hy with rfl|rfl
  ·exact⟨_,hz,λv q=>by cases q⟩
  ·obtain⟨o,e,c,d⟩:=h1
   exact⟨o,e,λv q=>by rw[d]at q;cases q⟩
 keep:=λi h h' ⟨⟨O,hz⟩,h1⟩ k=>⟨⟨O,k z ⋯ _ hz⟩,by obtain⟨o,e,r⟩:=h1;exact⟨o,k it ⋯ o e,r⟩⟩
 item:=by
  rintro X rfl rfl rfl Y i pins s σ H E I hf ⟨⟨O,hz⟩,h1⟩ a9;have aa:it<s.heap.objs.size:=by obtain⟨o2,e2,_⟩:=h1;exact IP e2
  have Dr:=Vf (prog:=X.prog) (w:=X.w) (A:=X.A.in1) (show X.A.in1.handled=none from I.ok.hd Y) it x t;refine _l Dr hz h1 a9 U (by simp;exact U) λu g tk hP a1 a2 a3 a4 a5=>⟨_,rfl,?_⟩;obtain⟨c,tu,an,rfl⟩:=hP;refine aA (v:=.str ⟨#[c]⟩) I hf (IP hz) aa a1 a3 a5 ⟨_,rfl⟩ λg2 b1 b2 I1 as hn=>⟨.ref s.heap.objs.size,_,I1,rfl,⟨_,_,rfl,as,rfl,an⟩,⟨⟨_,b1⟩,?_⟩,hn⟩;obtain⟨o,e,r⟩:=a2;exact⟨o,b2.extBut _ _ U.symm e,r⟩
 done:=by rintro X rfl rfl rfl Y i pins s σ H E I hf ⟨⟨O,hz⟩,h1⟩ hi;have hi:i=x.cps.size:=hi;subst hi;have Dr:=Vf (prog:=X.prog) (w:=X.w) (A:=X.A.in1) (show X.A.in1.handled=none from I.ok.hd Y) it x t;refine _k Dr hz h1 λg hk=>⟨rfl,?_⟩;refine I.C7 (t':=s.toks) (fp:=[z,it]) (λb' u hb e=>?_) hf;simp only[IM,IW,or_false,not_or]at hb;exact hk b' u hb.2 e
 self:=λ_ _ _ _ _ st h=>yn st.1.choose_spec h
noncomputable def Ci(K:Iy)(z:TA):TI:=λf H R=>z f H λd b=>∃a,d=[.ref a]/\(∃e,gv K b a e)/\R (GR K a) b
noncomputable def Cg(I:TA):TI:=λd H R=>I d H λb a=>∃z,b=[.str z]/\R (GQ z) a
section
variable{X:Cx}{e1:ec}{ta:TA}{p pos:fh}{elts:List ec}{x1:Nat}{tx:fh}
theorem lU(J:Gl X "enumerate")(L:X.mg "enumerate" = none)(z:PA X [e1] ta)
 (Z:Dd "enumerate" = cq (.type "enumerate")) (hs:eA [e1] X.env=[(di,d8 e1 X.env)]:=by rfl):
 PI X (.Tuple elts x1 tx) (.Call (.Name "enumerate" p) [e1] [] pos) (Ci X.K ta):=by
 intro b s t H R I h;refine D8<|xX I J L Z<|LA (eK (z pos b s t H _ I h) λy d m=>?_) (by rw[hs];rfl) rfl;obtain⟨A,f,O,r,o⟩:=m;obtain⟨a,rfl,⟨C,i⟩,q⟩:=o;obtain⟨B,rfl,j⟩:=yx r;cases j;obtain⟨u,w,n,E⟩:=O.list i;refine call_enumerate_list n.isList λg e k x l=>yn (s:={d with heap:=g}) e ?_;refine⟨_,[d.heap.objs.size+1,d.heap.objs.size],_,_,f,rfl,O.kept (t':=d.toks) l,aY<|MS<|Mv _,⟨⟨_,e⟩,k⟩,λc U=>?_,q⟩;have Y:d.heap.objs.size<=c:=by
  simp only[IM,IW,or_false]at U;rcases U with rfl|rfl
  ·exact Ln _ _
  ·exact II _
 exact O.Di Y<|O.ej.fresh Y
theorem lT(L:Gl X "enumerate")(Z:X.mg "enumerate" = none)(J:PA X [e1] ta)
 (hv:Dd "enumerate" = cq (.type "enumerate")) (hs:eA [e1] X.env=[(di,d8 e1 X.env)]:=by rfl):
 PI X (.Tuple elts x1 tx) (.Call (.Name "enumerate" p) [e1] [] pos) (Cg ta):=by
 intro a s n H R I h;refine D8<|xX I L Z hv<|LA (eK (J pos a s n H _ I h) λr b k=>?_) (by rw[hs];rfl) rfl;obtain⟨u,e,O,m,l⟩:=k;obtain⟨z,rfl,q⟩:=l;obtain⟨w,rfl,f⟩:=yx m;obtain⟨t,rfl⟩:=f;refine call_enumerate_str λg d i o j=>yn (s:={b with heap:=g}) d ?_;refine⟨_,[b.heap.objs.size+1,b.heap.objs.size],_,_,e,rfl,O.kept (t':=b.toks) j,aX z t<|MS<|Mv _,⟨⟨_,d⟩,i⟩,λc U=>?_,q⟩;have Y:b.heap.objs.size<=c:=by
  simp only[IM,IW,or_false]at U;rcases U with rfl|rfl
  ·exact Ln _ _
  ·exact II _
 exact O.Di Y<|O.ej.fresh Y
end
theorem Aq{X:Cx}:Sg X (λx lo J H Q=>∃z,x=.str z/\z.length<=el/\Q (.str<|Txt.slice z lo J) H):=by
 rintro a s i H x v m n lo J j Q I h ⟨o,O,U,b⟩ f g ⟨z,rfl,d,q⟩;obtain⟨t,rfl⟩:=h;have Y:∀e k,EP X a i Q (.str (Txt.slice z lo J) e) {s with toks:=k}:=λe k=>⟨.str _,H,I.tok k,⟨_,rfl⟩,q⟩;refine⟨"str",_,F.slot_str_getitem.lookup,RY _ _ _,?_⟩;cases f<;>cases g
 ·exact Og (l:=none) (u:=none) (st:=none) ⟨o,O,U,b⟩ rfl<|Rh ⟨LG (RJ z _ _) d,Y⟩
 ·exact Og (l:=none) (u:=cq (_,_)) (st:=none) ⟨o,O,U,b⟩ rfl<|Rh ⟨LG (RJ z _ _) d,Y⟩
 ·exact Og (l:=cq (_,_)) (u:=none) (st:=none) ⟨o,O,U,b⟩ rfl<|Rh ⟨LG (RJ z _ _) d,Y⟩
 ·exact Og (l:=cq (_,_)) (u:=cq (_,_)) (st:=none) ⟨o,O,U,b⟩ rfl<|Rh ⟨LG (RJ z _ _) d,Y⟩
end L2
namespace DL
open PySem PySem.Spec PyProof.Rows L2
theorem Yp(z:Str):(kg z).length=z.cps.size:=by simp[kg]
theorem lj(z:Str){i c:Nat}(h:z.cps[i]? = cq c):(kg z)[i]? = cq (.str ⟨#[c]⟩):=by simp[kg,h]
theorem aT{K:Iy}{H0 J:Hp}(z:Str):Walk K H0 J (GQ z) (xw<|kg z):=by
 have b:(xw<|kg z).length=z.cps.size:=by simp[xw,Yp]
 refine⟨λi d s a=>?_,λd s=>?_,λi d x f s a y=>?_⟩
 ·rw[b]at a;exact a
 ·rw[b];exact rfl
 ·obtain⟨p,c,rfl,I,rfl,O⟩:=y
  refine⟨.tup [.int i,.str ⟨#[c]⟩],?_,λe h g=>⟨upd e p<|.tup [.int i,.str ⟨#[c]⟩],Ext.alloc g I _,?_⟩⟩
  ·rw[b]at a
   unfold xw;rw[LO,OF (by rw[Yp];exact a),IU,lj z O];rfl
  ·exact xK (gR.of zM)<|d5.cons (show V.int i=.int i from rfl)<|d5.cons (show V.str ⟨#[c]⟩=.str ⟨#[c]⟩from rfl) d5.nil
theorem aU{K:Iy}{H0 z:Hp}{a:dv}{xs:List V}{ds:List D}(h:gv K z a xs)(r:d5 K H0 ds xs):Walk K H0 z (GR K a) (xw ds):=by
 have Y:=r.length;have m:(xw ds).length=ds.length:=by simp[xw]
 refine⟨λi b s k=>?_,λb s=>?_,λi b x g s k y=>?_⟩
 ·exact⟨xs,s.seq h,by omega⟩
 ·exact⟨xs,s.seq h,by omega⟩
 ·obtain⟨p,u,rfl,I,rfl,O⟩:=y
  obtain⟨d,j,U⟩:=r.M0<|O xs<|s.seq h;refine⟨.tup [.int i,d],?_,λf l e=>⟨upd f p<|.tup [.int i,u],Ext.alloc e I _,?_⟩⟩
  ·unfold xw
   rw[LO,OF ⋯,IU,j];rfl
  ·exact xK (gR.of zM)<|d5.cons (show V.int i=.int i from rfl)<|d5.cons ((U.mono l).mono (jC (jx e I) _)) d5.nil
section
variable{X:Cx}{sc:gB}{N L:List Str}{k:Nat}{a b e:ec}{pos p p2:fh}{f fa fb:CO D}
theorem sJ{J:List ec}{x1:Nat}{Z:fh}(h:SX X sc N L k)(c:kU sc "enumerate" = da)(z:X.mg "enumerate" = none)(ha:PV X a f)(hs:eA [a] X.env=[(di,d8 a X.env)]:=by rfl):
 i3 X (.Tuple J x1 Z) (.Call (.Name "enumerate" p) [a] [] pos) (Yr f):=
 Kc (lT (h.gl c).1 z (jm ha qc hs) Uu hs) λl H R U=>by
  obtain⟨i,j,e,rc,I,q⟩:=U;obtain⟨d,Y,I⟩:=zg I;cases d with
  | str z=>
   by_cases O:jo z=da
   ·have I:(if jo z=da then cq (xw<|kg z)else none)=cq e:=I
    rw[UJ O]at I;cases I;exact⟨i,j,_,rc,Y,λv g b x r=>⟨z,by rw[show v=.str z from r],q _ g b x<|aT z⟩⟩
   ·have I:(if jo z=da then cq (xw<|kg z)else none)=cq e:=I
    rw[UY O]at I;cases I
  |_=>cases I
theorem sL(h:SX X sc N L k)(c:kU sc "enumerate" = da)(z:X.mg "enumerate" = none)(J:PV X a f)(hs:eA [a] X.env=[(di,d8 a X.env)]:=by rfl):
 i3 X (.Tuple elts x1 tx) (.Call (.Name "enumerate" p) [a] [] pos) (nX f):=
 Kc (lU (h.gl c).1 z (jm J qc hs) Uu hs) λo H R U=>by
  obtain⟨g,l,m,rc,I,q⟩:=U;obtain⟨d,Y,I⟩:=zg I;cases d with
  |lst n=>
   cases I;refine⟨g,l,_,rc,Y,λv e b x r=>?_⟩;obtain⟨i,j,rfl,O,g2⟩:=fO r;exact⟨i,rfl,⟨j,x.sub.seq O⟩,q _ e b x<|aU O g2⟩
  |_=>cases I
theorem VF(z:PV X a fa)(U:PV X b fb):PV X (.BinOp a .Add b pos) (X4 fa fb):=
 qb (lV bK z U) λB H Q Y=>by
  obtain⟨g,f,d,rc,I,q⟩:=Y;obtain⟨x,k,I⟩:=zg I;obtain⟨y,l,I⟩:=zg I;cases x with
  | str u=>
   cases y with
   | str w=>
    by_cases O:jo u=da/\jo w=da
    ·have I:(if jo u=da/\jo w=da then cq (D.str<|u++w)else none)=cq d:=I
     rw[UJ O]at I;cases I;refine⟨g,f,_,rc,k,λt p i e m=>⟨i,f,_,rc.ext e,l,λA h j o n=>⟨u,w,m,n,?_,q _ h j (e.trans o) rfl⟩⟩⟩;have r:=wq O.1;have s:=wq O.2;have:2000<=el:=by decide
     omega
    ·have I:(if jo u=da/\jo w=da then cq (D.str<|u++w)else none)=cq d:=I
     rw[UY O]at I;cases I
   |_=>cases I
  |_=>cases I
theorem oi{lo J:Option ec}{U Y:CO (Option Int)}(Z:PV X a f)(hl:L2.PO X lo (tB X.K U))(hh:L2.PO X J (tB X.K Y)):PV X (.Subscript a (.Slice lo J none p2) pos) (Fg f U Y):=
 qb (W1 Aq Z hl hh) λB H Q s=>by
  obtain⟨i,e,d,rc,I,q⟩:=s;obtain⟨g,n,I⟩:=zg I;obtain⟨l,o,I⟩:=zg I;obtain⟨u,p,I⟩:=zg I;refine⟨i,e,g,rc,n,λv y b x r=>⟨b,e,l,rc.ext x,o,λA k h=>⟨k,e,u,(rc.ext x).ext h,p,λj m t=>?_⟩⟩⟩;have w:=x.trans<|h.trans t;cases g with
  | str z=>
   by_cases O:jo z=da
   ·have I:(if jo z=da then cq (D.str<|Txt.slice z l u)else none)=cq d:=I
    rw[UJ O]at I;cases I;exact⟨z,r,Zh O,q _ j m w rfl⟩
   ·have I:(if jo z=da then cq (D.str<|Txt.slice z l u)else none)=cq d:=I
    rw[UY O]at I;cases I
  |_=>cases I
end
end DL
namespace DL
open PySem L2 PyProof.Rows
open PySem.W (KasT kas_sort kas_asc kas_desc kas_tail3 kas_descPart kas_count kas_place kas_bin kas_rev)
noncomputable def Good{z:Type}(n:Nat)(P:z->Prop):KasT z->Prop
 |.ret a=>P a
 |.ask i j k=>i<n/\j<n/\∀b,Good n P<|k b
theorem Good.mono{z:Type}{n:Nat}{P I:z->Prop}(h:∀a,P a->I a):∀{t:KasT z},Good n P t->Good n I t
 |.ret a,g=>h a g
 |.ask i j k,g=>⟨g.1,g.2.1,λb=>(g.2.2 b).mono h⟩
theorem Good.bind{z β:Type}{n:Nat}{P:z->Prop}{I:β->Prop}{f:z->KasT β}(J:∀a,P a->Good n I (f a)):∀{t:KasT z},Good n P t->Good n I (t.bind f)
 |.ret a,g=>J a g
 |.ask i j k,g=>⟨g.1,g.2.1,λb=>(g.2.2 b).bind J⟩
theorem Good.run:∀{t:KasT α},Good n P t->P (ku lt t)
 |.ret a,g=>g
 |.ask i j k,g=>(g.2.2 _).run
noncomputable def Pm(n:Nat)(p:Array Nat):Prop:=p.toList.Perm<|IA n
theorem Pm.lt(h:Pm n p)(z:0<n)(i:Nat):p.getD i 0<n:=by
 by_cases a:i<p.size
 ·have e:p.getD i 0=p[i]:=by simp[Array.getD,a]
  rw[e];exact IC.mp<|h.mem_iff.mp ⋯
 ·have e:p.getD i 0=0:=by simp[Array.getD,a]
  rw[e];exact z
theorem Pm.rev(h:Pm n p)(i j:Nat):Pm n (kas_rev p i j):=(Array.perm_iff_toList_perm.mp<|mirror_perm p i j _).trans h
theorem Pm.F'(h:Pm n p)(i j:Nat):Pm n (bubble p i j):=(Array.perm_iff_toList_perm.mp<|bubble_perm p i j).trans h
theorem Kt(h:Pm n p)(z:0<n):∀f m,Good n (λ_=>True) (kas_asc p f m)
 |0,m=>trivial
 |f+1,m=>⟨h.lt z _,h.lt z _,λb=>by
  cases b with
  |true=>exact trivial
  |false=>exact Kt h z f<|m+1⟩
theorem wN(z:0<n):∀f p m q,Pm n p->Good n (λr=>Pm n r.1) (kas_desc f p m q)
 |0,p,m,q,h=>h
 | f+1,p,m,q,h=>⟨h.lt z _,h.lt z _,λb=>by
  cases b with
  |true=>
   show Good n _ (if q>0 then _ else _);split
   ·exact wN z f _ _ _<|h.rev _ _
   ·exact wN z f _ _ _ h
  |false=>exact⟨h.lt z _,h.lt z _,λd=>by
   cases d with
   |true=>exact h
   |false=>exact wN z f _ _ _ h⟩⟩
theorem Y4{n:Nat}(z:0<n)(m r:Nat){p:Array Nat}(h:Pm n p):Good n (λr=>Pm n r.2) (kas_tail3 m r p):=by unfold kas_tail3;refine Good.bind (P:=λ_=>True) (λa _=>?_)<|Kt (h.rev _ _) z _ _;exact(show Pm n (kas_rev p 0 m)from h.rev _ _)
theorem Y6{n:Nat}(z:0<n)(m r:Nat){p:Array Nat}(h:Pm n p):Good n (λr=>Pm n r.2) (kas_descPart m r p):=
 (wN z _ _ _ _ h).bind λa b=>by
   show Good n _ (if a.2.2>0 then _ else _);split
   ·exact Y4 z _ _<|Pm.rev b _ _
   ·exact Y4 z _ _ b
theorem cp{n:Nat}(z:0<n)(r:Nat){p:Array Nat}(h:Pm n p):Good n (λr=>Pm n r.2) (kas_count r p):=
 (Kt h z _ _).bind λm _=>by
   show Good n _ (if (m==r)=da then _ else if m>1 then _ else _);split
   ·exact h
   ·split
    ·exact⟨h.lt z _,h.lt z _,λc=>by
      cases c with
      |true=>exact h
      |false=>exact Y6 z _ _<|h.rev _ _⟩
    ·exact Y6 z _ _ h
theorem Zz(z:0<n)(h:Pm n p)(k:Nat):∀f l r,Good n (λ_=>True) (kas_place p k f l r)
 |0,l,r=>trivial
 |f+1,l,r=>by
  show Good n _ (if l>=r then _ else _);split
  ·exact trivial
  ·exact⟨h.lt z _,h.lt z _,λc=>by
    cases c with
    |true=>exact Zz z h k f _ _
    |false=>exact Zz z h k f _ _⟩
theorem au{n:Nat}(z:0<n):∀f p k,Pm n p->Good n (Pm n) (kas_bin f p k)
 |0,p,k,h=>h
 |f+1,p,k,h=>(Zz z h k k 0 k).bind λl _=>au z f _ _<|h.F' _ _
theorem Y5{n:Nat}(z:0<n):Good n (Pm n) (kas_sort n):=
 (cp z n<|show Pm n (OO<|IA n)from List.Perm.refl _).bind λr I=>by
   show Good n _ (if r.1<n then _ else _);split
   ·exact au z _ _ _ I
   ·exact I
theorem qU(ps:List (Int×Int)):(kT ps).Perm (IA ps.length):=by
 unfold kT;split
 ·exact List.Perm.refl _
 ·exact(Y5 ⋯).run
theorem jD(d:α):∀ds:List α,(IA ds.length).map (λi=>ds.getD i d)=ds:=λds=>by
 apply List.ext_getElem?;intro i;by_cases a:i<ds.length
 ·simp[a]
 ·simp[a,Nat.not_lt.mp a]
end DL
namespace DL
open PySem PySem.Spec PyProof.Rows L2
open PySem.W (KasT kas_sort kas_ask kat_run kat_snds kat_lt kat_cons kat_no kat_yes kat_nil kat_go kat_one kat_kind KatTups KatGo)
theorem gC(I:∀i j C,i<n->j<n->C (lt i j) s->cmp i j C s):
 ∀{t:KasT α},Good n P t->Q (ku lt t) s->t.kasWp cmp Q s
 |.ret _,_,q=>q
 |.ask i j k,g,q=>I i j _ g.1 g.2.1<|gC I (g.2.2 _) q
noncomputable def Sh(h:eh)(v:dy)(k l:Int):Prop:=∃x o a m t u,v=.ref x/\h.get? x=cq o/\o.cls=.type "tuple"/\o.data=.seq a m/\a.toList=[.int k t,.int l u]
theorem Sh.one(a:Sh h v k l):CZ h v k:=by obtain⟨x,o,e,m,t,u,b,d,I,O,U⟩:=a;exact⟨x,o,e,m,t,b,d,I,O,by rw[<-Array.getElem?_toList,U];rfl⟩
section
variable{X:Cx}
theorem Yt{K:Iy}{H:Hp}{ds:List D}{xs:List V}(r:d5 K H ds xs):∀(o:List Nat),(∀i∈o,i<xs.length)->d5 K H (o.map λi=>ds.getD i .d7) (o.map λi=>xs.getD i .d7)
 |[],_=>d5.nil
 |i::o,h=>by have a:=h i La;obtain⟨d,b,I⟩:=r.M0<|ID a;refine d5.cons ?_ (Yt r o λj O=>h j<|Ld _ O);show Rep K H (ds.getD i .d7) (xs.getD i .d7);rw[IG,IG,ID a,b];exact I
end
end DL
namespace DL
open PySem PySem.Spec PyProof.Rows L2
theorem w9{H:Hp}{x:dv}{o z:HO}:upd (upd H x o) x z=upd H x z:=by
 funext b;by_cases h:b=x
 ·subst h;rw[zM,zM]
 ·rw[zK h,zK h,zK h]
section
variable{X:Cx}{sc:gB}{N L:List Str}{k:Nat}{a:ec}{pos:fh}{f:CO (List D)}
theorem sy(i:Nat)(h:SX X sc N L k)(c:Ju sc N i x=da)(ha:PO X a f)(hs:eA [a] X.env=[(di,d8 a X.env)]:=by rfl)
 (z:L3 (.Name x np) "extend" X.env (d8 (.Name x np) X.env)=d8 (.Name x np) X.env:=by rfl)
 (J:((ow cpos<|starEach [a] X.env).all (λx=> !x.1)&&(E9 cpos<|keywordEach [] X.env).all (λx=>x.1.isSome)
   &&decide ([a].length+([]:List t7).length+(if ([]:List t7).isEmpty then 0 else 1)<30))=da:=by rfl)
 (Z:(apos.endLine==cpos.line)=da:=by rfl) (a6:u4 (.Call (.Attribute (.Name x np) "extend" apos) [a] [] cpos) none pos.line X.env=pure di:=by rfl):
 n5 X (.Expr (.Call (.Attribute (.Name x np) "extend" apos) [a] [] cpos) pos) (dR i f):=
 yS (Ka (VL Nk PySem.F.slot_list_extend PySem.F.type_list_extend fH (h.var c) (jm ha qc hs) z J Z hs rfl) a6) λD K H w=>by
  obtain⟨E0,E,p,A,C,O,I,s⟩:=w;obtain⟨e,d,I⟩:=zg I;obtain⟨g,u,I⟩:=zg I;have d:=k4 d;by_cases U:e.length+g.length<=lim
  ·rw[UJ U]at I;cases I
   obtain⟨l,xs,m,G,Y,n⟩:=O.rc.own i e d;refine⟨_,m,.inl ⟨rfl,_,gv.of Y⟩,p,A,g,O.rc,u,λb o B r x g1 g2 g3 j=>?_⟩;have y:xs.length+o.length<=el:=by
    rw[n.length,j.length];have:lim<=el:=by decide
    omega
   refine⟨l,b,xs,o,rfl,rfl,x.s1 _ _ Y,g3,y,?_⟩;have t:=O.step x;exact s _ _ _<|t.rewrite (xs:=xs) d m<|(n.mono x.s0).append j
  ·rw[UY U]at I;cases I
end
section
variable{X:Cx}{pins:UQ}{σ:St}{H H0:Hp}{s:d6}
theorem mW{ta:TA}{L O:ec}{p pos:fh}{Q:EQ}{xs ys:List V}(I:Inv X pins σ H s)(hg:Gl X "zip")(hm:X.mg "zip" = none)(ha:PA X [L,O] ta)
 (h:ta σ H λvs J=>∃k1 k2 a b,vs=[.ref a,.ref b]/\(∃xs,l9 k1 X.K J a xs)/\(∃ys,l9 k2 X.K J b ys)/\
   ∀Z z TI TO i1 i2,Inv X pins σ J Z->B8 z TI TO i1 i2 a b->Dx k1 k2 z TI TO i1 i2 a b 0 Z.heap->t6 Z.heap z TI TO .none->(∀c ∈ [z,TI,TO,i1,i2],vR X pins J c)->Q (.ref z) Z)
 (hs:eA [L,O] X.env=[(di,d8 L X.env),(di,d8 O X.env)]:=by rfl) (a3:eA [O] X.env=[(di,d8 O X.env)]:=by rfl):
 wpAny (d9 X.prog X.w) X.A (d8 (.Call (.Name "zip" p) [L,O] [] pos) X.env) Q X.xe s:=by
 refine D8 (xX I hg hm PyProof.Rows.boot_zip<|LA (eK (ha pos pins s σ H _ I h) λus d R=>?_) (by rw[hs,a3])<|by rw[a3];rfl);obtain⟨vs,J,U,r1,W⟩:=R;obtain⟨k1,k2,a,b,e,⟨xs,B⟩,⟨ys,C⟩,q⟩:=W;subst e;obtain⟨w1,w2,N,E,G⟩:=iO r1;subst N;cases E;cases G;obtain⟨as,b8,l,z1⟩:=U.sq B;obtain⟨M,bb,r,z2⟩:=U.sq C;have S:=l.lt;have T:=r.lt;refine callType_new F.called_zip ⋯ (F.typeCall_zip_2 _ _) (F.newCall_zip_2 _ _) (λobj=>F.args_object_init_3 obj _ _) F.entry_zip_new (Wp k1 k2 a b as.toArray M.toArray) ⟨l,r,?_⟩;have keep:∀c o,d.heap.get? c=cq o->(yV k1 k2 d.heap a b).get? c=cq o:=λc o e=>
  IB _ (IB _<|IB _<|IB _<|IB _ e)
 have t:(Lj d.heap<|i7 k1 a).objs.size=d.heap.objs.size+1:=Lx ..;have u:(Lj (Lj d.heap<|i7 k1 a)<|i7 k2 b).objs.size=d.heap.objs.size+2:=by rw[Lx,t]
 have x:(Lj (Lj (Lj d.heap<|i7 k1 a)<|i7 k2 b)<|kG (.ref d.heap.objs.size)<|.ref<|d.heap.objs.size+1).objs.size=d.heap.objs.size+3:=by rw[Lx,u]
 have y4:(Lj (Lj (Lj (Lj d.heap<|i7 k1 a)<|i7 k2 b)<|kG (.ref d.heap.objs.size)<|.ref<|d.heap.objs.size+1)<|kG .none .none).objs.size=d.heap.objs.size+4:=by rw[Lx,x]
 have P:i4 k1 (yV k1 k2 d.heap a b) d.heap.objs.size a 0:=(JZ k1 d.heap a).at λo e=>IB _<|IB _<|IB _<|IB _ e;have g1:i4 k2 (yV k1 k2 d.heap a b) (d.heap.objs.size+1) b 0:=by have q:=JZ k2 (Lj d.heap<|i7 k1 a) b;rw[t]at q;exact q.at λo e=>IB _<|IB _<|IB _ e
 have g2:m4 (yV k1 k2 d.heap a b) (d.heap.objs.size+2) (.ref d.heap.objs.size) (.ref<|d.heap.objs.size+1):=by have q:_=cq (kG (.ref d.heap.objs.size)<|.ref<|d.heap.objs.size+1):=IS (Lj (Lj d.heap<|i7 k1 a)<|i7 k2 b) (o:=kG (.ref d.heap.objs.size)<|.ref<|d.heap.objs.size+1) rfl;rw[u]at q;exact IB _<|IB _ q
 have g3:m4 (yV k1 k2 d.heap a b) (d.heap.objs.size+3) .none .none:=by have q:_=cq (kG .none .none):=IS (Lj (Lj (Lj d.heap<|i7 k1 a)<|i7 k2 b)<|kG (.ref d.heap.objs.size)<|.ref<|d.heap.objs.size+1) (o:=kG .none .none) rfl;rw[x]at q;exact IB _ q
 have i:t6 (yV k1 k2 d.heap a b) (d.heap.objs.size+4) (d.heap.objs.size+2) (d.heap.objs.size+3) .none:=by have q:=IS (Lj (Lj (Lj (Lj d.heap<|i7 k1 a)<|i7 k2 b)<|kG (.ref d.heap.objs.size)<|.ref<|d.heap.objs.size+1)<|kG .none .none) (o:=Eb (d.heap.objs.size+2)<|d.heap.objs.size+3) rfl;rw[y4]at q;exact q
 refine⟨⟨_,i,rfl⟩,?_⟩;have y:Inv X pins σ J {d with heap:=yV k1 k2 d.heap a b,toks:=d.toks}:=U.kept keep;have Y:∀m:Nat,a≠d.heap.objs.size+m:=λm=>IX<|IV S<|Ln _ m;have g:∀m:Nat,b≠d.heap.objs.size+m:=λm=>IX<|IV T<|Ln _ m;have f:∀m n:Nat,m≠n->(d.heap.objs.size+m:Nat)≠d.heap.objs.size+n:=λm n h=>by omega
 have D:B8 (d.heap.objs.size+4) (d.heap.objs.size+2) (d.heap.objs.size+3) d.heap.objs.size (d.heap.objs.size+1) a b:=
  ⟨f 2 4 ⋯,f 3 4 ⋯,f 0 4 ⋯,f 1 4 ⋯,f 2 3 ⋯,f 2 0 ⋯,f 2 1 ⋯,f 3 0 ⋯,f 3 1 ⋯,f 0 1 ⋯,
   Y 4,Y 3,Y 0,Y 1,g 4,g 3,g 0,g 1⟩
 refine q _ _ _ _ _ _ y D ⟨.inl i,g2,⟨_,_,g3⟩,P,g1⟩ i λc k=>?_;have j:d.heap.objs.size<=c:=by
  simp only[IM,IW,or_false]at k;rcases k with rfl|rfl|rfl|rfl|rfl
  ·exact Ln _ _
  ·exact Ln _ _
  ·exact Ln _ _
  ·exact II _
  ·exact Ln _ _
 exact U.Di j<|U.ej.fresh j
theorem J5{o:HO}{c p:dv}(h:vR X pins H c)(I:c≠p):vR X pins (upd H p o) c:=⟨by rw[zK I];exact h.1,h.2⟩
end
theorem Xx:∀{ds:List D} {ns:List Int},Ks ds=cq ns->YT ds=cq (ns.map MP)
 |[],ns,e=>by cases e;rfl
 | d::ds,ns,e=>by
  cases d with
  |int i=>
   obtain⟨l,a,I⟩:=zH e;subst I;show((BX<|.int i).bind λk=>(YT ds).map λr=>k::r)=_;rw[Xx a];rfl
  |_=>cases e
theorem Xo:∀(ps acc:List (Key×V)),((acc++ps).map (·.1)).Nodup->lF acc ps=acc++ps
 |[],acc,_=>by simp[lF]
 |(k,v)::ps,acc,h=>by
  have d:¬((acc.any λI=>decide<|I.1=k)=da):=λq=>by obtain⟨I,a,b⟩:=RM.mp q;rw[LQ,Lk]at h;have:=(List.nodup_append.mp h).2.2 I.1 (Lv.mpr ⟨I,a,rfl⟩) k ⋯;exact this<|of_decide_eq_true b
  show lF (cT acc k v) ps=_;rw[show cT acc k v=acc++[(k,v)]by unfold cT;rw[UY d]];rw[Xo ps (acc++[(k,v)]) (by simpa using h)];simp
theorem YM:∀{ns:List Int},ns.Nodup->(ns.map<|MP (β:=Str)).Nodup
 |[],_=>by simp
 |n::ns,h=>by simp only[Lk,NP,Lv,MP.injEq,exists_eq_right]at h ⊢;exact⟨h.1,YM h.2⟩
section
variable{X:Cx}{pins:UQ}{σ:St}{H:Hp}{s:d6}{p:dv}{l0:List (Key×V)}
theorem Inv.K_(I:Inv X pins σ H s)(O:H p=cq (.dK l0)):∃o,Inv X pins σ (upd H p<|.p8 o<|.dK l0) s:=by
 have U:=(show j1 X.prog X.w H s.heap p (.dK l0)from I.ej p _ O);obtain⟨o,Y⟩:∃o,s.heap.get? p=cq o:=by obtain⟨_,_,_,_,o,_,_,e,_⟩:=U;exact⟨_,e⟩
 exact⟨o,I.write (x:=p) (e:=p) (o:=.p8 o (.dK l0)) (t':=s.toks) (h':=s.heap) (by rw[O];exact Nf) (.inl rfl) (λb q a z=>z) ⟨_,Y⟩ ⟨Y,U⟩⟩
end
theorem Ku{K:Iy}{H:Hp}{i:Int}:∀{ks vs:List D} {z:List Key} {xs:List V},YT ks=cq z->z.length=xs.length->d5 K H vs xs->
 (∀d,aw ks vs i=cq d->∃v,Wv (z.zip xs) (MP i)=cq v/\Rep K H d v)/\(aw ks vs i=none->Wv (z.zip xs) (MP i)=none)
 |[],vs,z,xs,e,l,r=>by cases e;exact⟨(λd q=>by cases q),λ_=>rfl⟩
 |k::ks,[],z,xs,e,l,r=>by rw[r.vu]at l ⊢;rw[List.length_eq_zero_iff.mp l];exact⟨(λd q=>by cases q),λ_=>rfl⟩
 | k::ks,v::vs,z,xs,e,l,r=>by
  obtain⟨f,a,g⟩:=zg e;obtain⟨O,h,m⟩:=zH g;subst m;obtain⟨x,U,rfl,o,p⟩:=r.p9;have Y:=Ku (i:=i) h (by simpa using l) p;have step:f≠MP i->Wv ((f::O).zip (x::U)) (MP i)=Wv (O.zip U) (MP i):=λb=>by rw[ON];simp[Wv,Nh,b]
  cases k with
  | int j=>
   cases a;by_cases I:j=i
   ·subst I
    refine⟨λd q=>⟨x,?_,?_⟩,λq=>?_⟩
    ·rw[ON];exact XO rfl
    ·have:v=d:=by simpa[aw]using q
     exact this ▸ o
    ·simp[aw]at q
   ·have b:(MP j:Key)≠MP i:=λq=>I (MP.inj q)
    rw[step b];have n:aw (.int j::ks) (v::vs) i=aw ks vs i:=by simp[aw,I]
    rw[n];exact Y
  |str y=>
   cases a;rw[step (λq=>by cases q)];exact Y
  |_=>cases a
noncomputable def nW(g:CO D):CO D:=λa=>(g a).bind λd=>match d with
 |.str y=>if y=("r" : Str)then cq (.int 0)else if y=("l" : Str)then cq (.int 1)else none
 |_=>none
noncomputable def xJ(g:CO (Sk×List D))(z:CO D):CO D:=λb=>(g b).bind λa=>(z b).bind λx=>match a.1 with
 |.L=>if l8 x=da/\m3 a.2=da then cq (.int (a.2.countP λd=>hB d x:Nat))else none
 |.T=>none
noncomputable def AH:V->List V->Hp->VK->Prop:=λx a H Q=>∃y j,x=.str "rl"/\a=[.str y]/\Builtin.Str.occurrences "rl" y 0 2 1=[j]/\Q (.int j) H
theorem mv{X:Cx}:N9 X "str.index" AH:=by intro a s f H x d v b Q I O U h;obtain⟨y,j,rfl,rfl,Y,q⟩:=h;obtain⟨t,rfl⟩:=O;obtain⟨e,rfl,rw⟩:=yx U;obtain⟨u,rfl⟩:=rw;exact call_gives F.slot_str_index (RY _ _ _) F.entry_str_index (F.args_str_index_2 _ _) (gives_str_index "rl" y t u j [] Y) ⟨.int j,H,I.tok _,⟨_,rfl⟩,q⟩
section
variable{X:Cx}{e:ec}{apos cpos sp:fh}{kd:Nat}{g:CO D}
theorem lB(O:PV X e g)
 (U:((ow cpos<|starEach [e] X.env).all (λx=> !x.1)&&(E9 cpos<|keywordEach [] X.env).all (λx=>x.1.isSome)&&decide ([e].length+([]:List t7).length+(if ([]:List t7).isEmpty then 0 else 1)<30))=da:=by rfl)
 (Y:(apos.endLine==cpos.line)=da:=by rfl) (hs:eA [e] X.env=[(di,d8 e X.env)]:=by rfl):PV X (.Call (.Attribute (.Constant (.str "rl") kd sp) "index" apos) [e] [] cpos) (nW g):=
 qb (VL PySem.F.plainAttrs_str PySem.F.slot_str_index PySem.F.type_str_index mv (show PV X (.Constant (.str "rl") kd sp) (zy (.str "rl"))from j4) (jm O qc hs) rfl U Y hs rfl) λB H Q p=>by
  obtain⟨k,i,d,rc,I,t⟩:=p;obtain⟨n,o,I⟩:=zg I;cases n with
  | str y=>
   have h:∃j:Nat,d=.int j/\Builtin.Str.occurrences "rl" y 0 2 1=[j]:=by
    have I:(if y=("r" : Str)then cq (D.int 0)else if y=("l" : Str)then cq (.int 1)else none)=cq d:=I;by_cases b:y=("r" : Str)
    ·rw[UJ b]at I;cases I;subst b;exact⟨0,rfl,by kernel_rfl⟩
    ·rw[UY b]at I
     by_cases f:y=("l" : Str)
     ·rw[UJ f]at I;cases I;subst f;exact⟨1,rfl,by kernel_rfl⟩
     ·rw[UY f]at I;cases I
   obtain⟨j,rfl,s⟩:=h;refine⟨k,i,.str "rl",rc,rfl,λv A a x r=>?_⟩;rw[show v=.str "rl" from r];refine⟨rfl,a,i,.str y,rc.ext x,o,λw l m z u=>?_⟩;rw[show w=.str y from u];exact⟨y,j,rfl,rfl,s,t _ l m (x.trans z) rfl⟩
  |_=>cases I
end
theorem Xl(I:Inv X pins σ H s)(sub:f6 H0 H)(U:gv X.K H p xs)(r:d5 X.K H0 ds xs)(o:m3 ds=da):∃O,Reads s.heap (.ref p) (.list<|n0 ds) O:=by obtain⟨e,Y,q,g⟩:=I.list U;obtain⟨h,d,a,n,b⟩:=q.isList;obtain⟨O,f⟩:=SN I sub o r Y;exact⟨_,.list d a b<|by simpa using f⟩
section
variable{X:Cx}{sc:gB}{N L:List Str}{k:Nat}{a b:ec}{pos:fh}{fa:CO D}{g:CO (Sk×List D)}
theorem SX.U8(h:SX X sc N L k):X.A.units+66<Df:=by have:=h.room.un;omega
end
noncomputable def rW(K:Iy):V->List V->Hp->VK->Prop:=λx g H Q=>∃a e v p f b,f6 a H/\x=.ref p/\g=[v]/\Rep K a e v/\gv K H p f/\d5 K a b f/\l8 e=da/\m3 b=da/\Q (.int (b.countP λd=>hB d e:Nat)) H
theorem XD(hx:ir x=da):∀ds:List D,m3 ds=da->(n0 ds).countP (λy=>MO y<|i0 x)=ds.countP λd=>hB d x
 |[],_=>by simp[n0]
 |d::ds,h=>by simp only[m3,IK]at h;simp only[n0,List.countP_cons];rw[O9 d x h.1 hx,XD hx ds h.2]
theorem fI(Z:X.A.units+66<Df):N9 X "list.count" (rW X.K):=by
 intro k s W H x S v R Q I E C h;obtain⟨J,a,y,p,T,f,sub,rfl,rfl,u,o,w,O,U,q⟩:=h;cases E;obtain⟨G,rfl,rw⟩:=yx C;obtain⟨as,z⟩:=Ht I sub (xq O) u rw;obtain⟨bs,B⟩:=Xl I sub o w U;have N:=PySem.SeqAt.depth_of_shaped<|ye O;have Y:=P0 f U;cases B with
 | list i l m j=>
  rename_i r b n L
  obtain⟨P,t,M,g⟩:=r;subst l m;refine Nm F.slot_list_count ⟨_,i,rfl⟩ F.entry_list_count (F.args_list_count_2 _ _) (PySem.SeqAt.list_countAt p b n t g G<|λy=>MO (Om s.heap y)<|i0 a) ⟨i,PySem.SeqAt.items_eqAt j z Y (Sw a<|xq O) ?_,?_⟩
  ·have:min (Ov<|n0 f) (i0 a).depth<=(i0 a).depth:=RR _ _
   omega
  ·have e:b.toList.countP (λy=>MO (Om s.heap y)<|i0 a)=f.countP λd=>hB d a:=by
    rw[<-XD (xq O) f U,<-OA _ _ _ Y j,PB];rfl
   rw[e];exact⟨.int _,H,I.tok _,⟨_,rfl⟩,q⟩
section
variable{X:Cx}{sc:gB}{N L:List Str}{k:Nat}{o e:ec}{apos cpos:fh}{fa:CO D}{g:CO (Sk×List D)}
theorem wu(h:SX X sc N L k)(ho:PQ X o g)(he:PV X e fa)(z:L3 o "count" X.env (d8 o X.env)=d8 o X.env:=by rfl)
 (J:((ow cpos<|starEach [e] X.env).all (λx=> !x.1)&&(E9 cpos<|keywordEach [] X.env).all (λx=>x.1.isSome)&&decide ([e].length+([]:List t7).length+(if ([]:List t7).isEmpty then 0 else 1)<30))=da:=by rfl)
 (Z:(apos.endLine==cpos.line)=da:=by rfl) (hs:eA [e] X.env=[(di,d8 e X.env)]:=by rfl):PV X (.Call (.Attribute o "count" apos) [e] [] cpos) (xJ g fa):=
 qb (VL Nk PySem.F.slot_list_count PySem.F.type_list_count (fI h.U8) ho (jm he qc hs) z J Z hs rfl) λE H Q u=>by
  obtain⟨l,j,d,rc,I,q⟩:=u;obtain⟨⟨w,a⟩,t,I⟩:=zg I;obtain⟨x,s,I⟩:=zg I;cases w with
  |T=>cases I
  | L=>
   have I:(if l8 x=da/\m3 a=da then cq (D.int (a.countP λd=>hB d x:Nat))else none)=cq d:=I;by_cases O:l8 x=da/\m3 a=da
   ·rw[UJ O]at I;cases I
    refine⟨l,j,.L,a,rc,t,λp i B n f b C r=>⟨.inl ⟨rfl,i,b⟩,n,j,x,rc.ext f,s,λA m Y U y=>?_⟩⟩;exact⟨Y,x,A,p,i,a,U.sub,rfl,rfl,y,U.s1.seq b,r.mono U.s0,O.1,O.2,q _ m Y (f.trans U) rfl⟩
   ·rw[UY O]at I;cases I
end
noncomputable def VD(i:Nat)(g:CO (Sk×List D)):CO Fl:=λb=>(ya b[i]?).bind λd=>(g b).bind λa=>match a.1 with
 |.T=>if d.length+a.2.length<=lim then cq (.next<|b.set i<|.own<|d++a.2)else none
 |.L=>none
end DL
namespace L2
open PySem PySem.Spec PyProof.Rows
theorem cC(l b:dv)(its:Array dy)(n:Nat)(I:Array dy)(n2:Nat)(o:jn)(Y:¬(!its.isEmpty&&MF (its.size+I.size))=da)(z:its.size<=el)(J:its.size+I.size<=el+1):
 Ig (Builtin.«list.extend» ⟨[.ref l,.ref b],[]⟩) (λ_ R s=>s.heap.get? l=cq {cls:=.type "list",dict:=none,data:=.seq its n,slots:=#[]}/\s.heap.get? b=cq o/\o.cls=.type "tuple"/\o.data=.seq I n2/\R (.ok (.ret LV)) {s with heap:=s.heap.update l (LM λx=>x++I)}):=
 .of_wp λa w A R s h=>by
  obtain⟨O,U,f,g,h⟩:=h;have d:(its++I).size<=el+1:=by rw[Array.size_append];exact J
  refine Iz (m:=PySem.selfAndOne "list.extend" ⟨[.ref l,.ref b],[]⟩) (IH ?_);show wpAny _ _ (MJ (.ref l) (.ref b) .none) _ _ s;unfold MJ;refine Iz (m:=typeOf (.ref b)) (NY ⟨o,U,f⟩ ?_);have e:(Oy (.ref l) (.ref b) || MI "tuple" == MI "list" || MI "tuple" == MI "tuple")=da:=by simp
  rw[UJ e];refine Iz (m:=NH<|.ref b) ?_;unfold NH;refine Iz (m:=T3<|.ref b)<|Mn U g<|IH ?_;refine Iz ?_;refine Iz (m:=T3<|.ref l)<|Mn O rfl<|IH ?_;rw[UY Y];exact Iz (m:=SY l λx=>x++I)<|OV O rfl (hz:=z) (_hz':=d)<|IH ⟨_,rfl,h⟩
noncomputable def Fm(K:Iy):V->List V->Hp->VK->Prop:=λx e H Q=>∃l b a d,x=.ref l/\e=[.ref b]/\H l=cq (.lst a)/\gR K H b d/\a.length+d.length<=el/\Q .d7 (upd H l<|.lst<|a++d)
theorem tE{X:Cx}:S7 X "list.extend" (Fm X.K):=by
 intro f s M H x G v E Q I Y y h;obtain⟨l,b,J,L,rfl,rfl,U,j,C,q⟩:=h;cases Y;obtain⟨u,rfl,w⟩:=y.one;cases w;obtain⟨z,a,n,r,B,e⟩:=I.Dk U;obtain⟨O,g,⟨o,p,k,t,m⟩,A⟩:=I.tuple j;have HY:=r.length;have HX:=g.length;have d:a.toArray.size+O.toArray.size<=el:=by rw[IL,IL];omega
 have i:¬(!a.toArray.isEmpty&&MF (a.toArray.size+O.toArray.size))=da:=by rw[Kl d,Bool.and_false];exact Lb
 refine Nm F.slot_list_extend ⟨_,e,rfl⟩ F.entry_list_extend (F.args_list_extend_2 _ _) (cC l b a.toArray n O.toArray t o i (by rw[IL];omega) ⋯) ⟨e,p,k,m,?_⟩;exact⟨.d7,_,I.D1 (its':=a++O) U e ⋯ (r.append g) (by rw[Lz];omega),rfl,q⟩
end L2
namespace DL
open PySem PySem.Spec PyProof.Rows L2
section
variable{X:Cx}{sc:gB}{N L:List Str}{k:Nat}{a:ec}{g:CO (Sk×List D)}{pos:fh}
theorem lM(i:Nat){x:Str}{z cpos O:fh}(h:SX X sc N L k)(c:Ju sc N i x=da)(ha:PQ X a g)(hs:eA [a] X.env=[(di,d8 a X.env)]:=by rfl)
 (J:L3 (.Name x O) "extend" X.env (d8 (.Name x O) X.env)=d8 (.Name x O) X.env:=by rfl)
 (Z:((ow cpos<|starEach [a] X.env).all (λx=> !x.1)&&(E9 cpos<|keywordEach [] X.env).all (λx=>x.1.isSome)
   &&decide ([a].length+([]:List t7).length+(if ([]:List t7).isEmpty then 0 else 1)<30))=da:=by rfl)
 (a6:(z.endLine==cpos.line)=da:=by rfl) (a7:u4 (.Call (.Attribute (.Name x O) "extend" z) [a] [] cpos) none pos.line X.env=pure di:=by rfl):
 n5 X (.Expr (.Call (.Attribute (.Name x O) "extend" z) [a] [] cpos) pos) (VD i g):=
 yS (Ka (VL Nk PySem.F.slot_list_extend PySem.F.type_list_extend tE (h.var c) (jm ha qc hs) J Z a6 hs rfl) a7) λD M H A=>by
  obtain⟨E0,E,r,p,y,U,I,t⟩:=A;obtain⟨d,e,I⟩:=zg I;obtain⟨⟨C,f⟩,w,I⟩:=zg I;have e:=k4 e;cases C with
  |L=>cases I
  | T=>
   have I:(if d.length+f.length<=lim then cq (Fl.next<|p.set i<|.own<|d++f)else none)=cq y:=I;by_cases Y:d.length+f.length<=lim
   ·rw[UJ Y]at I;cases I
    obtain⟨l,xs,j,K,m,n⟩:=U.rc.own i d e;refine⟨_,j,.inl ⟨rfl,_,gv.of m⟩,r,p,.T,f,U.rc,w,λb o G s x g1 g2 g3=>?_⟩;have B:xs.length+o.length<=el:=by
     rw[n.length,g3.length];have:lim<=el:=by decide
     omega
    refine⟨l,b,xs,o,rfl,rfl,x.s1 _ _ m,g1,B,?_⟩;have u:=U.step x;exact t _ _ _<|u.rewrite (xs:=xs) e j<|(n.mono x.s0).append g3
   ·rw[UY Y]at I;cases I
end
noncomputable def dO(f g:CO D)(γ:Ctx):Option (List D):=((f γ).bind jA).bind λm=>((g γ).bind jA).bind λn=>if m.2.length<=lim then cq (yW m.2 n.2)else none
@[simp] noncomputable def nH:=@dO.eq_1
section
variable{prog:g8}{w:f7}{A:i5}{E:EQ}{s:d6}
theorem pF{k1 k2:Sk}{z TI TO J L l1 l2:dv}{n:Nat}{xs ys:Array dy}{x y:dy}{Q:Option dy->d6->Prop}(D:B8 z TI TO J L l1 l2)
 (Z:Dx k1 k2 z TI TO J L l1 l2 n s.heap) (an:m6 k1 s.heap l1 xs) (ap:m6 k2 s.heap l2 ys) (hx:xs[n]? = cq x) (hy:ys[n]? = cq y)
 (hQ:∀h',Dx k1 k2 z TI TO J L l1 l2 (n+1) h'->m4 h' s.heap.objs.size x y->(∀c o,c ∉ [z,TI,TO,J,L]->s.heap.get? c=cq o->h'.get? c=cq o)->Q (cq (.ref s.heap.objs.size)) {s with heap:=h'}):
 wpAny (d9 prog w) A (A6<|.ref z) Q E s:=by
 obtain⟨a,j,⟨c,e,m⟩,p,r⟩:=Z;unfold A6;rcases a with a|⟨U,b,oa,a,ha⟩
 ·have Y:s.TypeIs (.ref z) "zip":=⟨_,a,rfl⟩
  refine Iz (MV (LC (name:=Lw "__next__") Y Mw (Me Mw Y NK
   (K0 D a j m p r an ap hx hy λg d C f h i F O=>IH ?_) (NC _))))
  refine hQ g ⟨.inr ⟨s.heap.objs.size,di,_,d,i⟩,O _ _ D.TIz D.TITO D.TIi1 D.TIi2 j,⟨_,_,C⟩,f,h⟩ i λc o I q=>?_;simp only[IM,IW,or_false,not_or]at I;exact O c o I.1 I.2.2.1 I.2.2.2.1 I.2.2.2.2 q
 ·have Y:s.TypeIs (.ref z) "zip":=⟨_,a,rfl⟩
  refine Iz (MV (LC (name:=Lw "__next__") Y Mw (Me Mw Y NK
   (cX D a ha j p r an ap hx hy λg d f h i F O=>IH ?_) (NC _))))
  have k:∃l,g.get? U=cq l:=by
   by_cases t:U=z
   ·exact⟨_,(congrArg g.get? t).trans d⟩
   ·by_cases u:U=J
    ·obtain⟨o,e,_⟩:=f.obj;exact⟨o,u ▸ e⟩
    ·by_cases B:U=L
     ·obtain⟨o,e,_⟩:=h.obj;exact⟨o,B ▸ e⟩
     ·exact⟨oa,O U oa t u B ha⟩
  obtain⟨l,k⟩:=k;refine hQ g ⟨.inr ⟨U,da,l,d,k⟩,O _ _ D.TIz D.TIi1 D.TIi2 j,⟨_,_,O _ _ D.TOz D.TOi1 D.TOi2 m⟩,f,h⟩ i λc o I q=>?_;simp only[IM,IW,or_false,not_or]at I;exact O c o I.1 I.2.2.2.1 I.2.2.2.2 q
end
theorem Dx.keep{k1 k2:Sk}{z TI TO J L a b:dv}{n:Nat}{h h':eh}(Z:Dx k1 k2 z TI TO J L a b n h)(k:∀c ∈ [z,TI,TO,J,L],∀o,h.get? c=cq o->h'.get? c=cq o)(e:∀c o,h.get? c=cq o->∃o',h'.get? c=cq o'):Dx k1 k2 z TI TO J L a b n h':=by
 obtain⟨I,U,⟨c,d,Y⟩,g,i⟩:=Z;refine⟨?_,k TI ⋯ _ U,⟨c,d,k TO ⋯ _ Y⟩,g.at λo q=>k J ⋯ o q,i.at λo q=>k L ⋯ o q⟩;rcases I with I|⟨O,bb,oa,I,a5⟩
 ·exact .inl<|k z ⋯ _ I
 ·obtain⟨f,j⟩:=e O oa a5
  exact .inr ⟨O,bb,f,k z ⋯ _ I,j⟩
theorem eO{h:eh}{o z:jn}{c:dv}(I:c≠h.objs.size)(q:(h.push o).get? c=cq z):h.get? c=cq z:=by unfold Heap.get? Lj at q;unfold Heap.get?;simp only[Array.getElem?_push,UY I]at q;exact q
theorem mT{H00 Hb H0 H:Hp}{S p:dv}{o J:HO}(E:Ext H00 Hb H0 H)(O:Hb S=none)(U:H0 S=none)(I:H p=none)(Y:p≠S):Ext H00 Hb (upd H0 p o) (upd (upd H p o) S J):=by
 have e:H0 p=none:=jx E.sub I;refine⟨E.s0.trans<|jC e o,λb u q=>?_,λb u q=>?_,λb a d=>?_⟩
 ·have a:=E.s1 b u q
  rw[zK (λz=>by rw[z,O]at q;cases q),zK (λz=>by rw[z,I]at a;cases a)];exact a
 ·by_cases z:b=p
  ·subst z
   rw[zM]at q;rw[zK Y,zM];exact q
  ·rw[zK z]at q
   rw[zK (λy=>by rw[y,U]at q;cases q),zK z];exact E.sub b u q
 ·have:b≠p:=λz=>by
   cases q:Hb b with
   |none=>exact d q
   |some u=>have:=E.s1 b u q;rw[z,I]at this;cases this
  rw[zK this];exact E.new b a d
section
variable{X:Cx}{pins:UQ}{σ:St}{A:i5}{R:Result->d6->Prop}{H00 Hb:Hp}{k1 k2:Sk}{z TI TO i1 i2 a b S:dv}{xs ys:List V}{ds es:List D}{res:dy}
theorem dX{K:Iy}{H:Hp}{d e:D}{x y:V}{p:dv}(J:Rep K H d x)(L:Rep K H e y)(I:H p=cq (.tup [x,y])):Rep K H (.tup [d,e]) (.ref p):=
 show ∃a xs,V.ref p=.ref a/\gR K H a xs/\d5 K H [d,e] xs from⟨p,[x,y],rfl,.inl<|.inl I,.cons J<|.cons L .nil⟩
theorem fR(hh:A.handled=none)(DA:B8 z TI TO i1 i2 a b)(hS:Hb S=none):∀(m n:Nat) (s:d6) (H H0:Hp) (acc:List D) (vs:List V),n+m=(ds.zip es).length->
 Inv X pins σ H s->Ext H00 Hb H0 H->H0 S=none->l9 k1 X.K H0 a xs->l9 k2 X.K H0 b ys->d5 X.K H0 ds xs->d5 X.K H0 es ys->d5 X.K H0 acc vs->(∀c ∈ [z,TI,TO,i1,i2],vR X pins H c)->Dx k1 k2 z TI TO i1 i2 a b n s.heap->H S=cq (.lst vs)->vs.length+m<=el->
 (∀s' H' J L,Inv X pins σ H' s'->Ext H00 Hb J H'->J S=none->H' S=cq (.lst L)->d5 X.K J (acc++(yW ds es).drop n) L->R (.ok<|.ret res) s')->
 codeAny (d9 X.prog X.w) A (.builtin "list.extend.loop" ⟨[.ref S,.ref z,res],[]⟩) R s:=by
 intro m
 induction m with
 |zero=>
  intro n s H H0 acc vs P I E j t u Y i W B Z g hz hR;obtain⟨ax,l,Q,z1⟩:=I.sq<|vI E.sub t;obtain⟨b1,p,T,z2⟩:=I.sq<|vI E.sub u;have l1:=l.length;have l2:=p.length;have l3:=Y.length;have l4:=i.length;simp only[List.length_zip,PK]at P;refine OZ F.entry_extend_loop ?_;rw[Around.under_plainId OQ _];show wpAny _ A.in1 (A6 (.ref z) >>= _) _ _ s;refine Iz<|uU (s:=s) hh DA Z Q T (by rw[P];rcases Nat.le_total ds.length es.length with q|q;left;simp;omega;right;simp;omega) λh' k=>?_;refine IH<|hR _ H H0 vs (I.C7 (t':=s.toks) (fp:=[z,TI,TO,i1,i2]) k B) E j g ?_;rw[Pu (by unfold yW;simp;omega),NT];exact W
 | succ m ih=>
  intro n s H H0 acc vs P I E j t u Y i W B Z g hz hR;obtain⟨ax,l,Q,z1⟩:=I.sq<|vI E.sub t;obtain⟨b1,p,T,z2⟩:=I.sq<|vI E.sub u;have l1:=l.length;have l2:=p.length;have l3:=Y.length;have l4:=i.length;have ac:n<(ds.zip es).length:=by omega
  have b7:=ac;simp only[List.length_zip]at b7;have hk:ds[n]? = cq ds[n]:=ID ⋯;have hy:es[n]? = cq es[n]:=ID ⋯;obtain⟨x,ex,rx⟩:=Y.get hk;obtain⟨y,ey,ry⟩:=i.get hy;obtain⟨u1,bf,bg⟩:=l.get ex;obtain⟨u2,bi,bl⟩:=p.get ey;have r:H s.heap.objs.size=none:=I.fresh;have C:s.heap.objs.size≠S:=λq=>by rw[q,g]at r;cases r
  refine OZ F.entry_extend_loop ?_;rw[Around.under_plainId OQ _];show wpAny _ A.in1 (A6 (.ref z) >>= _) _ _ s;refine Iz (pF (s:=s) DA Z Q T (x:=u1) (y:=u2) (by simpa using bf) (by simpa using bi) λh' Z' hP k=>?_);have I1:Inv X pins σ (upd H s.heap.objs.size (.tup [x,y])) {s with heap:=s.heap.push {cls:=.type "tuple",data:=.seq #[u1,u2]}}:=
   I.laid (t':=s.toks) (λb o e=>IB _ e) (II _) (show j1 X.prog X.w _ _ _ (.tup [x,y])from⟨(show 2<=el by decide),[u1,u2],.cons bg<|.cons bl .nil,B0.new _ _⟩)
  have np:∀c ∈ [z,TI,TO,i1,i2],c≠s.heap.objs.size:=λc O q=>by
   obtain⟨d,bv,⟨c',e',c1⟩,g1,g2⟩:=Z;obtain⟨o1,G,_⟩:=g1.obj;obtain⟨o2,e2,_⟩:=g2.obj;have N:∃o,s.heap.get? z=cq o:=by
    rcases d with d|⟨_,_,_,d,_⟩
    ·exact⟨_,d⟩
    ·exact⟨_,d⟩
   obtain⟨oz,N⟩:=N;simp only[IM,IW,or_false]at O;rcases O with rfl|rfl|rfl|rfl|rfl
   ·exact absurd q<|IX<|IP N
   ·exact absurd q<|IX<|IP bv
   ·exact absurd q<|IX<|IP c1
   ·exact absurd q<|IX<|IP G
   ·exact absurd q<|IX<|IP e2
  have ae:∀c ∈ [z,TI,TO,i1,i2],vR X pins (upd H s.heap.objs.size<|.tup [x,y]) c:=λc O=>J5 (B c O)<|np c O;have I2:=I1.C7 (h':=h') (t':=s.toks) (fp:=[z,TI,TO,i1,i2]) (λc o O q=>by
   by_cases e:c=s.heap.objs.size
   ·rw[e]at q ⊢
    rw[IS _ rfl]at q;cases q;exact hP
   ·exact k c o O<|eO e q) ae
  have al:upd H s.heap.objs.size (.tup [x,y]) S=cq (.lst vs):=by rw[zK (LD C)];exact g
  obtain⟨zz,h,c0,rl,ll,M⟩:=I2.Dk al;show wpAny _ A.in1 (SY S (·.push (.ref s.heap.objs.size)) >>= _) _ _ _;refine Iz ?_;refine OV M rfl (IH ⟨plainId_quiet OQ _,?_⟩) (by rw[IL];omega) (by show(h.toArray.push _).size<=el+1;rw[Array.size_push,IL];omega);have nS:∀c ∈ [z,TI,TO,i1,i2],c≠S:=λc O q=>by have:=(B c O).1;rw[q,g]at this;cases this
  have I3:=I2.D1 (t':=s.toks) (f:=(·.push (.ref s.heap.objs.size))) (its':=h++[.ref s.heap.objs.size]) (ys:=vs++[.ref s.heap.objs.size]) al M ⋯ (rl.append<|.cons (show L2.RelV (.ref s.heap.objs.size) (.ref s.heap.objs.size)from rfl) .nil) (by rw[Lz,MY];omega);have E3:Ext H00 Hb (upd H0 s.heap.objs.size<|.tup [x,y]) (upd (upd H s.heap.objs.size<|.tup [x,y]) S<|.lst<|vs++[.ref s.heap.objs.size]):=mT E hS j r C;have U:f6 H0 (upd H0 s.heap.objs.size<|.tup [x,y]):=jC (jx E.sub r) _;refine ih (n+1) _ _ _ (acc++[.tup [ds[n],es[n]]]) (vs++[.ref s.heap.objs.size]) ⋯ I3 E3 (by rw[zK (LD C)];exact j) (vI U t) (vI U u) (Y.mono U) (i.mono U) ((W.mono U).append (.cons (dX (rx.mono U) (ry.mono U) zM) .nil)) (λc O=>J5 (ae c O)<|nS c O) ?_ zM (by rw[Lz,MY];omega) λs' H' J L I4 E4 y1 y2 y3=>hR s' H' J L I4 E4 y1 y2 ?_
  ·refine Z'.keep (λc O o q=>(Le _ _<|LD<|nS c O).trans q) λc o q=>?_
   by_cases e:c=S
   ·exact⟨_,by rw[e];exact Mj _ M rfl⟩
   ·exact⟨o,(Le _ _<|LD e).trans q⟩
  ·have G:(yW ds es).drop n=.tup [ds[n],es[n]]::(yW ds es).drop (n+1):=by
    have:n<(yW ds es).length:=by unfold yW;simpa using ac
    rw[ND this];congr 1;simp[yW]
   rw[G];rw[List.append_assoc]at y3;exact y3
theorem aQ:N3 (.type "zip") "__len__" = pure none:=by rw[Rg,Oz];kernel_rfl
theorem Vw:N3 (.type "zip") "__length_hint__" = pure none:=by rw[Rg,Oz];kernel_rfl
theorem cJ{Q:EQ}{H0 H:Hp}{s:d6}(I:Inv X pins σ H s)(hh:X.A.handled=none)(E:Ext H00 Hb H0 H)(DA:B8 z TI TO i1 i2 a b)
 (h1:l9 k1 X.K H0 a xs) (h2:l9 k2 X.K H0 b ys) (r1:d5 X.K H0 ds xs) (r2:d5 X.K H0 es ys) (Z:Dx k1 k2 z TI TO i1 i2 a b 0 s.heap) (hz:t6 s.heap z TI TO .none) (hf:∀c ∈ [z,TI,TO,i1,i2],vR X pins H c) (hl:(ds.zip es).length<=el)
 (hQ:∀s' H' J S L,Hb S=none->Inv X pins σ H' s'->Ext H00 Hb J H'->J S=none->H' S=cq (.lst L)->d5 X.K J (yW ds es) L->Q (.ref S) s'):wpAny (d9 X.prog X.w) X.A (call (.type "list") [.ref z]) Q X.xe s:=by
 have Y:H s.heap.objs.size=none:=I.fresh;have r:Hb s.heap.objs.size=none:=ym E.s1 Y;have C:H0 s.heap.objs.size=none:=jx E.sub Y;refine callType_codes (Q₁:=λobj g=>obj=.ref s.heap.objs.size/\g = {s with heap:=s.heap.push {cls:=.type "list",data:=.seq #[]}}) F.called_list (F.typeCall_list_1 _) F.entry_list_init (code_list_new _ ⟨rfl,rfl⟩) ?_;rintro obj g ⟨rfl,rfl⟩;have y:Inv X pins σ (upd H s.heap.objs.size (.lst [])) {s with heap:=s.heap.push {cls:=.type "list",data:=.seq #[]}}:=I.TL (its:=[]) (ys:=[]) (t':=s.toks) .nil (Mr _);have u:Ext H00 Hb H0 (upd H s.heap.objs.size (.lst [])):=E.trans (Ext.hide E.sub Y _);have U:(s.heap.push {cls:=.type "list",data:=.seq #[]}).get? s.heap.objs.size=cq {cls:=.type "list",data:=.seq #[]}:=IS _ rfl;have nd:∀c ∈ [z,TI,TO,i1,i2],c≠s.heap.objs.size:=λc O q=>by
  obtain⟨W,as,⟨c',e',G⟩,g1,g2⟩:=Z;obtain⟨o1,k,_⟩:=g1.obj;obtain⟨o2,l,_⟩:=g2.obj;simp only[IM,IW,or_false]at O;rcases O with rfl|rfl|rfl|rfl|rfl
  ·exact absurd q<|IX<|IP hz
  ·exact absurd q<|IX<|IP as
  ·exact absurd q<|IX<|IP G
  ·exact absurd q<|IX<|IP k
  ·exact absurd q<|IX<|IP l
 refine⟨⟨_,U,rfl⟩,F.args_list_init_2 _ _,?_⟩;show wpAny _ X.A.in1.in1 (do let b1<-NH (.ref s.heap.objs.size);Builtin.List.listUpdate (.ref s.heap.objs.size) (λ_=>#[]);letGo b1.toList.reverse;MJ (.ref s.heap.objs.size) (.ref z) .none) _ _ _;refine Iz ?_;unfold NH;refine Iz (Mn U rfl (IH ?_));show wpAny _ _ (SY s.heap.objs.size (λ_=>#[]) >>= λ_=>letGo (#[]:Array dy).toList.reverse >>= λ_=>MJ (.ref s.heap.objs.size) (.ref z) .none) _ _ _;refine Iz (OV U rfl ?_);have m:=y.D1 (t':=s.toks) (f:=λ_=>#[]) (its:=[]) (its':=[]) (xs:=[]) (ys:=[]) zM U rfl .nil (Mr _);rw[w9]at m;have h:=Mj (LM (λ_=>(#[]:Array dy))) U rfl;refine Iz (PD ?_);unfold MJ;have i:∀c o,c≠s.heap.objs.size->s.heap.get? c=cq o->((s.heap.push {cls:=.type "list",data:=.seq #[]}).update s.heap.objs.size (LM (λ_=>(#[]:Array dy)))).get? c=cq o:=λc o O q=>(Le _ _ (LD O)).trans (IB _ q);have d:=i z _ (nd z ⋯) hz;refine Iz (NY (T:="zip") ⟨_,d,rfl⟩ ?_);have k:Oy (.ref s.heap.objs.size) (.ref z)=di:=by have:=nd z ⋯;simp[Oy,LD this]
 have l:(MI "zip" == MI "list")=di:=by decide
 have N:(MI "zip" == MI "tuple")=di:=by decide
 simp only[k,l,N,Bool.or_false,LR,if_false];refine Iz (Sb d ?_);refine Iz (Mq ?_);unfold Builtin.List.listLengthHint;refine Iz (_n (T:="zip") ⟨_,d,rfl⟩ aQ ?_);show wpAny _ _ (specialOf (Lr z) (Lw "__length_hint__") >>= _) _ _ _;refine Iz (_n (T:="zip") ⟨_,d,rfl⟩ Vw ?_);refine IH ?_;show wpAny _ _ (rule "list.extend.makes-room" >>= λ_=>Builtin.List.listTouch (.ref s.heap.objs.size) >>= λ_=>
  again (.builtin "list.extend.loop" ⟨[.ref s.heap.objs.size,.ref z,.none],[]⟩)) _ _ _
 refine Iz<|Oq ?_;refine Iz ?_;show wpAny _ _ (SY s.heap.objs.size (·.push .none) >>= λ_=>SY s.heap.objs.size (·.pop)) _ _ _;refine Iz<|OV h rfl ?_;have j:=Mj (LM (·.push LV)) h rfl;have n:=m.D1 (t':=s.toks) (f:=(·.push LV)) (its:=[]) (its':=[.none]) (xs:=[]) (ys:=[.d7]) zM h rfl (.cons (show L2.RelV .d7 .none from rfl) .nil) ⋯;rw[w9]at n;refine OV (hz:=by seq_fits) j rfl ?_;have M:=Mj (LM (·.pop)) j rfl;have p:=n.D1 (t':=s.toks) (f:=(·.pop)) (its:=[.none]) (its':=[]) (xs:=[.d7]) (ys:=[]) zM j rfl .nil ⋯;rw[w9]at p;refine IH ⟨plainId_quiet OQ _,?_⟩;refine fR (A:=X.A.in1) (ds:=ds) (es:=es) (xs:=xs) (ys:=ys) (k1:=k1) (k2:=k2) (show X.A.in1.handled=none from hh) DA r (ds.zip es).length 0 _ (upd H s.heap.objs.size<|.lst []) H0 [] [] (LS _) p u C h1 h2 r1 r2 .nil (λc O=>J5 (hf c O)<|nd c O) ?_ zM (by simpa using hl) λs' H' J L B x P R t=>?_
 ·refine Z.keep (λc O o q=>?_) λc o q=>?_
  ·exact(Le _ _<|LD<|nd c O).trans ((Le _ _<|LD<|nd c O).trans (i c o (nd c O) q))
  ·by_cases e:c=s.heap.objs.size
   ·exact⟨_,by rw[e];exact M⟩
   ·exact⟨o,(Le _ _<|LD e).trans ((Le _ _<|LD e).trans (i c o e q))⟩
 ·rw[NQ,List.drop_zero]at t
  exact⟨rfl,hQ s' H' J _ L r B x P R t⟩
end
section
variable{X:Cx}{sc:gB}{N L:List Str}{k:Nat}{a b:ec}{f g:CO D}{p p2 pos SK:fh}
theorem lQ(h:SX X sc N L k)(cd:kU sc "list" = da)(zd:X.mg "list" = none)(cz:kU sc "zip" = da)(zz:X.mg "zip" = none)(ha:PV X a f)(hb:PV X b g)
 (hs:eA [.Call (.Name "zip" p2) [a,b] [] SK] X.env=[(di,d8 (.Call (.Name "zip" p2) [a,b] [] SK) X.env)]:=by rfl)
 (J:eA [a,b] X.env=[(di,d8 a X.env),(di,d8 b X.env)]:=by rfl) (Y:eA [b] X.env=[(di,d8 b X.env)]:=by rfl):
 PO X (.Call (.Name "list" p) [.Call (.Name "zip" p2) [a,b] [] SK] [] pos) (dO f g):=by
 intro n s σ H Q I W;obtain⟨l,o,d,rc,O,q⟩:=W;obtain⟨⟨k1,G⟩,B,O⟩:=zg O;obtain⟨F,K,P⟩:=zg B;obtain⟨⟨k2,es⟩,C,O⟩:=zg O;obtain⟨E,M,R⟩:=zg C;have hh:X.A.handled=none:=I.ok.hd h.calm;dsimp only at O;by_cases m:G.length<=lim
 ·rw[UJ m]at O
  cases O;refine MC (xX I (h.gl cd).1 zd OJ (LA ?_ (by rw[hs];rfl) rfl) ⋯ ⋯);rw[hs];show wpAny _ _ (DP ((di,d8 (.Call (.Name "zip" p2) [a,b] [] SK) X.env)::[])) _ _ s;refine Mz (mW (xs:=[]) (ys:=[]) I (h.gl cz).1 zz (jm ha (jm hb qc Y) (by rw[J,Y])) ?_ J Y);refine⟨l,o,F,rc,K,λv i e x r=>⟨e,o,E,rc.ext x,M,λv2 H2 be U r2=>?_⟩⟩;obtain⟨w,xs,rfl,g1,g2⟩:=XY (r.mono U.s0) P;obtain⟨y,ys,rfl,g3,T⟩:=XY r2 R;refine⟨k1,k2,w,y,rfl,⟨xs,vI U.sub g1⟩,⟨ys,vI U.sub g3⟩,λs2 z TI TO i1 i2 u t Z hz hf=>Nv ?_⟩;have xa:=x.trans U;refine cJ (H00:=l) (Hb:=H) u hh xa t g1 g3 g2 T Z hz hf ?_ λs' i e S j y0 y1 y2 y3 y4 y5=>?_
  ·have:lim<=el:=by decide
   simp only[List.length_zip];omega
  ·exact⟨.ref S,i,y1,rfl,q S j i e y2 y0 y3 y4 y5⟩
 ·rw[UY m]at O;cases O
end
theorem YR:N3 (.type "list") "keys" = pure none:=by rw[Rg,Oz];kernel_rfl
theorem Xb:entryFor table "list.__getattribute__" = cq Builtin.«object.__getattribute__» :=
 entryFor_alias (id':="object.__getattribute__") (by kernel_rfl) (by first|rfl|decide +kernel) ⋯ (by kernel_rfl)
section
variable{prog:g8}{w:f7}{A:i5}{E:EQ}{h:eh}{g:Array Ud}{d:Drawn}{t:Nat}{os:OsState}{a:dv}{o:jn}
theorem JV(hx:h.get? a=cq ⟨.type "list",none,.seq vs nk,sl⟩)(z:A.handled=none)
 (hE:∀h' e t',(∀b u,h.get? b=cq u->h'.get? b=cq u)->(∃U,h'.get? e=cq U/\U.cls=.type "AttributeError")->E (.ref e) ⟨h',g,d,t',os⟩):
 wpAny (d9 prog w) A (Builtin.«object.__getattribute__» ⟨[.ref a,.str "keys" tk],[]⟩) Q E ⟨h,g,d,t,os⟩:=by
 have n:(⟨h,g,d,t,os⟩:d6).TypeIs (.ref a) "list":=⟨_,hx,rfl⟩;have k:=YR
 repeat (any_goals (first|assumption|wp_step))
 unfold raiseAttrError;have f:((Lw (toString "'" ++ toString ((Manifest.find? "list").elim "list" λx=>x.tpName)++toString "' object has no attribute '")++Lw "keys" ++ Lw "'"):Str).length<=el:=by decide +kernel
 generalize (Lw (toString "'" ++ toString ((Manifest.find? "list").elim "list" λx=>x.tpName)++toString "' object has no attribute '")++Lw "keys" ++ Lw "'")=I at f ⊢;refine Iz (wpAny_mkStr (hx:=f) ?_);refine Iz ?_;unfold newExc newTuple;refine Iz (Mp ?_ (by size_fits));refine Iz (m:=Ts _ _) (wpAny_of_eq (a:=LV) (by first|rfl|(simp only[Ts];rfl)) ?_);refine Mp ?_ (by size_fits);simp only[Lx];have O:((h.push {cls:=.type "tuple",data:=.seq #[.str I t]}).push {cls:=.type "AttributeError",data:=.fields (#[.ref h.objs.size,.none,.none,.none,.bool di,.none]++TR (.type "AttributeError") [.str I t])}).get? (h.objs.size+1) =
  cq {cls:=.type "AttributeError",data:=.fields (#[.ref h.objs.size,.none,.none,.none,.bool di,.none]++TR (.type "AttributeError") [.str I t])}:=by heap_get
 have Y:∀b u,h.get? b=cq u->((h.push {cls:=.type "tuple",data:=.seq #[.str I t]}).push {cls:=.type "AttributeError",data:=.fields (#[.ref h.objs.size,.none,.none,.none,.bool di,.none]++TR (.type "AttributeError") [.str I t])}).get? b=cq u:=λb u e=>IB _ (IB _ e);have i:h.get? (h.objs.size+1)=none:=Heap.get?_none_of_le (Ro _);generalize ((h.push {cls:=.type "tuple",data:=.seq #[.str I t]}).push {cls:=.type "AttributeError",data:=.fields (#[.ref h.objs.size,.none,.none,.none,.bool di,.none]++TR (.type "AttributeError") [.str I t])})=h2 at O Y ⊢;refine Iz (_j ?_);unfold noteAttr lacksNameAndObj;have j:(⟨h2,g,d,t+1+1,os⟩:d6).TypeIs (.ref (h.objs.size+1)) "AttributeError":=⟨_,O,rfl⟩;have l:UG (.type "AttributeError") (.type "AttributeError")=pure da:=by rw[isSubtype_type];kernel_rfl
 repeat (any_goals (first|assumption|with_reducible refine wpAny_loadPart_at O ?_|with_reducible refine wpAny_load O ?_|wp_step))
 refine wpAny_raiseNew_none z<|hE _ _ _ (λb u e=>?_) ⟨_,Mj _ O<|Obj.isFreed_of_fields<|Ry rfl _,Obj.cls_mapFields ..⟩;rw[Le _ _ (λq=>by rw[<-q]at e;rw[i]at e;cases e)];exact Y b u e
theorem QY(hx:h.get? a=cq ⟨.type "list",none,.seq vs nk,sl⟩)(O:A.handled=none)
 (U:∀h' e t',(∀b u,h.get? b=cq u->h'.get? b=cq u)->(∃I,h'.get? e=cq I/\I.cls=.type "AttributeError")->R (.error (.ref e)) ⟨h',g,d,t',os⟩):
 codeAny (d9 prog w) A (.call (.builtin "list.__getattribute__") ⟨[.ref a,.str "keys" tk],[]⟩) R ⟨h,g,d,t,os⟩:=
 Rw NU.plain Xb (NU.check _ _ _ _ _ _ _ _ (show(⟨h,g,d,t,os⟩:d6).TypeIs (.ref a) "list" from⟨_,hx,rfl⟩) (F.args_list_getattribute_2 _ _) (JV hx O U))
theorem bV:N3 (.type "list") "__getattr__" = pure none:=by rw[Rg,Oz];kernel_rfl
theorem fS(hx:h.get? a=cq ⟨.type "list",none,.seq vs nk,sl⟩)(O:A.handled=none)
 (U:∀h' t',(∀b u,h.get? b=cq u->h'.get? b=cq u)->Q none ⟨h',g,d,t',os⟩):wpAny (d9 prog w) A (Tt (.ref a) "keys") Q E ⟨h,g,d,t,os⟩:=by
 have o:(⟨h,g,d,t+1,os⟩:d6).TypeIs (.ref a) "list":=⟨_,hx,rfl⟩;have f2:=NU.lookup;have l:=NU.bind (.ref a);have m:=bV;have n:UG (.type "AttributeError") (.type "AttributeError")=pure da:=by rw[isSubtype_type];kernel_rfl
 unfold Tt getAttrBy? getAttrBy
 repeat (any_goals (first|assumption|wp_step))
 refine QY (g:=g) (d:=d) (os:=os) hx O λh' e t' Y I=>?_;obtain⟨i,I,f⟩:=I;have j:(⟨h',g,d,t',os⟩:d6).TypeIs (.ref e) "AttributeError":=⟨i,I,f⟩;have k:=U h' t' Y;show wpAny _ _ (M' _ _ _ _ _ _ _) _ _ _;unfold M' hookOrError attributeErrorLeaves
 repeat (any_goals (first|assumption|wp_step))
end
noncomputable def ZH:List D->Option (List D×List D)
 |[]=>cq ([],[])
 | d::r=>match d with
  |.tup a=>match a with
   |[k,v]=>(ZH r).map λp=>(k::p.1,v::p.2)
   |_=>none
  |_=>none
noncomputable def nY(f:CO (List D))(γ:Ctx):Option D:=(f γ).bind λa=>(ZH a).bind λp=>nu p.1 p.2
@[simp] noncomputable def EJ:=@nY.eq_1
noncomputable def Eg(z I:CO D):CO D:=λa=>(z a).bind λd=>(I a).bind λk=>match d with
 |.nr b e=>(o6 k).bind λi=>aw b e i
 |_=>none
noncomputable def Az(I z:CO D):CO D:=λa=>(I a).bind λk=>(z a).bind λd=>match d with
 |.nr b e=>(o6 k).map λi=>.bl (aw b e i).isSome
 |_=>none
section
variable{X:Cx}{pins:UQ}{σ:St}{A:i5}{R:Result->d6->Prop}{H0:Hp}{l it d:dv}{ks:List Key}{ys xs:List V}
theorem cH(hh:A.handled=none)(hx:xs.length=ks.length)(hy:ys.length=ks.length)(hp:∀(n:Nat) (h1:n<xs.length) (h2:n<ks.length) (h3:n<ys.length),∃p,xs[n]=.ref p/\gR X.K H0 p [kV ks[n],ys[n]])(Z:H0 d=none)(ae:l≠d):∀(m n:Nat) (s:d6) (H:Hp) (z:List (Key×V)) (i:Int) (t:qs),n+m=ks.length->
 Inv X pins σ H s->f6 H0 H->H l=cq (.lst xs)->s.heap.IsListIter it l n->vR X pins H it->H d=cq (.dK z)->z.length+m<=el->
 (∀s',Inv X pins σ (upd H d<|.dK<|lF z<|(ks.zip ys).drop n) s'->R (.ok<|.ret .none) s')->
 codeAny (d9 X.prog X.w) A (.builtin "dict.update.loop" ⟨[.ref d,.ref it,.int i t,.none],[]⟩) R s:=by
 intro m
 induction m with
 | zero=>
  intro n s H z i t hn I sub U st f g hz j;obtain⟨z1,a,c,M,ll,Y⟩:=I.Dk U;refine OZ vg ?_;unfold Builtin.«dict.update.loop»;have r:s.heap.IsList l a.toArray:=⟨_,Y,rfl,_,rfl⟩;refine Iz<|wpAny_pyNext_list_end (s:=s) hh st r (by simp;omega) λh' eb=>?_;refine Iz<|IH ?_;have e0:upd H d (.dK<|lF z<|(ks.zip ys).drop n)=H:=by
   rw[Pu (by simp;omega)];funext c;by_cases q:c=d
   ·rw[q,zM,g];rfl
   ·rw[zK q]
  rw[e0]at j;exact IH (j _<|I.C7 (t':=s.toks) (fp:=[it]) (λb o O e=>eb b o (by simpa using O) e)<|λb O=>by rw[Nr.mp O];exact f)
 | succ m ih=>
  intro n s H z i t hn I sub U st f g hz j;obtain⟨z1,a,c,M,ll,Y⟩:=I.Dk U;have r:s.heap.IsList l a.toArray:=⟨_,Y,rfl,_,rfl⟩;have S:n<ks.length:=by omega
  obtain⟨p,ep,T⟩:=hp n ⋯ S ⋯;obtain⟨u,hu,L⟩:=M.get (ID<|show n<xs.length by omega);rw[ep]at L;have eu:u=.ref p:=L;subst eu;refine OZ vg ?_;unfold Builtin.«dict.update.loop»;refine Iz<|wpAny_pyNext_list_item (s:=s) st r (x:=.ref p) (by simpa using hu) λh' W sb=>?_;have k:=I.C7 (h':=h') (t':=s.toks) (fp:=[it]) (λb o O e=>(sb.2 b<|by simpa using O).trans e) (λb O=>by rw[Nr.mp O];exact f);obtain⟨ts,rt,⟨o,F,co,nn,b5⟩,zt⟩:=k.tuple<|o4 sub T;obtain⟨h,B,rfl,b6,y⟩:∃h B,ts=h::B/\RelV (kV ks[n]) h/\eL [ys[n]] B:=by
   cases rt with
   |cons q1 y=>exact⟨_,_,rfl,q1,y⟩
  obtain⟨N,rfl,b8⟩:=yx y;have b9:({s with heap:=h'}:d6).TypeIs (.ref p) "tuple":=⟨_,F,co⟩;refine Iz (Mq (Iz (wpAny_tryCatch ?_)));unfold Builtin.Dict.pairItems;refine Iz (NY b9 ?_);rw[UJ ⋯];refine Iz (Mn F b5 (IH ?_));show wpAny _ _ (Dj [h,N] (dictSet d h N)) _ _ _;obtain⟨zz,bd,vs,C,dd⟩:=FS k.ej g;have be:vs.length<=el:=by rw[<-C.length];exact zz
  have bf:(cT z ks[n] ys[n]).length<=el:=by have:=JX z ks[n] ys[n];omega
  refine Mq<|wpAny_dictSet_pairs (hsz:=be) (mF b6) dd λbg E G=>?_;have he:∃q,bg.get? d=cq q:=let ⟨q,_,_,hq,_⟩:=E;⟨q,hq⟩;have P:=uj (t':=s.toks+1) k (by rw[g];exact Nf) G he<|Ct bf bd (C.put ks[n] b8) E;have J:it≠d:=λq=>by have:=f.1;rw[q,g]at this;cases this
  refine IH ⟨y8 _,ih (n+1) _ _ (cT z ks[n] ys[n]) (i+1) 0 ⋯ P (λc o e=>?_) (by rw[zK ae];exact U) (W.at λo q=>(G.2 it J).trans q) ⟨by rw[zK J];exact f.1,f.2⟩ zM (by have:=JX z ks[n] ys[n];omega) λs' Q=>j s' ?_⟩
  ·rw[zK (λq=>by rw[q,Z]at e;cases e)];exact sub _ _ e
  ·have br:n<(ks.zip ys).length:=by simp;omega
   have e1:(ks.zip ys).drop n=(ks[n],ys[n])::(ks.zip ys).drop (n+1):=by rw[ND br];simp
   have e2:upd (upd H d<|.dK<|cT z ks[n] ys[n]) d (.dK<|lF (cT z ks[n] ys[n])<|(ks.zip ys).drop (n+1))=upd H d (.dK<|lF z<|(ks.zip ys).drop n):=by
    funext c;by_cases q:c=d
    ·rw[q,zM,zM,e1];rfl
    ·rw[zK q,zK q,zK q]
   rw[<-e2];exact Q
theorem cK(I:Inv X pins σ H s)(z:X.A.handled=none)(sub:f6 H0 H)(O:H l=cq (.lst xs))(hx:xs.length=ks.length)(Z:ys.length=ks.length)
 (L:∀(n:Nat) (h1:n<xs.length) (h2:n<ks.length) (h3:n<ys.length),∃p,xs[n]=.ref p/\gR X.K H0 p [kV ks[n],ys[n]]) (hz:ks.length<=el)
 (J:∀s' p,H p=none->Inv X pins σ (upd H p (.dK (lF [] (ks.zip ys)))) s'->Q (.ref p) s'):wpAny (d9 X.prog X.w) X.A (call (.type "dict") [.ref l]) Q X.xe s:=by
 have U:H s.heap.objs.size=none:=I.fresh;have y:H0 s.heap.objs.size=none:=jx sub U;have m:l≠s.heap.objs.size:=λq=>by rw[q,U]at O;cases O
 refine callType_codes (Q₁:=λobj f=>obj=.ref s.heap.objs.size/\f = {s with heap:=s.heap.push {cls:=.type "dict",data:=.dict #[]}}) F.kt_called_dict (F.kt_typeCall_dict_1 _) F.entry_dict_init (kt_code_dict_new _ ⟨rfl,rfl⟩) ?_;rintro obj f ⟨rfl,rfl⟩;have u:=I.laid (a:=s.heap.objs.size) (o:=.dK []) (t':=s.toks) (λ_ _ q=>IB {cls:=.type "dict",data:=.dict #[]} q) (II _) (nq s.heap I.big);have r:({s with heap:=s.heap.push {cls:=.type "dict",data:=.dict #[]}}:d6).TypeIs (.ref s.heap.objs.size) "dict":=⟨_,IS _ rfl,rfl⟩;obtain⟨P,h,c,N,M,C⟩:=I.Dk O;have Y:(s.heap.push {cls:=.type "dict",data:=.dict #[]}).get? l=cq {cls:=.type "list",data:=.seq h.toArray c}:=IB _ C;refine⟨r,F.args_dict_init_2 _ _,?_⟩;unfold Builtin.«dict.__init__»;refine Iz ?_;unfold Builtin.Dict.selfAndRest;refine Iz (wpAny_notOrdered_dict r ?_);show wpAny _ _ (pure (s.heap.objs.size,[Lr l])) _ _ _;refine IH ?_;show wpAny _ _ (Builtin.Dict.updateFrom "dict.__init__" s.heap.objs.size (.ref l) [] .none) _ _ _;unfold Builtin.Dict.updateFrom;refine Iz (NY (T:="list") ⟨_,Y,rfl⟩ ?_);rw[UJ ⋯];refine Iz (fS (g:=s.gens) (d:=s.drawn) (t:=s.toks) (os:=s.os) Y (show X.A.in1.in1.handled=none from z) λh' t' k=>?_);have i:Inv X pins σ (upd H s.heap.objs.size (.dK [])) {s with heap:=h',toks:=t'}:=u.kept k;have B:=k _ _ Y;simp only[Option.isNone_none,if_true];refine Iz (Oq (Iz (RW (items:=h.toArray) ⟨_,B,rfl,_,rfl⟩ ?_)));refine IH ⟨y8 _,?_⟩;have x:=i.kept (h':=h'.push {cls:=.type "list_iterator",data:=.fields #[.ref l,.int 0 0]}) (t':=t') λb o e=>IB _ e;have G:s.heap.objs.size<h'.objs.size:=by have:=IP (k _ _ (IS s.heap (o:={cls:=.type "dict",data:=.dict #[]}) rfl));exact this
 have E:=i.Di (b:=h'.objs.size) (H':=upd H s.heap.objs.size<|.dK []) (II _) i.fresh;refine cH (H0:=H0) (l:=l) (it:=h'.objs.size) (ks:=ks) (ys:=ys) (xs:=xs) (show X.A.in1.handled=none from z) hx Z L y m ks.length 0 _ (upd H s.heap.objs.size<|.dK []) [] 0 0 (LS _) x (sub.trans<|jC U _) (by rw[zK m];exact O) ⟨_,IS _ rfl,rfl,rfl⟩ E zM (by simpa using hz) λs' j=>?_;rw[w9,List.drop_zero]at j;exact⟨rfl,J s' _ U j⟩
end
theorem K9:∀{ps ks vs:List D},ZH ps=cq (ks,vs)->ks.length=ps.length/\vs.length=ps.length
 |[],ks,vs,h=>by cases h;exact⟨rfl,rfl⟩
 | d::r,ks,vs,h=>by
  unfold ZH at h;split at h
  ·split at h
   ·obtain⟨⟨a,b⟩,e,I⟩:=zH h
    cases I;obtain⟨f,g⟩:=K9 e;exact⟨by simp[f],by simp[g]⟩
   ·cases h
  ·cases h
theorem Xf{K:Iy}{H:Hp}:∀{ps ks vs:List D} {xs:List V} {ns:List Int},ZH ps=cq (ks,vs)->d5 K H ps xs->Ks ks=cq ns->
 ∃ys,d5 K H vs ys/\ys.length=ns.length/\xs.length=ns.length/\∀(n:Nat) (z:n<xs.length) (J:n<ns.length) (I:n<ys.length),∃p,xs[n]=.ref p/\gR K H p [.int ns[n],ys[n]]
 |[],ks,vs,xs,ns,h,r,hi=>by cases h;cases hi;rw[r.vu];exact⟨[],d5.nil,rfl,rfl,λn z=>by cases z⟩
 | d::ps,ks,vs,xs,ns,h,r,hi=>by
  unfold ZH at h;split at h
  ·split at h
   ·rename_i k v
    obtain⟨⟨a,b⟩,e,O⟩:=zH h;cases O;obtain⟨x,B,rfl,z,J⟩:=r.p9;cases k with
    |int j=>
     obtain⟨A,U,Y⟩:=zH hi;subst Y;obtain⟨ys,o,s,t,u⟩:=Xf e J U;obtain⟨q,F,rfl,I,f⟩:=yY z;obtain⟨C,E,rfl,g,i⟩:=f.p9;obtain⟨w,y,rfl,l,m⟩:=i.p9;rw[m.vu,jL g]at I;refine⟨w::ys,d5.cons l o,by simp[s],by simp[t],λn g1 g2 g3=>?_⟩;cases n with
     |zero=>exact⟨q,rfl,I⟩
     |succ n=>exact u n (by simpa using g1) (by simpa using g2) (by simpa using g3)
    |_=>cases hi
   ·cases h
  ·cases h
section
variable{X:Cx}{sc:gB}{N L:List Str}{k:Nat}{a o i:ec}{f:CO (List D)}{fd fk:CO D}{p pos:fh}
theorem lD(h:SX X sc N L k)(J:kU sc "dict" = da)(zd:X.mg "dict" = none)(Z:PO X a f)(hs:eA [a] X.env=[(di,d8 a X.env)]:=by rfl):
 PV X (.Call (.Name "dict" p) [a] [] pos) (nY f):=by
 intro i s σ H Q I u;obtain⟨H0,γ,d,rc,O,q⟩:=u;obtain⟨B,F,O⟩:=zg O;obtain⟨⟨b,m⟩,z,O⟩:=zg O;have R:X.A.handled=none:=I.ok.hd h.calm;unfold nu at O;cases hi:Ks b with
 |none=>rw[show(b,m).1=b from rfl,hi]at O;cases O
 | some g=>
  rw[show(b,m).1=b from rfl,hi]at O;dsimp only at O;by_cases w:b.length=m.length/\g.Nodup/\b.length<=lim
  ·rw[UJ w]at O
   cases O;refine D8<|xX I (h.gl J).1 zd PyProof.Rows.boot_dict (LA ?_ (by rw[hs];rfl) rfl);rw[hs];show wpAny _ _ (DP ((di,d8 a X.env)::[])) _ _ s;refine Mz<|eK (Z i s σ H (λv j=>∃l xs U,v=.ref l/\Ext H0 H U j/\U l=none/\j l=cq (.lst xs)/\d5 X.K U B xs) I ⟨H0,γ,B,rc,F,λl xs j U e g1 g2 g3 o=>⟨l,xs,U,rfl,e,g2,g3,o⟩⟩) λv s1 u=>?_;obtain⟨y,j,C,ry,l,xs,U,rfl,e,g2,g3,o⟩:=u;cases ry;refine Nv ?_;obtain⟨ys,S,T,W,r4⟩:=Xf z o hi;have x:(g.map<|MP (β:=Str)).length=g.length:=by simp
   have nl:g.length=b.length:=by have:=(K9 z).1;have:=o.length;omega
   refine cK (H0:=U) (ks:=g.map MP) (ys:=ys) (xs:=xs) C R e.sub g3 (by rw[x];exact W) (by rw[x];exact T) (λn G M P=>?_) ?_ λs' p r Y=>?_
   ·obtain⟨t,t1,t2⟩:=r4 n G (by simpa using M) P
    refine⟨t,t1,?_⟩;simpa[kV]using t2
   ·have:lim<=el:=by decide
    rw[x];omega
   ·have E:lF [] ((g.map<|MP (β:=Str)).zip ys)=(g.map MP).zip ys:=by
     rw[Xo _ []]
     ·simp
     ·rw[NQ,List.map_fst_zip ⋯]
      exact YM w.2.1
    rw[E]at Y;obtain⟨of,Y⟩:=Inv.K_ Y zM;rw[w9]at Y;exact⟨.ref p,_,Y,rfl,q (.ref p) _ _ ((e.trans<|Ext.hide e.sub r _).show (ym e.s1 r) (jx e.sub r) zM rc.sub)
     (show ∃a xs,V.ref p=.ref a/\D9 (upd U p _) a b xs/\d5 X.K (upd U p _) m xs from⟨p,ys,rfl,⟨_,Xx hi,by omega,of,zM⟩,S.mono<|jC (jx e.sub r) _⟩)⟩
  ·rw[UY w]at O;cases O
theorem AQ(h:SX X sc N L k)(Z:PV X o fd)(J:PV X i fk)(hs:GP i:=by intro _ _;rfl):PV X (.Subscript o i pos) (Eg fd fk):=
 qb (sN (by have:=h.N4;omega) Z J hs) λS H Q B=>by
  obtain⟨g,f,d,rc,I,q⟩:=B;obtain⟨s,t,I⟩:=zg I;obtain⟨P,u,I⟩:=zg I;cases s with
  |nr E G=>
   obtain⟨j,w,z⟩:=zg I;refine⟨g,f,_,rc,t,λv M O x r=>⟨O,f,_,rc.ext x,u,λy l m U e=>?_⟩⟩;obtain⟨ad,b,rfl,⟨R,g1,g2,F,g3⟩,A⟩:=(show ∃a b,v=.ref a/\D9 O a E b/\d5 X.K O G b from r);rw[jW w]at e;have C:y=.int j:=e;obtain⟨Y,n,p⟩:=(Ku (i:=j) g1 g2<|A.mono U.s0).1 d z;refine⟨ad,Y,rfl,?_,q Y l m (x.trans U) p⟩;rw[C,<-n];exact .inl ⟨_,MP j,.inr ⟨F,U.s1 _ _<|x.sub _ _ g3⟩,rfl,rfl⟩
  |_=>cases I
theorem sj(h:SX X sc N L k)(Z:PV X i fk)(ho:PV X o fd)(hm:Dc .In o=di:=by with_unfolding_all rfl):ni X (.Compare i [.In] [o] pos) (sB<|Az fk fd):=
 bB (AV (Bm (by have:=h.N4;omega) Z ho) hm) λσ H Q P=>by
  obtain⟨p,n,b,rc,I,q⟩:=P;obtain⟨W,B,J⟩:=zg I;obtain⟨k1,C,I⟩:=zg B;obtain⟨z,E,I⟩:=zg I;cases z with
  | nr g m=>
   obtain⟨j,F,G⟩:=zH I;subst G;cases J;refine⟨p,n,_,rc,C,λy S s x Y=>⟨s,n,_,rc.ext x,E,λv e O U r=>?_⟩⟩;obtain⟨ad,d,rfl,⟨kk,g1,g2,l,g3⟩,M⟩:=(show ∃a d,v=.ref a/\D9 O a g d/\d5 X.K O m d from r);rw[jW F]at Y;have f:y=.int j:=Y;obtain⟨t,u⟩:=Ku (i:=j) g1 g2 M;cases hv:aw g m j with
   | none=>
    refine⟨ad,none,rfl,?_,_,rfl,?_⟩
    ·rw[f,<-u hv]
     exact .inl ⟨_,MP j,.inr ⟨l,U.sub _ _ g3⟩,rfl,rfl⟩
    ·rw[hv]at q;exact q e O<|x.trans U
   | some A=>
    obtain⟨R,w,T⟩:=t A hv;refine⟨ad,cq R,rfl,?_,_,rfl,?_⟩
    ·rw[f,<-w]
     exact .inl ⟨_,MP j,.inr ⟨l,U.sub _ _ g3⟩,rfl,rfl⟩
    ·rw[hv]at q;exact q e O<|x.trans U
  |_=>cases I
end
noncomputable def He:List (List Int)->List Int->List Int->Option Int
 |k::ks,n::ns,i=>if k=i then cq n else He ks ns i
 |_,_,_=>none
noncomputable def eqT(ks:List (List Int))(ns:List Int)(I:List (List Int))(O:List Int):Bool:=decide (ks.length=I.length)&&(ks.zip ns).all λx=>decide<|He I O x.1=cq x.2
noncomputable def Hi(d e:D):Option Bool:=match d with
 |.ov b g=>match e with
  |.ov I a=>(Ks g).bind λf=>(Ks a).map λO=>eqT b f I O
  |_=>none
 |_=>none
@[simp] noncomputable def Iw(d e:D):Option D:=(Hi d e).map D.bl
@[simp] noncomputable def Iv(d e:D):Option D:=(Hi d e).map λb=>D.bl<|!b
abbrev TT:=List (List (List Int))
inductive Pl where
 |out|tab (k:Nat)|row (k m:Nat)
deriving DecidableEq
open Classical in
section
variable{H:Hp}{Z:TT}{ad:Pl->dv}
end
end DL
namespace DL
open PySem PySem.Spec PyProof.Rows L2
open PySem.W (KasT kas_sort kas_ask kat_run kat_snds kat_lt kat_cons kat_no kat_yes kat_nil kat_go kat_one kat_kind KatTups KatGo)
section
variable{prog:g8}{w:f7}{A:i5}{E:EQ}{s:d6}
theorem ao{a kS:dv}{O:List dy}{out:List dy}{e z:Nat}{P:PySem.Fin->d6->Prop}{st:SortSt}(U:s.heap.get? kS=cq (i9 "list" O.toArray e))(Z:s.heap.get? a=cq (i9 "list" #[] z))(Y:kS≠a)(J:O.length<=el)(L:out.length<=el)
 (ho:(arrOf st).map (·.2)=out.toArray) (hf:failedOf st=none)
 (h:∀h' c,h'.objs.size=s.heap.objs.size->(∀b o,b≠a->b≠kS->s.heap.get? b=cq o->h'.get? b=cq o)->h'.get? a=cq (i9 "list" out.toArray c)->P (.done (.ret .none)) {s with heap:=h'}):
 wpAny (d9 prog w) A (ksk_tail a di z (.ref kS) st) P E s:=by
 unfold ksk_tail;refine Iz (RP U rfl ?_ (by rw[IL];exact J) (Mr _));refine Iz (PD ?_);have I:(s.heap.update kS (LM λ_=>(#[]:Array dy))).get? a=cq (i9 "list" #[] z):=(Le _ _ Y).trans Z;refine Iz (seqEpoch_at I rfl ?_);simp only[LR,if_false];rw[ho];refine Iz (RP I rfl ?_ (Mr _) (by show out.toArray.size<=_;rw[IL];exact Nat.le_succ_of_le L));rw[hf];simp only[bne_self_eq_false,LR,if_false];obtain⟨c,g⟩:∃c,((s.heap.update kS (LM λ_=>(#[]:Array dy))).update a (LM λ_=>out.toArray)).get? a=cq (i9 "list" out.toArray c):=⟨_,Uz I λ_=>out.toArray⟩;refine IH (h _ c (by rw[Pq,Pq]) (λb o d f q=>?_) g);exact(Le _ _ (LD d)).trans ((Le _ _ (LD f)).trans q)
theorem tH{a kS:dv}{vs I:List dy}{ps:List (Int×Int)}{e z:Nat}{P:PySem.Fin->d6->Prop}(hk:s.heap.get? kS=cq (i9 "list" I.toArray e))(ha:s.heap.get? a=cq (i9 "list" #[] z))(aa:kS≠a)(ab:I.length=vs.length)(J:ps.length=vs.length)(ap:vs.length<64)
 (L:∀i (Z:i<I.length),Sh s.heap I[i] (ps.getD i (0,0)).1 (ps.getD i (0,0)).2)
 (h:∀h' c,h'.objs.size=s.heap.objs.size->(∀b o,b≠a->b≠kS->s.heap.get? b=cq o->h'.get? b=cq o)->h'.get? a=cq (i9 "list" (OO ((kT ps).map λi=>vs.getD i LV)) c)->P (.done (.ret .none)) {s with heap:=h'}):
 wpAny (d9 prog w) A (ksk_end a di vs.toArray z (.ref kS) I.toArray) P E s:=by
 have hz:vs.length<=el:=by rw[E5];omega
 have n:vs.toArray.size=vs.length:=by simp
 have bm:((kT ps).map λi=>vs.getD i LV).length=vs.length:=by rw[Lc,(qU ps).length_eq,Md,J]
 have step:∀t:m5 PySem.Fin,wpAny (d9 prog w) A t P E s->wpAny (d9 prog w) A (if di=da then (do let _<-rule "list.sort.reverse";t)else t) P E s:=λt ht=>ht;unfold ksk_end
 try dsimp only
 refine step _ ?_;by_cases g:vs.toArray.size<2
 ·rw[UJ g,UJ g]
  refine Iz<|IH ?_;rw[StateT.run_pure];refine Iz<|IH ?_;dsimp only;have ev:(kT ps).map (λi=>vs.getD i LV)=vs:=by unfold kT;rw[UJ ⋯,J];exact jD _ _
  have e7:Array.map (λx=>x.snd) (arrOf<|SortSt.mk' general' (I.toArray.zip vs.toArray) #[] 7 none)=((kT ps).map (λi=>vs.getD i LV)).toArray:=by show Array.map (λx=>x.snd) (I.toArray.zip vs.toArray)=_;rw[ev];apply Array.ext';simp[Array.toList_map,Array.toList_zip];rw[List.map_snd_zip ⋯]
  exact ao hk ha aa ⋯ ⋯ e7 rfl h
 ·rw[UY g,UY g]
  have n2:2<=vs.length:=by rw[<-n];omega
  obtain⟨fs,f1,f2,f3⟩:=oS (ks:=λi=>(ps.getD i (0,0)).1) λi Z=>(L i Z).one;refine Iz (kat_kind (T:=MI "int") f1 ⋯ (λv hv=>?_) ⋯ ?_)
  ·obtain⟨k,t,rfl⟩:=f3 v hv
   exact PX.of_pure rfl
  have ep:(ku (λi j=>wJ (ps.getD i (0,0))<|ps.getD j (0,0))<|kas_sort vs.length).toList=kT ps:=by unfold kT;rw[UY ⋯,J]
  refine Iz (Lq (kat_run (E:=E) (ks:=I) (Q:=λf d=>∃p:Array Nat,arrOf f=p.map (PySem.W.kas_item<|I.toArray.zip vs.toArray)/\failedOf f=none/\p.toList=kT ps/\d=s)
   (G:=λp d=>p.toList=kT ps/\d=s)
   ab n2 ap (λp f d a1 N R r=>⟨p,N,R,r.1,r.2⟩) (gC (lt:=λi j=>wJ (ps.getD i (0,0))<|ps.getD j (0,0)) (λi j C Z hj O=>?_) (Y5 ⋯) ⟨ep,rfl⟩)) ?_ λ_ _ e=>e)
  ·show wpAny _ _ (keyLt' _ (I.getD i LV)<|I.getD j LV) C _ _
   have B:i<I.length:=by omega
   have F:j<I.length:=by omega
   rw[show I.getD i LV=I[i]by simp[B],show I.getD j LV=I[j]by simp[F]];obtain⟨x,ox,xs,m,t,u,z,e2,e3,e4,M⟩:=L i B;obtain⟨y,oy,ys,m',t',u',d1,d2,d3,d4,K⟩:=L j F;rw[z,d1];refine kat_lt e2 e4 d2 d4 ?_;have S:xs.size=2:=by rw[<-MG,M];rfl
   have X:ys.size=2:=by rw[<-MG,K];rfl
   rw[M,K,S,X,ON,ON];unfold wJ at O;generalize ps.getD i (0,0)=Y at O ⊢;generalize ps.getD j (0,0)=X2 at O ⊢;refine kat_cons<|Um Y.1 t X2.1 t' _ _ _ _ ?_;refine kat_go (λU=>?_) λU=>?_
   ·have U:Y.1=X2.1:=by simpa using U
    rw[UJ U]at O;refine kat_yes<|kat_cons<|Um Y.2 u X2.2 u' _ _ _ _<|kat_go (λl=>?_) λl=>?_
    ·have l:Y.2=X2.2:=by simpa using l
     refine kat_yes<|kat_nil ?_;rw[show decide (Y.2<X2.2)=di by rw[l];simp]at O;exact O
    ·exact kat_no<|kat_one _ _<|lt_int O
   ·have U:Y.1≠X2.1:=by simpa using U
    rw[UY U]at O;exact kat_no<|oneLt_int O
  rintro⟨⟨⟩,f⟩ d ⟨p,bi,hf,hp,rfl⟩;dsimp only;have H:=kat_snds ab bi;rw[hp]at H;exact ao hk ha aa ⋯ ⋯ H hf h
end
end DL
namespace DL
open PySem PySem.Spec PyProof.Rows L2
section
variable{X:Cx}{pins:UQ}{σ:St}{H:Hp}{s:d6}{a:dv}{o:HO}
theorem gh(I:Inv X pins σ H s)(f:vR X pins H a)(new:j1 X.prog X.w (upd H a o) s.heap a o):Inv X pins σ (upd H a o) s:=by
 obtain⟨f1,f2,y,j,k,l⟩:=f;have d:∀b u,H b=cq u->b≠a:=λb u q z=>by rw[z,f1]at q;cases q
 refine⟨I.ok,I.os,I.bare,⟨I.base.keep,I.base.slot,λb U q n h=>?_,I.base.there,λb i q=>?_,λb U u q=>?_,λb t q=>?_⟩,I.loc,I.cell,?_,λx c e=>?_,λp g=>?_,λb u e=>?_,I.len⟩
 ·have O:b≠a:=λz=>by
   rcases j with Y|Y
   ·exact h<|z ▸ Y
   ·have:=IP q
    rw[z]at this;exact absurd this<|Nat.not_lt_of_le Y
  rw[zK O];exact I.base.free b U q n h
 ·have:=I.base.u6 b i q
  rw[zK (d b _ this)];exact this
 ·have:=I.base.vr b U u q
  rw[zK (d b _ this)];exact this
 ·obtain⟨m,this⟩:=I.base.u5 b t q
  exact⟨m,by rw[zK (d b _ this)];exact this⟩
 ·rw[zK (LD f2)];exact I.free
 ·rw[zK (k x c e)];exact I.vp x c e
 ·obtain⟨e,n,r⟩:=I.pin p g
  exact⟨e,by rw[zK (l p g)];exact n,r⟩
 ·by_cases O:b=a
  ·subst O;rw[zM]at e;cases e;exact new
  ·rw[zK O]at e
   exact(I.ej b u e).A8 (λ_ _ _ q=>q) (λc q=>by rw[zK (d c _ q)];exact q) λc i q=>by rw[zK (d c _ q)];exact q
theorem rS{A:i5}{Q:VK}{us:List dy}{vs:List V}{CX:wh}{k:Nat}{f:dv}{z:rh}{ps:List Str}{sp:Sp}(F:rb X.prog X.w X.K X.mg X.base t5 k f z ps sp)(U:n9 k A)(Y:Ds X.prog X.w X.K X.mg X.base A X.stack s H)(J:Binds X.K z ps [])
 (I:Inv X pins σ H s) (r:eL vs us) (h:sp vs H Q E0):wpAny (d9 X.prog X.w) A (call (.ref f) us) (EP X pins σ Q) (λ_ _=>False) s:=by
 have b:us.length=ps.length:=by rw[<-r.length];exact F.len _ _ _ _ h
 refine RX<|Ph (F.run A X.stack s H ⟨us,[]⟩ us vs Q E0 U Y (by simpa using J s us I.l7 (by simpa using b)) r h) λr d O=>?_;cases r with
 |error e=>exact O.elim
 |ok a=>
  cases a with
  |ret u=>exact I.after O
  |next=>exact Nd O
  |brk=>exact Nd O
  |cont=>exact Nd O
theorem AE(I:Inv X pins σ H s)(J:vR X pins H kS)(z:vR X pins H a)(U:s.heap.get? kS=cq ok)(L:s.heap.get? a=cq oa)(Y:∀v,ok.data ≠ .cell v)(Z:∀v,oa.data ≠ .cell v):Inv X (pins++[(kS,ok),(a,oa)]) σ H s:=
 I.SJ λp O=>by
  rcases OD.mp O with O|O
  ·exact I.pin p<|IZ _ O
  ·rcases IM.mp O with rfl|O
   ·exact⟨U,J.1,J.2.1,J.2.2.1,Y⟩
   ·rw[Nr.mp O];exact⟨L,z.1,z.2.1,z.2.2.1,Z⟩
theorem uZ(I:Inv X (pins++more) σ H s):Inv X pins σ H s:=I.SJ λp O=>I.pin p<|IZ _<|Uk _ O
end
noncomputable def YB(ps:List (Int×Int)):List D:=ps.map λp=>D.tup [.int p.1,.int p.2]
section
variable{X:Cx}{pins:UQ}{σ:St}{F:List D->Option Res}{k:Nat}{f:dv}{fd:rh}{pr:List Str}{A:i5}{E:EQ}
theorem pV(I:Inv X pins σ H s)(sub:f6 H0 H)(r:Rep X.K H0 (.tup [.int i,.int j]) v)(J:RelV v u):Sh s.heap u i j:=by
 obtain⟨b,L,rfl,e,h⟩:=yY r;obtain⟨y,G,g,k,l⟩:=h.p9;obtain⟨F,C,d,m,p⟩:=l.p9;rw[p.vu]at d;rw[g,d,jL k,jL m]at e;cases J;obtain⟨f,B,⟨o,z,w,n,x⟩,_⟩:=I.tuple<|o4 sub e;obtain⟨O,U,rfl,Y,a⟩:∃O U,f=O::U/\RelV (.int i) O/\eL [.int j] U:=by
  cases B with
  |cons Y a=>exact⟨_,_,rfl,Y,a⟩
 obtain⟨E,rfl,A⟩:=yx a;obtain⟨t,rfl⟩:=Y;obtain⟨u,rfl⟩:=A;exact⟨b,o,_,n,t,u,rfl,z,w,x,rfl⟩
theorem mE{a kS:dv}{vs:List dy}{xs:List V}{ds:List D}{ps:List (Int×Int)}{L:Nat}{P:PySem.Fin->d6->Prop}{H0 H:Hp}{s:d6}
 (G:rb X.prog X.w X.K X.mg X.base t5 k f fd pr (u3 X.K pr.length F)) (h1:pr.length=1) (hr:n9 k A) (b7:A.frames=cq X.stack) (O:Binds X.K fd pr [])
 (I:Inv X pins σ H s) (sub:f6 H0 H) (rv:eL xs vs) (rd:d5 X.K H0 ds xs) (ap:ps.length=vs.length) (b8:vs.length<64)
 (hF:∀(i:Nat) d p,ds[i]? = cq d->ps[i]? = cq p->F [d]=cq (.val<|.tup [.int p.1,.int p.2]))
 (hk:s.heap.get? kS=cq (i9 "list" #[] 0)) (ha:s.heap.get? a=cq (i9 "list" #[] L)) (as:kS≠a) (fk:vR X pins H kS) (fa:vR X pins H a)
 (h:∀s' H' J c,Inv X pins σ H' s'->Ext H0 H J H'->s'.heap.get? a=cq (i9 "list" (OO ((kT ps).map λi=>vs.getD i LV)) c)->vR X pins H' a->P (.done (.ret .none)) s'):
 wpAny (d9 X.prog X.w) A (ksk_rest a (.ref f) di vs.toArray L<|.ref kS) P E s:=by
 have c4:=rv.length;have c5:=rd.length;have hz:vs.length<=el:=by rw[E5];omega
 unfold ksk_rest;refine Iz (Oq ?_);rw[Rr];refine Iz (ksk_fold (λj s'=>∃l n U e,Inv X (pins++[(kS,i9 "list" U e),(a,i9 "list" #[] L)]) σ l s'/\Ext H0 H n l/\∃g:List V,eL g U.toList/\d5 X.K n (YB (ps.take j)) g) vs 0 s
  ⟨H,H0,#[],0,AE I fk fa hk ha (λv z=>by cases z) (λv z=>by cases z),Ext.refl sub,[],.nil,d5.nil⟩ ?step ?done)
 case step=>
  rintro j x s' hx ⟨l,n,U,e,Y,t,g,C,m⟩;simp only[LS]at m ⊢;have hj:j<vs.length:=(Ll.mp hx).1;have hp:ps[j]? = cq ps[j]:=ID ⋯;have hd:ds[j]? = cq ds[j]:=ID ⋯;have b0:xs[j]? = cq xs[j]:=ID ⋯;obtain⟨u',b1,bb⟩:=rv.get b0;rw[hx]at b1;cases b1;obtain⟨x',b2,bd⟩:=rd.get hd;rw[b0]at b2;cases b2;have env:Ds X.prog X.w X.K X.mg X.base A X.stack s' l:=⟨b7,Y.Dg.mod,Y.Dg.bs,Y.Dg.B9,Y.Dg.p4,Y.Dg.C0,Y.Dg.ej,Y.Dg.bare⟩;refine Iz (MV (Lq (rS (CX:=t5) (Q:=λv H'=>∃J,Ext n l J H'/\Rep X.K J (.tup [.int ps[j].1,.int ps[j].2]) v) G hr env O Y (vs:=[xs[j]]) (us:=[x]) (.cons bb .nil)
   ⟨n,[ds[j]],_,t.sub,d5.cons (bd.mono t.s0) d5.nil,by rw[h1];rfl,hF j _ _ hd hp,λv H' J S r2=>⟨J,S,r2⟩⟩) (λv M he=>?_) λ_ _ hF=>hF.elim))
  obtain⟨vv,T,B,bg,bi,S,r2⟩:=he
  try dsimp only
  obtain⟨r,W,_⟩:=B.pin (kS,i9 "list" U e) (IZ _ (IZ _ (.head _)));obtain⟨na,Z,_⟩:=B.pin (a,i9 "list" #[] L) (IZ _ (IZ _ (.tail _ (.head _))));have bl:=uZ B;have N:vR X pins T kS:=⟨W,fk.2⟩;have R:vR X pins T a:=⟨Z,fa.2⟩;have kl:U.size=j:=by have:=C.length;have:=m.length;simp only[YB,Lc,NG,MG]at *;omega
  refine Iz (RP r rfl ?_ (by rw[kl,E5];omega) (LG (Nat.le_of_eq (Array.size_push ..)) (by rw[kl,E5];omega)));obtain⟨c2,bm⟩:∃c2,(M.heap.update kS (LM (·.push v))).get? kS=cq (i9 "list" (U.push v) c2):=⟨_,Uz r (·.push v)⟩;have I3:=bl.C7 (h':=M.heap.update kS (LM (·.push v))) (t':=M.toks) (fp:=[kS]) (λb o O q=>(Le _ _ (λz=>O (by rw[z];exact List.mem_singleton_self _))).trans q) (λb O=>by rw[Nr.mp O];exact N);have br:(M.heap.update kS (LM (·.push v))).get? a=cq (i9 "list" #[] L):=(Le _ _ as).trans na;refine IH ⟨rfl,T,bi,U.push v,c2,AE I3 N R bm br (λv z=>by cases z) (λv z=>by cases z),t.trans S,g++[vv],?_,?_⟩
  ·rw[Array.toList_push];exact C.append<|.cons bg .nil
  ·have ek:ps.take (j+1)=ps.take j++[ps[j]]:=by rw[List.take_add_one,hp];simp
   rw[ek];unfold YB at m ⊢;rw[LQ];exact(m.mono S.s0).append (d5.cons r2 d5.nil)
 case done=>
  rintro s' ⟨l,n,U,e,Y,t,g,C,m⟩;rw[LS,<-ap,List.take_length]at m;obtain⟨r,W,_⟩:=Y.pin (kS,i9 "list" U e) (IZ _ (IZ _ (.head _)));obtain⟨na,Z,_⟩:=Y.pin (a,i9 "list" #[] L) (IZ _ (IZ _ (.tail _ (.head _))));have b4:=uZ Y;have N:vR X pins l kS:=⟨W,fk.2⟩;have R:vR X pins l a:=⟨Z,fa.2⟩
  try dsimp only
  refine Iz<|listItems_at r rfl ?_;have l1:=C.length;have l2:=m.length;simp only[YB,Lc]at l2;have ek:U=U.toList.toArray:=by simp
  rw[ek]at r ⊢;refine tH r na as ⋯ ap b8 (λi hi=>?_) λh' c hsz kp hA=>?_
  ·have bv:i<ps.length:=by omega
   obtain⟨y,ey,ry⟩:=m.get (i:=i) (d:=.tup [.int (ps.getD i (0,0)).1,.int (ps.getD i (0,0)).2]) (by unfold YB;simp[bv]);obtain⟨u,hu,ru⟩:=C.get ey;have:U.toList[i]=u:=by rw[ID hi]at hu;exact LN hu
   rw[this];exact pV b4 t.sub ry ru
  ·have B:=b4.C7 (h':=h') (t':=s'.toks) (fp:=[a,kS]) (λb o O q=>kp b o (λz=>O<|by rw[z];simp) (λz=>O<|by rw[z];simp) q) (λb O=>by
    rcases IM.mp O with rfl|O
    ·exact R
    ·rw[Nr.mp O];exact N)
   exact h _ l n c B t hA R
end
noncomputable def sQ:Res->Option (Int×Int)
 | .val d=>match d with
  |.tup a=>match a with
   |[x,y]=>(o6 x).bind λi=>(o6 y).map λj=>(i,j)
   |_=>none
  |_=>none
 |.own _=>none
noncomputable def YV(F:List D->Option Res):List D->Option (List<|Int×Int)
 |[]=>cq []
 |d::r=>((F [d]).bind sQ).bind λp=>(YV F r).map λl=>p::l
noncomputable def dJ(F:List D->Option Res)(f:CO (Sk×List D)):CO (List D):=λd=>(f d).bind λa=>match a.1 with
 |.L=>(YV F a.2).bind λb=>if a.2.length<64 then cq ((kT b).map λi=>a.2.getD i .d7)else none
 |_=>none
theorem K6(I:eL xs vs):∀(o:List Nat),(∀i∈o,i<xs.length)->eL (o.map λi=>xs.getD i .d7) (o.map λi=>vs.getD i LV)
 |[],_=>.nil
 |i::o,h=>by have a:=h i La;refine .cons ?_ (K6 I o λj O=>h j<|Ld _ O);obtain⟨v,U,g2⟩:=I.get (i:=i) (x:=xs[i])<|ID a;show RelV (xs.getD i V.d7) (vs.getD i LV);rw[IG,IG,ID a,U];exact g2
section
variable{X:Cx}{pins:UQ}{σ:St}{F:List D->Option Res}{k:Nat}{f:dv}{fd:rh}{pr:List Str}
theorem bZ
 (G:rb X.prog X.w X.K X.mg X.base t5 k f fd pr (u3 X.K pr.length F)) (h1:pr.length=1) (hr:n9 (k+1+1) X.A) (O:Binds X.K fd pr [])
 (I:Inv X pins σ H s) (sub:f6 H0 H) (hl:s.heap.IsList l vs.toArray) (Y:eL xs vs) (rd:d5 X.K H0 ds xs) (L:ps.length=vs.length) (Z:vs.length<64)
 (hF:∀(i:Nat) d p,ds[i]? = cq d->ps[i]? = cq p->F [d]=cq (.val<|.tup [.int p.1,.int p.2]))
 (h:∀s' H' J D,H D=none->H' D=none->Ext H0 H J H'->Inv X pins σ (upd H' D<|.lst<|(kT ps).map λi=>xs.getD i .d7) s'->Q (.ref D) s'):
 wpAny (d9 X.prog X.w) X.A (call (.builtin "sorted") [.ref l] [(Lw "key",.ref f)]) Q E s:=by
 have ap:=Y.length;have e:vs.length<=el:=by rw[E5];omega
 refine call_function_entry_kw kind_sorted plain_sorted entry_sorted (ksk_s1 _ _) ?_;unfold Builtin.«sorted»;refine Iz (m:=checkCount "sorted" 1 1 _) (IH ?_);refine Iz (collect_list hl ?_ e);refine Iz (wpAny_newList ?_ e);have a:((s.heap.push (i9 "list" #[] 0)).update s.heap.objs.size (LM (· ++ vs.toArray))).objs.size=s.heap.objs.size+1:=by rw[Pq,UR]
 have U:(((s.heap.push (i9 "list" #[] 0)).update s.heap.objs.size (LM (· ++ vs.toArray))).push (i9 "list" vs.toArray 0)).get? (s.heap.objs.size+1)=cq (i9 "list" vs.toArray 0):=by rw[<-a];exact IS _ rfl
 have keep:∀b o,s.heap.get? b=cq o->(((s.heap.push (i9 "list" #[] 0)).update s.heap.objs.size (LM (· ++ vs.toArray))).push (i9 "list" vs.toArray 0)).get? b=cq o:=λb o q=>by have j:b<s.heap.objs.size:=IP q;rw[Heap.get?_push_ne _ _ _ (by rw[a];exact IX (LZ j)),Heap.get?_update_ne _ _ _ _ (IX j),Heap.get?_push_ne _ _ _ (IX j)];exact q
 have n:(((s.heap.push (i9 "list" #[] 0)).update s.heap.objs.size (LM (· ++ vs.toArray))).push (i9 "list" vs.toArray 0)).objs.size=s.heap.objs.size+2:=by rw[UR,a]
 show wpAny _ _ _ _ _ {s with heap:=((s.heap.push (i9 "list" #[] 0)).update s.heap.objs.size (LM (· ++ vs.toArray))).push (i9 "list" vs.toArray 0)};rw[a];generalize ((s.heap.push (i9 "list" #[] 0)).update s.heap.objs.size (LM (· ++ vs.toArray))).push (i9 "list" vs.toArray 0)=g at U keep n ⊢;have N:Inv X pins σ H {s with heap:=g}:=I.kept (t':=s.toks) keep;have x:vR X pins H (s.heap.objs.size+1):=I.Di (Ro _) (I.ej.fresh (Ro _));refine Iz (Mq (wpAny_call_entry_kw slot_list_sort ⟨_,U,rfl⟩ entry_list_sort ?body (ksk_l1 _ _)))
 case body=>
  show wpAny (d9 X.prog X.w) X.A.in1.in1 (Builtin.«list.sort» ⟨[.ref (s.heap.objs.size+1)],[(Lw "key",.ref f)]⟩) _ _ _;rw[ksk_t1];unfold ksk_tree;refine Iz (listItems_at U rfl ?_);refine Iz (RP U rfl ?_ (by rw[IL];exact e) (Mr _));obtain⟨t,r⟩:∃t,(g.update (s.heap.objs.size+1) (LM λ_=>(#[]:Array dy))).get? (s.heap.objs.size+1)=cq (i9 "list" #[] t):=⟨_,Uz U λ_=>#[]⟩;refine Iz (seqEpoch_at r rfl ?_);refine Iz (RD ?_ (by show vs.length<=_;exact e));refine Iz (wpAny_newList ?_ (Mr _));refine Mq ?_;have B:=N.C7 (h':=g.update (s.heap.objs.size+1) (LM λ_=>(#[]:Array dy))) (t':=s.toks) (fp:=[s.heap.objs.size+1]) (λb o O q=>(Le _ _ (λz=>O (by rw[z];exact List.mem_singleton_self _))).trans q) (λb O=>by rw[Nr.mp O];exact x);have C:=B.kept (h':=((g.update (s.heap.objs.size+1) (LM λ_=>(#[]:Array dy))).push (i9 "tuple" vs.toArray 0)).push (i9 "list" #[] 0)) (t':=s.toks) (λb o q=>IB _ (IB _ q));have y:((g.update (s.heap.objs.size+1) (LM λ_=>(#[]:Array dy))).push (i9 "tuple" vs.toArray 0)).objs.size=s.heap.objs.size+3:=by rw[UR,Pq,n]
  have S:vR X pins H (s.heap.objs.size+3):=I.Di (Ln _ _) (I.ej.fresh (Ln _ _));refine mE (A:=X.A.in1.in1) (ps:=ps) (xs:=xs) (ds:=ds) (H0:=H0) (H:=H) (s:={s with heap:=((g.update (s.heap.objs.size+1) (LM λ_=>(#[]:Array dy))).push (i9 "tuple" vs.toArray 0)).push (i9 "list" #[] 0)}) (kS:=((g.update (s.heap.objs.size+1) (LM λ_=>(#[]:Array dy))).push (i9 "tuple" vs.toArray 0)).objs.size)
   G h1 hr.in1.in1 I.Dg.in1.in1.frames O C sub Y rd L Z hF (IS _ rfl) (IB _<|IB _ r) (by rw[y];exact λz=>absurd (Nat.add_left_cancel z) ⋯) (by rw[y];exact S) x λs' H' J c M x3 T u=>⟨_,rfl,?_⟩
  refine IH ⟨_,rfl,h s' H' J _ (I.ej.fresh<|Ro _) u.1 x3<|gh M u ?_⟩;have P:∀i∈kT ps,i<xs.length:=λi W=>by have:=(qU ps).mem_iff.mp W;have:=IC.mp this;omega
  have R:((kT ps).map λi=>xs.getD i V.d7).length=vs.length:=by rw[Lc,(qU ps).length_eq,Md,L]
  exact⟨by rw[R];exact e,(kT ps).map λi=>vs.getD i LV,c,K6 Y _ P,T⟩
end
theorem YU:∀{ds:List D} {ps:List (Int×Int)},YV F ds=cq ps->ps.length=ds.length
 |[],ps,h=>by cases h;rfl
 |d::r,ps,h=>by obtain⟨p,_,a⟩:=zg h;obtain⟨l,I,O⟩:=zH a;subst O;simp[YU I]
theorem bJ(h:sQ r=cq p):r=.val (.tup [.int p.1,.int p.2]):=by
 unfold sQ at h;split at h
 ·split at h
  ·split at h
   ·obtain⟨i,a,b⟩:=zg h
    obtain⟨j,I,O⟩:=zH b;subst O;rw[jW a,jW I]
   ·cases h
  ·cases h
 ·cases h
theorem aj:∀{ds:List D} {ps:List (Int×Int)},YV F ds=cq ps->∀(i:Nat) d p,ds[i]? = cq d->ps[i]? = cq p->F [d]=cq (.val<|.tup [.int p.1,.int p.2])
 |[],ps,h,i,d,p,hd,hp=>by simp at hd
 | c::r,ps,h,i,d,p,hd,hp=>by
  obtain⟨q,b,e⟩:=zg h;obtain⟨l,I,O⟩:=zH e;subst O;cases i with
  |zero=>
   simp at hd hp;subst hd hp;obtain⟨Y,a,U⟩:=zg b;rw[a,bJ U]
  |succ i=>exact aj I i d p (by simpa using hd) (by simpa using hp)
section
variable{X:Cx}{sc:gB}{N L:List Str}{k j:Nat}{e:ec}{fq:CO (Sk×List D)}{F:List D->Option Res}{x:Str}{p p2 pos O_:fh}
theorem lP(Z:fx X.prog X.w X.K X.mg X.base j x 1 F)(h:SX X sc N L k)(hj:j+1+1<=k)(c:kU sc "sorted" = da)(z:X.mg "sorted" = none)(J:kU sc x=da)(hq:PQ X e fq)
 (hs:eA [e] X.env=[(di,d8 e X.env)]:=by rfl):
 PO X (.Call (.Name "sorted" p) [e] [⟨cq "key",.Name x p2,O_⟩] pos) (dJ F fq):=by
 intro b s σ H Q I n;obtain⟨H0,γ,out,rc,O,q⟩:=n;obtain⟨⟨kk,ds⟩,E,O⟩:=zg O;obtain⟨M,fd,pr,hn,G,W,hk,R⟩:=Z.ex;cases kk with
 |T=>cases O
 | L=>
  have O:((YV F ds).bind λps=>if ds.length<64 then cq ((kT ps).map λi=>ds.getD i .d7)else none)=cq out:=O;obtain⟨ps,y,O⟩:=zg O;by_cases A:ds.length<64
  ·rw[UJ A]at O
   cases O;refine MC (xX (u:=.builtin "sorted") I (h.gl c).1 z ⋯ (callWith_kw ?_ (by rw[hs];rfl) (by rw[hs];rfl)) ⋯ ⋯);refine eK ((jm hq qc hs) pos b s σ H (λvs f=>∃a xs U,vs=[.ref a]/\Ext H0 H U f/\gv X.K f a xs/\d5 X.K U ds xs) I ⟨H0,γ,.L,ds,rc,E,λa xs f U d g1 g2 Y=>⟨a,xs,U,rfl,d,g1,Y⟩⟩) λus B n=>?_;obtain⟨vs,f,m,rv,a,xs,U,rfl,d,g1,Y⟩:=n;obtain⟨u,rfl,ru⟩:=yx rv;cases ru;show wpAny _ _ (evalAll ((do let v<-d8 (.Name x p2) X.env;M8 pos;pure v)::[])) _ _ B;refine wpAny_evalAll_cons (Iz (vZ m (h.gl J).1 W (Iz (RN (IH ?_))) (h.gl J).2.2));refine wpAny_evalAll_nil ?_;obtain⟨o,r,pl,hz⟩:=m.list g1;have l1:=r.length;have l2:=Y.length;have l3:=YU y;show wpAny _ _ (call (.builtin "sorted") [.ref a] [(Lw "key",.ref M)]) _ _ B;refine bZ (H0:=U) (ps:=ps) (xs:=xs) (ds:=ds) (vs:=o) (F:=F) G hn (h.room.mono hj) R m d.sub pl.isList r Y ⋯ ⋯ (aj y) λs' H' l D P t g C=>?_;refine⟨.ref D,_,C,rfl,q D _ _ l (d.trans (g.trans (Ext.hide g.sub t _))) (ym d.s1 P) (jx g.sub t) zM ?_⟩;refine Yt (Y.mono g.s0) _ λi S=>?_;have:=(qU ps).mem_iff.mp S;have:=IC.mp this;omega
  ·rw[UY A]at O;cases O
end
section
variable{X:Cx}{sc:gB}{N L:List Str}{k j n i:Nat}{a b c e:ec}{es:List ec}{f:CO D}{g:CO (List D)}{p pos:fh}{x:Str}{st _t _u:h9}{yR:List h9}{F:List D->Option Res}
open Classical in
noncomputable def DH(H:Hp)(p:dv):Hp:=λc=>if c=p then none else H c
theorem Sx{H:Hp}{p c:dv}(h:c≠p):DH H p c=H c:=UY h
end
mutual
def TM:D->Bool
 |.tup a=>P4 a
 |.lst a=>P4 a
 |.exc _ _=>di
 |.nr _ _=>di
 |.ov _ _=>di
 |.ins _ _ _=>di
 |_=>da
def P4:List D->Bool
 |[]=>da
 |x::xs=>TM x&&P4 xs
end
mutual
theorem Rep.less{K:Iy}{H:Hp}{p:dv}{z:eh->Prop}(O:H p=cq (.ext z)):∀{d:D} {v:V},TM d=da->Rep K H d v->Rep K (DH H p) d v
 |.d7,_,_,h=>h
 |.bl _,_,_,h=>h
 |.int _,_,_,h=>h
 |.str _,_,_,h=>h
 |.tup ds,v,n,h=>by
  obtain⟨a,b,f,g,i⟩:=(show ∃a b,v=.ref a/\gR K H a b/\d5 K H ds b from h);refine(show ∃a b,v=.ref a/\gR K (DH H p) a b/\d5 K (DH H p) ds b from⟨a,b,f,?_,d5.less O n i⟩);have I:∀{u:HO},(∀z,u ≠ .ext z)->H a=cq u->a≠p:=λU q e=>by rw[e,O]at q;exact U _ (LN q).symm
  rcases g with(hq|⟨o',hq⟩)|hq
  ·exact .inl (.inl<|by rw[Sx (I (λ_=>by simp) hq)];exact hq)
  ·exact .inl<|.inr ⟨o',by rw[Sx (I (λ_=>by simp) hq)];exact hq⟩
  ·exact .inr hq
 |.lst ds,v,n,h=>by
  obtain⟨a,b,f,g,i⟩:=(show ∃a b,v=.ref a/\gv K H a b/\d5 K H ds b from h);refine(show ∃a b,v=.ref a/\gv K (DH H p) a b/\d5 K (DH H p) ds b from⟨a,b,f,?_,d5.less O n i⟩);have I:∀{u:HO},(∀z,u ≠ .ext z)->H a=cq u->a≠p:=λU q e=>by rw[e,O]at q;exact U _ (LN q).symm
  rcases g with(hq|⟨o',hq⟩)|hq
  ·exact .inl (.inl<|by rw[Sx (I (λ_=>by simp) hq)];exact hq)
  ·exact .inl<|.inr ⟨o',by rw[Sx (I (λ_=>by simp) hq)];exact hq⟩
  ·exact .inr hq
 |.exc _ _,_,n,_=>nomatch n
 |.nr _ _,_,n,_=>nomatch n
 |.ov _ _,_,n,_=>nomatch n
 |.ins _ _ _,_,n,_=>nomatch n
theorem d5.less{K:Iy}{H:Hp}{p:dv}{z:eh->Prop}(I:H p=cq (.ext z)):∀{ds:List D} {xs:List V},P4 ds=da->d5 K H ds xs->d5 K (DH H p) ds xs
 |[],_,_,h=>h
 |d::ds,xs,n,h=>by obtain⟨x,r,a,b,e⟩:=(show ∃x r,xs=x::r/\Rep K H d x/\d5 K H ds r from h);have n:(TM d&&P4 ds)=da:=n;rw[IK]at n;exact(show ∃x r,xs=x::r/\Rep K (DH H p) d x/\d5 K (DH H p) ds r from⟨x,r,a,Rep.less I n.1 b,d5.less I n.2 e⟩)
end
noncomputable def DI(e:ec):Str:=match e with|.Name x _=>x|_=>""
noncomputable def Dm(e:ec):List Str:=match e with|.Tuple a _ _=>a.map DI|e=>[DI e]
noncomputable def D0(N:List Str)(fs:List Nat):List (Str×Nat):=fs.map λi=>(N.getD i "",i)
theorem Kw(N:List Str)(fs:List Nat):(D0 N fs).map (·.2)=fs:=by unfold D0;rw[Ly];exact List.map_id fs
noncomputable def oX(e:ec):Bool:=match e with|.Name _ _=>da|_=>di
theorem bQ{e:ec}(h:oX e=da):∃p,e=.Name (DI e) p:=by
 unfold oX at h;split at h
 ·exact⟨_,rfl⟩
 ·cases h
noncomputable def GS(z:gB)(N L:List Str)(is:List Nat)(es:List ec):Bool:=match is with
 |[i,j]=>(match es with|[a,b]=>oX a&&(yd z N L i (DI a)&&(oX b&&yd z N L j (DI b)))|_=>di)
 |[i,j,l]=>(match es with|[a,b,c]=>oX a&&(yd z N L i (DI a)&&(oX b&&(yd z N L j (DI b)&&(oX c&&yd z N L l (DI c)))))|_=>di)
 |_=>di
noncomputable def R4(z:gB)(N L:List Str)(e:ec)(T:Tg):Bool:=match T with
 |.nm i=>oX e&&yd z N L i (DI e)
 |.tp is=>(match e with|.Tuple a _ _=>GS z N L is a|_=>di)
theorem pY{X:Cx}{z:gB}{N L:List Str}{k:Nat}(h:SX X z N L k){e:ec}{T:Tg}(c:R4 z N L e T=da):PG X e (vt X.K T):=by
 cases T with
 |nm i=>
  have c:=Bool.and_eq_true_iff.mp c;obtain⟨p,q⟩:=bQ c.1;rw[q];exact h.N1 _ c.2
 | tp is=>
  unfold R4 at c;dsimp only at c;split at c
  ·next l j pos=>
   unfold GS at c;split at c
   ·split at c
    ·simp only[IK]at c
     obtain⟨I,O,a,b⟩:=c;obtain⟨p,q⟩:=bQ I;obtain⟨f,U⟩:=bQ a;rw[q,U];exact h.U2<|wA (h.N1 _ O)<|wA (h.N1 _ b) ff
    ·cases c
   ·split at c
    ·simp only[IK]at c
     obtain⟨I,O,a,b,Y,d⟩:=c;obtain⟨p,q⟩:=bQ I;obtain⟨f,U⟩:=bQ a;obtain⟨m,g⟩:=bQ Y;rw[q,U,g];exact h.U2<|wA (h.N1 _ O)<|wA (h.N1 _ b)<|wA (h.N1 _ d) ff
    ·cases c
   ·cases c
  ·cases c
noncomputable def cB(I scope:gB)(N:List Str)(z:ec)(T:Tg)(n:Nat)(fs:List Nat):Bool:=
 Wd I scope N (D0 N fs)&&(Fe (Dm z) scope (D0 N fs)&&(decide (∀i∈T.idx,i<(Dm z).length)&&(decide ((Dm z).length=n)&&R4 (yC scope I) (Dm z++(D0 N fs).map (·.1)) (Dm z) z T)))
abbrev DY(X:Cx)(scope:gB)(N:List Str)(tg:ec)(fs:List Nat):=jF X scope (Dm tg++(D0 N fs).map (·.1))
abbrev SA(X:Cx)(sc scope:gB)(N:List Str)(tg:ec)(fs:List Nat)(k:Nat)(fp:List dv)(s2:d6)(H2:Hp):Prop:=SX (DY X scope N tg fs fp s2 H2) (yC scope sc) (Dm tg++(D0 N fs).map (·.1)) (Dm tg) k
section
variable{X:Cx}{sc scope:gB}{N L:List Str}{k n i:Nat}{fs:List Nat}{T:Tg}{e elt tg iter L5:ec}{es:List ec}{pos p py spos cpos:fh}{x y:Str}{f g:CO D}{fo:CO (List D)}{src gl:CO (List D)}{kk:CO Bool}
theorem cA(h:SX X sc N L k)(c:cB sc scope N tg T n fs=da):wo X scope (D0 N fs)/\(∀i∈T.idx,i<(Dm tg).length)/\(Dm tg).length=n/\(∀fp J z,SA X sc scope N tg fs k fp J z)/\∀fp J z,PG (DY X scope N tg fs fp J z) tg (vt X.K T):=by unfold cB at c;simp only[IK,decide_eq_true_eq]at c;obtain⟨I,O,U,Y,a⟩:=c;have s:∀fp J z,SA X sc scope N tg fs k fp J z:=λfp J z=>h.comp O;exact⟨h.H_ I,U,Y,s,λfp J z=>pY (s fp J z) a⟩
theorem xi(h:SX X sc N L k)(O:A4 X tg iter src)(I:∀fp J z,SA X sc scope N tg fs k fp J z->PV (DY X scope N tg fs fp J z) elt f)(c:cB sc scope N tg T n fs=da:=by decide +kernel)(hs:∀x,u0 iter X.env x=pure x:=by intro _;rfl):
 PO X (.ListComp elt [⟨tg,iter,[],0⟩] scope pos) (zU src T n fs jw f):=by
 obtain⟨a,b,d,s,q⟩:=cA h c;have r:=sF (pos:=pos) h.calm a b O q (λfp J z=>I fp J z<|s fp J z) hs;rw[d,Kw]at r;exact r
theorem VI(h:SX X sc N L k)(Y:A4 X tg iter src)(I:∀fp J z,SA X sc scope N tg fs k fp J z->ni (DY X scope N tg fs fp J z) L5 kk)(O:∀fp J z,SA X sc scope N tg fs k fp J z->PV (DY X scope N tg fs fp J z) elt f)(c:cB sc scope N tg T n fs=da:=by decide +kernel)(hs:∀x,u0 iter X.env x=pure x:=by intro _;rfl):
 PO X (.ListComp elt [⟨tg,iter,[L5],0⟩] scope pos) (zU src T n fs kk f):=by
 obtain⟨a,b,d,s,q⟩:=cA h c;have r:=eX (pos:=pos) h.calm a b Y q (λfp J z=>I fp J z<|s fp J z) (λfp J z=>O fp J z<|s fp J z) hs;rw[d,Kw]at r;exact r
theorem yj(h:SX X sc N L k)(O:A4 X tg iter src)(I:∀fp J z,SA X sc scope N tg fs k fp J z->PV (DY X scope N tg fs fp J z) elt f)(ct:yd sc N L i y=da:=by decide +kernel)(c:cB sc scope N tg T n fs=da:=by decide +kernel)(hs:∀x,u0 iter X.env x=pure x:=by intro _;rfl):
 PS X (.Assign [.Name y py] (.ListComp elt [⟨tg,iter,[],0⟩] scope cpos) spos) (WE (tO X.K<|zU src T n fs jw f)<|vf i):=by
 obtain⟨a,b,d,s,q⟩:=cA h c;have r:=U' (cpos:=cpos) (spos:=spos) (py:=py) i h ct h.calm a b O q (λfp J z=>I fp J z<|s fp J z) hs;rw[d,Kw]at r;exact r
theorem sA(h:SX X sc N L k)(Y:A4 X tg iter src)(I:∀fp J z,SA X sc scope N tg fs k fp J z->ni (DY X scope N tg fs fp J z) L5 kk)(O:∀fp J z,SA X sc scope N tg fs k fp J z->PV (DY X scope N tg fs fp J z) elt f)(ct:yd sc N L i y=da:=by decide +kernel)(c:cB sc scope N tg T n fs=da:=by decide +kernel)(hs:∀x,u0 iter X.env x=pure x:=by intro _;rfl):
 PS X (.Assign [.Name y py] (.ListComp elt [⟨tg,iter,[L5],0⟩] scope cpos) spos) (WE (tO X.K<|zU src T n fs kk f)<|vf i):=by
 obtain⟨a,b,d,s,q⟩:=cA h c;have r:=Ft (cpos:=cpos) (spos:=spos) (py:=py) i h ct h.calm a b Y q (λfp J z=>I fp J z<|s fp J z) (λfp J z=>O fp J z<|s fp J z) hs;rw[d,Kw]at r;exact r
theorem zw(h:SX X sc N L k)(c:Ju sc N i x=da:=by decide +kernel):PV X (.Name x pos) (zh i):=AN i<|h.var c
theorem zV(h:SX X sc N L k)(c:Ju sc N i x=da:=by decide +kernel):PQ X (.Name x pos) (zk i):=AY i<|h.var c
theorem GT(h:SX X sc N L k)(c:R4 sc N L e T=da:=by decide +kernel):PG X e (vt X.K T):=pY h c
theorem jl(h:SX X sc N L k)(I:PV X e f)(c:yd sc N L i x=da:=by decide +kernel)(hs:u4 e (cq (.Name x py)) pos.line X.env=pure di:=by rfl):n5 X (.Assign [.Name x py] e pos) (jr i f):=su i<|h.set i c I hs
theorem yi(h:SX X sc N L k)(I:PO X e fo)(c:yd sc N L i x=da:=by decide +kernel)(hs:u4 e (cq (.Name x py)) pos.line X.env=pure di:=by rfl):n5 X (.Assign [.Name x py] e pos) (kB i fo):=lL i<|h.set i c I hs
theorem kF{z:List h9}{F:CO Fl}(hx:X.xe=λ_ _=>False)(h:SX X sc N L k)(J:i3 X tg iter src)(I:cW X z F)(c:R4 sc N L tg T=da:=by decide +kernel)(hs:∀x,u0 iter X.env x=pure x:=by intro _;rfl):n5 X (.For tg iter z [] pos) (ZV src T F):=sv (Bn hx) h.calm J (pY h c) I hs
variable{j:Nat}{F:List D->Option Res}
theorem zW(J:fx X.prog X.w X.K X.mg X.base j x n F)(h:SX X sc N L k)(z:B5 X (e::es) n gl)(I:j<=k:=by decide)(c:kU sc x=da:=by decide +kernel)
 (O:eA (e::es) X.env=(di,d8 e X.env)::eA es X.env:=by rfl) (U:(ow pos<|starEach es X.env).any (·.1)=di:=by rfl):PV X (.Call (.Name x p) (e::es) [] pos) (zE F gl):=Fq J I h c z O U
theorem xh(J:fx X.prog X.w X.K X.mg X.base j x n F)(h:SX X sc N L k)(z:B5 X (e::es) n gl)(I:j<=k:=by decide)(c:kU sc x=da:=by decide +kernel)
 (O:eA (e::es) X.env=(di,d8 e X.env)::eA es X.env:=by rfl) (U:(ow pos<|starEach es X.env).any (·.1)=di:=by rfl):PO X (.Call (.Name x p) (e::es) [] pos) (jg F gl):=Fw J I h c z O U
end
noncomputable def Ay(g:CO (Sk×List D))(z:CO D):CO D:=λb=>(g b).bind λa=>(z b).bind λx=>match a.1 with
 |.L=>if (l8 x=da/\m3 a.2=da)/\a.2.length<=lim then (a.2.findIdx? λd=>hB d x).map λ(j:Nat)=>D.int (j:Int)else none
 |.T=>none
noncomputable def Fk(K:Iy):V->List V->Hp->VK->Prop:=λx g H Q=>∃b e v p f a j,f6 b H/\x=.ref p/\g=[v]/\Rep K b e v/\gv K H p f/\d5 K b a f/\l8 e=da/\m3 a=da/\a.length<=lim/\a.findIdx? (λd=>hB d e)=cq j/\Q (.int (j:Nat)) H
theorem Vd{x:D}(hx:ir x=da):∀ds:List D,m3 ds=da->(n0 ds).findIdx? (λy=>MO y<|i0 x)=ds.findIdx? λd=>hB d x
 |[],_=>by simp[n0]
 |d::ds,h=>by simp only[m3,IK]at h;simp only[n0,List.findIdx?_cons];rw[O9 d x h.1 hx,Vd hx ds h.2]
theorem tw{X:Cx}(hu:X.A.units+66<Df):N9 X "list.index" (Fk X.K):=by
 intro o s σ H x vs v us Q I Z W h;obtain⟨H0,d,y,p,xs,f,j,sub,rfl,rfl,P,J,R,O,U,b4,G,q⟩:=h;cases Z;obtain⟨w1,rfl,rw⟩:=yx W;obtain⟨as,S⟩:=Ht I sub (xq O) P rw;obtain⟨bs,T⟩:=Xl I sub J R U;have hs:=PySem.SeqAt.depth_of_shaped<|ye O;have Y:=P0 f U;cases T with
 | list k C E g=>
  rename_i M b n b6
  obtain⟨oc,N,b7,i⟩:=M;subst C E;have e:b.toList.findIdx? (λy=>MO (Om s.heap y)<|i0 d)=cq j:=by rw[<-G,<-Vd (xq O) f U,<-OA _ _ _ Y g,List.findIdx?_map];rfl
  rw[List.findIdx?_eq_some_iff_getElem]at e;obtain⟨r,u,w⟩:=e;have B:j<b.size:=by simpa using r
  have b2:b.size=f.length:=by
   have:=congrArg Rb<|OA _ _ _ Y g;have t:∀l:List D,(n0 l).length=l.length:=λl=>by induction l with
    |nil=>simp[n0]
    |cons a l L=>simp[n0,L]
   simpa[t]using this
  have b3:(lim:Int)<2^62:=by unfold lim;decide
  refine Nm F.slot_list_index ⟨_,k,rfl⟩ F.entry_list_index (F.args_list_index_2 _ _) (PySem.SeqAt.list_indexAt p b n N i w1 (λy=>MO (Om s.heap y)<|i0 d) j B ⋯ (by simpa using u)<|λm hm z=>by simpa using w m z) ⟨k,PySem.SeqAt.items_eqAt g S Y (Sw d<|xq O) ?_,?_⟩
  ·have:min (Ov<|n0 f) (i0 d).depth<=(i0 d).depth:=RR _ _
   omega
  ·exact⟨.int _,H,I.tok _,⟨_,rfl⟩,q⟩
section
variable{X:Cx}{sc:gB}{N L:List Str}{k:Nat}{o e:ec}{apos cpos:fh}{fa:CO D}{g:CO (Sk×List D)}
theorem se(h:SX X sc N L k)(ho:PQ X o g)(he:PV X e fa)(z:L3 o "index" X.env (d8 o X.env)=d8 o X.env:=by rfl)
 (J:((ow cpos<|starEach [e] X.env).all (λx=> !x.1)&&(E9 cpos<|keywordEach [] X.env).all (λx=>x.1.isSome)&&decide ([e].length+([]:List t7).length+(if ([]:List t7).isEmpty then 0 else 1)<30))=da:=by rfl)
 (Z:(apos.endLine==cpos.line)=da:=by rfl) (hs:eA [e] X.env=[(di,d8 e X.env)]:=by rfl):PV X (.Call (.Attribute o "index" apos) [e] [] cpos) (Ay g fa):=
 qb (VL Nk PySem.F.slot_list_index PySem.F.type_list_index (tw h.U8) ho (jm he qc hs) z J Z hs rfl) λK H Q y=>by
  obtain⟨m,l,d,rc,I,q⟩:=y;obtain⟨⟨A,a⟩,u,I⟩:=zg I;obtain⟨x,t,I⟩:=zg I;cases A with
  |T=>cases I
  | L=>
   have I:(if (l8 x=da/\m3 a=da)/\a.length<=lim then (a.findIdx? λd=>hB d x).map λ(j:Nat)=>D.int (j:Int)else none)=cq d:=I;by_cases O:(l8 x=da/\m3 a=da)/\a.length<=lim
   ·rw[UJ O]at I
    obtain⟨j,w,rfl⟩:=zH I;refine⟨m,l,.L,a,rc,u,λp i E s f b G r=>⟨.inl ⟨rfl,i,b⟩,s,l,x,rc.ext f,t,λC n Y U B=>?_⟩⟩;exact⟨Y,x,C,p,i,a,j,U.sub,rfl,rfl,B,U.s1.seq b,r.mono U.s0,O.1.1,O.1.2,O.2,w,q _ n Y (f.trans U) rfl⟩
   ·rw[UY O]at I;cases I
end
noncomputable def dH(e j:Nat)(F:CO Fl)(G:CO Xn):CO Fl:=λa=>match G a with
 |some c=>cq (.next<|(a.set j<|.val<|.exc c.1 c.2).set e .no)
 |none=>F a
section
variable{X:Cx}{sc:gB}{N L:List Str}{k:Nat}{e:ec}{es:List ec}{g:CO (List D)}{G G':CO Xn}
noncomputable def O2(X:Cx)(z:List h9)(G:CO Xn):Prop:=∀(a:UQ) (s:d6) (b:St) (H I f d:Hp) (e:Ctx) (c:Xn),Inv X a b H s->RS X.K I f d H b e->G e=cq c->
 wpAny (d9 X.prog X.w) X.A (execs z X.env) (λ_ _=>False) (uT X a b d H c) s
theorem fw{y Z:Str}{py fp cpos J:fh}{n j:Nat}{G:List D->Option Xn}(h:SX X sc N L k)(O:kU sc Z=da)(hx:DT X.prog X.w X.K X.mg X.base j Z n G)(U:j<=k)(ha:B5 X.qq (e::es) n g)
 (Y:eA (e::es) X.env=(di,d8 e X.env)::eA es X.env:=by rfl) (a1:(ow cpos<|starEach es X.env).any (·.1)=di:=by rfl)
 (a2:u4 (.Call (.Name Z fp) (e::es) [] cpos) (cq (.Name y py)) J.line X.env=pure di:=by rfl):
 O2 X [.Assign [.Name y py] (.Call (.Name Z fp) (e::es) [] cpos) J] (yb G g):=λa s u H i l m t c I f eq=>by
 obtain⟨o,b,d⟩:=zg eq;exact NM<|wpAny_Assign_Name (Lq (ph hx U h O ha I f.rc b d Y a1) (λ_ _ z=>z.elim) λp r z=>z) a2
theorem Bq{J:CO Bool}{c:ec}{x y:List h9}{pos:fh}(hc:ni X.qq c J)(Z:O2 X x G)(hb:O2 X y G'):O2 X [.If c x y pos] (wb J G G'):=λa s f H n o g m O I Y e=>by
 obtain⟨t,K,U⟩:=zg e;refine NM<|Lq (wpAny_If (Q:=λ_ _=>False) (E:=uT X a f g H O)<|Lq (hc a s f H (λb p=>b=t/\∃d,Ext g H d p) (I.ng _) ⟨g,m,t,Y.rc,K,λp d x=>⟨rfl,d,x⟩⟩) (λb u z=>?_) λ_ _ z=>z.elim) (λ_ _ z=>z.elim) λ_ _ z=>z;obtain⟨h,r,rfl,i,l⟩:=z;have w:∀j k,uT X a f i h O j k->uT X a f g H O j k:=λj k ⟨A,C,L,B,M,F⟩=>⟨A,C,L,B,l.trans M,F⟩;cases b with
 |true=>rw[UJ rfl]at U;exact Lq (Z a u f h n o i m O r.r0 (Y.step l) U) (λ_ _ z=>z) w
 |false=>rw[UY Lb]at U;exact Lq (hb a u f h n o i m O r.r0 (Y.step l) U) (λ_ _ z=>z) w
theorem lJ(U Y:Nat){st:h9}{nx Z:Str}{np pz pn a4 a9 J:fh}{F:CO Fl}(aa:U≠Y)(h:SX X sc N L k)(ab:X.stack=X.env::X.outer/\X.env.frame=cq X.env.locals)
 (ac:kU sc "SplitError" = da) (cn:yd sc N L U nx=da) (cl:decide (sc.names.lookup nx=cq .local)=da) (cv:Ju sc N U nx=da) (cz:yd sc N L Y Z=da) (x:XS X.K X.mg)
 (hF:n5 X.qq st F) (hG:O2 X [st] G)
 (hs:u4 (.Name nx pn) (cq (.Name Z pz)) a4.line X.env=pure di:=by rfl):
 n5 X (.Try [st] [.ExceptHandler (cq (.Name "SplitError" np)) (cq nx) [.Assign [.Name Z pz] (.Name nx pn) a4] a9] [] [] J) (dH U Y F G):=by
 intro a s l H D I ⟨e,f,g,d,j,b,O,i⟩;refine wpAny_Try_except ?_;unfold dH at O;cases q:G d with
 |some m=>
  rw[q]at O;cases O;refine Lq (hG a s l H e f g d m I b q) (λ_ _ z=>z.elim) λn o z=>?_;exact nE h ab x ac cn cl cv cz aa b z i hs
 |none=>
  rw[q]at O;refine Lq (zo hF a s l H D (I.ng _) ⟨e,f,g,d,_,b,O,i⟩) (λj p z=>?_) λ_ _ z=>z.elim;have z:=z.r0;cases j with
  |next=>exact Rf z
  |ret v=>exact z
  |brk=>exact z
  |cont=>exact z
end
noncomputable def jv:=jq 5<|zS (kv (X5 (sB<|zI p7 (VC<|zk 0)<|zy<|.int 1)<|sB<|zI gw (zI yT (dj (zk 0)<|zy<|.int 0)<|zy<|.int 2)<|zy<|.int 1) (zS (jr 2<|dj (zk 0)<|zI qu (zy<|.int 1)<|zI yT (zh 1)<|zI cU (VC<|zk 0)<|zy<|.int 1)<|zS (ZV (jK<|dN (zy<|.int 60)<|zI Xc (zh 1)<|zI cU (VC<|zk 0)<|zy<|.int 1) (.nm 3)<|jr 2<|zI Xc (zh 2)<|zI uk (zy<|.int 10)<|zy<|.int 9)<|qt<|zI yT (zh 2)<|zI uk (zy<|.int 10)<|zy<|.int 9) qF)<|zS (jr 4<|zh 1)<|zS (kv (sB<|zI p7 (VC<|zk 0)<|zy<|.int 0) (jr 4<|dj (zk 0)<|zI yT (zh 1)<|VC<|zk 0) qF)<|qt<|zI yT (zI yw (zI yT (zI qu (zI qu (zI qu (zI yw (zI yT (zh 4)<|zI uk (zy<|.int 10)<|zy<|.int 30)<|zy<|.int 48271)<|zI yw (zI yw (zy<|.int 7)<|zh 1)<|zh 1)<|zI yw (zy<|.int 13)<|zh 1)<|zy<|.int 5)<|zy<|.int 2147483647)<|zy<|.int 69621)<|zy<|.int 1000000007
noncomputable def x9:=jq 3 (zS (kv (sB (zI gw (dj (zk 1) (zy (.int 0))) (dj (zk 2) (zy (.int 0))))) (qt (zy (.bl da))) qF) (qt (zI gw (qS (zh 0) (zI cU (lu (dj (zk 1) (zy (.int 0))) (dj (zk 2) (zy (.int 0)))) (zy (.int 1)))) (bq (sB (zI DZ (dj (zk 1) (zy (.int 0))) (dj (zk 2) (zy (.int 0))))) (zy (.str "l")) (zy (.str "r"))))))
noncomputable def xA:=jq 3 (zS (kv (sB (zI gw (dj (zk 1) (zy (.int 1))) (dj (zk 2) (zy (.int 1))))) (qt (zy (.bl da))) qF) (qt (zI gw (qS (zh 0) (dN (dj (zk 1) (zy (.int 1))) (dj (zk 2) (zy (.int 1))))) (bq (sB (zI p7 (dj (zk 1) (zy (.int 1))) (dj (zk 2) (zy (.int 1))))) (zy (.str "r")) (zy (.str "l"))))))
noncomputable def kz:=jq 3<|zS (kv (sB<|zI p7 (lu (dj (zk 1)<|zy<|.int 0)<|dj (zk 2)<|zy<|.int 0)<|dN (dj (zk 1)<|zy<|.int 1)<|dj (zk 2)<|zy<|.int 1) (qt<|zy<|.int 0) qF)<|qt<|bq (X5 (sB<|zE x9<|zb (zh 0)<|zb (zh 1)<|zb (zh 2) zF)<|sB<|zE xA<|zb (zh 0)<|zb (zh 1)<|zb (zh 2) zF) (zy<|.int 1)<|zy<|.int 0
noncomputable def vH:=jq 2 (zS (kv (sB (zI gw (qS (zh 0) (zh 1)) (zy (.str "r")))) (qt (xF (zb (zh 1) (zb (zI qu (zh 1) (zy (.int 1))) zF)))) qF) (qt (xF (zb (zI qu (zh 1) (zy (.int 1))) (zb (zh 1) zF)))))
noncomputable def xU:=jq 2 (qt (rP (zy (.str "")) (jz (zU (jK (zI cU (zh 1) (zy (.int 1)))) (.nm 0) 1 [0] jw (qS (zy (.str "rl")) (zI yT (zI Xc (zh 1) (dj (jz (jH (zb (zy (.int 1)) (zb (zy (.int 2)) (zb (zy (.int 4)) (zb (zy (.int 8)) (zb (zy (.int 16)) zF))))))) (zh 0))) (zy (.int 2))))))))
noncomputable def qk:=jq 3<|zS (kB 1<|jH zF)<|zS (ZV (jK<|zh 0) (.nm 2)<|dR 1<|zU (X0 (zh 2)<|zh 0) (.nm 0) 1 [2] jw (xF<|zb (zh 1)<|zb (zh 0) zF))<|XZ 1
noncomputable def qB:=jq 3<|zS (jr 2<|zE qH<|zb (zh 0) zF)<|yQ<|zU (Yr<|zh 2) (.tp [0,1]) 2 [0,1] jw (xF<|zb (dj (zJ<|dj (zk 3)<|zy<|.int 1)<|zE k8<|zb (zh 0)<|zb (zh 1) zF)<|zb (dj (zJ<|dj (zk 2)<|zy<|.int 1)<|zE jT<|zb (zh 0)<|zb (zh 1) zF) zF)
noncomputable def q8:=jq 2<|yQ<|dO (dj (zk 1)<|zy<|.int 1)<|dj (zk 0)<|zy<|.int 1
noncomputable def jS:=jq 1<|qt<|iH<|jz<|zU (zR<|zk 0) (.tp [0,1]) 2 [] jw (zI yw (zh 0)<|zh 1)
noncomputable def vo:=jq 4<|zS (kB 1<|jH zF)<|zS (ZV (zR<|zJ<|zh 0) (.nm 2)<|ZV (zR<|zJ<|dj (zk 2)<|zy<|.int 2) (.nm 3)<|VD 1<|zk 3)<|qt<|jb<|zk 1
noncomputable def aO:=jq 3<|qt<|zE xE<|zb (zh 0)<|zb (zh 1)<|zb (rO<|zy<|.int 1)<|zb (zh 2) zF
noncomputable def nK:=jq 8<|zS (jr 4<|dj (zk 0)<|zy<|.int 0)<|zS (jr 5<|dj (zJ<|dj (zJ<|dj (zk 0)<|zy<|.int 2)<|zh 3)<|zy<|.int 0)<|zS (jr 6<|zE qw<|zb (zh 4)<|zb (dj (zk 2)<|zE k8<|zb (zh 3)<|zb (zh 5) zF)<|zb (dj (zJ<|dj (zJ<|dj (zk 0)<|zy<|.int 2)<|zh 3)<|zy<|.int 1) zF)<|zS (jr 7<|zE qw<|zb (zh 4)<|zb (dj (zJ<|dj (zJ<|dj (zk 1)<|zy<|.int 2)<|zh 3)<|zy<|.int 1)<|zb (dj (zk 2)<|zE jT<|zb (zh 3)<|zb (zh 5) zF) zF)<|qt<|zE aO<|zb (zh 4)<|zb (zh 6)<|zb (zh 7) zF
noncomputable def Vt:=jq 3<|yQ<|zU (jK<|VC<|zJ<|dj (zk 0)<|zy<|.int 2) (.nm 0) 1 [0,1,2] jw (zE nK<|zb (zh 1)<|zb (zh 2)<|zb (zh 3)<|zb (zh 0) zF)
noncomputable def qg:=jq 7<|zS (kB 2<|jH zF)<|zS (jr 3<|zy<|.int 0)<|zS (ZV (zR<|zJ<|zh 0) (.tp [4,5])<|zS (jr 6<|jG<|zU (jK<|zh 4) (.nm 0) 1 [1,3,5] jw (WL (zh 1) (p5<|zI qu (zh 2)<|zI yw (zh 0)<|zh 3)<|p5<|zI qu (zh 2)<|zI yw (zI qu (zh 0)<|zy<|.int 1)<|zh 3))<|zS (yz 2<|xF<|zb (zh 4)<|zb (zh 5)<|zb (jb<|zk 6) zF)<|jr 3<|zI qu (zh 3)<|zI yw (zh 4)<|zh 5)<|XZ 2
noncomputable def k7:=jq 5<|zS (jr 2<|jG<|jg q8<|zb (zh 0)<|zb (zh 1) zF)<|zS (jr 3<|zE jS<|zb (zh 2) zF)<|zS (jr 4<|jG<|zU (zR<|zJ<|dj (zJ<|zE j7<|zb (zh 3) zF)<|zy<|.int 2) (.nm 0) 1 [0,1,2] jw (zE vo<|zb (jG<|jg Vt<|zb (zh 1)<|zb (zh 2)<|zb (jG<|jg qg<|zb (zh 3)<|zb (zh 0) zF) zF) zF))<|qt<|zE jP<|zb (xF<|zb (zh 3)<|zb (zE jS<|zb (jG<|jg qB<|zb (zh 0)<|zb (zh 1) zF) zF)<|zb (jb<|zk 4) zF) zF
noncomputable def j6:=jq 1<|qt<|xF<|zb (dj (zk 0)<|zy<|.int 0)<|zb (zI cU (zI qu (dj (zk 0)<|zy<|.int 0)<|VC<|zJ<|dj (zk 0)<|zy<|.int 1)<|zy<|.int 1) zF
noncomputable def jZ:=jq 2<|qt<|dU Tp DZ (dj (zk 0)<|zy<|.int 0) (zh 1)<|zI qu (dj (zk 0)<|zy<|.int 0)<|VC<|zJ<|dj (zk 0)<|zy<|.int 1
noncomputable def q9:=jq 2<|yQ<|zU (zR<|zk 0) (.nm 0) 1 [1] (sB<|zE jZ<|zb (zh 0)<|zb (zh 1) zF) (dj (zJ<|dj (zk 0)<|zy<|.int 1)<|zI cU (zh 1)<|dj (zk 0)<|zy<|.int 0)
noncomputable def kO:=jq 2<|qt<|zE jP<|zb (xF<|zb (VC<|zk 1)<|zb (zh 0)<|zb (jb<|zk 1) zF) zF
noncomputable def k6:=jq 5<|zS (jr 4<|jG<|zU (QR (zh 2)<|zh 1) (.tp [0,1]) 2 [3] (sB<|zE jZ<|zb (zh 1)<|zb (zh 2) zF) (zh 0))<|qt<|zE cR<|zb (dj (zk 0)<|zy<|.int 0)<|zb (zE kO<|zb (dj (zJ<|dj (zk 0)<|zy<|.int 1)<|zh 3)<|zb (jG<|jg q9<|zb (zh 1)<|zb (zh 3) zF) zF)<|zb (zh 4) zF
noncomputable def KS:=jq 5<|zS (jr 3<|dj (zk 1)<|zE qJ<|zb (zh 2) zF)<|zS (jr 4<|jG<|zU (jK<|VC<|zJ<|dj (zk 3)<|zy<|.int 1) (.nm 0) 1 [0,1,2,3] jw (zE k6<|zb (zh 1)<|zb (zh 2)<|zb (zh 3)<|zb (zI qu (dj (zk 4)<|zy<|.int 0)<|zh 0) zF))<|qt<|xF<|zb (dj (zk 3)<|zy<|.int 0)<|zb (jb<|zk 4) zF
noncomputable def TU:=(jr 3<|dj (zJ<|dj (zJ<|dj (zk 0)<|zy<|.int 2)<|zh 1)<|zy<|.int 0)
noncomputable def TV:=(jr 4<|dj (zJ<|dj (zJ<|dj (zk 0)<|zy<|.int 2)<|zh 1)<|zy<|.int 1)
noncomputable def SO:=(jr 5 (bq (sB (zI gw (zh 3) (zy (.str "r")))) (jG (jg kn (zb (dj (zk 0) (zy (.int 0))) (zb (zh 4) zF)))) (jG (jg ZG (zb (dj (zk 0) (zy (.int 0))) (zb (zh 4) zF))))))
noncomputable def TX:=(jr 6<|jG<|jg ky<|zb (dj (zk 0)<|zy<|.int 0)<|zb (zE kO<|zb (dj (zJ<|dj (zk 0)<|zy<|.int 1)<|zh 1)<|zb (jG<|jg q9<|zb (zh 2)<|zb (zh 1) zF) zF)<|zb (zh 5) zF)
noncomputable def TY:=(jr 7<|nY<|zU (zR<|zk 6) (.nm 0) 1 [] jw (xF<|zb (zE qJ<|zb (zh 0) zF)<|zb (zh 0) zF))
noncomputable def TZ:=(yQ<|zU (nX<|zh 2) (.tp [0,1]) 2 [0,2,7] jw (bq (sB<|Az (zh 0)<|zh 4) (zE KS<|zb (zh 2)<|zb (zh 3)<|zb (Eg (zh 4)<|zh 0) zF)<|zh 1))
noncomputable def wY:=jq 8<|zS TU<|zS TV<|zS SO<|zS TX<|zS TY TZ
noncomputable def M5:=(kv (sB (zI gw (dj (zk 1) (zy (.int 0))) (zy (.str "l")))) (qt (zE vG (zb (zh 0) (zb (dj (zk 1) (zy (.int 1))) (zb (zh 2) zF))))) qF)
noncomputable def SE:=(jr 3<|zE cR<|zb (zh 0)<|zb (dj (zk 1)<|zy<|.int 1)<|zb (zh 2) zF)
noncomputable def SF:=(qt<|bq (sB<|uQ<|zk 3) (zh 3)<|zy .d7)
noncomputable def xP:=jq 4<|zS M5<|zS SE SF
noncomputable def T9:=(jr 3<|zE xP<|zb (zh 0)<|zb (zh 1)<|zb (dj (zJ<|dj (zk 2)<|zy<|.int 1)<|rO<|zy<|.int 1) zF)
noncomputable def SV:=(qt<|bq (sB<|zI Cv (zh 3)<|zy .d7) (zh 2)<|xF<|zb (dj (zk 2)<|zy<|.int 0)<|zb (zI qu (dj (zk 2)<|zy<|.int 1)<|xF<|zb (zh 3) zF) zF)
noncomputable def yt:=jq 4<|zS T9 SV
noncomputable def P5:=(kv (sB (zI gw (dj (zk 1) (zy (.int 0))) (zy (.str "l")))) (yQ (jg kn (zb (zh 0) (zb (dj (zk 1) (zy (.int 1))) zF)))) qF)
noncomputable def TN:=(jr 2<|jG<|zU (zR<|jz<|jg ZG<|zb (zh 0)<|zb (dj (zk 1)<|zy<|.int 1) zF) (.nm 0) 1 [] jw (zE qJ<|zb (zh 0) zF))
noncomputable def TQ:=(yQ<|zU (lz<|dj (zJ<|zE j7<|zb (dj (zJ<|dj (zk 1)<|zy<|.int 1)<|zy<|.int 0) zF)<|zy<|.int 2) (.tp [0,1]) 2 [2] (sB<|X3 (zh 0)<|zk 2) (zh 1))
noncomputable def yK:=jq 3<|zS P5<|zS TN TQ
noncomputable def Tu:=(jr 3<|dj (zk 0)<|zy<|.int 0)
noncomputable def Tv:=(jr 4<|dj (zJ<|dj (zk 0)<|zy<|.int 2)<|zh 1)
noncomputable def Tw:=(jr 5<|jG<|zU (zR<|zk 2) (.nm 0) 1 [1] (Zi<|sB<|zE jZ<|zb (zh 0)<|zb (zh 1) zF) (zh 0))
noncomputable def Tx:=(jr 6<|jG<|jg wY<|zb (zh 0)<|zb (zh 1)<|zb (jG<|zU (zR<|zk 2) (.nm 0) 1 [1] (sB<|zE jZ<|zb (zh 0)<|zb (zh 1) zF) (zh 0)) zF)
noncomputable def Tz:=(jr 7<|jG<|zU (zR<|zk 6) (.nm 0) 1 [3,4] jw (zE yt<|zb (zh 1)<|zb (zh 2)<|zb (zh 0) zF))
noncomputable def TC:=(jr 8<|jG<|zU (zR<|jz<|jg yK<|zb (zh 3)<|zb (zh 4) zF) (.nm 0) 1 [1] jw (xF<|zb (zI qu (zh 1)<|zy<|.int 1)<|zb (xF<|zb (zh 0) zF) zF))
noncomputable def Su:=(qt (jG (JF (zk 5) (zJ (bq (sB (zI gw (dj (zk 4) (zy (.int 0))) (zy (.str "r")))) (jG (JF (zk 8) (zk 7))) (jG (JF (zk 7) (zk 8))))))))
noncomputable def QI:=jq 9<|zS Tu<|zS Tv<|zS Tw<|zS Tx<|zS Tz<|zS TC Su
noncomputable def Si:=(jr 1<|jG<|zU (zR<|zJ<|dj (zJ<|zE j7<|zb (dj (zJ<|dj (zk 0)<|zy<|.int 1)<|zy<|.int 0) zF)<|zy<|.int 2) (.nm 0) 1 [] jw (xF<|zb (zy<|.int 0)<|zb (xF<|zb (zh 0) zF) zF))
noncomputable def Ta:=(ZV (jK<|VC<|zJ<|dj (zk 0)<|zy<|.int 2) (.nm 2)<|jr 1<|zE QI<|zb (zh 0)<|zb (zh 2)<|zb (zh 1) zF)
noncomputable def Tb:=(yQ<|dJ j6<|zk 1)
noncomputable def yN:=jq 3<|zS Si<|zS Ta Tb
noncomputable def Te:=(jr 1<|jG<|jg yN<|zb (zh 0) zF)
noncomputable def Tf:=(jr 2<|jG<|zU (lz<|dj (zk 0)<|zy<|.int 1) (.tp [0,1]) 2 [1] jw (zE kO<|zb (zh 1)<|zb (jG<|jg q9<|zb (zh 2)<|zb (zh 0) zF) zF))
noncomputable def Th:=(jr 3<|jG<|zU (zR<|zk 2) (.nm 0) 1 [0] jw (zE kP<|zb (dj (zk 1)<|zy<|.int 0)<|zb (zh 0) zF))
noncomputable def Ti:=(qt<|xF<|zb (jG<|zU (zR<|zk 1) (.nm 0) 1 [] jw (zE j6<|zb (zh 0) zF))<|zb (zh 3)<|zb (zh 2) zF)
noncomputable def jQ:=jq 4<|zS Te<|zS Tf<|zS Th Ti
noncomputable def qf:=jq 3<|qt<|iH<|jz<|zU (zR<|zk 1) (.nm 0) 1 [0,2] jw (zE kz<|zb (zh 1)<|zb (zh 0)<|zb (zh 2) zF)
noncomputable def ka:=jq 3<|zS (dS<|zE jU<|zb (zh 0)<|zb (zh 1) zF)<|zS (jr 2<|dj (zJ<|zE jQ<|zb (zh 0) zF)<|zy<|.int 0)<|qt<|iH<|jz<|zU (zR<|zJ<|dj (zJ<|zE jQ<|zb (zh 1) zF)<|zy<|.int 0) (.nm 0) 1 [0,2] jw (zE qf<|zb (zE qH<|zb (zh 1) zF)<|zb (zh 2)<|zb (zh 0) zF)
noncomputable def qI:=jq 3<|yQ<|zU (QR (zh 1)<|zh 2) (.tp [0,1]) 2 [0] jw (zE qw<|zb (zh 2)<|zb (zh 0)<|zb (zh 1) zF)
noncomputable def qN:=jq 4<|qt<|zI l5 (zE qf<|zb (zh 0)<|zb (zh 1)<|zb (zh 3) zF)<|zE qf<|zb (zh 0)<|zb (zh 2)<|zb (zh 3) zF
noncomputable def CY:CO Bool:=sB<|zI l5 (xJ (zk 1)<|zh 0)<|xJ (zk 2)<|zh 0
noncomputable def CV:CO Bool:=sB<|zE qN<|zb (zh 1)<|zb (zh 2)<|zb (zh 3)<|zb (zh 0) zF
noncomputable def QK:=jq 6 (zS (jr 3 (jG (jg qk (zb (zI qu (vJ (zh 0)) (zy (.int 1))) zF)))) (zS (jr 4 (dj (jz (zU (zR (zk 3)) (.nm 0) 1 [1,2] CY (zh 0))) (zy (.int 0)))) (zS (jr 5 (dj (jz (zU (zR (zk 3)) (.nm 0) 1 [0,1,2] CV (zh 0))) (zy (.int 0)))) (qt (xF (zb (zy (.str "apart")) (zb (zh 4) (zb (xJ (zk 1) (zh 4)) (zb (xJ (zk 2) (zh 4)) (zb (zh 5) zF))))))))))
noncomputable def we:=jq 6 (zS (dS (zE jU (zb (zh 0) (zb (zh 1) zF)))) (zS (jr 2 (zE jQ (zb (zh 0) zF))) (zS (jr 3 (zE jQ (zb (zh 1) zF))) (zS (kv (sB (zI l5 (dj (zk 2) (zy (.int 0))) (dj (zk 3) (zy (.int 0))))) (qt (zE QK (zb (zE qH (zb (zh 0) zF)) (zb (dj (zk 2) (zy (.int 0))) (zb (dj (zk 3) (zy (.int 0))) zF))))) qF) (zS (jr 4 (jG (jg qI (zb (dj (zk 0) (zy (.int 0))) (zb (dj (zk 3) (zy (.int 2))) (zb (dj (zk 2) (zy (.int 1))) zF)))))) (zS (jr 5 (jG (jg qI (zb (dj (zk 0) (zy (.int 0))) (zb (dj (zk 2) (zy (.int 2))) (zb (dj (zk 3) (zy (.int 1))) zF)))))) (qt (xF (zb (zy (.str "alike")) (zb (zh 4) (zb (zh 5) zF)))))))))))
noncomputable def yJ:=jq 3<|zS (dS<|zE jU<|zb (zh 0)<|zb (zh 1) zF)<|zS (jr 2<|jG<|jg q8<|zb (zh 0)<|zb (zh 1) zF)<|zS (kv (sB<|zI p7 (zE jS<|zb (zh 2) zF)<|zy<|.int 60) WM qF)<|yQ<|zU (zR<|jz<|jg kn<|zb (dj (zk 0)<|zy<|.int 0)<|zb (zE k7<|zb (zh 0)<|zb (zh 1) zF) zF) (.nm 0) 1 [2] jw (jG<|jg qg<|zb (zh 1)<|zb (zh 0) zF)
noncomputable def M7:=kv (sB<|zI gw (zI yT (zh 3)<|zy<|.int 6)<|zy<|.int 1) (jr 1<|dj (jz<|jH<|zb (zy<|.int 3)<|zb (zy<|.int 5)<|zb (zy<|.int 7)<|zb (zy<|.int 2) zF)<|Ay (jz<|jH<|zb (zy<|.int 2)<|zb (zy<|.int 3)<|zb (zy<|.int 5)<|zb (zy<|.int 7) zF)<|zh 1) qF
noncomputable def GZ:=zS (jr 5 (qS (zy (.str "lr")) (nW (qS (zh 2) (zh 4))))) (jr 2 (X4 (X4 (Fg (zh 2) cS (p5 (zh 4))) (zh 5)) (Fg (zh 2) (p5 (zI qu (zh 4) (zy (.int 1)))) cS)))
noncomputable def P7:=kv (X5 (sB<|zI gw (zI yT (zh 3)<|zy<|.int 6)<|zy<|.int 2)<|sB<|zI p7 (vJ<|zh 2)<|zy<|.int 0) (zS (jr 4<|zI yT (zI Xc (zh 3)<|zy<|.int 6)<|vJ<|zh 2) GZ) qF
noncomputable def sS:CO D:=zI yT (zI Xc (zh 3)<|zy<|.int 6)<|zy<|.int 2
noncomputable def P8:=kv (sB (zI gw (zI yT (zh 3) (zy (.int 6))) (zy (.int 3)))) (jr 2 (X4 (zh 2) (qS (zy (.str "rl")) sS))) qF
noncomputable def xB:=jq 6<|zS M7<|zS P7<|zS P8<|qt<|xF<|zb (zh 1)<|zb (zh 2) zF
noncomputable def Sj:=jr 5<|jG<|zU (jK<|zI qu (vJ<|zh 3)<|zy<|.int 1) (.nm 0) 1 [0,1] jw (zI yT (zI Xc (zE jv<|zb (zh 1)<|zb (zI qu (zh 2)<|zh 0) zF)<|zy<|.int 7)<|zy<|.int 8)
noncomputable def Gp:CO D:=dj (jz<|jH<|zb (zy<|.int 0)<|zb (zy<|.int 1)<|zb (zy<|.int 2)<|zb (zy<|.int 3)<|zb (zy<|.int 6)<|zb (zy<|.int 1)<|zb (zy<|.int 2)<|zb (zy<|.int 5) zF)<|zh 0
noncomputable def Sl:=jr 6<|jG<|zU (zR<|zk 5) (.nm 0) 1 [] jw Gp
noncomputable def O5:=kv (X5 (sB<|zI gw (vJ<|zh 3)<|zy<|.int 1)<|sB<|zI p7 (zh 4)<|zy<|.int 0) (jr 6<|dj (jz<|jH<|zb (jG<|jH<|zb (zy<|.int 5)<|zb (zy<|.int 6) zF)<|zb (jG<|jH<|zb (zy<|.int 6)<|zb (zy<|.int 5) zF)<|zb (jG<|jH<|zb (zy<|.int 6)<|zb (zy<|.int 5) zF) zF)<|zI cU (zh 4)<|zy<|.int 1) qF
noncomputable def Td:=(zS (jr 13<|zI qu (zI qu (zI qu (zh 1)<|zy<|.int 4)<|zI yw (zy<|.int 7)<|zh 12)<|zh 8)<|zS (jr 5<|jG<|zU (jK<|dj (zk 6)<|zh 9) (.nm 0) 1 [0,13] jw (zE jv<|zb (zh 1)<|zb (zI qu (zh 2)<|zh 0) zF))<|yz 11<|jb<|jz<|zU (zR<|zk 5) (.nm 0) 1 [2] jw (zI yT (zI Xc (zh 0)<|zy<|.int 11)<|zh 1))
noncomputable def Gn:=rL (.tp [9,10])<|zE vH<|zb (zh 3)<|zb (zh 8) zF
noncomputable def Gm:=yz 7<|xF<|zb (qS (zh 3)<|zh 8)<|zb (xF<|zb (dj (zk 6)<|zh 10)<|zb (dj (zk 6)<|zh 9)<|zb (jb<|zk 11) zF) zF
noncomputable def Sm:=zS Gn<|zS (kB 11<|jH zF)<|zS (ZV (jK<|dj (zk 6)<|zh 10) (.nm 12) Td) Gm
noncomputable def xf:=jq 14<|zS Sj<|zS Sl<|zS O5<|zS (kB 7<|jH zF)<|zS (ZV (jK<|vJ<|zh 3) (.nm 8) Sm)<|qt<|xF<|zb (zh 2)<|zb (jb<|zk 6)<|zb (jb<|zk 7) zF
noncomputable def qi:=jq 5 (zS (kv (rM (sB (zI l5 (dj (zk 3) (zy (.int 0))) (jG (jH zF)))) (rM (sB (zI l5 (dj (zk 4) (zy (.int 0))) (jG (jH zF)))) (rM (Zi (sB (zE xQ (zb (dj (zk 3) (zy (.int 1))) zF)))) (sB (zI DZ (dj (zk 3) (zy (.int 1))) (zy (.int 0))))))) (qt (zy (.bl di))) qF) (zS (kv (sB (zI p7 (iH (jz (zU (QR (dj (zk 0) (zy (.int 1))) (dj (zk 1) (zy (.int 1)))) (.tp [0,1]) 2 [] jw (zI yw (zh 0) (zh 1))))) (zy (.int 60)))) (qt (zI gw (dj (zk 2) (zy (.int 0))) (jG (jH (zb (zy (.str "many")) zF))))) qF) (qt (rR (zI gw (dj (zk 2) (zy (.int 0))) (jG (jH zF))) (rR (DO .list (dj (zk 2) (zy (.int 1)))) (zI gw (VC (zJ (dj (zk 2) (zy (.int 1))))) (dj (zk 3) (zy (.int 1)))))))))
noncomputable def qR:List D->Option Xn:=WO 3 (nM (yb jR (zb (zh 0) (zb (zh 1) zF))) (dS (zE jU (zb (zh 0) (zb (zh 1) zF)))) (nM D5 (jr 2 (jG (jg q8 (zb (zh 0) (zb (zh 1) zF))))) (wb (sB (zI p7 (zE jS (zb (zh 2) zF)) (zy (.int 60)))) (pH "TooMany") D5)))
noncomputable def xC:=jq 3 (zS (kB 1 (jH zF)) (zS (kv (sB (WN "Unlike" (zh 0))) (yz 1 (zy (.str "unlike"))) qF) (zS (kv (sB (WN "TooMany" (zh 0))) (yz 1 (zy (.str "many"))) qF) (zS (ZV (zR (zJ (jG (jH (zb (WN "NoArrow" (zh 0)) (zb (WN "NoLine" (zh 0)) (zb (WN "NoPrime" (zh 0)) zF))))))) (.nm 2) (kB 1 (JF (zk 1) (jz (Yq (jz (jH (zb (zy (.str "odd")) zF))) (dQ (zh 2))))))) (zS (ZV (zR (zJ (jG (jH (zb (WN "NoRoom" (zh 0)) (zb (WN "NoRow" (zh 0)) (zb (WN "NoTable" (zh 0)) zF))))))) (.nm 2) (kB 1 (JF (zk 1) (jz (Yq (jz (jH (zb (zy (.str "odd")) zF))) (dQ (zh 2))))))) (zS (ZV (zR (zJ (jG (jH (zb (WN "NoText" (zh 0)) (zb (WN "Nothing" (zh 0)) (zb (WN "NoTurn" (zh 0)) zF))))))) (.nm 2) (kB 1 (JF (zk 1) (jz (Yq (jz (jH (zb (zy (.str "odd")) zF))) (dQ (zh 2))))))) (zS (ZV (zR (zJ (jG (jH (zb (WN "NoWidths" (zh 0)) (zb (WN "Nought" (zh 0)) (zb (Ef (Ax (zh 0))) zF))))))) (.nm 2) (kB 1 (JF (zk 1) (jz (Yq (jz (jH (zb (zy (.str "odd")) zF))) (dQ (zh 2))))))) (XZ 1))))))))
noncomputable def qZ:List D->Option Xn:=WO 3<|yb jR<|zb (zh 0)<|zb (zh 1) zF
noncomputable def ZF:List D->Option Xn:=WO 6<|yb jR<|zb (zh 0)<|zb (zh 1) zF
noncomputable def CJ:=kv (sB<|zI gw (zh 2)<|zy<|.int 0) (jr 4<|jG<|jg yJ<|zb (zh 0)<|zb (zh 1) zF)<|kv (sB<|zI gw (zh 2)<|zy<|.int 1) (jr 4<|zE ka<|zb (zh 0)<|zb (zh 1) zF)<|jr 4<|zE we<|zb (zh 0)<|zb (zh 1) zF
noncomputable def pC:CO Xn:=wb (sB<|zI gw (zh 2)<|zy<|.int 0) (yb qR<|zb (zh 0)<|zb (zh 1) zF)<|wb (sB<|zI gw (zh 2)<|zy<|.int 1) (yb qZ<|zb (zh 0)<|zb (zh 1) zF)<|yb ZF<|zb (zh 0)<|zb (zh 1) zF
noncomputable def L0:=dH 5 3 CJ pC
noncomputable def O4:=kv (sB<|zI QA (zh 3)<|zy .d7) (qt<|xF<|zb (jG<|jg xC<|zb (zh 3) zF)<|zb (zy .d7) zF) qF
noncomputable def Tc:=qt<|xF<|zb (jG<|jH zF)<|zb (zh 4) zF
noncomputable def zN:=jq 6<|zS (jr 3<|zy .d7)<|zS (jr 4<|zy .d7)<|zS L0<|zS O4 Tc
noncomputable def pU:=jr 1<|zE jv<|zb (zh 0)<|zb (zy<|.int 0) zF
noncomputable def pT:=jr 2<|dj (jz<|jH<|zb (zy<|.int 2)<|zb (zy<|.int 3)<|zb (zy<|.int 5)<|zb (zy<|.int 7) zF)<|zI yT (zh 1)<|zy<|.int 4
noncomputable def pS:=jr 3<|zE xU<|zb (zI Xc (zh 1)<|zy<|.int 16)<|zb (zI qu (zy<|.int 1)<|zI yT (zI Xc (zh 1)<|zy<|.int 4)<|zy<|.int 3) zF
noncomputable def pR:=rL (.tp [4,5])<|zE xB<|zb (zh 0)<|zb (zh 2)<|zb (zh 3)<|zb (zE jv<|zb (zh 0)<|zb (zy<|.int 1) zF) zF
noncomputable def pQ:=jr 6<|zI yT (zI Xc (zh 1)<|zy<|.int 128)<|zy<|.int 4
noncomputable def pP:=jr 7<|zE xf<|zb (zh 0)<|zb (zy<|.int 2)<|zb (zh 2)<|zb (zh 3)<|zb (zh 6) zF
noncomputable def dm:CO D:=dj (jz<|jH<|zb (zy<|.int 0)<|zb (zy<|.int 2)<|zb (zy<|.int 2)<|zb (zy<|.int 1) zF)<|zh 6
noncomputable def pM:=jr 8<|zE xf<|zb (zh 0)<|zb (zy<|.int 60)<|zb (zh 4)<|zb (zh 5)<|zb dm zF
noncomputable def iP:=jr 9<|jG<|zU (jK<|zy<|.int 3) (.nm 0) 1 [7,8] jw (zE zN<|zb (zh 1)<|zb (zh 2)<|zb (zh 0) zF)
noncomputable def dg:CO Bool:=sB<|zI l5 (xF<|zb (zh 2)<|zb (zh 3) zF)<|xF<|zb (zh 4)<|zb (zh 5) zF
noncomputable def dh:=kv dg (qt (zI gw (jG (zU (zR (zk 9)) (.nm 0) 1 [] jw (dj (zk 0) (zy (.int 0))))) (jG (Yq (jz (jH (zb (jG (jH (zb (zy (.str "unlike")) zF))) zF))) (zy (.int 3)))))) qF
noncomputable def Ww:=qt<|zE qi<|zb (zh 7)<|zb (zh 8)<|zb (dj (zk 9)<|zy<|.int 0)<|zb (dj (zk 9)<|zy<|.int 1)<|zb (dj (zk 9)<|zy<|.int 2) zF
noncomputable def w5:=jq 10<|zS pU<|zS pT<|zS pS<|zS pR<|zS pQ<|zS pP<|zS pM<|zS iP<|zS dh Ww
theorem zu(h:F γ=cq (.next γ'))(g:G γ'=r):zS F G γ=r:=by rw[jO,h];exact g
theorem je(h:F (z7 n ds)=cq (.ret r)):jq n F ds=cq r:=by show(F<|z7 n ds).bind _=_;rw[h];rfl
theorem gD{T:Tg}{F:CO Fl}(P:Nat->Ctx->Prop)(n:Nat){γ:Ctx}(z:P 0 γ)(step:∀s,s<n->∀γ,P s γ->∃γ1 I,kL T (.int (s:Int)) γ=cq γ1/\F γ1=cq (.next I)/\P (s+1) I):
 ∃γ',kW T F ((IA n).map λ(i:Nat)=>D.int (i:Int)) γ=cq (.next γ')/\P n γ':=by
 have a:∀(k s:Nat) (γ:Ctx),s+k=n->P s γ->∃γ',kW T F ((O1 s k).map λ(i:Nat)=>D.int (i:Int)) γ=cq (.next γ')/\P n γ':=by
  intro k
  induction k with
  |zero=>
   intro s γ e O;obtain rfl:s=n:=by omega
   exact⟨γ,rfl,O⟩
  |succ k U=>
   intro s γ e O;obtain⟨γ1,I,b,Y,d⟩:=step s ⋯ γ O;obtain⟨γ',f,g⟩:=U (s+1) I ⋯ d;refine⟨γ',?_,g⟩;rw[Oo,Lk,qW,b];simp only[IF,Y];exact f
 have:=a n 0 γ ⋯ z;rw[<-NA]at this;exact this
theorem Zw(P:Nat->Ctx->Prop)(n:Nat)(L:n<=lim)(J:f γ=cq (.int (n:Int)))(z:P 0 γ)(step:∀s,s<n->∀γ,P s γ->∃γ1 I,kL T (.int (s:Int)) γ=cq γ1/\F γ1=cq (.next I)/\P (s+1) I):
 ∃γ',ZV (jK f) T F γ=cq (.next γ')/\P n γ':=by
 obtain⟨γ',e,O⟩:=gD P n z step;refine⟨γ',?_,O⟩;have U:=jj;have r:inR (n:Int)=da:=J3 ⋯ ⋯;rw[aM,wW,J];simp only[IF,qE,r,if_true,Mm,qL];rw[qp n λi=>(i:Int)];exact e
abbrev sh(k:Sk)(xs:List D):D:=match k with|.T=>D.tup xs|.L=>D.lst xs
@[simp] theorem Hl(k xs):jA (sh k xs)=cq (k,xs):=by cases k<;>rfl
theorem XJ(k:Sk)(f:Nat->Int)(I:0<p)(z:n<=lim):
 xO [.int p,sh k (zG n f)]=cq (.val<|.tup<|zG n λi=>f i%p):=by
 simp[xO,jq,z7,jk,z,kf];unfold zG;rw[zC (r:=λi=>D.int<|f i%p)]
 ·simp
 ·intro i a
  refine zB rfl rfl ?_;simp[I]
theorem iC(f:Nat->Int)(I:0<p)(z:n<=lim):
 xO [.int p,.tup (zG n f)]=cq (.val<|.tup<|zG n λi=>f i%p):=XJ .T f I z
theorem wZ(f:Nat->Int)(I:0<p)(z:n<=lim):
 xO [.int p,.lst (zG n f)]=cq (.val<|.tup<|zG n λi=>f i%p):=XJ .L f I z
theorem KW(k:Sk)(f:UV)(g:Nat->Int)(O:0<p)(I:h<=lim)(J:w<=lim)(z:∀i j,i<h->j<w->0<=f i j/\f i j<100):
 cR [.int p,j8 h w f,sh k (zG w g)]=cq (.val<|.tup<|zG h λi=>zm (λj=>f i j*g j) w%p):=by
 simp[cR,jq,z7,jk,I,kf,j8,IE];unfold zX;rw[zC (r:=λi=>D.int<|zm (λj=>f i j*g j) w)]
 ·simp
  rw[show(List.map (λi=>D.int<|zm (λj=>f i j*g j) w)<|IA h)=zG h λi=>zm (λj=>f i j*g j) w from rfl,wZ _ O I];rfl
 ·intro i a
  refine zB rfl rfl ?_;simp[jk,wg,J];rw[zC (r:=λj=>D.int<|f i j*g j)]
  ·simp
   rw[show(List.map (λj=>D.int<|f i j*g j)<|IA w)=zG w λj=>f i j*g j from rfl,wj]
  ·intro j U
   refine zB rfl rfl ?_;have:=z i j (IC.mp a)<|IC.mp U;simp[ZO (f i j) (g j) ⋯ ⋯]
theorem yv(f:UV)(I:h<=lim)(z:w<=lim):jP [j8 h w f]=cq (.val<|j8 w h λi j=>f j i):=by
 simp[jP,jq,z7,jk,I,z,kf,j8,IE,jO,qL];rw[qp w λi=>(i:Int)];rw[zC (r:=λj=>D.tup<|zG h λi=>f i j)]
 ·simp
  rfl
 ·intro j O
  refine zB rfl rfl ?_;simp[jk,I,kf];unfold zX;rw[zC (r:=λi=>D.int<|f i j)]
  ·simp
   rfl
  ·intro i b
   refine zB rfl rfl ?_;have a:=IC.mp O;simp[a,mX _ a]
theorem vq{p:Int}{h m w:Nat}(f g:UV)(I:0<p)(O:h<=lim)(z:m<=lim)(J:w<=lim)(U:∀i j,i<m->j<w->0<=g i j/\g i j<100):
 qw [.int p,j8 h m f,j8 m w g]=cq (.val<|j8 h w λi j=>zm (λk=>g k j*f i k) m%p):=by
 simp[qw,jq,z7,jO,yv g z J];simp[jk,O,z,J,kf,j8];rw[show zX h m f=(IA h).map λi=>D.tup (zG m<|f i)from rfl];rw[zC (r:=λi=>D.tup<|zG w λj=>zm (λk=>g k j*f i k) m%p)]
 ·simp
  rfl
 ·intro i l
  refine zB rfl rfl ?_;have e:=KW .T (λi j=>g j i) (f i) I J z<|λa b d Y=>U b a Y d;simp[j8]at e ⊢;rw[e];simp
theorem Jb{p:Int}{h w:Nat}(c:Int)(f g:UV)(I : -(2^64)<c)(O:c<2^64)(U:0<p)(Y:h<=lim)(z:w<=lim):
 xE [.int p,j8 h w f,.int c,j8 h w g]=cq (.val<|j8 h w λi j=>(f i j+c*g i j)%p):=by
 simp[xE,jq,z7,jO,j8,Wo,Y,jk,kf,IE];rw[zC (r:=λi=>D.tup<|zG w λj=>(f i j+c*g i j)%p)]
 ·simp
  rfl
 ·intro i a
  refine zB rfl rfl ?_;simp[wg,z,jk,IE];rw[zC (r:=λj=>D.int<|f i j+c*g i j)]
  ·simp
   rw[show(List.map (λj=>D.int<|f i j+c*g i j)<|IA w)=zG w λj=>f i j+c*g i j from rfl,wZ _ U z];simp
  ·intro j b
   refine zB rfl rfl ?_;simp[kf,ZO c _ I O]
theorem yu(z:n<=lim):j7 [.int n]=cq (.val<|j8 n n λi j=>if i=j then 1 else 0):=by
 simp[j7,jq,z7,jO,z,jk,kf,IE,qL];rw[qp n λi=>(i:Int)];rw[zC (r:=λi=>D.tup<|zG n λj=>if i=j then 1 else 0)]
 ·simp
  rfl
 ·intro i a
  refine zB rfl rfl ?_;simp[z,jk,IE,qL,kf];rw[qp n λi=>(i:Int)];rw[zC (r:=λj=>D.int<|if i=j then 1 else 0)]
  ·simp
   rfl
  ·intro j I
   refine zB rfl rfl ?_;simp;by_cases e:i=j
   ·simp[e]
   ·rw[UY ⋯,UY e]
theorem dY(d:D)(w:Nat):IE w d=(IA w).map λ_=>d:=by
 induction w with
 |zero=>rfl
 |succ n I=>rw[List.replicate_succ',I,MA,LQ];simp
noncomputable def KB(ns:List Int):D:=.lst (ns.map D.int)
mutual
theorem O8:∀d:D,hB d d=da
 |.d7=>rfl
 |.bl b=>by simp[hB]
 |.int i=>by simp[hB]
 |.str x=>by simp[hB]
 |.tup e=>by simp only[hB];exact L7 e
 |.lst e=>by simp only[hB];exact L7 e
 |.exc c n=>by simp[hB]
 |.nr a b=>by simp only[hB];rw[L7 a,L7 b];rfl
 |.ov a b=>by simp only[hB];rw[L7 b];simp
 |.ins a b c=>by simp only[hB];rw[O8 b,O8 c];simp
theorem L7:∀ds:List D,sk ds ds=da
 |[]=>rfl
 |d::ds=>by simp only[sk,O8 d,L7 ds,Bool.and_self]
end
theorem Jl:∀{l:List D} {n:Nat},(∀d∈l,deep d<=n)->xr l<=n
 |[],n,_=>Mr n
 |d::ds,n,h=>by simp only[xr];exact Nat.max_le.mpr ⟨h d La,Jl λe I=>h e<|Ld _ I⟩
theorem nv(n f):deep (.tup<|zG n f)<=1:=by
 simp only[deep];have:xr (zG n f)<=0:=Jl λd a=>by simp[zG]at a;obtain⟨i,_,rfl⟩:=a;exact II _
 omega
theorem ny(h w f):deep (.tup<|zX h w f)<=2:=by
 simp only[deep];have:xr (zX h w f)<=1:=Jl λd a=>by simp[zX]at a;obtain⟨i,_,rfl⟩:=a;exact nv _ _
 omega
theorem Kj:∀{l:List D},(∀d∈l,ir d=da)->m3 l=da
 |[],_=>rfl
 |d::ds,h=>by simp only[m3,h d La,Kj λe I=>h e<|Ld _ I,Bool.and_self]
theorem W4(h:deep d<=n)(I:n<=20)(z:ir d=da):l8 d=da:=by unfold l8;rw[z,Ru];exact decide_eq_true<|LG h I
theorem sY(n f):ir (.tup<|zG n f)=da:=by
 simp only[ir];exact Kj λd a=>by simp[zG]at a;obtain⟨i,_,rfl⟩:=a;rfl
theorem sZ(h w f):ir (.tup<|zX h w f)=da:=by
 simp only[ir];exact Kj λd a=>by simp[zX]at a;obtain⟨i,_,rfl⟩:=a;exact sY _ _
theorem nA{d:D}(h:l8 d=da):l5 d d=cq (.bl di):=by unfold l5;rw[UJ ⟨h,h⟩,O8];rfl
theorem Wl(i:Int):xQ [.int i]=cq (.val<|.bl da):=by simp[xQ,jq,z7,oU]
noncomputable def g5(b:Bool):Nat:=if b then 108 else 114
noncomputable def xR(c:Nat):Str:=⟨#[c]⟩
theorem Xu:∀(l:List Nat),(RV "" (l.map xR)).cps.toList=l
 |[]=>rfl
 |[c]=>rfl
 |c::d::l=>by
  have I:=Xu (d::l);show((xR c++("" : Str))++RV "" ((d::l).map xR)).cps.toList=_;have e:∀a b:Str,(a++b).cps.toList=a.cps.toList++b.cps.toList:=λa b=>by show(a.cps++b.cps).toList=_;simp
  rw[e,e,I];rfl
noncomputable def jN(m:Nat)(w:UK):Str:=RV "" ((IA m).map λk=>xR (g5 (w k)))
theorem ko(m w):(jN m w).cps.toList=(IA m).map λk=>g5 (w k):=by have:=Xu<|(IA m).map λk=>g5<|w k;rw[Ly]at this;exact this
theorem Jc(m w):(jN m w).length=m:=by show(jN m w).cps.size=m;rw[<-MG,ko];simp
theorem yc{m:Nat}(w)(z:m<=1000):jo (jN m w)=da:=decide_eq_true (by rw[Jc];exact z)
theorem XT{z:Type}(g:z->Str):∀l:List z,Vz (l.map λx=>D.str<|g x)=cq (l.map g)
 |[]=>rfl
 |a::l=>by simp[Vz,XT g l]
noncomputable def ft(w:UK)(wd:UX)(k:Nat):Nat:=if w k then wd k else wd (k+1)
noncomputable def e9(w:UK)(wd:UX)(k:Nat):Nat:=if w k then wd (k+1)else wd k
noncomputable def vk(w:UK)(wd:UX)(T:UW)(k:Nat):D:=.tup [.str (xR<|g5<|w k),j8 (ft w wd k) (e9 w wd k) (T k)]
noncomputable def jY(m:Nat)(w:UK)(wd:UX)(T:UW):List D:=(IA m).map (vk w wd T)
noncomputable def zO(p:Int)(m:Nat)(w:UK)(wd:UX)(T:UW):D:=.tup [.int p,.tup<|zG (m+1) λk=>(wd k:Int),.tup (jY m w wd T)]
@[simp] theorem iq(m w wd T):(jY m w wd T).length=m:=by simp[jY]
theorem wm{m k:Nat}(w)(J:m<=1000)(I:k<m)(γ:Ctx)(f g:CO D)(z:f γ=cq (.str<|jN m w))(O:g γ=cq (.int k)):qS f g γ=cq (.str<|xR<|g5<|w k):=by rw[vF,z,O];simp only[IF,qE];rw[UJ (yc w J),ko];simp[I,xR]
theorem pj(b:Bool):gw (.str (xR (g5 b))) (.str "l")=cq (.bl b):=by
 have e:∀b:Bool,(xR (g5 b)==(Lw "l"))=b:=by decide +kernel
 have I:∀b:Bool,l8 (.str<|xR<|g5 b)=da:=by decide +kernel
 have O:l8 (.str (Lw "l"))=da:=by decide +kernel
 unfold gw;rw[UJ ⟨I b,O⟩];show cq (D.bl (xR (g5 b)==Lw "l"))=_;rw[e]
theorem BE(b:Bool):l8 (.str<|xR<|g5 b)=da:=by cases b<;>decide +kernel
theorem J7(b:Bool):gw (.str (xR (g5 b))) (.str "r")=cq (.bl (!b)):=by
 have e:∀b:Bool,(xR (g5 b)==(Lw "r")) = !b:=by decide +kernel
 have I:l8 (.str (Lw "r"))=da:=by decide +kernel
 unfold gw;rw[UJ ⟨BE b,I⟩];show cq (D.bl (xR (g5 b)==Lw "r"))=_;rw[e]
theorem gU(f:Nat->D)(J:i<=j)(z:j<=n):cV ((IA n).map f) (cq (i:Int)) (cq (j:Int))=(IA<|j-i).map λk=>f (i+k):=by
 have c:∀(d k:Nat),k<=n->Wc n d (cq (k:Int))=k:=λd k O=>by show(if (k:Int)<0 then ((k:Int)+n).toNat else min (k:Int).toNat n)=k;rw[UY ⋯];simp only[Mm];omega
 have I:((IA n).map f).length=n:=by simp
 unfold cV;rw[I,c 0 i ⋯,c n j z];apply List.ext_getElem
 ·simp;omega
 ·intro k U g2
  simp
theorem zA:∀{n:Nat},(∀k,k<n->f k=g k)->zm f n=zm g n
 |0,_=>rfl
 |n+1,h=>by simp only[zm];rw[zA (n:=n) λk I=>h k ⋯,h n ⋯]
theorem zT(n:Nat):zm (λ_=>0) n=0:=by
 induction n with
 |zero=>rfl
 |succ n I=>simp[zm,I]
theorem z6(z:i<n)(h:∀k,k<n->k≠i->f k=0):zm f n=f i:=by
 induction n with
 |zero=>omega
 | succ n I=>
  simp only[zm];by_cases e:i=n
  ·subst e
   rw[zA (g:=λ_=>0) (λk O=>h k ⋯ ⋯),zT];omega
  ·rw[I ⋯ λk O=>h k ⋯,h n ⋯ ⋯]
   omega
theorem qv(f g:Nat->Int)(n:Nat):zm (λk=>f k+g k) n=zm f n+zm g n:=by
 induction n with
 |zero=>rfl
 |succ n I=>simp only[zm,I];omega
theorem kq(f:Nat->Int)(c:Int)(n:Nat):zm (λk=>f k*c) n=zm f n*c:=by
 induction n with
 |zero=>simp[zm]
 |succ n I=>simp only[zm,I,Int.add_mul]
theorem jB(f:Nat->Int)(c:Int)(n:Nat):zm (λk=>c*f k) n=c*zm f n:=by
 induction n with
 |zero=>simp[zm]
 |succ n I=>simp only[zm,I,Pp]
theorem qj(f:UV)(n m:Nat):zm (λi=>zm (λj=>f i j) m) n=zm (λj=>zm (λi=>f i j) n) m:=by
 induction n with
 |zero=>simp[zm,zT]
 |succ n I=>simp only[zm];rw[I,<-qv]
theorem zQ:∀{n:Nat},(∀k,k<n->f k%p=g k%p)->zm f n%p=zm g n%p
 |0,_=>rfl
 |n+1,h=>by simp only[zm];rw[Ml,zQ (n:=n)<|λk I=>h k ⋯,h n ⋯,<-Ml]
theorem fK(p x y:Int):(x%p*y)%p=(x*y)%p:=by rw[IQ,LJ,<-IQ]
theorem wI(p x y:Int):(x*(y%p))%p=(x*y)%p:=by rw[IQ,LJ,<-IQ]
theorem dz(p:Int)(a b c:UV)(m w i j:Nat):
 zm (λk=>a i k*(zm (λl=>b k l*c l j) w%p)) m%p=zm (λl=>(zm (λk=>a i k*b k l) m%p)*c l j) w%p:=by
 rw[zQ (g:=λk=>zm (λl=>a i k*(b k l*c l j)) w) (λk _=>by rw[wI,jB]),
  zQ (f:=λl=>(zm (λk=>a i k*b k l) m%p)*c l j) (g:=λl=>zm (λk=>a i k*(b k l*c l j)) m) (λl _=>by rw[fK,<-kq];exact congrArg (· % p)<|zA λk _=>Nn _ _ _),qj]
abbrev Vc:=Nat->Int
noncomputable def Pr(p:Int):Prop:=p=2\/p=3\/p=5\/p=7
theorem Pr.pos(h:Pr p):0<p:=by unfold Pr at h;omega
theorem Pr.two(h:Pr p):2<=p:=by unfold Pr at h;omega
theorem Pr.le(h:Pr p):p<=7:=by unfold Pr at h;omega
theorem Pr.one(h:Pr p):(1:Int)%p=1:=LK ⋯ (by have:=h.two;omega)
inductive Span(p:Int)(n:Nat)(G:Vc->Prop):Vc->Prop where
 |zero {v:Vc}:(∀i,i<n->v i%p=0)->Span p n G v
 |step {v w g:Vc} {c:Int}:G g->Span p n G w->(∀i,i<n->v i%p=(w i+c*g i)%p)->Span p n G v
section
variable{p:Int}{n:Nat}{G G':Vc->Prop}
theorem Span.congr(h:Span p n G v)(e:∀i,i<n->v' i%p=v i%p):Span p n G v':=by
 cases h with
 |zero h=>exact .zero λi a=>by rw[e i a,h i a]
 |step I b h=>exact .step I b λi a=>by rw[e i a,h i a]
theorem Span.gen(h:G g):Span p n G g:=.step (c:=1) h (.zero (v:=λ_=>0) λi _=>by simp) λi _=>by simp
theorem Span.add(O:Span p n G v)(z:Span p n G w):∀c:Int,Span p n G λi=>w i+c*v i:=by
 induction O with
 |zero h=>
  intro c;refine z.congr λi a=>?_;rw[Ml,IQ,h i a];simp
 |@step v b g I U d h Y=>
  intro c;refine .step (c:=c*I) U (Y c) λi a=>?_;have e:(c*v i)%p=(c*(b i+I*g i))%p:=by rw[IQ,h i a,<-IQ]
  rw[Ml,e,<-Ml];congr 1;rw[Pp,<-Nn,Int.add_assoc]
theorem Span.smul(I:Span p n G v)(c:Int):Span p n G λi=>c*v i:=
 (I.add (w:=λ_=>0) (.zero λi _=>by simp) c).congr λi _=>by simp
theorem Span.le(h:Span p n G v)(I:∀g,G g->Span p n G' g):Span p n G' v:=by
 induction h with
 |zero h=>exact .zero h
 |step O a h U=>exact((I _ O).add U _).congr h
end
structure g9(p:Int)(n r:Nat)(B:Nat->Vc)(l:UX):Prop where
 lt:∀k,k<r->l k<n
 mono:∀k m,k<m->m<r->l k<l m
 one:∀k,k<r->B k (l k)=1
 n4:∀k j,k<r->j<l k->B k j=0
 wa:∀k m,k<r->m<r->m≠k->B k (l m)=0
 m9:∀k i,k<r->i<n->0<=B k i/\B k i<p
noncomputable def ef(r:Nat)(B:Nat->Vc):Vc->Prop:=λv=>∃k,k<r/\v=B k
section
variable{p:Int}{n r r':Nat}{B B':Nat->Vc}{l l':UX}
theorem ZY(O:g9 p n r B l)(h:Span p n (ef r B) v):∀i,i<n->v i%p=zm (λk=>v (l k)*B k i) r%p:=by
 induction h with
 |@zero v h=>
  intro i a;rw[h i a];have:zm (λk=>v (l k)*B k i) r%p=zm (λ_=>0) r%p:=zQ λk I=>by rw[IQ,h _ (O.lt k I)];simp
  rw[this,zT];rfl
 |@step v w g c U j h Y=>
  intro i a;obtain⟨m,b,rfl⟩:=U;rw[h i a];have e:zm (λk=>v (l k)*B k i) r%p=zm (λk=>w (l k)*B k i+c*B m (l k)*B k i) r%p:=zQ λk I=>by rw[IQ,h _<|O.lt k I,<-IQ,Int.add_mul]
  have f:zm (λk=>c*B m (l k)*B k i) r=c*B m i:=by rw[z6 (i:=m) b λk I d=>by rw[O.wa m k b I d];simp,O.one m b];simp
  rw[e,qv,f,Ml,Y i a,<-Ml]
theorem V1(I:g9 p n r B l)(h:Span p n (ef r B) v)(U:j<n)(z:v j%p≠0)(hz:∀i,i<j->v i%p=0):∃k,k<r/\l k=j:=by
 apply Mc;intro Y;apply z;rw[ZY I h j U];have:zm (λk=>v (l k)*B k j) r%p=zm (λ_=>0) r%p:=zQ λk O=>by
  have a:l k≠j:=λe=>Y ⟨k,O,e⟩;rcases Lg (l k) j with q|q
  ·rw[IQ,hz _ q];simp
  ·rw[I.n4 k j O ⋯];simp
 rw[this,zT];rfl
theorem ah(O:∀k m,k<m->m<r->l k<l m)(U:∀k m,k<m->m<r'->l' k<l' m)(J:∀k,k<r->∃m,m<r'/\l' m=l k)(L:∀k,k<r'->∃m,m<r/\l m=l' k):
 ∀k,k<r->k<r'/\l k=l' k:=by
 intro k
 induction k using Nat.strongRecOn with
 | ind k Y=>
  intro a;obtain⟨m,b,em⟩:=J k a;have e:k<=m:=by
   rcases Lg m k with q|q
   ·have:=(Y m q ⋯).2
    have:=O m k q a;omega
   ·exact q
  have I:k<r':=by omega
  refine⟨I,?_⟩;obtain⟨q,d,eq⟩:=L k I;have f:k<=q:=by
   rcases Lg q k with z|z
   ·have:=(Y q z ⋯).2
    have:=U q k z I;omega
   ·exact z
  rcases Lg k m with z|z
  ·have g:=U k m z b
   have h:l k<=l q:=by
    rcases Lg k q with y|y
    ·exact PJ<|O k q y d
    ·have:k=q:=by omega
     subst this;exact II _
   omega
  ·have:m=k:=by omega
   subst this;exact em.symm
theorem QD(L:Pr p)(O:g9 p n r B l)(U:g9 p n r' B' l')(z:∀v,Span p n (ef r B) v->Span p n (ef r' B') v)(J:∀v,Span p n (ef r' B') v->Span p n (ef r B) v):
 r=r'/\(∀k,k<r->l k=l' k)/\∀k i,k<r->i<n->B k i=B' k i:=by
 have one:=L.one;have f:∀k,k<r->∃m,m<r'/\l' m=l k:=λk I=>V1 U (z _<|.gen ⟨k,I,rfl⟩) (O.lt k I) (by rw[O.one k I,one];decide) λi a=>by rw[O.n4 k i I a];simp
 have g:∀k,k<r'->∃m,m<r/\l m=l' k:=λk I=>V1 O (J _<|.gen ⟨k,I,rfl⟩) (U.lt k I) (by rw[U.one k I,one];decide) λi a=>by rw[U.n4 k i I a];simp
 have b:=ah O.mono U.mono f g;have j:=ah U.mono O.mono g f;have o:r=r':=by
  rcases Oh r r' with q|q|q
  ·exact absurd (j r q).1 (LL _)
  ·exact q
  ·exact absurd (b r' q).1 (LL _)
 subst o;refine⟨rfl,λk I=>(b k I).2,λk i I a=>?_⟩;have c:=ZY U (z _<|.gen ⟨k,I,rfl⟩) i a;rw[z6 (i:=k) I λm d h=>by rw[<-(b m d).2,O.wa k m I d h];simp,<-(b k I).2,O.one k I,Int.one_mul]at c;have Y:=O.m9 k i I a;have e:=U.m9 k i I a;rw[LK Y.1 Y.2,LK e.1 e.2]at c;exact c
end
theorem jt(q:α->Bool)(r:α->D):∀(l:List α),(∀x∈l,∃γ1,kL T (g x) γ=cq γ1/\k γ1=cq (q x)/\(q x=da->f γ1=cq (r x)))->
 zY T k f γ (l.map g)=cq ((l.filter q).map r)
 |[],_=>rfl
 |x::l,h=>by
  obtain⟨γ1,a,b,O⟩:=h x La;have I:=jt q r l λy U=>h y<|Ld _ U;simp only[Lk,zY,a,b,IF];cases e:q x with
  |true=>simp[O e,I,e]
  |false=>simp[I,e]
theorem Cd(I:Pr p)(z:0<x)(J:x<p):∃y:Nat,1<=y/\(y:Int)<p/\(y:Int)*x%p=1:=by
 rcases I with rfl|rfl|rfl|rfl
 ·obtain rfl:x=1:=by omega
  exact⟨1,by decide,by decide,by decide⟩
 ·rcases (show x=1\/x=2 by omega)with rfl|rfl
  ·exact⟨1,by decide,by decide,by decide⟩
  ·exact⟨2,by decide,by decide,by decide⟩
 ·rcases (show x=1\/x=2\/x=3\/x=4 by omega)with rfl|rfl|rfl|rfl
  ·exact⟨1,by decide,by decide,by decide⟩
  ·exact⟨3,by decide,by decide,by decide⟩
  ·exact⟨2,by decide,by decide,by decide⟩
  ·exact⟨4,by decide,by decide,by decide⟩
 ·rcases (show x=1\/x=2\/x=3\/x=4\/x=5\/x=6 by omega)with rfl|rfl|rfl|rfl|rfl|rfl
  ·exact⟨1,by decide,by decide,by decide⟩
  ·exact⟨4,by decide,by decide,by decide⟩
  ·exact⟨5,by decide,by decide,by decide⟩
  ·exact⟨2,by decide,by decide,by decide⟩
  ·exact⟨3,by decide,by decide,by decide⟩
  ·exact⟨6,by decide,by decide,by decide⟩
theorem Vb{q:UK}{n a:Nat}{yR:List Nat}(h:(IA n).filter q=a::yR):a<n/\q a=da/\∀i,i<a->q i=di:=by
 have b:a∈(IA n).filter q:=by rw[h];exact La
 refine⟨IC.mp (Li.mp b).1,(Li.mp b).2,λi f=>?_⟩;apply Mc;intro I;have O:q i=da:=by simpa using I
 have U:i∈a::yR:=by rw[<-h];exact Li.mpr ⟨IC.mpr (by have:=IC.mp (Li.mp b).1;omega),O⟩
 have d:(a::yR).Pairwise (· < ·):=by rw[<-h];exact Pc _ Oe
 rcases IM.mp U with e|e
 ·omega
 ·have:=(List.pairwise_cons.mp d).1 i e;omega
theorem fF(h:(IA n).filter q=[]):∀i,i<n->q i=di:=λi a=>by apply Mc;intro I;have:i∈(IA n).filter q:=Li.mpr ⟨IC.mpr a,by simpa using I⟩;rw[h]at this;simp at this
theorem Vs(I:Pr p)(z:0<x)(J:x<p):∃y,w6 [.int p,.int x]=cq (.val<|.int y)/\1<=y/\y<p/\x*y%p=1:=by
 rcases I with rfl|rfl|rfl|rfl
 ·have:x=1:=by omega
  subst this;exact⟨1,rfl,by decide,by decide,by decide⟩
 ·have:x=1\/x=2:=by omega
  rcases this with rfl|rfl
  ·exact⟨1,rfl,by decide,by decide,by decide⟩
  ·exact⟨2,rfl,by decide,by decide,by decide⟩
 ·have:x=1\/x=2\/x=3\/x=4:=by omega
  rcases this with rfl|rfl|rfl|rfl
  ·exact⟨1,rfl,by decide,by decide,by decide⟩
  ·exact⟨3,rfl,by decide,by decide,by decide⟩
  ·exact⟨2,rfl,by decide,by decide,by decide⟩
  ·exact⟨4,rfl,by decide,by decide,by decide⟩
 ·have:x=1\/x=2\/x=3\/x=4\/x=5\/x=6:=by omega
  rcases this with rfl|rfl|rfl|rfl|rfl|rfl
  ·exact⟨1,rfl,by decide,by decide,by decide⟩
  ·exact⟨4,rfl,by decide,by decide,by decide⟩
  ·exact⟨5,rfl,by decide,by decide,by decide⟩
  ·exact⟨2,rfl,by decide,by decide,by decide⟩
  ·exact⟨3,rfl,by decide,by decide,by decide⟩
  ·exact⟨6,rfl,by decide,by decide,by decide⟩
theorem ZS(O:Pr p)(J:n<=lim)(I:t<n)(w P:Nat->Int)(z:∀i,i<n->0<=w i/\w i<p):
 qK [.int p,.tup<|zG n w,.tup<|zG n P,.int t]=cq (.val<|.tup<|zG n λi=>(w i-w t*P i)%p):=by
 have Y:=z t I;have d:=O.le;have U:∀x,XF (w t) x=da:=λx=>ZO _ _ ⋯ ⋯;by_cases b:w t=0
 ·simp[qK,jq,z7,jO,I,b]
  apply wQ;intro i a;rw[LK (z i a).1 (z i a).2]
 ·simp[qK,jq,z7,jO,I,b,wg,J,jk,kf,IE]
  rw[zC (r:=λi=>D.int<|w i-w t*P i)]
  ·rw[<-qp]
   simp[wZ _ O.pos J]
  ·intro i a
   refine zB rfl rfl ?_;simp[U]
theorem VR{l:UX}{r t:Nat}(z:∀k m,k<m->m<r->l k<l m)(I:∀k,k<r->l k<t):r<=t:=by
 have a:∀k,k<r->k<=l k:=by
  intro k
  induction k with
  |zero=>intro _;exact Mr _
  |succ k O=>
   intro U;have b:=O ⋯;have d:=z k (k+1) ⋯ U;omega
 cases r with
 |zero=>exact Mr _
 |succ r=>
  have b:=a r ⋯;have d:=I r ⋯;omega
noncomputable def Jq:=(zS (jr 6<|jG<|zU (zR<|zk 3) (.nm 0) 1 [5] (sB<|zI l5 (dj (zk 0)<|zh 1)<|zy<|.int 0) (zh 0))<|zS (kv (Zi<|rK<|zk 6) rQ qF)<|zS (jr 7<|zE w6<|zb (zh 0)<|zb (dj (zJ<|dj (zk 6)<|zy<|.int 0)<|zh 5) zF)<|zS (jr 8<|zE xO<|zb (zh 0)<|zb (jG<|zU (zR<|zJ<|dj (zk 6)<|zy<|.int 0) (.nm 0) 1 [7] jw (zI yw (zh 1)<|zh 0)) zF)<|zS (jr 3<|jG<|zU (zR<|zk 3) (.nm 0) 1 [0,5,8] jw (zE qK<|zb (zh 1)<|zb (zh 0)<|zb (zh 3)<|zb (zh 2) zF))<|kB 4<|JF (jz<|zU (zR<|zk 4) (.nm 0) 1 [0,5,8] jw (zE qK<|zb (zh 1)<|zb (zh 0)<|zb (zh 3)<|zb (zh 2) zF))<|jz<|jH<|zb (zh 8) zF)
noncomputable def Un(r:Nat)(B:Nat->Vc)(m:Nat)(W:Nat->Vc):Vc->Prop:=λv=>ef r B v\/ef m W v
structure Dp(p:Int)(n m:Nat)(W:Nat->Vc)(t r:Nat)(B:Nat->Vc)(l:UX)(Wt:Nat->Vc):Prop where
 m9:∀j i,j<m->i<n->0<=Wt j i/\Wt j i<p
 D7:∀j i,j<m->i<t->Wt j i=0
 DG:g9 p n r B l
 lt:∀k,k<r->l k<t
 span:∀v,Span p n (Un r B m Wt) v↔Span p n (ef m W) v
section
variable{p:Int}{n m:Nat}{W:Nat->Vc}{t r:Nat}{B:Nat->Vc}{l:UX}{Wt:Nat->Vc}
theorem Dp.skip(h:Dp p n m W t r B l Wt)(hz:∀j,j<m->Wt j t=0):Dp p n m W (t+1) r B l Wt:=
 ⟨h.m9,λj i I a=>by
  rcases Lg i t with q|q
  ·exact h.D7 j i I q
  ·have:i=t:=by omega
   subst this;exact hz j I,h.DG,λk O=>LZ<|h.lt k O,h.span⟩
noncomputable def i6(p:Int)(P:Vc)(t:Nat)(w:Vc):Vc:=λi=>(w i-w t*P i)%p
noncomputable def bR(p:Int)(P:Vc)(t r:Nat)(B:Nat->Vc):Nat->Vc:=λk=>if k<r then i6 p P t (B k)else P
noncomputable def oM(t r:Nat)(l:UX):Nat->Nat:=λk=>if k<r then l k else t
theorem Jp(I:Span p n G P)(z:Span p n G w):Span p n G (i6 p P t w):=
 (I.add z (-(w t))).congr λi _=>by unfold i6;rw[LJ];congr 1;rw[Int.neg_mul];omega
theorem WA(I:Span p n G P)(z:Span p n G (i6 p P t w)):Span p n G w:=
 (I.add z<|w t).congr λi _=>by unfold i6;rw[Ml,LJ,<-Ml];congr 1;omega
theorem Dp.next(J:Pr p)(h:Dp p n m W t r B l Wt)(Z:t<n)(L:j0<m)(hy:Wt j0 t*y%p=1)(Y:∀i,i<n->P i=y*Wt j0 i%p):
 Dp p n m W (t+1) (r+1) (bR p P t r B) (oM t r l) (λj=>i6 p P t<|Wt j):=by
 have H:=J.pos;have one:=J.one;have A:P t=1:=by rw[Y t Z,Ms];exact hy
 have f:∀i,i<t->P i=0:=λi a=>by rw[Y i ⋯,h.D7 j0 i L a];simp
 have K:∀i,i<n->0<=P i/\P i<p:=λi a=>by rw[Y i a];exact⟨LU _ ⋯,LB _ H⟩
 have E:∀(w:Vc) i,0<=i6 p P t w i/\i6 p P t w i<p:=λw i=>⟨LU _ ⋯,LB _ H⟩;have b:∀(w:Vc) i,i<t->0<=w i->w i<p->i6 p P t w i=w i:=λw i a N Q=>by unfold i6;rw[f i a,NJ,Int.sub_zero];exact LK N Q
 have F:∀w:Vc,i6 p P t w t=0:=λw=>by unfold i6;rw[A,Po,Int.sub_self];simp
 refine⟨λj i O a=>E _ _,λj i O a=>?_,⟨λk I=>?_,λk q M R=>?_,λk I=>?_,λk j I O=>?_,λk q I R as=>?_,λk i I a=>?_⟩,λk I=>?_,λv=>?_⟩
 ·rcases Lg i t with q|q
  ·have e:=h.D7 j i O q
   rw[b _ i q ⋯ ⋯];exact e
  ·have:i=t:=by omega
   subst this;exact F _
 ·unfold oM;split
  ·rename_i q;exact h.DG.lt k q
  ·exact Z
 ·unfold oM
  have I:k<r:=by omega
  rw[UJ I];split
  ·rename_i z;exact h.DG.mono k q M z
  ·exact h.lt k I
 ·unfold oM bR;split
  ·rename_i q
   have e:=h.DG.one k q;have d:=h.lt k q;rw[b _ _ d ⋯ (by have:=J.two;omega)];exact e
  ·exact A
 ·unfold bR;unfold oM at O;split at O
  ·rename_i q
   have e:=h.DG.n4 k j q O;have d:=h.lt k q;rw[UJ q,b _ _ ⋯ ⋯ ⋯];exact e
  ·rename_i q
   rw[UY q];exact f j O
 ·unfold bR oM
  by_cases x:k<r
  ·rw[UJ x]
   by_cases U:q<r
   ·rw[UJ U]
    have e:=h.DG.wa k q x U as;have d:=h.lt q U;rw[b _ _ d ⋯ ⋯];exact e
   ·rw[UY U];exact F _
  ·rw[UY x]
   have U:q<r:=by omega
   rw[UJ U];exact f _<|h.lt q U
 ·unfold bR;split
  ·exact E _ _
  ·exact K i a
 ·unfold oM;split
  ·rename_i q;exact LZ<|h.lt k q
  ·exact Mv _
 ·rw[<-h.span v]
  have o:Span p n (Un r B m Wt) P:=((Span.gen (p:=p) (n:=n) (G:=Un r B m Wt) (g:=Wt j0)<|.inr ⟨j0,L,rfl⟩).smul y).congr λi a=>by rw[Y i a,LJ]
  have C:Span p n (Un (r+1) (bR p P t r B) m λj=>i6 p P t<|Wt j) P:=.gen (.inl ⟨r,Mv r,by unfold bR;rw[UY (LL r)]⟩);constructor
  ·refine λu=>u.le λg s=>?_
   rcases s with⟨k,I,rfl⟩|⟨j,O,rfl⟩
   ·unfold bR;split
    ·rename_i q;exact Jp o<|.gen<|.inl ⟨k,q,rfl⟩
    ·exact o
   ·exact Jp o<|.gen<|.inr ⟨j,O,rfl⟩
  ·refine λu=>u.le λg s=>?_
   rcases s with⟨k,I,rfl⟩|⟨j,O,rfl⟩
   ·refine WA (t:=t) C (.gen<|.inl ⟨k,LZ I,?_⟩)
    unfold bR;rw[UJ I]
   ·exact WA (t:=t) C<|.gen<|.inr ⟨j,O,rfl⟩
theorem Dp.done(h:Dp p n m W n r B l Wt)(v:Vc):Span p n (ef r B) v↔Span p n (ef m W) v:=by
 rw[<-h.span v];constructor
 ·exact λO=>O.le λg I=>.gen (.inl I)
 ·refine λO=>O.le λg I=>?_
  rcases I with I|⟨j,U,rfl⟩
  ·exact .gen I
  ·exact .zero λi a=>by rw[h.D7 j i U a];simp
theorem gP(O:True)(P:Vc):zX (r+1) n (bR p P t r B)=zX r n (λk=>i6 p P t<|B k)++[.tup (zG n P)]:=by
 unfold zX;rw[MA,LQ];congr 1
 ·apply Lf
  intro k I;have:=IC.mp I;simp[bR,this]
 ·simp[bR]
end
theorem yM{p:Int}(z:Pr p){n m:Nat}(hn:n<=200)(L:m<=lim)(J:Sk)(W:Nat->Vc):
 ∃r B l,xD [.int p,.int n,sh J (zX m n W)]=cq (.own<|zX r n B)/\g9 p n r B l/\∀v,Span p n (ef r B) v↔Span p n (ef m W) v:=by
 have hl:=jj;have b:n<=lim:=by omega
 have H:=z.pos;have E:=Y9 (T:=.nm 5) (F:=Jq)
  (λt Q=>∃r B l Wt s u h o,Q=[.val (.int p),.val<|.int n,.val<|sh J<|zX m n W,.val<|.lst<|zX m n Wt,.own<|zX r n B,s,u,h,o]/\Dp p n m W t r B l Wt)
  ((IA n).map λ(i:Nat)=>D.int i) 0 [.val (.int p),.val<|.int n,.val<|sh J<|zX m n W,.val<|.lst<|zX m n λj i=>W j i%p,.own [],.no,.no,.no,.no]
  ⟨0,λ_ _=>0,λ_=>0,λj i=>W j i%p,.no,.no,.no,.no,rfl,λj i _ _=>⟨LU _ ⋯,LB _ H⟩,λj i _ e=>absurd e<|Lo _,
   ⟨λk O=>absurd O<|Lo _,λk q _ O=>absurd O<|Lo _,λk O=>absurd O<|Lo _,λk j O=>absurd O<|Lo _,λk q O=>absurd O<|Lo _,λk i O=>absurd O<|Lo _⟩,
   λk O=>absurd O<|Lo _,λv=>⟨λC=>C.le λg A=>by
    rcases A with⟨k,O,_⟩|⟨j,Y,rfl⟩
    ·exact absurd O<|Lo _
    ·exact(Span.gen (p:=p) (n:=n) (G:=ef m W) (g:=W j) ⟨j,Y,rfl⟩).congr λi _=>LJ _ _,λC=>C.le λg A=>by
    obtain⟨j,Y,rfl⟩:=A;exact(Span.gen (p:=p) (n:=n) (G:=Un 0 (λ_ _=>0) m λj i=>W j i%p) (g:=λi=>W j i%p)<|.inr ⟨j,Y,rfl⟩).congr λi _=>(LJ _ _).symm⟩⟩ (by
   rintro t d Q w ⟨r,B,l,Wt,s,u,h,o,rfl,U⟩;rw[LS]at U ⊢;have a:t<n:=by have:=(Ll.mp w).1;simpa using this
   have R:d=.int t:=by simp[a]at w;exact w.symm
   subst R;have f:zY (.nm 0) (sB<|zI l5 (dj (zk 0)<|zh 1)<|zy<|.int 0) (zh 0) [Cell.no,Cell.val (.int t)] (zX m n Wt)=cq (((IA m).filter λj=> !decide (Wt j t=0)).map λj=>D.tup<|zG n<|Wt j):=by unfold zX;refine jt _ _ _ λj Y=>⟨_,rfl,?_,λ_=>rfl⟩;simp[a]
   have hr:r<=t:=VR U.DG.mono U.lt;have S:r<=lim:=by omega
   cases hf:(IA m).filter λj=> !decide (Wt j t=0)with
   |nil=>
    have hz:∀j,j<m->Wt j t=0:=λj Y=>by apply Mc;intro K;have:j∈(IA m).filter λj=> !decide (Wt j t=0):=Li.mpr ⟨IC.mpr Y,by simp[K]⟩;rw[hf]at this;simp at this
    rw[hf]at f;refine⟨_,.inr ?_,r,B,l,Wt,.val<|.int t,.val<|.lst [],h,o,rfl,U.skip hz⟩;simp only[Jr,IF,Mb,Ma,Jq];rw[jO];simp[jO,jk,kf,IE,f,L]
   |cons I yR=>
    have M:I∈(IA m).filter λj=> !decide (Wt j t=0):=by rw[hf];exact La
    have N:I<m:=IC.mp (Li.mp M).1;have K:Wt I t≠0:=by simpa using (Li.mp M).2
    have X:=U.m9 I t N a;obtain⟨y,ey,y1,y2,yy⟩:=Vs z (x:=Wt I t) ⋯ X.2;rw[hf]at f;have nx:=U.next z a N yy (P:=λi=>y*Wt I i%p) λi _=>rfl;refine⟨_,.inl ?_,r+1,bR p (λi=>y*Wt I i%p) t r B,oM t r l,λj=>i6 p (λi=>y*Wt I i%p) t<|Wt j,.val<|.int t,.val<|.lst<|(I::yR).map λj=>D.tup<|zG n<|Wt j,.val<|.int y,.val<|.tup<|zG n λi=>y*Wt I i%p,rfl,nx⟩;have bb:=z.le;have cy:∀x,XF y x=da:=λx=>ZO _ _ ⋯ ⋯;have Z:zY (.nm 0) jw (zI yw (zh 1)<|zh 0) [Cell.no,Cell.val (.int y)] (zG n<|Wt I)=cq (zG n λi=>y*Wt I i):=by rw[qp,qp];refine zC _ _ λi e=>zB rfl rfl ?_;simp[cy]
    have b1:zY (.nm 0) jw (zE qK<|zb (zh 1)<|zb (zh 0)<|zb (zh 3)<|zb (zh 2) zF) [Cell.no,Cell.val<|.int p,Cell.val<|.int t,Cell.val (.tup<|zG n λi=>y*Wt I i%p)] (zX m n Wt)=cq (zX m n λj=>i6 p (λi=>y*Wt I i%p) t<|Wt j):=by unfold zX;refine zC _ _ λj Y=>zB rfl rfl ?_;simp[ZS z b a (Wt j) (λi=>y*Wt I i%p) λi e=>U.m9 j i (IC.mp Y) e];rfl
    have b2:zY (.nm 0) jw (zE qK<|zb (zh 1)<|zb (zh 0)<|zb (zh 3)<|zb (zh 2) zF) [Cell.no,Cell.val<|.int p,Cell.val<|.int t,Cell.val (.tup<|zG n λi=>y*Wt I i%p)] (zX r n B)=cq (zX r n λj=>i6 p (λi=>y*Wt I i%p) t<|B j):=by unfold zX;refine zC _ _ λj Y=>zB rfl rfl ?_;simp[ZS z b a (B j) (λi=>y*Wt I i%p) λi e=>U.DG.m9 j i (IC.mp Y) e];rfl
    have b3:r+1<=lim:=by omega
    rw[gP trivial];simp only[Jr,IF,Mb,Ma,Jq];rw[jO];simp[jO,jk,kf,IE,f,L,b,a,ey,Z,wZ _ H b,b1,b2,S,b3])
 obtain⟨γ',e1,r,B,l,Wt,s,u,h,o,rfl,U⟩:=E;simp only[Lc,Md,LS]at U;refine⟨r,B,l,?_,U.DG,U.done⟩;have b4:zY (.nm 0) jw (zE xO<|zb (zh 1)<|zb (zh 0) zF) [Cell.no,Cell.val (.int p)] (zX m n W)=cq (zX m n λj i=>W j i%p):=by unfold zX;refine zC _ _ λj Y=>zB rfl rfl ?_;simp[iC _ H b]
 have e0:xD [.int p,.int n,sh J (zX m n W)]=jq 9 (zS (jr 3<|jG<|zU (zR<|zk 2) (.nm 0) 1 [0] jw (zE xO<|zb (zh 1)<|zb (zh 0) zF))<|zS (kB 4<|jH zF)<|zS (ZV (jK<|zh 1) (.nm 5) Jq)<|XZ 4) [.int p,.int n,sh J (zX m n W)]:=rfl;rw[e0];simp[jq,z7,jO,L,jk,kf,IE,b4,b,qL];rw[qp n λi=>(i:Int),e1];simp
theorem vx{p:Int}(I:Pr p){n m:Nat}(L:n<=100)(J:m<=lim)(z:Sk)(W:Nat->Vc):
 ∃r B l,xD [.int p,.int n,sh z (zX m n W)]=cq (.own<|zX r n B)/\g9 p n r B l/\∀v,Span p n (ef r B) v↔Span p n (ef m W) v:=yM I ⋯ J z W
noncomputable def J1{z:Type}(q:Nat)(x:z)(f:Nat->z):Nat->z:=λk=>if k<q then f k else if k=q then x else f (k-1)
noncomputable def ZZ(l:UX)(r x:Nat):Nat:=((IA r).filter λk=>decide<|l k<x).length
theorem KD:∀{r:Nat},(∀k m,k<m->m<r->l k<l m)->(∀k,k<r->l k≠x)->ZZ l r x<=r/\(∀k,k<ZZ l r x->l k<x)/\∀k,ZZ l r x<=k->k<r->x<l k
 |0,_,_=>⟨II _,λk I=>absurd I (by simp[ZZ]),λk _ I=>absurd I<|Lo _⟩
 | r+1,hm,UB=>by
  obtain⟨g,d,O⟩:=KD (r:=r) (x:=x) (λk m a b=>hm k m a ⋯) λk I=>UB k ⋯;have e:ZZ l (r+1) x=ZZ l r x+if l r<x then 1 else 0:=by unfold ZZ;rw[MA,NS,Lz];by_cases q:l r<x<;>simp[q]
  by_cases q:l r<x
  ·rw[e,UJ q]
   have U:ZZ l r x=r:=by
    rcases Lg (ZZ l r x) r with z|z
    ·have Y:=O (ZZ l r x) (II _) z
     have f:=hm (ZZ l r x) r z<|Mv r;omega
    ·omega
   rw[U];refine⟨II _,λk I=>?_,λk a b=>absurd b ⋯⟩;rcases Lg k r with z|z
   ·exact d k ⋯
   ·have:k=r:=by omega
    subst this;exact q
  ·rw[e,UY q,PK]
   refine⟨by omega,d,λk a b=>?_⟩;rcases Lg k r with z|z
   ·exact O k a z
   ·have:k=r:=by omega
    subst this;have:=UB k b;omega
section
variable{p:Int}{n r:Nat}{B:Nat->Vc}{l:UX}{w:Vc}
structure I0(p:Int)(n r:Nat)(B:Nat->Vc)(l:UX)(w:Vc)(k:Nat)(R:Vc):Prop where
 m9:∀i,i<n->0<=R i/\R i<p
 D7:∀q,q<k->R (l q)=0
 eqv:∀G,(∀k,k<r->Span p n G (B k))->(Span p n G w↔Span p n G R)
theorem I0.next(J:Pr p)(Y:g9 p n r B l)(h:I0 p n r B l w k R)(I:k<r):I0 p n r B l w (k+1) (i6 p (B k) (l k) R):=by
 have a:=J.pos;refine⟨λi _=>⟨LU _ ⋯,LB _ a⟩,λq b=>?_,λG O=>?_⟩
 ·unfold i6
  rcases Lg q k with z|z
  ·rw[h.D7 q z,Y.wa k q I ⋯ ⋯];simp
  ·have:q=k:=by omega
   subst this;rw[Y.one q I];simp
 ·rw[h.eqv G O]
  exact⟨λU=>Jp (O k I) U,λU=>WA (O k I) U⟩
theorem YZ(O:q<=r)(U:k<r+1):(k=q/\J1 q x f k=x)\/∃I,I<r/\J1 q x f k=f I/\((k<q/\I=k)\/(q<k/\I+1=k)):=by
 unfold J1;rcases Oh k q with z|z|z
 ·right;exact⟨k,by omega,by rw[UJ z],.inl ⟨z,rfl⟩⟩
 ·left;subst z;exact⟨rfl,by rw[UY (LL _),UJ rfl]⟩
 ·right;exact⟨k-1,by omega,by rw[UY ⋯,UY ⋯],.inr ⟨z,by omega⟩⟩
theorem UC:J1 q x f q=x:=by unfold J1;rw[UY (LL _),UJ rfl]
theorem tJ:∃I,(I<q/\I=k\/q<I/\I=k+1)/\J1 q x f I=f k:=by
 rcases Lg k q with z|z
 ·exact⟨k,.inl ⟨z,rfl⟩,by unfold J1;rw[UJ z]⟩
 ·exact⟨k+1,.inr ⟨by omega,rfl⟩,by unfold J1;rw[UY ⋯,UY ⋯];rfl⟩
theorem tL(hp:Pr p)(J:g9 p n r B l)(ha:a<n)(L:R a=1)(hz:∀i,i<a->R i=0)(Z:∀k,k<r->R (l k)=0)(hR:∀i,i<n->0<=R i/\R i<p):
 g9 p n (r+1) (J1 (ZZ l r a) R λk=>i6 p R a<|B k) (J1 (ZZ l r a) a l):=by
 have Q:=hp.pos;have F:∀k,k<r->l k≠a:=λk O e=>by have:=Z k O;rw[e,L]at this;omega
 obtain⟨P,S,T⟩:=KD J.mono F;have K:∀(w:Vc) i,0<=i6 p R a w i/\i6 p R a w i<p:=λw i=>⟨LU _ ⋯,LB _ Q⟩;have G:∀w:Vc,i6 p R a w a=0:=λw=>by unfold i6;rw[L,Po,Int.sub_self];simp
 have A:∀(w:Vc) k,k<r->0<=w (l k)->w (l k)<p->i6 p R a w (l k)=w (l k):=λw k O L M=>by unfold i6;rw[Z k O,NJ,Int.sub_zero];exact LK L M
 have H:∀k j,k<r->j<l k->i6 p R a (B k) j=0:=λk j O s=>by
  unfold i6;rw[J.n4 k j O s];rcases Lg a (l k)with z|z
  ·rw[J.n4 k a O z];simp
  ·rw[hz j ⋯];simp
 have two:=hp.two;have Y:∀k,k<r+1->(k=ZZ l r a/\J1 (ZZ l r a) R (λk=>i6 p R a<|B k) k=R/\J1 (ZZ l r a) a l k=a)\/
  ∃I,I<r/\J1 (ZZ l r a) R (λk=>i6 p R a<|B k) k=i6 p R a (B I)/\J1 (ZZ l r a) a l k=l I/\((k<ZZ l r a/\I=k)\/(ZZ l r a<k/\I+1=k)):=by
  intro k O;rcases YZ (x:=R) (f:=λk=>i6 p R a<|B k) P O with⟨b,t⟩|⟨I,U,b,t⟩
  ·left;refine⟨b,t,?_⟩;subst b;exact UC
  ·right
   refine⟨I,U,b,?_,t⟩;rcases t with⟨C,E⟩|⟨C,E⟩
   ·unfold J1;rw[UJ C,E]
   ·unfold J1;rw[UY ⋯,UY ⋯];congr 1;omega
 refine⟨λk O=>?_,λk m W u=>?_,λk O=>?_,λk j O s=>?_,λk m O u as=>?_,λk i O N=>?_⟩
 ·rcases Y k O with⟨_,_,e⟩|⟨I,U,_,e,_⟩
  ·rw[e];exact ha
  ·rw[e];exact J.lt I U
 ·rcases Y k ⋯with⟨z,_,e⟩|⟨I,U,_,e,z⟩<;>rcases Y m u with⟨y,_,h⟩|⟨g,d,_,h,y⟩<;>rw[e,h]
  ·omega
  ·exact T g ⋯ d
  ·exact S I ⋯
  ·exact J.mono I g ⋯ d
 ·rcases Y k O with⟨_,b,e⟩|⟨I,U,b,e,_⟩<;>rw[b,e]
  ·exact L
  ·have o:=J.one I U
   rw[A _ I U ⋯ ⋯];exact o
 ·rcases Y k O with⟨_,b,e⟩|⟨I,U,b,e,_⟩<;>rw[b]<;>rw[e]at s
  ·exact hz j s
  ·exact H I j U s
 ·rcases Y k O with⟨z,b,_⟩|⟨I,U,b,_,z⟩<;>rcases Y m u with⟨y,_,h⟩|⟨g,d,_,h,y⟩<;>rw[b,h]
  ·omega
  ·exact Z g d
  ·exact G _
  ·have o:=J.wa I g U d ⋯
   rw[A _ g d ⋯ ⋯];exact o
 ·rcases Y k O with⟨_,b,_⟩|⟨I,U,b,_,_⟩<;>rw[b]
  ·exact hR i N
  ·exact K _ _
theorem tN(I:q<=r)(z:Span p n G R)(O:∀k,k<r->Span p n G (F k)):∀g,ef (r+1) (J1 q R F) g->Span p n G g:=by
 rintro g ⟨k,U,rfl⟩;rcases YZ (x:=R) (f:=F) I U with⟨_,e⟩|⟨Y,a,e,_⟩<;>rw[e]
 ·exact z
 ·exact O Y a
theorem tF(O:q<=r):ef (r+1) (J1 q R F) R/\∀k,k<r->ef (r+1) (J1 q R F) (F k):=by refine⟨⟨q,by omega,UC.symm⟩,λk U=>?_⟩;obtain⟨I,h,e⟩:=tJ (q:=q) (x:=R) (f:=F) (k:=k);exact⟨I,by omega,e.symm⟩
theorem mJ(hp:Pr p)(hb:g9 p n r B l)(Z:a<n)(hs:∀v,Span p n (ef r B) v↔Span p n (ef j W) v)(U:I0 p n r B l (W j) r R)(L:y*R a%p=1)(Y:∀i,i<n->R' i=y*R i%p)(J:ZZ l r a<=r)(v:Vc):
 Span p n (ef (r+1)<|J1 (ZZ l r a) R' λk=>i6 p R' a<|B k) v↔Span p n (ef (j+1) W) v:=by
 have w:∀v,Span p n (ef j W) v->Span p n (ef (j+1) W) v:=λv O=>O.le λg ⟨i,b,e⟩=>.gen ⟨i,by omega,e⟩;have a2:∀k,k<r->Span p n (ef (j+1) W) (B k):=λk I=>w _<|(hs _).mp (.gen ⟨k,I,rfl⟩);have m:Span p n (ef (j+1) W) R:=(U.eqv _ a2).mp (.gen ⟨j,by omega,rfl⟩);have d:Span p n (ef (j+1) W) R':=(m.smul y).congr λi b=>by rw[Y i b,LJ]
 obtain⟨u,m2⟩:=tF (R:=R') (F:=λk=>i6 p R' a<|B k) J;have f:Span p n (ef (r+1)<|J1 (ZZ l r a) R' λk=>i6 p R' a<|B k) R':=.gen u;have h:∀k,k<r->Span p n (ef (r+1)<|J1 (ZZ l r a) R' λk=>i6 p R' a<|B k) (B k):=λk I=>WA (t:=a) f<|.gen<|m2 k I;have o:Span p n (ef (r+1)<|J1 (ZZ l r a) R' λk=>i6 p R' a<|B k) R:=(f.smul<|R a).congr λi b=>by rw[Y i b,wI,<-Nn,Ms (R a) y,IQ,L,Int.one_mul,LJ]
 constructor
 ·exact λO=>O.le<|tN J d λk I=>Jp d<|a2 k I
 ·refine λO=>O.le ?_
  rintro g ⟨i,b,rfl⟩;rcases Lg i j with z|z
  ·exact((hs _).mpr (.gen ⟨i,z,rfl⟩)).le λg s=>by obtain⟨k,I,e⟩:=s;rw[e];exact h k I
  ·have:i=j:=by omega
   subst this;exact(U.eqv _ h).mpr o
theorem dF(hs:∀v,Span p n (ef r B) v↔Span p n (ef j W) v)(O:I0 p n r B l (W j) r R)(J:∀i,i<n->R i=0)(v:Vc):Span p n (ef r B) v↔Span p n (ef (j+1) W) v:=by
 constructor
 ·exact λI=>((hs v).mp I).le λg ⟨i,a,e⟩=>.gen ⟨i,by omega,e⟩
 ·refine λI=>I.le ?_
  rintro g ⟨i,a,rfl⟩;rcases Lg i j with z|z
  ·exact(hs _).mpr (.gen ⟨i,z,rfl⟩)
  ·have:i=j:=by omega
   subst this;exact(O.eqv _ λk U=>.gen ⟨k,U,rfl⟩).mpr (.zero λi a=>by rw[J i a];simp)
end
section
variable{p:Int}{n m r:Nat}{G:Vc->Prop}
theorem Span.sum{u:Nat->Vc}(c:Nat->Int):∀{m:Nat},(∀k,k<m->Span p n G (u k))->Span p n G λi=>zm (λk=>c k*u k i) m
 |0,_=>.zero λi _=>by simp[zm]
 |m+1,h=>(((h m ⋯).add (Span.sum c (m:=m) λk I=>h k ⋯) (c m))).congr λi _=>by simp[zm]
noncomputable def Rk(p:Int)(n m:Nat)(W:Nat->Vc)(r:Nat):Prop:=∃B l,g9 p n r B l/\∀v,Span p n (ef r B) v↔Span p n (ef m W) v
theorem vV(U:Pr p)(h:Rk p n m W r)(h':Rk p n m W r'):r=r':=by obtain⟨B,l,Y,a⟩:=h;obtain⟨d,e,b,O⟩:=h';exact(QD U Y b (λv I=>(O v).mpr ((a v).mp I))<|λv I=>(a v).mpr ((O v).mp I)).1
theorem WR(I:Pr p)(O:g9 p n r B l)(z:∀i,i<n->0<=w i/\w i<p):∀k,k<=r->∃R,I0 p n r B l w k R
 |0,_=>⟨w,z,λq U=>absurd U<|Lo _,λG _=>Iff.rfl⟩
 |k+1,h=>by obtain⟨R,a⟩:=WR I O z k ⋯;exact⟨_,a.next I O ⋯⟩
theorem ay:∀(n:Nat) (R:Vc),(∀i,i<n->R i=0)\/∃a,a<n/\R a≠0/\∀i,i<a->R i=0
 |0,R=>.inl λi b=>absurd b<|Lo _
 | n+1,R=>by
  rcases ay n R with h|⟨a,h1,h2,I⟩
  ·by_cases e:R n=0
   ·exact .inl λi b=>by rcases Lg i n with z|z;exact h i z;rw[show i=n by omega];exact e
   ·exact .inr ⟨n,by omega,e,h⟩
  ·exact .inr ⟨a,by omega,h2,I⟩
theorem nZ(O:Pr p)(W:Nat->Vc)(z:∀j i,0<=W j i/\W j i<p):∀m,∃r,r<=m/\Rk p n m W r
 |0=>⟨0,II _,λ_ _=>0,λ_=>0,⟨λk I=>absurd I<|Lo _,λk q _ I=>absurd I<|Lo _,λk I=>absurd I<|Lo _,λk j I=>absurd I<|Lo _,λk q I=>absurd I<|Lo _,λk i I=>absurd I<|Lo _⟩,
  λv=>⟨λb=>b.le λg ⟨k,I,_⟩=>absurd I<|Lo _,λb=>b.le λg ⟨k,I,_⟩=>absurd I<|Lo _⟩⟩
 | m+1=>by
  obtain⟨r,u,B,l,U,d⟩:=nZ O W z m;have t:=O.pos;obtain⟨R,Y⟩:=WR O U (w:=W m) (λi _=>z m i) r<|II _;rcases ay n R with h0|⟨a,ha,a5,a6⟩
  ·exact⟨r,by omega,B,l,U,dF d Y h0⟩
  ·have h:=Y.m9 a ha
   obtain⟨y,_,_,f⟩:=Cd O (x:=R a) ⋯ h.2;have o:∀k,k<r->l k≠a:=λk I e=>by have:=Y.D7 k I;rw[e]at this;exact a5 this
   exact⟨r+1,by omega,_,_,tL O U (R:=λi=>(y:Int)*R i%p) ha f (λi s=>by rw[a6 i s];simp) (λk I=>by rw[Y.D7 k I];simp) λi _=>⟨LU _ ⋯,LB _ t⟩,
    mJ O (R':=λi=>(y:Int)*R i%p) U ha d Y f (λi _=>rfl) (KD U.mono o).1⟩
theorem Ys(I:Pr p)(m:Nat)(W:Nat->Vc):∃r,r<=m/\Rk p n m W r:=by
 obtain⟨r,U,B,l,Y,a⟩:=nZ (n:=n) I (λj i=>W j i%p) (λj i=>⟨LU _ (by have:=I.pos;omega),LB _ I.pos⟩) m;refine⟨r,U,B,l,Y,λv=>(a v).trans ⟨λh=>h.le λg ⟨k,O,e⟩=>?_,λh=>h.le λg ⟨k,O,e⟩=>?_⟩⟩
 ·subst e;exact(Span.gen (g:=W k) ⟨k,O,rfl⟩).congr λi _=>by rw[LJ]
 ·subst e;exact(Span.gen (g:=λi=>W k i%p) ⟨k,O,rfl⟩).congr λi _=>by rw[LJ]
theorem rT(I:Pr p){b:Nat}(_:n<=100)(_:m<=b)(W:Nat->Vc):∃r,r<=m/\Rk p n m W r:=Ys I m W
theorem AB(J:Pr p)(h:Rk p n m W r)(h':Rk p n m' W' r')(L:∀j,j<m->Span p n (ef m' W') (W j)):r<=r':=by
 obtain⟨B,l,U,x⟩:=h;obtain⟨C,f,Y,s⟩:=h';have o:∀k,k<r->∃q,q<r'/\f q=l k:=λk I=>V1 Y ((s _).mpr (((x _).mp (.gen ⟨k,I,rfl⟩)).le λg ⟨j,w,e⟩=>e ▸ L j w)) (U.lt k I) (by rw[U.one k I,J.one];decide) λi u=>by rw[U.n4 k i I u];simp
 have a:∀k,k<r->∀q,q<r'->f q=l k->k<=q:=by
  intro k
  induction k with
  |zero=>intro _ q _ _;exact Mr _
  | succ k A=>
   intro I q d e;obtain⟨O,b,t⟩:=o k ⋯;have E:=A ⋯ O b t;have F:=U.mono k (k+1) ⋯ I;rcases Lg O q with z|z
   ·omega
   ·rcases Lg q O with y|y
    ·have:=Y.mono q O y b
     omega
    ·have:q=O:=by omega
     subst this;omega
 rcases Rz r with z|z
 ·omega
 ·obtain⟨q,d,e⟩:=o (r-1) ⋯
  have:=a (r-1) ⋯ q d e;omega
end
theorem gQ(h w f):deep (.lst<|zX h w f)<=2:=ny h w f
theorem mn(h w f):ir (.lst<|zX h w f)=da:=sZ h w f
theorem W5(h w f):l8 (.lst<|zX h w f)=da:=W4 (gQ h w f) ⋯<|mn h w f
section
variable{p:Int}{n m r h w:Nat}
theorem Jd{l:UX}(h:Nat):∀{r:Nat},(∀k m,k<m->m<r->l k<l m)->∃s,s<=r/\(∀k,k<s->l k<h)/\∀k,s<=k->k<r->h<=l k
 |0,_=>⟨0,II _,λk I=>absurd I<|Lo _,λk _ I=>absurd I<|Lo _⟩
 | r+1,hm=>by
  obtain⟨s,b,a,O⟩:=Jd h (r:=r) λk m I U=>hm k m I ⋯;by_cases e:l r<h
  ·refine⟨r+1,II _,λk I=>?_,λk b a=>by omega⟩
   rcases Lg k r with z|z
   ·have:=hm k r z ⋯;omega
   ·have:k=r:=by omega
    subst this;exact e
  ·refine⟨s,by omega,a,λk I Y=>?_⟩
   rcases Lg k r with z|z
   ·exact O k I z
   ·have:k=r:=by omega
    subst this;omega
theorem V6(hs:s<=r)(z:∀k,k<s->q k=di)(J:∀k,s<=k->k<r->q k=da):(IA r).filter q=(IA<|r-s).map (s + ·):=by
 obtain⟨d,rfl⟩:∃d,r=s+d:=⟨r-s,by omega⟩;rw[Oi,NS];have a:(IA s).filter q=[]:=List.filter_eq_nil_iff.mpr λk I=>by rw[z k (IC.mp I)];decide
 have O:((IA d).map (s + ·)).filter q=(IA d).map (s + ·):=List.filter_eq_self.mpr λk I=>by obtain⟨i,b,rfl⟩:=Lv.mp I;exact J _ ⋯ (by have:=IC.mp b;omega)
 rw[a,O,MR];rfl
noncomputable def yU(h:Nat)(u v:Vc):Vc:=λi=>if i<h then u i else v (i-h)
noncomputable def jX(j:Nat):Vc:=λk=>if j=k then 1 else 0
theorem qa(z:i<h):yU h u v i=u i:=UJ z
theorem qr(i:Nat):yU h u v (h+i)=v i:=by unfold yU;rw[UY ⋯,MR]
theorem Jj(h w:Nat)(u v:Vc):zG h u++zG w v=zG (h+w) (yU h u v):=by
 unfold zG;rw[Oi,LQ];congr 1
 ·exact Lf λi a=>by rw[qa (IC.mp a)]
 ·rw[Ly]
  exact Lf λi _=>by simp only[PR];rw[qr]
theorem gJ(h w:Nat)(v:Vc):(zG (h+w) v).take h=zG h v:=by unfold zG;rw[<-List.map_take,List.take_range,PH (Ln h w)]
theorem gK(h w:Nat)(v:Vc):(zG (h+w) v).drop h=zG w λj=>v (h+j):=by unfold zG;rw[Oi,LQ,List.drop_append_of_le_length ⋯,Pu ⋯,Ly];rfl
theorem aG(h w:Nat)(v:Vc):cV (zG (h+w) v) none (cq (h:Int))=zG h v:=by
 have c:¬((h:Int)<0):=by omega
 have e:min h (h+w)=h:=PH<|Ln h w;simp[cV,Wc,c,e,gJ]
theorem aF(h w:Nat)(v:Vc):cV (zG (h+w) v) (cq (h:Int)) none=zG w λj=>v (h+j):=by
 have c:¬((h:Int)<0):=by omega
 have e:min h (h+w)=h:=PH<|Ln h w;have t:∀g:Vc,(zG w g).take w=zG w g:=λg=>Od ⋯;simp[cV,Wc,c,e,gK,t]
theorem WB(v:Vc):∀n,Yb (zG n v)=cq ((IA n).map λi=>v i != 0)
 |0=>rfl
 | n+1=>by
  have b:∀l:List Nat,Yb (l.map λi=>D.int<|v i)=cq (l.map λi=>v i != 0):=by
   intro l
   induction l with
   |nil=>rfl
   |cons a l I=>simp[Yb,ES,I]
  exact b _
theorem QJ(O:g9 p (h+w) r B l)(U:r<=lim)(hs:s<=r)(z:∀k,k<s->l k<h)(h2:∀k,s<=k->k<r->h<=l k):
 qM [.int h,.lst (zX r (h+w) B)]=cq (.own<|zX (r-s) w λk j=>B (s+k)<|h+j):=by
 have d:zY (.nm 0) (Zi<|sB<|uQ<|zJ<|WL (zh 0) cS<|p5<|zh 1) (WL (zh 0) (p5<|zh 1) cS) [Cell.no,Cell.val (.int h)] (zX r (h+w) B)=cq (((IA r).filter λk=>decide<|h<=l k).map λk=>D.tup<|zG w λj=>B k<|h+j):=by
  unfold zX;refine jt (λk=>decide<|h<=l k) _ _ λk I=>⟨_,rfl,?_,λY=>?_⟩
  ·have I:=IC.mp I
   simp[aG,WB];by_cases e:h<=l k
   ·simp[e]
    intro i f;have:=O.n4 k i I ⋯;simp[this]
   ·simp[e]
    exact⟨l k,by omega,by rw[O.one k I];decide⟩
  ·simp[aF]
 rw[V6 hs (λk I=>decide_eq_false (by have:=z k I;omega)) (λk a b=>decide_eq_true<|h2 k a b)]at d;simp[qM,jq,z7,U,jk,kf,IE,d];unfold zX;rfl
noncomputable def B3(p:Int)(h w:Nat)(f:UV)(v:Vc):Prop:=∀i,i<h->zm (λj=>f i j*v j) w%p=0
theorem lY{f:UV}{v:Vc}(O:Span p (h+w) (ef w λj=>yU h (λi=>f i j)<|jX j) v):∀i,i<h->v i%p=zm (λj=>f i j*v (h+j)) w%p:=by
 induction O with
 |@zero v b=>
  intro i a;rw[b i ⋯];have:zm (λj=>f i j*v (h+j)) w%p=zm (λ_=>0) w%p:=zQ λj U=>by rw[IQ,b (h+j) ⋯];simp
  rw[this,zT];rfl
 |@step v u g c Y n I l=>
  intro i a;obtain⟨m,k,rfl⟩:=Y;rw[I i ⋯,Ml,l i a,<-Ml];have e:zm (λj=>f i j*v (h+j)) w%p=zm (λj=>f i j*u (h+j)+c*(f i j*jX m j)) w%p:=zQ λj U=>by rw[IQ,I (h+j) ⋯,<-IQ];simp only[qr];rw[Pp,Pe]
  rw[e,qv,jB,z6 (f:=λj=>f i j*jX m j) k λj _ d=>by simp[jX,LD d]];simp[jX,qa a]
theorem Wz(O:Pr p)(w:Nat):g9 p w w jX id where
 lt:=λk I=>I
 mono:=λk m I _=>I
 one:=λk _=>UJ rfl
 n4:=λk j _ U=>UY (by simp only[id]at U;omega)
 wa:=λk m _ _ Y=>UY (by simp only[id];omega)
 m9:=λk i _ _=>by have:=O.two;unfold jX;split<;>omega
theorem Span.map(t:UX)(I:∀i,i<n'->t i<n)(O:∀g,G g->Span p n' G' λi=>g<|t i)(U:Span p n G v):Span p n' G' λi=>v (t i):=by
 induction U with
 |@zero v d=>exact .zero λi a=>d _<|I i a
 |@step v u g c Y f b e=>exact((O _ Y).add e c).congr λi a=>b _<|I i a
theorem ZR(J:Pr p)(hh:h<=100)(hw:w<=100)(f:UV):
 ∃q K l s,kn [.int p,j8 h w f]=cq (.own<|zX q w K)/\g9 p w q K l/\(∀v,Span p w (ef q K) v↔B3 p h w f v)/\Rk p h w (λj i=>f i j) s/\q+s=w:=by
 have hl:=jj;have S:h<=lim:=by omega
 have y:w<=lim:=by omega
 have X:h+w<=lim:=by omega
 obtain⟨r,B,l,e,O,x⟩:=yM J (show h+w<=200 by omega) y .L λj=>yU h (λi=>f i j)<|jX j;have Z:∀v,Span p (h+w) (ef r B) v->∀i,i<h->v i%p=zm (λj=>f i j*v (h+j)) w%p:=λv Y=>lY<|(x v).mp Y;have ae:r<=w:=by obtain⟨r',C,E⟩:=Ys J (n:=h+w) w λj=>yU h (λi=>f i j)<|jX j;rw[vV J ⟨B,l,O,x⟩ E];exact C
 have ak:w<=r:=by obtain⟨r',C,E⟩:=Ys J (n:=w) r λk j=>B k<|h+j;refine LG (AB J (m:=w) (W:=jX) ⟨jX,id,Wz J w,λv=>Iff.rfl⟩ E λj U=>?_) C;have:=Span.map (n':=w) (G':=ef r λk j=>B k<|h+j) (λi=>h+i) (λi a=>by omega) (λg ⟨k,I,b⟩=>.gen ⟨k,I,by rw[b]⟩)<|(x<|yU h (λi=>f i j)<|jX j).mpr (.gen ⟨j,U,rfl⟩);exact this.congr λi _=>by rw[qr]
 have er:r=w:=Nat.le_antisymm ae ak;subst er;obtain⟨s,hs,N,o⟩:=Jd h O.mono;have eb:=QJ O y hs N o;have am:g9 p r (r-s) (λk j=>B (s+k)<|h+j) (λk=>l (s+k)-h):={
  lt:=λk I=>by have:=O.lt (s+k) ⋯;have:=o (s+k) ⋯ ⋯;omega
  mono:=λk m I G=>by have:=O.mono (s+k) (s+m) ⋯ ⋯;have:=o (s+k) ⋯ ⋯;omega
  one:=λk I=>by have:=o (s+k) ⋯ ⋯;rw[show h+(l (s+k)-h)=l (s+k)by omega];exact O.one _ ⋯
  n4:=λk j I U=>O.n4 _ _ ⋯ ⋯
  wa:=λk m I G A=>by have:=o (s+m) ⋯ ⋯;rw[show h+(l (s+m)-h)=l (s+m)by omega];exact O.wa _ _ ⋯ ⋯ ⋯
  m9:=λk i I a=>O.m9 _ _ ⋯ ⋯}
 refine⟨r-s,_,_,s,?_,am,λv=>⟨λY=>?_,λY=>?_⟩,?_,by omega⟩
 ·have Q:=yv f S y
  have R:=yu (n:=r) y;have M:zY (.tp [0,1]) jw (zI qu (zh 0)<|zh 1) [Cell.no,Cell.no] ((IA r).map λj=>D.tup [.tup (zG h λi=>f i j),.tup (zG r λk=>if j=k then 1 else 0)])=cq (zX r (h+r) λj=>yU h (λi=>f i j)<|jX j):=by unfold zX;refine zC _ _ λj U=>zB rfl rfl ?_;simp[qu,X,Jj];rfl
  have zp:yW (zX r h λi j=>f j i) (zX r r λi j=>if i=j then 1 else 0)=(IA r).map λj=>D.tup [.tup (zG h λi=>f i j),.tup (zG r λk=>if j=k then 1 else 0)]:=by unfold yW zX;rw[Ox];simp
  have c1:((h:Int)+(r:Int))=((h+r:Nat):Int):=by omega
  simp only[sh]at e;rw[<-c1]at e;unfold j8 at Q R ⊢;have nl:∀T t f γ,zY T t f γ []=cq []:=λ_ _ _ _=>rfl;simp[kn,ky,jq,z7,jO,Q,R,zp,y,jk,IE,M,nl,e,eb]
 ·intro i a
  induction Y with
  |@zero v hz=>
   have:zm (λj=>f i j*v j) r%p=zm (λ_=>0) r%p:=zQ λj U=>by rw[IQ,hz j U];simp
   rw[this,zT];rfl
  |@step v u g c hg hu he H=>
   obtain⟨k,I,rfl⟩:=hg;have e1:zm (λj=>f i j*v j) r%p=zm (λj=>f i j*u j+c*(f i j*B (s+k) (h+j))) r%p:=zQ λj U=>by rw[IQ,he j U,<-IQ,Pp,Pe]
   have P:=Z (B<|s+k) (.gen ⟨s+k,by omega,rfl⟩) i a;have e3:B (s+k) i=0:=O.n4 _ _ ⋯ (by have:=o (s+k) ⋯ ⋯;omega);rw[e3]at P;rw[e1,qv,jB,Ml,H,IQ,<-P];simp
 ·
  have b2:Span p (h+r) (ef r B) (yU h (λ_=>0) v):=by
   refine(x _).mpr ((Span.sum (u:=λj=>yU h (λi=>f i j)<|jX j) v (m:=r) λj U=>.gen ⟨j,U,rfl⟩).congr λi a=>?_);rcases Lg i h with z|z
   ·simp only[qa z]
    rw[zA (g:=λj=>f i j*v j) λj _=>Ms _ _,Y i z];simp
   ·obtain⟨k,rfl⟩:∃k,i=h+k:=⟨i-h,by omega⟩
    simp only[qr];rw[z6 (f:=λj=>v j*jX j k) (i:=k) ⋯ λj _ A=>by simp[jX,A]];simp[jX]
  have co:=ZY O b2;refine(Span.sum (u:=λk j=>B (s+k)<|h+j) (λk=>yU h (λ_=>0) v<|l<|s+k) (m:=r-s) λk I=>.gen ⟨k,I,rfl⟩).congr λj U=>?_;have:=co (h+j) ⋯;rw[qr]at this;rw[this];obtain⟨d,rfl⟩:∃d,r=s+d:=⟨r-s,by omega⟩;rw[MR];have sp:∀(F:Nat->Int) (d:Nat),(∀k,k<s->F k=0)->zm F (s+d)=zm (λk=>F<|s+k) d:=by
   intro F d hF
   induction d with
   |zero=>
    show zm F s=0;rw[zA (g:=λ_=>0) hF,zT]
   |succ d H=>rw[<-RA];simp only[zm];rw[H]
  rw[sp _ d λk I=>by rw[qa (N k I)];simp]
 ·
  refine⟨λk i=>B k i,l,⟨λk I=>N k I,λk m I G=>O.mono k m I ⋯,λk I=>O.one k ⋯,λk j I U=>O.n4 k j ⋯ U,λk m I G A=>O.wa k m ⋯ ⋯ A,λk i I a=>O.m9 k i ⋯ ⋯⟩,λv=>⟨λY=>Y.le λg ⟨k,I,b⟩=>?_,λY=>Y.le λg ⟨j,U,b⟩=>?_⟩⟩
  ·subst b
   exact Span.map (n':=h) (G':=ef r λj i=>f i j) (λi=>i) (λi a=>by omega) (λg ⟨j,U,b⟩=>(Span.gen (g:=λi=>f i j) ⟨j,U,rfl⟩).congr λi a=>by rw[b];simp only[qa a])<|(x<|B k).mp (.gen ⟨k,by omega,rfl⟩)
  ·subst b
   have:=Span.map (n':=h) (G':=ef s λk i=>B k i) (λi=>i) (λi a=>by omega) (λg hZ=>by
    obtain⟨k,I,b⟩:=hZ;subst b;rcases Lg k s with z|z
    ·exact .gen ⟨k,z,rfl⟩
    ·exact .zero λi a=>by rw[O.n4 k i I (by have:=o k z I;omega)];simp) ((x<|yU h (λi=>f i j)<|jX j).mpr (.gen ⟨j,U,rfl⟩))
   exact this.congr λi a=>by rw[qa a]
theorem yL(I:Pr p)(O:h<=20)(z:w<=20)(f:UV):
 ∃q K l s,kn [.int p,j8 h w f]=cq (.own<|zX q w K)/\g9 p w q K l/\(∀v,Span p w (ef q K) v↔B3 p h w f v)/\Rk p h w (λj i=>f i j) s/\q+s=w:=ZR I ⋯ ⋯ f
end
@[simp] noncomputable def GA:=@dN.eq_1
theorem pJ{a b:Bool}(h:g5 a=g5 b):a=b:=by cases a<;>cases b<;>first|rfl|exact absurd h ⋯
noncomputable def KR(m z:Nat)(w w':UK):Prop:=m=z/\∀k,k<m->w k=w' k
instance (m m':Nat) (w w':UK):Decidable (KR m m' w w'):=inferInstanceAs (Decidable (m=m'/\∀k,k<m->w k=w' k))
theorem Ub{m z:Nat}{w w':UK}:jN m w=jN z w'↔KR m z w w':=by
 constructor
 ·intro h
  have a:=ko m w;rw[h,ko]at a;have O:m=z:=by have:=congrArg Rb a;simpa using this.symm
  subst O;refine⟨rfl,λk I=>?_⟩;have:=congrArg (λl=>l[k]?) a;simp[I]at this;exact(pJ this).symm
 ·rintro⟨rfl,h⟩
  unfold jN;rw[Lf λk I=>by rw[h k (IC.mp I)]]
theorem VQ(m w):l8 (.str<|jN m w)=da:=by refine W4 (n:=0) (by simp[deep]) ⋯ ?_;show(jN m w).cps.all (· < 0x110000)=da;rw[<-Array.all_toList,ko];simp only[Mu];intro c I;obtain⟨k,_,rfl⟩:=Lv.mp I;unfold g5;split<;>decide
section
variable{p p':Int}{m m':Nat}{w w':UK}{wd wd':UX}{T T':UW}
theorem vU:jA (zO p m w wd T)=cq (.T,[.int p,.tup<|zG (m+1) λk=>(wd k:Int),.tup (jY m w wd T)]):=rfl
theorem uC(k):jA (vk w wd T k)=cq (.T,[.str (xR<|g5<|w k),j8 (ft w wd k) (e9 w wd k) (T k)]):=rfl
theorem dc:zY (.nm 0) jw (dj (zk 0)<|zy<|.int 0) [Cell.no] (jY m w wd T)=cq ((IA m).map λk=>D.str<|xR<|g5<|w k):=by unfold jY;refine zC _ _ λk I=>zB rfl rfl ?_;simp[uC]
theorem xZ(z:m<=900):qH [zO p m w wd T]=cq (.val<|.str<|jN m w):=by
 have U:=jj;have I:m<=lim:=by omega
 have st:Vz ((IA m).map λk=>D.str<|xR<|g5<|w k)=cq ((IA m).map λk=>xR<|g5<|w k):=XT _ _;have O:((IA m).map λk=>xR<|g5<|w k).all jo=da:=by simp only[Mu];intro x a;obtain⟨k,_,rfl⟩:=Lv.mp a;unfold g5;split<;>decide
 have b:jo "" = da:=by decide +kernel
 simp only[qH,jq,z7];simp only[ZP,uG,vn,wc,qm,km,xT,wX,ql,Lk,RH,Lm,LH,IE,NT,IJ,jf,vU,IF,IU,qE,N_,n7,CI,Nat.sub_self,LS];rw[iq,UJ I,show jk 1 [] [Cell.val (zO p m w wd T)]=[Cell.no]from rfl,dc];simp only[IU,IF,st];rw[UJ ⟨by simpa using I,O,b⟩];rfl
theorem w4(z:m<=900)(O:m'<=900):kx [zO p m w wd T,zO p' m' w' wd' T']=cq (.val<|.bl<|decide<|p=p'/\KR m m' w w'):=by
 have I:=xZ (p:=p) (wd:=wd) (T:=T) (w:=w) z;have U:=xZ (p:=p') (wd:=wd') (T:=T') (w:=w') O;have d:gw (.str<|jN m w) (.str<|jN m' w')=cq (.bl<|decide<|KR m m' w w'):=by unfold gw;rw[UJ ⟨VQ m w,VQ m' w'⟩];congr 2;rw[NW];simp only[hB,Sr,beq_iff_eq,decide_eq_true_eq];exact Ub
 by_cases q:p=p'
 ·simp[kx,jq,z7,vU,q,I,U,d]
  subst q;simp[I,d]
 ·simp[kx,jq,z7,vU,q]
end
theorem gX(xs:List D)(n:Nat)(J:xs.length=n)(L:∀i (h:i<n),∃z,xs[i]'(J ▸ h)=.int z)(b9:n<=63)(k:Int)(Z:0<=k)(bb:k<100000):
 ∃m,jv [.lst xs,.int k]=cq (.val<|.int m)/\0<=m/\m<1000000007:=by
 have O:∀x:Int,XF x 48271=da:=λx=>XE _ _ ⋯ ⋯;have U:∀x:Int,XF 7 x=da:=λx=>ZO _ _ ⋯ ⋯;have Y:∀x:Int,XF 13 x=da:=λx=>ZO _ _ ⋯ ⋯;have e:∀x:Int,XF x 69621=da:=λx=>XE _ _ ⋯ ⋯;have f:XF (7*k) k=da:=XE _ _ ⋯ ⋯;have I:Cz 10 9=da:=by decide
 have b:Cz 10 30=da:=by decide
 have hl:lim=2500:=rfl;by_cases F:n=0
 ·subst F
  have g:xs=[]:=LF J;subst g;simp[jv,jq,z7,jO,O,U,Y,e,f,I,b];omega
 ·have l:0<n:=by omega
  obtain⟨i,P⟩:=Np (LU k<|show(n:Int)≠0 by omega);have r:i<n:=by have:=LB k (show(0:Int)<n by omega);omega
  obtain⟨zi,A⟩:=L i r;have T:hH n (i:Int)=cq i:=by rw[qP,UJ r]
  by_cases M:n=1
  ·subst M
   have o:i=0:=by omega
   subst o;have k1:k%1=0:=by omega
   simp[jv,jq,z7,jO,O,U,Y,e,f,I,b,J,A];omega
  ·obtain⟨z0,g⟩:=L 0 l
   have o:hH n 0=cq 0:=by have:=qP n 0;rw[UJ l]at this;exact this
   have C:(0:Int)<(n:Int)-1:=by omega
   have E:(1:Int)<(n:Int):=by omega
   have y:1<n:=by omega
   have X:(n:Int)-1<1073741824:=by omega
   have q4:(0:Int)<(n:Int):=by omega
   obtain⟨j,Q⟩:=Np (LU k<|show(n:Int)-1≠0 by omega);have u:1+j<n:=by have:=LB k C;omega
   obtain⟨zj,K⟩:=L (1+j) u;have W:hH n (1+(j:Int))=cq (1+j):=by have:=qP n<|1+j;rw[UJ u]at this;rw[<-this];congr 1
   have N:0<=k/((n:Int)-1)/\k/((n:Int)-1)<=k:=⟨Int.ediv_nonneg Z ⋯,Int.ediv_le_self _ Z⟩;obtain⟨t,R⟩:=Np N.1;by_cases B:z0%2=1
   ·obtain⟨a,G,bf⟩:∃a:Nat,(if (t:Int)<60 then (t:Int)else 60)=a/\a<=60:=by
     split
     ·exact⟨t,rfl,by omega⟩
     ·exact⟨60,rfl,by omega⟩
    have H:inR (a:Int)=da:=J3 ⋯ ⋯;simp[jv,jq,z7,jO,O,U,Y,e,f,J,l,u,E,y,g,o,C,X,B,Q,W,K,R,I,b];rw[G,UJ H];simp only[IF,qL,Mm];rw[qp a λi=>(i:Int)];have w:∀(m s:Nat) (v:Int) (c:Cell),∃p d,kW (.nm 3) (jr 2<|zI Xc (zh 2)<|zI uk (zy<|D.int 10)<|zy<|D.int 9) ((O1 s m).map λ(i:Nat)=>D.int i) [.val (.lst xs),.val<|.int k,.val<|.int v,c,.no] =
     cq (.next [.val (.lst xs),.val<|.int k,.val<|.int p,d,.no]):=by
     intro m
     induction m with
     |zero=>intro s v c;exact⟨v,c,rfl⟩
     |succ m S=>
      intro s v c;rw[Oo,Lk,qW];obtain⟨p,d,h⟩:=S (s+1) (v/10^9)<|.val<|.int s;refine⟨p,d,?_⟩;rw[<-h];simp[I]
    obtain⟨p,d,h⟩:=w a 0 zj .no;rw[<-NA]at h;rw[h];simp[I];omega
   ·simp[jv,jq,z7,jO,O,U,Y,e,f,J,E,y,q4,l,g,o,B,P,A,r,T,I,b]
    omega
theorem ur(ns:List Int)(z:ns.length<=63)(k:Int)(I:0<=k)(O:k<100000):∃m,jv [KB ns,.int k]=cq (.val<|.int m)/\0<=m/\m<1000000007:=
 gX (ns.map D.int) ns.length ⋯ (λi a=>⟨ns[i],by simp⟩) z k I O
noncomputable def vj(ns:List Int)(k:Int):Int:=match jv [KB ns,.int k]with
 |some (.val<|.int m)=>m
 |_=>0
theorem KJ(z:ns.length<=63)(I:0<=k)(O:k<100000):jv [KB ns,.int k]=cq (.val<|.int<|vj ns k)/\0<=vj ns k/\vj ns k<1000000007:=by
 obtain⟨m,h,a,b⟩:=ur ns z k I O;have e:vj ns k=m:=by unfold vj;rw[h]
 rw[e];exact⟨h,a,b⟩
noncomputable def jc(bs:List (Int×Int)):List D:=bs.map λb=>D.tup [.int b.1,.int b.2]
@[simp] theorem CD(bs):(jc bs).length=bs.length:=by simp[jc]
noncomputable def ZT(bs:List (Int×Int)):List (Int×Int):=(kT bs).map λi=>bs.getD i (0,0)
theorem Xj(bs):(ZT bs).Perm bs:=by have:=(qU bs).map λi=>bs.getD i (0,0);rw[jD]at this;exact this
noncomputable def yP(n:Int)(b:Int×Int):Prop:=0<=b.1/\b.1<=b.2/\b.2<n
section ap
variable(γ:Ctx)
@[simp] noncomputable def EF:=@GV.eq_1
@[simp] noncomputable def EH:=@Yr.eq_1
@[simp] noncomputable def EI:=@nX.eq_1
end ap
noncomputable def Ez(b:Int×Int)(r:Int):Bool:=decide (b.1<=r)&&decide (r<=b.2)
noncomputable def qD(bs:List (Int×Int))(r:Int):List Nat:=(IA bs.length).filter λi=>Ez (bs.getD i (0,0)) r
section
variable{p:Int}{h w q r:Nat}
noncomputable def app(f:UV)(w:Nat)(v:Vc):Vc:=λi=>zm (λj=>f i j*v j) w
theorem uE(I:∀j,j<w->v j%p=(u j+c*g j)%p)(i:Nat):app f w v i%p=(app f w u i+c*app f w g i)%p:=by
 unfold app;have e:zm (λj=>f i j*v j) w%p=zm (λj=>f i j*u j+c*(f i j*g j)) w%p:=zQ λj O=>by rw[IQ,I j O,<-IQ,Pp,Pe]
 rw[e,qv,jB]
theorem nG(hz:∀j,j<w->v j%p=0)(i:Nat):app f w v i%p=0:=by
 unfold app;have:zm (λj=>f i j*v j) w%p=zm (λ_=>0) w%p:=zQ λj I=>by rw[IQ,hz j I];simp
 rw[this,zT];rfl
theorem xy(I:∀j,j<w->v j%p=u j%p)(i:Nat):app f w v i%p=app f w u i%p:=by unfold app;exact zQ λj O=>by rw[IQ,I j O,<-IQ]
theorem aZ(O:g9 p (h+w) r B l)(hs:s<=r)(L:∀k,k<s->l k<h)(J:∀k,s<=k->k<r->h<=l k):
 g9 p w (r-s) (λk j=>B (s+k)<|h+j) (λk=>l (s+k)-h)/\∀v,Span p w (ef (r-s) λk j=>B (s+k)<|h+j) v↔Span p (h+w) (ef r B) (yU h (λ_=>0) v):=by
 refine⟨{
  lt:=λk I=>by have:=O.lt (s+k) ⋯;have:=J (s+k) ⋯ ⋯;omega
  mono:=λk m I t=>by have:=O.mono (s+k) (s+m) ⋯ ⋯;have:=J (s+k) ⋯ ⋯;omega
  one:=λk I=>by have:=J (s+k) ⋯ ⋯;rw[show h+(l (s+k)-h)=l (s+k)by omega];exact O.one _ ⋯
  n4:=λk j I o=>O.n4 _ _ ⋯ ⋯
  wa:=λk m I t A=>by have:=J (s+m) ⋯ ⋯;rw[show h+(l (s+m)-h)=l (s+m)by omega];exact O.wa _ _ ⋯ ⋯ ⋯
  m9:=λk i I a=>O.m9 _ _ ⋯ ⋯},λv=>⟨λU=>?_,λU=>?_⟩⟩
 ·induction U with
  | @zero v x=>
   refine .zero λi a=>?_;rcases Lg i h with z|z
   ·rw[qa z];simp
   ·obtain⟨k,rfl⟩:∃k,i=h+k:=⟨i-h,by omega⟩
    rw[qr];exact x k ⋯
  | @step v u g c n C f Y=>
   obtain⟨k,I,rfl⟩:=n;refine .step (g:=B<|s+k) (c:=c) ⟨s+k,by omega,rfl⟩ Y λi a=>?_;rcases Lg i h with z|z
   ·rw[qa z,qa z,O.n4 (s+k) i ⋯ (by have:=J (s+k) ⋯ ⋯;omega)];simp
   ·obtain⟨j,rfl⟩:∃k,i=h+k:=⟨i-h,by omega⟩
    rw[qr,qr];exact f j ⋯
 ·have b:=ZY O U
  refine(Span.sum (u:=λk j=>B (s+k)<|h+j) (λk=>yU h (λ_=>0) v<|l<|s+k) (m:=r-s) λk I=>.gen ⟨k,I,rfl⟩).congr λj o=>?_;have:=b (h+j) ⋯;rw[qr]at this;rw[this];obtain⟨d,rfl⟩:∃d,r=s+d:=⟨r-s,by omega⟩;rw[MR];have y:∀(F:Nat->Int) (d:Nat),(∀k,k<s->F k=0)->zm F (s+d)=zm (λk=>F<|s+k) d:=by
   intro F d e
   induction d with
   |zero=>
    show zm F s=0;rw[zA (g:=λ_=>0) e,zT]
   |succ d Y=>rw[<-RA];simp only[zm];rw[Y]
  rw[y _ d λk I=>by rw[qa (L k I)];simp]
end
section
variable{p:Int}{h w q:Nat}
noncomputable def xj(h w:Nat)(f:UV)(g:Nat->Vc):Nat->Vc:=λm=>if m<w then yU h (λi=>f i m) (jX m)else yU h (g<|m-w) (λ_=>0)
theorem gO(f:UV)(g:Nat->Vc):zX w (h+w) (λj=>yU h (λi=>f i j)<|jX j)++zX q (h+w) (λk=>yU h (g k) λ_=>0)=zX (w+q) (h+w) (xj h w f g):=by
 unfold zX;rw[Oi,LQ,Ly];congr 1
 ·refine Lf λm a=>?_
  unfold xj;rw[UJ (IC.mp a)]
 ·refine Lf λm a=>?_
  simp only[PR];unfold xj;rw[UY ⋯,MR]
theorem wV(f:UV)(I:j<w)(i:Nat):app f w (jX j) i=f i j:=by unfold app;rw[z6 (f:=λk=>f i k*jX j k) I λk _ O=>by simp[jX,LD O]];simp[jX]
theorem fv(hz:Span p (h+w) (ef (w+q)<|xj h w f g) z):Span p h (ef q g) λi=>z i-app f w (λj=>z<|h+j) i:=by
 induction hz with
 |@zero z hz=>
  refine .zero λi a=>?_;rw[MT,hz i ⋯,nG (p:=p) (λj k=>hz (h+j) ⋯) i];simp
 | @step z u l c e o U Y=>
  obtain⟨m,n,rfl⟩:=e;have d:=λi=>uE (p:=p) (w:=w) (f:=f) (u:=λj=>u<|h+j) (g:=λj=>xj h w f g m<|h+j) (v:=λj=>z<|h+j) (c:=c) (λj k=>U (h+j) ⋯) i;have b:∀i,i<h->(z i-app f w (λj=>z<|h+j) i)%p=((u i-app f w (λj=>u<|h+j) i)+c*(xj h w f g m i-app f w (λj=>xj h w f g m<|h+j) i))%p:=λi a=>by rw[MT,U i ⋯,d i,<-MT];congr 1;rw[Int.mul_sub];omega
  rcases Lg m w with I|I
  ·refine Y.congr λi a=>?_
   rw[b i a];have t:app f w (λj=>xj h w f g m<|h+j) i=f i m:=by
    have:(λj=>xj h w f g m<|h+j)=jX m:=by funext j;unfold xj;rw[UJ I,qr]
    rw[this,wV f I]
   have O:xj h w f g m i=f i m:=by unfold xj;rw[UJ I,qa a]
   rw[t,O];simp
  ·refine .step (g:=g<|m-w) (c:=c) ⟨m-w,by omega,rfl⟩ Y λi a=>?_
   rw[b i a];have t:app f w (λj=>xj h w f g m<|h+j) i=0:=by
    have:(λj=>xj h w f g m<|h+j)=λ_=>0:=by funext j;unfold xj;rw[UY ⋯,qr]
    rw[this];unfold app;simp[zT]
   have O:xj h w f g m i=g (m-w) i:=by unfold xj;rw[UY ⋯,qa a]
   rw[t,O];simp
theorem uc(I:Span p h (ef q g) y):Span p (h+w) (ef (w+q)<|xj h w f g) (yU h y λ_=>0):=by
 induction I with
 | @zero y b=>
  refine .zero λi a=>?_;rcases Lg i h with z|z
  ·rw[qa z];exact b i z
  ·obtain⟨k,rfl⟩:∃k,i=h+k:=⟨i-h,by omega⟩
   rw[qr];simp
 | @step y u d c O m U Y=>
  obtain⟨k,l,rfl⟩:=O;refine .step (g:=xj h w f g<|w+k) (c:=c) ⟨w+k,by omega,rfl⟩ Y λi a=>?_;have e:xj h w f g (w+k)=yU h (g k) λ_=>0:=by unfold xj;rw[UY ⋯,MR]
  rw[e];rcases Lg i h with z|z
  ·rw[qa z,qa z,qa z];exact U i z
  ·obtain⟨j,rfl⟩:∃k,i=h+k:=⟨i-h,by omega⟩
   rw[qr,qr,qr];simp
theorem KU(hp:Pr p)(hh:h<=20)(hw:w<=20)(hq:q<=100)(f:UV)(g:Nat->Vc):
 ∃r B l,ky [.int p,j8 h w f,.lst (zX q h g)]=cq (.own<|zX r w B)/\g9 p w r B l/\∀v,Span p w (ef r B) v↔Span p h (ef q g) (app f w v):=by
 have hl:=jj;have S:h<=lim:=by omega
 have I:w<=lim:=by omega
 have U:h+w<=lim:=by omega
 have W:q<=lim:=by omega
 have Y:w+q<=lim:=by omega
 obtain⟨r,B,l,e,O,F⟩:=vx hp (show h+w<=100 by omega) Y .L<|xj h w f g;have X:r<=h+w:=VR O.mono O.lt;obtain⟨s,t,A,C⟩:=Jd h O.mono;have K:=QJ O ⋯ t A C;obtain⟨H,Q⟩:=aZ O t A C;refine⟨r-s,_,_,?_,H,λv=>(Q v).trans ((F _).trans ⟨λx=>?_,λx=>?_⟩)⟩
 ·have y:=yv f S I
  have E:=yu (n:=w) I;have d:zY (.tp [0,1]) jw (zI qu (zh 0)<|zh 1) [Cell.no,Cell.no] ((IA w).map λj=>D.tup [.tup (zG h λi=>f i j),.tup (zG w λk=>if j=k then 1 else 0)])=cq (zX w (h+w) λj=>yU h (λi=>f i j)<|jX j):=by unfold zX;refine zC _ _ λj o=>zB rfl rfl ?_;simp[qu,U,Jj];rfl
  have R:yW (zX w h λi j=>f j i) (zX w w λi j=>if i=j then 1 else 0)=(IA w).map λj=>D.tup [.tup (zG h λi=>f i j),.tup (zG w λk=>if j=k then 1 else 0)]:=by unfold yW zX;rw[Ox];simp
  have J:inR (w:Int)=da:=tU I;have zr:yw (.tup [.int 0]) (.int w)=cq (.tup<|zG w λ_=>0):=by
   show(if [D.int 0].length*(w:Int).toNat<=lim/\inR (w:Int)=da then cq (D.tup (IE (w:Int).toNat [D.int 0]).flatten)else none)=_;rw[UJ ⟨by simpa using I,J⟩];congr 2;rw[Mm];clear d R E y K H Q F O e J Y U I hw hq A C t X
   induction w with
   |zero=>rfl
   |succ w ih=>rw[List.replicate_succ',List.flatten_append,ih];unfold zG;rw[MA,LQ];rfl
  have M:zY (.nm 0) jw (zI qu (zh 0)<|zI yw (xF<|zb (zy<|.int 0) zF)<|dj (zk 1)<|zy<|.int 1) [Cell.no,Cell.val (j8 h w f)] (zX q h g)=cq (zX q (h+w) λk=>yU h (g k) λ_=>0):=by unfold zX;refine zC _ _ λk P=>zB rfl rfl ?_;have sq:jA (j8 h w f)=cq (.T,[.int h,.int w,.tup (zX h w f)]):=rfl;simp[sq,zr,qu,U,Jj]
  have c1:((h:Int)+(w:Int))=((h+w:Nat):Int):=by omega
  simp only[sh]at e;rw[<-c1,<-gO]at e;have sq:jA (j8 h w f)=cq (.T,[.int h,.int w,.tup (zX h w f)]):=rfl;unfold j8 at y E M ⊢;simp[ky,jq,z7,jO,y,E,R,I,W,Y,jk,kf,IE,d,M,e,K]
 ·have:=fv x
  refine(this.smul (-1)).congr λi N=>?_;congr 1;show app f w v i = -1*(yU h (λ_=>0) v i-app f w (λj=>yU h (λ_=>0) v<|h+j) i);rw[qa N,show(λj=>yU h (λ_=>0) v<|h+j)=v from funext λj=>qr j];omega
 ·have a:=Span.sum (p:=p) (n:=h+w) (G:=ef (w+q)<|xj h w f g) (u:=λj=>xj h w f g j) v (m:=w) λj o=>.gen ⟨j,by omega,rfl⟩
  have b:=uc (w:=w) (f:=f) x;refine(b.add a (-1)).congr λi N=>?_;congr 1;rcases Lg i h with z|z
  ·rw[qa z,qa z]
   have:zm (λk=>v k*xj h w f g k i) w=app f w v i:=by unfold app;exact zA λk P=>by unfold xj;rw[UJ P,qa z,Ms]
   rw[this];omega
  ·obtain⟨k,rfl⟩:∃k,i=h+k:=⟨i-h,by omega⟩
   rw[qr,qr];have:zm (λj=>v j*xj h w f g j (h+k)) w=v k:=by rw[z6 (f:=λj=>v j*xj h w f g j (h+k)) (i:=k) ⋯ λj o Z=>by unfold xj;rw[UJ o,qr];simp[jX,Z]];unfold xj;rw[UJ (show k<w by omega),qr];simp[jX]
   rw[this];simp
end
section
variable{p p':Int}{m m':Nat}{w w':UK}{wd wd':UX}{T T':UW}
theorem pG(l z:List D):(yW l z).length=min l.length z.length:=by simp[yW]
theorem Vr(z:m<=900)(I:m'<=900)(h:¬(p=p'/\KR m m' w w')):jR [zO p m w wd T,zO p' m' w' wd' T']=cq ((("Unlike" : Str),none):Xn):=by have a:=w4 (p:=p) (p':=p') (w:=w) (w':=w') (wd:=wd) (wd':=wd') (T:=T) (T':=T') z I;rw[decide_eq_false h]at a;simp[jR,WO,z7,nM,wb,pH,a,IE]
theorem yp(z:m<=900):jR [zO p m w wd T,zO p m w wd' T']=none/\jU [zO p m w wd T,zO p m w wd' T']=cq (.val .d7):=by
 have a:=w4 (p:=p) (p':=p) (w:=w) (w':=w) (wd:=wd) (wd':=wd') (T:=T) (T':=T') z z;rw[decide_eq_true ⟨rfl,rfl,λ_ _=>rfl⟩]at a;constructor
 ·simp[jR,WO,z7,nM,wb,pH,D5,a,IE]
 ·simp[jU,jq,z7,a,IE]
end
@[simp] noncomputable def CQ:=@dR.eq_1
section
variable{p:Int}{m:Nat}{w:UK}{wd:UX}{T:UW}
theorem yZ:jA (zO p m w wd T)=cq (.T,[.int p,.tup<|zG (m+1) λk=>(wd k:Int),.tup (jY m w wd T)]):=rfl
end
noncomputable def rn(i j:Nat):Int:=if i=j then 1 else 0
noncomputable def Ja(p:Int)(n:Nat)(f g:UV):Prop:=∀i j,i<n->j<n->zm (λk=>f i k*g k j) n%p=rn i j%p
@[simp] theorem uR(r):kf (.nest r)=.no:=rfl
@[simp] theorem BH(r):kf (.own r)=.no:=rfl
@[simp] theorem BG(d):kf (.val d)=.val d:=rfl
@[simp] theorem Ek:kf .no=.no:=rfl
section
variable{p:Int}{n:Nat}
structure Pair(p:Int)(n:Nat)(f g:UV):Prop where
 bf:∀i j,i<n->j<n->0<=f i j/\f i j<p
 bg:∀i j,i<n->j<n->0<=g i j/\g i j<p
 fg:Ja p n f g
 gf:Ja p n g f
end
noncomputable def zZ(w:UK)(k:Nat):Nat:=if w k then k+1 else k
noncomputable def z9(w:UK)(k:Nat):Nat:=if w k then k else k+1
theorem vS(w:UK)(k:Nat):jT [.int k,.str (xR<|g5<|w k)]=cq (.val<|.int (zZ w k:Nat)):=by have q:=J7<|w k;cases h:w k<;>rw[h]at q<;>simp[jT,jq,z7,zZ,q,h]
theorem aP(w:UK)(k:Nat):k8 [.int k,.str (xR<|g5<|w k)]=cq (.val<|.int (z9 w k:Nat)):=by have q:=J7<|w k;cases h:w k<;>rw[h]at q<;>simp[k8,jq,z7,z9,q,h]
noncomputable def j3(m:Nat)(wd:UX)(f:UW):List D:=(IA m).map λk=>j8 (wd k) (wd k)<|f k
@[simp] theorem Af(m wd f):(j3 m wd f).length=m:=by simp[j3]
@[simp] theorem Ee(wd f)(h:k<(j3 m wd f).length):(j3 m wd f)[k]=j8 (wd k) (wd k) (f k):=by simp[j3]
noncomputable def iS(p:Int)(w:UK)(wd:UX)(f g T:UW)(k i j:Nat):Int:=
 zm (λb=>g (zZ w k) b j*(zm (λa=>T k a b*f (z9 w k) i a) (wd<|z9 w k)%p)) (wd<|zZ w k)%p
@[simp] theorem CS(γ:Ctx)(f):Yr f γ=(f γ).bind λd=>match d with
 |.str z=>if jo z=da then cq (xw<|kg z)else none
 |_=>none:=rfl
@[simp] theorem EL(γ:Ctx)(f g):X4 f g γ=(f γ).bind λd=>(g γ).bind λe=>match d,e with
 |.str x,.str y=>if jo x=da/\jo y=da then cq (.str<|x++y)else none
 |_,_=>none:=rfl
theorem XA(m:Nat)(w:UK):xw (kg<|jN m w)=(IA m).map λ(k:Nat)=>D.tup [.int k,.str (xR<|g5<|w k)]:=by
 have e:kg (jN m w)=(IA m).map λk=>D.str (xR<|g5<|w k):=by unfold kg;rw[ko,Ly];rfl
 unfold xw;rw[e];simp only[Lc,Md];refine Lf λk I=>?_;simp[IC.mp I]
noncomputable def pr(a b:Nat):D:=.tup [.int a,.int b]
@[simp] theorem GY(a b):jA (pr a b)=cq (.T,[.int (a:Int),.int (b:Int)]):=rfl
theorem VV(a c:Nat):(if a<c then (c:Int)else (a:Int))=((max a c:Nat):Int):=by
 by_cases h:c>a
 ·rw[UJ h,Nat.max_eq_right ⋯]
 ·rw[UY h,Nat.max_eq_left ⋯]
theorem VU(a c:Nat):(if c<a then (c:Int)else (a:Int))=((min a c:Nat):Int):=by
 by_cases h:c<a
 ·rw[UJ h,Nat.min_eq_right ⋯]
 ·rw[UY h,PH ⋯]
noncomputable def C1(w:UK)(a c:Nat):Bool:=decide (a=c) || (w (max a c-1)==decide (a<c))
noncomputable def C6(w:UK)(b d:Nat):Bool:=decide (b=d) || (w (min b d)==decide (b<d))
section
variable{m a b c d:Nat}{w:UK}
theorem iD(L:m<=5)(z:a<=m)(J:c<=m):x9 [.str (jN m w),pr a b,pr c d]=cq (.val<|.bl<|C1 w a c):=by
 by_cases q:a=c
 ·subst q
  simp[x9,jq,z7,jO,C1]
 ·have I:¬((a:Int)=(c:Int)):=by omega
  have e:qS (zh 0) (zI cU (lu (dj (zk 1)<|zy<|.int 0)<|dj (zk 2)<|zy<|.int 0)<|zy<|.int 1) [Cell.val (.str<|jN m w),Cell.val<|pr a b,Cell.val (pr c d)]=cq (.str<|xR<|g5<|w<|max a c-1):=by refine wm w ⋯ ⋯ _ _ _ rfl ?_;simp[VV];omega
  simp only[x9,jq,z7,jO,IE,Lm,LH];simp[-vF,I,e];by_cases l:a<c
  ·have f:(a:Int)<c:=by omega
   simp[l,pj,C1,q]
  ·simp[l,J7,C1,q]
theorem cQ(L:m<=5)(z:b<=m)(J:d<=m):xA [.str (jN m w),pr a b,pr c d]=cq (.val<|.bl<|C6 w b d):=by
 by_cases q:b=d
 ·subst q
  simp[xA,jq,z7,jO,C6]
 ·have I:¬((b:Int)=(d:Int)):=by omega
  have f:qS (zh 0) (dN (dj (zk 1)<|zy<|.int 1)<|dj (zk 2)<|zy<|.int 1) [Cell.val (.str<|jN m w),Cell.val<|pr a b,Cell.val (pr c d)]=cq (.str<|xR<|g5<|w<|min b d):=by refine wm w ⋯ ⋯ _ _ _ rfl ?_;simp[VU]
  simp only[xA,jq,z7,jO,IE,Lm,LH];simp[-vF,I,f];by_cases l:d<b
  ·have e:¬b<d:=by omega
   simp[l,e,J7,C6,q]
  ·have e:b<d:=by omega
   simp[l,e,pj,C6,q]
noncomputable def r9(w:UK)(a b c d:Nat):Bool:=decide (max a c<=min b d)&&(C1 w a c&&C6 w b d)
theorem KY(z:m<=5)(J:a<=m)(O:b<=m)(U:c<=m)(L:d<=m):kz [.str (jN m w),pr a b,pr c d]=cq (.val<|.int<|if r9 w a b c d=da then 1 else 0):=by
 have e:=iD (b:=b) (d:=d) (w:=w) z J U;have Y:=cQ (a:=a) (c:=c) (w:=w) z O L;simp only[kz,jq,z7,jO,IE,Lm,LH];by_cases q:max a c<=min b d
 ·have I:¬((min b d:Nat):Int)<((max a c:Nat):Int):=by omega
  simp[VV,VU,I,e,r9,q];cases h1:C1 w a c
  ·simp[h1]
  ·simp[h1,Y]
   cases h2:C6 w b d<;>simp[h2]
 ·have I:((min b d:Nat):Int)<((max a c:Nat):Int):=by omega
  simp[VV,VU,I,r9,q]
theorem Wm(z:m<=5){k:Nat}(I:k<m):vH [.str (jN m w),.int k]=cq (.val<|.tup [.int ((zZ w k:Nat):Int),.int ((z9 w k:Nat):Int)]):=by have a:qS (zh 0) (zh 1) [Cell.val (.str<|jN m w),Cell.val (.int k)]=cq (.str<|xR<|g5<|w k):=wm w ⋯ I _ _ _ rfl rfl;simp only[vH,jq,z7,jO,IE,Lm,LH];simp[-vF,a,J7];cases h:w k<;>simp[h,zZ,z9]
end
theorem uY{c:Int}(z:0<=c){m:Nat}(J:m<=5):∃w,xU [.int c,.int (1+(m:Int))]=cq (.val<|.str<|jN m w):=by
 have e:=jj;have I:m<=lim:=by omega
 refine⟨λk=>decide (c/2^k%2=1),?_⟩;have a:zY (.nm 0) jw (qS (zy (.str "rl")) (zI yT (zI Xc (zh 1) (dj (jz (jH (zb (zy (.int 1)) (zb (zy (.int 2)) (zb (zy (.int 4)) (zb (zy (.int 8)) (zb (zy (.int 16)) zF))))))) (zh 0))) (zy (.int 2)))) [Cell.no,Cell.val (.int c)] ((IA m).map λi:Nat=>D.int (i:Int)) =
  cq ((IA m).map λ(k:Nat)=>D.str<|xR<|g5<|decide<|c/2^k%2=1):=by
  refine zC _ _ λk O=>zB rfl rfl ?_;have O:=IC.mp O;have U:zI yT (zI Xc (zh 1)<|dj (jz<|jH<|zb (zy<|.int 1)<|zb (zy<|.int 2)<|zb (zy<|.int 4)<|zb (zy<|.int 8)<|zb (zy<|.int 16) zF)<|zh 0) (zy<|.int 2) [Cell.val (.int k),Cell.val (.int c)]=cq (.int<|c/2^k%2):=by
   have Y:k=0\/k=1\/k=2\/k=3\/k=4:=by omega
   rcases Y with rfl|rfl|rfl|rfl|rfl<;>simp[jA,hH]
  show qS _ _ [Cell.val (.int k),Cell.val (.int c)]=_;rw[vF,U];have q:c/2^k%2=0\/c/2^k%2=1:=by omega
  rcases q with q|q
  ·rw[q];rfl
  ·rw[q];rfl
 have all1:((IA m).map λ(k:Nat)=>xR<|g5<|decide<|c/2^k%2=1).all jo=da:=by
  rw[List.all_map];exact Mu.mpr λk _=>by show jo (xR _)=da;rfl
 have d:jo ("" : Str)=da:=rfl;have b:(1:Int)+(m:Int)-1=(m:Int):=by omega
 simp[xU,jq,z7,jO,b,I,qL,jk,kf,IE];rw[qp m λi=>(i:Int)];rw[a];simp only[IU,IF,PR];rw[XT];simp only[IF];rw[UJ ⟨by simpa using I,Mu.mp all1,d⟩];rfl
theorem kM(ds:List D):jA (.lst ds)=cq (.L,ds):=rfl
theorem qA(ds:List D):jA (.tup ds)=cq (.T,ds):=rfl
theorem X6(s:Nat)(f:Nat->α):(IA<|s+1).map f=(IA s).map f++[f s]:=by rw[MA,LQ];rfl
theorem xv(w:UK)(wd:UX)(k:Nat):wd (z9 w k)=ft w wd k:=by unfold z9 ft;split<;>rfl
theorem qO(w:UK)(wd:UX)(k:Nat):wd (zZ w k)=e9 w wd k:=by unfold zZ e9;split<;>rfl
theorem KA{w:UK}{k m:Nat}(h:k<m):z9 w k<m+1:=by unfold z9;split<;>omega
theorem KM{w:UK}{k m:Nat}(h:k<m):zZ w k<m+1:=by unfold zZ;split<;>omega
theorem iu(G F H)(γ:Ctx):nM G F H γ=match G γ with
 |some c=>cq c
 |none=>(F γ).bind λI=>match I with
  |.next a=>H a
  |_=>none:=rfl
theorem pD(k G H)(γ:Ctx):wb k G H γ=(k γ).bind λb=>if b=da then G γ else H γ:=rfl
end DL
namespace DL
open PySem L2 PySem.W PyProof.Rows
noncomputable def md(x y:Int×Int):Prop:=wJ y x=di
theorem wL(x):md x x:=by unfold md wJ;simp
theorem Kq:md x y↔x.1<y.1\/(x.1=y.1/\x.2<=y.2):=by
 unfold md wJ;by_cases h:y.1=x.1
 ·rw[UJ h,decide_eq_false_iff_not];omega
 ·rw[UY h,decide_eq_false_iff_not];omega
theorem fN:wJ x y=da↔x.1<y.1\/(x.1=y.1/\x.2<y.2):=by
 unfold wJ;by_cases h:x.1=y.1
 ·rw[UJ h,decide_eq_true_iff];omega
 ·rw[UY h,decide_eq_true_iff];omega
theorem wK(a:md x y)(b:md y z):md x z:=by rw[Kq]at *;omega
theorem wM(a:wJ x y=da):md x y:=by rw[fN]at a;rw[Kq];omega
theorem BK(a:wJ x y=da)(b:md y z):wJ x z=da:=by rw[fN]at *;rw[Kq]at b;omega
theorem Kr(a:md x y)(b:md y x):x=y:=by rw[Kq]at *;obtain⟨d,I⟩:=x;obtain⟨O,U⟩:=y;simp only[Prod.mk.injEq]at *;omega
section
variable(key:Nat->Int×Int)
noncomputable def vA(p:Array Nat)(i:Nat):Int×Int:=key<|p.getD i 0
noncomputable def i8(i j:Nat):Bool:=wJ (key i)<|key j
noncomputable def u9(p:Array Nat)(n:Nat):Prop:=∀i j,i<=j->j<n->md (vA key p i) (vA key p j)
noncomputable def Dec(p:Array Nat)(n:Nat):Prop:=∀i j,i<=j->j<n->md (vA key p j) (vA key p i)
variable{key}
theorem yf(f:α->KasT β):∀t:KasT α,ku lt (t.bind f)=ku lt (f<|ku lt t)
 |.ret a=>rfl
 |.ask i j k=>yf f<|k<|lt i j
theorem yB(p:Array Nat)(i j):(kas_rev p i j).size=p.size:=mirror_size _ _ _ _
theorem ER(p:Array Nat)(i:Nat):vA key p i=key (p[i]?.getD 0):=by unfold vA;rw[Nu]
theorem df(I:j<=p.size)(k:Nat):vA key (kas_rev p i j) k=if i<=k/\k<j then vA key p (i+j-1-k)else vA key p k:=by have:=getElem?_mirror_all (xs:=p) (i:=i) I k;unfold vA kas_rev;rw[Nu,this];split<;>rw[Nu]
theorem Jv(O:j<=p.size)(I:∀k,i<=k->k<j->vA key p k=vA key p (j-1))(k:Nat):vA key (kas_rev p i j) k=vA key p k:=by
 rw[df O];split
 ·rename_i h
  rw[I _ ⋯ ⋯,I k h.1 h.2]
 ·rfl
theorem nO(I:k<p.size)(O:l<=k)(i:Nat):vA key (bubble p k<|k-l) i=if i=l then vA key p k else if l<i/\i<=k then vA key p (i-1)else vA key p i:=by
 have:=getElem?_bubble (xs:=p) I (k-l) ⋯ i;rw[show k-(k-l)=l by omega]at this;simp only[ER];rw[this];split
 ·rfl
 ·split<;>rfl
theorem iY(z:1<=n)(hs:u9 key p n)(h:md (vA key p<|n-1) (vA key p n)):u9 key p (n+1):=λi j I U=>by
 by_cases e:j=n
 ·subst e
  by_cases O:i=j
  ·subst O;exact wL _
  ·exact wK (hs i (j-1) ⋯ ⋯) h
 ·exact hs i j I ⋯
theorem Jm(z:1<=n)(hs:Dec key p n)(h:md (vA key p n) (vA key p<|n-1)):Dec key p (n+1):=λi j I U=>by
 by_cases e:j=n
 ·subst e
  by_cases O:i=j
  ·subst O;exact wL _
  ·exact wK h<|hs i (j-1) ⋯ ⋯
 ·exact hs i j I ⋯
theorem ip(p:Array Nat):∀(f n:Nat),1<=n->u9 key p n->n<=ku (i8 key) (kas_asc p f n)/\ku (i8 key) (kas_asc p f n)<=n+f/\u9 key p (ku (i8 key)<|kas_asc p f n)/\(ku (i8 key) (kas_asc p f n)=n+f\/wJ (vA key p<|ku (i8 key)<|kas_asc p f n) (vA key p<|ku (i8 key) (kas_asc p f n)-1)=da)
 |0,n,hn,hs=>⟨II _,II _,hs,.inl rfl⟩
 | f+1,n,hn,hs=>by
  have e:ku (i8 key) (kas_asc p (f+1) n)=ku (i8 key) (if wJ (vA key p n) (vA key p<|n-1)=da then .ret n else kas_asc p f (n+1)):=rfl;rw[e];by_cases c:wJ (vA key p n) (vA key p<|n-1)=da
  ·rw[UJ c]
   exact⟨II _,by show n<=n+(f+1);omega,hs,.inr c⟩
  ·rw[UY c]
   obtain⟨U,Y,I,O⟩:=ip p f (n+1) ⋯ (iY hn hs<|by unfold md;simpa using c);exact⟨by omega,by omega,I,O.imp (λh=>by omega) id⟩
noncomputable def R8(key:Nat->Int×Int)(p:Array Nat)(n q:Nat):Prop:=q+1<=n/\∀i,n-(q+1)<=i->i<n->vA key p i=vA key p (n-1)
theorem Wf(p:Array Nat)(z:1<=n):R8 key p n 0:=⟨z,λi a b=>by rw[show i=n-1 by omega]⟩
theorem KC:∀(f:Nat) (p:Array Nat) (n q:Nat),Dec key p n->R8 key p n q->n+f<=p.size->
 ∃p' n' I,ku (i8 key) (kas_desc f p n q)=(p',n',I)/\p'.size=p.size/\n<=n'/\n'<=n+f/\Dec key p' n'/\R8 key p' n' I
 |0,p,n,q,hd,hb,_=>⟨p,n,q,rfl,rfl,II _,II _,hd,hb⟩
 | f+1,p,n,q,hd,hb,hs=>by
  have b:1<=n:=by have:=hb.1;omega
  have e:ku (i8 key) (kas_desc (f+1) p n q)=ku (i8 key) (if wJ (vA key p n) (vA key p<|n-1)=da then (if q>0 then kas_desc f (kas_rev p (n-(q+1)) n) (n+1) 0 else kas_desc f p (n+1) 0)
   else .ask (p.getD (n-1) 0) (p.getD n 0) λd=>if d=da then .ret (p,n,q)else kas_desc f p (n+1) (q+1)):=rfl
  rw[e];by_cases c:wJ (vA key p n) (vA key p<|n-1)=da
  ·rw[UJ c]
   by_cases l:q>0
   ·rw[UJ l]
    have k:=Jv (key:=key) (p:=p) (i:=n-(q+1)) (j:=n) ⋯ hb.2;have o:Dec key (kas_rev p (n-(q+1)) n) (n+1):=λi j r w=>by rw[k,k];exact Jm b hd (wM c) i j r w
    obtain⟨p',n',I,a,O,g,h,U,Y⟩:=KC f (kas_rev p (n-(q+1)) n) (n+1) 0 o (Wf _ ⋯) (by rw[yB];omega);exact⟨p',n',I,a,by rw[O,yB],by omega,by omega,U,Y⟩
   ·rw[UY l]
    obtain⟨p',n',I,a,O,g,h,U,Y⟩:=KC f p (n+1) 0 (Jm b hd<|wM c) (Wf _ ⋯) ⋯;exact⟨p',n',I,a,O,by omega,by omega,U,Y⟩
  ·rw[UY c]
   have t:ku (i8 key) (.ask (p.getD (n-1) 0) (p.getD n 0) λd=>if d=da then .ret (p,n,q)else kas_desc f p (n+1) (q+1))=ku (i8 key) (if wJ (vA key p<|n-1) (vA key p n)=da then .ret (p,n,q)else kas_desc f p (n+1) (q+1)):=rfl;rw[t];by_cases d:wJ (vA key p<|n-1) (vA key p n)=da
   ·rw[UJ d]
    exact⟨p,n,q,rfl,rfl,II _,by omega,hd,hb⟩
   ·rw[UY d]
    have x:md (vA key p<|n-1) (vA key p n):=by unfold md;simpa using c
    have m:md (vA key p n) (vA key p<|n-1):=by unfold md;simpa using d
    have eq:=Kr x m;have s:R8 key p (n+1) (q+1):=⟨by have:=hb.1;omega,λi y z=>by
     rw[Nat.add_sub_cancel];by_cases u:i=n
     ·rw[u]
     ·rw[hb.2 i ⋯ ⋯,eq]⟩
    obtain⟨p',n',I,a,O,g,h,U,Y⟩:=KC f p (n+1) (q+1) (Jm b hd m) s ⋯;exact⟨p',n',I,a,O,by omega,by omega,U,Y⟩
noncomputable def iF(key:Nat->Int×Int)(z nrem:Nat)(r:Nat×Array Nat):Prop:=1<=r.1/\r.1<=nrem/\r.2.size=z/\u9 key r.2 r.1
theorem WD(J:1<=n)(U:n<=nrem)(hs:nrem<=p.size)(z:Dec key p n):iF key p.size nrem (ku (i8 key)<|kas_tail3 n nrem p):=by
 have I:u9 key (kas_rev p 0 n) n:=λi j Y d=>by rw[df ⋯,df ⋯,UJ ⟨by omega,by omega⟩,UJ ⟨by omega,by omega⟩];exact z _ _ ⋯ ⋯
 obtain⟨a,b,O,_⟩:=ip (kas_rev p 0 n) (nrem-n) n J I;unfold kas_tail3;rw[yf];exact⟨by show 1<=ku _ _;omega,by show ku _ _<=nrem;omega,yB _ _ _,O⟩
theorem fm(J:1<=n)(L:n<nrem)(hs:nrem<=p.size)(U:∀i,i<n->vA key p i=vA key p (n-1))(z:wJ (vA key p n) (vA key p<|n-1)=da):iF key p.size nrem (ku (i8 key)<|kas_descPart n nrem p):=by
 have k:Dec key p n:=λi j Y O=>by rw[U i ⋯,U j O];exact wL _
 obtain⟨b,a,I,g,d,l,m,e,h⟩:=KC (nrem-(n+1)) p (n+1) 0 (Jm J k<|wM z) (Wf _ ⋯) ⋯;unfold kas_descPart;rw[yf,g];show iF key p.size nrem (ku (i8 key)<|if I>0 then kas_tail3 a nrem (kas_rev b (a-(I+1)) a)else kas_tail3 a nrem b);split
 ·have f:=Jv (key:=key) (p:=b) (i:=a-(I+1)) (j:=a) ⋯ h.2
  have:=WD (p:=kas_rev b (a-(I+1)) a) (n:=a) (nrem:=nrem) ⋯ ⋯ (by rw[yB];omega) (λi j Y O=>by rw[f,f];exact e i j Y O);rw[yB,d]at this;exact this
 ·have:=WD (p:=b) (n:=a) (nrem:=nrem) ⋯ ⋯ ⋯ e
  rw[d]at this;exact this
theorem nB(z:1<=nrem)(hs:nrem<=p.size):iF key p.size nrem (ku (i8 key)<|kas_count nrem p):=by
 have g:u9 key p 1:=λi j o s=>by rw[show i=j by omega];exact wL _
 obtain⟨I,f,O,Y⟩:=ip p (nrem-1) 1 (II _) g;unfold kas_count;rw[yf];generalize ku (i8 key) (kas_asc p (nrem-1) 1)=n at I f O Y;show iF key p.size nrem (ku (i8 key)<|if (n==nrem)=da then .ret (n,p)else if n>1 then .ask (p.getD 0 0) (p.getD (n-1) 0) λc=>if c=da then .ret (n,p)else kas_descPart n nrem (kas_rev p 0 n)else kas_descPart n nrem p);split
 ·rename_i h
  have:=eq_of_beq h;exact⟨I,by show n<=nrem;omega,rfl,O⟩
 ·rename_i h
  have r:n≠nrem:=λe=>h (by rw[e];exact beq_self_eq_true _);have b:wJ (vA key p n) (vA key p<|n-1)=da:=Y.resolve_left ⋯;split
  ·have e:ku (i8 key) (.ask (p.getD 0 0) (p.getD (n-1) 0) λc=>if c=da then .ret (n,p)else kas_descPart n nrem (kas_rev p 0 n))=ku (i8 key) (if wJ (vA key p 0) (vA key p<|n-1)=da then .ret (n,p)else kas_descPart n nrem (kas_rev p 0 n)):=rfl
   rw[e];split
   ·exact⟨I,by show n<=nrem;omega,rfl,O⟩
   ·rename_i c
    have l:md (vA key p<|n-1) (vA key p 0):=by unfold md;simpa using c
    have d:∀i,i<n->vA key p i=vA key p (n-1):=λi a=>Kr (O i (n-1) ⋯ ⋯)<|wK l<|O 0 i ⋯ a;have U:=Jv (key:=key) (p:=p) (i:=0) (j:=n) ⋯<|λk _ m=>d k m;have:=fm (key:=key) (p:=kas_rev p 0 n) (n:=n) (nrem:=nrem) I ⋯ (by rw[yB];omega) (λi a=>by rw[U,U];exact d i a) (by rw[U,U];exact b);rw[yB]at this;exact this
  ·exact fm I ⋯ hs (λi a=>by rw[show i=n-1 by omega]) b
theorem Kb(hs:u9 key p k):∀(f l r:Nat),l<=r->r<=k->r-l<=f->(∀i,i<l->md (vA key p i) (vA key p k))->(∀i,r<=i->i<k->wJ (vA key p k) (vA key p i)=da)->
 ku (i8 key) (kas_place p k f l r)<=k/\(∀i,i<ku (i8 key) (kas_place p k f l r)->md (vA key p i) (vA key p k))/\∀i,ku (i8 key) (kas_place p k f l r)<=i->i<k->wJ (vA key p k) (vA key p i)=da
 |0,l,r,h1,h2,h3,h4,h5=>⟨by show l<=k;omega,h4,λi a I=>h5 i (by have:l<=i:=a;omega) I⟩
 | f+1,l,r,h1,h2,h3,h4,h5=>by
  have e:ku (i8 key) (kas_place p k (f+1) l r)=ku (i8 key) (if l>=r then .ret l else .ask (p.getD k 0) (p.getD ((l+r)/2) 0) λc=>if c=da then kas_place p k f l ((l+r)/2)else kas_place p k f ((l+r)/2+1) r):=rfl;rw[e];by_cases O:l>=r
  ·rw[UJ O]
   exact⟨by show l<=k;omega,h4,λi a I=>h5 i (by have:l<=i:=a;omega) I⟩
  ·rw[UY O]
   have U:ku (i8 key) (.ask (p.getD k 0) (p.getD ((l+r)/2) 0) λc=>if c=da then kas_place p k f l ((l+r)/2)else kas_place p k f ((l+r)/2+1) r)=ku (i8 key) (if wJ (vA key p k) (vA key p<|(l+r)/2)=da then kas_place p k f l ((l+r)/2)else kas_place p k f ((l+r)/2+1) r):=rfl;rw[U];by_cases c:wJ (vA key p k) (vA key p<|(l+r)/2)=da
   ·rw[UJ c]
    exact Kb hs f l ((l+r)/2) ⋯ ⋯ ⋯ h4 λi a I=>BK c<|hs _ _ a I
   ·rw[UY c]
    have Y:md (vA key p<|(l+r)/2) (vA key p k):=by unfold md;simpa using c
    exact Kb hs f ((l+r)/2+1) r ⋯ h2 ⋯ (λi a=>wK (hs i ((l+r)/2) ⋯ ⋯) Y) h5
theorem AR(O:k<p.size)(U:l<=k)(hs:u9 key p k)(z:∀i,i<l->md (vA key p i) (vA key p k))(h2:∀i,l<=i->i<k->wJ (vA key p k) (vA key p i)=da):u9 key (bubble p k<|k-l) (k+1):=λi j d e=>by
 rw[nO O U,nO O U];by_cases b:i=l
 ·subst b
  rw[UJ rfl];by_cases I:j=i
  ·rw[UJ I];exact wL _
  ·rw[UY I,UJ ⟨by omega,by omega⟩]
   exact wM<|h2 _ ⋯ ⋯
 ·rw[UY b]
  by_cases Y:l<i/\i<=k
  ·rw[UJ Y,UY (show ¬j=l by omega),UJ ⟨by omega,by omega⟩]
   exact hs _ _ ⋯ ⋯
  ·rw[UY Y]
   by_cases I:j=l
   ·rw[UJ I];exact z i ⋯
   ·rw[UY I]
    by_cases a:l<j/\j<=k
    ·rw[UJ a];exact hs _ _ ⋯ ⋯
    ·rw[UY a];exact hs _ _ d ⋯
theorem pA:∀(f:Nat) (p:Array Nat) (k n:Nat),k+f=n->p.size=n->u9 key p k->u9 key (ku (i8 key)<|kas_bin f p k) n/\(ku (i8 key)<|kas_bin f p k).size=n
 |0,p,k,n,h1,h2,hs=>by
  obtain rfl:k=n:=by omega
  exact⟨hs,h2⟩
 |f+1,p,k,n,h1,h2,hs=>by obtain⟨I,O,U⟩:=Kb hs k 0 k ⋯ (II _) ⋯ (λi b=>by omega) (λi Y a=>by omega);unfold kas_bin;rw[yf];exact pA f _ (k+1) n ⋯ (by rw[bubble_size];exact h2)<|AR ⋯ I hs O U
theorem rz(z:1<=n):u9 key (ku (i8 key)<|kas_sort n) n/\(ku (i8 key)<|kas_sort n).size=n:=by
 have a:(OO<|IA n).size=n:=by simp
 obtain⟨O,U,Y,I⟩:=nB (key:=key) (p:=OO<|IA n) (nrem:=n) z ⋯;unfold kas_sort;rw[yf];generalize ku (i8 key) (kas_count n<|OO<|IA n)=r at O U Y I;show u9 key (ku (i8 key)<|if r.1<n then kas_bin (n-max r.1 1) r.2 (max r.1 1)else .ret r.2) n/\(ku (i8 key)<|if r.1<n then kas_bin (n-max r.1 1) r.2 (max r.1 1)else .ret r.2).size=n;rw[show max r.1 1=r.1 by omega];split
 ·exact pA (n-r.1) r.2 r.1 n ⋯ ⋯ I
 ·have:r.1=n:=by omega
  rw[this]at I;exact⟨I,by show r.2.size=n;omega⟩
end
theorem ZJ(bs:List (Int×Int)):(ZT bs).Pairwise md:=by
 unfold ZT kT;by_cases h:bs.length<2
 ·rw[UJ h]
  rcases bs with _|⟨a,_|⟨b,bs⟩⟩
  ·exact Nx.nil
  ·exact List.pairwise_singleton _ _
  ·simp only[Lm]at h;omega
 ·rw[UY h]
  obtain⟨f,g⟩:=rz (key:=λi=>bs.getD i (0,0)) (n:=bs.length) ⋯;have e:(ku (λi j=>wJ (bs.getD i (0,0))<|bs.getD j (0,0))<|kas_sort bs.length)=ku (i8 λi=>bs.getD i (0,0)) (kas_sort bs.length):=rfl;rw[e];generalize ku (i8 λi=>bs.getD i (0,0)) (kas_sort bs.length)=p at f g;rw[Nc];intro i j d I O;simp only[Lc,MG]at d I;have:=f i j ⋯ ⋯;unfold vA at this;simp only[Nu,Array.getElem?_eq_getElem d,Array.getElem?_eq_getElem I,Option.getD_some]at this;simpa using this
theorem Jz:∀{a b:List (Int×Int)},a.Perm b->a.Pairwise md->b.Pairwise md->a=b
 |[],b,h,_,_=>by rw[h.nil_eq]
 |x::a,[],h,_,_=>by have:=h.length_eq;simp at this
 | x::a,y::b,h,ha,hb=>by
  have d:x∈y::b:=h.mem_iff.mp La;have O:y∈x::a:=h.mem_iff.mpr La;have e:x=y:=by
   rcases IM.mp d with e|e
   ·exact e
   ·rcases IM.mp O with I|I
    ·exact I.symm
    ·exact Kr (List.rel_of_pairwise_cons ha I)<|List.rel_of_pairwise_cons hb e
  subst e;rw[Jz (List.Perm.cons_inv h) ha.of_cons hb.of_cons]
theorem JB(h:a.Perm b):ZT a=ZT b:=
 Jz ((Xj a).trans (h.trans (Xj b).symm)) (ZJ a) (ZJ b)
end DL
namespace DL
open PySem L2
theorem uX{m k:Nat}(h:k<m+1)(wd:UX):(zG (m+1) λk=>(wd k:Int))[k]? = cq (.int (wd k:Int)):=by unfold zG;simp[h]
theorem uW(m:Nat)(wd:UX):(zG (m+1) λk=>(wd k:Int)).length=m+1:=by simp[zG]
section
variable{p:Int}{m:Nat}{w:UK}{wd wd':UX}{T T' J:UW}
theorem kC(p m w wd T):jA (zO p m w wd T)=cq (.T,[.int p,.tup<|zG (m+1) λk=>(wd k:Int),.tup (jY m w wd T)]):=rfl
noncomputable def WJ(m:Nat)(w:UK)(wd wd':UX):List D:=(IA m).map λk=>D.tup [.int (ft w wd k:Nat),.int (e9 w wd' k:Nat)]
theorem rJ(z:m<=4):qB [zO p m w wd' T',zO p m w wd T]=cq (.own<|WJ m w wd wd'):=by
 have y:=jj;have e:m<=lim:=by omega
 have u:=kC p m w wd T;have x:=kC p m w wd' T';have t:=xZ (p:=p) (wd:=wd') (T:=T') (w:=w) (show m<=900 by omega);have f:=yc w (show m<=1000 by omega);have n:2<=lim:=by omega
 have a:zY (.tp [0,1]) jw (xF<|zb (dj (zJ<|dj (zk 3)<|zy<|.int 1)<|zE k8<|zb (zh 0)<|zb (zh 1) zF)<|zb (dj (zJ<|dj (zk 2)<|zy<|.int 1)<|zE jT<|zb (zh 0)<|zb (zh 1) zF) zF) [Cell.no,Cell.no,Cell.val<|zO p m w wd' T',Cell.val (zO p m w wd T)] ((IA m).map λ(k:Nat)=>D.tup [.int k,.str (xR<|g5<|w k)])=cq (WJ m w wd wd'):=by unfold WJ;refine zC _ _ λk I=>zB rfl rfl ?_;have I:=IC.mp I;have O:=KA (w:=w) I;have U:=KM (w:=w) I;have Y:=uX O wd;have d:=uX U wd';rw[xv w wd]at Y;rw[qO w wd']at d;have h:=aP w k;have i:=vS w k;have l:hH 3 1=cq 1:=rfl;show xF _ [Cell.val (.int (k:Int)),Cell.val<|.str<|xR<|g5<|w k,Cell.val<|zO p m w wd' T',Cell.val (zO p m w wd T)]=_;simp only[Vq,jM,kN,wX,xT,ql,qY,vn,xN,IJ,n7,Lm,LH,LS,MQ,ja,jf,IF,IU,u,x,qE,l,qA,h,i,WS,uW,qP,O,U,if_true,Y,d,n]
 have j:(xw<|kg<|jN m w).length<=lim:=by rw[XA];simpa using e
 have r:(jr 2<|zE qH<|zb (zh 0) zF) (z7 3 [zO p m w wd' T',zO p m w wd T])=cq (.next [.val (zO p m w wd' T'),.val<|zO p m w wd T,.val (.str<|jN m w)]):=by simp[z7,IE,t]
 have s:(yQ<|zU (Yr<|zh 2) (.tp [0,1]) 2 [0,1] jw (xF<|zb (dj (zJ<|dj (zk 3)<|zy<|.int 1)<|zE k8<|zb (zh 0)<|zb (zh 1) zF)<|zb (dj (zJ<|dj (zk 2)<|zy<|.int 1)<|zE jT<|zb (zh 0)<|zb (zh 1) zF) zF)) [.val (zO p m w wd' T'),.val<|zO p m w wd T,.val (.str<|jN m w)]=cq (.ret<|.own<|WJ m w wd wd'):=by
  have b:Yr (zh 2) [.val (zO p m w wd' T'),.val<|zO p m w wd T,.val (.str<|jN m w)]=cq (xw<|kg<|jN m w):=by show(if jo (jN m w)=da then _ else _)=_;rw[UJ f]
  have o:jk 2 [0,1] [.val (zO p m w wd' T'),.val<|zO p m w wd T,.val (.str<|jN m w)]=[Cell.no,Cell.no,Cell.val<|zO p m w wd' T',Cell.val (zO p m w wd T)]:=rfl;show((zU _ _ _ _ _ _ _).map λg=>Fl.ret<|.own g)=_;rw[qm,b];simp only[IF];rw[UJ j,XA,o,a];rfl
 exact je<|zu r s
end
section
variable{p:Int}{m:Nat}{w:UK}{bs:List (Int×Int)}
theorem Xz(a b c d:Int):hB (.tup [.int a,.int b]) (.tup [.int c,.int d])=(a==c&&b==d):=by simp[hB,sk,Sq]
theorem Ve:∀a b:List (Int×Int),sk (jc a) (jc b)=decide (a=b)
 |[],[]=>rfl
 |[],_::_=>rfl
 |_::_,[]=>rfl
 |(x1,x2)::a,(y1,y2)::b=>by have I:=Ve a b;show(hB (.tup [.int x1,.int x2]) (.tup [.int y1,.int y2])&&sk (jc a) (jc b))=_;rw[I,Xz];by_cases d:x1=y1<;>by_cases e:x2=y2<;>by_cases O:a=b<;>simp[d,e,O]
end
section
variable{p:Int}{m:Nat}{w:UK}{wd wd':UX}{T T' J:UW}
theorem pZ(h w f):jA (j8 h w f)=cq (.T,[.int (h:Int),.int (w:Int),.tup (zX h w f)]):=rfl
theorem cG(h w f):(zX h w f).length=h:=by simp[zX]
end
theorem Ky(b:Bool):gw (.str (xR (g5 b))) (.str "r")=cq (.bl (!b)):=by cases b<;>kernel_rfl
abbrev TB:=Nat×Nat×(Nat->Nat->Int)
noncomputable def tD(t:TB):D:=j8 t.1 t.2.1 t.2.2
theorem Zu(bs):l8 (.lst<|jc bs)=da:=W4 (n:=2) (by
 simp only[deep];have:xr (jc bs)<=1:=Jl λd a=>by simp only[jc,Lv]at a;obtain⟨b,_,rfl⟩:=a;simp[deep,xr]
 omega) ⋯ (by
 simp only[ir];exact Kj λd a=>by simp only[jc,Lv]at a;obtain⟨b,_,rfl⟩:=a;rfl)
noncomputable def xW(bs:List (Int×Int))(I us:List TB):D:=.tup [.lst (jc bs),.lst<|I.map tD,.lst (us.map tD)]
structure fA where
 s:Nat
 n:Nat
 v:Nat->Vc
noncomputable def fA.has(b:fA)(r:Nat):Bool:=decide (b.s<=r)&&decide (r<b.s+b.n)
theorem p3{b:fA}{r:Nat}:b.has r=da↔b.s<=r/\r<b.s+b.n:=by simp[fA.has]
noncomputable def iG:fA:=⟨0,0,λ_ _=>0⟩
structure p6(p:Int)(w:UK)(wd:UX)(T:UW)(k:Nat)(b:fA):Prop where
 n1:1<=b.n
 le:b.s+b.n<=k+1
 m9:∀r i,b.has r=da->i<wd r->0<=b.v r i/\b.v r i<p
 arr:∀j,j<k->b.has (zZ w j)=da->∀i,i<wd (z9 w j)->app (T j) (wd<|zZ w j) (b.v<|zZ w j) i%p=(if b.has (z9 w j)=da then b.v (z9 w j) i else 0)%p
noncomputable def Ord(w:UK)(a b:fA):Prop:=(a.s<b.s->w (b.s-1)=da)/\(b.s<a.s->w (a.s-1)=di)
noncomputable def HB(z:List fA)(r:Nat):Vc->Prop:=λg=>∃b,b∈z/\b.has r=da/\g=b.v r
noncomputable def sx(p:Int)(A:Nat->fA)(N:Nat)(t:Vc)(r:Nat):Vc:=λc=>zm (λj=>if (A j).has r=da then t j*(A j).v r c else 0) N%p
noncomputable def M4(p:Int)(A:Nat->fA)(N:Nat)(t:Vc)(i:Nat):fA:=⟨(A i).s,(A i).n,sx p A N t⟩
section
variable{p:Int}{w:UK}{wd:UX}{T:UW}{k N:Nat}{A:Nat->fA}
theorem vm(f:UV)(h:Nat)(t:Vc)(u:Nat->Vc)(n:Nat)(i:Nat):app f h (λc=>zm (λj=>t j*u j c) n) i=zm (λj=>t j*app f h (u j) i) n:=by
 unfold app;have e:zm (λj=>f i j*zm (λk=>t k*u k j) n) h=zm (λj=>zm (λk=>t k*(f i j*u k j)) n) h:=zA λj _=>by rw[<-jB];exact zA λk _=>by rw[<-Nn,<-Nn,Ms (f i j)]
 rw[e,qj];exact zA λj _=>jB ..
theorem tI(c:Prop) [Decidable c](x y:Int):(if c then x*y else 0)=x*(if c then y else 0):=by split<;>simp
theorem uD(f:UV)(h r:Nat)(t:Vc)(i:Nat):app f h (sx p A N t r) i%p=zm (λj=>t j*(if (A j).has r=da then app f h ((A j).v r) i else 0)) N%p:=by
 have e:app f h (sx p A N t r) i%p=app f h (λc=>zm (λj=>t j*(if (A j).has r=da then (A j).v r c else 0)) N) i%p:=xy (λc _=>by unfold sx;rw[LJ];congr 1;exact zA λj _=>tI ..) i
 rw[e,vm];congr 1;refine zA λj _=>?_;congr 1;by_cases I:(A j).has r=da
 ·simp only[UJ I]
 ·simp only[UY I]
  unfold app;simp[zT]
theorem BJ(p0:0<p)(J:∀j,j<N->p6 p w wd T k (A j))(hk:∀j,j<N->(A j).has k=da){t:Vc}{i:Nat}(L:i<N)(Z:∀c,i<c->c<N->Ord w (A i) (A c))(tz:∀c,c<i->t c=0):
 p6 p w wd T k (M4 p A N t i):=by
 refine⟨(J i L).n1,(J i L).le,λr c _ _=>⟨LU _ ⋯,LB _ p0⟩,λj l O c h=>?_⟩;have O:(A i).has (zZ w j)=da:=O;show app (T j) (wd<|zZ w j) (sx p A N t<|zZ w j) c%p=(if (A i).has (z9 w j)=da then sx p A N t (z9 w j) c else 0)%p;rw[uD];have g:∀I,I<N->t I≠0->((A i).has (z9 w j)=da->(A I).has (z9 w j)=da->(A I).has (zZ w j)=da)/\((A i).has (z9 w j)=di->(A I).has (zZ w j)=da->(A I).has (z9 w j)=di):=λI U d=>by
  have y:=p3.mp<|hk i L;have B:=p3.mp<|hk I U;have Y:i<=I:=Nat.not_lt.mp λz=>d<|tz I z;rcases Nat.lt_or_eq_of_le Y with Y|Y
  ·obtain⟨u,x⟩:=Z I Y U
   have O:=p3.mp O;cases hw:w j with
   | false=>
    have b:zZ w j=j:=by unfold zZ;rw[hw];rfl
    have e:z9 w j=j+1:=by unfold z9;rw[hw];rfl
    rw[b]at O;rw[b,e];refine⟨λ_ q=>p3.mpr ?_,λq _=>?_⟩
    ·have q:=p3.mp q
     refine⟨Nat.not_lt.mp λz=>?_,by omega⟩;have f:(A I).s=j+1:=by omega
     have:=u ⋯;rw[f]at this;simp[hw]at this
    ·exfalso
     have:(A i).has (j+1)=da:=p3.mpr ⋯;rw[this]at q;cases q
   | true=>
    have b:zZ w j=j+1:=by unfold zZ;rw[hw];rfl
    have e:z9 w j=j:=by unfold z9;rw[hw];rfl
    rw[b]at O;rw[b,e];refine⟨λ_ q=>p3.mpr ?_,λq _=>?_⟩
    ·have q:=p3.mp q
     omega
    ·cases a:(A I).has j with
     |false=>rfl
     | true=>
      exfalso;have a:=p3.mp a;have f:(A i).s=j+1:=by
       have:¬((A i).s<=j):=λz=>by have:(A i).has j=da:=p3.mpr ⋯;rw[this]at q;cases q
       omega
      have:=x ⋯;rw[f]at this;simp[hw]at this
  ·subst Y
   exact⟨λ_ _=>O,λq _=>q⟩
 have m:zm (λI=>t I*(if (A I).has (zZ w j)=da then app (T j) (wd<|zZ w j) ((A I).v (zZ w j)) c else 0)) N%p
  = zm (λI=>if (A i).has (z9 w j)=da then (if (A I).has (z9 w j)=da then t I*(A I).v (z9 w j) c else 0)else 0) N%p:=zQ λI U=>by
  by_cases d:t I=0
  ·simp[d]
  obtain⟨n,o⟩:=g I U d;cases a:(A i).has (z9 w j)with
  | false=>
   cases hy:(A I).has (zZ w j)with
   |false=>simp
   |true=>
    have q:=(J I U).arr j l hy c h;rw[o a hy]at q;simp only[if_true];rw[IQ,q];simp
  | true=>
   cases hy:(A I).has (zZ w j)with
   |false=>
    cases hz:(A I).has (z9 w j)with
    |false=>simp
    |true=>rw[n a hz]at hy;cases hy
   |true=>
    have q:=(J I U).arr j l hy c h;simp only[if_true];rw[IQ,q,<-IQ];congr 1;cases hz:(A I).has (z9 w j)<;>simp
 rw[m];cases a:(A i).has (z9 w j)with
 |false=>simp[zT]
 |true=>
  simp only[if_true];unfold sx;rw[LJ]
theorem mz{G':Vc->Prop}{r n:Nat}{A':Nat->fA}(t:Nat->Vc)(J:∀i,i<N->t i i=1)(hz:∀i c,i<N->c<i->t i c=0)
 (L:∀i,i<N->(A i).has r=da->Span p n G' ((A' i).v r)) (Z:∀i,i<N->(A i).has r=da->∀c,c<n->(A' i).v r c%p=sx p A N (t i) r c%p):
 ∀i,i<N->(A i).has r=da->Span p n G' ((A i).v r):=by
 have f : ∀d i,N - i<=d->i<N->(A i).has r=da->Span p n G' ((A i).v r):=by
  intro d
  induction d with
  |zero=>intro i e a;omega
  | succ d w=>
   intro i e a O;have u:Span p n G' λc=>zm (λj=>(if j=i then 0 else if (A j).has r=da then t i j else 0)*(A j).v r c) N:=by
    have gen:∀M,M<=N->Span p n G' λc=>zm (λj=>(if j=i then 0 else if (A j).has r=da then t i j else 0)*(A j).v r c) M:=by
     intro M
     induction M with
     |zero=>intro _;exact .zero λc _=>by simp[zm]
     | succ M g=>
      intro x;have q:=g ⋯;by_cases I:M=i\/¬((A M).has r=da)\/M<i
      ·refine q.congr λc _=>?_
       show(zm _ M+_)%p=_;rcases I with I|I|I
       ·simp[I]
       ·simp[I]
       ·have z:=hz i M a I;simp only[z];simp
      ·have h:M≠i/\(A M).has r=da/\¬M<i:=by
        refine⟨λz=>I<|.inl z,?_,λz=>I<|.inr<|.inr z⟩;cases b:(A M).has r with
        |true=>rfl
        |false=>exact absurd (.inr<|.inl<|by rw[b];decide) I
       exact((w M ⋯ ⋯ h.2.1).add q (if M=i then 0 else if (A M).has r=da then t i M else 0)).congr λc _=>rfl
    exact gen N<|II _
   have o:=u.add (L i a O) (-1);refine o.congr λc I=>?_;have l:zm (λj=>if (A j).has r=da then t i j*(A j).v r c else 0) N=(A i).v r c+zm (λj=>(if j=i then 0 else if (A j).has r=da then t i j else 0)*(A j).v r c) N:=by
    have m:(A i).v r c=zm (λj=>if j=i then (A i).v r c else 0) N:=by rw[z6 a λk _ s=>by simp[s]];simp
    rw[m,<-qv];refine zA λj y=>?_;by_cases Y:j=i
    ·subst Y;simp[O,J j a]
    ·simp only[UY Y]
     by_cases b:(A j).has r=da
     ·simp[b]
     ·simp[b]
   have U:=Z i a O c I;unfold sx at U;rw[LJ,l]at U;rw[Ml,U,<-Ml];congr 1;omega
 exact λi e a=>f N i ⋯ e a
end
section
variable{p:Int}{n m N h r r2 q:Nat}{B B2 K:Nat->Vc}{l l2 lK:UX}{M f:UV}
theorem Yn(I:Span p n (ef m U) v):∃t:Vc,∀i,i<n->v i%p=zm (λj=>t j*U j i) m%p:=by
 induction I with
 |zero h=>exact⟨λ_=>0,λi a=>by rw[h i a];simp[zT]⟩
 |@step v w g c O r Y o=>
  obtain⟨t,l⟩:=o;obtain⟨k,d,rfl⟩:=O;refine⟨λj=>t j+if j=k then c else 0,λi a=>?_⟩;rw[Y i a,Ml,l i a,<-Ml];congr 1;have e:zm (λj=>(t j+if j=k then c else 0)*U j i) m=zm (λj=>t j*U j i) m+zm (λj=>(if j=k then c else 0)*U j i) m:=by rw[<-qv];exact zA λj _=>Int.add_mul ..
  rw[e,z6 (f:=λj=>(if j=k then c else 0)*U j i) d λj _ b=>by simp[b]];simp
theorem xH(a b:Nat->Int)(n:Nat):zm (λj=>a j*b j) n=zm (λj=>b j*a j) n:=zA λj _=>Ms ..
theorem DB:Span p h (ef N λj i=>M i j) u ↔ ∃x:Vc,∀i,i<h->u i%p=app M N x i%p:=by
 constructor
 ·intro q
  obtain⟨t,I⟩:=Yn q;exact⟨t,λi a=>by rw[I i a];unfold app;rw[xH]⟩
 ·rintro⟨x,b⟩
  refine(Span.sum (u:=λj i=>M i j) x (m:=N) λj O=>.gen ⟨j,O,rfl⟩).congr λi a=>?_;rw[b i a];unfold app;rw[xH]
theorem Y7(n:Nat)(v:Vc):Span p n (ef n jX) v:=by refine(Span.sum (u:=jX) v (m:=n) λj I=>.gen ⟨j,I,rfl⟩).congr λi a=>?_;rw[z6 (f:=λk=>v k*jX k i) a λk _ O=>by simp[jX,O]];simp[jX]
theorem J2(I:Pr p)(z:N<=16)(hs:∀v:Vc,∃t,∀i,i<N->v i%p=app f N t i%p)(U:∀i,i<N->app f N t i%p=0):∀j,j<N->t j%p=0:=by
 obtain⟨q,K,l,s,_,m,O,Y,g⟩:=yL I (h:=N) (w:=N) ⋯ ⋯ f;have a:Rk p N N (λj i=>f i j) N:=⟨jX,id,Wz I N,λv=>⟨λ_=>DB.mpr<|hs v,λ_=>Y7 N v⟩⟩;have:=vV I Y a;have e:q=0:=by omega
 subst e;have:=(O t).mpr λi d=>by have:=U i d;unfold app at this;exact this
 cases this with
 |zero h=>exact h
 |step b _ _=>obtain⟨k,O,_⟩:=b;omega
noncomputable def QZ(r:Nat)(B:Nat->Vc)(l:UX)(t:Vc):Vc:=λi=>t i-zm (λj=>t (l j)*B j i) r
theorem Xs(O:g9 p N r B l)(t:Vc)(I:j<r):QZ r B l t (l j)=0:=by unfold QZ;rw[z6 (f:=λU=>t (l U)*B U (l j)) I λk Y a=>by rw[O.wa k j Y I (LD a)];simp];rw[O.one j I];omega
theorem ag(t:Vc):Span p N (ef r B) λi=>zm (λj=>t (l j)*B j i) r:=Span.sum (u:=B) (λj=>t<|l j) λj I=>.gen ⟨j,I,rfl⟩
theorem tR(I:g9 p N r B l)(h:Span p N (ef r B) t)(hz:∀j,j<r->t (l j)%p=0):∀i,i<N->t i%p=0:=λi a=>by
 rw[ZY I h i a];have e:zm (λk=>t (l k)*B k i) r%p=zm (λ_=>0) r%p:=zQ λk O=>by rw[IQ,hz k O];simp
 rw[e,zT];simp
theorem Wy(I:Pr p)(O:g9 p N r B l)(z:i<N)(hn:∀j,j<r->l j≠i):¬Span p N (ef r B) (jX i):=λh=>by have:=tR O h (λj U=>by unfold jX;rw[UY (LD<|hn j U)];simp) i z;unfold jX at this;rw[UJ rfl,I.one]at this;omega
theorem QF(g:UV)(w:Nat)(u v:Vc)(i:Nat):app g w (λj=>u j-v j) i=app g w u i-app g w v i:=by
 have e:app g w u i=app g w (λj=>u j-v j) i+app g w v i:=by unfold app;rw[<-qv];exact zA λj _=>by dsimp only;rw[<-Pp];congr 1;omega
 omega
noncomputable def VH(M f:UV)(N:Nat):Nat->Nat->Int:=λi j=>zm (λk=>M i k*f k j) N
theorem Js(t:Vc)(i:Nat):app (VH M f N) N t i=app M N (app f N t) i:=by
 unfold app VH;have e:zm (λj=>zm (λk=>M i k*f k j) N*t j) N=zm (λj=>zm (λk=>M i k*(f k j*t j)) N) N:=zA λj _=>by rw[<-kq];exact zA λk _=>Nn ..
 rw[e,qj];exact zA λk _=>jB ..
theorem Aj(J:Pr p)(hN:N<=16)(hh:h<=16)(hs:∀v:Vc,∃t,∀i,i<N->v i%p=app f N t i%p)(L:g9 p N r B l)(Y:∀t,Span p N (ef r B) t↔B3 p h N M (app f N t))
 (Z:g9 p h r2 B2 l2) (hI:∀v,Span p h (ef r2 B2) v↔Span p h (ef N λj i=>M i j) v):
 (∀j,j<r->∀i,i<h->app M N (app f N<|B j) i%p=0)/\(∀c,c<N->(∀j,j<r->l j≠c)->∃i,i<h/\app M N (λa=>f a c) i%p≠0)/\r+r2=N/\
   ∀U:Vc->Prop,(∀c,c<N->(∀j,j<r->l j≠c)->Span p h U (app M N λa=>f a c))->(∀c,c<h->(∀j,j<r2->l2 j≠c)->Span p h U (jX c))->∀v,Span p h U v:=by
 have k:∀t:Vc,B3 p h N M (app f N t) ↔ ∀i,i<h->app M N (app f N t) i%p=0:=λt=>Iff.rfl;have s:∀(c:Nat),c<N->∀i,app M N (λa=>f a c) i%p=app M N (app f N<|jX c) i%p:=λc I i=>xy (λa _=>by rw[wV f I]) i;refine⟨λj O=>(k _).mp ((Y<|B j).mp (.gen ⟨j,O,rfl⟩)),λc I R=>?_,?_,λU H P v=>?_⟩
 ·refine Mc λz=>Wy J L I R ((Y _).mpr ((k _).mpr λi b=>?_))
  rw[<-s c I i];exact Mc λy=>z ⟨i,b,y⟩
 ·obtain⟨X,K',l',s',_,A,o,C,b2⟩:=yL J (h:=h) (w:=N) ⋯ ⋯ (VH M f N)
  have e1:X=r:=(QD J A L (λv m=>(Y v).mpr λi b=>by
   have:=(o v).mp m i b;rw[show zm (λj=>VH M f N i j*v j) N=app (VH M f N) N v i from rfl,Js]at this;exact this) λv m=>(o v).mpr λi b=>by
   have:=(Y v).mp m i b;rw[show zm (λj=>VH M f N i j*v j) N=app (VH M f N) N v i from rfl,Js];exact this).1
  have e2:s'=r2:=by
   refine vV J C ⟨B2,l2,Z,λv=>(hI v).trans ⟨λz=>?_,λz=>?_⟩⟩
   ·obtain⟨x,n⟩:=DB.mp z
    obtain⟨t,d⟩:=hs x;refine DB.mpr ⟨t,λi b=>?_⟩;rw[n i b,Js];exact xy d i
   ·obtain⟨t,d⟩:=DB.mp z
    exact DB.mpr ⟨app f N t,λi b=>by rw[d i b,Js]⟩
  omega
 ·
  have W:∀t:Vc,Span p h U (app M N<|app f N t):=λt=>by
   have T:=(k _).mp ((Y _).mp (ag (p:=p) (N:=N) (B:=B) (r:=r) (l:=l) t));have e:∀i,i<h->app M N (app f N t) i%p=app M N (app f N<|QZ r B l t) i%p:=λi b=>by
    have F:app M N (app f N<|QZ r B l t) i=app M N (app f N t) i-app M N (app f N λi=>zm (λj=>t (l j)*B j i) r) i:=by rw[<-QF];congr 1;funext a;exact QF ..
    rw[F,MT,T i b];simp
   refine Span.congr ?_ e;have G:∀i,app M N (app f N<|QZ r B l t) i=zm (λc=>QZ r B l t c*app M N (λa=>f a c) i) N:=λi=>by rw[<-vm];congr 1;funext a;unfold app;exact xH ..
   have s1:∀K,K<=N->Span p h U λi=>zm (λc=>QZ r B l t c*app M N (λa=>f a c) i) K:=by
    intro K
    induction K with
    |zero=>intro _;exact .zero λi _=>by simp[zm]
    | succ K g=>
     intro Q;by_cases I:∃j,j<r/\l j=K
     ·obtain⟨j,O,rfl⟩:=I
      refine(g ⋯).congr λi _=>?_;show(zm _ (l j)+_)%p=_;have z:=Xs L t O;simp only[z];simp
     ·exact((H K ⋯ λj O z=>I ⟨j,O,z⟩).add (g ⋯) _).congr λi _=>rfl
   exact(s1 N<|II _).congr λi _=>by rw[G]
  have E:∀u,Span p h (ef r2 B2) u->Span p h U u:=λu S=>by obtain⟨x,n⟩:=DB.mp<|(hI u).mp S;obtain⟨t,d⟩:=hs x;exact(W t).congr λi b=>by rw[n i b];exact xy d i
  have s2:∀K,K<=h->Span p h U λi=>zm (λc=>QZ r2 B2 l2 v c*jX c i) K:=by
   intro K
   induction K with
   |zero=>intro _;exact .zero λi _=>by simp[zm]
   | succ K g=>
    intro Q;by_cases I:∃j,j<r2/\l2 j=K
    ·obtain⟨j,O,rfl⟩:=I
     refine(g ⋯).congr λi _=>?_;show(zm _ (l2 j)+_)%p=_;have z:=Xs Z v O;simp only[z];simp
    ·exact((P K ⋯ λj O z=>I ⟨j,O,z⟩).add (g ⋯) _).congr λi _=>rfl
  refine((E _<|ag (B:=B2) (r:=r2) (l:=l2) v).add (s2 h<|II _) 1).congr λi b=>?_;congr 1;rw[z6 (f:=λc=>QZ r2 B2 l2 v c*jX c i) b λc _ I=>by simp[jX,I]];simp only[jX,if_true,QZ];omega
theorem Ak(O:Pr p)(hN:N<=16)(hh:h<=16)(hs:∀v:Vc,∃t,∀i,i<N->v i%p=app f N t i%p)(L:g9 p N r B l)(Z:∀t,Span p N (ef r B) t↔Span p N (ef h λj i=>M i j) (app f N t))
 (hk:∀v,Span p h (ef q K) v↔B3 p N h M v) (hr:Rk p N h (λj i=>M i j) s) (b9:q+s=h):
 (∀j,j<r->∃y:Vc,∀i,i<N->app M h y i%p=app f N (B j) i%p)/\(∀c,c<N->(∀j,j<r->l j≠c)->¬∃y:Vc,∀i,i<N->app M h y i%p=f i c%p)/\r+q=h/\
   ∀(J:Vc->Prop) (x:Nat->Vc),(∀j,j<r->Span p h J (x j)/\∀i,i<N->app M h (x j) i%p=app f N (B j) i%p)->(∀j,j<q->Span p h J (K j))->∀v,Span p h J v:=by
 have o:∀t,Span p N (ef r B) t ↔ ∃y:Vc,∀i,i<N->app f N t i%p=app M h y i%p:=λt=>(Z t).trans DB;have inj:∀{t:Vc},(∀i,i<N->app f N t i%p=0)->∀j,j<N->t j%p=0:=λY=>J2 O hN hs Y;refine⟨λj I=>?_,λc T hn z=>?_,?_,λJ x R h2 v=>?_⟩
 ·obtain⟨y,d⟩:=(o<|B j).mp (.gen ⟨j,I,rfl⟩)
  exact⟨y,λi b=>(d i b).symm⟩
 ·obtain⟨y,d⟩:=z
  exact Wy O L T hn<|(o _).mpr ⟨y,λi b=>by rw[wV f T,d i b]⟩
 ·have P:s<=16/\r<=16:=by
   obtain⟨E,bb,ax⟩:=rT O (n:=N) (m:=h) ⋯ hh λj i=>M i j;refine⟨by rw[vV O hr ax];omega,?_⟩;have:∀A,A<=r->A<=N:=by
    intro A;have mono:∀k,k<r->k<=l k:=by
     intro k
     induction k with
     |zero=>intro _;omega
     |succ k ih=>intro hk;have:=ih ⋯;have:=L.mono k (k+1) ⋯ hk;omega
    intro bd;cases A with
    |zero=>omega
    |succ Q=>have:=mono Q ⋯;have:=L.lt Q ⋯;omega
   have:=this r<|II _;omega
  have be:s<=r:=by
   obtain⟨E,a1,F⟩:=rT O (n:=N) (m:=r) ⋯ P.2 λj=>app f N<|B j;have e:s=E:=by
    obtain⟨C,lC,H,w⟩:=hr;refine vV O (m:=h) (W:=λj i=>M i j) ⟨C,lC,H,w⟩ ?_;obtain⟨X,b3,b4,b5⟩:=F;refine⟨X,b3,b4,λv=>(b5 v).trans ⟨λz=>?_,λz=>?_⟩⟩
    ·exact z.le λg U=>by obtain⟨j,I,rfl⟩:=U;exact(Z<|B j).mp (.gen ⟨j,I,rfl⟩)
    ·obtain⟨y,d⟩:=DB.mp z
     obtain⟨t,Y⟩:=hs v;have G:Span p N (ef r B) t:=(o t).mpr ⟨y,λi b=>by rw[<-Y i b,d i b]⟩;refine(Span.sum (u:=λj=>app f N<|B j) (λj=>t<|l j) (m:=r) λj I=>.gen ⟨j,I,rfl⟩).congr λi b=>?_;rw[Y i b,<-vm];exact xy (λj I=>ZY L G j I) i
   omega
  have bf:r<=s:=by
   obtain⟨C,lC,H,w⟩:=hr;have ex:∀j,∃t:Vc,∀i,i<N->C j i%p=app f N t i%p:=λj=>hs<|C j;have g:Nat->Vc:=λj=>Classical.choose<|ex j;have U:∃g:Nat->Vc,∀j i,i<N->C j i%p=app f N (g j) i%p:=⟨λj=>Classical.choose<|ex j,λj=>Classical.choose_spec<|ex j⟩;obtain⟨g,U⟩:=U;obtain⟨E,a1,F⟩:=rT O (n:=N) (m:=s) ⋯ P.1 g;have e:r=E:=by
    refine vV O (m:=s) (W:=g) ⟨B,l,L,λv=>⟨λz=>?_,λz=>?_⟩⟩ F
    ·have hv:=(w _).mpr ((Z v).mp z)
     refine(Span.sum (u:=g) (λj=>app f N v<|lC j) (m:=s) λj I=>.gen ⟨j,I,rfl⟩).congr λi b=>?_;have z0:∀a,a<N->app f N (λi=>v i-zm (λj=>app f N v (lC j)*g j i) s) a%p=0:=λa S=>by
      rw[QF,vm,MT,ZY H hv a S];have e:zm (λk=>app f N v (lC k)*C k a) s%p=zm (λk=>app f N v (lC k)*app f N (g k) a) s%p:=zQ λk _=>by rw[IQ,U k a S,<-IQ]
      rw[e];simp
     have:=inj z0 i b;have q2:=Nj;exact(Nj _<|PL p).symm.trans (by
      rw[LJ];have:(v i-zm (λj=>app f N v (lC j)*g j i) s)%p=0:=this;exact MM.mpr this)
    ·refine z.le λu hu=>?_
     obtain⟨j,I,rfl⟩:=hu;refine(Z _).mpr (((w<|C j).mp (.gen ⟨j,I,rfl⟩)).congr λi b=>(U j i b).symm)
   omega
  omega
 ·obtain⟨t,Y⟩:=hs (app M h v)
  have G:Span p N (ef r B) t:=(o t).mpr ⟨v,λi b=>(Y i b).symm⟩;have hx:Span p h J λc=>zm (λj=>t (l j)*x j c) r:=Span.sum (u:=x) (λj=>t<|l j) λj I=>(R j I).1;have hd:Span p h J λc=>v c-zm (λj=>t (l j)*x j c) r:=by
   refine((hk _).mpr λi b=>?_).le λg U=>by obtain⟨j,I,rfl⟩:=U;exact h2 j I
   show app M h (λc=>v c-zm (λj=>t (l j)*x j c) r) i%p=0;rw[QF,vm,MT];have e:zm (λj=>t (l j)*app M h (x j) i) r%p=app M h v i%p:=by rw[Y i b,xy (λj I=>ZY L G j I) i,vm];exact zQ λj I=>by rw[IQ,(R j I).2 i b,<-IQ]
   rw[e];simp
  refine(hx.add hd 1).congr λc _=>?_;congr 1;omega
end
structure Dq(p:Int)(w:UK)(wd:UX)(T:UW)(k:Nat)(n6:List fA):Prop where
 ok:∀b,b∈n6->p6 p w wd T k b
 sp:∀r,r<=k->∀v,Span p (wd r) (HB n6 r) v
 ct:∀r,r<=k->n6.countP (λb=>b.has r)=wd r
 od:(n6.filter λb=>b.has k).Pairwise (Ord w)
noncomputable def nt(r:Nat)(l:UX)(i:Nat):Option Nat:=(IA r).find? λj=>l j==i
theorem xS(h:nt r l i=cq j):j<r/\l j=i:=by have a:=List.find?_some h;have b:=List.mem_of_find?_eq_some h;exact⟨IC.mp b,by simpa using a⟩
theorem Ji(h:nt r l i=none):∀j,j<r->l j≠i:=λj I=>by have:=Rt.mp h j<|IC.mpr I;simpa using this
noncomputable def hM(p:Int)(A:Nat->fA)(N r:Nat)(B:Nat->Vc)(l:UX)(i:Nat):fA:=match nt r l i with
 |some j=>M4 p A N (B j) i
 |none=>A i
noncomputable def my(k:Nat)(b:fA):Option Vc->fA
 |none=>b
 |some y=>⟨b.s,b.n+1,λr=>if r=k+1 then y else b.v r⟩
noncomputable def ra(k:Nat)(y:Vc):fA:=⟨k+1,1,λ_=>y⟩
noncomputable def N0(r:Nat)(B:Nat->Vc)(l:UX)(i:Nat):Vc:=match nt r l i with
 |some j=>B j
 |none=>jX i
theorem dA(p A N r B l i):(hM p A N r B l i).s=(A i).s:=by unfold hM;split<;>rfl
theorem Al(p A N r B l i):(hM p A N r B l i).n=(A i).n:=by unfold hM;split<;>rfl
theorem VA(p A N r B l i rm):(hM p A N r B l i).has rm=(A i).has rm:=by unfold fA.has;rw[dA,Al]
theorem Zv:(ra k y).has r=decide (r=k+1):=by
 unfold ra fA.has;by_cases h:r=k+1
 ·simp[h]
 ·simp[h];intro;omega
section
variable{p:Int}{w:UK}{wd:UX}{T:UW}{k N r:Nat}{A:Nat->fA}{B:Nat->Vc}{l:UX}
theorem nP(I:g9 p N r B l)(z:i<N):N0 r B l i i=1/\∀c,c<i->N0 r B l i c=0:=by
 unfold N0;cases hj:nt r l i with
 |some j=>
  obtain⟨a,b⟩:=xS hj;subst b;exact⟨I.one j a,λc O=>I.n4 j c a O⟩
 |none=>exact⟨by simp[jX],λc O=>by simp only[jX];rw[UY ⋯]⟩
theorem rq(z:i<N)(O:(A i).has rm=da):(hM p A N r B l i).v rm c%p=sx p A N (N0 r B l i) rm c%p:=by
 unfold hM N0;cases I:nt r l i with
 |some j=>rfl
 |none=>
  show(A i).v rm c%p=_;unfold sx;rw[LJ];congr 1;rw[z6 (f:=λj=>if (A j).has rm=da then jX i j*(A j).v rm c else 0) z λj _ I=>by unfold jX;rw[UY (LD I)];simp];simp[jX,O]
theorem nU(O:0<p)(U:g9 p N r B l)(I:∀j,j<N->p6 p w wd T k (A j))(Y:∀j,j<N->(A j).has k=da)(J:∀i c,i<c->c<N->Ord w (A i) (A c))(z:i<N):p6 p w wd T k (hM p A N r B l i):=by
 unfold hM;split
 ·next j e=>
  obtain⟨a,b⟩:=xS e;subst b;exact BJ O I Y z (λc a b=>J _ c a b) λc d=>U.n4 j c a d
 ·exact I i z
theorem Xy(I:rm<=k)(O:b.s+b.n=k+1):(my k b o).has rm=b.has rm/\(my k b o).v rm=b.v rm:=by
 cases o with
 |none=>exact⟨rfl,rfl⟩
 |some y=>
  refine⟨?_,by simp only[my];rw[UY ⋯]⟩;unfold my fA.has;simp only;congr 1;exact decide_eq_decide.mpr ⋯
theorem V7(I:b.s+b.n=k+1):(my k b o).has (k+1)=o.isSome:=by
 cases o with
 |none=>unfold my fA.has;simp;omega
 |some y=>unfold my fA.has;simp;omega
theorem ue(k b o):(my k b o).s=b.s:=by cases o<;>rfl
theorem Cp(p0:0<p)(U:b.s+b.n=k+1)(z:p6 p w wd T k b)(hr:∀y,o=cq y->∀c,c<wd (k+1)->0<=y c/\y c<p)
 (J:o=none->w k=di->∀c,c<wd (k+1)->app (T k) (wd k) (b.v k) c%p=0) (L:∀y,o=cq y->w k=di->∀c,c<wd (k+1)->app (T k) (wd k) (b.v k) c%p=y c%p)
 (Z:∀y,o=cq y->w k=da->∀c,c<wd k->app (T k) (wd<|k+1) y c%p=b.v k c%p):p6 p w wd T (k+1) (my k b o):=by
 have A:=z.n1;refine⟨?_,?_,λY c i I=>?_,λj B f c I=>?_⟩
 ·cases o with
  |none=>exact z.n1
  |some y=>show 1<=b.n+1;omega
 ·cases o with
  |none=>show b.s+b.n<=k+1+1;omega
  |some y=>show b.s+(b.n+1)<=k+1+1;omega
 ·by_cases r:Y<=k
  ·obtain⟨a,O⟩:=Xy (o:=o) r U
   rw[a]at i;rw[O];exact z.m9 Y c i I
  ·have l:=p3.mp i
   cases o with
   |none=>exact absurd l.2 (by show ¬(Y<b.s+b.n);omega)
   |some y=>
    have:Y=k+1:=by have:Y<b.s+(b.n+1):=l.2;omega
    subst this;have e:(my k b<|some y).v (k+1)=y:=by simp[my]
    rw[e];exact hr y rfl c I
 ·by_cases h:j<k
  ·have g1:zZ w j<=k:=by unfold zZ;split<;>omega
   have g2:z9 w j<=k:=by unfold z9;split<;>omega
   obtain⟨a,O⟩:=Xy (o:=o) g1 U;obtain⟨u,x⟩:=Xy (o:=o) g2 U;rw[a]at f;rw[O,u,x];exact z.arr j h f c I
  ·have h:j=k:=by omega
   subst h;obtain⟨a,O⟩:=Xy (o:=o) (II j) U;have m:=V7 (k:=j) (o:=o) U;have t:b.has j=da:=p3.mpr ⋯;cases hw:w j with
   |false=>
    have g:zZ w j=j:=by unfold zZ;rw[hw];rfl
    have d:z9 w j=j+1:=by unfold z9;rw[hw];rfl
    rw[d]at I;rw[g,d,O,m];cases o with
    |none=>rw[J rfl hw c I];simp
    |some y=>rw[L y rfl hw c I];simp[my]
   | true=>
    have g:zZ w j=j+1:=by unfold zZ;rw[hw];rfl
    have d:z9 w j=j:=by unfold z9;rw[hw];rfl
    rw[d]at I;rw[g,m]at f;rw[g,d,a,O,t];cases o with
    |none=>cases f
    |some y=>
     have e:(my j b<|some y).v (j+1)=y:=by simp[my]
     rw[e,Z y rfl hw c I];simp
theorem BI(J:∀c,c<wd (k+1)->0<=y c/\y c<p)(z:w k=da->∀c,c<wd k->app (T k) (wd<|k+1) y c%p=0):p6 p w wd T (k+1) (ra k y):=by
 refine⟨II _,by show k+1+1<=k+1+1;omega,λf c U I=>?_,λj e O c I=>?_⟩
 ·rw[Zv]at U
  have:=of_decide_eq_true U;subst this;exact J c I
 ·rw[Zv]at O
  have O:=of_decide_eq_true O;cases hw:w j with
  |false=>
   have a:zZ w j=j:=by unfold zZ;rw[hw];rfl
   omega
  |true=>
   have a:zZ w j=j+1:=by unfold zZ;rw[hw];rfl
   have Y:z9 w j=j:=by unfold z9;rw[hw];rfl
   have b:j=k:=by omega
   subst b;rw[Y]at I;have d:(ra j y).has (z9 w j)=di:=by rw[Zv,Y];simp
   rw[d,a];show app (T j) (wd<|j+1) y c%p=_;rw[z hw c I];simp
noncomputable def vQ(p:Int)(k:Nat)(w:UK)(z:List fA)(A:Nat->fA)(N r:Nat)(B:Nat->Vc)(l:UX)(nx:Nat->Option Vc)(I:List Vc):List fA:=
 (z.filter λb=> !b.has k)++(if w k then (IA N).map (λi=>my k (hM p A N r B l i)<|nx i)++I.map (ra k)else I.map (ra k)++(IA N).map λi=>my k (hM p A N r B l i)<|nx i)
theorem gz(p0:0<p)(I:Dq p w wd T k n6)(hN:(n6.filter λb=>b.has k).length=N)(Y:∀j,A j=(n6.filter λb=>b.has k).getD j iG)(O:g9 p N r B l)
 (c1 : ∀i y,i<N->nx i=cq y->∀c,c<wd (k+1)->0<=y c/\y c<p) (c2 : ∀y,y∈news->∀c,c<wd (k+1)->0<=y c/\y c<p)
   (d0:∀i,i<N->nx i=none->w k=di->∀c,c<wd (k+1)->app (T k) (wd k) ((hM p A N r B l i).v k) c%p=0)
   (d1:∀i y,i<N->nx i=cq y->w k=di->∀c,c<wd (k+1)->app (T k) (wd k) ((hM p A N r B l i).v k) c%p=y c%p)
   (d2:∀i y,i<N->nx i=cq y->w k=da->∀c,c<wd k->app (T k) (wd<|k+1) y c%p=(hM p A N r B l i).v k c%p)
   (d3:∀y,y∈news->w k=da->∀c,c<wd k->app (T k) (wd<|k+1) y c%p=0)
   (s1:∀v,Span p (wd<|k+1) (λg=>(∃i,i<N/\nx i=cq g)\/g∈news) v) (n1:(IA N).countP (λi=>(nx i).isSome)+news.length=wd (k+1)):
   Dq p w wd T (k+1) (vQ p k w n6 A N r B l nx news):=by
  have G:∀j,j<N->A j∈n6/\(A j).has k=da:=λj E=>by
   have:A j∈n6.filter λb=>b.has k:=by rw[Y j,IG,ID ⋯];exact MB _
   have:=Li.mp this;exact⟨this.1,by simpa using this.2⟩
  have W:∀j,j<N->p6 p w wd T k (A j):=λj E=>I.ok _ (G j E).1;have Z:∀i c,i<c->c<N->Ord w (A i) (A c):=λi c m u=>by have:=Nc.mp I.od i c ⋯ ⋯ m;rw[Y i,Y c,IG,ID ⋯,IG,ID ⋯];exact this
  have ir:∀i,i<N->p6 p w wd T k (hM p A N r B l i):=λi d=>nU p0 O W (λj E=>(G j E).2) Z d;have a2:∀i,i<N->(hM p A N r B l i).s+(hM p A N r B l i).n=k+1:=λi d=>by rw[dA,Al];have m:=p3.mp (G i d).2;have u:=(W i d).le;omega
  have H:∀b,b∈n6->b.has k=di->b.s+b.n<=k:=λb O R=>by have m:=(I.ok b O).le;have u:=(I.ok b O).n1;refine Nat.not_lt.mp λz=>?_;have:b.has k=da:=p3.mpr ⋯;rw[this]at R;cases R
  have x:∀b,b∈vQ p k w n6 A N r B l nx news↔(b∈n6/\b.has k=di)\/(∃i,i<N/\b=my k (hM p A N r B l i) (nx i))\/∃y,y∈news/\b=ra k y:=λb=>by
   unfold vQ;rw[OD,Li];refine or_congr ⋯ ?_;cases w k<;>simp only[LR,if_false,if_true,OD,Lv,IC]
   ·constructor
    ·rintro(⟨y,m,u⟩|⟨i,m,u⟩)
     ·exact .inr ⟨y,m,u.symm⟩
     ·exact .inl ⟨i,m,u.symm⟩
    ·rintro(⟨i,m,u⟩|⟨y,m,u⟩)
     ·exact .inr ⟨i,m,u.symm⟩
     ·exact .inl ⟨y,m,u.symm⟩
   ·constructor
    ·rintro(⟨i,m,u⟩|⟨y,m,u⟩)
     ·exact .inl ⟨i,m,u.symm⟩
     ·exact .inr ⟨y,m,u.symm⟩
    ·rintro(⟨i,m,u⟩|⟨y,m,u⟩)
     ·exact .inl ⟨i,m,u.symm⟩
     ·exact .inr ⟨y,m,u.symm⟩
  have cnt:∀P:fA->Bool,(vQ p k w n6 A N r B l nx news).countP P=(n6.filter λb=> !b.has k).countP P+(IA N).countP (λi=>P<|my k (hM p A N r B l i)<|nx i)+(news.map<|ra k).countP P:=λP=>by
   unfold vQ;rw[List.countP_append];cases w k<;>simp only[LR,if_false,if_true,List.countP_append,PB (f:=λi=>my k (hM p A N r B l i)<|nx i)]
   ·rw[RA,RK (List.countP P<|List.map (ra k) news)];rfl
   ·rw[RA];rfl
  refine⟨λb b6=>?_,λU hr v=>?_,λU hr=>?_,?_⟩
  ·rcases (x b).mp b6 with⟨m,u⟩|⟨i,d,rfl⟩|⟨y,hy,rfl⟩
   ·have R:=H b m u
    have S:=I.ok b m;refine⟨S.n1,by omega,S.m9,λj E X c M=>?_⟩;have bd:=p3.mp X;refine S.arr j ?_ X c M;have:zZ w j>=j:=by unfold zZ;split<;>omega
    omega
   ·exact Cp p0 (a2 i d) (ir i d) (λy e=>c1 i y d e) (λe=>d0 i d e) (λy e=>d1 i y d e) λy e=>d2 i y d e
   ·exact BI (c2 y hy)<|d3 y hy
  ·by_cases C:U<=k
   ·refine(I.sp U C v).le λg hg=>?_
    obtain⟨b,m,u,rfl⟩:=hg;cases UA:b.has k with
    |false=>exact .gen ⟨b,(x b).mpr (.inl ⟨m,UA⟩),u,rfl⟩
    |true=>
     have b8:b∈n6.filter λb=>b.has k:=Li.mpr ⟨m,by simpa using UA⟩;obtain⟨i,d,e⟩:=Rc b8;have ei:A i=b:=by rw[Y i,IG,ID d];exact e
     rw[<-ei]at u ⊢;refine mz (A:=A) (A':=λi=>hM p A N r B l i) (t:=λi=>N0 r B l i) (λi d=>(nP O d).1) (λi c d M=>(nP O d).2 c M) (λi d Q=>?_) (λi d Q c _=>rq d Q) i ⋯ u;obtain⟨x1,x2⟩:=Xy (o:=nx i) C<|a2 i d;exact .gen ⟨_,(x _).mpr (.inr<|.inl ⟨i,d,rfl⟩),by rw[x1,VA];exact Q,by rw[x2]⟩
   ·have:U=k+1:=by omega
    subst this;refine(s1 v).le λg hg=>?_;rcases hg with⟨i,d,e⟩|hg
    ·refine .gen ⟨_,(x _).mpr (.inr<|.inl ⟨i,d,rfl⟩),?_,?_⟩
     ·rw[V7 (a2 i d),e];rfl
     ·rw[e];simp[my]
    ·exact .gen ⟨_,(x _).mpr (.inr<|.inr ⟨g,hg,rfl⟩),by rw[Zv];simp,rfl⟩
  ·rw[cnt]
   by_cases C:U<=k
   ·have K:(news.map<|ra k).countP (λb=>b.has U)=0:=List.countP_eq_zero.mpr λb O=>by
     obtain⟨y,_,rfl⟩:=Lv.mp O;rw[Zv];simp;omega
    have L:(IA N).countP (λi=>(my k (hM p A N r B l i)<|nx i).has U)=(n6.filter λb=>b.has k).countP λb=>b.has U:=by
     have:(n6.filter λb=>b.has k)=(IA N).map A:=by rw[<-jD iG (n6.filter λb=>b.has k),hN];exact Lf λj _=>(Y j).symm
     rw[this,PB];refine Ni λi d=>?_;have d:=IC.mp d;rw[(Xy (o:=nx i) C<|a2 i d).1,VA];rfl
    rw[K,L,<-I.ct U C,List.countP_eq_countP_filter_add n6 (λb=>b.has U) λb=>b.has k];omega
   ·have:U=k+1:=by omega
    subst this;have J:(n6.filter λb=> !b.has k).countP (λb=>b.has<|k+1)=0:=List.countP_eq_zero.mpr λb O=>by obtain⟨m,u⟩:=Li.mp O;have:=H b m (by simpa using u);intro z;have:=p3.mp z;omega
    have K:(news.map<|ra k).countP (λb=>b.has<|k+1)=news.length:=by rw[List.countP_eq_length.mpr λb O=>?_,Lc];obtain⟨y,_,rfl⟩:=Lv.mp O;rw[Zv];simp
    have L:(IA N).countP (λi=>(my k (hM p A N r B l i)<|nx i).has (k+1))=(IA N).countP λi=>(nx i).isSome:=Ni λi d=>by rw[V7 (a2 i<|IC.mp d)]
    rw[J,K,L];omega
  ·have J:((n6.filter λb=> !b.has k).filter λb=>b.has<|k+1)=[]:=List.filter_eq_nil_iff.mpr λb O=>by
    obtain⟨m,u⟩:=Li.mp O;have:=H b m (by simpa using u);intro z;have:=p3.mp z;omega
   have pO:((IA N).map λi=>my k (hM p A N r B l i)<|nx i).Pairwise (Ord w):=by rw[Of];refine Ou (λ{a b} F O h=>?_)<|Oe (n:=N);have:=Z a b h<|IC.mp O;unfold Ord;rw[ue,ue,dA,dA];exact this
   have pN:(news.map<|ra k).Pairwise (Ord w):=by
    rw[Of];refine Nc.mpr λ_ _ _ _ _=>⟨λz=>?_,λz=>?_⟩
    ·exact absurd z<|LL<|k+1
    ·exact absurd z<|LL<|k+1
   have so:∀b,b∈(IA N).map (λi=>my k (hM p A N r B l i)<|nx i)->b.s<=k:=λb O=>by obtain⟨i,d,rfl⟩:=Lv.mp O;have d:=IC.mp d;rw[ue,dA];exact(p3.mp (G i d).2).1
   have sn:∀b,b∈news.map (ra k)->b.s=k+1:=λb O=>by obtain⟨y,_,rfl⟩:=Lv.mp O;rfl
   unfold vQ;rw[NS,J,NQ];refine Pc _ ?_;cases hw:w k with
   |false=>
    simp only[LR,if_false];refine List.pairwise_append.mpr ⟨pN,pO,λa F b O=>?_⟩;have m:=sn a F;have u:=so b O;exact⟨λz=>by omega,λ_=>by rw[m];exact hw⟩
   |true=>
    simp only[if_true];refine List.pairwise_append.mpr ⟨pO,pN,λa F b O=>?_⟩;have m:=sn b O;have u:=so a F;exact⟨λ_=>by rw[m];exact hw,λz=>by omega⟩
end
theorem XM(I:Pr p)(O:h<=100)(z:w<=lim)(f:UV):
 ∃r B l,ZG [.int p,j8 h w f]=cq (.own<|zX r h B)/\g9 p h r B l/\∀v,Span p h (ef r B) v↔Span p h (ef w λj i=>f i j) v:=by
 obtain⟨r,B,l,e,U,a⟩:=vx I O z .T λj i=>f i j;have Y:=jj;refine⟨r,B,l,?_,U,a⟩;simp only[sh]at e;have o:=yv f (show h<=lim by omega) z;unfold j8 at o ⊢;simp[ZG,jq,z7,o,e]
theorem Y8(P:Nat->Ctx->Prop):∀(ds es:List D) (k:Nat) (γ:Ctx),P k γ->(∀i d γ,ds[i]? = cq d->P (k+i) γ->∃γ',(kL T d γ).bind F=cq (.next γ')/\P (k+i+1) γ')->
 ∃γ',P (k+ds.length) γ'/\kW T F (ds++es) γ=kW T F es γ'
 |[],es,k,γ,h,_=>⟨γ,h,rfl⟩
 | d::ds,es,k,γ,h,step=>by
  obtain⟨a,e,f⟩:=step 0 d γ rfl h;obtain⟨γ',g,I⟩:=Y8 P ds es (k+1) a (by simpa using f) (λi b O j U=>by have:=step (i+1) b O (by simpa using j) (by rw[show k+(i+1)=k+1+i by omega];exact U);rw[show k+(i+1)+1=k+1+i+1 by omega]at this;exact this)
  refine⟨γ',by rw[show k+(d::ds).length=k+1+ds.length by simp;omega];exact g,?_⟩;rw[RL,qW];cases eb:kL T d γ with
  |none=>rw[eb]at e;simp at e
  |some Y=>
   rw[eb]at e;simp only[IF]at e ⊢;rw[e];exact I
theorem az(n:Nat)(v:Vc):xw (zG n v)=(IA n).map λ(i:Nat)=>D.tup [.int i,.int (v i)]:=by unfold xw;rw[kZ];refine Lf λi a=>?_;have:=IC.mp a;simp[zG,this]
theorem vw(Z:n<=lim)(v:Vc)(Y:a<n)(L:∀i,i<a->v i=0)(J:v a≠0):qJ [.tup (zG n v)]=cq (.val<|.int a):=by
 have d:zY (.tp [0,1]) (sB<|zI l5 (zh 1)<|zy<|.int 0) (zh 0) [Cell.no,Cell.no] ((IA n).map λ(i:Nat)=>D.tup [.int i,.int (v i)])=cq (((IA n).filter λi=> !decide (v i=0)).map λ(i:Nat)=>D.int i):=by refine jt _ _ _ λi f=>⟨_,rfl,?_,λ_=>rfl⟩;simp
 cases hf:(IA n).filter λi=> !decide (v i=0)with
 |nil=>exact absurd (by have:=fF hf a Y;simpa using this) J
 | cons b yR=>
  obtain⟨U,I,O⟩:=Vb hf;have e:b=a:=by
   rcases Oh a b with z|z|z
   ·exact absurd (by have:=O a z;simpa using this) J
   ·exact z.symm
   ·exact absurd (L b z) (by simpa using I)
  subst e;rw[hf]at d;simp[qJ,jq,z7,az,Z,jk,IE,d]
theorem cE(L:a<n)(v I:Vc)(x:Int)(z:I a=x)(J:∀i,i<n->i≠a->I i=v i):(zG n v).set a (.int x)=zG n I:=by
 apply List.ext_getElem?;intro i;rw[List.getElem?_set];by_cases b:i<n
 ·by_cases e:a=i
  ·subst e;simp[L,zG,z]
  ·have:=J i b (LD e)
   simp[e,zG,b,this]
 ·have O:(zG n v)[i]? = none:=by simp[zG];omega
  have d:(zG n I)[i]? = none:=by simp[zG];omega
  rw[O,d,UY ⋯]
noncomputable def Wj(w:Nat)(B:Nat->Vc)(l:UX)(r:Nat):Vc:=λj=>zm (λk=>if l k=j then B k w else 0) r
noncomputable def yo:=(zS (jr 6<|zE qJ<|zb (zh 5) zF)<|zS (kv (sB<|zI gw (zh 6)<|zh 3) (qt<|zy .d7) qF)<|dM 4 (zh 6)<|dj (zk 5)<|zh 3)
section
variable{p:Int}{h w r:Nat}
theorem W6{l:UX}(J:∀k m,k<m->m<r->l k<l m){k m:Nat}(I:k<r)(O:m<r)(e:l k=l m):k=m:=by
 rcases Oh k m with z|z|z
 ·have:=J k m z O;omega
 ·exact z
 ·have:=J m k z I;omega
noncomputable def aug(w:Nat)(f:UV)(b:Vc):Nat->Vc:=λi j=>if j<w then f i j else b i
theorem bh(J:w+1<=lim)(z:g9 p (w+1) r B l)(hs:s<=r)(L:∀k,k<s->l k<w)(es:List D)(a0 U Y:Cell):
 ∃I O,kW (.nm 5) yo (zX s (w+1) B++es) [a0,U,Y,.val<|.int w,.own<|zG w λ_=>0,.no,.no]=kW (.nm 5) yo es [a0,U,Y,.val<|.int w,.own<|zG w<|Wj w B l s,I,O]:=by
 obtain⟨G,⟨I,O,rfl⟩,e⟩:=Y8 (T:=.nm 5) (F:=yo) (λt u=>∃I O,u=[a0,U,Y,.val<|.int w,.own<|zG w<|Wj w B l t,I,O]) (zX s (w+1) B) es 0 [a0,U,Y,.val<|.int w,.own<|zG w λ_=>0,.no,.no]
  ⟨.no,.no,by rw[wQ (f:=Wj w B l 0) (g:=λ_=>0) λi _=>rfl]⟩ (by
   rintro k d u h ⟨I,O,rfl⟩;rw[LS];have o:k<s:=by have:=(Ll.mp h).1;simpa using this
   have x:d=.tup (zG (w+1)<|B k):=by simp[o]at h;exact h.symm
   subst x;have a:k<r:=by omega
   have j:=L k o;have le:=vw J (B k) (show l k<w+1 by omega) (λi n=>z.n4 k i a n) (by rw[z.one k a];decide);refine⟨_,?_,.val<|.tup<|zG (w+1)<|B k,.val<|.int<|l k,rfl⟩;have b:¬((l k:Int)=(w:Int)):=by omega
   have y:¬l k=w:=by omega
   have E:w<w+1:=by omega
   have A:=cE j (Wj w B l k) (Wj w B l<|k+1) (B k w) (by
    unfold Wj;simp only[zm,if_true];rw[zA (g:=λ_=>0) λm C=>by rw[UY λe=>by have:=z.mono m k C a;omega],zT]
    omega) (λi n b=>by
    unfold Wj;simp only[zm];rw[UY (LD b)];omega)
   simp[yo,jO,le,b,y,j,E,A])
 rw[nh]at e;refine⟨I,O,?_⟩;rw[e];rw[LS]
theorem uA(w:Nat)(f:UV)(b:Vc)(i:Nat):zG w (f i)++[.int (b i)]=zG (w+1) (aug w f b i):=by
 unfold zG;rw[MA,LQ];congr 1
 ·exact Lf λj I=>by simp[aug,IC.mp I]
 ·simp[aug]
theorem QH(Y:Pr p)(Z:h<=190)(hw:w<=190)(f:UV)(b:Vc):
 ∃r B l s,g9 p (w+1) r B l/\(∀v,Span p (w+1) (ef r B) v↔Span p (w+1) (ef h<|aug w f b) v)/\s<=r/\(∀k,k<s->l k<w)/\(∀k,s<=k->k<r->w<=l k)/\
  vG [.int p,j8 h w f,.tup (zG h b)]=cq (.val<|if s<r then .d7 else .tup (zG w<|Wj w B l s)):=by
 have S:=jj;have U:h<=lim:=by omega
 have n:w<=lim:=by omega
 have O:w+1<=lim:=by omega
 obtain⟨r,B,l,e,I,o⟩:=yM Y (show w+1<=200 by omega) U .L<|aug w f b;obtain⟨s,j,m,g⟩:=Jd w I.mono;refine⟨r,B,l,s,I,o,j,m,g,?_⟩;have a:zY (.tp [0,1]) jw (zI qu (zh 0)<|xF<|zb (zh 1) zF) [Cell.no,Cell.no] ((IA h).map λi=>D.tup [.tup (zG w<|f i),.int (b i)])=cq (zX h (w+1)<|aug w f b):=by unfold zX;refine zC _ _ λi F=>zB rfl rfl ?_;simp[qu,O,uA]
 have K:yW (zX h w f) (zG h b)=(IA h).map λi=>D.tup [.tup (zG w<|f i),.int (b i)]:=by unfold yW zX zG;rw[Ox];simp
 have t:IE w (D.int 0)=zG w λ_=>0:=by rw[dY];rfl
 have A:((w+1:Nat):Int)=(w:Int)+1:=by omega
 simp only[sh]at e;rw[A]at e;obtain⟨d,E⟩:∃d,r=s+d:=⟨r-s,by omega⟩;have H:zX r (w+1) B=zX s (w+1) B++zX d (w+1) λk=>B (s+k):=by unfold zX;rw[E,Oi,LQ,Ly];rfl
 obtain⟨M,N,G⟩:=bh O I j m (zX d (w+1) λk=>B<|s+k) (.val<|.int p) (.val<|j8 h w f)<|.val<|.tup<|zG h b;have J:jA (j8 h w f)=cq (.T,[.int h,.int w,.tup (zX h w f)]):=rfl;have C:vG=jq 7 (zS (jr 3<|dj (zk 1)<|zy<|.int 1)<|zS (kB 4<|Yq (jz<|jH<|zb (zy<|.int 0) zF)<|zh 3)<|zS (ZV (zR<|zJ<|jG<|jg xD<|zb (zh 0)<|zb (zI qu (zh 3)<|zy<|.int 1)<|zb (jG<|zU (QR (dj (zk 1)<|zy<|.int 2)<|zh 2) (.tp [0,1]) 2 [] jw (zI qu (zh 0)<|xF<|zb (zh 1) zF)) zF) (.nm 5) yo)<|qt<|jb<|zk 4):=rfl;rw[C];simp[jq,z7,jO,J,n,K,U,jk,IE,a,e];rw[t,H,G];by_cases z:s<r
 ·
  have u:d=1:=by
   rcases Lg 1 d with q|q
   ·have P:=I.mono s (s+1) ⋯ ⋯
    have Q:=g s (II _) z;have R:=I.lt (s+1) ⋯;omega
   ·omega
  subst u;have x:l s=w:=by have:=g s (II _) z;have:=I.lt s z;omega
  have le:=vw O (B s) (show w<w+1 by omega) (λi F=>I.n4 s i z ⋯) (by have:=I.one s z;rw[x]at this;rw[this];decide);have one:zX 1 (w+1) (λk=>B<|s+k)=[.tup (zG (w+1)<|B s)]:=rfl;rw[one,qW];simp[yo,jO,le,z]
 ·have y:d=0:=by omega
  subst y;have zero:zX 0 (w+1) (λk=>B<|s+k)=[]:=rfl;rw[zero];simp[kW,z]
end
theorem uH(γ:Ctx)(i g):VD i g γ=(ya γ[i]?).bind λds=>(g γ).bind λa=>match a.1 with
 |.T=>if ds.length+a.2.length<=lim then cq (.next<|γ.set i<|.own<|ds++a.2)else none
 |.L=>none:=rfl
noncomputable def off(hs ws:UX):Nat->Nat
 |0=>0
 |k+1=>off hs ws k+hs k*ws k
noncomputable def u7(hs ws:UX)(T:UW):Nat->Nat->Int
 |0,_=>0
 |k+1,x=>if x<off hs ws k then u7 hs ws T k x else T k ((x-off hs ws k)/ws k) ((x-off hs ws k)%ws k)
noncomputable def g7(n:Nat)(hs ws:UX)(T:UW):List D:=(IA n).map λk=>j8 (hs k) (ws k)<|T k
noncomputable def h8(n:Nat)(hs ws:UX):List D:=(IA n).map λk=>D.tup [.int (hs k:Nat),.int (ws k:Nat)]
section
variable{hs ws:UX}{T:UW}
theorem Kk{a b:Nat}(h:a<=b):off hs ws a<=off hs ws b:=by
 induction b with
 |zero=>
  obtain rfl:a=0:=by omega
  exact II _
 | succ b I=>
  by_cases e:a=b+1
  ·subst e;exact II _
  ·have:=I ⋯
   show _<=off hs ws b+hs b*ws b;omega
theorem uq{h w i j:Nat}(z:i<h)(I:j<w):i*w+j<h*w:=by have:(i+1)*w<=h*w:=Ow w z;rw[OT]at this;omega
theorem ig{n k i j:Nat}(O:k<n)(z:i<hs k)(I:j<ws k):off hs ws k+i*ws k+j<off hs ws n:=by have a:=Kk (hs:=hs) (ws:=ws) (show k+1<=n by omega);have b:=uq z I;have:off hs ws (k+1)=off hs ws k+hs k*ws k:=rfl;omega
theorem pq{w i j:Nat}(I:j<w):(i*w+j)/w=i/\(i*w+j)%w=j:=by
 have a:0<w:=by omega
 constructor
 ·rw[RK,Nat.add_mul_div_right _ _ a,RT I,LS]
 ·rw[RK,Nat.add_mul_mod_self_right,RQ I]
theorem Xd{k i j:Nat}(z:i<hs k)(I:j<ws k):∀n,k<n->u7 hs ws T n (off hs ws k+i*ws k+j)=T k i j
 |0,h=>by omega
 | n+1,h=>by
  unfold u7;by_cases e:k=n
  ·subst e
   rw[UY ⋯];have:off hs ws k+i*ws k+j-off hs ws k=i*ws k+j:=by omega
   rw[this,(pq I).1,(pq I).2]
  ·have:=ig (hs:=hs) (ws:=ws) (show k<n by omega) z I
   rw[UJ this];exact Xd z I n ⋯
theorem sH:∀(n x:Nat),x<off hs ws n->∃k i j,k<n/\i<hs k/\j<ws k/\x=off hs ws k+i*ws k+j
 |0,x,h=>by simp[off]at h
 | n+1,x,h=>by
  by_cases e:x<off hs ws n
  ·obtain⟨k,i,j,d,a,I,O⟩:=sH n x e
   exact⟨k,i,j,by omega,a,I,O⟩
  ·have h:x<off hs ws n+hs n*ws n:=h
   have b:0<ws n:=by apply Nat.pos_of_ne_zero;intro z;rw[z,Nat.mul_zero]at h;omega
   refine⟨n,(x-off hs ws n)/ws n,(x-off hs ws n)%ws n,by omega,Nat.div_lt_of_lt_mul ?_,Nat.mod_lt _ b,?_⟩
   ·rw[Nb];omega
   ·have:=Nat.div_add_mod (x-off hs ws n) (ws n)
    rw[Nb]at this;omega
theorem mY{a b:Nat}{f g h:Nat->Int}(z:∀x,x<a->h x=f x)(I:∀x,x<b->h (a+x)=g x):zG a f++zG b g=zG (a+b) h:=by
 unfold zG;rw[Oi,LQ,Ly];congr 1
 ·exact Lf λx d=>by rw[z x (IC.mp d)]
 ·exact Lf λx d=>by simp only[PR];rw[I x (IC.mp d)]
theorem ZC(n f):(zG n f).length=n:=by simp[zG]
theorem du(n hs ws T):(g7 n hs ws T).length=n:=by simp[g7]
theorem rk(n hs ws):(h8 n hs ws).length=n:=by simp[h8]
theorem nQ{n k:Nat}(h:k<n):(g7 n hs ws T)[k]? = cq (j8 (hs k) (ws k)<|T k):=by unfold g7;simp[h]
theorem pI(U Y:Cell)(w:Nat)(f:UV)(a:Nat)(g G:Nat->Int)(J:∀x,x<a->G x=g x)(h:Nat)(z:∀i j,i<h->j<w->G (a+i*w+j)=f i j)(hz:a+h*w<=2000)(I:Cell):
 ∃O,kW (.nm 3) (VD 1<|zk 3) (zX h w f) [U,.own<|zG a g,Y,I]=cq (.next [U,.own<|zG (a+h*w) G,Y,O]):=by
 have p:=jj;have d:∀(k s:Nat) (I:Cell),s+k=h->∃O,kW (.nm 3) (VD 1<|zk 3) ((O1 s k).map λi=>D.tup<|zG w<|f i) [U,.own<|zG (a+s*w) G,Y,I]=cq (.next [U,.own<|zG (a+h*w) G,Y,O]):=by
  intro k
  induction k with
  |zero=>
   intro s I e;obtain rfl:s=h:=by omega
   exact⟨I,rfl⟩
  |succ k m=>
   intro s I e;obtain⟨O,q⟩:=m (s+1) (.val<|.tup<|zG w<|f s) ⋯;refine⟨O,?_⟩;rw[<-q,Oo,Lk,qW];have n:(s+1)*w<=h*w:=Ow w ⋯;have o:(s+1)*w=s*w+w:=OT s w;have le:a+s*w+w<=lim:=by omega
   have l:zG (a+s*w) G++zG w (f s)=zG (a+(s+1)*w) G:=by rw[show a+(s+1)*w=a+s*w+w by omega];exact mY (λx _=>rfl) λx b=>z s x ⋯ b
   simp only[Jr,IF,Mb,Ma,uH,ql,IJ,n7,ya,jf,qA,ZC,le,if_true,l]
 obtain⟨O,q⟩:=d h 0 I ⋯;refine⟨O,?_⟩;rw[<-NA,Nat.zero_mul,PK]at q;rw[wQ (f:=g) (g:=G) λx b=>(J x b).symm];exact q
theorem aR{n:Nat}(hz:off hs ws n<=2000):vo [.lst (g7 n hs ws T)]=cq (.val<|.tup<|zG (off hs ws n)<|u7 hs ws T n):=by
 have h:hH 3 2=cq 2:=rfl;have a:∀(k s:Nat) (Y I:Cell),s+k=n->∃O U,kW (.nm 2) (ZV (zR<|zJ<|dj (zk 2)<|zy<|.int 2) (.nm 3)<|VD 1<|zk 3) ((O1 s k).map λk=>j8 (hs k) (ws k)<|T k) [.val (.lst<|g7 n hs ws T),.own<|zG (off hs ws s)<|u7 hs ws T s,Y,I]=cq (.next [.val (.lst<|g7 n hs ws T),.own<|zG (off hs ws n)<|u7 hs ws T n,O,U]):=by
  intro k
  induction k with
  |zero=>
   intro s Y I e;obtain rfl:s=n:=by omega
   exact⟨Y,I,rfl⟩
  | succ k l=>
   intro s Y I e;have t:=Kk (hs:=hs) (ws:=ws) (show s+1<=n by omega);obtain⟨b,r⟩:=pI (.val<|.lst<|g7 n hs ws T) (.val<|j8 (hs s) (ws s)<|T s) (ws s) (T s) (off hs ws s) (u7 hs ws T s) (u7 hs ws T<|s+1) (λx g=>by show(if x<off hs ws s then _ else _)=_;rw[UJ g]) (hs s) (λi j d f=>Xd d f (s+1) ⋯) (by
    have:off hs ws (s+1)=off hs ws s+hs s*ws s:=rfl;omega) I
   obtain⟨O,U,q⟩:=l (s+1) (.val<|j8 (hs s) (ws s)<|T s) b ⋯;refine⟨O,U,?_⟩;rw[<-q,Oo,Lk,qW];have p:=pZ (hs s) (ws s)<|T s;simp only[Jr,IF,Mb,Ma,aM,km,xT,wX,ql,vn,IJ,n7,Lm,LH,LS,MQ,jf,IU,p,qE,h,qA,r];rfl
 obtain⟨O,U,q⟩:=a n 0 .no .no ⋯;rw[<-NA]at q;have m:(kB 1<|jH zF) (z7 4 [.lst (g7 n hs ws T)])=cq (.next [.val (.lst<|g7 n hs ws T),.own<|zG (off hs ws 0)<|u7 hs ws T 0,.no,.no]):=rfl;have o:(ZV (zR<|zJ<|zh 0) (.nm 2)<|ZV (zR<|zJ<|dj (zk 2)<|zy<|.int 2) (.nm 3)<|VD 1<|zk 3) [.val (.lst<|g7 n hs ws T),.own<|zG (off hs ws 0)<|u7 hs ws T 0,.no,.no]=cq (.next [.val (.lst<|g7 n hs ws T),.own<|zG (off hs ws n)<|u7 hs ws T n,O,U]):=by rw[aM];simp only[km,xT,qY,IJ,ja,IF,kM,IU];exact q
 exact je<|zu m<|zu o rfl
theorem um{n a b:Nat}(u:Nat->Int)(z:a<=b)(I:b<=n):cV (zG n u) (cq (a:Int)) (cq (b:Int))=zG (b-a) λx=>u (a+x):=by unfold zG;exact gU (λx=>D.int<|u x) z I
noncomputable def T8:=(zS (jr 6<|jG<|zU (jK<|zh 4) (.nm 0) 1 [1,3,5] jw (WL (zh 1) (p5<|zI qu (zh 2)<|zI yw (zh 0)<|zh 3)<|p5<|zI qu (zh 2)<|zI yw (zI qu (zh 0)<|zy<|.int 1)<|zh 3))<|zS (yz 2<|xF<|zb (zh 4)<|zb (zh 5)<|zb (jb<|zk 6) zF)<|jr 3<|zI qu (zh 3)<|zI yw (zh 4)<|zh 5)
noncomputable def kH(hs ws:UX)(u:Nat->Int)(k i j:Nat):Int:=u<|off hs ws k+i*ws k+j
theorem ZI{n:Nat}(hn:n<=100)(L:∀k,hs k<=100)(Z:∀k,ws k<=100)(u:Nat->Int){N:Nat}(J:N=off hs ws n):qg [.lst (h8 n hs ws),.tup (zG N u)]=cq (.own<|g7 n hs ws<|kH hs ws u):=by
 have W:=jj;subst J;have j:∀(k s:Nat) (O U I:Cell),s+k=n->∃Y d f,kW (.tp [4,5]) T8 ((O1 s k).map λk=>D.tup [.int (hs k:Nat),.int (ws k:Nat)]) [.val (.lst<|h8 n hs ws),.val<|.tup<|zG (off hs ws n) u,.own<|g7 s hs ws<|kH hs ws u,.val<|.int (off hs ws s:Nat),O,U,I]=cq (.next [.val (.lst<|h8 n hs ws),.val<|.tup<|zG (off hs ws n) u,.own<|g7 n hs ws<|kH hs ws u,.val<|.int (off hs ws n:Nat),Y,d,f]):=by
  intro k
  induction k with
  |zero=>
   intro s O U I e;obtain rfl:s=n:=by omega
   exact⟨O,U,I,rfl⟩
  | succ k G=>
   intro s O U I e;obtain⟨Y,d,f,q⟩:=G (s+1) (.val<|.int (hs s:Nat)) (.val<|.int (ws s:Nat)) (.val<|.lst<|zX (hs s) (ws s)<|kH hs ws u s) ⋯;refine⟨Y,d,f,?_⟩;rw[<-q,Oo,Lk,qW];have Q:=L s;have g:=Z s;have R:=Kk (hs:=hs) (ws:=ws) (show s+1<=n by omega);have E:off hs ws (s+1)=off hs ws s+hs s*ws s:=rfl;have p:∀x y:Nat,y<=100->XF (x:Int) (y:Int)=da:=λx y F=>XE _ _ ⋯ ⋯;have r:∀x y:Nat,y<=100->XF ((x:Int)+1) (y:Int)=da:=λx y F=>XE _ _ ⋯ ⋯;have C:kL (.tp [4,5]) (.tup [.int (hs s:Nat),.int (ws s:Nat)]) [.val (.lst<|h8 n hs ws),.val<|.tup<|zG (off hs ws n) u,.own<|g7 s hs ws<|kH hs ws u,.val<|.int (off hs ws s:Nat),O,U,I]=cq [.val (.lst<|h8 n hs ws),.val<|.tup<|zG (off hs ws n) u,.own<|g7 s hs ws<|kH hs ws u,.val<|.int (off hs ws s:Nat),.val<|.int (hs s:Nat),.val<|.int (ws s:Nat),I]:=rfl;have H:zY (.nm 0) jw (WL (zh 1) (p5<|zI qu (zh 2)<|zI yw (zh 0)<|zh 3)<|p5<|zI qu (zh 2)<|zI yw (zI qu (zh 0)<|zy<|.int 1)<|zh 3) [Cell.no,.val<|.tup<|zG (off hs ws n) u,.val<|.int (off hs ws s:Nat),.val (.int (ws s:Nat))] ((IA<|hs s).map λi:Nat=>D.int (i:Int))=cq (zX (hs s) (ws s)<|kH hs ws u s):=by
    unfold zX;refine zC _ _ λi h=>zB rfl rfl ?_;have h:=IC.mp h;have S:(i+1)*ws s<=hs s*ws s:=Ow _ h;have T:(i+1)*ws s=i*ws s+ws s:=OT i<|ws s;have z:=um (n:=off hs ws n) (a:=off hs ws s+i*ws s) (b:=off hs ws s+(i+1)*ws s) u ⋯ ⋯;have A:(off hs ws s:Int)+(i:Int)*(ws s:Int)=((off hs ws s+i*ws s:Nat):Int):=by rw[OI,NX]
    have B:(off hs ws s:Int)+((i:Int)+1)*(ws s:Int)=((off hs ws s+(i+1)*ws s:Nat):Int):=by rw[OI,NX];rfl
    show WL _ _ _ [Cell.val (.int (i:Int)),.val<|.tup<|zG (off hs ws n) u,.val<|.int (off hs ws s:Nat),.val (.int (ws s:Nat))]=_;simp only[CK,qY,GK,aN,vn,IJ,n7,ja,IF,aE,aD,p i (ws s) g,r i (ws s) g,if_true,qE,IU,A,B,z];congr 2;rw[show off hs ws s+(i+1)*ws s-(off hs ws s+i*ws s)=ws s by omega];rfl
   have M:inR (hs s:Int)=da:=J3 ⋯ ⋯;have w:hs s<=lim:=by omega
   have l:(jr 6<|jG<|zU (jK<|zh 4) (.nm 0) 1 [1,3,5] jw (WL (zh 1) (p5<|zI qu (zh 2)<|zI yw (zh 0)<|zh 3)<|p5<|zI qu (zh 2)<|zI yw (zI qu (zh 0)<|zy<|.int 1)<|zh 3)) [.val (.lst<|h8 n hs ws),.val<|.tup<|zG (off hs ws n) u,.own<|g7 s hs ws<|kH hs ws u,.val<|.int (off hs ws s:Nat),.val<|.int (hs s:Nat),.val<|.int (ws s:Nat),I]=cq (.next [.val (.lst<|h8 n hs ws),.val<|.tup<|zG (off hs ws n) u,.own<|g7 s hs ws<|kH hs ws u,.val<|.int (off hs ws s:Nat),.val<|.int (hs s:Nat),.val<|.int (ws s:Nat),.val (.lst<|zX (hs s) (ws s)<|kH hs ws u s)]):=by rw[xY,ZQ,qm,wW,qY];simp only[IJ,n7,ja,IF,qE,M,if_true,Mm,qL,kZ,w];rw[qp (hs s) λi=>(i:Int),show jk 1 [1,3,5] [.val (.lst<|h8 n hs ws),.val<|.tup<|zG (off hs ws n) u,.own<|g7 s hs ws<|kH hs ws u,.val<|.int (off hs ws s:Nat),.val<|.int (hs s:Nat),.val<|.int (ws s:Nat),I]=[Cell.no,.val<|.tup<|zG (off hs ws n) u,.val<|.int (off hs ws s:Nat),.val (.int (ws s:Nat))]from rfl,H];rfl
   have t:s<lim:=by omega
   have K:3<=lim:=by omega
   have P:=du s hs ws<|kH hs ws u;have m:(yz 2<|xF<|zb (zh 4)<|zb (zh 5)<|zb (jb<|zk 6) zF) [.val (.lst<|h8 n hs ws),.val<|.tup<|zG (off hs ws n) u,.own<|g7 s hs ws<|kH hs ws u,.val<|.int (off hs ws s:Nat),.val<|.int (hs s:Nat),.val<|.int (ws s:Nat),.val (.lst<|zX (hs s) (ws s)<|kH hs ws u s)]=cq (.next [.val (.lst<|h8 n hs ws),.val<|.tup<|zG (off hs ws n) u,.own<|g7 (s+1) hs ws<|kH hs ws u,.val<|.int (off hs ws s:Nat),.val<|.int (hs s:Nat),.val<|.int (ws s:Nat),.val (.lst<|zX (hs s) (ws s)<|kH hs ws u s)]):=by rw[show g7 (s+1) hs ws (kH hs ws u)=g7 s hs ws (kH hs ws u)++[j8 (hs s) (ws s) (kH hs ws u s)]from X6 _ _];simp only[QG,Vq,jM,kN,qY,ql,XH,IJ,n7,ja,jf,ya,kM,IF,IU,Lm,LH,LS,MQ,K,if_true,P,t,Mb,Ma];rfl
   have o:(jr 3<|zI qu (zh 3)<|zI yw (zh 4)<|zh 5) [.val (.lst<|h8 n hs ws),.val<|.tup<|zG (off hs ws n) u,.own<|g7 (s+1) hs ws<|kH hs ws u,.val<|.int (off hs ws s:Nat),.val<|.int (hs s:Nat),.val<|.int (ws s:Nat),.val (.lst<|zX (hs s) (ws s)<|kH hs ws u s)]=cq (.next [.val (.lst<|h8 n hs ws),.val<|.tup<|zG (off hs ws n) u,.own<|g7 (s+1) hs ws<|kH hs ws u,.val<|.int (off hs ws (s+1):Nat),.val<|.int (hs s:Nat),.val<|.int (ws s:Nat),.val (.lst<|zX (hs s) (ws s)<|kH hs ws u s)]):=by simp only[xY,aN,qY,IJ,n7,ja,IF,aD,p (hs s) (ws s) g,if_true,aE,IU,Mb,Ma];rw[E,OI,NX]
   rw[C];simp only[IF];rw[show T8 _=_ from zu l (zu m o)];rfl
 obtain⟨O,U,I,q⟩:=j n 0 .no .no .no ⋯;rw[<-NA]at q;have l:(kB 2<|jH zF) (z7 7 [.lst (h8 n hs ws),.tup (zG (off hs ws n) u)])=cq (.next [.val (.lst<|h8 n hs ws),.val<|.tup<|zG (off hs ws n) u,.own<|g7 0 hs ws<|kH hs ws u,.no,.no,.no,.no]):=rfl;have m:(jr 3<|zy<|.int 0) [.val (.lst<|h8 n hs ws),.val<|.tup<|zG (off hs ws n) u,.own<|g7 0 hs ws<|kH hs ws u,.no,.no,.no,.no]=cq (.next [.val (.lst<|h8 n hs ws),.val<|.tup<|zG (off hs ws n) u,.own<|g7 0 hs ws<|kH hs ws u,.val<|.int (off hs ws 0:Nat),.no,.no,.no]):=rfl;have o:(ZV (zR<|zJ<|zh 0) (.tp [4,5]) T8) [.val (.lst<|h8 n hs ws),.val<|.tup<|zG (off hs ws n) u,.own<|g7 0 hs ws<|kH hs ws u,.val<|.int (off hs ws 0:Nat),.no,.no,.no]=cq (.next [.val (.lst<|h8 n hs ws),.val<|.tup<|zG (off hs ws n) u,.own<|g7 n hs ws<|kH hs ws u,.val<|.int (off hs ws n:Nat),O,U,I]):=by rw[aM];simp only[km,xT,qY,IJ,ja,IF,kM,IU];exact q
 exact je<|zu l<|zu m<|zu o rfl
theorem fD(hs ws:UX):∀n,zm (λk=>(hs k:Int)*(ws k:Int)) n=(off hs ws n:Nat)
 |0=>rfl
 |n+1=>by show zm _ n+_=((off hs ws n+hs n*ws n:Nat):Int);rw[fD hs ws n,OI,NX]
theorem ki{n:Nat}(J:n<=100)(z:∀k,ws k<=100):jS [.lst (h8 n hs ws)]=cq (.val<|.int (off hs ws n:Nat)):=by
 have d:=jj;have I:n<=lim:=by omega
 have a:zY (.tp [0,1]) jw (zI yw (zh 0)<|zh 1) [Cell.no,Cell.no] (h8 n hs ws)=cq (zG n λk=>(hs k:Int)*(ws k:Int)):=by unfold h8;rw[qp n λk=>(hs k:Int)*(ws k:Int)];refine zC _ _ λk b=>zB rfl rfl ?_;have O:XF (hs k:Int) (ws k:Int)=da:=XE _ _ ⋯ (by have:=z k;omega);show zI _ _ _ [Cell.val (.int (hs k:Nat)),Cell.val (.int (ws k:Nat))]=_;simp[O]
 have U:=wj (λk=>(hs k:Int)*(ws k:Int)) n;have Y:=rk n hs ws;refine je ?_;show((iH _) [.val (.lst<|h8 n hs ws)]).map _=_;simp only[aL,wc,qm,km,ql,IJ,jf,kM,IU,IF,Y,I,if_true];rw[show jk 2 [] [Cell.val (.lst<|h8 n hs ws)]=[Cell.no,Cell.no]from rfl,a];simp only[IU,IF,U,fD]
end
section
variable{p:Int}{m:Nat}{w:UK}{wd wd':UX}{T T' S:UW}
noncomputable def pd(p:Int)(w:UK)(wd wd':UX)(T T' S:UW)(k i j:Nat):Int:=
 (zm (λt=>T' k t j*S (z9 w k) i t) (ft w wd' k)%p+(-1)*(zm (λt=>S (zZ w k) t j*T k i t) (e9 w wd k)%p))%p
theorem yA(J:m<=4):q8 [zO p m w wd' T',zO p m w wd T]=cq (.own<|h8 (m+1) wd wd'):=by
 have U:=jj;have I:m+1<=lim:=by omega
 have O:=kC p m w wd T;have b:=kC p m w wd' T';have a:hH 3 1=cq 1:=rfl;have z:yW (zG (m+1) λk=>(wd k:Int)) (zG (m+1) λk=>(wd' k:Int))=h8 (m+1) wd wd':=wg (m+1) (λk=>(wd k:Int)) λk=>(wd' k:Int);refine je ?_;show((dO _ _) [.val (zO p m w wd' T'),.val (zO p m w wd T)]).map _=_;simp only[nH,wX,ql,vn,IJ,n7,Lm,LH,LS,MQ,jf,IF,IU,O,b,qE,a,qA,ZC,I,if_true,z]
theorem BN{h w:Nat}(f g:UV)(I:0<p)(O:h<=lim)(z:w<=lim):aO [.int p,j8 h w f,j8 h w g]=cq (.val<|j8 h w λi j=>(f i j+(-1)*g i j)%p):=by have e:=Jb (-1) f g ⋯ ⋯ I O z;refine je ?_;show((zE xE _) [.val (.int p),.val<|j8 h w f,.val (j8 h w g)]).map _=_;have U:rO (zy<|.int 1) [.val (.int p),.val<|j8 h w f,.val (j8 h w g)]=cq (.int (-1)):=rfl;simp only[xN,jM,kN,qY,U,IJ,n7,ja,IF,IU,e,WS]
theorem Cj(O:0<p)(as:p<=100)(Z:m<=4)(z:∀k,wd k<=9)(U:∀k,wd' k<=9)(J:∀k i j,0<=T' k i j/\T' k i j<p)(bS:∀k i j,0<=S k i j/\S k i j<100){k:Nat}(I:k<m):
 nK [zO p m w wd' T',zO p m w wd T,.lst<|g7 (m+1) wd wd' S,.int (k:Int)]=cq (.val<|j8 (ft w wd k) (e9 w wd' k)<|pd p w wd wd' T T' S k):=by
 have X:=jj;have W:=kC p m w wd T;have e:=kC p m w wd' T';have G:hH 3 0=cq 0:=rfl;have d:hH 3 2=cq 2:=rfl;have H:hH 2 0=cq 0:=rfl;have Y:hH 2 1=cq 1:=rfl;have A:(jY m w wd T).length=m:=by simp[jY]
 have g:(jY m w wd' T').length=m:=by simp[jY]
 have y:(jY m w wd T)[k]? = cq (vk w wd T k):=by unfold jY;simp[I]
 have l:(jY m w wd' T')[k]? = cq (vk w wd' T' k):=by unfold jY;simp[I]
 have x:jA (vk w wd T k)=cq (.T,[.str (xR<|g5<|w k),j8 (ft w wd k) (e9 w wd k) (T k)]):=rfl;have f:jA (vk w wd' T' k)=cq (.T,[.str (xR<|g5<|w k),j8 (ft w wd' k) (e9 w wd' k) (T' k)]):=rfl;have n:=KA (w:=w) I;have o:=KM (w:=w) I;have u:=du (m+1) wd wd' S;have s:=nQ (hs:=wd) (ws:=wd') (T:=S) n;have r:=nQ (hs:=wd) (ws:=wd') (T:=S) o;rw[xv w wd,xv w wd']at s;rw[qO w wd,qO w wd']at r;have F:=aP w k;have E:=vS w k;have a:ft w wd k<=lim:=by rw[<-xv];have:=z<|z9 w k;omega
 have B:ft w wd' k<=lim:=by rw[<-xv];have:=U<|z9 w k;omega
 have C:e9 w wd k<=lim:=by rw[<-qO];have:=z<|zZ w k;omega
 have b:e9 w wd' k<=lim:=by rw[<-qO];have:=U<|zZ w k;omega
 have K:=vq (h:=ft w wd k) (m:=ft w wd' k) (w:=e9 w wd' k) (S<|z9 w k) (T' k) O a B b λi j _ _=>by have:=J k i j;omega
 have L:=vq (h:=ft w wd k) (m:=e9 w wd k) (w:=e9 w wd' k) (T k) (S<|zZ w k) O a C b λi j _ _=>bS _ i j;have le:=BN (h:=ft w wd k) (w:=e9 w wd' k) (λi j=>zm (λt=>T' k t j*S (z9 w k) i t) (ft w wd' k)%p) (λi j=>zm (λt=>S (zZ w k) t j*T k i t) (e9 w wd k)%p) O a b;have M:(jr 4<|dj (zk 0)<|zy<|.int 0) (z7 8 [zO p m w wd' T',zO p m w wd T,.lst<|g7 (m+1) wd wd' S,.int (k:Int)])=cq (.next [.val (zO p m w wd' T'),.val<|zO p m w wd T,.val<|.lst<|g7 (m+1) wd wd' S,.val<|.int (k:Int),.val<|.int p,.no,.no,.no]):=by show(jr _ _) [.val (zO p m w wd' T'),.val<|zO p m w wd T,.val<|.lst<|g7 (m+1) wd wd' S,.val<|.int (k:Int),.no,.no,.no,.no]=_;simp only[xY,wX,ql,vn,IJ,Lm,LH,LS,MQ,jf,IF,IU,e,qE,G,Mb,Ma]
 have N:(jr 5<|dj (zJ<|dj (zJ<|dj (zk 0)<|zy<|.int 2)<|zh 3)<|zy<|.int 0) [.val (zO p m w wd' T'),.val<|zO p m w wd T,.val<|.lst<|g7 (m+1) wd wd' S,.val<|.int (k:Int),.val<|.int p,.no,.no,.no]=cq (.next [.val (zO p m w wd' T'),.val<|zO p m w wd T,.val<|.lst<|g7 (m+1) wd wd' S,.val<|.int (k:Int),.val<|.int p,.val<|.str<|xR<|g5<|w k,.no,.no]):=by simp only[xY,wX,xT,ql,qY,vn,IJ,n7,Lm,LH,LS,MQ,jf,ja,IF,IU,e,qE,d,qA,g,qP,I,if_true,l,f,H,Mb,Ma]
 have P:(jr 6<|zE qw<|zb (zh 4)<|zb (dj (zk 2)<|zE k8<|zb (zh 3)<|zb (zh 5) zF)<|zb (dj (zJ<|dj (zJ<|dj (zk 0)<|zy<|.int 2)<|zh 3)<|zy<|.int 1) zF) [.val (zO p m w wd' T'),.val<|zO p m w wd T,.val<|.lst<|g7 (m+1) wd wd' S,.val<|.int (k:Int),.val<|.int p,.val<|.str<|xR<|g5<|w k,.no,.no]=cq (.next [.val (zO p m w wd' T'),.val<|zO p m w wd T,.val<|.lst<|g7 (m+1) wd wd' S,.val<|.int (k:Int),.val<|.int p,.val<|.str<|xR<|g5<|w k,.val<|j8 (ft w wd k) (e9 w wd' k) λi j=>zm (λt=>T' k t j*S (z9 w k) i t) (ft w wd' k)%p,.no]):=by simp only[xY,xN,jM,kN,wX,xT,ql,qY,vn,IJ,n7,Lm,LH,LS,MQ,jf,ja,IF,IU,e,qE,d,qA,kM,g,qP,I,n,if_true,l,f,Y,F,WS,u,s,K,Mb,Ma]
 have Q:(jr 7<|zE qw<|zb (zh 4)<|zb (dj (zJ<|dj (zJ<|dj (zk 1)<|zy<|.int 2)<|zh 3)<|zy<|.int 1)<|zb (dj (zk 2)<|zE jT<|zb (zh 3)<|zb (zh 5) zF) zF) [.val (zO p m w wd' T'),.val<|zO p m w wd T,.val<|.lst<|g7 (m+1) wd wd' S,.val<|.int (k:Int),.val<|.int p,.val<|.str<|xR<|g5<|w k,.val<|j8 (ft w wd k) (e9 w wd' k) λi j=>zm (λt=>T' k t j*S (z9 w k) i t) (ft w wd' k)%p,.no]=cq (.next [.val (zO p m w wd' T'),.val<|zO p m w wd T,.val<|.lst<|g7 (m+1) wd wd' S,.val<|.int (k:Int),.val<|.int p,.val<|.str<|xR<|g5<|w k,.val<|j8 (ft w wd k) (e9 w wd' k) λi j=>zm (λt=>T' k t j*S (z9 w k) i t) (ft w wd' k)%p,.val (j8 (ft w wd k) (e9 w wd' k) λi j=>zm (λt=>S (zZ w k) t j*T k i t) (e9 w wd k)%p)]):=by simp only[xY,xN,jM,kN,wX,xT,ql,qY,vn,IJ,n7,Lm,LH,LS,MQ,jf,ja,IF,IU,W,qE,d,qA,kM,A,qP,I,o,if_true,y,x,Y,E,WS,u,r,L,Mb,Ma]
 have R:(qt<|zE aO<|zb (zh 4)<|zb (zh 6)<|zb (zh 7) zF) [.val (zO p m w wd' T'),.val<|zO p m w wd T,.val<|.lst<|g7 (m+1) wd wd' S,.val<|.int (k:Int),.val<|.int p,.val<|.str<|xR<|g5<|w k,.val<|j8 (ft w wd k) (e9 w wd' k) λi j=>zm (λt=>T' k t j*S (z9 w k) i t) (ft w wd' k)%p,.val (j8 (ft w wd k) (e9 w wd' k) λi j=>zm (λt=>S (zZ w k) t j*T k i t) (e9 w wd k)%p)]=cq (.ret<|.val<|j8 (ft w wd k) (e9 w wd' k)<|pd p w wd wd' T T' S k):=by simp only[ZP,xN,jM,kN,qY,IJ,n7,ja,IF,IU,le,WS];rfl
 exact je<|zu M<|zu N<|zu P<|zu Q R
theorem tZ(I:0<p)(O:p<=100)(z:m<=4)(J:∀k,wd k<=9)(U:∀k,wd' k<=9)(Y:∀k i j,0<=T' k i j/\T' k i j<p)(bS:∀k i j,0<=S k i j/\S k i j<100):
 Vt [zO p m w wd' T',zO p m w wd T,.lst (g7 (m+1) wd wd' S)]=cq (.own<|g7 m (ft w wd) (e9 w wd')<|pd p w wd wd' T T' S):=by
 have n:=jj;have a:m<=lim:=by omega
 have l:=kC p m w wd' T';have e:hH 3 2=cq 2:=rfl;have b:(jY m w wd' T').length=m:=by simp[jY]
 have h:inR (m:Int)=da:=J3 ⋯ ⋯;have f:zY (.nm 0) jw (zE nK<|zb (zh 1)<|zb (zh 2)<|zb (zh 3)<|zb (zh 0) zF) [Cell.no,.val<|zO p m w wd' T',.val<|zO p m w wd T,.val (.lst<|g7 (m+1) wd wd' S)] ((IA m).map λk:Nat=>D.int (k:Int))=cq (g7 m (ft w wd) (e9 w wd')<|pd p w wd wd' T T' S):=by unfold g7;refine zC _ _ λk d=>zB rfl rfl ?_;have g:=Cj (w:=w) (T:=T) (S:=S) I O z J U Y bS<|IC.mp d;unfold g7 at g;show zE _ _ [Cell.val (.int (k:Int)),.val<|zO p m w wd' T',.val<|zO p m w wd T,.val (.lst _)]=_;simp only[xN,jM,kN,qY,IJ,n7,ja,IF,IU,g,WS]
 refine je ?_;show((zU _ _ _ _ _ _) [.val (zO p m w wd' T'),.val<|zO p m w wd T,.val (.lst<|g7 (m+1) wd wd' S)]).map _=_;simp only[qm,wW,CP,xT,wX,ql,vn,IJ,n7,Lm,LH,LS,MQ,jf,IF,IU,l,qE,e,qA,b,h,if_true,Mm,qL,ZC,a];rw[qp m λi=>(i:Int),show jk 1 [0,1,2] [.val (zO p m w wd' T'),.val<|zO p m w wd T,.val (.lst<|g7 (m+1) wd wd' S)]=[Cell.no,.val<|zO p m w wd' T',.val<|zO p m w wd T,.val (.lst<|g7 (m+1) wd wd' S)]from rfl,f];rfl
noncomputable def vT(c x:Nat):Int:=if c=x then 1 else 0
noncomputable def Vv(p:Int)(m:Nat)(w:UK)(wd wd':UX)(T T':UW)(e c:Nat):Int:=u7 (ft w wd) (e9 w wd') (pd p w wd wd' T T'<|kH wd wd'<|vT c) m e
theorem _c(z:∀k,wd k<=9)(k):e9 w wd k<=100:=by rw[<-qO];have:=z<|zZ w k;omega
theorem Kv(Y:0<p)(L:p<=100)(z:m<=4)(J:∀k,wd k<=9)(I:∀k,wd' k<=9)(Z:∀k i j,0<=T' k i j/\T' k i j<p)(h1:off wd wd' (m+1)<=2000)(h2:off (ft w wd) (e9 w wd') m<=2000):
 k7 [zO p m w wd' T',zO p m w wd T]=cq (.val<|j8 (off (ft w wd) (e9 w wd') m) (off wd wd'<|m+1)<|Vv p m w wd wd' T T'):=by
 have P:=jj;have t:=yA (p:=p) (w:=w) (wd:=wd) (wd':=wd') (T:=T) (T':=T') z;have s:=ki (n:=m+1) (hs:=wd) (ws:=wd') ⋯ λk=>by have:=I k;omega
 have a:qB [zO p m w wd' T',zO p m w wd T]=cq (.own<|h8 m (ft w wd)<|e9 w wd'):=rJ z;have r:=ki (n:=m) (hs:=ft w wd) (ws:=e9 w wd') ⋯<|_c I;generalize hN:off wd wd' (m+1)=N at *;generalize hA:off (ft w wd) (e9 w wd') m=A at *;have O:N<=lim:=by omega
 have b:A<=lim:=by omega
 have C:=yu O;have E:jA (j8 N N λi j=>if i=j then 1 else 0)=cq (.T,[.int (N:Int),.int (N:Int),.tup (zX N N λi j=>if i=j then 1 else 0)]):=rfl;have f:hH 3 2=cq 2:=rfl;have o:3<=lim:=by omega
 have l:zY (.nm 0) jw (zE vo<|zb (jG<|jg Vt<|zb (zh 1)<|zb (zh 2)<|zb (jG<|jg qg<|zb (zh 3)<|zb (zh 0) zF) zF) zF) [Cell.no,.val<|zO p m w wd' T',.val<|zO p m w wd T,.val (.lst<|h8 (m+1) wd wd')] (zX N N λi j=>if i=j then 1 else 0)=cq (zX N A λc e=>Vv p m w wd wd' T T' e c):=by
  unfold zX;refine zC _ _ λc M=>zB rfl rfl ?_;have G:=ZI (n:=m+1) (hs:=wd) (ws:=wd') ⋯ (λk=>by have:=J k;omega) (λk=>by have:=I k;omega) (vT c) hN.symm;have d:∀k i j,0<=kH wd wd' (vT c) k i j/\kH wd wd' (vT c) k i j<100:=λk i j=>by unfold kH vT;split<;>decide
  have g:=tZ (m:=m) (w:=w) (T:=T) Y L z J I Z d;have U:=aR (n:=m) (hs:=ft w wd) (ws:=e9 w wd') (T:=pd p w wd wd' T T'<|kH wd wd'<|vT c) ⋯;rw[hA]at U;have H:qg [.lst (h8 (m+1) wd wd'),.tup (zG N λj=>if c=j then 1 else 0)]=cq (.own<|g7 (m+1) wd wd'<|kH wd wd'<|vT c):=G;show zE _ _ [Cell.val (.tup<|zG N λj=>if c=j then 1 else 0),.val<|zO p m w wd' T',.val<|zO p m w wd T,.val (.lst<|h8 (m+1) wd wd')]=_;simp only[xN,jM,kN,qY,ZQ,KO,IJ,n7,ja,IF,IU,H,AD,g,U,WS];rfl
 have u:(jr 2<|jG<|jg q8<|zb (zh 0)<|zb (zh 1) zF) (z7 5 [zO p m w wd' T',zO p m w wd T])=cq (.next [.val (zO p m w wd' T'),.val<|zO p m w wd T,.val<|.lst<|h8 (m+1) wd wd',.no,.no]):=by show(jr _ _) [.val (zO p m w wd' T'),.val<|zO p m w wd T,.no,.no,.no]=_;simp only[xY,ZQ,KO,jM,kN,qY,IJ,n7,ja,IF,IU,t,AD,Mb,Ma]
 have x:(jr 3<|zE jS<|zb (zh 2) zF) [.val (zO p m w wd' T'),.val<|zO p m w wd T,.val<|.lst<|h8 (m+1) wd wd',.no,.no]=cq (.next [.val (zO p m w wd' T'),.val<|zO p m w wd T,.val<|.lst<|h8 (m+1) wd wd',.val<|.int (N:Int),.no]):=by simp only[xY,xN,jM,kN,qY,IJ,n7,ja,IF,IU,s,WS,Mb,Ma]
 have y:(jr 4<|jG<|zU (zR<|zJ<|dj (zJ<|zE j7<|zb (zh 3) zF)<|zy<|.int 2) (.nm 0) 1 [0,1,2] jw (zE vo<|zb (jG<|jg Vt<|zb (zh 1)<|zb (zh 2)<|zb (jG<|jg qg<|zb (zh 3)<|zb (zh 0) zF) zF) zF)) [.val (zO p m w wd' T'),.val<|zO p m w wd T,.val<|.lst<|h8 (m+1) wd wd',.val<|.int (N:Int),.no]=cq (.next [.val (zO p m w wd' T'),.val<|zO p m w wd T,.val<|.lst<|h8 (m+1) wd wd',.val<|.int (N:Int),.val (.lst<|zX N A λc e=>Vv p m w wd wd' T T' e c)]):=by rw[xY,ZQ,qm];simp only[km,xT,wX,xN,jM,kN,qY,vn,IJ,n7,Lm,LH,LS,MQ,ja,IF,IU,C,WS,E,qE,f,qA,cG,O,if_true];rw[show jk 1 [0,1,2] [.val (zO p m w wd' T'),.val<|zO p m w wd T,.val<|.lst<|h8 (m+1) wd wd',.val<|.int (N:Int),.no]=[Cell.no,.val<|zO p m w wd' T',.val<|zO p m w wd T,.val (.lst<|h8 (m+1) wd wd')]from rfl,l];rfl
 have K:=yv (h:=N) (w:=A) (λc e=>Vv p m w wd wd' T T' e c) O b;have B:(qt<|zE jP<|zb (xF<|zb (zh 3)<|zb (zE jS<|zb (jG<|jg qB<|zb (zh 0)<|zb (zh 1) zF) zF)<|zb (jb<|zk 4) zF) zF) [.val (zO p m w wd' T'),.val<|zO p m w wd T,.val<|.lst<|h8 (m+1) wd wd',.val<|.int (N:Int),.val (.lst<|zX N A λc e=>Vv p m w wd wd' T T' e c)]=cq (.ret<|.val<|j8 A N<|Vv p m w wd wd' T T'):=by
  have F:(xF<|zb (zh 3)<|zb (zE jS<|zb (jG<|jg qB<|zb (zh 0)<|zb (zh 1) zF) zF)<|zb (jb<|zk 4) zF) [.val (zO p m w wd' T'),.val<|zO p m w wd T,.val<|.lst<|h8 (m+1) wd wd',.val<|.int (N:Int),.val (.lst<|zX N A λc e=>Vv p m w wd wd' T T' e c)]=cq (j8 N A λc e=>Vv p m w wd wd' T T' e c):=by simp only[Vq,jM,kN,qY,ql,XH,xN,ZQ,KO,IJ,n7,Lm,LH,LS,MQ,ja,jf,kM,IF,IU,a,AD,r,WS,o,if_true];rfl
  simp only[ZP,xN,jM,kN,F,IF,IU,K,WS]
 exact je<|zu u<|zu x<|zu y B
end
theorem uJ(h:∀k,k<r->l k≠j):Wj w B l r j=0:=by unfold Wj;rw[zA (g:=λ_=>0) λk I=>UY<|h k I,zT]
theorem CT{p:Int}{w n r:Nat}{B:Nat->Vc}{l:UX}(O:g9 p n r B l){k:Nat}(I:k<r):Wj w B l r (l k)=B k w:=by unfold Wj;rw[z6 I λm a U=>UY λe=>U<|W6 O.mono a I e,UJ rfl]
theorem iZ{p:Int}{h w:Nat}{f:UV}{b y:Vc}(U:∀i,i<h->zm (λj=>f i j*y j) w%p=b i%p){v:Vc}(Y:Span p (w+1) (ef h<|aug w f b) v):(v w-zm (λj=>v j*y j) w)%p=0:=by
 induction Y with
 |@zero v a=>
  have e:zm (λj=>v j*y j) w%p=zm (λ_=>0) w%p:=zQ λj O=>by rw[IQ,a j ⋯];simp
  rw[MT,e,a w ⋯,zT];simp
 | @step v I g c o t d s=>
  obtain⟨i,r,rfl⟩:=o;have k:zm (λj=>v j*y j) w%p=(zm (λj=>I j*y j) w+c*zm (λj=>f i j*y j) w)%p:=by
   rw[<-jB,<-qv];refine zQ λj O=>?_;rw[IQ,d j ⋯,<-IQ];have:aug w f b i j=f i j:=by simp[aug,O]
   rw[this,Int.add_mul,Nn]
  have l:v w%p=(I w+c*b i)%p:=by
   rw[d w ⋯];have:aug w f b i w=b i:=by simp[aug]
   rw[this]
  have m:(c*zm (λj=>f i j*y j) w)%p=(c*b i)%p:=by rw[IQ,U i r,<-IQ]
  rw[MT,k,l,<-MT];have n:(I w+c*b i-(zm (λj=>I j*y j) w+c*zm (λj=>f i j*y j) w))=(I w-zm (λj=>I j*y j) w)+(c*b i-c*zm (λj=>f i j*y j) w):=by omega
  rw[n,Ml,s,MT,m];simp
theorem lg(Y:Pr p)(J:h<=190)(L:w<=190)(f:UV)(b y:Vc)(U:∀i,i<h->0<=b i/\b i<p)(Z:∀i,i<h->zm (λj=>f i j*y j) w%p=b i):
 ∃x:Vc,vG [.int p,j8 h w f,.tup (zG h b)]=cq (.val<|.tup<|zG w x)/\(∀j,0<=x j/\x j<p)/\∀i,i<h->zm (λj=>f i j*x j) w%p=b i:=by
 have M:=Y.pos;obtain⟨r,B,l,s,O,d,S,t,N,m⟩:=QH Y J L f b;have u:¬s<r:=λz=>by
  have Q:=O.lt s z;have R:=N s (II _) z;have F:l s=w:=by omega
  have P:=(d<|B s).mp (.gen ⟨s,z,rfl⟩);have q:=iZ (y:=y) (λi a=>by rw[Z i a,LK (U i a).1 (U i a).2]) P;have o:=O.one s z;rw[F]at o;have H:zm (λj=>B s j*y j) w=0:=by rw[zA (g:=λ_=>0) λj K=>by rw[O.n4 s j z ⋯];simp];exact zT _
  rw[o,H,Int.sub_zero,Y.one]at q;omega
 rw[UY u]at m;have G:s=r:=by omega
 subst G;refine⟨_,m,λj=>?_,λi a=>?_⟩
 ·by_cases e:∃k,k<s/\l k=j
  ·obtain⟨k,I,rfl⟩:=e
   rw[CT O I];exact O.m9 k w I ⋯
  ·rw[uJ λk I E=>e ⟨k,I,E⟩];exact⟨Int.le_refl _,M⟩
 ·have n:=ZY O ((d<|aug w f b i).mpr (.gen ⟨i,a,rfl⟩)) w ⋯
  have A:aug w f b i w=b i:=by simp[aug]
  rw[A,LK (U i a).1 (U i a).2]at n;rw[n];congr 1;unfold Wj;rw[zA (g:=λj=>zm (λk=>f i j*(if l k=j then B k w else 0)) s) λj _=>(jB _ _ _).symm,qj];refine zA λk I=>?_;rw[z6 (i:=l k) (t k I) λj K C=>by rw[UY (LD C)];simp,UJ rfl];simp only[aug,UJ (t k I)]
theorem Wx{n N:Nat}(a:Nat->Int)(idx:UX)(x:Nat->Int)(I:∀t,t<n->idx t<N):zm (λc=>zm (λt=>a t*vT c (idx t)) n*x c) N=zm (λt=>a t*x (idx t)) n:=by rw[zA (g:=λc=>zm (λt=>a t*vT c (idx t)*x c) n) λc _=>(kq _ _ _).symm,qj];refine zA λt O=>?_;rw[z6 (i:=idx t) (I t O) λc Y U=>by unfold vT;rw[UY U];simp];unfold vT;rw[UJ rfl,Po]
section
variable{p:Int}{m:Nat}{w:UK}{wd wd':UX}{T T' S J:UW}
noncomputable def oQ(w:UK)(wd wd':UX)(T T' X:UW)(k i j:Nat):Int:=
 zm (λt=>T' k t j*X (z9 w k) i t) (ft w wd' k)-zm (λt=>T k i t*X (zZ w k) t j) (e9 w wd k)
theorem ua(X:UW)(k i j:Nat):pd p w wd wd' T T' X k i j%p=oQ w wd wd' T T' X k i j%p:=by
 unfold pd oQ;rw[LJ];rw[zA (f:=λt=>X (zZ w k) t j*T k i t) (g:=λt=>T k i t*X (zZ w k) t j) λt _=>Ms _ _];generalize zm (λt=>T' k t j*X (z9 w k) i t) (ft w wd' k)=a;generalize zm (λt=>T k i t*X (zZ w k) t j) (e9 w wd k)=b;have:a%p + -1*(b%p)=a%p-b%p:=by omega
 rw[this,<-MT]
theorem mP(x:Nat->Int){k i j:Nat}(I:k<m)(z:i<ft w wd k)(U:j<e9 w wd' k):
 zm (λc=>Vv p m w wd wd' T T' (off (ft w wd) (e9 w wd') k+i*e9 w wd' k+j) c*x c) (off wd wd'<|m+1)%p=oQ w wd wd' T T' (kH wd wd' x) k i j%p:=by
 have Y:=KA (w:=w) I;have d:=KM (w:=w) I;have a:zm (λc=>Vv p m w wd wd' T T' (off (ft w wd) (e9 w wd') k+i*e9 w wd' k+j) c*x c) (off wd wd'<|m+1)%p=zm (λc=>oQ w wd wd' T T' (kH wd wd'<|vT c) k i j*x c) (off wd wd'<|m+1)%p:=zQ λc e=>by unfold Vv;rw[Xd z U m I,IQ,ua,<-IQ]
 rw[a];congr 1;have b:∀c,oQ w wd wd' T T' (kH wd wd'<|vT c) k i j*x c=zm (λt=>T' k t j*vT c (off wd wd' (z9 w k)+i*wd' (z9 w k)+t)) (ft w wd' k)*x c+(-1)*(zm (λt=>T k i t*vT c (off wd wd' (zZ w k)+t*wd' (zZ w k)+j)) (e9 w wd k)*x c):=λc=>by unfold oQ kH;rw[Int.sub_mul];omega
 rw[zA (λc _=>b c),qv,jB];rw[Wx (λt=>T' k t j) (λt=>off wd wd' (z9 w k)+i*wd' (z9 w k)+t) x λt O=>ig Y (by rw[xv w wd];exact z) (by rw[xv w wd'];exact O)];rw[Wx (λt=>T k i t) (λt=>off wd wd' (zZ w k)+t*wd' (zZ w k)+j) x λt O=>ig d (by rw[qO w wd];exact O) (by rw[qO w wd'];exact U)];unfold oQ kH;omega
end
noncomputable def kY(wd:UX)(b:fA):List D:=(IA b.n).map λi=>D.tup<|zG (wd<|b.s+i)<|b.v<|b.s+i
noncomputable def qh(wd:UX)(b:fA):D:=.tup [.int b.s,.tup (kY wd b)]
@[simp] theorem bU(wd b):(kY wd b).length=b.n:=by simp[kY]
theorem W9(h:i<b.n):(kY wd b)[i]? = cq (.tup<|zG (wd<|b.s+i)<|b.v<|b.s+i):=by simp[kY,h]
@[simp] theorem Gj(wd b):jA (qh wd b)=cq (.T,[.int b.s,.tup (kY wd b)]):=rfl
section
variable{wd:UX}{b:fA}{n6:List fA}
theorem Xi(z:1<=b.n)(I:b.s+b.n<=100):j6 [qh wd b]=cq (.val<|.tup [.int b.s,.int ((b.s+b.n-1:Nat):Int)]):=by
 have e:((b.s:Int)+(b.n:Int)-1)=((b.s+b.n-1:Nat):Int):=by omega
 simp[j6,jq,z7,qh,IE];omega
theorem yI(z:b.s+b.n<=100)(r:Nat):jZ [qh wd b,.int r]=cq (.val<|.bl<|b.has r):=by
 by_cases h:b.s<=r
 ·by_cases a:r<b.s+b.n
  ·have:(r:Int)<(b.s:Int)+b.n:=by omega
   simp[jZ,jq,z7,qh,IE,fA.has,h,a,this]
  ·have:¬((r:Int)<(b.s:Int)+b.n):=by omega
   simp[jZ,jq,z7,qh,IE,fA.has,h,a,this]
 ·simp[jZ,jq,z7,qh,IE,fA.has,h]
theorem vY{N:Nat}{A:Nat->fA}(I:∀j,j<N->(A j).s+(A j).n<=100)(O:N<=lim)(r:Nat):
 q9 [.lst ((IA N).map λj=>qh wd<|A j),.int r]=cq (.own<|((IA N).filter λj=>(A j).has r).map λj=>D.tup<|zG (wd r)<|(A j).v r):=by
 simp only[q9,jq,z7,iw,qm,km,ql,Lk,RH,Lm,LH,IE,NT,RL,NQ,IJ,v9,jA,IU,IF,Lc,Md,O,if_true];rw[jt (λj=>(A j).has r) (λj=>D.tup<|zG (wd r)<|(A j).v r) (IA N) λj U=>⟨_,rfl,?_,λd=>?_⟩]
 ·rfl
 ·have e:=yI (wd:=wd) (I j<|IC.mp U) r
  simp[jk,e]
 ·obtain⟨b,h⟩:=p3.mp d
  obtain⟨i,rfl⟩:=Nat.exists_eq_add_of_le b;have a:i<(A j).n:=by omega
  have g:(((A j).s+i:Nat):Int)-((A j).s:Int)=(i:Int):=by omega
  have Y:=W9 (wd:=wd) a;have O:=jj;have f:=I j<|IC.mp U;simp[jk,qh,a,Y];rw[show((A j).s:Int)+(i:Int)-((A j).s:Int)=(i:Int)by omega,qP,UJ a];exact Y
theorem ZE(g:Nat->Vc)(I:q<=lim)(O:h<=lim):kO [.int h,.lst (zX q h g)]=cq (.val<|j8 h q λi j=>g j i):=by have e:=yv (h:=q) (w:=h) g I O;unfold j8 at e;simp[kO,jq,z7,IE,I,e];rfl
theorem W8(h:Nat)(u:Nat->Vc)(L:List Nat):(L.map λj=>D.tup<|zG h<|u j)=zX L.length h λi=>u (L.getD i 0):=by
 unfold zX
 conv=>lhs;rw[<-jD 0 L]
 rw[Ly];rfl
theorem mB(u:Nat->Int)(L:List Nat):(L.map λj=>D.int<|u j)=zG L.length λi=>u (L.getD i 0):=by
 unfold zG
 conv=>lhs;rw[<-jD 0 L]
 rw[Ly];rfl
theorem Xg(P:UK)(g:Nat->Int):∀N,zm (λi=>g<|((IA N).filter P).getD i 0) ((IA N).filter P).length=zm (λj=>if P j=da then g j else 0) N
 |0=>rfl
 | N+1=>by
  have I:=Xg P g N;rw[MA,NS];show _=zm _ N+_;rw[<-I];cases hP:P N with
  |false=>simp[hP]
  | true=>
   have e:([N].filter P)=[N]:=by simp[hP]
   rw[e,Lz,MY];show zm _ _+_=_;simp only[if_true];congr 1
   ·refine zA λi a=>?_
    simp[IG,Mt a]
   ·simp[IG,hP]
end
section
variable{wd:UX}{N m:Nat}{A:Nat->fA}{p:Int}{w:UK}{T:UW}{t:Vc}
theorem iK:yW (zG N t) ((IA N).map λj=>qh wd<|A j)=(IA N).map λj=>D.tup [.int (t j),qh wd (A j)]:=by
 unfold yW zG;rw[List.zip_map,Ly];have e:(IA N).zip (IA N)=(IA N).map λi=>(i,i):=by rw[List.zip_eq_zipWith,List.zipWith_self]
 rw[e,Ly];rfl
theorem Kn(U:Pr p)(Y:∀j,j<N->(A j).s+(A j).n<=100)(hN:N<=60)(hm:m<=5)(J:∀k,wd k<=60)(hr:r<=m)(Z:∀j i,j<N->(A j).has r=da->i<wd r->0<=(A j).v r i/\(A j).v r i<p):
 k6 [zO p m w wd T,.lst<|(IA N).map λj=>qh wd<|A j,.tup<|zG N t,.int r]=cq (.val<|.tup<|zG (wd r)<|sx p A N t r):=by
 have C:=jj;have F:=U.le;have B:=J r;have a:=vY (wd:=wd) Y (show N<=lim by omega) r;rw[W8 (wd r) (λj=>(A j).v r)]at a;have E:((IA N).filter λj=>(A j).has r).length<=N:=by have:=List.length_filter_le (λj=>(A j).has r)<|IA N;simpa using this
 have g:=ZE (q:=((IA N).filter λj=>(A j).has r).length) (h:=wd r) (λi=>(A<|((IA N).filter λj=>(A j).has r).getD i 0).v r) ⋯ ⋯;have I:=KW (p:=p) (h:=wd r) (w:=((IA N).filter λj=>(A j).has r).length) .L (λi j=>(A<|((IA N).filter λj=>(A j).has r).getD j 0).v r i) (λi=>t<|((IA N).filter λj=>(A j).has r).getD i 0) U.pos ⋯ ⋯ (λi j y O=>by
  have b:((IA N).filter λj=>(A j).has r).getD j 0∈(IA N).filter λj=>(A j).has r:=by rw[IG,ID O];exact MB _
  obtain⟨u,x⟩:=Li.mp b;have:=Z _ i (IC.mp u) (by simpa using x) y;omega)
 have l:(zG (wd r) λi=>zm (λj=>(A<|((IA N).filter λj=>(A j).has r).getD j 0).v r i*t (((IA N).filter λj=>(A j).has r).getD j 0)) ((IA N).filter λj=>(A j).has r).length%p)=zG (wd r) (sx p A N t r):=wQ λi _=>by unfold sx;rw[Xg (λj=>(A j).has r) (λj=>(A j).v r i*t j) N];congr 1;refine zA λj _=>?_;rw[Ms]
 rw[l]at I;have o:zY (.tp [0,1]) (sB<|zE jZ<|zb (zh 1)<|zb (zh 2) zF) (zh 0) [.no,.no,.val (.int r)] ((IA N).map λj=>D.tup [.int (t j),qh wd (A j)])=cq (zG ((IA N).filter λj=>(A j).has r).length λi=>t<|((IA N).filter λj=>(A j).has r).getD i 0):=by rw[<-mB];refine jt (λj=>(A j).has r) (λj=>D.int<|t j) _ λj O=>⟨_,rfl,?_,λ_=>rfl⟩;have e:=yI (wd:=wd) (Y j<|IC.mp O) r;simp[e]
 have d:r<m+1:=by omega
 have z:=iK (N:=N) (wd:=wd) (t:=t) (A:=A);simp only[sh]at I;have f:N<=lim:=by omega
 refine je<|zu (γ':=[.val (zO p m w wd T),.val<|.lst<|(IA N).map λj=>qh wd<|A j,.val<|.tup<|zG N t,.val<|.int r,.val (.lst<|zG ((IA N).filter λj=>(A j).has r).length λi=>t<|((IA N).filter λj=>(A j).has r).getD i 0)]) ?_ ?_
 ·simp[-IG,z7,jk,IE,z,o,f]
 ·simp[-IG,zO,a,g,I,d]
theorem mw(Y:Pr p)(O:∀j,j<N->(A j).s+(A j).n<=m+1)(L:N<=60)(Z:m<=5)(J:∀k,wd k<=60)(hv:∀j r i,j<N->(A j).has r=da->i<wd r->0<=(A j).v r i/\(A j).v r i<p)(z:a<N)(t0:∀i,i<a->t i=0)(t1:t a≠0):
 KS [zO p m w wd T,.lst<|(IA N).map λj=>qh wd<|A j,.tup (zG N t)]=cq (.val<|qh wd<|M4 p A N t a):=by
 have C:=jj;have f:N<=lim:=by omega
 have h:=vw f t z t0 t1;have B:=O a z;have l:zY (.nm 0) jw (zE k6<|zb (zh 1)<|zb (zh 2)<|zb (zh 3)<|zb (zI qu (dj (zk 4)<|zy<|.int 0)<|zh 0) zF) [.no,.val<|zO p m w wd T,.val<|.lst<|(IA N).map λj=>qh wd<|A j,.val<|.tup<|zG N t,.val (qh wd<|A a)] ((IA (A a).n).map λ(i:Nat)=>D.int i)=cq (kY wd<|M4 p A N t a):=by
  unfold kY;refine zC _ _ λi b=>zB rfl rfl ?_;have b:=IC.mp b;have e:=Kn (T:=T) (w:=w) (t:=t) Y (λj I=>by have:=O j I;omega) L Z J (r:=(A a).s+i) (by have:i<(A a).n:=b;omega) λj c I x u=>hv j _ c I x u;have o:(((A a).s+i:Nat):Int)=((A a).s:Int)+(i:Int):=by omega
  rw[o]at e;have E:inR (((A a).s:Int)+(i:Int))=da:=decide_eq_true (by have:i<(A a).n:=b;omega);simp[e];rfl
 have d:(A a).n<=lim:=by omega
 have y:inR ((A a).n:Int)=da:=decide_eq_true ⋯;refine je<|zu (γ':=[.val (zO p m w wd T),.val<|.lst<|(IA N).map λj=>qh wd<|A j,.val<|.tup<|zG N t,.val<|qh wd<|A a,.no]) ?_ (zu (γ':=[.val (zO p m w wd T),.val<|.lst<|(IA N).map λj=>qh wd<|A j,.val<|.tup<|zG N t,.val<|qh wd<|A a,.val (.lst<|kY wd<|M4 p A N t a)]) ?_ ?_)
 ·simp[z7,IE,h,z]
 ·have U:=l
  rw[show((IA (A a).n).map λ(i:Nat)=>D.int i)=zG (A a).n λi=>(i:Int)from rfl]at U;simp[jk,qL,y,d,U]
 ·have g:(M4 p A N t a).n<=lim:=d
  simp[bU,g];rfl
end
section
variable{wd:UX}{N m k r:Nat}{A:Nat->fA}{p:Int}{w:UK}{T:UW}{B:Nat->Vc}{l:UX}
theorem av(l:UX)(g:Nat->D)(i:Nat):∀(L:List Nat),aw (L.map λj=>D.int ((l j:Nat):Int)) (L.map g) (i:Int)=(L.find? λj=>l j==i).map g
 |[]=>rfl
 | j::L=>by
  have I:=av l g i L;simp only[Lk,aw,Nh];by_cases h:l j=i
  ·simp[h]
  ·have a:¬((l j:Nat):Int)=(i:Int):=by omega
   rw[UY a,I];have:(l j==i)=di:=by simpa using h
   rw[this]
theorem YY(l:UX):∀L:List Nat,Ks (L.map λj=>D.int ((l j:Nat):Int))=cq (L.map λj=>((l j:Nat):Int))
 |[]=>rfl
 |j::L=>by simp[Ks,YY l L]
theorem bY(I:g9 p N r B l)(O:r<=lim):nu ((IA r).map λj=>D.int ((l j:Nat):Int)) ((IA r).map λj=>D.tup<|zG N<|B j)=cq (.nr ((IA r).map λj=>D.int ((l j:Nat):Int))<|(IA r).map λj=>D.tup<|zG N<|B j):=by unfold nu;rw[YY];dsimp only;rw[UJ];refine⟨by simp,?_,by simpa using O⟩;rw[List.nodup_iff_pairwise_ne,Of];refine Ou (λ{a b} d U h=>?_)<|Oe (n:=r);have:=I.mono a b h<|IC.mp U;omega
theorem K8(f g:Nat->D):∀L:List Nat,ZH (L.map λj=>D.tup [f j,g j])=cq (L.map f,L.map g)
 |[]=>rfl
 |j::L=>by simp[ZH,K8 f g L]
theorem QE(h:k<(jY m w wd T).length):(jY m w wd T)[k]=vk w wd T k:=by simp[jY]
theorem yq(w wd T k):jA (vk w wd T k)=cq (.T,[.str (xR<|g5<|w k),j8 (ft w wd k) (e9 w wd k) (T k)]):=rfl
theorem V9:xw ((IA N).map λj=>qh wd<|A j)=(IA N).map λ(i:Nat)=>D.tup [.int i,qh wd (A i)]:=by unfold xw;simp only[Lc,Md];refine Lf λi a=>?_;have a:=IC.mp a;simp[a]
noncomputable def uP(p:Int)(w:UK)(wd:UX)(T:UW)(k:Nat)(u:Vc):Prop:=if w k=da then Span p (wd k) (ef (wd<|k+1) λj i=>T k i j) u else B3 p (wd<|k+1) (wd k) (T k) u
theorem bc(U:Pr p)(Y:∀k,wd k<=16)(w)(T)(k:Nat):∃q g,q<=100/\(∀u,Span p (wd k) (ef q g) u↔uP p w wd T k u)/\
 (if w k=da then ZG [.int p,j8 (ft w wd k) (e9 w wd k) (T k)]=cq (.own<|zX q (wd k) g)else kn [.int p,j8 (ft w wd k) (e9 w wd k) (T k)]=cq (.own<|zX q (wd k) g)):=by
 have o:=jj;have i:=Y k;have m:=Y<|k+1;have d:∀{r n:Nat} {B:Nat->Vc} {l:UX},g9 p n r B l->r<=n:=λ{r n B l} I=>by
  have mono:∀k,k<r->k<=l k:=by
   intro k
   induction k with
   |zero=>intro _;omega
   |succ k j=>intro i;have:=j ⋯;have:=I.mono k (k+1) ⋯ i;omega
  cases r with
  |zero=>omega
  |succ f=>have:=mono f ⋯;have:=I.lt f ⋯;omega
 cases hw:w k with
 |true=>
  have a:ft w wd k=wd k:=by unfold ft;rw[hw];rfl
  have O:e9 w wd k=wd (k+1):=by unfold e9;rw[hw];rfl
  obtain⟨r,B,l,e,I,b⟩:=XM U (h:=wd k) (w:=wd<|k+1) ⋯ ⋯<|T k;refine⟨r,B,by have:=d I;omega,λu=>by unfold uP;rw[hw,UJ rfl];exact b u,?_⟩;rw[UJ rfl,a,O];exact e
 |false=>
  have a:ft w wd k=wd (k+1):=by unfold ft;rw[hw];rfl
  have O:e9 w wd k=wd k:=by unfold e9;rw[hw];rfl
  obtain⟨q,K,l,s,e,I,b,_⟩:=yL U (h:=wd<|k+1) (w:=wd k) ⋯ ⋯<|T k;refine⟨q,K,by have:=d I;omega,λu=>by unfold uP;rw[hw,UY ⋯];exact b u,?_⟩;rw[UY ⋯,a,O];exact e
theorem VB:wY=jq 8 (zS TU<|zS TV<|zS SO<|zS TX<|zS TY TZ):=rfl
theorem bp(Z:Pr p)(hb:∀j,j<N->(A j).s+(A j).n<=m+1)(J:∀j,j<N->(A j).has k=da)(a7:k<m)(hN:N<=16)(hm:m<=5)(z:∀k,wd k<=16)(hv:∀j r i,j<N->(A j).has r=da->i<wd r->0<=(A j).v r i/\(A j).v r i<p):
 ∃r B l,g9 p N r B l/\(∀t,Span p N (ef r B) t↔uP p w wd T k (app (λi j=>(A j).v k i) N t))/\
  wY [zO p m w wd T,.int k,.lst ((IA N).map λj=>qh wd<|A j)]=cq (.own<|(IA N).map λi=>qh wd<|hM p A N r B l i):=by
 have hl:=jj;obtain⟨q,g,X,C,Y⟩:=bc Z z w T k;have b5:=z k;obtain⟨r,B,l,H,I,hs⟩:=KU Z (h:=wd k) (w:=N) (q:=q) ⋯ ⋯ X (λi j=>(A j).v k i) g;refine⟨r,B,l,I,λt=>(hs t).trans (C _),?_⟩;have d:N<=lim:=by omega
 have E:k<m+1:=by omega
 have rN:r<=N:=by
  have mono:∀k,k<r->k<=l k:=by
   intro k
   induction k with
   |zero=>intro _;omega
   |succ k ih=>intro J;have:=ih ⋯;have:=I.mono k (k+1) ⋯ J;omega
  cases r with
  |zero=>omega
  |succ o=>have:=mono o ⋯;have:=I.lt o ⋯;omega
 have u:r<=lim:=by omega
 have x:=vY (wd:=wd) (A:=A) (N:=N) (λj O=>by have:=hb j O;omega) d k;have S:((IA N).filter λj=>(A j).has k)=IA N:=List.filter_eq_self.mpr λj O=>J j<|IC.mp O;rw[S]at x;have K:=ZE (q:=N) (h:=wd k) (λj=>(A j).v k) d ⋯;have F:q9 [.lst ((IA N).map λj=>qh wd<|A j),.int k]=cq (.own<|zX N (wd k) λj=>(A j).v k):=x;have M:zY (.nm 0) jw (xF<|zb (zE qJ<|zb (zh 0) zF)<|zb (zh 0) zF) [.no] (zX r N B)=cq ((IA r).map λj=>D.tup [.int ((l j:Nat):Int),.tup (zG N<|B j)]):=by unfold zX;refine zC _ _ λj O=>zB rfl rfl ?_;have O:=IC.mp O;have e:=vw d (B j) (I.lt j O) (λi b=>I.n4 j i O b) (by rw[I.one j O];decide);simp[e]
 have P:=bY I u;have Q:=K8 (λj=>D.int ((l j:Nat):Int)) (λj=>D.tup<|zG N<|B j)<|IA r;let f:D:=.nr ((IA r).map λj=>D.int ((l j:Nat):Int)) ((IA r).map λj=>D.tup<|zG N<|B j);let L:D:=.lst ((IA N).map λj=>qh wd<|A j);have R:zY (.tp [0,1]) jw (bq (sB<|Az (zh 0)<|zh 4) (zE KS<|zb (zh 2)<|zb (zh 3)<|zb (Eg (zh 4)<|zh 0) zF)<|zh 1) [.no,.no,.val<|zO p m w wd T,.val L,.val f] ((IA N).map λ(i:Nat)=>D.tup [.int i,qh wd (A i)])=cq ((IA N).map λi=>qh wd<|hM p A N r B l i):=by
  refine zC _ _ λi b=>zB rfl rfl ?_;have b:=IC.mp b;have U:=av l (λj=>D.tup<|zG N<|B j) i<|IA r;have G:(IA r).find? (λj=>l j==i)=nt r l i:=rfl;rw[G]at U;unfold hM;cases hx:nt r l i with
  |none=>
   rw[hx]at U;simp[f,Az,U]
  |some j=>
   rw[hx]at U;obtain⟨y,W⟩:=xS hx;have e:=mw (T:=T) (w:=w) (t:=B j) Z hb ⋯ hm (λk=>by have:=z k;omega) hv (a:=i) b (λc hc=>I.n4 j c y ⋯) (by rw[<-W,I.one j y];decide);simp[f,Az,Eg,U,L,e]
 rw[VB];refine je (zu (γ':=[.val (zO p m w wd T),.val<|.int k,.val L,.val<|.str<|xR<|g5<|w k,.no,.no,.no,.no]) ?_
  (zu (γ':=[.val (zO p m w wd T),.val<|.int k,.val L,.val<|.str<|xR<|g5<|w k,.val<|j8 (ft w wd k) (e9 w wd k)<|T k,.no,.no,.no]) ?_
  (zu (γ':=[.val (zO p m w wd T),.val<|.int k,.val L,.val<|.str<|xR<|g5<|w k,.val<|j8 (ft w wd k) (e9 w wd k)<|T k,.val<|.lst<|zX q (wd k) g,.no,.no]) ?_
  (zu (γ':=[.val (zO p m w wd T),.val<|.int k,.val L,.val<|.str<|xR<|g5<|w k,.val<|j8 (ft w wd k) (e9 w wd k)<|T k,.val<|.lst<|zX q (wd k) g,.val<|.lst<|zX r N B,.no]) ?_
  (zu (γ':=[.val (zO p m w wd T),.val<|.int k,.val L,.val<|.str<|xR<|g5<|w k,.val<|j8 (ft w wd k) (e9 w wd k)<|T k,.val<|.lst<|zX q (wd k) g,.val<|.lst<|zX r N B,.val f]) ?_ ?_)))))
 ·simp[TU,z7,IE,yZ,yq,QE,a7];rfl
 ·simp[TV,yZ,yq,QE,a7]
 ·cases hw:w k with
  |true=>
   rw[hw,UJ rfl]at Y;have eq:=Ky da;simp[SO,yZ,eq,Y]
  |false=>
   rw[hw,UY ⋯]at Y;have eq:=Ky di;simp[SO,yZ,eq,Y]
 ·simp[TX,yZ,E,L,F,K,H]
 ·simp[TY,jk,M,u,Q,P];rfl
 ·simp[TZ,jk,L,V9,d,R]
end
noncomputable def oD(n:Nat):Option Vc->D
 |none=>.d7
 |some y=>.tup (zG n y)
theorem bj(U:Pr p)(Y:h<=190)(J:w<=190)(f:UV)(b:Vc)(O:∀i,i<h->0<=b i/\b i<p):
 ∃o:Option Vc,vG [.int p,j8 h w f,.tup (zG h b)]=cq (.val<|oD w o)/\(∀x,o=cq x->(∀j,0<=x j/\x j<p)/\∀i,i<h->app f w x i%p=b i%p)/\(o=none->¬∃y:Vc,∀i,i<h->app f w y i%p=b i%p):=by
 have n:∀i,i<h->b i%p=b i:=λi a=>LK (O i a).1 (O i a).2;by_cases I:∃y:Vc,∀i,i<h->app f w y i%p=b i%p
 ·obtain⟨y,I⟩:=I
  obtain⟨x,e,K,L⟩:=lg U Y J f b y O λi a=>by rw[<-n i a,<-I i a];rfl
  refine⟨cq x,e,λR G=>?_,λz=>by cases z⟩;cases G;exact⟨K,λi a=>by rw[n i a];exact L i a⟩
 ·obtain⟨r,B,l,s,M,C,P,A,Q,d⟩:=QH U Y J f b
  have m:s<r:=by
   refine Mc λm=>I ?_;have H:s=r:=by omega
   subst H;refine⟨Wj w B l s,λi a=>?_⟩;have t:=ZY M ((C<|aug w f b i).mpr (.gen ⟨i,a,rfl⟩)) w ⋯;have E:aug w f b i w=b i:=by simp[aug]
   rw[E]at t;rw[t];congr 1;unfold app Wj;rw[zA (g:=λj=>zm (λk=>f i j*(if l k=j then B k w else 0)) s) λj _=>(jB _ _ _).symm,qj];refine zA λk u=>?_;rw[z6 (i:=l k) (A k u) λj N F=>by rw[UY (LD F)];simp,UJ rfl];simp only[aug,UJ (A k u)]
  rw[UJ m]at d;exact⟨none,d,nofun,λ_=>I⟩
section
variable{wd:UX}{m k:Nat}{p:Int}{w:UK}{T:UW}
theorem mr:xP=jq 4 (zS M5<|zS SE SF):=rfl
theorem Kz(b:Bool):gw (.str (xR (g5 b))) (.str "l")=cq (.bl b):=by cases b<;>kernel_rfl
theorem YN(I:Pr p)(J:∀k,wd k<=16)(L:∀i j,i<ft w wd k->j<e9 w wd k->0<=T k i j/\T k i j<p)(u:Vc)(Z:∀i,i<wd k->0<=u i/\u i<p):
 ∃o:Option Vc,xP [.int p,vk w wd T k,.tup (zG (wd k) u)]=cq (.val<|oD (wd<|k+1) o)/\(∀y,o=cq y->∀c,c<wd (k+1)->0<=y c/\y c<p)/\
  (w k=di->(o=none->∀c,c<wd (k+1)->app (T k) (wd k) u c%p=0)/\∀y,o=cq y->(∀c,c<wd (k+1)->app (T k) (wd k) u c%p=y c%p)/\∃c,c<wd (k+1)/\y c%p≠0)/\
  (w k=da->(o=none->¬∃y:Vc,∀c,c<wd k->app (T k) (wd<|k+1) y c%p=u c%p)/\∀y,o=cq y->∀c,c<wd k->app (T k) (wd<|k+1) y c%p=u c%p):=by
 have E:=jj;have F:=I.le;have C:=J k;have B:=J<|k+1;rw[mr];cases hw:w k with
 |true=>
  have b:ft w wd k=wd k:=by unfold ft;rw[hw];rfl
  have O:e9 w wd k=wd (k+1):=by unfold e9;rw[hw];rfl
  obtain⟨o,r,a,d⟩:=bj I (h:=wd k) (w:=wd<|k+1) ⋯ ⋯ (T k) u Z;refine⟨o,?_,λy e c _=>(a y e).1 c,nofun,λ_=>⟨d,λy e=>(a y e).2⟩⟩;refine je ?_;have U:=Kz da;have t:M5 (z7 4 [.int p,vk w wd T k,.tup (zG (wd k) u)])=cq (.ret<|.val<|oD (wd<|k+1) o):=by simp[M5,z7,IE,yq,hw,U,b,O,r]
  rw[jO,t];rfl
 | false=>
  have b:ft w wd k=wd (k+1):=by unfold ft;rw[hw];rfl
  have O:e9 w wd k=wd k:=by unfold e9;rw[hw];rfl
  rw[b,O]at L;have Y:=KW (p:=p) (h:=wd<|k+1) (w:=wd k) .T (T k) u I.pos ⋯ ⋯ λi j x A=>by have:=L i j x A;omega
  simp only[sh]at Y;have U:=Kz di;have n:=WB (λi=>zm (λj=>T k i j*u j) (wd k)%p)<|wd<|k+1;by_cases f:∃c,c<wd (k+1)/\zm (λj=>T k c j*u j) (wd k)%p≠0
  ·refine⟨cq λi=>zm (λj=>T k i j*u j) (wd k)%p,?_,(λy e c _=>by cases e;exact⟨LU _ (by have:=I.pos;omega),LB _ I.pos⟩),λ_=>⟨nofun,(λy e=>by cases e;exact⟨(λc _=>by rw[LJ];rfl),(by obtain⟨c,a,d⟩:=f;exact⟨c,a,(by rw[LJ];exact d)⟩)⟩)⟩,nofun⟩
   refine je<|zu (γ':=[.val (.int p),.val<|vk w wd T k,.val<|.tup<|zG (wd k) u,.no]) ?_ (zu (γ':=[.val (.int p),.val<|vk w wd T k,.val<|.tup<|zG (wd k) u,.val (.tup<|zG (wd<|k+1) λi=>zm (λj=>T k i j*u j) (wd k)%p)]) ?_ ?_)
   ·simp[M5,z7,IE,yq,hw,U]
   ·simp[SE,yq,b,O,Y]
   ·have g:(IA<|wd<|k+1).any (λi=>(zm (λj=>T k i j*u j) (wd k)%p) != 0)=da:=by
     obtain⟨c,a,d⟩:=f;exact RM.mpr ⟨c,IC.mpr a,by simpa using d⟩
    have l:uQ (zk 3) [.val (.int p),.val<|vk w wd T k,.val<|.tup<|zG (wd k) u,.val (.tup<|zG (wd<|k+1) λi=>zm (λj=>T k i j*u j) (wd k)%p)]=cq (.bl da):=by show((Yb _).map λs=>D.bl<|s.any id)=_;rw[n];show cq (D.bl<|((IA<|wd<|k+1).map λi=>(zm (λj=>T k i j*u j) (wd k)%p) != 0).any id)=_;rw[List.any_map];rw[show(id∘λi=>(zm (λj=>T k i j*u j) (wd k)%p) != 0)=λi=>(zm (λj=>T k i j*u j) (wd k)%p) != 0 from rfl,g]
    unfold SF;simp only[ZP,pE,GN,l];rfl
  ·refine⟨none,?_,nofun,λ_=>⟨λ_ c m=>Mc λz=>f ⟨c,m,z⟩,nofun⟩,nofun⟩
   refine je<|zu (γ':=[.val (.int p),.val<|vk w wd T k,.val<|.tup<|zG (wd k) u,.no]) ?_ (zu (γ':=[.val (.int p),.val<|vk w wd T k,.val<|.tup<|zG (wd k) u,.val (.tup<|zG (wd<|k+1) λi=>zm (λj=>T k i j*u j) (wd k)%p)]) ?_ ?_)
   ·simp[M5,z7,IE,yq,hw,U]
   ·simp[SE,yq,b,O,Y]
   ·have g:(IA<|wd<|k+1).any (λi=>(zm (λj=>T k i j*u j) (wd k)%p) != 0)=di:=List.any_eq_false.mpr λc m z=>f ⟨c,IC.mp m,by simpa using z⟩
    have l:uQ (zk 3) [.val (.int p),.val<|vk w wd T k,.val<|.tup<|zG (wd k) u,.val (.tup<|zG (wd<|k+1) λi=>zm (λj=>T k i j*u j) (wd k)%p)]=cq (.bl di):=by show((Yb _).map λs=>D.bl<|s.any id)=_;rw[n];show cq (D.bl<|((IA<|wd<|k+1).map λi=>(zm (λj=>T k i j*u j) (wd k)%p) != 0).any id)=_;rw[List.any_map];rw[show(id∘λi=>(zm (λj=>T k i j*u j) (wd k)%p) != 0)=λi=>(zm (λj=>T k i j*u j) (wd k)%p) != 0 from rfl,g]
    unfold SF;simp only[ZP,pE,GN,l];rfl
end
section
variable{wd:UX}{m k:Nat}{p:Int}{w:UK}{T:UW}
theorem mG(h:1<=n):hH n (-1)=cq (n-1):=by unfold hH;rw[UY ⋯,UJ ⋯];congr 1;omega
theorem fQ(I:b.s+b.n=k+1)(y:Vc):kY wd (my k b<|some y)=kY wd b++[D.tup (zG (wd<|k+1) y)]:=by
 unfold kY my;dsimp only;rw[MA,LQ];congr 1
 ·refine Lf λi a=>?_
  have a:=IC.mp a;rw[UY ⋯]
 ·simp[I]
theorem dw:yt=jq 4 (zS T9 SV):=rfl
theorem iV(z:1<=b.n)(O:b.s+b.n=k+1)(J:k<=20)(e:xP [.int p,vk w wd T k,.tup (zG (wd k)<|b.v k)]=cq (.val<|oD (wd<|k+1) o)):
 yt [.int p,vk w wd T k,qh wd b]=cq (.val<|qh wd<|my k b o):=by
 have j:=jj;have f:=mG z;have I:=W9 (wd:=wd) (b:=b) (i:=b.n-1) ⋯;rw[show b.s+(b.n-1)=k by omega]at I;have h:b.n-1<b.n:=by omega
 rw[dw];refine je<|zu (γ':=[.val (.int p),.val<|vk w wd T k,.val<|qh wd b,.val (oD (wd<|k+1) o)]) ?_ ?_
 ·unfold T9
  have a:dj (zJ<|dj (zk 2)<|zy<|.int 1) (rO<|zy<|.int 1) (z7 4 [.int p,vk w wd T k,qh wd b])=cq (.tup<|zG (wd k)<|b.v k):=by have U:∀g:Ctx,rO (zy<|.int 1) g=cq (.int (-1)):=λ_=>rfl;simp[z7,IE,f,U];exact I
  simp only[xY,xN,jM,kN,a];simp[z7,IE,e]
 ·cases o with
  |none=>simp[SV,oD,Cv,my]
  |some y=>
   have d:b.n+1<=lim:=by omega
   have Y:=fQ (wd:=wd) O y;simp[SV,oD,Cv,d,qu];unfold qh;rw[Y];rfl
noncomputable def iA(p:Int)(w:UK)(wd:UX)(T:UW)(k:Nat)(L:List Vc):Prop:=
 if w k=da then ∃q K l s,L=(IA q).map K/\g9 p (wd<|k+1) q K l/\(∀v,Span p (wd<|k+1) (ef q K) v↔B3 p (wd k) (wd<|k+1) (T k) v)/\Rk p (wd k) (wd<|k+1) (λj i=>T k i j) s/\q+s=wd (k+1)
 else ∃r B l,g9 p (wd<|k+1) r B l/\(∀v,Span p (wd<|k+1) (ef r B) v↔Span p (wd<|k+1) (ef (wd k) λj i=>T k i j) v)/\L=((IA<|wd<|k+1).filter λ(c:Nat)=> !decide ((c:Int)∈(IA r).map λj=>((l j:Nat):Int))).map jX
theorem tj:yK=jq 3 (zS P5<|zS TN TQ):=rfl
theorem Xw(l:UX):∀L:List Nat,V4 (L.map λj=>D.int ((l j:Nat):Int))=cq (L.map λj=>((l j:Nat):Int))
 |[]=>rfl
 |j::L=>by simp[V4,Xw l L]
theorem ed(I:g9 p n r B l):r<=n:=by
 have mono:∀k,k<r->k<=l k:=by
  intro k
  induction k with
  |zero=>intro _;omega
  |succ k U=>intro Y;have:=U ⋯;have:=I.mono k (k+1) ⋯ Y;omega
 cases r with
 |zero=>omega
 |succ O=>have:=mono O ⋯;have:=I.lt O ⋯;omega
theorem gG(n:Nat):xw (zX n n λi j=>if i=j then 1 else 0)=(IA n).map λ(i:Nat)=>D.tup [.int i,.tup (zG n<|jX i)]:=by unfold xw zX;simp only[Lc,Md];refine Lf λi a=>?_;have a:=IC.mp a;simp[a];rfl
theorem YO(J:Pr p)(z:∀k,wd k<=16):∃L:List Vc,iA p w wd T k L/\yK [.int p,vk w wd T k]=cq (.own<|L.map λy=>D.tup<|zG (wd<|k+1) y):=by
 have M:=jj;have H:=z k;have G:=z<|k+1;rw[tj];unfold iA;cases hw:w k with
 |true=>
  have a:ft w wd k=wd k:=by unfold ft;rw[hw];rfl
  have U:e9 w wd k=wd (k+1):=by unfold e9;rw[hw];rfl
  obtain⟨q,K,l,s,e,I,f,E,u⟩:=yL J (h:=wd k) (w:=wd<|k+1) ⋯ ⋯<|T k;refine⟨(IA q).map K,by rw[UJ rfl];exact⟨q,K,l,s,rfl,I,f,E,u⟩,je ?_⟩;have Y:=Kz da;have d:P5 (z7 3 [.int p,vk w wd T k])=cq (.ret<|.own<|zX q (wd<|k+1) K):=by simp[P5,z7,IE,yq,hw,Y,a,U,e]
  rw[jO,d,Ly];rfl
 | false=>
  have a:ft w wd k=wd (k+1):=by unfold ft;rw[hw];rfl
  have U:e9 w wd k=wd k:=by unfold e9;rw[hw];rfl
  obtain⟨r,B,l,e,I,f⟩:=XM J (h:=wd<|k+1) (w:=wd k) ⋯ ⋯<|T k;have N:=ed I;have x:r<=lim:=by omega
  have b:wd (k+1)<=lim:=by omega
  refine⟨_,by rw[UY ⋯];exact⟨r,B,l,I,f,rfl⟩,?_⟩;have Y:=Kz di;have A:zY (.nm 0) jw (zE qJ<|zb (zh 0) zF) [.no] (zX r (wd<|k+1) B)=cq ((IA r).map λj=>D.int ((l j:Nat):Int)):=by unfold zX;refine zC _ _ λj O=>zB rfl rfl ?_;have O:=IC.mp O;have e:=vw b (B j) (I.lt j O) (λi g=>I.n4 j i O g) (by rw[I.one j O];decide);simp[e]
  have C:zY (.tp [0,1]) (sB<|X3 (zh 0)<|zk 2) (zh 1) [.no,.no,.val (.lst<|(IA r).map λj=>D.int ((l j:Nat):Int))] ((IA<|wd<|k+1).map λ(i:Nat)=>D.tup [.int i,.tup (zG (wd<|k+1)<|jX i)]) =
   cq (((IA<|wd<|k+1).filter λ(c:Nat)=> !decide ((c:Int)∈(IA r).map λj=>((l j:Nat):Int))).map λ(i:Nat)=>D.tup<|zG (wd<|k+1)<|jX i):=by
   refine jt (λ(c:Nat)=> !decide ((c:Int)∈(IA r).map λj=>((l j:Nat):Int))) (λ(i:Nat)=>D.tup<|zG (wd<|k+1)<|jX i) _ λi g=>⟨_,rfl,?_,λ_=>rfl⟩;have F:=Xw l<|IA r;show(X3 (zh 0) (zk 2) [.val (.int i),_,.val (.lst<|(IA r).map λj=>D.int ((l j:Nat):Int))]).bind C8=_;show((V4<|(IA r).map λj=>D.int ((l j:Nat):Int)).map λl=>D.bl<|!decide ((i:Int)∈l)).bind C8=_;rw[F];rfl
  have d:=yu (n:=wd<|k+1) b;refine je<|zu (γ':=[.val (.int p),.val<|vk w wd T k,.no]) ?_ (zu (γ':=[.val (.int p),.val<|vk w wd T k,.val (.lst<|(IA r).map λj=>D.int ((l j:Nat):Int))]) ?_ ?_)
  ·simp[P5,z7,IE,yq,hw,Y]
  ·simp[TN,jk,yq,a,U,e,x,A]
  ·have m:jA (j8 (ft w wd k) (e9 w wd k)<|T k)=cq (.T,[.int (wd (k+1):Nat),.int (wd k:Nat),.tup (zX (wd<|k+1) (wd k)<|T k)]):=by rw[a,U];rfl
   have o:jA (j8 (wd<|k+1) (wd<|k+1) λi j=>if i=j then 1 else 0)=cq (.T,[.int (wd (k+1):Nat),.int (wd (k+1):Nat),.tup (zX (wd<|k+1) (wd<|k+1) λi j=>if i=j then 1 else 0)]):=rfl;have t:=gG<|wd<|k+1;simp[TQ,jk,yq,m,d,o,t,b];rw[C];exact congrArg cq (congrArg (List.map _)<|List.filter_congr λc _=>by simp)
end
section
variable{wd:UX}{m k r N:Nat}{p:Int}{w:UK}{T:UW}{B:Nat->Vc}{l:UX}{A:Nat->fA}
theorem oR(O:g9 p N r B l){j:Nat}(I:j<r):nt r l (l j)=cq j:=by
 cases h:nt r l (l j)with
 |none=>exact absurd rfl<|Ji h j I
 |some i=>
  obtain⟨a,b⟩:=xS h;rw[W6 O.mono a I b]
theorem VY{a b:List Nat}(z:a.Nodup)(I:b.Nodup)(h:∀x,x∈a↔x∈b):a.length=b.length:=((List.perm_ext_iff_of_nodup z I).mpr h).length_eq
theorem KG(I:g9 p N r B l):(IA N).countP (λi=>(nt r l i).isSome)=r:=by
 rw[Mx];have e:((IA N).filter λi=>(nt r l i).isSome).length=((IA r).map l).length:=by
  refine VY (Pn.sublist List.filter_sublist) ?_ λx=>?_
  ·rw[List.nodup_iff_pairwise_ne,Of]
   refine Ou (λ{a b} k O h=>?_)<|Oe (n:=r);have:=I.mono a b h<|IC.mp O;omega
  ·rw[Li,Lv]
   constructor
   ·rintro⟨d,f⟩
    obtain⟨j,U⟩:=LX.mp f;obtain⟨Y,g⟩:=xS U;exact⟨j,IC.mpr Y,g⟩
   ·rintro⟨j,d,f⟩
    have d:=IC.mp d;subst f;exact⟨IC.mpr<|I.lt j d,by rw[oR I d];rfl⟩
 rw[e];simp
theorem gV(q:UK)(N:Nat):(IA N).countP q+(IA N).countP (λi=> !q i)=N:=by
 have:=RB q (l:=IA N);rw[Md]at this;rw[this];congr 1
 ·rw[<-this]
 ·rw[<-this]
  exact Ni λi _=>by simp
theorem FE(I:∀j,j<N->(A j).has k=da)(t:Vc)(c:Nat):sx p A N t k c%p=app (λi j=>(A j).v k i) N t c%p:=by unfold sx app;rw[LJ];congr 1;exact zA λj O=>by rw[UJ (I j O),Ms]
theorem Zg(I:∀j,j<N->(A j).has k=da)(h:nt r l i=cq j)(c:Nat):(hM p A N r B l i).v k c%p=app (λi j=>(A j).v k i) N (B j) c%p:=by unfold hM;rw[h];exact FE I (B j) c
theorem XX(h:nt r l i=none):hM p A N r B l i=A i:=by unfold hM;rw[h]
theorem ck(hp:Pr p)(a5:∀k,wd k<=16)(hk:∀j,j<wd k->(A j).has k=da)(hs:∀v:Vc,∃t,∀i,i<wd k->v i%p=app (λi j=>(A j).v k i) (wd k) t i%p)
 (Z:g9 p (wd k) r B l) (hW:∀t,Span p (wd k) (ef r B) t↔uP p w wd T k (app (λi j=>(A j).v k i) (wd k) t)) {L:List Vc} (J:iA p w wd T k L) {nx:Nat->Option Vc}
 (hr:∀i,i<wd k->w k=di->(nx i=none->∀c,c<wd (k+1)->app (T k) (wd k) ((hM p A (wd k) r B l i).v k) c%p=0)/\∀y,nx i=cq y->(∀c,c<wd (k+1)->app (T k) (wd k) ((hM p A (wd k) r B l i).v k) c%p=y c%p)/\∃c,c<wd (k+1)/\y c%p≠0)
 (hl:∀i,i<wd k->w k=da->(nx i=none->¬∃y:Vc,∀c,c<wd k->app (T k) (wd<|k+1) y c%p=(hM p A (wd k) r B l i).v k c%p)/\∀y,nx i=cq y->∀c,c<wd k->app (T k) (wd<|k+1) y c%p=(hM p A (wd k) r B l i).v k c%p):
 (∀y,y∈L->∀c,c<wd (k+1)->0<=y c/\y c<p)/\(∀y,y∈L->w k=da->∀c,c<wd k->app (T k) (wd<|k+1) y c%p=0)/\
   (∀v,Span p (wd<|k+1) (λg=>(∃i,i<wd k/\nx i=cq g)\/g∈L) v)/\(IA<|wd k).countP (λi=>(nx i).isSome)+L.length=wd (k+1):=by
 have two:=hp.two;cases hw:w k with
 | false=>
  have u:∀t,Span p (wd k) (ef r B) t↔B3 p (wd<|k+1) (wd k) (T k) (app (λi j=>(A j).v k i) (wd k) t):=λt=>by have:=hW t;unfold uP at this;rw[hw,UY ⋯]at this;exact this
  unfold iA at J;rw[hw,UY ⋯]at J;obtain⟨o,B2,n,G,hI,U⟩:=J;obtain⟨g1,g2,g3,F⟩:=Aj hp (a5 k) (a5<|k+1) hs Z u G hI;have b0:∀c,c<wd (k+1)->(∀j,j<o->n j≠c)->jX c∈L:=λc O J=>by rw[U];refine Lv.mpr ⟨c,Li.mpr ⟨IC.mpr O,?_⟩,rfl⟩;simp only[MH,decide_eq_false_iff_not,Lv,IC];rintro⟨j,f,h⟩;exact J j f ⋯
  have on:∀i,i<wd k->(nx i).isSome=(nt r l i).isNone:=λi d=>by
   cases b:nt r l i with
   | none=>
    obtain⟨c,f,h⟩:=g2 i d<|Ji b;cases I:nx i with
    |some y=>rfl
    |none=>
     have:=(hr i d hw).1 I c f;rw[XX b]at this;exact absurd this h
   | some j=>
    obtain⟨f,h⟩:=xS b;cases I:nx i with
    |none=>rfl
    |some y=>
     obtain⟨e,c,M,h4⟩:=(hr i d hw).2 y I;have z:=g1 j f c M;rw[<-xy (λa _=>Zg (B:=B) (r:=r) (l:=l) hk b a) c,e c M]at z;exact absurd z h4
  refine⟨λy I c O=>?_,(λy I z=>by cases z),λv=>F _ (λc O x=>?_) (λc O x=>.gen (.inr<|b0 c O x)) v,?_⟩
  ·rw[U]at I
   obtain⟨i,_,rfl⟩:=Lv.mp I;unfold jX;split<;>omega
  ·have b:nt r l c=none:=by
    cases b:nt r l c with
    |none=>rfl
    |some j=>exact absurd (xS b).2 (x j (xS b).1)
   have m:=on c O;rw[b]at m;obtain⟨y,I⟩:=LX.mp m;refine(Span.gen<|.inl ⟨c,O,I⟩).congr λi d=>?_;have:=((hr c O hw).2 y I).1 i d;rw[XX b]at this;exact this
  ·have E:(IA<|wd k).countP (λi=>(nx i).isSome)=(IA<|wd k).countP λi=> !(nt r l i).isSome:=Ni λi d=>by
    rw[on i (IC.mp d)];cases nt r l i<;>simp
   have S:=gV (λi=>(nt r l i).isSome)<|wd k;rw[KG Z]at S;have W:=gV (λi=>(nt o n i).isSome)<|wd<|k+1;rw[KG G]at W;have X:L.length=(IA<|wd<|k+1).countP λi=> !(nt o n i).isSome:=by
    rw[U,Lc,<-Mx];refine Ni λi d=>?_;cases b:nt o n i with
    | none=>
     have:=Ji b;simp only[MH,decide_eq_false_iff_not,Lv,IC];constructor
     ·intro _;rfl
     ·rintro _ ⟨j,f,h⟩
      exact this j f ⋯
    |some j=>
     obtain⟨f,h⟩:=xS b;simp only[MH,decide_eq_false_iff_not,Lv,IC];constructor
     ·intro z;exact absurd ⟨j,f,by rw[h]⟩ z
     ·intro z;cases z
   rw[E,X];omega
 | true=>
  have u:∀t,Span p (wd k) (ef r B) t↔Span p (wd k) (ef (wd<|k+1) λj i=>T k i j) (app (λi j=>(A j).v k i) (wd k) t):=λt=>by have:=hW t;unfold uP at this;rw[hw,UJ rfl]at this;exact this
  unfold iA at J;rw[hw,UJ rfl]at J;obtain⟨q,K,lK,s,U,N,H,P,Q⟩:=J;obtain⟨g1,g2,g3,F⟩:=Ak hp (a5 k) (a5<|k+1) hs Z u H P Q;have on:∀i,i<wd k->(nx i).isSome=(nt r l i).isSome:=λi d=>by
   cases b:nt r l i with
   | none=>
    cases I:nx i with
    |none=>rfl
    |some y=>
     have:=(hl i d hw).2 y I;rw[XX b]at this;exact absurd ⟨y,this⟩<|g2 i d<|Ji b
   | some j=>
    obtain⟨f,h⟩:=xS b;cases I:nx i with
    |some y=>rfl
    |none=>
     obtain⟨y,R⟩:=g1 j f;exact absurd ⟨y,λc O=>by rw[R c O,Zg hk b c]⟩<|(hl i d hw).1 I
  refine⟨λy I c O=>?_,λy I _ c O=>?_,λv=>F _ (λj=>(nx<|l j).getD λ_=>0) (λj Y=>?_) (λj Y=>?_) v,?_⟩
  ·rw[U]at I
   obtain⟨j,Y,rfl⟩:=Lv.mp I;exact N.m9 j c (IC.mp Y) O
  ·rw[U]at I
   obtain⟨j,Y,rfl⟩:=Lv.mp I;exact(H<|K j).mp (.gen ⟨j,IC.mp Y,rfl⟩) c O
  ·have b:=oR Z Y
   have C:=Z.lt j Y;have m:=on (l j) C;rw[b]at m;obtain⟨y,I⟩:=LX.mp m;rw[I];refine⟨.gen<|.inl ⟨l j,C,I⟩,λc O=>?_⟩;have:=(hl (l j) C hw).2 y I c O;rw[Zg hk b c]at this;exact this
  ·refine .gen (.inr ?_)
   rw[U];exact Lv.mpr ⟨j,IC.mpr Y,rfl⟩
  ·have E:(IA<|wd k).countP (λi=>(nx i).isSome)=(IA<|wd k).countP λi=>(nt r l i).isSome:=Ni λi d=>by
    rw[on i (IC.mp d)]
   rw[E,KG Z,U,Lc,Md];omega
end
section
variable{wd:UX}{m k:Nat}{p:Int}{w:UK}{T:UW}
theorem gA:QI=jq 9 (zS Tu<|zS Tv<|zS Tw<|zS Tx<|zS Tz<|zS TC Su):=rfl
theorem FD(y:Vc):qh wd (ra k y)=.tup [.int ((k:Int)+1),.tup [.tup (zG (wd<|k+1) y)]]:=by unfold qh ra kY;simp
theorem mQ(Z:Pr p)(O:∀k,wd k<=16)(hm:m<=5)(ae:k<m)(hT:∀i j,i<ft w wd k->j<e9 w wd k->0<=T k i j/\T k i j<p){J:List fA}(I:Dq p w wd T k J)(ax:J.length<=100):
 ∃a7,Dq p w wd T (k+1) a7/\a7.length<=J.length+wd (k+1)/\QI [zO p m w wd T,.int k,.lst (J.map<|qh wd)]=cq (.val<|.lst<|a7.map<|qh wd):=by
 have hl:=jj;have S:=Z.pos;have M:J.length<=lim:=by omega
 have F:(J.filter λb=>b.has k).length=wd k:=by rw[<-Mx];exact I.ct k<|II _
 let A:Nat->fA:=λj=>(J.filter λb=>b.has k).getD j iG;have Q:(J.filter λb=>b.has k)=(IA<|wd k).map A:=by rw[<-F];exact(jD iG _).symm
 have R:∀j,j<wd k->A j∈J/\(A j).has k=da:=λj U=>by
  have:A j∈J.filter λb=>b.has k:=by show(J.filter λb=>b.has k).getD j iG∈_;rw[IG,ID ⋯];exact MB _
  have:=Li.mp this;exact⟨this.1,by simpa using this.2⟩
 have G:∀j,j<wd k->p6 p w wd T k (A j):=λj U=>I.ok _ (R j U).1;have hO:∀i c,i<c->c<wd k->Ord w (A i) (A c):=λi c d u=>by have:=Nc.mp I.od i c ⋯ ⋯ d;show Ord w ((J.filter λb=>b.has k).getD i iG) ((J.filter λb=>b.has k).getD c iG);rw[IG,ID ⋯,IG,ID ⋯];exact this
 have E:∀j,j<wd k->(A j).has k=da:=λj U=>(R j U).2;obtain⟨r,B,l,H,hW,eS⟩:=bp (T:=T) (w:=w) (A:=A) (N:=wd k) (k:=k) Z (λj U=>by have:=(G j U).le;omega) E ae (O k) hm O λj rm i U hh a=>(G j U).m9 rm i hh a;have ir:∀i,i<wd k->p6 p w wd T k (hM p A (wd k) r B l i):=λi a=>nU S H G E hO a;have an:∀i,i<wd k->(hM p A (wd k) r B l i).has k=da:=λi a=>by rw[VA];exact E i a
 have ex:∀i,∃o:Option Vc,i<wd k->(xP [.int p,vk w wd T k,.tup (zG (wd k)<|(hM p A (wd k) r B l i).v k)]=cq (.val<|oD (wd<|k+1) o)/\(∀y,o=cq y->∀c,c<wd (k+1)->0<=y c/\y c<p)/\
  (w k=di->(o=none->∀c,c<wd (k+1)->app (T k) (wd k) ((hM p A (wd k) r B l i).v k) c%p=0)/\∀y,o=cq y->(∀c,c<wd (k+1)->app (T k) (wd k) ((hM p A (wd k) r B l i).v k) c%p=y c%p)/\∃c,c<wd (k+1)/\y c%p≠0)/\
  (w k=da->(o=none->¬∃y:Vc,∀c,c<wd k->app (T k) (wd<|k+1) y c%p=(hM p A (wd k) r B l i).v k c%p)/\∀y,o=cq y->∀c,c<wd k->app (T k) (wd<|k+1) y c%p=(hM p A (wd k) r B l i).v k c%p)):=λi=>by
  by_cases a:i<wd k
  ·obtain⟨o,h⟩:=YN (T:=T) (w:=w) (k:=k) Z O hT ((hM p A (wd k) r B l i).v k) λc hc=>(ir i a).m9 k c (an i a) hc
   exact⟨o,λ_=>h⟩
  ·exact⟨none,λz=>absurd z a⟩
 obtain⟨nx,s⟩:=OR ex;obtain⟨Y,hN,eN⟩:=YO (T:=T) (w:=w) (k:=k) Z O;have hs:∀v:Vc,∃t,∀i,i<wd k->v i%p=app (λi j=>(A j).v k i) (wd k) t i%p:=λv=>by
  have hv:Span p (wd k) (ef (wd k) λj=>(A j).v k) v:=(I.sp k (II _) v).le λg hg=>by obtain⟨b,d,u,rfl⟩:=hg;have P:b∈J.filter λb=>b.has k:=Li.mpr ⟨d,by simpa using u⟩;rw[Q]at P;obtain⟨j,U,rfl⟩:=Lv.mp P;exact .gen ⟨j,IC.mp U,rfl⟩
  obtain⟨t,ht⟩:=Yn hv;exact⟨t,λi a=>by rw[ht i a];unfold app;rw[xH]⟩
 obtain⟨f1,f2,f3,f4⟩:=ck (T:=T) (w:=w) (A:=A) Z O E hs H hW hN (nx:=nx) (λi a=>(s i a).2.2.1) λi a=>(s i a).2.2.2;refine⟨vQ p k w J A (wd k) r B l nx Y,gz S I F (λ_=>rfl) H (λi y a e=>(s i a).2.1 y e) f1 (λi a e f=>((s i a).2.2.1 f).1 e) (λi y a e f=>(((s i a).2.2.1 f).2 y e).1) (λi y a e f=>((s i a).2.2.2 f).2 y e) f2 f3 f4,?_,?_⟩
 ·have d:(J.filter λb=> !b.has k).length+wd k=J.length:=by
   have:=RB (λb:fA=>b.has k) (l:=J);rw[<-F,<-Mx,<-Mx,this];have e:J.countP (λb=> !b.has k)=J.countP λb=>decide (¬b.has k=da):=Ni λb _=>by simp
   rw[e];omega
  have u:=O<|k+1;unfold vQ;rw[Lz];cases w k<;>simp<;>omega
 ·
  let L:D:=.lst (J.map<|qh wd);have e3:zY (.nm 0) (Zi<|sB<|zE jZ<|zb (zh 0)<|zb (zh 1) zF) (zh 0) [.no,.val (.int k)] (J.map<|qh wd)=cq ((J.filter λb=> !b.has k).map (qh wd)):=by refine jt (g:=qh wd) (λb=> !b.has k) (qh wd) J λb K=>⟨[.val (qh wd b),.val (.int k)],rfl,?_,λ_=>by rfl⟩;have e:=yI (wd:=wd) (b:=b) (by have:=(I.ok b K).le;omega) k;simp[e]
  have e4:zY (.nm 0) (sB<|zE jZ<|zb (zh 0)<|zb (zh 1) zF) (zh 0) [.no,.val (.int k)] (J.map<|qh wd)=cq ((IA<|wd k).map λj=>qh wd<|A j):=by
   have:((J.filter λb=>b.has k).map (qh wd))=(IA<|wd k).map λj=>qh wd (A j):=by rw[Q,Ly];rfl
   rw[<-this];refine jt (g:=qh wd) (λb=>b.has k) (qh wd) J λb K=>⟨[.val (qh wd b),.val (.int k)],rfl,?_,λ_=>by rfl⟩;have e:=yI (wd:=wd) (b:=b) (by have:=(I.ok b K).le;omega) k;simp[e]
  have e5:zY (.nm 0) jw (zE yt<|zb (zh 1)<|zb (zh 2)<|zb (zh 0) zF) [.no,.val<|.int p,.val (vk w wd T k)] ((IA<|wd k).map λi=>qh wd<|hM p A (wd k) r B l i)=cq ((IA<|wd k).map λi=>qh wd<|my k (hM p A (wd k) r B l i)<|nx i):=by refine zC _ _ λi a=>zB rfl rfl ?_;have a:=IC.mp a;have d:=p3.mp<|an i a;have e:=iV (p:=p) (ir i a).n1 (by have:=(ir i a).le;omega) (show k<=20 by omega) (s i a).1;simp[e]
  have e6:zY (.nm 0) jw (xF<|zb (zI qu (zh 1)<|zy<|.int 1)<|zb (xF<|zb (zh 0) zF) zF) [.no,.val (.int k)] (Y.map λy=>D.tup<|zG (wd<|k+1) y)=cq ((Y.map<|ra k).map (qh wd)):=by rw[Ly];refine zC _ _ λy hy=>zB rfl rfl ?_;show _=cq (qh wd<|ra k y);rw[FD];rfl
  have W:Y.length<=lim:=by have:=O<|k+1;omega
  have X:wd k<=lim:=by have:=O k;omega
  let n:D:=.lst ((J.filter λb=> !b.has k).map (qh wd));let C:D:=.lst ((IA<|wd k).map λi=>qh wd<|hM p A (wd k) r B l i);let x:D:=.lst ((IA<|wd k).map λi=>qh wd<|my k (hM p A (wd k) r B l i)<|nx i);let Ne:D:=.lst ((Y.map<|ra k).map (qh wd));rw[gA];refine je (zu (γ':=[.val (zO p m w wd T),.val<|.int k,.val L,.val<|.int p,.no,.no,.no,.no,.no]) ?_
   (zu (γ':=[.val (zO p m w wd T),.val<|.int k,.val L,.val<|.int p,.val<|vk w wd T k,.no,.no,.no,.no]) ?_
   (zu (γ':=[.val (zO p m w wd T),.val<|.int k,.val L,.val<|.int p,.val<|vk w wd T k,.val n,.no,.no,.no]) ?_
   (zu (γ':=[.val (zO p m w wd T),.val<|.int k,.val L,.val<|.int p,.val<|vk w wd T k,.val n,.val C,.no,.no]) ?_
   (zu (γ':=[.val (zO p m w wd T),.val<|.int k,.val L,.val<|.int p,.val<|vk w wd T k,.val n,.val C,.val x,.no]) ?_
   (zu (γ':=[.val (zO p m w wd T),.val<|.int k,.val L,.val<|.int p,.val<|vk w wd T k,.val n,.val C,.val x,.val Ne]) ?_ ?_))))))
  ·simp[Tu,z7,IE,yZ,L]
  ·simp[Tv,yZ,QE,ae]
  ·simp[Tw,jk,L,M,e3,n]
  ·simp[Tx,jk,L,M,e4,eS,C]
  ·simp[Tz,jk,C,X,e5,x]
  ·simp[TC,jk,eN,W]
   rw[e6];simp[Ne]
  ·have c0:(J.filter λb=> !b.has k).length<=100:=LG (List.length_filter_le _ _) ax
   have q1:=O k;have q2:=O<|k+1;cases f:w k with
   |false=>
    have eq:=Ky di;have d:Y.length+wd k<=lim:=by omega
    have u:(J.filter λb=> !b.has k).length+(Y.length+wd k)<=lim:=by omega
    simp[Su,yq,f,eq,n,x,Ne,vQ,d,u]
   |true=>
    have eq:=Ky da;have d:wd k+Y.length<=lim:=by omega
    have u:(J.filter λb=> !b.has k).length+(wd k+Y.length)<=lim:=by omega
    simp[Su,yq,f,eq,n,x,Ne,vQ,d,u]
end
section
variable{wd:UX}{m k:Nat}{p:Int}{w:UK}{T:UW}
noncomputable def iI(c:Nat):fA:=⟨0,1,λ_=>jX c⟩
theorem ub(Y:Pr p):Dq p w wd T 0 ((IA<|wd 0).map iI):=by
 have two:=Y.two;have a:∀b,b∈(IA<|wd 0).map iI ↔ ∃c,c<wd 0/\b=iI c:=λb=>by rw[Lv];exact⟨λ⟨c,d,e⟩=>⟨c,IC.mp d,e.symm⟩,λ⟨c,d,e⟩=>⟨c,IC.mpr d,e.symm⟩⟩
 have U:∀c,(iI c).has 0=da:=λc=>p3.mpr ⟨II _,by show 0<0+1;omega⟩;refine⟨λb I=>?_,λr h v=>?_,λr h=>?_,?_⟩
 ·obtain⟨c,O,rfl⟩:=(a b).mp I
  exact⟨II _,by show 0+1<=0+1;omega,λr i _ _=>by show 0<=jX c i/\jX c i<p;unfold jX;split<;>omega,λj k=>by omega⟩
 ·have:r=0:=by omega
  subst this;refine(Y7 (wd 0) v).le λg f=>?_;obtain⟨c,O,rfl⟩:=f;exact .gen ⟨iI c,(a _).mpr ⟨c,O,rfl⟩,U c,rfl⟩
 ·have:r=0:=by omega
  subst this;rw[List.countP_eq_length.mpr λb I=>?_]
  ·simp
  ·obtain⟨c,O,rfl⟩:=(a b).mp I
   exact U c
 ·refine Pc _ ?_
  rw[Of];exact Nc.mpr λ_ _ _ _ _=>⟨λz=>absurd z<|LL 0,λz=>absurd z<|LL 0⟩
theorem KQ:yN=jq 3 (zS Si<|zS Ta Tb):=rfl
noncomputable def JY(b:fA):Int×Int:=((b.s:Int),((b.s+b.n-1:Nat):Int))
theorem fU:∀z:List fA,(∀b,b∈z->1<=b.n/\b.s+b.n<=100)->YV j6 (z.map<|qh wd)=cq (z.map JY)
 |[],_=>rfl
 |b::z,h=>by have a:=h b La;have e:=Xi (wd:=wd) a.1 a.2;have I:=fU z λb O=>h b<|Ld _ O;simp only[Lk,YV,e,I,IF];rfl
noncomputable def kc(z:List fA):List fA:=(kT<|z.map JY).map λi=>z.getD i iG
theorem JA(z:List fA):(kc z).Perm z:=by have h:=qU<|z.map JY;rw[Lc]at h;have:=h.map λi=>z.getD i iG;rw[jD]at this;exact this
theorem Yo(z:List fA):(kc z).map JY=ZT (z.map JY):=by unfold kc ZT;rw[Ly];refine Lf λi a=>?_;have h:=qU<|z.map JY;have a:=IC.mp<|h.mem_iff.mp a;rw[Lc]at a;simp[a]
theorem KP{b:Nat}(Y:Pr p)(O:b<=16)(Z:b*(m+1)<=48)(U:∀k,wd k<=b)(L:m<=5)(J:∀k i j,k<m->i<ft w wd k->j<e9 w wd k->0<=T k i j/\T k i j<p):
 ∃z,Dq p w wd T m z/\z.length<=48/\yN [zO p m w wd T]=cq (.own<|(kc z).map (qh wd)):=by
 have Q:=jj;have P:=U 0;have u:∀k,wd k<=16:=λk=>LG (U k) O;have g:wd 0<=lim:=by omega
 have E:=yu (n:=wd 0) g;have t:jA (j8 (wd 0) (wd 0) λi j=>if i=j then 1 else 0)=cq (.T,[.int (wd 0:Nat),.int (wd 0:Nat),.tup (zX (wd 0) (wd 0) λi j=>if i=j then 1 else 0)]):=rfl;have A:zY (.nm 0) jw (xF<|zb (zy<|.int 0)<|zb (xF<|zb (zh 0) zF) zF) [.no] (zX (wd 0) (wd 0) λi j=>if i=j then 1 else 0)=cq (((IA<|wd 0).map iI).map (qh wd)):=by rw[Ly];unfold zX;refine zC _ _ λi a=>zB rfl rfl ?_;show cq _=cq (qh wd<|iI i);unfold qh iI kY;simp;rfl
 have H:Si (z7 3 [zO p m w wd T])=cq (.next [.val (zO p m w wd T),.val<|.lst<|((IA<|wd 0).map iI).map (qh wd),.no]):=by simp[Si,z7,IE,yZ,E,t,jk,g];rw[A];simp
 obtain⟨M,K,z,c,I,x,rfl⟩:=Zw (T:=.nm 2) (F:=jr 1<|zE QI<|zb (zh 0)<|zb (zh 2)<|zb (zh 1) zF) (f:=VC<|zJ<|dj (zk 0)<|zy<|.int 2)
  (λj γ=>∃z c,Dq p w wd T j z/\z.length<=b*(j+1)/\γ=[.val (zO p m w wd T),.val<|.lst<|z.map<|qh wd,c]) m ⋯ (γ:=[.val (zO p m w wd T),.val<|.lst<|((IA<|wd 0).map iI).map (qh wd),.no])
  (by simp[yZ]) ⟨_,_,ub Y,by simp;omega,rfl⟩ λs o γ d=>by obtain⟨z,c,I,x,rfl⟩:=d;obtain⟨l,r,N,e⟩:=mQ (T:=T) (w:=w) (k:=s) Y u L o (J s · · o) I (by have:=Nat.mul_le_mul_left b (show s+1<=m+1 by omega);omega);refine⟨_,[.val (zO p m w wd T),.val<|.lst<|l.map<|qh wd,.val (.int s)],rfl,?_,l,_,r,by have:=U<|s+1;rw[Nat.mul_succ b (s+1)];omega,rfl⟩;simp[e]
 refine⟨z,I,by omega,?_⟩;have C:=fU (wd:=wd) z λb O=>⟨(I.ok b O).n1,by have:=(I.ok b O).le;omega⟩;rw[KQ];refine je<|zu H<|zu (show Ta _=_ from K) ?_;have y:z.length<64:=by omega
 unfold Tb;have B:dJ j6 (zk 1) [.val (zO p m w wd T),.val<|.lst<|z.map<|qh wd,c]=cq ((kc z).map (qh wd)):=by show((YV j6<|z.map<|qh wd).bind λG=>if (z.map<|qh wd).length<64 then cq ((kT G).map λi=>(z.map<|qh wd).getD i .d7)else none)=_;rw[C];simp only[IF,Lc,y,if_true];congr 1;unfold kc;rw[Ly];refine Lf λi a=>?_;have h:=qU<|z.map JY;have a:=IC.mp<|h.mem_iff.mp a;rw[Lc]at a;simp[a]
 rw[iw,B];rfl
theorem Dq.perm(h:Tj.Perm n6)(I:Dq p w wd T k n6):(∀b,b∈Tj->p6 p w wd T k b)/\(∀r,r<=k->∀v,Span p (wd r) (HB Tj r) v)/\∀r,r<=k->Tj.countP (λb=>b.has r)=wd r:=by
 refine⟨λb U=>I.ok b<|h.mem_iff.mp U,λr O v=>(I.sp r O v).le λg Y=>?_,λr O=>?_⟩
 ·obtain⟨b,a,d,e⟩:=Y
  exact .gen ⟨b,h.mem_iff.mpr a,d,e⟩
 ·rw[h.countP_eq];exact I.ct r O
end
noncomputable def pf(bs:List (Int×Int))(k:Nat):Nat:=(qD bs k).length
noncomputable def r6(w:UK)(bs:List (Int×Int))(k i j:Nat):Int:=if (qD bs<|z9 w k).getD i 0=(qD bs<|zZ w k).getD j 0 then 1 else 0
noncomputable def kR(m:Nat)(wd:UX)(f:UW):List TB:=(IA<|m+1).map λk=>(wd k,wd k,f k)
theorem XR(m wd f):(kR m wd f).map tD=j3 (m+1) wd f:=by unfold kR j3;rw[Ly];rfl
section
variable{p:Int}{n:Nat}
theorem iE(z:Pr p)(J:n<=20)(f:UV):∃r B l,g9 p (n+n) r B l/\(∀v,Span p (n+n) (ef r B) v↔Span p (n+n) (ef n λi=>yU n (f i)<|jX i) v)/\
 kP [.int p,j8 n n f]=cq (.val<|if hB (.lst<|zX r n B) (.lst<|zX n n jX)=da then .tup [.int n,.int n,.tup (zX r n λk j=>B k<|n+j)]else .d7):=by
 have C:=jj;have I:n<=lim:=by omega
 have o:n+n<=lim:=by omega
 obtain⟨r,B,l,e,O,s⟩:=vx z (show n+n<=100 by omega) I .L λi=>yU n (f i)<|jX i;refine⟨r,B,l,O,s,?_⟩;have U:r<=lim:=by have:r<=n+n:=VR O.mono O.lt;omega
 have Y:=yu (n:=n) I;have a:zY (.tp [0,1]) jw (zI qu (zh 0)<|zh 1) [Cell.no,Cell.no] ((IA n).map λi=>D.tup [.tup (zG n<|f i),.tup (zG n λk=>if i=k then 1 else 0)])=cq (zX n (n+n) λi=>yU n (f i)<|jX i):=by unfold zX;refine zC _ _ λj A=>zB rfl rfl ?_;simp[qu,o,Jj];rfl
 have m:=Wo n n f λi j=>if i=j then 1 else 0;have u:((n:Int)+(n:Int))=((n+n:Nat):Int):=by omega
 simp only[sh]at e;rw[<-u]at e;have d:zY (.nm 0) jw (WL (zh 0) cS<|p5<|zh 1) [Cell.no,Cell.val (.int n)] (zX r (n+n) B)=cq (zX r n B):=by unfold zX;refine zC _ _ λk x=>zB rfl rfl ?_;simp[aG]
 have t:zY (.nm 0) jw (WL (zh 0) (p5<|zh 1) cS) [Cell.no,Cell.val (.int n)] (zX r (n+n) B)=cq (zX r n λk j=>B k<|n+j):=by unfold zX;refine zC _ _ λk x=>zB rfl rfl ?_;simp[aF]
 have b:l5 (.lst<|zX r n B) (.lst<|zX n n λi j=>if i=j then 1 else 0)=cq (.bl<|!hB (.lst<|zX r n B) (.lst<|zX n n jX)):=by unfold l5;rw[UJ ⟨W5 _ _ _,W5 _ _ _⟩];rfl
 have g:∀(h w:Nat) (f:UV),jA (j8 h w f)=cq (.T,[.int h,.int w,.tup (zX h w f)]):=λ_ _ _=>rfl;by_cases q:hB (.lst<|zX r n B) (.lst<|zX n n jX)=da
 ·rw[q]at b
  rw[UJ q];simp[kP,jq,z7,jO,g,Y,m,I,U,jk,kf,IE,a,e,d,t,b]
 ·have y:hB (.lst<|zX r n B) (.lst<|zX n n jX)=di:=by simpa using q
  rw[y]at b;rw[UY q];simp[kP,jq,z7,jO,g,Y,m,I,U,jk,kf,IE,a,e,d,b]
theorem Wn(U:Pr p)(hn:n<=20)(L:Ja p n f g)(Z:Ja p n g f)(J:∀i j,i<n->j<n->0<=g i j/\g i j<p):kP [.int p,j8 n n f]=cq (.val<|j8 n n g):=by
 obtain⟨r,B,l,C,o,e⟩:=iE U hn f;have two:=U.two;have one:=U.one;have x:g9 p (n+n) n (λk=>yU n (jX k)<|g k) id:={
  lt:=λk I=>by simp only[id];omega
  mono:=λk m I _=>I
  one:=λk I=>by simp only[id];rw[qa I];exact UJ rfl
  n4:=λk j I Y=>by simp only[id]at Y;rw[qa ⋯];exact UY ⋯
  wa:=λk m I E b=>by simp only[id];rw[qa E];exact UY ⋯
  m9:=λk i I a=>by
   rcases Lg i n with z|z
   ·rw[qa z];unfold jX;split<;>omega
   ·obtain⟨j,rfl⟩:∃j,i=n+j:=⟨i-n,by omega⟩
    rw[qr];exact J k j I ⋯}
 have t:∀v,Span p (n+n) (ef n λk=>yU n (jX k)<|g k) v->Span p (n+n) (ef n λi=>yU n (f i)<|jX i) v:=λv O=>O.le λs h=>by
  obtain⟨k,I,d⟩:=h;subst d;refine(Span.sum (u:=λi=>yU n (f i)<|jX i) (λi=>g k i) (m:=n) λi a=>.gen ⟨i,a,rfl⟩).congr λj Y=>?_;rcases Lg j n with z|z
  ·simp only[qa z]
   exact(Z k j I z).symm
  ·obtain⟨m,rfl⟩:∃m,j=n+m:=⟨j-n,by omega⟩
   simp only[qr];rw[z6 (i:=m) ⋯ λi _ b=>by simp[jX,b]];simp[jX]
 have w:∀v,Span p (n+n) (ef n λi=>yU n (f i)<|jX i) v->Span p (n+n) (ef n λk=>yU n (jX k)<|g k) v:=λv O=>O.le λs h=>by
  obtain⟨i,a,d⟩:=h;subst d;refine(Span.sum (u:=λk=>yU n (jX k)<|g k) (λk=>f i k) (m:=n) λk I=>.gen ⟨k,I,rfl⟩).congr λj Y=>?_;rcases Lg j n with z|z
  ·simp only[qa z]
   rw[z6 (i:=j) z λk _ b=>by simp[jX,b]];simp[jX]
  ·obtain⟨m,rfl⟩:∃m,j=n+m:=⟨j-n,by omega⟩
   simp only[qr];exact(L i m a ⋯).symm
 obtain⟨rfl,_,u⟩:=QD U C x (λv O=>w v<|(o v).mp O)<|λv O=>(o v).mpr (t v O);have y:zX r r B=zX r r jX:=aC λk i I a=>by rw[u k i I ⋯,qa a]
 have A:zX r r (λk j=>B k<|r+j)=zX r r g:=aC λk j I Y=>by rw[u k (r+j) I ⋯,qr]
 rw[e,y,UJ<|O8 _,A];rfl
end
section
variable{wd:UX}{m k N:Nat}{p:Int}{w:UK}{T:UW}{A:Nat->fA}
noncomputable def l6(A:Nat->fA)(N r:Nat):List Nat:=(IA N).filter λj=>(A j).has r
noncomputable def qQ(A:Nat->fA)(N r:Nat):Nat->Nat->Int:=λi j=>(A<|(l6 A N r).getD j 0).v r i
theorem V3{r j:Nat}(h:j<(l6 A N r).length):(l6 A N r).getD j 0<N/\(A<|(l6 A N r).getD j 0).has r=da:=by
 have d:(l6 A N r).getD j 0∈l6 A N r:=by rw[IG,ID h];exact MB _
 obtain⟨a,b⟩:=Li.mp d;exact⟨IC.mp a,by simpa using b⟩
theorem Ya(I:Pr p)(J:n<=16)(hs:∀v:Vc,∃t,∀i,i<n->v i%p=app f n t i%p):∃g:UV,Ja p n f g/\Ja p n g f/\∀i j,0<=g i j/\g i j<p:=by
 have Y:=I.pos;obtain⟨t,O⟩:=OR λj=>hs<|jX j;refine⟨λi j=>t j i%p,?_,?_,λi j=>⟨LU _ ⋯,LB _ Y⟩⟩
 ·intro i j d U
  have e:zm (λk=>f i k*(t j k%p)) n%p=app f n (t j) i%p:=zQ λk _=>wI p _ _;rw[e,<-O j i d];unfold jX rn;simp only[eq_comm]
 ·intro i j d U
  have z:∀a,a<n->app f n (λb=>zm (λk=>(t k b%p)*f k j) n-jX j b) a%p=0:=λa h=>by
   rw[QF,wV f U,MT];have e:app f n (λb=>zm (λk=>(t k b%p)*f k j) n) a%p=f a j%p:=by
    have l:app f n (λb=>zm (λk=>(t k b%p)*f k j) n) a=zm (λk=>f k j*app f n (λb=>t k b%p) a) n:=by rw[<-vm];congr 1;funext b;exact xH ..
    rw[l];have m:zm (λk=>f k j*app f n (λb=>t k b%p) a) n%p=zm (λk=>f k j*jX k a) n%p:=zQ λk _=>by rw[IQ,xy (u:=t k) (λb _=>LJ _ _) a,<-O k a h,<-IQ]
    rw[m,z6 (f:=λk=>f k j*jX k a) h λk _ r=>by simp[jX,r]];simp[jX]
   rw[e];simp
  have:=J2 I J hs z i d;have o:(zm (λk=>(t k i%p)*f k j) n)%p=jX j i%p:=MM.mpr this;show zm (λk=>(t k i%p)*f k j) n%p=rn i j%p;rw[o];unfold jX rn;simp only[eq_comm]
theorem cN:jQ=jq 4 (zS Te<|zS Tf<|zS Th Ti):=rfl
theorem cL{b:Nat}(hp:Pr p)(hb:b<=16)(ab:b*(m+1)<=48)(Z:∀k,wd k<=b)(hm:m<=5)(hT:∀k i j,k<m->i<ft w wd k->j<e9 w wd k->0<=T k i j/\T k i j<p):
 ∃(N:Nat) (A:Nat->fA) (g:UW),N<=48/\(∀j,j<N->p6 p w wd T m (A j))/\(∀r,r<=m->(l6 A N r).length=wd r)/\(∀r,r<=m->Ja p (wd r) (qQ A N r) (g r)/\Ja p (wd r) (g r) (qQ A N r)/\∀i j,0<=g r i j/\g r i j<p)/\
  (∃J:List fA,((IA N).map λj=>JY<|A j)=(kc J).map JY)/\
  jQ [zO p m w wd T]=cq (.val<|xW ((IA N).map λj=>JY<|A j) (kR m wd g)<|kR m wd λr=>qQ A N r):=by
 have hl:=jj;obtain⟨J,I,F,C⟩:=KP (T:=T) (w:=w) hp hb ab Z hm hT;obtain⟨ok,sp,Q⟩:=I.perm<|JA J;have G:(kc J).length=J.length:=(JA J).length_eq;let A:Nat->fA:=λj=>(kc J).getD j iG;have Y:kc J=(IA J.length).map A:=by rw[<-G];exact(jD iG _).symm
 have f:∀j,j<J.length->p6 p w wd T m (A j):=λj U=>ok _ (by
  rw[Y];exact Lv.mpr ⟨j,IC.mpr U,rfl⟩)
 have cnt:∀r,r<=m->(l6 A J.length r).length=wd r:=λr O=>by have:=Q r O;rw[Y,PB,Mx]at this;exact this
 have H:∀r,r<=m->∀v:Vc,∃t,∀i,i<wd r->v i%p=app (qQ A J.length r) (wd r) t i%p:=λr O v=>by
  have hv:Span p (wd r) (ef (wd r) λj i=>qQ A J.length r i j) v:=(sp r O v).le λgg d=>by obtain⟨b,a,o,rfl⟩:=d;rw[Y]at a;obtain⟨j,U,rfl⟩:=Lv.mp a;have K:j∈l6 A J.length r:=Li.mpr ⟨U,by simpa using o⟩;obtain⟨i,E,e⟩:=Rc K;refine .gen ⟨i,by rw[<-cnt r O];exact E,?_⟩;funext c;show(A j).v r c=(A<|(l6 A J.length r).getD i 0).v r c;rw[IG,ID E];simp[e]
  exact DB.mp hv
 have M:∀r,∃g:UV,r<=m->Ja p (wd r) (qQ A J.length r) g/\Ja p (wd r) g (qQ A J.length r)/\∀i j,0<=g i j/\g i j<p:=λr=>by
  by_cases O:r<=m
  ·obtain⟨g,h⟩:=Ya hp (LG (Z r) hb) (H r O)
   exact⟨g,λ_=>h⟩
  ·exact⟨λ_ _=>0,λz=>absurd z O⟩
 obtain⟨g,d⟩:=OR M;have W:(kc J).map JY=(IA J.length).map λj=>JY (A j):=by
  conv=>lhs;rw[Y,Ly]
  rfl
 refine⟨J.length,A,g,F,f,cnt,d,⟨J,W.symm⟩,?_⟩
 ·have u:J.length<=lim:=by omega
  have X:((kc J).map (qh wd))=(IA J.length).map λj=>qh wd (A j):=by
   conv=>lhs;rw[Y,Ly]
   rfl
  rw[X]at C;let L:D:=.lst ((IA J.length).map λj=>qh wd<|A j);have x:∀j,j<J.length->(A j).s+(A j).n<=100:=λj U=>by have:=(f j U).le;omega
  have R:zY (.tp [0,1]) jw (zE kO<|zb (zh 1)<|zb (jG<|jg q9<|zb (zh 2)<|zb (zh 0) zF) zF) [.no,.no,.val L] ((IA<|m+1).map λ(i:Nat)=>D.tup [.int i,.int (wd i:Nat)])=cq (j3 (m+1) wd λr=>qQ A J.length r):=by unfold j3;refine zC _ _ λr O=>zB rfl rfl ?_;have O:=IC.mp O;have B:=vY (wd:=wd) x u r;rw[W8 (wd r) (λj=>(A j).v r),show((IA J.length).filter λj=>(A j).has r)=l6 A J.length r from rfl,cnt r ⋯]at B;have b7:=Z r;have l:=ZE (q:=wd r) (h:=wd r) (λi=>(A<|(l6 A J.length r).getD i 0).v r) ⋯ ⋯;simp[-IG,L,B,l];rfl
  have l:zY (.nm 0) jw (zE kP<|zb (dj (zk 1)<|zy<|.int 0)<|zb (zh 0) zF) [.no,.val (zO p m w wd T)] (j3 (m+1) wd λr=>qQ A J.length r)=cq (j3 (m+1) wd g):=by unfold j3;refine zC _ _ λr O=>zB rfl rfl ?_;have O:=IC.mp O;obtain⟨a,o,h3⟩:=d r ⋯;have e:=Wn hp (n:=wd r) (by have:=Z r;omega) a o λi j _ _=>h3 i j;simp[yZ,e]
  have S:zY (.nm 0) jw (zE j6<|zb (zh 0) zF) [.no] ((IA J.length).map λj=>qh wd<|A j)=cq (jc<|(IA J.length).map λj=>JY<|A j):=by unfold jc;rw[Ly];refine zC _ _ λj U=>zB rfl rfl ?_;have U:=IC.mp U;have e:=Xi (wd:=wd) (f j U).n1 (x j U);simp[e];exact⟨rfl,rfl⟩
  have ew:xw (zG (m+1) λk=>(wd k:Int))=(IA<|m+1).map λ(i:Nat)=>D.tup [.int i,.int (wd i:Nat)]:=az _ _;have y:m+1<=lim:=by omega
  have P:∀g:UW,(j3 (m+1) wd g).length=m+1:=λg=>by simp[j3]
  rw[cN];refine je<|zu (γ':=[.val (zO p m w wd T),.val L,.no,.no]) ?_ (zu (γ':=[.val (zO p m w wd T),.val L,.val<|.lst<|j3 (m+1) wd λr=>qQ A J.length r,.no]) ?_ (zu (γ':=[.val (zO p m w wd T),.val L,.val<|.lst<|j3 (m+1) wd λr=>qQ A J.length r,.val (.lst<|j3 (m+1) wd g)]) ?_ ?_))
  ·simp[Te,z7,IE,C,L]
  ·simp[Tf,jk,yZ,ew,y,R]
  ·simp[Th,jk,P,y,l]
  ·unfold xW
   rw[XR,XR];simp[Ti,jk,L,u,S]
theorem cM{b:Nat}(I:Pr p)(O:b<=16)(U:b*(m+1)<=48)(Y:∀k,wd k<=b)(J:m<=5)(z:∀k i j,k<m->i<ft w wd k->j<e9 w wd k->0<=T k i j/\T k i j<p):
 ∃(N:Nat) (A:Nat->fA) (g:UW),N<=48/\(∀j,j<N->p6 p w wd T m (A j))/\(∀r,r<=m->(l6 A N r).length=wd r)/\(∀r,r<=m->Ja p (wd r) (qQ A N r) (g r)/\Ja p (wd r) (g r) (qQ A N r)/\∀i j,0<=g r i j/\g r i j<p)/\
  ZT ((IA N).map λj=>JY<|A j)=((IA N).map λj=>JY<|A j)/\
  jQ [zO p m w wd T]=cq (.val<|xW ((IA N).map λj=>JY<|A j) (kR m wd g)<|kR m wd λr=>qQ A N r):=by
 obtain⟨N,A,g,d,f,h,l,⟨a,e⟩,n⟩:=cL (T:=T) (w:=w) I O U Y J z;refine⟨N,A,g,d,f,h,l,?_,n⟩;have:=(JA a).map JY;rw[Yo]at this;rw[e,Yo];exact JB this
theorem ic(I:Pr p)(O:∀k,wd k<=8)(z:m<=5)(U:∀k i j,k<m->i<ft w wd k->j<e9 w wd k->0<=T k i j/\T k i j<p):
 ∃(N:Nat) (A:Nat->fA) (g:UW),N<=48/\(∀j,j<N->p6 p w wd T m (A j))/\(∀r,r<=m->(l6 A N r).length=wd r)/\(∀r,r<=m->Ja p (wd r) (qQ A N r) (g r)/\Ja p (wd r) (g r) (qQ A N r)/\∀i j,0<=g r i j/\g r i j<p)/\
  ZT ((IA N).map λj=>JY<|A j)=((IA N).map λj=>JY<|A j)/\
  jQ [zO p m w wd T]=cq (.val<|xW ((IA N).map λj=>JY<|A j) (kR m wd g)<|kR m wd λr=>qQ A N r):=cM (b:=8) I ⋯ ⋯ O z U
end
section
variable{wd:UX}{m k N:Nat}{p:Int}{w:UK}{T:UW}{A:Nat->fA}{g:UW}
noncomputable def Zx(A:Nat->fA)(N:Nat):List (Int×Int):=(IA N).map λj=>JY<|A j
theorem tX{b:fA}(z:1<=b.n)(r:Nat):Ez (JY b) (r:Int)=b.has r:=by
 unfold Ez JY fA.has;dsimp only;congr 1
 ·exact decide_eq_decide.mpr ⋯
 ·exact decide_eq_decide.mpr ⋯
theorem yk(z:∀j,j<N->1<=(A j).n)(r:Nat):qD (Zx A N) (r:Int)=l6 A N r:=by unfold qD l6 Zx;simp only[Lc,Md];refine List.filter_congr λj I=>?_;have I:=IC.mp I;rw[IG,LO,OF I];exact tX (z j I) r
theorem fY(A N r):(l6 A N r).Nodup:=Pn.sublist List.filter_sublist
theorem bP{L:List Nat}(h:L.Nodup){a b:Nat}(z:a<L.length)(I:b<L.length)(e:L.getD a 0=L.getD b 0):a=b:=by rw[IG,IG,ID z,ID I]at e;exact(List.getElem_inj h).mp e
theorem mK(O:∀j,j<N->p6 p w wd T m (A j))(U:k<m){i b:Nat}(J:i<wd (z9 w k))(Y:b<(l6 A N<|zZ w k).length):
 zm (λa=>(if (l6 A N<|z9 w k).getD a 0=(l6 A N<|zZ w k).getD b 0 then (1:Int)else 0)*qQ A N (z9 w k) i a) (l6 A N<|z9 w k).length%p=app (T k) (wd<|zZ w k) (λc=>qQ A N (zZ w k) c b) i%p:=by
 obtain⟨h,s⟩:=V3 Y;have q:=(O _ h).arr k U s i J;show _=app (T k) (wd<|zZ w k) ((A<|(l6 A N<|zZ w k).getD b 0).v (zZ w k)) i%p;rw[q];congr 1;cases hx:(A<|(l6 A N<|zZ w k).getD b 0).has (z9 w k)with
 |true=>
  have n:(l6 A N<|zZ w k).getD b 0∈l6 A N (z9 w k):=Li.mpr ⟨IC.mpr h,by simpa using hx⟩;obtain⟨l,I,r⟩:=Rc n;have d:(l6 A N<|z9 w k).getD l 0=(l6 A N<|zZ w k).getD b 0:=by rw[<-r,IG,ID I];rfl
  rw[z6 (f:=λa=>(if (l6 A N<|z9 w k).getD a 0=(l6 A N<|zZ w k).getD b 0 then (1:Int)else 0)*qQ A N (z9 w k) i a) I λa e o=>by rw[UY λz=>o (bP (fY A N _) e I<|z.trans d.symm)];simp]
  rw[UJ d,UJ rfl];unfold qQ;rw[d];simp
 | false=>
  rw[UY ⋯];rw[zA (g:=λ_=>0) λa e=>by
   rw[UY λz=>by have:=(V3 e).2;rw[z,hx]at this;cases this]
   simp]
  exact zT _
theorem nJ(Z:Pr p)(U:∀j,j<N->p6 p w wd T m (A j))(cnt:∀r,r<=m->(l6 A N r).length=wd r)(z:∀r,r<=m->Ja p (wd r) (qQ A N r) (g r))(J:k<m){i j:Nat}(L:i<wd (z9 w k))(I:j<wd (zZ w k))(Y:0<=T k i j/\T k i j<p):
 T k i j=iS p w (pf<|Zx A N) (λr=>qQ A N r) g (r6 w<|Zx A N) k i j:=by
 have d:∀j,j<N->1<=(A j).n:=λj I=>(U j I).n1;have O:zZ w k<=m:=by unfold zZ;split<;>omega
 have e:z9 w k<=m:=by unfold z9;split<;>omega
 unfold iS;have o:pf (Zx A N) (zZ w k)=wd (zZ w k):=by unfold pf;rw[yk d,cnt _ O]
 have s:pf (Zx A N) (z9 w k)=wd (z9 w k):=by unfold pf;rw[yk d,cnt _ e]
 rw[o,s];have f:zm (λb=>g (zZ w k) b j*(zm (λa=>r6 w (Zx A N) k a b*qQ A N (z9 w k) i a) (wd<|z9 w k)%p)) (wd<|zZ w k)%p
  = zm (λb=>g (zZ w k) b j*app (T k) (wd<|zZ w k) (λc=>qQ A N (zZ w k) c b) i) (wd<|zZ w k)%p:=zQ λb t=>by
  have:=mK (T:=T) (k:=k) U J L (b:=b) (by rw[cnt _ O];exact t);rw[cnt _ e]at this;have h:zm (λa=>r6 w (Zx A N) k a b*qQ A N (z9 w k) i a) (wd<|z9 w k)=zm (λa=>(if (l6 A N<|z9 w k).getD a 0=(l6 A N<|zZ w k).getD b 0 then (1:Int)else 0)*qQ A N (z9 w k) i a) (wd<|z9 w k):=zA λa _=>by unfold r6;rw[yk d,yk d]
  rw[h,this,wI]
 have l:zm (λb=>g (zZ w k) b j*app (T k) (wd<|zZ w k) (λc=>qQ A N (zZ w k) c b) i) (wd<|zZ w k)=app (T k) (wd<|zZ w k) (λc=>zm (λb=>qQ A N (zZ w k) c b*g (zZ w k) b j)<|wd<|zZ w k) i:=by rw[<-vm];congr 1;funext c;exact xH ..
 rw[show(zm (λb=>g (zZ w k) b j*(zm (λa=>r6 w (Zx A N) k a b*(λr=>qQ A N r) (z9 w k) i a) (wd<|z9 w k)%p)) (wd<|zZ w k)%p)=_ from f,l,
  xy (u:=jX j) (λc x=>by rw[z _ O c j x I];unfold rn jX;simp only[eq_comm]) i,wV (T k) I]
 exact(LK Y.1 Y.2).symm
end
section
variable{p:Int}{n:Nat}
theorem pb{l:UX}:∀{r:Nat},(∀k m,k<m->m<r->l k<l m)->∃j,j<=r/\∀k,k<r->l k≠j
 |0,_=>⟨0,II _,λk I=>absurd I<|Lo _⟩
 | r+1,h=>by
  obtain⟨j,f,d⟩:=pb (r:=r) λk m a b=>h k m a ⋯;by_cases e:l r=j
  ·refine⟨r+1,II _,λk I=>?_⟩
   rcases Lg k r with z|z
   ·have:=h k r z ⋯;omega
   ·rw[show k=r by omega];omega
  ·refine⟨j,by omega,λk I=>?_⟩
   rcases Lg k r with z|z
   ·exact d k z
   ·rw[show k=r by omega];exact e
theorem Cf(J:Pr p){h N:Nat}{f:UV}(inj:∀t:Vc,(∀i,i<h->app f N t i%p=0)->∀j,j<N->t j%p=0):N<=h:=by
 rcases Lg h N with aa|a9
 ·exfalso
  obtain⟨r,A,B,l,b,x⟩:=Ys (n:=N) J h f;obtain⟨O,y,a5⟩:=pb b.mono;have o:O<N:=by omega
  let t:Vc:=λj=>if j=O then 1 else zm (λk=>if l k=j then B k O*(-1)else 0) r;have u:t O=1:=UJ rfl;have C:∀k,k<r->t (l k)=B k O*(-1):=λk U=>by
   show(if l k=O then _ else _)=_;rw[UY (a5 k U),z6 (f:=λI=>if l I=l k then B I O*(-1)else 0) U λI Y a=>by
    rw[UY λe=>a (by
     rcases Oh I k with z|z|z
     ·have:=b.mono I k z U;omega
     ·exact z
     ·have:=b.mono k I z Y;omega)]]
   rw[UJ rfl]
  have m:∀k,k<r->zm (λj=>B k j*t j) N=0:=λk U=>by
   have e:zm (λj=>B k j*t j) N=zm (λj=>(if j=O then B k O else 0)+zm (λI=>if l I=j then B k (l I)*(B I O*(-1))else 0) r) N:=zA λj s=>by
    by_cases z:j=O
    ·subst z
     rw[u,UJ rfl,zA (g:=λ_=>0) λI Y=>UY<|a5 I Y,zT];simp
    ·show B k j*(if j=O then _ else _)=_
     rw[UY z,UY z,Int.zero_add,Ms,<-kq];refine zA λI Y=>?_;by_cases e:l I=j
     ·rw[UJ e,UJ e,<-e,Ms]
     ·rw[UY e,UY e];simp
   rw[e,qv,z6 (f:=λj=>if j=O then B k O else 0) o<|λj _ a=>UY a,UJ rfl,qj];have d:zm (λI=>zm (λj=>if l I=j then B k (l I)*(B I O*(-1))else 0) N) r=zm (λI=>B k (l I)*(B I O*(-1))) r:=zA λI Y=>by rw[z6 (f:=λj=>if l I=j then B k (l I)*(B I O*(-1))else 0) (b.lt I Y) λj _ a=>UY<|LD a,UJ rfl]
   rw[d,z6 (f:=λI=>B k (l I)*(B I O*(-1))) U λI Y a=>by rw[b.wa k I U Y a];simp];rw[b.one k U];omega
  have:=inj t (λi w=>by
   have c:=ZY b<|(x<|f i).mpr (.gen ⟨i,w,rfl⟩);unfold app;have e:zm (λj=>f i j*t j) N%p=zm (λj=>zm (λk=>f i (l k)*B k j) r*t j) N%p:=zQ λj s=>by rw[IQ,c j s,<-IQ]
   rw[e];have d:zm (λj=>zm (λk=>f i (l k)*B k j) r*t j) N=zm (λk=>f i (l k)*zm (λj=>B k j*t j) N) r:=by rw[zA (g:=λj=>zm (λk=>f i (l k)*B k j*t j) r) λj _=>(kq _ _ _).symm,qj];refine zA λk _=>?_;rw[<-jB];exact zA λj _=>Nn _ _ _
   rw[d,zA (g:=λ_=>0) λk U=>by rw[m k U,NJ],zT];simp) O o
  rw[u,J.one]at this;cases this
 ·exact a9
theorem WG(W:Nat->Vc)(t:Vc):Span p n (ef m W) λi=>zm (λj=>t j*W j i) m:=Span.sum (u:=W) t λj I=>.gen ⟨j,I,rfl⟩
theorem Cu(I:Pr p)(O:g9 p n s B l)(sp:∀v,Span p n (ef s B) v↔Span p n (ef m W) v)(ind:∀t:Vc,(∀i,i<n->zm (λj=>t j*W j i) m%p=0)->∀j,j<m->t j%p=0):m=s:=by
 have d:s<=m:=by obtain⟨r,g,a⟩:=Ys (n:=n) I m W;have:=vV I (m:=m) (W:=W) ⟨B,l,O,sp⟩ a;omega
 have h:s<=n:=ed O;have e:m<=s:=Cf I (f:=λi j=>W j<|l i) λt U=>ind t λi b=>by
  have c:=ZY O ((sp _).mpr (WG (n:=n) W t)) i b;rw[c];have:zm (λk=>zm (λj=>t j*W j (l k)) m*B k i) s%p=zm (λ_=>0) s%p:=zQ λk Y=>by have:=U k Y;unfold app at this;rw[xH]at this;rw[IQ,this];simp
  rw[this,zT];simp
 omega
end
noncomputable def stN(M:Nat):List (Nat×Nat):=(IA M).flatMap λi=>(O1 i<|M-i).map λj=>(i,j)
noncomputable def kI(s:Nat×Nat):List Int:=[(s.1:Int),(s.2:Int)]
noncomputable def kD(s:Nat×Nat):D:=.tup [.int s.1,.int s.2]
theorem UL:s∈stN M↔s.1<=s.2/\s.2<M:=by
 unfold stN;simp only[List.mem_flatMap,IC,Lv,List.mem_range'_1];constructor
 ·rintro⟨i,a,j,I,rfl⟩
  exact⟨I.1,by show j<M;omega⟩
 ·intro h
  exact⟨s.1,by omega,s.2,⟨h.1,by omega⟩,rfl⟩
theorem iX:∀M:Fin 7,(stN M.val).Nodup/\((stN M.val).map kI).Nodup/\(stN M.val).length<=21:=by decide +kernel
theorem Ff:∀M:Fin 7,qk [.int (M.val:Int)]=cq (.own<|(stN M.val).map kD)
 |⟨0,_⟩=>by kernel_rfl
 |⟨1,_⟩=>by kernel_rfl
 |⟨2,_⟩=>by kernel_rfl
 |⟨3,_⟩=>by kernel_rfl
 |⟨4,_⟩=>by kernel_rfl
 |⟨5,_⟩=>by kernel_rfl
 |⟨6,_⟩=>by kernel_rfl
noncomputable def kQ:List Int->Int
 |[]=>0
 |x::r=>x+kQ r
theorem Jx:∀L:List Int,ba (L.map D.int)=cq (kQ L)
 |[]=>rfl
 |x::L=>by show(ba<|L.map D.int).map _=_;rw[Jx L];rfl
theorem AZ{c:Int}(h:0<=c):∃q:Nat,Pr (q:Int)/\([D.int 2,.int 3,.int 5,.int 7])[(c%4).toNat]? = cq (.int q)/\hH 4 (c%4)=cq (c%4).toNat:=by
 have a:=LU c (show(4:Int)≠0 by decide);have b:=LB c (show(0:Int)<4 by decide);obtain⟨r,I⟩:=Np a;rw[I];have O:r<4:=by omega
 rw[qP,UJ O,Mm];rcases (by omega:r=0\/r=1\/r=2\/r=3)with e|e|e|e<;>subst e
 ·exact⟨2,.inl rfl,rfl,rfl⟩
 ·exact⟨3,.inr<|.inl rfl,rfl,rfl⟩
 ·exact⟨5,.inr<|.inr<|.inl rfl,rfl,rfl⟩
 ·exact⟨7,.inr<|.inr<|.inr rfl,rfl,rfl⟩
noncomputable def bS(bs:List (Int×Int))(j:Nat):Nat:=(bs.getD j (0,0)).1.toNat
theorem YJ:∀bs:List (Int×Int),m3 (jc bs)=da
 |[]=>rfl
 |b::bs=>by have I:=YJ bs;unfold jc at I ⊢;rw[Lk];show(ir _&&m3 _)=da;rw[I];rfl
theorem CF:xf=jq 14 (zS Sj<|zS Sl<|zS O5<|zS (kB 7<|jH zF)<|zS (ZV (jK<|vJ<|zh 3) (.nm 8) Sm)<|qt<|xF<|zb (zh 2)<|zb (jb<|zk 6)<|zb (jb<|zk 7) zF):=rfl
section
variable{ns:List Int}{t p od:Int}{m:Nat}{w:UK}{wd:UX}
noncomputable def il(ns:List Int)(t p od:Int)(m:Nat)(w:UK)(wd:UX)(I O U Y z J L Z:Cell):Ctx:=
 [.val (KB ns),.val<|.int t,.val<|.int p,.val<|.str<|jN m w,.val<|.int od,I,.val<|.lst<|zG (m+1) λk=>(wd k:Int),O,U,Y,z,J,L,Z]
noncomputable def f9(ns:List Int)(t p:Int)(k i j:Nat):Int:=vj ns (t+4+7*(i:Int)+(k:Int)+(j:Int))/11%p
theorem CG(hn:ns.length<=63)(ht:0<=t)(ak:t<200)(hp:0<p)(J:∀k,wd k<=6){k b s:Nat}(hb:b<=m)(hm:m<=4)(hk:k<m)(hs:s<7)(U I O z:Cell):
 ∃L Z,Td (il ns t p od m w wd U I (.val<|.int (k:Int)) (.val<|.int (b:Int)) O (.own<|zX s (wd b)<|f9 ns t p k) (.val<|.int (s:Int)) z)=cq (.next<|il ns t p od m w wd L I (.val<|.int (k:Int)) (.val<|.int (b:Int)) O (.own<|zX (s+1) (wd b)<|f9 ns t p k) (.val<|.int (s:Int)) Z):=by
 have A:=jj;have y:=J b;refine⟨.val<|.lst<|zG (wd b) λj=>vj ns<|t+4+7*(s:Int)+(k:Int)+(j:Int),.val<|.int<|t+4+7*(s:Int)+(k:Int),?_⟩;have a:XF 7 (s:Int)=da:=ZO _ _ ⋯ ⋯;have u:(jr 13<|zI qu (zI qu (zI qu (zh 1)<|zy<|.int 4)<|zI yw (zy<|.int 7)<|zh 12)<|zh 8) (il ns t p od m w wd U I (.val<|.int (k:Int)) (.val<|.int (b:Int)) O (.own<|zX s (wd b)<|f9 ns t p k) (.val<|.int (s:Int)) z)=cq (.next<|il ns t p od m w wd U I (.val<|.int (k:Int)) (.val<|.int (b:Int)) O (.own<|zX s (wd b)<|f9 ns t p k) (.val<|.int (s:Int))<|.val<|.int<|t+4+7*(s:Int)+(k:Int)):=by simp[il,a]
 have f:zY (.nm 0) jw (zE jv<|zb (zh 1)<|zb (zI qu (zh 2)<|zh 0) zF) [.no,.val<|KB ns,.val (.int<|t+4+7*(s:Int)+(k:Int))] (zG (wd b) λi=>(i:Int))=cq (zG (wd b) λj=>vj ns<|t+4+7*(s:Int)+(k:Int)+(j:Int)):=by unfold zG;refine zC _ _ λj Y=>zB rfl rfl ?_;have Y:=IC.mp Y;have e:=(KJ hn (k:=t+4+7*(s:Int)+(k:Int)+(j:Int)) ⋯ ⋯).1;simp[e]
 have g:zY (.nm 0) jw (zI yT (zI Xc (zh 0)<|zy<|.int 11)<|zh 1) [.no,.val (.int p)] (zG (wd b) λj=>vj ns<|t+4+7*(s:Int)+(k:Int)+(j:Int))=cq (zG (wd b)<|f9 ns t p k s):=by unfold zG;refine zC _ _ λj Y=>zB rfl rfl ?_;simp[hp,f9]
 have dl:(zG (m+1) λk=>(wd k:Int)).length=m+1:=by simp[zG]
 have d:(zG (m+1) λk=>(wd k:Int))[b]? = cq (.int (wd b:Nat)):=by unfold zG;simp[show b<m+1 by omega]
 have bl:b<m+1:=by omega
 have n:inR ((wd b:Nat):Int)=da:=J3 ⋯ ⋯;have wl:wd b<=lim:=by omega
 have x:(jr 5<|jG<|zU (jK<|dj (zk 6)<|zh 9) (.nm 0) 1 [0,13] jw (zE jv<|zb (zh 1)<|zb (zI qu (zh 2)<|zh 0) zF)) (il ns t p od m w wd U I (.val<|.int (k:Int)) (.val<|.int (b:Int)) O (.own<|zX s (wd b)<|f9 ns t p k) (.val<|.int (s:Int))<|.val<|.int<|t+4+7*(s:Int)+(k:Int))=cq (.next<|il ns t p od m w wd (.val<|.lst<|zG (wd b) λj=>vj ns<|t+4+7*(s:Int)+(k:Int)+(j:Int)) I (.val<|.int (k:Int)) (.val<|.int (b:Int)) O (.own<|zX s (wd b)<|f9 ns t p k) (.val<|.int (s:Int))<|.val<|.int<|t+4+7*(s:Int)+(k:Int)):=by rw[xY,ZQ,qm,wW];simp only[il,wX,ql,qY,IJ,n7,ja,jf,IF,jA,qE,dl,qP,bl,if_true,d,n,Mm,qL,kZ,wl];rw[show jk 1 [0,13] [Cell.val (KB ns),.val<|.int t,.val<|.int p,.val<|.str<|jN m w,.val<|.int od,U,.val<|.lst<|zG (m+1) λk=>(wd k:Int),I,.val<|.int (k:Int),.val<|.int (b:Int),O,.own<|zX s (wd b)<|f9 ns t p k,.val<|.int (s:Int),.val (.int<|t+4+7*(s:Int)+(k:Int))]=[.no,.val<|KB ns,.val (.int<|t+4+7*(s:Int)+(k:Int))]from rfl,f];rfl
 refine zu u<|zu x ?_;have o:(zX s (wd b)<|f9 ns t p k).length=s:=by simp[zX]
 have r:s<lim:=by omega
 have l:jb (jz<|zU (zR<|zk 5) (.nm 0) 1 [2] jw (zI yT (zI Xc (zh 0)<|zy<|.int 11)<|zh 1)) (il ns t p od m w wd (.val<|.lst<|zG (wd b) λj=>vj ns<|t+4+7*(s:Int)+(k:Int)+(j:Int)) I (.val<|.int (k:Int)) (.val<|.int (b:Int)) O (.own<|zX s (wd b)<|f9 ns t p k) (.val<|.int (s:Int))<|.val<|.int<|t+4+7*(s:Int)+(k:Int))=cq (.tup<|zG (wd b)<|f9 ns t p k s):=by
  have h:zU (zR<|zk 5) (.nm 0) 1 [2] jw (zI yT (zI Xc (zh 0)<|zy<|.int 11)<|zh 1) (il ns t p od m w wd (.val<|.lst<|zG (wd b) λj=>vj ns<|t+4+7*(s:Int)+(k:Int)+(j:Int)) I (.val<|.int (k:Int)) (.val<|.int (b:Int)) O (.own<|zX s (wd b)<|f9 ns t p k) (.val<|.int (s:Int))<|.val<|.int<|t+4+7*(s:Int)+(k:Int))=cq (zG (wd b)<|f9 ns t p k s):=by rw[qm,km];simp only[il,ql,IJ,n7,jf,jA,IU,IF,kZ,wl,if_true];exact g
  unfold jb jz;rw[h];rfl
 rw[QG,l];rw[show zX (s+1) (wd b) (f9 ns t p k)=zX s (wd b) (f9 ns t p k)++[.tup (zG (wd b)<|f9 ns t p k s)]from X6 _ _];simp[il,o,r]
theorem CH(hn:ns.length<=63)(ht:0<=t)(ae:t<200)(hp:0<p)(Z:∀k,wd k<=6)(hm:m<=4){k:Nat}(J:k<m)(U c9 a8 L Y z:Cell):
 ∃a9 am an ap as aa,Sm (il ns t p od m w wd U (.own<|jY k w wd<|f9 ns t p) (.val<|.int (k:Int)) c9 a8 L Y z)=cq (.next<|il ns t p od m w wd a9 (.own<|jY (k+1) w wd<|f9 ns t p) (.val<|.int (k:Int)) am an ap as aa):=by
 have G:=jj;have n:=Wm (w:=w) (show m<=5 by omega) J;have d:=KA (w:=w) J;have h:=KM (w:=w) J;have y:Gn (il ns t p od m w wd U (.own<|jY k w wd<|f9 ns t p) (.val<|.int (k:Int)) c9 a8 L Y z)=cq (.next<|il ns t p od m w wd U (.own<|jY k w wd<|f9 ns t p) (.val<|.int (k:Int)) (.val<|.int ((zZ w k:Nat):Int)) (.val<|.int ((z9 w k:Nat):Int)) L Y z):=by simp[Gn,il,n]
 have A:(kB 11<|jH zF) (il ns t p od m w wd U (.own<|jY k w wd<|f9 ns t p) (.val<|.int (k:Int)) (.val<|.int ((zZ w k:Nat):Int)) (.val<|.int ((z9 w k:Nat):Int)) L Y z)=cq (.next<|il ns t p od m w wd U (.own<|jY k w wd<|f9 ns t p) (.val<|.int (k:Int)) (.val<|.int ((zZ w k:Nat):Int)) (.val<|.int ((z9 w k:Nat):Int)) (.own<|zX 0 (wd<|zZ w k)<|f9 ns t p k) Y z):=rfl;have dl:(zG (m+1) λk=>(wd k:Int)).length=m+1:=by simp[zG]
 have g:(zG (m+1) λk=>(wd k:Int))[z9 w k]? = cq (.int (wd (z9 w k):Nat)):=by unfold zG;simp[d]
 have j:(zG (m+1) λk=>(wd k:Int))[zZ w k]? = cq (.int (wd (zZ w k):Nat)):=by unfold zG;simp[h]
 have E:=Z<|z9 w k;obtain⟨C,B,⟨I,a,O,rfl⟩⟩:=Zw (T:=.nm 12) (F:=Td) (f:=dj (zk 6)<|zh 10) (γ:=il ns t p od m w wd U (.own<|jY k w wd<|f9 ns t p) (.val<|.int (k:Int)) (.val<|.int ((zZ w k:Nat):Int)) (.val<|.int ((z9 w k:Nat):Int)) (.own<|zX 0 (wd<|zZ w k)<|f9 ns t p k) Y z)
  (λs γ=>∃I a O,γ=il ns t p od m w wd I (.own<|jY k w wd<|f9 ns t p) (.val<|.int (k:Int)) (.val<|.int ((zZ w k:Nat):Int)) (.val<|.int ((z9 w k:Nat):Int)) (.own<|zX s (wd<|zZ w k)<|f9 ns t p k) a O) (wd<|z9 w k) ⋯ (by
    simp only[il,wX,ql,qY,IJ,n7,ja,jf,IF,jA,qE,dl,qP,d,if_true,g]) ⟨_,_,_,rfl⟩ (by
    rintro s H γ ⟨I,a,O,rfl⟩;obtain⟨a9,aa,e⟩:=CG (od:=od) (w:=w) hn ht ae hp Z (k:=k) (b:=zZ w k) (s:=s) (m:=m) ⋯ hm J ⋯ I (.own<|jY k w wd<|f9 ns t p) (.val<|.int ((z9 w k:Nat):Int)) O;exact⟨_,_,rfl,e,_,_,_,rfl⟩)
 refine⟨I,.val<|.int ((zZ w k:Nat):Int),.val<|.int ((z9 w k:Nat):Int),.own<|zX (wd<|z9 w k) (wd<|zZ w k)<|f9 ns t p k,a,O,zu y<|zu A<|zu B ?_⟩;have x:qS (zh 3) (zh 8) (il ns t p od m w wd I (.own<|jY k w wd<|f9 ns t p) (.val<|.int (k:Int)) (.val<|.int ((zZ w k:Nat):Int)) (.val<|.int ((z9 w k:Nat):Int)) (.own<|zX (wd<|z9 w k) (wd<|zZ w k)<|f9 ns t p k) a O)=cq (.str<|xR<|g5<|w k):=wm w ⋯ J _ _ _ rfl rfl;have i:(jY k w wd<|f9 ns t p).length=k:=by simp[jY]
 have r:k<lim:=by omega
 have u:(zX (wd<|z9 w k) (wd<|zZ w k)<|f9 ns t p k).length=wd (z9 w k):=by simp[zX]
 have l:wd (z9 w k)<=lim:=by omega
 have o:xF (zb (qS (zh 3)<|zh 8)<|zb (xF<|zb (dj (zk 6)<|zh 10)<|zb (dj (zk 6)<|zh 9)<|zb (jb<|zk 11) zF) zF) (il ns t p od m w wd I (.own<|jY k w wd<|f9 ns t p) (.val<|.int (k:Int)) (.val<|.int ((zZ w k:Nat):Int)) (.val<|.int ((z9 w k:Nat):Int)) (.own<|zX (wd<|z9 w k) (wd<|zZ w k)<|f9 ns t p k) a O)=cq (vk w wd (f9 ns t p) k):=by rw[Vq,jM,x];unfold vk;rw[<-xv,<-qO];simp[il,jA,dl,qP,d,h,g,j,u,l,j8]
 show Gm _=_;unfold Gm;rw[QG,o];rw[show jY (k+1) w wd (f9 ns t p)=jY k w wd (f9 ns t p)++[vk w wd (f9 ns t p) k]from X6 _ _];simp[il,i,r]
end
section
variable{ns:List Int}{t p od:Int}{m:Nat}{w:UK}
noncomputable def D3:List Nat:=[0,1,2,3,6,1,2,5]
theorem ie(I:0<p)(k i j:Nat):0<=f9 ns t p k i j/\f9 ns t p k i j<p:=⟨LU _ ⋯,LB _ I⟩
theorem uI(J:ns.length<=63)(Z:0<=t)(ab:t<200)(L:0<p)(hm:m<=3)(o0:0<=od)(o3:od<=3):
 ∃wd:UX,(∀k,wd k<=6)/\xf [KB ns,.int t,.int p,.str<|jN m w,.int od]=cq (.val<|zO p m w wd<|f9 ns t p):=by
 have hl:=jj;have y:m+1<=lim:=by omega
 obtain⟨I,a8,G⟩:∃I:UX,(∀k,I k<8)/\∀k:Nat,vj ns (t+(k:Int))/7%8=((I k:Nat):Int):=by
  refine⟨λk=>(vj ns (t+(k:Int))/7%8).toNat,λk=>?_,λk=>?_⟩
  ·show(vj ns (t+(k:Int))/7%8).toNat<8;omega
  ·rw[OH ⋯]
 have wl:=Jc m w;have O:=yc w (show m<=1000 by omega);have M:zY (.nm 0) jw (zI yT (zI Xc (zE jv<|zb (zh 1)<|zb (zI qu (zh 2)<|zh 0) zF)<|zy<|.int 7)<|zy<|.int 8) [Cell.no,Cell.val<|KB ns,Cell.val (.int t)] (zG (m+1) λi=>(i:Int))=cq (zG (m+1) λk=>(I k:Int)):=by unfold zG;refine zC _ _ λk B=>zB rfl rfl ?_;have B:=IC.mp B;have e:=(KJ J (k:=t+(k:Int)) ⋯ ⋯).1;simp[e,G]
 have R:Sj (z7 14 [KB ns,.int t,.int p,.str<|jN m w,.int od])=cq (.next [.val (KB ns),.val<|.int t,.val<|.int p,.val<|.str<|jN m w,.val<|.int od,.val<|.lst<|zG (m+1) λk=>(I k:Int),.no,.no,.no,.no,.no,.no,.no,.no]):=by
  have r:inR ((m:Int)+1)=da:=J3 ⋯ ⋯;have e:((m:Int)+1).toNat=m+1:=by omega
  simp[Sj,z7,IE,wl,O,r,e,qL,jk,kf,y,M]
 have t8:∀c:Nat,c<8->Gp [Cell.val (.int (c:Int))]=cq (.int ((D3.getD c 0:Nat):Int)):=λc hc=>by rcases (by omega:c=0\/c=1\/c=2\/c=3\/c=4\/c=5\/c=6\/c=7)with rfl|rfl|rfl|rfl|rfl|rfl|rfl|rfl<;>rfl
 have N:zY (.nm 0) jw Gp [Cell.no] (zG (m+1) λk=>(I k:Int))=cq (zG (m+1) λk=>((D3.getD (I k) 0:Nat):Int)):=by unfold zG;exact zC _ _ λk B=>zB rfl rfl<|t8 _<|a8 k
 have S:Sl [.val (KB ns),.val<|.int t,.val<|.int p,.val<|.str<|jN m w,.val<|.int od,.val<|.lst<|zG (m+1) λk=>(I k:Int),.no,.no,.no,.no,.no,.no,.no,.no]=cq (.next<|il ns t p od m w (λk=>D3.getD (I k) 0) (.val<|.lst<|zG (m+1) λk=>(I k:Int)) .no .no .no .no .no .no .no):=by unfold Sl;rw[xY,ZQ,qm,km];simp only[ql,IJ,n7,jf,jA,IU,IF,kZ,y,if_true];rw[show jk 1 [] [Cell.val (KB ns),.val<|.int t,.val<|.int p,.val<|.str<|jN m w,.val<|.int od,.val<|.lst<|zG (m+1) λk=>(I k:Int),.no,.no,.no,.no,.no,.no,.no,.no]=[.no]from rfl,N];rfl
 have Q:∀k,D3.getD (I k) 0<=6:=λk=>by have h:=a8 k;rcases (by omega:I k=0\/I k=1\/I k=2\/I k=3\/I k=4\/I k=5\/I k=6\/I k=7)with e|e|e|e|e|e|e|e<;>rw[e]<;>decide
 obtain⟨wd,E,W⟩:∃wd:UX,(∀k,wd k<=6)/\O5 (il ns t p od m w (λk=>D3.getD (I k) 0) (.val<|.lst<|zG (m+1) λk=>(I k:Int)) .no .no .no .no .no .no .no)=cq (.next<|il ns t p od m w wd (.val<|.lst<|zG (m+1) λk=>(I k:Int)) .no .no .no .no .no .no .no):=by
  by_cases h:m=1/\0<od
  ·obtain⟨x,A⟩:=h
   subst x;have C:X5 (sB<|zI gw (vJ<|zh 3)<|zy<|.int 1) (sB<|zI p7 (zh 4)<|zy<|.int 0) (il ns t p od 1 w (λk=>D3.getD (I k) 0) (.val<|.lst<|zG (1+1) λk=>(I k:Int)) .no .no .no .no .no .no .no)=cq da:=by simp[il,wl,O,A]
   refine⟨λk=>if od=1 then (if k=0 then 5 else 6)else (if k=0 then 6 else 5),λk=>by dsimp only;split<;>split<;>omega,?_⟩;unfold O5;rw[vL,C];rcases (by omega:od=1\/od=2\/od=3)with rfl|rfl|rfl<;>rfl
  ·have C:X5 (sB<|zI gw (vJ<|zh 3)<|zy<|.int 1) (sB<|zI p7 (zh 4)<|zy<|.int 0) (il ns t p od m w (λk=>D3.getD (I k) 0) (.val<|.lst<|zG (m+1) λk=>(I k:Int)) .no .no .no .no .no .no .no)=cq di:=by
    by_cases x:m=1
    ·have A:¬(0<od):=λz=>h ⟨x,z⟩
     subst x;simp[il,wl,O,A]
    ·have:¬((m:Int)=1):=by omega
     simp[il,wl,O,this]
   refine⟨λk=>D3.getD (I k) 0,Q,?_⟩;unfold O5;rw[vL,C];rfl
 refine⟨wd,E,?_⟩;have X:(kB 7<|jH zF) (il ns t p od m w wd (.val<|.lst<|zG (m+1) λk=>(I k:Int)) .no .no .no .no .no .no .no)=cq (.next<|il ns t p od m w wd (.val<|.lst<|zG (m+1) λk=>(I k:Int)) (.own<|jY 0 w wd<|f9 ns t p) .no .no .no .no .no .no):=rfl;obtain⟨γ',x5,⟨U,u,Y,j,l,n,o,rfl⟩⟩:=Zw (T:=.nm 8) (F:=Sm) (f:=vJ<|zh 3) (γ:=il ns t p od m w wd (.val<|.lst<|zG (m+1) λk=>(I k:Int)) (.own<|jY 0 w wd<|f9 ns t p) .no .no .no .no .no .no)
  (λs γ=>∃U u Y j l n o,γ=il ns t p od m w wd U (.own<|jY s w wd<|f9 ns t p) u Y j l n o) m ⋯ (by simp[il,wl,O]) ⟨_,_,_,_,_,_,_,rfl⟩ (by
    rintro s K γ ⟨U,u,Y,j,l,n,o,rfl⟩;obtain⟨a,b,c,d,e,f,g⟩:=CH (od:=od) (w:=w) J Z ab L E (show m<=4 by omega) K U Y j l n o;exact⟨_,_,rfl,g,_,_,_,_,_,_,_,rfl⟩)
 have H:(jY m w wd<|f9 ns t p).length=m:=by simp[jY]
 have P:m<=lim:=by omega
 have x6:(qt<|xF<|zb (zh 2)<|zb (jb<|zk 6)<|zb (jb<|zk 7) zF) (il ns t p od m w wd U (.own<|jY m w wd<|f9 ns t p) u Y j l n o)=cq (.ret<|.val<|zO p m w wd<|f9 ns t p):=by simp[il,H,P,jA,kZ,y,zO]
 rw[CF];exact je<|zu R<|zu S<|zu W<|zu X<|zu x5 x6
end
section
variable{ns:List Int}{p c:Int}{m:Nat}{w:UK}
noncomputable def De(a b:Bool):Nat->Bool:=λk=>if k=0 then a else b
noncomputable def F_(a b d:Bool):Nat->Bool:=λk=>if k=0 then a else if k=1 then b else d
theorem Bs:xB=jq 6 (zS M7<|zS P7<|zS P8<|qt<|xF<|zb (zh 1)<|zb (zh 2) zF):=rfl
noncomputable def ml(ns:List Int)(p:Int)(x:Str)(c:Int)(I O:Cell):Ctx:=[.val (KB ns),.val<|.int p,.val<|.str x,.val<|.int c,I,O]
theorem Bv(I:p=2\/p=3\/p=5\/p=7)(x:Str):∃q,(q=2\/q=3\/q=5\/q=7)/\M7 (ml ns p x c .no .no)=cq (.next<|ml ns q x c .no .no):=by
 by_cases h:c%6=1
 ·have t:sB (zI gw (zI yT (zh 3)<|zy<|.int 6)<|zy<|.int 1) (ml ns p x c .no .no)=cq da:=by simp[ml,h]
  refine⟨if p=2 then 3 else if p=3 then 5 else if p=5 then 7 else 2,?_,?_⟩
  ·rcases I with rfl|rfl|rfl|rfl<;>decide
  ·unfold M7;rw[vL,t]
   rcases I with rfl|rfl|rfl|rfl<;>kernel_rfl
 ·have t:sB (zI gw (zI yT (zh 3)<|zy<|.int 6)<|zy<|.int 1) (ml ns p x c .no .no)=cq di:=by simp[ml,h]
  exact⟨p,I,by unfold M7;rw[vL,t];rfl⟩
theorem Bu(J:m<=2):∃w' U I,P7 (ml ns p (jN m w) c .no .no)=cq (.next<|ml ns p (jN m w') c U I):=by
 have wl:=Jc m w;have O:=yc w (show m<=1000 by omega);by_cases h:c%6=2/\0<m
 ·obtain⟨h,g⟩:=h
  have t:X5 (sB<|zI gw (zI yT (zh 3)<|zy<|.int 6)<|zy<|.int 2) (sB<|zI p7 (vJ<|zh 2)<|zy<|.int 0) (ml ns p (jN m w) c .no .no)=cq da:=by simp[ml,h,wl,O,g]
  obtain⟨a,Y,f⟩:∃a:Nat,c/6%(m:Int)=a/\a<m:=by obtain⟨a,f⟩:=Np (LU (c/6)<|show(m:Int)≠0 by omega);have:=LB (c/6) (show(0:Int)<m by omega);exact⟨a,f,by omega⟩
  have j:(jr 4<|zI yT (zI Xc (zh 3)<|zy<|.int 6)<|vJ<|zh 2) (ml ns p (jN m w) c .no .no)=cq (.next<|ml ns p (jN m w) c (.val<|.int (a:Int)) .no):=by
   have z:¬m=0:=by omega
   simp[ml,wl,O,z,Y]
  suffices z:∃w' I,GZ (ml ns p (jN m w) c (.val<|.int (a:Int)) .no)=cq (.next<|ml ns p (jN m w') c (.val<|.int (a:Int)) I)by
   obtain⟨w',I,z⟩:=z;exact⟨w',_,I,by unfold P7;rw[vL,t];exact zu j z⟩
  rcases (by omega:(m=1/\a=0)\/(m=2/\a=0)\/(m=2/\a=1))with⟨rfl,rfl⟩|⟨rfl,rfl⟩|⟨rfl,rfl⟩
  ·refine⟨De (!w 0) di,.val<|.str<|xR<|g5<|!w 0,?_⟩
   rw[show jN 1 w=jN 1 (De (w 0) di)from rfl];generalize w 0=b;cases b<;>kernel_rfl
  ·refine⟨De (!w 0)<|w 1,.val<|.str<|xR<|g5<|!w 0,?_⟩
   rw[show jN 2 w=jN 2 (De (w 0)<|w 1)from rfl];generalize w 0=b;generalize w 1=d;cases b<;>cases d<;>kernel_rfl
  ·refine⟨De (w 0)<|!w 1,.val<|.str<|xR<|g5<|!w 1,?_⟩
   rw[show jN 2 w=jN 2 (De (w 0)<|w 1)from rfl];generalize w 0=b;generalize w 1=d;cases b<;>cases d<;>kernel_rfl
 ·refine⟨w,.no,.no,?_⟩
  have t:X5 (sB<|zI gw (zI yT (zh 3)<|zy<|.int 6)<|zy<|.int 2) (sB<|zI p7 (vJ<|zh 2)<|zy<|.int 0) (ml ns p (jN m w) c .no .no)=cq di:=by
   by_cases e:c%6=2
   ·have i:m=0:=by
     rcases Rz m with z|z
     ·exact z
     ·exact absurd ⟨e,z⟩ h
    subst i;simp[ml,e,wl,O]
   ·simp[ml,e]
  unfold P7;rw[vL,t];rfl
theorem Bt(L:m<=2)(I O:Cell):∃J w',J<=3/\P8 (ml ns p (jN m w) c I O)=cq (.next<|ml ns p (jN J w') c I O):=by
 by_cases h:c%6=3
 ·have t:sB (zI gw (zI yT (zh 3)<|zy<|.int 6)<|zy<|.int 3) (ml ns p (jN m w) c I O)=cq da:=by simp[ml,h]
  have e:∃b:Bool,sS (ml ns p (jN m w) c I O)=cq (.int<|if b then 1 else 0):=by
   refine⟨decide<|c/6%2=1,?_⟩;have:sS (ml ns p (jN m w) c I O)=cq (.int<|c/6%2):=by simp[sS,ml]
   rw[this];by_cases z:c/6%2=1
   ·rw[z];rfl
   ·have z:c/6%2=0:=by omega
    rw[z];rfl
  obtain⟨b,e⟩:=e;have x:qS (zy (.str "rl")) sS (ml ns p (jN m w) c I O)=cq (.str (xR (g5 b))):=by rw[vF,e];cases b<;>kernel_rfl
  suffices z:∃J w',J<=3/\X4 (zh 2) (qS (zy (.str "rl")) sS) (ml ns p (jN m w) c I O)=cq (.str (jN J w'))by
   obtain⟨J,w',U,z⟩:=z;exact⟨J,w',U,by unfold P8;rw[vL,t];simp only[if_true,IF];rw[xY,z];rfl⟩
  have z:X4 (zh 2) (qS (zy (.str "rl")) sS) (ml ns p (jN m w) c I O)=X4 (zy (.str (jN m w))) (zy (.str (xR (g5 b)))) []:=by unfold X4;rw[x];rfl
  rw[z];rcases (by omega:m=0\/m=1\/m=2)with rfl|rfl|rfl
  ·exact⟨1,De b di,by omega,by cases b<;>kernel_rfl⟩
  ·refine⟨2,De (w 0) b,by omega,?_⟩
   rw[show jN 1 w=jN 1 (De (w 0) di)from rfl];generalize w 0=d;cases b<;>cases d<;>kernel_rfl
  ·refine⟨3,F_ (w 0) (w 1) b,by omega,?_⟩
   rw[show jN 2 w=jN 2 (De (w 0)<|w 1)from rfl];generalize w 0=d;generalize w 1=f;cases b<;>cases d<;>cases f<;>kernel_rfl
 ·have t:sB (zI gw (zI yT (zh 3)<|zy<|.int 6)<|zy<|.int 3) (ml ns p (jN m w) c I O)=cq di:=by simp[ml,h]
  exact⟨m,w,by omega,by unfold P8;rw[vL,t];rfl⟩
theorem ma(I:p=2\/p=3\/p=5\/p=7)(J:m<=2):∃q z w',(q=2\/q=3\/q=5\/q=7)/\z<=3/\xB [KB ns,.int p,.str<|jN m w,.int c]=cq (.val<|.tup [.int q,.str (jN z w')]):=by
 have h:=jj;obtain⟨q,O,e⟩:=Bv (ns:=ns) (c:=c) I<|jN m w;obtain⟨U,Y,a,f⟩:=Bu (ns:=ns) (p:=q) (c:=c) (w:=w) J;obtain⟨z,w',b,g⟩:=Bt (ns:=ns) (p:=q) (c:=c) (w:=U) J Y a;refine⟨q,z,w',O,b,?_⟩;rw[Bs];have d:2<=lim:=by omega
 exact je (zu (show M7 (ml ns p (jN m w) c .no .no)=_ from e)<|zu f<|zu g<|by simp[ml,d])
end
noncomputable def mM(p:Int)(n:Nat)(f g:UV):Nat->Nat->Int:=λi j=>zm (λk=>f i k*g k j) n%p
section
variable{p:Int}{n:Nat}{f f' g g':UV}{i j:Nat}
theorem xu(p:Int)(n w:Nat)(a b c:UV)(i j:Nat):mM p n a (mM p w b c) i j=mM p w (mM p n a b) c i j:=dz p a b c n w i j
theorem qd(z:∀k,k<n->f i k=f' i k)(O:∀k,k<n->g k j=g' k j):mM p n f g i j=mM p n f' g' i j:=by unfold mM;rw[zA λk I=>by rw[z k I,O k I]]
theorem mC(I:0<p)(n:Nat)(f g:UV)(i j:Nat):0<=mM p n f g i j/\mM p n f g i j<p:=⟨LU _ ⋯,LB _ I⟩
theorem fM(I:j<n)(f:UV)(i:Nat):mM p n f rn i j=f i j%p:=by unfold mM;rw[z6 (i:=j) I λk _ O=>by unfold rn;rw[UY O];simp];simp[rn]
theorem BD(z:i<n)(g:UV)(j:Nat):mM p n rn g i j=g i j%p:=by unfold mM;rw[z6 (i:=i) z λk _ I=>by unfold rn;rw[UY (LD I)];simp];simp[rn]
theorem Kp(two:2<=p)(u:Ja p n f g)(z:i<n)(I:j<n):mM p n f g i j=rn i j:=by have:=u i j z I;unfold mM;rw[this];unfold rn;split<;>first|exact LK ⋯ ⋯ |rfl
theorem iR(p:Int)(w:UK)(wd:UX)(f g T:UW)(k i j:Nat):iS p w wd f g T k i j=mM p (wd<|zZ w k) (mM p (wd<|z9 w k) (f<|z9 w k)<|T k) (g<|zZ w k) i j:=by unfold iS mM;congr 2;funext b;rw[Ms];congr 3;funext a;exact Ms _ _
end
section
variable{p:Int}{m:Nat}{w:UK}{wd:UX}{f g T1 T2 F1 G1 F2 G2:UW}{bs:List (Int×Int)}
theorem iJ(n:Nat)(f g:Nat->D):yW ((IA n).map f) ((IA n).map g)=(IA n).map λi=>D.tup [f i,g i]:=by unfold yW;rw[Ox,Ly];rfl
theorem dW(O:0<p)(J:p<=7)(z:m<=60)(U:∀k,wd k<=60)(Y:∀k i j,k<m->i<wd k->j<wd k->0<=g k i j/\g k i j<p):qI [.int p,.lst<|j3 m wd f,.lst (j3 m wd g)]=cq (.own<|j3 m wd λk=>mM p (wd k) (f k)<|g k):=by
 have s:=jj;have b:m<=lim:=by omega
 have n:zY (.tp [0,1]) jw (zE qw<|zb (zh 2)<|zb (zh 0)<|zb (zh 1) zF) [Cell.no,.no,.val (.int p)] ((IA m).map λk=>D.tup [j8 (wd k) (wd k) (f k),j8 (wd k) (wd k) (g k)])=cq (j3 m wd λk=>mM p (wd k) (f k)<|g k):=by
  unfold j3;refine zC _ _ λk I=>zB (γ1:=[.val (j8 (wd k) (wd k)<|f k),.val<|j8 (wd k) (wd k)<|g k,.val (.int p)]) rfl rfl ?_;have I:=IC.mp I;have t:=U k;have e:=vq (p:=p) (h:=wd k) (m:=wd k) (w:=wd k) (f k) (g k) O ⋯ ⋯ ⋯ (λi j o r=>by have:=Y k i j I o r;omega);have l:(j8 (wd k) (wd k) λi j=>zm (λx=>g k x j*f k i x) (wd k)%p)=j8 (wd k) (wd k) (mM p (wd k) (f k)<|g k):=by congr 1;funext i j;unfold mM;rw[zA λx _=>Ms _ _]
  rw[l]at e;simp[e]
 unfold qI;refine je ?_;show yQ _ [Cell.val (.int p),.val<|.lst<|j3 m wd f,.val (.lst<|j3 m wd g)]=_;have a:QR (zh 1) (zh 2) [Cell.val (.int p),.val<|.lst<|j3 m wd f,.val (.lst<|j3 m wd g)]=cq ((IA m).map λk=>D.tup [j8 (wd k) (wd k) (f k),j8 (wd k) (wd k) (g k)]):=by show cq (yW (j3 m wd f)<|j3 m wd g)=_;unfold j3;rw[iJ]
 rw[show yQ (zU (QR (zh 1)<|zh 2) (.tp [0,1]) 2 [0] jw (zE qw<|zb (zh 2)<|zb (zh 0)<|zb (zh 1) zF)) [Cell.val (.int p),.val<|.lst<|j3 m wd f,.val (.lst<|j3 m wd g)]=(zU (QR (zh 1)<|zh 2) (.tp [0,1]) 2 [0] jw (zE qw<|zb (zh 2)<|zb (zh 0)<|zb (zh 1) zF) [Cell.val (.int p),.val<|.lst<|j3 m wd f,.val (.lst<|j3 m wd g)]).map (λd=>Fl.ret<|.own d)from rfl,qm,a];simp only[IF,Lc,Md,b,if_true];rw[show jk 2 [0] [Cell.val (.int p),.val<|.lst<|j3 m wd f,.val (.lst<|j3 m wd g)]=[Cell.no,.no,.val (.int p)]from rfl,n];rfl
theorem uM(Y:0<p)(L:p<=7)(hm:m<=50)(J:∀k,wd k<=60)(Z:∀k i j,k<m+1->i<wd k->j<wd k->0<=G1 k i j/\G1 k i j<p)(b2:∀k i j,k<m+1->i<wd k->j<wd k->0<=G2 k i j/\G2 k i j<p)
 (z:jQ [zO p m w wd T1]=cq (.val<|xW bs (kR m wd G1)<|kR m wd F1)) (U:jQ [zO p m w wd T2]=cq (.val<|xW bs (kR m wd G2)<|kR m wd F2)):
 we [zO p m w wd T1,zO p m w wd T2]=cq (.val (.tup [.str "alike",.lst (j3 (m+1) wd λk=>mM p (wd k) (F2 k) (G1 k)),.lst (j3 (m+1) wd λk=>mM p (wd k) (F1 k) (G2 k))])):=by
 have n:=jj;have b:=(yp (p:=p) (w:=w) (wd:=wd) (T:=T1) (wd':=wd) (T':=T2)<|show m<=900 by omega).2;have h:=dW (f:=F2) (g:=G1) Y L (show m+1<=60 by omega) J Z;have l:=dW (f:=F1) (g:=G2) Y L (show m+1<=60 by omega) J b2;unfold xW at z U;rw[XR,XR]at z U;have a:=vU (p:=p) (m:=m) (w:=w) (wd:=wd) (T:=T1);generalize zO p m w wd T1=R1 at *;generalize zO p m w wd T2=R2 at *;have e:l5 (.lst<|jc bs) (.lst<|jc bs)=cq (.bl di):=nA<|Zu bs;have d:3<=lim:=by omega
 unfold we;let I:D:=.tup [.lst (jc bs),.lst<|j3 (m+1) wd G1,.lst (j3 (m+1) wd F1)];let O:D:=.tup [.lst (jc bs),.lst<|j3 (m+1) wd G2,.lst (j3 (m+1) wd F2)];refine je<|zu (γ':=[.val R1,.val R2,.no,.no,.no,.no]) (by simp[z7,b])<|zu (γ':=[.val R1,.val R2,.val I,.no,.no,.no]) (by simp[z,I])<|zu (γ':=[.val R1,.val R2,.val I,.val O,.no,.no]) (by simp[U,O])<|zu (γ':=[.val R1,.val R2,.val I,.val O,.no,.no]) (by simp[I,O,hH,e])<|zu (γ':=[.val R1,.val R2,.val I,.val O,.val<|.lst<|j3 (m+1) wd λk=>mM p (wd k) (F2 k)<|G1 k,.no]) (by simp[I,O,hH,a,h])<|zu (γ':=[.val R1,.val R2,.val I,.val O,.val<|.lst<|j3 (m+1) wd λk=>mM p (wd k) (F2 k)<|G1 k,.val (.lst<|j3 (m+1) wd λk=>mM p (wd k) (F1 k)<|G2 k)]) (by simp[I,O,hH,a,l]) ?_;simp[d]
end
section
variable{α β:Type}
theorem Yg(f g:α->Int):∀L:List α,kQ (L.map λx=>f x+g x)=kQ (L.map f)+kQ (L.map g)
 |[]=>rfl
 |x::L=>by simp only[Lk,kQ,Yg f g L];omega
theorem WH:∀L:List α,kQ (L.map λ_=>(0:Int))=0
 |[]=>rfl
 |x::L=>by simp only[Lk,kQ,WH L];omega
theorem Ye(f:α->β->Int):∀(K:List α) (L:List β),kQ (K.map λa=>kQ<|L.map λb=>f a b)=kQ (L.map λb=>kQ<|K.map λa=>f a b)
 |[],L=>(WH L).symm
 |a::K,L=>by simp only[Lk,kQ];rw[Ye f K L,Yg]
theorem Yf{K L:List Int}(h:K.Perm L):kQ K=kQ L:=by
 induction h with
 |nil=>rfl
 |cons x _ I=>simp only[kQ,I]
 |swap x y l=>simp only[kQ];omega
 |trans _ _ a b=>exact a.trans b
end
noncomputable def mu(w:UK)(b c:Int×Int):Int:=if r9 w b.1.toNat b.2.toNat c.1.toNat c.2.toNat=da then 1 else 0
theorem AX{n:Int}{b:Int×Int}(h:yP n b):D.tup [.int b.1,.int b.2]=pr b.1.toNat b.2.toNat:=by obtain⟨a,d,_⟩:=h;unfold pr;rw[OH a,OH ⋯]
section
variable{p:Int}{m:Nat}{w:UK}{wd1 wd2:UX}{T1 T2:UW}{bs gm g4:List (Int×Int)}{c:Int×Int}{U3 U4 U9 XP:List TB}
theorem Gk(z:m<=5){b:Int×Int}(I:yP ((m+1:Nat):Int) b)(O:yP ((m+1:Nat):Int) c):kz [.str (jN m w),.tup [.int b.1,.int b.2],.tup [.int c.1,.int c.2]]=cq (.val<|.int<|mu w b c):=by rw[AX I,AX O];obtain⟨a,d,U⟩:=I;obtain⟨Y,g2,g3⟩:=O;exact KY z ⋯ ⋯ ⋯ ⋯
theorem V5(z:m<=5)(h:∀b∈bs,yP ((m+1:Nat):Int) b)(I:bs.length<=lim)(O:yP ((m+1:Nat):Int) c):qf [.str (jN m w),.lst<|jc bs,.tup [.int c.1,.int c.2]]=cq (.val<|.int<|kQ<|bs.map λb=>mu w b c):=by
 have d:zY (.nm 0) jw (zE kz<|zb (zh 1)<|zb (zh 0)<|zb (zh 2) zF) [Cell.no,.val<|.str<|jN m w,.val (.tup [.int c.1,.int c.2])] (jc bs)=cq (bs.map λb=>D.int<|mu w b c):=by unfold jc;exact zC _ _ λb U=>zB (γ1:=[.val (.tup [.int b.1,.int b.2]),.val<|.str<|jN m w,.val (.tup [.int c.1,.int c.2])]) rfl rfl (by simp[Gk z (h b U) O])
 have Y:(jc bs).length<=lim:=by simpa using I
 have e:ba (bs.map λb=>D.int<|mu w b c)=cq (kQ<|bs.map λb=>mu w b c):=by rw[<-Jx,Ly];rfl
 unfold qf;refine je ?_;have a:zR (zk 1) [Cell.val (.str<|jN m w),.val<|.lst<|jc bs,.val (.tup [.int c.1,.int c.2])]=cq (jc bs):=rfl;show qt _ [Cell.val (.str<|jN m w),.val<|.lst<|jc bs,.val (.tup [.int c.1,.int c.2])]=_;rw[ZP,aL,wc,qm,a];simp only[IF,Y,if_true];rw[show jk 1 [0,2] [Cell.val (.str<|jN m w),.val<|.lst<|jc bs,.val (.tup [.int c.1,.int c.2])]=[Cell.no,.val<|.str<|jN m w,.val (.tup [.int c.1,.int c.2])]from rfl,d];simp[e]
theorem nC(Z:m<=5)(J:∀b∈gm,yP ((m+1:Nat):Int) b)(L:∀b∈g4,yP ((m+1:Nat):Int) b)(I:gm.length<=lim)(l2:g4.length<=lim)(z:jQ [zO p m w wd1 T1]=cq (.val<|xW gm U3 U9))(O:jQ [zO p m w wd2 T2]=cq (.val<|xW g4 U4 XP)):
 ka [zO p m w wd1 T1,zO p m w wd2 T2]=cq (.val<|.int<|kQ<|g4.map λc=>kQ<|gm.map λb=>mu w b c):=by
 have U:=(yp (p:=p) (w:=w) (wd:=wd1) (T:=T1) (wd':=wd2) (T':=T2)<|show m<=900 by omega).2;have Y:=xZ (p:=p) (w:=w) (wd:=wd1) (T:=T1) (show m<=900 by omega);let a:=zO p m w wd1 T1;let R2:=zO p m w wd2 T2;have g:zY (.nm 0) jw (zE qf<|zb (zE qH<|zb (zh 1) zF)<|zb (zh 2)<|zb (zh 0) zF) [Cell.no,.val a,.val (.lst<|jc gm)] (jc g4)=cq (g4.map λc=>D.int<|kQ<|gm.map λb=>mu w b c):=by
  conv=>lhs;unfold jc
  exact zC _ _ λc h=>zB (γ1:=[.val (.tup [.int c.1,.int c.2]),.val a,.val (.lst<|jc gm)]) rfl rfl (by simp[a,Y,V5 Z J I (L c h)])
 have e:(jc g4).length<=lim:=by simpa using l2
 have k:ba (g4.map λc=>D.int<|kQ<|gm.map λb=>mu w b c)=cq (kQ<|g4.map λc=>kQ<|gm.map λb=>mu w b c):=by rw[<-Jx,Ly];rfl
 have i:jQ [a]=cq (.val<|xW gm U3 U9):=z;have j:jQ [R2]=cq (.val<|xW g4 U4 XP):=O;have f:jU [a,R2]=cq (.val .d7):=U;show ka [a,R2]=_
 clear_value a R2
 unfold ka;refine je<|zu (γ':=[.val a,.val R2,.no]) (by simp[z7,f])<|zu (γ':=[.val a,.val R2,.val (.lst<|jc gm)]) (by simp[i,xW,hH]) ?_;have d:zR (zJ<|dj (zJ<|zE jQ<|zb (zh 1) zF)<|zy<|.int 0) [Cell.val a,.val R2,.val (.lst<|jc gm)]=cq (jc g4):=by simp[j,xW,hH]
 rw[ZP,aL,wc,qm,d];simp only[IF,e,if_true];rw[show jk 1 [0,2] [Cell.val a,.val R2,.val (.lst<|jc gm)]=[Cell.no,.val a,.val (.lst<|jc gm)]from rfl,g];simp[k]
end
noncomputable def A3(p:Int)(m:Nat)(w:UK)(wd1 wd2:UX)(T1 T2 h:UW):Prop:=
 ∀k,k<m->∀i j,i<wd2 (z9 w k)->j<wd1 (zZ w k)->mM p (wd1<|z9 w k) (h<|z9 w k) (T1 k) i j=mM p (wd2<|zZ w k) (T2 k) (h<|zZ w k) i j
section
variable{p:Int}{m a b c d:Nat}{w:UK}{f:Nat->Int}
abbrev m8(a b r:Nat):Prop:=a<=r/\r<=b
structure A5(p:Int)(m:Nat)(w:UK)(a b c d:Nat)(f:Nat->Int):Prop where
 zero:∀r,¬(m8 a b r/\m8 c d r)->f r=0
 pass:∀k,k<m->m8 c d (z9 w k)->m8 a b (zZ w k)->f (z9 w k)%p=f (zZ w k)%p
theorem A5.next(h:A5 p m w a b c d f)(I:b<=m){r:Nat}(J:m8 a b r/\m8 c d r)(z:m8 a b (r+1)/\m8 c d (r+1)):f (r+1)%p=f r%p:=by
 have x:=h.pass r (by have:=z.1.2;omega);unfold z9 zZ at x;cases hw:w r with
 |true=>
  simp only[hw,if_true]at x;exact(x J.2 z.1).symm
 |false=>
  simp only[hw,LR,if_false]at x;exact x z.2 J.1
theorem A5.const(h:A5 p m w a b c d f)(I:b<=m):∀s,m8 a b (max a c+s)/\m8 c d (max a c+s)->f (max a c+s)%p=f (max a c)%p
 |0,_=>rfl
 |s+1,e=>by have g:m8 a b (max a c+s)/\m8 c d (max a c+s):=⟨⟨by omega,by have:=e.1.2;omega⟩,⟨by omega,by have:=e.2.2;omega⟩⟩;rw[<-A5.const h I s g];exact A5.next h I g e
theorem A5.all(h:A5 p m w a b c d f)(O:b<=m){r:Nat}(I:m8 a b r/\m8 c d r):f r%p=f (max a c)%p:=by obtain⟨s,rfl⟩:∃s,r=max a c+s:=⟨r-max a c,by have:=I.1.1;have:=I.2.1;omega⟩;exact h.const O s I
theorem A5.none(h:A5 p m w a b c d f)(ab:a<=b)(z:c<=d)(U:b<=m)(J:d<=m)(n:r9 w a b c d=di)(r:Nat):f r%p=0:=by
 by_cases Y:m8 a b r/\m8 c d r
 ·obtain⟨⟨k,o⟩,s,t⟩:=Y
  have g:max a c<=min b d:=by omega
  have e:=h.all U (r:=r) ⟨⟨k,o⟩,s,t⟩;unfold r9 at n;rw[decide_eq_true g,Bool.true_and,Bool.and_eq_false_iff]at n;rcases n with n|n
  ·rw[e]
   unfold C1 at n;rw[Bool.or_eq_false_iff]at n;have j:¬a=c:=by simpa using n.1
   have I:=n.2;by_cases l:a<c
   ·rw[show max a c=c by omega]at I ⊢
    rw[decide_eq_true l]at I;have O:w (c-1)=di:=by simpa using I
    have x:=h.pass (c-1) ⋯;unfold z9 zZ at x;simp only[O,LR,if_false]at x;rw[show c-1+1=c by omega]at x;rw[x ⟨by omega,z⟩ ⟨by omega,by omega⟩,h.zero (c-1) (λq=>by have:=q.2.1;omega)];rfl
   ·rw[show max a c=a by omega]at I ⊢
    rw[decide_eq_false l]at I;have O:w (a-1)=da:=by simpa using I
    have x:=h.pass (a-1) ⋯;unfold z9 zZ at x;simp only[O,if_true]at x;rw[show a-1+1=a by omega]at x;rw[<-x ⟨by omega,by omega⟩ ⟨by omega,ab⟩,h.zero (a-1) (λq=>by have:=q.1.1;omega)];rfl
  ·have i:=h.all U (r:=min b d) ⟨⟨by omega,by omega⟩,by omega,by omega⟩
   rw[e,<-i];unfold C6 at n;rw[Bool.or_eq_false_iff]at n;have j:¬b=d:=by simpa using n.1
   have I:=n.2;by_cases l:b<d
   ·rw[show min b d=b by omega]at I ⊢
    rw[decide_eq_true l]at I;have O:w b=di:=by simpa using I
    have x:=h.pass b ⋯;unfold z9 zZ at x;simp only[O,LR,if_false]at x;rw[<-x ⟨by omega,by omega⟩ ⟨ab,by omega⟩,h.zero (b+1) (λq=>by have:=q.1.2;omega)];rfl
   ·rw[show min b d=d by omega]at I ⊢
    rw[decide_eq_false l]at I;have O:w d=da:=by simpa using I
    have x:=h.pass d ⋯;unfold z9 zZ at x;simp only[O,if_true]at x;rw[x ⟨z,by omega⟩ ⟨by omega,by omega⟩,h.zero (d+1) (λq=>by have:=q.2.2;omega)];rfl
 ·rw[h.zero r Y];rfl
theorem sP(y:r9 w a b c d=da)(t:Int):A5 p m w a b c d λr=>if m8 a b r/\m8 c d r then t else 0 where
 zero:=λr h=>UY h
 pass:=λk hk U Y=>by
  unfold r9 at y;simp only[IK]at y;obtain⟨y1,I,O⟩:=y;have y1:=of_decide_eq_true y1;have key:(m8 a b (z9 w k)/\m8 c d (z9 w k))↔(m8 a b (zZ w k)/\m8 c d (zZ w k)):=by
   unfold C1 at I;unfold C6 at O;unfold m8 at U Y ⊢;unfold z9 at U ⊢;unfold zZ at Y ⊢;cases hw:w k with
   | true=>
    simp only[hw,if_true]at U Y ⊢;constructor
    ·rintro⟨q1,q2⟩
     refine⟨Y,?_⟩;have:¬(k=d):=λe=>by
      have z:min b d=d:=by omega
      have ne:¬b=d:=by omega
      rw[z,<-e,hw]at O;simp only[decide_eq_false_iff_not.mpr (show ¬b=k by omega),NV]at O;simp at O;omega
     omega
    ·rintro⟨q1,q2⟩
     refine⟨?_,U⟩;have:¬(k+1=a):=λe=>by
      have z:max a c-1=k:=by omega
      rw[z,hw]at I;simp only[decide_eq_false_iff_not.mpr (show ¬a=c by omega),NV]at I;simp at I;omega
     omega
   | false=>
    simp only[hw,LR,if_false]at U Y ⊢;constructor
    ·rintro⟨q1,q2⟩
     refine⟨Y,?_⟩;have:¬(k+1=c):=λe=>by
      have z:max a c-1=k:=by omega
      rw[z,hw]at I;simp only[decide_eq_false_iff_not.mpr (show ¬a=c by omega),NV]at I;simp at I;omega
     omega
    ·rintro⟨q1,q2⟩
     refine⟨?_,U⟩;have:¬(k=b):=λe=>by
      have z:min b d=b:=by omega
      rw[z,<-e,hw]at O;simp only[decide_eq_false_iff_not.mpr (show ¬k=d by omega),NV]at O;simp at O;omega
     omega
  by_cases q:m8 a b (z9 w k)/\m8 c d (z9 w k)
  ·rw[UJ q,UJ (key.mp q)]
  ·rw[UY q,UY (λz=>q<|key.mpr z)]
end
section
variable{p:Int}{m:Nat}{w:UK}{K K1 K2:List (Int×Int)}{h:UW}
abbrev stK(K:List (Int×Int))(x:Nat):Nat:=(K.getD x (0,0)).1.toNat
abbrev ro(K:List (Int×Int))(x:Nat):Nat:=(K.getD x (0,0)).2.toNat
abbrev ij(K:List (Int×Int))(r a:Nat):Nat:=(qD K r).getD a 0
abbrev yg(K:List (Int×Int))(r x:Nat):Nat:=(qD K r).idxOf x
abbrev q5(K:List (Int×Int))(x r:Nat):Prop:=m8 (stK K x) (ro K x) r
theorem Yl(I:∀b∈K,yP ((m+1:Nat):Int) b){x:Nat}(hx:x<K.length):stK K x<=ro K x/\ro K x<=m/\((stK K x:Int),(ro K x:Int))=K.getD x (0,0):=by
 have e:K.getD x (0,0)=K[x]:=by simp[hx]
 obtain⟨a,d,O⟩:=I K[x] (MB hx);unfold stK ro;rw[e];refine⟨by omega,by omega,Prod.ext ?_ ?_⟩
 ·show((K[x].1.toNat:Nat):Int)=_;omega
 ·show((K[x].2.toNat:Nat):Int)=_;omega
theorem qV(O:∀b∈K,yP ((m+1:Nat):Int) b){x r:Nat}:x∈qD K r↔x<K.length/\q5 K x r:=by unfold qD;rw[Li,IC];refine and_congr_right λd=>?_;obtain⟨_,_,I⟩:=Yl O d;have a:=congrArg Prod.fst I;have U:=congrArg Prod.snd I;dsimp only at a U;unfold Ez;simp only[IK,decide_eq_true_eq];unfold q5 m8;omega
theorem vN{r a:Nat}(z:a<pf K r):ij K r a∈qD K r:=by unfold ij;rw[IG,ID z];exact MB z
theorem lR(K:List (Int×Int))(r:Int):(qD K r).Nodup:=Pn.filter _
theorem QS{r x:Nat}(hx:x∈qD K r):yg K r x<pf K r/\ij K r (yg K r x)=x:=by have l:(qD K r).idxOf x<(qD K r).length:=OE hx;refine⟨l,?_⟩;unfold ij yg;rw[IG,ID l];exact Rq l
theorem bD{r a:Nat}(z:a<pf K r):yg K r (ij K r a)=a:=by unfold ij yg;rw[IG,ID z];exact(lR K r).idxOf_getElem a z
noncomputable def Yh(K1 K2:List (Int×Int))(h:UW)(x y r:Nat):Int:=if q5 K1 x r/\q5 K2 y r then h r (yg K2 r y) (yg K1 r x)else 0
theorem GO(J:∀b∈K1,yP ((m+1:Nat):Int) b)(L:∀b∈K2,yP ((m+1:Nat):Int) b){r a b:Nat}(z:a<pf K2 r)(I:b<pf K1 r):Yh K1 K2 h (ij K1 r b) (ij K2 r a) r=h r a b:=by unfold Yh;rw[UJ ⟨((qV J).mp (vN I)).2,((qV L).mp (vN z)).2⟩,bD z,bD I]
theorem oO(z:∀b∈K1,yP ((m+1:Nat):Int) b){f:UV}{k a b:Nat}(U:b<pf K1 (zZ w k)):mM p (pf K1<|z9 w k) f (r6 w K1 k) a b=(if q5 K1 (ij K1 (zZ w k) b) (z9 w k)then f a (yg K1 (z9 w k)<|ij K1 (zZ w k) b)else 0)%p:=by
 have d:=(qV z).mp (vN U);generalize ex:ij K1 (zZ w k) b=x at d;unfold mM r6;have e:(qD K1<|zZ w k).getD b 0=x:=ex;rw[e];by_cases q:q5 K1 x (z9 w k)
 ·have i:x∈qD K1 (z9 w k):=(qV z).mpr ⟨d.1,q⟩
  obtain⟨l,Y⟩:=QS i;rw[UJ q,z6 l λc I h=>by rw[UY,NJ];intro O;have:=bD (K:=K1) (r:=z9 w k) I;rw[show ij K1 (z9 w k) c=x from O]at this;exact h this.symm]
  rw[show(qD K1<|z9 w k).getD (yg K1 (z9 w k) x) 0=x from Y,UJ rfl,Po]
 ·rw[UY q,zA (g:=λ_=>0) λc I=>by rw[UY,NJ];intro O;have:=(qV z).mp (vN (K:=K1) I);rw[show ij K1 (z9 w k) c=x from O]at this;exact q this.2,zT]
theorem oP(z:∀b∈K2,yP ((m+1:Nat):Int) b){f:UV}{k a b:Nat}(J:a<pf K2 (z9 w k)):mM p (pf K2<|zZ w k) (r6 w K2 k) f a b=(if q5 K2 (ij K2 (z9 w k) a) (zZ w k)then f (yg K2 (zZ w k)<|ij K2 (z9 w k) a) b else 0)%p:=by
 have d:=(qV z).mp (vN J);generalize ex:ij K2 (z9 w k) a=x at d;unfold mM r6;have e:(qD K2<|z9 w k).getD a 0=x:=ex;rw[e];by_cases q:q5 K2 x (zZ w k)
 ·have h:x∈qD K2 (zZ w k):=(qV z).mpr ⟨d.1,q⟩
  obtain⟨l,U⟩:=QS h;rw[UJ q,z6 l λc I Y=>by rw[UY,Int.zero_mul];intro O;have:=bD (K:=K2) (r:=zZ w k) I;rw[show ij K2 (zZ w k) c=x from O.symm]at this;exact Y this.symm]
  rw[show(qD K2<|zZ w k).getD (yg K2 (zZ w k) x) 0=x from U,UJ rfl,Int.one_mul]
 ·rw[UY q,zA (g:=λ_=>0) λc I=>by rw[UY,Int.zero_mul];intro O;have:=(qV z).mp (vN (K:=K2) I);rw[show ij K2 (zZ w k) c=x from O.symm]at this;exact q this.2,zT]
theorem gr(J:∀b∈K1,yP ((m+1:Nat):Int) b)(L:∀b∈K2,yP ((m+1:Nat):Int) b):A3 p m w (pf K1) (pf K2) (r6 w K1) (r6 w K2) h ↔ ∀x y,x<K1.length->y<K2.length->A5 p m w (stK K1 x) (ro K1 x) (stK K2 y) (ro K2 y) (Yh K1 K2 h x y):=by
 constructor
 ·intro H x y u A
  refine⟨λr t=>UY t,λk Y e d=>?_⟩;have a:x∈qD K1 (zZ w k):=(qV J).mpr ⟨u,d⟩;have U:y∈qD K2 (z9 w k):=(qV L).mpr ⟨A,e⟩;obtain⟨l,o⟩:=QS a;obtain⟨n,s⟩:=QS U;have:=H k Y (yg K2 (z9 w k) y) (yg K1 (zZ w k) x) n l;rw[oO J l,oP L n,o,s]at this;unfold Yh;by_cases I:q5 K1 x (z9 w k)<;>by_cases O:q5 K2 y (zZ w k)
  ·rw[UJ ⟨I,e⟩,UJ ⟨d,O⟩];rw[UJ I,UJ O]at this;exact this
  ·rw[UJ ⟨I,e⟩,UY (λz=>O z.2)];rw[UJ I,UY O]at this;exact this
  ·rw[UY (λz=>I z.1),UJ ⟨d,O⟩];rw[UY I,UJ O]at this;exact this
  ·rw[UY (λz=>I z.1),UY (λz=>O z.2)]
 ·intro H k Y i j f g
  rw[oO J g,oP L f];have a:=(qV J).mp (vN g);have U:=(qV L).mp (vN f);have:=(H _ _ a.1 U.1).pass k Y U.2 a.2;unfold Yh at this;rw[bD f,bD g]at this;by_cases I:q5 K1 (ij K1 (zZ w k) j) (z9 w k)<;>by_cases O:q5 K2 (ij K2 (z9 w k) i) (zZ w k)
  ·rw[UJ I,UJ O];rw[UJ ⟨I,U.2⟩,UJ ⟨a.2,O⟩]at this;exact this
  ·rw[UJ I,UY O];rw[UJ ⟨I,U.2⟩,UY (λz=>O z.2)]at this;exact this
  ·rw[UY I,UJ O];rw[UY (λz=>I z.1),UJ ⟨a.2,O⟩]at this;exact this
  ·rw[UY I,UY O]
end
theorem Yi(f:Nat->Int)(a:Nat):∀b,zm f (a+b)=zm f a+zm (λx=>f<|a+x) b
 |0=>by show zm f a=zm f a+0;omega
 |b+1=>by show zm f (a+b)+f (a+b)=zm f a+(zm (λx=>f<|a+x) b+f (a+b));rw[Yi f a b];omega
theorem Jw(f:Nat->Int)(w:Nat):∀h,zm f (h*w)=zm (λi=>zm (λj=>f<|i*w+j) w) h
 |0=>by rw[Nat.zero_mul];rfl
 |h+1=>by rw[OT,Yi,Jw f w h];rfl
theorem Xh(g:Nat->Int):∀n,kQ ((IA n).map g)=zm g n
 |0=>rfl
 |n+1=>by rw[MA,LQ,Yf List.perm_append_comm];show g n+kQ ((IA n).map g)=zm g n+g n;rw[Xh g n,Int.add_comm]
theorem WI(f:Int×Int->Int)(K:List (Int×Int)):kQ (K.map f)=zm (λx=>f<|K.getD x (0,0)) K.length:=by
 rw[<-Xh]
 conv=>lhs;rw[<-jD (0,0) K,Ly]
 rfl
theorem Xt(q:UK):∀n,(((IA n).filter q).length:Int)=zm (λs=>if q s=da then 1 else 0) n
 |0=>rfl
 |n+1=>by
  rw[MA,NS,Lz];show _=zm (λs=>if q s=da then 1 else 0) n+_;rw[<-Xt q n];by_cases h:q n=da
  ·simp[h]
  ·simp[h]
structure Du(p:Int)(m:Nat)(w:UK)(wd1 wd2:UX)(T1 T2:UW)(c:Nat)(E:Nat->Nat->Nat->Nat->Int):Prop where
 Pz:∀s,s<c->A3 p m w wd1 wd2 T1 T2 (E s)
 span:∀h,A3 p m w wd1 wd2 T1 T2 h->∃t:Nat->Int,∀r,r<=m->∀i j,i<wd2 r->j<wd1 r->h r i j%p=zm (λs=>t s*E s r i j) c%p
 ind:∀t:Nat->Int,(∀r,r<=m->∀i j,i<wd2 r->j<wd1 r->zm (λs=>t s*E s r i j) c%p=0)->∀s,s<c->t s%p=0
theorem XB{w:UK}{m k:Nat}(h:k<m):z9 w k<=m:=by unfold z9;split<;>omega
theorem XG{w:UK}{m k:Nat}(h:k<m):zZ w k<=m:=by unfold zZ;split<;>omega
section
variable{p:Int}{m:Nat}{w:UK}{wd1 wd2 S0 S3:UX}{T1 T2 S1 S2 A1 B1 A2 B2:UW}{K1 K2:List (Int×Int)}{h:UW}{c:Nat}{E:Nat->Nat->Nat->Nat->Int}
theorem A3.wd(z:∀r,r<=m->wd1 r=S0 r)(O:∀r,r<=m->wd2 r=S3 r)(H:A3 p m w wd1 wd2 T1 T2 h):A3 p m w S0 S3 T1 T2 h:=λk I i j b U=>by have Y:=XB (w:=w) I;have a:=XG (w:=w) I;rw[<-O _ Y]at b;rw[<-z _ a]at U;rw[<-z _ Y,<-O _ a];exact H k I i j b U
theorem Du.wd(e1:∀r,r<=m->wd1 r=S0 r)(O:∀r,r<=m->wd2 r=S3 r)(H:Du p m w wd1 wd2 T1 T2 c E):Du p m w S0 S3 T1 T2 c E where
 Pz:=λs hs=>(H.Pz s hs).wd e1 O
 span:=λh hh=>by obtain⟨t,U⟩:=H.span h<|hh.wd (λr I=>(e1 r I).symm) λr I=>(O r I).symm;exact⟨t,λr I i j hi Y=>U r I i j (by rw[O r I];exact hi)<|by rw[e1 r I];exact Y⟩
 ind:=λt U s hs=>H.ind t (λr I i j hi Y=>U r I i j (by rw[<-O r I];exact hi)<|by rw[<-e1 r I];exact Y) s hs
noncomputable def xG(w:UK)(K1 K2:List (Int×Int)):List Nat:=(IA<|K1.length*K2.length).filter λs=>r9 w (stK K1<|s/K2.length) (ro K1<|s/K2.length) (stK K2<|s%K2.length)<|ro K2<|s%K2.length
theorem bI:((xG w K1 K2).length:Int)=kQ (K1.map λb=>kQ<|K2.map λc=>mu w b c):=by
 unfold xG;rw[Xt,Jw,WI];refine zA λx d=>?_;rw[WI];refine zA λy I=>?_;have a:(x*K2.length+y)/K2.length=x:=by rw[Nb,Nat.mul_add_div ⋯,RT I,PK]
 have O:(x*K2.length+y)%K2.length=y:=by rw[Nb,Nat.mul_add_mod,RQ I]
 rw[a,O];rfl
noncomputable def En(w:UK)(K1 K2:List (Int×Int))(s r a b:Nat):Int:=if ij K1 r b*K2.length+ij K2 r a=(xG w K1 K2).getD s 0 then 1 else 0
theorem W2{x y N:Nat}(I:y<N):(x*N+y)/N=x/\(x*N+y)%N=y:=by
 constructor
 ·rw[Nb,Nat.mul_add_div ⋯,RT I,PK]
 ·rw[Nb,Nat.mul_add_mod,RQ I]
theorem YQ{x y:Nat}(hx:x<K1.length)(I:y<K2.length):x*K2.length+y∈xG w K1 K2↔r9 w (stK K1 x) (ro K1 x) (stK K2 y) (ro K2 y)=da:=by
 unfold xG;obtain⟨a,O⟩:=W2 (x:=x) I;rw[Li,IC,a,O];have:x*K2.length+y<K1.length*K2.length:=by have:(x+1)*K2.length<=K1.length*K2.length:=Ow _ hx;rw[Nat.add_mul]at this;omega
 exact and_iff_right this
theorem Yd(t:Nat->Int){L:List Nat}(J:L.Nodup)(z:Nat):zm (λs=>t s*if z=L.getD s 0 then 1 else 0) L.length=if z∈L then t (L.idxOf z)else 0:=by
 by_cases h:z∈L
 ·rw[UJ h]
  have l:=OE h;rw[z6 l λs a I=>by rw[UY,NJ];intro e;rw[IG,ID a]at e;have:=J.idxOf_getElem s a;rw[show L[s]=z from e.symm]at this;exact I this.symm]
  rw[UJ,Po];rw[IG,ID l];exact(Rq l).symm
 ·rw[UY h,zA (g:=λ_=>0) λs a=>by rw[UY,NJ];intro e;rw[IG,ID a]at e;exact h<|e ▸ MB a,zT]
theorem Kd:(xG w K1 K2).Nodup:=Pn.filter _
theorem gu(h1:∀b∈K1,yP ((m+1:Nat):Int) b)(h2:∀b∈K2,yP ((m+1:Nat):Int) b):Du p m w (pf K1) (pf K2) (r6 w K1) (r6 w K2) (xG w K1 K2).length (En w K1 K2) where
 Pz:=λs hs=>(gr h1 h2).mpr λx y hx I=>by
  by_cases e:x*K2.length+y=(xG w K1 K2).getD s 0
  ·have mem:x*K2.length+y∈xG w K1 K2:=by
    rw[e,IG,ID hs];exact MB hs
   have P:=sP (p:=p) (m:=m) ((YQ hx I).mp mem) 1;have:Yh K1 K2 (En w K1 K2 s) x y=λr=>if m8 (stK K1 x) (ro K1 x) r/\m8 (stK K2 y) (ro K2 y) r then 1 else 0:=by
    funext r;unfold Yh;by_cases q:q5 K1 x r/\q5 K2 y r
    ·rw[UJ q,UJ q]
     unfold En;rw[(QS<|(qV h1).mpr ⟨hx,q.1⟩).2,(QS<|(qV h2).mpr ⟨I,q.2⟩).2,UJ e]
    ·rw[UY q,UY q]
   rw[this];exact P
  ·have:Yh K1 K2 (En w K1 K2 s) x y=λ_=>0:=by
    funext r;unfold Yh;by_cases q:q5 K1 x r/\q5 K2 y r
    ·rw[UJ q]
     unfold En;rw[(QS<|(qV h1).mpr ⟨hx,q.1⟩).2,(QS<|(qV h2).mpr ⟨I,q.2⟩).2,UY e]
    ·rw[UY q]
   rw[this];exact⟨λ_ _=>rfl,λ_ _ _ _=>rfl⟩
 span:=λh hh=>by
  have H:=(gr h1 h2).mp hh;let N:=K2.length;refine⟨λs=>let z:=(xG w K1 K2).getD s 0;Yh K1 K2 h (z/N) (z%N) (max (stK K1<|z/N)<|stK K2<|z%N),λr hr i j hi hj=>?_⟩;have mx:=(qV h1).mp (vN hj);have O:=(qV h2).mp (vN hi);have P:=H _ _ mx.1 O.1;obtain⟨x1,U,_⟩:=Yl h1 mx.1;obtain⟨y1,y2,_⟩:=Yl h2 O.1;rw[<-GO (h:=h) h1 h2 hi hj];have d:=Yd (λs=>let z:=(xG w K1 K2).getD s 0;Yh K1 K2 h (z/N) (z%N) (max (stK K1<|z/N)<|stK K2<|z%N)) (Kd (w:=w) (K1:=K1) (K2:=K2))<|ij K1 r j*K2.length+ij K2 r i;unfold En;rw[d];by_cases mem:ij K1 r j*K2.length+ij K2 r i∈xG w K1 K2
  ·rw[UJ mem]
   have l:=OE mem;have e:(xG w K1 K2).getD ((xG w K1 K2).idxOf (ij K1 r j*K2.length+ij K2 r i)) 0=ij K1 r j*K2.length+ij K2 r i:=by rw[IG,ID l];exact Rq l
   obtain⟨e1,e2⟩:=W2 (x:=ij K1 r j) O.1;dsimp only;rw[e];show _=Yh K1 K2 h ((ij K1 r j*K2.length+ij K2 r i)/K2.length) ((ij K1 r j*K2.length+ij K2 r i)%K2.length) (max (stK K1<|(ij K1 r j*K2.length+ij K2 r i)/K2.length)<|stK K2<|(ij K1 r j*K2.length+ij K2 r i)%K2.length)%p;rw[e1,e2];exact P.all U ⟨mx.2,O.2⟩
  ·rw[UY mem]
   have n:r9 w (stK K1<|ij K1 r j) (ro K1<|ij K1 r j) (stK K2<|ij K2 r i) (ro K2<|ij K2 r i)=di:=Bool.eq_false_iff.mpr λI=>mem<|(YQ mx.1 O.1).mpr I;rw[P.none x1 y1 U y2 n r];rfl
 ind:=λt ht s hs=>by
  let z:=(xG w K1 K2)[s];have mem:z∈xG w K1 K2:=MB hs;have Y:=mem;unfold xG at Y;rw[Li,IC]at Y;obtain⟨zl,zq⟩:=Y;have n2:0<K2.length:=by
   rcases Rz K2.length with e|e
   ·rw[e,Nat.mul_zero]at zl;omega
   ·exact e
  have I:z%K2.length<K2.length:=Nat.mod_lt _ n2;have hx:z/K2.length<K1.length:=Nat.div_lt_of_lt_mul (by rw[Nb];exact zl);have ez:z/K2.length*K2.length+z%K2.length=z:=by rw[Nb];exact Nat.div_add_mod z K2.length
  generalize ex:z/K2.length=x at *;generalize ey:z%K2.length=y at *;obtain⟨x1,U,_⟩:=Yl h1 hx;obtain⟨y1,y2,_⟩:=Yl h2 I;have lo:max (stK K1 x) (stK K2 y)<=min (ro K1 x) (ro K2 y):=by unfold r9 at zq;simp only[IK]at zq;exact of_decide_eq_true zq.1
  let r:=max (stK K1 x)<|stK K2 y;have qx:q5 K1 x r:=⟨by show _<=max _ _;omega,by show max _ _<=_;omega⟩;have qy:q5 K2 y r:=⟨by show _<=max _ _;omega,by show max _ _<=_;omega⟩;obtain⟨lx,px⟩:=QS<|(qV h1).mpr ⟨hx,qx⟩;obtain⟨ly,py⟩:=QS<|(qV h2).mpr ⟨I,qy⟩;have g:=ht r (by show max _ _<=_;omega) _ _ ly lx;have d:=Yd t (Kd (w:=w) (K1:=K1) (K2:=K2))<|x*K2.length+y;unfold En at g;rw[px,py,d,ez,UJ mem]at g;have:=Kd (w:=w) (K1:=K1) (K2:=K2) |>.idxOf_getElem s hs;rw[show(xG w K1 K2).idxOf z=s from this]at g;exact g
theorem aH(two:2<=p)(Z:∀r,r<=m->Ja p (wd1 r) (B1 r) (A1 r))(u2:∀r,r<=m->Ja p (wd2 r) (B2 r) (A2 r))
 (J:∀k,k<m->∀i j,i<wd1 (z9 w k)->j<wd1 (zZ w k)->T1 k i j%p=mM p (wd1<|zZ w k) (mM p (wd1<|z9 w k) (A1<|z9 w k)<|S1 k) (B1<|zZ w k) i j)
 (L:∀k,k<m->∀i j,i<wd2 (z9 w k)->j<wd2 (zZ w k)->T2 k i j%p=mM p (wd2<|zZ w k) (mM p (wd2<|z9 w k) (A2<|z9 w k)<|S2 k) (B2<|zZ w k) i j)
 (H:A3 p m w wd1 wd2 S1 S2 h):A3 p m w wd1 wd2 T1 T2 λr=>mM p (wd1 r) (mM p (wd2 r) (A2 r)<|h r) (B1 r):=λk Y i j A B=>by
 show mM p (wd1<|z9 w k) (mM p (wd1<|z9 w k) (mM p (wd2<|z9 w k) (A2<|z9 w k)<|h<|z9 w k)<|B1<|z9 w k) (T1 k) i j=mM p (wd2<|zZ w k) (T2 k) (mM p (wd1<|zZ w k) (mM p (wd2<|zZ w k) (A2<|zZ w k)<|h<|zZ w k)<|B1<|zZ w k) i j;have e:0<p:=by omega
 have u:=XB (w:=w) Y;have t:=XG (w:=w) Y;have H:=H k Y;have o:=Z _ u;have s:=u2 _ t;have J:=J k Y;have L:=L k Y;generalize wd1 (z9 w k)=ae at *;generalize wd1 (zZ w k)=ab at *;generalize wd2 (z9 w k)=I at *;generalize wd2 (zZ w k)=cb at *;generalize A1 (z9 w k)=an at *;generalize B1 (z9 w k)=ap at *;generalize B1 (zZ w k)=a3 at *;generalize A2 (z9 w k)=O at *;generalize A2 (zZ w k)=a7 at *;generalize B2 (zZ w k)=as at *;generalize h (z9 w k)=he at *;generalize h (zZ w k)=hb at *;have C:∀(n:Nat) (f g g':UV) (i j:Nat),(∀x,x<n->g x j%p=g' x j)->mM p n f g i j=mM p n f g' i j:=λn f g g' i j q=>by unfold mM;exact zQ λx a=>by rw[<-q x a,IQ (f i x)<|g x j%p,Nj _<|PL p,<-IQ]
 have E:∀(n:Nat) (f f' g:UV) (i j:Nat),(∀x,x<n->f i x%p=f' i x)->mM p n f g i j=mM p n f' g i j:=λn f f' g i j q=>by unfold mM;exact zQ λx a=>by rw[<-q x a,IQ (f i x%p)<|g x j,Nj _<|PL p,<-IQ]
 have d:∀(n:Nat) (f g:UV) (i j:Nat),mM p n f g i j%p=mM p n f g i j:=λn f g i j=>LK (mC e n f g i j).1 (mC e n f g i j).2;have l:mM p ae (mM p ae (mM p I O he) ap) (T1 k) i j=mM p ab (mM p I O<|mM p ae he<|S1 k) a3 i j:=by rw[C ae _ _ (mM p ab (mM p ae an<|S1 k) a3) i j λx a=>J x j a B,xu];refine qd (λx a=>?_) λ_ _=>rfl;rw[xu,qd (f':=mM p I O he) (g':=S1 k) (λy U=>?_) λ_ _=>rfl,<-xu];rw[<-xu,qd (f':=mM p I O he) (g':=rn) (λ_ _=>rfl) λz b=>Kp two o b U,fM U,d]
 have r:mM p cb (T2 k) (mM p ab (mM p cb a7 hb) a3) i j=mM p ab (mM p I O<|mM p cb (S2 k) hb) a3 i j:=by rw[xu];refine qd (λx a=>?_) λ_ _=>rfl;rw[xu,xu];refine qd (λy U=>?_) λ_ _=>rfl;rw[E cb (T2 k) (mM p cb (mM p I O<|S2 k) as) a7 i y λx a=>L i x A a,<-xu,qd (f':=mM p I O<|S2 k) (g':=rn) (λ_ _=>rfl) λz b=>Kp two s b U,fM U,d]
 rw[l,r];refine qd (λx a=>?_) λ_ _=>rfl;exact qd (λ_ _=>rfl) λy U=>H y x U a
end
section ap
variable(γ:Ctx)
@[simp] noncomputable def GI:=@X4.eq_1
@[simp] noncomputable def Hr:=@Fg.eq_1
@[simp] theorem Gz(f):rO f γ=((f γ).bind o6).map λi=>.int (-i):=rfl
end ap
structure g_(p:Int)(m:Nat)(w:UK)(wd:UX)(K:List (Int×Int))(T F G:UW):Prop where
 pr:∀r,r<m+1->Pair p (wd r) (F r) (G r)
 eb:jQ [zO p m w wd T]=cq (.val<|xW K (kR m wd G)<|kR m wd F)
 et:∀k,k<m->∀i j,i<wd (z9 w k)->j<wd (zZ w k)->T k i j=mM p (wd<|zZ w k) (mM p (wd<|z9 w k) (F<|z9 w k)<|r6 w K k) (G<|zZ w k) i j
 rg:∀k i j,0<=T k i j/\T k i j<p
section
variable{p:Int}{n n1 n2 c i j:Nat}{A A1 B1 A2 B2 X h:UV}{E:UW}{t:Nat->Int}
theorem oN(I:0<p)(n:Nat)(f g:UV)(i j:Nat):mM p n f g i j%p=mM p n f g i j:=LK (mC I n f g i j).1 (mC I n f g i j).2
theorem FF{g g':UV}(f:UV)(q:∀x,x<n->g x j%p=g' x j%p):mM p n f g i j=mM p n f g' i j:=by unfold mM;exact zQ λx a=>by rw[IQ,q x a,<-IQ]
theorem Zj(two:2<=p)(Y:Ja p n2 A2 B2)(L:Ja p n1 A1 B1)(J:i<n2)(I:j<n1):mM p n1 (mM p n2 A2<|mM p n1 (mM p n2 B2 h) A1) B1 i j=h i j%p:=by
 have O:0<p:=by omega
 have e:∀x,x<n1->mM p n2 A2 (mM p n1 (mM p n2 B2 h) A1) i x=mM p n1 (λa b=>h a b%p) A1 i x:=λx d=>by rw[xu];refine qd (λy U=>?_) λ_ _=>rfl;rw[xu,qd (f':=rn) (g':=h) (λz f=>Kp two Y J f) λ_ _=>rfl,BD J]
 rw[qd (f':=mM p n1 (λa b=>h a b%p) A1) (g':=B1) e λ_ _=>rfl,<-xu,qd (f':=λa b=>h a b%p) (g':=rn) (λ_ _=>rfl) λx d=>Kp two L d I,fM I];exact Nj _<|PL p
theorem Vy(c:Nat)(t u:Nat->Int):zm (λs=>t s*(u s%p)) c%p=zm (λs=>t s*u s) c%p:=zQ λs _=>by rw[IQ,Nj _<|PL p,<-IQ]
theorem FG(q:∀x,x<n->X x j%p=zm (λs=>t s*E s x j) c%p):mM p n A X i j=zm (λs=>t s*mM p n A (E s) i j) c%p:=by
 unfold mM;rw[Vy];have e:zm (λk=>A i k*X k j) n%p=zm (λk=>A i k*zm (λs=>t s*E s k j) c) n%p:=zQ λx a=>by rw[IQ,q x a,<-IQ]
 rw[e];congr 1;rw[zA (g:=λk=>zm (λs=>A i k*(t s*E s k j)) c) λk _=>by rw[jB],qj];refine zA λs _=>?_;rw[<-jB];exact zA λk _=>by rw[Pe]
theorem FH(q:∀x,x<n->X i x%p=zm (λs=>t s*E s i x) c%p):mM p n X A i j=zm (λs=>t s*mM p n (E s) A i j) c%p:=by
 unfold mM;rw[Vy];have e:zm (λk=>X i k*A k j) n%p=zm (λk=>zm (λs=>t s*E s i k) c*A k j) n%p:=zQ λx a=>by rw[IQ,q x a,<-IQ]
 rw[e];congr 1;rw[zA (g:=λk=>zm (λs=>t s*E s i k*A k j) c) λk _=>by rw[kq],qj];refine zA λs _=>?_;rw[<-jB];exact zA λk _=>Nn ..
theorem af(I:0<p)(q:∀a b,a<n2->b<n1->X a b%p=zm (λs=>t s*E s a b) c%p)(A B:UV)(i j:Nat):mM p n1 (mM p n2 A X) B i j=zm (λs=>t s*mM p n1 (mM p n2 A<|E s) B i j) c%p:=
 FH λx d=>by rw[oN I,FG (t:=t) (E:=E) (c:=c) λy O=>q y x O d]
end
section
variable{p:Int}{m c:Nat}{w:UK}{wd1 wd2:UX}{T1 T2 S1 S2 A1 B1 A2 B2:UW}{h:UW}{E:Nat->Nat->Nat->Nat->Int}
theorem Du.I'(two:2<=p)(J:∀r,r<=m->Ja p (wd1 r) (B1 r) (A1 r))(L:∀r,r<=m->Ja p (wd2 r) (B2 r) (A2 r))(v1:∀r,r<=m->Ja p (wd1 r) (A1 r) (B1 r))(v2:∀r,r<=m->Ja p (wd2 r) (A2 r) (B2 r))
 (Z:∀k,k<m->∀i j,i<wd1 (z9 w k)->j<wd1 (zZ w k)->T1 k i j%p=mM p (wd1<|zZ w k) (mM p (wd1<|z9 w k) (A1<|z9 w k)<|S1 k) (B1<|zZ w k) i j)
 (e2:∀k,k<m->∀i j,i<wd2 (z9 w k)->j<wd2 (zZ w k)->T2 k i j%p=mM p (wd2<|zZ w k) (mM p (wd2<|z9 w k) (A2<|z9 w k)<|S2 k) (B2<|zZ w k) i j)
 (H:Du p m w wd1 wd2 S1 S2 c E):Du p m w wd1 wd2 T1 T2 c λs r=>mM p (wd1 r) (mM p (wd2 r) (A2 r)<|E s r) (B1 r):=by
 have U:0<p:=by omega
 have F:∀{wd:UX} {T S A B:UW},(∀r,r<=m->Ja p (wd r) (B r) (A r))->(∀k,k<m->∀i j,i<wd (z9 w k)->j<wd (zZ w k)->T k i j%p=mM p (wd<|zZ w k) (mM p (wd<|z9 w k) (A<|z9 w k)<|S k) (B<|zZ w k) i j)->∀k,k<m->∀i j,i<wd (z9 w k)->j<wd (zZ w k)->S k i j%p=mM p (wd<|zZ w k) (mM p (wd<|z9 w k) (B<|z9 w k)<|T k) (A<|zZ w k) i j:=λ{wd T S A B} u e k Y i j d O=>by rw[<-Zj (h:=S k) two (u _<|XB (w:=w) Y) (u _<|XG (w:=w) Y) d O];refine qd (λx M=>?_) λ_ _=>rfl;refine FF _ λy N=>?_;rw[e k Y y x N M,oN U]
 refine⟨λs o=>aH two J L Z e2<|H.Pz s o,λh K=>?_,λt C s o=>?_⟩
 ·have G:=aH (A1:=B1) (B1:=A1) (A2:=B2) (B2:=A2) two v1 v2 (F J Z) (F L e2) K
  obtain⟨t,C⟩:=H.span _ G;refine⟨t,λr I i j d O=>?_⟩;rw[<-Zj (h:=h r) two (v2 r I) (v1 r I) d O,af U (t:=t) (E:=λs=>E s r) (c:=c) λa b f n=>C r I a b f n]
 ·refine H.ind t (λr I i j d O=>?_) s o
  have z:∀s,mM p (wd1 r) (mM p (wd2 r) (B2 r)<|mM p (wd1 r) (mM p (wd2 r) (A2 r)<|E s r)<|B1 r) (A1 r) i j=E s r i j%p:=λs=>Zj (h:=E s r) two (L r I) (J r I) d O;have l:=af (n1:=wd1 r) (n2:=wd2 r) (X:=λ_ _=>0) U (t:=t) (E:=λs=>mM p (wd1 r) (mM p (wd2 r) (A2 r)<|E s r)<|B1 r) (c:=c) (λa b f n=>(C r I a b f n).symm) (B2 r) (A1 r) i j;rw[zA (g:=λs=>t s*(E s r i j%p)) λs _=>by rw[z s],Vy]at l;rw[<-l];have P:∀x,mM p (wd2 r) (B2 r) (λ_ _=>0) i x=0:=λx=>by unfold mM;rw[zA (g:=λ_=>0) λk _=>NJ _,zT];rfl
  unfold mM;rw[zA (g:=λ_=>0) λk _=>by have:=P k;unfold mM at this;rw[this,Int.zero_mul],zT]
  rfl
end
structure E7(p:Int)(m:Nat)(w:UK)(wd:UX)(K:List (Int×Int))(T F G:UW):Prop where
 pp:g_ p m w wd K T F G
 st:∀b∈K,yP ((m+1:Nat):Int) b
 br:∀r,r<=m->pf K r=wd r
 le:K.length<=48
theorem gp{p:Int}{m:Nat}{w:UK}{wd1 wd2:UX}{K1 K2:List (Int×Int)}{T1 z L T2 J Z:UW}(hp:Pr p)(I:E7 p m w wd1 K1 T1 z L)(O:E7 p m w wd2 K2 T2 J Z):∃(c:Nat) (E:Nat->Nat->Nat->Nat->Int),(c:Int)=kQ (K1.map λb=>kQ<|K2.map λc=>mu w b c)/\Du p m w wd1 wd2 T1 T2 c E:=by
 have two:=hp.two;refine⟨_,_,bI,Du.I' (S1:=r6 w K1) (S2:=r6 w K2) (A1:=z) (B1:=L) (A2:=J) (B2:=Z) two (λr U=>(I.pp.pr r ⋯).gf) (λr U=>(O.pp.pr r ⋯).gf) (λr U=>(I.pp.pr r ⋯).fg) (λr U=>(O.pp.pr r ⋯).fg) (λk Y i j a d=>?_) (λk Y i j a d=>?_)<|(gu (p:=p) (w:=w) I.st O.st).wd I.br O.br⟩
 ·rw[LK (I.pp.rg k i j).1 (I.pp.rg k i j).2]
  exact I.pp.et k Y i j a d
 ·rw[LK (O.pp.rg k i j).1 (O.pp.rg k i j).2]
  exact O.pp.et k Y i j a d
theorem cF{n:Nat}{u v:Nat->Int}(h:∀x,x<n->u x=v x):zG n u=zG n v:=by unfold zG;exact Lf λx a=>by rw[h x (IC.mp a)]
section
variable{p:Int}{m:Nat}{w:UK}{wd1 wd2:UX}{T1 T2:UW}{h h':UW}
theorem A3.ext(e:∀r,r<=m->∀i j,i<wd2 r->j<wd1 r->h r i j=h' r i j)(H:A3 p m w wd1 wd2 T1 T2 h):A3 p m w wd1 wd2 T1 T2 h':=λk I i j a U=>by have Y:=XB (w:=w) I;have b:=XG (w:=w) I;rw[qd (f':=h<|z9 w k) (g':=T1 k) (λt O=>(e _ Y i t a O).symm) λ_ _=>rfl,qd (f':=T2 k) (g':=h<|zZ w k) (λ_ _=>rfl) λt O=>(e _ b t j O U).symm];exact H k I i j a U
theorem Br{r i j:Nat}(O:r<=m)(z:i<wd2 r)(I:j<wd1 r)(h:UW):kH wd2 wd1 (u7 wd2 wd1 h<|m+1) r i j=h r i j:=Xd (T:=h) z I (m+1) ⋯
end
section
variable{p:Int}{m:Nat}{w:UK}{wd1 wd2:UX}{T1 T2 Q:UW}
theorem BZ(v:Nat->Int):B3 p (off (ft w wd2) (e9 w wd1) m) (off wd2 wd1<|m+1) (Vv p m w wd2 wd1 T2 T1) v↔A3 p m w wd1 wd2 T1 T2 (kH wd2 wd1 v):=by
 have b:∀{k i j:Nat},k<m->i<ft w wd2 k->j<e9 w wd1 k->(zm (λc=>Vv p m w wd2 wd1 T2 T1 (off (ft w wd2) (e9 w wd1) k+i*e9 w wd1 k+j) c*v c) (off wd2 wd1<|m+1)%p=0↔mM p (wd1<|z9 w k) (kH wd2 wd1 v<|z9 w k) (T1 k) i j=mM p (wd2<|zZ w k) (T2 k) (kH wd2 wd1 v<|zZ w k) i j):=λ{k i j} O a I=>by rw[mP v O a I];unfold oQ mM;rw[<-xv,<-qO,zA (f:=λt=>T1 k t j*kH wd2 wd1 v (z9 w k) i t) (g:=λt=>kH wd2 wd1 v (z9 w k) i t*T1 k t j) λt _=>Ms ..];exact⟨λz=>MM.mpr z,λz=>MM.mp z⟩
 constructor
 ·intro H k O i j a I
  rw[xv w wd2 k]at a;rw[qO w wd1 k]at I;exact(b O a I).mp (H _<|ig O a I)
 ·intro H e U
  obtain⟨k,i,j,O,a,I,rfl⟩:=sH _ _ U;exact(b O a I).mpr (H k O i j (by rw[xv w wd2 k];exact a)<|by rw[qO w wd1 k];exact I)
theorem FT{K1 K2:List (Int×Int)}{J Z L G2:UW}{q:Nat}{B:Nat->Vc}{l:UX}(z:Pr p)(P1:E7 p m w wd1 K1 T1 J Z)(P2:E7 p m w wd2 K2 T2 L G2)(hb:g9 p (off wd2 wd1<|m+1) q B l)(sp:∀v,Span p (off wd2 wd1<|m+1) (ef q B) v↔B3 p (off (ft w wd2) (e9 w wd1) m) (off wd2 wd1<|m+1) (Vv p m w wd2 wd1 T2 T1) v):
 (q:Int)=kQ (K1.map λb=>kQ<|K2.map λc=>mu w b c):=by
 obtain⟨c,E,f,H⟩:=gp z P1 P2;have:=Cu z hb (W:=λs=>u7 wd2 wd1 (E s)<|m+1) (m:=c) (λv=>?_) λt U s d=>?_
 ·omega
 ·constructor
  ·intro Y
   obtain⟨t,U⟩:=H.span _<|(BZ v).mp ((sp v).mp Y);refine(WG (m:=c) (λs=>u7 wd2 wd1 (E s)<|m+1) t).congr λx e=>?_;obtain⟨r,i,j,O,a,I,rfl⟩:=sH _ _ e;have:=U r ⋯ i j a I;rw[show kH wd2 wd1 v r i j=v (off wd2 wd1 r+i*wd1 r+j)from rfl]at this;rw[this];exact zQ λs _=>by rw[Xd (T:=E s) a I (m+1) O]
  ·intro Y
   refine Y.le ?_;rintro _ ⟨s,d,rfl⟩;exact(sp _).mpr ((BZ _).mpr ((H.Pz s d).ext λr O i j a I=>(Br O a I<|E s).symm))
 ·refine H.ind t (λr O i j a I=>?_) s d
  have:=U _<|ig (show r<m+1 by omega) a I;rw[<-this];exact zQ λs _=>by rw[Xd (T:=E s) a I (m+1) ⋯]
end
section
variable{p:Int}{m:Nat}{w:UK}{wd1 wd2:UX}{T1 T2 Q:UW}{hs ws:UX}{T:UW}
abbrev Ec(m:Nat)(wd1 wd2:UX)(u:Nat->Int):List D:=g7 (m+1) wd2 wd1 (kH wd2 wd1 u)
theorem aS(I:Pr p)(L:m<=4)(z:∀k,wd1 k<=9)(J:∀k,wd2 k<=9)(O:∀k i j,0<=T1 k i j/\T1 k i j<p)(hN:off wd2 wd1 (m+1)<=60)(Z:off (ft w wd2) (e9 w wd1) m<=100):
 ∃q B l,yJ [zO p m w wd1 T1,zO p m w wd2 T2]=cq (.own<|(IA q).map λs=>D.lst<|Ec m wd1 wd2<|B s)/\g9 p (off wd2 wd1<|m+1) q B l/\∀v,Span p (off wd2 wd1<|m+1) (ef q B) v↔B3 p (off (ft w wd2) (e9 w wd1) m) (off wd2 wd1<|m+1) (Vv p m w wd2 wd1 T2 T1) v:=by
 have y:=jj;have U:=I.pos;have C:=I.le;obtain⟨q,B,l,s,Y,h,t,_,eq⟩:=ZR (p:=p) I Z (show off wd2 wd1 (m+1)<=100 by omega)<|Vv p m w wd2 wd1 T2 T1;refine⟨q,B,l,?_,h,t⟩;have d:=(yp (p:=p) (w:=w) (wd:=wd1) (T:=T1) (wd':=wd2) (T':=T2)<|show m<=900 by omega).2;have b:=yA (p:=p) (w:=w) (wd:=wd2) (T:=T2) (wd':=wd1) (T':=T1) L;have o:=ki (hs:=wd2) (ws:=wd1) (n:=m+1) ⋯ (λk=>by have:=z k;omega);have g:=Kv (p:=p) (w:=w) (wd:=wd2) (wd':=wd1) (T:=T2) (T':=T1) U ⋯ L J z O ⋯ ⋯;have sq:=vU (p:=p) (m:=m) (w:=w) (wd:=wd1) (T:=T1);have x:∀u:Nat->Int,qg [.lst (h8 (m+1) wd2 wd1),.tup (zG (off wd2 wd1<|m+1) u)]=cq (.own<|Ec m wd1 wd2 u):=λu=>ZI ⋯ (λk=>by have:=J k;omega) (λk=>by have:=z k;omega) u rfl;have f:zY (.nm 0) jw (jG<|jg qg<|zb (zh 1)<|zb (zh 0) zF) [Cell.no,.val (.lst<|h8 (m+1) wd2 wd1)] (zX q (off wd2 wd1<|m+1) B)=cq ((IA q).map λs=>D.lst<|Ec m wd1 wd2<|B s):=by unfold zX;refine zC _ _ λs hs=>zB (γ1:=[.val (.tup<|zG (off wd2 wd1<|m+1)<|B s),.val (.lst<|h8 (m+1) wd2 wd1)]) rfl rfl ?_;simp[x]
 generalize zO p m w wd1 T1=R1 at *;generalize zO p m w wd2 T2=R2 at *;let S:=Cell.val<|.lst<|h8 (m+1) wd2 wd1;have A:¬((off wd2 wd1 (m+1):Int)>60):=by omega
 have r:(zX q (off wd2 wd1<|m+1) B).length<=lim:=by rw[show(zX q (off wd2 wd1<|m+1) B).length=q by simp[zX]];omega
 unfold yJ;refine je<|zu (γ':=[.val R1,.val R2,.no]) (by simp[z7,d])<|zu (γ':=[.val R1,.val R2,S]) (by simp[b,S])<|zu (γ':=[.val R1,.val R2,S]) ?_ ?_
 ·rw[vL,show sB (zI p7 (zE jS<|zb (zh 2) zF)<|zy<|.int 60) [.val R1,.val R2,S]=cq di by simp[S,o];omega]
  rfl
 ·have a:zR (jz<|jg kn<|zb (dj (zk 0)<|zy<|.int 0)<|zb (zE k7<|zb (zh 0)<|zb (zh 1) zF) zF) [.val R1,.val R2,S]=cq (zX q (off wd2 wd1<|m+1) B):=by
   simp[sq,hH,g,Y]
  show((zU _ _ _ _ _ _ [Cell.val R1,.val R2,S]).map λe=>Fl.ret<|.own e)=_;rw[qm,a,IF,UJ r,show jk 1 [2] [Cell.val R1,.val R2,S]=[Cell.no,S]from rfl,f];rfl
end
section
variable{p q:Int}{m m':Nat}{w w':UK}{wd wd':UX}{T T':UW}{R1 R2:D}
theorem V2:xC [.exc "Unlike" none]=cq (.own [.str "unlike"]):=by kernel_rfl
theorem fT:xC [.exc "TooMany" none]=cq (.own [.str "many"]):=by kernel_rfl
theorem pB:zN=jq 6 (zS (jr 3<|zy .d7)<|zS (jr 4<|zy .d7)<|zS L0<|zS O4 Tc):=rfl
theorem ik{z:Int}{J:Str}{I:D}(O:pC [.val R1,.val R2,.val<|.int z,.val .d7,.val .d7,.no]=cq (J,none))
 (U:xC [.exc J none]=cq (.own [I])):zN [R1,R2,.int z]=cq (.val<|.tup [.lst [I],.d7]):=by
 have Y:=jj;have a:2<=lim:=by omega
 have b:L0 [.val R1,.val R2,.val<|.int z,.val .d7,.val .d7,.no]=cq (.next [.val R1,.val R2,.val<|.int z,.val<|.exc J none,.val .d7,.no]):=by unfold L0 dH;rw[O];rfl
 rw[pB];refine je<|zu (γ':=[.val R1,.val R2,.val<|.int z,.val .d7,.no,.no]) rfl<|zu (γ':=[.val R1,.val R2,.val<|.int z,.val .d7,.val .d7,.no]) rfl<|zu b ?_;have t:O4 [.val R1,.val R2,.val<|.int z,.val<|.exc J none,.val .d7,.no]=cq (.ret<|.val<|.tup [.lst [I],.d7]):=by unfold O4;rw[vL,show sB (zI QA (zh 3)<|zy .d7) [.val R1,.val R2,.val<|.int z,.val<|.exc J none,.val .d7,.no]=cq da from rfl];simp[U,a]
 unfold zS;rw[t];rfl
theorem Wh{z:Int}{d:D}(I:pC [.val R1,.val R2,.val<|.int z,.val .d7,.val .d7,.no]=none)
 (O:CJ [.val R1,.val R2,.val<|.int z,.val .d7,.val .d7,.no]=cq (.next [.val R1,.val R2,.val<|.int z,.val .d7,.val d,.no])):zN [R1,R2,.int z]=cq (.val<|.tup [.lst [],d]):=by
 have U:=jj;have a:2<=lim:=by omega
 have b:L0 [.val R1,.val R2,.val<|.int z,.val .d7,.val .d7,.no]=cq (.next [.val R1,.val R2,.val<|.int z,.val .d7,.val d,.no]):=by unfold L0 dH;rw[I];exact O
 rw[pB];refine je<|zu (γ':=[.val R1,.val R2,.val<|.int z,.val .d7,.no,.no]) rfl<|zu (γ':=[.val R1,.val R2,.val<|.int z,.val .d7,.val .d7,.no]) rfl<|zu b<|zu (γ':=[.val R1,.val R2,.val<|.int z,.val .d7,.val d,.no]) ?_ ?_
 ·unfold O4
  rw[vL,show sB (zI QA (zh 3)<|zy .d7) [.val R1,.val R2,.val<|.int z,.val .d7,.val d,.no]=cq di from rfl];rfl
 ·simp[Tc,a]
theorem Vp(J:m<=900)(I:m'<=900)(h:¬(p=q/\KR m m' w w')){z:Int}(hz:z=0\/z=1\/z=2):zN [zO p m w wd T,zO q m' w' wd' T',.int z]=cq (.val (.tup [.lst [.str "unlike"],.d7])):=by
 have g:=Vr (p:=p) (p':=q) (w:=w) (w':=w') (wd:=wd) (T:=T) (wd':=wd') (T':=T') J I h;have a:qR [zO p m w wd T,zO q m' w' wd' T']=cq ((("Unlike" : Str),none):Xn):=by simp[qR,WO,z7,nM,yb,g]
 have O:qZ [zO p m w wd T,zO q m' w' wd' T']=cq ((("Unlike" : Str),none):Xn):=by simp[qZ,WO,z7,yb,g]
 have g2:ZF [zO p m w wd T,zO q m' w' wd' T']=cq ((("Unlike" : Str),none):Xn):=by simp[ZF,WO,z7,yb,g]
 refine ik ?_ V2;rcases hz with rfl|rfl|rfl<;>simp[pC,wb,yb,a,O,g2]
end
theorem oI{hs ws:UX}{a b:Nat}(z:∀k,hs k<=a)(h2:∀k,ws k<=b):∀n,off hs ws n<=n*(a*b)
 |0=>Mr _
 |n+1=>by have:=oI z h2 n;have:=Nat.mul_le_mul (z n)<|h2 n;show off hs ws n+hs n*ws n<=_;rw[OT];omega
noncomputable def BY(w:UK)(a:Nat):Int:=if w (a-1)=da then (a:Int)else -(a:Int)
noncomputable def BW(w:UK)(m b:Nat):Int:=if w b=da then (b:Int)-m else (m:Int)-b
theorem BM{w:UK}{a c:Nat}(h:C1 w a c=da):a=c\/BY w a<BY w c:=by
 by_cases q:a=c
 ·exact .inl q
 ·right
  unfold C1 at h;simp only[q,decide_false,NV,beq_iff_eq]at h;unfold BY;by_cases l:a<c
  ·rw[show max a c=c by omega,decide_eq_true l]at h
   rw[UJ h];split<;>omega
  ·rw[show max a c=a by omega,decide_eq_false l]at h
   rw[UY (by rw[h];decide)];split<;>omega
theorem AC{w:UK}{m b d:Nat}(I:b<=m)(z:d<=m)(h:C6 w b d=da):b=d\/BW w m b<BW w m d:=by
 by_cases q:b=d
 ·exact .inl q
 ·right
  unfold C6 at h;simp only[q,decide_false,NV,beq_iff_eq]at h;unfold BW;by_cases l:b<d
  ·rw[show min b d=b by omega]at h
   rw[h];simp only[l,decide_true,if_true];split<;>omega
  ·rw[show min b d=d by omega]at h
   rw[h];simp only[l,decide_false];simp;split<;>omega
noncomputable def Vu(w:UK)(m:Nat)(b:Int×Int):Int:=BY w b.1.toNat+BW w m b.2.toNat
theorem CB{w:UK}{m:Nat}{b c:Int×Int}(I:yP ((m+1:Nat):Int) b)(O:yP ((m+1:Nat):Int) c)(h:mu w b c≠0):b=c\/Vu w m b<Vu w m c:=by
 obtain⟨d,e,f⟩:=I;obtain⟨U,Y,g⟩:=O;have a:r9 w b.1.toNat b.2.toNat c.1.toNat c.2.toNat=da:=by
  unfold mu at h;by_cases q:r9 w b.1.toNat b.2.toNat c.1.toNat c.2.toNat=da
  ·exact q
  ·rw[UY q]at h;exact absurd rfl h
 unfold r9 at a;simp only[IK]at a;have l:=BM a.2.1;have r:=AC (m:=m) ⋯ ⋯ a.2.2;unfold Vu;rcases l with l|l<;>rcases r with r|r
 ·left
  refine Prod.ext ?_ ?_<;>omega
 ·rw[l];right;omega
 ·rw[r];right;omega
 ·right;omega
theorem uy{w:UK}{n:Int}{b:Int×Int}(I:yP n b):mu w b b=1:=by obtain⟨a,d,O⟩:=I;unfold mu r9 C1 C6;rw[UJ];simp;omega
theorem Zy{w:UK}{m:Nat}{c:Int×Int}(I:yP ((m+1:Nat):Int) c):∀bs:List (Int×Int),(∀b∈bs,yP ((m+1:Nat):Int) b)->kQ (bs.map λb=>mu w b c)=(bs.count c:Int)+kQ ((bs.filter λb=>decide<|Vu w m b<Vu w m c).map λb=>mu w b c)
 |[],_=>rfl
 | b::bs,h=>by
  have U:=Zy (w:=w) I bs λx d=>h x<|Ld _ d;have O:=h b La;rw[Lk];show mu w b c+kQ (bs.map λb=>mu w b c)=_;rw[U];by_cases e:b=c
  ·subst e
   rw[List.filter_cons_of_neg ⋯,uy O,List.count_cons_self];omega
  ·rw[List.count_cons_of_ne e]
   by_cases k:Vu w m b<Vu w m c
   ·rw[List.filter_cons_of_pos (by simpa using k)]
    show _=_+(mu w b c+kQ _);omega
   ·rw[List.filter_cons_of_neg (by simpa using k)]
    have z:mu w b c=0:=Decidable.byContradiction λa=>(CB O I a).elim e k;omega
theorem Ae{w:UK}{m:Nat}{z J:List (Int×Int)}(h1:∀b∈z,yP ((m+1:Nat):Int) b)(L:∀b∈J,yP ((m+1:Nat):Int) b)
 (e:∀c,yP ((m+1:Nat):Int) c->kQ (z.map λb=>mu w b c)=kQ (J.map λb=>mu w b c)):z.Perm J:=by
 have d:∀(n:Nat) (c:Int×Int),(Vu w m c+100+4*m).toNat<n->z.count c=J.count c:=by
  intro n
  induction n with
  |zero=>intro c h;omega
  | succ n U=>
   intro c j;by_cases a:yP ((m+1:Nat):Int) c
   ·have l:=Zy (w:=w) a z h1
    have o:=Zy (w:=w) a J L;have lo:∀b,yP ((m+1:Nat):Int) b->0<=Vu w m b+100+4*m:=λb I=>by obtain⟨f,g,i⟩:=I;unfold Vu BY BW;split<;>split<;>omega
    have Y:(z.filter λb=>decide<|Vu w m b<Vu w m c).Perm (J.filter λb=>decide<|Vu w m b<Vu w m c):=by
     rw[Ra];intro b;by_cases k:Vu w m b<Vu w m c
     ·rw[List.count_filter (by simpa using k),List.count_filter (by simpa using k)]
      by_cases O:yP ((m+1:Nat):Int) b
      ·have:=lo b O
       exact U b ⋯
      ·rw[LP λI=>O<|h1 b I,LP λI=>O (L b I)]
     ·rw[LP (by simp[k]),LP (by simp[k])]
    have:=Yf<|Y.map λb=>mu w b c;have:=e c a;omega
   ·rw[LP λI=>a<|h1 c I,LP λI=>a (L c I)]
 rw[Ra];exact λc=>d _ c<|Mv _
abbrev zP(s:Nat×Nat):Int×Int:=((s.1:Int),(s.2:Int))
theorem Cq(x b:Int×Int):hB (.tup [.int x.1,.int x.2]) (.tup [.int b.1,.int b.2])=(x==b):=by rw[Xz,NW];simp[Prod.ext_iff]
theorem aJ(b:Int×Int):∀bs:List (Int×Int),((jc bs).countP λd=>hB d<|.tup [.int b.1,.int b.2])=bs.count b
 |[]=>rfl
 |x::bs=>by have I:=aJ b bs;show((D.tup [.int x.1,.int x.2]::jc bs).countP _)=_;rw[List.countP_cons,List.count_cons,I];rw[Cq x b]
theorem Jo{γ:Ctx}{g:CO (Sk×List D)}{f:CO D}{bs:List (Int×Int)}{b:Int×Int}(z:g γ=cq (.L,jc bs))(I:f γ=cq (.tup [.int b.1,.int b.2])):xJ g f γ=cq (.int (bs.count b:Nat)):=by unfold xJ;rw[z,I];show(if l8 (.tup [.int b.1,.int b.2])=da/\m3 (jc bs)=da then cq (D.int ((jc bs).countP λd=>hB d (.tup [.int b.1,.int b.2]):Nat))else none)=_;rw[UJ ⟨rfl,YJ bs⟩,aJ]
noncomputable def pv(z I:List (Int×Int))(s:Nat×Nat):Bool:=decide<|z.count (zP s)≠I.count (zP s)
section
variable{m:Nat}{w:UK}{gm g4:List (Int×Int)}
theorem Y3{P:Nat×Nat->Bool}{g:Nat×Nat->D}{L:List (Nat×Nat)}{s:Nat×Nat}(h:L.find? P=cq s):((hH ((L.filter P).map g).length 0).bind λk=>((L.filter P).map g)[k]?)=cq (g s):=by
 rw[<-List.head?_filter]at h;obtain⟨t,e⟩:∃t,L.filter P=s::t:=by
  cases q:L.filter P with
  |nil=>rw[q]at h;cases h
  |cons a t=>rw[q]at h;cases h;exact⟨t,rfl⟩
 rw[e];simp[hH]
noncomputable def iU(w:UK)(gm g4:List (Int×Int))(s:Nat×Nat):Bool:=decide<|kQ (gm.map λb=>mu w b<|zP s)≠kQ (g4.map λb=>mu w b<|zP s)
noncomputable def Ij(gm g4:List (Int×Int))(s t:Nat×Nat):D:=.tup [.str "apart",kD s,.int (gm.count (zP s):Nat),.int (g4.count (zP s):Nat),kD t]
theorem nT{M:Nat}{s:Nat×Nat}(h:s∈stN M):yP (M:Int) (zP s):=by obtain⟨a,b⟩:=UL.mp h;exact⟨by show(0:Int)<=(s.1:Int);omega,by show(s.1:Int)<=(s.2:Int);omega,by show(s.2:Int)<_;omega⟩
theorem uO:QK=jq 6 (zS (jr 3 (jG (jg qk (zb (zI qu (vJ (zh 0)) (zy (.int 1))) zF)))) (zS (jr 4 (dj (jz (zU (zR (zk 3)) (.nm 0) 1 [1,2] CY (zh 0))) (zy (.int 0)))) (zS (jr 5 (dj (jz (zU (zR (zk 3)) (.nm 0) 1 [0,1,2] CV (zh 0))) (zy (.int 0)))) (qt (xF (zb (zy (.str "apart")) (zb (zh 4) (zb (xJ (zk 1) (zh 4)) (zb (xJ (zk 2) (zh 4)) (zb (zh 5) zF)))))))))):=rfl
theorem pX(z:m<=5)(J:∀b∈gm,yP ((m+1:Nat):Int) b)(L:∀b∈g4,yP ((m+1:Nat):Int) b)(O:gm.length<=lim)(Y:g4.length<=lim){s:Nat×Nat}(hs:s∈stN (m+1)):qN [.str (jN m w),.lst<|jc gm,.lst<|jc g4,kD s]=cq (.val<|.bl<|iU w gm g4 s):=by
 have a:qf [.str (jN m w),.lst<|jc gm,kD s]=cq (.val<|.int<|kQ<|gm.map λb=>mu w b<|zP s):=V5 (w:=w) (c:=zP s) z J O<|nT hs;have I:qf [.str (jN m w),.lst<|jc g4,kD s]=cq (.val<|.int<|kQ<|g4.map λb=>mu w b<|zP s):=V5 (w:=w) (c:=zP s) z L Y<|nT hs;unfold qN;refine je ?_;show qt _ [.val (.str<|jN m w),.val<|.lst<|jc gm,.val<|.lst<|jc g4,.val (kD s)]=_;unfold iU;by_cases q:kQ (gm.map λb=>mu w b<|zP s)=kQ (g4.map λb=>mu w b<|zP s)
 ·simp[a,I,q]
 ·simp[a,I,q]
theorem uF(L:m<=5)(z:∀b∈gm,yP ((m+1:Nat):Int) b)(J:∀b∈g4,yP ((m+1:Nat):Int) b)(l1:gm.length<=lim)(l2:g4.length<=lim){s t:Nat×Nat}(hs:(stN<|m+1).find? (pv gm g4)=cq s)(Z:(stN<|m+1).find? (iU w gm g4)=cq t):
 QK [.str (jN m w),.lst<|jc gm,.lst (jc g4)]=cq (.val<|Ij gm g4 s t):=by
 have u:=jj;have U:=Ff ⟨m+1,by omega⟩;have r:=(iX ⟨m+1,by omega⟩).2.2;dsimp only at U r;have Y:((stN<|m+1).map kD).length<=lim:=by rw[Lc];omega
 let γ:Cell->Cell->Cell->Ctx:=λg h i=>[.val (.str<|jN m w),.val<|.lst<|jc gm,.val<|.lst<|jc g4,g,h,i];let S:=Cell.val<|.lst<|(stN<|m+1).map kD;have l:jr 3 (jG<|jg qk<|zb (zI qu (vJ<|zh 0)<|zy<|.int 1) zF) (γ .no .no .no)=cq (.next<|γ S .no .no):=by
  have f:qk [.int ((m:Int)+1)]=cq (.own<|(stN<|m+1).map kD):=by rw[<-U];rfl
  have p:=yc (m:=m) w ⋯;simp[γ,S,Jc,f,p]
 have n:jr 4 (dj (jz<|zU (zR<|zk 3) (.nm 0) 1 [1,2] CY (zh 0))<|zy<|.int 0) (γ S .no .no)=cq (.next<|γ S (.val<|kD s) .no):=by
  have a:zY (.nm 0) CY (zh 0) [Cell.no,.val<|.lst<|jc gm,.val (.lst<|jc g4)] ((stN<|m+1).map kD)=cq (((stN<|m+1).filter (pv gm g4)).map kD):=jt _ _ _ λx d=>⟨[.val (kD x),.val<|.lst<|jc gm,.val (.lst<|jc g4)],rfl,by
   have I:xJ (zk 1) (zh 0) [.val (kD x),.val<|.lst<|jc gm,.val (.lst<|jc g4)]=cq (.int (gm.count (zP x):Nat)):=Jo rfl rfl;have O:xJ (zk 2) (zh 0) [.val (kD x),.val<|.lst<|jc gm,.val (.lst<|jc g4)]=cq (.int (g4.count (zP x):Nat)):=Jo rfl rfl;unfold CY pv;rw[GN,aN,I,O];by_cases q:gm.count (zP x)=g4.count (zP x)
   ·simp[q]
   ·have j:¬((gm.count (zP x):Nat):Int)=((g4.count (zP x):Nat):Int):=by omega
    simp[q,j],λ_=>rfl⟩
  rw[xY,wX,wc,qm,show zR (zk 3) (γ S .no .no)=cq ((stN<|m+1).map kD)from rfl,IF,UJ Y,show jk 1 [1,2] (γ S .no .no)=[Cell.no,.val<|.lst<|jc gm,.val (.lst<|jc g4)]from rfl,a];show OS _ ((hH (((stN<|m+1).filter (pv gm g4)).map kD).length 0).bind λk=>(((stN<|m+1).filter (pv gm g4)).map kD)[k]?)=_;rw[Y3 hs];rfl
 have o:jr 5 (dj (jz<|zU (zR<|zk 3) (.nm 0) 1 [0,1,2] CV (zh 0))<|zy<|.int 0) (γ S (.val<|kD s) .no)=cq (.next<|γ S (.val<|kD s)<|.val<|kD t):=by
  have a:zY (.nm 0) CV (zh 0) [Cell.no,.val<|.str<|jN m w,.val<|.lst<|jc gm,.val (.lst<|jc g4)] ((stN<|m+1).map kD)=cq (((stN<|m+1).filter (iU w gm g4)).map kD):=jt _ _ _ λx d=>⟨[.val (kD x),.val<|.str<|jN m w,.val<|.lst<|jc gm,.val (.lst<|jc g4)],rfl,by
   have e:=pX (w:=w) L z J l1 l2 d;simp[CV,e],λ_=>rfl⟩
  rw[xY,wX,wc,qm,show zR (zk 3) (γ S (.val<|kD s) .no)=cq ((stN<|m+1).map kD)from rfl,IF,UJ Y,show jk 1 [0,1,2] (γ S (.val<|kD s) .no)=[Cell.no,.val<|.str<|jN m w,.val<|.lst<|jc gm,.val (.lst<|jc g4)]from rfl,a];show OS _ ((hH (((stN<|m+1).filter (iU w gm g4)).map kD).length 0).bind λk=>(((stN<|m+1).filter (iU w gm g4)).map kD)[k]?)=_;rw[Y3 Z];rfl
 rw[uO];refine je<|zu (γ':=γ S .no .no) l<|zu n<|zu o ?_;have I:xJ (zk 1) (zh 4) (γ S (.val<|kD s)<|.val<|kD t)=cq (.int (gm.count (zP s):Nat)):=Jo rfl rfl;have O:xJ (zk 2) (zh 4) (γ S (.val<|kD s)<|.val<|kD t)=cq (.int (g4.count (zP s):Nat)):=Jo rfl rfl;rw[ZP,Vq,jM,jM,jM,jM,jM,kN,I,O];rfl
end
theorem JE{F G:CO Fl}{γ:Ctx}{r:Res}(e:F γ=cq (.ret r)):zS F G γ=cq (.ret r):=by rw[jO,e];rfl
section
variable{p:Int}{m:Nat}{w:UK}{bs gm g4:List (Int×Int)}
theorem oJ{c:Int×Int}(h:yP ((m+1:Nat):Int) c):∃s,s∈stN (m+1)/\zP s=c:=by
 obtain⟨a,b,I⟩:=h;refine⟨(c.1.toNat,c.2.toNat),UL.mpr ⟨by dsimp only;omega,by dsimp only;omega⟩,?_⟩;refine Prod.ext ?_ ?_
 ·show((c.1.toNat:Nat):Int)=c.1;omega
 ·show((c.2.toNat:Nat):Int)=c.2;omega
theorem uf(h1:∀b∈gm,yP ((m+1:Nat):Int) b)(z:∀b∈g4,yP ((m+1:Nat):Int) b)(O:¬gm.Perm g4):(∃s,(stN<|m+1).find? (pv gm g4)=cq s)/\∃t,(stN<|m+1).find? (iU w gm g4)=cq t:=by
 constructor
 ·cases q:(stN<|m+1).find? (pv gm g4)with
  |some s=>exact⟨s,rfl⟩
  | none=>
   refine absurd (Ra.mpr λc=>?_) O;by_cases a:yP ((m+1:Nat):Int) c
   ·obtain⟨s,d,rfl⟩:=oJ a
    have:=Rt.mp q s d;simpa[pv]using this
   ·rw[LP λI=>a<|h1 c I,LP λI=>a (z c I)]
 ·cases q:(stN<|m+1).find? (iU w gm g4)with
  |some s=>exact⟨s,rfl⟩
  |none=>
   refine absurd (Ae (w:=w) h1 z λc a=>?_) O;obtain⟨s,d,rfl⟩:=oJ a;have:=Rt.mp q s d;simpa[iU]using this
end
section
variable{p:Int}{m:Nat}{w:UK}{wd wd1 wd2:UX}{T1 T2 F1 G1 F2 G2:UW}{K1 K2 gm g4:List (Int×Int)}
theorem uL(L:m<=5)(z:jQ [zO p m w wd1 T1]=cq (.val<|xW K1 (kR m wd1 G1)<|kR m wd1 F1))(U:jQ [zO p m w wd2 T2]=cq (.val<|xW K2 (kR m wd2 G2)<|kR m wd2 F2))(J:K1≠K2){d:D}(Y:QK [.str (jN m w),.lst<|jc K1,.lst (jc K2)]=cq (.val d)):
 we [zO p m w wd1 T1,zO p m w wd2 T2]=cq (.val d):=by
 have a:=(yp (p:=p) (w:=w) (wd:=wd1) (T:=T1) (wd':=wd2) (T':=T2)<|show m<=900 by omega).2;have e:=xZ (p:=p) (w:=w) (wd:=wd1) (T:=T1) (show m<=900 by omega);unfold xW at z U;generalize zO p m w wd1 T1=R1 at *;generalize zO p m w wd2 T2=R2 at *;have b:l5 (.lst<|jc K1) (.lst<|jc K2)=cq (.bl da):=by unfold l5;rw[UJ ⟨Zu _,Zu _⟩];have:=Ve K1 K2;show cq (D.bl<|!sk (jc K1) (jc K2))=_;rw[this,decide_eq_false J];rfl
 unfold we;generalize (kR m wd1 G1)=X1 at *;generalize (kR m wd1 F1)=Y1 at *;generalize (kR m wd2 G2)=X2 at *;generalize (kR m wd2 F2)=Y2 at *;let I:D:=.tup [.lst (jc K1),.lst<|X1.map tD,.lst (Y1.map tD)];let O:D:=.tup [.lst (jc K2),.lst<|X2.map tD,.lst (Y2.map tD)];refine je<|zu (γ':=[.val R1,.val R2,.no,.no,.no,.no]) (by simp[z7,a])<|zu (γ':=[.val R1,.val R2,.val I,.no,.no,.no]) (by simp[z,I])<|zu (γ':=[.val R1,.val R2,.val I,.val O,.no,.no]) (by simp[U,O])<|JE ?_;simp[I,O,hH,b,e,Y]
end
section
variable{p:Int}{m:Nat}{w:UK}{wd wd1 wd2:UX}{T T1 T2:UW}{K K1 K2:List (Int×Int)}{F1 G1 F2 G2:UW}
noncomputable def C4(m:Nat)(wd:UX)(k:Nat):Nat:=if k<=m then wd k else 0
theorem fu(J:Pr p)(L:∀k,wd k<=8)(Z:m<=5)(z:∀k i j,0<=T k i j/\T k i j<p):∃K F G,E7 p m w wd K T F G/\ZT K=K:=by
 obtain⟨O,a,g,H,U,cnt,h,o,u⟩:=ic (T:=T) (w:=w) J L Z λk i j _ _ _=>z k i j;have A:∀j,j<O->1<=(a j).n:=λj I=>(U j I).n1;have d:∀r,r<=m->pf (Zx a O) r=wd r:=λr Y=>by unfold pf;rw[yk A,cnt _ Y]
 refine⟨Zx a O,λr=>qQ a O r,g,⟨⟨λr Y=>?_,u,λk f i j e I=>?_,z⟩,λb l=>?_,d,by unfold Zx;rw[Lc,Md];omega⟩,o⟩
 ·obtain⟨B,C,E⟩:=h r ⋯
  refine⟨λi j e I=>?_,λi j _ _=>E i j,B,C⟩;have t:j<(l6 a O r).length:=by rw[cnt r ⋯];exact I
  obtain⟨x,y⟩:=V3 t;exact(U _ x).m9 r i y e
 ·rw[nJ J U cnt (λr Y=>(h r Y).1) f e I (z k i j),iR,d _<|XG f,d _ (XB f)]
 ·unfold Zx at l
  obtain⟨j,I,rfl⟩:=Lv.mp l;have:=(U j<|IC.mp I).n1;have:=(U j<|IC.mp I).le;exact⟨by show(0:Int)<=((a j).s:Int);omega,by show((a j).s:Int)<=(((a j).s+(a j).n-1:Nat):Int);omega,by show(((a j).s+(a j).n-1:Nat):Int)<_;omega⟩
end
section
variable{p:Int}{m:Nat}{w:UK}{wd wd1 wd2:UX}{T T1 T2:UW}{K1 K2:List (Int×Int)}{F1 G1 F2 G2:UW}
theorem oK:zO p m w wd T=zO p m w (C4 m wd) T:=by
 unfold zO;have a:(zG (m+1) λk=>(wd k:Int))=zG (m+1) λk=>(C4 m wd k:Int):=cF λx b=>by unfold C4;rw[UJ ⋯]
 have O:jY m w wd T=jY m w (C4 m wd) T:=by unfold jY;refine Lf λk I=>?_;have I:=IC.mp I;unfold vk;rw[<-xv,<-qO,<-xv,<-qO];unfold C4;rw[UJ (XB I),UJ (XG I)]
 rw[a,O]
theorem uN(L:Pr p)(hm:m<=3)(Z:∀k,wd1 k<=6)(z1:∀k,m<k->wd1 k=0)(z2:∀k,m<k->wd2 k=0)(I:E7 p m w wd1 K1 T1 F1 G1)(z:ZT K1=K1)(O:E7 p m w wd2 K2 T2 F2 G2)(J:ZT K2=K2):∃d,we [zO p m w wd1 T1,zO p m w wd2 T2]=cq (.val d):=by
 have o:=jj;have n:=I.le;have md:=O.le;by_cases e:K1=K2
 ·have b:wd1=wd2:=by
   funext k;by_cases q:k<=m
   ·rw[<-I.br k q,<-O.br k q,e]
   ·rw[z1 k ⋯,z2 k ⋯]
  subst b e;exact⟨_,uM L.pos L.le (show m<=50 by omega) (λk=>by have:=Z k;omega) (λk i j U a Y=>(I.pp.pr k U).bg i j a Y) (λk i j U a Y=>(O.pp.pr k U).bg i j a Y) I.pp.eb O.pp.eb⟩
 ·have h:¬K1.Perm K2:=λl=>e (by rw[<-z,<-J,JB l])
  obtain⟨⟨s,f⟩,t,g⟩:=uf (w:=w) I.st O.st h;exact⟨_,uL (show m<=5 by omega) I.pp.eb O.pp.eb e<|uF (w:=w) (show m<=5 by omega) I.st O.st ⋯ ⋯ f g⟩
theorem iB(J:m<=3)(z:∀k,wd1 k<=6):qR [zO p m w wd1 T1,zO p m w wd2 T2]=if 60<off wd2 wd1 (m+1)then cq (("TooMany" : Str),none)else none:=by
 obtain⟨I,O⟩:=yp (p:=p) (w:=w) (wd:=wd1) (T:=T1) (wd':=wd2) (T':=T2) (show m<=900 by omega);have U:=yA (p:=p) (w:=w) (wd:=wd2) (T:=T2) (wd':=wd1) (T':=T1) (show m<=4 by omega);have Y:=ki (hs:=wd2) (ws:=wd1) (n:=m+1) ⋯ (λk=>by have:=z k;omega);generalize zO p m w wd1 T1=R1 at *;generalize zO p m w wd2 T2=R2 at *;by_cases g:60<off wd2 wd1 (m+1)
 ·rw[UJ g]
  have a:(60:Int)<(off wd2 wd1 (m+1):Int):=by omega
  simp[qR,WO,z7,iu,pD,yb,D5,pH,IE,I,O,U,Y,a]
 ·rw[UY g]
  have a:¬(60:Int)<(off wd2 wd1 (m+1):Int):=by omega
  simp[qR,WO,z7,iu,pD,yb,D5,pH,IE,I,O,U,Y,a]
noncomputable def Cw:CO Bool:=sB<|zI p7 (iH<|jz<|zU (QR (dj (zk 0)<|zy<|.int 1)<|dj (zk 1)<|zy<|.int 1) (.tp [0,1]) 2 [] jw (zI yw (zh 0)<|zh 1))<|zy<|.int 60
theorem YK:∀n,((off wd2 wd1 n:Nat):Int)=zm (λk=>(wd1 k:Int)*(wd2 k:Int)) n
 |0=>rfl
 |n+1=>by show((off wd2 wd1 n+wd2 n*wd1 n:Nat):Int)=zm _ n+_;rw[<-YK n,OI,NX,Ms]
theorem Cy(L:m<=3)(z:∀k,wd1 k<=6)(J:∀k,wd2 k<=6)(A0 A1 A2:D):Cw [.val (zO p m w wd1 T1),.val<|zO p m w wd2 T2,.val A0,.val A1,.val A2]=cq (decide<|60<off wd2 wd1 (m+1)):=by
 have i:=jj;have f:m+1<=lim:=by omega
 have d:=vU (p:=p) (m:=m) (w:=w) (wd:=wd1) (T:=T1);have e:=vU (p:=p) (m:=m) (w:=w) (wd:=wd2) (T:=T2);have b:zY (.tp [0,1]) jw (zI yw (zh 0)<|zh 1) [Cell.no,Cell.no] (yW (zG (m+1) λk=>(wd1 k:Int))<|zG (m+1) λk=>(wd2 k:Int))=cq (zG (m+1) λk=>(wd1 k:Int)*(wd2 k:Int)):=by rw[wg,qp];refine zC _ _ λk h=>zB rfl rfl ?_;have:=z k;have I:XF (wd1 k:Int) (wd2 k:Int)=da:=ZO _ _ ⋯ ⋯;simp[I]
 have O:(yW (zG (m+1) λk=>(wd1 k:Int))<|zG (m+1) λk=>(wd2 k:Int)).length<=lim:=by rw[pG,kZ,kZ];omega
 have U:zU (QR (dj (zk 0)<|zy<|.int 1)<|dj (zk 1)<|zy<|.int 1) (.tp [0,1]) 2 [] jw (zI yw (zh 0)<|zh 1) [.val (zO p m w wd1 T1),.val<|zO p m w wd2 T2,.val A0,.val A1,.val A2]=cq (zG (m+1) λk=>(wd1 k:Int)*(wd2 k:Int)):=by rw[qm];rw[show QR (dj (zk 0)<|zy<|.int 1) (dj (zk 1)<|zy<|.int 1) [.val (zO p m w wd1 T1),.val<|zO p m w wd2 T2,.val A0,.val A1,.val A2]=cq (yW (zG (m+1) λk=>(wd1 k:Int))<|zG (m+1) λk=>(wd2 k:Int))by simp[d,e,hH]];rw[IF,UJ O];exact b
 have Y:iH (jz<|zU (QR (dj (zk 0)<|zy<|.int 1)<|dj (zk 1)<|zy<|.int 1) (.tp [0,1]) 2 [] jw (zI yw (zh 0)<|zh 1)) [.val (zO p m w wd1 T1),.val<|zO p m w wd2 T2,.val A0,.val A1,.val A2]=cq (.int (off wd2 wd1 (m+1):Nat)):=by rw[aL,wc,U];simp only[IU,IF,wj];rw[YK]
 unfold Cw;have:zI p7 (iH<|jz<|zU (QR (dj (zk 0)<|zy<|.int 1)<|dj (zk 1)<|zy<|.int 1) (.tp [0,1]) 2 [] jw (zI yw (zh 0)<|zh 1)) (zy<|.int 60) [.val (zO p m w wd1 T1),.val<|zO p m w wd2 T2,.val A0,.val A1,.val A2]=cq (.bl<|decide<|60<off wd2 wd1 (m+1)):=by
  rw[aN,Y];by_cases g:60<off wd2 wd1 (m+1)
  ·have a:(60:Int)<(off wd2 wd1 (m+1):Int):=by omega
   simp[g,a]
  ·have a:¬(60:Int)<(off wd2 wd1 (m+1):Int):=by omega
   simp[g,a]
 unfold sB;rw[this];rfl
theorem Vh(hm:m<=3)(J:∀k,wd1 k<=6)(L:∀k,wd2 k<=6){n:Nat}{A0 O:D}(z:A0=(if 60<off wd2 wd1 (m+1)then .tup [.lst [.str "many"],.d7]else A0))(Z:¬60<off wd2 wd1 (m+1)->∃I:List D,I.length=n/\A0=.tup [.lst [],.lst I]):
 qi [zO p m w wd1 T1,zO p m w wd2 T2,A0,.tup [.lst [],.int (n:Int)],.tup [.lst [],O]]=cq (.val<|.bl da):=by
 have x:=jj;have U:=Cy (p:=p) (w:=w) (T1:=T1) (T2:=T2) hm J L A0 (.tup [.lst [],.int (n:Int)])<|.tup [.lst [],O];have t:=Wl (n:Int);generalize zO p m w wd1 T1=R1 at *;generalize zO p m w wd2 T2=R2 at *;let a:Ctx:=[.val R1,.val R2,.val A0,.val<|.tup [.lst [],.int (n:Int)],.val (.tup [.lst [],O])];have Y:jA (.tup [.lst [],.int (n:Int)])=cq (.T,[.lst [],.int (n:Int)]):=rfl;have s:jA (.tup [.lst [],O])=cq (.T,[.lst [],O]):=rfl;have d:l5 (.lst []) (.lst [])=cq (.bl di):=rfl;have u:¬((n:Int)<0):=by omega
 rw[show qi=jq 5 (zS (kv (rM (sB (zI l5 (dj (zk 3) (zy (.int 0))) (jG (jH zF)))) (rM (sB (zI l5 (dj (zk 4) (zy (.int 0))) (jG (jH zF)))) (rM (Zi (sB (zE xQ (zb (dj (zk 3) (zy (.int 1))) zF)))) (sB (zI DZ (dj (zk 3) (zy (.int 1))) (zy (.int 0))))))) (qt (zy (.bl di))) qF) (zS (kv Cw (qt (zI gw (dj (zk 2) (zy (.int 0))) (jG (jH (zb (zy (.str "many")) zF))))) qF) (qt (rR (zI gw (dj (zk 2) (zy (.int 0))) (jG (jH zF))) (rR (DO .list (dj (zk 2) (zy (.int 1)))) (zI gw (VC (zJ (dj (zk 2) (zy (.int 1))))) (dj (zk 3) (zy (.int 1)))))))))from rfl];refine je (zu (γ':=a) ?_ ?_)
 ·show kv _ _ _ a=_
  have e:sB (zI l5 (dj (zk 3)<|zy<|.int 0)<|jG<|jH zF) a=cq di:=by simp[a,Y,hH,d]
  have f:sB (zI l5 (dj (zk 4)<|zy<|.int 0)<|jG<|jH zF) a=cq di:=by simp[a,s,hH,d]
  have h:Zi (sB<|zE xQ<|zb (dj (zk 3)<|zy<|.int 1) zF) a=cq di:=by simp[a,Y,hH,t]
  have i:sB (zI DZ (dj (zk 3)<|zy<|.int 1)<|zy<|.int 0) a=cq di:=by simp[a,Y,hH,u]
  rw[vL,ix,e,ix,f,ix,h,i];rfl
 ·by_cases g:60<off wd2 wd1 (m+1)
  ·rw[UJ g]at z
   rw[decide_eq_true g]at U;refine JE ?_;rw[vL,show Cw a=cq da from U];subst z;have b:jA (.tup [.lst [.str "many"],.d7])=cq (.T,[.lst [.str "many"],.d7]):=rfl;have l:gw (.lst [.str "many"]) (.lst [.str "many"])=cq (.bl da):=by kernel_rfl
   have r:1<=lim:=by omega
   simp[a,b,hH,l,r]
  ·obtain⟨I,o,rfl⟩:=Z g
   rw[decide_eq_false g]at U;refine zu (γ':=a) (by rw[vL,show Cw a=cq di from U];rfl) ?_;have b:jA (.tup [.lst [],.lst I])=cq (.T,[.lst [],.lst I]):=rfl;have j:gw (.lst []) (.lst [])=cq (.bl da):=rfl;have ty:oU Ty.list (.lst I)=da:=rfl;simp[a,b,Y,hH,j,ty,o]
end
theorem pL:w5=jq 10 (zS pU<|zS pT<|zS pS<|zS pR<|zS pQ<|zS pP<|zS pM<|zS iP<|zS dh Ww):=rfl
section
variable{p:Int}{m:Nat}{w:UK}{wd1 wd2:UX}{T1 T2:UW}
theorem Av(I:Pr p)(hm:m<=2)(J:∀k,wd1 k<=6)(L:∀k,wd2 k<=6)(z1:∀k,m<k->wd1 k=0)(z2:∀k,m<k->wd2 k=0)(Z:∀k i j,0<=T1 k i j/\T1 k i j<p)(r2:∀k i j,0<=T2 k i j/\T2 k i j<p):
 ∃A0 A1 A2,zN [zO p m w wd1 T1,zO p m w wd2 T2,.int 0]=cq (.val A0)/\zN [zO p m w wd1 T1,zO p m w wd2 T2,.int 1]=cq (.val A1)/\zN [zO p m w wd1 T1,zO p m w wd2 T2,.int 2]=cq (.val A2)/\qi [zO p m w wd1 T1,zO p m w wd2 T2,A0,A1,A2]=cq (.val<|.bl da):=by
 have W:=jj;obtain⟨Q,K,N,O,e⟩:=fu (w:=w) (wd:=wd1) (T:=T1) I (λk=>by have:=J k;omega) (show m<=5 by omega) Z;obtain⟨R,M,P,U,f⟩:=fu (w:=w) (wd:=wd2) (T:=T2) I (λk=>by have:=L k;omega) (show m<=5 by omega) r2;have S:=O.le;have md:=U.le;have d:=nC (show m<=5 by omega) O.st U.st ⋯ ⋯ O.pp.eb U.pp.eb;rw[Ye]at d;obtain⟨n,E,x,_⟩:=gp I O U;rw[<-x]at d;obtain⟨u,t⟩:=uN I (show m<=3 by omega) J z1 z2 O e U f;have Y:=iB (p:=p) (w:=w) (T1:=T1) (T2:=T2) (wd2:=wd2) (show m<=3 by omega) J;have h:=(yp (p:=p) (w:=w) (wd:=wd1) (T:=T1) (wd':=wd2) (T':=T2)<|show m<=900 by omega).1;have g1:qZ [zO p m w wd1 T1,zO p m w wd2 T2]=none:=by simp[qZ,WO,z7,yb,h]
 have g2:ZF [zO p m w wd1 T1,zO p m w wd2 T2]=none:=by simp[ZF,WO,z7,yb,h]
 have o:zN [zO p m w wd1 T1,zO p m w wd2 T2,.int 1]=cq (.val<|.tup [.lst [],.int (n:Int)]):=Wh (by simp[pC,wb,yb,g1]) (by simp[CJ,d]);have r:zN [zO p m w wd1 T1,zO p m w wd2 T2,.int 2]=cq (.val<|.tup [.lst [],u]):=Wh (by simp[pC,wb,yb,g2]) (by simp[CJ,t]);by_cases g:60<off wd2 wd1 (m+1)
 ·rw[UJ g]at Y
  refine⟨.tup [.lst [.str "many"],.d7],_,_,ik (by simp[pC,wb,yb,Y]) fT,o,r,Vh (show m<=3 by omega) J L (by rw[UJ g]) λz=>absurd g z⟩
 ·rw[UY g]at Y
  have A:off (ft w wd2) (e9 w wd1) m<=100:=LG (oI (a:=6) (b:=6) (λk=>by rw[<-xv];exact L _) (λk=>by rw[<-qO];exact J _) m) ⋯;obtain⟨q,B,l,y,C,G⟩:=aS (w:=w) (T2:=T2) I (show m<=4 by omega) (λk=>by have:=J k;omega) (λk=>by have:=L k;omega) Z (show off wd2 wd1 (m+1)<=60 by omega) A;have eq:=FT I O U C G;have F:q=n:=by omega
  have H:zN [zO p m w wd1 T1,zO p m w wd2 T2,.int 0]=cq (.val<|.tup [.lst [],.lst ((IA q).map λs=>D.lst<|Ec m wd1 wd2<|B s)]):=Wh (by simp[pC,wb,yb,Y]) (by simp[CJ,y]);exact⟨_,_,_,H,o,r,Vh (show m<=3 by omega) J L (by rw[UY g]) λ_=>⟨_,by simp[F],rfl⟩⟩
end
theorem FI(ns:List Int)(J:ns.length<=63):w5 [KB ns]=cq (.val<|.bl da):=by
 have hl:=jj;obtain⟨S,L,b1⟩:=KJ J (k:=0) ⋯ ⋯;obtain⟨X,a2,b2⟩:=KJ J (k:=1) ⋯ ⋯;generalize vj ns 0=c at S L b1;generalize vj ns 1=c' at X a2 b2;obtain⟨a,H,ep,b6⟩:=AZ L;have C:=H.pos;obtain⟨m,em,hm⟩:∃m:Nat,1+c/4%3=1+(m:Int)/\m<=2:=⟨(c/4%3).toNat,by omega,by omega⟩;obtain⟨w,ew⟩:=uY (c:=c/16) ⋯ (m:=m) ⋯;obtain⟨q,l,w',hq,bb,eo⟩:=ma (ns:=ns) (c:=c') (p:=(a:Int)) (w:=w) H hm;have q0:0<q:=by rcases hq with rfl|rfl|rfl|rfl<;>decide
 obtain⟨od,bf,N⟩:∃od:Int,c/128%4=od/\0<=od/\od<=3:=⟨_,rfl,by omega,by omega⟩;obtain⟨U,bg,B⟩:∃U:Int,([D.int 0,.int 2,.int 2,.int 1])[od.toNat]? = cq (.int U)/\0<=U/\U<=3:=by
  rcases (by omega:od=0\/od=1\/od=2\/od=3)with rfl|rfl|rfl|rfl
  ·exact⟨0,rfl,by decide,by decide⟩
  ·exact⟨2,rfl,by decide,by decide⟩
  ·exact⟨2,rfl,by decide,by decide⟩
  ·exact⟨1,rfl,by decide,by decide⟩
 have bi:hH 4 od=cq od.toNat:=by rcases (by omega:od=0\/od=1\/od=2\/od=3)with rfl|rfl|rfl|rfl<;>rfl
 obtain⟨Y,ha,ea⟩:=uI (w:=w) (od:=od) J (t:=2) (p:=(a:Int)) ⋯ ⋯ C (show m<=3 by omega) N.1 N.2;let γ:Cell->Cell->Cell->Cell->Cell->Cell->Cell->Cell->Ctx:=λc2 c3 c4 c5 c6 c7 c8 c9=>[.val (KB ns),.val<|.int c,c2,c3,c4,c5,c6,c7,c8,c9];let P:=Cell.val<|.int (a:Int);let W:=Cell.val<|.str<|jN m w;let Q:=Cell.val<|.int q;let I:=Cell.val<|.str<|jN l w';let O:=Cell.val<|.int od;let A:=Cell.val<|zO (a:Int) m w Y<|f9 ns 2 (a:Int);have R:∀{R2 b e f:D},xf [KB ns,.int 60,.int q,.str<|jN l w',.int U]=cq (.val R2)->
  zN [zO (a:Int) m w Y (f9 ns 2 (a:Int)),R2,.int 0]=cq (.val b)->zN [zO (a:Int) m w Y (f9 ns 2 (a:Int)),R2,.int 1]=cq (.val e)->zN [zO (a:Int) m w Y (f9 ns 2 (a:Int)),R2,.int 2]=cq (.val f)->
  zS dh Ww (γ P W Q I O A (.val R2)<|.val<|.lst [b,e,f])=cq (.ret<|.val<|.bl da)->w5 [KB ns]=cq (.val<|.bl da):=λ{R2 b e f} s E F G z=>by
  have s8:iP (γ P W Q I O A (.val R2) .no)=cq (.next<|γ P W Q I O A (.val R2)<|.val<|.lst [b,e,f]):=by
   have k:zY (.nm 0) jw (zE zN<|zb (zh 1)<|zb (zh 2)<|zb (zh 0) zF) [Cell.no,A,.val R2] [.int 0,.int 1,.int 2]=cq [b,e,f]:=by
    have g0:zE zN (zb (zh 1)<|zb (zh 2)<|zb (zh 0) zF) [.val (.int 0),A,.val R2]=cq b:=by simp[A,E]
    have g1:zE zN (zb (zh 1)<|zb (zh 2)<|zb (zh 0) zF) [.val (.int 1),A,.val R2]=cq e:=by simp[A,F]
    have g2:zE zN (zb (zh 1)<|zb (zh 2)<|zb (zh 0) zF) [.val (.int 2),A,.val R2]=cq f:=by simp[A,G]
    have t0:=zB (T:=.nm 0) (k:=jw) (d:=.int 0) (γ:=[Cell.no,A,.val R2]) rfl rfl g0;have t1:=zB (T:=.nm 0) (k:=jw) (d:=.int 1) (γ:=[Cell.no,A,.val R2]) rfl rfl g1;have t2:=zB (T:=.nm 0) (k:=jw) (d:=.int 2) (γ:=[Cell.no,A,.val R2]) rfl rfl g2;exact zC (g:=λi:Nat=>D.int (i:Int)) (λi:Nat=>if i=0 then b else if i=1 then e else f) [0,1,2] λx hx=>by
     simp only[IM,IW,or_false]at hx;rcases hx with rfl|rfl|rfl
     ·exact t0
     ·exact t1
     ·exact t2
   have l3:3<=lim:=by omega
   unfold iP;rw[xY,ZQ,qm];rw[show jK (zy<|.int 3) (γ P W Q I O A (.val R2) .no)=cq [.int 0,.int 1,.int 2]from rfl];rw[IF,UJ (by show 3<=lim;exact l3),show jk 1 [7,8] (γ P W Q I O A (.val R2) .no)=[Cell.no,A,.val R2]from rfl,k];rfl
  rw[pL];refine je<|zu (γ':=γ .no .no .no .no .no .no .no .no) (by simp[pU,z7,S,γ])<|zu (γ':=γ P .no .no .no .no .no .no .no) (by simp[pT,γ,b6,ep,P])<|zu (γ':=γ P W .no .no .no .no .no .no) (by simp[pS,γ,em,ew,P,W])<|zu (γ':=γ P W Q I .no .no .no .no) (by simp[pR,γ,P,W,Q,I,X,eo])<|zu (γ':=γ P W Q I O .no .no .no) (by simp[pQ,γ,O,bf])<|zu (γ':=γ P W Q I O A .no .no) (by simp[pP,γ,P,W,O,A,ea])<|zu (γ':=γ P W Q I O A (.val R2) .no) ?_ (zu s8 z);have o:dm (γ P W Q I O A .no .no)=cq (.int U):=by simp[dm,γ,O,bi,bg]
  unfold pM;rw[xY,xN,jM,jM,jM,jM,jM,o];simp[γ,Q,I,s]
 have tq:∀(R2 M:D),dg (γ P W Q I O A (.val R2)<|.val M)=cq (!decide ((a:Int)=q/\KR m l w w')):=λR2 M=>by
  have l2:2<=lim:=by omega
  have d:l5 (.tup [.int (a:Int),.str (jN m w)]) (.tup [.int q,.str (jN l w')])=cq (.bl<|!decide ((a:Int)=q/\KR m l w w')):=by
   have ok:∀(z:Int) (m:Nat) (w:UK),l8 (.tup [.int z,.str (jN m w)])=da:=λz m w=>by have h:=VQ m w;unfold l8 at h;have h:=(IK _ _ ▸ h:decide (deep (.str<|jN m w)<=20)=da/\ir (.str<|jN m w)=da).2;refine W4 (n:=1) (by simp[deep,xr]) ⋯ ?_;show m3 [.int z,.str (jN m w)]=da;simp only[m3,ir,Bool.true_and,Ru];exact h
   unfold l5;rw[UJ ⟨ok _ _ _,ok _ _ _⟩];congr 3;rw[NW];show(Sq (a:Int) (.int q)&&(Sr (jN m w) (.str<|jN l w')&&da))=da↔_;simp only[Sq,Sr,Ru,IK,beq_iff_eq,decide_eq_true_eq,Ub]
  simp[dg,γ,P,W,Q,I,l2,d]
 by_cases K:(a:Int)=q/\KR m l w w'
 ·obtain⟨rfl,sw⟩:=K
  have et:jN l w'=jN m w:=(Ub.mpr sw).symm;obtain⟨r,Z,s⟩:=uI (w:=w) (od:=U) J (t:=60) (p:=(a:Int)) ⋯ ⋯ C (show m<=3 by omega) B.1 B.2;have nb:∀(wd:UX) k,(∀k,wd k<=6)->C4 m wd k<=6:=λwd k h=>by unfold C4;have:=h k;split<;>omega
  have nz:∀(wd:UX) k,m<k->C4 m wd k=0:=λwd k h=>by unfold C4;rw[UY ⋯]
  obtain⟨b,e,f,E,F,G,y3⟩:=Av (w:=w) (wd1:=C4 m Y) (wd2:=C4 m r) (T1:=f9 ns 2 (a:Int)) (T2:=f9 ns 60 (a:Int)) H hm (λk=>nb Y k ha) (λk=>nb r k Z) (nz Y) (nz r) (λk i j=>ie C k i j)<|λk i j=>ie C k i j;rw[<-oK,<-oK]at E F G y3;refine R (by rw[et];exact s) E F G ?_;have u:=tq (zO (a:Int) m w r<|f9 ns 60 (a:Int))<|.lst [b,e,f];rw[decide_eq_true ⟨rfl,sw⟩]at u;refine zu (γ':=γ P W Q I O A (.val<|zO (a:Int) m w r<|f9 ns 60 (a:Int))<|.val<|.lst [b,e,f]) (by unfold dh;rw[vL,u];rfl) ?_;simp[Ww,γ,A,jA,hH,y3]
 ·obtain⟨r,Z,s⟩:=uI (w:=w') (od:=U) J (t:=60) (p:=q) ⋯ ⋯ q0 bb B.1 B.2
  have y:=λ(z:Int) (hz:z=0\/z=1\/z=2)=>Vp (w:=w) (w':=w') (wd:=Y) (wd':=r) (T:=f9 ns 2 (a:Int)) (T':=f9 ns 60 q) (show m<=900 by omega) (show l<=900 by omega) K hz;refine R s (y 0 (.inl rfl)) (y 1 (.inr (.inl rfl))) (y 2 (.inr (.inr rfl))) ?_;have u:=tq (zO q l w' r (f9 ns 60 q)) (.lst [.tup [.lst [.str "unlike"],.d7],.tup [.lst [.str "unlike"],.d7],.tup [.lst [.str "unlike"],.d7]]);rw[decide_eq_false K]at u;refine JE ?_;unfold dh;rw[vL,u]
  kernel_rfl
open PySem.Spec PyProof.Rows
noncomputable def top(i:Nat):PySem.Stmt:=PySem.Challenge.pw_barsplit_k37_ways_refused.main.body.getD i<|.Pass ⟨0,0,0,0⟩
section
variable{CR CL:PySem.Addr}{P:PySem.Program}{w:PySem.World}{K:Iy}{mg:PySem.Str->Option PySem.Value}{base:PySem.Heap}
theorem VZ(h:us.length=n+1):∃a t,us=a::t/\t.length=n:=by
 cases us with
 |nil=>exact absurd h<|Nat.zero_ne_add_one n
 |cons a t=>exact⟨a,t,rfl,Nat.succ.inj h⟩
theorem HY(h:us.length=1):∃a,us=[a]:=by obtain⟨a,I,rfl,b⟩:=VZ h;rw[LF b];exact⟨a,rfl⟩
theorem HX(h:us.length=2):∃a b,us=[a,b]:=by obtain⟨a,I,rfl,d⟩:=VZ h;obtain⟨b,O,rfl,e⟩:=VZ d;rw[LF e];exact⟨a,b,rfl⟩
theorem Iu(h:us.length=3):∃a b c,us=[a,b,c]:=by obtain⟨a,I,rfl,d⟩:=VZ h;obtain⟨b,O,rfl,e⟩:=VZ d;obtain⟨c,U,rfl,f⟩:=VZ e;rw[LF f];exact⟨a,b,c,rfl⟩
theorem Ir(h:us.length=4):∃a b c d,us=[a,b,c,d]:=by obtain⟨a,O,rfl,e⟩:=VZ h;obtain⟨b,U,rfl,f⟩:=VZ e;obtain⟨c,Y,rfl,g⟩:=VZ f;obtain⟨d,i,rfl,I⟩:=VZ g;rw[LF I];exact⟨a,b,c,d,rfl⟩
theorem Iq{z:Type}{us:List z}(h:us.length=5):∃a b c d e,us=[a,b,c,d,e]:=by obtain⟨a,U,rfl,f⟩:=VZ h;obtain⟨b,Y,rfl,g⟩:=VZ f;obtain⟨c,j,rfl,i⟩:=VZ g;obtain⟨d,k,rfl,I⟩:=VZ i;obtain⟨e,l,rfl,O⟩:=VZ I;rw[LF O];exact⟨a,b,c,d,e,rfl⟩
structure E0(K:Iy)(mg:PySem.Str->Option PySem.Value):Prop where
 Q0:fy K mg "_law_cell" (top 78) ["_law_script","_law_k"]
 Q1:fy K mg "_law_ways" (top 82) ["_law_cell_here","_law_rooms"]
 Q2:fy K mg "_law_others" (top 86) ["_law_script","_law_p","_law_ways_here","_law_cell_here"]
 Q3:fy K mg "_law_ends" (top 80) ["_law_ways_here","_law_k"]
 Q4:fy K mg "_law_any" (top 83) ["_law_script","_law_at","_law_p","_law_ways_here","_law_odd"]
 Q5:fy K mg "_law_whole" (top 79) ["_law_found"]
 Q6:fy K mg "_law_counted" (top 87) ["_law_one","_law_other","_law_base","_law_many","_law_alikes"]
 Q7:fy K mg "ways_of" (top 51) ["row"]
 Q8:fy K mg "one_kind" (top 52) ["one","other"]
 Q9:fy K mg "ask_one_kind" (top 53) ["one","other"]
 Qa:fy K mg "room_sizes" (top 56) ["one","other"]
 Qb:fy K mg "numbers_in" (top 58) ["sizes"]
 Qc:fy K mg "tables_in" (top 60) ["sizes","load"]
 Qd:fy K mg "behind_noughts" (top 28) ["many","base"]
 Qe:fy K mg "rests" (top 16) ["p","numbers"]
 Qf:fy K mg "inverse" (top 17) ["p","x"]
 Qg:fy K mg "cleared" (top 26) ["p","load","pivot","place"]
 Qh:fy K mg "base_of" (top 27) ["p","long","loads"]
 Qi:fy K mg "turned_over" (top 22) ["table"]
 Qj:fy K mg "same_table" (top 23) ["many"]
 Qk:fy K mg "led_into" (top 29) ["p","table","base"]
 Ql:fy K mg "kernel" (top 30) ["p","table"]
 Qm:fy K mg "written" (top 59) ["tables"]
 Qn:fy K mg "led" (top 18) ["p","table","load"]
 Qo:fy K mg "product" (top 19) ["p","one","other"]
 Qp:fy K mg "added_times" (top 20) ["p","one","much","other"]
 Qq:fy K mg "less" (top 21) ["p","one","other"]
 Qr:fy K mg "end_of" (top 50) ["k","way"]
 Qs:fy K mg "beginning_of" (top 49) ["k","way"]
 Qt:fy K mg "gap" (top 61) ["one","other","tables","k"]
 Qu:fy K mg "gaps" (top 62) ["one","other","tables"]
 Qv:fy K mg "arrow_sizes" (top 57) ["one","other"]
 Qw:fy K mg "gaps_table" (top 63) ["one","other"]
 Qx:fy K mg "ways_base" (top 64) ["one","other"]
 Qy:fy K mg "_law_kind" (top 84) ["_law_caught"]
 Qz:fy K mg "image" (top 31) ["p","table"]
 h_:fy K mg "columns" (top 38) ["high","loads"]
 i':fy K mg "has_room" (top 36) ["bar","room"]
 i_:fy K mg "loads_in" (top 37) ["bars","room"]
 j':fy K mg "lead_of" (top 25) ["load"]
 j_:fy K mg "mixed_load" (top 39) ["row","bars","times","room"]
 k_:fy K mg "mixed" (top 40) ["row","bars","times"]
 l_:fy K mg "settled" (top 41) ["row","k","bars"]
 m_:fy K mg "solved" (top 32) ["p","table","load"]
 n_:fy K mg "next_load" (top 42) ["p","arrow","load"]
 o_:fy K mg "taken_on" (top 43) ["p","arrow","bar"]
 p_:fy K mg "new_loads" (top 44) ["p","arrow"]
 q_:fy K mg "grown" (top 45) ["row","k","bars"]
 r_:fy K mg "stretch_of" (top 35) ["bar"]
 s_:fy K mg "all_grown" (top 46) ["row"]
 t_:fy K mg "back_of" (top 33) ["p","table"]
 u_:fy K mg "barred" (top 47) ["row"]
 v_:fy K mg "left_holds" (top 65) ["ways","one","other"]
 w_:fy K mg "right_holds" (top 66) ["ways","one","other"]
 x_:fy K mg "bar_ways" (top 67) ["ways","one","other"]
 y':fy K mg "ways_into" (top 68) ["ways","bars","bar"]
 Uo:fy K mg "count_ways" (top 69) ["one","other"]
 y_:fy K mg "room_by_room" (top 73) ["p","ones","others"]
 z_:fy K mg "stretches_of" (top 71) ["many"]
 A_:fy K mg "are_told_apart" (top 74) ["ways","ones","others","bar"]
 B_:fy K mg "apart" (top 75) ["ways","ones","others"]
 Up:fy K mg "alike" (top 76) ["one","other"]
 C':fy K mg "_law_asked" (top 85) ["_law_one","_law_other","_law_what"]
 C_:fy K mg "law" (top 88) ["_law_script"]
 Z0:mg "len" = none
 Z1:mg "min" = none
 Z2:mg "range" = none
 Z3:mg "tuple" = none
 Z4:mg "bool" = none
 Z5:mg "int" = none
 Z6:mg "isinstance" = none
 Z7:mg "list" = none
 Z8:mg "sum" = none
 Z9:mg "zip" = none
 Za:mg "any" = none
 Zb:mg "enumerate" = none
 Zc:mg "ValueError" = none
 Zd:mg "dict" = none
 Ze:mg "sorted" = none
 Zf:mg "max" = none
 G0:XC K mg "Unlike"
 G1:GL K mg "MOST_NUMBERS" (.int 60)
 G2:XC K mg "TooMany"
 G3:XI K mg "NoArrow"
 G4:XI K mg "NoLine"
 G5:XI K mg "NoPrime"
 G6:XI K mg "NoRoom"
 G7:XI K mg "NoRow"
 G8:XI K mg "NoTable"
 G9:XI K mg "NoText"
 Ga:XI K mg "NoTurn"
 Gb:XI K mg "NoWidths"
 Gc:XI K mg "Nothing"
 Gd:XI K mg "Nought"
 Ge:XI K mg "TooMany"
 Gf:XI K mg "Unlike"
 Gg:XS K mg
theorem yE(E:E0 K mg):fx P w K mg base 1 "_law_cell" 2 jv:=
 qX (N:=["_law_script","_law_k","_law_cell_here","_law_turn","_law_given"]) E.Q0 ⋯ λX I d O b U a e=>by subst I d O b U;exact by refine zf (j5 (eP (X8 (wy (yO a ⋯ E.Z0 (zV a)) ze) (Jf (qC a (qT (zD (zV a) ze) ze) ze)))) (by refine zf (jl a (zD (zV a) (jJ ze (qT (zw a) (ZL (yO a ⋯ E.Z0 (zV a)) ze))))) ?_;refine zf (kF e a (j9 a ⋯ E.Z2 (eI a ⋯ E.Z1 ze (vM (zw a) (ZL (yO a ⋯ E.Z0 (zV a)) ze)))) (zo (jl a (vM (zw a) (eE ze ze))))) ?_;exact(zo (zL (qT (zw a) (eE ze ze))))) jh) ?_;refine zf (jl a (zw a)) ?_;refine zf (j5 (wy (yO a ⋯ E.Z0 (zV a)) ze) (zo (jl a (zD (zV a) (qT (zw a) (yO a ⋯ E.Z0 (zV a)))))) jh) ?_;exact(zo (zL (qT (xV (qT (jJ (jJ (jJ (xV (qT (zw a) (eE ze ze)) ze) (xV (xV ze (zw a)) (zw a))) (xV ze (zw a))) ze) ze) ze) ze)))
theorem JO(E:E0 K mg):fx P w K mg base 1 "_law_ways" 2 xU:=
 qX (N:=["_law_cell_here","_law_rooms"]) E.Q1 ⋯ λX I e O d U a f=>by subst I e O d U;exact zo (zL (eJ j4 (PO.q (xi a (i3.c (j9 a ⋯ E.Z2 (ZL (zw a) ze))) (λ_ _ _ b=>kX j4 (qT (vM (zw b) (zD (PO.q (jE (qz (za ze (za ze (za ze (za ze (za ze zc)))))))) (zw b))) ze))))))
theorem ZW(E:E0 K mg):fx P w K mg base 1 "_law_others" 4 xB:=
 qX (N:=["_law_script","_law_p","_law_ways_here","_law_cell_here","_law_at","_law_other"]) E.Q2 ⋯ λX I d O b U a e=>by subst I d O b U;exact by refine zf (j5 (qC a (qT (zw a) ze) ze) (zo (jl a (zD (PO.q (jE (qz (za ze (za ze (za ze (za ze zc))))))) (se a (PO.q (jE (qz (za ze (za ze (za ze (za ze zc))))))) (zw a))))) jh) ?_;refine zf (j5 (eP (X8 (qC a (qT (zw a) ze) ze) (Jf (wy (Zl a ⋯ E.Z0 (zw a)) ze)))) (by refine zf (jl a (qT (vM (zw a) ze) (Zl a ⋯ E.Z0 (zw a)))) ?_;refine zf (jl a (kX j4 (lB (kX (zw a) (zw a))))) ?_;exact(zo (jl a (VF (VF (oi (zw a) Zo (va (zw a))) (zw a)) (oi (zw a) (va (jJ (zw a) ze)) Zo))))) jh) ?_;refine zf (j5 (qC a (qT (zw a) ze) ze) (zo (jl a (VF (zw a) (kX j4 (qT (vM (zw a) ze) ze))))) jh) ?_;exact(zo (zL (jI (qz (za (zw a) (za (zw a) zc))))))
theorem VO(E:E0 K mg):fx P w K mg base 1 "_law_ends" 2 vH:=
 qX (N:=["_law_ways_here","_law_k"]) E.Q3 ⋯ λX I d O b U a e=>by subst I d O b U;exact by refine zf (j5 (qC a (kX (zw a) (zw a)) j4) (zo (zL (jI (qz (za (zw a) (za (jJ (zw a) ze) zc)))))) jh) ?_;exact(zo (zL (jI (qz (za (jJ (zw a) ze) (za (zw a) zc))))))
theorem wD(E:E0 K mg):fx P w K mg base 2 "_law_any" 5 xf:=
 qX (N:=["_law_script","_law_at","_law_p","_law_ways_here","_law_odd","_law_cells","_law_widths","_law_arrows","_law_k","_law_begin","_law_end","_law_rows","_law_i","_law_first"]) E.Q4 ⋯ λX I f O e U a d=>by subst I f O e U;exact by refine zf (js 5 (yj a (i3.c (j9 a ⋯ E.Z2 (jJ (Zl a ⋯ E.Z0 (zw a)) ze))) (λ_ _ _ b=>qT (vM (zW (yE E) b (za (zw b) (za (jJ (zw b) (zw b)) zc))) ze) ze))) ?_;refine zf (js 6 (yj a (ji (zV a)) (λ_ _ _ b=>zD (PO.q (jE (qz (za ze (za ze (za ze (za ze (za ze (za ze (za ze (za ze zc))))))))))) (zw b)))) ?_;refine zf (j5 (eP (X8 (qC a (Zl a ⋯ E.Z0 (zw a)) ze) (Jf (wy (zw a) ze)))) (zo (jl a (zD (PO.q (jE (qz (za (PO.v (jE (qz (za ze (za ze zc))))) (za (PO.v (jE (qz (za ze (za ze zc))))) (za (PO.v (jE (qz (za ze (za ze zc))))) zc)))))) (ZL (zw a) ze)))) jh) ?_;refine zf (yi a (jE (qz zc))) ?_;refine zf (kF d a (j9 a ⋯ E.Z2 (Zl a ⋯ E.Z0 (zw a))) (by refine zf (WX (GT a) (zW (VO E) a (za (zw a) (za (zw a) zc)))) ?_;refine zf (yi a (jE (qz zc))) ?_;refine zf (kF d a (j9 a ⋯ E.Z2 (zD (zV a) (zw a))) (by refine zf (jl a (jJ (jJ (jJ (zw a) ze) (xV ze (zw a))) (zw a))) ?_;refine zf (js 5 (yj a (i3.c (j9 a ⋯ E.Z2 (zD (zV a) (zw a)))) (λ_ _ _ b=>zW (yE E) b (za (zw b) (za (jJ (zw b) (zw b)) zc))))) ?_;exact(zo (JI 11 a ⋯ (jV a ⋯ E.Z3 (PO.q (xi a (ji (zV a)) (λ_ _ _ b=>qT (vM (zw b) ze) (zw b))))))))) ?_;exact(zo (JI 7 a ⋯ (jI (qz (za (kX (zw a) (zw a)) (za (jI (qz (za (zD (zV a) (zw a)) (za (zD (zV a) (zw a)) (za (jV a ⋯ E.Z3 (zV a)) zc))))) zc)))))))) ?_;exact(zo (zL (jI (qz (za (zw a) (za (jV a ⋯ E.Z3 (zV a)) (za (jV a ⋯ E.Z3 (zV a)) zc)))))))
theorem YG(E:E0 K mg):fx P w K mg base 1 "_law_whole" 1 xQ:=
 qX (N:=["_law_found"]) E.Q5 ⋯ λX I d O b U a e=>by subst I d O b U;exact zo (zL (WW (eM a ⋯ E.Z6 ⋯ E.Z5 (zw a)) (eH (oj (bx a ⋯ E.Z6 ⋯ E.Z4 (zw a))))))
theorem Zq(E:E0 K mg):fx P w K mg base 2 "_law_counted" 5 qi:=
 qX (N:=["_law_one","_law_other","_law_base","_law_many","_law_alikes"]) E.Q6 ⋯ λX I e O d U a f=>by subst I e O d U;exact by refine zf (j5 (eP (eD (wx a (zD (zV a) ze) (PO.v (jE (qz zc)))) (eD (wx a (zD (zV a) ze) (PO.v (jE (qz zc)))) (eD (Zm (xl (zW (YG E) a (za (zD (zV a) ze) zc)))) (rX (oA (zD (zV a) ze) ze)))))) (zo (zL sg)) jh) ?_;refine zf (j5 (wy (Yw a ⋯ E.Z8 (PO.q (xi a (i3.c (vO a ⋯ E.Z9 (zD (zV a) ze) (zD (zV a) ze))) (λ_ _ _ b=>xV (zw b) (zw b))))) ze) (zo (zL (Yy a (zD (zV a) ze) (PO.v (jE (qz (za j4 zc))))))) jh) ?_;exact(zo (zL (WW (Yy a (zD (zV a) ze) (PO.v (jE (qz zc)))) (WW (bw a ⋯ E.Z6 ⋯ E.Z7 (zD (zV a) ze)) (eH (Yy a (yO a ⋯ E.Z0 (PV.q (zD (zV a) ze))) (zD (zV a) ze)))))))
theorem yl(E:E0 K mg):fx P w K mg base 1 "ways_of" 1 qH:=
 qX (N:=["row"]) E.Q7 ⋯ λX I e O d U a f=>by subst I e O d U;exact zo (zL (eJ j4 (PO.q (xi a (ji (PV.q (zD (zV a) ze))) (λ_ _ _ b=>zD (zV b) ze)))))
theorem JM(E:E0 K mg):fx P w K mg base 2 "one_kind" 2 kx:=
 qX (N:=["one","other"]) E.Q8 ⋯ λX I d O b U a e=>by subst I d O b U;exact zo (zL (WW (Yy a (zD (zV a) ze) (zD (zV a) ze)) (eH (Yy a (zW (yl E) a (za (zw a) zc)) (zW (yl E) a (za (zw a) zc))))))
theorem xp(E:E0 K mg):fx P w K mg base 3 "ask_one_kind" 2 jU:=
 qX (N:=["one","other"]) E.Q9 ⋯ λX I d O b U a e=>by subst I d O b U;exact zo (j5 (Zm (xl (zW (JM E) a (za (zw a) (za (zw a) zc))))) (zo JH) jh)
theorem ke(E:E0 K mg):DT P w K mg base 3 "ask_one_kind" 2 jR:=
 mR (N:=["one","other"]) E.Q9 ⋯ λX O d U b Y a=>by subst O d U b Y;have I:=a.ng (λ_ _=>False);have e:(X.ng λ_ _=>False).xe=(λ_ _=>False):=rfl;exact vW (AJ (Zm (xl (zW (JM E) I (za (zw I) (za (zw I) zc))))) (vW (WV I ⋯ E.G0 j4)) oh)
theorem yD(E:E0 K mg):fx P w K mg base 1 "room_sizes" 2 q8:=
 qX (N:=["one","other"]) E.Qa ⋯ λX I d O b U a e=>by subst I d O b U;exact zo (qo (lQ a ⋯ E.Z7 ⋯ E.Z9 (zD (zV a) ze) (zD (zV a) ze)))
theorem kh(E:E0 K mg):fx P w K mg base 1 "numbers_in" 1 jS:=
 qX (N:=["sizes"]) E.Qb ⋯ λX I e O d U a f=>by subst I e O d U;exact zo (zL (Yw a ⋯ E.Z8 (PO.q (xi a (ji (zV a)) (λ_ _ _ b=>xV (zw b) (zw b))))))
theorem ZM(E:E0 K mg):fx P w K mg base 1 "tables_in" 2 qg:=
 qX (N:=["sizes","load","made","begin","high","wide","lines"]) E.Qc ⋯ λX I e O d U a f=>by subst I e O d U;exact by refine zf (yi a (jE (qz zc))) ?_;refine zf (jl a ze) ?_;refine zf (kF f a (y9 (zw a)) (by refine zf (js 6 (yj a (i3.c (j9 a ⋯ E.Z2 (zw a))) (λ_ _ _ b=>Yx (zw b) (va (jJ (zw b) (xV (zw b) (zw b)))) (va (jJ (zw b) (xV (jJ (zw b) ze) (zw b))))))) ?_;refine zf (JI 2 a ⋯ (jI (qz (za (zw a) (za (zw a) (za (jV a ⋯ E.Z3 (zV a)) zc)))))) ?_;exact(zo (jl a (jJ (zw a) (xV (zw a) (zw a))))))) ?_;exact(zo (vy 2 (a.var ⋯)))
theorem Zs(E:E0 K mg):fx P w K mg base 1 "behind_noughts" 2 qM:=
 qX (N:=["many","base"]) E.Qd ⋯ λX I e O d U b f=>by subst I e O d U;exact zo (qo (VI b (ji (zV b)) (λ_ _ _ a=>Zm (xl (ot a ⋯ E.Za (PV.q (Yx (zw a) Zo (va (zw a))))))) (λ_ _ _ a=>Yx (zw a) (va (zw a)) Zo)))
theorem wC(E:E0 K mg):fx P w K mg base 1 "rests" 2 xO:=
 qX (N:=["p","numbers"]) E.Qe ⋯ λX I e O d U a f=>by subst I e O d U;exact zo (zL (jV a ⋯ E.Z3 (PO.q (xi a (ji (zV a)) (λ_ _ _ b=>qT (zw b) (zw b))))))
theorem bN(E:E0 K mg):fx P w K mg base 1 "inverse" 2 w6:=
 qX (N:=["p","x","y"]) E.Qf ⋯ λX I d O b U a e=>by subst I d O b U;exact by refine zf (kF e a (W0 a ⋯ E.Z2 ze (zw a)) (zo (j5 (qC a (qT (xV (zw a) (zw a)) (zw a)) ze) (zo (vy 2 (a.var ⋯))) jh))) ?_;exact(zo JH)
theorem Xr(E:E0 K mg):fx P w K mg base 2 "cleared" 4 qK:=
 qX (N:=["p","load","pivot","place","much"]) E.Qg ⋯ λX I e O d U a f=>by subst I e O d U;exact by refine zf (jl a (zD (zV a) (zw a))) ?_;refine zf (j5 (qC a (zw a) ze) (zo (vy 1 (a.var ⋯))) jh) ?_;exact(zo (zL (zW (wC E) a (za (zw a) (za (PO.v (xi a (i3.c (vO a ⋯ E.Z9 (zw a) (zw a))) (λ_ _ _ b=>ZL (zw b) (xV (zw b) (zw b))))) zc)))))
theorem vC(E:E0 K mg):fx P w K mg base 3 "base_of" 3 xD:=
 qX (N:=["p","long","loads","left","base","place","leading","times","pivot"]) E.Qh ⋯ λX I e O d U a f=>by subst I e O d U;exact by refine zf (js 3 (yj a (ji (zV a)) (λ_ _ _ b=>zW (wC E) b (za (zw b) (za (zw b) zc))))) ?_;refine zf (yi a (jE (qz zc))) ?_;refine zf (kF f a (j9 a ⋯ E.Z2 (zw a)) (by refine zf (js 6 (sA a (ji (zV a)) (λ_ _ _ b=>wx b (zD (zV b) (zw b)) ze) (λ_ _ _ b=>zw b))) ?_;refine zf (j5 (Zm (lG (zV a))) (zo Yz) jh) ?_;refine zf (jl a (zW (bN E) a (za (zw a) (za (zD (PV.q (zD (zV a) ze)) (zw a)) zc)))) ?_;refine zf (jl a (zW (wC E) a (za (zw a) (za (PO.v (xi a (ji (PV.q (zD (zV a) ze))) (λ_ _ _ b=>xV (zw b) (zw b)))) zc)))) ?_;refine zf (js 3 (yj a (ji (zV a)) (λ_ _ _ b=>zW (Xr E) b (za (zw b) (za (zw b) (za (zw b) (za (zw b) zc))))))) ?_;exact(zo (yi a (wz (PO.q (xi a (ji (zV a)) (λ_ _ _ b=>zW (Xr E) b (za (zw b) (za (zw b) (za (zw b) (za (zw b) zc))))))) (PO.q (jE (qz (za (zw a) zc))))))))) ?_;exact(zo (vy 4 (a.var ⋯)))
theorem qG(E:E0 K mg):fx P w K mg base 1 "turned_over" 1 jP:=
 qX (N:=["table","columns"]) E.Qi ⋯ λX I f O e U a g=>by subst I f O e U;exact by refine zf (js 1 (yj a (i3.c (j9 a ⋯ E.Z2 (zD (zV a) ze))) (λ_ _ _ b=>jV b ⋯ E.Z3 (PO.q (xi b (ji (PV.q (zD (zV b) ze))) (λ_ _ _ d=>zD (zV d) (zw d))))))) ?_;exact(zo (zL (jI (qz (za (zD (zV a) ze) (za (zD (zV a) ze) (za (jV a ⋯ E.Z3 (zV a)) zc)))))))
theorem xo(E:E0 K mg):fx P w K mg base 1 "same_table" 1 j7:=
 qX (N:=["many","rows"]) E.Qj ⋯ λX I f O e U a g=>by subst I f O e U;exact by refine zf (js 1 (yj a (i3.c (j9 a ⋯ E.Z2 (zw a))) (λ_ _ _ b=>jV b ⋯ E.Z3 (PO.q (xi b (i3.c (j9 b ⋯ E.Z2 (zw b))) (λ_ _ _ d=>xk (qC d (zw d) (zw d)) ze ze)))))) ?_;exact(zo (zL (jI (qz (za (zw a) (za (zw a) (za (jV a ⋯ E.Z3 (zV a)) zc)))))))
theorem JN(E:E0 K mg):fx P w K mg base 4 "led_into" 3 ky:=
 qX (N:=["p","table","base","pairs","free"]) E.Qk ⋯ λX I e O d U a f=>by subst I e O d U;exact by refine zf (js 3 (yj a (i3.c (vO a ⋯ E.Z9 (zD (PV.q (zW (qG E) a (za (zw a) zc))) ze) (zD (PV.q (zW (xo E) a (za (zD (zV a) ze) zc))) ze))) (λ_ _ _ b=>jJ (zw b) (zw b)))) ?_;refine zf (js 4 (yj a (ji (zV a)) (λ_ _ _ b=>jJ (zw b) (xV (jI (qz (za ze zc))) (zD (zV b) ze))))) ?_;exact(zo (qo (xh (Zs E) a (za (zD (zV a) ze) (za (PO.v (xh (vC E) a (za (zw a) (za (jJ (zD (zV a) ze) (zD (zV a) ze)) (za (PO.v (wz (zV a) (zV a))) zc))))) zc)))))
theorem JQ(E:E0 K mg):fx P w K mg base 5 "kernel" 2 kn:=
 qX (N:=["p","table"]) E.Ql ⋯ λX I d O b U a e=>by subst I d O b U;exact zo (qo (xh (JN E) a (za (zw a) (za (zw a) (za (PO.v (jE (qz zc))) zc)))))
theorem bL(E:E0 K mg):fx P w K mg base 1 "written" 1 vo:=
 qX (N:=["tables","load","table","line"]) E.Qm ⋯ λX I e O d U a b=>by subst I e O d U;exact by refine zf (yi a (jE (qz zc))) ?_;refine zf (kF b a (y9 (zw a)) (zo (kF b a (y9 (zD (zV a) ze)) (zo (lM 1 a ⋯ (zV a)))))) ?_;exact(zo (zL (jV a ⋯ E.Z3 (zV a))))
theorem fC(E:E0 K mg):fx P w K mg base 2 "led" 3 cR:=
 qX (N:=["p","table","load"]) E.Qn ⋯ λX I f O e U b g=>by subst I f O e U;exact zo (zL (zW (wC E) b (za (zw b) (za (PO.v (xi b (ji (PV.q (zD (zV b) ze))) (λ_ _ _ a=>Yw a ⋯ E.Z8 (PO.q (xi a (i3.c (vO a ⋯ E.Z9 (zw a) (zw a))) (λ_ _ _ d=>xV (zw d) (zw d))))))) zc))))
theorem Zp(E:E0 K mg):fx P w K mg base 3 "product" 3 qw:=
 qX (N:=["p","one","other","over"]) E.Qo ⋯ λX I e O d U a f=>by subst I e O d U;exact by refine zf (jl a (zW (qG E) a (za (zw a) zc))) ?_;exact(zo (zL (jI (qz (za (zD (zV a) ze) (za (zD (zV a) ze) (za (jV a ⋯ E.Z3 (PO.q (xi a (ji (PV.q (zD (zV a) ze))) (λ_ _ _ b=>zW (fC E) b (za (zw b) (za (zw b) (za (zw b) zc))))))) zc)))))))
theorem QX(E:E0 K mg):fx P w K mg base 2 "added_times" 4 xE:=
 qX (N:=["p","one","much","other","rows"]) E.Qp ⋯ λX I f O e U a g=>by subst I f O e U;exact by refine zf (js 4 (yj a (i3.c (vO a ⋯ E.Z9 (zD (zV a) ze) (zD (zV a) ze))) (λ_ _ _ b=>zW (wC E) b (za (zw b) (za (PO.v (xi b (i3.c (vO b ⋯ E.Z9 (zw b) (zw b))) (λ_ _ _ d=>jJ (zw d) (xV (zw d) (zw d))))) zc))))) ?_;exact(zo (zL (jI (qz (za (zD (zV a) ze) (za (zD (zV a) ze) (za (jV a ⋯ E.Z3 (zV a)) zc)))))))
theorem sW(E:E0 K mg):fx P w K mg base 3 "less" 3 aO:=
 qX (N:=["p","one","other"]) E.Qq ⋯ λX I d O b U a e=>by subst I d O b U;exact zo (zL (zW (QX E) a (za (zw a) (za (zw a) (za (om ze) (za (zw a) zc))))))
theorem YH(E:E0 K mg):fx P w K mg base 1 "end_of" 2 k8:=
 qX (N:=["k","way"]) E.Qr ⋯ λX I d O b U a e=>by subst I d O b U;exact zo (zL (xk (qC a (zw a) j4) (jJ (zw a) ze) (zw a)))
theorem vd(E:E0 K mg):fx P w K mg base 1 "beginning_of" 2 jT:=
 qX (N:=["k","way"]) E.Qs ⋯ λX I d O b U a e=>by subst I d O b U;exact zo (zL (xk (qC a (zw a) j4) (zw a) (jJ (zw a) ze)))
theorem BF(E:E0 K mg):fx P w K mg base 4 "gap" 4 nK:=
 qX (N:=["one","other","tables","k","p","way","first_along","first_across"]) E.Qt ⋯ λX I d O b U a e=>by subst I d O b U;exact by refine zf (jl a (zD (zV a) ze)) ?_;refine zf (jl a (zD (PV.q (zD (PV.q (zD (zV a) ze)) (zw a))) ze)) ?_;refine zf (jl a (zW (Zp E) a (za (zw a) (za (zD (zV a) (zW (YH E) a (za (zw a) (za (zw a) zc)))) (za (zD (PV.q (zD (PV.q (zD (zV a) ze)) (zw a))) ze) zc))))) ?_;refine zf (jl a (zW (Zp E) a (za (zw a) (za (zD (PV.q (zD (PV.q (zD (zV a) ze)) (zw a))) ze) (za (zD (zV a) (zW (vd E) a (za (zw a) (za (zw a) zc)))) zc))))) ?_;exact(zo (zL (zW (sW E) a (za (zw a) (za (zw a) (za (zw a) zc))))))
theorem sX(E:E0 K mg):fx P w K mg base 5 "gaps" 3 Vt:=
 qX (N:=["one","other","tables"]) E.Qu ⋯ λX I e O d U b f=>by subst I e O d U;exact zo (qo (xi b (i3.c (j9 b ⋯ E.Z2 (yO b ⋯ E.Z0 (PV.q (zD (zV b) ze))))) (λ_ _ _ a=>zW (BF E) a (za (zw a) (za (zw a) (za (zw a) (za (zw a) zc)))))))
theorem QW(E:E0 K mg):fx P w K mg base 2 "arrow_sizes" 2 qB:=
 qX (N:=["one","other","ways"]) E.Qv ⋯ λX I e O d U b f=>by subst I e O d U;exact by refine zf (jl b (zW (yl E) b (za (zw b) zc))) ?_;exact(zo (qo (xi b (i3.c (sJ b ⋯ E.Zb (zw b))) (λ_ _ _ a=>jI (qz (za (zD (PV.q (zD (zV a) ze)) (zW (YH E) a (za (zw a) (za (zw a) zc)))) (za (zD (PV.q (zD (zV a) ze)) (zW (vd E) a (za (zw a) (za (zw a) zc)))) zc)))))))
theorem Kh(E:E0 K mg):fx P w K mg base 6 "gaps_table" 2 k7:=
 qX (N:=["one","other","sizes","many","led_units"]) E.Qw ⋯ λX I e O d U a f=>by subst I e O d U;exact by refine zf (jl a (PO.v (xh (yD E) a (za (zw a) (za (zw a) zc))))) ?_;refine zf (jl a (zW (kh E) a (za (zw a) zc))) ?_;refine zf (js 4 (yj a (ji (PV.q (zD (PV.q (zW (xo E) a (za (zw a) zc))) ze))) (λ_ _ _ b=>zW (bL E) b (za (PO.v (xh (sX E) b (za (zw b) (za (zw b) (za (PO.v (xh (ZM E) b (za (zw b) (za (zw b) zc)))) zc))))) zc)))) ?_;exact(zo (zL (zW (qG E) a (za (jI (qz (za (zw a) (za (zW (kh E) a (za (PO.v (xh (QW E) a (za (zw a) (za (zw a) zc)))) zc)) (za (jV a ⋯ E.Z3 (zV a)) zc))))) zc))))
theorem YD(E:E0 K mg):fx P w K mg base 7 "ways_base" 2 yJ:=
 qX (N:=["one","other","sizes"]) E.Qx ⋯ λX I e O d U a f=>by subst I e O d U;exact by refine zf (Jh (zW (xp E) a (za (zw a) (za (zw a) zc)))) ?_;refine zf (jl a (PO.v (xh (yD E) a (za (zw a) (za (zw a) zc))))) ?_;refine zf (j5 (wy (zW (kh E) a (za (zw a) zc)) (AO a ⋯ E.G1)) (zo JH) jh) ?_;exact(zo (qo (xi a (ji (PO.q (xh (JQ E) a (za (zD (zV a) ze) (za (zW (Kh E) a (za (zw a) (za (zw a) zc))) zc))))) (λ_ _ _ b=>PO.v (xh (ZM E) b (za (zw b) (za (zw b) zc)))))))
theorem Ke(E:E0 K mg):DT P w K mg base 7 "ways_base" 2 qR:=
 mR (N:=["one","other","sizes"]) E.Qx ⋯ λX O d U b Y a=>by subst O d U b Y;have I:=a.ng (λ_ _=>False);have e:(X.ng λ_ _=>False).xe=(λ_ _=>False):=rfl;exact WU (VE (ke E) ⋯ I ⋯ (za (zw I) (za (zw I) zc))) (Jh (zW (xp E) I (za (zw I) (za (zw I) zc)))) (WU Fn (jl I (PO.v (xh (yD E) I (za (zw I) (za (zw I) zc))))) (vW (AJ (wy (zW (kh E) I (za (zw I) zc)) (AO I ⋯ E.G1)) (vW (WV I ⋯ E.G2 j4)) oh)))
theorem QV(E:E0 K mg):fx P w K mg base 1 "_law_kind" 1 xC:=
 qX (N:=["_law_caught","_law_told","_law_odd"]) E.Qy ⋯ λX I e O d U a b=>by subst I e O d U;exact by refine zf (yi a (jE (qz zc))) ?_;refine zf (j5 (xl (yh a ⋯ E.Z6 ⋯ E.Gf (zw a))) (zo (JI 1 a ⋯ j4)) jh) ?_;refine zf (j5 (xl (yh a ⋯ E.Z6 ⋯ E.Ge (zw a))) (zo (JI 1 a ⋯ j4)) jh) ?_;refine zf (kF b a (y9 (PO.v (jE (qz (za (yh a ⋯ E.Z6 ⋯ E.G3 (zw a)) (za (yh a ⋯ E.Z6 ⋯ E.G4 (zw a)) (za (yh a ⋯ E.Z6 ⋯ E.G5 (zw a)) zc))))))) (zo (yi a (wz (zV a) (PO.q (Xq (jE (qz (za j4 zc))) (X9 a ⋯ E.Z5 (zw a)))))))) ?_;refine zf (kF b a (y9 (PO.v (jE (qz (za (yh a ⋯ E.Z6 ⋯ E.G6 (zw a)) (za (yh a ⋯ E.Z6 ⋯ E.G7 (zw a)) (za (yh a ⋯ E.Z6 ⋯ E.G8 (zw a)) zc))))))) (zo (yi a (wz (zV a) (PO.q (Xq (jE (qz (za j4 zc))) (X9 a ⋯ E.Z5 (zw a)))))))) ?_;refine zf (kF b a (y9 (PO.v (jE (qz (za (yh a ⋯ E.Z6 ⋯ E.G9 (zw a)) (za (yh a ⋯ E.Z6 ⋯ E.Gc (zw a)) (za (yh a ⋯ E.Z6 ⋯ E.Ga (zw a)) zc))))))) (zo (yi a (wz (zV a) (PO.q (Xq (jE (qz (za j4 zc))) (X9 a ⋯ E.Z5 (zw a)))))))) ?_;refine zf (kF b a (y9 (PO.v (jE (qz (za (yh a ⋯ E.Z6 ⋯ E.Gb (zw a)) (za (yh a ⋯ E.Z6 ⋯ E.Gd (zw a)) (za (oj (rZ a ⋯ E.Z6 ⋯ E.Zc (zw a))) zc))))))) (zo (yi a (wz (zV a) (PO.q (Xq (jE (qz (za j4 zc))) (X9 a ⋯ E.Z5 (zw a)))))))) ?_;exact(zo (vy 1 (a.var ⋯)))
theorem W3(E:E0 K mg):fx P w K mg base 4 "image" 2 ZG:=
 qX (N:=["p","table"]) E.Qz ⋯ λX I d O b U a e=>by subst I d O b U;exact zo (qo (xh (vC E) a (za (zw a) (za (zD (zV a) ze) (za (zD (PV.q (zW (qG E) a (za (zw a) zc))) ze) zc)))))
theorem Zr(E:E0 K mg):fx P w K mg base 2 "columns" 2 kO:=
 qX (N:=["high","loads"]) E.h_ ⋯ λX I d O b U a e=>by subst I d O b U;exact zo (zL (zW (qG E) a (za (jI (qz (za (yO a ⋯ E.Z0 (zV a)) (za (zw a) (za (jV a ⋯ E.Z3 (zV a)) zc))))) zc)))
theorem yF(E:E0 K mg):fx P w K mg base 1 "has_room" 2 jZ:=
 qX (N:=["bar","room"]) E.i' ⋯ λX I d O b U a e=>by subst I d O b U;exact zo (zL (lE Fz BA An nV (zD (zV a) ze) (zw a) (jJ (zD (zV a) ze) (yO a ⋯ E.Z0 (PV.q (zD (zV a) ze))))))
theorem vX(E:E0 K mg):fx P w K mg base 2 "loads_in" 2 q9:=
 qX (N:=["bars","room"]) E.i_ ⋯ λX I e O d U b f=>by subst I e O d U;exact zo (qo (VI b (ji (zV b)) (λ_ _ _ a=>xl (zW (yF E) a (za (zw a) (za (zw a) zc)))) (λ_ _ _ a=>zD (PV.q (zD (zV a) ze)) (ZL (zw a) (zD (zV a) ze)))))
theorem vB(E:E0 K mg):fx P w K mg base 1 "lead_of" 1 qJ:=
 qX (N:=["load"]) E.j' ⋯ λX I e O d U b f=>by subst I e O d U;exact zo (zL (zD (PO.q (VI b (i3.c (eY b ⋯ E.Zb (zw b))) (λ_ _ _ a=>wx a (zw a) ze) (λ_ _ _ a=>zw a))) ze))
theorem Kf(E:E0 K mg):fx P w K mg base 3 "mixed_load" 4 k6:=
 qX (N:=["row","bars","times","room","there"]) E.j_ ⋯ λX I e O d U a f=>by subst I e O d U;exact by refine zf (js 4 (sA a (i3.c (vO a ⋯ E.Z9 (zw a) (zw a))) (λ_ _ _ b=>xl (zW (yF E) b (za (zw b) (za (zw b) zc)))) (λ_ _ _ b=>zw b))) ?_;exact(zo (zL (zW (fC E) a (za (zD (zV a) ze) (za (zW (Zr E) a (za (zD (PV.q (zD (zV a) ze)) (zw a)) (za (PO.v (xh (vX E) a (za (zw a) (za (zw a) zc)))) zc))) (za (zw a) zc))))))
theorem mh(E:E0 K mg):fx P w K mg base 4 "mixed" 3 KS:=
 qX (N:=["row","bars","times","first","loads"]) E.k_ ⋯ λX I e O d U a f=>by subst I e O d U;exact by refine zf (jl a (zD (zV a) (zW (vB E) a (za (zw a) zc)))) ?_;refine zf (js 4 (yj a (i3.c (j9 a ⋯ E.Z2 (yO a ⋯ E.Z0 (PV.q (zD (zV a) ze))))) (λ_ _ _ b=>zW (Kf E) b (za (zw b) (za (zw b) (za (zw b) (za (jJ (zD (zV b) ze) (zw b)) zc))))))) ?_;exact(zo (zL (jI (qz (za (zD (zV a) ze) (za (jV a ⋯ E.Z3 (zV a)) zc))))))
theorem bM(E:E0 K mg):fx P w K mg base 6 "settled" 3 wY:=
 qX (N:=["row","k","bars","way","table","special","base","leads"]) E.l_ ⋯ λX I e O d U a f=>by subst I e O d U;exact by refine zf (jl a (zD (PV.q (zD (PV.q (zD (zV a) ze)) (zw a))) ze)) ?_;refine zf (jl a (zD (PV.q (zD (PV.q (zD (zV a) ze)) (zw a))) ze)) ?_;refine zf (jl a (xk (qC a (zw a) j4) (PO.v (xh (JQ E) a (za (zD (zV a) ze) (za (zw a) zc)))) (PO.v (xh (W3 E) a (za (zD (zV a) ze) (za (zw a) zc)))))) ?_;refine zf (jl a (PO.v (xh (JN E) a (za (zD (zV a) ze) (za (zW (Zr E) a (za (zD (PV.q (zD (zV a) ze)) (zw a)) (za (PO.v (xh (vX E) a (za (zw a) (za (zw a) zc)))) zc))) (za (zw a) zc)))))) ?_;refine zf (jl a (lD a ⋯ E.Zd (xi a (ji (zV a)) (λ_ _ _ b=>jI (qz (za (zW (vB E) b (za (zw b) zc)) (za (zw b) zc))))))) ?_;exact(zo (qo (xi a (i3.c (sL a ⋯ E.Zb (zw a))) (λ_ _ _ b=>xk (sj b (zw b) (zw b)) (zW (mh E) b (za (zw b) (za (zw b) (za (AQ b (zw b) (zw b)) zc)))) (zw b)))))
theorem fB(E:E0 K mg):fx P w K mg base 4 "solved" 3 vG:=
 qX (N:=["p","table","load","wide","answer","line","place"]) E.m_ ⋯ λX I e O d U a f=>by subst I e O d U;exact by refine zf (jl a (zD (zV a) ze)) ?_;refine zf (yi a (Xq (jE (qz (za ze zc))) (zw a))) ?_;refine zf (kF f a (y9 (PO.v (xh (vC E) a (za (zw a) (za (jJ (zw a) ze) (za (PO.v (xi a (i3.c (vO a ⋯ E.Z9 (zD (zV a) ze) (zw a))) (λ_ _ _ b=>jJ (zw b) (jI (qz (za (zw b) zc)))))) zc)))))) (by refine zf (jl a (zW (vB E) a (za (zw a) zc))) ?_;refine zf (j5 (qC a (zw a) (zw a)) (zo (zL wt)) jh) ?_;exact(zo (eT 4 a ⋯ (zw a) (zD (zV a) (zw a)))))) ?_;exact(zo (zL (jV a ⋯ E.Z3 (zV a))))
theorem YE(E:E0 K mg):fx P w K mg base 5 "next_load" 3 xP:=
 qX (N:=["p","arrow","load","there"]) E.n_ ⋯ λX I d O b U a e=>by subst I d O b U;exact by refine zf (j5 (qC a (zD (zV a) ze) j4) (zo (zL (zW (fB E) a (za (zw a) (za (zD (zV a) ze) (za (zw a) zc)))))) jh) ?_;refine zf (jl a (zW (fC E) a (za (zw a) (za (zD (zV a) ze) (za (zw a) zc))))) ?_;exact(zo (zL (xk (xl (ot a ⋯ E.Za (zV a))) (zw a) wt)))
theorem VN(E:E0 K mg):fx P w K mg base 6 "taken_on" 3 yt:=
 qX (N:=["p","arrow","bar","load"]) E.o_ ⋯ λX I d O b U a e=>by subst I d O b U;exact by refine zf (jl a (zW (YE E) a (za (zw a) (za (zw a) (za (zD (PV.q (zD (zV a) ze)) (om ze)) zc))))) ?_;exact(zo (zL (xk (si (zw a) wt) (zw a) (jI (qz (za (zD (zV a) ze) (za (jJ (zD (zV a) ze) (jI (qz (za (zw a) zc)))) zc)))))))
theorem YF(E:E0 K mg):fx P w K mg base 6 "new_loads" 2 yK:=
 qX (N:=["p","arrow","leads"]) E.p_ ⋯ λX I e O d U a f=>by subst I e O d U;exact by refine zf (j5 (qC a (zD (zV a) ze) j4) (zo (qo (xh (JQ E) a (za (zw a) (za (zD (zV a) ze) zc))))) jh) ?_;refine zf (js 2 (yj a (ji (PO.q (xh (W3 E) a (za (zw a) (za (zD (zV a) ze) zc))))) (λ_ _ _ b=>zW (vB E) b (za (zw b) zc)))) ?_;exact(zo (qo (VI a (i3.c (eY a ⋯ E.Zb (zD (PV.q (zW (xo E) a (za (zD (PV.q (zD (zV a) ze)) ze) zc))) ze))) (λ_ _ _ b=>bz (zw b) (zV b)) (λ_ _ _ b=>zw b))))
theorem mi(E:E0 K mg):fx P w K mg base 7 "grown" 3 QI:=
 qX (N:=["row","k","bars","p","arrow","ended","here","old","new"]) E.q_ ⋯ λX I e O d U a f=>by subst I e O d U;exact by refine zf (jl a (zD (zV a) ze)) ?_;refine zf (jl a (zD (PV.q (zD (zV a) ze)) (zw a))) ?_;refine zf (js 5 (sA a (ji (zV a)) (λ_ _ _ b=>Zm (xl (zW (yF E) b (za (zw b) (za (zw b) zc))))) (λ_ _ _ b=>zw b))) ?_;refine zf (jl a (PO.v (xh (bM E) a (za (zw a) (za (zw a) (za (PO.v (VI a (ji (zV a)) (λ_ _ _ b=>xl (zW (yF E) b (za (zw b) (za (zw b) zc)))) (λ_ _ _ b=>zw b))) zc)))))) ?_;refine zf (js 7 (yj a (ji (zV a)) (λ_ _ _ b=>zW (VN E) b (za (zw b) (za (zw b) (za (zw b) zc)))))) ?_;refine zf (js 8 (yj a (ji (PO.q (xh (YF E) a (za (zw a) (za (zw a) zc))))) (λ_ _ _ b=>jI (qz (za (jJ (zw b) ze) (za (jI (qz (za (zw b) zc))) zc)))))) ?_;exact(zo (zL (PO.v (wz (zV a) (PV.q (xk (qC a (zD (zV a) ze) j4) (PO.v (wz (zV a) (zV a))) (PO.v (wz (zV a) (zV a)))))))))
theorem wB(E:E0 K mg):fx P w K mg base 1 "stretch_of" 1 j6:=
 qX (N:=["bar"]) E.r_ ⋯ λX I d O b U a e=>by subst I d O b U;exact zo (zL (jI (qz (za (zD (zV a) ze) (za (ZL (jJ (zD (zV a) ze) (yO a ⋯ E.Z0 (PV.q (zD (zV a) ze)))) ze) zc)))))
theorem YI(E:E0 K mg):fx P w K mg base 9 "all_grown" 1 yN:=
 qX (N:=["row","bars","k"]) E.s_ ⋯ λX I e O d U a f=>by subst I e O d U;exact by refine zf (js 1 (yj a (ji (PV.q (zD (PV.q (zW (xo E) a (za (zD (PV.q (zD (zV a) ze)) ze) zc))) ze))) (λ_ _ _ b=>jI (qz (za ze (za (jI (qz (za (zw b) zc))) zc)))))) ?_;refine zf (kF f a (j9 a ⋯ E.Z2 (yO a ⋯ E.Z0 (PV.q (zD (zV a) ze)))) (zo (jl a (zW (mi E) a (za (zw a) (za (zw a) (za (zw a) zc))))))) ?_;exact(zo (qo (lP (wB E) a ⋯ ⋯ E.Ze ⋯ (zV a))))
theorem bO(E:E0 K mg):fx P w K mg base 4 "back_of" 2 kP:=
 qX (N:=["p","table","many","same","base"]) E.t_ ⋯ λX I e O d U a f=>by subst I e O d U;exact by refine zf (jl a (zD (zV a) ze)) ?_;refine zf (j5 (wx a (zD (zV a) ze) (zw a)) (zo (zL wt)) jh) ?_;refine zf (jl a (zD (PV.q (zW (xo E) a (za (zw a) zc))) ze)) ?_;refine zf (jl a (PO.v (xh (vC E) a (za (zw a) (za (jJ (zw a) (zw a)) (za (PO.v (xi a (i3.c (vO a ⋯ E.Z9 (zD (zV a) ze) (zw a))) (λ_ _ _ b=>jJ (zw b) (zw b)))) zc)))))) ?_;refine zf (j5 (wx a (PO.v (xi a (ji (zV a)) (λ_ _ _ b=>Yx (zw b) Zo (va (zw b))))) (PO.v (sE a ⋯ E.Z7 (zV a)))) (zo (zL wt)) jh) ?_;exact(zo (zL (jI (qz (za (zw a) (za (zw a) (za (jV a ⋯ E.Z3 (PO.q (xi a (ji (zV a)) (λ_ _ _ b=>Yx (zw b) (va (zw b)) Zo)))) zc)))))))
theorem wF(E:E0 K mg):fx P w K mg base 10 "barred" 1 jQ:=
 qX (N:=["row","bars","backs","turns"]) E.u_ ⋯ λX I e O d U a f=>by subst I e O d U;exact by refine zf (jl a (PO.v (xh (YI E) a (za (zw a) zc)))) ?_;refine zf (js 2 (yj a (i3.c (eY a ⋯ E.Zb (zD (zV a) ze))) (λ_ _ _ b=>zW (Zr E) b (za (zw b) (za (PO.v (xh (vX E) b (za (zw b) (za (zw b) zc)))) zc))))) ?_;refine zf (js 3 (yj a (ji (zV a)) (λ_ _ _ b=>zW (bO E) b (za (zD (zV b) ze) (za (zw b) zc))))) ?_;exact(zo (zL (jI (qz (za (PO.v (xi a (ji (zV a)) (λ_ _ _ b=>zW (wB E) b (za (zw b) zc)))) (za (zw a) (za (zw a) zc)))))))
theorem Kg(E:E0 K mg):fx P w K mg base 1 "left_holds" 3 x9:=
 qX (N:=["ways","one","other"]) E.v_ ⋯ λX I d O b U a e=>by subst I d O b U;exact by refine zf (j5 (qC a (zD (zV a) ze) (zD (zV a) ze)) (zo (zL sg)) jh) ?_;exact(zo (zL (Yy a (kX (zw a) (ZL (oo a ⋯ E.Zf (zD (zV a) ze) (zD (zV a) ze)) ze)) (xk (oA (zD (zV a) ze) (zD (zV a) ze)) j4 j4))))
theorem QU(E:E0 K mg):fx P w K mg base 1 "right_holds" 3 xA:=
 qX (N:=["ways","one","other"]) E.w_ ⋯ λX I d O b U a e=>by subst I d O b U;exact by refine zf (j5 (qC a (zD (zV a) ze) (zD (zV a) ze)) (zo (zL sg)) jh) ?_;exact(zo (zL (Yy a (kX (zw a) (eI a ⋯ E.Z1 (zD (zV a) ze) (zD (zV a) ze))) (xk (wy (zD (zV a) ze) (zD (zV a) ze)) j4 j4))))
theorem VP(E:E0 K mg):fx P w K mg base 2 "bar_ways" 3 kz:=
 qX (N:=["ways","one","other"]) E.x_ ⋯ λX I d O b U a e=>by subst I d O b U;exact by refine zf (j5 (wy (oo a ⋯ E.Zf (zD (zV a) ze) (zD (zV a) ze)) (eI a ⋯ E.Z1 (zD (zV a) ze) (zD (zV a) ze))) (zo (zL ze)) jh) ?_;exact(zo (zL (xk (eP (X8 (xl (zW (Kg E) a (za (zw a) (za (zw a) (za (zw a) zc))))) (Jf (xl (zW (QU E) a (za (zw a) (za (zw a) (za (zw a) zc)))))))) ze ze)))
theorem vb(E:E0 K mg):fx P w K mg base 3 "ways_into" 3 qf:=
 qX (N:=["ways","bars","bar"]) E.y' ⋯ λX I e O d U b f=>by subst I e O d U;exact zo (zL (Yw b ⋯ E.Z8 (PO.q (xi b (ji (zV b)) (λ_ _ _ a=>zW (VP E) a (za (zw a) (za (zw a) (za (zw a) zc))))))))
theorem Ki(E:E0 K mg):fx P w K mg base 11 "count_ways" 2 ka:=
 qX (N:=["one","other","bars"]) E.Uo ⋯ λX I e O d U a f=>by subst I e O d U;exact by refine zf (Jh (zW (xp E) a (za (zw a) (za (zw a) zc)))) ?_;refine zf (jl a (zD (PV.q (zW (wF E) a (za (zw a) zc))) ze)) ?_;exact(zo (zL (Yw a ⋯ E.Z8 (PO.q (xi a (ji (PV.q (zD (PV.q (zW (wF E) a (za (zw a) zc))) ze))) (λ_ _ _ b=>zW (vb E) b (za (zW (yl E) b (za (zw b) zc)) (za (zw b) (za (zw b) zc)))))))))
theorem QT(E:E0 K mg):DT P w K mg base 11 "count_ways" 2 qZ:=
 mR (N:=["one","other","bars"]) E.Uo ⋯ λX O d U b Y a=>by subst O d U b Y;have I:=a.ng (λ_ _=>False);have e:(X.ng λ_ _=>False).xe=(λ_ _=>False):=rfl;exact vW (VE (ke E) ⋯ I ⋯ (za (zw I) (za (zw I) zc)))
theorem vc(E:E0 K mg):fx P w K mg base 4 "room_by_room" 3 qI:=
 qX (N:=["p","ones","others"]) E.y_ ⋯ λX I e O d U a f=>by subst I e O d U;exact zo (qo (xi a (i3.c (vO a ⋯ E.Z9 (zw a) (zw a))) (λ_ _ _ b=>zW (Zp E) b (za (zw b) (za (zw b) (za (zw b) zc))))))
theorem JL(E:E0 K mg):fx P w K mg base 1 "stretches_of" 1 qk:=
 qX (N:=["many","found","i"]) E.z_ ⋯ λX I e O d U a f=>by subst I e O d U;exact by refine zf (yi a (jE (qz zc))) ?_;refine zf (kF f a (j9 a ⋯ E.Z2 (zw a)) (zo (sy 1 a ⋯ (xi a (i3.c (W0 a ⋯ E.Z2 (zw a) (zw a))) (λ_ _ _ b=>jI (qz (za (zw b) (za (zw b) zc)))))))) ?_;exact(zo (vy 1 (a.var ⋯)))
theorem Zt(E:E0 K mg):fx P w K mg base 4 "are_told_apart" 4 qN:=
 qX (N:=["ways","ones","others","bar"]) E.A_ ⋯ λX I d O b U a e=>by subst I d O b U;exact zo (zL (Fp a (zW (vb E) a (za (zw a) (za (zw a) (za (zw a) zc)))) (zW (vb E) a (za (zw a) (za (zw a) (za (zw a) zc))))))
theorem mj(E:E0 K mg):fx P w K mg base 5 "apart" 3 QK:=
 qX (N:=["ways","ones","others","stretches","stretch","told"]) E.B_ ⋯ λX I e O d U a f=>by subst I e O d U;exact by refine zf (jl a (PO.v (xh (JL E) a (za (jJ (Zl a ⋯ E.Z0 (zw a)) ze) zc)))) ?_;refine zf (jl a (zD (PO.q (VI a (ji (zV a)) (λ_ _ _ b=>wx b (wu b (zV b) (zw b)) (wu b (zV b) (zw b))) (λ_ _ _ b=>zw b))) ze)) ?_;refine zf (jl a (zD (PO.q (VI a (ji (zV a)) (λ_ _ _ b=>xl (zW (Zt E) b (za (zw b) (za (zw b) (za (zw b) (za (zw b) zc)))))) (λ_ _ _ b=>zw b))) ze)) ?_;exact(zo (zL (jI (qz (za j4 (za (zw a) (za (wu a (zV a) (zw a)) (za (wu a (zV a) (zw a)) (za (zw a) zc)))))))))
theorem mm(E:E0 K mg):fx P w K mg base 11 "alike" 2 we:=
 qX (N:=["one","other","first","second","there","back"]) E.Up ⋯ λX I d O b U a e=>by subst I d O b U;exact by refine zf (Jh (zW (xp E) a (za (zw a) (za (zw a) zc)))) ?_;refine zf (jl a (zW (wF E) a (za (zw a) zc))) ?_;refine zf (jl a (zW (wF E) a (za (zw a) zc))) ?_;refine zf (j5 (wx a (zD (zV a) ze) (zD (zV a) ze)) (zo (zL (zW (mj E) a (za (zW (yl E) a (za (zw a) zc)) (za (zD (zV a) ze) (za (zD (zV a) ze) zc)))))) jh) ?_;refine zf (jl a (PO.v (xh (vc E) a (za (zD (zV a) ze) (za (zD (zV a) ze) (za (zD (zV a) ze) zc)))))) ?_;refine zf (jl a (PO.v (xh (vc E) a (za (zD (zV a) ze) (za (zD (zV a) ze) (za (zD (zV a) ze) zc)))))) ?_;exact(zo (zL (jI (qz (za j4 (za (zw a) (za (zw a) zc)))))))
theorem fz(E:E0 K mg):DT P w K mg base 11 "alike" 2 ZF:=
 mR (N:=["one","other","first","second","there","back"]) E.Up ⋯ λX O d U b Y a=>by subst O d U b Y;have I:=a.ng (λ_ _=>False);have e:(X.ng λ_ _=>False).xe=(λ_ _=>False):=rfl;exact vW (VE (ke E) ⋯ I ⋯ (za (zw I) (za (zw I) zc)))
theorem JP(E:E0 K mg):fx P w K mg base 12 "_law_asked" 3 zN:=
 FO (N:=["_law_one","_law_other","_law_what","_law_caught","_law_found","e"]) E.C' ⋯ λX O e U d Y a f b=>by subst O e U d Y;exact by refine zf (jl a wt) ?_;refine zf (jl a wt) ?_;refine zf (lJ 5 3 ⋯ a b ⋯ ⋯ ⋯ ⋯ ⋯ E.Gg (have I:=a.ng (λ_ _=>False);j5 (qC I (zw I) ze) (zo (jl I (PO.v (xh (YD E) I (za (zw I) (za (zw I) zc)))))) (zo (j5 (qC I (zw I) ze) (zo (jl I (zW (Ki E) I (za (zw I) (za (zw I) zc))))) (zo (jl I (zW (mm E) I (za (zw I) (za (zw I) zc)))))))) (have I:=a.ng (λ_ _=>False);Bq (qC I (zw I) ze) (fw a ⋯ (Ke E) ⋯ (za (zw I) (za (zw I) zc))) (Bq (qC I (zw I) ze) (fw a ⋯ (QT E) ⋯ (za (zw I) (za (zw I) zc))) (fw a ⋯ (fz E) ⋯ (za (zw I) (za (zw I) zc)))))) ?_;refine zf (j5 (bA (zw a) wt) (zo (zL (jI (qz (za (PO.v (xh (QV E) a (za (zw a) zc))) (za wt zc)))))) jh) ?_;exact(zo (zL (jI (qz (za (PO.v (jE (qz zc))) (za (zw a) zc))))))
theorem Hc(D:L2.E1 K "law" "law" (top 88) f fd)(E:E0 K mg):rb P w K mg base t5 13 f fd ["_law_script"] (u3 K 1 w5):=
 FP (N:=["_law_script","_law_cell_here","_law_p","_law_ways_here","_law_q","_law_wise","_law_odd","_law_one","_law_other","_law_told"]) D ⋯ λX I e O d U a g=>by subst I e O d U;exact by refine zf (jl a (zW (yE E) a (za (zw a) (za ze zc)))) ?_;refine zf (jl a (zD (PO.q (jE (qz (za ze (za ze (za ze (za ze zc))))))) (qT (zw a) ze))) ?_;refine zf (jl a (zW (JO E) a (za (vM (zw a) ze) (za (jJ ze (qT (vM (zw a) ze) ze)) zc)))) ?_;refine zf (WX (GT a) (zW (ZW E) a (za (zw a) (za (zw a) (za (zw a) (za (zW (yE E) a (za (zw a) (za ze zc))) zc)))))) ?_;refine zf (jl a (qT (vM (zw a) ze) ze)) ?_;refine zf (jl a (zW (wD E) a (za (zw a) (za ze (za (zw a) (za (zw a) (za (zw a) zc))))))) ?_;refine zf (jl a (zW (wD E) a (za (zw a) (za ze (za (zw a) (za (zw a) (za (zD (PO.q (jE (qz (za ze (za ze (za ze (za ze zc))))))) (zw a)) zc))))))) ?_;refine zf (js 9 (yj a (i3.c (j9 a ⋯ E.Z2 ze)) (λ_ _ _ b=>zW (JP E) b (za (zw b) (za (zw b) (za (zw b) zc)))))) ?_;refine zf (j5 (wx a (jI (qz (za (zw a) (za (zw a) zc)))) (jI (qz (za (zw a) (za (zw a) zc))))) (zo (zL (Yy a (PO.v (xi a (ji (zV a)) (λ_ _ _ b=>zD (zV b) ze))) (PO.v (Xq (jE (qz (za (PO.v (jE (qz (za j4 zc)))) zc))) ze))))) jh) ?_;exact(zo (zL (zW (Zq E) a (za (zw a) (za (zw a) (za (zD (zV a) ze) (za (zD (zV a) ze) (za (zD (zV a) ze) zc))))))))
end
end DL
namespace PySem.W.Fast
def tw17923672679392559471:=0
def tw13706713523234301896:=0
def tw5910712603560894963:=0
def tw5421928941292981027:=0
def tw782778507305986800:=0
def tw11838669130204295134:=0
def tw14167545424961695919:=0
def tw10870082532501943400:=0
def tw15162185710415075807:=0
def tw7507441586939384222:=0
def tw9115418032850436405:=0
def tw8768692847239752650:=0
def tw9555372344964322067:=0
def tw16984330120399259869:=0
def tw12576643254802115391:=0
def tw17593781658673050537:=0
def tw2748151801039752058:=0
def tw4075728592062707672:=0
def tw4836868274802940239:=0
def tw14166076987109685736:=0
def tw11707761927823070167:=0
def tw3425430866718942841:=0
def tw1105024080752918216:=0
def tw7113290161703600407:=0
def tw12674600552781844741:=0
def tw2494772826916805301:=0
def tw444529945189272104:=0
def tw2019234655177201991:=0
def tw16237033495194930373:=0
def tw10349172209457563477:=0
def tw15950428305678872135:=0
def tw17825421377548333200:=0
def tw5903262794962688507:=0
def tw8863081961632594288:=0
def tw4566846988003521661:=0
def tw16484112934730410356:=0
def tw4402595715181298534:=0
def tw13509467029073329145:=0
def tw9105134111219927752:=0
def tw9241644706354581219:=0
def tw12621276473101692222:=0
def tw1122647572759892704:=0
def tw3872907373871357838:=0
def tw4642694374532835676:=0
def tw9611247601409173408:=0
def tw13577869056949481230:=0
def tw12127791541551175700:=0
def tw7352860320151950480:=0
def tw17942636417030118991:=0
def tw12147300505633691834:=0
def tw13442432918174916865:=0
def tw7398530885978594817:=0
def tw13332953867845782855:=0
def tw13896068725767078443:=0
def tw17460131367296798863:=0
def tw528537992775097087:=0
def tw9374555327819736262:=0
def tw9150343000392183717:=0
def tw12347320229183654798:=0
def tw13982182890138100731:=0
def tw4270748813994965584:=0
def tw11665822393486400491:=0
def tw11956472818354029944:=0
def tw6106580757681733246:=0
def tw16818647267949014896:=0
def tw2851171506909438573:=0
def tw4096776389539215996:=0
def tw13929423650077328380:=0
def tw7414808048337819561:=0
def tw6086604470540450947:=0
def tw14793135193080543395:=0
def tw11958744954540766745:=0
def tw5758382803127302138:=0
def tw3490273063068407220:=0
def tw17696095539586144720:=0
def tw7093968536925963359:=0
def tw14828851931433850209:=0
def tw16370535075328540346:=0
def tw3463809218485151750:=0
def tw10568564877448085742:=0
def tw9402899658144011638:=0
def tw2403967187349623031:=0
def tw9784721099241329249:=0
def tw1017801954505698089:=0
def tw12367288538075164564:=0
def tw14316153627562456264:=0
def tw10996890037294530876:=0
def tw8424041114285652182:=0
def tw617564042840535290:=0
def tw1793013209184887556:=0
def tw8340685652495178563:=0
def tw7397074397137014408:=0
def tw2031847789991755761:=0
def tw5932900739627263073:=0
def tw5180589086621719581:=0
def tw16441939463068032245:=0
def tw12567406190912650697:=0
def tw54042648525307055:=0
def tw2483531286161697183:=0
def tw1733828333092883558:=0
def tw12017410186875097601:=0
def tw7293256483236257396:=0
def tw711143106268630429:=0
def tw15141544722542136306:=0
def tw17322679042279858662:=0
def tw11240587988368159103:=0
def tw17507362925072872930:=0
def tw4822742987884400536:=0
def tw12475226064661271428:=0
def tw774562976259061436:=0
def tw8753323966460853840:=0
def tw5358134620834436280:=0
def tw3506088644193796591:=0
def tw10208985287520106625:=0
def tw16030476042198289078:=0
def tw12414773263493446591:=0
def tw9516093699615351475:=0
def tw313117577772194942:=0
def tw5848261982913072068:=0
def tw7871584485202502559:=0
def tw26818007650324551:=0
def tw17389670526506022213:=0
def tw3350064598393513856:=0
def tw4317141492725194721:=0
def tw3602859414539175613:=0
def tw9281602193230399655:=0
def tw4119510215096660710:=0
def tw17143804166281158308:=0
def tw5275384460860300541:=0
def tw9519255354145514194:=0
def tw9084950409250210304:=0
def tw16685849995579889917:=0
def tw12978493039500286684:=0
def tw1915043432682315838:=0
def tw10074936177736473919:=0
def tw17621845029288562687:=0
def tw12800020281725704585:=0
def tw14946989145360732791:=0
def tw17162359430376373949:=0
def tw13367962568761786758:=0
def tw936989891825454202:=0
def tw15652314719387588499:=0
def tw3712292508912221948:=0
def tw6161865399945008076:=0
def tw13166514410268369595:=0
def tw14207688776539435507:=0
def tw15103597853372188911:=0
def tw8082996483689845049:=0
def tw12604815461631360021:=0
def tw18317506639931262657:=0
def tw13618044121427898591:=0
def tw14048805074509388291:=0
def tw1084877649121512635:=0
def tw9854595575297266307:=0
def tw18021968648990526500:=0
def tw303411379483363450:=0
def tw16164214544680424578:=0
def tw4725337308634810368:=0
def tw12045631438254052793:=0
def tw4324594441538145148:=0
def tw10681322203711828376:=0
def tw6440425164747664029:=0
def tw5039302327792487395:=0
def tw150617663683568595:=0
def tw7471805126927230217:=0
def tw17105229456414272382:=0
def tw14477525880968413827:=0
def tw7800811909789363627:=0
def tw18240991748524788370:=0
def tw16062113426090364789:=0
def tw14168328003623233477:=0
def tw9580449207657852163:=0
def tw735782112606793448:=0
def tw16216787897581243152:=0
def tw1388112381454634953:=0
def tw2411794491865757350:=0
def tw735557666285770915:=0
def tw142357867721461288:=0
def tw11955980841443139598:=0
def tw1146125081405220113:=0
def tw17708734629365666560:=0
def tw14250238293882532403:=0
def tw13006515419144414007:=0
def tw14948239471432838854:=0
def tw18209500274571180760:=0
def tw15743888332222793799:=0
def tw7887160052556604708:=0
def tw16451612811756347843:=0
def tw13781001912845611801:=0
def tw9419875771594557011:=0
def tw6394098621800032238:=0
def tw4585032470840400909:=0
def tw16534302868312489911:=0
def tw9064989651373173726:=0
def tw13122874746841991726:=0
def tw15702192732825642640:=0
def tw17456504774011018102:=0
def tw9787683040772464950:=0
def tw4542950673195952686:=0
def tw3539958997442575662:=0
def tw1572769575184261918:=0
def tw13004708334597340244:=0
def tw12773633110125190320:=0
def tw9815619784193812202:=0
def tw8977757397404785603:=0
def tw17614403407991922719:=0
def tw5950765763702391536:=0
def tw9310621540278613927:=0
def tw3962808180611993305:=0
def tw15485576639246236049:=0
def tw4630433998494047516:=0
def tw3721731597127765693:=0
def tw5237071823550074987:=0
def tw8608864428896688613:=0
def tw17923185896246013012:=0
def tw16851021533486117427:=0
def tw16146989892226115436:=0
def tw11813055666749983231:=0
def tw15750169349810821619:=0
def tw17283053951240895536:=0
def tw14142857074270122764:=0
def tw11217340240879278859:=0
def tw9072391611665532751:=0
def tw4346846118251436601:=0
def tw7584954985854481792:=0
def tw419699853080140130:=0
def tw2262962966034632582:=0
def tw13376873954062611045:=0
def tw10955961331805082425:=0
def tw934522066878162996:=0
def tw3957895546657888208:=0
def tw2312812166004594750:=0
def tw8202430651389198195:=0
def tw4311258538011390199:=0
def tw9929727238594054738:=0
def tw9224793194870577552:=0
def tw4721802910120091878:=0
def tw3115799036441166606:=0
def tw15901485304141634068:=0
def tw9308955109481928598:=0
def tw9273841742597443633:=0
def tw17644926067629887808:=0
def tw17093091987636827575:=0
def tw15556169606493090633:=0
def tw15538020285029304558:=0
def tw4866914228095947658:=0
def tw16836345039450880128:=0
def tw3406617090672893451:=0
def tw14384764457069455651:=0
def tw15371687503964495060:=0
def tw8859534826747077145:=0
def tw14540172248448666830:=0
def tw5842383258615798167:=0
def tw15356632088655293243:=0
def tw13314803499800881340:=0
def tw10812724224866165306:=0
def tw10816047066125215196:=0
def tw6215704365940506259:=0
def tw10235153505813994389:=0
def tw11635534244084634711:=0
def tw11265402861749587015:=0
def tw4362739168795105512:=0
def tw10974323092456958029:=0
def tw9718633935975595381:=0
def tw14684504860055063706:=0
def tw8700447340886507898:=0
def tw3208652514717884864:=0
def tw5227562034552204630:=0
def tw15901895448001036313:=0
def tw7874528240973819086:=0
def tw4826507399558945346:=0
def tw4369596602090932828:=0
def tw3502667940861409662:=0
def tw10154882570179232448:=0
def tw16231181221583143367:=0
def tw4326269440154117391:=0
def tw11163774478297173005:=0
def tw1317502517948996154:=0
def tw11957541917207084164:=0
def tw14656193174295529105:=0
def tw16346150083184579823:=0
def tw13749213208578452291:=0
def tw8096965529515040796:=0
def tw3221245023904277142:=0
def tw1955851297013375781:=0
def tw17559164107516850895:=0
def tw14780460286162562286:=0
def tw8755380820783317426:=0
def tw6658866490932219429:=0
def tw5987749498646852543:=0
def tw4926262206161946875:=0
def tw4242847406474154601:=0
def tw399811915615216683:=0
def tw3631917234551465903:=0
def tw2816152271959048128:=0
def tw1857286600492554794:=0
def tw18186781642014860895:=0
def tw17240095999829185772:=0
def tw16933283441699181731:=0
def tw16156870955906104085:=0
def tw15117255661222526165:=0
def tw15088212143762343214:=0
def tw13151673727580386775:=0
def tw12945626957163323529:=0
def tw11784146515465002477:=0
def tw11772894504644930774:=0
def tw11446567212059537886:=0
def tw10801761305959469329:=0
def tw6045648026447750341:=0
def tw17645398751592273907:=0
def tw12223925140891026950:=0
def tw11525316518721209317:=0
def tw3102750095965648876:=0
def tw1045465178351086179:=0
def tw9536163943559656492:=0
def tw940135044666391983:=0
def tw9001335159956932324:=0
def tw8968447921765134870:=0
def tw8582447814020883511:=0
def tw7298171909104219618:=0
def tw7182467726471501673:=0
def tw5833934070382602963:=0
def tw4996835319375049773:=0
def tw4976218960436709295:=0
def tw4394649579352126457:=0
def tw2434889046512390831:=0
def tw2076400733770771611:=0
def tw2046671748749412038:=0
def tw17175400819737639488:=0
def tw17130852211799346419:=0
def tw17029267460349829249:=0
def tw16062487362721744786:=0
def tw1421991234374699862:=0
def tw14217511373447239600:=0
def tw14064040020224673669:=0
def tw14025034475896132794:=0
def tw13641306527345124773:=0
def tw13385257946849816995:=0
def tw12898430700774583677:=0
def tw11220385156583009237:=0
def tw11093779064599219221:=0
def tw10007424464039496530:=0
def tw850567254348212700:=0
def tw3681493267760177378:=0
def tw11488444607952846553:=0
def tw14868403593797420201:=0
def tw8348932892850108558:=0
def tw5884165253566086070:=0
def tw3293136188016258174:=0
def tw2098715106403482241:=0
def tw18409338694612346823:=0
def tw1743207345312546804:=0
def tw13875444848473721034:=0
def tw9700377539926371055:=0
def tw7866872290231677055:=0
def tw3668842085916226298:=0
def tw17608793696097020037:=0
def tw11993341835340768564:=0
def tw5229092188099211001:=0
def tw17773180594772799981:=0
def tw4715744056549820639:=0
def tw11202115218905186592:=0
def tw6007490159557965996:=0
def tw5257371061841484224:=0
def tw4849363322767649600:=0
def tw13810388766651619238:=0
def tw13319305126487309235:=0
def tw12890617958524359634:=0
def tw11231186906301961464:=0
def tw9737030872473217257:=0
def tw6979164166245289511:=0
end PySem.W.Fast
open PySem PySem.W PyProof.Rows
set_option maxRecDepth 100000 in
set_option maxHeartbeats 0 in
theorem PySem.Challenge.cw_barsplit_k37_ways_refused_holds : PySem.Challenge.rw_barsplit_k37_ways_refused.Holds := by
 w_on;o_law;k_head;(case hw=>w_witness2)
 k_fill
 refine L2.Ed (l:=_o) (n:=63) (k:=13) (x:="_law_script") (CX:=L2.t5) (sp:=λK=>DL.u3 K 1 DL.w5) rfl ⋯ rfl ⟨rfl,by decide,by decide⟩ (λw h Y=>PySem.W.kIn_of Y) ?F ?S ?C
 case S=>exact λK H a ns U hO hS=>DL.Ey hS (DL.FI ns U)
 case C=>exact λ_ _ _ _ z=>z
 case F=>
  intro w mg fa h I G a2;have O:DL.Wr (L2.o8 I)=da:=by kernel_rfl
  have a7:DL.XI (L2.o8 I) mg "NoArrow":=DL.HF I G O ⋯;have a8:DL.XI (L2.o8 I) mg "NoLine":=DL.HF I G O ⋯;have a9:DL.XI (L2.o8 I) mg "NoPrime":=DL.HF I G O ⋯;have aa:DL.XI (L2.o8 I) mg "NoRoom":=DL.HF I G O ⋯;have ab:DL.XI (L2.o8 I) mg "NoRow":=DL.HF I G O ⋯;have ac:DL.XI (L2.o8 I) mg "NoTable":=DL.HF I G O ⋯;have ae:DL.XI (L2.o8 I) mg "NoText":=DL.HF I G O ⋯;have ak:DL.XI (L2.o8 I) mg "NoTurn":=DL.HF I G O ⋯;have al:DL.XI (L2.o8 I) mg "NoWidths":=DL.HF I G O ⋯;have am:DL.XI (L2.o8 I) mg "Nothing":=DL.HF I G O ⋯;have an:DL.XI (L2.o8 I) mg "Nought":=DL.HF I G O ⋯;have ap:DL.XS (L2.o8 I) mg:=DL.HE I G (by kernel_rfl);have as:DL.XI (L2.o8 I) mg "TooMany":=DL.HF I G O ⋯;have ax:DL.XI (L2.o8 I) mg "Unlike":=DL.HF I G O ⋯;have b0:DL.XC (L2.o8 I) mg "TooMany":=DL.HG I G O ⋯ (by kernel_rfl);have b1:DL.XC (L2.o8 I) mg "Unlike":=DL.HG I G O ⋯ (by kernel_rfl);have b2:DL.GL (L2.o8 I) mg "MOST_NUMBERS" (.int 60):=by
   dsimp only[L2.o8];refine' DL.Hd I G ?a
   (case a=>k_is)
  have E:DL.E0 (L2.o8 I) mg:=by
   constructor
   all_goals first
    |assumption
    |exact PySem.W.mg_none_of I G (by k_is)
    |(dsimp only[L2.o8];refine' DL.Hj I G ?a ?l ?c ?k ?b;(case a=>k_is);(case l=>k_is);(case c=>k_is);(case k=>k_is);(case b=>intro _ _ _ _ _ _ us U;first|(obtain⟨_,rfl⟩:=DL.HY U;rfl)|(obtain⟨_,_,rfl⟩:=DL.HX U;rfl)|(obtain⟨_,_,_,rfl⟩:=DL.Iu U;rfl)|(obtain⟨_,_,_,_,rfl⟩:=DL.Ir U;rfl)|(obtain⟨_,_,_,_,_,rfl⟩:=DL.Iq U;rfl)))
  obtain⟨f,fd,Fu,hb,hm⟩:=E.C_.ex;have e0:=a2.symm.trans hm;cases e0;refine⟨fd,λs u=>.of_eq (hb [u] rfl),λbase kb nb=>?_⟩;exact DL.Hc Fu E
